import Derived.Shelf.LaysM
import Derived.Shelf.Strconv.Itoa3
import Derived.Shelf.Strconv.Itoa4
import Derived.Test.YtikiaijgcjjloaaDoorProg
import Derived.Test.YtikiaijgcjjloaaDoorPart2

/- The contracts of strconv.FormatInt (base 10) and strconv.Itoa at this dump, laid by the shelf's own commands in plain words and cut to these two. -/
namespace Go.Proofs
open Go.Shelf
def Tryd.laysM173_ren : Go.Shelf.Ren := ⟨fun | 173 => 60 | 246 => 64 | 283 => 70 | 284 => 71 | 285 => 72 | 286 => 73 | 129 => 90 | 317 => 89 | 318 => 91 | 319 => 92 | 320 => 93 | 337 => 107 | 338 => 108 | n => n, fun | 2 => 2 | 3 => 3 | 9 => 9 | 4 => 4 | 171 => 114 | 0 => 0 | 53 => 115 | 37 => 113 | 5 => 5 | 173 => 118 | 212 => 129 | 51 => 130 | 20 => 20 | 213 => 131 | 46 => 133 | 232 => 154 | 233 => 155 | n => n, fun | 17 => 0 | 18 => 1 | 19 => 2 | n => n⟩
theorem Tryd.laysM173 : Go.Proofs.LaysM.n173 Tryd.prog Tryd.laysM173_ren := {
  mixed := by kernel_rfl
  f129 := Tryd.func90.trans (congrArg some (by kernel_rfl))
  f173 := Tryd.func60.trans (congrArg some (by kernel_rfl))
  f246 := Tryd.func64.trans (congrArg some (by kernel_rfl))
  f283 := Tryd.func70.trans (congrArg some (by kernel_rfl))
  f284 := Tryd.func71.trans (congrArg some (by kernel_rfl))
  f285 := Tryd.func72.trans (congrArg some (by kernel_rfl))
  f286 := Tryd.func73.trans (congrArg some (by kernel_rfl))
  f317 := Tryd.func89.trans (congrArg some (by kernel_rfl))
  f318 := Tryd.func91.trans (congrArg some (by kernel_rfl))
  f319 := Tryd.func92.trans (congrArg some (by kernel_rfl))
  f320 := Tryd.func93.trans (congrArg some (by kernel_rfl))
  f337 := Tryd.func107.trans (congrArg some (by kernel_rfl))
  f338 := Tryd.func108.trans (congrArg some (by kernel_rfl))
  t0 := Tryd.underlying0
  a0 := Tryd.isAgg0
  z0 := Tryd.sizeOf0
  v0 := Tryd.zeroValue0
  t2 := Tryd.underlying2
  a2 := Tryd.isAgg2
  z2 := Tryd.sizeOf2
  v2 := Tryd.zeroValue2
  t3 := Tryd.underlying3
  a3 := Tryd.isAgg3
  z3 := Tryd.sizeOf3
  v3 := Tryd.zeroValue3
  t4 := Tryd.underlying4
  a4 := Tryd.isAgg4
  z4 := Tryd.sizeOf4
  v4 := Tryd.zeroValue4
  t5 := Tryd.underlying5
  a5 := Tryd.isAgg5
  z5 := Tryd.sizeOf5
  v5 := Tryd.zeroValue5
  t9 := Tryd.underlying9
  a9 := Tryd.isAgg9
  z9 := Tryd.sizeOf9
  v9 := Tryd.zeroValue9
  t20 := Tryd.underlying20
  a20 := Tryd.isAgg20
  z20 := Tryd.sizeOf20
  v20 := Tryd.zeroValue20
  t37 := Tryd.underlying113
  a37 := Tryd.isAgg113
  z37 := Tryd.sizeOf113
  v37 := Tryd.zeroValue113
  t46 := Tryd.underlying133
  a46 := Tryd.isAgg133
  z46 := Tryd.sizeOf133
  v46 := Tryd.zeroValue133
  t51 := Tryd.underlying130
  a51 := Tryd.isAgg130
  z51 := Tryd.sizeOf130
  v51 := Tryd.zeroValue130
  t53 := Tryd.underlying115
  a53 := Tryd.isAgg115
  z53 := Tryd.sizeOf115
  v53 := Tryd.zeroValue115
  t171 := Tryd.underlying114
  a171 := Tryd.isAgg114
  z171 := Tryd.sizeOf114
  v171 := Tryd.zeroValue114
  t173 := Tryd.underlying118
  a173 := Tryd.isAgg118
  z173 := Tryd.sizeOf118
  v173 := Tryd.zeroValue118
  t212 := Tryd.underlying129
  a212 := Tryd.isAgg129
  z212 := Tryd.sizeOf129
  v212 := Tryd.zeroValue129
  t213 := Tryd.underlying131
  a213 := Tryd.isAgg131
  z213 := Tryd.sizeOf131
  t232 := Tryd.underlying154
  a232 := Tryd.isAgg154
  z232 := Tryd.sizeOf154
  v232 := Tryd.zeroValue154
  t233 := Tryd.underlying155
  a233 := Tryd.isAgg155
  z233 := Tryd.sizeOf155
  v233 := Tryd.zeroValue155
  g17 := by kernel_rfl
  g18 := by kernel_rfl
  g19 := by kernel_rfl
  i0 := by kernel_rfl
  i2 := by kernel_rfl
  i3 := by kernel_rfl
  i4 := by kernel_rfl
  i5 := by kernel_rfl
  i9 := by kernel_rfl
  i20 := by kernel_rfl
  i37 := by kernel_rfl
  i46 := by kernel_rfl
  i51 := by kernel_rfl
  i53 := by kernel_rfl
  i171 := by kernel_rfl
  i173 := by kernel_rfl
  i212 := by kernel_rfl
  i232 := by kernel_rfl
  i233 := by kernel_rfl
  m17 := by kernel_rfl
  m18 := by kernel_rfl
  m19 := by kernel_rfl }
open Go.RowKit Go.Sort Go.Lib in
theorem Tryd.strconv_FormatInt_10 (n : Int) (h0 : -9223372036854775808 ≤ n) (h1 : n ≤ 9223372036854775807) (w : World) (htab : Lib.TabIs Tryd.prog w "internal/strconv.uint64pow10" .u64 Lib.pow10Tab) :
    Calls Tryd.prog 60 #[.int .i64 n, .int .i64 10] w fun e w' => e = .returned (.string ⟨(Lib.itoa n).toArray⟩) ∧ ∃ k os, w' = grow (w.drewN k) os := Any.strconv_FormatInt_10 Tryd.laysM173 n h0 h1 w htab
def Tryd.laysM171_ren : Go.Shelf.Ren := ⟨fun | 171 => 39 | 243 => 56 | 246 => 64 | 283 => 70 | 284 => 71 | 285 => 72 | 286 => 73 | 129 => 90 | 317 => 89 | 318 => 91 | 319 => 92 | 320 => 93 | 337 => 107 | 338 => 108 | n => n, fun | 3 => 3 | 9 => 9 | 2 => 2 | 4 => 4 | 171 => 114 | 0 => 0 | 53 => 115 | 37 => 113 | 5 => 5 | 173 => 118 | 212 => 129 | 51 => 130 | 20 => 20 | 213 => 131 | 46 => 133 | 232 => 154 | 233 => 155 | n => n, fun | 17 => 0 | 18 => 1 | 19 => 2 | n => n⟩
theorem Tryd.laysM171 : Go.Proofs.LaysM.n171 Tryd.prog Tryd.laysM171_ren := {
  mixed := by kernel_rfl
  f129 := Tryd.func90.trans (congrArg some (by kernel_rfl))
  f171 := Tryd.func39.trans (congrArg some (by kernel_rfl))
  f243 := Tryd.func56.trans (congrArg some (by kernel_rfl))
  f246 := Tryd.func64.trans (congrArg some (by kernel_rfl))
  f283 := Tryd.func70.trans (congrArg some (by kernel_rfl))
  f284 := Tryd.func71.trans (congrArg some (by kernel_rfl))
  f285 := Tryd.func72.trans (congrArg some (by kernel_rfl))
  f286 := Tryd.func73.trans (congrArg some (by kernel_rfl))
  f317 := Tryd.func89.trans (congrArg some (by kernel_rfl))
  f318 := Tryd.func91.trans (congrArg some (by kernel_rfl))
  f319 := Tryd.func92.trans (congrArg some (by kernel_rfl))
  f320 := Tryd.func93.trans (congrArg some (by kernel_rfl))
  f337 := Tryd.func107.trans (congrArg some (by kernel_rfl))
  f338 := Tryd.func108.trans (congrArg some (by kernel_rfl))
  t0 := Tryd.underlying0
  a0 := Tryd.isAgg0
  z0 := Tryd.sizeOf0
  v0 := Tryd.zeroValue0
  t2 := Tryd.underlying2
  a2 := Tryd.isAgg2
  z2 := Tryd.sizeOf2
  v2 := Tryd.zeroValue2
  t3 := Tryd.underlying3
  a3 := Tryd.isAgg3
  z3 := Tryd.sizeOf3
  v3 := Tryd.zeroValue3
  t4 := Tryd.underlying4
  a4 := Tryd.isAgg4
  z4 := Tryd.sizeOf4
  v4 := Tryd.zeroValue4
  t5 := Tryd.underlying5
  a5 := Tryd.isAgg5
  z5 := Tryd.sizeOf5
  v5 := Tryd.zeroValue5
  t9 := Tryd.underlying9
  a9 := Tryd.isAgg9
  z9 := Tryd.sizeOf9
  v9 := Tryd.zeroValue9
  t20 := Tryd.underlying20
  a20 := Tryd.isAgg20
  z20 := Tryd.sizeOf20
  v20 := Tryd.zeroValue20
  t37 := Tryd.underlying113
  a37 := Tryd.isAgg113
  z37 := Tryd.sizeOf113
  v37 := Tryd.zeroValue113
  t46 := Tryd.underlying133
  a46 := Tryd.isAgg133
  z46 := Tryd.sizeOf133
  v46 := Tryd.zeroValue133
  t51 := Tryd.underlying130
  a51 := Tryd.isAgg130
  z51 := Tryd.sizeOf130
  v51 := Tryd.zeroValue130
  t53 := Tryd.underlying115
  a53 := Tryd.isAgg115
  z53 := Tryd.sizeOf115
  v53 := Tryd.zeroValue115
  t171 := Tryd.underlying114
  a171 := Tryd.isAgg114
  z171 := Tryd.sizeOf114
  v171 := Tryd.zeroValue114
  t173 := Tryd.underlying118
  a173 := Tryd.isAgg118
  z173 := Tryd.sizeOf118
  v173 := Tryd.zeroValue118
  t212 := Tryd.underlying129
  a212 := Tryd.isAgg129
  z212 := Tryd.sizeOf129
  v212 := Tryd.zeroValue129
  t213 := Tryd.underlying131
  a213 := Tryd.isAgg131
  z213 := Tryd.sizeOf131
  t232 := Tryd.underlying154
  a232 := Tryd.isAgg154
  z232 := Tryd.sizeOf154
  v232 := Tryd.zeroValue154
  t233 := Tryd.underlying155
  a233 := Tryd.isAgg155
  z233 := Tryd.sizeOf155
  v233 := Tryd.zeroValue155
  g17 := by kernel_rfl
  g18 := by kernel_rfl
  g19 := by kernel_rfl
  i0 := by kernel_rfl
  i2 := by kernel_rfl
  i3 := by kernel_rfl
  i4 := by kernel_rfl
  i5 := by kernel_rfl
  i9 := by kernel_rfl
  i20 := by kernel_rfl
  i37 := by kernel_rfl
  i46 := by kernel_rfl
  i51 := by kernel_rfl
  i53 := by kernel_rfl
  i171 := by kernel_rfl
  i173 := by kernel_rfl
  i212 := by kernel_rfl
  i232 := by kernel_rfl
  i233 := by kernel_rfl
  m17 := by kernel_rfl
  m18 := by kernel_rfl
  m19 := by kernel_rfl }
open Go.RowKit Go.Sort Go.Lib in
theorem Tryd.strconv_Itoa (n : Int) (h0 : -9223372036854775808 ≤ n) (h1 : n ≤ 9223372036854775807) (w : World) (htab : Lib.TabIs Tryd.prog w "internal/strconv.uint64pow10" .u64 Lib.pow10Tab) :
    Calls Tryd.prog 39 #[.int .i64 n] w fun e w' => e = .returned (.string ⟨(Lib.itoa n).toArray⟩) ∧ ∃ k os, w' = grow (w.drewN k) os := Any.strconv_Itoa Tryd.laysM171 n h0 h1 w htab
end Go.Proofs

/- The walks: a number's text, the program's (by strconv) and the document's. -/
namespace Go.Proofs.YtikiaijgcjjloaaDoor
open Go Go.RowKit M Go.Lib

/-- The library's table of powers of ten reads as its text lays it. -/
def Tab (w : World) : Prop := TabIs Tryd.prog w "internal/strconv.uint64pow10" .u64 pow10Tab

theorem tab_below {w w' : World} (h : Tab w) (hb : Below w.heap.size w w') : Tab w' := by
  unfold Tab TabIs World.var? at h ⊢
  cases hg : Tryd.prog.globalNamed "internal/strconv.uint64pow10" with
  | none => rw [hg] at h; simp at h
  | some g =>
    rw [hg] at h
    simp only [Option.bind_some] at h ⊢
    have hlt : g < w.heap.size := by
      rcases Nat.lt_or_ge g w.heap.size with h' | h'
      · exact h'
      · rw [Array.getElem?_eq_none h'] at h
        simp at h
    rw [hb.block g hlt]
    exact h
theorem tab_alloc {w : World} (h : Tab w) (o : Obj) : Tab (w.alloc o) := tab_below h ((Below.refl _ _).alloc (Nat.le_refl _) o)

theorem below_gr (w : World) (k : Nat) (os : Array Obj) : Below w.heap.size w (Sort.grow (w.drewN k) os) :=
  ⟨rfl, rfl, rfl, by show w.heap.size ≤ (w.heap ++ os).size; rw [Array.size_append]; omega, fun i hi => by
    show ((w.drewN k).heap ++ os)[i]? = _
    rw [Array.getElem?_append_left (by show i < w.heap.size; omega)]
    rfl⟩

theorem format_any (n : Int) (w : World) (h0 : -4000000000000000000 ≤ n) (h1 : n ≤ 4000000000000000000) (ht : Tab w) :
    Calls Tryd.prog 60 #[.int .i64 n, .int .i64 10] w fun e w' => e = .returned (.string ⟨(itoa n).toArray⟩) ∧ Below w.heap.size w w' :=
  (Tryd.strconv_FormatInt_10 n (by omega) (by omega) w ht).mono fun _ _ ⟨he, k, os, hw⟩ => ⟨he, hw ▸ below_gr w k os⟩

theorem itoa_len (t : Int) (h1 : -1000000000 ≤ t) (h2 : t ≤ 1000000000) : (itoa t).length ≤ 11 := by
  by_cases h : t < 0
  · rw [M.itoa_neg t h]; have := dec_len_ten t.natAbs (by omega); simp; omega
  · rw [M.itoa_pos t h]; have := dec_len_ten t.natAbs (by omega); omega

theorem text_str (t b : Int) (h : ¬ b ≤ 1) : ((⟨(itoa t).toArray⟩ : ByteArray) ++ (⟨#[47]⟩ : ByteArray)) ++ (⟨(itoa b).toArray⟩ : ByteArray) = ⟨(numText t b).toArray⟩ := by
  have e : itoa b = decDigits b.toNat := by rw [M.itoa_pos b (by omega)]; congr 1; omega
  unfold numText
  rw [if_neg h, e]
  apply ByteArray.ext
  simp
theorem text_str1 (t b : Int) (h : b ≤ 1) : (⟨(itoa t).toArray⟩ : ByteArray) = ⟨(numText t b).toArray⟩ := by
  unfold numText
  rw [if_pos h]
  simp

set_option maxRecDepth 100000 in
set_option maxHeartbeats 400000 in
theorem Text_any (t b : Int) (w : World) (h1 : -1000000000 ≤ t) (h2 : t ≤ 1000000000) (h3 : 1 ≤ b) (h4 : b ≤ 1000000000) (ht : Tab w) :
    Calls Tryd.prog 46 #[.agg #[.int .i64 t, .int .i64 b]] w fun e w' => e = .returned (.string ⟨(numText t b).toArray⟩) ∧ Below w.heap.size w w' := by
  have HT := hide ht
  clear ht
  have hl1 := itoa_len t h1 h2
  have hl2 := itoa_len b (by omega) h4
  by_cases hb : b ≤ 1
  · have HE := hide (text_str1 t b hb)
    go_enter Tryd.func46, Tryd.ntmps46
    go_wp2_with fail
    refine (format_any t _ (by omega) (by omega) (tab_alloc (unhide HT) _)).mono ?_
    rintro e w1 ⟨rfl, hb1⟩
    obtain ⟨hc, hf⟩ := bcell hb1
    go_wp2_with fail
    go_ret
    exact ⟨ret_str (unhide HE), ((Below.refl _ _).alloc (Nat.le_refl _) _).trans (hb1.mono (by simp))⟩
  · have HE := hide (text_str t b hb)
    go_enter Tryd.func46, Tryd.ntmps46
    go_wp2_with fail
    refine (format_any t _ (by omega) (by omega) (tab_alloc (unhide HT) _)).mono ?_
    rintro e w1 ⟨rfl, hb1⟩
    obtain ⟨hc, hf⟩ := bcell hb1
    go_wp2_with fail
    refine (format_any b _ (by omega) (by omega) (tab_below (tab_alloc (unhide HT) _) hb1)).mono ?_
    rintro e w2 ⟨rfl, hb2⟩
    go_wp2_with fail
    go_ret
    exact ⟨ret_str (unhide HE), (((Below.refl _ _).alloc (Nat.le_refl _) _).trans (hb1.mono (by simp))).trans (hb2.mono (by have := hb1.size; simp at this; omega))⟩

theorem decimal_int (n : Int) (w : World) (h0 : 0 ≤ n) (h1 : n ≤ 4000000000000000000) :
    Calls Tryd.prog 62 #[.int .i64 n] w fun e w' => e = .returned (.string ⟨(decDigits n.natAbs).toArray⟩) ∧ Below w.heap.size w w' := by
  obtain ⟨m, rfl⟩ := Int.eq_ofNat_of_zero_le h0
  exact decimal_any m m w (Nat.le_refl _) (by omega)
theorem rtext1 (t b : Int) (h : t < 0) (hb : b ≤ 1) : ((⟨#[45]⟩ : ByteArray) ++ (⟨(decDigits t.natAbs).toArray⟩ : ByteArray)) = ⟨(numText t b).toArray⟩ := by
  unfold numText
  rw [if_pos hb, M.itoa_neg t h]
  apply ByteArray.ext
  simp
theorem rtext2 (t b : Int) (h : t < 0) (hb : ¬ b ≤ 1) : ((⟨#[45]⟩ : ByteArray) ++ (⟨(decDigits t.natAbs).toArray⟩ : ByteArray)) ++ (⟨#[47]⟩ : ByteArray) ++ (⟨(decDigits b.toNat).toArray⟩ : ByteArray) = ⟨(numText t b).toArray⟩ := by
  unfold numText
  rw [if_neg hb, M.itoa_neg t h]
  apply ByteArray.ext
  simp
theorem rtext3 (t b : Int) (h : ¬ t < 0) (hb : b ≤ 1) : ((⟨#[]⟩ : ByteArray) ++ (⟨(decDigits t.natAbs).toArray⟩ : ByteArray)) = ⟨(numText t b).toArray⟩ := by
  unfold numText
  rw [if_pos hb, M.itoa_pos t h]
  apply ByteArray.ext
  simp
theorem rtext4 (t b : Int) (h : ¬ t < 0) (hb : ¬ b ≤ 1) : ((⟨#[]⟩ : ByteArray) ++ (⟨(decDigits t.natAbs).toArray⟩ : ByteArray)) ++ (⟨#[47]⟩ : ByteArray) ++ (⟨(decDigits b.toNat).toArray⟩ : ByteArray) = ⟨(numText t b).toArray⟩ := by
  unfold numText
  rw [if_neg hb, M.itoa_pos t h]
  apply ByteArray.ext
  simp

set_option maxRecDepth 100000 in
set_option maxHeartbeats 400000 in
theorem rText_neg (t b : Int) (w : World) (h : t < 0) (h1 : -1000000000 ≤ t) (h3 : 1 ≤ b) (h4 : b ≤ 1000000000) :
    Calls Tryd.prog 48 #[.agg #[.int .i64 t, .int .i64 b]] w fun e w' => e = .returned (.string ⟨(numText t b).toArray⟩) ∧ Below w.heap.size w w' := by
  have hl1 := dec_len_ten t.natAbs (by omega)
  have hl2 := dec_len_ten b.toNat (by omega)
  go_enter Tryd.func48, Tryd.ntmps48
  go_wp2_with fail
  rw [show -t = (t.natAbs : Int) from by omega]
  refine (decimal_any t.natAbs t.natAbs _ (by omega) (by omega)).mono ?_
  rintro e w1 ⟨rfl, hb1⟩
  obtain ⟨hc, hf⟩ := bcell hb1
  by_cases hb : b ≤ 1
  · have HE := hide (rtext1 t b h hb)
    go_wp2_with fail
    go_ret
    exact ⟨ret_str (unhide HE), ((Below.refl _ _).alloc (Nat.le_refl _) _).trans (hb1.mono (by simp))⟩
  · have HE := hide (rtext2 t b h hb)
    go_wp2_with fail
    refine (decimal_int b _ (by omega) (by omega)).mono ?_
    rintro e w2 ⟨rfl, hb2⟩
    rw [show b.natAbs = b.toNat from by omega]
    go_wp2_with fail
    go_ret
    exact ⟨ret_str (unhide HE), (((Below.refl _ _).alloc (Nat.le_refl _) _).trans (hb1.mono (by simp))).trans (hb2.mono (by have := hb1.size; simp at this; omega))⟩

set_option maxRecDepth 100000 in
set_option maxHeartbeats 400000 in
theorem rText_pos (t b : Int) (w : World) (h : ¬ t < 0) (h1 : t ≤ 1000000000) (h3 : 1 ≤ b) (h4 : b ≤ 1000000000) :
    Calls Tryd.prog 48 #[.agg #[.int .i64 t, .int .i64 b]] w fun e w' => e = .returned (.string ⟨(numText t b).toArray⟩) ∧ Below w.heap.size w w' := by
  have hl1 := dec_len_ten t.natAbs (by omega)
  have hl2 := dec_len_ten b.toNat (by omega)
  go_enter Tryd.func48, Tryd.ntmps48
  go_wp2_with fail
  refine (decimal_int t _ (by omega) (by omega)).mono ?_
  rintro e w1 ⟨rfl, hb1⟩
  obtain ⟨hc, hf⟩ := bcell hb1
  by_cases hb : b ≤ 1
  · have HE := hide (rtext3 t b (by omega) hb)
    go_wp2_with fail
    go_ret
    exact ⟨ret_str (unhide HE), ((Below.refl _ _).alloc (Nat.le_refl _) _).trans (hb1.mono (by simp))⟩
  · have HE := hide (rtext4 t b (by omega) hb)
    go_wp2_with fail
    refine (decimal_int b _ (by omega) (by omega)).mono ?_
    rintro e w2 ⟨rfl, hb2⟩
    rw [show b.natAbs = b.toNat from by omega]
    go_wp2_with fail
    go_ret
    exact ⟨ret_str (unhide HE), (((Below.refl _ _).alloc (Nat.le_refl _) _).trans (hb1.mono (by simp))).trans (hb2.mono (by have := hb1.size; simp at this; omega))⟩

theorem rText_any (t b : Int) (w : World) (h1 : -1000000000 ≤ t) (h2 : t ≤ 1000000000) (h3 : 1 ≤ b) (h4 : b ≤ 1000000000) :
    Calls Tryd.prog 48 #[.agg #[.int .i64 t, .int .i64 b]] w fun e w' => e = .returned (.string ⟨(numText t b).toArray⟩) ∧ Below w.heap.size w w' := by
  by_cases h : t < 0
  · exact rText_neg t b w h h1 h3 h4
  · exact rText_pos t b w h h2 h3 h4
end Go.Proofs.YtikiaijgcjjloaaDoor

/- The walk of the program's reading of digits. -/
namespace Go.Proofs.YtikiaijgcjjloaaDoor
open Go Go.RowKit M Go.Lib

/-- What is read from place st up to place a: nothing yet, or v's numeral. -/
def RInv (s : ByteArray) (st a v : Nat) : Prop := (a = st ∧ v = 0) ∨ (st < a ∧ (s.data.toList.drop st).take (a - st) = decDigits v)

theorem drop_at (s : ByteArray) (a : Nat) (h : a < s.size) : s.data.toList.drop a = s[a] :: s.data.toList.drop (a + 1) := by
  rw [List.drop_eq_getElem_cons (by simpa using h)]; rfl
theorem drop_end (s : ByteArray) (a : Nat) (h : s.size ≤ a) : s.data.toList.drop a = [] := by
  rw [List.drop_eq_nil_iff]; simpa using h

theorem drop_take_succ (s : ByteArray) (st a : Nat) (h : st ≤ a) (ha : a < s.size) : (s.data.toList.drop st).take (a + 1 - st) = (s.data.toList.drop st).take (a - st) ++ [s[a]] := by
  rw [show a + 1 - st = (a - st) + 1 by omega]
  rw [List.take_succ_eq_append_getElem (by simp; omega)]
  congr 2
  rw [List.getElem_drop]
  simp only [show st + (a - st) = a by omega]
  rfl

theorem rinv_push (s : ByteArray) (st a v : Nat) (h : st ≤ a) (ha : a < s.size) (hI : RInv s st a v) (hd : isDig s[a] = true) (hz : a = st ∨ 1 ≤ v) : RInv s st (a + 1) (10 * v + (s[a].toNat - 48)) := by
  refine Or.inr ⟨by omega, ?_⟩
  have h48 := (isDig_iff s[a]).1 hd
  rw [drop_take_succ s st a h ha]
  rcases hI with ⟨rfl, rfl⟩ | ⟨hlt, he⟩
  · rw [Nat.sub_self, List.take_zero, List.nil_append, dec_small _ (by omega)]
    rw [show 48 + (10 * 0 + (s[a].toNat - 48)) = 48 + (s[a].toNat - 48) by omega, ofNat_of_dig _ hd]
  · rw [he, dec_push v _ (by omega) (by omega), ofNat_of_dig _ hd]

theorem rinv_none_zero (s : ByteArray) (st a : Nat) (h : st < a) (ha : a < s.size) (hI : RInv s st a 0) (hd : isDig s[a] = true) : ∀ v r, ¬ DigAt (s.data.toList.drop st) v r := by
  intro v r
  rcases hI with ⟨rfl, _⟩ | ⟨_, he⟩
  · omega
  · refine dig_none_zero _ (a - st) he s[a] ?_ hd v r
    rw [List.drop_drop, show st + (a - st) = a by omega, drop_at s a ha]; rfl
theorem rinv_none_big (s : ByteArray) (st a V : Nat) (h : st < a) (hI : RInv s st a V) (hV : 1000000000 < V) : ∀ v r, ¬ DigAt (s.data.toList.drop st) v r := by
  intro v r
  rcases hI with ⟨rfl, _⟩ | ⟨_, he⟩
  · omega
  · exact dig_none_big _ (a - st) V he hV v r
theorem rinv_done (s : ByteArray) (st a v : Nat) (h : st < a) (hI : RInv s st a v) (hv : v ≤ 1000000000) (hn : ∀ ha : a < s.size, isDig s[a] = false) : DigAt (s.data.toList.drop st) v (s.data.toList.drop a) := by
  rcases hI with ⟨rfl, _⟩ | ⟨_, he⟩
  · omega
  · refine ⟨hv, ?_, ?_⟩
    · rw [← he]
      conv => lhs; rw [← List.take_append_drop (a - st) (s.data.toList.drop st)]
      rw [List.drop_drop, show st + (a - st) = a by omega]
    · intro c hc
      by_cases ha : a < s.size
      · rw [drop_at s a ha] at hc
        simp only [List.head?_cons, Option.some.injEq] at hc
        rw [← hc]; exact hn ha
      · rw [drop_end s a (by omega)] at hc; cases hc
theorem none_first (s : ByteArray) (st : Nat) (hn : ∀ ha : st < s.size, isDig s[st] = false) : ∀ v r, ¬ DigAt (s.data.toList.drop st) v r := by
  refine dig_none_first _ ?_
  intro c hc
  by_cases ha : st < s.size
  · rw [drop_at s st ha] at hc
    simp only [List.head?_cons, Option.some.injEq] at hc
    rw [← hc]; exact hn ha
  · rw [drop_end s st (by omega)] at hc; cases hc

set_option maxRecDepth 100000 in
set_option maxHeartbeats 400000 in
theorem readDigits_any (s : ByteArray) (st : Nat) (w : World) (hs : s.size ≤ maxLen) (hst : st ≤ 9223372036854775807) :
    Calls Tryd.prog 49 #[.string s, .int .i64 st] w fun e w' => ((∃ v a : Nat, DigAt (s.data.toList.drop st) v (s.data.toList.drop a) ∧ st < a ∧ a ≤ s.size ∧ e = .returned (.tuple #[.int .i64 v, .int .i64 a, .bool true])) ∨ ((∀ v r, ¬ DigAt (s.data.toList.drop st) v r) ∧ e = .returned (.tuple #[.int .i64 0, .int .i64 0, .bool false]))) ∧ w' = w := by
  unfold maxLen at hs
  by_cases hlt : st < s.size
  case neg =>
    have HE := hide (none_first s st (fun ha => absurd ha hlt))
    have hlt' : ¬ (st : Int) < s.size := by omega
    go_enter Tryd.func49, Tryd.ntmps49
    go_wp2_with fail
    go_ret3
    exact ⟨Or.inr ⟨unhide HE, rfl⟩, rfl⟩
  have hlt' : (st : Int) < s.size := by omega
  have hge1 : decide ((s.size : Int) ≤ (st : Int)) = false := by simp; omega
  have hge2 : decide (s.size ≤ st) = false := by simp; omega
  cases hd0 : isDig s[st] with
  | false =>
    have HE := hide (none_first s st (fun ha => hd0))
    have HD := hide hd0
    clear hd0
    go_enter Tryd.func49, Tryd.ntmps49
    go_wp2_with fail
    refine (isDigit_any s[st] _).mono ?_
    rintro e w' ⟨rfl, rfl⟩
    rw [unhide HD]
    go_wp2_with fail
    go_ret3
    exact ⟨Or.inr ⟨unhide HE, rfl⟩, rfl⟩
  | true =>
    have HD := hide hd0
    clear hd0
    go_enter Tryd.func49, Tryd.ntmps49
    go_wp2_with fail
    refine (isDigit_any s[st] _).mono ?_
    rintro e w' ⟨rfl, rfl⟩
    rw [unhide HD]
    go_wp2_with fail
    go_loopw [7, 8] (fun x y wx => ∃ v a : Nat, st ≤ a ∧ a ≤ s.size ∧ v ≤ 1000000000 ∧ x = .int .i64 v ∧ y = .int .i64 a ∧ Hid (RInv s st a v) ∧ w = wx) (fun _ y _ => s.size - (RowKit.intOf y).toNat)
    case atStart => exact ⟨0, st, by omega, by omega, by omega, rfl, rfl, Or.inl ⟨rfl, rfl⟩, rfl⟩
    case round =>
      obtain ⟨v, a, h1, h2, h3, rfl, rfl, HI, rfl⟩ := hrel
      by_cases ha : a < s.size
      · cases hd : isDig s[a] with
        | false =>
          have hne : st < a := by
            rcases Nat.lt_or_ge st a with h | h
            · exact h
            · obtain rfl : st = a := by omega
              rw [unhide HD] at hd; cases hd
          have HE := hide (rinv_done s st a v hne (unhide HI) h3 (fun _ => hd))
          have HDa := hide hd
          clear hd
          go_wp2_with fail
          refine (isDigit_any s[a] _).mono ?_
          rintro e w' ⟨rfl, rfl⟩
          rw [unhide HDa]
          go_wp2_with fail
          go_ret3
          exact ⟨Or.inl ⟨v, a, unhide HE, hne, h2, rfl⟩, rfl⟩
        | true =>
          have hr := (isDig_iff s[a]).1 hd
          have HDa := hide hd
          clear hd
          have hr1 : 48 ≤ (s[a].toNat : Int) := by omega
          have hr2 : (s[a].toNat : Int) ≤ 57 := by omega
          go_wp2_with fail
          refine (isDigit_any s[a] _).mono ?_
          rintro e w' ⟨rfl, rfl⟩
          rw [unhide HDa]
          by_cases hz : st < a ∧ v = 0
          · obtain ⟨hz1, rfl⟩ := hz
            have HE := hide (rinv_none_zero s st a hz1 ha (unhide HI) (unhide HDa))
            have hz1' : (st : Int) < a := by omega
            go_wp2_with fail
            go_ret3
            exact ⟨Or.inr ⟨unhide HE, rfl⟩, rfl⟩
          · have HP := hide (rinv_push s st a v h1 ha (unhide HI) (unhide HDa) (by omega))
            have hg : ((st : Int) < a ∧ ((v : Int) == 0) = false) ∨ ¬ (st : Int) < a := by
              by_cases hh : st < a
              · exact Or.inl ⟨by omega, by rw [beq_eq_false_iff_ne]; omega⟩
              · exact Or.inr (by omega)
            by_cases hbig : 1000000000 < (v : Int) * 10 + ((s[a].toNat : Int) - 48)
            · have HE := hide (rinv_none_big s st (a + 1) _ (by omega) (unhide HP) (by omega))
              clear hz
              rcases hg with ⟨hg1, hg2⟩ | hg1
              all_goals
                go_wp2_with fail
                go_ret3
                exact ⟨Or.inr ⟨unhide HE, rfl⟩, rfl⟩
            · clear hz
              rcases hg with ⟨hg1, hg2⟩ | hg1
              all_goals
                go_wp2_with fail
                go_roundw
                case rel => exact ⟨10 * v + (s[a].toNat - 48), a + 1, by omega, by omega, by omega, by congr 1; omega, by go_num, unhide HP, by trivial⟩
                case measure => simp [RowKit.intOf]; omega
      · have HE := hide (rinv_done s st a v (by omega) (unhide HI) h3 (fun h => absurd h ha))
        have ha' : ¬ (a : Int) < s.size := by omega
        go_wp2_with fail
        go_ret3
        exact ⟨Or.inl ⟨v, a, unhide HE, by omega, h2, rfl⟩, rfl⟩
end Go.Proofs.YtikiaijgcjjloaaDoor

/- The walk of the program's reading of a number. -/
namespace Go.Proofs.YtikiaijgcjjloaaDoor
open Go Go.RowKit M Go.Lib

/-- What readBottom says: behind place st stand a slash and a numeral q of 2 or more, and nothing else. -/
def BotIs (s : ByteArray) (st q : Nat) : Prop := 2 ≤ q ∧ ∃ r, s.data.toList.drop st = 47 :: r ∧ DigAt r q []

theorem bot_none_slash (s : ByteArray) (st : Nat) (hn : ∀ ha : st < s.size, s[st].toNat ≠ 47) (q : Nat) : ¬ BotIs s st q := by
  rintro ⟨_, r, hr, _⟩
  by_cases ha : st < s.size
  · rw [drop_at s st ha] at hr
    simp only [List.cons.injEq] at hr
    exact hn ha (by rw [hr.1]; rfl)
  · rw [drop_end s st (by omega)] at hr; cases hr
theorem bot_of (s : ByteArray) (st : Nat) (ha : st < s.size) (hc : s[st].toNat = 47) (q : Nat) : BotIs s st q ↔ 2 ≤ q ∧ DigAt (s.data.toList.drop (st + 1)) q [] := by
  have hc' : s[st] = 47 := UInt8.toNat_inj.1 hc
  unfold BotIs
  rw [drop_at s st ha, hc']
  constructor
  · rintro ⟨h2, r, hr, hd⟩
    simp only [List.cons.injEq, true_and] at hr
    exact ⟨h2, hr ▸ hd⟩
  · rintro ⟨h2, hd⟩
    exact ⟨h2, _, rfl, hd⟩

set_option maxRecDepth 100000 in
set_option maxHeartbeats 400000 in
theorem readBottom_any (s : ByteArray) (st : Nat) (w : World) (hs : s.size ≤ maxLen) (hst : st ≤ s.size) :
    Calls Tryd.prog 50 #[.string s, .int .i64 st] w fun e w' => ((∃ q : Nat, BotIs s st q ∧ q ≤ 1000000000 ∧ e = .returned (.tuple #[.int .i64 q, .bool true])) ∨ ((∀ q, ¬ BotIs s st q) ∧ e = .returned (.tuple #[.int .i64 0, .bool false]))) ∧ w = w' := by
  have hs' := hs
  unfold maxLen at hs
  by_cases hlt : st < s.size
  case neg =>
    have HE := hide (bot_none_slash s st (fun ha => absurd ha hlt))
    have hlt' : ¬ (st : Int) < s.size := by omega
    go_enter Tryd.func50, Tryd.ntmps50
    go_wp2_with fail
    go_ret2
    exact ⟨Or.inr ⟨unhide HE, rfl⟩, rfl⟩
  have hlt' : (st : Int) < s.size := by omega
  by_cases hc : s[st].toNat = 47
  case neg =>
    have HE := hide (bot_none_slash s st (fun ha => hc))
    have hc' : ((s[st].toNat : Int) != 47) = true := by rw [bne_iff_ne]; omega
    clear hc
    go_enter Tryd.func50, Tryd.ntmps50
    go_wp2_with fail
    go_ret2
    exact ⟨Or.inr ⟨unhide HE, rfl⟩, rfl⟩
  have HB := hide (bot_of s st hlt hc)
  have hc' : ((s[st].toNat : Int) != 47) = false := by rw [bne_eq_false_iff_eq]; omega
  clear hc
  go_enter Tryd.func50, Tryd.ntmps50
  go_wp2_with fail
  rw [show ((st : Int) + 1) = ((st + 1 : Nat) : Int) from by omega]
  refine (readDigits_any s (st + 1) _ hs' (by omega)).mono ?_
  rintro e w' ⟨⟨v, a, hD, ha1, ha2, rfl⟩ | ⟨hN, rfl⟩, rfl⟩
  · have HD := hide hD
    have hv := hD.le
    clear hD
    by_cases hok : a = s.size ∧ 2 ≤ v
    · obtain ⟨rfl, hv2⟩ := hok
      have HE := hide (((unhide HB) v).2 ⟨hv2, by have := unhide HD; rwa [drop_end s s.size (Nat.le_refl _)] at this⟩)
      go_wp2_with fail
      go_ret2
      exact ⟨Or.inl ⟨v, unhide HE, hv, rfl⟩, rfl⟩
    · have HE : Hid (∀ q, ¬ BotIs s st q) := by
        intro q hq
        obtain ⟨h2, hd⟩ := ((unhide HB) q).1 hq
        obtain ⟨rfl, hr⟩ := hd.unique (unhide HD)
        apply hok
        refine ⟨?_, h2⟩
        rcases Nat.lt_or_ge a s.size with h | h
        · rw [drop_at s a h] at hr; cases hr
        · omega
      by_cases hae : a = s.size
      · have hv2 : (v : Int) < 2 := by omega
        have hae' : ((a : Int) != s.size) = false := by rw [bne_eq_false_iff_eq]; omega
        clear hok hae
        go_wp2_with fail
        go_ret2
        exact ⟨Or.inr ⟨unhide HE, rfl⟩, rfl⟩
      · have hae' : ((a : Int) != s.size) = true := by rw [bne_iff_ne]; omega
        clear hok hae
        go_wp2_with fail
        go_ret2
        exact ⟨Or.inr ⟨unhide HE, rfl⟩, rfl⟩
  · have HE : Hid (∀ q, ¬ BotIs s st q) := by
      intro q hq
      obtain ⟨h2, hd⟩ := ((unhide HB) q).1 hq
      exact hN _ _ hd
    clear hN
    go_wp2_with fail
    go_ret2
    exact ⟨Or.inr ⟨unhide HE, rfl⟩, rfl⟩
end Go.Proofs.YtikiaijgcjjloaaDoor

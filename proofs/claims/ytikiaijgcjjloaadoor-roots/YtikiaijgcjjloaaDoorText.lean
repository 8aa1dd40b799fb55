/- The walks: a number's text, the program's (by strconv) and the document's. -/
import Derived.Test.YtikiaijgcjjloaaDoorLow
import Derived.Test.YtikiaijgcjjloaaDoorShelf
namespace Go.Proofs.YtikiaijgcjjloaaDoor
open Go Go.RowKit M Go.Lib

/-- The library's table of powers of ten reads as its text lays it. -/
def Tab (w : World) : Prop := TabIs Tryd.prog w "internal/strconv.uint64pow10" .u64 pow10Tab

theorem tab_below {w w' : World} (h : Tab w) (hb : Below w.heap.size w w') : Tab w' := by
  unfold Tab TabIs World.var? at h ⊢
  cases hg : Tryd.prog.globalNamed "internal/strconv.uint64pow10" with
  | none => rw [hg] at h; simp at h
  | some g =>
    rw [hg] at h
    simp only [Option.bind_some] at h ⊢
    have hlt : g < w.heap.size := by
      rcases Nat.lt_or_ge g w.heap.size with h' | h'
      · exact h'
      · rw [Array.getElem?_eq_none h'] at h
        simp at h
    rw [hb.block g hlt]
    exact h
theorem tab_alloc {w : World} (h : Tab w) (o : Obj) : Tab (w.alloc o) := tab_below h ((Below.refl _ _).alloc (Nat.le_refl _) o)

theorem below_gr (w : World) (k : Nat) (os : Array Obj) : Below w.heap.size w (Sort.grow (w.drewN k) os) :=
  ⟨rfl, rfl, rfl, by show w.heap.size ≤ (w.heap ++ os).size; rw [Array.size_append]; omega, fun i hi => by
    show ((w.drewN k).heap ++ os)[i]? = _
    rw [Array.getElem?_append_left (by show i < w.heap.size; omega)]
    rfl⟩

theorem format_any (n : Int) (w : World) (h0 : -4000000000000000000 ≤ n) (h1 : n ≤ 4000000000000000000) (ht : Tab w) :
    Calls Tryd.prog 60 #[.int .i64 n, .int .i64 10] w fun e w' => e = .returned (.string ⟨(itoa n).toArray⟩) ∧ Below w.heap.size w w' :=
  (Tryd.strconv_FormatInt_10 n (by omega) (by omega) w ht).mono fun _ _ ⟨he, k, os, hw⟩ => ⟨he, hw ▸ below_gr w k os⟩

theorem itoa_len (t : Int) (h1 : -1000000000 ≤ t) (h2 : t ≤ 1000000000) : (itoa t).length ≤ 11 := by
  by_cases h : t < 0
  · rw [itoa_neg t h]; have := dec_len_ten t.natAbs (by omega); simp; omega
  · rw [itoa_pos t h]; have := dec_len_ten t.natAbs (by omega); omega

theorem text_str (t b : Int) (h : ¬ b ≤ 1) : ((⟨(itoa t).toArray⟩ : ByteArray) ++ (⟨#[47]⟩ : ByteArray)) ++ (⟨(itoa b).toArray⟩ : ByteArray) = ⟨(numText t b).toArray⟩ := by
  have e : itoa b = decDigits b.toNat := by rw [itoa_pos b (by omega)]; congr 1; omega
  unfold numText
  rw [if_neg h, e]
  apply ByteArray.ext
  simp
theorem text_str1 (t b : Int) (h : b ≤ 1) : (⟨(itoa t).toArray⟩ : ByteArray) = ⟨(numText t b).toArray⟩ := by
  unfold numText
  rw [if_pos h]
  simp

set_option maxRecDepth 100000 in
set_option maxHeartbeats 400000 in
theorem Text_any (t b : Int) (w : World) (h1 : -1000000000 ≤ t) (h2 : t ≤ 1000000000) (h3 : 1 ≤ b) (h4 : b ≤ 1000000000) (ht : Tab w) :
    Calls Tryd.prog 46 #[.agg #[.int .i64 t, .int .i64 b]] w fun e w' => e = .returned (.string ⟨(numText t b).toArray⟩) ∧ Below w.heap.size w w' := by
  have HT := hide ht
  clear ht
  have hl1 := itoa_len t h1 h2
  have hl2 := itoa_len b (by omega) h4
  by_cases hb : b ≤ 1
  · have HE := hide (text_str1 t b hb)
    go_enter Tryd.func46, Tryd.ntmps46
    go_wp2_with fail
    refine (format_any t _ (by omega) (by omega) (tab_alloc (unhide HT) _)).mono ?_
    rintro e w1 ⟨rfl, hb1⟩
    obtain ⟨hc, hf⟩ := bcell hb1
    go_wp2_with fail
    go_ret
    exact ⟨ret_str (unhide HE), ((Below.refl _ _).alloc (Nat.le_refl _) _).trans (hb1.mono (by simp))⟩
  · have HE := hide (text_str t b hb)
    go_enter Tryd.func46, Tryd.ntmps46
    go_wp2_with fail
    refine (format_any t _ (by omega) (by omega) (tab_alloc (unhide HT) _)).mono ?_
    rintro e w1 ⟨rfl, hb1⟩
    obtain ⟨hc, hf⟩ := bcell hb1
    go_wp2_with fail
    refine (format_any b _ (by omega) (by omega) (tab_below (tab_alloc (unhide HT) _) hb1)).mono ?_
    rintro e w2 ⟨rfl, hb2⟩
    go_wp2_with fail
    go_ret
    exact ⟨ret_str (unhide HE), (((Below.refl _ _).alloc (Nat.le_refl _) _).trans (hb1.mono (by simp))).trans (hb2.mono (by have := hb1.size; simp at this; omega))⟩

theorem decimal_int (n : Int) (w : World) (h0 : 0 ≤ n) (h1 : n ≤ 4000000000000000000) :
    Calls Tryd.prog 62 #[.int .i64 n] w fun e w' => e = .returned (.string ⟨(decDigits n.natAbs).toArray⟩) ∧ Below w.heap.size w w' := by
  obtain ⟨m, rfl⟩ := Int.eq_ofNat_of_zero_le h0
  exact decimal_any m m w (Nat.le_refl _) (by omega)
theorem rtext1 (t b : Int) (h : t < 0) (hb : b ≤ 1) : ((⟨#[45]⟩ : ByteArray) ++ (⟨(decDigits t.natAbs).toArray⟩ : ByteArray)) = ⟨(numText t b).toArray⟩ := by
  unfold numText
  rw [if_pos hb, itoa_neg t h]
  apply ByteArray.ext
  simp
theorem rtext2 (t b : Int) (h : t < 0) (hb : ¬ b ≤ 1) : ((⟨#[45]⟩ : ByteArray) ++ (⟨(decDigits t.natAbs).toArray⟩ : ByteArray)) ++ (⟨#[47]⟩ : ByteArray) ++ (⟨(decDigits b.toNat).toArray⟩ : ByteArray) = ⟨(numText t b).toArray⟩ := by
  unfold numText
  rw [if_neg hb, itoa_neg t h]
  apply ByteArray.ext
  simp
theorem rtext3 (t b : Int) (h : ¬ t < 0) (hb : b ≤ 1) : ((⟨#[]⟩ : ByteArray) ++ (⟨(decDigits t.natAbs).toArray⟩ : ByteArray)) = ⟨(numText t b).toArray⟩ := by
  unfold numText
  rw [if_pos hb, itoa_pos t h]
  apply ByteArray.ext
  simp
theorem rtext4 (t b : Int) (h : ¬ t < 0) (hb : ¬ b ≤ 1) : ((⟨#[]⟩ : ByteArray) ++ (⟨(decDigits t.natAbs).toArray⟩ : ByteArray)) ++ (⟨#[47]⟩ : ByteArray) ++ (⟨(decDigits b.toNat).toArray⟩ : ByteArray) = ⟨(numText t b).toArray⟩ := by
  unfold numText
  rw [if_neg hb, itoa_pos t h]
  apply ByteArray.ext
  simp

set_option maxRecDepth 100000 in
set_option maxHeartbeats 400000 in
theorem rText_neg (t b : Int) (w : World) (h : t < 0) (h1 : -1000000000 ≤ t) (h3 : 1 ≤ b) (h4 : b ≤ 1000000000) :
    Calls Tryd.prog 48 #[.agg #[.int .i64 t, .int .i64 b]] w fun e w' => e = .returned (.string ⟨(numText t b).toArray⟩) ∧ Below w.heap.size w w' := by
  have hl1 := dec_len_ten t.natAbs (by omega)
  have hl2 := dec_len_ten b.toNat (by omega)
  go_enter Tryd.func48, Tryd.ntmps48
  go_wp2_with fail
  rw [show -t = (t.natAbs : Int) from by omega]
  refine (decimal_any t.natAbs t.natAbs _ (by omega) (by omega)).mono ?_
  rintro e w1 ⟨rfl, hb1⟩
  obtain ⟨hc, hf⟩ := bcell hb1
  by_cases hb : b ≤ 1
  · have HE := hide (rtext1 t b h hb)
    go_wp2_with fail
    go_ret
    exact ⟨ret_str (unhide HE), ((Below.refl _ _).alloc (Nat.le_refl _) _).trans (hb1.mono (by simp))⟩
  · have HE := hide (rtext2 t b h hb)
    go_wp2_with fail
    refine (decimal_int b _ (by omega) (by omega)).mono ?_
    rintro e w2 ⟨rfl, hb2⟩
    rw [show b.natAbs = b.toNat from by omega]
    go_wp2_with fail
    go_ret
    exact ⟨ret_str (unhide HE), (((Below.refl _ _).alloc (Nat.le_refl _) _).trans (hb1.mono (by simp))).trans (hb2.mono (by have := hb1.size; simp at this; omega))⟩

set_option maxRecDepth 100000 in
set_option maxHeartbeats 400000 in
theorem rText_pos (t b : Int) (w : World) (h : ¬ t < 0) (h1 : t ≤ 1000000000) (h3 : 1 ≤ b) (h4 : b ≤ 1000000000) :
    Calls Tryd.prog 48 #[.agg #[.int .i64 t, .int .i64 b]] w fun e w' => e = .returned (.string ⟨(numText t b).toArray⟩) ∧ Below w.heap.size w w' := by
  have hl1 := dec_len_ten t.natAbs (by omega)
  have hl2 := dec_len_ten b.toNat (by omega)
  go_enter Tryd.func48, Tryd.ntmps48
  go_wp2_with fail
  refine (decimal_int t _ (by omega) (by omega)).mono ?_
  rintro e w1 ⟨rfl, hb1⟩
  obtain ⟨hc, hf⟩ := bcell hb1
  by_cases hb : b ≤ 1
  · have HE := hide (rtext3 t b (by omega) hb)
    go_wp2_with fail
    go_ret
    exact ⟨ret_str (unhide HE), ((Below.refl _ _).alloc (Nat.le_refl _) _).trans (hb1.mono (by simp))⟩
  · have HE := hide (rtext4 t b (by omega) hb)
    go_wp2_with fail
    refine (decimal_int b _ (by omega) (by omega)).mono ?_
    rintro e w2 ⟨rfl, hb2⟩
    rw [show b.natAbs = b.toNat from by omega]
    go_wp2_with fail
    go_ret
    exact ⟨ret_str (unhide HE), (((Below.refl _ _).alloc (Nat.le_refl _) _).trans (hb1.mono (by simp))).trans (hb2.mono (by have := hb1.size; simp at this; omega))⟩

theorem rText_any (t b : Int) (w : World) (h1 : -1000000000 ≤ t) (h2 : t ≤ 1000000000) (h3 : 1 ≤ b) (h4 : b ≤ 1000000000) :
    Calls Tryd.prog 48 #[.agg #[.int .i64 t, .int .i64 b]] w fun e w' => e = .returned (.string ⟨(numText t b).toArray⟩) ∧ Below w.heap.size w w' := by
  by_cases h : t < 0
  · exact rText_neg t b w h h1 h3 h4
  · exact rText_pos t b w h h2 h3 h4
end Go.Proofs.YtikiaijgcjjloaaDoor

import Derived.Test.YtikiaijgcjjloaaGreatDoorPart40
import Derived.Test.YtikiaijgcjjloaaGreatDoorPart25

/- The walks of the laws without the document's answer: what a part makes of a list (written by mk_kp6.py). -/
namespace Go.Proofs.YtikiaijgcjjloaaGreatDoor
open Go Go.RowKit M T Go.Lib

def krow (xs : List Rat) : List (List UInt8) := xs.map ratText
theorem rt_inj {x y : Rat} (hx : small x = true) (hy : small y = true) (h : rt x = rt y) : x = y := by
  have h1 := rat_isNum hx
  have h2 := rat_isNum hy
  rw [← rt_list, h, rt_list] at h1
  obtain ⟨e1, e2⟩ := h1.unique h2
  exact Rat.ext e1 (by omega)
theorem krow_len (xs : List Rat) : (krow xs).length = xs.length := List.length_map _
theorem krow_snoc (xs : List Rat) (z : Rat) : krow xs ++ [ratText z] = krow (xs ++ [z]) := by unfold krow; simp
theorem SIs.num {w : World} {ao : Option Addr} {cp : Nat} {xs : List Rat} (h : SIs w ao cp (krow xs)) (hp : 0 < xs.length) : ∃ g, ao = some ⟨g, 0, none⟩ ∧ g < w.heap.size ∧ ∀ j (hj : j < xs.length), w.cell? ⟨g, j, none⟩ = some (.string (rt xs[j])) := by
  obtain ⟨g, h1, h2, h3⟩ := h.cell (by rw [krow_len]; exact hp)
  refine ⟨g, h1, h2, fun j hj => ?_⟩
  rw [h3 j (by rw [krow_len]; exact hj)]
  congr 2
  simp [krow, rt]
/-- Items made one behind the other. -/
def build (F : Nat → List Rat → Except Int Rat) : Nat → List Rat → Except Int (List Rat)
  | 0, ms => .ok ms
  | k + 1, ms => match F ms.length ms with
    | .error e => .error e
    | .ok y => build F k (ms ++ [y])
/-- What a call that makes a list of texts of numbers answers. -/
def TLGot (w : World) (r : Except Int (List Rat)) (e : Ending) (w' : World) : Prop := ∃ (ao : Option Addr) (n cp : Nat) (c : Int), e = .returned (.tuple #[.slice ao n cp, .int .i64 c]) ∧ Below w.heap.size w w' ∧ ((∃ zs, r = .ok zs ∧ (∀ z ∈ zs, small z = true) ∧ n = zs.length ∧ SIs w' ao cp (krow zs) ∧ c = 0) ∨ (r = .error c ∧ c ≠ 0))
/-- became, for one kind of part, one number and one list. -/
def Bec (K : Int) (c : Rat) (xs : List Rat) (f : Nat → List Rat → Except Int Rat) : Prop :=
  ∀ (i : Nat) (_ : i < xs.length) (ms : List Rat) (_ : ms.length = i) (_ : ∀ y ∈ ms, small y = true) (w : World) (g cp : Nat) (ao : Option Addr) (mc : Nat), SIs w (some ⟨g, 0, none⟩) cp (krow xs) → SIs w ao mc (krow ms) → Tab w → Calls Tryz.prog 33 #[.int .u8 K, .string (rt c), .slice (some ⟨g, 0, none⟩) xs.length cp, .int .i64 (i : Int), .slice ao ms.length mc] w fun e w' => TGot (f i ms) e ∧ Below w.heap.size w w'

set_option maxRecDepth 100000 in
set_option maxHeartbeats 3200000 in
theorem comes_other {K : Int} {c : Rat} {xs : List Rat} {f : Nat → List Rat → Except Int Rat} {ao : Option Addr} {cp : Nat} {w : World} (hK : (K == 109) = false) (hbec : Bec K c xs f) (hn : xs.length ≤ 1000) (hl : SIs w ao cp (krow xs)) (ht : Tab w) :
    Calls Tryz.prog 17 #[.int .u8 K, .string (rt c), .slice ao xs.length cp] w fun e w' => TLGot w (build f xs.length []) e w' := by
  obtain ⟨i0, hi0, hz0, hz1, hz2⟩ := info_parts Tryz.infoStr
  have HBec := hide hbec
  have HL := hide hl
  have HT := hide ht
  clear hbec hl ht
  go_enter Tryz.func17, Tryz.ntmps17
  go_wp2_with fail
  go_loopg [8] 0 (fun kk v8 wr => kk = 0 ∧ v8 = .int .i64 0 ∧ w = wr)
  case atStart => exact ⟨rfl, rfl, rfl⟩
  case round =>
    obtain ⟨hk, rfl, rfl⟩ := hrel
    clear hk
    by_cases h1 : (1 : Int) < (xs.length : Int)
    · go_wp2_with fail
      go_loopg [9, 10] xs.length (fun kk v9 v10 wr => ∃ (ms : List Rat) (mo : Option Addr) (mc : Nat), kk = xs.length - ms.length ∧ ms.length ≤ xs.length ∧ v10 = .int .i64 (ms.length : Int) ∧ v9 = .slice mo ms.length mc ∧ build f xs.length [] = build f (xs.length - ms.length) ms ∧ (∀ y ∈ ms, small y = true) ∧ SkIs w (.slice mo ms.length mc) (krow ms) wr)
      case atStart => exact ⟨[], none, 0, rfl, Nat.zero_le _, rfl, rfl, rfl, fun _ h => absurd h List.not_mem_nil, SkIs.start w⟩
      case round =>
        obtain ⟨ms, mo, mc, hk, hi, rfl, rfl, hbu, hms, hsk⟩ := hrel
        have HK := hide hk
        have HBu := hide hbu
        have HMs := hide hms
        have HSk := hide hsk
        clear hk hbu hms
        by_cases hlt : ms.length < xs.length
        · have hlt' : (ms.length : Int) < (xs.length : Int) := by omega
          obtain ⟨g, rfl, _, _⟩ := (unhide HL).num (by omega)
          have hsi : SIs wr mo mc (krow ms) := SkIs.sis (w0 := w) (by rw [krow_len]; exact hsk)
          have HC := hide ((unhide HBec) ms.length hlt ms rfl (unhide HMs) wr g cp mo mc ((unhide HL).below hsk.bel) hsi (tab_below (unhide HT) hsk.bel))
          have HSt := hide (show build f xs.length [] = match f ms.length ms with | .error e => .error e | .ok y => build f (xs.length - (ms.length + 1)) (ms ++ [y]) by
            rw [unhide HBu, show xs.length - ms.length = (xs.length - (ms.length + 1)) + 1 by omega]; rfl)
          clear hsk hsi
          go_wp2_with fail
          refine (unhide HC).mono ?_
          rintro e w1 ⟨⟨t, q, rfl, hh⟩, hb⟩
          have hsk1 := (unhide HSk).below hb
          have hsz1 := hsk1.bel.size
          have HSk1 := hide hsk1
          clear hb hsk1
          rcases hh with ⟨z, hz, hs, rfl, rfl⟩ | ⟨hz, hq, rfl⟩
          · have HZ := hide (show build f xs.length [] = build f (xs.length - (ms.length + 1)) (ms ++ [z]) by rw [unhide HSt, hz])
            have HS := hide (show ∀ y ∈ ms ++ [z], small y = true by
              intro y hy
              rcases List.mem_append.1 hy with h1 | h1
              · exact unhide HMs y h1
              · rw [List.mem_singleton.1 h1]; exact hs)
            have HSk2 := hide ((unhide HSk1).below ((Below.refl _ _).alloc (Nat.le_refl _) (.cells [sv (ratText z)].toArray 9)))
            have hln := krow_len ms
            clear hz hs
            go_wp2_with (at_builtin; refine wpList_append_own _ rfl _ _ 29 rfl w.heap.size 9 i0 _ 1 16 Tryz.underlying29 hi0 hz0 hz1 hz2 rfl (by decide) _ _ _ rfl (unhide HSk2).own ⟨w1.heap.size, 0, none⟩ 1 1 [sv (ratText z)] rfl rfl (snews_at rfl _ _) (one_sv _) (by unfold maxLen; omega) (by omega) (by simp; omega) ?_)
            intro v' w4 hown4 hgr4 _
            have hm4 := (unhide HSk2).more (by rw [krow_len]; exact hown4) hgr4
            rw [krow_snoc] at hm4
            obtain ⟨ao4, cp4, rfl⟩ := hm4.shape
            rw [krow_len] at hm4 ⊢
            have HM4 := hide hm4
            clear hown4 hgr4 hm4
            go_wp2_with fail
            go_roundg (xs.length - (ms.length + 1))
            case measure => rw [unhide HK]; omega
            case rel => exact ⟨ms ++ [z], ao4, cp4, by simp, by simp; omega, by simp, rfl, by rw [unhide HZ]; simp, unhide HS, unhide HM4⟩
          · have HZ := hide (show build f xs.length [] = .error q by rw [unhide HSt, hz])
            have HQ := hide hq
            have hq' : (q == 0) = false := by rw [beq_eq_false_iff_ne]; exact hq
            clear hz hq
            go_wp2_with fail
            exact bodyPost_ret (v := .tuple #[.slice none 0 0, .int .i64 q]) (by simp [results, Tryz.results17, go_sem]) rfl ⟨none, 0, 0, q, rfl, (unhide HSk1).bel, Or.inr ⟨unhide HZ, unhide HQ⟩⟩
        · have hlt' : ¬ (ms.length : Int) < (xs.length : Int) := by omega
          have HZ := hide (show build f xs.length [] = .ok ms by rw [unhide HBu, show xs.length - ms.length = 0 by omega]; rfl)
          clear hsk
          go_wp2_with fail
          exact bodyPost_ret (v := .tuple #[.slice mo ms.length mc, .int .i64 0]) (by simp [results, Tryz.results17, go_sem]) rfl ⟨mo, ms.length, mc, 0, rfl, (unhide HSk).bel, Or.inl ⟨ms, unhide HZ, unhide HMs, rfl, SkIs.sis (w0 := w) (by rw [krow_len]; exact unhide HSk), rfl⟩⟩
    · go_wp2_with fail
      go_loopg [9, 10] xs.length (fun kk v9 v10 wr => ∃ (ms : List Rat) (mo : Option Addr) (mc : Nat), kk = xs.length - ms.length ∧ ms.length ≤ xs.length ∧ v10 = .int .i64 (ms.length : Int) ∧ v9 = .slice mo ms.length mc ∧ build f xs.length [] = build f (xs.length - ms.length) ms ∧ (∀ y ∈ ms, small y = true) ∧ SkIs w (.slice mo ms.length mc) (krow ms) wr)
      case atStart => exact ⟨[], none, 0, rfl, Nat.zero_le _, rfl, rfl, rfl, fun _ h => absurd h List.not_mem_nil, SkIs.start w⟩
      case round =>
        obtain ⟨ms, mo, mc, hk, hi, rfl, rfl, hbu, hms, hsk⟩ := hrel
        have HK := hide hk
        have HBu := hide hbu
        have HMs := hide hms
        have HSk := hide hsk
        clear hk hbu hms
        by_cases hlt : ms.length < xs.length
        · have hlt' : (ms.length : Int) < (xs.length : Int) := by omega
          obtain ⟨g, rfl, _, _⟩ := (unhide HL).num (by omega)
          have hsi : SIs wr mo mc (krow ms) := SkIs.sis (w0 := w) (by rw [krow_len]; exact hsk)
          have HC := hide ((unhide HBec) ms.length hlt ms rfl (unhide HMs) wr g cp mo mc ((unhide HL).below hsk.bel) hsi (tab_below (unhide HT) hsk.bel))
          have HSt := hide (show build f xs.length [] = match f ms.length ms with | .error e => .error e | .ok y => build f (xs.length - (ms.length + 1)) (ms ++ [y]) by
            rw [unhide HBu, show xs.length - ms.length = (xs.length - (ms.length + 1)) + 1 by omega]; rfl)
          clear hsk hsi
          go_wp2_with fail
          refine (unhide HC).mono ?_
          rintro e w1 ⟨⟨t, q, rfl, hh⟩, hb⟩
          have hsk1 := (unhide HSk).below hb
          have hsz1 := hsk1.bel.size
          have HSk1 := hide hsk1
          clear hb hsk1
          rcases hh with ⟨z, hz, hs, rfl, rfl⟩ | ⟨hz, hq, rfl⟩
          · have HZ := hide (show build f xs.length [] = build f (xs.length - (ms.length + 1)) (ms ++ [z]) by rw [unhide HSt, hz])
            have HS := hide (show ∀ y ∈ ms ++ [z], small y = true by
              intro y hy
              rcases List.mem_append.1 hy with h1 | h1
              · exact unhide HMs y h1
              · rw [List.mem_singleton.1 h1]; exact hs)
            have HSk2 := hide ((unhide HSk1).below ((Below.refl _ _).alloc (Nat.le_refl _) (.cells [sv (ratText z)].toArray 9)))
            have hln := krow_len ms
            clear hz hs
            go_wp2_with (at_builtin; refine wpList_append_own _ rfl _ _ 29 rfl w.heap.size 9 i0 _ 1 16 Tryz.underlying29 hi0 hz0 hz1 hz2 rfl (by decide) _ _ _ rfl (unhide HSk2).own ⟨w1.heap.size, 0, none⟩ 1 1 [sv (ratText z)] rfl rfl (snews_at rfl _ _) (one_sv _) (by unfold maxLen; omega) (by omega) (by simp; omega) ?_)
            intro v' w4 hown4 hgr4 _
            have hm4 := (unhide HSk2).more (by rw [krow_len]; exact hown4) hgr4
            rw [krow_snoc] at hm4
            obtain ⟨ao4, cp4, rfl⟩ := hm4.shape
            rw [krow_len] at hm4 ⊢
            have HM4 := hide hm4
            clear hown4 hgr4 hm4
            go_wp2_with fail
            go_roundg (xs.length - (ms.length + 1))
            case measure => rw [unhide HK]; omega
            case rel => exact ⟨ms ++ [z], ao4, cp4, by simp, by simp; omega, by simp, rfl, by rw [unhide HZ]; simp, unhide HS, unhide HM4⟩
          · have HZ := hide (show build f xs.length [] = .error q by rw [unhide HSt, hz])
            have HQ := hide hq
            have hq' : (q == 0) = false := by rw [beq_eq_false_iff_ne]; exact hq
            clear hz hq
            go_wp2_with fail
            exact bodyPost_ret (v := .tuple #[.slice none 0 0, .int .i64 q]) (by simp [results, Tryz.results17, go_sem]) rfl ⟨none, 0, 0, q, rfl, (unhide HSk1).bel, Or.inr ⟨unhide HZ, unhide HQ⟩⟩
        · have hlt' : ¬ (ms.length : Int) < (xs.length : Int) := by omega
          have HZ := hide (show build f xs.length [] = .ok ms by rw [unhide HBu, show xs.length - ms.length = 0 by omega]; rfl)
          clear hsk
          go_wp2_with fail
          exact bodyPost_ret (v := .tuple #[.slice mo ms.length mc, .int .i64 0]) (by simp [results, Tryz.results17, go_sem]) rfl ⟨mo, ms.length, mc, 0, rfl, (unhide HSk).bel, Or.inl ⟨ms, unhide HZ, unhide HMs, rfl, SkIs.sis (w0 := w) (by rw [krow_len]; exact unhide HSk), rfl⟩⟩

set_option maxRecDepth 100000 in
set_option maxHeartbeats 3200000 in
theorem comes_m {c : Rat} {xs : List Rat} {f : Nat → List Rat → Except Int Rat} {ao : Option Addr} {cp : Nat} {w : World} (hbec : Bec 109 c xs f) (hn : xs.length ≤ 1000) (hsm : ∀ x ∈ xs, small x = true) (hl : SIs w ao cp (krow xs)) (ht : Tab w) :
    Calls Tryz.prog 17 #[.int .u8 109, .string (rt c), .slice ao xs.length cp] w fun e w' => TLGot w (if zeroAhead xs = true then .error 2 else build f xs.length []) e w' := by
  obtain ⟨i0, hi0, hz0, hz1, hz2⟩ := info_parts Tryz.infoStr
  generalize hres : (if zeroAhead xs = true then .error 2 else build f xs.length []) = res
  have HRes := hide hres
  have HSm := hide hsm
  have HBec := hide hbec
  have HL := hide hl
  have HT := hide ht
  clear hbec hl ht hsm hres
  go_enter Tryz.func17, Tryz.ntmps17
  go_wp2_with fail
  go_loopg [8] xs.length (fun kk v8 wr => ∃ (i : Nat), kk = xs.length - i ∧ i ≤ xs.length ∧ v8 = .int .i64 (i : Int) ∧ (∀ j (h : j + 1 < xs.length), j < i → xs[j] ≠ 0) ∧ w = wr)
  case atStart => exact ⟨0, rfl, Nat.zero_le _, rfl, fun j _ h => absurd h (Nat.not_lt_zero _), rfl⟩
  case round =>
    obtain ⟨i, hk, hi, rfl, hno, rfl⟩ := hrel
    have HK := hide hk
    have HNo := hide hno
    clear hk hno
    by_cases hl1 : i + 1 < xs.length
    · have hl2 : (i : Int) + 1 < (xs.length : Int) := by omega
      have hl3 : (i : Int) < (xs.length : Int) := by omega
      obtain ⟨g, rfl, _, hcell⟩ := (unhide HL).num (by omega)
      have c0 := hcell i (by omega)
      have hxs := unhide HSm xs[i] (List.getElem_mem _)
      have HYes := hide (fun (h0 : xs[i] = 0) => (zero_iff xs).2 ⟨i, hl1, h0⟩)
      have HNx := hide (fun (h0 : xs[i] ≠ 0) => show ∀ j (h : j + 1 < xs.length), j < i + 1 → xs[j] ≠ 0 from fun j h hj => by
        rcases Nat.lt_or_ge j i with h1 | h1
        · exact unhide HNo j h h1
        · have e : j = i := by omega
          subst e; exact h0)
      clear hcell
      generalize xs[i] = x at c0 hxs HYes HNx
      by_cases h0 : x = 0
      · subst h0
        rw [← rt_zero] at c0
        have HZ := hide (show .error 2 = res by rw [← unhide HRes, if_pos (unhide HYes rfl)])
        clear HYes HNx hxs
        go_wp2_with fail
        exact bodyPost_ret (v := .tuple #[.slice none 0 0, .int .i64 2]) (by simp [results, Tryz.results17, go_sem]) rfl ⟨none, 0, 0, 2, rfl, Below.refl _ _, Or.inr ⟨(unhide HZ).symm, by decide⟩⟩
      · have hne : ((rt x).toList == [48]) = false := by
          rw [beq_eq_false_iff_ne, ByteArray.toList_eq]
          intro e
          refine h0 (rt_inj hxs small_zero (Eq.trans ?_ rt_zero))
          apply ByteArray.ext
          apply Array.toList_inj.1
          exact e
        have HZ := hide (unhide HNx h0)
        clear HYes HNx hxs h0
        go_wp2_with fail
        go_roundg (xs.length - (i + 1))
        case measure => rw [unhide HK]; omega
        case rel => exact ⟨i + 1, rfl, by omega, rfl, unhide HZ, rfl⟩
    · have hl2 : ¬ (i : Int) + 1 < (xs.length : Int) := by omega
      have hres2 : res = build f xs.length [] := by
        rw [← unhide HRes, if_neg]
        intro hz
        obtain ⟨j, hj, e⟩ := (zero_iff xs).1 hz
        exact absurd e (unhide HNo j hj (by omega))
      subst hres2
      go_wp2_with fail
      go_loopg [9, 10] xs.length (fun kk v9 v10 wr => ∃ (ms : List Rat) (mo : Option Addr) (mc : Nat), kk = xs.length - ms.length ∧ ms.length ≤ xs.length ∧ v10 = .int .i64 (ms.length : Int) ∧ v9 = .slice mo ms.length mc ∧ build f xs.length [] = build f (xs.length - ms.length) ms ∧ (∀ y ∈ ms, small y = true) ∧ SkIs w (.slice mo ms.length mc) (krow ms) wr)
      case atStart => exact ⟨[], none, 0, rfl, Nat.zero_le _, rfl, rfl, rfl, fun _ h => absurd h List.not_mem_nil, SkIs.start w⟩
      case round =>
        obtain ⟨ms, mo, mc, hk, hi, rfl, rfl, hbu, hms, hsk⟩ := hrel
        have HK := hide hk
        have HBu := hide hbu
        have HMs := hide hms
        have HSk := hide hsk
        clear hk hbu hms
        by_cases hlt : ms.length < xs.length
        · have hlt' : (ms.length : Int) < (xs.length : Int) := by omega
          obtain ⟨g, rfl, _, _⟩ := (unhide HL).num (by omega)
          have hsi : SIs wr mo mc (krow ms) := SkIs.sis (w0 := w) (by rw [krow_len]; exact hsk)
          have HC := hide ((unhide HBec) ms.length hlt ms rfl (unhide HMs) wr g cp mo mc ((unhide HL).below hsk.bel) hsi (tab_below (unhide HT) hsk.bel))
          have HSt := hide (show build f xs.length [] = match f ms.length ms with | .error e => .error e | .ok y => build f (xs.length - (ms.length + 1)) (ms ++ [y]) by
            rw [unhide HBu, show xs.length - ms.length = (xs.length - (ms.length + 1)) + 1 by omega]; rfl)
          clear hsk hsi
          go_wp2_with fail
          refine (unhide HC).mono ?_
          rintro e w1 ⟨⟨t, q, rfl, hh⟩, hb⟩
          have hsk1 := (unhide HSk).below hb
          have hsz1 := hsk1.bel.size
          have HSk1 := hide hsk1
          clear hb hsk1
          rcases hh with ⟨z, hz, hs, rfl, rfl⟩ | ⟨hz, hq, rfl⟩
          · have HZ := hide (show build f xs.length [] = build f (xs.length - (ms.length + 1)) (ms ++ [z]) by rw [unhide HSt, hz])
            have HS := hide (show ∀ y ∈ ms ++ [z], small y = true by
              intro y hy
              rcases List.mem_append.1 hy with h1 | h1
              · exact unhide HMs y h1
              · rw [List.mem_singleton.1 h1]; exact hs)
            have HSk2 := hide ((unhide HSk1).below ((Below.refl _ _).alloc (Nat.le_refl _) (.cells [sv (ratText z)].toArray 9)))
            have hln := krow_len ms
            clear hz hs
            go_wp2_with (at_builtin; refine wpList_append_own _ rfl _ _ 29 rfl w.heap.size 9 i0 _ 1 16 Tryz.underlying29 hi0 hz0 hz1 hz2 rfl (by decide) _ _ _ rfl (unhide HSk2).own ⟨w1.heap.size, 0, none⟩ 1 1 [sv (ratText z)] rfl rfl (snews_at rfl _ _) (one_sv _) (by unfold maxLen; omega) (by omega) (by simp; omega) ?_)
            intro v' w4 hown4 hgr4 _
            have hm4 := (unhide HSk2).more (by rw [krow_len]; exact hown4) hgr4
            rw [krow_snoc] at hm4
            obtain ⟨ao4, cp4, rfl⟩ := hm4.shape
            rw [krow_len] at hm4 ⊢
            have HM4 := hide hm4
            clear hown4 hgr4 hm4
            go_wp2_with fail
            go_roundg (xs.length - (ms.length + 1))
            case measure => rw [unhide HK]; omega
            case rel => exact ⟨ms ++ [z], ao4, cp4, by simp, by simp; omega, by simp, rfl, by rw [unhide HZ]; simp, unhide HS, unhide HM4⟩
          · have HZ := hide (show build f xs.length [] = .error q by rw [unhide HSt, hz])
            have HQ := hide hq
            have hq' : (q == 0) = false := by rw [beq_eq_false_iff_ne]; exact hq
            clear hz hq
            go_wp2_with fail
            exact bodyPost_ret (v := .tuple #[.slice none 0 0, .int .i64 q]) (by simp [results, Tryz.results17, go_sem]) rfl ⟨none, 0, 0, q, rfl, (unhide HSk1).bel, Or.inr ⟨unhide HZ, unhide HQ⟩⟩
        · have hlt' : ¬ (ms.length : Int) < (xs.length : Int) := by omega
          have HZ := hide (show build f xs.length [] = .ok ms by rw [unhide HBu, show xs.length - ms.length = 0 by omega]; rfl)
          clear hsk
          go_wp2_with fail
          exact bodyPost_ret (v := .tuple #[.slice mo ms.length mc, .int .i64 0]) (by simp [results, Tryz.results17, go_sem]) rfl ⟨mo, ms.length, mc, 0, rfl, (unhide HSk).bel, Or.inl ⟨ms, unhide HZ, unhide HMs, rfl, SkIs.sis (w0 := w) (by rw [krow_len]; exact unhide HSk), rfl⟩⟩
end Go.Proofs.YtikiaijgcjjloaaGreatDoor

/- The walks of the laws without the document's answer: what comes makes is what the part makes (written by mk_kp7.py). -/
namespace Go.Proofs.YtikiaijgcjjloaaGreatDoor
open Go Go.RowKit M T Go.Lib

theorem each_map {G : Rat → Except Int Rat} {h : Rat → Rat} : ∀ l : List Rat, (∀ x ∈ l, G x = .ok (h x)) → each G l = .ok (l.map h)
  | [], _ => rfl
  | x :: l, hh => by
    rw [each, hh x (List.mem_cons_self ..), each_map l (fun y hy => hh y (List.mem_cons_of_mem _ hy))]
    rfl
def oneF (G : Rat → Except Int Rat) (xs : List Rat) : Nat → List Rat → Except Int Rat := fun i _ => G (xs.getD i 0)
theorem build_one (G : Rat → Except Int Rat) (xs : List Rat) : ∀ (rest pre ms : List Rat), xs = pre ++ rest → pre.length = ms.length → build (oneF G xs) rest.length ms = match each G rest with | .error e => .error e | .ok ys => .ok (ms ++ ys)
  | [], pre, ms, _, _ => by simp [build, each]
  | x :: rest, pre, ms, h, hl => by
    have e0 : xs.getD ms.length 0 = x := by rw [h, ← hl]; simp
    have e1 : oneF G xs ms.length ms = G x := by unfold oneF; rw [e0]
    rw [List.length_cons, build, e1, each]
    cases hG : G x with
    | error e => rfl
    | ok y =>
      show build (oneF G xs) rest.length (ms ++ [y]) = _
      rw [build_one G xs rest (pre ++ [x]) (ms ++ [y]) (by rw [h]; simp) (by simp [hl])]
      cases each G rest with
      | error e => rfl
      | ok ys => simp
theorem build_each (G : Rat → Except Int Rat) (xs : List Rat) : build (oneF G xs) xs.length [] = each G xs := by
  rw [build_one G xs xs [] [] rfl rfl]
  cases each G xs <;> rfl
def nextF (G : Rat → Rat → Except Int Rat) (xs : List Rat) : Nat → List Rat → Except Int Rat := fun i ms => if i = 0 then .ok (xs.getD 0 0) else G (ms.getD (i - 1) 0) (xs.getD i 0)
theorem build_next (G : Rat → Rat → Except Int Rat) (xs : List Rat) : ∀ (rest pre ms : List Rat) (a : Rat), xs = pre ++ rest → pre.length = ms.length + 1 → build (nextF G xs) rest.length (ms ++ [a]) = match scan G a rest with | .error e => .error e | .ok ys => .ok (ms ++ a :: ys)
  | [], pre, ms, a, _, _ => by simp [build, scan]
  | x :: rest, pre, ms, a, h, hl => by
    have e0 : xs.getD (ms ++ [a]).length 0 = x := by rw [h, List.length_append, List.length_singleton, ← hl]; simp
    have e2 : (ms ++ [a]).getD ((ms ++ [a]).length - 1) 0 = a := by simp
    have e1 : nextF G xs (ms ++ [a]).length (ms ++ [a]) = G a x := by
      unfold nextF
      rw [if_neg (by simp), e0, e2]
    rw [List.length_cons, build, e1, scan]
    cases hG : G a x with
    | error e => rfl
    | ok y =>
      show build (nextF G xs) rest.length ((ms ++ [a]) ++ [y]) = _
      rw [build_next G xs rest (pre ++ [x]) (ms ++ [a]) y (by rw [h]; simp) (by simp [hl])]
      cases hsc : scan G y rest with
      | error e => simp [hsc]
      | ok ys => simp [hsc]
theorem build_scan (G : Rat → Rat → Except Int Rat) (xs : List Rat) : build (nextF G xs) xs.length [] = headed (scan G) xs := by
  cases xs with
  | nil => rfl
  | cons x l =>
    show build (nextF G (x :: l)) l.length [x] = _
    rw [show [x] = [] ++ [x] from rfl, build_next G (x :: l) l [x] [] x rfl rfl, headed]
    cases scan G x l <;> rfl
def prevF (G : Rat → Rat → Except Int Rat) (xs : List Rat) : Nat → List Rat → Except Int Rat := fun i _ => if i = 0 then .ok (xs.getD 0 0) else G (xs.getD (i - 1) 0) (xs.getD i 0)
theorem build_prev (G : Rat → Rat → Except Int Rat) (xs : List Rat) : ∀ (rest pre ms : List Rat) (p : Rat), xs = pre ++ p :: rest → pre.length + 1 = ms.length → build (prevF G xs) rest.length ms = match diff G p rest with | .error e => .error e | .ok ys => .ok (ms ++ ys)
  | [], pre, ms, p, _, _ => by simp [build, diff]
  | x :: rest, pre, ms, p, h, hl => by
    have e0 : xs.getD ms.length 0 = x := by
      rw [h, ← hl, show pre ++ p :: x :: rest = (pre ++ [p]) ++ x :: rest by simp, show pre.length + 1 = (pre ++ [p]).length by simp]
      simp
    have e2 : xs.getD (ms.length - 1) 0 = p := by rw [h, ← hl]; simp
    have e1 : prevF G xs ms.length ms = G p x := by
      unfold prevF
      rw [if_neg (by omega), e0, e2]
    rw [List.length_cons, build, e1, diff]
    cases hG : G p x with
    | error e => rfl
    | ok y =>
      show build (prevF G xs) rest.length (ms ++ [y]) = _
      rw [build_prev G xs rest (pre ++ [p]) (ms ++ [y]) x (by rw [h]; simp) (by simp [hl])]
      cases diff G x rest with
      | error e => rfl
      | ok ys => simp
theorem build_diff (G : Rat → Rat → Except Int Rat) (xs : List Rat) : build (prevF G xs) xs.length [] = headed (diff G) xs := by
  cases xs with
  | nil => rfl
  | cons x l =>
    show build (prevF G (x :: l)) l.length [x] = _
    rw [build_prev G (x :: l) l [] [x] x rfl rfl, headed]
    cases diff G x l <;> rfl

theorem bec_one {K : Int} {c : Rat} {xs : List Rat} {G : Rat → Except Int Rat} (hs : ∀ x ∈ xs, small x = true) (hn : xs.length ≤ 1000)
    (h : ∀ {x : Rat} {g n cp i : Nat} (_ : small x = true) (_ : i < n) (_ : n ≤ 1000) (ma : Option Addr) (mn mc : Nat) (w : World) (_ : w.cell? ⟨g, i, none⟩ = some (.string (rt x))) (_ : Tab w), Calls Tryz.prog 33 #[.int .u8 K, .string (rt c), .slice (some ⟨g, 0, none⟩) n cp, .int .i64 (i : Int), .slice ma mn mc] w fun e w' => TGot (G x) e ∧ Below w.heap.size w w') : Bec K c xs (oneF G xs) := by
  intro i hi ms _ _ w g cp ao mc hl _ ht
  obtain ⟨g', hg, _, hcell⟩ := hl.num (by omega)
  cases hg
  have e : xs.getD i 0 = xs[i] := by simp [hi]
  unfold oneF
  rw [e]
  exact h (hs _ (List.getElem_mem hi)) hi hn ao ms.length mc w (hcell i hi) ht
theorem bec_n {c : Rat} {xs : List Rat} (hs : ∀ x ∈ xs, small x = true) (hn : xs.length ≤ 1000) : Bec 110 c xs (oneF (fun x => lim (x * -1)) xs) :=
  bec_one hs hn fun h1 h2 h3 ma mn mc w h4 h5 => became_n h1 h2 h3 ma mn mc w h4 h5
theorem bec_v {c : Rat} {xs : List Rat} (hs : ∀ x ∈ xs, small x = true) (hn : xs.length ≤ 1000) : Bec 118 c xs (oneF (overE) xs) :=
  bec_one hs hn fun h1 h2 h3 ma mn mc w h4 h5 => became_v h1 h2 h3 ma mn mc w h4 h5
theorem bec_w {c : Rat} {xs : List Rat} (hs : ∀ x ∈ xs, small x = true) (hn : xs.length ≤ 1000) : Bec 119 c xs (oneF (rootE) xs) :=
  bec_one hs hn fun h1 h2 h3 ma mn mc w h4 h5 => became_w h1 h2 h3 ma mn mc w h4 h5
theorem bec_q {c : Rat} {xs : List Rat} (hs : ∀ x ∈ xs, small x = true) (hn : xs.length ≤ 1000) : Bec 113 c xs (oneF (fun x => lim (x * x)) xs) :=
  bec_one hs hn fun h1 h2 h3 ma mn mc w h4 h5 => became_q h1 h2 h3 ma mn mc w h4 h5
theorem bec_u {c : Rat} {xs : List Rat} (hs : ∀ x ∈ xs, small x = true) (hn : xs.length ≤ 1000) : Bec 117 c xs (oneF (kuE) xs) :=
  bec_one hs hn fun h1 h2 h3 ma mn mc w h4 h5 => became_u h1 h2 h3 ma mn mc w h4 h5
theorem bec_a {c : Rat} {xs : List Rat} (hs : ∀ x ∈ xs, small x = true) (hn : xs.length ≤ 1000) : Bec 97 c xs (oneF kaE xs) :=
  bec_one hs hn fun h1 h2 h3 ma mn mc w h4 _ => became_a h1 h2 h3 ma mn mc w h4
theorem bec_plus {c : Rat} {xs : List Rat} (hc : small c = true) (hs : ∀ x ∈ xs, small x = true) (hn : xs.length ≤ 1000) : Bec 43 c xs (oneF (fun x => lim (x + c)) xs) :=
  bec_one hs hn fun h1 h2 h3 ma mn mc w h4 h5 => became_plus h1 hc h2 h3 ma mn mc w h4 h5
theorem bec_times {c : Rat} {xs : List Rat} (hc : small c = true) (hs : ∀ x ∈ xs, small x = true) (hn : xs.length ≤ 1000) : Bec 42 c xs (oneF (fun x => lim (x * c)) xs) :=
  bec_one hs hn fun h1 h2 h3 ma mn mc w h4 h5 => became_times h1 hc h2 h3 ma mn mc w h4 h5
theorem bec_set {c : Rat} {xs : List Rat} (hc : small c = true) (hs : ∀ x ∈ xs, small x = true) (hn : xs.length ≤ 1000) : Bec 61 c xs (oneF (fun _ => .ok c) xs) :=
  bec_one hs hn fun h1 h2 h3 ma mn mc w h4 _ => became_set h1 hc h2 h3 ma mn mc w h4
theorem bec_s {c : Rat} {xs : List Rat} (hs : ∀ x ∈ xs, small x = true) (hn : xs.length ≤ 1000) : Bec 115 c xs (nextF addE xs) := by
  intro i hi ms hm hms w g cp ao mc hl hl2 ht
  obtain ⟨g', hg, _, hcell⟩ := hl.num (by omega)
  cases hg
  have e : xs.getD i 0 = xs[i] := by simp [hi]
  unfold nextF
  by_cases h0 : i = 0
  · subst h0
    rw [if_pos rfl, e]
    exact first_s (hs _ (List.getElem_mem hi)) hi hn ao ms.length mc w (hcell 0 hi)
  · obtain ⟨h, rfl, _, hcell2⟩ := hl2.num (by omega)
    have e2 : ms.getD (i - 1) 0 = ms[i - 1]'(by omega) := by simp [show i - 1 < ms.length by omega]
    rw [if_neg h0, e, e2]
    exact later_s (hs _ (List.getElem_mem hi)) (hms _ (List.getElem_mem _)) hi (by omega) hn ms.length mc (by omega) w (hcell i hi) (hcell2 (i - 1) (by omega)) ht
theorem bec_p {c : Rat} {xs : List Rat} (hs : ∀ x ∈ xs, small x = true) (hn : xs.length ≤ 1000) : Bec 112 c xs (nextF mulE xs) := by
  intro i hi ms hm hms w g cp ao mc hl hl2 ht
  obtain ⟨g', hg, _, hcell⟩ := hl.num (by omega)
  cases hg
  have e : xs.getD i 0 = xs[i] := by simp [hi]
  unfold nextF
  by_cases h0 : i = 0
  · subst h0
    rw [if_pos rfl, e]
    exact first_p (hs _ (List.getElem_mem hi)) hi hn ao ms.length mc w (hcell 0 hi)
  · obtain ⟨h, rfl, _, hcell2⟩ := hl2.num (by omega)
    have e2 : ms.getD (i - 1) 0 = ms[i - 1]'(by omega) := by simp [show i - 1 < ms.length by omega]
    rw [if_neg h0, e, e2]
    exact later_p (hs _ (List.getElem_mem hi)) (hms _ (List.getElem_mem _)) hi (by omega) hn ms.length mc (by omega) w (hcell i hi) (hcell2 (i - 1) (by omega)) ht
theorem bec_m {c : Rat} {xs : List Rat} (hs : ∀ x ∈ xs, small x = true) (hn : xs.length ≤ 1000) : Bec 109 c xs (nextF mulE xs) := by
  intro i hi ms hm hms w g cp ao mc hl hl2 ht
  obtain ⟨g', hg, _, hcell⟩ := hl.num (by omega)
  cases hg
  have e : xs.getD i 0 = xs[i] := by simp [hi]
  unfold nextF
  by_cases h0 : i = 0
  · subst h0
    rw [if_pos rfl, e]
    exact first_m (hs _ (List.getElem_mem hi)) hi hn ao ms.length mc w (hcell 0 hi)
  · obtain ⟨h, rfl, _, hcell2⟩ := hl2.num (by omega)
    have e2 : ms.getD (i - 1) 0 = ms[i - 1]'(by omega) := by simp [show i - 1 < ms.length by omega]
    rw [if_neg h0, e, e2]
    exact later_m (hs _ (List.getElem_mem hi)) (hms _ (List.getElem_mem _)) hi (by omega) hn ms.length mc (by omega) w (hcell i hi) (hcell2 (i - 1) (by omega)) ht
theorem bec_z {c : Rat} {xs : List Rat} (hs : ∀ x ∈ xs, small x = true) (hn : xs.length ≤ 1000) : Bec 122 c xs (prevF subE xs) := by
  intro i hi ms _ _ w g cp ao mc hl _ ht
  obtain ⟨g', hg, _, hcell⟩ := hl.num (by omega)
  cases hg
  have e : xs.getD i 0 = xs[i] := by simp [hi]
  unfold prevF
  by_cases h0 : i = 0
  · subst h0
    rw [if_pos rfl, e]
    exact first_z (hs _ (List.getElem_mem hi)) hi hn ao ms.length mc w (hcell 0 hi)
  · have e2 : xs.getD (i - 1) 0 = xs[i - 1]'(by omega) := by simp [show i - 1 < xs.length by omega]
    rw [if_neg h0, e, e2]
    exact later_z (hs _ (List.getElem_mem hi)) (hs _ (List.getElem_mem _)) hi (by omega) hn ao ms.length mc w (hcell i hi) (hcell (i - 1) (by omega)) ht
theorem bec_o {c : Rat} {xs : List Rat} (hs : ∀ x ∈ xs, small x = true) (hn : xs.length ≤ 1000) : Bec 111 c xs (prevF divE xs) := by
  intro i hi ms _ _ w g cp ao mc hl _ ht
  obtain ⟨g', hg, _, hcell⟩ := hl.num (by omega)
  cases hg
  have e : xs.getD i 0 = xs[i] := by simp [hi]
  unfold prevF
  by_cases h0 : i = 0
  · subst h0
    rw [if_pos rfl, e]
    exact first_o (hs _ (List.getElem_mem hi)) hi hn ao ms.length mc w (hcell 0 hi)
  · have e2 : xs.getD (i - 1) 0 = xs[i - 1]'(by omega) := by simp [show i - 1 < xs.length by omega]
    rw [if_neg h0, e, e2]
    exact later_o (hs _ (List.getElem_mem hi)) (hs _ (List.getElem_mem _)) hi (by omega) hn ao ms.length mc w (hcell i hi) (hcell (i - 1) (by omega)) ht
/-- The parts that work item by item, and their letters. -/
inductive ComesBy (c : Rat) : Sp → Int → Prop
  | n : ComesBy c .n 110
  | v : ComesBy c .v 118
  | a : ComesBy c .a 97
  | q : ComesBy c .q 113
  | w : ComesBy c .w 119
  | u : ComesBy c .u 117
  | s : ComesBy c .s 115
  | z : ComesBy c .z 122
  | p : ComesBy c .p 112
  | m : ComesBy c .m 109
  | o : ComesBy c .o 111
  | plus : ComesBy c (.plus c) 43
  | times : ComesBy c (.times c) 42
  | set : ComesBy c (.set c) 61
theorem TLGot.of {w : World} {r r' : Except Int (List Rat)} {e : Ending} {w' : World} (h : r = r') (g : TLGot w r e w') : TLGot w r' e w' := h ▸ g
theorem comes_any {x : Sp} {K : Int} {c : Rat} {xs : List Rat} {ao : Option Addr} {cp : Nat} {w : World} (hx : ComesBy c x K) (hc : small c = true) (hs : ∀ x ∈ xs, small x = true) (hn : xs.length ≤ 1000) (hl : SIs w ao cp (krow xs)) (ht : Tab w) :
    Calls Tryz.prog 17 #[.int .u8 K, .string (rt c), .slice ao xs.length cp] w fun e w' => TLGot w (x.work xs) e w' := by
  cases hx with
  | n => exact (comes_other rfl (bec_n hs hn) hn hl ht).mono fun e w' g => g.of (by rw [build_each]; exact each_map xs fun x hx => by rw [mul_minus, lim, if_pos (small_neg (hs x hx))])
  | v => exact (comes_other rfl (bec_v hs hn) hn hl ht).mono fun e w' g => g.of (build_each _ _)
  | a => exact (comes_other rfl (bec_a hs hn) hn hl ht).mono fun e w' g => g.of (by rw [build_each]; exact each_map xs fun x _ => by unfold kaE; split <;> rfl)
  | q => exact (comes_other rfl (bec_q hs hn) hn hl ht).mono fun e w' g => g.of (build_each _ _)
  | w => exact (comes_other rfl (bec_w hs hn) hn hl ht).mono fun e w' g => g.of (build_each _ _)
  | u => exact (comes_other rfl (bec_u hs hn) hn hl ht).mono fun e w' g => g.of (build_each _ _)
  | s => exact (comes_other rfl (bec_s hs hn) hn hl ht).mono fun e w' g => g.of (build_scan _ _)
  | z => exact (comes_other rfl (bec_z hs hn) hn hl ht).mono fun e w' g => g.of (build_diff _ _)
  | p => exact (comes_other rfl (bec_p hs hn) hn hl ht).mono fun e w' g => g.of (build_scan _ _)
  | m => exact (comes_m (bec_m hs hn) hn hs hl ht).mono fun e w' g => g.of (by rw [build_scan]; rfl)
  | o => exact (comes_other rfl (bec_o hs hn) hn hl ht).mono fun e w' g => g.of (build_diff _ _)
  | plus => exact (comes_other rfl (bec_plus hc hs hn) hn hl ht).mono fun e w' g => g.of (build_each _ _)
  | times => exact (comes_other rfl (bec_times hc hs hn) hn hl ht).mono fun e w' g => g.of (build_each _ _)
  | set => exact (comes_other rfl (bec_set hc hs hn) hn hl ht).mono fun e w' g => g.of (by rw [build_each]; exact each_map xs fun x _ => rfl)
end Go.Proofs.YtikiaijgcjjloaaGreatDoor

import Derived.Test.YtikiaijgcjjloaaGreatDoorPart41
import Derived.Test.YtikiaijgcjjloaaGreatDoorPart26

/- The walks of the laws without the document's answer: items moved and picked (written by mk_kp8.py). -/
namespace Go.Proofs.YtikiaijgcjjloaaGreatDoor
open Go Go.RowKit M T Go.Lib

/-- A row of places. -/
structure KpIs (w : World) (po : Option Addr) (pc : Nat) (ps : List Nat) : Prop where
  own : w.ownsRow 0 3 1 (.slice po ps.length pc) ps.length (ps.map fun i : Nat => Value.int .i64 (i : Int))
theorem KpIs.below {w w' : World} {ao : Option Addr} {cp : Nat} {ps : List Nat} (h : KpIs w ao cp ps) (hb : Below w.heap.size w w') : KpIs w' ao cp ps := ⟨sk_owns_below h.own hb⟩
theorem KpIs.cell {w : World} {po : Option Addr} {pc : Nat} {ps : List Nat} (h : KpIs w po pc ps) (hpos : 0 < ps.length) : ∃ gp, po = some ⟨gp, 0, none⟩ ∧ gp < w.heap.size ∧ ∀ j (hj : j < ps.length), w.cell? ⟨gp, j, none⟩ = some (.int .i64 (ps[j] : Int)) := by
  rcases h.own.2 with ⟨_, e⟩ | ⟨gp, cp, cur, hv, _, hh, _⟩
  · omega
  · obtain ⟨rfl, _, rfl⟩ := Value.slice.inj hv
    refine ⟨gp, rfl, lt_of_block hh, fun j hj => ?_⟩
    have := h.own.cells (g := gp) rfl j (.int .i64 (ps[j] : Int)) (by rw [List.getElem?_map, List.getElem?_eq_getElem hj]; rfl)
    rw [show (⟨gp, 0, none⟩ : Addr).add j = ⟨gp, j, none⟩ from by unfold Addr.add; split <;> simp_all] at this
    exact this
theorem SIs.item {w : World} {g cp : Nat} {xs : List Rat} (h : SIs w (some ⟨g, 0, none⟩) cp (krow xs)) {j : Nat} (hj : j < xs.length) : w.cell? ⟨g, j, none⟩ = some (.string ⟨(ratText xs[j]).toArray⟩) := by
  obtain ⟨g', hg, _, hcell⟩ := h.num (by omega)
  cases hg
  exact hcell j hj

set_option maxRecDepth 100000 in
set_option maxHeartbeats 1600000 in
theorem moved_r {xs : List Rat} {ao po : Option Addr} {cp pc : Nat} {w : World} {k : Int} {ps : List Nat} (hs : ∀ x ∈ xs, small x = true) (hn : xs.length ≤ 1000) (hl : SIs w ao cp (krow xs)) : Calls Tryz.prog 16 #[.int .u8 114, .int .i64 k, .slice po ps.length pc, .slice ao xs.length cp] w fun e w' => TLGot w (Sp.work .r xs) e w' := by
  obtain ⟨i0, hi0, hz0, hz1, hz2⟩ := info_parts Tryz.infoStr
  have HL := hide hl
  have HS := hide hs
  clear hl hs
  go_enter Tryz.func16, Tryz.ntmps16
  go_wp2_with fail
  go_loopg [10, 12] xs.length (fun kk v10 v12 wr => ∃ (m : Nat) (ms : List Rat) (mo : Option Addr) (mc : Nat), kk = m ∧ m ≤ xs.length ∧ v12 = .int .i64 ((m : Int) - 1) ∧ ms = (xs.drop m).reverse ∧ v10 = .slice mo ms.length mc ∧ (∀ y ∈ ms, small y = true) ∧ SkIs w (.slice mo ms.length mc) (krow ms) wr)
  case atStart => exact ⟨xs.length, [], none, 0, rfl, Nat.le_refl _, rfl, by simp, rfl, fun _ h => absurd h List.not_mem_nil, SkIs.start w⟩
  case round =>
    obtain ⟨m, ms, mo, mc, hk, hm, rfl, he, rfl, hms, hsk⟩ := hrel
    have HK := hide hk
    have HE := hide he
    have HMs := hide hms
    have HSk := hide hsk
    have hmsl : ms.length ≤ 1000 := by rw [he]; simp; omega
    have hbl := hsk.bel
    clear hk he hms hsk
    by_cases hlt : 0 < m
    · have h1 : (0 : Int) ≤ (m : Int) - 1 := by omega
      have h2 : (m : Int) - 1 < (xs.length : Int) := by omega
      have h3 : ((m : Int) - 1).toNat = m - 1 := by omega
      obtain ⟨g, rfl, _, _⟩ := (unhide HL).num (by omega)
      have c0 := ((unhide HL).below hbl).item (show m - 1 < xs.length by omega)
      have hzs := unhide HS xs[m - 1] (List.getElem_mem _)
      have HX := hide (show ms ++ [xs[m - 1]] = (xs.drop (m - 1)).reverse by
        rw [List.drop_eq_getElem_cons (show m - 1 < xs.length by omega), show m - 1 + 1 = m by omega, List.reverse_cons, unhide HE])
      have hsz := hbl.size
      clear hbl
      generalize xs[m - 1] = z at c0 hzs HX
      have HMs2 := hide (show ∀ y ∈ ms ++ [z], small y = true by
        intro y hy
        rcases List.mem_append.1 hy with h1 | h1
        · exact unhide HMs y h1
        · rw [List.mem_singleton.1 h1]; exact hzs)
      clear hzs
      have HSk2 := hide ((unhide HSk).below ((Below.refl _ _).alloc (Nat.le_refl _) (.cells [sv (ratText z)].toArray 9)))
      have hln := krow_len ms
      go_wp2_with (at_builtin; refine wpList_append_own _ rfl _ _ 29 rfl w.heap.size 9 i0 _ 1 16 Tryz.underlying29 hi0 hz0 hz1 hz2 rfl (by decide) _ _ _ rfl (unhide HSk2).own ⟨wr.heap.size, 0, none⟩ 1 1 [sv (ratText z)] rfl rfl (snews_at rfl _ _) (one_sv _) (by unfold maxLen; omega) (by omega) (by simp; omega) ?_)
      intro v' w4 hown4 hgr4 _
      have hm4 := (unhide HSk2).more (by rw [krow_len]; exact hown4) hgr4
      rw [krow_snoc] at hm4
      obtain ⟨ao4, cp4, rfl⟩ := hm4.shape
      rw [krow_len] at hm4 ⊢
      have HM4 := hide hm4
      clear hown4 hgr4 hm4
      go_wp2_with fail
      go_roundg (m - 1)
      case measure => rw [unhide HK]; omega
      case rel => exact ⟨m - 1, ms ++ [z], ao4, cp4, rfl, by omega, by congr 1; omega, unhide HX, rfl, unhide HMs2, unhide HM4⟩
    · have h1 : ¬ (0 : Int) ≤ (m : Int) - 1 := by omega
      have HF := hide (show xs.reverse = ms by rw [unhide HE, show m = 0 by omega]; rfl)
      clear hbl
      go_wp2_with fail
      exact bodyPost_ret (v := .tuple #[.slice mo ms.length mc, .int .i64 0]) (by simp [results, Tryz.results16, go_sem]) rfl ⟨mo, ms.length, mc, 0, rfl, (unhide HSk).bel, Or.inl ⟨ms, by rw [← unhide HF]; rfl, unhide HMs, rfl, SkIs.sis (w0 := w) (by rw [krow_len]; exact unhide HSk), rfl⟩⟩

set_option maxRecDepth 100000 in
set_option maxHeartbeats 1600000 in
theorem moved_shift {xs : List Rat} {ao po : Option Addr} {cp pc : Nat} {w : World} {k : Int} {ps : List Nat} (hk1 : -1000 ≤ k) (hk2 : k ≤ 1000) (hs : ∀ x ∈ xs, small x = true) (hn : xs.length ≤ 1000) (hl : SIs w ao cp (krow xs)) : Calls Tryz.prog 16 #[.int .u8 60, .int .i64 k, .slice po ps.length pc, .slice ao xs.length cp] w fun e w' => TLGot w (Sp.work (.shift k) xs) e w' := by
  obtain ⟨i0, hi0, hz0, hz1, hz2⟩ := info_parts Tryz.infoStr
  have HL := hide hl
  have HS := hide hs
  clear hl hs
  go_enter Tryz.func16, Tryz.ntmps16
  go_wp2_with fail
  go_loopg [10, 13] xs.length (fun kk v10 v13 wr => ∃ (i : Nat) (ms : List Rat) (mo : Option Addr) (mc : Nat), kk = xs.length - i ∧ i ≤ xs.length ∧ v13 = .int .i64 (i : Int) ∧ ms = (turn k xs).take i ∧ v10 = .slice mo ms.length mc ∧ (∀ y ∈ ms, small y = true) ∧ SkIs w (.slice mo ms.length mc) (krow ms) wr)
  case atStart => exact ⟨0, [], none, 0, rfl, Nat.zero_le _, rfl, by simp, rfl, fun _ h => absurd h List.not_mem_nil, SkIs.start w⟩
  case round =>
    obtain ⟨i, ms, mo, mc, hk, hi, rfl, he, rfl, hms, hsk⟩ := hrel
    have HK := hide hk
    have HE := hide he
    have HMs := hide hms
    have HSk := hide hsk
    have hmsl : ms.length ≤ 1000 := by rw [he, List.length_take, turn_length]; omega
    have hbl := hsk.bel
    clear hk he hms hsk
    by_cases hlt : i < xs.length
    · have hlt' : (i : Int) < (xs.length : Int) := by omega
      have hz : ((xs.length : Int) == 0) = false := by rw [beq_eq_false_iff_ne]; omega
      have hfl : fromN k xs.length i < xs.length := fromN_lt (by omega)
      obtain ⟨g, rfl, _, _⟩ := (unhide HL).num (by omega)
      have c0 := ((unhide HL).below hbl).item hfl
      have hzs := unhide HS xs[fromN k xs.length i] (List.getElem_mem _)
      have htg := turn_get k xs i hlt
      rw [List.getElem?_eq_getElem hfl] at htg
      obtain ⟨htl, hte⟩ := List.getElem?_eq_some_iff.1 htg
      have HX := hide (show ms ++ [xs[fromN k xs.length i]] = (turn k xs).take (i + 1) by rw [List.take_succ_eq_append_getElem htl, hte, unhide HE])
      have hr1 : (((i : Int) + k).tmod (xs.length : Int) + (xs.length : Int)).tmod (xs.length : Int) = ((fromN k xs.length i : Nat) : Int) := by
        rw [rem_twice _ _ (by omega)]
        have h1 := Int.emod_nonneg ((i : Int) + k) (b := (xs.length : Int)) (by omega)
        unfold fromN
        omega
      have hr2 : -1000 ≤ ((i : Int) + k).tmod (xs.length : Int) ∧ ((i : Int) + k).tmod (xs.length : Int) ≤ 1000 := by
        have a1 := Int.tmod_lt_of_pos ((i : Int) + k) (show (0 : Int) < (xs.length : Int) by omega)
        have a2 := Int.lt_tmod_of_pos ((i : Int) + k) (show (0 : Int) < (xs.length : Int) by omega)
        omega
      have hsz := hbl.size
      clear hbl htg htl hte
      generalize xs[fromN k xs.length i] = z at c0 hzs HX
      generalize fromN k xs.length i = q at c0 hfl hr1
      have hq' : (q : Int) < (xs.length : Int) := by omega
      have HMs2 := hide (show ∀ y ∈ ms ++ [z], small y = true by
        intro y hy
        rcases List.mem_append.1 hy with h1 | h1
        · exact unhide HMs y h1
        · rw [List.mem_singleton.1 h1]; exact hzs)
      clear hzs
      have HSk2 := hide ((unhide HSk).below ((Below.refl _ _).alloc (Nat.le_refl _) (.cells [sv (ratText z)].toArray 9)))
      have hln := krow_len ms
      go_wp2_with (at_builtin; refine wpList_append_own _ rfl _ _ 29 rfl w.heap.size 9 i0 _ 1 16 Tryz.underlying29 hi0 hz0 hz1 hz2 rfl (by decide) _ _ _ rfl (unhide HSk2).own ⟨wr.heap.size, 0, none⟩ 1 1 [sv (ratText z)] rfl rfl (snews_at rfl _ _) (one_sv _) (by unfold maxLen; omega) (by omega) (by simp; omega) ?_)
      intro v' w4 hown4 hgr4 _
      have hm4 := (unhide HSk2).more (by rw [krow_len]; exact hown4) hgr4
      rw [krow_snoc] at hm4
      obtain ⟨ao4, cp4, rfl⟩ := hm4.shape
      rw [krow_len] at hm4 ⊢
      have HM4 := hide hm4
      clear hown4 hgr4 hm4
      go_wp2_with fail
      go_roundg (xs.length - (i + 1))
      case measure => rw [unhide HK]; omega
      case rel => exact ⟨i + 1, ms ++ [z], ao4, cp4, rfl, by omega, rfl, unhide HX, rfl, unhide HMs2, unhide HM4⟩
    · have hlt' : ¬ (i : Int) < (xs.length : Int) := by omega
      have HF := hide (show turn k xs = ms by rw [unhide HE]; exact (List.take_of_length_le (by rw [turn_length]; omega)).symm)
      clear hbl
      go_wp2_with fail
      exact bodyPost_ret (v := .tuple #[.slice mo ms.length mc, .int .i64 0]) (by simp [results, Tryz.results16, go_sem]) rfl ⟨mo, ms.length, mc, 0, rfl, (unhide HSk).bel, Or.inl ⟨ms, by rw [← unhide HF]; rfl, unhide HMs, rfl, SkIs.sis (w0 := w) (by rw [krow_len]; exact unhide HSk), rfl⟩⟩

set_option maxRecDepth 100000 in
set_option maxHeartbeats 1600000 in
theorem moved_take {xs : List Rat} {ao po : Option Addr} {cp pc : Nat} {w : World} {k : Nat} {ps : List Nat} (_ : k ≤ 1000) (hs : ∀ x ∈ xs, small x = true) (hn : xs.length ≤ 1000) (hl : SIs w ao cp (krow xs)) : Calls Tryz.prog 16 #[.int .u8 116, .int .i64 (k : Int), .slice po ps.length pc, .slice ao xs.length cp] w fun e w' => TLGot w (Sp.work (.take k) xs) e w' := by
  obtain ⟨i0, hi0, hz0, hz1, hz2⟩ := info_parts Tryz.infoStr
  have HL := hide hl
  have HS := hide hs
  clear hl hs
  by_cases hkn : k ≤ xs.length
  · have hkn' : ¬ (xs.length : Int) < (k : Int) := by omega
    go_enter Tryz.func16, Tryz.ntmps16
    go_wp2_with fail
    go_loopg [10, 14] xs.length (fun kk v10 v14 wr => ∃ (i : Nat) (ms : List Rat) (mo : Option Addr) (mc : Nat), kk = xs.length - i ∧ i ≤ xs.length ∧ v14 = .int .i64 (i : Int) ∧ ms = (xs.take k).take i ∧ v10 = .slice mo ms.length mc ∧ (∀ y ∈ ms, small y = true) ∧ SkIs w (.slice mo ms.length mc) (krow ms) wr)
    case atStart => exact ⟨0, [], none, 0, rfl, Nat.zero_le _, rfl, by simp, rfl, fun _ h => absurd h List.not_mem_nil, SkIs.start w⟩
    case round =>
      obtain ⟨i, ms, mo, mc, hk, hi, rfl, he, rfl, hms, hsk⟩ := hrel
      have HK := hide hk
      have HE := hide he
      have HMs := hide hms
      have HSk := hide hsk
      have hmsl : ms.length ≤ 1000 := by rw [he]; simp; omega
      have hbl := hsk.bel
      clear hk he hms hsk
      by_cases hlt : i < xs.length
      · have hlt' : (i : Int) < (xs.length : Int) := by omega
        obtain ⟨g, rfl, _, _⟩ := (unhide HL).num (by omega)
        by_cases hik : i < k
        · have hik' : (i : Int) < (k : Int) := by omega
          have c0 := ((unhide HL).below hbl).item hlt
          have hzs := unhide HS xs[i] (List.getElem_mem _)
          have HX := hide (show ms ++ [xs[i]] = (xs.take k).take (i + 1) by rw [List.take_take, Nat.min_eq_left (by omega), List.take_succ_eq_append_getElem hlt, unhide HE, List.take_take, Nat.min_eq_left (by omega)])
          have hsz := hbl.size
          clear hbl
          generalize xs[i] = z at c0 hzs HX
          have HMs2 := hide (show ∀ y ∈ ms ++ [z], small y = true by
            intro y hy
            rcases List.mem_append.1 hy with h1 | h1
            · exact unhide HMs y h1
            · rw [List.mem_singleton.1 h1]; exact hzs)
          clear hzs
          have HSk2 := hide ((unhide HSk).below ((Below.refl _ _).alloc (Nat.le_refl _) (.cells [sv (ratText z)].toArray 9)))
          have hln := krow_len ms
          go_wp2_with (at_builtin; refine wpList_append_own _ rfl _ _ 29 rfl w.heap.size 9 i0 _ 1 16 Tryz.underlying29 hi0 hz0 hz1 hz2 rfl (by decide) _ _ _ rfl (unhide HSk2).own ⟨wr.heap.size, 0, none⟩ 1 1 [sv (ratText z)] rfl rfl (snews_at rfl _ _) (one_sv _) (by unfold maxLen; omega) (by omega) (by simp; omega) ?_)
          intro v' w4 hown4 hgr4 _
          have hm4 := (unhide HSk2).more (by rw [krow_len]; exact hown4) hgr4
          rw [krow_snoc] at hm4
          obtain ⟨ao4, cp4, rfl⟩ := hm4.shape
          rw [krow_len] at hm4 ⊢
          have HM4 := hide hm4
          clear hown4 hgr4 hm4
          go_wp2_with fail
          go_roundg (xs.length - (i + 1))
          case measure => rw [unhide HK]; omega
          case rel => exact ⟨i + 1, ms ++ [z], ao4, cp4, rfl, by omega, rfl, unhide HX, rfl, unhide HMs2, unhide HM4⟩
        · have hik' : ¬ (i : Int) < (k : Int) := by omega
          have HX := hide (show ms = (xs.take k).take (i + 1) by rw [unhide HE, List.take_take, List.take_take, Nat.min_eq_right (by omega), Nat.min_eq_right (by omega)])
          clear hbl
          go_wp2_with fail
          go_roundg (xs.length - (i + 1))
          case measure => rw [unhide HK]; omega
          case rel => exact ⟨i + 1, ms, mo, mc, rfl, by omega, rfl, unhide HX, rfl, unhide HMs, unhide HSk⟩
      · have hlt' : ¬ (i : Int) < (xs.length : Int) := by omega
        have HF := hide (show xs.take k = ms by rw [unhide HE]; exact (List.take_of_length_le (by rw [List.length_take]; omega)).symm)
        clear hbl
        go_wp2_with fail
        exact bodyPost_ret (v := .tuple #[.slice mo ms.length mc, .int .i64 0]) (by simp [results, Tryz.results16, go_sem]) rfl ⟨mo, ms.length, mc, 0, rfl, (unhide HSk).bel, Or.inl ⟨ms, by rw [← unhide HF]; exact if_pos hkn, unhide HMs, rfl, SkIs.sis (w0 := w) (by rw [krow_len]; exact unhide HSk), rfl⟩⟩
  · have hkn' : (xs.length : Int) < (k : Int) := by omega
    go_enter Tryz.func16, Tryz.ntmps16
    go_wp2_with fail
    exact bodyPost_ret (v := .tuple #[.slice none 0 0, .int .i64 11]) (by simp [results, Tryz.results16, go_sem]) rfl ⟨none, 0, 0, 11, rfl, Below.refl _ _, Or.inr ⟨if_neg hkn, by decide⟩⟩

set_option maxRecDepth 100000 in
set_option maxHeartbeats 1600000 in
theorem moved_drop {xs : List Rat} {ao po : Option Addr} {cp pc : Nat} {w : World} {k : Nat} {ps : List Nat} (_ : k ≤ 1000) (hs : ∀ x ∈ xs, small x = true) (hn : xs.length ≤ 1000) (hl : SIs w ao cp (krow xs)) : Calls Tryz.prog 16 #[.int .u8 100, .int .i64 (k : Int), .slice po ps.length pc, .slice ao xs.length cp] w fun e w' => TLGot w (Sp.work (.drop k) xs) e w' := by
  obtain ⟨i0, hi0, hz0, hz1, hz2⟩ := info_parts Tryz.infoStr
  have HL := hide hl
  have HS := hide hs
  clear hl hs
  by_cases hkn : k ≤ xs.length
  · have hkn' : ¬ (xs.length : Int) < (k : Int) := by omega
    go_enter Tryz.func16, Tryz.ntmps16
    go_wp2_with fail
    go_loopg [10, 14] xs.length (fun kk v10 v14 wr => ∃ (i : Nat) (ms : List Rat) (mo : Option Addr) (mc : Nat), kk = xs.length - i ∧ i ≤ xs.length ∧ v14 = .int .i64 (i : Int) ∧ ms = (xs.take i).drop k ∧ v10 = .slice mo ms.length mc ∧ (∀ y ∈ ms, small y = true) ∧ SkIs w (.slice mo ms.length mc) (krow ms) wr)
    case atStart => exact ⟨0, [], none, 0, rfl, Nat.zero_le _, rfl, by simp, rfl, fun _ h => absurd h List.not_mem_nil, SkIs.start w⟩
    case round =>
      obtain ⟨i, ms, mo, mc, hk, hi, rfl, he, rfl, hms, hsk⟩ := hrel
      have HK := hide hk
      have HE := hide he
      have HMs := hide hms
      have HSk := hide hsk
      have hmsl : ms.length ≤ 1000 := by rw [he]; simp; omega
      have hbl := hsk.bel
      clear hk he hms hsk
      by_cases hlt : i < xs.length
      · have hlt' : (i : Int) < (xs.length : Int) := by omega
        obtain ⟨g, rfl, _, _⟩ := (unhide HL).num (by omega)
        by_cases hik : i < k
        · have hik' : (i : Int) < (k : Int) := by omega
          have HX := hide (show ms = (xs.take (i + 1)).drop k by rw [unhide HE, List.drop_eq_nil_of_le (by rw [List.length_take]; omega), List.drop_eq_nil_of_le (by rw [List.length_take]; omega)])
          clear hbl
          go_wp2_with fail
          go_roundg (xs.length - (i + 1))
          case measure => rw [unhide HK]; omega
          case rel => exact ⟨i + 1, ms, mo, mc, rfl, by omega, rfl, unhide HX, rfl, unhide HMs, unhide HSk⟩
        · have hik' : ¬ (i : Int) < (k : Int) := by omega
          have c0 := ((unhide HL).below hbl).item hlt
          have hzs := unhide HS xs[i] (List.getElem_mem _)
          have HX := hide (show ms ++ [xs[i]] = (xs.take (i + 1)).drop k by rw [List.take_succ_eq_append_getElem hlt, List.drop_append_of_le_length (by rw [List.length_take]; omega), unhide HE])
          have hsz := hbl.size
          clear hbl
          generalize xs[i] = z at c0 hzs HX
          have HMs2 := hide (show ∀ y ∈ ms ++ [z], small y = true by
            intro y hy
            rcases List.mem_append.1 hy with h1 | h1
            · exact unhide HMs y h1
            · rw [List.mem_singleton.1 h1]; exact hzs)
          clear hzs
          have HSk2 := hide ((unhide HSk).below ((Below.refl _ _).alloc (Nat.le_refl _) (.cells [sv (ratText z)].toArray 9)))
          have hln := krow_len ms
          go_wp2_with (at_builtin; refine wpList_append_own _ rfl _ _ 29 rfl w.heap.size 9 i0 _ 1 16 Tryz.underlying29 hi0 hz0 hz1 hz2 rfl (by decide) _ _ _ rfl (unhide HSk2).own ⟨wr.heap.size, 0, none⟩ 1 1 [sv (ratText z)] rfl rfl (snews_at rfl _ _) (one_sv _) (by unfold maxLen; omega) (by omega) (by simp; omega) ?_)
          intro v' w4 hown4 hgr4 _
          have hm4 := (unhide HSk2).more (by rw [krow_len]; exact hown4) hgr4
          rw [krow_snoc] at hm4
          obtain ⟨ao4, cp4, rfl⟩ := hm4.shape
          rw [krow_len] at hm4 ⊢
          have HM4 := hide hm4
          clear hown4 hgr4 hm4
          go_wp2_with fail
          go_roundg (xs.length - (i + 1))
          case measure => rw [unhide HK]; omega
          case rel => exact ⟨i + 1, ms ++ [z], ao4, cp4, rfl, by omega, rfl, unhide HX, rfl, unhide HMs2, unhide HM4⟩
      · have hlt' : ¬ (i : Int) < (xs.length : Int) := by omega
        have HF := hide (show xs.drop k = ms by rw [unhide HE]; rw [List.take_of_length_le (show xs.length ≤ i by omega)])
        clear hbl
        go_wp2_with fail
        exact bodyPost_ret (v := .tuple #[.slice mo ms.length mc, .int .i64 0]) (by simp [results, Tryz.results16, go_sem]) rfl ⟨mo, ms.length, mc, 0, rfl, (unhide HSk).bel, Or.inl ⟨ms, by rw [← unhide HF]; exact if_pos hkn, unhide HMs, rfl, SkIs.sis (w0 := w) (by rw [krow_len]; exact unhide HSk), rfl⟩⟩
  · have hkn' : (xs.length : Int) < (k : Int) := by omega
    go_enter Tryz.func16, Tryz.ntmps16
    go_wp2_with fail
    exact bodyPost_ret (v := .tuple #[.slice none 0 0, .int .i64 11]) (by simp [results, Tryz.results16, go_sem]) rfl ⟨none, 0, 0, 11, rfl, Below.refl _ _, Or.inr ⟨if_neg hkn, by decide⟩⟩

set_option maxRecDepth 100000 in
set_option maxHeartbeats 1600000 in
theorem moved_pick {xs : List Rat} {ao po : Option Addr} {cp pc : Nat} {w : World} {k : Int} {ps : List Nat} (hpl : ps.length ≤ 1000) (hpb : ∀ i ∈ ps, i ≤ 1000) (hp : KpIs w po pc ps) (hs : ∀ x ∈ xs, small x = true) (hn : xs.length ≤ 1000) (hl : SIs w ao cp (krow xs)) : Calls Tryz.prog 16 #[.int .u8 35, .int .i64 k, .slice po ps.length pc, .slice ao xs.length cp] w fun e w' => TLGot w (Sp.work (.pick ps) xs) e w' := by
  obtain ⟨i0, hi0, hz0, hz1, hz2⟩ := info_parts Tryz.infoStr
  have HL := hide hl
  have HS := hide hs
  clear hl hs
  have HP := hide hp
  have HPb := hide hpb
  clear hp hpb
  go_enter Tryz.func16, Tryz.ntmps16
  go_wp2_with fail
  go_loopg [10, 15] ps.length (fun kk v10 v15 wr => ∃ (i : Nat) (ms : List Rat) (mo : Option Addr) (mc : Nat), kk = ps.length - i ∧ i ≤ ps.length ∧ v15 = .int .i64 (i : Int) ∧ (ms = picked (ps.take i) xs ∧ ∀ j ∈ ps.take i, j < xs.length) ∧ v10 = .slice mo ms.length mc ∧ (∀ y ∈ ms, small y = true) ∧ SkIs w (.slice mo ms.length mc) (krow ms) wr)
  case atStart => exact ⟨0, [], none, 0, rfl, Nat.zero_le _, rfl, ⟨rfl, fun j hj => by (cases hj)⟩, rfl, fun _ h => absurd h List.not_mem_nil, SkIs.start w⟩
  case round =>
    obtain ⟨i, ms, mo, mc, hk, hi, rfl, he, rfl, hms, hsk⟩ := hrel
    have HK := hide hk
    have HE := hide he
    have HMs := hide hms
    have HSk := hide hsk
    have hmsl : ms.length ≤ 1000 := by rw [he.1]; unfold picked; simp; omega
    have hbl := hsk.bel
    clear hk he hms hsk
    by_cases hlt : i < ps.length
    · have hlt' : (i : Int) < (ps.length : Int) := by omega
      obtain ⟨gp, rfl, _, hcell⟩ := ((unhide HP).below hbl).cell (by omega)
      have d0 := hcell i hlt
      have hqb := unhide HPb ps[i] (List.getElem_mem _)
      clear hcell
      by_cases hq : ps[i] < xs.length
      · obtain ⟨g, rfl, _, _⟩ := (unhide HL).num (by omega)
        have c0 := ((unhide HL).below hbl).item hq
        have hzs := unhide HS xs[ps[i]] (List.getElem_mem _)
        have HX := hide (show ms ++ [xs[ps[i]]] = picked (ps.take (i + 1)) xs ∧ ∀ j ∈ ps.take (i + 1), j < xs.length by
          refine ⟨?_, ?_⟩
          · rw [picked_step ps xs i hlt, (unhide HE).1, show xs.getD ps[i] 0 = xs[ps[i]] by simp [hq]]
          · intro j hj
            rw [List.take_succ_eq_append_getElem hlt] at hj
            rcases List.mem_append.1 hj with h1 | h1
            · exact (unhide HE).2 j h1
            · rw [List.mem_singleton.1 h1]; exact hq)
        have hsz := hbl.size
        clear hbl
        generalize xs[ps[i]] = z at c0 hzs HX
        generalize ps[i] = q at c0 d0 hq hqb
        have hq' : (q : Int) < (xs.length : Int) := by omega
        have hq2 : ¬ (xs.length : Int) ≤ (q : Int) := by omega
        have HMs2 := hide (show ∀ y ∈ ms ++ [z], small y = true by
          intro y hy
          rcases List.mem_append.1 hy with h1 | h1
          · exact unhide HMs y h1
          · rw [List.mem_singleton.1 h1]; exact hzs)
        clear hzs
        have HSk2 := hide ((unhide HSk).below ((Below.refl _ _).alloc (Nat.le_refl _) (.cells [sv (ratText z)].toArray 9)))
        have hln := krow_len ms
        go_wp2_with (at_builtin; refine wpList_append_own _ rfl _ _ 29 rfl w.heap.size 9 i0 _ 1 16 Tryz.underlying29 hi0 hz0 hz1 hz2 rfl (by decide) _ _ _ rfl (unhide HSk2).own ⟨wr.heap.size, 0, none⟩ 1 1 [sv (ratText z)] rfl rfl (snews_at rfl _ _) (one_sv _) (by unfold maxLen; omega) (by omega) (by simp; omega) ?_)
        intro v' w4 hown4 hgr4 _
        have hm4 := (unhide HSk2).more (by rw [krow_len]; exact hown4) hgr4
        rw [krow_snoc] at hm4
        obtain ⟨ao4, cp4, rfl⟩ := hm4.shape
        rw [krow_len] at hm4 ⊢
        have HM4 := hide hm4
        clear hown4 hgr4 hm4
        go_wp2_with fail
        go_roundg (ps.length - (i + 1))
        case measure => rw [unhide HK]; omega
        case rel => exact ⟨i + 1, ms ++ [z], ao4, cp4, rfl, by omega, rfl, unhide HX, rfl, unhide HMs2, unhide HM4⟩
      · have HX := hide (show Sp.work (.pick ps) xs = .error 11 by
          refine if_neg fun h => hq ?_
          have := List.all_eq_true.1 h ps[i] (List.getElem_mem _)
          simpa using this)
        have HB := hide hbl
        clear hbl
        generalize ps[i] = q at d0 hq hqb
        have hq2 : (xs.length : Int) ≤ (q : Int) := by omega
        go_wp2_with fail
        exact bodyPost_ret (v := .tuple #[.slice none 0 0, .int .i64 11]) (by simp [results, Tryz.results16, go_sem]) rfl ⟨none, 0, 0, 11, rfl, unhide HB, Or.inr ⟨unhide HX, by decide⟩⟩
    · have hlt' : ¬ (i : Int) < (ps.length : Int) := by omega
      have HF := hide (show Sp.work (.pick ps) xs = .ok ms by
        have e : ps.take i = ps := List.take_of_length_le (by omega)
        have hh := unhide HE
        rw [e] at hh
        rw [hh.1]
        exact if_pos (List.all_eq_true.2 fun j hj => by simpa using hh.2 j hj))
      clear hbl
      go_wp2_with fail
      exact bodyPost_ret (v := .tuple #[.slice mo ms.length mc, .int .i64 0]) (by simp [results, Tryz.results16, go_sem]) rfl ⟨mo, ms.length, mc, 0, rfl, (unhide HSk).bel, Or.inl ⟨ms, unhide HF, unhide HMs, rfl, SkIs.sis (w0 := w) (by rw [krow_len]; exact unhide HSk), rfl⟩⟩
end Go.Proofs.YtikiaijgcjjloaaGreatDoor

/- The walks of the laws without the document's answer: places, no two alike. -/
namespace Go.Proofs.YtikiaijgcjjloaaGreatDoor
open Go Go.RowKit M T Go.Lib

def iv (i : Nat) : Value := .int .i64 (i : Int)
def irow (ps : List Nat) : List Value := ps.map fun i : Nat => Value.int .i64 (i : Int)
theorem irow_snoc (ps : List Nat) (p : Nat) : irow ps ++ [iv p] = irow (ps ++ [p]) := by unfold irow iv; simp
theorem one_iv (p : Nat) : ∀ u ∈ [iv p], u.oneCell' = true := by
  intro u hu
  rw [List.mem_singleton.1 hu]
  rfl
/-- A row of places while it is made. -/
structure IkIs (w0 : World) (v : Value) (ps : List Nat) (wr : World) : Prop where
  own : wr.ownsRow w0.heap.size 3 1 v ps.length (irow ps)
  bel : Below w0.heap.size w0 wr
theorem IkIs.start (w : World) : IkIs w (.slice (some ⟨w.heap.size, 0, none⟩) 1 1) [0] (w.alloc (.cells #[.int .i64 0] 3)) := ⟨⟨by simp [irow], .inr ⟨w.heap.size, 1, #[.int .i64 0], rfl, Nat.le_refl _, heap_alloc_new w _, Nat.le_refl _, by unfold maxLen; omega, rfl, by simp [irow]⟩⟩, (Below.refl _ _).alloc (Nat.le_refl _) _⟩
theorem IkIs.below {w0 wr wr' : World} {v : Value} {ps : List Nat} (h : IkIs w0 v ps wr) (hb : Below wr.heap.size wr wr') : IkIs w0 v ps wr' := ⟨sk_owns_below h.own hb, h.bel.trans (hb.mono h.bel.size)⟩
theorem IkIs.more {w0 wr w4 : World} {v v' : Value} {ps : List Nat} {p : Nat} (h : IkIs w0 v ps wr) (ho : w4.ownsRow w0.heap.size 3 1 v' (ps.length + 1) (irow ps ++ [iv p])) (hg : wr.grownBy w4 v.ownBlock) : IkIs w0 v' (ps ++ [p]) w4 := by
  refine ⟨by rw [List.length_append, ← irow_snoc]; exact ho, ⟨hg.os.trans h.bel.os, hg.tape.trans h.bel.tape, hg.output.trans h.bel.output, Nat.le_trans h.bel.size hg.size, fun k hk => (hg.block k (Nat.lt_of_lt_of_le hk h.bel.size) (fun e => ?_)).trans (h.bel.block k hk)⟩⟩
  have := (h.own.lt k e.symm).1
  omega
theorem IkIs.shape {w0 wr : World} {v : Value} {ps : List Nat} (h : IkIs w0 v ps wr) : ∃ ao cp, v = .slice ao ps.length cp := by
  rcases h.own.2 with ⟨h1, h2⟩ | ⟨g, cap, cur, hv, _⟩
  · exact ⟨none, 0, by rw [h1, h2]⟩
  · exact ⟨_, cap, hv⟩
theorem IkIs.kp {w0 w : World} {ao : Option Addr} {cp : Nat} {ps : List Nat} (h : IkIs w0 (.slice ao ps.length cp) ps w) : KpIs w ao cp ps := ⟨⟨h.own.1, by
  rcases h.own.2 with h2 | ⟨g, cap, cur, hv, hg, r⟩
  · exact Or.inl h2
  · exact Or.inr ⟨g, cap, cur, hv, Nat.zero_le _, r⟩⟩⟩
/-- Places, no two alike. -/
structure Apt (os : List Nat) : Prop where
  pos : 0 < os.length
  few : os.length ≤ 12
  bd : ∀ i ∈ os, i < 12
  nd : os.Nodup
/-- What apart answers. -/
def AptGot (w : World) (e : Ending) (w' : World) : Prop := ∃ os ao cp, Apt os ∧ e = .returned (.slice ao os.length cp) ∧ KpIs w' ao cp os ∧ Below w.heap.size w w'

set_option maxRecDepth 100000 in
set_option maxHeartbeats 1600000 in
theorem apart_any {w : World} {ra : Option Addr} {rn rc : Nat} {raw : Nat → Int} (hr : RawIs w ra rn raw) (hn : rn ≤ 140737488355328) :
    Calls Tryz.prog 13 #[.slice ra rn rc] w fun e w' => AptGot w e w' := by
  obtain ⟨i0, hi0, hz0, hz1, hz2⟩ := info_parts Tryz.infoInt
  have HR := hide hr
  clear hr
  go_enter Tryz.func13, Tryz.ntmps13
  go_wp2_with fail
  go_loopg [3, 4] rn (fun kk v3 v4 wr => ∃ (i : Nat) (os : List Nat) (ao : Option Addr) (cp : Nat), kk = rn - i ∧ i ≤ rn ∧ v4 = .int .i64 (i : Int) ∧ v3 = .slice ao os.length cp ∧ Apt os ∧ IkIs w (.slice ao os.length cp) os wr)
  case atStart => exact ⟨0, [0], some ⟨w.heap.size, 0, none⟩, 1, rfl, Nat.zero_le _, rfl, rfl, ⟨by simp, by simp, by simp, by simp⟩, IkIs.start w⟩
  case round =>
    obtain ⟨i, os, ao, cp, hk, hi, rfl, rfl, hap, hik⟩ := hrel
    have HK := hide hk
    have HAp := hide hap
    have HIk := hide hik
    have hfew := hap.few
    have hpos := hap.pos
    have hbl := hik.bel
    clear hk hap hik
    by_cases hlt : i < rn
    · have hlt' : (i : Int) < (rn : Int) := by omega
      by_cases hf : os.length < 12
      · have hf' : (os.length : Int) < 12 := by omega
        obtain ⟨a, rfl, hab, c0, hr1, hr2⟩ := (unhide HR).at' i hlt
        rw [← hbl.cell (p := a.add i) hab] at c0
        clear hbl
        go_wp2_with fail
        refine (kpick_any (raw i) 12 _ hr1 hr2 (by omega) (by omega)).mono ?_
        rintro e w1 ⟨rfl, rfl⟩
        have hq := (kpick_val (raw i) (n := 12) (by omega)).2.2
        generalize kpickN (raw i) 12 = q at hq
        clear c0 hr1 hr2 hab
        obtain ⟨gp, rfl, _, hcell⟩ := (unhide HIk).kp.cell hpos
        have HC := hide hcell
        clear hcell
        go_wp2_with fail
        go_loopg [6, 7] os.length (fun kk v6 v7 wr' => ∃ (j : Nat) (b : Bool), kk = os.length - j ∧ j ≤ os.length ∧ v7 = .int .i64 (j : Int) ∧ v6 = .bool b ∧ b = (os.take j).contains q ∧ wr = wr')
        case atStart => exact ⟨0, false, rfl, Nat.zero_le _, rfl, rfl, by simp, rfl⟩
        case round =>
          obtain ⟨j, b, hk2, hj, rfl, rfl, hb, rfl⟩ := hrel
          have HK2 := hide hk2
          have HB := hide hb
          clear hk2 hb
          by_cases hjl : j < os.length
          · have hjl' : (j : Int) < (os.length : Int) := by omega
            have d0 := unhide HC j hjl
            have HX := hide (show (os.take (j + 1)).contains q = (b || ((os[j] : Int) == (q : Int))) by
              rw [List.take_succ_eq_append_getElem hjl, unhide HB, Bool.eq_iff_iff]
              simp only [List.contains_eq_mem, List.mem_append, List.mem_singleton, decide_eq_true_eq, Bool.or_eq_true, beq_iff_eq]
              exact or_congr Iff.rfl ⟨fun h => by omega, fun h => by omega⟩)
            generalize os[j] = y at d0 HX
            cases b with
            | true =>
              go_wp2_with fail
              go_roundg (os.length - (j + 1))
              case measure => rw [unhide HK2]; omega
              case rel => exact ⟨j + 1, true, rfl, by omega, rfl, rfl, by rw [unhide HX]; rfl, rfl⟩
            | false =>
              go_wp2_with fail
              go_roundg (os.length - (j + 1))
              case measure => rw [unhide HK2]; omega
              case rel => exact ⟨j + 1, ((y : Int) == (q : Int)), rfl, by omega, rfl, rfl, by rw [unhide HX]; rfl, rfl⟩
          · have hjl' : ¬ (j : Int) < (os.length : Int) := by omega
            have HB2 := hide (show b = os.contains q by rw [unhide HB, List.take_of_length_le (by omega)])
            cases b with
            | true =>
              go_wp2_with fail
              go_roundg (rn - (i + 1))
              case measure => rw [unhide HK]; omega
              case rel => exact ⟨i + 1, os, _, cp, rfl, by omega, rfl, rfl, unhide HAp, unhide HIk⟩
            | false =>
              have HAp2 := hide (show Apt (os ++ [q]) by
                have ha := unhide HAp
                refine ⟨by simp, by simp; omega, ?_, ?_⟩
                · intro x hx
                  rcases List.mem_append.1 hx with h1 | h1
                  · exact ha.bd x h1
                  · rw [List.mem_singleton.1 h1]; exact hq
                · rw [List.nodup_append]
                  refine ⟨ha.nd, by simp, ?_⟩
                  intro x hx y hy
                  rw [List.mem_singleton.1 hy]
                  rintro rfl
                  have h2 := unhide HB2
                  rw [eq_comm, List.contains_eq_mem] at h2
                  simp [hx] at h2)
              have HIk2 := hide ((unhide HIk).below ((Below.refl _ _).alloc (Nat.le_refl _) (.cells [iv q].toArray 3)))
              have hsz := (unhide HIk).bel.size
              go_wp2_with (at_builtin; refine wpList_append_own _ rfl _ _ 25 rfl w.heap.size 3 i0 _ 1 8 Tryz.underlying25 hi0 hz0 hz1 hz2 rfl (by decide) _ _ _ rfl (unhide HIk2).own ⟨wr.heap.size, 0, none⟩ 1 1 [iv q] rfl rfl (snews_at rfl _ _) (one_iv _) (by unfold maxLen; omega) (by omega) (by simp; omega) ?_)
              intro v' w4 hown4 hgr4 _
              have hm4 := (unhide HIk2).more hown4 hgr4
              obtain ⟨ao4, cp4, rfl⟩ := hm4.shape
              have HM4 := hide hm4
              clear hown4 hgr4 hm4
              go_wp2_with fail
              go_roundg (rn - (i + 1))
              case measure => rw [unhide HK]; omega
              case rel => exact ⟨i + 1, os ++ [q], ao4, cp4, rfl, by omega, rfl, rfl, unhide HAp2, unhide HM4⟩
      · have hf' : ¬ (os.length : Int) < 12 := by omega
        clear hbl
        go_wp2_with fail
        go_ret
        exact ⟨os, ao, cp, unhide HAp, rfl, (unhide HIk).kp, (unhide HIk).bel⟩
    · have hlt' : ¬ (i : Int) < (rn : Int) := by omega
      clear hbl
      go_wp2_with fail
      go_ret
      exact ⟨os, ao, cp, unhide HAp, rfl, (unhide HIk).kp, (unhide HIk).bel⟩
end Go.Proofs.YtikiaijgcjjloaaGreatDoor

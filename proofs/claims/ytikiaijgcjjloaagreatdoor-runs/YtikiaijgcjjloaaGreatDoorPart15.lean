import Derived.Test.YtikiaijgcjjloaaGreatDoorPart8
import Derived.Deep.CutBlock
import Derived.Deep.DeepCutAuto

namespace Go.Proofs.YtikiaijgcjjloaaGreatDoor
open Go Go.RowKit M Go.Lib
set_option maxRecDepth 100000 in
set_option maxHeartbeats 1000000 in
theorem RRead_neg (s : ByteArray) (w : World) (hs : s.size ≤ maxLen) (h0 : 0 < s.size) (hn : neg s.data.toList = true) :
    Calls Tryz.prog 96 #[.string s] w fun e w' => RReadSays s e ∧ Below w.heap.size w w' := by
  have hs' := hs
  unfold maxLen at hs
  have hc : ((s[0].toNat : Int) == 45) = true := by
    rw [neg_of s h0] at hn
    have := of_decide_eq_true hn
    rw [beq_iff_eq]; omega
  have HN := hide hn
  clear hn
  have h0' : 0 < (s.size : Int) := by omega
  go_enter Tryz.func96, Tryz.ntmps96
  go_upto_block 0 with fail
  go_cut [5, 6, 7] from 22 to 37 (fun x y _ wx => ∃ en : Nat, 1 ≤ en ∧ en ≤ s.size ∧ x = .int .i64 en ∧ y = .int .i64 (refQ s.data.toList) ∧ Hid (valueOf (s.extract 1 en).data.toList = refP s.data.toList) ∧ (w.alloc (.cells #[.int .i64 0, .int .i64 0] 129)) = wx)
  case first =>
    go_wp2_with fail
    go_loopw [5, 6, 7] (fun x y z wx => ∃ i : Nat, 1 ≤ i ∧ i ≤ s.size ∧ x = .int .i64 s.size ∧ y = .int .i64 1 ∧ z = .int .i64 i ∧ Hid (∀ j (h : j < s.size), 1 ≤ j → j < i → s[j].toNat ≠ 47) ∧ (w.alloc (.cells #[.int .i64 0, .int .i64 0] 129)) = wx) (fun _ _ z _ => s.size - (RowKit.intOf z).toNat)
    case atStart => exact ⟨1, by omega, by omega, rfl, rfl, rfl, fun j _ h1 h2 => by omega, rfl⟩
    case round =>
      obtain ⟨i, h1, h2, rfl, rfl, rfl, HI, rfl⟩ := hrel
      by_cases hi : i < s.size
      · by_cases hc : s[i].toNat = 47
        · have hc' : ((s[i].toNat : Int) == 47) = true := by rw [beq_iff_eq]; omega
          have HV := hide (slash_at s true i (unhide HN) hi h1 hc (unhide HI))
          clear hc
          go_wp2_with fail
          refine (value_any (s.extract (i + 1) s.size) _ (Nat.le_trans (ext_size s _ _) hs')).mono ?_
          rintro e w' ⟨rfl, rfl⟩
          rw [(unhide HV).2]
          go_wp2_with fail
          go_meet
          exact ⟨i, h1, by omega, rfl, rfl, (unhide HV).1, rfl⟩
        · have hc' : ((s[i].toNat : Int) == 47) = false := by rw [beq_eq_false_iff_ne]; omega
          have HJ : Hid (∀ j (h : j < s.size), 1 ≤ j → j < i + 1 → s[j].toNat ≠ 47) := by
            intro j h h1 h2
            by_cases hj : j < i
            · exact unhide HI j h h1 hj
            · obtain rfl : j = i := by omega
              exact hc
          clear hc
          go_wp2_with fail
          go_roundw
          case rel => exact ⟨i + 1, by omega, by omega, rfl, rfl, by go_num, unhide HJ, by trivial⟩
          case measure => simp [RowKit.intOf]; omega
      · have hi' : ¬ (i : Int) < s.size := by omega
        have HV := hide (slash_none s true (unhide HN) (fun j h hf _ => unhide HI j h hf (by omega)))
        go_wp2_with fail
        go_meet
        exact ⟨s.size, by omega, by omega, rfl, by rw [(unhide HV).2], (unhide HV).1, rfl⟩
  case rest =>
    obtain ⟨en, he1, he2, rfl, rfl, HV, rfl⟩ := hcut
    have hp : -1 ≤ refP s.data.toList ∧ refP s.data.toList ≤ 9999999999 := valueOf_bd _
    have hq := refQ_bd s.data.toList
    have HT : Hid (refT s.data.toList = -refP s.data.toList) := by show _ = _; unfold refT; rw [unhide HN]; rfl
    have HB := hide (rr_bad s.data.toList)
    have HF := hide (rr_nofit s.data.toList)
    have HO := hide (ref_ok s.data.toList)
    have HNo := hide (rr_no s.data.toList)
    rw [unhide HT] at HF HO HNo
    clear HT HN
    go_wp2_with fail
    refine (value_any (s.extract 1 en) _ (Nat.le_trans (ext_size s _ _) hs')).mono ?_
    rintro e w' ⟨rfl, rfl⟩
    rw [unhide HV]
    clear HV
    generalize refP s.data.toList = P at *
    generalize refQ s.data.toList = Q at *
    by_cases hbad : P < 0 ∨ Q < 1
    · have HE := hide ((unhide HB) hbad)
      by_cases hP : P < 0
      all_goals
        go_wp2_with fail
        exact bodyPost_ret (v := .tuple #[.agg #[.int .i64 0, .int .i64 1], .bool false]) (by simp [results, Tryz.results96, go_sem]) rfl ⟨Or.inr ⟨unhide HE, _, _, rfl⟩, (by repeat (first | exact Below.refl _ _ | refine below_dr ?_ _ | refine Below.drew ?_ | refine Below.setCell ?_ (by simp) _ | refine Below.alloc ?_ (by simp) _))⟩
    have hP : ¬ P < 0 := by omega
    have hQ : ¬ Q < 1 := by omega
    have hQ1 : 1 ≤ Q := by omega
    clear hbad HB
    go_wp2_with fail
    refine (Low_int (-P) Q _ (by omega) (by omega) (by omega) (by omega)).mono ?_
    rintro e w1 ⟨⟨hf, rfl⟩ | ⟨hf, rfl⟩, hb⟩
    · have HFt := hide hf
      clear hf
      obtain ⟨hcell, hfr⟩ := bcell hb
      have hz1 : w.heap.size + 1 ≤ w1.heap.size := by have := hb.size; simpa using this
      have hz2 : w.heap.size < w1.heap.size + 1 := by omega
      have hz3 : w.heap.size < w1.heap.size := by omega
      have hz4 : ¬ w.heap.size = w1.heap.size := by omega
      have hz5 : ¬ w1.heap.size = w.heap.size := by omega
      have hfb := fits_bd (-P) Q hQ1 (unhide HFt)
      have HB2 : Hid (RReadSays s (.returned (.tuple #[.agg #[.int .i64 (lowP (-P) Q), .int .i64 (lowQ (-P) Q)], .bool (numText (lowP (-P) Q) (lowQ (-P) Q) == s.toList)]))) := by
        cases hB : (numText (lowP (-P) Q) (lowQ (-P) Q) == s.toList) with
        | true => exact Or.inl ⟨_, _, (unhide HO) hQ1 (unhide HFt) ((beq_text _ s).1 hB), rfl⟩
        | false => exact Or.inr ⟨(unhide HNo) (fun e => by rw [(beq_text _ s).2 e] at hB; cases hB), _, _, rfl⟩
      clear HO HNo HF
      go_wp2_with fail
      go_region_with (go_at_call 110; refine (rText_any _ _ _ hfb.1 hfb.2.1 hfb.2.2.1 hfb.2.2.2).mono ?_; rintro e w2 ⟨rfl, hb2⟩; obtain ⟨hcell2, hfr2⟩ := bcell hb2)
      all_goals go_wp2_with fail
      all_goals
        obtain ⟨c0, c1, hbw⟩ := two_cells hb hb2
        refine bodyPost_ret (v := .tuple #[.agg #[.int .i64 (lowP (-P) Q), .int .i64 (lowQ (-P) Q)], .bool (numText (lowP (-P) Q) (lowQ (-P) Q) == s.toList)]) ?_ ?_ ⟨unhide HB2, ?_⟩
        · simp [results, Tryz.results96, go_sem, c0, c1]
        · rfl
        · exact (hbw.setCell (by simp) _).setCell (by simp) _
    · have HE := hide ((unhide HF) hf)
      clear hf HF HO HNo
      obtain ⟨hcell, hfr⟩ := bcell hb
      have hz1 : w.heap.size + 1 ≤ w1.heap.size := by have := hb.size; simpa using this
      have hz2 : w.heap.size < w1.heap.size + 1 := by omega
      have hz3 : w.heap.size < w1.heap.size := by omega
      have hz4 : ¬ w.heap.size = w1.heap.size := by omega
      have hz5 : ¬ w1.heap.size = w.heap.size := by omega
      go_wp2_with fail
      go_region
      all_goals go_wp2_with fail
      all_goals
        obtain ⟨c0, c1, hbw⟩ := three_cells hb (.int .i64 0) (.int .i64 1) (.cells #[.int .i64 0, .int .i64 1] 129)
        refine bodyPost_ret (v := .tuple #[.agg #[.int .i64 0, .int .i64 1], .bool false]) ?_ ?_ ⟨Or.inr ⟨unhide HE, _, _, rfl⟩, ?_⟩
        · simp [results, Tryz.results96, go_sem, c0, c1]
        · rfl
        · exact hbw.drew
set_option maxRecDepth 100000 in
set_option maxHeartbeats 1000000 in
theorem RRead_pos (s : ByteArray) (w : World) (hs : s.size ≤ maxLen) (h0 : 0 < s.size) (hn : neg s.data.toList = false) :
    Calls Tryz.prog 96 #[.string s] w fun e w' => RReadSays s e ∧ Below w.heap.size w w' := by
  have hs' := hs
  unfold maxLen at hs
  have hc : ((s[0].toNat : Int) == 45) = false := by
    rw [neg_of s h0] at hn
    have := of_decide_eq_false hn
    rw [beq_eq_false_iff_ne]; omega
  have HN := hide hn
  clear hn
  have h0' : 0 < (s.size : Int) := by omega
  go_enter Tryz.func96, Tryz.ntmps96
  go_upto_block 0 with fail
  go_cut [5, 6, 7] from 22 to 37 (fun x y _ wx => ∃ en : Nat, 0 ≤ en ∧ en ≤ s.size ∧ x = .int .i64 en ∧ y = .int .i64 (refQ s.data.toList) ∧ Hid (valueOf (s.extract 0 en).data.toList = refP s.data.toList) ∧ (w.alloc (.cells #[.int .i64 0, .int .i64 0] 129)) = wx)
  case first =>
    go_wp2_with fail
    go_loopw [5, 6, 7] (fun x y z wx => ∃ i : Nat, 0 ≤ i ∧ i ≤ s.size ∧ x = .int .i64 s.size ∧ y = .int .i64 1 ∧ z = .int .i64 i ∧ Hid (∀ j (h : j < s.size), 0 ≤ j → j < i → s[j].toNat ≠ 47) ∧ (w.alloc (.cells #[.int .i64 0, .int .i64 0] 129)) = wx) (fun _ _ z _ => s.size - (RowKit.intOf z).toNat)
    case atStart => exact ⟨0, by omega, by omega, rfl, rfl, rfl, fun j _ h1 h2 => by omega, rfl⟩
    case round =>
      obtain ⟨i, h1, h2, rfl, rfl, rfl, HI, rfl⟩ := hrel
      by_cases hi : i < s.size
      · by_cases hc : s[i].toNat = 47
        · have hc' : ((s[i].toNat : Int) == 47) = true := by rw [beq_iff_eq]; omega
          have HV := hide (slash_at s false i (unhide HN) hi h1 hc (unhide HI))
          clear hc
          go_wp2_with fail
          refine (value_any (s.extract (i + 1) s.size) _ (Nat.le_trans (ext_size s _ _) hs')).mono ?_
          rintro e w' ⟨rfl, rfl⟩
          rw [(unhide HV).2]
          go_wp2_with fail
          go_meet
          exact ⟨i, h1, by omega, rfl, rfl, (unhide HV).1, rfl⟩
        · have hc' : ((s[i].toNat : Int) == 47) = false := by rw [beq_eq_false_iff_ne]; omega
          have HJ : Hid (∀ j (h : j < s.size), 0 ≤ j → j < i + 1 → s[j].toNat ≠ 47) := by
            intro j h h1 h2
            by_cases hj : j < i
            · exact unhide HI j h h1 hj
            · obtain rfl : j = i := by omega
              exact hc
          clear hc
          go_wp2_with fail
          go_roundw
          case rel => exact ⟨i + 1, by omega, by omega, rfl, rfl, by go_num, unhide HJ, by trivial⟩
          case measure => simp [RowKit.intOf]; omega
      · have hi' : ¬ (i : Int) < s.size := by omega
        have HV := hide (slash_none s false (unhide HN) (fun j h hf _ => unhide HI j h hf (by omega)))
        go_wp2_with fail
        go_meet
        exact ⟨s.size, by omega, by omega, rfl, by rw [(unhide HV).2], (unhide HV).1, rfl⟩
  case rest =>
    obtain ⟨en, he1, he2, rfl, rfl, HV, rfl⟩ := hcut
    have hp : -1 ≤ refP s.data.toList ∧ refP s.data.toList ≤ 9999999999 := valueOf_bd _
    have hq := refQ_bd s.data.toList
    have HT : Hid (refT s.data.toList = refP s.data.toList) := by show _ = _; unfold refT; rw [unhide HN]; rfl
    have HB := hide (rr_bad s.data.toList)
    have HF := hide (rr_nofit s.data.toList)
    have HO := hide (ref_ok s.data.toList)
    have HNo := hide (rr_no s.data.toList)
    rw [unhide HT] at HF HO HNo
    clear HT HN
    go_wp2_with fail
    refine (value_any (s.extract 0 en) _ (Nat.le_trans (ext_size s _ _) hs')).mono ?_
    rintro e w' ⟨rfl, rfl⟩
    rw [unhide HV]
    clear HV
    generalize refP s.data.toList = P at *
    generalize refQ s.data.toList = Q at *
    by_cases hbad : P < 0 ∨ Q < 1
    · have HE := hide ((unhide HB) hbad)
      by_cases hP : P < 0
      all_goals
        go_wp2_with fail
        exact bodyPost_ret (v := .tuple #[.agg #[.int .i64 0, .int .i64 1], .bool false]) (by simp [results, Tryz.results96, go_sem]) rfl ⟨Or.inr ⟨unhide HE, _, _, rfl⟩, (by repeat (first | exact Below.refl _ _ | refine below_dr ?_ _ | refine Below.drew ?_ | refine Below.setCell ?_ (by simp) _ | refine Below.alloc ?_ (by simp) _))⟩
    have hP : ¬ P < 0 := by omega
    have hQ : ¬ Q < 1 := by omega
    have hQ1 : 1 ≤ Q := by omega
    clear hbad HB
    go_wp2_with fail
    refine (Low_int P Q _ (by omega) (by omega) (by omega) (by omega)).mono ?_
    rintro e w1 ⟨⟨hf, rfl⟩ | ⟨hf, rfl⟩, hb⟩
    · have HFt := hide hf
      clear hf
      obtain ⟨hcell, hfr⟩ := bcell hb
      have hz1 : w.heap.size + 1 ≤ w1.heap.size := by have := hb.size; simpa using this
      have hz2 : w.heap.size < w1.heap.size + 1 := by omega
      have hz3 : w.heap.size < w1.heap.size := by omega
      have hz4 : ¬ w.heap.size = w1.heap.size := by omega
      have hz5 : ¬ w1.heap.size = w.heap.size := by omega
      have hfb := fits_bd P Q hQ1 (unhide HFt)
      have HB2 : Hid (RReadSays s (.returned (.tuple #[.agg #[.int .i64 (lowP P Q), .int .i64 (lowQ P Q)], .bool (numText (lowP P Q) (lowQ P Q) == s.toList)]))) := by
        cases hB : (numText (lowP P Q) (lowQ P Q) == s.toList) with
        | true => exact Or.inl ⟨_, _, (unhide HO) hQ1 (unhide HFt) ((beq_text _ s).1 hB), rfl⟩
        | false => exact Or.inr ⟨(unhide HNo) (fun e => by rw [(beq_text _ s).2 e] at hB; cases hB), _, _, rfl⟩
      clear HO HNo HF
      go_wp2_with fail
      go_region_with (go_at_call 110; refine (rText_any _ _ _ hfb.1 hfb.2.1 hfb.2.2.1 hfb.2.2.2).mono ?_; rintro e w2 ⟨rfl, hb2⟩; obtain ⟨hcell2, hfr2⟩ := bcell hb2)
      all_goals go_wp2_with fail
      all_goals
        obtain ⟨c0, c1, hbw⟩ := two_cells hb hb2
        refine bodyPost_ret (v := .tuple #[.agg #[.int .i64 (lowP P Q), .int .i64 (lowQ P Q)], .bool (numText (lowP P Q) (lowQ P Q) == s.toList)]) ?_ ?_ ⟨unhide HB2, ?_⟩
        · simp [results, Tryz.results96, go_sem, c0, c1]
        · rfl
        · exact (hbw.setCell (by simp) _).setCell (by simp) _
    · have HE := hide ((unhide HF) hf)
      clear hf HF HO HNo
      obtain ⟨hcell, hfr⟩ := bcell hb
      have hz1 : w.heap.size + 1 ≤ w1.heap.size := by have := hb.size; simpa using this
      have hz2 : w.heap.size < w1.heap.size + 1 := by omega
      have hz3 : w.heap.size < w1.heap.size := by omega
      have hz4 : ¬ w.heap.size = w1.heap.size := by omega
      have hz5 : ¬ w1.heap.size = w.heap.size := by omega
      go_wp2_with fail
      go_region
      all_goals go_wp2_with fail
      all_goals
        obtain ⟨c0, c1, hbw⟩ := three_cells hb (.int .i64 0) (.int .i64 1) (.cells #[.int .i64 0, .int .i64 1] 129)
        refine bodyPost_ret (v := .tuple #[.agg #[.int .i64 0, .int .i64 1], .bool false]) ?_ ?_ ⟨Or.inr ⟨unhide HE, _, _, rfl⟩, ?_⟩
        · simp [results, Tryz.results96, go_sem, c0, c1]
        · rfl
        · exact hbw.drew
theorem list_empty (s : ByteArray) (h : s.size = 0) : s.data.toList = [] := List.length_eq_zero_iff.1 (by rw [len_size]; exact h)
theorem none_empty (s : ByteArray) (h : s.size = 0) : ∀ t b, ¬ IsNum s.data.toList t b := by
  apply rr_bad
  rw [list_empty s h]
  exact Or.inl (by decide)
set_option maxRecDepth 100000 in
set_option maxHeartbeats 400000 in
theorem RRead_nil (w : World) :
    Calls Tryz.prog 96 #[.string ⟨#[]⟩] w fun e w' => RReadSays ⟨#[]⟩ e ∧ Below w.heap.size w w' := by
  have HE := hide (none_empty ⟨#[]⟩ rfl)
  go_enter Tryz.func96, Tryz.ntmps96
  go_wp2_with fail
  go_loopw [5, 6, 7] (fun x y z wx => x = .int .i64 0 ∧ y = .int .i64 1 ∧ z = .int .i64 0 ∧ (w.alloc (.cells #[.int .i64 0, .int .i64 0] 129)) = wx) (fun _ _ _ _ => 0)
  case atStart => exact ⟨rfl, rfl, rfl, rfl⟩
  case round =>
    obtain ⟨rfl, rfl, rfl, rfl⟩ := hrel
    go_wp2_with fail
    refine (value_any (ByteArray.extract ⟨#[]⟩ 0 0) _ (by decide)).mono ?_
    rintro e w' ⟨rfl, rfl⟩
    rw [show valueOf (ByteArray.extract ⟨#[]⟩ 0 0).data.toList = -1 from by decide]
    go_wp2_with fail
    exact bodyPost_ret (v := .tuple #[.agg #[.int .i64 0, .int .i64 1], .bool false]) (by simp [results, Tryz.results96, go_sem]) rfl ⟨Or.inr ⟨unhide HE, _, _, rfl⟩, (by repeat (first | exact Below.refl _ _ | refine below_dr ?_ _ | refine Below.drew ?_ | refine Below.setCell ?_ (by simp) _ | refine Below.alloc ?_ (by simp) _))⟩
theorem RRead_empty (s : ByteArray) (w : World) (h0 : s.size = 0) :
    Calls Tryz.prog 96 #[.string s] w fun e w' => RReadSays s e ∧ Below w.heap.size w w' := by
  obtain rfl : s = ⟨#[]⟩ := by
    apply ByteArray.ext
    have := list_empty s h0
    simpa using this
  exact RRead_nil w
theorem RRead_any (s : ByteArray) (w : World) (hs : s.size ≤ maxLen) :
    Calls Tryz.prog 96 #[.string s] w fun e w' => RReadSays s e ∧ Below w.heap.size w w' := by
  by_cases h0 : s.size = 0
  · exact RRead_empty s w h0
  · cases hn : neg s.data.toList with
    | true => exact RRead_neg s w hs (by omega) hn
    | false => exact RRead_pos s w hs (by omega) hn
end Go.Proofs.YtikiaijgcjjloaaGreatDoor

namespace Go.Proofs.YtikiaijgcjjloaaGreatDoor
open Go Go.RowKit M T Go.Lib
theorem among_step {s : ByteArray} {c : UInt8} {j : Nat} (hj : j < s.size) (h : ∀ i (h : i < s.size), i < j → s[i] ≠ c) (hk : s[j] ≠ c) : ∀ i (h : i < s.size), i < j + 1 → s[i] ≠ c := by
  intro i hi hlt
  by_cases e : i = j
  · subst e; exact hk
  · exact h i hi (by omega)
theorem mem_get {s : ByteArray} {j : Nat} (h : j < s.size) : s[j] ∈ s.data.toList := by
  have : s[j] = s.data.toList[j]'(by simpa using h) := rfl
  rw [this]
  exact List.getElem_mem _
theorem u8_ne' {c d : UInt8} (h : c ≠ d) : ((c.toNat : Int) == (d.toNat : Int)) = false := by
  rw [beq_eq_false_iff_ne]
  intro e
  exact h (UInt8.toNat_inj.1 (by omega))
set_option maxRecDepth 100000 in
set_option maxHeartbeats 600000 in
theorem among_any (c : UInt8) (s : ByteArray) (w : World) (hs : s.size ≤ 1000000) :
    Calls Tryz.prog 70 #[.int .u8 (c.toNat : Int), .string s] w fun e w' => e = .returned (.bool (decide (c ∈ s.data.toList))) ∧ w = w' := by
  go_enter Tryz.func70, Tryz.ntmps70
  go_wp2_with fail
  go_loopw [5] (fun i wr => ∃ j : Nat, j ≤ s.size ∧ i = .int .i64 (j : Int) ∧ Hid (∀ i (h : i < s.size), i < j → s[i] ≠ c) ∧ w = wr) (fun i _ => s.size - (RowKit.intOf i).toNat)
  case atStart => exact ⟨0, by omega, rfl, fun i _ h => by omega, rfl⟩
  case round =>
    obtain ⟨j, hj, rfl, HJ, rfl⟩ := hrel
    by_cases hlt : j < s.size
    · by_cases hk : s[j] = c
      · have hb : ((s[j].toNat : Int) == (c.toNat : Int)) = true := by rw [hk]; simp
        have HM := hide (show c ∈ s.data.toList from hk ▸ mem_get hlt)
        clear hk
        go_wp2_with fail
        go_ret
        exact ⟨ret_bool (by simpa using unhide HM), rfl⟩
      · have hb : ((s[j].toNat : Int) == (c.toNat : Int)) = false := u8_ne' hk
        have HJ2 := hide (among_step hlt (unhide HJ) hk)
        clear hk
        go_wp2_with fail
        go_roundw
        case rel => exact ⟨j + 1, by omega, by go_num, HJ2, by trivial⟩
        case measure => simp [RowKit.intOf]; omega
    · have hlt' : ¬ (j : Int) < (s.size : Int) := by omega
      have HM := hide (show c ∉ s.data.toList from fun hm => by
        obtain ⟨i, hi, e⟩ := List.getElem_of_mem hm
        exact unhide HJ i (by simpa using hi) (by simp at hi; omega) e)
      go_wp2_with fail
      go_ret
      exact ⟨ret_bool (by simpa using unhide HM), rfl⟩
set_option maxRecDepth 100000 in
set_option maxHeartbeats 1600000 in
theorem span_false (s : ByteArray) (a : Nat) (w : World) (ha : a ≤ s.size) (hs : s.size ≤ 1000000) :
    Calls Tryz.prog 166 #[.string s, .int .i64 (a : Int), .bool false] w fun e w' => e = .returned (.int .i64 ((a + nw s a : Nat) : Int)) ∧ w = w' := by
  go_enter Tryz.func166, Tryz.ntmps166
  obtain ⟨f, hf⟩ : ∃ f, f = decide ((rest s a).head? = some 45) := ⟨_, rfl⟩
  have HF := hide hf
  clear hf
  go_upto_region 1 with fail
  go_cut [16] (fun v wx => v = .bool f ∧ w = wx)
  case first =>
    by_cases h1 : a < s.size
    · by_cases h2 : s[a] = 45
      · have h2' : ((s[a].toNat : Int) == 45) = true := by rw [h2]; rfl
        have HN := hide (show f = true by rw [unhide HF, rest_lt h1, h2]; rfl)
        clear h2
        go_wp2_with fail
        go_meet
        exact ⟨by rw [unhide HN], rfl⟩
      · have h2' : ((s[a].toNat : Int) == 45) = false := u8_ne' (d := 45) h2
        have HN := hide (show f = false by rw [unhide HF, rest_lt h1]; simp [h2])
        clear h2
        go_wp2_with fail
        go_meet
        exact ⟨by rw [unhide HN], rfl⟩
    · have h1' : ¬ (a : Int) < (s.size : Int) := by omega
      have HN := hide (show f = false by rw [unhide HF, rest_ge (by omega)]; rfl)
      go_wp2_with fail
      go_meet
      exact ⟨by rw [unhide HN], rfl⟩
  case rest =>
  obtain ⟨rfl, rfl⟩ := hcut
  go_upto_if 16 with fail
  go_cut [1] (fun v wx => (∃ b : Nat, v = .int .i64 (b : Int) ∧ b ≤ s.size ∧ a + nw s a = b + nd s b) ∧ w = wx)
  case first =>
    cases f with
    | true =>
      have hh : (rest s a).head? = some 45 := by simpa using (unhide HF).symm
      have h1 : a < s.size := by
        rcases Nat.lt_or_ge a s.size with h | h
        · exact h
        · rw [rest_ge h] at hh; cases hh
      have HN := hide (nw_minus (l := rest s (a + 1)) (by have := head_cons hh; rw [this, rest_add]))
      clear hh
      go_wp2_with fail
      go_meet
      exact ⟨⟨a + 1, by go_num, by omega, by rw [unhide HN]; omega⟩, rfl⟩
    | false =>
      have HN := hide (nw_plain (s := s) (a := a) (by simpa using (unhide HF).symm))
      go_wp2_with fail
      go_meet
      exact ⟨⟨a, rfl, ha, by rw [unhide HN]⟩, rfl⟩
  case rest =>
    obtain ⟨⟨b, rfl, hb, he⟩, rfl⟩ := hcut
    have HE := hide he
    clear he
    go_wp2_with fail
    go_loopw [1] (fun i wr => ∃ j : Nat, j ≤ s.size ∧ i = .int .i64 (j : Int) ∧ Hid (a + nw s a = j + nd s j) ∧ w = wr) (fun i _ => s.size - (RowKit.intOf i).toNat)
    case atStart => exact ⟨b, hb, rfl, HE, rfl⟩
    case round =>
      obtain ⟨j, hj, rfl, HJ, rfl⟩ := hrel
      by_cases h1 : j < s.size
      · by_cases h2 : 48 ≤ s[j].toNat
        · by_cases h3 : s[j].toNat ≤ 57
          · have HN := hide (nd_step h1 ((isDig_iff _).2 ⟨h2, h3⟩))
            go_wp2_with fail
            go_roundw
            case rel => exact ⟨j + 1, by omega, by go_num, by have := unhide HJ; have := unhide HN; show _ = _; omega, by trivial⟩
            case measure => simp [RowKit.intOf]; omega
          · have h3n : ¬ (s[j].toNat : Int) ≤ 57 := by omega
            have HN := hide (nd_stop h1 ((isDig_not _).2 (by omega)))
            go_wp2_with fail
            go_ret
            exact ⟨ret_int (by have := unhide HJ; have := unhide HN; omega), rfl⟩
        · have h2n : ¬ (48 : Int) ≤ (s[j].toNat : Int) := by omega
          have HN := hide (nd_stop h1 ((isDig_not _).2 (by omega)))
          go_wp2_with fail
          go_ret
          exact ⟨ret_int (by have := unhide HJ; have := unhide HN; omega), rfl⟩
      · have h1' : ¬ (j : Int) < (s.size : Int) := by omega
        have HN := hide (nd_end h1)
        go_wp2_with fail
        go_ret
        exact ⟨ret_int (by have := unhide HJ; have := unhide HN; omega), rfl⟩
end Go.Proofs.YtikiaijgcjjloaaGreatDoor

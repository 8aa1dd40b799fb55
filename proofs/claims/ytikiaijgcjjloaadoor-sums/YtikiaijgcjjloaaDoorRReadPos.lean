/- The walk of the document's reading of a number: 0 and above. -/
import Derived.Test.YtikiaijgcjjloaaDoorRRead
import Derived.Deep.CutBlock
namespace Go.Proofs.YtikiaijgcjjloaaDoor
open Go Go.RowKit M Go.Lib

set_option maxRecDepth 100000 in
set_option maxHeartbeats 1000000 in
theorem RRead_pos (s : ByteArray) (w : World) (hs : s.size ≤ maxLen) (h0 : 0 < s.size) (hn : neg s.data.toList = false) :
    Calls Tryd.prog 35 #[.string s] w fun e w' => RReadSays s e ∧ Below w.heap.size w w' := by
  have hs' := hs
  unfold maxLen at hs
  have hc : ((s[0].toNat : Int) == 45) = false := by
    rw [neg_of s h0] at hn
    have := of_decide_eq_false hn
    rw [beq_eq_false_iff_ne]; omega
  have HN := hide hn
  clear hn
  have h0' : 0 < (s.size : Int) := by omega
  go_enter Tryd.func35, Tryd.ntmps35
  go_upto_block 0 with fail
  go_cut [5, 6, 7] from 22 to 37 (fun x y _ wx => ∃ en : Nat, 0 ≤ en ∧ en ≤ s.size ∧ x = .int .i64 en ∧ y = .int .i64 (refQ s.data.toList) ∧ Hid (valueOf (s.extract 0 en).data.toList = refP s.data.toList) ∧ (w.alloc (.cells #[.int .i64 0, .int .i64 0] 51)) = wx)
  case first =>
    go_wp2_with fail
    go_loopw [5, 6, 7] (fun x y z wx => ∃ i : Nat, 0 ≤ i ∧ i ≤ s.size ∧ x = .int .i64 s.size ∧ y = .int .i64 1 ∧ z = .int .i64 i ∧ Hid (∀ j (h : j < s.size), 0 ≤ j → j < i → s[j].toNat ≠ 47) ∧ (w.alloc (.cells #[.int .i64 0, .int .i64 0] 51)) = wx) (fun _ _ z _ => s.size - (RowKit.intOf z).toNat)
    case atStart => exact ⟨0, by omega, by omega, rfl, rfl, rfl, fun j _ h1 h2 => by omega, rfl⟩
    case round =>
      obtain ⟨i, h1, h2, rfl, rfl, rfl, HI, rfl⟩ := hrel
      by_cases hi : i < s.size
      · by_cases hc : s[i].toNat = 47
        · have hc' : ((s[i].toNat : Int) == 47) = true := by rw [beq_iff_eq]; omega
          have HV := hide (slash_at s false i (unhide HN) hi h1 hc (unhide HI))
          clear hc
          go_wp2_with fail
          refine (value_any (s.extract (i + 1) s.size) _ (Nat.le_trans (ext_size s _ _) hs')).mono ?_
          rintro e w' ⟨rfl, rfl⟩
          rw [(unhide HV).2]
          go_wp2_with fail
          go_meet
          exact ⟨i, h1, by omega, rfl, rfl, (unhide HV).1, rfl⟩
        · have hc' : ((s[i].toNat : Int) == 47) = false := by rw [beq_eq_false_iff_ne]; omega
          have HJ : Hid (∀ j (h : j < s.size), 0 ≤ j → j < i + 1 → s[j].toNat ≠ 47) := by
            intro j h h1 h2
            by_cases hj : j < i
            · exact unhide HI j h h1 hj
            · obtain rfl : j = i := by omega
              exact hc
          clear hc
          go_wp2_with fail
          go_roundw
          case rel => exact ⟨i + 1, by omega, by omega, rfl, rfl, by go_num, unhide HJ, by trivial⟩
          case measure => simp [RowKit.intOf]; omega
      · have hi' : ¬ (i : Int) < s.size := by omega
        have HV := hide (slash_none s false (unhide HN) (fun j h hf _ => unhide HI j h hf (by omega)))
        go_wp2_with fail
        go_meet
        exact ⟨s.size, by omega, by omega, rfl, by rw [(unhide HV).2], (unhide HV).1, rfl⟩
  case rest =>
    obtain ⟨en, he1, he2, rfl, rfl, HV, rfl⟩ := hcut
    have hp : -1 ≤ refP s.data.toList ∧ refP s.data.toList ≤ 9999999999 := valueOf_bd _
    have hq := refQ_bd s.data.toList
    have HT : Hid (refT s.data.toList = refP s.data.toList) := by show _ = _; unfold refT; rw [unhide HN]; rfl
    have HB := hide (rr_bad s.data.toList)
    have HF := hide (rr_nofit s.data.toList)
    have HO := hide (ref_ok s.data.toList)
    have HNo := hide (rr_no s.data.toList)
    rw [unhide HT] at HF HO HNo
    clear HT HN
    go_wp2_with fail
    refine (value_any (s.extract 0 en) _ (Nat.le_trans (ext_size s _ _) hs')).mono ?_
    rintro e w' ⟨rfl, rfl⟩
    rw [unhide HV]
    clear HV
    generalize refP s.data.toList = P at *
    generalize refQ s.data.toList = Q at *
    by_cases hbad : P < 0 ∨ Q < 1
    · have HE := hide ((unhide HB) hbad)
      by_cases hP : P < 0
      all_goals
        go_wp2_with fail
        exact bodyPost_ret (v := .tuple #[.agg #[.int .i64 0, .int .i64 1], .bool false]) (by simp [results, Tryd.results35, go_sem]) rfl ⟨Or.inr ⟨unhide HE, _, _, rfl⟩, (by repeat (first | exact Below.refl _ _ | refine below_dr ?_ _ | refine Below.drew ?_ | refine Below.setCell ?_ (by simp) _ | refine Below.alloc ?_ (by simp) _))⟩
    have hP : ¬ P < 0 := by omega
    have hQ : ¬ Q < 1 := by omega
    have hQ1 : 1 ≤ Q := by omega
    clear hbad HB
    go_wp2_with fail
    refine (Low_int P Q _ (by omega) (by omega) (by omega) (by omega)).mono ?_
    rintro e w1 ⟨⟨hf, rfl⟩ | ⟨hf, rfl⟩, hb⟩
    · have HFt := hide hf
      clear hf
      obtain ⟨hcell, hfr⟩ := bcell hb
      have hz1 : w.heap.size + 1 ≤ w1.heap.size := by have := hb.size; simpa using this
      have hz2 : w.heap.size < w1.heap.size + 1 := by omega
      have hz3 : w.heap.size < w1.heap.size := by omega
      have hz4 : ¬ w.heap.size = w1.heap.size := by omega
      have hz5 : ¬ w1.heap.size = w.heap.size := by omega
      have hfb := fits_bd P Q hQ1 (unhide HFt)
      have HB2 : Hid (RReadSays s (.returned (.tuple #[.agg #[.int .i64 (lowP P Q), .int .i64 (lowQ P Q)], .bool (numText (lowP P Q) (lowQ P Q) == s.toList)]))) := by
        cases hB : (numText (lowP P Q) (lowQ P Q) == s.toList) with
        | true => exact Or.inl ⟨_, _, (unhide HO) hQ1 (unhide HFt) ((beq_text _ s).1 hB), rfl⟩
        | false => exact Or.inr ⟨(unhide HNo) (fun e => by rw [(beq_text _ s).2 e] at hB; cases hB), _, _, rfl⟩
      clear HO HNo HF
      go_wp2_with fail
      go_region_with (go_at_call 48; refine (rText_any _ _ _ hfb.1 hfb.2.1 hfb.2.2.1 hfb.2.2.2).mono ?_; rintro e w2 ⟨rfl, hb2⟩; obtain ⟨hcell2, hfr2⟩ := bcell hb2)
      all_goals go_wp2_with fail
      all_goals
        obtain ⟨c0, c1, hbw⟩ := two_cells hb hb2
        refine bodyPost_ret (v := .tuple #[.agg #[.int .i64 (lowP P Q), .int .i64 (lowQ P Q)], .bool (numText (lowP P Q) (lowQ P Q) == s.toList)]) ?_ ?_ ⟨unhide HB2, ?_⟩
        · simp [results, Tryd.results35, go_sem, c0, c1]
        · rfl
        · exact (hbw.setCell (by simp) _).setCell (by simp) _
    · have HE := hide ((unhide HF) hf)
      clear hf HF HO HNo
      obtain ⟨hcell, hfr⟩ := bcell hb
      have hz1 : w.heap.size + 1 ≤ w1.heap.size := by have := hb.size; simpa using this
      have hz2 : w.heap.size < w1.heap.size + 1 := by omega
      have hz3 : w.heap.size < w1.heap.size := by omega
      have hz4 : ¬ w.heap.size = w1.heap.size := by omega
      have hz5 : ¬ w1.heap.size = w.heap.size := by omega
      go_wp2_with fail
      go_region
      all_goals go_wp2_with fail
      all_goals
        obtain ⟨c0, c1, hbw⟩ := three_cells hb (.int .i64 0) (.int .i64 1) (.cells #[.int .i64 0, .int .i64 1] 51)
        refine bodyPost_ret (v := .tuple #[.agg #[.int .i64 0, .int .i64 1], .bool false]) ?_ ?_ ⟨Or.inr ⟨unhide HE, _, _, rfl⟩, ?_⟩
        · simp [results, Tryd.results35, go_sem, c0, c1]
        · rfl
        · exact hbw.drew
end Go.Proofs.YtikiaijgcjjloaaDoor

import Derived.Test.YtikiaijgcjjloabGreatDoorPart11
import Derived.Deep.CutBlock
import Derived.Test.YtikiaijgcjjloabGreatDoorPart19

/- The walk of the document's reading of a number: 0 and above. -/
namespace Go.Proofs.YtikiaijgcjjloabGreatDoor
open Go Go.RowKit M Go.Lib

set_option maxRecDepth 100000 in
set_option maxHeartbeats 1000000 in
theorem RRead_pos (s : ByteArray) (w : World) (hs : s.size ≤ maxLen) (h0 : 0 < s.size) (hn : neg s.data.toList = false) :
    Calls Tryz.prog 115 #[.string s] w fun e w' => RReadSays s e ∧ Below w.heap.size w w' := by
  have hs' := hs
  unfold maxLen at hs
  have hc : ((s[0].toNat : Int) == 45) = false := by
    rw [neg_of s h0] at hn
    have := of_decide_eq_false hn
    rw [beq_eq_false_iff_ne]; omega
  have HN := hide hn
  clear hn
  have h0' : 0 < (s.size : Int) := by omega
  go_enter Tryz.func115, Tryz.ntmps115
  go_upto_block 0 with fail
  go_cut [5, 6, 7] from 22 to 37 (fun x y _ wx => ∃ en : Nat, 0 ≤ en ∧ en ≤ s.size ∧ x = .int .i64 en ∧ y = .int .i64 (refQ s.data.toList) ∧ Hid (valueOf (s.extract 0 en).data.toList = refP s.data.toList) ∧ (w.alloc (.cells #[.int .i64 0, .int .i64 0] 139)) = wx)
  case first =>
    go_wp2_with fail
    go_loopw [5, 6, 7] (fun x y z wx => ∃ i : Nat, 0 ≤ i ∧ i ≤ s.size ∧ x = .int .i64 s.size ∧ y = .int .i64 1 ∧ z = .int .i64 i ∧ Hid (∀ j (h : j < s.size), 0 ≤ j → j < i → s[j].toNat ≠ 47) ∧ (w.alloc (.cells #[.int .i64 0, .int .i64 0] 139)) = wx) (fun _ _ z _ => s.size - (RowKit.intOf z).toNat)
    case atStart => exact ⟨0, by omega, by omega, rfl, rfl, rfl, fun j _ h1 h2 => by omega, rfl⟩
    case round =>
      obtain ⟨i, h1, h2, rfl, rfl, rfl, HI, rfl⟩ := hrel
      by_cases hi : i < s.size
      · by_cases hc : s[i].toNat = 47
        · have hc' : ((s[i].toNat : Int) == 47) = true := by rw [beq_iff_eq]; omega
          have HV := hide (slash_at s false i (unhide HN) hi h1 hc (unhide HI))
          clear hc
          go_wp2_with fail
          refine (value_any (s.extract (i + 1) s.size) _ (Nat.le_trans (ext_size s _ _) hs')).mono ?_
          rintro e w' ⟨rfl, rfl⟩
          rw [(unhide HV).2]
          go_wp2_with fail
          go_meet
          exact ⟨i, h1, by omega, rfl, rfl, (unhide HV).1, rfl⟩
        · have hc' : ((s[i].toNat : Int) == 47) = false := by rw [beq_eq_false_iff_ne]; omega
          have HJ : Hid (∀ j (h : j < s.size), 0 ≤ j → j < i + 1 → s[j].toNat ≠ 47) := by
            intro j h h1 h2
            by_cases hj : j < i
            · exact unhide HI j h h1 hj
            · obtain rfl : j = i := by omega
              exact hc
          clear hc
          go_wp2_with fail
          go_roundw
          case rel => exact ⟨i + 1, by omega, by omega, rfl, rfl, by go_num, unhide HJ, by trivial⟩
          case measure => simp [RowKit.intOf]; omega
      · have hi' : ¬ (i : Int) < s.size := by omega
        have HV := hide (slash_none s false (unhide HN) (fun j h hf _ => unhide HI j h hf (by omega)))
        go_wp2_with fail
        go_meet
        exact ⟨s.size, by omega, by omega, rfl, by rw [(unhide HV).2], (unhide HV).1, rfl⟩
  case rest =>
    obtain ⟨en, he1, he2, rfl, rfl, HV, rfl⟩ := hcut
    have hp : -1 ≤ refP s.data.toList ∧ refP s.data.toList ≤ 9999999999 := valueOf_bd _
    have hq := refQ_bd s.data.toList
    have HT : Hid (refT s.data.toList = refP s.data.toList) := by show _ = _; unfold refT; rw [unhide HN]; rfl
    have HB := hide (rr_bad s.data.toList)
    have HF := hide (rr_nofit s.data.toList)
    have HO := hide (ref_ok s.data.toList)
    have HNo := hide (rr_no s.data.toList)
    rw [unhide HT] at HF HO HNo
    clear HT HN
    go_wp2_with fail
    refine (value_any (s.extract 0 en) _ (Nat.le_trans (ext_size s _ _) hs')).mono ?_
    rintro e w' ⟨rfl, rfl⟩
    rw [unhide HV]
    clear HV
    generalize refP s.data.toList = P at *
    generalize refQ s.data.toList = Q at *
    by_cases hbad : P < 0 ∨ Q < 1
    · have HE := hide ((unhide HB) hbad)
      by_cases hP : P < 0
      all_goals
        go_wp2_with fail
        exact bodyPost_ret (v := .tuple #[.agg #[.int .i64 0, .int .i64 1], .bool false]) (by simp [results, Tryz.results115, go_sem]) rfl ⟨Or.inr ⟨unhide HE, _, _, rfl⟩, (by repeat (first | exact Below.refl _ _ | refine below_dr ?_ _ | refine Below.drew ?_ | refine Below.setCell ?_ (by simp) _ | refine Below.alloc ?_ (by simp) _))⟩
    have hP : ¬ P < 0 := by omega
    have hQ : ¬ Q < 1 := by omega
    have hQ1 : 1 ≤ Q := by omega
    clear hbad HB
    go_wp2_with fail
    refine (Low_int P Q _ (by omega) (by omega) (by omega) (by omega)).mono ?_
    rintro e w1 ⟨⟨hf, rfl⟩ | ⟨hf, rfl⟩, hb⟩
    · have HFt := hide hf
      clear hf
      obtain ⟨hcell, hfr⟩ := bcell hb
      have hz1 : w.heap.size + 1 ≤ w1.heap.size := by have := hb.size; simpa using this
      have hz2 : w.heap.size < w1.heap.size + 1 := by omega
      have hz3 : w.heap.size < w1.heap.size := by omega
      have hz4 : ¬ w.heap.size = w1.heap.size := by omega
      have hz5 : ¬ w1.heap.size = w.heap.size := by omega
      have hfb := fits_bd P Q hQ1 (unhide HFt)
      have HB2 : Hid (RReadSays s (.returned (.tuple #[.agg #[.int .i64 (lowP P Q), .int .i64 (lowQ P Q)], .bool (numText (lowP P Q) (lowQ P Q) == s.toList)]))) := by
        cases hB : (numText (lowP P Q) (lowQ P Q) == s.toList) with
        | true => exact Or.inl ⟨_, _, (unhide HO) hQ1 (unhide HFt) ((beq_text _ s).1 hB), rfl⟩
        | false => exact Or.inr ⟨(unhide HNo) (fun e => by rw [(beq_text _ s).2 e] at hB; cases hB), _, _, rfl⟩
      clear HO HNo HF
      go_wp2_with fail
      go_region_with (go_at_call 128; refine (rText_any _ _ _ hfb.1 hfb.2.1 hfb.2.2.1 hfb.2.2.2).mono ?_; rintro e w2 ⟨rfl, hb2⟩; obtain ⟨hcell2, hfr2⟩ := bcell hb2)
      all_goals go_wp2_with fail
      all_goals
        obtain ⟨c0, c1, hbw⟩ := two_cells hb hb2
        refine bodyPost_ret (v := .tuple #[.agg #[.int .i64 (lowP P Q), .int .i64 (lowQ P Q)], .bool (numText (lowP P Q) (lowQ P Q) == s.toList)]) ?_ ?_ ⟨unhide HB2, ?_⟩
        · simp [results, Tryz.results115, go_sem, c0, c1]
        · rfl
        · exact (hbw.setCell (by simp) _).setCell (by simp) _
    · have HE := hide ((unhide HF) hf)
      clear hf HF HO HNo
      obtain ⟨hcell, hfr⟩ := bcell hb
      have hz1 : w.heap.size + 1 ≤ w1.heap.size := by have := hb.size; simpa using this
      have hz2 : w.heap.size < w1.heap.size + 1 := by omega
      have hz3 : w.heap.size < w1.heap.size := by omega
      have hz4 : ¬ w.heap.size = w1.heap.size := by omega
      have hz5 : ¬ w1.heap.size = w.heap.size := by omega
      go_wp2_with fail
      go_region
      all_goals go_wp2_with fail
      all_goals
        obtain ⟨c0, c1, hbw⟩ := three_cells hb (.int .i64 0) (.int .i64 1) (.cells #[.int .i64 0, .int .i64 1] 139)
        refine bodyPost_ret (v := .tuple #[.agg #[.int .i64 0, .int .i64 1], .bool false]) ?_ ?_ ⟨Or.inr ⟨unhide HE, _, _, rfl⟩, ?_⟩
        · simp [results, Tryz.results115, go_sem, c0, c1]
        · rfl
        · exact hbw.drew
end Go.Proofs.YtikiaijgcjjloabGreatDoor

/- The walk of the document's reading of a number: the whole. -/
namespace Go.Proofs.YtikiaijgcjjloabGreatDoor
open Go Go.RowKit M Go.Lib

theorem list_empty (s : ByteArray) (h : s.size = 0) : s.data.toList = [] := List.length_eq_zero_iff.1 (by rw [len_size]; exact h)
theorem none_empty (s : ByteArray) (h : s.size = 0) : ∀ t b, ¬ IsNum s.data.toList t b := by
  apply rr_bad
  rw [list_empty s h]
  exact Or.inl (by decide)
set_option maxRecDepth 100000 in
set_option maxHeartbeats 400000 in
theorem RRead_nil (w : World) :
    Calls Tryz.prog 115 #[.string ⟨#[]⟩] w fun e w' => RReadSays ⟨#[]⟩ e ∧ Below w.heap.size w w' := by
  have HE := hide (none_empty ⟨#[]⟩ rfl)
  go_enter Tryz.func115, Tryz.ntmps115
  go_wp2_with fail
  go_loopw [5, 6, 7] (fun x y z wx => x = .int .i64 0 ∧ y = .int .i64 1 ∧ z = .int .i64 0 ∧ (w.alloc (.cells #[.int .i64 0, .int .i64 0] 139)) = wx) (fun _ _ _ _ => 0)
  case atStart => exact ⟨rfl, rfl, rfl, rfl⟩
  case round =>
    obtain ⟨rfl, rfl, rfl, rfl⟩ := hrel
    go_wp2_with fail
    refine (value_any (ByteArray.extract ⟨#[]⟩ 0 0) _ (by decide)).mono ?_
    rintro e w' ⟨rfl, rfl⟩
    rw [show valueOf (ByteArray.extract ⟨#[]⟩ 0 0).data.toList = -1 from by decide]
    go_wp2_with fail
    exact bodyPost_ret (v := .tuple #[.agg #[.int .i64 0, .int .i64 1], .bool false]) (by simp [results, Tryz.results115, go_sem]) rfl ⟨Or.inr ⟨unhide HE, _, _, rfl⟩, (by repeat (first | exact Below.refl _ _ | refine below_dr ?_ _ | refine Below.drew ?_ | refine Below.setCell ?_ (by simp) _ | refine Below.alloc ?_ (by simp) _))⟩
theorem RRead_empty (s : ByteArray) (w : World) (h0 : s.size = 0) :
    Calls Tryz.prog 115 #[.string s] w fun e w' => RReadSays s e ∧ Below w.heap.size w w' := by
  obtain rfl : s = ⟨#[]⟩ := by
    apply ByteArray.ext
    have := list_empty s h0
    simpa using this
  exact RRead_nil w

theorem RRead_any (s : ByteArray) (w : World) (hs : s.size ≤ maxLen) :
    Calls Tryz.prog 115 #[.string s] w fun e w' => RReadSays s e ∧ Below w.heap.size w w' := by
  by_cases h0 : s.size = 0
  · exact RRead_empty s w h0
  · cases hn : neg s.data.toList with
    | true => exact RRead_neg s w hs (by omega) hn
    | false => exact RRead_pos s w hs (by omega) hn
end Go.Proofs.YtikiaijgcjjloabGreatDoor

/- The walks: what is reckoned with numbers, the program's and the document's. -/
namespace Go.Proofs.YtikiaijgcjjloabGreatDoor
open Go Go.RowKit M Go.Lib

def overP (t b : Int) : Int := if t < 0 then -b else b
def overQ (t _b : Int) : Int := if t < 0 then -t else t
theorem overP_neg (t b : Int) (h : t < 0) : overP t b = -b := by unfold overP; rw [if_pos h]
theorem overP_pos (t b : Int) (h : ¬ t < 0) : overP t b = b := by unfold overP; rw [if_neg h]
theorem overQ_neg (t b : Int) (h : t < 0) : overQ t b = -t := by unfold overQ; rw [if_pos h]
theorem overQ_pos (t b : Int) (h : ¬ t < 0) : overQ t b = t := by unfold overQ; rw [if_neg h]
theorem over_bd (t b : Int) (h1 : -1000000000 ≤ t) (h2 : t ≤ 1000000000) (h3 : 1 ≤ b) (h4 : b ≤ 1000000000) (h0 : t ≠ 0) : -1000000000 ≤ overP t b ∧ overP t b ≤ 1000000000 ∧ 1 ≤ overQ t b ∧ overQ t b ≤ 1000000000 := by
  unfold overP overQ; split <;> omega
theorem mul_bd (x y : Int) (h1 : -1000000000 ≤ x) (h2 : x ≤ 1000000000) (h3 : -1000000000 ≤ y) (h4 : y ≤ 1000000000) : -1000000000000000000 ≤ x * y ∧ x * y ≤ 1000000000000000000 := by
  have h : (x * y).natAbs ≤ 1000000000 * 1000000000 := by
    rw [Int.natAbs_mul]
    exact Nat.mul_le_mul (by omega) (by omega)
  omega
theorem mul_pos1 (x y : Int) (h1 : 1 ≤ x) (h2 : 1 ≤ y) : 1 ≤ x * y := by
  have := Int.mul_pos (show 0 < x by omega) (show 0 < y by omega)
  omega

theorem cell_new2 {W w1 : World} {T : TypeId} {x y : Value} (hb : Below (W.alloc (.cells #[x, y] T)).heap.size (W.alloc (.cells #[x, y] T)) w1) :
    w1.cell? ⟨W.heap.size, 0, none⟩ = some x ∧ w1.cell? ⟨W.heap.size, 1, none⟩ = some y := by
  constructor
  · rw [hb.cell (p := ⟨W.heap.size, 0, none⟩) (by simp)]; simp [go_sem]
  · rw [hb.cell (p := ⟨W.heap.size, 1, none⟩) (by simp)]; simp [go_sem]

theorem lowest_int (p q : Int) (w : World) (h1 : -4000000000000000000 ≤ p) (h2 : p ≤ 4000000000000000000) (h3 : 1 ≤ q) (h4 : q ≤ 4000000000000000000) :
    Calls Tryz.prog 143 #[.int .i64 p, .int .i64 q] w fun e w' => ((fitsB p q = true ∧ e = .returned (.tuple #[.agg #[.int .i64 (lowP p q), .int .i64 (lowQ p q)], .int .i64 0])) ∨ (fitsB p q = false ∧ e = .returned (.tuple #[.agg #[.int .i64 0, .int .i64 0], .int .i64 3]))) ∧ Below w.heap.size w w' := by
  obtain ⟨b, rfl⟩ := Int.eq_ofNat_of_zero_le (show 0 ≤ q by omega)
  exact lowest_any p b w h1 h2 (by omega) (by omega)

set_option maxRecDepth 100000 in
set_option maxHeartbeats 400000 in
theorem nOver_any (t b : Int) (w : World) (h1 : -1000000000 ≤ t) (h2 : t ≤ 1000000000) (h3 : 1 ≤ b) (h4 : b ≤ 1000000000) :
    Calls Tryz.prog 99 #[.agg #[.int .i64 t, .int .i64 b]] w fun e w' => ((t = 0 ∧ e = .returned (.tuple #[.agg #[.int .i64 0, .int .i64 0], .int .i64 2])) ∨ (t ≠ 0 ∧ e = .returned (.tuple #[.agg #[.int .i64 (overP t b), .int .i64 (overQ t b)], .int .i64 0]))) ∧ Below w.heap.size w w' := by
  by_cases h0 : t = 0
  · subst h0
    go_enter Tryz.func99, Tryz.ntmps99
    go_wp2_with fail
    exact bodyPost_ret (v := .tuple #[.agg #[.int .i64 0, .int .i64 0], .int .i64 2]) (by simp [results, Tryz.results99, go_sem]) rfl ⟨Or.inl ⟨by simp, rfl⟩, (by repeat (first | exact Below.refl _ _ | refine below_dr ?_ _ | refine Below.drew ?_ | refine Below.setCell ?_ (by simp) _ | refine Below.alloc ?_ (by simp) _))⟩
  · have H0 := hide h0
    have hz : (t == 0) = false := by rw [beq_eq_false_iff_ne]; exact h0
    clear h0
    by_cases hn : t < 0
    · have HP := hide (overP_neg t b hn)
      have HQ := hide (overQ_neg t b hn)
      go_enter Tryz.func99, Tryz.ntmps99
      go_wp2_with fail
      exact bodyPost_ret (v := .tuple #[.agg #[.int .i64 (-b), .int .i64 (-t)], .int .i64 0]) (by simp [results, Tryz.results99, go_sem]) rfl ⟨Or.inr ⟨unhide H0, by rw [unhide HP, unhide HQ]⟩, (by repeat (first | exact Below.refl _ _ | refine below_dr ?_ _ | refine Below.drew ?_ | refine Below.setCell ?_ (by simp) _ | refine Below.alloc ?_ (by simp) _))⟩
    · have HP := hide (overP_pos t b hn)
      have HQ := hide (overQ_pos t b hn)
      go_enter Tryz.func99, Tryz.ntmps99
      go_wp2_with fail
      exact bodyPost_ret (v := .tuple #[.agg #[.int .i64 b, .int .i64 t], .int .i64 0]) (by simp [results, Tryz.results99, go_sem]) rfl ⟨Or.inr ⟨unhide H0, by rw [unhide HP, unhide HQ]⟩, (by repeat (first | exact Below.refl _ _ | refine below_dr ?_ _ | refine Below.drew ?_ | refine Below.setCell ?_ (by simp) _ | refine Below.alloc ?_ (by simp) _))⟩

set_option maxRecDepth 100000 in
set_option maxHeartbeats 400000 in
theorem rInv_any (t b : Int) (w : World) (h1 : -1000000000 ≤ t) (h2 : t ≤ 1000000000) (h3 : 1 ≤ b) (h4 : b ≤ 1000000000) :
    Calls Tryz.prog 116 #[.agg #[.int .i64 t, .int .i64 b]] w fun e w' => ((t = 0 ∧ e = .returned (.tuple #[.agg #[.int .i64 0, .int .i64 1], .int .i64 2])) ∨ (t ≠ 0 ∧ e = .returned (.tuple #[.agg #[.int .i64 (overP t b), .int .i64 (overQ t b)], .int .i64 0]))) ∧ Below w.heap.size w w' := by
  by_cases h0 : t = 0
  · subst h0
    go_enter Tryz.func116, Tryz.ntmps116
    go_wp2_with fail
    exact bodyPost_ret (v := .tuple #[.agg #[.int .i64 0, .int .i64 1], .int .i64 2]) (by simp [results, Tryz.results116, go_sem]) rfl ⟨Or.inl ⟨by simp, rfl⟩, (by repeat (first | exact Below.refl _ _ | refine below_dr ?_ _ | refine Below.drew ?_ | refine Below.setCell ?_ (by simp) _ | refine Below.alloc ?_ (by simp) _))⟩
  · have H0 := hide h0
    have hz : (t == 0) = false := by rw [beq_eq_false_iff_ne]; exact h0
    clear h0
    by_cases hn : t < 0
    · have HP := hide (overP_neg t b hn)
      have HQ := hide (overQ_neg t b hn)
      go_enter Tryz.func116, Tryz.ntmps116
      go_wp2_with fail
      exact bodyPost_ret (v := .tuple #[.agg #[.int .i64 (-b), .int .i64 (-t)], .int .i64 0]) (by simp [results, Tryz.results116, go_sem]) rfl ⟨Or.inr ⟨unhide H0, by rw [unhide HP, unhide HQ]⟩, (by repeat (first | exact Below.refl _ _ | refine below_dr ?_ _ | refine Below.drew ?_ | refine Below.setCell ?_ (by simp) _ | refine Below.alloc ?_ (by simp) _))⟩
    · have HP := hide (overP_pos t b hn)
      have HQ := hide (overQ_pos t b hn)
      go_enter Tryz.func116, Tryz.ntmps116
      go_wp2_with fail
      exact bodyPost_ret (v := .tuple #[.agg #[.int .i64 b, .int .i64 t], .int .i64 0]) (by simp [results, Tryz.results116, go_sem]) rfl ⟨Or.inr ⟨unhide H0, by rw [unhide HP, unhide HQ]⟩, (by repeat (first | exact Below.refl _ _ | refine below_dr ?_ _ | refine Below.drew ?_ | refine Below.setCell ?_ (by simp) _ | refine Below.alloc ?_ (by simp) _))⟩

set_option maxRecDepth 100000 in
set_option maxHeartbeats 400000 in
theorem nPlus_any (t1 b1 t2 b2 : Int) (w : World) (h1 : -1000000000 ≤ t1) (h2 : t1 ≤ 1000000000) (h3 : 1 ≤ b1) (h4 : b1 ≤ 1000000000) (k1 : -1000000000 ≤ t2) (k2 : t2 ≤ 1000000000) (k3 : 1 ≤ b2) (k4 : b2 ≤ 1000000000) :
    Calls Tryz.prog 108 #[.agg #[.int .i64 t1, .int .i64 b1], .agg #[.int .i64 t2, .int .i64 b2]] w fun e w' => ((fitsB (t1 * b2 + t2 * b1) (b1 * b2) = true ∧ e = .returned (.tuple #[.agg #[.int .i64 (lowP (t1 * b2 + t2 * b1) (b1 * b2)), .int .i64 (lowQ (t1 * b2 + t2 * b1) (b1 * b2))], .int .i64 0])) ∨ (fitsB (t1 * b2 + t2 * b1) (b1 * b2) = false ∧ e = .returned (.tuple #[.agg #[.int .i64 0, .int .i64 0], .int .i64 3]))) ∧ Below w.heap.size w w' := by
  have m1 := mul_bd t1 b2 h1 h2 (by omega) k4
  have m2 := mul_bd t2 b1 k1 k2 (by omega) h4
  have m3 := mul_bd b1 b2 (by omega) h4 (by omega) k4
  have m4 := mul_pos1 b1 b2 h3 k3
  go_enter Tryz.func108, Tryz.ntmps108
  go_wp2_with fail
  refine (lowest_int (t1 * b2 + t2 * b1) (b1 * b2) _ (by omega) (by omega) (by omega) (by omega)).mono ?_
  rintro e w1 ⟨⟨hf, rfl⟩ | ⟨hf, rfl⟩, hb⟩
  ·
    have HF := hide hf
    clear hf m1 m2 m3 m4
    obtain ⟨hcell, hfr⟩ := bcell hb
    obtain ⟨c0, c1⟩ := cell_new2 hb
    simp only [World.size_alloc] at c0 c1
    have hz1 : w.heap.size + 3 ≤ w1.heap.size := by have := hb.size; simpa using this
    have hz2 : w.heap.size + 1 + 1 < w1.heap.size := by omega
    have hz3 : ¬ w.heap.size + 1 + 1 = w1.heap.size := by omega
    have hz4 : ¬ w1.heap.size = w.heap.size + 1 + 1 := by omega
    go_wp2_with fail
    refine bodyPost_ret (v := .tuple #[.agg #[.int .i64 (lowP (t1 * b2 + t2 * b1) (b1 * b2)), .int .i64 (lowQ (t1 * b2 + t2 * b1) (b1 * b2))], .int .i64 0]) ?_ rfl ⟨Or.inl ⟨unhide HF, rfl⟩, ?_⟩
    · simp [results, Tryz.results108, go_sem, c0, c1]
    · exact ((((((Below.refl _ _).alloc (Nat.le_refl _) _).alloc (by simp) _).alloc (by simp; omega) _).trans (hb.mono (by simp; omega))).setCell (by simp; omega) _).setCell (by simp; omega) _
  ·
    have HF := hide hf
    clear hf m1 m2 m3 m4
    obtain ⟨hcell, hfr⟩ := bcell hb
    obtain ⟨c0, c1⟩ := cell_new2 hb
    simp only [World.size_alloc] at c0 c1
    have hz1 : w.heap.size + 3 ≤ w1.heap.size := by have := hb.size; simpa using this
    have hz2 : w.heap.size + 1 + 1 < w1.heap.size := by omega
    have hz3 : ¬ w.heap.size + 1 + 1 = w1.heap.size := by omega
    have hz4 : ¬ w1.heap.size = w.heap.size + 1 + 1 := by omega
    go_wp2_with fail
    refine bodyPost_ret (v := .tuple #[.agg #[.int .i64 0, .int .i64 0], .int .i64 3]) ?_ rfl ⟨Or.inr ⟨unhide HF, rfl⟩, ?_⟩
    · simp [results, Tryz.results108, go_sem, c0, c1]
    · exact ((((((Below.refl _ _).alloc (Nat.le_refl _) _).alloc (by simp) _).alloc (by simp; omega) _).trans (hb.mono (by simp; omega))).setCell (by simp; omega) _).setCell (by simp; omega) _

set_option maxRecDepth 100000 in
set_option maxHeartbeats 400000 in
theorem nTimes_any (t1 b1 t2 b2 : Int) (w : World) (h1 : -1000000000 ≤ t1) (h2 : t1 ≤ 1000000000) (h3 : 1 ≤ b1) (h4 : b1 ≤ 1000000000) (k1 : -1000000000 ≤ t2) (k2 : t2 ≤ 1000000000) (k3 : 1 ≤ b2) (k4 : b2 ≤ 1000000000) :
    Calls Tryz.prog 113 #[.agg #[.int .i64 t1, .int .i64 b1], .agg #[.int .i64 t2, .int .i64 b2]] w fun e w' => ((fitsB (t1 * t2) (b1 * b2) = true ∧ e = .returned (.tuple #[.agg #[.int .i64 (lowP (t1 * t2) (b1 * b2)), .int .i64 (lowQ (t1 * t2) (b1 * b2))], .int .i64 0])) ∨ (fitsB (t1 * t2) (b1 * b2) = false ∧ e = .returned (.tuple #[.agg #[.int .i64 0, .int .i64 0], .int .i64 3]))) ∧ Below w.heap.size w w' := by
  have m1 := mul_bd t1 t2 h1 h2 k1 k2
  have m3 := mul_bd b1 b2 (by omega) h4 (by omega) k4
  have m4 := mul_pos1 b1 b2 h3 k3
  go_enter Tryz.func113, Tryz.ntmps113
  go_wp2_with fail
  refine (lowest_int (t1 * t2) (b1 * b2) _ (by omega) (by omega) (by omega) (by omega)).mono ?_
  rintro e w1 ⟨⟨hf, rfl⟩ | ⟨hf, rfl⟩, hb⟩
  ·
    have HF := hide hf
    clear hf m1 m3 m4
    obtain ⟨hcell, hfr⟩ := bcell hb
    obtain ⟨c0, c1⟩ := cell_new2 hb
    simp only [World.size_alloc] at c0 c1
    have hz1 : w.heap.size + 3 ≤ w1.heap.size := by have := hb.size; simpa using this
    have hz2 : w.heap.size + 1 + 1 < w1.heap.size := by omega
    have hz3 : ¬ w.heap.size + 1 + 1 = w1.heap.size := by omega
    have hz4 : ¬ w1.heap.size = w.heap.size + 1 + 1 := by omega
    go_wp2_with fail
    refine bodyPost_ret (v := .tuple #[.agg #[.int .i64 (lowP (t1 * t2) (b1 * b2)), .int .i64 (lowQ (t1 * t2) (b1 * b2))], .int .i64 0]) ?_ rfl ⟨Or.inl ⟨unhide HF, rfl⟩, ?_⟩
    · simp [results, Tryz.results113, go_sem, c0, c1]
    · exact ((((((Below.refl _ _).alloc (Nat.le_refl _) _).alloc (by simp) _).alloc (by simp; omega) _).trans (hb.mono (by simp; omega))).setCell (by simp; omega) _).setCell (by simp; omega) _
  ·
    have HF := hide hf
    clear hf m1 m3 m4
    obtain ⟨hcell, hfr⟩ := bcell hb
    obtain ⟨c0, c1⟩ := cell_new2 hb
    simp only [World.size_alloc] at c0 c1
    have hz1 : w.heap.size + 3 ≤ w1.heap.size := by have := hb.size; simpa using this
    have hz2 : w.heap.size + 1 + 1 < w1.heap.size := by omega
    have hz3 : ¬ w.heap.size + 1 + 1 = w1.heap.size := by omega
    have hz4 : ¬ w1.heap.size = w.heap.size + 1 + 1 := by omega
    go_wp2_with fail
    refine bodyPost_ret (v := .tuple #[.agg #[.int .i64 0, .int .i64 0], .int .i64 3]) ?_ rfl ⟨Or.inr ⟨unhide HF, rfl⟩, ?_⟩
    · simp [results, Tryz.results113, go_sem, c0, c1]
    · exact ((((((Below.refl _ _).alloc (Nat.le_refl _) _).alloc (by simp) _).alloc (by simp; omega) _).trans (hb.mono (by simp; omega))).setCell (by simp; omega) _).setCell (by simp; omega) _

set_option maxRecDepth 100000 in
set_option maxHeartbeats 400000 in
theorem rAdd_any (t1 b1 t2 b2 : Int) (w : World) (h1 : -1000000000 ≤ t1) (h2 : t1 ≤ 1000000000) (h3 : 1 ≤ b1) (h4 : b1 ≤ 1000000000) (k1 : -1000000000 ≤ t2) (k2 : t2 ≤ 1000000000) (k3 : 1 ≤ b2) (k4 : b2 ≤ 1000000000) :
    Calls Tryz.prog 111 #[.agg #[.int .i64 t1, .int .i64 b1], .agg #[.int .i64 t2, .int .i64 b2]] w fun e w' => ((fitsB (t1 * b2 + t2 * b1) (b1 * b2) = true ∧ e = .returned (.tuple #[.agg #[.int .i64 (lowP (t1 * b2 + t2 * b1) (b1 * b2)), .int .i64 (lowQ (t1 * b2 + t2 * b1) (b1 * b2))], .int .i64 0])) ∨ (fitsB (t1 * b2 + t2 * b1) (b1 * b2) = false ∧ e = .returned (.tuple #[.agg #[.int .i64 0, .int .i64 1], .int .i64 3]))) ∧ Below w.heap.size w w' := by
  have m1 := mul_bd t1 b2 h1 h2 (by omega) k4
  have m2 := mul_bd t2 b1 k1 k2 (by omega) h4
  have m3 := mul_bd b1 b2 (by omega) h4 (by omega) k4
  have m4 := mul_pos1 b1 b2 h3 k3
  go_enter Tryz.func111, Tryz.ntmps111
  go_wp2_with fail
  refine (Low_int (t1 * b2 + t2 * b1) (b1 * b2) _ (by omega) (by omega) (by omega) (by omega)).mono ?_
  rintro e w1 ⟨⟨hf, rfl⟩ | ⟨hf, rfl⟩, hb⟩
  ·
    have HF := hide hf
    clear hf m1 m2 m3 m4
    obtain ⟨hcell, hfr⟩ := bcell hb
    obtain ⟨d0, d1, hbw⟩ := three_cells hb (.int .i64 (lowP (t1 * b2 + t2 * b1) (b1 * b2))) (.int .i64 (lowQ (t1 * b2 + t2 * b1) (b1 * b2))) (.cells #[.int .i64 (lowP (t1 * b2 + t2 * b1) (b1 * b2)), .int .i64 (lowQ (t1 * b2 + t2 * b1) (b1 * b2))] 139)
    simp only [World.size_alloc] at d0 d1 hbw
    have hz1 : w.heap.size + 3 ≤ w1.heap.size := by have := hb.size; simpa using this
    have hz2 : w.heap.size + 1 + 1 < w1.heap.size := by omega
    have hz3 : ¬ w.heap.size + 1 + 1 = w1.heap.size := by omega
    have hz4 : ¬ w1.heap.size = w.heap.size + 1 + 1 := by omega
    go_wp2_with fail
    refine bodyPost_ret (v := .tuple #[.agg #[.int .i64 (lowP (t1 * b2 + t2 * b1) (b1 * b2)), .int .i64 (lowQ (t1 * b2 + t2 * b1) (b1 * b2))], .int .i64 0]) ?_ rfl ⟨Or.inl ⟨unhide HF, rfl⟩, ?_⟩
    · simp [results, Tryz.results111, go_sem, d0, d1]
    · exact (((Below.refl _ _).alloc (Nat.le_refl _) _).alloc (by simp) _).trans (hbw.mono (by omega))
  ·
    have HF := hide hf
    clear hf m1 m2 m3 m4
    obtain ⟨hcell, hfr⟩ := bcell hb
    obtain ⟨d0, d1, hbw⟩ := three_cells hb (.int .i64 0) (.int .i64 1) (.cells #[.int .i64 0, .int .i64 1] 139)
    simp only [World.size_alloc] at d0 d1 hbw
    have hz1 : w.heap.size + 3 ≤ w1.heap.size := by have := hb.size; simpa using this
    have hz2 : w.heap.size + 1 + 1 < w1.heap.size := by omega
    have hz3 : ¬ w.heap.size + 1 + 1 = w1.heap.size := by omega
    have hz4 : ¬ w1.heap.size = w.heap.size + 1 + 1 := by omega
    go_wp2_with fail
    refine bodyPost_ret (v := .tuple #[.agg #[.int .i64 0, .int .i64 1], .int .i64 3]) ?_ rfl ⟨Or.inr ⟨unhide HF, rfl⟩, ?_⟩
    · simp [results, Tryz.results111, go_sem, d0, d1]
    · exact (((Below.refl _ _).alloc (Nat.le_refl _) _).alloc (by simp) _).trans (hbw.mono (by omega))

set_option maxRecDepth 100000 in
set_option maxHeartbeats 400000 in
theorem rMul_any (t1 b1 t2 b2 : Int) (w : World) (h1 : -1000000000 ≤ t1) (h2 : t1 ≤ 1000000000) (h3 : 1 ≤ b1) (h4 : b1 ≤ 1000000000) (k1 : -1000000000 ≤ t2) (k2 : t2 ≤ 1000000000) (k3 : 1 ≤ b2) (k4 : b2 ≤ 1000000000) :
    Calls Tryz.prog 114 #[.agg #[.int .i64 t1, .int .i64 b1], .agg #[.int .i64 t2, .int .i64 b2]] w fun e w' => ((fitsB (t1 * t2) (b1 * b2) = true ∧ e = .returned (.tuple #[.agg #[.int .i64 (lowP (t1 * t2) (b1 * b2)), .int .i64 (lowQ (t1 * t2) (b1 * b2))], .int .i64 0])) ∨ (fitsB (t1 * t2) (b1 * b2) = false ∧ e = .returned (.tuple #[.agg #[.int .i64 0, .int .i64 1], .int .i64 3]))) ∧ Below w.heap.size w w' := by
  have m1 := mul_bd t1 t2 h1 h2 k1 k2
  have m3 := mul_bd b1 b2 (by omega) h4 (by omega) k4
  have m4 := mul_pos1 b1 b2 h3 k3
  go_enter Tryz.func114, Tryz.ntmps114
  go_wp2_with fail
  refine (Low_int (t1 * t2) (b1 * b2) _ (by omega) (by omega) (by omega) (by omega)).mono ?_
  rintro e w1 ⟨⟨hf, rfl⟩ | ⟨hf, rfl⟩, hb⟩
  ·
    have HF := hide hf
    clear hf m1 m3 m4
    obtain ⟨hcell, hfr⟩ := bcell hb
    obtain ⟨d0, d1, hbw⟩ := three_cells hb (.int .i64 (lowP (t1 * t2) (b1 * b2))) (.int .i64 (lowQ (t1 * t2) (b1 * b2))) (.cells #[.int .i64 (lowP (t1 * t2) (b1 * b2)), .int .i64 (lowQ (t1 * t2) (b1 * b2))] 139)
    simp only [World.size_alloc] at d0 d1 hbw
    have hz1 : w.heap.size + 3 ≤ w1.heap.size := by have := hb.size; simpa using this
    have hz2 : w.heap.size + 1 + 1 < w1.heap.size := by omega
    have hz3 : ¬ w.heap.size + 1 + 1 = w1.heap.size := by omega
    have hz4 : ¬ w1.heap.size = w.heap.size + 1 + 1 := by omega
    go_wp2_with fail
    refine bodyPost_ret (v := .tuple #[.agg #[.int .i64 (lowP (t1 * t2) (b1 * b2)), .int .i64 (lowQ (t1 * t2) (b1 * b2))], .int .i64 0]) ?_ rfl ⟨Or.inl ⟨unhide HF, rfl⟩, ?_⟩
    · simp [results, Tryz.results114, go_sem, d0, d1]
    · exact (((Below.refl _ _).alloc (Nat.le_refl _) _).alloc (by simp) _).trans (hbw.mono (by omega))
  ·
    have HF := hide hf
    clear hf m1 m3 m4
    obtain ⟨hcell, hfr⟩ := bcell hb
    obtain ⟨d0, d1, hbw⟩ := three_cells hb (.int .i64 0) (.int .i64 1) (.cells #[.int .i64 0, .int .i64 1] 139)
    simp only [World.size_alloc] at d0 d1 hbw
    have hz1 : w.heap.size + 3 ≤ w1.heap.size := by have := hb.size; simpa using this
    have hz2 : w.heap.size + 1 + 1 < w1.heap.size := by omega
    have hz3 : ¬ w.heap.size + 1 + 1 = w1.heap.size := by omega
    have hz4 : ¬ w1.heap.size = w.heap.size + 1 + 1 := by omega
    go_wp2_with fail
    refine bodyPost_ret (v := .tuple #[.agg #[.int .i64 0, .int .i64 1], .int .i64 3]) ?_ rfl ⟨Or.inr ⟨unhide HF, rfl⟩, ?_⟩
    · simp [results, Tryz.results114, go_sem, d0, d1]
    · exact (((Below.refl _ _).alloc (Nat.le_refl _) _).alloc (by simp) _).trans (hbw.mono (by omega))
end Go.Proofs.YtikiaijgcjjloabGreatDoor

/- The walk of the statement Exactly. -/
import Derived.Test.YtikiaijgcjjloaaDoorExact
namespace Go.Proofs.YtikiaijgcjjloaaDoor
open Go Go.RowKit M Go.Lib

theorem itoa_any (n : Int) (w : World) (h0 : -4000000000000000000 ≤ n) (h1 : n ≤ 4000000000000000000) (ht : Tab w) :
    Calls Tryd.prog 39 #[.int .i64 n] w fun e w' => e = .returned (.string ⟨(itoa n).toArray⟩) ∧ Below w.heap.size w w' :=
  (Tryd.strconv_Itoa n (by omega) (by omega) w ht).mono fun _ _ ⟨he, k, os, hw⟩ => ⟨he, hw ▸ below_gr w k os⟩

theorem itoa_minus (p : Nat) (h : 1 ≤ p) : ((⟨#[45]⟩ : ByteArray) ++ (⟨(itoa p).toArray⟩ : ByteArray)) = ⟨(itoa (tt true p)).toArray⟩ := by
  have e : tt true p = -(p : Int) := rfl
  rw [e, itoa_neg (-(p : Int)) (by omega), itoa_pos (p : Int) (by omega)]
  apply ByteArray.ext
  simp
theorem tt_plain (n : Bool) (p : Nat) (h : n = false ∨ p = 0) : tt n p = (p : Int) := by
  unfold tt
  rcases h with rfl | rfl
  · rfl
  · cases n <;> rfl
theorem kt1 (t q : Int) (h : q ≤ 1) : (⟨(itoa t).toArray⟩ : ByteArray) = num t q := text_str1 t q h
theorem kt2 (t q : Int) (h : ¬ q ≤ 1) : ((⟨(itoa t).toArray⟩ : ByteArray) ++ (⟨#[47]⟩ : ByteArray)) ++ (⟨(itoa q).toArray⟩ : ByteArray) = num t q := text_str t q h

set_option maxRecDepth 100000 in
set_option maxHeartbeats 400000 in
theorem ktext_any (p q : Nat) (n : Bool) (w : World) (hp : p ≤ 1000000000) (hq : q ≤ 1000000000) (ht : Tab w) :
    Calls Tryd.prog 21 #[.int .i64 p, .int .i64 q, .bool n] w fun e w' => e = .returned (.string (num (tt n p) q)) ∧ Below w.heap.size w w' := by
  have HT := hide ht
  clear ht
  have hl1 := itoa_len p (by omega) (by omega)
  have hl2 := itoa_len q (by omega) (by omega)
  by_cases hm : n = true ∧ 1 ≤ p
  · obtain ⟨rfl, hp1⟩ := hm
    have hl3 := itoa_len (tt true p) (tt_bd true p hp).1 (tt_bd true p hp).2
    have HM := hide (itoa_minus p hp1)
    have hp0 : 0 < (p : Int) := by omega
    by_cases hq1 : (q : Int) ≤ 1
    · have HE := hide (kt1 (tt true p) q hq1)
      have hq2 : ¬ 1 < (q : Int) := by omega
      go_enter Tryd.func21, Tryd.ntmps21
      go_wp2_with fail
      refine (itoa_any p _ (by omega) (by omega) (unhide HT)).mono ?_
      rintro e w1 ⟨rfl, hb1⟩
      go_wp2_with fail
      go_ret
      exact ⟨ret_str (by rw [← unhide HE]; exact unhide HM), hb1⟩
    · have HE := hide (kt2 (tt true p) q hq1)
      have hq2 : 1 < (q : Int) := by omega
      go_enter Tryd.func21, Tryd.ntmps21
      go_wp2_with fail
      refine (itoa_any p _ (by omega) (by omega) (unhide HT)).mono ?_
      rintro e w1 ⟨rfl, hb1⟩
      go_wp2_with fail
      refine (itoa_any q _ (by omega) (by omega) (tab_below (unhide HT) hb1)).mono ?_
      rintro e w2 ⟨rfl, hb2⟩
      go_wp2_with fail
      go_ret
      exact ⟨ret_str (by rw [← unhide HE, ← unhide HM]), hb1.trans (hb2.mono hb1.size)⟩
  · have ht' : n = false ∨ p = 0 := by cases n with
      | true => right; simp at hm; omega
      | false => left; rfl
    rw [tt_plain n p ht']
    have hguard : n = false ∨ (n = true ∧ ¬ 0 < (p : Int)) := by
      cases n with
      | true => right; simp at hm; exact ⟨rfl, by omega⟩
      | false => left; rfl
    clear ht' hm
    by_cases hq1 : (q : Int) ≤ 1
    · have HE := hide (kt1 p q hq1)
      have hq2 : ¬ 1 < (q : Int) := by omega
      rcases hguard with rfl | ⟨rfl, hp0⟩
      all_goals
        go_enter Tryd.func21, Tryd.ntmps21
        go_wp2_with fail
        refine (itoa_any p _ (by omega) (by omega) (unhide HT)).mono ?_
        rintro e w1 ⟨rfl, hb1⟩
        go_wp2_with fail
        go_ret
        exact ⟨ret_str (unhide HE), hb1⟩
    · have HE := hide (kt2 p q hq1)
      have hq2 : 1 < (q : Int) := by omega
      rcases hguard with rfl | ⟨rfl, hp0⟩
      all_goals
        go_enter Tryd.func21, Tryd.ntmps21
        go_wp2_with fail
        refine (itoa_any p _ (by omega) (by omega) (unhide HT)).mono ?_
        rintro e w1 ⟨rfl, hb1⟩
        go_wp2_with fail
        refine (itoa_any q _ (by omega) (by omega) (tab_below (unhide HT) hb1)).mono ?_
        rintro e w2 ⟨rfl, hb2⟩
        go_wp2_with fail
        go_ret
        exact ⟨ret_str (unhide HE), hb1.trans (hb2.mono hb1.size)⟩
end Go.Proofs.YtikiaijgcjjloaaDoor

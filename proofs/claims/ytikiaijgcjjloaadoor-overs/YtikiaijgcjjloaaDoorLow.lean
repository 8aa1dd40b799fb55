/- The walks: lowest terms, the program's and the document's. -/
import Derived.Test.YtikiaijgcjjloaaDoorLeaf3
namespace Go.Proofs.YtikiaijgcjjloaaDoor
open Go Go.RowKit M Go.Lib

theorem gg_cast (p : Int) (b : Nat) : Nat.gcd p.natAbs b = gg p b := by unfold gg; simp
theorem tdiv_bd (p : Int) (g : Nat) : (p.tdiv g).natAbs ≤ p.natAbs := by rw [tdiv_natAbs]; exact Nat.div_le_self _ _

theorem below_dr {B : Nat} {a w : World} (h : Below B a w) (n : Nat) : Below B a (w.drewN n) := h.trans ⟨rfl, rfl, rfl, Nat.le_refl _, fun _ _ => rfl⟩
theorem bcell {W w1 : World} (hb : Below W.heap.size W w1) : (∀ b o, b < W.heap.size → w1.cell? ⟨b, o, none⟩ = W.cell? ⟨b, o, none⟩) ∧ (∀ b o, b < W.heap.size → w1.frozen? ⟨b, o, none⟩ = W.frozen? ⟨b, o, none⟩) :=
  ⟨fun b o h => hb.cell (p := ⟨b, o, none⟩) h, fun b o h => hb.frozen (p := ⟨b, o, none⟩) h⟩

theorem lowQ_div (p : Int) (b : Nat) : lowQ p b = (b : Int) / (gg p b : Int) := by unfold lowQ; rw [Int.tdiv_eq_ediv_of_nonneg (by omega)]
theorem lowP_div (m b : Nat) : lowP m b = (m : Int) / (gg m b : Int) := by unfold lowP; rw [Int.tdiv_eq_ediv_of_nonneg (by omega)]
theorem div_bd (b g : Nat) (h : b ≤ 4000000000000000000) : 0 ≤ (b : Int) / (g : Int) ∧ (b : Int) / (g : Int) ≤ 4000000000000000000 := by
  have h1 := Nat.div_le_self b g
  rw [← Int.natCast_ediv]
  generalize b / g = c at *
  omega
theorem fits_not (p : Int) (b : Nat) (hb : 1 ≤ b) (hf : fitsB p b = false) : 1000000000 < ((lowP p b).natAbs : Int) ∨ ((lowP p b).natAbs ≤ 1000000000 ∧ 1000000000 < lowQ p b) := by
  have h1 := lowP_abs p b
  have h2 := lowQ_eq p b (by omega)
  unfold fitsB at hf
  have hf' := of_decide_eq_false hf
  omega
theorem low_bd (p : Int) (b : Nat) (h1 : -4000000000000000000 ≤ p) (h2 : p ≤ 4000000000000000000) : -4000000000000000000 ≤ lowP p b ∧ lowP p b ≤ 4000000000000000000 := by
  have := lowP_le p b
  omega

set_option maxRecDepth 100000 in
set_option maxHeartbeats 400000 in
theorem lowest_any (p : Int) (b : Nat) (w : World) (h1 : -4000000000000000000 ≤ p) (h2 : p ≤ 4000000000000000000) (h3 : 1 ≤ b) (h4 : b ≤ 4000000000000000000) :
    Calls Tryd.prog 45 #[.int .i64 p, .int .i64 b] w fun e w' => ((fitsB p b = true ∧ e = .returned (.tuple #[.agg #[.int .i64 (lowP p b), .int .i64 (lowQ p b)], .int .i64 0])) ∨ (fitsB p b = false ∧ e = .returned (.tuple #[.agg #[.int .i64 0, .int .i64 0], .int .i64 3]))) ∧ Below w.heap.size w w' := by
  go_enter Tryd.func45, Tryd.ntmps45
  go_wp2_with fail
  refine (size_any p _ h1 h2).mono ?_
  rintro e w' ⟨rfl, rfl⟩
  go_wp2_with fail
  refine (commonDivisor_any p.natAbs b _ (by omega) (by omega)).mono ?_
  rintro e w' ⟨rfl, n, rfl⟩
  rw [gg_cast]
  have hg := gg_pos p b (by omega)
  have hg2 := gg_le p b (by omega)
  have HP := hide (show p.tdiv (gg p b) = lowP p b from rfl)
  have HQ := hide (lowQ_div p b)
  have hd := div_bd b (gg p b) h4
  have hl := low_bd p b h1 h2
  generalize gg p b = g at *
  go_wp2_with fail
  rw [unhide HP, ← unhide HQ]
  refine (size_any (lowP p b) _ hl.1 hl.2).mono ?_
  rintro e w' ⟨rfl, rfl⟩
  rw [← unhide HQ] at hd
  cases hf : fitsB p b with
  | true =>
    have hb := fits_bd p b (by omega) hf
    have HF := hide hf
    clear hf
    have hb1 : ¬ 1000000000 < ((lowP p b).natAbs : Int) := by omega
    have hb2 : ¬ 1000000000 < lowQ p b := by omega
    go_wp2_with fail
    exact bodyPost_ret (v := .tuple #[.agg #[.int .i64 (lowP p b), .int .i64 (lowQ p b)], .int .i64 0]) (by simp [results, Tryd.results45, go_sem]) rfl ⟨Or.inl ⟨unhide HF, rfl⟩, (by repeat (first | exact Below.refl _ _ | refine below_dr ?_ _ | refine Below.drew ?_ | refine Below.setCell ?_ (by simp) _ | refine Below.alloc ?_ (by simp) _))⟩
  | false =>
    have hb := fits_not p b h3 hf
    have HF := hide hf
    clear hf
    rcases hb with hb1 | ⟨hb0, hb2⟩
    · go_wp2_with fail
      exact bodyPost_ret (v := .tuple #[.agg #[.int .i64 0, .int .i64 0], .int .i64 3]) (by simp [results, Tryd.results45, go_sem]) rfl ⟨Or.inr ⟨unhide HF, rfl⟩, (by repeat (first | exact Below.refl _ _ | refine below_dr ?_ _ | refine Below.drew ?_ | refine Below.setCell ?_ (by simp) _ | refine Below.alloc ?_ (by simp) _))⟩
    · have hb1 : ¬ 1000000000 < ((lowP p b).natAbs : Int) := by omega
      go_wp2_with fail
      exact bodyPost_ret (v := .tuple #[.agg #[.int .i64 0, .int .i64 0], .int .i64 3]) (by simp [results, Tryd.results45, go_sem]) rfl ⟨Or.inr ⟨unhide HF, rfl⟩, (by repeat (first | exact Below.refl _ _ | refine below_dr ?_ _ | refine Below.drew ?_ | refine Below.setCell ?_ (by simp) _ | refine Below.alloc ?_ (by simp) _))⟩

set_option maxRecDepth 100000 in
set_option maxHeartbeats 400000 in
theorem Low_any (p : Int) (b : Nat) (w : World) (h1 : -4000000000000000000 ≤ p) (h2 : p ≤ 4000000000000000000) (h3 : 1 ≤ b) (h4 : b ≤ 4000000000000000000) :
    Calls Tryd.prog 47 #[.int .i64 p, .int .i64 b] w fun e w' => ((fitsB p b = true ∧ e = .returned (.tuple #[.agg #[.int .i64 (lowP p b), .int .i64 (lowQ p b)], .int .i64 0])) ∨ (fitsB p b = false ∧ e = .returned (.tuple #[.agg #[.int .i64 0, .int .i64 1], .int .i64 3]))) ∧ Below w.heap.size w w' := by
  by_cases h0 : p < 0
  · go_enter Tryd.func47, Tryd.ntmps47
    go_wp2_with fail
    rw [show -p = (p.natAbs : Int) from by omega]
    refine (common_any p.natAbs p.natAbs b _ (by omega) (by omega) (by omega)).mono ?_
    rintro e w' ⟨rfl, rfl⟩
    rw [gg_cast]
    have hg := gg_pos p b (by omega)
    have hg2 := gg_le p b (by omega)
    have HP := hide (show p.tdiv (gg p b) = lowP p b from rfl)
    have HA := hide (show ((p.natAbs : Int) / (gg p b : Int)) = ((lowP p b).natAbs : Int) from by rw [lowP_abs, Int.natCast_ediv])
    have HQ := hide (lowQ_div p b)
    have hd := div_bd b (gg p b) h4
    have hl := low_bd p b h1 h2
    generalize gg p b = g at *
    have ha : 0 ≤ ((p.natAbs : Int) / (g : Int)) ∧ ((p.natAbs : Int) / (g : Int)) ≤ 4000000000000000000 := by rw [unhide HA]; omega
    cases hf : fitsB p b with
    | true =>
      have hb := fits_bd p b (by omega) hf
      have HF := hide hf
      clear hf
      have hb1 : ¬ 1000000000 < ((p.natAbs : Int) / (g : Int)) := by rw [unhide HA]; omega
      have hb2 : ¬ 1000000000 < (b : Int) / (g : Int) := by rw [← unhide HQ]; omega
      go_wp2_with fail
      go_region
      rw [unhide HP, ← unhide HQ]
      go_wp2_with fail
      exact bodyPost_ret (v := .tuple #[.agg #[.int .i64 (lowP p b), .int .i64 (lowQ p b)], .int .i64 0]) (by simp [results, Tryd.results47, go_sem]) rfl ⟨Or.inl ⟨unhide HF, rfl⟩, (by repeat (first | exact Below.refl _ _ | refine below_dr ?_ _ | refine Below.drew ?_ | refine Below.setCell ?_ (by simp) _ | refine Below.alloc ?_ (by simp) _))⟩
    | false =>
      have hb := fits_not p b h3 hf
      have HF := hide hf
      clear hf
      rcases hb with hb1 | ⟨hb0, hb2⟩
      · rw [← unhide HA] at hb1
        go_wp2_with fail
        exact bodyPost_ret (v := .tuple #[.agg #[.int .i64 0, .int .i64 1], .int .i64 3]) (by simp [results, Tryd.results47, go_sem]) rfl ⟨Or.inr ⟨unhide HF, rfl⟩, (by repeat (first | exact Below.refl _ _ | refine below_dr ?_ _ | refine Below.drew ?_ | refine Below.setCell ?_ (by simp) _ | refine Below.alloc ?_ (by simp) _))⟩
      · have hb1 : ¬ 1000000000 < ((p.natAbs : Int) / (g : Int)) := by rw [unhide HA]; omega
        rw [unhide HQ] at hb2
        go_wp2_with fail
        exact bodyPost_ret (v := .tuple #[.agg #[.int .i64 0, .int .i64 1], .int .i64 3]) (by simp [results, Tryd.results47, go_sem]) rfl ⟨Or.inr ⟨unhide HF, rfl⟩, (by repeat (first | exact Below.refl _ _ | refine below_dr ?_ _ | refine Below.drew ?_ | refine Below.setCell ?_ (by simp) _ | refine Below.alloc ?_ (by simp) _))⟩
  · obtain ⟨m, rfl⟩ := Int.eq_ofNat_of_zero_le (show 0 ≤ p by omega)
    go_enter Tryd.func47, Tryd.ntmps47
    go_wp2_with fail
    refine (common_any m m b _ (by omega) (by omega) (by omega)).mono ?_
    rintro e w' ⟨rfl, rfl⟩
    rw [show Nat.gcd m b = gg m b from gg_cast m b]
    have hg := gg_pos m b (by omega)
    have hg2 := gg_le m b (by omega)
    have HP := hide (lowP_div m b)
    have HQ := hide (lowQ_div m b)
    have hd := div_bd b (gg m b) h4
    have ha := div_bd m (gg m b) (by omega)
    have hl := low_bd m b h1 h2
    generalize gg m b = g at *
    cases hf : fitsB m b with
    | true =>
      have hb := fits_bd m b (by omega) hf
      have HF := hide hf
      clear hf
      have hb1 : ¬ 1000000000 < ((m : Int) / (g : Int)) := by rw [← unhide HP]; omega
      have hb2 : ¬ 1000000000 < (b : Int) / (g : Int) := by rw [← unhide HQ]; omega
      go_wp2_with fail
      go_region
      rw [← unhide HP, ← unhide HQ]
      go_wp2_with fail
      exact bodyPost_ret (v := .tuple #[.agg #[.int .i64 (lowP m b), .int .i64 (lowQ m b)], .int .i64 0]) (by simp [results, Tryd.results47, go_sem]) rfl ⟨Or.inl ⟨unhide HF, rfl⟩, (by repeat (first | exact Below.refl _ _ | refine below_dr ?_ _ | refine Below.drew ?_ | refine Below.setCell ?_ (by simp) _ | refine Below.alloc ?_ (by simp) _))⟩
    | false =>
      have hb := fits_not m b h3 hf
      have HF := hide hf
      clear hf
      rcases hb with hb1 | ⟨hb0, hb2⟩
      · have hb1' : 1000000000 < ((m : Int) / (g : Int)) := by have := ha.1; rw [unhide HP] at hb1; omega
        clear hb1
        go_wp2_with fail
        exact bodyPost_ret (v := .tuple #[.agg #[.int .i64 0, .int .i64 1], .int .i64 3]) (by simp [results, Tryd.results47, go_sem]) rfl ⟨Or.inr ⟨unhide HF, rfl⟩, (by repeat (first | exact Below.refl _ _ | refine below_dr ?_ _ | refine Below.drew ?_ | refine Below.setCell ?_ (by simp) _ | refine Below.alloc ?_ (by simp) _))⟩
      · have hb1 : ¬ 1000000000 < ((m : Int) / (g : Int)) := by have := ha.1; rw [unhide HP] at hb0; omega
        rw [unhide HQ] at hb2
        clear hb0
        go_wp2_with fail
        exact bodyPost_ret (v := .tuple #[.agg #[.int .i64 0, .int .i64 1], .int .i64 3]) (by simp [results, Tryd.results47, go_sem]) rfl ⟨Or.inr ⟨unhide HF, rfl⟩, (by repeat (first | exact Below.refl _ _ | refine below_dr ?_ _ | refine Below.drew ?_ | refine Below.setCell ?_ (by simp) _ | refine Below.alloc ?_ (by simp) _))⟩
end Go.Proofs.YtikiaijgcjjloaaDoor

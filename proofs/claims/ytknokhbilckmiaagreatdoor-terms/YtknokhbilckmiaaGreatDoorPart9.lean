import Derived.Test.YtknokhbilckmiaaGreatDoorPart8

/- Numbers as pairs and numbers as fractions: one and the same. No program in this text. -/
namespace Go.Proofs.YtknokhbilckmiaaGreatDoor
namespace T
open Go.Lib M

theorem lowP_rat (p : Int) (b : Nat) (hb : 1 ≤ b) : lowP p b = (mkRat p b).num := by
  rw [Rat.num_mkRat, if_neg (by omega)]
  unfold lowP gg
  rw [Int.natAbs_natCast, Nat.gcd_comm b]
  refine Int.tdiv_eq_ediv_of_dvd ?_
  exact Int.ofNat_dvd_left.2 (Nat.gcd_dvd_left _ _)
theorem lowQ_rat (p : Int) (b : Nat) (hb : 1 ≤ b) : lowQ p b = ((mkRat p b).den : Int) := by
  rw [Rat.den_mkRat, if_neg (by omega), lowQ_eq p b (by omega)]
  unfold gg
  rw [Int.natAbs_natCast, Nat.gcd_comm b]
theorem fits_rat (p : Int) (b : Nat) (hb : 1 ≤ b) : fitsB p b = small (mkRat p b) := by
  have h1 := lowP_abs p b
  have h2 := lowQ_eq p b (by omega)
  have h3 := lowP_rat p b hb
  have h4 := lowQ_rat p b hb
  unfold fitsB small
  rw [Bool.eq_iff_iff]
  simp only [decide_eq_true_eq]
  rw [← h3]
  omega
theorem den_int (x : Rat) : (1 : Int) ≤ (x.den : Int) := by have := x.den_pos; omega
theorem add_rat (x y : Rat) : x + y = mkRat (x.num * y.den + y.num * x.den) (x.den * y.den) := by
  have h : (mkRat x.num x.den) + (mkRat y.num y.den) = mkRat (x.num * y.den + y.num * x.den) (x.den * y.den) := Rat.mkRat_add_mkRat _ _ x.den_nz y.den_nz
  rw [Rat.mkRat_self, Rat.mkRat_self] at h
  exact h
theorem mul_rat (x y : Rat) : x * y = mkRat (x.num * y.num) (x.den * y.den) := by
  have h : (mkRat x.num x.den) * (mkRat y.num y.den) = mkRat (x.num * y.num) (x.den * y.den) := Rat.mkRat_mul_mkRat _ _ _ _
  rw [Rat.mkRat_self, Rat.mkRat_self] at h
  exact h
/-- The sum, as pairs. -/
theorem add_pairs (x y : Rat) : fitsB (x.num * y.den + y.num * x.den) ((x.den : Int) * y.den) = small (x + y) ∧ lowP (x.num * y.den + y.num * x.den) ((x.den : Int) * y.den) = (x + y).num ∧ lowQ (x.num * y.den + y.num * x.den) ((x.den : Int) * y.den) = ((x + y).den : Int) := by
  have e : ((x.den : Int) * y.den) = ((x.den * y.den : Nat) : Int) := by simp
  have hb : 1 ≤ x.den * y.den := Nat.mul_pos x.den_pos y.den_pos
  rw [e, add_rat]
  exact ⟨fits_rat _ _ hb, lowP_rat _ _ hb, lowQ_rat _ _ hb⟩
theorem mul_pairs (x y : Rat) : fitsB (x.num * y.num) ((x.den : Int) * y.den) = small (x * y) ∧ lowP (x.num * y.num) ((x.den : Int) * y.den) = (x * y).num ∧ lowQ (x.num * y.num) ((x.den : Int) * y.den) = ((x * y).den : Int) := by
  have e : ((x.den : Int) * y.den) = ((x.den * y.den : Nat) : Int) := by simp
  have hb : 1 ≤ x.den * y.den := Nat.mul_pos x.den_pos y.den_pos
  rw [e, mul_rat]
  exact ⟨fits_rat _ _ hb, lowP_rat _ _ hb, lowQ_rat _ _ hb⟩
/-- The inverse, as a pair. -/
theorem inv_pairs (x : Rat) (h : x ≠ 0) : x⁻¹.num = (if x.num < 0 then -(x.den : Int) else x.den) ∧ (x⁻¹.den : Int) = (if x.num < 0 then -x.num else x.num) := by
  have hn := num_ne h
  rw [Rat.num_inv, Rat.den_inv, if_neg hn]
  by_cases h0 : x.num < 0
  · rw [if_pos h0, if_pos h0, Int.sign_eq_neg_one_of_neg h0]
    omega
  · rw [if_neg h0, if_neg h0, Int.sign_eq_one_of_pos (by omega)]
    omega
/-- A text that is a number is one of a fraction within the limit. -/
theorem isNum_rat {s : List UInt8} {t b : Int} (h : IsNum s t b) : ∃ x : Rat, small x = true ∧ s = ratText x ∧ t = x.num ∧ b = (x.den : Int) := by
  have hb : b.toNat ≠ 0 := by have := h.b1; omega
  have hc : t.natAbs.Coprime b.toNat := by
    have := h.gc
    rw [show b.natAbs = b.toNat by have := h.b1; omega] at this
    exact this
  refine ⟨⟨t, b.toNat, hb, hc⟩, ?_, ?_, rfl, ?_⟩
  · unfold small
    apply decide_eq_true
    have := h.lo; have := h.hi; have := h.b1; have := h.b2
    show t.natAbs ≤ 1000000000 ∧ b.toNat ≤ 1000000000
    omega
  · rw [h.tx]
    unfold ratText
    have : (b.toNat : Int) = b := by have := h.b1; omega
    show numText t b = numText t (b.toNat : Int)
    rw [this]
  · show b = (b.toNat : Int)
    have := h.b1
    omega
theorem rat_isNum {x : Rat} (h : small x = true) : IsNum (ratText x) x.num (x.den : Int) := by
  unfold small at h
  have h' := of_decide_eq_true h
  have hd := x.den_pos
  refine ⟨by omega, by omega, by omega, by omega, ?_, rfl⟩
  have := x.reduced
  rw [Int.natAbs_natCast]
  exact this
theorem num_zero {x : Rat} : x.num = 0 ↔ x = 0 := by
  constructor
  · intro h
    have := Rat.mkRat_self x
    rw [h] at this
    rw [← this]; simp
  · intro h; rw [h]; rfl
/-- Roots, as pairs. -/
theorem rootN_none {n : Nat} (h : rootN n = none) (r : Nat) : r * r ≠ n := by
  intro e
  subst e
  rw [rootN_sq] at h
  cases h
theorem root_pairs_some {x : Rat} {a b : Nat} (ha : (a : Int) * a = x.num) (hb : (b : Int) * b = (x.den : Int)) : ∃ y, root x = some y ∧ y.num = a ∧ y.den = b := by
  have hb0 : b ≠ 0 := by
    intro e; subst e
    have := x.den_pos
    simp at hb
    omega
  have ha' : a * a = x.num.natAbs := by
    have : ((a * a : Nat) : Int) = x.num := by simpa using ha
    omega
  have hb' : b * b = x.den := by
    have : ((b * b : Nat) : Int) = (x.den : Int) := by simpa using hb
    omega
  have hc : Nat.gcd a b = 1 := by
    have hx := x.reduced
    unfold Nat.Coprime at hx
    rw [← ha', ← hb'] at hx
    have h1 : Nat.gcd a b ∣ Nat.gcd (a * a) (b * b) := Nat.dvd_gcd (Nat.dvd_mul_right_of_dvd (Nat.gcd_dvd_left a b) a) (Nat.dvd_mul_right_of_dvd (Nat.gcd_dvd_right a b) b)
    rw [hx] at h1
    exact Nat.dvd_one.1 h1
  refine ⟨mkRat a b, ?_, ?_, ?_⟩
  · unfold root
    have hn : ¬ x.num < 0 := by
      have : ((a * a : Nat) : Int) = x.num := by simpa using ha
      omega
    rw [if_neg hn, ← ha', ← hb', rootN_sq, rootN_sq]
  · rw [Rat.num_mkRat, if_neg hb0]
    show (a : Int) / ((Nat.gcd b a : Nat) : Int) = a
    rw [Nat.gcd_comm, hc]
    simp
  · rw [Rat.den_mkRat, if_neg hb0]
    show b / Nat.gcd b a = b
    rw [Nat.gcd_comm, hc]
    simp
theorem root_pairs_none {x : Rat} (h : (∀ r : Nat, (r : Int) * r ≠ x.num) ∨ (∀ r : Nat, (r : Int) * r ≠ (x.den : Int))) : root x = none := by
  cases hr : root x with
  | none => rfl
  | some y =>
    exfalso
    obtain ⟨h0, h1⟩ := root_some hr
    obtain ⟨h2, h3⟩ := sq_parts y
    rw [h1] at h2 h3
    rcases h with h | h
    · apply h y.num.natAbs
      rw [h2]
      have : 0 ≤ y.num := Rat.num_nonneg.2 h0
      rw [show ((y.num.natAbs : Nat) : Int) = y.num by omega]
    · apply h y.den
      rw [h3]
      simp
end T
end Go.Proofs.YtknokhbilckmiaaGreatDoor

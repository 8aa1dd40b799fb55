import Derived.Test.YtikiaijgcjjloaaGreatDoorPart18

/- The walks: what is reckoned with numbers, the program's and the document's. -/
namespace Go.Proofs.YtikiaijgcjjloaaGreatDoor
open Go Go.RowKit M Go.Lib

def overP (t b : Int) : Int := if t < 0 then -b else b
def overQ (t _b : Int) : Int := if t < 0 then -t else t
theorem overP_neg (t b : Int) (h : t < 0) : overP t b = -b := by unfold overP; rw [if_pos h]
theorem overP_pos (t b : Int) (h : ¬ t < 0) : overP t b = b := by unfold overP; rw [if_neg h]
theorem overQ_neg (t b : Int) (h : t < 0) : overQ t b = -t := by unfold overQ; rw [if_pos h]
theorem overQ_pos (t b : Int) (h : ¬ t < 0) : overQ t b = t := by unfold overQ; rw [if_neg h]
theorem over_bd (t b : Int) (h1 : -1000000000 ≤ t) (h2 : t ≤ 1000000000) (h3 : 1 ≤ b) (h4 : b ≤ 1000000000) (h0 : t ≠ 0) : -1000000000 ≤ overP t b ∧ overP t b ≤ 1000000000 ∧ 1 ≤ overQ t b ∧ overQ t b ≤ 1000000000 := by
  unfold overP overQ; split <;> omega
theorem mul_bd (x y : Int) (h1 : -1000000000 ≤ x) (h2 : x ≤ 1000000000) (h3 : -1000000000 ≤ y) (h4 : y ≤ 1000000000) : -1000000000000000000 ≤ x * y ∧ x * y ≤ 1000000000000000000 := by
  have h : (x * y).natAbs ≤ 1000000000 * 1000000000 := by
    rw [Int.natAbs_mul]
    exact Nat.mul_le_mul (by omega) (by omega)
  omega
theorem mul_pos1 (x y : Int) (h1 : 1 ≤ x) (h2 : 1 ≤ y) : 1 ≤ x * y := by
  have := Int.mul_pos (show 0 < x by omega) (show 0 < y by omega)
  omega

theorem cell_new2 {W w1 : World} {T : TypeId} {x y : Value} (hb : Below (W.alloc (.cells #[x, y] T)).heap.size (W.alloc (.cells #[x, y] T)) w1) :
    w1.cell? ⟨W.heap.size, 0, none⟩ = some x ∧ w1.cell? ⟨W.heap.size, 1, none⟩ = some y := by
  constructor
  · rw [hb.cell (p := ⟨W.heap.size, 0, none⟩) (by simp)]; simp [go_sem]
  · rw [hb.cell (p := ⟨W.heap.size, 1, none⟩) (by simp)]; simp [go_sem]

theorem lowest_int (p q : Int) (w : World) (h1 : -4000000000000000000 ≤ p) (h2 : p ≤ 4000000000000000000) (h3 : 1 ≤ q) (h4 : q ≤ 4000000000000000000) :
    Calls Tryz.prog 74 #[.int .i64 p, .int .i64 q] w fun e w' => ((fitsB p q = true ∧ e = .returned (.tuple #[.agg #[.int .i64 (lowP p q), .int .i64 (lowQ p q)], .int .i64 0])) ∨ (fitsB p q = false ∧ e = .returned (.tuple #[.agg #[.int .i64 0, .int .i64 0], .int .i64 3]))) ∧ Below w.heap.size w w' := by
  obtain ⟨b, rfl⟩ := Int.eq_ofNat_of_zero_le (show 0 ≤ q by omega)
  exact lowest_any p b w h1 h2 (by omega) (by omega)

set_option maxRecDepth 100000 in
set_option maxHeartbeats 400000 in
theorem nOver_any (t b : Int) (w : World) (h1 : -1000000000 ≤ t) (h2 : t ≤ 1000000000) (h3 : 1 ≤ b) (h4 : b ≤ 1000000000) :
    Calls Tryz.prog 90 #[.agg #[.int .i64 t, .int .i64 b]] w fun e w' => ((t = 0 ∧ e = .returned (.tuple #[.agg #[.int .i64 0, .int .i64 0], .int .i64 2])) ∨ (t ≠ 0 ∧ e = .returned (.tuple #[.agg #[.int .i64 (overP t b), .int .i64 (overQ t b)], .int .i64 0]))) ∧ Below w.heap.size w w' := by
  by_cases h0 : t = 0
  · subst h0
    go_enter Tryz.func90, Tryz.ntmps90
    go_wp2_with fail
    exact bodyPost_ret (v := .tuple #[.agg #[.int .i64 0, .int .i64 0], .int .i64 2]) (by simp [results, Tryz.results90, go_sem]) rfl ⟨Or.inl ⟨by simp, rfl⟩, (by repeat (first | exact Below.refl _ _ | refine below_dr ?_ _ | refine Below.drew ?_ | refine Below.setCell ?_ (by simp) _ | refine Below.alloc ?_ (by simp) _))⟩
  · have H0 := hide h0
    have hz : (t == 0) = false := by rw [beq_eq_false_iff_ne]; exact h0
    clear h0
    by_cases hn : t < 0
    · have HP := hide (overP_neg t b hn)
      have HQ := hide (overQ_neg t b hn)
      go_enter Tryz.func90, Tryz.ntmps90
      go_wp2_with fail
      exact bodyPost_ret (v := .tuple #[.agg #[.int .i64 (-b), .int .i64 (-t)], .int .i64 0]) (by simp [results, Tryz.results90, go_sem]) rfl ⟨Or.inr ⟨unhide H0, by rw [unhide HP, unhide HQ]⟩, (by repeat (first | exact Below.refl _ _ | refine below_dr ?_ _ | refine Below.drew ?_ | refine Below.setCell ?_ (by simp) _ | refine Below.alloc ?_ (by simp) _))⟩
    · have HP := hide (overP_pos t b hn)
      have HQ := hide (overQ_pos t b hn)
      go_enter Tryz.func90, Tryz.ntmps90
      go_wp2_with fail
      exact bodyPost_ret (v := .tuple #[.agg #[.int .i64 b, .int .i64 t], .int .i64 0]) (by simp [results, Tryz.results90, go_sem]) rfl ⟨Or.inr ⟨unhide H0, by rw [unhide HP, unhide HQ]⟩, (by repeat (first | exact Below.refl _ _ | refine below_dr ?_ _ | refine Below.drew ?_ | refine Below.setCell ?_ (by simp) _ | refine Below.alloc ?_ (by simp) _))⟩

set_option maxRecDepth 100000 in
set_option maxHeartbeats 400000 in
theorem rInv_any (t b : Int) (w : World) (h1 : -1000000000 ≤ t) (h2 : t ≤ 1000000000) (h3 : 1 ≤ b) (h4 : b ≤ 1000000000) :
    Calls Tryz.prog 97 #[.agg #[.int .i64 t, .int .i64 b]] w fun e w' => ((t = 0 ∧ e = .returned (.tuple #[.agg #[.int .i64 0, .int .i64 1], .int .i64 2])) ∨ (t ≠ 0 ∧ e = .returned (.tuple #[.agg #[.int .i64 (overP t b), .int .i64 (overQ t b)], .int .i64 0]))) ∧ Below w.heap.size w w' := by
  by_cases h0 : t = 0
  · subst h0
    go_enter Tryz.func97, Tryz.ntmps97
    go_wp2_with fail
    exact bodyPost_ret (v := .tuple #[.agg #[.int .i64 0, .int .i64 1], .int .i64 2]) (by simp [results, Tryz.results97, go_sem]) rfl ⟨Or.inl ⟨by simp, rfl⟩, (by repeat (first | exact Below.refl _ _ | refine below_dr ?_ _ | refine Below.drew ?_ | refine Below.setCell ?_ (by simp) _ | refine Below.alloc ?_ (by simp) _))⟩
  · have H0 := hide h0
    have hz : (t == 0) = false := by rw [beq_eq_false_iff_ne]; exact h0
    clear h0
    by_cases hn : t < 0
    · have HP := hide (overP_neg t b hn)
      have HQ := hide (overQ_neg t b hn)
      go_enter Tryz.func97, Tryz.ntmps97
      go_wp2_with fail
      exact bodyPost_ret (v := .tuple #[.agg #[.int .i64 (-b), .int .i64 (-t)], .int .i64 0]) (by simp [results, Tryz.results97, go_sem]) rfl ⟨Or.inr ⟨unhide H0, by rw [unhide HP, unhide HQ]⟩, (by repeat (first | exact Below.refl _ _ | refine below_dr ?_ _ | refine Below.drew ?_ | refine Below.setCell ?_ (by simp) _ | refine Below.alloc ?_ (by simp) _))⟩
    · have HP := hide (overP_pos t b hn)
      have HQ := hide (overQ_pos t b hn)
      go_enter Tryz.func97, Tryz.ntmps97
      go_wp2_with fail
      exact bodyPost_ret (v := .tuple #[.agg #[.int .i64 b, .int .i64 t], .int .i64 0]) (by simp [results, Tryz.results97, go_sem]) rfl ⟨Or.inr ⟨unhide H0, by rw [unhide HP, unhide HQ]⟩, (by repeat (first | exact Below.refl _ _ | refine below_dr ?_ _ | refine Below.drew ?_ | refine Below.setCell ?_ (by simp) _ | refine Below.alloc ?_ (by simp) _))⟩

set_option maxRecDepth 100000 in
set_option maxHeartbeats 400000 in
theorem nPlus_any (t1 b1 t2 b2 : Int) (w : World) (h1 : -1000000000 ≤ t1) (h2 : t1 ≤ 1000000000) (h3 : 1 ≤ b1) (h4 : b1 ≤ 1000000000) (k1 : -1000000000 ≤ t2) (k2 : t2 ≤ 1000000000) (k3 : 1 ≤ b2) (k4 : b2 ≤ 1000000000) :
    Calls Tryz.prog 46 #[.agg #[.int .i64 t1, .int .i64 b1], .agg #[.int .i64 t2, .int .i64 b2]] w fun e w' => ((fitsB (t1 * b2 + t2 * b1) (b1 * b2) = true ∧ e = .returned (.tuple #[.agg #[.int .i64 (lowP (t1 * b2 + t2 * b1) (b1 * b2)), .int .i64 (lowQ (t1 * b2 + t2 * b1) (b1 * b2))], .int .i64 0])) ∨ (fitsB (t1 * b2 + t2 * b1) (b1 * b2) = false ∧ e = .returned (.tuple #[.agg #[.int .i64 0, .int .i64 0], .int .i64 3]))) ∧ Below w.heap.size w w' := by
  have m1 := mul_bd t1 b2 h1 h2 (by omega) k4
  have m2 := mul_bd t2 b1 k1 k2 (by omega) h4
  have m3 := mul_bd b1 b2 (by omega) h4 (by omega) k4
  have m4 := mul_pos1 b1 b2 h3 k3
  go_enter Tryz.func46, Tryz.ntmps46
  go_wp2_with fail
  refine (lowest_int (t1 * b2 + t2 * b1) (b1 * b2) _ (by omega) (by omega) (by omega) (by omega)).mono ?_
  rintro e w1 ⟨⟨hf, rfl⟩ | ⟨hf, rfl⟩, hb⟩
  ·
    have HF := hide hf
    clear hf m1 m2 m3 m4
    obtain ⟨hcell, hfr⟩ := bcell hb
    obtain ⟨c0, c1⟩ := cell_new2 hb
    simp only [World.size_alloc] at c0 c1
    have hz1 : w.heap.size + 3 ≤ w1.heap.size := by have := hb.size; simpa using this
    have hz2 : w.heap.size + 1 + 1 < w1.heap.size := by omega
    have hz3 : ¬ w.heap.size + 1 + 1 = w1.heap.size := by omega
    have hz4 : ¬ w1.heap.size = w.heap.size + 1 + 1 := by omega
    go_wp2_with fail
    refine bodyPost_ret (v := .tuple #[.agg #[.int .i64 (lowP (t1 * b2 + t2 * b1) (b1 * b2)), .int .i64 (lowQ (t1 * b2 + t2 * b1) (b1 * b2))], .int .i64 0]) ?_ rfl ⟨Or.inl ⟨unhide HF, rfl⟩, ?_⟩
    · simp [results, Tryz.results46, go_sem, c0, c1]
    · exact ((((((Below.refl _ _).alloc (Nat.le_refl _) _).alloc (by simp) _).alloc (by simp; omega) _).trans (hb.mono (by simp; omega))).setCell (by simp; omega) _).setCell (by simp; omega) _
  ·
    have HF := hide hf
    clear hf m1 m2 m3 m4
    obtain ⟨hcell, hfr⟩ := bcell hb
    obtain ⟨c0, c1⟩ := cell_new2 hb
    simp only [World.size_alloc] at c0 c1
    have hz1 : w.heap.size + 3 ≤ w1.heap.size := by have := hb.size; simpa using this
    have hz2 : w.heap.size + 1 + 1 < w1.heap.size := by omega
    have hz3 : ¬ w.heap.size + 1 + 1 = w1.heap.size := by omega
    have hz4 : ¬ w1.heap.size = w.heap.size + 1 + 1 := by omega
    go_wp2_with fail
    refine bodyPost_ret (v := .tuple #[.agg #[.int .i64 0, .int .i64 0], .int .i64 3]) ?_ rfl ⟨Or.inr ⟨unhide HF, rfl⟩, ?_⟩
    · simp [results, Tryz.results46, go_sem, c0, c1]
    · exact ((((((Below.refl _ _).alloc (Nat.le_refl _) _).alloc (by simp) _).alloc (by simp; omega) _).trans (hb.mono (by simp; omega))).setCell (by simp; omega) _).setCell (by simp; omega) _

set_option maxRecDepth 100000 in
set_option maxHeartbeats 400000 in
theorem nTimes_any (t1 b1 t2 b2 : Int) (w : World) (h1 : -1000000000 ≤ t1) (h2 : t1 ≤ 1000000000) (h3 : 1 ≤ b1) (h4 : b1 ≤ 1000000000) (k1 : -1000000000 ≤ t2) (k2 : t2 ≤ 1000000000) (k3 : 1 ≤ b2) (k4 : b2 ≤ 1000000000) :
    Calls Tryz.prog 89 #[.agg #[.int .i64 t1, .int .i64 b1], .agg #[.int .i64 t2, .int .i64 b2]] w fun e w' => ((fitsB (t1 * t2) (b1 * b2) = true ∧ e = .returned (.tuple #[.agg #[.int .i64 (lowP (t1 * t2) (b1 * b2)), .int .i64 (lowQ (t1 * t2) (b1 * b2))], .int .i64 0])) ∨ (fitsB (t1 * t2) (b1 * b2) = false ∧ e = .returned (.tuple #[.agg #[.int .i64 0, .int .i64 0], .int .i64 3]))) ∧ Below w.heap.size w w' := by
  have m1 := mul_bd t1 t2 h1 h2 k1 k2
  have m3 := mul_bd b1 b2 (by omega) h4 (by omega) k4
  have m4 := mul_pos1 b1 b2 h3 k3
  go_enter Tryz.func89, Tryz.ntmps89
  go_wp2_with fail
  refine (lowest_int (t1 * t2) (b1 * b2) _ (by omega) (by omega) (by omega) (by omega)).mono ?_
  rintro e w1 ⟨⟨hf, rfl⟩ | ⟨hf, rfl⟩, hb⟩
  ·
    have HF := hide hf
    clear hf m1 m3 m4
    obtain ⟨hcell, hfr⟩ := bcell hb
    obtain ⟨c0, c1⟩ := cell_new2 hb
    simp only [World.size_alloc] at c0 c1
    have hz1 : w.heap.size + 3 ≤ w1.heap.size := by have := hb.size; simpa using this
    have hz2 : w.heap.size + 1 + 1 < w1.heap.size := by omega
    have hz3 : ¬ w.heap.size + 1 + 1 = w1.heap.size := by omega
    have hz4 : ¬ w1.heap.size = w.heap.size + 1 + 1 := by omega
    go_wp2_with fail
    refine bodyPost_ret (v := .tuple #[.agg #[.int .i64 (lowP (t1 * t2) (b1 * b2)), .int .i64 (lowQ (t1 * t2) (b1 * b2))], .int .i64 0]) ?_ rfl ⟨Or.inl ⟨unhide HF, rfl⟩, ?_⟩
    · simp [results, Tryz.results89, go_sem, c0, c1]
    · exact ((((((Below.refl _ _).alloc (Nat.le_refl _) _).alloc (by simp) _).alloc (by simp; omega) _).trans (hb.mono (by simp; omega))).setCell (by simp; omega) _).setCell (by simp; omega) _
  ·
    have HF := hide hf
    clear hf m1 m3 m4
    obtain ⟨hcell, hfr⟩ := bcell hb
    obtain ⟨c0, c1⟩ := cell_new2 hb
    simp only [World.size_alloc] at c0 c1
    have hz1 : w.heap.size + 3 ≤ w1.heap.size := by have := hb.size; simpa using this
    have hz2 : w.heap.size + 1 + 1 < w1.heap.size := by omega
    have hz3 : ¬ w.heap.size + 1 + 1 = w1.heap.size := by omega
    have hz4 : ¬ w1.heap.size = w.heap.size + 1 + 1 := by omega
    go_wp2_with fail
    refine bodyPost_ret (v := .tuple #[.agg #[.int .i64 0, .int .i64 0], .int .i64 3]) ?_ rfl ⟨Or.inr ⟨unhide HF, rfl⟩, ?_⟩
    · simp [results, Tryz.results89, go_sem, c0, c1]
    · exact ((((((Below.refl _ _).alloc (Nat.le_refl _) _).alloc (by simp) _).alloc (by simp; omega) _).trans (hb.mono (by simp; omega))).setCell (by simp; omega) _).setCell (by simp; omega) _

set_option maxRecDepth 100000 in
set_option maxHeartbeats 400000 in
theorem rAdd_any (t1 b1 t2 b2 : Int) (w : World) (h1 : -1000000000 ≤ t1) (h2 : t1 ≤ 1000000000) (h3 : 1 ≤ b1) (h4 : b1 ≤ 1000000000) (k1 : -1000000000 ≤ t2) (k2 : t2 ≤ 1000000000) (k3 : 1 ≤ b2) (k4 : b2 ≤ 1000000000) :
    Calls Tryz.prog 93 #[.agg #[.int .i64 t1, .int .i64 b1], .agg #[.int .i64 t2, .int .i64 b2]] w fun e w' => ((fitsB (t1 * b2 + t2 * b1) (b1 * b2) = true ∧ e = .returned (.tuple #[.agg #[.int .i64 (lowP (t1 * b2 + t2 * b1) (b1 * b2)), .int .i64 (lowQ (t1 * b2 + t2 * b1) (b1 * b2))], .int .i64 0])) ∨ (fitsB (t1 * b2 + t2 * b1) (b1 * b2) = false ∧ e = .returned (.tuple #[.agg #[.int .i64 0, .int .i64 1], .int .i64 3]))) ∧ Below w.heap.size w w' := by
  have m1 := mul_bd t1 b2 h1 h2 (by omega) k4
  have m2 := mul_bd t2 b1 k1 k2 (by omega) h4
  have m3 := mul_bd b1 b2 (by omega) h4 (by omega) k4
  have m4 := mul_pos1 b1 b2 h3 k3
  go_enter Tryz.func93, Tryz.ntmps93
  go_wp2_with fail
  refine (Low_int (t1 * b2 + t2 * b1) (b1 * b2) _ (by omega) (by omega) (by omega) (by omega)).mono ?_
  rintro e w1 ⟨⟨hf, rfl⟩ | ⟨hf, rfl⟩, hb⟩
  ·
    have HF := hide hf
    clear hf m1 m2 m3 m4
    obtain ⟨hcell, hfr⟩ := bcell hb
    obtain ⟨d0, d1, hbw⟩ := three_cells hb (.int .i64 (lowP (t1 * b2 + t2 * b1) (b1 * b2))) (.int .i64 (lowQ (t1 * b2 + t2 * b1) (b1 * b2))) (.cells #[.int .i64 (lowP (t1 * b2 + t2 * b1) (b1 * b2)), .int .i64 (lowQ (t1 * b2 + t2 * b1) (b1 * b2))] 129)
    simp only [World.size_alloc] at d0 d1 hbw
    have hz1 : w.heap.size + 3 ≤ w1.heap.size := by have := hb.size; simpa using this
    have hz2 : w.heap.size + 1 + 1 < w1.heap.size := by omega
    have hz3 : ¬ w.heap.size + 1 + 1 = w1.heap.size := by omega
    have hz4 : ¬ w1.heap.size = w.heap.size + 1 + 1 := by omega
    go_wp2_with fail
    refine bodyPost_ret (v := .tuple #[.agg #[.int .i64 (lowP (t1 * b2 + t2 * b1) (b1 * b2)), .int .i64 (lowQ (t1 * b2 + t2 * b1) (b1 * b2))], .int .i64 0]) ?_ rfl ⟨Or.inl ⟨unhide HF, rfl⟩, ?_⟩
    · simp [results, Tryz.results93, go_sem, d0, d1]
    · exact (((Below.refl _ _).alloc (Nat.le_refl _) _).alloc (by simp) _).trans (hbw.mono (by omega))
  ·
    have HF := hide hf
    clear hf m1 m2 m3 m4
    obtain ⟨hcell, hfr⟩ := bcell hb
    obtain ⟨d0, d1, hbw⟩ := three_cells hb (.int .i64 0) (.int .i64 1) (.cells #[.int .i64 0, .int .i64 1] 129)
    simp only [World.size_alloc] at d0 d1 hbw
    have hz1 : w.heap.size + 3 ≤ w1.heap.size := by have := hb.size; simpa using this
    have hz2 : w.heap.size + 1 + 1 < w1.heap.size := by omega
    have hz3 : ¬ w.heap.size + 1 + 1 = w1.heap.size := by omega
    have hz4 : ¬ w1.heap.size = w.heap.size + 1 + 1 := by omega
    go_wp2_with fail
    refine bodyPost_ret (v := .tuple #[.agg #[.int .i64 0, .int .i64 1], .int .i64 3]) ?_ rfl ⟨Or.inr ⟨unhide HF, rfl⟩, ?_⟩
    · simp [results, Tryz.results93, go_sem, d0, d1]
    · exact (((Below.refl _ _).alloc (Nat.le_refl _) _).alloc (by simp) _).trans (hbw.mono (by omega))

set_option maxRecDepth 100000 in
set_option maxHeartbeats 400000 in
theorem rMul_any (t1 b1 t2 b2 : Int) (w : World) (h1 : -1000000000 ≤ t1) (h2 : t1 ≤ 1000000000) (h3 : 1 ≤ b1) (h4 : b1 ≤ 1000000000) (k1 : -1000000000 ≤ t2) (k2 : t2 ≤ 1000000000) (k3 : 1 ≤ b2) (k4 : b2 ≤ 1000000000) :
    Calls Tryz.prog 95 #[.agg #[.int .i64 t1, .int .i64 b1], .agg #[.int .i64 t2, .int .i64 b2]] w fun e w' => ((fitsB (t1 * t2) (b1 * b2) = true ∧ e = .returned (.tuple #[.agg #[.int .i64 (lowP (t1 * t2) (b1 * b2)), .int .i64 (lowQ (t1 * t2) (b1 * b2))], .int .i64 0])) ∨ (fitsB (t1 * t2) (b1 * b2) = false ∧ e = .returned (.tuple #[.agg #[.int .i64 0, .int .i64 1], .int .i64 3]))) ∧ Below w.heap.size w w' := by
  have m1 := mul_bd t1 t2 h1 h2 k1 k2
  have m3 := mul_bd b1 b2 (by omega) h4 (by omega) k4
  have m4 := mul_pos1 b1 b2 h3 k3
  go_enter Tryz.func95, Tryz.ntmps95
  go_wp2_with fail
  refine (Low_int (t1 * t2) (b1 * b2) _ (by omega) (by omega) (by omega) (by omega)).mono ?_
  rintro e w1 ⟨⟨hf, rfl⟩ | ⟨hf, rfl⟩, hb⟩
  ·
    have HF := hide hf
    clear hf m1 m3 m4
    obtain ⟨hcell, hfr⟩ := bcell hb
    obtain ⟨d0, d1, hbw⟩ := three_cells hb (.int .i64 (lowP (t1 * t2) (b1 * b2))) (.int .i64 (lowQ (t1 * t2) (b1 * b2))) (.cells #[.int .i64 (lowP (t1 * t2) (b1 * b2)), .int .i64 (lowQ (t1 * t2) (b1 * b2))] 129)
    simp only [World.size_alloc] at d0 d1 hbw
    have hz1 : w.heap.size + 3 ≤ w1.heap.size := by have := hb.size; simpa using this
    have hz2 : w.heap.size + 1 + 1 < w1.heap.size := by omega
    have hz3 : ¬ w.heap.size + 1 + 1 = w1.heap.size := by omega
    have hz4 : ¬ w1.heap.size = w.heap.size + 1 + 1 := by omega
    go_wp2_with fail
    refine bodyPost_ret (v := .tuple #[.agg #[.int .i64 (lowP (t1 * t2) (b1 * b2)), .int .i64 (lowQ (t1 * t2) (b1 * b2))], .int .i64 0]) ?_ rfl ⟨Or.inl ⟨unhide HF, rfl⟩, ?_⟩
    · simp [results, Tryz.results95, go_sem, d0, d1]
    · exact (((Below.refl _ _).alloc (Nat.le_refl _) _).alloc (by simp) _).trans (hbw.mono (by omega))
  ·
    have HF := hide hf
    clear hf m1 m3 m4
    obtain ⟨hcell, hfr⟩ := bcell hb
    obtain ⟨d0, d1, hbw⟩ := three_cells hb (.int .i64 0) (.int .i64 1) (.cells #[.int .i64 0, .int .i64 1] 129)
    simp only [World.size_alloc] at d0 d1 hbw
    have hz1 : w.heap.size + 3 ≤ w1.heap.size := by have := hb.size; simpa using this
    have hz2 : w.heap.size + 1 + 1 < w1.heap.size := by omega
    have hz3 : ¬ w.heap.size + 1 + 1 = w1.heap.size := by omega
    have hz4 : ¬ w1.heap.size = w.heap.size + 1 + 1 := by omega
    go_wp2_with fail
    refine bodyPost_ret (v := .tuple #[.agg #[.int .i64 0, .int .i64 1], .int .i64 3]) ?_ rfl ⟨Or.inr ⟨unhide HF, rfl⟩, ?_⟩
    · simp [results, Tryz.results95, go_sem, d0, d1]
    · exact (((Below.refl _ _).alloc (Nat.le_refl _) _).alloc (by simp) _).trans (hbw.mono (by omega))
end Go.Proofs.YtikiaijgcjjloaaGreatDoor

/- The walks: the opposites of single parts. -/
namespace Go.Proofs.YtikiaijgcjjloaaGreatDoor
open Go Go.RowKit M T Go.Lib

/-- The result's block behind a call. -/
theorem res_facts {w w1 : World} {o : Obj} {c : Array Value} {T : TypeId} (hb : Below ((w.alloc o).alloc (.cells c T)).heap.size ((w.alloc o).alloc (.cells c T)) w1) : (∀ i, w1.cell? ⟨w.heap.size + 1, i, none⟩ = c[i]?) ∧ (∀ i, w1.frozen? ⟨w.heap.size + 1, i, none⟩ = false) ∧ w.heap.size + 1 < w1.heap.size ∧ Below w.heap.size w w1 ∧ w1.heap[w.heap.size + 1]? = some (.cells c T (0, 0)) := by
  have hs : ((w.alloc o).alloc (.cells c T)).heap.size = w.heap.size + 2 := by simp
  have hblk : w1.heap[w.heap.size + 1]? = some (.cells c T (0, 0)) := by rw [hb.block _ (by omega)]; exact new_at w _ _
  exact ⟨fun i => blk_cell hblk i, fun i => blk_free hblk i, lt_of_block hblk, ((below_box o).trans ((below_box _).mono (by simp))).trans (hb.mono (by omega)), hblk⟩
theorem st8_below {B : Nat} {a w : World} (h : Below B a w) {n : Nat} (hn : B ≤ n) (v0 v1 v2 v3 v4 v5 v6 v7 : Value) : Below B a (st8 w n v0 v1 v2 v3 v4 v5 v6 v7) :=
  (((((((h.setCell (p := ⟨n, 0, none⟩) hn _).setCell (p := ⟨n, 1, none⟩) hn _).setCell (p := ⟨n, 2, none⟩) hn _).setCell (p := ⟨n, 3, none⟩) hn _).setCell (p := ⟨n, 4, none⟩) hn _).setCell (p := ⟨n, 5, none⟩) hn _).setCell (p := ⟨n, 6, none⟩) hn _).setCell (p := ⟨n, 7, none⟩) hn _

set_option maxRecDepth 100000 in
set_option maxHeartbeats 800000 in
theorem negative_any (t b : Int) (w : World) (h1 : -1000000000 ≤ t) (h2 : t ≤ 1000000000) : Calls Tryz.prog 137 #[.agg #[.int .i64 t, .int .i64 b]] w fun e w' => e = .returned (.agg #[.int .i64 (-t), .int .i64 b]) ∧ Below w.heap.size w w' := by
  go_enter Tryz.func137, Tryz.ntmps137
  go_wp2_with fail
  exact bodyPost_ret (v := .agg #[.int .i64 (-t), .int .i64 b]) (by simp [results, Tryz.results137, go_sem]) rfl ⟨rfl, (by repeat (first | exact Below.refl _ _ | refine below_dr ?_ _ | refine Below.drew ?_ | refine Below.setCell ?_ (by simp) _ | refine Below.alloc ?_ (by simp) _))⟩

set_option maxRecDepth 100000 in
set_option maxHeartbeats 1600000 in
theorem oppTimes_any {l n k t b : Int} {pa : Option Addr} {pn pc : Nat} {bo ov : Option Addr} (w : World) (h0 : t ≠ 0) (h1 : -1000000000 ≤ t) (h2 : t ≤ 1000000000) (h3 : 1 ≤ b) (h4 : b ≤ 1000000000) : Calls Tryz.prog 138 #[.agg #[.int .u8 l, .int .u8 n, .int .i64 k, .int .i64 t, .int .i64 b, .slice pa pn pc, .pointer bo, .pointer ov]] w fun e w' => e = .returned (.tuple #[PC.value (pcVal 42 (overP t b) (overQ t b)), .bool true]) ∧ Below w.heap.size w w' := by
  go_enter Tryz.func138, Tryz.ntmps138
  go_wp2_with fail
  refine (nOver_any t b _ h1 h2 h3 h4).mono ?_
  rintro e w1 ⟨⟨hz, _⟩ | ⟨_, rfl⟩, hb1⟩
  · exact absurd hz h0
  · obtain ⟨_, _, hl1, hb, hblk⟩ := res_facts hb1
    clear hb1
    go_upto_region 2 with fail
    obtain ⟨wx, hwx⟩ : ∃ wx, wx = w1.alloc (.cells #[.int .i64 (overP t b), .int .i64 (overQ t b)] 91) := ⟨_, rfl⟩
    rw [← hwx]
    have hbx := (show wx.heap[w.heap.size + 1]? = w1.heap[w.heap.size + 1]? by rw [hwx, Below.heap_alloc _ _ _ hl1]).trans hblk
    have hcx : ∀ i, wx.cell? ⟨w.heap.size + 1, i, none⟩ = _ := fun i => blk_cell hbx i
    have hfx : ∀ i, wx.frozen? ⟨w.heap.size + 1, i, none⟩ = false := fun i => blk_free hbx i
    have hv : ∀ i, wx.cell? ⟨w1.heap.size, i, none⟩ = (#[.int .i64 (overP t b), .int .i64 (overQ t b)] : Array Value)[i]? := fun i => by rw [hwx]; exact blk_cell (heap_alloc_new w1 _) i
    have HB := hide (show Below w.heap.size w wx by rw [hwx]; exact hb.alloc hb.size _)
    clear hbx hb hblk hwx
    go_wp2_with fail
    exact bodyPost_ret (v := .tuple #[PC.value (pcVal 42 (overP t b) (overQ t b)), .bool true]) (by simp [results, Tryz.results138, go_sem, hcx, PC.value, PC.cells, pcVal, ptr]) rfl ⟨rfl, st8_below (unhide HB) (Nat.le_succ _) _ _ _ _ _ _ _ _⟩

set_option maxRecDepth 100000 in
set_option maxHeartbeats 1600000 in
theorem oppLetter_any {c d : UInt8} (h : (c = 110 ∧ d = 110) ∨ (c = 118 ∧ d = 118) ∨ (c = 114 ∧ d = 114) ∨ (c = 113 ∧ d = 119) ∨ (c = 117 ∧ d = 119) ∨ (c = 119 ∧ d = 117) ∨ (c = 115 ∧ d = 122) ∨ (c = 122 ∧ d = 115) ∨ (c = 112 ∧ d = 111) ∨ (c = 109 ∧ d = 111) ∨ (c = 111 ∧ d = 109)) (w : World) : Calls Tryz.prog 141 #[.int .u8 (c.toNat : Int)] w fun e w' => e = .returned (.tuple #[PC.value (pcLet d), .bool true]) ∧ Below w.heap.size w w' := by
  rcases h with ⟨rfl, rfl⟩ | ⟨rfl, rfl⟩ | ⟨rfl, rfl⟩ | ⟨rfl, rfl⟩ | ⟨rfl, rfl⟩ | ⟨rfl, rfl⟩ | ⟨rfl, rfl⟩ | ⟨rfl, rfl⟩ | ⟨rfl, rfl⟩ | ⟨rfl, rfl⟩ | ⟨rfl, rfl⟩
  · go_enter Tryz.func141, Tryz.ntmps141
    go_wp2_with fail
    exact bodyPost_ret (v := .tuple #[PC.value (pcLet 110), .bool true]) (by simp [results, Tryz.results141, go_sem, PC.value, PC.cells, pcLet, ptr]) rfl ⟨rfl, (by repeat (first | exact Below.refl _ _ | refine below_dr ?_ _ | refine Below.drew ?_ | refine Below.setCell ?_ (by simp) _ | refine Below.alloc ?_ (by simp) _))⟩
  · go_enter Tryz.func141, Tryz.ntmps141
    go_wp2_with fail
    exact bodyPost_ret (v := .tuple #[PC.value (pcLet 118), .bool true]) (by simp [results, Tryz.results141, go_sem, PC.value, PC.cells, pcLet, ptr]) rfl ⟨rfl, (by repeat (first | exact Below.refl _ _ | refine below_dr ?_ _ | refine Below.drew ?_ | refine Below.setCell ?_ (by simp) _ | refine Below.alloc ?_ (by simp) _))⟩
  · go_enter Tryz.func141, Tryz.ntmps141
    go_wp2_with fail
    exact bodyPost_ret (v := .tuple #[PC.value (pcLet 114), .bool true]) (by simp [results, Tryz.results141, go_sem, PC.value, PC.cells, pcLet, ptr]) rfl ⟨rfl, (by repeat (first | exact Below.refl _ _ | refine below_dr ?_ _ | refine Below.drew ?_ | refine Below.setCell ?_ (by simp) _ | refine Below.alloc ?_ (by simp) _))⟩
  · go_enter Tryz.func141, Tryz.ntmps141
    go_wp2_with fail
    exact bodyPost_ret (v := .tuple #[PC.value (pcLet 119), .bool true]) (by simp [results, Tryz.results141, go_sem, PC.value, PC.cells, pcLet, ptr]) rfl ⟨rfl, (by repeat (first | exact Below.refl _ _ | refine below_dr ?_ _ | refine Below.drew ?_ | refine Below.setCell ?_ (by simp) _ | refine Below.alloc ?_ (by simp) _))⟩
  · go_enter Tryz.func141, Tryz.ntmps141
    go_wp2_with fail
    exact bodyPost_ret (v := .tuple #[PC.value (pcLet 119), .bool true]) (by simp [results, Tryz.results141, go_sem, PC.value, PC.cells, pcLet, ptr]) rfl ⟨rfl, (by repeat (first | exact Below.refl _ _ | refine below_dr ?_ _ | refine Below.drew ?_ | refine Below.setCell ?_ (by simp) _ | refine Below.alloc ?_ (by simp) _))⟩
  · go_enter Tryz.func141, Tryz.ntmps141
    go_wp2_with fail
    exact bodyPost_ret (v := .tuple #[PC.value (pcLet 117), .bool true]) (by simp [results, Tryz.results141, go_sem, PC.value, PC.cells, pcLet, ptr]) rfl ⟨rfl, (by repeat (first | exact Below.refl _ _ | refine below_dr ?_ _ | refine Below.drew ?_ | refine Below.setCell ?_ (by simp) _ | refine Below.alloc ?_ (by simp) _))⟩
  · go_enter Tryz.func141, Tryz.ntmps141
    go_wp2_with fail
    exact bodyPost_ret (v := .tuple #[PC.value (pcLet 122), .bool true]) (by simp [results, Tryz.results141, go_sem, PC.value, PC.cells, pcLet, ptr]) rfl ⟨rfl, (by repeat (first | exact Below.refl _ _ | refine below_dr ?_ _ | refine Below.drew ?_ | refine Below.setCell ?_ (by simp) _ | refine Below.alloc ?_ (by simp) _))⟩
  · go_enter Tryz.func141, Tryz.ntmps141
    go_wp2_with fail
    exact bodyPost_ret (v := .tuple #[PC.value (pcLet 115), .bool true]) (by simp [results, Tryz.results141, go_sem, PC.value, PC.cells, pcLet, ptr]) rfl ⟨rfl, (by repeat (first | exact Below.refl _ _ | refine below_dr ?_ _ | refine Below.drew ?_ | refine Below.setCell ?_ (by simp) _ | refine Below.alloc ?_ (by simp) _))⟩
  · go_enter Tryz.func141, Tryz.ntmps141
    go_wp2_with fail
    exact bodyPost_ret (v := .tuple #[PC.value (pcLet 111), .bool true]) (by simp [results, Tryz.results141, go_sem, PC.value, PC.cells, pcLet, ptr]) rfl ⟨rfl, (by repeat (first | exact Below.refl _ _ | refine below_dr ?_ _ | refine Below.drew ?_ | refine Below.setCell ?_ (by simp) _ | refine Below.alloc ?_ (by simp) _))⟩
  · go_enter Tryz.func141, Tryz.ntmps141
    go_wp2_with fail
    exact bodyPost_ret (v := .tuple #[PC.value (pcLet 111), .bool true]) (by simp [results, Tryz.results141, go_sem, PC.value, PC.cells, pcLet, ptr]) rfl ⟨rfl, (by repeat (first | exact Below.refl _ _ | refine below_dr ?_ _ | refine Below.drew ?_ | refine Below.setCell ?_ (by simp) _ | refine Below.alloc ?_ (by simp) _))⟩
  · go_enter Tryz.func141, Tryz.ntmps141
    go_wp2_with fail
    exact bodyPost_ret (v := .tuple #[PC.value (pcLet 109), .bool true]) (by simp [results, Tryz.results141, go_sem, PC.value, PC.cells, pcLet, ptr]) rfl ⟨rfl, (by repeat (first | exact Below.refl _ _ | refine below_dr ?_ _ | refine Below.drew ?_ | refine Below.setCell ?_ (by simp) _ | refine Below.alloc ?_ (by simp) _))⟩
end Go.Proofs.YtikiaijgcjjloaaGreatDoor

import Derived.Test.YtikiaijgcjjloaaGreatDoorPart20
import Derived.Test.YtikiaijgcjjloaaGreatDoorPart24
import Derived.Deep.RegionHeld3

namespace Go.Proofs.YtikiaijgcjjloaaGreatDoor
open Go Go.RowKit M Go.Lib
set_option maxRecDepth 100000 in
set_option maxHeartbeats 400000 in
theorem nRoot_any (t b : Int) (w : World) (h1 : -1000000000 ≤ t) (h2 : t ≤ 1000000000) (h3 : 1 ≤ b) (h4 : b ≤ 1000000000) :
    Calls Tryz.prog 91 #[.agg #[.int .i64 t, .int .i64 b]] w fun e w' => ((∃ x y : Nat, (x : Int) * x = t ∧ (y : Int) * y = b ∧ e = .returned (.tuple #[.agg #[.int .i64 x, .int .i64 y], .int .i64 0])) ∨ ((noRoot t ∨ noRoot b) ∧ e = .returned (.tuple #[.agg #[.int .i64 0, .int .i64 0], .int .i64 2]))) ∧ Below w.heap.size w w' := by
  go_enter Tryz.func91, Tryz.ntmps91
  go_wp2_with fail
  refine (wholeRoot_any t _ h2 h1).mono ?_
  rintro e w' ⟨⟨x, hx, rfl⟩ | ⟨hx, rfl⟩, rfl⟩
  · have HX := hide hx
    clear hx
    go_wp2_with fail
    refine (wholeRoot_any b _ h4 (by omega)).mono ?_
    rintro e w' ⟨⟨y, hy, rfl⟩ | ⟨hy, rfl⟩, rfl⟩
    · have HY := hide hy
      clear hy
      go_wp2_with fail
      exact bodyPost_ret (v := .tuple #[.agg #[.int .i64 x, .int .i64 y], .int .i64 0]) (by simp [results, Tryz.results91, go_sem]) rfl ⟨Or.inl ⟨x, y, unhide HX, unhide HY, rfl⟩, (by repeat (first | exact Below.refl _ _ | refine below_dr ?_ _ | refine Below.drew ?_ | refine Below.setCell ?_ (by simp) _ | refine Below.alloc ?_ (by simp) _))⟩
    · have HY := hide hy
      clear hy
      go_wp2_with fail
      exact bodyPost_ret (v := .tuple #[.agg #[.int .i64 0, .int .i64 0], .int .i64 2]) (by simp [results, Tryz.results91, go_sem]) rfl ⟨Or.inr ⟨Or.inr (unhide HY), rfl⟩, (by repeat (first | exact Below.refl _ _ | refine below_dr ?_ _ | refine Below.drew ?_ | refine Below.setCell ?_ (by simp) _ | refine Below.alloc ?_ (by simp) _))⟩
  · have HX := hide hx
    clear hx
    go_wp2_with fail
    refine (wholeRoot_any b _ h4 (by omega)).mono ?_
    rintro e w' ⟨⟨y, hy, rfl⟩ | ⟨hy, rfl⟩, rfl⟩
    all_goals
      clear hy
      go_wp2_with fail
      exact bodyPost_ret (v := .tuple #[.agg #[.int .i64 0, .int .i64 0], .int .i64 2]) (by simp [results, Tryz.results91, go_sem]) rfl ⟨Or.inr ⟨Or.inl (unhide HX), rfl⟩, (by repeat (first | exact Below.refl _ _ | refine below_dr ?_ _ | refine Below.drew ?_ | refine Below.setCell ?_ (by simp) _ | refine Below.alloc ?_ (by simp) _))⟩
set_option maxRecDepth 100000 in
set_option maxHeartbeats 400000 in
theorem rSqrt_any (t b : Int) (w : World) (h2 : t ≤ 1000000000) (h4 : b ≤ 1000000000) :
    Calls Tryz.prog 98 #[.agg #[.int .i64 t, .int .i64 b]] w fun e w' => ((∃ x y : Nat, (x : Int) * x = t ∧ (y : Int) * y = b ∧ e = .returned (.tuple #[.agg #[.int .i64 x, .int .i64 y], .int .i64 0])) ∨ ((noRoot t ∨ noRoot b) ∧ e = .returned (.tuple #[.agg #[.int .i64 0, .int .i64 1], .int .i64 2]))) ∧ Below w.heap.size w w' := by
  go_enter Tryz.func98, Tryz.ntmps98
  go_wp2_with fail
  refine (side_any t _ h2).mono ?_
  rintro e w' ⟨⟨x, hx, rfl⟩ | ⟨hx, rfl⟩, rfl⟩
  · have HX := hide hx
    clear hx
    go_wp2_with fail
    refine (side_any b _ h4).mono ?_
    rintro e w' ⟨⟨y, hy, rfl⟩ | ⟨hy, rfl⟩, rfl⟩
    · have HY := hide hy
      clear hy
      have hx0 : ¬ (x : Int) < 0 := by omega
      have hy0 : ¬ (y : Int) < 0 := by omega
      go_wp2_with fail
      exact bodyPost_ret (v := .tuple #[.agg #[.int .i64 x, .int .i64 y], .int .i64 0]) (by simp [results, Tryz.results98, go_sem]) rfl ⟨Or.inl ⟨x, y, unhide HX, unhide HY, rfl⟩, (by repeat (first | exact Below.refl _ _ | refine below_dr ?_ _ | refine Below.drew ?_ | refine Below.setCell ?_ (by simp) _ | refine Below.alloc ?_ (by simp) _))⟩
    · have HY := hide hy
      clear hy
      have hx0 : ¬ (x : Int) < 0 := by omega
      go_wp2_with fail
      exact bodyPost_ret (v := .tuple #[.agg #[.int .i64 0, .int .i64 1], .int .i64 2]) (by simp [results, Tryz.results98, go_sem]) rfl ⟨Or.inr ⟨Or.inr (unhide HY), rfl⟩, (by repeat (first | exact Below.refl _ _ | refine below_dr ?_ _ | refine Below.drew ?_ | refine Below.setCell ?_ (by simp) _ | refine Below.alloc ?_ (by simp) _))⟩
  · have HX := hide hx
    clear hx
    go_wp2_with fail
    refine (side_any b _ h4).mono ?_
    rintro e w' ⟨⟨y, hy, rfl⟩ | ⟨hy, rfl⟩, rfl⟩
    all_goals
      clear hy
      go_wp2_with fail
      exact bodyPost_ret (v := .tuple #[.agg #[.int .i64 0, .int .i64 1], .int .i64 2]) (by simp [results, Tryz.results98, go_sem]) rfl ⟨Or.inr ⟨Or.inl (unhide HX), rfl⟩, (by repeat (first | exact Below.refl _ _ | refine below_dr ?_ _ | refine Below.drew ?_ | refine Below.setCell ?_ (by simp) _ | refine Below.alloc ?_ (by simp) _))⟩
end Go.Proofs.YtikiaijgcjjloaaGreatDoor

namespace Go.Proofs.YtikiaijgcjjloaaGreatDoor
open Go Go.RowKit M T Go.Lib
def qv (x : Rat) : Value := .agg #[.int .i64 x.num, .int .i64 (x.den : Int)]
def QGot (r : Except Int Rat) (e : Ending) : Prop := (∃ z, r = .ok z ∧ small z = true ∧ e = .returned (.tuple #[qv z, .int .i64 0])) ∨ (∃ c, r = .error c ∧ c ≠ 0 ∧ e = .returned (.tuple #[.agg #[.int .i64 0, .int .i64 0], .int .i64 c]))
theorem small_bd {x : Rat} (h : small x = true) : -1000000000 ≤ x.num ∧ x.num ≤ 1000000000 ∧ 1 ≤ (x.den : Int) ∧ (x.den : Int) ≤ 1000000000 := by
  have := of_decide_eq_true h
  have hd := x.den_pos
  omega
theorem lim_got {x : Rat} {b : Bool} {p q : Int} {e : Ending} (hb : b = small x) (hp : p = x.num) (hq : q = (x.den : Int)) (h : (b = true ∧ e = .returned (.tuple #[.agg #[.int .i64 p, .int .i64 q], .int .i64 0])) ∨ (b = false ∧ e = .returned (.tuple #[.agg #[.int .i64 0, .int .i64 0], .int .i64 3]))) : QGot (lim x) e := by
  unfold lim
  rcases h with ⟨h, rfl⟩ | ⟨h, rfl⟩
  · rw [hb] at h
    exact Or.inl ⟨x, by rw [if_pos h], h, by rw [qv, hp, hq]⟩
  · rw [hb] at h
    exact Or.inr ⟨3, by rw [h]; rfl, by decide, rfl⟩
theorem qPlus {x y : Rat} (hx : small x = true) (hy : small y = true) (w : World) : Calls Tryz.prog 46 #[qv x, qv y] w fun e w' => QGot (lim (x + y)) e ∧ Below w.heap.size w w' := by
  obtain ⟨a1, a2, a3, a4⟩ := small_bd hx
  obtain ⟨b1, b2, b3, b4⟩ := small_bd hy
  obtain ⟨p1, p2, p3⟩ := add_pairs x y
  refine (nPlus_any x.num (x.den : Int) y.num (y.den : Int) w a1 a2 a3 a4 b1 b2 b3 b4).mono ?_
  rintro e w' ⟨h, hb⟩
  exact ⟨lim_got p1 p2 p3 h, hb⟩
theorem qTimes {x y : Rat} (hx : small x = true) (hy : small y = true) (w : World) : Calls Tryz.prog 89 #[qv x, qv y] w fun e w' => QGot (lim (x * y)) e ∧ Below w.heap.size w w' := by
  obtain ⟨a1, a2, a3, a4⟩ := small_bd hx
  obtain ⟨b1, b2, b3, b4⟩ := small_bd hy
  obtain ⟨p1, p2, p3⟩ := mul_pairs x y
  refine (nTimes_any x.num (x.den : Int) y.num (y.den : Int) w a1 a2 a3 a4 b1 b2 b3 b4).mono ?_
  rintro e w' ⟨h, hb⟩
  exact ⟨lim_got p1 p2 p3 h, hb⟩
def overE (x : Rat) : Except Int Rat := if x = 0 then .error 2 else .ok x⁻¹
theorem qOver {x : Rat} (hx : small x = true) (w : World) : Calls Tryz.prog 90 #[qv x] w fun e w' => QGot (overE x) e ∧ Below w.heap.size w w' := by
  obtain ⟨a1, a2, a3, a4⟩ := small_bd hx
  refine (nOver_any x.num (x.den : Int) w a1 a2 a3 a4).mono ?_
  rintro e w' ⟨⟨h0, rfl⟩ | ⟨h0, rfl⟩, hb⟩
  · have h0' := num_zero.1 h0
    exact ⟨Or.inr ⟨2, by rw [overE, if_pos h0'], by decide, rfl⟩, hb⟩
  · have h0' : x ≠ 0 := fun e => h0 (num_zero.2 e)
    obtain ⟨i1, i2⟩ := inv_pairs x h0'
    refine ⟨Or.inl ⟨x⁻¹, by rw [overE, if_neg h0'], inv_small hx h0', ?_⟩, hb⟩
    rw [qv, i1, i2]
    rfl
def rootE (x : Rat) : Except Int Rat := match root x with | some y => .ok y | none => .error 2
theorem qRoot {x : Rat} (hx : small x = true) (w : World) : Calls Tryz.prog 91 #[qv x] w fun e w' => QGot (rootE x) e ∧ Below w.heap.size w w' := by
  obtain ⟨a1, a2, a3, a4⟩ := small_bd hx
  refine (nRoot_any x.num (x.den : Int) w a1 a2 a3 a4).mono ?_
  rintro e w' ⟨⟨a, b, ha, hb', rfl⟩ | ⟨h, rfl⟩, hb⟩
  · obtain ⟨y, hy, e1, e2⟩ := root_pairs_some ha hb'
    refine ⟨Or.inl ⟨y, by rw [rootE, hy], ?_, by rw [qv, e1, e2]⟩, hb⟩
    unfold small
    apply decide_eq_true
    have hle : ∀ k : Nat, (k : Int) * k ≤ 1000000000 → k ≤ 1000000000 := by
      intro k hk
      rcases Nat.lt_or_ge k 1 with h | h
      · omega
      · have : k ≤ k * k := Nat.le_mul_of_pos_right k h
        have h2 : ((k * k : Nat) : Int) ≤ 1000000000 := by simpa using hk
        omega
    have g1 := hle a (by rw [ha]; exact a2)
    have g2 := hle b (by rw [hb']; exact a4)
    rw [e1, e2]
    omega
  · exact ⟨Or.inr ⟨2, by rw [rootE, root_pairs_none h], by decide, rfl⟩, hb⟩
theorem qNeg {x : Rat} (hx : small x = true) (w : World) : Calls Tryz.prog 137 #[qv x] w fun e w' => e = .returned (qv (-x)) ∧ Below w.heap.size w w' := by
  obtain ⟨a1, a2, a3, a4⟩ := small_bd hx
  refine (negative_any x.num (x.den : Int) w a1 a2).mono ?_
  rintro e w' ⟨rfl, hb⟩
  exact ⟨by rw [qv, Rat.neg_num, Rat.neg_den], hb⟩
theorem num_lt_iff {x : Rat} : x.num < 0 ↔ x < 0 := by
  constructor
  · intro h
    refine Rat.not_le.1 (fun h' => ?_)
    have := Rat.num_nonneg.2 h'
    omega
  · intro h
    have h1 : ¬ 0 ≤ x.num := fun h' => Rat.not_le.2 h (Rat.num_nonneg.1 h')
    omega
def absR (x : Rat) : Rat := if x < 0 then -x else x
theorem absR_pair (x : Rat) : (absR x).num = (x.num.natAbs : Int) ∧ (absR x).den = x.den := by
  unfold absR
  by_cases h : x < 0
  · rw [if_pos h, Rat.neg_num, Rat.neg_den]
    have := num_lt_iff.2 h
    omega
  · rw [if_neg h]
    have : 0 ≤ x.num := Rat.num_nonneg.2 (Rat.not_lt.1 h)
    omega
theorem absR_small {x : Rat} (h : small x = true) : small (absR x) = true := by
  unfold absR
  split
  · exact neg_small h
  · exact h
set_option maxRecDepth 100000 in
set_option maxHeartbeats 800000 in
theorem withoutSign_any (t b : Int) (w : World) (h1 : -1000000000 ≤ t) (h2 : t ≤ 1000000000) : Calls Tryz.prog 192 #[.agg #[.int .i64 t, .int .i64 b]] w fun e w' => e = .returned (.agg #[.int .i64 (t.natAbs : Int), .int .i64 b]) ∧ Below w.heap.size w w' := by
  go_enter Tryz.func192, Tryz.ntmps192
  go_upto_region 1 with fail
  go_region_held3 (fun w' => w'.cell? ⟨w.heap.size, 0, none⟩ = some (.int .i64 t) ∧ w'.cell? ⟨w.heap.size, 1, none⟩ = some (.int .i64 b)) (go_keep)
    (first | (go_at_call 86; refine (size_any t _ (by omega) (by omega)).mono ?_; rintro e w' ⟨rfl, rfl⟩))
  all_goals go_wp2_with fail
  all_goals exact bodyPost_ret (v := .agg #[.int .i64 (t.natAbs : Int), .int .i64 b]) (by simp [results, Tryz.results192, go_sem]) rfl ⟨rfl, (by repeat (first | exact Below.refl _ _ | refine below_dr ?_ _ | refine Below.drew ?_ | refine Below.setCell ?_ (by simp) _ | refine Below.alloc ?_ (by simp) _))⟩
theorem qAbs {x : Rat} (hx : small x = true) (w : World) : Calls Tryz.prog 192 #[qv x] w fun e w' => e = .returned (qv (absR x)) ∧ Below w.heap.size w w' := by
  obtain ⟨a1, a2, a3, a4⟩ := small_bd hx
  refine (withoutSign_any x.num (x.den : Int) w a1 a2).mono ?_
  rintro e w' ⟨rfl, hb⟩
  exact ⟨by rw [qv, (absR_pair x).1, (absR_pair x).2], hb⟩
set_option maxRecDepth 100000 in
set_option maxHeartbeats 800000 in
theorem isBelowZero_any (t b : Int) (w : World) : Calls Tryz.prog 194 #[.agg #[.int .i64 t, .int .i64 b]] w fun e w' => e = .returned (.bool (decide (t < 0))) ∧ Below w.heap.size w w' := by
  go_enter Tryz.func194, Tryz.ntmps194
  go_wp2_with fail
  go_ret
  exact ⟨rfl, (by repeat (first | exact Below.refl _ _ | refine below_dr ?_ _ | refine Below.drew ?_ | refine Below.setCell ?_ (by simp) _ | refine Below.alloc ?_ (by simp) _))⟩
theorem qBelow (x : Rat) (w : World) : Calls Tryz.prog 194 #[qv x] w fun e w' => e = .returned (.bool (decide (x < 0))) ∧ Below w.heap.size w w' := by
  refine (isBelowZero_any x.num (x.den : Int) w).mono ?_
  rintro e w' ⟨rfl, hb⟩
  exact ⟨by rw [show decide (x.num < 0) = decide (x < 0) from by rw [decide_eq_decide]; exact num_lt_iff], hb⟩
theorem qZero (x : Rat) (w : World) : Calls Tryz.prog 160 #[qv x] w fun e w' => e = .returned (.bool (decide (x = 0))) ∧ Below w.heap.size w w' := by
  refine (isZero_any x.num (x.den : Int) w).mono ?_
  rintro e w' ⟨rfl, hb⟩
  exact ⟨by rw [show decide (x.num = 0) = decide (x = 0) from by rw [decide_eq_decide]; exact num_zero], hb⟩
def sqE (x : Rat) : Except Int Rat := if x < 0 then .error 2 else lim (x * x)
theorem res2 {w w1 : World} {o1 o2 : Obj} {c : Array Value} {T : TypeId} (hb : Below (((w.alloc o1).alloc o2).alloc (.cells c T)).heap.size (((w.alloc o1).alloc o2).alloc (.cells c T)) w1) : (∀ i, w1.cell? ⟨w.heap.size + 1 + 1, i, none⟩ = c[i]?) ∧ (∀ i, w1.frozen? ⟨w.heap.size + 1 + 1, i, none⟩ = false) ∧ Below w.heap.size w w1 := by
  have hs : (((w.alloc o1).alloc o2).alloc (.cells c T)).heap.size = w.heap.size + 3 := by simp
  have hn := heap_alloc_new ((w.alloc o1).alloc o2) (.cells c T)
  rw [World.size_alloc, World.size_alloc] at hn
  have hblk : w1.heap[w.heap.size + 1 + 1]? = some (.cells c T (0, 0)) := by rw [hb.block _ (by omega)]; exact hn
  exact ⟨fun i => blk_cell hblk i, fun i => blk_free hblk i, ((((Below.refl _ _).alloc (Nat.le_refl _) _).alloc (by simp) _).alloc (by simp; omega) _).trans (hb.mono (by omega))⟩
set_option maxRecDepth 100000 in
set_option maxHeartbeats 800000 in
theorem squareOfRoot_any {x : Rat} (hx : small x = true) (w : World) : Calls Tryz.prog 193 #[qv x] w fun e w' => QGot (sqE x) e ∧ Below w.heap.size w w' := by
  rw [qv]
  have HX := hide hx
  clear hx
  go_enter Tryz.func193, Tryz.ntmps193
  go_wp2_with fail
  refine (qBelow x _).mono ?_
  rintro e w1 ⟨rfl, hb1⟩
  obtain ⟨hc1, hf1, _, hbw, _⟩ := res_facts hb1
  have hc0 : ∀ i, w1.cell? ⟨w.heap.size, i, none⟩ = (#[.int .i64 x.num, .int .i64 (x.den : Int)] : Array Value)[i]? := fun i => (hb1.cell (p := ⟨w.heap.size, i, none⟩) (by simp; omega)).trans (by rw [blk_cell (show ((w.alloc (.cells #[.int .i64 x.num, .int .i64 (x.den : Int)] 91)).alloc (.cells #[.int .i64 0, .int .i64 0] 91)).heap[w.heap.size]? = some (.cells #[.int .i64 x.num, .int .i64 (x.den : Int)] 91 (0, 0)) by rw [Below.heap_alloc _ _ _ (by simp)]; exact heap_alloc_new w _)])
  have HB := hide hbw
  have hlt : w.heap.size + 1 < w1.heap.size := by have := hb1.size; simp at this; omega
  clear hb1 hbw
  by_cases h0 : x < 0
  · have q : decide (x < 0) = true := decide_eq_true h0
    rw [q]
    have HE : Hid (sqE x = .error 2) := if_pos h0
    clear h0 q
    go_wp2_with fail
    exact bodyPost_ret (v := .tuple #[.agg #[.int .i64 0, .int .i64 0], .int .i64 2]) (by simp [results, Tryz.results193, go_sem, hc1]) rfl ⟨Or.inr ⟨2, unhide HE, by decide, rfl⟩, Below.setCell (p := ⟨w.heap.size + 1, 1, none⟩) (Below.setCell (p := ⟨w.heap.size + 1, 0, none⟩) (unhide HB) (Nat.le_succ _) _) (Nat.le_succ _) _⟩
  · have q : decide (x < 0) = false := decide_eq_false h0
    rw [q]
    have HE : Hid (sqE x = lim (x * x)) := if_neg h0
    clear h0 q
    go_wp2_with fail
    refine (qTimes (unhide HX) (unhide HX) _).mono ?_
    rintro e w2 ⟨hq, hb2⟩
    have hc2 : ∀ i, w2.cell? ⟨w.heap.size + 1, i, none⟩ = (#[.int .i64 0, .int .i64 0] : Array Value)[i]? := fun i => (hb2.cell (p := ⟨w.heap.size + 1, i, none⟩) hlt).trans (hc1 i)
    have hf2 : ∀ i, w2.frozen? ⟨w.heap.size + 1, i, none⟩ = false := fun i => (hb2.frozen (p := ⟨w.heap.size + 1, i, none⟩) hlt).trans (hf1 i)
    have HB2 := hide ((unhide HB).trans (hb2.mono (unhide HB).size))
    clear hb2 hc1 hf1 hc0
    rcases hq with ⟨z, hz, hs, rfl⟩ | ⟨c, hz, hne, rfl⟩
    · have HZ := hide hz
      have HS := hide hs
      clear hz hs
      rw [qv]
      go_wp2_with fail
      exact bodyPost_ret (v := .tuple #[qv z, .int .i64 0]) (by simp [results, Tryz.results193, go_sem, hc2, qv]) rfl ⟨Or.inl ⟨z, (unhide HE).trans (unhide HZ), unhide HS, rfl⟩, Below.setCell (p := ⟨w.heap.size + 1, 1, none⟩) (Below.setCell (p := ⟨w.heap.size + 1, 0, none⟩) (unhide HB2) (Nat.le_succ _) _) (Nat.le_succ _) _⟩
    · have HZ := hide hz
      have HN := hide hne
      clear hz hne
      go_wp2_with fail
      exact bodyPost_ret (v := .tuple #[.agg #[.int .i64 0, .int .i64 0], .int .i64 c]) (by simp [results, Tryz.results193, go_sem, hc2]) rfl ⟨Or.inr ⟨c, (unhide HE).trans (unhide HZ), unhide HN, rfl⟩, Below.setCell (p := ⟨w.heap.size + 1, 1, none⟩) (Below.setCell (p := ⟨w.heap.size + 1, 0, none⟩) (unhide HB2) (Nat.le_succ _) _) (Nat.le_succ _) _⟩
set_option maxRecDepth 100000 in
set_option maxHeartbeats 800000 in
theorem one_n {x : Rat} (hx : small x = true) (t b : Int) (n k : Int) (pa : Option Addr) (pn pc : Nat) (bo ov : Option Addr) (w : World) : Calls Tryz.prog 189 #[qv x, .agg #[.int .u8 110, .int .u8 n, .int .i64 k, .int .i64 t, .int .i64 b, .slice pa pn pc, .pointer bo, .pointer ov]] w fun e w' => QGot (.ok (-x)) e ∧ Below w.heap.size w w' := by
  rw [qv]
  have HX := hide hx
  clear hx
  go_enter Tryz.func189, Tryz.ntmps189
  go_wp2_with fail
  refine (qNeg (unhide HX) _).mono ?_
  rintro e w1 ⟨rfl, hb1⟩
  obtain ⟨hc1, hf1, hbw⟩ := res2 hb1
  have HB := hide hbw
  clear hb1 hbw
  rw [qv]
  go_wp2_with fail
  exact bodyPost_ret (v := .tuple #[qv (-x), .int .i64 0]) (by simp [results, Tryz.results189, go_sem, hc1, qv]) rfl ⟨Or.inl ⟨_, rfl, neg_small (unhide HX), rfl⟩, Below.setCell (p := ⟨w.heap.size + 1 + 1, 1, none⟩) (Below.setCell (p := ⟨w.heap.size + 1 + 1, 0, none⟩) (unhide HB) (Nat.le_add_right _ 2) _) (Nat.le_add_right _ 2) _⟩
set_option maxRecDepth 100000 in
set_option maxHeartbeats 800000 in
theorem one_v {x : Rat} (hx : small x = true) (t b : Int) (n k : Int) (pa : Option Addr) (pn pc : Nat) (bo ov : Option Addr) (w : World) : Calls Tryz.prog 189 #[qv x, .agg #[.int .u8 118, .int .u8 n, .int .i64 k, .int .i64 t, .int .i64 b, .slice pa pn pc, .pointer bo, .pointer ov]] w fun e w' => QGot (overE x) e ∧ Below w.heap.size w w' := by
  rw [qv]
  have HX := hide hx
  clear hx
  go_enter Tryz.func189, Tryz.ntmps189
  go_wp2_with fail
  refine (qOver (unhide HX) _).mono ?_
  rintro e w1 ⟨hq, hb1⟩
  obtain ⟨hc1, hf1, hbw⟩ := res2 hb1
  have HB := hide hbw
  clear hb1 hbw
  rcases hq with ⟨z, hz, hs, rfl⟩ | ⟨c0, hz, hne, rfl⟩
  · have HZ := hide hz
    have HS := hide hs
    clear hz hs
    rw [qv]
    go_wp2_with fail
    exact bodyPost_ret (v := .tuple #[qv z, .int .i64 0]) (by simp [results, Tryz.results189, go_sem, hc1, qv]) rfl ⟨Or.inl ⟨z, unhide HZ, unhide HS, rfl⟩, Below.setCell (p := ⟨w.heap.size + 1 + 1, 1, none⟩) (Below.setCell (p := ⟨w.heap.size + 1 + 1, 0, none⟩) (unhide HB) (Nat.le_add_right _ 2) _) (Nat.le_add_right _ 2) _⟩
  · have HZ := hide hz
    have HN := hide hne
    clear hz hne
    go_wp2_with fail
    exact bodyPost_ret (v := .tuple #[.agg #[.int .i64 0, .int .i64 0], .int .i64 c0]) (by simp [results, Tryz.results189, go_sem, hc1]) rfl ⟨Or.inr ⟨c0, unhide HZ, unhide HN, rfl⟩, Below.setCell (p := ⟨w.heap.size + 1 + 1, 1, none⟩) (Below.setCell (p := ⟨w.heap.size + 1 + 1, 0, none⟩) (unhide HB) (Nat.le_add_right _ 2) _) (Nat.le_add_right _ 2) _⟩
set_option maxRecDepth 100000 in
set_option maxHeartbeats 800000 in
theorem one_a {x : Rat} (hx : small x = true) (t b : Int) (n k : Int) (pa : Option Addr) (pn pc : Nat) (bo ov : Option Addr) (w : World) : Calls Tryz.prog 189 #[qv x, .agg #[.int .u8 97, .int .u8 n, .int .i64 k, .int .i64 t, .int .i64 b, .slice pa pn pc, .pointer bo, .pointer ov]] w fun e w' => QGot (.ok (absR x)) e ∧ Below w.heap.size w w' := by
  rw [qv]
  have HX := hide hx
  clear hx
  go_enter Tryz.func189, Tryz.ntmps189
  go_wp2_with fail
  refine (qAbs (unhide HX) _).mono ?_
  rintro e w1 ⟨rfl, hb1⟩
  obtain ⟨hc1, hf1, hbw⟩ := res2 hb1
  have HB := hide hbw
  clear hb1 hbw
  rw [qv]
  go_wp2_with fail
  exact bodyPost_ret (v := .tuple #[qv (absR x), .int .i64 0]) (by simp [results, Tryz.results189, go_sem, hc1, qv]) rfl ⟨Or.inl ⟨_, rfl, absR_small (unhide HX), rfl⟩, Below.setCell (p := ⟨w.heap.size + 1 + 1, 1, none⟩) (Below.setCell (p := ⟨w.heap.size + 1 + 1, 0, none⟩) (unhide HB) (Nat.le_add_right _ 2) _) (Nat.le_add_right _ 2) _⟩
set_option maxRecDepth 100000 in
set_option maxHeartbeats 800000 in
theorem one_q {x : Rat} (hx : small x = true) (t b : Int) (n k : Int) (pa : Option Addr) (pn pc : Nat) (bo ov : Option Addr) (w : World) : Calls Tryz.prog 189 #[qv x, .agg #[.int .u8 113, .int .u8 n, .int .i64 k, .int .i64 t, .int .i64 b, .slice pa pn pc, .pointer bo, .pointer ov]] w fun e w' => QGot (lim (x * x)) e ∧ Below w.heap.size w w' := by
  rw [qv]
  have HX := hide hx
  clear hx
  go_enter Tryz.func189, Tryz.ntmps189
  go_wp2_with fail
  refine (qTimes (unhide HX) (unhide HX) _).mono ?_
  rintro e w1 ⟨hq, hb1⟩
  obtain ⟨hc1, hf1, hbw⟩ := res2 hb1
  have HB := hide hbw
  clear hb1 hbw
  rcases hq with ⟨z, hz, hs, rfl⟩ | ⟨c0, hz, hne, rfl⟩
  · have HZ := hide hz
    have HS := hide hs
    clear hz hs
    rw [qv]
    go_wp2_with fail
    exact bodyPost_ret (v := .tuple #[qv z, .int .i64 0]) (by simp [results, Tryz.results189, go_sem, hc1, qv]) rfl ⟨Or.inl ⟨z, unhide HZ, unhide HS, rfl⟩, Below.setCell (p := ⟨w.heap.size + 1 + 1, 1, none⟩) (Below.setCell (p := ⟨w.heap.size + 1 + 1, 0, none⟩) (unhide HB) (Nat.le_add_right _ 2) _) (Nat.le_add_right _ 2) _⟩
  · have HZ := hide hz
    have HN := hide hne
    clear hz hne
    go_wp2_with fail
    exact bodyPost_ret (v := .tuple #[.agg #[.int .i64 0, .int .i64 0], .int .i64 c0]) (by simp [results, Tryz.results189, go_sem, hc1]) rfl ⟨Or.inr ⟨c0, unhide HZ, unhide HN, rfl⟩, Below.setCell (p := ⟨w.heap.size + 1 + 1, 1, none⟩) (Below.setCell (p := ⟨w.heap.size + 1 + 1, 0, none⟩) (unhide HB) (Nat.le_add_right _ 2) _) (Nat.le_add_right _ 2) _⟩
set_option maxRecDepth 100000 in
set_option maxHeartbeats 800000 in
theorem one_w {x : Rat} (hx : small x = true) (t b : Int) (n k : Int) (pa : Option Addr) (pn pc : Nat) (bo ov : Option Addr) (w : World) : Calls Tryz.prog 189 #[qv x, .agg #[.int .u8 119, .int .u8 n, .int .i64 k, .int .i64 t, .int .i64 b, .slice pa pn pc, .pointer bo, .pointer ov]] w fun e w' => QGot (rootE x) e ∧ Below w.heap.size w w' := by
  rw [qv]
  have HX := hide hx
  clear hx
  go_enter Tryz.func189, Tryz.ntmps189
  go_wp2_with fail
  refine (qRoot (unhide HX) _).mono ?_
  rintro e w1 ⟨hq, hb1⟩
  obtain ⟨hc1, hf1, hbw⟩ := res2 hb1
  have HB := hide hbw
  clear hb1 hbw
  rcases hq with ⟨z, hz, hs, rfl⟩ | ⟨c0, hz, hne, rfl⟩
  · have HZ := hide hz
    have HS := hide hs
    clear hz hs
    rw [qv]
    go_wp2_with fail
    exact bodyPost_ret (v := .tuple #[qv z, .int .i64 0]) (by simp [results, Tryz.results189, go_sem, hc1, qv]) rfl ⟨Or.inl ⟨z, unhide HZ, unhide HS, rfl⟩, Below.setCell (p := ⟨w.heap.size + 1 + 1, 1, none⟩) (Below.setCell (p := ⟨w.heap.size + 1 + 1, 0, none⟩) (unhide HB) (Nat.le_add_right _ 2) _) (Nat.le_add_right _ 2) _⟩
  · have HZ := hide hz
    have HN := hide hne
    clear hz hne
    go_wp2_with fail
    exact bodyPost_ret (v := .tuple #[.agg #[.int .i64 0, .int .i64 0], .int .i64 c0]) (by simp [results, Tryz.results189, go_sem, hc1]) rfl ⟨Or.inr ⟨c0, unhide HZ, unhide HN, rfl⟩, Below.setCell (p := ⟨w.heap.size + 1 + 1, 1, none⟩) (Below.setCell (p := ⟨w.heap.size + 1 + 1, 0, none⟩) (unhide HB) (Nat.le_add_right _ 2) _) (Nat.le_add_right _ 2) _⟩
set_option maxRecDepth 100000 in
set_option maxHeartbeats 800000 in
theorem one_u {x : Rat} (hx : small x = true) (t b : Int) (n k : Int) (pa : Option Addr) (pn pc : Nat) (bo ov : Option Addr) (w : World) : Calls Tryz.prog 189 #[qv x, .agg #[.int .u8 117, .int .u8 n, .int .i64 k, .int .i64 t, .int .i64 b, .slice pa pn pc, .pointer bo, .pointer ov]] w fun e w' => QGot (sqE x) e ∧ Below w.heap.size w w' := by
  rw [qv]
  have HX := hide hx
  clear hx
  go_enter Tryz.func189, Tryz.ntmps189
  go_wp2_with fail
  refine (squareOfRoot_any (unhide HX) _).mono ?_
  rintro e w1 ⟨hq, hb1⟩
  obtain ⟨hc1, hf1, hbw⟩ := res2 hb1
  have HB := hide hbw
  clear hb1 hbw
  rcases hq with ⟨z, hz, hs, rfl⟩ | ⟨c0, hz, hne, rfl⟩
  · have HZ := hide hz
    have HS := hide hs
    clear hz hs
    rw [qv]
    go_wp2_with fail
    exact bodyPost_ret (v := .tuple #[qv z, .int .i64 0]) (by simp [results, Tryz.results189, go_sem, hc1, qv]) rfl ⟨Or.inl ⟨z, unhide HZ, unhide HS, rfl⟩, Below.setCell (p := ⟨w.heap.size + 1 + 1, 1, none⟩) (Below.setCell (p := ⟨w.heap.size + 1 + 1, 0, none⟩) (unhide HB) (Nat.le_add_right _ 2) _) (Nat.le_add_right _ 2) _⟩
  · have HZ := hide hz
    have HN := hide hne
    clear hz hne
    go_wp2_with fail
    exact bodyPost_ret (v := .tuple #[.agg #[.int .i64 0, .int .i64 0], .int .i64 c0]) (by simp [results, Tryz.results189, go_sem, hc1]) rfl ⟨Or.inr ⟨c0, unhide HZ, unhide HN, rfl⟩, Below.setCell (p := ⟨w.heap.size + 1 + 1, 1, none⟩) (Below.setCell (p := ⟨w.heap.size + 1 + 1, 0, none⟩) (unhide HB) (Nat.le_add_right _ 2) _) (Nat.le_add_right _ 2) _⟩
set_option maxRecDepth 100000 in
set_option maxHeartbeats 800000 in
theorem one_plus {x : Rat} (hx : small x = true) {c : Rat} (hc : small c = true) (n k : Int) (pa : Option Addr) (pn pc : Nat) (bo ov : Option Addr) (w : World) : Calls Tryz.prog 189 #[qv x, .agg #[.int .u8 43, .int .u8 n, .int .i64 k, .int .i64 c.num, .int .i64 (c.den : Int), .slice pa pn pc, .pointer bo, .pointer ov]] w fun e w' => QGot (lim (x + c)) e ∧ Below w.heap.size w w' := by
  rw [qv]
  have HX := hide hx
  clear hx
  have HC := hide hc
  clear hc
  go_enter Tryz.func189, Tryz.ntmps189
  go_wp2_with fail
  refine (qPlus (unhide HX) (unhide HC) _).mono ?_
  rintro e w1 ⟨hq, hb1⟩
  obtain ⟨hc1, hf1, hbw⟩ := res2 hb1
  have HB := hide hbw
  clear hb1 hbw
  rcases hq with ⟨z, hz, hs, rfl⟩ | ⟨c0, hz, hne, rfl⟩
  · have HZ := hide hz
    have HS := hide hs
    clear hz hs
    rw [qv]
    go_wp2_with fail
    exact bodyPost_ret (v := .tuple #[qv z, .int .i64 0]) (by simp [results, Tryz.results189, go_sem, hc1, qv]) rfl ⟨Or.inl ⟨z, unhide HZ, unhide HS, rfl⟩, Below.setCell (p := ⟨w.heap.size + 1 + 1, 1, none⟩) (Below.setCell (p := ⟨w.heap.size + 1 + 1, 0, none⟩) (unhide HB) (Nat.le_add_right _ 2) _) (Nat.le_add_right _ 2) _⟩
  · have HZ := hide hz
    have HN := hide hne
    clear hz hne
    go_wp2_with fail
    exact bodyPost_ret (v := .tuple #[.agg #[.int .i64 0, .int .i64 0], .int .i64 c0]) (by simp [results, Tryz.results189, go_sem, hc1]) rfl ⟨Or.inr ⟨c0, unhide HZ, unhide HN, rfl⟩, Below.setCell (p := ⟨w.heap.size + 1 + 1, 1, none⟩) (Below.setCell (p := ⟨w.heap.size + 1 + 1, 0, none⟩) (unhide HB) (Nat.le_add_right _ 2) _) (Nat.le_add_right _ 2) _⟩
set_option maxRecDepth 100000 in
set_option maxHeartbeats 800000 in
theorem one_times {x : Rat} (hx : small x = true) {c : Rat} (hc : small c = true) (n k : Int) (pa : Option Addr) (pn pc : Nat) (bo ov : Option Addr) (w : World) : Calls Tryz.prog 189 #[qv x, .agg #[.int .u8 42, .int .u8 n, .int .i64 k, .int .i64 c.num, .int .i64 (c.den : Int), .slice pa pn pc, .pointer bo, .pointer ov]] w fun e w' => QGot (lim (x * c)) e ∧ Below w.heap.size w w' := by
  rw [qv]
  have HX := hide hx
  clear hx
  have HC := hide hc
  clear hc
  go_enter Tryz.func189, Tryz.ntmps189
  go_wp2_with fail
  refine (qTimes (unhide HX) (unhide HC) _).mono ?_
  rintro e w1 ⟨hq, hb1⟩
  obtain ⟨hc1, hf1, hbw⟩ := res2 hb1
  have HB := hide hbw
  clear hb1 hbw
  rcases hq with ⟨z, hz, hs, rfl⟩ | ⟨c0, hz, hne, rfl⟩
  · have HZ := hide hz
    have HS := hide hs
    clear hz hs
    rw [qv]
    go_wp2_with fail
    exact bodyPost_ret (v := .tuple #[qv z, .int .i64 0]) (by simp [results, Tryz.results189, go_sem, hc1, qv]) rfl ⟨Or.inl ⟨z, unhide HZ, unhide HS, rfl⟩, Below.setCell (p := ⟨w.heap.size + 1 + 1, 1, none⟩) (Below.setCell (p := ⟨w.heap.size + 1 + 1, 0, none⟩) (unhide HB) (Nat.le_add_right _ 2) _) (Nat.le_add_right _ 2) _⟩
  · have HZ := hide hz
    have HN := hide hne
    clear hz hne
    go_wp2_with fail
    exact bodyPost_ret (v := .tuple #[.agg #[.int .i64 0, .int .i64 0], .int .i64 c0]) (by simp [results, Tryz.results189, go_sem, hc1]) rfl ⟨Or.inr ⟨c0, unhide HZ, unhide HN, rfl⟩, Below.setCell (p := ⟨w.heap.size + 1 + 1, 1, none⟩) (Below.setCell (p := ⟨w.heap.size + 1 + 1, 0, none⟩) (unhide HB) (Nat.le_add_right _ 2) _) (Nat.le_add_right _ 2) _⟩
set_option maxRecDepth 100000 in
set_option maxHeartbeats 800000 in
theorem one_set {x : Rat} (hx : small x = true) {c : Rat} (hc : small c = true) (n k : Int) (pa : Option Addr) (pn pc : Nat) (bo ov : Option Addr) (w : World) : Calls Tryz.prog 189 #[qv x, .agg #[.int .u8 61, .int .u8 n, .int .i64 k, .int .i64 c.num, .int .i64 (c.den : Int), .slice pa pn pc, .pointer bo, .pointer ov]] w fun e w' => QGot (.ok c) e ∧ Below w.heap.size w w' := by
  rw [qv]
  have HX := hide hx
  clear hx
  have HC := hide hc
  clear hc
  go_enter Tryz.func189, Tryz.ntmps189
  go_wp2_with fail
  exact bodyPost_ret (v := .tuple #[qv c, .int .i64 0]) (by simp [results, Tryz.results189, go_sem, qv]) rfl ⟨Or.inl ⟨c, rfl, unhide HC, rfl⟩, by first | exact Below.setCell (p := ⟨w.heap.size + 1 + 1, 1, none⟩) (Below.setCell (p := ⟨w.heap.size + 1 + 1, 0, none⟩) ((((Below.refl _ _).alloc (Nat.le_refl _) _).alloc (by simp) _).alloc (by simp; omega) _) (Nat.le_add_right _ 2) _) (Nat.le_add_right _ 2) _ | exact (((Below.refl _ _).alloc (Nat.le_refl _) _).alloc (by simp) _).alloc (by simp; omega) _⟩
end Go.Proofs.YtikiaijgcjjloaaGreatDoor

import Derived.Test.YtknokhbilckmiaaGreatDoorPart19

/- The walks: what is known of a part. -/
namespace Go.Proofs.YtknokhbilckmiaaGreatDoor
open Go Go.RowKit M T Go.Lib

theorem beq_f {x y : Int} (h : x ≠ y) : (x == y) = false := by rw [beq_eq_false_iff_ne]; exact h
theorem below_box {w : World} (o : Obj) : Below w.heap.size w (w.alloc o) := (Below.refl _ _).alloc (Nat.le_refl _) o

set_option maxRecDepth 100000 in
set_option maxHeartbeats 400000 in
theorem isZero_any (t b : Int) (w : World) : Calls Tryz.prog 153 #[.agg #[.int .i64 t, .int .i64 b]] w fun e w' => e = .returned (.bool (decide (t = 0))) ∧ Below w.heap.size w w' := by
  by_cases h : t = 0
  · subst h
    go_enter Tryz.func153, Tryz.ntmps153
    go_wp2_with fail
    go_ret
    exact ⟨rfl, (by repeat (first | exact Below.refl _ _ | refine below_dr ?_ _ | refine Below.drew ?_ | refine Below.setCell ?_ (by simp) _ | refine Below.alloc ?_ (by simp) _))⟩
  · have hb := beq_f h
    go_enter Tryz.func153, Tryz.ntmps153
    go_wp2_with fail
    go_ret
    exact ⟨ret_bool (by simp [h]), (by repeat (first | exact Below.refl _ _ | refine below_dr ?_ _ | refine Below.drew ?_ | refine Below.setCell ?_ (by simp) _ | refine Below.alloc ?_ (by simp) _))⟩

set_option maxRecDepth 100000 in
set_option maxHeartbeats 800000 in
theorem hasBack_no {l : Int} (hl : l = 97 ∨ l = 61 ∨ l = 116 ∨ l = 100 ∨ l = 35) {n k t b : Int} {pa : Option Addr} {pn pc : Nat} {bo ov : Option Addr} (w : World) : Calls Tryz.prog 118 #[.agg #[.int .u8 l, .int .u8 n, .int .i64 k, .int .i64 t, .int .i64 b, .slice pa pn pc, .pointer bo, .pointer ov]] w fun e w' => e = .returned (.bool false) ∧ Below w.heap.size w w' := by
  rcases hl with rfl | rfl | rfl | rfl | rfl
  all_goals
    go_enter Tryz.func118, Tryz.ntmps118
    go_wp2_with fail
    go_ret
    exact ⟨rfl, (by repeat (first | exact Below.refl _ _ | refine below_dr ?_ _ | refine Below.drew ?_ | refine Below.setCell ?_ (by simp) _ | refine Below.alloc ?_ (by simp) _))⟩

set_option maxRecDepth 100000 in
set_option maxHeartbeats 800000 in
theorem hasBack_yes {l : Int} (h97 : l ≠ 97) (h61 : l ≠ 61) (h116 : l ≠ 116) (h100 : l ≠ 100) (h35 : l ≠ 35) (h42 : l ≠ 42) (h40 : l ≠ 40) (h91 : l ≠ 91) (h65 : l ≠ 65) {n k t b : Int} {pa : Option Addr} {pn pc : Nat} {bo ov : Option Addr} (w : World) : Calls Tryz.prog 118 #[.agg #[.int .u8 l, .int .u8 n, .int .i64 k, .int .i64 t, .int .i64 b, .slice pa pn pc, .pointer bo, .pointer ov]] w fun e w' => e = .returned (.bool true) ∧ Below w.heap.size w w' := by
  have e97 := beq_f h97
  have e61 := beq_f h61
  have e116 := beq_f h116
  have e100 := beq_f h100
  have e35 := beq_f h35
  have e42 := beq_f h42
  have e40 := beq_f h40
  have e91 := beq_f h91
  have e65 := beq_f h65
  clear h97 h61 h116 h100 h35 h42 h40 h91 h65
  go_enter Tryz.func118, Tryz.ntmps118
  go_wp2_with fail
  go_ret
  exact ⟨rfl, (by repeat (first | exact Below.refl _ _ | refine below_dr ?_ _ | refine Below.drew ?_ | refine Below.setCell ?_ (by simp) _ | refine Below.alloc ?_ (by simp) _))⟩

set_option maxRecDepth 100000 in
set_option maxHeartbeats 800000 in
theorem isPicker_yes {l : Int} (hl : l = 114 ∨ l = 60 ∨ l = 116 ∨ l = 100 ∨ l = 35) {n k t b : Int} {pa : Option Addr} {pn pc : Nat} {bo ov : Option Addr} (w : World) : Calls Tryz.prog 119 #[.agg #[.int .u8 l, .int .u8 n, .int .i64 k, .int .i64 t, .int .i64 b, .slice pa pn pc, .pointer bo, .pointer ov]] w fun e w' => e = .returned (.bool true) ∧ Below w.heap.size w w' := by
  rcases hl with rfl | rfl | rfl | rfl | rfl
  all_goals
    go_enter Tryz.func119, Tryz.ntmps119
    go_wp2_with fail
    go_ret
    exact ⟨rfl, (by repeat (first | exact Below.refl _ _ | refine below_dr ?_ _ | refine Below.drew ?_ | refine Below.setCell ?_ (by simp) _ | refine Below.alloc ?_ (by simp) _))⟩

set_option maxRecDepth 100000 in
set_option maxHeartbeats 800000 in
theorem isPicker_no {l : Int} (h114 : l ≠ 114) (h60 : l ≠ 60) (h116 : l ≠ 116) (h100 : l ≠ 100) (h35 : l ≠ 35) (h40 : l ≠ 40) (h65 : l ≠ 65) {n k t b : Int} {pa : Option Addr} {pn pc : Nat} {bo ov : Option Addr} (w : World) : Calls Tryz.prog 119 #[.agg #[.int .u8 l, .int .u8 n, .int .i64 k, .int .i64 t, .int .i64 b, .slice pa pn pc, .pointer bo, .pointer ov]] w fun e w' => e = .returned (.bool false) ∧ Below w.heap.size w w' := by
  have e114 := beq_f h114
  have e60 := beq_f h60
  have e116 := beq_f h116
  have e100 := beq_f h100
  have e35 := beq_f h35
  have e40 := beq_f h40
  have e65 := beq_f h65
  clear h114 h60 h116 h100 h35 h40 h65
  go_enter Tryz.func119, Tryz.ntmps119
  go_wp2_with fail
  go_ret
  exact ⟨rfl, (by repeat (first | exact Below.refl _ _ | refine below_dr ?_ _ | refine Below.drew ?_ | refine Below.setCell ?_ (by simp) _ | refine Below.alloc ?_ (by simp) _))⟩

set_option maxRecDepth 100000 in
set_option maxHeartbeats 800000 in
theorem isPlain_no {l : Int} (hl : l = 113 ∨ l = 112) {n k t b : Int} {pa : Option Addr} {pn pc : Nat} {bo ov : Option Addr} (w : World) : Calls Tryz.prog 120 #[.agg #[.int .u8 l, .int .u8 n, .int .i64 k, .int .i64 t, .int .i64 b, .slice pa pn pc, .pointer bo, .pointer ov]] w fun e w' => e = .returned (.bool false) ∧ Below w.heap.size w w' := by
  rcases hl with rfl | rfl
  all_goals
    go_enter Tryz.func120, Tryz.ntmps120
    go_wp2_with fail
    go_ret
    exact ⟨rfl, (by repeat (first | exact Below.refl _ _ | refine below_dr ?_ _ | refine Below.drew ?_ | refine Below.setCell ?_ (by simp) _ | refine Below.alloc ?_ (by simp) _))⟩

set_option maxRecDepth 100000 in
set_option maxHeartbeats 800000 in
theorem isPlain_yes {l : Int} (h113 : l ≠ 113) (h112 : l ≠ 112) (h91 : l ≠ 91) (h40 : l ≠ 40) (h65 : l ≠ 65) {n k t b : Int} {pa : Option Addr} {pn pc : Nat} {bo ov : Option Addr} (w : World) : Calls Tryz.prog 120 #[.agg #[.int .u8 l, .int .u8 n, .int .i64 k, .int .i64 t, .int .i64 b, .slice pa pn pc, .pointer bo, .pointer ov]] w fun e w' => e = .returned (.bool true) ∧ Below w.heap.size w w' := by
  have e113 := beq_f h113
  have e112 := beq_f h112
  have e91 := beq_f h91
  have e40 := beq_f h40
  have e65 := beq_f h65
  clear h113 h112 h91 h40 h65
  go_enter Tryz.func120, Tryz.ntmps120
  go_wp2_with fail
  go_ret
  exact ⟨rfl, (by repeat (first | exact Below.refl _ _ | refine below_dr ?_ _ | refine Below.drew ?_ | refine Below.setCell ?_ (by simp) _ | refine Below.alloc ?_ (by simp) _))⟩

set_option maxRecDepth 100000 in
set_option maxHeartbeats 800000 in
theorem hasBack_name {n k t b : Int} {pa : Option Addr} {pn pc : Nat} {ov : Option Addr} (w : World) (q : Nat) (f : Bool) (hq : q < w.heap.size) (hc : w.cell? ⟨q, 1, none⟩ = some (.bool f)) : Calls Tryz.prog 118 #[.agg #[.int .u8 65, .int .u8 n, .int .i64 k, .int .i64 t, .int .i64 b, .slice pa pn pc, .pointer (some ⟨q, 0, none⟩), .pointer ov]] w fun e w' => e = .returned (.bool f) ∧ Below w.heap.size w w' := by
  go_enter Tryz.func118, Tryz.ntmps118
  go_wp2_with fail
  go_ret
  exact ⟨rfl, (by repeat (first | exact Below.refl _ _ | refine below_dr ?_ _ | refine Below.drew ?_ | refine Below.setCell ?_ (by simp) _ | refine Below.alloc ?_ (by simp) _))⟩

set_option maxRecDepth 100000 in
set_option maxHeartbeats 800000 in
theorem isPicker_pow {n k t b : Int} {pa : Option Addr} {pn pc : Nat} {ov : Option Addr} (w : World) (q : Nat) (f : Bool) (hq : q < w.heap.size) (hc : w.cell? ⟨q, 2, none⟩ = some (.bool f)) : Calls Tryz.prog 119 #[.agg #[.int .u8 40, .int .u8 n, .int .i64 k, .int .i64 t, .int .i64 b, .slice pa pn pc, .pointer (some ⟨q, 0, none⟩), .pointer ov]] w fun e w' => e = .returned (.bool f) ∧ Below w.heap.size w w' := by
  go_enter Tryz.func119, Tryz.ntmps119
  go_wp2_with fail
  go_ret
  exact ⟨rfl, (by repeat (first | exact Below.refl _ _ | refine below_dr ?_ _ | refine Below.drew ?_ | refine Below.setCell ?_ (by simp) _ | refine Below.alloc ?_ (by simp) _))⟩

set_option maxRecDepth 100000 in
set_option maxHeartbeats 800000 in
theorem isPlain_pow {n k t b : Int} {pa : Option Addr} {pn pc : Nat} {ov : Option Addr} (w : World) (q : Nat) (f : Bool) (hq : q < w.heap.size) (hc : w.cell? ⟨q, 3, none⟩ = some (.bool f)) : Calls Tryz.prog 120 #[.agg #[.int .u8 40, .int .u8 n, .int .i64 k, .int .i64 t, .int .i64 b, .slice pa pn pc, .pointer (some ⟨q, 0, none⟩), .pointer ov]] w fun e w' => e = .returned (.bool f) ∧ Below w.heap.size w w' := by
  go_enter Tryz.func120, Tryz.ntmps120
  go_wp2_with fail
  go_ret
  exact ⟨rfl, (by repeat (first | exact Below.refl _ _ | refine below_dr ?_ _ | refine Below.drew ?_ | refine Below.setCell ?_ (by simp) _ | refine Below.alloc ?_ (by simp) _))⟩

set_option maxRecDepth 100000 in
set_option maxHeartbeats 800000 in
theorem isPicker_name {n k t b : Int} {pa : Option Addr} {pn pc : Nat} {ov : Option Addr} (w : World) (q : Nat) (f : Bool) (hq : q < w.heap.size) (hc : w.cell? ⟨q, 2, none⟩ = some (.bool f)) : Calls Tryz.prog 119 #[.agg #[.int .u8 65, .int .u8 n, .int .i64 k, .int .i64 t, .int .i64 b, .slice pa pn pc, .pointer (some ⟨q, 0, none⟩), .pointer ov]] w fun e w' => e = .returned (.bool f) ∧ Below w.heap.size w w' := by
  go_enter Tryz.func119, Tryz.ntmps119
  go_wp2_with fail
  go_ret
  exact ⟨rfl, (by repeat (first | exact Below.refl _ _ | refine below_dr ?_ _ | refine Below.drew ?_ | refine Below.setCell ?_ (by simp) _ | refine Below.alloc ?_ (by simp) _))⟩

set_option maxRecDepth 100000 in
set_option maxHeartbeats 800000 in
theorem isPlain_name {n k t b : Int} {pa : Option Addr} {pn pc : Nat} {ov : Option Addr} (w : World) (q : Nat) (f : Bool) (hq : q < w.heap.size) (hc : w.cell? ⟨q, 3, none⟩ = some (.bool f)) : Calls Tryz.prog 120 #[.agg #[.int .u8 65, .int .u8 n, .int .i64 k, .int .i64 t, .int .i64 b, .slice pa pn pc, .pointer (some ⟨q, 0, none⟩), .pointer ov]] w fun e w' => e = .returned (.bool f) ∧ Below w.heap.size w w' := by
  go_enter Tryz.func120, Tryz.ntmps120
  go_wp2_with fail
  go_ret
  exact ⟨rfl, (by repeat (first | exact Below.refl _ _ | refine below_dr ?_ _ | refine Below.drew ?_ | refine Below.setCell ?_ (by simp) _ | refine Below.alloc ?_ (by simp) _))⟩

set_option maxRecDepth 100000 in
set_option maxHeartbeats 800000 in
theorem isPlain_under {n k t b : Int} {pa : Option Addr} {pn pc : Nat} (w : World) (q q' : Nat) (f f' : Bool) (hq : q < w.heap.size) (hc : w.cell? ⟨q, 3, none⟩ = some (.bool f)) (hq' : q' < w.heap.size) (hc' : w.cell? ⟨q', 3, none⟩ = some (.bool f')) : Calls Tryz.prog 120 #[.agg #[.int .u8 91, .int .u8 n, .int .i64 k, .int .i64 t, .int .i64 b, .slice pa pn pc, .pointer (some ⟨q, 0, none⟩), .pointer (some ⟨q', 0, none⟩)]] w fun e w' => e = .returned (.bool (f' && f)) ∧ Below w.heap.size w w' := by
  cases f' <;> cases f
  all_goals
    go_enter Tryz.func120, Tryz.ntmps120
    go_wp2_with fail
    go_ret
    exact ⟨rfl, (by repeat (first | exact Below.refl _ _ | refine below_dr ?_ _ | refine Below.drew ?_ | refine Below.setCell ?_ (by simp) _ | refine Below.alloc ?_ (by simp) _))⟩

set_option maxRecDepth 100000 in
set_option maxHeartbeats 800000 in
theorem hasBack_times {n k t b : Int} {pa : Option Addr} {pn pc : Nat} {bo ov : Option Addr} (w : World) : Calls Tryz.prog 118 #[.agg #[.int .u8 42, .int .u8 n, .int .i64 k, .int .i64 t, .int .i64 b, .slice pa pn pc, .pointer bo, .pointer ov]] w fun e w' => e = .returned (.bool (!decide (t = 0))) ∧ Below w.heap.size w w' := by
  go_enter Tryz.func118, Tryz.ntmps118
  go_wp2_with fail
  refine (isZero_any t b _).mono ?_
  rintro e w1 ⟨rfl, hb1⟩
  go_wp2_with fail
  go_ret
  exact ⟨ret_bool (by first | rfl | simp), (below_box _).trans (hb1.mono (by simp))⟩

set_option maxRecDepth 100000 in
set_option maxHeartbeats 800000 in
theorem canStandOver_any (w : World) (q : Nat) (f1 f2 f3 : Bool) (h1 : w.cell? ⟨q, 1, none⟩ = some (.bool f1)) (h2 : w.cell? ⟨q, 2, none⟩ = some (.bool f2)) (h3 : w.cell? ⟨q, 3, none⟩ = some (.bool f3)) : Calls Tryz.prog 154 #[.pointer (some ⟨q, 0, none⟩)] w fun e w' => e = .returned (.bool (f2 || (f1 && f3))) ∧ Below w.heap.size w w' := by
  cases f1 <;> cases f2 <;> cases f3
  all_goals
    go_enter Tryz.func154, Tryz.ntmps154
    go_wp2_with fail
    go_ret
    exact ⟨rfl, (by repeat (first | exact Below.refl _ _ | refine below_dr ?_ _ | refine Below.drew ?_ | refine Below.setCell ?_ (by simp) _ | refine Below.alloc ?_ (by simp) _))⟩

set_option maxRecDepth 100000 in
set_option maxHeartbeats 1600000 in
theorem hasBack_pow {n k t b : Int} {pa : Option Addr} {pn pc : Nat} {ov : Option Addr} (w : World) (q : Nat) (f f' : Bool) (hq : q < w.heap.size) (hc : w.cell? ⟨q, 1, none⟩ = some (.bool f)) (hc' : w.cell? ⟨q, 3, none⟩ = some (.bool f')) : Calls Tryz.prog 118 #[.agg #[.int .u8 40, .int .u8 n, .int .i64 k, .int .i64 t, .int .i64 b, .slice pa pn pc, .pointer (some ⟨q, 0, none⟩), .pointer ov]] w fun e w' => e = .returned (.bool (k == 0 || (f && (decide (0 < k) || f')))) ∧ Below w.heap.size w w' := by
  by_cases hk : k = 0
  · subst hk
    go_enter Tryz.func118, Tryz.ntmps118
    go_wp2_with fail
    go_ret
    exact ⟨ret_bool (by first | rfl | simp), (by repeat (first | exact Below.refl _ _ | refine below_dr ?_ _ | refine Below.drew ?_ | refine Below.setCell ?_ (by simp) _ | refine Below.alloc ?_ (by simp) _))⟩
  · have hkb := beq_f hk
    by_cases hp : 0 < k
    · have hpd : decide (0 < k) = true := by simpa using hp
      rw [hkb, hpd]
      cases f
      all_goals
        go_enter Tryz.func118, Tryz.ntmps118
        go_wp2_with fail
        go_ret
        exact ⟨ret_bool (by first | rfl | simp), (by repeat (first | exact Below.refl _ _ | refine below_dr ?_ _ | refine Below.drew ?_ | refine Below.setCell ?_ (by simp) _ | refine Below.alloc ?_ (by simp) _))⟩
    · have hpd : decide (0 < k) = false := by simpa using hp
      rw [hkb, hpd]
      cases f <;> cases f'
      all_goals
        go_enter Tryz.func118, Tryz.ntmps118
        go_wp2_with fail
        go_ret
        exact ⟨ret_bool (by first | rfl | simp), (by repeat (first | exact Below.refl _ _ | refine below_dr ?_ _ | refine Below.drew ?_ | refine Below.setCell ?_ (by simp) _ | refine Below.alloc ?_ (by simp) _))⟩

set_option maxRecDepth 100000 in
set_option maxHeartbeats 1600000 in
theorem hasBack_under {n k t b : Int} {pa : Option Addr} {pn pc : Nat} (w : World) (q q' : Nat) (f f1 f2 f3 : Bool) (hq : q < w.heap.size) (hc : w.cell? ⟨q, 1, none⟩ = some (.bool f)) (hq' : q' < w.heap.size) (h1 : w.cell? ⟨q', 1, none⟩ = some (.bool f1)) (h2 : w.cell? ⟨q', 2, none⟩ = some (.bool f2)) (h3 : w.cell? ⟨q', 3, none⟩ = some (.bool f3)) : Calls Tryz.prog 118 #[.agg #[.int .u8 91, .int .u8 n, .int .i64 k, .int .i64 t, .int .i64 b, .slice pa pn pc, .pointer (some ⟨q, 0, none⟩), .pointer (some ⟨q', 0, none⟩)]] w fun e w' => e = .returned (.bool (f && (f2 || (f1 && f3)))) ∧ Below w.heap.size w w' := by
  cases f with
  | false =>
    go_enter Tryz.func118, Tryz.ntmps118
    go_wp2_with fail
    go_ret
    exact ⟨rfl, (by repeat (first | exact Below.refl _ _ | refine below_dr ?_ _ | refine Below.drew ?_ | refine Below.setCell ?_ (by simp) _ | refine Below.alloc ?_ (by simp) _))⟩
  | true =>
    have g1 : ∀ o, (w.alloc o).cell? ⟨q', 1, none⟩ = some (.bool f1) := fun o => ((below_box o).cell (p := ⟨q', 1, none⟩) hq').trans h1
    have g2 : ∀ o, (w.alloc o).cell? ⟨q', 2, none⟩ = some (.bool f2) := fun o => ((below_box o).cell (p := ⟨q', 2, none⟩) hq').trans h2
    have g3 : ∀ o, (w.alloc o).cell? ⟨q', 3, none⟩ = some (.bool f3) := fun o => ((below_box o).cell (p := ⟨q', 3, none⟩) hq').trans h3
    have G := hide (And.intro g1 (And.intro g2 g3))
    clear g1 g2 g3 h1 h2 h3
    go_enter Tryz.func118, Tryz.ntmps118
    go_wp2_with fail
    refine (canStandOver_any _ q' f1 f2 f3 ((unhide G).1 _) ((unhide G).2.1 _) ((unhide G).2.2 _)).mono ?_
    rintro e w1 ⟨rfl, hb1⟩
    go_wp2_with fail
    go_ret
    exact ⟨ret_bool (by first | rfl | simp), (below_box _).trans (hb1.mono (by simp))⟩
end Go.Proofs.YtknokhbilckmiaaGreatDoor

import Derived.Test.YtikiaijgcjjloaaGreatDoorPart8

namespace Go.Proofs.YtikiaijgcjjloaaGreatDoor
open Go Go.RowKit M T Go.Lib
def pc0 : PC := ⟨0, 0, 0, 0, 0, none, 0, 0, none, none⟩
def Got (env : Env) (Ok : Nat → Prop) (rb : Nat) (s : ByteArray) (nm : Nat → Option Nat) (u : Bool) (l : List UInt8) (e : Ending) (w' : World) : Prop :=
  ∃ x ok b u', e = .returned (.tuple #[PC.value x, .bool ok]) ∧ b ≤ s.size ∧ RS rb s nm b u' w' ∧ ((ok = true ∧ ∃ p, RdP env.full l (some (p, rest s b)) ∧ PtIs Ok w' x p ∧ u' = (u || p.unk env)) ∨ (ok = false ∧ x = pc0 ∧ RdP env.full l none))
theorem but_new {rb : Nat} {w w1 : World} {c : Array Value} {t : TypeId} (h : But rb (w.alloc (.cells c t)) w1) (hr : rb < w.heap.size) : (∀ i, w1.cell? ⟨w.heap.size, i, none⟩ = c[i]?) ∧ (∀ i, w1.frozen? ⟨w.heap.size, i, none⟩ = false) ∧ w1.heap[w.heap.size]? = some (.cells c t (0, 0)) := by
  have hb : w1.heap[w.heap.size]? = some (.cells c t (0, 0)) := by
    rw [h.block w.heap.size (by simp) (by omega)]
    exact heap_alloc_new w _
  exact ⟨fun i => blk_cell hb i, fun i => blk_free hb i, hb⟩
abbrev st8 (w : World) (n : Nat) (v0 v1 v2 v3 v4 v5 v6 v7 : Value) : World := (((((((w.setCell ⟨n, 0, none⟩ v0).setCell ⟨n, 1, none⟩ v1).setCell ⟨n, 2, none⟩ v2).setCell ⟨n, 3, none⟩ v3).setCell ⟨n, 4, none⟩ v4).setCell ⟨n, 5, none⟩ v5).setCell ⟨n, 6, none⟩ v6).setCell ⟨n, 7, none⟩ v7
theorem st8_heap (w : World) {n : Nat} (v0 v1 v2 v3 v4 v5 v6 v7 : Value) {k : Nat} (h : k ≠ n) : (st8 w n v0 v1 v2 v3 v4 v5 v6 v7).heap[k]? = w.heap[k]? := by
  unfold st8
  rw [Below.heap_setCell _ _ _ _ h, Below.heap_setCell _ _ _ _ h, Below.heap_setCell _ _ _ _ h, Below.heap_setCell _ _ _ _ h, Below.heap_setCell _ _ _ _ h, Below.heap_setCell _ _ _ _ h, Below.heap_setCell _ _ _ _ h, Below.heap_setCell _ _ _ _ h]
theorem st8_but {rb : Nat} {a w : World} (h : But rb a w) {n : Nat} (hn : a.heap.size ≤ n) (v0 v1 v2 v3 v4 v5 v6 v7 : Value) : But rb a (st8 w n v0 v1 v2 v3 v4 v5 v6 v7) :=
  (((((((h.setNew hn _).setNew hn _).setNew hn _).setNew hn _).setNew hn _).setNew hn _).setNew hn _).setNew hn _
theorem RS.st8 {rb : Nat} {s : ByteArray} {nm : Nat → Option Nat} {a : Nat} {u : Bool} {w : World} (h : RS rb s nm a u w) {n : Nat} (hn : rb ≠ n) (v0 v1 v2 v3 v4 v5 v6 v7 : Value) : RS rb s nm a u (st8 w n v0 v1 v2 v3 v4 v5 v6 v7) := ⟨by rw [st8_heap _ _ _ _ _ _ _ _ _ hn]; exact h.blk⟩
theorem But.unalloc {rb : Nat} {w w1 : World} {o : Obj} (h : But rb (w.alloc o) w1) : But rb w w1 := ((But.refl rb w).alloc o).trans h
def pcCnt (c : UInt8) (k : Int) : PC := ⟨c, 0, k, 0, 0, none, 0, 0, none, none⟩
theorem cnt_is {Ok : Nat → Prop} {w : World} {c : UInt8} (hc : c = 60 ∨ c = 116 ∨ c = 100) {k : Int} (h : cntLo c ≤ k) : PtIs Ok w (pcCnt c k) (.sp (cntSp c k)) := by
  rw [PtIs]
  rcases hc with rfl | rfl | rfl
  · exact ⟨rfl, rfl⟩
  · refine ⟨rfl, ?_⟩
    have : 0 ≤ k := h
    show k = ((k.toNat : Nat) : Int)
    omega
  · refine ⟨rfl, ?_⟩
    have : 0 ≤ k := h
    show k = ((k.toNat : Nat) : Int)
    omega
set_option maxRecDepth 100000 in
set_option maxHeartbeats 600000 in
theorem readCounted_any {rb : Nat} {s : ByteArray} {nm : Nat → Option Nat} {a : Nat} {u : Bool} {c : UInt8} (hc0 : c = 60 ∨ c = 116 ∨ c = 100) (env : Env) (Ok : Nat → Prop) (w : World) (h : RS rb s nm a u w) (ha : a ≤ s.size) (hs : s.size ≤ 120) :
    Calls Tryz.prog 117 #[.pointer (some ⟨rb, 0, none⟩), .int .u8 (c.toNat : Int), .int .i64 (cntLo c), .int .i64 (cntHi c)] w fun e w' => But rb w w' ∧ Got env Ok rb s nm u (c :: rest s a) e w' := by
  have hlo : -1000000000 ≤ cntLo c := by rcases hc0 with rfl | rfl | rfl <;> decide
  have hhi : cntHi c ≤ 1000000000 := by rcases hc0 with rfl | rfl | rfl <;> decide
  generalize hLo : cntLo c = lo at *
  generalize hHi : cntHi c = hi at *
  have HL := hide hLo
  have HH := hide hHi
  clear hLo hHi
  go_enter Tryz.func117, Tryz.ntmps117
  go_wp2_with fail
  refine (readWhole_any lo hi _ (h.alloc _) ha hs hlo hhi).mono ?_
  rintro e w1 ⟨hb1, b, hb, h1, ⟨k, hk, rfl⟩ | ⟨hk, rfl⟩⟩
  · have HK := hide hk
    have H1 := hide h1
    have HB := hide hb1
    obtain ⟨hc, hf, _⟩ := but_new hb1 h.lt
    have hlt := h.lt
    clear hk h1 hb1 h
    go_wp2_with fail
    refine bodyPost_ret (v := .tuple #[PC.value (pcCnt c k), .bool true]) (by simp [results, Tryz.results117, go_sem, hc, PC.value, PC.cells, pcCnt, ptr]) rfl ⟨st8_but (unhide HB).unalloc (Nat.le_refl _) _ _ _ _ _ _ _ _, pcCnt c k, true, b, u, rfl, hb, (unhide H1).st8 (by omega) _ _ _ _ _ _ _ _, Or.inl ⟨rfl, _, ?_, cnt_is hc0 ?_, by simp [Pt.unk]⟩⟩
    · have := rdP_cnt env.full hc0 (by rw [unhide HL, unhide HH]; exact unhide HK)
      exact this
    · rw [unhide HL]; exact ((unhide HK).sound k _ rfl).1
  · have HK := hide hk
    have H1 := hide h1
    have HB := hide hb1
    obtain ⟨hc, hf, _⟩ := but_new hb1 h.lt
    have hlt := h.lt
    clear hk h1 hb1 h
    go_wp2_with fail
    refine bodyPost_ret (v := .tuple #[PC.value pc0, .bool false]) (by simp [results, Tryz.results117, go_sem, hc, PC.value, PC.cells, pc0, ptr]) rfl ⟨st8_but (unhide HB).unalloc (Nat.le_refl _) _ _ _ _ _ _ _ _, pc0, false, b, u, rfl, hb, (unhide H1).st8 (by omega) _ _ _ _ _ _ _ _, Or.inr ⟨rfl, rfl, ?_⟩⟩
    have := rdP_cnt env.full hc0 (by rw [unhide HL, unhide HH]; exact unhide HK)
    exact this
theorem beq_f {x y : Int} (h : x ≠ y) : (x == y) = false := by rw [beq_eq_false_iff_ne]; exact h
theorem below_box {w : World} (o : Obj) : Below w.heap.size w (w.alloc o) := (Below.refl _ _).alloc (Nat.le_refl _) o
set_option maxRecDepth 100000 in
set_option maxHeartbeats 400000 in
theorem isZero_any (t b : Int) (w : World) : Calls Tryz.prog 160 #[.agg #[.int .i64 t, .int .i64 b]] w fun e w' => e = .returned (.bool (decide (t = 0))) ∧ Below w.heap.size w w' := by
  by_cases h : t = 0
  · subst h
    go_enter Tryz.func160, Tryz.ntmps160
    go_wp2_with fail
    go_ret
    exact ⟨rfl, (by repeat (first | exact Below.refl _ _ | refine below_dr ?_ _ | refine Below.drew ?_ | refine Below.setCell ?_ (by simp) _ | refine Below.alloc ?_ (by simp) _))⟩
  · have hb := beq_f h
    go_enter Tryz.func160, Tryz.ntmps160
    go_wp2_with fail
    go_ret
    exact ⟨ret_bool (by simp [h]), (by repeat (first | exact Below.refl _ _ | refine below_dr ?_ _ | refine Below.drew ?_ | refine Below.setCell ?_ (by simp) _ | refine Below.alloc ?_ (by simp) _))⟩
set_option maxRecDepth 100000 in
set_option maxHeartbeats 800000 in
theorem hasBack_no {l : Int} (hl : l = 97 ∨ l = 61 ∨ l = 116 ∨ l = 100 ∨ l = 35) {n k t b : Int} {pa : Option Addr} {pn pc : Nat} {bo ov : Option Addr} (w : World) : Calls Tryz.prog 122 #[.agg #[.int .u8 l, .int .u8 n, .int .i64 k, .int .i64 t, .int .i64 b, .slice pa pn pc, .pointer bo, .pointer ov]] w fun e w' => e = .returned (.bool false) ∧ Below w.heap.size w w' := by
  rcases hl with rfl | rfl | rfl | rfl | rfl
  all_goals
    go_enter Tryz.func122, Tryz.ntmps122
    go_wp2_with fail
    go_ret
    exact ⟨rfl, (by repeat (first | exact Below.refl _ _ | refine below_dr ?_ _ | refine Below.drew ?_ | refine Below.setCell ?_ (by simp) _ | refine Below.alloc ?_ (by simp) _))⟩
set_option maxRecDepth 100000 in
set_option maxHeartbeats 800000 in
theorem hasBack_yes {l : Int} (h97 : l ≠ 97) (h61 : l ≠ 61) (h116 : l ≠ 116) (h100 : l ≠ 100) (h35 : l ≠ 35) (h42 : l ≠ 42) (h40 : l ≠ 40) (h91 : l ≠ 91) (h65 : l ≠ 65) {n k t b : Int} {pa : Option Addr} {pn pc : Nat} {bo ov : Option Addr} (w : World) : Calls Tryz.prog 122 #[.agg #[.int .u8 l, .int .u8 n, .int .i64 k, .int .i64 t, .int .i64 b, .slice pa pn pc, .pointer bo, .pointer ov]] w fun e w' => e = .returned (.bool true) ∧ Below w.heap.size w w' := by
  have e97 := beq_f h97
  have e61 := beq_f h61
  have e116 := beq_f h116
  have e100 := beq_f h100
  have e35 := beq_f h35
  have e42 := beq_f h42
  have e40 := beq_f h40
  have e91 := beq_f h91
  have e65 := beq_f h65
  clear h97 h61 h116 h100 h35 h42 h40 h91 h65
  go_enter Tryz.func122, Tryz.ntmps122
  go_wp2_with fail
  go_ret
  exact ⟨rfl, (by repeat (first | exact Below.refl _ _ | refine below_dr ?_ _ | refine Below.drew ?_ | refine Below.setCell ?_ (by simp) _ | refine Below.alloc ?_ (by simp) _))⟩
set_option maxRecDepth 100000 in
set_option maxHeartbeats 800000 in
theorem isPicker_yes {l : Int} (hl : l = 114 ∨ l = 60 ∨ l = 116 ∨ l = 100 ∨ l = 35) {n k t b : Int} {pa : Option Addr} {pn pc : Nat} {bo ov : Option Addr} (w : World) : Calls Tryz.prog 123 #[.agg #[.int .u8 l, .int .u8 n, .int .i64 k, .int .i64 t, .int .i64 b, .slice pa pn pc, .pointer bo, .pointer ov]] w fun e w' => e = .returned (.bool true) ∧ Below w.heap.size w w' := by
  rcases hl with rfl | rfl | rfl | rfl | rfl
  all_goals
    go_enter Tryz.func123, Tryz.ntmps123
    go_wp2_with fail
    go_ret
    exact ⟨rfl, (by repeat (first | exact Below.refl _ _ | refine below_dr ?_ _ | refine Below.drew ?_ | refine Below.setCell ?_ (by simp) _ | refine Below.alloc ?_ (by simp) _))⟩
set_option maxRecDepth 100000 in
set_option maxHeartbeats 800000 in
theorem isPicker_no {l : Int} (h114 : l ≠ 114) (h60 : l ≠ 60) (h116 : l ≠ 116) (h100 : l ≠ 100) (h35 : l ≠ 35) (h40 : l ≠ 40) (h65 : l ≠ 65) {n k t b : Int} {pa : Option Addr} {pn pc : Nat} {bo ov : Option Addr} (w : World) : Calls Tryz.prog 123 #[.agg #[.int .u8 l, .int .u8 n, .int .i64 k, .int .i64 t, .int .i64 b, .slice pa pn pc, .pointer bo, .pointer ov]] w fun e w' => e = .returned (.bool false) ∧ Below w.heap.size w w' := by
  have e114 := beq_f h114
  have e60 := beq_f h60
  have e116 := beq_f h116
  have e100 := beq_f h100
  have e35 := beq_f h35
  have e40 := beq_f h40
  have e65 := beq_f h65
  clear h114 h60 h116 h100 h35 h40 h65
  go_enter Tryz.func123, Tryz.ntmps123
  go_wp2_with fail
  go_ret
  exact ⟨rfl, (by repeat (first | exact Below.refl _ _ | refine below_dr ?_ _ | refine Below.drew ?_ | refine Below.setCell ?_ (by simp) _ | refine Below.alloc ?_ (by simp) _))⟩
set_option maxRecDepth 100000 in
set_option maxHeartbeats 800000 in
theorem isPlain_no {l : Int} (hl : l = 113 ∨ l = 112) {n k t b : Int} {pa : Option Addr} {pn pc : Nat} {bo ov : Option Addr} (w : World) : Calls Tryz.prog 124 #[.agg #[.int .u8 l, .int .u8 n, .int .i64 k, .int .i64 t, .int .i64 b, .slice pa pn pc, .pointer bo, .pointer ov]] w fun e w' => e = .returned (.bool false) ∧ Below w.heap.size w w' := by
  rcases hl with rfl | rfl
  all_goals
    go_enter Tryz.func124, Tryz.ntmps124
    go_wp2_with fail
    go_ret
    exact ⟨rfl, (by repeat (first | exact Below.refl _ _ | refine below_dr ?_ _ | refine Below.drew ?_ | refine Below.setCell ?_ (by simp) _ | refine Below.alloc ?_ (by simp) _))⟩
set_option maxRecDepth 100000 in
set_option maxHeartbeats 800000 in
theorem isPlain_yes {l : Int} (h113 : l ≠ 113) (h112 : l ≠ 112) (h91 : l ≠ 91) (h40 : l ≠ 40) (h65 : l ≠ 65) {n k t b : Int} {pa : Option Addr} {pn pc : Nat} {bo ov : Option Addr} (w : World) : Calls Tryz.prog 124 #[.agg #[.int .u8 l, .int .u8 n, .int .i64 k, .int .i64 t, .int .i64 b, .slice pa pn pc, .pointer bo, .pointer ov]] w fun e w' => e = .returned (.bool true) ∧ Below w.heap.size w w' := by
  have e113 := beq_f h113
  have e112 := beq_f h112
  have e91 := beq_f h91
  have e40 := beq_f h40
  have e65 := beq_f h65
  clear h113 h112 h91 h40 h65
  go_enter Tryz.func124, Tryz.ntmps124
  go_wp2_with fail
  go_ret
  exact ⟨rfl, (by repeat (first | exact Below.refl _ _ | refine below_dr ?_ _ | refine Below.drew ?_ | refine Below.setCell ?_ (by simp) _ | refine Below.alloc ?_ (by simp) _))⟩
set_option maxRecDepth 100000 in
set_option maxHeartbeats 800000 in
theorem hasBack_name {n k t b : Int} {pa : Option Addr} {pn pc : Nat} {ov : Option Addr} (w : World) (q : Nat) (f : Bool) (hq : q < w.heap.size) (hc : w.cell? ⟨q, 1, none⟩ = some (.bool f)) : Calls Tryz.prog 122 #[.agg #[.int .u8 65, .int .u8 n, .int .i64 k, .int .i64 t, .int .i64 b, .slice pa pn pc, .pointer (some ⟨q, 0, none⟩), .pointer ov]] w fun e w' => e = .returned (.bool f) ∧ Below w.heap.size w w' := by
  go_enter Tryz.func122, Tryz.ntmps122
  go_wp2_with fail
  go_ret
  exact ⟨rfl, (by repeat (first | exact Below.refl _ _ | refine below_dr ?_ _ | refine Below.drew ?_ | refine Below.setCell ?_ (by simp) _ | refine Below.alloc ?_ (by simp) _))⟩
set_option maxRecDepth 100000 in
set_option maxHeartbeats 800000 in
theorem isPicker_pow {n k t b : Int} {pa : Option Addr} {pn pc : Nat} {ov : Option Addr} (w : World) (q : Nat) (f : Bool) (hq : q < w.heap.size) (hc : w.cell? ⟨q, 2, none⟩ = some (.bool f)) : Calls Tryz.prog 123 #[.agg #[.int .u8 40, .int .u8 n, .int .i64 k, .int .i64 t, .int .i64 b, .slice pa pn pc, .pointer (some ⟨q, 0, none⟩), .pointer ov]] w fun e w' => e = .returned (.bool f) ∧ Below w.heap.size w w' := by
  go_enter Tryz.func123, Tryz.ntmps123
  go_wp2_with fail
  go_ret
  exact ⟨rfl, (by repeat (first | exact Below.refl _ _ | refine below_dr ?_ _ | refine Below.drew ?_ | refine Below.setCell ?_ (by simp) _ | refine Below.alloc ?_ (by simp) _))⟩
set_option maxRecDepth 100000 in
set_option maxHeartbeats 800000 in
theorem isPlain_pow {n k t b : Int} {pa : Option Addr} {pn pc : Nat} {ov : Option Addr} (w : World) (q : Nat) (f : Bool) (hq : q < w.heap.size) (hc : w.cell? ⟨q, 3, none⟩ = some (.bool f)) : Calls Tryz.prog 124 #[.agg #[.int .u8 40, .int .u8 n, .int .i64 k, .int .i64 t, .int .i64 b, .slice pa pn pc, .pointer (some ⟨q, 0, none⟩), .pointer ov]] w fun e w' => e = .returned (.bool f) ∧ Below w.heap.size w w' := by
  go_enter Tryz.func124, Tryz.ntmps124
  go_wp2_with fail
  go_ret
  exact ⟨rfl, (by repeat (first | exact Below.refl _ _ | refine below_dr ?_ _ | refine Below.drew ?_ | refine Below.setCell ?_ (by simp) _ | refine Below.alloc ?_ (by simp) _))⟩
set_option maxRecDepth 100000 in
set_option maxHeartbeats 800000 in
theorem isPicker_name {n k t b : Int} {pa : Option Addr} {pn pc : Nat} {ov : Option Addr} (w : World) (q : Nat) (f : Bool) (hq : q < w.heap.size) (hc : w.cell? ⟨q, 2, none⟩ = some (.bool f)) : Calls Tryz.prog 123 #[.agg #[.int .u8 65, .int .u8 n, .int .i64 k, .int .i64 t, .int .i64 b, .slice pa pn pc, .pointer (some ⟨q, 0, none⟩), .pointer ov]] w fun e w' => e = .returned (.bool f) ∧ Below w.heap.size w w' := by
  go_enter Tryz.func123, Tryz.ntmps123
  go_wp2_with fail
  go_ret
  exact ⟨rfl, (by repeat (first | exact Below.refl _ _ | refine below_dr ?_ _ | refine Below.drew ?_ | refine Below.setCell ?_ (by simp) _ | refine Below.alloc ?_ (by simp) _))⟩
set_option maxRecDepth 100000 in
set_option maxHeartbeats 800000 in
theorem isPlain_name {n k t b : Int} {pa : Option Addr} {pn pc : Nat} {ov : Option Addr} (w : World) (q : Nat) (f : Bool) (hq : q < w.heap.size) (hc : w.cell? ⟨q, 3, none⟩ = some (.bool f)) : Calls Tryz.prog 124 #[.agg #[.int .u8 65, .int .u8 n, .int .i64 k, .int .i64 t, .int .i64 b, .slice pa pn pc, .pointer (some ⟨q, 0, none⟩), .pointer ov]] w fun e w' => e = .returned (.bool f) ∧ Below w.heap.size w w' := by
  go_enter Tryz.func124, Tryz.ntmps124
  go_wp2_with fail
  go_ret
  exact ⟨rfl, (by repeat (first | exact Below.refl _ _ | refine below_dr ?_ _ | refine Below.drew ?_ | refine Below.setCell ?_ (by simp) _ | refine Below.alloc ?_ (by simp) _))⟩
set_option maxRecDepth 100000 in
set_option maxHeartbeats 800000 in
theorem isPlain_under {n k t b : Int} {pa : Option Addr} {pn pc : Nat} (w : World) (q q' : Nat) (f f' : Bool) (hq : q < w.heap.size) (hc : w.cell? ⟨q, 3, none⟩ = some (.bool f)) (hq' : q' < w.heap.size) (hc' : w.cell? ⟨q', 3, none⟩ = some (.bool f')) : Calls Tryz.prog 124 #[.agg #[.int .u8 91, .int .u8 n, .int .i64 k, .int .i64 t, .int .i64 b, .slice pa pn pc, .pointer (some ⟨q, 0, none⟩), .pointer (some ⟨q', 0, none⟩)]] w fun e w' => e = .returned (.bool (f' && f)) ∧ Below w.heap.size w w' := by
  cases f' <;> cases f
  all_goals
    go_enter Tryz.func124, Tryz.ntmps124
    go_wp2_with fail
    go_ret
    exact ⟨rfl, (by repeat (first | exact Below.refl _ _ | refine below_dr ?_ _ | refine Below.drew ?_ | refine Below.setCell ?_ (by simp) _ | refine Below.alloc ?_ (by simp) _))⟩
set_option maxRecDepth 100000 in
set_option maxHeartbeats 800000 in
theorem hasBack_times {n k t b : Int} {pa : Option Addr} {pn pc : Nat} {bo ov : Option Addr} (w : World) : Calls Tryz.prog 122 #[.agg #[.int .u8 42, .int .u8 n, .int .i64 k, .int .i64 t, .int .i64 b, .slice pa pn pc, .pointer bo, .pointer ov]] w fun e w' => e = .returned (.bool (!decide (t = 0))) ∧ Below w.heap.size w w' := by
  go_enter Tryz.func122, Tryz.ntmps122
  go_wp2_with fail
  refine (isZero_any t b _).mono ?_
  rintro e w1 ⟨rfl, hb1⟩
  go_wp2_with fail
  go_ret
  exact ⟨ret_bool (by first | rfl | simp), (below_box _).trans (hb1.mono (by simp))⟩
set_option maxRecDepth 100000 in
set_option maxHeartbeats 800000 in
theorem CanStandOver_any (w : World) (q : Nat) (f1 f2 f3 : Bool) (h1 : w.cell? ⟨q, 1, none⟩ = some (.bool f1)) (h2 : w.cell? ⟨q, 2, none⟩ = some (.bool f2)) (h3 : w.cell? ⟨q, 3, none⟩ = some (.bool f3)) : Calls Tryz.prog 161 #[.pointer (some ⟨q, 0, none⟩)] w fun e w' => e = .returned (.bool (f2 || (f1 && f3))) ∧ Below w.heap.size w w' := by
  cases f1 <;> cases f2 <;> cases f3
  all_goals
    go_enter Tryz.func161, Tryz.ntmps161
    go_wp2_with fail
    go_ret
    exact ⟨rfl, (by repeat (first | exact Below.refl _ _ | refine below_dr ?_ _ | refine Below.drew ?_ | refine Below.setCell ?_ (by simp) _ | refine Below.alloc ?_ (by simp) _))⟩
set_option maxRecDepth 100000 in
set_option maxHeartbeats 1600000 in
theorem hasBack_pow {n k t b : Int} {pa : Option Addr} {pn pc : Nat} {ov : Option Addr} (w : World) (q : Nat) (f f' : Bool) (hq : q < w.heap.size) (hc : w.cell? ⟨q, 1, none⟩ = some (.bool f)) (hc' : w.cell? ⟨q, 3, none⟩ = some (.bool f')) : Calls Tryz.prog 122 #[.agg #[.int .u8 40, .int .u8 n, .int .i64 k, .int .i64 t, .int .i64 b, .slice pa pn pc, .pointer (some ⟨q, 0, none⟩), .pointer ov]] w fun e w' => e = .returned (.bool (k == 0 || (f && (decide (0 < k) || f')))) ∧ Below w.heap.size w w' := by
  by_cases hk : k = 0
  · subst hk
    go_enter Tryz.func122, Tryz.ntmps122
    go_wp2_with fail
    go_ret
    exact ⟨ret_bool (by first | rfl | simp), (by repeat (first | exact Below.refl _ _ | refine below_dr ?_ _ | refine Below.drew ?_ | refine Below.setCell ?_ (by simp) _ | refine Below.alloc ?_ (by simp) _))⟩
  · have hkb := beq_f hk
    by_cases hp : 0 < k
    · have hpd : decide (0 < k) = true := by simpa using hp
      rw [hkb, hpd]
      cases f
      all_goals
        go_enter Tryz.func122, Tryz.ntmps122
        go_wp2_with fail
        go_ret
        exact ⟨ret_bool (by first | rfl | simp), (by repeat (first | exact Below.refl _ _ | refine below_dr ?_ _ | refine Below.drew ?_ | refine Below.setCell ?_ (by simp) _ | refine Below.alloc ?_ (by simp) _))⟩
    · have hpd : decide (0 < k) = false := by simpa using hp
      rw [hkb, hpd]
      cases f <;> cases f'
      all_goals
        go_enter Tryz.func122, Tryz.ntmps122
        go_wp2_with fail
        go_ret
        exact ⟨ret_bool (by first | rfl | simp), (by repeat (first | exact Below.refl _ _ | refine below_dr ?_ _ | refine Below.drew ?_ | refine Below.setCell ?_ (by simp) _ | refine Below.alloc ?_ (by simp) _))⟩
set_option maxRecDepth 100000 in
set_option maxHeartbeats 1600000 in
theorem hasBack_under {n k t b : Int} {pa : Option Addr} {pn pc : Nat} (w : World) (q q' : Nat) (f f1 f2 f3 : Bool) (hq : q < w.heap.size) (hc : w.cell? ⟨q, 1, none⟩ = some (.bool f)) (hq' : q' < w.heap.size) (h1 : w.cell? ⟨q', 1, none⟩ = some (.bool f1)) (h2 : w.cell? ⟨q', 2, none⟩ = some (.bool f2)) (h3 : w.cell? ⟨q', 3, none⟩ = some (.bool f3)) : Calls Tryz.prog 122 #[.agg #[.int .u8 91, .int .u8 n, .int .i64 k, .int .i64 t, .int .i64 b, .slice pa pn pc, .pointer (some ⟨q, 0, none⟩), .pointer (some ⟨q', 0, none⟩)]] w fun e w' => e = .returned (.bool (f && (f2 || (f1 && f3)))) ∧ Below w.heap.size w w' := by
  cases f with
  | false =>
    go_enter Tryz.func122, Tryz.ntmps122
    go_wp2_with fail
    go_ret
    exact ⟨rfl, (by repeat (first | exact Below.refl _ _ | refine below_dr ?_ _ | refine Below.drew ?_ | refine Below.setCell ?_ (by simp) _ | refine Below.alloc ?_ (by simp) _))⟩
  | true =>
    have g1 : ∀ o, (w.alloc o).cell? ⟨q', 1, none⟩ = some (.bool f1) := fun o => ((below_box o).cell (p := ⟨q', 1, none⟩) hq').trans h1
    have g2 : ∀ o, (w.alloc o).cell? ⟨q', 2, none⟩ = some (.bool f2) := fun o => ((below_box o).cell (p := ⟨q', 2, none⟩) hq').trans h2
    have g3 : ∀ o, (w.alloc o).cell? ⟨q', 3, none⟩ = some (.bool f3) := fun o => ((below_box o).cell (p := ⟨q', 3, none⟩) hq').trans h3
    have G := hide (And.intro g1 (And.intro g2 g3))
    clear g1 g2 g3 h1 h2 h3
    go_enter Tryz.func122, Tryz.ntmps122
    go_wp2_with fail
    refine (CanStandOver_any _ q' f1 f2 f3 ((unhide G).1 _) ((unhide G).2.1 _) ((unhide G).2.2 _)).mono ?_
    rintro e w1 ⟨rfl, hb1⟩
    go_wp2_with fail
    go_ret
    exact ⟨ret_bool (by first | rfl | simp), (below_box _).trans (hb1.mono (by simp))⟩
end Go.Proofs.YtikiaijgcjjloaaGreatDoor

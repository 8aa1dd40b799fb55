import Derived.Test.YtknokhbilckmiaaGreatDoorPart34
import Derived.Test.YtknokhbilckmiaaGreatDoorPart35
import Derived.Deep.DeepCutAuto
import Derived.Deep.RegionHeld3

/- The walks: the document's opposites: simple parts. -/
namespace Go.Proofs.YtknokhbilckmiaaGreatDoor
open Go Go.RowKit M T Go.Lib

set_option maxRecDepth 100000 in
set_option maxHeartbeats 400000 in
theorem rLess_any (t b : Int) (w : World) (h1 : -1000000000 ≤ t) (h2 : t ≤ 1000000000) :
    Calls Tryz.prog 142 #[.agg #[.int .i64 t, .int .i64 b]] w fun e w' => e = .returned (.agg #[.int .i64 (-t), .int .i64 b]) ∧ Below w.heap.size w w' := by
  go_enter Tryz.func142, Tryz.ntmps142
  go_wp2_with fail
  exact bodyPost_ret (v := .agg #[.int .i64 (-t), .int .i64 b]) (by simp [results, Tryz.results142, go_sem]) rfl ⟨rfl, (by repeat (first | exact Below.refl _ _ | refine below_dr ?_ _ | refine Below.drew ?_ | refine Below.setCell ?_ (by simp) _ | refine Below.alloc ?_ (by simp) _))⟩
/-- Three blocks of Against. -/
structure TB3 (w : World) (c0 c2 : Array Value) (wx : World) : Prop where
  bel : Below w.heap.size w wx
  b0 : wx.heap[w.heap.size]? = some (.cells c0 128 (0, 0))
  b1 : wx.heap[w.heap.size + 1]? = some (.cells rz 128 (0, 0))
  b2 : wx.heap[w.heap.size + 2]? = some (.cells c2 128 (0, 0))

theorem tb3_new (w : World) (c0 c2 : Array Value) : TB3 w c0 c2 (((w.alloc (.cells c0 128)).alloc (.cells rz 128)).alloc (.cells c2 128)).drew := by
  refine ⟨Below.drew ((((Below.refl _ _).alloc (Nat.le_refl _) _).alloc (by simp) _).alloc (by simp; omega) _), ?_, ?_, ?_⟩
  · show (((w.alloc (.cells c0 128)).alloc (.cells rz 128)).alloc (.cells c2 128)).heap[w.heap.size]? = _
    rw [Below.heap_alloc _ _ _ (by simp; omega), Below.heap_alloc _ _ _ (by simp)]
    exact heap_alloc_new w _
  · show (((w.alloc (.cells c0 128)).alloc (.cells rz 128)).alloc (.cells c2 128)).heap[w.heap.size + 1]? = _
    rw [Below.heap_alloc _ _ _ (by simp)]
    exact new_at2 w _ _
  · have := heap_alloc_new ((w.alloc (.cells c0 128)).alloc (.cells rz 128)) (.cells c2 128)
    rw [World.size_alloc, World.size_alloc] at this
    exact this

set_option maxRecDepth 100000 in
set_option maxHeartbeats 1600000 in
theorem against_other (Kd : UInt8) (P Q K : Int) (pa : Option Addr) (pn pc : Nat) (F G : ByteArray) (w : World) (h43 : Kd ≠ 43) (h42 : Kd ≠ 42) :
    Calls Tryz.prog 136 #[RC.value ⟨Kd, P, Q, K, pa, pn, pc, F, G⟩] w fun e w' => ∃ (r : UInt8) (K' : Int), e = .returned (RC.value ⟨r, P, Q, K', none, 0, 0, ⟨#[]⟩, ⟨#[]⟩⟩) ∧ K' = IntKind.i64.wrap (-K) ∧ TurnIs tFrom tTo Kd r ∧ Below w.heap.size w w' := by
  rw [show RC.value ⟨Kd, P, Q, K, pa, pn, pc, F, G⟩ = .agg #[.int .u8 (Kd.toNat : Int), .int .i64 P, .int .i64 Q, .int .i64 K, .slice pa pn pc, .string F, .string G] from rfl]
  have q43 : ((Kd.toNat : Int) == 43) = false := u8_ne' (d := 43) h43
  have q42 : ((Kd.toNat : Int) == 42) = false := u8_ne' (d := 42) h42
  clear h43 h42
  go_enter Tryz.func136, Tryz.ntmps136
  go_upto_region 1 with fail
  go_cut [3] (fun v3 wx => ∃ (r : UInt8) (K' : Int), v3 = .pointer (some ⟨w.heap.size + 2, 0, none⟩) ∧ K' = IntKind.i64.wrap (-K) ∧ TurnIs tFrom tTo Kd r ∧ TB3 w #[.int .u8 (Kd.toNat : Int), .int .i64 P, .int .i64 Q, .int .i64 K, .slice pa pn pc, .string F, .string G] #[.int .u8 (r.toNat : Int), .int .i64 P, .int .i64 Q, .int .i64 K', .slice none 0 0, .string ⟨#[]⟩, .string ⟨#[]⟩] wx)
  case first =>
    go_region_held3 (fun w' => w'.cell? ⟨w.heap.size, 0, none⟩ = some (.int .u8 (Kd.toNat : Int)) ∧ w'.cell? ⟨w.heap.size, 1, none⟩ = some (.int .i64 P) ∧ w'.cell? ⟨w.heap.size, 2, none⟩ = some (.int .i64 Q) ∧ w'.cell? ⟨w.heap.size, 3, none⟩ = some (.int .i64 K)) (go_keep)
      (first | (go_at_call 169; refine (turned_any Kd _).mono ?_; rintro e w' ⟨r, rfl, hr, rfl⟩))
    all_goals go_wp2_with fail
    all_goals go_meet
    all_goals exact ⟨r, _, rfl, rfl, hr, tb3_new w _ _⟩
  case rest =>
    obtain ⟨r, K', rfl, hk, hr, h3⟩ := hcut
    have HK := hide hk
    clear hk
    have HR := hide hr
    have H3 := hide h3
    have c0 : ∀ i, wc.cell? ⟨w.heap.size, i, none⟩ = (#[.int .u8 (Kd.toNat : Int), .int .i64 P, .int .i64 Q, .int .i64 K, .slice pa pn pc, .string F, .string G] : Array Value)[i]? := fun i => blk_cell h3.b0 i
    have c1 : ∀ i, wc.cell? ⟨w.heap.size + 1, i, none⟩ = (#[.int .u8 0, .int .i64 0, .int .i64 0, .int .i64 0, .slice none 0 0, .string ⟨#[]⟩, .string ⟨#[]⟩] : Array Value)[i]? := fun i => blk_cell h3.b1 i
    have f1 : ∀ i, wc.frozen? ⟨w.heap.size + 1, i, none⟩ = false := fun i => blk_free h3.b1 i
    have c2 : ∀ i, wc.cell? ⟨w.heap.size + 2, i, none⟩ = (#[.int .u8 (r.toNat : Int), .int .i64 P, .int .i64 Q, .int .i64 K', .slice none 0 0, .string ⟨#[]⟩, .string ⟨#[]⟩] : Array Value)[i]? := fun i => blk_cell h3.b2 i
    clear hr h3
    go_wp2_with fail
    exact bodyPost_ret (v := RC.value ⟨r, P, Q, K', none, 0, 0, ⟨#[]⟩, ⟨#[]⟩⟩) (by simp [results, Tryz.results136, go_sem, c1, RC.value, RC.cells]) rfl ⟨r, K', rfl, unhide HK, unhide HR, st7_below (unhide H3).bel (Nat.le_succ _) _ _ _ _ _ _ _⟩
end Go.Proofs.YtknokhbilckmiaaGreatDoor

/- The walks: the document's opposites: sums. -/
namespace Go.Proofs.YtknokhbilckmiaaGreatDoor
open Go Go.RowKit M T Go.Lib

set_option maxRecDepth 100000 in
set_option maxHeartbeats 1600000 in
theorem against_plus (P Q K : Int) (pa : Option Addr) (pn pc : Nat) (F G : ByteArray) (w : World) (h1 : -1000000000 ≤ P) (h2 : P ≤ 1000000000) :
    Calls Tryz.prog 136 #[RC.value ⟨43, P, Q, K, pa, pn, pc, F, G⟩] w fun e w' => ∃ (r : UInt8) (K' : Int), e = .returned (RC.value ⟨r, -P, Q, K', none, 0, 0, ⟨#[]⟩, ⟨#[]⟩⟩) ∧ K' = IntKind.i64.wrap (-K) ∧ TurnIs tFrom tTo 43 r ∧ Below w.heap.size w w' := by
  rw [show RC.value ⟨43, P, Q, K, pa, pn, pc, F, G⟩ = .agg #[.int .u8 43, .int .i64 P, .int .i64 Q, .int .i64 K, .slice pa pn pc, .string F, .string G] from rfl]
  go_enter Tryz.func136, Tryz.ntmps136
  go_upto_region 1 with fail
  go_cut [3] (fun v3 wx => ∃ (r : UInt8) (K' : Int), v3 = .pointer (some ⟨w.heap.size + 2, 0, none⟩) ∧ K' = IntKind.i64.wrap (-K) ∧ TurnIs tFrom tTo 43 r ∧ TB3 w #[.int .u8 43, .int .i64 P, .int .i64 Q, .int .i64 K, .slice pa pn pc, .string F, .string G] #[.int .u8 (r.toNat : Int), .int .i64 P, .int .i64 Q, .int .i64 K', .slice none 0 0, .string ⟨#[]⟩, .string ⟨#[]⟩] wx)
  case first =>
    go_region_held3 (fun w' => w'.cell? ⟨w.heap.size, 0, none⟩ = some (.int .u8 43) ∧ w'.cell? ⟨w.heap.size, 1, none⟩ = some (.int .i64 P) ∧ w'.cell? ⟨w.heap.size, 2, none⟩ = some (.int .i64 Q) ∧ w'.cell? ⟨w.heap.size, 3, none⟩ = some (.int .i64 K)) (go_keep)
      (first | (go_at_call 169; refine (turned_any 43 _).mono ?_; rintro e w' ⟨r, rfl, hr, rfl⟩))
    all_goals go_wp2_with fail
    all_goals go_meet
    all_goals exact ⟨r, _, rfl, rfl, hr, tb3_new w _ _⟩
  case rest =>
    obtain ⟨r, K', rfl, hk, hr, h3⟩ := hcut
    have HK := hide hk
    clear hk
    have HR := hide hr
    have H3 := hide h3
    have c0 : ∀ i, wc.cell? ⟨w.heap.size, i, none⟩ = (#[.int .u8 43, .int .i64 P, .int .i64 Q, .int .i64 K, .slice pa pn pc, .string F, .string G] : Array Value)[i]? := fun i => blk_cell h3.b0 i
    have c1 : ∀ i, wc.cell? ⟨w.heap.size + 1, i, none⟩ = (#[.int .u8 0, .int .i64 0, .int .i64 0, .int .i64 0, .slice none 0 0, .string ⟨#[]⟩, .string ⟨#[]⟩] : Array Value)[i]? := fun i => blk_cell h3.b1 i
    have f1 : ∀ i, wc.frozen? ⟨w.heap.size + 1, i, none⟩ = false := fun i => blk_free h3.b1 i
    have c2 : ∀ i, wc.cell? ⟨w.heap.size + 2, i, none⟩ = (#[.int .u8 (r.toNat : Int), .int .i64 P, .int .i64 Q, .int .i64 K', .slice none 0 0, .string ⟨#[]⟩, .string ⟨#[]⟩] : Array Value)[i]? := fun i => blk_cell h3.b2 i
    have hb0 := h3.b0
    have hb1 := h3.b1
    have hb2 := h3.b2
    clear hr h3 c0 c1 c2 f1
    have c0 : wc.cell? ⟨w.heap.size, 0, none⟩ = some (.int .u8 43) := blk_cell hb0 0
    have c0p : wc.cell? ⟨w.heap.size, 1, none⟩ = some (.int .i64 P) := blk_cell hb0 1
    have c0q : wc.cell? ⟨w.heap.size, 2, none⟩ = some (.int .i64 Q) := blk_cell hb0 2
    go_wp2_with fail
    refine (rLess_any P Q _ h1 h2).mono ?_
    rintro e w1 ⟨rfl, hbl⟩
    have d0 : ∀ i, w1.cell? ⟨w.heap.size, i, none⟩ = (#[.int .u8 43, .int .i64 P, .int .i64 Q, .int .i64 K, .slice pa pn pc, .string F, .string G] : Array Value)[i]? := fun i => blk_cell (by rw [hbl.block _ (lt_of_block hb0)]; exact hb0) i
    have d1 : ∀ i, w1.cell? ⟨w.heap.size + 1, i, none⟩ = (#[.int .u8 0, .int .i64 0, .int .i64 0, .int .i64 0, .slice none 0 0, .string ⟨#[]⟩, .string ⟨#[]⟩] : Array Value)[i]? := fun i => blk_cell (by rw [hbl.block _ (lt_of_block hb1)]; exact hb1) i
    have e1 : ∀ i, w1.frozen? ⟨w.heap.size + 1, i, none⟩ = false := fun i => blk_free (by rw [hbl.block _ (lt_of_block hb1)]; exact hb1) i
    have d2 : ∀ i, w1.cell? ⟨w.heap.size + 2, i, none⟩ = (#[.int .u8 (r.toNat : Int), .int .i64 P, .int .i64 Q, .int .i64 K', .slice none 0 0, .string ⟨#[]⟩, .string ⟨#[]⟩] : Array Value)[i]? := fun i => blk_cell (by rw [hbl.block _ (lt_of_block hb2)]; exact hb2) i
    have e2 : ∀ i, w1.frozen? ⟨w.heap.size + 2, i, none⟩ = false := fun i => blk_free (by rw [hbl.block _ (lt_of_block hb2)]; exact hb2) i
    have HB := hide ((unhide H3).bel.trans (hbl.mono (unhide H3).bel.size))
    clear hb0 hb1 hb2 hbl c0 c0p c0q
    go_wp2_with fail
    exact bodyPost_ret (v := RC.value ⟨r, -P, Q, K', none, 0, 0, ⟨#[]⟩, ⟨#[]⟩⟩) (by simp [results, Tryz.results136, go_sem, d1, RC.value, RC.cells]) rfl ⟨r, K', rfl, unhide HK, unhide HR, st7_below (Below.setCell (p := ⟨w.heap.size + 2, 2, none⟩) (Below.setCell (p := ⟨w.heap.size + 2, 1, none⟩) (unhide HB) (Nat.le_add_right _ 2) _) (Nat.le_add_right _ 2) _) (Nat.le_succ _) _ _ _ _ _ _ _⟩
end Go.Proofs.YtknokhbilckmiaaGreatDoor

/- The walks: the document's opposites: products. -/
namespace Go.Proofs.YtknokhbilckmiaaGreatDoor
open Go Go.RowKit M T Go.Lib

/-- Blocks of Against behind its products. -/
structure TB4 (w : World) (c2 : Array Value) (k : Nat) (c3 : Array Value) (wx : World) : Prop where
  bel : Below w.heap.size w wx
  b1 : wx.heap[w.heap.size + 1]? = some (.cells rz 128 (0, 0))
  b2 : wx.heap[w.heap.size + 2]? = some (.cells c2 128 (0, 0))
  b3 : wx.heap[k]? = some (.cells c3 126 (0, 0))
  lt : w.heap.size + 2 < k
theorem TB4.of {w w0 w1 : World} {c0 c2 : Array Value} (h : TB3 w c0 c2 w0) (hb : Below w0.heap.size w0 w1) (c3 : Array Value) : TB4 w c2 w1.heap.size c3 (w1.alloc (.cells c3 126)) := by
  have l2 := lt_of_block h.b2
  have l1 := lt_of_block h.b1
  have l3 := hb.size
  refine ⟨(h.bel.trans (hb.mono h.bel.size)).alloc (Nat.le_trans h.bel.size hb.size) _, ?_, ?_, heap_alloc_new _ _, by omega⟩
  · rw [Below.heap_alloc _ _ _ (by omega), hb.block _ l1]; exact h.b1
  · rw [Below.heap_alloc _ _ _ (by omega), hb.block _ l2]; exact h.b2

set_option maxRecDepth 100000 in
set_option maxHeartbeats 1600000 in
theorem against_times (P Q K : Int) (pa : Option Addr) (pn pc : Nat) (F G : ByteArray) (w : World) (h1 : -1000000000 ≤ P) (h2 : P ≤ 1000000000) (h3 : 1 ≤ Q) (h4 : Q ≤ 1000000000) (h0 : P ≠ 0) :
    Calls Tryz.prog 136 #[RC.value ⟨42, P, Q, K, pa, pn, pc, F, G⟩] w fun e w' => ∃ (r : UInt8) (K' : Int), e = .returned (RC.value ⟨r, overP P Q, overQ P Q, K', none, 0, 0, ⟨#[]⟩, ⟨#[]⟩⟩) ∧ K' = IntKind.i64.wrap (-K) ∧ TurnIs tFrom tTo 42 r ∧ Below w.heap.size w w' := by
  rw [show RC.value ⟨42, P, Q, K, pa, pn, pc, F, G⟩ = .agg #[.int .u8 42, .int .i64 P, .int .i64 Q, .int .i64 K, .slice pa pn pc, .string F, .string G] from rfl]
  have H0 := hide h0
  clear h0
  go_enter Tryz.func136, Tryz.ntmps136
  go_upto_region 1 with fail
  go_cut [3] (fun v3 wx => ∃ (r : UInt8) (K' : Int), v3 = .pointer (some ⟨w.heap.size + 2, 0, none⟩) ∧ K' = IntKind.i64.wrap (-K) ∧ TurnIs tFrom tTo 42 r ∧ TB3 w #[.int .u8 42, .int .i64 P, .int .i64 Q, .int .i64 K, .slice pa pn pc, .string F, .string G] #[.int .u8 (r.toNat : Int), .int .i64 P, .int .i64 Q, .int .i64 K', .slice none 0 0, .string ⟨#[]⟩, .string ⟨#[]⟩] wx)
  case first =>
    go_region_held3 (fun w' => w'.cell? ⟨w.heap.size, 0, none⟩ = some (.int .u8 42) ∧ w'.cell? ⟨w.heap.size, 1, none⟩ = some (.int .i64 P) ∧ w'.cell? ⟨w.heap.size, 2, none⟩ = some (.int .i64 Q) ∧ w'.cell? ⟨w.heap.size, 3, none⟩ = some (.int .i64 K)) (go_keep)
      (first | (go_at_call 169; refine (turned_any 42 _).mono ?_; rintro e w' ⟨r, rfl, hr, rfl⟩))
    all_goals go_wp2_with fail
    all_goals go_meet
    all_goals exact ⟨r, _, rfl, rfl, hr, tb3_new w _ _⟩
  case rest =>
    obtain ⟨r, K', rfl, hk, hr, h3'⟩ := hcut
    have HK := hide hk
    clear hk
    have HR := hide hr
    have H3 := hide h3'
    have hb0 := h3'.b0
    clear hr h3'
    have c0 : wc.cell? ⟨w.heap.size, 0, none⟩ = some (.int .u8 42) := blk_cell hb0 0
    have c0p : wc.cell? ⟨w.heap.size, 1, none⟩ = some (.int .i64 P) := blk_cell hb0 1
    have c0q : wc.cell? ⟨w.heap.size, 2, none⟩ = some (.int .i64 Q) := blk_cell hb0 2
    clear hb0
    go_upto_region 5 with fail
    go_cut [4] (fun v4 wx => ∃ k, v4 = .pointer (some ⟨k, 0, none⟩) ∧ TB4 w #[.int .u8 (r.toNat : Int), .int .i64 P, .int .i64 Q, .int .i64 K', .slice none 0 0, .string ⟨#[]⟩, .string ⟨#[]⟩] k #[.int .i64 (overP P Q), .int .i64 (overQ P Q)] wx)
    case first =>
      go_wp2_with fail
      refine (rInv_any P Q _ h1 h2 h3 h4).mono ?_
      rintro e w1 ⟨⟨hz, _⟩ | ⟨_, rfl⟩, hbl⟩
      · exact absurd hz (unhide H0)
      have HT := hide (TB4.of (unhide H3) hbl #[.int .i64 (overP P Q), .int .i64 (overQ P Q)])
      clear hbl c0 c0p c0q
      go_wp2_with fail
      go_meet
      exact ⟨_, rfl, unhide HT⟩
    case rest =>
      obtain ⟨k, rfl, h4'⟩ := hcut
      have H4 := hide h4'
      have d1 : ∀ i, wc.cell? ⟨w.heap.size + 1, i, none⟩ = (#[.int .u8 0, .int .i64 0, .int .i64 0, .int .i64 0, .slice none 0 0, .string ⟨#[]⟩, .string ⟨#[]⟩] : Array Value)[i]? := fun i => blk_cell h4'.b1 i
      have e1 : ∀ i, wc.frozen? ⟨w.heap.size + 1, i, none⟩ = false := fun i => blk_free h4'.b1 i
      have d2 : ∀ i, wc.cell? ⟨w.heap.size + 2, i, none⟩ = (#[.int .u8 (r.toNat : Int), .int .i64 P, .int .i64 Q, .int .i64 K', .slice none 0 0, .string ⟨#[]⟩, .string ⟨#[]⟩] : Array Value)[i]? := fun i => blk_cell h4'.b2 i
      have e2 : ∀ i, wc.frozen? ⟨w.heap.size + 2, i, none⟩ = false := fun i => blk_free h4'.b2 i
      have d3 : ∀ i, wc.cell? ⟨k, i, none⟩ = (#[.int .i64 (overP P Q), .int .i64 (overQ P Q)] : Array Value)[i]? := fun i => blk_cell h4'.b3 i
      have HB := hide h4'.bel
      clear h4' H4 c0 c0p c0q H3
      go_wp2_with fail
      exact bodyPost_ret (v := RC.value ⟨r, overP P Q, overQ P Q, K', none, 0, 0, ⟨#[]⟩, ⟨#[]⟩⟩) (by simp [results, Tryz.results136, go_sem, d1, RC.value, RC.cells]) rfl ⟨r, K', rfl, unhide HK, unhide HR, st7_below (Below.setCell (p := ⟨w.heap.size + 2, 2, none⟩) (Below.setCell (p := ⟨w.heap.size + 2, 1, none⟩) (unhide HB) (Nat.le_add_right _ 2) _) (Nat.le_add_right _ 2) _) (Nat.le_succ _) _ _ _ _ _ _ _⟩
end Go.Proofs.YtknokhbilckmiaaGreatDoor

import Derived.Test.YtikiaijgcjjloaaGreatDoorPart36

namespace Go.Proofs.YtikiaijgcjjloaaGreatDoor
open Go Go.RowKit M T Go.Lib
theorem T.Sp.first_lowP (y : Sp) : y.first ≠ 40 ∧ y.first ≠ 91 ∧ (y.first.toNat < 65 ∨ 90 < y.first.toNat) := by cases y <;> simp [Sp.first]
theorem u8_neP {L d : UInt8} (h : L ≠ d) : ((L.toNat : Int) == (d.toNat : Int)) = false := by
  rw [beq_eq_false_iff_ne]
  intro e
  exact h (UInt8.toNat_inj.1 (by omega))
def PartAt (F : Nat) : Prop := ∀ (p : Pt) (b : Bool) (x : PC) (rb g cap : Nat) (l : List Rat) (w : World), p.wf → (b = true → p.back = true) → PtIs (fun k => k < w.heap.size) w x p → RunIs w rb g cap l F →
  Calls Tryz.prog 87 #[.pointer (some ⟨rb, 0, none⟩), PC.value x, .bool b] w fun e w' => RGot rb (p.run b l F) e w' ∧ But rb w w'
set_option maxRecDepth 100000 in
set_option maxHeartbeats 1600000 in
theorem part_sp {F : Nat} {y : Sp} {b : Bool} {x : PC} {rb g cap : Nat} {l : List Rat} {w : World} (hw : y.wf) (hbk : b = true → y.opp.isSome = true) (hx : SpIs (fun k => k < w.heap.size) w x y) (h : RunIs w rb g cap l F) :
    Calls Tryz.prog 87 #[.pointer (some ⟨rb, 0, none⟩), PC.value x, .bool b] w fun e w' => RGot rb ((Pt.sp y).run b l F) e w' ∧ But rb w w' := by
  obtain ⟨L, N, K, Tp, Bt, pa, pn, pc, Bo, Ov⟩ := x
  have hL : L = y.first := hx.1
  obtain ⟨f40, f91, fAZ⟩ := Sp.first_lowP y
  rw [← hL] at f40 f91 fAZ
  have q40 : ((L.toNat : Int) == 40) = false := u8_neP f40
  have q91 : ((L.toNat : Int) == 91) = false := u8_neP f91
  have q65 : ((L.toNat : Int) == 65) = false := by rw [beq_eq_false_iff_ne]; omega
  have hrl := lt_of_block h.blk
  have HW := hide hw
  have HBk := hide hbk
  have HX := hide (show PtIs (fun k => k < w.heap.size) w ⟨L, N, K, Tp, Bt, pa, pn, pc, Bo, Ov⟩ (.sp y) by rw [PtIs]; exact hx)
  have H := hide h
  obtain ⟨r, hr⟩ : ∃ r, r = (Pt.sp y).run b l F := ⟨_, rfl⟩
  rw [← hr]
  have HR := hide hr
  clear hw hbk hx h hr f40 f91 fAZ hL
  rw [show PC.value ⟨L, N, K, Tp, Bt, pa, pn, pc, Bo, Ov⟩ = .agg #[.int .u8 (L.toNat : Int), .int .u8 (N.toNat : Int), .int .i64 K, .int .i64 Tp, .int .i64 Bt, .slice pa pn pc, .pointer (Bo.map fun b => ⟨b, 0, none⟩), .pointer (Ov.map fun b => ⟨b, 0, none⟩)] from rfl]
  have hb0 := box_below w (.cells #[.int .u8 (L.toNat : Int), .int .u8 (N.toNat : Int), .int .i64 K, .int .i64 Tp, .int .i64 Bt, .slice pa pn pc, .pointer (Bo.map fun b => ⟨b, 0, none⟩), .pointer (Ov.map fun b => ⟨b, 0, none⟩)] 148)
  have HB0 := hide hb0
  have HRun0 := hide ((unhide H).below hb0)
  have HX0 := hide ((unhide HX).belowS hb0)
  have hbk0 : (w.alloc (.cells #[.int .u8 (L.toNat : Int), .int .u8 (N.toNat : Int), .int .i64 K, .int .i64 Tp, .int .i64 Bt, .slice pa pn pc, .pointer (Bo.map fun b => ⟨b, 0, none⟩), .pointer (Ov.map fun b => ⟨b, 0, none⟩)] 148)).heap[w.heap.size]? = some (.cells #[.int .u8 (L.toNat : Int), .int .u8 (N.toNat : Int), .int .i64 K, .int .i64 Tp, .int .i64 Bt, .slice pa pn pc, .pointer (Bo.map fun b => ⟨b, 0, none⟩), .pointer (Ov.map fun b => ⟨b, 0, none⟩)] 148 (0, 0)) := heap_alloc_new w _
  have HBk0 := hide hbk0
  clear hb0 hbk0
  go_enter Tryz.func87, Tryz.ntmps87
  go_wp2_with fail
  refine (step_any (unhide HRun0)).mono ?_
  rintro e w1 ⟨hs, hb1⟩
  have hbk1 : w1.heap[w.heap.size]? = some (.cells #[.int .u8 (L.toNat : Int), .int .u8 (N.toNat : Int), .int .i64 K, .int .i64 Tp, .int .i64 Bt, .slice pa pn pc, .pointer (Bo.map fun b => ⟨b, 0, none⟩), .pointer (Ov.map fun b => ⟨b, 0, none⟩)] 148 (0, 0)) := by rw [hb1.block w.heap.size (by simp) (by omega)]; exact unhide HBk0
  have HB1 := hide ((But.of_below (unhide HB0)).trans hb1)
  have HX1 := hide ((unhide HX0).run (unhide HRun0).blk hb1)
  clear hb1
  rcases hs with ⟨h0, rfl⟩ | ⟨f, hf, rfl, hrun⟩
  · have HE := hide (show r = .err 10 by rw [unhide HR, h0, Pt.run_sp]; rfl)
    clear h0 hbk1
    go_wp2_with fail
    go_ret
    exact ⟨Or.inr ⟨10, unhide HE, by decide, rfl⟩, unhide HB1⟩
  · have HE := hide (show r = lift (if b then y.workBack l else y.work l) f by rw [unhide HR, hf, Pt.run_sp]; rfl)
    have HRun := hide hrun
    have c0 : ∀ i, w1.cell? ⟨w.heap.size, i, none⟩ = (#[.int .u8 (L.toNat : Int), .int .u8 (N.toNat : Int), .int .i64 K, .int .i64 Tp, .int .i64 Bt, .slice pa pn pc, .pointer (Bo.map fun b => ⟨b, 0, none⟩), .pointer (Ov.map fun b => ⟨b, 0, none⟩)] : Array Value)[i]? := fun i => blk_cell hbk1 i
    clear hf hrun hbk1
    cases b with
    | false =>
      have HE' := hide (show r = lift (y.work l) f from unhide HE)
      go_wp2_with fail
      refine (simple_any (x := ⟨L, N, K, Tp, Bt, pa, pn, pc, Bo, Ov⟩) (unhide HW) (by have := unhide HX1; rw [PtIs] at this; exact this) (unhide HRun)).mono ?_
      rintro e w2 ⟨hg, hb2⟩
      have HG := hide hg
      have HB2 := hide ((unhide HB1).trans hb2)
      clear hb2
      rcases hg with ⟨l', f', g', cap', _, rfl, _⟩ | ⟨c, _, _, rfl⟩
      · go_wp2_with fail
        go_ret
        exact ⟨by rw [unhide HE']; exact unhide HG, unhide HB2⟩
      · go_wp2_with fail
        go_ret
        exact ⟨by rw [unhide HE']; exact unhide HG, unhide HB2⟩
    | true =>
      have HE' := hide (show r = lift (y.workBack l) f from unhide HE)
      obtain ⟨y2, hy2⟩ : ∃ y2, y.opp = some y2 := Option.isSome_iff_exists.1 (by first | exact unhide HBk rfl | exact unhide HBk trivial)
      have HY2 := hide hy2
      clear hy2
      go_wp2_with fail
      refine (opposite_any' (x := ⟨L, N, K, Tp, Bt, pa, pn, pc, Bo, Ov⟩) (unhide HW) (unhide HY2) (by have := unhide HX1; rw [PtIs] at this; exact this) (unhide HRun)).mono ?_
      rintro e w2 ⟨hg, hb2⟩
      have HG := hide hg
      have HB2 := hide ((unhide HB1).trans hb2)
      clear hb2
      rcases hg with ⟨l', f', g', cap', _, rfl, _⟩ | ⟨c, _, _, rfl⟩
      · go_wp2_with fail
        go_ret
        exact ⟨by rw [unhide HE']; exact unhide HG, unhide HB2⟩
      · go_wp2_with fail
        go_ret
        exact ⟨by rw [unhide HE']; exact unhide HG, unhide HB2⟩
set_option maxRecDepth 100000 in
set_option maxHeartbeats 1600000 in
theorem part_pow {F : Nat} {t : Tm} {ov : Option Addr} {b : Bool} {N : UInt8} {K Tp Bt : Int} {pa : Option Addr} {pn pc q : Nat} {rb g cap : Nat} {l : List Rat} {w : World} (hW : ∀ f, f < F → WayAt f) (hw : t.wf) (hk1 : -999 ≤ K) (hk2 : K ≤ 999) (ht : TmIs (fun k => k < w.heap.size) w q t) (h : RunIs w rb g cap l F) :
    Calls Tryz.prog 87 #[.pointer (some ⟨rb, 0, none⟩), .agg #[.int .u8 40, .int .u8 (N.toNat : Int), .int .i64 K, .int .i64 Tp, .int .i64 Bt, .slice pa pn pc, .pointer (some ⟨q, 0, none⟩), .pointer ov], .bool b] w fun e w' => RGot rb (stepped (powRes t (if b then -K else K)) l F) e w' ∧ But rb w w' := by
  have hrl := lt_of_block h.blk
  have HW' := hide hW
  have HW := hide hw
  have H := hide h
  obtain ⟨r, hr⟩ : ∃ r, r = stepped (powRes t (if b then -K else K)) l F := ⟨_, rfl⟩
  rw [← hr]
  have HR := hide hr
  have hb0 := box_below w (.cells #[.int .u8 40, .int .u8 (N.toNat : Int), .int .i64 K, .int .i64 Tp, .int .i64 Bt, .slice pa pn pc, .pointer (some ⟨q, 0, none⟩), .pointer ov] 148)
  have HB0 := hide hb0
  have HRun0 := hide (h.below hb0)
  have HX0 := hide (ht.belowS hb0)
  have hbk0 : (w.alloc (.cells #[.int .u8 40, .int .u8 (N.toNat : Int), .int .i64 K, .int .i64 Tp, .int .i64 Bt, .slice pa pn pc, .pointer (some ⟨q, 0, none⟩), .pointer ov] 148)).heap[w.heap.size]? = some (.cells #[.int .u8 40, .int .u8 (N.toNat : Int), .int .i64 K, .int .i64 Tp, .int .i64 Bt, .slice pa pn pc, .pointer (some ⟨q, 0, none⟩), .pointer ov] 148 (0, 0)) := heap_alloc_new w _
  have HBk0 := hide hbk0
  clear hW hw ht h hr hb0 hbk0
  go_enter Tryz.func87, Tryz.ntmps87
  go_wp2_with fail
  refine (step_any (unhide HRun0)).mono ?_
  rintro e w1 ⟨hs, hb1⟩
  have hbk1 : w1.heap[w.heap.size]? = some (.cells #[.int .u8 40, .int .u8 (N.toNat : Int), .int .i64 K, .int .i64 Tp, .int .i64 Bt, .slice pa pn pc, .pointer (some ⟨q, 0, none⟩), .pointer ov] 148 (0, 0)) := by rw [hb1.block w.heap.size (by simp) (by omega)]; exact unhide HBk0
  have HB1 := hide ((But.of_below (unhide HB0)).trans hb1)
  have HX1 := hide ((unhide HX0).run (unhide HRun0).blk hb1)
  clear hb1
  rcases hs with ⟨h0, rfl⟩ | ⟨f, hf, rfl, hrun⟩
  · have HE := hide (show r = .err 10 by rw [unhide HR, h0]; rfl)
    clear h0 hbk1
    go_wp2_with fail
    go_ret
    exact ⟨Or.inr ⟨10, unhide HE, by decide, rfl⟩, unhide HB1⟩
  · have HE := hide (show r = (powRes t (if b then -K else K)) l f by rw [unhide HR, hf]; rfl)
    have HRun := hide hrun
    have HF := hide hf
    have c0 : ∀ i, w1.cell? ⟨w.heap.size, i, none⟩ = (#[.int .u8 40, .int .u8 (N.toNat : Int), .int .i64 K, .int .i64 Tp, .int .i64 Bt, .slice pa pn pc, .pointer (some ⟨q, 0, none⟩), .pointer ov] : Array Value)[i]? := fun i => blk_cell hbk1 i
    clear hf hrun hbk1
    cases b with
    | false =>
      have HE' := hide (show r = powRes t K l f from unhide HE)
      go_wp2_with fail
      refine (power_any (t := t) (fun f' hf => unhide HW' f' (by have := unhide HF; omega)) (unhide HW) hk1 hk2 (unhide HX1) (unhide HRun)).mono ?_
      rintro e w2 ⟨hg, hb2⟩
      have HG := hide hg
      have HB2 := hide ((unhide HB1).trans hb2)
      clear hb2
      rcases hg with ⟨l', f', g', cap', _, rfl, _⟩ | ⟨c, _, _, rfl⟩
      · go_wp2_with fail
        go_ret
        exact ⟨by rw [unhide HE']; exact unhide HG, unhide HB2⟩
      · go_wp2_with fail
        go_ret
        exact ⟨by rw [unhide HE']; exact unhide HG, unhide HB2⟩
    | true =>
      have HE' := hide (show r = powRes t (-K) l f from unhide HE)
      have hneg : IntKind.i64.wrap (-K) = -K := by rw [IntKind.wrap_i64]; omega
      go_wp2_with fail
      refine (power_any (t := t) (k := -K) (fun f' hf => unhide HW' f' (by have := unhide HF; omega)) (unhide HW) (by omega) (by omega) (unhide HX1) (unhide HRun)).mono ?_
      rintro e w2 ⟨hg, hb2⟩
      have HG := hide hg
      have HB2 := hide ((unhide HB1).trans hb2)
      clear hb2
      rcases hg with ⟨l', f', g', cap', _, rfl, _⟩ | ⟨c, _, _, rfl⟩
      · go_wp2_with fail
        go_ret
        exact ⟨by rw [unhide HE']; exact unhide HG, unhide HB2⟩
      · go_wp2_with fail
        go_ret
        exact ⟨by rw [unhide HE']; exact unhide HG, unhide HB2⟩
set_option maxRecDepth 100000 in
set_option maxHeartbeats 1600000 in
theorem part_name {F : Nat} {t : Tm} {ov : Option Addr} {b : Bool} {N : UInt8} {K Tp Bt : Int} {pa : Option Addr} {pn pc q : Nat} {rb g cap : Nat} {l : List Rat} {w : World} (hW : ∀ f, f < F → WayAt f) (hw : t.wf) (hbk : b = true → t.back = true) (ht : TmIs (fun k => k < w.heap.size) w q t) (h : RunIs w rb g cap l F) :
    Calls Tryz.prog 87 #[.pointer (some ⟨rb, 0, none⟩), .agg #[.int .u8 65, .int .u8 (N.toNat : Int), .int .i64 K, .int .i64 Tp, .int .i64 Bt, .slice pa pn pc, .pointer (some ⟨q, 0, none⟩), .pointer ov], .bool b] w fun e w' => RGot rb (stepped (t.run b) l F) e w' ∧ But rb w w' := by
  have hrl := lt_of_block h.blk
  have HW' := hide hW
  have HW := hide hw
  have HBk := hide hbk
  have H := hide h
  obtain ⟨r, hr⟩ : ∃ r, r = stepped (t.run b) l F := ⟨_, rfl⟩
  rw [← hr]
  have HR := hide hr
  have hb0 := box_below w (.cells #[.int .u8 65, .int .u8 (N.toNat : Int), .int .i64 K, .int .i64 Tp, .int .i64 Bt, .slice pa pn pc, .pointer (some ⟨q, 0, none⟩), .pointer ov] 148)
  have HB0 := hide hb0
  have HRun0 := hide (h.below hb0)
  have HX0 := hide (ht.belowS hb0)
  have hbk0 : (w.alloc (.cells #[.int .u8 65, .int .u8 (N.toNat : Int), .int .i64 K, .int .i64 Tp, .int .i64 Bt, .slice pa pn pc, .pointer (some ⟨q, 0, none⟩), .pointer ov] 148)).heap[w.heap.size]? = some (.cells #[.int .u8 65, .int .u8 (N.toNat : Int), .int .i64 K, .int .i64 Tp, .int .i64 Bt, .slice pa pn pc, .pointer (some ⟨q, 0, none⟩), .pointer ov] 148 (0, 0)) := heap_alloc_new w _
  have HBk0 := hide hbk0
  clear hW hw hbk ht h hr hb0 hbk0
  go_enter Tryz.func87, Tryz.ntmps87
  go_wp2_with fail
  refine (step_any (unhide HRun0)).mono ?_
  rintro e w1 ⟨hs, hb1⟩
  have hbk1 : w1.heap[w.heap.size]? = some (.cells #[.int .u8 65, .int .u8 (N.toNat : Int), .int .i64 K, .int .i64 Tp, .int .i64 Bt, .slice pa pn pc, .pointer (some ⟨q, 0, none⟩), .pointer ov] 148 (0, 0)) := by rw [hb1.block w.heap.size (by simp) (by omega)]; exact unhide HBk0
  have HB1 := hide ((But.of_below (unhide HB0)).trans hb1)
  have HX1 := hide ((unhide HX0).run (unhide HRun0).blk hb1)
  clear hb1
  rcases hs with ⟨h0, rfl⟩ | ⟨f, hf, rfl, hrun⟩
  · have HE := hide (show r = .err 10 by rw [unhide HR, h0]; rfl)
    clear h0 hbk1
    go_wp2_with fail
    go_ret
    exact ⟨Or.inr ⟨10, unhide HE, by decide, rfl⟩, unhide HB1⟩
  · have HE := hide (show r = (t.run b) l f by rw [unhide HR, hf]; rfl)
    have HRun := hide hrun
    have HF := hide hf
    have c0 : ∀ i, w1.cell? ⟨w.heap.size, i, none⟩ = (#[.int .u8 65, .int .u8 (N.toNat : Int), .int .i64 K, .int .i64 Tp, .int .i64 Bt, .slice pa pn pc, .pointer (some ⟨q, 0, none⟩), .pointer ov] : Array Value)[i]? := fun i => blk_cell hbk1 i
    clear hf hrun hbk1
    go_wp2_with fail
    refine (unhide HW' f (by have := unhide HF; omega) t b q rb g cap l _ (unhide HW) (unhide HBk) (unhide HX1) (unhide HRun)).mono ?_
    rintro e w2 ⟨hg, hb2⟩
    have HG := hide hg
    have HB2 := hide ((unhide HB1).trans hb2)
    clear hb2
    rcases hg with ⟨l', f', g', cap', _, rfl, _⟩ | ⟨c, _, _, rfl⟩
    · go_wp2_with fail
      go_ret
      exact ⟨by rw [unhide HE]; exact unhide HG, unhide HB2⟩
    · go_wp2_with fail
      go_ret
      exact ⟨by rw [unhide HE]; exact unhide HG, unhide HB2⟩
set_option maxRecDepth 100000 in
set_option maxHeartbeats 1600000 in
theorem part_under {F : Nat} {s t : Tm} {sb : Nat} {b : Bool} {N : UInt8} {K Tp Bt : Int} {pa : Option Addr} {pn pc q : Nat} {rb g cap : Nat} {l : List Rat} {w : World} (hT : ∀ f, f < F → ThereAt f) (hB : ∀ f, f < F → BackAt f) (hW : ∀ f, f < F → WayAt f) (hws : s.wf) (hw : t.wf) (hbk : b = true → t.back = true) (hts : TmIs (fun k => k < w.heap.size) w sb s) (ht : TmIs (fun k => k < w.heap.size) w q t) (h : RunIs w rb g cap l F) :
    Calls Tryz.prog 87 #[.pointer (some ⟨rb, 0, none⟩), .agg #[.int .u8 91, .int .u8 (N.toNat : Int), .int .i64 K, .int .i64 Tp, .int .i64 Bt, .slice pa pn pc, .pointer (some ⟨q, 0, none⟩), .pointer (some ⟨sb, 0, none⟩)], .bool b] w fun e w' => RGot rb (stepped (underRes s t b) l F) e w' ∧ But rb w w' := by
  have hrl := lt_of_block h.blk
  have HT' := hide hT
  have HB' := hide hB
  have HW' := hide hW
  have HWs := hide hws
  have HW := hide hw
  have HBk := hide hbk
  have H := hide h
  obtain ⟨r, hr⟩ : ∃ r, r = stepped (underRes s t b) l F := ⟨_, rfl⟩
  rw [← hr]
  have HR := hide hr
  have hb0 := box_below w (.cells #[.int .u8 91, .int .u8 (N.toNat : Int), .int .i64 K, .int .i64 Tp, .int .i64 Bt, .slice pa pn pc, .pointer (some ⟨q, 0, none⟩), .pointer (some ⟨sb, 0, none⟩)] 148)
  have HB0 := hide hb0
  have HRun0 := hide (h.below hb0)
  have HX0 := hide (ht.belowS hb0)
  have HS0 := hide (hts.belowS hb0)
  have hbk0 : (w.alloc (.cells #[.int .u8 91, .int .u8 (N.toNat : Int), .int .i64 K, .int .i64 Tp, .int .i64 Bt, .slice pa pn pc, .pointer (some ⟨q, 0, none⟩), .pointer (some ⟨sb, 0, none⟩)] 148)).heap[w.heap.size]? = some (.cells #[.int .u8 91, .int .u8 (N.toNat : Int), .int .i64 K, .int .i64 Tp, .int .i64 Bt, .slice pa pn pc, .pointer (some ⟨q, 0, none⟩), .pointer (some ⟨sb, 0, none⟩)] 148 (0, 0)) := heap_alloc_new w _
  have HBk0 := hide hbk0
  clear hT hB hW hws hw hbk hts ht h hr hb0 hbk0
  go_enter Tryz.func87, Tryz.ntmps87
  go_wp2_with fail
  refine (step_any (unhide HRun0)).mono ?_
  rintro e w1 ⟨hs, hb1⟩
  have hbk1 : w1.heap[w.heap.size]? = some (.cells #[.int .u8 91, .int .u8 (N.toNat : Int), .int .i64 K, .int .i64 Tp, .int .i64 Bt, .slice pa pn pc, .pointer (some ⟨q, 0, none⟩), .pointer (some ⟨sb, 0, none⟩)] 148 (0, 0)) := by rw [hb1.block w.heap.size (by simp) (by omega)]; exact unhide HBk0
  have HB1 := hide ((But.of_below (unhide HB0)).trans hb1)
  have HX1 := hide ((unhide HX0).run (unhide HRun0).blk hb1)
  have HS1 := hide ((unhide HS0).run (unhide HRun0).blk hb1)
  clear hb1
  rcases hs with ⟨h0, rfl⟩ | ⟨f, hf, rfl, hrun⟩
  · have HE := hide (show r = .err 10 by rw [unhide HR, h0]; rfl)
    clear h0 hbk1
    go_wp2_with fail
    go_ret
    exact ⟨Or.inr ⟨10, unhide HE, by decide, rfl⟩, unhide HB1⟩
  · have HE := hide (show r = (underRes s t b) l f by rw [unhide HR, hf]; rfl)
    have HRun := hide hrun
    have HF := hide hf
    have c0 : ∀ i, w1.cell? ⟨w.heap.size, i, none⟩ = (#[.int .u8 91, .int .u8 (N.toNat : Int), .int .i64 K, .int .i64 Tp, .int .i64 Bt, .slice pa pn pc, .pointer (some ⟨q, 0, none⟩), .pointer (some ⟨sb, 0, none⟩)] : Array Value)[i]? := fun i => blk_cell hbk1 i
    clear hf hrun hbk1
    go_wp2_with fail
    refine (under_any (s := s) (q := t) (fun f' hf => unhide HT' f' (by have := unhide HF; omega)) (fun f' hf => unhide HB' f' (by have := unhide HF; omega)) (fun f' hf => unhide HW' f' (by have := unhide HF; omega)) (unhide HWs) (unhide HW) (unhide HBk) (unhide HS1) (unhide HX1) (unhide HRun)).mono ?_
    rintro e w2 ⟨hg, hb2⟩
    have HG := hide hg
    have HB2 := hide ((unhide HB1).trans hb2)
    clear hb2
    rcases hg with ⟨l', f', g', cap', _, rfl, _⟩ | ⟨c, _, _, rfl⟩
    · go_wp2_with fail
      go_ret
      exact ⟨by rw [unhide HE]; exact unhide HG, unhide HB2⟩
    · go_wp2_with fail
      go_ret
      exact ⟨by rw [unhide HE]; exact unhide HG, unhide HB2⟩
theorem runPart_of {F : Nat} (hT : ∀ f, f < F → ThereAt f) (hB : ∀ f, f < F → BackAt f) : PartAt F := by
  have hW : ∀ f, f < F → WayAt f := fun f hf => way_of (hT f hf) (hB f hf)
  intro p b x rb g cap l w hw hbk hx h
  cases p with
  | sp y =>
    rw [Pt.wf] at hw
    rw [Pt.back] at hbk
    rw [PtIs] at hx
    exact part_sp hw hbk hx h
  | pow t k =>
    obtain ⟨L, N, K, Tp, Bt, pa, pn, pc, Bo, Ov⟩ := x
    obtain ⟨h1, h2, q, h3, ht⟩ := PtIs.pow_iff.1 hx
    obtain rfl : L = 40 := h1
    obtain rfl : K = k := h2
    obtain rfl : Bo = some q := h3
    rw [Pt.wf] at hw
    have e : (Pt.pow t K).run b l F = stepped (powRes t (if b then -K else K)) l F := by
      rw [Pt.run_pow]
      cases b
      · rfl
      · show stepped (fun l f => if -K < 0 ∧ t.back = false then .err 12 else iter (fun l f => t.run (decide (-K < 0)) l f) K.natAbs l f) l F = stepped (fun l f => if -K < 0 ∧ t.back = false then .err 12 else iter (fun l f => t.run (decide (-K < 0)) l f) (-K).natAbs l f) l F
        rw [Int.natAbs_neg]
    rw [e]
    exact part_pow hW hw.1 hw.2.1 hw.2.2 ht h
  | under s t =>
    obtain ⟨L, N, K, Tp, Bt, pa, pn, pc, Bo, Ov⟩ := x
    obtain ⟨h1, ⟨q, h3, ht⟩, sb, h4, hts⟩ := PtIs.under_iff.1 hx
    obtain rfl : L = 91 := h1
    obtain rfl : Bo = some q := h3
    obtain rfl : Ov = some sb := h4
    rw [Pt.wf] at hw
    rw [run_under]
    exact part_under hT hB hW hw.1 hw.2 (fun e => by have := hbk e; rw [Pt.back, Bool.and_eq_true] at this; exact this.1) hts ht h
  | name c t =>
    obtain ⟨L, N, K, Tp, Bt, pa, pn, pc, Bo, Ov⟩ := x
    obtain ⟨h1, _, q, h3, ht⟩ := PtIs.name_iff.1 hx
    obtain rfl : L = 65 := h1
    obtain rfl : Bo = some q := h3
    rw [Pt.wf] at hw
    rw [Pt.back] at hbk
    rw [show (Pt.name c t).run b l F = stepped (t.run b) l F from by rw [Pt.run_name]]
    exact part_name hW hw.2.2 hbk ht h
theorem prow_slice {w : World} {sl : Value} {xs : List PC} (h : w.ownsRow 0 148 8 sl xs.length (rowCells xs)) : ∃ ao cap, sl = .slice ao xs.length cap ∧ xs.length ≤ 9223372036854775807 ∧ (0 < xs.length → ∃ g c, ao = some ⟨g, 0, none⟩ ∧ w.heap[g]? = some (.cells c 148 (0, 0)) ∧ ∀ j (hj : j < xs.length) i, i < 8 → w.cell? ⟨g, j * 8 + i, none⟩ = (xs[j].cells)[i]?) := by
  have hown := h
  rcases h.2 with ⟨h1, h2⟩ | ⟨g, cap, cur, hv, _, hh, hc1, hc2, _⟩
  · exact ⟨none, 0, by rw [h1, h2], by omega, fun hp => by omega⟩
  · refine ⟨some ⟨g, 0, none⟩, cap, hv, by unfold maxLen at hc2; omega, fun _ => ⟨g, cur, rfl, hh, fun j hj i hi => ?_⟩⟩
    rw [hv] at hown
    exact row_cell hown hj i hi
theorem of_drop (ps : List Pt) (i : Nat) (hi : i < ps.length) (l : List Rat) (f : Nat) : (Tm.of (ps.drop i)).run false l f = Res.then (ps[i].run false l f) (fun l f => (Tm.of (ps.drop (i + 1))).run false l f) := by
  rw [List.drop_eq_getElem_cons hi, Tm.of, Tm.run_fwd]
theorem of_back_snoc : ∀ (ps : List Pt) (p : Pt) (l : List Rat) (f : Nat), (Tm.of (ps ++ [p])).run true l f = Res.then (p.run true l f) (fun l f => (Tm.of ps).run true l f)
  | [], p, l, f => by
    show (Tm.cons p .nil).run true l f = Res.then (p.run true l f) (fun l f => Tm.nil.run true l f)
    rw [Tm.run_bwd, Tm.run_nil]
    simp only [Tm.run_nil]
    show p.run true l f = Res.then (p.run true l f) (fun l f => .ok l f)
    cases p.run true l f <;> rfl
  | q :: ps, p, l, f => by
    rw [List.cons_append, Tm.of, Tm.run_bwd, of_back_snoc ps p l f]
    cases p.run true l f with
    | err e => rfl
    | ok l' f' =>
      show Res.then ((Tm.of ps).run true l' f') _ = (Tm.of (q :: ps)).run true l' f'
      rw [Tm.of, Tm.run_bwd]
theorem wf_memP : ∀ (ps : List Pt) (p : Pt), p ∈ ps → (Tm.of ps).wf → p.wf
  | q :: ps, p, h, hw => by
    rw [Tm.of, Tm.wf] at hw
    rcases List.mem_cons.1 h with rfl | h
    · exact hw.1
    · exact wf_memP ps p h hw.2
theorem bk_memP : ∀ (ps : List Pt) (p : Pt), p ∈ ps → (Tm.of ps).back = true → p.back = true
  | q :: ps, p, h, hw => by
    rw [Tm.of, Tm.back, Bool.and_eq_true] at hw
    rcases List.mem_cons.1 h with rfl | h
    · exact hw.1
    · exact bk_memP ps p h hw.2
theorem part_ne_run {w : World} {k rb : Nat} {c c' : Array Value} {ty : TypeId} (hr : w.heap[rb]? = some (.cells c 106 (0, 0))) (hk : w.heap[k]? = some (.cells c' ty (0, 0))) (ht : ty ≠ 106) : k ≠ rb := by
  rintro rfl
  exact ht (blk_ty hr hk).symm
set_option maxRecDepth 100000 in
set_option maxHeartbeats 1600000 in
theorem there_of {F : Nat} (hP : ∀ f, f ≤ F → PartAt f) : ThereAt F := by
  intro t tb rb g cap l w hw ht h
  have et := Tm.of_parts t
  obtain ⟨sl, xs, hd, hps⟩ := ht
  have hps' : PsIs (fun k => k < w.heap.size) w xs (Tm.of t.parts) := by rw [et]; exact hps
  have hxl := PsIs.length _ _ hps'
  obtain ⟨ao, cap0, rfl, hmx, hcs⟩ := prow_slice hd.row
  have c0 : w.cell? ⟨tb, 0, none⟩ = some (.slice ao xs.length cap0) := blk_cell hd.blk 0
  have HP := hide hP
  have HPs := hide hps'
  have HW := hide (show (Tm.of t.parts).wf by rw [et]; exact hw)
  have H := hide h
  obtain ⟨r, hr⟩ : ∃ r, r = t.run false l F := ⟨_, rfl⟩
  rw [← hr]
  have HR := hide (show r = (Tm.of (t.parts.drop 0)).run false l F by rw [hr, List.drop_zero, et])
  have HXl := hide hxl
  clear hP hps hps' hd hw h hr hxl et
  generalize t.parts = ps at HPs HW HR HXl
  go_enter Tryz.func52, Tryz.ntmps52
  go_wp2_with fail
  go_loopg [13] xs.length (fun kk v13 wr => ∃ (i : Nat) (l' : List Rat) (f' g' cap' : Nat), kk = xs.length - i ∧ i ≤ xs.length ∧ v13 = .int .i64 (i : Int) ∧ (r = (Tm.of (ps.drop i)).run false l' f' ∧ f' ≤ F) ∧ RunIs wr rb g' cap' l' f' ∧ But rb w wr)
  case atStart => exact ⟨0, l, F, g, cap, rfl, Nat.zero_le _, rfl, ⟨unhide HR, Nat.le_refl _⟩, unhide H, But.refl _ _⟩
  case round =>
    obtain ⟨i, l', f', g', cap', hk, hi, rfl, ⟨he, hfF⟩, hrun, hbr⟩ := hrel
    have HK := hide hk
    have HE := hide he
    have HRun := hide hrun
    have HBr := hide hbr
    clear hk he hrun
    by_cases hlt : i < xs.length
    · have hlt' : (i : Int) < (xs.length : Int) := by omega
      have hip : i < ps.length := by have := unhide HXl; omega
      obtain ⟨gp, cc, rfl, hgp, hcell⟩ := hcs (by omega)
      have hne := part_ne_run (unhide H).blk hgp (by decide)
      have hcr : ∀ q, q < 8 → wr.cell? ⟨gp, i * 8 + q, none⟩ = (xs[i].cells)[q]? := fun q hq => (hbr.cell (p := ⟨gp, i * 8 + q, none⟩) (lt_of_block hgp) hne).trans (hcell i hlt q hq)
      have hpt := (PsIs.get ps xs (unhide HPs) i hip hlt).run (unhide H).blk hbr
      have hst := of_drop ps i hip l' f'
      have HWi := hide (wf_memP ps ps[i] (List.getElem_mem hip) (unhide HW))
      have HPt := hide hpt
      have HSt := hide (show r = Res.then (ps[i].run false l' f') (fun l f => (Tm.of (ps.drop (i + 1))).run false l f) by rw [unhide HE]; exact hst)
      clear hcell hcs hpt hst hbr
      generalize ps[i] = p at HWi HPt HSt
      generalize xs[i] = x at hcr HPt
      obtain ⟨L, N, K, Tp, Bt, pa, pn, pc, Bo, Ov⟩ := x
      have d0 : wr.cell? ⟨gp, i * 8, none⟩ = some (.int .u8 (L.toNat : Int)) := hcr 0 (by omega)
      have d1 : wr.cell? ⟨gp, i * 8 + 1, none⟩ = some (.int .u8 (N.toNat : Int)) := hcr 1 (by omega)
      have d2 : wr.cell? ⟨gp, i * 8 + 2, none⟩ = some (.int .i64 K) := hcr 2 (by omega)
      have d3 : wr.cell? ⟨gp, i * 8 + 3, none⟩ = some (.int .i64 Tp) := hcr 3 (by omega)
      have d4 : wr.cell? ⟨gp, i * 8 + 4, none⟩ = some (.int .i64 Bt) := hcr 4 (by omega)
      have d5 : wr.cell? ⟨gp, i * 8 + 5, none⟩ = some (.slice pa pn pc) := hcr 5 (by omega)
      have d6 : wr.cell? ⟨gp, i * 8 + 6, none⟩ = some (.pointer (Bo.map fun b => ⟨b, 0, none⟩)) := hcr 6 (by omega)
      have d7 : wr.cell? ⟨gp, i * 8 + 7, none⟩ = some (.pointer (Ov.map fun b => ⟨b, 0, none⟩)) := hcr 7 (by omega)
      have hb3 := box_below wr (.cells #[.int .u8 (L.toNat : Int), .int .u8 (N.toNat : Int), .int .i64 K, .int .i64 Tp, .int .i64 Bt, .slice pa pn pc, .pointer (Bo.map fun b => ⟨b, 0, none⟩), .pointer (Ov.map fun b => ⟨b, 0, none⟩)] 148)
      have HX3 := hide ((unhide HPt).belowS hb3)
      have HRun3 := hide ((unhide HRun).below hb3)
      have HB3 := hide hb3
      clear hcr hb3
      go_wp2_with fail
      refine (unhide HP f' hfF p false ⟨L, N, K, Tp, Bt, pa, pn, pc, Bo, Ov⟩ rb g' cap' l' _ (unhide HWi) (fun h => by cases h) (unhide HX3) (unhide HRun3)).mono ?_
      rintro e w2 ⟨hg, hb2⟩
      have HB2 := hide (((unhide HBr).trans (But.of_below (unhide HB3))).trans hb2)
      clear hb2
      rcases hg with ⟨l2, f2, g2, cap2, hres, rfl, hrun2⟩ | ⟨c, hres, hne, rfl⟩
      · have HNx := hide (show r = (Tm.of (ps.drop (i + 1))).run false l2 f2 ∧ f2 ≤ F by
          obtain ⟨n, hn, _⟩ := Pt.paced p false _ _ _ _ hres
          exact ⟨by rw [unhide HSt, hres]; rfl, by omega⟩)
        have HRun2 := hide hrun2
        clear hres hrun2
        go_wp2_with fail
        go_roundg (xs.length - (i + 1))
        case measure => rw [unhide HK]; omega
        case rel => exact ⟨i + 1, l2, f2, g2, cap2, rfl, by omega, rfl, unhide HNx, unhide HRun2, unhide HB2⟩
      · have HNx := hide (show r = .err c by rw [unhide HSt, hres]; rfl)
        have hne' : (c != 0) = true := by rw [bne_iff_ne]; exact hne
        have HNe := hide hne
        clear hres hne
        go_wp2_with fail
        go_ret
        exact ⟨Or.inr ⟨c, unhide HNx, unhide HNe, rfl⟩, unhide HB2⟩
    · have hlt' : ¬ (i : Int) < (xs.length : Int) := by omega
      have HFin := hide (show r = .ok l' f' by
        rw [unhide HE, List.drop_of_length_le (by have := unhide HXl; omega), Tm.of, Tm.run_nil])
      go_wp2_with fail
      go_ret
      exact ⟨Or.inl ⟨l', f', g', cap', unhide HFin, rfl, unhide HRun⟩, unhide HBr⟩
set_option maxRecDepth 100000 in
set_option maxHeartbeats 1600000 in
theorem back_of {F : Nat} (hP : ∀ f, f ≤ F → PartAt f) : BackAt F := by
  intro t tb rb g cap l w hw hbk ht h
  have et := Tm.of_parts t
  obtain ⟨sl, xs, hd, hps⟩ := ht
  have hps' : PsIs (fun k => k < w.heap.size) w xs (Tm.of t.parts) := by rw [et]; exact hps
  have hxl := PsIs.length _ _ hps'
  obtain ⟨ao, cap0, rfl, hmx, hcs⟩ := prow_slice hd.row
  have c0 : w.cell? ⟨tb, 0, none⟩ = some (.slice ao xs.length cap0) := blk_cell hd.blk 0
  have htl := lt_of_block hd.blk
  have htn := part_ne_run h.blk hd.blk (by decide)
  have HP := hide hP
  have HPs := hide hps'
  have HW := hide (show (Tm.of t.parts).wf by rw [et]; exact hw)
  have HBk := hide (show (Tm.of t.parts).back = true by rw [et]; exact hbk)
  have H := hide h
  obtain ⟨r, hr⟩ : ∃ r, r = t.run true l F := ⟨_, rfl⟩
  rw [← hr]
  have HR := hide (show r = (Tm.of (t.parts.take xs.length)).run true l F by rw [hr, hxl, List.take_length, et])
  have HXl := hide hxl
  clear hP hps hps' hd hw hbk h hr hxl et
  generalize t.parts = ps at HPs HW HBk HR HXl
  go_enter Tryz.func163, Tryz.ntmps163
  go_wp2_with fail
  go_loopg [5] xs.length (fun kk v5 wr => ∃ (i : Nat) (l' : List Rat) (f' g' cap' : Nat), kk = i ∧ i ≤ xs.length ∧ v5 = .int .i64 ((i : Int) - 1) ∧ (r = (Tm.of (ps.take i)).run true l' f' ∧ f' ≤ F) ∧ RunIs wr rb g' cap' l' f' ∧ But rb w wr)
  case atStart => exact ⟨xs.length, l, F, g, cap, rfl, Nat.le_refl _, rfl, ⟨unhide HR, Nat.le_refl _⟩, unhide H, But.refl _ _⟩
  case round =>
    obtain ⟨i, l', f', g', cap', hk, hi, hv, ⟨he, hfF⟩, hrun, hbr⟩ := hrel
    have HK := hide hk
    have HE := hide he
    have HRun := hide hrun
    have HBr := hide hbr
    clear hk he hrun
    cases i with
    | zero =>
      have hv' : _ = Value.int .i64 (-1) := hv
      subst hv'
      clear hv
      have HFin := hide (show r = .ok l' f' by rw [unhide HE, List.take_zero, Tm.of, Tm.run_nil])
      go_wp2_with fail
      go_ret
      exact ⟨Or.inl ⟨l', f', g', cap', unhide HFin, rfl, unhide HRun⟩, unhide HBr⟩
    | succ i =>
      have hv' : _ = Value.int .i64 (i : Int) := hv.trans (congrArg (Value.int .i64) (by omega))
      subst hv'
      have hlt : i < xs.length := by omega
      have hlt' : (i : Int) < (xs.length : Int) := by omega
      have hip : i < ps.length := by have := unhide HXl; omega
      obtain ⟨gp, cc, rfl, hgp, hcell⟩ := hcs (by omega)
      have hne := part_ne_run (unhide H).blk hgp (by decide)
      have hcr : ∀ q, q < 8 → wr.cell? ⟨gp, i * 8 + q, none⟩ = (xs[i].cells)[q]? := fun q hq => (hbr.cell (p := ⟨gp, i * 8 + q, none⟩) (lt_of_block hgp) hne).trans (hcell i hlt q hq)
      have c0r : wr.cell? ⟨tb, 0, none⟩ = some (.slice (some ⟨gp, 0, none⟩) xs.length cap0) := (hbr.cell (p := ⟨tb, 0, none⟩) htl htn).trans c0
      have hpt := (PsIs.get ps xs (unhide HPs) i hip hlt).run (unhide H).blk hbr
      have HWi := hide (wf_memP ps ps[i] (List.getElem_mem hip) (unhide HW))
      have HBi := hide (bk_memP ps ps[i] (List.getElem_mem hip) (unhide HBk))
      have HPt := hide hpt
      have HSt := hide (show r = Res.then (ps[i].run true l' f') (fun l f => (Tm.of (ps.take i)).run true l f) by rw [unhide HE, List.take_succ_eq_append_getElem hip, of_back_snoc])
      clear hcell hcs hpt hbr hv c0
      generalize ps[i] = p at HWi HBi HPt HSt
      generalize xs[i] = x at hcr HPt
      obtain ⟨L, N, K, Tp, Bt, pa, pn, pc, Bo, Ov⟩ := x
      have d0 : wr.cell? ⟨gp, i * 8, none⟩ = some (.int .u8 (L.toNat : Int)) := hcr 0 (by omega)
      have d1 : wr.cell? ⟨gp, i * 8 + 1, none⟩ = some (.int .u8 (N.toNat : Int)) := hcr 1 (by omega)
      have d2 : wr.cell? ⟨gp, i * 8 + 2, none⟩ = some (.int .i64 K) := hcr 2 (by omega)
      have d3 : wr.cell? ⟨gp, i * 8 + 3, none⟩ = some (.int .i64 Tp) := hcr 3 (by omega)
      have d4 : wr.cell? ⟨gp, i * 8 + 4, none⟩ = some (.int .i64 Bt) := hcr 4 (by omega)
      have d5 : wr.cell? ⟨gp, i * 8 + 5, none⟩ = some (.slice pa pn pc) := hcr 5 (by omega)
      have d6 : wr.cell? ⟨gp, i * 8 + 6, none⟩ = some (.pointer (Bo.map fun b => ⟨b, 0, none⟩)) := hcr 6 (by omega)
      have d7 : wr.cell? ⟨gp, i * 8 + 7, none⟩ = some (.pointer (Ov.map fun b => ⟨b, 0, none⟩)) := hcr 7 (by omega)
      clear hcr
      go_wp2_with fail
      refine (unhide HP f' hfF p true ⟨L, N, K, Tp, Bt, pa, pn, pc, Bo, Ov⟩ rb g' cap' l' _ (unhide HWi) (fun _ => unhide HBi) (unhide HPt) (unhide HRun)).mono ?_
      rintro e w2 ⟨hg, hb2⟩
      have HB2 := hide ((unhide HBr).trans hb2)
      clear hb2
      rcases hg with ⟨l2, f2, g2, cap2, hres, rfl, hrun2⟩ | ⟨c, hres, hne, rfl⟩
      · have HNx := hide (show r = (Tm.of (ps.take i)).run true l2 f2 ∧ f2 ≤ F by
          obtain ⟨n, hn, _⟩ := Pt.paced p true _ _ _ _ hres
          exact ⟨by rw [unhide HSt, hres]; rfl, by omega⟩)
        have HRun2 := hide hrun2
        clear hres hrun2
        go_wp2_with fail
        go_roundg i
        case measure => rw [unhide HK]; omega
        case rel => exact ⟨i, l2, f2, g2, cap2, rfl, by omega, rfl, unhide HNx, unhide HRun2, unhide HB2⟩
      · have HNx := hide (show r = .err c by rw [unhide HSt, hres]; rfl)
        have hne' : (c != 0) = true := by rw [bne_iff_ne]; exact hne
        have HNe := hide hne
        clear hres hne
        go_wp2_with fail
        go_ret
        exact ⟨Or.inr ⟨c, unhide HNx, unhide HNe, rfl⟩, unhide HB2⟩
theorem runs_all (F : Nat) : ThereAt F ∧ BackAt F := by
  induction F using Nat.strongRecOn with
  | _ F ih =>
    have hP : ∀ f, f ≤ F → PartAt f := fun f hf => runPart_of (fun f' h => (ih f' (by omega)).1) (fun f' h => (ih f' (by omega)).2)
    exact ⟨there_of hP, back_of hP⟩
end Go.Proofs.YtikiaijgcjjloaaGreatDoor

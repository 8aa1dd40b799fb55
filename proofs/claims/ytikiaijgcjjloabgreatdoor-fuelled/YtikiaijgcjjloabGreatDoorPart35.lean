import Derived.Test.YtikiaijgcjjloabGreatDoorPart34

/- The walks: a run's parts, there and backwards (written by mk_au5.py). -/
namespace Go.Proofs.YtikiaijgcjjloabGreatDoor
open Go Go.RowKit M T Go.Lib

theorem T.Sp.first_lowP (y : Sp) : y.first ≠ 40 ∧ y.first ≠ 91 ∧ (y.first.toNat < 65 ∨ 90 < y.first.toNat) := by cases y <;> simp [Sp.first]
theorem u8_neP {L d : UInt8} (h : L ≠ d) : ((L.toNat : Int) == (d.toNat : Int)) = false := by
  rw [beq_eq_false_iff_ne]
  intro e
  exact h (UInt8.toNat_inj.1 (by omega))
/-- What a part answers. -/
def PartAt (F : Nat) : Prop := ∀ (p : Pt) (b : Bool) (x : PC) (rb g cap : Nat) (l : List Rat) (w : World), p.wf → (b = true → p.back = true) → PtIs (fun k => k < w.heap.size) w x p → RunIs w rb g cap l F →
  Calls Tryz.prog 68 #[.pointer (some ⟨rb, 0, none⟩), PC.value x, .bool b] w fun e w' => RGot rb (p.run b l F) e w' ∧ But rb w w'

set_option maxRecDepth 100000 in
set_option maxHeartbeats 1600000 in
theorem part_sp {F : Nat} {y : Sp} {b : Bool} {x : PC} {rb g cap : Nat} {l : List Rat} {w : World} (hw : y.wf) (hbk : b = true → y.opp.isSome = true) (hx : SpIs (fun k => k < w.heap.size) w x y) (h : RunIs w rb g cap l F) :
    Calls Tryz.prog 68 #[.pointer (some ⟨rb, 0, none⟩), PC.value x, .bool b] w fun e w' => RGot rb ((Pt.sp y).run b l F) e w' ∧ But rb w w' := by
  obtain ⟨L, N, K, Tp, Bt, pa, pn, pc, Bo, Ov⟩ := x
  have hL : L = y.first := hx.1
  obtain ⟨f40, f91, fAZ⟩ := Sp.first_lowP y
  rw [← hL] at f40 f91 fAZ
  have q40 : ((L.toNat : Int) == 40) = false := u8_neP f40
  have q91 : ((L.toNat : Int) == 91) = false := u8_neP f91
  have q65 : ((L.toNat : Int) == 65) = false := by rw [beq_eq_false_iff_ne]; omega
  have hrl := lt_of_block h.blk
  have HW := hide hw
  have HBk := hide hbk
  have HX := hide (show PtIs (fun k => k < w.heap.size) w ⟨L, N, K, Tp, Bt, pa, pn, pc, Bo, Ov⟩ (.sp y) by rw [PtIs]; exact hx)
  have H := hide h
  obtain ⟨r, hr⟩ : ∃ r, r = (Pt.sp y).run b l F := ⟨_, rfl⟩
  rw [← hr]
  have HR := hide hr
  clear hw hbk hx h hr f40 f91 fAZ hL
  rw [show PC.value ⟨L, N, K, Tp, Bt, pa, pn, pc, Bo, Ov⟩ = .agg #[.int .u8 (L.toNat : Int), .int .u8 (N.toNat : Int), .int .i64 K, .int .i64 Tp, .int .i64 Bt, .slice pa pn pc, .pointer (Bo.map fun b => ⟨b, 0, none⟩), .pointer (Ov.map fun b => ⟨b, 0, none⟩)] from rfl]
  have hb0 := box_below w (.cells #[.int .u8 (L.toNat : Int), .int .u8 (N.toNat : Int), .int .i64 K, .int .i64 Tp, .int .i64 Bt, .slice pa pn pc, .pointer (Bo.map fun b => ⟨b, 0, none⟩), .pointer (Ov.map fun b => ⟨b, 0, none⟩)] 82)
  have HB0 := hide hb0
  have HRun0 := hide ((unhide H).below hb0)
  have HX0 := hide ((unhide HX).belowS hb0)
  have hbk0 : (w.alloc (.cells #[.int .u8 (L.toNat : Int), .int .u8 (N.toNat : Int), .int .i64 K, .int .i64 Tp, .int .i64 Bt, .slice pa pn pc, .pointer (Bo.map fun b => ⟨b, 0, none⟩), .pointer (Ov.map fun b => ⟨b, 0, none⟩)] 82)).heap[w.heap.size]? = some (.cells #[.int .u8 (L.toNat : Int), .int .u8 (N.toNat : Int), .int .i64 K, .int .i64 Tp, .int .i64 Bt, .slice pa pn pc, .pointer (Bo.map fun b => ⟨b, 0, none⟩), .pointer (Ov.map fun b => ⟨b, 0, none⟩)] 82 (0, 0)) := heap_alloc_new w _
  have HBk0 := hide hbk0
  clear hb0 hbk0
  go_enter Tryz.func68, Tryz.ntmps68
  go_wp2_with fail
  refine (step_any (unhide HRun0)).mono ?_
  rintro e w1 ⟨hs, hb1⟩
  have hbk1 : w1.heap[w.heap.size]? = some (.cells #[.int .u8 (L.toNat : Int), .int .u8 (N.toNat : Int), .int .i64 K, .int .i64 Tp, .int .i64 Bt, .slice pa pn pc, .pointer (Bo.map fun b => ⟨b, 0, none⟩), .pointer (Ov.map fun b => ⟨b, 0, none⟩)] 82 (0, 0)) := by rw [hb1.block w.heap.size (by simp) (by omega)]; exact unhide HBk0
  have HB1 := hide ((But.of_below (unhide HB0)).trans hb1)
  have HX1 := hide ((unhide HX0).run (unhide HRun0).blk hb1)
  clear hb1
  rcases hs with ⟨h0, rfl⟩ | ⟨f, hf, rfl, hrun⟩
  · have HE := hide (show r = .err 10 by rw [unhide HR, h0, Pt.run_sp]; rfl)
    clear h0 hbk1
    go_wp2_with fail
    go_ret
    exact ⟨Or.inr ⟨10, unhide HE, by decide, rfl⟩, unhide HB1⟩
  · have HE := hide (show r = lift (if b then y.workBack l else y.work l) f by rw [unhide HR, hf, Pt.run_sp]; rfl)
    have HRun := hide hrun
    have c0 : ∀ i, w1.cell? ⟨w.heap.size, i, none⟩ = (#[.int .u8 (L.toNat : Int), .int .u8 (N.toNat : Int), .int .i64 K, .int .i64 Tp, .int .i64 Bt, .slice pa pn pc, .pointer (Bo.map fun b => ⟨b, 0, none⟩), .pointer (Ov.map fun b => ⟨b, 0, none⟩)] : Array Value)[i]? := fun i => blk_cell hbk1 i
    clear hf hrun hbk1
    cases b with
    | false =>
      have HE' := hide (show r = lift (y.work l) f from unhide HE)
      go_wp2_with fail
      refine (simple_any (x := ⟨L, N, K, Tp, Bt, pa, pn, pc, Bo, Ov⟩) (unhide HW) (by have := unhide HX1; rw [PtIs] at this; exact this) (unhide HRun)).mono ?_
      rintro e w2 ⟨hg, hb2⟩
      have HG := hide hg
      have HB2 := hide ((unhide HB1).trans hb2)
      clear hb2
      rcases hg with ⟨l', f', g', cap', _, rfl, _⟩ | ⟨c, _, _, rfl⟩
      · go_wp2_with fail
        go_ret
        exact ⟨by rw [unhide HE']; exact unhide HG, unhide HB2⟩
      · go_wp2_with fail
        go_ret
        exact ⟨by rw [unhide HE']; exact unhide HG, unhide HB2⟩
    | true =>
      have HE' := hide (show r = lift (y.workBack l) f from unhide HE)
      obtain ⟨y2, hy2⟩ : ∃ y2, y.opp = some y2 := Option.isSome_iff_exists.1 (by first | exact unhide HBk rfl | exact unhide HBk trivial)
      have HY2 := hide hy2
      clear hy2
      go_wp2_with fail
      refine (opposite_any' (x := ⟨L, N, K, Tp, Bt, pa, pn, pc, Bo, Ov⟩) (unhide HW) (unhide HY2) (by have := unhide HX1; rw [PtIs] at this; exact this) (unhide HRun)).mono ?_
      rintro e w2 ⟨hg, hb2⟩
      have HG := hide hg
      have HB2 := hide ((unhide HB1).trans hb2)
      clear hb2
      rcases hg with ⟨l', f', g', cap', _, rfl, _⟩ | ⟨c, _, _, rfl⟩
      · go_wp2_with fail
        go_ret
        exact ⟨by rw [unhide HE']; exact unhide HG, unhide HB2⟩
      · go_wp2_with fail
        go_ret
        exact ⟨by rw [unhide HE']; exact unhide HG, unhide HB2⟩

set_option maxRecDepth 100000 in
set_option maxHeartbeats 1600000 in
theorem part_pow {F : Nat} {t : Tm} {ov : Option Addr} {b : Bool} {N : UInt8} {K Tp Bt : Int} {pa : Option Addr} {pn pc q : Nat} {rb g cap : Nat} {l : List Rat} {w : World} (hW : ∀ f, f < F → WayAt f) (hw : t.wf) (hk1 : -999 ≤ K) (hk2 : K ≤ 999) (ht : TmIs (fun k => k < w.heap.size) w q t) (h : RunIs w rb g cap l F) :
    Calls Tryz.prog 68 #[.pointer (some ⟨rb, 0, none⟩), .agg #[.int .u8 40, .int .u8 (N.toNat : Int), .int .i64 K, .int .i64 Tp, .int .i64 Bt, .slice pa pn pc, .pointer (some ⟨q, 0, none⟩), .pointer ov], .bool b] w fun e w' => RGot rb (stepped (powRes t (if b then -K else K)) l F) e w' ∧ But rb w w' := by
  have hrl := lt_of_block h.blk
  have HW' := hide hW
  have HW := hide hw
  have H := hide h
  obtain ⟨r, hr⟩ : ∃ r, r = stepped (powRes t (if b then -K else K)) l F := ⟨_, rfl⟩
  rw [← hr]
  have HR := hide hr
  have hb0 := box_below w (.cells #[.int .u8 40, .int .u8 (N.toNat : Int), .int .i64 K, .int .i64 Tp, .int .i64 Bt, .slice pa pn pc, .pointer (some ⟨q, 0, none⟩), .pointer ov] 82)
  have HB0 := hide hb0
  have HRun0 := hide (h.below hb0)
  have HX0 := hide (ht.belowS hb0)
  have hbk0 : (w.alloc (.cells #[.int .u8 40, .int .u8 (N.toNat : Int), .int .i64 K, .int .i64 Tp, .int .i64 Bt, .slice pa pn pc, .pointer (some ⟨q, 0, none⟩), .pointer ov] 82)).heap[w.heap.size]? = some (.cells #[.int .u8 40, .int .u8 (N.toNat : Int), .int .i64 K, .int .i64 Tp, .int .i64 Bt, .slice pa pn pc, .pointer (some ⟨q, 0, none⟩), .pointer ov] 82 (0, 0)) := heap_alloc_new w _
  have HBk0 := hide hbk0
  clear hW hw ht h hr hb0 hbk0
  go_enter Tryz.func68, Tryz.ntmps68
  go_wp2_with fail
  refine (step_any (unhide HRun0)).mono ?_
  rintro e w1 ⟨hs, hb1⟩
  have hbk1 : w1.heap[w.heap.size]? = some (.cells #[.int .u8 40, .int .u8 (N.toNat : Int), .int .i64 K, .int .i64 Tp, .int .i64 Bt, .slice pa pn pc, .pointer (some ⟨q, 0, none⟩), .pointer ov] 82 (0, 0)) := by rw [hb1.block w.heap.size (by simp) (by omega)]; exact unhide HBk0
  have HB1 := hide ((But.of_below (unhide HB0)).trans hb1)
  have HX1 := hide ((unhide HX0).run (unhide HRun0).blk hb1)
  clear hb1
  rcases hs with ⟨h0, rfl⟩ | ⟨f, hf, rfl, hrun⟩
  · have HE := hide (show r = .err 10 by rw [unhide HR, h0]; rfl)
    clear h0 hbk1
    go_wp2_with fail
    go_ret
    exact ⟨Or.inr ⟨10, unhide HE, by decide, rfl⟩, unhide HB1⟩
  · have HE := hide (show r = (powRes t (if b then -K else K)) l f by rw [unhide HR, hf]; rfl)
    have HRun := hide hrun
    have HF := hide hf
    have c0 : ∀ i, w1.cell? ⟨w.heap.size, i, none⟩ = (#[.int .u8 40, .int .u8 (N.toNat : Int), .int .i64 K, .int .i64 Tp, .int .i64 Bt, .slice pa pn pc, .pointer (some ⟨q, 0, none⟩), .pointer ov] : Array Value)[i]? := fun i => blk_cell hbk1 i
    clear hf hrun hbk1
    cases b with
    | false =>
      have HE' := hide (show r = powRes t K l f from unhide HE)
      go_wp2_with fail
      refine (power_any (t := t) (fun f' hf => unhide HW' f' (by have := unhide HF; omega)) (unhide HW) hk1 hk2 (unhide HX1) (unhide HRun)).mono ?_
      rintro e w2 ⟨hg, hb2⟩
      have HG := hide hg
      have HB2 := hide ((unhide HB1).trans hb2)
      clear hb2
      rcases hg with ⟨l', f', g', cap', _, rfl, _⟩ | ⟨c, _, _, rfl⟩
      · go_wp2_with fail
        go_ret
        exact ⟨by rw [unhide HE']; exact unhide HG, unhide HB2⟩
      · go_wp2_with fail
        go_ret
        exact ⟨by rw [unhide HE']; exact unhide HG, unhide HB2⟩
    | true =>
      have HE' := hide (show r = powRes t (-K) l f from unhide HE)
      have hneg : IntKind.i64.wrap (-K) = -K := by rw [IntKind.wrap_i64]; omega
      go_wp2_with fail
      refine (power_any (t := t) (k := -K) (fun f' hf => unhide HW' f' (by have := unhide HF; omega)) (unhide HW) (by omega) (by omega) (unhide HX1) (unhide HRun)).mono ?_
      rintro e w2 ⟨hg, hb2⟩
      have HG := hide hg
      have HB2 := hide ((unhide HB1).trans hb2)
      clear hb2
      rcases hg with ⟨l', f', g', cap', _, rfl, _⟩ | ⟨c, _, _, rfl⟩
      · go_wp2_with fail
        go_ret
        exact ⟨by rw [unhide HE']; exact unhide HG, unhide HB2⟩
      · go_wp2_with fail
        go_ret
        exact ⟨by rw [unhide HE']; exact unhide HG, unhide HB2⟩

set_option maxRecDepth 100000 in
set_option maxHeartbeats 1600000 in
theorem part_name {F : Nat} {t : Tm} {ov : Option Addr} {b : Bool} {N : UInt8} {K Tp Bt : Int} {pa : Option Addr} {pn pc q : Nat} {rb g cap : Nat} {l : List Rat} {w : World} (hW : ∀ f, f < F → WayAt f) (hw : t.wf) (hbk : b = true → t.back = true) (ht : TmIs (fun k => k < w.heap.size) w q t) (h : RunIs w rb g cap l F) :
    Calls Tryz.prog 68 #[.pointer (some ⟨rb, 0, none⟩), .agg #[.int .u8 65, .int .u8 (N.toNat : Int), .int .i64 K, .int .i64 Tp, .int .i64 Bt, .slice pa pn pc, .pointer (some ⟨q, 0, none⟩), .pointer ov], .bool b] w fun e w' => RGot rb (stepped (t.run b) l F) e w' ∧ But rb w w' := by
  have hrl := lt_of_block h.blk
  have HW' := hide hW
  have HW := hide hw
  have HBk := hide hbk
  have H := hide h
  obtain ⟨r, hr⟩ : ∃ r, r = stepped (t.run b) l F := ⟨_, rfl⟩
  rw [← hr]
  have HR := hide hr
  have hb0 := box_below w (.cells #[.int .u8 65, .int .u8 (N.toNat : Int), .int .i64 K, .int .i64 Tp, .int .i64 Bt, .slice pa pn pc, .pointer (some ⟨q, 0, none⟩), .pointer ov] 82)
  have HB0 := hide hb0
  have HRun0 := hide (h.below hb0)
  have HX0 := hide (ht.belowS hb0)
  have hbk0 : (w.alloc (.cells #[.int .u8 65, .int .u8 (N.toNat : Int), .int .i64 K, .int .i64 Tp, .int .i64 Bt, .slice pa pn pc, .pointer (some ⟨q, 0, none⟩), .pointer ov] 82)).heap[w.heap.size]? = some (.cells #[.int .u8 65, .int .u8 (N.toNat : Int), .int .i64 K, .int .i64 Tp, .int .i64 Bt, .slice pa pn pc, .pointer (some ⟨q, 0, none⟩), .pointer ov] 82 (0, 0)) := heap_alloc_new w _
  have HBk0 := hide hbk0
  clear hW hw hbk ht h hr hb0 hbk0
  go_enter Tryz.func68, Tryz.ntmps68
  go_wp2_with fail
  refine (step_any (unhide HRun0)).mono ?_
  rintro e w1 ⟨hs, hb1⟩
  have hbk1 : w1.heap[w.heap.size]? = some (.cells #[.int .u8 65, .int .u8 (N.toNat : Int), .int .i64 K, .int .i64 Tp, .int .i64 Bt, .slice pa pn pc, .pointer (some ⟨q, 0, none⟩), .pointer ov] 82 (0, 0)) := by rw [hb1.block w.heap.size (by simp) (by omega)]; exact unhide HBk0
  have HB1 := hide ((But.of_below (unhide HB0)).trans hb1)
  have HX1 := hide ((unhide HX0).run (unhide HRun0).blk hb1)
  clear hb1
  rcases hs with ⟨h0, rfl⟩ | ⟨f, hf, rfl, hrun⟩
  · have HE := hide (show r = .err 10 by rw [unhide HR, h0]; rfl)
    clear h0 hbk1
    go_wp2_with fail
    go_ret
    exact ⟨Or.inr ⟨10, unhide HE, by decide, rfl⟩, unhide HB1⟩
  · have HE := hide (show r = (t.run b) l f by rw [unhide HR, hf]; rfl)
    have HRun := hide hrun
    have HF := hide hf
    have c0 : ∀ i, w1.cell? ⟨w.heap.size, i, none⟩ = (#[.int .u8 65, .int .u8 (N.toNat : Int), .int .i64 K, .int .i64 Tp, .int .i64 Bt, .slice pa pn pc, .pointer (some ⟨q, 0, none⟩), .pointer ov] : Array Value)[i]? := fun i => blk_cell hbk1 i
    clear hf hrun hbk1
    go_wp2_with fail
    refine (unhide HW' f (by have := unhide HF; omega) t b q rb g cap l _ (unhide HW) (unhide HBk) (unhide HX1) (unhide HRun)).mono ?_
    rintro e w2 ⟨hg, hb2⟩
    have HG := hide hg
    have HB2 := hide ((unhide HB1).trans hb2)
    clear hb2
    rcases hg with ⟨l', f', g', cap', _, rfl, _⟩ | ⟨c, _, _, rfl⟩
    · go_wp2_with fail
      go_ret
      exact ⟨by rw [unhide HE]; exact unhide HG, unhide HB2⟩
    · go_wp2_with fail
      go_ret
      exact ⟨by rw [unhide HE]; exact unhide HG, unhide HB2⟩

set_option maxRecDepth 100000 in
set_option maxHeartbeats 1600000 in
theorem part_under {F : Nat} {s t : Tm} {sb : Nat} {b : Bool} {N : UInt8} {K Tp Bt : Int} {pa : Option Addr} {pn pc q : Nat} {rb g cap : Nat} {l : List Rat} {w : World} (hT : ∀ f, f < F → ThereAt f) (hB : ∀ f, f < F → BackAt f) (hW : ∀ f, f < F → WayAt f) (hws : s.wf) (hw : t.wf) (hbk : b = true → t.back = true) (hts : TmIs (fun k => k < w.heap.size) w sb s) (ht : TmIs (fun k => k < w.heap.size) w q t) (h : RunIs w rb g cap l F) :
    Calls Tryz.prog 68 #[.pointer (some ⟨rb, 0, none⟩), .agg #[.int .u8 91, .int .u8 (N.toNat : Int), .int .i64 K, .int .i64 Tp, .int .i64 Bt, .slice pa pn pc, .pointer (some ⟨q, 0, none⟩), .pointer (some ⟨sb, 0, none⟩)], .bool b] w fun e w' => RGot rb (stepped (underRes s t b) l F) e w' ∧ But rb w w' := by
  have hrl := lt_of_block h.blk
  have HT' := hide hT
  have HB' := hide hB
  have HW' := hide hW
  have HWs := hide hws
  have HW := hide hw
  have HBk := hide hbk
  have H := hide h
  obtain ⟨r, hr⟩ : ∃ r, r = stepped (underRes s t b) l F := ⟨_, rfl⟩
  rw [← hr]
  have HR := hide hr
  have hb0 := box_below w (.cells #[.int .u8 91, .int .u8 (N.toNat : Int), .int .i64 K, .int .i64 Tp, .int .i64 Bt, .slice pa pn pc, .pointer (some ⟨q, 0, none⟩), .pointer (some ⟨sb, 0, none⟩)] 82)
  have HB0 := hide hb0
  have HRun0 := hide (h.below hb0)
  have HX0 := hide (ht.belowS hb0)
  have HS0 := hide (hts.belowS hb0)
  have hbk0 : (w.alloc (.cells #[.int .u8 91, .int .u8 (N.toNat : Int), .int .i64 K, .int .i64 Tp, .int .i64 Bt, .slice pa pn pc, .pointer (some ⟨q, 0, none⟩), .pointer (some ⟨sb, 0, none⟩)] 82)).heap[w.heap.size]? = some (.cells #[.int .u8 91, .int .u8 (N.toNat : Int), .int .i64 K, .int .i64 Tp, .int .i64 Bt, .slice pa pn pc, .pointer (some ⟨q, 0, none⟩), .pointer (some ⟨sb, 0, none⟩)] 82 (0, 0)) := heap_alloc_new w _
  have HBk0 := hide hbk0
  clear hT hB hW hws hw hbk hts ht h hr hb0 hbk0
  go_enter Tryz.func68, Tryz.ntmps68
  go_wp2_with fail
  refine (step_any (unhide HRun0)).mono ?_
  rintro e w1 ⟨hs, hb1⟩
  have hbk1 : w1.heap[w.heap.size]? = some (.cells #[.int .u8 91, .int .u8 (N.toNat : Int), .int .i64 K, .int .i64 Tp, .int .i64 Bt, .slice pa pn pc, .pointer (some ⟨q, 0, none⟩), .pointer (some ⟨sb, 0, none⟩)] 82 (0, 0)) := by rw [hb1.block w.heap.size (by simp) (by omega)]; exact unhide HBk0
  have HB1 := hide ((But.of_below (unhide HB0)).trans hb1)
  have HX1 := hide ((unhide HX0).run (unhide HRun0).blk hb1)
  have HS1 := hide ((unhide HS0).run (unhide HRun0).blk hb1)
  clear hb1
  rcases hs with ⟨h0, rfl⟩ | ⟨f, hf, rfl, hrun⟩
  · have HE := hide (show r = .err 10 by rw [unhide HR, h0]; rfl)
    clear h0 hbk1
    go_wp2_with fail
    go_ret
    exact ⟨Or.inr ⟨10, unhide HE, by decide, rfl⟩, unhide HB1⟩
  · have HE := hide (show r = (underRes s t b) l f by rw [unhide HR, hf]; rfl)
    have HRun := hide hrun
    have HF := hide hf
    have c0 : ∀ i, w1.cell? ⟨w.heap.size, i, none⟩ = (#[.int .u8 91, .int .u8 (N.toNat : Int), .int .i64 K, .int .i64 Tp, .int .i64 Bt, .slice pa pn pc, .pointer (some ⟨q, 0, none⟩), .pointer (some ⟨sb, 0, none⟩)] : Array Value)[i]? := fun i => blk_cell hbk1 i
    clear hf hrun hbk1
    go_wp2_with fail
    refine (under_any (s := s) (q := t) (fun f' hf => unhide HT' f' (by have := unhide HF; omega)) (fun f' hf => unhide HB' f' (by have := unhide HF; omega)) (fun f' hf => unhide HW' f' (by have := unhide HF; omega)) (unhide HWs) (unhide HW) (unhide HBk) (unhide HS1) (unhide HX1) (unhide HRun)).mono ?_
    rintro e w2 ⟨hg, hb2⟩
    have HG := hide hg
    have HB2 := hide ((unhide HB1).trans hb2)
    clear hb2
    rcases hg with ⟨l', f', g', cap', _, rfl, _⟩ | ⟨c, _, _, rfl⟩
    · go_wp2_with fail
      go_ret
      exact ⟨by rw [unhide HE]; exact unhide HG, unhide HB2⟩
    · go_wp2_with fail
      go_ret
      exact ⟨by rw [unhide HE]; exact unhide HG, unhide HB2⟩

theorem runPart_of {F : Nat} (hT : ∀ f, f < F → ThereAt f) (hB : ∀ f, f < F → BackAt f) : PartAt F := by
  have hW : ∀ f, f < F → WayAt f := fun f hf => way_of (hT f hf) (hB f hf)
  intro p b x rb g cap l w hw hbk hx h
  cases p with
  | sp y =>
    rw [Pt.wf] at hw
    rw [Pt.back] at hbk
    rw [PtIs] at hx
    exact part_sp hw hbk hx h
  | pow t k =>
    obtain ⟨L, N, K, Tp, Bt, pa, pn, pc, Bo, Ov⟩ := x
    obtain ⟨h1, h2, q, h3, ht⟩ := PtIs.pow_iff.1 hx
    obtain rfl : L = 40 := h1
    obtain rfl : K = k := h2
    obtain rfl : Bo = some q := h3
    rw [Pt.wf] at hw
    have e : (Pt.pow t K).run b l F = stepped (powRes t (if b then -K else K)) l F := by
      rw [Pt.run_pow]
      cases b
      · rfl
      · show stepped (fun l f => if -K < 0 ∧ t.back = false then .err 12 else iter (fun l f => t.run (decide (-K < 0)) l f) K.natAbs l f) l F = stepped (fun l f => if -K < 0 ∧ t.back = false then .err 12 else iter (fun l f => t.run (decide (-K < 0)) l f) (-K).natAbs l f) l F
        rw [Int.natAbs_neg]
    rw [e]
    exact part_pow hW hw.1 hw.2.1 hw.2.2 ht h
  | under s t =>
    obtain ⟨L, N, K, Tp, Bt, pa, pn, pc, Bo, Ov⟩ := x
    obtain ⟨h1, ⟨q, h3, ht⟩, sb, h4, hts⟩ := PtIs.under_iff.1 hx
    obtain rfl : L = 91 := h1
    obtain rfl : Bo = some q := h3
    obtain rfl : Ov = some sb := h4
    rw [Pt.wf] at hw
    rw [run_under]
    exact part_under hT hB hW hw.1 hw.2 (fun e => by have := hbk e; rw [Pt.back, Bool.and_eq_true] at this; exact this.1) hts ht h
  | name c t =>
    obtain ⟨L, N, K, Tp, Bt, pa, pn, pc, Bo, Ov⟩ := x
    obtain ⟨h1, _, q, h3, ht⟩ := PtIs.name_iff.1 hx
    obtain rfl : L = 65 := h1
    obtain rfl : Bo = some q := h3
    rw [Pt.wf] at hw
    rw [Pt.back] at hbk
    rw [show (Pt.name c t).run b l F = stepped (t.run b) l F from by rw [Pt.run_name]]
    exact part_name hW hw.2.2 hbk ht h
end Go.Proofs.YtikiaijgcjjloabGreatDoor

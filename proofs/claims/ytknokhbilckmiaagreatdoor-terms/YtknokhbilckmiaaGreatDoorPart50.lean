import Derived.Test.YtknokhbilckmiaaGreatDoorRows
import Derived.Test.YtknokhbilckmiaaGreatDoorPart14
import Derived.ProofKit
import Derived.LaidMore
import Derived.OpenShut
import Derived.ShutString
import Derived.Stop.Joined
import Derived.Lib.LaidTab
import Derived.Test.YtknokhbilckmiaaGreatDoorPart49
import Derived.Deep.Slices
import Derived.SizedLaws
import Derived.Carry

/- What the rows' listed tables give the walks; the witness' start. -/
namespace Go.Proofs.YtknokhbilckmiaaGreatDoor
open Go Go.ChangeShapes Go.WideShapes Go.ChangeAt Go.WideMaps Go.WideElems Go.RowKit

theorem own : ownKnob Tryz.prog.godebug = none := by kernel_rfl
def laid3 : List (String × DataW Unit) := [("math/bits.deBruijn32tab", Rows.laid_math_bits_deBruijn32tab), ("math/bits.deBruijn64tab", Rows.laid_math_bits_deBruijn64tab), ("internal/strconv.uint64pow10", Rows.laid_internal_strconv_uint64pow10)]
theorem gPow : Tryz.prog.globalNamed "internal/strconv.uint64pow10" = some 0 := by kernel_rfl
theorem tPow : (Tryz.prog.globals[0]?).map (·.type) = some 180 := by kernel_rfl
theorem dPow : (Rows.laid_internal_strconv_uint64pow10 : DataW Unit) = Lib.tabData .u64 Lib.pow10Tab := by kernel_rfl

set_option maxRecDepth 100000 in
theorem door_met (os : Os) (args : Array Value) : laidMetH Tryz.prog laid3 ((World.doorLaid Tryz.prog 400 os).forCall (fun _ _ => 0) ⟨#[], args, []⟩).memory :=
  laidMetH_of_parts3 (fuel := 8) (laidMet_of_run' 8 (by kernel_rfl) (by kernel_rfl)) (by kernel_rfl) (by kernel_rfl)

theorem tab_of_laid {W : World} (h : laidMetH Tryz.prog laid3 W) : Tab W := by
  rw [MakeChecks.laidMetH_plain _ _ _ (by kernel_rfl)] at h
  obtain ⟨ps, ⟨g0, t0, cs0, f0, p0, q0, hg0, ht0, hv0, hd0, ⟨g1, t1, cs1, f1, p1, q1, hg1, ht1, hv1, hd1, ⟨g2, t2, cs2, f2, p2, q2, hg2, ht2, hv2, hd2, _, _⟩, _⟩, _⟩, _, _⟩ := h
  obtain rfl := Option.some.inj (gPow.symm.trans hg2)
  obtain rfl := Option.some.inj (tPow.symm.trans ht2)
  rw [dPow] at hd2
  unfold Tab Lib.TabIs
  rw [hv2, ← Lib.cells_of_tab Tryz.underlying180 Tryz.underlying136 (by kernel_rfl) (by kernel_rfl) hd2]
end Go.Proofs.YtknokhbilckmiaaGreatDoor

/- The law on terms: her walk, and how a script is opened. -/
namespace Go.Proofs.YtknokhbilckmiaaGreatDoor
open Go Go.RowKit M T Go.Lib

set_option maxRecDepth 100000 in
set_option maxHeartbeats 400000 in
theorem terms_walk {w : World} {ao : Option Addr} {n cap : Nat} {os : Nat → OpC} (hsc : ScIs w w.heap.size ao n os) (hn : (n + 2) * 32 ≤ 140737488355328) (ht : Tab w) :
    Calls Tryz.prog 3 #[.slice ao n cap] w fun e w' => e = .returned (.bool true) ∧ Below w.heap.size w w' := by
  have HSc := hide hsc
  have HT := hide ht
  clear hsc ht
  go_enter Tryz.func3, Tryz.ntmps3
  go_wp2_with fail
  refine (played_terms (cap := cap) (unhide HSc) hn (unhide HT)).mono ?_
  rintro e w1 ⟨rfl, hb⟩
  go_wp2_with fail
  go_ret
  exact ⟨rfl, hb⟩

def op0 : OpC := ⟨0, 0, 0, ⟨#[]⟩, ⟨#[]⟩⟩
theorem Tryz.cellsOp : Tryz.prog.cellsOf 49 = 5 := by kernel_rfl
theorem Tryz.cellsInt : Tryz.prog.cellsOf 3 = 1 := by kernel_rfl
theorem Tryz.cellsStr : Tryz.prog.cellsOf 9 = 1 := by kernel_rfl
theorem Tryz.bytesOp : Tryz.prog.bytesOf 49 = 56 := by kernel_rfl
set_option maxRecDepth 100000 in
/-- A script, opened. -/
theorem open_script {H : Type} {enc : TypeId × Value → H} {W : World} {base : Nat} {v : Value} {d : DataW H} {p : List MemPlace} (hval : Value.okWide Tryz.prog W .any base 22 v) (h : DataW.Trod enc Tryz.prog W 0 (fun _ => true) true 22 v d p)
    (hsz : (DataW.weightsEach Tryz.prog [22] [d]).all (· ≤ reachBytes) = true) :
    ∃ (ao : Option Addr) (n cap : Nat) (os : Nat → OpC), v = .slice ao n cap ∧ ScIs W W.heap.size ao n os ∧ (n + 2) * 32 ≤ 140737488355328 := by
  obtain ⟨ao, len0, cap0, rfl⟩ := Go.WideShapes.okWide_slice Tryz.underlying22 hval
  obtain ⟨fuel, hf⟩ := h
  rcases Go.Deep.open_slice Tryz.underlying22 hf with ⟨hc, hx⟩ | ⟨a, len, cap, m, k, D, Pl, hc, _, hl, hm, hmm, hx, hall⟩
  · simp [Value.cells] at hc
    obtain ⟨rfl, rfl, rfl⟩ := hc
    exact ⟨none, 0, 0, fun _ => op0, rfl, ⟨fun h => absurd h (Nat.lt_irrefl 0), fun i h => absurd h (Nat.not_lt_zero i)⟩, by omega⟩
  · simp [Value.cells] at hc
    obtain ⟨rfl, rfl, rfl⟩ := hc
    simp only [if_true] at hmm
    subst hmm
    simp only [Prod.mk.injEq] at hx
    have hw := sized_slice hsz (j := 0) rfl (by rw [hx.1]; rfl) Tryz.underlying22
    rw [List.length_map, List.length_map, List.length_range, List.length_range, Tryz.bytesOp] at hw
    have hrb : reachBytes = 140737488351232 := rfl
    rw [hrb] at hw
    have each : ∀ i, i < len0 → ∃ o : OpC, (W.cell? (a.add (i * 5)) = some (.int .i64 o.K) ∧ W.cell? ⟨(a.add (i * 5)).block, (a.add (i * 5)).off + 1, none⟩ = some (.int .i64 o.On) ∧ W.cell? ⟨(a.add (i * 5)).block, (a.add (i * 5)).off + 2, none⟩ = some (.int .i64 o.A) ∧ W.cell? ⟨(a.add (i * 5)).block, (a.add (i * 5)).off + 3, none⟩ = some (.string o.S) ∧ W.cell? ⟨(a.add (i * 5)).block, (a.add (i * 5)).off + 4, none⟩ = some (.string o.X)) ∧ -9223372036854775808 ≤ o.On ∧ o.On ≤ 9223372036854775807 := by
      intro i hi
      obtain ⟨cs', h1, h2⟩ := hall i (by omega)
      rw [Tryz.cellsOp] at h1
      obtain ⟨_, hlen, hcell⟩ := World.cells?_some h1
      obtain ⟨xs, n', _, _, _, hxl, hfs⟩ := DataW.trod_struct Tryz.underlying49 h2
      match cs', hlen with
      | [v0, v1, v2, v3, v4], _ =>
        match xs, hxl with
        | [y0, y1, y2, y3, y4], _ =>
          have g0 := hfs 0 _ rfl
          have g1 := hfs 1 _ rfl
          have g2 := hfs 2 _ rfl
          have g3 := hfs 3 _ rfl
          have g4 := hfs 4 _ rfl
          simp [Tryz.cellsInt, Tryz.cellsStr] at g0 g1 g2 g3 g4
          obtain ⟨k0, e0, _, _⟩ := DataW.trod_int Tryz.underlying3 g0
          obtain ⟨k1, e1, _, w1⟩ := DataW.trod_int Tryz.underlying3 g1
          obtain ⟨k2, e2, _, _⟩ := DataW.trod_int Tryz.underlying3 g2
          obtain ⟨s3, e3, _, _⟩ := DataW.trod_string Tryz.underlying9 g3
          obtain ⟨s4, e4, _, _⟩ := DataW.trod_string Tryz.underlying9 g4
          simp only [List.cons.injEq, and_true] at e0 e1 e2 e3 e4
          subst e0 e1 e2 e3 e4
          have c0 := hcell 0 (by omega)
          have c1 := hcell 1 (by omega)
          have c2 := hcell 2 (by omega)
          have c3 := hcell 3 (by omega)
          have c4 := hcell 4 (by omega)
          simp [Addr.add] at c0 c1 c2 c3 c4
          exact ⟨⟨k0, k1, k2, s3, s4⟩, ⟨by simpa [Addr.add] using c0, by simpa [Addr.add] using c1, by simpa [Addr.add] using c2, by simpa [Addr.add] using c3, by simpa [Addr.add] using c4⟩, bounds_i64 w1⟩
    have : Inhabited OpC := ⟨op0⟩
    obtain ⟨os, hos⟩ := Go.Deep.choose_lt each
    refine ⟨some a, len0, _, os, rfl, ⟨fun hp => ⟨a, rfl, ?_, fun i hi => (hos i hi).1⟩, fun i hi => (hos i hi).2⟩, by omega⟩
    have hb := World.block_lt_of_cell? W _ (hos 0 hp).1.1
    rw [show (a.add (0 * 5)).block = a.block from by unfold Addr.add; split <;> rfl] at hb
    exact hb
end Go.Proofs.YtknokhbilckmiaaGreatDoor

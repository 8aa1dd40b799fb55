import Derived.Test.YtikiaijgcjjloabGreatDoorRows
import Derived.Test.YtikiaijgcjjloabGreatDoorPart10
import Derived.ProofKit
import Derived.LaidMore
import Derived.OpenShut
import Derived.ShutString
import Derived.Stop.Joined
import Derived.Lib.LaidTab
import Derived.Test.YtikiaijgcjjloabGreatDoorPart9
import Derived.ChangeSlices
import Derived.SizedLaws
import Derived.Test.YtikiaijgcjjloabGreatDoorPart19

/- What the rows' listed tables give the walks; the witness' start. -/
namespace Go.Proofs.YtikiaijgcjjloabGreatDoor
open Go Go.ChangeShapes Go.WideShapes Go.ChangeAt Go.WideMaps Go.WideElems Go.RowKit

theorem own : ownKnob Tryz.prog.godebug = none := by kernel_rfl
def laid3 : List (String × DataW Unit) := [("math/bits.deBruijn32tab", Rows.laid_math_bits_deBruijn32tab), ("math/bits.deBruijn64tab", Rows.laid_math_bits_deBruijn64tab), ("internal/strconv.uint64pow10", Rows.laid_internal_strconv_uint64pow10)]
theorem gPow : Tryz.prog.globalNamed "internal/strconv.uint64pow10" = some 0 := by kernel_rfl
theorem tPow : (Tryz.prog.globals[0]?).map (·.type) = some 190 := by kernel_rfl
theorem dPow : (Rows.laid_internal_strconv_uint64pow10 : DataW Unit) = Lib.tabData .u64 Lib.pow10Tab := by kernel_rfl

set_option maxRecDepth 100000 in
theorem door_met (os : Os) (args : Array Value) : laidMetH Tryz.prog laid3 ((World.doorLaid Tryz.prog 400 os).forCall (fun _ _ => 0) ⟨#[], args, []⟩).memory :=
  laidMetH_of_parts3 (fuel := 8) (laidMet_of_run' 8 (by kernel_rfl) (by kernel_rfl)) (by kernel_rfl) (by kernel_rfl)

theorem tab_of_laid {W : World} (h : laidMetH Tryz.prog laid3 W) : Tab W := by
  rw [MakeChecks.laidMetH_plain _ _ _ (by kernel_rfl)] at h
  obtain ⟨ps, ⟨g0, t0, cs0, f0, p0, q0, hg0, ht0, hv0, hd0, ⟨g1, t1, cs1, f1, p1, q1, hg1, ht1, hv1, hd1, ⟨g2, t2, cs2, f2, p2, q2, hg2, ht2, hv2, hd2, _, _⟩, _⟩, _⟩, _, _⟩ := h
  obtain rfl := Option.some.inj (gPow.symm.trans hg2)
  obtain rfl := Option.some.inj (tPow.symm.trans ht2)
  rw [dPow] at hd2
  unfold Tab Lib.TabIs
  rw [hv2, ← Lib.cells_of_tab Tryz.underlying190 Tryz.underlying149 (by kernel_rfl) (by kernel_rfl) hd2]
end Go.Proofs.YtikiaijgcjjloabGreatDoor

/- Raw numbers handed in, opened. -/
namespace Go.Proofs.YtikiaijgcjjloabGreatDoor
open Go Go.ChangeShapes Go.WideShapes Go.ChangeAt Go.WideMaps Go.WideElems Go.RowKit

theorem Tryz.cellsIntO : Tryz.prog.cellsOf 3 = 1 := by kernel_rfl
theorem Tryz.bytesIntO : Tryz.prog.bytesOf 3 = 8 := by kernel_rfl
theorem add_block (a : Addr) (i : Nat) : (a.add i).block = a.block := by unfold Addr.add; split <;> rfl
set_option maxRecDepth 100000 in
/-- Raw numbers, opened. -/
theorem open_raw {H : Type} {enc : TypeId × Value → H} {W : World} {base : Nat} {v : Value} {d : DataW H} {p : List MemPlace} (hval : Value.okWide Tryz.prog W .any base 22 v) (h : DataW.Trod enc Tryz.prog W 0 (fun _ => true) true 22 v d p)
    {ts : List TypeId} {ds : List (DataW H)} {j : Nat} (hsz : (DataW.weightsEach Tryz.prog ts ds).all (· ≤ reachBytes) = true) (ht : ts[j]? = some 22) (hd : ds[j]? = some d) :
    ∃ (ra : Option Addr) (rn rc : Nat) (raw : Nat → Int), v = .slice ra rn rc ∧ RawIs W ra rn raw ∧ rn ≤ 140737488355328 := by
  obtain ⟨ao, len0, cap0, rfl⟩ := Go.WideShapes.okWide_slice Tryz.underlying22 hval
  obtain ⟨fuel, hf⟩ := h
  rcases open_ints Tryz.underlying22 Tryz.underlying3 Tryz.cellsIntO hf with ⟨hc, hx⟩ | ⟨a, len, cap, zs, hc, _, hl, hm, hzl, hx, hcell, hwf⟩
  · simp [Value.cells] at hc
    obtain ⟨rfl, rfl, rfl⟩ := hc
    exact ⟨none, 0, 0, fun _ => 0, rfl, ⟨fun i h => absurd h (Nat.not_lt_zero i)⟩, by omega⟩
  · simp [Value.cells] at hc
    obtain ⟨rfl, rfl, rfl⟩ := hc
    simp only [if_true] at hzl
    simp only [Prod.mk.injEq] at hx
    have hw := sized_slice hsz (j := j) ht (by rw [hd, hx.1]) Tryz.underlying22
    rw [Tryz.bytesIntO] at hw
    have hrb : reachBytes = 140737488351232 := rfl
    rw [hrb] at hw
    have hle : len0 ≤ 140737488355328 := by
      have h1 : (lits (H := H) .i64 (zs.take len0)).length = len0 := by
        unfold lits
        rw [List.length_map, List.length_take]
        omega
      rw [h1] at hw
      omega
    refine ⟨some a, len0, _, fun i => zs.getD i 0, rfl, ⟨fun i hi => ⟨a, rfl, ?_, hcell i (by omega), ?_⟩⟩, hle⟩
    · exact World.block_lt_of_cell? W _ (hcell i (by omega))
    · refine bounds_i64 (hwf _ ?_)
      rw [List.getD_eq_getElem?_getD, List.getElem?_eq_getElem (by omega)]
      exact List.getElem_mem _
end Go.Proofs.YtikiaijgcjjloabGreatDoor

/- The walks: places written. -/
namespace Go.Proofs.YtikiaijgcjjloabGreatDoor
open Go Go.RowKit M T Go.Lib

set_option maxRecDepth 100000 in
set_option maxHeartbeats 1600000 in
theorem placesText_any (g cap : Nat) (ps : List Nat) (w : World) (hc : ∀ i (h : i < ps.length), w.cell? ⟨g, i, none⟩ = some (.int .i64 (ps[i] : Int))) (hg : g < w.heap.size) (hs : ∀ i ∈ ps, i < 12) (hl : ps.length ≤ 100000) (ht : Tab w) :
    Calls Tryz.prog 63 #[.slice (some ⟨g, 0, none⟩) ps.length cap] w fun e w' => e = .returned (.string ⟨(dots ps).toArray⟩) ∧ Below w.heap.size w w' := by
  have HT := hide ht
  clear ht
  go_enter Tryz.func63, Tryz.ntmps63
  go_wp2_with fail
  go_loopw [3, 4, 5, 8] (fun v _ _ i wr => ∃ j : Nat, j ≤ ps.length ∧ i = .int .i64 (j : Int) ∧ v = .string ⟨(dots (ps.take j)).toArray⟩ ∧ Below w.heap.size w wr) (fun _ _ _ i _ => ps.length - (RowKit.intOf i).toNat)
  case atStart => exact ⟨0, by omega, rfl, rfl, Below.refl _ _⟩
  case round =>
    obtain ⟨j, hj, rfl, rfl, hb⟩ := hrel
    have hdl := dots_len ps j hs
    have HB := hide hb
    by_cases hlt : j < ps.length
    · have hcj : wr.cell? ⟨g, j, none⟩ = some (.int .i64 (ps[j] : Int)) := (hb.cell (p := ⟨g, j, none⟩) hg).trans (hc j hlt)
      have HS := hide (dots_step ps j hlt)
      have h12 := hs ps[j] (List.getElem_mem hlt)
      have hd2 : (decDigits ps[j]).length ≤ 2 := dec_len_le 2 _ (by decide) (by omega)
      have HI := hide (itoa_nat (ps[j] : Int) (by omega))
      by_cases h0 : j = 0
      · have h0' : ¬ (0 : Int) < (j : Int) := by omega
        have H0 := hide h0
        clear hb h0
        go_wp2_with fail
        refine (itoa_any _ _ (by omega) (by omega) (tab_below (unhide HT) (unhide HB))).mono ?_
        rintro e w1 ⟨rfl, hb1⟩
        rw [unhide HI, Int.toNat_natCast]
        have HB1 := hide ((unhide HB).trans (hb1.mono (unhide HB).size))
        clear hb1
        go_wp2_with fail
        go_roundw
        case rel => exact ⟨j + 1, by omega, by go_num, by rw [unhide HS, if_pos (unhide H0)]; simp [str_app], unhide HB1⟩
        case measure => simp [RowKit.intOf]; omega
      · have h0' : (0 : Int) < (j : Int) := by omega
        have H0 := hide h0
        clear hb h0
        go_wp2_with fail
        refine (itoa_any _ _ (by omega) (by omega) (tab_below (unhide HT) (unhide HB))).mono ?_
        rintro e w1 ⟨rfl, hb1⟩
        rw [unhide HI, Int.toNat_natCast]
        have HB1 := hide ((unhide HB).trans (hb1.mono (unhide HB).size))
        clear hb1
        go_wp2_with fail
        go_roundw
        case rel => exact ⟨j + 1, by omega, by go_num, by rw [unhide HS, if_neg (unhide H0)]; simp [str_app], unhide HB1⟩
        case measure => simp [RowKit.intOf]; omega
    · have hlt' : ¬ (j : Int) < (ps.length : Int) := by omega
      have hje : j = ps.length := by omega
      have HE := hide (show ps.take j = ps by rw [hje, List.take_length])
      clear hb hje
      go_wp2_with fail
      go_ret
      exact ⟨ret_str (by rw [unhide HE]), unhide HB⟩
end Go.Proofs.YtikiaijgcjjloabGreatDoor

/- The walks: a part written. -/
namespace Go.Proofs.YtikiaijgcjjloabGreatDoor
open Go Go.RowKit M T Go.Lib

theorem str1 (c : UInt8) (l : List UInt8) : (⟨#[c]⟩ : ByteArray) ++ (⟨l.toArray⟩ : ByteArray) = ⟨(c :: l).toArray⟩ := by
  apply ByteArray.ext; simp
theorem below_then {w w1 : World} {o : Obj} (h : Below (w.alloc o).heap.size (w.alloc o) w1) : Below w.heap.size w w1 := (below_box o).trans (h.mono (by simp))
/-- What Text answers of the term at q. -/
def TextAt (q : Nat) (l : List UInt8) (w : World) : Prop := ∀ w', Below w.heap.size w w' → Calls Tryz.prog 24 #[.pointer (some ⟨q, 0, none⟩)] w' fun e w2 => e = .returned (.string ⟨l.toArray⟩) ∧ Below w'.heap.size w' w2
set_option maxRecDepth 100000 in
set_option maxHeartbeats 800000 in
theorem text_letter {c : UInt8} (hc : c = 110 ∨ c = 118 ∨ c = 97 ∨ c = 113 ∨ c = 119 ∨ c = 117 ∨ c = 114 ∨ c = 115 ∨ c = 122 ∨ c = 112 ∨ c = 109 ∨ c = 111) {n k t b : Int} {pa : Option Addr} {pn pc : Nat} {bo ov : Option Addr} (w : World) : Calls Tryz.prog 38 #[.agg #[.int .u8 (c.toNat : Int), .int .u8 n, .int .i64 k, .int .i64 t, .int .i64 b, .slice pa pn pc, .pointer bo, .pointer ov]] w fun e w' => e = .returned (.string ⟨#[c]⟩) ∧ Below w.heap.size w w' := by
  rcases hc with rfl | rfl | rfl | rfl | rfl | rfl | rfl | rfl | rfl | rfl | rfl | rfl
  all_goals
    go_enter Tryz.func38, Tryz.ntmps38
    go_wp2_with fail
    go_ret
    exact ⟨ret_str (by rfl), (by repeat (first | exact Below.refl _ _ | refine below_dr ?_ _ | refine Below.drew ?_ | refine Below.setCell ?_ (by simp) _ | refine Below.alloc ?_ (by simp) _))⟩
set_option maxRecDepth 100000 in
set_option maxHeartbeats 800000 in
theorem text_valued {c : UInt8} (hc : c = 43 ∨ c = 42 ∨ c = 61) {n k t b : Int} {pa : Option Addr} {pn pc : Nat} {bo ov : Option Addr} (w : World) (h1 : -1000000000 ≤ t) (h2 : t ≤ 1000000000) (h3 : 1 ≤ b) (h4 : b ≤ 1000000000) (ht : Tab w) : Calls Tryz.prog 38 #[.agg #[.int .u8 (c.toNat : Int), .int .u8 n, .int .i64 k, .int .i64 t, .int .i64 b, .slice pa pn pc, .pointer bo, .pointer ov]] w fun e w' => e = .returned (.string ⟨(c :: numText t b).toArray⟩) ∧ Below w.heap.size w w' := by
  have HT := hide ht
  clear ht
  have hln : (numText t b).length ≤ 100 := by
    unfold numText
    have e1 := itoa_len t h1 h2
    have e2 := dec_len_ten b.toNat (by omega)
    split <;> simp <;> omega
  have e43 : Utf8.encode 43 = ⟨#[43]⟩ := rfl
  have e42 : Utf8.encode 42 = ⟨#[42]⟩ := rfl
  have e61 : Utf8.encode 61 = ⟨#[61]⟩ := rfl
  rcases hc with rfl | rfl | rfl
  all_goals
    go_enter Tryz.func38, Tryz.ntmps38
    go_wp2_with fail
    refine (Text_any t b _ h1 h2 h3 h4 (tab_alloc (unhide HT) _)).mono ?_
    rintro e w1 ⟨rfl, hb1⟩
    go_wp2_with fail
    go_ret
    exact ⟨ret_str (str1 _ _), below_then hb1⟩
set_option maxRecDepth 100000 in
set_option maxHeartbeats 800000 in
theorem text_counted {c : UInt8} (hc : c = 60 ∨ c = 116 ∨ c = 100) {n k t b : Int} {pa : Option Addr} {pn pc : Nat} {bo ov : Option Addr} (w : World) (h1 : -1000000000 ≤ k) (h2 : k ≤ 1000000000) (ht : Tab w) : Calls Tryz.prog 38 #[.agg #[.int .u8 (c.toNat : Int), .int .u8 n, .int .i64 k, .int .i64 t, .int .i64 b, .slice pa pn pc, .pointer bo, .pointer ov]] w fun e w' => e = .returned (.string ⟨(c :: itoa k).toArray⟩) ∧ Below w.heap.size w w' := by
  have HT := hide ht
  clear ht
  have hln := itoa_len k h1 h2
  have e60 : Utf8.encode 60 = ⟨#[60]⟩ := rfl
  have e116 : Utf8.encode 116 = ⟨#[116]⟩ := rfl
  have e100 : Utf8.encode 100 = ⟨#[100]⟩ := rfl
  rcases hc with rfl | rfl | rfl
  all_goals
    go_enter Tryz.func38, Tryz.ntmps38
    go_wp2_with fail
    refine (itoa_any k _ (by omega) (by omega) (tab_alloc (unhide HT) _)).mono ?_
    rintro e w1 ⟨rfl, hb1⟩
    go_wp2_with fail
    go_ret
    exact ⟨ret_str (str1 _ _), below_then hb1⟩
set_option maxRecDepth 100000 in
set_option maxHeartbeats 800000 in
theorem text_pick {n k t b : Int} {bo ov : Option Addr} (w : World) (g cap : Nat) (ps : List Nat) (hc : ∀ i (h : i < ps.length), w.cell? ⟨g, i, none⟩ = some (.int .i64 (ps[i] : Int))) (hg : g < w.heap.size) (hs : ∀ i ∈ ps, i < 12) (hl : ps.length ≤ 100000) (ht : Tab w) : Calls Tryz.prog 38 #[.agg #[.int .u8 35, .int .u8 n, .int .i64 k, .int .i64 t, .int .i64 b, .slice (some ⟨g, 0, none⟩) ps.length cap, .pointer bo, .pointer ov]] w fun e w' => e = .returned (.string ⟨(35 :: dots ps).toArray⟩) ∧ Below w.heap.size w w' := by
  have HT := hide ht
  have HC := hide hc
  have HS := hide hs
  have hln : (dots ps).length ≤ 300000 := by have := dots_len ps ps.length hs; rw [List.take_length] at this; omega
  clear ht hc hs
  have e35 : Utf8.encode 35 = ⟨#[35]⟩ := rfl
  go_enter Tryz.func38, Tryz.ntmps38
  go_wp2_with fail
  refine (placesText_any g cap ps _ (fun i h => ((below_box _).cell (p := ⟨g, i, none⟩) hg).trans (unhide HC i h)) (by simp; omega) (unhide HS) hl (tab_alloc (unhide HT) _)).mono ?_
  rintro e w1 ⟨rfl, hb1⟩
  go_wp2_with fail
  go_ret
  exact ⟨ret_str (str1 _ _), below_then hb1⟩
set_option maxRecDepth 100000 in
set_option maxHeartbeats 800000 in
theorem text_name {c : UInt8} (h1 : c.toNat < 128) {k t b : Int} {pa : Option Addr} {pn pc : Nat} {bo ov : Option Addr} (w : World) : Calls Tryz.prog 38 #[.agg #[.int .u8 65, .int .u8 (c.toNat : Int), .int .i64 k, .int .i64 t, .int .i64 b, .slice pa pn pc, .pointer bo, .pointer ov]] w fun e w' => e = .returned (.string ⟨#[c]⟩) ∧ Below w.heap.size w w' := by
  have HE := hide (encode_small c h1)
  go_enter Tryz.func38, Tryz.ntmps38
  go_wp2_with fail
  go_ret
  exact ⟨ret_str (unhide HE), (by repeat (first | exact Below.refl _ _ | refine below_dr ?_ _ | refine Below.drew ?_ | refine Below.setCell ?_ (by simp) _ | refine Below.alloc ?_ (by simp) _))⟩
set_option maxRecDepth 100000 in
set_option maxHeartbeats 1600000 in
theorem text_pow {n k t b : Int} {pa : Option Addr} {pn pc : Nat} {ov : Option Addr} (w : World) (q : Nat) (l : List UInt8) (hl : l.length ≤ 100000) (hB : TextAt q l w) (h1 : -1000000000 ≤ k) (h2 : k ≤ 1000000000) (ht : Tab w) : Calls Tryz.prog 38 #[.agg #[.int .u8 40, .int .u8 n, .int .i64 k, .int .i64 t, .int .i64 b, .slice pa pn pc, .pointer (some ⟨q, 0, none⟩), .pointer ov]] w fun e w' => e = .returned (.string ⟨(40 :: (l ++ 41 :: 94 :: itoa k)).toArray⟩) ∧ Below w.heap.size w w' := by
  have HT := hide ht
  have HBB := hide hB
  have hln := itoa_len k h1 h2
  clear ht hB
  go_enter Tryz.func38, Tryz.ntmps38
  go_wp2_with fail
  refine (unhide HBB _ (below_box _)).mono ?_
  rintro e w1 ⟨rfl, hb1⟩
  have HB1 := hide (below_then hb1)
  obtain ⟨hc1, hf1⟩ := bcell hb1
  clear hb1
  go_wp2_with fail
  refine (itoa_any k _ (by omega) (by omega) (tab_below (unhide HT) (unhide HB1))).mono ?_
  rintro e w2 ⟨rfl, hb2⟩
  go_wp2_with fail
  go_ret
  exact ⟨ret_str (by apply ByteArray.ext; simp), (unhide HB1).trans (hb2.mono (unhide HB1).size)⟩
set_option maxRecDepth 100000 in
set_option maxHeartbeats 1600000 in
theorem text_under {n k t b : Int} {pa : Option Addr} {pn pc : Nat} (w : World) (q q' : Nat) (l l' : List UInt8) (hl : l.length ≤ 100000) (hl' : l'.length ≤ 100000) (hB : TextAt q l w) (hO : TextAt q' l' w) : Calls Tryz.prog 38 #[.agg #[.int .u8 91, .int .u8 n, .int .i64 k, .int .i64 t, .int .i64 b, .slice pa pn pc, .pointer (some ⟨q, 0, none⟩), .pointer (some ⟨q', 0, none⟩)]] w fun e w' => e = .returned (.string ⟨(91 :: (l' ++ 58 :: (l ++ [93]))).toArray⟩) ∧ Below w.heap.size w w' := by
  have HBB := hide hB
  have HO := hide hO
  clear hB hO
  go_enter Tryz.func38, Tryz.ntmps38
  go_wp2_with fail
  refine (unhide HO _ (below_box _)).mono ?_
  rintro e w1 ⟨rfl, hb1⟩
  have HB1 := hide (below_then hb1)
  obtain ⟨hc1, hf1⟩ := bcell hb1
  clear hb1
  go_wp2_with fail
  refine (unhide HBB _ (unhide HB1)).mono ?_
  rintro e w2 ⟨rfl, hb2⟩
  go_wp2_with fail
  go_ret
  exact ⟨ret_str (by apply ByteArray.ext; simp), (unhide HB1).trans (hb2.mono (unhide HB1).size)⟩
end Go.Proofs.YtikiaijgcjjloabGreatDoor

/- The walks: a term written. -/
namespace Go.Proofs.YtikiaijgcjjloabGreatDoor
open Go Go.RowKit M T Go.Lib

/-- What text answers of a part. -/
def PtText (p : Pt) : Prop := p.wf → p.text.length ≤ 100000 → ∀ (Ok : Nat → Prop) (x : PC) (w : World), PtIs Ok w x p → Tab w → Calls Tryz.prog 38 #[PC.value x] w fun e w' => e = .returned (.string ⟨p.text.toArray⟩) ∧ Below w.heap.size w w'

set_option maxRecDepth 100000 in
set_option maxHeartbeats 1600000 in
theorem text_loop (ps : List Pt) (hP : ∀ p ∈ ps, PtText p) (hw : ∀ p ∈ ps, p.wf) (hl : (Tm.of ps).text.length ≤ 100000) (Ok : Nat → Prop) (b : Nat) (w : World) (h : TmIs Ok w b (Tm.of ps)) (ht : Tab w) :
    Calls Tryz.prog 24 #[.pointer (some ⟨b, 0, none⟩)] w fun e w' => e = .returned (.string ⟨(Tm.of ps).text.toArray⟩) ∧ Below w.heap.size w w' := by
  obtain ⟨sl, xs, hd, hps⟩ := h
  have hlen := PsIs.length ps xs hps
  have hc0 : w.cell? ⟨b, 0, none⟩ = some sl := by rw [blk_cell hd.blk]; rfl
  have HD := hide hd
  have HPS := hide hps
  have HP := hide hP
  have HW := hide hw
  have HT := hide ht
  have HL := hide hl
  have HLen := hide hlen
  rcases hd.row.2 with ⟨hnil, hn0⟩ | ⟨g, cap, cur, hv, _, hh, hcap, _⟩
  · have hps0 : ps = [] := List.eq_nil_of_length_eq_zero (by omega)
    subst hps0
    subst hnil
    clear hd hps hP hw ht hl hlen hn0
    go_enter Tryz.func24, Tryz.ntmps24
    go_wp2_with fail
    refine wp_loop_rounds 1 ?_
    rw [rounds_succ]
    go_wp2_with fail
    go_ret
    exact ⟨ret_str (by rw [Tm.of, Tm.text]), (by repeat (first | exact Below.refl _ _ | refine below_dr ?_ _ | refine Below.drew ?_ | refine Below.setCell ?_ (by simp) _ | refine Below.alloc ?_ (by simp) _))⟩
  · subst hv
    have hg := lt_of_block hh
    have hrow := hd.row
    have HRow := hide hrow
    have hxl : xs.length ≤ 100000 := by
      have key : ∀ qs : List Pt, qs.length ≤ (Tm.of qs).text.length := by
        intro qs
        induction qs with
        | nil => simp
        | cons q qs ih =>
          obtain ⟨l, e⟩ := Pt.text_first q
          rw [Tm.of, Tm.text, e, List.length_append, List.length_cons, List.length_cons]
          omega
      have := key ps
      omega
    clear hd hps hP hw ht hl hlen hcap hrow hh
    go_enter Tryz.func24, Tryz.ntmps24
    go_wp2_with fail
    go_loopw [3, 5, 11] (fun v _ i wr => ∃ j : Nat, j ≤ xs.length ∧ i = .int .i64 (j : Int) ∧ v = .string ⟨(tx ps j).toArray⟩ ∧ Below w.heap.size w wr) (fun _ _ i _ => xs.length - (RowKit.intOf i).toNat)
    case atStart => exact ⟨0, by omega, rfl, by rw [tx_zero], Below.refl _ _⟩
    case round =>
      obtain ⟨j, hj, rfl, rfl, hb⟩ := hrel
      have HB := hide hb
      have hdl := text_take_len ps j
      have hl := unhide HL
      by_cases hlt : j < xs.length
      · have hjp : j < ps.length := by have := unhide HLen; omega
        have hcell : ∀ i, i < 8 → wr.cell? ⟨g, j * 8 + i, none⟩ = (xs[j].cells)[i]? := fun i hi => (hb.cell (p := ⟨g, j * 8 + i, none⟩) hg).trans (row_cell (unhide HRow) hlt i hi)
        have hpt := PsIs.get ps xs (unhide HPS) j hjp hlt
        have HST := hide (text_take ps j hjp)
        have hql := text_get_len ps j hjp
        have HC := hide (unhide HP ps[j] (List.getElem_mem hjp) (unhide HW _ (List.getElem_mem hjp)) (by omega) Ok)
        generalize xs[j] = x at hcell hpt
        generalize ps[j] = p at hpt HST hql HC
        obtain ⟨L, N, K, Tp, Bt, pa, pn, pc, Bo, Ov⟩ := x
        have c0 : wr.cell? ⟨g, j * 8, none⟩ = some (.int .u8 (L.toNat : Int)) := hcell 0 (by omega)
        have c1 : wr.cell? ⟨g, j * 8 + 1, none⟩ = some (.int .u8 (N.toNat : Int)) := hcell 1 (by omega)
        have c2 : wr.cell? ⟨g, j * 8 + 2, none⟩ = some (.int .i64 K) := hcell 2 (by omega)
        have c3 : wr.cell? ⟨g, j * 8 + 3, none⟩ = some (.int .i64 Tp) := hcell 3 (by omega)
        have c4 : wr.cell? ⟨g, j * 8 + 4, none⟩ = some (.int .i64 Bt) := hcell 4 (by omega)
        have c5 : wr.cell? ⟨g, j * 8 + 5, none⟩ = some (.slice pa pn pc) := hcell 5 (by omega)
        have c6 : wr.cell? ⟨g, j * 8 + 6, none⟩ = some (.pointer (Bo.map fun b => ⟨b, 0, none⟩)) := hcell 6 (by omega)
        have c7 : wr.cell? ⟨g, j * 8 + 7, none⟩ = some (.pointer (Ov.map fun b => ⟨b, 0, none⟩)) := hcell 7 (by omega)
        have HPT := hide hpt
        clear hcell hpt hb
        go_wp2_with fail
        refine (unhide HC ⟨L, N, K, Tp, Bt, pa, pn, pc, Bo, Ov⟩ _ (PtIs.keeps (fun k hk hkl => ⟨(Below.heap_alloc _ _ _ (Nat.lt_of_lt_of_le hkl (unhide HB).size)).trans ((unhide HB).block k hkl), hk⟩) _ _ (unhide HPT)) (tab_alloc (tab_below (unhide HT) (unhide HB)) _)).mono ?_
        rintro e w1 ⟨rfl, hb1⟩
        have HB1 := hide ((unhide HB).trans ((below_then hb1).mono (unhide HB).size))
        clear hb1
        go_wp2_with fail
        go_roundw
        case rel => exact ⟨j + 1, by omega, by go_num, by rw [unhide HST]; simp [str_app], unhide HB1⟩
        case measure => simp [RowKit.intOf]; omega
      · have hlt' : ¬ (j : Int) < (xs.length : Int) := by omega
        have HE := hide (tx_all ps j (by have := unhide HLen; omega))
        clear hb
        go_wp2_with fail
        go_ret
        exact ⟨ret_str (by rw [unhide HE]), unhide HB⟩
theorem textAt_of {f : Tm} (hP : ∀ p ∈ f.parts, PtText p) (hw : f.wf) (hl : f.text.length ≤ 100000) {Ok : Nat → Prop} {b : Nat} {w : World} (h : TmIs Ok w b f) (ht : Tab w) : TextAt b f.text w := by
  intro w' hb
  have e := Tm.of_parts f
  have h' : TmIs (fun _ => True) w' b f := h.typed.keeps (fun k _ hl => ⟨hb.block k hl, trivial⟩)
  have hw' : (Tm.of f.parts).wf := by rw [e]; exact hw
  have := text_loop f.parts hP ((Tm.of_wf f.parts).1 hw') (by rw [e]; exact hl) (fun _ => True) b w' (by rw [e]; exact h') (tab_below ht hb)
  rw [e] at this
  exact this
mutual
theorem Pt.text_call : ∀ p : Pt, PtText p
  | .sp y => by
    intro hw hl Ok x w h ht
    obtain ⟨L, N, K, Tp, Bt, pa, pn, pc, Bo, Ov⟩ := x
    rw [PtIs] at h
    obtain ⟨h1, h2⟩ := h
    have h1' : L = y.first := h1
    subst h1'
    rw [Pt.wf] at hw
    rw [Pt.text]
    have val : ∀ c : Rat, small c = true → Tp = c.num → Bt = (c.den : Int) → -1000000000 ≤ Tp ∧ Tp ≤ 1000000000 ∧ 1 ≤ Bt ∧ Bt ≤ 1000000000 ∧ numText Tp Bt = ratText c := by
      intro c hc e1 e2
      have := rat_isNum hc
      subst e1 e2
      exact ⟨this.lo, this.hi, this.b1, this.b2, rfl⟩
    cases y with
    | plus c =>
      obtain ⟨a1, a2, a3, a4, a5⟩ := val c hw h2.1 h2.2
      have := text_valued (c := 43) (by decide) (n := (N.toNat : Int)) (k := K) (pa := pa) (pn := pn) (pc := pc) (bo := Bo.map fun b => ⟨b, 0, none⟩) (ov := Ov.map fun b => ⟨b, 0, none⟩) w a1 a2 a3 a4 ht
      rw [a5] at this
      exact this
    | times c =>
      obtain ⟨a1, a2, a3, a4, a5⟩ := val c hw h2.1 h2.2
      have := text_valued (c := 42) (by decide) (n := (N.toNat : Int)) (k := K) (pa := pa) (pn := pn) (pc := pc) (bo := Bo.map fun b => ⟨b, 0, none⟩) (ov := Ov.map fun b => ⟨b, 0, none⟩) w a1 a2 a3 a4 ht
      rw [a5] at this
      exact this
    | set c =>
      obtain ⟨a1, a2, a3, a4, a5⟩ := val c hw h2.1 h2.2
      have := text_valued (c := 61) (by decide) (n := (N.toNat : Int)) (k := K) (pa := pa) (pn := pn) (pc := pc) (bo := Bo.map fun b => ⟨b, 0, none⟩) (ov := Ov.map fun b => ⟨b, 0, none⟩) w a1 a2 a3 a4 ht
      rw [a5] at this
      exact this
    | shift k =>
      have e : K = k := h2
      subst e
      exact text_counted (c := 60) (by decide) w (by have := hw.1; omega) (by have := hw.2; omega) ht
    | take k =>
      have e : K = (k : Int) := h2
      have hk : k ≤ 12 := hw
      have := text_counted (c := 116) (by decide) (n := (N.toNat : Int)) (k := K) (t := Tp) (b := Bt) (pa := pa) (pn := pn) (pc := pc) (bo := Bo.map fun b => ⟨b, 0, none⟩) (ov := Ov.map fun b => ⟨b, 0, none⟩) w (by omega) (by omega) ht
      rw [itoa_nat K (by omega), show K.toNat = k by omega] at this
      exact this
    | drop k =>
      have e : K = (k : Int) := h2
      have hk : k ≤ 12 := hw
      have := text_counted (c := 100) (by decide) (n := (N.toNat : Int)) (k := K) (t := Tp) (b := Bt) (pa := pa) (pn := pn) (pc := pc) (bo := Bo.map fun b => ⟨b, 0, none⟩) (ov := Ov.map fun b => ⟨b, 0, none⟩) w (by omega) (by omega) ht
      rw [itoa_nat K (by omega), show K.toNat = k by omega] at this
      exact this
    | pick ps =>
      obtain ⟨o1, o2⟩ := h2
      have hne : (Value.slice pa pn pc) ≠ .slice none 0 0 := by
        intro e
        have hz := owns_len o1
        cases e
        exact hw.1 (List.eq_nil_of_length_eq_zero hz.symm)
      obtain ⟨g, cap, e⟩ := owns_some o1 hne
      cases e
      obtain ⟨_, _, hcell⟩ := owns_int o1
      have hg := (o1.lt g rfl).2
      have hlen : ps.length ≤ 100000 := by
        have key : ∀ qs : List Nat, qs.length ≤ (dots qs).length := by
          intro qs
          induction qs with
          | nil => simp
          | cons q qs ih =>
            have h1 := dec_length_pos q
            by_cases hn : qs = []
            · subst hn; simp [dots]; omega
            · rw [dots_cons q qs hn]; simp; omega
        have := key ps
        rw [Pt.text, Sp.text, List.length_cons] at hl
        omega
      exact text_pick w g _ ps hcell hg hw.2.2 hlen ht
    | _ => exact text_letter (by simp [Sp.first]) w
  | .pow f k => by
    intro hw hl Ok x w h ht
    obtain ⟨L, N, K, Tp, Bt, pa, pn, pc, Bo, Ov⟩ := x
    obtain ⟨h1, h2, b, h3, h4⟩ := PtIs.pow_iff.1 h
    have h1' : L = 40 := h1
    have h2' : K = k := h2
    have h3' : Bo = some b := h3
    subst h1' h2' h3'
    rw [Pt.wf] at hw
    rw [Pt.text] at hl ⊢
    have hfl : f.text.length ≤ 100000 := by simp at hl; omega
    exact text_pow w b f.text hfl (textAt_of (Tm.text_all f) hw.1 hfl h4 ht) (by omega) (by omega) ht
  | .under s g => by
    intro hw hl Ok x w h ht
    obtain ⟨L, N, K, Tp, Bt, pa, pn, pc, Bo, Ov⟩ := x
    obtain ⟨h1, ⟨b, h3, h4⟩, b', h5, h6⟩ := PtIs.under_iff.1 h
    have h1' : L = 91 := h1
    have h3' : Bo = some b := h3
    have h5' : Ov = some b' := h5
    subst h1' h3' h5'
    rw [Pt.wf] at hw
    rw [Pt.text] at hl ⊢
    have hsl : s.text.length ≤ 100000 := by simp at hl; omega
    have hgl : g.text.length ≤ 100000 := by simp at hl; omega
    exact text_under w b b' g.text s.text hgl hsl (textAt_of (Tm.text_all g) hw.2 hgl h4 ht) (textAt_of (Tm.text_all s) hw.1 hsl h6 ht)
  | .name c t => by
    intro hw hl Ok x w h ht
    obtain ⟨L, N, K, Tp, Bt, pa, pn, pc, Bo, Ov⟩ := x
    obtain ⟨h1, h2, _⟩ := PtIs.name_iff.1 h
    have h1' : L = 65 := h1
    have h2' : N = c := h2
    subst h1' h2'
    rw [Pt.wf] at hw
    rw [Pt.text]
    exact text_name (c := N) (by omega) w
theorem Tm.text_all : ∀ t : Tm, ∀ p ∈ t.parts, PtText p
  | .nil => fun p h => by rw [Tm.parts] at h; cases h
  | .cons q t => fun p h => by
    rw [Tm.parts] at h
    rcases List.mem_cons.1 h with e | h
    · rw [e]; exact Pt.text_call q
    · exact Tm.text_all t p h
end
/-- A term in memory, written. -/
theorem tText_any {t : Tm} (hw : t.wf) (hl : t.text.length ≤ 100000) {Ok : Nat → Prop} {b : Nat} {w : World} (h : TmIs Ok w b t) (ht : Tab w) : Calls Tryz.prog 24 #[.pointer (some ⟨b, 0, none⟩)] w fun e w' => e = .returned (.string ⟨t.text.toArray⟩) ∧ Below w.heap.size w w' := textAt_of (Tm.text_all t) hw hl h ht w (Below.refl _ _)
end Go.Proofs.YtikiaijgcjjloabGreatDoor

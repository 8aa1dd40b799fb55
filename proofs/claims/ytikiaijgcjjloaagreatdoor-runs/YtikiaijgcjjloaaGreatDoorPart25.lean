import Derived.Test.YtikiaijgcjjloaaGreatDoorPart24

namespace Go.Proofs.YtikiaijgcjjloaaGreatDoor
open Go Go.RowKit M T Go.Lib
def PtOpp (p : Pt) : Prop := p.wf → p.back = true → ∀ (B : Nat) (x : PC) (w : World), B ≤ w.heap.size → PtIs (fun k => k < B) w x p → Calls Tryz.prog 102 #[PC.value x] w fun e w' => ∃ x', e = .returned (.tuple #[PC.value x', .bool true]) ∧ PtIs (Okw B w) w' x' p.opp ∧ Below w.heap.size w w'
theorem two_old {w : World} {B : Nat} {x : PC} {p : Pt} (h : PtIs (fun k => k < B) w x p) (o o' : Obj) : PtIs (fun k => k < B) ((w.alloc o).alloc o') x p :=
  PtIs.keeps (fun k hk hl => ⟨by rw [Below.heap_alloc _ _ _ (by simp; omega), Below.heap_alloc _ _ _ hl], hk⟩) _ _ h
theorem box_facts {w w1 : World} {c : Array Value} {T : TypeId} {o : Obj} (hb : Below ((w.alloc (.cells c T)).alloc o).heap.size ((w.alloc (.cells c T)).alloc o) w1) : ∀ i, w1.cell? ⟨w.heap.size, i, none⟩ = c[i]? := fun i =>
  ((bcell hb).1 w.heap.size i (by simp; omega)).trans (blk_cell ((Below.heap_alloc _ _ _ (by simp)).trans (heap_alloc_new w _)) i)
set_option maxRecDepth 100000 in
set_option maxHeartbeats 1600000 in
theorem opp_n  {N : UInt8} {K Tp Bt : Int} {pa : Option Addr} {pn pc : Nat} {Bo Ov : Option Nat} {B : Nat} {w : World} (hbk : (Pt.sp .n).back = true) (_hB : B ≤ w.heap.size) (h : PtIs (fun k => k < B) w ⟨110, N, K, Tp, Bt, pa, pn, pc, Bo, Ov⟩ (Pt.sp .n)) : Calls Tryz.prog 102 #[PC.value ⟨110, N, K, Tp, Bt, pa, pn, pc, Bo, Ov⟩] w fun e w' => ∃ x', e = .returned (.tuple #[PC.value x', .bool true]) ∧ PtIs (Okw B w) w' x' (Pt.sp .n).opp ∧ Below w.heap.size w w' := by
  have H := hide h
  have HBK := hide hbk
  clear h hbk
  show Calls _ _ #[.agg #[.int .u8 110, .int .u8 (N.toNat : Int), .int .i64 K, .int .i64 Tp, .int .i64 Bt, .slice pa pn pc, .pointer (Bo.map fun b => ⟨b, 0, none⟩), .pointer (Ov.map fun b => ⟨b, 0, none⟩)]] _ _
  go_enter Tryz.func102, Tryz.ntmps102
  go_wp2_with fail
  refine (hasBack_is (x := ⟨110, N, K, Tp, Bt, pa, pn, pc, Bo, Ov⟩) (two_old (unhide H) _ _)).mono ?_
  rintro e w1 ⟨rfl, hb1⟩
  rw [unhide HBK]
  obtain ⟨hc1, hf1, hl1, hb, hblk⟩ := res_facts hb1
  have hbx : ∀ i, w1.cell? ⟨w.heap.size, i, none⟩ = (#[.int .u8 110, .int .u8 (N.toNat : Int), .int .i64 K, .int .i64 Tp, .int .i64 Bt, .slice pa pn pc, .pointer (Bo.map fun b => ⟨b, 0, none⟩), .pointer (Ov.map fun b => ⟨b, 0, none⟩)] : Array Value)[i]? := box_facts hb1
  have HB := hide hb
  have HK := hide hblk
  clear hb hblk hb1
  go_wp2_with fail
  refine (oppLetter_any (c := 110) (d := 110) (by decide) _).mono ?_
  rintro e w2 ⟨rfl, hb2⟩
  rw [show PC.value (pcLet 110) = .agg #[.int .u8 110, .int .u8 0, .int .i64 0, .int .i64 0, .int .i64 0, .slice none 0 0, .pointer none, .pointer none] from rfl]
  have hblk2 := (hb2.block (w.heap.size + 1) (lt_of_block (unhide HK))).trans (unhide HK)
  have hc2 : ∀ i, w2.cell? ⟨w.heap.size + 1, i, none⟩ = _ := fun i => blk_cell hblk2 i
  have hf2 : ∀ i, w2.frozen? ⟨w.heap.size + 1, i, none⟩ = false := fun i => blk_free hblk2 i
  have HB2 := hide ((unhide HB).trans (hb2.mono (unhide HB).size))
  clear hblk2 hb2
  go_wp2_with fail
  exact bodyPost_ret (v := .tuple #[PC.value (pcLet 110), .bool true]) (by simp [results, Tryz.results102, go_sem, hc2, PC.value, PC.cells, ptr, pcLet]) rfl ⟨(pcLet 110), rfl, let_is (x := .n) rfl, st8_below (unhide HB2) (Nat.le_succ _) _ _ _ _ _ _ _ _⟩
set_option maxRecDepth 100000 in
set_option maxHeartbeats 1600000 in
theorem opp_v  {N : UInt8} {K Tp Bt : Int} {pa : Option Addr} {pn pc : Nat} {Bo Ov : Option Nat} {B : Nat} {w : World} (hbk : (Pt.sp .v).back = true) (_hB : B ≤ w.heap.size) (h : PtIs (fun k => k < B) w ⟨118, N, K, Tp, Bt, pa, pn, pc, Bo, Ov⟩ (Pt.sp .v)) : Calls Tryz.prog 102 #[PC.value ⟨118, N, K, Tp, Bt, pa, pn, pc, Bo, Ov⟩] w fun e w' => ∃ x', e = .returned (.tuple #[PC.value x', .bool true]) ∧ PtIs (Okw B w) w' x' (Pt.sp .v).opp ∧ Below w.heap.size w w' := by
  have H := hide h
  have HBK := hide hbk
  clear h hbk
  show Calls _ _ #[.agg #[.int .u8 118, .int .u8 (N.toNat : Int), .int .i64 K, .int .i64 Tp, .int .i64 Bt, .slice pa pn pc, .pointer (Bo.map fun b => ⟨b, 0, none⟩), .pointer (Ov.map fun b => ⟨b, 0, none⟩)]] _ _
  go_enter Tryz.func102, Tryz.ntmps102
  go_wp2_with fail
  refine (hasBack_is (x := ⟨118, N, K, Tp, Bt, pa, pn, pc, Bo, Ov⟩) (two_old (unhide H) _ _)).mono ?_
  rintro e w1 ⟨rfl, hb1⟩
  rw [unhide HBK]
  obtain ⟨hc1, hf1, hl1, hb, hblk⟩ := res_facts hb1
  have hbx : ∀ i, w1.cell? ⟨w.heap.size, i, none⟩ = (#[.int .u8 118, .int .u8 (N.toNat : Int), .int .i64 K, .int .i64 Tp, .int .i64 Bt, .slice pa pn pc, .pointer (Bo.map fun b => ⟨b, 0, none⟩), .pointer (Ov.map fun b => ⟨b, 0, none⟩)] : Array Value)[i]? := box_facts hb1
  have HB := hide hb
  have HK := hide hblk
  clear hb hblk hb1
  go_wp2_with fail
  refine (oppLetter_any (c := 118) (d := 118) (by decide) _).mono ?_
  rintro e w2 ⟨rfl, hb2⟩
  rw [show PC.value (pcLet 118) = .agg #[.int .u8 118, .int .u8 0, .int .i64 0, .int .i64 0, .int .i64 0, .slice none 0 0, .pointer none, .pointer none] from rfl]
  have hblk2 := (hb2.block (w.heap.size + 1) (lt_of_block (unhide HK))).trans (unhide HK)
  have hc2 : ∀ i, w2.cell? ⟨w.heap.size + 1, i, none⟩ = _ := fun i => blk_cell hblk2 i
  have hf2 : ∀ i, w2.frozen? ⟨w.heap.size + 1, i, none⟩ = false := fun i => blk_free hblk2 i
  have HB2 := hide ((unhide HB).trans (hb2.mono (unhide HB).size))
  clear hblk2 hb2
  go_wp2_with fail
  exact bodyPost_ret (v := .tuple #[PC.value (pcLet 118), .bool true]) (by simp [results, Tryz.results102, go_sem, hc2, PC.value, PC.cells, ptr, pcLet]) rfl ⟨(pcLet 118), rfl, let_is (x := .v) rfl, st8_below (unhide HB2) (Nat.le_succ _) _ _ _ _ _ _ _ _⟩
set_option maxRecDepth 100000 in
set_option maxHeartbeats 1600000 in
theorem opp_r  {N : UInt8} {K Tp Bt : Int} {pa : Option Addr} {pn pc : Nat} {Bo Ov : Option Nat} {B : Nat} {w : World} (hbk : (Pt.sp .r).back = true) (_hB : B ≤ w.heap.size) (h : PtIs (fun k => k < B) w ⟨114, N, K, Tp, Bt, pa, pn, pc, Bo, Ov⟩ (Pt.sp .r)) : Calls Tryz.prog 102 #[PC.value ⟨114, N, K, Tp, Bt, pa, pn, pc, Bo, Ov⟩] w fun e w' => ∃ x', e = .returned (.tuple #[PC.value x', .bool true]) ∧ PtIs (Okw B w) w' x' (Pt.sp .r).opp ∧ Below w.heap.size w w' := by
  have H := hide h
  have HBK := hide hbk
  clear h hbk
  show Calls _ _ #[.agg #[.int .u8 114, .int .u8 (N.toNat : Int), .int .i64 K, .int .i64 Tp, .int .i64 Bt, .slice pa pn pc, .pointer (Bo.map fun b => ⟨b, 0, none⟩), .pointer (Ov.map fun b => ⟨b, 0, none⟩)]] _ _
  go_enter Tryz.func102, Tryz.ntmps102
  go_wp2_with fail
  refine (hasBack_is (x := ⟨114, N, K, Tp, Bt, pa, pn, pc, Bo, Ov⟩) (two_old (unhide H) _ _)).mono ?_
  rintro e w1 ⟨rfl, hb1⟩
  rw [unhide HBK]
  obtain ⟨hc1, hf1, hl1, hb, hblk⟩ := res_facts hb1
  have hbx : ∀ i, w1.cell? ⟨w.heap.size, i, none⟩ = (#[.int .u8 114, .int .u8 (N.toNat : Int), .int .i64 K, .int .i64 Tp, .int .i64 Bt, .slice pa pn pc, .pointer (Bo.map fun b => ⟨b, 0, none⟩), .pointer (Ov.map fun b => ⟨b, 0, none⟩)] : Array Value)[i]? := box_facts hb1
  have HB := hide hb
  have HK := hide hblk
  clear hb hblk hb1
  go_wp2_with fail
  refine (oppLetter_any (c := 114) (d := 114) (by decide) _).mono ?_
  rintro e w2 ⟨rfl, hb2⟩
  rw [show PC.value (pcLet 114) = .agg #[.int .u8 114, .int .u8 0, .int .i64 0, .int .i64 0, .int .i64 0, .slice none 0 0, .pointer none, .pointer none] from rfl]
  have hblk2 := (hb2.block (w.heap.size + 1) (lt_of_block (unhide HK))).trans (unhide HK)
  have hc2 : ∀ i, w2.cell? ⟨w.heap.size + 1, i, none⟩ = _ := fun i => blk_cell hblk2 i
  have hf2 : ∀ i, w2.frozen? ⟨w.heap.size + 1, i, none⟩ = false := fun i => blk_free hblk2 i
  have HB2 := hide ((unhide HB).trans (hb2.mono (unhide HB).size))
  clear hblk2 hb2
  go_wp2_with fail
  exact bodyPost_ret (v := .tuple #[PC.value (pcLet 114), .bool true]) (by simp [results, Tryz.results102, go_sem, hc2, PC.value, PC.cells, ptr, pcLet]) rfl ⟨(pcLet 114), rfl, let_is (x := .r) rfl, st8_below (unhide HB2) (Nat.le_succ _) _ _ _ _ _ _ _ _⟩
set_option maxRecDepth 100000 in
set_option maxHeartbeats 1600000 in
theorem opp_q  {N : UInt8} {K Tp Bt : Int} {pa : Option Addr} {pn pc : Nat} {Bo Ov : Option Nat} {B : Nat} {w : World} (hbk : (Pt.sp .q).back = true) (_hB : B ≤ w.heap.size) (h : PtIs (fun k => k < B) w ⟨113, N, K, Tp, Bt, pa, pn, pc, Bo, Ov⟩ (Pt.sp .q)) : Calls Tryz.prog 102 #[PC.value ⟨113, N, K, Tp, Bt, pa, pn, pc, Bo, Ov⟩] w fun e w' => ∃ x', e = .returned (.tuple #[PC.value x', .bool true]) ∧ PtIs (Okw B w) w' x' (Pt.sp .q).opp ∧ Below w.heap.size w w' := by
  have H := hide h
  have HBK := hide hbk
  clear h hbk
  show Calls _ _ #[.agg #[.int .u8 113, .int .u8 (N.toNat : Int), .int .i64 K, .int .i64 Tp, .int .i64 Bt, .slice pa pn pc, .pointer (Bo.map fun b => ⟨b, 0, none⟩), .pointer (Ov.map fun b => ⟨b, 0, none⟩)]] _ _
  go_enter Tryz.func102, Tryz.ntmps102
  go_wp2_with fail
  refine (hasBack_is (x := ⟨113, N, K, Tp, Bt, pa, pn, pc, Bo, Ov⟩) (two_old (unhide H) _ _)).mono ?_
  rintro e w1 ⟨rfl, hb1⟩
  rw [unhide HBK]
  obtain ⟨hc1, hf1, hl1, hb, hblk⟩ := res_facts hb1
  have hbx : ∀ i, w1.cell? ⟨w.heap.size, i, none⟩ = (#[.int .u8 113, .int .u8 (N.toNat : Int), .int .i64 K, .int .i64 Tp, .int .i64 Bt, .slice pa pn pc, .pointer (Bo.map fun b => ⟨b, 0, none⟩), .pointer (Ov.map fun b => ⟨b, 0, none⟩)] : Array Value)[i]? := box_facts hb1
  have HB := hide hb
  have HK := hide hblk
  clear hb hblk hb1
  go_wp2_with fail
  refine (oppLetter_any (c := 113) (d := 119) (by decide) _).mono ?_
  rintro e w2 ⟨rfl, hb2⟩
  rw [show PC.value (pcLet 119) = .agg #[.int .u8 119, .int .u8 0, .int .i64 0, .int .i64 0, .int .i64 0, .slice none 0 0, .pointer none, .pointer none] from rfl]
  have hblk2 := (hb2.block (w.heap.size + 1) (lt_of_block (unhide HK))).trans (unhide HK)
  have hc2 : ∀ i, w2.cell? ⟨w.heap.size + 1, i, none⟩ = _ := fun i => blk_cell hblk2 i
  have hf2 : ∀ i, w2.frozen? ⟨w.heap.size + 1, i, none⟩ = false := fun i => blk_free hblk2 i
  have HB2 := hide ((unhide HB).trans (hb2.mono (unhide HB).size))
  clear hblk2 hb2
  go_wp2_with fail
  exact bodyPost_ret (v := .tuple #[PC.value (pcLet 119), .bool true]) (by simp [results, Tryz.results102, go_sem, hc2, PC.value, PC.cells, ptr, pcLet]) rfl ⟨(pcLet 119), rfl, let_is (x := .w) rfl, st8_below (unhide HB2) (Nat.le_succ _) _ _ _ _ _ _ _ _⟩
set_option maxRecDepth 100000 in
set_option maxHeartbeats 1600000 in
theorem opp_u  {N : UInt8} {K Tp Bt : Int} {pa : Option Addr} {pn pc : Nat} {Bo Ov : Option Nat} {B : Nat} {w : World} (hbk : (Pt.sp .u).back = true) (_hB : B ≤ w.heap.size) (h : PtIs (fun k => k < B) w ⟨117, N, K, Tp, Bt, pa, pn, pc, Bo, Ov⟩ (Pt.sp .u)) : Calls Tryz.prog 102 #[PC.value ⟨117, N, K, Tp, Bt, pa, pn, pc, Bo, Ov⟩] w fun e w' => ∃ x', e = .returned (.tuple #[PC.value x', .bool true]) ∧ PtIs (Okw B w) w' x' (Pt.sp .u).opp ∧ Below w.heap.size w w' := by
  have H := hide h
  have HBK := hide hbk
  clear h hbk
  show Calls _ _ #[.agg #[.int .u8 117, .int .u8 (N.toNat : Int), .int .i64 K, .int .i64 Tp, .int .i64 Bt, .slice pa pn pc, .pointer (Bo.map fun b => ⟨b, 0, none⟩), .pointer (Ov.map fun b => ⟨b, 0, none⟩)]] _ _
  go_enter Tryz.func102, Tryz.ntmps102
  go_wp2_with fail
  refine (hasBack_is (x := ⟨117, N, K, Tp, Bt, pa, pn, pc, Bo, Ov⟩) (two_old (unhide H) _ _)).mono ?_
  rintro e w1 ⟨rfl, hb1⟩
  rw [unhide HBK]
  obtain ⟨hc1, hf1, hl1, hb, hblk⟩ := res_facts hb1
  have hbx : ∀ i, w1.cell? ⟨w.heap.size, i, none⟩ = (#[.int .u8 117, .int .u8 (N.toNat : Int), .int .i64 K, .int .i64 Tp, .int .i64 Bt, .slice pa pn pc, .pointer (Bo.map fun b => ⟨b, 0, none⟩), .pointer (Ov.map fun b => ⟨b, 0, none⟩)] : Array Value)[i]? := box_facts hb1
  have HB := hide hb
  have HK := hide hblk
  clear hb hblk hb1
  go_wp2_with fail
  refine (oppLetter_any (c := 117) (d := 119) (by decide) _).mono ?_
  rintro e w2 ⟨rfl, hb2⟩
  rw [show PC.value (pcLet 119) = .agg #[.int .u8 119, .int .u8 0, .int .i64 0, .int .i64 0, .int .i64 0, .slice none 0 0, .pointer none, .pointer none] from rfl]
  have hblk2 := (hb2.block (w.heap.size + 1) (lt_of_block (unhide HK))).trans (unhide HK)
  have hc2 : ∀ i, w2.cell? ⟨w.heap.size + 1, i, none⟩ = _ := fun i => blk_cell hblk2 i
  have hf2 : ∀ i, w2.frozen? ⟨w.heap.size + 1, i, none⟩ = false := fun i => blk_free hblk2 i
  have HB2 := hide ((unhide HB).trans (hb2.mono (unhide HB).size))
  clear hblk2 hb2
  go_wp2_with fail
  exact bodyPost_ret (v := .tuple #[PC.value (pcLet 119), .bool true]) (by simp [results, Tryz.results102, go_sem, hc2, PC.value, PC.cells, ptr, pcLet]) rfl ⟨(pcLet 119), rfl, let_is (x := .w) rfl, st8_below (unhide HB2) (Nat.le_succ _) _ _ _ _ _ _ _ _⟩
set_option maxRecDepth 100000 in
set_option maxHeartbeats 1600000 in
theorem opp_w  {N : UInt8} {K Tp Bt : Int} {pa : Option Addr} {pn pc : Nat} {Bo Ov : Option Nat} {B : Nat} {w : World} (hbk : (Pt.sp .w).back = true) (_hB : B ≤ w.heap.size) (h : PtIs (fun k => k < B) w ⟨119, N, K, Tp, Bt, pa, pn, pc, Bo, Ov⟩ (Pt.sp .w)) : Calls Tryz.prog 102 #[PC.value ⟨119, N, K, Tp, Bt, pa, pn, pc, Bo, Ov⟩] w fun e w' => ∃ x', e = .returned (.tuple #[PC.value x', .bool true]) ∧ PtIs (Okw B w) w' x' (Pt.sp .w).opp ∧ Below w.heap.size w w' := by
  have H := hide h
  have HBK := hide hbk
  clear h hbk
  show Calls _ _ #[.agg #[.int .u8 119, .int .u8 (N.toNat : Int), .int .i64 K, .int .i64 Tp, .int .i64 Bt, .slice pa pn pc, .pointer (Bo.map fun b => ⟨b, 0, none⟩), .pointer (Ov.map fun b => ⟨b, 0, none⟩)]] _ _
  go_enter Tryz.func102, Tryz.ntmps102
  go_wp2_with fail
  refine (hasBack_is (x := ⟨119, N, K, Tp, Bt, pa, pn, pc, Bo, Ov⟩) (two_old (unhide H) _ _)).mono ?_
  rintro e w1 ⟨rfl, hb1⟩
  rw [unhide HBK]
  obtain ⟨hc1, hf1, hl1, hb, hblk⟩ := res_facts hb1
  have hbx : ∀ i, w1.cell? ⟨w.heap.size, i, none⟩ = (#[.int .u8 119, .int .u8 (N.toNat : Int), .int .i64 K, .int .i64 Tp, .int .i64 Bt, .slice pa pn pc, .pointer (Bo.map fun b => ⟨b, 0, none⟩), .pointer (Ov.map fun b => ⟨b, 0, none⟩)] : Array Value)[i]? := box_facts hb1
  have HB := hide hb
  have HK := hide hblk
  clear hb hblk hb1
  go_wp2_with fail
  refine (oppLetter_any (c := 119) (d := 117) (by decide) _).mono ?_
  rintro e w2 ⟨rfl, hb2⟩
  rw [show PC.value (pcLet 117) = .agg #[.int .u8 117, .int .u8 0, .int .i64 0, .int .i64 0, .int .i64 0, .slice none 0 0, .pointer none, .pointer none] from rfl]
  have hblk2 := (hb2.block (w.heap.size + 1) (lt_of_block (unhide HK))).trans (unhide HK)
  have hc2 : ∀ i, w2.cell? ⟨w.heap.size + 1, i, none⟩ = _ := fun i => blk_cell hblk2 i
  have hf2 : ∀ i, w2.frozen? ⟨w.heap.size + 1, i, none⟩ = false := fun i => blk_free hblk2 i
  have HB2 := hide ((unhide HB).trans (hb2.mono (unhide HB).size))
  clear hblk2 hb2
  go_wp2_with fail
  exact bodyPost_ret (v := .tuple #[PC.value (pcLet 117), .bool true]) (by simp [results, Tryz.results102, go_sem, hc2, PC.value, PC.cells, ptr, pcLet]) rfl ⟨(pcLet 117), rfl, let_is (x := .u) rfl, st8_below (unhide HB2) (Nat.le_succ _) _ _ _ _ _ _ _ _⟩
set_option maxRecDepth 100000 in
set_option maxHeartbeats 1600000 in
theorem opp_s  {N : UInt8} {K Tp Bt : Int} {pa : Option Addr} {pn pc : Nat} {Bo Ov : Option Nat} {B : Nat} {w : World} (hbk : (Pt.sp .s).back = true) (_hB : B ≤ w.heap.size) (h : PtIs (fun k => k < B) w ⟨115, N, K, Tp, Bt, pa, pn, pc, Bo, Ov⟩ (Pt.sp .s)) : Calls Tryz.prog 102 #[PC.value ⟨115, N, K, Tp, Bt, pa, pn, pc, Bo, Ov⟩] w fun e w' => ∃ x', e = .returned (.tuple #[PC.value x', .bool true]) ∧ PtIs (Okw B w) w' x' (Pt.sp .s).opp ∧ Below w.heap.size w w' := by
  have H := hide h
  have HBK := hide hbk
  clear h hbk
  show Calls _ _ #[.agg #[.int .u8 115, .int .u8 (N.toNat : Int), .int .i64 K, .int .i64 Tp, .int .i64 Bt, .slice pa pn pc, .pointer (Bo.map fun b => ⟨b, 0, none⟩), .pointer (Ov.map fun b => ⟨b, 0, none⟩)]] _ _
  go_enter Tryz.func102, Tryz.ntmps102
  go_wp2_with fail
  refine (hasBack_is (x := ⟨115, N, K, Tp, Bt, pa, pn, pc, Bo, Ov⟩) (two_old (unhide H) _ _)).mono ?_
  rintro e w1 ⟨rfl, hb1⟩
  rw [unhide HBK]
  obtain ⟨hc1, hf1, hl1, hb, hblk⟩ := res_facts hb1
  have hbx : ∀ i, w1.cell? ⟨w.heap.size, i, none⟩ = (#[.int .u8 115, .int .u8 (N.toNat : Int), .int .i64 K, .int .i64 Tp, .int .i64 Bt, .slice pa pn pc, .pointer (Bo.map fun b => ⟨b, 0, none⟩), .pointer (Ov.map fun b => ⟨b, 0, none⟩)] : Array Value)[i]? := box_facts hb1
  have HB := hide hb
  have HK := hide hblk
  clear hb hblk hb1
  go_wp2_with fail
  refine (oppLetter_any (c := 115) (d := 122) (by decide) _).mono ?_
  rintro e w2 ⟨rfl, hb2⟩
  rw [show PC.value (pcLet 122) = .agg #[.int .u8 122, .int .u8 0, .int .i64 0, .int .i64 0, .int .i64 0, .slice none 0 0, .pointer none, .pointer none] from rfl]
  have hblk2 := (hb2.block (w.heap.size + 1) (lt_of_block (unhide HK))).trans (unhide HK)
  have hc2 : ∀ i, w2.cell? ⟨w.heap.size + 1, i, none⟩ = _ := fun i => blk_cell hblk2 i
  have hf2 : ∀ i, w2.frozen? ⟨w.heap.size + 1, i, none⟩ = false := fun i => blk_free hblk2 i
  have HB2 := hide ((unhide HB).trans (hb2.mono (unhide HB).size))
  clear hblk2 hb2
  go_wp2_with fail
  exact bodyPost_ret (v := .tuple #[PC.value (pcLet 122), .bool true]) (by simp [results, Tryz.results102, go_sem, hc2, PC.value, PC.cells, ptr, pcLet]) rfl ⟨(pcLet 122), rfl, let_is (x := .z) rfl, st8_below (unhide HB2) (Nat.le_succ _) _ _ _ _ _ _ _ _⟩
set_option maxRecDepth 100000 in
set_option maxHeartbeats 1600000 in
theorem opp_z  {N : UInt8} {K Tp Bt : Int} {pa : Option Addr} {pn pc : Nat} {Bo Ov : Option Nat} {B : Nat} {w : World} (hbk : (Pt.sp .z).back = true) (_hB : B ≤ w.heap.size) (h : PtIs (fun k => k < B) w ⟨122, N, K, Tp, Bt, pa, pn, pc, Bo, Ov⟩ (Pt.sp .z)) : Calls Tryz.prog 102 #[PC.value ⟨122, N, K, Tp, Bt, pa, pn, pc, Bo, Ov⟩] w fun e w' => ∃ x', e = .returned (.tuple #[PC.value x', .bool true]) ∧ PtIs (Okw B w) w' x' (Pt.sp .z).opp ∧ Below w.heap.size w w' := by
  have H := hide h
  have HBK := hide hbk
  clear h hbk
  show Calls _ _ #[.agg #[.int .u8 122, .int .u8 (N.toNat : Int), .int .i64 K, .int .i64 Tp, .int .i64 Bt, .slice pa pn pc, .pointer (Bo.map fun b => ⟨b, 0, none⟩), .pointer (Ov.map fun b => ⟨b, 0, none⟩)]] _ _
  go_enter Tryz.func102, Tryz.ntmps102
  go_wp2_with fail
  refine (hasBack_is (x := ⟨122, N, K, Tp, Bt, pa, pn, pc, Bo, Ov⟩) (two_old (unhide H) _ _)).mono ?_
  rintro e w1 ⟨rfl, hb1⟩
  rw [unhide HBK]
  obtain ⟨hc1, hf1, hl1, hb, hblk⟩ := res_facts hb1
  have hbx : ∀ i, w1.cell? ⟨w.heap.size, i, none⟩ = (#[.int .u8 122, .int .u8 (N.toNat : Int), .int .i64 K, .int .i64 Tp, .int .i64 Bt, .slice pa pn pc, .pointer (Bo.map fun b => ⟨b, 0, none⟩), .pointer (Ov.map fun b => ⟨b, 0, none⟩)] : Array Value)[i]? := box_facts hb1
  have HB := hide hb
  have HK := hide hblk
  clear hb hblk hb1
  go_wp2_with fail
  refine (oppLetter_any (c := 122) (d := 115) (by decide) _).mono ?_
  rintro e w2 ⟨rfl, hb2⟩
  rw [show PC.value (pcLet 115) = .agg #[.int .u8 115, .int .u8 0, .int .i64 0, .int .i64 0, .int .i64 0, .slice none 0 0, .pointer none, .pointer none] from rfl]
  have hblk2 := (hb2.block (w.heap.size + 1) (lt_of_block (unhide HK))).trans (unhide HK)
  have hc2 : ∀ i, w2.cell? ⟨w.heap.size + 1, i, none⟩ = _ := fun i => blk_cell hblk2 i
  have hf2 : ∀ i, w2.frozen? ⟨w.heap.size + 1, i, none⟩ = false := fun i => blk_free hblk2 i
  have HB2 := hide ((unhide HB).trans (hb2.mono (unhide HB).size))
  clear hblk2 hb2
  go_wp2_with fail
  exact bodyPost_ret (v := .tuple #[PC.value (pcLet 115), .bool true]) (by simp [results, Tryz.results102, go_sem, hc2, PC.value, PC.cells, ptr, pcLet]) rfl ⟨(pcLet 115), rfl, let_is (x := .s) rfl, st8_below (unhide HB2) (Nat.le_succ _) _ _ _ _ _ _ _ _⟩
set_option maxRecDepth 100000 in
set_option maxHeartbeats 1600000 in
theorem opp_p  {N : UInt8} {K Tp Bt : Int} {pa : Option Addr} {pn pc : Nat} {Bo Ov : Option Nat} {B : Nat} {w : World} (hbk : (Pt.sp .p).back = true) (_hB : B ≤ w.heap.size) (h : PtIs (fun k => k < B) w ⟨112, N, K, Tp, Bt, pa, pn, pc, Bo, Ov⟩ (Pt.sp .p)) : Calls Tryz.prog 102 #[PC.value ⟨112, N, K, Tp, Bt, pa, pn, pc, Bo, Ov⟩] w fun e w' => ∃ x', e = .returned (.tuple #[PC.value x', .bool true]) ∧ PtIs (Okw B w) w' x' (Pt.sp .p).opp ∧ Below w.heap.size w w' := by
  have H := hide h
  have HBK := hide hbk
  clear h hbk
  show Calls _ _ #[.agg #[.int .u8 112, .int .u8 (N.toNat : Int), .int .i64 K, .int .i64 Tp, .int .i64 Bt, .slice pa pn pc, .pointer (Bo.map fun b => ⟨b, 0, none⟩), .pointer (Ov.map fun b => ⟨b, 0, none⟩)]] _ _
  go_enter Tryz.func102, Tryz.ntmps102
  go_wp2_with fail
  refine (hasBack_is (x := ⟨112, N, K, Tp, Bt, pa, pn, pc, Bo, Ov⟩) (two_old (unhide H) _ _)).mono ?_
  rintro e w1 ⟨rfl, hb1⟩
  rw [unhide HBK]
  obtain ⟨hc1, hf1, hl1, hb, hblk⟩ := res_facts hb1
  have hbx : ∀ i, w1.cell? ⟨w.heap.size, i, none⟩ = (#[.int .u8 112, .int .u8 (N.toNat : Int), .int .i64 K, .int .i64 Tp, .int .i64 Bt, .slice pa pn pc, .pointer (Bo.map fun b => ⟨b, 0, none⟩), .pointer (Ov.map fun b => ⟨b, 0, none⟩)] : Array Value)[i]? := box_facts hb1
  have HB := hide hb
  have HK := hide hblk
  clear hb hblk hb1
  go_wp2_with fail
  refine (oppLetter_any (c := 112) (d := 111) (by decide) _).mono ?_
  rintro e w2 ⟨rfl, hb2⟩
  rw [show PC.value (pcLet 111) = .agg #[.int .u8 111, .int .u8 0, .int .i64 0, .int .i64 0, .int .i64 0, .slice none 0 0, .pointer none, .pointer none] from rfl]
  have hblk2 := (hb2.block (w.heap.size + 1) (lt_of_block (unhide HK))).trans (unhide HK)
  have hc2 : ∀ i, w2.cell? ⟨w.heap.size + 1, i, none⟩ = _ := fun i => blk_cell hblk2 i
  have hf2 : ∀ i, w2.frozen? ⟨w.heap.size + 1, i, none⟩ = false := fun i => blk_free hblk2 i
  have HB2 := hide ((unhide HB).trans (hb2.mono (unhide HB).size))
  clear hblk2 hb2
  go_wp2_with fail
  exact bodyPost_ret (v := .tuple #[PC.value (pcLet 111), .bool true]) (by simp [results, Tryz.results102, go_sem, hc2, PC.value, PC.cells, ptr, pcLet]) rfl ⟨(pcLet 111), rfl, let_is (x := .o) rfl, st8_below (unhide HB2) (Nat.le_succ _) _ _ _ _ _ _ _ _⟩
set_option maxRecDepth 100000 in
set_option maxHeartbeats 1600000 in
theorem opp_m  {N : UInt8} {K Tp Bt : Int} {pa : Option Addr} {pn pc : Nat} {Bo Ov : Option Nat} {B : Nat} {w : World} (hbk : (Pt.sp .m).back = true) (_hB : B ≤ w.heap.size) (h : PtIs (fun k => k < B) w ⟨109, N, K, Tp, Bt, pa, pn, pc, Bo, Ov⟩ (Pt.sp .m)) : Calls Tryz.prog 102 #[PC.value ⟨109, N, K, Tp, Bt, pa, pn, pc, Bo, Ov⟩] w fun e w' => ∃ x', e = .returned (.tuple #[PC.value x', .bool true]) ∧ PtIs (Okw B w) w' x' (Pt.sp .m).opp ∧ Below w.heap.size w w' := by
  have H := hide h
  have HBK := hide hbk
  clear h hbk
  show Calls _ _ #[.agg #[.int .u8 109, .int .u8 (N.toNat : Int), .int .i64 K, .int .i64 Tp, .int .i64 Bt, .slice pa pn pc, .pointer (Bo.map fun b => ⟨b, 0, none⟩), .pointer (Ov.map fun b => ⟨b, 0, none⟩)]] _ _
  go_enter Tryz.func102, Tryz.ntmps102
  go_wp2_with fail
  refine (hasBack_is (x := ⟨109, N, K, Tp, Bt, pa, pn, pc, Bo, Ov⟩) (two_old (unhide H) _ _)).mono ?_
  rintro e w1 ⟨rfl, hb1⟩
  rw [unhide HBK]
  obtain ⟨hc1, hf1, hl1, hb, hblk⟩ := res_facts hb1
  have hbx : ∀ i, w1.cell? ⟨w.heap.size, i, none⟩ = (#[.int .u8 109, .int .u8 (N.toNat : Int), .int .i64 K, .int .i64 Tp, .int .i64 Bt, .slice pa pn pc, .pointer (Bo.map fun b => ⟨b, 0, none⟩), .pointer (Ov.map fun b => ⟨b, 0, none⟩)] : Array Value)[i]? := box_facts hb1
  have HB := hide hb
  have HK := hide hblk
  clear hb hblk hb1
  go_wp2_with fail
  refine (oppLetter_any (c := 109) (d := 111) (by decide) _).mono ?_
  rintro e w2 ⟨rfl, hb2⟩
  rw [show PC.value (pcLet 111) = .agg #[.int .u8 111, .int .u8 0, .int .i64 0, .int .i64 0, .int .i64 0, .slice none 0 0, .pointer none, .pointer none] from rfl]
  have hblk2 := (hb2.block (w.heap.size + 1) (lt_of_block (unhide HK))).trans (unhide HK)
  have hc2 : ∀ i, w2.cell? ⟨w.heap.size + 1, i, none⟩ = _ := fun i => blk_cell hblk2 i
  have hf2 : ∀ i, w2.frozen? ⟨w.heap.size + 1, i, none⟩ = false := fun i => blk_free hblk2 i
  have HB2 := hide ((unhide HB).trans (hb2.mono (unhide HB).size))
  clear hblk2 hb2
  go_wp2_with fail
  exact bodyPost_ret (v := .tuple #[PC.value (pcLet 111), .bool true]) (by simp [results, Tryz.results102, go_sem, hc2, PC.value, PC.cells, ptr, pcLet]) rfl ⟨(pcLet 111), rfl, let_is (x := .o) rfl, st8_below (unhide HB2) (Nat.le_succ _) _ _ _ _ _ _ _ _⟩
set_option maxRecDepth 100000 in
set_option maxHeartbeats 1600000 in
theorem opp_o  {N : UInt8} {K Tp Bt : Int} {pa : Option Addr} {pn pc : Nat} {Bo Ov : Option Nat} {B : Nat} {w : World} (hbk : (Pt.sp .o).back = true) (_hB : B ≤ w.heap.size) (h : PtIs (fun k => k < B) w ⟨111, N, K, Tp, Bt, pa, pn, pc, Bo, Ov⟩ (Pt.sp .o)) : Calls Tryz.prog 102 #[PC.value ⟨111, N, K, Tp, Bt, pa, pn, pc, Bo, Ov⟩] w fun e w' => ∃ x', e = .returned (.tuple #[PC.value x', .bool true]) ∧ PtIs (Okw B w) w' x' (Pt.sp .o).opp ∧ Below w.heap.size w w' := by
  have H := hide h
  have HBK := hide hbk
  clear h hbk
  show Calls _ _ #[.agg #[.int .u8 111, .int .u8 (N.toNat : Int), .int .i64 K, .int .i64 Tp, .int .i64 Bt, .slice pa pn pc, .pointer (Bo.map fun b => ⟨b, 0, none⟩), .pointer (Ov.map fun b => ⟨b, 0, none⟩)]] _ _
  go_enter Tryz.func102, Tryz.ntmps102
  go_wp2_with fail
  refine (hasBack_is (x := ⟨111, N, K, Tp, Bt, pa, pn, pc, Bo, Ov⟩) (two_old (unhide H) _ _)).mono ?_
  rintro e w1 ⟨rfl, hb1⟩
  rw [unhide HBK]
  obtain ⟨hc1, hf1, hl1, hb, hblk⟩ := res_facts hb1
  have hbx : ∀ i, w1.cell? ⟨w.heap.size, i, none⟩ = (#[.int .u8 111, .int .u8 (N.toNat : Int), .int .i64 K, .int .i64 Tp, .int .i64 Bt, .slice pa pn pc, .pointer (Bo.map fun b => ⟨b, 0, none⟩), .pointer (Ov.map fun b => ⟨b, 0, none⟩)] : Array Value)[i]? := box_facts hb1
  have HB := hide hb
  have HK := hide hblk
  clear hb hblk hb1
  go_wp2_with fail
  refine (oppLetter_any (c := 111) (d := 109) (by decide) _).mono ?_
  rintro e w2 ⟨rfl, hb2⟩
  rw [show PC.value (pcLet 109) = .agg #[.int .u8 109, .int .u8 0, .int .i64 0, .int .i64 0, .int .i64 0, .slice none 0 0, .pointer none, .pointer none] from rfl]
  have hblk2 := (hb2.block (w.heap.size + 1) (lt_of_block (unhide HK))).trans (unhide HK)
  have hc2 : ∀ i, w2.cell? ⟨w.heap.size + 1, i, none⟩ = _ := fun i => blk_cell hblk2 i
  have hf2 : ∀ i, w2.frozen? ⟨w.heap.size + 1, i, none⟩ = false := fun i => blk_free hblk2 i
  have HB2 := hide ((unhide HB).trans (hb2.mono (unhide HB).size))
  clear hblk2 hb2
  go_wp2_with fail
  exact bodyPost_ret (v := .tuple #[PC.value (pcLet 109), .bool true]) (by simp [results, Tryz.results102, go_sem, hc2, PC.value, PC.cells, ptr, pcLet]) rfl ⟨(pcLet 109), rfl, let_is (x := .m) rfl, st8_below (unhide HB2) (Nat.le_succ _) _ _ _ _ _ _ _ _⟩
set_option maxRecDepth 100000 in
set_option maxHeartbeats 1600000 in
theorem opp_plus {c : Rat} (hs : small c = true) {N : UInt8} {K Tp Bt : Int} {pa : Option Addr} {pn pc : Nat} {Bo Ov : Option Nat} {B : Nat} {w : World} (hbk : (Pt.sp (.plus c)).back = true) (_hB : B ≤ w.heap.size) (h : PtIs (fun k => k < B) w ⟨43, N, K, Tp, Bt, pa, pn, pc, Bo, Ov⟩ (Pt.sp (.plus c))) : Calls Tryz.prog 102 #[PC.value ⟨43, N, K, Tp, Bt, pa, pn, pc, Bo, Ov⟩] w fun e w' => ∃ x', e = .returned (.tuple #[PC.value x', .bool true]) ∧ PtIs (Okw B w) w' x' (Pt.sp (.plus c)).opp ∧ Below w.heap.size w w' := by
  have ht : Tp = c.num := by rw [PtIs] at h; exact h.2.1
  have hbt : Bt = (c.den : Int) := by rw [PtIs] at h; exact h.2.2
  have hnum := rat_isNum hs
  have l1 : -1000000000 ≤ Tp := by rw [ht]; exact hnum.lo
  have l2 : Tp ≤ 1000000000 := by rw [ht]; exact hnum.hi
  have HT := hide ht
  have HBt := hide hbt
  clear ht hbt hnum
  have H := hide h
  have HBK := hide hbk
  clear h hbk
  show Calls _ _ #[.agg #[.int .u8 43, .int .u8 (N.toNat : Int), .int .i64 K, .int .i64 Tp, .int .i64 Bt, .slice pa pn pc, .pointer (Bo.map fun b => ⟨b, 0, none⟩), .pointer (Ov.map fun b => ⟨b, 0, none⟩)]] _ _
  go_enter Tryz.func102, Tryz.ntmps102
  go_wp2_with fail
  refine (hasBack_is (x := ⟨43, N, K, Tp, Bt, pa, pn, pc, Bo, Ov⟩) (two_old (unhide H) _ _)).mono ?_
  rintro e w1 ⟨rfl, hb1⟩
  rw [unhide HBK]
  obtain ⟨hc1, hf1, hl1, hb, hblk⟩ := res_facts hb1
  have hbx : ∀ i, w1.cell? ⟨w.heap.size, i, none⟩ = (#[.int .u8 43, .int .u8 (N.toNat : Int), .int .i64 K, .int .i64 Tp, .int .i64 Bt, .slice pa pn pc, .pointer (Bo.map fun b => ⟨b, 0, none⟩), .pointer (Ov.map fun b => ⟨b, 0, none⟩)] : Array Value)[i]? := box_facts hb1
  have HB := hide hb
  have HK := hide hblk
  clear hb hblk hb1
  go_wp2_with fail
  refine (negative_any Tp Bt _ l1 l2).mono ?_
  rintro e w2 ⟨rfl, hb2⟩
  have hblk2 := (hb2.block (w.heap.size + 1) (lt_of_block (unhide HK))).trans (unhide HK)
  have hc2 : ∀ i, w2.cell? ⟨w.heap.size + 1, i, none⟩ = _ := fun i => blk_cell hblk2 i
  have hf2 : ∀ i, w2.frozen? ⟨w.heap.size + 1, i, none⟩ = false := fun i => blk_free hblk2 i
  have HB2 := hide ((unhide HB).trans (hb2.mono (unhide HB).size))
  clear hblk2 hb2
  go_wp2_with fail
  exact bodyPost_ret (v := .tuple #[PC.value (pcVal 43 (-Tp) Bt), .bool true]) (by simp [results, Tryz.results102, go_sem, hc2, PC.value, PC.cells, ptr, pcVal]) rfl ⟨(pcVal 43 (-Tp) Bt), rfl, by rw [Pt.opp]; show PtIs _ _ _ (.sp (.plus (-c))); rw [PtIs]; exact ⟨rfl, by show -Tp = (-c).num; rw [Rat.neg_num, unhide HT], by show Bt = ((-c).den : Int); rw [Rat.neg_den, unhide HBt]⟩, st8_below (unhide HB2) (Nat.le_succ _) _ _ _ _ _ _ _ _⟩
set_option maxRecDepth 100000 in
set_option maxHeartbeats 1600000 in
theorem opp_times {c : Rat} (hs : small c = true) {N : UInt8} {K Tp Bt : Int} {pa : Option Addr} {pn pc : Nat} {Bo Ov : Option Nat} {B : Nat} {w : World} (hbk : (Pt.sp (.times c)).back = true) (_hB : B ≤ w.heap.size) (h : PtIs (fun k => k < B) w ⟨42, N, K, Tp, Bt, pa, pn, pc, Bo, Ov⟩ (Pt.sp (.times c))) : Calls Tryz.prog 102 #[PC.value ⟨42, N, K, Tp, Bt, pa, pn, pc, Bo, Ov⟩] w fun e w' => ∃ x', e = .returned (.tuple #[PC.value x', .bool true]) ∧ PtIs (Okw B w) w' x' (Pt.sp (.times c)).opp ∧ Below w.heap.size w w' := by
  have ht : Tp = c.num := by rw [PtIs] at h; exact h.2.1
  have hbt : Bt = (c.den : Int) := by rw [PtIs] at h; exact h.2.2
  have hnum := rat_isNum hs
  have l1 : -1000000000 ≤ Tp := by rw [ht]; exact hnum.lo
  have l2 : Tp ≤ 1000000000 := by rw [ht]; exact hnum.hi
  have l3 : 1 ≤ Bt := by rw [hbt]; exact hnum.b1
  have l4 : Bt ≤ 1000000000 := by rw [hbt]; exact hnum.b2
  have hc0 : c ≠ 0 := by
    rintro rfl
    rw [Pt.back] at hbk
    cases hbk
  have l0 : Tp ≠ 0 := by rw [ht]; exact fun e => hc0 (num_zero.1 e)
  have HI := hide (inv_pairs c hc0)
  have HC := hide hc0
  have HT := hide ht
  have HBt := hide hbt
  clear ht hbt hnum hc0
  have H := hide h
  have HBK := hide hbk
  clear h hbk
  show Calls _ _ #[.agg #[.int .u8 42, .int .u8 (N.toNat : Int), .int .i64 K, .int .i64 Tp, .int .i64 Bt, .slice pa pn pc, .pointer (Bo.map fun b => ⟨b, 0, none⟩), .pointer (Ov.map fun b => ⟨b, 0, none⟩)]] _ _
  go_enter Tryz.func102, Tryz.ntmps102
  go_wp2_with fail
  refine (hasBack_is (x := ⟨42, N, K, Tp, Bt, pa, pn, pc, Bo, Ov⟩) (two_old (unhide H) _ _)).mono ?_
  rintro e w1 ⟨rfl, hb1⟩
  rw [unhide HBK]
  obtain ⟨hc1, hf1, hl1, hb, hblk⟩ := res_facts hb1
  have hbx : ∀ i, w1.cell? ⟨w.heap.size, i, none⟩ = (#[.int .u8 42, .int .u8 (N.toNat : Int), .int .i64 K, .int .i64 Tp, .int .i64 Bt, .slice pa pn pc, .pointer (Bo.map fun b => ⟨b, 0, none⟩), .pointer (Ov.map fun b => ⟨b, 0, none⟩)] : Array Value)[i]? := box_facts hb1
  have HB := hide hb
  have HK := hide hblk
  clear hb hblk hb1
  go_wp2_with fail
  refine (oppTimes_any _ l0 l1 l2 l3 l4).mono ?_
  rintro e w2 ⟨rfl, hb2⟩
  rw [show PC.value (pcVal 42 (overP Tp Bt) (overQ Tp Bt)) = .agg #[.int .u8 42, .int .u8 0, .int .i64 0, .int .i64 (overP Tp Bt), .int .i64 (overQ Tp Bt), .slice none 0 0, .pointer none, .pointer none] from rfl]
  have hblk2 := (hb2.block (w.heap.size + 1) (lt_of_block (unhide HK))).trans (unhide HK)
  have hc2 : ∀ i, w2.cell? ⟨w.heap.size + 1, i, none⟩ = _ := fun i => blk_cell hblk2 i
  have hf2 : ∀ i, w2.frozen? ⟨w.heap.size + 1, i, none⟩ = false := fun i => blk_free hblk2 i
  have HB2 := hide ((unhide HB).trans (hb2.mono (unhide HB).size))
  clear hblk2 hb2
  go_wp2_with fail
  exact bodyPost_ret (v := .tuple #[PC.value (pcVal 42 (overP Tp Bt) (overQ Tp Bt)), .bool true]) (by simp [results, Tryz.results102, go_sem, hc2, PC.value, PC.cells, ptr, pcVal]) rfl ⟨(pcVal 42 (overP Tp Bt) (overQ Tp Bt)), rfl, by rw [Pt.opp, show (Sp.times c).opp = some (.times c⁻¹) from if_neg (unhide HC)]; show PtIs _ _ _ (.sp (.times c⁻¹)); rw [PtIs]; exact ⟨rfl, by show overP Tp Bt = c⁻¹.num; rw [(unhide HI).1, unhide HT, unhide HBt]; rfl, by show overQ Tp Bt = (c⁻¹.den : Int); rw [(unhide HI).2, unhide HT]; rfl⟩, st8_below (unhide HB2) (Nat.le_succ _) _ _ _ _ _ _ _ _⟩
set_option maxRecDepth 100000 in
set_option maxHeartbeats 1600000 in
theorem opp_shift {k : Int} (hk1 : -99 ≤ k) (hk2 : k ≤ 99) {N : UInt8} {K Tp Bt : Int} {pa : Option Addr} {pn pc : Nat} {Bo Ov : Option Nat} {B : Nat} {w : World} (hbk : (Pt.sp (.shift k)).back = true) (_hB : B ≤ w.heap.size) (h : PtIs (fun k => k < B) w ⟨60, N, K, Tp, Bt, pa, pn, pc, Bo, Ov⟩ (Pt.sp (.shift k))) : Calls Tryz.prog 102 #[PC.value ⟨60, N, K, Tp, Bt, pa, pn, pc, Bo, Ov⟩] w fun e w' => ∃ x', e = .returned (.tuple #[PC.value x', .bool true]) ∧ PtIs (Okw B w) w' x' (Pt.sp (.shift k)).opp ∧ Below w.heap.size w w' := by
  have hk : K = k := by rw [PtIs] at h; exact h.2
  subst hk
  have H := hide h
  have HBK := hide hbk
  clear h hbk
  show Calls _ _ #[.agg #[.int .u8 60, .int .u8 (N.toNat : Int), .int .i64 K, .int .i64 Tp, .int .i64 Bt, .slice pa pn pc, .pointer (Bo.map fun b => ⟨b, 0, none⟩), .pointer (Ov.map fun b => ⟨b, 0, none⟩)]] _ _
  go_enter Tryz.func102, Tryz.ntmps102
  go_wp2_with fail
  refine (hasBack_is (x := ⟨60, N, K, Tp, Bt, pa, pn, pc, Bo, Ov⟩) (two_old (unhide H) _ _)).mono ?_
  rintro e w1 ⟨rfl, hb1⟩
  rw [unhide HBK]
  obtain ⟨hc1, hf1, hl1, hb, hblk⟩ := res_facts hb1
  have hbx : ∀ i, w1.cell? ⟨w.heap.size, i, none⟩ = (#[.int .u8 60, .int .u8 (N.toNat : Int), .int .i64 K, .int .i64 Tp, .int .i64 Bt, .slice pa pn pc, .pointer (Bo.map fun b => ⟨b, 0, none⟩), .pointer (Ov.map fun b => ⟨b, 0, none⟩)] : Array Value)[i]? := box_facts hb1
  have HB := hide hb
  have HK := hide hblk
  clear hb hblk hb1
  go_wp2_with fail
  exact bodyPost_ret (v := .tuple #[PC.value (pcCnt 60 (-K)), .bool true]) (by simp [results, Tryz.results102, go_sem, hc1, PC.value, PC.cells, ptr, pcCnt]) rfl ⟨(pcCnt 60 (-K)), rfl, by rw [Pt.opp]; show PtIs _ _ _ (.sp (.shift (-K))); rw [PtIs]; exact ⟨rfl, rfl⟩, st8_below (unhide HB) (Nat.le_succ _) _ _ _ _ _ _ _ _⟩
set_option maxRecDepth 100000 in
set_option maxHeartbeats 1600000 in
theorem opp_pow {f : Tm} {k : Int} {q : Nat} (hk1 : -999 ≤ k) (hk2 : k ≤ 999) {N : UInt8} {K Tp Bt : Int} {pa : Option Addr} {pn pc : Nat} {Ov : Option Nat} {B : Nat} {w : World} (hbk : (Pt.pow f k).back = true) (_hB : B ≤ w.heap.size) (h : PtIs (fun k => k < B) w ⟨40, N, K, Tp, Bt, pa, pn, pc, some q, Ov⟩ (Pt.pow f k)) : Calls Tryz.prog 102 #[PC.value ⟨40, N, K, Tp, Bt, pa, pn, pc, some q, Ov⟩] w fun e w' => ∃ x', e = .returned (.tuple #[PC.value x', .bool true]) ∧ PtIs (Okw B w) w' x' (Pt.pow f k).opp ∧ Below w.heap.size w w' := by
  have hk : K = k := (PtIs.pow_iff.1 h).2.1
  subst hk
  have htm : TmIs (fun k => k < B) w q f := by
    obtain ⟨b, h3, h4⟩ := (PtIs.pow_iff.1 h).2.2
    cases h3
    exact h4
  have HTM := hide htm
  clear htm
  have H := hide h
  have HBK := hide hbk
  clear h hbk
  show Calls _ _ #[.agg #[.int .u8 40, .int .u8 (N.toNat : Int), .int .i64 K, .int .i64 Tp, .int .i64 Bt, .slice pa pn pc, .pointer (some ⟨q, 0, none⟩), .pointer (Ov.map fun b => ⟨b, 0, none⟩)]] _ _
  go_enter Tryz.func102, Tryz.ntmps102
  go_wp2_with fail
  refine (hasBack_is (x := ⟨40, N, K, Tp, Bt, pa, pn, pc, some q, Ov⟩) (two_old (unhide H) _ _)).mono ?_
  rintro e w1 ⟨rfl, hb1⟩
  rw [unhide HBK]
  obtain ⟨hc1, hf1, hl1, hb, hblk⟩ := res_facts hb1
  have hbx : ∀ i, w1.cell? ⟨w.heap.size, i, none⟩ = (#[.int .u8 40, .int .u8 (N.toNat : Int), .int .i64 K, .int .i64 Tp, .int .i64 Bt, .slice pa pn pc, .pointer (some ⟨q, 0, none⟩), .pointer (Ov.map fun b => ⟨b, 0, none⟩)] : Array Value)[i]? := box_facts hb1
  have HB := hide hb
  have HK := hide hblk
  clear hb hblk hb1
  go_wp2_with fail
  exact bodyPost_ret (v := .tuple #[PC.value (pcPow (-K) (some q)), .bool true]) (by simp [results, Tryz.results102, go_sem, hc1, PC.value, PC.cells, ptr, pcPow]) rfl ⟨(pcPow (-K) (some q)), rfl, by rw [Pt.opp]; exact PtIs.pow_iff.2 ⟨rfl, rfl, q, rfl, (unhide HTM).keeps (fun k hk _ => ⟨(st8_heap _ _ _ _ _ _ _ _ _ (by have : k < B := hk; omega)).trans ((unhide HB).block k (by have : k < B := hk; omega)), Or.inl hk⟩)⟩, st8_below (unhide HB) (Nat.le_succ _) _ _ _ _ _ _ _ _⟩
set_option maxRecDepth 100000 in
set_option maxHeartbeats 1600000 in
theorem opp_under {s g : Tm} {q q' : Nat} {N : UInt8} {K Tp Bt : Int} {pa : Option Addr} {pn pc : Nat} {B : Nat} {w : World} (hbk : (Pt.under s g).back = true) (hB : B ≤ w.heap.size) (hO : OppAt q g B w) (h : PtIs (fun k => k < B) w ⟨91, N, K, Tp, Bt, pa, pn, pc, some q, some q'⟩ (Pt.under s g)) : Calls Tryz.prog 102 #[PC.value ⟨91, N, K, Tp, Bt, pa, pn, pc, some q, some q'⟩] w fun e w' => ∃ x', e = .returned (.tuple #[PC.value x', .bool true]) ∧ PtIs (Okw B w) w' x' (Pt.under s g).opp ∧ Below w.heap.size w w' := by
  have htm : TmIs (fun k => k < B) w q' s := by
    obtain ⟨b, h3, h4⟩ := (PtIs.under_iff.1 h).2.2
    cases h3
    exact h4
  have HTM := hide htm
  have HO := hide hO
  clear htm hO
  have H := hide h
  have HBK := hide hbk
  clear h hbk
  show Calls _ _ #[.agg #[.int .u8 91, .int .u8 (N.toNat : Int), .int .i64 K, .int .i64 Tp, .int .i64 Bt, .slice pa pn pc, .pointer (some ⟨q, 0, none⟩), .pointer (some ⟨q', 0, none⟩)]] _ _
  go_enter Tryz.func102, Tryz.ntmps102
  go_wp2_with fail
  refine (hasBack_is (x := ⟨91, N, K, Tp, Bt, pa, pn, pc, some q, some q'⟩) (two_old (unhide H) _ _)).mono ?_
  rintro e w1 ⟨rfl, hb1⟩
  rw [unhide HBK]
  obtain ⟨hc1, hf1, hl1, hb, hblk⟩ := res_facts hb1
  have hbx : ∀ i, w1.cell? ⟨w.heap.size, i, none⟩ = (#[.int .u8 91, .int .u8 (N.toNat : Int), .int .i64 K, .int .i64 Tp, .int .i64 Bt, .slice pa pn pc, .pointer (some ⟨q, 0, none⟩), .pointer (some ⟨q', 0, none⟩)] : Array Value)[i]? := box_facts hb1
  have HB := hide hb
  have HK := hide hblk
  clear hb hblk hb1
  go_wp2_with fail
  refine (oppUnder_of (s := s) (g := g) (Nat.le_trans hB (unhide HB).size) (fun w' hw' => unhide HO w' ((unhide HB).trans (hw'.mono (unhide HB).size))) ((unhide HTM).keeps (fun k hk hkl => ⟨(unhide HB).block k hkl, hk⟩))).mono ?_
  rintro e w2 ⟨⟨L', N', K', T', B', a', n', c', b', o'⟩, rfl, hp, hb2⟩
  rw [(show PC.value ⟨L', N', K', T', B', a', n', c', b', o'⟩ = .agg #[.int .u8 (L'.toNat : Int), .int .u8 (N'.toNat : Int), .int .i64 K', .int .i64 T', .int .i64 B', .slice a' n' c', .pointer (b'.map fun b => ⟨b, 0, none⟩), .pointer (o'.map fun b => ⟨b, 0, none⟩)] from rfl)]
  have hblk2 := (hb2.block (w.heap.size + 1) (lt_of_block (unhide HK))).trans (unhide HK)
  have hc2 : ∀ i, w2.cell? ⟨w.heap.size + 1, i, none⟩ = _ := fun i => blk_cell hblk2 i
  have hf2 : ∀ i, w2.frozen? ⟨w.heap.size + 1, i, none⟩ = false := fun i => blk_free hblk2 i
  have HB2 := hide ((unhide HB).trans (hb2.mono (unhide HB).size))
  have HP := hide hp
  have hs1 := (unhide HB).size
  clear hblk2 hb2 hp
  go_wp2_with fail
  exact bodyPost_ret (v := .tuple #[PC.value ⟨L', N', K', T', B', a', n', c', b', o'⟩, .bool true]) (by simp [results, Tryz.results102, go_sem, hc2, PC.value, PC.cells, ptr]) rfl ⟨⟨L', N', K', T', B', a', n', c', b', o'⟩, rfl, PtIs.keeps (fun k hk _ => by have hne : k ≠ w.heap.size + 1 := (by rcases hk with hk | hk <;> omega); exact ⟨st8_heap _ _ _ _ _ _ _ _ _ hne, hk.imp id (fun h => by omega)⟩) _ _ (unhide HP), st8_below (unhide HB2) (Nat.le_succ _) _ _ _ _ _ _ _ _⟩
set_option maxRecDepth 100000 in
set_option maxHeartbeats 1600000 in
theorem opp_name {c : UInt8} {t : Tm} {N : UInt8} {K Tp Bt : Int} {pa : Option Addr} {pn pc : Nat} {Bo Ov : Option Nat} {B : Nat} {w : World} (hbk : (Pt.name c t).back = true) (hB : B ≤ w.heap.size) (h : PtIs (fun k => k < B) w ⟨65, N, K, Tp, Bt, pa, pn, pc, Bo, Ov⟩ (Pt.name c t)) : Calls Tryz.prog 102 #[PC.value ⟨65, N, K, Tp, Bt, pa, pn, pc, Bo, Ov⟩] w fun e w' => ∃ x', e = .returned (.tuple #[PC.value x', .bool true]) ∧ PtIs (Okw B w) w' x' (Pt.name c t).opp ∧ Below w.heap.size w w' := by
  have H := hide h
  have HBK := hide hbk
  clear h hbk
  show Calls _ _ #[.agg #[.int .u8 65, .int .u8 (N.toNat : Int), .int .i64 K, .int .i64 Tp, .int .i64 Bt, .slice pa pn pc, .pointer (Bo.map fun b => ⟨b, 0, none⟩), .pointer (Ov.map fun b => ⟨b, 0, none⟩)]] _ _
  go_enter Tryz.func102, Tryz.ntmps102
  go_wp2_with fail
  refine (hasBack_is (x := ⟨65, N, K, Tp, Bt, pa, pn, pc, Bo, Ov⟩) (two_old (unhide H) _ _)).mono ?_
  rintro e w1 ⟨rfl, hb1⟩
  rw [unhide HBK]
  obtain ⟨hc1, hf1, hl1, hb, hblk⟩ := res_facts hb1
  have hbx : ∀ i, w1.cell? ⟨w.heap.size, i, none⟩ = (#[.int .u8 65, .int .u8 (N.toNat : Int), .int .i64 K, .int .i64 Tp, .int .i64 Bt, .slice pa pn pc, .pointer (Bo.map fun b => ⟨b, 0, none⟩), .pointer (Ov.map fun b => ⟨b, 0, none⟩)] : Array Value)[i]? := box_facts hb1
  have HB := hide hb
  have HK := hide hblk
  clear hb hblk hb1
  go_wp2_with fail
  refine (oppName_any (x := ⟨65, N, K, Tp, Bt, pa, pn, pc, Bo, Ov⟩) (c := c) (t := t) (Nat.le_trans hB (unhide HB).size) (PtIs.keeps (fun k hk hkl => ⟨(unhide HB).block k hkl, hk⟩) _ _ (unhide H))).mono ?_
  rintro e w2 ⟨⟨L', N', K', T', B', a', n', c', b', o'⟩, rfl, hp, hb2⟩
  rw [(show PC.value ⟨L', N', K', T', B', a', n', c', b', o'⟩ = .agg #[.int .u8 (L'.toNat : Int), .int .u8 (N'.toNat : Int), .int .i64 K', .int .i64 T', .int .i64 B', .slice a' n' c', .pointer (b'.map fun b => ⟨b, 0, none⟩), .pointer (o'.map fun b => ⟨b, 0, none⟩)] from rfl)]
  have hblk2 := (hb2.block (w.heap.size + 1) (lt_of_block (unhide HK))).trans (unhide HK)
  have hc2 : ∀ i, w2.cell? ⟨w.heap.size + 1, i, none⟩ = _ := fun i => blk_cell hblk2 i
  have hf2 : ∀ i, w2.frozen? ⟨w.heap.size + 1, i, none⟩ = false := fun i => blk_free hblk2 i
  have HB2 := hide ((unhide HB).trans (hb2.mono (unhide HB).size))
  have HP := hide hp
  have hs1 := (unhide HB).size
  clear hblk2 hb2 hp
  go_wp2_with fail
  exact bodyPost_ret (v := .tuple #[PC.value ⟨L', N', K', T', B', a', n', c', b', o'⟩, .bool true]) (by simp [results, Tryz.results102, go_sem, hc2, PC.value, PC.cells, ptr]) rfl ⟨⟨L', N', K', T', B', a', n', c', b', o'⟩, rfl, PtIs.keeps (fun k hk _ => by have hne : k ≠ w.heap.size + 1 := (by rcases hk with hk | hk <;> omega); exact ⟨st8_heap _ _ _ _ _ _ _ _ _ hne, hk.imp id (fun h => by omega)⟩) _ _ (unhide HP), st8_below (unhide HB2) (Nat.le_succ _) _ _ _ _ _ _ _ _⟩
end Go.Proofs.YtikiaijgcjjloaaGreatDoor

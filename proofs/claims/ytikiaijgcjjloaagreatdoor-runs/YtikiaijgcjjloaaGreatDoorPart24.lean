import Derived.Test.YtikiaijgcjjloaaGreatDoorPart18
import Derived.Test.YtikiaijgcjjloaaGreatDoorPart20

namespace Go.Proofs.YtikiaijgcjjloaaGreatDoor
open Go Go.RowKit M T Go.Lib
theorem res_facts {w w1 : World} {o : Obj} {c : Array Value} {T : TypeId} (hb : Below ((w.alloc o).alloc (.cells c T)).heap.size ((w.alloc o).alloc (.cells c T)) w1) : (∀ i, w1.cell? ⟨w.heap.size + 1, i, none⟩ = c[i]?) ∧ (∀ i, w1.frozen? ⟨w.heap.size + 1, i, none⟩ = false) ∧ w.heap.size + 1 < w1.heap.size ∧ Below w.heap.size w w1 ∧ w1.heap[w.heap.size + 1]? = some (.cells c T (0, 0)) := by
  have hs : ((w.alloc o).alloc (.cells c T)).heap.size = w.heap.size + 2 := by simp
  have hblk : w1.heap[w.heap.size + 1]? = some (.cells c T (0, 0)) := by rw [hb.block _ (by omega)]; exact new_at w _ _
  exact ⟨fun i => blk_cell hblk i, fun i => blk_free hblk i, lt_of_block hblk, ((below_box o).trans ((below_box _).mono (by simp))).trans (hb.mono (by omega)), hblk⟩
theorem st8_below {B : Nat} {a w : World} (h : Below B a w) {n : Nat} (hn : B ≤ n) (v0 v1 v2 v3 v4 v5 v6 v7 : Value) : Below B a (st8 w n v0 v1 v2 v3 v4 v5 v6 v7) :=
  (((((((h.setCell (p := ⟨n, 0, none⟩) hn _).setCell (p := ⟨n, 1, none⟩) hn _).setCell (p := ⟨n, 2, none⟩) hn _).setCell (p := ⟨n, 3, none⟩) hn _).setCell (p := ⟨n, 4, none⟩) hn _).setCell (p := ⟨n, 5, none⟩) hn _).setCell (p := ⟨n, 6, none⟩) hn _).setCell (p := ⟨n, 7, none⟩) hn _
set_option maxRecDepth 100000 in
set_option maxHeartbeats 800000 in
theorem negative_any (t b : Int) (w : World) (h1 : -1000000000 ≤ t) (h2 : t ≤ 1000000000) : Calls Tryz.prog 137 #[.agg #[.int .i64 t, .int .i64 b]] w fun e w' => e = .returned (.agg #[.int .i64 (-t), .int .i64 b]) ∧ Below w.heap.size w w' := by
  go_enter Tryz.func137, Tryz.ntmps137
  go_wp2_with fail
  exact bodyPost_ret (v := .agg #[.int .i64 (-t), .int .i64 b]) (by simp [results, Tryz.results137, go_sem]) rfl ⟨rfl, (by repeat (first | exact Below.refl _ _ | refine below_dr ?_ _ | refine Below.drew ?_ | refine Below.setCell ?_ (by simp) _ | refine Below.alloc ?_ (by simp) _))⟩
set_option maxRecDepth 100000 in
set_option maxHeartbeats 1600000 in
theorem oppTimes_any {l n k t b : Int} {pa : Option Addr} {pn pc : Nat} {bo ov : Option Addr} (w : World) (h0 : t ≠ 0) (h1 : -1000000000 ≤ t) (h2 : t ≤ 1000000000) (h3 : 1 ≤ b) (h4 : b ≤ 1000000000) : Calls Tryz.prog 138 #[.agg #[.int .u8 l, .int .u8 n, .int .i64 k, .int .i64 t, .int .i64 b, .slice pa pn pc, .pointer bo, .pointer ov]] w fun e w' => e = .returned (.tuple #[PC.value (pcVal 42 (overP t b) (overQ t b)), .bool true]) ∧ Below w.heap.size w w' := by
  go_enter Tryz.func138, Tryz.ntmps138
  go_wp2_with fail
  refine (nOver_any t b _ h1 h2 h3 h4).mono ?_
  rintro e w1 ⟨⟨hz, _⟩ | ⟨_, rfl⟩, hb1⟩
  · exact absurd hz h0
  · obtain ⟨_, _, hl1, hb, hblk⟩ := res_facts hb1
    clear hb1
    go_upto_region 2 with fail
    obtain ⟨wx, hwx⟩ : ∃ wx, wx = w1.alloc (.cells #[.int .i64 (overP t b), .int .i64 (overQ t b)] 91) := ⟨_, rfl⟩
    rw [← hwx]
    have hbx := (show wx.heap[w.heap.size + 1]? = w1.heap[w.heap.size + 1]? by rw [hwx, Below.heap_alloc _ _ _ hl1]).trans hblk
    have hcx : ∀ i, wx.cell? ⟨w.heap.size + 1, i, none⟩ = _ := fun i => blk_cell hbx i
    have hfx : ∀ i, wx.frozen? ⟨w.heap.size + 1, i, none⟩ = false := fun i => blk_free hbx i
    have hv : ∀ i, wx.cell? ⟨w1.heap.size, i, none⟩ = (#[.int .i64 (overP t b), .int .i64 (overQ t b)] : Array Value)[i]? := fun i => by rw [hwx]; exact blk_cell (heap_alloc_new w1 _) i
    have HB := hide (show Below w.heap.size w wx by rw [hwx]; exact hb.alloc hb.size _)
    clear hbx hb hblk hwx
    go_wp2_with fail
    exact bodyPost_ret (v := .tuple #[PC.value (pcVal 42 (overP t b) (overQ t b)), .bool true]) (by simp [results, Tryz.results138, go_sem, hcx, PC.value, PC.cells, pcVal, ptr]) rfl ⟨rfl, st8_below (unhide HB) (Nat.le_succ _) _ _ _ _ _ _ _ _⟩
set_option maxRecDepth 100000 in
set_option maxHeartbeats 1600000 in
theorem oppLetter_any {c d : UInt8} (h : (c = 110 ∧ d = 110) ∨ (c = 118 ∧ d = 118) ∨ (c = 114 ∧ d = 114) ∨ (c = 113 ∧ d = 119) ∨ (c = 117 ∧ d = 119) ∨ (c = 119 ∧ d = 117) ∨ (c = 115 ∧ d = 122) ∨ (c = 122 ∧ d = 115) ∨ (c = 112 ∧ d = 111) ∨ (c = 109 ∧ d = 111) ∨ (c = 111 ∧ d = 109)) (w : World) : Calls Tryz.prog 141 #[.int .u8 (c.toNat : Int)] w fun e w' => e = .returned (.tuple #[PC.value (pcLet d), .bool true]) ∧ Below w.heap.size w w' := by
  rcases h with ⟨rfl, rfl⟩ | ⟨rfl, rfl⟩ | ⟨rfl, rfl⟩ | ⟨rfl, rfl⟩ | ⟨rfl, rfl⟩ | ⟨rfl, rfl⟩ | ⟨rfl, rfl⟩ | ⟨rfl, rfl⟩ | ⟨rfl, rfl⟩ | ⟨rfl, rfl⟩ | ⟨rfl, rfl⟩
  · go_enter Tryz.func141, Tryz.ntmps141
    go_wp2_with fail
    exact bodyPost_ret (v := .tuple #[PC.value (pcLet 110), .bool true]) (by simp [results, Tryz.results141, go_sem, PC.value, PC.cells, pcLet, ptr]) rfl ⟨rfl, (by repeat (first | exact Below.refl _ _ | refine below_dr ?_ _ | refine Below.drew ?_ | refine Below.setCell ?_ (by simp) _ | refine Below.alloc ?_ (by simp) _))⟩
  · go_enter Tryz.func141, Tryz.ntmps141
    go_wp2_with fail
    exact bodyPost_ret (v := .tuple #[PC.value (pcLet 118), .bool true]) (by simp [results, Tryz.results141, go_sem, PC.value, PC.cells, pcLet, ptr]) rfl ⟨rfl, (by repeat (first | exact Below.refl _ _ | refine below_dr ?_ _ | refine Below.drew ?_ | refine Below.setCell ?_ (by simp) _ | refine Below.alloc ?_ (by simp) _))⟩
  · go_enter Tryz.func141, Tryz.ntmps141
    go_wp2_with fail
    exact bodyPost_ret (v := .tuple #[PC.value (pcLet 114), .bool true]) (by simp [results, Tryz.results141, go_sem, PC.value, PC.cells, pcLet, ptr]) rfl ⟨rfl, (by repeat (first | exact Below.refl _ _ | refine below_dr ?_ _ | refine Below.drew ?_ | refine Below.setCell ?_ (by simp) _ | refine Below.alloc ?_ (by simp) _))⟩
  · go_enter Tryz.func141, Tryz.ntmps141
    go_wp2_with fail
    exact bodyPost_ret (v := .tuple #[PC.value (pcLet 119), .bool true]) (by simp [results, Tryz.results141, go_sem, PC.value, PC.cells, pcLet, ptr]) rfl ⟨rfl, (by repeat (first | exact Below.refl _ _ | refine below_dr ?_ _ | refine Below.drew ?_ | refine Below.setCell ?_ (by simp) _ | refine Below.alloc ?_ (by simp) _))⟩
  · go_enter Tryz.func141, Tryz.ntmps141
    go_wp2_with fail
    exact bodyPost_ret (v := .tuple #[PC.value (pcLet 119), .bool true]) (by simp [results, Tryz.results141, go_sem, PC.value, PC.cells, pcLet, ptr]) rfl ⟨rfl, (by repeat (first | exact Below.refl _ _ | refine below_dr ?_ _ | refine Below.drew ?_ | refine Below.setCell ?_ (by simp) _ | refine Below.alloc ?_ (by simp) _))⟩
  · go_enter Tryz.func141, Tryz.ntmps141
    go_wp2_with fail
    exact bodyPost_ret (v := .tuple #[PC.value (pcLet 117), .bool true]) (by simp [results, Tryz.results141, go_sem, PC.value, PC.cells, pcLet, ptr]) rfl ⟨rfl, (by repeat (first | exact Below.refl _ _ | refine below_dr ?_ _ | refine Below.drew ?_ | refine Below.setCell ?_ (by simp) _ | refine Below.alloc ?_ (by simp) _))⟩
  · go_enter Tryz.func141, Tryz.ntmps141
    go_wp2_with fail
    exact bodyPost_ret (v := .tuple #[PC.value (pcLet 122), .bool true]) (by simp [results, Tryz.results141, go_sem, PC.value, PC.cells, pcLet, ptr]) rfl ⟨rfl, (by repeat (first | exact Below.refl _ _ | refine below_dr ?_ _ | refine Below.drew ?_ | refine Below.setCell ?_ (by simp) _ | refine Below.alloc ?_ (by simp) _))⟩
  · go_enter Tryz.func141, Tryz.ntmps141
    go_wp2_with fail
    exact bodyPost_ret (v := .tuple #[PC.value (pcLet 115), .bool true]) (by simp [results, Tryz.results141, go_sem, PC.value, PC.cells, pcLet, ptr]) rfl ⟨rfl, (by repeat (first | exact Below.refl _ _ | refine below_dr ?_ _ | refine Below.drew ?_ | refine Below.setCell ?_ (by simp) _ | refine Below.alloc ?_ (by simp) _))⟩
  · go_enter Tryz.func141, Tryz.ntmps141
    go_wp2_with fail
    exact bodyPost_ret (v := .tuple #[PC.value (pcLet 111), .bool true]) (by simp [results, Tryz.results141, go_sem, PC.value, PC.cells, pcLet, ptr]) rfl ⟨rfl, (by repeat (first | exact Below.refl _ _ | refine below_dr ?_ _ | refine Below.drew ?_ | refine Below.setCell ?_ (by simp) _ | refine Below.alloc ?_ (by simp) _))⟩
  · go_enter Tryz.func141, Tryz.ntmps141
    go_wp2_with fail
    exact bodyPost_ret (v := .tuple #[PC.value (pcLet 111), .bool true]) (by simp [results, Tryz.results141, go_sem, PC.value, PC.cells, pcLet, ptr]) rfl ⟨rfl, (by repeat (first | exact Below.refl _ _ | refine below_dr ?_ _ | refine Below.drew ?_ | refine Below.setCell ?_ (by simp) _ | refine Below.alloc ?_ (by simp) _))⟩
  · go_enter Tryz.func141, Tryz.ntmps141
    go_wp2_with fail
    exact bodyPost_ret (v := .tuple #[PC.value (pcLet 109), .bool true]) (by simp [results, Tryz.results141, go_sem, PC.value, PC.cells, pcLet, ptr]) rfl ⟨rfl, (by repeat (first | exact Below.refl _ _ | refine below_dr ?_ _ | refine Below.drew ?_ | refine Below.setCell ?_ (by simp) _ | refine Below.alloc ?_ (by simp) _))⟩
theorem one_TmIs {B : Nat} {w W w3 : World} {x : PC} {p : Pt} {sl' : Value} (hB : B ≤ w.heap.size) (hW : W.heap.size = w.heap.size + 2) (hx : PtIs (fun k => k < B) W x p) (hc : Chg (w.heap.size + 2) (.slice none 0 0) (W.alloc (.cells #[.slice none 0 0, .bool true, .bool true, .bool true] 75)) w3) (ht : TB (w.heap.size + 3) w3 (w.heap.size + 2) [p] sl' [x]) (v0 v1 v2 v3 v4 v5 v6 v7 : Value) : TmIs (Okw B w) (st8 w3 (w.heap.size + 1) v0 v1 v2 v3 v4 v5 v6 v7) (w.heap.size + 2) (.cons p .nil) := by
  refine ⟨sl', [x], ⟨Or.inr (by omega), by rw [st8_heap _ _ _ _ _ _ _ _ _ (by omega)]; exact ht.blk, ⟨ht.row.1, ?_⟩, fun g hg => Or.inr (by have := (ht.row.lt g hg).1; omega)⟩, ?_⟩
  · rcases ht.row.2 with h2 | ⟨g, cap, cur, hv, hg, hh, r⟩
    · exact Or.inl h2
    · exact Or.inr ⟨g, cap, cur, hv, Nat.zero_le _, by rw [st8_heap _ _ _ _ _ _ _ _ _ (by omega)]; exact hh, r⟩
  · rw [PsIs]
    refine ⟨x, [], rfl, PtIs.keeps (fun k hk hkl => ⟨?_, Or.inl hk⟩) _ _ hx, by rw [PsIs]⟩
    have hk' : k < B := hk
    rw [st8_heap _ _ _ _ _ _ _ _ _ (by omega), hc.block k (by simp; omega) (by omega) (by simp [Value.ownBlock]), Below.heap_alloc _ _ _ (by omega)]
set_option maxRecDepth 100000 in
set_option maxHeartbeats 1600000 in
theorem oppName_any {B : Nat} {w : World} {x : PC} {c : UInt8} {t : Tm} (hB : B ≤ w.heap.size) (h : PtIs (fun k => k < B) w x (.name c t)) :
    Calls Tryz.prog 140 #[PC.value x] w fun e w' => ∃ x', e = .returned (PC.value x') ∧ PtIs (Okw B w) w' x' (Pt.name c t).opp ∧ Below w.heap.size w w' := by
  obtain ⟨L, N, K, Tp, Bt, pa, pn, pc, Bo, Ov⟩ := x
  have H := hide h
  clear h
  show Calls _ _ #[.agg #[.int .u8 (L.toNat : Int), .int .u8 (N.toNat : Int), .int .i64 K, .int .i64 Tp, .int .i64 Bt, .slice pa pn pc, .pointer (Bo.map fun b => ⟨b, 0, none⟩), .pointer (Ov.map fun b => ⟨b, 0, none⟩)]] _ _
  go_enter Tryz.func140, Tryz.ntmps140
  go_wp2_with fail
  refine (newTerm_any _).mono ?_
  rintro e w1 ⟨rfl, rfl⟩
  go_wp2_with fail
  obtain ⟨W, hW⟩ : ∃ W, W = (w.alloc (.cells (PC.cells ⟨L, N, K, Tp, Bt, pa, pn, pc, Bo, Ov⟩).toArray 148)).alloc (.cells #[.int .u8 0, .int .u8 0, .int .i64 0, .int .i64 0, .int .i64 0, .slice none 0 0, .pointer none, .pointer none] 148) := ⟨_, rfl⟩
  have hWs : W.heap.size = w.heap.size + 2 := by rw [hW]; simp
  have hold : ∀ k, k < w.heap.size → W.heap[k]? = w.heap[k]? := fun k hk => by rw [hW, Below.heap_alloc _ _ _ (by simp; omega), Below.heap_alloc _ _ _ hk]
  have hWr : W.heap[w.heap.size + 1]? = some (.cells #[.int .u8 0, .int .u8 0, .int .i64 0, .int .i64 0, .int .i64 0, .slice none 0 0, .pointer none, .pointer none] 148 (0, 0)) := by rw [hW]; exact new_at w _ _
  have hWb : Below w.heap.size w W := by rw [hW]; exact (below_box _).trans ((below_box _).mono (by simp))
  have hx : PtIs (fun k => k < B) W ⟨L, N, K, Tp, Bt, pa, pn, pc, Bo, Ov⟩ (.name c t) := PtIs.keeps (fun k hk _ => ⟨hold k (by have : k < B := hk; omega), hk⟩) _ _ (unhide H)
  have hTB : TB (w.heap.size + 3) (W.alloc (.cells #[.slice none 0 0, .bool true, .bool true, .bool true] 75)) (w.heap.size + 2) [] (.slice none 0 0) [] := by
    have := new_TB W
    rw [hWs] at this
    exact this
  have HX := hide hx
  have HTB := hide hTB
  clear hTB hx
  have hWx : W = (w.alloc (.cells #[.int .u8 (L.toNat : Int), .int .u8 (N.toNat : Int), .int .i64 K, .int .i64 Tp, .int .i64 Bt, .slice pa pn pc, .pointer (Bo.map fun b => ⟨b, 0, none⟩), .pointer (Ov.map fun b => ⟨b, 0, none⟩)] 148)).alloc (.cells #[.int .u8 0, .int .u8 0, .int .i64 0, .int .i64 0, .int .i64 0, .slice none 0 0, .pointer none, .pointer none] 148) := hW
  rw [← hWx]
  clear hW hWx
  refine (add_any (x := ⟨L, N, K, Tp, Bt, pa, pn, pc, Bo, Ov⟩) (Ok := fun k => k < B) (unhide HTB) (PtIs.keeps (fun k hk hl => ⟨Below.heap_alloc _ _ _ hl, hk⟩) _ _ (unhide HX)) (fun k hk => ⟨by have : k < B := hk; omega, by simp [Value.ownBlock]⟩) (by simp)).mono ?_
  rintro e w3 ⟨rfl, hchg, sl', htb, _⟩
  have hr3 : w3.heap[w.heap.size + 1]? = _ := ((hchg.block (w.heap.size + 1) (by simp; omega) (by omega) (by simp [Value.ownBlock])).trans (Below.heap_alloc _ _ _ (by omega))).trans hWr
  have hc3 : ∀ i, w3.cell? ⟨w.heap.size + 1, i, none⟩ = _ := fun i => blk_cell hr3 i
  have hf3 : ∀ i, w3.frozen? ⟨w.heap.size + 1, i, none⟩ = false := fun i => blk_free hr3 i
  have hb3 : Below w.heap.size w w3 := hWb.trans ⟨hchg.os, hchg.tape, hchg.output, Nat.le_trans (by simp) hchg.size, fun k hk => (hchg.block k (by simp; omega) (by omega) (by simp [Value.ownBlock])).trans (Below.heap_alloc _ _ _ (by omega))⟩
  have HT3 := hide (fun v0 v1 v2 v3 v4 v5 v6 v7 => one_TmIs hB hWs (unhide HX) hchg htb v0 v1 v2 v3 v4 v5 v6 v7)
  have HB3 := hide hb3
  clear hr3 hb3 hchg htb hWr hWb hold
  go_wp2_with fail
  exact bodyPost_ret (v := PC.value (pcPow (-1) (some (w.heap.size + 2)))) (by simp [results, Tryz.results140, go_sem, hc3, PC.value, PC.cells, pcPow, ptr]) rfl ⟨pcPow (-1) (some (w.heap.size + 2)), rfl, by rw [Pt.opp]; exact PtIs.pow_iff.2 ⟨rfl, rfl, _, rfl, unhide HT3 _ _ _ _ _ _ _ _⟩, st8_below (unhide HB3) (Nat.le_succ _) _ _ _ _ _ _ _ _⟩
def OppAt (q : Nat) (g : Tm) (B : Nat) (w : World) : Prop := ∀ w', Below w.heap.size w w' → Calls Tryz.prog 65 #[.pointer (some ⟨q, 0, none⟩)] w' fun e w2 => ∃ tb, e = .returned (.tuple #[.pointer (some ⟨tb, 0, none⟩), .bool true]) ∧ TmIs (Okw B w') w2 tb g.opp ∧ Below w'.heap.size w' w2
set_option maxRecDepth 100000 in
set_option maxHeartbeats 1600000 in
theorem oppUnder_of {B : Nat} {w : World} {s g : Tm} {n k t b : Int} {pa : Option Addr} {pn pc : Nat} {q q' : Nat} (hB : B ≤ w.heap.size) (hO : OppAt q g B w) (hs : TmIs (fun k => k < B) w q' s) :
    Calls Tryz.prog 139 #[.agg #[.int .u8 91, .int .u8 n, .int .i64 k, .int .i64 t, .int .i64 b, .slice pa pn pc, .pointer (some ⟨q, 0, none⟩), .pointer (some ⟨q', 0, none⟩)]] w fun e w' => ∃ x', e = .returned (.tuple #[PC.value x', .bool true]) ∧ PtIs (Okw B w) w' x' (Pt.under s g).opp ∧ Below w.heap.size w w' := by
  have HO := hide hO
  have HS := hide hs
  clear hO hs
  go_enter Tryz.func139, Tryz.ntmps139
  go_wp2_with fail
  refine (unhide HO _ ((below_box _).trans ((below_box _).mono (by simp)))).mono ?_
  rintro e w1 ⟨tb, rfl, ht, hb1⟩
  obtain ⟨hc1, hf1, hl1, hb, hblk⟩ := res_facts hb1
  obtain ⟨hca, hfa⟩ := bcell hb1
  have HB := hide hb
  have HT := hide ht
  have hbx : ∀ i, w1.cell? ⟨w.heap.size, i, none⟩ = (#[.int .u8 91, .int .u8 n, .int .i64 k, .int .i64 t, .int .i64 b, .slice pa pn pc, .pointer (some ⟨q, 0, none⟩), .pointer (some ⟨q', 0, none⟩)] : Array Value)[i]? := fun i => (hca w.heap.size i (by simp; omega)).trans (blk_cell ((Below.heap_alloc _ _ _ (by simp)).trans (heap_alloc_new w _)) i)
  clear hca hfa hb ht hblk hb1
  go_wp2_with fail
  refine bodyPost_ret (v := .tuple #[PC.value (pcUnd (some tb) (some q')), .bool true]) (by simp [results, Tryz.results139, go_sem, hc1, PC.value, PC.cells, pcUnd, ptr]) rfl ⟨pcUnd (some tb) (some q'), rfl, ?_, st8_below (unhide HB) (Nat.le_succ _) _ _ _ _ _ _ _ _⟩
  rw [Pt.opp]
  refine PtIs.under_iff.2 ⟨rfl, ⟨tb, rfl, (unhide HT).keeps (fun k hk _ => ?_)⟩, q', rfl, (unhide HS).keeps (fun k hk _ => ?_)⟩
  · have hs2 : ∀ (o o' : Obj), ((w.alloc o).alloc o').heap.size = w.heap.size + 2 := fun o o' => by simp
    have hk2 : k < B ∨ w.heap.size + 2 ≤ k := by
      rcases hk with hk | hk
      · exact Or.inl hk
      · rw [hs2] at hk; exact Or.inr hk
    exact ⟨st8_heap _ _ _ _ _ _ _ _ _ (by omega), hk2.imp id (fun h => by omega)⟩
  · have hk' : k < B := hk
    exact ⟨(st8_heap _ _ _ _ _ _ _ _ _ (by omega)).trans ((unhide HB).block k (by omega)), Or.inl hk⟩
end Go.Proofs.YtikiaijgcjjloaaGreatDoor

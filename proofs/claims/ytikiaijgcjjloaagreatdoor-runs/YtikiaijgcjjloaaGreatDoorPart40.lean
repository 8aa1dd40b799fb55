import Derived.Test.YtikiaijgcjjloaaGreatDoorPart39

namespace Go.Proofs.YtikiaijgcjjloaaGreatDoor
open Go Go.RowKit M T Go.Lib
structure ItB (w : World) (c0 : Array Value) (p q : Int) (wr : World) : Prop where
  b0 : wr.heap[w.heap.size]? = some (.cells c0 131 (0, 0))
  b1 : wr.heap[w.heap.size + 1]? = some (.cells #[.int .i64 0, .int .i64 0] 129 (0, 0))
  b2 : wr.heap[w.heap.size + 2]? = some (.cells #[.int .i64 p, .int .i64 q] 129 (0, 0))
  bel : Below w.heap.size w wr
theorem three_at0 (w : World) (o0 o1 o2 : Obj) : (((w.alloc o0).alloc o1).alloc o2).heap[w.heap.size]? = some o0 := by
  rw [Below.heap_alloc _ _ _ (by simp; omega), Below.heap_alloc _ _ _ (by simp)]
  exact heap_alloc_new w o0
theorem ItB.new (w : World) (c0 : Array Value) (p q : Int) : ItB w c0 p q (((w.alloc (.cells c0 131)).alloc (.cells #[.int .i64 0, .int .i64 0] 129)).alloc (.cells #[.int .i64 p, .int .i64 q] 129)) := ⟨three_at0 w _ _ _, three_at1 w _ _ _, three_at2 w _ _ _, three_below w _ _ _⟩
theorem ItB.below {w : World} {c0 : Array Value} {p q : Int} {wr w' : World} (h : ItB w c0 p q wr) (hb : Below wr.heap.size wr w') : ItB w c0 p q w' := ⟨(hb.block _ (lt_of_block h.b0)).trans h.b0, (hb.block _ (lt_of_block h.b1)).trans h.b1, (hb.block _ (lt_of_block h.b2)).trans h.b2, h.bel.trans (hb.mono h.bel.size)⟩
theorem ItB.drew {w : World} {c0 : Array Value} {p q : Int} {wr : World} (h : ItB w c0 p q wr) : ItB w c0 p q wr.drew := ⟨h.b0, h.b1, h.b2, h.bel.drew⟩
theorem ItB.stored {w : World} {c0 : Array Value} {p q : Int} {wr : World} (h : ItB w c0 p q wr) (a b c d : Value) : Below w.heap.size w ((((wr.setCell ⟨w.heap.size + 2, 0, none⟩ a).setCell ⟨w.heap.size + 2, 1, none⟩ b).setCell ⟨w.heap.size + 1, 0, none⟩ c).setCell ⟨w.heap.size + 1, 1, none⟩ d) :=
  (((h.bel.setCell (by show w.heap.size ≤ w.heap.size + 2; omega) _).setCell (by show w.heap.size ≤ w.heap.size + 2; omega) _).setCell (by show w.heap.size ≤ w.heap.size + 1; omega) _).setCell (by show w.heap.size ≤ w.heap.size + 1; omega) _
theorem ItB.stored2 {w : World} {c0 : Array Value} {p q : Int} {wr : World} (h : ItB w c0 p q wr) (c d : Value) : Below w.heap.size w ((wr.setCell ⟨w.heap.size + 1, 0, none⟩ c).setCell ⟨w.heap.size + 1, 1, none⟩ d) :=
  (h.bel.setCell (by show w.heap.size ≤ w.heap.size + 1; omega) _).setCell (by show w.heap.size ≤ w.heap.size + 1; omega) _
set_option maxRecDepth 100000 in
set_option maxHeartbeats 1600000 in
theorem item_s {w : World} {ao : Option Addr} {cap : Nat} {xs : List Rat} {i : Nat} (h : RL w ao cap xs) (hi : i < xs.length) (P Q K : Int) (pa : Option Addr) (pn pc : Nat) (F G : ByteArray) :
    Calls Tryz.prog 109 #[.agg #[.int .u8 115, .int .i64 P, .int .i64 Q, .int .i64 K, .slice pa pn pc, .string F, .string G], .slice ao xs.length cap, .int .i64 (i : Int)] w fun e w' => RQGot (foldE addE (xs.headD 0) (xs.tail.take i)) e ∧ Below w.heap.size w w' := by
  have hlen := h.len
  obtain ⟨g, rfl, hg, hc⟩ := h.cell (by omega)
  obtain ⟨d0, d1⟩ := hc i hi
  have hx := h.small xs[i] (List.getElem_mem hi)
  have hi' : (i : Int) < (xs.length : Int) := by omega
  have HL := hide h
  have HC := hide hc
  have HCall := hide (show ∀ W, RL W (some ⟨g, 0, none⟩) cap xs → Calls Tryz.prog 147 #[.slice (some ⟨g, 0, none⟩) xs.length cap, .int .i64 (i : Int)] W fun e w' => RQGot (foldE addE (xs.headD 0) (xs.tail.take i)) e ∧ Below W.heap.size W w' from fun W hW => by
    cases xs with
    | nil => simp at hi
    | cons x0 l => exact sum_any hW (by simp at hi; omega))
  clear h hc
  generalize xs[i] = x at d0 d1 hx
  have HI0 := hide (ItB.new w #[.int .u8 115, .int .i64 P, .int .i64 Q, .int .i64 K, .slice pa pn pc, .string F, .string G] x.num (x.den : Int))
  go_enter Tryz.func109, Tryz.ntmps109
  go_wp2_with fail
  refine (unhide HCall _ ((unhide HL).below (three_below w _ _ _))).mono ?_
  rintro e w1 ⟨⟨p, q, c, rfl, hr⟩, hb⟩
  have HR := hide hr
  have HIb := hide (((ItB.new w #[.int .u8 115, .int .i64 P, .int .i64 Q, .int .i64 K, .slice pa pn pc, .string F, .string G] x.num (x.den : Int))).below hb)
  have n1 : ∀ j, w1.cell? ⟨w.heap.size + 1, j, none⟩ = (#[.int .i64 0, .int .i64 0] : Array Value)[j]? := fun j => blk_cell (unhide HIb).b1 j
  have f1 : ∀ j, w1.frozen? ⟨w.heap.size + 1, j, none⟩ = false := fun j => blk_free (unhide HIb).b1 j
  have n2 : ∀ j, w1.cell? ⟨w.heap.size + 2, j, none⟩ = (#[.int .i64 x.num, .int .i64 (x.den : Int)] : Array Value)[j]? := fun j => blk_cell (unhide HIb).b2 j
  have f2 : ∀ j, w1.frozen? ⟨w.heap.size + 2, j, none⟩ = false := fun j => blk_free (unhide HIb).b2 j
  clear hb hr
  go_wp2_with fail
  exact bodyPost_ret (v := .tuple #[.agg #[.int .i64 p, .int .i64 q], .int .i64 c]) (by simp [results, Tryz.results109, go_sem, n1]) rfl ⟨⟨p, q, c, rfl, unhide HR⟩, (unhide HIb).stored _ _ _ _⟩
set_option maxRecDepth 100000 in
set_option maxHeartbeats 1600000 in
theorem item_p {w : World} {ao : Option Addr} {cap : Nat} {xs : List Rat} {i : Nat} (h : RL w ao cap xs) (hi : i < xs.length) (P Q K : Int) (pa : Option Addr) (pn pc : Nat) (F G : ByteArray) :
    Calls Tryz.prog 109 #[.agg #[.int .u8 112, .int .i64 P, .int .i64 Q, .int .i64 K, .slice pa pn pc, .string F, .string G], .slice ao xs.length cap, .int .i64 (i : Int)] w fun e w' => RQGot (foldE mulE (xs.headD 0) (xs.tail.take i)) e ∧ Below w.heap.size w w' := by
  have hlen := h.len
  obtain ⟨g, rfl, hg, hc⟩ := h.cell (by omega)
  obtain ⟨d0, d1⟩ := hc i hi
  have hx := h.small xs[i] (List.getElem_mem hi)
  have hi' : (i : Int) < (xs.length : Int) := by omega
  have HL := hide h
  have HC := hide hc
  have HCall := hide (show ∀ W, RL W (some ⟨g, 0, none⟩) cap xs → Calls Tryz.prog 148 #[.slice (some ⟨g, 0, none⟩) xs.length cap, .int .i64 (i : Int)] W fun e w' => RQGot (foldE mulE (xs.headD 0) (xs.tail.take i)) e ∧ Below W.heap.size W w' from fun W hW => by
    cases xs with
    | nil => simp at hi
    | cons x0 l => exact product_any hW (by simp at hi; omega))
  clear h hc
  generalize xs[i] = x at d0 d1 hx
  have HI0 := hide (ItB.new w #[.int .u8 112, .int .i64 P, .int .i64 Q, .int .i64 K, .slice pa pn pc, .string F, .string G] x.num (x.den : Int))
  go_enter Tryz.func109, Tryz.ntmps109
  go_wp2_with fail
  refine (unhide HCall _ ((unhide HL).below (three_below w _ _ _))).mono ?_
  rintro e w1 ⟨⟨p, q, c, rfl, hr⟩, hb⟩
  have HR := hide hr
  have HIb := hide (((ItB.new w #[.int .u8 112, .int .i64 P, .int .i64 Q, .int .i64 K, .slice pa pn pc, .string F, .string G] x.num (x.den : Int))).below hb)
  have n1 : ∀ j, w1.cell? ⟨w.heap.size + 1, j, none⟩ = (#[.int .i64 0, .int .i64 0] : Array Value)[j]? := fun j => blk_cell (unhide HIb).b1 j
  have f1 : ∀ j, w1.frozen? ⟨w.heap.size + 1, j, none⟩ = false := fun j => blk_free (unhide HIb).b1 j
  have n2 : ∀ j, w1.cell? ⟨w.heap.size + 2, j, none⟩ = (#[.int .i64 x.num, .int .i64 (x.den : Int)] : Array Value)[j]? := fun j => blk_cell (unhide HIb).b2 j
  have f2 : ∀ j, w1.frozen? ⟨w.heap.size + 2, j, none⟩ = false := fun j => blk_free (unhide HIb).b2 j
  clear hb hr
  go_wp2_with fail
  exact bodyPost_ret (v := .tuple #[.agg #[.int .i64 p, .int .i64 q], .int .i64 c]) (by simp [results, Tryz.results109, go_sem, n1]) rfl ⟨⟨p, q, c, rfl, unhide HR⟩, (unhide HIb).stored _ _ _ _⟩
set_option maxRecDepth 100000 in
set_option maxHeartbeats 1600000 in
theorem item_m {w : World} {ao : Option Addr} {cap : Nat} {xs : List Rat} {i : Nat} (h : RL w ao cap xs) (hi : i < xs.length) (P Q K : Int) (pa : Option Addr) (pn pc : Nat) (F G : ByteArray) :
    Calls Tryz.prog 109 #[.agg #[.int .u8 109, .int .i64 P, .int .i64 Q, .int .i64 K, .slice pa pn pc, .string F, .string G], .slice ao xs.length cap, .int .i64 (i : Int)] w fun e w' => RQGot (foldE mulE (xs.headD 0) (xs.tail.take i)) e ∧ Below w.heap.size w w' := by
  have hlen := h.len
  obtain ⟨g, rfl, hg, hc⟩ := h.cell (by omega)
  obtain ⟨d0, d1⟩ := hc i hi
  have hx := h.small xs[i] (List.getElem_mem hi)
  have hi' : (i : Int) < (xs.length : Int) := by omega
  have HL := hide h
  have HC := hide hc
  have HCall := hide (show ∀ W, RL W (some ⟨g, 0, none⟩) cap xs → Calls Tryz.prog 148 #[.slice (some ⟨g, 0, none⟩) xs.length cap, .int .i64 (i : Int)] W fun e w' => RQGot (foldE mulE (xs.headD 0) (xs.tail.take i)) e ∧ Below W.heap.size W w' from fun W hW => by
    cases xs with
    | nil => simp at hi
    | cons x0 l => exact product_any hW (by simp at hi; omega))
  clear h hc
  generalize xs[i] = x at d0 d1 hx
  have HI0 := hide (ItB.new w #[.int .u8 109, .int .i64 P, .int .i64 Q, .int .i64 K, .slice pa pn pc, .string F, .string G] x.num (x.den : Int))
  go_enter Tryz.func109, Tryz.ntmps109
  go_wp2_with fail
  refine (unhide HCall _ ((unhide HL).below (three_below w _ _ _))).mono ?_
  rintro e w1 ⟨⟨p, q, c, rfl, hr⟩, hb⟩
  have HR := hide hr
  have HIb := hide (((ItB.new w #[.int .u8 109, .int .i64 P, .int .i64 Q, .int .i64 K, .slice pa pn pc, .string F, .string G] x.num (x.den : Int))).below hb)
  have n1 : ∀ j, w1.cell? ⟨w.heap.size + 1, j, none⟩ = (#[.int .i64 0, .int .i64 0] : Array Value)[j]? := fun j => blk_cell (unhide HIb).b1 j
  have f1 : ∀ j, w1.frozen? ⟨w.heap.size + 1, j, none⟩ = false := fun j => blk_free (unhide HIb).b1 j
  have n2 : ∀ j, w1.cell? ⟨w.heap.size + 2, j, none⟩ = (#[.int .i64 x.num, .int .i64 (x.den : Int)] : Array Value)[j]? := fun j => blk_cell (unhide HIb).b2 j
  have f2 : ∀ j, w1.frozen? ⟨w.heap.size + 2, j, none⟩ = false := fun j => blk_free (unhide HIb).b2 j
  clear hb hr
  go_wp2_with fail
  exact bodyPost_ret (v := .tuple #[.agg #[.int .i64 p, .int .i64 q], .int .i64 c]) (by simp [results, Tryz.results109, go_sem, n1]) rfl ⟨⟨p, q, c, rfl, unhide HR⟩, (unhide HIb).stored _ _ _ _⟩
set_option maxRecDepth 100000 in
set_option maxHeartbeats 1600000 in
theorem item_z0 {w : World} {ao : Option Addr} {cap : Nat} {xs : List Rat} {i : Nat} (h0 : i = 0) (h : RL w ao cap xs) (hi : i < xs.length) (P Q K : Int) (pa : Option Addr) (pn pc : Nat) (F G : ByteArray) :
    Calls Tryz.prog 109 #[.agg #[.int .u8 122, .int .i64 P, .int .i64 Q, .int .i64 K, .slice pa pn pc, .string F, .string G], .slice ao xs.length cap, .int .i64 (i : Int)] w fun e w' => RQGot (.ok xs[i]) e ∧ Below w.heap.size w w' := by
  have hlen := h.len
  obtain ⟨g, rfl, hg, hc⟩ := h.cell (by omega)
  obtain ⟨d0, d1⟩ := hc i hi
  have hx := h.small xs[i] (List.getElem_mem hi)
  have hi' : (i : Int) < (xs.length : Int) := by omega
  have HL := hide h
  have HC := hide hc
  have h0' : ¬ (0 : Int) < (i : Int) := by omega
  clear h hc h0
  generalize xs[i] = x at d0 d1 hx ⊢
  have HX := hide hx
  clear hx
  go_enter Tryz.func109, Tryz.ntmps109
  go_wp2_with fail
  exact bodyPost_ret (v := .tuple #[.agg #[.int .i64 x.num, .int .i64 (x.den : Int)], .int .i64 0]) (by simp [results, Tryz.results109, go_sem]) rfl ⟨⟨_, _, _, rfl, rq_ok rfl (unhide HX)⟩, three_below w _ _ _⟩
set_option maxRecDepth 100000 in
set_option maxHeartbeats 1600000 in
theorem item_o0 {w : World} {ao : Option Addr} {cap : Nat} {xs : List Rat} {i : Nat} (h0 : i = 0) (h : RL w ao cap xs) (hi : i < xs.length) (P Q K : Int) (pa : Option Addr) (pn pc : Nat) (F G : ByteArray) :
    Calls Tryz.prog 109 #[.agg #[.int .u8 111, .int .i64 P, .int .i64 Q, .int .i64 K, .slice pa pn pc, .string F, .string G], .slice ao xs.length cap, .int .i64 (i : Int)] w fun e w' => RQGot (.ok xs[i]) e ∧ Below w.heap.size w w' := by
  have hlen := h.len
  obtain ⟨g, rfl, hg, hc⟩ := h.cell (by omega)
  obtain ⟨d0, d1⟩ := hc i hi
  have hx := h.small xs[i] (List.getElem_mem hi)
  have hi' : (i : Int) < (xs.length : Int) := by omega
  have HL := hide h
  have HC := hide hc
  have h0' : ¬ (0 : Int) < (i : Int) := by omega
  clear h hc h0
  generalize xs[i] = x at d0 d1 hx ⊢
  have HX := hide hx
  clear hx
  go_enter Tryz.func109, Tryz.ntmps109
  go_wp2_with fail
  exact bodyPost_ret (v := .tuple #[.agg #[.int .i64 x.num, .int .i64 (x.den : Int)], .int .i64 0]) (by simp [results, Tryz.results109, go_sem]) rfl ⟨⟨_, _, _, rfl, rq_ok rfl (unhide HX)⟩, three_below w _ _ _⟩
set_option maxRecDepth 100000 in
set_option maxHeartbeats 3200000 in
theorem item_z1 {w : World} {ao : Option Addr} {cap : Nat} {xs : List Rat} {j : Nat} (h : RL w ao cap xs) (hi : j + 1 < xs.length) (P Q K : Int) (pa : Option Addr) (pn pc : Nat) (F G : ByteArray) :
    Calls Tryz.prog 109 #[.agg #[.int .u8 122, .int .i64 P, .int .i64 Q, .int .i64 K, .slice pa pn pc, .string F, .string G], .slice ao xs.length cap, .int .i64 ((j + 1 : Nat) : Int)] w fun e w' => RQGot (subE xs[j] xs[j + 1]) e ∧ Below w.heap.size w w' := by
  have hlen := h.len
  obtain ⟨g, rfl, hg, hc⟩ := h.cell (by omega)
  obtain ⟨d0, d1⟩ := hc (j + 1) hi
  obtain ⟨b0, b1⟩ := hc j (by omega)
  have hx := h.small xs[j + 1] (List.getElem_mem hi)
  have hy := h.small xs[j] (List.getElem_mem _)
  clear h hc
  generalize xs[j + 1] = x at d0 d1 hx ⊢
  generalize xs[j] = y at b0 b1 hy ⊢
  have HX := hide hx
  have HY := hide hy
  obtain ⟨I, hI⟩ : ∃ I : Int, ((j + 1 : Nat) : Int) = I := ⟨_, rfl⟩
  have hI1 : I - 1 = (j : Int) := by omega
  have hI2 : (0 : Int) < I := by omega
  have hI4 : IntKind.i64.wrap (j : Int) = (j : Int) := by rw [IntKind.wrap_i64]; omega
  have hI5 : IntKind.i64.wrap (I - 1) = (j : Int) := by rw [IntKind.wrap_i64]; omega
  have hI6 : (0 : Int) ≤ (j : Int) := by omega
  have hI3 : I ≤ 1000 := by omega
  have hi' : ((j + 1 : Nat) : Int) < (xs.length : Int) := by omega
  have hj' : (j : Int) < (xs.length : Int) := by omega
  have hjn : I.toNat = j + 1 := by omega
  have HI0 := hide (ItB.new w #[.int .u8 122, .int .i64 P, .int .i64 Q, .int .i64 K, .slice pa pn pc, .string F, .string G] x.num (x.den : Int))
  clear hx hy
  have hg1 : g ≠ w.heap.size + 1 := by omega
  have hg2 : g ≠ w.heap.size + 2 := by omega
  go_enter Tryz.func109, Tryz.ntmps109
  go_upto_region 12 with fail
  generalize (((w.alloc (.cells #[.int .u8 122, .int .i64 P, .int .i64 Q, .int .i64 K, .slice pa pn pc, .string F, .string G] 131)).alloc (.cells #[.int .i64 0, .int .i64 0] 129)).alloc (.cells #[.int .i64 x.num, .int .i64 (x.den : Int)] 129)) = w0 at HI0 ⊢
  have n2 : ∀ k, w0.cell? ⟨w.heap.size + 2, k, none⟩ = (#[.int .i64 x.num, .int .i64 (x.den : Int)] : Array Value)[k]? := fun k => blk_cell (unhide HI0).b2 k
  have s2 := lt_of_block (unhide HI0).b2
  have b0' := ((unhide HI0).bel.cell (p := ⟨g, j * 2, none⟩) hg).trans b0
  have b1' := ((unhide HI0).bel.cell (p := ⟨g, j * 2 + 1, none⟩) hg).trans b1
  clear d0 d1 b0 b1
  rw [hI] at hi' ⊢
  have HIe := hide hI
  clear hI
  go_region_with (first
    | (go_at_call 149; refine (rqLess (unhide HY) _).mono ?_; rintro e wl ⟨rfl, hbl⟩; have m2 : ∀ k, wl.cell? ⟨w.heap.size + 2, k, none⟩ = (#[.int .i64 x.num, .int .i64 (x.den : Int)] : Array Value)[k]? := fun k => (hbl.cell (p := ⟨w.heap.size + 2, k, none⟩) s2).trans (n2 k); have HIl := hide ((unhide HI0).drew.below hbl); clear hbl)
    | (go_at_call 93; refine (rqAdd (unhide HX) (neg_small (unhide HY)) _).mono ?_; rintro e wa ⟨⟨p, q, c, rfl, hr⟩, hba⟩; have HIa := hide ((unhide HIl).below hba); have k1 : ∀ k, wa.cell? ⟨w.heap.size + 1, k, none⟩ = (#[.int .i64 0, .int .i64 0] : Array Value)[k]? := fun k => blk_cell (unhide HIa).b1 k; have f1 : ∀ k, wa.frozen? ⟨w.heap.size + 1, k, none⟩ = false := fun k => blk_free (unhide HIa).b1 k; have k2 : ∀ k, wa.cell? ⟨w.heap.size + 2, k, none⟩ = (#[.int .i64 x.num, .int .i64 (x.den : Int)] : Array Value)[k]? := fun k => blk_cell (unhide HIa).b2 k; have f2 : ∀ k, wa.frozen? ⟨w.heap.size + 2, k, none⟩ = false := fun k => blk_free (unhide HIa).b2 k; have HR := hide hr; clear hr hba))
  all_goals go_wp2_with fail
  all_goals exact bodyPost_ret (v := .tuple #[.agg #[.int .i64 p, .int .i64 q], .int .i64 c]) (by simp [results, Tryz.results109, go_sem, k1]) rfl ⟨⟨p, q, c, rfl, by have := unhide HR; rw [show x + -y = x - y from (Rat.sub_eq_add_neg x y).symm] at this; exact this⟩, (unhide HIa).stored _ _ _ _⟩
set_option maxRecDepth 100000 in
set_option maxHeartbeats 3200000 in
theorem item_o1 {w : World} {ao : Option Addr} {cap : Nat} {xs : List Rat} {j : Nat} (h : RL w ao cap xs) (hi : j + 1 < xs.length) (P Q K : Int) (pa : Option Addr) (pn pc : Nat) (F G : ByteArray) :
    Calls Tryz.prog 109 #[.agg #[.int .u8 111, .int .i64 P, .int .i64 Q, .int .i64 K, .slice pa pn pc, .string F, .string G], .slice ao xs.length cap, .int .i64 ((j + 1 : Nat) : Int)] w fun e w' => RQGot (divE xs[j] xs[j + 1]) e ∧ Below w.heap.size w w' := by
  have hlen := h.len
  obtain ⟨g, rfl, hg, hc⟩ := h.cell (by omega)
  obtain ⟨d0, d1⟩ := hc (j + 1) hi
  obtain ⟨b0, b1⟩ := hc j (by omega)
  have hx := h.small xs[j + 1] (List.getElem_mem hi)
  have hy := h.small xs[j] (List.getElem_mem _)
  clear h hc
  generalize xs[j + 1] = x at d0 d1 hx ⊢
  generalize xs[j] = y at b0 b1 hy ⊢
  have HX := hide hx
  have HY := hide hy
  obtain ⟨I, hI⟩ : ∃ I : Int, ((j + 1 : Nat) : Int) = I := ⟨_, rfl⟩
  have hI1 : I - 1 = (j : Int) := by omega
  have hI2 : (0 : Int) < I := by omega
  have hI4 : IntKind.i64.wrap (j : Int) = (j : Int) := by rw [IntKind.wrap_i64]; omega
  have hI5 : IntKind.i64.wrap (I - 1) = (j : Int) := by rw [IntKind.wrap_i64]; omega
  have hI6 : (0 : Int) ≤ (j : Int) := by omega
  have hI3 : I ≤ 1000 := by omega
  have hi' : ((j + 1 : Nat) : Int) < (xs.length : Int) := by omega
  have hj' : (j : Int) < (xs.length : Int) := by omega
  have hjn : I.toNat = j + 1 := by omega
  have HI0 := hide (ItB.new w #[.int .u8 111, .int .i64 P, .int .i64 Q, .int .i64 K, .slice pa pn pc, .string F, .string G] x.num (x.den : Int))
  clear hx hy
  have hg1 : g ≠ w.heap.size + 1 := by omega
  have hg2 : g ≠ w.heap.size + 2 := by omega
  rw [hI] at hi' ⊢
  have HIe := hide hI
  clear hI
  go_enter Tryz.func109, Tryz.ntmps109
  go_upto_region 15 with fail
  generalize (((w.alloc (.cells #[.int .u8 111, .int .i64 P, .int .i64 Q, .int .i64 K, .slice pa pn pc, .string F, .string G] 131)).alloc (.cells #[.int .i64 0, .int .i64 0] 129)).alloc (.cells #[.int .i64 x.num, .int .i64 (x.den : Int)] 129)) = w0 at HI0 ⊢
  have n2 : ∀ k, w0.cell? ⟨w.heap.size + 2, k, none⟩ = (#[.int .i64 x.num, .int .i64 (x.den : Int)] : Array Value)[k]? := fun k => blk_cell (unhide HI0).b2 k
  have b0' := ((unhide HI0).bel.cell (p := ⟨g, j * 2, none⟩) hg).trans b0
  have b1' := ((unhide HI0).bel.cell (p := ⟨g, j * 2 + 1, none⟩) hg).trans b1
  clear d0 d1 b0 b1
  go_wp2_with fail
  refine (rqInv (unhide HY) _).mono ?_
  rintro e w1 ⟨⟨p, q, c, rfl, hr⟩, hb⟩
  have HI1 := hide ((unhide HI0).below hb)
  have HI2 := hide (((unhide HI0).below hb).below ((Below.refl _ _).alloc (Nat.le_refl _) (.cells #[.int .i64 p, .int .i64 q] 129)))
  have k1 : ∀ k, w1.cell? ⟨w.heap.size + 1, k, none⟩ = (#[.int .i64 0, .int .i64 0] : Array Value)[k]? := fun k => blk_cell (unhide HI1).b1 k
  have f1 : ∀ k, w1.frozen? ⟨w.heap.size + 1, k, none⟩ = false := fun k => blk_free (unhide HI1).b1 k
  have k2 : ∀ k, w1.cell? ⟨w.heap.size + 2, k, none⟩ = (#[.int .i64 x.num, .int .i64 (x.den : Int)] : Array Value)[k]? := fun k => blk_cell (unhide HI1).b2 k
  have f2 : ∀ k, w1.frozen? ⟨w.heap.size + 2, k, none⟩ = false := fun k => blk_free (unhide HI1).b2 k
  have s2 := lt_of_block (unhide HI1).b2
  have s1 := lt_of_block (unhide HI1).b1
  clear hb
  rcases hr with ⟨z, hz, hzs, rfl, rfl, rfl⟩ | ⟨hz, hne⟩
  · have HD := hide (show divE y x = lim (x * z) by
      unfold divE
      unfold overE at hz
      by_cases h0 : y = 0
      · rw [if_pos h0] at hz; cases hz
      · rw [if_neg h0] at hz ⊢
        rw [Except.ok.inj hz])
    have HZ := hide hzs
    clear hz hzs
    go_wp2_with fail
    refine (rqMul (unhide HX) (unhide HZ) _).mono ?_
    rintro e wa ⟨⟨p, q, c, rfl, hr⟩, hba⟩
    have HIa := hide ((unhide HI2).below hba)
    have l1 : ∀ k, wa.cell? ⟨w.heap.size + 1, k, none⟩ = (#[.int .i64 0, .int .i64 0] : Array Value)[k]? := fun k => blk_cell (unhide HIa).b1 k
    have e1 : ∀ k, wa.frozen? ⟨w.heap.size + 1, k, none⟩ = false := fun k => blk_free (unhide HIa).b1 k
    have l2 : ∀ k, wa.cell? ⟨w.heap.size + 2, k, none⟩ = (#[.int .i64 x.num, .int .i64 (x.den : Int)] : Array Value)[k]? := fun k => blk_cell (unhide HIa).b2 k
    have e2 : ∀ k, wa.frozen? ⟨w.heap.size + 2, k, none⟩ = false := fun k => blk_free (unhide HIa).b2 k
    have HR := hide hr
    clear hr hba
    go_wp2_with fail
    exact bodyPost_ret (v := .tuple #[.agg #[.int .i64 p, .int .i64 q], .int .i64 c]) (by simp [results, Tryz.results109, go_sem, l1]) rfl ⟨⟨p, q, c, rfl, by rw [unhide HD]; exact unhide HR⟩, (unhide HIa).stored _ _ _ _⟩
  · have HD := hide (show divE y x = .error c by
      unfold divE
      unfold overE at hz
      by_cases h0 : y = 0
      · rw [if_pos h0] at hz ⊢
        rw [Except.error.inj hz]
      · rw [if_neg h0] at hz; cases hz)
    have hne' : (c != 0) = true := by rw [bne_iff_ne]; exact hne
    have HNe := hide hne
    clear hz hne
    go_wp2_with fail
    exact bodyPost_ret (v := .tuple #[.agg #[.int .i64 x.num, .int .i64 (x.den : Int)], .int .i64 c]) (by simp [results, Tryz.results109, go_sem, k1, s1, World.cell?_alloc_past]) rfl ⟨⟨_, _, _, rfl, Or.inr ⟨unhide HD, unhide HNe⟩⟩, ((unhide HI1).stored2 _ _).alloc ((unhide HI1).stored2 _ _).size _⟩
set_option maxRecDepth 100000 in
set_option maxHeartbeats 1600000 in
theorem item_alone {w : World} {ao : Option Addr} {cap : Nat} {xs : List Rat} {i : Nat} {L : UInt8} {r : Except Int Rat} (h : RL w ao cap xs) (hi : i < xs.length) (P Q K : Int) (pa : Option Addr) (pn pc : Nat) (F G : ByteArray) (hL : L ≠ 115 ∧ L ≠ 112 ∧ L ≠ 109 ∧ L ≠ 122 ∧ L ≠ 111)
    (hal : ∀ W, Calls Tryz.prog 150 #[.agg #[.int .u8 (L.toNat : Int), .int .i64 P, .int .i64 Q, .int .i64 K, .slice pa pn pc, .string F, .string G], .agg #[.int .i64 xs[i].num, .int .i64 (xs[i].den : Int)]] W fun e w' => RQGot r e ∧ Below W.heap.size W w') :
    Calls Tryz.prog 109 #[.agg #[.int .u8 (L.toNat : Int), .int .i64 P, .int .i64 Q, .int .i64 K, .slice pa pn pc, .string F, .string G], .slice ao xs.length cap, .int .i64 (i : Int)] w fun e w' => RQGot r e ∧ Below w.heap.size w w' := by
  have hlen := h.len
  obtain ⟨g, rfl, hg, hc⟩ := h.cell (by omega)
  obtain ⟨d0, d1⟩ := hc i hi
  have hx := h.small xs[i] (List.getElem_mem hi)
  have hi' : (i : Int) < (xs.length : Int) := by omega
  have HL := hide h
  have HC := hide hc
  obtain ⟨m1, m2, m3, m4, m5⟩ := hL
  have g1 : ((L.toNat : Int) == 115) = false := u8_ne' (d := 115) m1
  have g2 : ((L.toNat : Int) == 112) = false := u8_ne' (d := 112) m2
  have g3 : ((L.toNat : Int) == 109) = false := u8_ne' (d := 109) m3
  have g4 : ((L.toNat : Int) == 122) = false := u8_ne' (d := 122) m4
  have g5 : ((L.toNat : Int) == 111) = false := u8_ne' (d := 111) m5
  have HAl := hide hal
  clear h hc m1 m2 m3 m4 m5 hal
  generalize xs[i] = x at d0 d1 hx HAl
  have HI0 := hide (ItB.new w #[.int .u8 (L.toNat : Int), .int .i64 P, .int .i64 Q, .int .i64 K, .slice pa pn pc, .string F, .string G] x.num (x.den : Int))
  go_enter Tryz.func109, Tryz.ntmps109
  go_wp2_with fail
  refine (unhide HAl _).mono ?_
  rintro e w1 ⟨⟨p, q, c, rfl, hr⟩, hb⟩
  have HR := hide hr
  have HIb := hide (((ItB.new w #[.int .u8 (L.toNat : Int), .int .i64 P, .int .i64 Q, .int .i64 K, .slice pa pn pc, .string F, .string G] x.num (x.den : Int))).below hb)
  have n1 : ∀ j, w1.cell? ⟨w.heap.size + 1, j, none⟩ = (#[.int .i64 0, .int .i64 0] : Array Value)[j]? := fun j => blk_cell (unhide HIb).b1 j
  have f1 : ∀ j, w1.frozen? ⟨w.heap.size + 1, j, none⟩ = false := fun j => blk_free (unhide HIb).b1 j
  have n2 : ∀ j, w1.cell? ⟨w.heap.size + 2, j, none⟩ = (#[.int .i64 x.num, .int .i64 (x.den : Int)] : Array Value)[j]? := fun j => blk_cell (unhide HIb).b2 j
  have f2 : ∀ j, w1.frozen? ⟨w.heap.size + 2, j, none⟩ = false := fun j => blk_free (unhide HIb).b2 j
  clear hb hr
  go_wp2_with fail
  exact bodyPost_ret (v := .tuple #[.agg #[.int .i64 p, .int .i64 q], .int .i64 c]) (by simp [results, Tryz.results109, go_sem, n1]) rfl ⟨⟨p, q, c, rfl, unhide HR⟩, (unhide HIb).stored _ _ _ _⟩
end Go.Proofs.YtikiaijgcjjloaaGreatDoor

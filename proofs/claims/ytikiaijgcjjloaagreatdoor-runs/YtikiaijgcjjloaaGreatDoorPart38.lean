import Derived.Test.YtikiaijgcjjloaaGreatDoorPart37

namespace Go.Proofs.YtikiaijgcjjloaaGreatDoor
open Go Go.RowKit M T Go.Lib
theorem three_at1 (w : World) (o0 o1 o2 : Obj) : (((w.alloc o0).alloc o1).alloc o2).heap[w.heap.size + 1]? = some o1 := by
  rw [Below.heap_alloc _ _ _ (by simp)]
  exact new_at2P w o0 o1
theorem three_at2 (w : World) (o0 o1 o2 : Obj) : (((w.alloc o0).alloc o1).alloc o2).heap[w.heap.size + 2]? = some o2 := by
  have := heap_alloc_new ((w.alloc o0).alloc o1) o2
  rw [World.size_alloc, World.size_alloc] at this
  exact this
theorem three_below (w : World) (o0 o1 o2 : Obj) : Below w.heap.size w (((w.alloc o0).alloc o1).alloc o2) := (((Below.refl _ _).alloc (Nat.le_refl _) _).alloc (by rw [World.size_alloc]; omega) _).alloc (by rw [World.size_alloc, World.size_alloc]; omega) _
theorem rq_ok {r : Except Int Rat} {z : Rat} (h : r = .ok z) (hs : small z = true) : RQ r z.num (z.den : Int) 0 := Or.inl ⟨z, h, hs, rfl, rfl, rfl⟩
def uE (x : Rat) : Except Int Rat := if x < 0 then .error 2 else lim (x * x)
set_option maxRecDepth 100000 in
set_option maxHeartbeats 800000 in
theorem alone_n {x : Rat} (hx : small x = true) (P Q K : Int) (pa : Option Addr) (pn pc : Nat) (F G : ByteArray) (w : World) :
    Calls Tryz.prog 150 #[.agg #[.int .u8 110, .int .i64 P, .int .i64 Q, .int .i64 K, .slice pa pn pc, .string F, .string G], .agg #[.int .i64 x.num, .int .i64 (x.den : Int)]] w fun e w' => RQGot (.ok (-x)) e ∧ Below w.heap.size w w' := by
  have HX := hide hx
  clear hx
  have HN1 := hide (three_at1 w (.cells #[.int .u8 110, .int .i64 P, .int .i64 Q, .int .i64 K, .slice pa pn pc, .string F, .string G] 131) (.cells #[.int .i64 x.num, .int .i64 (x.den : Int)] 129) (.cells #[.int .i64 0, .int .i64 0] 129))
  have HN2 := hide (three_at2 w (.cells #[.int .u8 110, .int .i64 P, .int .i64 Q, .int .i64 K, .slice pa pn pc, .string F, .string G] 131) (.cells #[.int .i64 x.num, .int .i64 (x.den : Int)] 129) (.cells #[.int .i64 0, .int .i64 0] 129))
  have HB0 := hide (three_below w (.cells #[.int .u8 110, .int .i64 P, .int .i64 Q, .int .i64 K, .slice pa pn pc, .string F, .string G] 131) (.cells #[.int .i64 x.num, .int .i64 (x.den : Int)] 129) (.cells #[.int .i64 0, .int .i64 0] 129))
  go_enter Tryz.func150, Tryz.ntmps150
  go_wp2_with fail
  refine (rqLess (unhide HX) _).mono ?_
  rintro e w1 ⟨rfl, hb⟩
  have n1 := (hb.block (w.heap.size + 1) (by simp)).trans (unhide HN1)
  have n2 := (hb.block (w.heap.size + 2) (by simp)).trans (unhide HN2)
  have c1 : ∀ i, w1.cell? ⟨w.heap.size + 1, i, none⟩ = (#[.int .i64 x.num, .int .i64 (x.den : Int)] : Array Value)[i]? := fun i => blk_cell n1 i
  have f1 : ∀ i, w1.frozen? ⟨w.heap.size + 1, i, none⟩ = false := fun i => blk_free n1 i
  have c2 : ∀ i, w1.cell? ⟨w.heap.size + 2, i, none⟩ = (#[.int .i64 0, .int .i64 0] : Array Value)[i]? := fun i => blk_cell n2 i
  have f2 : ∀ i, w1.frozen? ⟨w.heap.size + 2, i, none⟩ = false := fun i => blk_free n2 i
  have HB := hide ((unhide HB0).trans (hb.mono (unhide HB0).size))
  clear hb n1 n2
  go_wp2_with fail
  exact bodyPost_ret (v := .tuple #[.agg #[.int .i64 (-x).num, .int .i64 ((-x).den : Int)], .int .i64 0]) (by simp [results, Tryz.results150, go_sem, c2]) rfl ⟨⟨_, _, _, rfl, rq_ok rfl (neg_small (unhide HX))⟩, by repeat (first | refine Below.setCell ?_ (by first | omega | (simp <;> omega)) _ | exact unhide HB)⟩
set_option maxRecDepth 100000 in
set_option maxHeartbeats 800000 in
theorem alone_aneg {x : Rat} (h0 : x < 0) (hx : small x = true) (P Q K : Int) (pa : Option Addr) (pn pc : Nat) (F G : ByteArray) (w : World) :
    Calls Tryz.prog 150 #[.agg #[.int .u8 97, .int .i64 P, .int .i64 Q, .int .i64 K, .slice pa pn pc, .string F, .string G], .agg #[.int .i64 x.num, .int .i64 (x.den : Int)]] w fun e w' => RQGot (.ok (absR x)) e ∧ Below w.heap.size w w' := by
  have h0n : x.num < 0 := num_lt_iff.2 h0
  have HA := hide (show absR x = -x by unfold absR; rw [if_pos h0])
  have HX := hide hx
  clear hx
  have HN1 := hide (three_at1 w (.cells #[.int .u8 97, .int .i64 P, .int .i64 Q, .int .i64 K, .slice pa pn pc, .string F, .string G] 131) (.cells #[.int .i64 x.num, .int .i64 (x.den : Int)] 129) (.cells #[.int .i64 0, .int .i64 0] 129))
  have HN2 := hide (three_at2 w (.cells #[.int .u8 97, .int .i64 P, .int .i64 Q, .int .i64 K, .slice pa pn pc, .string F, .string G] 131) (.cells #[.int .i64 x.num, .int .i64 (x.den : Int)] 129) (.cells #[.int .i64 0, .int .i64 0] 129))
  have HB0 := hide (three_below w (.cells #[.int .u8 97, .int .i64 P, .int .i64 Q, .int .i64 K, .slice pa pn pc, .string F, .string G] 131) (.cells #[.int .i64 x.num, .int .i64 (x.den : Int)] 129) (.cells #[.int .i64 0, .int .i64 0] 129))
  go_enter Tryz.func150, Tryz.ntmps150
  go_wp2_with fail
  refine (rqLess (unhide HX) _).mono ?_
  rintro e w1 ⟨rfl, hb⟩
  have n1 := (hb.block (w.heap.size + 1) (by simp)).trans (unhide HN1)
  have n2 := (hb.block (w.heap.size + 2) (by simp)).trans (unhide HN2)
  have c1 : ∀ i, w1.cell? ⟨w.heap.size + 1, i, none⟩ = (#[.int .i64 x.num, .int .i64 (x.den : Int)] : Array Value)[i]? := fun i => blk_cell n1 i
  have f1 : ∀ i, w1.frozen? ⟨w.heap.size + 1, i, none⟩ = false := fun i => blk_free n1 i
  have c2 : ∀ i, w1.cell? ⟨w.heap.size + 2, i, none⟩ = (#[.int .i64 0, .int .i64 0] : Array Value)[i]? := fun i => blk_cell n2 i
  have f2 : ∀ i, w1.frozen? ⟨w.heap.size + 2, i, none⟩ = false := fun i => blk_free n2 i
  have HB := hide ((unhide HB0).trans (hb.mono (unhide HB0).size))
  clear hb n1 n2
  go_wp2_with fail
  exact bodyPost_ret (v := .tuple #[.agg #[.int .i64 (-x).num, .int .i64 ((-x).den : Int)], .int .i64 0]) (by simp [results, Tryz.results150, go_sem, c2]) rfl ⟨⟨_, _, _, rfl, by rw [unhide HA]; exact rq_ok rfl (neg_small (unhide HX))⟩, by repeat (first | refine Below.setCell ?_ (by first | omega | (simp <;> omega)) _ | exact unhide HB)⟩
set_option maxRecDepth 100000 in
set_option maxHeartbeats 800000 in
theorem alone_apos {x : Rat} (h0 : ¬ x < 0) (hx : small x = true) (P Q K : Int) (pa : Option Addr) (pn pc : Nat) (F G : ByteArray) (w : World) :
    Calls Tryz.prog 150 #[.agg #[.int .u8 97, .int .i64 P, .int .i64 Q, .int .i64 K, .slice pa pn pc, .string F, .string G], .agg #[.int .i64 x.num, .int .i64 (x.den : Int)]] w fun e w' => RQGot (.ok (absR x)) e ∧ Below w.heap.size w w' := by
  have h0n : ¬ x.num < 0 := fun h => h0 (num_lt_iff.1 h)
  have HA := hide (show absR x = x by unfold absR; rw [if_neg h0])
  have HX := hide hx
  clear hx
  have HN1 := hide (three_at1 w (.cells #[.int .u8 97, .int .i64 P, .int .i64 Q, .int .i64 K, .slice pa pn pc, .string F, .string G] 131) (.cells #[.int .i64 x.num, .int .i64 (x.den : Int)] 129) (.cells #[.int .i64 0, .int .i64 0] 129))
  have HN2 := hide (three_at2 w (.cells #[.int .u8 97, .int .i64 P, .int .i64 Q, .int .i64 K, .slice pa pn pc, .string F, .string G] 131) (.cells #[.int .i64 x.num, .int .i64 (x.den : Int)] 129) (.cells #[.int .i64 0, .int .i64 0] 129))
  have HB0 := hide (three_below w (.cells #[.int .u8 97, .int .i64 P, .int .i64 Q, .int .i64 K, .slice pa pn pc, .string F, .string G] 131) (.cells #[.int .i64 x.num, .int .i64 (x.den : Int)] 129) (.cells #[.int .i64 0, .int .i64 0] 129))
  go_enter Tryz.func150, Tryz.ntmps150
  go_wp2_with fail
  exact bodyPost_ret (v := .tuple #[.agg #[.int .i64 x.num, .int .i64 (x.den : Int)], .int .i64 0]) (by simp [results, Tryz.results150, go_sem]) rfl ⟨⟨_, _, _, rfl, by rw [unhide HA]; exact rq_ok rfl (unhide HX)⟩, three_below w _ _ _⟩
set_option maxRecDepth 100000 in
set_option maxHeartbeats 800000 in
theorem alone_v {x : Rat} (hx : small x = true) (P Q K : Int) (pa : Option Addr) (pn pc : Nat) (F G : ByteArray) (w : World) :
    Calls Tryz.prog 150 #[.agg #[.int .u8 118, .int .i64 P, .int .i64 Q, .int .i64 K, .slice pa pn pc, .string F, .string G], .agg #[.int .i64 x.num, .int .i64 (x.den : Int)]] w fun e w' => RQGot (overE x) e ∧ Below w.heap.size w w' := by
  have HX := hide hx
  clear hx
  have HN1 := hide (three_at1 w (.cells #[.int .u8 118, .int .i64 P, .int .i64 Q, .int .i64 K, .slice pa pn pc, .string F, .string G] 131) (.cells #[.int .i64 x.num, .int .i64 (x.den : Int)] 129) (.cells #[.int .i64 0, .int .i64 0] 129))
  have HN2 := hide (three_at2 w (.cells #[.int .u8 118, .int .i64 P, .int .i64 Q, .int .i64 K, .slice pa pn pc, .string F, .string G] 131) (.cells #[.int .i64 x.num, .int .i64 (x.den : Int)] 129) (.cells #[.int .i64 0, .int .i64 0] 129))
  have HB0 := hide (three_below w (.cells #[.int .u8 118, .int .i64 P, .int .i64 Q, .int .i64 K, .slice pa pn pc, .string F, .string G] 131) (.cells #[.int .i64 x.num, .int .i64 (x.den : Int)] 129) (.cells #[.int .i64 0, .int .i64 0] 129))
  go_enter Tryz.func150, Tryz.ntmps150
  go_wp2_with fail
  refine (rqInv (unhide HX) _).mono ?_
  rintro e w1 ⟨⟨p, q, c, rfl, hr⟩, hb⟩
  have HR := hide hr
  clear hr
  have n1 := (hb.block (w.heap.size + 1) (by simp)).trans (unhide HN1)
  have n2 := (hb.block (w.heap.size + 2) (by simp)).trans (unhide HN2)
  have c1 : ∀ i, w1.cell? ⟨w.heap.size + 1, i, none⟩ = (#[.int .i64 x.num, .int .i64 (x.den : Int)] : Array Value)[i]? := fun i => blk_cell n1 i
  have f1 : ∀ i, w1.frozen? ⟨w.heap.size + 1, i, none⟩ = false := fun i => blk_free n1 i
  have c2 : ∀ i, w1.cell? ⟨w.heap.size + 2, i, none⟩ = (#[.int .i64 0, .int .i64 0] : Array Value)[i]? := fun i => blk_cell n2 i
  have f2 : ∀ i, w1.frozen? ⟨w.heap.size + 2, i, none⟩ = false := fun i => blk_free n2 i
  have HB := hide ((unhide HB0).trans (hb.mono (unhide HB0).size))
  clear hb n1 n2
  go_wp2_with fail
  exact bodyPost_ret (v := .tuple #[.agg #[.int .i64 p, .int .i64 q], .int .i64 c]) (by simp [results, Tryz.results150, go_sem, c2]) rfl ⟨⟨_, _, _, rfl, unhide HR⟩, by repeat (first | refine Below.setCell ?_ (by first | omega | (simp <;> omega)) _ | exact unhide HB)⟩
set_option maxRecDepth 100000 in
set_option maxHeartbeats 800000 in
theorem alone_w {x : Rat} (hx : small x = true) (P Q K : Int) (pa : Option Addr) (pn pc : Nat) (F G : ByteArray) (w : World) :
    Calls Tryz.prog 150 #[.agg #[.int .u8 119, .int .i64 P, .int .i64 Q, .int .i64 K, .slice pa pn pc, .string F, .string G], .agg #[.int .i64 x.num, .int .i64 (x.den : Int)]] w fun e w' => RQGot (rootE x) e ∧ Below w.heap.size w w' := by
  have HX := hide hx
  clear hx
  have HN1 := hide (three_at1 w (.cells #[.int .u8 119, .int .i64 P, .int .i64 Q, .int .i64 K, .slice pa pn pc, .string F, .string G] 131) (.cells #[.int .i64 x.num, .int .i64 (x.den : Int)] 129) (.cells #[.int .i64 0, .int .i64 0] 129))
  have HN2 := hide (three_at2 w (.cells #[.int .u8 119, .int .i64 P, .int .i64 Q, .int .i64 K, .slice pa pn pc, .string F, .string G] 131) (.cells #[.int .i64 x.num, .int .i64 (x.den : Int)] 129) (.cells #[.int .i64 0, .int .i64 0] 129))
  have HB0 := hide (three_below w (.cells #[.int .u8 119, .int .i64 P, .int .i64 Q, .int .i64 K, .slice pa pn pc, .string F, .string G] 131) (.cells #[.int .i64 x.num, .int .i64 (x.den : Int)] 129) (.cells #[.int .i64 0, .int .i64 0] 129))
  go_enter Tryz.func150, Tryz.ntmps150
  go_wp2_with fail
  refine (rqSqrt (unhide HX) _).mono ?_
  rintro e w1 ⟨⟨p, q, c, rfl, hr⟩, hb⟩
  have HR := hide hr
  clear hr
  have n1 := (hb.block (w.heap.size + 1) (by simp)).trans (unhide HN1)
  have n2 := (hb.block (w.heap.size + 2) (by simp)).trans (unhide HN2)
  have c1 : ∀ i, w1.cell? ⟨w.heap.size + 1, i, none⟩ = (#[.int .i64 x.num, .int .i64 (x.den : Int)] : Array Value)[i]? := fun i => blk_cell n1 i
  have f1 : ∀ i, w1.frozen? ⟨w.heap.size + 1, i, none⟩ = false := fun i => blk_free n1 i
  have c2 : ∀ i, w1.cell? ⟨w.heap.size + 2, i, none⟩ = (#[.int .i64 0, .int .i64 0] : Array Value)[i]? := fun i => blk_cell n2 i
  have f2 : ∀ i, w1.frozen? ⟨w.heap.size + 2, i, none⟩ = false := fun i => blk_free n2 i
  have HB := hide ((unhide HB0).trans (hb.mono (unhide HB0).size))
  clear hb n1 n2
  go_wp2_with fail
  exact bodyPost_ret (v := .tuple #[.agg #[.int .i64 p, .int .i64 q], .int .i64 c]) (by simp [results, Tryz.results150, go_sem, c2]) rfl ⟨⟨_, _, _, rfl, unhide HR⟩, by repeat (first | refine Below.setCell ?_ (by first | omega | (simp <;> omega)) _ | exact unhide HB)⟩
set_option maxRecDepth 100000 in
set_option maxHeartbeats 800000 in
theorem alone_uneg {x : Rat} (h0 : x < 0) (hx : small x = true) (P Q K : Int) (pa : Option Addr) (pn pc : Nat) (F G : ByteArray) (w : World) :
    Calls Tryz.prog 150 #[.agg #[.int .u8 117, .int .i64 P, .int .i64 Q, .int .i64 K, .slice pa pn pc, .string F, .string G], .agg #[.int .i64 x.num, .int .i64 (x.den : Int)]] w fun e w' => RQGot (uE x) e ∧ Below w.heap.size w w' := by
  have h0n : x.num < 0 := num_lt_iff.2 h0
  have HU := hide (show uE x = .error 2 by unfold uE; rw [if_pos h0])
  have HX := hide hx
  clear hx
  have HN1 := hide (three_at1 w (.cells #[.int .u8 117, .int .i64 P, .int .i64 Q, .int .i64 K, .slice pa pn pc, .string F, .string G] 131) (.cells #[.int .i64 x.num, .int .i64 (x.den : Int)] 129) (.cells #[.int .i64 0, .int .i64 0] 129))
  have HN2 := hide (three_at2 w (.cells #[.int .u8 117, .int .i64 P, .int .i64 Q, .int .i64 K, .slice pa pn pc, .string F, .string G] 131) (.cells #[.int .i64 x.num, .int .i64 (x.den : Int)] 129) (.cells #[.int .i64 0, .int .i64 0] 129))
  have HB0 := hide (three_below w (.cells #[.int .u8 117, .int .i64 P, .int .i64 Q, .int .i64 K, .slice pa pn pc, .string F, .string G] 131) (.cells #[.int .i64 x.num, .int .i64 (x.den : Int)] 129) (.cells #[.int .i64 0, .int .i64 0] 129))
  go_enter Tryz.func150, Tryz.ntmps150
  go_wp2_with fail
  exact bodyPost_ret (v := .tuple #[.agg #[.int .i64 x.num, .int .i64 (x.den : Int)], .int .i64 2]) (by simp [results, Tryz.results150, go_sem]) rfl ⟨⟨_, _, _, rfl, Or.inr ⟨unhide HU, by decide⟩⟩, three_below w _ _ _⟩
set_option maxRecDepth 100000 in
set_option maxHeartbeats 800000 in
theorem alone_upos {x : Rat} (h0 : ¬ x < 0) (hx : small x = true) (P Q K : Int) (pa : Option Addr) (pn pc : Nat) (F G : ByteArray) (w : World) :
    Calls Tryz.prog 150 #[.agg #[.int .u8 117, .int .i64 P, .int .i64 Q, .int .i64 K, .slice pa pn pc, .string F, .string G], .agg #[.int .i64 x.num, .int .i64 (x.den : Int)]] w fun e w' => RQGot (uE x) e ∧ Below w.heap.size w w' := by
  have h0n : ¬ x.num < 0 := fun h => h0 (num_lt_iff.1 h)
  have HU := hide (show uE x = lim (x * x) by unfold uE; rw [if_neg h0])
  have HX := hide hx
  clear hx
  have HN1 := hide (three_at1 w (.cells #[.int .u8 117, .int .i64 P, .int .i64 Q, .int .i64 K, .slice pa pn pc, .string F, .string G] 131) (.cells #[.int .i64 x.num, .int .i64 (x.den : Int)] 129) (.cells #[.int .i64 0, .int .i64 0] 129))
  have HN2 := hide (three_at2 w (.cells #[.int .u8 117, .int .i64 P, .int .i64 Q, .int .i64 K, .slice pa pn pc, .string F, .string G] 131) (.cells #[.int .i64 x.num, .int .i64 (x.den : Int)] 129) (.cells #[.int .i64 0, .int .i64 0] 129))
  have HB0 := hide (three_below w (.cells #[.int .u8 117, .int .i64 P, .int .i64 Q, .int .i64 K, .slice pa pn pc, .string F, .string G] 131) (.cells #[.int .i64 x.num, .int .i64 (x.den : Int)] 129) (.cells #[.int .i64 0, .int .i64 0] 129))
  go_enter Tryz.func150, Tryz.ntmps150
  go_wp2_with fail
  refine (rqMul (unhide HX) (unhide HX) _).mono ?_
  rintro e w1 ⟨⟨p, q, c, rfl, hr⟩, hb⟩
  have HR := hide hr
  clear hr
  have n1 := (hb.block (w.heap.size + 1) (by simp)).trans (unhide HN1)
  have n2 := (hb.block (w.heap.size + 2) (by simp)).trans (unhide HN2)
  have c1 : ∀ i, w1.cell? ⟨w.heap.size + 1, i, none⟩ = (#[.int .i64 x.num, .int .i64 (x.den : Int)] : Array Value)[i]? := fun i => blk_cell n1 i
  have f1 : ∀ i, w1.frozen? ⟨w.heap.size + 1, i, none⟩ = false := fun i => blk_free n1 i
  have c2 : ∀ i, w1.cell? ⟨w.heap.size + 2, i, none⟩ = (#[.int .i64 0, .int .i64 0] : Array Value)[i]? := fun i => blk_cell n2 i
  have f2 : ∀ i, w1.frozen? ⟨w.heap.size + 2, i, none⟩ = false := fun i => blk_free n2 i
  have HB := hide ((unhide HB0).trans (hb.mono (unhide HB0).size))
  clear hb n1 n2
  go_wp2_with fail
  exact bodyPost_ret (v := .tuple #[.agg #[.int .i64 p, .int .i64 q], .int .i64 c]) (by simp [results, Tryz.results150, go_sem, c2]) rfl ⟨⟨_, _, _, rfl, by rw [unhide HU]; exact unhide HR⟩, by repeat (first | refine Below.setCell ?_ (by first | omega | (simp <;> omega)) _ | exact unhide HB)⟩
set_option maxRecDepth 100000 in
set_option maxHeartbeats 800000 in
theorem alone_q {x : Rat} (hx : small x = true) (P Q K : Int) (pa : Option Addr) (pn pc : Nat) (F G : ByteArray) (w : World) :
    Calls Tryz.prog 150 #[.agg #[.int .u8 113, .int .i64 P, .int .i64 Q, .int .i64 K, .slice pa pn pc, .string F, .string G], .agg #[.int .i64 x.num, .int .i64 (x.den : Int)]] w fun e w' => RQGot (lim (x * x)) e ∧ Below w.heap.size w w' := by
  have HX := hide hx
  clear hx
  have HN1 := hide (three_at1 w (.cells #[.int .u8 113, .int .i64 P, .int .i64 Q, .int .i64 K, .slice pa pn pc, .string F, .string G] 131) (.cells #[.int .i64 x.num, .int .i64 (x.den : Int)] 129) (.cells #[.int .i64 0, .int .i64 0] 129))
  have HN2 := hide (three_at2 w (.cells #[.int .u8 113, .int .i64 P, .int .i64 Q, .int .i64 K, .slice pa pn pc, .string F, .string G] 131) (.cells #[.int .i64 x.num, .int .i64 (x.den : Int)] 129) (.cells #[.int .i64 0, .int .i64 0] 129))
  have HB0 := hide (three_below w (.cells #[.int .u8 113, .int .i64 P, .int .i64 Q, .int .i64 K, .slice pa pn pc, .string F, .string G] 131) (.cells #[.int .i64 x.num, .int .i64 (x.den : Int)] 129) (.cells #[.int .i64 0, .int .i64 0] 129))
  go_enter Tryz.func150, Tryz.ntmps150
  go_wp2_with fail
  refine (rqMul (unhide HX) (unhide HX) _).mono ?_
  rintro e w1 ⟨⟨p, q, c, rfl, hr⟩, hb⟩
  have HR := hide hr
  clear hr
  have n1 := (hb.block (w.heap.size + 1) (by simp)).trans (unhide HN1)
  have n2 := (hb.block (w.heap.size + 2) (by simp)).trans (unhide HN2)
  have c1 : ∀ i, w1.cell? ⟨w.heap.size + 1, i, none⟩ = (#[.int .i64 x.num, .int .i64 (x.den : Int)] : Array Value)[i]? := fun i => blk_cell n1 i
  have f1 : ∀ i, w1.frozen? ⟨w.heap.size + 1, i, none⟩ = false := fun i => blk_free n1 i
  have c2 : ∀ i, w1.cell? ⟨w.heap.size + 2, i, none⟩ = (#[.int .i64 0, .int .i64 0] : Array Value)[i]? := fun i => blk_cell n2 i
  have f2 : ∀ i, w1.frozen? ⟨w.heap.size + 2, i, none⟩ = false := fun i => blk_free n2 i
  have HB := hide ((unhide HB0).trans (hb.mono (unhide HB0).size))
  clear hb n1 n2
  go_wp2_with fail
  exact bodyPost_ret (v := .tuple #[.agg #[.int .i64 p, .int .i64 q], .int .i64 c]) (by simp [results, Tryz.results150, go_sem, c2]) rfl ⟨⟨_, _, _, rfl, unhide HR⟩, by repeat (first | refine Below.setCell ?_ (by first | omega | (simp <;> omega)) _ | exact unhide HB)⟩
set_option maxRecDepth 100000 in
set_option maxHeartbeats 800000 in
theorem alone_plus {x : Rat} {d : Rat} (hd : small d = true) (hx : small x = true) (K : Int) (pa : Option Addr) (pn pc : Nat) (F G : ByteArray) (w : World) :
    Calls Tryz.prog 150 #[.agg #[.int .u8 43, .int .i64 d.num, .int .i64 (d.den : Int), .int .i64 K, .slice pa pn pc, .string F, .string G], .agg #[.int .i64 x.num, .int .i64 (x.den : Int)]] w fun e w' => RQGot (lim (x + d)) e ∧ Below w.heap.size w w' := by
  have HD := hide hd
  clear hd
  have HX := hide hx
  clear hx
  have HN1 := hide (three_at1 w (.cells #[.int .u8 43, .int .i64 d.num, .int .i64 (d.den : Int), .int .i64 K, .slice pa pn pc, .string F, .string G] 131) (.cells #[.int .i64 x.num, .int .i64 (x.den : Int)] 129) (.cells #[.int .i64 0, .int .i64 0] 129))
  have HN2 := hide (three_at2 w (.cells #[.int .u8 43, .int .i64 d.num, .int .i64 (d.den : Int), .int .i64 K, .slice pa pn pc, .string F, .string G] 131) (.cells #[.int .i64 x.num, .int .i64 (x.den : Int)] 129) (.cells #[.int .i64 0, .int .i64 0] 129))
  have HB0 := hide (three_below w (.cells #[.int .u8 43, .int .i64 d.num, .int .i64 (d.den : Int), .int .i64 K, .slice pa pn pc, .string F, .string G] 131) (.cells #[.int .i64 x.num, .int .i64 (x.den : Int)] 129) (.cells #[.int .i64 0, .int .i64 0] 129))
  go_enter Tryz.func150, Tryz.ntmps150
  go_wp2_with fail
  refine (rqAdd (unhide HX) (unhide HD) _).mono ?_
  rintro e w1 ⟨⟨p, q, c, rfl, hr⟩, hb⟩
  have HR := hide hr
  clear hr
  have n1 := (hb.block (w.heap.size + 1) (by simp)).trans (unhide HN1)
  have n2 := (hb.block (w.heap.size + 2) (by simp)).trans (unhide HN2)
  have c1 : ∀ i, w1.cell? ⟨w.heap.size + 1, i, none⟩ = (#[.int .i64 x.num, .int .i64 (x.den : Int)] : Array Value)[i]? := fun i => blk_cell n1 i
  have f1 : ∀ i, w1.frozen? ⟨w.heap.size + 1, i, none⟩ = false := fun i => blk_free n1 i
  have c2 : ∀ i, w1.cell? ⟨w.heap.size + 2, i, none⟩ = (#[.int .i64 0, .int .i64 0] : Array Value)[i]? := fun i => blk_cell n2 i
  have f2 : ∀ i, w1.frozen? ⟨w.heap.size + 2, i, none⟩ = false := fun i => blk_free n2 i
  have HB := hide ((unhide HB0).trans (hb.mono (unhide HB0).size))
  clear hb n1 n2
  go_wp2_with fail
  exact bodyPost_ret (v := .tuple #[.agg #[.int .i64 p, .int .i64 q], .int .i64 c]) (by simp [results, Tryz.results150, go_sem, c2]) rfl ⟨⟨_, _, _, rfl, unhide HR⟩, by repeat (first | refine Below.setCell ?_ (by first | omega | (simp <;> omega)) _ | exact unhide HB)⟩
set_option maxRecDepth 100000 in
set_option maxHeartbeats 800000 in
theorem alone_times {x : Rat} {d : Rat} (hd : small d = true) (hx : small x = true) (K : Int) (pa : Option Addr) (pn pc : Nat) (F G : ByteArray) (w : World) :
    Calls Tryz.prog 150 #[.agg #[.int .u8 42, .int .i64 d.num, .int .i64 (d.den : Int), .int .i64 K, .slice pa pn pc, .string F, .string G], .agg #[.int .i64 x.num, .int .i64 (x.den : Int)]] w fun e w' => RQGot (lim (x * d)) e ∧ Below w.heap.size w w' := by
  have HD := hide hd
  clear hd
  have HX := hide hx
  clear hx
  have HN1 := hide (three_at1 w (.cells #[.int .u8 42, .int .i64 d.num, .int .i64 (d.den : Int), .int .i64 K, .slice pa pn pc, .string F, .string G] 131) (.cells #[.int .i64 x.num, .int .i64 (x.den : Int)] 129) (.cells #[.int .i64 0, .int .i64 0] 129))
  have HN2 := hide (three_at2 w (.cells #[.int .u8 42, .int .i64 d.num, .int .i64 (d.den : Int), .int .i64 K, .slice pa pn pc, .string F, .string G] 131) (.cells #[.int .i64 x.num, .int .i64 (x.den : Int)] 129) (.cells #[.int .i64 0, .int .i64 0] 129))
  have HB0 := hide (three_below w (.cells #[.int .u8 42, .int .i64 d.num, .int .i64 (d.den : Int), .int .i64 K, .slice pa pn pc, .string F, .string G] 131) (.cells #[.int .i64 x.num, .int .i64 (x.den : Int)] 129) (.cells #[.int .i64 0, .int .i64 0] 129))
  go_enter Tryz.func150, Tryz.ntmps150
  go_wp2_with fail
  refine (rqMul (unhide HX) (unhide HD) _).mono ?_
  rintro e w1 ⟨⟨p, q, c, rfl, hr⟩, hb⟩
  have HR := hide hr
  clear hr
  have n1 := (hb.block (w.heap.size + 1) (by simp)).trans (unhide HN1)
  have n2 := (hb.block (w.heap.size + 2) (by simp)).trans (unhide HN2)
  have c1 : ∀ i, w1.cell? ⟨w.heap.size + 1, i, none⟩ = (#[.int .i64 x.num, .int .i64 (x.den : Int)] : Array Value)[i]? := fun i => blk_cell n1 i
  have f1 : ∀ i, w1.frozen? ⟨w.heap.size + 1, i, none⟩ = false := fun i => blk_free n1 i
  have c2 : ∀ i, w1.cell? ⟨w.heap.size + 2, i, none⟩ = (#[.int .i64 0, .int .i64 0] : Array Value)[i]? := fun i => blk_cell n2 i
  have f2 : ∀ i, w1.frozen? ⟨w.heap.size + 2, i, none⟩ = false := fun i => blk_free n2 i
  have HB := hide ((unhide HB0).trans (hb.mono (unhide HB0).size))
  clear hb n1 n2
  go_wp2_with fail
  exact bodyPost_ret (v := .tuple #[.agg #[.int .i64 p, .int .i64 q], .int .i64 c]) (by simp [results, Tryz.results150, go_sem, c2]) rfl ⟨⟨_, _, _, rfl, unhide HR⟩, by repeat (first | refine Below.setCell ?_ (by first | omega | (simp <;> omega)) _ | exact unhide HB)⟩
set_option maxRecDepth 100000 in
set_option maxHeartbeats 800000 in
theorem alone_set {x : Rat} {d : Rat} (hd : small d = true) (hx : small x = true) (K : Int) (pa : Option Addr) (pn pc : Nat) (F G : ByteArray) (w : World) :
    Calls Tryz.prog 150 #[.agg #[.int .u8 61, .int .i64 d.num, .int .i64 (d.den : Int), .int .i64 K, .slice pa pn pc, .string F, .string G], .agg #[.int .i64 x.num, .int .i64 (x.den : Int)]] w fun e w' => RQGot (.ok d) e ∧ Below w.heap.size w w' := by
  have HD := hide hd
  clear hd
  have HX := hide hx
  clear hx
  have HN1 := hide (three_at1 w (.cells #[.int .u8 61, .int .i64 d.num, .int .i64 (d.den : Int), .int .i64 K, .slice pa pn pc, .string F, .string G] 131) (.cells #[.int .i64 x.num, .int .i64 (x.den : Int)] 129) (.cells #[.int .i64 0, .int .i64 0] 129))
  have HN2 := hide (three_at2 w (.cells #[.int .u8 61, .int .i64 d.num, .int .i64 (d.den : Int), .int .i64 K, .slice pa pn pc, .string F, .string G] 131) (.cells #[.int .i64 x.num, .int .i64 (x.den : Int)] 129) (.cells #[.int .i64 0, .int .i64 0] 129))
  have HB0 := hide (three_below w (.cells #[.int .u8 61, .int .i64 d.num, .int .i64 (d.den : Int), .int .i64 K, .slice pa pn pc, .string F, .string G] 131) (.cells #[.int .i64 x.num, .int .i64 (x.den : Int)] 129) (.cells #[.int .i64 0, .int .i64 0] 129))
  go_enter Tryz.func150, Tryz.ntmps150
  go_wp2_with fail
  exact bodyPost_ret (v := .tuple #[.agg #[.int .i64 d.num, .int .i64 (d.den : Int)], .int .i64 0]) (by simp [results, Tryz.results150, go_sem]) rfl ⟨⟨_, _, _, rfl, rq_ok rfl (unhide HD)⟩, three_below w _ _ _⟩
end Go.Proofs.YtikiaijgcjjloaaGreatDoor

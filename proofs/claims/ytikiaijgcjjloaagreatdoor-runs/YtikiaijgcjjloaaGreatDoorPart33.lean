import Derived.Test.YtikiaijgcjjloaaGreatDoorPart31

namespace Go.Proofs.YtikiaijgcjjloaaGreatDoor
open Go Go.RowKit M T Go.Lib
theorem each_ok (f : Rat → Rat) : ∀ l : List Rat, each (fun x => .ok (f x)) l = .ok (l.map f)
  | [] => rfl
  | x :: l => by rw [each, each_ok f l]; rfl
theorem LGot.base {B B' : Nat} {r : Except Int (List Rat)} {e : Ending} {w : World} (h : LGot B r e w) (hb : B' ≤ B) : LGot B' r e w := by
  rcases h with ⟨l, g, cap, h1, h2, h3, h4⟩ | h
  · exact Or.inl ⟨l, g, cap, h1, h2, h3, owns_base h4 hb⟩
  · exact Or.inr h
theorem box_below (w : World) (o : Obj) : Below w.heap.size w (w.alloc o) := (Below.refl _ _).alloc (Nat.le_refl _) _
set_option maxRecDepth 100000 in
set_option maxHeartbeats 800000 in
theorem mk_n {g cap : Nat} {xs : List Rat} {w : World} (h : LIs w g cap xs) (n k t b : Int) (pa : Option Addr) (pn pc : Nat) (bo ov : Option Addr) :
    Calls Tryz.prog 164 #[.slice (some ⟨g, 0, none⟩) xs.length cap, .agg #[.int .u8 110, .int .u8 n, .int .i64 k, .int .i64 t, .int .i64 b, .slice pa pn pc, .pointer bo, .pointer ov]] w fun e w' => LGot w.heap.size (each (fun x => .ok (-x)) xs) e w' ∧ Below w.heap.size w w' := by
  have HL := hide (h.below (box_below w (.cells #[.int .u8 110, .int .u8 n, .int .i64 k, .int .i64 t, .int .i64 b, .slice pa pn pc, .pointer bo, .pointer ov] 148)))
  have hb0 := box_below w (.cells #[.int .u8 110, .int .u8 n, .int .i64 k, .int .i64 t, .int .i64 b, .slice pa pn pc, .pointer bo, .pointer ov] 148)
  have HB0 := hide hb0
  have HSm := hide h.small
  clear h hb0
  go_enter Tryz.func164, Tryz.ntmps164
  go_wp2_with fail
  refine (change_any (f := fun x => .ok (-x)) (fun q w hq => one_n hq t b n k pa pn pc bo ov w) (unhide HL)).mono ?_
  rintro e w1 ⟨hl, hb1⟩
  have HB := hide ((unhide HB0).trans (hb1.mono (unhide HB0).size))
  have HG := hide (hl.base (unhide HB0).size)
  clear hb1
  rcases hl with ⟨l', g', cap', _, _, rfl, _⟩ | ⟨c, _, _, rfl⟩
  · go_wp2_with fail
    exact bodyPost_ret (v := .tuple #[.slice (some ⟨g', 0, none⟩) l'.length cap', .int .i64 0]) (by simp [results, Tryz.results164, go_sem]) rfl ⟨unhide HG, unhide HB⟩
  · go_wp2_with fail
    exact bodyPost_ret (v := .tuple #[.slice none 0 0, .int .i64 c]) (by simp [results, Tryz.results164, go_sem]) rfl ⟨unhide HG, unhide HB⟩
set_option maxRecDepth 100000 in
set_option maxHeartbeats 800000 in
theorem mk_v {g cap : Nat} {xs : List Rat} {w : World} (h : LIs w g cap xs) (n k t b : Int) (pa : Option Addr) (pn pc : Nat) (bo ov : Option Addr) :
    Calls Tryz.prog 164 #[.slice (some ⟨g, 0, none⟩) xs.length cap, .agg #[.int .u8 118, .int .u8 n, .int .i64 k, .int .i64 t, .int .i64 b, .slice pa pn pc, .pointer bo, .pointer ov]] w fun e w' => LGot w.heap.size (each (overE) xs) e w' ∧ Below w.heap.size w w' := by
  have HL := hide (h.below (box_below w (.cells #[.int .u8 118, .int .u8 n, .int .i64 k, .int .i64 t, .int .i64 b, .slice pa pn pc, .pointer bo, .pointer ov] 148)))
  have hb0 := box_below w (.cells #[.int .u8 118, .int .u8 n, .int .i64 k, .int .i64 t, .int .i64 b, .slice pa pn pc, .pointer bo, .pointer ov] 148)
  have HB0 := hide hb0
  have HSm := hide h.small
  clear h hb0
  go_enter Tryz.func164, Tryz.ntmps164
  go_wp2_with fail
  refine (change_any (f := overE) (fun q w hq => one_v hq t b n k pa pn pc bo ov w) (unhide HL)).mono ?_
  rintro e w1 ⟨hl, hb1⟩
  have HB := hide ((unhide HB0).trans (hb1.mono (unhide HB0).size))
  have HG := hide (hl.base (unhide HB0).size)
  clear hb1
  rcases hl with ⟨l', g', cap', _, _, rfl, _⟩ | ⟨c, _, _, rfl⟩
  · go_wp2_with fail
    exact bodyPost_ret (v := .tuple #[.slice (some ⟨g', 0, none⟩) l'.length cap', .int .i64 0]) (by simp [results, Tryz.results164, go_sem]) rfl ⟨unhide HG, unhide HB⟩
  · go_wp2_with fail
    exact bodyPost_ret (v := .tuple #[.slice none 0 0, .int .i64 c]) (by simp [results, Tryz.results164, go_sem]) rfl ⟨unhide HG, unhide HB⟩
set_option maxRecDepth 100000 in
set_option maxHeartbeats 800000 in
theorem mk_a {g cap : Nat} {xs : List Rat} {w : World} (h : LIs w g cap xs) (n k t b : Int) (pa : Option Addr) (pn pc : Nat) (bo ov : Option Addr) :
    Calls Tryz.prog 164 #[.slice (some ⟨g, 0, none⟩) xs.length cap, .agg #[.int .u8 97, .int .u8 n, .int .i64 k, .int .i64 t, .int .i64 b, .slice pa pn pc, .pointer bo, .pointer ov]] w fun e w' => LGot w.heap.size (each (fun x => .ok (absR x)) xs) e w' ∧ Below w.heap.size w w' := by
  have HL := hide (h.below (box_below w (.cells #[.int .u8 97, .int .u8 n, .int .i64 k, .int .i64 t, .int .i64 b, .slice pa pn pc, .pointer bo, .pointer ov] 148)))
  have hb0 := box_below w (.cells #[.int .u8 97, .int .u8 n, .int .i64 k, .int .i64 t, .int .i64 b, .slice pa pn pc, .pointer bo, .pointer ov] 148)
  have HB0 := hide hb0
  have HSm := hide h.small
  clear h hb0
  go_enter Tryz.func164, Tryz.ntmps164
  go_wp2_with fail
  refine (change_any (f := fun x => .ok (absR x)) (fun q w hq => one_a hq t b n k pa pn pc bo ov w) (unhide HL)).mono ?_
  rintro e w1 ⟨hl, hb1⟩
  have HB := hide ((unhide HB0).trans (hb1.mono (unhide HB0).size))
  have HG := hide (hl.base (unhide HB0).size)
  clear hb1
  rcases hl with ⟨l', g', cap', _, _, rfl, _⟩ | ⟨c, _, _, rfl⟩
  · go_wp2_with fail
    exact bodyPost_ret (v := .tuple #[.slice (some ⟨g', 0, none⟩) l'.length cap', .int .i64 0]) (by simp [results, Tryz.results164, go_sem]) rfl ⟨unhide HG, unhide HB⟩
  · go_wp2_with fail
    exact bodyPost_ret (v := .tuple #[.slice none 0 0, .int .i64 c]) (by simp [results, Tryz.results164, go_sem]) rfl ⟨unhide HG, unhide HB⟩
set_option maxRecDepth 100000 in
set_option maxHeartbeats 800000 in
theorem mk_q {g cap : Nat} {xs : List Rat} {w : World} (h : LIs w g cap xs) (n k t b : Int) (pa : Option Addr) (pn pc : Nat) (bo ov : Option Addr) :
    Calls Tryz.prog 164 #[.slice (some ⟨g, 0, none⟩) xs.length cap, .agg #[.int .u8 113, .int .u8 n, .int .i64 k, .int .i64 t, .int .i64 b, .slice pa pn pc, .pointer bo, .pointer ov]] w fun e w' => LGot w.heap.size (each (fun x => lim (x * x)) xs) e w' ∧ Below w.heap.size w w' := by
  have HL := hide (h.below (box_below w (.cells #[.int .u8 113, .int .u8 n, .int .i64 k, .int .i64 t, .int .i64 b, .slice pa pn pc, .pointer bo, .pointer ov] 148)))
  have hb0 := box_below w (.cells #[.int .u8 113, .int .u8 n, .int .i64 k, .int .i64 t, .int .i64 b, .slice pa pn pc, .pointer bo, .pointer ov] 148)
  have HB0 := hide hb0
  have HSm := hide h.small
  clear h hb0
  go_enter Tryz.func164, Tryz.ntmps164
  go_wp2_with fail
  refine (change_any (f := fun x => lim (x * x)) (fun q w hq => one_q hq t b n k pa pn pc bo ov w) (unhide HL)).mono ?_
  rintro e w1 ⟨hl, hb1⟩
  have HB := hide ((unhide HB0).trans (hb1.mono (unhide HB0).size))
  have HG := hide (hl.base (unhide HB0).size)
  clear hb1
  rcases hl with ⟨l', g', cap', _, _, rfl, _⟩ | ⟨c, _, _, rfl⟩
  · go_wp2_with fail
    exact bodyPost_ret (v := .tuple #[.slice (some ⟨g', 0, none⟩) l'.length cap', .int .i64 0]) (by simp [results, Tryz.results164, go_sem]) rfl ⟨unhide HG, unhide HB⟩
  · go_wp2_with fail
    exact bodyPost_ret (v := .tuple #[.slice none 0 0, .int .i64 c]) (by simp [results, Tryz.results164, go_sem]) rfl ⟨unhide HG, unhide HB⟩
set_option maxRecDepth 100000 in
set_option maxHeartbeats 800000 in
theorem mk_w {g cap : Nat} {xs : List Rat} {w : World} (h : LIs w g cap xs) (n k t b : Int) (pa : Option Addr) (pn pc : Nat) (bo ov : Option Addr) :
    Calls Tryz.prog 164 #[.slice (some ⟨g, 0, none⟩) xs.length cap, .agg #[.int .u8 119, .int .u8 n, .int .i64 k, .int .i64 t, .int .i64 b, .slice pa pn pc, .pointer bo, .pointer ov]] w fun e w' => LGot w.heap.size (each (rootE) xs) e w' ∧ Below w.heap.size w w' := by
  have HL := hide (h.below (box_below w (.cells #[.int .u8 119, .int .u8 n, .int .i64 k, .int .i64 t, .int .i64 b, .slice pa pn pc, .pointer bo, .pointer ov] 148)))
  have hb0 := box_below w (.cells #[.int .u8 119, .int .u8 n, .int .i64 k, .int .i64 t, .int .i64 b, .slice pa pn pc, .pointer bo, .pointer ov] 148)
  have HB0 := hide hb0
  have HSm := hide h.small
  clear h hb0
  go_enter Tryz.func164, Tryz.ntmps164
  go_wp2_with fail
  refine (change_any (f := rootE) (fun q w hq => one_w hq t b n k pa pn pc bo ov w) (unhide HL)).mono ?_
  rintro e w1 ⟨hl, hb1⟩
  have HB := hide ((unhide HB0).trans (hb1.mono (unhide HB0).size))
  have HG := hide (hl.base (unhide HB0).size)
  clear hb1
  rcases hl with ⟨l', g', cap', _, _, rfl, _⟩ | ⟨c, _, _, rfl⟩
  · go_wp2_with fail
    exact bodyPost_ret (v := .tuple #[.slice (some ⟨g', 0, none⟩) l'.length cap', .int .i64 0]) (by simp [results, Tryz.results164, go_sem]) rfl ⟨unhide HG, unhide HB⟩
  · go_wp2_with fail
    exact bodyPost_ret (v := .tuple #[.slice none 0 0, .int .i64 c]) (by simp [results, Tryz.results164, go_sem]) rfl ⟨unhide HG, unhide HB⟩
set_option maxRecDepth 100000 in
set_option maxHeartbeats 800000 in
theorem mk_u {g cap : Nat} {xs : List Rat} {w : World} (h : LIs w g cap xs) (n k t b : Int) (pa : Option Addr) (pn pc : Nat) (bo ov : Option Addr) :
    Calls Tryz.prog 164 #[.slice (some ⟨g, 0, none⟩) xs.length cap, .agg #[.int .u8 117, .int .u8 n, .int .i64 k, .int .i64 t, .int .i64 b, .slice pa pn pc, .pointer bo, .pointer ov]] w fun e w' => LGot w.heap.size (each (sqE) xs) e w' ∧ Below w.heap.size w w' := by
  have HL := hide (h.below (box_below w (.cells #[.int .u8 117, .int .u8 n, .int .i64 k, .int .i64 t, .int .i64 b, .slice pa pn pc, .pointer bo, .pointer ov] 148)))
  have hb0 := box_below w (.cells #[.int .u8 117, .int .u8 n, .int .i64 k, .int .i64 t, .int .i64 b, .slice pa pn pc, .pointer bo, .pointer ov] 148)
  have HB0 := hide hb0
  have HSm := hide h.small
  clear h hb0
  go_enter Tryz.func164, Tryz.ntmps164
  go_wp2_with fail
  refine (change_any (f := sqE) (fun q w hq => one_u hq t b n k pa pn pc bo ov w) (unhide HL)).mono ?_
  rintro e w1 ⟨hl, hb1⟩
  have HB := hide ((unhide HB0).trans (hb1.mono (unhide HB0).size))
  have HG := hide (hl.base (unhide HB0).size)
  clear hb1
  rcases hl with ⟨l', g', cap', _, _, rfl, _⟩ | ⟨c, _, _, rfl⟩
  · go_wp2_with fail
    exact bodyPost_ret (v := .tuple #[.slice (some ⟨g', 0, none⟩) l'.length cap', .int .i64 0]) (by simp [results, Tryz.results164, go_sem]) rfl ⟨unhide HG, unhide HB⟩
  · go_wp2_with fail
    exact bodyPost_ret (v := .tuple #[.slice none 0 0, .int .i64 c]) (by simp [results, Tryz.results164, go_sem]) rfl ⟨unhide HG, unhide HB⟩
set_option maxRecDepth 100000 in
set_option maxHeartbeats 800000 in
theorem mk_plus {g cap : Nat} {xs : List Rat} {w : World} (h : LIs w g cap xs) (n k : Int) (pa : Option Addr) (pn pc : Nat) (bo ov : Option Addr) {c : Rat} (hc : small c = true) :
    Calls Tryz.prog 164 #[.slice (some ⟨g, 0, none⟩) xs.length cap, .agg #[.int .u8 43, .int .u8 n, .int .i64 k, .int .i64 c.num, .int .i64 (c.den : Int), .slice pa pn pc, .pointer bo, .pointer ov]] w fun e w' => LGot w.heap.size (each (fun x => lim (x + c)) xs) e w' ∧ Below w.heap.size w w' := by
  have HL := hide (h.below (box_below w (.cells #[.int .u8 43, .int .u8 n, .int .i64 k, .int .i64 c.num, .int .i64 (c.den : Int), .slice pa pn pc, .pointer bo, .pointer ov] 148)))
  have hb0 := box_below w (.cells #[.int .u8 43, .int .u8 n, .int .i64 k, .int .i64 c.num, .int .i64 (c.den : Int), .slice pa pn pc, .pointer bo, .pointer ov] 148)
  have HB0 := hide hb0
  have HSm := hide h.small
  have HC := hide hc
  clear hc
  clear h hb0
  go_enter Tryz.func164, Tryz.ntmps164
  go_wp2_with fail
  refine (change_any (f := fun x => lim (x + c)) (fun q w hq => one_plus hq (unhide HC) n k pa pn pc bo ov w) (unhide HL)).mono ?_
  rintro e w1 ⟨hl, hb1⟩
  have HB := hide ((unhide HB0).trans (hb1.mono (unhide HB0).size))
  have HG := hide (hl.base (unhide HB0).size)
  clear hb1
  rcases hl with ⟨l', g', cap', _, _, rfl, _⟩ | ⟨c, _, _, rfl⟩
  · go_wp2_with fail
    exact bodyPost_ret (v := .tuple #[.slice (some ⟨g', 0, none⟩) l'.length cap', .int .i64 0]) (by simp [results, Tryz.results164, go_sem]) rfl ⟨unhide HG, unhide HB⟩
  · go_wp2_with fail
    exact bodyPost_ret (v := .tuple #[.slice none 0 0, .int .i64 c]) (by simp [results, Tryz.results164, go_sem]) rfl ⟨unhide HG, unhide HB⟩
set_option maxRecDepth 100000 in
set_option maxHeartbeats 800000 in
theorem mk_times {g cap : Nat} {xs : List Rat} {w : World} (h : LIs w g cap xs) (n k : Int) (pa : Option Addr) (pn pc : Nat) (bo ov : Option Addr) {c : Rat} (hc : small c = true) :
    Calls Tryz.prog 164 #[.slice (some ⟨g, 0, none⟩) xs.length cap, .agg #[.int .u8 42, .int .u8 n, .int .i64 k, .int .i64 c.num, .int .i64 (c.den : Int), .slice pa pn pc, .pointer bo, .pointer ov]] w fun e w' => LGot w.heap.size (each (fun x => lim (x * c)) xs) e w' ∧ Below w.heap.size w w' := by
  have HL := hide (h.below (box_below w (.cells #[.int .u8 42, .int .u8 n, .int .i64 k, .int .i64 c.num, .int .i64 (c.den : Int), .slice pa pn pc, .pointer bo, .pointer ov] 148)))
  have hb0 := box_below w (.cells #[.int .u8 42, .int .u8 n, .int .i64 k, .int .i64 c.num, .int .i64 (c.den : Int), .slice pa pn pc, .pointer bo, .pointer ov] 148)
  have HB0 := hide hb0
  have HSm := hide h.small
  have HC := hide hc
  clear hc
  clear h hb0
  go_enter Tryz.func164, Tryz.ntmps164
  go_wp2_with fail
  refine (change_any (f := fun x => lim (x * c)) (fun q w hq => one_times hq (unhide HC) n k pa pn pc bo ov w) (unhide HL)).mono ?_
  rintro e w1 ⟨hl, hb1⟩
  have HB := hide ((unhide HB0).trans (hb1.mono (unhide HB0).size))
  have HG := hide (hl.base (unhide HB0).size)
  clear hb1
  rcases hl with ⟨l', g', cap', _, _, rfl, _⟩ | ⟨c, _, _, rfl⟩
  · go_wp2_with fail
    exact bodyPost_ret (v := .tuple #[.slice (some ⟨g', 0, none⟩) l'.length cap', .int .i64 0]) (by simp [results, Tryz.results164, go_sem]) rfl ⟨unhide HG, unhide HB⟩
  · go_wp2_with fail
    exact bodyPost_ret (v := .tuple #[.slice none 0 0, .int .i64 c]) (by simp [results, Tryz.results164, go_sem]) rfl ⟨unhide HG, unhide HB⟩
set_option maxRecDepth 100000 in
set_option maxHeartbeats 800000 in
theorem mk_set {g cap : Nat} {xs : List Rat} {w : World} (h : LIs w g cap xs) (n k : Int) (pa : Option Addr) (pn pc : Nat) (bo ov : Option Addr) {c : Rat} (hc : small c = true) :
    Calls Tryz.prog 164 #[.slice (some ⟨g, 0, none⟩) xs.length cap, .agg #[.int .u8 61, .int .u8 n, .int .i64 k, .int .i64 c.num, .int .i64 (c.den : Int), .slice pa pn pc, .pointer bo, .pointer ov]] w fun e w' => LGot w.heap.size (each (fun _ => .ok c) xs) e w' ∧ Below w.heap.size w w' := by
  have HL := hide (h.below (box_below w (.cells #[.int .u8 61, .int .u8 n, .int .i64 k, .int .i64 c.num, .int .i64 (c.den : Int), .slice pa pn pc, .pointer bo, .pointer ov] 148)))
  have hb0 := box_below w (.cells #[.int .u8 61, .int .u8 n, .int .i64 k, .int .i64 c.num, .int .i64 (c.den : Int), .slice pa pn pc, .pointer bo, .pointer ov] 148)
  have HB0 := hide hb0
  have HSm := hide h.small
  have HC := hide hc
  clear hc
  clear h hb0
  go_enter Tryz.func164, Tryz.ntmps164
  go_wp2_with fail
  refine (change_any (f := fun _ => .ok c) (fun q w hq => one_set hq (unhide HC) n k pa pn pc bo ov w) (unhide HL)).mono ?_
  rintro e w1 ⟨hl, hb1⟩
  have HB := hide ((unhide HB0).trans (hb1.mono (unhide HB0).size))
  have HG := hide (hl.base (unhide HB0).size)
  clear hb1
  rcases hl with ⟨l', g', cap', _, _, rfl, _⟩ | ⟨c, _, _, rfl⟩
  · go_wp2_with fail
    exact bodyPost_ret (v := .tuple #[.slice (some ⟨g', 0, none⟩) l'.length cap', .int .i64 0]) (by simp [results, Tryz.results164, go_sem]) rfl ⟨unhide HG, unhide HB⟩
  · go_wp2_with fail
    exact bodyPost_ret (v := .tuple #[.slice none 0 0, .int .i64 c]) (by simp [results, Tryz.results164, go_sem]) rfl ⟨unhide HG, unhide HB⟩
set_option maxRecDepth 100000 in
set_option maxHeartbeats 800000 in
theorem mk_s {g cap : Nat} {xs : List Rat} {w : World} (h : LIs w g cap xs) (n k t b : Int) (pa : Option Addr) (pn pc : Nat) (bo ov : Option Addr) :
    Calls Tryz.prog 164 #[.slice (some ⟨g, 0, none⟩) xs.length cap, .agg #[.int .u8 115, .int .u8 n, .int .i64 k, .int .i64 t, .int .i64 b, .slice pa pn pc, .pointer bo, .pointer ov]] w fun e w' => LGot w.heap.size (joinR 115 (fun _ n x => addE n x) xs) e w' ∧ Below w.heap.size w w' := by
  have HL := hide (h.below (box_below w (.cells #[.int .u8 115, .int .u8 n, .int .i64 k, .int .i64 t, .int .i64 b, .slice pa pn pc, .pointer bo, .pointer ov] 148)))
  have hb0 := box_below w (.cells #[.int .u8 115, .int .u8 n, .int .i64 k, .int .i64 t, .int .i64 b, .slice pa pn pc, .pointer bo, .pointer ov] 148)
  have HB0 := hide hb0
  have HSm := hide h.small
  clear h hb0
  go_enter Tryz.func164, Tryz.ntmps164
  go_wp2_with fail
  refine (join_any (cc := 115) (J := fun _ n x => addE n x) (fun o n x w ho hn hx => two_s ho hn hx w) (unhide HL)).mono ?_
  rintro e w1 ⟨hl, hb1⟩
  have HB := hide ((unhide HB0).trans (hb1.mono (unhide HB0).size))
  have HG := hide (hl.base (unhide HB0).size)
  clear hb1
  rcases hl with ⟨l', g', cap', _, _, rfl, _⟩ | ⟨c, _, _, rfl⟩
  · go_wp2_with fail
    exact bodyPost_ret (v := .tuple #[.slice (some ⟨g', 0, none⟩) l'.length cap', .int .i64 0]) (by simp [results, Tryz.results164, go_sem]) rfl ⟨unhide HG, unhide HB⟩
  · go_wp2_with fail
    exact bodyPost_ret (v := .tuple #[.slice none 0 0, .int .i64 c]) (by simp [results, Tryz.results164, go_sem]) rfl ⟨unhide HG, unhide HB⟩
set_option maxRecDepth 100000 in
set_option maxHeartbeats 800000 in
theorem mk_z {g cap : Nat} {xs : List Rat} {w : World} (h : LIs w g cap xs) (n k t b : Int) (pa : Option Addr) (pn pc : Nat) (bo ov : Option Addr) :
    Calls Tryz.prog 164 #[.slice (some ⟨g, 0, none⟩) xs.length cap, .agg #[.int .u8 122, .int .u8 n, .int .i64 k, .int .i64 t, .int .i64 b, .slice pa pn pc, .pointer bo, .pointer ov]] w fun e w' => LGot w.heap.size (joinR 122 (fun o _ x => subE o x) xs) e w' ∧ Below w.heap.size w w' := by
  have HL := hide (h.below (box_below w (.cells #[.int .u8 122, .int .u8 n, .int .i64 k, .int .i64 t, .int .i64 b, .slice pa pn pc, .pointer bo, .pointer ov] 148)))
  have hb0 := box_below w (.cells #[.int .u8 122, .int .u8 n, .int .i64 k, .int .i64 t, .int .i64 b, .slice pa pn pc, .pointer bo, .pointer ov] 148)
  have HB0 := hide hb0
  have HSm := hide h.small
  clear h hb0
  go_enter Tryz.func164, Tryz.ntmps164
  go_wp2_with fail
  refine (join_any (cc := 122) (J := fun o _ x => subE o x) (fun o n x w ho hn hx => two_z ho hx w) (unhide HL)).mono ?_
  rintro e w1 ⟨hl, hb1⟩
  have HB := hide ((unhide HB0).trans (hb1.mono (unhide HB0).size))
  have HG := hide (hl.base (unhide HB0).size)
  clear hb1
  rcases hl with ⟨l', g', cap', _, _, rfl, _⟩ | ⟨c, _, _, rfl⟩
  · go_wp2_with fail
    exact bodyPost_ret (v := .tuple #[.slice (some ⟨g', 0, none⟩) l'.length cap', .int .i64 0]) (by simp [results, Tryz.results164, go_sem]) rfl ⟨unhide HG, unhide HB⟩
  · go_wp2_with fail
    exact bodyPost_ret (v := .tuple #[.slice none 0 0, .int .i64 c]) (by simp [results, Tryz.results164, go_sem]) rfl ⟨unhide HG, unhide HB⟩
set_option maxRecDepth 100000 in
set_option maxHeartbeats 800000 in
theorem mk_p {g cap : Nat} {xs : List Rat} {w : World} (h : LIs w g cap xs) (n k t b : Int) (pa : Option Addr) (pn pc : Nat) (bo ov : Option Addr) :
    Calls Tryz.prog 164 #[.slice (some ⟨g, 0, none⟩) xs.length cap, .agg #[.int .u8 112, .int .u8 n, .int .i64 k, .int .i64 t, .int .i64 b, .slice pa pn pc, .pointer bo, .pointer ov]] w fun e w' => LGot w.heap.size (joinR 112 (fun _ n x => mulE n x) xs) e w' ∧ Below w.heap.size w w' := by
  have HL := hide (h.below (box_below w (.cells #[.int .u8 112, .int .u8 n, .int .i64 k, .int .i64 t, .int .i64 b, .slice pa pn pc, .pointer bo, .pointer ov] 148)))
  have hb0 := box_below w (.cells #[.int .u8 112, .int .u8 n, .int .i64 k, .int .i64 t, .int .i64 b, .slice pa pn pc, .pointer bo, .pointer ov] 148)
  have HB0 := hide hb0
  have HSm := hide h.small
  clear h hb0
  go_enter Tryz.func164, Tryz.ntmps164
  go_wp2_with fail
  refine (join_any (cc := 112) (J := fun _ n x => mulE n x) (fun o n x w ho hn hx => two_p ho hn hx w) (unhide HL)).mono ?_
  rintro e w1 ⟨hl, hb1⟩
  have HB := hide ((unhide HB0).trans (hb1.mono (unhide HB0).size))
  have HG := hide (hl.base (unhide HB0).size)
  clear hb1
  rcases hl with ⟨l', g', cap', _, _, rfl, _⟩ | ⟨c, _, _, rfl⟩
  · go_wp2_with fail
    exact bodyPost_ret (v := .tuple #[.slice (some ⟨g', 0, none⟩) l'.length cap', .int .i64 0]) (by simp [results, Tryz.results164, go_sem]) rfl ⟨unhide HG, unhide HB⟩
  · go_wp2_with fail
    exact bodyPost_ret (v := .tuple #[.slice none 0 0, .int .i64 c]) (by simp [results, Tryz.results164, go_sem]) rfl ⟨unhide HG, unhide HB⟩
set_option maxRecDepth 100000 in
set_option maxHeartbeats 800000 in
theorem mk_m {g cap : Nat} {xs : List Rat} {w : World} (h : LIs w g cap xs) (n k t b : Int) (pa : Option Addr) (pn pc : Nat) (bo ov : Option Addr) :
    Calls Tryz.prog 164 #[.slice (some ⟨g, 0, none⟩) xs.length cap, .agg #[.int .u8 109, .int .u8 n, .int .i64 k, .int .i64 t, .int .i64 b, .slice pa pn pc, .pointer bo, .pointer ov]] w fun e w' => LGot w.heap.size (joinR 109 (fun _ n x => mulE n x) xs) e w' ∧ Below w.heap.size w w' := by
  have HL := hide (h.below (box_below w (.cells #[.int .u8 109, .int .u8 n, .int .i64 k, .int .i64 t, .int .i64 b, .slice pa pn pc, .pointer bo, .pointer ov] 148)))
  have hb0 := box_below w (.cells #[.int .u8 109, .int .u8 n, .int .i64 k, .int .i64 t, .int .i64 b, .slice pa pn pc, .pointer bo, .pointer ov] 148)
  have HB0 := hide hb0
  have HSm := hide h.small
  clear h hb0
  go_enter Tryz.func164, Tryz.ntmps164
  go_wp2_with fail
  refine (join_any (cc := 109) (J := fun _ n x => mulE n x) (fun o n x w ho hn hx => two_m ho hn hx w) (unhide HL)).mono ?_
  rintro e w1 ⟨hl, hb1⟩
  have HB := hide ((unhide HB0).trans (hb1.mono (unhide HB0).size))
  have HG := hide (hl.base (unhide HB0).size)
  clear hb1
  rcases hl with ⟨l', g', cap', _, _, rfl, _⟩ | ⟨c, _, _, rfl⟩
  · go_wp2_with fail
    exact bodyPost_ret (v := .tuple #[.slice (some ⟨g', 0, none⟩) l'.length cap', .int .i64 0]) (by simp [results, Tryz.results164, go_sem]) rfl ⟨unhide HG, unhide HB⟩
  · go_wp2_with fail
    exact bodyPost_ret (v := .tuple #[.slice none 0 0, .int .i64 c]) (by simp [results, Tryz.results164, go_sem]) rfl ⟨unhide HG, unhide HB⟩
set_option maxRecDepth 100000 in
set_option maxHeartbeats 800000 in
theorem mk_o {g cap : Nat} {xs : List Rat} {w : World} (h : LIs w g cap xs) (n k t b : Int) (pa : Option Addr) (pn pc : Nat) (bo ov : Option Addr) :
    Calls Tryz.prog 164 #[.slice (some ⟨g, 0, none⟩) xs.length cap, .agg #[.int .u8 111, .int .u8 n, .int .i64 k, .int .i64 t, .int .i64 b, .slice pa pn pc, .pointer bo, .pointer ov]] w fun e w' => LGot w.heap.size (joinR 111 (fun o _ x => divE o x) xs) e w' ∧ Below w.heap.size w w' := by
  have HL := hide (h.below (box_below w (.cells #[.int .u8 111, .int .u8 n, .int .i64 k, .int .i64 t, .int .i64 b, .slice pa pn pc, .pointer bo, .pointer ov] 148)))
  have hb0 := box_below w (.cells #[.int .u8 111, .int .u8 n, .int .i64 k, .int .i64 t, .int .i64 b, .slice pa pn pc, .pointer bo, .pointer ov] 148)
  have HB0 := hide hb0
  have HSm := hide h.small
  clear h hb0
  go_enter Tryz.func164, Tryz.ntmps164
  go_wp2_with fail
  refine (join_any (cc := 111) (J := fun o _ x => divE o x) (fun o n x w ho hn hx => two_o ho hn hx w) (unhide HL)).mono ?_
  rintro e w1 ⟨hl, hb1⟩
  have HB := hide ((unhide HB0).trans (hb1.mono (unhide HB0).size))
  have HG := hide (hl.base (unhide HB0).size)
  clear hb1
  rcases hl with ⟨l', g', cap', _, _, rfl, _⟩ | ⟨c, _, _, rfl⟩
  · go_wp2_with fail
    exact bodyPost_ret (v := .tuple #[.slice (some ⟨g', 0, none⟩) l'.length cap', .int .i64 0]) (by simp [results, Tryz.results164, go_sem]) rfl ⟨unhide HG, unhide HB⟩
  · go_wp2_with fail
    exact bodyPost_ret (v := .tuple #[.slice none 0 0, .int .i64 c]) (by simp [results, Tryz.results164, go_sem]) rfl ⟨unhide HG, unhide HB⟩
set_option maxRecDepth 100000 in
set_option maxHeartbeats 800000 in
theorem mk_r {g cap : Nat} {xs : List Rat} {w : World} (h : LIs w g cap xs) (n k t b : Int) (pa : Option Addr) (pn pc : Nat) (bo ov : Option Addr) :
    Calls Tryz.prog 164 #[.slice (some ⟨g, 0, none⟩) xs.length cap, .agg #[.int .u8 114, .int .u8 n, .int .i64 k, .int .i64 t, .int .i64 b, .slice pa pn pc, .pointer bo, .pointer ov]] w fun e w' => LGot w.heap.size (.ok xs.reverse) e w' ∧ Below w.heap.size w w' := by
  have HL := hide (h.below (box_below w (.cells #[.int .u8 114, .int .u8 n, .int .i64 k, .int .i64 t, .int .i64 b, .slice pa pn pc, .pointer bo, .pointer ov] 148)))
  have hb0 := box_below w (.cells #[.int .u8 114, .int .u8 n, .int .i64 k, .int .i64 t, .int .i64 b, .slice pa pn pc, .pointer bo, .pointer ov] 148)
  have HB0 := hide hb0
  have HSm := hide h.small
  clear h hb0
  go_enter Tryz.func164, Tryz.ntmps164
  go_wp2_with fail
  refine (turnRound_any (unhide HL)).mono ?_
  rintro e w1 ⟨⟨g', cap', rfl, ho⟩, hb1⟩
  have HO := hide (owns_base ho (unhide HB0).size)
  have HB := hide ((unhide HB0).trans (hb1.mono (unhide HB0).size))
  clear ho hb1
  go_wp2_with fail
  exact bodyPost_ret (v := .tuple #[.slice (some ⟨g', 0, none⟩) (xs.reverse).length cap', .int .i64 0]) (by simp [results, Tryz.results164, go_sem]) rfl ⟨Or.inl ⟨_, g', cap', rfl, allS_sub (unhide HSm) (fun x hx => List.mem_reverse.1 hx), rfl, unhide HO⟩, unhide HB⟩
set_option maxRecDepth 100000 in
set_option maxHeartbeats 800000 in
theorem mk_shift {g cap : Nat} {xs : List Rat} {w : World} (h : LIs w g cap xs) (n k t b : Int) (pa : Option Addr) (pn pc : Nat) (bo ov : Option Addr) (hk1 : -1000 ≤ k) (hk2 : k ≤ 1000) :
    Calls Tryz.prog 164 #[.slice (some ⟨g, 0, none⟩) xs.length cap, .agg #[.int .u8 60, .int .u8 n, .int .i64 k, .int .i64 t, .int .i64 b, .slice pa pn pc, .pointer bo, .pointer ov]] w fun e w' => LGot w.heap.size (.ok (turn k xs)) e w' ∧ Below w.heap.size w w' := by
  have HL := hide (h.below (box_below w (.cells #[.int .u8 60, .int .u8 n, .int .i64 k, .int .i64 t, .int .i64 b, .slice pa pn pc, .pointer bo, .pointer ov] 148)))
  have hb0 := box_below w (.cells #[.int .u8 60, .int .u8 n, .int .i64 k, .int .i64 t, .int .i64 b, .slice pa pn pc, .pointer bo, .pointer ov] 148)
  have HB0 := hide hb0
  have HSm := hide h.small
  clear h hb0
  go_enter Tryz.func164, Tryz.ntmps164
  go_wp2_with fail
  refine (shift_any (unhide HL) k hk1 hk2).mono ?_
  rintro e w1 ⟨⟨g', cap', rfl, ho⟩, hb1⟩
  have HO := hide (owns_base ho (unhide HB0).size)
  have HB := hide ((unhide HB0).trans (hb1.mono (unhide HB0).size))
  clear ho hb1
  go_wp2_with fail
  exact bodyPost_ret (v := .tuple #[.slice (some ⟨g', 0, none⟩) (turn k xs).length cap', .int .i64 0]) (by simp [results, Tryz.results164, go_sem]) rfl ⟨Or.inl ⟨_, g', cap', rfl, turnS k (unhide HSm), rfl, unhide HO⟩, unhide HB⟩
set_option maxRecDepth 100000 in
set_option maxHeartbeats 800000 in
theorem mk_take {g cap : Nat} {xs : List Rat} {w : World} (h : LIs w g cap xs) (n : Int) (k : Nat) (t b : Int) (pa : Option Addr) (pn pc : Nat) (bo ov : Option Addr) (hk : k ≤ 1000) :
    Calls Tryz.prog 164 #[.slice (some ⟨g, 0, none⟩) xs.length cap, .agg #[.int .u8 116, .int .u8 n, .int .i64 (k : Int), .int .i64 t, .int .i64 b, .slice pa pn pc, .pointer bo, .pointer ov]] w fun e w' => LGot w.heap.size (takeE k xs) e w' ∧ Below w.heap.size w w' := by
  have HL := hide (h.below (box_below w (.cells #[.int .u8 116, .int .u8 n, .int .i64 (k : Int), .int .i64 t, .int .i64 b, .slice pa pn pc, .pointer bo, .pointer ov] 148)))
  have hb0 := box_below w (.cells #[.int .u8 116, .int .u8 n, .int .i64 (k : Int), .int .i64 t, .int .i64 b, .slice pa pn pc, .pointer bo, .pointer ov] 148)
  have HB0 := hide hb0
  have HSm := hide h.small
  clear h hb0
  go_enter Tryz.func164, Tryz.ntmps164
  go_wp2_with fail
  refine (takeFirst_any (unhide HL) k hk).mono ?_
  rintro e w1 ⟨hl, hb1⟩
  have HB := hide ((unhide HB0).trans (hb1.mono (unhide HB0).size))
  have HG := hide (hl.base (unhide HB0).size)
  clear hb1
  rcases hl with ⟨l', g', cap', _, _, rfl, _⟩ | ⟨c, _, _, rfl⟩
  · go_wp2_with fail
    exact bodyPost_ret (v := .tuple #[.slice (some ⟨g', 0, none⟩) l'.length cap', .int .i64 0]) (by simp [results, Tryz.results164, go_sem]) rfl ⟨unhide HG, unhide HB⟩
  · go_wp2_with fail
    exact bodyPost_ret (v := .tuple #[.slice none 0 0, .int .i64 c]) (by simp [results, Tryz.results164, go_sem]) rfl ⟨unhide HG, unhide HB⟩
set_option maxRecDepth 100000 in
set_option maxHeartbeats 800000 in
theorem mk_drop {g cap : Nat} {xs : List Rat} {w : World} (h : LIs w g cap xs) (n : Int) (k : Nat) (t b : Int) (pa : Option Addr) (pn pc : Nat) (bo ov : Option Addr) (hk : k ≤ 1000) :
    Calls Tryz.prog 164 #[.slice (some ⟨g, 0, none⟩) xs.length cap, .agg #[.int .u8 100, .int .u8 n, .int .i64 (k : Int), .int .i64 t, .int .i64 b, .slice pa pn pc, .pointer bo, .pointer ov]] w fun e w' => LGot w.heap.size (dropE k xs) e w' ∧ Below w.heap.size w w' := by
  have HL := hide (h.below (box_below w (.cells #[.int .u8 100, .int .u8 n, .int .i64 (k : Int), .int .i64 t, .int .i64 b, .slice pa pn pc, .pointer bo, .pointer ov] 148)))
  have hb0 := box_below w (.cells #[.int .u8 100, .int .u8 n, .int .i64 (k : Int), .int .i64 t, .int .i64 b, .slice pa pn pc, .pointer bo, .pointer ov] 148)
  have HB0 := hide hb0
  have HSm := hide h.small
  clear h hb0
  go_enter Tryz.func164, Tryz.ntmps164
  go_wp2_with fail
  refine (takeBehind_any (unhide HL) k hk).mono ?_
  rintro e w1 ⟨hl, hb1⟩
  have HB := hide ((unhide HB0).trans (hb1.mono (unhide HB0).size))
  have HG := hide (hl.base (unhide HB0).size)
  clear hb1
  rcases hl with ⟨l', g', cap', _, _, rfl, _⟩ | ⟨c, _, _, rfl⟩
  · go_wp2_with fail
    exact bodyPost_ret (v := .tuple #[.slice (some ⟨g', 0, none⟩) l'.length cap', .int .i64 0]) (by simp [results, Tryz.results164, go_sem]) rfl ⟨unhide HG, unhide HB⟩
  · go_wp2_with fail
    exact bodyPost_ret (v := .tuple #[.slice none 0 0, .int .i64 c]) (by simp [results, Tryz.results164, go_sem]) rfl ⟨unhide HG, unhide HB⟩
set_option maxRecDepth 100000 in
set_option maxHeartbeats 800000 in
theorem mk_pick {g cap : Nat} {xs : List Rat} {w : World} (h : LIs w g cap xs) (n k t b : Int) (pa : Option Addr) (pn pc : Nat) (bo ov : Option Addr) {ps : List Nat} (hp : w.ownsRow 0 3 1 (.slice pa pn pc) ps.length (ps.map fun i : Nat => Value.int .i64 (i : Int))) (hpl : ps.length ≤ 1000) (hpb : ∀ i ∈ ps, i ≤ 1000) :
    Calls Tryz.prog 164 #[.slice (some ⟨g, 0, none⟩) xs.length cap, .agg #[.int .u8 35, .int .u8 n, .int .i64 k, .int .i64 t, .int .i64 b, .slice pa pn pc, .pointer bo, .pointer ov]] w fun e w' => LGot w.heap.size (pickE ps xs) e w' ∧ Below w.heap.size w w' := by
  have HL := hide (h.below (box_below w (.cells #[.int .u8 35, .int .u8 n, .int .i64 k, .int .i64 t, .int .i64 b, .slice pa pn pc, .pointer bo, .pointer ov] 148)))
  have hb0 := box_below w (.cells #[.int .u8 35, .int .u8 n, .int .i64 k, .int .i64 t, .int .i64 b, .slice pa pn pc, .pointer bo, .pointer ov] 148)
  have HB0 := hide hb0
  have HSm := hide h.small
  have HP := hide hp
  have HPb := hide hpb
  clear hp hpb
  clear h hb0
  go_enter Tryz.func164, Tryz.ntmps164
  go_wp2_with fail
  refine (takeAt_any (unhide HL) (owns_belowP (unhide HP) (unhide HB0)) hpl (unhide HPb)).mono ?_
  rintro e w1 ⟨hl, hb1⟩
  have HB := hide ((unhide HB0).trans (hb1.mono (unhide HB0).size))
  have HG := hide (hl.base (unhide HB0).size)
  clear hb1
  rcases hl with ⟨l', g', cap', _, _, rfl, _⟩ | ⟨c, _, _, rfl⟩
  · go_wp2_with fail
    exact bodyPost_ret (v := .tuple #[.slice (some ⟨g', 0, none⟩) l'.length cap', .int .i64 0]) (by simp [results, Tryz.results164, go_sem]) rfl ⟨unhide HG, unhide HB⟩
  · go_wp2_with fail
    exact bodyPost_ret (v := .tuple #[.slice none 0 0, .int .i64 c]) (by simp [results, Tryz.results164, go_sem]) rfl ⟨unhide HG, unhide HB⟩
end Go.Proofs.YtikiaijgcjjloaaGreatDoor

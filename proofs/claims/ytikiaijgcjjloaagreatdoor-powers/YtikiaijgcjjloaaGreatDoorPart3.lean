import Derived.Test.YtikiaijgcjjloaaGreatDoorPart2
import Derived.Test.YtikiaijgcjjloaaGreatDoorPart1

/- The walks: lowest terms, the program's and the document's. -/
namespace Go.Proofs.YtikiaijgcjjloaaGreatDoor
open Go Go.RowKit M Go.Lib

theorem gg_cast (p : Int) (b : Nat) : Nat.gcd p.natAbs b = gg p b := by unfold gg; simp
theorem tdiv_bd (p : Int) (g : Nat) : (p.tdiv g).natAbs ≤ p.natAbs := by rw [tdiv_natAbs]; exact Nat.div_le_self _ _

theorem below_dr {B : Nat} {a w : World} (h : Below B a w) (n : Nat) : Below B a (w.drewN n) := h.trans ⟨rfl, rfl, rfl, Nat.le_refl _, fun _ _ => rfl⟩
theorem bcell {W w1 : World} (hb : Below W.heap.size W w1) : (∀ b o, b < W.heap.size → w1.cell? ⟨b, o, none⟩ = W.cell? ⟨b, o, none⟩) ∧ (∀ b o, b < W.heap.size → w1.frozen? ⟨b, o, none⟩ = W.frozen? ⟨b, o, none⟩) :=
  ⟨fun b o h => hb.cell (p := ⟨b, o, none⟩) h, fun b o h => hb.frozen (p := ⟨b, o, none⟩) h⟩

theorem lowQ_div (p : Int) (b : Nat) : lowQ p b = (b : Int) / (gg p b : Int) := by unfold lowQ; rw [Int.tdiv_eq_ediv_of_nonneg (by omega)]
theorem lowP_div (m b : Nat) : lowP m b = (m : Int) / (gg m b : Int) := by unfold lowP; rw [Int.tdiv_eq_ediv_of_nonneg (by omega)]
theorem div_bd (b g : Nat) (h : b ≤ 4000000000000000000) : 0 ≤ (b : Int) / (g : Int) ∧ (b : Int) / (g : Int) ≤ 4000000000000000000 := by
  have h1 := Nat.div_le_self b g
  rw [← Int.natCast_ediv]
  generalize b / g = c at *
  omega
theorem fits_not (p : Int) (b : Nat) (hb : 1 ≤ b) (hf : fitsB p b = false) : 1000000000 < ((lowP p b).natAbs : Int) ∨ ((lowP p b).natAbs ≤ 1000000000 ∧ 1000000000 < lowQ p b) := by
  have h1 := lowP_abs p b
  have h2 := lowQ_eq p b (by omega)
  unfold fitsB at hf
  have hf' := of_decide_eq_false hf
  omega
theorem low_bd (p : Int) (b : Nat) (h1 : -4000000000000000000 ≤ p) (h2 : p ≤ 4000000000000000000) : -4000000000000000000 ≤ lowP p b ∧ lowP p b ≤ 4000000000000000000 := by
  have := lowP_le p b
  omega

set_option maxRecDepth 100000 in
set_option maxHeartbeats 400000 in
theorem lowest_any (p : Int) (b : Nat) (w : World) (h1 : -4000000000000000000 ≤ p) (h2 : p ≤ 4000000000000000000) (h3 : 1 ≤ b) (h4 : b ≤ 4000000000000000000) :
    Calls Tryz.prog 74 #[.int .i64 p, .int .i64 b] w fun e w' => ((fitsB p b = true ∧ e = .returned (.tuple #[.agg #[.int .i64 (lowP p b), .int .i64 (lowQ p b)], .int .i64 0])) ∨ (fitsB p b = false ∧ e = .returned (.tuple #[.agg #[.int .i64 0, .int .i64 0], .int .i64 3]))) ∧ Below w.heap.size w w' := by
  go_enter Tryz.func74, Tryz.ntmps74
  go_wp2_with fail
  refine (size_any p _ h1 h2).mono ?_
  rintro e w' ⟨rfl, rfl⟩
  go_wp2_with fail
  refine (commonDivisor_any p.natAbs b _ (by omega) (by omega)).mono ?_
  rintro e w' ⟨rfl, n, rfl⟩
  rw [gg_cast]
  have hg := gg_pos p b (by omega)
  have hg2 := gg_le p b (by omega)
  have HP := hide (show p.tdiv (gg p b) = lowP p b from rfl)
  have HQ := hide (lowQ_div p b)
  have hd := div_bd b (gg p b) h4
  have hl := low_bd p b h1 h2
  generalize gg p b = g at *
  go_wp2_with fail
  rw [unhide HP, ← unhide HQ]
  refine (size_any (lowP p b) _ hl.1 hl.2).mono ?_
  rintro e w' ⟨rfl, rfl⟩
  rw [← unhide HQ] at hd
  cases hf : fitsB p b with
  | true =>
    have hb := fits_bd p b (by omega) hf
    have HF := hide hf
    clear hf
    have hb1 : ¬ 1000000000 < ((lowP p b).natAbs : Int) := by omega
    have hb2 : ¬ 1000000000 < lowQ p b := by omega
    go_wp2_with fail
    exact bodyPost_ret (v := .tuple #[.agg #[.int .i64 (lowP p b), .int .i64 (lowQ p b)], .int .i64 0]) (by simp [results, Tryz.results74, go_sem]) rfl ⟨Or.inl ⟨unhide HF, rfl⟩, (by repeat (first | exact Below.refl _ _ | refine below_dr ?_ _ | refine Below.drew ?_ | refine Below.setCell ?_ (by simp) _ | refine Below.alloc ?_ (by simp) _))⟩
  | false =>
    have hb := fits_not p b h3 hf
    have HF := hide hf
    clear hf
    rcases hb with hb1 | ⟨hb0, hb2⟩
    · go_wp2_with fail
      exact bodyPost_ret (v := .tuple #[.agg #[.int .i64 0, .int .i64 0], .int .i64 3]) (by simp [results, Tryz.results74, go_sem]) rfl ⟨Or.inr ⟨unhide HF, rfl⟩, (by repeat (first | exact Below.refl _ _ | refine below_dr ?_ _ | refine Below.drew ?_ | refine Below.setCell ?_ (by simp) _ | refine Below.alloc ?_ (by simp) _))⟩
    · have hb1 : ¬ 1000000000 < ((lowP p b).natAbs : Int) := by omega
      go_wp2_with fail
      exact bodyPost_ret (v := .tuple #[.agg #[.int .i64 0, .int .i64 0], .int .i64 3]) (by simp [results, Tryz.results74, go_sem]) rfl ⟨Or.inr ⟨unhide HF, rfl⟩, (by repeat (first | exact Below.refl _ _ | refine below_dr ?_ _ | refine Below.drew ?_ | refine Below.setCell ?_ (by simp) _ | refine Below.alloc ?_ (by simp) _))⟩

set_option maxRecDepth 100000 in
set_option maxHeartbeats 400000 in
theorem Low_any (p : Int) (b : Nat) (w : World) (h1 : -4000000000000000000 ≤ p) (h2 : p ≤ 4000000000000000000) (h3 : 1 ≤ b) (h4 : b ≤ 4000000000000000000) :
    Calls Tryz.prog 133 #[.int .i64 p, .int .i64 b] w fun e w' => ((fitsB p b = true ∧ e = .returned (.tuple #[.agg #[.int .i64 (lowP p b), .int .i64 (lowQ p b)], .int .i64 0])) ∨ (fitsB p b = false ∧ e = .returned (.tuple #[.agg #[.int .i64 0, .int .i64 1], .int .i64 3]))) ∧ Below w.heap.size w w' := by
  by_cases h0 : p < 0
  · go_enter Tryz.func133, Tryz.ntmps133
    go_wp2_with fail
    rw [show -p = (p.natAbs : Int) from by omega]
    refine (common_any p.natAbs p.natAbs b _ (by omega) (by omega) (by omega)).mono ?_
    rintro e w' ⟨rfl, rfl⟩
    rw [gg_cast]
    have hg := gg_pos p b (by omega)
    have hg2 := gg_le p b (by omega)
    have HP := hide (show p.tdiv (gg p b) = lowP p b from rfl)
    have HA := hide (show ((p.natAbs : Int) / (gg p b : Int)) = ((lowP p b).natAbs : Int) from by rw [lowP_abs, Int.natCast_ediv])
    have HQ := hide (lowQ_div p b)
    have hd := div_bd b (gg p b) h4
    have hl := low_bd p b h1 h2
    generalize gg p b = g at *
    have ha : 0 ≤ ((p.natAbs : Int) / (g : Int)) ∧ ((p.natAbs : Int) / (g : Int)) ≤ 4000000000000000000 := by rw [unhide HA]; omega
    cases hf : fitsB p b with
    | true =>
      have hb := fits_bd p b (by omega) hf
      have HF := hide hf
      clear hf
      have hb1 : ¬ 1000000000 < ((p.natAbs : Int) / (g : Int)) := by rw [unhide HA]; omega
      have hb2 : ¬ 1000000000 < (b : Int) / (g : Int) := by rw [← unhide HQ]; omega
      go_wp2_with fail
      go_region
      rw [unhide HP, ← unhide HQ]
      go_wp2_with fail
      exact bodyPost_ret (v := .tuple #[.agg #[.int .i64 (lowP p b), .int .i64 (lowQ p b)], .int .i64 0]) (by simp [results, Tryz.results133, go_sem]) rfl ⟨Or.inl ⟨unhide HF, rfl⟩, (by repeat (first | exact Below.refl _ _ | refine below_dr ?_ _ | refine Below.drew ?_ | refine Below.setCell ?_ (by simp) _ | refine Below.alloc ?_ (by simp) _))⟩
    | false =>
      have hb := fits_not p b h3 hf
      have HF := hide hf
      clear hf
      rcases hb with hb1 | ⟨hb0, hb2⟩
      · rw [← unhide HA] at hb1
        go_wp2_with fail
        exact bodyPost_ret (v := .tuple #[.agg #[.int .i64 0, .int .i64 1], .int .i64 3]) (by simp [results, Tryz.results133, go_sem]) rfl ⟨Or.inr ⟨unhide HF, rfl⟩, (by repeat (first | exact Below.refl _ _ | refine below_dr ?_ _ | refine Below.drew ?_ | refine Below.setCell ?_ (by simp) _ | refine Below.alloc ?_ (by simp) _))⟩
      · have hb1 : ¬ 1000000000 < ((p.natAbs : Int) / (g : Int)) := by rw [unhide HA]; omega
        rw [unhide HQ] at hb2
        go_wp2_with fail
        exact bodyPost_ret (v := .tuple #[.agg #[.int .i64 0, .int .i64 1], .int .i64 3]) (by simp [results, Tryz.results133, go_sem]) rfl ⟨Or.inr ⟨unhide HF, rfl⟩, (by repeat (first | exact Below.refl _ _ | refine below_dr ?_ _ | refine Below.drew ?_ | refine Below.setCell ?_ (by simp) _ | refine Below.alloc ?_ (by simp) _))⟩
  · obtain ⟨m, rfl⟩ := Int.eq_ofNat_of_zero_le (show 0 ≤ p by omega)
    go_enter Tryz.func133, Tryz.ntmps133
    go_wp2_with fail
    refine (common_any m m b _ (by omega) (by omega) (by omega)).mono ?_
    rintro e w' ⟨rfl, rfl⟩
    rw [show Nat.gcd m b = gg m b from gg_cast m b]
    have hg := gg_pos m b (by omega)
    have hg2 := gg_le m b (by omega)
    have HP := hide (lowP_div m b)
    have HQ := hide (lowQ_div m b)
    have hd := div_bd b (gg m b) h4
    have ha := div_bd m (gg m b) (by omega)
    have hl := low_bd m b h1 h2
    generalize gg m b = g at *
    cases hf : fitsB m b with
    | true =>
      have hb := fits_bd m b (by omega) hf
      have HF := hide hf
      clear hf
      have hb1 : ¬ 1000000000 < ((m : Int) / (g : Int)) := by rw [← unhide HP]; omega
      have hb2 : ¬ 1000000000 < (b : Int) / (g : Int) := by rw [← unhide HQ]; omega
      go_wp2_with fail
      go_region
      rw [← unhide HP, ← unhide HQ]
      go_wp2_with fail
      exact bodyPost_ret (v := .tuple #[.agg #[.int .i64 (lowP m b), .int .i64 (lowQ m b)], .int .i64 0]) (by simp [results, Tryz.results133, go_sem]) rfl ⟨Or.inl ⟨unhide HF, rfl⟩, (by repeat (first | exact Below.refl _ _ | refine below_dr ?_ _ | refine Below.drew ?_ | refine Below.setCell ?_ (by simp) _ | refine Below.alloc ?_ (by simp) _))⟩
    | false =>
      have hb := fits_not m b h3 hf
      have HF := hide hf
      clear hf
      rcases hb with hb1 | ⟨hb0, hb2⟩
      · have hb1' : 1000000000 < ((m : Int) / (g : Int)) := by have := ha.1; rw [unhide HP] at hb1; omega
        clear hb1
        go_wp2_with fail
        exact bodyPost_ret (v := .tuple #[.agg #[.int .i64 0, .int .i64 1], .int .i64 3]) (by simp [results, Tryz.results133, go_sem]) rfl ⟨Or.inr ⟨unhide HF, rfl⟩, (by repeat (first | exact Below.refl _ _ | refine below_dr ?_ _ | refine Below.drew ?_ | refine Below.setCell ?_ (by simp) _ | refine Below.alloc ?_ (by simp) _))⟩
      · have hb1 : ¬ 1000000000 < ((m : Int) / (g : Int)) := by have := ha.1; rw [unhide HP] at hb0; omega
        rw [unhide HQ] at hb2
        clear hb0
        go_wp2_with fail
        exact bodyPost_ret (v := .tuple #[.agg #[.int .i64 0, .int .i64 1], .int .i64 3]) (by simp [results, Tryz.results133, go_sem]) rfl ⟨Or.inr ⟨unhide HF, rfl⟩, (by repeat (first | exact Below.refl _ _ | refine below_dr ?_ _ | refine Below.drew ?_ | refine Below.setCell ?_ (by simp) _ | refine Below.alloc ?_ (by simp) _))⟩
end Go.Proofs.YtikiaijgcjjloaaGreatDoor

/- Terms, what is known of them, and how they are run: the document's words as plain functions over exact fractions. No program in this text. -/
namespace Go.Proofs.YtikiaijgcjjloaaGreatDoor
namespace T

/-! ### Fractions within the limit -/
def small (r : Rat) : Bool := decide (r.num.natAbs ≤ 1000000000 ∧ r.den ≤ 1000000000)
def lim (r : Rat) : Except Int Rat := if small r then .ok r else .error 3
/-- The whole root of a whole number, if there is one. -/
def rootN (n : Nat) : Option Nat := (List.range (n + 1)).find? fun r => r * r == n
/-- The square root of a fraction, if there is one. -/
def root (r : Rat) : Option Rat :=
  if r.num < 0 then none else
  match rootN r.num.natAbs, rootN r.den with
  | some a, some b => some (mkRat a b)
  | _, _ => none

/-! ### Simple parts -/
inductive Sp where
  | n | v | a | q | w | u | r | s | z | p | m | o
  | plus (c : Rat) | times (c : Rat) | set (c : Rat)
  | shift (k : Int) | take (k : Nat) | drop (k : Nat) | pick (l : List Nat)

/-- Each item by itself, in order; the first error ends it. -/
def each (f : Rat → Except Int Rat) : List Rat → Except Int (List Rat)
  | [] => .ok []
  | x :: l => match f x with
    | .error e => .error e
    | .ok y => match each f l with
      | .error e => .error e
      | .ok ys => .ok (y :: ys)
/-- Each item out of the one that came out ahead of it. -/
def scan (f : Rat → Rat → Except Int Rat) (acc : Rat) : List Rat → Except Int (List Rat)
  | [] => .ok []
  | x :: l => match f acc x with
    | .error e => .error e
    | .ok y => match scan f y l with
      | .error e => .error e
      | .ok ys => .ok (y :: ys)
/-- Each item out of the old one ahead of it. -/
def diff (f : Rat → Rat → Except Int Rat) (prev : Rat) : List Rat → Except Int (List Rat)
  | [] => .ok []
  | x :: l => match f prev x with
    | .error e => .error e
    | .ok y => match diff f x l with
      | .error e => .error e
      | .ok ys => .ok (y :: ys)
def headed (g : Rat → List Rat → Except Int (List Rat)) : List Rat → Except Int (List Rat)
  | [] => .ok []
  | x :: l => match g x l with
    | .error e => .error e
    | .ok ys => .ok (x :: ys)

def addE (a x : Rat) : Except Int Rat := lim (a + x)
def mulE (a x : Rat) : Except Int Rat := lim (a * x)
def subE (a x : Rat) : Except Int Rat := lim (x - a)
def divE (a x : Rat) : Except Int Rat := if a = 0 then .error 2 else lim (x * a⁻¹)

/-- Is there a 0 beside the last item? -/
def zeroAhead : List Rat → Bool
  | [] => false
  | [_] => false
  | x :: l => x == 0 || zeroAhead l

def turn (k : Int) (l : List Rat) : List Rat := l.drop (k % l.length).toNat ++ l.take (k % l.length).toNat
def picked (ps : List Nat) (l : List Rat) : List Rat := ps.map fun i => l.getD i 0

def Sp.work : Sp → List Rat → Except Int (List Rat)
  | .n, l => .ok (l.map fun x => -x)
  | .v, l => each (fun x => if x = 0 then .error 2 else .ok x⁻¹) l
  | .a, l => .ok (l.map fun x => if x < 0 then -x else x)
  | .q, l => each (fun x => lim (x * x)) l
  | .w, l => each (fun x => match root x with | some y => .ok y | none => .error 2) l
  | .u, l => each (fun x => if x < 0 then .error 2 else lim (x * x)) l
  | .r, l => .ok l.reverse
  | .s, l => headed (scan addE) l
  | .z, l => headed (diff subE) l
  | .p, l => headed (scan mulE) l
  | .m, l => if zeroAhead l then .error 2 else headed (scan mulE) l
  | .o, l => headed (diff divE) l
  | .plus c, l => each (fun x => lim (x + c)) l
  | .times c, l => each (fun x => lim (x * c)) l
  | .set c, l => .ok (l.map fun _ => c)
  | .shift k, l => .ok (turn k l)
  | .take k, l => if k ≤ l.length then .ok (l.take k) else .error 11
  | .drop k, l => if k ≤ l.length then .ok (l.drop k) else .error 11
  | .pick ps, l => if ps.all (· < l.length) then .ok (picked ps l) else .error 11

/-- The opposite of a simple part, if it has one. -/
def Sp.opp : Sp → Option Sp
  | .n => some .n | .v => some .v | .a => none | .q => some .w | .w => some .u | .u => some .w | .r => some .r
  | .s => some .z | .z => some .s | .p => some .o | .m => some .o | .o => some .m
  | .plus c => some (.plus (-c)) | .times c => if c = 0 then none else some (.times c⁻¹) | .set _ => none
  | .shift k => some (.shift (-k)) | .take _ => none | .drop _ => none | .pick _ => none
def Sp.picker : Sp → Bool
  | .r => true | .shift _ => true | .take _ => true | .drop _ => true | .pick _ => true | _ => false
def Sp.plain : Sp → Bool
  | .q => false | .p => false | _ => true
def Sp.workBack (x : Sp) (l : List Rat) : Except Int (List Rat) := match x.opp with
  | some y => y.work l
  | none => .error 12

/-! ### Terms -/
mutual
inductive Pt where
  | sp (x : Sp)
  | pow (f : Tm) (k : Int)
  | under (s g : Tm)
  | name (c : UInt8) (b : Tm)
inductive Tm where
  | nil
  | cons (p : Pt) (t : Tm)
end

mutual
def Pt.plain : Pt → Bool
  | .sp x => x.plain
  | .pow f _ => f.plain
  | .under s g => s.plain && g.plain
  | .name _ b => b.plain
def Tm.plain : Tm → Bool
  | .nil => true
  | .cons p t => p.plain && t.plain
end
mutual
def Pt.picker : Pt → Bool
  | .sp x => x.picker
  | .pow f _ => f.picker
  | .under _ _ => false
  | .name _ b => b.picker
def Tm.picker : Tm → Bool
  | .nil => true
  | .cons p t => p.picker && t.picker
end
mutual
def Pt.back : Pt → Bool
  | .sp x => x.opp.isSome
  | .pow f k => k == 0 || (f.back && (decide (0 < k) || f.plain))
  | .under s g => g.back && (s.picker || (s.back && s.plain))
  | .name _ b => b.back
def Tm.back : Tm → Bool
  | .nil => true
  | .cons p t => p.back && t.back
end

/-! ### Running -/
/-- What a run comes to: a list and the steps that are left, or an error. -/
inductive Res where
  | ok (l : List Rat) (f : Nat)
  | err (e : Int)
def Res.then (r : Res) (g : List Rat → Nat → Res) : Res := match r with
  | .err e => .err e
  | .ok l f => g l f
def lift (r : Except Int (List Rat)) (f : Nat) : Res := match r with
  | .error e => .err e
  | .ok l => .ok l f
/-- k times, each time a step ahead. -/
def iter (g : List Rat → Nat → Res) : Nat → List Rat → Nat → Res
  | 0, l, f => .ok l f
  | _ + 1, _, 0 => .err 10
  | k + 1, l, f + 1 => Res.then (g l f) (iter g k)
/-- The list of all places. -/
def allPlaces (n : Nat) : List Rat := (List.range n).map fun i : Nat => ((i : Int) : Rat)
def places (l : List Rat) : List Nat := l.map fun x => x.num.toNat
/-- The items ys laid into the places ps of l. -/
def layAt (ps : List Nat) (ys : List Rat) (l : List Rat) : List Rat := (List.range l.length).map fun i => match (ps.zip ys).find? (fun e => e.1 == i) with
  | some e => e.2
  | none => l.getD i 0

mutual
def Pt.run (p : Pt) (b : Bool) (l : List Rat) (f : Nat) : Res :=
  match f with
  | 0 => .err 10
  | f + 1 => match p with
    | .sp x => lift (if b then x.workBack l else x.work l) f
    | .pow t k => if (if b then -k else k) < 0 ∧ t.back = false then .err 12 else iter (fun l f => t.run (decide ((if b then -k else k) < 0)) l f) k.natAbs l f
    | .under s g =>
      if s.picker then
        Res.then (s.run false (allPlaces l.length) f) fun at_ f1 =>
          Res.then (g.run b (picked (places at_) l) f1) fun ys f2 =>
            if ys.length = at_.length then .ok (layAt (places at_) ys l) f2 else .err 11
      else if s.back && s.plain then
        Res.then (s.run false l f) fun l1 f1 => Res.then (g.run b l1 f1) fun l2 f2 => s.run true l2 f2
      else .err 12
    | .name _ t => t.run b l f
def Tm.run (t : Tm) (b : Bool) (l : List Rat) (f : Nat) : Res :=
  match t with
  | .nil => .ok l f
  | .cons p t => if b then Res.then (t.run b l f) (fun l f => p.run b l f) else Res.then (p.run b l f) (fun l f => t.run b l f)
end
end T
end Go.Proofs.YtikiaijgcjjloaaGreatDoor

import Derived.Test.YtikiaijgcjjloaaGreatDoorPart1

/- Terms, what is known of them, and how they are run: the document's words as plain functions over exact fractions. No program in this text. -/
namespace Go.Proofs.YtikiaijgcjjloaaGreatDoor
namespace T

/-! ### Fractions within the limit -/
def small (r : Rat) : Bool := decide (r.num.natAbs ≤ 1000000000 ∧ r.den ≤ 1000000000)
def lim (r : Rat) : Except Int Rat := if small r then .ok r else .error 3
/-- The whole root of a whole number, if there is one. -/
def rootN (n : Nat) : Option Nat := (List.range (n + 1)).find? fun r => r * r == n
/-- The square root of a fraction, if there is one. -/
def root (r : Rat) : Option Rat :=
  if r.num < 0 then none else
  match rootN r.num.natAbs, rootN r.den with
  | some a, some b => some (mkRat a b)
  | _, _ => none

/-! ### Simple parts -/
inductive Sp where
  | n | v | a | q | w | u | r | s | z | p | m | o
  | plus (c : Rat) | times (c : Rat) | set (c : Rat)
  | shift (k : Int) | take (k : Nat) | drop (k : Nat) | pick (l : List Nat)

/-- Each item by itself, in order; the first error ends it. -/
def each (f : Rat → Except Int Rat) : List Rat → Except Int (List Rat)
  | [] => .ok []
  | x :: l => match f x with
    | .error e => .error e
    | .ok y => match each f l with
      | .error e => .error e
      | .ok ys => .ok (y :: ys)
/-- Each item out of the one that came out ahead of it. -/
def scan (f : Rat → Rat → Except Int Rat) (acc : Rat) : List Rat → Except Int (List Rat)
  | [] => .ok []
  | x :: l => match f acc x with
    | .error e => .error e
    | .ok y => match scan f y l with
      | .error e => .error e
      | .ok ys => .ok (y :: ys)
/-- Each item out of the old one ahead of it. -/
def diff (f : Rat → Rat → Except Int Rat) (prev : Rat) : List Rat → Except Int (List Rat)
  | [] => .ok []
  | x :: l => match f prev x with
    | .error e => .error e
    | .ok y => match diff f x l with
      | .error e => .error e
      | .ok ys => .ok (y :: ys)
def headed (g : Rat → List Rat → Except Int (List Rat)) : List Rat → Except Int (List Rat)
  | [] => .ok []
  | x :: l => match g x l with
    | .error e => .error e
    | .ok ys => .ok (x :: ys)

def addE (a x : Rat) : Except Int Rat := lim (a + x)
def mulE (a x : Rat) : Except Int Rat := lim (a * x)
def subE (a x : Rat) : Except Int Rat := lim (x - a)
def divE (a x : Rat) : Except Int Rat := if a = 0 then .error 2 else lim (x * a⁻¹)

/-- Is there a 0 beside the last item? -/
def zeroAhead : List Rat → Bool
  | [] => false
  | [_] => false
  | x :: l => x == 0 || zeroAhead l

def turn (k : Int) (l : List Rat) : List Rat := l.drop (k % l.length).toNat ++ l.take (k % l.length).toNat
def picked (ps : List Nat) (l : List Rat) : List Rat := ps.map fun i => l.getD i 0

def Sp.work : Sp → List Rat → Except Int (List Rat)
  | .n, l => .ok (l.map fun x => -x)
  | .v, l => each (fun x => if x = 0 then .error 2 else .ok x⁻¹) l
  | .a, l => .ok (l.map fun x => if x < 0 then -x else x)
  | .q, l => each (fun x => lim (x * x)) l
  | .w, l => each (fun x => match root x with | some y => .ok y | none => .error 2) l
  | .u, l => each (fun x => if x < 0 then .error 2 else lim (x * x)) l
  | .r, l => .ok l.reverse
  | .s, l => headed (scan addE) l
  | .z, l => headed (diff subE) l
  | .p, l => headed (scan mulE) l
  | .m, l => if zeroAhead l then .error 2 else headed (scan mulE) l
  | .o, l => headed (diff divE) l
  | .plus c, l => each (fun x => lim (x + c)) l
  | .times c, l => each (fun x => lim (x * c)) l
  | .set c, l => .ok (l.map fun _ => c)
  | .shift k, l => .ok (turn k l)
  | .take k, l => if k ≤ l.length then .ok (l.take k) else .error 11
  | .drop k, l => if k ≤ l.length then .ok (l.drop k) else .error 11
  | .pick ps, l => if ps.all (· < l.length) then .ok (picked ps l) else .error 11

/-- The opposite of a simple part, if it has one. -/
def Sp.opp : Sp → Option Sp
  | .n => some .n | .v => some .v | .a => none | .q => some .w | .w => some .u | .u => some .w | .r => some .r
  | .s => some .z | .z => some .s | .p => some .o | .m => some .o | .o => some .m
  | .plus c => some (.plus (-c)) | .times c => if c = 0 then none else some (.times c⁻¹) | .set _ => none
  | .shift k => some (.shift (-k)) | .take _ => none | .drop _ => none | .pick _ => none
def Sp.picker : Sp → Bool
  | .r => true | .shift _ => true | .take _ => true | .drop _ => true | .pick _ => true | _ => false
def Sp.plain : Sp → Bool
  | .q => false | .p => false | _ => true
def Sp.workBack (x : Sp) (l : List Rat) : Except Int (List Rat) := match x.opp with
  | some y => y.work l
  | none => .error 12

/-! ### Terms -/
mutual
inductive Pt where
  | sp (x : Sp)
  | pow (f : Tm) (k : Int)
  | under (s g : Tm)
  | name (c : UInt8) (b : Tm)
inductive Tm where
  | nil
  | cons (p : Pt) (t : Tm)
end

mutual
def Pt.plain : Pt → Bool
  | .sp x => x.plain
  | .pow f _ => f.plain
  | .under s g => s.plain && g.plain
  | .name _ b => b.plain
def Tm.plain : Tm → Bool
  | .nil => true
  | .cons p t => p.plain && t.plain
end
mutual
def Pt.picker : Pt → Bool
  | .sp x => x.picker
  | .pow f _ => f.picker
  | .under _ _ => false
  | .name _ b => b.picker
def Tm.picker : Tm → Bool
  | .nil => true
  | .cons p t => p.picker && t.picker
end
mutual
def Pt.back : Pt → Bool
  | .sp x => x.opp.isSome
  | .pow f k => k == 0 || (f.back && (decide (0 < k) || f.plain))
  | .under s g => g.back && (s.picker || (s.back && s.plain))
  | .name _ b => b.back
def Tm.back : Tm → Bool
  | .nil => true
  | .cons p t => p.back && t.back
end

/-! ### Running -/
/-- What a run comes to: a list and the steps that are left, or an error. -/
inductive Res where
  | ok (l : List Rat) (f : Nat)
  | err (e : Int)
def Res.then (r : Res) (g : List Rat → Nat → Res) : Res := match r with
  | .err e => .err e
  | .ok l f => g l f
def lift (r : Except Int (List Rat)) (f : Nat) : Res := match r with
  | .error e => .err e
  | .ok l => .ok l f
/-- k times, each time a step ahead. -/
def iter (g : List Rat → Nat → Res) : Nat → List Rat → Nat → Res
  | 0, l, f => .ok l f
  | _ + 1, _, 0 => .err 10
  | k + 1, l, f + 1 => Res.then (g l f) (iter g k)
/-- The list of all places. -/
def allPlaces (n : Nat) : List Rat := (List.range n).map fun i : Nat => ((i : Int) : Rat)
def places (l : List Rat) : List Nat := l.map fun x => x.num.toNat
/-- The items ys laid into the places ps of l. -/
def layAt (ps : List Nat) (ys : List Rat) (l : List Rat) : List Rat := (List.range l.length).map fun i => match (ps.zip ys).find? (fun e => e.1 == i) with
  | some e => e.2
  | none => l.getD i 0

mutual
def Pt.run (p : Pt) (b : Bool) (l : List Rat) (f : Nat) : Res :=
  match f with
  | 0 => .err 10
  | f + 1 => match p with
    | .sp x => lift (if b then x.workBack l else x.work l) f
    | .pow t k => if (if b then -k else k) < 0 ∧ t.back = false then .err 12 else iter (fun l f => t.run (decide ((if b then -k else k) < 0)) l f) k.natAbs l f
    | .under s g =>
      if s.picker then
        Res.then (s.run false (allPlaces l.length) f) fun at_ f1 =>
          Res.then (g.run b (picked (places at_) l) f1) fun ys f2 =>
            if ys.length = at_.length then .ok (layAt (places at_) ys l) f2 else .err 11
      else if s.back && s.plain then
        Res.then (s.run false l f) fun l1 f1 => Res.then (g.run b l1 f1) fun l2 f2 => s.run true l2 f2
      else .err 12
    | .name _ t => t.run b l f
def Tm.run (t : Tm) (b : Bool) (l : List Rat) (f : Nat) : Res :=
  match t with
  | .nil => .ok l f
  | .cons p t => if b then Res.then (t.run b l f) (fun l f => p.run b l f) else Res.then (p.run b l f) (fun l f => t.run b l f)
end
end T
end Go.Proofs.YtikiaijgcjjloaaGreatDoor

/- How many steps a run takes: what it takes it needs. No program in this text. -/
namespace Go.Proofs.YtikiaijgcjjloaaGreatDoor
namespace T

/-- From l the run g comes to l' in n steps: with so many or more it goes, with fewer it is ErrFuel. -/
def Steps (g : List Rat → Nat → Res) (l l' : List Rat) (n : Nat) : Prop := ∀ F, g l F = if n ≤ F then .ok l' (F - n) else .err 10
/-- Whatever goes well takes a number of steps of its own. -/
def Paced (g : List Rat → Nat → Res) : Prop := ∀ l f l' f', g l f = .ok l' f' → ∃ n, f = f' + n ∧ Steps g l l' n

theorem Steps.ok {g : List Rat → Nat → Res} {l l' : List Rat} {n : Nat} (h : Steps g l l' n) (f : Nat) : g l (f + n) = .ok l' f := by
  rw [h (f + n), if_pos (by omega)]
  congr 1
  omega
theorem then_ok {r : Res} {g : List Rat → Nat → Res} {l' : List Rat} {f' : Nat} (h : Res.then r g = .ok l' f') : ∃ l f, r = .ok l f ∧ g l f = .ok l' f' := by
  cases r with
  | err e => cases h
  | ok l f => exact ⟨l, f, rfl, h⟩
theorem then_of_ok {g : List Rat → Nat → Res} {l : List Rat} {f : Nat} : Res.then (.ok l f) g = g l f := rfl
theorem then_of_err {g : List Rat → Nat → Res} {e : Int} : Res.then (.err e) g = .err e := rfl

theorem Steps.then {g h : List Rat → Nat → Res} {l l1 l2 : List Rat} {n m : Nat} (hg : Steps g l l1 n) (hh : Steps h l1 l2 m) : Steps (fun l f => Res.then (g l f) h) l l2 (n + m) := by
  intro F
  show Res.then (g l F) h = _
  rw [hg F]
  by_cases h1 : n ≤ F
  · rw [if_pos h1, then_of_ok, hh (F - n)]
    by_cases h2 : m ≤ F - n
    · rw [if_pos h2, if_pos (by omega)]
      congr 1
      omega
    · rw [if_neg h2, if_neg (by omega)]
  · rw [if_neg h1, if_neg (by omega)]
    rfl
theorem Paced.then {g h : List Rat → Nat → Res} (hg : Paced g) (hh : Paced h) : Paced (fun l f => Res.then (g l f) h) := by
  intro l f l' f' e
  obtain ⟨l1, f1, e1, e2⟩ := then_ok e
  obtain ⟨n, hn, sn⟩ := hg l f l1 f1 e1
  obtain ⟨m, hm, sm⟩ := hh l1 f1 l' f' e2
  exact ⟨n + m, by omega, sn.then sm⟩
theorem paced_const (g : List Rat → Except Int (List Rat)) : Paced (fun l f => lift (g l) f) := by
  intro l f l' f' e
  change lift (g l) f = _ at e
  cases hg : g l with
  | error e' => rw [hg] at e; cases e
  | ok x =>
    rw [hg] at e
    cases e
    refine ⟨0, rfl, fun F => ?_⟩
    show lift (g l) F = _
    rw [hg, if_pos (by omega)]
    rfl
/-- A step ahead. -/
def stepped (g : List Rat → Nat → Res) (l : List Rat) (f : Nat) : Res := match f with
  | 0 => .err 10
  | f + 1 => g l f
theorem Steps.stepped {g : List Rat → Nat → Res} {l l' : List Rat} {n : Nat} (h : Steps g l l' n) : Steps (stepped g) l l' (n + 1) := by
  intro F
  cases F with
  | zero => rfl
  | succ F =>
    show g l F = _
    rw [h F]
    by_cases h1 : n ≤ F
    · rw [if_pos h1, if_pos (by omega)]
      congr 1
      omega
    · rw [if_neg h1, if_neg (by omega)]
theorem Paced.stepped {g : List Rat → Nat → Res} (hg : Paced g) : Paced (stepped g) := by
  intro l f l' f' e
  cases f with
  | zero => cases e
  | succ f =>
    obtain ⟨n, hn, sn⟩ := hg l f l' f' e
    exact ⟨n + 1, by omega, sn.stepped⟩
theorem iter_zero (g : List Rat → Nat → Res) (l : List Rat) (f : Nat) : iter g 0 l f = .ok l f := by cases f <;> rfl
theorem iter_succ (g : List Rat → Nat → Res) (k : Nat) (l : List Rat) (f : Nat) : iter g (k + 1) l f = stepped (fun l f => Res.then (g l f) (iter g k)) l f := by cases f <;> rfl
theorem Paced.iter {g : List Rat → Nat → Res} (hg : Paced g) : ∀ k, Paced (iter g k)
  | 0 => by
    intro l f l' f' e
    rw [iter_zero] at e
    cases e
    exact ⟨0, rfl, fun F => by rw [iter_zero, if_pos (by omega)]; rfl⟩
  | k + 1 => by
    have h := (hg.then (Paced.iter hg k)).stepped
    intro l f l' f' e
    rw [iter_succ] at e
    obtain ⟨n, hn, sn⟩ := h l f l' f' e
    exact ⟨n, hn, fun F => by rw [iter_succ]; exact sn F⟩

theorem Pt.run_eq (p : Pt) (b : Bool) (l : List Rat) (f : Nat) : p.run b l f = stepped (fun l f => match p with
    | .sp x => lift (if b then x.workBack l else x.work l) f
    | .pow t k => if (if b then -k else k) < 0 ∧ t.back = false then .err 12 else iter (fun l f => t.run (decide ((if b then -k else k) < 0)) l f) k.natAbs l f
    | .under s g =>
      if s.picker then
        Res.then (s.run false (allPlaces l.length) f) fun at_ f1 =>
          Res.then (g.run b (picked (places at_) l) f1) fun ys f2 =>
            if ys.length = at_.length then .ok (layAt (places at_) ys l) f2 else .err 11
      else if s.back && s.plain then
        Res.then (s.run false l f) fun l1 f1 => Res.then (g.run b l1 f1) fun l2 f2 => s.run true l2 f2
      else .err 12
    | .name _ t => t.run b l f) l f := by
  cases f with
  | zero => cases p <;> rw [Pt.run] <;> rfl
  | succ f => cases p <;> rw [Pt.run] <;> rfl
theorem Tm.run_nil (b : Bool) (l : List Rat) (f : Nat) : Tm.nil.run b l f = .ok l f := by rw [Tm.run]
theorem Tm.run_fwd (p : Pt) (t : Tm) (l : List Rat) (f : Nat) : (Tm.cons p t).run false l f = Res.then (p.run false l f) (fun l f => t.run false l f) := by rw [Tm.run]; rfl
theorem Tm.run_bwd (p : Pt) (t : Tm) (l : List Rat) (f : Nat) : (Tm.cons p t).run true l f = Res.then (t.run true l f) (fun l f => p.run true l f) := by rw [Tm.run]; rfl

/-- Under a picker: from the list itself. -/
theorem under_paced {s g : List Rat → Nat → Res} (hs : Paced s) (hg : Paced g) : Paced (fun l f => Res.then (s (allPlaces l.length) f) fun at_ f1 =>
          Res.then (g (picked (places at_) l) f1) fun ys f2 =>
            if ys.length = at_.length then .ok (layAt (places at_) ys l) f2 else .err 11) := by
  intro l f l' f' e
  obtain ⟨at_, f1, e1, e2⟩ := then_ok e
  obtain ⟨ys, f2, e3, e4⟩ := then_ok e2
  obtain ⟨n, hn, sn⟩ := hs _ _ _ _ e1
  obtain ⟨m, hm, sm⟩ := hg _ _ _ _ e3
  split at e4
  · rename_i hl
    cases e4
    refine ⟨n + m, by omega, fun F => ?_⟩
    show Res.then (s (allPlaces l.length) F) _ = _
    rw [sn F]
    by_cases h1 : n ≤ F
    · rw [if_pos h1, then_of_ok, sm (F - n)]
      by_cases h2 : m ≤ F - n
      · rw [if_pos h2, then_of_ok, if_pos hl, if_pos (by omega)]
        congr 1
        omega
      · rw [if_neg h2, if_neg (by omega)]; rfl
    · rw [if_neg h1, if_neg (by omega)]; rfl
  · cases e4

mutual
theorem Pt.paced : ∀ (p : Pt) (b : Bool), Paced (p.run b)
  | .sp x, b => by
    intro l f l' f' e
    rw [Pt.run_eq] at e
    obtain ⟨n, hn, sn⟩ := (paced_const (fun l => if b then x.workBack l else x.work l)).stepped l f l' f' e
    exact ⟨n, hn, fun F => by rw [Pt.run_eq]; exact sn F⟩
  | .pow t k, b => by
    intro l f l' f' e
    rw [Pt.run_eq] at e
    have ih := (Tm.paced t (decide ((if b then -k else k) < 0))).iter k.natAbs
    have h : Paced (fun l f => if (if b then -k else k) < 0 ∧ t.back = false then (.err 12 : Res) else T.iter (fun l f => t.run (decide ((if b then -k else k) < 0)) l f) k.natAbs l f) := by
      by_cases hc : (if b then -k else k) < 0 ∧ t.back = false
      · intro l f l' f' e; simp only [if_pos hc] at e; cases e
      · intro l f l' f' e
        simp only [if_neg hc] at e
        obtain ⟨n, hn, sn⟩ := ih l f l' f' e
        exact ⟨n, hn, fun F => by simp only [if_neg hc]; exact sn F⟩
    obtain ⟨n, hn, sn⟩ := h.stepped l f l' f' e
    exact ⟨n, hn, fun F => by rw [Pt.run_eq]; exact sn F⟩
  | .under s g, b => by
    intro l f l' f' e
    rw [Pt.run_eq] at e
    have hs0 := Tm.paced s false
    have hs1 := Tm.paced s true
    have hg := Tm.paced g b
    have h : Paced (fun l f => if s.picker then
        Res.then (s.run false (allPlaces l.length) f) fun at_ f1 =>
          Res.then (g.run b (picked (places at_) l) f1) fun ys f2 =>
            if ys.length = at_.length then .ok (layAt (places at_) ys l) f2 else .err 11
      else if s.back && s.plain then
        Res.then (s.run false l f) fun l1 f1 => Res.then (g.run b l1 f1) fun l2 f2 => s.run true l2 f2
      else .err 12) := by
      by_cases h1 : s.picker = true
      · simp only [h1, if_true]
        exact under_paced hs0 hg
      · simp only [h1]
        by_cases h2 : (s.back && s.plain) = true
        · simp only [h2, if_true]
          exact hs0.then (hg.then hs1)
        · simp only [h2]
          intro l f l' f' e
          cases e
    obtain ⟨n, hn, sn⟩ := h.stepped l f l' f' e
    exact ⟨n, hn, fun F => by rw [Pt.run_eq]; exact sn F⟩
  | .name c t, b => by
    intro l f l' f' e
    rw [Pt.run_eq] at e
    obtain ⟨n, hn, sn⟩ := (Tm.paced t b).stepped l f l' f' e
    exact ⟨n, hn, fun F => by rw [Pt.run_eq]; exact sn F⟩
theorem Tm.paced : ∀ (t : Tm) (b : Bool), Paced (t.run b)
  | .nil, b => by
    intro l f l' f' e
    rw [Tm.run_nil] at e
    cases e
    exact ⟨0, rfl, fun F => by rw [Tm.run_nil, if_pos (by omega)]; rfl⟩
  | .cons p t, false => by
    intro l f l' f' e
    rw [Tm.run_fwd] at e
    obtain ⟨n, hn, sn⟩ := ((Pt.paced p false).then (Tm.paced t false)) l f l' f' e
    exact ⟨n, hn, fun F => by rw [Tm.run_fwd]; exact sn F⟩
  | .cons p t, true => by
    intro l f l' f' e
    rw [Tm.run_bwd] at e
    obtain ⟨n, hn, sn⟩ := ((Tm.paced t true).then (Pt.paced p true)) l f l' f' e
    exact ⟨n, hn, fun F => by rw [Tm.run_bwd]; exact sn F⟩
end
end T
end Go.Proofs.YtikiaijgcjjloaaGreatDoor

/- The simple parts and their opposites: what the opposite makes of a list, the part makes that list of again. No program in this text. -/
namespace Go.Proofs.YtikiaijgcjjloaaGreatDoor
namespace T

theorem lim_ok {r y : Rat} (h : lim r = .ok y) : y = r ∧ small y = true := by
  unfold lim at h
  split at h
  · cases h; exact ⟨rfl, ‹_›⟩
  · cases h
theorem lim_of {r : Rat} (h : small r = true) : lim r = .ok r := by unfold lim; rw [if_pos h]

def AllS (l : List Rat) : Prop := ∀ x ∈ l, small x = true
theorem allS_nil : AllS [] := fun _ h => by cases h
theorem allS_cons {x : Rat} {l : List Rat} : AllS (x :: l) ↔ small x = true ∧ AllS l := by
  unfold AllS; simp

theorem each_undo {f g : Rat → Except Int Rat} (h : ∀ x y, small x = true → g x = .ok y → f y = .ok x ∧ small y = true) : ∀ {l l' : List Rat}, AllS l → each g l = .ok l' → each f l' = .ok l ∧ AllS l'
  | [], l', _, e => by cases e; exact ⟨rfl, allS_nil⟩
  | x :: l, l', ha, e => by
    obtain ⟨hx, hl⟩ := allS_cons.1 ha
    rw [each] at e
    cases hg : g x with
    | error e' => rw [hg] at e; cases e
    | ok y =>
      rw [hg] at e
      cases hr : each g l with
      | error e' => rw [hr] at e; cases e
      | ok ys =>
        rw [hr] at e
        cases e
        obtain ⟨h1, h2⟩ := h x y hx hg
        obtain ⟨h3, h4⟩ := each_undo h hl hr
        refine ⟨?_, allS_cons.2 ⟨h2, h4⟩⟩
        rw [each, h1, h3]
theorem scan_diff {f g : Rat → Rat → Except Int Rat} (h : ∀ a x y, small x = true → f a x = .ok y → g a y = .ok x ∧ small y = true) : ∀ {l l' : List Rat} {a : Rat}, AllS l → diff f a l = .ok l' → scan g a l' = .ok l ∧ AllS l'
  | [], l', a, _, e => by cases e; exact ⟨rfl, allS_nil⟩
  | x :: l, l', a, ha, e => by
    obtain ⟨hx, hl⟩ := allS_cons.1 ha
    rw [diff] at e
    cases hg : f a x with
    | error e' => rw [hg] at e; cases e
    | ok y =>
      rw [hg] at e
      cases hr : diff f x l with
      | error e' => rw [hr] at e; cases e
      | ok ys =>
        rw [hr] at e
        cases e
        obtain ⟨h1, h2⟩ := h a x y hx hg
        obtain ⟨h3, h4⟩ := scan_diff h hl hr
        refine ⟨?_, allS_cons.2 ⟨h2, h4⟩⟩
        rw [scan, h1]
        simp only [h3]
theorem diff_scan {f g : Rat → Rat → Except Int Rat} (h : ∀ a x y, small x = true → f a x = .ok y → g a y = .ok x ∧ small y = true) : ∀ {l l' : List Rat} {a : Rat}, AllS l → scan f a l = .ok l' → diff g a l' = .ok l ∧ AllS l'
  | [], l', a, _, e => by cases e; exact ⟨rfl, allS_nil⟩
  | x :: l, l', a, ha, e => by
    obtain ⟨hx, hl⟩ := allS_cons.1 ha
    rw [scan] at e
    cases hg : f a x with
    | error e' => rw [hg] at e; cases e
    | ok y =>
      rw [hg] at e
      cases hr : scan f y l with
      | error e' => simp only [hr] at e; cases e
      | ok ys =>
        simp only [hr] at e
        cases e
        obtain ⟨h1, h2⟩ := h a x y hx hg
        obtain ⟨h3, h4⟩ := diff_scan h hl hr
        refine ⟨?_, allS_cons.2 ⟨h2, h4⟩⟩
        rw [diff, h1]
        simp only [h3]
theorem headed_undo {f g : Rat → List Rat → Except Int (List Rat)} (h : ∀ x l l', AllS l → g x l = .ok l' → f x l' = .ok l ∧ AllS l') : ∀ {l l' : List Rat}, AllS l → headed g l = .ok l' → headed f l' = .ok l ∧ AllS l'
  | [], l', _, e => by cases e; exact ⟨rfl, allS_nil⟩
  | x :: l, l', ha, e => by
    obtain ⟨hx, hl⟩ := allS_cons.1 ha
    rw [headed] at e
    cases hg : g x l with
    | error e' => rw [hg] at e; cases e
    | ok ys =>
      rw [hg] at e
      cases e
      obtain ⟨h1, h2⟩ := h x l ys hl hg
      refine ⟨?_, allS_cons.2 ⟨hx, h2⟩⟩
      rw [headed, h1]

/-! ### Roots -/
theorem rootN_some {n r : Nat} (h : rootN n = some r) : r * r = n := by
  unfold rootN at h
  simpa using List.find?_some h
theorem rootN_sq (r : Nat) : rootN (r * r) = some r := by
  unfold rootN
  cases h : (List.range (r * r + 1)).find? (fun x => x * x == r * r) with
  | none =>
    exfalso
    have h2 := List.find?_eq_none.1 h r (by rw [List.mem_range]; have := Nat.le_mul_self r; omega)
    simp at h2
  | some x =>
    have h2 := List.find?_some h
    have h3 : x * x = r * r := by simpa using h2
    rw [M.root_unique x r h3]
theorem mkRat_mul_self (a b : Nat) : mkRat (a : Int) b * mkRat (a : Int) b = mkRat ((a * a : Nat) : Int) (b * b) := by
  rw [Rat.mkRat_mul_mkRat]
  simp
theorem root_some {r y : Rat} (h : root r = some y) : 0 ≤ y ∧ y * y = r := by
  unfold root at h
  split at h
  · cases h
  · rename_i hn
    split at h
    · rename_i a b ha hb
      cases h
      have h1 := rootN_some ha
      have h2 := rootN_some hb
      refine ⟨?_, ?_⟩
      · rw [← Rat.divInt_ofNat]
        exact Rat.divInt_nonneg (by omega) (by omega)
      · rw [mkRat_mul_self a b, h1, h2]
        have e : ((r.num.natAbs : Nat) : Int) = r.num := by omega
        rw [e]
        exact Rat.mkRat_self r
    · cases h
theorem sq_parts (y : Rat) : (y * y).num = y.num * y.num ∧ (y * y).den = y.den * y.den := by
  have hc : (y.num * y.num).natAbs.Coprime (y.den * y.den) := by
    rw [Int.natAbs_mul]
    exact Nat.Coprime.mul_left (y.reduced.mul_right y.reduced) (y.reduced.mul_right y.reduced)
  have hz : y.den * y.den ≠ 0 := Nat.mul_ne_zero y.den_nz y.den_nz
  have e : y * y = ⟨y.num * y.num, y.den * y.den, hz, hc⟩ := by
    rw [← Rat.mkRat_self (⟨y.num * y.num, y.den * y.den, hz, hc⟩ : Rat)]
    conv => lhs; rw [← Rat.mkRat_self y]
    rw [Rat.mkRat_mul_mkRat]
  rw [e]
  exact ⟨rfl, rfl⟩
theorem root_sq {y : Rat} (h : 0 ≤ y) : root (y * y) = some y := by
  obtain ⟨h1, h2⟩ := sq_parts y
  have hn : 0 ≤ y.num := Rat.num_nonneg.2 h
  unfold root
  have hnn : ¬ (y * y).num < 0 := by
    rw [h1]; have := Int.mul_nonneg hn hn; omega
  rw [if_neg hnn, h1, h2, Int.natAbs_mul, rootN_sq, rootN_sq]
  show some (mkRat ((y.num.natAbs : Nat) : Int) y.den) = some y
  rw [show ((y.num.natAbs : Nat) : Int) = y.num by omega, Rat.mkRat_self]
theorem root_small {r y : Rat} (h : root r = some y) (hr : small r = true) : small y = true := by
  obtain ⟨h0, h1⟩ := root_some h
  obtain ⟨h2, h3⟩ := sq_parts y
  rw [h1] at h2 h3
  unfold small at *
  have hr' := of_decide_eq_true hr
  apply decide_eq_true
  rw [h2, h3, Int.natAbs_mul] at hr'
  have k1 := Nat.le_mul_self y.num.natAbs
  have k2 := Nat.le_mul_self y.den
  omega
theorem small_neg {x : Rat} (h : small x = true) : small (-x) = true := by
  unfold small at *
  have := of_decide_eq_true h
  apply decide_eq_true
  rw [Rat.neg_num, Rat.neg_den]
  omega
theorem num_ne {x : Rat} (h : x ≠ 0) : x.num ≠ 0 := fun e => h (by
  have := Rat.mkRat_self x
  rw [e] at this
  rw [← this]
  simp)
theorem small_inv {x : Rat} (h0 : x ≠ 0) (h : small x = true) : small x⁻¹ = true := by
  unfold small at *
  have := of_decide_eq_true h
  have hn := num_ne h0
  apply decide_eq_true
  rw [Rat.num_inv, Rat.den_inv, if_neg hn, Int.natAbs_mul, Int.natAbs_sign_of_ne_zero hn]
  simp
  omega

/-! ### The opposites of the simple parts -/
theorem mapS {f : Rat → Rat} (h : ∀ x, small x = true → small (f x) = true) {l : List Rat} (ha : AllS l) : AllS (l.map f) := by
  intro y hy
  obtain ⟨x, hx, rfl⟩ := List.mem_map.1 hy
  exact h x (ha x hx)
theorem zeroAhead_cons (x y : Rat) (l : List Rat) : zeroAhead (x :: y :: l) = (x == 0 || zeroAhead (y :: l)) := rfl
/-- Ratios of running products. -/
theorem diff_prod : ∀ {l l' : List Rat} {a : Rat}, AllS l → (l ≠ [] → a ≠ 0) → zeroAhead l = false → scan mulE a l = .ok l' → diff divE a l' = .ok l ∧ AllS l'
  | [], l', a, _, _, _, e => by cases e; exact ⟨rfl, allS_nil⟩
  | x :: l, l', a, ha, h0, hz, e => by
    obtain ⟨hx, hl⟩ := allS_cons.1 ha
    have ha0 : a ≠ 0 := h0 (by simp)
    rw [scan] at e
    cases hg : mulE a x with
    | error e' => rw [hg] at e; cases e
    | ok y =>
      rw [hg] at e
      obtain ⟨rfl, hy⟩ := lim_ok (show lim (a * x) = .ok y from hg)
      cases hr : scan mulE (a * x) l with
      | error e' => simp only [hr] at e; cases e
      | ok ys =>
        simp only [hr] at e
        cases e
        have hz2 : zeroAhead l = false ∧ (l ≠ [] → x ≠ 0) := by
          cases l with
          | nil => exact ⟨rfl, fun h => absurd rfl h⟩
          | cons y l =>
            rw [zeroAhead_cons, Bool.or_eq_false_iff] at hz
            refine ⟨hz.2, fun _ => ?_⟩
            have := hz.1
            simpa using this
        obtain ⟨h3, h4⟩ := diff_prod hl (fun h => by
          have := hz2.2 h
          intro e
          rcases Rat.mul_eq_zero.1 e with e | e
          · exact ha0 e
          · exact this e) hz2.1 hr
        refine ⟨?_, allS_cons.2 ⟨hy, h4⟩⟩
        have e2 : divE a (a * x) = .ok x := by
          unfold divE
          rw [if_neg ha0, show a * x * a⁻¹ = x from by grind]
          exact lim_of hx
        rw [diff, e2]
        simp only [h3]
/-- Running products of ratios; none beside the last is 0. -/
theorem prod_diff : ∀ {l l' : List Rat} {a : Rat}, AllS l → diff divE a l = .ok l' → scan mulE a l' = .ok l ∧ AllS l' ∧ (a ≠ 0 → zeroAhead l' = false) ∧ (l ≠ [] → a ≠ 0)
  | [], l', a, _, e => by cases e; exact ⟨rfl, allS_nil, fun _ => rfl, fun h => absurd rfl h⟩
  | x :: l, l', a, ha, e => by
    obtain ⟨hx, hl⟩ := allS_cons.1 ha
    rw [diff] at e
    cases hg : divE a x with
    | error e' => rw [hg] at e; cases e
    | ok y =>
      rw [hg] at e
      unfold divE at hg
      split at hg
      · cases hg
      · rename_i ha0
        obtain ⟨rfl, hy⟩ := lim_ok hg
        cases hr : diff divE x l with
        | error e' => simp only [hr] at e; cases e
        | ok ys =>
          simp only [hr] at e
          cases e
          obtain ⟨h3, h4, h5, h6⟩ := prod_diff hl hr
          refine ⟨?_, allS_cons.2 ⟨hy, h4⟩, fun _ => ?_, fun _ => ha0⟩
          · have e2 : mulE a (x * a⁻¹) = .ok x := by
              unfold mulE
              rw [show a * (x * a⁻¹) = x from by grind]
              exact lim_of hx
            rw [scan, e2]
            simp only [h3]
          · cases ys with
            | nil => rfl
            | cons y ys =>
              have hx0 : x ≠ 0 := by
                apply h6
                intro e
                subst e
                cases hr
              rw [zeroAhead_cons, h5 hx0, Bool.or_false]
              have : ¬ x * a⁻¹ = 0 := by
                intro e
                apply hx0
                have : x * a⁻¹ * a = x := by grind
                rw [← this, e, Rat.zero_mul]
              simpa using this
end T
end Go.Proofs.YtikiaijgcjjloaaGreatDoor

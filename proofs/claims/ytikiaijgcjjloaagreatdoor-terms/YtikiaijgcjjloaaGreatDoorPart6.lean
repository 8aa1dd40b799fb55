import Derived.Test.YtikiaijgcjjloaaGreatDoorPart5

/- The way back: what it makes of a list the term makes that list of again; and of a plain term the other way round too. No program in this text. -/
namespace Go.Proofs.YtikiaijgcjjloaaGreatDoor
namespace T

def Rev (g h : List Rat → Nat → Res) : Prop := ∀ l l' n, AllS l → Steps g l l' n → Steps h l' l n ∧ AllS l'

theorem rev_const {g h : List Rat → Except Int (List Rat)} (hr : ∀ l l', AllS l → g l = .ok l' → h l' = .ok l ∧ AllS l') : Rev (fun l f => lift (g l) f) (fun l f => lift (h l) f) := by
  intro l l' n ha hs
  have e := hs n
  rw [if_pos (by omega), Nat.sub_self] at e
  change lift (g l) n = _ at e
  cases hg : g l with
  | error er => rw [hg] at e; cases e
  | ok x =>
    rw [hg] at e
    cases e
    obtain ⟨h1, h2⟩ := hr l l' ha hg
    refine ⟨fun F => ?_, h2⟩
    show lift (h l') F = _
    rw [h1, if_pos (by omega)]
    rfl
theorem Rev.stepped {g h : List Rat → Nat → Res} (hr : Rev g h) : Rev (T.stepped g) (T.stepped h) := by
  intro l l' n ha hs
  obtain ⟨m, rfl, h1⟩ := hs.unstep
  obtain ⟨h2, h3⟩ := hr _ _ _ ha h1
  exact ⟨h2.stepped, h3⟩
theorem Rev.then {g h g' h' : List Rat → Nat → Res} (pg : Paced g) (pg' : Paced g') (hr : Rev g h) (hr' : Rev g' h') : Rev (fun l f => Res.then (g l f) g') (fun l f => Res.then (h' l f) h) := by
  intro l l' n ha hs
  obtain ⟨l1, a, b, h1, h2, rfl⟩ := hs.split pg pg'
  obtain ⟨h3, h4⟩ := hr _ _ _ ha h1
  obtain ⟨h5, h6⟩ := hr' _ _ _ h4 h2
  rw [Nat.add_comm]
  exact ⟨h5.then h3, h6⟩
theorem Rev.iter {g h : List Rat → Nat → Res} (pg : Paced g) (ph : Paced h) (hr : Rev g h) (k : Nat) : Rev (T.iter g k) (T.iter h k) := fun _ _ _ ha hs => iter_rev pg ph hr k ha hs
theorem rev_id : Rev (fun l f => .ok l f) (fun l f => .ok l f) := by
  intro l l' n ha hs
  obtain ⟨rfl, rfl⟩ := hs.unique (steps_nil l)
  exact ⟨hs, ha⟩

theorem Pt.run_sp (x : Sp) (b : Bool) : (Pt.sp x).run b = T.stepped (fun l f => lift (if b then x.workBack l else x.work l) f) := Pt.run_fun _ _
theorem Pt.run_name (c : UInt8) (t : Tm) (b : Bool) : (Pt.name c t).run b = T.stepped (t.run b) := Pt.run_fun _ _
theorem Pt.run_pow (t : Tm) (k : Int) (b : Bool) : (Pt.pow t k).run b = T.stepped (fun l f => if (if b then -k else k) < 0 ∧ t.back = false then .err 12 else iter (fun l f => t.run (decide ((if b then -k else k) < 0)) l f) k.natAbs l f) := Pt.run_fun _ _
theorem Pt.run_pow_ok (t : Tm) (k : Int) (b : Bool) (h : ¬ ((if b then -k else k) < 0 ∧ t.back = false)) : (Pt.pow t k).run b = T.stepped (iter (t.run (decide ((if b then -k else k) < 0))) k.natAbs) := by
  rw [Pt.run_pow]
  congr 1
  funext l f
  rw [if_neg h]
theorem Pt.run_under_pick (s g : Tm) (b : Bool) (h : s.picker = true) : (Pt.under s g).run b = T.stepped (underRun (s.run false) (g.run b)) := by
  rw [Pt.run_fun]
  congr 1
  funext l f
  show (if s.picker then _ else _) = _
  rw [if_pos h]
  rfl
theorem Pt.run_under_way (s g : Tm) (b : Bool) (h : s.picker = false) (h2 : (s.back && s.plain) = true) : (Pt.under s g).run b = T.stepped (fun l f => Res.then (s.run false l f) fun l1 f1 => Res.then (g.run b l1 f1) (s.run true)) := by
  rw [Pt.run_fun]
  congr 1
  funext l f
  show (if s.picker then _ else _) = _
  rw [if_neg (by rw [h]; simp), if_pos h2]

theorem Tm.run_nil_fun (b : Bool) : Tm.nil.run b = fun l f => .ok l f := by funext l f; rw [Tm.run_nil]
theorem Tm.run_fwd_fun (p : Pt) (t : Tm) : (Tm.cons p t).run false = fun l f => Res.then (p.run false l f) (t.run false) := by funext l f; rw [Tm.run_fwd]
theorem Tm.run_bwd_fun (p : Pt) (t : Tm) : (Tm.cons p t).run true = fun l f => Res.then (t.run true l f) (p.run true) := by funext l f; rw [Tm.run_bwd]

theorem Sp.rev {x : Sp} (hb : x.opp.isSome = true) : Rev (fun l f => lift (x.workBack l) f) (fun l f => lift (x.work l) f) := by
  refine rev_const fun l l' ha h => ?_
  unfold Sp.workBack at h
  cases ho : x.opp with
  | none => rw [ho] at hb; cases hb
  | some y => rw [ho] at h; exact Sp.undo ho ha h
theorem Sp.rev2 {x : Sp} (hb : x.opp.isSome = true) (hp : x.plain = true) : Rev (fun l f => lift (x.work l) f) (fun l f => lift (x.workBack l) f) := by
  refine rev_const fun l l' ha h => ?_
  cases ho : x.opp with
  | none => rw [ho] at hb; cases hb
  | some y =>
    unfold Sp.workBack
    rw [ho]
    exact Sp.redo hp ho ha h

mutual
theorem Pt.both : ∀ (p : Pt), p.back = true → p.wf → Rev (p.run true) (p.run false) ∧ (p.plain = true → Rev (p.run false) (p.run true))
  | .sp x, hb, _ => by
    rw [Pt.back] at hb
    rw [Pt.run_sp, Pt.run_sp]
    exact ⟨(Sp.rev hb).stepped, fun hp => (Sp.rev2 hb (by simpa [Pt.plain] using hp)).stepped⟩
  | .pow t k, hb, hw => by
    rw [Pt.back] at hb
    have hw' : t.wf := by rw [Pt.wf] at hw; exact hw.1
    by_cases h0 : k = 0
    · subst h0
      have e1 : (Pt.pow t 0).run true = (Pt.pow t 0).run false := by rw [Pt.run_pow, Pt.run_pow]; rfl
      have e2 : (Pt.pow t 0).run false = T.stepped (fun l f => .ok l f) := by
        rw [Pt.run_pow_ok _ _ _ (by simp)]
        congr 1
      rw [e1, e2]
      exact ⟨rev_id.stepped, fun _ => rev_id.stepped⟩
    · have hb' : t.back = true ∧ (0 < k ∨ t.plain = true) := by simpa [h0] using hb
      obtain ⟨hbt, hk⟩ := hb'
      obtain ⟨u, v⟩ := Tm.both t hbt hw'
      have e1 : (Pt.pow t k).run true = T.stepped (iter (t.run (decide (-k < 0))) k.natAbs) := Pt.run_pow_ok t k true (by rw [hbt]; simp)
      have e2 : (Pt.pow t k).run false = T.stepped (iter (t.run (decide (k < 0))) k.natAbs) := Pt.run_pow_ok t k false (by rw [hbt]; simp)
      rw [e1, e2]
      by_cases hk0 : 0 < k
      · rw [decide_eq_true (show -k < 0 by omega), decide_eq_false (show ¬ k < 0 by omega)]
        exact ⟨(u.iter (Tm.paced t true) (Tm.paced t false) _).stepped, fun hp => ((v (by simpa [Pt.plain] using hp)).iter (Tm.paced t false) (Tm.paced t true) _).stepped⟩
      · have hpl : t.plain = true := by rcases hk with h | h; exact absurd h hk0; exact h
        rw [decide_eq_false (show ¬ -k < 0 by omega), decide_eq_true (show k < 0 by omega)]
        exact ⟨((v hpl).iter (Tm.paced t false) (Tm.paced t true) _).stepped, fun _ => (u.iter (Tm.paced t true) (Tm.paced t false) _).stepped⟩
  | .under s g, hb, hw => by
    rw [Pt.back, Bool.and_eq_true] at hb
    rw [Pt.wf] at hw
    obtain ⟨hbg, hbs⟩ := hb
    obtain ⟨u, v⟩ := Tm.both g hbg hw.2
    by_cases hpk : s.picker = true
    · rw [Pt.run_under_pick _ _ _ hpk, Pt.run_under_pick _ _ _ hpk]
      have hn := fun n f => Tm.natl s hpk hw.1 false n f
      refine ⟨Rev.stepped fun l l' n ha hs => under_rev hn (Tm.paced s false) (Tm.paced g true) u ha hs, fun hp => ?_⟩
      have hpg : g.plain = true := by simp [Pt.plain] at hp; exact hp.2
      exact Rev.stepped fun l l' n ha hs => under_rev hn (Tm.paced s false) (Tm.paced g false) (v hpg) ha hs
    · have hpk' : s.picker = false := by simpa using hpk
      have hbp : (s.back && s.plain) = true := by rw [hpk'] at hbs; simpa using hbs
      rw [Pt.run_under_way _ _ _ hpk' hbp, Pt.run_under_way _ _ _ hpk' hbp]
      rw [Bool.and_eq_true] at hbp
      obtain ⟨us, vs⟩ := Tm.both s hbp.1 hw.1
      have vs' := vs hbp.2
      have key : ∀ g1 g2, Paced g1 → Paced g2 → Rev g1 g2 → Rev (fun l f => Res.then (s.run false l f) fun l1 f1 => Res.then (g1 l1 f1) (s.run true)) (fun l f => Res.then (s.run false l f) fun l1 f1 => Res.then (g2 l1 f1) (s.run true)) := by
        intro g1 g2 p1 p2 hr l l' n ha hs
        obtain ⟨l1, a, b, h1, h2, rfl⟩ := hs.split (Tm.paced s false) (p1.then (Tm.paced s true))
        obtain ⟨l2, c, d, h3, h4, rfl⟩ := h2.split p1 (Tm.paced s true)
        obtain ⟨k1, k2⟩ := vs' _ _ _ ha h1
        obtain ⟨k3, k4⟩ := hr _ _ _ k2 h3
        obtain ⟨k5, k6⟩ := us _ _ _ k4 h4
        have := k5.then (k3.then k1)
        rw [show a + (c + d) = d + (c + a) by omega]
        exact ⟨this, k6⟩
      refine ⟨(key _ _ (Tm.paced g true) (Tm.paced g false) u).stepped, fun hp => ?_⟩
      have hpg : g.plain = true := by simp [Pt.plain] at hp; exact hp.2
      exact (key _ _ (Tm.paced g false) (Tm.paced g true) (v hpg)).stepped
  | .name c t, hb, hw => by
    rw [Pt.back] at hb
    rw [Pt.wf] at hw
    obtain ⟨u, v⟩ := Tm.both t hb hw.2.2
    rw [Pt.run_name, Pt.run_name]
    exact ⟨u.stepped, fun hp => (v (by simpa [Pt.plain] using hp)).stepped⟩
theorem Tm.both : ∀ (t : Tm), t.back = true → t.wf → Rev (t.run true) (t.run false) ∧ (t.plain = true → Rev (t.run false) (t.run true))
  | .nil, _, _ => by
    rw [Tm.run_nil_fun, Tm.run_nil_fun]
    exact ⟨rev_id, fun _ => rev_id⟩
  | .cons p t, hb, hw => by
    rw [Tm.back, Bool.and_eq_true] at hb
    rw [Tm.wf] at hw
    obtain ⟨u1, v1⟩ := Pt.both p hb.1 hw.1
    obtain ⟨u2, v2⟩ := Tm.both t hb.2 hw.2
    rw [Tm.run_fwd_fun, Tm.run_bwd_fun]
    refine ⟨Rev.then (Tm.paced t true) (Pt.paced p true) u2 u1, fun hp => ?_⟩
    rw [Tm.plain, Bool.and_eq_true] at hp
    exact Rev.then (Pt.paced p false) (Tm.paced t false) (v1 hp.1) (v2 hp.2)
end

/-- UNDO: whatever the way back of a term makes of a list, the term makes that list of it again, with as many steps left. -/
theorem Tm.undo (t : Tm) (hb : t.back = true) (hw : t.wf) {l l' : List Rat} {f f' : Nat} (ha : AllS l) (h : t.run true l f = .ok l' f') : t.run false l' f = .ok l f' ∧ AllS l' := by
  obtain ⟨n, hn, hs⟩ := (Tm.paced t true).steps h
  obtain ⟨h1, h2⟩ := (Tm.both t hb hw).1 _ _ _ ha hs
  rw [hn]
  exact ⟨h1.ok f', h2⟩
/-- THERE AND BACK: of a plain term. -/
theorem Tm.redo (t : Tm) (hb : t.back = true) (hp : t.plain = true) (hw : t.wf) {l l' : List Rat} {f f' : Nat} (ha : AllS l) (h : t.run false l f = .ok l' f') : t.run true l' f = .ok l f' ∧ AllS l' := by
  obtain ⟨n, hn, hs⟩ := (Tm.paced t false).steps h
  obtain ⟨h1, h2⟩ := (Tm.both t hb hw).2 hp _ _ _ ha hs
  rw [hn]
  exact ⟨h1.ok f', h2⟩
end T
end Go.Proofs.YtikiaijgcjjloaaGreatDoor

/- What each call of a session answers, in the document's words, as relations. No program in this text. -/
namespace Go.Proofs.YtikiaijgcjjloaaGreatDoor
namespace T
open Go.Lib M

/-! ### Lists -/
def listText : List Rat → List UInt8
  | [] => []
  | [x] => ratText x
  | x :: l => ratText x ++ 44 :: listText l
structure IsList (s : List UInt8) (l : List Rat) : Prop where
  len : l.length ≤ 12
  small : AllS l
  text : listText l = s
theorem stop_44 (r : List UInt8) : Stop (44 :: r) := fun c h => by cases h; exact ⟨by decide, by decide, by decide, by decide⟩
theorem stop_nil : Stop [] := fun _ h => by cases h
theorem ratText_ne (x : Rat) : ratText x ≠ [] := by
  unfold ratText numText
  intro h
  have h1 : itoa x.num = [] := (List.append_eq_nil_iff.1 h).1
  by_cases hn : x.num < 0
  · rw [M.itoa_neg _ hn] at h1; cases h1
  · rw [M.itoa_pos _ hn] at h1; exact dec_ne _ h1
theorem listText_cons2 (x y : Rat) (l : List Rat) : listText (x :: y :: l) = ratText x ++ 44 :: listText (y :: l) := rfl
theorem listText_one (x : Rat) : listText [x] = ratText x := rfl
theorem listText_inj : ∀ {l l' : List Rat}, listText l = listText l' → l = l'
  | [], [], _ => rfl
  | [], [y], h => absurd h.symm (ratText_ne y)
  | [], y :: z :: l, h => by
    rw [listText_cons2] at h
    exact absurd (List.append_eq_nil_iff.1 h.symm).1 (ratText_ne y)
  | [x], [], h => absurd h (ratText_ne x)
  | x :: z :: l, [], h => by
    rw [listText_cons2] at h
    exact absurd (List.append_eq_nil_iff.1 h).1 (ratText_ne x)
  | [x], [y], h => by
    rw [listText_one, listText_one] at h
    have := (ratText_split (x := x) (y := y) (r := []) (r' := []) (by simpa using h) stop_nil stop_nil).1
    rw [this]
  | [x], y :: z :: l, h => by
    rw [listText_one, listText_cons2] at h
    have := (ratText_split (x := x) (y := y) (r := []) (by simpa using h) stop_nil (stop_44 _)).2
    cases this
  | x :: z :: l, [y], h => by
    rw [listText_one, listText_cons2] at h
    have := (ratText_split (x := x) (y := y) (r' := []) (by simpa using h) (stop_44 _) stop_nil).2
    cases this
  | x :: z :: l, y :: z' :: l', h => by
    rw [listText_cons2, listText_cons2] at h
    obtain ⟨rfl, e⟩ := ratText_split h (stop_44 _) (stop_44 _)
    simp only [List.cons.injEq, true_and] at e
    rw [listText_inj e]
theorem IsList.unique {s : List UInt8} {l l' : List Rat} (h : IsList s l) (h' : IsList s l') : l = l' := listText_inj (h.text.trans h'.text.symm)

/-! ### The answers -/
def Shape (s : List UInt8) : Prop := ∃ t : Tm, t.wf ∧ t.text = s
/-- The error that a term has. -/
def Check (env : Env) (s : List UInt8) (c : Int) : Prop :=
  (120 < s.length ∧ c = 5) ∨ (s.length ≤ 120 ∧ ¬ Shape s ∧ c = 6) ∨ (s.length ≤ 120 ∧ Shape s ∧ (¬ ∃ t, IsTerm env s t) ∧ c = 7)
structure Good (env : Env) (s : List UInt8) (t : Tm) : Prop where
  len : s.length ≤ 120
  term : IsTerm env s t
theorem check_or (env : Env) (s : List UInt8) : (∃ c, Check env s c) ∨ ∃ t, Good env s t := by
  by_cases h1 : 120 < s.length
  · exact Or.inl ⟨5, Or.inl ⟨h1, rfl⟩⟩
  by_cases h2 : ∃ t, IsTerm env s t
  · obtain ⟨t, ht⟩ := h2
    exact Or.inr ⟨t, by omega, ht⟩
  by_cases h3 : Shape s
  · exact Or.inl ⟨7, Or.inr (Or.inr ⟨by omega, h3, h2, rfl⟩)⟩
  · exact Or.inl ⟨6, Or.inr (Or.inl ⟨by omega, h3, rfl⟩)⟩
theorem Check.ne {env : Env} {s : List UInt8} {c : Int} (h : Check env s c) : c ≠ 0 := by
  rcases h with ⟨_, rfl⟩ | ⟨_, _, rfl⟩ | ⟨_, _, _, rfl⟩ <;> decide
theorem Check.not_good {env : Env} {s : List UInt8} {c : Int} {t : Tm} (h : Check env s c) (g : Good env s t) : False := by
  rcases h with ⟨h, _⟩ | ⟨_, h, _⟩ | ⟨_, _, h, _⟩
  · have := g.len; omega
  · exact h ⟨t, g.term.wf, g.term.text⟩
  · exact h ⟨t, g.term⟩
theorem Check.unique {env : Env} {s : List UInt8} {c c' : Int} (h : Check env s c) (h' : Check env s c') : c = c' := by
  rcases h with ⟨h1, rfl⟩ | ⟨h1, h2, rfl⟩ | ⟨h1, h2, h3, rfl⟩ <;> rcases h' with ⟨k1, rfl⟩ | ⟨k1, k2, rfl⟩ | ⟨k1, k2, k3, rfl⟩ <;> first | rfl | omega | exact absurd h2 k2 | exact absurd k2 h2
theorem Good.unique {env : Env} {s : List UInt8} {t t' : Tm} (h : Good env s t) (h' : Good env s t') : t = t' := h.term.unique h'.term

def factsNum (t : Tm) : Int := (if t.back then 1 else 0) + (if t.picker then 2 else 0) + (if t.plain then 4 else 0)
def FactsSays (env : Env) (s : List UInt8) (n e : Int) : Prop := (Check env s e ∧ n = 0) ∨ ∃ t, Good env s t ∧ n = factsNum t ∧ e = 0
/-- What a run answers. -/
def RunSays (res : Res) (fuel : Int) (r : List UInt8) (n e : Int) : Prop := match res with
  | .ok l f => r = listText l ∧ n = fuel - f ∧ e = 0
  | .err x => r = [] ∧ n = 0 ∧ e = x
def ApplySays (env : Env) (s ls : List UInt8) (fuel : Int) (r : List UInt8) (n e : Int) : Prop :=
  (Check env s e ∧ r = [] ∧ n = 0) ∨ ∃ t, Good env s t ∧ (((¬ ∃ l, IsList ls l) ∧ r = [] ∧ n = 0 ∧ e = 8) ∨ ∃ l, IsList ls l ∧ (((fuel < 0 ∨ 5000 < fuel) ∧ r = [] ∧ n = 0 ∧ e = 9) ∨ (0 ≤ fuel ∧ fuel ≤ 5000 ∧ RunSays (t.run false l fuel.toNat) fuel r n e)))

mutual
/-- The opposite of a part that has one. -/
def Pt.opp : Pt → Pt
  | .sp x => .sp (x.opp.getD x)
  | .pow f k => .pow f (-k)
  | .under s g => .under s g.opp
  | .name c b => .pow (.cons (.name c b) .nil) (-1)
def Tm.opp : Tm → Tm
  | .nil => .nil
  | .cons p t => t.opp.snoc p.opp
def Tm.snoc : Tm → Pt → Tm
  | .nil, q => .cons q .nil
  | .cons p t, q => .cons p (t.snoc q)
end
def OppSays (env : Env) (s : List UInt8) (r : List UInt8) (e : Int) : Prop :=
  (Check env s e ∧ r = []) ∨ ∃ t, Good env s t ∧ ((t.back = false ∧ r = [] ∧ e = 12) ∨ (t.back = true ∧ 120 < t.opp.text.length ∧ r = [] ∧ e = 5) ∨ (t.back = true ∧ t.opp.text.length ≤ 120 ∧ r = t.opp.text ∧ e = 0))
/-- What Define answers, and what is defined behind it. -/
def Env.put (env : Env) (c : UInt8) (t : Tm) : Env := fun d => if d = c then some t else env d
def DefineSays (env : Env) (name s : List UInt8) (e : Int) (env' : Env) : Prop :=
  ((¬ ∃ c : UInt8, name = [c] ∧ 65 ≤ c.toNat ∧ c.toNat ≤ 90) ∧ e = 4 ∧ env' = env) ∨ ∃ c : UInt8, name = [c] ∧ 65 ≤ c.toNat ∧ c.toNat ≤ 90 ∧ ((Check env s e ∧ env' = env) ∨ ∃ t, Good env s t ∧ e = 0 ∧ env' = env.put c t)

/-! ### One answer each -/
theorem FactsSays.unique {env : Env} {s : List UInt8} {n e n' e' : Int} (h : FactsSays env s n e) (h' : FactsSays env s n' e') : n = n' ∧ e = e' := by
  rcases h with ⟨h1, rfl⟩ | ⟨t, g, rfl, rfl⟩ <;> rcases h' with ⟨k1, rfl⟩ | ⟨t', g', rfl, rfl⟩
  · exact ⟨rfl, h1.unique k1⟩
  · exact (h1.not_good g').elim
  · exact (k1.not_good g).elim
  · rw [g.unique g']; exact ⟨rfl, rfl⟩
theorem RunSays.unique {res : Res} {fuel : Int} {r r' : List UInt8} {n e n' e' : Int} (h : RunSays res fuel r n e) (h' : RunSays res fuel r' n' e') : r = r' ∧ n = n' ∧ e = e' := by
  cases res with
  | ok l f => obtain ⟨rfl, rfl, rfl⟩ := h; obtain ⟨rfl, rfl, rfl⟩ := h'; exact ⟨rfl, rfl, rfl⟩
  | err x => obtain ⟨rfl, rfl, rfl⟩ := h; obtain ⟨rfl, rfl, rfl⟩ := h'; exact ⟨rfl, rfl, rfl⟩
theorem ApplySays.unique {env : Env} {s ls : List UInt8} {fuel : Int} {r r' : List UInt8} {n e n' e' : Int} (h : ApplySays env s ls fuel r n e) (h' : ApplySays env s ls fuel r' n' e') : r = r' ∧ n = n' ∧ e = e' := by
  rcases h with ⟨h1, rfl, rfl⟩ | ⟨t, g, h⟩ <;> rcases h' with ⟨k1, rfl, rfl⟩ | ⟨t', g', h'⟩
  · exact ⟨rfl, rfl, h1.unique k1⟩
  · exact (h1.not_good g').elim
  · exact (k1.not_good g).elim
  · obtain rfl := g.unique g'
    rcases h with ⟨h1, rfl, rfl, rfl⟩ | ⟨l, hl, h⟩ <;> rcases h' with ⟨k1, rfl, rfl, rfl⟩ | ⟨l', hl', h'⟩
    · exact ⟨rfl, rfl, rfl⟩
    · exact absurd ⟨l', hl'⟩ h1
    · exact absurd ⟨l, hl⟩ k1
    · obtain rfl := hl.unique hl'
      rcases h with ⟨h1, rfl, rfl, rfl⟩ | ⟨h1, h2, h3⟩ <;> rcases h' with ⟨k1, rfl, rfl, rfl⟩ | ⟨k1, k2, k3⟩
      · exact ⟨rfl, rfl, rfl⟩
      · omega
      · omega
      · exact h3.unique k3
theorem OppSays.unique {env : Env} {s : List UInt8} {r r' : List UInt8} {e e' : Int} (h : OppSays env s r e) (h' : OppSays env s r' e') : r = r' ∧ e = e' := by
  rcases h with ⟨h1, rfl⟩ | ⟨t, g, h⟩ <;> rcases h' with ⟨k1, rfl⟩ | ⟨t', g', h'⟩
  · exact ⟨rfl, h1.unique k1⟩
  · exact (h1.not_good g').elim
  · exact (k1.not_good g).elim
  · obtain rfl := g.unique g'
    rcases h with ⟨h1, rfl, rfl⟩ | ⟨h1, h2, rfl, rfl⟩ | ⟨h1, h2, rfl, rfl⟩ <;> rcases h' with ⟨k1, rfl, rfl⟩ | ⟨k1, k2, rfl, rfl⟩ | ⟨k1, k2, rfl, rfl⟩ <;> first | exact ⟨rfl, rfl⟩ | (exfalso; omega) | (rw [h1] at k1; cases k1; done)
theorem DefineSays.unique {env : Env} {name s : List UInt8} {e e' : Int} {v v' : Env} (h : DefineSays env name s e v) (h' : DefineSays env name s e' v') : e = e' ∧ v = v' := by
  rcases h with ⟨h1, rfl, rfl⟩ | ⟨c, rfl, c1, c2, h⟩ <;> rcases h' with ⟨k1, rfl, rfl⟩ | ⟨c', hc, d1, d2, h'⟩
  · exact ⟨rfl, rfl⟩
  · exact absurd ⟨c', hc, d1, d2⟩ h1
  · exact absurd ⟨c, rfl, c1, c2⟩ k1
  · simp only [List.cons.injEq, and_true] at hc
    subst hc
    rcases h with ⟨h1, rfl⟩ | ⟨t, g, rfl, rfl⟩ <;> rcases h' with ⟨k1, rfl⟩ | ⟨t', g', rfl, rfl⟩
    · exact ⟨h1.unique k1, rfl⟩
    · exact (h1.not_good g').elim
    · exact (k1.not_good g).elim
    · obtain rfl := g.unique g'; exact ⟨rfl, rfl⟩
end T
end Go.Proofs.YtikiaijgcjjloaaGreatDoor

/- Numbers as pairs and numbers as fractions: one and the same. No program in this text. -/
namespace Go.Proofs.YtikiaijgcjjloaaGreatDoor
namespace T
open Go.Lib M

theorem lowP_rat (p : Int) (b : Nat) (hb : 1 ≤ b) : lowP p b = (mkRat p b).num := by
  rw [Rat.num_mkRat, if_neg (by omega)]
  unfold lowP gg
  rw [Int.natAbs_natCast, Nat.gcd_comm b]
  refine Int.tdiv_eq_ediv_of_dvd ?_
  exact Int.ofNat_dvd_left.2 (Nat.gcd_dvd_left _ _)
theorem lowQ_rat (p : Int) (b : Nat) (hb : 1 ≤ b) : lowQ p b = ((mkRat p b).den : Int) := by
  rw [Rat.den_mkRat, if_neg (by omega), lowQ_eq p b (by omega)]
  unfold gg
  rw [Int.natAbs_natCast, Nat.gcd_comm b]
theorem fits_rat (p : Int) (b : Nat) (hb : 1 ≤ b) : fitsB p b = small (mkRat p b) := by
  have h1 := lowP_abs p b
  have h2 := lowQ_eq p b (by omega)
  have h3 := lowP_rat p b hb
  have h4 := lowQ_rat p b hb
  unfold fitsB small
  rw [Bool.eq_iff_iff]
  simp only [decide_eq_true_eq]
  rw [← h3]
  omega
theorem den_int (x : Rat) : (1 : Int) ≤ (x.den : Int) := by have := x.den_pos; omega
theorem add_rat (x y : Rat) : x + y = mkRat (x.num * y.den + y.num * x.den) (x.den * y.den) := by
  have h : (mkRat x.num x.den) + (mkRat y.num y.den) = mkRat (x.num * y.den + y.num * x.den) (x.den * y.den) := Rat.mkRat_add_mkRat _ _ x.den_nz y.den_nz
  rw [Rat.mkRat_self, Rat.mkRat_self] at h
  exact h
theorem mul_rat (x y : Rat) : x * y = mkRat (x.num * y.num) (x.den * y.den) := by
  have h : (mkRat x.num x.den) * (mkRat y.num y.den) = mkRat (x.num * y.num) (x.den * y.den) := Rat.mkRat_mul_mkRat _ _ _ _
  rw [Rat.mkRat_self, Rat.mkRat_self] at h
  exact h
/-- The sum, as pairs. -/
theorem add_pairs (x y : Rat) : fitsB (x.num * y.den + y.num * x.den) ((x.den : Int) * y.den) = small (x + y) ∧ lowP (x.num * y.den + y.num * x.den) ((x.den : Int) * y.den) = (x + y).num ∧ lowQ (x.num * y.den + y.num * x.den) ((x.den : Int) * y.den) = ((x + y).den : Int) := by
  have e : ((x.den : Int) * y.den) = ((x.den * y.den : Nat) : Int) := by simp
  have hb : 1 ≤ x.den * y.den := Nat.mul_pos x.den_pos y.den_pos
  rw [e, add_rat]
  exact ⟨fits_rat _ _ hb, lowP_rat _ _ hb, lowQ_rat _ _ hb⟩
theorem mul_pairs (x y : Rat) : fitsB (x.num * y.num) ((x.den : Int) * y.den) = small (x * y) ∧ lowP (x.num * y.num) ((x.den : Int) * y.den) = (x * y).num ∧ lowQ (x.num * y.num) ((x.den : Int) * y.den) = ((x * y).den : Int) := by
  have e : ((x.den : Int) * y.den) = ((x.den * y.den : Nat) : Int) := by simp
  have hb : 1 ≤ x.den * y.den := Nat.mul_pos x.den_pos y.den_pos
  rw [e, mul_rat]
  exact ⟨fits_rat _ _ hb, lowP_rat _ _ hb, lowQ_rat _ _ hb⟩
/-- The inverse, as a pair. -/
theorem inv_pairs (x : Rat) (h : x ≠ 0) : x⁻¹.num = (if x.num < 0 then -(x.den : Int) else x.den) ∧ (x⁻¹.den : Int) = (if x.num < 0 then -x.num else x.num) := by
  have hn := num_ne h
  rw [Rat.num_inv, Rat.den_inv, if_neg hn]
  by_cases h0 : x.num < 0
  · rw [if_pos h0, if_pos h0, Int.sign_eq_neg_one_of_neg h0]
    omega
  · rw [if_neg h0, if_neg h0, Int.sign_eq_one_of_pos (by omega)]
    omega
/-- A text that is a number is one of a fraction within the limit. -/
theorem isNum_rat {s : List UInt8} {t b : Int} (h : IsNum s t b) : ∃ x : Rat, small x = true ∧ s = ratText x ∧ t = x.num ∧ b = (x.den : Int) := by
  have hb : b.toNat ≠ 0 := by have := h.b1; omega
  have hc : t.natAbs.Coprime b.toNat := by
    have := h.gc
    rw [show b.natAbs = b.toNat by have := h.b1; omega] at this
    exact this
  refine ⟨⟨t, b.toNat, hb, hc⟩, ?_, ?_, rfl, ?_⟩
  · unfold small
    apply decide_eq_true
    have := h.lo; have := h.hi; have := h.b1; have := h.b2
    show t.natAbs ≤ 1000000000 ∧ b.toNat ≤ 1000000000
    omega
  · rw [h.tx]
    unfold ratText
    have : (b.toNat : Int) = b := by have := h.b1; omega
    show numText t b = numText t (b.toNat : Int)
    rw [this]
  · show b = (b.toNat : Int)
    have := h.b1
    omega
theorem rat_isNum {x : Rat} (h : small x = true) : IsNum (ratText x) x.num (x.den : Int) := by
  unfold small at h
  have h' := of_decide_eq_true h
  have hd := x.den_pos
  refine ⟨by omega, by omega, by omega, by omega, ?_, rfl⟩
  have := x.reduced
  rw [Int.natAbs_natCast]
  exact this
theorem num_zero {x : Rat} : x.num = 0 ↔ x = 0 := by
  constructor
  · intro h
    have := Rat.mkRat_self x
    rw [h] at this
    rw [← this]; simp
  · intro h; rw [h]; rfl
/-- Roots, as pairs. -/
theorem rootN_none {n : Nat} (h : rootN n = none) (r : Nat) : r * r ≠ n := by
  intro e
  subst e
  rw [rootN_sq] at h
  cases h
theorem root_pairs_some {x : Rat} {a b : Nat} (ha : (a : Int) * a = x.num) (hb : (b : Int) * b = (x.den : Int)) : ∃ y, root x = some y ∧ y.num = a ∧ y.den = b := by
  have hb0 : b ≠ 0 := by
    intro e; subst e
    have := x.den_pos
    simp at hb
    omega
  have ha' : a * a = x.num.natAbs := by
    have : ((a * a : Nat) : Int) = x.num := by simpa using ha
    omega
  have hb' : b * b = x.den := by
    have : ((b * b : Nat) : Int) = (x.den : Int) := by simpa using hb
    omega
  have hc : Nat.gcd a b = 1 := by
    have hx := x.reduced
    unfold Nat.Coprime at hx
    rw [← ha', ← hb'] at hx
    have h1 : Nat.gcd a b ∣ Nat.gcd (a * a) (b * b) := Nat.dvd_gcd (Nat.dvd_mul_right_of_dvd (Nat.gcd_dvd_left a b) a) (Nat.dvd_mul_right_of_dvd (Nat.gcd_dvd_right a b) b)
    rw [hx] at h1
    exact Nat.dvd_one.1 h1
  refine ⟨mkRat a b, ?_, ?_, ?_⟩
  · unfold root
    have hn : ¬ x.num < 0 := by
      have : ((a * a : Nat) : Int) = x.num := by simpa using ha
      omega
    rw [if_neg hn, ← ha', ← hb', rootN_sq, rootN_sq]
  · rw [Rat.num_mkRat, if_neg hb0]
    show (a : Int) / ((Nat.gcd b a : Nat) : Int) = a
    rw [Nat.gcd_comm, hc]
    simp
  · rw [Rat.den_mkRat, if_neg hb0]
    show b / Nat.gcd b a = b
    rw [Nat.gcd_comm, hc]
    simp
theorem root_pairs_none {x : Rat} (h : (∀ r : Nat, (r : Int) * r ≠ x.num) ∨ (∀ r : Nat, (r : Int) * r ≠ (x.den : Int))) : root x = none := by
  cases hr : root x with
  | none => rfl
  | some y =>
    exfalso
    obtain ⟨h0, h1⟩ := root_some hr
    obtain ⟨h2, h3⟩ := sq_parts y
    rw [h1] at h2 h3
    rcases h with h | h
    · apply h y.num.natAbs
      rw [h2]
      have : 0 ≤ y.num := Rat.num_nonneg.2 h0
      rw [show ((y.num.natAbs : Nat) : Int) = y.num by omega]
    · apply h y.den
      rw [h3]
      simp
end T
end Go.Proofs.YtikiaijgcjjloaaGreatDoor

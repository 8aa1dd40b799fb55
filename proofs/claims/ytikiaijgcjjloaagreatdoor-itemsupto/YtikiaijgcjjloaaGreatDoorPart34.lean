import Derived.Test.YtikiaijgcjjloaaGreatDoorPart33

/- The statements without the document's answer, over the answers as relations: Splits, Fuelled, Powers. No program in this text. -/
namespace Go.Proofs.YtikiaijgcjjloaaGreatDoor
namespace T
open Go.Lib M

/-! ### Terms one behind the other -/
def Tm.app : Tm → Tm → Tm
  | .nil, u => u
  | .cons p t, u => .cons p (t.app u)
theorem Tm.app_text : ∀ (t u : Tm), (t.app u).text = t.text ++ u.text
  | .nil, u => by rw [Tm.app, Tm.text]; rfl
  | .cons p t, u => by rw [Tm.app, Tm.text, Tm.app_text t u, Tm.text, List.append_assoc]
theorem Tm.app_wf : ∀ (t u : Tm), t.wf → u.wf → (t.app u).wf
  | .nil, u, _, hu => hu
  | .cons p t, u, ht, hu => by rw [Tm.app, Tm.wf]; rw [Tm.wf] at ht; exact ⟨ht.1, Tm.app_wf t u ht.2 hu⟩
theorem Tm.app_env (env : Env) : ∀ (t u : Tm), t.inEnv env → u.inEnv env → (t.app u).inEnv env
  | .nil, u, _, hu => hu
  | .cons p t, u, ht, hu => by rw [Tm.app, Tm.inEnv]; rw [Tm.inEnv] at ht; exact ⟨ht.1, Tm.app_env env t u ht.2 hu⟩
theorem then_assoc (r : Res) (g h : List Rat → Nat → Res) : Res.then (Res.then r g) h = Res.then r (fun l f => Res.then (g l f) h) := by cases r <;> rfl
theorem Tm.app_run : ∀ (t u : Tm) (l : List Rat) (f : Nat), (t.app u).run false l f = Res.then (t.run false l f) (u.run false)
  | .nil, u, l, f => by rw [Tm.app, Tm.run_nil]; rfl
  | .cons p t, u, l, f => by
    rw [Tm.app, Tm.run_fwd, Tm.run_fwd, then_assoc]
    congr 1
    funext l f
    exact Tm.app_run t u l f
theorem IsTerm.app {env : Env} {s s' : List UInt8} {t u : Tm} (h : IsTerm env s t) (h' : IsTerm env s' u) : IsTerm env (s ++ s') (t.app u) :=
  ⟨Tm.app_wf t u h.wf h'.wf, Tm.app_env env t u h.env h'.env, by rw [Tm.app_text, h.text, h'.text]⟩

/-! ### Only the empty term takes no step -/
theorem Pt.steps_pos (p : Pt) (b : Bool) {l l' : List Rat} {n : Nat} (h : Steps (p.run b) l l' n) : 1 ≤ n := by
  rw [Pt.run_fun] at h
  obtain ⟨m, rfl, _⟩ := h.unstep
  omega
theorem Tm.steps_pos {p : Pt} {t : Tm} {l l' : List Rat} {n : Nat} (h : Steps ((Tm.cons p t).run false) l l' n) : 1 ≤ n := by
  rw [Tm.run_fwd_fun] at h
  obtain ⟨l1, a, b, h1, _, rfl⟩ := h.split (Pt.paced p false) (Tm.paced t false)
  have := Pt.steps_pos p false h1
  omega
theorem Tm.text_nil {t : Tm} (h : t.text = []) : t = .nil := by
  cases t with
  | nil => rfl
  | cons p t =>
    rw [Tm.text] at h
    obtain ⟨l, e⟩ := Pt.text_first p
    rw [e] at h
    cases h
theorem run_used {t : Tm} {s : List UInt8} {env : Env} (ht : IsTerm env s t) {l l' : List Rat} {f f' : Nat} (h : t.run false l f = .ok l' f') : f' ≤ f ∧ (f' < f ↔ s ≠ []) ∧ (s = [] → l' = l) := by
  obtain ⟨n, hn, hs⟩ := (Tm.paced t false).steps h
  cases t with
  | nil =>
    rw [Tm.run_nil] at h
    cases h
    have : s = [] := by rw [← ht.text, Tm.text]
    exact ⟨Nat.le_refl _, ⟨fun h => absurd h (by omega), fun h => absurd this h⟩, fun _ => rfl⟩
  | cons p t =>
    have h1 := Tm.steps_pos hs
    have hne : s ≠ [] := fun e => by
      have := Tm.text_nil (ht.text.trans e)
      cases this
    exact ⟨by omega, ⟨fun _ => hne, fun _ => by omega⟩, fun e => absurd e hne⟩

/-- SPLITS. -/
theorem k_splits_long {env : Env} {one two ls : List UInt8} {fuel : Int} {l : List UInt8} {n g : Int} (h : ApplySays env (one ++ two) ls fuel l n g) (hlen : 120 < one.length + two.length) : g = 5 ∧ l = [] ∧ n = 0 := by
  have hc : Check env (one ++ two) 5 := Or.inl ⟨by simpa using hlen, rfl⟩
  obtain ⟨h1, h2, h3⟩ := h.unique (Or.inl ⟨hc, rfl, rfl⟩)
  exact ⟨h3, h1, h2⟩
theorem k_splits_one {env : Env} {one two ls : List UInt8} {fuel n1 n2 : Int} (f1 : FactsSays env one n1 0) (f2 : FactsSays env two n2 0) (hlen : one.length + two.length ≤ 120) {l : List UInt8} {n g : Int} (h : ApplySays env (one ++ two) ls fuel l n g) {mid : List UInt8} {m hh : Int} (h1 : ApplySays env one ls fuel mid m hh) (he : hh ≠ 0) : g = hh ∧ l = [] ∧ n = 0 := by
  obtain ⟨t, ht, _⟩ := f1.good
  obtain ⟨u, hu, _⟩ := f2.good
  have hg : Good env (one ++ two) (t.app u) := ⟨by simpa using hlen, ht.term.app hu.term⟩
  have key : ApplySays env (one ++ two) ls fuel [] 0 hh := by
    rcases h1 with ⟨c, _⟩ | ⟨t', g', h1⟩
    · exact (c.not_good ht).elim
    · obtain rfl := g'.unique ht
      refine Or.inr ⟨_, hg, ?_⟩
      rcases h1 with ⟨a1, _, _, a4⟩ | ⟨L, hL, h1⟩
      · exact Or.inl ⟨a1, rfl, rfl, a4⟩
      · refine Or.inr ⟨L, hL, ?_⟩
        rcases h1 with ⟨a1, _, _, a4⟩ | ⟨a1, a2, a3⟩
        · exact Or.inl ⟨a1, rfl, rfl, a4⟩
        · refine Or.inr ⟨a1, a2, ?_⟩
          rw [Tm.app_run]
          cases hr : t'.run false L fuel.toNat with
          | ok l' f' => rw [hr] at a3; exact absurd a3.2.2 he
          | err x => rw [hr] at a3; exact ⟨rfl, rfl, a3.2.2⟩
  obtain ⟨e1, e2, e3⟩ := h.unique key
  exact ⟨e3, e1, e2⟩
theorem k_splits_two {env : Env} {one two ls : List UInt8} {fuel n1 n2 : Int} (f1 : FactsSays env one n1 0) (f2 : FactsSays env two n2 0) (hlen : one.length + two.length ≤ 120) {l : List UInt8} {n g : Int} (h : ApplySays env (one ++ two) ls fuel l n g) {mid : List UInt8} {m hh : Int} (h1 : ApplySays env one ls fuel mid m hh) (he : hh = 0) :
    (0 < m ↔ one ≠ []) ∧ 0 ≤ m ∧ m ≤ fuel ∧ ∀ {en : List UInt8} {k i : Int}, ApplySays env two mid (fuel - m) en k i → (i ≠ 0 → g = i ∧ l = [] ∧ n = 0) ∧ (i = 0 → g = 0 ∧ l = en ∧ n = m + k) := by
  obtain ⟨t, ht, _⟩ := f1.good
  obtain ⟨u, hu, _⟩ := f2.good
  have hg : Good env (one ++ two) (t.app u) := ⟨by simpa using hlen, ht.term.app hu.term⟩
  obtain ⟨t', L, L', f', hg', hL, b1, b2, hr, rfl, rfl⟩ := h1.ok he
  obtain rfl := hg'.unique ht
  obtain ⟨F, hF2⟩ := Int.eq_ofNat_of_zero_le b1
  subst hF2
  rw [Int.toNat_natCast] at hr
  obtain ⟨u1, u2, u3⟩ := run_used ht.term hr
  have hL' := run_list ht.term.wf hL hr
  refine ⟨⟨fun h => u2.1 (by omega), fun h => by have := u2.2 h; omega⟩, by omega, by omega, ?_⟩
  intro en k i h2
  have hfu : ((F : Int) - ((F : Int) - (f' : Int))) = (f' : Int) := by omega
  rw [hfu] at h2
  have hrun : (t'.app u).run false L F = u.run false L' f' := by rw [Tm.app_run, hr]; rfl
  have key : ∀ r n e, RunSays (u.run false L' f') (f' : Int) r n e → ApplySays env two (listText L') (f' : Int) r n e := fun r n e hx => apply_mk hu hL' (by omega) (by omega) (by rw [Int.toNat_natCast]; exact hx)
  cases hr2 : u.run false L' f' with
  | err x =>
    rw [hr2] at hrun key
    obtain ⟨e1, e2, e3⟩ := h2.unique (key [] 0 x ⟨rfl, rfl, rfl⟩)
    obtain ⟨d1, d2, d3⟩ := h.unique (apply_mk (r := []) (n := 0) (e := x) hg hL (by omega) b2 (by rw [Int.toNat_natCast, hrun]; exact ⟨rfl, rfl, rfl⟩))
    exact ⟨fun _ => ⟨by rw [d3, e3], d1, d2⟩, fun hi => absurd (e3.symm.trans hi) (Tm.errs u false _ _ _ hr2).ne⟩
  | ok l2 f2' =>
    rw [hr2] at hrun key
    obtain ⟨e1, e2, e3⟩ := h2.unique (key _ _ _ ⟨rfl, rfl, rfl⟩)
    obtain ⟨d1, d2, d3⟩ := h.unique (apply_mk (r := listText l2) (n := (F : Int) - f2') (e := 0) hg hL (by omega) b2 (by rw [Int.toNat_natCast, hrun]; exact ⟨rfl, rfl, rfl⟩))
    exact ⟨fun hi => absurd e3 hi, fun _ => ⟨d3, by rw [d1, e1], by rw [d2, e2]; omega⟩⟩

/-- FUELLED. -/
theorem k_fuelled_err {env : Env} {s ls : List UInt8} {fuel n0 : Int} {L : List Rat} (hF : FactsSays env s n0 0) (hL : IsList ls L) (b1 : 0 ≤ fuel) (b2 : fuel ≤ 5000) {l : List UInt8} {n f : Int} (h : ApplySays env s ls fuel l n f) (hf : f ≠ 0) : l = [] ∧ n = 0 ∧ s ≠ [] := by
  obtain ⟨e1, e2⟩ := h.err hf
  refine ⟨e1, e2, fun hs => ?_⟩
  subst hs
  obtain ⟨t, hg, _⟩ := hF.good
  obtain rfl := Tm.text_nil hg.term.text
  have := apply_mk (r := ls) (n := fuel - fuel.toNat) (e := 0) hg hL b1 b2 (by rw [Tm.run_nil]; exact ⟨hL.text.symm, rfl, rfl⟩)
  exact hf (h.unique this).2.2
theorem k_fuelled_ok {env : Env} {s ls : List UInt8} {fuel : Int} {l : List UInt8} {n f : Int} (h : ApplySays env s ls fuel l n f) (hf : f = 0) :
    n ≤ fuel ∧ 0 ≤ n ∧ n ≤ 5000 ∧ (n = 0 ↔ s = []) ∧ (n = 0 → l = ls) ∧ (∀ {r : List UInt8} {m g : Int}, ApplySays env s ls n r m g → g = 0 ∧ r = l ∧ m = n) ∧ (n ≠ 0 → ∀ {r : List UInt8} {m g : Int}, ApplySays env s ls (n - 1) r m g → g = 10 ∧ r = [] ∧ m = 0) := by
  obtain ⟨t, L, L', f', hg, hL, b1, b2, hr, rfl, rfl⟩ := h.ok hf
  obtain ⟨F, hF2⟩ := Int.eq_ofNat_of_zero_le b1
  subst hF2
  rw [Int.toNat_natCast] at hr
  obtain ⟨u1, u2, u3⟩ := run_used hg.term hr
  obtain ⟨st, hst, hs⟩ := (Tm.paced t false).steps hr
  have hn : ((F : Int) - (f' : Int)) = (st : Int) := by omega
  rw [hn]
  have h0 : (st : Int) = 0 ↔ s = [] := by
    constructor
    · intro e
      by_cases hs0 : s = []
      · exact hs0
      · have := u2.2 hs0; omega
    · intro e
      by_cases hlt : f' < F
      · exact absurd e (u2.1 hlt)
      · omega
  refine ⟨by omega, by omega, by omega, h0, fun e => by rw [u3 (h0.1 e), hL.text], ?_, ?_⟩
  · intro r m g h2
    have hk := apply_mk (fuel := (st : Int)) (r := listText L') (n := (st : Int) - (0 : Nat)) (e := 0) hg hL (by omega) (by omega) (by
      rw [Int.toNat_natCast, hs st, if_pos (Nat.le_refl _), Nat.sub_self]
      exact ⟨rfl, rfl, rfl⟩)
    obtain ⟨e1, e2, e3⟩ := h2.unique hk
    exact ⟨e3, e1, by rw [e2]; omega⟩
  · intro hne r m g h2
    obtain ⟨k, hk0⟩ : ∃ k, st = k + 1 := ⟨st - 1, by omega⟩
    subst hk0
    have e0 : ((k + 1 : Nat) : Int) - 1 = (k : Int) := by omega
    rw [e0] at h2
    have hk := apply_mk (fuel := (k : Int)) (r := []) (n := 0) (e := 10) hg hL (by omega) (by omega) (by
      rw [Int.toNat_natCast, hs k, if_neg (by omega)]
      exact ⟨rfl, rfl, rfl⟩)
    obtain ⟨e1, e2, e3⟩ := h2.unique hk
    exact ⟨e3, e1, e2⟩
end T
end Go.Proofs.YtikiaijgcjjloaaGreatDoor

/- The statements without the document's answer, over the answers as relations: Powers, Opposites, Bound, Unders. No program in this text. -/
namespace Go.Proofs.YtikiaijgcjjloaaGreatDoor
namespace T
open Go.Lib M

/-! ### POWERS -/
theorem iter_succ' (g : List Rat → Nat → Res) : ∀ (k : Nat) (l : List Rat) (f : Nat), iter g (k + 1) l f = Res.then (iter g k l f) (T.stepped g)
  | 0, l, f => by
    rw [iter_zero, iter_succ]
    cases f with
    | zero => rfl
    | succ f =>
      show Res.then (g l f) (iter g 0) = g l f
      cases g l f with
      | err e => rfl
      | ok l1 f1 => show iter g 0 l1 f1 = _; rw [iter_zero]
  | k + 1, l, f => by
    rw [iter_succ]
    cases f with
    | zero => rfl
    | succ f =>
      show Res.then (g l f) (iter g (k + 1)) = Res.then (iter g (k + 1) l (f + 1)) (T.stepped g)
      rw [show iter g (k + 1) l (f + 1) = Res.then (g l f) (iter g k) from rfl, then_assoc]
      congr 1
      funext l1 f1
      exact iter_succ' g k l1 f1
theorem iter_err_mono (g : List Rat → Nat → Res) (l : List Rat) (f : Nat) (e : Int) (j : Nat) (h : iter g j l f = .err e) : ∀ d, iter g (j + d) l f = .err e
  | 0 => h
  | d + 1 => by rw [show j + (d + 1) = (j + d) + 1 by omega, iter_succ', iter_err_mono g l f e j h d]; rfl
theorem run_power (t : Tm) (k : Nat) (L : List Rat) (F : Nat) : (Tm.cons (.pow t k) .nil).run false L (F + 1) = iter (t.run false) k L F := by
  rw [run_one, Pt.run_pow_ok t k false (by simp; omega)]
  show iter (t.run (decide ((k : Int) < 0))) (k : Int).natAbs L F = _
  rw [decide_eq_false (show ¬ (k : Int) < 0 by omega)]
  rfl

/-! ### OPPOSITES -/
def noEnv : Env := fun _ => none
theorem Tm.snoc_run : ∀ (t : Tm) (p : Pt) (l : List Rat) (f : Nat), (t.snoc p).run false l f = Res.then (t.run false l f) (p.run false)
  | .nil, p, l, f => by rw [Tm.snoc, run_one, Tm.run_nil]; rfl
  | .cons q t, p, l, f => by
    rw [Tm.snoc, Tm.run_fwd, Tm.run_fwd, then_assoc]
    congr 1
    funext l f
    exact Tm.snoc_run t p l f
theorem Tm.snoc_wf : ∀ (t : Tm) (p : Pt), t.wf → p.wf → (t.snoc p).wf
  | .nil, p, _, hp => by rw [Tm.snoc, Tm.wf, Tm.wf]; exact ⟨hp, trivial⟩
  | .cons q t, p, ht, hp => by rw [Tm.wf] at ht; rw [Tm.snoc, Tm.wf]; exact ⟨ht.1, Tm.snoc_wf t p ht.2 hp⟩
theorem Tm.snoc_env (env : Env) : ∀ (t : Tm) (p : Pt), t.inEnv env → p.inEnv env → (t.snoc p).inEnv env
  | .nil, p, _, hp => by rw [Tm.snoc, Tm.inEnv, Tm.inEnv]; exact ⟨hp, trivial⟩
  | .cons q t, p, ht, hp => by rw [Tm.inEnv] at ht; rw [Tm.snoc, Tm.inEnv]; exact ⟨ht.1, Tm.snoc_env env t p ht.2 hp⟩
mutual
theorem Pt.opp_run : ∀ (p : Pt), p.back = true → p.inEnv noEnv → p.opp.run false = p.run true
  | .sp x, hb, _ => by
    rw [Pt.back] at hb
    rw [Pt.opp, Pt.run_sp, Pt.run_sp]
    congr 1
    funext l f
    cases ho : x.opp with
    | none => rw [ho] at hb; cases hb
    | some y =>
      show lift (y.work l) f = lift (x.workBack l) f
      unfold Sp.workBack
      rw [ho]
  | .pow t k, _, _ => by
    rw [Pt.opp, Pt.run_pow, Pt.run_pow, Int.natAbs_neg]
    rfl
  | .under s g, hb, he => by
    rw [Pt.back, Bool.and_eq_true] at hb
    rw [Pt.inEnv] at he
    have ih := Tm.opp_run g hb.1 he.2
    rw [Pt.opp]
    by_cases hp : s.picker = true
    · rw [Pt.run_under_pick _ _ _ hp, Pt.run_under_pick _ _ _ hp, ih]
    · have hp' : s.picker = false := by simpa using hp
      have h2 : (s.back && s.plain) = true := by have := hb.2; rw [hp'] at this; simpa using this
      rw [Pt.run_under_way _ _ _ hp' h2, Pt.run_under_way _ _ _ hp' h2, ih]
  | .name c b, _, he => by rw [Pt.inEnv] at he; cases he
theorem Tm.opp_run : ∀ (t : Tm), t.back = true → t.inEnv noEnv → t.opp.run false = t.run true
  | .nil, _, _ => by rw [Tm.opp, Tm.run_nil_fun, Tm.run_nil_fun]
  | .cons p t, hb, he => by
    rw [Tm.back, Bool.and_eq_true] at hb
    rw [Tm.inEnv] at he
    have i1 := Pt.opp_run p hb.1 he.1
    have i2 := Tm.opp_run t hb.2 he.2
    funext l f
    rw [Tm.opp, Tm.snoc_run, Tm.run_bwd, i1, i2]
end
mutual
theorem Pt.opp_wfB : ∀ (p : Pt), p.back = true → p.wf → p.opp.wf
  | .sp x, hb, hw => by
    rw [Pt.wf] at hw
    rw [Pt.back] at hb
    rw [Pt.opp, Pt.wf]
    cases ho : x.opp with
    | none => rw [ho] at hb; cases hb
    | some y => exact Sp.opp_wfK hw ho
  | .pow t k, _, hw => by
    rw [Pt.wf] at hw
    rw [Pt.opp, Pt.wf]
    exact ⟨hw.1, by omega, by omega⟩
  | .under s g, hb, hw => by
    rw [Pt.back, Bool.and_eq_true] at hb
    rw [Pt.wf] at hw
    rw [Pt.opp, Pt.wf]
    exact ⟨hw.1, Tm.opp_wfB g hb.1 hw.2⟩
  | .name c b, _, hw => by
    rw [Pt.opp, Pt.wf, Tm.wf, Tm.wf]
    exact ⟨⟨hw, trivial⟩, by omega, by omega⟩
theorem Tm.opp_wfB : ∀ (t : Tm), t.back = true → t.wf → t.opp.wf
  | .nil, _, _ => by rw [Tm.opp, Tm.wf]; trivial
  | .cons p t, hb, hw => by
    rw [Tm.back, Bool.and_eq_true] at hb
    rw [Tm.wf] at hw
    rw [Tm.opp]
    exact Tm.snoc_wf _ _ (Tm.opp_wfB t hb.2 hw.2) (Pt.opp_wfB p hb.1 hw.1)
end
mutual
theorem Pt.opp_env (env : Env) : ∀ (p : Pt), p.inEnv env → p.opp.inEnv env
  | .sp x, _ => by rw [Pt.opp, Pt.inEnv]; trivial
  | .pow t k, h => by rw [Pt.inEnv] at h; rw [Pt.opp, Pt.inEnv]; exact h
  | .under s g, h => by rw [Pt.inEnv] at h; rw [Pt.opp, Pt.inEnv]; exact ⟨h.1, Tm.opp_env env g h.2⟩
  | .name c b, h => by rw [Pt.opp, Pt.inEnv, Tm.inEnv, Tm.inEnv]; exact ⟨h, trivial⟩
theorem Tm.opp_env (env : Env) : ∀ (t : Tm), t.inEnv env → t.opp.inEnv env
  | .nil, _ => by rw [Tm.opp, Tm.inEnv]; trivial
  | .cons p t, h => by
    rw [Tm.inEnv] at h
    rw [Tm.opp]
    exact Tm.snoc_env env _ _ (Tm.opp_env env t h.2) (Pt.opp_env env p h.1)
end
theorem factsNum_even (t : Tm) : factsNum t % 2 = 0 ↔ t.back = false := by
  unfold factsNum
  cases t.back <;> cases t.picker <;> cases t.plain <;> decide
/-- The power of -1, two steps ahead of the way back. -/
theorem run_minus (t : Tm) (L : List Rat) (F : Nat) (hb : t.back = true) : (Tm.cons (.pow t (-1)) .nil).run false L (F + 2) = t.run true L F := by
  rw [run_one, Pt.run_pow]
  change (if (-1 : Int) < 0 ∧ t.back = false then Res.err 12 else iter (fun l f => t.run (decide ((-1 : Int) < 0)) l f) 1 L (F + 1)) = _
  rw [if_neg (by rw [hb]; simp), iter_one]
  rfl
theorem run_minus_no (t : Tm) (L : List Rat) (F : Nat) (hb : t.back = false) : (Tm.cons (.pow t (-1)) .nil).run false L (F + 1) = .err 12 := by
  rw [run_one, Pt.run_pow]
  change (if (-1 : Int) < 0 ∧ t.back = false then Res.err 12 else iter (fun l f => t.run (decide ((-1 : Int) < 0)) l f) 1 L F) = _
  rw [if_pos ⟨by decide, hb⟩]
theorem powText_len (s : List UInt8) : (powText s (-1)).length = s.length + 5 := by
  unfold powText; rw [itoa_m1]; simp
/-- OPPOSITES. -/
theorem k_opposites {s ls : List UInt8} {n fuel : Int} {L : List Rat} (hF : FactsSays noEnv s n 0) (hlen : s.length + 5 ≤ 120) (hL : IsList ls L) (b1 : 0 ≤ fuel) (b2 : fuel ≤ 4998) {u : List UInt8} {f : Int} (hO : OppSays noEnv s u f) {l : List UInt8} {k g : Int} (hA : ApplySays noEnv (powText s (-1)) ls (fuel + 2) l k g) :
    (n % 2 = 0 → f = 12 ∧ u = [] ∧ g = 12 ∧ l = [] ∧ k = 0) ∧ (n % 2 ≠ 0 → (f = 5 → u = []) ∧ (f ≠ 5 → f = 0 ∧ ∀ {r : List UInt8} {m h : Int}, ApplySays noEnv u ls fuel r m h → g = h ∧ r = l ∧ ((h = 0 ∧ k = m + 2) ∨ (h ≠ 0 ∧ k = 0 ∧ m = 0)))) := by
  obtain ⟨t, hg, rfl⟩ := hF.good
  have hgp : Good noEnv (powText s (-1)) (.cons (.pow t (-1)) .nil) := ⟨by rw [powText_len]; exact hlen, hg.term.pow (by omega) (by omega)⟩
  obtain ⟨F, hF2⟩ := Int.eq_ofNat_of_zero_le b1
  subst hF2
  have hfu : ((F : Int) + 2).toNat = F + 2 := by omega
  rcases hO with ⟨c, _⟩ | ⟨t', hg', hO⟩
  · exact (c.not_good hg).elim
  obtain rfl := hg'.unique hg
  refine ⟨fun hn => ?_, fun hn => ?_⟩
  · have hb := (factsNum_even t').1 hn
    obtain ⟨e1, e2, e3⟩ := hA.unique (apply_mk (r := []) (n := 0) (e := 12) hgp hL (by omega) (by omega) (by rw [hfu, run_minus_no t' L (F + 1) hb]; exact ⟨rfl, rfl, rfl⟩))
    rcases hO with ⟨_, h2, h3⟩ | ⟨h1, _⟩ | ⟨h1, _⟩
    · exact ⟨h3, h2, e3, e1, e2⟩
    · rw [hb] at h1; cases h1
    · rw [hb] at h1; cases h1
  · have hb : t'.back = true := by
      cases hh : t'.back with
      | true => rfl
      | false => exact absurd ((factsNum_even t').2 hh) hn
    rcases hO with ⟨h1, _⟩ | ⟨_, _, h3, h4⟩ | ⟨_, h2, rfl, rfl⟩
    · rw [hb] at h1; cases h1
    · exact ⟨fun _ => h3, fun h => absurd h4 h⟩
    · refine ⟨fun h => absurd h (by decide), fun _ => ⟨rfl, ?_⟩⟩
      intro r m h hR
      have hgo : Good noEnv t'.opp.text t'.opp := ⟨h2, Tm.opp_wfB t' hb hg.term.wf, Tm.opp_env noEnv t' hg.term.env, rfl⟩
      have hrun : t'.opp.run false L F = t'.run true L F := by rw [Tm.opp_run t' hb hg.term.env]
      cases hr : t'.run true L F with
      | ok l' f' =>
        obtain ⟨e1, e2, e3⟩ := hA.unique (apply_mk (r := listText l') (n := (F : Int) + 2 - f') (e := 0) hgp hL (by omega) (by omega) (by rw [hfu, run_minus t' L F hb, hr]; exact ⟨rfl, rfl, rfl⟩))
        obtain ⟨d1, d2, d3⟩ := hR.unique (apply_mk (r := listText l') (n := (F : Int) - f') (e := 0) hgo hL (by omega) (by omega) (by rw [Int.toNat_natCast, hrun, hr]; exact ⟨rfl, rfl, rfl⟩))
        exact ⟨by rw [e3, d3], by rw [e1, d1], Or.inl ⟨d3, by omega⟩⟩
      | err x =>
        obtain ⟨e1, e2, e3⟩ := hA.unique (apply_mk (r := []) (n := 0) (e := x) hgp hL (by omega) (by omega) (by rw [hfu, run_minus t' L F hb, hr]; exact ⟨rfl, rfl, rfl⟩))
        obtain ⟨d1, d2, d3⟩ := hR.unique (apply_mk (r := []) (n := 0) (e := x) hgo hL (by omega) (by omega) (by rw [Int.toNat_natCast, hrun, hr]; exact ⟨rfl, rfl, rfl⟩))
        exact ⟨by rw [e3, d3], by rw [e1, d1], Or.inr ⟨by rw [d3]; exact (Tm.errs t' true _ _ _ hr).ne, e2, d2⟩⟩
end T
end Go.Proofs.YtikiaijgcjjloaaGreatDoor

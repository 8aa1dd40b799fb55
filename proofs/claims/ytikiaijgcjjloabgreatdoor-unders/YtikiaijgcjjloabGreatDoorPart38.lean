import Derived.Test.YtikiaijgcjjloabGreatDoorPart37

/- The statements without the document's answer, over the answers as relations: Powers, Opposites, Bound, Unders. No program in this text. -/
namespace Go.Proofs.YtikiaijgcjjloabGreatDoor
namespace T
open Go.Lib M

/-! ### POWERS -/
theorem iter_succ' (g : List Rat → Nat → Res) : ∀ (k : Nat) (l : List Rat) (f : Nat), iter g (k + 1) l f = Res.then (iter g k l f) (T.stepped g)
  | 0, l, f => by
    rw [iter_zero, iter_succ]
    cases f with
    | zero => rfl
    | succ f =>
      show Res.then (g l f) (iter g 0) = g l f
      cases g l f with
      | err e => rfl
      | ok l1 f1 => show iter g 0 l1 f1 = _; rw [iter_zero]
  | k + 1, l, f => by
    rw [iter_succ]
    cases f with
    | zero => rfl
    | succ f =>
      show Res.then (g l f) (iter g (k + 1)) = Res.then (iter g (k + 1) l (f + 1)) (T.stepped g)
      rw [show iter g (k + 1) l (f + 1) = Res.then (g l f) (iter g k) from rfl, then_assoc]
      congr 1
      funext l1 f1
      exact iter_succ' g k l1 f1
theorem iter_err_mono (g : List Rat → Nat → Res) (l : List Rat) (f : Nat) (e : Int) (j : Nat) (h : iter g j l f = .err e) : ∀ d, iter g (j + d) l f = .err e
  | 0 => h
  | d + 1 => by rw [show j + (d + 1) = (j + d) + 1 by omega, iter_succ', iter_err_mono g l f e j h d]; rfl
theorem run_power (t : Tm) (k : Nat) (L : List Rat) (F : Nat) : (Tm.cons (.pow t k) .nil).run false L (F + 1) = iter (t.run false) k L F := by
  rw [run_one, Pt.run_pow_ok t k false (by simp; omega)]
  show iter (t.run (decide ((k : Int) < 0))) (k : Int).natAbs L F = _
  rw [decide_eq_false (show ¬ (k : Int) < 0 by omega)]
  rfl

/-! ### OPPOSITES -/
def noEnv : Env := fun _ => none
theorem Tm.snoc_run : ∀ (t : Tm) (p : Pt) (l : List Rat) (f : Nat), (t.snoc p).run false l f = Res.then (t.run false l f) (p.run false)
  | .nil, p, l, f => by rw [Tm.snoc, run_one, Tm.run_nil]; rfl
  | .cons q t, p, l, f => by
    rw [Tm.snoc, Tm.run_fwd, Tm.run_fwd, then_assoc]
    congr 1
    funext l f
    exact Tm.snoc_run t p l f
theorem Tm.snoc_wf : ∀ (t : Tm) (p : Pt), t.wf → p.wf → (t.snoc p).wf
  | .nil, p, _, hp => by rw [Tm.snoc, Tm.wf, Tm.wf]; exact ⟨hp, trivial⟩
  | .cons q t, p, ht, hp => by rw [Tm.wf] at ht; rw [Tm.snoc, Tm.wf]; exact ⟨ht.1, Tm.snoc_wf t p ht.2 hp⟩
theorem Tm.snoc_env (env : Env) : ∀ (t : Tm) (p : Pt), t.inEnv env → p.inEnv env → (t.snoc p).inEnv env
  | .nil, p, _, hp => by rw [Tm.snoc, Tm.inEnv, Tm.inEnv]; exact ⟨hp, trivial⟩
  | .cons q t, p, ht, hp => by rw [Tm.inEnv] at ht; rw [Tm.snoc, Tm.inEnv]; exact ⟨ht.1, Tm.snoc_env env t p ht.2 hp⟩
mutual
theorem Pt.opp_run : ∀ (p : Pt), p.back = true → p.inEnv noEnv → p.opp.run false = p.run true
  | .sp x, hb, _ => by
    rw [Pt.back] at hb
    rw [Pt.opp, Pt.run_sp, Pt.run_sp]
    congr 1
    funext l f
    cases ho : x.opp with
    | none => rw [ho] at hb; cases hb
    | some y =>
      show lift (y.work l) f = lift (x.workBack l) f
      unfold Sp.workBack
      rw [ho]
  | .pow t k, _, _ => by
    rw [Pt.opp, Pt.run_pow, Pt.run_pow, Int.natAbs_neg]
    rfl
  | .under s g, hb, he => by
    rw [Pt.back, Bool.and_eq_true] at hb
    rw [Pt.inEnv] at he
    have ih := Tm.opp_run g hb.1 he.2
    rw [Pt.opp]
    by_cases hp : s.picker = true
    · rw [Pt.run_under_pick _ _ _ hp, Pt.run_under_pick _ _ _ hp, ih]
    · have hp' : s.picker = false := by simpa using hp
      have h2 : (s.back && s.plain) = true := by have := hb.2; rw [hp'] at this; simpa using this
      rw [Pt.run_under_way _ _ _ hp' h2, Pt.run_under_way _ _ _ hp' h2, ih]
  | .name c b, _, he => by rw [Pt.inEnv] at he; cases he
theorem Tm.opp_run : ∀ (t : Tm), t.back = true → t.inEnv noEnv → t.opp.run false = t.run true
  | .nil, _, _ => by rw [Tm.opp, Tm.run_nil_fun, Tm.run_nil_fun]
  | .cons p t, hb, he => by
    rw [Tm.back, Bool.and_eq_true] at hb
    rw [Tm.inEnv] at he
    have i1 := Pt.opp_run p hb.1 he.1
    have i2 := Tm.opp_run t hb.2 he.2
    funext l f
    rw [Tm.opp, Tm.snoc_run, Tm.run_bwd, i1, i2]
end
mutual
theorem Pt.opp_wfB : ∀ (p : Pt), p.back = true → p.wf → p.opp.wf
  | .sp x, hb, hw => by
    rw [Pt.wf] at hw
    rw [Pt.back] at hb
    rw [Pt.opp, Pt.wf]
    cases ho : x.opp with
    | none => rw [ho] at hb; cases hb
    | some y => exact Sp.opp_wfK hw ho
  | .pow t k, _, hw => by
    rw [Pt.wf] at hw
    rw [Pt.opp, Pt.wf]
    exact ⟨hw.1, by omega, by omega⟩
  | .under s g, hb, hw => by
    rw [Pt.back, Bool.and_eq_true] at hb
    rw [Pt.wf] at hw
    rw [Pt.opp, Pt.wf]
    exact ⟨hw.1, Tm.opp_wfB g hb.1 hw.2⟩
  | .name c b, _, hw => by
    rw [Pt.opp, Pt.wf, Tm.wf, Tm.wf]
    exact ⟨⟨hw, trivial⟩, by omega, by omega⟩
theorem Tm.opp_wfB : ∀ (t : Tm), t.back = true → t.wf → t.opp.wf
  | .nil, _, _ => by rw [Tm.opp, Tm.wf]; trivial
  | .cons p t, hb, hw => by
    rw [Tm.back, Bool.and_eq_true] at hb
    rw [Tm.wf] at hw
    rw [Tm.opp]
    exact Tm.snoc_wf _ _ (Tm.opp_wfB t hb.2 hw.2) (Pt.opp_wfB p hb.1 hw.1)
end
mutual
theorem Pt.opp_env (env : Env) : ∀ (p : Pt), p.inEnv env → p.opp.inEnv env
  | .sp x, _ => by rw [Pt.opp, Pt.inEnv]; trivial
  | .pow t k, h => by rw [Pt.inEnv] at h; rw [Pt.opp, Pt.inEnv]; exact h
  | .under s g, h => by rw [Pt.inEnv] at h; rw [Pt.opp, Pt.inEnv]; exact ⟨h.1, Tm.opp_env env g h.2⟩
  | .name c b, h => by rw [Pt.opp, Pt.inEnv, Tm.inEnv, Tm.inEnv]; exact ⟨h, trivial⟩
theorem Tm.opp_env (env : Env) : ∀ (t : Tm), t.inEnv env → t.opp.inEnv env
  | .nil, _ => by rw [Tm.opp, Tm.inEnv]; trivial
  | .cons p t, h => by
    rw [Tm.inEnv] at h
    rw [Tm.opp]
    exact Tm.snoc_env env _ _ (Tm.opp_env env t h.2) (Pt.opp_env env p h.1)
end
theorem factsNum_even (t : Tm) : factsNum t % 2 = 0 ↔ t.back = false := by
  unfold factsNum
  cases t.back <;> cases t.picker <;> cases t.plain <;> decide
/-- The power of -1, two steps ahead of the way back. -/
theorem run_minus (t : Tm) (L : List Rat) (F : Nat) (hb : t.back = true) : (Tm.cons (.pow t (-1)) .nil).run false L (F + 2) = t.run true L F := by
  rw [run_one, Pt.run_pow]
  change (if (-1 : Int) < 0 ∧ t.back = false then Res.err 12 else iter (fun l f => t.run (decide ((-1 : Int) < 0)) l f) 1 L (F + 1)) = _
  rw [if_neg (by rw [hb]; simp), iter_one]
  rfl
theorem run_minus_no (t : Tm) (L : List Rat) (F : Nat) (hb : t.back = false) : (Tm.cons (.pow t (-1)) .nil).run false L (F + 1) = .err 12 := by
  rw [run_one, Pt.run_pow]
  change (if (-1 : Int) < 0 ∧ t.back = false then Res.err 12 else iter (fun l f => t.run (decide ((-1 : Int) < 0)) l f) 1 L F) = _
  rw [if_pos ⟨by decide, hb⟩]
theorem powText_len (s : List UInt8) : (powText s (-1)).length = s.length + 5 := by
  unfold powText; rw [itoa_m1]; simp
/-- OPPOSITES. -/
theorem k_opposites {s ls : List UInt8} {n fuel : Int} {L : List Rat} (hF : FactsSays noEnv s n 0) (hlen : s.length + 5 ≤ 120) (hL : IsList ls L) (b1 : 0 ≤ fuel) (b2 : fuel ≤ 4998) {u : List UInt8} {f : Int} (hO : OppSays noEnv s u f) {l : List UInt8} {k g : Int} (hA : ApplySays noEnv (powText s (-1)) ls (fuel + 2) l k g) :
    (n % 2 = 0 → f = 12 ∧ u = [] ∧ g = 12 ∧ l = [] ∧ k = 0) ∧ (n % 2 ≠ 0 → (f = 5 → u = []) ∧ (f ≠ 5 → f = 0 ∧ ∀ {r : List UInt8} {m h : Int}, ApplySays noEnv u ls fuel r m h → g = h ∧ r = l ∧ ((h = 0 ∧ k = m + 2) ∨ (h ≠ 0 ∧ k = 0 ∧ m = 0)))) := by
  obtain ⟨t, hg, rfl⟩ := hF.good
  have hgp : Good noEnv (powText s (-1)) (.cons (.pow t (-1)) .nil) := ⟨by rw [powText_len]; exact hlen, hg.term.pow (by omega) (by omega)⟩
  obtain ⟨F, hF2⟩ := Int.eq_ofNat_of_zero_le b1
  subst hF2
  have hfu : ((F : Int) + 2).toNat = F + 2 := by omega
  rcases hO with ⟨c, _⟩ | ⟨t', hg', hO⟩
  · exact (c.not_good hg).elim
  obtain rfl := hg'.unique hg
  refine ⟨fun hn => ?_, fun hn => ?_⟩
  · have hb := (factsNum_even t').1 hn
    obtain ⟨e1, e2, e3⟩ := hA.unique (apply_mk (r := []) (n := 0) (e := 12) hgp hL (by omega) (by omega) (by rw [hfu, run_minus_no t' L (F + 1) hb]; exact ⟨rfl, rfl, rfl⟩))
    rcases hO with ⟨_, h2, h3⟩ | ⟨h1, _⟩ | ⟨h1, _⟩
    · exact ⟨h3, h2, e3, e1, e2⟩
    · rw [hb] at h1; cases h1
    · rw [hb] at h1; cases h1
  · have hb : t'.back = true := by
      cases hh : t'.back with
      | true => rfl
      | false => exact absurd ((factsNum_even t').2 hh) hn
    rcases hO with ⟨h1, _⟩ | ⟨_, _, h3, h4⟩ | ⟨_, h2, rfl, rfl⟩
    · rw [hb] at h1; cases h1
    · exact ⟨fun _ => h3, fun h => absurd h4 h⟩
    · refine ⟨fun h => absurd h (by decide), fun _ => ⟨rfl, ?_⟩⟩
      intro r m h hR
      have hgo : Good noEnv t'.opp.text t'.opp := ⟨h2, Tm.opp_wfB t' hb hg.term.wf, Tm.opp_env noEnv t' hg.term.env, rfl⟩
      have hrun : t'.opp.run false L F = t'.run true L F := by rw [Tm.opp_run t' hb hg.term.env]
      cases hr : t'.run true L F with
      | ok l' f' =>
        obtain ⟨e1, e2, e3⟩ := hA.unique (apply_mk (r := listText l') (n := (F : Int) + 2 - f') (e := 0) hgp hL (by omega) (by omega) (by rw [hfu, run_minus t' L F hb, hr]; exact ⟨rfl, rfl, rfl⟩))
        obtain ⟨d1, d2, d3⟩ := hR.unique (apply_mk (r := listText l') (n := (F : Int) - f') (e := 0) hgo hL (by omega) (by omega) (by rw [Int.toNat_natCast, hrun, hr]; exact ⟨rfl, rfl, rfl⟩))
        exact ⟨by rw [e3, d3], by rw [e1, d1], Or.inl ⟨d3, by omega⟩⟩
      | err x =>
        obtain ⟨e1, e2, e3⟩ := hA.unique (apply_mk (r := []) (n := 0) (e := x) hgp hL (by omega) (by omega) (by rw [hfu, run_minus t' L F hb, hr]; exact ⟨rfl, rfl, rfl⟩))
        obtain ⟨d1, d2, d3⟩ := hR.unique (apply_mk (r := []) (n := 0) (e := x) hgo hL (by omega) (by omega) (by rw [Int.toNat_natCast, hrun, hr]; exact ⟨rfl, rfl, rfl⟩))
        exact ⟨by rw [e3, d3], by rw [e1, d1], Or.inr ⟨by rw [d3]; exact (Tm.errs t' true _ _ _ hr).ne, e2, d2⟩⟩
end T
end Go.Proofs.YtikiaijgcjjloabGreatDoor

/- The statements without the document's answer, over the answers as relations: Bound, Unders. No program in this text. -/
namespace Go.Proofs.YtikiaijgcjjloabGreatDoor
namespace T
open Go.Lib M

/-! ### BOUND -/
mutual
theorem Pt.env_any (env : Env) : ∀ (p : Pt), p.inEnv noEnv → p.inEnv env
  | .sp x, _ => by rw [Pt.inEnv]; trivial
  | .pow t k, h => by rw [Pt.inEnv] at *; exact Tm.env_any env t h
  | .under s g, h => by rw [Pt.inEnv] at *; exact ⟨Tm.env_any env s h.1, Tm.env_any env g h.2⟩
  | .name c b, h => by rw [Pt.inEnv] at h; cases h
theorem Tm.env_any (env : Env) : ∀ (t : Tm), t.inEnv noEnv → t.inEnv env
  | .nil, _ => by rw [Tm.inEnv]; trivial
  | .cons p t, h => by rw [Tm.inEnv] at *; exact ⟨Pt.env_any env p h.1, Tm.env_any env t h.2⟩
end
theorem Good.any {s : List UInt8} {t : Tm} (env : Env) (h : Good noEnv s t) : Good env s t := ⟨h.len, h.term.wf, Tm.env_any env t h.term.env, h.term.text⟩
theorem run_name1 (c : UInt8) (t : Tm) (L : List Rat) (F : Nat) : (Tm.cons (.name c t) .nil).run false L (F + 1) = t.run false L F := by
  rw [run_one, Pt.run_name]; rfl
theorem run_name2 (c d : UInt8) (t u : Tm) (L : List Rat) (F : Nat) : (Tm.cons (.name c (.cons (.name d t) u)) .nil).run false L (F + 2) = (t.app u).run false L F := by
  rw [run_name1, Tm.run_fwd, Tm.app_run, Pt.run_name]
  rfl
theorem Good.name {env : Env} {c : UInt8} {t : Tm} (hc : 65 ≤ c.toNat ∧ c.toNat ≤ 90) (hw : t.wf) (he : env c = some t) : Good env [c] (.cons (.name c t) .nil) := by
  refine ⟨by simp, ?_, ?_, ?_⟩
  · rw [Tm.wf, Pt.wf, Tm.wf]; exact ⟨⟨hc.1, hc.2, hw⟩, trivial⟩
  · rw [Tm.inEnv, Pt.inEnv, Tm.inEnv]; exact ⟨he, trivial⟩
  · rw [Tm.text, Pt.text, Tm.text]; rfl
theorem Good.name_then {env : Env} {c : UInt8} {t u : Tm} {s : List UInt8} (hc : 65 ≤ c.toNat ∧ c.toNat ≤ 90) (hw : t.wf) (he : env c = some t) (hu : IsTerm env s u) (hl : s.length + 1 ≤ 120) : Good env (c :: s) (.cons (.name c t) u) := by
  refine ⟨by simpa using hl, ?_, ?_, ?_⟩
  · rw [Tm.wf, Pt.wf]; exact ⟨⟨hc.1, hc.2, hw⟩, hu.wf⟩
  · rw [Tm.inEnv, Pt.inEnv]; exact ⟨he, hu.env⟩
  · rw [Tm.text, Pt.text, hu.text]; rfl
/-- Two terms, one of which runs as the other behind d steps. -/
theorem apply_behind {env : Env} {s s' ls : List UInt8} {t u : Tm} {L : List Rat} {F d : Nat} (hg : Good env s t) (hg' : Good env s' u) (hL : IsList ls L) (hF : F + d ≤ 5000) (hrun : t.run false L (F + d) = u.run false L F) {l want : List UInt8} {k n i h : Int} (hA : ApplySays env s ls ((F + d : Nat) : Int) l k i) (hB : ApplySays env s' ls (F : Int) want n h) : l = want ∧ i = h ∧ (h = 0 → k = n + d) ∧ (h ≠ 0 → k = 0 ∧ n = 0) := by
  cases hr : u.run false L F with
  | ok l' f' =>
    obtain ⟨e1, e2, e3⟩ := hA.unique (apply_mk (r := listText l') (n := ((F + d : Nat) : Int) - f') (e := 0) hg hL (by omega) (by omega) (by rw [Int.toNat_natCast, hrun, hr]; exact ⟨rfl, rfl, rfl⟩))
    obtain ⟨d1, d2, d3⟩ := hB.unique (apply_mk (r := listText l') (n := (F : Int) - f') (e := 0) hg' hL (by omega) (by omega) (by rw [Int.toNat_natCast, hr]; exact ⟨rfl, rfl, rfl⟩))
    exact ⟨by rw [e1, d1], by rw [e3, d3], fun _ => by omega, fun h => absurd d3 h⟩
  | err x =>
    obtain ⟨e1, e2, e3⟩ := hA.unique (apply_mk (r := []) (n := 0) (e := x) hg hL (by omega) (by omega) (by rw [Int.toNat_natCast, hrun, hr]; exact ⟨rfl, rfl, rfl⟩))
    obtain ⟨d1, d2, d3⟩ := hB.unique (apply_mk (r := []) (n := 0) (e := x) hg' hL (by omega) (by omega) (by rw [Int.toNat_natCast, hr]; exact ⟨rfl, rfl, rfl⟩))
    exact ⟨by rw [e1, d1], by rw [e3, d3], fun h => absurd (d3.symm.trans h) (Tm.errs u false _ _ _ hr).ne, fun _ => ⟨e2, d2⟩⟩
theorem define_ok {env : Env} {c : UInt8} {s : List UInt8} {t : Tm} (hc : 65 ≤ c.toNat ∧ c.toNat ≤ 90) (hg : Good env s t) {e : Int} {env' : Env} (h : DefineSays env [c] s e env') : e = 0 ∧ env' = env.put c t :=
  h.unique (Or.inr ⟨c, rfl, hc.1, hc.2, Or.inr ⟨t, hg, rfl, rfl⟩⟩)
theorem put_same (env : Env) (c : UInt8) (t : Tm) : env.put c t c = some t := by unfold Env.put; rw [if_pos rfl]
theorem put_other (env : Env) (c d : UInt8) (t : Tm) (h : d ≠ c) : env.put c t d = env d := by unfold Env.put; rw [if_neg h]
/-- BOUND: behind Define("A", one), Define("B", "A" two). -/
structure BoundSet (one two : List UInt8) (t1 t2 : Tm) (env : Env) : Prop where
  g1 : Good noEnv one t1
  g2 : Good noEnv two t2
  a : env 65 = some t1
  b : env 66 = some (.cons (.name 65 t1) t2)
theorem k_bound_defs {one two : List UInt8} {t1 t2 : Tm} (g1 : Good noEnv one t1) (g2 : Good noEnv two t2) (hl : one.length + two.length < 120) {a b : Int} {env1 env2 : Env} (h1 : DefineSays noEnv [65] one a env1) (h2 : DefineSays env1 [66] (65 :: two) b env2) : a = 0 ∧ b = 0 ∧ BoundSet one two t1 t2 env2 := by
  obtain ⟨ha, rfl⟩ := define_ok (by decide) g1 h1
  have hg := Good.name_then (env := noEnv.put 65 t1) (c := 65) (by decide) g1.term.wf (put_same _ _ _) (g2.any (noEnv.put 65 t1)).term (by omega)
  obtain ⟨hb, rfl⟩ := define_ok (by decide) hg h2
  exact ⟨ha, hb, g1, g2, by rw [put_other _ _ _ _ (by decide)]; exact put_same _ _ _, put_same _ _ _⟩
theorem BoundSet.tB_wf {one two : List UInt8} {t1 t2 : Tm} {env : Env} (h : BoundSet one two t1 t2 env) : (Tm.cons (.name 65 t1) t2).wf := by
  rw [Tm.wf, Pt.wf]; exact ⟨⟨by decide, by decide, h.g1.term.wf⟩, h.g2.term.wf⟩
theorem k_bound_B {one two ls : List UInt8} {t1 t2 : Tm} {L : List Rat} (g1 : Good noEnv one t1) (g2 : Good noEnv two t2) (hl : one.length + two.length < 120) (hL : IsList ls L) {env env' : Env} (hb : env' 66 = some (.cons (.name 65 t1) t2)) {l want : List UInt8} {k n i h : Int} (hA : ApplySays env' [66] ls 5000 l k i) (hB : ApplySays env (one ++ two) ls 4998 want n h) : l = want ∧ i = h ∧ (h = 0 → k = n + 2) ∧ (h ≠ 0 → k = 0 ∧ n = 0) := by
  have hw : (Tm.cons (.name 65 t1) t2).wf := by rw [Tm.wf, Pt.wf]; exact ⟨⟨by decide, by decide, g1.term.wf⟩, g2.term.wf⟩
  have gB := Good.name (env := env') (c := 66) (by decide) hw hb
  have gO : Good noEnv (one ++ two) (t1.app t2) := ⟨by simp; omega, g1.term.app g2.term⟩
  have hA' : ApplySays env' [66] ls ((4998 + 2 : Nat) : Int) l k i := hA
  have hB' : ApplySays env (one ++ two) ls ((4998 : Nat) : Int) want n h := hB
  cases hr : (t1.app t2).run false L 4998 with
  | ok l' f' =>
    obtain ⟨e1, e2, e3⟩ := hA'.unique (apply_mk (r := listText l') (n := ((4998 + 2 : Nat) : Int) - f') (e := 0) gB hL (by omega) (by omega) (by rw [Int.toNat_natCast, run_name2, hr]; exact ⟨rfl, rfl, rfl⟩))
    obtain ⟨d1, d2, d3⟩ := hB'.unique (apply_mk (r := listText l') (n := ((4998 : Nat) : Int) - f') (e := 0) (gO.any env) hL (by omega) (by omega) (by rw [Int.toNat_natCast, hr]; exact ⟨rfl, rfl, rfl⟩))
    exact ⟨by rw [e1, d1], by rw [e3, d3], fun _ => by omega, fun h => absurd d3 h⟩
  | err x =>
    obtain ⟨e1, e2, e3⟩ := hA'.unique (apply_mk (r := []) (n := 0) (e := x) gB hL (by omega) (by omega) (by rw [Int.toNat_natCast, run_name2, hr]; exact ⟨rfl, rfl, rfl⟩))
    obtain ⟨d1, d2, d3⟩ := hB'.unique (apply_mk (r := []) (n := 0) (e := x) (gO.any env) hL (by omega) (by omega) (by rw [Int.toNat_natCast, hr]; exact ⟨rfl, rfl, rfl⟩))
    exact ⟨by rw [e1, d1], by rw [e3, d3], fun h => absurd (d3.symm.trans h) (Tm.errs _ false _ _ _ hr).ne, fun _ => ⟨e2, d2⟩⟩
theorem k_bound_A {other ls : List UInt8} {t3 : Tm} {L : List Rat} (g3 : Good noEnv other t3) (hL : IsList ls L) {env : Env} (ha : env 65 = some t3) {l want : List UInt8} {k n i h : Int} (hA : ApplySays env [65] ls 5000 l k i) (hB : ApplySays env other ls 4999 want n h) : l = want ∧ i = h ∧ (h = 0 → k = n + 1) ∧ (h ≠ 0 → k = 0 ∧ n = 0) := by
  have gA := Good.name (env := env) (c := 65) (by decide) g3.term.wf ha
  exact apply_behind (F := 4999) (d := 1) gA (g3.any env) hL (by omega) (run_name1 _ _ _ _) hA hB

/-! ### UNDERS -/
def underText (s g : List UInt8) : List UInt8 := 91 :: (s ++ 58 :: (g ++ [93]))
theorem IsTerm.under {env : Env} {s g : List UInt8} {t u : Tm} (h : IsTerm env s t) (h' : IsTerm env g u) : IsTerm env (underText s g) (.cons (.under t u) .nil) := by
  refine ⟨?_, ?_, ?_⟩
  · rw [Tm.wf, Pt.wf, Tm.wf]; exact ⟨⟨h.wf, h'.wf⟩, trivial⟩
  · rw [Tm.inEnv, Pt.inEnv, Tm.inEnv]; exact ⟨⟨h.env, h'.env⟩, trivial⟩
  · rw [Tm.text, Pt.text, Tm.text, h.text, h'.text]; simp [underText]
theorem allPlaces_list {n : Nat} (hn : n ≤ 12) : IsList (listText (allPlaces n)) (allPlaces n) := by
  refine ⟨by simpa [allPlaces] using hn, ?_, rfl⟩
  intro x hx
  obtain ⟨i, hi, rfl⟩ := List.mem_map.1 hx
  have := List.mem_range.1 hi
  unfold small
  apply decide_eq_true
  simp
  omega
/-- What the statement Unders asks, in terms of lists. -/
theorem k_unders {s g ls : List UInt8} {t u : Tm} {L : List Rat} (gs : Good noEnv s t) (gg : Good noEnv g u) (hpk : t.picker = true) (hlen : s.length + g.length + 3 ≤ 120) (hL : IsList ls L) {r : List UInt8} {n e : Int} (h : ApplySays noEnv (underText s g) ls 5000 r n e) {at_ : List UInt8} {n1 e1 : Int} (h1 : ApplySays noEnv s (listText (allPlaces L.length)) 4999 at_ n1 e1) :
    (e1 ≠ 0 → r = [] ∧ n = 0 ∧ e = e1) ∧ (e1 = 0 → 0 ≤ n1 ∧ n1 ≤ 4999 ∧ ∃ idx : List Nat, idx.Nodup ∧ (∀ i ∈ idx, i < L.length) ∧ at_ = listText (picked idx (allPlaces L.length)) ∧
      (∀ {some_ : List UInt8} {n2 e2 : Int}, ApplySays noEnv s ls 4999 some_ n2 e2 → e2 = 0 ∧ n2 = n1 ∧ some_ = listText (picked idx L)) ∧
      (∀ {made : List UInt8} {n3 e3 : Int}, ApplySays noEnv g (listText (picked idx L)) (4999 - n1) made n3 e3 →
        (e3 ≠ 0 → r = [] ∧ n = 0 ∧ e = e3) ∧ (e3 = 0 → ∃ ys : List Rat, made = listText ys ∧ ((ys.length ≠ idx.length → r = [] ∧ n = 0 ∧ e = 11) ∧ (ys.length = idx.length → e = 0 ∧ n = 1 + n1 + n3 ∧ r = listText (layAt idx ys L) ∧ (∀ {again : List UInt8} {n4 e4 : Int}, ApplySays noEnv s r 5000 again n4 e4 → e4 = 0 ∧ again = made)))))) := by
  have hlenL := hL.len
  have gu : Good noEnv (underText s g) (.cons (.under t u) .nil) := ⟨by unfold underText; simp; omega, gs.term.under gg.term⟩
  have hall : (allPlaces L.length).length = L.length := by simp [allPlaces]
  have hP := allPlaces_list hlenL
  have hrun : (Tm.cons (.under t u) .nil).run false L 5000 = underRun (t.run false) (u.run false) L 4999 := by
    rw [run_one, Pt.run_under_pick _ _ _ hpk]; rfl
  have h' : ApplySays noEnv (underText s g) ls ((5000 : Nat) : Int) r n e := h
  have h1' : ApplySays noEnv s (listText (allPlaces L.length)) ((4999 : Nat) : Int) at_ n1 e1 := h1
  rcases Tm.natl t hpk gs.term.wf false L.length 4999 with ⟨x, hx⟩ | ⟨idx, f1, hnd, hlt, hidx⟩
  · obtain ⟨a1, a2, a3⟩ := h1'.unique (apply_mk (r := []) (n := 0) (e := x) gs hP (by omega) (by omega) (by rw [Int.toNat_natCast, hx _ hall]; exact ⟨rfl, rfl, rfl⟩))
    have hne := (Tm.errs t false _ _ _ (hx _ hall)).ne
    obtain ⟨b1, b2, b3⟩ := h'.unique (apply_mk (r := []) (n := 0) (e := x) gu hL (by omega) (by omega) (by rw [Int.toNat_natCast, hrun]; unfold underRun; rw [hx _ hall]; exact ⟨rfl, rfl, rfl⟩))
    exact ⟨fun _ => ⟨b1, b2, by rw [b3, a3]⟩, fun he => absurd (a3.symm.trans he) hne⟩
  · have hr0 := hidx _ hall
    obtain ⟨st, hst, hs⟩ := (Tm.paced t false).steps hr0
    obtain ⟨a1, a2, a3⟩ := h1'.unique (apply_mk (r := listText (picked idx (allPlaces L.length))) (n := ((4999 : Nat) : Int) - f1) (e := 0) gs hP (by omega) (by omega) (by rw [Int.toNat_natCast, hr0]; exact ⟨rfl, rfl, rfl⟩))
    refine ⟨fun he => absurd a3 he, fun _ => ⟨by omega, by omega, idx, hnd, hlt, a1, ?_, ?_⟩⟩
    · intro some_ n2 e2 h2
      have h2' : ApplySays noEnv s ls ((4999 : Nat) : Int) some_ n2 e2 := h2
      obtain ⟨b1, b2, b3⟩ := h2'.unique (apply_mk (r := listText (picked idx L)) (n := ((4999 : Nat) : Int) - f1) (e := 0) gs hL (by omega) (by omega) (by rw [Int.toNat_natCast, hidx L rfl]; exact ⟨rfl, rfl, rfl⟩))
      exact ⟨b3, by rw [b2, a2], b1⟩
    · intro made n3 e3 h3
      have hfu : (4999 : Int) - n1 = (f1 : Int) := by omega
      rw [hfu] at h3
      have hLi : IsList (listText (picked idx L)) (picked idx L) := run_list gs.term.wf hL (hidx L rfl)
      have hpl := places_all idx L.length hlt
      have hru : underRun (t.run false) (u.run false) L 4999 = Res.then (u.run false (picked idx L) f1) fun ys f2 => if ys.length = idx.length then .ok (layAt idx ys L) f2 else .err 11 := by
        unfold underRun
        rw [hr0, then_of_ok, hpl, picked_length]
      cases hr : u.run false (picked idx L) f1 with
      | err x =>
        obtain ⟨b1, b2, b3⟩ := h3.unique (apply_mk (r := []) (n := 0) (e := x) gg hLi (by omega) (by omega) (by rw [Int.toNat_natCast, hr]; exact ⟨rfl, rfl, rfl⟩))
        obtain ⟨c1, c2, c3⟩ := h'.unique (apply_mk (r := []) (n := 0) (e := x) gu hL (by omega) (by omega) (by rw [Int.toNat_natCast, hrun, hru, hr]; exact ⟨rfl, rfl, rfl⟩))
        exact ⟨fun _ => ⟨c1, c2, by rw [c3, b3]⟩, fun he => absurd (b3.symm.trans he) (Tm.errs u false _ _ _ hr).ne⟩
      | ok ys f2 =>
        obtain ⟨b1, b2, b3⟩ := h3.unique (apply_mk (r := listText ys) (n := (f1 : Int) - f2) (e := 0) gg hLi (by omega) (by omega) (by rw [Int.toNat_natCast, hr]; exact ⟨rfl, rfl, rfl⟩))
        refine ⟨fun he => absurd b3 he, fun _ => ⟨ys, b1, fun hne => ?_, fun heq => ?_⟩⟩
        · obtain ⟨c1, c2, c3⟩ := h'.unique (apply_mk (r := []) (n := 0) (e := 11) gu hL (by omega) (by omega) (by rw [Int.toNat_natCast, hrun, hru, hr, then_of_ok, if_neg hne]; exact ⟨rfl, rfl, rfl⟩))
          exact ⟨c1, c2, c3⟩
        · have hRok : (Tm.cons (.under t u) .nil).run false L 5000 = .ok (layAt idx ys L) f2 := by rw [hrun, hru, hr, then_of_ok, if_pos heq]
          obtain ⟨c1, c2, c3⟩ := h'.unique (apply_mk (r := listText (layAt idx ys L)) (n := ((5000 : Nat) : Int) - f2) (e := 0) gu hL (by omega) (by omega) (by rw [Int.toNat_natCast, hRok]; exact ⟨rfl, rfl, rfl⟩))
          refine ⟨c3, by omega, c1, ?_⟩
          intro again n4 e4 h4
          rw [c1] at h4
          have h4' : ApplySays noEnv s (listText (layAt idx ys L)) ((5000 : Nat) : Int) again n4 e4 := h4
          have hLr : IsList (listText (layAt idx ys L)) (layAt idx ys L) := run_list gu.term.wf hL hRok
          obtain ⟨st2, hst2, hs2⟩ := (Tm.paced t false).steps (hidx (layAt idx ys L) (layAt_length _ _ _))
          have h5 := hs2 5000
          rw [if_pos (by omega), picked_lay idx ys L hnd hlt heq] at h5
          obtain ⟨d1, d2, d3⟩ := h4'.unique (apply_mk (r := listText ys) (n := ((5000 : Nat) : Int) - ((5000 - st2 : Nat) : Int)) (e := 0) gs hLr (by omega) (by omega) (by rw [Int.toNat_natCast, h5]; exact ⟨rfl, rfl, rfl⟩))
          exact ⟨d3, by rw [d1, b1]⟩
end T
end Go.Proofs.YtikiaijgcjjloabGreatDoor

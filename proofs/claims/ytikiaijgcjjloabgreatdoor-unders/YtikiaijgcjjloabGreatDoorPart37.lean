import Derived.Test.YtikiaijgcjjloabGreatDoorPart6
import Derived.Test.YtikiaijgcjjloabGreatDoorPart29

/- The statements without the document's answer, over the answers as relations: Undo, Splits, Fuelled. No program in this text. -/
namespace Go.Proofs.YtikiaijgcjjloabGreatDoor
namespace T
open Go.Lib M

/-! ### The errors of running -/
def RunErr (e : Int) : Prop := e = 2 ∨ e = 3 ∨ e = 10 ∨ e = 11 ∨ e = 12
theorem RunErr.ne {e : Int} (h : RunErr e) : e ≠ 0 := by rcases h with rfl | rfl | rfl | rfl | rfl <;> decide
theorem lim_err {r : Rat} {e : Int} (h : lim r = .error e) : RunErr e := by
  unfold lim at h
  split at h
  · cases h
  · cases h; exact Or.inr (Or.inl rfl)
theorem each_err {f : Rat → Except Int Rat} (h : ∀ x e, f x = .error e → RunErr e) : ∀ {l : List Rat} {e : Int}, each f l = .error e → RunErr e
  | [], e, he => by cases he
  | x :: l, e, he => by
    rw [each] at he
    cases hg : f x with
    | error e' => rw [hg] at he; cases he; exact h x _ hg
    | ok y =>
      rw [hg] at he
      cases hr : each f l with
      | error e' => rw [hr] at he; cases he; exact each_err h hr
      | ok ys => rw [hr] at he; cases he
theorem scan_err {f : Rat → Rat → Except Int Rat} (h : ∀ a x e, f a x = .error e → RunErr e) : ∀ {l : List Rat} {a : Rat} {e : Int}, scan f a l = .error e → RunErr e
  | [], a, e, he => by cases he
  | x :: l, a, e, he => by
    rw [scan] at he
    cases hg : f a x with
    | error e' => rw [hg] at he; cases he; exact h a x _ hg
    | ok y =>
      rw [hg] at he
      cases hr : scan f y l with
      | error e' => simp only [hr] at he; cases he; exact scan_err h hr
      | ok ys => simp only [hr] at he; cases he
theorem diff_err {f : Rat → Rat → Except Int Rat} (h : ∀ a x e, f a x = .error e → RunErr e) : ∀ {l : List Rat} {a : Rat} {e : Int}, diff f a l = .error e → RunErr e
  | [], a, e, he => by cases he
  | x :: l, a, e, he => by
    rw [diff] at he
    cases hg : f a x with
    | error e' => rw [hg] at he; cases he; exact h a x _ hg
    | ok y =>
      rw [hg] at he
      cases hr : diff f x l with
      | error e' => simp only [hr] at he; cases he; exact diff_err h hr
      | ok ys => simp only [hr] at he; cases he
theorem headed_err {g : Rat → List Rat → Except Int (List Rat)} (h : ∀ a l e, g a l = .error e → RunErr e) : ∀ {l : List Rat} {e : Int}, headed g l = .error e → RunErr e
  | [], e, he => by cases he
  | x :: l, e, he => by
    rw [headed] at he
    cases hg : g x l with
    | error e' => rw [hg] at he; cases he; exact h x l _ hg
    | ok ys => rw [hg] at he; cases he
theorem err2 : RunErr 2 := Or.inl rfl
theorem err11 : RunErr 11 := Or.inr (Or.inr (Or.inr (Or.inl rfl)))
theorem err12 : RunErr 12 := Or.inr (Or.inr (Or.inr (Or.inr rfl)))
theorem err10 : RunErr 10 := Or.inr (Or.inr (Or.inl rfl))
theorem divE_err {a x : Rat} {e : Int} (h : divE a x = .error e) : RunErr e := by
  unfold divE at h
  split at h
  · cases h; exact err2
  · exact lim_err h
theorem Sp.err {x : Sp} {l : List Rat} {e : Int} (h : x.work l = .error e) : RunErr e := by
  cases x with
  | n => cases h
  | v =>
    refine each_err (fun x e hg => ?_) h
    split at hg
    · cases hg; exact err2
    · cases hg
  | a => cases h
  | q => exact each_err (fun x e hg => lim_err hg) h
  | w =>
    refine each_err (fun x e hg => ?_) h
    split at hg
    · cases hg
    · cases hg; exact err2
  | u =>
    refine each_err (fun x e hg => ?_) h
    split at hg
    · cases hg; exact err2
    · exact lim_err hg
  | r => cases h
  | s => exact headed_err (fun a l e hg => scan_err (f := addE) (fun a x e h => lim_err (show lim (a + x) = .error e from h)) hg) h
  | z => exact headed_err (fun a l e hg => diff_err (f := subE) (fun a x e h => lim_err (show lim (x - a) = .error e from h)) hg) h
  | p => exact headed_err (fun a l e hg => scan_err (f := mulE) (fun a x e h => lim_err (show lim (a * x) = .error e from h)) hg) h
  | m =>
    have h' : (if zeroAhead l then (Except.error 2 : Except Int (List Rat)) else headed (scan mulE) l) = .error e := h
    split at h'
    · cases h'; exact err2
    · exact headed_err (fun a l e hg => scan_err (f := mulE) (fun a x e h => lim_err (show lim (a * x) = .error e from h)) hg) h'
  | o => exact headed_err (fun a l e hg => diff_err (f := divE) (fun a x e h => divE_err h) hg) h
  | plus c => exact each_err (fun x e hg => lim_err hg) h
  | times c => exact each_err (fun x e hg => lim_err hg) h
  | set c => cases h
  | shift k => cases h
  | take k =>
    have h' : (if k ≤ l.length then (Except.ok (l.take k) : Except Int (List Rat)) else .error 11) = .error e := h
    split at h'
    · cases h'
    · cases h'; exact err11
  | drop k =>
    have h' : (if k ≤ l.length then (Except.ok (l.drop k) : Except Int (List Rat)) else .error 11) = .error e := h
    split at h'
    · cases h'
    · cases h'; exact err11
  | pick ps =>
    have h' : (if ps.all (· < l.length) then (Except.ok (picked ps l) : Except Int (List Rat)) else .error 11) = .error e := h
    split at h'
    · cases h'
    · cases h'; exact err11

/-- All errors of g are errors of running. -/
def ErrsOk (g : List Rat → Nat → Res) : Prop := ∀ l f e, g l f = .err e → RunErr e
theorem ErrsOk.then {g h : List Rat → Nat → Res} (hg : ErrsOk g) (hh : ErrsOk h) : ErrsOk (fun l f => Res.then (g l f) h) := by
  intro l f e he
  change Res.then (g l f) h = _ at he
  cases hr : g l f with
  | err e' => rw [hr] at he; cases he; exact hg _ _ _ hr
  | ok l1 f1 => rw [hr] at he; exact hh _ _ _ he
theorem ErrsOk.stepped {g : List Rat → Nat → Res} (hg : ErrsOk g) : ErrsOk (T.stepped g) := by
  intro l f e he
  cases f with
  | zero => cases he; exact err10
  | succ f => exact hg l f e he
theorem errs_id : ErrsOk (fun l f => .ok l f) := fun _ _ _ h => by cases h
theorem ErrsOk.iter {g : List Rat → Nat → Res} (hg : ErrsOk g) : ∀ k, ErrsOk (T.iter g k)
  | 0 => by rw [iter_zero_fun]; exact errs_id
  | k + 1 => by rw [iter_succ_fun]; exact (hg.then (ErrsOk.iter hg k)).stepped
mutual
theorem Pt.errs : ∀ (p : Pt) (b : Bool), ErrsOk (p.run b)
  | .sp x, b => by
    rw [Pt.run_sp]
    refine ErrsOk.stepped fun l f e he => ?_
    change lift (if b then x.workBack l else x.work l) f = _ at he
    cases b with
    | false =>
      change lift (x.work l) f = _ at he
      cases hr : x.work l with
      | error e' => rw [hr] at he; cases he; exact Sp.err hr
      | ok y => rw [hr] at he; cases he
    | true =>
      change lift (x.workBack l) f = _ at he
      unfold Sp.workBack at he
      cases ho : x.opp with
      | none => rw [ho] at he; cases he; exact err12
      | some y =>
        rw [ho] at he
        change lift (y.work l) f = _ at he
        cases hr : y.work l with
        | error e' => rw [hr] at he; cases he; exact Sp.err hr
        | ok z => rw [hr] at he; cases he
  | .pow t k, b => by
    by_cases hc : (if b then -k else k) < 0 ∧ t.back = false
    · rw [Pt.run_pow]
      refine ErrsOk.stepped fun l f e he => ?_
      change (if (if b then -k else k) < 0 ∧ t.back = false then Res.err 12 else _) = _ at he
      rw [if_pos hc] at he
      cases he
      exact err12
    · rw [Pt.run_pow_ok _ _ _ hc]
      exact ((Tm.errs t _).iter _).stepped
  | .under s g, b => by
    by_cases hp : s.picker = true
    · rw [Pt.run_under_pick _ _ _ hp]
      refine ErrsOk.stepped fun l f e he => ?_
      unfold underRun at he
      cases hr : s.run false (allPlaces l.length) f with
      | err e' => rw [hr] at he; cases he; exact Tm.errs s false _ _ _ hr
      | ok at_ f1 =>
        rw [hr, then_of_ok] at he
        cases hr2 : g.run b (picked (places at_) l) f1 with
        | err e' => rw [hr2] at he; cases he; exact Tm.errs g b _ _ _ hr2
        | ok ys f2 =>
          rw [hr2, then_of_ok] at he
          split at he
          · cases he
          · cases he; exact err11
    · by_cases hb : (s.back && s.plain) = true
      · rw [Pt.run_under_way _ _ _ (by simpa using hp) hb]
        exact ((Tm.errs s false).then ((Tm.errs g b).then (Tm.errs s true))).stepped
      · rw [Pt.run_fun]
        refine ErrsOk.stepped fun l f e he => ?_
        change (if s.picker then _ else if s.back && s.plain then _ else Res.err 12) = _ at he
        rw [if_neg hp, if_neg hb] at he
        cases he
        exact err12
  | .name c t, b => by
    rw [Pt.run_name]
    exact (Tm.errs t b).stepped
theorem Tm.errs : ∀ (t : Tm) (b : Bool), ErrsOk (t.run b)
  | .nil, b => by rw [Tm.run_nil_fun]; exact errs_id
  | .cons p t, false => by rw [Tm.run_fwd_fun]; exact (Pt.errs p false).then (Tm.errs t false)
  | .cons p t, true => by rw [Tm.run_bwd_fun]; exact (Tm.errs t true).then (Pt.errs p true)
end

/-! ### Answers taken apart -/
theorem ApplySays.err {env : Env} {s ls : List UInt8} {fuel : Int} {r : List UInt8} {n e : Int} (h : ApplySays env s ls fuel r n e) (he : e ≠ 0) : r = [] ∧ n = 0 := by
  rcases h with ⟨_, h2, h3⟩ | ⟨t, g, ⟨_, h2, h3, _⟩ | ⟨l, hl, ⟨_, h2, h3, _⟩ | ⟨_, _, h⟩⟩⟩
  · exact ⟨h2, h3⟩
  · exact ⟨h2, h3⟩
  · exact ⟨h2, h3⟩
  · cases hr : t.run false l fuel.toNat with
    | ok l' f => rw [hr] at h; exact absurd h.2.2 he
    | err x => rw [hr] at h; exact ⟨h.1, h.2.1⟩
theorem ApplySays.ok {env : Env} {s ls : List UInt8} {fuel : Int} {r : List UInt8} {n e : Int} (h : ApplySays env s ls fuel r n e) (he : e = 0) : ∃ t l l' f', Good env s t ∧ IsList ls l ∧ 0 ≤ fuel ∧ fuel ≤ 5000 ∧ t.run false l fuel.toNat = .ok l' f' ∧ r = listText l' ∧ n = fuel - f' := by
  subst he
  rcases h with ⟨h1, _, _⟩ | ⟨t, g, ⟨_, _, _, h1⟩ | ⟨l, hl, ⟨_, _, _, h1⟩ | ⟨h1, h2, h⟩⟩⟩
  · exact absurd rfl h1.ne
  · cases h1
  · cases h1
  · cases hr : t.run false l fuel.toNat with
    | ok l' f => rw [hr] at h; exact ⟨t, l, l', f, g, hl, h1, h2, hr, h.1, h.2.1⟩
    | err x => rw [hr] at h; exact absurd h.2.2.symm (Tm.errs t false _ _ _ hr).ne
theorem apply_mk {env : Env} {s ls : List UInt8} {fuel : Int} {t : Tm} {l : List Rat} {r : List UInt8} {n e : Int} (g : Good env s t) (hl : IsList ls l) (h1 : 0 ≤ fuel) (h2 : fuel ≤ 5000) (h : RunSays (t.run false l fuel.toNat) fuel r n e) : ApplySays env s ls fuel r n e :=
  Or.inr ⟨t, g, Or.inr ⟨l, hl, Or.inr ⟨h1, h2, h⟩⟩⟩
theorem FactsSays.good {env : Env} {s : List UInt8} {n : Int} (h : FactsSays env s n 0) : ∃ t, Good env s t ∧ n = factsNum t := by
  rcases h with ⟨h1, _⟩ | ⟨t, g, h1, _⟩
  · exact absurd rfl h1.ne
  · exact ⟨t, g, h1⟩
theorem run_list {t : Tm} (hw : t.wf) {ls : List UInt8} {l l' : List Rat} {f f' : Nat} {b : Bool} (hl : IsList ls l) (h : t.run b l f = .ok l' f') : IsList (listText l') l' := by
  obtain ⟨h1, h2⟩ := Tm.keeps t hw b l f l' f' h
  exact ⟨by have := hl.len; omega, h1 hl.small, rfl⟩

/-! ### A power around a term -/
def powText (s : List UInt8) (k : Int) : List UInt8 := 40 :: (s ++ 41 :: 94 :: itoa k)
theorem IsTerm.pow {env : Env} {s : List UInt8} {t : Tm} (h : IsTerm env s t) {k : Int} (h1 : -999 ≤ k) (h2 : k ≤ 999) : IsTerm env (powText s k) (.cons (.pow t k) .nil) := by
  refine ⟨?_, ?_, ?_⟩
  · rw [Tm.wf, Pt.wf, Tm.wf]; exact ⟨⟨h.wf, h1, h2⟩, trivial⟩
  · rw [Tm.inEnv, Pt.inEnv, Tm.inEnv]; exact ⟨h.env, trivial⟩
  · rw [Tm.text, Pt.text, Tm.text, h.text]; simp [powText]
theorem itoa_m1 : itoa (-1) = [45, 49] := by rw [M.itoa_neg _ (by omega)]; show 45 :: decDigits 1 = _; rw [dec_small 1 (by omega)]; rfl
theorem itoa_1 : itoa 1 = [49] := by rw [M.itoa_pos _ (by omega)]; show decDigits 1 = _; rw [dec_small 1 (by omega)]; rfl
theorem run_one (p : Pt) (l : List Rat) (f : Nat) : (Tm.cons p .nil).run false l f = p.run false l f := by
  rw [Tm.run_fwd]
  cases p.run false l f with
  | err e => rfl
  | ok l1 f1 => show Tm.nil.run false l1 f1 = _; rw [Tm.run_nil]
theorem iter_one (g : List Rat → Nat → Res) (l : List Rat) (f : Nat) : iter g 1 l (f + 1) = g l f := by
  rw [iter_succ]
  show Res.then (g l f) (iter g 0) = _
  cases g l f with
  | err e => rfl
  | ok l1 f1 => show iter g 0 l1 f1 = _; rw [iter_zero]
/-- UNDO. -/
theorem k_undo {env : Env} {s ls : List UInt8} {fuel n0 : Int} {l : List UInt8} {n f : Int} (hF : FactsSays env s n0 0) (h1 : ApplySays env (powText s (-1)) ls fuel l n f) (hf : f = 0) {back : List UInt8} {m g : Int} (h2 : ApplySays env (powText s 1) l fuel back m g) : g = 0 ∧ back = ls ∧ m = n ∧ 2 ≤ n := by
  obtain ⟨t, hg, _⟩ := hF.good
  obtain ⟨t', L, L', f', hg', hL, b1, b2, hr, rfl, rfl⟩ := h1.ok hf
  obtain rfl := (hg.term.pow (k := -1) (by omega) (by omega)).unique hg'.term
  obtain ⟨F, hF2⟩ := Int.eq_ofNat_of_zero_le b1
  subst hF2
  rw [Int.toNat_natCast, run_one, Pt.run_pow] at hr
  cases F with
  | zero => cases hr
  | succ F =>
    change (if (-1 : Int) < 0 ∧ t.back = false then Res.err 12 else iter (fun l f => t.run (decide ((-1 : Int) < 0)) l f) 1 L F) = _ at hr
    split at hr
    · cases hr
    · rename_i hb
      have hb' : t.back = true := by simpa using hb
      cases F with
      | zero => cases hr
      | succ F =>
        rw [iter_one] at hr
        obtain ⟨k1, k2⟩ := Tm.undo t hb' hg.term.wf hL.small hr
        obtain ⟨st, hst, _⟩ := (Tm.paced t true).steps hr
        have hg2 : Good env (powText s 1) (.cons (.pow t 1) .nil) := by
          refine ⟨?_, hg.term.pow (by omega) (by omega)⟩
          have := hg'.len
          unfold powText at *
          rw [itoa_m1] at this
          rw [itoa_1]
          simp at *
          omega
        have hL' : IsList (listText L') L' := run_list hg.term.wf hL hr
        have hrun : (Tm.cons (.pow t 1) .nil).run false L' (F + 1 + 1) = .ok L f' := by
          rw [run_one, Pt.run_pow]
          change (if (1 : Int) < 0 ∧ t.back = false then Res.err 12 else iter (fun l f => t.run (decide ((1 : Int) < 0)) l f) 1 L' (F + 1)) = _
          rw [if_neg (by simp), iter_one]
          exact k1
        have hA := apply_mk (fuel := ((F + 1 + 1 : Nat) : Int)) (r := ls) (n := ((F + 1 + 1 : Nat) : Int) - f') (e := 0) hg2 hL' (by omega) b2 (by
          rw [Int.toNat_natCast, hrun]
          exact ⟨hL.text.symm, rfl, rfl⟩)
        obtain ⟨e1, e2, e3⟩ := h2.unique hA
        exact ⟨e3, e1, e2, by omega⟩
end T
end Go.Proofs.YtikiaijgcjjloabGreatDoor

/- The statements without the document's answer, over the answers as relations: Splits, Fuelled, Powers. No program in this text. -/
namespace Go.Proofs.YtikiaijgcjjloabGreatDoor
namespace T
open Go.Lib M

/-! ### Terms one behind the other -/
def Tm.app : Tm → Tm → Tm
  | .nil, u => u
  | .cons p t, u => .cons p (t.app u)
theorem Tm.app_text : ∀ (t u : Tm), (t.app u).text = t.text ++ u.text
  | .nil, u => by rw [Tm.app, Tm.text]; rfl
  | .cons p t, u => by rw [Tm.app, Tm.text, Tm.app_text t u, Tm.text, List.append_assoc]
theorem Tm.app_wf : ∀ (t u : Tm), t.wf → u.wf → (t.app u).wf
  | .nil, u, _, hu => hu
  | .cons p t, u, ht, hu => by rw [Tm.app, Tm.wf]; rw [Tm.wf] at ht; exact ⟨ht.1, Tm.app_wf t u ht.2 hu⟩
theorem Tm.app_env (env : Env) : ∀ (t u : Tm), t.inEnv env → u.inEnv env → (t.app u).inEnv env
  | .nil, u, _, hu => hu
  | .cons p t, u, ht, hu => by rw [Tm.app, Tm.inEnv]; rw [Tm.inEnv] at ht; exact ⟨ht.1, Tm.app_env env t u ht.2 hu⟩
theorem then_assoc (r : Res) (g h : List Rat → Nat → Res) : Res.then (Res.then r g) h = Res.then r (fun l f => Res.then (g l f) h) := by cases r <;> rfl
theorem Tm.app_run : ∀ (t u : Tm) (l : List Rat) (f : Nat), (t.app u).run false l f = Res.then (t.run false l f) (u.run false)
  | .nil, u, l, f => by rw [Tm.app, Tm.run_nil]; rfl
  | .cons p t, u, l, f => by
    rw [Tm.app, Tm.run_fwd, Tm.run_fwd, then_assoc]
    congr 1
    funext l f
    exact Tm.app_run t u l f
theorem IsTerm.app {env : Env} {s s' : List UInt8} {t u : Tm} (h : IsTerm env s t) (h' : IsTerm env s' u) : IsTerm env (s ++ s') (t.app u) :=
  ⟨Tm.app_wf t u h.wf h'.wf, Tm.app_env env t u h.env h'.env, by rw [Tm.app_text, h.text, h'.text]⟩

/-! ### Only the empty term takes no step -/
theorem Pt.steps_pos (p : Pt) (b : Bool) {l l' : List Rat} {n : Nat} (h : Steps (p.run b) l l' n) : 1 ≤ n := by
  rw [Pt.run_fun] at h
  obtain ⟨m, rfl, _⟩ := h.unstep
  omega
theorem Tm.steps_pos {p : Pt} {t : Tm} {l l' : List Rat} {n : Nat} (h : Steps ((Tm.cons p t).run false) l l' n) : 1 ≤ n := by
  rw [Tm.run_fwd_fun] at h
  obtain ⟨l1, a, b, h1, _, rfl⟩ := h.split (Pt.paced p false) (Tm.paced t false)
  have := Pt.steps_pos p false h1
  omega
theorem Tm.text_nil {t : Tm} (h : t.text = []) : t = .nil := by
  cases t with
  | nil => rfl
  | cons p t =>
    rw [Tm.text] at h
    obtain ⟨l, e⟩ := Pt.text_first p
    rw [e] at h
    cases h
theorem run_used {t : Tm} {s : List UInt8} {env : Env} (ht : IsTerm env s t) {l l' : List Rat} {f f' : Nat} (h : t.run false l f = .ok l' f') : f' ≤ f ∧ (f' < f ↔ s ≠ []) ∧ (s = [] → l' = l) := by
  obtain ⟨n, hn, hs⟩ := (Tm.paced t false).steps h
  cases t with
  | nil =>
    rw [Tm.run_nil] at h
    cases h
    have : s = [] := by rw [← ht.text, Tm.text]
    exact ⟨Nat.le_refl _, ⟨fun h => absurd h (by omega), fun h => absurd this h⟩, fun _ => rfl⟩
  | cons p t =>
    have h1 := Tm.steps_pos hs
    have hne : s ≠ [] := fun e => by
      have := Tm.text_nil (ht.text.trans e)
      cases this
    exact ⟨by omega, ⟨fun _ => hne, fun _ => by omega⟩, fun e => absurd e hne⟩

/-- SPLITS. -/
theorem k_splits_long {env : Env} {one two ls : List UInt8} {fuel : Int} {l : List UInt8} {n g : Int} (h : ApplySays env (one ++ two) ls fuel l n g) (hlen : 120 < one.length + two.length) : g = 5 ∧ l = [] ∧ n = 0 := by
  have hc : Check env (one ++ two) 5 := Or.inl ⟨by simpa using hlen, rfl⟩
  obtain ⟨h1, h2, h3⟩ := h.unique (Or.inl ⟨hc, rfl, rfl⟩)
  exact ⟨h3, h1, h2⟩
theorem k_splits_one {env : Env} {one two ls : List UInt8} {fuel n1 n2 : Int} (f1 : FactsSays env one n1 0) (f2 : FactsSays env two n2 0) (hlen : one.length + two.length ≤ 120) {l : List UInt8} {n g : Int} (h : ApplySays env (one ++ two) ls fuel l n g) {mid : List UInt8} {m hh : Int} (h1 : ApplySays env one ls fuel mid m hh) (he : hh ≠ 0) : g = hh ∧ l = [] ∧ n = 0 := by
  obtain ⟨t, ht, _⟩ := f1.good
  obtain ⟨u, hu, _⟩ := f2.good
  have hg : Good env (one ++ two) (t.app u) := ⟨by simpa using hlen, ht.term.app hu.term⟩
  have key : ApplySays env (one ++ two) ls fuel [] 0 hh := by
    rcases h1 with ⟨c, _⟩ | ⟨t', g', h1⟩
    · exact (c.not_good ht).elim
    · obtain rfl := g'.unique ht
      refine Or.inr ⟨_, hg, ?_⟩
      rcases h1 with ⟨a1, _, _, a4⟩ | ⟨L, hL, h1⟩
      · exact Or.inl ⟨a1, rfl, rfl, a4⟩
      · refine Or.inr ⟨L, hL, ?_⟩
        rcases h1 with ⟨a1, _, _, a4⟩ | ⟨a1, a2, a3⟩
        · exact Or.inl ⟨a1, rfl, rfl, a4⟩
        · refine Or.inr ⟨a1, a2, ?_⟩
          rw [Tm.app_run]
          cases hr : t'.run false L fuel.toNat with
          | ok l' f' => rw [hr] at a3; exact absurd a3.2.2 he
          | err x => rw [hr] at a3; exact ⟨rfl, rfl, a3.2.2⟩
  obtain ⟨e1, e2, e3⟩ := h.unique key
  exact ⟨e3, e1, e2⟩
theorem k_splits_two {env : Env} {one two ls : List UInt8} {fuel n1 n2 : Int} (f1 : FactsSays env one n1 0) (f2 : FactsSays env two n2 0) (hlen : one.length + two.length ≤ 120) {l : List UInt8} {n g : Int} (h : ApplySays env (one ++ two) ls fuel l n g) {mid : List UInt8} {m hh : Int} (h1 : ApplySays env one ls fuel mid m hh) (he : hh = 0) :
    (0 < m ↔ one ≠ []) ∧ 0 ≤ m ∧ m ≤ fuel ∧ ∀ {en : List UInt8} {k i : Int}, ApplySays env two mid (fuel - m) en k i → (i ≠ 0 → g = i ∧ l = [] ∧ n = 0) ∧ (i = 0 → g = 0 ∧ l = en ∧ n = m + k) := by
  obtain ⟨t, ht, _⟩ := f1.good
  obtain ⟨u, hu, _⟩ := f2.good
  have hg : Good env (one ++ two) (t.app u) := ⟨by simpa using hlen, ht.term.app hu.term⟩
  obtain ⟨t', L, L', f', hg', hL, b1, b2, hr, rfl, rfl⟩ := h1.ok he
  obtain rfl := hg'.unique ht
  obtain ⟨F, hF2⟩ := Int.eq_ofNat_of_zero_le b1
  subst hF2
  rw [Int.toNat_natCast] at hr
  obtain ⟨u1, u2, u3⟩ := run_used ht.term hr
  have hL' := run_list ht.term.wf hL hr
  refine ⟨⟨fun h => u2.1 (by omega), fun h => by have := u2.2 h; omega⟩, by omega, by omega, ?_⟩
  intro en k i h2
  have hfu : ((F : Int) - ((F : Int) - (f' : Int))) = (f' : Int) := by omega
  rw [hfu] at h2
  have hrun : (t'.app u).run false L F = u.run false L' f' := by rw [Tm.app_run, hr]; rfl
  have key : ∀ r n e, RunSays (u.run false L' f') (f' : Int) r n e → ApplySays env two (listText L') (f' : Int) r n e := fun r n e hx => apply_mk hu hL' (by omega) (by omega) (by rw [Int.toNat_natCast]; exact hx)
  cases hr2 : u.run false L' f' with
  | err x =>
    rw [hr2] at hrun key
    obtain ⟨e1, e2, e3⟩ := h2.unique (key [] 0 x ⟨rfl, rfl, rfl⟩)
    obtain ⟨d1, d2, d3⟩ := h.unique (apply_mk (r := []) (n := 0) (e := x) hg hL (by omega) b2 (by rw [Int.toNat_natCast, hrun]; exact ⟨rfl, rfl, rfl⟩))
    exact ⟨fun _ => ⟨by rw [d3, e3], d1, d2⟩, fun hi => absurd (e3.symm.trans hi) (Tm.errs u false _ _ _ hr2).ne⟩
  | ok l2 f2' =>
    rw [hr2] at hrun key
    obtain ⟨e1, e2, e3⟩ := h2.unique (key _ _ _ ⟨rfl, rfl, rfl⟩)
    obtain ⟨d1, d2, d3⟩ := h.unique (apply_mk (r := listText l2) (n := (F : Int) - f2') (e := 0) hg hL (by omega) b2 (by rw [Int.toNat_natCast, hrun]; exact ⟨rfl, rfl, rfl⟩))
    exact ⟨fun hi => absurd e3 hi, fun _ => ⟨d3, by rw [d1, e1], by rw [d2, e2]; omega⟩⟩

/-- FUELLED. -/
theorem k_fuelled_err {env : Env} {s ls : List UInt8} {fuel n0 : Int} {L : List Rat} (hF : FactsSays env s n0 0) (hL : IsList ls L) (b1 : 0 ≤ fuel) (b2 : fuel ≤ 5000) {l : List UInt8} {n f : Int} (h : ApplySays env s ls fuel l n f) (hf : f ≠ 0) : l = [] ∧ n = 0 ∧ s ≠ [] := by
  obtain ⟨e1, e2⟩ := h.err hf
  refine ⟨e1, e2, fun hs => ?_⟩
  subst hs
  obtain ⟨t, hg, _⟩ := hF.good
  obtain rfl := Tm.text_nil hg.term.text
  have := apply_mk (r := ls) (n := fuel - fuel.toNat) (e := 0) hg hL b1 b2 (by rw [Tm.run_nil]; exact ⟨hL.text.symm, rfl, rfl⟩)
  exact hf (h.unique this).2.2
theorem k_fuelled_ok {env : Env} {s ls : List UInt8} {fuel : Int} {l : List UInt8} {n f : Int} (h : ApplySays env s ls fuel l n f) (hf : f = 0) :
    n ≤ fuel ∧ 0 ≤ n ∧ n ≤ 5000 ∧ (n = 0 ↔ s = []) ∧ (n = 0 → l = ls) ∧ (∀ {r : List UInt8} {m g : Int}, ApplySays env s ls n r m g → g = 0 ∧ r = l ∧ m = n) ∧ (n ≠ 0 → ∀ {r : List UInt8} {m g : Int}, ApplySays env s ls (n - 1) r m g → g = 10 ∧ r = [] ∧ m = 0) := by
  obtain ⟨t, L, L', f', hg, hL, b1, b2, hr, rfl, rfl⟩ := h.ok hf
  obtain ⟨F, hF2⟩ := Int.eq_ofNat_of_zero_le b1
  subst hF2
  rw [Int.toNat_natCast] at hr
  obtain ⟨u1, u2, u3⟩ := run_used hg.term hr
  obtain ⟨st, hst, hs⟩ := (Tm.paced t false).steps hr
  have hn : ((F : Int) - (f' : Int)) = (st : Int) := by omega
  rw [hn]
  have h0 : (st : Int) = 0 ↔ s = [] := by
    constructor
    · intro e
      by_cases hs0 : s = []
      · exact hs0
      · have := u2.2 hs0; omega
    · intro e
      by_cases hlt : f' < F
      · exact absurd e (u2.1 hlt)
      · omega
  refine ⟨by omega, by omega, by omega, h0, fun e => by rw [u3 (h0.1 e), hL.text], ?_, ?_⟩
  · intro r m g h2
    have hk := apply_mk (fuel := (st : Int)) (r := listText L') (n := (st : Int) - (0 : Nat)) (e := 0) hg hL (by omega) (by omega) (by
      rw [Int.toNat_natCast, hs st, if_pos (Nat.le_refl _), Nat.sub_self]
      exact ⟨rfl, rfl, rfl⟩)
    obtain ⟨e1, e2, e3⟩ := h2.unique hk
    exact ⟨e3, e1, by rw [e2]; omega⟩
  · intro hne r m g h2
    obtain ⟨k, hk0⟩ : ∃ k, st = k + 1 := ⟨st - 1, by omega⟩
    subst hk0
    have e0 : ((k + 1 : Nat) : Int) - 1 = (k : Int) := by omega
    rw [e0] at h2
    have hk := apply_mk (fuel := (k : Int)) (r := []) (n := 0) (e := 10) hg hL (by omega) (by omega) (by
      rw [Int.toNat_natCast, hs k, if_neg (by omega)]
      exact ⟨rfl, rfl, rfl⟩)
    obtain ⟨e1, e2, e3⟩ := h2.unique hk
    exact ⟨e3, e1, e2⟩
end T
end Go.Proofs.YtikiaijgcjjloabGreatDoor

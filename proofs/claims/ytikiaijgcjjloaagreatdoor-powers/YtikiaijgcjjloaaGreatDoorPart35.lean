import Derived.Test.YtikiaijgcjjloaaGreatDoorPart34
import Derived.Test.YtikiaijgcjjloaaGreatDoorPart33
import Derived.Test.YtikiaijgcjjloaaGreatDoorPart8
import Derived.Deep.CutRange
import Derived.Deep.DeepCutAuto

/- The statements without the document's answer, over the answers as relations: Bound, Unders. No program in this text. -/
namespace Go.Proofs.YtikiaijgcjjloaaGreatDoor
namespace T
open Go.Lib M

/-! ### BOUND -/
mutual
theorem Pt.env_any (env : Env) : ∀ (p : Pt), p.inEnv noEnv → p.inEnv env
  | .sp x, _ => by rw [Pt.inEnv]; trivial
  | .pow t k, h => by rw [Pt.inEnv] at *; exact Tm.env_any env t h
  | .under s g, h => by rw [Pt.inEnv] at *; exact ⟨Tm.env_any env s h.1, Tm.env_any env g h.2⟩
  | .name c b, h => by rw [Pt.inEnv] at h; cases h
theorem Tm.env_any (env : Env) : ∀ (t : Tm), t.inEnv noEnv → t.inEnv env
  | .nil, _ => by rw [Tm.inEnv]; trivial
  | .cons p t, h => by rw [Tm.inEnv] at *; exact ⟨Pt.env_any env p h.1, Tm.env_any env t h.2⟩
end
theorem Good.any {s : List UInt8} {t : Tm} (env : Env) (h : Good noEnv s t) : Good env s t := ⟨h.len, h.term.wf, Tm.env_any env t h.term.env, h.term.text⟩
theorem run_name1 (c : UInt8) (t : Tm) (L : List Rat) (F : Nat) : (Tm.cons (.name c t) .nil).run false L (F + 1) = t.run false L F := by
  rw [run_one, Pt.run_name]; rfl
theorem run_name2 (c d : UInt8) (t u : Tm) (L : List Rat) (F : Nat) : (Tm.cons (.name c (.cons (.name d t) u)) .nil).run false L (F + 2) = (t.app u).run false L F := by
  rw [run_name1, Tm.run_fwd, Tm.app_run, Pt.run_name]
  rfl
theorem Good.name {env : Env} {c : UInt8} {t : Tm} (hc : 65 ≤ c.toNat ∧ c.toNat ≤ 90) (hw : t.wf) (he : env c = some t) : Good env [c] (.cons (.name c t) .nil) := by
  refine ⟨by simp, ?_, ?_, ?_⟩
  · rw [Tm.wf, Pt.wf, Tm.wf]; exact ⟨⟨hc.1, hc.2, hw⟩, trivial⟩
  · rw [Tm.inEnv, Pt.inEnv, Tm.inEnv]; exact ⟨he, trivial⟩
  · rw [Tm.text, Pt.text, Tm.text]; rfl
theorem Good.name_then {env : Env} {c : UInt8} {t u : Tm} {s : List UInt8} (hc : 65 ≤ c.toNat ∧ c.toNat ≤ 90) (hw : t.wf) (he : env c = some t) (hu : IsTerm env s u) (hl : s.length + 1 ≤ 120) : Good env (c :: s) (.cons (.name c t) u) := by
  refine ⟨by simpa using hl, ?_, ?_, ?_⟩
  · rw [Tm.wf, Pt.wf]; exact ⟨⟨hc.1, hc.2, hw⟩, hu.wf⟩
  · rw [Tm.inEnv, Pt.inEnv]; exact ⟨he, hu.env⟩
  · rw [Tm.text, Pt.text, hu.text]; rfl
/-- Two terms, one of which runs as the other behind d steps. -/
theorem apply_behind {env : Env} {s s' ls : List UInt8} {t u : Tm} {L : List Rat} {F d : Nat} (hg : Good env s t) (hg' : Good env s' u) (hL : IsList ls L) (hF : F + d ≤ 5000) (hrun : t.run false L (F + d) = u.run false L F) {l want : List UInt8} {k n i h : Int} (hA : ApplySays env s ls ((F + d : Nat) : Int) l k i) (hB : ApplySays env s' ls (F : Int) want n h) : l = want ∧ i = h ∧ (h = 0 → k = n + d) ∧ (h ≠ 0 → k = 0 ∧ n = 0) := by
  cases hr : u.run false L F with
  | ok l' f' =>
    obtain ⟨e1, e2, e3⟩ := hA.unique (apply_mk (r := listText l') (n := ((F + d : Nat) : Int) - f') (e := 0) hg hL (by omega) (by omega) (by rw [Int.toNat_natCast, hrun, hr]; exact ⟨rfl, rfl, rfl⟩))
    obtain ⟨d1, d2, d3⟩ := hB.unique (apply_mk (r := listText l') (n := (F : Int) - f') (e := 0) hg' hL (by omega) (by omega) (by rw [Int.toNat_natCast, hr]; exact ⟨rfl, rfl, rfl⟩))
    exact ⟨by rw [e1, d1], by rw [e3, d3], fun _ => by omega, fun h => absurd d3 h⟩
  | err x =>
    obtain ⟨e1, e2, e3⟩ := hA.unique (apply_mk (r := []) (n := 0) (e := x) hg hL (by omega) (by omega) (by rw [Int.toNat_natCast, hrun, hr]; exact ⟨rfl, rfl, rfl⟩))
    obtain ⟨d1, d2, d3⟩ := hB.unique (apply_mk (r := []) (n := 0) (e := x) hg' hL (by omega) (by omega) (by rw [Int.toNat_natCast, hr]; exact ⟨rfl, rfl, rfl⟩))
    exact ⟨by rw [e1, d1], by rw [e3, d3], fun h => absurd (d3.symm.trans h) (Tm.errs u false _ _ _ hr).ne, fun _ => ⟨e2, d2⟩⟩
theorem define_ok {env : Env} {c : UInt8} {s : List UInt8} {t : Tm} (hc : 65 ≤ c.toNat ∧ c.toNat ≤ 90) (hg : Good env s t) {e : Int} {env' : Env} (h : DefineSays env [c] s e env') : e = 0 ∧ env' = env.put c t :=
  h.unique (Or.inr ⟨c, rfl, hc.1, hc.2, Or.inr ⟨t, hg, rfl, rfl⟩⟩)
theorem put_same (env : Env) (c : UInt8) (t : Tm) : env.put c t c = some t := by unfold Env.put; rw [if_pos rfl]
theorem put_other (env : Env) (c d : UInt8) (t : Tm) (h : d ≠ c) : env.put c t d = env d := by unfold Env.put; rw [if_neg h]
/-- BOUND: behind Define("A", one), Define("B", "A" two). -/
structure BoundSet (one two : List UInt8) (t1 t2 : Tm) (env : Env) : Prop where
  g1 : Good noEnv one t1
  g2 : Good noEnv two t2
  a : env 65 = some t1
  b : env 66 = some (.cons (.name 65 t1) t2)
theorem k_bound_defs {one two : List UInt8} {t1 t2 : Tm} (g1 : Good noEnv one t1) (g2 : Good noEnv two t2) (hl : one.length + two.length < 120) {a b : Int} {env1 env2 : Env} (h1 : DefineSays noEnv [65] one a env1) (h2 : DefineSays env1 [66] (65 :: two) b env2) : a = 0 ∧ b = 0 ∧ BoundSet one two t1 t2 env2 := by
  obtain ⟨ha, rfl⟩ := define_ok (by decide) g1 h1
  have hg := Good.name_then (env := noEnv.put 65 t1) (c := 65) (by decide) g1.term.wf (put_same _ _ _) (g2.any (noEnv.put 65 t1)).term (by omega)
  obtain ⟨hb, rfl⟩ := define_ok (by decide) hg h2
  exact ⟨ha, hb, g1, g2, by rw [put_other _ _ _ _ (by decide)]; exact put_same _ _ _, put_same _ _ _⟩
theorem BoundSet.tB_wf {one two : List UInt8} {t1 t2 : Tm} {env : Env} (h : BoundSet one two t1 t2 env) : (Tm.cons (.name 65 t1) t2).wf := by
  rw [Tm.wf, Pt.wf]; exact ⟨⟨by decide, by decide, h.g1.term.wf⟩, h.g2.term.wf⟩
theorem k_bound_B {one two ls : List UInt8} {t1 t2 : Tm} {L : List Rat} (g1 : Good noEnv one t1) (g2 : Good noEnv two t2) (hl : one.length + two.length < 120) (hL : IsList ls L) {env env' : Env} (hb : env' 66 = some (.cons (.name 65 t1) t2)) {l want : List UInt8} {k n i h : Int} (hA : ApplySays env' [66] ls 5000 l k i) (hB : ApplySays env (one ++ two) ls 4998 want n h) : l = want ∧ i = h ∧ (h = 0 → k = n + 2) ∧ (h ≠ 0 → k = 0 ∧ n = 0) := by
  have hw : (Tm.cons (.name 65 t1) t2).wf := by rw [Tm.wf, Pt.wf]; exact ⟨⟨by decide, by decide, g1.term.wf⟩, g2.term.wf⟩
  have gB := Good.name (env := env') (c := 66) (by decide) hw hb
  have gO : Good noEnv (one ++ two) (t1.app t2) := ⟨by simp; omega, g1.term.app g2.term⟩
  have hA' : ApplySays env' [66] ls ((4998 + 2 : Nat) : Int) l k i := hA
  have hB' : ApplySays env (one ++ two) ls ((4998 : Nat) : Int) want n h := hB
  cases hr : (t1.app t2).run false L 4998 with
  | ok l' f' =>
    obtain ⟨e1, e2, e3⟩ := hA'.unique (apply_mk (r := listText l') (n := ((4998 + 2 : Nat) : Int) - f') (e := 0) gB hL (by omega) (by omega) (by rw [Int.toNat_natCast, run_name2, hr]; exact ⟨rfl, rfl, rfl⟩))
    obtain ⟨d1, d2, d3⟩ := hB'.unique (apply_mk (r := listText l') (n := ((4998 : Nat) : Int) - f') (e := 0) (gO.any env) hL (by omega) (by omega) (by rw [Int.toNat_natCast, hr]; exact ⟨rfl, rfl, rfl⟩))
    exact ⟨by rw [e1, d1], by rw [e3, d3], fun _ => by omega, fun h => absurd d3 h⟩
  | err x =>
    obtain ⟨e1, e2, e3⟩ := hA'.unique (apply_mk (r := []) (n := 0) (e := x) gB hL (by omega) (by omega) (by rw [Int.toNat_natCast, run_name2, hr]; exact ⟨rfl, rfl, rfl⟩))
    obtain ⟨d1, d2, d3⟩ := hB'.unique (apply_mk (r := []) (n := 0) (e := x) (gO.any env) hL (by omega) (by omega) (by rw [Int.toNat_natCast, hr]; exact ⟨rfl, rfl, rfl⟩))
    exact ⟨by rw [e1, d1], by rw [e3, d3], fun h => absurd (d3.symm.trans h) (Tm.errs _ false _ _ _ hr).ne, fun _ => ⟨e2, d2⟩⟩
theorem k_bound_A {other ls : List UInt8} {t3 : Tm} {L : List Rat} (g3 : Good noEnv other t3) (hL : IsList ls L) {env : Env} (ha : env 65 = some t3) {l want : List UInt8} {k n i h : Int} (hA : ApplySays env [65] ls 5000 l k i) (hB : ApplySays env other ls 4999 want n h) : l = want ∧ i = h ∧ (h = 0 → k = n + 1) ∧ (h ≠ 0 → k = 0 ∧ n = 0) := by
  have gA := Good.name (env := env) (c := 65) (by decide) g3.term.wf ha
  exact apply_behind (F := 4999) (d := 1) gA (g3.any env) hL (by omega) (run_name1 _ _ _ _) hA hB

/-! ### UNDERS -/
def underText (s g : List UInt8) : List UInt8 := 91 :: (s ++ 58 :: (g ++ [93]))
theorem IsTerm.under {env : Env} {s g : List UInt8} {t u : Tm} (h : IsTerm env s t) (h' : IsTerm env g u) : IsTerm env (underText s g) (.cons (.under t u) .nil) := by
  refine ⟨?_, ?_, ?_⟩
  · rw [Tm.wf, Pt.wf, Tm.wf]; exact ⟨⟨h.wf, h'.wf⟩, trivial⟩
  · rw [Tm.inEnv, Pt.inEnv, Tm.inEnv]; exact ⟨⟨h.env, h'.env⟩, trivial⟩
  · rw [Tm.text, Pt.text, Tm.text, h.text, h'.text]; simp [underText]
theorem allPlaces_list {n : Nat} (hn : n ≤ 12) : IsList (listText (allPlaces n)) (allPlaces n) := by
  refine ⟨by simpa [allPlaces] using hn, ?_, rfl⟩
  intro x hx
  obtain ⟨i, hi, rfl⟩ := List.mem_map.1 hx
  have := List.mem_range.1 hi
  unfold small
  apply decide_eq_true
  simp
  omega
/-- What the statement Unders asks, in terms of lists. -/
theorem k_unders {s g ls : List UInt8} {t u : Tm} {L : List Rat} (gs : Good noEnv s t) (gg : Good noEnv g u) (hpk : t.picker = true) (hlen : s.length + g.length + 3 ≤ 120) (hL : IsList ls L) {r : List UInt8} {n e : Int} (h : ApplySays noEnv (underText s g) ls 5000 r n e) {at_ : List UInt8} {n1 e1 : Int} (h1 : ApplySays noEnv s (listText (allPlaces L.length)) 4999 at_ n1 e1) :
    (e1 ≠ 0 → r = [] ∧ n = 0 ∧ e = e1) ∧ (e1 = 0 → 0 ≤ n1 ∧ n1 ≤ 4999 ∧ ∃ idx : List Nat, idx.Nodup ∧ (∀ i ∈ idx, i < L.length) ∧ at_ = listText (picked idx (allPlaces L.length)) ∧
      (∀ {some_ : List UInt8} {n2 e2 : Int}, ApplySays noEnv s ls 4999 some_ n2 e2 → e2 = 0 ∧ n2 = n1 ∧ some_ = listText (picked idx L)) ∧
      (∀ {made : List UInt8} {n3 e3 : Int}, ApplySays noEnv g (listText (picked idx L)) (4999 - n1) made n3 e3 →
        (e3 ≠ 0 → r = [] ∧ n = 0 ∧ e = e3) ∧ (e3 = 0 → ∃ ys : List Rat, made = listText ys ∧ ((ys.length ≠ idx.length → r = [] ∧ n = 0 ∧ e = 11) ∧ (ys.length = idx.length → e = 0 ∧ n = 1 + n1 + n3 ∧ r = listText (layAt idx ys L) ∧ (∀ {again : List UInt8} {n4 e4 : Int}, ApplySays noEnv s r 5000 again n4 e4 → e4 = 0 ∧ again = made)))))) := by
  have hlenL := hL.len
  have gu : Good noEnv (underText s g) (.cons (.under t u) .nil) := ⟨by unfold underText; simp; omega, gs.term.under gg.term⟩
  have hall : (allPlaces L.length).length = L.length := by simp [allPlaces]
  have hP := allPlaces_list hlenL
  have hrun : (Tm.cons (.under t u) .nil).run false L 5000 = underRun (t.run false) (u.run false) L 4999 := by
    rw [run_one, Pt.run_under_pick _ _ _ hpk]; rfl
  have h' : ApplySays noEnv (underText s g) ls ((5000 : Nat) : Int) r n e := h
  have h1' : ApplySays noEnv s (listText (allPlaces L.length)) ((4999 : Nat) : Int) at_ n1 e1 := h1
  rcases Tm.natl t hpk gs.term.wf false L.length 4999 with ⟨x, hx⟩ | ⟨idx, f1, hnd, hlt, hidx⟩
  · obtain ⟨a1, a2, a3⟩ := h1'.unique (apply_mk (r := []) (n := 0) (e := x) gs hP (by omega) (by omega) (by rw [Int.toNat_natCast, hx _ hall]; exact ⟨rfl, rfl, rfl⟩))
    have hne := (Tm.errs t false _ _ _ (hx _ hall)).ne
    obtain ⟨b1, b2, b3⟩ := h'.unique (apply_mk (r := []) (n := 0) (e := x) gu hL (by omega) (by omega) (by rw [Int.toNat_natCast, hrun]; unfold underRun; rw [hx _ hall]; exact ⟨rfl, rfl, rfl⟩))
    exact ⟨fun _ => ⟨b1, b2, by rw [b3, a3]⟩, fun he => absurd (a3.symm.trans he) hne⟩
  · have hr0 := hidx _ hall
    obtain ⟨st, hst, hs⟩ := (Tm.paced t false).steps hr0
    obtain ⟨a1, a2, a3⟩ := h1'.unique (apply_mk (r := listText (picked idx (allPlaces L.length))) (n := ((4999 : Nat) : Int) - f1) (e := 0) gs hP (by omega) (by omega) (by rw [Int.toNat_natCast, hr0]; exact ⟨rfl, rfl, rfl⟩))
    refine ⟨fun he => absurd a3 he, fun _ => ⟨by omega, by omega, idx, hnd, hlt, a1, ?_, ?_⟩⟩
    · intro some_ n2 e2 h2
      have h2' : ApplySays noEnv s ls ((4999 : Nat) : Int) some_ n2 e2 := h2
      obtain ⟨b1, b2, b3⟩ := h2'.unique (apply_mk (r := listText (picked idx L)) (n := ((4999 : Nat) : Int) - f1) (e := 0) gs hL (by omega) (by omega) (by rw [Int.toNat_natCast, hidx L rfl]; exact ⟨rfl, rfl, rfl⟩))
      exact ⟨b3, by rw [b2, a2], b1⟩
    · intro made n3 e3 h3
      have hfu : (4999 : Int) - n1 = (f1 : Int) := by omega
      rw [hfu] at h3
      have hLi : IsList (listText (picked idx L)) (picked idx L) := run_list gs.term.wf hL (hidx L rfl)
      have hpl := places_all idx L.length hlt
      have hru : underRun (t.run false) (u.run false) L 4999 = Res.then (u.run false (picked idx L) f1) fun ys f2 => if ys.length = idx.length then .ok (layAt idx ys L) f2 else .err 11 := by
        unfold underRun
        rw [hr0, then_of_ok, hpl, picked_length]
      cases hr : u.run false (picked idx L) f1 with
      | err x =>
        obtain ⟨b1, b2, b3⟩ := h3.unique (apply_mk (r := []) (n := 0) (e := x) gg hLi (by omega) (by omega) (by rw [Int.toNat_natCast, hr]; exact ⟨rfl, rfl, rfl⟩))
        obtain ⟨c1, c2, c3⟩ := h'.unique (apply_mk (r := []) (n := 0) (e := x) gu hL (by omega) (by omega) (by rw [Int.toNat_natCast, hrun, hru, hr]; exact ⟨rfl, rfl, rfl⟩))
        exact ⟨fun _ => ⟨c1, c2, by rw [c3, b3]⟩, fun he => absurd (b3.symm.trans he) (Tm.errs u false _ _ _ hr).ne⟩
      | ok ys f2 =>
        obtain ⟨b1, b2, b3⟩ := h3.unique (apply_mk (r := listText ys) (n := (f1 : Int) - f2) (e := 0) gg hLi (by omega) (by omega) (by rw [Int.toNat_natCast, hr]; exact ⟨rfl, rfl, rfl⟩))
        refine ⟨fun he => absurd b3 he, fun _ => ⟨ys, b1, fun hne => ?_, fun heq => ?_⟩⟩
        · obtain ⟨c1, c2, c3⟩ := h'.unique (apply_mk (r := []) (n := 0) (e := 11) gu hL (by omega) (by omega) (by rw [Int.toNat_natCast, hrun, hru, hr, then_of_ok, if_neg hne]; exact ⟨rfl, rfl, rfl⟩))
          exact ⟨c1, c2, c3⟩
        · have hRok : (Tm.cons (.under t u) .nil).run false L 5000 = .ok (layAt idx ys L) f2 := by rw [hrun, hru, hr, then_of_ok, if_pos heq]
          obtain ⟨c1, c2, c3⟩ := h'.unique (apply_mk (r := listText (layAt idx ys L)) (n := ((5000 : Nat) : Int) - f2) (e := 0) gu hL (by omega) (by omega) (by rw [Int.toNat_natCast, hRok]; exact ⟨rfl, rfl, rfl⟩))
          refine ⟨c3, by omega, c1, ?_⟩
          intro again n4 e4 h4
          rw [c1] at h4
          have h4' : ApplySays noEnv s (listText (layAt idx ys L)) ((5000 : Nat) : Int) again n4 e4 := h4
          have hLr : IsList (listText (layAt idx ys L)) (layAt idx ys L) := run_list gu.term.wf hL hRok
          obtain ⟨st2, hst2, hs2⟩ := (Tm.paced t false).steps (hidx (layAt idx ys L) (layAt_length _ _ _))
          have h5 := hs2 5000
          rw [if_pos (by omega), picked_lay idx ys L hnd hlt heq] at h5
          obtain ⟨d1, d2, d3⟩ := h4'.unique (apply_mk (r := listText ys) (n := ((5000 : Nat) : Int) - ((5000 - st2 : Nat) : Int)) (e := 0) gs hLr (by omega) (by omega) (by rw [Int.toNat_natCast, h5]; exact ⟨rfl, rfl, rfl⟩))
          exact ⟨d3, by rw [d1, b1]⟩
end T
end Go.Proofs.YtikiaijgcjjloaaGreatDoor

/- The walks of the laws without the document's answer: terms of one part; a session that is ready. -/
namespace Go.Proofs.YtikiaijgcjjloaaGreatDoor
open Go Go.RowKit M T Go.Lib

/-- A term of one part. -/
def one (x : Sp) : Tm := .cons (.sp x) .nil
theorem one_good {env : Env} {x : Sp} (hw : x.wf) (hl : x.text.length ≤ 120) : T.Good env x.text (one x) := ⟨hl, ⟨by simp only [one, Tm.wf, Pt.wf]; exact ⟨hw, trivial⟩, by simp only [one, Tm.inEnv, Pt.inEnv]; exact ⟨trivial, trivial⟩, by simp only [one, Tm.text, Pt.text, List.append_nil]⟩⟩
theorem one_run (x : Sp) (l : List Rat) : (one x).run false l 1 = lift (x.work l) 0 := by
  unfold one
  rw [Tm.run, Pt.run]
  simp only [Bool.false_eq_true, if_false]
  cases x.work l with
  | error e => rfl
  | ok ys =>
    show Tm.run .nil false ys 0 = _
    rw [Tm.run]
    rfl
theorem check_not_good {env : Env} {s : List UInt8} {t : Tm} {c : Int} (h : T.Good env s t) (hc : Check env s c) : False := by
  rcases hc with ⟨h1, _⟩ | ⟨_, h1, _⟩ | ⟨_, _, h1, _⟩
  · have := h.len; omega
  · exact h1 ⟨_, h.term.wf, h.term.text⟩
  · exact h1 ⟨_, h.term⟩
/-- What Apply answers for a term of one part and fuel for one step. -/
theorem one_apply {env : Env} {x : Sp} {s ls : List UInt8} {r : List UInt8} {n c : Int} (h : T.Good env s (one x)) (ha : ApplySays env s ls 1 r n c) : ((¬ ∃ l, IsList ls l) ∧ r = [] ∧ n = 0 ∧ c = 8) ∨ ∃ l, IsList ls l ∧ ((∃ l', x.work l = .ok l' ∧ r = listText l' ∧ n = 1 ∧ c = 0) ∨ (x.work l = .error c ∧ r = [] ∧ n = 0)) := by
  rcases ha with ⟨hc, _, _⟩ | ⟨t, ht, hh⟩
  · exact (check_not_good h hc).elim
  · rw [ht.unique h] at hh
    rcases hh with hh | ⟨l, hl, hh⟩
    · exact Or.inl hh
    · refine Or.inr ⟨l, hl, ?_⟩
      rcases hh with ⟨h1, _⟩ | ⟨_, _, hr⟩
      · omega
      · rw [show (1 : Int).toNat = 1 from rfl, one_run] at hr
        cases hw : x.work l with
        | error e =>
          rw [hw] at hr
          obtain ⟨h1, h2, h3⟩ := hr
          exact Or.inr ⟨by rw [h3], h1, h2⟩
        | ok l' =>
          rw [hw] at hr
          obtain ⟨h1, h2, h3⟩ := hr
          exact Or.inl ⟨l', rfl, h1, by rw [h2]; rfl, h3⟩

theorem t1_text : (Sp.take 1).text = [116, 49] := by
  show 116 :: decDigits 1 = _
  rw [dec_small 1 (by omega)]
  rfl
theorem r_text : Sp.r.text = [114] := rfl
theorem rat_text_small (n : Nat) (h : n < 10) : ratText (n : Rat) = [UInt8.ofNat (48 + n)] := by
  show itoa ((n : Rat).num) ++ (if (((n : Rat).den : Nat) : Int) ≤ 1 then [] else 47 :: decDigits (((n : Rat).den : Nat) : Int).toNat) = _
  rw [Rat.num_natCast, Rat.den_natCast, if_pos (by omega), List.append_nil, M.itoa_pos _ (by omega), Int.natAbs_natCast, dec_small n h]
theorem list12 : IsList [49, 44, 50] [1, 2] := by
  refine ⟨by decide, ?_, ?_⟩
  · intro x hx
    simp at hx
    rcases hx with rfl | rfl <;> decide
  · show ratText ((1 : Nat) : Rat) ++ 44 :: ratText ((2 : Nat) : Rat) = _
    rw [rat_text_small 1 (by omega), rat_text_small 2 (by omega)]
    decide
theorem text21 : listText [2, 1] = [50, 44, 49] := by
  show ratText ((2 : Nat) : Rat) ++ 44 :: ratText ((1 : Nat) : Rat) = _
  rw [rat_text_small 1 (by omega), rat_text_small 2 (by omega)]
  decide
theorem ready_facts {env : Env} {n c : Int} (h : FactsSays env [116, 49] n c) : n = 6 ∧ c = 0 := by
  have hg : T.Good env [116, 49] (one (.take 1)) := t1_text ▸ one_good (env := env) (x := .take 1) (by simp [Sp.wf]) (by rw [t1_text]; decide)
  exact h.unique (Or.inr ⟨_, hg, by simp [factsNum, one, Tm.back, Pt.back, Sp.opp, Tm.picker, Pt.picker, Sp.picker, Tm.plain, Pt.plain, Sp.plain], rfl⟩)
theorem ready_apply {env : Env} {r : List UInt8} {n c : Int} (h : ApplySays env [114] [49, 44, 50] 1 r n c) : r = [50, 44, 49] ∧ n = 1 ∧ c = 0 := by
  have hg : T.Good env [114] (one .r) := one_good (env := env) (x := .r) (by simp [Sp.wf]) (by decide)
  rcases one_apply hg h with ⟨h1, _⟩ | ⟨l, hl, hh⟩
  · exact (h1 ⟨_, list12⟩).elim
  · obtain rfl : l = [1, 2] := hl.unique list12
    rcases hh with ⟨l', h1, h2, h3, h4⟩ | ⟨h1, _⟩
    · cases h1
      exact ⟨h2.trans text21, h3, h4⟩
    · cases h1

/-- What ready answers. -/
def ReadyGot (w : World) (e : Ending) (w' : World) : Prop := ∃ xb, e = .returned (.pointer (some ⟨xb, 0, none⟩)) ∧ SesIs w' xb (fun _ => none) T.noEnv ∧ Below w.heap.size w w'
set_option maxRecDepth 100000 in
set_option maxHeartbeats 800000 in
theorem ready_new (w : World) (ht : Tab w) : Calls Tryz.prog 9 #[] w fun e w' => e = .returned (.pointer (some ⟨w.heap.size, 0, none⟩)) ∧ SesIs w' w.heap.size (fun _ => none) T.noEnv ∧ Below w.heap.size w w' := by
  have HT := hide ht
  clear ht
  go_enter Tryz.func9, Tryz.ntmps9
  go_wp2_with fail
  refine (new_any _).mono ?_
  rintro e w1 ⟨rfl, hw1⟩
  have hb1 : Below w.heap.size w w1 := by rw [hw1]; exact (Below.refl _ _).alloc (Nat.le_refl _) _
  have HS1 := hide (show SesIs w1 w.heap.size (fun _ => none) T.noEnv by rw [hw1]; exact new_SesIs w)
  have HB1 := hide hb1
  clear hw1 hb1
  go_wp2_with fail
  refine (facts_any _ _ (unhide HS1)).mono ?_
  rintro e w2 ⟨n, c, rfl, hf, hb2⟩
  obtain ⟨rfl, rfl⟩ := ready_facts (env := T.noEnv) hf
  have HS2 := hide ((unhide HS1).below hb2)
  have HB2 := hide ((unhide HB1).trans (hb2.mono (unhide HB1).size))
  clear hf hb2
  go_wp2_with fail
  refine (apply_any _ _ 1 _ (unhide HS2) (tab_below (unhide HT) (unhide HB2)) (by decide)).mono ?_
  rintro e w3 ⟨r, n, c, rfl, ha, hb3⟩
  obtain ⟨rfl, rfl, rfl⟩ := ready_apply (env := T.noEnv) ha
  have HS3 := hide ((unhide HS2).below hb3)
  have HB3 := hide ((unhide HB2).trans (hb3.mono (unhide HB2).size))
  clear ha hb3
  go_wp2_with fail
  go_ret
  exact ⟨rfl, unhide HS3, unhide HB3⟩
theorem ready_any (w : World) (ht : Tab w) : Calls Tryz.prog 9 #[] w fun e w' => ReadyGot w e w' := (ready_new w ht).mono fun _ _ h => ⟨_, h.1, h.2.1, h.2.2⟩
end Go.Proofs.YtikiaijgcjjloaaGreatDoor

/- The walks of the laws without the document's answer: whole numbers as a list. -/
namespace Go.Proofs.YtikiaijgcjjloaaGreatDoor
open Go Go.RowKit M T Go.Lib

theorem ratText_int (z : Int) : ratText ((z : Int) : Rat) = itoa z := by
  show itoa (((z : Int) : Rat).num) ++ (if ((((z : Int) : Rat).den : Nat) : Int) ≤ 1 then [] else 47 :: decDigits ((((z : Int) : Rat).den : Nat) : Int).toNat) = _
  rw [Rat.num_intCast, Rat.den_intCast, if_pos (by omega), List.append_nil]
theorem small_int {z : Int} (h1 : -1000 ≤ z) (h2 : z ≤ 1000) : small ((z : Int) : Rat) = true := by
  unfold small
  rw [decide_eq_true_iff, Rat.num_intCast, Rat.den_intCast]
  omega
/-- The list that listed writes. -/
structure LsdIs (n : Nat) (L : List Rat) : Prop where
  len : L.length = n
  few : n ≤ 12
  small : AllS L
theorem LsdIs.list {n : Nat} {L : List Rat} (h : LsdIs n L) : IsList (listText L) L := ⟨by have := h.few; rw [h.len]; exact this, h.small, rfl⟩
/-- What listed answers. -/
def LsdGot (w : World) (e : Ending) (w' : World) : Prop := ∃ L, IsList (listText L) L ∧ e = .returned (.string ⟨(listText L).toArray⟩) ∧ Below w.heap.size w w'
theorem listText_add (L : List Rat) (x : Rat) (h : L ≠ []) : (⟨(listText L).toArray⟩ ++ ⟨#[44]⟩ ++ ⟨(ratText x).toArray⟩ : ByteArray) = ⟨(listText (L ++ [x])).toArray⟩ := by
  rw [listText_snoc, if_neg h]
  apply ByteArray.ext
  simp
theorem listText_first (x : Rat) : ((⟨#[]⟩ : ByteArray) ++ ⟨(ratText x).toArray⟩ : ByteArray) = ⟨(listText [x]).toArray⟩ := by
  apply ByteArray.ext
  simp [listText]

set_option maxRecDepth 100000 in
set_option maxHeartbeats 1600000 in
theorem listed_any {w : World} {ra : Option Addr} {rn rc : Nat} {raw : Nat → Int} (hr : RawIs w ra rn raw) (_hn : rn ≤ 140737488355328) (ht : Tab w) :
    Calls Tryz.prog 20 #[.slice ra rn rc] w fun e w' => LsdGot w e w' := by
  have HR := hide hr
  have HT := hide ht
  clear hr ht
  go_enter Tryz.func20, Tryz.ntmps20
  go_wp2_with fail
  go_loopg [3, 4] 12 (fun kk v3 v4 wr => ∃ (i : Nat) (L : List Rat), kk = 12 - i ∧ i ≤ 12 ∧ i ≤ rn ∧ v4 = .int .i64 (i : Int) ∧ v3 = .string ⟨(listText L).toArray⟩ ∧ LsdIs i L ∧ Below w.heap.size w wr)
  case atStart => exact ⟨0, [], rfl, Nat.zero_le _, Nat.zero_le _, rfl, rfl, ⟨rfl, by omega, fun _ h => by (cases h)⟩, Below.refl _ _⟩
  case round =>
    obtain ⟨i, L, hk, hi, hin, rfl, rfl, hL, hbl⟩ := hrel
    have HK := hide hk
    have HL := hide hL
    have HB := hide hbl
    have hll : (listText L).length ≤ 300 := by
      have h1 := listText_len hL.small
      have h2 := hL.len
      have h3 := hL.few
      omega
    clear hk
    by_cases hlt : i < rn
    · have hlt' : (i : Int) < (rn : Int) := by omega
      by_cases hl12 : i < 12
      · have hl12' : (i : Int) < 12 := by omega
        obtain ⟨a, rfl, hab, hcell, hr1, hr2⟩ := ((unhide HR).below hbl).at' i hlt
        have hq := (kpick_val (raw i) (n := 2001) (by omega)).2.2
        have HLen := hide hL.len
        clear hL hbl
        by_cases hz0 : i = 0
        · obtain rfl : L = [] := List.eq_nil_of_length_eq_zero (by rw [unhide HLen]; exact hz0)
          have hz0' : ¬ (0 : Int) < (i : Int) := by omega
          have HZ0 := hide hz0
          clear hz0
          go_wp2_with fail
          refine (kpick_any (raw i) 2001 _ hr1 hr2 (by omega) (by omega)).mono ?_
          rintro e w1 ⟨rfl, rfl⟩
          generalize kpickN (raw i) 2001 = q at hq
          obtain ⟨z, hz⟩ : ∃ z : Int, (q : Int) - 1000 = z := ⟨_, rfl⟩
          have hz1 : -1000 ≤ z := by omega
          have hz2 : z ≤ 1000 := by omega
          have hq1 : (q : Int) ≤ 2000 := by omega
          go_wp2_with fail
          refine (itoa_any z _ (by omega) (by omega) (tab_below (unhide HT) (unhide HB))).mono ?_
          rintro e w2 ⟨rfl, hb2⟩
          have HB2 := hide ((unhide HB).trans (hb2.mono (unhide HB).size))
          have HS := hide (small_int hz1 hz2)
          have HTx := hide (listText_first ((z : Int) : Rat))
          rw [← ratText_int]
          clear hb2
          generalize ((z : Int) : Rat) = x at HS HTx ⊢
          have hxl : (ratText x).length ≤ 23 := item_len (unhide HS)
          go_wp2_with fail
          go_roundg (12 - (i + 1))
          case measure => rw [unhide HK]; omega
          case rel => exact ⟨i + 1, [x], rfl, by omega, by omega, rfl, by first | (rw [← unhide HTx]; rfl) | simp [listText], ⟨by rw [unhide HZ0]; rfl, by omega, fun y hy => by rw [List.mem_singleton.1 hy]; exact unhide HS⟩, unhide HB2⟩
        · have hne : L ≠ [] := fun e => by have := unhide HLen; rw [e] at this; simp at this; omega
          have hz0' : (0 : Int) < (i : Int) := by omega
          go_wp2_with fail
          refine (kpick_any (raw i) 2001 _ hr1 hr2 (by omega) (by omega)).mono ?_
          rintro e w1 ⟨rfl, rfl⟩
          generalize kpickN (raw i) 2001 = q at hq
          obtain ⟨z, hz⟩ : ∃ z : Int, (q : Int) - 1000 = z := ⟨_, rfl⟩
          have hz1 : -1000 ≤ z := by omega
          have hz2 : z ≤ 1000 := by omega
          have hq1 : (q : Int) ≤ 2000 := by omega
          go_wp2_with fail
          refine (itoa_any z _ (by omega) (by omega) (tab_below (unhide HT) (unhide HB))).mono ?_
          rintro e w2 ⟨rfl, hb2⟩
          have HB2 := hide ((unhide HB).trans (hb2.mono (unhide HB).size))
          have HS := hide (small_int hz1 hz2)
          have HTx := hide (listText_add L ((z : Int) : Rat) hne)
          rw [← ratText_int]
          clear hb2
          generalize ((z : Int) : Rat) = x at HS HTx ⊢
          have hxl : (ratText x).length ≤ 23 := item_len (unhide HS)
          go_wp2_with fail
          go_roundg (12 - (i + 1))
          case measure => rw [unhide HK]; omega
          case rel => exact ⟨i + 1, L ++ [x], rfl, by omega, by omega, rfl, by first | (rw [← unhide HTx]) | rfl, ⟨by rw [List.length_append, unhide HLen]; rfl, by omega, allS_one (unhide HL).small (unhide HS)⟩, unhide HB2⟩
      · have hl12' : ¬ (i : Int) < 12 := by omega
        have hlist := hL.list
        have HLs := hide hlist
        clear hL hbl hlist
        go_wp2_with fail
        go_ret
        exact ⟨L, unhide HLs, rfl, unhide HB⟩
    · have hlt' : ¬ (i : Int) < (rn : Int) := by omega
      have hlist := hL.list
      have HLs := hide hlist
      clear hL hbl hlist
      go_wp2_with fail
      go_ret
      exact ⟨L, unhide HLs, rfl, unhide HB⟩
end Go.Proofs.YtikiaijgcjjloaaGreatDoor

/- The walks of the laws without the document's answer: texts put together. -/
namespace Go.Proofs.YtikiaijgcjjloaaGreatDoor
open Go Go.RowKit M T Go.Lib

theorem cat_list (a b : ByteArray) : (a ++ b).data.toList = a.data.toList ++ b.data.toList := by simp
theorem bytes_of {a : ByteArray} {l : List UInt8} (h : a.data.toList = l) : a = ⟨l.toArray⟩ := by subst h; simp
theorem bytes_back (a : ByteArray) : (⟨a.data.toList.toArray⟩ : ByteArray) = a := by simp
theorem pow_text (s it : ByteArray) (k : Int) (h : it.data.toList = itoa k) : ((⟨#[40]⟩ : ByteArray) ++ s ++ ⟨#[41, 94]⟩ ++ it).data.toList = powText s.data.toList k := by
  simp only [cat_list, h]
  simp [powText]
theorem minus_text (s : ByteArray) : ((⟨#[40]⟩ : ByteArray) ++ s ++ ⟨#[41, 94, 45, 49]⟩).data.toList = powText s.data.toList (-1) := by
  simp only [cat_list, powText, itoa_m1]
  simp
theorem plus_text (s : ByteArray) : ((⟨#[40]⟩ : ByteArray) ++ s ++ ⟨#[41, 94, 49]⟩).data.toList = powText s.data.toList 1 := by
  simp only [cat_list, powText, itoa_1]
  simp
theorem bytes_size (l : List UInt8) : (⟨l.toArray⟩ : ByteArray).size = l.length := by
  show l.toArray.size = _
  simp
theorem apply_len {env : Env} {s ls : List UInt8} {fuel : Int} {r : List UInt8} {n e : Int} (h : ApplySays env s ls fuel r n e) : r.length ≤ 300 := by
  by_cases he : e = 0
  · obtain ⟨t, l, l', f', hg, hl, _, _, hr, rfl, _⟩ := h.ok he
    have hl' := run_list hg.term.wf hl hr
    have h1 := listText_len hl'.small
    have h2 := hl'.len
    omega
  · rw [(h.err he).1]; simp
theorem apply_n {env : Env} {s ls : List UInt8} {fuel : Int} {r : List UInt8} {n e : Int} (h : ApplySays env s ls fuel r n e) : 0 ≤ n ∧ n ≤ 5000 := by
  by_cases he : e = 0
  · obtain ⟨t, l, l', f', hg, hl, h1, h2, hr, _, rfl⟩ := h.ok he
    obtain ⟨m, hm, _⟩ := Tm.paced t false _ _ _ _ hr
    omega
  · rw [(h.err he).2]; omega
theorem empty_yes {s : ByteArray} (h : s.data.toList = []) : s.toList.isEmpty = true := by rw [ByteArray.toList_eq, h]; rfl
theorem empty_no {s : ByteArray} (h : s.data.toList ≠ []) : s.toList.isEmpty = false := by
  rw [ByteArray.toList_eq]
  cases h1 : s.data.toList with
  | nil => exact absurd h1 h
  | cons c l => rfl
theorem list_len {ls : List UInt8} {L : List Rat} (h : IsList ls L) : ls.length ≤ 300 := by
  have h1 := listText_len h.small
  have h2 := h.len
  rw [h.text] at h1
  omega
theorem facts_len {env : Env} {s : List UInt8} {n : Int} (h : FactsSays env s n 0) : s.length ≤ 120 := by
  obtain ⟨t, hg, _⟩ := h.good
  exact hg.len
theorem size_list (a : ByteArray) : a.size = a.data.toList.length := by simp
end Go.Proofs.YtikiaijgcjjloaaGreatDoor

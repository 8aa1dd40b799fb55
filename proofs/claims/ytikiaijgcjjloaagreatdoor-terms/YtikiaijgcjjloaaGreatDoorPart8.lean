import Derived.Test.YtikiaijgcjjloaaGreatDoorPart7

/- Reading a term from the left: places, brackets, the term itself, names. No program in this text. -/
namespace Go.Proofs.YtikiaijgcjjloaaGreatDoor
namespace T
open Go.Lib M

/-! ### Places -/
structure PlAt (l : List UInt8) (o : Option (List Nat × List UInt8)) : Prop where
  sound : ∀ ps r, o = some (ps, r) → ps ≠ [] ∧ ps.Nodup ∧ (∀ i ∈ ps, i < 12) ∧ l = dots ps ++ r
  comp : ∀ ps r, ps ≠ [] → ps.Nodup → (∀ i ∈ ps, i < 12) → Stop r → l = dots ps ++ r → o = some (ps, r)
def pre (qs : List Nat) : List UInt8 := (qs.map fun i => decDigits i ++ [46]).flatten
theorem dots_cons (i : Nat) (l : List Nat) (h : l ≠ []) : dots (i :: l) = decDigits i ++ 46 :: dots l := by
  cases l with
  | nil => exact absurd rfl h
  | cons j l => rfl
theorem dots_pre (qs : List Nat) (k : Nat) : dots (qs ++ [k]) = pre qs ++ decDigits k := by
  induction qs with
  | nil => simp [dots, pre]
  | cons i l ih =>
    rw [List.cons_append, dots_cons i (l ++ [k]) (by simp), ih]
    simp [pre]
structure PlGo (l0 : List UInt8) (qs : List Nat) (l : List UInt8) : Prop where
  nodup : qs.Nodup
  small : ∀ i ∈ qs, i < 12
  text : l0 = pre qs ++ l
  comp : ∀ ps r, ps ≠ [] → ps.Nodup → (∀ i ∈ ps, i < 12) → Stop r → l0 = dots ps ++ r → ∃ ps', ps' ≠ [] ∧ ps = qs ++ ps' ∧ l = dots ps' ++ r
theorem PlGo.start (l : List UInt8) : PlGo l [] l := ⟨List.nodup_nil, by simp, by simp [pre], fun ps r h _ _ _ e => ⟨ps, h, rfl, e⟩⟩
theorem dots_head {ps : List Nat} {r l : List UInt8} (hp : ps ≠ []) (e : l = dots ps ++ r) : ∃ i rest, ps = i :: rest ∧ ((rest = [] ∧ l = decDigits i ++ r) ∨ (rest ≠ [] ∧ l = decDigits i ++ (46 :: (dots rest ++ r)))) := by
  cases ps with
  | nil => exact absurd rfl hp
  | cons i rest =>
    refine ⟨i, rest, rfl, ?_⟩
    cases rest with
    | nil => exact Or.inl ⟨rfl, e⟩
    | cons j rest =>
      refine Or.inr ⟨by simp, ?_⟩
      rw [dots_cons i (j :: rest) (by simp)] at e
      simpa using e
theorem WhAt.head {l : List UInt8} {o : Option (Int × List UInt8)} (h : WhAt l 0 11 o) {i : Nat} {r : List UInt8} (hi : i < 12) (hr : noDig r) (e : l = decDigits i ++ r) : o = some ((i : Int), r) :=
  h.comp i r (by omega) (by omega) hr (by rw [itoa_nat _ (by omega)]; simpa using e)
theorem PlGo.fail {l0 l : List UInt8} {qs : List Nat} (h : PlGo l0 qs l) (hw : WhAt l 0 11 none) : PlAt l0 none := by
  refine ⟨fun ps r e => by (cases e), fun ps r h1 h2 h3 h4 e => ?_⟩
  obtain ⟨ps', p1, p2, p3⟩ := h.comp ps r h1 h2 h3 h4 e
  obtain ⟨i, rest, rfl, h5⟩ := dots_head p1 p3
  have hi : i < 12 := h3 i (by rw [p2]; simp)
  rcases h5 with ⟨_, e⟩ | ⟨_, e⟩
  · have := hw.head hi h4.noDig e; cases this
  · have := hw.head hi (noDig_46 _) e; cases this
theorem PlGo.twice {l0 l : List UInt8} {qs : List Nat} (h : PlGo l0 qs l) {k : Nat} {r1 : List UInt8} (hw : WhAt l 0 11 (some ((k : Int), r1))) (hk : k ∈ qs) : PlAt l0 none := by
  refine ⟨fun ps r e => by (cases e), fun ps r h1 h2 h3 h4 e => ?_⟩
  exfalso
  obtain ⟨ps', p1, p2, p3⟩ := h.comp ps r h1 h2 h3 h4 e
  obtain ⟨i, rest, rfl, h5⟩ := dots_head p1 p3
  have hi : i < 12 := h3 i (by rw [p2]; simp)
  have hik : i = k := by
    rcases h5 with ⟨_, e⟩ | ⟨_, e⟩
    · have := hw.head hi h4.noDig e
      simp only [Option.some.injEq, Prod.mk.injEq] at this
      omega
    · have := hw.head hi (noDig_46 _) e
      simp only [Option.some.injEq, Prod.mk.injEq] at this
      omega
  rw [p2] at h2
  exact (List.nodup_append.1 h2).2.2 k hk i (by simp) hik.symm
theorem PlGo.next {l0 l : List UInt8} {qs : List Nat} (h : PlGo l0 qs l) {k : Nat} {r1 : List UInt8} (hw : WhAt l 0 11 (some ((k : Int), 46 :: r1))) (hk : k ∉ qs) : PlGo l0 (qs ++ [k]) r1 := by
  obtain ⟨a, b, c⟩ := hw.sound _ _ rfl
  rw [itoa_nat _ (by omega)] at c
  refine ⟨List.nodup_append.2 ⟨h.nodup, by simp, ?_⟩, ?_, ?_, fun ps r h1 h2 h3 h4 e => ?_⟩
  · intro x hx y hy
    have : y = k := by simpa using hy
    rintro rfl
    exact hk (this ▸ hx)
  · intro i hi
    rcases List.mem_append.1 hi with hi | hi
    · exact h.small i hi
    · have : i = k := by simpa using hi
      omega
  · rw [h.text, c]
    simp [pre]
  · obtain ⟨ps', p1, p2, p3⟩ := h.comp ps r h1 h2 h3 h4 e
    obtain ⟨i, rest, rfl, h5⟩ := dots_head p1 p3
    have hi : i < 12 := h3 i (by rw [p2]; simp)
    rcases h5 with ⟨_, e⟩ | ⟨hn, e⟩
    · exfalso
      have := hw.head hi h4.noDig e
      simp only [Option.some.injEq, Prod.mk.injEq] at this
      exact (h4 46 (by rw [← this.2]; rfl)).2.2.1 rfl
    · have := hw.head hi (noDig_46 _) e
      simp only [Option.some.injEq, Prod.mk.injEq, List.cons.injEq, true_and] at this
      have hik : k = i := by omega
      exact ⟨rest, hn, by rw [p2, hik]; simp, this.2⟩
theorem PlGo.done {l0 l : List UInt8} {qs : List Nat} (h : PlGo l0 qs l) {k : Nat} {r1 : List UInt8} (hw : WhAt l 0 11 (some ((k : Int), r1))) (hk : k ∉ qs) (hr : r1.head? ≠ some 46) : PlAt l0 (some (qs ++ [k], r1)) := by
  obtain ⟨a, b, c⟩ := hw.sound _ _ rfl
  rw [itoa_nat _ (by omega)] at c
  refine ⟨fun ps r e => ?_, fun ps r h1 h2 h3 h4 e => ?_⟩
  · cases e
    refine ⟨by simp, List.nodup_append.2 ⟨h.nodup, by simp, ?_⟩, ?_, ?_⟩
    · intro x hx y hy
      have : y = k := by simpa using hy
      rintro rfl
      exact hk (this ▸ hx)
    · intro i hi
      rcases List.mem_append.1 hi with hi | hi
      · exact h.small i hi
      · have : i = k := by simpa using hi
        omega
    · rw [dots_pre, h.text, c]
      simp
  · obtain ⟨ps', p1, p2, p3⟩ := h.comp ps r h1 h2 h3 h4 e
    obtain ⟨i, rest, rfl, h5⟩ := dots_head p1 p3
    have hi : i < 12 := h3 i (by rw [p2]; simp)
    rcases h5 with ⟨hn, e⟩ | ⟨hn, e⟩
    · have := hw.head hi h4.noDig e
      simp only [Option.some.injEq, Prod.mk.injEq] at this
      have hik : k = i := by omega
      rw [p2, hn, hik, this.2]
    · exfalso
      have := hw.head hi (noDig_46 _) e
      simp only [Option.some.injEq, Prod.mk.injEq] at this
      exact hr (by rw [this.2]; rfl)
theorem pick_only {p : Pt} {l r : List UInt8} (hw : p.wf) (e : 35 :: l = p.text ++ r) : ∃ ps, ps ≠ [] ∧ ps.Nodup ∧ (∀ i ∈ ps, i < 12) ∧ p = .sp (.pick ps) ∧ l = dots ps ++ r := by
  have hf := cons_first e
  cases p with
  | sp y =>
    have hf' : y.first = 35 := hf
    rw [Pt.text] at e
    rw [Pt.wf] at hw
    cases y <;> first
      | (exact absurd hf' (by decide))
      | (simp [Sp.first] at hf'; done)
      | exact ⟨_, hw.1, hw.2.1, hw.2.2, rfl, by simpa [Sp.text] using e⟩
  | pow f k => exact absurd (show (40 : UInt8) = _ from hf) (by decide)
  | under s g => exact absurd (show (91 : UInt8) = _ from hf) (by decide)
  | name d b =>
    exfalso
    have : d = 35 := hf
    subst this
    rw [Pt.wf] at hw
    exact absurd hw.1 (by decide)
theorem rdP_pick (env : Env) {l : List UInt8} {o : Option (List Nat × List UInt8)} (h : PlAt l o) : RdP env (35 :: l) (o.map fun x => (.sp (.pick x.1), x.2)) := by
  refine ⟨fun p q e => ?_, fun p q hw he hst e => ?_⟩
  · cases o with
    | none => cases e
    | some x =>
      cases e
      obtain ⟨a, b, c, e⟩ := h.sound x.1 x.2 rfl
      exact ⟨by rw [Pt.wf]; exact ⟨a, b, c⟩, by rw [Pt.inEnv]; trivial, by rw [Pt.text, e]; rfl⟩
  · obtain ⟨ps, a, b, c, rfl, e2⟩ := pick_only hw e
    rw [h.comp ps q a b c hst e2]
    rfl

/-! ### Brackets -/
theorem pow_only {p : Pt} {l r : List UInt8} (hw : p.wf) (e : 40 :: l = p.text ++ r) : ∃ f k, p = .pow f k ∧ f.wf ∧ -999 ≤ k ∧ k ≤ 999 ∧ l = f.text ++ (41 :: 94 :: (itoa k ++ r)) := by
  have hf := cons_first e
  cases p with
  | sp y => exact absurd hf (Sp.first_small y).2
  | pow f k =>
    rw [Pt.wf] at hw
    rw [Pt.text] at e
    exact ⟨f, k, rfl, hw.1, hw.2.1, hw.2.2, by simpa using e⟩
  | under s g => exact absurd (show (91 : UInt8) = _ from hf) (by decide)
  | name d b =>
    exfalso
    have : d = 40 := hf
    subst this
    rw [Pt.wf] at hw
    exact absurd hw.1 (by decide)
theorem under_only {p : Pt} {l r : List UInt8} (hw : p.wf) (e : 91 :: l = p.text ++ r) : ∃ s g, p = .under s g ∧ s.wf ∧ g.wf ∧ l = s.text ++ (58 :: (g.text ++ (93 :: r))) := by
  have hf := cons_first e
  cases p with
  | sp y => exact absurd (show 65 ≤ y.first.toNat ∧ y.first.toNat ≤ 91 by rw [show y.first = 91 from hf]; decide) (Sp.first_small y).1
  | pow f k => exact absurd (show (40 : UInt8) = _ from hf) (by decide)
  | under s g =>
    rw [Pt.wf] at hw
    rw [Pt.text] at e
    exact ⟨s, g, rfl, hw.1, hw.2, by simpa using e⟩
  | name d b =>
    exfalso
    have : d = 91 := hf
    subst this
    rw [Pt.wf] at hw
    exact absurd hw.2.1 (by decide)
theorem rdP_pow (env : Env) {l : List UInt8} {f : Tm} {r : List UInt8} {o : Option (Int × List UInt8)} (h : RdT env l (some (f, 41 :: 94 :: r))) (hk : WhAt r (-999) 999 o) : RdP env (40 :: l) (o.map fun x => (.pow f x.1, x.2)) := by
  obtain ⟨h1, h2, h3, h4⟩ := h.sound _ _ rfl
  refine ⟨fun p q e => ?_, fun p q hw he hst e => ?_⟩
  · cases o with
    | none => cases e
    | some x =>
      cases e
      obtain ⟨a, b, e⟩ := hk.sound x.1 x.2 rfl
      exact ⟨by rw [Pt.wf]; exact ⟨h1, a, b⟩, by rw [Pt.inEnv]; exact h2, by rw [Pt.text, h3, e]; simp⟩
  · obtain ⟨f', k, rfl, a, b, c, e2⟩ := pow_only hw e
    rw [Pt.inEnv] at he
    have := h.comp f' _ a he (end_41 _) e2
    simp only [Option.some.injEq, Prod.mk.injEq, List.cons.injEq, true_and] at this
    obtain ⟨rfl, e3⟩ := this
    rw [hk.comp k q b c hst.noDig e3]
    rfl
theorem rdP_pow_none (env : Env) {l : List UInt8} {o : Option (Tm × List UInt8)} (h : RdT env l o) (hn : ∀ f r, o ≠ some (f, 41 :: 94 :: r)) : RdP env (40 :: l) none := by
  refine ⟨fun p q e => by (cases e), fun p q hw he hst e => ?_⟩
  obtain ⟨f', k, rfl, a, b, c, e2⟩ := pow_only hw e
  rw [Pt.inEnv] at he
  exact absurd (h.comp f' _ a he (end_41 _) e2) (hn _ _)
theorem rdP_under (env : Env) {l : List UInt8} {s g : Tm} {r q : List UInt8} (h : RdT env l (some (s, 58 :: r))) (h' : RdT env r (some (g, 93 :: q))) : RdP env (91 :: l) (some (.under s g, q)) := by
  obtain ⟨h1, h2, h3, h4⟩ := h.sound _ _ rfl
  obtain ⟨k1, k2, k3, k4⟩ := h'.sound _ _ rfl
  refine ⟨fun p q' e => ?_, fun p q' hw he hst e => ?_⟩
  · cases e
    exact ⟨by rw [Pt.wf]; exact ⟨h1, k1⟩, by rw [Pt.inEnv]; exact ⟨h2, k2⟩, by rw [Pt.text, h3, k3]; simp⟩
  · obtain ⟨s', g', rfl, a, b, e2⟩ := under_only hw e
    rw [Pt.inEnv] at he
    have := h.comp s' _ a he.1 (end_58 _) e2
    simp only [Option.some.injEq, Prod.mk.injEq, List.cons.injEq, true_and] at this
    obtain ⟨rfl, e3⟩ := this
    have := h'.comp g' _ b he.2 (end_93 _) e3
    simp only [Option.some.injEq, Prod.mk.injEq, List.cons.injEq, true_and] at this
    obtain ⟨rfl, rfl⟩ := this
    rfl
theorem rdP_under_none (env : Env) {l : List UInt8} {o : Option (Tm × List UInt8)} (h : RdT env l o) (hn : ∀ s r, o ≠ some (s, 58 :: r)) : RdP env (91 :: l) none := by
  refine ⟨fun p q e => by (cases e), fun p q hw he hst e => ?_⟩
  obtain ⟨s', g', rfl, a, b, e2⟩ := under_only hw e
  rw [Pt.inEnv] at he
  exact absurd (h.comp s' _ a he.1 (end_58 _) e2) (hn _ _)
theorem rdP_under_none2 (env : Env) {l : List UInt8} {s : Tm} {r : List UInt8} {o : Option (Tm × List UInt8)} (h : RdT env l (some (s, 58 :: r))) (h' : RdT env r o) (hn : ∀ g q, o ≠ some (g, 93 :: q)) : RdP env (91 :: l) none := by
  refine ⟨fun p q e => by (cases e), fun p q hw he hst e => ?_⟩
  obtain ⟨s', g', rfl, a, b, e2⟩ := under_only hw e
  rw [Pt.inEnv] at he
  have := h.comp s' _ a he.1 (end_58 _) e2
  simp only [Option.some.injEq, Prod.mk.injEq, List.cons.injEq, true_and] at this
  obtain ⟨rfl, e3⟩ := this
  exact absurd (h'.comp g' _ b he.2 (end_93 _) e3) (hn _ _)

/-! ### Part behind part -/
def Tm.of : List Pt → Tm
  | [] => .nil
  | p :: l => .cons p (Tm.of l)
def Tm.parts : Tm → List Pt
  | .nil => []
  | .cons p t => p :: t.parts
theorem Tm.of_parts : ∀ t : Tm, Tm.of t.parts = t
  | .nil => rfl
  | .cons p t => by rw [Tm.parts, Tm.of, Tm.of_parts t]
theorem Tm.parts_of : ∀ l : List Pt, (Tm.of l).parts = l
  | [] => rfl
  | p :: l => by rw [Tm.of, Tm.parts, Tm.parts_of l]
theorem Tm.of_text : ∀ l : List Pt, (Tm.of l).text = (l.map Pt.text).flatten
  | [] => by rw [Tm.of, Tm.text]; rfl
  | p :: l => by rw [Tm.of, Tm.text, Tm.of_text l]; rfl
theorem Tm.of_wf : ∀ l : List Pt, (Tm.of l).wf ↔ ∀ p ∈ l, p.wf
  | [] => by rw [Tm.of, Tm.wf]; simp
  | p :: l => by rw [Tm.of, Tm.wf, Tm.of_wf l]; simp
theorem Tm.of_inEnv (env : Env) : ∀ l : List Pt, (Tm.of l).inEnv env ↔ ∀ p ∈ l, p.inEnv env
  | [] => by rw [Tm.of, Tm.inEnv]; simp
  | p :: l => by rw [Tm.of, Tm.inEnv, Tm.of_inEnv env l]; simp
/-- The parts ps stand at the head of l0, and l is what follows. -/
structure Ahead (env : Env) (l0 : List UInt8) (ps : List Pt) (l : List UInt8) : Prop where
  wf : ∀ p ∈ ps, p.wf
  inn : ∀ p ∈ ps, p.inEnv env
  text : l0 = (ps.map Pt.text).flatten ++ l
  comp : ∀ t r, t.wf → t.inEnv env → End r → l0 = t.text ++ r → ∃ t', t = Tm.of (ps ++ Tm.parts t') ∧ t'.wf ∧ t'.inEnv env ∧ l = t'.text ++ r
theorem Ahead.start (env : Env) (l : List UInt8) : Ahead env l [] l := ⟨by simp, by simp, by simp, fun t r h1 h2 h3 e => ⟨t, by rw [List.nil_append, Tm.of_parts], h1, h2, e⟩⟩
theorem part_of {env : Env} {l : List UInt8} (hl : ¬ End l) {t : Tm} {r : List UInt8} (h1 : t.wf) (h2 : t.inEnv env) (h3 : End r) (e : l = t.text ++ r) : ∃ p t', t = .cons p t' ∧ p.wf ∧ t'.wf ∧ p.inEnv env ∧ t'.inEnv env ∧ Stop (t'.text ++ r) ∧ l = p.text ++ (t'.text ++ r) := by
  cases t with
  | nil => rw [Tm.text] at e; exact absurd (e ▸ h3) hl
  | cons p t' =>
    rw [Tm.wf] at h1
    rw [Tm.inEnv] at h2
    rw [Tm.text, List.append_assoc] at e
    exact ⟨p, t', rfl, h1.1, h1.2, h2.1, h2.2, Tm.text_stop t' h1.2 h3, e⟩
theorem Ahead.next {env : Env} {l0 l : List UInt8} {ps : List Pt} (h : Ahead env l0 ps l) (hl : ¬ End l) {p : Pt} {r : List UInt8} (hp : RdP env l (some (p, r))) : Ahead env l0 (ps ++ [p]) r := by
  obtain ⟨a, b, c⟩ := hp.sound _ _ rfl
  refine ⟨?_, ?_, ?_, fun t r' h1 h2 h3 e => ?_⟩
  · intro q hq
    rcases List.mem_append.1 hq with hq | hq
    · exact h.wf q hq
    · have : q = p := by simpa using hq
      rw [this]; exact a
  · intro q hq
    rcases List.mem_append.1 hq with hq | hq
    · exact h.inn q hq
    · have : q = p := by simpa using hq
      rw [this]; exact b
  · rw [h.text, c]; simp
  · obtain ⟨t', e1, e2, e3, e4⟩ := h.comp t r' h1 h2 h3 e
    obtain ⟨p', t'', rfl, q1, q2, q3, q4, q5, q6⟩ := part_of hl e2 e3 h3 e4
    have := hp.comp p' _ q1 q3 q5 q6
    simp only [Option.some.injEq, Prod.mk.injEq] at this
    obtain ⟨rfl, rfl⟩ := this
    exact ⟨t'', by rw [e1, Tm.parts]; simp, q2, q4, rfl⟩
theorem Ahead.done {env : Env} {l0 l : List UInt8} {ps : List Pt} (h : Ahead env l0 ps l) (hl : End l) : RdT env l0 (some (Tm.of ps, l)) := by
  refine ⟨fun t r e => ?_, fun t r h1 h2 h3 e => ?_⟩
  · cases e
    exact ⟨(Tm.of_wf ps).2 h.wf, (Tm.of_inEnv env ps).2 h.inn, by rw [Tm.of_text]; exact h.text, hl⟩
  · obtain ⟨t', e1, e2, e3, e4⟩ := h.comp t r h1 h2 h3 e
    cases t' with
    | nil =>
      rw [Tm.text] at e4
      rw [e1, Tm.parts, List.append_nil, e4]
      rfl
    | cons p t' =>
      exfalso
      rw [Tm.text, List.append_assoc] at e4
      rw [Tm.wf] at e2
      exact (Pt.first_stop p e2.1 _).2 (e4 ▸ hl)
theorem Ahead.fail {env : Env} {l0 l : List UInt8} {ps : List Pt} (h : Ahead env l0 ps l) (hl : ¬ End l) (hp : RdP env l none) : RdT env l0 none := by
  refine ⟨fun t r e => by (cases e), fun t r h1 h2 h3 e => ?_⟩
  exfalso
  obtain ⟨t', e1, e2, e3, e4⟩ := h.comp t r h1 h2 h3 e
  obtain ⟨p', t'', rfl, q1, q2, q3, q4, q5, q6⟩ := part_of hl e2 e3 h3 e4
  have := hp.comp p' _ q1 q3 q5 q6
  cases this

/-! ### Names that are not defined -/
/-- Where nothing is defined: the empty term. -/
def Env.full (env : Env) : Env := fun c => some ((env c).getD .nil)
mutual
def Pt.unk (env : Env) : Pt → Bool
  | .sp _ => false
  | .pow f _ => f.unk env
  | .under s g => s.unk env || g.unk env
  | .name c _ => (env c).isNone
def Tm.unk (env : Env) : Tm → Bool
  | .nil => false
  | .cons p t => p.unk env || t.unk env
end
mutual
theorem Pt.full_known (env : Env) : ∀ p : Pt, p.inEnv env.full → p.unk env = false → p.inEnv env
  | .sp _, _, _ => by rw [Pt.inEnv]; trivial
  | .pow f k, h, hu => by rw [Pt.inEnv] at h ⊢; rw [Pt.unk] at hu; exact Tm.full_known env f h hu
  | .under s g, h, hu => by
    rw [Pt.inEnv] at h ⊢
    rw [Pt.unk, Bool.or_eq_false_iff] at hu
    exact ⟨Tm.full_known env s h.1 hu.1, Tm.full_known env g h.2 hu.2⟩
  | .name c b, h, hu => by
    rw [Pt.inEnv] at h ⊢
    rw [Pt.unk] at hu
    unfold Env.full at h
    cases hc : env c with
    | none => rw [hc] at hu; cases hu
    | some x => rw [hc] at h; simpa using h
theorem Tm.full_known (env : Env) : ∀ t : Tm, t.inEnv env.full → t.unk env = false → t.inEnv env
  | .nil, _, _ => by rw [Tm.inEnv]; trivial
  | .cons p t, h, hu => by
    rw [Tm.inEnv] at h ⊢
    rw [Tm.unk, Bool.or_eq_false_iff] at hu
    exact ⟨Pt.full_known env p h.1 hu.1, Tm.full_known env t h.2 hu.2⟩
end
mutual
theorem Pt.known_full (env : Env) : ∀ p : Pt, p.inEnv env → p.inEnv env.full ∧ p.unk env = false
  | .sp _, _ => by rw [Pt.inEnv, Pt.unk]; exact ⟨trivial, rfl⟩
  | .pow f k, h => by rw [Pt.inEnv] at h ⊢; rw [Pt.unk]; exact Tm.known_full env f h
  | .under s g, h => by
    rw [Pt.inEnv] at h ⊢
    rw [Pt.unk]
    have a := Tm.known_full env s h.1
    have b := Tm.known_full env g h.2
    exact ⟨⟨a.1, b.1⟩, by rw [a.2, b.2]; rfl⟩
  | .name c b, h => by
    rw [Pt.inEnv] at h ⊢
    rw [Pt.unk]
    unfold Env.full
    rw [h]
    exact ⟨rfl, rfl⟩
theorem Tm.known_full (env : Env) : ∀ t : Tm, t.inEnv env → t.inEnv env.full ∧ t.unk env = false
  | .nil, _ => by rw [Tm.inEnv, Tm.unk]; exact ⟨trivial, rfl⟩
  | .cons p t, h => by
    rw [Tm.inEnv] at h ⊢
    rw [Tm.unk]
    have a := Pt.known_full env p h.1
    have b := Tm.known_full env t h.2
    exact ⟨⟨a.1, b.1⟩, by rw [a.2, b.2]; rfl⟩
end
mutual
/-- The same text with other meanings of its names. -/
def Pt.bind (env : Env) : Pt → Pt
  | .sp x => .sp x
  | .pow f k => .pow (f.bind env) k
  | .under s g => .under (s.bind env) (g.bind env)
  | .name c b => .name c ((env c).getD b)
def Tm.bind (env : Env) : Tm → Tm
  | .nil => .nil
  | .cons p t => .cons (p.bind env) (t.bind env)
end
def Env.wf (env : Env) : Prop := ∀ c b, env c = some b → b.wf
theorem Env.full_wf {env : Env} (h : env.wf) : env.full.wf := by
  intro c b e
  unfold Env.full at e
  cases hc : env c with
  | none => rw [hc] at e; cases e; exact (show True from trivial)
  | some x => rw [hc] at e; cases e; exact h c x hc
mutual
theorem Pt.bind_facts (env : Env) (he : env.wf) : ∀ p : Pt, (p.bind env).text = p.text ∧ (p.wf → (p.bind env).wf) ∧ ((∀ c, env c ≠ none) → (p.bind env).inEnv env)
  | .sp _ => ⟨rfl, fun h => h, fun _ => by rw [Pt.bind, Pt.inEnv]; trivial⟩
  | .pow f k => by
    obtain ⟨a, b, c⟩ := Tm.bind_facts env he f
    refine ⟨by rw [Pt.bind, Pt.text, Pt.text, a], fun h => ?_, fun h => by rw [Pt.bind, Pt.inEnv]; exact c h⟩
    rw [Pt.wf] at h
    rw [Pt.bind, Pt.wf]; exact ⟨b h.1, h.2⟩
  | .under s g => by
    obtain ⟨a, b, c⟩ := Tm.bind_facts env he s
    obtain ⟨a', b', c'⟩ := Tm.bind_facts env he g
    refine ⟨by rw [Pt.bind, Pt.text, Pt.text, a, a'], fun h => ?_, fun h => by rw [Pt.bind, Pt.inEnv]; exact ⟨c h, c' h⟩⟩
    rw [Pt.wf] at h
    rw [Pt.bind, Pt.wf]; exact ⟨b h.1, b' h.2⟩
  | .name d b => by
    refine ⟨by rw [Pt.bind, Pt.text, Pt.text], fun h => ?_, fun h => ?_⟩
    · rw [Pt.wf] at h
      rw [Pt.bind, Pt.wf]
      refine ⟨h.1, h.2.1, ?_⟩
      cases hc : env d with
      | none => exact h.2.2
      | some x => exact he d x hc
    · rw [Pt.bind, Pt.inEnv]
      cases hc : env d with
      | none => exact absurd hc (h d)
      | some x => rfl
theorem Tm.bind_facts (env : Env) (he : env.wf) : ∀ t : Tm, (t.bind env).text = t.text ∧ (t.wf → (t.bind env).wf) ∧ ((∀ c, env c ≠ none) → (t.bind env).inEnv env)
  | .nil => ⟨rfl, fun h => h, fun _ => by rw [Tm.bind, Tm.inEnv]; trivial⟩
  | .cons p t => by
    obtain ⟨a, b, c⟩ := Pt.bind_facts env he p
    obtain ⟨a', b', c'⟩ := Tm.bind_facts env he t
    refine ⟨by rw [Tm.bind, Tm.text, Tm.text, a, a'], fun h => ?_, fun h => by rw [Tm.bind, Tm.inEnv]; exact ⟨c h, c' h⟩⟩
    rw [Tm.wf] at h
    rw [Tm.bind, Tm.wf]; exact ⟨b h.1, b' h.2⟩
end
theorem Env.full_some (env : Env) (c : UInt8) : env.full c ≠ none := by unfold Env.full; simp
/-- What a whole text is, by what stands at its head. -/
theorem rdT_good {env : Env} {s : List UInt8} {t : Tm} (h : RdT env.full s (some (t, []))) (hu : t.unk env = false) : IsTerm env s t := by
  obtain ⟨a, b, c, d⟩ := h.sound _ _ rfl
  exact ⟨a, Tm.full_known env t b hu, by rw [c]; simp⟩
theorem rdT_shape {env : Env} {s : List UInt8} {t : Tm} (h : RdT env s (some (t, []))) : Shape s := by
  obtain ⟨a, b, c, d⟩ := h.sound _ _ rfl
  exact ⟨t, a, by rw [c]; simp⟩
theorem rdT_unk {env : Env} {s : List UInt8} {t : Tm} (h : RdT env.full s (some (t, []))) (hu : t.unk env = true) : ¬ ∃ t', IsTerm env s t' := by
  rintro ⟨t', h'⟩
  obtain ⟨a, b⟩ := Tm.known_full env t' h'.env
  have := h.comp t' [] h'.wf a end_nil (by rw [h'.text]; simp)
  simp only [Option.some.injEq, Prod.mk.injEq, and_true] at this
  rw [this, b] at hu
  cases hu
theorem rdT_noshape {env : Env} (he : env.wf) {s : List UInt8} {o : Option (Tm × List UInt8)} (h : RdT env.full s o) (hn : ∀ t, o ≠ some (t, [])) : ¬ Shape s := by
  rintro ⟨t, h1, h2⟩
  obtain ⟨a, b, c⟩ := Tm.bind_facts env.full (Env.full_wf he) t
  exact hn _ (h.comp (t.bind env.full) [] (b h1) (c (Env.full_some env)) end_nil (by rw [a, h2]; simp))
end T
end Go.Proofs.YtikiaijgcjjloaaGreatDoor

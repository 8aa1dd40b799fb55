import Derived.Test.YtikiaijgcjjloaaGreatDoorPart5
import Derived.Test.YtikiaijgcjjloaaGreatDoorPart2

namespace Go.Proofs.YtikiaijgcjjloaaGreatDoor
namespace T
open Go.Lib M
structure PlAt (l : List UInt8) (o : Option (List Nat × List UInt8)) : Prop where
  sound : ∀ ps r, o = some (ps, r) → ps ≠ [] ∧ ps.Nodup ∧ (∀ i ∈ ps, i < 12) ∧ l = dots ps ++ r
  comp : ∀ ps r, ps ≠ [] → ps.Nodup → (∀ i ∈ ps, i < 12) → Stop r → l = dots ps ++ r → o = some (ps, r)
def pre (qs : List Nat) : List UInt8 := (qs.map fun i => decDigits i ++ [46]).flatten
theorem dots_cons (i : Nat) (l : List Nat) (h : l ≠ []) : dots (i :: l) = decDigits i ++ 46 :: dots l := by
  cases l with
  | nil => exact absurd rfl h
  | cons j l => rfl
theorem dots_pre (qs : List Nat) (k : Nat) : dots (qs ++ [k]) = pre qs ++ decDigits k := by
  induction qs with
  | nil => simp [dots, pre]
  | cons i l ih =>
    rw [List.cons_append, dots_cons i (l ++ [k]) (by simp), ih]
    simp [pre]
structure PlGo (l0 : List UInt8) (qs : List Nat) (l : List UInt8) : Prop where
  nodup : qs.Nodup
  small : ∀ i ∈ qs, i < 12
  text : l0 = pre qs ++ l
  comp : ∀ ps r, ps ≠ [] → ps.Nodup → (∀ i ∈ ps, i < 12) → Stop r → l0 = dots ps ++ r → ∃ ps', ps' ≠ [] ∧ ps = qs ++ ps' ∧ l = dots ps' ++ r
theorem PlGo.start (l : List UInt8) : PlGo l [] l := ⟨List.nodup_nil, by simp, by simp [pre], fun ps r h _ _ _ e => ⟨ps, h, rfl, e⟩⟩
theorem dots_head {ps : List Nat} {r l : List UInt8} (hp : ps ≠ []) (e : l = dots ps ++ r) : ∃ i rest, ps = i :: rest ∧ ((rest = [] ∧ l = decDigits i ++ r) ∨ (rest ≠ [] ∧ l = decDigits i ++ (46 :: (dots rest ++ r)))) := by
  cases ps with
  | nil => exact absurd rfl hp
  | cons i rest =>
    refine ⟨i, rest, rfl, ?_⟩
    cases rest with
    | nil => exact Or.inl ⟨rfl, e⟩
    | cons j rest =>
      refine Or.inr ⟨by simp, ?_⟩
      rw [dots_cons i (j :: rest) (by simp)] at e
      simpa using e
theorem WhAt.head {l : List UInt8} {o : Option (Int × List UInt8)} (h : WhAt l 0 11 o) {i : Nat} {r : List UInt8} (hi : i < 12) (hr : noDig r) (e : l = decDigits i ++ r) : o = some ((i : Int), r) :=
  h.comp i r (by omega) (by omega) hr (by rw [itoa_nat _ (by omega)]; simpa using e)
theorem PlGo.fail {l0 l : List UInt8} {qs : List Nat} (h : PlGo l0 qs l) (hw : WhAt l 0 11 none) : PlAt l0 none := by
  refine ⟨fun ps r e => by (cases e), fun ps r h1 h2 h3 h4 e => ?_⟩
  obtain ⟨ps', p1, p2, p3⟩ := h.comp ps r h1 h2 h3 h4 e
  obtain ⟨i, rest, rfl, h5⟩ := dots_head p1 p3
  have hi : i < 12 := h3 i (by rw [p2]; simp)
  rcases h5 with ⟨_, e⟩ | ⟨_, e⟩
  · have := hw.head hi h4.noDig e; cases this
  · have := hw.head hi (noDig_46 _) e; cases this
theorem PlGo.twice {l0 l : List UInt8} {qs : List Nat} (h : PlGo l0 qs l) {k : Nat} {r1 : List UInt8} (hw : WhAt l 0 11 (some ((k : Int), r1))) (hk : k ∈ qs) : PlAt l0 none := by
  refine ⟨fun ps r e => by (cases e), fun ps r h1 h2 h3 h4 e => ?_⟩
  exfalso
  obtain ⟨ps', p1, p2, p3⟩ := h.comp ps r h1 h2 h3 h4 e
  obtain ⟨i, rest, rfl, h5⟩ := dots_head p1 p3
  have hi : i < 12 := h3 i (by rw [p2]; simp)
  have hik : i = k := by
    rcases h5 with ⟨_, e⟩ | ⟨_, e⟩
    · have := hw.head hi h4.noDig e
      simp only [Option.some.injEq, Prod.mk.injEq] at this
      omega
    · have := hw.head hi (noDig_46 _) e
      simp only [Option.some.injEq, Prod.mk.injEq] at this
      omega
  rw [p2] at h2
  exact (List.nodup_append.1 h2).2.2 k hk i (by simp) hik.symm
theorem PlGo.next {l0 l : List UInt8} {qs : List Nat} (h : PlGo l0 qs l) {k : Nat} {r1 : List UInt8} (hw : WhAt l 0 11 (some ((k : Int), 46 :: r1))) (hk : k ∉ qs) : PlGo l0 (qs ++ [k]) r1 := by
  obtain ⟨a, b, c⟩ := hw.sound _ _ rfl
  rw [itoa_nat _ (by omega)] at c
  refine ⟨List.nodup_append.2 ⟨h.nodup, by simp, ?_⟩, ?_, ?_, fun ps r h1 h2 h3 h4 e => ?_⟩
  · intro x hx y hy
    have : y = k := by simpa using hy
    rintro rfl
    exact hk (this ▸ hx)
  · intro i hi
    rcases List.mem_append.1 hi with hi | hi
    · exact h.small i hi
    · have : i = k := by simpa using hi
      omega
  · rw [h.text, c]
    simp [pre]
  · obtain ⟨ps', p1, p2, p3⟩ := h.comp ps r h1 h2 h3 h4 e
    obtain ⟨i, rest, rfl, h5⟩ := dots_head p1 p3
    have hi : i < 12 := h3 i (by rw [p2]; simp)
    rcases h5 with ⟨_, e⟩ | ⟨hn, e⟩
    · exfalso
      have := hw.head hi h4.noDig e
      simp only [Option.some.injEq, Prod.mk.injEq] at this
      exact (h4 46 (by rw [← this.2]; rfl)).2.2.1 rfl
    · have := hw.head hi (noDig_46 _) e
      simp only [Option.some.injEq, Prod.mk.injEq, List.cons.injEq, true_and] at this
      have hik : k = i := by omega
      exact ⟨rest, hn, by rw [p2, hik]; simp, this.2⟩
theorem PlGo.done {l0 l : List UInt8} {qs : List Nat} (h : PlGo l0 qs l) {k : Nat} {r1 : List UInt8} (hw : WhAt l 0 11 (some ((k : Int), r1))) (hk : k ∉ qs) (hr : r1.head? ≠ some 46) : PlAt l0 (some (qs ++ [k], r1)) := by
  obtain ⟨a, b, c⟩ := hw.sound _ _ rfl
  rw [itoa_nat _ (by omega)] at c
  refine ⟨fun ps r e => ?_, fun ps r h1 h2 h3 h4 e => ?_⟩
  · cases e
    refine ⟨by simp, List.nodup_append.2 ⟨h.nodup, by simp, ?_⟩, ?_, ?_⟩
    · intro x hx y hy
      have : y = k := by simpa using hy
      rintro rfl
      exact hk (this ▸ hx)
    · intro i hi
      rcases List.mem_append.1 hi with hi | hi
      · exact h.small i hi
      · have : i = k := by simpa using hi
        omega
    · rw [dots_pre, h.text, c]
      simp
  · obtain ⟨ps', p1, p2, p3⟩ := h.comp ps r h1 h2 h3 h4 e
    obtain ⟨i, rest, rfl, h5⟩ := dots_head p1 p3
    have hi : i < 12 := h3 i (by rw [p2]; simp)
    rcases h5 with ⟨hn, e⟩ | ⟨hn, e⟩
    · have := hw.head hi h4.noDig e
      simp only [Option.some.injEq, Prod.mk.injEq] at this
      have hik : k = i := by omega
      rw [p2, hn, hik, this.2]
    · exfalso
      have := hw.head hi (noDig_46 _) e
      simp only [Option.some.injEq, Prod.mk.injEq] at this
      exact hr (by rw [this.2]; rfl)
theorem pick_only {p : Pt} {l r : List UInt8} (hw : p.wf) (e : 35 :: l = p.text ++ r) : ∃ ps, ps ≠ [] ∧ ps.Nodup ∧ (∀ i ∈ ps, i < 12) ∧ p = .sp (.pick ps) ∧ l = dots ps ++ r := by
  have hf := cons_first e
  cases p with
  | sp y =>
    have hf' : y.first = 35 := hf
    rw [Pt.text] at e
    rw [Pt.wf] at hw
    cases y <;> first
      | (exact absurd hf' (by decide))
      | (simp [Sp.first] at hf'; done)
      | exact ⟨_, hw.1, hw.2.1, hw.2.2, rfl, by simpa [Sp.text] using e⟩
  | pow f k => exact absurd (show (40 : UInt8) = _ from hf) (by decide)
  | under s g => exact absurd (show (91 : UInt8) = _ from hf) (by decide)
  | name d b =>
    exfalso
    have : d = 35 := hf
    subst this
    rw [Pt.wf] at hw
    exact absurd hw.1 (by decide)
theorem rdP_pick (env : Env) {l : List UInt8} {o : Option (List Nat × List UInt8)} (h : PlAt l o) : RdP env (35 :: l) (o.map fun x => (.sp (.pick x.1), x.2)) := by
  refine ⟨fun p q e => ?_, fun p q hw he hst e => ?_⟩
  · cases o with
    | none => cases e
    | some x =>
      cases e
      obtain ⟨a, b, c, e⟩ := h.sound x.1 x.2 rfl
      exact ⟨by rw [Pt.wf]; exact ⟨a, b, c⟩, by rw [Pt.inEnv]; trivial, by rw [Pt.text, e]; rfl⟩
  · obtain ⟨ps, a, b, c, rfl, e2⟩ := pick_only hw e
    rw [h.comp ps q a b c hst e2]
    rfl
theorem pow_only {p : Pt} {l r : List UInt8} (hw : p.wf) (e : 40 :: l = p.text ++ r) : ∃ f k, p = .pow f k ∧ f.wf ∧ -999 ≤ k ∧ k ≤ 999 ∧ l = f.text ++ (41 :: 94 :: (itoa k ++ r)) := by
  have hf := cons_first e
  cases p with
  | sp y => exact absurd hf (Sp.first_small y).2
  | pow f k =>
    rw [Pt.wf] at hw
    rw [Pt.text] at e
    exact ⟨f, k, rfl, hw.1, hw.2.1, hw.2.2, by simpa using e⟩
  | under s g => exact absurd (show (91 : UInt8) = _ from hf) (by decide)
  | name d b =>
    exfalso
    have : d = 40 := hf
    subst this
    rw [Pt.wf] at hw
    exact absurd hw.1 (by decide)
theorem under_only {p : Pt} {l r : List UInt8} (hw : p.wf) (e : 91 :: l = p.text ++ r) : ∃ s g, p = .under s g ∧ s.wf ∧ g.wf ∧ l = s.text ++ (58 :: (g.text ++ (93 :: r))) := by
  have hf := cons_first e
  cases p with
  | sp y => exact absurd (show 65 ≤ y.first.toNat ∧ y.first.toNat ≤ 91 by rw [show y.first = 91 from hf]; decide) (Sp.first_small y).1
  | pow f k => exact absurd (show (40 : UInt8) = _ from hf) (by decide)
  | under s g =>
    rw [Pt.wf] at hw
    rw [Pt.text] at e
    exact ⟨s, g, rfl, hw.1, hw.2, by simpa using e⟩
  | name d b =>
    exfalso
    have : d = 91 := hf
    subst this
    rw [Pt.wf] at hw
    exact absurd hw.2.1 (by decide)
theorem rdP_pow (env : Env) {l : List UInt8} {f : Tm} {r : List UInt8} {o : Option (Int × List UInt8)} (h : RdT env l (some (f, 41 :: 94 :: r))) (hk : WhAt r (-999) 999 o) : RdP env (40 :: l) (o.map fun x => (.pow f x.1, x.2)) := by
  obtain ⟨h1, h2, h3, h4⟩ := h.sound _ _ rfl
  refine ⟨fun p q e => ?_, fun p q hw he hst e => ?_⟩
  · cases o with
    | none => cases e
    | some x =>
      cases e
      obtain ⟨a, b, e⟩ := hk.sound x.1 x.2 rfl
      exact ⟨by rw [Pt.wf]; exact ⟨h1, a, b⟩, by rw [Pt.inEnv]; exact h2, by rw [Pt.text, h3, e]; simp⟩
  · obtain ⟨f', k, rfl, a, b, c, e2⟩ := pow_only hw e
    rw [Pt.inEnv] at he
    have := h.comp f' _ a he (end_41 _) e2
    simp only [Option.some.injEq, Prod.mk.injEq, List.cons.injEq, true_and] at this
    obtain ⟨rfl, e3⟩ := this
    rw [hk.comp k q b c hst.noDig e3]
    rfl
theorem rdP_pow_none (env : Env) {l : List UInt8} {o : Option (Tm × List UInt8)} (h : RdT env l o) (hn : ∀ f r, o ≠ some (f, 41 :: 94 :: r)) : RdP env (40 :: l) none := by
  refine ⟨fun p q e => by (cases e), fun p q hw he hst e => ?_⟩
  obtain ⟨f', k, rfl, a, b, c, e2⟩ := pow_only hw e
  rw [Pt.inEnv] at he
  exact absurd (h.comp f' _ a he (end_41 _) e2) (hn _ _)
theorem rdP_under (env : Env) {l : List UInt8} {s g : Tm} {r q : List UInt8} (h : RdT env l (some (s, 58 :: r))) (h' : RdT env r (some (g, 93 :: q))) : RdP env (91 :: l) (some (.under s g, q)) := by
  obtain ⟨h1, h2, h3, h4⟩ := h.sound _ _ rfl
  obtain ⟨k1, k2, k3, k4⟩ := h'.sound _ _ rfl
  refine ⟨fun p q' e => ?_, fun p q' hw he hst e => ?_⟩
  · cases e
    exact ⟨by rw [Pt.wf]; exact ⟨h1, k1⟩, by rw [Pt.inEnv]; exact ⟨h2, k2⟩, by rw [Pt.text, h3, k3]; simp⟩
  · obtain ⟨s', g', rfl, a, b, e2⟩ := under_only hw e
    rw [Pt.inEnv] at he
    have := h.comp s' _ a he.1 (end_58 _) e2
    simp only [Option.some.injEq, Prod.mk.injEq, List.cons.injEq, true_and] at this
    obtain ⟨rfl, e3⟩ := this
    have := h'.comp g' _ b he.2 (end_93 _) e3
    simp only [Option.some.injEq, Prod.mk.injEq, List.cons.injEq, true_and] at this
    obtain ⟨rfl, rfl⟩ := this
    rfl
theorem rdP_under_none (env : Env) {l : List UInt8} {o : Option (Tm × List UInt8)} (h : RdT env l o) (hn : ∀ s r, o ≠ some (s, 58 :: r)) : RdP env (91 :: l) none := by
  refine ⟨fun p q e => by (cases e), fun p q hw he hst e => ?_⟩
  obtain ⟨s', g', rfl, a, b, e2⟩ := under_only hw e
  rw [Pt.inEnv] at he
  exact absurd (h.comp s' _ a he.1 (end_58 _) e2) (hn _ _)
theorem rdP_under_none2 (env : Env) {l : List UInt8} {s : Tm} {r : List UInt8} {o : Option (Tm × List UInt8)} (h : RdT env l (some (s, 58 :: r))) (h' : RdT env r o) (hn : ∀ g q, o ≠ some (g, 93 :: q)) : RdP env (91 :: l) none := by
  refine ⟨fun p q e => by (cases e), fun p q hw he hst e => ?_⟩
  obtain ⟨s', g', rfl, a, b, e2⟩ := under_only hw e
  rw [Pt.inEnv] at he
  have := h.comp s' _ a he.1 (end_58 _) e2
  simp only [Option.some.injEq, Prod.mk.injEq, List.cons.injEq, true_and] at this
  obtain ⟨rfl, e3⟩ := this
  exact absurd (h'.comp g' _ b he.2 (end_93 _) e3) (hn _ _)
def Tm.of : List Pt → Tm
  | [] => .nil
  | p :: l => .cons p (Tm.of l)
def Tm.parts : Tm → List Pt
  | .nil => []
  | .cons p t => p :: t.parts
theorem Tm.of_parts : ∀ t : Tm, Tm.of t.parts = t
  | .nil => rfl
  | .cons p t => by rw [Tm.parts, Tm.of, Tm.of_parts t]
theorem Tm.parts_of : ∀ l : List Pt, (Tm.of l).parts = l
  | [] => rfl
  | p :: l => by rw [Tm.of, Tm.parts, Tm.parts_of l]
theorem Tm.of_text : ∀ l : List Pt, (Tm.of l).text = (l.map Pt.text).flatten
  | [] => by rw [Tm.of, Tm.text]; rfl
  | p :: l => by rw [Tm.of, Tm.text, Tm.of_text l]; rfl
theorem Tm.of_wf : ∀ l : List Pt, (Tm.of l).wf ↔ ∀ p ∈ l, p.wf
  | [] => by rw [Tm.of, Tm.wf]; simp
  | p :: l => by rw [Tm.of, Tm.wf, Tm.of_wf l]; simp
theorem Tm.of_inEnv (env : Env) : ∀ l : List Pt, (Tm.of l).inEnv env ↔ ∀ p ∈ l, p.inEnv env
  | [] => by rw [Tm.of, Tm.inEnv]; simp
  | p :: l => by rw [Tm.of, Tm.inEnv, Tm.of_inEnv env l]; simp
structure Ahead (env : Env) (l0 : List UInt8) (ps : List Pt) (l : List UInt8) : Prop where
  wf : ∀ p ∈ ps, p.wf
  inn : ∀ p ∈ ps, p.inEnv env
  text : l0 = (ps.map Pt.text).flatten ++ l
  comp : ∀ t r, t.wf → t.inEnv env → End r → l0 = t.text ++ r → ∃ t', t = Tm.of (ps ++ Tm.parts t') ∧ t'.wf ∧ t'.inEnv env ∧ l = t'.text ++ r
theorem Ahead.start (env : Env) (l : List UInt8) : Ahead env l [] l := ⟨by simp, by simp, by simp, fun t r h1 h2 h3 e => ⟨t, by rw [List.nil_append, Tm.of_parts], h1, h2, e⟩⟩
theorem part_of {env : Env} {l : List UInt8} (hl : ¬ End l) {t : Tm} {r : List UInt8} (h1 : t.wf) (h2 : t.inEnv env) (h3 : End r) (e : l = t.text ++ r) : ∃ p t', t = .cons p t' ∧ p.wf ∧ t'.wf ∧ p.inEnv env ∧ t'.inEnv env ∧ Stop (t'.text ++ r) ∧ l = p.text ++ (t'.text ++ r) := by
  cases t with
  | nil => rw [Tm.text] at e; exact absurd (e ▸ h3) hl
  | cons p t' =>
    rw [Tm.wf] at h1
    rw [Tm.inEnv] at h2
    rw [Tm.text, List.append_assoc] at e
    exact ⟨p, t', rfl, h1.1, h1.2, h2.1, h2.2, Tm.text_stop t' h1.2 h3, e⟩
theorem Ahead.next {env : Env} {l0 l : List UInt8} {ps : List Pt} (h : Ahead env l0 ps l) (hl : ¬ End l) {p : Pt} {r : List UInt8} (hp : RdP env l (some (p, r))) : Ahead env l0 (ps ++ [p]) r := by
  obtain ⟨a, b, c⟩ := hp.sound _ _ rfl
  refine ⟨?_, ?_, ?_, fun t r' h1 h2 h3 e => ?_⟩
  · intro q hq
    rcases List.mem_append.1 hq with hq | hq
    · exact h.wf q hq
    · have : q = p := by simpa using hq
      rw [this]; exact a
  · intro q hq
    rcases List.mem_append.1 hq with hq | hq
    · exact h.inn q hq
    · have : q = p := by simpa using hq
      rw [this]; exact b
  · rw [h.text, c]; simp
  · obtain ⟨t', e1, e2, e3, e4⟩ := h.comp t r' h1 h2 h3 e
    obtain ⟨p', t'', rfl, q1, q2, q3, q4, q5, q6⟩ := part_of hl e2 e3 h3 e4
    have := hp.comp p' _ q1 q3 q5 q6
    simp only [Option.some.injEq, Prod.mk.injEq] at this
    obtain ⟨rfl, rfl⟩ := this
    exact ⟨t'', by rw [e1, Tm.parts]; simp, q2, q4, rfl⟩
theorem Ahead.done {env : Env} {l0 l : List UInt8} {ps : List Pt} (h : Ahead env l0 ps l) (hl : End l) : RdT env l0 (some (Tm.of ps, l)) := by
  refine ⟨fun t r e => ?_, fun t r h1 h2 h3 e => ?_⟩
  · cases e
    exact ⟨(Tm.of_wf ps).2 h.wf, (Tm.of_inEnv env ps).2 h.inn, by rw [Tm.of_text]; exact h.text, hl⟩
  · obtain ⟨t', e1, e2, e3, e4⟩ := h.comp t r h1 h2 h3 e
    cases t' with
    | nil =>
      rw [Tm.text] at e4
      rw [e1, Tm.parts, List.append_nil, e4]
      rfl
    | cons p t' =>
      exfalso
      rw [Tm.text, List.append_assoc] at e4
      rw [Tm.wf] at e2
      exact (Pt.first_stop p e2.1 _).2 (e4 ▸ hl)
theorem Ahead.fail {env : Env} {l0 l : List UInt8} {ps : List Pt} (h : Ahead env l0 ps l) (hl : ¬ End l) (hp : RdP env l none) : RdT env l0 none := by
  refine ⟨fun t r e => by (cases e), fun t r h1 h2 h3 e => ?_⟩
  exfalso
  obtain ⟨t', e1, e2, e3, e4⟩ := h.comp t r h1 h2 h3 e
  obtain ⟨p', t'', rfl, q1, q2, q3, q4, q5, q6⟩ := part_of hl e2 e3 h3 e4
  have := hp.comp p' _ q1 q3 q5 q6
  cases this
def Env.full (env : Env) : Env := fun c => some ((env c).getD .nil)
mutual
def Pt.unk (env : Env) : Pt → Bool
  | .sp _ => false
  | .pow f _ => f.unk env
  | .under s g => s.unk env || g.unk env
  | .name c _ => (env c).isNone
def Tm.unk (env : Env) : Tm → Bool
  | .nil => false
  | .cons p t => p.unk env || t.unk env
end
mutual
theorem Pt.full_known (env : Env) : ∀ p : Pt, p.inEnv env.full → p.unk env = false → p.inEnv env
  | .sp _, _, _ => by rw [Pt.inEnv]; trivial
  | .pow f k, h, hu => by rw [Pt.inEnv] at h ⊢; rw [Pt.unk] at hu; exact Tm.full_known env f h hu
  | .under s g, h, hu => by
    rw [Pt.inEnv] at h ⊢
    rw [Pt.unk, Bool.or_eq_false_iff] at hu
    exact ⟨Tm.full_known env s h.1 hu.1, Tm.full_known env g h.2 hu.2⟩
  | .name c b, h, hu => by
    rw [Pt.inEnv] at h ⊢
    rw [Pt.unk] at hu
    unfold Env.full at h
    cases hc : env c with
    | none => rw [hc] at hu; cases hu
    | some x => rw [hc] at h; simpa using h
theorem Tm.full_known (env : Env) : ∀ t : Tm, t.inEnv env.full → t.unk env = false → t.inEnv env
  | .nil, _, _ => by rw [Tm.inEnv]; trivial
  | .cons p t, h, hu => by
    rw [Tm.inEnv] at h ⊢
    rw [Tm.unk, Bool.or_eq_false_iff] at hu
    exact ⟨Pt.full_known env p h.1 hu.1, Tm.full_known env t h.2 hu.2⟩
end
mutual
theorem Pt.known_full (env : Env) : ∀ p : Pt, p.inEnv env → p.inEnv env.full ∧ p.unk env = false
  | .sp _, _ => by rw [Pt.inEnv, Pt.unk]; exact ⟨trivial, rfl⟩
  | .pow f k, h => by rw [Pt.inEnv] at h ⊢; rw [Pt.unk]; exact Tm.known_full env f h
  | .under s g, h => by
    rw [Pt.inEnv] at h ⊢
    rw [Pt.unk]
    have a := Tm.known_full env s h.1
    have b := Tm.known_full env g h.2
    exact ⟨⟨a.1, b.1⟩, by rw [a.2, b.2]; rfl⟩
  | .name c b, h => by
    rw [Pt.inEnv] at h ⊢
    rw [Pt.unk]
    unfold Env.full
    rw [h]
    exact ⟨rfl, rfl⟩
theorem Tm.known_full (env : Env) : ∀ t : Tm, t.inEnv env → t.inEnv env.full ∧ t.unk env = false
  | .nil, _ => by rw [Tm.inEnv, Tm.unk]; exact ⟨trivial, rfl⟩
  | .cons p t, h => by
    rw [Tm.inEnv] at h ⊢
    rw [Tm.unk]
    have a := Pt.known_full env p h.1
    have b := Tm.known_full env t h.2
    exact ⟨⟨a.1, b.1⟩, by rw [a.2, b.2]; rfl⟩
end
mutual
def Pt.bind (env : Env) : Pt → Pt
  | .sp x => .sp x
  | .pow f k => .pow (f.bind env) k
  | .under s g => .under (s.bind env) (g.bind env)
  | .name c b => .name c ((env c).getD b)
def Tm.bind (env : Env) : Tm → Tm
  | .nil => .nil
  | .cons p t => .cons (p.bind env) (t.bind env)
end
def Env.wf (env : Env) : Prop := ∀ c b, env c = some b → b.wf
theorem Env.full_wf {env : Env} (h : env.wf) : env.full.wf := by
  intro c b e
  unfold Env.full at e
  cases hc : env c with
  | none => rw [hc] at e; cases e; exact (show True from trivial)
  | some x => rw [hc] at e; cases e; exact h c x hc
mutual
theorem Pt.bind_facts (env : Env) (he : env.wf) : ∀ p : Pt, (p.bind env).text = p.text ∧ (p.wf → (p.bind env).wf) ∧ ((∀ c, env c ≠ none) → (p.bind env).inEnv env)
  | .sp _ => ⟨rfl, fun h => h, fun _ => by rw [Pt.bind, Pt.inEnv]; trivial⟩
  | .pow f k => by
    obtain ⟨a, b, c⟩ := Tm.bind_facts env he f
    refine ⟨by rw [Pt.bind, Pt.text, Pt.text, a], fun h => ?_, fun h => by rw [Pt.bind, Pt.inEnv]; exact c h⟩
    rw [Pt.wf] at h
    rw [Pt.bind, Pt.wf]; exact ⟨b h.1, h.2⟩
  | .under s g => by
    obtain ⟨a, b, c⟩ := Tm.bind_facts env he s
    obtain ⟨a', b', c'⟩ := Tm.bind_facts env he g
    refine ⟨by rw [Pt.bind, Pt.text, Pt.text, a, a'], fun h => ?_, fun h => by rw [Pt.bind, Pt.inEnv]; exact ⟨c h, c' h⟩⟩
    rw [Pt.wf] at h
    rw [Pt.bind, Pt.wf]; exact ⟨b h.1, b' h.2⟩
  | .name d b => by
    refine ⟨by rw [Pt.bind, Pt.text, Pt.text], fun h => ?_, fun h => ?_⟩
    · rw [Pt.wf] at h
      rw [Pt.bind, Pt.wf]
      refine ⟨h.1, h.2.1, ?_⟩
      cases hc : env d with
      | none => exact h.2.2
      | some x => exact he d x hc
    · rw [Pt.bind, Pt.inEnv]
      cases hc : env d with
      | none => exact absurd hc (h d)
      | some x => rfl
theorem Tm.bind_facts (env : Env) (he : env.wf) : ∀ t : Tm, (t.bind env).text = t.text ∧ (t.wf → (t.bind env).wf) ∧ ((∀ c, env c ≠ none) → (t.bind env).inEnv env)
  | .nil => ⟨rfl, fun h => h, fun _ => by rw [Tm.bind, Tm.inEnv]; trivial⟩
  | .cons p t => by
    obtain ⟨a, b, c⟩ := Pt.bind_facts env he p
    obtain ⟨a', b', c'⟩ := Tm.bind_facts env he t
    refine ⟨by rw [Tm.bind, Tm.text, Tm.text, a, a'], fun h => ?_, fun h => by rw [Tm.bind, Tm.inEnv]; exact ⟨c h, c' h⟩⟩
    rw [Tm.wf] at h
    rw [Tm.bind, Tm.wf]; exact ⟨b h.1, b' h.2⟩
end
theorem Env.full_some (env : Env) (c : UInt8) : env.full c ≠ none := by unfold Env.full; simp
theorem rdT_good {env : Env} {s : List UInt8} {t : Tm} (h : RdT env.full s (some (t, []))) (hu : t.unk env = false) : IsTerm env s t := by
  obtain ⟨a, b, c, d⟩ := h.sound _ _ rfl
  exact ⟨a, Tm.full_known env t b hu, by rw [c]; simp⟩
theorem rdT_shape {env : Env} {s : List UInt8} {t : Tm} (h : RdT env s (some (t, []))) : Shape s := by
  obtain ⟨a, b, c, d⟩ := h.sound _ _ rfl
  exact ⟨t, a, by rw [c]; simp⟩
theorem rdT_unk {env : Env} {s : List UInt8} {t : Tm} (h : RdT env.full s (some (t, []))) (hu : t.unk env = true) : ¬ ∃ t', IsTerm env s t' := by
  rintro ⟨t', h'⟩
  obtain ⟨a, b⟩ := Tm.known_full env t' h'.env
  have := h.comp t' [] h'.wf a end_nil (by rw [h'.text]; simp)
  simp only [Option.some.injEq, Prod.mk.injEq, and_true] at this
  rw [this, b] at hu
  cases hu
theorem rdT_noshape {env : Env} (he : env.wf) {s : List UInt8} {o : Option (Tm × List UInt8)} (h : RdT env.full s o) (hn : ∀ t, o ≠ some (t, [])) : ¬ Shape s := by
  rintro ⟨t, h1, h2⟩
  obtain ⟨a, b, c⟩ := Tm.bind_facts env.full (Env.full_wf he) t
  exact hn _ (h.comp (t.bind env.full) [] (b h1) (c (Env.full_some env)) end_nil (by rw [a, h2]; simp))
end T
end Go.Proofs.YtikiaijgcjjloaaGreatDoor

namespace Go.Proofs.YtikiaijgcjjloaaGreatDoor
open Go Go.RowKit M T Go.Lib
structure But (rb : Nat) (w w' : World) : Prop where
  os : w'.os = w.os
  tape : w'.tape = w.tape
  output : w'.output = w.output
  size : w.heap.size ≤ w'.heap.size
  block : ∀ k, k < w.heap.size → k ≠ rb → w'.heap[k]? = w.heap[k]?
theorem But.refl (rb : Nat) (w : World) : But rb w w := ⟨rfl, rfl, rfl, Nat.le_refl _, fun _ _ _ => rfl⟩
theorem But.trans {rb : Nat} {a b c : World} (h : But rb a b) (k : But rb b c) : But rb a c :=
  ⟨k.os.trans h.os, k.tape.trans h.tape, k.output.trans h.output, Nat.le_trans h.size k.size, fun i hi hn => (k.block i (Nat.lt_of_lt_of_le hi h.size) hn).trans (h.block i hi hn)⟩
theorem But.of_below {rb : Nat} {w w' : World} (h : Below w.heap.size w w') : But rb w w' := ⟨h.os, h.tape, h.output, h.size, fun k hk _ => h.block k hk⟩
theorem But.drew {rb : Nat} {a w : World} (h : But rb a w) : But rb a w.drew := h.trans ⟨rfl, rfl, rfl, Nat.le_refl _, fun _ _ _ => rfl⟩
theorem But.drewN {rb : Nat} {a w : World} (h : But rb a w) (n : Nat) : But rb a (w.drewN n) := h.trans ⟨rfl, rfl, rfl, Nat.le_refl _, fun _ _ _ => rfl⟩
theorem But.alloc {rb : Nat} {a w : World} (h : But rb a w) (o : Obj) : But rb a (w.alloc o) := h.trans ⟨rfl, rfl, rfl, by simp, fun k hk _ => Below.heap_alloc _ _ _ hk⟩
theorem But.setCell {rb : Nat} {a w : World} (h : But rb a w) (o : Nat) (u : Value) : But rb a (w.setCell ⟨rb, o, none⟩ u) :=
  h.trans ⟨rfl, rfl, rfl, by simp [World.setCell], fun k _ hn => Below.heap_setCell _ _ _ _ (by simpa using hn)⟩
theorem But.setNew {rb : Nat} {a w : World} (h : But rb a w) {p : Addr} (hp : a.heap.size ≤ p.block) (u : Value) : But rb a (w.setCell p u) :=
  ⟨h.os, h.tape, h.output, by simpa [World.setCell] using h.size, fun k hk hn => (Below.heap_setCell _ _ _ _ (by omega)).trans (h.block k hk hn)⟩
theorem But.grown {rb : Nat} {a w w' : World} {row : Option Nat} (h : But rb a w) (hg : w.grownBy w' row) (hr : ∀ k, row = some k → a.heap.size ≤ k) : But rb a w' :=
  ⟨hg.os.trans h.os, hg.tape.trans h.tape, hg.output.trans h.output, Nat.le_trans h.size hg.size, fun k hk hn => (hg.block k (Nat.lt_of_lt_of_le hk h.size) (fun e => by have := hr k e.symm; omega)).trans (h.block k hk hn)⟩
theorem But.cell {rb : Nat} {w w' : World} (h : But rb w w') {p : Addr} (hp : p.block < w.heap.size) (hn : p.block ≠ rb) : w'.cell? p = w.cell? p := World.cell?_of_block (w := w) (h.block p.block hp hn)
theorem But.frozen {rb : Nat} {w w' : World} (h : But rb w w') {p : Addr} (hp : p.block < w.heap.size) (hn : p.block ≠ rb) : w'.frozen? p = w.frozen? p := World.frozen?_of_block (w := w) (h.block p.block hp hn)
theorem But.below {rb B : Nat} {w w' : World} (h : But rb w w') (hB : B ≤ w.heap.size) (hr : B ≤ rb) : Below B w w' := ⟨h.os, h.tape, h.output, h.size, fun k hk => h.block k (by omega) (by omega)⟩
theorem blk_cell {w : World} {b : Nat} {c : Array Value} {t : TypeId} (h : w.heap[b]? = some (.cells c t (0, 0))) (i : Nat) : w.cell? ⟨b, i, none⟩ = c[i]? := by simp [World.cell?, h]
theorem blk_free {w : World} {b : Nat} {c : Array Value} {t : TypeId} (h : w.heap[b]? = some (.cells c t (0, 0))) (i : Nat) : w.frozen? ⟨b, i, none⟩ = false := by simp [World.frozen?, h]
theorem blk_set {w : World} {b : Nat} {c : Array Value} {t : TypeId} (h : w.heap[b]? = some (.cells c t (0, 0))) (i : Nat) (u : Value) : (w.setCell ⟨b, i, none⟩ u).heap[b]? = some (.cells (c.setIfInBounds i u) t (0, 0)) := by
  have hlt := lt_of_block h
  have h' : w.heap[b] = .cells c t (0, 0) := by simpa [Array.getElem?_eq_getElem hlt] using h
  show (w.heap.modify b _)[b]? = _
  rw [Array.getElem?_eq_getElem (by simpa using hlt), Array.getElem_modify_self, h']
  rfl
structure PC where
  L : UInt8
  N : UInt8
  K : Int
  Tp : Int
  Bt : Int
  pa : Option Addr
  pn : Nat
  pc : Nat
  Bo : Option Nat
  Ov : Option Nat
def ptr (o : Option Nat) : Value := .pointer (o.map fun b => ⟨b, 0, none⟩)
def PC.cells (x : PC) : List Value := [.int .u8 (x.L.toNat : Int), .int .u8 (x.N.toNat : Int), .int .i64 x.K, .int .i64 x.Tp, .int .i64 x.Bt, .slice x.pa x.pn x.pc, ptr x.Bo, ptr x.Ov]
def PC.value (x : PC) : Value := .agg x.cells.toArray
theorem PC.cells_length (x : PC) : x.cells.length = 8 := rfl
def rowCells (xs : List PC) : List Value := (xs.map PC.cells).flatten
def SpIs (Ok : Nat → Prop) (w : World) (x : PC) (y : Sp) : Prop :=
  x.L = y.first ∧ match y with
    | .plus c => x.Tp = c.num ∧ x.Bt = (c.den : Int)
    | .times c => x.Tp = c.num ∧ x.Bt = (c.den : Int)
    | .set c => x.Tp = c.num ∧ x.Bt = (c.den : Int)
    | .shift k => x.K = k
    | .take k => x.K = (k : Int)
    | .drop k => x.K = (k : Int)
    | .pick ps => w.ownsRow 0 3 1 (.slice x.pa x.pn x.pc) ps.length (ps.map fun i : Nat => Value.int .i64 (i : Int)) ∧ ∀ g, (Value.slice x.pa x.pn x.pc).ownBlock = some g → Ok g
    | _ => True
structure Hd (Ok : Nat → Prop) (w : World) (b : Nat) (t : Tm) (sl : Value) (xs : List PC) : Prop where
  ok : Ok b
  blk : w.heap[b]? = some (.cells #[sl, .bool t.back, .bool t.picker, .bool t.plain] 75 (0, 0))
  row : w.ownsRow 0 148 8 sl xs.length (rowCells xs)
  rok : ∀ g, sl.ownBlock = some g → Ok g
mutual
def PtIs (Ok : Nat → Prop) (w : World) (x : PC) : Pt → Prop
  | .sp y => SpIs Ok w x y
  | .pow f k => x.L = 40 ∧ x.K = k ∧ ∃ b sl xs, x.Bo = some b ∧ Hd Ok w b f sl xs ∧ PsIs Ok w xs f
  | .under s g => x.L = 91 ∧ (∃ b sl xs, x.Bo = some b ∧ Hd Ok w b g sl xs ∧ PsIs Ok w xs g) ∧ ∃ b sl xs, x.Ov = some b ∧ Hd Ok w b s sl xs ∧ PsIs Ok w xs s
  | .name c t => x.L = 65 ∧ x.N = c ∧ ∃ b sl xs, x.Bo = some b ∧ Hd Ok w b t sl xs ∧ PsIs Ok w xs t
def PsIs (Ok : Nat → Prop) (w : World) (l : List PC) : Tm → Prop
  | .nil => l = []
  | .cons p t => ∃ x xs, l = x :: xs ∧ PtIs Ok w x p ∧ PsIs Ok w xs t
end
def TmIs (Ok : Nat → Prop) (w : World) (b : Nat) (t : Tm) : Prop := ∃ sl xs, Hd Ok w b t sl xs ∧ PsIs Ok w xs t
def Keeps (Ok : Nat → Prop) (w : World) (Ok' : Nat → Prop) (w' : World) : Prop := ∀ k, Ok k → k < w.heap.size → w'.heap[k]? = w.heap[k]? ∧ Ok' k
theorem owns_keeps {w w' : World} {e : TypeId} {size : Nat} {v : Value} {n : Nat} {xs : List Value} {Ok Ok' : Nat → Prop} (h : w.ownsRow 0 e size v n xs) (ho : ∀ g, v.ownBlock = some g → Ok g) (hk : Keeps Ok w Ok' w') : w'.ownsRow 0 e size v n xs ∧ ∀ g, v.ownBlock = some g → Ok' g := by
  refine ⟨⟨h.1, ?_⟩, fun g hg => (hk g (ho g hg) (h.lt g hg).2).2⟩
  rcases h.2 with h2 | ⟨g, cap, cur, hv, hb, hh, r⟩
  · exact Or.inl h2
  · have hg : v.ownBlock = some g := by rw [hv]; rfl
    exact Or.inr ⟨g, cap, cur, hv, hb, by rw [(hk g (ho g hg) (lt_of_block hh)).1]; exact hh, r⟩
theorem Hd.keeps {Ok Ok' : Nat → Prop} {w w' : World} {b : Nat} {t : Tm} {sl : Value} {xs : List PC} (h : Hd Ok w b t sl xs) (hk : Keeps Ok w Ok' w') : Hd Ok' w' b t sl xs := by
  obtain ⟨a, c⟩ := hk b h.ok (lt_of_block h.blk)
  obtain ⟨d, e⟩ := owns_keeps h.row h.rok hk
  exact ⟨c, by rw [a]; exact h.blk, d, e⟩
theorem SpIs.keeps {Ok Ok' : Nat → Prop} {w w' : World} {x : PC} {y : Sp} (h : SpIs Ok w x y) (hk : Keeps Ok w Ok' w') : SpIs Ok' w' x y := by
  refine ⟨h.1, ?_⟩
  have h2 := h.2
  cases y <;> first
    | exact owns_keeps h2.1 h2.2 hk
    | exact h2
mutual
theorem PtIs.keeps {Ok Ok' : Nat → Prop} {w w' : World} (hk : Keeps Ok w Ok' w') : ∀ (p : Pt) (x : PC), PtIs Ok w x p → PtIs Ok' w' x p
  | .sp y, x, h => by rw [PtIs] at h ⊢; exact h.keeps hk
  | .pow f k, x, h => by
    rw [PtIs] at h ⊢
    obtain ⟨h1, h2, b, sl, xs, h3, h4, h5⟩ := h
    exact ⟨h1, h2, b, sl, xs, h3, h4.keeps hk, PsIs.keeps hk f xs h5⟩
  | .under s g, x, h => by
    rw [PtIs] at h ⊢
    obtain ⟨h1, ⟨b, sl, xs, h3, h4, h5⟩, b', sl', xs', h3', h4', h5'⟩ := h
    exact ⟨h1, ⟨b, sl, xs, h3, h4.keeps hk, PsIs.keeps hk g xs h5⟩, b', sl', xs', h3', h4'.keeps hk, PsIs.keeps hk s xs' h5'⟩
  | .name c t, x, h => by
    rw [PtIs] at h ⊢
    obtain ⟨h1, h2, b, sl, xs, h3, h4, h5⟩ := h
    exact ⟨h1, h2, b, sl, xs, h3, h4.keeps hk, PsIs.keeps hk t xs h5⟩
theorem PsIs.keeps {Ok Ok' : Nat → Prop} {w w' : World} (hk : Keeps Ok w Ok' w') : ∀ (t : Tm) (l : List PC), PsIs Ok w l t → PsIs Ok' w' l t
  | .nil, l, h => by rw [PsIs] at h ⊢; exact h
  | .cons p t, l, h => by
    rw [PsIs] at h ⊢
    obtain ⟨x, xs, h1, h2, h3⟩ := h
    exact ⟨x, xs, h1, PtIs.keeps hk p x h2, PsIs.keeps hk t xs h3⟩
end
theorem TmIs.keeps {Ok Ok' : Nat → Prop} {w w' : World} {b : Nat} {t : Tm} (h : TmIs Ok w b t) (hk : Keeps Ok w Ok' w') : TmIs Ok' w' b t := by
  obtain ⟨sl, xs, h1, h2⟩ := h
  exact ⟨sl, xs, h1.keeps hk, PsIs.keeps hk t xs h2⟩
theorem PtIs.pow_iff {Ok : Nat → Prop} {w : World} {x : PC} {f : Tm} {k : Int} : PtIs Ok w x (.pow f k) ↔ x.L = 40 ∧ x.K = k ∧ ∃ b, x.Bo = some b ∧ TmIs Ok w b f := by
  rw [PtIs]
  constructor
  · rintro ⟨h1, h2, b, sl, xs, h3, h4, h5⟩; exact ⟨h1, h2, b, h3, sl, xs, h4, h5⟩
  · rintro ⟨h1, h2, b, h3, sl, xs, h4, h5⟩; exact ⟨h1, h2, b, sl, xs, h3, h4, h5⟩
theorem PtIs.under_iff {Ok : Nat → Prop} {w : World} {x : PC} {s g : Tm} : PtIs Ok w x (.under s g) ↔ x.L = 91 ∧ (∃ b, x.Bo = some b ∧ TmIs Ok w b g) ∧ ∃ b, x.Ov = some b ∧ TmIs Ok w b s := by
  rw [PtIs]
  constructor
  · rintro ⟨h1, ⟨b, sl, xs, h3, h4, h5⟩, b', sl', xs', h3', h4', h5'⟩; exact ⟨h1, ⟨b, h3, sl, xs, h4, h5⟩, b', h3', sl', xs', h4', h5'⟩
  · rintro ⟨h1, ⟨b, h3, sl, xs, h4, h5⟩, b', h3', sl', xs', h4', h5'⟩; exact ⟨h1, ⟨b, sl, xs, h3, h4, h5⟩, b', sl', xs', h3', h4', h5'⟩
theorem PtIs.name_iff {Ok : Nat → Prop} {w : World} {x : PC} {c : UInt8} {t : Tm} : PtIs Ok w x (.name c t) ↔ x.L = 65 ∧ x.N = c ∧ ∃ b, x.Bo = some b ∧ TmIs Ok w b t := by
  rw [PtIs]
  constructor
  · rintro ⟨h1, h2, b, sl, xs, h3, h4, h5⟩; exact ⟨h1, h2, b, h3, sl, xs, h4, h5⟩
  · rintro ⟨h1, h2, b, h3, sl, xs, h4, h5⟩; exact ⟨h1, h2, b, sl, xs, h3, h4, h5⟩
theorem PsIs.of_snoc {Ok : Nat → Prop} {w : World} : ∀ (ps : List Pt) (xs : List PC) (p : Pt) (x : PC), PsIs Ok w xs (Tm.of ps) → PtIs Ok w x p → PsIs Ok w (xs ++ [x]) (Tm.of (ps ++ [p]))
  | [], xs, p, x, h, hp => by
    rw [Tm.of, PsIs] at h
    subst h
    rw [List.nil_append, List.nil_append, Tm.of, Tm.of, PsIs]
    exact ⟨x, [], rfl, hp, by rw [PsIs]⟩
  | q :: ps, xs, p, x, h, hp => by
    rw [Tm.of, PsIs] at h
    obtain ⟨y, ys, rfl, h1, h2⟩ := h
    rw [List.cons_append, List.cons_append, Tm.of, PsIs]
    exact ⟨y, ys ++ [x], rfl, h1, PsIs.of_snoc ps ys p x h2 hp⟩
theorem PsIs.length {Ok : Nat → Prop} {w : World} : ∀ (ps : List Pt) (xs : List PC), PsIs Ok w xs (Tm.of ps) → xs.length = ps.length
  | [], xs, h => by rw [Tm.of, PsIs] at h; subst h; rfl
  | q :: ps, xs, h => by
    rw [Tm.of, PsIs] at h
    obtain ⟨y, ys, rfl, _, h2⟩ := h
    rw [List.length_cons, List.length_cons, PsIs.length ps ys h2]
theorem of_facts (ps : List Pt) (p : Pt) : (Tm.of (ps ++ [p])).back = ((Tm.of ps).back && p.back) ∧ (Tm.of (ps ++ [p])).picker = ((Tm.of ps).picker && p.picker) ∧ (Tm.of (ps ++ [p])).plain = ((Tm.of ps).plain && p.plain) := by
  induction ps with
  | nil => simp [Tm.of, Tm.back, Tm.picker, Tm.plain]
  | cons q ps ih =>
    rw [List.cons_append, Tm.of, Tm.of, Tm.back, Tm.back, Tm.picker, Tm.picker, Tm.plain, Tm.plain, ih.1, ih.2.1, ih.2.2]
    simp [Bool.and_assoc]
end Go.Proofs.YtikiaijgcjjloaaGreatDoor

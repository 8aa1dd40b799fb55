import Derived.Test.YtknokhbilckmiaaGreatDoorPart11
import Derived.Test.YtknokhbilckmiaaGreatDoorPart23

/- Brackets found by their ends: what stands at the head of a text. No program in this text. -/
namespace Go.Proofs.YtknokhbilckmiaaGreatDoor
namespace T
open Go.Lib M

theorem closeIdx_lt : ∀ (l : List UInt8) (d : Int) (k : Nat), closeIdx l d = some k → k < l.length
  | [], _, _, h => by cases h
  | c :: l, d, k, h => by
    rw [closeIdx] at h
    split at h
    · cases h; simp
    · cases hc : closeIdx l (deeper c d) with
      | none => rw [hc] at h; cases h
      | some j =>
        rw [hc] at h
        cases h
        have := closeIdx_lt l _ j hc
        simp
        omega
theorem closeIdx_pos {o : UInt8} (ho : o = 40 ∨ o = 91) {l : List UInt8} {k : Nat} (h : closeIdx (o :: l) 0 = some k) : 1 ≤ k ∧ k - 1 < l.length := by
  have hlt := closeIdx_lt _ _ _ h
  rw [closeIdx, deeper_open ho, if_neg (by omega)] at h
  cases hc : closeIdx l (0 + 1) with
  | none => rw [hc] at h; cases h
  | some j =>
    rw [hc] at h
    cases h
    simp at hlt
    exact ⟨by simp, by simp; omega⟩
theorem colonIdx_at : ∀ (l : List UInt8) (d : Int) (k : Nat), colonIdx l d = some k → l = l.take k ++ 58 :: l.drop (k + 1)
  | [], _, _, h => by cases h
  | c :: l, d, k, h => by
    rw [colonIdx] at h
    split at h
    · rename_i hc
      cases h
      simp [hc.2]
    · cases hc : colonIdx l (deeper c d) with
      | none => rw [hc] at h; cases h
      | some j =>
        rw [hc] at h
        cases h
        have := colonIdx_at l _ j hc
        simp only [List.take_succ_cons, List.drop_succ_cons, List.cons_append]
        rw [← this]
theorem pow_shape {l r : List UInt8} {p : Pt} (hw : p.wf) (e : 40 :: l = p.text ++ r) : ∃ f k, p = .pow f k ∧ f.wf ∧ -999 ≤ k ∧ k ≤ 999 ∧ closeIdx (40 :: l) 0 = some (f.text.length + 1) ∧ l.take f.text.length = f.text ∧ l.drop f.text.length = 41 :: 94 :: (itoa k ++ r) := by
  obtain ⟨f, k, rfl, a, b, c, e2⟩ := pow_only hw e
  refine ⟨f, k, rfl, a, b, c, ?_, ?_, ?_⟩
  · rw [e2]
    exact close_at f a (Or.inl rfl) (Or.inl rfl) _
  · rw [e2]; simp
  · rw [e2]; simp
theorem under_shape {l r : List UInt8} {p : Pt} (hw : p.wf) (e : 91 :: l = p.text ++ r) : ∃ s g, p = .under s g ∧ s.wf ∧ g.wf ∧ closeIdx (91 :: l) 0 = some (s.text.length + g.text.length + 2) ∧ l.take (s.text.length + g.text.length + 1) = s.text ++ 58 :: g.text ∧ l.drop (s.text.length + g.text.length + 1) = 93 :: r := by
  obtain ⟨s, g, rfl, a, b, e2⟩ := under_only hw e
  refine ⟨s, g, rfl, a, b, ?_, ?_, ?_⟩
  · rw [e2]
    exact close_under s g a b _
  · rw [e2, show s.text ++ 58 :: (g.text ++ 93 :: r) = (s.text ++ 58 :: g.text) ++ 93 :: r by simp, List.take_left' (by simp; omega)]
  · rw [e2, show s.text ++ 58 :: (g.text ++ 93 :: r) = (s.text ++ 58 :: g.text) ++ 93 :: r by simp, List.drop_left' (by simp; omega)]
theorem pow_no_close (env : Env) {l : List UInt8} (h : closeIdx (40 :: l) 0 = none) : RdP env (40 :: l) none := by
  refine ⟨fun p q e => by (cases e), fun p q hw _ _ e => ?_⟩
  obtain ⟨f, k, rfl, _, _, _, h1, _⟩ := pow_shape hw e
  rw [h] at h1; cases h1
theorem pow_bad_close (env : Env) {l : List UInt8} {k : Nat} (h : closeIdx (40 :: l) 0 = some k) (hn : ∀ R, l.drop (k - 1) ≠ 41 :: 94 :: R) : RdP env (40 :: l) none := by
  refine ⟨fun p q e => by (cases e), fun p q hw _ _ e => ?_⟩
  obtain ⟨f, k', rfl, _, _, _, h1, _, h3⟩ := pow_shape hw e
  rw [h] at h1
  cases h1
  exact absurd h3 (hn _)
/-- What a whole text is, as a term. -/
structure Whole (env : Env) (F : List UInt8) (o : Option Tm) : Prop where
  sound : ∀ f, o = some f → f.wf ∧ f.inEnv env ∧ F = f.text
  comp : ∀ f, f.wf → f.inEnv env → F = f.text → o = some f
theorem pow_ref (env : Env) {l R : List UInt8} {k : Nat} (h : closeIdx (40 :: l) 0 = some k) (hR : l.drop (k - 1) = 41 :: 94 :: R) {oF : Option Tm} (hF : Whole env (l.take (k - 1)) oF) {o : Option (Int × List UInt8)} (hk : WhAt R (-999) 999 o) {res : Option (Pt × List UInt8)} (hyes : ∀ f x, oF = some f → o = some x → res = some (.pow f x.1, x.2)) (hres : ∀ y, res = some y → ∃ f x, oF = some f ∧ o = some x ∧ y = (.pow f x.1, x.2)) : RdP env (40 :: l) res := by
  obtain ⟨hk1, hk2⟩ := closeIdx_pos (Or.inl rfl) h
  refine ⟨fun p q e => ?_, fun p q hw he hst e => ?_⟩
  · obtain ⟨f, x, e1, e2, e3⟩ := hres _ e
    cases e3
    subst e1 e2
    obtain ⟨a1, a2, a3⟩ := hF.sound _ rfl
    obtain ⟨b1, b2, b3⟩ := hk.sound x.1 x.2 rfl
    refine ⟨by rw [Pt.wf]; exact ⟨a1, b1, b2⟩, by rw [Pt.inEnv]; exact a2, ?_⟩
    rw [Pt.text]
    have h1 := List.take_append_drop (k - 1) l
    rw [hR, b3, a3] at h1
    rw [← h1]
    simp
  · obtain ⟨f, k', rfl, h1, h2, h3, h4, h5, h6⟩ := pow_shape hw e
    rw [h] at h4
    cases h4
    rw [Pt.inEnv] at he
    rw [Nat.add_sub_cancel] at hR hF
    rw [hR] at h6
    simp only [List.cons.injEq, true_and] at h6
    have g1 := hF.comp f h1 he h5
    have g2 := hk.comp k' q h2 h3 hst.noDig h6
    exact hyes f (k', q) g1 g2
theorem under_no_close (env : Env) {l : List UInt8} (h : closeIdx (91 :: l) 0 = none) : RdP env (91 :: l) none := by
  refine ⟨fun p q e => by (cases e), fun p q hw _ _ e => ?_⟩
  obtain ⟨f, k, rfl, _, _, h1, _⟩ := under_shape hw e
  rw [h] at h1; cases h1
theorem under_bad_close (env : Env) {l : List UInt8} {k : Nat} (h : closeIdx (91 :: l) 0 = some k) (hn : ∀ R, l.drop (k - 1) ≠ 93 :: R) : RdP env (91 :: l) none := by
  refine ⟨fun p q e => by (cases e), fun p q hw _ _ e => ?_⟩
  obtain ⟨f, k', rfl, _, _, h1, _, h3⟩ := under_shape hw e
  rw [h] at h1
  cases h1
  exact absurd h3 (hn _)
theorem under_no_colon (env : Env) {l : List UInt8} {k : Nat} (h : closeIdx (91 :: l) 0 = some k) (hn : colonIdx (l.take (k - 1)) 0 = none) : RdP env (91 :: l) none := by
  refine ⟨fun p q e => by (cases e), fun p q hw _ _ e => ?_⟩
  obtain ⟨f, k', rfl, w1, _, h1, h2, h3⟩ := under_shape hw e
  rw [h] at h1
  cases h1
  rw [show f.text.length + k'.text.length + 2 - 1 = f.text.length + k'.text.length + 1 by omega, h2, colon_at f w1] at hn
  cases hn
theorem under_ref (env : Env) {l R : List UInt8} {k c : Nat} (h : closeIdx (91 :: l) 0 = some k) (hR : l.drop (k - 1) = 93 :: R) (hc : colonIdx (l.take (k - 1)) 0 = some c) {oF oG : Option Tm} (hF : Whole env ((l.take (k - 1)).take c) oF) (hG : Whole env ((l.take (k - 1)).drop (c + 1)) oG) {res : Option (Pt × List UInt8)} (hyes : ∀ f g, oF = some f → oG = some g → res = some (.under f g, R)) (hres : ∀ y, res = some y → ∃ f g, oF = some f ∧ oG = some g ∧ y = (.under f g, R)) : RdP env (91 :: l) res := by
  refine ⟨fun p q e => ?_, fun p q hw he hst e => ?_⟩
  · obtain ⟨f, g, e1, e2, e3⟩ := hres _ e
    cases e3
    subst e1 e2
    obtain ⟨a1, a2, a3⟩ := hF.sound _ rfl
    obtain ⟨b1, b2, b3⟩ := hG.sound _ rfl
    refine ⟨by rw [Pt.wf]; exact ⟨a1, b1⟩, by rw [Pt.inEnv]; exact ⟨a2, b2⟩, ?_⟩
    have h1 := List.take_append_drop (k - 1) l
    have h2 := colonIdx_at _ _ _ hc
    rw [a3, b3] at h2
    rw [hR, h2] at h1
    rw [Pt.text, ← h1]
    simp
  · obtain ⟨s', g', rfl, w1, w2, h1, h2, h3⟩ := under_shape hw e
    rw [h] at h1
    cases h1
    rw [show s'.text.length + g'.text.length + 2 - 1 = s'.text.length + g'.text.length + 1 by omega] at hR hc hF hG
    rw [h2, colon_at s' w1] at hc
    cases hc
    rw [Pt.inEnv] at he
    rw [hR] at h3
    cases h3
    have g1 := hF.comp s' w1 he.1 (by rw [h2]; simp)
    have g2 := hG.comp g' w2 he.2 (by rw [h2]; simp [List.drop_append])
    exact hyes s' g' g1 g2
/-- Part behind part, without a look at what may end a term within brackets. -/
theorem Ahead.step {env : Env} {l0 l : List UInt8} {ps : List Pt} (h : Ahead env l0 ps l) {p : Pt} {r : List UInt8} (hp : RdP env l (some (p, r))) : Ahead env l0 (ps ++ [p]) r := by
  obtain ⟨a, _, c⟩ := hp.sound _ _ rfl
  exact h.next (by rw [c]; exact (Pt.first_stop p a _).2) hp
theorem Ahead.whole {env : Env} {l0 : List UInt8} {ps : List Pt} (h : Ahead env l0 ps []) : Whole env l0 (some (Tm.of ps)) := by
  have hd := h.done end_nil
  refine ⟨fun f e => ?_, fun f h1 h2 e => ?_⟩
  · cases e
    obtain ⟨a, b, c, _⟩ := hd.sound _ _ rfl
    exact ⟨a, b, by rw [c]; simp⟩
  · have := hd.comp f [] h1 h2 end_nil (by rw [e]; simp)
    simp only [Option.some.injEq, Prod.mk.injEq, and_true] at this
    rw [this]
theorem Ahead.none {env : Env} {l0 l : List UInt8} {ps : List Pt} (h : Ahead env l0 ps l) (hl : l ≠ []) (hp : RdP env l Option.none) : Whole env l0 Option.none := by
  refine ⟨fun f e => by (cases e), fun t h1 h2 e => ?_⟩
  obtain ⟨t', e1, e2, e3, e4⟩ := h.comp t [] h1 h2 end_nil (by rw [e]; simp)
  rw [List.append_nil] at e4
  cases t' with
  | nil => rw [Tm.text] at e4; exact absurd e4 hl
  | cons p t' =>
    rw [Tm.wf] at e2
    rw [Tm.inEnv] at e3
    rw [Tm.text] at e4
    have := hp.comp p t'.text e2.1 e3.1 (by have := Tm.text_stop t' e2.2 end_nil; simpa using this) e4
    cases this
/-- Names that mean nothing yet. -/
def E0 : Env := fun _ => some .nil
theorem E0_wf : E0.wf := fun c b h => by
  cases h
  exact (trivial : True)
theorem whole_shape {F : List UInt8} (h : Whole E0 F none) : ¬ Shape F := by
  rintro ⟨t, h1, h2⟩
  obtain ⟨a, b, c⟩ := Tm.bind_facts E0 E0_wf t
  have := h.comp (t.bind E0) (b h1) (c (fun _ h => by cases h)) (by rw [a, h2])
  cases this
end T
end Go.Proofs.YtknokhbilckmiaaGreatDoor

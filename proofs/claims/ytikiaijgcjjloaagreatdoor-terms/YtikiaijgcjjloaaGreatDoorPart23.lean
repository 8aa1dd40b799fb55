import Derived.Test.YtikiaijgcjjloaaGreatDoorPart8
import Derived.Test.YtikiaijgcjjloaaGreatDoorPart20
import Derived.Test.YtikiaijgcjjloaaGreatDoorPart22

/- Brackets found by their ends: what stands at the head of a text. No program in this text. -/
namespace Go.Proofs.YtikiaijgcjjloaaGreatDoor
namespace T
open Go.Lib M

theorem closeIdx_lt : ∀ (l : List UInt8) (d : Int) (k : Nat), closeIdx l d = some k → k < l.length
  | [], _, _, h => by cases h
  | c :: l, d, k, h => by
    rw [closeIdx] at h
    split at h
    · cases h; simp
    · cases hc : closeIdx l (deeper c d) with
      | none => rw [hc] at h; cases h
      | some j =>
        rw [hc] at h
        cases h
        have := closeIdx_lt l _ j hc
        simp
        omega
theorem closeIdx_pos {o : UInt8} (ho : o = 40 ∨ o = 91) {l : List UInt8} {k : Nat} (h : closeIdx (o :: l) 0 = some k) : 1 ≤ k ∧ k - 1 < l.length := by
  have hlt := closeIdx_lt _ _ _ h
  rw [closeIdx, deeper_open ho, if_neg (by omega)] at h
  cases hc : closeIdx l (0 + 1) with
  | none => rw [hc] at h; cases h
  | some j =>
    rw [hc] at h
    cases h
    simp at hlt
    exact ⟨by simp, by simp; omega⟩
theorem colonIdx_at : ∀ (l : List UInt8) (d : Int) (k : Nat), colonIdx l d = some k → l = l.take k ++ 58 :: l.drop (k + 1)
  | [], _, _, h => by cases h
  | c :: l, d, k, h => by
    rw [colonIdx] at h
    split at h
    · rename_i hc
      cases h
      simp [hc.2]
    · cases hc : colonIdx l (deeper c d) with
      | none => rw [hc] at h; cases h
      | some j =>
        rw [hc] at h
        cases h
        have := colonIdx_at l _ j hc
        simp only [List.take_succ_cons, List.drop_succ_cons, List.cons_append]
        rw [← this]
theorem pow_shape {l r : List UInt8} {p : Pt} (hw : p.wf) (e : 40 :: l = p.text ++ r) : ∃ f k, p = .pow f k ∧ f.wf ∧ -999 ≤ k ∧ k ≤ 999 ∧ closeIdx (40 :: l) 0 = some (f.text.length + 1) ∧ l.take f.text.length = f.text ∧ l.drop f.text.length = 41 :: 94 :: (itoa k ++ r) := by
  obtain ⟨f, k, rfl, a, b, c, e2⟩ := pow_only hw e
  refine ⟨f, k, rfl, a, b, c, ?_, ?_, ?_⟩
  · rw [e2]
    exact close_at f a (Or.inl rfl) (Or.inl rfl) _
  · rw [e2]; simp
  · rw [e2]; simp
theorem under_shape {l r : List UInt8} {p : Pt} (hw : p.wf) (e : 91 :: l = p.text ++ r) : ∃ s g, p = .under s g ∧ s.wf ∧ g.wf ∧ closeIdx (91 :: l) 0 = some (s.text.length + g.text.length + 2) ∧ l.take (s.text.length + g.text.length + 1) = s.text ++ 58 :: g.text ∧ l.drop (s.text.length + g.text.length + 1) = 93 :: r := by
  obtain ⟨s, g, rfl, a, b, e2⟩ := under_only hw e
  refine ⟨s, g, rfl, a, b, ?_, ?_, ?_⟩
  · rw [e2]
    exact close_under s g a b _
  · rw [e2, show s.text ++ 58 :: (g.text ++ 93 :: r) = (s.text ++ 58 :: g.text) ++ 93 :: r by simp, List.take_left' (by simp; omega)]
  · rw [e2, show s.text ++ 58 :: (g.text ++ 93 :: r) = (s.text ++ 58 :: g.text) ++ 93 :: r by simp, List.drop_left' (by simp; omega)]
theorem pow_no_close (env : Env) {l : List UInt8} (h : closeIdx (40 :: l) 0 = none) : RdP env (40 :: l) none := by
  refine ⟨fun p q e => by (cases e), fun p q hw _ _ e => ?_⟩
  obtain ⟨f, k, rfl, _, _, _, h1, _⟩ := pow_shape hw e
  rw [h] at h1; cases h1
theorem pow_bad_close (env : Env) {l : List UInt8} {k : Nat} (h : closeIdx (40 :: l) 0 = some k) (hn : ∀ R, l.drop (k - 1) ≠ 41 :: 94 :: R) : RdP env (40 :: l) none := by
  refine ⟨fun p q e => by (cases e), fun p q hw _ _ e => ?_⟩
  obtain ⟨f, k', rfl, _, _, _, h1, _, h3⟩ := pow_shape hw e
  rw [h] at h1
  cases h1
  exact absurd h3 (hn _)
/-- What a whole text is, as a term. -/
structure Whole (env : Env) (F : List UInt8) (o : Option Tm) : Prop where
  sound : ∀ f, o = some f → f.wf ∧ f.inEnv env ∧ F = f.text
  comp : ∀ f, f.wf → f.inEnv env → F = f.text → o = some f
theorem pow_ref (env : Env) {l R : List UInt8} {k : Nat} (h : closeIdx (40 :: l) 0 = some k) (hR : l.drop (k - 1) = 41 :: 94 :: R) {oF : Option Tm} (hF : Whole env (l.take (k - 1)) oF) {o : Option (Int × List UInt8)} (hk : WhAt R (-999) 999 o) {res : Option (Pt × List UInt8)} (hyes : ∀ f x, oF = some f → o = some x → res = some (.pow f x.1, x.2)) (hres : ∀ y, res = some y → ∃ f x, oF = some f ∧ o = some x ∧ y = (.pow f x.1, x.2)) : RdP env (40 :: l) res := by
  obtain ⟨hk1, hk2⟩ := closeIdx_pos (Or.inl rfl) h
  refine ⟨fun p q e => ?_, fun p q hw he hst e => ?_⟩
  · obtain ⟨f, x, e1, e2, e3⟩ := hres _ e
    cases e3
    subst e1 e2
    obtain ⟨a1, a2, a3⟩ := hF.sound _ rfl
    obtain ⟨b1, b2, b3⟩ := hk.sound x.1 x.2 rfl
    refine ⟨by rw [Pt.wf]; exact ⟨a1, b1, b2⟩, by rw [Pt.inEnv]; exact a2, ?_⟩
    rw [Pt.text]
    have h1 := List.take_append_drop (k - 1) l
    rw [hR, b3, a3] at h1
    rw [← h1]
    simp
  · obtain ⟨f, k', rfl, h1, h2, h3, h4, h5, h6⟩ := pow_shape hw e
    rw [h] at h4
    cases h4
    rw [Pt.inEnv] at he
    rw [Nat.add_sub_cancel] at hR hF
    rw [hR] at h6
    simp only [List.cons.injEq, true_and] at h6
    have g1 := hF.comp f h1 he h5
    have g2 := hk.comp k' q h2 h3 hst.noDig h6
    exact hyes f (k', q) g1 g2
theorem under_no_close (env : Env) {l : List UInt8} (h : closeIdx (91 :: l) 0 = none) : RdP env (91 :: l) none := by
  refine ⟨fun p q e => by (cases e), fun p q hw _ _ e => ?_⟩
  obtain ⟨f, k, rfl, _, _, h1, _⟩ := under_shape hw e
  rw [h] at h1; cases h1
theorem under_bad_close (env : Env) {l : List UInt8} {k : Nat} (h : closeIdx (91 :: l) 0 = some k) (hn : ∀ R, l.drop (k - 1) ≠ 93 :: R) : RdP env (91 :: l) none := by
  refine ⟨fun p q e => by (cases e), fun p q hw _ _ e => ?_⟩
  obtain ⟨f, k', rfl, _, _, h1, _, h3⟩ := under_shape hw e
  rw [h] at h1
  cases h1
  exact absurd h3 (hn _)
theorem under_no_colon (env : Env) {l : List UInt8} {k : Nat} (h : closeIdx (91 :: l) 0 = some k) (hn : colonIdx (l.take (k - 1)) 0 = none) : RdP env (91 :: l) none := by
  refine ⟨fun p q e => by (cases e), fun p q hw _ _ e => ?_⟩
  obtain ⟨f, k', rfl, w1, _, h1, h2, h3⟩ := under_shape hw e
  rw [h] at h1
  cases h1
  rw [show f.text.length + k'.text.length + 2 - 1 = f.text.length + k'.text.length + 1 by omega, h2, colon_at f w1] at hn
  cases hn
theorem under_ref (env : Env) {l R : List UInt8} {k c : Nat} (h : closeIdx (91 :: l) 0 = some k) (hR : l.drop (k - 1) = 93 :: R) (hc : colonIdx (l.take (k - 1)) 0 = some c) {oF oG : Option Tm} (hF : Whole env ((l.take (k - 1)).take c) oF) (hG : Whole env ((l.take (k - 1)).drop (c + 1)) oG) {res : Option (Pt × List UInt8)} (hyes : ∀ f g, oF = some f → oG = some g → res = some (.under f g, R)) (hres : ∀ y, res = some y → ∃ f g, oF = some f ∧ oG = some g ∧ y = (.under f g, R)) : RdP env (91 :: l) res := by
  refine ⟨fun p q e => ?_, fun p q hw he hst e => ?_⟩
  · obtain ⟨f, g, e1, e2, e3⟩ := hres _ e
    cases e3
    subst e1 e2
    obtain ⟨a1, a2, a3⟩ := hF.sound _ rfl
    obtain ⟨b1, b2, b3⟩ := hG.sound _ rfl
    refine ⟨by rw [Pt.wf]; exact ⟨a1, b1⟩, by rw [Pt.inEnv]; exact ⟨a2, b2⟩, ?_⟩
    have h1 := List.take_append_drop (k - 1) l
    have h2 := colonIdx_at _ _ _ hc
    rw [a3, b3] at h2
    rw [hR, h2] at h1
    rw [Pt.text, ← h1]
    simp
  · obtain ⟨s', g', rfl, w1, w2, h1, h2, h3⟩ := under_shape hw e
    rw [h] at h1
    cases h1
    rw [show s'.text.length + g'.text.length + 2 - 1 = s'.text.length + g'.text.length + 1 by omega] at hR hc hF hG
    rw [h2, colon_at s' w1] at hc
    cases hc
    rw [Pt.inEnv] at he
    rw [hR] at h3
    cases h3
    have g1 := hF.comp s' w1 he.1 (by rw [h2]; simp)
    have g2 := hG.comp g' w2 he.2 (by rw [h2]; simp [List.drop_append])
    exact hyes s' g' g1 g2
/-- Part behind part, without a look at what may end a term within brackets. -/
theorem Ahead.step {env : Env} {l0 l : List UInt8} {ps : List Pt} (h : Ahead env l0 ps l) {p : Pt} {r : List UInt8} (hp : RdP env l (some (p, r))) : Ahead env l0 (ps ++ [p]) r := by
  obtain ⟨a, _, c⟩ := hp.sound _ _ rfl
  exact h.next (by rw [c]; exact (Pt.first_stop p a _).2) hp
theorem Ahead.whole {env : Env} {l0 : List UInt8} {ps : List Pt} (h : Ahead env l0 ps []) : Whole env l0 (some (Tm.of ps)) := by
  have hd := h.done end_nil
  refine ⟨fun f e => ?_, fun f h1 h2 e => ?_⟩
  · cases e
    obtain ⟨a, b, c, _⟩ := hd.sound _ _ rfl
    exact ⟨a, b, by rw [c]; simp⟩
  · have := hd.comp f [] h1 h2 end_nil (by rw [e]; simp)
    simp only [Option.some.injEq, Prod.mk.injEq, and_true] at this
    rw [this]
theorem Ahead.none {env : Env} {l0 l : List UInt8} {ps : List Pt} (h : Ahead env l0 ps l) (hl : l ≠ []) (hp : RdP env l Option.none) : Whole env l0 Option.none := by
  refine ⟨fun f e => by (cases e), fun t h1 h2 e => ?_⟩
  obtain ⟨t', e1, e2, e3, e4⟩ := h.comp t [] h1 h2 end_nil (by rw [e]; simp)
  rw [List.append_nil] at e4
  cases t' with
  | nil => rw [Tm.text] at e4; exact absurd e4 hl
  | cons p t' =>
    rw [Tm.wf] at e2
    rw [Tm.inEnv] at e3
    rw [Tm.text] at e4
    have := hp.comp p t'.text e2.1 e3.1 (by have := Tm.text_stop t' e2.2 end_nil; simpa using this) e4
    cases this
/-- Names that mean nothing yet. -/
def E0 : Env := fun _ => some .nil
theorem E0_wf : E0.wf := fun c b h => by
  cases h
  exact (trivial : True)
theorem whole_shape {F : List UInt8} (h : Whole E0 F none) : ¬ Shape F := by
  rintro ⟨t, h1, h2⟩
  obtain ⟨a, b, c⟩ := Tm.bind_facts E0 E0_wf t
  have := h.comp (t.bind E0) (b h1) (c (fun _ h => by cases h)) (by rw [a, h2])
  cases this
end T
end Go.Proofs.YtikiaijgcjjloaaGreatDoor

/- The walks: the document's own answer: powers and unders. -/
namespace Go.Proofs.YtikiaijgcjjloaaGreatDoor
open Go Go.RowKit M T Go.Lib

def rz : Array Value := #[.int .u8 0, .int .i64 0, .int .i64 0, .int .i64 0, .slice none 0 0, .string ⟨#[]⟩, .string ⟨#[]⟩]
/-- A part of the document's own answer. -/
def RPt (w : World) (x : RC) : Pt → Prop
  | .sp y => x.Kd = y.first ∧ match y with
    | .plus c => x.P = c.num ∧ x.Q = (c.den : Int)
    | .times c => x.P = c.num ∧ x.Q = (c.den : Int)
    | .set c => x.P = c.num ∧ x.Q = (c.den : Int)
    | .shift k => x.K = k
    | .take k => x.K = (k : Int)
    | .drop k => x.K = (k : Int)
    | .pick ps => w.ownsRow 0 3 1 (.slice x.pa x.pn x.pc) ps.length (ints ps)
    | _ => True
  | .pow f k => x.Kd = 40 ∧ x.F.data.toList = f.text ∧ x.K = k
  | .under s g => x.Kd = 91 ∧ x.F.data.toList = s.text ∧ x.G.data.toList = g.text
  | .name c _ => x.Kd = c
/-- What cut, and its like, answer. -/
def CutGot (s : ByteArray) (a : Nat) (e : Ending) (w' : World) : Prop :=
  ∃ (x : RC) (b : Int) (ok : Bool), e = .returned (.tuple #[RC.value x, .int .i64 b, .bool ok]) ∧ ((ok = true ∧ ∃ (p : Pt) (c : Nat), b = (c : Int) ∧ c ≤ s.size ∧ RdP E0 (rest s a) (some (p, rest s c)) ∧ RPt w' x p) ∨ (ok = false ∧ RdP E0 (rest s a) none))
def rrow (xs : List RC) : List Value := (xs.map RC.cells).flatten
def RPl (w : World) : List RC → List Pt → Prop
  | [], [] => True
  | x :: xs, p :: ps => RPt w x p ∧ RPl w xs ps
  | _, _ => False
/-- What Parts answers. -/
def PartsGot (s : ByteArray) (e : Ending) (w' : World) : Prop :=
  ∃ v ok, e = .returned (.tuple #[v, .bool ok]) ∧ ((ok = true ∧ ∃ xs ps, Whole E0 s.data.toList (some (Tm.of ps)) ∧ w'.ownsRow 0 131 7 v xs.length (rrow xs) ∧ RPl w' xs ps) ∨ (ok = false ∧ v = .slice none 0 0 ∧ Whole E0 s.data.toList none))
def RPS (m : Nat) : Prop := ∀ (s : ByteArray) (w : World), s.size ≤ m → s.size ≤ 1000 → Calls Tryz.prog 99 #[.string s] w fun e w' => PartsGot s e w' ∧ Below w.heap.size w w'
/-- The result's block and the part's block. -/
structure PB (w : World) (c0 c1 : Array Value) (wx : World) : Prop where
  bel : Below w.heap.size w wx
  b0 : wx.heap[w.heap.size]? = some (.cells c0 131 (0, 0))
  b1 : wx.heap[w.heap.size + 1]? = some (.cells c1 131 (0, 0))
theorem PB.start (w : World) (c0 c1 : Array Value) : PB w c0 c1 ((w.alloc (.cells c0 131)).alloc (.cells c1 131)) :=
  ⟨(Below.refl _ _).alloc (Nat.le_refl _) _ |>.alloc (by simp) _, by rw [Below.heap_alloc _ _ _ (by simp)]; exact heap_alloc_new w _, new_at2 w _ _⟩
theorem PB.next {w : World} {c0 c1 : Array Value} {wx wy : World} (h : PB w c0 c1 wx) (hb : Below wx.heap.size wx wy) : PB w c0 c1 wy :=
  ⟨h.bel.trans (hb.mono h.bel.size), by rw [hb.block _ (lt_of_block h.b0)]; exact h.b0, by rw [hb.block _ (lt_of_block h.b1)]; exact h.b1⟩
theorem PB.set {w : World} {c0 c1 : Array Value} {wx : World} (h : PB w c0 c1 wx) (i : Nat) (v : Value) : PB w c0 (c1.setIfInBounds i v) (wx.setCell ⟨w.heap.size + 1, i, none⟩ v) :=
  ⟨h.bel.setCell (p := ⟨w.heap.size + 1, i, none⟩) (Nat.le_succ _) _, by rw [Below.heap_setCell _ _ _ _ (by show w.heap.size ≠ w.heap.size + 1; omega)]; exact h.b0, blk_set h.b1 i v⟩
theorem PB.f {w : World} {c0 c1 : Array Value} {wx : World} (h : PB w c0 c1 wx) : (∀ i, wx.cell? ⟨w.heap.size, i, none⟩ = c0[i]?) ∧ (∀ i, wx.frozen? ⟨w.heap.size, i, none⟩ = false) ∧ (∀ i, wx.cell? ⟨w.heap.size + 1, i, none⟩ = c1[i]?) ∧ (∀ i, wx.frozen? ⟨w.heap.size + 1, i, none⟩ = false) := ⟨fun i => blk_cell h.b0 i, fun i => blk_free h.b0 i, fun i => blk_cell h.b1 i, fun i => blk_free h.b1 i⟩
/-- closing, its place by a name. -/
theorem closing_c (s : ByteArray) (a : Nat) (w : World) (ha : a ≤ s.size) (hs : s.size ≤ 1000000) :
    Calls Tryz.prog 182 #[.string s, .int .i64 (a : Int)] w fun e w' => ((∃ c : Nat, a ≤ c ∧ c < s.size ∧ closeIdx (rest s a) 0 = some (c - a) ∧ e = .returned (.int .i64 (c : Int))) ∨ (closeIdx (rest s a) 0 = none ∧ e = .returned (.int .i64 (-1)))) ∧ w = w' := by
  refine (closing_any s a w ha hs).mono ?_
  rintro e w' ⟨⟨k, hk, rfl⟩ | h, hw⟩
  · refine ⟨Or.inl ⟨a + k, Nat.le_add_right _ _, ?_, by rw [Nat.add_sub_cancel_left]; exact hk, rfl⟩, hw⟩
    have := closeIdx_lt _ _ _ hk
    rw [rest_len] at this
    omega
  · exact ⟨Or.inr h, hw⟩
theorem rest_drop (s : ByteArray) (a k : Nat) : (rest s a).drop k = rest s (a + k) := (rest_add s a k).symm
theorem ext_rest (s : ByteArray) (a b : Nat) : (s.extract a b).data.toList = (rest s a).take (b - a) := ext_list s a b

theorem pow_fin {s : ByteArray} {a c c2 : Nat} {k : Int} {ok1 ok2 : Bool} {v : Value} {w2 wf : World} (hac : a + 1 ≤ c) (hc2 : c2 ≤ s.size) (hL : rest s a = 40 :: rest s (a + 1)) (hC : closeIdx (rest s a) 0 = some (c - a)) (hR : rest s c = 41 :: 94 :: rest s (c + 2)) (hW : (ok1 = true ∧ WhAt (rest s (c + 2)) (-999) 999 (some (k, rest s c2))) ∨ (ok1 = false ∧ WhAt (rest s (c + 2)) (-999) 999 none)) (hG : (ok2 = true ∧ ∃ xs ps, Whole E0 (s.extract (a + 1) c).data.toList (some (Tm.of ps)) ∧ w2.ownsRow 0 131 7 v xs.length (rrow xs) ∧ RPl w2 xs ps) ∨ (ok2 = false ∧ v = .slice none 0 0 ∧ Whole E0 (s.extract (a + 1) c).data.toList none)) :
    ((ok1 && ok2) = true ∧ ∃ (p : Pt) (c' : Nat), (c2 : Int) = (c' : Int) ∧ c' ≤ s.size ∧ RdP E0 (rest s a) (some (p, rest s c')) ∧ RPt wf ⟨40, 0, 0, k, none, 0, 0, s.extract (a + 1) c, ⟨#[]⟩⟩ p) ∨ ((ok1 && ok2) = false ∧ RdP E0 (rest s a) none) := by
  rw [hL] at hC ⊢
  have hR' : (rest s (a + 1)).drop (c - a - 1) = 41 :: 94 :: rest s (c + 2) := by rw [rest_drop, show a + 1 + (c - a - 1) = c by omega]; exact hR
  have hx : (s.extract (a + 1) c).data.toList = (rest s (a + 1)).take (c - a - 1) := by rw [ext_rest, Nat.sub_sub]
  rw [hx] at hG
  rcases hW with ⟨rfl, hW⟩ | ⟨rfl, hW⟩
  · rcases hG with ⟨rfl, xs, ps, hF, _, _⟩ | ⟨rfl, _, hF⟩
    · refine Or.inl ⟨rfl, .pow (Tm.of ps) k, c2, rfl, hc2, pow_ref E0 hC hR' hF hW (fun f x e1 e2 => by cases e1; cases e2; rfl) (fun y e => by cases e; exact ⟨_, _, rfl, rfl, rfl⟩), rfl, ?_, rfl⟩
      rw [hx]
      exact (hF.sound _ rfl).2.2
    · exact Or.inr ⟨rfl, pow_ref E0 hC hR' hF hW (fun f x e1 e2 => by cases e1) (fun y e => by cases e)⟩
  · rcases hG with ⟨rfl, xs, ps, hF, _, _⟩ | ⟨rfl, _, hF⟩
    · exact Or.inr ⟨rfl, pow_ref E0 hC hR' hF hW (fun f x e1 e2 => by cases e2) (fun y e => by cases e)⟩
    · exact Or.inr ⟨rfl, pow_ref E0 hC hR' hF hW (fun f x e1 e2 => by cases e2) (fun y e => by cases e)⟩

set_option maxRecDepth 100000 in
set_option maxHeartbeats 3200000 in
theorem power_r {m : Nat} (hP : RPS m) (s : ByteArray) (a : Nat) (w : World) (ha : a < s.size) (h40 : s[a] = 40) (hm : s.size ≤ m + 1) (hs : s.size ≤ 1000) :
    Calls Tryz.prog 169 #[.string s, .int .i64 (a : Int)] w fun e w' => CutGot s a e w' ∧ Below w.heap.size w w' := by
  have HP := hide hP
  have HL := hide (show rest s a = 40 :: rest s (a + 1) by rw [rest_lt ha, h40])
  clear hP h40
  go_enter Tryz.func169, Tryz.ntmps169
  go_wp2_with fail
  refine (closing_c s a _ (by omega) (by omega)).mono ?_
  rintro e w' ⟨⟨c, hac, hcs, hcl, rfl⟩ | ⟨hcl, rfl⟩, rfl⟩
  · have HC := hide hcl
    clear hcl
    have hac1 : a + 1 ≤ c := by
      have := (unhide HC)
      rw [unhide HL] at this
      have := (closeIdx_pos (Or.inl rfl) this).1
      omega
    have hcn : ¬ (c : Int) < 0 := by omega
    by_cases h1 : s[c] = 41
    · have h1b : ((s[c].toNat : Int) != 41) = false := by rw [h1]; rfl
      by_cases h2 : c + 1 < s.size
      · have h2b : ¬ ((s.size : Int) ≤ (c : Int) + 1) := by omega
        by_cases h3 : s[c + 1] = 94
        · have h3b : ((s[c + 1].toNat : Int) != 94) = false := by rw [h3]; rfl
          have HR := hide (show rest s c = 41 :: 94 :: rest s (c + 2) by rw [rest_lt hcs, h1, rest_lt h2, h3])
          clear h1 h3
          go_wp2_with fail
          rw [show ((c : Int) + 2) = ((c + 2 : Nat) : Int) by omega]
          refine (whole_c s (c + 2) (-999) 999 _ (by omega) (by omega) (by decide) (by decide)).mono ?_
          rintro e w1 ⟨k, ok1, c2, rfl, hle, hc2, hwh, hb1⟩
          have P1 := (PB.start w rz #[.int .u8 40, .int .i64 0, .int .i64 0, .int .i64 0, .slice none 0 0, .string (s.extract (a + 1) c), .string ⟨#[]⟩]).next hb1
          obtain ⟨_, _, hc1, hf1⟩ := P1.f
          have HP1 := hide P1
          have HW := hide hwh
          clear P1 hwh hb1
          go_wp2_with fail
          have hsz := ext_size s (a + 1) c
          have hsz2 : (s.extract (a + 1) c).size ≤ s.size - 1 := by rw [ByteArray.size_extract]; omega
          refine (unhide HP (s.extract (a + 1) c) _ (by omega) (by omega)).mono ?_
          rintro e w2 ⟨⟨v, ok2, rfl, hpg⟩, hb2⟩
          have P2 := ((unhide HP1).set 3 (.int .i64 k)).next hb2
          obtain ⟨hc0, hf0, hc1', _⟩ := P2.f
          have hc3 : ∀ i, w2.cell? ⟨w.heap.size + 1, i, none⟩ = (#[.int .u8 40, .int .i64 0, .int .i64 0, .int .i64 k, .slice none 0 0, .string (s.extract (a + 1) c), .string ⟨#[]⟩] : Array Value)[i]? := hc1'
          have hcz : ∀ i, w2.cell? ⟨w.heap.size, i, none⟩ = (#[.int .u8 0, .int .i64 0, .int .i64 0, .int .i64 0, .slice none 0 0, .string ⟨#[]⟩, .string ⟨#[]⟩] : Array Value)[i]? := hc0
          have HPB := hide P2
          have HG := hide hpg
          clear P2 hpg hb2 hc1 hf1 hc1' HP1 hc0
          obtain ⟨bb, hbb⟩ : ∃ bb, bb = (ok1 && ok2) := ⟨_, rfl⟩
          have HFn := hide (fun wf => pow_fin (wf := wf) hac1 hc2 (unhide HL) (unhide HC) (unhide HR) (unhide HW) (unhide HG))
          rw [← hbb] at HFn
          have HBq := hide hbb
          clear HW HG hbb
          cases ok1 with
          | false =>
            go_wp2_with fail
            have hbf : bb = false := by have := unhide HBq; simpa using this
            subst hbf
            exact bodyPost_ret (v := .tuple #[RC.value ⟨40, 0, 0, k, none, 0, 0, s.extract (a + 1) c, ⟨#[]⟩⟩, .int .i64 (c2 : Int), .bool false]) (by simp [results, Tryz.results169, go_sem, hcz, RC.value, RC.cells]) rfl ⟨⟨⟨40, 0, 0, k, none, 0, 0, s.extract (a + 1) c, ⟨#[]⟩⟩, _, false, rfl, unhide HFn _⟩, st7_below (unhide HPB).bel (Nat.le_refl _) _ _ _ _ _ _ _⟩
          | true =>
            go_wp2_with fail
            have hbf : bb = ok2 := by have := unhide HBq; simpa using this
            subst hbf
            exact bodyPost_ret (v := .tuple #[RC.value ⟨40, 0, 0, k, none, 0, 0, s.extract (a + 1) c, ⟨#[]⟩⟩, .int .i64 (c2 : Int), .bool bb]) (by simp [results, Tryz.results169, go_sem, hcz, RC.value, RC.cells]) rfl ⟨⟨⟨40, 0, 0, k, none, 0, 0, s.extract (a + 1) c, ⟨#[]⟩⟩, _, bb, rfl, unhide HFn _⟩, st7_below (unhide HPB).bel (Nat.le_refl _) _ _ _ _ _ _ _⟩
        · have h3b : ((s[c + 1].toNat : Int) != 94) = true := bne_t (y := 94) h3
          have HB := hide (show ∀ R, rest s c ≠ 41 :: 94 :: R from fun R e => by rw [rest_lt hcs, rest_lt h2] at e; exact h3 (List.cons.inj (List.cons.inj e).2).1)
          clear h1 h3
          go_wp2_with fail
          exact bodyPost_ret (v := .tuple #[RC.value ⟨40, 0, 0, 0, none, 0, 0, ⟨#[]⟩, ⟨#[]⟩⟩, .int .i64 (a : Int), .bool false]) (by simp [results, Tryz.results169, go_sem, RC.value, RC.cells]) rfl ⟨⟨⟨40, 0, 0, 0, none, 0, 0, ⟨#[]⟩, ⟨#[]⟩⟩, _, false, rfl, Or.inr ⟨rfl, by rw [unhide HL]; exact pow_bad_close E0 (k := c - a) (by rw [← unhide HL]; exact unhide HC) (fun R e => unhide HB R (by rw [← e, rest_drop]; congr 1; omega))⟩⟩, (by repeat (first | exact Below.refl _ _ | refine below_dr ?_ _ | refine Below.drew ?_ | refine Below.setCell ?_ (by simp) _ | refine Below.alloc ?_ (by simp) _))⟩
      · have h2b : ((s.size : Int) ≤ (c : Int) + 1) := by omega
        have HB := hide (show ∀ R, rest s c ≠ 41 :: 94 :: R from fun R e => by rw [rest_lt hcs, rest_ge (show s.size ≤ c + 1 by omega)] at e; have := (List.cons.inj e).2; cases this)
        clear h1
        go_wp2_with fail
        exact bodyPost_ret (v := .tuple #[RC.value ⟨40, 0, 0, 0, none, 0, 0, ⟨#[]⟩, ⟨#[]⟩⟩, .int .i64 (a : Int), .bool false]) (by simp [results, Tryz.results169, go_sem, RC.value, RC.cells]) rfl ⟨⟨⟨40, 0, 0, 0, none, 0, 0, ⟨#[]⟩, ⟨#[]⟩⟩, _, false, rfl, Or.inr ⟨rfl, by rw [unhide HL]; exact pow_bad_close E0 (k := c - a) (by rw [← unhide HL]; exact unhide HC) (fun R e => unhide HB R (by rw [← e, rest_drop]; congr 1; omega))⟩⟩, (by repeat (first | exact Below.refl _ _ | refine below_dr ?_ _ | refine Below.drew ?_ | refine Below.setCell ?_ (by simp) _ | refine Below.alloc ?_ (by simp) _))⟩
    · have h1b : ((s[c].toNat : Int) != 41) = true := bne_t (y := 41) h1
      have HB := hide (show ∀ R, rest s c ≠ 41 :: 94 :: R from fun R e => by rw [rest_lt hcs] at e; exact h1 (List.cons.inj e).1)
      clear h1
      go_wp2_with fail
      exact bodyPost_ret (v := .tuple #[RC.value ⟨40, 0, 0, 0, none, 0, 0, ⟨#[]⟩, ⟨#[]⟩⟩, .int .i64 (a : Int), .bool false]) (by simp [results, Tryz.results169, go_sem, RC.value, RC.cells]) rfl ⟨⟨⟨40, 0, 0, 0, none, 0, 0, ⟨#[]⟩, ⟨#[]⟩⟩, _, false, rfl, Or.inr ⟨rfl, by rw [unhide HL]; exact pow_bad_close E0 (k := c - a) (by rw [← unhide HL]; exact unhide HC) (fun R e => unhide HB R (by rw [← e, rest_drop]; congr 1; omega))⟩⟩, (by repeat (first | exact Below.refl _ _ | refine below_dr ?_ _ | refine Below.drew ?_ | refine Below.setCell ?_ (by simp) _ | refine Below.alloc ?_ (by simp) _))⟩
  · have HC := hide hcl
    clear hcl
    go_wp2_with fail
    exact bodyPost_ret (v := .tuple #[RC.value ⟨40, 0, 0, 0, none, 0, 0, ⟨#[]⟩, ⟨#[]⟩⟩, .int .i64 (a : Int), .bool false]) (by simp [results, Tryz.results169, go_sem, RC.value, RC.cells]) rfl ⟨⟨⟨40, 0, 0, 0, none, 0, 0, ⟨#[]⟩, ⟨#[]⟩⟩, _, false, rfl, Or.inr ⟨rfl, by rw [unhide HL]; exact pow_no_close E0 (by rw [← unhide HL]; exact unhide HC)⟩⟩, (by repeat (first | exact Below.refl _ _ | refine below_dr ?_ _ | refine Below.drew ?_ | refine Below.setCell ?_ (by simp) _ | refine Below.alloc ?_ (by simp) _))⟩
end Go.Proofs.YtikiaijgcjjloaaGreatDoor

import Derived.Test.YtknokhbilckmiaaGreatDoorPart34
import Derived.Test.YtknokhbilckmiaaGreatDoorPart42
import Derived.Test.YtknokhbilckmiaaGreatDoorPart46

/- Sessions side by side: the program's and the document's. -/
namespace Go.Proofs.YtknokhbilckmiaaGreatDoor
open Go Go.RowKit M T Go.Lib

theorem blk_ty {w : World} {k : Nat} {c c' : Array Value} {t t' : TypeId} (h : w.heap[k]? = some (.cells c t (0, 0))) (h' : w.heap[k]? = some (.cells c' t' (0, 0))) : t = t' := by
  rw [h] at h'
  exact (Obj.cells.inj (Option.some.inj h')).2.1
/-! ### What kinds of memory a session of the program reaches -/
def PTy (ty : TypeId) : Prop := ty = 86 ∨ ty = 145 ∨ ty = 3
def PTk (w : World) (k : Nat) : Prop := ∃ c ty, w.heap[k]? = some (.cells c ty (0, 0)) ∧ PTy ty
theorem owns_ptk {w : World} {e : TypeId} {size : Nat} {v : Value} {n : Nat} {xs : List Value} (h : w.ownsRow 0 e size v n xs) (he : PTy e) : ∀ g, v.ownBlock = some g → PTk w g := by
  intro g hg
  rcases h.2 with ⟨h2, _⟩ | ⟨g', cap, cur, hv, _, hh, _⟩
  · rw [h2] at hg; cases hg
  · rw [hv] at hg; cases hg
    exact ⟨cur, e, hh, he⟩
theorem Hd.ptk {Ok : Nat → Prop} {w : World} {b : Nat} {t : Tm} {sl : Value} {xs : List PC} (h : Hd Ok w b t sl xs) : Hd (fun k => Ok k ∧ PTk w k) w b t sl xs :=
  ⟨⟨h.ok, _, _, h.blk, Or.inl rfl⟩, h.blk, h.row, fun g hg => ⟨h.rok g hg, owns_ptk h.row (Or.inr (Or.inl rfl)) g hg⟩⟩
theorem SpIs.ptk {Ok : Nat → Prop} {w : World} {x : PC} {y : Sp} (h : SpIs Ok w x y) : SpIs (fun k => Ok k ∧ PTk w k) w x y := by
  refine ⟨h.1, ?_⟩
  have h2 := h.2
  cases y <;> first
    | exact ⟨h2.1, fun g hg => ⟨h2.2 g hg, owns_ptk h2.1 (Or.inr (Or.inr rfl)) g hg⟩⟩
    | exact h2
mutual
theorem PtIs.ptk {Ok : Nat → Prop} {w : World} : ∀ (p : Pt) (x : PC), PtIs Ok w x p → PtIs (fun k => Ok k ∧ PTk w k) w x p
  | .sp y, x, h => by rw [PtIs] at h ⊢; exact h.ptk
  | .pow f k, x, h => by
    rw [PtIs] at h ⊢
    obtain ⟨h1, h2, b, sl, xs, h3, h4, h5⟩ := h
    exact ⟨h1, h2, b, sl, xs, h3, h4.ptk, PsIs.ptk f xs h5⟩
  | .under s g, x, h => by
    rw [PtIs] at h ⊢
    obtain ⟨h1, ⟨b, sl, xs, h3, h4, h5⟩, b', sl', xs', h3', h4', h5'⟩ := h
    exact ⟨h1, ⟨b, sl, xs, h3, h4.ptk, PsIs.ptk g xs h5⟩, b', sl', xs', h3', h4'.ptk, PsIs.ptk s xs' h5'⟩
  | .name c t, x, h => by
    rw [PtIs] at h ⊢
    obtain ⟨h1, h2, b, sl, xs, h3, h4, h5⟩ := h
    exact ⟨h1, h2, b, sl, xs, h3, h4.ptk, PsIs.ptk t xs h5⟩
theorem PsIs.ptk {Ok : Nat → Prop} {w : World} : ∀ (t : Tm) (l : List PC), PsIs Ok w l t → PsIs (fun k => Ok k ∧ PTk w k) w l t
  | .nil, l, h => by rw [PsIs] at h ⊢; exact h
  | .cons p t, l, h => by
    rw [PsIs] at h ⊢
    obtain ⟨x, xs, h1, h2, h3⟩ := h
    exact ⟨x, xs, h1, PtIs.ptk p x h2, PsIs.ptk t xs h3⟩
end
theorem TmIs.ptk {Ok : Nat → Prop} {w : World} {b : Nat} {t : Tm} (h : TmIs Ok w b t) : TmIs (fun k => Ok k ∧ PTk w k) w b t := by
  obtain ⟨sl, xs, h1, h2⟩ := h
  exact ⟨sl, xs, h1.ptk, PsIs.ptk t xs h2⟩
theorem SesIs.kept {w w' : World} {xb : Nat} {nm : Nat → Option Nat} {env : Env} (h : SesIs w xb nm env) (hs : w.heap.size ≤ w'.heap.size) (hk : ∀ (k : Nat) (c : Array Value) (ty : TypeId), w.heap[k]? = some (.cells c ty (0, 0)) → PTy ty ∨ ty = 62 → w'.heap[k]? = w.heap[k]?) : SesIs w' xb nm env :=
  ⟨by rw [hk xb _ _ h.blk (Or.inr rfl)]; exact h.blk, ⟨fun c h1 h2 b hb' => by
    obtain ⟨t, a1, a2, a3⟩ := h.names.known c h1 h2 b hb'
    exact ⟨t, a1, a2, a3.ptk.keeps (fun k hk' hl => by
      obtain ⟨_, c, ty, e, hp⟩ := hk'
      exact ⟨hk k c ty e (Or.inl hp), Nat.lt_of_lt_of_le hl hs⟩)⟩, h.names.unknown⟩, h.env⟩
theorem RSes.kept {w w' : World} {rb : Nat} {v : Value} {ds : List D} (h : RSes w rb v ds) (hk : ∀ k, k = rb ∨ v.ownBlock = some k → w'.heap[k]? = w.heap[k]?) : RSes w' rb v ds := by
  refine ⟨by rw [hk rb (Or.inl rfl)]; exact h.blk, ⟨h.own.1, ?_⟩, h.ok⟩
  rcases h.own.2 with h2 | ⟨g, cap, cur, hv, hg, hh, r⟩
  · exact Or.inl h2
  · exact Or.inr ⟨g, cap, cur, hv, hg, by rw [hk g (Or.inr (by rw [hv]; rfl))]; exact hh, r⟩
/-- The kinds of what a session of the document holds. -/
theorem RSes.row_ty {w : World} {rb : Nat} {v : Value} {ds : List D} (h : RSes w rb v ds) {g : Nat} (hg : v.ownBlock = some g) : ∃ c, w.heap[g]? = some (.cells c 111 (0, 0)) := by
  rcases h.own.2 with ⟨h1, _⟩ | ⟨g', cap, cur, hv, _, hh, _⟩
  · rw [h1] at hg; cases hg
  · rw [hv] at hg; cases hg; exact ⟨cur, hh⟩
theorem RSes.but {w w' : World} {rb xb : Nat} {v : Value} {ds : List D} {c : Array Value} (h : RSes w rb v ds) (hx : w.heap[xb]? = some (.cells c 62 (0, 0))) (hb : But xb w w') : RSes w' rb v ds := h.kept (fun k hk => by
  rcases hk with rfl | hk
  · exact hb.block _ (lt_of_block h.blk) (by intro e; have := h.blk; rw [e] at this; exact absurd (blk_ty hx this) (by decide))
  · obtain ⟨c, hc⟩ := h.row_ty hk
    exact hb.block _ (lt_of_block hc) (by intro e; rw [e] at hc; exact absurd (blk_ty hx hc) (by decide)))

/-! ### Twins -/
structure Twn where
  xb : Nat
  rb : Nat
  nm : Nat → Option Nat
  v : Value
  ds : List D
def Twn.cells (t : Twn) : List Value := [.pointer (some ⟨t.xb, 0, none⟩), .pointer (some ⟨t.rb, 0, none⟩)]
def trow (ts : List Twn) : List Value := (ts.map Twn.cells).flatten
theorem trow_snoc (ts : List Twn) (t : Twn) : trow ts ++ t.cells = trow (ts ++ [t]) := by unfold trow; simp
structure Tw1 (n0 m : Nat) (w : World) (t : Twn) : Prop where
  ses : SesIs w t.xb t.nm (envOf t.ds)
  ref : RSes w t.rb t.v t.ds
  len : t.ds.length ≤ m
  nx : n0 ≤ t.xb
  nr : n0 ≤ t.rb
  nv : ∀ g, t.v.ownBlock = some g → n0 ≤ g
def Ap (s t : Twn) : Prop := s.xb ≠ t.xb ∧ s.rb ≠ t.rb ∧ ∀ g, s.v.ownBlock = some g → t.v.ownBlock ≠ some g
theorem Ap.symm {s t : Twn} (h : Ap s t) : Ap t s := ⟨h.1.symm, h.2.1.symm, fun g hg e => h.2.2 g e hg⟩
structure Tws (n0 m : Nat) (w : World) (ts : List Twn) : Prop where
  one : ∀ j (h : j < ts.length), Tw1 n0 m w ts[j]
  ap : ∀ i j (hi : i < ts.length) (hj : j < ts.length), i ≠ j → Ap ts[i] ts[j]
theorem Tw1.mono {n0 m m' : Nat} {w : World} {t : Twn} (h : Tw1 n0 m w t) (hm : m ≤ m') : Tw1 n0 m' w t := ⟨h.ses, h.ref, Nat.le_trans h.len hm, h.nx, h.nr, h.nv⟩
theorem Tws.mono {n0 m m' : Nat} {w : World} {ts : List Twn} (h : Tws n0 m w ts) (hm : m ≤ m') : Tws n0 m' w ts := ⟨fun j hj => (h.one j hj).mono hm, h.ap⟩
theorem Tw1.below {n0 m : Nat} {w w' : World} {t : Twn} (h : Tw1 n0 m w t) (hb : Below w.heap.size w w') : Tw1 n0 m w' t := ⟨h.ses.below hb, h.ref.below hb, h.len, h.nx, h.nr, h.nv⟩
theorem Tws.below {n0 m : Nat} {w w' : World} {ts : List Twn} (h : Tws n0 m w ts) (hb : Below w.heap.size w w') : Tws n0 m w' ts := ⟨fun j hj => (h.one j hj).below hb, h.ap⟩
/-- A change of memory of another kind. -/
theorem Tws.other {n0 m : Nat} {w w' : World} {ts : List Twn} (h : Tws n0 m w ts) (hs : w.heap.size ≤ w'.heap.size) (hk : ∀ (k : Nat) (c : Array Value) (ty : TypeId), w.heap[k]? = some (.cells c ty (0, 0)) → ty ≠ 46 → w'.heap[k]? = w.heap[k]?) : Tws n0 m w' ts :=
  ⟨fun j hj => by
    obtain ⟨a, b, c, d, e, f⟩ := h.one j hj
    refine ⟨a.kept hs (fun k c ty hc ht => hk k c ty hc ?_), b.kept (fun k hk' => ?_), c, d, e, f⟩
    · rcases ht with (rfl | rfl | rfl) | rfl <;> decide
    · rcases hk' with rfl | hk'
      · exact hk _ _ _ b.blk (by decide)
      · obtain ⟨c', hc'⟩ := b.row_ty hk'
        exact hk _ _ _ hc' (by decide), h.ap⟩
theorem envOf_none : envOf [] = noEnv := rfl
def freshTw (n : Nat) : Twn := ⟨n, n + 1, fun _ => none, .slice none 0 0, []⟩
/-- Two new sessions. -/
theorem Tws.fresh {n0 m : Nat} {w : World} {ts : List Twn} (h : Tws n0 m w ts) (hn : n0 ≤ w.heap.size) : Tws n0 m ((w.alloc (.cells (ncells fun _ => none) 62)).alloc (.cells #[.slice none 0 0] 72)) (ts ++ [freshTw w.heap.size]) := by
  have hb1 : Below w.heap.size w (w.alloc (.cells (ncells fun _ => none) 62)) := (Below.refl _ _).alloc (Nat.le_refl _) _
  have hb2 : Below w.heap.size w ((w.alloc (.cells (ncells fun _ => none) 62)).alloc (.cells #[.slice none 0 0] 72)) := hb1.alloc (by simp) _
  have hb3 : Below (w.alloc (.cells (ncells fun _ => none) 62)).heap.size (w.alloc (.cells (ncells fun _ => none) 62)) ((w.alloc (.cells (ncells fun _ => none) 62)).alloc (.cells #[.slice none 0 0] 72)) := (Below.refl _ _).alloc (Nat.le_refl _) _
  have hnew : Tw1 n0 m ((w.alloc (.cells (ncells fun _ => none) 62)).alloc (.cells #[.slice none 0 0] 72)) (freshTw w.heap.size) := by
    refine ⟨(new_SesIs w).below hb3, ?_, Nat.zero_le _, hn, Nat.le_succ_of_le hn, fun g hg => by cases hg⟩
    have := rNew_RSes (w.alloc (.cells (ncells fun _ => none) 62))
    rw [World.size_alloc] at this
    exact this
  have hx : ∀ j (hj : j < ts.length), Ap ts[j] (freshTw w.heap.size) := fun j hj => by
    obtain ⟨a, b, _⟩ := h.one j hj
    have l1 := lt_of_block a.blk
    have l2 := lt_of_block b.blk
    exact ⟨by show ts[j].xb ≠ w.heap.size; omega, by show ts[j].rb ≠ w.heap.size + 1; omega, fun g _ e => by cases e⟩
  refine ⟨fun j hj => ?_, fun i j hi hj hij => ?_⟩
  · rw [List.length_append, List.length_singleton] at hj
    by_cases hl : j < ts.length
    · rw [List.getElem_append_left hl]; exact (h.one j hl).below hb2
    · have e : j = ts.length := by omega
      subst e
      simpa using hnew
  · rw [List.length_append, List.length_singleton] at hi hj
    by_cases hl : i < ts.length
    · rw [List.getElem_append_left hl]
      by_cases hl' : j < ts.length
      · rw [List.getElem_append_left hl']; exact h.ap i j hl hl' hij
      · have e : j = ts.length := by omega
        subst e
        simpa using hx i hl
    · have e : i = ts.length := by omega
      subst e
      have hl' : j < ts.length := by omega
      rw [List.getElem_append_left hl']
      simpa using (hx j hl').symm
/-- What a Define leaves as it was. -/
def KeepT (w w' : World) : Prop := ∀ (k : Nat) (c : Array Value) (ty : TypeId), w.heap[k]? = some (.cells c ty (0, 0)) → ty = 46 ∨ ty = 49 → w'.heap[k]? = w.heap[k]?
theorem KeepT.below {w w' : World} (hb : Below w.heap.size w w') : KeepT w w' := fun k _ _ h _ => hb.block k (lt_of_block h)
theorem KeepT.trans {a b c : World} (h : KeepT a b) (h' : KeepT b c) : KeepT a c := fun k x ty hk ht => (h' k x ty ((h k x ty hk ht).trans hk) ht).trans (h k x ty hk ht)
theorem KeepT.but {w w' : World} {xb : Nat} {c : Array Value} (hx : w.heap[xb]? = some (.cells c 62 (0, 0))) (hb : But xb w w') : KeepT w w' := fun k x ty hk ht => hb.block k (lt_of_block hk) (by
  rintro rfl
  obtain rfl := blk_ty hx hk
  rcases ht with h | h <;> exact absurd h (by decide))
theorem KeepT.chg {w w' : World} {rb : Nat} {v : Value} {ds : List D} (h : RSes w rb v ds) (hc : Chg rb v w w') : KeepT w w' := fun k x ty hk ht => hc.block k (lt_of_block hk) (by
  rintro rfl
  obtain rfl := blk_ty h.blk hk
  rcases ht with h | h <;> exact absurd h (by decide)) (fun e => by
  obtain ⟨c', hc'⟩ := h.row_ty e
  obtain rfl := blk_ty hc' hk
  rcases ht with h | h <;> exact absurd h (by decide))
theorem Chg.below {rb B : Nat} {v : Value} {w w' : World} (h : Chg rb v w w') (hB : B ≤ w.heap.size) (hr : B ≤ rb) (hv : ∀ g, v.ownBlock = some g → B ≤ g) : Below B w w' := ⟨h.os, h.tape, h.output, h.size, fun k hk => h.block k (by omega) (by omega) (fun e => by have := hv k e; omega)⟩
/-- Both sides have defined. -/
theorem Tws.define {n0 m : Nat} {w w1 w2 : World} {ts : List Twn} (h : Tws n0 m w ts) {j : Nat} (hj : j < ts.length) {nm' : Nat → Option Nat} {v' : Value} {ds' : List D} (h1 : SesIs w1 ts[j].xb nm' (envOf ds')) (hb : But ts[j].xb w w1) (h2 : RPut w1 ts[j].rb ts[j].v ts[j].ds v' ds' w2) :
    Tws n0 (m + 1) w2 (ts.set j ⟨ts[j].xb, ts[j].rb, nm', v', ds'⟩) := by
  have hJ := h.one j hj
  have hR1 : RSes w1 ts[j].rb ts[j].v ts[j].ds := hJ.ref.but hJ.ses.blk hb
  have hkeep : ∀ (k : Nat) (c : Array Value) (ty : TypeId), w1.heap[k]? = some (.cells c ty (0, 0)) → PTy ty ∨ ty = 62 → w2.heap[k]? = w1.heap[k]? := fun k c ty hk ht => h2.chg.block k (lt_of_block hk) (by
    rintro rfl
    obtain rfl := blk_ty hR1.blk hk
    rcases ht with (h | h | h) | h <;> exact absurd h (by decide)) (fun e => by
    obtain ⟨c', hc'⟩ := hR1.row_ty e
    obtain rfl := blk_ty hc' hk
    rcases ht with (h | h | h) | h <;> exact absurd h (by decide))
  have hnew : Tw1 n0 (m + 1) w2 ⟨ts[j].xb, ts[j].rb, nm', v', ds'⟩ := by
    refine ⟨h1.kept h2.chg.size hkeep, h2.ses, ?_, hJ.nx, hJ.nr, fun g hg => ?_⟩
    · have := h2.len
      have := hJ.len
      show ds'.length ≤ m + 1
      omega
    · rcases h2.own with e | e
      · exact hJ.nv g (by rw [← e]; exact hg)
      · have a1 := e g hg
        have a2 := hb.size
        have a3 := lt_of_block hJ.ses.blk
        have a4 := hJ.nx
        omega
  have hold : ∀ i (hi : i < ts.length), i ≠ j → Tw1 n0 (m + 1) w2 ts[i] := fun i hi hij => by
    obtain ⟨a, b, c, d, e, f⟩ := h.one i hi
    have hap := h.ap i j hi hj hij
    have b1 : RSes w1 ts[i].rb ts[i].v ts[i].ds := b.but hJ.ses.blk hb
    refine ⟨(a.but hJ.ses.blk hb hap.1).kept h2.chg.size hkeep, b1.kept (fun k hk => ?_), Nat.le_succ_of_le c, d, e, f⟩
    rcases hk with rfl | hk
    · exact h2.chg.block _ (lt_of_block b1.blk) hap.2.1 (fun e => by
        obtain ⟨c', hc'⟩ := hR1.row_ty e
        exact absurd (blk_ty b1.blk hc') (by decide))
    · obtain ⟨c, hc⟩ := b1.row_ty hk
      exact h2.chg.block _ (lt_of_block hc) (by intro e; rw [e] at hc; exact absurd (blk_ty hR1.blk hc) (by decide)) (hap.2.2 k hk)
  have hap : ∀ i (hi : i < ts.length), i ≠ j → Ap ts[i] ⟨ts[j].xb, ts[j].rb, nm', v', ds'⟩ := fun i hi hij => by
    have a := h.ap i j hi hj hij
    refine ⟨a.1, a.2.1, fun g hg e => ?_⟩
    rcases h2.own with q | q
    · exact a.2.2 g hg (by rw [← q]; exact e)
    · have a1 := q g e
      have a2 := hb.size
      obtain ⟨c, hc⟩ := (h.one i hi).ref.row_ty hg
      have := lt_of_block hc
      omega
  refine ⟨fun i hi => ?_, fun i k hi hk hik => ?_⟩
  · rw [List.length_set] at hi
    rw [List.getElem_set]
    split
    · exact hnew
    · exact hold i hi (by omega)
  · rw [List.length_set] at hi hk
    rw [List.getElem_set, List.getElem_set]
    split
    · rename_i e
      subst e
      rw [if_neg hik]
      exact (hap k hk (by omega)).symm
    · rename_i e
      split
      · exact hap i hi (by omega)
      · exact h.ap i k hi hk hik
theorem trow_set (ts : List Twn) (j : Nat) (hj : j < ts.length) (t : Twn) (h : t.cells = ts[j].cells) : trow (ts.set j t) = trow ts := by
  unfold trow
  congr 1
  apply List.ext_getElem
  · simp
  · intro i h1 h2
    simp only [List.getElem_map, List.getElem_set]
    split
    · rename_i e
      subst e
      exact h
    · rfl
end Go.Proofs.YtknokhbilckmiaaGreatDoor

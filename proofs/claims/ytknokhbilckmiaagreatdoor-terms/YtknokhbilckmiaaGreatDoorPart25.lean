import Derived.Test.YtknokhbilckmiaaGreatDoorPart18
import Derived.Test.YtknokhbilckmiaaGreatDoorPart23
import Derived.Test.YtknokhbilckmiaaGreatDoorPart24
import Derived.Test.YtknokhbilckmiaaGreatDoorPart11

/- The walks: the document's own answer: powers and unders. -/
namespace Go.Proofs.YtknokhbilckmiaaGreatDoor
open Go Go.RowKit M T Go.Lib

def rz : Array Value := #[.int .u8 0, .int .i64 0, .int .i64 0, .int .i64 0, .slice none 0 0, .string ⟨#[]⟩, .string ⟨#[]⟩]
/-- A part of the document's own answer. -/
def RPt (w : World) (x : RC) : Pt → Prop
  | .sp y => x.Kd = y.first ∧ match y with
    | .plus c => x.P = c.num ∧ x.Q = (c.den : Int)
    | .times c => x.P = c.num ∧ x.Q = (c.den : Int)
    | .set c => x.P = c.num ∧ x.Q = (c.den : Int)
    | .shift k => x.K = k
    | .take k => x.K = (k : Int)
    | .drop k => x.K = (k : Int)
    | .pick ps => w.ownsRow 0 3 1 (.slice x.pa x.pn x.pc) ps.length (ints ps)
    | _ => True
  | .pow f k => x.Kd = 40 ∧ x.F.data.toList = f.text ∧ x.K = k
  | .under s g => x.Kd = 91 ∧ x.F.data.toList = s.text ∧ x.G.data.toList = g.text
  | .name c _ => x.Kd = c
/-- What cut, and its like, answer. -/
def CutGot (s : ByteArray) (a : Nat) (e : Ending) (w' : World) : Prop :=
  ∃ (x : RC) (b : Int) (ok : Bool), e = .returned (.tuple #[RC.value x, .int .i64 b, .bool ok]) ∧ ((ok = true ∧ ∃ (p : Pt) (c : Nat), b = (c : Int) ∧ c ≤ s.size ∧ RdP E0 (rest s a) (some (p, rest s c)) ∧ RPt w' x p) ∨ (ok = false ∧ RdP E0 (rest s a) none))
def rrow (xs : List RC) : List Value := (xs.map RC.cells).flatten
def RPl (w : World) : List RC → List Pt → Prop
  | [], [] => True
  | x :: xs, p :: ps => RPt w x p ∧ RPl w xs ps
  | _, _ => False
/-- What Parts answers. -/
def PartsGot (s : ByteArray) (e : Ending) (w' : World) : Prop :=
  ∃ v ok, e = .returned (.tuple #[v, .bool ok]) ∧ ((ok = true ∧ ∃ xs ps, Whole E0 s.data.toList (some (Tm.of ps)) ∧ w'.ownsRow 0 128 7 v xs.length (rrow xs) ∧ RPl w' xs ps) ∨ (ok = false ∧ v = .slice none 0 0 ∧ Whole E0 s.data.toList none))
def RPS (m : Nat) : Prop := ∀ (s : ByteArray) (w : World), s.size ≤ m → s.size ≤ 1000 → Calls Tryz.prog 95 #[.string s] w fun e w' => PartsGot s e w' ∧ Below w.heap.size w w'
/-- The result's block and the part's block. -/
structure PB (w : World) (c0 c1 : Array Value) (wx : World) : Prop where
  bel : Below w.heap.size w wx
  b0 : wx.heap[w.heap.size]? = some (.cells c0 128 (0, 0))
  b1 : wx.heap[w.heap.size + 1]? = some (.cells c1 128 (0, 0))
theorem PB.start (w : World) (c0 c1 : Array Value) : PB w c0 c1 ((w.alloc (.cells c0 128)).alloc (.cells c1 128)) :=
  ⟨(Below.refl _ _).alloc (Nat.le_refl _) _ |>.alloc (by simp) _, by rw [Below.heap_alloc _ _ _ (by simp)]; exact heap_alloc_new w _, new_at2 w _ _⟩
theorem PB.next {w : World} {c0 c1 : Array Value} {wx wy : World} (h : PB w c0 c1 wx) (hb : Below wx.heap.size wx wy) : PB w c0 c1 wy :=
  ⟨h.bel.trans (hb.mono h.bel.size), by rw [hb.block _ (lt_of_block h.b0)]; exact h.b0, by rw [hb.block _ (lt_of_block h.b1)]; exact h.b1⟩
theorem PB.set {w : World} {c0 c1 : Array Value} {wx : World} (h : PB w c0 c1 wx) (i : Nat) (v : Value) : PB w c0 (c1.setIfInBounds i v) (wx.setCell ⟨w.heap.size + 1, i, none⟩ v) :=
  ⟨h.bel.setCell (p := ⟨w.heap.size + 1, i, none⟩) (Nat.le_succ _) _, by rw [Below.heap_setCell _ _ _ _ (by show w.heap.size ≠ w.heap.size + 1; omega)]; exact h.b0, blk_set h.b1 i v⟩
theorem PB.f {w : World} {c0 c1 : Array Value} {wx : World} (h : PB w c0 c1 wx) : (∀ i, wx.cell? ⟨w.heap.size, i, none⟩ = c0[i]?) ∧ (∀ i, wx.frozen? ⟨w.heap.size, i, none⟩ = false) ∧ (∀ i, wx.cell? ⟨w.heap.size + 1, i, none⟩ = c1[i]?) ∧ (∀ i, wx.frozen? ⟨w.heap.size + 1, i, none⟩ = false) := ⟨fun i => blk_cell h.b0 i, fun i => blk_free h.b0 i, fun i => blk_cell h.b1 i, fun i => blk_free h.b1 i⟩
/-- closing, its place by a name. -/
theorem closing_c (s : ByteArray) (a : Nat) (w : World) (ha : a ≤ s.size) (hs : s.size ≤ 1000000) :
    Calls Tryz.prog 175 #[.string s, .int .i64 (a : Int)] w fun e w' => ((∃ c : Nat, a ≤ c ∧ c < s.size ∧ closeIdx (rest s a) 0 = some (c - a) ∧ e = .returned (.int .i64 (c : Int))) ∨ (closeIdx (rest s a) 0 = none ∧ e = .returned (.int .i64 (-1)))) ∧ w = w' := by
  refine (closing_any s a w ha hs).mono ?_
  rintro e w' ⟨⟨k, hk, rfl⟩ | h, hw⟩
  · refine ⟨Or.inl ⟨a + k, Nat.le_add_right _ _, ?_, by rw [Nat.add_sub_cancel_left]; exact hk, rfl⟩, hw⟩
    have := closeIdx_lt _ _ _ hk
    rw [rest_len] at this
    omega
  · exact ⟨Or.inr h, hw⟩
theorem rest_drop (s : ByteArray) (a k : Nat) : (rest s a).drop k = rest s (a + k) := (rest_add s a k).symm
theorem ext_rest (s : ByteArray) (a b : Nat) : (s.extract a b).data.toList = (rest s a).take (b - a) := ext_list s a b

theorem pow_fin {s : ByteArray} {a c c2 : Nat} {k : Int} {ok1 ok2 : Bool} {v : Value} {w2 wf : World} (hac : a + 1 ≤ c) (hc2 : c2 ≤ s.size) (hL : rest s a = 40 :: rest s (a + 1)) (hC : closeIdx (rest s a) 0 = some (c - a)) (hR : rest s c = 41 :: 94 :: rest s (c + 2)) (hW : (ok1 = true ∧ WhAt (rest s (c + 2)) (-999) 999 (some (k, rest s c2))) ∨ (ok1 = false ∧ WhAt (rest s (c + 2)) (-999) 999 none)) (hG : (ok2 = true ∧ ∃ xs ps, Whole E0 (s.extract (a + 1) c).data.toList (some (Tm.of ps)) ∧ w2.ownsRow 0 128 7 v xs.length (rrow xs) ∧ RPl w2 xs ps) ∨ (ok2 = false ∧ v = .slice none 0 0 ∧ Whole E0 (s.extract (a + 1) c).data.toList none)) :
    ((ok1 && ok2) = true ∧ ∃ (p : Pt) (c' : Nat), (c2 : Int) = (c' : Int) ∧ c' ≤ s.size ∧ RdP E0 (rest s a) (some (p, rest s c')) ∧ RPt wf ⟨40, 0, 0, k, none, 0, 0, s.extract (a + 1) c, ⟨#[]⟩⟩ p) ∨ ((ok1 && ok2) = false ∧ RdP E0 (rest s a) none) := by
  rw [hL] at hC ⊢
  have hR' : (rest s (a + 1)).drop (c - a - 1) = 41 :: 94 :: rest s (c + 2) := by rw [rest_drop, show a + 1 + (c - a - 1) = c by omega]; exact hR
  have hx : (s.extract (a + 1) c).data.toList = (rest s (a + 1)).take (c - a - 1) := by rw [ext_rest, Nat.sub_sub]
  rw [hx] at hG
  rcases hW with ⟨rfl, hW⟩ | ⟨rfl, hW⟩
  · rcases hG with ⟨rfl, xs, ps, hF, _, _⟩ | ⟨rfl, _, hF⟩
    · refine Or.inl ⟨rfl, .pow (Tm.of ps) k, c2, rfl, hc2, pow_ref E0 hC hR' hF hW (fun f x e1 e2 => by cases e1; cases e2; rfl) (fun y e => by cases e; exact ⟨_, _, rfl, rfl, rfl⟩), rfl, ?_, rfl⟩
      rw [hx]
      exact (hF.sound _ rfl).2.2
    · exact Or.inr ⟨rfl, pow_ref E0 hC hR' hF hW (fun f x e1 e2 => by cases e1) (fun y e => by cases e)⟩
  · rcases hG with ⟨rfl, xs, ps, hF, _, _⟩ | ⟨rfl, _, hF⟩
    · exact Or.inr ⟨rfl, pow_ref E0 hC hR' hF hW (fun f x e1 e2 => by cases e2) (fun y e => by cases e)⟩
    · exact Or.inr ⟨rfl, pow_ref E0 hC hR' hF hW (fun f x e1 e2 => by cases e2) (fun y e => by cases e)⟩

set_option maxRecDepth 100000 in
set_option maxHeartbeats 3200000 in
theorem power_r {m : Nat} (hP : RPS m) (s : ByteArray) (a : Nat) (w : World) (ha : a < s.size) (h40 : s[a] = 40) (hm : s.size ≤ m + 1) (hs : s.size ≤ 1000) :
    Calls Tryz.prog 167 #[.string s, .int .i64 (a : Int)] w fun e w' => CutGot s a e w' ∧ Below w.heap.size w w' := by
  have HP := hide hP
  have HL := hide (show rest s a = 40 :: rest s (a + 1) by rw [rest_lt ha, h40])
  clear hP h40
  go_enter Tryz.func167, Tryz.ntmps167
  go_wp2_with fail
  refine (closing_c s a _ (by omega) (by omega)).mono ?_
  rintro e w' ⟨⟨c, hac, hcs, hcl, rfl⟩ | ⟨hcl, rfl⟩, rfl⟩
  · have HC := hide hcl
    clear hcl
    have hac1 : a + 1 ≤ c := by
      have := (unhide HC)
      rw [unhide HL] at this
      have := (closeIdx_pos (Or.inl rfl) this).1
      omega
    have hcn : ¬ (c : Int) < 0 := by omega
    by_cases h1 : s[c] = 41
    · have h1b : ((s[c].toNat : Int) != 41) = false := by rw [h1]; rfl
      by_cases h2 : c + 1 < s.size
      · have h2b : ¬ ((s.size : Int) ≤ (c : Int) + 1) := by omega
        by_cases h3 : s[c + 1] = 94
        · have h3b : ((s[c + 1].toNat : Int) != 94) = false := by rw [h3]; rfl
          have HR := hide (show rest s c = 41 :: 94 :: rest s (c + 2) by rw [rest_lt hcs, h1, rest_lt h2, h3])
          clear h1 h3
          go_wp2_with fail
          rw [show ((c : Int) + 2) = ((c + 2 : Nat) : Int) by omega]
          refine (whole_c s (c + 2) (-999) 999 _ (by omega) (by omega) (by decide) (by decide)).mono ?_
          rintro e w1 ⟨k, ok1, c2, rfl, hle, hc2, hwh, hb1⟩
          have P1 := (PB.start w rz #[.int .u8 40, .int .i64 0, .int .i64 0, .int .i64 0, .slice none 0 0, .string (s.extract (a + 1) c), .string ⟨#[]⟩]).next hb1
          obtain ⟨_, _, hc1, hf1⟩ := P1.f
          have HP1 := hide P1
          have HW := hide hwh
          clear P1 hwh hb1
          go_wp2_with fail
          have hsz := ext_size s (a + 1) c
          have hsz2 : (s.extract (a + 1) c).size ≤ s.size - 1 := by rw [ByteArray.size_extract]; omega
          refine (unhide HP (s.extract (a + 1) c) _ (by omega) (by omega)).mono ?_
          rintro e w2 ⟨⟨v, ok2, rfl, hpg⟩, hb2⟩
          have P2 := ((unhide HP1).set 3 (.int .i64 k)).next hb2
          obtain ⟨hc0, hf0, hc1', _⟩ := P2.f
          have hc3 : ∀ i, w2.cell? ⟨w.heap.size + 1, i, none⟩ = (#[.int .u8 40, .int .i64 0, .int .i64 0, .int .i64 k, .slice none 0 0, .string (s.extract (a + 1) c), .string ⟨#[]⟩] : Array Value)[i]? := hc1'
          have hcz : ∀ i, w2.cell? ⟨w.heap.size, i, none⟩ = (#[.int .u8 0, .int .i64 0, .int .i64 0, .int .i64 0, .slice none 0 0, .string ⟨#[]⟩, .string ⟨#[]⟩] : Array Value)[i]? := hc0
          have HPB := hide P2
          have HG := hide hpg
          clear P2 hpg hb2 hc1 hf1 hc1' HP1 hc0
          obtain ⟨bb, hbb⟩ : ∃ bb, bb = (ok1 && ok2) := ⟨_, rfl⟩
          have HFn := hide (fun wf => pow_fin (wf := wf) hac1 hc2 (unhide HL) (unhide HC) (unhide HR) (unhide HW) (unhide HG))
          rw [← hbb] at HFn
          have HBq := hide hbb
          clear HW HG hbb
          cases ok1 with
          | false =>
            go_wp2_with fail
            have hbf : bb = false := by have := unhide HBq; simpa using this
            subst hbf
            exact bodyPost_ret (v := .tuple #[RC.value ⟨40, 0, 0, k, none, 0, 0, s.extract (a + 1) c, ⟨#[]⟩⟩, .int .i64 (c2 : Int), .bool false]) (by simp [results, Tryz.results167, go_sem, hcz, RC.value, RC.cells]) rfl ⟨⟨⟨40, 0, 0, k, none, 0, 0, s.extract (a + 1) c, ⟨#[]⟩⟩, _, false, rfl, unhide HFn _⟩, st7_below (unhide HPB).bel (Nat.le_refl _) _ _ _ _ _ _ _⟩
          | true =>
            go_wp2_with fail
            have hbf : bb = ok2 := by have := unhide HBq; simpa using this
            subst hbf
            exact bodyPost_ret (v := .tuple #[RC.value ⟨40, 0, 0, k, none, 0, 0, s.extract (a + 1) c, ⟨#[]⟩⟩, .int .i64 (c2 : Int), .bool bb]) (by simp [results, Tryz.results167, go_sem, hcz, RC.value, RC.cells]) rfl ⟨⟨⟨40, 0, 0, k, none, 0, 0, s.extract (a + 1) c, ⟨#[]⟩⟩, _, bb, rfl, unhide HFn _⟩, st7_below (unhide HPB).bel (Nat.le_refl _) _ _ _ _ _ _ _⟩
        · have h3b : ((s[c + 1].toNat : Int) != 94) = true := bne_t (y := 94) h3
          have HB := hide (show ∀ R, rest s c ≠ 41 :: 94 :: R from fun R e => by rw [rest_lt hcs, rest_lt h2] at e; exact h3 (List.cons.inj (List.cons.inj e).2).1)
          clear h1 h3
          go_wp2_with fail
          exact bodyPost_ret (v := .tuple #[RC.value ⟨40, 0, 0, 0, none, 0, 0, ⟨#[]⟩, ⟨#[]⟩⟩, .int .i64 (a : Int), .bool false]) (by simp [results, Tryz.results167, go_sem, RC.value, RC.cells]) rfl ⟨⟨⟨40, 0, 0, 0, none, 0, 0, ⟨#[]⟩, ⟨#[]⟩⟩, _, false, rfl, Or.inr ⟨rfl, by rw [unhide HL]; exact pow_bad_close E0 (k := c - a) (by rw [← unhide HL]; exact unhide HC) (fun R e => unhide HB R (by rw [← e, rest_drop]; congr 1; omega))⟩⟩, (by repeat (first | exact Below.refl _ _ | refine below_dr ?_ _ | refine Below.drew ?_ | refine Below.setCell ?_ (by simp) _ | refine Below.alloc ?_ (by simp) _))⟩
      · have h2b : ((s.size : Int) ≤ (c : Int) + 1) := by omega
        have HB := hide (show ∀ R, rest s c ≠ 41 :: 94 :: R from fun R e => by rw [rest_lt hcs, rest_ge (show s.size ≤ c + 1 by omega)] at e; have := (List.cons.inj e).2; cases this)
        clear h1
        go_wp2_with fail
        exact bodyPost_ret (v := .tuple #[RC.value ⟨40, 0, 0, 0, none, 0, 0, ⟨#[]⟩, ⟨#[]⟩⟩, .int .i64 (a : Int), .bool false]) (by simp [results, Tryz.results167, go_sem, RC.value, RC.cells]) rfl ⟨⟨⟨40, 0, 0, 0, none, 0, 0, ⟨#[]⟩, ⟨#[]⟩⟩, _, false, rfl, Or.inr ⟨rfl, by rw [unhide HL]; exact pow_bad_close E0 (k := c - a) (by rw [← unhide HL]; exact unhide HC) (fun R e => unhide HB R (by rw [← e, rest_drop]; congr 1; omega))⟩⟩, (by repeat (first | exact Below.refl _ _ | refine below_dr ?_ _ | refine Below.drew ?_ | refine Below.setCell ?_ (by simp) _ | refine Below.alloc ?_ (by simp) _))⟩
    · have h1b : ((s[c].toNat : Int) != 41) = true := bne_t (y := 41) h1
      have HB := hide (show ∀ R, rest s c ≠ 41 :: 94 :: R from fun R e => by rw [rest_lt hcs] at e; exact h1 (List.cons.inj e).1)
      clear h1
      go_wp2_with fail
      exact bodyPost_ret (v := .tuple #[RC.value ⟨40, 0, 0, 0, none, 0, 0, ⟨#[]⟩, ⟨#[]⟩⟩, .int .i64 (a : Int), .bool false]) (by simp [results, Tryz.results167, go_sem, RC.value, RC.cells]) rfl ⟨⟨⟨40, 0, 0, 0, none, 0, 0, ⟨#[]⟩, ⟨#[]⟩⟩, _, false, rfl, Or.inr ⟨rfl, by rw [unhide HL]; exact pow_bad_close E0 (k := c - a) (by rw [← unhide HL]; exact unhide HC) (fun R e => unhide HB R (by rw [← e, rest_drop]; congr 1; omega))⟩⟩, (by repeat (first | exact Below.refl _ _ | refine below_dr ?_ _ | refine Below.drew ?_ | refine Below.setCell ?_ (by simp) _ | refine Below.alloc ?_ (by simp) _))⟩
  · have HC := hide hcl
    clear hcl
    go_wp2_with fail
    exact bodyPost_ret (v := .tuple #[RC.value ⟨40, 0, 0, 0, none, 0, 0, ⟨#[]⟩, ⟨#[]⟩⟩, .int .i64 (a : Int), .bool false]) (by simp [results, Tryz.results167, go_sem, RC.value, RC.cells]) rfl ⟨⟨⟨40, 0, 0, 0, none, 0, 0, ⟨#[]⟩, ⟨#[]⟩⟩, _, false, rfl, Or.inr ⟨rfl, by rw [unhide HL]; exact pow_no_close E0 (by rw [← unhide HL]; exact unhide HC)⟩⟩, (by repeat (first | exact Below.refl _ _ | refine below_dr ?_ _ | refine Below.drew ?_ | refine Below.setCell ?_ (by simp) _ | refine Below.alloc ?_ (by simp) _))⟩
end Go.Proofs.YtknokhbilckmiaaGreatDoor

/- Opposites: they may stand in a term, and are not much longer. No program in this text. -/
namespace Go.Proofs.YtknokhbilckmiaaGreatDoor
namespace T
open Go.Lib M

theorem Tm.snoc_of (ps : List Pt) (q : Pt) : (Tm.of ps).snoc q = Tm.of (ps ++ [q]) := by
  induction ps with
  | nil => rw [Tm.of, Tm.snoc]; rfl
  | cons p ps ih => rw [Tm.of, Tm.snoc, ih]; rfl
theorem Tm.opp_of : ∀ ps : List Pt, (Tm.of ps).opp = Tm.of (ps.reverse.map Pt.opp)
  | [] => by rw [Tm.of, Tm.opp]; rfl
  | p :: ps => by rw [Tm.of, Tm.opp, Tm.opp_of ps, Tm.snoc_of, List.reverse_cons, List.map_append]; rfl
theorem neg_small {c : Rat} (h : small c = true) : small (-c) = true := by
  unfold small at h ⊢
  have := of_decide_eq_true h
  apply decide_eq_true
  rw [Rat.neg_num, Rat.neg_den]
  simpa using this
theorem inv_small {c : Rat} (h : small c = true) (h0 : c ≠ 0) : small c⁻¹ = true := by
  obtain ⟨h1, h2⟩ := inv_pairs c h0
  unfold small at h ⊢
  have := of_decide_eq_true h
  apply decide_eq_true
  have hd := c.den_pos
  split at h1 <;> split at h2 <;> first | omega | (exfalso; omega)
theorem Sp.opp_wf {x y : Sp} (h : x.opp = some y) (hw : x.wf) : y.wf := by
  cases x with
  | plus c => cases h; exact neg_small hw
  | times c =>
    rw [show (Sp.times c).opp = (if c = 0 then none else some (.times c⁻¹)) from rfl] at h
    by_cases h0 : c = 0
    · rw [if_pos h0] at h; cases h
    · rw [if_neg h0] at h; cases h; exact inv_small hw h0
  | shift k => cases h; exact ⟨by have := hw.2; omega, by have := hw.1; omega⟩
  | set c => cases h
  | take k => cases h
  | drop k => cases h
  | pick ps => cases h
  | a => cases h
  | _ => cases h; exact (trivial : True)
theorem snoc_wf : ∀ (t : Tm) (q : Pt), t.wf → q.wf → (t.snoc q).wf
  | .nil, q, _, hq => by rw [Tm.snoc, Tm.wf, Tm.wf]; exact ⟨hq, trivial⟩
  | .cons p t, q, h, hq => by
    rw [Tm.wf] at h
    rw [Tm.snoc, Tm.wf]
    exact ⟨h.1, snoc_wf t q h.2 hq⟩
mutual
theorem Pt.opp_wf : ∀ p : Pt, p.wf → p.back = true → p.opp.wf
  | .sp x, hw, hb => by
    rw [Pt.wf] at hw
    rw [Pt.back] at hb
    rw [Pt.opp, Pt.wf]
    cases h : x.opp with
    | none => rw [h] at hb; cases hb
    | some y => exact Sp.opp_wf h hw
  | .pow f k, hw, _ => by
    rw [Pt.wf] at hw
    rw [Pt.opp, Pt.wf]
    exact ⟨hw.1, by omega, by omega⟩
  | .under s g, hw, hb => by
    rw [Pt.wf] at hw
    rw [Pt.back, Bool.and_eq_true] at hb
    rw [Pt.opp, Pt.wf]
    exact ⟨hw.1, Tm.opp_wf g hw.2 hb.1⟩
  | .name c b, hw, _ => by
    rw [Pt.opp, Pt.wf, Tm.wf, Tm.wf]
    exact ⟨⟨hw, trivial⟩, by omega, by omega⟩
theorem Tm.opp_wf : ∀ t : Tm, t.wf → t.back = true → t.opp.wf
  | .nil, _, _ => by rw [Tm.opp]; exact (trivial : True)
  | .cons p t, hw, hb => by
    rw [Tm.wf] at hw
    rw [Tm.back, Bool.and_eq_true] at hb
    rw [Tm.opp]
    exact snoc_wf _ _ (Tm.opp_wf t hw.2 hb.2) (Pt.opp_wf p hw.1 hb.1)
end
theorem snoc_text : ∀ (t : Tm) (q : Pt), (t.snoc q).text = t.text ++ q.text
  | .nil, q => by rw [Tm.snoc, Tm.text, Tm.text, Tm.text]; simp
  | .cons p t, q => by rw [Tm.snoc, Tm.text, Tm.text, snoc_text t q, List.append_assoc]
theorem rat_len {c : Rat} (h : small c = true) : (ratText c).length ≤ 22 := by
  unfold small at h
  have h' := of_decide_eq_true h
  unfold ratText numText
  have e1 : (itoa c.num).length ≤ 11 := by
    by_cases hn : c.num < 0
    · rw [itoa_neg _ hn]; have := dec_len_ten c.num.natAbs (by omega); simp; omega
    · rw [itoa_pos _ hn]; have := dec_len_ten c.num.natAbs (by omega); omega
  have e2 := dec_len_ten c.den (by omega)
  split <;> simp <;> omega
theorem itoa_len3 {k : Int} (h1 : -999 ≤ k) (h2 : k ≤ 999) : (itoa k).length ≤ 4 := by
  by_cases hn : k < 0
  · rw [itoa_neg _ hn]; have := dec_len_le 3 k.natAbs (by decide) (by omega); simp; omega
  · rw [itoa_pos _ hn]; have := dec_len_le 3 k.natAbs (by decide) (by omega); omega
theorem Sp.text_len {x : Sp} (h : x.wf) (hp : x.opp.isSome = true) : x.text.length ≤ 23 := by
  cases x with
  | plus c => have := rat_len h; simp [Sp.text]; omega
  | times c => have := rat_len h; simp [Sp.text]; omega
  | set c => have := rat_len h; simp [Sp.text]; omega
  | shift k => have := itoa_len3 (k := k) (by have := h.1; omega) (by have := h.2; omega); simp [Sp.text]; omega
  | take k => cases hp
  | drop k => cases hp
  | pick ps => cases hp
  | _ => simp [Sp.text]
theorem Sp.opp_some {x y : Sp} (h : x.opp = some y) : y.opp.isSome = true := by
  cases x with
  | times c =>
    rw [show (Sp.times c).opp = (if c = 0 then none else some (.times c⁻¹)) from rfl] at h
    by_cases h0 : c = 0
    · rw [if_pos h0] at h; cases h
    · rw [if_neg h0] at h; cases h
      have : c⁻¹ ≠ 0 := fun e => by
        have h1 := (inv_pairs c h0).1
        rw [e] at h1
        have hd := c.den_pos
        split at h1
        · have : (0 : Int) = -(c.den : Int) := h1
          omega
        · have : (0 : Int) = (c.den : Int) := h1
          omega
      simp [Sp.opp, this]
  | set c => cases h
  | take k => cases h
  | drop k => cases h
  | pick ps => cases h
  | a => cases h
  | _ => cases h; rfl
mutual
theorem Pt.opp_len : ∀ p : Pt, p.wf → p.back = true → p.opp.text.length ≤ 24 * p.text.length
  | .sp x, hw, hb => by
    have h1 : 1 ≤ (Pt.sp x).text.length := by
      obtain ⟨l, e⟩ := Pt.text_first (.sp x)
      rw [e]; simp
    rw [Pt.wf] at hw
    rw [Pt.back] at hb
    rw [Pt.opp]
    cases h : x.opp with
    | none => rw [h] at hb; cases hb
    | some y =>
      have h2 := Sp.text_len (Sp.opp_wf h hw) (Sp.opp_some h)
      have h3 : (Pt.sp ((some y).getD x)).text = y.text := rfl
      rw [h3]
      omega
  | .pow f k, hw, _ => by
    rw [Pt.wf] at hw
    have h1 := itoa_len3 (k := -k) (by omega) (by omega)
    rw [Pt.opp, Pt.text, Pt.text]
    simp
    omega
  | .under s g, hw, hb => by
    rw [Pt.wf] at hw
    rw [Pt.back, Bool.and_eq_true] at hb
    have ih := Tm.opp_len g hw.2 hb.1
    rw [Pt.opp, Pt.text, Pt.text]
    simp
    omega
  | .name c b, _, _ => by
    have h1 := itoa_len3 (k := -1) (by omega) (by omega)
    rw [Pt.opp, Pt.text, Tm.text, Tm.text, Pt.text]
    simp
    omega
theorem Tm.opp_len : ∀ t : Tm, t.wf → t.back = true → t.opp.text.length ≤ 24 * t.text.length
  | .nil, _, _ => by rw [Tm.opp, Tm.text]; simp
  | .cons p t, hw, hb => by
    rw [Tm.wf] at hw
    rw [Tm.back, Bool.and_eq_true] at hb
    have h1 := Pt.opp_len p hw.1 hb.1
    have h2 := Tm.opp_len t hw.2 hb.2
    rw [Tm.opp, snoc_text, Tm.text]
    simp
    omega
end
end T
end Go.Proofs.YtknokhbilckmiaaGreatDoor

import Derived.Test.YtikiaijgcjjloaaGreatDoorPart16
import Derived.Test.YtikiaijgcjjloaaGreatDoorPart17
import Derived.Test.YtikiaijgcjjloaaGreatDoorPart6
import Derived.Test.YtikiaijgcjjloaaGreatDoorPart14
import Derived.Test.YtikiaijgcjjloaaGreatDoorPart7
import Derived.Laws.Runes

namespace Go.Proofs.YtikiaijgcjjloaaGreatDoor
open Go Go.RowKit M T Go.Lib
def rz : Array Value := #[.int .u8 0, .int .i64 0, .int .i64 0, .int .i64 0, .slice none 0 0, .string ⟨#[]⟩, .string ⟨#[]⟩]
def RPt (w : World) (x : RC) : Pt → Prop
  | .sp y => x.Kd = y.first ∧ match y with
    | .plus c => x.P = c.num ∧ x.Q = (c.den : Int)
    | .times c => x.P = c.num ∧ x.Q = (c.den : Int)
    | .set c => x.P = c.num ∧ x.Q = (c.den : Int)
    | .shift k => x.K = k
    | .take k => x.K = (k : Int)
    | .drop k => x.K = (k : Int)
    | .pick ps => w.ownsRow 0 3 1 (.slice x.pa x.pn x.pc) ps.length (ints ps)
    | _ => True
  | .pow f k => x.Kd = 40 ∧ x.F.data.toList = f.text ∧ x.K = k
  | .under s g => x.Kd = 91 ∧ x.F.data.toList = s.text ∧ x.G.data.toList = g.text
  | .name c _ => x.Kd = c
def CutGot (s : ByteArray) (a : Nat) (e : Ending) (w' : World) : Prop :=
  ∃ (x : RC) (b : Int) (ok : Bool), e = .returned (.tuple #[RC.value x, .int .i64 b, .bool ok]) ∧ ((ok = true ∧ ∃ (p : Pt) (c : Nat), b = (c : Int) ∧ c ≤ s.size ∧ RdP E0 (rest s a) (some (p, rest s c)) ∧ RPt w' x p) ∨ (ok = false ∧ RdP E0 (rest s a) none))
def rrow (xs : List RC) : List Value := (xs.map RC.cells).flatten
def RPl (w : World) : List RC → List Pt → Prop
  | [], [] => True
  | x :: xs, p :: ps => RPt w x p ∧ RPl w xs ps
  | _, _ => False
def PartsGot (s : ByteArray) (e : Ending) (w' : World) : Prop :=
  ∃ v ok, e = .returned (.tuple #[v, .bool ok]) ∧ ((ok = true ∧ ∃ xs ps, Whole E0 s.data.toList (some (Tm.of ps)) ∧ w'.ownsRow 0 131 7 v xs.length (rrow xs) ∧ RPl w' xs ps) ∨ (ok = false ∧ v = .slice none 0 0 ∧ Whole E0 s.data.toList none))
def RPS (m : Nat) : Prop := ∀ (s : ByteArray) (w : World), s.size ≤ m → s.size ≤ 1000 → Calls Tryz.prog 99 #[.string s] w fun e w' => PartsGot s e w' ∧ Below w.heap.size w w'
structure PB (w : World) (c0 c1 : Array Value) (wx : World) : Prop where
  bel : Below w.heap.size w wx
  b0 : wx.heap[w.heap.size]? = some (.cells c0 131 (0, 0))
  b1 : wx.heap[w.heap.size + 1]? = some (.cells c1 131 (0, 0))
theorem PB.start (w : World) (c0 c1 : Array Value) : PB w c0 c1 ((w.alloc (.cells c0 131)).alloc (.cells c1 131)) :=
  ⟨(Below.refl _ _).alloc (Nat.le_refl _) _ |>.alloc (by simp) _, by rw [Below.heap_alloc _ _ _ (by simp)]; exact heap_alloc_new w _, new_at2 w _ _⟩
theorem PB.next {w : World} {c0 c1 : Array Value} {wx wy : World} (h : PB w c0 c1 wx) (hb : Below wx.heap.size wx wy) : PB w c0 c1 wy :=
  ⟨h.bel.trans (hb.mono h.bel.size), by rw [hb.block _ (lt_of_block h.b0)]; exact h.b0, by rw [hb.block _ (lt_of_block h.b1)]; exact h.b1⟩
theorem PB.set {w : World} {c0 c1 : Array Value} {wx : World} (h : PB w c0 c1 wx) (i : Nat) (v : Value) : PB w c0 (c1.setIfInBounds i v) (wx.setCell ⟨w.heap.size + 1, i, none⟩ v) :=
  ⟨h.bel.setCell (p := ⟨w.heap.size + 1, i, none⟩) (Nat.le_succ _) _, by rw [Below.heap_setCell _ _ _ _ (by show w.heap.size ≠ w.heap.size + 1; omega)]; exact h.b0, blk_set h.b1 i v⟩
theorem PB.f {w : World} {c0 c1 : Array Value} {wx : World} (h : PB w c0 c1 wx) : (∀ i, wx.cell? ⟨w.heap.size, i, none⟩ = c0[i]?) ∧ (∀ i, wx.frozen? ⟨w.heap.size, i, none⟩ = false) ∧ (∀ i, wx.cell? ⟨w.heap.size + 1, i, none⟩ = c1[i]?) ∧ (∀ i, wx.frozen? ⟨w.heap.size + 1, i, none⟩ = false) := ⟨fun i => blk_cell h.b0 i, fun i => blk_free h.b0 i, fun i => blk_cell h.b1 i, fun i => blk_free h.b1 i⟩
theorem closing_c (s : ByteArray) (a : Nat) (w : World) (ha : a ≤ s.size) (hs : s.size ≤ 1000000) :
    Calls Tryz.prog 182 #[.string s, .int .i64 (a : Int)] w fun e w' => ((∃ c : Nat, a ≤ c ∧ c < s.size ∧ closeIdx (rest s a) 0 = some (c - a) ∧ e = .returned (.int .i64 (c : Int))) ∨ (closeIdx (rest s a) 0 = none ∧ e = .returned (.int .i64 (-1)))) ∧ w = w' := by
  refine (closing_any s a w ha hs).mono ?_
  rintro e w' ⟨⟨k, hk, rfl⟩ | h, hw⟩
  · refine ⟨Or.inl ⟨a + k, Nat.le_add_right _ _, ?_, by rw [Nat.add_sub_cancel_left]; exact hk, rfl⟩, hw⟩
    have := closeIdx_lt _ _ _ hk
    rw [rest_len] at this
    omega
  · exact ⟨Or.inr h, hw⟩
theorem rest_drop (s : ByteArray) (a k : Nat) : (rest s a).drop k = rest s (a + k) := (rest_add s a k).symm
theorem ext_rest (s : ByteArray) (a b : Nat) : (s.extract a b).data.toList = (rest s a).take (b - a) := ext_list s a b
theorem pow_fin {s : ByteArray} {a c c2 : Nat} {k : Int} {ok1 ok2 : Bool} {v : Value} {w2 wf : World} (hac : a + 1 ≤ c) (hc2 : c2 ≤ s.size) (hL : rest s a = 40 :: rest s (a + 1)) (hC : closeIdx (rest s a) 0 = some (c - a)) (hR : rest s c = 41 :: 94 :: rest s (c + 2)) (hW : (ok1 = true ∧ WhAt (rest s (c + 2)) (-999) 999 (some (k, rest s c2))) ∨ (ok1 = false ∧ WhAt (rest s (c + 2)) (-999) 999 none)) (hG : (ok2 = true ∧ ∃ xs ps, Whole E0 (s.extract (a + 1) c).data.toList (some (Tm.of ps)) ∧ w2.ownsRow 0 131 7 v xs.length (rrow xs) ∧ RPl w2 xs ps) ∨ (ok2 = false ∧ v = .slice none 0 0 ∧ Whole E0 (s.extract (a + 1) c).data.toList none)) :
    ((ok1 && ok2) = true ∧ ∃ (p : Pt) (c' : Nat), (c2 : Int) = (c' : Int) ∧ c' ≤ s.size ∧ RdP E0 (rest s a) (some (p, rest s c')) ∧ RPt wf ⟨40, 0, 0, k, none, 0, 0, s.extract (a + 1) c, ⟨#[]⟩⟩ p) ∨ ((ok1 && ok2) = false ∧ RdP E0 (rest s a) none) := by
  rw [hL] at hC ⊢
  have hR' : (rest s (a + 1)).drop (c - a - 1) = 41 :: 94 :: rest s (c + 2) := by rw [rest_drop, show a + 1 + (c - a - 1) = c by omega]; exact hR
  have hx : (s.extract (a + 1) c).data.toList = (rest s (a + 1)).take (c - a - 1) := by rw [ext_rest, Nat.sub_sub]
  rw [hx] at hG
  rcases hW with ⟨rfl, hW⟩ | ⟨rfl, hW⟩
  · rcases hG with ⟨rfl, xs, ps, hF, _, _⟩ | ⟨rfl, _, hF⟩
    · refine Or.inl ⟨rfl, .pow (Tm.of ps) k, c2, rfl, hc2, pow_ref E0 hC hR' hF hW (fun f x e1 e2 => by cases e1; cases e2; rfl) (fun y e => by cases e; exact ⟨_, _, rfl, rfl, rfl⟩), rfl, ?_, rfl⟩
      rw [hx]
      exact (hF.sound _ rfl).2.2
    · exact Or.inr ⟨rfl, pow_ref E0 hC hR' hF hW (fun f x e1 e2 => by cases e1) (fun y e => by cases e)⟩
  · rcases hG with ⟨rfl, xs, ps, hF, _, _⟩ | ⟨rfl, _, hF⟩
    · exact Or.inr ⟨rfl, pow_ref E0 hC hR' hF hW (fun f x e1 e2 => by cases e2) (fun y e => by cases e)⟩
    · exact Or.inr ⟨rfl, pow_ref E0 hC hR' hF hW (fun f x e1 e2 => by cases e2) (fun y e => by cases e)⟩
set_option maxRecDepth 100000 in
set_option maxHeartbeats 3200000 in
theorem power_r {m : Nat} (hP : RPS m) (s : ByteArray) (a : Nat) (w : World) (ha : a < s.size) (h40 : s[a] = 40) (hm : s.size ≤ m + 1) (hs : s.size ≤ 1000) :
    Calls Tryz.prog 169 #[.string s, .int .i64 (a : Int)] w fun e w' => CutGot s a e w' ∧ Below w.heap.size w w' := by
  have HP := hide hP
  have HL := hide (show rest s a = 40 :: rest s (a + 1) by rw [rest_lt ha, h40])
  clear hP h40
  go_enter Tryz.func169, Tryz.ntmps169
  go_wp2_with fail
  refine (closing_c s a _ (by omega) (by omega)).mono ?_
  rintro e w' ⟨⟨c, hac, hcs, hcl, rfl⟩ | ⟨hcl, rfl⟩, rfl⟩
  · have HC := hide hcl
    clear hcl
    have hac1 : a + 1 ≤ c := by
      have := (unhide HC)
      rw [unhide HL] at this
      have := (closeIdx_pos (Or.inl rfl) this).1
      omega
    have hcn : ¬ (c : Int) < 0 := by omega
    by_cases h1 : s[c] = 41
    · have h1b : ((s[c].toNat : Int) != 41) = false := by rw [h1]; rfl
      by_cases h2 : c + 1 < s.size
      · have h2b : ¬ ((s.size : Int) ≤ (c : Int) + 1) := by omega
        by_cases h3 : s[c + 1] = 94
        · have h3b : ((s[c + 1].toNat : Int) != 94) = false := by rw [h3]; rfl
          have HR := hide (show rest s c = 41 :: 94 :: rest s (c + 2) by rw [rest_lt hcs, h1, rest_lt h2, h3])
          clear h1 h3
          go_wp2_with fail
          rw [show ((c : Int) + 2) = ((c + 2 : Nat) : Int) by omega]
          refine (whole_c s (c + 2) (-999) 999 _ (by omega) (by omega) (by decide) (by decide)).mono ?_
          rintro e w1 ⟨k, ok1, c2, rfl, hle, hc2, hwh, hb1⟩
          have P1 := (PB.start w rz #[.int .u8 40, .int .i64 0, .int .i64 0, .int .i64 0, .slice none 0 0, .string (s.extract (a + 1) c), .string ⟨#[]⟩]).next hb1
          obtain ⟨_, _, hc1, hf1⟩ := P1.f
          have HP1 := hide P1
          have HW := hide hwh
          clear P1 hwh hb1
          go_wp2_with fail
          have hsz := ext_size s (a + 1) c
          have hsz2 : (s.extract (a + 1) c).size ≤ s.size - 1 := by rw [ByteArray.size_extract]; omega
          refine (unhide HP (s.extract (a + 1) c) _ (by omega) (by omega)).mono ?_
          rintro e w2 ⟨⟨v, ok2, rfl, hpg⟩, hb2⟩
          have P2 := ((unhide HP1).set 3 (.int .i64 k)).next hb2
          obtain ⟨hc0, hf0, hc1', _⟩ := P2.f
          have hc3 : ∀ i, w2.cell? ⟨w.heap.size + 1, i, none⟩ = (#[.int .u8 40, .int .i64 0, .int .i64 0, .int .i64 k, .slice none 0 0, .string (s.extract (a + 1) c), .string ⟨#[]⟩] : Array Value)[i]? := hc1'
          have hcz : ∀ i, w2.cell? ⟨w.heap.size, i, none⟩ = (#[.int .u8 0, .int .i64 0, .int .i64 0, .int .i64 0, .slice none 0 0, .string ⟨#[]⟩, .string ⟨#[]⟩] : Array Value)[i]? := hc0
          have HPB := hide P2
          have HG := hide hpg
          clear P2 hpg hb2 hc1 hf1 hc1' HP1 hc0
          obtain ⟨bb, hbb⟩ : ∃ bb, bb = (ok1 && ok2) := ⟨_, rfl⟩
          have HFn := hide (fun wf => pow_fin (wf := wf) hac1 hc2 (unhide HL) (unhide HC) (unhide HR) (unhide HW) (unhide HG))
          rw [← hbb] at HFn
          have HBq := hide hbb
          clear HW HG hbb
          cases ok1 with
          | false =>
            go_wp2_with fail
            have hbf : bb = false := by have := unhide HBq; simpa using this
            subst hbf
            exact bodyPost_ret (v := .tuple #[RC.value ⟨40, 0, 0, k, none, 0, 0, s.extract (a + 1) c, ⟨#[]⟩⟩, .int .i64 (c2 : Int), .bool false]) (by simp [results, Tryz.results169, go_sem, hcz, RC.value, RC.cells]) rfl ⟨⟨⟨40, 0, 0, k, none, 0, 0, s.extract (a + 1) c, ⟨#[]⟩⟩, _, false, rfl, unhide HFn _⟩, st7_below (unhide HPB).bel (Nat.le_refl _) _ _ _ _ _ _ _⟩
          | true =>
            go_wp2_with fail
            have hbf : bb = ok2 := by have := unhide HBq; simpa using this
            subst hbf
            exact bodyPost_ret (v := .tuple #[RC.value ⟨40, 0, 0, k, none, 0, 0, s.extract (a + 1) c, ⟨#[]⟩⟩, .int .i64 (c2 : Int), .bool bb]) (by simp [results, Tryz.results169, go_sem, hcz, RC.value, RC.cells]) rfl ⟨⟨⟨40, 0, 0, k, none, 0, 0, s.extract (a + 1) c, ⟨#[]⟩⟩, _, bb, rfl, unhide HFn _⟩, st7_below (unhide HPB).bel (Nat.le_refl _) _ _ _ _ _ _ _⟩
        · have h3b : ((s[c + 1].toNat : Int) != 94) = true := bne_t (y := 94) h3
          have HB := hide (show ∀ R, rest s c ≠ 41 :: 94 :: R from fun R e => by rw [rest_lt hcs, rest_lt h2] at e; exact h3 (List.cons.inj (List.cons.inj e).2).1)
          clear h1 h3
          go_wp2_with fail
          exact bodyPost_ret (v := .tuple #[RC.value ⟨40, 0, 0, 0, none, 0, 0, ⟨#[]⟩, ⟨#[]⟩⟩, .int .i64 (a : Int), .bool false]) (by simp [results, Tryz.results169, go_sem, RC.value, RC.cells]) rfl ⟨⟨⟨40, 0, 0, 0, none, 0, 0, ⟨#[]⟩, ⟨#[]⟩⟩, _, false, rfl, Or.inr ⟨rfl, by rw [unhide HL]; exact pow_bad_close E0 (k := c - a) (by rw [← unhide HL]; exact unhide HC) (fun R e => unhide HB R (by rw [← e, rest_drop]; congr 1; omega))⟩⟩, (by repeat (first | exact Below.refl _ _ | refine below_dr ?_ _ | refine Below.drew ?_ | refine Below.setCell ?_ (by simp) _ | refine Below.alloc ?_ (by simp) _))⟩
      · have h2b : ((s.size : Int) ≤ (c : Int) + 1) := by omega
        have HB := hide (show ∀ R, rest s c ≠ 41 :: 94 :: R from fun R e => by rw [rest_lt hcs, rest_ge (show s.size ≤ c + 1 by omega)] at e; have := (List.cons.inj e).2; cases this)
        clear h1
        go_wp2_with fail
        exact bodyPost_ret (v := .tuple #[RC.value ⟨40, 0, 0, 0, none, 0, 0, ⟨#[]⟩, ⟨#[]⟩⟩, .int .i64 (a : Int), .bool false]) (by simp [results, Tryz.results169, go_sem, RC.value, RC.cells]) rfl ⟨⟨⟨40, 0, 0, 0, none, 0, 0, ⟨#[]⟩, ⟨#[]⟩⟩, _, false, rfl, Or.inr ⟨rfl, by rw [unhide HL]; exact pow_bad_close E0 (k := c - a) (by rw [← unhide HL]; exact unhide HC) (fun R e => unhide HB R (by rw [← e, rest_drop]; congr 1; omega))⟩⟩, (by repeat (first | exact Below.refl _ _ | refine below_dr ?_ _ | refine Below.drew ?_ | refine Below.setCell ?_ (by simp) _ | refine Below.alloc ?_ (by simp) _))⟩
    · have h1b : ((s[c].toNat : Int) != 41) = true := bne_t (y := 41) h1
      have HB := hide (show ∀ R, rest s c ≠ 41 :: 94 :: R from fun R e => by rw [rest_lt hcs] at e; exact h1 (List.cons.inj e).1)
      clear h1
      go_wp2_with fail
      exact bodyPost_ret (v := .tuple #[RC.value ⟨40, 0, 0, 0, none, 0, 0, ⟨#[]⟩, ⟨#[]⟩⟩, .int .i64 (a : Int), .bool false]) (by simp [results, Tryz.results169, go_sem, RC.value, RC.cells]) rfl ⟨⟨⟨40, 0, 0, 0, none, 0, 0, ⟨#[]⟩, ⟨#[]⟩⟩, _, false, rfl, Or.inr ⟨rfl, by rw [unhide HL]; exact pow_bad_close E0 (k := c - a) (by rw [← unhide HL]; exact unhide HC) (fun R e => unhide HB R (by rw [← e, rest_drop]; congr 1; omega))⟩⟩, (by repeat (first | exact Below.refl _ _ | refine below_dr ?_ _ | refine Below.drew ?_ | refine Below.setCell ?_ (by simp) _ | refine Below.alloc ?_ (by simp) _))⟩
  · have HC := hide hcl
    clear hcl
    go_wp2_with fail
    exact bodyPost_ret (v := .tuple #[RC.value ⟨40, 0, 0, 0, none, 0, 0, ⟨#[]⟩, ⟨#[]⟩⟩, .int .i64 (a : Int), .bool false]) (by simp [results, Tryz.results169, go_sem, RC.value, RC.cells]) rfl ⟨⟨⟨40, 0, 0, 0, none, 0, 0, ⟨#[]⟩, ⟨#[]⟩⟩, _, false, rfl, Or.inr ⟨rfl, by rw [unhide HL]; exact pow_no_close E0 (by rw [← unhide HL]; exact unhide HC)⟩⟩, (by repeat (first | exact Below.refl _ _ | refine below_dr ?_ _ | refine Below.drew ?_ | refine Below.setCell ?_ (by simp) _ | refine Below.alloc ?_ (by simp) _))⟩
end Go.Proofs.YtikiaijgcjjloaaGreatDoor

namespace Go.Proofs.YtikiaijgcjjloaaGreatDoor
namespace T
open Go.Lib M
theorem Tm.snoc_of (ps : List Pt) (q : Pt) : (Tm.of ps).snoc q = Tm.of (ps ++ [q]) := by
  induction ps with
  | nil => rw [Tm.of, Tm.snoc]; rfl
  | cons p ps ih => rw [Tm.of, Tm.snoc, ih]; rfl
theorem Tm.opp_of : ∀ ps : List Pt, (Tm.of ps).opp = Tm.of (ps.reverse.map Pt.opp)
  | [] => by rw [Tm.of, Tm.opp]; rfl
  | p :: ps => by rw [Tm.of, Tm.opp, Tm.opp_of ps, Tm.snoc_of, List.reverse_cons, List.map_append]; rfl
theorem neg_small {c : Rat} (h : small c = true) : small (-c) = true := by
  unfold small at h ⊢
  have := of_decide_eq_true h
  apply decide_eq_true
  rw [Rat.neg_num, Rat.neg_den]
  simpa using this
theorem inv_small {c : Rat} (h : small c = true) (h0 : c ≠ 0) : small c⁻¹ = true := by
  obtain ⟨h1, h2⟩ := inv_pairs c h0
  unfold small at h ⊢
  have := of_decide_eq_true h
  apply decide_eq_true
  have hd := c.den_pos
  split at h1 <;> split at h2 <;> first | omega | (exfalso; omega)
theorem Sp.opp_wf {x y : Sp} (h : x.opp = some y) (hw : x.wf) : y.wf := by
  cases x with
  | plus c => cases h; exact neg_small hw
  | times c =>
    rw [show (Sp.times c).opp = (if c = 0 then none else some (.times c⁻¹)) from rfl] at h
    by_cases h0 : c = 0
    · rw [if_pos h0] at h; cases h
    · rw [if_neg h0] at h; cases h; exact inv_small hw h0
  | shift k => cases h; exact ⟨by have := hw.2; omega, by have := hw.1; omega⟩
  | set c => cases h
  | take k => cases h
  | drop k => cases h
  | pick ps => cases h
  | a => cases h
  | _ => cases h; exact (trivial : True)
theorem rat_len {c : Rat} (h : small c = true) : (ratText c).length ≤ 22 := by
  unfold small at h
  have h' := of_decide_eq_true h
  unfold ratText numText
  have e1 : (itoa c.num).length ≤ 11 := by
    by_cases hn : c.num < 0
    · rw [M.itoa_neg _ hn]; have := dec_len_ten c.num.natAbs (by omega); simp; omega
    · rw [M.itoa_pos _ hn]; have := dec_len_ten c.num.natAbs (by omega); omega
  have e2 := dec_len_ten c.den (by omega)
  split <;> simp <;> omega
theorem itoa_len3 {k : Int} (h1 : -999 ≤ k) (h2 : k ≤ 999) : (itoa k).length ≤ 4 := by
  by_cases hn : k < 0
  · rw [M.itoa_neg _ hn]; have := dec_len_le 3 k.natAbs (by decide) (by omega); simp; omega
  · rw [M.itoa_pos _ hn]; have := dec_len_le 3 k.natAbs (by decide) (by omega); omega
theorem Sp.text_len {x : Sp} (h : x.wf) (hp : x.opp.isSome = true) : x.text.length ≤ 23 := by
  cases x with
  | plus c => have := rat_len h; simp [Sp.text]; omega
  | times c => have := rat_len h; simp [Sp.text]; omega
  | set c => have := rat_len h; simp [Sp.text]; omega
  | shift k => have := itoa_len3 (k := k) (by have := h.1; omega) (by have := h.2; omega); simp [Sp.text]; omega
  | take k => cases hp
  | drop k => cases hp
  | pick ps => cases hp
  | _ => simp [Sp.text]
end T
end Go.Proofs.YtikiaijgcjjloaaGreatDoor

namespace Go.Proofs.YtikiaijgcjjloaaGreatDoor
namespace T
open Go.Lib M
def up (c : UInt8) : Bool := decide (65 ≤ c.toNat ∧ c.toNat ≤ 90)
def unkB (env : Env) (c : UInt8) : Bool := up c && (env c).isNone
theorem any_low {env : Env} {l : List UInt8} (h : ∀ c ∈ l, up c = false) : l.any (unkB env) = false := by
  rw [List.any_eq_false]
  intro c hc
  simp [unkB, h c hc]
theorem dig_low {c : UInt8} (h : isDig c = true) : up c = false := by
  unfold isDig at h
  unfold up
  simp only [decide_eq_true_eq] at h
  apply decide_eq_false
  have : (57 : UInt8).toNat = 57 := rfl
  omega
theorem dec_low (n : Nat) : ∀ c ∈ decDigits n, up c = false := fun c hc => dig_low (dec_all n c hc)
theorem itoa_low (k : Int) : ∀ c ∈ itoa k, up c = false := by
  intro c hc
  by_cases hn : k < 0
  · rw [M.itoa_neg _ hn] at hc
    rcases List.mem_cons.1 hc with rfl | h
    · rfl
    · exact dec_low _ c h
  · rw [M.itoa_pos _ hn] at hc
    exact dec_low _ c hc
theorem ratText_low (x : Rat) : ∀ c ∈ ratText x, up c = false := by
  intro c hc
  unfold ratText numText at hc
  rcases List.mem_append.1 hc with h | h
  · exact itoa_low _ c h
  · split at h
    · cases h
    · rcases List.mem_cons.1 h with rfl | h
      · rfl
      · exact dec_low _ c h
theorem dots_low : ∀ (l : List Nat), ∀ c ∈ dots l, up c = false
  | [], c, h => by cases h
  | [i], c, h => dec_low i c h
  | i :: j :: l, c, h => by
    rw [show dots (i :: j :: l) = decDigits i ++ 46 :: dots (j :: l) from rfl] at h
    rcases List.mem_append.1 h with h | h
    · exact dec_low _ c h
    · rcases List.mem_cons.1 h with rfl | h
      · rfl
      · exact dots_low (j :: l) c h
theorem Sp.low (x : Sp) : ∀ c ∈ x.text, up c = false := by
  intro c hc
  cases x with
  | plus r => exact (List.mem_cons.1 hc).elim (fun e => by rw [e]; rfl) (fun h => ratText_low _ _ h)
  | times r => exact (List.mem_cons.1 hc).elim (fun e => by rw [e]; rfl) (fun h => ratText_low _ _ h)
  | set r => exact (List.mem_cons.1 hc).elim (fun e => by rw [e]; rfl) (fun h => ratText_low _ _ h)
  | shift k => exact (List.mem_cons.1 hc).elim (fun e => by rw [e]; rfl) (fun h => itoa_low _ _ h)
  | take k => exact (List.mem_cons.1 hc).elim (fun e => by rw [e]; rfl) (fun h => dec_low _ _ h)
  | drop k => exact (List.mem_cons.1 hc).elim (fun e => by rw [e]; rfl) (fun h => dec_low _ _ h)
  | pick l => exact (List.mem_cons.1 hc).elim (fun e => by rw [e]; rfl) (fun h => dots_low _ _ h)
  | _ => exact (List.mem_cons.1 hc).elim (fun e => by rw [e]; rfl) (fun h => by cases h)
mutual
theorem Pt.any_text (env : Env) : ∀ p : Pt, p.wf → p.text.any (unkB env) = p.unk env
  | .sp x, _ => by rw [Pt.text, Pt.unk]; exact any_low x.low
  | .pow f k, h => by
    rw [Pt.wf] at h
    rw [Pt.text, Pt.unk, List.any_cons, List.any_append, List.any_cons, List.any_cons, Tm.any_text env f h.1, any_low (itoa_low k)]
    rw [show unkB env 40 = false from rfl, show unkB env 41 = false from rfl, show unkB env 94 = false from rfl]
    simp
  | .under s g, h => by
    rw [Pt.wf] at h
    rw [Pt.text, Pt.unk, List.any_cons, List.any_append, List.any_cons, List.any_append, List.any_cons, List.any_nil, Tm.any_text env s h.1, Tm.any_text env g h.2]
    rw [show unkB env 91 = false from rfl, show unkB env 58 = false from rfl, show unkB env 93 = false from rfl]
    simp
  | .name c b, h => by
    rw [Pt.wf] at h
    rw [Pt.text, Pt.unk, List.any_cons, List.any_nil, unkB, show up c = true from decide_eq_true ⟨h.1, h.2.1⟩]
    simp
theorem Tm.any_text (env : Env) : ∀ t : Tm, t.wf → t.text.any (unkB env) = t.unk env
  | .nil, _ => rfl
  | .cons p t, h => by
    rw [Tm.wf] at h
    rw [Tm.text, Tm.unk, List.any_append, Pt.any_text env p h.1, Tm.any_text env t h.2]
end
mutual
theorem Pt.bind_known (env : Env) : ∀ p : Pt, p.unk env = false → (p.bind env).inEnv env
  | .sp _, _ => by rw [Pt.bind, Pt.inEnv]; trivial
  | .pow f k, h => by rw [Pt.unk] at h; rw [Pt.bind, Pt.inEnv]; exact Tm.bind_known env f h
  | .under s g, h => by
    rw [Pt.unk, Bool.or_eq_false_iff] at h
    rw [Pt.bind, Pt.inEnv]
    exact ⟨Tm.bind_known env s h.1, Tm.bind_known env g h.2⟩
  | .name c b, h => by
    rw [Pt.unk] at h
    rw [Pt.bind, Pt.inEnv]
    cases hc : env c with
    | none => rw [hc] at h; cases h
    | some x => rfl
theorem Tm.bind_known (env : Env) : ∀ t : Tm, t.unk env = false → (t.bind env).inEnv env
  | .nil, _ => by rw [Tm.bind, Tm.inEnv]; trivial
  | .cons p t, h => by
    rw [Tm.unk, Bool.or_eq_false_iff] at h
    rw [Tm.bind, Tm.inEnv]
    exact ⟨Pt.bind_known env p h.1, Tm.bind_known env t h.2⟩
end
mutual
theorem Pt.bind_unk (e env : Env) : ∀ p : Pt, (p.bind e).unk env = p.unk env
  | .sp _ => rfl
  | .pow f k => by rw [Pt.bind, Pt.unk, Pt.unk, Tm.bind_unk e env f]
  | .under s g => by rw [Pt.bind, Pt.unk, Pt.unk, Tm.bind_unk e env s, Tm.bind_unk e env g]
  | .name c b => by rw [Pt.bind, Pt.unk, Pt.unk]
theorem Tm.bind_unk (e env : Env) : ∀ t : Tm, (t.bind e).unk env = t.unk env
  | .nil => rfl
  | .cons p t => by rw [Tm.bind, Tm.unk, Tm.unk, Pt.bind_unk e env p, Tm.bind_unk e env t]
end
theorem Tm.bind_of (env : Env) : ∀ ps : List Pt, (Tm.of ps).bind env = Tm.of (ps.map (Pt.bind env))
  | [] => rfl
  | p :: ps => by rw [Tm.of, Tm.bind, Tm.bind_of env ps]; rfl
theorem whole_wf {s : List UInt8} {t : Tm} (h : Whole E0 s (some t)) : t.wf ∧ t.text = s := by
  obtain ⟨a, b, c⟩ := h.sound t rfl
  exact ⟨a, c.symm⟩
theorem whole_good {env : Env} (he : env.wf) {s : List UInt8} {t : Tm} (h : Whole E0 s (some t)) (hu : t.unk env = false) : IsTerm env s (t.bind env) := by
  obtain ⟨a, b⟩ := whole_wf h
  obtain ⟨c, d, _⟩ := Tm.bind_facts env he t
  exact ⟨d a, Tm.bind_known env t hu, by rw [c, b]⟩
theorem whole_unk {env : Env} {s : List UInt8} {t : Tm} (h : Whole E0 s (some t)) (hu : t.unk env = true) : ¬ ∃ t', IsTerm env s t' := by
  rintro ⟨t', h'⟩
  obtain ⟨_, b⟩ := Tm.known_full env t' h'.env
  obtain ⟨c, d, e⟩ := Tm.bind_facts E0 E0_wf t'
  have := h.comp (t'.bind E0) (d h'.wf) (e (fun _ h => by cases h)) (by rw [c, h'.text])
  simp only [Option.some.injEq] at this
  rw [this, Tm.bind_unk, b] at hu
  cases hu
theorem whole_is {env : Env} (he : env.wf) {s : List UInt8} {t t' : Tm} (h : Whole E0 s (some t)) (h' : IsTerm env s t') : t.bind env = t' := by
  cases hu : t.unk env with
  | false => exact (whole_good he h hu).unique h'
  | true => exact absurd ⟨t', h'⟩ (whole_unk h hu)
theorem whole_not {s : List UInt8} {env : Env} {t : Tm} (h : Whole E0 s none) (h' : IsTerm env s t) : False := whole_shape h ⟨t, h'.wf, h'.text⟩
def fbits (a b c : Bool) : Int := (if a then 1 else 0) + (if b then 2 else 0) + (if c then 4 else 0)
def ptNum (p : Pt) : Int := fbits p.back p.picker p.plain
theorem factsNum_fbits (t : Tm) : factsNum t = fbits t.back t.picker t.plain := rfl
theorem of_back : ∀ ps : List Pt, (Tm.of ps).back = ps.all Pt.back
  | [] => rfl
  | p :: ps => by rw [Tm.of, Tm.back, of_back ps]; rfl
theorem of_picker : ∀ ps : List Pt, (Tm.of ps).picker = ps.all Pt.picker
  | [] => rfl
  | p :: ps => by rw [Tm.of, Tm.picker, of_picker ps]; rfl
theorem of_plain : ∀ ps : List Pt, (Tm.of ps).plain = ps.all Pt.plain
  | [] => rfl
  | p :: ps => by rw [Tm.of, Tm.plain, of_plain ps]; rfl
theorem factsNum_snoc (ps : List Pt) (p : Pt) : factsNum (Tm.of (ps ++ [p])) = fbits ((Tm.of ps).back && p.back) ((Tm.of ps).picker && p.picker) ((Tm.of ps).plain && p.plain) := by
  rw [factsNum_fbits, of_back, of_picker, of_plain, of_back, of_picker, of_plain, List.all_append, List.all_append, List.all_append]
  simp
structure D where
  c : UInt8
  s : ByteArray
  t : Tm
def envOf (ds : List D) : Env := fun c => (ds.reverse.find? fun d => d.c == c).map D.t
theorem envOf_nil (c : UInt8) : envOf [] c = none := rfl
theorem envOf_snoc (ds : List D) (d : D) : envOf (ds ++ [d]) = (envOf ds).put d.c d.t := by
  funext c
  unfold envOf Env.put
  rw [List.reverse_append]
  by_cases h : c = d.c
  · subst h; simp
  · have : (d.c == c) = false := by rw [beq_eq_false_iff_ne]; exact fun e => h e.symm
    rw [if_neg h]
    simp [this]
theorem envOf_take {ds : List D} {n : Nat} (h : n < ds.length) : envOf (ds.take (n + 1)) = (envOf (ds.take n)).put ds[n].c ds[n].t := by
  rw [List.take_succ_eq_append_getElem h]
  exact envOf_snoc _ _
structure DefsOk (ds : List D) : Prop where
  good : ∀ i (h : i < ds.length), Good (envOf (ds.take i)) ds[i].s.data.toList ds[i].t
  name : ∀ i (h : i < ds.length), 65 ≤ ds[i].c.toNat ∧ ds[i].c.toNat ≤ 90
theorem DefsOk.wf {ds : List D} (h : DefsOk ds) : ∀ n, n ≤ ds.length → (envOf (ds.take n)).wf
  | 0, _ => fun c b e => by rw [List.take_zero, envOf_nil] at e; cases e
  | n + 1, hn => fun c b e => by
    rw [envOf_take (by omega)] at e
    unfold Env.put at e
    split at e
    · cases e; exact (h.good n (by omega)).term.wf
    · exact h.wf n (by omega) c b e
theorem DefsOk.dom {ds : List D} (h : DefsOk ds) : ∀ n, n ≤ ds.length → ∀ c : UInt8, (c.toNat < 65 ∨ 90 < c.toNat) → envOf (ds.take n) c = none
  | 0, _ => fun c _ => by rw [List.take_zero, envOf_nil]
  | n + 1, hn => fun c hc => by
    rw [envOf_take (by omega)]
    unfold Env.put
    have := h.name n (by omega)
    rw [if_neg (by rintro rfl; omega)]
    exact h.dom n (by omega) c hc
theorem DefsOk.snoc {ds : List D} {d : D} (h : DefsOk ds) (hg : Good (envOf ds) d.s.data.toList d.t) (hc : 65 ≤ d.c.toNat ∧ d.c.toNat ≤ 90) : DefsOk (ds ++ [d]) := by
  refine ⟨fun i hi => ?_, fun i hi => ?_⟩
  · rw [List.length_append, List.length_singleton] at hi
    by_cases hl : i < ds.length
    · rw [List.getElem_append_left hl, List.take_append_of_le_length (by omega)]
      exact h.good i hl
    · have e : i = ds.length := by omega
      subst e
      rw [List.getElem_append_right (Nat.le_refl _), List.take_append_of_le_length (Nat.le_refl _), List.take_length]
      simpa using hg
  · rw [List.length_append, List.length_singleton] at hi
    by_cases hl : i < ds.length
    · rw [List.getElem_append_left hl]
      exact h.name i hl
    · have e : i = ds.length := by omega
      subst e
      rw [List.getElem_append_right (Nat.le_refl _)]
      simpa using hc
theorem DefsOk.nil : DefsOk [] := ⟨fun i h => absurd h (Nat.not_lt_zero i), fun i h => absurd h (Nat.not_lt_zero i)⟩
end T
end Go.Proofs.YtikiaijgcjjloaaGreatDoor

namespace Go.Proofs.YtikiaijgcjjloaaGreatDoor
open Go Go.RowKit M T Go.Lib
theorem row_cell {w : World} {B : Nat} {e : TypeId} {g n cap : Nat} {xs : List PC} (h : w.ownsRow B e 8 (.slice (some ⟨g, 0, none⟩) n cap) xs.length (rowCells xs)) {j : Nat} (hj : j < xs.length) (i : Nat) (hi : i < 8) : w.cell? ⟨g, j * 8 + i, none⟩ = (xs[j].cells)[i]? := by
  have key : ∀ (ys : List PC) (j : Nat) (hj : j < ys.length), (rowCells ys)[j * 8 + i]? = (ys[j].cells)[i]? := by
    intro ys
    induction ys with
    | nil => intro j hj; simp at hj
    | cons y ys ih =>
      intro j hj
      have e : rowCells (y :: ys) = y.cells ++ rowCells ys := rfl
      cases j with
      | zero =>
        rw [e, List.getElem?_append_left (by rw [PC.cells_length]; omega)]
        simp
      | succ j =>
        rw [e, List.getElem?_append_right (by rw [PC.cells_length]; omega), PC.cells_length, show (j + 1) * 8 + i - 8 = j * 8 + i by omega, ih j (by simpa using hj)]
        simp
  have hlt : i < (xs[j].cells).length := by rw [PC.cells_length]; exact hi
  have := h.cells (g := g) rfl (j * 8 + i) ((xs[j].cells)[i]) (by rw [key xs j hj]; exact List.getElem?_eq_getElem hlt)
  rw [show (⟨g, 0, none⟩ : Addr).add (j * 8 + i) = ⟨g, j * 8 + i, none⟩ from by unfold Addr.add; split <;> simp_all] at this
  rw [this, List.getElem?_eq_getElem hlt]
theorem owns_len {w : World} {B : Nat} {e : TypeId} {size : Nat} {a : Option Addr} {m cap : Nat} {n : Nat} {xs : List Value} (h : w.ownsRow B e size (.slice a m cap) n xs) : m = n := by
  rcases h.2 with ⟨h2, h3⟩ | ⟨g', cap', cur, hv, _⟩
  · cases h2; exact h3.symm
  · cases hv; rfl
theorem PsIs.get {Ok : Nat → Prop} {w : World} : ∀ (ps : List Pt) (xs : List PC), PsIs Ok w xs (Tm.of ps) → ∀ (j : Nat) (h : j < ps.length) (h' : j < xs.length), PtIs Ok w xs[j] ps[j]
  | [], xs, _, j, h, _ => by simp at h
  | p :: ps, xs, hp, j, h, h' => by
    rw [Tm.of, PsIs] at hp
    obtain ⟨y, ys, rfl, h1, h2⟩ := hp
    cases j with
    | zero => exact h1
    | succ j => exact PsIs.get ps ys h2 j (by simpa using h) (by simpa using h')
def tx (ps : List Pt) (j : Nat) : List UInt8 := ((ps.take j).map Pt.text).flatten
theorem text_take (ps : List Pt) (j : Nat) (hj : j < ps.length) : tx ps (j + 1) = tx ps j ++ ps[j].text := by
  unfold tx
  rw [List.take_succ_eq_append_getElem hj, List.map_append, List.flatten_append]
  simp only [List.map_cons, List.map_nil, List.flatten_cons, List.flatten_nil, List.append_nil]
theorem text_take_len (ps : List Pt) (j : Nat) : (tx ps j).length ≤ (Tm.of ps).text.length := by
  unfold tx
  rw [Tm.of_text]
  conv => rhs; rw [← List.take_append_drop j ps, List.map_append, List.flatten_append, List.length_append]
  omega
theorem text_get_len (ps : List Pt) (j : Nat) (hj : j < ps.length) : ps[j].text.length ≤ (Tm.of ps).text.length := by
  have h1 := text_take_len ps (j + 1)
  rw [text_take ps j hj, List.length_append] at h1
  omega
end Go.Proofs.YtikiaijgcjjloaaGreatDoor

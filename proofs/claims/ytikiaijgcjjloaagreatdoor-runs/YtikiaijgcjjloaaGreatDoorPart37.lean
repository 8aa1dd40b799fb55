import Derived.Test.YtikiaijgcjjloaaGreatDoorPart27
import Derived.Test.YtikiaijgcjjloaaGreatDoorPart19
import Derived.Test.YtikiaijgcjjloaaGreatDoorPart23
import Derived.Test.YtikiaijgcjjloaaGreatDoorPart26
import Derived.Test.YtikiaijgcjjloaaGreatDoorPart20
import Derived.Test.YtikiaijgcjjloaaGreatDoorPart34

namespace Go.Proofs.YtikiaijgcjjloaaGreatDoor
open Go Go.RowKit M T Go.Lib
def RSt (w : World) (x : RC) : St → Prop
  | .rest => x.Kd = 46
  | .aside => x.Kd = 80
  | .fetch => x.Kd = 73
  | .home => x.Kd = 76
  | .never => x.Kd = 33
  | .sp y => RPt w x (.sp y) ∧ y.wf
def RSl (w : World) : List RC → List St → Prop
  | [], [] => True
  | x :: xs, s :: ss => RSt w x s ∧ RSl w xs ss
  | _, _ => False
theorem RSt.keeps {w w' : World} (hk : ∀ (k : Nat) (c : Array Value), w.heap[k]? = some (.cells c 3 (0, 0)) → w'.heap[k]? = w.heap[k]?) {x : RC} : ∀ {s : St}, RSt w x s → RSt w' x s
  | .rest, h => h
  | .aside, h => h
  | .fetch, h => h
  | .home, h => h
  | .never, h => h
  | .sp _, h => ⟨RPt.keeps h.1 hk, h.2⟩
theorem RSl.keeps {w w' : World} (hk : ∀ (k : Nat) (c : Array Value), w.heap[k]? = some (.cells c 3 (0, 0)) → w'.heap[k]? = w.heap[k]?) : ∀ {xs : List RC} {ss : List St}, RSl w xs ss → RSl w' xs ss
  | [], [], _ => trivial
  | _ :: _, _ :: _, h => ⟨h.1.keeps hk, RSl.keeps hk h.2⟩
  | [], _ :: _, h => h.elim
  | _ :: _, [], h => h.elim
theorem RSl.snoc {w : World} : ∀ {xs : List RC} {ss : List St} {x : RC} {s : St}, RSl w xs ss → RSt w x s → RSl w (xs ++ [x]) (ss ++ [s])
  | [], [], _, _, _, h => ⟨h, trivial⟩
  | _ :: _, _ :: _, _, _, h, hp => ⟨h.1, RSl.snoc h.2 hp⟩
  | [], _ :: _, _, _, h, _ => h.elim
  | _ :: _, [], _, _, h, _ => h.elim
theorem RSl.length {w : World} : ∀ {xs : List RC} {ss : List St}, RSl w xs ss → xs.length = ss.length
  | [], [], _ => rfl
  | _ :: ys, _ :: qs, h => by rw [List.length_cons, List.length_cons, RSl.length h.2]
  | [], _ :: _, h => h.elim
  | _ :: _, [], h => h.elim
theorem RSl.get {w : World} : ∀ {xs : List RC} {ss : List St}, RSl w xs ss → ∀ (j : Nat) (h : j < xs.length) (h' : j < ss.length), RSt w xs[j] ss[j]
  | [], [], _, j, h, _ => by simp at h
  | y :: ys, q :: qs, hp, j, h, h' => by
    cases j with
    | zero => exact hp.1
    | succ j => exact RSl.get hp.2 j (by simpa using h) (by simpa using h')
  | [], _ :: _, h, _, _, _ => h.elim
  | _ :: _, [], h, _, _, _ => h.elim
def flc (rb m n : Nat) (v : Value) : Array Value := #[.pointer (some ⟨rb, 0, none⟩), .int .i64 (m : Int), .int .i64 (n : Int), v]
structure FlIs (w : World) (fb rb m n : Nat) (v : Value) (xs : List RC) (ss : List St) : Prop where
  blk : w.heap[fb]? = some (.cells (flc rb m n v) 122 (0, 0))
  own : w.ownsRow 0 131 7 v xs.length (rrow xs)
  steps : RSl w xs ss
structure Fc (fb : Nat) (v : Value) (w : World) (v' : Value) (w' : World) : Prop where
  chg : Chg fb v w w'
  new : v'.ownBlock = v.ownBlock ∨ ∀ g, v'.ownBlock = some g → w.heap.size ≤ g
theorem Fc.trans {fb : Nat} {v v1 v2 : Value} {w w1 w2 : World} (h : Fc fb v w v1 w1) (k : Fc fb v1 w1 v2 w2) : Fc fb v w v2 w2 := by
  refine ⟨⟨k.chg.os.trans h.chg.os, k.chg.tape.trans h.chg.tape, k.chg.output.trans h.chg.output, Nat.le_trans h.chg.size k.chg.size, fun i hi h1 h2 => ?_⟩, ?_⟩
  · refine (k.chg.block i (Nat.lt_of_lt_of_le hi h.chg.size) h1 (fun e => ?_)).trans (h.chg.block i hi h1 h2)
    rcases h.new with h3 | h3
    · rw [h3] at e; exact h2 e
    · have := h3 i e; omega
  · rcases k.new with h3 | h3
    · rw [h3]; exact h.new
    · exact Or.inr (fun g hg => Nat.le_trans h.chg.size (h3 g hg))
theorem Fc.of_below {fb : Nat} {v : Value} {w w' : World} (h : Below w.heap.size w w') : Fc fb v w v w' := ⟨Chg.of_below h, Or.inl rfl⟩
theorem Fc.setCell {fb : Nat} {v v' : Value} {w w' : World} (h : Fc fb v w v' w') (o : Nat) (u : Value) : Fc fb v w v' (w'.setCell ⟨fb, o, none⟩ u) := ⟨h.chg.setCell o u, h.new⟩
theorem FlIs.row_ty {w : World} {fb rb m n : Nat} {v : Value} {xs : List RC} {ss : List St} (h : FlIs w fb rb m n v xs ss) {g : Nat} (hg : v.ownBlock = some g) : ∃ c, w.heap[g]? = some (.cells c 131 (0, 0)) := by
  rcases h.own.2 with ⟨h1, _⟩ | ⟨g', cap, cur, hv, _, hh, _⟩
  · rw [h1] at hg; cases hg
  · rw [hv] at hg; cases hg; exact ⟨cur, hh⟩
theorem Fc.other {fb rb m n : Nat} {v v' : Value} {xs : List RC} {ss : List St} {w w' : World} (h : Fc fb v w v' w') (hf : FlIs w fb rb m n v xs ss) {k : Nat} {c : Array Value} {ty : TypeId} (hk : w.heap[k]? = some (.cells c ty (0, 0))) (h1 : ty ≠ 122) (h2 : ty ≠ 131) : w'.heap[k]? = w.heap[k]? := by
  refine h.chg.block k (lt_of_block hk) (fun e => ?_) (fun e => ?_)
  · rw [e] at hk; exact h1 (blk_ty hk hf.blk)
  · obtain ⟨c', hc'⟩ := hf.row_ty e
    exact h2 (blk_ty hk hc')
theorem Fc.young {fb rb m n : Nat} {v v' : Value} {xs : List RC} {ss : List St} {w0 w w' : World} (h : Fc fb v w v' w') (hf : FlIs w0 fb rb m n v xs ss) {k : Nat} (hk : k < w.heap.size) (h0 : w0.heap.size ≤ k) : w'.heap[k]? = w.heap[k]? := by
  refine h.chg.block k hk (fun e => ?_) (fun e => ?_)
  · have := lt_of_block hf.blk; omega
  · obtain ⟨c', hc'⟩ := hf.row_ty e
    have := lt_of_block hc'; omega
theorem RSes.flow {fb rb m n : Nat} {v v' vs : Value} {ds : List D} {xs : List RC} {ss : List St} {w w' : World} (hs : RSes w rb vs ds) (hf : FlIs w fb rb m n v xs ss) (h : Fc fb v w v' w') : RSes w' rb vs ds := by
  refine ⟨(h.other hf hs.blk (by decide) (by decide)).trans hs.blk, ⟨hs.own.1, ?_⟩, hs.ok⟩
  rcases hs.own.2 with h2 | ⟨g, cap, cur, hv, hg, hh, r⟩
  · exact Or.inl h2
  · exact Or.inr ⟨g, cap, cur, hv, hg, (h.other hf hh (by decide) (by decide)).trans hh, r⟩
theorem FlIs.below {fb rb m n : Nat} {v : Value} {xs : List RC} {ss : List St} {w w' : World} (h : FlIs w fb rb m n v xs ss) (hb : Below w.heap.size w w') : FlIs w' fb rb m n v xs ss :=
  ⟨(hb.block _ (lt_of_block h.blk)).trans h.blk, owns_below h.own hb, h.steps.keeps (fun k _ hk => hb.block k (lt_of_block hk))⟩
theorem FlIs.setN {fb rb m n : Nat} {v : Value} {xs : List RC} {ss : List St} {w : World} (h : FlIs w fb rb m n v xs ss) (n' : Nat) : FlIs (w.setCell ⟨fb, 2, none⟩ (.int .i64 (n' : Int))) fb rb m n' v xs ss := by
  have hne : ∀ {k : Nat} {c : Array Value} {ty : TypeId}, w.heap[k]? = some (.cells c ty (0, 0)) → ty ≠ 122 → (w.setCell ⟨fb, 2, none⟩ (.int .i64 (n' : Int))).heap[k]? = w.heap[k]? := fun {k c ty} hk ht => Below.heap_setCell _ _ _ _ (by show k ≠ fb; rintro rfl; exact ht (blk_ty hk h.blk))
  refine ⟨blk_set h.blk 2 _, ⟨h.own.1, ?_⟩, h.steps.keeps (fun k c hk => hne hk (by decide))⟩
  rcases h.own.2 with h2 | ⟨g, cap, cur, hv, hg, hh, r⟩
  · exact Or.inl h2
  · exact Or.inr ⟨g, cap, cur, hv, hg, (hne hh (by decide)).trans hh, r⟩
theorem FlIs.put {fb rb m n : Nat} {v v' : Value} {xs : List RC} {ss : List St} {x : RC} {s : St} {w wB w1 : World} (h : FlIs w fb rb m n v xs ss) (hx : RSt w x s) (hB : Below w.heap.size w wB) (hg : wB.grownBy w1 v.ownBlock) (hown : w1.ownsRow 0 131 7 v' (xs.length + 1) (rrow xs ++ x.cells)) (hwh : v'.ownBlock = v.ownBlock ∨ ∀ g, v'.ownBlock = some g → wB.heap.size ≤ g) :
    FlIs (w1.setCell ⟨fb, 3, none⟩ v') fb rb m n v' (xs ++ [x]) (ss ++ [s]) ∧ Fc fb v w v' (w1.setCell ⟨fb, 3, none⟩ v') := by
  have hold : ∀ k, k < w.heap.size → v.ownBlock ≠ some k → w1.heap[k]? = w.heap[k]? := fun k hk hn => (hg.block k (Nat.lt_of_lt_of_le hk hB.size) (fun e => hn e.symm)).trans (hB.block k hk)
  have hap : v.ownBlock ≠ some fb := fun e => by
    obtain ⟨c, hc⟩ := h.row_ty e
    exact absurd (blk_ty hc h.blk) (by decide)
  have hb1 : w1.heap[fb]? = some (.cells (flc rb m n v) 122 (0, 0)) := (hold fb (lt_of_block h.blk) hap).trans h.blk
  have hint : ∀ (k : Nat) (c : Array Value), w.heap[k]? = some (.cells c 3 (0, 0)) → (w1.setCell ⟨fb, 3, none⟩ v').heap[k]? = w.heap[k]? := fun k c hk => by
    rw [Below.heap_setCell _ _ _ _ (by show k ≠ fb; rintro rfl; exact absurd (blk_ty hk h.blk) (by decide))]
    exact hold k (lt_of_block hk) (fun e => by obtain ⟨c', hc'⟩ := h.row_ty e; exact absurd (blk_ty hk hc') (by decide))
  refine ⟨⟨blk_set hb1 3 v', ⟨by rw [← rrow_snoc, show (xs ++ [x]).length = xs.length + 1 by simp]; exact hown.1, ?_⟩, RSl.snoc (h.steps.keeps hint) (hx.keeps hint)⟩, ⟨Chg.setCell ⟨hg.os.trans hB.os, hg.tape.trans hB.tape, hg.output.trans hB.output, Nat.le_trans hB.size hg.size, fun k hk _ hn => hold k hk hn⟩ _ _, hwh.imp id (fun hh g hgv => Nat.le_trans hB.size (hh g hgv))⟩⟩
  rw [← rrow_snoc, List.length_append]
  rcases hown.2 with h2 | ⟨g, cap, cur, hv, hg0, hh, r⟩
  · exact Or.inl h2
  · refine Or.inr ⟨g, cap, cur, hv, hg0, ?_, r⟩
    rw [Below.heap_setCell _ _ _ _ (by show g ≠ fb; rintro rfl; exact absurd (blk_ty hh hb1) (by decide))]
    exact hh
def FlGot (fb rb m n : Nat) (v : Value) (ss : List St) (l : List St) (w w' : World) : Prop := ∃ v' xs', FlIs w' fb rb m (after m l n) v' xs' (ss ++ lay m l n) ∧ Fc fb v w v' w'
theorem FlGot.full {fb rb m n : Nat} {v : Value} {xs : List RC} {ss : List St} {w w' : World} (h : FlIs w fb rb m n v xs ss) (hb : Below w.heap.size w w') (hm : m < n) (l : List St) : FlGot fb rb m n v ss l w w' := ⟨v, xs, by rw [lay_full m n hm, List.append_nil, after_full hm]; exact h.below hb, Fc.of_below hb⟩
def _root_.Go.Proofs.YtikiaijgcjjloaaGreatDoor.T.St.isNever : St → Bool
  | .never => true
  | _ => false
theorem free_kd {w : World} {x : RC} {s : St} (h : RSt w x s) : decide (x.Kd ∈ (⟨#[80, 73, 76]⟩ : ByteArray).data.toList) = s.free ∧ ((x.Kd.toNat : Int) == 33) = s.isNever := by
  cases s with
  | sp y =>
    have hk : x.Kd = y.first := h.1.1
    rw [hk]
    cases y <;> exact ⟨rfl, rfl⟩
  | _ => rw [show x.Kd = _ from h]; exact ⟨by decide, by decide⟩
def RQ (r : Except Int Rat) (p q c : Int) : Prop := (∃ z, r = .ok z ∧ small z = true ∧ p = z.num ∧ q = (z.den : Int) ∧ c = 0) ∨ (r = .error c ∧ c ≠ 0)
def RQGot (r : Except Int Rat) (e : Ending) : Prop := ∃ p q c : Int, e = .returned (.tuple #[.agg #[.int .i64 p, .int .i64 q], .int .i64 c]) ∧ RQ r p q c
theorem rlim {x : Rat} {b : Bool} {p q : Int} {e : Ending} (hb : b = small x) (hp : p = x.num) (hq : q = (x.den : Int)) (h : (b = true ∧ e = .returned (.tuple #[.agg #[.int .i64 p, .int .i64 q], .int .i64 0])) ∨ (b = false ∧ e = .returned (.tuple #[.agg #[.int .i64 0, .int .i64 1], .int .i64 3]))) : RQGot (lim x) e := by
  unfold lim
  rcases h with ⟨h, rfl⟩ | ⟨h, rfl⟩
  · rw [hb] at h
    exact ⟨_, _, _, rfl, Or.inl ⟨x, by rw [if_pos h], h, hp, hq, rfl⟩⟩
  · rw [hb] at h
    exact ⟨_, _, _, rfl, Or.inr ⟨by rw [h]; rfl, by decide⟩⟩
theorem rqAdd {x y : Rat} (hx : small x = true) (hy : small y = true) (w : World) : Calls Tryz.prog 93 #[.agg #[.int .i64 x.num, .int .i64 (x.den : Int)], .agg #[.int .i64 y.num, .int .i64 (y.den : Int)]] w fun e w' => RQGot (lim (x + y)) e ∧ Below w.heap.size w w' := by
  obtain ⟨a1, a2, a3, a4⟩ := small_bd hx
  obtain ⟨b1, b2, b3, b4⟩ := small_bd hy
  obtain ⟨p1, p2, p3⟩ := add_pairs x y
  refine (rAdd_any x.num (x.den : Int) y.num (y.den : Int) w a1 a2 a3 a4 b1 b2 b3 b4).mono ?_
  rintro e w' ⟨h, hb⟩
  exact ⟨rlim p1 p2 p3 h, hb⟩
theorem rqMul {x y : Rat} (hx : small x = true) (hy : small y = true) (w : World) : Calls Tryz.prog 95 #[.agg #[.int .i64 x.num, .int .i64 (x.den : Int)], .agg #[.int .i64 y.num, .int .i64 (y.den : Int)]] w fun e w' => RQGot (lim (x * y)) e ∧ Below w.heap.size w w' := by
  obtain ⟨a1, a2, a3, a4⟩ := small_bd hx
  obtain ⟨b1, b2, b3, b4⟩ := small_bd hy
  obtain ⟨p1, p2, p3⟩ := mul_pairs x y
  refine (rMul_any x.num (x.den : Int) y.num (y.den : Int) w a1 a2 a3 a4 b1 b2 b3 b4).mono ?_
  rintro e w' ⟨h, hb⟩
  exact ⟨rlim p1 p2 p3 h, hb⟩
theorem rqInv {x : Rat} (hx : small x = true) (w : World) : Calls Tryz.prog 97 #[.agg #[.int .i64 x.num, .int .i64 (x.den : Int)]] w fun e w' => RQGot (overE x) e ∧ Below w.heap.size w w' := by
  obtain ⟨a1, a2, a3, a4⟩ := small_bd hx
  refine (rInv_any x.num (x.den : Int) w a1 a2 a3 a4).mono ?_
  rintro e w' ⟨⟨h0, rfl⟩ | ⟨h0, rfl⟩, hb⟩
  · have h0' := num_zero.1 h0
    exact ⟨⟨_, _, _, rfl, Or.inr ⟨by rw [overE, if_pos h0'], by decide⟩⟩, hb⟩
  · have h0' : x ≠ 0 := fun e => h0 (num_zero.2 e)
    obtain ⟨i1, i2⟩ := inv_pairs x h0'
    exact ⟨⟨_, _, _, rfl, Or.inl ⟨x⁻¹, by rw [overE, if_neg h0'], inv_small hx h0', i1.symm, i2.symm, rfl⟩⟩, hb⟩
theorem rqLess {x : Rat} (hx : small x = true) (w : World) : Calls Tryz.prog 149 #[.agg #[.int .i64 x.num, .int .i64 (x.den : Int)]] w fun e w' => e = .returned (.agg #[.int .i64 (-x).num, .int .i64 ((-x).den : Int)]) ∧ Below w.heap.size w w' := by
  obtain ⟨a1, a2, a3, a4⟩ := small_bd hx
  refine (rLess_any x.num (x.den : Int) w a1 a2).mono ?_
  rintro e w' ⟨rfl, hb⟩
  exact ⟨by rw [Rat.neg_num, Rat.neg_den], hb⟩
theorem rqSqrt {x : Rat} (hx : small x = true) (w : World) : Calls Tryz.prog 98 #[.agg #[.int .i64 x.num, .int .i64 (x.den : Int)]] w fun e w' => RQGot (rootE x) e ∧ Below w.heap.size w w' := by
  obtain ⟨a1, a2, a3, a4⟩ := small_bd hx
  refine (rSqrt_any x.num (x.den : Int) w a2 a4).mono ?_
  rintro e w' ⟨⟨a, b, ha, hb', rfl⟩ | ⟨h, rfl⟩, hb⟩
  · obtain ⟨y, hy, e1, e2⟩ := root_pairs_some ha hb'
    refine ⟨⟨_, _, _, rfl, Or.inl ⟨y, by rw [rootE, hy], ?_, by rw [e1], by rw [e2], rfl⟩⟩, hb⟩
    unfold small
    apply decide_eq_true
    have hle : ∀ k : Nat, (k : Int) * k ≤ 1000000000 → k ≤ 1000000000 := by
      intro k hk
      rcases Nat.lt_or_ge k 1 with h | h
      · omega
      · have : k ≤ k * k := Nat.le_mul_of_pos_right k h
        have h2 : ((k * k : Nat) : Int) ≤ 1000000000 := by simpa using hk
        omega
    have g1 := hle a (by rw [ha]; exact a2)
    have g2 := hle b (by rw [hb']; exact a4)
    rw [e1, e2]
    omega
  · exact ⟨⟨_, _, _, rfl, Or.inr ⟨by rw [rootE, root_pairs_none h], by decide⟩⟩, hb⟩
theorem item_len0 {x : Rat} (h : small x = true) : (numText x.num (x.den : Int)).length ≤ 23 := item_len h
theorem Tryz.infoNum : (Tryz.prog.info? 129).map (fun i => (i.zero, i.size, i.bytes)) = some (some (.agg #[.int .i64 0, .int .i64 0]), 2, 16) := by kernel_rfl
theorem nrow_at : ∀ (ys : List Rat) (j : Nat) (hj : j < ys.length), (nrow ys)[j * 2]? = some (.int .i64 ys[j].num) ∧ (nrow ys)[j * 2 + 1]? = some (.int .i64 (ys[j].den : Int)) := by
  intro ys
  induction ys with
  | nil => intro j hj; simp at hj
  | cons y ys ih =>
    intro j hj
    have e : nrow (y :: ys) = .int .i64 y.num :: .int .i64 (y.den : Int) :: nrow ys := rfl
    cases j with
    | zero => rw [e]; exact ⟨rfl, rfl⟩
    | succ j =>
      rw [e, show (j + 1) * 2 = j * 2 + 1 + 1 by omega, show j * 2 + 1 + 1 + 1 = (j * 2 + 1) + 1 + 1 by omega]
      simp only [List.getElem?_cons_succ, List.getElem_cons_succ]
      exact ih j (by simpa using hj)
structure RL (w : World) (ao : Option Addr) (cap : Nat) (l : List Rat) : Prop where
  own : w.ownsRow 0 129 2 (.slice ao l.length cap) l.length (nrow l)
  small : AllS l
  len : l.length ≤ 1000
theorem RL.below {w w' : World} {ao : Option Addr} {cap : Nat} {l : List Rat} (h : RL w ao cap l) (hb : Below w.heap.size w w') : RL w' ao cap l := ⟨owns_belowP h.own hb, h.small, h.len⟩
theorem RL.cell {w : World} {ao : Option Addr} {cap : Nat} {l : List Rat} (h : RL w ao cap l) (hp : 0 < l.length) : ∃ g, ao = some ⟨g, 0, none⟩ ∧ g < w.heap.size ∧ ∀ j (hj : j < l.length), w.cell? ⟨g, j * 2, none⟩ = some (.int .i64 l[j].num) ∧ w.cell? ⟨g, j * 2 + 1, none⟩ = some (.int .i64 (l[j].den : Int)) := by
  rcases h.own.2 with ⟨_, h2⟩ | ⟨g, cp, cur, hv, _, hh, _⟩
  · omega
  · obtain ⟨rfl, _, rfl⟩ := Value.slice.inj hv
    refine ⟨g, rfl, lt_of_block hh, fun j hj => ?_⟩
    have k := nrow_at l j hj
    have a1 := h.own.cells (g := g) rfl (j * 2) _ k.1
    have a2 := h.own.cells (g := g) rfl (j * 2 + 1) _ k.2
    rw [show (⟨g, 0, none⟩ : Addr).add (j * 2) = ⟨g, j * 2, none⟩ from by unfold Addr.add; split <;> simp_all] at a1
    rw [show (⟨g, 0, none⟩ : Addr).add (j * 2 + 1) = ⟨g, j * 2 + 1, none⟩ from by unfold Addr.add; split <;> simp_all] at a2
    exact ⟨a1, a2⟩
structure RM (w0 : World) (v : Value) (ys : List Rat) (wr : World) : Prop where
  own : wr.ownsRow w0.heap.size 129 2 v ys.length (nrow ys)
  bel : Below w0.heap.size w0 wr
theorem RM.start (w : World) : RM w (.slice none 0 0) [] w := ⟨World.ownsRow_nil _ _ _ _, Below.refl _ _⟩
theorem RM.below {w0 wr wr' : World} {v : Value} {ys : List Rat} (h : RM w0 v ys wr) (hb : Below wr.heap.size wr wr') : RM w0 v ys wr' := ⟨owns_belowP h.own hb, h.bel.trans (hb.mono h.bel.size)⟩
theorem RM.more {w0 wr w4 : World} {v v' : Value} {ys : List Rat} {y : Rat} (h : RM w0 v ys wr) (ho : w4.ownsRow w0.heap.size 129 2 v' (ys.length + 1) (nrow ys ++ qcells y)) (hg : wr.grownBy w4 v.ownBlock) : RM w0 v' (ys ++ [y]) w4 := by
  refine ⟨by rw [List.length_append, ← nrow_snoc]; exact ho, ⟨hg.os.trans h.bel.os, hg.tape.trans h.bel.tape, hg.output.trans h.bel.output, Nat.le_trans h.bel.size hg.size, fun k hk => (hg.block k (Nat.lt_of_lt_of_le hk h.bel.size) (fun e => ?_)).trans (h.bel.block k hk)⟩⟩
  have := (h.own.lt k e.symm).1
  omega
theorem RM.shape {w0 wr : World} {v : Value} {ys : List Rat} (h : RM w0 v ys wr) : ∃ ao cp, v = .slice ao ys.length cp := by
  rcases h.own.2 with ⟨h1, h2⟩ | ⟨g, cap, cur, hv, _⟩
  · exact ⟨none, 0, by rw [h1, h2]⟩
  · exact ⟨_, cap, hv⟩
theorem RM.rl {w0 wr : World} {ao : Option Addr} {cp : Nat} {ys : List Rat} (h : RM w0 (.slice ao ys.length cp) ys wr) (hs : AllS ys) (hl : ys.length ≤ 1000) : RL wr ao cp ys := ⟨owns_base h.own (Nat.zero_le _), hs, hl⟩
set_option maxRecDepth 100000 in
set_option maxHeartbeats 1600000 in
theorem rListed_any {w : World} {ao : Option Addr} {cap : Nat} {l : List Rat} (h : RL w ao cap l) :
    Calls Tryz.prog 73 #[.slice ao l.length cap] w fun e w' => e = .returned (.string ⟨(listText l).toArray⟩) ∧ Below w.heap.size w w' := by
  have hlen := h.len
  have HL := hide h
  clear h
  go_enter Tryz.func73, Tryz.ntmps73
  go_wp2_with fail
  go_loopg [3, 4] l.length (fun kk v3 v4 wr => ∃ (i : Nat), kk = l.length - i ∧ i ≤ l.length ∧ v4 = .int .i64 (i : Int) ∧ v3 = .string ⟨(listText (l.take i)).toArray⟩ ∧ Below w.heap.size w wr)
  case atStart => exact ⟨0, rfl, Nat.zero_le _, rfl, rfl, Below.refl _ _⟩
  case round =>
    obtain ⟨i, hk, hi, rfl, rfl, hbl⟩ := hrel
    have HK := hide hk
    have HB := hide hbl
    have hll : (listText (l.take i)).length ≤ 23000 := by
      have h1 := listText_len (allS_take (unhide HL).small i)
      have h2 : (l.take i).length ≤ 1000 := by rw [List.length_take]; omega
      omega
    clear hk
    by_cases hlt : i < l.length
    · have hlt' : (i : Int) < (l.length : Int) := by omega
      obtain ⟨g, rfl, hg, hc⟩ := ((unhide HL).below hbl).cell (by omega)
      obtain ⟨c0, c1⟩ := hc i hlt
      have hsm := (unhide HL).small l[i] (List.getElem_mem hlt)
      have HTk := hide (show l.take (i + 1) = l.take i ++ [l[i]] from List.take_succ_eq_append_getElem hlt)
      clear hc hbl
      generalize l[i] = x at c0 c1 hsm HTk
      obtain ⟨b1, b2, b3, b4⟩ := small_bd hsm
      have hxl : (numText x.num (x.den : Int)).length ≤ 23 := item_len0 hsm
      go_wp2_with fail
      refine (rText_any x.num (x.den : Int) _ b1 b2 b3 b4).mono ?_
      rintro e w2 ⟨rfl, hb2⟩
      have HB2 := hide ((unhide HB).trans (hb2.mono (unhide HB).size))
      clear hb2
      by_cases hz : i = 0
      · have hz' : ¬ (0 : Int) < (i : Int) := by omega
        have HTx := hide (show ((⟨(listText (l.take i)).toArray⟩ : ByteArray) ++ ⟨(numText x.num (x.den : Int)).toArray⟩) = ⟨(listText (l.take (i + 1))).toArray⟩ by
          rw [unhide HTk, hz]
          apply ByteArray.ext
          simp [listText, ratText])
        clear hz
        go_wp2_with fail
        go_roundg (l.length - (i + 1))
        case measure => rw [unhide HK]; omega
        case rel => exact ⟨i + 1, rfl, by omega, rfl, congrArg Value.string (unhide HTx), unhide HB2⟩
      · have hz' : (0 : Int) < (i : Int) := by omega
        have HTx := hide (show ((⟨(listText (l.take i)).toArray⟩ : ByteArray) ++ ⟨#[44]⟩ ++ ⟨(numText x.num (x.den : Int)).toArray⟩) = ⟨(listText (l.take (i + 1))).toArray⟩ by
          rw [unhide HTk, listText_snoc, if_neg (fun e => hz (by
            have := congrArg List.length e
            rw [List.length_take, List.length_nil] at this
            omega))]
          apply ByteArray.ext
          simp [ratText])
        clear hz
        go_wp2_with fail
        go_roundg (l.length - (i + 1))
        case measure => rw [unhide HK]; omega
        case rel => exact ⟨i + 1, rfl, by omega, rfl, congrArg Value.string (unhide HTx), unhide HB2⟩
    · have hlt' : ¬ (i : Int) < (l.length : Int) := by omega
      have HE := hide (show l.take i = l from List.take_of_length_le (by omega))
      clear hbl
      go_wp2_with fail
      go_ret
      exact ⟨by rw [unhide HE]; rfl, unhide HB⟩
def RListGot (w : World) (s : List UInt8) (e : Ending) (w' : World) : Prop := ∃ (ao : Option Addr) (n cp : Nat) (b : Bool), e = .returned (.tuple #[.slice ao n cp, .bool b]) ∧ Below w.heap.size w w' ∧ ((b = true ∧ ∃ l, IsList s l ∧ n = l.length ∧ RL w' ao cp l) ∨ (b = false ∧ ¬ ∃ l, IsList s l))
def RdS (s : ByteArray) (ys : List Rat) (a i : Nat) : Prop := (i ≤ s.size ∧ a ≤ i ∧ RdL s.data.toList ys (rest s a) ∧ ∀ j (h : j < s.size), a ≤ j → j < i → s[j] ≠ 44) ∨ (i = s.size + 1 ∧ a = s.size + 1 ∧ listText ys = s.data.toList)
set_option maxRecDepth 100000 in
set_option maxHeartbeats 3200000 in
theorem rList_any (s : ByteArray) (w : World) (hs : s.size ≤ 9223372036854775807) :
    Calls Tryz.prog 68 #[.string s] w fun e w' => RListGot w s.data.toList e w' := by
  obtain ⟨i0, hi0, hz0, hz1, hz2⟩ := info_parts Tryz.infoNum
  by_cases hbig : 276 < s.size
  · have hbig' : (276 : Int) < (s.size : Int) := by omega
    have HN := hide (show ¬ ∃ l, IsList s.data.toList l by
      rintro ⟨l, hl⟩
      have h1 := listText_len hl.small
      have h2 := hl.len
      rw [hl.text] at h1
      have h3 : s.size = s.data.toList.length := by simp
      omega)
    go_enter Tryz.func68, Tryz.ntmps68
    go_wp2_with fail
    exact bodyPost_ret (v := .tuple #[.slice none 0 0, .bool false]) (by simp [results, Tryz.results68, go_sem]) rfl ⟨none, 0, 0, false, rfl, Below.refl _ _, Or.inr ⟨rfl, unhide HN⟩⟩
  · have hbig' : ¬ (276 : Int) < (s.size : Int) := by omega
    by_cases h0 : s.size = 0
    · have hse : s.data.toList = [] := List.eq_nil_of_length_eq_zero (by simpa using h0)
      have HE := hide (show IsList s.data.toList [] from ⟨by simp, fun _ h => by (cases h), by rw [hse]; rfl⟩)
      have h0' : ¬ (0 : Int) < (s.size : Int) := by omega
      have h1' : (0 : Int) ≤ (s.size : Int) := by omega
      clear hse h0
      go_enter Tryz.func68, Tryz.ntmps68
      go_wp2_with fail
      go_loopg [4, 5, 6] 0 (fun kk v4 v5 v6 wr => kk = 0 ∧ v4 = .slice none 0 0 ∧ v5 = .int .i64 0 ∧ v6 = .int .i64 0 ∧ w = wr)
      case atStart => exact ⟨rfl, rfl, rfl, rfl, rfl⟩
      case round =>
        obtain ⟨hk, rfl, rfl, rfl, rfl⟩ := hrel
        clear hk
        go_wp2_with fail
        exact bodyPost_ret (v := .tuple #[.slice none 0 0, .bool true]) (by simp [results, Tryz.results68, go_sem]) rfl ⟨none, 0, 0, true, rfl, Below.refl _ _, Or.inl ⟨rfl, [], unhide HE, rfl, ⟨World.ownsRow_nil _ _ _ _, fun _ h => by (cases h), by simp⟩⟩⟩
    · have h0' : (0 : Int) < (s.size : Int) := by omega
      have hsn : s.data.toList ≠ [] := fun e => h0 (by simpa using congrArg List.length e)
      have HS0 := hide (show RdS s [] 0 0 from Or.inl ⟨Nat.zero_le _, Nat.le_refl _, Or.inl ⟨hsn, rfl, rest_zero s⟩, fun j _ _ h => by omega⟩)
      clear hsn
      go_enter Tryz.func68, Tryz.ntmps68
      go_wp2_with fail
      go_loopg [4, 5, 6] (s.size + 2) (fun kk v4 v5 v6 wr => ∃ (a i : Nat) (ys : List Rat) (ao : Option Addr) (cp : Nat), kk = s.size + 2 - i ∧ v6 = .int .i64 (i : Int) ∧ v5 = .int .i64 (a : Int) ∧ v4 = .slice ao ys.length cp ∧ AllS ys ∧ (ys.length ≤ i ∧ a ≤ i ∧ i ≤ s.size + 1) ∧ RM w (.slice ao ys.length cp) ys wr ∧ RdS s ys a i)
      case atStart => exact ⟨0, 0, [], none, 0, rfl, rfl, rfl, rfl, fun _ h => by (cases h), ⟨by simp, by omega, by omega⟩, RM.start w, unhide HS0⟩
      case round =>
        obtain ⟨a, i, ys, ao, cp, hk, rfl, rfl, rfl, ha, ⟨hyl, hai, his⟩, hm, hst⟩ := hrel
        have HK := hide hk
        have HA := hide ha
        have HM := hide hm
        clear hk ha
        rcases hst with ⟨hi, _, hrd, hno⟩ | ⟨rfl, rfl, htx⟩
        · have hi' : (i : Int) ≤ (s.size : Int) := by omega
          have HRd := hide hrd
          have HNo := hide hno
          clear hrd hno
          by_cases hend : i = s.size ∨ ∃ h : i < s.size, s[i] = 44
          · have HEnd := hide (show EndIs s a i from endIs_of hai hi (unhide HNo) (fun h => by
              rcases hend with h1 | ⟨_, h2⟩
              · omega
              · exact h2))
            have ha' : (a : Int) ≤ (i : Int) := by omega
            by_cases hie : i = s.size
            · have hie' : ((i : Int) == (s.size : Int)) = true := by rw [beq_iff_eq]; omega
              clear hend hie
              go_wp2_with fail
              refine (RRead_any (s.extract a i) _ (by have := ext_size s a i; unfold maxLen; omega)).mono ?_
              rintro e w2 ⟨hr, hb⟩
              have HM2 := hide (hm.below hb)
              clear hb hm
              rcases hr with ⟨t, d, hn, rfl⟩ | ⟨hn, p, q, rfl⟩
              · obtain ⟨x, hx1, hx2, rfl, rfl⟩ := isNum_rat hn
                have HX := hide hx1
                have HNext := hide (show RdS s (ys ++ [x]) (i + 1) (i + 1) by
                  rcases (unhide HEnd).cut with ⟨e1, e2⟩ | ⟨e1, e2⟩
                  · exact Or.inr ⟨by omega, by omega, (unhide HRd).last (by rw [e2, hx2])⟩
                  · exact Or.inl ⟨by omega, Nat.le_refl _, (unhide HRd).snoc (by rw [e2, hx2]), fun j _ h1 h2 => by omega⟩)
                have HM3 := hide (((unhide HM2).below ((Below.refl _ _).alloc (Nat.le_refl _) (.cells (qcells x).toArray 129))).below ((Below.refl _ _).alloc (Nat.le_refl _) (.cells (qcells x).toArray 129)))
                have hsz := (unhide HM2).bel.size
                clear hn hx1 hx2
                go_wp2_with (at_builtin; refine wpList_append_own _ rfl _ _ 116 rfl w.heap.size 129 i0 _ 2 16 Tryz.underlying116 hi0 hz0 hz1 hz2 rfl (by decide) _ _ _ rfl (unhide HM3).own ⟨w2.heap.size + 1, 0, none⟩ 1 1 (qcells x) rfl rfl (nnews_at (by simp) _ _) (one_qcells _) (by unfold maxLen; omega) (by omega) (by simp; omega) ?_)
                intro v' w4 hown4 hgr4 _
                have hm4 := (unhide HM3).more hown4 hgr4
                obtain ⟨ao4, cp4, rfl⟩ := hm4.shape
                have HM4 := hide hm4
                clear hown4 hgr4 hm4
                go_wp2_with fail
                go_roundg (s.size + 2 - (i + 1))
                case measure => rw [unhide HK]; omega
                case rel => exact ⟨i + 1, i + 1, ys ++ [x], ao4, cp4, rfl, rfl, rfl, rfl, allS_one (unhide HA) (unhide HX), ⟨by simp; omega, Nat.le_refl _, by omega⟩, unhide HM4, unhide HNext⟩
              · have HN := hide (show ¬ ∃ l, IsList s.data.toList l from (unhide HRd).bad (fun t d h => hn t d (by rw [← (unhide HEnd).upto]; exact h)))
                have HB := hide ((unhide HM2).bel.alloc (unhide HM2).bel.size (.cells #[.int .i64 p, .int .i64 q] 129))
                clear hn
                go_wp2_with fail
                exact bodyPost_ret (v := .tuple #[.slice none 0 0, .bool false]) (by simp [results, Tryz.results68, go_sem]) rfl ⟨none, 0, 0, false, rfl, unhide HB, Or.inr ⟨rfl, unhide HN⟩⟩
            · have hie' : ((i : Int) == (s.size : Int)) = false := by rw [beq_eq_false_iff_ne]; omega
              have hil : i < s.size := by omega
              have hil' : (i : Int) < (s.size : Int) := by omega
              have hch : s[i] = 44 := by
                rcases hend with h1 | ⟨_, h2⟩
                · exact absurd h1 hie
                · exact h2
              have hch' : ((s[i].toNat : Int) == 44) = true := by rw [hch]; rfl
              clear hend hie hch
              go_wp2_with fail
              refine (RRead_any (s.extract a i) _ (by have := ext_size s a i; unfold maxLen; omega)).mono ?_
              rintro e w2 ⟨hr, hb⟩
              have HM2 := hide (hm.below hb)
              clear hb hm
              rcases hr with ⟨t, d, hn, rfl⟩ | ⟨hn, p, q, rfl⟩
              · obtain ⟨x, hx1, hx2, rfl, rfl⟩ := isNum_rat hn
                have HX := hide hx1
                have HNext := hide (show RdS s (ys ++ [x]) (i + 1) (i + 1) by
                  rcases (unhide HEnd).cut with ⟨e1, e2⟩ | ⟨e1, e2⟩
                  · exact Or.inr ⟨by omega, by omega, (unhide HRd).last (by rw [e2, hx2])⟩
                  · exact Or.inl ⟨by omega, Nat.le_refl _, (unhide HRd).snoc (by rw [e2, hx2]), fun j _ h1 h2 => by omega⟩)
                have HM3 := hide (((unhide HM2).below ((Below.refl _ _).alloc (Nat.le_refl _) (.cells (qcells x).toArray 129))).below ((Below.refl _ _).alloc (Nat.le_refl _) (.cells (qcells x).toArray 129)))
                have hsz := (unhide HM2).bel.size
                clear hn hx1 hx2
                go_wp2_with (at_builtin; refine wpList_append_own _ rfl _ _ 116 rfl w.heap.size 129 i0 _ 2 16 Tryz.underlying116 hi0 hz0 hz1 hz2 rfl (by decide) _ _ _ rfl (unhide HM3).own ⟨w2.heap.size + 1, 0, none⟩ 1 1 (qcells x) rfl rfl (nnews_at (by simp) _ _) (one_qcells _) (by unfold maxLen; omega) (by omega) (by simp; omega) ?_)
                intro v' w4 hown4 hgr4 _
                have hm4 := (unhide HM3).more hown4 hgr4
                obtain ⟨ao4, cp4, rfl⟩ := hm4.shape
                have HM4 := hide hm4
                clear hown4 hgr4 hm4
                go_wp2_with fail
                go_roundg (s.size + 2 - (i + 1))
                case measure => rw [unhide HK]; omega
                case rel => exact ⟨i + 1, i + 1, ys ++ [x], ao4, cp4, rfl, rfl, rfl, rfl, allS_one (unhide HA) (unhide HX), ⟨by simp; omega, Nat.le_refl _, by omega⟩, unhide HM4, unhide HNext⟩
              · have HN := hide (show ¬ ∃ l, IsList s.data.toList l from (unhide HRd).bad (fun t d h => hn t d (by rw [← (unhide HEnd).upto]; exact h)))
                have HB := hide ((unhide HM2).bel.alloc (unhide HM2).bel.size (.cells #[.int .i64 p, .int .i64 q] 129))
                clear hn
                go_wp2_with fail
                exact bodyPost_ret (v := .tuple #[.slice none 0 0, .bool false]) (by simp [results, Tryz.results68, go_sem]) rfl ⟨none, 0, 0, false, rfl, unhide HB, Or.inr ⟨rfl, unhide HN⟩⟩
          · have hil : i < s.size := by
              rcases Nat.lt_or_ge i s.size with h | h
              · exact h
              · exact absurd (Or.inl (by omega)) hend
            have hil' : (i : Int) < (s.size : Int) := by omega
            have hie' : ((i : Int) == (s.size : Int)) = false := by rw [beq_eq_false_iff_ne]; omega
            have hch : s[i] ≠ 44 := fun h => hend (Or.inr ⟨hil, h⟩)
            have hch' : ((s[i].toNat : Int) == 44) = false := by
              rw [beq_eq_false_iff_ne]
              intro e
              exact hch (UInt8.toNat_inj.1 (by show s[i].toNat = 44; omega))
            have HNx := hide (show RdS s ys a (i + 1) from Or.inl ⟨by omega, by omega, unhide HRd, fun j h h1 h2 => by
              rcases Nat.lt_or_ge j i with h3 | h3
              · exact unhide HNo j h h1 h3
              · have e : j = i := by omega
                subst e
                exact hch⟩)
            clear hend hch hm
            go_wp2_with fail
            go_roundg (s.size + 2 - (i + 1))
            case measure => rw [unhide HK]; omega
            case rel => exact ⟨a, i + 1, ys, ao, cp, rfl, rfl, rfl, rfl, unhide HA, ⟨by omega, by omega, by omega⟩, unhide HM, unhide HNx⟩
        · have hi' : ¬ ((s.size + 1 : Nat) : Int) ≤ (s.size : Int) := by omega
          by_cases hy12 : ys.length ≤ 12
          · have hy' : (ys.length : Int) ≤ 12 := by omega
            have HE := hide (show IsList s.data.toList ys from ⟨hy12, unhide HA, htx⟩)
            have HRl := hide (hm.rl (unhide HA) (by omega))
            clear htx hm
            go_wp2_with fail
            exact bodyPost_ret (v := .tuple #[.slice ao ys.length cp, .bool true]) (by simp [results, Tryz.results68, go_sem]) rfl ⟨ao, ys.length, cp, true, rfl, (unhide HM).bel, Or.inl ⟨rfl, ys, unhide HE, rfl, unhide HRl⟩⟩
          · have hy' : ¬ (ys.length : Int) ≤ 12 := by omega
            have HN := hide (show ¬ ∃ l, IsList s.data.toList l by
              rintro ⟨l, hl⟩
              have e : l = ys := listText_inj (hl.text.trans htx.symm)
              have := hl.len
              rw [e] at this
              omega)
            clear htx hm
            go_wp2_with fail
            exact bodyPost_ret (v := .tuple #[.slice ao ys.length cp, .bool false]) (by simp [results, Tryz.results68, go_sem]) rfl ⟨ao, ys.length, cp, false, rfl, (unhide HM).bel, Or.inr ⟨rfl, unhide HN⟩⟩
end Go.Proofs.YtikiaijgcjjloaaGreatDoor

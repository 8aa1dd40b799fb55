import Derived.Test.YtikiaijgcjjloaaDoorPart22
import Derived.Test.YtikiaijgcjjloaaDoorPart24

/- Lists of the program: rows of numbers, and how they are made. -/
namespace Go.Proofs.YtikiaijgcjjloaaDoor
open Go Go.RowKit M T Go.Lib

def qcells (x : Rat) : List Value := [.int .i64 x.num, .int .i64 (x.den : Int)]
def nrow (l : List Rat) : List Value := (l.map qcells).flatten
theorem nrow_snoc (l : List Rat) (x : Rat) : nrow l ++ qcells x = nrow (l ++ [x]) := by unfold nrow; simp
theorem nrow_length (l : List Rat) : (nrow l).length = l.length * 2 := by
  induction l with
  | nil => rfl
  | cons x xs ih =>
    have : nrow (x :: xs) = qcells x ++ nrow xs := rfl
    rw [this, List.length_append, ih, List.length_cons]
    show 2 + _ = _
    omega
theorem one_qcells (x : Rat) : ∀ u ∈ qcells x, u.oneCell' = true := by
  intro u hu
  simp only [qcells, List.mem_cons, List.not_mem_nil, or_false] at hu
  rcases hu with rfl | rfl <;> rfl
theorem Tryd.infoNumber : (Tryd.prog.info? 44).map (fun i => (i.zero, i.size, i.bytes)) = some (some (.agg #[.int .i64 0, .int .i64 0]), 2, 16) := by kernel_rfl
/-- A row's items, by their places. -/
theorem nrow_cell {w : World} {B g n cap : Nat} {l : List Rat} (h : w.ownsRow B 44 2 (.slice (some ⟨g, 0, none⟩) n cap) l.length (nrow l)) {j : Nat} (hj : j < l.length) : w.cell? ⟨g, j * 2, none⟩ = some (.int .i64 l[j].num) ∧ w.cell? ⟨g, j * 2 + 1, none⟩ = some (.int .i64 (l[j].den : Int)) := by
  have key : ∀ (ys : List Rat) (j : Nat) (hj : j < ys.length), (nrow ys)[j * 2]? = some (.int .i64 ys[j].num) ∧ (nrow ys)[j * 2 + 1]? = some (.int .i64 (ys[j].den : Int)) := by
    intro ys
    induction ys with
    | nil => intro j hj; simp at hj
    | cons y ys ih =>
      intro j hj
      have e : nrow (y :: ys) = .int .i64 y.num :: .int .i64 (y.den : Int) :: nrow ys := rfl
      cases j with
      | zero => rw [e]; exact ⟨rfl, rfl⟩
      | succ j =>
        rw [e, show (j + 1) * 2 = j * 2 + 1 + 1 by omega, show j * 2 + 1 + 1 + 1 = (j * 2 + 1) + 1 + 1 by omega]
        simp only [List.getElem?_cons_succ, List.getElem_cons_succ]
        exact ih j (by simpa using hj)
  have k := key l j hj
  have a1 := h.cells (g := g) rfl (j * 2) _ k.1
  have a2 := h.cells (g := g) rfl (j * 2 + 1) _ k.2
  rw [show (⟨g, 0, none⟩ : Addr).add (j * 2) = ⟨g, j * 2, none⟩ from by unfold Addr.add; split <;> simp_all] at a1
  rw [show (⟨g, 0, none⟩ : Addr).add (j * 2 + 1) = ⟨g, j * 2 + 1, none⟩ from by unfold Addr.add; split <;> simp_all] at a2
  exact ⟨a1, a2⟩
/-- A list that is handed in. -/
structure LIs (w : World) (g cap : Nat) (l : List Rat) : Prop where
  own : w.ownsRow 0 44 2 (.slice (some ⟨g, 0, none⟩) l.length cap) l.length (nrow l)
  small : AllS l
  len : l.length ≤ 1000
theorem LIs.below {w w' : World} {g cap : Nat} {l : List Rat} (h : LIs w g cap l) (hb : Below w.heap.size w w') : LIs w' g cap l := ⟨owns_belowP h.own hb, h.small, h.len⟩
theorem LIs.lt {w : World} {g cap : Nat} {l : List Rat} (h : LIs w g cap l) : g < w.heap.size := (h.own.lt g rfl).2
theorem LIs.cell {w : World} {g cap : Nat} {l : List Rat} (h : LIs w g cap l) {j : Nat} (hj : j < l.length) : w.cell? ⟨g, j * 2, none⟩ = some (.int .i64 l[j].num) ∧ w.cell? ⟨g, j * 2 + 1, none⟩ = some (.int .i64 (l[j].den : Int)) := nrow_cell h.own hj
/-- A list while it is made. -/
structure MkIs (w0 : World) (v : Value) (ys : List Rat) (wr : World) : Prop where
  own : wr.ownsRow w0.heap.size 44 2 v ys.length (nrow ys)
  bel : Below w0.heap.size w0 wr
theorem MkIs.start (w : World) : MkIs w (.slice (some ⟨w.heap.size, 0, none⟩) 0 0) [] (w.alloc (.cells #[] 44)) := ⟨World.ownsRow_made w #[] 0 (Nat.le_refl _) (Nat.zero_le _) rfl, (Below.refl _ _).alloc (Nat.le_refl _) _⟩
theorem MkIs.start' {w : World} {k : Nat} (e : w.heap.size = k) : MkIs w (.slice (some ⟨k, 0, none⟩) 0 0) [] (w.alloc (.cells #[] 44)) := by
  subst e
  exact MkIs.start w
theorem MkIs.below {w0 wr wr' : World} {v : Value} {ys : List Rat} (h : MkIs w0 v ys wr) (hb : Below wr.heap.size wr wr') : MkIs w0 v ys wr' := ⟨owns_belowP h.own hb, h.bel.trans (hb.mono h.bel.size)⟩
theorem MkIs.more {w0 wr w4 : World} {v v' : Value} {ys : List Rat} {y : Rat} (h : MkIs w0 v ys wr) (ho : w4.ownsRow w0.heap.size 44 2 v' (ys.length + 1) (nrow ys ++ qcells y)) (hg : wr.grownBy w4 v.ownBlock) : MkIs w0 v' (ys ++ [y]) w4 := by
  refine ⟨by rw [List.length_append, ← nrow_snoc]; exact ho, ⟨hg.os.trans h.bel.os, hg.tape.trans h.bel.tape, hg.output.trans h.bel.output, Nat.le_trans h.bel.size hg.size, fun k hk => (hg.block k (Nat.lt_of_lt_of_le hk h.bel.size) (fun e => ?_)).trans (h.bel.block k hk)⟩⟩
  have := (h.own.lt k e.symm).1
  omega
theorem MkIs.shape {w0 wr : World} {v : Value} {ys : List Rat} (h : MkIs w0 v ys wr) (hn : 1 ≤ ys.length) : ∃ g cp, v = .slice (some ⟨g, 0, none⟩) ys.length cp := owns_some h.own (by
  intro e
  have h1 := h.own
  rw [e] at h1
  have := owns_len h1
  omega)
theorem owns_base {w : World} {B B' : Nat} {e : TypeId} {size : Nat} {v : Value} {n : Nat} {xs : List Value} (h : w.ownsRow B e size v n xs) (hb : B' ≤ B) : w.ownsRow B' e size v n xs := by
  refine ⟨h.1, ?_⟩
  rcases h.2 with h2 | ⟨g, cap, cur, hv, hg, r⟩
  · exact Or.inl h2
  · exact Or.inr ⟨g, cap, cur, hv, Nat.le_trans hb hg, r⟩
theorem nnews_at {w : World} {k : Nat} (e : w.heap.size = k) (c : List Value) (t : TypeId) : ∀ j u, c[j]? = some u → (w.alloc (.cells c.toArray t)).cell? ((⟨k, 0, none⟩ : Addr).add j) = some u := by
  subst e
  exact news_alloc w c t
/-- What a call answers that makes a list. -/
def LGot (B : Nat) (r : Except Int (List Rat)) (e : Ending) (w' : World) : Prop := (∃ l g cap, r = .ok l ∧ AllS l ∧ e = .returned (.tuple #[.slice (some ⟨g, 0, none⟩) l.length cap, .int .i64 0]) ∧ w'.ownsRow B 44 2 (.slice (some ⟨g, 0, none⟩) l.length cap) l.length (nrow l)) ∨ ∃ c, r = .error c ∧ c ≠ 0 ∧ e = .returned (.tuple #[.slice none 0 0, .int .i64 c])
theorem each_append (f : Rat → Except Int Rat) : ∀ a b : List Rat, each f (a ++ b) = match each f a with | .error e => .error e | .ok ys => match each f b with | .error e => .error e | .ok zs => .ok (ys ++ zs)
  | [], b => by
    rw [List.nil_append, each]
    cases each f b <;> rfl
  | x :: a, b => by
    rw [List.cons_append, each, each, each_append f a b]
    cases f x with
    | error e => rfl
    | ok y =>
      cases each f a with
      | error e => rfl
      | ok ys => cases each f b <;> rfl
theorem each_step {f : Rat → Except Int Rat} {l : List Rat} {i : Nat} (hi : i < l.length) {ys : List Rat} (h : each f (l.take i) = .ok ys) {y : Rat} (hy : f l[i] = .ok y) : each f (l.take (i + 1)) = .ok (ys ++ [y]) := by
  rw [List.take_succ_eq_append_getElem hi, each_append, h]
  simp [each, hy]
theorem each_stop {f : Rat → Except Int Rat} {l : List Rat} {i : Nat} (hi : i < l.length) {ys : List Rat} (h : each f (l.take i) = .ok ys) {c : Int} (hc : f l[i] = .error c) : each f l = .error c := by
  have e : l = l.take i ++ l[i] :: l.drop (i + 1) := by
    rw [← List.drop_eq_getElem_cons hi, List.take_append_drop]
  rw [e, each_append, h]
  simp [each, hc]
theorem each_len {f : Rat → Except Int Rat} : ∀ {l ys : List Rat}, each f l = .ok ys → ys.length = l.length
  | [], ys, h => by cases h; rfl
  | x :: l, ys, h => by
    rw [each] at h
    cases hf : f x with
    | error e => rw [hf] at h; cases h
    | ok y =>
      rw [hf] at h
      cases he : each f l with
      | error e => rw [he] at h; cases h
      | ok zs =>
        rw [he] at h
        cases h
        rw [List.length_cons, List.length_cons, each_len he]

set_option maxRecDepth 100000 in
set_option maxHeartbeats 3200000 in
theorem change_any {f : Rat → Except Int Rat} {l n k t b : Int} {pa : Option Addr} {pn pc : Nat} {bo ov : Option Addr} (hone : ∀ (q : Rat) (w : World), small q = true → Calls Tryd.prog 130 #[qv q, .agg #[.int .u8 l, .int .u8 n, .int .i64 k, .int .i64 t, .int .i64 b, .slice pa pn pc, .pointer bo, .pointer ov]] w fun e w' => QGot (f q) e ∧ Below w.heap.size w w') {g cap : Nat} {xs : List Rat} {w : World} (h : LIs w g cap xs) :
    Calls Tryd.prog 123 #[.slice (some ⟨g, 0, none⟩) xs.length cap, .agg #[.int .u8 l, .int .u8 n, .int .i64 k, .int .i64 t, .int .i64 b, .slice pa pn pc, .pointer bo, .pointer ov]] w fun e w' => LGot w.heap.size (each f xs) e w' ∧ Below w.heap.size w w' := by
  obtain ⟨i0, hi0, hz0, hz1, hz2⟩ := info_parts Tryd.infoNumber
  have hg := h.lt
  have HO := hide hone
  have HL := hide h
  have hlen := h.len
  clear hone h
  go_enter Tryd.func123, Tryd.ntmps123
  go_wp2_with fail
  obtain ⟨w0, hw0⟩ : ∃ w0, w0 = w.alloc (.cells #[.int .u8 l, .int .u8 n, .int .i64 k, .int .i64 t, .int .i64 b, .slice pa pn pc, .pointer bo, .pointer ov] 107) := ⟨_, rfl⟩
  have hs0 : w0.heap.size = w.heap.size + 1 := by rw [hw0]; simp
  have hb0 : Below w.heap.size w w0 := by rw [hw0]; exact (Below.refl _ _).alloc (Nat.le_refl _) _
  have hp0 : ∀ i, w0.cell? ⟨w.heap.size, i, none⟩ = (#[.int .u8 l, .int .u8 n, .int .i64 k, .int .i64 t, .int .i64 b, .slice pa pn pc, .pointer bo, .pointer ov] : Array Value)[i]? := fun i => by rw [hw0]; exact blk_cell (heap_alloc_new w _) i
  rw [← hw0]
  have HB0 := hide hb0
  have HS0 := hide hs0
  have hs0' : w.heap.size < w0.heap.size := by omega
  clear hw0 hb0 hs0
  go_loopg [6, 14] xs.length (fun kk v6 v14 wr => ∃ (i : Nat) (ys : List Rat) (g' cp' : Nat), kk = xs.length - i ∧ i ≤ xs.length ∧ v14 = .int .i64 (i : Int) ∧ v6 = .slice (some ⟨g', 0, none⟩) ys.length cp' ∧ each f (xs.take i) = .ok ys ∧ AllS ys ∧ MkIs w0 (.slice (some ⟨g', 0, none⟩) ys.length cp') ys wr)
  case atStart => exact ⟨0, [], w.heap.size + 1, 0, rfl, Nat.zero_le _, rfl, rfl, rfl, fun _ h => by (cases h), MkIs.start' (unhide HS0)⟩
  case round =>
    obtain ⟨i, ys, g', cp', hk, hi, rfl, rfl, he, ha, hm⟩ := hrel
    have HK := hide hk
    have HE := hide he
    have HA := hide ha
    have HM := hide hm
    have hyb : ys.length ≤ 1000 := by
      have := each_len he
      rw [List.length_take] at this
      omega
    clear hk he ha
    by_cases hlt : i < xs.length
    · have hlt' : (i : Int) < (xs.length : Int) := by omega
      obtain ⟨d0, d1⟩ := (unhide HL).cell hlt
      have hgr : ∀ o, wr.cell? ⟨g, o, none⟩ = w.cell? ⟨g, o, none⟩ := fun o => (hm.bel.cell (p := ⟨g, o, none⟩) (by show g < w0.heap.size; omega)).trans ((unhide HB0).cell (p := ⟨g, o, none⟩) hg)
      rw [← hgr] at d0 d1
      have hpr : ∀ o, wr.cell? ⟨w.heap.size, o, none⟩ = (#[.int .u8 l, .int .u8 n, .int .i64 k, .int .i64 t, .int .i64 b, .slice pa pn pc, .pointer bo, .pointer ov] : Array Value)[o]? := fun o => (hm.bel.cell (p := ⟨w.heap.size, o, none⟩) (by show w.heap.size < w0.heap.size; omega)).trans (hp0 o)
      have hwl : w.heap.size < wr.heap.size := by have := hm.bel.size; omega
      have HX := hide ((unhide HL).small xs[i] (List.getElem_mem hlt))
      have HSt := hide (fun (y : Rat) (hy : f xs[i] = .ok y) => each_step hlt (unhide HE) hy)
      have HSp := hide (fun (c : Int) (hc : f xs[i] = .error c) => each_stop hlt (unhide HE) hc)
      have HMx := hide (hm.below ((Below.refl _ _).alloc (Nat.le_refl _) (.cells #[.int .i64 xs[i].num, .int .i64 (xs[i].den : Int)] 44)))
      clear hgr hm
      generalize xs[i] = x at d0 d1 HX HSt HSp HMx
      go_wp2_with fail
      refine (unhide HO x _ (unhide HX)).mono ?_
      rintro e w1 ⟨hq, hb1⟩
      have HM1 := hide ((unhide HMx).below hb1)
      clear hb1
      rcases hq with ⟨z, hz, hs, rfl⟩ | ⟨c, hz, hne, rfl⟩
      · have HZ := hide (unhide HSt z hz)
        have HS := hide hs
        have HM2 := hide (((unhide HM1).below ((Below.refl _ _).alloc (Nat.le_refl _) (.cells (qcells z).toArray 44))).below ((Below.refl _ _).alloc (Nat.le_refl _) (.cells (qcells z).toArray 44)))
        have hsz := (unhide HM1).bel.size
        clear hz hs
        rw [qv]
        go_wp2_with (at_builtin; refine wpList_append_own _ rfl _ _ 74 rfl w0.heap.size 44 i0 _ 2 16 Tryd.underlying74 hi0 hz0 hz1 hz2 rfl (by decide) _ _ _ rfl (unhide HM2).own ⟨w1.heap.size + 1, 0, none⟩ 1 1 (qcells z) rfl rfl (nnews_at (by simp) _ _) (one_qcells _) (by unfold maxLen; omega) (by omega) (by simp; omega) ?_)
        intro v' w4 hown4 hgr4 _
        have hm4 := (unhide HM2).more hown4 hgr4
        obtain ⟨g4, cp4, rfl⟩ := hm4.shape (by simp)
        have HM4 := hide hm4
        clear hown4 hgr4 hm4
        go_wp2_with fail
        go_roundg (xs.length - (i + 1))
        case measure => rw [unhide HK]; omega
        case rel => exact ⟨i + 1, ys ++ [z], g4, cp4, rfl, by omega, rfl, rfl, unhide HZ, fun q hq => by rcases List.mem_append.1 hq with h | h; exact unhide HA q h; rw [List.mem_singleton.1 h]; exact unhide HS, unhide HM4⟩
      · have HZ := hide (unhide HSp c hz)
        have hne' : (c != 0) = true := by rw [bne_iff_ne]; exact hne
        have HN := hide hne
        clear hz hne
        go_wp2_with fail
        exact bodyPost_ret (v := .tuple #[.slice none 0 0, .int .i64 c]) (by simp [results, Tryd.results123, go_sem]) rfl ⟨Or.inr ⟨c, unhide HZ, unhide HN, rfl⟩, ((unhide HB0).trans ((unhide HM1).bel.mono (unhide HB0).size)).alloc (Nat.le_trans (unhide HB0).size (unhide HM1).bel.size) _⟩
    · have hlt' : ¬ (i : Int) < (xs.length : Int) := by omega
      have hie : i = xs.length := by omega
      go_wp2_with fail
      refine bodyPost_ret (v := .tuple #[.slice (some ⟨g', 0, none⟩) ys.length cp', .int .i64 0]) (by simp [results, Tryd.results123, go_sem]) rfl ⟨Or.inl ⟨ys, g', cp', ?_, unhide HA, rfl, ?_⟩, (unhide HB0).trans ((unhide HM).bel.mono (unhide HB0).size)⟩
      · have := unhide HE
        rw [hie, List.take_length] at this
        exact this
      · exact owns_base (unhide HM).own (by omega)
end Go.Proofs.YtikiaijgcjjloaaDoor

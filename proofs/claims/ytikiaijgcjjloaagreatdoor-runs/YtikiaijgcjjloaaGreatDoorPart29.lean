import Derived.Test.YtikiaijgcjjloaaGreatDoorPart28
import Derived.Test.YtikiaijgcjjloaaGreatDoorPart26

namespace Go.Proofs.YtikiaijgcjjloaaGreatDoor
open Go Go.RowKit M T Go.Lib
def qcells (x : Rat) : List Value := [.int .i64 x.num, .int .i64 (x.den : Int)]
def nrow (l : List Rat) : List Value := (l.map qcells).flatten
theorem nrow_snoc (l : List Rat) (x : Rat) : nrow l ++ qcells x = nrow (l ++ [x]) := by unfold nrow; simp
theorem nrow_length (l : List Rat) : (nrow l).length = l.length * 2 := by
  induction l with
  | nil => rfl
  | cons x xs ih =>
    have : nrow (x :: xs) = qcells x ++ nrow xs := rfl
    rw [this, List.length_append, ih, List.length_cons]
    show 2 + _ = _
    omega
theorem one_qcells (x : Rat) : ∀ u ∈ qcells x, u.oneCell' = true := by
  intro u hu
  simp only [qcells, List.mem_cons, List.not_mem_nil, or_false] at hu
  rcases hu with rfl | rfl <;> rfl
theorem Tryz.infoNumber : (Tryz.prog.info? 91).map (fun i => (i.zero, i.size, i.bytes)) = some (some (.agg #[.int .i64 0, .int .i64 0]), 2, 16) := by kernel_rfl
theorem nrow_cell {w : World} {B g n cap : Nat} {l : List Rat} (h : w.ownsRow B 91 2 (.slice (some ⟨g, 0, none⟩) n cap) l.length (nrow l)) {j : Nat} (hj : j < l.length) : w.cell? ⟨g, j * 2, none⟩ = some (.int .i64 l[j].num) ∧ w.cell? ⟨g, j * 2 + 1, none⟩ = some (.int .i64 (l[j].den : Int)) := by
  have key : ∀ (ys : List Rat) (j : Nat) (hj : j < ys.length), (nrow ys)[j * 2]? = some (.int .i64 ys[j].num) ∧ (nrow ys)[j * 2 + 1]? = some (.int .i64 (ys[j].den : Int)) := by
    intro ys
    induction ys with
    | nil => intro j hj; simp at hj
    | cons y ys ih =>
      intro j hj
      have e : nrow (y :: ys) = .int .i64 y.num :: .int .i64 (y.den : Int) :: nrow ys := rfl
      cases j with
      | zero => rw [e]; exact ⟨rfl, rfl⟩
      | succ j =>
        rw [e, show (j + 1) * 2 = j * 2 + 1 + 1 by omega, show j * 2 + 1 + 1 + 1 = (j * 2 + 1) + 1 + 1 by omega]
        simp only [List.getElem?_cons_succ, List.getElem_cons_succ]
        exact ih j (by simpa using hj)
  have k := key l j hj
  have a1 := h.cells (g := g) rfl (j * 2) _ k.1
  have a2 := h.cells (g := g) rfl (j * 2 + 1) _ k.2
  rw [show (⟨g, 0, none⟩ : Addr).add (j * 2) = ⟨g, j * 2, none⟩ from by unfold Addr.add; split <;> simp_all] at a1
  rw [show (⟨g, 0, none⟩ : Addr).add (j * 2 + 1) = ⟨g, j * 2 + 1, none⟩ from by unfold Addr.add; split <;> simp_all] at a2
  exact ⟨a1, a2⟩
structure LIs (w : World) (g cap : Nat) (l : List Rat) : Prop where
  own : w.ownsRow 0 91 2 (.slice (some ⟨g, 0, none⟩) l.length cap) l.length (nrow l)
  small : AllS l
  len : l.length ≤ 1000
theorem LIs.below {w w' : World} {g cap : Nat} {l : List Rat} (h : LIs w g cap l) (hb : Below w.heap.size w w') : LIs w' g cap l := ⟨owns_belowP h.own hb, h.small, h.len⟩
theorem LIs.lt {w : World} {g cap : Nat} {l : List Rat} (h : LIs w g cap l) : g < w.heap.size := (h.own.lt g rfl).2
theorem LIs.cell {w : World} {g cap : Nat} {l : List Rat} (h : LIs w g cap l) {j : Nat} (hj : j < l.length) : w.cell? ⟨g, j * 2, none⟩ = some (.int .i64 l[j].num) ∧ w.cell? ⟨g, j * 2 + 1, none⟩ = some (.int .i64 (l[j].den : Int)) := nrow_cell h.own hj
structure MkIs (w0 : World) (v : Value) (ys : List Rat) (wr : World) : Prop where
  own : wr.ownsRow w0.heap.size 91 2 v ys.length (nrow ys)
  bel : Below w0.heap.size w0 wr
theorem MkIs.start (w : World) : MkIs w (.slice (some ⟨w.heap.size, 0, none⟩) 0 0) [] (w.alloc (.cells #[] 91)) := ⟨World.ownsRow_made w #[] 0 (Nat.le_refl _) (Nat.zero_le _) rfl, (Below.refl _ _).alloc (Nat.le_refl _) _⟩
theorem MkIs.start' {w : World} {k : Nat} (e : w.heap.size = k) : MkIs w (.slice (some ⟨k, 0, none⟩) 0 0) [] (w.alloc (.cells #[] 91)) := by
  subst e
  exact MkIs.start w
theorem MkIs.below {w0 wr wr' : World} {v : Value} {ys : List Rat} (h : MkIs w0 v ys wr) (hb : Below wr.heap.size wr wr') : MkIs w0 v ys wr' := ⟨owns_belowP h.own hb, h.bel.trans (hb.mono h.bel.size)⟩
theorem MkIs.more {w0 wr w4 : World} {v v' : Value} {ys : List Rat} {y : Rat} (h : MkIs w0 v ys wr) (ho : w4.ownsRow w0.heap.size 91 2 v' (ys.length + 1) (nrow ys ++ qcells y)) (hg : wr.grownBy w4 v.ownBlock) : MkIs w0 v' (ys ++ [y]) w4 := by
  refine ⟨by rw [List.length_append, ← nrow_snoc]; exact ho, ⟨hg.os.trans h.bel.os, hg.tape.trans h.bel.tape, hg.output.trans h.bel.output, Nat.le_trans h.bel.size hg.size, fun k hk => (hg.block k (Nat.lt_of_lt_of_le hk h.bel.size) (fun e => ?_)).trans (h.bel.block k hk)⟩⟩
  have := (h.own.lt k e.symm).1
  omega
theorem MkIs.shape {w0 wr : World} {v : Value} {ys : List Rat} (h : MkIs w0 v ys wr) (hn : 1 ≤ ys.length) : ∃ g cp, v = .slice (some ⟨g, 0, none⟩) ys.length cp := owns_some h.own (by
  intro e
  have h1 := h.own
  rw [e] at h1
  have := owns_len h1
  omega)
theorem owns_base {w : World} {B B' : Nat} {e : TypeId} {size : Nat} {v : Value} {n : Nat} {xs : List Value} (h : w.ownsRow B e size v n xs) (hb : B' ≤ B) : w.ownsRow B' e size v n xs := by
  refine ⟨h.1, ?_⟩
  rcases h.2 with h2 | ⟨g, cap, cur, hv, hg, r⟩
  · exact Or.inl h2
  · exact Or.inr ⟨g, cap, cur, hv, Nat.le_trans hb hg, r⟩
theorem nnews_at {w : World} {k : Nat} (e : w.heap.size = k) (c : List Value) (t : TypeId) : ∀ j u, c[j]? = some u → (w.alloc (.cells c.toArray t)).cell? ((⟨k, 0, none⟩ : Addr).add j) = some u := by
  subst e
  exact news_alloc w c t
def LGot (B : Nat) (r : Except Int (List Rat)) (e : Ending) (w' : World) : Prop := (∃ l g cap, r = .ok l ∧ AllS l ∧ e = .returned (.tuple #[.slice (some ⟨g, 0, none⟩) l.length cap, .int .i64 0]) ∧ w'.ownsRow B 91 2 (.slice (some ⟨g, 0, none⟩) l.length cap) l.length (nrow l)) ∨ ∃ c, r = .error c ∧ c ≠ 0 ∧ e = .returned (.tuple #[.slice none 0 0, .int .i64 c])
theorem each_append (f : Rat → Except Int Rat) : ∀ a b : List Rat, each f (a ++ b) = match each f a with | .error e => .error e | .ok ys => match each f b with | .error e => .error e | .ok zs => .ok (ys ++ zs)
  | [], b => by
    rw [List.nil_append, each]
    cases each f b <;> rfl
  | x :: a, b => by
    rw [List.cons_append, each, each, each_append f a b]
    cases f x with
    | error e => rfl
    | ok y =>
      cases each f a with
      | error e => rfl
      | ok ys => cases each f b <;> rfl
theorem each_step {f : Rat → Except Int Rat} {l : List Rat} {i : Nat} (hi : i < l.length) {ys : List Rat} (h : each f (l.take i) = .ok ys) {y : Rat} (hy : f l[i] = .ok y) : each f (l.take (i + 1)) = .ok (ys ++ [y]) := by
  rw [List.take_succ_eq_append_getElem hi, each_append, h]
  simp [each, hy]
theorem each_stop {f : Rat → Except Int Rat} {l : List Rat} {i : Nat} (hi : i < l.length) {ys : List Rat} (h : each f (l.take i) = .ok ys) {c : Int} (hc : f l[i] = .error c) : each f l = .error c := by
  have e : l = l.take i ++ l[i] :: l.drop (i + 1) := by
    rw [← List.drop_eq_getElem_cons hi, List.take_append_drop]
  rw [e, each_append, h]
  simp [each, hc]
theorem each_len {f : Rat → Except Int Rat} : ∀ {l ys : List Rat}, each f l = .ok ys → ys.length = l.length
  | [], ys, h => by cases h; rfl
  | x :: l, ys, h => by
    rw [each] at h
    cases hf : f x with
    | error e => rw [hf] at h; cases h
    | ok y =>
      rw [hf] at h
      cases he : each f l with
      | error e => rw [he] at h; cases h
      | ok zs =>
        rw [he] at h
        cases h
        rw [List.length_cons, List.length_cons, each_len he]
set_option maxRecDepth 100000 in
set_option maxHeartbeats 3200000 in
theorem change_any {f : Rat → Except Int Rat} {l n k t b : Int} {pa : Option Addr} {pn pc : Nat} {bo ov : Option Addr} (hone : ∀ (q : Rat) (w : World), small q = true → Calls Tryz.prog 189 #[qv q, .agg #[.int .u8 l, .int .u8 n, .int .i64 k, .int .i64 t, .int .i64 b, .slice pa pn pc, .pointer bo, .pointer ov]] w fun e w' => QGot (f q) e ∧ Below w.heap.size w w') {g cap : Nat} {xs : List Rat} {w : World} (h : LIs w g cap xs) :
    Calls Tryz.prog 181 #[.slice (some ⟨g, 0, none⟩) xs.length cap, .agg #[.int .u8 l, .int .u8 n, .int .i64 k, .int .i64 t, .int .i64 b, .slice pa pn pc, .pointer bo, .pointer ov]] w fun e w' => LGot w.heap.size (each f xs) e w' ∧ Below w.heap.size w w' := by
  obtain ⟨i0, hi0, hz0, hz1, hz2⟩ := info_parts Tryz.infoNumber
  have hg := h.lt
  have HO := hide hone
  have HL := hide h
  have hlen := h.len
  clear hone h
  go_enter Tryz.func181, Tryz.ntmps181
  go_wp2_with fail
  obtain ⟨w0, hw0⟩ : ∃ w0, w0 = w.alloc (.cells #[.int .u8 l, .int .u8 n, .int .i64 k, .int .i64 t, .int .i64 b, .slice pa pn pc, .pointer bo, .pointer ov] 148) := ⟨_, rfl⟩
  have hs0 : w0.heap.size = w.heap.size + 1 := by rw [hw0]; simp
  have hb0 : Below w.heap.size w w0 := by rw [hw0]; exact (Below.refl _ _).alloc (Nat.le_refl _) _
  have hp0 : ∀ i, w0.cell? ⟨w.heap.size, i, none⟩ = (#[.int .u8 l, .int .u8 n, .int .i64 k, .int .i64 t, .int .i64 b, .slice pa pn pc, .pointer bo, .pointer ov] : Array Value)[i]? := fun i => by rw [hw0]; exact blk_cell (heap_alloc_new w _) i
  rw [← hw0]
  have HB0 := hide hb0
  have HS0 := hide hs0
  have hs0' : w.heap.size < w0.heap.size := by omega
  clear hw0 hb0 hs0
  go_loopg [6, 14] xs.length (fun kk v6 v14 wr => ∃ (i : Nat) (ys : List Rat) (g' cp' : Nat), kk = xs.length - i ∧ i ≤ xs.length ∧ v14 = .int .i64 (i : Int) ∧ v6 = .slice (some ⟨g', 0, none⟩) ys.length cp' ∧ each f (xs.take i) = .ok ys ∧ AllS ys ∧ MkIs w0 (.slice (some ⟨g', 0, none⟩) ys.length cp') ys wr)
  case atStart => exact ⟨0, [], w.heap.size + 1, 0, rfl, Nat.zero_le _, rfl, rfl, rfl, fun _ h => by (cases h), MkIs.start' (unhide HS0)⟩
  case round =>
    obtain ⟨i, ys, g', cp', hk, hi, rfl, rfl, he, ha, hm⟩ := hrel
    have HK := hide hk
    have HE := hide he
    have HA := hide ha
    have HM := hide hm
    have hyb : ys.length ≤ 1000 := by
      have := each_len he
      rw [List.length_take] at this
      omega
    clear hk he ha
    by_cases hlt : i < xs.length
    · have hlt' : (i : Int) < (xs.length : Int) := by omega
      obtain ⟨d0, d1⟩ := (unhide HL).cell hlt
      have hgr : ∀ o, wr.cell? ⟨g, o, none⟩ = w.cell? ⟨g, o, none⟩ := fun o => (hm.bel.cell (p := ⟨g, o, none⟩) (by show g < w0.heap.size; omega)).trans ((unhide HB0).cell (p := ⟨g, o, none⟩) hg)
      rw [← hgr] at d0 d1
      have hpr : ∀ o, wr.cell? ⟨w.heap.size, o, none⟩ = (#[.int .u8 l, .int .u8 n, .int .i64 k, .int .i64 t, .int .i64 b, .slice pa pn pc, .pointer bo, .pointer ov] : Array Value)[o]? := fun o => (hm.bel.cell (p := ⟨w.heap.size, o, none⟩) (by show w.heap.size < w0.heap.size; omega)).trans (hp0 o)
      have hwl : w.heap.size < wr.heap.size := by have := hm.bel.size; omega
      have HX := hide ((unhide HL).small xs[i] (List.getElem_mem hlt))
      have HSt := hide (fun (y : Rat) (hy : f xs[i] = .ok y) => each_step hlt (unhide HE) hy)
      have HSp := hide (fun (c : Int) (hc : f xs[i] = .error c) => each_stop hlt (unhide HE) hc)
      have HMx := hide (hm.below ((Below.refl _ _).alloc (Nat.le_refl _) (.cells #[.int .i64 xs[i].num, .int .i64 (xs[i].den : Int)] 91)))
      clear hgr hm
      generalize xs[i] = x at d0 d1 HX HSt HSp HMx
      go_wp2_with fail
      refine (unhide HO x _ (unhide HX)).mono ?_
      rintro e w1 ⟨hq, hb1⟩
      have HM1 := hide ((unhide HMx).below hb1)
      clear hb1
      rcases hq with ⟨z, hz, hs, rfl⟩ | ⟨c, hz, hne, rfl⟩
      · have HZ := hide (unhide HSt z hz)
        have HS := hide hs
        have HM2 := hide (((unhide HM1).below ((Below.refl _ _).alloc (Nat.le_refl _) (.cells (qcells z).toArray 91))).below ((Below.refl _ _).alloc (Nat.le_refl _) (.cells (qcells z).toArray 91)))
        have hsz := (unhide HM1).bel.size
        clear hz hs
        rw [qv]
        go_wp2_with (at_builtin; refine wpList_append_own _ rfl _ _ 66 rfl w0.heap.size 91 i0 _ 2 16 Tryz.underlying66 hi0 hz0 hz1 hz2 rfl (by decide) _ _ _ rfl (unhide HM2).own ⟨w1.heap.size + 1, 0, none⟩ 1 1 (qcells z) rfl rfl (nnews_at (by simp) _ _) (one_qcells _) (by unfold maxLen; omega) (by omega) (by simp; omega) ?_)
        intro v' w4 hown4 hgr4 _
        have hm4 := (unhide HM2).more hown4 hgr4
        obtain ⟨g4, cp4, rfl⟩ := hm4.shape (by simp)
        have HM4 := hide hm4
        clear hown4 hgr4 hm4
        go_wp2_with fail
        go_roundg (xs.length - (i + 1))
        case measure => rw [unhide HK]; omega
        case rel => exact ⟨i + 1, ys ++ [z], g4, cp4, rfl, by omega, rfl, rfl, unhide HZ, fun q hq => by rcases List.mem_append.1 hq with h | h; exact unhide HA q h; rw [List.mem_singleton.1 h]; exact unhide HS, unhide HM4⟩
      · have HZ := hide (unhide HSp c hz)
        have hne' : (c != 0) = true := by rw [bne_iff_ne]; exact hne
        have HN := hide hne
        clear hz hne
        go_wp2_with fail
        exact bodyPost_ret (v := .tuple #[.slice none 0 0, .int .i64 c]) (by simp [results, Tryz.results181, go_sem]) rfl ⟨Or.inr ⟨c, unhide HZ, unhide HN, rfl⟩, ((unhide HB0).trans ((unhide HM1).bel.mono (unhide HB0).size)).alloc (Nat.le_trans (unhide HB0).size (unhide HM1).bel.size) _⟩
    · have hlt' : ¬ (i : Int) < (xs.length : Int) := by omega
      have hie : i = xs.length := by omega
      go_wp2_with fail
      refine bodyPost_ret (v := .tuple #[.slice (some ⟨g', 0, none⟩) ys.length cp', .int .i64 0]) (by simp [results, Tryz.results181, go_sem]) rfl ⟨Or.inl ⟨ys, g', cp', ?_, unhide HA, rfl, ?_⟩, (unhide HB0).trans ((unhide HM).bel.mono (unhide HB0).size)⟩
      · have := unhide HE
        rw [hie, List.take_length] at this
        exact this
      · exact owns_base (unhide HM).own (by omega)
theorem allS_one {ys : List Rat} {z : Rat} (h : AllS ys) (hz : small z = true) : AllS (ys ++ [z]) := fun q hq => by
  rcases List.mem_append.1 hq with h' | h'
  · exact h q h'
  · rw [List.mem_singleton.1 h']; exact hz
theorem drop_rev (l : List Rat) (i : Nat) (hi : i < l.length) : (l.drop (i + 1)).reverse ++ [l[i]] = (l.drop i).reverse := by
  rw [List.drop_eq_getElem_cons hi, List.reverse_cons]
set_option maxRecDepth 100000 in
set_option maxHeartbeats 1600000 in
theorem turnRound_any {g cap : Nat} {xs : List Rat} {w : World} (h : LIs w g cap xs) :
    Calls Tryz.prog 176 #[.slice (some ⟨g, 0, none⟩) xs.length cap] w fun e w' => (∃ g' cap', e = .returned (.slice (some ⟨g', 0, none⟩) xs.reverse.length cap') ∧ w'.ownsRow w.heap.size 91 2 (.slice (some ⟨g', 0, none⟩) xs.reverse.length cap') xs.reverse.length (nrow xs.reverse)) ∧ Below w.heap.size w w' := by
  obtain ⟨i0, hi0, hz0, hz1, hz2⟩ := info_parts Tryz.infoNumber
  have HL := hide h
  have hg := h.lt
  have hlen := h.len
  clear h
  go_enter Tryz.func176, Tryz.ntmps176
  go_wp2_with fail
  go_loopg [3, 4] xs.length (fun kk v3 v4 wr => ∃ (i : Nat) (ys : List Rat) (g' cp' : Nat), kk = i ∧ i ≤ xs.length ∧ v4 = .int .i64 ((i : Int) - 1) ∧ v3 = .slice (some ⟨g', 0, none⟩) ys.length cp' ∧ ys = (xs.drop i).reverse ∧ MkIs w (.slice (some ⟨g', 0, none⟩) ys.length cp') ys wr)
  case atStart => exact ⟨xs.length, [], w.heap.size, 0, rfl, Nat.le_refl _, rfl, rfl, by rw [List.drop_length]; rfl, MkIs.start w⟩
  case round =>
    obtain ⟨i, ys, g', cp', hk, hi, hv, rfl, he, hm⟩ := hrel
    have HK := hide hk
    have HE := hide he
    have HM := hide hm
    have hyb : ys.length ≤ 1000 := by rw [he]; simp; omega
    clear hk he
    cases i with
    | zero =>
      have hv' : _ = Value.int .i64 (-1) := hv
      subst hv'
      clear hv
      go_wp2_with fail
      go_ret
      have e : ys = xs.reverse := by rw [unhide HE, List.drop_zero]
      rw [e] at HM
      exact ⟨⟨g', cp', by rw [e]; rfl, (unhide HM).own⟩, (unhide HM).bel⟩
    | succ i =>
      have hv' : _ = Value.int .i64 (i : Int) := hv.trans (congrArg (Value.int .i64) (by omega))
      subst hv'
      have hlt : i < xs.length := by omega
      have hlt' : (i : Int) < (xs.length : Int) := by omega
      obtain ⟨d0, d1⟩ := (unhide HL).cell hlt
      have hgr : ∀ o, wr.cell? ⟨g, o, none⟩ = w.cell? ⟨g, o, none⟩ := fun o => hm.bel.cell (p := ⟨g, o, none⟩) hg
      rw [← hgr] at d0 d1
      have HX := hide (show ys ++ [xs[i]] = (xs.drop i).reverse by rw [unhide HE]; exact drop_rev xs i hlt)
      have HM2 := hide (hm.below ((Below.refl _ _).alloc (Nat.le_refl _) (.cells (qcells xs[i]).toArray 91)))
      have hsz := hm.bel.size
      clear hv hgr hm
      generalize xs[i] = z at d0 d1 HX HM2
      go_wp2_with (at_builtin; refine wpList_append_own _ rfl _ _ 66 rfl w.heap.size 91 i0 _ 2 16 Tryz.underlying66 hi0 hz0 hz1 hz2 rfl (by decide) _ _ _ rfl (unhide HM2).own ⟨wr.heap.size, 0, none⟩ 1 1 (qcells z) rfl rfl (nnews_at rfl _ _) (one_qcells _) (by unfold maxLen; omega) (by omega) (by simp; omega) ?_)
      intro v' w4 hown4 hgr4 _
      have hm4 := (unhide HM2).more hown4 hgr4
      obtain ⟨g4, cp4, rfl⟩ := hm4.shape (by simp)
      have HM4 := hide hm4
      clear hown4 hgr4 hm4
      go_wp2_with fail
      go_roundg i
      case measure => rw [unhide HK]; omega
      case rel => exact ⟨i, ys ++ [z], g4, cp4, rfl, by omega, rfl, rfl, unhide HX, unhide HM4⟩
theorem nrow_get {w : World} {g cap : Nat} {l : List Rat} (h : LIs w g cap l) {a : Nat} (m : List Rat) (hm : ∀ j, j < m.length → m[j]? = l[a + j]?) : ∀ j u, (nrow m)[j]? = some u → w.cell? ((⟨g, a * 2, none⟩ : Addr).add j) = some u := by
  intro j u hu
  have hj : j < m.length * 2 := by
    have := (List.getElem?_eq_some_iff.1 hu).1
    rw [nrow_length] at this
    exact this
  have hadd : (⟨g, a * 2, none⟩ : Addr).add j = ⟨g, a * 2 + j, none⟩ := by unfold Addr.add; split <;> simp_all
  have key : ∀ (ys : List Rat) (i : Nat) (hi : i < ys.length), (nrow ys)[i * 2]? = some (.int .i64 ys[i].num) ∧ (nrow ys)[i * 2 + 1]? = some (.int .i64 (ys[i].den : Int)) := by
    intro ys
    induction ys with
    | nil => intro j hj; simp at hj
    | cons y ys ih =>
      intro j hj
      have e : nrow (y :: ys) = .int .i64 y.num :: .int .i64 (y.den : Int) :: nrow ys := rfl
      cases j with
      | zero => rw [e]; exact ⟨rfl, rfl⟩
      | succ j =>
        rw [e, show (j + 1) * 2 = j * 2 + 1 + 1 by omega, show j * 2 + 1 + 1 + 1 = (j * 2 + 1) + 1 + 1 by omega]
        simp only [List.getElem?_cons_succ, List.getElem_cons_succ]
        exact ih j (by simpa using hj)
  have hi : j / 2 < m.length := by omega
  have hml := hm (j / 2) hi
  rw [List.getElem?_eq_getElem hi] at hml
  obtain ⟨hal, hel⟩ := List.getElem?_eq_some_iff.1 hml.symm
  obtain ⟨k0, k1⟩ := key m (j / 2) hi
  obtain ⟨c0, c1⟩ := h.cell hal
  rw [hel] at c0 c1
  rw [hadd]
  rcases (show j = j / 2 * 2 ∨ j = j / 2 * 2 + 1 by omega) with e | e
  · rw [e] at hu
    rw [k0] at hu
    rw [show a * 2 + j = (a + j / 2) * 2 by omega, c0]
    exact hu
  · rw [e] at hu
    rw [k1] at hu
    rw [show a * 2 + j = (a + j / 2) * 2 + 1 by omega, c1]
    exact hu
theorem one_nrow : ∀ (l : List Rat), ∀ u ∈ nrow l, u.oneCell' = true
  | [], u, h => by cases h
  | x :: l, u, h => by
    have e : nrow (x :: l) = qcells x ++ nrow l := rfl
    rw [e] at h
    rcases List.mem_append.1 h with h | h
    · exact one_qcells x u h
    · exact one_nrow l u h
theorem allS_sub {l m : List Rat} (h : AllS l) (hs : ∀ x ∈ m, x ∈ l) : AllS m := fun x hx => h x (hs x hx)
theorem MkIs.grow {w0 wr w4 : World} {v : Value} {ys : List Rat} (h : MkIs w0 v ys wr) (hg : wr.grownBy w4 v.ownBlock) : Below w0.heap.size w0 w4 :=
  ⟨hg.os.trans h.bel.os, hg.tape.trans h.bel.tape, hg.output.trans h.bel.output, Nat.le_trans h.bel.size hg.size, fun k hk => (hg.block k (Nat.lt_of_lt_of_le hk h.bel.size) (fun e => by have := (h.own.lt k e.symm).1; omega)).trans (h.bel.block k hk)⟩
theorem LIs.cap_le {w : World} {g cap : Nat} {l : List Rat} (h : LIs w g cap l) : l.length ≤ cap := by
  rcases h.own.2 with ⟨e, _⟩ | ⟨g', cap', cur, hv, _, _, hc, _⟩
  · cases e
  · cases hv; exact hc
def takeE (k : Nat) (l : List Rat) : Except Int (List Rat) := if k ≤ l.length then .ok (l.take k) else .error 11
def dropE (k : Nat) (l : List Rat) : Except Int (List Rat) := if k ≤ l.length then .ok (l.drop k) else .error 11
set_option maxRecDepth 100000 in
set_option maxHeartbeats 1600000 in
theorem takeFirst_any {g cap : Nat} {xs : List Rat} {w : World} (h : LIs w g cap xs) (k : Nat) (hk : k ≤ 1000) :
    Calls Tryz.prog 178 #[.slice (some ⟨g, 0, none⟩) xs.length cap, .int .i64 (k : Int)] w fun e w' => LGot w.heap.size (takeE k xs) e w' ∧ Below w.heap.size w w' := by
  obtain ⟨i0, hi0, hz0, hz1, hz2⟩ := info_parts Tryz.infoNumber
  have hlen := h.len
  by_cases hkl : k ≤ xs.length
  · have hkl' : ¬ (xs.length : Int) < (k : Int) := by omega
    have hcap := h.cap_le
    have hkc : (k : Int) ≤ (cap : Int) := by omega
    have hl : (xs.take k).length = k := by rw [List.length_take]; omega
    have HR := hide (show takeE k xs = .ok (xs.take k) from if_pos hkl)
    have HA := hide (allS_sub h.small (fun x (hx : x ∈ xs.take k) => List.mem_of_mem_take hx))
    have HM := hide (MkIs.start w)
    have HN := hide (nrow_get (h.below ((Below.refl _ _).alloc (Nat.le_refl _) (.cells #[] 91))) (a := 0) (xs.take k) (fun j hj => by rw [Nat.zero_add, List.getElem?_take]; rw [hl] at hj; rw [if_pos hj]))
    have HLen := hide (show (nrow (xs.take k)).length = k * 2 by rw [nrow_length, hl])
    have HLl := hide hl
    clear h hl
    generalize xs.take k = ys at HR HA HN HLen HLl
    go_enter Tryz.func178, Tryz.ntmps178
    go_wp2_with (at_builtin; refine wpList_append_own _ rfl _ _ 66 rfl w.heap.size 91 i0 _ 2 16 Tryz.underlying66 hi0 hz0 hz1 hz2 rfl (by decide) _ _ _ rfl (unhide HM).own ⟨g, 0, none⟩ k cap (nrow ys) rfl (unhide HLen) (unhide HN) (one_nrow _) (by unfold maxLen; simp; omega) (by simp; omega) (by simp) ?_)
    intro v' w4 hown4 hgr4 hnn
    obtain ⟨g4, cp4, rfl⟩ : ∃ g4 cp4, v' = .slice (some ⟨g4, 0, none⟩) k cp4 := owns_some hown4 hnn
    have hown5 : w4.ownsRow w.heap.size 91 2 (.slice (some ⟨g4, 0, none⟩) k cp4) k (nrow ys) := hown4
    have HO := hide hown5
    have HB := hide ((unhide HM).grow hgr4)
    clear hown4 hgr4 hnn hown5
    go_wp2_with fail
    exact bodyPost_ret (v := .tuple #[.slice (some ⟨g4, 0, none⟩) k cp4, .int .i64 0]) (by simp [results, Tryz.results178, go_sem]) rfl ⟨Or.inl ⟨ys, g4, cp4, unhide HR, unhide HA, by rw [unhide HLl], by rw [unhide HLl]; exact unhide HO⟩, unhide HB⟩
  · have hkl' : (xs.length : Int) < (k : Int) := by omega
    have HR := hide (show takeE k xs = .error 11 from if_neg hkl)
    go_enter Tryz.func178, Tryz.ntmps178
    go_wp2_with fail
    exact bodyPost_ret (v := .tuple #[.slice none 0 0, .int .i64 11]) (by simp [results, Tryz.results178, go_sem]) rfl ⟨Or.inr ⟨11, unhide HR, by decide, rfl⟩, Below.refl _ _⟩
set_option maxRecDepth 100000 in
set_option maxHeartbeats 1600000 in
theorem takeBehind_any {g cap : Nat} {xs : List Rat} {w : World} (h : LIs w g cap xs) (k : Nat) (hk : k ≤ 1000) :
    Calls Tryz.prog 179 #[.slice (some ⟨g, 0, none⟩) xs.length cap, .int .i64 (k : Int)] w fun e w' => LGot w.heap.size (dropE k xs) e w' ∧ Below w.heap.size w w' := by
  obtain ⟨i0, hi0, hz0, hz1, hz2⟩ := info_parts Tryz.infoNumber
  have hlen := h.len
  by_cases hkl : k ≤ xs.length
  · have hkl' : ¬ (xs.length : Int) < (k : Int) := by omega
    have hcap := h.cap_le
    have hl : (xs.drop k).length = xs.length - k := by rw [List.length_drop]
    have HR := hide (show dropE k xs = .ok (xs.drop k) from if_pos hkl)
    have HA := hide (allS_sub h.small (fun x (hx : x ∈ xs.drop k) => List.mem_of_mem_drop hx))
    have HM := hide (MkIs.start w)
    have HN := hide (nrow_get (h.below ((Below.refl _ _).alloc (Nat.le_refl _) (.cells #[] 91))) (a := k) (xs.drop k) (fun j hj => by rw [List.getElem?_drop]))
    have HLen := hide (show (nrow (xs.drop k)).length = (xs.length - k) * 2 by rw [nrow_length, hl])
    have HLl := hide hl
    clear h hl
    generalize xs.drop k = ys at HR HA HN HLen HLl
    by_cases hlt : k < xs.length
    · have hck : ¬ cap = k := by omega
      have hlk : ¬ xs.length - k = 0 := by omega
      go_enter Tryz.func179, Tryz.ntmps179
      go_wp2_with (at_builtin; refine wpList_append_own _ rfl _ _ 66 rfl w.heap.size 91 i0 _ 2 16 Tryz.underlying66 hi0 hz0 hz1 hz2 rfl (by decide) _ _ _ rfl (unhide HM).own ⟨g, k * 2, none⟩ (xs.length - k) (cap - k) (nrow ys) rfl (unhide HLen) (unhide HN) (one_nrow _) (by unfold maxLen; simp; omega) (by simp; omega) (by simp) ?_)
      intro v' w4 hown4 hgr4 hnn
      obtain ⟨g4, cp4, rfl⟩ : ∃ g4 cp4, v' = .slice (some ⟨g4, 0, none⟩) (xs.length - k) cp4 := owns_some hown4 hnn
      have hown5 : w4.ownsRow w.heap.size 91 2 (.slice (some ⟨g4, 0, none⟩) (xs.length - k) cp4) (xs.length - k) (nrow ys) := hown4
      have HO := hide hown5
      have HB := hide ((unhide HM).grow hgr4)
      clear hown4 hgr4 hnn hown5
      go_wp2_with fail
      exact bodyPost_ret (v := .tuple #[.slice (some ⟨g4, 0, none⟩) (xs.length - k) cp4, .int .i64 0]) (by simp [results, Tryz.results179, go_sem]) rfl ⟨Or.inl ⟨ys, g4, cp4, unhide HR, unhide HA, by rw [unhide HLl], by rw [unhide HLl]; exact unhide HO⟩, unhide HB⟩
    · obtain rfl : ys = [] := List.eq_nil_of_length_eq_zero (by rw [unhide HLl]; omega)
      have hlk : xs.length - k = 0 := by omega
      by_cases hck : cap = k
      · go_enter Tryz.func179, Tryz.ntmps179
        go_wp2_with fail
        exact bodyPost_ret (v := .tuple #[.slice (some ⟨w.heap.size, 0, none⟩) 0 0, .int .i64 0]) (by simp [results, Tryz.results179, go_sem]) rfl ⟨Or.inl ⟨[], w.heap.size, 0, unhide HR, fun _ h => by (cases h), rfl, (unhide HM).own⟩, (unhide HM).bel⟩
      · go_enter Tryz.func179, Tryz.ntmps179
        go_wp2_with fail
        exact bodyPost_ret (v := .tuple #[.slice (some ⟨w.heap.size, 0, none⟩) 0 0, .int .i64 0]) (by simp [results, Tryz.results179, go_sem]) rfl ⟨Or.inl ⟨[], w.heap.size, 0, unhide HR, fun _ h => by (cases h), rfl, (unhide HM).own⟩, (unhide HM).bel⟩
  · have hkl' : (xs.length : Int) < (k : Int) := by omega
    have HR := hide (show dropE k xs = .error 11 from if_neg hkl)
    go_enter Tryz.func179, Tryz.ntmps179
    go_wp2_with fail
    exact bodyPost_ret (v := .tuple #[.slice none 0 0, .int .i64 11]) (by simp [results, Tryz.results179, go_sem]) rfl ⟨Or.inr ⟨11, unhide HR, by decide, rfl⟩, Below.refl _ _⟩
def pickE (ps : List Nat) (l : List Rat) : Except Int (List Rat) := if ps.all (· < l.length) then .ok (picked ps l) else .error 11
theorem picked_step (ps : List Nat) (l : List Rat) (i : Nat) (hi : i < ps.length) : picked (ps.take (i + 1)) l = picked (ps.take i) l ++ [l.getD ps[i] 0] := by
  unfold picked
  rw [List.take_succ_eq_append_getElem hi, List.map_append]
  rfl
set_option maxRecDepth 100000 in
set_option maxHeartbeats 1600000 in
theorem takeAt_any {g cap : Nat} {xs : List Rat} {w : World} (h : LIs w g cap xs) {pa : Option Addr} {pn pc : Nat} {ps : List Nat} (hp : w.ownsRow 0 3 1 (.slice pa pn pc) ps.length (ps.map fun i : Nat => Value.int .i64 (i : Int))) (hpl : ps.length ≤ 1000) (hpb : ∀ i ∈ ps, i ≤ 1000) :
    Calls Tryz.prog 174 #[.slice (some ⟨g, 0, none⟩) xs.length cap, .slice pa pn pc] w fun e w' => LGot w.heap.size (pickE ps xs) e w' ∧ Below w.heap.size w w' := by
  obtain ⟨i0, hi0, hz0, hz1, hz2⟩ := info_parts Tryz.infoNumber
  have hlen := h.len
  have hg := h.lt
  obtain rfl : pn = ps.length := owns_len hp
  have hpc : 0 < ps.length → ∃ gp, pa = some ⟨gp, 0, none⟩ ∧ gp < w.heap.size ∧ ∀ j (hj : j < ps.length), w.cell? ⟨gp, j, none⟩ = some (.int .i64 (ps[j] : Int)) := fun hpos => by
    rcases hp.2 with ⟨_, e⟩ | ⟨gp, cp, cur, hv, _, hh, _⟩
    · omega
    · obtain ⟨rfl, _, rfl⟩ := Value.slice.inj hv
      refine ⟨gp, rfl, lt_of_block hh, fun j hj => ?_⟩
      have := hp.cells (g := gp) rfl j (.int .i64 (ps[j] : Int)) (by rw [List.getElem?_map, List.getElem?_eq_getElem hj]; rfl)
      rw [show (⟨gp, 0, none⟩ : Addr).add j = ⟨gp, j, none⟩ from by unfold Addr.add; split <;> simp_all] at this
      exact this
  have HL := hide h
  have HPc := hide hpc
  have HPb := hide hpb
  clear h hp hpc hpb
  go_enter Tryz.func174, Tryz.ntmps174
  go_wp2_with fail
  go_loopg [6, 12] ps.length (fun kk v6 v12 wr => ∃ (i : Nat) (ys : List Rat) (g' cp' : Nat), kk = ps.length - i ∧ i ≤ ps.length ∧ v12 = .int .i64 (i : Int) ∧ v6 = .slice (some ⟨g', 0, none⟩) ys.length cp' ∧ (ys = picked (ps.take i) xs ∧ (∀ j ∈ ps.take i, j < xs.length) ∧ AllS ys) ∧ MkIs w (.slice (some ⟨g', 0, none⟩) ys.length cp') ys wr)
  case atStart => exact ⟨0, [], w.heap.size, 0, rfl, Nat.zero_le _, rfl, rfl, ⟨rfl, fun j hj => by (cases hj), fun _ h => by (cases h)⟩, MkIs.start w⟩
  case round =>
    obtain ⟨i, ys, g', cp', hk, hi, rfl, rfl, he, hm⟩ := hrel
    have HK := hide hk
    have HE := hide he
    have HM := hide hm
    have hyb : ys.length ≤ 1000 := by rw [he.1]; unfold picked; simp; omega
    clear hk he
    by_cases hlt : i < ps.length
    · have hlt' : (i : Int) < (ps.length : Int) := by omega
      obtain ⟨gp, rfl, hgp, hcp⟩ := unhide HPc (by omega)
      have hc0 := hcp i hlt
      have hgr : ∀ (b o : Nat), b < w.heap.size → wr.cell? ⟨b, o, none⟩ = w.cell? ⟨b, o, none⟩ := fun b o hb => hm.bel.cell (p := ⟨b, o, none⟩) hb
      rw [← hgr gp i hgp] at hc0
      have hpi := unhide HPb ps[i] (List.getElem_mem hlt)
      have HPI := hide (show ps.take (i + 1) = ps.take i ++ [ps[i]] from List.take_succ_eq_append_getElem hlt)
      have HPS := hide (picked_step ps xs i hlt)
      have HMem := hide (List.getElem_mem hlt)
      clear hcp
      by_cases hb : ps[i] < xs.length
      · have hb' : ¬ (xs.length : Int) ≤ (ps[i] : Int) := by omega
        have hb2 : (ps[i] : Int) < (xs.length : Int) := by omega
        obtain ⟨d0, d1⟩ := (unhide HL).cell hb
        rw [← hgr g _ hg] at d0 d1
        have hgd : xs.getD ps[i] 0 = xs[ps[i]] := by rw [List.getD_eq_getElem?_getD, List.getElem?_eq_getElem hb]; rfl
        rw [hgd] at HPS
        have HX := hide ((unhide HL).small xs[ps[i]] (List.getElem_mem hb))
        have HM2 := hide (hm.below ((Below.refl _ _).alloc (Nat.le_refl _) (.cells (qcells xs[ps[i]]).toArray 91)))
        have hsz := hm.bel.size
        clear hgr hm hgd
        generalize xs[ps[i]] = z at d0 d1 HPS HX HM2
        generalize ps[i] = q at hc0 hpi HPI HPS HMem hb hb' hb2 d0 d1
        go_wp2_with (at_builtin; refine wpList_append_own _ rfl _ _ 66 rfl w.heap.size 91 i0 _ 2 16 Tryz.underlying66 hi0 hz0 hz1 hz2 rfl (by decide) _ _ _ rfl (unhide HM2).own ⟨wr.heap.size, 0, none⟩ 1 1 (qcells z) rfl rfl (nnews_at rfl _ _) (one_qcells _) (by unfold maxLen; omega) (by omega) (by simp; omega) ?_)
        intro v' w4 hown4 hgr4 _
        have hm4 := (unhide HM2).more hown4 hgr4
        obtain ⟨g4, cp4, rfl⟩ := hm4.shape (by simp)
        have HM4 := hide hm4
        clear hown4 hgr4 hm4
        go_wp2_with fail
        go_roundg (ps.length - (i + 1))
        case measure => rw [unhide HK]; omega
        case rel => exact ⟨i + 1, ys ++ [z], g4, cp4, rfl, by omega, rfl, rfl, ⟨by rw [unhide HPS, ← (unhide HE).1], fun j hj => by
          rw [unhide HPI] at hj
          rcases List.mem_append.1 hj with hj | hj
          · exact (unhide HE).2.1 j hj
          · rw [List.mem_singleton.1 hj]; exact hb, allS_one (unhide HE).2.2 (unhide HX)⟩, unhide HM4⟩
      · have hb' : (xs.length : Int) ≤ (ps[i] : Int) := by omega
        have HR := hide (show pickE ps xs = .error 11 from if_neg (fun h => hb (by simpa using List.all_eq_true.1 h ps[i] (List.getElem_mem hlt))))
        clear hgr hm
        generalize ps[i] = q at hc0 hpi HPI HPS HMem hb hb'
        go_wp2_with fail
        exact bodyPost_ret (v := .tuple #[.slice none 0 0, .int .i64 11]) (by simp [results, Tryz.results174, go_sem]) rfl ⟨Or.inr ⟨11, unhide HR, by decide, rfl⟩, (unhide HM).bel⟩
    · have hlt' : ¬ (i : Int) < (ps.length : Int) := by omega
      have hie : i = ps.length := by omega
      have HR := hide (show pickE ps xs = .ok ys by
        have h2 := (unhide HE).2.1
        rw [hie, List.take_length] at h2
        have h1 := (unhide HE).1
        rw [hie, List.take_length] at h1
        rw [pickE, if_pos (List.all_eq_true.2 (fun j hj => by simpa using h2 j hj)), h1])
      clear hie
      go_wp2_with fail
      exact bodyPost_ret (v := .tuple #[.slice (some ⟨g', 0, none⟩) ys.length cp', .int .i64 0]) (by simp [results, Tryz.results174, go_sem]) rfl ⟨Or.inl ⟨ys, g', cp', unhide HR, (unhide HE).2.2, rfl, (unhide HM).own⟩, (unhide HM).bel⟩
end Go.Proofs.YtikiaijgcjjloaaGreatDoor

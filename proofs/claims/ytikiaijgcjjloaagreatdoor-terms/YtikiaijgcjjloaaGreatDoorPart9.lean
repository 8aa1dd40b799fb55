import Derived.Test.YtikiaijgcjjloaaGreatDoorPart2
import Derived.Test.YtikiaijgcjjloaaGreatDoorPart8
import Derived.Deep.LoopGhost

/- The program's terms in memory: what a block of one holds. -/
namespace Go.Proofs.YtikiaijgcjjloaaGreatDoor
open Go Go.RowKit M T Go.Lib

/-! ### Memory that is left alone but for one block -/
/-- All that was there is as it was, but for block rb. -/
structure But (rb : Nat) (w w' : World) : Prop where
  os : w'.os = w.os
  tape : w'.tape = w.tape
  output : w'.output = w.output
  size : w.heap.size ≤ w'.heap.size
  block : ∀ k, k < w.heap.size → k ≠ rb → w'.heap[k]? = w.heap[k]?
theorem But.refl (rb : Nat) (w : World) : But rb w w := ⟨rfl, rfl, rfl, Nat.le_refl _, fun _ _ _ => rfl⟩
theorem But.trans {rb : Nat} {a b c : World} (h : But rb a b) (k : But rb b c) : But rb a c :=
  ⟨k.os.trans h.os, k.tape.trans h.tape, k.output.trans h.output, Nat.le_trans h.size k.size, fun i hi hn => (k.block i (Nat.lt_of_lt_of_le hi h.size) hn).trans (h.block i hi hn)⟩
theorem But.of_below {rb : Nat} {w w' : World} (h : Below w.heap.size w w') : But rb w w' := ⟨h.os, h.tape, h.output, h.size, fun k hk _ => h.block k hk⟩
theorem But.drew {rb : Nat} {a w : World} (h : But rb a w) : But rb a w.drew := h.trans ⟨rfl, rfl, rfl, Nat.le_refl _, fun _ _ _ => rfl⟩
theorem But.drewN {rb : Nat} {a w : World} (h : But rb a w) (n : Nat) : But rb a (w.drewN n) := h.trans ⟨rfl, rfl, rfl, Nat.le_refl _, fun _ _ _ => rfl⟩
theorem But.alloc {rb : Nat} {a w : World} (h : But rb a w) (o : Obj) : But rb a (w.alloc o) := h.trans ⟨rfl, rfl, rfl, by simp, fun k hk _ => Below.heap_alloc _ _ _ hk⟩
theorem But.setCell {rb : Nat} {a w : World} (h : But rb a w) (o : Nat) (u : Value) : But rb a (w.setCell ⟨rb, o, none⟩ u) :=
  h.trans ⟨rfl, rfl, rfl, by simp [World.setCell], fun k _ hn => Below.heap_setCell _ _ _ _ (by simpa using hn)⟩
/-- A store into a block that was not there. -/
theorem But.setNew {rb : Nat} {a w : World} (h : But rb a w) {p : Addr} (hp : a.heap.size ≤ p.block) (u : Value) : But rb a (w.setCell p u) :=
  ⟨h.os, h.tape, h.output, by simpa [World.setCell] using h.size, fun k hk hn => (Below.heap_setCell _ _ _ _ (by omega)).trans (h.block k hk hn)⟩
theorem But.grown {rb : Nat} {a w w' : World} {row : Option Nat} (h : But rb a w) (hg : w.grownBy w' row) (hr : ∀ k, row = some k → a.heap.size ≤ k) : But rb a w' :=
  ⟨hg.os.trans h.os, hg.tape.trans h.tape, hg.output.trans h.output, Nat.le_trans h.size hg.size, fun k hk hn => (hg.block k (Nat.lt_of_lt_of_le hk h.size) (fun e => by have := hr k e.symm; omega)).trans (h.block k hk hn)⟩
theorem But.cell {rb : Nat} {w w' : World} (h : But rb w w') {p : Addr} (hp : p.block < w.heap.size) (hn : p.block ≠ rb) : w'.cell? p = w.cell? p := World.cell?_of_block (w := w) (h.block p.block hp hn)
theorem But.frozen {rb : Nat} {w w' : World} (h : But rb w w') {p : Addr} (hp : p.block < w.heap.size) (hn : p.block ≠ rb) : w'.frozen? p = w.frozen? p := World.frozen?_of_block (w := w) (h.block p.block hp hn)
/-- A block of one's own that is new: all that was there ahead of it is as it was. -/
theorem But.below {rb B : Nat} {w w' : World} (h : But rb w w') (hB : B ≤ w.heap.size) (hr : B ≤ rb) : Below B w w' := ⟨h.os, h.tape, h.output, h.size, fun k hk => h.block k (by omega) (by omega)⟩

/-! ### A block of cells -/
theorem blk_cell {w : World} {b : Nat} {c : Array Value} {t : TypeId} (h : w.heap[b]? = some (.cells c t (0, 0))) (i : Nat) : w.cell? ⟨b, i, none⟩ = c[i]? := by simp [World.cell?, h]
theorem blk_free {w : World} {b : Nat} {c : Array Value} {t : TypeId} (h : w.heap[b]? = some (.cells c t (0, 0))) (i : Nat) : w.frozen? ⟨b, i, none⟩ = false := by simp [World.frozen?, h]
theorem blk_set {w : World} {b : Nat} {c : Array Value} {t : TypeId} (h : w.heap[b]? = some (.cells c t (0, 0))) (i : Nat) (u : Value) : (w.setCell ⟨b, i, none⟩ u).heap[b]? = some (.cells (c.setIfInBounds i u) t (0, 0)) := by
  have hlt := lt_of_block h
  have h' : w.heap[b] = .cells c t (0, 0) := by simpa [Array.getElem?_eq_getElem hlt] using h
  show (w.heap.modify b _)[b]? = _
  rw [Array.getElem?_eq_getElem (by simpa using hlt), Array.getElem_modify_self, h']
  rfl

/-! ### Parts and terms -/
/-- The cells of a part. -/
structure PC where
  L : UInt8
  N : UInt8
  K : Int
  Tp : Int
  Bt : Int
  pa : Option Addr
  pn : Nat
  pc : Nat
  Bo : Option Nat
  Ov : Option Nat
def ptr (o : Option Nat) : Value := .pointer (o.map fun b => ⟨b, 0, none⟩)
def PC.cells (x : PC) : List Value := [.int .u8 (x.L.toNat : Int), .int .u8 (x.N.toNat : Int), .int .i64 x.K, .int .i64 x.Tp, .int .i64 x.Bt, .slice x.pa x.pn x.pc, ptr x.Bo, ptr x.Ov]
def PC.value (x : PC) : Value := .agg x.cells.toArray
theorem PC.cells_length (x : PC) : x.cells.length = 8 := rfl
def rowCells (xs : List PC) : List Value := (xs.map PC.cells).flatten
theorem rowCells_length (xs : List PC) : (rowCells xs).length = xs.length * 8 := by
  induction xs with
  | nil => rfl
  | cons x xs ih =>
    have : rowCells (x :: xs) = x.cells ++ rowCells xs := rfl
    rw [this, List.length_append, ih, PC.cells_length, List.length_cons]
    omega
/-- A part that is no bracket and no name. -/
def SpIs (Ok : Nat → Prop) (w : World) (x : PC) (y : Sp) : Prop :=
  x.L = y.first ∧ match y with
    | .plus c => x.Tp = c.num ∧ x.Bt = (c.den : Int)
    | .times c => x.Tp = c.num ∧ x.Bt = (c.den : Int)
    | .set c => x.Tp = c.num ∧ x.Bt = (c.den : Int)
    | .shift k => x.K = k
    | .take k => x.K = (k : Int)
    | .drop k => x.K = (k : Int)
    | .pick ps => w.ownsRow 0 3 1 (.slice x.pa x.pn x.pc) ps.length (ps.map fun i : Nat => Value.int .i64 (i : Int)) ∧ ∀ g, (Value.slice x.pa x.pn x.pc).ownBlock = some g → Ok g
    | _ => True
/-- What a block says of a term: its row of parts, and what is known of it. -/
structure Hd (Ok : Nat → Prop) (w : World) (b : Nat) (t : Tm) (sl : Value) (xs : List PC) : Prop where
  ok : Ok b
  blk : w.heap[b]? = some (.cells #[sl, .bool t.back, .bool t.picker, .bool t.plain] 75 (0, 0))
  row : w.ownsRow 0 148 8 sl xs.length (rowCells xs)
  rok : ∀ g, sl.ownBlock = some g → Ok g
mutual
def PtIs (Ok : Nat → Prop) (w : World) (x : PC) : Pt → Prop
  | .sp y => SpIs Ok w x y
  | .pow f k => x.L = 40 ∧ x.K = k ∧ ∃ b sl xs, x.Bo = some b ∧ Hd Ok w b f sl xs ∧ PsIs Ok w xs f
  | .under s g => x.L = 91 ∧ (∃ b sl xs, x.Bo = some b ∧ Hd Ok w b g sl xs ∧ PsIs Ok w xs g) ∧ ∃ b sl xs, x.Ov = some b ∧ Hd Ok w b s sl xs ∧ PsIs Ok w xs s
  | .name c t => x.L = 65 ∧ x.N = c ∧ ∃ b sl xs, x.Bo = some b ∧ Hd Ok w b t sl xs ∧ PsIs Ok w xs t
def PsIs (Ok : Nat → Prop) (w : World) (l : List PC) : Tm → Prop
  | .nil => l = []
  | .cons p t => ∃ x xs, l = x :: xs ∧ PtIs Ok w x p ∧ PsIs Ok w xs t
end
def TmIs (Ok : Nat → Prop) (w : World) (b : Nat) (t : Tm) : Prop := ∃ sl xs, Hd Ok w b t sl xs ∧ PsIs Ok w xs t

/-- The blocks that are asked of are as they were. -/
def Keeps (Ok : Nat → Prop) (w : World) (Ok' : Nat → Prop) (w' : World) : Prop := ∀ k, Ok k → k < w.heap.size → w'.heap[k]? = w.heap[k]? ∧ Ok' k
theorem owns_keeps {w w' : World} {e : TypeId} {size : Nat} {v : Value} {n : Nat} {xs : List Value} {Ok Ok' : Nat → Prop} (h : w.ownsRow 0 e size v n xs) (ho : ∀ g, v.ownBlock = some g → Ok g) (hk : Keeps Ok w Ok' w') : w'.ownsRow 0 e size v n xs ∧ ∀ g, v.ownBlock = some g → Ok' g := by
  refine ⟨⟨h.1, ?_⟩, fun g hg => (hk g (ho g hg) (h.lt g hg).2).2⟩
  rcases h.2 with h2 | ⟨g, cap, cur, hv, hb, hh, r⟩
  · exact Or.inl h2
  · have hg : v.ownBlock = some g := by rw [hv]; rfl
    exact Or.inr ⟨g, cap, cur, hv, hb, by rw [(hk g (ho g hg) (lt_of_block hh)).1]; exact hh, r⟩
theorem Hd.keeps {Ok Ok' : Nat → Prop} {w w' : World} {b : Nat} {t : Tm} {sl : Value} {xs : List PC} (h : Hd Ok w b t sl xs) (hk : Keeps Ok w Ok' w') : Hd Ok' w' b t sl xs := by
  obtain ⟨a, c⟩ := hk b h.ok (lt_of_block h.blk)
  obtain ⟨d, e⟩ := owns_keeps h.row h.rok hk
  exact ⟨c, by rw [a]; exact h.blk, d, e⟩
theorem SpIs.keeps {Ok Ok' : Nat → Prop} {w w' : World} {x : PC} {y : Sp} (h : SpIs Ok w x y) (hk : Keeps Ok w Ok' w') : SpIs Ok' w' x y := by
  refine ⟨h.1, ?_⟩
  have h2 := h.2
  cases y <;> first
    | exact owns_keeps h2.1 h2.2 hk
    | exact h2
mutual
theorem PtIs.keeps {Ok Ok' : Nat → Prop} {w w' : World} (hk : Keeps Ok w Ok' w') : ∀ (p : Pt) (x : PC), PtIs Ok w x p → PtIs Ok' w' x p
  | .sp y, x, h => by rw [PtIs] at h ⊢; exact h.keeps hk
  | .pow f k, x, h => by
    rw [PtIs] at h ⊢
    obtain ⟨h1, h2, b, sl, xs, h3, h4, h5⟩ := h
    exact ⟨h1, h2, b, sl, xs, h3, h4.keeps hk, PsIs.keeps hk f xs h5⟩
  | .under s g, x, h => by
    rw [PtIs] at h ⊢
    obtain ⟨h1, ⟨b, sl, xs, h3, h4, h5⟩, b', sl', xs', h3', h4', h5'⟩ := h
    exact ⟨h1, ⟨b, sl, xs, h3, h4.keeps hk, PsIs.keeps hk g xs h5⟩, b', sl', xs', h3', h4'.keeps hk, PsIs.keeps hk s xs' h5'⟩
  | .name c t, x, h => by
    rw [PtIs] at h ⊢
    obtain ⟨h1, h2, b, sl, xs, h3, h4, h5⟩ := h
    exact ⟨h1, h2, b, sl, xs, h3, h4.keeps hk, PsIs.keeps hk t xs h5⟩
theorem PsIs.keeps {Ok Ok' : Nat → Prop} {w w' : World} (hk : Keeps Ok w Ok' w') : ∀ (t : Tm) (l : List PC), PsIs Ok w l t → PsIs Ok' w' l t
  | .nil, l, h => by rw [PsIs] at h ⊢; exact h
  | .cons p t, l, h => by
    rw [PsIs] at h ⊢
    obtain ⟨x, xs, h1, h2, h3⟩ := h
    exact ⟨x, xs, h1, PtIs.keeps hk p x h2, PsIs.keeps hk t xs h3⟩
end
theorem TmIs.keeps {Ok Ok' : Nat → Prop} {w w' : World} {b : Nat} {t : Tm} (h : TmIs Ok w b t) (hk : Keeps Ok w Ok' w') : TmIs Ok' w' b t := by
  obtain ⟨sl, xs, h1, h2⟩ := h
  exact ⟨sl, xs, h1.keeps hk, PsIs.keeps hk t xs h2⟩
theorem PtIs.pow_iff {Ok : Nat → Prop} {w : World} {x : PC} {f : Tm} {k : Int} : PtIs Ok w x (.pow f k) ↔ x.L = 40 ∧ x.K = k ∧ ∃ b, x.Bo = some b ∧ TmIs Ok w b f := by
  rw [PtIs]
  constructor
  · rintro ⟨h1, h2, b, sl, xs, h3, h4, h5⟩; exact ⟨h1, h2, b, h3, sl, xs, h4, h5⟩
  · rintro ⟨h1, h2, b, h3, sl, xs, h4, h5⟩; exact ⟨h1, h2, b, sl, xs, h3, h4, h5⟩
theorem PtIs.under_iff {Ok : Nat → Prop} {w : World} {x : PC} {s g : Tm} : PtIs Ok w x (.under s g) ↔ x.L = 91 ∧ (∃ b, x.Bo = some b ∧ TmIs Ok w b g) ∧ ∃ b, x.Ov = some b ∧ TmIs Ok w b s := by
  rw [PtIs]
  constructor
  · rintro ⟨h1, ⟨b, sl, xs, h3, h4, h5⟩, b', sl', xs', h3', h4', h5'⟩; exact ⟨h1, ⟨b, h3, sl, xs, h4, h5⟩, b', h3', sl', xs', h4', h5'⟩
  · rintro ⟨h1, ⟨b, h3, sl, xs, h4, h5⟩, b', h3', sl', xs', h4', h5'⟩; exact ⟨h1, ⟨b, sl, xs, h3, h4, h5⟩, b', sl', xs', h3', h4', h5'⟩
theorem PtIs.name_iff {Ok : Nat → Prop} {w : World} {x : PC} {c : UInt8} {t : Tm} : PtIs Ok w x (.name c t) ↔ x.L = 65 ∧ x.N = c ∧ ∃ b, x.Bo = some b ∧ TmIs Ok w b t := by
  rw [PtIs]
  constructor
  · rintro ⟨h1, h2, b, sl, xs, h3, h4, h5⟩; exact ⟨h1, h2, b, h3, sl, xs, h4, h5⟩
  · rintro ⟨h1, h2, b, h3, sl, xs, h4, h5⟩; exact ⟨h1, h2, b, sl, xs, h3, h4, h5⟩
/-- The parts of a term, by a list. -/
theorem PsIs.of_snoc {Ok : Nat → Prop} {w : World} : ∀ (ps : List Pt) (xs : List PC) (p : Pt) (x : PC), PsIs Ok w xs (Tm.of ps) → PtIs Ok w x p → PsIs Ok w (xs ++ [x]) (Tm.of (ps ++ [p]))
  | [], xs, p, x, h, hp => by
    rw [Tm.of, PsIs] at h
    subst h
    rw [List.nil_append, List.nil_append, Tm.of, Tm.of, PsIs]
    exact ⟨x, [], rfl, hp, by rw [PsIs]⟩
  | q :: ps, xs, p, x, h, hp => by
    rw [Tm.of, PsIs] at h
    obtain ⟨y, ys, rfl, h1, h2⟩ := h
    rw [List.cons_append, List.cons_append, Tm.of, PsIs]
    exact ⟨y, ys ++ [x], rfl, h1, PsIs.of_snoc ps ys p x h2 hp⟩
theorem PsIs.length {Ok : Nat → Prop} {w : World} : ∀ (ps : List Pt) (xs : List PC), PsIs Ok w xs (Tm.of ps) → xs.length = ps.length
  | [], xs, h => by rw [Tm.of, PsIs] at h; subst h; rfl
  | q :: ps, xs, h => by
    rw [Tm.of, PsIs] at h
    obtain ⟨y, ys, rfl, _, h2⟩ := h
    rw [List.length_cons, List.length_cons, PsIs.length ps ys h2]
theorem of_facts (ps : List Pt) (p : Pt) : (Tm.of (ps ++ [p])).back = ((Tm.of ps).back && p.back) ∧ (Tm.of (ps ++ [p])).picker = ((Tm.of ps).picker && p.picker) ∧ (Tm.of (ps ++ [p])).plain = ((Tm.of ps).plain && p.plain) := by
  induction ps with
  | nil => simp [Tm.of, Tm.back, Tm.picker, Tm.plain]
  | cons q ps ih =>
    rw [List.cons_append, Tm.of, Tm.of, Tm.back, Tm.back, Tm.picker, Tm.picker, Tm.plain, Tm.plain, ih.1, ih.2.1, ih.2.2]
    simp [Bool.and_assoc]
end Go.Proofs.YtikiaijgcjjloaaGreatDoor

/- The program's reader in memory. -/
namespace Go.Proofs.YtikiaijgcjjloaaGreatDoor
open Go Go.RowKit M T Go.Lib

def rcells (s : ByteArray) (nm : Nat → Option Nat) (a : Nat) (u : Bool) : Array Value :=
  #[.string s, .int .i64 (a : Int), ptr (nm 0), ptr (nm 1), ptr (nm 2), ptr (nm 3), ptr (nm 4), ptr (nm 5), ptr (nm 6), ptr (nm 7), ptr (nm 8), ptr (nm 9), ptr (nm 10), ptr (nm 11), ptr (nm 12), ptr (nm 13), ptr (nm 14), ptr (nm 15), ptr (nm 16), ptr (nm 17), ptr (nm 18), ptr (nm 19), ptr (nm 20), ptr (nm 21), ptr (nm 22), ptr (nm 23), ptr (nm 24), ptr (nm 25), .bool u]
theorem rcells_at (s : ByteArray) (nm : Nat → Option Nat) (a a' : Nat) (u : Bool) : (rcells s nm a u).setIfInBounds 1 (.int .i64 (a' : Int)) = rcells s nm a' u := rfl
theorem rcells_unk (s : ByteArray) (nm : Nat → Option Nat) (a : Nat) (u u' : Bool) : (rcells s nm a u).setIfInBounds 28 (.bool u') = rcells s nm a u' := rfl
theorem rcells_nm (s : ByteArray) (nm : Nat → Option Nat) (a : Nat) (u : Bool) : ∀ i, i < 26 → (rcells s nm a u)[i + 2]? = some (ptr (nm i))
  | 0, _ => rfl | 1, _ => rfl | 2, _ => rfl | 3, _ => rfl | 4, _ => rfl | 5, _ => rfl | 6, _ => rfl | 7, _ => rfl | 8, _ => rfl | 9, _ => rfl | 10, _ => rfl | 11, _ => rfl | 12, _ => rfl
  | 13, _ => rfl | 14, _ => rfl | 15, _ => rfl | 16, _ => rfl | 17, _ => rfl | 18, _ => rfl | 19, _ => rfl | 20, _ => rfl | 21, _ => rfl | 22, _ => rfl | 23, _ => rfl | 24, _ => rfl | 25, _ => rfl
  | n + 26, h => by omega
/-- The reader's block. -/
structure RS (rb : Nat) (s : ByteArray) (nm : Nat → Option Nat) (a : Nat) (u : Bool) (w : World) : Prop where
  blk : w.heap[rb]? = some (.cells (rcells s nm a u) 99 (0, 0))
theorem RS.text {rb : Nat} {s : ByteArray} {nm : Nat → Option Nat} {a : Nat} {u : Bool} {w : World} (h : RS rb s nm a u w) : w.cell? ⟨rb, 0, none⟩ = some (.string s) := by rw [blk_cell h.blk]; rfl
theorem RS.pos {rb : Nat} {s : ByteArray} {nm : Nat → Option Nat} {a : Nat} {u : Bool} {w : World} (h : RS rb s nm a u w) : w.cell? ⟨rb, 1, none⟩ = some (.int .i64 (a : Int)) := by rw [blk_cell h.blk]; rfl
theorem RS.unk {rb : Nat} {s : ByteArray} {nm : Nat → Option Nat} {a : Nat} {u : Bool} {w : World} (h : RS rb s nm a u w) : w.cell? ⟨rb, 28, none⟩ = some (.bool u) := by rw [blk_cell h.blk]; rfl
theorem RS.name {rb : Nat} {s : ByteArray} {nm : Nat → Option Nat} {a : Nat} {u : Bool} {w : World} (h : RS rb s nm a u w) {i : Nat} (hi : i < 26) : w.cell? ⟨rb, i + 2, none⟩ = some (ptr (nm i)) := by rw [blk_cell h.blk]; exact rcells_nm s nm a u i hi
theorem RS.free {rb : Nat} {s : ByteArray} {nm : Nat → Option Nat} {a : Nat} {u : Bool} {w : World} (h : RS rb s nm a u w) (i : Nat) : w.frozen? ⟨rb, i, none⟩ = false := blk_free h.blk i
theorem RS.lt {rb : Nat} {s : ByteArray} {nm : Nat → Option Nat} {a : Nat} {u : Bool} {w : World} (h : RS rb s nm a u w) : rb < w.heap.size := lt_of_block h.blk
theorem RS.setAt {rb : Nat} {s : ByteArray} {nm : Nat → Option Nat} {a : Nat} {u : Bool} {w : World} (h : RS rb s nm a u w) {z : Int} (a' : Nat) (hz : z = (a' : Int)) : RS rb s nm a' u (w.setCell ⟨rb, 1, none⟩ (.int .i64 z)) := by
  subst hz
  exact ⟨by rw [blk_set h.blk, rcells_at]⟩
theorem RS.setUnk {rb : Nat} {s : ByteArray} {nm : Nat → Option Nat} {a : Nat} {u : Bool} {w : World} (h : RS rb s nm a u w) (u' : Bool) : RS rb s nm a u' (w.setCell ⟨rb, 28, none⟩ (.bool u')) :=
  ⟨by rw [blk_set h.blk, rcells_unk]⟩
theorem RS.kept {rb : Nat} {s : ByteArray} {nm : Nat → Option Nat} {a : Nat} {u : Bool} {w w' : World} (h : RS rb s nm a u w) (hb : Below w.heap.size w w') : RS rb s nm a u w' := ⟨by rw [hb.block rb h.lt]; exact h.blk⟩
theorem RS.alloc {rb : Nat} {s : ByteArray} {nm : Nat → Option Nat} {a : Nat} {u : Bool} {w : World} (h : RS rb s nm a u w) (o : Obj) : RS rb s nm a u (w.alloc o) := h.kept ((Below.refl _ _).alloc (Nat.le_refl _) o)
theorem RS.drewN {rb : Nat} {s : ByteArray} {nm : Nat → Option Nat} {a : Nat} {u : Bool} {w : World} (h : RS rb s nm a u w) (n : Nat) : RS rb s nm a u (w.drewN n) := ⟨h.blk⟩
theorem RS.drew {rb : Nat} {s : ByteArray} {nm : Nat → Option Nat} {a : Nat} {u : Bool} {w : World} (h : RS rb s nm a u w) : RS rb s nm a u w.drew := ⟨h.blk⟩

/-! ### What is left of the text -/
def rest (s : ByteArray) (a : Nat) : List UInt8 := s.data.toList.drop a
theorem rest_lt {s : ByteArray} {a : Nat} (h : a < s.size) : rest s a = s[a] :: rest s (a + 1) := by
  unfold rest
  have h' : a < s.data.toList.length := by simpa using h
  rw [List.drop_eq_getElem_cons h']
  rfl
theorem rest_ge {s : ByteArray} {a : Nat} (h : s.size ≤ a) : rest s a = [] := by
  unfold rest
  exact List.drop_eq_nil_of_le (by simpa using h)
theorem rest_add (s : ByteArray) (a b : Nat) : rest s (a + b) = (rest s a).drop b := by
  unfold rest
  rw [List.drop_drop]
theorem rest_len (s : ByteArray) (a : Nat) : (rest s a).length = s.size - a := by
  unfold rest
  rw [List.length_drop]
  rfl

theorem bne_f {x y : UInt8} (h : x = y) : ((x.toNat : Int) != (y.toNat : Int)) = false := by rw [h]; simp
theorem bne_t {x y : UInt8} (h : x ≠ y) : ((x.toNat : Int) != (y.toNat : Int)) = true := by
  rw [bne_iff_ne]
  intro e
  exact h (UInt8.toNat_inj.1 (by omega))

set_option maxRecDepth 100000 in
set_option maxHeartbeats 400000 in
theorem pass_any {rb : Nat} {s : ByteArray} {nm : Nat → Option Nat} {a : Nat} {u : Bool} (c : UInt8) (w : World) (h : RS rb s nm a u w) (ha : a ≤ s.size) (hs : s.size ≤ 120) :
    Calls Tryz.prog 155 #[.pointer (some ⟨rb, 0, none⟩), .int .u8 (c.toNat : Int)] w fun e w' => But rb w w' ∧ (((∃ l, rest s a = c :: l) ∧ a + 1 ≤ s.size ∧ e = .returned (.bool true) ∧ RS rb s nm (a + 1) u w') ∨ ((rest s a).head? ≠ some c ∧ e = .returned (.bool false) ∧ RS rb s nm a u w')) := by
  have hT := h.text
  have hA := h.pos
  have hF := h.free 1
  have H := hide h
  clear h
  by_cases h1 : a < s.size
  · have hd : decide ((s.size : Int) ≤ (a : Int)) = false := by simp; omega
    have hd' : ¬ s.size ≤ a := by omega
    have HR := hide (rest_lt h1)
    by_cases h2 : s[a] = c
    · have h3 := bne_f h2
      have H2 := hide h2
      clear h2
      go_enter Tryz.func155, Tryz.ntmps155
      go_wp2_with fail
      go_quiet (fail)
      go_wp2_with fail
      go_ret
      exact ⟨((But.refl _ _).setCell _ _).drewN _, Or.inl ⟨⟨_, by rw [unhide HR, unhide H2]⟩, by omega, rfl, ((unhide H).setAt (a + 1) (by omega)).drewN _⟩⟩
    · have h3 := bne_t h2
      have H2 := hide h2
      clear h2
      go_enter Tryz.func155, Tryz.ntmps155
      go_wp2_with fail
      go_quiet (fail)
      go_wp2_with fail
      go_ret
      exact ⟨(But.refl _ _).drewN _, Or.inr ⟨by rw [unhide HR]; intro e; cases e; exact unhide H2 rfl, rfl, (unhide H).drewN _⟩⟩
  · have hd : decide ((s.size : Int) ≤ (a : Int)) = true := by simp; omega
    have hd' : s.size ≤ a := by omega
    have HR := hide (rest_ge hd')
    go_enter Tryz.func155, Tryz.ntmps155
    go_wp2_with fail
    go_quiet (fail)
    go_wp2_with fail
    go_ret
    exact ⟨(But.refl _ _).drewN _, Or.inr ⟨by rw [unhide HR]; exact (fun e => by cases e), rfl, (unhide H).drewN _⟩⟩
end Go.Proofs.YtikiaijgcjjloaaGreatDoor

/- The walks: the program's reader: digits, whole numbers. -/
namespace Go.Proofs.YtikiaijgcjjloaaGreatDoor
open Go Go.RowKit M T Go.Lib

/-- How many digits stand at a place. -/
def nd (s : ByteArray) (a : Nat) : Nat := ((rest s a).takeWhile isDig).length
theorem nd_step {s : ByteArray} {a : Nat} (h : a < s.size) (hd : isDig s[a] = true) : nd s a = nd s (a + 1) + 1 := by
  unfold nd
  rw [rest_lt h, List.takeWhile_cons, if_pos hd, List.length_cons]
theorem nd_stop {s : ByteArray} {a : Nat} (h : a < s.size) (hd : isDig s[a] = false) : nd s a = 0 := by
  unfold nd
  rw [rest_lt h, List.takeWhile_cons, if_neg (by rw [hd]; simp)]
  rfl
theorem nd_end {s : ByteArray} {a : Nat} (h : ¬ a < s.size) : nd s a = 0 := by
  unfold nd
  rw [rest_ge (by omega)]
  rfl
theorem nd_le {s : ByteArray} {a : Nat} (h : a ≤ s.size) : a + nd s a ≤ s.size := by
  have h1 : nd s a ≤ (rest s a).length := (List.takeWhile_sublist isDig).length_le
  rw [rest_len] at h1
  omega
theorem rest_nd (s : ByteArray) (a : Nat) : rest s (a + nd s a) = (rest s a).dropWhile isDig := by
  rw [rest_add]
  unfold nd
  have h := List.takeWhile_append_dropWhile (p := isDig) (l := rest s a)
  generalize (rest s a).takeWhile isDig = x at h
  generalize (rest s a).dropWhile isDig = y at h
  rw [← h]
  simp

set_option maxRecDepth 100000 in
set_option maxHeartbeats 600000 in
theorem passDigits_any {rb : Nat} {s : ByteArray} {nm : Nat → Option Nat} {a : Nat} {u : Bool} (w : World) (h : RS rb s nm a u w) (ha : a ≤ s.size) (hs : s.size ≤ 120) :
    Calls Tryz.prog 156 #[.pointer (some ⟨rb, 0, none⟩)] w fun e w' => But rb w w' ∧ e = .returned (.tuple #[]) ∧ RS rb s nm (a + nd s a) u w' := by
  go_enter Tryz.func156, Tryz.ntmps156
  go_wp2_with fail
  go_loopg [] (nd s a) (fun k wr => ∃ b, k = nd s b ∧ a + nd s a = b + nd s b ∧ b ≤ s.size ∧ RS rb s nm b u wr ∧ But rb w wr)
  case atStart => exact ⟨a, rfl, rfl, ha, h, But.refl _ _⟩
  case round =>
    obtain ⟨b, hk, he, hb, hr, hbut⟩ := hrel
    have hT := hr.text
    have hA := hr.pos
    have hF := hr.free 1
    have HK := hide hk
    have HE := hide he
    have H := hide hr
    have HB := hide hbut
    clear hk he hr hbut h
    by_cases h1 : b < s.size
    · have hd : decide ((b : Int) < (s.size : Int)) = true := by simp; omega
      by_cases h2 : 48 ≤ s[b].toNat
      · have h2d : decide ((48 : Int) ≤ (s[b].toNat : Int)) = true := by simp; omega
        by_cases h3 : s[b].toNat ≤ 57
        · have h3d : decide ((s[b].toNat : Int) ≤ 57) = true := by simp; omega
          have HN := hide (nd_step h1 ((isDig_iff _).2 ⟨h2, h3⟩))
          go_wp2_with fail
          go_quiet (fail)
          go_wp2_with fail
          go_roundg (nd s (b + 1))
          case measure => rw [unhide HK, unhide HN]; omega
          case rel => exact ⟨b + 1, rfl, by have := unhide HE; have := unhide HN; omega, by omega, ((unhide H).drewN _).setAt (b + 1) (by omega), ((unhide HB).drewN _).setCell _ _⟩
        · have h3d : decide ((s[b].toNat : Int) ≤ 57) = false := by simp; omega
          have h3n : ¬ s[b].toNat ≤ 57 := h3
          have HN := hide (nd_stop h1 ((isDig_not _).2 (by omega)))
          go_wp2_with fail
          go_quiet (fail)
          go_wp2_with fail
          go_end0
          exact ⟨(unhide HB).drewN _, rfl, by have e : a + nd s a = b := by { have := unhide HE; have := unhide HN; omega }; rw [e]; exact (unhide H).drewN _⟩
      · have h2d : decide ((48 : Int) ≤ (s[b].toNat : Int)) = false := by simp; omega
        have h2n : ¬ 48 ≤ s[b].toNat := h2
        have HN := hide (nd_stop h1 ((isDig_not _).2 (by omega)))
        go_wp2_with fail
        go_quiet (fail)
        go_wp2_with fail
        go_end0
        exact ⟨(unhide HB).drewN _, rfl, by have e : a + nd s a = b := by { have := unhide HE; have := unhide HN; omega }; rw [e]; exact (unhide H).drewN _⟩
    · have hd : decide ((b : Int) < (s.size : Int)) = false := by simp; omega
      have hd' : ¬ b < s.size := h1
      have HN := hide (nd_end h1)
      go_wp2_with fail
      go_quiet (fail)
      go_wp2_with fail
      go_end0
      exact ⟨(unhide HB).drewN _, rfl, by have e : a + nd s a = b := by { have := unhide HE; have := unhide HN; omega }; rw [e]; exact (unhide H).drewN _⟩

/-- How far a whole number might go. -/
def nw (s : ByteArray) (a : Nat) : Nat := (spanW (rest s a)).1.length
theorem rest_nw (s : ByteArray) (a : Nat) : rest s (a + nw s a) = (spanW (rest s a)).2 := by
  rw [rest_add]
  unfold nw
  have h := spanW_app (rest s a)
  generalize (spanW (rest s a)).1 = x at h
  generalize (spanW (rest s a)).2 = y at h
  rw [← h]
  simp
theorem nw_le {s : ByteArray} {a : Nat} (h : a ≤ s.size) : a + nw s a ≤ s.size := by
  have h1 := congrArg List.length (spanW_app (rest s a))
  rw [List.length_append, rest_len] at h1
  unfold nw
  omega
theorem nw_minus {s : ByteArray} {a : Nat} {l : List UInt8} (h : rest s a = 45 :: l) : nw s a = 1 + nd s (a + 1) := by
  have e : rest s (a + 1) = l := by rw [rest_add, h]; rfl
  unfold nw spanW nd
  rw [h, e]
  simp
  omega
theorem nw_plain {s : ByteArray} {a : Nat} (h : (rest s a).head? ≠ some 45) : nw s a = nd s a := by
  unfold nw spanW nd
  rw [if_neg h]

set_option maxRecDepth 100000 in
set_option maxHeartbeats 600000 in
theorem passWhole_any {rb : Nat} {s : ByteArray} {nm : Nat → Option Nat} {a : Nat} {u : Bool} (w : World) (h : RS rb s nm a u w) (ha : a ≤ s.size) (hs : s.size ≤ 120) :
    Calls Tryz.prog 154 #[.pointer (some ⟨rb, 0, none⟩)] w fun e w' => But rb w w' ∧ e = .returned (.tuple #[]) ∧ RS rb s nm (a + nw s a) u w' := by
  go_enter Tryz.func154, Tryz.ntmps154
  go_wp2_with fail
  refine (pass_any 45 _ h ha hs).mono ?_
  rintro e w1 ⟨hb1, ⟨⟨l, hl⟩, ha1, rfl, h1⟩ | ⟨hl, rfl, h1⟩⟩
  · have HL := hide (nw_minus hl)
    clear hl
    go_wp2_with fail
    refine (passDigits_any _ h1 ha1 hs).mono ?_
    rintro e w2 ⟨hb2, rfl, h2⟩
    go_wp2_with fail
    go_end0
    exact ⟨hb1.trans hb2, rfl, by rw [unhide HL, ← Nat.add_assoc]; exact h2⟩
  · have HL := hide (nw_plain hl)
    clear hl
    go_wp2_with fail
    refine (passDigits_any _ h1 ha hs).mono ?_
    rintro e w2 ⟨hb2, rfl, h2⟩
    go_wp2_with fail
    go_end0
    exact ⟨hb1.trans hb2, rfl, by rw [unhide HL]; exact h2⟩
end Go.Proofs.YtikiaijgcjjloaaGreatDoor

/- The walk of the document's reading of a number. -/
import Derived.Test.YtikiaijgcjjloaaDoorRead2
import Derived.Deep.RegionWith
namespace Go.Proofs.YtikiaijgcjjloaaDoor
open Go Go.RowKit M Go.Lib

def RReadSays (s : ByteArray) (e : Ending) : Prop :=
  (∃ t b, IsNum s.data.toList t b ∧ e = .returned (.tuple #[.agg #[.int .i64 t, .int .i64 b], .bool true])) ∨ ((∀ t b, ¬ IsNum s.data.toList t b) ∧ ∃ p q, e = .returned (.tuple #[.agg #[.int .i64 p, .int .i64 q], .bool false]))

theorem ext_list (s : ByteArray) (a b : Nat) : (s.extract a b).data.toList = (s.data.toList.drop a).take (b - a) := by
  simp [List.extract]
theorem ext_size (s : ByteArray) (a b : Nat) : (s.extract a b).size ≤ s.size := by
  rw [ByteArray.size_extract]; omega

theorem all_notSlash (s : ByteArray) (f i : Nat) (hi : i ≤ s.size) (hno : ∀ j (h : j < s.size), f ≤ j → j < i → s[j].toNat ≠ 47) : ∀ c ∈ (s.data.toList.drop f).take (i - f), notSlash c = true := by
  intro c hc
  obtain ⟨k, hk, rfl⟩ := List.mem_iff_getElem.1 hc
  simp only [List.length_take, List.length_drop, len_size] at hk
  rw [List.getElem_take, List.getElem_drop]
  unfold notSlash
  rw [bne_iff_ne]
  intro e
  have := hno (f + k) (by omega) (by omega) (by omega)
  apply this
  have e2 : s[f + k] = 47 := e
  rw [e2]; rfl
theorem slash_at (s : ByteArray) (n : Bool) (i : Nat) (hn : neg s.data.toList = n) (hi : i < s.size) (hf : (if n then 1 else 0) ≤ i) (hc : s[i].toNat = 47) (hno : ∀ j (h : j < s.size), (if n then 1 else 0) ≤ j → j < i → s[j].toNat ≠ 47) :
    valueOf (s.extract (if n then 1 else 0) i).data.toList = refP s.data.toList ∧ valueOf (s.extract (i + 1) s.size).data.toList = refQ s.data.toList := by
  have hb := body_eq s n hn
  generalize (if n then 1 else 0) = f at *
  have h1 : body s.data.toList = (s.data.toList.drop f).take (i - f) ++ (47 :: s.data.toList.drop (i + 1)) := by
    rw [← hb]
    conv => lhs; rw [← List.take_append_drop (i - f) (s.data.toList.drop f)]
    rw [List.drop_drop, show f + (i - f) = i by omega, drop_at s i hi, show s[i] = 47 from UInt8.toNat_inj.1 hc]
  have h2 := all_notSlash s f i (by omega) hno
  unfold refP refQ
  rw [h1, List.takeWhile_append_of_pos h2, List.dropWhile_append_of_pos h2, ext_list, ext_list]
  simp [notSlash]
  congr 1
  rw [List.take_of_length_le (by simp)]
theorem slash_none (s : ByteArray) (n : Bool) (hn : neg s.data.toList = n) (hno : ∀ j (h : j < s.size), (if n then 1 else 0) ≤ j → j < s.size → s[j].toNat ≠ 47) :
    valueOf (s.extract (if n then 1 else 0) s.size).data.toList = refP s.data.toList ∧ refQ s.data.toList = 1 := by
  have hb := body_eq s n hn
  generalize (if n then 1 else 0) = f at *
  have h1 : body s.data.toList = (s.data.toList.drop f).take (s.size - f) ++ [] := by
    rw [← hb, List.take_of_length_le (by simp)]; simp
  have h2 := all_notSlash s f s.size (by omega) hno
  unfold refP refQ
  rw [h1, List.takeWhile_append_of_pos h2, List.dropWhile_append_of_pos h2, ext_list]
  simp

theorem beq_text (l : List UInt8) (s : ByteArray) : (l == s.toList) = true ↔ l = s.data.toList := by
  rw [beq_iff_eq, ByteArray.toList_eq]
theorem refQ_bd (l : List UInt8) : -1 ≤ refQ l ∧ refQ l ≤ 9999999999 := by
  unfold refQ
  split
  · omega
  · exact valueOf_bd _
theorem rr_bad (l : List UInt8) (h : refP l < 0 ∨ refQ l < 1) : ∀ t b, ¬ IsNum l t b := fun t b hn => by
  have := hn.refOk.1.1
  have := hn.refOk.1.2.1
  omega
theorem rr_nofit (l : List UInt8) (h : fitsB (refT l) (refQ l) = false) : ∀ t b, ¬ IsNum l t b := fun t b hn => by
  have := hn.refOk.1.2.2.1
  rw [h] at this; cases this
theorem rr_no (l : List UInt8) (h : numText (lowP (refT l) (refQ l)) (lowQ (refT l) (refQ l)) ≠ l) : ∀ t b, ¬ IsNum l t b := fun _ _ hn => h hn.refOk.1.2.2.2

theorem two_cells {w w1 w2 : World} {T : TypeId} {x y : Value} {o : Obj} (hb : Below (w.alloc (.cells #[x, y] T)).heap.size (w.alloc (.cells #[x, y] T)) w1) (hb2 : Below (w1.alloc o).drew.heap.size (w1.alloc o).drew w2) :
    w2.cell? ⟨w.heap.size, 0, none⟩ = some x ∧ w2.cell? ⟨w.heap.size, 1, none⟩ = some y ∧ Below w.heap.size w w2 := by
  have hz : w.heap.size + 1 ≤ w1.heap.size := by have := hb.size; simpa using this
  have b1 : Below w1.heap.size w1 (w1.alloc o).drew := ((Below.refl _ _).alloc (Nat.le_refl _) _).drew
  have b2 : Below w1.heap.size w1 w2 := b1.trans (hb2.mono (by simp))
  have b3 : Below (w.alloc (.cells #[x, y] T)).heap.size (w.alloc (.cells #[x, y] T)) w2 := hb.trans (b2.mono (by simpa using hz))
  refine ⟨?_, ?_, ((Below.refl _ _).alloc (Nat.le_refl _) _).trans (b3.mono (by simp))⟩
  · rw [b3.cell (p := ⟨w.heap.size, 0, none⟩) (by simp)]; simp [go_sem]
  · rw [b3.cell (p := ⟨w.heap.size, 1, none⟩) (by simp)]; simp [go_sem]

theorem three_cells {w w1 : World} {T : TypeId} {x y : Value} (hb : Below (w.alloc (.cells #[x, y] T)).heap.size (w.alloc (.cells #[x, y] T)) w1) (x' y' : Value) (o : Obj) :
    (((w1.setCell ⟨w.heap.size, 0, none⟩ x').setCell ⟨w.heap.size, 1, none⟩ y').alloc o).cell? ⟨w.heap.size, 0, none⟩ = some x' ∧ (((w1.setCell ⟨w.heap.size, 0, none⟩ x').setCell ⟨w.heap.size, 1, none⟩ y').alloc o).cell? ⟨w.heap.size, 1, none⟩ = some y' ∧ Below w.heap.size w (((w1.setCell ⟨w.heap.size, 0, none⟩ x').setCell ⟨w.heap.size, 1, none⟩ y').alloc o) := by
  have hz : w.heap.size + 1 ≤ w1.heap.size := by have := hb.size; simpa using this
  have c0 : w1.cell? ⟨w.heap.size, 0, none⟩ = some x := by rw [hb.cell (p := ⟨w.heap.size, 0, none⟩) (by simp)]; simp [go_sem]
  have c1 : w1.cell? ⟨w.heap.size, 1, none⟩ = some y := by rw [hb.cell (p := ⟨w.heap.size, 1, none⟩) (by simp)]; simp [go_sem]
  have b0 : Below w.heap.size w w1 := ((Below.refl _ _).alloc (Nat.le_refl _) _).trans (hb.mono (by simp))
  have hs : ((w1.setCell ⟨w.heap.size, 0, none⟩ x').setCell ⟨w.heap.size, 1, none⟩ y').heap.size = w1.heap.size := by simp
  have b1 : Below ((w1.setCell ⟨w.heap.size, 0, none⟩ x').setCell ⟨w.heap.size, 1, none⟩ y').heap.size ((w1.setCell ⟨w.heap.size, 0, none⟩ x').setCell ⟨w.heap.size, 1, none⟩ y') (((w1.setCell ⟨w.heap.size, 0, none⟩ x').setCell ⟨w.heap.size, 1, none⟩ y').alloc o) := (Below.refl _ _).alloc (Nat.le_refl _) _
  refine ⟨?_, ?_, ((b0.setCell (by simp) _).setCell (by simp) _).trans (b1.mono (by rw [hs]; omega))⟩
  · rw [b1.cell (p := ⟨w.heap.size, 0, none⟩) (by rw [hs]; show w.heap.size < _; omega)]; simp [go_sem, c0]
  · rw [b1.cell (p := ⟨w.heap.size, 1, none⟩) (by rw [hs]; show w.heap.size < _; omega)]; simp [go_sem, c1]

theorem Low_int (p q : Int) (w : World) (h1 : -4000000000000000000 ≤ p) (h2 : p ≤ 4000000000000000000) (h3 : 1 ≤ q) (h4 : q ≤ 4000000000000000000) :
    Calls Tryd.prog 47 #[.int .i64 p, .int .i64 q] w fun e w' => ((fitsB p q = true ∧ e = .returned (.tuple #[.agg #[.int .i64 (lowP p q), .int .i64 (lowQ p q)], .int .i64 0])) ∨ (fitsB p q = false ∧ e = .returned (.tuple #[.agg #[.int .i64 0, .int .i64 1], .int .i64 3]))) ∧ Below w.heap.size w w' := by
  obtain ⟨b, rfl⟩ := Int.eq_ofNat_of_zero_le (show 0 ≤ q by omega)
  exact Low_any p b w h1 h2 (by omega) (by omega)
end Go.Proofs.YtikiaijgcjjloaaDoor

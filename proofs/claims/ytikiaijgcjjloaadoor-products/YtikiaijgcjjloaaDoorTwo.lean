/- The walks: two texts read, the program's and the document's. -/
import Derived.Test.YtikiaijgcjjloaaDoorCalls3
import Derived.BigRegion
namespace Go.Proofs.YtikiaijgcjjloaaDoor
open Go Go.RowKit M Go.Lib

/-- One of two texts is no number. -/
def NotBoth (a b : ByteArray) : Prop := (∀ t q, ¬ IsNum a.data.toList t q) ∨ (∀ t q, ¬ IsNum b.data.toList t q)

/-- Two blocks of two cells each, then two calls that leave what was there. -/
structure Frame2 (w w1 w2 : World) (x0 x1 y0 y1 : Value) : Prop where
  a0 : w2.cell? ⟨w.heap.size, 0, none⟩ = some x0
  a1 : w2.cell? ⟨w.heap.size, 1, none⟩ = some x1
  b0 : w2.cell? ⟨w.heap.size + 1, 0, none⟩ = some y0
  b1 : w2.cell? ⟨w.heap.size + 1, 1, none⟩ = some y1
  fa0 : w2.frozen? ⟨w.heap.size, 0, none⟩ = false
  fa1 : w2.frozen? ⟨w.heap.size, 1, none⟩ = false
  fb0 : w2.frozen? ⟨w.heap.size + 1, 0, none⟩ = false
  fb1 : w2.frozen? ⟨w.heap.size + 1, 1, none⟩ = false
  z1 : w.heap.size + 2 ≤ w1.heap.size
  z2 : w1.heap.size + 1 ≤ w2.heap.size
  bel : Below w.heap.size w w2

theorem frame2 {w w1 w2 : World} {T : TypeId} {x0 x1 y0 y1 : Value} {o : Obj} (h1 : Below ((w.alloc (.cells #[x0, x1] T)).alloc (.cells #[y0, y1] T)).heap.size ((w.alloc (.cells #[x0, x1] T)).alloc (.cells #[y0, y1] T)) w1) (h2 : Below (w1.alloc o).heap.size (w1.alloc o) w2) : Frame2 w w1 w2 x0 x1 y0 y1 := by
  have z1 : w.heap.size + 2 ≤ w1.heap.size := by have := h1.size; simpa using this
  have z2 : w1.heap.size + 1 ≤ w2.heap.size := by have := h2.size; simpa using this
  have h3 : Below ((w.alloc (.cells #[x0, x1] T)).alloc (.cells #[y0, y1] T)).heap.size ((w.alloc (.cells #[x0, x1] T)).alloc (.cells #[y0, y1] T)) w2 := h1.trans ((fl_two h2).mono (by simpa using z1))
  refine ⟨?_, ?_, ?_, ?_, ?_, ?_, ?_, ?_, z1, z2, ?_⟩
  · rw [h3.cell (p := ⟨w.heap.size, 0, none⟩) (by simp; omega)]; simp [go_sem]
  · rw [h3.cell (p := ⟨w.heap.size, 1, none⟩) (by simp; omega)]; simp [go_sem]
  · rw [h3.cell (p := ⟨w.heap.size + 1, 0, none⟩) (by simp)]; simp [go_sem]
  · rw [h3.cell (p := ⟨w.heap.size + 1, 1, none⟩) (by simp)]; simp [go_sem]
  · rw [h3.frozen (p := ⟨w.heap.size, 0, none⟩) (by simp; omega)]; simp [go_sem]
  · rw [h3.frozen (p := ⟨w.heap.size, 1, none⟩) (by simp; omega)]; simp [go_sem]
  · rw [h3.frozen (p := ⟨w.heap.size + 1, 0, none⟩) (by simp)]; simp [go_sem]
  · rw [h3.frozen (p := ⟨w.heap.size + 1, 1, none⟩) (by simp)]; simp [go_sem]
  · exact (((Below.refl _ _).alloc (Nat.le_refl _) _).alloc (by simp) _).trans (h3.mono (by simp; omega))

theorem four_cells {w w1 w2 : World} {x0 x1 y0 y1 : Value} (h : Frame2 w w1 w2 x0 x1 y0 y1) (a b c d : Value) (o : Obj) :
    (((((w2.setCell ⟨w.heap.size, 0, none⟩ a).setCell ⟨w.heap.size, 1, none⟩ b).setCell ⟨w.heap.size + 1, 0, none⟩ c).setCell ⟨w.heap.size + 1, 1, none⟩ d).alloc o).cell? ⟨w.heap.size, 0, none⟩ = some a ∧ (((((w2.setCell ⟨w.heap.size, 0, none⟩ a).setCell ⟨w.heap.size, 1, none⟩ b).setCell ⟨w.heap.size + 1, 0, none⟩ c).setCell ⟨w.heap.size + 1, 1, none⟩ d).alloc o).cell? ⟨w.heap.size, 1, none⟩ = some b ∧ (((((w2.setCell ⟨w.heap.size, 0, none⟩ a).setCell ⟨w.heap.size, 1, none⟩ b).setCell ⟨w.heap.size + 1, 0, none⟩ c).setCell ⟨w.heap.size + 1, 1, none⟩ d).alloc o).cell? ⟨w.heap.size + 1, 0, none⟩ = some c ∧ (((((w2.setCell ⟨w.heap.size, 0, none⟩ a).setCell ⟨w.heap.size, 1, none⟩ b).setCell ⟨w.heap.size + 1, 0, none⟩ c).setCell ⟨w.heap.size + 1, 1, none⟩ d).alloc o).cell? ⟨w.heap.size + 1, 1, none⟩ = some d ∧ Below w.heap.size w (((((w2.setCell ⟨w.heap.size, 0, none⟩ a).setCell ⟨w.heap.size, 1, none⟩ b).setCell ⟨w.heap.size + 1, 0, none⟩ c).setCell ⟨w.heap.size + 1, 1, none⟩ d).alloc o) := by
  have hs : ((((w2.setCell ⟨w.heap.size, 0, none⟩ a).setCell ⟨w.heap.size, 1, none⟩ b).setCell ⟨w.heap.size + 1, 0, none⟩ c).setCell ⟨w.heap.size + 1, 1, none⟩ d).heap.size = w2.heap.size := by simp
  have z1 := h.z1
  have z2 := h.z2
  have b1 : Below ((((w2.setCell ⟨w.heap.size, 0, none⟩ a).setCell ⟨w.heap.size, 1, none⟩ b).setCell ⟨w.heap.size + 1, 0, none⟩ c).setCell ⟨w.heap.size + 1, 1, none⟩ d).heap.size ((((w2.setCell ⟨w.heap.size, 0, none⟩ a).setCell ⟨w.heap.size, 1, none⟩ b).setCell ⟨w.heap.size + 1, 0, none⟩ c).setCell ⟨w.heap.size + 1, 1, none⟩ d) (((((w2.setCell ⟨w.heap.size, 0, none⟩ a).setCell ⟨w.heap.size, 1, none⟩ b).setCell ⟨w.heap.size + 1, 0, none⟩ c).setCell ⟨w.heap.size + 1, 1, none⟩ d).alloc o) := (Below.refl _ _).alloc (Nat.le_refl _) _
  refine ⟨?_, ?_, ?_, ?_, ((((h.bel.setCell (by simp) _).setCell (by simp) _).setCell (by simp) _).setCell (by simp) _).trans (b1.mono (by rw [hs]; omega))⟩
  · rw [b1.cell (p := ⟨w.heap.size, 0, none⟩) (by rw [hs]; show w.heap.size < _; omega)]; simp [go_sem, h.a0]
  · rw [b1.cell (p := ⟨w.heap.size, 1, none⟩) (by rw [hs]; show w.heap.size < _; omega)]; simp [go_sem, h.a1]
  · rw [b1.cell (p := ⟨w.heap.size + 1, 0, none⟩) (by rw [hs]; show w.heap.size + 1 < _; omega)]; simp [go_sem, h.b0]
  · rw [b1.cell (p := ⟨w.heap.size + 1, 1, none⟩) (by rw [hs]; show w.heap.size + 1 < _; omega)]; simp [go_sem, h.b1]

set_option maxRecDepth 100000 in
set_option maxHeartbeats 1000000 in
theorem readTwo_any (a b : ByteArray) (w : World) (ha : a.size ≤ maxLen) (hb : b.size ≤ maxLen) :
    Calls Tryd.prog 25 #[.string a, .string b] w fun e w' => ((∃ t1 q1 t2 q2, IsNum a.data.toList t1 q1 ∧ IsNum b.data.toList t2 q2 ∧ e = .returned (.tuple #[.agg #[.int .i64 t1, .int .i64 q1], .agg #[.int .i64 t2, .int .i64 q2], .int .i64 0])) ∨ (NotBoth a b ∧ e = .returned (.tuple #[.agg #[.int .i64 0, .int .i64 0], .agg #[.int .i64 0, .int .i64 0], .int .i64 1]))) ∧ Below w.heap.size w w' := by
  go_enter Tryd.func25, Tryd.ntmps25
  go_wp2_with fail
  refine (Read_any a _ ha).mono ?_
  rintro e w1 ⟨⟨t1, q1, hn1, rfl⟩ | ⟨hn1, rfl⟩, hb1⟩
  · have HN1 := hide hn1
    clear hn1
    go_wp2_with fail
    refine (Read_any b _ hb).mono ?_
    rintro e w2 ⟨⟨t2, q2, hn2, rfl⟩ | ⟨hn2, rfl⟩, hb2⟩
    · have HN2 := hide hn2
      clear hn2
      have hF := frame2 hb1 hb2
      obtain ⟨r0, r1, r2, r3, hbel⟩ := four_cells hF (.int .i64 t1) (.int .i64 q1) (.int .i64 t2) (.int .i64 q2) (.cells #[.int .i64 t2, .int .i64 q2] 44)
      obtain ⟨c0, c1, d0, d1, f0, f1, g0, g1, z1, z2, bel⟩ := hF
      obtain ⟨e0, e1⟩ := cell_new2 hb2
      have y1 : ¬ w.heap.size = w1.heap.size := by omega
      have y1' : ¬ w1.heap.size = w.heap.size := by omega
      have y2 : ¬ w.heap.size = w2.heap.size := by omega
      have y2' : ¬ w2.heap.size = w.heap.size := by omega
      have y3 : ¬ w.heap.size + 1 = w1.heap.size := by omega
      have y3' : ¬ w1.heap.size = w.heap.size + 1 := by omega
      have y4 : ¬ w.heap.size + 1 = w2.heap.size := by omega
      have y4' : ¬ w2.heap.size = w.heap.size + 1 := by omega
      have y5 : ¬ w1.heap.size = w2.heap.size := by omega
      have y5' : ¬ w2.heap.size = w1.heap.size := by omega
      have y6 : w.heap.size < w2.heap.size := by omega
      have y7 : w.heap.size + 1 < w2.heap.size := by omega
      have y8 : w1.heap.size < w2.heap.size := by omega
      go_wp2_with fail
      go_region
      all_goals go_wp2_with fail
      exact bodyPost_ret (v := .tuple #[.agg #[.int .i64 t1, .int .i64 q1], .agg #[.int .i64 t2, .int .i64 q2], .int .i64 0]) (by simp [results, Tryd.results25, go_sem, r0, r1, r2, r3]) rfl ⟨Or.inl ⟨t1, q1, t2, q2, unhide HN1, unhide HN2, rfl⟩, hbel.drew⟩
    · have HN2 := hide hn2
      clear hn2
      have hF := frame2 hb1 hb2
      obtain ⟨r0, r1, r2, r3, hbel⟩ := four_cells hF (.int .i64 0) (.int .i64 0) (.int .i64 0) (.int .i64 0) (.cells #[.int .i64 0, .int .i64 0] 44)
      obtain ⟨c0, c1, d0, d1, f0, f1, g0, g1, z1, z2, bel⟩ := hF
      obtain ⟨e0, e1⟩ := cell_new2 hb2
      have y1 : ¬ w.heap.size = w1.heap.size := by omega
      have y1' : ¬ w1.heap.size = w.heap.size := by omega
      have y2 : ¬ w.heap.size = w2.heap.size := by omega
      have y2' : ¬ w2.heap.size = w.heap.size := by omega
      have y3 : ¬ w.heap.size + 1 = w1.heap.size := by omega
      have y3' : ¬ w1.heap.size = w.heap.size + 1 := by omega
      have y4 : ¬ w.heap.size + 1 = w2.heap.size := by omega
      have y4' : ¬ w2.heap.size = w.heap.size + 1 := by omega
      have y5 : ¬ w1.heap.size = w2.heap.size := by omega
      have y5' : ¬ w2.heap.size = w1.heap.size := by omega
      have y6 : w.heap.size < w2.heap.size := by omega
      have y7 : w.heap.size + 1 < w2.heap.size := by omega
      have y8 : w1.heap.size < w2.heap.size := by omega
      go_wp2_with fail
      exact bodyPost_ret (v := .tuple #[.agg #[.int .i64 0, .int .i64 0], .agg #[.int .i64 0, .int .i64 0], .int .i64 1]) (by simp [results, Tryd.results25, go_sem, r0, r1, r2, r3]) rfl ⟨Or.inr ⟨Or.inr (unhide HN2), rfl⟩, hbel⟩
  · have HN1 := hide hn1
    clear hn1
    go_wp2_with fail
    refine (Read_any b _ hb).mono ?_
    rintro e w2 ⟨⟨t2, q2, hn2, rfl⟩ | ⟨hn2, rfl⟩, hb2⟩
    · clear hn2
      have hF := frame2 hb1 hb2
      obtain ⟨r0, r1, r2, r3, hbel⟩ := four_cells hF (.int .i64 0) (.int .i64 0) (.int .i64 0) (.int .i64 0) (.cells #[.int .i64 t2, .int .i64 q2] 44)
      obtain ⟨c0, c1, d0, d1, f0, f1, g0, g1, z1, z2, bel⟩ := hF
      obtain ⟨e0, e1⟩ := cell_new2 hb2
      have y1 : ¬ w.heap.size = w1.heap.size := by omega
      have y1' : ¬ w1.heap.size = w.heap.size := by omega
      have y2 : ¬ w.heap.size = w2.heap.size := by omega
      have y2' : ¬ w2.heap.size = w.heap.size := by omega
      have y3 : ¬ w.heap.size + 1 = w1.heap.size := by omega
      have y3' : ¬ w1.heap.size = w.heap.size + 1 := by omega
      have y4 : ¬ w.heap.size + 1 = w2.heap.size := by omega
      have y4' : ¬ w2.heap.size = w.heap.size + 1 := by omega
      have y5 : ¬ w1.heap.size = w2.heap.size := by omega
      have y5' : ¬ w2.heap.size = w1.heap.size := by omega
      have y6 : w.heap.size < w2.heap.size := by omega
      have y7 : w.heap.size + 1 < w2.heap.size := by omega
      have y8 : w1.heap.size < w2.heap.size := by omega
      go_wp2_with fail
      exact bodyPost_ret (v := .tuple #[.agg #[.int .i64 0, .int .i64 0], .agg #[.int .i64 0, .int .i64 0], .int .i64 1]) (by simp [results, Tryd.results25, go_sem, r0, r1, r2, r3]) rfl ⟨Or.inr ⟨Or.inl (unhide HN1), rfl⟩, hbel⟩
    · clear hn2
      have hF := frame2 hb1 hb2
      obtain ⟨r0, r1, r2, r3, hbel⟩ := four_cells hF (.int .i64 0) (.int .i64 0) (.int .i64 0) (.int .i64 0) (.cells #[.int .i64 0, .int .i64 0] 44)
      obtain ⟨c0, c1, d0, d1, f0, f1, g0, g1, z1, z2, bel⟩ := hF
      obtain ⟨e0, e1⟩ := cell_new2 hb2
      have y1 : ¬ w.heap.size = w1.heap.size := by omega
      have y1' : ¬ w1.heap.size = w.heap.size := by omega
      have y2 : ¬ w.heap.size = w2.heap.size := by omega
      have y2' : ¬ w2.heap.size = w.heap.size := by omega
      have y3 : ¬ w.heap.size + 1 = w1.heap.size := by omega
      have y3' : ¬ w1.heap.size = w.heap.size + 1 := by omega
      have y4 : ¬ w.heap.size + 1 = w2.heap.size := by omega
      have y4' : ¬ w2.heap.size = w.heap.size + 1 := by omega
      have y5 : ¬ w1.heap.size = w2.heap.size := by omega
      have y5' : ¬ w2.heap.size = w1.heap.size := by omega
      have y6 : w.heap.size < w2.heap.size := by omega
      have y7 : w.heap.size + 1 < w2.heap.size := by omega
      have y8 : w1.heap.size < w2.heap.size := by omega
      go_wp2_with fail
      exact bodyPost_ret (v := .tuple #[.agg #[.int .i64 0, .int .i64 0], .agg #[.int .i64 0, .int .i64 0], .int .i64 1]) (by simp [results, Tryd.results25, go_sem, r0, r1, r2, r3]) rfl ⟨Or.inr ⟨Or.inl (unhide HN1), rfl⟩, hbel⟩
end Go.Proofs.YtikiaijgcjjloaaDoor

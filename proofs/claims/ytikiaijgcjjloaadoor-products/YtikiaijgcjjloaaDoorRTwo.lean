/- The walk: two texts read, the document's. -/
import Derived.Test.YtikiaijgcjjloaaDoorTwo
namespace Go.Proofs.YtikiaijgcjjloaaDoor
open Go Go.RowKit M Go.Lib

set_option maxRecDepth 100000 in
set_option maxHeartbeats 1000000 in
theorem two_any (a b : ByteArray) (w : World) (ha : a.size ≤ maxLen) (hb : b.size ≤ maxLen) :
    Calls Tryd.prog 28 #[.string a, .string b] w fun e w' => ((∃ t1 q1 t2 q2, IsNum a.data.toList t1 q1 ∧ IsNum b.data.toList t2 q2 ∧ e = .returned (.tuple #[.agg #[.int .i64 t1, .int .i64 q1], .agg #[.int .i64 t2, .int .i64 q2], .bool true])) ∨ (NotBoth a b ∧ ∃ t1 q1 t2 q2, e = .returned (.tuple #[.agg #[.int .i64 t1, .int .i64 q1], .agg #[.int .i64 t2, .int .i64 q2], .bool false]))) ∧ Below w.heap.size w w' := by
  go_enter Tryd.func28, Tryd.ntmps28
  go_wp2_with fail
  refine (RRead_any a _ ha).mono ?_
  rintro e w1 ⟨⟨t1, q1, hn1, rfl⟩ | ⟨hn1, t1, q1, rfl⟩, hb1⟩
  · have HN1 := hide hn1
    clear hn1
    go_wp2_with fail
    refine (RRead_any b _ hb).mono ?_
    rintro e w2 ⟨⟨t2, q2, hn2, rfl⟩ | ⟨hn2, t2, q2, rfl⟩, hb2⟩
    · have HN2 := hide hn2
      clear hn2
      have hF := frame2 hb1 hb2
      obtain ⟨r0, r1, r2, r3, hbel⟩ := four_cells hF (.int .i64 t1) (.int .i64 q1) (.int .i64 t2) (.int .i64 q2) (.cells #[.int .i64 t2, .int .i64 q2] 51)
      obtain ⟨c0, c1, d0, d1, f0, f1, g0, g1, z1, z2, bel⟩ := hF
      obtain ⟨e0, e1⟩ := cell_new2 hb2
      have y1 : ¬ w.heap.size = w1.heap.size := by omega
      have y1' : ¬ w1.heap.size = w.heap.size := by omega
      have y2 : ¬ w.heap.size = w2.heap.size := by omega
      have y2' : ¬ w2.heap.size = w.heap.size := by omega
      have y3 : ¬ w.heap.size + 1 = w1.heap.size := by omega
      have y3' : ¬ w1.heap.size = w.heap.size + 1 := by omega
      have y4 : ¬ w.heap.size + 1 = w2.heap.size := by omega
      have y4' : ¬ w2.heap.size = w.heap.size + 1 := by omega
      have y5 : ¬ w1.heap.size = w2.heap.size := by omega
      have y5' : ¬ w2.heap.size = w1.heap.size := by omega
      have y6 : w.heap.size < w2.heap.size := by omega
      have y7 : w.heap.size + 1 < w2.heap.size := by omega
      have y8 : w1.heap.size < w2.heap.size := by omega
      go_wp2_with fail
      go_region
      all_goals go_wp2_with fail
      all_goals exact bodyPost_ret (v := .tuple #[.agg #[.int .i64 t1, .int .i64 q1], .agg #[.int .i64 t2, .int .i64 q2], .bool true]) (by simp [results, Tryd.results28, go_sem, r0, r1, r2, r3]) rfl ⟨Or.inl ⟨t1, q1, t2, q2, unhide HN1, unhide HN2, rfl⟩, hbel.drew⟩
    · have HN2 := hide hn2
      clear hn2
      have hF := frame2 hb1 hb2
      obtain ⟨r0, r1, r2, r3, hbel⟩ := four_cells hF (.int .i64 t1) (.int .i64 q1) (.int .i64 t2) (.int .i64 q2) (.cells #[.int .i64 t2, .int .i64 q2] 51)
      obtain ⟨c0, c1, d0, d1, f0, f1, g0, g1, z1, z2, bel⟩ := hF
      obtain ⟨e0, e1⟩ := cell_new2 hb2
      have y1 : ¬ w.heap.size = w1.heap.size := by omega
      have y1' : ¬ w1.heap.size = w.heap.size := by omega
      have y2 : ¬ w.heap.size = w2.heap.size := by omega
      have y2' : ¬ w2.heap.size = w.heap.size := by omega
      have y3 : ¬ w.heap.size + 1 = w1.heap.size := by omega
      have y3' : ¬ w1.heap.size = w.heap.size + 1 := by omega
      have y4 : ¬ w.heap.size + 1 = w2.heap.size := by omega
      have y4' : ¬ w2.heap.size = w.heap.size + 1 := by omega
      have y5 : ¬ w1.heap.size = w2.heap.size := by omega
      have y5' : ¬ w2.heap.size = w1.heap.size := by omega
      have y6 : w.heap.size < w2.heap.size := by omega
      have y7 : w.heap.size + 1 < w2.heap.size := by omega
      have y8 : w1.heap.size < w2.heap.size := by omega
      go_wp2_with fail
      go_region
      all_goals go_wp2_with fail
      all_goals exact bodyPost_ret (v := .tuple #[.agg #[.int .i64 t1, .int .i64 q1], .agg #[.int .i64 t2, .int .i64 q2], .bool false]) (by simp [results, Tryd.results28, go_sem, r0, r1, r2, r3]) rfl ⟨Or.inr ⟨Or.inr (unhide HN2), t1, q1, t2, q2, rfl⟩, hbel.drew⟩
  · have HN1 := hide hn1
    clear hn1
    go_wp2_with fail
    refine (RRead_any b _ hb).mono ?_
    rintro e w2 ⟨⟨t2, q2, hn2, rfl⟩ | ⟨hn2, t2, q2, rfl⟩, hb2⟩
    all_goals
      clear hn2
      have hF := frame2 hb1 hb2
      obtain ⟨r0, r1, r2, r3, hbel⟩ := four_cells hF (.int .i64 t1) (.int .i64 q1) (.int .i64 t2) (.int .i64 q2) (.cells #[.int .i64 t2, .int .i64 q2] 51)
      obtain ⟨c0, c1, d0, d1, f0, f1, g0, g1, z1, z2, bel⟩ := hF
      obtain ⟨e0, e1⟩ := cell_new2 hb2
      have y1 : ¬ w.heap.size = w1.heap.size := by omega
      have y1' : ¬ w1.heap.size = w.heap.size := by omega
      have y2 : ¬ w.heap.size = w2.heap.size := by omega
      have y2' : ¬ w2.heap.size = w.heap.size := by omega
      have y3 : ¬ w.heap.size + 1 = w1.heap.size := by omega
      have y3' : ¬ w1.heap.size = w.heap.size + 1 := by omega
      have y4 : ¬ w.heap.size + 1 = w2.heap.size := by omega
      have y4' : ¬ w2.heap.size = w.heap.size + 1 := by omega
      have y5 : ¬ w1.heap.size = w2.heap.size := by omega
      have y5' : ¬ w2.heap.size = w1.heap.size := by omega
      have y6 : w.heap.size < w2.heap.size := by omega
      have y7 : w.heap.size + 1 < w2.heap.size := by omega
      have y8 : w1.heap.size < w2.heap.size := by omega
      go_wp2_with fail
      go_region
      all_goals go_wp2_with fail
      all_goals exact bodyPost_ret (v := .tuple #[.agg #[.int .i64 t1, .int .i64 q1], .agg #[.int .i64 t2, .int .i64 q2], .bool false]) (by simp [results, Tryd.results28, go_sem, r0, r1, r2, r3]) rfl ⟨Or.inr ⟨Or.inl (unhide HN1), t1, q1, t2, q2, rfl⟩, hbel.drew⟩
end Go.Proofs.YtikiaijgcjjloaaDoor

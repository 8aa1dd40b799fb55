import Derived.Test.YtikiaijgcjjloaaGreatDoorPart38
import Derived.Test.YtikiaijgcjjloaaGreatDoorPart20

/- The walk: two texts read, the document's. -/
namespace Go.Proofs.YtikiaijgcjjloaaGreatDoor
open Go Go.RowKit M Go.Lib

set_option maxRecDepth 100000 in
set_option maxHeartbeats 1000000 in
theorem two_any (a b : ByteArray) (w : World) (ha : a.size ≤ maxLen) (hb : b.size ≤ maxLen) :
    Calls Tryz.prog 92 #[.string a, .string b] w fun e w' => ((∃ t1 q1 t2 q2, IsNum a.data.toList t1 q1 ∧ IsNum b.data.toList t2 q2 ∧ e = .returned (.tuple #[.agg #[.int .i64 t1, .int .i64 q1], .agg #[.int .i64 t2, .int .i64 q2], .bool true])) ∨ (NotBoth a b ∧ ∃ t1 q1 t2 q2, e = .returned (.tuple #[.agg #[.int .i64 t1, .int .i64 q1], .agg #[.int .i64 t2, .int .i64 q2], .bool false]))) ∧ Below w.heap.size w w' := by
  go_enter Tryz.func92, Tryz.ntmps92
  go_wp2_with fail
  refine (RRead_any a _ ha).mono ?_
  rintro e w1 ⟨⟨t1, q1, hn1, rfl⟩ | ⟨hn1, t1, q1, rfl⟩, hb1⟩
  · have HN1 := hide hn1
    clear hn1
    go_wp2_with fail
    refine (RRead_any b _ hb).mono ?_
    rintro e w2 ⟨⟨t2, q2, hn2, rfl⟩ | ⟨hn2, t2, q2, rfl⟩, hb2⟩
    · have HN2 := hide hn2
      clear hn2
      have hF := frame2 hb1 hb2
      obtain ⟨r0, r1, r2, r3, hbel⟩ := four_cells hF (.int .i64 t1) (.int .i64 q1) (.int .i64 t2) (.int .i64 q2) (.cells #[.int .i64 t2, .int .i64 q2] 129)
      obtain ⟨c0, c1, d0, d1, f0, f1, g0, g1, z1, z2, bel⟩ := hF
      obtain ⟨e0, e1⟩ := cell_new2 hb2
      have y1 : ¬ w.heap.size = w1.heap.size := by omega
      have y1' : ¬ w1.heap.size = w.heap.size := by omega
      have y2 : ¬ w.heap.size = w2.heap.size := by omega
      have y2' : ¬ w2.heap.size = w.heap.size := by omega
      have y3 : ¬ w.heap.size + 1 = w1.heap.size := by omega
      have y3' : ¬ w1.heap.size = w.heap.size + 1 := by omega
      have y4 : ¬ w.heap.size + 1 = w2.heap.size := by omega
      have y4' : ¬ w2.heap.size = w.heap.size + 1 := by omega
      have y5 : ¬ w1.heap.size = w2.heap.size := by omega
      have y5' : ¬ w2.heap.size = w1.heap.size := by omega
      have y6 : w.heap.size < w2.heap.size := by omega
      have y7 : w.heap.size + 1 < w2.heap.size := by omega
      have y8 : w1.heap.size < w2.heap.size := by omega
      go_wp2_with fail
      go_region
      all_goals go_wp2_with fail
      all_goals exact bodyPost_ret (v := .tuple #[.agg #[.int .i64 t1, .int .i64 q1], .agg #[.int .i64 t2, .int .i64 q2], .bool true]) (by simp [results, Tryz.results92, go_sem, r0, r1, r2, r3]) rfl ⟨Or.inl ⟨t1, q1, t2, q2, unhide HN1, unhide HN2, rfl⟩, hbel.drew⟩
    · have HN2 := hide hn2
      clear hn2
      have hF := frame2 hb1 hb2
      obtain ⟨r0, r1, r2, r3, hbel⟩ := four_cells hF (.int .i64 t1) (.int .i64 q1) (.int .i64 t2) (.int .i64 q2) (.cells #[.int .i64 t2, .int .i64 q2] 129)
      obtain ⟨c0, c1, d0, d1, f0, f1, g0, g1, z1, z2, bel⟩ := hF
      obtain ⟨e0, e1⟩ := cell_new2 hb2
      have y1 : ¬ w.heap.size = w1.heap.size := by omega
      have y1' : ¬ w1.heap.size = w.heap.size := by omega
      have y2 : ¬ w.heap.size = w2.heap.size := by omega
      have y2' : ¬ w2.heap.size = w.heap.size := by omega
      have y3 : ¬ w.heap.size + 1 = w1.heap.size := by omega
      have y3' : ¬ w1.heap.size = w.heap.size + 1 := by omega
      have y4 : ¬ w.heap.size + 1 = w2.heap.size := by omega
      have y4' : ¬ w2.heap.size = w.heap.size + 1 := by omega
      have y5 : ¬ w1.heap.size = w2.heap.size := by omega
      have y5' : ¬ w2.heap.size = w1.heap.size := by omega
      have y6 : w.heap.size < w2.heap.size := by omega
      have y7 : w.heap.size + 1 < w2.heap.size := by omega
      have y8 : w1.heap.size < w2.heap.size := by omega
      go_wp2_with fail
      go_region
      all_goals go_wp2_with fail
      all_goals exact bodyPost_ret (v := .tuple #[.agg #[.int .i64 t1, .int .i64 q1], .agg #[.int .i64 t2, .int .i64 q2], .bool false]) (by simp [results, Tryz.results92, go_sem, r0, r1, r2, r3]) rfl ⟨Or.inr ⟨Or.inr (unhide HN2), t1, q1, t2, q2, rfl⟩, hbel.drew⟩
  · have HN1 := hide hn1
    clear hn1
    go_wp2_with fail
    refine (RRead_any b _ hb).mono ?_
    rintro e w2 ⟨⟨t2, q2, hn2, rfl⟩ | ⟨hn2, t2, q2, rfl⟩, hb2⟩
    all_goals
      clear hn2
      have hF := frame2 hb1 hb2
      obtain ⟨r0, r1, r2, r3, hbel⟩ := four_cells hF (.int .i64 t1) (.int .i64 q1) (.int .i64 t2) (.int .i64 q2) (.cells #[.int .i64 t2, .int .i64 q2] 129)
      obtain ⟨c0, c1, d0, d1, f0, f1, g0, g1, z1, z2, bel⟩ := hF
      obtain ⟨e0, e1⟩ := cell_new2 hb2
      have y1 : ¬ w.heap.size = w1.heap.size := by omega
      have y1' : ¬ w1.heap.size = w.heap.size := by omega
      have y2 : ¬ w.heap.size = w2.heap.size := by omega
      have y2' : ¬ w2.heap.size = w.heap.size := by omega
      have y3 : ¬ w.heap.size + 1 = w1.heap.size := by omega
      have y3' : ¬ w1.heap.size = w.heap.size + 1 := by omega
      have y4 : ¬ w.heap.size + 1 = w2.heap.size := by omega
      have y4' : ¬ w2.heap.size = w.heap.size + 1 := by omega
      have y5 : ¬ w1.heap.size = w2.heap.size := by omega
      have y5' : ¬ w2.heap.size = w1.heap.size := by omega
      have y6 : w.heap.size < w2.heap.size := by omega
      have y7 : w.heap.size + 1 < w2.heap.size := by omega
      have y8 : w1.heap.size < w2.heap.size := by omega
      go_wp2_with fail
      go_region
      all_goals go_wp2_with fail
      all_goals exact bodyPost_ret (v := .tuple #[.agg #[.int .i64 t1, .int .i64 q1], .agg #[.int .i64 t2, .int .i64 q2], .bool false]) (by simp [results, Tryz.results92, go_sem, r0, r1, r2, r3]) rfl ⟨Or.inr ⟨Or.inl (unhide HN1), t1, q1, t2, q2, rfl⟩, hbel.drew⟩
end Go.Proofs.YtikiaijgcjjloaaGreatDoor

/- The walks: Plus and Times, the program's and the document's. -/
namespace Go.Proofs.YtikiaijgcjjloaaGreatDoor
open Go Go.RowKit M Go.Lib

def LowF (p q : Int) (r : List UInt8) (c : Int) : Prop := (fitsB p q = true ∧ r = numText (lowP p q) (lowQ p q) ∧ c = 0) ∨ (fitsB p q = false ∧ r = [] ∧ c = 3)
def SumF (t1 q1 t2 q2 : Int) : List UInt8 → Int → Prop := LowF (t1 * q2 + t2 * q1) (q1 * q2)
def ProdF (t1 q1 t2 q2 : Int) : List UInt8 → Int → Prop := LowF (t1 * t2) (q1 * q2)
/-- Two texts: one is no number, or two numbers of which F tells text and error. -/
def Says2 (F : Int → Int → Int → Int → List UInt8 → Int → Prop) (a b : ByteArray) (r : List UInt8) (c : Int) : Prop :=
  (NotBoth a b ∧ r = [] ∧ c = 1) ∨ ∃ t1 q1 t2 q2, IsNum a.data.toList t1 q1 ∧ IsNum b.data.toList t2 q2 ∧ F t1 q1 t2 q2 r c
def Ans2 (F : Int → Int → Int → Int → List UInt8 → Int → Prop) (a b : ByteArray) (e : Ending) : Prop :=
  ∃ r c, e = .returned (.tuple #[.string ⟨List.toArray r⟩, .int .i64 c]) ∧ Says2 F a b r c

theorem lowF_fun {p q : Int} {r r' : List UInt8} {c c' : Int} (h : LowF p q r c) (h' : LowF p q r' c') : r = r' ∧ c = c' := by
  rcases h with ⟨h0, rfl, rfl⟩ | ⟨h0, rfl, rfl⟩ <;> rcases h' with ⟨h1, rfl, rfl⟩ | ⟨h1, rfl, rfl⟩
  · exact ⟨rfl, rfl⟩
  · rw [h0] at h1; cases h1
  · rw [h0] at h1; cases h1
  · exact ⟨rfl, rfl⟩
theorem says2_one {F : Int → Int → Int → Int → List UInt8 → Int → Prop} (hF : ∀ t1 q1 t2 q2 r r' c c', F t1 q1 t2 q2 r c → F t1 q1 t2 q2 r' c' → r = r' ∧ c = c') {a b : ByteArray} {r r' : List UInt8} {c c' : Int}
    (h : Says2 F a b r c) (h' : Says2 F a b r' c') : r = r' ∧ c = c' := by
  rcases h with ⟨h0, rfl, rfl⟩ | ⟨t1, q1, t2, q2, n1, n2, hf⟩ <;> rcases h' with ⟨h1, rfl, rfl⟩ | ⟨t1', q1', t2', q2', n1', n2', hf'⟩
  · exact ⟨rfl, rfl⟩
  · rcases h0 with h0 | h0
    · exact absurd n1' (h0 _ _)
    · exact absurd n2' (h0 _ _)
  · rcases h1 with h1 | h1
    · exact absurd n1 (h1 _ _)
    · exact absurd n2 (h1 _ _)
  · obtain ⟨rfl, rfl⟩ := n1.unique n1'
    obtain ⟨rfl, rfl⟩ := n2.unique n2'
    exact hF _ _ _ _ _ _ _ _ hf hf'
theorem chain_al {w w1 w2 : World} {o o' : Obj} (h1 : Below w.heap.size w w1) (h2 : Below ((w1.alloc o).alloc o').heap.size ((w1.alloc o).alloc o') w2) : Below w.heap.size w w2 :=
  h1.trans (((((Below.refl _ _).alloc (Nat.le_refl _) o).alloc (by simp) o').trans (h2.mono (by simp; omega))).mono h1.size)
theorem chain_al1 {w w1 w2 : World} {o : Obj} (h1 : Below w.heap.size w w1) (h2 : Below (w1.alloc o).heap.size (w1.alloc o) w2) : Below w.heap.size w w2 :=
  h1.trans ((fl_two h2).mono h1.size)

set_option maxRecDepth 100000 in
set_option maxHeartbeats 400000 in
theorem Plus_any (a b : ByteArray) (w : World) (ha : a.size ≤ maxLen) (hb : b.size ≤ maxLen) (ht : Tab w) :
    Calls Tryz.prog 27 #[.string a, .string b] w fun e w' => Ans2 SumF a b e ∧ Below w.heap.size w w' := by
  have HT := hide ht
  clear ht
  go_enter Tryz.func27, Tryz.ntmps27
  go_wp2_with fail
  refine (readTwo_any a b _ ha hb).mono ?_
  rintro e w1 ⟨⟨t1, q1, t2, q2, n1, n2, rfl⟩ | ⟨hn, rfl⟩, hb1⟩
  · have HN1 := hide n1
    have HN2 := hide n2
    have i1 := n1.lo; have i2 := n1.hi; have i3 := n1.b1; have i4 := n1.b2
    have j1 := n2.lo; have j2 := n2.hi; have j3 := n2.b1; have j4 := n2.b2
    clear n1 n2
    go_wp2_with fail
    refine (nPlus_any t1 q1 t2 q2 _ i1 i2 i3 i4 j1 j2 j3 j4).mono ?_
    rintro e w2 ⟨⟨hf, rfl⟩ | ⟨hf, rfl⟩, hb2⟩
    · obtain ⟨k1, k2, k3, k4⟩ := fits_bd (t1 * q2 + t2 * q1) (q1 * q2) (mul_pos1 q1 q2 i3 j3) hf
      have HA := hide (show Says2 SumF a b (numText (lowP (t1 * q2 + t2 * q1) (q1 * q2)) (lowQ (t1 * q2 + t2 * q1) (q1 * q2))) 0 from Or.inr ⟨t1, q1, t2, q2, unhide HN1, unhide HN2, Or.inl ⟨hf, rfl, rfl⟩⟩)
      clear hf HN1 HN2
      generalize lowP (t1 * q2 + t2 * q1) (q1 * q2) = P at *
      generalize lowQ (t1 * q2 + t2 * q1) (q1 * q2) = Q at *
      go_wp2_with fail
      refine (write_ok P Q _ k1 k2 k3 k4 (tab_alloc (tab_below (unhide HT) (chain_al hb1 hb2)) _)).mono ?_
      rintro e w3 ⟨rfl, hb3⟩
      go_wp2_with fail
      go_ret2
      exact ⟨⟨_, 0, rfl, unhide HA⟩, chain_al1 (chain_al hb1 hb2) hb3⟩
    · have HA := hide (show Says2 SumF a b [] 3 from Or.inr ⟨t1, q1, t2, q2, unhide HN1, unhide HN2, Or.inr ⟨hf, rfl, rfl⟩⟩)
      clear hf HN1 HN2
      go_wp2_with fail
      refine (write_err 0 0 3 _ rfl).mono ?_
      rintro e w3 ⟨rfl, hb3⟩
      go_wp2_with fail
      go_ret2
      exact ⟨⟨[], 3, rfl, unhide HA⟩, chain_al1 (chain_al hb1 hb2) hb3⟩
  · have HN := hide hn
    clear hn
    go_wp2_with fail
    go_ret2
    exact ⟨⟨[], 1, rfl, Or.inl ⟨unhide HN, rfl, rfl⟩⟩, hb1.trans ((((Below.refl _ _).alloc (Nat.le_refl _) _).alloc (by simp) _).mono hb1.size)⟩

set_option maxRecDepth 100000 in
set_option maxHeartbeats 400000 in
theorem Times_any (a b : ByteArray) (w : World) (ha : a.size ≤ maxLen) (hb : b.size ≤ maxLen) (ht : Tab w) :
    Calls Tryz.prog 54 #[.string a, .string b] w fun e w' => Ans2 ProdF a b e ∧ Below w.heap.size w w' := by
  have HT := hide ht
  clear ht
  go_enter Tryz.func54, Tryz.ntmps54
  go_wp2_with fail
  refine (readTwo_any a b _ ha hb).mono ?_
  rintro e w1 ⟨⟨t1, q1, t2, q2, n1, n2, rfl⟩ | ⟨hn, rfl⟩, hb1⟩
  · have HN1 := hide n1
    have HN2 := hide n2
    have i1 := n1.lo; have i2 := n1.hi; have i3 := n1.b1; have i4 := n1.b2
    have j1 := n2.lo; have j2 := n2.hi; have j3 := n2.b1; have j4 := n2.b2
    clear n1 n2
    go_wp2_with fail
    refine (nTimes_any t1 q1 t2 q2 _ i1 i2 i3 i4 j1 j2 j3 j4).mono ?_
    rintro e w2 ⟨⟨hf, rfl⟩ | ⟨hf, rfl⟩, hb2⟩
    · obtain ⟨k1, k2, k3, k4⟩ := fits_bd (t1 * t2) (q1 * q2) (mul_pos1 q1 q2 i3 j3) hf
      have HA := hide (show Says2 ProdF a b (numText (lowP (t1 * t2) (q1 * q2)) (lowQ (t1 * t2) (q1 * q2))) 0 from Or.inr ⟨t1, q1, t2, q2, unhide HN1, unhide HN2, Or.inl ⟨hf, rfl, rfl⟩⟩)
      clear hf HN1 HN2
      generalize lowP (t1 * t2) (q1 * q2) = P at *
      generalize lowQ (t1 * t2) (q1 * q2) = Q at *
      go_wp2_with fail
      refine (write_ok P Q _ k1 k2 k3 k4 (tab_alloc (tab_below (unhide HT) (chain_al hb1 hb2)) _)).mono ?_
      rintro e w3 ⟨rfl, hb3⟩
      go_wp2_with fail
      go_ret2
      exact ⟨⟨_, 0, rfl, unhide HA⟩, chain_al1 (chain_al hb1 hb2) hb3⟩
    · have HA := hide (show Says2 ProdF a b [] 3 from Or.inr ⟨t1, q1, t2, q2, unhide HN1, unhide HN2, Or.inr ⟨hf, rfl, rfl⟩⟩)
      clear hf HN1 HN2
      go_wp2_with fail
      refine (write_err 0 0 3 _ rfl).mono ?_
      rintro e w3 ⟨rfl, hb3⟩
      go_wp2_with fail
      go_ret2
      exact ⟨⟨[], 3, rfl, unhide HA⟩, chain_al1 (chain_al hb1 hb2) hb3⟩
  · have HN := hide hn
    clear hn
    go_wp2_with fail
    go_ret2
    exact ⟨⟨[], 1, rfl, Or.inl ⟨unhide HN, rfl, rfl⟩⟩, hb1.trans ((((Below.refl _ _).alloc (Nat.le_refl _) _).alloc (by simp) _).mono hb1.size)⟩

set_option maxRecDepth 100000 in
set_option maxHeartbeats 400000 in
theorem rPlus_any (a b : ByteArray) (w : World) (ha : a.size ≤ maxLen) (hb : b.size ≤ maxLen) :
    Calls Tryz.prog 58 #[.string a, .string b] w fun e w' => Ans2 SumF a b e ∧ Below w.heap.size w w' := by
  go_enter Tryz.func58, Tryz.ntmps58
  go_wp2_with fail
  refine (two_any a b _ ha hb).mono ?_
  rintro e w1 ⟨⟨t1, q1, t2, q2, n1, n2, rfl⟩ | ⟨hn, t1, q1, t2, q2, rfl⟩, hb1⟩
  · have HN1 := hide n1
    have HN2 := hide n2
    have i1 := n1.lo; have i2 := n1.hi; have i3 := n1.b1; have i4 := n1.b2
    have j1 := n2.lo; have j2 := n2.hi; have j3 := n2.b1; have j4 := n2.b2
    clear n1 n2
    go_wp2_with fail
    refine (rAdd_any t1 q1 t2 q2 _ i1 i2 i3 i4 j1 j2 j3 j4).mono ?_
    rintro e w2 ⟨⟨hf, rfl⟩ | ⟨hf, rfl⟩, hb2⟩
    · obtain ⟨k1, k2, k3, k4⟩ := fits_bd (t1 * q2 + t2 * q1) (q1 * q2) (mul_pos1 q1 q2 i3 j3) hf
      have HA := hide (show Says2 SumF a b (numText (lowP (t1 * q2 + t2 * q1) (q1 * q2)) (lowQ (t1 * q2 + t2 * q1) (q1 * q2))) 0 from Or.inr ⟨t1, q1, t2, q2, unhide HN1, unhide HN2, Or.inl ⟨hf, rfl, rfl⟩⟩)
      clear hf HN1 HN2
      generalize lowP (t1 * q2 + t2 * q1) (q1 * q2) = P at *
      generalize lowQ (t1 * q2 + t2 * q1) (q1 * q2) = Q at *
      go_wp2_with fail
      refine (told_ok P Q _ k1 k2 k3 k4).mono ?_
      rintro e w3 ⟨rfl, hb3⟩
      go_wp2_with fail
      go_ret2
      exact ⟨⟨_, 0, rfl, unhide HA⟩, chain_al1 (chain_al hb1 hb2) hb3⟩
    · have HA := hide (show Says2 SumF a b [] 3 from Or.inr ⟨t1, q1, t2, q2, unhide HN1, unhide HN2, Or.inr ⟨hf, rfl, rfl⟩⟩)
      clear hf HN1 HN2
      go_wp2_with fail
      refine (told_err 0 1 3 _ rfl).mono ?_
      rintro e w3 ⟨rfl, hb3⟩
      go_wp2_with fail
      go_ret2
      exact ⟨⟨[], 3, rfl, unhide HA⟩, chain_al1 (chain_al hb1 hb2) hb3⟩
  · have HN := hide hn
    clear hn
    go_wp2_with fail
    go_ret2
    exact ⟨⟨[], 1, rfl, Or.inl ⟨unhide HN, rfl, rfl⟩⟩, hb1.trans ((((Below.refl _ _).alloc (Nat.le_refl _) _).alloc (by simp) _).mono hb1.size)⟩

set_option maxRecDepth 100000 in
set_option maxHeartbeats 400000 in
theorem rTimes_any (a b : ByteArray) (w : World) (ha : a.size ≤ maxLen) (hb : b.size ≤ maxLen) :
    Calls Tryz.prog 59 #[.string a, .string b] w fun e w' => Ans2 ProdF a b e ∧ Below w.heap.size w w' := by
  go_enter Tryz.func59, Tryz.ntmps59
  go_wp2_with fail
  refine (two_any a b _ ha hb).mono ?_
  rintro e w1 ⟨⟨t1, q1, t2, q2, n1, n2, rfl⟩ | ⟨hn, t1, q1, t2, q2, rfl⟩, hb1⟩
  · have HN1 := hide n1
    have HN2 := hide n2
    have i1 := n1.lo; have i2 := n1.hi; have i3 := n1.b1; have i4 := n1.b2
    have j1 := n2.lo; have j2 := n2.hi; have j3 := n2.b1; have j4 := n2.b2
    clear n1 n2
    go_wp2_with fail
    refine (rMul_any t1 q1 t2 q2 _ i1 i2 i3 i4 j1 j2 j3 j4).mono ?_
    rintro e w2 ⟨⟨hf, rfl⟩ | ⟨hf, rfl⟩, hb2⟩
    · obtain ⟨k1, k2, k3, k4⟩ := fits_bd (t1 * t2) (q1 * q2) (mul_pos1 q1 q2 i3 j3) hf
      have HA := hide (show Says2 ProdF a b (numText (lowP (t1 * t2) (q1 * q2)) (lowQ (t1 * t2) (q1 * q2))) 0 from Or.inr ⟨t1, q1, t2, q2, unhide HN1, unhide HN2, Or.inl ⟨hf, rfl, rfl⟩⟩)
      clear hf HN1 HN2
      generalize lowP (t1 * t2) (q1 * q2) = P at *
      generalize lowQ (t1 * t2) (q1 * q2) = Q at *
      go_wp2_with fail
      refine (told_ok P Q _ k1 k2 k3 k4).mono ?_
      rintro e w3 ⟨rfl, hb3⟩
      go_wp2_with fail
      go_ret2
      exact ⟨⟨_, 0, rfl, unhide HA⟩, chain_al1 (chain_al hb1 hb2) hb3⟩
    · have HA := hide (show Says2 ProdF a b [] 3 from Or.inr ⟨t1, q1, t2, q2, unhide HN1, unhide HN2, Or.inr ⟨hf, rfl, rfl⟩⟩)
      clear hf HN1 HN2
      go_wp2_with fail
      refine (told_err 0 1 3 _ rfl).mono ?_
      rintro e w3 ⟨rfl, hb3⟩
      go_wp2_with fail
      go_ret2
      exact ⟨⟨[], 3, rfl, unhide HA⟩, chain_al1 (chain_al hb1 hb2) hb3⟩
  · have HN := hide hn
    clear hn
    go_wp2_with fail
    go_ret2
    exact ⟨⟨[], 1, rfl, Or.inl ⟨unhide HN, rfl, rfl⟩⟩, hb1.trans ((((Below.refl _ _).alloc (Nat.le_refl _) _).alloc (by simp) _).mono hb1.size)⟩
end Go.Proofs.YtikiaijgcjjloaaGreatDoor

/- The walks of the laws without the document's answer: numbers by their texts. -/
namespace Go.Proofs.YtikiaijgcjjloaaGreatDoor
open Go Go.RowKit M T Go.Lib

def rt (x : Rat) : ByteArray := ⟨(ratText x).toArray⟩
theorem rt_list (x : Rat) : (rt x).data.toList = ratText x := rfl
theorem rt_size {x : Rat} (h : small x = true) : (rt x).size ≤ 22 := rat_len h
/-- What a call on texts of numbers answers. -/
def TGot (r : Except Int Rat) (e : Ending) : Prop := ∃ (t : List UInt8) (c : Int), e = .returned (.tuple #[.string ⟨t.toArray⟩, .int .i64 c]) ∧ ((∃ z, r = .ok z ∧ small z = true ∧ t = ratText z ∧ c = 0) ∨ (r = .error c ∧ c ≠ 0 ∧ t = []))
theorem lim_text {x : Rat} {p q : Int} {r : List UInt8} {c : Int} (h1 : fitsB p q = small x) (h2 : lowP p q = x.num) (h3 : lowQ p q = (x.den : Int)) (h : LowF p q r c) : (∃ z, lim x = .ok z ∧ small z = true ∧ r = ratText z ∧ c = 0) ∨ (lim x = .error c ∧ c ≠ 0 ∧ r = []) := by
  unfold lim
  rcases h with ⟨hf, rfl, rfl⟩ | ⟨hf, rfl, rfl⟩
  · rw [h1] at hf
    exact Or.inl ⟨x, by rw [if_pos hf], hf, by rw [h2, h3]; rfl, rfl⟩
  · rw [h1] at hf
    exact Or.inr ⟨by rw [hf]; rfl, by decide, rfl⟩
theorem tPlus {x y : Rat} (hx : small x = true) (hy : small y = true) (w : World) (ht : Tab w) : Calls Tryz.prog 27 #[.string (rt x), .string (rt y)] w fun e w' => TGot (lim (x + y)) e ∧ Below w.heap.size w w' := by
  refine (Plus_any (rt x) (rt y) w (by have := rt_size hx; unfold maxLen; omega) (by have := rt_size hy; unfold maxLen; omega) ht).mono ?_
  rintro e w' ⟨⟨r, c, rfl, hs⟩, hb⟩
  refine ⟨⟨r, c, rfl, ?_⟩, hb⟩
  rcases hs with ⟨hn, _, _⟩ | ⟨t1, q1, t2, q2, h1, h2, hf⟩
  · rcases hn with hn | hn
    · exact (hn _ _ (rat_isNum hx)).elim
    · exact (hn _ _ (rat_isNum hy)).elim
  · obtain ⟨rfl, rfl⟩ := h1.unique (rat_isNum hx)
    obtain ⟨rfl, rfl⟩ := h2.unique (rat_isNum hy)
    obtain ⟨p1, p2, p3⟩ := add_pairs x y
    exact lim_text p1 p2 p3 hf
theorem tTimes {x y : Rat} (hx : small x = true) (hy : small y = true) (w : World) (ht : Tab w) : Calls Tryz.prog 54 #[.string (rt x), .string (rt y)] w fun e w' => TGot (lim (x * y)) e ∧ Below w.heap.size w w' := by
  refine (Times_any (rt x) (rt y) w (by have := rt_size hx; unfold maxLen; omega) (by have := rt_size hy; unfold maxLen; omega) ht).mono ?_
  rintro e w' ⟨⟨r, c, rfl, hs⟩, hb⟩
  refine ⟨⟨r, c, rfl, ?_⟩, hb⟩
  rcases hs with ⟨hn, _, _⟩ | ⟨t1, q1, t2, q2, h1, h2, hf⟩
  · rcases hn with hn | hn
    · exact (hn _ _ (rat_isNum hx)).elim
    · exact (hn _ _ (rat_isNum hy)).elim
  · obtain ⟨rfl, rfl⟩ := h1.unique (rat_isNum hx)
    obtain ⟨rfl, rfl⟩ := h2.unique (rat_isNum hy)
    obtain ⟨p1, p2, p3⟩ := mul_pairs x y
    exact lim_text p1 p2 p3 hf
theorem tOver {x : Rat} (hx : small x = true) (w : World) (ht : Tab w) : Calls Tryz.prog 55 #[.string (rt x)] w fun e w' => TGot (overE x) e ∧ Below w.heap.size w w' := by
  refine (Over_any (rt x) w (by have := rt_size hx; unfold maxLen; omega) ht).mono ?_
  rintro e w' ⟨⟨r, c, rfl, hs⟩, hb⟩
  refine ⟨⟨r, c, rfl, ?_⟩, hb⟩
  rcases hs with ⟨hn, _, _⟩ | ⟨t, q, h1, hf⟩
  · exact (hn _ _ (rat_isNum hx)).elim
  · obtain ⟨rfl, rfl⟩ := h1.unique (rat_isNum hx)
    rcases hf with ⟨h0, rfl, rfl⟩ | ⟨h0, rfl, rfl⟩
    · exact Or.inr ⟨by rw [overE, if_pos (num_zero.1 h0)], by decide, rfl⟩
    · have h0' : x ≠ 0 := fun e => h0 (num_zero.2 e)
      obtain ⟨i1, i2⟩ := inv_pairs x h0'
      exact Or.inl ⟨x⁻¹, by rw [overE, if_neg h0'], inv_small hx h0', by rw [ratText, i1, i2]; rfl, rfl⟩
theorem tRoot {x : Rat} (hx : small x = true) (w : World) (ht : Tab w) : Calls Tryz.prog 56 #[.string (rt x)] w fun e w' => TGot (rootE x) e ∧ Below w.heap.size w w' := by
  refine (Root_any (rt x) w (by have := rt_size hx; unfold maxLen; omega) ht).mono ?_
  rintro e w' ⟨⟨r, c, rfl, hs⟩, hb⟩
  refine ⟨⟨r, c, rfl, ?_⟩, hb⟩
  rcases hs with ⟨hn, _, _⟩ | ⟨t, q, h1, hf⟩
  · exact (hn _ _ (rat_isNum hx)).elim
  · obtain ⟨rfl, rfl⟩ := h1.unique (rat_isNum hx)
    rcases hf with ⟨a, b, ha, hb', rfl, rfl⟩ | ⟨h0, rfl, rfl⟩
    · obtain ⟨y, hy, e1, e2⟩ := root_pairs_some ha hb'
      obtain ⟨a1, a2, a3, a4⟩ := small_bd hx
      refine Or.inl ⟨y, by rw [rootE, hy], ?_, by rw [ratText, e1, e2], rfl⟩
      unfold small
      apply decide_eq_true
      have hle : ∀ k : Nat, (k : Int) * k ≤ 1000000000 → k ≤ 1000000000 := by
        intro k hk
        rcases Nat.lt_or_ge k 1 with h | h
        · omega
        · have : k ≤ k * k := Nat.le_mul_of_pos_right k h
          have h2 : ((k * k : Nat) : Int) ≤ 1000000000 := by simpa using hk
          omega
      have g1 := hle a (by rw [ha]; exact a2)
      have g2 := hle b (by rw [hb']; exact a4)
      rw [e1, e2]
      omega
    · exact Or.inr ⟨by rw [rootE, root_pairs_none h0], by decide, rfl⟩
theorem rt_zero : (⟨#[48]⟩ : ByteArray) = rt 0 := by
  have h : ratText 0 = [48] := by
    show itoa 0 ++ _ = _
    rw [M.itoa_pos _ (by omega)]
    show decDigits 0 ++ _ = _
    rw [dec_small 0 (by omega)]
    rfl
  unfold rt
  rw [h]
theorem small_zero : small 0 = true := by decide
theorem lim_self {x : Rat} (h : small x = true) : lim (x + 0) = .ok x := by
  rw [Rat.add_zero, lim, if_pos h]

set_option maxRecDepth 100000 in
set_option maxHeartbeats 800000 in
theorem isNumber_any (s : ByteArray) (w : World) (hs : s.size ≤ maxLen) (ht : Tab w) : Calls Tryz.prog 12 #[.string s] w fun e w' => ((∃ x, small x = true ∧ s = rt x ∧ e = .returned (.bool true)) ∨ ((∀ t b, ¬ IsNum s.data.toList t b) ∧ e = .returned (.bool false))) ∧ Below w.heap.size w w' := by
  have HT := hide ht
  clear ht
  by_cases hn : ∃ t b, IsNum s.data.toList t b
  · obtain ⟨t, b, hn⟩ := hn
    obtain ⟨x, hx, hsx, _, _⟩ := isNum_rat hn
    obtain rfl : s = rt x := by apply ByteArray.ext; apply Array.toList_inj.1; exact hsx
    have HX := hide hx
    clear hn hsx
    go_enter Tryz.func12, Tryz.ntmps12
    go_wp2_with fail
    rw [rt_zero]
    refine (tPlus (unhide HX) small_zero _ (unhide HT)).mono ?_
    rintro e w1 ⟨⟨t, c, rfl, hh⟩, hb⟩
    rw [lim_self (unhide HX)] at hh
    rcases hh with ⟨z, hz, _, rfl, rfl⟩ | ⟨hz, _, _⟩
    · cases hz
      have hrt : (⟨(ratText x).toArray⟩ : ByteArray) = rt x := rfl
      rw [hrt]
      go_wp2_with fail
      go_ret
      exact ⟨Or.inl ⟨x, unhide HX, rfl, rfl⟩, hb⟩
    · cases hz
  · have hn' : ∀ t b, ¬ IsNum s.data.toList t b := fun t b h => hn ⟨t, b, h⟩
    have HN := hide hn'
    clear hn hn'
    go_enter Tryz.func12, Tryz.ntmps12
    go_wp2_with fail
    refine (Plus_any s _ _ hs (by decide) (unhide HT)).mono ?_
    rintro e w1 ⟨⟨r, c, rfl, hh⟩, hb⟩
    rcases hh with ⟨_, rfl, rfl⟩ | ⟨t1, q1, t2, q2, h1, _, _⟩
    · go_wp2_with fail
      go_ret
      exact ⟨Or.inr ⟨unhide HN, rfl⟩, hb⟩
    · exact ((unhide HN) _ _ h1).elim
end Go.Proofs.YtikiaijgcjjloaaGreatDoor

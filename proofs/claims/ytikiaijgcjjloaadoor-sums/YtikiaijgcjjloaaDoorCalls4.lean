/- The walks: Plus and Times, the program's and the document's. -/
import Derived.Test.YtikiaijgcjjloaaDoorRTwo
namespace Go.Proofs.YtikiaijgcjjloaaDoor
open Go Go.RowKit M Go.Lib

def LowF (p q : Int) (r : List UInt8) (c : Int) : Prop := (fitsB p q = true ∧ r = numText (lowP p q) (lowQ p q) ∧ c = 0) ∨ (fitsB p q = false ∧ r = [] ∧ c = 3)
def SumF (t1 q1 t2 q2 : Int) : List UInt8 → Int → Prop := LowF (t1 * q2 + t2 * q1) (q1 * q2)
def ProdF (t1 q1 t2 q2 : Int) : List UInt8 → Int → Prop := LowF (t1 * t2) (q1 * q2)
/-- Two texts: one is no number, or two numbers of which F tells text and error. -/
def Says2 (F : Int → Int → Int → Int → List UInt8 → Int → Prop) (a b : ByteArray) (r : List UInt8) (c : Int) : Prop :=
  (NotBoth a b ∧ r = [] ∧ c = 1) ∨ ∃ t1 q1 t2 q2, IsNum a.data.toList t1 q1 ∧ IsNum b.data.toList t2 q2 ∧ F t1 q1 t2 q2 r c
def Ans2 (F : Int → Int → Int → Int → List UInt8 → Int → Prop) (a b : ByteArray) (e : Ending) : Prop :=
  ∃ r c, e = .returned (.tuple #[.string ⟨List.toArray r⟩, .int .i64 c]) ∧ Says2 F a b r c

theorem lowF_fun {p q : Int} {r r' : List UInt8} {c c' : Int} (h : LowF p q r c) (h' : LowF p q r' c') : r = r' ∧ c = c' := by
  rcases h with ⟨h0, rfl, rfl⟩ | ⟨h0, rfl, rfl⟩ <;> rcases h' with ⟨h1, rfl, rfl⟩ | ⟨h1, rfl, rfl⟩
  · exact ⟨rfl, rfl⟩
  · rw [h0] at h1; cases h1
  · rw [h0] at h1; cases h1
  · exact ⟨rfl, rfl⟩
theorem says2_one {F : Int → Int → Int → Int → List UInt8 → Int → Prop} (hF : ∀ t1 q1 t2 q2 r r' c c', F t1 q1 t2 q2 r c → F t1 q1 t2 q2 r' c' → r = r' ∧ c = c') {a b : ByteArray} {r r' : List UInt8} {c c' : Int}
    (h : Says2 F a b r c) (h' : Says2 F a b r' c') : r = r' ∧ c = c' := by
  rcases h with ⟨h0, rfl, rfl⟩ | ⟨t1, q1, t2, q2, n1, n2, hf⟩ <;> rcases h' with ⟨h1, rfl, rfl⟩ | ⟨t1', q1', t2', q2', n1', n2', hf'⟩
  · exact ⟨rfl, rfl⟩
  · rcases h0 with h0 | h0
    · exact absurd n1' (h0 _ _)
    · exact absurd n2' (h0 _ _)
  · rcases h1 with h1 | h1
    · exact absurd n1 (h1 _ _)
    · exact absurd n2 (h1 _ _)
  · obtain ⟨rfl, rfl⟩ := n1.unique n1'
    obtain ⟨rfl, rfl⟩ := n2.unique n2'
    exact hF _ _ _ _ _ _ _ _ hf hf'
theorem chain_al {w w1 w2 : World} {o o' : Obj} (h1 : Below w.heap.size w w1) (h2 : Below ((w1.alloc o).alloc o').heap.size ((w1.alloc o).alloc o') w2) : Below w.heap.size w w2 :=
  h1.trans (((((Below.refl _ _).alloc (Nat.le_refl _) o).alloc (by simp) o').trans (h2.mono (by simp; omega))).mono h1.size)
theorem chain_al1 {w w1 w2 : World} {o : Obj} (h1 : Below w.heap.size w w1) (h2 : Below (w1.alloc o).heap.size (w1.alloc o) w2) : Below w.heap.size w w2 :=
  h1.trans ((fl_two h2).mono h1.size)

set_option maxRecDepth 100000 in
set_option maxHeartbeats 400000 in
theorem Plus_any (a b : ByteArray) (w : World) (ha : a.size ≤ maxLen) (hb : b.size ≤ maxLen) (ht : Tab w) :
    Calls Tryd.prog 10 #[.string a, .string b] w fun e w' => Ans2 SumF a b e ∧ Below w.heap.size w w' := by
  have HT := hide ht
  clear ht
  go_enter Tryd.func10, Tryd.ntmps10
  go_wp2_with fail
  refine (readTwo_any a b _ ha hb).mono ?_
  rintro e w1 ⟨⟨t1, q1, t2, q2, n1, n2, rfl⟩ | ⟨hn, rfl⟩, hb1⟩
  · have HN1 := hide n1
    have HN2 := hide n2
    have i1 := n1.lo; have i2 := n1.hi; have i3 := n1.b1; have i4 := n1.b2
    have j1 := n2.lo; have j2 := n2.hi; have j3 := n2.b1; have j4 := n2.b2
    clear n1 n2
    go_wp2_with fail
    refine (nPlus_any t1 q1 t2 q2 _ i1 i2 i3 i4 j1 j2 j3 j4).mono ?_
    rintro e w2 ⟨⟨hf, rfl⟩ | ⟨hf, rfl⟩, hb2⟩
    · obtain ⟨k1, k2, k3, k4⟩ := fits_bd (t1 * q2 + t2 * q1) (q1 * q2) (mul_pos1 q1 q2 i3 j3) hf
      have HA := hide (show Says2 SumF a b (numText (lowP (t1 * q2 + t2 * q1) (q1 * q2)) (lowQ (t1 * q2 + t2 * q1) (q1 * q2))) 0 from Or.inr ⟨t1, q1, t2, q2, unhide HN1, unhide HN2, Or.inl ⟨hf, rfl, rfl⟩⟩)
      clear hf HN1 HN2
      generalize lowP (t1 * q2 + t2 * q1) (q1 * q2) = P at *
      generalize lowQ (t1 * q2 + t2 * q1) (q1 * q2) = Q at *
      go_wp2_with fail
      refine (write_ok P Q _ k1 k2 k3 k4 (tab_alloc (tab_below (unhide HT) (chain_al hb1 hb2)) _)).mono ?_
      rintro e w3 ⟨rfl, hb3⟩
      go_wp2_with fail
      go_ret2
      exact ⟨⟨_, 0, rfl, unhide HA⟩, chain_al1 (chain_al hb1 hb2) hb3⟩
    · have HA := hide (show Says2 SumF a b [] 3 from Or.inr ⟨t1, q1, t2, q2, unhide HN1, unhide HN2, Or.inr ⟨hf, rfl, rfl⟩⟩)
      clear hf HN1 HN2
      go_wp2_with fail
      refine (write_err 0 0 3 _ rfl).mono ?_
      rintro e w3 ⟨rfl, hb3⟩
      go_wp2_with fail
      go_ret2
      exact ⟨⟨[], 3, rfl, unhide HA⟩, chain_al1 (chain_al hb1 hb2) hb3⟩
  · have HN := hide hn
    clear hn
    go_wp2_with fail
    go_ret2
    exact ⟨⟨[], 1, rfl, Or.inl ⟨unhide HN, rfl, rfl⟩⟩, hb1.trans ((((Below.refl _ _).alloc (Nat.le_refl _) _).alloc (by simp) _).mono hb1.size)⟩

set_option maxRecDepth 100000 in
set_option maxHeartbeats 400000 in
theorem Times_any (a b : ByteArray) (w : World) (ha : a.size ≤ maxLen) (hb : b.size ≤ maxLen) (ht : Tab w) :
    Calls Tryd.prog 13 #[.string a, .string b] w fun e w' => Ans2 ProdF a b e ∧ Below w.heap.size w w' := by
  have HT := hide ht
  clear ht
  go_enter Tryd.func13, Tryd.ntmps13
  go_wp2_with fail
  refine (readTwo_any a b _ ha hb).mono ?_
  rintro e w1 ⟨⟨t1, q1, t2, q2, n1, n2, rfl⟩ | ⟨hn, rfl⟩, hb1⟩
  · have HN1 := hide n1
    have HN2 := hide n2
    have i1 := n1.lo; have i2 := n1.hi; have i3 := n1.b1; have i4 := n1.b2
    have j1 := n2.lo; have j2 := n2.hi; have j3 := n2.b1; have j4 := n2.b2
    clear n1 n2
    go_wp2_with fail
    refine (nTimes_any t1 q1 t2 q2 _ i1 i2 i3 i4 j1 j2 j3 j4).mono ?_
    rintro e w2 ⟨⟨hf, rfl⟩ | ⟨hf, rfl⟩, hb2⟩
    · obtain ⟨k1, k2, k3, k4⟩ := fits_bd (t1 * t2) (q1 * q2) (mul_pos1 q1 q2 i3 j3) hf
      have HA := hide (show Says2 ProdF a b (numText (lowP (t1 * t2) (q1 * q2)) (lowQ (t1 * t2) (q1 * q2))) 0 from Or.inr ⟨t1, q1, t2, q2, unhide HN1, unhide HN2, Or.inl ⟨hf, rfl, rfl⟩⟩)
      clear hf HN1 HN2
      generalize lowP (t1 * t2) (q1 * q2) = P at *
      generalize lowQ (t1 * t2) (q1 * q2) = Q at *
      go_wp2_with fail
      refine (write_ok P Q _ k1 k2 k3 k4 (tab_alloc (tab_below (unhide HT) (chain_al hb1 hb2)) _)).mono ?_
      rintro e w3 ⟨rfl, hb3⟩
      go_wp2_with fail
      go_ret2
      exact ⟨⟨_, 0, rfl, unhide HA⟩, chain_al1 (chain_al hb1 hb2) hb3⟩
    · have HA := hide (show Says2 ProdF a b [] 3 from Or.inr ⟨t1, q1, t2, q2, unhide HN1, unhide HN2, Or.inr ⟨hf, rfl, rfl⟩⟩)
      clear hf HN1 HN2
      go_wp2_with fail
      refine (write_err 0 0 3 _ rfl).mono ?_
      rintro e w3 ⟨rfl, hb3⟩
      go_wp2_with fail
      go_ret2
      exact ⟨⟨[], 3, rfl, unhide HA⟩, chain_al1 (chain_al hb1 hb2) hb3⟩
  · have HN := hide hn
    clear hn
    go_wp2_with fail
    go_ret2
    exact ⟨⟨[], 1, rfl, Or.inl ⟨unhide HN, rfl, rfl⟩⟩, hb1.trans ((((Below.refl _ _).alloc (Nat.le_refl _) _).alloc (by simp) _).mono hb1.size)⟩

set_option maxRecDepth 100000 in
set_option maxHeartbeats 400000 in
theorem rPlus_any (a b : ByteArray) (w : World) (ha : a.size ≤ maxLen) (hb : b.size ≤ maxLen) :
    Calls Tryd.prog 11 #[.string a, .string b] w fun e w' => Ans2 SumF a b e ∧ Below w.heap.size w w' := by
  go_enter Tryd.func11, Tryd.ntmps11
  go_wp2_with fail
  refine (two_any a b _ ha hb).mono ?_
  rintro e w1 ⟨⟨t1, q1, t2, q2, n1, n2, rfl⟩ | ⟨hn, t1, q1, t2, q2, rfl⟩, hb1⟩
  · have HN1 := hide n1
    have HN2 := hide n2
    have i1 := n1.lo; have i2 := n1.hi; have i3 := n1.b1; have i4 := n1.b2
    have j1 := n2.lo; have j2 := n2.hi; have j3 := n2.b1; have j4 := n2.b2
    clear n1 n2
    go_wp2_with fail
    refine (rAdd_any t1 q1 t2 q2 _ i1 i2 i3 i4 j1 j2 j3 j4).mono ?_
    rintro e w2 ⟨⟨hf, rfl⟩ | ⟨hf, rfl⟩, hb2⟩
    · obtain ⟨k1, k2, k3, k4⟩ := fits_bd (t1 * q2 + t2 * q1) (q1 * q2) (mul_pos1 q1 q2 i3 j3) hf
      have HA := hide (show Says2 SumF a b (numText (lowP (t1 * q2 + t2 * q1) (q1 * q2)) (lowQ (t1 * q2 + t2 * q1) (q1 * q2))) 0 from Or.inr ⟨t1, q1, t2, q2, unhide HN1, unhide HN2, Or.inl ⟨hf, rfl, rfl⟩⟩)
      clear hf HN1 HN2
      generalize lowP (t1 * q2 + t2 * q1) (q1 * q2) = P at *
      generalize lowQ (t1 * q2 + t2 * q1) (q1 * q2) = Q at *
      go_wp2_with fail
      refine (told_ok P Q _ k1 k2 k3 k4).mono ?_
      rintro e w3 ⟨rfl, hb3⟩
      go_wp2_with fail
      go_ret2
      exact ⟨⟨_, 0, rfl, unhide HA⟩, chain_al1 (chain_al hb1 hb2) hb3⟩
    · have HA := hide (show Says2 SumF a b [] 3 from Or.inr ⟨t1, q1, t2, q2, unhide HN1, unhide HN2, Or.inr ⟨hf, rfl, rfl⟩⟩)
      clear hf HN1 HN2
      go_wp2_with fail
      refine (told_err 0 1 3 _ rfl).mono ?_
      rintro e w3 ⟨rfl, hb3⟩
      go_wp2_with fail
      go_ret2
      exact ⟨⟨[], 3, rfl, unhide HA⟩, chain_al1 (chain_al hb1 hb2) hb3⟩
  · have HN := hide hn
    clear hn
    go_wp2_with fail
    go_ret2
    exact ⟨⟨[], 1, rfl, Or.inl ⟨unhide HN, rfl, rfl⟩⟩, hb1.trans ((((Below.refl _ _).alloc (Nat.le_refl _) _).alloc (by simp) _).mono hb1.size)⟩

set_option maxRecDepth 100000 in
set_option maxHeartbeats 400000 in
theorem rTimes_any (a b : ByteArray) (w : World) (ha : a.size ≤ maxLen) (hb : b.size ≤ maxLen) :
    Calls Tryd.prog 14 #[.string a, .string b] w fun e w' => Ans2 ProdF a b e ∧ Below w.heap.size w w' := by
  go_enter Tryd.func14, Tryd.ntmps14
  go_wp2_with fail
  refine (two_any a b _ ha hb).mono ?_
  rintro e w1 ⟨⟨t1, q1, t2, q2, n1, n2, rfl⟩ | ⟨hn, t1, q1, t2, q2, rfl⟩, hb1⟩
  · have HN1 := hide n1
    have HN2 := hide n2
    have i1 := n1.lo; have i2 := n1.hi; have i3 := n1.b1; have i4 := n1.b2
    have j1 := n2.lo; have j2 := n2.hi; have j3 := n2.b1; have j4 := n2.b2
    clear n1 n2
    go_wp2_with fail
    refine (rMul_any t1 q1 t2 q2 _ i1 i2 i3 i4 j1 j2 j3 j4).mono ?_
    rintro e w2 ⟨⟨hf, rfl⟩ | ⟨hf, rfl⟩, hb2⟩
    · obtain ⟨k1, k2, k3, k4⟩ := fits_bd (t1 * t2) (q1 * q2) (mul_pos1 q1 q2 i3 j3) hf
      have HA := hide (show Says2 ProdF a b (numText (lowP (t1 * t2) (q1 * q2)) (lowQ (t1 * t2) (q1 * q2))) 0 from Or.inr ⟨t1, q1, t2, q2, unhide HN1, unhide HN2, Or.inl ⟨hf, rfl, rfl⟩⟩)
      clear hf HN1 HN2
      generalize lowP (t1 * t2) (q1 * q2) = P at *
      generalize lowQ (t1 * t2) (q1 * q2) = Q at *
      go_wp2_with fail
      refine (told_ok P Q _ k1 k2 k3 k4).mono ?_
      rintro e w3 ⟨rfl, hb3⟩
      go_wp2_with fail
      go_ret2
      exact ⟨⟨_, 0, rfl, unhide HA⟩, chain_al1 (chain_al hb1 hb2) hb3⟩
    · have HA := hide (show Says2 ProdF a b [] 3 from Or.inr ⟨t1, q1, t2, q2, unhide HN1, unhide HN2, Or.inr ⟨hf, rfl, rfl⟩⟩)
      clear hf HN1 HN2
      go_wp2_with fail
      refine (told_err 0 1 3 _ rfl).mono ?_
      rintro e w3 ⟨rfl, hb3⟩
      go_wp2_with fail
      go_ret2
      exact ⟨⟨[], 3, rfl, unhide HA⟩, chain_al1 (chain_al hb1 hb2) hb3⟩
  · have HN := hide hn
    clear hn
    go_wp2_with fail
    go_ret2
    exact ⟨⟨[], 1, rfl, Or.inl ⟨unhide HN, rfl, rfl⟩⟩, hb1.trans ((((Below.refl _ _).alloc (Nat.le_refl _) _).alloc (by simp) _).mono hb1.size)⟩
end Go.Proofs.YtikiaijgcjjloaaDoor

/- The walks: Over of the document, Root of both. -/
import Derived.Test.YtikiaijgcjjloaaDoorCalls2
namespace Go.Proofs.YtikiaijgcjjloaaDoor
open Go Go.RowKit M Go.Lib

set_option maxRecDepth 100000 in
set_option maxHeartbeats 400000 in
theorem rOver_any (s : ByteArray) (w : World) (hs : s.size ≤ maxLen) :
    Calls Tryd.prog 16 #[.string s] w fun e w' => Ans1 OverF s e ∧ Below w.heap.size w w' := by
  go_enter Tryd.func16, Tryd.ntmps16
  go_wp2_with fail
  refine (RRead_any s _ hs).mono ?_
  rintro e w1 ⟨⟨t, b, hn, rfl⟩ | ⟨hn, p, q, rfl⟩, hb1⟩
  · have HN := hide hn
    have i1 := hn.lo; have i2 := hn.hi; have i3 := hn.b1; have i4 := hn.b2
    clear hn
    go_wp2_with fail
    refine (rInv_any t b _ i1 i2 i3 i4).mono ?_
    rintro e w2 ⟨⟨h0, rfl⟩ | ⟨h0, rfl⟩, hb2⟩
    · have H0 := hide h0
      clear h0
      go_wp2_with fail
      refine (told_err 0 1 2 _ rfl).mono ?_
      rintro e w3 ⟨rfl, hb3⟩
      go_wp2_with fail
      go_ret2
      exact ⟨⟨[], 2, rfl, Or.inr ⟨t, b, unhide HN, Or.inl ⟨unhide H0, rfl, rfl⟩⟩⟩, (hb1.trans ((fl_two hb2).mono hb1.size)).trans ((fl_two hb3).mono (by have := (fl_two hb2).size; have := hb1.size; omega))⟩
    · have H0 := hide h0
      clear h0
      obtain ⟨j1, j2, j3, j4⟩ := over_bd t b i1 i2 i3 i4 (unhide H0)
      go_wp2_with fail
      refine (told_ok (overP t b) (overQ t b) _ j1 j2 j3 j4).mono ?_
      rintro e w3 ⟨rfl, hb3⟩
      go_wp2_with fail
      go_ret2
      exact ⟨⟨_, 0, rfl, Or.inr ⟨t, b, unhide HN, Or.inr ⟨unhide H0, rfl, rfl⟩⟩⟩, (hb1.trans ((fl_two hb2).mono hb1.size)).trans ((fl_two hb3).mono (by have := (fl_two hb2).size; have := hb1.size; omega))⟩
  · have HN := hide hn
    clear hn
    go_wp2_with fail
    go_ret2
    exact ⟨⟨[], 1, rfl, Or.inl ⟨unhide HN, rfl, rfl⟩⟩, hb1.trans (((Below.refl _ _).alloc (Nat.le_refl _) _).mono hb1.size)⟩

set_option maxRecDepth 100000 in
set_option maxHeartbeats 400000 in
theorem Root_any (s : ByteArray) (w : World) (hs : s.size ≤ maxLen) (ht : Tab w) :
    Calls Tryd.prog 17 #[.string s] w fun e w' => Ans1 RootF s e ∧ Below w.heap.size w w' := by
  have HT := hide ht
  clear ht
  go_enter Tryd.func17, Tryd.ntmps17
  go_wp2_with fail
  refine (Read_any s _ hs).mono ?_
  rintro e w1 ⟨⟨t, b, hn, rfl⟩ | ⟨hn, rfl⟩, hb1⟩
  · have HN := hide hn
    have i1 := hn.lo; have i2 := hn.hi; have i3 := hn.b1; have i4 := hn.b2
    clear hn
    go_wp2_with fail
    refine (nRoot_any t b _ i1 i2 i3 i4).mono ?_
    rintro e w2 ⟨⟨x, y, hx, hy, rfl⟩ | ⟨h0, rfl⟩, hb2⟩
    · have HX := hide hx
      have HY := hide hy
      have j2 := sq_bound x t i2 (by omega)
      have j4 := sq_bound y b i4 (by omega)
      have j3 := root_pos y b hy i3
      clear hx hy
      go_wp2_with fail
      refine (write_ok x y _ (by omega) (by omega) (by omega) (by omega) (tab_alloc (tab_below (tab_below (unhide HT) hb1) (fl_two hb2)) _)).mono ?_
      rintro e w3 ⟨rfl, hb3⟩
      go_wp2_with fail
      go_ret2
      exact ⟨⟨_, 0, rfl, Or.inr ⟨t, b, unhide HN, Or.inl ⟨x, y, unhide HX, unhide HY, rfl, rfl⟩⟩⟩, (hb1.trans ((fl_two hb2).mono hb1.size)).trans ((fl_two hb3).mono (by have := (fl_two hb2).size; have := hb1.size; omega))⟩
    · have H0 := hide h0
      clear h0
      go_wp2_with fail
      refine (write_err 0 0 2 _ rfl).mono ?_
      rintro e w3 ⟨rfl, hb3⟩
      go_wp2_with fail
      go_ret2
      exact ⟨⟨[], 2, rfl, Or.inr ⟨t, b, unhide HN, Or.inr ⟨unhide H0, rfl, rfl⟩⟩⟩, (hb1.trans ((fl_two hb2).mono hb1.size)).trans ((fl_two hb3).mono (by have := (fl_two hb2).size; have := hb1.size; omega))⟩
  · have HN := hide hn
    clear hn
    go_wp2_with fail
    go_ret2
    exact ⟨⟨[], 1, rfl, Or.inl ⟨unhide HN, rfl, rfl⟩⟩, hb1.trans (((Below.refl _ _).alloc (Nat.le_refl _) _).mono hb1.size)⟩

set_option maxRecDepth 100000 in
set_option maxHeartbeats 400000 in
theorem rRoot_any (s : ByteArray) (w : World) (hs : s.size ≤ maxLen) :
    Calls Tryd.prog 18 #[.string s] w fun e w' => Ans1 RootF s e ∧ Below w.heap.size w w' := by
  go_enter Tryd.func18, Tryd.ntmps18
  go_wp2_with fail
  refine (RRead_any s _ hs).mono ?_
  rintro e w1 ⟨⟨t, b, hn, rfl⟩ | ⟨hn, p, q, rfl⟩, hb1⟩
  · have HN := hide hn
    have i1 := hn.lo; have i2 := hn.hi; have i3 := hn.b1; have i4 := hn.b2
    clear hn
    go_wp2_with fail
    refine (rSqrt_any t b _ i2 i4).mono ?_
    rintro e w2 ⟨⟨x, y, hx, hy, rfl⟩ | ⟨h0, rfl⟩, hb2⟩
    · have HX := hide hx
      have HY := hide hy
      have j2 := sq_bound x t i2 (by omega)
      have j4 := sq_bound y b i4 (by omega)
      have j3 := root_pos y b hy i3
      clear hx hy
      go_wp2_with fail
      refine (told_ok x y _ (by omega) (by omega) (by omega) (by omega)).mono ?_
      rintro e w3 ⟨rfl, hb3⟩
      go_wp2_with fail
      go_ret2
      exact ⟨⟨_, 0, rfl, Or.inr ⟨t, b, unhide HN, Or.inl ⟨x, y, unhide HX, unhide HY, rfl, rfl⟩⟩⟩, (hb1.trans ((fl_two hb2).mono hb1.size)).trans ((fl_two hb3).mono (by have := (fl_two hb2).size; have := hb1.size; omega))⟩
    · have H0 := hide h0
      clear h0
      go_wp2_with fail
      refine (told_err 0 1 2 _ rfl).mono ?_
      rintro e w3 ⟨rfl, hb3⟩
      go_wp2_with fail
      go_ret2
      exact ⟨⟨[], 2, rfl, Or.inr ⟨t, b, unhide HN, Or.inr ⟨unhide H0, rfl, rfl⟩⟩⟩, (hb1.trans ((fl_two hb2).mono hb1.size)).trans ((fl_two hb3).mono (by have := (fl_two hb2).size; have := hb1.size; omega))⟩
  · have HN := hide hn
    clear hn
    go_wp2_with fail
    go_ret2
    exact ⟨⟨[], 1, rfl, Or.inl ⟨unhide HN, rfl, rfl⟩⟩, hb1.trans (((Below.refl _ _).alloc (Nat.le_refl _) _).mono hb1.size)⟩
end Go.Proofs.YtikiaijgcjjloaaDoor

/- The walks: roots of numbers; a result written; two texts read. -/
import Derived.Test.YtikiaijgcjjloaaDoorCalls1
namespace Go.Proofs.YtikiaijgcjjloaaDoor
open Go Go.RowKit M Go.Lib

theorem root_pos (y : Nat) (b : Int) (h : (y : Int) * y = b) (hb : 1 ≤ b) : 1 ≤ y := by
  rcases Nat.eq_zero_or_pos y with h0 | h0
  · subst h0; simp at h; omega
  · exact h0

set_option maxRecDepth 100000 in
set_option maxHeartbeats 400000 in
theorem nRoot_any (t b : Int) (w : World) (h1 : -1000000000 ≤ t) (h2 : t ≤ 1000000000) (h3 : 1 ≤ b) (h4 : b ≤ 1000000000) :
    Calls Tryd.prog 37 #[.agg #[.int .i64 t, .int .i64 b]] w fun e w' => ((∃ x y : Nat, (x : Int) * x = t ∧ (y : Int) * y = b ∧ e = .returned (.tuple #[.agg #[.int .i64 x, .int .i64 y], .int .i64 0])) ∨ ((noRoot t ∨ noRoot b) ∧ e = .returned (.tuple #[.agg #[.int .i64 0, .int .i64 0], .int .i64 2]))) ∧ Below w.heap.size w w' := by
  go_enter Tryd.func37, Tryd.ntmps37
  go_wp2_with fail
  refine (wholeRoot_any t _ h2 h1).mono ?_
  rintro e w' ⟨⟨x, hx, rfl⟩ | ⟨hx, rfl⟩, rfl⟩
  · have HX := hide hx
    clear hx
    go_wp2_with fail
    refine (wholeRoot_any b _ h4 (by omega)).mono ?_
    rintro e w' ⟨⟨y, hy, rfl⟩ | ⟨hy, rfl⟩, rfl⟩
    · have HY := hide hy
      clear hy
      go_wp2_with fail
      exact bodyPost_ret (v := .tuple #[.agg #[.int .i64 x, .int .i64 y], .int .i64 0]) (by simp [results, Tryd.results37, go_sem]) rfl ⟨Or.inl ⟨x, y, unhide HX, unhide HY, rfl⟩, (by repeat (first | exact Below.refl _ _ | refine below_dr ?_ _ | refine Below.drew ?_ | refine Below.setCell ?_ (by simp) _ | refine Below.alloc ?_ (by simp) _))⟩
    · have HY := hide hy
      clear hy
      go_wp2_with fail
      exact bodyPost_ret (v := .tuple #[.agg #[.int .i64 0, .int .i64 0], .int .i64 2]) (by simp [results, Tryd.results37, go_sem]) rfl ⟨Or.inr ⟨Or.inr (unhide HY), rfl⟩, (by repeat (first | exact Below.refl _ _ | refine below_dr ?_ _ | refine Below.drew ?_ | refine Below.setCell ?_ (by simp) _ | refine Below.alloc ?_ (by simp) _))⟩
  · have HX := hide hx
    clear hx
    go_wp2_with fail
    refine (wholeRoot_any b _ h4 (by omega)).mono ?_
    rintro e w' ⟨⟨y, hy, rfl⟩ | ⟨hy, rfl⟩, rfl⟩
    all_goals
      clear hy
      go_wp2_with fail
      exact bodyPost_ret (v := .tuple #[.agg #[.int .i64 0, .int .i64 0], .int .i64 2]) (by simp [results, Tryd.results37, go_sem]) rfl ⟨Or.inr ⟨Or.inl (unhide HX), rfl⟩, (by repeat (first | exact Below.refl _ _ | refine below_dr ?_ _ | refine Below.drew ?_ | refine Below.setCell ?_ (by simp) _ | refine Below.alloc ?_ (by simp) _))⟩

set_option maxRecDepth 100000 in
set_option maxHeartbeats 400000 in
theorem rSqrt_any (t b : Int) (w : World) (h2 : t ≤ 1000000000) (h4 : b ≤ 1000000000) :
    Calls Tryd.prog 38 #[.agg #[.int .i64 t, .int .i64 b]] w fun e w' => ((∃ x y : Nat, (x : Int) * x = t ∧ (y : Int) * y = b ∧ e = .returned (.tuple #[.agg #[.int .i64 x, .int .i64 y], .int .i64 0])) ∨ ((noRoot t ∨ noRoot b) ∧ e = .returned (.tuple #[.agg #[.int .i64 0, .int .i64 1], .int .i64 2]))) ∧ Below w.heap.size w w' := by
  go_enter Tryd.func38, Tryd.ntmps38
  go_wp2_with fail
  refine (side_any t _ h2).mono ?_
  rintro e w' ⟨⟨x, hx, rfl⟩ | ⟨hx, rfl⟩, rfl⟩
  · have HX := hide hx
    clear hx
    go_wp2_with fail
    refine (side_any b _ h4).mono ?_
    rintro e w' ⟨⟨y, hy, rfl⟩ | ⟨hy, rfl⟩, rfl⟩
    · have HY := hide hy
      clear hy
      have hx0 : ¬ (x : Int) < 0 := by omega
      have hy0 : ¬ (y : Int) < 0 := by omega
      go_wp2_with fail
      exact bodyPost_ret (v := .tuple #[.agg #[.int .i64 x, .int .i64 y], .int .i64 0]) (by simp [results, Tryd.results38, go_sem]) rfl ⟨Or.inl ⟨x, y, unhide HX, unhide HY, rfl⟩, (by repeat (first | exact Below.refl _ _ | refine below_dr ?_ _ | refine Below.drew ?_ | refine Below.setCell ?_ (by simp) _ | refine Below.alloc ?_ (by simp) _))⟩
    · have HY := hide hy
      clear hy
      have hx0 : ¬ (x : Int) < 0 := by omega
      go_wp2_with fail
      exact bodyPost_ret (v := .tuple #[.agg #[.int .i64 0, .int .i64 1], .int .i64 2]) (by simp [results, Tryd.results38, go_sem]) rfl ⟨Or.inr ⟨Or.inr (unhide HY), rfl⟩, (by repeat (first | exact Below.refl _ _ | refine below_dr ?_ _ | refine Below.drew ?_ | refine Below.setCell ?_ (by simp) _ | refine Below.alloc ?_ (by simp) _))⟩
  · have HX := hide hx
    clear hx
    go_wp2_with fail
    refine (side_any b _ h4).mono ?_
    rintro e w' ⟨⟨y, hy, rfl⟩ | ⟨hy, rfl⟩, rfl⟩
    all_goals
      clear hy
      go_wp2_with fail
      exact bodyPost_ret (v := .tuple #[.agg #[.int .i64 0, .int .i64 1], .int .i64 2]) (by simp [results, Tryd.results38, go_sem]) rfl ⟨Or.inr ⟨Or.inl (unhide HX), rfl⟩, (by repeat (first | exact Below.refl _ _ | refine below_dr ?_ _ | refine Below.drew ?_ | refine Below.setCell ?_ (by simp) _ | refine Below.alloc ?_ (by simp) _))⟩

theorem fl_two {w w1 : World} {o : Obj} (hb : Below (w.alloc o).heap.size (w.alloc o) w1) : Below w.heap.size w w1 := ((Below.refl _ _).alloc (Nat.le_refl _) _).trans (hb.mono (by simp))

set_option maxRecDepth 100000 in
set_option maxHeartbeats 400000 in
theorem write_ok (p q : Int) (w : World) (h1 : -1000000000 ≤ p) (h2 : p ≤ 1000000000) (h3 : 1 ≤ q) (h4 : q ≤ 1000000000) (ht : Tab w) :
    Calls Tryd.prog 27 #[.agg #[.int .i64 p, .int .i64 q], .int .i64 0] w fun e w' => e = .returned (.tuple #[.string ⟨(numText p q).toArray⟩, .int .i64 0]) ∧ Below w.heap.size w w' := by
  have HT := hide ht
  clear ht
  go_enter Tryd.func27, Tryd.ntmps27
  go_wp2_with fail
  refine (Text_any p q _ h1 h2 h3 h4 (tab_alloc (unhide HT) _)).mono ?_
  rintro e w1 ⟨rfl, hb⟩
  go_wp2_with fail
  go_ret2
  exact ⟨rfl, fl_two hb⟩
set_option maxRecDepth 100000 in
set_option maxHeartbeats 400000 in
theorem write_err (p q c : Int) (w : World) (hc : (c != 0) = true) :
    Calls Tryd.prog 27 #[.agg #[.int .i64 p, .int .i64 q], .int .i64 c] w fun e w' => e = .returned (.tuple #[.string ⟨#[]⟩, .int .i64 c]) ∧ Below w.heap.size w w' := by
  go_enter Tryd.func27, Tryd.ntmps27
  go_wp2_with fail
  go_ret2
  exact ⟨rfl, (by repeat (first | exact Below.refl _ _ | refine below_dr ?_ _ | refine Below.drew ?_ | refine Below.setCell ?_ (by simp) _ | refine Below.alloc ?_ (by simp) _))⟩
set_option maxRecDepth 100000 in
set_option maxHeartbeats 400000 in
theorem told_ok (p q : Int) (w : World) (h1 : -1000000000 ≤ p) (h2 : p ≤ 1000000000) (h3 : 1 ≤ q) (h4 : q ≤ 1000000000) :
    Calls Tryd.prog 30 #[.agg #[.int .i64 p, .int .i64 q], .int .i64 0] w fun e w' => e = .returned (.tuple #[.string ⟨(numText p q).toArray⟩, .int .i64 0]) ∧ Below w.heap.size w w' := by
  go_enter Tryd.func30, Tryd.ntmps30
  go_wp2_with fail
  refine (rText_any p q _ h1 h2 h3 h4).mono ?_
  rintro e w1 ⟨rfl, hb⟩
  go_wp2_with fail
  go_ret2
  exact ⟨rfl, fl_two hb⟩
set_option maxRecDepth 100000 in
set_option maxHeartbeats 400000 in
theorem told_err (p q c : Int) (w : World) (hc : (c != 0) = true) :
    Calls Tryd.prog 30 #[.agg #[.int .i64 p, .int .i64 q], .int .i64 c] w fun e w' => e = .returned (.tuple #[.string ⟨#[]⟩, .int .i64 c]) ∧ Below w.heap.size w w' := by
  go_enter Tryd.func30, Tryd.ntmps30
  go_wp2_with fail
  go_ret2
  exact ⟨rfl, (by repeat (first | exact Below.refl _ _ | refine below_dr ?_ _ | refine Below.drew ?_ | refine Below.setCell ?_ (by simp) _ | refine Below.alloc ?_ (by simp) _))⟩

/-! ### What is answered -/
/-- One text: no number, or a number of which F tells text and error. -/
def Ans1 (F : Int → Int → List UInt8 → Int → Prop) (s : ByteArray) (e : Ending) : Prop :=
  ∃ r c, e = .returned (.tuple #[.string ⟨List.toArray r⟩, .int .i64 c]) ∧ (((∀ t b, ¬ IsNum s.data.toList t b) ∧ r = [] ∧ c = 1) ∨ ∃ t b, IsNum s.data.toList t b ∧ F t b r c)
def OverF (t b : Int) (r : List UInt8) (c : Int) : Prop := (t = 0 ∧ r = [] ∧ c = 2) ∨ (t ≠ 0 ∧ r = numText (overP t b) (overQ t b) ∧ c = 0)
def RootF (t b : Int) (r : List UInt8) (c : Int) : Prop := (∃ x y : Nat, (x : Int) * x = t ∧ (y : Int) * y = b ∧ r = numText x y ∧ c = 0) ∨ ((noRoot t ∨ noRoot b) ∧ r = [] ∧ c = 2)

set_option maxRecDepth 100000 in
set_option maxHeartbeats 400000 in
theorem Over_any (s : ByteArray) (w : World) (hs : s.size ≤ maxLen) (ht : Tab w) :
    Calls Tryd.prog 15 #[.string s] w fun e w' => Ans1 OverF s e ∧ Below w.heap.size w w' := by
  have HT := hide ht
  clear ht
  go_enter Tryd.func15, Tryd.ntmps15
  go_wp2_with fail
  refine (Read_any s _ hs).mono ?_
  rintro e w1 ⟨⟨t, b, hn, rfl⟩ | ⟨hn, rfl⟩, hb1⟩
  · have HN := hide hn
    have i1 := hn.lo; have i2 := hn.hi; have i3 := hn.b1; have i4 := hn.b2
    clear hn
    go_wp2_with fail
    refine (nOver_any t b _ i1 i2 i3 i4).mono ?_
    rintro e w2 ⟨⟨h0, rfl⟩ | ⟨h0, rfl⟩, hb2⟩
    · have H0 := hide h0
      clear h0
      go_wp2_with fail
      refine (write_err 0 0 2 _ rfl).mono ?_
      rintro e w3 ⟨rfl, hb3⟩
      go_wp2_with fail
      go_ret2
      exact ⟨⟨[], 2, rfl, Or.inr ⟨t, b, unhide HN, Or.inl ⟨unhide H0, rfl, rfl⟩⟩⟩, (hb1.trans ((fl_two hb2).mono hb1.size)).trans ((fl_two hb3).mono (by have := (fl_two hb2).size; have := hb1.size; omega))⟩
    · have H0 := hide h0
      clear h0
      obtain ⟨j1, j2, j3, j4⟩ := over_bd t b i1 i2 i3 i4 (unhide H0)
      go_wp2_with fail
      refine (write_ok (overP t b) (overQ t b) _ j1 j2 j3 j4 (tab_alloc (tab_below (tab_below (unhide HT) hb1) (fl_two hb2)) _)).mono ?_
      rintro e w3 ⟨rfl, hb3⟩
      go_wp2_with fail
      go_ret2
      exact ⟨⟨_, 0, rfl, Or.inr ⟨t, b, unhide HN, Or.inr ⟨unhide H0, rfl, rfl⟩⟩⟩, (hb1.trans ((fl_two hb2).mono hb1.size)).trans ((fl_two hb3).mono (by have := (fl_two hb2).size; have := hb1.size; omega))⟩
  · have HN := hide hn
    clear hn
    go_wp2_with fail
    go_ret2
    exact ⟨⟨[], 1, rfl, Or.inl ⟨unhide HN, rfl, rfl⟩⟩, hb1.trans (((Below.refl _ _).alloc (Nat.le_refl _) _).mono hb1.size)⟩
end Go.Proofs.YtikiaijgcjjloaaDoor

import Derived.Test.YtikiaijgcjjloaaGreatDoorPart19
import Derived.Deep.RegionHeld3

/- The walks: roots of numbers; a result written; two texts read. -/
namespace Go.Proofs.YtikiaijgcjjloaaGreatDoor
open Go Go.RowKit M Go.Lib

theorem root_pos (y : Nat) (b : Int) (h : (y : Int) * y = b) (hb : 1 ≤ b) : 1 ≤ y := by
  rcases Nat.eq_zero_or_pos y with h0 | h0
  · subst h0; simp at h; omega
  · exact h0

set_option maxRecDepth 100000 in
set_option maxHeartbeats 400000 in
theorem nRoot_any (t b : Int) (w : World) (h1 : -1000000000 ≤ t) (h2 : t ≤ 1000000000) (h3 : 1 ≤ b) (h4 : b ≤ 1000000000) :
    Calls Tryz.prog 91 #[.agg #[.int .i64 t, .int .i64 b]] w fun e w' => ((∃ x y : Nat, (x : Int) * x = t ∧ (y : Int) * y = b ∧ e = .returned (.tuple #[.agg #[.int .i64 x, .int .i64 y], .int .i64 0])) ∨ ((noRoot t ∨ noRoot b) ∧ e = .returned (.tuple #[.agg #[.int .i64 0, .int .i64 0], .int .i64 2]))) ∧ Below w.heap.size w w' := by
  go_enter Tryz.func91, Tryz.ntmps91
  go_wp2_with fail
  refine (wholeRoot_any t _ h2 h1).mono ?_
  rintro e w' ⟨⟨x, hx, rfl⟩ | ⟨hx, rfl⟩, rfl⟩
  · have HX := hide hx
    clear hx
    go_wp2_with fail
    refine (wholeRoot_any b _ h4 (by omega)).mono ?_
    rintro e w' ⟨⟨y, hy, rfl⟩ | ⟨hy, rfl⟩, rfl⟩
    · have HY := hide hy
      clear hy
      go_wp2_with fail
      exact bodyPost_ret (v := .tuple #[.agg #[.int .i64 x, .int .i64 y], .int .i64 0]) (by simp [results, Tryz.results91, go_sem]) rfl ⟨Or.inl ⟨x, y, unhide HX, unhide HY, rfl⟩, (by repeat (first | exact Below.refl _ _ | refine below_dr ?_ _ | refine Below.drew ?_ | refine Below.setCell ?_ (by simp) _ | refine Below.alloc ?_ (by simp) _))⟩
    · have HY := hide hy
      clear hy
      go_wp2_with fail
      exact bodyPost_ret (v := .tuple #[.agg #[.int .i64 0, .int .i64 0], .int .i64 2]) (by simp [results, Tryz.results91, go_sem]) rfl ⟨Or.inr ⟨Or.inr (unhide HY), rfl⟩, (by repeat (first | exact Below.refl _ _ | refine below_dr ?_ _ | refine Below.drew ?_ | refine Below.setCell ?_ (by simp) _ | refine Below.alloc ?_ (by simp) _))⟩
  · have HX := hide hx
    clear hx
    go_wp2_with fail
    refine (wholeRoot_any b _ h4 (by omega)).mono ?_
    rintro e w' ⟨⟨y, hy, rfl⟩ | ⟨hy, rfl⟩, rfl⟩
    all_goals
      clear hy
      go_wp2_with fail
      exact bodyPost_ret (v := .tuple #[.agg #[.int .i64 0, .int .i64 0], .int .i64 2]) (by simp [results, Tryz.results91, go_sem]) rfl ⟨Or.inr ⟨Or.inl (unhide HX), rfl⟩, (by repeat (first | exact Below.refl _ _ | refine below_dr ?_ _ | refine Below.drew ?_ | refine Below.setCell ?_ (by simp) _ | refine Below.alloc ?_ (by simp) _))⟩

set_option maxRecDepth 100000 in
set_option maxHeartbeats 400000 in
theorem rSqrt_any (t b : Int) (w : World) (h2 : t ≤ 1000000000) (h4 : b ≤ 1000000000) :
    Calls Tryz.prog 98 #[.agg #[.int .i64 t, .int .i64 b]] w fun e w' => ((∃ x y : Nat, (x : Int) * x = t ∧ (y : Int) * y = b ∧ e = .returned (.tuple #[.agg #[.int .i64 x, .int .i64 y], .int .i64 0])) ∨ ((noRoot t ∨ noRoot b) ∧ e = .returned (.tuple #[.agg #[.int .i64 0, .int .i64 1], .int .i64 2]))) ∧ Below w.heap.size w w' := by
  go_enter Tryz.func98, Tryz.ntmps98
  go_wp2_with fail
  refine (side_any t _ h2).mono ?_
  rintro e w' ⟨⟨x, hx, rfl⟩ | ⟨hx, rfl⟩, rfl⟩
  · have HX := hide hx
    clear hx
    go_wp2_with fail
    refine (side_any b _ h4).mono ?_
    rintro e w' ⟨⟨y, hy, rfl⟩ | ⟨hy, rfl⟩, rfl⟩
    · have HY := hide hy
      clear hy
      have hx0 : ¬ (x : Int) < 0 := by omega
      have hy0 : ¬ (y : Int) < 0 := by omega
      go_wp2_with fail
      exact bodyPost_ret (v := .tuple #[.agg #[.int .i64 x, .int .i64 y], .int .i64 0]) (by simp [results, Tryz.results98, go_sem]) rfl ⟨Or.inl ⟨x, y, unhide HX, unhide HY, rfl⟩, (by repeat (first | exact Below.refl _ _ | refine below_dr ?_ _ | refine Below.drew ?_ | refine Below.setCell ?_ (by simp) _ | refine Below.alloc ?_ (by simp) _))⟩
    · have HY := hide hy
      clear hy
      have hx0 : ¬ (x : Int) < 0 := by omega
      go_wp2_with fail
      exact bodyPost_ret (v := .tuple #[.agg #[.int .i64 0, .int .i64 1], .int .i64 2]) (by simp [results, Tryz.results98, go_sem]) rfl ⟨Or.inr ⟨Or.inr (unhide HY), rfl⟩, (by repeat (first | exact Below.refl _ _ | refine below_dr ?_ _ | refine Below.drew ?_ | refine Below.setCell ?_ (by simp) _ | refine Below.alloc ?_ (by simp) _))⟩
  · have HX := hide hx
    clear hx
    go_wp2_with fail
    refine (side_any b _ h4).mono ?_
    rintro e w' ⟨⟨y, hy, rfl⟩ | ⟨hy, rfl⟩, rfl⟩
    all_goals
      clear hy
      go_wp2_with fail
      exact bodyPost_ret (v := .tuple #[.agg #[.int .i64 0, .int .i64 1], .int .i64 2]) (by simp [results, Tryz.results98, go_sem]) rfl ⟨Or.inr ⟨Or.inl (unhide HX), rfl⟩, (by repeat (first | exact Below.refl _ _ | refine below_dr ?_ _ | refine Below.drew ?_ | refine Below.setCell ?_ (by simp) _ | refine Below.alloc ?_ (by simp) _))⟩

theorem fl_two {w w1 : World} {o : Obj} (hb : Below (w.alloc o).heap.size (w.alloc o) w1) : Below w.heap.size w w1 := ((Below.refl _ _).alloc (Nat.le_refl _) _).trans (hb.mono (by simp))

set_option maxRecDepth 100000 in
set_option maxHeartbeats 400000 in
theorem write_ok (p q : Int) (w : World) (h1 : -1000000000 ≤ p) (h2 : p ≤ 1000000000) (h3 : 1 ≤ q) (h4 : q ≤ 1000000000) (ht : Tab w) :
    Calls Tryz.prog 47 #[.agg #[.int .i64 p, .int .i64 q], .int .i64 0] w fun e w' => e = .returned (.tuple #[.string ⟨(numText p q).toArray⟩, .int .i64 0]) ∧ Below w.heap.size w w' := by
  have HT := hide ht
  clear ht
  go_enter Tryz.func47, Tryz.ntmps47
  go_wp2_with fail
  refine (Text_any p q _ h1 h2 h3 h4 (tab_alloc (unhide HT) _)).mono ?_
  rintro e w1 ⟨rfl, hb⟩
  go_wp2_with fail
  go_ret2
  exact ⟨rfl, fl_two hb⟩
set_option maxRecDepth 100000 in
set_option maxHeartbeats 400000 in
theorem write_err (p q c : Int) (w : World) (hc : (c != 0) = true) :
    Calls Tryz.prog 47 #[.agg #[.int .i64 p, .int .i64 q], .int .i64 c] w fun e w' => e = .returned (.tuple #[.string ⟨#[]⟩, .int .i64 c]) ∧ Below w.heap.size w w' := by
  go_enter Tryz.func47, Tryz.ntmps47
  go_wp2_with fail
  go_ret2
  exact ⟨rfl, (by repeat (first | exact Below.refl _ _ | refine below_dr ?_ _ | refine Below.drew ?_ | refine Below.setCell ?_ (by simp) _ | refine Below.alloc ?_ (by simp) _))⟩
set_option maxRecDepth 100000 in
set_option maxHeartbeats 400000 in
theorem told_ok (p q : Int) (w : World) (h1 : -1000000000 ≤ p) (h2 : p ≤ 1000000000) (h3 : 1 ≤ q) (h4 : q ≤ 1000000000) :
    Calls Tryz.prog 94 #[.agg #[.int .i64 p, .int .i64 q], .int .i64 0] w fun e w' => e = .returned (.tuple #[.string ⟨(numText p q).toArray⟩, .int .i64 0]) ∧ Below w.heap.size w w' := by
  go_enter Tryz.func94, Tryz.ntmps94
  go_wp2_with fail
  refine (rText_any p q _ h1 h2 h3 h4).mono ?_
  rintro e w1 ⟨rfl, hb⟩
  go_wp2_with fail
  go_ret2
  exact ⟨rfl, fl_two hb⟩
set_option maxRecDepth 100000 in
set_option maxHeartbeats 400000 in
theorem told_err (p q c : Int) (w : World) (hc : (c != 0) = true) :
    Calls Tryz.prog 94 #[.agg #[.int .i64 p, .int .i64 q], .int .i64 c] w fun e w' => e = .returned (.tuple #[.string ⟨#[]⟩, .int .i64 c]) ∧ Below w.heap.size w w' := by
  go_enter Tryz.func94, Tryz.ntmps94
  go_wp2_with fail
  go_ret2
  exact ⟨rfl, (by repeat (first | exact Below.refl _ _ | refine below_dr ?_ _ | refine Below.drew ?_ | refine Below.setCell ?_ (by simp) _ | refine Below.alloc ?_ (by simp) _))⟩

/-! ### What is answered -/
/-- One text: no number, or a number of which F tells text and error. -/
def Ans1 (F : Int → Int → List UInt8 → Int → Prop) (s : ByteArray) (e : Ending) : Prop :=
  ∃ r c, e = .returned (.tuple #[.string ⟨List.toArray r⟩, .int .i64 c]) ∧ (((∀ t b, ¬ IsNum s.data.toList t b) ∧ r = [] ∧ c = 1) ∨ ∃ t b, IsNum s.data.toList t b ∧ F t b r c)
def OverF (t b : Int) (r : List UInt8) (c : Int) : Prop := (t = 0 ∧ r = [] ∧ c = 2) ∨ (t ≠ 0 ∧ r = numText (overP t b) (overQ t b) ∧ c = 0)
def RootF (t b : Int) (r : List UInt8) (c : Int) : Prop := (∃ x y : Nat, (x : Int) * x = t ∧ (y : Int) * y = b ∧ r = numText x y ∧ c = 0) ∨ ((noRoot t ∨ noRoot b) ∧ r = [] ∧ c = 2)

set_option maxRecDepth 100000 in
set_option maxHeartbeats 400000 in
theorem Over_any (s : ByteArray) (w : World) (hs : s.size ≤ maxLen) (ht : Tab w) :
    Calls Tryz.prog 55 #[.string s] w fun e w' => Ans1 OverF s e ∧ Below w.heap.size w w' := by
  have HT := hide ht
  clear ht
  go_enter Tryz.func55, Tryz.ntmps55
  go_wp2_with fail
  refine (Read_any s _ hs).mono ?_
  rintro e w1 ⟨⟨t, b, hn, rfl⟩ | ⟨hn, rfl⟩, hb1⟩
  · have HN := hide hn
    have i1 := hn.lo; have i2 := hn.hi; have i3 := hn.b1; have i4 := hn.b2
    clear hn
    go_wp2_with fail
    refine (nOver_any t b _ i1 i2 i3 i4).mono ?_
    rintro e w2 ⟨⟨h0, rfl⟩ | ⟨h0, rfl⟩, hb2⟩
    · have H0 := hide h0
      clear h0
      go_wp2_with fail
      refine (write_err 0 0 2 _ rfl).mono ?_
      rintro e w3 ⟨rfl, hb3⟩
      go_wp2_with fail
      go_ret2
      exact ⟨⟨[], 2, rfl, Or.inr ⟨t, b, unhide HN, Or.inl ⟨unhide H0, rfl, rfl⟩⟩⟩, (hb1.trans ((fl_two hb2).mono hb1.size)).trans ((fl_two hb3).mono (by have := (fl_two hb2).size; have := hb1.size; omega))⟩
    · have H0 := hide h0
      clear h0
      obtain ⟨j1, j2, j3, j4⟩ := over_bd t b i1 i2 i3 i4 (unhide H0)
      go_wp2_with fail
      refine (write_ok (overP t b) (overQ t b) _ j1 j2 j3 j4 (tab_alloc (tab_below (tab_below (unhide HT) hb1) (fl_two hb2)) _)).mono ?_
      rintro e w3 ⟨rfl, hb3⟩
      go_wp2_with fail
      go_ret2
      exact ⟨⟨_, 0, rfl, Or.inr ⟨t, b, unhide HN, Or.inr ⟨unhide H0, rfl, rfl⟩⟩⟩, (hb1.trans ((fl_two hb2).mono hb1.size)).trans ((fl_two hb3).mono (by have := (fl_two hb2).size; have := hb1.size; omega))⟩
  · have HN := hide hn
    clear hn
    go_wp2_with fail
    go_ret2
    exact ⟨⟨[], 1, rfl, Or.inl ⟨unhide HN, rfl, rfl⟩⟩, hb1.trans (((Below.refl _ _).alloc (Nat.le_refl _) _).mono hb1.size)⟩
end Go.Proofs.YtikiaijgcjjloaaGreatDoor

/- Numbers of the program as fractions. -/
namespace Go.Proofs.YtikiaijgcjjloaaGreatDoor
open Go Go.RowKit M T Go.Lib

/-- A fraction, as the program holds it. -/
def qv (x : Rat) : Value := .agg #[.int .i64 x.num, .int .i64 (x.den : Int)]
/-- What a call on numbers answers. -/
def QGot (r : Except Int Rat) (e : Ending) : Prop := (∃ z, r = .ok z ∧ small z = true ∧ e = .returned (.tuple #[qv z, .int .i64 0])) ∨ (∃ c, r = .error c ∧ c ≠ 0 ∧ e = .returned (.tuple #[.agg #[.int .i64 0, .int .i64 0], .int .i64 c]))
theorem small_bd {x : Rat} (h : small x = true) : -1000000000 ≤ x.num ∧ x.num ≤ 1000000000 ∧ 1 ≤ (x.den : Int) ∧ (x.den : Int) ≤ 1000000000 := by
  have := of_decide_eq_true h
  have hd := x.den_pos
  omega
theorem lim_got {x : Rat} {b : Bool} {p q : Int} {e : Ending} (hb : b = small x) (hp : p = x.num) (hq : q = (x.den : Int)) (h : (b = true ∧ e = .returned (.tuple #[.agg #[.int .i64 p, .int .i64 q], .int .i64 0])) ∨ (b = false ∧ e = .returned (.tuple #[.agg #[.int .i64 0, .int .i64 0], .int .i64 3]))) : QGot (lim x) e := by
  unfold lim
  rcases h with ⟨h, rfl⟩ | ⟨h, rfl⟩
  · rw [hb] at h
    exact Or.inl ⟨x, by rw [if_pos h], h, by rw [qv, hp, hq]⟩
  · rw [hb] at h
    exact Or.inr ⟨3, by rw [h]; rfl, by decide, rfl⟩
theorem qPlus {x y : Rat} (hx : small x = true) (hy : small y = true) (w : World) : Calls Tryz.prog 46 #[qv x, qv y] w fun e w' => QGot (lim (x + y)) e ∧ Below w.heap.size w w' := by
  obtain ⟨a1, a2, a3, a4⟩ := small_bd hx
  obtain ⟨b1, b2, b3, b4⟩ := small_bd hy
  obtain ⟨p1, p2, p3⟩ := add_pairs x y
  refine (nPlus_any x.num (x.den : Int) y.num (y.den : Int) w a1 a2 a3 a4 b1 b2 b3 b4).mono ?_
  rintro e w' ⟨h, hb⟩
  exact ⟨lim_got p1 p2 p3 h, hb⟩
theorem qTimes {x y : Rat} (hx : small x = true) (hy : small y = true) (w : World) : Calls Tryz.prog 89 #[qv x, qv y] w fun e w' => QGot (lim (x * y)) e ∧ Below w.heap.size w w' := by
  obtain ⟨a1, a2, a3, a4⟩ := small_bd hx
  obtain ⟨b1, b2, b3, b4⟩ := small_bd hy
  obtain ⟨p1, p2, p3⟩ := mul_pairs x y
  refine (nTimes_any x.num (x.den : Int) y.num (y.den : Int) w a1 a2 a3 a4 b1 b2 b3 b4).mono ?_
  rintro e w' ⟨h, hb⟩
  exact ⟨lim_got p1 p2 p3 h, hb⟩
def overE (x : Rat) : Except Int Rat := if x = 0 then .error 2 else .ok x⁻¹
theorem qOver {x : Rat} (hx : small x = true) (w : World) : Calls Tryz.prog 90 #[qv x] w fun e w' => QGot (overE x) e ∧ Below w.heap.size w w' := by
  obtain ⟨a1, a2, a3, a4⟩ := small_bd hx
  refine (nOver_any x.num (x.den : Int) w a1 a2 a3 a4).mono ?_
  rintro e w' ⟨⟨h0, rfl⟩ | ⟨h0, rfl⟩, hb⟩
  · have h0' := num_zero.1 h0
    exact ⟨Or.inr ⟨2, by rw [overE, if_pos h0'], by decide, rfl⟩, hb⟩
  · have h0' : x ≠ 0 := fun e => h0 (num_zero.2 e)
    obtain ⟨i1, i2⟩ := inv_pairs x h0'
    refine ⟨Or.inl ⟨x⁻¹, by rw [overE, if_neg h0'], inv_small hx h0', ?_⟩, hb⟩
    rw [qv, i1, i2]
    rfl
def rootE (x : Rat) : Except Int Rat := match root x with | some y => .ok y | none => .error 2
theorem qRoot {x : Rat} (hx : small x = true) (w : World) : Calls Tryz.prog 91 #[qv x] w fun e w' => QGot (rootE x) e ∧ Below w.heap.size w w' := by
  obtain ⟨a1, a2, a3, a4⟩ := small_bd hx
  refine (nRoot_any x.num (x.den : Int) w a1 a2 a3 a4).mono ?_
  rintro e w' ⟨⟨a, b, ha, hb', rfl⟩ | ⟨h, rfl⟩, hb⟩
  · obtain ⟨y, hy, e1, e2⟩ := root_pairs_some ha hb'
    refine ⟨Or.inl ⟨y, by rw [rootE, hy], ?_, by rw [qv, e1, e2]⟩, hb⟩
    unfold small
    apply decide_eq_true
    have hle : ∀ k : Nat, (k : Int) * k ≤ 1000000000 → k ≤ 1000000000 := by
      intro k hk
      rcases Nat.lt_or_ge k 1 with h | h
      · omega
      · have : k ≤ k * k := Nat.le_mul_of_pos_right k h
        have h2 : ((k * k : Nat) : Int) ≤ 1000000000 := by simpa using hk
        omega
    have g1 := hle a (by rw [ha]; exact a2)
    have g2 := hle b (by rw [hb']; exact a4)
    rw [e1, e2]
    omega
  · exact ⟨Or.inr ⟨2, by rw [rootE, root_pairs_none h], by decide, rfl⟩, hb⟩
theorem qNeg {x : Rat} (hx : small x = true) (w : World) : Calls Tryz.prog 137 #[qv x] w fun e w' => e = .returned (qv (-x)) ∧ Below w.heap.size w w' := by
  obtain ⟨a1, a2, a3, a4⟩ := small_bd hx
  refine (negative_any x.num (x.den : Int) w a1 a2).mono ?_
  rintro e w' ⟨rfl, hb⟩
  exact ⟨by rw [qv, Rat.neg_num, Rat.neg_den], hb⟩
theorem num_lt_iff {x : Rat} : x.num < 0 ↔ x < 0 := by
  constructor
  · intro h
    refine Rat.not_le.1 (fun h' => ?_)
    have := Rat.num_nonneg.2 h'
    omega
  · intro h
    have h1 : ¬ 0 ≤ x.num := fun h' => Rat.not_le.2 h (Rat.num_nonneg.1 h')
    omega
def absR (x : Rat) : Rat := if x < 0 then -x else x
theorem absR_pair (x : Rat) : (absR x).num = (x.num.natAbs : Int) ∧ (absR x).den = x.den := by
  unfold absR
  by_cases h : x < 0
  · rw [if_pos h, Rat.neg_num, Rat.neg_den]
    have := num_lt_iff.2 h
    omega
  · rw [if_neg h]
    have : 0 ≤ x.num := Rat.num_nonneg.2 (Rat.not_lt.1 h)
    omega
theorem absR_small {x : Rat} (h : small x = true) : small (absR x) = true := by
  unfold absR
  split
  · exact neg_small h
  · exact h

set_option maxRecDepth 100000 in
set_option maxHeartbeats 800000 in
theorem withoutSign_any (t b : Int) (w : World) (h1 : -1000000000 ≤ t) (h2 : t ≤ 1000000000) : Calls Tryz.prog 192 #[.agg #[.int .i64 t, .int .i64 b]] w fun e w' => e = .returned (.agg #[.int .i64 (t.natAbs : Int), .int .i64 b]) ∧ Below w.heap.size w w' := by
  go_enter Tryz.func192, Tryz.ntmps192
  go_upto_region 1 with fail
  go_region_held3 (fun w' => w'.cell? ⟨w.heap.size, 0, none⟩ = some (.int .i64 t) ∧ w'.cell? ⟨w.heap.size, 1, none⟩ = some (.int .i64 b)) (go_keep)
    (first | (go_at_call 86; refine (size_any t _ (by omega) (by omega)).mono ?_; rintro e w' ⟨rfl, rfl⟩))
  all_goals go_wp2_with fail
  all_goals exact bodyPost_ret (v := .agg #[.int .i64 (t.natAbs : Int), .int .i64 b]) (by simp [results, Tryz.results192, go_sem]) rfl ⟨rfl, (by repeat (first | exact Below.refl _ _ | refine below_dr ?_ _ | refine Below.drew ?_ | refine Below.setCell ?_ (by simp) _ | refine Below.alloc ?_ (by simp) _))⟩
theorem qAbs {x : Rat} (hx : small x = true) (w : World) : Calls Tryz.prog 192 #[qv x] w fun e w' => e = .returned (qv (absR x)) ∧ Below w.heap.size w w' := by
  obtain ⟨a1, a2, a3, a4⟩ := small_bd hx
  refine (withoutSign_any x.num (x.den : Int) w a1 a2).mono ?_
  rintro e w' ⟨rfl, hb⟩
  exact ⟨by rw [qv, (absR_pair x).1, (absR_pair x).2], hb⟩
set_option maxRecDepth 100000 in
set_option maxHeartbeats 800000 in
theorem isBelowZero_any (t b : Int) (w : World) : Calls Tryz.prog 194 #[.agg #[.int .i64 t, .int .i64 b]] w fun e w' => e = .returned (.bool (decide (t < 0))) ∧ Below w.heap.size w w' := by
  go_enter Tryz.func194, Tryz.ntmps194
  go_wp2_with fail
  go_ret
  exact ⟨rfl, (by repeat (first | exact Below.refl _ _ | refine below_dr ?_ _ | refine Below.drew ?_ | refine Below.setCell ?_ (by simp) _ | refine Below.alloc ?_ (by simp) _))⟩
theorem qBelow (x : Rat) (w : World) : Calls Tryz.prog 194 #[qv x] w fun e w' => e = .returned (.bool (decide (x < 0))) ∧ Below w.heap.size w w' := by
  refine (isBelowZero_any x.num (x.den : Int) w).mono ?_
  rintro e w' ⟨rfl, hb⟩
  exact ⟨by rw [show decide (x.num < 0) = decide (x < 0) from by rw [decide_eq_decide]; exact num_lt_iff], hb⟩
theorem qZero (x : Rat) (w : World) : Calls Tryz.prog 160 #[qv x] w fun e w' => e = .returned (.bool (decide (x = 0))) ∧ Below w.heap.size w w' := by
  refine (isZero_any x.num (x.den : Int) w).mono ?_
  rintro e w' ⟨rfl, hb⟩
  exact ⟨by rw [show decide (x.num = 0) = decide (x = 0) from by rw [decide_eq_decide]; exact num_zero], hb⟩
end Go.Proofs.YtikiaijgcjjloaaGreatDoor

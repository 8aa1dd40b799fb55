import Derived.Test.YtikiaijgcjjloaaGreatDoorPart2

/- The simple parts and their opposites: what the opposite makes of a list, the part makes that list of again. No program in this text. -/
namespace Go.Proofs.YtikiaijgcjjloaaGreatDoor
namespace T

theorem lim_ok {r y : Rat} (h : lim r = .ok y) : y = r ∧ small y = true := by
  unfold lim at h
  split at h
  · cases h; exact ⟨rfl, ‹_›⟩
  · cases h
theorem lim_of {r : Rat} (h : small r = true) : lim r = .ok r := by unfold lim; rw [if_pos h]

def AllS (l : List Rat) : Prop := ∀ x ∈ l, small x = true
theorem allS_nil : AllS [] := fun _ h => by cases h
theorem allS_cons {x : Rat} {l : List Rat} : AllS (x :: l) ↔ small x = true ∧ AllS l := by
  unfold AllS; simp

theorem each_undo {f g : Rat → Except Int Rat} (h : ∀ x y, small x = true → g x = .ok y → f y = .ok x ∧ small y = true) : ∀ {l l' : List Rat}, AllS l → each g l = .ok l' → each f l' = .ok l ∧ AllS l'
  | [], l', _, e => by cases e; exact ⟨rfl, allS_nil⟩
  | x :: l, l', ha, e => by
    obtain ⟨hx, hl⟩ := allS_cons.1 ha
    rw [each] at e
    cases hg : g x with
    | error e' => rw [hg] at e; cases e
    | ok y =>
      rw [hg] at e
      cases hr : each g l with
      | error e' => rw [hr] at e; cases e
      | ok ys =>
        rw [hr] at e
        cases e
        obtain ⟨h1, h2⟩ := h x y hx hg
        obtain ⟨h3, h4⟩ := each_undo h hl hr
        refine ⟨?_, allS_cons.2 ⟨h2, h4⟩⟩
        rw [each, h1, h3]
theorem scan_diff {f g : Rat → Rat → Except Int Rat} (h : ∀ a x y, small x = true → f a x = .ok y → g a y = .ok x ∧ small y = true) : ∀ {l l' : List Rat} {a : Rat}, AllS l → diff f a l = .ok l' → scan g a l' = .ok l ∧ AllS l'
  | [], l', a, _, e => by cases e; exact ⟨rfl, allS_nil⟩
  | x :: l, l', a, ha, e => by
    obtain ⟨hx, hl⟩ := allS_cons.1 ha
    rw [diff] at e
    cases hg : f a x with
    | error e' => rw [hg] at e; cases e
    | ok y =>
      rw [hg] at e
      cases hr : diff f x l with
      | error e' => rw [hr] at e; cases e
      | ok ys =>
        rw [hr] at e
        cases e
        obtain ⟨h1, h2⟩ := h a x y hx hg
        obtain ⟨h3, h4⟩ := scan_diff h hl hr
        refine ⟨?_, allS_cons.2 ⟨h2, h4⟩⟩
        rw [scan, h1]
        simp only [h3]
theorem diff_scan {f g : Rat → Rat → Except Int Rat} (h : ∀ a x y, small x = true → f a x = .ok y → g a y = .ok x ∧ small y = true) : ∀ {l l' : List Rat} {a : Rat}, AllS l → scan f a l = .ok l' → diff g a l' = .ok l ∧ AllS l'
  | [], l', a, _, e => by cases e; exact ⟨rfl, allS_nil⟩
  | x :: l, l', a, ha, e => by
    obtain ⟨hx, hl⟩ := allS_cons.1 ha
    rw [scan] at e
    cases hg : f a x with
    | error e' => rw [hg] at e; cases e
    | ok y =>
      rw [hg] at e
      cases hr : scan f y l with
      | error e' => simp only [hr] at e; cases e
      | ok ys =>
        simp only [hr] at e
        cases e
        obtain ⟨h1, h2⟩ := h a x y hx hg
        obtain ⟨h3, h4⟩ := diff_scan h hl hr
        refine ⟨?_, allS_cons.2 ⟨h2, h4⟩⟩
        rw [diff, h1]
        simp only [h3]
theorem headed_undo {f g : Rat → List Rat → Except Int (List Rat)} (h : ∀ x l l', AllS l → g x l = .ok l' → f x l' = .ok l ∧ AllS l') : ∀ {l l' : List Rat}, AllS l → headed g l = .ok l' → headed f l' = .ok l ∧ AllS l'
  | [], l', _, e => by cases e; exact ⟨rfl, allS_nil⟩
  | x :: l, l', ha, e => by
    obtain ⟨hx, hl⟩ := allS_cons.1 ha
    rw [headed] at e
    cases hg : g x l with
    | error e' => rw [hg] at e; cases e
    | ok ys =>
      rw [hg] at e
      cases e
      obtain ⟨h1, h2⟩ := h x l ys hl hg
      refine ⟨?_, allS_cons.2 ⟨hx, h2⟩⟩
      rw [headed, h1]

/-! ### Roots -/
theorem rootN_some {n r : Nat} (h : rootN n = some r) : r * r = n := by
  unfold rootN at h
  simpa using List.find?_some h
theorem rootN_sq (r : Nat) : rootN (r * r) = some r := by
  unfold rootN
  cases h : (List.range (r * r + 1)).find? (fun x => x * x == r * r) with
  | none =>
    exfalso
    have h2 := List.find?_eq_none.1 h r (by rw [List.mem_range]; have := Nat.le_mul_self r; omega)
    simp at h2
  | some x =>
    have h2 := List.find?_some h
    have h3 : x * x = r * r := by simpa using h2
    rw [M.root_unique x r h3]
theorem mkRat_mul_self (a b : Nat) : mkRat (a : Int) b * mkRat (a : Int) b = mkRat ((a * a : Nat) : Int) (b * b) := by
  rw [Rat.mkRat_mul_mkRat]
  simp
theorem root_some {r y : Rat} (h : root r = some y) : 0 ≤ y ∧ y * y = r := by
  unfold root at h
  split at h
  · cases h
  · rename_i hn
    split at h
    · rename_i a b ha hb
      cases h
      have h1 := rootN_some ha
      have h2 := rootN_some hb
      refine ⟨?_, ?_⟩
      · rw [← Rat.divInt_ofNat]
        exact Rat.divInt_nonneg (by omega) (by omega)
      · rw [mkRat_mul_self a b, h1, h2]
        have e : ((r.num.natAbs : Nat) : Int) = r.num := by omega
        rw [e]
        exact Rat.mkRat_self r
    · cases h
theorem sq_parts (y : Rat) : (y * y).num = y.num * y.num ∧ (y * y).den = y.den * y.den := by
  have hc : (y.num * y.num).natAbs.Coprime (y.den * y.den) := by
    rw [Int.natAbs_mul]
    exact Nat.Coprime.mul_left (y.reduced.mul_right y.reduced) (y.reduced.mul_right y.reduced)
  have hz : y.den * y.den ≠ 0 := Nat.mul_ne_zero y.den_nz y.den_nz
  have e : y * y = ⟨y.num * y.num, y.den * y.den, hz, hc⟩ := by
    rw [← Rat.mkRat_self (⟨y.num * y.num, y.den * y.den, hz, hc⟩ : Rat)]
    conv => lhs; rw [← Rat.mkRat_self y]
    rw [Rat.mkRat_mul_mkRat]
  rw [e]
  exact ⟨rfl, rfl⟩
theorem root_sq {y : Rat} (h : 0 ≤ y) : root (y * y) = some y := by
  obtain ⟨h1, h2⟩ := sq_parts y
  have hn : 0 ≤ y.num := Rat.num_nonneg.2 h
  unfold root
  have hnn : ¬ (y * y).num < 0 := by
    rw [h1]; have := Int.mul_nonneg hn hn; omega
  rw [if_neg hnn, h1, h2, Int.natAbs_mul, rootN_sq, rootN_sq]
  show some (mkRat ((y.num.natAbs : Nat) : Int) y.den) = some y
  rw [show ((y.num.natAbs : Nat) : Int) = y.num by omega, Rat.mkRat_self]
theorem root_small {r y : Rat} (h : root r = some y) (hr : small r = true) : small y = true := by
  obtain ⟨h0, h1⟩ := root_some h
  obtain ⟨h2, h3⟩ := sq_parts y
  rw [h1] at h2 h3
  unfold small at *
  have hr' := of_decide_eq_true hr
  apply decide_eq_true
  rw [h2, h3, Int.natAbs_mul] at hr'
  have k1 := Nat.le_mul_self y.num.natAbs
  have k2 := Nat.le_mul_self y.den
  omega
theorem small_neg {x : Rat} (h : small x = true) : small (-x) = true := by
  unfold small at *
  have := of_decide_eq_true h
  apply decide_eq_true
  rw [Rat.neg_num, Rat.neg_den]
  omega
theorem num_ne {x : Rat} (h : x ≠ 0) : x.num ≠ 0 := fun e => h (by
  have := Rat.mkRat_self x
  rw [e] at this
  rw [← this]
  simp)
theorem small_inv {x : Rat} (h0 : x ≠ 0) (h : small x = true) : small x⁻¹ = true := by
  unfold small at *
  have := of_decide_eq_true h
  have hn := num_ne h0
  apply decide_eq_true
  rw [Rat.num_inv, Rat.den_inv, if_neg hn, Int.natAbs_mul, Int.natAbs_sign_of_ne_zero hn]
  simp
  omega

/-! ### The opposites of the simple parts -/
theorem mapS {f : Rat → Rat} (h : ∀ x, small x = true → small (f x) = true) {l : List Rat} (ha : AllS l) : AllS (l.map f) := by
  intro y hy
  obtain ⟨x, hx, rfl⟩ := List.mem_map.1 hy
  exact h x (ha x hx)
theorem zeroAhead_cons (x y : Rat) (l : List Rat) : zeroAhead (x :: y :: l) = (x == 0 || zeroAhead (y :: l)) := rfl
/-- Ratios of running products. -/
theorem diff_prod : ∀ {l l' : List Rat} {a : Rat}, AllS l → (l ≠ [] → a ≠ 0) → zeroAhead l = false → scan mulE a l = .ok l' → diff divE a l' = .ok l ∧ AllS l'
  | [], l', a, _, _, _, e => by cases e; exact ⟨rfl, allS_nil⟩
  | x :: l, l', a, ha, h0, hz, e => by
    obtain ⟨hx, hl⟩ := allS_cons.1 ha
    have ha0 : a ≠ 0 := h0 (by simp)
    rw [scan] at e
    cases hg : mulE a x with
    | error e' => rw [hg] at e; cases e
    | ok y =>
      rw [hg] at e
      obtain ⟨rfl, hy⟩ := lim_ok (show lim (a * x) = .ok y from hg)
      cases hr : scan mulE (a * x) l with
      | error e' => simp only [hr] at e; cases e
      | ok ys =>
        simp only [hr] at e
        cases e
        have hz2 : zeroAhead l = false ∧ (l ≠ [] → x ≠ 0) := by
          cases l with
          | nil => exact ⟨rfl, fun h => absurd rfl h⟩
          | cons y l =>
            rw [zeroAhead_cons, Bool.or_eq_false_iff] at hz
            refine ⟨hz.2, fun _ => ?_⟩
            have := hz.1
            simpa using this
        obtain ⟨h3, h4⟩ := diff_prod hl (fun h => by
          have := hz2.2 h
          intro e
          rcases Rat.mul_eq_zero.1 e with e | e
          · exact ha0 e
          · exact this e) hz2.1 hr
        refine ⟨?_, allS_cons.2 ⟨hy, h4⟩⟩
        have e2 : divE a (a * x) = .ok x := by
          unfold divE
          rw [if_neg ha0, show a * x * a⁻¹ = x from by grind]
          exact lim_of hx
        rw [diff, e2]
        simp only [h3]
/-- Running products of ratios; none beside the last is 0. -/
theorem prod_diff : ∀ {l l' : List Rat} {a : Rat}, AllS l → diff divE a l = .ok l' → scan mulE a l' = .ok l ∧ AllS l' ∧ (a ≠ 0 → zeroAhead l' = false) ∧ (l ≠ [] → a ≠ 0)
  | [], l', a, _, e => by cases e; exact ⟨rfl, allS_nil, fun _ => rfl, fun h => absurd rfl h⟩
  | x :: l, l', a, ha, e => by
    obtain ⟨hx, hl⟩ := allS_cons.1 ha
    rw [diff] at e
    cases hg : divE a x with
    | error e' => rw [hg] at e; cases e
    | ok y =>
      rw [hg] at e
      unfold divE at hg
      split at hg
      · cases hg
      · rename_i ha0
        obtain ⟨rfl, hy⟩ := lim_ok hg
        cases hr : diff divE x l with
        | error e' => simp only [hr] at e; cases e
        | ok ys =>
          simp only [hr] at e
          cases e
          obtain ⟨h3, h4, h5, h6⟩ := prod_diff hl hr
          refine ⟨?_, allS_cons.2 ⟨hy, h4⟩, fun _ => ?_, fun _ => ha0⟩
          · have e2 : mulE a (x * a⁻¹) = .ok x := by
              unfold mulE
              rw [show a * (x * a⁻¹) = x from by grind]
              exact lim_of hx
            rw [scan, e2]
            simp only [h3]
          · cases ys with
            | nil => rfl
            | cons y ys =>
              have hx0 : x ≠ 0 := by
                apply h6
                intro e
                subst e
                cases hr
              rw [zeroAhead_cons, h5 hx0, Bool.or_false]
              have : ¬ x * a⁻¹ = 0 := by
                intro e
                apply hx0
                have : x * a⁻¹ * a = x := by grind
                rw [← this, e, Rat.zero_mul]
              simpa using this
end T
end Go.Proofs.YtikiaijgcjjloaaGreatDoor

/- The simple parts and their opposites, all of them. No program in this text. -/
namespace Go.Proofs.YtikiaijgcjjloaaGreatDoor
namespace T

theorem turn_length (k : Int) (l : List Rat) : (turn k l).length = l.length := by
  unfold turn
  simp only [List.length_append, List.length_drop, List.length_take]
  omega
theorem turn_back (k : Int) (l : List Rat) : turn k (turn (-k) l) = l := by
  have hlen := turn_length (-k) l
  unfold turn at hlen ⊢
  rw [hlen]
  generalize hn : l.length = n
  by_cases h0 : n = 0
  · subst h0
    have : l = [] := List.length_eq_zero_iff.1 hn
    subst this
    simp
  · have h1 : 0 ≤ k % (n : Int) := Int.emod_nonneg _ (by omega)
    have h2 : k % (n : Int) < n := Int.emod_lt_of_pos _ (by omega)
    by_cases hz : k % (n : Int) = 0
    · have hz' : (-k) % (n : Int) = 0 := by
        rw [Int.neg_emod]
        have : (n : Int) ∣ k := Int.dvd_of_emod_eq_zero hz
        rw [if_pos this]
      rw [hz, hz']
      simp
    · have hz' : (-k) % (n : Int) = n - k % (n : Int) := by
        rw [Int.neg_emod]
        have : ¬ (n : Int) ∣ k := fun h => hz (Int.emod_eq_zero_of_dvd h)
        rw [if_neg this]
        have : ((n : Int).natAbs : Int) = n := by omega
        rw [this]
      rw [hz']
      obtain ⟨j, hj⟩ := Int.eq_ofNat_of_zero_le h1
      rw [hj] at h2 hz ⊢
      have e1 : ((j : Int)).toNat = j := by omega
      have e2 : ((n : Int) - (j : Int)).toNat = n - j := by omega
      rw [e1, e2]
      have e3 : (l.drop (n - j)).length = j := by rw [List.length_drop]; omega
      have e4 : (l.drop (n - j) ++ l.take (n - j)).drop j = l.take (n - j) := by
        rw [List.drop_append, e3, Nat.sub_self, List.drop_zero, List.drop_of_length_le (by omega), List.nil_append]
      have e5 : (l.drop (n - j) ++ l.take (n - j)).take j = l.drop (n - j) := by
        rw [List.take_append, e3, Nat.sub_self, List.take_zero, List.take_of_length_le (by omega), List.append_nil]
      rw [e4, e5, List.take_append_drop]
theorem turnS (k : Int) {l : List Rat} (h : AllS l) : AllS (turn k l) := by
  intro x hx
  unfold turn at hx
  rcases List.mem_append.1 hx with h1 | h1
  · exact h x (List.mem_of_mem_drop h1)
  · exact h x (List.mem_of_mem_take h1)

theorem not_neg_of {y : Rat} (h : 0 ≤ y) : ¬ y < 0 := Rat.not_lt.2 h

/-- What the opposite makes of a list, the part makes that list of again. -/
theorem Sp.undo {x y : Sp} (ho : x.opp = some y) {l l' : List Rat} (ha : AllS l) (h : y.work l = .ok l') : x.work l' = .ok l ∧ AllS l' := by
  cases x with
  | n =>
    cases ho; cases h
    refine ⟨?_, mapS (fun _ => small_neg) ha⟩
    show Except.ok ((l.map fun x => -x).map fun x => -x) = _
    rw [List.map_map]
    congr 1
    conv => rhs; rw [← List.map_id l]
    apply List.map_congr_left
    intro x _
    show - -x = x
    exact Rat.neg_neg x
  | v =>
    cases ho
    refine each_undo (fun x y hx hg => ?_) ha h
    split at hg
    · cases hg
    · rename_i h0
      cases hg
      refine ⟨?_, small_inv h0 hx⟩
      rw [if_neg (by grind), Rat.inv_inv]
  | a => cases ho
  | q =>
    cases ho
    refine each_undo (fun x y hx hg => ?_) ha h
    split at hg
    · rename_i z hz
      cases hg
      obtain ⟨h0, h1⟩ := root_some hz
      refine ⟨?_, root_small hz hx⟩
      rw [h1]
      exact lim_of hx
    · cases hg
  | w =>
    cases ho
    refine each_undo (fun x y hx hg => ?_) ha h
    split at hg
    · cases hg
    · rename_i h0
      obtain ⟨rfl, hy⟩ := lim_ok hg
      refine ⟨?_, hy⟩
      rw [root_sq (Rat.not_lt.1 h0)]
  | u =>
    cases ho
    refine each_undo (fun x y hx hg => ?_) ha h
    split at hg
    · rename_i z hz
      cases hg
      obtain ⟨h0, h1⟩ := root_some hz
      refine ⟨?_, root_small hz hx⟩
      rw [if_neg (not_neg_of h0), h1]
      exact lim_of hx
    · cases hg
  | r =>
    cases ho; cases h
    refine ⟨?_, fun z hz => ha z (List.mem_reverse.1 hz)⟩
    simp [Sp.work]
  | s =>
    cases ho
    refine headed_undo (f := scan addE) (g := diff subE) (fun a l l' hl hg => scan_diff (f := subE) (g := addE) (fun a x y hx hg => ?_) hl hg) ha h
    obtain ⟨rfl, hy⟩ := lim_ok (show lim (x - a) = .ok y from hg)
    refine ⟨?_, hy⟩
    unfold addE
    rw [show a + (x - a) = x from by grind]
    exact lim_of hx
  | z =>
    cases ho
    refine headed_undo (f := diff subE) (g := scan addE) (fun a l l' hl hg => diff_scan (f := addE) (g := subE) (fun a x y hx hg => ?_) hl hg) ha h
    obtain ⟨rfl, hy⟩ := lim_ok (show lim (a + x) = .ok y from hg)
    refine ⟨?_, hy⟩
    unfold subE
    rw [show a + x - a = x from by grind]
    exact lim_of hx
  | p =>
    cases ho
    refine headed_undo (fun a l l' hl hg => ?_) ha h
    obtain ⟨h1, h2, _, _⟩ := prod_diff hl hg
    exact ⟨h1, h2⟩
  | m =>
    cases ho
    have h' : headed (diff divE) l = .ok l' := h
    cases l with
    | nil => cases h'; exact ⟨rfl, allS_nil⟩
    | cons x l =>
      obtain ⟨hx, hl⟩ := allS_cons.1 ha
      rw [headed] at h'
      cases hg : diff divE x l with
      | error e => rw [hg] at h'; cases h'
      | ok ys =>
        rw [hg] at h'
        cases h'
        obtain ⟨h1, h2, h3, h4⟩ := prod_diff hl hg
        refine ⟨?_, allS_cons.2 ⟨hx, h2⟩⟩
        have hz : zeroAhead (x :: ys) = false := by
          cases ys with
          | nil => rfl
          | cons y ys =>
            have hx0 : x ≠ 0 := by
              apply h4
              intro e
              subst e
              cases hg
            rw [zeroAhead_cons, h3 hx0, Bool.or_false]
            simpa using hx0
        show (if zeroAhead (x :: ys) then (Except.error 2 : Except Int (List Rat)) else headed (scan mulE) (x :: ys)) = _
        rw [hz, if_neg (by simp), headed, h1]
  | o =>
    cases ho
    have h' : (if zeroAhead l then (Except.error 2 : Except Int (List Rat)) else headed (scan mulE) l) = .ok l' := h
    split at h'
    · cases h'
    · rename_i hz
      have hz' : zeroAhead l = false := by simpa using hz
      cases l with
      | nil => cases h'; exact ⟨rfl, allS_nil⟩
      | cons x l =>
        obtain ⟨hx, hl⟩ := allS_cons.1 ha
        rw [headed] at h'
        cases hg : scan mulE x l with
        | error e => rw [hg] at h'; cases h'
        | ok ys =>
          rw [hg] at h'
          cases h'
          have hz2 : zeroAhead l = false ∧ (l ≠ [] → x ≠ 0) := by
            cases l with
            | nil => exact ⟨rfl, fun h => absurd rfl h⟩
            | cons y l =>
              rw [zeroAhead_cons, Bool.or_eq_false_iff] at hz'
              refine ⟨hz'.2, fun _ => ?_⟩
              have := hz'.1
              simpa using this
          obtain ⟨h1, h2⟩ := diff_prod hl hz2.2 hz2.1 hg
          refine ⟨?_, allS_cons.2 ⟨hx, h2⟩⟩
          show headed (diff divE) (x :: ys) = _
          rw [headed, h1]
  | plus c =>
    cases ho
    refine each_undo (fun x y hx hg => ?_) ha h
    obtain ⟨rfl, hy⟩ := lim_ok hg
    refine ⟨?_, hy⟩
    rw [show x + -c + c = x from by grind]
    exact lim_of hx
  | times c =>
    rw [Sp.opp] at ho
    split at ho
    · cases ho
    · rename_i h0
      cases ho
      refine each_undo (fun x y hx hg => ?_) ha h
      obtain ⟨rfl, hy⟩ := lim_ok hg
      refine ⟨?_, hy⟩
      rw [show x * c⁻¹ * c = x from by grind]
      exact lim_of hx
  | set c => cases ho
  | shift k =>
    cases ho; cases h
    refine ⟨?_, turnS _ ha⟩
    show Except.ok (turn k (turn (-k) l)) = _
    rw [turn_back]
  | take k => cases ho
  | drop k => cases ho
  | pick ps => cases ho

/-- The opposite of the opposite, of a plain part, is the part. -/
theorem Sp.opp_opp {x y : Sp} (hp : x.plain = true) (ho : x.opp = some y) : y.opp = some x ∧ y.plain = true := by
  cases x with
  | q => cases hp
  | p => cases hp
  | plus c => cases ho; exact ⟨by simp [Sp.opp], rfl⟩
  | times c =>
    rw [Sp.opp] at ho
    split at ho
    · cases ho
    · rename_i h0
      cases ho
      refine ⟨?_, rfl⟩
      rw [Sp.opp, if_neg (by grind), Rat.inv_inv]
  | shift k => cases ho; exact ⟨by simp [Sp.opp], rfl⟩
  | _ => cases ho <;> exact ⟨rfl, rfl⟩
theorem Sp.redo {x y : Sp} (hp : x.plain = true) (ho : x.opp = some y) {l l' : List Rat} (ha : AllS l) (h : x.work l = .ok l') : y.work l' = .ok l ∧ AllS l' :=
  Sp.undo (Sp.opp_opp hp ho).1 ha h
end T
end Go.Proofs.YtikiaijgcjjloaaGreatDoor

/- Pickers: they pick places, the same ones of every list of one length. No program in this text. -/
namespace Go.Proofs.YtikiaijgcjjloaaGreatDoor
namespace T

/-! ### What may stand in a term -/
def Sp.wf : Sp → Prop
  | .plus c => small c = true
  | .times c => small c = true
  | .set c => small c = true
  | .shift k => -99 ≤ k ∧ k ≤ 99
  | .take k => k ≤ 12
  | .drop k => k ≤ 12
  | .pick ps => ps ≠ [] ∧ ps.Nodup ∧ ∀ i ∈ ps, i < 12
  | _ => True
mutual
def Pt.wf : Pt → Prop
  | .sp x => x.wf
  | .pow f k => f.wf ∧ -999 ≤ k ∧ k ≤ 999
  | .under s g => s.wf ∧ g.wf
  | .name c b => 65 ≤ c.toNat ∧ c.toNat ≤ 90 ∧ b.wf
def Tm.wf : Tm → Prop
  | .nil => True
  | .cons p t => p.wf ∧ t.wf
end

/-- The run g picks of every list of n items the same places, or fails alike. -/
def Natl (g : List Rat → Nat → Res) (n f : Nat) : Prop :=
  (∃ e, ∀ l : List Rat, l.length = n → g l f = .err e) ∨ ∃ idx : List Nat, ∃ f', idx.Nodup ∧ (∀ i ∈ idx, i < n) ∧ ∀ l : List Rat, l.length = n → g l f = .ok (picked idx l) f'

theorem picked_length (ps : List Nat) (l : List Rat) : (picked ps l).length = ps.length := by simp [picked]
theorem picked_get (ps : List Nat) (l : List Rat) (i : Nat) (h : i < ps.length) : (picked ps l).getD i 0 = l.getD ps[i] 0 := by
  unfold picked
  simp [List.getD, h]
theorem picked_picked (ps qs : List Nat) (l : List Rat) (h : ∀ i ∈ qs, i < ps.length) : picked qs (picked ps l) = picked (qs.map fun i => ps.getD i 0) l := by
  unfold picked
  rw [List.map_map]
  apply List.map_congr_left
  intro i hi
  have hi' := h i hi
  show (ps.map _).getD i 0 = _
  simp [List.getD, hi']
theorem picked_range (l : List Rat) : picked (List.range l.length) l = l := by
  unfold picked
  apply List.ext_getElem
  · simp
  · intro i h1 h2
    simp [List.getD, h2]

theorem Natl.then {g h : List Rat → Nat → Res} {n f : Nat} (hg : Natl g n f) (hh : ∀ n f, Natl h n f) : Natl (fun l f => Res.then (g l f) h) n f := by
  rcases hg with ⟨e, he⟩ | ⟨ps, f1, hnd, hlt, hps⟩
  · exact Or.inl ⟨e, fun l hl => by show Res.then (g l f) h = _; rw [he l hl]; rfl⟩
  · rcases hh ps.length f1 with ⟨e, he⟩ | ⟨qs, f2, hnd2, hlt2, hqs⟩
    · exact Or.inl ⟨e, fun l hl => by show Res.then (g l f) h = _; rw [hps l hl]; exact he _ (picked_length _ _)⟩
    · refine Or.inr ⟨qs.map fun i => ps.getD i 0, f2, ?_, ?_, fun l hl => ?_⟩
      · rw [List.nodup_iff_pairwise_ne] at *
        rw [List.pairwise_map]
        refine hnd2.imp_of_mem ?_
        intro i j hi hj hij e
        have hi' := hlt2 i hi
        have hj' := hlt2 j hj
        simp only [List.getD, List.getElem?_eq_getElem hi', List.getElem?_eq_getElem hj', Option.getD_some] at e
        exact hij ((List.getElem_inj (List.nodup_iff_pairwise_ne.2 hnd)).1 e)
      · intro i hi
        obtain ⟨j, hj, rfl⟩ := List.mem_map.1 hi
        have hj' := hlt2 j hj
        have : ps.getD j 0 = ps[j] := by simp [List.getD, hj']
        rw [this]
        exact hlt _ (List.getElem_mem hj')
      · show Res.then (g l f) h = _
        rw [hps l hl]
        show h _ _ = _
        rw [hqs _ (picked_length _ _), picked_picked _ _ _ hlt2]
theorem natl_id (n f : Nat) : Natl (fun l f => .ok l f) n f :=
  Or.inr ⟨List.range n, f, List.nodup_range, fun i hi => List.mem_range.1 hi, fun l hl => by rw [← hl, picked_range]⟩
theorem Natl.stepped {g : List Rat → Nat → Res} (hg : ∀ n f, Natl g n f) (n f : Nat) : Natl (stepped g) n f := by
  cases f with
  | zero => exact Or.inl ⟨10, fun _ _ => rfl⟩
  | succ f => exact hg n f
theorem Natl.iter {g : List Rat → Nat → Res} (hg : ∀ n f, Natl g n f) : ∀ (k n f : Nat), Natl (iter g k) n f
  | 0, n, f => by
    have h := natl_id n f
    have e : (fun l f => Res.ok l f) = T.iter g 0 := by funext l f; rw [iter_zero]
    rw [e] at h
    exact h
  | k + 1, n, f => by
    have h := Natl.stepped (g := fun l f => Res.then (g l f) (T.iter g k)) (fun n f => (hg n f).then (Natl.iter hg k)) n f
    have e : T.stepped (fun l f => Res.then (g l f) (T.iter g k)) = T.iter g (k + 1) := by funext l f; rw [iter_succ]
    rw [e] at h
    exact h
theorem natl_err (e : Int) (n f : Nat) : Natl (fun _ _ => .err e) n f := Or.inl ⟨e, fun _ _ => rfl⟩

theorem picked_take (l : List Rat) (k : Nat) (hk : k ≤ l.length) : picked (List.range k) l = l.take k := by
  unfold picked
  apply List.ext_getElem
  · simp; omega
  · intro i h1 h2
    simp at h1
    simp [List.getD, show i < l.length by omega]
theorem picked_append (ps qs : List Nat) (l : List Rat) : picked (ps ++ qs) l = picked ps l ++ picked qs l := by simp [picked]
theorem picked_drop (l : List Rat) (k : Nat) : picked ((List.range l.length).drop k) l = l.drop k := by
  have h := picked_range l
  have h2 := congrArg (List.drop k) h
  rw [← h2]
  simp [picked]
theorem picked_take' (l : List Rat) (k : Nat) : picked ((List.range l.length).take k) l = l.take k := by
  have h : picked ((List.range l.length).take k) l = (picked (List.range l.length) l).take k := by unfold picked; rw [List.map_take]
  rw [h, picked_range]
theorem picked_reverse (l : List Rat) : picked (List.range l.length).reverse l = l.reverse := by
  have h := picked_range l
  have h2 := congrArg List.reverse h
  rw [← h2]
  simp [picked]

theorem natl_turn (k : Int) (n f : Nat) : Natl (fun l f => lift (.ok (turn k l)) f) n f := by
  refine Or.inr ⟨(List.range n).drop (k % n).toNat ++ (List.range n).take (k % n).toNat, f, ?_, ?_, ?_⟩
  · refine (List.Perm.nodup_iff List.perm_append_comm).2 ?_
    rw [List.take_append_drop]
    exact List.nodup_range
  · intro i hi
    rcases List.mem_append.1 hi with h | h
    · exact List.mem_range.1 (List.mem_of_mem_drop h)
    · exact List.mem_range.1 (List.mem_of_mem_take h)
  · intro l hl
    subst hl
    show Res.ok (turn k l) f = _
    rw [picked_append, picked_drop, picked_take']
    rfl
theorem Sp.natl {x : Sp} (hp : x.picker = true) (hw : x.wf) (b : Bool) (n f : Nat) : Natl (fun l f => lift (if b then x.workBack l else x.work l) f) n f := by
  have hr : Natl (fun l f => lift (.ok l.reverse) f) n f := by
    refine Or.inr ⟨(List.range n).reverse, f, ?_, ?_, ?_⟩
    · exact (List.Perm.nodup_iff (List.reverse_perm _)).2 List.nodup_range
    · intro i hi; exact List.mem_range.1 (List.mem_reverse.1 hi)
    · intro l hl; subst hl; show Res.ok l.reverse f = _; rw [picked_reverse]
  cases x with
  | r => cases b <;> exact hr
  | shift k =>
    cases b
    · exact natl_turn k n f
    · exact natl_turn (-k) n f
  | take k =>
    cases b
    · by_cases hk : k ≤ n
      · refine Or.inr ⟨List.range k, f, List.nodup_range, fun i hi => by have := List.mem_range.1 hi; omega, fun l hl => ?_⟩
        subst hl
        show lift (if k ≤ l.length then .ok (l.take k) else .error 11) f = _
        rw [if_pos hk, picked_take l k hk]; rfl
      · refine Or.inl ⟨11, fun l hl => ?_⟩
        subst hl
        show lift (if k ≤ l.length then .ok (l.take k) else .error 11) f = _
        rw [if_neg hk]; rfl
    · exact natl_err 12 n f
  | drop k =>
    cases b
    · by_cases hk : k ≤ n
      · refine Or.inr ⟨(List.range n).drop k, f, ?_, fun i hi => List.mem_range.1 (List.mem_of_mem_drop hi), fun l hl => ?_⟩
        · exact List.nodup_range.sublist (List.drop_sublist _ _)
        · subst hl
          show lift (if k ≤ l.length then .ok (l.drop k) else .error 11) f = _
          rw [if_pos hk, picked_drop]; rfl
      · refine Or.inl ⟨11, fun l hl => ?_⟩
        subst hl
        show lift (if k ≤ l.length then .ok (l.drop k) else .error 11) f = _
        rw [if_neg hk]; rfl
    · exact natl_err 12 n f
  | pick ps =>
    cases b
    · obtain ⟨_, hnd, _⟩ := hw
      by_cases hk : ps.all (· < n) = true
      · refine Or.inr ⟨ps, f, hnd, fun i hi => by simpa using List.all_eq_true.1 hk i hi, fun l hl => ?_⟩
        subst hl
        show lift (if ps.all (· < l.length) then .ok (picked ps l) else .error 11) f = _
        rw [if_pos hk]; rfl
      · refine Or.inl ⟨11, fun l hl => ?_⟩
        subst hl
        show lift (if ps.all (· < l.length) then .ok (picked ps l) else .error 11) f = _
        rw [if_neg hk]; rfl
    · exact natl_err 12 n f
  | _ => cases hp

theorem Pt.run_fun (p : Pt) (b : Bool) : p.run b = T.stepped (fun l f => match p with
    | .sp x => lift (if b then x.workBack l else x.work l) f
    | .pow t k => if (if b then -k else k) < 0 ∧ t.back = false then .err 12 else iter (fun l f => t.run (decide ((if b then -k else k) < 0)) l f) k.natAbs l f
    | .under s g =>
      if s.picker then
        Res.then (s.run false (allPlaces l.length) f) fun at_ f1 =>
          Res.then (g.run b (picked (places at_) l) f1) fun ys f2 =>
            if ys.length = at_.length then .ok (layAt (places at_) ys l) f2 else .err 11
      else if s.back && s.plain then
        Res.then (s.run false l f) fun l1 f1 => Res.then (g.run b l1 f1) fun l2 f2 => s.run true l2 f2
      else .err 12
    | .name _ t => t.run b l f) := by
  funext l f
  exact Pt.run_eq p b l f
mutual
theorem Pt.natl : ∀ (p : Pt), p.picker = true → p.wf → ∀ (b : Bool) (n f : Nat), Natl (p.run b) n f
  | .sp x, hp, hw, b, n, f => by
    rw [Pt.run_fun]
    exact Natl.stepped (fun n f => Sp.natl (by simpa [Pt.picker] using hp) (by simpa [Pt.wf] using hw) b n f) n f
  | .pow t k, hp, hw, b, n, f => by
    rw [Pt.run_fun]
    have hp' : t.picker = true := by simpa [Pt.picker] using hp
    have hw' : t.wf := by rw [Pt.wf] at hw; exact hw.1
    refine Natl.stepped (fun n f => ?_) n f
    by_cases hc : (if b then -k else k) < 0 ∧ t.back = false
    · simp only [if_pos hc]; exact natl_err 12 n f
    · simp only [if_neg hc]; exact Natl.iter (fun n f => Tm.natl t hp' hw' _ n f) _ n f
  | .under s g, hp, _, _, _, _ => by simp [Pt.picker] at hp
  | .name c t, hp, hw, b, n, f => by
    rw [Pt.run_fun]
    exact Natl.stepped (fun n f => Tm.natl t (by simpa [Pt.picker] using hp) (by rw [Pt.wf] at hw; exact hw.2.2) b n f) n f
theorem Tm.natl : ∀ (t : Tm), t.picker = true → t.wf → ∀ (b : Bool) (n f : Nat), Natl (t.run b) n f
  | .nil, _, _, b, n, f => by
    have h := natl_id n f
    have e : (fun l f => Res.ok l f) = Tm.nil.run b := by funext l f; rw [Tm.run_nil]
    rw [e] at h
    exact h
  | .cons p t, hp, hw, b, n, f => by
    rw [Tm.picker, Bool.and_eq_true] at hp
    rw [Tm.wf] at hw
    cases b with
    | false =>
      have h := (Pt.natl p hp.1 hw.1 false n f).then (fun n f => Tm.natl t hp.2 hw.2 false n f)
      have e : (fun l f => Res.then (p.run false l f) (t.run false)) = (Tm.cons p t).run false := by funext l f; rw [Tm.run_fwd]
      rw [e] at h
      exact h
    | true =>
      have h := (Tm.natl t hp.2 hw.2 true n f).then (fun n f => Pt.natl p hp.1 hw.1 true n f)
      have e : (fun l f => Res.then (t.run true l f) (p.run true)) = (Tm.cons p t).run true := by funext l f; rw [Tm.run_bwd]
      rw [e] at h
      exact h
end
end T
end Go.Proofs.YtikiaijgcjjloaaGreatDoor

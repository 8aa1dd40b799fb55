/- The walks: whole square roots, the document's (a search from 0 on) and the program's (by halves). -/
import Derived.Test.YtikiaijgcjjloaaDoorLeaf2
namespace Go.Proofs.YtikiaijgcjjloaaDoor
open Go Go.RowKit M Go.Lib

theorem sq_bound (k : Nat) (n : Int) (hn : n ≤ 1000000000) (h : (k : Int) * k ≤ n) : k ≤ 31622 := by
  by_cases hk : k ≤ 31622
  · exact hk
  · have h1 : 31623 * 31623 ≤ k * k := Nat.mul_le_mul (by omega) (by omega)
    have h2 : ((k * k : Nat) : Int) = (k : Int) * k := by simp
    omega
theorem sq_range (k : Nat) (h : k ≤ 1000000000) : 0 ≤ (k : Int) * k ∧ (k : Int) * k ≤ 1000000000000000000 := by
  have h1 : k * k ≤ 1000000000 * 1000000000 := Nat.mul_le_mul h h
  have h2 : ((k * k : Nat) : Int) = (k : Int) * k := by simp
  omega
theorem sq_lt (a b : Nat) (h : a < b) : (a : Int) * a < (b : Int) * b := by
  have := Nat.mul_lt_mul'' h h
  have h2 : ((a * a : Nat) : Int) = (a : Int) * a := by simp
  have h3 : ((b * b : Nat) : Int) = (b : Int) * b := by simp
  omega
theorem sq_le (a b : Nat) (h : a ≤ b) : (a : Int) * a ≤ (b : Int) * b := by
  have := Nat.mul_le_mul h h
  have h2 : ((a * a : Nat) : Int) = (a : Int) * a := by simp
  have h3 : ((b * b : Nat) : Int) = (b : Int) * b := by simp
  omega

/-- n is no whole square. -/
def noRoot (n : Int) : Prop := ∀ r : Nat, (r : Int) * r ≠ n
theorem noRoot_neg (n : Int) (h : n < 0) : noRoot n := fun r hr => by
  have := Int.mul_nonneg (Int.natCast_nonneg r) (Int.natCast_nonneg r)
  omega
theorem noRoot_past (n : Int) (k : Nat) (h : ∀ j : Nat, j < k → (j : Int) * j ≠ n) (hk : n < (k : Int) * k) : noRoot n := fun r hr => by
  by_cases hrk : r < k
  · exact h r hrk hr
  · have := sq_le k r (by omega)
    omega
theorem noRoot_between (n : Int) (a : Nat) (h1 : (a : Int) * a < n) (h2 : n < ((a + 1 : Nat) : Int) * ((a + 1 : Nat) : Int)) : noRoot n := fun r hr => by
  by_cases hra : r ≤ a
  · have := sq_le r a hra
    omega
  · have := sq_le (a + 1) r (by omega)
    omega

set_option maxRecDepth 100000 in
set_option maxHeartbeats 400000 in
theorem side_any (n : Int) (w : World) (hn : n ≤ 1000000000) :
    Calls Tryd.prog 55 #[.int .i64 n] w fun e w' => ((∃ r : Nat, (r : Int) * r = n ∧ e = .returned (.int .i64 r)) ∨ (noRoot n ∧ e = .returned (.int .i64 (-1)))) ∧ w' = w := by
  go_enter Tryd.func55, Tryd.ntmps55
  go_wp2
  go_loop [3] (fun x => ∃ k : Nat, k ≤ 31623 ∧ x = .int .i64 k ∧ Hid (∀ j : Nat, j < k → (j : Int) * j ≠ n)) (fun x => 31624 - (intOf x).toNat)
  case atStart => exact ⟨0, by omega, rfl, fun j hj => by omega⟩
  case round =>
    obtain ⟨k, hk, rfl, hj⟩ := hrel
    have hr := sq_range k (by omega)
    by_cases hle : (k : Int) * k ≤ n
    · have hb := sq_bound k n hn hle
      by_cases heq : (k : Int) * k = n
      · have HE := hide heq
        have hb1 : ((k : Int) * k == n) = true := by rw [heq]; simp
        clear heq
        go_wp2
        go_ret
        exact ⟨Or.inl ⟨k, unhide HE, rfl⟩, rfl⟩
      · have hb1 : ((k : Int) * k == n) = false := by rw [beq_eq_false_iff_ne]; exact heq
        have HE := hide heq
        clear heq
        go_wp2
        go_round
        case rel => exact ⟨k + 1, by omega, by go_num, fun j hj' => by
          by_cases hjk : j < k
          · exact unhide hj j hjk
          · obtain rfl : j = k := by omega
            exact unhide HE⟩
        case measure => simp [intOf]; omega
    · have HE := hide (noRoot_past n k (unhide hj) (by omega))
      go_wp2
      go_ret
      exact ⟨Or.inr ⟨unhide HE, rfl⟩, rfl⟩

set_option maxRecDepth 100000 in
set_option maxHeartbeats 400000 in
theorem wholeRoot_any (n : Int) (w : World) (hn : n ≤ 1000000000) (hn0 : -1000000000 ≤ n) :
    Calls Tryd.prog 54 #[.int .i64 n] w fun e w' => ((∃ r : Nat, (r : Int) * r = n ∧ e = .returned (.tuple #[.int .i64 r, .bool true])) ∨ (noRoot n ∧ e = .returned (.tuple #[.int .i64 0, .bool false]))) ∧ w' = w := by
  by_cases h0 : n < 0
  · have HE := hide (noRoot_neg n h0)
    go_enter Tryd.func54, Tryd.ntmps54
    go_wp2
    go_ret2
    exact ⟨Or.inr ⟨unhide HE, rfl⟩, rfl⟩
  obtain ⟨m, rfl⟩ := Int.eq_ofNat_of_zero_le (show 0 ≤ n by omega)
  go_enter Tryd.func54, Tryd.ntmps54
  go_wp2
  go_loop [4, 5] (fun x y => ∃ a b : Nat, a ≤ b ∧ b ≤ 1000000000 ∧ x = .int .i64 a ∧ y = .int .i64 b ∧ Hid ((a : Int) * a ≤ m ∧ (m : Int) < ((b + 1 : Nat) : Int) * ((b + 1 : Nat) : Int))) (fun x y => (intOf y - intOf x).toNat)
  case atStart => exact ⟨0, m, by omega, by omega, rfl, rfl, by
    refine ⟨by simp, ?_⟩
    have h1 := Nat.mul_le_mul (Nat.le_refl (m + 1)) (show 1 ≤ m + 1 by omega)
    have h3 : (((m + 1) * (m + 1) : Nat) : Int) = ((m + 1 : Nat) : Int) * ((m + 1 : Nat) : Int) := by simp
    omega⟩
  case round =>
    obtain ⟨a, b, hab, hb, rfl, rfl, HI⟩ := hrel
    by_cases hlt : a < b
    · have hm1 : a < (a + b + 1) / 2 := by omega
      have hm2 : (a + b + 1) / 2 ≤ b := by omega
      have hr := sq_range ((a + b + 1) / 2) (by omega)
      have hcast : (((a + b + 1) / 2 : Nat) : Int) = ((a : Int) + b + 1) / 2 := by omega
      rw [hcast] at hr
      by_cases hle : ((a : Int) + b + 1) / 2 * (((a : Int) + b + 1) / 2) ≤ m
      · have HE := hide hle
        have HC := hide hcast
        clear hcast
        go_wp2
        go_round
        case rel => exact ⟨(a + b + 1) / 2, b, hm2, hb, by rw [unhide HC], rfl, by rw [unhide HC]; exact ⟨unhide HE, (unhide HI).2⟩⟩
        case measure => simp [intOf]; omega
      · have HE := hide hle
        have HC := hide hcast
        clear hcast
        go_wp2
        go_round
        case rel => exact ⟨a, (a + b + 1) / 2 - 1, by omega, by omega, rfl, by congr 1; omega, (unhide HI).1, by
          rw [show (a + b + 1) / 2 - 1 + 1 = (a + b + 1) / 2 by omega, unhide HC]
          have := unhide HE
          omega⟩
        case measure => simp [intOf]; omega
    · obtain rfl : a = b := by omega
      have hr := sq_range a (by omega)
      by_cases heq : (a : Int) * a = m
      · have hb1 : ((a : Int) * a != m) = false := by rw [heq]; simp
        have HE := hide heq
        clear heq
        go_wp2
        go_ret2
        exact ⟨Or.inl ⟨a, unhide HE, rfl⟩, rfl⟩
      · have hb1 : ((a : Int) * a != m) = true := by rw [bne_iff_ne]; exact heq
        have HE := hide (noRoot_between m a (by have := (unhide HI).1; omega) (unhide HI).2)
        clear heq
        go_wp2
        go_ret2
        exact ⟨Or.inr ⟨unhide HE, rfl⟩, rfl⟩
end Go.Proofs.YtikiaijgcjjloaaDoor

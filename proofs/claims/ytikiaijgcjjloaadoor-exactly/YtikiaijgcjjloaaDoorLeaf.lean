/- The walks of the small functions: digits, signs, greatest common divisors, roots. -/
import Derived.Test.YtikiaijgcjjloaaDoorProg
import Derived.Test.YtikiaijgcjjloaaDoorMath
import Derived.WalkKit
import Derived.BigQuiet
import Derived.Deep.QuietTactic
import Derived.Below
import Derived.Handy
namespace Go.Proofs.YtikiaijgcjjloaaDoor
open Go Go.RowKit M

theorem hide {p : Prop} (h : p) : Hid p := h
theorem unhide {p : Prop} (h : Hid p) : p := h
theorem ret_int {k : IntKind} {a b : Int} (h : a = b) : Ending.returned (.int k a) = .returned (.int k b) := by rw [h]
theorem ret_bool {a b : Bool} (h : a = b) : Ending.returned (.bool a) = .returned (.bool b) := by rw [h]

set_option maxRecDepth 100000 in
set_option maxHeartbeats 400000 in
theorem isDigit_any (c : UInt8) (w : World) :
    Calls Tryd.prog 63 #[.int .u8 (c.toNat : Int)] w fun e w' => e = .returned (.bool (isDig c)) ∧ w = w' := by
  by_cases h1 : 48 ≤ (c.toNat : Int)
  · by_cases h2 : (c.toNat : Int) ≤ 57
    · have hf : Hid (isDig c = true) := by show isDig c = _; rw [isDig_iff]; omega
      go_enter Tryd.func63, Tryd.ntmps63
      go_wp2
      go_ret
      exact ⟨ret_bool hf.out.symm, rfl⟩
    · have hf : Hid (isDig c = false) := by show isDig c = _; rw [isDig_not]; omega
      go_enter Tryd.func63, Tryd.ntmps63
      go_wp2
      go_ret
      exact ⟨ret_bool hf.out.symm, rfl⟩
  · have hf : Hid (isDig c = false) := by show isDig c = _; rw [isDig_not]; omega
    go_enter Tryd.func63, Tryd.ntmps63
    go_wp2
    go_ret
    exact ⟨ret_bool hf.out.symm, rfl⟩

set_option maxRecDepth 100000 in
set_option maxHeartbeats 400000 in
theorem size_any (p : Int) (w : World) (h1 : -4000000000000000000 ≤ p) (h2 : p ≤ 4000000000000000000) :
    Calls Tryd.prog 52 #[.int .i64 p] w fun e w' => e = .returned (.int .i64 (p.natAbs : Int)) ∧ w' = w := by
  by_cases h : p < 0
  · go_enter Tryd.func52, Tryd.ntmps52
    go_wp2
    go_ret
    exact ⟨ret_int (by omega), rfl⟩
  · go_enter Tryd.func52, Tryd.ntmps52
    go_wp2
    go_ret
    exact ⟨ret_int (by omega), rfl⟩

set_option maxRecDepth 100000 in
set_option maxHeartbeats 400000 in
theorem commonDivisor_any (a b : Nat) (w : World) (ha : a ≤ 4000000000000000000) (hb : b ≤ 4000000000000000000) :
    Calls Tryd.prog 51 #[.int .i64 a, .int .i64 b] w fun e w' => e = .returned (.int .i64 (Nat.gcd a b : Nat)) ∧ ∃ n, w' = w.drewN n := by
  go_enter Tryd.func51, Tryd.ntmps51
  go_wp2
  go_loopw [0, 1] (fun x y w' => ∃ m n k : Nat, m ≤ 4000000000000000000 ∧ n ≤ 4000000000000000000 ∧ x = .int .i64 m ∧ y = .int .i64 n ∧ Nat.gcd m n = Nat.gcd a b ∧ w' = w.drewN k) (fun _ y _ => (intOf y).toNat)
  case atStart => exact ⟨a, b, 0, ha, hb, rfl, rfl, rfl, rfl⟩
  case round =>
    obtain ⟨m, n, k, hm, hn, rfl, rfl, hg, rfl⟩ := hrel
    have HG : Hid (Nat.gcd m n = Nat.gcd a b) := hg
    clear hg
    by_cases h0 : n = 0
    · subst h0
      go_wp2
      go_ret
      exact ⟨ret_int (by have := HG.out; simp at this; omega), k, rfl⟩
    · have hne : ((n : Int) != 0) = true := by rw [bne_iff_ne]; omega
      have hn1 : 1 ≤ (n : Int) := by omega
      have hmod : m % n < n := Nat.mod_lt m (by omega)
      have HE : Hid (Nat.gcd n (m % n) = Nat.gcd a b) := by show _ = _; rw [← HG.out, Nat.gcd_comm n, ← Nat.gcd_rec, Nat.gcd_comm]
      have hz : ((n : Int) == 0) = false := by rw [beq_eq_false_iff_ne]; omega
      go_wp2
      go_quiet (fail)
      go_roundw
      case rel => exact ⟨_, _, _, _, _, _, _, _, ⟨n, m % n, k + nq, hn, by omega, rfl, by go_num, HE.out, by simp⟩, rfl⟩
      case measure => simp [intOf]; omega

set_option maxRecDepth 100000 in
set_option maxHeartbeats 400000 in
theorem common_any (k : Nat) : ∀ (a b : Nat) (w : World), a ≤ k → a ≤ 4000000000000000000 → b ≤ 4000000000000000000 →
    Calls Tryd.prog 61 #[.int .i64 a, .int .i64 b] w fun e w' => e = .returned (.int .i64 (Nat.gcd a b : Nat)) ∧ w' = w := by
  induction k with
  | zero =>
    intro a b w hk ha hb
    obtain rfl : a = 0 := by omega
    go_enter Tryd.func61, Tryd.ntmps61
    go_wp2_with fail
    go_ret
    exact ⟨ret_int (by simp), rfl⟩
  | succ k ih =>
    intro a b w hk ha hb
    have IH := hide ih
    clear ih
    by_cases h0 : a = 0
    · subst h0
      go_enter Tryd.func61, Tryd.ntmps61
      go_wp2_with fail
      go_ret
      exact ⟨ret_int (by simp), rfl⟩
    · have ha1 : 1 ≤ (a : Int) := by omega
      have hz : ((a : Int) == 0) = false := by rw [beq_eq_false_iff_ne]; omega
      have hm : b % a < a := Nat.mod_lt b (by omega)
      have HE : Hid (Nat.gcd (b % a) a = Nat.gcd a b) := by show _ = _; rw [← Nat.gcd_rec]
      go_enter Tryd.func61, Tryd.ntmps61
      go_wp2_with fail
      rw [show ((b : Int) % (a : Int)) = ((b % a : Nat) : Int) from by omega]
      refine (unhide IH (b % a) a _ (by omega) (by omega) (by omega)).mono ?_
      rintro e w' ⟨rfl, rfl⟩
      go_wp2_with fail
      go_ret
      exact ⟨ret_int (by rw [HE.out]), rfl⟩
end Go.Proofs.YtikiaijgcjjloaaDoor

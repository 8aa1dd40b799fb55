/- What the statement Exactly needs of numbers; the walks of its own small functions. -/
import Derived.Test.YtikiaijgcjjloaaDoorLaw2
namespace Go.Proofs.YtikiaijgcjjloaaDoor
open Go Go.RowKit M Go.Lib

/-- The top of a number: p, or its negative. -/
def tt (below : Bool) (p : Nat) : Int := if below then -(p : Int) else p
def num (t b : Int) : ByteArray := ⟨(numText t b).toArray⟩
theorem num_list (t b : Int) : (num t b).data.toList = numText t b := by simp [num]
theorem numText_len (t b : Int) (h1 : -1000000000 ≤ t) (h2 : t ≤ 1000000000) (h4 : b ≤ 1000000000) : (numText t b).length ≤ 22 := by
  have := itoa_len t h1 h2
  unfold numText
  split
  · simp; omega
  · have := dec_len_ten b.toNat (by omega)
    simp; omega
theorem num_size (t b : Int) (h1 : -1000000000 ≤ t) (h2 : t ≤ 1000000000) (h4 : b ≤ 1000000000) : (num t b).size ≤ maxLen := by
  have := numText_len t b h1 h2 h4
  have e : (num t b).size = (numText t b).length := by rw [← len_size, num_list]
  rw [e]; unfold maxLen; omega
theorem is_num {t b : Int} (h1 : -1000000000 ≤ t) (h2 : t ≤ 1000000000) (h3 : 1 ≤ b) (h4 : b ≤ 1000000000) (hg : Nat.gcd t.natAbs b.natAbs = 1) : IsNum (num t b).data.toList t b := ⟨h1, h2, h3, h4, hg, num_list t b⟩
theorem tt_abs (n : Bool) (p : Nat) : (tt n p).natAbs = p := by unfold tt; split <;> omega
theorem tt_bd (n : Bool) (p : Nat) (h : p ≤ 1000000000) : -1000000000 ≤ tt n p ∧ tt n p ≤ 1000000000 := by unfold tt; split <;> omega

/-- Two texts that are numbers: what F says of them. -/
theorem says2_of {F : Int → Int → Int → Int → List UInt8 → Int → Prop} {a b : ByteArray} {t1 q1 t2 q2 : Int} (h1 : IsNum a.data.toList t1 q1) (h2 : IsNum b.data.toList t2 q2) {r : List UInt8} {c : Int} (h : Says2 F a b r c) : F t1 q1 t2 q2 r c := by
  rcases h with ⟨h0, _⟩ | ⟨t1', q1', t2', q2', n1, n2, hf⟩
  · rcases h0 with h0 | h0
    · exact absurd h1 (h0 _ _)
    · exact absurd h2 (h0 _ _)
  · obtain ⟨rfl, rfl⟩ := h1.unique n1
    obtain ⟨rfl, rfl⟩ := h2.unique n2
    exact hf
theorem ans1_of {F : Int → Int → List UInt8 → Int → Prop} {a : ByteArray} {t q : Int} (h1 : IsNum a.data.toList t q) {r : List UInt8} {c : Int} (h : ((∀ t b, ¬ IsNum a.data.toList t b) ∧ r = [] ∧ c = 1) ∨ ∃ t b, IsNum a.data.toList t b ∧ F t b r c) : F t q r c := by
  rcases h with ⟨h0, _⟩ | ⟨t', q', n1, hf⟩
  · exact absurd h1 (h0 _ _)
  · obtain ⟨rfl, rfl⟩ := h1.unique n1
    exact hf

theorem text_11 : numText 1 1 = [49] := by
  unfold numText
  rw [if_pos (by omega), itoa_pos 1 (by omega)]
  show decDigits 1 ++ [] = _
  rw [dec_small 1 (by omega)]
  rfl
theorem text_01 : numText 0 1 = [48] := by
  unfold numText
  rw [if_pos (by omega), itoa_pos 0 (by omega)]
  show decDigits 0 ++ [] = _
  rw [dec_small 0 (by omega)]
  rfl
theorem one_is : IsNum (⟨#[49]⟩ : ByteArray).data.toList 1 1 := ⟨by omega, by omega, by omega, by omega, rfl, text_11.symm⟩

theorem lowF_low (t q : Int) (h1 : -1000000000 ≤ t) (h2 : t ≤ 1000000000) (h3 : 1 ≤ q) (h4 : q ≤ 1000000000) (hg : Nat.gcd t.natAbs q.natAbs = 1) {r : List UInt8} {c : Int} (h : LowF t q r c) : r = numText t q ∧ c = 0 := by
  obtain ⟨e1, e2, e3⟩ := low_self t q hg
  rcases h with ⟨_, rfl, rfl⟩ | ⟨h0, _⟩
  · rw [e1, e2]; exact ⟨rfl, rfl⟩
  · have := (is_num h1 h2 h3 h4 hg).fits
    rw [h0] at this; cases this
theorem lowF_same (x : Int) (hx : 1 ≤ x) {r : List UInt8} {c : Int} (h : LowF x x r c) : r = [49] ∧ c = 0 := by
  have hg : gg x x = x.natAbs := by unfold gg; exact Nat.gcd_self _
  have hp : lowP x x = 1 := by
    unfold lowP; rw [hg, show ((x.natAbs : Nat) : Int) = x from by omega]; exact Int.tdiv_self (by omega)
  have hq : lowQ x x = 1 := hp
  have hf : fitsB x x = true := by
    unfold fitsB; rw [hg, Nat.div_self (by omega)]; rfl
  rcases h with ⟨_, rfl, rfl⟩ | ⟨h0, _⟩
  · rw [hp, hq]; exact ⟨text_11, rfl⟩
  · rw [hf] at h0; cases h0
theorem lowF_zero (x : Int) (hx : 1 ≤ x) {r : List UInt8} {c : Int} (h : LowF 0 x r c) : r = [48] ∧ c = 0 := by
  have hg : gg 0 x = x.natAbs := by unfold gg; simp
  have hp : lowP 0 x = 0 := by unfold lowP; simp
  have hq : lowQ 0 x = 1 := by
    unfold lowQ; rw [hg, show ((x.natAbs : Nat) : Int) = x from by omega]; exact Int.tdiv_self (by omega)
  have hf : fitsB 0 x = true := by
    unfold fitsB; rw [hg, Nat.div_self (by omega)]; simp
  rcases h with ⟨_, rfl, rfl⟩ | ⟨h0, _⟩
  · rw [hp, hq]; exact ⟨text_01, rfl⟩
  · rw [hf] at h0; cases h0

/-- n and its negative. -/
theorem x_plus (n : Bool) (p q : Nat) (hp : p ≤ 1000000000) (h1 : 1 ≤ q) (hq : q ≤ 1000000000) (hg : Nat.gcd p q = 1) {r : List UInt8} {c : Int} (h : Says2 SumF (num (tt n p) q) (num (tt (!n) p) q) r c) : r = [48] ∧ c = 0 := by
  have b1 := tt_bd n p hp
  have b2 := tt_bd (!n) p hp
  have h' := says2_of (is_num b1.1 b1.2 (by omega) (by omega) (by rw [tt_abs]; simpa using hg)) (is_num b2.1 b2.2 (by omega) (by omega) (by rw [tt_abs]; simpa using hg)) h
  unfold SumF at h'
  have e : tt n p * (q : Int) + tt (!n) p * (q : Int) = 0 := by
    rw [← Int.add_mul]
    have : tt n p + tt (!n) p = 0 := by unfold tt; cases n <;> simp <;> omega
    rw [this, Int.zero_mul]
  rw [e] at h'
  exact lowF_zero _ (mul_pos1 _ _ (by omega) (by omega)) h'
/-- n times 1. -/
theorem x_one (n : Bool) (p q : Nat) (hp : p ≤ 1000000000) (h1 : 1 ≤ q) (hq : q ≤ 1000000000) (hg : Nat.gcd p q = 1) {r : List UInt8} {c : Int} (h : Says2 ProdF (num (tt n p) q) ⟨#[49]⟩ r c) : r = numText (tt n p) q ∧ c = 0 := by
  have b1 := tt_bd n p hp
  have hg' : Nat.gcd (tt n p).natAbs (q : Int).natAbs = 1 := by rw [tt_abs]; simpa using hg
  have h' := says2_of (is_num b1.1 b1.2 (by omega) (by omega) hg') one_is h
  unfold ProdF at h'
  rw [Int.mul_one, Int.mul_one] at h'
  exact lowF_low _ _ b1.1 b1.2 (by omega) (by omega) hg' h'
/-- 1 over n. -/
theorem x_over0 (n : Bool) (q : Nat) (h1 : 1 ≤ q) (hq : q ≤ 1000000000) (hg : Nat.gcd 0 q = 1) {r : List UInt8} {c : Int} (h : ((∀ t b, ¬ IsNum (num (tt n 0) q).data.toList t b) ∧ r = [] ∧ c = 1) ∨ ∃ t b, IsNum (num (tt n 0) q).data.toList t b ∧ OverF t b r c) : r = [] ∧ c = 2 := by
  have e : tt n 0 = 0 := by unfold tt; cases n <;> rfl
  rw [e] at h
  have h' := ans1_of (is_num (t := 0) (b := q) (by omega) (by omega) (by omega) (by omega) (by simpa using hg)) h
  rcases h' with ⟨_, rfl, rfl⟩ | ⟨h0, _⟩
  · exact ⟨rfl, rfl⟩
  · exact absurd rfl h0
theorem x_over (n : Bool) (p q : Nat) (h0 : 1 ≤ p) (hp : p ≤ 1000000000) (h1 : 1 ≤ q) (hq : q ≤ 1000000000) (hg : Nat.gcd p q = 1) {r : List UInt8} {c : Int} (h : ((∀ t b, ¬ IsNum (num (tt n p) q).data.toList t b) ∧ r = [] ∧ c = 1) ∨ ∃ t b, IsNum (num (tt n p) q).data.toList t b ∧ OverF t b r c) : r = numText (tt n q) p ∧ c = 0 := by
  have b1 := tt_bd n p hp
  have h' := ans1_of (is_num b1.1 b1.2 (by omega) (by omega) (by rw [tt_abs]; simpa using hg)) h
  rcases h' with ⟨h2, _⟩ | ⟨_, rfl, rfl⟩
  · have := tt_abs n p; rw [h2] at this; simp at this; omega
  · refine ⟨?_, rfl⟩
    unfold overP overQ tt
    cases n
    · simp only [Bool.false_eq_true, if_false]; rw [if_neg (by omega), if_neg (by omega)]
    · simp only [if_true]; rw [if_pos (by omega), if_pos (by omega), Int.neg_neg]
/-- n times 1 over n. -/
theorem x_inv (n : Bool) (p q : Nat) (h0 : 1 ≤ p) (hp : p ≤ 1000000000) (h1 : 1 ≤ q) (hq : q ≤ 1000000000) (hg : Nat.gcd p q = 1) {r : List UInt8} {c : Int} (h : Says2 ProdF (num (tt n p) q) (num (tt n q) p) r c) : r = [49] ∧ c = 0 := by
  have b1 := tt_bd n p hp
  have b2 := tt_bd n q hq
  have h' := says2_of (is_num b1.1 b1.2 (by omega) (by omega) (by rw [tt_abs]; simpa using hg)) (is_num (t := tt n q) (b := p) b2.1 b2.2 (by omega) (by omega) (by rw [tt_abs]; simpa [Nat.gcd_comm] using hg)) h
  unfold ProdF at h'
  have e : tt n p * tt n q = (q : Int) * (p : Int) := by
    unfold tt; cases n
    · simp [Int.mul_comm]
    · simp [Int.neg_mul_neg, Int.mul_comm]
  rw [e] at h'
  exact lowF_same _ (mul_pos1 _ _ (by omega) (by omega)) h'

theorem sq_big (x : Nat) (h : 31622 < x) : 1000000000 < x * x := by
  have := Nat.mul_le_mul (show 31623 ≤ x by omega) (show 31623 ≤ x by omega)
  omega
theorem sq_small (x : Nat) (h : x ≤ 31622) : x * x ≤ 1000000000 := by
  have := Nat.mul_le_mul h h
  omega
theorem gcd_sq (p q : Nat) (hg : Nat.gcd p q = 1) : Nat.gcd (p * p) (q * q) = 1 := by
  have h1 : Nat.Coprime p q := hg
  exact (Nat.Coprime.mul_left (h1.mul_right h1) (h1.mul_right h1))
theorem tt_sq (n : Bool) (p : Nat) : tt n p * tt n p = ((p * p : Nat) : Int) := by
  unfold tt; cases n <;> simp [Int.neg_mul_neg]
theorem x_sq_form (n : Bool) (p q : Nat) (hp : p ≤ 1000000000) (h1 : 1 ≤ q) (hq : q ≤ 1000000000) (hg : Nat.gcd p q = 1) {r : List UInt8} {c : Int} (h : Says2 ProdF (num (tt n p) q) (num (tt n p) q) r c) : LowF ((p * p : Nat) : Int) ((q * q : Nat) : Int) r c := by
  have b1 := tt_bd n p hp
  have i1 := is_num (t := tt n p) (b := q) b1.1 b1.2 (by omega) (by omega) (by rw [tt_abs]; simpa using hg)
  have h' := says2_of i1 i1 h
  unfold ProdF at h'
  rw [tt_sq] at h'
  simpa using h'
/-- The square is refused above 31622. -/
theorem x_sq_no (n : Bool) (p q : Nat) (hp : p ≤ 1000000000) (h1 : 1 ≤ q) (hq : q ≤ 1000000000) (hg : Nat.gcd p q = 1) (hb : 31622 < p ∨ 31622 < q) {r : List UInt8} {c : Int} (h : Says2 ProdF (num (tt n p) q) (num (tt n p) q) r c) : r = [] ∧ c = 3 := by
  have h' := x_sq_form n p q hp h1 hq hg h
  rcases h' with ⟨h0, _⟩ | ⟨_, rfl, rfl⟩
  · exfalso
    unfold fitsB gg at h0
    have h0' := of_decide_eq_true h0
    simp only [Int.natAbs_natCast, gcd_sq p q hg, Nat.div_one] at h0'
    rcases hb with hb | hb
    · have := sq_big p hb; omega
    · have := sq_big q hb; omega
  · exact ⟨rfl, rfl⟩
theorem x_sq (n : Bool) (p q : Nat) (h1 : 1 ≤ q) (hg : Nat.gcd p q = 1) (hp : p ≤ 31622) (hq : q ≤ 31622) {r : List UInt8} {c : Int} (h : Says2 ProdF (num (tt n p) q) (num (tt n p) q) r c) : r = numText ((p * p : Nat) : Int) ((q * q : Nat) : Int) ∧ c = 0 := by
  have h' := x_sq_form n p q (by omega) h1 (by omega) hg h
  have := sq_small p hp
  have := sq_small q hq
  have h2 := Nat.mul_le_mul h1 h1
  exact lowF_low _ _ (by omega) (by omega) (by omega) (by omega) (by exact gcd_sq p q hg) h'
/-- The root of the square. -/
theorem x_root (p q : Nat) (h1 : 1 ≤ q) (hg : Nat.gcd p q = 1) (hp : p ≤ 31622) (hq : q ≤ 31622) {r : List UInt8} {c : Int} (h : ((∀ t b, ¬ IsNum (num ((p * p : Nat) : Int) ((q * q : Nat) : Int)).data.toList t b) ∧ r = [] ∧ c = 1) ∨ ∃ t b, IsNum (num ((p * p : Nat) : Int) ((q * q : Nat) : Int)).data.toList t b ∧ RootF t b r c) : r = numText (tt false p) q ∧ c = 0 := by
  have := sq_small p hp
  have := sq_small q hq
  have h2 := Nat.mul_le_mul h1 h1
  have h' := ans1_of (is_num (by omega) (by omega) (by omega) (by omega) (by exact gcd_sq p q hg)) h
  rcases h' with ⟨x, y, hx, hy, rfl, rfl⟩ | ⟨hn, _⟩
  · obtain rfl : x = p := sq_inj x p (by simpa using hx)
    obtain rfl : y = q := sq_inj y q (by simpa using hy)
    exact ⟨rfl, rfl⟩
  · rcases hn with hn | hn
    · exact absurd (by simp) (hn p)
    · exact absurd (by simp) (hn q)

set_option maxRecDepth 100000 in
set_option maxHeartbeats 400000 in
theorem pick_any (x : Int) (n : Nat) (w : World) (h1 : -9223372036854775808 ≤ x) (h2 : x ≤ 9223372036854775807) (hn : 1 ≤ n) (hn2 : n ≤ 4000000000) :
    Calls Tryd.prog 19 #[.int .i64 x, .int .i64 n] w fun e w' => (∃ r : Nat, r < n ∧ e = .returned (.int .i64 r)) ∧ w = w' := by
  by_cases h0 : x < 0
  · have hm := Int.emod_lt_of_pos (-(x + 1)) (show (0 : Int) < n by omega)
    have hm0 := Int.emod_nonneg (-(x + 1)) (show (n : Int) ≠ 0 by omega)
    have H1 := hide hm
    have H2 := hide hm0
    have H3 := hide (show -((x + 1).tmod (n : Int)) = -(x + 1) % (n : Int) from by rw [← Int.neg_tmod, Int.tmod_eq_emod_of_nonneg (by omega)])
    have hn1 : 1 ≤ (n : Int) := by omega
    have hz : ((n : Int) == 0) = false := by rw [beq_eq_false_iff_ne]; omega
    clear hm hm0
    go_enter Tryd.func19, Tryd.ntmps19
    go_wp2
    go_ret
    refine ⟨⟨(-(x + 1) % (n : Int)).toNat, by have := unhide H1; have := unhide H2; omega, ret_int (by have := unhide H2; have := unhide H3; omega)⟩, rfl⟩
  · have hm := Int.emod_lt_of_pos x (show (0 : Int) < n by omega)
    have hm0 := Int.emod_nonneg x (show (n : Int) ≠ 0 by omega)
    have H1 := hide hm
    have H2 := hide hm0
    have hn1 : 1 ≤ (n : Int) := by omega
    have hz : ((n : Int) == 0) = false := by rw [beq_eq_false_iff_ne]; omega
    clear hm hm0
    go_enter Tryd.func19, Tryd.ntmps19
    go_wp2
    go_ret
    refine ⟨⟨(x % (n : Int)).toNat, by have := unhide H1; have := unhide H2; omega, ret_int (by have := unhide H2; omega)⟩, rfl⟩

set_option maxRecDepth 100000 in
set_option maxHeartbeats 400000 in
theorem gcd_any (a b : Nat) (w : World) (ha : a ≤ 4000000000000000000) (hb : b ≤ 4000000000000000000) :
    Calls Tryd.prog 20 #[.int .i64 a, .int .i64 b] w fun e w' => e = .returned (.int .i64 (Nat.gcd a b : Nat)) ∧ w = w' := by
  go_enter Tryd.func20, Tryd.ntmps20
  go_wp2
  go_loop [0, 1, 5] (fun x y _ => ∃ m n : Nat, m ≤ 4000000000000000000 ∧ n ≤ 4000000000000000000 ∧ x = .int .i64 m ∧ y = .int .i64 n ∧ Hid (Nat.gcd m n = Nat.gcd a b)) (fun _ y _ => (RowKit.intOf y).toNat)
  case atStart => exact ⟨a, b, ha, hb, rfl, rfl, rfl⟩
  case round =>
    obtain ⟨m, n, hm, hn, rfl, rfl, HG⟩ := hrel
    by_cases h0 : n = 0
    · subst h0
      go_wp2
      go_ret
      exact ⟨ret_int (by have := HG.out; simp at this; omega), rfl⟩
    · have hn1 : 1 ≤ (n : Int) := by omega
      have hmod : m % n < n := Nat.mod_lt m (by omega)
      have HE : Hid (Nat.gcd n (m % n) = Nat.gcd a b) := by show _ = _; rw [← HG.out, Nat.gcd_comm n, ← Nat.gcd_rec, Nat.gcd_comm]
      have hz : ((n : Int) == 0) = false := by rw [beq_eq_false_iff_ne]; omega
      have hgt : 0 < (n : Int) := by omega
      go_wp2
      go_round
      case rel => exact ⟨n, m % n, hn, by omega, rfl, by go_num, unhide HE⟩
      case measure => simp [RowKit.intOf]; omega
end Go.Proofs.YtikiaijgcjjloaaDoor

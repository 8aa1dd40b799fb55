import Derived.Test.YtikiaijgcjjloaaGreatDoorPart1
import Derived.WalkSpells

/- The walks: the document's numeral, value, side; the program's root. -/
namespace Go.Proofs.YtikiaijgcjjloaaGreatDoor
open Go Go.RowKit M Go.Lib

theorem ret_str {a b : ByteArray} (h : a = b) : Ending.returned (.string a) = .returned (.string b) := by rw [h]
theorem str_app (l m : List UInt8) : ((⟨l.toArray⟩ : ByteArray) ++ (⟨m.toArray⟩ : ByteArray)) = ⟨(l ++ m).toArray⟩ := by
  apply ByteArray.ext; simp
def dchar (k : Nat) : UInt8 := UInt8.ofNat (48 + k)

theorem dec_conv (n : Nat) (w : World) : (convert 33 9 (.slice (some ⟨w.heap.size, 0, none⟩) 1 1)).run Tryz.prog (w.alloc (.cells #[.int .u8 (48 + (n : Int) % 10)] 5)) = .ok (.string ⟨#[dchar (n % 10)]⟩) (w.alloc (.cells #[.int .u8 (48 + (n : Int) % 10)] 5)) := by
  have h := run_convert_bytes_back (P := Tryz.prog) (w.alloc (.cells #[.int .u8 (48 + (n : Int) % 10)] 5)) 33 9 5 ⟨w.heap.size, 0, none⟩ 1 [dchar (n % 10)] Tryz.underlying33 Tryz.underlying5 Tryz.underlying9 (fun j hj => by
    have hj0 : j = 0 := by simpa using hj
    subst hj0
    have e := ofNat_toNat (n % 10) (by omega)
    simp only [List.getElem_cons_zero, dchar, e]
    simp [go_sem, Addr.add])
  exact h

theorem str_dec_small (n : Nat) (h : n < 10) : (⟨#[dchar (n % 10)]⟩ : ByteArray) = ⟨(decDigits n).toArray⟩ := by
  rw [dec_small n h, Nat.mod_eq_of_lt h]; rfl

set_option maxRecDepth 100000 in
set_option maxHeartbeats 400000 in
theorem decimal_one (n : Nat) (w : World) (h : n < 10) :
    Calls Tryz.prog 151 #[.int .i64 n] w fun e w' => e = .returned (.string ⟨(decDigits n).toArray⟩) ∧ Below w.heap.size w w' := by
  have hc := dec_conv n w
  have HE := hide (str_dec_small n h)
  go_enter Tryz.func151, Tryz.ntmps151
  go_wp2_with fail
  go_ret
  exact ⟨ret_str (unhide HE), (Below.refl _ _).alloc (Nat.le_refl _) _⟩

set_option maxRecDepth 100000 in
set_option maxHeartbeats 400000 in
theorem decimal_any (k : Nat) : ∀ (n : Nat) (w : World), n ≤ k → n ≤ 4000000000000000000 →
    Calls Tryz.prog 151 #[.int .i64 n] w fun e w' => e = .returned (.string ⟨(decDigits n).toArray⟩) ∧ Below w.heap.size w w' := by
  induction k with
  | zero => intro n w hk hn; exact decimal_one n w (by omega)
  | succ k ih =>
    intro n w hk hn
    by_cases h : n < 10
    · exact decimal_one n w h
    have IH := hide ih
    clear ih
    have hc := dec_conv n w
    have HE := hide (show decDigits n = decDigits (n / 10) ++ [dchar (n % 10)] from dec_step n h)
    have h' : ¬ (n : Int) < 10 := by omega
    have hl : (decDigits (n / 10)).length ≤ 19 := dec_len_le 19 _ (by decide) (by have : (10 : Nat) ^ 19 = 10000000000000000000 := by decide
                                                                                  omega)
    go_enter Tryz.func151, Tryz.ntmps151
    go_wp2_with fail
    rw [show ((n : Int) / 10) = ((n / 10 : Nat) : Int) from by omega]
    refine (unhide IH (n / 10) _ (by omega) (by omega)).mono ?_
    rintro e w' ⟨rfl, hb⟩
    go_wp2_with fail
    go_ret
    exact ⟨ret_str (by rw [unhide HE]; exact str_app _ [_]), ((Below.refl _ _).alloc (Nat.le_refl _) _).trans (hb.mono (by simp))⟩

theorem take_snoc (s : ByteArray) (k : Nat) (h : k < s.size) : s.data.toList.take (k + 1) = s.data.toList.take k ++ [s[k]] := by
  rw [List.take_succ_eq_append_getElem (by simpa using h)]; rfl
theorem len_size (s : ByteArray) : s.data.toList.length = s.size := by simp
theorem take_val_lt (s : ByteArray) (k : Nat) (h : s.size ≤ 10) (ha : (s.data.toList.take k).all isDig = true) : val (s.data.toList.take k) ≤ 9999999999 := by
  have h1 := val_lt _ ha
  have h2 : (s.data.toList.take k).length ≤ 10 := by rw [List.length_take, len_size]; omega
  have h3 : 10 ^ (s.data.toList.take k).length ≤ 10 ^ 10 := Nat.pow_le_pow_right (by decide) h2
  have h4 : (10 : Nat) ^ 10 = 10000000000 := by decide
  omega
theorem value_bad (s : ByteArray) (k : Nat) (h : k < s.size) (hd : isDig s[k] = false) : valueOf s.data.toList = -1 := by
  unfold valueOf
  rw [if_pos]
  right; right
  rw [List.all_eq_false]
  refine ⟨s[k], ?_, by rw [hd]; simp⟩
  exact List.getElem_mem (l := s.data.toList) (n := k) (by simpa using h)
theorem value_push (s : ByteArray) (k : Nat) (h : k < s.size) (ha : (s.data.toList.take k).all isDig = true) (hd : isDig s[k] = true) : (s.data.toList.take (k + 1)).all isDig = true ∧ val (s.data.toList.take (k + 1)) = 10 * val (s.data.toList.take k) + (s[k].toNat - 48) := by
  rw [take_snoc s k h, List.all_append, ha, val_snoc]
  simp [hd]
theorem value_end (s : ByteArray) (k : Nat) (h0 : ¬ s.size < 1) (h10 : ¬ 10 < s.size) (h : s.size ≤ k) (ha : (s.data.toList.take k).all isDig = true) : valueOf s.data.toList = (val (s.data.toList.take k) : Nat) := by
  rw [List.take_of_length_le (by simpa using h)] at *
  unfold valueOf
  rw [len_size, if_neg]
  rintro (h | h | h)
  · exact h0 h
  · exact h10 h
  · rw [ha] at h; cases h

set_option maxRecDepth 100000 in
set_option maxHeartbeats 400000 in
theorem value_any (s : ByteArray) (w : World) (hs : s.size ≤ maxLen) :
    Calls Tryz.prog 134 #[.string s] w fun e w' => e = .returned (.int .i64 (valueOf s.data.toList)) ∧ w' = w := by
  unfold maxLen at hs
  by_cases h1 : s.size < 1
  · have HE := hide (show valueOf s.data.toList = -1 from by unfold valueOf; rw [if_pos (Or.inl (by simpa using h1))])
    have h1' : (s.size : Int) < 1 := by omega
    go_enter Tryz.func134, Tryz.ntmps134
    go_wp2
    go_ret
    exact ⟨ret_int (unhide HE).symm, rfl⟩
  by_cases h2 : 10 < s.size
  · have HE := hide (show valueOf s.data.toList = -1 from by unfold valueOf; rw [if_pos (Or.inr (Or.inl (by simpa using h2)))])
    have h1' : ¬ (s.size : Int) < 1 := by omega
    have h2' : 10 < (s.size : Int) := by omega
    go_enter Tryz.func134, Tryz.ntmps134
    go_wp2
    go_ret
    exact ⟨ret_int (unhide HE).symm, rfl⟩
  have h1' : ¬ (s.size : Int) < 1 := by omega
  have h2' : ¬ 10 < (s.size : Int) := by omega
  go_enter Tryz.func134, Tryz.ntmps134
  go_wp2
  go_loop [3, 4] (fun n i => ∃ k : Nat, k ≤ s.size ∧ i = .int .i64 k ∧ (s.data.toList.take k).all isDig = true ∧ n = .int .i64 (val (s.data.toList.take k) : Nat)) (fun _ i => s.size - (intOf i).toNat)
  case atStart => exact ⟨0, Nat.zero_le _, rfl, rfl, rfl⟩
  case round =>
    obtain ⟨k, hk, rfl, ha, rfl⟩ := hrel
    have hv := take_val_lt s k (by omega) ha
    have HA := hide ha
    clear ha
    by_cases hlt : k < s.size
    · cases hd : isDig s[k] with
      | false =>
        have HE := hide (value_bad s k hlt hd)
        have hr := (isDig_not s[k]).1 hd
        clear hd
        by_cases hc : (s[k].toNat : Int) < 48
        · go_wp2
          go_ret
          exact ⟨ret_int (unhide HE).symm, rfl⟩
        · have hc2 : 57 < (s[k].toNat : Int) := by omega
          go_wp2
          go_ret
          exact ⟨ret_int (unhide HE).symm, rfl⟩
      | true =>
        have HE := hide (value_push s k hlt (unhide HA) hd)
        have hr := (isDig_iff s[k]).1 hd
        clear hd
        have hr1 : 48 ≤ (s[k].toNat : Int) := by omega
        have hr2 : (s[k].toNat : Int) ≤ 57 := by omega
        go_wp2
        go_round
        case rel => exact ⟨k + 1, by omega, by go_num, (unhide HE).1, by rw [(unhide HE).2]; go_num⟩
        case measure => simp [intOf]; omega
    · have HE := hide (value_end s k h1 h2 (by omega) (unhide HA))
      go_wp2
      go_ret
      exact ⟨ret_int (unhide HE).symm, rfl⟩
end Go.Proofs.YtikiaijgcjjloaaGreatDoor

/- The walks: whole square roots, the document's (a search from 0 on) and the program's (by halves). -/
namespace Go.Proofs.YtikiaijgcjjloaaGreatDoor
open Go Go.RowKit M Go.Lib

theorem sq_bound (k : Nat) (n : Int) (hn : n ≤ 1000000000) (h : (k : Int) * k ≤ n) : k ≤ 31622 := by
  by_cases hk : k ≤ 31622
  · exact hk
  · have h1 : 31623 * 31623 ≤ k * k := Nat.mul_le_mul (by omega) (by omega)
    have h2 : ((k * k : Nat) : Int) = (k : Int) * k := by simp
    omega
theorem sq_range (k : Nat) (h : k ≤ 1000000000) : 0 ≤ (k : Int) * k ∧ (k : Int) * k ≤ 1000000000000000000 := by
  have h1 : k * k ≤ 1000000000 * 1000000000 := Nat.mul_le_mul h h
  have h2 : ((k * k : Nat) : Int) = (k : Int) * k := by simp
  omega
theorem sq_lt (a b : Nat) (h : a < b) : (a : Int) * a < (b : Int) * b := by
  have := Nat.mul_lt_mul'' h h
  have h2 : ((a * a : Nat) : Int) = (a : Int) * a := by simp
  have h3 : ((b * b : Nat) : Int) = (b : Int) * b := by simp
  omega
theorem sq_le (a b : Nat) (h : a ≤ b) : (a : Int) * a ≤ (b : Int) * b := by
  have := Nat.mul_le_mul h h
  have h2 : ((a * a : Nat) : Int) = (a : Int) * a := by simp
  have h3 : ((b * b : Nat) : Int) = (b : Int) * b := by simp
  omega

/-- n is no whole square. -/
def noRoot (n : Int) : Prop := ∀ r : Nat, (r : Int) * r ≠ n
theorem noRoot_neg (n : Int) (h : n < 0) : noRoot n := fun r hr => by
  have := Int.mul_nonneg (Int.natCast_nonneg r) (Int.natCast_nonneg r)
  omega
theorem noRoot_past (n : Int) (k : Nat) (h : ∀ j : Nat, j < k → (j : Int) * j ≠ n) (hk : n < (k : Int) * k) : noRoot n := fun r hr => by
  by_cases hrk : r < k
  · exact h r hrk hr
  · have := sq_le k r (by omega)
    omega
theorem noRoot_between (n : Int) (a : Nat) (h1 : (a : Int) * a < n) (h2 : n < ((a + 1 : Nat) : Int) * ((a + 1 : Nat) : Int)) : noRoot n := fun r hr => by
  by_cases hra : r ≤ a
  · have := sq_le r a hra
    omega
  · have := sq_le (a + 1) r (by omega)
    omega

set_option maxRecDepth 100000 in
set_option maxHeartbeats 400000 in
theorem side_any (n : Int) (w : World) (hn : n ≤ 1000000000) :
    Calls Tryz.prog 135 #[.int .i64 n] w fun e w' => ((∃ r : Nat, (r : Int) * r = n ∧ e = .returned (.int .i64 r)) ∨ (noRoot n ∧ e = .returned (.int .i64 (-1)))) ∧ w' = w := by
  go_enter Tryz.func135, Tryz.ntmps135
  go_wp2
  go_loop [3] (fun x => ∃ k : Nat, k ≤ 31623 ∧ x = .int .i64 k ∧ Hid (∀ j : Nat, j < k → (j : Int) * j ≠ n)) (fun x => 31624 - (intOf x).toNat)
  case atStart => exact ⟨0, by omega, rfl, fun j hj => by omega⟩
  case round =>
    obtain ⟨k, hk, rfl, hj⟩ := hrel
    have hr := sq_range k (by omega)
    by_cases hle : (k : Int) * k ≤ n
    · have hb := sq_bound k n hn hle
      by_cases heq : (k : Int) * k = n
      · have HE := hide heq
        have hb1 : ((k : Int) * k == n) = true := by rw [heq]; simp
        clear heq
        go_wp2
        go_ret
        exact ⟨Or.inl ⟨k, unhide HE, rfl⟩, rfl⟩
      · have hb1 : ((k : Int) * k == n) = false := by rw [beq_eq_false_iff_ne]; exact heq
        have HE := hide heq
        clear heq
        go_wp2
        go_round
        case rel => exact ⟨k + 1, by omega, by go_num, fun j hj' => by
          by_cases hjk : j < k
          · exact unhide hj j hjk
          · obtain rfl : j = k := by omega
            exact unhide HE⟩
        case measure => simp [intOf]; omega
    · have HE := hide (noRoot_past n k (unhide hj) (by omega))
      go_wp2
      go_ret
      exact ⟨Or.inr ⟨unhide HE, rfl⟩, rfl⟩

set_option maxRecDepth 100000 in
set_option maxHeartbeats 400000 in
theorem wholeRoot_any (n : Int) (w : World) (hn : n ≤ 1000000000) (hn0 : -1000000000 ≤ n) :
    Calls Tryz.prog 132 #[.int .i64 n] w fun e w' => ((∃ r : Nat, (r : Int) * r = n ∧ e = .returned (.tuple #[.int .i64 r, .bool true])) ∨ (noRoot n ∧ e = .returned (.tuple #[.int .i64 0, .bool false]))) ∧ w' = w := by
  by_cases h0 : n < 0
  · have HE := hide (noRoot_neg n h0)
    go_enter Tryz.func132, Tryz.ntmps132
    go_wp2
    go_ret2
    exact ⟨Or.inr ⟨unhide HE, rfl⟩, rfl⟩
  obtain ⟨m, rfl⟩ := Int.eq_ofNat_of_zero_le (show 0 ≤ n by omega)
  go_enter Tryz.func132, Tryz.ntmps132
  go_wp2
  go_loop [4, 5] (fun x y => ∃ a b : Nat, a ≤ b ∧ b ≤ 1000000000 ∧ x = .int .i64 a ∧ y = .int .i64 b ∧ Hid ((a : Int) * a ≤ m ∧ (m : Int) < ((b + 1 : Nat) : Int) * ((b + 1 : Nat) : Int))) (fun x y => (intOf y - intOf x).toNat)
  case atStart => exact ⟨0, m, by omega, by omega, rfl, rfl, by
    refine ⟨by simp, ?_⟩
    have h1 := Nat.mul_le_mul (Nat.le_refl (m + 1)) (show 1 ≤ m + 1 by omega)
    have h3 : (((m + 1) * (m + 1) : Nat) : Int) = ((m + 1 : Nat) : Int) * ((m + 1 : Nat) : Int) := by simp
    omega⟩
  case round =>
    obtain ⟨a, b, hab, hb, rfl, rfl, HI⟩ := hrel
    by_cases hlt : a < b
    · have hm1 : a < (a + b + 1) / 2 := by omega
      have hm2 : (a + b + 1) / 2 ≤ b := by omega
      have hr := sq_range ((a + b + 1) / 2) (by omega)
      have hcast : (((a + b + 1) / 2 : Nat) : Int) = ((a : Int) + b + 1) / 2 := by omega
      rw [hcast] at hr
      by_cases hle : ((a : Int) + b + 1) / 2 * (((a : Int) + b + 1) / 2) ≤ m
      · have HE := hide hle
        have HC := hide hcast
        clear hcast
        go_wp2
        go_round
        case rel => exact ⟨(a + b + 1) / 2, b, hm2, hb, by rw [unhide HC], rfl, by rw [unhide HC]; exact ⟨unhide HE, (unhide HI).2⟩⟩
        case measure => simp [intOf]; omega
      · have HE := hide hle
        have HC := hide hcast
        clear hcast
        go_wp2
        go_round
        case rel => exact ⟨a, (a + b + 1) / 2 - 1, by omega, by omega, rfl, by congr 1; omega, (unhide HI).1, by
          rw [show (a + b + 1) / 2 - 1 + 1 = (a + b + 1) / 2 by omega, unhide HC]
          have := unhide HE
          omega⟩
        case measure => simp [intOf]; omega
    · obtain rfl : a = b := by omega
      have hr := sq_range a (by omega)
      by_cases heq : (a : Int) * a = m
      · have hb1 : ((a : Int) * a != m) = false := by rw [heq]; simp
        have HE := hide heq
        clear heq
        go_wp2
        go_ret2
        exact ⟨Or.inl ⟨a, unhide HE, rfl⟩, rfl⟩
      · have hb1 : ((a : Int) * a != m) = true := by rw [bne_iff_ne]; exact heq
        have HE := hide (noRoot_between m a (by have := (unhide HI).1; omega) (unhide HI).2)
        clear heq
        go_wp2
        go_ret2
        exact ⟨Or.inr ⟨unhide HE, rfl⟩, rfl⟩
end Go.Proofs.YtikiaijgcjjloaaGreatDoor

/- The walks: lowest terms, the program's and the document's. -/
namespace Go.Proofs.YtikiaijgcjjloaaGreatDoor
open Go Go.RowKit M Go.Lib

theorem gg_cast (p : Int) (b : Nat) : Nat.gcd p.natAbs b = gg p b := by unfold gg; simp
theorem tdiv_bd (p : Int) (g : Nat) : (p.tdiv g).natAbs ≤ p.natAbs := by rw [tdiv_natAbs]; exact Nat.div_le_self _ _

theorem below_dr {B : Nat} {a w : World} (h : Below B a w) (n : Nat) : Below B a (w.drewN n) := h.trans ⟨rfl, rfl, rfl, Nat.le_refl _, fun _ _ => rfl⟩
theorem bcell {W w1 : World} (hb : Below W.heap.size W w1) : (∀ b o, b < W.heap.size → w1.cell? ⟨b, o, none⟩ = W.cell? ⟨b, o, none⟩) ∧ (∀ b o, b < W.heap.size → w1.frozen? ⟨b, o, none⟩ = W.frozen? ⟨b, o, none⟩) :=
  ⟨fun b o h => hb.cell (p := ⟨b, o, none⟩) h, fun b o h => hb.frozen (p := ⟨b, o, none⟩) h⟩

theorem lowQ_div (p : Int) (b : Nat) : lowQ p b = (b : Int) / (gg p b : Int) := by unfold lowQ; rw [Int.tdiv_eq_ediv_of_nonneg (by omega)]
theorem lowP_div (m b : Nat) : lowP m b = (m : Int) / (gg m b : Int) := by unfold lowP; rw [Int.tdiv_eq_ediv_of_nonneg (by omega)]
theorem div_bd (b g : Nat) (h : b ≤ 4000000000000000000) : 0 ≤ (b : Int) / (g : Int) ∧ (b : Int) / (g : Int) ≤ 4000000000000000000 := by
  have h1 := Nat.div_le_self b g
  rw [← Int.natCast_ediv]
  generalize b / g = c at *
  omega
theorem fits_not (p : Int) (b : Nat) (hb : 1 ≤ b) (hf : fitsB p b = false) : 1000000000 < ((lowP p b).natAbs : Int) ∨ ((lowP p b).natAbs ≤ 1000000000 ∧ 1000000000 < lowQ p b) := by
  have h1 := lowP_abs p b
  have h2 := lowQ_eq p b (by omega)
  unfold fitsB at hf
  have hf' := of_decide_eq_false hf
  omega
theorem low_bd (p : Int) (b : Nat) (h1 : -4000000000000000000 ≤ p) (h2 : p ≤ 4000000000000000000) : -4000000000000000000 ≤ lowP p b ∧ lowP p b ≤ 4000000000000000000 := by
  have := lowP_le p b
  omega

set_option maxRecDepth 100000 in
set_option maxHeartbeats 400000 in
theorem lowest_any (p : Int) (b : Nat) (w : World) (h1 : -4000000000000000000 ≤ p) (h2 : p ≤ 4000000000000000000) (h3 : 1 ≤ b) (h4 : b ≤ 4000000000000000000) :
    Calls Tryz.prog 74 #[.int .i64 p, .int .i64 b] w fun e w' => ((fitsB p b = true ∧ e = .returned (.tuple #[.agg #[.int .i64 (lowP p b), .int .i64 (lowQ p b)], .int .i64 0])) ∨ (fitsB p b = false ∧ e = .returned (.tuple #[.agg #[.int .i64 0, .int .i64 0], .int .i64 3]))) ∧ Below w.heap.size w w' := by
  go_enter Tryz.func74, Tryz.ntmps74
  go_wp2_with fail
  refine (size_any p _ h1 h2).mono ?_
  rintro e w' ⟨rfl, rfl⟩
  go_wp2_with fail
  refine (commonDivisor_any p.natAbs b _ (by omega) (by omega)).mono ?_
  rintro e w' ⟨rfl, n, rfl⟩
  rw [gg_cast]
  have hg := gg_pos p b (by omega)
  have hg2 := gg_le p b (by omega)
  have HP := hide (show p.tdiv (gg p b) = lowP p b from rfl)
  have HQ := hide (lowQ_div p b)
  have hd := div_bd b (gg p b) h4
  have hl := low_bd p b h1 h2
  generalize gg p b = g at *
  go_wp2_with fail
  rw [unhide HP, ← unhide HQ]
  refine (size_any (lowP p b) _ hl.1 hl.2).mono ?_
  rintro e w' ⟨rfl, rfl⟩
  rw [← unhide HQ] at hd
  cases hf : fitsB p b with
  | true =>
    have hb := fits_bd p b (by omega) hf
    have HF := hide hf
    clear hf
    have hb1 : ¬ 1000000000 < ((lowP p b).natAbs : Int) := by omega
    have hb2 : ¬ 1000000000 < lowQ p b := by omega
    go_wp2_with fail
    exact bodyPost_ret (v := .tuple #[.agg #[.int .i64 (lowP p b), .int .i64 (lowQ p b)], .int .i64 0]) (by simp [results, Tryz.results74, go_sem]) rfl ⟨Or.inl ⟨unhide HF, rfl⟩, (by repeat (first | exact Below.refl _ _ | refine below_dr ?_ _ | refine Below.drew ?_ | refine Below.setCell ?_ (by simp) _ | refine Below.alloc ?_ (by simp) _))⟩
  | false =>
    have hb := fits_not p b h3 hf
    have HF := hide hf
    clear hf
    rcases hb with hb1 | ⟨hb0, hb2⟩
    · go_wp2_with fail
      exact bodyPost_ret (v := .tuple #[.agg #[.int .i64 0, .int .i64 0], .int .i64 3]) (by simp [results, Tryz.results74, go_sem]) rfl ⟨Or.inr ⟨unhide HF, rfl⟩, (by repeat (first | exact Below.refl _ _ | refine below_dr ?_ _ | refine Below.drew ?_ | refine Below.setCell ?_ (by simp) _ | refine Below.alloc ?_ (by simp) _))⟩
    · have hb1 : ¬ 1000000000 < ((lowP p b).natAbs : Int) := by omega
      go_wp2_with fail
      exact bodyPost_ret (v := .tuple #[.agg #[.int .i64 0, .int .i64 0], .int .i64 3]) (by simp [results, Tryz.results74, go_sem]) rfl ⟨Or.inr ⟨unhide HF, rfl⟩, (by repeat (first | exact Below.refl _ _ | refine below_dr ?_ _ | refine Below.drew ?_ | refine Below.setCell ?_ (by simp) _ | refine Below.alloc ?_ (by simp) _))⟩

set_option maxRecDepth 100000 in
set_option maxHeartbeats 400000 in
theorem Low_any (p : Int) (b : Nat) (w : World) (h1 : -4000000000000000000 ≤ p) (h2 : p ≤ 4000000000000000000) (h3 : 1 ≤ b) (h4 : b ≤ 4000000000000000000) :
    Calls Tryz.prog 133 #[.int .i64 p, .int .i64 b] w fun e w' => ((fitsB p b = true ∧ e = .returned (.tuple #[.agg #[.int .i64 (lowP p b), .int .i64 (lowQ p b)], .int .i64 0])) ∨ (fitsB p b = false ∧ e = .returned (.tuple #[.agg #[.int .i64 0, .int .i64 1], .int .i64 3]))) ∧ Below w.heap.size w w' := by
  by_cases h0 : p < 0
  · go_enter Tryz.func133, Tryz.ntmps133
    go_wp2_with fail
    rw [show -p = (p.natAbs : Int) from by omega]
    refine (common_any p.natAbs p.natAbs b _ (by omega) (by omega) (by omega)).mono ?_
    rintro e w' ⟨rfl, rfl⟩
    rw [gg_cast]
    have hg := gg_pos p b (by omega)
    have hg2 := gg_le p b (by omega)
    have HP := hide (show p.tdiv (gg p b) = lowP p b from rfl)
    have HA := hide (show ((p.natAbs : Int) / (gg p b : Int)) = ((lowP p b).natAbs : Int) from by rw [lowP_abs, Int.natCast_ediv])
    have HQ := hide (lowQ_div p b)
    have hd := div_bd b (gg p b) h4
    have hl := low_bd p b h1 h2
    generalize gg p b = g at *
    have ha : 0 ≤ ((p.natAbs : Int) / (g : Int)) ∧ ((p.natAbs : Int) / (g : Int)) ≤ 4000000000000000000 := by rw [unhide HA]; omega
    cases hf : fitsB p b with
    | true =>
      have hb := fits_bd p b (by omega) hf
      have HF := hide hf
      clear hf
      have hb1 : ¬ 1000000000 < ((p.natAbs : Int) / (g : Int)) := by rw [unhide HA]; omega
      have hb2 : ¬ 1000000000 < (b : Int) / (g : Int) := by rw [← unhide HQ]; omega
      go_wp2_with fail
      go_region
      rw [unhide HP, ← unhide HQ]
      go_wp2_with fail
      exact bodyPost_ret (v := .tuple #[.agg #[.int .i64 (lowP p b), .int .i64 (lowQ p b)], .int .i64 0]) (by simp [results, Tryz.results133, go_sem]) rfl ⟨Or.inl ⟨unhide HF, rfl⟩, (by repeat (first | exact Below.refl _ _ | refine below_dr ?_ _ | refine Below.drew ?_ | refine Below.setCell ?_ (by simp) _ | refine Below.alloc ?_ (by simp) _))⟩
    | false =>
      have hb := fits_not p b h3 hf
      have HF := hide hf
      clear hf
      rcases hb with hb1 | ⟨hb0, hb2⟩
      · rw [← unhide HA] at hb1
        go_wp2_with fail
        exact bodyPost_ret (v := .tuple #[.agg #[.int .i64 0, .int .i64 1], .int .i64 3]) (by simp [results, Tryz.results133, go_sem]) rfl ⟨Or.inr ⟨unhide HF, rfl⟩, (by repeat (first | exact Below.refl _ _ | refine below_dr ?_ _ | refine Below.drew ?_ | refine Below.setCell ?_ (by simp) _ | refine Below.alloc ?_ (by simp) _))⟩
      · have hb1 : ¬ 1000000000 < ((p.natAbs : Int) / (g : Int)) := by rw [unhide HA]; omega
        rw [unhide HQ] at hb2
        go_wp2_with fail
        exact bodyPost_ret (v := .tuple #[.agg #[.int .i64 0, .int .i64 1], .int .i64 3]) (by simp [results, Tryz.results133, go_sem]) rfl ⟨Or.inr ⟨unhide HF, rfl⟩, (by repeat (first | exact Below.refl _ _ | refine below_dr ?_ _ | refine Below.drew ?_ | refine Below.setCell ?_ (by simp) _ | refine Below.alloc ?_ (by simp) _))⟩
  · obtain ⟨m, rfl⟩ := Int.eq_ofNat_of_zero_le (show 0 ≤ p by omega)
    go_enter Tryz.func133, Tryz.ntmps133
    go_wp2_with fail
    refine (common_any m m b _ (by omega) (by omega) (by omega)).mono ?_
    rintro e w' ⟨rfl, rfl⟩
    rw [show Nat.gcd m b = gg m b from gg_cast m b]
    have hg := gg_pos m b (by omega)
    have hg2 := gg_le m b (by omega)
    have HP := hide (lowP_div m b)
    have HQ := hide (lowQ_div m b)
    have hd := div_bd b (gg m b) h4
    have ha := div_bd m (gg m b) (by omega)
    have hl := low_bd m b h1 h2
    generalize gg m b = g at *
    cases hf : fitsB m b with
    | true =>
      have hb := fits_bd m b (by omega) hf
      have HF := hide hf
      clear hf
      have hb1 : ¬ 1000000000 < ((m : Int) / (g : Int)) := by rw [← unhide HP]; omega
      have hb2 : ¬ 1000000000 < (b : Int) / (g : Int) := by rw [← unhide HQ]; omega
      go_wp2_with fail
      go_region
      rw [← unhide HP, ← unhide HQ]
      go_wp2_with fail
      exact bodyPost_ret (v := .tuple #[.agg #[.int .i64 (lowP m b), .int .i64 (lowQ m b)], .int .i64 0]) (by simp [results, Tryz.results133, go_sem]) rfl ⟨Or.inl ⟨unhide HF, rfl⟩, (by repeat (first | exact Below.refl _ _ | refine below_dr ?_ _ | refine Below.drew ?_ | refine Below.setCell ?_ (by simp) _ | refine Below.alloc ?_ (by simp) _))⟩
    | false =>
      have hb := fits_not m b h3 hf
      have HF := hide hf
      clear hf
      rcases hb with hb1 | ⟨hb0, hb2⟩
      · have hb1' : 1000000000 < ((m : Int) / (g : Int)) := by have := ha.1; rw [unhide HP] at hb1; omega
        clear hb1
        go_wp2_with fail
        exact bodyPost_ret (v := .tuple #[.agg #[.int .i64 0, .int .i64 1], .int .i64 3]) (by simp [results, Tryz.results133, go_sem]) rfl ⟨Or.inr ⟨unhide HF, rfl⟩, (by repeat (first | exact Below.refl _ _ | refine below_dr ?_ _ | refine Below.drew ?_ | refine Below.setCell ?_ (by simp) _ | refine Below.alloc ?_ (by simp) _))⟩
      · have hb1 : ¬ 1000000000 < ((m : Int) / (g : Int)) := by have := ha.1; rw [unhide HP] at hb0; omega
        rw [unhide HQ] at hb2
        clear hb0
        go_wp2_with fail
        exact bodyPost_ret (v := .tuple #[.agg #[.int .i64 0, .int .i64 1], .int .i64 3]) (by simp [results, Tryz.results133, go_sem]) rfl ⟨Or.inr ⟨unhide HF, rfl⟩, (by repeat (first | exact Below.refl _ _ | refine below_dr ?_ _ | refine Below.drew ?_ | refine Below.setCell ?_ (by simp) _ | refine Below.alloc ?_ (by simp) _))⟩
end Go.Proofs.YtikiaijgcjjloaaGreatDoor

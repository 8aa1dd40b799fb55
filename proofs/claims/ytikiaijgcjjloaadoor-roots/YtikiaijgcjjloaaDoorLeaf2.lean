/- The walks: the document's numeral, value, side; the program's root. -/
import Derived.Test.YtikiaijgcjjloaaDoorLeaf
import Derived.WalkSpells
namespace Go.Proofs.YtikiaijgcjjloaaDoor
open Go Go.RowKit M Go.Lib

theorem ret_str {a b : ByteArray} (h : a = b) : Ending.returned (.string a) = .returned (.string b) := by rw [h]
theorem str_app (l m : List UInt8) : ((⟨l.toArray⟩ : ByteArray) ++ (⟨m.toArray⟩ : ByteArray)) = ⟨(l ++ m).toArray⟩ := by
  apply ByteArray.ext; simp
def dchar (k : Nat) : UInt8 := UInt8.ofNat (48 + k)

theorem dec_conv (n : Nat) (w : World) : (convert 113 9 (.slice (some ⟨w.heap.size, 0, none⟩) 1 1)).run Tryd.prog (w.alloc (.cells #[.int .u8 (48 + (n : Int) % 10)] 5)) = .ok (.string ⟨#[dchar (n % 10)]⟩) (w.alloc (.cells #[.int .u8 (48 + (n : Int) % 10)] 5)) := by
  have h := run_convert_bytes_back (P := Tryd.prog) (w.alloc (.cells #[.int .u8 (48 + (n : Int) % 10)] 5)) 113 9 5 ⟨w.heap.size, 0, none⟩ 1 [dchar (n % 10)] Tryd.underlying113 Tryd.underlying5 Tryd.underlying9 (fun j hj => by
    have hj0 : j = 0 := by simpa using hj
    subst hj0
    have e := ofNat_toNat (n % 10) (by omega)
    simp only [List.getElem_cons_zero, dchar, e]
    simp [go_sem, Addr.add])
  exact h

theorem str_dec_small (n : Nat) (h : n < 10) : (⟨#[dchar (n % 10)]⟩ : ByteArray) = ⟨(decDigits n).toArray⟩ := by
  rw [dec_small n h, Nat.mod_eq_of_lt h]; rfl

set_option maxRecDepth 100000 in
set_option maxHeartbeats 400000 in
theorem decimal_one (n : Nat) (w : World) (h : n < 10) :
    Calls Tryd.prog 62 #[.int .i64 n] w fun e w' => e = .returned (.string ⟨(decDigits n).toArray⟩) ∧ Below w.heap.size w w' := by
  have hc := dec_conv n w
  have HE := hide (str_dec_small n h)
  go_enter Tryd.func62, Tryd.ntmps62
  go_wp2_with fail
  go_ret
  exact ⟨ret_str (unhide HE), (Below.refl _ _).alloc (Nat.le_refl _) _⟩

set_option maxRecDepth 100000 in
set_option maxHeartbeats 400000 in
theorem decimal_any (k : Nat) : ∀ (n : Nat) (w : World), n ≤ k → n ≤ 4000000000000000000 →
    Calls Tryd.prog 62 #[.int .i64 n] w fun e w' => e = .returned (.string ⟨(decDigits n).toArray⟩) ∧ Below w.heap.size w w' := by
  induction k with
  | zero => intro n w hk hn; exact decimal_one n w (by omega)
  | succ k ih =>
    intro n w hk hn
    by_cases h : n < 10
    · exact decimal_one n w h
    have IH := hide ih
    clear ih
    have hc := dec_conv n w
    have HE := hide (show decDigits n = decDigits (n / 10) ++ [dchar (n % 10)] from dec_step n h)
    have h' : ¬ (n : Int) < 10 := by omega
    have hl : (decDigits (n / 10)).length ≤ 19 := dec_len_le 19 _ (by decide) (by have : (10 : Nat) ^ 19 = 10000000000000000000 := by decide
                                                                                  omega)
    go_enter Tryd.func62, Tryd.ntmps62
    go_wp2_with fail
    rw [show ((n : Int) / 10) = ((n / 10 : Nat) : Int) from by omega]
    refine (unhide IH (n / 10) _ (by omega) (by omega)).mono ?_
    rintro e w' ⟨rfl, hb⟩
    go_wp2_with fail
    go_ret
    exact ⟨ret_str (by rw [unhide HE]; exact str_app _ [_]), ((Below.refl _ _).alloc (Nat.le_refl _) _).trans (hb.mono (by simp))⟩

theorem take_snoc (s : ByteArray) (k : Nat) (h : k < s.size) : s.data.toList.take (k + 1) = s.data.toList.take k ++ [s[k]] := by
  rw [List.take_succ_eq_append_getElem (by simpa using h)]; rfl
theorem len_size (s : ByteArray) : s.data.toList.length = s.size := by simp
theorem take_val_lt (s : ByteArray) (k : Nat) (h : s.size ≤ 10) (ha : (s.data.toList.take k).all isDig = true) : val (s.data.toList.take k) ≤ 9999999999 := by
  have h1 := val_lt _ ha
  have h2 : (s.data.toList.take k).length ≤ 10 := by rw [List.length_take, len_size]; omega
  have h3 : 10 ^ (s.data.toList.take k).length ≤ 10 ^ 10 := Nat.pow_le_pow_right (by decide) h2
  have h4 : (10 : Nat) ^ 10 = 10000000000 := by decide
  omega
theorem value_bad (s : ByteArray) (k : Nat) (h : k < s.size) (hd : isDig s[k] = false) : valueOf s.data.toList = -1 := by
  unfold valueOf
  rw [if_pos]
  right; right
  rw [List.all_eq_false]
  refine ⟨s[k], ?_, by rw [hd]; simp⟩
  exact List.getElem_mem (l := s.data.toList) (n := k) (by simpa using h)
theorem value_push (s : ByteArray) (k : Nat) (h : k < s.size) (ha : (s.data.toList.take k).all isDig = true) (hd : isDig s[k] = true) : (s.data.toList.take (k + 1)).all isDig = true ∧ val (s.data.toList.take (k + 1)) = 10 * val (s.data.toList.take k) + (s[k].toNat - 48) := by
  rw [take_snoc s k h, List.all_append, ha, val_snoc]
  simp [hd]
theorem value_end (s : ByteArray) (k : Nat) (h0 : ¬ s.size < 1) (h10 : ¬ 10 < s.size) (h : s.size ≤ k) (ha : (s.data.toList.take k).all isDig = true) : valueOf s.data.toList = (val (s.data.toList.take k) : Nat) := by
  rw [List.take_of_length_le (by simpa using h)] at *
  unfold valueOf
  rw [len_size, if_neg]
  rintro (h | h | h)
  · exact h0 h
  · exact h10 h
  · rw [ha] at h; cases h

set_option maxRecDepth 100000 in
set_option maxHeartbeats 400000 in
theorem value_any (s : ByteArray) (w : World) (hs : s.size ≤ maxLen) :
    Calls Tryd.prog 53 #[.string s] w fun e w' => e = .returned (.int .i64 (valueOf s.data.toList)) ∧ w' = w := by
  unfold maxLen at hs
  by_cases h1 : s.size < 1
  · have HE := hide (show valueOf s.data.toList = -1 from by unfold valueOf; rw [if_pos (Or.inl (by simpa using h1))])
    have h1' : (s.size : Int) < 1 := by omega
    go_enter Tryd.func53, Tryd.ntmps53
    go_wp2
    go_ret
    exact ⟨ret_int (unhide HE).symm, rfl⟩
  by_cases h2 : 10 < s.size
  · have HE := hide (show valueOf s.data.toList = -1 from by unfold valueOf; rw [if_pos (Or.inr (Or.inl (by simpa using h2)))])
    have h1' : ¬ (s.size : Int) < 1 := by omega
    have h2' : 10 < (s.size : Int) := by omega
    go_enter Tryd.func53, Tryd.ntmps53
    go_wp2
    go_ret
    exact ⟨ret_int (unhide HE).symm, rfl⟩
  have h1' : ¬ (s.size : Int) < 1 := by omega
  have h2' : ¬ 10 < (s.size : Int) := by omega
  go_enter Tryd.func53, Tryd.ntmps53
  go_wp2
  go_loop [3, 4] (fun n i => ∃ k : Nat, k ≤ s.size ∧ i = .int .i64 k ∧ (s.data.toList.take k).all isDig = true ∧ n = .int .i64 (val (s.data.toList.take k) : Nat)) (fun _ i => s.size - (intOf i).toNat)
  case atStart => exact ⟨0, Nat.zero_le _, rfl, rfl, rfl⟩
  case round =>
    obtain ⟨k, hk, rfl, ha, rfl⟩ := hrel
    have hv := take_val_lt s k (by omega) ha
    have HA := hide ha
    clear ha
    by_cases hlt : k < s.size
    · cases hd : isDig s[k] with
      | false =>
        have HE := hide (value_bad s k hlt hd)
        have hr := (isDig_not s[k]).1 hd
        clear hd
        by_cases hc : (s[k].toNat : Int) < 48
        · go_wp2
          go_ret
          exact ⟨ret_int (unhide HE).symm, rfl⟩
        · have hc2 : 57 < (s[k].toNat : Int) := by omega
          go_wp2
          go_ret
          exact ⟨ret_int (unhide HE).symm, rfl⟩
      | true =>
        have HE := hide (value_push s k hlt (unhide HA) hd)
        have hr := (isDig_iff s[k]).1 hd
        clear hd
        have hr1 : 48 ≤ (s[k].toNat : Int) := by omega
        have hr2 : (s[k].toNat : Int) ≤ 57 := by omega
        go_wp2
        go_round
        case rel => exact ⟨k + 1, by omega, by go_num, (unhide HE).1, by rw [(unhide HE).2]; go_num⟩
        case measure => simp [intOf]; omega
    · have HE := hide (value_end s k h1 h2 (by omega) (unhide HA))
      go_wp2
      go_ret
      exact ⟨ret_int (unhide HE).symm, rfl⟩
end Go.Proofs.YtikiaijgcjjloaaDoor

/- The walk of the program's reading of a number: the whole. -/
import Derived.Test.YtikiaijgcjjloaaDoorRead
namespace Go.Proofs.YtikiaijgcjjloaaDoor
open Go Go.RowKit M Go.Lib

theorem readDigits_0 (s : ByteArray) (w : World) (hs : s.size ≤ maxLen) :
    Calls Tryd.prog 49 #[.string s, .int .i64 0] w fun e w' => ((∃ v a : Nat, DigAt (s.data.toList.drop 0) v (s.data.toList.drop a) ∧ 0 < a ∧ a ≤ s.size ∧ e = .returned (.tuple #[.int .i64 v, .int .i64 a, .bool true])) ∨ ((∀ v r, ¬ DigAt (s.data.toList.drop 0) v r) ∧ e = .returned (.tuple #[.int .i64 0, .int .i64 0, .bool false]))) ∧ w = w' :=
  (readDigits_any s 0 w hs (by omega)).mono fun _ _ ⟨h, e⟩ => ⟨h, e.symm⟩
theorem readDigits_1 (s : ByteArray) (w : World) (hs : s.size ≤ maxLen) :
    Calls Tryd.prog 49 #[.string s, .int .i64 1] w fun e w' => ((∃ v a : Nat, DigAt (s.data.toList.drop 1) v (s.data.toList.drop a) ∧ 1 < a ∧ a ≤ s.size ∧ e = .returned (.tuple #[.int .i64 v, .int .i64 a, .bool true])) ∨ ((∀ v r, ¬ DigAt (s.data.toList.drop 1) v r) ∧ e = .returned (.tuple #[.int .i64 0, .int .i64 0, .bool false]))) ∧ w = w' :=
  (readDigits_any s 1 w hs (by omega)).mono fun _ _ ⟨h, e⟩ => ⟨h, e.symm⟩

theorem neg_of (s : ByteArray) (h : 0 < s.size) : neg s.data.toList = decide (s[0].toNat = 45) := by
  unfold M.neg
  have : s.data.toList = s[0] :: s.data.toList.drop 1 := by simpa using drop_at s 0 h
  rw [this]
  simp only [List.head?_cons]
  rw [Bool.eq_iff_iff]
  simp
  constructor
  · intro e; rw [e]; rfl
  · intro e; exact UInt8.toNat_inj.1 e
theorem neg_empty (s : ByteArray) (h : s.size = 0) : neg s.data.toList = false := by
  have : s.data.toList = [] := List.length_eq_zero_iff.1 (by rw [len_size]; exact h)
  rw [this]; rfl

/-- What the program reads, at a text that opens with a sign (n) or not. -/
theorem read_none1 (s : ByteArray) (n : Bool) (hn : neg s.data.toList = n) (h : ∀ v r, ¬ DigAt (s.data.toList.drop (if n then 1 else 0)) v r) : ∀ t b, ¬ IsNum s.data.toList t b := by
  apply no_num_dig
  unfold body
  rw [hn]
  cases n <;> simpa using h
theorem body_eq (s : ByteArray) (n : Bool) (hn : neg s.data.toList = n) : s.data.toList.drop (if n then 1 else 0) = body s.data.toList := by
  unfold body; rw [hn]; cases n <;> simp
theorem read_none0 (s : ByteArray) (r : List UInt8) (hn : neg s.data.toList = true) (h : DigAt (s.data.toList.drop 1) 0 r) : ∀ t b, ¬ IsNum s.data.toList t b := by
  have := body_eq s true hn
  simp only [if_true] at this
  rw [this] at h
  exact no_num_zero h hn
theorem read_whole (s : ByteArray) (n : Bool) (v : Nat) (hn : neg s.data.toList = n) (hv : n = true → 1 ≤ v) (h : DigAt (s.data.toList.drop (if n then 1 else 0)) v (s.data.toList.drop s.size)) : IsNum s.data.toList (sgn n v) 1 := by
  rw [body_eq s n hn, drop_end s s.size (Nat.le_refl _)] at h
  subst hn
  exact is_num_whole h hv
theorem read_parts (s : ByteArray) (n : Bool) (v a q : Nat) (hn : neg s.data.toList = n) (hv : n = true → 1 ≤ v) (h : DigAt (s.data.toList.drop (if n then 1 else 0)) v (s.data.toList.drop a)) (hq : BotIs s a q) (hg : Nat.gcd v q = 1) : IsNum s.data.toList (sgn n v) q := by
  obtain ⟨h2, r, hr, hd⟩ := hq
  rw [body_eq s n hn, hr] at h
  subst hn
  exact is_num_parts h hv hd h2 hg
theorem read_none_bot (s : ByteArray) (n : Bool) (v a : Nat) (ha : a < s.size) (hn : neg s.data.toList = n) (h : DigAt (s.data.toList.drop (if n then 1 else 0)) v (s.data.toList.drop a)) (hq : ∀ q, ¬ BotIs s a q) : ∀ t b, ¬ IsNum s.data.toList t b := by
  rw [body_eq s n hn] at h
  refine no_num_tail h (by rw [drop_at s a ha]; simp) ?_
  rintro q h2 ⟨r, hr, hd⟩
  exact hq q ⟨h2, r, hr, hd⟩
theorem read_none_gcd (s : ByteArray) (n : Bool) (v a q : Nat) (hn : neg s.data.toList = n) (h : DigAt (s.data.toList.drop (if n then 1 else 0)) v (s.data.toList.drop a)) (hq : BotIs s a q) (hg : Nat.gcd v q ≠ 1) : ∀ t b, ¬ IsNum s.data.toList t b := by
  obtain ⟨h2, r, hr, hd⟩ := hq
  rw [body_eq s n hn, hr] at h
  exact no_num_gcd h hd hg

/-- What number.Read answers. -/
def ReadSays (s : ByteArray) (e : Ending) : Prop :=
  (∃ t b, IsNum s.data.toList t b ∧ e = .returned (.tuple #[.agg #[.int .i64 t, .int .i64 b], .bool true])) ∨ ((∀ t b, ¬ IsNum s.data.toList t b) ∧ e = .returned (.tuple #[.agg #[.int .i64 0, .int .i64 0], .bool false]))

set_option maxRecDepth 100000 in
set_option maxHeartbeats 400000 in
theorem Read_neg (s : ByteArray) (w : World) (hs : s.size ≤ maxLen) (h0 : 0 < s.size) (hn : neg s.data.toList = true) :
    Calls Tryd.prog 33 #[.string s] w fun e w' => ReadSays s e ∧ Below w.heap.size w w' := by
  have hs' := hs
  unfold maxLen at hs
  have hc : ((s[0].toNat : Int) == 45) = true := by
    rw [neg_of s h0] at hn
    have := of_decide_eq_true hn
    rw [beq_iff_eq]; omega
  have HN := hide hn
  clear hn
  have h0' : 0 < (s.size : Int) := by omega
  go_enter Tryd.func33, Tryd.ntmps33
  go_wp2_with fail
  refine (readDigits_1 s _ hs').mono ?_
  rintro e w' ⟨⟨v, a, hD, ha1, ha2, rfl⟩ | ⟨hN, rfl⟩, rfl⟩
  · have HD := hide hD
    have hv := hD.le
    clear hD
    by_cases hz0 : v = 0
    · subst hz0
      have HE := hide (read_none0 s _ (unhide HN) (unhide HD))
      go_wp2_with fail
      exact bodyPost_ret (v := .tuple #[.agg #[.int .i64 0, .int .i64 0], .bool false]) (by simp [results, Tryd.results33, go_sem]) rfl ⟨Or.inr ⟨unhide HE, rfl⟩, (by repeat (first | exact Below.refl _ _ | refine below_dr ?_ _ | refine Below.drew ?_ | refine Below.setCell ?_ (by simp) _ | refine Below.alloc ?_ (by simp) _))⟩
    have hz : ((v : Int) == 0) = false := by rw [beq_eq_false_iff_ne]; omega
    have hae2 : a ≤ s.size := ha2
    by_cases hae : a = s.size
    · subst hae
      have HE := hide (read_whole s true v (unhide HN) (fun _ => by omega) (unhide HD))
      go_wp2_with fail
      exact bodyPost_ret (v := .tuple #[.agg #[.int .i64 (-(v : Int)), .int .i64 1], .bool true]) (by simp [results, Tryd.results33, go_sem]) rfl ⟨Or.inl ⟨_, _, unhide HE, rfl⟩, (by repeat (first | exact Below.refl _ _ | refine below_dr ?_ _ | refine Below.drew ?_ | refine Below.setCell ?_ (by simp) _ | refine Below.alloc ?_ (by simp) _))⟩
    · have hae' : ((a : Int) == s.size) = false := by rw [beq_eq_false_iff_ne]; omega
      have hlt : a < s.size := by omega
      clear hae
      go_wp2_with fail
      refine (readBottom_any s a _ hs' ha2).mono ?_
      rintro e w' ⟨⟨q, hQ, hq, rfl⟩ | ⟨hN, rfl⟩, rfl⟩
      · have HQ := hide hQ
        clear hQ
        go_wp2_with fail
        refine (size_any (-(v : Int)) _ (by omega) (by omega)).mono ?_
        rintro e w' ⟨rfl, rfl⟩
        rw [show (-(v : Int)).natAbs = v from by omega]
        go_wp2_with fail
        refine (commonDivisor_any v q _ (by omega) (by omega)).mono ?_
        rintro e w' ⟨rfl, k, rfl⟩
        by_cases hg : Nat.gcd v q = 1
        · have HE := hide (read_parts s true v a q (unhide HN) (fun _ => by omega) (unhide HD) (unhide HQ) hg)
          rw [hg]
          clear hg
          go_wp2_with fail
          exact bodyPost_ret (v := .tuple #[.agg #[.int .i64 (-(v : Int)), .int .i64 q], .bool true]) (by simp [results, Tryd.results33, go_sem]) rfl ⟨Or.inl ⟨_, _, unhide HE, rfl⟩, (by repeat (first | exact Below.refl _ _ | refine below_dr ?_ _ | refine Below.drew ?_ | refine Below.setCell ?_ (by simp) _ | refine Below.alloc ?_ (by simp) _))⟩
        · have HE := hide (read_none_gcd s true v a q (unhide HN) (unhide HD) (unhide HQ) hg)
          generalize Nat.gcd v q = g at *
          have hg' : ((g : Int) != 1) = true := by rw [bne_iff_ne]; omega
          clear hg
          go_wp2_with fail
          exact bodyPost_ret (v := .tuple #[.agg #[.int .i64 0, .int .i64 0], .bool false]) (by simp [results, Tryd.results33, go_sem]) rfl ⟨Or.inr ⟨unhide HE, rfl⟩, (by repeat (first | exact Below.refl _ _ | refine below_dr ?_ _ | refine Below.drew ?_ | refine Below.setCell ?_ (by simp) _ | refine Below.alloc ?_ (by simp) _))⟩
      · have HE := hide (read_none_bot s true v a hlt (unhide HN) (unhide HD) hN)
        clear hN
        go_wp2_with fail
        exact bodyPost_ret (v := .tuple #[.agg #[.int .i64 0, .int .i64 0], .bool false]) (by simp [results, Tryd.results33, go_sem]) rfl ⟨Or.inr ⟨unhide HE, rfl⟩, (by repeat (first | exact Below.refl _ _ | refine below_dr ?_ _ | refine Below.drew ?_ | refine Below.setCell ?_ (by simp) _ | refine Below.alloc ?_ (by simp) _))⟩
  · have HE := hide (read_none1 s true (unhide HN) hN)
    clear hN
    go_wp2_with fail
    exact bodyPost_ret (v := .tuple #[.agg #[.int .i64 0, .int .i64 0], .bool false]) (by simp [results, Tryd.results33, go_sem]) rfl ⟨Or.inr ⟨unhide HE, rfl⟩, (by repeat (first | exact Below.refl _ _ | refine below_dr ?_ _ | refine Below.drew ?_ | refine Below.setCell ?_ (by simp) _ | refine Below.alloc ?_ (by simp) _))⟩

set_option maxRecDepth 100000 in
set_option maxHeartbeats 400000 in
theorem Read_pos (s : ByteArray) (w : World) (hs : s.size ≤ maxLen) (h0 : 0 < s.size) (hn : neg s.data.toList = false) :
    Calls Tryd.prog 33 #[.string s] w fun e w' => ReadSays s e ∧ Below w.heap.size w w' := by
  have hs' := hs
  unfold maxLen at hs
  have hc : ((s[0].toNat : Int) == 45) = false := by
    rw [neg_of s h0] at hn
    have := of_decide_eq_false hn
    rw [beq_eq_false_iff_ne]; omega
  have HN := hide hn
  clear hn
  have h0' : 0 < (s.size : Int) := by omega
  go_enter Tryd.func33, Tryd.ntmps33
  go_wp2_with fail
  refine (readDigits_0 s _ hs').mono ?_
  rintro e w' ⟨⟨v, a, hD, ha1, ha2, rfl⟩ | ⟨hN, rfl⟩, rfl⟩
  · have HD := hide hD
    have hv := hD.le
    clear hD
    have hae2 : a ≤ s.size := ha2
    by_cases hae : a = s.size
    · subst hae
      have HE := hide (read_whole s false v (unhide HN) (fun h => by cases h) (unhide HD))
      go_wp2_with fail
      exact bodyPost_ret (v := .tuple #[.agg #[.int .i64 ((v : Int)), .int .i64 1], .bool true]) (by simp [results, Tryd.results33, go_sem]) rfl ⟨Or.inl ⟨_, _, unhide HE, rfl⟩, (by repeat (first | exact Below.refl _ _ | refine below_dr ?_ _ | refine Below.drew ?_ | refine Below.setCell ?_ (by simp) _ | refine Below.alloc ?_ (by simp) _))⟩
    · have hae' : ((a : Int) == s.size) = false := by rw [beq_eq_false_iff_ne]; omega
      have hlt : a < s.size := by omega
      clear hae
      go_wp2_with fail
      refine (readBottom_any s a _ hs' ha2).mono ?_
      rintro e w' ⟨⟨q, hQ, hq, rfl⟩ | ⟨hN, rfl⟩, rfl⟩
      · have HQ := hide hQ
        clear hQ
        go_wp2_with fail
        refine (size_any ((v : Int)) _ (by omega) (by omega)).mono ?_
        rintro e w' ⟨rfl, rfl⟩
        rw [show ((v : Int)).natAbs = v from by omega]
        go_wp2_with fail
        refine (commonDivisor_any v q _ (by omega) (by omega)).mono ?_
        rintro e w' ⟨rfl, k, rfl⟩
        by_cases hg : Nat.gcd v q = 1
        · have HE := hide (read_parts s false v a q (unhide HN) (fun h => by cases h) (unhide HD) (unhide HQ) hg)
          rw [hg]
          clear hg
          go_wp2_with fail
          exact bodyPost_ret (v := .tuple #[.agg #[.int .i64 ((v : Int)), .int .i64 q], .bool true]) (by simp [results, Tryd.results33, go_sem]) rfl ⟨Or.inl ⟨_, _, unhide HE, rfl⟩, (by repeat (first | exact Below.refl _ _ | refine below_dr ?_ _ | refine Below.drew ?_ | refine Below.setCell ?_ (by simp) _ | refine Below.alloc ?_ (by simp) _))⟩
        · have HE := hide (read_none_gcd s false v a q (unhide HN) (unhide HD) (unhide HQ) hg)
          generalize Nat.gcd v q = g at *
          have hg' : ((g : Int) != 1) = true := by rw [bne_iff_ne]; omega
          clear hg
          go_wp2_with fail
          exact bodyPost_ret (v := .tuple #[.agg #[.int .i64 0, .int .i64 0], .bool false]) (by simp [results, Tryd.results33, go_sem]) rfl ⟨Or.inr ⟨unhide HE, rfl⟩, (by repeat (first | exact Below.refl _ _ | refine below_dr ?_ _ | refine Below.drew ?_ | refine Below.setCell ?_ (by simp) _ | refine Below.alloc ?_ (by simp) _))⟩
      · have HE := hide (read_none_bot s false v a hlt (unhide HN) (unhide HD) hN)
        clear hN
        go_wp2_with fail
        exact bodyPost_ret (v := .tuple #[.agg #[.int .i64 0, .int .i64 0], .bool false]) (by simp [results, Tryd.results33, go_sem]) rfl ⟨Or.inr ⟨unhide HE, rfl⟩, (by repeat (first | exact Below.refl _ _ | refine below_dr ?_ _ | refine Below.drew ?_ | refine Below.setCell ?_ (by simp) _ | refine Below.alloc ?_ (by simp) _))⟩
  · have HE := hide (read_none1 s false (unhide HN) hN)
    clear hN
    go_wp2_with fail
    exact bodyPost_ret (v := .tuple #[.agg #[.int .i64 0, .int .i64 0], .bool false]) (by simp [results, Tryd.results33, go_sem]) rfl ⟨Or.inr ⟨unhide HE, rfl⟩, (by repeat (first | exact Below.refl _ _ | refine below_dr ?_ _ | refine Below.drew ?_ | refine Below.setCell ?_ (by simp) _ | refine Below.alloc ?_ (by simp) _))⟩

set_option maxRecDepth 100000 in
set_option maxHeartbeats 400000 in
theorem Read_empty (s : ByteArray) (w : World) (hs : s.size ≤ maxLen) (h0 : s.size = 0) :
    Calls Tryd.prog 33 #[.string s] w fun e w' => ReadSays s e ∧ Below w.heap.size w w' := by
  have hs' := hs
  unfold maxLen at hs
  have HN := hide (neg_empty s h0)
  have h0' : ¬ 0 < (s.size : Int) := by omega
  go_enter Tryd.func33, Tryd.ntmps33
  go_wp2_with fail
  refine (readDigits_0 s _ hs').mono ?_
  rintro e w' ⟨⟨v, a, hD, ha1, ha2, rfl⟩ | ⟨hN, rfl⟩, rfl⟩
  · exact absurd ha2 (by omega)
  · have HE := hide (read_none1 s false (unhide HN) hN)
    clear hN
    go_wp2_with fail
    exact bodyPost_ret (v := .tuple #[.agg #[.int .i64 0, .int .i64 0], .bool false]) (by simp [results, Tryd.results33, go_sem]) rfl ⟨Or.inr ⟨unhide HE, rfl⟩, (by repeat (first | exact Below.refl _ _ | refine below_dr ?_ _ | refine Below.drew ?_ | refine Below.setCell ?_ (by simp) _ | refine Below.alloc ?_ (by simp) _))⟩

theorem Read_any (s : ByteArray) (w : World) (hs : s.size ≤ maxLen) :
    Calls Tryd.prog 33 #[.string s] w fun e w' => ReadSays s e ∧ Below w.heap.size w w' := by
  by_cases h0 : s.size = 0
  · exact Read_empty s w hs h0
  · cases hn : neg s.data.toList with
    | true => exact Read_neg s w hs (by omega) hn
    | false => exact Read_pos s w hs (by omega) hn
end Go.Proofs.YtikiaijgcjjloaaDoor

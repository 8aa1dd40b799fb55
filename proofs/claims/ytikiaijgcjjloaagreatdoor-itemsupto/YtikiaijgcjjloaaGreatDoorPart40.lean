import Derived.Test.YtikiaijgcjjloaaGreatDoorPart39

/- The walks of the laws without the document's answer: what becomes of an item (written by mk_kp4.py). -/
namespace Go.Proofs.YtikiaijgcjjloaaGreatDoor
open Go Go.RowKit M T Go.Lib

theorem rt_minus : (⟨#[45, 49]⟩ : ByteArray) = rt (-1) := by
  have h : ratText (-1) = [45, 49] := by
    show itoa (-1) ++ _ = _
    rw [M.itoa_neg _ (by omega)]
    show 45 :: decDigits 1 ++ _ = _
    rw [dec_small 1 (by omega)]
    rfl
  unfold rt
  rw [h]
theorem small_minus : small (-1) = true := by decide
theorem mul_minus (x : Rat) : x * -1 = -x := by rw [Rat.mul_neg, Rat.mul_one]
theorem small_neg {x : Rat} (h : small x = true) : small (-x) = true := by
  unfold small at h ⊢
  simpa using h
theorem ratText_neg {x : Rat} (h : x < 0) : ratText x = 45 :: ratText (-x) := by
  have h1 : x.num < 0 := num_lt_iff.2 h
  unfold ratText numText
  rw [M.itoa_neg _ h1, Rat.neg_num, Rat.neg_den, M.itoa_pos (-x.num) (by omega), Int.natAbs_neg]
  rfl
theorem ratText_pos {x : Rat} (h : ¬ x < 0) : ∃ c l, ratText x = c :: l ∧ c ≠ 45 := by
  have h1 : ¬ x.num < 0 := fun h2 => h (num_lt_iff.1 h2)
  unfold ratText numText
  rw [M.itoa_pos _ h1]
  obtain ⟨c, l, e, hd⟩ := dec_head x.num.natAbs (if (x.den : Int) ≤ 1 then [] else 47 :: decDigits (x.den : Int).toNat)
  refine ⟨c, l, e, ?_⟩
  rintro rfl
  exact absurd hd (by decide)
theorem below_any (x : Rat) (w : World) : Calls Tryz.prog 57 #[.string (rt x)] w fun e w' => e = .returned (.bool (decide (x < 0))) ∧ w' = w := by
  by_cases h : x < 0
  · have e1 : rt x = ⟨(45 :: ratText (-x)).toArray⟩ := by unfold rt; rw [ratText_neg h]
    rw [e1, decide_eq_true h]
    generalize ratText (-x) = l
    go_enter Tryz.func57, Tryz.ntmps57
    go_wp2_with fail
    go_ret
    exact ⟨rfl, rfl⟩
  · obtain ⟨c, l, e, hc⟩ := ratText_pos h
    have e1 : rt x = ⟨(c :: l).toArray⟩ := by unfold rt; rw [e]
    rw [e1, decide_eq_false h]
    have hq : ((c.toNat : Int) == 45) = false := by
      rw [beq_eq_false_iff_ne]
      intro h2
      exact hc (UInt8.toNat_inj.1 (by show c.toNat = 45; omega))
    clear e1 e h hc
    go_enter Tryz.func57, Tryz.ntmps57
    go_wp2_with fail
    go_ret
    exact ⟨by show Ending.returned (.bool ((c.toNat : Int) == 45)) = _; rw [hq], rfl⟩

set_option maxRecDepth 100000 in
set_option maxHeartbeats 800000 in
theorem became_n {x c : Rat} {g n cp i : Nat} (hx : small x = true) (hi : i < n) (_ : n ≤ 1000) (ma : Option Addr) (mn mc : Nat) (w : World) (c0 : w.cell? ⟨g, i, none⟩ = some (.string (rt x))) (ht : Tab w) : Calls Tryz.prog 33 #[.int .u8 110, .string (rt c), .slice (some ⟨g, 0, none⟩) n cp, .int .i64 (i : Int), .slice ma mn mc] w fun e w' => TGot (lim (x * -1)) e ∧ Below w.heap.size w w' := by
  have HX := hide hx
  clear hx
  have HT := hide ht
  clear ht
  have hi' : (i : Int) < (n : Int) := by omega
  by_cases h0 : 0 < i
  · have h0' : (0 : Int) < (i : Int) := by omega
    go_enter Tryz.func33, Tryz.ntmps33
    go_wp2_with fail
    rw [rt_minus]
    refine (tTimes (unhide HX) small_minus _ (unhide HT)).mono ?_
    rintro e w1 ⟨⟨t, q, rfl, hh⟩, hb⟩
    have HH := hide hh
    have HB := hide hb
    clear hh hb
    go_wp2_with fail
    exact bodyPost_ret (v := .tuple #[.string ⟨t.toArray⟩, .int .i64 q]) (by simp [results, Tryz.results33, go_sem]) rfl ⟨⟨t, q, rfl, unhide HH⟩, unhide HB⟩
  · have h0' : ¬ (0 : Int) < (i : Int) := by omega
    go_enter Tryz.func33, Tryz.ntmps33
    go_wp2_with fail
    rw [rt_minus]
    refine (tTimes (unhide HX) small_minus _ (unhide HT)).mono ?_
    rintro e w1 ⟨⟨t, q, rfl, hh⟩, hb⟩
    have HH := hide hh
    have HB := hide hb
    clear hh hb
    go_wp2_with fail
    exact bodyPost_ret (v := .tuple #[.string ⟨t.toArray⟩, .int .i64 q]) (by simp [results, Tryz.results33, go_sem]) rfl ⟨⟨t, q, rfl, unhide HH⟩, unhide HB⟩

set_option maxRecDepth 100000 in
set_option maxHeartbeats 800000 in
theorem became_v {x c : Rat} {g n cp i : Nat} (hx : small x = true) (hi : i < n) (_ : n ≤ 1000) (ma : Option Addr) (mn mc : Nat) (w : World) (c0 : w.cell? ⟨g, i, none⟩ = some (.string (rt x))) (ht : Tab w) : Calls Tryz.prog 33 #[.int .u8 118, .string (rt c), .slice (some ⟨g, 0, none⟩) n cp, .int .i64 (i : Int), .slice ma mn mc] w fun e w' => TGot (overE x) e ∧ Below w.heap.size w w' := by
  have HX := hide hx
  clear hx
  have HT := hide ht
  clear ht
  have hi' : (i : Int) < (n : Int) := by omega
  by_cases h0 : 0 < i
  · have h0' : (0 : Int) < (i : Int) := by omega
    go_enter Tryz.func33, Tryz.ntmps33
    go_wp2_with fail
    refine (tOver (unhide HX) _ (unhide HT)).mono ?_
    rintro e w1 ⟨⟨t, q, rfl, hh⟩, hb⟩
    have HH := hide hh
    have HB := hide hb
    clear hh hb
    go_wp2_with fail
    exact bodyPost_ret (v := .tuple #[.string ⟨t.toArray⟩, .int .i64 q]) (by simp [results, Tryz.results33, go_sem]) rfl ⟨⟨t, q, rfl, unhide HH⟩, unhide HB⟩
  · have h0' : ¬ (0 : Int) < (i : Int) := by omega
    go_enter Tryz.func33, Tryz.ntmps33
    go_wp2_with fail
    refine (tOver (unhide HX) _ (unhide HT)).mono ?_
    rintro e w1 ⟨⟨t, q, rfl, hh⟩, hb⟩
    have HH := hide hh
    have HB := hide hb
    clear hh hb
    go_wp2_with fail
    exact bodyPost_ret (v := .tuple #[.string ⟨t.toArray⟩, .int .i64 q]) (by simp [results, Tryz.results33, go_sem]) rfl ⟨⟨t, q, rfl, unhide HH⟩, unhide HB⟩

set_option maxRecDepth 100000 in
set_option maxHeartbeats 800000 in
theorem became_w {x c : Rat} {g n cp i : Nat} (hx : small x = true) (hi : i < n) (_ : n ≤ 1000) (ma : Option Addr) (mn mc : Nat) (w : World) (c0 : w.cell? ⟨g, i, none⟩ = some (.string (rt x))) (ht : Tab w) : Calls Tryz.prog 33 #[.int .u8 119, .string (rt c), .slice (some ⟨g, 0, none⟩) n cp, .int .i64 (i : Int), .slice ma mn mc] w fun e w' => TGot (rootE x) e ∧ Below w.heap.size w w' := by
  have HX := hide hx
  clear hx
  have HT := hide ht
  clear ht
  have hi' : (i : Int) < (n : Int) := by omega
  by_cases h0 : 0 < i
  · have h0' : (0 : Int) < (i : Int) := by omega
    go_enter Tryz.func33, Tryz.ntmps33
    go_wp2_with fail
    refine (tRoot (unhide HX) _ (unhide HT)).mono ?_
    rintro e w1 ⟨⟨t, q, rfl, hh⟩, hb⟩
    have HH := hide hh
    have HB := hide hb
    clear hh hb
    go_wp2_with fail
    exact bodyPost_ret (v := .tuple #[.string ⟨t.toArray⟩, .int .i64 q]) (by simp [results, Tryz.results33, go_sem]) rfl ⟨⟨t, q, rfl, unhide HH⟩, unhide HB⟩
  · have h0' : ¬ (0 : Int) < (i : Int) := by omega
    go_enter Tryz.func33, Tryz.ntmps33
    go_wp2_with fail
    refine (tRoot (unhide HX) _ (unhide HT)).mono ?_
    rintro e w1 ⟨⟨t, q, rfl, hh⟩, hb⟩
    have HH := hide hh
    have HB := hide hb
    clear hh hb
    go_wp2_with fail
    exact bodyPost_ret (v := .tuple #[.string ⟨t.toArray⟩, .int .i64 q]) (by simp [results, Tryz.results33, go_sem]) rfl ⟨⟨t, q, rfl, unhide HH⟩, unhide HB⟩

set_option maxRecDepth 100000 in
set_option maxHeartbeats 800000 in
theorem became_q {x c : Rat} {g n cp i : Nat} (hx : small x = true) (hi : i < n) (_ : n ≤ 1000) (ma : Option Addr) (mn mc : Nat) (w : World) (c0 : w.cell? ⟨g, i, none⟩ = some (.string (rt x))) (ht : Tab w) : Calls Tryz.prog 33 #[.int .u8 113, .string (rt c), .slice (some ⟨g, 0, none⟩) n cp, .int .i64 (i : Int), .slice ma mn mc] w fun e w' => TGot (lim (x * x)) e ∧ Below w.heap.size w w' := by
  have HX := hide hx
  clear hx
  have HT := hide ht
  clear ht
  have hi' : (i : Int) < (n : Int) := by omega
  by_cases h0 : 0 < i
  · have h0' : (0 : Int) < (i : Int) := by omega
    go_enter Tryz.func33, Tryz.ntmps33
    go_wp2_with fail
    refine (tTimes (unhide HX) (unhide HX) _ (unhide HT)).mono ?_
    rintro e w1 ⟨⟨t, q, rfl, hh⟩, hb⟩
    have HH := hide hh
    have HB := hide hb
    clear hh hb
    go_wp2_with fail
    exact bodyPost_ret (v := .tuple #[.string ⟨t.toArray⟩, .int .i64 q]) (by simp [results, Tryz.results33, go_sem]) rfl ⟨⟨t, q, rfl, unhide HH⟩, unhide HB⟩
  · have h0' : ¬ (0 : Int) < (i : Int) := by omega
    go_enter Tryz.func33, Tryz.ntmps33
    go_wp2_with fail
    refine (tTimes (unhide HX) (unhide HX) _ (unhide HT)).mono ?_
    rintro e w1 ⟨⟨t, q, rfl, hh⟩, hb⟩
    have HH := hide hh
    have HB := hide hb
    clear hh hb
    go_wp2_with fail
    exact bodyPost_ret (v := .tuple #[.string ⟨t.toArray⟩, .int .i64 q]) (by simp [results, Tryz.results33, go_sem]) rfl ⟨⟨t, q, rfl, unhide HH⟩, unhide HB⟩

set_option maxRecDepth 100000 in
set_option maxHeartbeats 800000 in
theorem became_plus {x c : Rat} {g n cp i : Nat} (hx : small x = true) (hc : small c = true) (hi : i < n) (_ : n ≤ 1000) (ma : Option Addr) (mn mc : Nat) (w : World) (c0 : w.cell? ⟨g, i, none⟩ = some (.string (rt x))) (ht : Tab w) : Calls Tryz.prog 33 #[.int .u8 43, .string (rt c), .slice (some ⟨g, 0, none⟩) n cp, .int .i64 (i : Int), .slice ma mn mc] w fun e w' => TGot (lim (x + c)) e ∧ Below w.heap.size w w' := by
  have HX := hide hx
  clear hx
  have HC := hide hc
  clear hc
  have HT := hide ht
  clear ht
  have hi' : (i : Int) < (n : Int) := by omega
  by_cases h0 : 0 < i
  · have h0' : (0 : Int) < (i : Int) := by omega
    go_enter Tryz.func33, Tryz.ntmps33
    go_wp2_with fail
    refine (tPlus (unhide HX) (unhide HC) _ (unhide HT)).mono ?_
    rintro e w1 ⟨⟨t, q, rfl, hh⟩, hb⟩
    have HH := hide hh
    have HB := hide hb
    clear hh hb
    go_wp2_with fail
    exact bodyPost_ret (v := .tuple #[.string ⟨t.toArray⟩, .int .i64 q]) (by simp [results, Tryz.results33, go_sem]) rfl ⟨⟨t, q, rfl, unhide HH⟩, unhide HB⟩
  · have h0' : ¬ (0 : Int) < (i : Int) := by omega
    go_enter Tryz.func33, Tryz.ntmps33
    go_wp2_with fail
    refine (tPlus (unhide HX) (unhide HC) _ (unhide HT)).mono ?_
    rintro e w1 ⟨⟨t, q, rfl, hh⟩, hb⟩
    have HH := hide hh
    have HB := hide hb
    clear hh hb
    go_wp2_with fail
    exact bodyPost_ret (v := .tuple #[.string ⟨t.toArray⟩, .int .i64 q]) (by simp [results, Tryz.results33, go_sem]) rfl ⟨⟨t, q, rfl, unhide HH⟩, unhide HB⟩

set_option maxRecDepth 100000 in
set_option maxHeartbeats 800000 in
theorem became_times {x c : Rat} {g n cp i : Nat} (hx : small x = true) (hc : small c = true) (hi : i < n) (_ : n ≤ 1000) (ma : Option Addr) (mn mc : Nat) (w : World) (c0 : w.cell? ⟨g, i, none⟩ = some (.string (rt x))) (ht : Tab w) : Calls Tryz.prog 33 #[.int .u8 42, .string (rt c), .slice (some ⟨g, 0, none⟩) n cp, .int .i64 (i : Int), .slice ma mn mc] w fun e w' => TGot (lim (x * c)) e ∧ Below w.heap.size w w' := by
  have HX := hide hx
  clear hx
  have HC := hide hc
  clear hc
  have HT := hide ht
  clear ht
  have hi' : (i : Int) < (n : Int) := by omega
  by_cases h0 : 0 < i
  · have h0' : (0 : Int) < (i : Int) := by omega
    go_enter Tryz.func33, Tryz.ntmps33
    go_wp2_with fail
    refine (tTimes (unhide HX) (unhide HC) _ (unhide HT)).mono ?_
    rintro e w1 ⟨⟨t, q, rfl, hh⟩, hb⟩
    have HH := hide hh
    have HB := hide hb
    clear hh hb
    go_wp2_with fail
    exact bodyPost_ret (v := .tuple #[.string ⟨t.toArray⟩, .int .i64 q]) (by simp [results, Tryz.results33, go_sem]) rfl ⟨⟨t, q, rfl, unhide HH⟩, unhide HB⟩
  · have h0' : ¬ (0 : Int) < (i : Int) := by omega
    go_enter Tryz.func33, Tryz.ntmps33
    go_wp2_with fail
    refine (tTimes (unhide HX) (unhide HC) _ (unhide HT)).mono ?_
    rintro e w1 ⟨⟨t, q, rfl, hh⟩, hb⟩
    have HH := hide hh
    have HB := hide hb
    clear hh hb
    go_wp2_with fail
    exact bodyPost_ret (v := .tuple #[.string ⟨t.toArray⟩, .int .i64 q]) (by simp [results, Tryz.results33, go_sem]) rfl ⟨⟨t, q, rfl, unhide HH⟩, unhide HB⟩

set_option maxRecDepth 100000 in
set_option maxHeartbeats 800000 in
theorem became_set {x c : Rat} {g n cp i : Nat} (hx : small x = true) (hc : small c = true) (hi : i < n) (_ : n ≤ 1000) (ma : Option Addr) (mn mc : Nat) (w : World) (c0 : w.cell? ⟨g, i, none⟩ = some (.string (rt x))) : Calls Tryz.prog 33 #[.int .u8 61, .string (rt c), .slice (some ⟨g, 0, none⟩) n cp, .int .i64 (i : Int), .slice ma mn mc] w fun e w' => TGot (.ok c) e ∧ Below w.heap.size w w' := by
  have HX := hide hx
  clear hx
  have HC := hide hc
  clear hc
  have hi' : (i : Int) < (n : Int) := by omega
  by_cases h0 : 0 < i
  · have h0' : (0 : Int) < (i : Int) := by omega
    go_enter Tryz.func33, Tryz.ntmps33
    go_wp2_with fail
    exact bodyPost_ret (v := .tuple #[.string (rt c), .int .i64 0]) (by simp [results, Tryz.results33, go_sem]) rfl ⟨⟨ratText c, 0, rfl, Or.inl ⟨c, rfl, unhide HC, rfl, rfl⟩⟩, Below.refl _ _⟩
  · have h0' : ¬ (0 : Int) < (i : Int) := by omega
    go_enter Tryz.func33, Tryz.ntmps33
    go_wp2_with fail
    exact bodyPost_ret (v := .tuple #[.string (rt c), .int .i64 0]) (by simp [results, Tryz.results33, go_sem]) rfl ⟨⟨ratText c, 0, rfl, Or.inl ⟨c, rfl, unhide HC, rfl, rfl⟩⟩, Below.refl _ _⟩
theorem rt_tail {x : Rat} (h : x < 0) : 1 ≤ (rt x).size ∧ (rt x).extract 1 (rt x).size = rt (-x) := by
  have e1 : rt x = ⟨(45 :: ratText (-x)).toArray⟩ := by unfold rt; rw [ratText_neg h]
  have e2 : (rt x).size = (ratText (-x)).length + 1 := by rw [e1]; show (45 :: ratText (-x)).toArray.size = _; simp
  refine ⟨by omega, ?_⟩
  apply ByteArray.ext
  apply Array.toList_inj.1
  rw [ext_list, e2, e1]
  show List.take ((ratText (-x)).length + 1 - 1) (List.drop 1 (45 :: ratText (-x))) = ratText (-x)
  simp
def kuE (x : Rat) : Except Int Rat := if x < 0 then .error 2 else lim (x * x)
def kaE (x : Rat) : Except Int Rat := if x < 0 then .ok (-x) else .ok x

set_option maxRecDepth 100000 in
set_option maxHeartbeats 800000 in
theorem became_u {x c : Rat} {g n cp i : Nat} (hx : small x = true) (hi : i < n) (_ : n ≤ 1000) (ma : Option Addr) (mn mc : Nat) (w : World) (c0 : w.cell? ⟨g, i, none⟩ = some (.string (rt x))) (ht : Tab w) : Calls Tryz.prog 33 #[.int .u8 117, .string (rt c), .slice (some ⟨g, 0, none⟩) n cp, .int .i64 (i : Int), .slice ma mn mc] w fun e w' => TGot (kuE x) e ∧ Below w.heap.size w w' := by
  have HX := hide hx
  clear hx
  have HT := hide ht
  clear ht
  have hi' : (i : Int) < (n : Int) := by omega
  by_cases h0 : 0 < i
  · have h0' : (0 : Int) < (i : Int) := by omega
    go_enter Tryz.func33, Tryz.ntmps33
    go_wp2_with fail
    refine (below_any x _).mono ?_
    rintro e w1 ⟨rfl, rfl⟩
    by_cases hs : x < 0
    · have HS := hide hs
      rw [decide_eq_true hs]
      clear hs
      go_wp2_with fail
      exact bodyPost_ret (v := .tuple #[.string ⟨#[]⟩, .int .i64 2]) (by simp [results, Tryz.results33, go_sem]) rfl ⟨⟨[], 2, rfl, Or.inr ⟨if_pos (unhide HS), by decide, rfl⟩⟩, Below.refl _ _⟩
    · have HS := hide hs
      rw [decide_eq_false hs]
      clear hs
      go_wp2_with fail
      refine (tTimes (unhide HX) (unhide HX) _ (unhide HT)).mono ?_
      rintro e w1 ⟨⟨t, q, rfl, hh⟩, hb⟩
      have HH := hide hh
      have HB := hide hb
      clear hh hb
      go_wp2_with fail
      exact bodyPost_ret (v := .tuple #[.string ⟨t.toArray⟩, .int .i64 q]) (by simp [results, Tryz.results33, go_sem]) rfl ⟨⟨t, q, rfl, by rw [kuE, if_neg (unhide HS)]; exact unhide HH⟩, unhide HB⟩
  · have h0' : ¬ (0 : Int) < (i : Int) := by omega
    go_enter Tryz.func33, Tryz.ntmps33
    go_wp2_with fail
    refine (below_any x _).mono ?_
    rintro e w1 ⟨rfl, rfl⟩
    by_cases hs : x < 0
    · have HS := hide hs
      rw [decide_eq_true hs]
      clear hs
      go_wp2_with fail
      exact bodyPost_ret (v := .tuple #[.string ⟨#[]⟩, .int .i64 2]) (by simp [results, Tryz.results33, go_sem]) rfl ⟨⟨[], 2, rfl, Or.inr ⟨if_pos (unhide HS), by decide, rfl⟩⟩, Below.refl _ _⟩
    · have HS := hide hs
      rw [decide_eq_false hs]
      clear hs
      go_wp2_with fail
      refine (tTimes (unhide HX) (unhide HX) _ (unhide HT)).mono ?_
      rintro e w1 ⟨⟨t, q, rfl, hh⟩, hb⟩
      have HH := hide hh
      have HB := hide hb
      clear hh hb
      go_wp2_with fail
      exact bodyPost_ret (v := .tuple #[.string ⟨t.toArray⟩, .int .i64 q]) (by simp [results, Tryz.results33, go_sem]) rfl ⟨⟨t, q, rfl, by rw [kuE, if_neg (unhide HS)]; exact unhide HH⟩, unhide HB⟩

set_option maxRecDepth 100000 in
set_option maxHeartbeats 800000 in
theorem became_a {x c : Rat} {g n cp i : Nat} (hx : small x = true) (hi : i < n) (_ : n ≤ 1000) (ma : Option Addr) (mn mc : Nat) (w : World) (c0 : w.cell? ⟨g, i, none⟩ = some (.string (rt x))) : Calls Tryz.prog 33 #[.int .u8 97, .string (rt c), .slice (some ⟨g, 0, none⟩) n cp, .int .i64 (i : Int), .slice ma mn mc] w fun e w' => TGot (kaE x) e ∧ Below w.heap.size w w' := by
  have HX := hide hx
  clear hx
  have hi' : (i : Int) < (n : Int) := by omega
  by_cases h0 : 0 < i
  · have h0' : (0 : Int) < (i : Int) := by omega
    go_enter Tryz.func33, Tryz.ntmps33
    go_wp2_with fail
    refine (below_any x _).mono ?_
    rintro e w1 ⟨rfl, rfl⟩
    by_cases hs : x < 0
    · have HS := hide hs
      rw [decide_eq_true hs]
      clear hs
      obtain ⟨hl, ht1⟩ := rt_tail (unhide HS)
      go_wp2_with fail
      exact bodyPost_ret (v := .tuple #[.string (rt (-x)), .int .i64 0]) (by simp [results, Tryz.results33, go_sem]) rfl ⟨⟨ratText (-x), 0, rfl, Or.inl ⟨-x, if_pos (unhide HS), small_neg (unhide HX), rfl, rfl⟩⟩, Below.refl _ _⟩
    · have HS := hide hs
      rw [decide_eq_false hs]
      clear hs
      go_wp2_with fail
      exact bodyPost_ret (v := .tuple #[.string (rt x), .int .i64 0]) (by simp [results, Tryz.results33, go_sem]) rfl ⟨⟨ratText x, 0, rfl, Or.inl ⟨x, if_neg (unhide HS), unhide HX, rfl, rfl⟩⟩, Below.refl _ _⟩
  · have h0' : ¬ (0 : Int) < (i : Int) := by omega
    go_enter Tryz.func33, Tryz.ntmps33
    go_wp2_with fail
    refine (below_any x _).mono ?_
    rintro e w1 ⟨rfl, rfl⟩
    by_cases hs : x < 0
    · have HS := hide hs
      rw [decide_eq_true hs]
      clear hs
      obtain ⟨hl, ht1⟩ := rt_tail (unhide HS)
      go_wp2_with fail
      exact bodyPost_ret (v := .tuple #[.string (rt (-x)), .int .i64 0]) (by simp [results, Tryz.results33, go_sem]) rfl ⟨⟨ratText (-x), 0, rfl, Or.inl ⟨-x, if_pos (unhide HS), small_neg (unhide HX), rfl, rfl⟩⟩, Below.refl _ _⟩
    · have HS := hide hs
      rw [decide_eq_false hs]
      clear hs
      go_wp2_with fail
      exact bodyPost_ret (v := .tuple #[.string (rt x), .int .i64 0]) (by simp [results, Tryz.results33, go_sem]) rfl ⟨⟨ratText x, 0, rfl, Or.inl ⟨x, if_neg (unhide HS), unhide HX, rfl, rfl⟩⟩, Below.refl _ _⟩

set_option maxRecDepth 100000 in
set_option maxHeartbeats 800000 in
theorem first_s {x c : Rat} {g n cp : Nat} (hx : small x = true) (hi : 0 < n) (hn : n ≤ 1000) (ma : Option Addr) (mn mc : Nat) (w : World) (c0 : w.cell? ⟨g, 0, none⟩ = some (.string (rt x))) : Calls Tryz.prog 33 #[.int .u8 115, .string (rt c), .slice (some ⟨g, 0, none⟩) n cp, .int .i64 0, .slice ma mn mc] w fun e w' => TGot (.ok x) e ∧ Below w.heap.size w w' := by
  have HX := hide hx
  clear hx
  have hi' : (0 : Int) < (n : Int) := by omega
  go_enter Tryz.func33, Tryz.ntmps33
  go_wp2_with fail
  refine (below_any x _).mono ?_
  rintro e w1 ⟨rfl, rfl⟩
  generalize decide (x < 0) = b
  go_wp2_with fail
  exact bodyPost_ret (v := .tuple #[.string (rt x), .int .i64 0]) (by simp [results, Tryz.results33, go_sem]) rfl ⟨⟨ratText x, 0, rfl, Or.inl ⟨x, rfl, unhide HX, rfl, rfl⟩⟩, Below.refl _ _⟩

set_option maxRecDepth 100000 in
set_option maxHeartbeats 800000 in
theorem first_z {x c : Rat} {g n cp : Nat} (hx : small x = true) (hi : 0 < n) (hn : n ≤ 1000) (ma : Option Addr) (mn mc : Nat) (w : World) (c0 : w.cell? ⟨g, 0, none⟩ = some (.string (rt x))) : Calls Tryz.prog 33 #[.int .u8 122, .string (rt c), .slice (some ⟨g, 0, none⟩) n cp, .int .i64 0, .slice ma mn mc] w fun e w' => TGot (.ok x) e ∧ Below w.heap.size w w' := by
  have HX := hide hx
  clear hx
  have hi' : (0 : Int) < (n : Int) := by omega
  go_enter Tryz.func33, Tryz.ntmps33
  go_wp2_with fail
  refine (below_any x _).mono ?_
  rintro e w1 ⟨rfl, rfl⟩
  generalize decide (x < 0) = b
  go_wp2_with fail
  exact bodyPost_ret (v := .tuple #[.string (rt x), .int .i64 0]) (by simp [results, Tryz.results33, go_sem]) rfl ⟨⟨ratText x, 0, rfl, Or.inl ⟨x, rfl, unhide HX, rfl, rfl⟩⟩, Below.refl _ _⟩

set_option maxRecDepth 100000 in
set_option maxHeartbeats 800000 in
theorem first_p {x c : Rat} {g n cp : Nat} (hx : small x = true) (hi : 0 < n) (hn : n ≤ 1000) (ma : Option Addr) (mn mc : Nat) (w : World) (c0 : w.cell? ⟨g, 0, none⟩ = some (.string (rt x))) : Calls Tryz.prog 33 #[.int .u8 112, .string (rt c), .slice (some ⟨g, 0, none⟩) n cp, .int .i64 0, .slice ma mn mc] w fun e w' => TGot (.ok x) e ∧ Below w.heap.size w w' := by
  have HX := hide hx
  clear hx
  have hi' : (0 : Int) < (n : Int) := by omega
  go_enter Tryz.func33, Tryz.ntmps33
  go_wp2_with fail
  refine (below_any x _).mono ?_
  rintro e w1 ⟨rfl, rfl⟩
  generalize decide (x < 0) = b
  go_wp2_with fail
  exact bodyPost_ret (v := .tuple #[.string (rt x), .int .i64 0]) (by simp [results, Tryz.results33, go_sem]) rfl ⟨⟨ratText x, 0, rfl, Or.inl ⟨x, rfl, unhide HX, rfl, rfl⟩⟩, Below.refl _ _⟩

set_option maxRecDepth 100000 in
set_option maxHeartbeats 800000 in
theorem first_m {x c : Rat} {g n cp : Nat} (hx : small x = true) (hi : 0 < n) (hn : n ≤ 1000) (ma : Option Addr) (mn mc : Nat) (w : World) (c0 : w.cell? ⟨g, 0, none⟩ = some (.string (rt x))) : Calls Tryz.prog 33 #[.int .u8 109, .string (rt c), .slice (some ⟨g, 0, none⟩) n cp, .int .i64 0, .slice ma mn mc] w fun e w' => TGot (.ok x) e ∧ Below w.heap.size w w' := by
  have HX := hide hx
  clear hx
  have hi' : (0 : Int) < (n : Int) := by omega
  go_enter Tryz.func33, Tryz.ntmps33
  go_wp2_with fail
  refine (below_any x _).mono ?_
  rintro e w1 ⟨rfl, rfl⟩
  generalize decide (x < 0) = b
  go_wp2_with fail
  exact bodyPost_ret (v := .tuple #[.string (rt x), .int .i64 0]) (by simp [results, Tryz.results33, go_sem]) rfl ⟨⟨ratText x, 0, rfl, Or.inl ⟨x, rfl, unhide HX, rfl, rfl⟩⟩, Below.refl _ _⟩

set_option maxRecDepth 100000 in
set_option maxHeartbeats 800000 in
theorem first_o {x c : Rat} {g n cp : Nat} (hx : small x = true) (hi : 0 < n) (hn : n ≤ 1000) (ma : Option Addr) (mn mc : Nat) (w : World) (c0 : w.cell? ⟨g, 0, none⟩ = some (.string (rt x))) : Calls Tryz.prog 33 #[.int .u8 111, .string (rt c), .slice (some ⟨g, 0, none⟩) n cp, .int .i64 0, .slice ma mn mc] w fun e w' => TGot (.ok x) e ∧ Below w.heap.size w w' := by
  have HX := hide hx
  clear hx
  have hi' : (0 : Int) < (n : Int) := by omega
  go_enter Tryz.func33, Tryz.ntmps33
  go_wp2_with fail
  refine (below_any x _).mono ?_
  rintro e w1 ⟨rfl, rfl⟩
  generalize decide (x < 0) = b
  go_wp2_with fail
  exact bodyPost_ret (v := .tuple #[.string (rt x), .int .i64 0]) (by simp [results, Tryz.results33, go_sem]) rfl ⟨⟨ratText x, 0, rfl, Or.inl ⟨x, rfl, unhide HX, rfl, rfl⟩⟩, Below.refl _ _⟩
end Go.Proofs.YtikiaijgcjjloaaGreatDoor

/- The walks of the laws without the document's answer: what becomes of an item beside the first (written by mk_kp5.py). -/
namespace Go.Proofs.YtikiaijgcjjloaaGreatDoor
open Go Go.RowKit M T Go.Lib

set_option maxRecDepth 100000 in
set_option maxHeartbeats 800000 in
theorem later_s {x y c : Rat} {g n cp i h : Nat} (hx : small x = true) (hy : small y = true) (hi : i < n) (h0 : 0 < i) (hn : n ≤ 1000) (mn mc : Nat) (hm : i ≤ mn) (w : World) (c0 : w.cell? ⟨g, i, none⟩ = some (.string (rt x))) (c1 : w.cell? ⟨h, i - 1, none⟩ = some (.string (rt y))) (ht : Tab w) : Calls Tryz.prog 33 #[.int .u8 115, .string (rt c), .slice (some ⟨g, 0, none⟩) n cp, .int .i64 (i : Int), .slice (some ⟨h, 0, none⟩) mn mc] w fun e w' => TGot (lim (y + x)) e ∧ Below w.heap.size w w' := by
  have HX := hide hx
  have HY := hide hy
  have HT := hide ht
  clear hx hy ht
  have hi' : (i : Int) < (n : Int) := by omega
  have h0' : (0 : Int) < (i : Int) := by omega
  have h1 : (0 : Int) ≤ (i : Int) - 1 := by omega
  have h2 : (i : Int) - 1 < (mn : Int) := by omega
  have h3 : ((i : Int) - 1).toNat = i - 1 := by omega
  go_enter Tryz.func33, Tryz.ntmps33
  go_wp2_with fail
  refine (tPlus (unhide HY) (unhide HX) _ (unhide HT)).mono ?_
  rintro e w1 ⟨⟨t, q, rfl, hh⟩, hb⟩
  have HH := hide hh
  have HB := hide hb
  clear hh hb
  go_wp2_with fail
  exact bodyPost_ret (v := .tuple #[.string ⟨t.toArray⟩, .int .i64 q]) (by simp [results, Tryz.results33, go_sem]) rfl ⟨⟨t, q, rfl, unhide HH⟩, unhide HB⟩

set_option maxRecDepth 100000 in
set_option maxHeartbeats 800000 in
theorem later_p {x y c : Rat} {g n cp i h : Nat} (hx : small x = true) (hy : small y = true) (hi : i < n) (h0 : 0 < i) (hn : n ≤ 1000) (mn mc : Nat) (hm : i ≤ mn) (w : World) (c0 : w.cell? ⟨g, i, none⟩ = some (.string (rt x))) (c1 : w.cell? ⟨h, i - 1, none⟩ = some (.string (rt y))) (ht : Tab w) : Calls Tryz.prog 33 #[.int .u8 112, .string (rt c), .slice (some ⟨g, 0, none⟩) n cp, .int .i64 (i : Int), .slice (some ⟨h, 0, none⟩) mn mc] w fun e w' => TGot (lim (y * x)) e ∧ Below w.heap.size w w' := by
  have HX := hide hx
  have HY := hide hy
  have HT := hide ht
  clear hx hy ht
  have hi' : (i : Int) < (n : Int) := by omega
  have h0' : (0 : Int) < (i : Int) := by omega
  have h1 : (0 : Int) ≤ (i : Int) - 1 := by omega
  have h2 : (i : Int) - 1 < (mn : Int) := by omega
  have h3 : ((i : Int) - 1).toNat = i - 1 := by omega
  go_enter Tryz.func33, Tryz.ntmps33
  go_wp2_with fail
  refine (tTimes (unhide HY) (unhide HX) _ (unhide HT)).mono ?_
  rintro e w1 ⟨⟨t, q, rfl, hh⟩, hb⟩
  have HH := hide hh
  have HB := hide hb
  clear hh hb
  go_wp2_with fail
  exact bodyPost_ret (v := .tuple #[.string ⟨t.toArray⟩, .int .i64 q]) (by simp [results, Tryz.results33, go_sem]) rfl ⟨⟨t, q, rfl, unhide HH⟩, unhide HB⟩

set_option maxRecDepth 100000 in
set_option maxHeartbeats 800000 in
theorem later_m {x y c : Rat} {g n cp i h : Nat} (hx : small x = true) (hy : small y = true) (hi : i < n) (h0 : 0 < i) (hn : n ≤ 1000) (mn mc : Nat) (hm : i ≤ mn) (w : World) (c0 : w.cell? ⟨g, i, none⟩ = some (.string (rt x))) (c1 : w.cell? ⟨h, i - 1, none⟩ = some (.string (rt y))) (ht : Tab w) : Calls Tryz.prog 33 #[.int .u8 109, .string (rt c), .slice (some ⟨g, 0, none⟩) n cp, .int .i64 (i : Int), .slice (some ⟨h, 0, none⟩) mn mc] w fun e w' => TGot (lim (y * x)) e ∧ Below w.heap.size w w' := by
  have HX := hide hx
  have HY := hide hy
  have HT := hide ht
  clear hx hy ht
  have hi' : (i : Int) < (n : Int) := by omega
  have h0' : (0 : Int) < (i : Int) := by omega
  have h1 : (0 : Int) ≤ (i : Int) - 1 := by omega
  have h2 : (i : Int) - 1 < (mn : Int) := by omega
  have h3 : ((i : Int) - 1).toNat = i - 1 := by omega
  go_enter Tryz.func33, Tryz.ntmps33
  go_wp2_with fail
  refine (tTimes (unhide HY) (unhide HX) _ (unhide HT)).mono ?_
  rintro e w1 ⟨⟨t, q, rfl, hh⟩, hb⟩
  have HH := hide hh
  have HB := hide hb
  clear hh hb
  go_wp2_with fail
  exact bodyPost_ret (v := .tuple #[.string ⟨t.toArray⟩, .int .i64 q]) (by simp [results, Tryz.results33, go_sem]) rfl ⟨⟨t, q, rfl, unhide HH⟩, unhide HB⟩

set_option maxRecDepth 100000 in
set_option maxHeartbeats 800000 in
theorem later_z {x y c : Rat} {g n cp i : Nat} (hx : small x = true) (hy : small y = true) (hi : i < n) (h0 : 0 < i) (hn : n ≤ 1000) (ma : Option Addr) (mn mc : Nat) (w : World) (c0 : w.cell? ⟨g, i, none⟩ = some (.string (rt x))) (c1 : w.cell? ⟨g, i - 1, none⟩ = some (.string (rt y))) (ht : Tab w) : Calls Tryz.prog 33 #[.int .u8 122, .string (rt c), .slice (some ⟨g, 0, none⟩) n cp, .int .i64 (i : Int), .slice ma mn mc] w fun e w' => TGot (subE y x) e ∧ Below w.heap.size w w' := by
  have HX := hide hx
  have HY := hide hy
  have HT := hide ht
  clear hx hy ht
  have hi' : (i : Int) < (n : Int) := by omega
  have h0' : (0 : Int) < (i : Int) := by omega
  have h1 : (0 : Int) ≤ (i : Int) - 1 := by omega
  have h2 : (i : Int) - 1 < (n : Int) := by omega
  have h3 : ((i : Int) - 1).toNat = i - 1 := by omega
  go_enter Tryz.func33, Tryz.ntmps33
  go_wp2_with fail
  rw [rt_minus]
  refine (tTimes (unhide HY) small_minus _ (unhide HT)).mono ?_
  rintro e w1 ⟨⟨t, q, rfl, hh⟩, hb⟩
  rw [mul_minus, lim, if_pos (small_neg (unhide HY))] at hh
  rcases hh with ⟨z, hz, _, rfl, rfl⟩ | ⟨hz, _, _⟩
  · cases hz
    have hrt : (⟨(ratText (-y)).toArray⟩ : ByteArray) = rt (-y) := rfl
    rw [hrt]
    have HB1 := hide hb
    clear hb
    go_wp2_with fail
    refine (tPlus (unhide HX) (small_neg (unhide HY)) _ (tab_below (unhide HT) (unhide HB1))).mono ?_
    rintro e w2 ⟨⟨t, q, rfl, hh⟩, hb⟩
    have HH := hide hh
    have HB := hide ((unhide HB1).trans (hb.mono (unhide HB1).size))
    clear hh hb
    go_wp2_with fail
    exact bodyPost_ret (v := .tuple #[.string ⟨t.toArray⟩, .int .i64 q]) (by simp [results, Tryz.results33, go_sem]) rfl ⟨⟨t, q, rfl, by rw [subE, Rat.sub_eq_add_neg]; exact unhide HH⟩, unhide HB⟩
  · cases hz

set_option maxRecDepth 100000 in
set_option maxHeartbeats 800000 in
theorem later_o {x y c : Rat} {g n cp i : Nat} (hx : small x = true) (hy : small y = true) (hi : i < n) (h0 : 0 < i) (hn : n ≤ 1000) (ma : Option Addr) (mn mc : Nat) (w : World) (c0 : w.cell? ⟨g, i, none⟩ = some (.string (rt x))) (c1 : w.cell? ⟨g, i - 1, none⟩ = some (.string (rt y))) (ht : Tab w) : Calls Tryz.prog 33 #[.int .u8 111, .string (rt c), .slice (some ⟨g, 0, none⟩) n cp, .int .i64 (i : Int), .slice ma mn mc] w fun e w' => TGot (divE y x) e ∧ Below w.heap.size w w' := by
  have HX := hide hx
  have HY := hide hy
  have HT := hide ht
  clear hx hy ht
  have hi' : (i : Int) < (n : Int) := by omega
  have h0' : (0 : Int) < (i : Int) := by omega
  have h1 : (0 : Int) ≤ (i : Int) - 1 := by omega
  have h2 : (i : Int) - 1 < (n : Int) := by omega
  have h3 : ((i : Int) - 1).toNat = i - 1 := by omega
  go_enter Tryz.func33, Tryz.ntmps33
  go_wp2_with fail
  refine (tOver (unhide HY) _ (unhide HT)).mono ?_
  rintro e w1 ⟨⟨t, q, rfl, hh⟩, hb⟩
  have HB1 := hide hb
  clear hb
  by_cases hz : y = 0
  · rw [overE, if_pos hz] at hh
    rcases hh with ⟨z, hz', _, _, _⟩ | ⟨hz', _, rfl⟩
    · cases hz'
    · cases hz'
      have HZ := hide hz
      clear hz
      go_wp2_with fail
      exact bodyPost_ret (v := .tuple #[.string ⟨#[]⟩, .int .i64 2]) (by simp [results, Tryz.results33, go_sem]) rfl ⟨⟨[], 2, rfl, Or.inr ⟨if_pos (unhide HZ), by decide, rfl⟩⟩, unhide HB1⟩
  · rw [overE, if_neg hz] at hh
    rcases hh with ⟨z, hz', hs, rfl, rfl⟩ | ⟨hz', _, _⟩
    · cases hz'
      have HZ := hide hz
      have HS := hide hs
      clear hz hs
      have hrt : (⟨(ratText y⁻¹).toArray⟩ : ByteArray) = rt y⁻¹ := rfl
      rw [hrt]
      go_wp2_with fail
      refine (tTimes (unhide HX) (unhide HS) _ (tab_below (unhide HT) (unhide HB1))).mono ?_
      rintro e w2 ⟨⟨t, q, rfl, hh⟩, hb⟩
      have HH := hide hh
      have HB := hide ((unhide HB1).trans (hb.mono (unhide HB1).size))
      clear hh hb
      go_wp2_with fail
      exact bodyPost_ret (v := .tuple #[.string ⟨t.toArray⟩, .int .i64 q]) (by simp [results, Tryz.results33, go_sem]) rfl ⟨⟨t, q, rfl, by rw [divE, if_neg (unhide HZ)]; exact unhide HH⟩, unhide HB⟩
    · cases hz'
end Go.Proofs.YtikiaijgcjjloaaGreatDoor

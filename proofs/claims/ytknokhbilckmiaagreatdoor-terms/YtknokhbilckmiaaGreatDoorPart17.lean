import Derived.Test.YtknokhbilckmiaaGreatDoorPart16
import Derived.Deep.DeepCutAuto

/- The walk of the document's reading of a number: the whole. -/
namespace Go.Proofs.YtknokhbilckmiaaGreatDoor
open Go Go.RowKit M Go.Lib

theorem list_empty (s : ByteArray) (h : s.size = 0) : s.data.toList = [] := List.length_eq_zero_iff.1 (by rw [len_size]; exact h)
theorem none_empty (s : ByteArray) (h : s.size = 0) : ∀ t b, ¬ IsNum s.data.toList t b := by
  apply rr_bad
  rw [list_empty s h]
  exact Or.inl (by decide)
set_option maxRecDepth 100000 in
set_option maxHeartbeats 400000 in
theorem RRead_nil (w : World) :
    Calls Tryz.prog 92 #[.string ⟨#[]⟩] w fun e w' => RReadSays ⟨#[]⟩ e ∧ Below w.heap.size w w' := by
  have HE := hide (none_empty ⟨#[]⟩ rfl)
  go_enter Tryz.func92, Tryz.ntmps92
  go_wp2_with fail
  go_loopw [5, 6, 7] (fun x y z wx => x = .int .i64 0 ∧ y = .int .i64 1 ∧ z = .int .i64 0 ∧ (w.alloc (.cells #[.int .i64 0, .int .i64 0] 126)) = wx) (fun _ _ _ _ => 0)
  case atStart => exact ⟨rfl, rfl, rfl, rfl⟩
  case round =>
    obtain ⟨rfl, rfl, rfl, rfl⟩ := hrel
    go_wp2_with fail
    refine (value_any (ByteArray.extract ⟨#[]⟩ 0 0) _ (by decide)).mono ?_
    rintro e w' ⟨rfl, rfl⟩
    rw [show valueOf (ByteArray.extract ⟨#[]⟩ 0 0).data.toList = -1 from by decide]
    go_wp2_with fail
    exact bodyPost_ret (v := .tuple #[.agg #[.int .i64 0, .int .i64 1], .bool false]) (by simp [results, Tryz.results92, go_sem]) rfl ⟨Or.inr ⟨unhide HE, _, _, rfl⟩, (by repeat (first | exact Below.refl _ _ | refine below_dr ?_ _ | refine Below.drew ?_ | refine Below.setCell ?_ (by simp) _ | refine Below.alloc ?_ (by simp) _))⟩
theorem RRead_empty (s : ByteArray) (w : World) (h0 : s.size = 0) :
    Calls Tryz.prog 92 #[.string s] w fun e w' => RReadSays s e ∧ Below w.heap.size w w' := by
  obtain rfl : s = ⟨#[]⟩ := by
    apply ByteArray.ext
    have := list_empty s h0
    simpa using this
  exact RRead_nil w

theorem RRead_any (s : ByteArray) (w : World) (hs : s.size ≤ maxLen) :
    Calls Tryz.prog 92 #[.string s] w fun e w' => RReadSays s e ∧ Below w.heap.size w w' := by
  by_cases h0 : s.size = 0
  · exact RRead_empty s w h0
  · cases hn : neg s.data.toList with
    | true => exact RRead_neg s w hs (by omega) hn
    | false => exact RRead_pos s w hs (by omega) hn
end Go.Proofs.YtknokhbilckmiaaGreatDoor

/- The walks: the document's own answer: bytes among others, how far a number goes. -/
namespace Go.Proofs.YtknokhbilckmiaaGreatDoor
open Go Go.RowKit M T Go.Lib

theorem among_step {s : ByteArray} {c : UInt8} {j : Nat} (hj : j < s.size) (h : ∀ i (h : i < s.size), i < j → s[i] ≠ c) (hk : s[j] ≠ c) : ∀ i (h : i < s.size), i < j + 1 → s[i] ≠ c := by
  intro i hi hlt
  by_cases e : i = j
  · subst e; exact hk
  · exact h i hi (by omega)
theorem mem_get {s : ByteArray} {j : Nat} (h : j < s.size) : s[j] ∈ s.data.toList := by
  have : s[j] = s.data.toList[j]'(by simpa using h) := rfl
  rw [this]
  exact List.getElem_mem _

theorem u8_ne' {c d : UInt8} (h : c ≠ d) : ((c.toNat : Int) == (d.toNat : Int)) = false := by
  rw [beq_eq_false_iff_ne]
  intro e
  exact h (UInt8.toNat_inj.1 (by omega))

set_option maxRecDepth 100000 in
set_option maxHeartbeats 600000 in
theorem among_any (c : UInt8) (s : ByteArray) (w : World) (hs : s.size ≤ 1000000) :
    Calls Tryz.prog 66 #[.int .u8 (c.toNat : Int), .string s] w fun e w' => e = .returned (.bool (decide (c ∈ s.data.toList))) ∧ w = w' := by
  go_enter Tryz.func66, Tryz.ntmps66
  go_wp2_with fail
  go_loopw [5] (fun i wr => ∃ j : Nat, j ≤ s.size ∧ i = .int .i64 (j : Int) ∧ Hid (∀ i (h : i < s.size), i < j → s[i] ≠ c) ∧ w = wr) (fun i _ => s.size - (RowKit.intOf i).toNat)
  case atStart => exact ⟨0, by omega, rfl, fun i _ h => by omega, rfl⟩
  case round =>
    obtain ⟨j, hj, rfl, HJ, rfl⟩ := hrel
    by_cases hlt : j < s.size
    · by_cases hk : s[j] = c
      · have hb : ((s[j].toNat : Int) == (c.toNat : Int)) = true := by rw [hk]; simp
        have HM := hide (show c ∈ s.data.toList from hk ▸ mem_get hlt)
        clear hk
        go_wp2_with fail
        go_ret
        exact ⟨ret_bool (by simpa using unhide HM), rfl⟩
      · have hb : ((s[j].toNat : Int) == (c.toNat : Int)) = false := u8_ne' hk
        have HJ2 := hide (among_step hlt (unhide HJ) hk)
        clear hk
        go_wp2_with fail
        go_roundw
        case rel => exact ⟨j + 1, by omega, by go_num, HJ2, by trivial⟩
        case measure => simp [RowKit.intOf]; omega
    · have hlt' : ¬ (j : Int) < (s.size : Int) := by omega
      have HM := hide (show c ∉ s.data.toList from fun hm => by
        obtain ⟨i, hi, e⟩ := List.getElem_of_mem hm
        exact unhide HJ i (by simpa using hi) (by simp at hi; omega) e)
      go_wp2_with fail
      go_ret
      exact ⟨ret_bool (by simpa using unhide HM), rfl⟩

set_option maxRecDepth 100000 in
set_option maxHeartbeats 1600000 in
theorem span_false (s : ByteArray) (a : Nat) (w : World) (ha : a ≤ s.size) (hs : s.size ≤ 1000000) :
    Calls Tryz.prog 164 #[.string s, .int .i64 (a : Int), .bool false] w fun e w' => e = .returned (.int .i64 ((a + nw s a : Nat) : Int)) ∧ w = w' := by
  go_enter Tryz.func164, Tryz.ntmps164
  obtain ⟨f, hf⟩ : ∃ f, f = decide ((rest s a).head? = some 45) := ⟨_, rfl⟩
  have HF := hide hf
  clear hf
  go_upto_region 1 with fail
  go_cut [16] (fun v wx => v = .bool f ∧ w = wx)
  case first =>
    by_cases h1 : a < s.size
    · by_cases h2 : s[a] = 45
      · have h2' : ((s[a].toNat : Int) == 45) = true := by rw [h2]; rfl
        have HN := hide (show f = true by rw [unhide HF, rest_lt h1, h2]; rfl)
        clear h2
        go_wp2_with fail
        go_meet
        exact ⟨by rw [unhide HN], rfl⟩
      · have h2' : ((s[a].toNat : Int) == 45) = false := u8_ne' (d := 45) h2
        have HN := hide (show f = false by rw [unhide HF, rest_lt h1]; simp [h2])
        clear h2
        go_wp2_with fail
        go_meet
        exact ⟨by rw [unhide HN], rfl⟩
    · have h1' : ¬ (a : Int) < (s.size : Int) := by omega
      have HN := hide (show f = false by rw [unhide HF, rest_ge (by omega)]; rfl)
      go_wp2_with fail
      go_meet
      exact ⟨by rw [unhide HN], rfl⟩
  case rest =>
  obtain ⟨rfl, rfl⟩ := hcut
  go_upto_if 16 with fail
  go_cut [1] (fun v wx => (∃ b : Nat, v = .int .i64 (b : Int) ∧ b ≤ s.size ∧ a + nw s a = b + nd s b) ∧ w = wx)
  case first =>
    cases f with
    | true =>
      have hh : (rest s a).head? = some 45 := by simpa using (unhide HF).symm
      have h1 : a < s.size := by
        rcases Nat.lt_or_ge a s.size with h | h
        · exact h
        · rw [rest_ge h] at hh; cases hh
      have HN := hide (nw_minus (l := rest s (a + 1)) (by have := head_cons hh; rw [this, rest_add]))
      clear hh
      go_wp2_with fail
      go_meet
      exact ⟨⟨a + 1, by go_num, by omega, by rw [unhide HN]; omega⟩, rfl⟩
    | false =>
      have HN := hide (nw_plain (s := s) (a := a) (by simpa using (unhide HF).symm))
      go_wp2_with fail
      go_meet
      exact ⟨⟨a, rfl, ha, by rw [unhide HN]⟩, rfl⟩
  case rest =>
    obtain ⟨⟨b, rfl, hb, he⟩, rfl⟩ := hcut
    have HE := hide he
    clear he
    go_wp2_with fail
    go_loopw [1] (fun i wr => ∃ j : Nat, j ≤ s.size ∧ i = .int .i64 (j : Int) ∧ Hid (a + nw s a = j + nd s j) ∧ w = wr) (fun i _ => s.size - (RowKit.intOf i).toNat)
    case atStart => exact ⟨b, hb, rfl, HE, rfl⟩
    case round =>
      obtain ⟨j, hj, rfl, HJ, rfl⟩ := hrel
      by_cases h1 : j < s.size
      · by_cases h2 : 48 ≤ s[j].toNat
        · by_cases h3 : s[j].toNat ≤ 57
          · have HN := hide (nd_step h1 ((isDig_iff _).2 ⟨h2, h3⟩))
            go_wp2_with fail
            go_roundw
            case rel => exact ⟨j + 1, by omega, by go_num, by have := unhide HJ; have := unhide HN; show _ = _; omega, by trivial⟩
            case measure => simp [RowKit.intOf]; omega
          · have h3n : ¬ (s[j].toNat : Int) ≤ 57 := by omega
            have HN := hide (nd_stop h1 ((isDig_not _).2 (by omega)))
            go_wp2_with fail
            go_ret
            exact ⟨ret_int (by have := unhide HJ; have := unhide HN; omega), rfl⟩
        · have h2n : ¬ (48 : Int) ≤ (s[j].toNat : Int) := by omega
          have HN := hide (nd_stop h1 ((isDig_not _).2 (by omega)))
          go_wp2_with fail
          go_ret
          exact ⟨ret_int (by have := unhide HJ; have := unhide HN; omega), rfl⟩
      · have h1' : ¬ (j : Int) < (s.size : Int) := by omega
        have HN := hide (nd_end h1)
        go_wp2_with fail
        go_ret
        exact ⟨ret_int (by have := unhide HJ; have := unhide HN; omega), rfl⟩
end Go.Proofs.YtknokhbilckmiaaGreatDoor

import Derived.Test.YtknokhbilckmiaaGreatDoorPart17

/- The walks: the document's own answer: the bracket that closes, the first colon outside of brackets. -/
namespace Go.Proofs.YtknokhbilckmiaaGreatDoor
open Go Go.RowKit M T Go.Lib

theorem am_open (c : UInt8) : decide (c ∈ (⟨#[40, 91]⟩ : ByteArray).data.toList) = opens c := by
  unfold opens
  by_cases h1 : c = 40 <;> by_cases h2 : c = 91 <;> simp [h1, h2]
theorem am_shut (c : UInt8) : decide (c ∈ (⟨#[41, 93]⟩ : ByteArray).data.toList) = shuts c := by
  unfold shuts
  by_cases h1 : c = 41 <;> by_cases h2 : c = 93 <;> simp [h1, h2]
theorem not_both (c : UInt8) (h1 : opens c = true) (h2 : shuts c = true) : False := by
  unfold opens at h1
  unfold shuts at h2
  simp only [Bool.or_eq_true, beq_iff_eq] at h1 h2
  rcases h1 with rfl | rfl <;> rcases h2 with h | h <;> cases h
theorem map_shift (o : Option Nat) (a b : Nat) : (o.map (· + a)).map (· + b) = o.map (· + (a + b)) := map_add o a b
theorem close_step {s : ByteArray} {a j : Nat} {d d' : Int} (hj : j < s.size) (haj : a ≤ j) (h : closeIdx (rest s a) 0 = (closeIdx (rest s j) d).map (· + (j - a))) (hd : deeper s[j] d = d') (hn : d' ≠ 0) : closeIdx (rest s a) 0 = (closeIdx (rest s (j + 1)) d').map (· + (j + 1 - a)) := by
  rw [h, rest_lt hj, closeIdx, hd, if_neg hn, map_shift]
  congr 1
  funext x
  show x + (1 + (j - a)) = x + (j + 1 - a)
  omega
theorem close_hit {s : ByteArray} {a j : Nat} {d d' : Int} (hj : j < s.size) (h : closeIdx (rest s a) 0 = (closeIdx (rest s j) d).map (· + (j - a))) (hd : deeper s[j] d = d') (hn : d' = 0) : closeIdx (rest s a) 0 = some (j - a) := by
  rw [h, rest_lt hj, closeIdx, hd, if_pos hn]
  simp
theorem close_end {s : ByteArray} {a j : Nat} {d : Int} (hj : ¬ j < s.size) (h : closeIdx (rest s a) 0 = (closeIdx (rest s j) d).map (· + (j - a))) : closeIdx (rest s a) 0 = none := by
  rw [h, rest_ge (by omega)]; rfl
theorem colon_step {s : ByteArray} {j : Nat} {d d' : Int} (hj : j < s.size) (h : colonIdx (rest s 0) 0 = (colonIdx (rest s j) d).map (· + j)) (hd : deeper s[j] d = d') (hn : ¬ (d' = 0 ∧ s[j] = 58)) : colonIdx (rest s 0) 0 = (colonIdx (rest s (j + 1)) d').map (· + (j + 1)) := by
  rw [h, rest_lt hj, colonIdx, hd, if_neg hn, map_shift]
  congr 1
  funext x
  show x + (1 + j) = x + (j + 1)
  omega
theorem colon_hit {s : ByteArray} {j : Nat} {d d' : Int} (hj : j < s.size) (h : colonIdx (rest s 0) 0 = (colonIdx (rest s j) d).map (· + j)) (hd : deeper s[j] d = d') (hn : d' = 0 ∧ s[j] = 58) : colonIdx (rest s 0) 0 = some j := by
  rw [h, rest_lt hj, colonIdx, hd, if_pos hn]
  simp
theorem colon_end {s : ByteArray} {j : Nat} {d : Int} (hj : ¬ j < s.size) (h : colonIdx (rest s 0) 0 = (colonIdx (rest s j) d).map (· + j)) : colonIdx (rest s 0) 0 = none := by
  rw [h, rest_ge (by omega)]; rfl
theorem deep_o {c : UInt8} (h1 : opens c = true) (h2 : shuts c = false) (d : Int) : deeper c d = d + 1 := by unfold deeper; rw [h1, h2]; simp; omega
theorem deep_s {c : UInt8} (h1 : opens c = false) (h2 : shuts c = true) (d : Int) : deeper c d = d - 1 := by unfold deeper; rw [h1, h2]; simp; omega
theorem deep_n {c : UInt8} (h1 : opens c = false) (h2 : shuts c = false) (d : Int) : deeper c d = d := by unfold deeper; rw [h1, h2]; simp
theorem beq_f' {x y : Int} (h : x ≠ y) : (x == y) = false := by rw [beq_eq_false_iff_ne]; exact h
set_option maxRecDepth 100000 in
set_option maxHeartbeats 3200000 in
theorem closing_any (s : ByteArray) (a : Nat) (w : World) (ha : a ≤ s.size) (hs : s.size ≤ 1000000) :
    Calls Tryz.prog 175 #[.string s, .int .i64 (a : Int)] w fun e w' => ((∃ k : Nat, closeIdx (rest s a) 0 = some k ∧ e = .returned (.int .i64 ((a + k : Nat) : Int))) ∨ (closeIdx (rest s a) 0 = none ∧ e = .returned (.int .i64 (-1)))) ∧ w = w' := by
  go_enter Tryz.func175, Tryz.ntmps175
  go_wp2_with fail
  go_loopw [5, 6, 7, 8] (fun dv i _ _ wr => ∃ (j : Nat) (d : Int), a ≤ j ∧ j ≤ s.size ∧ i = .int .i64 (j : Int) ∧ dv = .int .i64 d ∧ -(j : Int) ≤ d ∧ d ≤ (j : Int) ∧ Hid (closeIdx (rest s a) 0 = (closeIdx (rest s j) d).map (· + (j - a))) ∧ w = wr) (fun _ i _ _ _ => s.size - (RowKit.intOf i).toNat)
  case atStart => exact ⟨a, 0, Nat.le_refl _, ha, rfl, rfl, by omega, by omega, by show _ = _; simp, rfl⟩
  case round =>
    obtain ⟨j, d, haj, hj, rfl, rfl, hd1, hd2, HR, rfl⟩ := hrel
    by_cases hlt : j < s.size
    · go_wp2_with fail
      refine (among_any s[j] ⟨#[40, 91]⟩ _ (by decide)).mono ?_
      rintro e w' ⟨rfl, rfl⟩
      rw [am_open]
      go_wp2_with fail
      refine (among_any s[j] ⟨#[41, 93]⟩ _ (by decide)).mono ?_
      rintro e w' ⟨rfl, rfl⟩
      rw [am_shut]
      cases ho : opens s[j] with
      | true =>
        cases hsh : shuts s[j] with
        | true => exact absurd hsh (fun h => not_both _ ho h)
        | false =>
          have HD := hide (deep_o ho hsh d)
          clear ho hsh
          by_cases h0 : d + 1 = 0
          · have hb : ((d + 1) == 0) = true := by rw [h0]; rfl
            have HH := hide (close_hit hlt (unhide HR) (unhide HD) h0)
            clear h0
            go_wp2_with fail
            go_ret
            exact ⟨Or.inl ⟨j - a, unhide HH, ret_int (by omega)⟩, rfl⟩
          · have hb : ((d + 1) == 0) = false := beq_f' h0
            have HH := hide (close_step hlt haj (unhide HR) (unhide HD) h0)
            clear h0
            go_wp2_with fail
            go_roundw
            case rel => exact ⟨j + 1, d + 1, by omega, by omega, by go_num, rfl, by omega, by omega, HH, by trivial⟩
            case measure => simp [RowKit.intOf]; omega
      | false =>
        cases hsh : shuts s[j] with
        | true =>
          have HD := hide (deep_s ho hsh d)
          clear ho hsh
          by_cases h0 : d - 1 = 0
          · have hb : ((d - 1) == 0) = true := by rw [h0]; rfl
            have HH := hide (close_hit hlt (unhide HR) (unhide HD) h0)
            clear h0
            go_wp2_with fail
            go_ret
            exact ⟨Or.inl ⟨j - a, unhide HH, ret_int (by omega)⟩, rfl⟩
          · have hb : ((d - 1) == 0) = false := beq_f' h0
            have HH := hide (close_step hlt haj (unhide HR) (unhide HD) h0)
            clear h0
            go_wp2_with fail
            go_roundw
            case rel => exact ⟨j + 1, d - 1, by omega, by omega, by go_num, rfl, by omega, by omega, HH, by trivial⟩
            case measure => simp [RowKit.intOf]; omega
        | false =>
          have HD := hide (deep_n ho hsh d)
          clear ho hsh
          by_cases h0 : d = 0
          · have hb : ((d) == 0) = true := by rw [h0]; rfl
            have HH := hide (close_hit hlt (unhide HR) (unhide HD) h0)
            clear h0
            go_wp2_with fail
            go_ret
            exact ⟨Or.inl ⟨j - a, unhide HH, ret_int (by omega)⟩, rfl⟩
          · have hb : ((d) == 0) = false := beq_f' h0
            have HH := hide (close_step hlt haj (unhide HR) (unhide HD) h0)
            clear h0
            go_wp2_with fail
            go_roundw
            case rel => exact ⟨j + 1, d, by omega, by omega, by go_num, rfl, by omega, by omega, HH, by trivial⟩
            case measure => simp [RowKit.intOf]; omega

    · have hlt' : ¬ (j : Int) < (s.size : Int) := by omega
      have HH := hide (close_end hlt (unhide HR))
      go_wp2_with fail
      go_ret
      exact ⟨Or.inr ⟨unhide HH, rfl⟩, rfl⟩
set_option maxRecDepth 100000 in
set_option maxHeartbeats 3200000 in
theorem colon_any (s : ByteArray) (w : World) (hs : s.size ≤ 1000000) :
    Calls Tryz.prog 176 #[.string s] w fun e w' => ((∃ k : Nat, colonIdx (rest s 0) 0 = some k ∧ e = .returned (.int .i64 (k : Int))) ∨ (colonIdx (rest s 0) 0 = none ∧ e = .returned (.int .i64 (-1)))) ∧ w = w' := by
  go_enter Tryz.func176, Tryz.ntmps176
  go_wp2_with fail
  go_loopw [3, 4, 5, 6] (fun dv i _ _ wr => ∃ (j : Nat) (d : Int), j ≤ s.size ∧ i = .int .i64 (j : Int) ∧ dv = .int .i64 d ∧ -(j : Int) ≤ d ∧ d ≤ (j : Int) ∧ Hid (colonIdx (rest s 0) 0 = (colonIdx (rest s j) d).map (· + j)) ∧ w = wr) (fun _ i _ _ _ => s.size - (RowKit.intOf i).toNat)
  case atStart => exact ⟨0, 0, by omega, rfl, rfl, by omega, by omega, by show _ = _; simp, rfl⟩
  case round =>
    obtain ⟨j, d, hj, rfl, rfl, hd1, hd2, HR, rfl⟩ := hrel
    by_cases hlt : j < s.size
    · go_wp2_with fail
      refine (among_any s[j] ⟨#[40, 91]⟩ _ (by decide)).mono ?_
      rintro e w' ⟨rfl, rfl⟩
      rw [am_open]
      go_wp2_with fail
      refine (among_any s[j] ⟨#[41, 93]⟩ _ (by decide)).mono ?_
      rintro e w' ⟨rfl, rfl⟩
      rw [am_shut]
      cases ho : opens s[j] with
      | true =>
        cases hsh : shuts s[j] with
        | true => exact absurd hsh (fun h => not_both _ ho h)
        | false =>
          have HD := hide (deep_o ho hsh d)
          clear ho hsh
          by_cases h0 : d + 1 = 0
          · have hb : ((d + 1) == 0) = true := by rw [h0]; rfl
            by_cases h58 : s[j] = 58
            · have hb2 : ((s[j].toNat : Int) == 58) = true := by rw [h58]; rfl
              have HH := hide (colon_hit hlt (unhide HR) (unhide HD) ⟨h0, h58⟩)
              clear h0 h58
              go_wp2_with fail
              go_ret
              exact ⟨Or.inl ⟨j, unhide HH, rfl⟩, rfl⟩
            · have hb2 : ((s[j].toNat : Int) == 58) = false := u8_ne' (d := 58) h58
              have HH := hide (colon_step hlt (unhide HR) (unhide HD) (fun h => h58 h.2))
              have HZ := hide h0
              clear h0 h58
              go_wp2_with fail
              go_roundw
              case rel => exact ⟨j + 1, d + 1, by omega, by go_num, rfl, by omega, by omega, HH, by trivial⟩
              case measure => simp [RowKit.intOf]; omega
          · have hb : ((d + 1) == 0) = false := beq_f' h0
            have HH := hide (colon_step hlt (unhide HR) (unhide HD) (fun h => h0 h.1))
            clear h0
            go_wp2_with fail
            go_roundw
            case rel => exact ⟨j + 1, d + 1, by omega, by go_num, rfl, by omega, by omega, HH, by trivial⟩
            case measure => simp [RowKit.intOf]; omega
      | false =>
        cases hsh : shuts s[j] with
        | true =>
          have HD := hide (deep_s ho hsh d)
          clear ho hsh
          by_cases h0 : d - 1 = 0
          · have hb : ((d - 1) == 0) = true := by rw [h0]; rfl
            by_cases h58 : s[j] = 58
            · have hb2 : ((s[j].toNat : Int) == 58) = true := by rw [h58]; rfl
              have HH := hide (colon_hit hlt (unhide HR) (unhide HD) ⟨h0, h58⟩)
              clear h0 h58
              go_wp2_with fail
              go_ret
              exact ⟨Or.inl ⟨j, unhide HH, rfl⟩, rfl⟩
            · have hb2 : ((s[j].toNat : Int) == 58) = false := u8_ne' (d := 58) h58
              have HH := hide (colon_step hlt (unhide HR) (unhide HD) (fun h => h58 h.2))
              have HZ := hide h0
              clear h0 h58
              go_wp2_with fail
              go_roundw
              case rel => exact ⟨j + 1, d - 1, by omega, by go_num, rfl, by omega, by omega, HH, by trivial⟩
              case measure => simp [RowKit.intOf]; omega
          · have hb : ((d - 1) == 0) = false := beq_f' h0
            have HH := hide (colon_step hlt (unhide HR) (unhide HD) (fun h => h0 h.1))
            clear h0
            go_wp2_with fail
            go_roundw
            case rel => exact ⟨j + 1, d - 1, by omega, by go_num, rfl, by omega, by omega, HH, by trivial⟩
            case measure => simp [RowKit.intOf]; omega
        | false =>
          have HD := hide (deep_n ho hsh d)
          clear ho hsh
          by_cases h0 : d = 0
          · have hb : ((d) == 0) = true := by rw [h0]; rfl
            by_cases h58 : s[j] = 58
            · have hb2 : ((s[j].toNat : Int) == 58) = true := by rw [h58]; rfl
              have HH := hide (colon_hit hlt (unhide HR) (unhide HD) ⟨h0, h58⟩)
              clear h0 h58
              go_wp2_with fail
              go_ret
              exact ⟨Or.inl ⟨j, unhide HH, rfl⟩, rfl⟩
            · have hb2 : ((s[j].toNat : Int) == 58) = false := u8_ne' (d := 58) h58
              have HH := hide (colon_step hlt (unhide HR) (unhide HD) (fun h => h58 h.2))
              have HZ := hide h0
              clear h0 h58
              go_wp2_with fail
              go_roundw
              case rel => exact ⟨j + 1, d, by omega, by go_num, rfl, by omega, by omega, HH, by trivial⟩
              case measure => simp [RowKit.intOf]; omega
          · have hb : ((d) == 0) = false := beq_f' h0
            have HH := hide (colon_step hlt (unhide HR) (unhide HD) (fun h => h0 h.1))
            clear h0
            go_wp2_with fail
            go_roundw
            case rel => exact ⟨j + 1, d, by omega, by go_num, rfl, by omega, by omega, HH, by trivial⟩
            case measure => simp [RowKit.intOf]; omega

    · have hlt' : ¬ (j : Int) < (s.size : Int) := by omega
      have HH := hide (colon_end hlt (unhide HR))
      go_wp2_with fail
      go_ret
      exact ⟨Or.inr ⟨unhide HH, rfl⟩, rfl⟩
end Go.Proofs.YtknokhbilckmiaaGreatDoor

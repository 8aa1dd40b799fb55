/- The walk of the program's reading of digits. -/
import Derived.Test.YtikiaijgcjjloaaDoorText
namespace Go.Proofs.YtikiaijgcjjloaaDoor
open Go Go.RowKit M Go.Lib

/-- What is read from place st up to place a: nothing yet, or v's numeral. -/
def RInv (s : ByteArray) (st a v : Nat) : Prop := (a = st ∧ v = 0) ∨ (st < a ∧ (s.data.toList.drop st).take (a - st) = decDigits v)

theorem drop_at (s : ByteArray) (a : Nat) (h : a < s.size) : s.data.toList.drop a = s[a] :: s.data.toList.drop (a + 1) := by
  rw [List.drop_eq_getElem_cons (by simpa using h)]; rfl
theorem drop_end (s : ByteArray) (a : Nat) (h : s.size ≤ a) : s.data.toList.drop a = [] := by
  rw [List.drop_eq_nil_iff]; simpa using h

theorem drop_take_succ (s : ByteArray) (st a : Nat) (h : st ≤ a) (ha : a < s.size) : (s.data.toList.drop st).take (a + 1 - st) = (s.data.toList.drop st).take (a - st) ++ [s[a]] := by
  rw [show a + 1 - st = (a - st) + 1 by omega]
  rw [List.take_succ_eq_append_getElem (by simp; omega)]
  congr 2
  rw [List.getElem_drop]
  simp only [show st + (a - st) = a by omega]
  rfl

theorem rinv_push (s : ByteArray) (st a v : Nat) (h : st ≤ a) (ha : a < s.size) (hI : RInv s st a v) (hd : isDig s[a] = true) (hz : a = st ∨ 1 ≤ v) : RInv s st (a + 1) (10 * v + (s[a].toNat - 48)) := by
  refine Or.inr ⟨by omega, ?_⟩
  have h48 := (isDig_iff s[a]).1 hd
  rw [drop_take_succ s st a h ha]
  rcases hI with ⟨rfl, rfl⟩ | ⟨hlt, he⟩
  · rw [Nat.sub_self, List.take_zero, List.nil_append, dec_small _ (by omega)]
    rw [show 48 + (10 * 0 + (s[a].toNat - 48)) = 48 + (s[a].toNat - 48) by omega, ofNat_of_dig _ hd]
  · rw [he, dec_push v _ (by omega) (by omega), ofNat_of_dig _ hd]

theorem rinv_none_zero (s : ByteArray) (st a : Nat) (h : st < a) (ha : a < s.size) (hI : RInv s st a 0) (hd : isDig s[a] = true) : ∀ v r, ¬ DigAt (s.data.toList.drop st) v r := by
  intro v r
  rcases hI with ⟨rfl, _⟩ | ⟨_, he⟩
  · omega
  · refine dig_none_zero _ (a - st) he s[a] ?_ hd v r
    rw [List.drop_drop, show st + (a - st) = a by omega, drop_at s a ha]; rfl
theorem rinv_none_big (s : ByteArray) (st a V : Nat) (h : st < a) (hI : RInv s st a V) (hV : 1000000000 < V) : ∀ v r, ¬ DigAt (s.data.toList.drop st) v r := by
  intro v r
  rcases hI with ⟨rfl, _⟩ | ⟨_, he⟩
  · omega
  · exact dig_none_big _ (a - st) V he hV v r
theorem rinv_done (s : ByteArray) (st a v : Nat) (h : st < a) (hI : RInv s st a v) (hv : v ≤ 1000000000) (hn : ∀ ha : a < s.size, isDig s[a] = false) : DigAt (s.data.toList.drop st) v (s.data.toList.drop a) := by
  rcases hI with ⟨rfl, _⟩ | ⟨_, he⟩
  · omega
  · refine ⟨hv, ?_, ?_⟩
    · rw [← he]
      conv => lhs; rw [← List.take_append_drop (a - st) (s.data.toList.drop st)]
      rw [List.drop_drop, show st + (a - st) = a by omega]
    · intro c hc
      by_cases ha : a < s.size
      · rw [drop_at s a ha] at hc
        simp only [List.head?_cons, Option.some.injEq] at hc
        rw [← hc]; exact hn ha
      · rw [drop_end s a (by omega)] at hc; cases hc
theorem none_first (s : ByteArray) (st : Nat) (hn : ∀ ha : st < s.size, isDig s[st] = false) : ∀ v r, ¬ DigAt (s.data.toList.drop st) v r := by
  refine dig_none_first _ ?_
  intro c hc
  by_cases ha : st < s.size
  · rw [drop_at s st ha] at hc
    simp only [List.head?_cons, Option.some.injEq] at hc
    rw [← hc]; exact hn ha
  · rw [drop_end s st (by omega)] at hc; cases hc

set_option maxRecDepth 100000 in
set_option maxHeartbeats 400000 in
theorem readDigits_any (s : ByteArray) (st : Nat) (w : World) (hs : s.size ≤ maxLen) (hst : st ≤ 9223372036854775807) :
    Calls Tryd.prog 49 #[.string s, .int .i64 st] w fun e w' => ((∃ v a : Nat, DigAt (s.data.toList.drop st) v (s.data.toList.drop a) ∧ st < a ∧ a ≤ s.size ∧ e = .returned (.tuple #[.int .i64 v, .int .i64 a, .bool true])) ∨ ((∀ v r, ¬ DigAt (s.data.toList.drop st) v r) ∧ e = .returned (.tuple #[.int .i64 0, .int .i64 0, .bool false]))) ∧ w' = w := by
  unfold maxLen at hs
  by_cases hlt : st < s.size
  case neg =>
    have HE := hide (none_first s st (fun ha => absurd ha hlt))
    have hlt' : ¬ (st : Int) < s.size := by omega
    go_enter Tryd.func49, Tryd.ntmps49
    go_wp2_with fail
    go_ret3
    exact ⟨Or.inr ⟨unhide HE, rfl⟩, rfl⟩
  have hlt' : (st : Int) < s.size := by omega
  have hge1 : decide ((s.size : Int) ≤ (st : Int)) = false := by simp; omega
  have hge2 : decide (s.size ≤ st) = false := by simp; omega
  cases hd0 : isDig s[st] with
  | false =>
    have HE := hide (none_first s st (fun ha => hd0))
    have HD := hide hd0
    clear hd0
    go_enter Tryd.func49, Tryd.ntmps49
    go_wp2_with fail
    refine (isDigit_any s[st] _).mono ?_
    rintro e w' ⟨rfl, rfl⟩
    rw [unhide HD]
    go_wp2_with fail
    go_ret3
    exact ⟨Or.inr ⟨unhide HE, rfl⟩, rfl⟩
  | true =>
    have HD := hide hd0
    clear hd0
    go_enter Tryd.func49, Tryd.ntmps49
    go_wp2_with fail
    refine (isDigit_any s[st] _).mono ?_
    rintro e w' ⟨rfl, rfl⟩
    rw [unhide HD]
    go_wp2_with fail
    go_loopw [7, 8] (fun x y wx => ∃ v a : Nat, st ≤ a ∧ a ≤ s.size ∧ v ≤ 1000000000 ∧ x = .int .i64 v ∧ y = .int .i64 a ∧ Hid (RInv s st a v) ∧ w = wx) (fun _ y _ => s.size - (RowKit.intOf y).toNat)
    case atStart => exact ⟨0, st, by omega, by omega, by omega, rfl, rfl, Or.inl ⟨rfl, rfl⟩, rfl⟩
    case round =>
      obtain ⟨v, a, h1, h2, h3, rfl, rfl, HI, rfl⟩ := hrel
      by_cases ha : a < s.size
      · cases hd : isDig s[a] with
        | false =>
          have hne : st < a := by
            rcases Nat.lt_or_ge st a with h | h
            · exact h
            · obtain rfl : st = a := by omega
              rw [unhide HD] at hd; cases hd
          have HE := hide (rinv_done s st a v hne (unhide HI) h3 (fun _ => hd))
          have HDa := hide hd
          clear hd
          go_wp2_with fail
          refine (isDigit_any s[a] _).mono ?_
          rintro e w' ⟨rfl, rfl⟩
          rw [unhide HDa]
          go_wp2_with fail
          go_ret3
          exact ⟨Or.inl ⟨v, a, unhide HE, hne, h2, rfl⟩, rfl⟩
        | true =>
          have hr := (isDig_iff s[a]).1 hd
          have HDa := hide hd
          clear hd
          have hr1 : 48 ≤ (s[a].toNat : Int) := by omega
          have hr2 : (s[a].toNat : Int) ≤ 57 := by omega
          go_wp2_with fail
          refine (isDigit_any s[a] _).mono ?_
          rintro e w' ⟨rfl, rfl⟩
          rw [unhide HDa]
          by_cases hz : st < a ∧ v = 0
          · obtain ⟨hz1, rfl⟩ := hz
            have HE := hide (rinv_none_zero s st a hz1 ha (unhide HI) (unhide HDa))
            have hz1' : (st : Int) < a := by omega
            go_wp2_with fail
            go_ret3
            exact ⟨Or.inr ⟨unhide HE, rfl⟩, rfl⟩
          · have HP := hide (rinv_push s st a v h1 ha (unhide HI) (unhide HDa) (by omega))
            have hg : ((st : Int) < a ∧ ((v : Int) == 0) = false) ∨ ¬ (st : Int) < a := by
              by_cases hh : st < a
              · exact Or.inl ⟨by omega, by rw [beq_eq_false_iff_ne]; omega⟩
              · exact Or.inr (by omega)
            by_cases hbig : 1000000000 < (v : Int) * 10 + ((s[a].toNat : Int) - 48)
            · have HE := hide (rinv_none_big s st (a + 1) _ (by omega) (unhide HP) (by omega))
              clear hz
              rcases hg with ⟨hg1, hg2⟩ | hg1
              all_goals
                go_wp2_with fail
                go_ret3
                exact ⟨Or.inr ⟨unhide HE, rfl⟩, rfl⟩
            · clear hz
              rcases hg with ⟨hg1, hg2⟩ | hg1
              all_goals
                go_wp2_with fail
                go_roundw
                case rel => exact ⟨10 * v + (s[a].toNat - 48), a + 1, by omega, by omega, by omega, by congr 1; omega, by go_num, unhide HP, by trivial⟩
                case measure => simp [RowKit.intOf]; omega
      · have HE := hide (rinv_done s st a v (by omega) (unhide HI) h3 (fun h => absurd h ha))
        have ha' : ¬ (a : Int) < s.size := by omega
        go_wp2_with fail
        go_ret3
        exact ⟨Or.inl ⟨v, a, unhide HE, by omega, h2, rfl⟩, rfl⟩
end Go.Proofs.YtikiaijgcjjloaaDoor

/- The walk of the program's reading of a number. -/
import Derived.Test.YtikiaijgcjjloaaDoorDigits
namespace Go.Proofs.YtikiaijgcjjloaaDoor
open Go Go.RowKit M Go.Lib

/-- What readBottom says: behind place st stand a slash and a numeral q of 2 or more, and nothing else. -/
def BotIs (s : ByteArray) (st q : Nat) : Prop := 2 ≤ q ∧ ∃ r, s.data.toList.drop st = 47 :: r ∧ DigAt r q []

theorem bot_none_slash (s : ByteArray) (st : Nat) (hn : ∀ ha : st < s.size, s[st].toNat ≠ 47) (q : Nat) : ¬ BotIs s st q := by
  rintro ⟨_, r, hr, _⟩
  by_cases ha : st < s.size
  · rw [drop_at s st ha] at hr
    simp only [List.cons.injEq] at hr
    exact hn ha (by rw [hr.1]; rfl)
  · rw [drop_end s st (by omega)] at hr; cases hr
theorem bot_of (s : ByteArray) (st : Nat) (ha : st < s.size) (hc : s[st].toNat = 47) (q : Nat) : BotIs s st q ↔ 2 ≤ q ∧ DigAt (s.data.toList.drop (st + 1)) q [] := by
  have hc' : s[st] = 47 := UInt8.toNat_inj.1 hc
  unfold BotIs
  rw [drop_at s st ha, hc']
  constructor
  · rintro ⟨h2, r, hr, hd⟩
    simp only [List.cons.injEq, true_and] at hr
    exact ⟨h2, hr ▸ hd⟩
  · rintro ⟨h2, hd⟩
    exact ⟨h2, _, rfl, hd⟩

set_option maxRecDepth 100000 in
set_option maxHeartbeats 400000 in
theorem readBottom_any (s : ByteArray) (st : Nat) (w : World) (hs : s.size ≤ maxLen) (hst : st ≤ s.size) :
    Calls Tryd.prog 50 #[.string s, .int .i64 st] w fun e w' => ((∃ q : Nat, BotIs s st q ∧ q ≤ 1000000000 ∧ e = .returned (.tuple #[.int .i64 q, .bool true])) ∨ ((∀ q, ¬ BotIs s st q) ∧ e = .returned (.tuple #[.int .i64 0, .bool false]))) ∧ w = w' := by
  have hs' := hs
  unfold maxLen at hs
  by_cases hlt : st < s.size
  case neg =>
    have HE := hide (bot_none_slash s st (fun ha => absurd ha hlt))
    have hlt' : ¬ (st : Int) < s.size := by omega
    go_enter Tryd.func50, Tryd.ntmps50
    go_wp2_with fail
    go_ret2
    exact ⟨Or.inr ⟨unhide HE, rfl⟩, rfl⟩
  have hlt' : (st : Int) < s.size := by omega
  by_cases hc : s[st].toNat = 47
  case neg =>
    have HE := hide (bot_none_slash s st (fun ha => hc))
    have hc' : ((s[st].toNat : Int) != 47) = true := by rw [bne_iff_ne]; omega
    clear hc
    go_enter Tryd.func50, Tryd.ntmps50
    go_wp2_with fail
    go_ret2
    exact ⟨Or.inr ⟨unhide HE, rfl⟩, rfl⟩
  have HB := hide (bot_of s st hlt hc)
  have hc' : ((s[st].toNat : Int) != 47) = false := by rw [bne_eq_false_iff_eq]; omega
  clear hc
  go_enter Tryd.func50, Tryd.ntmps50
  go_wp2_with fail
  rw [show ((st : Int) + 1) = ((st + 1 : Nat) : Int) from by omega]
  refine (readDigits_any s (st + 1) _ hs' (by omega)).mono ?_
  rintro e w' ⟨⟨v, a, hD, ha1, ha2, rfl⟩ | ⟨hN, rfl⟩, rfl⟩
  · have HD := hide hD
    have hv := hD.le
    clear hD
    by_cases hok : a = s.size ∧ 2 ≤ v
    · obtain ⟨rfl, hv2⟩ := hok
      have HE := hide (((unhide HB) v).2 ⟨hv2, by have := unhide HD; rwa [drop_end s s.size (Nat.le_refl _)] at this⟩)
      go_wp2_with fail
      go_ret2
      exact ⟨Or.inl ⟨v, unhide HE, hv, rfl⟩, rfl⟩
    · have HE : Hid (∀ q, ¬ BotIs s st q) := by
        intro q hq
        obtain ⟨h2, hd⟩ := ((unhide HB) q).1 hq
        obtain ⟨rfl, hr⟩ := hd.unique (unhide HD)
        apply hok
        refine ⟨?_, h2⟩
        rcases Nat.lt_or_ge a s.size with h | h
        · rw [drop_at s a h] at hr; cases hr
        · omega
      by_cases hae : a = s.size
      · have hv2 : (v : Int) < 2 := by omega
        have hae' : ((a : Int) != s.size) = false := by rw [bne_eq_false_iff_eq]; omega
        clear hok hae
        go_wp2_with fail
        go_ret2
        exact ⟨Or.inr ⟨unhide HE, rfl⟩, rfl⟩
      · have hae' : ((a : Int) != s.size) = true := by rw [bne_iff_ne]; omega
        clear hok hae
        go_wp2_with fail
        go_ret2
        exact ⟨Or.inr ⟨unhide HE, rfl⟩, rfl⟩
  · have HE : Hid (∀ q, ¬ BotIs s st q) := by
      intro q hq
      obtain ⟨h2, hd⟩ := ((unhide HB) q).1 hq
      exact hN _ _ hd
    clear hN
    go_wp2_with fail
    go_ret2
    exact ⟨Or.inr ⟨unhide HE, rfl⟩, rfl⟩
end Go.Proofs.YtikiaijgcjjloaaDoor

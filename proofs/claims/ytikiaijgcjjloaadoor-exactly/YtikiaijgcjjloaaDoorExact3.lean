/- The walk of the statement Exactly: the whole. -/
import Derived.Test.YtikiaijgcjjloaaDoorExact2
namespace Go.Proofs.YtikiaijgcjjloaaDoor
open Go Go.RowKit M Go.Lib

theorem pick_m1 (x : Int) (w : World) (h1 : -9223372036854775808 ≤ x) (h2 : x ≤ 9223372036854775807) :
    Calls Tryd.prog 19 #[.int .i64 x, .int .i64 1000000001] w fun e w' => (∃ r : Nat, r ≤ 1000000000 ∧ e = .returned (.int .i64 r)) ∧ w = w' :=
  (pick_any x 1000000001 w h1 h2 (by omega) (by omega)).mono fun _ _ ⟨⟨r, hr, he⟩, hw⟩ => ⟨⟨r, by omega, he⟩, hw⟩
theorem pick_m (x : Int) (w : World) (h1 : -9223372036854775808 ≤ x) (h2 : x ≤ 9223372036854775807) :
    Calls Tryd.prog 19 #[.int .i64 x, .int .i64 1000000000] w fun e w' => (∃ r : Nat, r < 1000000000 ∧ e = .returned (.int .i64 r)) ∧ w = w' :=
  pick_any x 1000000000 w h1 h2 (by omega) (by omega)

/-- All that the statement asks of the number p over q and of the texts about it. -/
structure Setting (p q : Nat) (N L V S : ByteArray) (R : ByteArray) : Prop where
  sN : N.size ≤ maxLen
  sL : L.size ≤ maxLen
  sV : V.size ≤ maxLen
  sS : p ≤ 31622 → q ≤ 31622 → S.size ≤ maxLen
  plus : ∀ r c, Says2 SumF N L r c → r = [48] ∧ c = 0
  one : ∀ r c, Says2 ProdF N ⟨#[49]⟩ r c → (⟨List.toArray r⟩ : ByteArray) = N ∧ c = 0
  over0 : p = 0 → ∀ r c, (((∀ t b, ¬ IsNum N.data.toList t b) ∧ r = [] ∧ c = 1) ∨ ∃ t b, IsNum N.data.toList t b ∧ OverF t b r c) → r = [] ∧ c = 2
  over1 : 1 ≤ p → ∀ r c, (((∀ t b, ¬ IsNum N.data.toList t b) ∧ r = [] ∧ c = 1) ∨ ∃ t b, IsNum N.data.toList t b ∧ OverF t b r c) → (⟨List.toArray r⟩ : ByteArray) = V ∧ c = 0
  inv : 1 ≤ p → ∀ r c, Says2 ProdF N V r c → r = [49] ∧ c = 0
  sqNo : (31622 < p ∨ 31622 < q) → ∀ r c, Says2 ProdF N N r c → r = [] ∧ c = 3
  sq : p ≤ 31622 → q ≤ 31622 → ∀ r c, Says2 ProdF N N r c → (⟨List.toArray r⟩ : ByteArray) = S ∧ c = 0
  root : p ≤ 31622 → q ≤ 31622 → ∀ r c, (((∀ t b, ¬ IsNum S.data.toList t b) ∧ r = [] ∧ c = 1) ∨ ∃ t b, IsNum S.data.toList t b ∧ RootF t b r c) → (⟨List.toArray r⟩ : ByteArray) = R ∧ c = 0

theorem setting (n : Bool) (p q : Nat) (hp : p ≤ 1000000000) (h1 : 1 ≤ q) (hq : q ≤ 1000000000) (hg : Nat.gcd p q = 1) :
    Setting p q (num (tt n p) q) (num (tt (!n) p) q) (num (tt n q) p) (num ((p * p : Nat) : Int) ((q * q : Nat) : Int)) (num (tt false p) q) := by
  have b1 := tt_bd n p hp
  have b2 := tt_bd (!n) p hp
  have b3 := tt_bd n q hq
  refine ⟨num_size _ _ b1.1 b1.2 (by omega), num_size _ _ b2.1 b2.2 (by omega), num_size _ _ b3.1 b3.2 (by omega), ?_, ?_, ?_, ?_, ?_, ?_, ?_, ?_, ?_⟩
  · intro h2 h3
    have := sq_small p h2
    have := sq_small q h3
    exact num_size _ _ (by omega) (by omega) (by omega)
  · intro r c h; exact x_plus n p q hp h1 hq hg h
  · intro r c h
    obtain ⟨rfl, rfl⟩ := x_one n p q hp h1 hq hg h
    exact ⟨rfl, rfl⟩
  · intro h0 r c h
    subst h0
    exact x_over0 n q h1 hq hg h
  · intro h0 r c h
    obtain ⟨rfl, rfl⟩ := x_over n p q h0 hp h1 hq hg h
    exact ⟨rfl, rfl⟩
  · intro h0 r c h; exact x_inv n p q h0 hp h1 hq hg h
  · intro hb r c h; exact x_sq_no n p q hp h1 hq hg hb h
  · intro h2 h3 r c h
    obtain ⟨rfl, rfl⟩ := x_sq n p q h1 hg h2 h3 h
    exact ⟨rfl, rfl⟩
  · intro h2 h3 r c h
    obtain ⟨rfl, rfl⟩ := x_root p q h1 hg h2 h3 h
    exact ⟨rfl, rfl⟩

theorem lowest_pair (P Q : Nat) (hP : P ≤ 1000000000) (h1 : 1 ≤ Q) (hQ : Q ≤ 1000000000) : 1 ≤ Nat.gcd P Q ∧ P / Nat.gcd P Q ≤ 1000000000 ∧ 1 ≤ Q / Nat.gcd P Q ∧ Q / Nat.gcd P Q ≤ 1000000000 ∧ Nat.gcd (P / Nat.gcd P Q) (Q / Nat.gcd P Q) = 1 := by
  have hg : 0 < Nat.gcd P Q := Nat.gcd_pos_of_pos_right _ (by omega)
  refine ⟨hg, ?_, ?_, ?_, ?_⟩
  · have := Nat.div_le_self P (Nat.gcd P Q); omega
  · exact Nat.div_pos (Nat.gcd_le_right _ (by omega)) hg
  · have := Nat.div_le_self Q (Nat.gcd P Q); omega
  · rw [Nat.gcd_div (Nat.gcd_dvd_left P Q) (Nat.gcd_dvd_right P Q)]
    exact Nat.div_self hg

set_option maxRecDepth 100000 in
set_option maxHeartbeats 1000000 in
theorem exactly_walk (a b : Int) (n : Bool) (w : World) (ha1 : -9223372036854775808 ≤ a) (ha2 : a ≤ 9223372036854775807) (hb1 : -9223372036854775808 ≤ b) (hb2 : b ≤ 9223372036854775807) (ht : Tab w) :
    Calls Tryd.prog 7 #[.int .i64 a, .int .i64 b, .bool n] w fun e w' => e = .returned (.bool true) ∧ Below w.heap.size w w' := by
  have HT := hide ht
  clear ht
  go_enter Tryd.func7, Tryd.ntmps7
  go_wp2_with fail
  refine (pick_m1 a _ ha1 ha2).mono ?_
  rintro e w0 ⟨⟨P, hP, rfl⟩, rfl⟩
  go_wp2_with fail
  refine (pick_m b _ hb1 hb2).mono ?_
  rintro e w0 ⟨⟨Q0, hQ0, rfl⟩, rfl⟩
  clear ha1 ha2 hb1 hb2
  obtain ⟨Q, hQe⟩ : ∃ Q : Nat, Q = 1 + Q0 := ⟨_, rfl⟩
  have HQ : Hid ((1 : Int) + (Q0 : Int) = (Q : Int)) := by show _ = _; omega
  have hQ1 : 1 ≤ Q := by omega
  have hQ2 : Q ≤ 1000000000 := by omega
  clear hQe
  go_wp2_with fail
  rw [unhide HQ]
  clear HQ hQ0
  refine (gcd_any P Q _ (by omega) (by omega)).mono ?_
  rintro e w0 ⟨rfl, rfl⟩
  obtain ⟨g1, p1, q1, q2, hg⟩ := lowest_pair P Q hP hQ1 hQ2
  have d1 := div_bd P (Nat.gcd P Q) (by omega)
  have d2 := div_bd Q (Nat.gcd P Q) (by omega)
  have HS := hide (setting n (P / Nat.gcd P Q) (Q / Nat.gcd P Q) p1 q1 q2 hg)
  generalize Nat.gcd P Q = g at *
  obtain ⟨p, hp⟩ : ∃ p : Nat, p = P / g := ⟨_, rfl⟩
  obtain ⟨q, hq⟩ : ∃ q : Nat, q = Q / g := ⟨_, rfl⟩
  rw [← hp, ← hq] at HS
  rw [← hp] at p1
  rw [← hq] at q1 q2
  have E1 : Hid ((P : Int) / (g : Int) = (p : Int)) := by show _ = _; rw [hp, Int.natCast_ediv]
  have E2 : Hid ((Q : Int) / (g : Int) = (q : Int)) := by show _ = _; rw [hq, Int.natCast_ediv]
  clear hp hq hg
  go_wp2_with fail
  rw [unhide E1, unhide E2]
  clear E1 E2 d1 d2 g1 hP hQ1 hQ2
  refine (ktext_any p q n _ p1 q2 (unhide HT)).mono ?_
  rintro e w1 ⟨rfl, c1⟩
  have HT1 := hide (tab_below (unhide HT) c1)
  go_wp2_with fail
  refine (ktext_any p q (!n) _ p1 q2 (unhide HT1)).mono ?_
  rintro e w2 ⟨rfl, c2⟩
  have HT2 := hide (tab_below (unhide HT1) c2)
  have C2 := hide (c1.trans (c2.mono c1.size))
  clear c1 c2 HT1
  obtain ⟨N, hN⟩ : ∃ N, N = num (tt n p) q := ⟨_, rfl⟩
  obtain ⟨L, hL⟩ : ∃ L, L = num (tt (!n) p) q := ⟨_, rfl⟩
  obtain ⟨V, hV⟩ : ∃ V, V = num (tt n q) p := ⟨_, rfl⟩
  obtain ⟨S, hS⟩ : ∃ S, S = num ((p * p : Nat) : Int) ((q * q : Nat) : Int) := ⟨_, rfl⟩
  obtain ⟨R, hR⟩ : ∃ R, R = num (tt false p) q := ⟨_, rfl⟩
  rw [← hN, ← hL, ← hV, ← hS, ← hR] at HS
  rw [← hN, ← hL]
  have EV := hide hV
  have ER := hide hR
  clear hN hL hV hS hR
  go_wp2_with fail
  refine (Plus_any N L _ (unhide HS).sN (unhide HS).sL (unhide HT2)).mono ?_
  rintro e w3 ⟨⟨r, c, rfl, hs⟩, c3⟩
  obtain ⟨rfl, rfl⟩ := (unhide HS).plus r c hs
  clear hs
  have HT3 := hide (tab_below (unhide HT2) c3)
  have C3 := hide ((unhide C2).trans (c3.mono (unhide C2).size))
  clear c3 HT2 C2
  go_wp2_with fail
  refine (Times_any N ⟨#[49]⟩ _ (unhide HS).sN (by decide) (unhide HT3)).mono ?_
  rintro e w4 ⟨⟨r, c, rfl, hs⟩, c4⟩
  obtain ⟨hr, rfl⟩ := (unhide HS).one r c hs
  rw [hr]
  clear hs hr r
  have HT4 := hide (tab_below (unhide HT3) c4)
  have C4 := hide ((unhide C3).trans (c4.mono (unhide C3).size))
  clear c4 HT3 C3
  go_wp2_with fail
  refine (Over_any N _ (unhide HS).sN (unhide HT4)).mono ?_
  rintro e w5 ⟨⟨r, c, rfl, hs⟩, c5⟩
  have HT5 := hide (tab_below (unhide HT4) c5)
  have C5 := hide ((unhide C4).trans (c5.mono (unhide C4).size))
  clear c5 HT4 C4
  by_cases hp0 : p = 0
  · obtain ⟨rfl, rfl⟩ := (unhide HS).over0 hp0 r c hs
    have hz : ((p : Int) == 0) = true := by rw [beq_iff_eq]; omega
    clear hs hp0 HS EV ER
    go_wp2_with fail
    go_ret
    exact ⟨rfl, unhide C5⟩
  have hp1 : 1 ≤ p := by omega
  have hz : ((p : Int) == 0) = false := by rw [beq_eq_false_iff_ne]; omega
  obtain ⟨hr, rfl⟩ := (unhide HS).over1 hp1 r c hs
  rw [hr]
  clear hs hr hp0 r
  go_wp2_with fail
  refine (Times_any N V _ (unhide HS).sN (unhide HS).sV (unhide HT5)).mono ?_
  rintro e w6 ⟨⟨r, c, rfl, hs⟩, c6⟩
  obtain ⟨rfl, rfl⟩ := (unhide HS).inv hp1 r c hs
  clear hs
  have HT6 := hide (tab_below (unhide HT5) c6)
  have C6 := hide ((unhide C5).trans (c6.mono (unhide C5).size))
  clear c6 HT5 C5
  go_wp2_with fail
  refine (ktext_any q p n _ q2 p1 (unhide HT6)).mono ?_
  rintro e w7 ⟨rfl, c7⟩
  rw [← unhide EV]
  have HT7 := hide (tab_below (unhide HT6) c7)
  have C7 := hide ((unhide C6).trans (c7.mono (unhide C6).size))
  clear c7 HT6 C6 EV
  go_wp2_with fail
  refine (Times_any N N _ (unhide HS).sN (unhide HS).sN (unhide HT7)).mono ?_
  rintro e w8 ⟨⟨r, c, rfl, hs⟩, c8⟩
  have HT8 := hide (tab_below (unhide HT7) c8)
  have C8 := hide ((unhide C7).trans (c8.mono (unhide C7).size))
  clear c8 HT7 C7
  by_cases hb : 31622 < p ∨ 31622 < q
  · obtain ⟨rfl, rfl⟩ := (unhide HS).sqNo hb r c hs
    clear hs
    by_cases hb1 : 31622 < (p : Int)
    · clear hb HS
      go_wp2_with fail
      go_ret
      exact ⟨rfl, unhide C8⟩
    · have hb2 : 31622 < (q : Int) := by omega
      clear hb HS
      go_wp2_with fail
      go_ret
      exact ⟨rfl, unhide C8⟩
  have hb1 : p ≤ 31622 := by omega
  have hb2 : q ≤ 31622 := by omega
  have hb3 : ¬ 31622 < (p : Int) := by omega
  have hb4 : ¬ 31622 < (q : Int) := by omega
  clear hb
  obtain ⟨hr, rfl⟩ := (unhide HS).sq hb1 hb2 r c hs
  rw [hr]
  clear hs hr r
  go_wp2_with fail
  refine (Root_any S _ ((unhide HS).sS hb1 hb2) (unhide HT8)).mono ?_
  rintro e w9 ⟨⟨r, c, rfl, hs⟩, c9⟩
  obtain ⟨hr, rfl⟩ := (unhide HS).root hb1 hb2 r c hs
  rw [hr]
  clear hs hr r
  have HT9 := hide (tab_below (unhide HT8) c9)
  have C9 := hide ((unhide C8).trans (c9.mono (unhide C8).size))
  clear c9 HT8 C8
  go_wp2_with fail
  refine (ktext_any p q false _ p1 q2 (unhide HT9)).mono ?_
  rintro e w10 ⟨rfl, c10⟩
  rw [← unhide ER]
  go_wp2_with fail
  go_ret
  exact ⟨rfl, (unhide C9).trans (c10.mono (unhide C9).size)⟩
end Go.Proofs.YtikiaijgcjjloaaDoor

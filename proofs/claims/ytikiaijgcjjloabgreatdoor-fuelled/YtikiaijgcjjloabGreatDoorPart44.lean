import Derived.Test.YtikiaijgcjjloabGreatDoorPart39

/- The walk of unwindkeep.Fuelled. -/
namespace Go.Proofs.YtikiaijgcjjloabGreatDoor
open Go Go.RowKit M T Go.Lib

set_option maxRecDepth 100000 in
set_option maxHeartbeats 3200000 in
theorem fuelled_walk {w : World} (s : ByteArray) {ra : Option Addr} {rn rc : Nat} {raw : Nat → Int} (fuel : Int) (hk1 : -9223372036854775808 ≤ fuel) (hk2 : fuel ≤ 9223372036854775807) (hr : RawIs w ra rn raw) (hn : rn ≤ 140737488355328) (ht : Tab w) :
    Calls Tryz.prog 6 #[.string s, .slice ra rn rc, .int .i64 fuel] w fun e w' => e = .returned (.bool true) ∧ Below w.heap.size w w' := by
  have HR := hide hr
  have HT := hide ht
  clear hr ht
  go_enter Tryz.func6, Tryz.ntmps6
  go_wp2_with fail
  refine (ready_any _ (unhide HT)).mono ?_
  rintro e w1 ⟨xb, rfl, hses, hb1⟩
  have HS := hide hses
  have HB1 := hide hb1
  clear hses hb1
  go_wp2_with fail
  refine (facts_any s _ (unhide HS)).mono ?_
  rintro e w2 ⟨n0, c0, rfl, hf, hb2⟩
  have HF := hide hf
  have HS2 := hide ((unhide HS).below hb2)
  have HB2 := hide ((unhide HB1).trans (hb2.mono (unhide HB1).size))
  clear hf hb2
  by_cases hc : c0 = 0
  · subst hc
    go_wp2_with fail
    refine (listed_any ((unhide HR).below (unhide HB2)) hn (tab_below (unhide HT) (unhide HB2))).mono ?_
    rintro e w3 ⟨L, hL, rfl, hb3⟩
    have HL := hide hL
    have HS3 := hide ((unhide HS2).below hb3)
    have HB3 := hide ((unhide HB2).trans (hb3.mono (unhide HB2).size))
    have hls := list_len hL
    clear hL hb3
    generalize listText L = lt at HL hls
    have hlz : (⟨lt.toArray⟩ : ByteArray).size ≤ 9223372036854775807 := by rw [bytes_size]; omega
    go_wp2_with fail
    refine (kpick_any fuel 5001 _ hk1 hk2 (by omega) (by omega)).mono ?_
    rintro e w3' ⟨rfl, rfl⟩
    have hq := (kpick_val fuel (n := 5001) (by omega)).2.2
    generalize kpickN fuel 5001 = q at hq
    go_wp2_with fail
    refine (apply_any s ⟨lt.toArray⟩ (q : Int) _ (unhide HS3) (tab_below (unhide HT) (unhide HB3)) hlz).mono ?_
    rintro e w4 ⟨l, n, f, rfl, ha, hb4⟩
    have HA := hide ha
    have HS4 := hide ((unhide HS3).below hb4)
    have HB4 := hide ((unhide HB3).trans (hb4.mono (unhide HB3).size))
    clear ha hb4
    by_cases hfe : f = 0
    · subst hfe
      obtain ⟨q1, q2, q3, q4, q5, q6, q7⟩ := k_fuelled_ok (unhide HA) rfl
      have HQ6 := hide (fun (r : List UInt8) (m g : Int) (h : ApplySays T.noEnv s.data.toList lt n r m g) => q6 h)
      have HQ7 := hide (fun (hn : n ≠ 0) (r : List UInt8) (m g : Int) (h : ApplySays T.noEnv s.data.toList lt (n - 1) r m g) => q7 hn h)
      clear q6 q7
      have hn1 : ¬ (q : Int) < n := by omega
      have hn2 : ¬ n < 0 := by omega
      by_cases hn0 : n = 0
      · have hse := empty_yes (q4.1 hn0)
        obtain rfl : l = lt := q5 hn0
        subst hn0
        clear q1 q2 q3 q4 q5
        go_wp2_with fail
        refine (apply_any s ⟨l.toArray⟩ 0 _ (unhide HS4) (tab_below (unhide HT) (unhide HB4)) hlz).mono ?_
        rintro e w5 ⟨r, m, g, rfl, hb, hb5⟩
        obtain ⟨rfl, rfl, rfl⟩ := unhide HQ6 _ _ _ hb
        have HB5 := hide ((unhide HB4).trans (hb5.mono (unhide HB4).size))
        clear hb hb5
        go_wp2_with fail
        go_ret
        exact ⟨rfl, unhide HB5⟩
      · have hse := empty_no (fun e => hn0 (q4.2 e))
        have hn0' : (n == 0) = false := by rw [beq_eq_false_iff_ne]; exact hn0
        have hn3 : 0 < n := by omega
        clear q1 q2 q4 q5
        go_wp2_with fail
        refine (apply_any s ⟨lt.toArray⟩ n _ (unhide HS4) (tab_below (unhide HT) (unhide HB4)) hlz).mono ?_
        rintro e w5 ⟨r, m, g, rfl, hb, hb5⟩
        obtain ⟨rfl, rfl, rfl⟩ := unhide HQ6 _ _ _ hb
        have HS5 := hide ((unhide HS4).below hb5)
        have HB5 := hide ((unhide HB4).trans (hb5.mono (unhide HB4).size))
        clear hb hb5
        go_wp2_with fail
        refine (apply_any s ⟨lt.toArray⟩ (m - 1) _ (unhide HS5) (tab_below (unhide HT) (unhide HB5)) hlz).mono ?_
        rintro e w6 ⟨r2, m2, g2, rfl, hb, hb6⟩
        obtain ⟨rfl, rfl, rfl⟩ := unhide HQ7 hn0 _ _ _ hb
        have HB6 := hide ((unhide HB5).trans (hb6.mono (unhide HB5).size))
        clear hb hb6
        go_wp2_with fail
        go_ret
        exact ⟨rfl, unhide HB6⟩
    · obtain ⟨rfl, rfl, hsne⟩ := k_fuelled_err (unhide HF) (unhide HL) (by omega) (by omega) (unhide HA) hfe
      have hse := empty_no hsne
      have hfe' : (f != 0) = true := by rw [bne_iff_ne]; exact hfe
      clear hsne
      go_wp2_with fail
      go_ret
      exact ⟨rfl, unhide HB4⟩
  · have hc' : (c0 != 0) = true := by rw [bne_iff_ne]; exact hc
    go_wp2_with fail
    go_ret
    exact ⟨rfl, unhide HB2⟩
end Go.Proofs.YtikiaijgcjjloabGreatDoor

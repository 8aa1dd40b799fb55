import Derived.Test.YtikiaijgcjjloaaGreatDoorPart36

/- The walks of the law on terms: asked, pick. -/
namespace Go.Proofs.YtikiaijgcjjloaaGreatDoor
open Go Go.RowKit M T Go.Lib

theorem tnum_any (c : Int) (w : World) : Calls Tryz.prog 40 #[.int .i64 c] w fun e w' => e = .returned (.int .i64 c) ∧ w = w' := by
  go_enter Tryz.func40, Tryz.ntmps40
  go_wp2
  go_ret
  exact ⟨rfl, rfl⟩

theorem rem_bd (c n : Int) (h0 : 0 ≤ c) (hn : 0 < n) : 0 ≤ c.tmod n ∧ c.tmod n < n := ⟨Int.tmod_nonneg n h0, Int.tmod_lt_of_pos c hn⟩
/-- Which of n things a number speaks of. -/
def pickN (c : Int) (n : Nat) : Nat := if c < 0 then (-((c + 1).tmod n)).toNat else (c % (n : Int)).toNat
theorem pickN_neg {c : Int} {n : Nat} (h : c < 0) (hn : 0 < n) : ((pickN c n : Nat) : Int) = -((c + 1).tmod n) ∧ pickN c n < n := by
  have hx := rem_bd (-(c + 1)) n (by omega) (by omega)
  rw [Int.neg_tmod] at hx
  unfold pickN
  rw [if_pos h]
  omega
theorem pickN_pos {c : Int} {n : Nat} (h : ¬ c < 0) (hn : 0 < n) : ((pickN c n : Nat) : Int) = c % (n : Int) ∧ pickN c n < n := by
  have h1 := Int.emod_nonneg c (b := (n : Int)) (by omega)
  have h2 := Int.emod_lt_of_pos c (b := (n : Int)) (by omega)
  unfold pickN
  rw [if_neg h]
  omega
theorem pickN_lt (c : Int) {n : Nat} (hn : 0 < n) : pickN c n < n := by
  by_cases h : c < 0
  · exact (pickN_neg h hn).2
  · exact (pickN_pos h hn).2
theorem ret_i64 {x y : Int} (h : y = x) : (.returned (.int .i64 x) : Ending) = .returned (.int .i64 y) := by rw [h]
set_option maxRecDepth 100000 in
set_option maxHeartbeats 400000 in
theorem pick_any (c : Int) (n : Nat) (w : World) (h1 : -9223372036854775808 ≤ c) (h2 : c ≤ 9223372036854775807) (hn : 0 < n) (hm : n ≤ 9223372036854775807) :
    Calls Tryz.prog 26 #[.int .i64 c, .int .i64 (n : Int)] w fun e w' => e = .returned (.int .i64 ((pickN c n : Nat) : Int)) ∧ w = w' := by
  have hz : ((n : Int) == 0) = false := by rw [beq_eq_false_iff_ne]; omega
  by_cases h0 : c < 0
  · have HX := hide (pickN_neg h0 hn).1
    go_enter Tryz.func26, Tryz.ntmps26
    go_wp2_with fail
    go_ret
    exact ⟨ret_i64 (unhide HX), rfl⟩
  · have HX := hide (pickN_pos h0 hn).1
    go_enter Tryz.func26, Tryz.ntmps26
    go_wp2_with fail
    go_ret
    exact ⟨ret_i64 (unhide HX), rfl⟩

set_option maxRecDepth 100000 in
set_option maxHeartbeats 1600000 in
theorem asked_facts {w : World} {xb rb : Nat} {nm : Nat → Option Nat} {v : Value} {ds : List D} (hs : SesIs w xb nm (envOf ds)) (hr : RSes w rb v ds) (hl : ds.length ≤ maxLen) (On Aa : Int) (S X : ByteArray) :
    Calls Tryz.prog 25 #[.agg #[.pointer (some ⟨xb, 0, none⟩), .pointer (some ⟨rb, 0, none⟩)], .agg #[.int .i64 7, .int .i64 On, .int .i64 Aa, .string S, .string X]] w fun e w' => e = .returned (.bool true) ∧ Below w.heap.size w w' := by
  have HS := hide hs
  have HR := hide hr
  clear hs hr
  go_enter Tryz.func25, Tryz.ntmps25
  go_wp2_with fail
  have hb0 : Below w.heap.size w ((w.alloc (.cells #[.pointer (some ⟨xb, 0, none⟩), .pointer (some ⟨rb, 0, none⟩)] 51)).alloc (.cells #[.int .i64 7, .int .i64 On, .int .i64 Aa, .string S, .string X] 54)) := ((Below.refl _ _).alloc (Nat.le_refl _) _).alloc (by simp) _
  refine (facts_any S _ ((unhide HS).below hb0)).mono ?_
  rintro e w1 ⟨n, c, rfl, hf, hb1⟩
  have c0 : w1.cell? ⟨w.heap.size, 1, none⟩ = some (.pointer (some ⟨rb, 0, none⟩)) := (hb1.cell (p := ⟨w.heap.size, 1, none⟩) (by simp; omega)).trans (by simp [go_sem])
  have c1 : w1.cell? ⟨w.heap.size + 1, 3, none⟩ = some (.string S) := (hb1.cell (p := ⟨w.heap.size + 1, 3, none⟩) (by simp)).trans (by simp [go_sem])
  have HF := hide hf
  have HB1 := hide (hb0.trans (hb1.mono hb0.size))
  clear hf hb1 hb0
  go_wp2_with fail
  refine (rFacts_any (parts_all 1000) (facts_all 1000) S _ ((unhide HR).below (unhide HB1)) hl).mono ?_
  rintro e w2 ⟨n', c', rfl, hf', hb2⟩
  obtain ⟨rfl, rfl⟩ := (unhide HF).unique hf'
  have HB2 := hide ((unhide HB1).trans (hb2.mono (unhide HB1).size))
  clear hf' hb2 c0 c1 HF
  go_wp2_with fail
  refine (tnum_any c _).mono ?_
  rintro e w3 ⟨rfl, rfl⟩
  go_wp2_with fail
  go_ret
  exact ⟨rfl, unhide HB2⟩

set_option maxRecDepth 100000 in
set_option maxHeartbeats 1600000 in
theorem asked_opp {w : World} {xb rb : Nat} {nm : Nat → Option Nat} {v : Value} {ds : List D} (hs : SesIs w xb nm (envOf ds)) (hr : RSes w rb v ds) (hl : ds.length ≤ maxLen) (ht : Tab w) (On Aa : Int) (S X : ByteArray) :
    Calls Tryz.prog 25 #[.agg #[.pointer (some ⟨xb, 0, none⟩), .pointer (some ⟨rb, 0, none⟩)], .agg #[.int .i64 8, .int .i64 On, .int .i64 Aa, .string S, .string X]] w fun e w' => e = .returned (.bool true) ∧ Below w.heap.size w w' := by
  have HS := hide hs
  have HR := hide hr
  have HT := hide ht
  clear hs hr ht
  go_enter Tryz.func25, Tryz.ntmps25
  go_wp2_with fail
  have hb0 : Below w.heap.size w ((w.alloc (.cells #[.pointer (some ⟨xb, 0, none⟩), .pointer (some ⟨rb, 0, none⟩)] 51)).alloc (.cells #[.int .i64 8, .int .i64 On, .int .i64 Aa, .string S, .string X] 54)) := ((Below.refl _ _).alloc (Nat.le_refl _) _).alloc (by simp) _
  refine (opposite_any S _ ((unhide HS).below hb0) (tab_below (unhide HT) hb0)).mono ?_
  rintro e w1 ⟨n, c, rfl, hf, hb1⟩
  have c0 : w1.cell? ⟨w.heap.size, 1, none⟩ = some (.pointer (some ⟨rb, 0, none⟩)) := (hb1.cell (p := ⟨w.heap.size, 1, none⟩) (by simp; omega)).trans (by simp [go_sem])
  have c1 : w1.cell? ⟨w.heap.size + 1, 3, none⟩ = some (.string S) := (hb1.cell (p := ⟨w.heap.size + 1, 3, none⟩) (by simp)).trans (by simp [go_sem])
  have HF := hide hf
  have HB1 := hide (hb0.trans (hb1.mono hb0.size))
  clear hf hb1 hb0
  go_wp2_with fail
  refine (rOpposite_any S _ ((unhide HR).below (unhide HB1)) hl).mono ?_
  rintro e w2 ⟨n', c', rfl, hf', hb2⟩
  obtain ⟨rfl, rfl⟩ := (unhide HF).unique hf'
  have HB2 := hide ((unhide HB1).trans (hb2.mono (unhide HB1).size))
  clear hf' hb2 c0 c1 HF
  go_wp2_with fail
  refine (tnum_any c _).mono ?_
  rintro e w3 ⟨rfl, rfl⟩
  go_wp2_with fail
  go_ret
  exact ⟨rfl, unhide HB2⟩

set_option maxRecDepth 100000 in
set_option maxHeartbeats 1600000 in
theorem asked_def {w : World} {xb rb : Nat} {nm : Nat → Option Nat} {v : Value} {ds : List D} (hs : SesIs w xb nm (envOf ds)) (hr : RSes w rb v ds) (hl : (ds.length + 1) * 32 ≤ 140737488355328) (On Aa : Int) (S X : ByteArray) :
    Calls Tryz.prog 25 #[.agg #[.pointer (some ⟨xb, 0, none⟩), .pointer (some ⟨rb, 0, none⟩)], .agg #[.int .i64 6, .int .i64 On, .int .i64 Aa, .string S, .string X]] w fun e w' => e = .returned (.bool true) ∧ ∃ w0 w1 nm' v' ds', Below w.heap.size w w0 ∧ SesIs w1 xb nm' (envOf ds') ∧ But xb w0 w1 ∧ RPut w1 rb v ds v' ds' w' := by
  have hxl := lt_of_block hs.blk
  have HS := hide hs
  have HR := hide hr
  clear hs hr
  go_enter Tryz.func25, Tryz.ntmps25
  go_wp2_with fail
  have hb0 : Below w.heap.size w ((w.alloc (.cells #[.pointer (some ⟨xb, 0, none⟩), .pointer (some ⟨rb, 0, none⟩)] 51)).alloc (.cells #[.int .i64 6, .int .i64 On, .int .i64 Aa, .string S, .string X] 54)) := ((Below.refl _ _).alloc (Nat.le_refl _) _).alloc (by simp) _
  have hs0 := (unhide HS).below hb0
  refine (define_any S X _ hs0).mono ?_
  rintro e w1 ⟨c, env', nm', rfl, hf, hs1, hb1⟩
  have c0 : w1.cell? ⟨w.heap.size, 1, none⟩ = some (.pointer (some ⟨rb, 0, none⟩)) := (hb1.cell (p := ⟨w.heap.size, 1, none⟩) (by simp; omega) (by show w.heap.size ≠ xb; omega)).trans (by simp [go_sem])
  have c1 : w1.cell? ⟨w.heap.size + 1, 3, none⟩ = some (.string S) := (hb1.cell (p := ⟨w.heap.size + 1, 3, none⟩) (by simp) (by show w.heap.size + 1 ≠ xb; omega)).trans (by simp [go_sem])
  have c2 : w1.cell? ⟨w.heap.size + 1, 4, none⟩ = some (.string X) := (hb1.cell (p := ⟨w.heap.size + 1, 4, none⟩) (by simp) (by show w.heap.size + 1 ≠ xb; omega)).trans (by simp [go_sem])
  have hr0 := (unhide HR).below hb0
  have hr1 : RSes w1 rb v ds := hr0.but hs0.blk hb1
  have HF := hide hf
  have HS1 := hide hs1
  have HB0 := hide hb0
  have HB1 := hide hb1
  have HR1 := hide hr1
  clear hf hb1 hb0 hs0 hr0 hs1 hr1
  go_wp2_with fail
  refine (rDefine_any (parts_all 1000) (facts_all 1000) S X _ (unhide HR1) hl).mono ?_
  rintro e w2 ⟨c', v', ds', rfl, hf', hp⟩
  obtain ⟨rfl, rfl⟩ := (unhide HF).unique hf'
  have HP := hide hp
  clear hf' hp c0 c1 c2 HF
  go_wp2_with fail
  refine (tnum_any c _).mono ?_
  rintro e w3 ⟨rfl, rfl⟩
  go_wp2_with fail
  go_ret
  exact ⟨rfl, _, w1, nm', v', ds', unhide HB0, unhide HS1, unhide HB1, unhide HP⟩

/-- What a question to a pair of sessions leaves. -/
def AskGot (n0 m : Nat) (ts : List Twn) (w w' : World) : Prop := ∃ ts', Tws n0 (m + 1) w' ts' ∧ trow ts' = trow ts ∧ ts'.length = ts.length ∧ Below n0 w w' ∧ KeepT w w'
theorem AskGot.below {n0 m : Nat} {ts : List Twn} {w w' : World} (h : Tws n0 m w ts) (hn : n0 ≤ w.heap.size) (hb : Below w.heap.size w w') : AskGot n0 m ts w w' := ⟨ts, (h.below hb).mono (Nat.le_succ _), rfl, rfl, hb.mono hn, KeepT.below hb⟩

theorem asked_any {n0 m : Nat} {w : World} {ts : List Twn} (h : Tws n0 m w ts) (hn : n0 ≤ w.heap.size) (hm : (m + 1) * 32 ≤ 140737488355328) (ht : Tab w) {j : Nat} (hj : j < ts.length) (K On Aa : Int) (S X : ByteArray) (h1 : 6 ≤ K) (h2 : K < 9) :
    Calls Tryz.prog 25 #[.agg #[.pointer (some ⟨ts[j].xb, 0, none⟩), .pointer (some ⟨ts[j].rb, 0, none⟩)], .agg #[.int .i64 K, .int .i64 On, .int .i64 Aa, .string S, .string X]] w fun e w' => e = .returned (.bool true) ∧ AskGot n0 m ts w w' := by
  have hJ := h.one j hj
  have hl : ts[j].ds.length ≤ maxLen := by have := hJ.len; unfold maxLen; omega
  have hl2 : (ts[j].ds.length + 1) * 32 ≤ 140737488355328 := by have := hJ.len; omega
  rcases (show K = 6 ∨ K = 7 ∨ K = 8 by omega) with rfl | rfl | rfl
  · refine (asked_def hJ.ses hJ.ref hl2 On Aa S X).mono ?_
    rintro e w' ⟨rfl, w0, w1, nm', v', ds', hb0, hs1, hb1, hp⟩
    have h0 := h.below hb0
    have hJ0 := h0.one j hj
    have hR1 : RSes w1 ts[j].rb ts[j].v ts[j].ds := hJ0.ref.but hJ0.ses.blk hb1
    have s0 : n0 ≤ w0.heap.size := Nat.le_trans hn hb0.size
    refine ⟨rfl, _, h0.define hj hs1 hb1 hp, trow_set ts j hj _ rfl, List.length_set, ?_, ?_⟩
    · exact (hb0.mono hn).trans ((hb1.below s0 hJ.nx).trans (hp.chg.below (Nat.le_trans s0 hb1.size) hJ.nr hJ.nv))
    · exact (KeepT.below hb0).trans ((KeepT.but hJ0.ses.blk hb1).trans (KeepT.chg hR1 hp.chg))
  · refine (asked_facts hJ.ses hJ.ref hl On Aa S X).mono ?_
    rintro e w' ⟨rfl, hb⟩
    exact ⟨rfl, AskGot.below h hn hb⟩
  · refine (asked_opp hJ.ses hJ.ref hl ht On Aa S X).mono ?_
    rintro e w' ⟨rfl, hb⟩
    exact ⟨rfl, AskGot.below h hn hb⟩
end Go.Proofs.YtikiaijgcjjloaaGreatDoor

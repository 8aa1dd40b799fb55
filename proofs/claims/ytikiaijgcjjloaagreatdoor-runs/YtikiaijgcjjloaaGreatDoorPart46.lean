import Derived.Test.YtikiaijgcjjloaaGreatDoorPart45
import Derived.Test.YtikiaijgcjjloaaGreatDoorPart21

namespace Go.Proofs.YtikiaijgcjjloaaGreatDoor
open Go Go.RowKit M T Go.Lib
theorem against_step {y y2 : Sp} (h : y.opp = some y2) (hw : y.wf) {x : RC} {w : World} (hx : RPt w x (.sp y)) :
    Calls Tryz.prog 143 #[RC.value x] w fun e w' => ∃ x' : RC, e = .returned (RC.value x') ∧ (∀ w'', RPt w'' x' (.sp y2)) ∧ Below w.heap.size w w' := by
  obtain ⟨Kd, P, Q, K, pa, pn, pc, F, G⟩ := x
  obtain ⟨hk, hx⟩ := hx
  have hk' : Kd = y.first := hk
  subst hk'
  have other : y.first ≠ 43 → y.first ≠ 42 → (∀ r K' w'', r = y2.first → K' = IntKind.i64.wrap (-K) → RPt w'' ⟨r, P, Q, K', none, 0, 0, ⟨#[]⟩, ⟨#[]⟩⟩ (.sp y2)) → Calls Tryz.prog 143 #[RC.value ⟨y.first, P, Q, K, pa, pn, pc, F, G⟩] w fun e w' => ∃ x' : RC, e = .returned (RC.value x') ∧ (∀ w'', RPt w'' x' (.sp y2)) ∧ Below w.heap.size w w' := by
    intro n1 n2 n3
    refine (against_other y.first P Q K pa pn pc F G w n1 n2).mono ?_
    rintro e w' ⟨r, K', rfl, hK, hr, hb⟩
    exact ⟨_, rfl, fun w'' => n3 r K' w'' (turn_opp h hr) hK, hb⟩
  cases y with
  | plus c =>
    cases h
    have h1 := of_decide_eq_true hw
    obtain ⟨e1, e2⟩ := hx
    have e1 : P = c.num := e1
    have e2 : Q = (c.den : Int) := e2
    have hd := c.den_pos
    refine (against_plus P Q K pa pn pc F G w (by omega) (by omega)).mono ?_
    rintro e w' ⟨r, K', rfl, _, hr, hb⟩
    refine ⟨_, rfl, fun w'' => ⟨turn_opp (y := .plus c) (y2 := .plus (-c)) rfl hr, ?_, ?_⟩, hb⟩
    · show -P = (-c).num
      rw [Rat.neg_num, e1]
    · show Q = ((-c).den : Int)
      rw [Rat.neg_den, e2]
  | times c =>
    rw [show (Sp.times c).opp = (if c = 0 then none else some (.times c⁻¹)) from rfl] at h
    by_cases h0 : c = 0
    · rw [if_pos h0] at h; cases h
    · rw [if_neg h0] at h
      cases h
      have h1 := of_decide_eq_true hw
      obtain ⟨e1, e2⟩ := hx
      have e1 : P = c.num := e1
      have e2 : Q = (c.den : Int) := e2
      have hd := c.den_pos
      have hn := num_ne h0
      refine (against_times P Q K pa pn pc F G w (by omega) (by omega) (by omega) (by omega) (by omega)).mono ?_
      rintro e w' ⟨r, K', rfl, _, hr, hb⟩
      obtain ⟨i1, i2⟩ := inv_pairs c h0
      have hp : overP P Q = c⁻¹.num := by rw [i1, e1, e2]; rfl
      have hq : overQ P Q = (c⁻¹.den : Int) := by rw [i2, e1]; rfl
      exact ⟨_, rfl, fun w'' => ⟨turn_opp (y := .times c) (y2 := .times c⁻¹) (if_neg h0) hr, hp, hq⟩, hb⟩
  | shift k =>
    cases h
    refine other (show (60 : UInt8) ≠ 43 by decide) (show (60 : UInt8) ≠ 42 by decide) (fun r K' w'' hr hK => ⟨hr, ?_⟩)
    have hK2 : K = k := hx
    subst hK2
    have h1 := hw.1
    have h2 := hw.2
    show K' = -K
    rw [hK, IntKind.wrap_i64]; omega
  | set c => cases h
  | take k => cases h
  | drop k => cases h
  | pick ps => cases h
  | a => cases h
  | _ => cases h; exact other (by decide) (by decide) (fun r K' w'' hr _ => ⟨hr, trivial⟩)
theorem sp_kd (y : Sp) : (90 < y.first.toNat ∨ y.first.toNat < 65) ∧ y.first ≠ 40 ∧ y.first ≠ 91 := by
  cases y <;> simp only [Sp.first] <;> decide
set_option maxRecDepth 100000 in
set_option maxHeartbeats 1600000 in
theorem flow_sp_fwd (y : Sp) : PtS (.sp y) false := by
  intro x ds n fb rb m N v vs xs ss w hx hw _ _ h _ _ hf hm hN hlen
  obtain ⟨Kd, P, Q, K, pa, pn, pc, F, G⟩ := x
  have hk : Kd = y.first := hx.1
  obtain ⟨hk1, k40, k91⟩ := sp_kd y
  rw [← hk] at hk1 k40 k91
  have q40 : ((Kd.toNat : Int) == 40) = false := u8_ne' (d := 40) k40
  have q91 : ((Kd.toNat : Int) == 91) = false := u8_ne' (d := 91) k91
  have hb : Below w.heap.size w (w.alloc (.cells #[.int .u8 (Kd.toNat : Int), .int .i64 P, .int .i64 Q, .int .i64 K, .slice pa pn pc, .string F, .string G] 131)) := (Below.refl _ _).alloc (Nat.le_refl _) _
  have HF := hide (hf.below hb)
  have hx2 : RSt (w.alloc (.cells #[.int .u8 (Kd.toNat : Int), .int .i64 P, .int .i64 Q, .int .i64 K, .slice pa pn pc, .string F, .string G] 131)) ⟨Kd, P, Q, K, pa, pn, pc, F, G⟩ (.sp y) := ⟨hx.keeps (fun k _ hk => hb.block k (lt_of_block hk)), hw⟩
  have HX := hide hx2
  have HB := hide hb
  have hl : ss.length ≤ 1000000 := by rw [List.length_append] at hlen; omega
  have HE := hide (show (Pt.sp y).flat false = [.sp y] by rw [Pt.flat]; rfl)
  clear hx hx2 hf h hb hk k40 k91 hlen
  rw [show RC.value ⟨Kd, P, Q, K, pa, pn, pc, F, G⟩ = .agg #[.int .u8 (Kd.toNat : Int), .int .i64 P, .int .i64 Q, .int .i64 K, .slice pa pn pc, .string F, .string G] from rfl]
  go_enter Tryz.func106, Tryz.ntmps106
  rcases hk1 with hk1 | hk1
  · have g1 : (65 : Int) ≤ (Kd.toNat : Int) := by omega
    have g2 : ¬ (Kd.toNat : Int) ≤ 90 := by omega
    clear hk1
    go_wp2_with fail
    refine (fadd_any (x := ⟨Kd, P, Q, K, pa, pn, pc, F, G⟩) (unhide HF) (unhide HX) hm hN hl).mono ?_
    rintro e w1 ⟨rfl, v1, xs1, h1, h2⟩
    have H1 := hide h1
    have H2 := hide h2
    clear h1 h2
    go_wp2_with fail
    go_end0
    exact ⟨rfl, v1, xs1, by rw [unhide HE]; exact unhide H1, (Fc.of_below (unhide HB)).trans (unhide H2)⟩
  · have g1 : ¬ (65 : Int) ≤ (Kd.toNat : Int) := by omega
    clear hk1
    go_wp2_with fail
    refine (fadd_any (x := ⟨Kd, P, Q, K, pa, pn, pc, F, G⟩) (unhide HF) (unhide HX) hm hN hl).mono ?_
    rintro e w1 ⟨rfl, v1, xs1, h1, h2⟩
    have H1 := hide h1
    have H2 := hide h2
    clear h1 h2
    go_wp2_with fail
    go_end0
    exact ⟨rfl, v1, xs1, by rw [unhide HE]; exact unhide H1, (Fc.of_below (unhide HB)).trans (unhide H2)⟩
theorem bx7 {w w1 : World} (h : Below w.heap.size w w1) (o : Obj) : Below w.heap.size w (w1.alloc o) := h.alloc h.size _
set_option maxRecDepth 100000 in
set_option maxHeartbeats 1600000 in
theorem flow_sp_bwd {y y2 : Sp} (ho : y.opp = some y2) (hw2 : y2.wf) : PtS (.sp y) true := by
  intro x ds n fb rb m N v vs xs ss w hx hw _ _ h _ _ hf hm hN hlen
  obtain ⟨Kd, P, Q, K, pa, pn, pc, F, G⟩ := x
  have hk : Kd = y.first := hx.1
  obtain ⟨hk1, k40, k91⟩ := sp_kd y
  rw [← hk] at hk1 k40 k91
  have q40 : ((Kd.toNat : Int) == 40) = false := u8_ne' (d := 40) k40
  have q91 : ((Kd.toNat : Int) == 91) = false := u8_ne' (d := 91) k91
  have hb : Below w.heap.size w (w.alloc (.cells #[.int .u8 (Kd.toNat : Int), .int .i64 P, .int .i64 Q, .int .i64 K, .slice pa pn pc, .string F, .string G] 131)) := (Below.refl _ _).alloc (Nat.le_refl _) _
  have hx2 : RPt (w.alloc (.cells #[.int .u8 (Kd.toNat : Int), .int .i64 P, .int .i64 Q, .int .i64 K, .slice pa pn pc, .string F, .string G] 131)) ⟨Kd, P, Q, K, pa, pn, pc, F, G⟩ (.sp y) := hx.keeps (fun k _ hk => hb.block k (lt_of_block hk))
  have HX := hide hx2
  have HB := hide hb
  have HF := hide hf
  have HO := hide ho
  have hl : ss.length ≤ 1000000 := by rw [List.length_append] at hlen; omega
  have HE := hide (show (Pt.sp y).flat true = [.sp y2] by rw [Pt.flat, ho]; rfl)
  clear hx hx2 hf h hb hk k40 k91 hlen ho
  rw [show RC.value ⟨Kd, P, Q, K, pa, pn, pc, F, G⟩ = .agg #[.int .u8 (Kd.toNat : Int), .int .i64 P, .int .i64 Q, .int .i64 K, .slice pa pn pc, .string F, .string G] from rfl]
  go_enter Tryz.func106, Tryz.ntmps106
  rcases hk1 with hk1 | hk1
  · have g1 : (65 : Int) ≤ (Kd.toNat : Int) := by omega
    have g2 : ¬ (Kd.toNat : Int) ≤ 90 := by omega
    clear hk1
    go_wp2_with fail
    refine (against_step (unhide HO) hw (unhide HX)).mono ?_
    rintro e w1 ⟨⟨Kd', P', Q', K', pa', pn', pc', F', G'⟩, rfl, hx', hb1⟩
    rw [show RC.value ⟨Kd', P', Q', K', pa', pn', pc', F', G'⟩ = .agg #[.int .u8 (Kd'.toNat : Int), .int .i64 P', .int .i64 Q', .int .i64 K', .slice pa' pn' pc', .string F', .string G'] from rfl]
    have HX' := hide hx'
    have hb2 := (unhide HB).trans (hb1.mono (unhide HB).size)
    have HB2 := hide hb2
    clear hx' hb1 hb2
    go_wp2_with fail
    refine (fadd_any (x := ⟨Kd', P', Q', K', pa', pn', pc', F', G'⟩) (s := .sp y2) ((unhide HF).below (bx7 (unhide HB2) _)) ⟨unhide HX' _, hw2⟩ hm hN hl).mono ?_
    rintro e w2 ⟨rfl, v1, xs1, h1, h2⟩
    have H1 := hide h1
    have H2 := hide h2
    clear h1 h2
    go_wp2_with fail
    go_end0
    exact ⟨rfl, v1, xs1, by rw [unhide HE]; exact unhide H1, (Fc.of_below (bx7 (unhide HB2) _)).trans (unhide H2)⟩
  · have g1 : ¬ (65 : Int) ≤ (Kd.toNat : Int) := by omega
    clear hk1
    go_wp2_with fail
    refine (against_step (unhide HO) hw (unhide HX)).mono ?_
    rintro e w1 ⟨⟨Kd', P', Q', K', pa', pn', pc', F', G'⟩, rfl, hx', hb1⟩
    rw [show RC.value ⟨Kd', P', Q', K', pa', pn', pc', F', G'⟩ = .agg #[.int .u8 (Kd'.toNat : Int), .int .i64 P', .int .i64 Q', .int .i64 K', .slice pa' pn' pc', .string F', .string G'] from rfl]
    have HX' := hide hx'
    have hb2 := (unhide HB).trans (hb1.mono (unhide HB).size)
    have HB2 := hide hb2
    clear hx' hb1 hb2
    go_wp2_with fail
    refine (fadd_any (x := ⟨Kd', P', Q', K', pa', pn', pc', F', G'⟩) (s := .sp y2) ((unhide HF).below (bx7 (unhide HB2) _)) ⟨unhide HX' _, hw2⟩ hm hN hl).mono ?_
    rintro e w2 ⟨rfl, v1, xs1, h1, h2⟩
    have H1 := hide h1
    have H2 := hide h2
    clear h1 h2
    go_wp2_with fail
    go_end0
    exact ⟨rfl, v1, xs1, by rw [unhide HE]; exact unhide H1, (Fc.of_below (bx7 (unhide HB2) _)).trans (unhide H2)⟩
theorem box_kept {fb rb m n : Nat} {v v' : Value} {xs : List RC} {ss : List St} {w w' : World} {x : RC} (hf : FlIs w fb rb m n v xs ss) (hc : Fc fb v (w.alloc (.cells x.cells.toArray 131)) v' w') : w'.heap[w.heap.size]? = some (.cells x.cells.toArray 131 (0, 0)) :=
  (hc.young hf (by simp) (Nat.le_refl _)).trans (heap_alloc_new _ _)
set_option maxRecDepth 100000 in
set_option maxHeartbeats 3200000 in
theorem flow_name {c : UInt8} {t : Tm} {bk : Bool} (hT : TmS t bk) : PtS (.name c t) bk := by
  intro x ds n fb rb m N v vs xs ss w hx hw he _ h hn hl hf hm hN hlen
  obtain ⟨Kd, P, Q, K, pa, pn, pc, F, G⟩ := x
  have hk : Kd = c := hx
  rw [Pt.wf] at hw
  rw [Pt.inEnv] at he
  obtain ⟨h65, h90, _⟩ := hw
  subst hk
  have q40 : ((Kd.toNat : Int) == 40) = false := by rw [beq_eq_false_iff_ne]; omega
  have q91 : ((Kd.toNat : Int) == 91) = false := by rw [beq_eq_false_iff_ne]; omega
  have g1 : (65 : Int) ≤ (Kd.toNat : Int) := by omega
  have g2 : (Kd.toNat : Int) ≤ 90 := by omega
  obtain ⟨j, hj, hjn, hfi, hjc, hjt⟩ : ∃ j, ∃ (hj : j < ds.length), j < n ∧ findI ds Kd n = (j : Int) ∧ ds[j].c = Kd ∧ envOf (ds.take n) Kd = some ds[j].t := by
    rcases findI_spec ds Kd n hn with h | ⟨_, h⟩
    · exact h
    · rw [he] at h; cases h
  obtain rfl : t = ds[j].t := Option.some.inj (he.symm.trans hjt)
  have hgood := h.ok.good j hj
  have hsz : ds[j].s.size ≤ 1000 := by have := hgood.len; simp at this; omega
  have HG := hide hgood.term
  have HFI := hide hfi
  have HT := hide hT
  have hb : Below w.heap.size w (w.alloc (.cells #[.int .u8 (Kd.toNat : Int), .int .i64 P, .int .i64 Q, .int .i64 K, .slice pa pn pc, .string F, .string G] 131)) := (Below.refl _ _).alloc (Nat.le_refl _) _
  have HF0 := hide hf
  have HF := hide (hf.below hb)
  have H := hide (h.below hb)
  have HB := hide hb
  have hl0 : ss.length ≤ 1000000 := by rw [List.length_append] at hlen; omega
  have HE := hide (show (Pt.name Kd ds[j].t).flat bk = [.rest] ++ ds[j].t.flat bk by rw [Pt.flat]; rfl)
  rw [Pt.flat, show (St.rest :: ds[j].t.flat bk) = [.rest] ++ ds[j].t.flat bk from rfl, ← lay_next] at hlen
  have HLen := hide hlen
  clear hx hf h hb hlen hT hgood hfi he hjt hjc
  rw [show RC.value ⟨Kd, P, Q, K, pa, pn, pc, F, G⟩ = .agg #[.int .u8 (Kd.toNat : Int), .int .i64 P, .int .i64 Q, .int .i64 K, .slice pa pn pc, .string F, .string G] from rfl]
  go_enter Tryz.func106, Tryz.ntmps106
  go_wp2_with fail
  refine (fadd_any (x := rdot 46) (s := .rest) (unhide HF) rfl hm hN hl0).mono ?_
  rintro e w1 ⟨rfl, v1, xs1, h1, h2⟩
  have hbox := box_kept (x := ⟨Kd, P, Q, K, pa, pn, pc, F, G⟩) (unhide HF0) h2
  have hs1 := (unhide H).flow (unhide HF) h2
  obtain ⟨ao, cap, hvs, hcs⟩ := hs1.slice
  obtain ⟨g, rfl, hcell⟩ := hcs (by omega)
  subst hvs
  have d0 : w1.cell? ⟨w.heap.size, 0, none⟩ = some (.int .u8 (Kd.toNat : Int)) := blk_cell hbox 0
  have e0 : w1.cell? ⟨fb, 0, none⟩ = some (.pointer (some ⟨rb, 0, none⟩)) := blk_cell h1.blk 0
  have r0 : w1.cell? ⟨rb, 0, none⟩ = some (.slice (some ⟨g, 0, none⟩) ds.length cap) := blk_cell hs1.blk 0
  have k1 : w1.cell? ⟨g, j * 3 + 1, none⟩ = some (.string ds[j].s) := hcell j hj 1 (by omega)
  have hjl : (j : Int) < (ds.length : Int) := by omega
  have haf := after_le (m := m) [.rest] N hN
  have H1 := hide h1
  have H2 := hide h2
  have HS := hide hs1
  have hz1 : w.heap.size < w1.heap.size := lt_of_block hbox
  have hz2 : fb < w1.heap.size := lt_of_block h1.blk
  have hz3 : rb < w1.heap.size := lt_of_block hs1.blk
  clear h1 h2 hs1 hbox hcell hcs
  go_wp2_with fail
  go_quiet (first | (go_at_call 100; exact Calls.quiet_of_same (v := .int .i64 (j : Int)) ((find_any Kd n _ ((unhide HS).drewN _) hn hl).mono (fun e w' h => ⟨by rw [h.1, unhide HFI], h.2⟩))))
  go_wp2_with fail
  refine (unhide HT (unhide HG) hsz ((unhide HS).drewN _) (by omega) hl ((unhide H1).below (below_dr (Below.refl _ _) _)) hm haf (unhide HLen)).mono ?_
  rintro e w2 ⟨rfl, h3⟩
  have H3 := hide h3
  clear h3
  go_wp2_with fail
  go_end0
  refine ⟨rfl, ?_⟩
  rw [unhide HE]
  exact FlGot.then (((Fc.of_below (unhide HB)).trans (unhide H2)).trans (Fc.of_below (below_dr (Below.refl _ _) _))) (unhide H3)
end Go.Proofs.YtikiaijgcjjloaaGreatDoor

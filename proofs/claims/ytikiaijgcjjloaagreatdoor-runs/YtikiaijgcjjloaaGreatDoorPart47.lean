import Derived.Test.YtikiaijgcjjloaaGreatDoorPart46
import Derived.Deep.RegionHeld3
import Derived.Deep.DeepCutAuto

namespace Go.Proofs.YtikiaijgcjjloaaGreatDoor
open Go Go.RowKit M T Go.Lib
theorem rep_succ (a : List St) (i : Nat) : (List.replicate (i + 1) a).flatten = (List.replicate i a).flatten ++ a := by
  rw [List.replicate_succ', List.flatten_append]; simp
theorem rep_le {m : Nat} {ss a : List St} {N i k B : Nat} (hi : i ≤ k) (h : (ss ++ lay m (List.replicate k a).flatten N).length ≤ B) : (ss ++ lay m (List.replicate i a).flatten N).length ≤ B := by
  obtain ⟨d, rfl⟩ : ∃ d, k = i + d := ⟨k - i, by omega⟩
  rw [← List.replicate_append_replicate, List.flatten_append] at h
  exact lay_le h
theorem rep_more (a : List St) {i k : Nat} (hi : i ≤ k) : ∃ l, (List.replicate k a).flatten = (List.replicate i a).flatten ++ l := by
  obtain ⟨d, rfl⟩ : ∃ d, k = i + d := ⟨k - i, by omega⟩
  exact ⟨(List.replicate d a).flatten, by rw [← List.replicate_append_replicate, List.flatten_append]⟩
def powFlat (f : Tm) (kk : Int) : List St := if kk < 0 ∧ f.back = false then [.never] else (List.replicate kk.natAbs (.rest :: f.flat (decide (kk < 0)))).flatten
theorem pow_flat (f : Tm) (k : Int) (bk : Bool) : (Pt.pow f k).flat bk = [.rest] ++ powFlat f (if bk then -k else k) := by
  rw [Pt.flat, powFlat]
  have : (if bk then -k else k).natAbs = k.natAbs := by cases bk <;> simp
  rw [this]
  rfl
set_option maxRecDepth 100000 in
set_option maxHeartbeats 1600000 in
theorem times_fwd {f : Tm} {k : Int} (hT : ∀ b, (b = true → f.back = true) → TmS f b) {x : RC} {ds : List D} {n fb rb m N : Nat} {v vs : Value} {xs : List RC} {ss : List St} {w : World} (hx : RPt w x (.pow f k)) (hk1 : -999 ≤ k) (hk2 : k ≤ 999) (ht : IsTerm (envOf (ds.take n)) f.text f) (hs : f.text.length ≤ 1000) (h : RSes w rb vs ds) (hn : n ≤ ds.length) (hl : ds.length ≤ maxLen) (hf : FlIs w fb rb m N v xs ss) (hm : m ≤ 100000) (hN : N ≤ m + 1) (hlen : (ss ++ lay m (powFlat f k) N).length ≤ 1000000) :
    Calls Tryz.prog 145 #[.pointer (some ⟨fb, 0, none⟩), RC.value x, .int .i64 (n : Int), .bool false] w fun e w' => e = .returned (.tuple #[]) ∧ FlGot fb rb m N v ss (powFlat f k) w w' := by
  obtain ⟨Kd, P, Q, K, pa, pn, pc, F, G⟩ := x
  have hF : F.data.toList = f.text := hx.2.1
  have hK : K = k := hx.2.2
  have hfz : F.size = f.text.length := by rw [← hF]; simp
  subst hK
  rw [← hF] at ht
  have hb : Below w.heap.size w (w.alloc (.cells #[.int .u8 (Kd.toNat : Int), .int .i64 P, .int .i64 Q, .int .i64 K, .slice pa pn pc, .string F, .string G] 131)) := (Below.refl _ _).alloc (Nat.le_refl _) _
  have HF0 := hide hf
  have HF := hide (hf.below hb)
  have H := hide (h.below hb)
  have HB := hide hb
  have HTm := hide ht
  have HT := hide hT
  have hl0 : ss.length ≤ 1000000 := by rw [List.length_append] at hlen; omega
  have HLen := hide hlen
  have e0 : w.cell? ⟨fb, 0, none⟩ = some (.pointer (some ⟨rb, 0, none⟩)) := blk_cell hf.blk 0
  have hzf := lt_of_block hf.blk
  have hFs : F.size ≤ 1000 := by omega
  have hn' : n ≤ maxLen := by omega
  unfold maxLen at hn'
  clear hx hf h hb hlen hT ht hF hfz hs
  rw [show RC.value ⟨Kd, P, Q, K, pa, pn, pc, F, G⟩ = .agg #[.int .u8 (Kd.toNat : Int), .int .i64 P, .int .i64 Q, .int .i64 K, .slice pa pn pc, .string F, .string G] from rfl]
  go_enter Tryz.func145, Tryz.ntmps145
  go_upto_region 4 with fail
  obtain ⟨wA, hwA⟩ : ∃ wA, wA = w.alloc (.cells #[.int .u8 (Kd.toNat : Int), .int .i64 P, .int .i64 Q, .int .i64 K, .slice pa pn pc, .string F, .string G] 131) := ⟨_, rfl⟩
  have hboxA : wA.heap[w.heap.size]? = some (.cells #[.int .u8 (Kd.toNat : Int), .int .i64 P, .int .i64 Q, .int .i64 K, .slice pa pn pc, .string F, .string G] 131 (0, 0)) := by rw [hwA]; exact heap_alloc_new _ _
  rw [← hwA] at HF H HB ⊢
  have HBx := hide hboxA
  have hzA : w.heap.size < wA.heap.size := lt_of_block hboxA
  have a0 : wA.cell? ⟨fb, 0, none⟩ = some (.pointer (some ⟨rb, 0, none⟩)) := blk_cell (unhide HF).blk 0
  have a5 : wA.cell? ⟨w.heap.size, 5, none⟩ = some (.string F) := blk_cell hboxA 5
  have HFs := hide (fun (W : World) (hW : Below wA.heap.size wA W) => facts_all 1000 F f ds rb vs n W hFs hFs ((unhide H).below hW) hn hl (unhide HTm))
  clear hboxA e0 hwA
  go_cut [9] (fun v9 wx => v9 = .int .i64 (factsNum f) ∧ Below wA.heap.size wA wx)
  case first =>
    go_region_held3 (fun w' => w'.cell? ⟨fb, 0, none⟩ = some (.pointer (some ⟨rb, 0, none⟩)) ∧ w'.cell? ⟨w.heap.size, 5, none⟩ = some (.string F)) (go_keep)
      (first | (go_at_call 64; refine (unhide HFs _ (by first | exact Below.refl _ _ | exact Below.drew (Below.refl _ _) | exact below_dr (Below.refl _ _) _)).mono ?_; rintro e w' ⟨rfl, hb'⟩; have hO : ∀ o, w'.cell? ⟨fb, o, none⟩ = wA.cell? ⟨fb, o, none⟩ := fun o => hb'.cell (p := ⟨fb, o, none⟩) (Nat.lt_trans hzf hzA); have hG : ∀ o, w'.cell? ⟨w.heap.size, o, none⟩ = wA.cell? ⟨w.heap.size, o, none⟩ := fun o => hb'.cell (p := ⟨w.heap.size, o, none⟩) hzA))
    all_goals go_wp2_with fail
    all_goals go_meet
    all_goals exact ⟨rfl, ⟨hb'.os, hb'.tape, hb'.output, hb'.size, hb'.block⟩⟩
  case rest =>
  obtain ⟨rfl, hb1⟩ := hcut
  have hbox1 := (hb1.block _ hzA).trans (unhide HBx)
  have d5 : wc.cell? ⟨w.heap.size, 5, none⟩ = some (.string F) := blk_cell hbox1 5
  have HF1 := hide ((unhide HF).below hb1)
  have H1 := hide ((unhide H).below hb1)
  have HB1 := hide ((unhide HB).trans (hb1.mono (unhide HB).size))
  have HBx1 := hide hbox1
  have hz1 : w.heap.size < wc.heap.size := lt_of_block hbox1
  clear hb1 hbox1 a0 a5 HFs HF H HB HBx
  obtain ⟨w1, hw1⟩ : ∃ w1, w1 = wc := ⟨_, rfl⟩
  subst hw1
  go_upto_region 5 with fail
  go_cut [9, 31] (fun _ v31 wx => v31 = .bool (decide (K < 0) && !f.back) ∧ wx = w1)
  case first =>
    rw [factsNum_fbits]
    by_cases hneg : K < 0
    · cases h1 : f.back <;> cases f.picker <;> cases f.plain <;> simp only [fb0, fb1, fb2, fb3, fb4, fb5, fb6, fb7] <;> (go_wp2_with fail; go_meet; exact ⟨by rw [decide_eq_true hneg, h1]; rfl, rfl⟩)
    · have HNg := hide hneg
      cases h1 : f.back <;> cases f.picker <;> cases f.plain <;> simp only [fb0, fb1, fb2, fb3, fb4, fb5, fb6, fb7] <;> (go_wp2_with fail; go_meet; exact ⟨by rw [decide_eq_false (by omega)]; rfl, rfl⟩)
  case rest =>
  obtain ⟨rfl, hwx⟩ := hcut
  subst hwx
  obtain ⟨w1, hw1⟩ : ∃ w1, w1 = wc := ⟨_, rfl⟩
  subst hw1
  by_cases hneg : K < 0
  · rw [decide_eq_true hneg]
    by_cases hbk : f.back = true
    · rw [hbk, show (true && !true) = false from rfl]
      have HFlat := hide (show powFlat f K = (List.replicate (K).natAbs ([.rest] ++ f.flat true)).flatten by rw [powFlat, if_neg (fun h => by rw [hbk] at h; exact absurd h.2 (by decide)), decide_eq_true hneg]; rfl)
      rw [unhide HFlat] at HLen
      have HTb := hide (unhide HT true (fun _ => hbk))
      obtain ⟨T, hT⟩ : ∃ T, T = (K).natAbs := ⟨_, rfl⟩
      rw [← hT] at HFlat HLen
      have HTk := hide (show K = -(T : Int) by omega)
      have hTl : T ≤ 999 := by omega
      clear HT hT
      go_wp2_with fail
      go_loopg [10] T (fun k v10 wr => ∃ i : Nat, k = T - i ∧ i ≤ T ∧ v10 = .int .i64 ((T : Int) - (i : Int)) ∧ ∃ v' xs', FlIs wr fb rb m (after m (List.replicate i ([.rest] ++ f.flat true)).flatten N) v' xs' (ss ++ lay m (List.replicate i ([.rest] ++ f.flat true)).flatten N) ∧ Fc fb v w1 v' wr)
      case atStart =>
        refine ⟨0, rfl, Nat.zero_le _, ?_, v, xs, by show FlIs w1 fb rb m N v xs (ss ++ []); rw [List.append_nil]; exact unhide HF1, Fc.of_below (Below.refl _ _)⟩
        have := unhide HTk
        refine congrArg (Value.int .i64) ?_
        omega
      case round =>
        obtain ⟨i, hk, hi, rfl, v', xs', hfl, hfc⟩ := hrel
        have HK := hide hk
        have HFl := hide hfl
        have HFc := hide hfc
        clear hk hfl hfc
        by_cases hlt : i < T
        · have hlt' : (0 : Int) < (T : Int) - (i : Int) := by omega
          go_wp2_with fail
          refine (ffull_any (unhide HFl)).mono ?_
          rintro e w2 ⟨rfl, hb2⟩
          have HB2 := hide hb2
          clear hb2
          by_cases hfull : m < after m (List.replicate i ([.rest] ++ f.flat true)).flatten N
          · rw [decide_eq_true hfull]
            go_wp2_with fail
            refine bodyPost_ret (results_none rfl _ _ _) rfl ?_
            refine ⟨rfl, ?_⟩
            obtain ⟨l, hl2⟩ := rep_more ([.rest] ++ f.flat true) hi
            rw [unhide HFlat, hl2]
            exact FlGot.then ((Fc.of_below (unhide HB1)).trans (unhide HFc)) (FlGot.full (unhide HFl) (unhide HB2) hfull l)
          · rw [decide_eq_false hfull]
            have haf := after_le (m := m) (List.replicate i ([.rest] ++ f.flat true)).flatten N hN
            have hlen2 : ((ss ++ lay m (List.replicate i ([.rest] ++ f.flat true)).flatten N) ++ lay m ([.rest] ++ f.flat true) (after m (List.replicate i ([.rest] ++ f.flat true)).flatten N)).length ≤ 1000000 := by
              rw [lay_next, ← rep_succ]
              exact rep_le hlt (unhide HLen)
            have hlen3 : (ss ++ lay m (List.replicate i ([.rest] ++ f.flat true)).flatten N).length ≤ 1000000 := by rw [List.length_append] at hlen2; omega
            rw [← lay_next] at hlen2
            have HL2 := hide hlen2
            have hc2 := (unhide HFc).trans (Fc.of_below (unhide HB2))
            have HC2 := hide hc2
            have HF2 := hide ((unhide HFl).below (unhide HB2))
            have hs2 := (unhide H1).flow (unhide HF1) hc2
            have HS2 := hide hs2
            clear hlen2 hc2 hs2
            have HSuc := hide (rep_succ ([.rest] ++ f.flat true) i)
            generalize (List.replicate i ([.rest] ++ f.flat true)).flatten = R at HSuc HL2 HF2 HFl hfull haf hlen3
            go_wp2_with fail
            refine (fadd_any (x := rdot 46) (s := .rest) (unhide HF2) rfl hm haf hlen3).mono ?_
            rintro e w3 ⟨rfl, v3, xs3, hf3, hc3⟩
            have hc4 := (unhide HC2).trans hc3
            have hbox3 := (hc4.young (unhide HF0) hz1 (Nat.le_refl _)).trans (unhide HBx1)
            have d5 : w3.cell? ⟨w.heap.size, 5, none⟩ = some (.string F) := blk_cell hbox3 5
            have HF3 := hide hf3
            have HC4 := hide hc4
            have HS3 := hide ((unhide HS2).flow (unhide HF2) hc3)
            have haf3 := after_le (m := m) [.rest] (after m R N) haf
            have hz3 : w.heap.size < w3.heap.size := lt_of_block hbox3
            clear hf3 hc3 hc4 hbox3
            go_wp2_with fail
            refine (unhide HTb (unhide HTm) hFs (unhide HS3) hn hl (unhide HF3) hm haf3 (unhide HL2)).mono ?_
            rintro e w4 ⟨rfl, hg4⟩
            have hg5 := FlGot.then (unhide HC4) hg4
            obtain ⟨v5, xs5, hf5, hc5⟩ := hg5
            have HF5 := hide hf5
            have HC5 := hide hc5
            clear hf5 hc5 hg4
            go_wp2_with fail
            go_roundg (T - (i + 1))
            case measure => rw [unhide HK]; omega
            case rel => exact ⟨i + 1, rfl, by omega, congrArg (Value.int .i64) (by omega), v5, xs5, by rw [unhide HSuc, after_append, ← lay_next]; exact unhide HF5, unhide HC5⟩
        · have hlt' : ¬ (0 : Int) < (T : Int) - (i : Int) := by omega
          have hiT : i = T := by omega
          go_wp2_with fail
          go_end0
          rw [hiT] at HFl
          exact ⟨rfl, v', xs', by rw [unhide HFlat]; exact unhide HFl, (Fc.of_below (unhide HB1)).trans (unhide HFc)⟩
    · have hbf : f.back = false := by simpa using hbk
      rw [hbf, show (true && !false) = true from rfl]
      have HFlat := hide (show powFlat f K = [.never] by rw [powFlat, if_pos ⟨hneg, hbf⟩])
      go_wp2_with fail
      refine (fadd_any (x := rdot 33) (s := .never) (unhide HF1) rfl hm hN hl0).mono ?_
      rintro e w2 ⟨rfl, h3⟩
      have H3 := hide h3
      clear h3
      go_wp2_with fail
      refine bodyPost_ret (results_none rfl _ _ _) rfl ?_
      refine ⟨rfl, ?_⟩
      rw [unhide HFlat]
      obtain ⟨v3, xs3, h4, h5⟩ := unhide H3
      exact ⟨v3, xs3, h4, (Fc.of_below (unhide HB1)).trans h5⟩
  · rw [decide_eq_false hneg, Bool.false_and]
    have HFlat := hide (show powFlat f K = (List.replicate (K).natAbs ([.rest] ++ f.flat false)).flatten by rw [powFlat, if_neg (fun h => hneg h.1), decide_eq_false hneg]; rfl)
    rw [unhide HFlat] at HLen
    have HTb := hide (unhide HT false (fun h => by cases h))
    obtain ⟨T, rfl⟩ : ∃ T : Nat, K = (T : Int) := ⟨(K).toNat, by omega⟩
    have hT : ((T : Int)).natAbs = T := by omega
    rw [hT] at HFlat HLen
    have HTk := hide (show (T : Int) = (T : Int) by omega)
    have hTl : T ≤ 999 := by omega
    clear hneg
    clear HT hT
    go_wp2_with fail
    go_loopg [10] T (fun k v10 wr => ∃ i : Nat, k = T - i ∧ i ≤ T ∧ v10 = .int .i64 ((T : Int) - (i : Int)) ∧ ∃ v' xs', FlIs wr fb rb m (after m (List.replicate i ([.rest] ++ f.flat false)).flatten N) v' xs' (ss ++ lay m (List.replicate i ([.rest] ++ f.flat false)).flatten N) ∧ Fc fb v w1 v' wr)
    case atStart =>
      refine ⟨0, rfl, Nat.zero_le _, ?_, v, xs, by show FlIs w1 fb rb m N v xs (ss ++ []); rw [List.append_nil]; exact unhide HF1, Fc.of_below (Below.refl _ _)⟩
      have := unhide HTk
      refine congrArg (Value.int .i64) ?_
      omega
    case round =>
      obtain ⟨i, hk, hi, rfl, v', xs', hfl, hfc⟩ := hrel
      have HK := hide hk
      have HFl := hide hfl
      have HFc := hide hfc
      clear hk hfl hfc
      by_cases hlt : i < T
      · have hlt' : (0 : Int) < (T : Int) - (i : Int) := by omega
        go_wp2_with fail
        refine (ffull_any (unhide HFl)).mono ?_
        rintro e w2 ⟨rfl, hb2⟩
        have HB2 := hide hb2
        clear hb2
        by_cases hfull : m < after m (List.replicate i ([.rest] ++ f.flat false)).flatten N
        · rw [decide_eq_true hfull]
          go_wp2_with fail
          refine bodyPost_ret (results_none rfl _ _ _) rfl ?_
          refine ⟨rfl, ?_⟩
          obtain ⟨l, hl2⟩ := rep_more ([.rest] ++ f.flat false) hi
          rw [unhide HFlat, hl2]
          exact FlGot.then ((Fc.of_below (unhide HB1)).trans (unhide HFc)) (FlGot.full (unhide HFl) (unhide HB2) hfull l)
        · rw [decide_eq_false hfull]
          have haf := after_le (m := m) (List.replicate i ([.rest] ++ f.flat false)).flatten N hN
          have hlen2 : ((ss ++ lay m (List.replicate i ([.rest] ++ f.flat false)).flatten N) ++ lay m ([.rest] ++ f.flat false) (after m (List.replicate i ([.rest] ++ f.flat false)).flatten N)).length ≤ 1000000 := by
            rw [lay_next, ← rep_succ]
            exact rep_le hlt (unhide HLen)
          have hlen3 : (ss ++ lay m (List.replicate i ([.rest] ++ f.flat false)).flatten N).length ≤ 1000000 := by rw [List.length_append] at hlen2; omega
          rw [← lay_next] at hlen2
          have HL2 := hide hlen2
          have hc2 := (unhide HFc).trans (Fc.of_below (unhide HB2))
          have HC2 := hide hc2
          have HF2 := hide ((unhide HFl).below (unhide HB2))
          have hs2 := (unhide H1).flow (unhide HF1) hc2
          have HS2 := hide hs2
          clear hlen2 hc2 hs2
          have HSuc := hide (rep_succ ([.rest] ++ f.flat false) i)
          generalize (List.replicate i ([.rest] ++ f.flat false)).flatten = R at HSuc HL2 HF2 HFl hfull haf hlen3
          go_wp2_with fail
          refine (fadd_any (x := rdot 46) (s := .rest) (unhide HF2) rfl hm haf hlen3).mono ?_
          rintro e w3 ⟨rfl, v3, xs3, hf3, hc3⟩
          have hc4 := (unhide HC2).trans hc3
          have hbox3 := (hc4.young (unhide HF0) hz1 (Nat.le_refl _)).trans (unhide HBx1)
          have d5 : w3.cell? ⟨w.heap.size, 5, none⟩ = some (.string F) := blk_cell hbox3 5
          have HF3 := hide hf3
          have HC4 := hide hc4
          have HS3 := hide ((unhide HS2).flow (unhide HF2) hc3)
          have haf3 := after_le (m := m) [.rest] (after m R N) haf
          have hz3 : w.heap.size < w3.heap.size := lt_of_block hbox3
          clear hf3 hc3 hc4 hbox3
          go_wp2_with fail
          refine (unhide HTb (unhide HTm) hFs (unhide HS3) hn hl (unhide HF3) hm haf3 (unhide HL2)).mono ?_
          rintro e w4 ⟨rfl, hg4⟩
          have hg5 := FlGot.then (unhide HC4) hg4
          obtain ⟨v5, xs5, hf5, hc5⟩ := hg5
          have HF5 := hide hf5
          have HC5 := hide hc5
          clear hf5 hc5 hg4
          go_wp2_with fail
          go_roundg (T - (i + 1))
          case measure => rw [unhide HK]; omega
          case rel => exact ⟨i + 1, rfl, by omega, congrArg (Value.int .i64) (by omega), v5, xs5, by rw [unhide HSuc, after_append, ← lay_next]; exact unhide HF5, unhide HC5⟩
      · have hlt' : ¬ (0 : Int) < (T : Int) - (i : Int) := by omega
        have hiT : i = T := by omega
        go_wp2_with fail
        go_end0
        rw [hiT] at HFl
        exact ⟨rfl, v', xs', by rw [unhide HFlat]; exact unhide HFl, (Fc.of_below (unhide HB1)).trans (unhide HFc)⟩
set_option maxRecDepth 100000 in
set_option maxHeartbeats 1600000 in
theorem times_bwd {f : Tm} {k : Int} (hT : ∀ b, (b = true → f.back = true) → TmS f b) {x : RC} {ds : List D} {n fb rb m N : Nat} {v vs : Value} {xs : List RC} {ss : List St} {w : World} (hx : RPt w x (.pow f k)) (hk1 : -999 ≤ k) (hk2 : k ≤ 999) (ht : IsTerm (envOf (ds.take n)) f.text f) (hs : f.text.length ≤ 1000) (h : RSes w rb vs ds) (hn : n ≤ ds.length) (hl : ds.length ≤ maxLen) (hf : FlIs w fb rb m N v xs ss) (hm : m ≤ 100000) (hN : N ≤ m + 1) (hlen : (ss ++ lay m (powFlat f (-k)) N).length ≤ 1000000) :
    Calls Tryz.prog 145 #[.pointer (some ⟨fb, 0, none⟩), RC.value x, .int .i64 (n : Int), .bool true] w fun e w' => e = .returned (.tuple #[]) ∧ FlGot fb rb m N v ss (powFlat f (-k)) w w' := by
  obtain ⟨Kd, P, Q, K, pa, pn, pc, F, G⟩ := x
  have hF : F.data.toList = f.text := hx.2.1
  have hK : K = k := hx.2.2
  have hfz : F.size = f.text.length := by rw [← hF]; simp
  subst hK
  rw [← hF] at ht
  have hb : Below w.heap.size w (w.alloc (.cells #[.int .u8 (Kd.toNat : Int), .int .i64 P, .int .i64 Q, .int .i64 K, .slice pa pn pc, .string F, .string G] 131)) := (Below.refl _ _).alloc (Nat.le_refl _) _
  have HF0 := hide hf
  have HF := hide (hf.below hb)
  have H := hide (h.below hb)
  have HB := hide hb
  have HTm := hide ht
  have HT := hide hT
  have hl0 : ss.length ≤ 1000000 := by rw [List.length_append] at hlen; omega
  have HLen := hide hlen
  have e0 : w.cell? ⟨fb, 0, none⟩ = some (.pointer (some ⟨rb, 0, none⟩)) := blk_cell hf.blk 0
  have hzf := lt_of_block hf.blk
  have hFs : F.size ≤ 1000 := by omega
  have hn' : n ≤ maxLen := by omega
  unfold maxLen at hn'
  clear hx hf h hb hlen hT ht hF hfz hs
  rw [show RC.value ⟨Kd, P, Q, K, pa, pn, pc, F, G⟩ = .agg #[.int .u8 (Kd.toNat : Int), .int .i64 P, .int .i64 Q, .int .i64 K, .slice pa pn pc, .string F, .string G] from rfl]
  go_enter Tryz.func145, Tryz.ntmps145
  go_upto_region 4 with fail
  obtain ⟨KK, hKK⟩ : ∃ KK, KK = -K := ⟨_, rfl⟩
  rw [← hKK] at HLen ⊢
  have hk1' : -999 ≤ KK := by omega
  have hk2' : KK ≤ 999 := by omega
  have HKK := hide hKK
  clear hKK hk1 hk2
  obtain ⟨wA, hwA⟩ : ∃ wA, wA = w.alloc (.cells #[.int .u8 (Kd.toNat : Int), .int .i64 P, .int .i64 Q, .int .i64 K, .slice pa pn pc, .string F, .string G] 131) := ⟨_, rfl⟩
  have hboxA : wA.heap[w.heap.size]? = some (.cells #[.int .u8 (Kd.toNat : Int), .int .i64 P, .int .i64 Q, .int .i64 K, .slice pa pn pc, .string F, .string G] 131 (0, 0)) := by rw [hwA]; exact heap_alloc_new _ _
  rw [← hwA] at HF H HB ⊢
  have HBx := hide hboxA
  have hzA : w.heap.size < wA.heap.size := lt_of_block hboxA
  have a0 : wA.cell? ⟨fb, 0, none⟩ = some (.pointer (some ⟨rb, 0, none⟩)) := blk_cell (unhide HF).blk 0
  have a5 : wA.cell? ⟨w.heap.size, 5, none⟩ = some (.string F) := blk_cell hboxA 5
  have HFs := hide (fun (W : World) (hW : Below wA.heap.size wA W) => facts_all 1000 F f ds rb vs n W hFs hFs ((unhide H).below hW) hn hl (unhide HTm))
  clear hboxA e0 hwA
  go_cut [9] (fun v9 wx => v9 = .int .i64 (factsNum f) ∧ Below wA.heap.size wA wx)
  case first =>
    go_region_held3 (fun w' => w'.cell? ⟨fb, 0, none⟩ = some (.pointer (some ⟨rb, 0, none⟩)) ∧ w'.cell? ⟨w.heap.size, 5, none⟩ = some (.string F)) (go_keep)
      (first | (go_at_call 64; refine (unhide HFs _ (by first | exact Below.refl _ _ | exact Below.drew (Below.refl _ _) | exact below_dr (Below.refl _ _) _)).mono ?_; rintro e w' ⟨rfl, hb'⟩; have hO : ∀ o, w'.cell? ⟨fb, o, none⟩ = wA.cell? ⟨fb, o, none⟩ := fun o => hb'.cell (p := ⟨fb, o, none⟩) (Nat.lt_trans hzf hzA); have hG : ∀ o, w'.cell? ⟨w.heap.size, o, none⟩ = wA.cell? ⟨w.heap.size, o, none⟩ := fun o => hb'.cell (p := ⟨w.heap.size, o, none⟩) hzA))
    all_goals go_wp2_with fail
    all_goals go_meet
    all_goals exact ⟨rfl, ⟨hb'.os, hb'.tape, hb'.output, hb'.size, hb'.block⟩⟩
  case rest =>
  obtain ⟨rfl, hb1⟩ := hcut
  have hbox1 := (hb1.block _ hzA).trans (unhide HBx)
  have d5 : wc.cell? ⟨w.heap.size, 5, none⟩ = some (.string F) := blk_cell hbox1 5
  have HF1 := hide ((unhide HF).below hb1)
  have H1 := hide ((unhide H).below hb1)
  have HB1 := hide ((unhide HB).trans (hb1.mono (unhide HB).size))
  have HBx1 := hide hbox1
  have hz1 : w.heap.size < wc.heap.size := lt_of_block hbox1
  clear hb1 hbox1 a0 a5 HFs HF H HB HBx
  obtain ⟨w1, hw1⟩ : ∃ w1, w1 = wc := ⟨_, rfl⟩
  subst hw1
  go_upto_region 5 with fail
  go_cut [9, 31] (fun _ v31 wx => v31 = .bool (decide (KK < 0) && !f.back) ∧ wx = w1)
  case first =>
    rw [factsNum_fbits]
    by_cases hneg : KK < 0
    · cases h1 : f.back <;> cases f.picker <;> cases f.plain <;> simp only [fb0, fb1, fb2, fb3, fb4, fb5, fb6, fb7] <;> (go_wp2_with fail; go_meet; exact ⟨by rw [decide_eq_true hneg, h1]; rfl, rfl⟩)
    · have HNg := hide hneg
      cases h1 : f.back <;> cases f.picker <;> cases f.plain <;> simp only [fb0, fb1, fb2, fb3, fb4, fb5, fb6, fb7] <;> (go_wp2_with fail; go_meet; exact ⟨by rw [decide_eq_false (by omega)]; rfl, rfl⟩)
  case rest =>
  obtain ⟨rfl, hwx⟩ := hcut
  subst hwx
  obtain ⟨w1, hw1⟩ : ∃ w1, w1 = wc := ⟨_, rfl⟩
  subst hw1
  by_cases hneg : KK < 0
  · rw [decide_eq_true hneg]
    by_cases hbk : f.back = true
    · rw [hbk, show (true && !true) = false from rfl]
      have HFlat := hide (show powFlat f KK = (List.replicate (KK).natAbs ([.rest] ++ f.flat true)).flatten by rw [powFlat, if_neg (fun h => by rw [hbk] at h; exact absurd h.2 (by decide)), decide_eq_true hneg]; rfl)
      rw [unhide HFlat] at HLen
      have HTb := hide (unhide HT true (fun _ => hbk))
      obtain ⟨T, hT⟩ : ∃ T, T = (KK).natAbs := ⟨_, rfl⟩
      rw [← hT] at HFlat HLen
      have HTk := hide (show KK = -(T : Int) by omega)
      have hTl : T ≤ 999 := by omega
      clear HT hT
      go_wp2_with fail
      go_loopg [10] T (fun k v10 wr => ∃ i : Nat, k = T - i ∧ i ≤ T ∧ v10 = .int .i64 ((T : Int) - (i : Int)) ∧ ∃ v' xs', FlIs wr fb rb m (after m (List.replicate i ([.rest] ++ f.flat true)).flatten N) v' xs' (ss ++ lay m (List.replicate i ([.rest] ++ f.flat true)).flatten N) ∧ Fc fb v w1 v' wr)
      case atStart =>
        refine ⟨0, rfl, Nat.zero_le _, ?_, v, xs, by show FlIs w1 fb rb m N v xs (ss ++ []); rw [List.append_nil]; exact unhide HF1, Fc.of_below (Below.refl _ _)⟩
        have := unhide HTk
        refine congrArg (Value.int .i64) ?_
        omega
      case round =>
        obtain ⟨i, hk, hi, rfl, v', xs', hfl, hfc⟩ := hrel
        have HK := hide hk
        have HFl := hide hfl
        have HFc := hide hfc
        clear hk hfl hfc
        by_cases hlt : i < T
        · have hlt' : (0 : Int) < (T : Int) - (i : Int) := by omega
          go_wp2_with fail
          refine (ffull_any (unhide HFl)).mono ?_
          rintro e w2 ⟨rfl, hb2⟩
          have HB2 := hide hb2
          clear hb2
          by_cases hfull : m < after m (List.replicate i ([.rest] ++ f.flat true)).flatten N
          · rw [decide_eq_true hfull]
            go_wp2_with fail
            refine bodyPost_ret (results_none rfl _ _ _) rfl ?_
            refine ⟨rfl, ?_⟩
            obtain ⟨l, hl2⟩ := rep_more ([.rest] ++ f.flat true) hi
            rw [← unhide HKK, unhide HFlat, hl2]
            exact FlGot.then ((Fc.of_below (unhide HB1)).trans (unhide HFc)) (FlGot.full (unhide HFl) (unhide HB2) hfull l)
          · rw [decide_eq_false hfull]
            have haf := after_le (m := m) (List.replicate i ([.rest] ++ f.flat true)).flatten N hN
            have hlen2 : ((ss ++ lay m (List.replicate i ([.rest] ++ f.flat true)).flatten N) ++ lay m ([.rest] ++ f.flat true) (after m (List.replicate i ([.rest] ++ f.flat true)).flatten N)).length ≤ 1000000 := by
              rw [lay_next, ← rep_succ]
              exact rep_le hlt (unhide HLen)
            have hlen3 : (ss ++ lay m (List.replicate i ([.rest] ++ f.flat true)).flatten N).length ≤ 1000000 := by rw [List.length_append] at hlen2; omega
            rw [← lay_next] at hlen2
            have HL2 := hide hlen2
            have hc2 := (unhide HFc).trans (Fc.of_below (unhide HB2))
            have HC2 := hide hc2
            have HF2 := hide ((unhide HFl).below (unhide HB2))
            have hs2 := (unhide H1).flow (unhide HF1) hc2
            have HS2 := hide hs2
            clear hlen2 hc2 hs2
            have HSuc := hide (rep_succ ([.rest] ++ f.flat true) i)
            generalize (List.replicate i ([.rest] ++ f.flat true)).flatten = R at HSuc HL2 HF2 HFl hfull haf hlen3
            go_wp2_with fail
            refine (fadd_any (x := rdot 46) (s := .rest) (unhide HF2) rfl hm haf hlen3).mono ?_
            rintro e w3 ⟨rfl, v3, xs3, hf3, hc3⟩
            have hc4 := (unhide HC2).trans hc3
            have hbox3 := (hc4.young (unhide HF0) hz1 (Nat.le_refl _)).trans (unhide HBx1)
            have d5 : w3.cell? ⟨w.heap.size, 5, none⟩ = some (.string F) := blk_cell hbox3 5
            have HF3 := hide hf3
            have HC4 := hide hc4
            have HS3 := hide ((unhide HS2).flow (unhide HF2) hc3)
            have haf3 := after_le (m := m) [.rest] (after m R N) haf
            have hz3 : w.heap.size < w3.heap.size := lt_of_block hbox3
            clear hf3 hc3 hc4 hbox3
            go_wp2_with fail
            refine (unhide HTb (unhide HTm) hFs (unhide HS3) hn hl (unhide HF3) hm haf3 (unhide HL2)).mono ?_
            rintro e w4 ⟨rfl, hg4⟩
            have hg5 := FlGot.then (unhide HC4) hg4
            obtain ⟨v5, xs5, hf5, hc5⟩ := hg5
            have HF5 := hide hf5
            have HC5 := hide hc5
            clear hf5 hc5 hg4
            go_wp2_with fail
            go_roundg (T - (i + 1))
            case measure => rw [unhide HK]; omega
            case rel => exact ⟨i + 1, rfl, by omega, congrArg (Value.int .i64) (by omega), v5, xs5, by rw [unhide HSuc, after_append, ← lay_next]; exact unhide HF5, unhide HC5⟩
        · have hlt' : ¬ (0 : Int) < (T : Int) - (i : Int) := by omega
          have hiT : i = T := by omega
          go_wp2_with fail
          go_end0
          rw [hiT] at HFl
          exact ⟨rfl, v', xs', by rw [← unhide HKK, unhide HFlat]; exact unhide HFl, (Fc.of_below (unhide HB1)).trans (unhide HFc)⟩
    · have hbf : f.back = false := by simpa using hbk
      rw [hbf, show (true && !false) = true from rfl]
      have HFlat := hide (show powFlat f KK = [.never] by rw [powFlat, if_pos ⟨hneg, hbf⟩])
      go_wp2_with fail
      refine (fadd_any (x := rdot 33) (s := .never) (unhide HF1) rfl hm hN hl0).mono ?_
      rintro e w2 ⟨rfl, h3⟩
      have H3 := hide h3
      clear h3
      go_wp2_with fail
      refine bodyPost_ret (results_none rfl _ _ _) rfl ?_
      refine ⟨rfl, ?_⟩
      rw [← unhide HKK, unhide HFlat]
      obtain ⟨v3, xs3, h4, h5⟩ := unhide H3
      exact ⟨v3, xs3, h4, (Fc.of_below (unhide HB1)).trans h5⟩
  · rw [decide_eq_false hneg, Bool.false_and]
    have HFlat := hide (show powFlat f KK = (List.replicate (KK).natAbs ([.rest] ++ f.flat false)).flatten by rw [powFlat, if_neg (fun h => hneg h.1), decide_eq_false hneg]; rfl)
    rw [unhide HFlat] at HLen
    have HTb := hide (unhide HT false (fun h => by cases h))
    obtain ⟨T, rfl⟩ : ∃ T : Nat, KK = (T : Int) := ⟨(KK).toNat, by omega⟩
    have hT : ((T : Int)).natAbs = T := by omega
    rw [hT] at HFlat HLen
    have HTk := hide (show (T : Int) = (T : Int) by omega)
    have hTl : T ≤ 999 := by omega
    clear hneg
    clear HT hT
    go_wp2_with fail
    go_loopg [10] T (fun k v10 wr => ∃ i : Nat, k = T - i ∧ i ≤ T ∧ v10 = .int .i64 ((T : Int) - (i : Int)) ∧ ∃ v' xs', FlIs wr fb rb m (after m (List.replicate i ([.rest] ++ f.flat false)).flatten N) v' xs' (ss ++ lay m (List.replicate i ([.rest] ++ f.flat false)).flatten N) ∧ Fc fb v w1 v' wr)
    case atStart =>
      refine ⟨0, rfl, Nat.zero_le _, ?_, v, xs, by show FlIs w1 fb rb m N v xs (ss ++ []); rw [List.append_nil]; exact unhide HF1, Fc.of_below (Below.refl _ _)⟩
      have := unhide HTk
      refine congrArg (Value.int .i64) ?_
      omega
    case round =>
      obtain ⟨i, hk, hi, rfl, v', xs', hfl, hfc⟩ := hrel
      have HK := hide hk
      have HFl := hide hfl
      have HFc := hide hfc
      clear hk hfl hfc
      by_cases hlt : i < T
      · have hlt' : (0 : Int) < (T : Int) - (i : Int) := by omega
        go_wp2_with fail
        refine (ffull_any (unhide HFl)).mono ?_
        rintro e w2 ⟨rfl, hb2⟩
        have HB2 := hide hb2
        clear hb2
        by_cases hfull : m < after m (List.replicate i ([.rest] ++ f.flat false)).flatten N
        · rw [decide_eq_true hfull]
          go_wp2_with fail
          refine bodyPost_ret (results_none rfl _ _ _) rfl ?_
          refine ⟨rfl, ?_⟩
          obtain ⟨l, hl2⟩ := rep_more ([.rest] ++ f.flat false) hi
          rw [← unhide HKK, unhide HFlat, hl2]
          exact FlGot.then ((Fc.of_below (unhide HB1)).trans (unhide HFc)) (FlGot.full (unhide HFl) (unhide HB2) hfull l)
        · rw [decide_eq_false hfull]
          have haf := after_le (m := m) (List.replicate i ([.rest] ++ f.flat false)).flatten N hN
          have hlen2 : ((ss ++ lay m (List.replicate i ([.rest] ++ f.flat false)).flatten N) ++ lay m ([.rest] ++ f.flat false) (after m (List.replicate i ([.rest] ++ f.flat false)).flatten N)).length ≤ 1000000 := by
            rw [lay_next, ← rep_succ]
            exact rep_le hlt (unhide HLen)
          have hlen3 : (ss ++ lay m (List.replicate i ([.rest] ++ f.flat false)).flatten N).length ≤ 1000000 := by rw [List.length_append] at hlen2; omega
          rw [← lay_next] at hlen2
          have HL2 := hide hlen2
          have hc2 := (unhide HFc).trans (Fc.of_below (unhide HB2))
          have HC2 := hide hc2
          have HF2 := hide ((unhide HFl).below (unhide HB2))
          have hs2 := (unhide H1).flow (unhide HF1) hc2
          have HS2 := hide hs2
          clear hlen2 hc2 hs2
          have HSuc := hide (rep_succ ([.rest] ++ f.flat false) i)
          generalize (List.replicate i ([.rest] ++ f.flat false)).flatten = R at HSuc HL2 HF2 HFl hfull haf hlen3
          go_wp2_with fail
          refine (fadd_any (x := rdot 46) (s := .rest) (unhide HF2) rfl hm haf hlen3).mono ?_
          rintro e w3 ⟨rfl, v3, xs3, hf3, hc3⟩
          have hc4 := (unhide HC2).trans hc3
          have hbox3 := (hc4.young (unhide HF0) hz1 (Nat.le_refl _)).trans (unhide HBx1)
          have d5 : w3.cell? ⟨w.heap.size, 5, none⟩ = some (.string F) := blk_cell hbox3 5
          have HF3 := hide hf3
          have HC4 := hide hc4
          have HS3 := hide ((unhide HS2).flow (unhide HF2) hc3)
          have haf3 := after_le (m := m) [.rest] (after m R N) haf
          have hz3 : w.heap.size < w3.heap.size := lt_of_block hbox3
          clear hf3 hc3 hc4 hbox3
          go_wp2_with fail
          refine (unhide HTb (unhide HTm) hFs (unhide HS3) hn hl (unhide HF3) hm haf3 (unhide HL2)).mono ?_
          rintro e w4 ⟨rfl, hg4⟩
          have hg5 := FlGot.then (unhide HC4) hg4
          obtain ⟨v5, xs5, hf5, hc5⟩ := hg5
          have HF5 := hide hf5
          have HC5 := hide hc5
          clear hf5 hc5 hg4
          go_wp2_with fail
          go_roundg (T - (i + 1))
          case measure => rw [unhide HK]; omega
          case rel => exact ⟨i + 1, rfl, by omega, congrArg (Value.int .i64) (by omega), v5, xs5, by rw [unhide HSuc, after_append, ← lay_next]; exact unhide HF5, unhide HC5⟩
      · have hlt' : ¬ (0 : Int) < (T : Int) - (i : Int) := by omega
        have hiT : i = T := by omega
        go_wp2_with fail
        go_end0
        rw [hiT] at HFl
        exact ⟨rfl, v', xs', by rw [← unhide HKK, unhide HFlat]; exact unhide HFl, (Fc.of_below (unhide HB1)).trans (unhide HFc)⟩
end Go.Proofs.YtikiaijgcjjloaaGreatDoor

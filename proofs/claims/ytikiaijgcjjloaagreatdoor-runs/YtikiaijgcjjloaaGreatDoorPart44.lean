import Derived.Test.YtikiaijgcjjloaaGreatDoorPart43

namespace Go.Proofs.YtikiaijgcjjloaaGreatDoor
open Go Go.RowKit M T Go.Lib
def DPlay (db : Nat) (av : Value) (n : Nat) (w : World) (r : PRes) (e : Ending) (w' : World) : Prop := match r with
  | .ok d _ => e = .returned (.int .i64 0) ∧ ∃ c' av' ls', DkIs w' db c' av' ls' ∧ d = ⟨c'.l, awayOf ls'⟩ ∧ Fc db av w av' w' ∧ ls'.length ≤ n + 1
  | .err k => e = .returned (.int .i64 k) ∧ k ≠ 0 ∧ ∃ av', Fc db av w av' w'
set_option maxRecDepth 100000 in
set_option maxHeartbeats 800000 in
theorem play_never {w : World} {db : Nat} {av : Value} {x : RC} (f : Nat) (d : Desk) (n : Nat) (hx : RSt w x .never) :
    Calls Tryz.prog 71 #[.pointer (some ⟨db, 0, none⟩), RC.value x] w fun e w' => DPlay db av n w (St.never.play d f) e w' := by
  obtain ⟨Kd, P, Q, K, pa, pn, pc, F, G⟩ := x
  have hk : Kd = 33 := hx
  subst hk
  clear hx
  rw [show RC.value ⟨33, P, Q, K, pa, pn, pc, F, G⟩ = .agg #[.int .u8 33, .int .i64 P, .int .i64 Q, .int .i64 K, .slice pa pn pc, .string F, .string G] from rfl]
  go_enter Tryz.func71, Tryz.ntmps71
  go_wp2_with fail
  go_ret
  exact ⟨rfl, by decide, av, Fc.of_below ((Below.refl _ _).alloc (Nat.le_refl _) _)⟩
set_option maxRecDepth 100000 in
set_option maxHeartbeats 3200000 in
theorem play_aside {w : World} {db : Nat} {c : SlC} {av : Value} {ls : List SlC} {x : RC} (f : Nat) (hx : RSt w x .aside) (h : DkIs w db c av ls) (hl : ls.length ≤ 1000000) :
    Calls Tryz.prog 71 #[.pointer (some ⟨db, 0, none⟩), RC.value x] w fun e w' => DPlay db av ls.length w (St.aside.play ⟨c.l, awayOf ls⟩ f) e w' := by
  obtain ⟨i0, hi0, hz0, hz1, hz2⟩ := info_parts Tryz.infoNums
  obtain ⟨j0, hj0, hy0, hy1, hy2⟩ := info_parts Tryz.infoNum
  obtain ⟨Kd, P, Q, K, pa, pn, pc, F, G⟩ := x
  have hk : Kd = 80 := hx
  subst hk
  clear hx
  rw [show RC.value ⟨80, P, Q, K, pa, pn, pc, F, G⟩ = .agg #[.int .u8 80, .int .i64 P, .int .i64 Q, .int .i64 K, .slice pa pn pc, .string F, .string G] from rfl]
  obtain ⟨ao, cap, l⟩ := c
  have hb : Below w.heap.size w (w.alloc (.cells #[.int .u8 80, .int .i64 P, .int .i64 Q, .int .i64 K, .slice pa pn pc, .string F, .string G] 131)) := (Below.refl _ _).alloc (Nat.le_refl _) _
  have HA := hide (h.below hb)
  have HB := hide hb
  clear h hb
  go_enter Tryz.func71, Tryz.ntmps71
  go_upto_region 3 with fail
  generalize w.alloc (.cells #[.int .u8 80, .int .i64 P, .int .i64 Q, .int .i64 K, .slice pa pn pc, .string F, .string G] 131) = wA at HA HB ⊢
  have a0 : wA.cell? ⟨db, 0, none⟩ = some (.slice ao l.length cap) := blk_cell (unhide HA).blk 0
  have a1 : wA.cell? ⟨db, 1, none⟩ = some av := blk_cell (unhide HA).blk 1
  have hdz : db < wA.heap.size := lt_of_block (unhide HA).blk
  have hll : l.length ≤ 1000 := (unhide HA).cur.len
  go_cut [] (fun wx => ∃ av', DkIs wx db ⟨ao, cap, l⟩ av' (ls ++ [⟨ao, cap, l⟩]) ∧ Fc db av wA av' wx)
  case first =>
    go_region_law (refine step_append_own rfl (.tmp 24) (.tmp 29) 125 rfl 0 116 i0 _ 1 24 Tryz.underlying125 hi0 hz0 hz1 hz2 rfl (by decide) av ls.length (awrow ls) (by simp [Act.eval]) (by first | exact ((unhide HA).aw.alloc _).drew | exact (unhide HA).aw.drew.alloc _) ⟨wA.heap.size, 0, none⟩ 1 1 [(SlC.mk ao cap l).value] (by simp [Act.eval]) rfl (by exact news_alloc wA [(SlC.mk ao cap l).value] 116) (one_slc _) (by unfold maxLen; omega) (by omega) (by simp) ?_; intro v' w3 hown3 hgr3 hnn3 hwh3; obtain ⟨g', cap', rfl⟩ := owns_some hown3 (fun e => absurd (hnn3.1 e).2 (by decide)); have hgb := (unhide HA).grown (Below.drew ((Below.refl _ _).alloc (Nat.le_refl _) _)) hgr3; have hc3 : w3.cell? ⟨db, 1, none⟩ = some av := blk_cell hgb 1; have hf3 : ∀ i, w3.frozen? ⟨db, i, none⟩ = false := fun i => blk_free hgb i)
    all_goals go_wp2_with fail
    all_goals go_meet
    all_goals exact ⟨_, (unhide HA).push (Below.drew ((Below.refl _ _).alloc (Nat.le_refl _) _)) hgr3 hown3 hwh3⟩
  case rest =>
  obtain ⟨av', hd1, hc1⟩ := hcut
  have HD := hide hd1
  have HC := hide hc1
  clear hd1 hc1 a0 a1 HA
  obtain ⟨w1, hw1⟩ : ∃ w1, w1 = wc := ⟨_, rfl⟩
  subst hw1
  have a0 : w1.cell? ⟨db, 0, none⟩ = some (.slice ao l.length cap) := blk_cell (unhide HD).blk 0
  have hdz1 : db < w1.heap.size := lt_of_block (unhide HD).blk
  go_wp2_with fail
  go_loopg [5, 6] l.length (fun kk v5 v6 wr => ∃ (i : Nat) (ao' : Option Addr) (cp : Nat), kk = l.length - i ∧ i ≤ l.length ∧ v6 = .int .i64 (i : Int) ∧ v5 = .slice ao' (allPlaces i).length cp ∧ RM w1 (.slice ao' (allPlaces i).length cp) (allPlaces i) wr)
  case atStart => exact ⟨0, none, 0, rfl, Nat.zero_le _, rfl, rfl, RM.start w1⟩
  case round =>
    obtain ⟨i, ao', cp, hk, hi, rfl, rfl, hm⟩ := hrel
    have HK := hide hk
    have HM := hide hm
    have b0 : wr.cell? ⟨db, 0, none⟩ = some (.slice ao l.length cap) := (hm.bel.cell (p := ⟨db, 0, none⟩) hdz1).trans a0
    have hsz := hm.bel.size
    have hal := allPlaces_len i
    have hal2 : (allPlaces i).length ≤ 1000 := by omega
    have HAL := hide hal
    have HSn := hide (show allPlaces i ++ [rnat i] = allPlaces (i + 1) from range_snoc i)
    have HM2 := hide (hm.below ((Below.refl _ _).alloc (Nat.le_refl _) (.cells (qcells (rnat i)).toArray 129)))
    clear hk hm hal
    by_cases hlt : i < l.length
    · have hlt' : (i : Int) < (l.length : Int) := by omega
      go_wp2_with (at_builtin; refine wpList_append_own _ rfl _ _ 116 rfl w1.heap.size 129 j0 _ 2 16 Tryz.underlying116 hj0 hy0 hy1 hy2 rfl (by decide) _ _ _ rfl (unhide HM2).own ⟨wr.heap.size, 0, none⟩ 1 1 (qcells (rnat i)) rfl rfl (nnews_at rfl _ _) (one_qcells _) (by unfold maxLen; omega) (by omega) (by simp; omega) ?_)
      intro v' w4 hown4 hgr4 _
      have hm4 := (unhide HM2).more hown4 hgr4
      rw [unhide HSn] at hm4
      obtain ⟨ao4, cp4, rfl⟩ := hm4.shape
      have HM4 := hide hm4
      clear hm4 hown4 hgr4
      go_wp2_with fail
      go_roundg (l.length - (i + 1))
      case measure => rw [unhide HK]; omega
      case rel => exact ⟨i + 1, ao4, cp4, rfl, by omega, rfl, rfl, unhide HM4⟩
    · have hlt' : ¬ (i : Int) < (l.length : Int) := by omega
      have HIL := hide (show i = l.length by omega)
      have hbf : ∀ o, wr.frozen? ⟨db, o, none⟩ = false := fun o => blk_free ((unhide HD).below (unhide HM).bel).blk o
      go_wp2_with fail
      go_ret
      have hfin : DkIs (wr.setCell ⟨db, 0, none⟩ (.slice ao' (allPlaces i).length cp)) db ⟨ao', cp, allPlaces i⟩ av' (ls ++ [⟨ao, cap, l⟩]) := ((unhide HD).below (unhide HM).bel).setCur (c' := ⟨ao', cp, allPlaces i⟩) ((unhide HM).rl (allPlaces_small (by omega)) hal2)
      refine ⟨rfl, SlC.mk ao' cp (allPlaces i), av', ls ++ [SlC.mk ao cap l], hfin, ?_, (((Fc.of_below (unhide HB)).trans (unhide HC)).trans (Fc.of_below (unhide HM).bel)).setCell _ _, by simp⟩
      rw [awayOf_snoc, unhide HIL]
theorem top_under {w : World} {db : Nat} {c : SlC} {av : Value} {ls0 : List SlC} {o a : SlC} (h : DkIs w db c av (ls0 ++ [o] ++ [a])) (hl : ls0.length ≤ 900000) :
    Calls Tryz.prog 107 #[.pointer (some ⟨db, 0, none⟩), .int .i64 1] w fun e w' => e = .returned o.value ∧ Below w.heap.size w w' := by
  refine (top_any h (k := 1) (j := ls0.length) (by simp; omega) (by simp; omega) (by simp)).mono ?_
  rintro e w' ⟨he, hb⟩
  refine ⟨?_, hb⟩
  rw [he]
  congr 2
  simp []
theorem top_last {w : World} {db : Nat} {c : SlC} {av : Value} {ls1 : List SlC} {a : SlC} (h : DkIs w db c av (ls1 ++ [a])) (hl : ls1.length ≤ 950000) :
    Calls Tryz.prog 107 #[.pointer (some ⟨db, 0, none⟩), .int .i64 0] w fun e w' => e = .returned a.value ∧ Below w.heap.size w w' := by
  refine (top_any h (k := 0) (j := ls1.length) (by simp) (by simp; omega) (by simp)).mono ?_
  rintro e w' ⟨he, hb⟩
  refine ⟨?_, hb⟩
  rw [he]
  congr 2
  simp
theorem map_rnat_at {idx : List Nat} {l : List Rat} (h : l = idx.map rnat) {i : Nat} (hi : i < l.length) (hj : i < idx.length) : l[i].num = ((idx[i] : Nat) : Int) := by
  subst h
  rw [List.getElem_map]
  rfl
set_option maxRecDepth 100000 in
set_option maxHeartbeats 3200000 in
theorem play_fetch {w : World} {db : Nat} {c o : SlC} {av : Value} {ls0 : List SlC} {x : RC} {idx : List Nat} (f : Nat) (hx : RSt w x .fetch) (h : DkIs w db c av (ls0 ++ [o])) (hci : c.l = idx.map rnat) (hix : ∀ i ∈ idx, i < o.l.length) (hl : ls0.length ≤ 900000) :
    Calls Tryz.prog 71 #[.pointer (some ⟨db, 0, none⟩), RC.value x] w fun e w' => DPlay db av (ls0 ++ [o]).length w (St.fetch.play ⟨c.l, awayOf (ls0 ++ [o])⟩ f) e w' := by
  obtain ⟨i0, hi0, hz0, hz1, hz2⟩ := info_parts Tryz.infoNums
  obtain ⟨j0, hj0, hy0, hy1, hy2⟩ := info_parts Tryz.infoNum
  obtain ⟨Kd, P, Q, K, pa, pn, pc, F, G⟩ := x
  have hk : Kd = 73 := hx
  subst hk
  clear hx
  rw [show RC.value ⟨73, P, Q, K, pa, pn, pc, F, G⟩ = .agg #[.int .u8 73, .int .i64 P, .int .i64 Q, .int .i64 K, .slice pa pn pc, .string F, .string G] from rfl]
  obtain ⟨ao, cap, l⟩ := c
  replace hci : l = idx.map rnat := hci
  have HPl := hide (show St.fetch.play ⟨l, awayOf (ls0 ++ [o])⟩ f = .ok ⟨picked idx o.l, l :: awayOf (ls0 ++ [o])⟩ f by
    rw [awayOf_snoc]
    show PRes.ok ⟨picked (places l) o.l, _⟩ f = _
    rw [hci, places_rnat])
  have hil : idx.length = l.length := by rw [hci]; simp
  have HCi := hide hci
  have HIx := hide hix
  have HIl := hide hil
  obtain ⟨ls, hls⟩ : ∃ ls, ls = ls0 ++ [o] := ⟨_, rfl⟩
  rw [← hls] at h HPl ⊢
  have hlsz : ls.length ≤ 900001 := by rw [hls]; simp; omega
  have HLs := hide hls
  have hb : Below w.heap.size w (w.alloc (.cells #[.int .u8 73, .int .i64 P, .int .i64 Q, .int .i64 K, .slice pa pn pc, .string F, .string G] 131)) := (Below.refl _ _).alloc (Nat.le_refl _) _
  have HA := hide (h.below hb)
  have HB := hide hb
  clear h hb hci hix hil hls
  go_enter Tryz.func71, Tryz.ntmps71
  go_upto_region 11 with fail
  generalize w.alloc (.cells #[.int .u8 73, .int .i64 P, .int .i64 Q, .int .i64 K, .slice pa pn pc, .string F, .string G] 131) = wA at HA HB ⊢
  have a0 : wA.cell? ⟨db, 0, none⟩ = some (.slice ao l.length cap) := blk_cell (unhide HA).blk 0
  have a1 : wA.cell? ⟨db, 1, none⟩ = some av := blk_cell (unhide HA).blk 1
  have hdz : db < wA.heap.size := lt_of_block (unhide HA).blk
  have hll : l.length ≤ 1000 := (unhide HA).cur.len
  go_cut [] (fun wx => ∃ av', DkIs wx db ⟨ao, cap, l⟩ av' (ls ++ [⟨ao, cap, l⟩]) ∧ Fc db av wA av' wx)
  case first =>
    go_region_law (refine step_append_own rfl (.tmp 57) (.tmp 62) 125 rfl 0 116 i0 _ 1 24 Tryz.underlying125 hi0 hz0 hz1 hz2 rfl (by decide) av ls.length (awrow ls) (by simp [Act.eval]) (by first | exact ((unhide HA).aw.alloc _).drew | exact (unhide HA).aw.drew.alloc _) ⟨wA.heap.size, 0, none⟩ 1 1 [(SlC.mk ao cap l).value] (by simp [Act.eval]) rfl (by exact news_alloc wA [(SlC.mk ao cap l).value] 116) (one_slc _) (by unfold maxLen; omega) (by omega) (by simp) ?_; intro v' w3 hown3 hgr3 hnn3 hwh3; obtain ⟨g', cap', rfl⟩ := owns_some hown3 (fun e => absurd (hnn3.1 e).2 (by decide)); have hgb := (unhide HA).grown (Below.drew ((Below.refl _ _).alloc (Nat.le_refl _) _)) hgr3; have hc3 : w3.cell? ⟨db, 1, none⟩ = some av := blk_cell hgb 1; have hf3 : ∀ i, w3.frozen? ⟨db, i, none⟩ = false := fun i => blk_free hgb i)
    all_goals go_wp2_with fail
    all_goals go_meet
    all_goals exact ⟨_, (unhide HA).push (Below.drew ((Below.refl _ _).alloc (Nat.le_refl _) _)) hgr3 hown3 hwh3⟩
  case rest =>
  obtain ⟨av', hd1, hc1⟩ := hcut
  have HD := hide hd1
  have HC := hide hc1
  clear hd1 hc1 a0 a1 HA
  obtain ⟨w1, hw1⟩ : ∃ w1, w1 = wc := ⟨_, rfl⟩
  subst hw1
  go_wp2_with fail
  refine (top_under (ls0 := ls0) (o := o) (a := ⟨ao, cap, l⟩) (by rw [← unhide HLs]; exact unhide HD) hl).mono ?_
  rintro e w2 ⟨rfl, hb2⟩
  have HD2 := hide ((unhide HD).below hb2)
  have HC2 := hide ((unhide HC).trans (Fc.of_below hb2))
  clear hb2 HD HC
  have HRo := hide ((unhide HD2).rl o (by rw [unhide HLs]; simp))
  have HRc := hide (unhide HD2).cur
  obtain ⟨oo, oc, ol⟩ := o
  rw [show (SlC.mk oo oc ol).value = .slice oo ol.length oc from rfl]
  have a0 : w2.cell? ⟨db, 0, none⟩ = some (.slice ao l.length cap) := blk_cell (unhide HD2).blk 0
  have hdz1 : db < w2.heap.size := lt_of_block (unhide HD2).blk
  have hol : ol.length ≤ 1000 := (unhide HRo).len
  go_wp2_with fail
  go_loopg [8, 9] l.length (fun kk v8 v9 wr => ∃ (i : Nat) (ys : List Rat) (ao' : Option Addr) (cp : Nat), kk = l.length - i ∧ i ≤ l.length ∧ v9 = .int .i64 (i : Int) ∧ v8 = .slice ao' ys.length cp ∧ (ys = picked (idx.take i) ol ∧ AllS ys) ∧ RM w2 (.slice ao' ys.length cp) ys wr)
  case atStart => exact ⟨0, [], none, 0, rfl, Nat.zero_le _, rfl, rfl, ⟨rfl, fun _ h => by (cases h)⟩, RM.start w2⟩
  case round =>
    obtain ⟨i, ys, ao', cp, hk, hi, rfl, rfl, he, hm⟩ := hrel
    have HK := hide hk
    have HE := hide he
    have HM := hide hm
    have hyb : ys.length ≤ 1000 := by
      rw [he.1]
      unfold picked
      simp
      have := unhide HIl
      omega
    have b0 : wr.cell? ⟨db, 0, none⟩ = some (.slice ao l.length cap) := (hm.bel.cell (p := ⟨db, 0, none⟩) hdz1).trans a0
    have hsz := hm.bel.size
    clear hk he
    by_cases hlt : i < l.length
    · have hlt' : (i : Int) < (l.length : Int) := by omega
      have hlti : i < idx.length := by rw [unhide HIl]; exact hlt
      have hq := unhide HIx idx[i] (List.getElem_mem hlti)
      have hq0 : idx[i] < ol.length := hq
      obtain ⟨gc, rfl, hgc, hcc⟩ := (unhide HRc).cell (by show 0 < l.length; omega)
      obtain ⟨p0, _⟩ := hcc i hlt
      rw [map_rnat_at (unhide HCi) hlt hlti, ← hm.bel.cell (p := ⟨gc, i * 2, none⟩) hgc] at p0
      obtain ⟨g, rfl, hg, hcl⟩ := (unhide HRo).cell (by show 0 < ol.length; omega)
      obtain ⟨d0, d1⟩ := hcl idx[i] hq0
      rw [← hm.bel.cell (p := ⟨g, idx[i] * 2, none⟩) hg] at d0
      rw [← hm.bel.cell (p := ⟨g, idx[i] * 2 + 1, none⟩) hg] at d1
      have hgd : ol.getD idx[i] 0 = ol[idx[i]] := getD_at hq0
      have HPS := hide (picked_step idx ol i hlti)
      rw [hgd] at HPS
      have HX := hide ((unhide HRo).small ol[idx[i]] (List.getElem_mem hq0))
      have HM2 := hide (hm.below ((Below.refl _ _).alloc (Nat.le_refl _) (.cells (qcells ol[idx[i]]).toArray 129)))
      clear hcl hm hgd hcc hq
      generalize ol[idx[i]] = z at d0 d1 HPS HX HM2
      generalize idx[i] = q at p0 hq0 d0 d1
      have hq' : (q : Int) < (ol.length : Int) := by omega
      go_wp2_with (at_builtin; refine wpList_append_own _ rfl _ _ 116 rfl w2.heap.size 129 j0 _ 2 16 Tryz.underlying116 hj0 hy0 hy1 hy2 rfl (by decide) _ _ _ rfl (unhide HM2).own ⟨wr.heap.size, 0, none⟩ 1 1 (qcells z) rfl rfl (nnews_at rfl _ _) (one_qcells _) (by unfold maxLen; omega) (by omega) (by simp; omega) ?_)
      intro v' w4 hown4 hgr4 _
      have hm4 := (unhide HM2).more hown4 hgr4
      obtain ⟨ao4, cp4, rfl⟩ := hm4.shape
      have HM4 := hide hm4
      clear hm4 hown4 hgr4
      go_wp2_with fail
      go_roundg (l.length - (i + 1))
      case measure => rw [unhide HK]; omega
      case rel => exact ⟨i + 1, ys ++ [z], ao4, cp4, rfl, by omega, rfl, rfl, ⟨by rw [unhide HPS, ← (unhide HE).1], allS_one (unhide HE).2 (unhide HX)⟩, unhide HM4⟩
    · have hlt' : ¬ (i : Int) < (l.length : Int) := by omega
      have HYs := hide (show ys = picked idx ol by rw [(unhide HE).1, List.take_of_length_le (by rw [unhide HIl]; omega)])
      have hbf : ∀ o, wr.frozen? ⟨db, o, none⟩ = false := fun o => blk_free ((unhide HD2).below (unhide HM).bel).blk o
      clear hm
      go_wp2_with fail
      go_ret
      have hfin : DkIs (wr.setCell ⟨db, 0, none⟩ (.slice ao' ys.length cp)) db ⟨ao', cp, ys⟩ av' (ls ++ [⟨ao, cap, l⟩]) := ((unhide HD2).below (unhide HM).bel).setCur (c' := ⟨ao', cp, ys⟩) ((unhide HM).rl (unhide HE).2 hyb)
      rw [unhide HPl]
      refine ⟨rfl, SlC.mk ao' cp ys, av', ls ++ [SlC.mk ao cap l], hfin, ?_, (((Fc.of_below (unhide HB)).trans (unhide HC2)).trans (Fc.of_below (unhide HM).bel)).setCell _ _, by simp⟩
      rw [awayOf_snoc _ (SlC.mk ao cap l), unhide HYs]
def homeAt (idx : List Nat) (ys : List Rat) (x : Rat) (i k : Nat) : Rat := match ((idx.zip ys).take k).find? (fun e => e.1 == i) with
  | some e => e.2
  | none => x
theorem find_none {idx : List Nat} {ys : List Rat} {k i : Nat} (h : ∀ j (hj : j < idx.length), j < k → idx[j] ≠ i) : ((idx.zip ys).take k).find? (fun e => e.1 == i) = none := by
  rw [List.find?_eq_none]
  rintro ⟨a, b⟩ hm
  obtain ⟨j, hj, he⟩ := List.getElem_of_mem hm
  rw [List.getElem_take, List.getElem_zip] at he
  have h1 : j < k := by rw [List.length_take] at hj; omega
  have h2 : j < idx.length := by rw [List.length_take, List.length_zip] at hj; omega
  have := h j h2 h1
  have e1 : idx[j] = a := (Prod.mk.inj he).1
  rw [e1] at this
  simpa using this
theorem homeAt_succ {idx : List Nat} {ys : List Rat} (hn : idx.Nodup) (x : Rat) (i k : Nat) (hk : k < idx.length) (hy : k < ys.length) : homeAt idx ys x i (k + 1) = if idx[k] = i then ys[k] else homeAt idx ys x i k := by
  have hz : k < (idx.zip ys).length := by rw [List.length_zip]; omega
  unfold homeAt
  rw [List.take_succ_eq_append_getElem hz, List.find?_append, List.getElem_zip]
  by_cases he : idx[k] = i
  · rw [if_pos he, find_none (fun j hj hlt e => by
      have := (List.getElem_inj (h₀ := hj) (h₁ := hk) hn).1 (e.trans he.symm)
      omega)]
    simp [he]
  · rw [if_neg he]
    simp [he]
theorem homeAt_all {idx : List Nat} {ys l : List Rat} {i : Nat} (hi : i < l.length) {k : Nat} (hk : idx.length ≤ k) : homeAt idx ys l[i] i k = (layAt idx ys l)[i]'(by unfold layAt; simpa using hi) := by
  unfold homeAt layAt
  rw [List.take_of_length_le (by rw [List.length_zip]; omega), List.getElem_map, List.getElem_range, getD_at hi]
  rfl
theorem layAt_len (idx : List Nat) (ys l : List Rat) : (layAt idx ys l).length = l.length := by unfold layAt; simp
theorem homeAt_small {idx : List Nat} {ys : List Rat} (hn : idx.Nodup) (hl : ys.length = idx.length) {x : Rat} (hx : small x = true) (hy : AllS ys) (i : Nat) : ∀ k, k ≤ idx.length → small (homeAt idx ys x i k) = true
  | 0, _ => hx
  | k + 1, hk => by
    rw [homeAt_succ hn x i k (by omega) (by omega)]
    split
    · exact hy _ (List.getElem_mem _)
    · exact homeAt_small hn hl hx hy i k (by omega)
structure NbIs (wr : World) (z : Rat) (wi : World) : Prop where
  bel : Below wr.heap.size wr wi
  blk : wi.heap[wr.heap.size]? = some (.cells #[.int .i64 z.num, .int .i64 (z.den : Int)] 129 (0, 0))
theorem NbIs.set {wr wi : World} {z z' : Rat} (h : NbIs wr z wi) : NbIs wr z' ((wi.setCell ⟨wr.heap.size, 0, none⟩ (.int .i64 z'.num)).setCell ⟨wr.heap.size, 1, none⟩ (.int .i64 (z'.den : Int))) :=
  ⟨(h.bel.setCell (p := ⟨wr.heap.size, 0, none⟩) (Nat.le_refl _) _).setCell (p := ⟨wr.heap.size, 1, none⟩) (Nat.le_refl _) _, blk_set (blk_set h.blk 0 _) 1 _⟩
set_option maxRecDepth 100000 in
set_option maxHeartbeats 6400000 in
theorem play_home {w : World} {db : Nat} {c o a : SlC} {av : Value} {ls0 : List SlC} {x : RC} {idx : List Nat} (f : Nat) (hx : RSt w x .home) (h : DkIs w db c av (ls0 ++ [o] ++ [a])) (hai : a.l = idx.map rnat) (hnd : idx.Nodup) (hl : ls0.length ≤ 900000) :
    Calls Tryz.prog 71 #[.pointer (some ⟨db, 0, none⟩), RC.value x] w fun e w' => DPlay db av (ls0 ++ [o] ++ [a]).length w (St.home.play ⟨c.l, awayOf (ls0 ++ [o] ++ [a])⟩ f) e w' := by
  obtain ⟨j0, hj0, hy0, hy1, hy2⟩ := info_parts Tryz.infoNum
  obtain ⟨Kd, P, Q, K, pa, pn, pc, F, G⟩ := x
  have hk : Kd = 76 := hx
  subst hk
  clear hx
  rw [show RC.value ⟨76, P, Q, K, pa, pn, pc, F, G⟩ = .agg #[.int .u8 76, .int .i64 P, .int .i64 Q, .int .i64 K, .slice pa pn pc, .string F, .string G] from rfl]
  obtain ⟨ao, cap, l⟩ := c
  obtain ⟨aa, acap, al⟩ := a
  replace hai : al = idx.map rnat := hai
  have HPl := hide (show St.home.play ⟨l, awayOf (ls0 ++ [o] ++ [SlC.mk aa acap al])⟩ f = if l.length = al.length then .ok ⟨layAt idx l o.l, awayOf ls0⟩ f else .err 11 by
    rw [awayOf_snoc, awayOf_snoc]
    show (if l.length = al.length then PRes.ok ⟨layAt (places al) l o.l, awayOf ls0⟩ f else .err 11) = _
    rw [hai, places_rnat])
  have hil : idx.length = al.length := by rw [hai]; simp
  have HAi := hide hai
  have HNd := hide hnd
  have HIl := hide hil
  obtain ⟨ls, hls⟩ : ∃ ls, ls = ls0 ++ [o] ++ [SlC.mk aa acap al] := ⟨_, rfl⟩
  rw [← hls] at h HPl ⊢
  have HLs := hide hls
  have hb : Below w.heap.size w (w.alloc (.cells #[.int .u8 76, .int .i64 P, .int .i64 Q, .int .i64 K, .slice pa pn pc, .string F, .string G] 131)) := (Below.refl _ _).alloc (Nat.le_refl _) _
  have HA := hide (h.below hb)
  have HB := hide hb
  clear h hb hai hnd hil hls
  go_enter Tryz.func71, Tryz.ntmps71
  go_wp2_with fail
  generalize w.alloc (.cells #[.int .u8 76, .int .i64 P, .int .i64 Q, .int .i64 K, .slice pa pn pc, .string F, .string G] 131) = wA at HA HB ⊢
  refine (top_last (ls1 := ls0 ++ [o]) (a := ⟨aa, acap, al⟩) (by rw [← unhide HLs]; exact unhide HA) (by simp; omega)).mono ?_
  rintro e w1 ⟨rfl, hb1⟩
  have HD1 := hide ((unhide HA).below hb1)
  have HB1 := hide ((unhide HB).trans (hb1.mono (unhide HB).size))
  clear hb1 HA
  rw [show (SlC.mk aa acap al).value = .slice aa al.length acap from rfl]
  go_wp2_with fail
  refine (top_under (ls0 := ls0) (o := o) (a := ⟨aa, acap, al⟩) (by rw [← unhide HLs]; exact unhide HD1) hl).mono ?_
  rintro e w2 ⟨rfl, hb2⟩
  have HD := hide ((unhide HD1).below hb2)
  have HB2 := hide ((unhide HB1).trans (hb2.mono (unhide HB1).size))
  clear hb2 HD1 HB1
  obtain ⟨oo, oc, ol⟩ := o
  have HRo : Hid (RL w2 oo oc ol) := hide ((unhide HD).rl ⟨oo, oc, ol⟩ (by rw [unhide HLs]; simp))
  have HRa : Hid (RL w2 aa acap al) := hide ((unhide HD).rl ⟨aa, acap, al⟩ (by rw [unhide HLs]; simp))
  have HRc : Hid (RL w2 ao cap l) := hide (unhide HD).cur
  rw [show (SlC.mk oo oc ol).value = .slice oo ol.length oc from rfl]
  have a0 : w2.cell? ⟨db, 0, none⟩ = some (.slice ao l.length cap) := blk_cell (unhide HD).blk 0
  have hdz : db < w2.heap.size := lt_of_block (unhide HD).blk
  have hol : ol.length ≤ 1000 := (unhide HRo).len
  have hal : al.length ≤ 1000 := (unhide HRa).len
  have hll : l.length ≤ 1000 := (unhide HRc).len
  by_cases hq : l.length = al.length
  · have hq1 : (((al.length : Nat) : Int) != ((l.length : Nat) : Int)) = false := by rw [hq]; simp
    have HQ := hide hq
    clear hq
    go_wp2_with fail
    go_loopg [12, 13] ol.length (fun kk v12 v13 wr => ∃ (i : Nat) (ys : List Rat) (ao' : Option Addr) (cp : Nat), kk = ol.length - i ∧ i ≤ ol.length ∧ v13 = .int .i64 (i : Int) ∧ v12 = .slice ao' ys.length cp ∧ (ys = (layAt idx l ol).take i ∧ AllS ys) ∧ RM w2 (.slice ao' ys.length cp) ys wr)
    case atStart => exact ⟨0, [], none, 0, rfl, Nat.zero_le _, rfl, rfl, ⟨rfl, fun _ h => by (cases h)⟩, RM.start w2⟩
    case round =>
      obtain ⟨i, ys, ao', cp, hk, hi, rfl, rfl, he, hm⟩ := hrel
      have HK := hide hk
      have HE := hide he
      have HM := hide hm
      have hyb : ys.length ≤ 1000 := by
        rw [he.1, List.length_take]
        omega
      clear hk he
      by_cases hlt : i < ol.length
      · have hlt' : (i : Int) < (ol.length : Int) := by omega
        obtain ⟨g, rfl, hg, hcl⟩ := (unhide HRo).cell (by omega)
        obtain ⟨d0, d1⟩ := hcl i hlt
        rw [← hm.bel.cell (p := ⟨g, i * 2, none⟩) hg] at d0
        rw [← hm.bel.cell (p := ⟨g, i * 2 + 1, none⟩) hg] at d1
        have HX := hide ((unhide HRo).small ol[i] (List.getElem_mem hlt))
        have HLay := hide (show (layAt idx l ol).take (i + 1) = (layAt idx l ol).take i ++ [homeAt idx l ol[i] i al.length] by
          rw [List.take_succ_eq_append_getElem (by rw [layAt_len]; exact hlt), homeAt_all hlt (by rw [unhide HIl]; exact Nat.le_refl _)])
        clear hcl hm
        generalize ol[i] = z at d0 d1 HX HLay
        have hsz := (unhide HM).bel.size
        have HN0 : Hid (NbIs wr (homeAt idx l z i 0) (wr.alloc (.cells #[.int .i64 z.num, .int .i64 (z.den : Int)] 129))) := hide ⟨(Below.refl _ _).alloc (Nat.le_refl _) _, heap_alloc_new _ _⟩
        obtain ⟨wo, hwo⟩ : ∃ wo, wo = wr := ⟨_, rfl⟩
        subst hwo
        go_wp2_with fail
        go_loopg [15] al.length (fun kk v15 wi => ∃ k : Nat, kk = al.length - k ∧ k ≤ al.length ∧ v15 = .int .i64 (k : Int) ∧ NbIs wo (homeAt idx l z i k) wi)
        case atStart => exact ⟨0, rfl, Nat.zero_le _, rfl, unhide HN0⟩
        case round =>
          obtain ⟨k, hk2, hkl, rfl, hnb⟩ := hrel
          have HK2 := hide hk2
          have HNb := hide hnb
          have hwz : w2.heap.size ≤ wo.heap.size := hsz
          clear hk2 hnb d0 d1
          by_cases hkt : k < al.length
          · have hkt' : (k : Int) < (al.length : Int) := by omega
            have hki : k < idx.length := by rw [unhide HIl]; exact hkt
            have hkc : k < l.length := by rw [unhide HQ]; exact hkt
            obtain ⟨ga, rfl, hga, hca⟩ := (unhide HRa).cell (by omega)
            obtain ⟨p0, _⟩ := hca k hkt
            rw [map_rnat_at (unhide HAi) hkt hki, ← (unhide HM).bel.cell (p := ⟨ga, k * 2, none⟩) hga, ← (unhide HNb).bel.cell (p := ⟨ga, k * 2, none⟩) (Nat.lt_of_lt_of_le hga hwz)] at p0
            have HSu := hide (homeAt_succ (ys := l) (unhide HNd) z i k hki hkc)
            clear hca
            by_cases he : idx[k] = i
            · have he' : (((idx[k] : Nat) : Int) == ((i : Nat) : Int)) = true := by rw [he]; simp
              rw [if_pos he] at HSu
              obtain ⟨gc, rfl, hgc, hcc⟩ := (unhide HRc).cell (by omega)
              obtain ⟨c0, c1⟩ := hcc k hkc
              rw [← (unhide HM).bel.cell (p := ⟨gc, k * 2, none⟩) hgc, ← (unhide HNb).bel.cell (p := ⟨gc, k * 2, none⟩) (Nat.lt_of_lt_of_le hgc hwz)] at c0
              rw [← (unhide HM).bel.cell (p := ⟨gc, k * 2 + 1, none⟩) hgc, ← (unhide HNb).bel.cell (p := ⟨gc, k * 2 + 1, none⟩) (Nat.lt_of_lt_of_le hgc hwz)] at c1
              have b0 : wr.cell? ⟨db, 0, none⟩ = some (.slice (some ⟨gc, 0, none⟩) l.length cap) := (((unhide HNb).bel.cell (p := ⟨db, 0, none⟩) (Nat.lt_of_lt_of_le hdz hwz)).trans ((unhide HM).bel.cell (p := ⟨db, 0, none⟩) hdz)).trans a0
              have hfz : ∀ o, wr.frozen? ⟨wo.heap.size, o, none⟩ = false := fun o => blk_free (unhide HNb).blk o
              have n0 : wr.cell? ⟨wo.heap.size, 0, none⟩ = some (.int .i64 (homeAt idx l z i k).num) := blk_cell (unhide HNb).blk 0
              have n1 : wr.cell? ⟨wo.heap.size, 1, none⟩ = some (.int .i64 ((homeAt idx l z i k).den : Int)) := blk_cell (unhide HNb).blk 1
              have HNs := hide ((unhide HNb).set (z' := l[k]))
              have hkc' : (k : Int) < (l.length : Int) := by omega
              clear hcc he
              generalize idx[k] = q at p0 he'
              generalize l[k] = y at c0 c1 HSu HNs
              go_wp2_with fail
              go_roundg (al.length - (k + 1))
              case measure => rw [unhide HK2]; omega
              case rel => exact ⟨k + 1, rfl, by omega, rfl, by rw [unhide HSu]; exact unhide HNs⟩
            · have he' : (((idx[k] : Nat) : Int) == ((i : Nat) : Int)) = false := by rw [beq_eq_false_iff_ne]; omega
              rw [if_neg he] at HSu
              clear he
              generalize idx[k] = q at p0 he'
              go_wp2_with fail
              go_roundg (al.length - (k + 1))
              case measure => rw [unhide HK2]; omega
              case rel => exact ⟨k + 1, rfl, by omega, rfl, by rw [unhide HSu]; exact unhide HNb⟩
          · have hkt' : ¬ (k : Int) < (al.length : Int) := by omega
            have HKE := hide (show k = al.length by omega)
            rw [← unhide HKE] at HLay
            have HSm := hide (homeAt_small (unhide HNd) (by rw [unhide HQ, unhide HIl]) (unhide HX) (unhide HRc).small i k (by rw [unhide HIl]; exact hkl))
            generalize homeAt idx l z i k = y at HNb HLay HSm
            have n0 : wr.cell? ⟨wo.heap.size, 0, none⟩ = some (.int .i64 y.num) := blk_cell (unhide HNb).blk 0
            have n1 : wr.cell? ⟨wo.heap.size, 1, none⟩ = some (.int .i64 (y.den : Int)) := blk_cell (unhide HNb).blk 1
            have HM2 := hide (((unhide HM).below (unhide HNb).bel).below ((Below.refl _ _).alloc (Nat.le_refl _) (.cells (qcells y).toArray 129)))
            have hs2 := (unhide HNb).bel.size
            go_wp2_with (at_builtin; refine wpList_append_own _ rfl _ _ 116 rfl w2.heap.size 129 j0 _ 2 16 Tryz.underlying116 hj0 hy0 hy1 hy2 rfl (by decide) _ _ _ rfl (unhide HM2).own ⟨wr.heap.size, 0, none⟩ 1 1 (qcells y) rfl rfl (nnews_at rfl _ _) (one_qcells _) (by unfold maxLen; omega) (by omega) (by simp; omega) ?_)
            intro v' w4 hown4 hgr4 _
            have hm4 := (unhide HM2).more hown4 hgr4
            obtain ⟨ao4, cp4, rfl⟩ := hm4.shape
            have HM4 := hide hm4
            clear hm4 hown4 hgr4
            go_wp2_with fail
            go_roundg (ol.length - (i + 1))
            case measure => rw [unhide HK]; omega
            case rel => exact ⟨i + 1, ys ++ [y], ao4, cp4, rfl, by omega, rfl, rfl, ⟨by rw [unhide HLay, ← (unhide HE).1], allS_one (unhide HE).2 (unhide HSm)⟩, unhide HM4⟩
      · have hlt' : ¬ (i : Int) < (ol.length : Int) := by omega
        have HYs := hide (show ys = layAt idx l ol by
          have := (unhide HE).1
          rw [List.take_of_length_le (by rw [layAt_len]; omega)] at this
          exact this)
        have HDm := hide ((unhide HD).below (unhide HM).bel)
        have hfm : ∀ o, wr.frozen? ⟨db, o, none⟩ = false := fun o => blk_free (unhide HDm).blk o
        have hdc : DkIs (wr.setCell ⟨db, 0, none⟩ (.slice ao' ys.length cp)) db ⟨ao', cp, ys⟩ av ls := (unhide HDm).setCur (c' := ⟨ao', cp, ys⟩) ((unhide HM).rl (unhide HE).2 hyb)
        have hcc : Fc db av w av (wr.setCell ⟨db, 0, none⟩ (.slice ao' ys.length cp)) := ((Fc.of_below (unhide HB2)).trans (Fc.of_below (unhide HM).bel)).setCell _ _
        have HDc := hide hdc
        have HCc := hide hcc
        have m0 : wr.cell? ⟨db, 0, none⟩ = some (.slice ao l.length cap) := blk_cell (unhide HDm).blk 0
        clear hdc hcc hm
        go_upto_region 36 with fail
        obtain ⟨wB, hwB⟩ : ∃ wB, wB = wr.setCell ⟨db, 0, none⟩ (.slice ao' ys.length cp) := ⟨_, rfl⟩
        rw [← hwB] at HDc HCc ⊢
        obtain ⟨ga, ca, hav, hcap⟩ : ∃ g cap, av = .slice (some ⟨g, 0, none⟩) (ls0.length + 2) cap ∧ ls0.length + 2 ≤ cap := by
          have e : ls.length = ls0.length + 2 := by rw [unhide HLs]; simp
          rcases (unhide HDc).aw.2 with ⟨_, h2⟩ | ⟨g, cap, cur, hv, _, _, hn, _⟩
          · rw [e] at h2; omega
          · rw [e] at hv hn; exact ⟨g, cap, hv, hn⟩
        subst hav
        have b1 : wB.cell? ⟨db, 1, none⟩ = some (.slice (some ⟨ga, 0, none⟩) (ls0.length + 2) ca) := blk_cell (unhide HDc).blk 1
        have hfB : ∀ o, wB.frozen? ⟨db, o, none⟩ = false := fun o => blk_free (unhide HDc).blk o
        have hcap' : (ls0.length : Int) ≤ (ca : Int) := by omega
        clear hwB m0 hfm
        have HDf : Hid (DkIs (wB.setCell ⟨db, 1, none⟩ (.slice (some ⟨ga, 0, none⟩) ls0.length ca)).drew db ⟨ao', cp, ys⟩ (.slice (some ⟨ga, 0, none⟩) ls0.length ca) ls0 ∧ Fc db (.slice (some ⟨ga, 0, none⟩) (ls0.length + 2) ca) w (.slice (some ⟨ga, 0, none⟩) ls0.length ca) (wB.setCell ⟨db, 1, none⟩ (.slice (some ⟨ga, 0, none⟩) ls0.length ca)).drew) := hide (by
          have e : ls.length = ls0.length + 2 := by rw [unhide HLs]; simp
          have h1 := unhide HDc
          have h2 : Fc db (.slice (some ⟨ga, 0, none⟩) (ls0.length + 2) ca) w (.slice (some ⟨ga, 0, none⟩) ls0.length ca) wB := ⟨(unhide HCc).chg, Or.inl rfl⟩
          rw [← e, unhide HLs] at h1
          exact ⟨h1.pop.below (Below.drew (Below.refl _ _)), (h2.setCell _ _).trans (Fc.of_below (Below.drew (Below.refl _ _)))⟩)
        go_region
        all_goals go_wp2_with fail
        all_goals go_ret
        all_goals rw [unhide HPl, if_pos (unhide HQ)]
        all_goals exact ⟨rfl, SlC.mk ao' cp ys, _, ls0, (unhide HDf).1, by rw [unhide HYs], (unhide HDf).2, by rw [unhide HLs]; simp; omega⟩
  · have hq1 : (((al.length : Nat) : Int) != ((l.length : Nat) : Int)) = true := by rw [bne_iff_ne]; omega
    have HQ := hide (show (if l.length = al.length then (PRes.ok ⟨layAt idx l ol, awayOf ls0⟩ f) else .err 11) = .err 11 from if_neg hq)
    clear hq
    go_wp2_with fail
    go_ret
    rw [unhide HPl, unhide HQ]
    exact ⟨rfl, by decide, av, Fc.of_below (unhide HB2)⟩
end Go.Proofs.YtikiaijgcjjloaaGreatDoor

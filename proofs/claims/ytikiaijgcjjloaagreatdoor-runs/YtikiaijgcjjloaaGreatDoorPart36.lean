import Derived.Test.YtikiaijgcjjloaaGreatDoorPart35
import Derived.Test.YtikiaijgcjjloaaGreatDoorPart27

namespace Go.Proofs.YtikiaijgcjjloaaGreatDoor
open Go Go.RowKit M T Go.Lib
theorem picked_rnat (idx : List Nat) (n : Nat) (h : ∀ i ∈ idx, i < n) : picked idx (allPlaces n) = idx.map rnat := by
  unfold picked
  apply List.map_congr_left
  intro i hi
  have hi' := h i hi
  unfold allPlaces
  simp [List.getD, hi', rnat]
theorem irowP_but {w w' : World} {rb g cap n : Nat} {ps : List Nat} {c : Array Value} (h : w.ownsRow 0 3 1 (.slice (some ⟨g, 0, none⟩) n cap) ps.length (irowP ps)) (hr : w.heap[rb]? = some (.cells c 106 (0, 0))) (hb : But rb w w') : w'.ownsRow 0 3 1 (.slice (some ⟨g, 0, none⟩) n cap) ps.length (irowP ps) := by
  refine ⟨h.1, ?_⟩
  rcases h.2 with h2 | ⟨g', cap', cur, hv, hg, hh, r⟩
  · exact Or.inl h2
  · refine Or.inr ⟨g', cap', cur, hv, hg, ?_, r⟩
    rw [hb.block g' (lt_of_block hh) (by rintro rfl; exact absurd (blk_ty hr hh) (by decide))]
    exact hh
theorem natl_at {s : Tm} (hp : s.picker = true) (hw : s.wf) (n f : Nat) {l2 : List Rat} {f2 : Nat} (h : s.run false (allPlaces n) f = .ok l2 f2) : ∃ idx : List Nat, idx.Nodup ∧ (∀ i ∈ idx, i < n) ∧ l2 = idx.map rnat := by
  rcases Tm.natl s hp hw false n f with ⟨e, he⟩ | ⟨idx, f', hnd, hlt, hidx⟩
  · rw [he _ (allPlaces_len n)] at h; cases h
  · rw [hidx _ (allPlaces_len n)] at h
    cases h
    exact ⟨idx, hnd, hlt, picked_rnat idx n hlt⟩
theorem places_rnat (idx : List Nat) : places (idx.map rnat) = idx := by
  unfold places
  rw [List.map_map]
  conv => rhs; rw [← List.map_id idx]
  apply List.map_congr_left
  intro i _
  show (rnat i).num.toNat = i
  rw [rnat_num]
  rfl
def PickGot (rb n : Nat) (r : Res) (e : Ending) (w' : World) : Prop := (∃ idx f1 g' cap' gp cp, r = .ok (idx.map rnat) f1 ∧ idx.Nodup ∧ (∀ i ∈ idx, i < n) ∧ e = .returned (.tuple #[.slice (some ⟨gp, 0, none⟩) idx.length cp, .int .i64 0]) ∧ RunIs w' rb g' cap' (idx.map rnat) f1 ∧ w'.ownsRow 0 3 1 (.slice (some ⟨gp, 0, none⟩) idx.length cp) idx.length (irowP idx)) ∨ (∃ c, r = .err c ∧ c ≠ 0 ∧ e = .returned (.tuple #[.slice none 0 0, .int .i64 c]))
set_option maxRecDepth 100000 in
set_option maxHeartbeats 1600000 in
theorem pickRun_any {s : Tm} {sb rb g cap f : Nat} {l : List Rat} {w : World} (hT : ThereAt f) (hw : s.wf) (hpk : s.picker = true) (ht : TmIs (fun k => k < w.heap.size) w sb s) (h : RunIs w rb g cap l f) :
    Calls Tryz.prog 173 #[.pointer (some ⟨rb, 0, none⟩), .pointer (some ⟨sb, 0, none⟩)] w fun e w' => PickGot rb l.length (s.run false (allPlaces l.length) f) e w' ∧ But rb w w' := by
  have r0 : w.cell? ⟨rb, 0, none⟩ = some (.slice (some ⟨g, 0, none⟩) l.length cap) := blk_cell h.blk 0
  have hfew := h.few
  have HT := hide hT
  have HW := hide hw
  have HPk := hide hpk
  have HTm := hide ht
  have H := hide h
  obtain ⟨r, hr⟩ : ∃ r, r = s.run false (allPlaces l.length) f := ⟨_, rfl⟩
  rw [← hr]
  have HR := hide hr
  clear hT hw hpk ht h hr
  go_enter Tryz.func173, Tryz.ntmps173
  go_wp2_with fail
  refine (allPlaces_any l.length (by omega) _).mono ?_
  rintro e w1 ⟨⟨g1, cap1, rfl, hown1⟩, hb1⟩
  have hr1 := (unhide H).below hb1
  have s0 : w1.cell? ⟨rb, 0, none⟩ = some (.slice (some ⟨g, 0, none⟩) l.length cap) := blk_cell hr1.blk 0
  have s1 : w1.frozen? ⟨rb, 0, none⟩ = false := blk_free hr1.blk 0
  have hput : RunIs (w1.setCell ⟨rb, 0, none⟩ (.slice (some ⟨g1, 0, none⟩) l.length cap1)) rb g1 cap1 (allPlaces l.length) f := by
    have := (unhide H).put (l' := allPlaces l.length) (g' := g1) (cap' := cap1) hb1 (by rw [allPlaces_len]; exact hown1) (allPlaces_small (by omega)) (by rw [allPlaces_len]; exact hfew)
    rw [allPlaces_len] at this
    exact this
  have hbut : But rb w (w1.setCell ⟨rb, 0, none⟩ (.slice (some ⟨g1, 0, none⟩) l.length cap1)) := (But.of_below hb1).setCell 0 _
  have HRun1 := hide hput
  have HB1 := hide hbut
  have HTm1 := hide ((unhide HTm).run (unhide H).blk hbut)
  clear hown1 hb1 hr1 hput hbut
  go_wp2_with fail
  refine (unhide HT s sb rb g1 cap1 _ _ (unhide HW) (unhide HTm1) (unhide HRun1)).mono ?_
  rintro e w2 ⟨hg, hb2⟩
  have HB2 := hide ((unhide HB1).trans hb2)
  clear hb2
  rcases hg with ⟨l2, f2, g2, cap2, hres, rfl, hrun2⟩ | ⟨c, hres, hne, rfl⟩
  · obtain ⟨idx, hnd, hlt, rfl⟩ := natl_at (unhide HPk) (unhide HW) _ _ hres
    have t0 : w2.cell? ⟨rb, 0, none⟩ = some (.slice (some ⟨g2, 0, none⟩) idx.length cap2) := by
      have := blk_cell hrun2.blk 0
      rw [List.length_map] at this
      exact this
    have HE := hide (show r = .ok (idx.map rnat) f2 by rw [unhide HR]; exact hres)
    have HRun2 := hide hrun2
    have HNd := hide hnd
    have HLt := hide hlt
    clear hres hrun2 hnd hlt s0 s1
    go_wp2_with fail
    refine (readPls_any (unhide HRun2).lis).mono ?_
    rintro e w3 ⟨⟨gp, cp, rfl, hown3⟩, hb3⟩
    have HO3 := hide hown3
    have HB3 := hide hb3
    clear hown3 hb3
    go_wp2_with fail
    exact bodyPost_ret (v := .tuple #[.slice (some ⟨gp, 0, none⟩) idx.length cp, .int .i64 0]) (by simp [results, Tryz.results173, go_sem]) rfl ⟨Or.inl ⟨idx, f2, g2, cap2, gp, cp, unhide HE, unhide HNd, unhide HLt, rfl, (unhide HRun2).below (unhide HB3), owns_base (unhide HO3) (Nat.zero_le _)⟩, (unhide HB2).trans (But.of_below (unhide HB3))⟩
  · have HE := hide (show r = .err c by rw [unhide HR]; exact hres)
    have hne' : (c != 0) = true := by rw [bne_iff_ne]; exact hne
    have HNe := hide hne
    clear hres hne
    go_wp2_with fail
    exact bodyPost_ret (v := .tuple #[.slice none 0 0, .int .i64 c]) (by simp [results, Tryz.results173, go_sem]) rfl ⟨Or.inr ⟨c, unhide HE, unhide HNe, rfl⟩, unhide HB2⟩
theorem pickE_ok {idx : List Nat} {l : List Rat} (h : ∀ i ∈ idx, i < l.length) : pickE idx l = .ok (picked idx l) := if_pos (List.all_eq_true.2 (fun j hj => by simpa using h j hj))
set_option maxRecDepth 100000 in
set_option maxHeartbeats 1600000 in
theorem underPicker_any {s q : Tm} {b : Bool} {sb qb rb g cap f : Nat} {l : List Rat} {w : World} (hT : ∀ f', f' ≤ f → ThereAt f') (hW : ∀ f', f' ≤ f → WayAt f') (hws : s.wf) (hwq : q.wf) (hpk : s.picker = true) (hbk : b = true → q.back = true) (hts : TmIs (fun k => k < w.heap.size) w sb s) (htq : TmIs (fun k => k < w.heap.size) w qb q) (h : RunIs w rb g cap l f) :
    Calls Tryz.prog 162 #[.pointer (some ⟨rb, 0, none⟩), .pointer (some ⟨sb, 0, none⟩), .pointer (some ⟨qb, 0, none⟩), .bool b] w fun e w' => RGot rb (underRun (s.run false) (q.run b) l f) e w' ∧ But rb w w' := by
  have r0 : w.cell? ⟨rb, 0, none⟩ = some (.slice (some ⟨g, 0, none⟩) l.length cap) := blk_cell h.blk 0
  have hfew := h.few
  have HT := hide hT
  have HW := hide hW
  have HWs := hide hws
  have HWq := hide hwq
  have HPk := hide hpk
  have HBk := hide hbk
  have HTs := hide hts
  have HTq := hide htq
  have H := hide h
  obtain ⟨r, hr⟩ : ∃ r, r = underRun (s.run false) (q.run b) l f := ⟨_, rfl⟩
  rw [← hr]
  have HR := hide hr
  clear hT hW hws hwq hpk hbk hts htq h hr
  go_enter Tryz.func162, Tryz.ntmps162
  go_wp2_with fail
  refine (pickRun_any (unhide HT f (Nat.le_refl _)) (unhide HWs) (unhide HPk) (unhide HTs) (unhide H)).mono ?_
  rintro e w1 ⟨hg, hb1⟩
  have HB1 := hide hb1
  have HTq1 := hide ((unhide HTq).run (unhide H).blk hb1)
  have HAll1 := hide ((unhide H).lis.but (unhide H).blk hb1)
  clear hb1 r0
  rcases hg with ⟨idx, f1, g1, cap1, gp, cp, hres, hnd, hlt, rfl, hrun1, hrow1⟩ | ⟨c, hres, hne, rfl⟩
  · have HE1 := hide (show r = Res.then (q.run b (picked idx l) f1) (fun ys f2 => if ys.length = idx.length then .ok (layAt idx ys l) f2 else .err 11) by
      rw [unhide HR, underRun, hres]
      show Res.then (q.run b (picked (places (idx.map rnat)) l) f1) (fun ys f2 => if ys.length = (idx.map rnat).length then .ok (layAt (places (idx.map rnat)) ys l) f2 else .err 11) = _
      rw [places_rnat, List.length_map])
    have HF := hide (show f1 ≤ f by
      obtain ⟨n, hn, _⟩ := Tm.paced s false _ _ _ _ hres
      omega)
    have HNd := hide hnd
    have HLt := hide hlt
    have HRun1 := hide hrun1
    have HRow1 := hide hrow1
    have hidl : idx.length ≤ 12 := by have := hrun1.few; rw [List.length_map] at this; exact this
    clear hres hnd hlt hrun1 hrow1
    go_wp2_with fail
    refine (takeAt_any (unhide HAll1) (unhide HRow1) (by omega) (fun i hi => by have := unhide HLt i hi; omega)).mono ?_
    rintro e w2 ⟨hl2, hb2⟩
    rw [pickE_ok (unhide HLt)] at hl2
    rcases hl2 with ⟨l2, g2, cap2, hk2, hal2, rfl, hown2⟩ | ⟨c, hk2, _, _⟩
    · obtain rfl : picked idx l = l2 := Except.ok.inj hk2
      have hlen2 : (picked idx l).length = idx.length := picked_length _ _
      have hr2 := (unhide HRun1).below hb2
      have s0 : w2.cell? ⟨rb, 0, none⟩ = some (.slice (some ⟨g1, 0, none⟩) (idx.map rnat).length cap1) := blk_cell hr2.blk 0
      have s1 : w2.frozen? ⟨rb, 0, none⟩ = false := blk_free hr2.blk 0
      have hput := (unhide HRun1).put hb2 hown2 hal2 (by rw [hlen2]; exact hidl)
      have hbut : But rb w1 (w2.setCell ⟨rb, 0, none⟩ (.slice (some ⟨g2, 0, none⟩) (picked idx l).length cap2)) := (But.of_below hb2).setCell 0 _
      have HRun2 := hide hput
      have HB2 := hide ((unhide HB1).trans hbut)
      have HTq2 := hide ((unhide HTq1).run (unhide HRun1).blk hbut)
      have HAll2 := hide ((unhide HAll1).but (unhide HRun1).blk hbut)
      have HRow2 := hide (irowP_but (unhide HRow1) (unhide HRun1).blk hbut)
      clear hk2 hal2 hown2 hb2 hr2 hput hbut hlen2
      go_wp2_with fail
      refine (unhide HW f1 (unhide HF) q b qb rb g2 cap2 _ _ (unhide HWq) (unhide HBk) (unhide HTq2) (unhide HRun2)).mono ?_
      rintro e w3 ⟨hg3, hb3⟩
      have HB3 := hide ((unhide HB2).trans hb3)
      have HAll3 := hide ((unhide HAll2).but (unhide HRun2).blk hb3)
      have HRow3 := hide (irowP_but (unhide HRow2) (unhide HRun2).blk hb3)
      clear hb3 s0 s1
      rcases hg3 with ⟨ys, f3, g3, cap3, hres3, rfl, hrun3⟩ | ⟨c, hres3, hne, rfl⟩
      · have HE3 := hide (show r = if ys.length = idx.length then .ok (layAt idx ys l) f3 else .err 11 by rw [unhide HE1, hres3]; rfl)
        have t0 : w3.cell? ⟨rb, 0, none⟩ = some (.slice (some ⟨g3, 0, none⟩) ys.length cap3) := blk_cell hrun3.blk 0
        have HRun3 := hide hrun3
        clear hres3 hrun3
        go_wp2_with fail
        refine (layInto_any (unhide HAll3) (unhide HRun3).lis (unhide HRow3) (unhide HNd) (unhide HLt) (by omega)).mono ?_
        rintro e w4 ⟨hl4, hb4⟩
        have hr4 := (unhide HRun3).below hb4
        have u0 : w4.cell? ⟨rb, 0, none⟩ = some (.slice (some ⟨g3, 0, none⟩) ys.length cap3) := blk_cell hr4.blk 0
        have u1 : w4.frozen? ⟨rb, 0, none⟩ = false := blk_free hr4.blk 0
        by_cases hyl : ys.length = idx.length
        · rw [layE, if_pos hyl] at hl4
          rcases hl4 with ⟨l4, g4, cap4, hk4, hal4, rfl, hown4⟩ | ⟨c, hk4, _, _⟩
          · obtain rfl : layAt idx ys l = l4 := Except.ok.inj hk4
            have HE4 := hide (show r = .ok (layAt idx ys l) f3 by rw [unhide HE3, if_pos hyl])
            have HPut := hide ((unhide HRun3).put hb4 hown4 hal4 (by rw [layAt_length]; exact hfew))
            have HB4 := hide ((unhide HB3).trans ((But.of_below hb4).setCell 0 (.slice (some ⟨g4, 0, none⟩) (layAt idx ys l).length cap4)))
            clear hk4 hal4 hown4 hb4 hr4 t0
            generalize layAt idx ys l = lz at HE4 HPut HB4 ⊢
            go_wp2_with fail
            go_ret
            exact ⟨Or.inl ⟨lz, f3, g4, cap4, unhide HE4, rfl, unhide HPut⟩, unhide HB4⟩
          · cases hk4
        · rw [layE, if_neg hyl] at hl4
          rcases hl4 with ⟨l4, g4, cap4, hk4, _, _, _⟩ | ⟨c, hk4, _, rfl⟩
          · cases hk4
          · obtain rfl : (11 : Int) = c := Except.error.inj hk4
            have HE4 := hide (show r = .err 11 by rw [unhide HE3, if_neg hyl])
            have HB4 := hide ((unhide HB3).trans (But.of_below hb4))
            clear hk4 hb4 hr4 t0 u0 u1
            go_wp2_with fail
            go_ret
            exact ⟨Or.inr ⟨11, unhide HE4, by decide, rfl⟩, unhide HB4⟩
      · have HNx := hide (show r = .err c by rw [unhide HE1, hres3]; rfl)
        have hne' : (c != 0) = true := by rw [bne_iff_ne]; exact hne
        have HNe := hide hne
        clear hres3 hne
        go_wp2_with fail
        go_ret
        exact ⟨Or.inr ⟨c, unhide HNx, unhide HNe, rfl⟩, unhide HB3⟩
    · cases hk2
  · have HNx := hide (show r = .err c by rw [unhide HR, underRun, hres]; rfl)
    have hne' : (c != 0) = true := by rw [bne_iff_ne]; exact hne
    have HNe := hide hne
    clear hres hne
    go_wp2_with fail
    go_ret
    exact ⟨Or.inr ⟨c, unhide HNx, unhide HNe, rfl⟩, unhide HB1⟩
def underRes (s q : Tm) (b : Bool) (l : List Rat) (f : Nat) : Res :=
  if s.picker then underRun (s.run false) (q.run b) l f
  else if s.back && s.plain then Res.then (s.run false l f) fun l1 f1 => Res.then (q.run b l1 f1) (fun l2 f2 => s.run true l2 f2)
  else .err 12
theorem run_under (s q : Tm) (b : Bool) : (Pt.under s q).run b = stepped (underRes s q b) := Pt.run_fun _ _
set_option maxRecDepth 100000 in
set_option maxHeartbeats 1600000 in
theorem under_any {s q : Tm} {b : Bool} {sb qb rb g cap f : Nat} {l : List Rat} {w : World} (hT : ∀ f', f' ≤ f → ThereAt f') (hB : ∀ f', f' ≤ f → BackAt f') (hW : ∀ f', f' ≤ f → WayAt f') (hws : s.wf) (hwq : q.wf) (hbk : b = true → q.back = true) (hts : TmIs (fun k => k < w.heap.size) w sb s) (htq : TmIs (fun k => k < w.heap.size) w qb q) (h : RunIs w rb g cap l f) :
    Calls Tryz.prog 128 #[.pointer (some ⟨rb, 0, none⟩), .pointer (some ⟨sb, 0, none⟩), .pointer (some ⟨qb, 0, none⟩), .bool b] w fun e w' => RGot rb (underRes s q b l f) e w' ∧ But rb w w' := by
  have hcs := hts.cells
  have HT := hide hT
  have HB := hide hB
  have HW := hide hW
  have HWs := hide hws
  have HWq := hide hwq
  have HBk := hide hbk
  have HTs := hide hts
  have HTq := hide htq
  have H := hide h
  obtain ⟨r, hr⟩ : ∃ r, r = underRes s q b l f := ⟨_, rfl⟩
  rw [← hr]
  have HR := hide hr
  have HCs := hide hcs
  clear hT hB hW hws hwq hbk hts htq h hr hcs
  go_enter Tryz.func128, Tryz.ntmps128
  go_wp2_with fail
  refine (CanStandOver_any _ sb s.back s.picker s.plain (unhide HCs).2.1 (unhide HCs).2.2.1 (unhide HCs).2.2.2).mono ?_
  rintro e w0 ⟨rfl, hb0⟩
  have HB0 := hide (But.of_below (rb := rb) hb0)
  have HTs0 := hide ((unhide HTs).belowS hb0)
  have HTq0 := hide ((unhide HTq).belowS hb0)
  have HRun0 := hide ((unhide H).below hb0)
  have pc := (unhide HTs0).cells.2.2.1
  clear hb0
  cases hpk : s.picker with
  | true =>
    rw [hpk] at pc
    have HE := hide (show r = underRun (s.run false) (q.run b) l f by rw [unhide HR, underRes, if_pos hpk])
    have HPk := hide hpk
    clear hpk
    go_wp2_with fail
    refine (underPicker_any (unhide HT) (unhide HW) (unhide HWs) (unhide HWq) (unhide HPk) (unhide HBk) (unhide HTs0) (unhide HTq0) (unhide HRun0)).mono ?_
    rintro e w1 ⟨hg, hb1⟩
    have HG := hide hg
    have HB1 := hide ((unhide HB0).trans hb1)
    clear hb1
    rcases hg with ⟨l', f', g', cap', _, rfl, _⟩ | ⟨c, _, _, rfl⟩
    · go_wp2_with fail
      go_ret
      exact ⟨by rw [unhide HE]; exact unhide HG, unhide HB1⟩
    · go_wp2_with fail
      go_ret
      exact ⟨by rw [unhide HE]; exact unhide HG, unhide HB1⟩
  | false =>
    rw [hpk] at pc
    cases hbp : (s.back && s.plain) with
    | false =>
      have HE := hide (show r = .err 12 by rw [unhide HR, underRes, if_neg (by rw [hpk]; simp), if_neg (by rw [hbp]; simp)])
      clear hpk hbp
      go_wp2_with fail
      go_ret
      exact ⟨Or.inr ⟨12, unhide HE, by decide, rfl⟩, unhide HB0⟩
    | true =>
      have HE := hide (show r = Res.then (s.run false l f) fun l1 f1 => Res.then (q.run b l1 f1) (fun l2 f2 => s.run true l2 f2) by rw [unhide HR, underRes, if_neg (by rw [hpk]; simp), if_pos hbp])
      have HSb := hide (show s.back = true from (Bool.and_eq_true _ _ ▸ hbp : s.back = true ∧ s.plain = true).1)
      clear hpk hbp
      go_wp2_with fail
      refine (unhide HT f (Nat.le_refl _) s sb rb g cap l _ (unhide HWs) (unhide HTs0) (unhide HRun0)).mono ?_
      rintro e w1 ⟨hg, hb1⟩
      have HB1 := hide ((unhide HB0).trans hb1)
      have HTs1 := hide ((unhide HTs0).run (unhide HRun0).blk hb1)
      have HTq1 := hide ((unhide HTq0).run (unhide HRun0).blk hb1)
      clear hb1 pc
      rcases hg with ⟨l1, f1, g1, cap1, hres1, rfl, hrun1⟩ | ⟨c, hres1, hne, rfl⟩
      · have HE1 := hide (show r = Res.then (q.run b l1 f1) (fun l2 f2 => s.run true l2 f2) by rw [unhide HE, hres1]; rfl)
        have HF1 := hide (show f1 ≤ f by
          obtain ⟨n, hn, _⟩ := Tm.paced s false _ _ _ _ hres1
          omega)
        have HRun1 := hide hrun1
        clear hres1 hrun1
        go_wp2_with fail
        refine (unhide HW f1 (unhide HF1) q b qb rb g1 cap1 l1 _ (unhide HWq) (unhide HBk) (unhide HTq1) (unhide HRun1)).mono ?_
        rintro e w2 ⟨hg, hb2⟩
        have HB2 := hide ((unhide HB1).trans hb2)
        have HTs2 := hide ((unhide HTs1).run (unhide HRun1).blk hb2)
        clear hb2
        rcases hg with ⟨l2, f2, g2, cap2, hres2, rfl, hrun2⟩ | ⟨c, hres2, hne, rfl⟩
        · have HE2 := hide (show r = s.run true l2 f2 by rw [unhide HE1, hres2]; rfl)
          have HF2 := hide (show f2 ≤ f by
            obtain ⟨n, hn, _⟩ := Tm.paced q b _ _ _ _ hres2
            have := unhide HF1
            omega)
          have HRun2 := hide hrun2
          clear hres2 hrun2
          go_wp2_with fail
          refine (unhide HB f2 (unhide HF2) s sb rb g2 cap2 l2 _ (unhide HWs) (unhide HSb) (unhide HTs2) (unhide HRun2)).mono ?_
          rintro e w3 ⟨hg, hb3⟩
          have HG := hide hg
          have HB3 := hide ((unhide HB2).trans hb3)
          clear hb3
          rcases hg with ⟨l', f', g', cap', _, rfl, _⟩ | ⟨c, _, _, rfl⟩
          · go_wp2_with fail
            go_ret
            exact ⟨by rw [unhide HE2]; exact unhide HG, unhide HB3⟩
          · go_wp2_with fail
            go_ret
            exact ⟨by rw [unhide HE2]; exact unhide HG, unhide HB3⟩
        · have HNx := hide (show r = .err c by rw [unhide HE1, hres2]; rfl)
          have hne' : (c != 0) = true := by rw [bne_iff_ne]; exact hne
          have HNe := hide hne
          clear hres2 hne
          go_wp2_with fail
          go_ret
          exact ⟨Or.inr ⟨c, unhide HNx, unhide HNe, rfl⟩, unhide HB2⟩
      · have HNx := hide (show r = .err c by rw [unhide HE, hres1]; rfl)
        have hne' : (c != 0) = true := by rw [bne_iff_ne]; exact hne
        have HNe := hide hne
        clear hres1 hne
        go_wp2_with fail
        go_ret
        exact ⟨Or.inr ⟨c, unhide HNx, unhide HNe, rfl⟩, unhide HB1⟩
def okAt (s : St) (d : Desk) : Prop := match s with
  | .fetch => ∃ (old : List Rat) (more : List (List Rat)) (idx : List Nat), d.away = old :: more ∧ d.cur = idx.map rnat ∧ ∀ i ∈ idx, i < old.length
  | .home => ∃ (old : List Rat) (more : List (List Rat)) (idx : List Nat), d.away = (idx.map rnat) :: old :: more ∧ idx.Nodup ∧ ∀ i ∈ idx, i < old.length
  | _ => True
def Safe : List St → Desk → Nat → Prop
  | [], _, _ => True
  | s :: l, d, f => okAt s d ∧ ∀ d' f', s.play d f = .ok d' f' → Safe l d' f'
def Saf (st : List St) (g : List Rat → Nat → Res) : Prop := ∀ (cur : List Rat) (away : List (List Rat)) (f : Nat) (more : List St), (∀ l f', g cur f = .ok l f' → Safe more ⟨l, away⟩ f') → Safe (st ++ more) ⟨cur, away⟩ f
theorem saf_nil : Saf [] (fun l f => .ok l f) := fun cur _ f _ h => h cur f rfl
theorem Saf.then {a b : List St} {g h : List Rat → Nat → Res} (ha : Saf a g) (hb : Saf b h) : Saf (a ++ b) (fun l f => Res.then (g l f) h) := by
  intro cur away f more hm
  rw [List.append_assoc]
  refine ha cur away f _ (fun l f' hg => hb l away f' more (fun l2 f2 hh => hm l2 f2 ?_))
  show Res.then (g cur f) h = _
  rw [hg]
  exact hh
theorem Saf.stepped {a : List St} {g : List Rat → Nat → Res} (ha : Saf a g) : Saf (.rest :: a) (T.stepped g) := by
  intro cur away f more hm
  refine ⟨trivial, fun d' f' hp => ?_⟩
  cases f with
  | zero => cases hp
  | succ f =>
    cases hp
    exact ha cur away _ more (fun l f' hg => hm l f' hg)
theorem Saf.iter {a : List St} {g : List Rat → Nat → Res} (ha : Saf a g) : ∀ k, Saf (List.replicate k (.rest :: a)).flatten (T.iter g k)
  | 0 => by rw [iter_zero_fun]; exact saf_nil
  | k + 1 => by
    rw [iter_succ_fun, List.replicate_succ, List.flatten_cons]
    exact (ha.then (Saf.iter ha k)).stepped
theorem saf_never (g : List Rat → Nat → Res) : Saf [.never] g := by
  intro cur away f more _
  exact ⟨trivial, fun d' f' hp => by cases hp⟩
theorem saf_under {a b : List St} {s g : List Rat → Nat → Res} (hpick : ∀ n f l2 f2, s (allPlaces n) f = .ok l2 f2 → ∃ idx : List Nat, idx.Nodup ∧ (∀ i ∈ idx, i < n) ∧ l2 = idx.map rnat) (hs : Saf a s) (hg : Saf b g) : Saf (.aside :: (a ++ .fetch :: (b ++ [.home]))) (underRun s g) := by
  intro cur away f more hm
  have e : (St.aside :: (a ++ .fetch :: (b ++ [.home]))) ++ more = .aside :: (a ++ (.fetch :: (b ++ (.home :: more)))) := by simp
  rw [e]
  refine ⟨trivial, fun d' f' hp => ?_⟩
  cases hp
  refine hs (allPlaces cur.length) (cur :: away) f _ (fun at_ f1 hr => ?_)
  obtain ⟨idx, hn, hi, rfl⟩ := hpick _ _ _ _ hr
  refine ⟨⟨cur, away, idx, rfl, rfl, hi⟩, fun d' f' hp => ?_⟩
  cases hp
  refine hg _ ((idx.map rnat) :: cur :: away) f1 _ (fun ys f2 hr2 => ?_)
  refine ⟨⟨cur, away, idx, rfl, hn, hi⟩, fun d' f' hp => ?_⟩
  have hp' : (if ys.length = (idx.map rnat).length then PRes.ok ⟨layAt (places (idx.map rnat)) ys cur, away⟩ f2 else .err 11) = .ok d' f' := hp
  by_cases hl : ys.length = (idx.map rnat).length
  · rw [if_pos hl] at hp'
    cases hp'
    apply hm
    unfold underRun
    rw [hr, then_of_ok, hr2, then_of_ok, if_pos hl]
  · rw [if_neg hl] at hp'
    cases hp'
theorem saf_sp (x : Sp) : Saf [.sp x] (T.stepped (fun l f => lift (x.work l) f)) := by
  intro cur away f more hm
  refine ⟨trivial, fun d' f' hp => ?_⟩
  cases f with
  | zero => cases hp
  | succ f =>
    have hp' : (match x.work cur with
      | .error e => PRes.err e
      | .ok l => .ok ⟨l, away⟩ f) = .ok d' f' := hp
    cases hw : x.work cur with
    | error e => rw [hw] at hp'; cases hp'
    | ok l =>
      rw [hw] at hp'
      cases hp'
      apply hm
      show lift (x.work cur) _ = _
      rw [hw]
      rfl
mutual
theorem Pt.safe : ∀ (p : Pt) (b : Bool), (b = true → p.back = true) → p.wf → Saf (p.flat b) (p.run b)
  | .sp x, false, _, _ => by rw [Pt.flat, Pt.run_sp]; exact saf_sp x
  | .sp x, true, hb, _ => by
    have h := hb rfl
    rw [Pt.back] at h
    rw [Pt.flat, Pt.run_sp]
    cases ho : x.opp with
    | none => rw [ho] at h; cases h
    | some y =>
      have e : (fun l f => lift (if true = true then x.workBack l else x.work l) f) = fun l f => lift (y.work l) f := by
        funext l f
        show lift (x.workBack l) f = _
        unfold Sp.workBack
        rw [ho]
      rw [e]
      exact saf_sp y
  | .pow t k, b, hb, hw => by
    rw [Pt.flat]
    rw [Pt.wf] at hw
    by_cases hc : (if b then -k else k) < 0 ∧ t.back = false
    · rw [if_pos hc, Pt.run_pow]
      exact (saf_never _).stepped
    · rw [if_neg hc, Pt.run_pow_ok _ _ _ hc]
      refine ((Tm.safe t _ (fun h => ?_) hw.1).iter _).stepped
      have h1 : (if b then -k else k) < 0 := of_decide_eq_true h
      cases hh : t.back with
      | true => rfl
      | false => exact absurd ⟨h1, hh⟩ hc
  | .under s g, b, hb, hw => by
    rw [Pt.flat]
    rw [Pt.wf] at hw
    have hg := Tm.safe g b (fun h => by
      have := hb h
      rw [Pt.back, Bool.and_eq_true] at this
      exact this.1) hw.2
    by_cases hp : s.picker = true
    · rw [if_pos hp, Pt.run_under_pick _ _ _ hp]
      exact (saf_under (fun n f l2 f2 h => natl_at hp hw.1 n f h) (Tm.safe s false (fun h => by cases h) hw.1) hg).stepped
    · rw [if_neg hp]
      by_cases h2 : (s.back && s.plain) = true
      · rw [if_pos h2, Pt.run_under_way _ _ _ (by simpa using hp) h2]
        rw [Bool.and_eq_true] at h2
        exact ((Tm.safe s false (fun h => by cases h) hw.1).then (hg.then (Tm.safe s true (fun _ => h2.1) hw.1))).stepped
      · rw [if_neg h2, Pt.run_fun]
        exact (saf_never _).stepped
  | .name c t, b, hb, hw => by
    rw [Pt.flat, Pt.run_name]
    rw [Pt.wf] at hw
    exact (Tm.safe t b (fun h => by have := hb h; rw [Pt.back] at this; exact this) hw.2.2).stepped
theorem Tm.safe : ∀ (t : Tm) (b : Bool), (b = true → t.back = true) → t.wf → Saf (t.flat b) (t.run b)
  | .nil, b, _, _ => by rw [Tm.flat, Tm.run_nil_fun]; exact saf_nil
  | .cons p t, false, _, hw => by
    rw [Tm.wf] at hw
    rw [Tm.flat, Tm.run_fwd_fun]
    exact (Pt.safe p false (fun h => by cases h) hw.1).then (Tm.safe t false (fun h => by cases h) hw.2)
  | .cons p t, true, hb, hw => by
    have h := hb rfl
    rw [Tm.wf] at hw
    rw [Tm.back, Bool.and_eq_true] at h
    rw [Tm.flat, Tm.run_bwd_fun]
    exact (Tm.safe t true (fun _ => h.2) hw.2).then (Pt.safe p true (fun _ => h.1) hw.1)
end
theorem safe_lay {m : Nat} : ∀ (l : List St) (d : Desk) (n f : Nat), Safe l d f → Safe (lay m l n) d f
  | [], _, _, _, _ => trivial
  | s :: l, d, n, f, h => by
    rw [lay]
    by_cases h2 : m < n
    · rw [if_pos h2]; trivial
    · rw [if_neg h2]
      exact ⟨h.1, fun d' f' hp => safe_lay l d' _ f' (h.2 d' f' hp)⟩
theorem safe_run {t : Tm} (hw : t.wf) (m : Nat) (l : List Rat) (f : Nat) : Safe (lay m (t.flat false) 0) ⟨l, []⟩ f := by
  have h := Tm.safe t false (fun h => by cases h) hw l [] f [] (fun _ _ _ => trivial)
  rw [List.append_nil] at h
  exact safe_lay _ _ _ _ h
end Go.Proofs.YtikiaijgcjjloaaGreatDoor

import Derived.Test.YtikiaijgcjjloabGreatDoorPart35

/- The walks: terms there and back, as a whole. -/
namespace Go.Proofs.YtikiaijgcjjloabGreatDoor
open Go Go.RowKit M T Go.Lib

theorem prow_slice {w : World} {sl : Value} {xs : List PC} (h : w.ownsRow 0 82 8 sl xs.length (rowCells xs)) : ∃ ao cap, sl = .slice ao xs.length cap ∧ xs.length ≤ 9223372036854775807 ∧ (0 < xs.length → ∃ g c, ao = some ⟨g, 0, none⟩ ∧ w.heap[g]? = some (.cells c 82 (0, 0)) ∧ ∀ j (hj : j < xs.length) i, i < 8 → w.cell? ⟨g, j * 8 + i, none⟩ = (xs[j].cells)[i]?) := by
  have hown := h
  rcases h.2 with ⟨h1, h2⟩ | ⟨g, cap, cur, hv, _, hh, hc1, hc2, _⟩
  · exact ⟨none, 0, by rw [h1, h2], by omega, fun hp => by omega⟩
  · refine ⟨some ⟨g, 0, none⟩, cap, hv, by unfold maxLen at hc2; omega, fun _ => ⟨g, cur, rfl, hh, fun j hj i hi => ?_⟩⟩
    rw [hv] at hown
    exact row_cell hown hj i hi
theorem of_drop (ps : List Pt) (i : Nat) (hi : i < ps.length) (l : List Rat) (f : Nat) : (Tm.of (ps.drop i)).run false l f = Res.then (ps[i].run false l f) (fun l f => (Tm.of (ps.drop (i + 1))).run false l f) := by
  rw [List.drop_eq_getElem_cons hi, Tm.of, Tm.run_fwd]
theorem of_back_snoc : ∀ (ps : List Pt) (p : Pt) (l : List Rat) (f : Nat), (Tm.of (ps ++ [p])).run true l f = Res.then (p.run true l f) (fun l f => (Tm.of ps).run true l f)
  | [], p, l, f => by
    show (Tm.cons p .nil).run true l f = Res.then (p.run true l f) (fun l f => Tm.nil.run true l f)
    rw [Tm.run_bwd, Tm.run_nil]
    simp only [Tm.run_nil]
    show p.run true l f = Res.then (p.run true l f) (fun l f => .ok l f)
    cases p.run true l f <;> rfl
  | q :: ps, p, l, f => by
    rw [List.cons_append, Tm.of, Tm.run_bwd, of_back_snoc ps p l f]
    cases p.run true l f with
    | err e => rfl
    | ok l' f' =>
      show Res.then ((Tm.of ps).run true l' f') _ = (Tm.of (q :: ps)).run true l' f'
      rw [Tm.of, Tm.run_bwd]
theorem wf_memP : ∀ (ps : List Pt) (p : Pt), p ∈ ps → (Tm.of ps).wf → p.wf
  | q :: ps, p, h, hw => by
    rw [Tm.of, Tm.wf] at hw
    rcases List.mem_cons.1 h with rfl | h
    · exact hw.1
    · exact wf_memP ps p h hw.2
theorem bk_memP : ∀ (ps : List Pt) (p : Pt), p ∈ ps → (Tm.of ps).back = true → p.back = true
  | q :: ps, p, h, hw => by
    rw [Tm.of, Tm.back, Bool.and_eq_true] at hw
    rcases List.mem_cons.1 h with rfl | h
    · exact hw.1
    · exact bk_memP ps p h hw.2
theorem part_ne_run {w : World} {k rb : Nat} {c c' : Array Value} {ty : TypeId} (hr : w.heap[rb]? = some (.cells c 90 (0, 0))) (hk : w.heap[k]? = some (.cells c' ty (0, 0))) (ht : ty ≠ 90) : k ≠ rb := by
  rintro rfl
  exact ht (blk_ty hr hk).symm

set_option maxRecDepth 100000 in
set_option maxHeartbeats 1600000 in
theorem there_of {F : Nat} (hP : ∀ f, f ≤ F → PartAt f) : ThereAt F := by
  intro t tb rb g cap l w hw ht h
  have et := Tm.of_parts t
  obtain ⟨sl, xs, hd, hps⟩ := ht
  have hps' : PsIs (fun k => k < w.heap.size) w xs (Tm.of t.parts) := by rw [et]; exact hps
  have hxl := PsIs.length _ _ hps'
  obtain ⟨ao, cap0, rfl, hmx, hcs⟩ := prow_slice hd.row
  have c0 : w.cell? ⟨tb, 0, none⟩ = some (.slice ao xs.length cap0) := blk_cell hd.blk 0
  have HP := hide hP
  have HPs := hide hps'
  have HW := hide (show (Tm.of t.parts).wf by rw [et]; exact hw)
  have H := hide h
  obtain ⟨r, hr⟩ : ∃ r, r = t.run false l F := ⟨_, rfl⟩
  rw [← hr]
  have HR := hide (show r = (Tm.of (t.parts.drop 0)).run false l F by rw [hr, List.drop_zero, et])
  have HXl := hide hxl
  clear hP hps hps' hd hw h hr hxl et
  generalize t.parts = ps at HPs HW HR HXl
  go_enter Tryz.func41, Tryz.ntmps41
  go_wp2_with fail
  go_loopg [13] xs.length (fun kk v13 wr => ∃ (i : Nat) (l' : List Rat) (f' g' cap' : Nat), kk = xs.length - i ∧ i ≤ xs.length ∧ v13 = .int .i64 (i : Int) ∧ (r = (Tm.of (ps.drop i)).run false l' f' ∧ f' ≤ F) ∧ RunIs wr rb g' cap' l' f' ∧ But rb w wr)
  case atStart => exact ⟨0, l, F, g, cap, rfl, Nat.zero_le _, rfl, ⟨unhide HR, Nat.le_refl _⟩, unhide H, But.refl _ _⟩
  case round =>
    obtain ⟨i, l', f', g', cap', hk, hi, rfl, ⟨he, hfF⟩, hrun, hbr⟩ := hrel
    have HK := hide hk
    have HE := hide he
    have HRun := hide hrun
    have HBr := hide hbr
    clear hk he hrun
    by_cases hlt : i < xs.length
    · have hlt' : (i : Int) < (xs.length : Int) := by omega
      have hip : i < ps.length := by have := unhide HXl; omega
      obtain ⟨gp, cc, rfl, hgp, hcell⟩ := hcs (by omega)
      have hne := part_ne_run (unhide H).blk hgp (by decide)
      have hcr : ∀ q, q < 8 → wr.cell? ⟨gp, i * 8 + q, none⟩ = (xs[i].cells)[q]? := fun q hq => (hbr.cell (p := ⟨gp, i * 8 + q, none⟩) (lt_of_block hgp) hne).trans (hcell i hlt q hq)
      have hpt := (PsIs.get ps xs (unhide HPs) i hip hlt).run (unhide H).blk hbr
      have hst := of_drop ps i hip l' f'
      have HWi := hide (wf_memP ps ps[i] (List.getElem_mem hip) (unhide HW))
      have HPt := hide hpt
      have HSt := hide (show r = Res.then (ps[i].run false l' f') (fun l f => (Tm.of (ps.drop (i + 1))).run false l f) by rw [unhide HE]; exact hst)
      clear hcell hcs hpt hst hbr
      generalize ps[i] = p at HWi HPt HSt
      generalize xs[i] = x at hcr HPt
      obtain ⟨L, N, K, Tp, Bt, pa, pn, pc, Bo, Ov⟩ := x
      have d0 : wr.cell? ⟨gp, i * 8, none⟩ = some (.int .u8 (L.toNat : Int)) := hcr 0 (by omega)
      have d1 : wr.cell? ⟨gp, i * 8 + 1, none⟩ = some (.int .u8 (N.toNat : Int)) := hcr 1 (by omega)
      have d2 : wr.cell? ⟨gp, i * 8 + 2, none⟩ = some (.int .i64 K) := hcr 2 (by omega)
      have d3 : wr.cell? ⟨gp, i * 8 + 3, none⟩ = some (.int .i64 Tp) := hcr 3 (by omega)
      have d4 : wr.cell? ⟨gp, i * 8 + 4, none⟩ = some (.int .i64 Bt) := hcr 4 (by omega)
      have d5 : wr.cell? ⟨gp, i * 8 + 5, none⟩ = some (.slice pa pn pc) := hcr 5 (by omega)
      have d6 : wr.cell? ⟨gp, i * 8 + 6, none⟩ = some (.pointer (Bo.map fun b => ⟨b, 0, none⟩)) := hcr 6 (by omega)
      have d7 : wr.cell? ⟨gp, i * 8 + 7, none⟩ = some (.pointer (Ov.map fun b => ⟨b, 0, none⟩)) := hcr 7 (by omega)
      have hb3 := box_below wr (.cells #[.int .u8 (L.toNat : Int), .int .u8 (N.toNat : Int), .int .i64 K, .int .i64 Tp, .int .i64 Bt, .slice pa pn pc, .pointer (Bo.map fun b => ⟨b, 0, none⟩), .pointer (Ov.map fun b => ⟨b, 0, none⟩)] 82)
      have HX3 := hide ((unhide HPt).belowS hb3)
      have HRun3 := hide ((unhide HRun).below hb3)
      have HB3 := hide hb3
      clear hcr hb3
      go_wp2_with fail
      refine (unhide HP f' hfF p false ⟨L, N, K, Tp, Bt, pa, pn, pc, Bo, Ov⟩ rb g' cap' l' _ (unhide HWi) (fun h => by cases h) (unhide HX3) (unhide HRun3)).mono ?_
      rintro e w2 ⟨hg, hb2⟩
      have HB2 := hide (((unhide HBr).trans (But.of_below (unhide HB3))).trans hb2)
      clear hb2
      rcases hg with ⟨l2, f2, g2, cap2, hres, rfl, hrun2⟩ | ⟨c, hres, hne, rfl⟩
      · have HNx := hide (show r = (Tm.of (ps.drop (i + 1))).run false l2 f2 ∧ f2 ≤ F by
          obtain ⟨n, hn, _⟩ := Pt.paced p false _ _ _ _ hres
          exact ⟨by rw [unhide HSt, hres]; rfl, by omega⟩)
        have HRun2 := hide hrun2
        clear hres hrun2
        go_wp2_with fail
        go_roundg (xs.length - (i + 1))
        case measure => rw [unhide HK]; omega
        case rel => exact ⟨i + 1, l2, f2, g2, cap2, rfl, by omega, rfl, unhide HNx, unhide HRun2, unhide HB2⟩
      · have HNx := hide (show r = .err c by rw [unhide HSt, hres]; rfl)
        have hne' : (c != 0) = true := by rw [bne_iff_ne]; exact hne
        have HNe := hide hne
        clear hres hne
        go_wp2_with fail
        go_ret
        exact ⟨Or.inr ⟨c, unhide HNx, unhide HNe, rfl⟩, unhide HB2⟩
    · have hlt' : ¬ (i : Int) < (xs.length : Int) := by omega
      have HFin := hide (show r = .ok l' f' by
        rw [unhide HE, List.drop_of_length_le (by have := unhide HXl; omega), Tm.of, Tm.run_nil])
      go_wp2_with fail
      go_ret
      exact ⟨Or.inl ⟨l', f', g', cap', unhide HFin, rfl, unhide HRun⟩, unhide HBr⟩

set_option maxRecDepth 100000 in
set_option maxHeartbeats 1600000 in
theorem back_of {F : Nat} (hP : ∀ f, f ≤ F → PartAt f) : BackAt F := by
  intro t tb rb g cap l w hw hbk ht h
  have et := Tm.of_parts t
  obtain ⟨sl, xs, hd, hps⟩ := ht
  have hps' : PsIs (fun k => k < w.heap.size) w xs (Tm.of t.parts) := by rw [et]; exact hps
  have hxl := PsIs.length _ _ hps'
  obtain ⟨ao, cap0, rfl, hmx, hcs⟩ := prow_slice hd.row
  have c0 : w.cell? ⟨tb, 0, none⟩ = some (.slice ao xs.length cap0) := blk_cell hd.blk 0
  have htl := lt_of_block hd.blk
  have htn := part_ne_run h.blk hd.blk (by decide)
  have HP := hide hP
  have HPs := hide hps'
  have HW := hide (show (Tm.of t.parts).wf by rw [et]; exact hw)
  have HBk := hide (show (Tm.of t.parts).back = true by rw [et]; exact hbk)
  have H := hide h
  obtain ⟨r, hr⟩ : ∃ r, r = t.run true l F := ⟨_, rfl⟩
  rw [← hr]
  have HR := hide (show r = (Tm.of (t.parts.take xs.length)).run true l F by rw [hr, hxl, List.take_length, et])
  have HXl := hide hxl
  clear hP hps hps' hd hw hbk h hr hxl et
  generalize t.parts = ps at HPs HW HBk HR HXl
  go_enter Tryz.func141, Tryz.ntmps141
  go_wp2_with fail
  go_loopg [5] xs.length (fun kk v5 wr => ∃ (i : Nat) (l' : List Rat) (f' g' cap' : Nat), kk = i ∧ i ≤ xs.length ∧ v5 = .int .i64 ((i : Int) - 1) ∧ (r = (Tm.of (ps.take i)).run true l' f' ∧ f' ≤ F) ∧ RunIs wr rb g' cap' l' f' ∧ But rb w wr)
  case atStart => exact ⟨xs.length, l, F, g, cap, rfl, Nat.le_refl _, rfl, ⟨unhide HR, Nat.le_refl _⟩, unhide H, But.refl _ _⟩
  case round =>
    obtain ⟨i, l', f', g', cap', hk, hi, hv, ⟨he, hfF⟩, hrun, hbr⟩ := hrel
    have HK := hide hk
    have HE := hide he
    have HRun := hide hrun
    have HBr := hide hbr
    clear hk he hrun
    cases i with
    | zero =>
      have hv' : _ = Value.int .i64 (-1) := hv
      subst hv'
      clear hv
      have HFin := hide (show r = .ok l' f' by rw [unhide HE, List.take_zero, Tm.of, Tm.run_nil])
      go_wp2_with fail
      go_ret
      exact ⟨Or.inl ⟨l', f', g', cap', unhide HFin, rfl, unhide HRun⟩, unhide HBr⟩
    | succ i =>
      have hv' : _ = Value.int .i64 (i : Int) := hv.trans (congrArg (Value.int .i64) (by omega))
      subst hv'
      have hlt : i < xs.length := by omega
      have hlt' : (i : Int) < (xs.length : Int) := by omega
      have hip : i < ps.length := by have := unhide HXl; omega
      obtain ⟨gp, cc, rfl, hgp, hcell⟩ := hcs (by omega)
      have hne := part_ne_run (unhide H).blk hgp (by decide)
      have hcr : ∀ q, q < 8 → wr.cell? ⟨gp, i * 8 + q, none⟩ = (xs[i].cells)[q]? := fun q hq => (hbr.cell (p := ⟨gp, i * 8 + q, none⟩) (lt_of_block hgp) hne).trans (hcell i hlt q hq)
      have c0r : wr.cell? ⟨tb, 0, none⟩ = some (.slice (some ⟨gp, 0, none⟩) xs.length cap0) := (hbr.cell (p := ⟨tb, 0, none⟩) htl htn).trans c0
      have hpt := (PsIs.get ps xs (unhide HPs) i hip hlt).run (unhide H).blk hbr
      have HWi := hide (wf_memP ps ps[i] (List.getElem_mem hip) (unhide HW))
      have HBi := hide (bk_memP ps ps[i] (List.getElem_mem hip) (unhide HBk))
      have HPt := hide hpt
      have HSt := hide (show r = Res.then (ps[i].run true l' f') (fun l f => (Tm.of (ps.take i)).run true l f) by rw [unhide HE, List.take_succ_eq_append_getElem hip, of_back_snoc])
      clear hcell hcs hpt hbr hv c0
      generalize ps[i] = p at HWi HBi HPt HSt
      generalize xs[i] = x at hcr HPt
      obtain ⟨L, N, K, Tp, Bt, pa, pn, pc, Bo, Ov⟩ := x
      have d0 : wr.cell? ⟨gp, i * 8, none⟩ = some (.int .u8 (L.toNat : Int)) := hcr 0 (by omega)
      have d1 : wr.cell? ⟨gp, i * 8 + 1, none⟩ = some (.int .u8 (N.toNat : Int)) := hcr 1 (by omega)
      have d2 : wr.cell? ⟨gp, i * 8 + 2, none⟩ = some (.int .i64 K) := hcr 2 (by omega)
      have d3 : wr.cell? ⟨gp, i * 8 + 3, none⟩ = some (.int .i64 Tp) := hcr 3 (by omega)
      have d4 : wr.cell? ⟨gp, i * 8 + 4, none⟩ = some (.int .i64 Bt) := hcr 4 (by omega)
      have d5 : wr.cell? ⟨gp, i * 8 + 5, none⟩ = some (.slice pa pn pc) := hcr 5 (by omega)
      have d6 : wr.cell? ⟨gp, i * 8 + 6, none⟩ = some (.pointer (Bo.map fun b => ⟨b, 0, none⟩)) := hcr 6 (by omega)
      have d7 : wr.cell? ⟨gp, i * 8 + 7, none⟩ = some (.pointer (Ov.map fun b => ⟨b, 0, none⟩)) := hcr 7 (by omega)
      clear hcr
      go_wp2_with fail
      refine (unhide HP f' hfF p true ⟨L, N, K, Tp, Bt, pa, pn, pc, Bo, Ov⟩ rb g' cap' l' _ (unhide HWi) (fun _ => unhide HBi) (unhide HPt) (unhide HRun)).mono ?_
      rintro e w2 ⟨hg, hb2⟩
      have HB2 := hide ((unhide HBr).trans hb2)
      clear hb2
      rcases hg with ⟨l2, f2, g2, cap2, hres, rfl, hrun2⟩ | ⟨c, hres, hne, rfl⟩
      · have HNx := hide (show r = (Tm.of (ps.take i)).run true l2 f2 ∧ f2 ≤ F by
          obtain ⟨n, hn, _⟩ := Pt.paced p true _ _ _ _ hres
          exact ⟨by rw [unhide HSt, hres]; rfl, by omega⟩)
        have HRun2 := hide hrun2
        clear hres hrun2
        go_wp2_with fail
        go_roundg i
        case measure => rw [unhide HK]; omega
        case rel => exact ⟨i, l2, f2, g2, cap2, rfl, by omega, rfl, unhide HNx, unhide HRun2, unhide HB2⟩
      · have HNx := hide (show r = .err c by rw [unhide HSt, hres]; rfl)
        have hne' : (c != 0) = true := by rw [bne_iff_ne]; exact hne
        have HNe := hide hne
        clear hres hne
        go_wp2_with fail
        go_ret
        exact ⟨Or.inr ⟨c, unhide HNx, unhide HNe, rfl⟩, unhide HB2⟩
/-- All runs, by the steps that are left. -/
theorem runs_all (F : Nat) : ThereAt F ∧ BackAt F := by
  induction F using Nat.strongRecOn with
  | _ F ih =>
    have hP : ∀ f, f ≤ F → PartAt f := fun f hf => runPart_of (fun f' h => (ih f' (by omega)).1) (fun f' h => (ih f' (by omega)).2)
    exact ⟨there_of hP, back_of hP⟩
end Go.Proofs.YtikiaijgcjjloabGreatDoor

/- The walks: Run and Apply. -/
namespace Go.Proofs.YtikiaijgcjjloabGreatDoor
open Go Go.RowKit M T Go.Lib

/-- What Run answers. -/
def RunGot (r : Res) (F : Int) (e : Ending) (w' : World) : Prop := (∃ l f g cap, r = .ok l f ∧ e = .returned (.tuple #[.slice (some ⟨g, 0, none⟩) l.length cap, .int .i64 (F - (f : Int)), .int .i64 0]) ∧ LIs w' g cap l) ∨ (∃ c, r = .err c ∧ c ≠ 0 ∧ e = .returned (.tuple #[.slice none 0 0, .int .i64 0, .int .i64 c]))

set_option maxRecDepth 100000 in
set_option maxHeartbeats 1600000 in
theorem run_any {t : Tm} {tb g cap : Nat} {xs : List Rat} {F : Nat} {w : World} (hw : t.wf) (ht : TmIs (fun k => k < w.heap.size) w tb t) (h : LIs w g cap xs) (hl : xs.length ≤ 12) (hF : F ≤ 5000) :
    Calls Tryz.prog 26 #[.pointer (some ⟨tb, 0, none⟩), .slice (some ⟨g, 0, none⟩) xs.length cap, .int .i64 (F : Int)] w fun e w' => RunGot (t.run false xs F) (F : Int) e w' ∧ Below w.heap.size w w' := by
  obtain ⟨i0, hi0, hz0, hz1, hz2⟩ := info_parts Tryz.infoNumber
  have HM := hide (MkIs.start w)
  have HNw := hide (nrow_get (h.below ((Below.refl _ _).alloc (Nat.le_refl _) (.cells #[] 80))) (a := 0) xs (fun j hj => by rw [Nat.zero_add]))
  have HLen := hide (nrow_length xs)
  have HA := hide h.small
  have HW := hide hw
  have HTm := hide ht
  obtain ⟨r, hr⟩ : ∃ r, r = t.run false xs F := ⟨_, rfl⟩
  rw [← hr]
  have HR := hide hr
  have hl12 : xs.length ≤ 12 := hl
  clear hw ht h hr
  go_enter Tryz.func26, Tryz.ntmps26
  go_upto_region 1 with fail
  go_cut [9] (fun v9 wx => ∃ rb g' cap', v9 = .pointer (some ⟨rb, 0, none⟩) ∧ w.heap.size ≤ rb ∧ RunIs wx rb g' cap' xs F ∧ Below w.heap.size w wx)
  case first =>
    by_cases h0 : xs.length = 0
    · obtain rfl : xs = [] := List.eq_nil_of_length_eq_zero h0
      clear h0
      go_wp2_with fail
      go_meet
      have hm := unhide HM
      have hl : LIs (w.alloc (.cells #[] 80)) w.heap.size 0 [] := ⟨owns_base hm.own (Nat.zero_le _), fun _ h => by (cases h), by simp⟩
      refine ⟨w.heap.size + 1, w.heap.size, 0, rfl, Nat.le_succ _, ⟨new_at2P w _ _, hl.below (box_below _ _), hF, by simp⟩, (box_below w _).trans ((box_below _ _).mono (by simp))⟩
    · go_wp2_with (at_builtin; refine wpList_append_own _ rfl _ _ 59 rfl w.heap.size 80 i0 _ 2 16 Tryz.underlying59 hi0 hz0 hz1 hz2 rfl (by decide) _ _ _ rfl (unhide HM).own ⟨g, 0, none⟩ xs.length cap (nrow xs) rfl (unhide HLen) (unhide HNw) (one_nrow _) (by unfold maxLen; simp; omega) (by simp; omega) (by simp) ?_)
      intro v' w4 hown4 hgr4 hnn
      obtain ⟨g4, cp4, rfl⟩ : ∃ g4 cp4, v' = .slice (some ⟨g4, 0, none⟩) xs.length cp4 := owns_some hown4 hnn
      have hown5 : w4.ownsRow w.heap.size 80 2 (.slice (some ⟨g4, 0, none⟩) xs.length cp4) xs.length (nrow xs) := hown4
      have HO := hide hown5
      have hb4 := (unhide HM).grow hgr4
      have HB4 := hide hb4
      clear hown4 hgr4 hnn hown5 hb4
      go_wp2_with fail
      go_meet
      have hl : LIs w4 g4 cp4 xs := ⟨owns_base (unhide HO) (Nat.zero_le _), unhide HA, by omega⟩
      exact ⟨w4.heap.size, g4, cp4, rfl, (unhide HB4).size, ⟨heap_alloc_new w4 _, hl.below (box_below _ _), hF, hl12⟩, (unhide HB4).alloc (unhide HB4).size _⟩
  case rest =>
    obtain ⟨rb, g', cap', rfl, hrb, hrun, hbc⟩ := hcut
    have HRun := hide hrun
    have HBc := hide hbc
    have HTc := hide ((unhide HTm).belowS hbc)
    clear hrun hbc
    go_wp2_with fail
    refine ((runs_all F).1 t tb rb g' cap' xs _ (unhide HW) (unhide HTc) (unhide HRun)).mono ?_
    rintro e w2 ⟨hg, hb2⟩
    have HB2 := hide ((unhide HBc).trans (hb2.below (unhide HBc).size hrb))
    clear hb2
    rcases hg with ⟨l2, f2, g2, cap2, hres, rfl, hrun2⟩ | ⟨c, hres, hne, rfl⟩
    · have HE := hide (show r = .ok l2 f2 by rw [unhide HR]; exact hres)
      have s0 : w2.cell? ⟨rb, 0, none⟩ = some (.slice (some ⟨g2, 0, none⟩) l2.length cap2) := blk_cell hrun2.blk 0
      have s1 : w2.cell? ⟨rb, 1, none⟩ = some (.int .i64 (f2 : Int)) := blk_cell hrun2.blk 1
      have hf2 := hrun2.fuel
      have HL := hide hrun2.lis
      clear hres hrun2
      go_upto_region 5 with fail
      go_quiet (fail)
      go_wp2_with fail
      exact bodyPost_ret (v := .tuple #[.slice (some ⟨g2, 0, none⟩) l2.length cap2, .int .i64 ((F : Int) - (f2 : Int)), .int .i64 0]) (by simp [results, Tryz.results26, go_sem]) rfl ⟨Or.inl ⟨l2, f2, g2, cap2, unhide HE, rfl, (unhide HL).below (below_dr (Below.refl _ _) _)⟩, below_dr (unhide HB2) _⟩
    · have HE := hide (show r = .err c by rw [unhide HR]; exact hres)
      have hne' : (c != 0) = true := by rw [bne_iff_ne]; exact hne
      have HNe := hide hne
      clear hres hne
      go_wp2_with fail
      exact bodyPost_ret (v := .tuple #[.slice none 0 0, .int .i64 0, .int .i64 c]) (by simp [results, Tryz.results26, go_sem]) rfl ⟨Or.inr ⟨c, unhide HE, unhide HNe, rfl⟩, unhide HB2⟩

set_option maxRecDepth 100000 in
set_option maxHeartbeats 1600000 in
theorem apply_any {env : Env} (s ls : ByteArray) (fuel : Int) {xb : Nat} {nm : Nat → Option Nat} (w : World) (h : SesIs w xb nm env) (ht : Tab w) (hls : ls.size ≤ 9223372036854775807) :
    Calls Tryz.prog 14 #[.pointer (some ⟨xb, 0, none⟩), .string s, .string ls, .int .i64 fuel] w fun e w' => ∃ (r : List UInt8) (n c : Int), e = .returned (.tuple #[.string ⟨r.toArray⟩, .int .i64 n, .int .i64 c]) ∧ ApplySays env s.data.toList ls.data.toList fuel r n c ∧ Below w.heap.size w w' := by
  have hblk := h.blk
  have H := hide h
  have HT := hide ht
  clear h ht
  go_enter Tryz.func14, Tryz.ntmps14
  go_wp2_with (refine wpList_load_row rfl 46 _ rfl xb rfl 48 (ncells nm) (0, 0) _ hblk Tryz.underlying46 rfl Tryz.infoNames ?_)
  refine (tRead_any (unhide H).env s nm _ (unhide H).names).mono ?_
  rintro e w1 ⟨⟨c, hc, rfl⟩ | ⟨t, tb, hg, htm, rfl⟩, hb1⟩
  · have HC := hide hc
    have HB1 := hide hb1
    have hne : (c != 0) = true := by rw [bne_iff_ne]; exact hc.ne
    clear hc hb1 hblk
    go_wp2_with fail
    exact bodyPost_ret (v := .tuple #[.string ⟨#[]⟩, .int .i64 0, .int .i64 c]) (by simp [results, Tryz.results14, go_sem]) rfl ⟨[], 0, c, rfl, Or.inl ⟨unhide HC, rfl, rfl⟩, unhide HB1⟩
  · have HG := hide hg
    have HB1 := hide hb1
    have HTm := hide htm
    clear hg hb1 htm hblk
    go_wp2_with fail
    refine (listsRead_any ls _ hls).mono ?_
    rintro e w2 ⟨hl, hb2⟩
    have HB2 := hide ((unhide HB1).trans (hb2.mono (unhide HB1).size))
    have HTm2 := hide ((unhide HTm).belowS hb2)
    clear hb2
    rcases hl with ⟨l, g, cap, hl, rfl, hown⟩ | ⟨hno, rfl⟩
    · have HL := hide hl
      have HLi := hide (show LIs w2 g cap l from ⟨owns_base hown (Nat.zero_le _), hl.small, by have := hl.len; omega⟩)
      have hl12 := hl.len
      clear hl hown
      by_cases hf : fuel < 0 ∨ 5000 < fuel
      · have HF := hide hf
        rcases hf with hf | hf
        · go_wp2_with fail
          exact bodyPost_ret (v := .tuple #[.string ⟨#[]⟩, .int .i64 0, .int .i64 9]) (by simp [results, Tryz.results14, go_sem]) rfl ⟨[], 0, 9, rfl, Or.inr ⟨t, unhide HG, Or.inr ⟨l, unhide HL, Or.inl ⟨unhide HF, rfl, rfl, rfl⟩⟩⟩, unhide HB2⟩
        · have hf0 : ¬ fuel < 0 := by omega
          go_wp2_with fail
          exact bodyPost_ret (v := .tuple #[.string ⟨#[]⟩, .int .i64 0, .int .i64 9]) (by simp [results, Tryz.results14, go_sem]) rfl ⟨[], 0, 9, rfl, Or.inr ⟨t, unhide HG, Or.inr ⟨l, unhide HL, Or.inl ⟨unhide HF, rfl, rfl, rfl⟩⟩⟩, unhide HB2⟩
      · obtain ⟨F, rfl⟩ : ∃ F : Nat, fuel = (F : Int) := ⟨fuel.toNat, by omega⟩
        have hf1 : ¬ (F : Int) < 0 := by omega
        have hf2 : ¬ (5000 : Int) < (F : Int) := by omega
        clear hf
        go_wp2_with fail
        refine (run_any (unhide HG).term.wf (unhide HTm2) (unhide HLi) hl12 (by omega)).mono ?_
        rintro e w3 ⟨hr, hb3⟩
        have HB3 := hide ((unhide HB2).trans (hb3.mono (unhide HB2).size))
        clear hb3
        rcases hr with ⟨l', f', g', cap', hres, rfl, hli⟩ | ⟨c, hres, hne, rfl⟩
        · have HSay := hide (show ApplySays env s.data.toList ls.data.toList (F : Int) (listText l') ((F : Int) - (f' : Int)) 0 from Or.inr ⟨t, unhide HG, Or.inr ⟨l, unhide HL, Or.inr ⟨by omega, by omega, by rw [show ((F : Int)).toNat = F from rfl, hres]; exact ⟨rfl, rfl, rfl⟩⟩⟩⟩)
          have HLi3 := hide hli
          have hll : (listText l').length ≤ 23000 := by
            have h1 := listText_len hli.small
            have h2 := hli.len
            omega
          clear hres hli
          go_wp2_with fail
          refine (listsText_any (unhide HLi3) (tab_below (unhide HT) (unhide HB3))).mono ?_
          rintro e w4 ⟨rfl, hb4⟩
          have HB4 := hide ((unhide HB3).trans (hb4.mono (unhide HB3).size))
          clear hb4
          go_wp2_with fail
          exact bodyPost_ret (v := .tuple #[.string ⟨(listText l').toArray⟩, .int .i64 ((F : Int) - (f' : Int)), .int .i64 0]) (by simp [results, Tryz.results14, go_sem]) rfl ⟨listText l', _, 0, rfl, unhide HSay, unhide HB4⟩
        · have HSay := hide (show ApplySays env s.data.toList ls.data.toList (F : Int) [] 0 c from Or.inr ⟨t, unhide HG, Or.inr ⟨l, unhide HL, Or.inr ⟨by omega, by omega, by rw [show ((F : Int)).toNat = F from rfl, hres]; exact ⟨rfl, rfl, rfl⟩⟩⟩⟩)
          have hne' : (c != 0) = true := by rw [bne_iff_ne]; exact hne
          clear hres hne
          go_wp2_with fail
          exact bodyPost_ret (v := .tuple #[.string ⟨#[]⟩, .int .i64 0, .int .i64 c]) (by simp [results, Tryz.results14, go_sem]) rfl ⟨[], 0, c, rfl, unhide HSay, unhide HB3⟩
    · have HNo := hide hno
      clear hno
      go_wp2_with fail
      exact bodyPost_ret (v := .tuple #[.string ⟨#[]⟩, .int .i64 0, .int .i64 8]) (by simp [results, Tryz.results14, go_sem]) rfl ⟨[], 0, 8, rfl, Or.inr ⟨t, unhide HG, Or.inl ⟨unhide HNo, rfl, rfl, rfl⟩⟩, unhide HB2⟩
end Go.Proofs.YtikiaijgcjjloabGreatDoor

import Derived.Test.YtikiaijgcjjloaaGreatDoorPart32
import Derived.Test.YtikiaijgcjjloaaGreatDoorPart5
import Derived.Test.YtikiaijgcjjloaaGreatDoorPart27

/- The walks: Run and Apply. -/
namespace Go.Proofs.YtikiaijgcjjloaaGreatDoor
open Go Go.RowKit M T Go.Lib

/-- What Run answers. -/
def RunGot (r : Res) (F : Int) (e : Ending) (w' : World) : Prop := (∃ l f g cap, r = .ok l f ∧ e = .returned (.tuple #[.slice (some ⟨g, 0, none⟩) l.length cap, .int .i64 (F - (f : Int)), .int .i64 0]) ∧ LIs w' g cap l) ∨ (∃ c, r = .err c ∧ c ≠ 0 ∧ e = .returned (.tuple #[.slice none 0 0, .int .i64 0, .int .i64 c]))

set_option maxRecDepth 100000 in
set_option maxHeartbeats 1600000 in
theorem run_any {t : Tm} {tb g cap : Nat} {xs : List Rat} {F : Nat} {w : World} (hw : t.wf) (ht : TmIs (fun k => k < w.heap.size) w tb t) (h : LIs w g cap xs) (hl : xs.length ≤ 12) (hF : F ≤ 5000) :
    Calls Tryz.prog 31 #[.pointer (some ⟨tb, 0, none⟩), .slice (some ⟨g, 0, none⟩) xs.length cap, .int .i64 (F : Int)] w fun e w' => RunGot (t.run false xs F) (F : Int) e w' ∧ Below w.heap.size w w' := by
  obtain ⟨i0, hi0, hz0, hz1, hz2⟩ := info_parts Tryz.infoNumber
  have HM := hide (MkIs.start w)
  have HNw := hide (nrow_get (h.below ((Below.refl _ _).alloc (Nat.le_refl _) (.cells #[] 91))) (a := 0) xs (fun j hj => by rw [Nat.zero_add]))
  have HLen := hide (nrow_length xs)
  have HA := hide h.small
  have HW := hide hw
  have HTm := hide ht
  obtain ⟨r, hr⟩ : ∃ r, r = t.run false xs F := ⟨_, rfl⟩
  rw [← hr]
  have HR := hide hr
  have hl12 : xs.length ≤ 12 := hl
  clear hw ht h hr
  go_enter Tryz.func31, Tryz.ntmps31
  go_upto_region 1 with fail
  go_cut [9] (fun v9 wx => ∃ rb g' cap', v9 = .pointer (some ⟨rb, 0, none⟩) ∧ w.heap.size ≤ rb ∧ RunIs wx rb g' cap' xs F ∧ Below w.heap.size w wx)
  case first =>
    by_cases h0 : xs.length = 0
    · obtain rfl : xs = [] := List.eq_nil_of_length_eq_zero h0
      clear h0
      go_wp2_with fail
      go_meet
      have hm := unhide HM
      have hl : LIs (w.alloc (.cells #[] 91)) w.heap.size 0 [] := ⟨owns_base hm.own (Nat.zero_le _), fun _ h => by (cases h), by simp⟩
      refine ⟨w.heap.size + 1, w.heap.size, 0, rfl, Nat.le_succ _, ⟨new_at2P w _ _, hl.below (box_below _ _), hF, by simp⟩, (box_below w _).trans ((box_below _ _).mono (by simp))⟩
    · go_wp2_with (at_builtin; refine wpList_append_own _ rfl _ _ 66 rfl w.heap.size 91 i0 _ 2 16 Tryz.underlying66 hi0 hz0 hz1 hz2 rfl (by decide) _ _ _ rfl (unhide HM).own ⟨g, 0, none⟩ xs.length cap (nrow xs) rfl (unhide HLen) (unhide HNw) (one_nrow _) (by unfold maxLen; simp; omega) (by simp; omega) (by simp) ?_)
      intro v' w4 hown4 hgr4 hnn
      obtain ⟨g4, cp4, rfl⟩ : ∃ g4 cp4, v' = .slice (some ⟨g4, 0, none⟩) xs.length cp4 := owns_some hown4 hnn
      have hown5 : w4.ownsRow w.heap.size 91 2 (.slice (some ⟨g4, 0, none⟩) xs.length cp4) xs.length (nrow xs) := hown4
      have HO := hide hown5
      have hb4 := (unhide HM).grow hgr4
      have HB4 := hide hb4
      clear hown4 hgr4 hnn hown5 hb4
      go_wp2_with fail
      go_meet
      have hl : LIs w4 g4 cp4 xs := ⟨owns_base (unhide HO) (Nat.zero_le _), unhide HA, by omega⟩
      exact ⟨w4.heap.size, g4, cp4, rfl, (unhide HB4).size, ⟨heap_alloc_new w4 _, hl.below (box_below _ _), hF, hl12⟩, (unhide HB4).alloc (unhide HB4).size _⟩
  case rest =>
    obtain ⟨rb, g', cap', rfl, hrb, hrun, hbc⟩ := hcut
    have HRun := hide hrun
    have HBc := hide hbc
    have HTc := hide ((unhide HTm).belowS hbc)
    clear hrun hbc
    go_wp2_with fail
    refine ((runs_all F).1 t tb rb g' cap' xs _ (unhide HW) (unhide HTc) (unhide HRun)).mono ?_
    rintro e w2 ⟨hg, hb2⟩
    have HB2 := hide ((unhide HBc).trans (hb2.below (unhide HBc).size hrb))
    clear hb2
    rcases hg with ⟨l2, f2, g2, cap2, hres, rfl, hrun2⟩ | ⟨c, hres, hne, rfl⟩
    · have HE := hide (show r = .ok l2 f2 by rw [unhide HR]; exact hres)
      have s0 : w2.cell? ⟨rb, 0, none⟩ = some (.slice (some ⟨g2, 0, none⟩) l2.length cap2) := blk_cell hrun2.blk 0
      have s1 : w2.cell? ⟨rb, 1, none⟩ = some (.int .i64 (f2 : Int)) := blk_cell hrun2.blk 1
      have hf2 := hrun2.fuel
      have HL := hide hrun2.lis
      clear hres hrun2
      go_upto_region 5 with fail
      go_quiet (fail)
      go_wp2_with fail
      exact bodyPost_ret (v := .tuple #[.slice (some ⟨g2, 0, none⟩) l2.length cap2, .int .i64 ((F : Int) - (f2 : Int)), .int .i64 0]) (by simp [results, Tryz.results31, go_sem]) rfl ⟨Or.inl ⟨l2, f2, g2, cap2, unhide HE, rfl, (unhide HL).below (below_dr (Below.refl _ _) _)⟩, below_dr (unhide HB2) _⟩
    · have HE := hide (show r = .err c by rw [unhide HR]; exact hres)
      have hne' : (c != 0) = true := by rw [bne_iff_ne]; exact hne
      have HNe := hide hne
      clear hres hne
      go_wp2_with fail
      exact bodyPost_ret (v := .tuple #[.slice none 0 0, .int .i64 0, .int .i64 c]) (by simp [results, Tryz.results31, go_sem]) rfl ⟨Or.inr ⟨c, unhide HE, unhide HNe, rfl⟩, unhide HB2⟩

set_option maxRecDepth 100000 in
set_option maxHeartbeats 1600000 in
theorem apply_any {env : Env} (s ls : ByteArray) (fuel : Int) {xb : Nat} {nm : Nat → Option Nat} (w : World) (h : SesIs w xb nm env) (ht : Tab w) (hls : ls.size ≤ 9223372036854775807) :
    Calls Tryz.prog 15 #[.pointer (some ⟨xb, 0, none⟩), .string s, .string ls, .int .i64 fuel] w fun e w' => ∃ (r : List UInt8) (n c : Int), e = .returned (.tuple #[.string ⟨r.toArray⟩, .int .i64 n, .int .i64 c]) ∧ ApplySays env s.data.toList ls.data.toList fuel r n c ∧ Below w.heap.size w w' := by
  have hblk := h.blk
  have H := hide h
  have HT := hide ht
  clear h ht
  go_enter Tryz.func15, Tryz.ntmps15
  go_wp2_with (refine wpList_load_row rfl 63 _ rfl xb rfl 65 (ncells nm) (0, 0) _ hblk Tryz.underlying63 rfl Tryz.infoNames ?_)
  refine (tRead_any (unhide H).env s nm _ (unhide H).names).mono ?_
  rintro e w1 ⟨⟨c, hc, rfl⟩ | ⟨t, tb, hg, htm, rfl⟩, hb1⟩
  · have HC := hide hc
    have HB1 := hide hb1
    have hne : (c != 0) = true := by rw [bne_iff_ne]; exact hc.ne
    clear hc hb1 hblk
    go_wp2_with fail
    exact bodyPost_ret (v := .tuple #[.string ⟨#[]⟩, .int .i64 0, .int .i64 c]) (by simp [results, Tryz.results15, go_sem]) rfl ⟨[], 0, c, rfl, Or.inl ⟨unhide HC, rfl, rfl⟩, unhide HB1⟩
  · have HG := hide hg
    have HB1 := hide hb1
    have HTm := hide htm
    clear hg hb1 htm hblk
    go_wp2_with fail
    refine (listsRead_any ls _ hls).mono ?_
    rintro e w2 ⟨hl, hb2⟩
    have HB2 := hide ((unhide HB1).trans (hb2.mono (unhide HB1).size))
    have HTm2 := hide ((unhide HTm).belowS hb2)
    clear hb2
    rcases hl with ⟨l, g, cap, hl, rfl, hown⟩ | ⟨hno, rfl⟩
    · have HL := hide hl
      have HLi := hide (show LIs w2 g cap l from ⟨owns_base hown (Nat.zero_le _), hl.small, by have := hl.len; omega⟩)
      have hl12 := hl.len
      clear hl hown
      by_cases hf : fuel < 0 ∨ 5000 < fuel
      · have HF := hide hf
        rcases hf with hf | hf
        · go_wp2_with fail
          exact bodyPost_ret (v := .tuple #[.string ⟨#[]⟩, .int .i64 0, .int .i64 9]) (by simp [results, Tryz.results15, go_sem]) rfl ⟨[], 0, 9, rfl, Or.inr ⟨t, unhide HG, Or.inr ⟨l, unhide HL, Or.inl ⟨unhide HF, rfl, rfl, rfl⟩⟩⟩, unhide HB2⟩
        · have hf0 : ¬ fuel < 0 := by omega
          go_wp2_with fail
          exact bodyPost_ret (v := .tuple #[.string ⟨#[]⟩, .int .i64 0, .int .i64 9]) (by simp [results, Tryz.results15, go_sem]) rfl ⟨[], 0, 9, rfl, Or.inr ⟨t, unhide HG, Or.inr ⟨l, unhide HL, Or.inl ⟨unhide HF, rfl, rfl, rfl⟩⟩⟩, unhide HB2⟩
      · obtain ⟨F, rfl⟩ : ∃ F : Nat, fuel = (F : Int) := ⟨fuel.toNat, by omega⟩
        have hf1 : ¬ (F : Int) < 0 := by omega
        have hf2 : ¬ (5000 : Int) < (F : Int) := by omega
        clear hf
        go_wp2_with fail
        refine (run_any (unhide HG).term.wf (unhide HTm2) (unhide HLi) hl12 (by omega)).mono ?_
        rintro e w3 ⟨hr, hb3⟩
        have HB3 := hide ((unhide HB2).trans (hb3.mono (unhide HB2).size))
        clear hb3
        rcases hr with ⟨l', f', g', cap', hres, rfl, hli⟩ | ⟨c, hres, hne, rfl⟩
        · have HSay := hide (show ApplySays env s.data.toList ls.data.toList (F : Int) (listText l') ((F : Int) - (f' : Int)) 0 from Or.inr ⟨t, unhide HG, Or.inr ⟨l, unhide HL, Or.inr ⟨by omega, by omega, by rw [show ((F : Int)).toNat = F from rfl, hres]; exact ⟨rfl, rfl, rfl⟩⟩⟩⟩)
          have HLi3 := hide hli
          have hll : (listText l').length ≤ 23000 := by
            have h1 := listText_len hli.small
            have h2 := hli.len
            omega
          clear hres hli
          go_wp2_with fail
          refine (listsText_any (unhide HLi3) (tab_below (unhide HT) (unhide HB3))).mono ?_
          rintro e w4 ⟨rfl, hb4⟩
          have HB4 := hide ((unhide HB3).trans (hb4.mono (unhide HB3).size))
          clear hb4
          go_wp2_with fail
          exact bodyPost_ret (v := .tuple #[.string ⟨(listText l').toArray⟩, .int .i64 ((F : Int) - (f' : Int)), .int .i64 0]) (by simp [results, Tryz.results15, go_sem]) rfl ⟨listText l', _, 0, rfl, unhide HSay, unhide HB4⟩
        · have HSay := hide (show ApplySays env s.data.toList ls.data.toList (F : Int) [] 0 c from Or.inr ⟨t, unhide HG, Or.inr ⟨l, unhide HL, Or.inr ⟨by omega, by omega, by rw [show ((F : Int)).toNat = F from rfl, hres]; exact ⟨rfl, rfl, rfl⟩⟩⟩⟩)
          have hne' : (c != 0) = true := by rw [bne_iff_ne]; exact hne
          clear hres hne
          go_wp2_with fail
          exact bodyPost_ret (v := .tuple #[.string ⟨#[]⟩, .int .i64 0, .int .i64 c]) (by simp [results, Tryz.results15, go_sem]) rfl ⟨[], 0, c, rfl, unhide HSay, unhide HB3⟩
    · have HNo := hide hno
      clear hno
      go_wp2_with fail
      exact bodyPost_ret (v := .tuple #[.string ⟨#[]⟩, .int .i64 0, .int .i64 8]) (by simp [results, Tryz.results15, go_sem]) rfl ⟨[], 0, 8, rfl, Or.inr ⟨t, unhide HG, Or.inl ⟨unhide HNo, rfl, rfl, rfl⟩⟩, unhide HB2⟩
end Go.Proofs.YtikiaijgcjjloaaGreatDoor

/- The statements without the document's answer, over the answers as relations: Undo, Splits, Fuelled. No program in this text. -/
namespace Go.Proofs.YtikiaijgcjjloaaGreatDoor
namespace T
open Go.Lib M

/-! ### The errors of running -/
def RunErr (e : Int) : Prop := e = 2 ∨ e = 3 ∨ e = 10 ∨ e = 11 ∨ e = 12
theorem RunErr.ne {e : Int} (h : RunErr e) : e ≠ 0 := by rcases h with rfl | rfl | rfl | rfl | rfl <;> decide
theorem lim_err {r : Rat} {e : Int} (h : lim r = .error e) : RunErr e := by
  unfold lim at h
  split at h
  · cases h
  · cases h; exact Or.inr (Or.inl rfl)
theorem each_err {f : Rat → Except Int Rat} (h : ∀ x e, f x = .error e → RunErr e) : ∀ {l : List Rat} {e : Int}, each f l = .error e → RunErr e
  | [], e, he => by cases he
  | x :: l, e, he => by
    rw [each] at he
    cases hg : f x with
    | error e' => rw [hg] at he; cases he; exact h x _ hg
    | ok y =>
      rw [hg] at he
      cases hr : each f l with
      | error e' => rw [hr] at he; cases he; exact each_err h hr
      | ok ys => rw [hr] at he; cases he
theorem scan_err {f : Rat → Rat → Except Int Rat} (h : ∀ a x e, f a x = .error e → RunErr e) : ∀ {l : List Rat} {a : Rat} {e : Int}, scan f a l = .error e → RunErr e
  | [], a, e, he => by cases he
  | x :: l, a, e, he => by
    rw [scan] at he
    cases hg : f a x with
    | error e' => rw [hg] at he; cases he; exact h a x _ hg
    | ok y =>
      rw [hg] at he
      cases hr : scan f y l with
      | error e' => simp only [hr] at he; cases he; exact scan_err h hr
      | ok ys => simp only [hr] at he; cases he
theorem diff_err {f : Rat → Rat → Except Int Rat} (h : ∀ a x e, f a x = .error e → RunErr e) : ∀ {l : List Rat} {a : Rat} {e : Int}, diff f a l = .error e → RunErr e
  | [], a, e, he => by cases he
  | x :: l, a, e, he => by
    rw [diff] at he
    cases hg : f a x with
    | error e' => rw [hg] at he; cases he; exact h a x _ hg
    | ok y =>
      rw [hg] at he
      cases hr : diff f x l with
      | error e' => simp only [hr] at he; cases he; exact diff_err h hr
      | ok ys => simp only [hr] at he; cases he
theorem headed_err {g : Rat → List Rat → Except Int (List Rat)} (h : ∀ a l e, g a l = .error e → RunErr e) : ∀ {l : List Rat} {e : Int}, headed g l = .error e → RunErr e
  | [], e, he => by cases he
  | x :: l, e, he => by
    rw [headed] at he
    cases hg : g x l with
    | error e' => rw [hg] at he; cases he; exact h x l _ hg
    | ok ys => rw [hg] at he; cases he
theorem err2 : RunErr 2 := Or.inl rfl
theorem err11 : RunErr 11 := Or.inr (Or.inr (Or.inr (Or.inl rfl)))
theorem err12 : RunErr 12 := Or.inr (Or.inr (Or.inr (Or.inr rfl)))
theorem err10 : RunErr 10 := Or.inr (Or.inr (Or.inl rfl))
theorem divE_err {a x : Rat} {e : Int} (h : divE a x = .error e) : RunErr e := by
  unfold divE at h
  split at h
  · cases h; exact err2
  · exact lim_err h
theorem Sp.err {x : Sp} {l : List Rat} {e : Int} (h : x.work l = .error e) : RunErr e := by
  cases x with
  | n => cases h
  | v =>
    refine each_err (fun x e hg => ?_) h
    split at hg
    · cases hg; exact err2
    · cases hg
  | a => cases h
  | q => exact each_err (fun x e hg => lim_err hg) h
  | w =>
    refine each_err (fun x e hg => ?_) h
    split at hg
    · cases hg
    · cases hg; exact err2
  | u =>
    refine each_err (fun x e hg => ?_) h
    split at hg
    · cases hg; exact err2
    · exact lim_err hg
  | r => cases h
  | s => exact headed_err (fun a l e hg => scan_err (f := addE) (fun a x e h => lim_err (show lim (a + x) = .error e from h)) hg) h
  | z => exact headed_err (fun a l e hg => diff_err (f := subE) (fun a x e h => lim_err (show lim (x - a) = .error e from h)) hg) h
  | p => exact headed_err (fun a l e hg => scan_err (f := mulE) (fun a x e h => lim_err (show lim (a * x) = .error e from h)) hg) h
  | m =>
    have h' : (if zeroAhead l then (Except.error 2 : Except Int (List Rat)) else headed (scan mulE) l) = .error e := h
    split at h'
    · cases h'; exact err2
    · exact headed_err (fun a l e hg => scan_err (f := mulE) (fun a x e h => lim_err (show lim (a * x) = .error e from h)) hg) h'
  | o => exact headed_err (fun a l e hg => diff_err (f := divE) (fun a x e h => divE_err h) hg) h
  | plus c => exact each_err (fun x e hg => lim_err hg) h
  | times c => exact each_err (fun x e hg => lim_err hg) h
  | set c => cases h
  | shift k => cases h
  | take k =>
    have h' : (if k ≤ l.length then (Except.ok (l.take k) : Except Int (List Rat)) else .error 11) = .error e := h
    split at h'
    · cases h'
    · cases h'; exact err11
  | drop k =>
    have h' : (if k ≤ l.length then (Except.ok (l.drop k) : Except Int (List Rat)) else .error 11) = .error e := h
    split at h'
    · cases h'
    · cases h'; exact err11
  | pick ps =>
    have h' : (if ps.all (· < l.length) then (Except.ok (picked ps l) : Except Int (List Rat)) else .error 11) = .error e := h
    split at h'
    · cases h'
    · cases h'; exact err11

/-- All errors of g are errors of running. -/
def ErrsOk (g : List Rat → Nat → Res) : Prop := ∀ l f e, g l f = .err e → RunErr e
theorem ErrsOk.then {g h : List Rat → Nat → Res} (hg : ErrsOk g) (hh : ErrsOk h) : ErrsOk (fun l f => Res.then (g l f) h) := by
  intro l f e he
  change Res.then (g l f) h = _ at he
  cases hr : g l f with
  | err e' => rw [hr] at he; cases he; exact hg _ _ _ hr
  | ok l1 f1 => rw [hr] at he; exact hh _ _ _ he
theorem ErrsOk.stepped {g : List Rat → Nat → Res} (hg : ErrsOk g) : ErrsOk (T.stepped g) := by
  intro l f e he
  cases f with
  | zero => cases he; exact err10
  | succ f => exact hg l f e he
theorem errs_id : ErrsOk (fun l f => .ok l f) := fun _ _ _ h => by cases h
theorem ErrsOk.iter {g : List Rat → Nat → Res} (hg : ErrsOk g) : ∀ k, ErrsOk (T.iter g k)
  | 0 => by rw [iter_zero_fun]; exact errs_id
  | k + 1 => by rw [iter_succ_fun]; exact (hg.then (ErrsOk.iter hg k)).stepped
mutual
theorem Pt.errs : ∀ (p : Pt) (b : Bool), ErrsOk (p.run b)
  | .sp x, b => by
    rw [Pt.run_sp]
    refine ErrsOk.stepped fun l f e he => ?_
    change lift (if b then x.workBack l else x.work l) f = _ at he
    cases b with
    | false =>
      change lift (x.work l) f = _ at he
      cases hr : x.work l with
      | error e' => rw [hr] at he; cases he; exact Sp.err hr
      | ok y => rw [hr] at he; cases he
    | true =>
      change lift (x.workBack l) f = _ at he
      unfold Sp.workBack at he
      cases ho : x.opp with
      | none => rw [ho] at he; cases he; exact err12
      | some y =>
        rw [ho] at he
        change lift (y.work l) f = _ at he
        cases hr : y.work l with
        | error e' => rw [hr] at he; cases he; exact Sp.err hr
        | ok z => rw [hr] at he; cases he
  | .pow t k, b => by
    by_cases hc : (if b then -k else k) < 0 ∧ t.back = false
    · rw [Pt.run_pow]
      refine ErrsOk.stepped fun l f e he => ?_
      change (if (if b then -k else k) < 0 ∧ t.back = false then Res.err 12 else _) = _ at he
      rw [if_pos hc] at he
      cases he
      exact err12
    · rw [Pt.run_pow_ok _ _ _ hc]
      exact ((Tm.errs t _).iter _).stepped
  | .under s g, b => by
    by_cases hp : s.picker = true
    · rw [Pt.run_under_pick _ _ _ hp]
      refine ErrsOk.stepped fun l f e he => ?_
      unfold underRun at he
      cases hr : s.run false (allPlaces l.length) f with
      | err e' => rw [hr] at he; cases he; exact Tm.errs s false _ _ _ hr
      | ok at_ f1 =>
        rw [hr, then_of_ok] at he
        cases hr2 : g.run b (picked (places at_) l) f1 with
        | err e' => rw [hr2] at he; cases he; exact Tm.errs g b _ _ _ hr2
        | ok ys f2 =>
          rw [hr2, then_of_ok] at he
          split at he
          · cases he
          · cases he; exact err11
    · by_cases hb : (s.back && s.plain) = true
      · rw [Pt.run_under_way _ _ _ (by simpa using hp) hb]
        exact ((Tm.errs s false).then ((Tm.errs g b).then (Tm.errs s true))).stepped
      · rw [Pt.run_fun]
        refine ErrsOk.stepped fun l f e he => ?_
        change (if s.picker then _ else if s.back && s.plain then _ else Res.err 12) = _ at he
        rw [if_neg hp, if_neg hb] at he
        cases he
        exact err12
  | .name c t, b => by
    rw [Pt.run_name]
    exact (Tm.errs t b).stepped
theorem Tm.errs : ∀ (t : Tm) (b : Bool), ErrsOk (t.run b)
  | .nil, b => by rw [Tm.run_nil_fun]; exact errs_id
  | .cons p t, false => by rw [Tm.run_fwd_fun]; exact (Pt.errs p false).then (Tm.errs t false)
  | .cons p t, true => by rw [Tm.run_bwd_fun]; exact (Tm.errs t true).then (Pt.errs p true)
end

/-! ### Answers taken apart -/
theorem ApplySays.err {env : Env} {s ls : List UInt8} {fuel : Int} {r : List UInt8} {n e : Int} (h : ApplySays env s ls fuel r n e) (he : e ≠ 0) : r = [] ∧ n = 0 := by
  rcases h with ⟨_, h2, h3⟩ | ⟨t, g, ⟨_, h2, h3, _⟩ | ⟨l, hl, ⟨_, h2, h3, _⟩ | ⟨_, _, h⟩⟩⟩
  · exact ⟨h2, h3⟩
  · exact ⟨h2, h3⟩
  · exact ⟨h2, h3⟩
  · cases hr : t.run false l fuel.toNat with
    | ok l' f => rw [hr] at h; exact absurd h.2.2 he
    | err x => rw [hr] at h; exact ⟨h.1, h.2.1⟩
theorem ApplySays.ok {env : Env} {s ls : List UInt8} {fuel : Int} {r : List UInt8} {n e : Int} (h : ApplySays env s ls fuel r n e) (he : e = 0) : ∃ t l l' f', Good env s t ∧ IsList ls l ∧ 0 ≤ fuel ∧ fuel ≤ 5000 ∧ t.run false l fuel.toNat = .ok l' f' ∧ r = listText l' ∧ n = fuel - f' := by
  subst he
  rcases h with ⟨h1, _, _⟩ | ⟨t, g, ⟨_, _, _, h1⟩ | ⟨l, hl, ⟨_, _, _, h1⟩ | ⟨h1, h2, h⟩⟩⟩
  · exact absurd rfl h1.ne
  · cases h1
  · cases h1
  · cases hr : t.run false l fuel.toNat with
    | ok l' f => rw [hr] at h; exact ⟨t, l, l', f, g, hl, h1, h2, hr, h.1, h.2.1⟩
    | err x => rw [hr] at h; exact absurd h.2.2.symm (Tm.errs t false _ _ _ hr).ne
theorem apply_mk {env : Env} {s ls : List UInt8} {fuel : Int} {t : Tm} {l : List Rat} {r : List UInt8} {n e : Int} (g : Good env s t) (hl : IsList ls l) (h1 : 0 ≤ fuel) (h2 : fuel ≤ 5000) (h : RunSays (t.run false l fuel.toNat) fuel r n e) : ApplySays env s ls fuel r n e :=
  Or.inr ⟨t, g, Or.inr ⟨l, hl, Or.inr ⟨h1, h2, h⟩⟩⟩
theorem FactsSays.good {env : Env} {s : List UInt8} {n : Int} (h : FactsSays env s n 0) : ∃ t, Good env s t ∧ n = factsNum t := by
  rcases h with ⟨h1, _⟩ | ⟨t, g, h1, _⟩
  · exact absurd rfl h1.ne
  · exact ⟨t, g, h1⟩
theorem run_list {t : Tm} (hw : t.wf) {ls : List UInt8} {l l' : List Rat} {f f' : Nat} {b : Bool} (hl : IsList ls l) (h : t.run b l f = .ok l' f') : IsList (listText l') l' := by
  obtain ⟨h1, h2⟩ := Tm.keeps t hw b l f l' f' h
  exact ⟨by have := hl.len; omega, h1 hl.small, rfl⟩

/-! ### A power around a term -/
def powText (s : List UInt8) (k : Int) : List UInt8 := 40 :: (s ++ 41 :: 94 :: itoa k)
theorem IsTerm.pow {env : Env} {s : List UInt8} {t : Tm} (h : IsTerm env s t) {k : Int} (h1 : -999 ≤ k) (h2 : k ≤ 999) : IsTerm env (powText s k) (.cons (.pow t k) .nil) := by
  refine ⟨?_, ?_, ?_⟩
  · rw [Tm.wf, Pt.wf, Tm.wf]; exact ⟨⟨h.wf, h1, h2⟩, trivial⟩
  · rw [Tm.inEnv, Pt.inEnv, Tm.inEnv]; exact ⟨h.env, trivial⟩
  · rw [Tm.text, Pt.text, Tm.text, h.text]; simp [powText]
theorem itoa_m1 : itoa (-1) = [45, 49] := by rw [M.itoa_neg _ (by omega)]; show 45 :: decDigits 1 = _; rw [dec_small 1 (by omega)]; rfl
theorem itoa_1 : itoa 1 = [49] := by rw [M.itoa_pos _ (by omega)]; show decDigits 1 = _; rw [dec_small 1 (by omega)]; rfl
theorem run_one (p : Pt) (l : List Rat) (f : Nat) : (Tm.cons p .nil).run false l f = p.run false l f := by
  rw [Tm.run_fwd]
  cases p.run false l f with
  | err e => rfl
  | ok l1 f1 => show Tm.nil.run false l1 f1 = _; rw [Tm.run_nil]
theorem iter_one (g : List Rat → Nat → Res) (l : List Rat) (f : Nat) : iter g 1 l (f + 1) = g l f := by
  rw [iter_succ]
  show Res.then (g l f) (iter g 0) = _
  cases g l f with
  | err e => rfl
  | ok l1 f1 => show iter g 0 l1 f1 = _; rw [iter_zero]
/-- UNDO. -/
theorem k_undo {env : Env} {s ls : List UInt8} {fuel n0 : Int} {l : List UInt8} {n f : Int} (hF : FactsSays env s n0 0) (h1 : ApplySays env (powText s (-1)) ls fuel l n f) (hf : f = 0) {back : List UInt8} {m g : Int} (h2 : ApplySays env (powText s 1) l fuel back m g) : g = 0 ∧ back = ls ∧ m = n ∧ 2 ≤ n := by
  obtain ⟨t, hg, _⟩ := hF.good
  obtain ⟨t', L, L', f', hg', hL, b1, b2, hr, rfl, rfl⟩ := h1.ok hf
  obtain rfl := (hg.term.pow (k := -1) (by omega) (by omega)).unique hg'.term
  obtain ⟨F, hF2⟩ := Int.eq_ofNat_of_zero_le b1
  subst hF2
  rw [Int.toNat_natCast, run_one, Pt.run_pow] at hr
  cases F with
  | zero => cases hr
  | succ F =>
    change (if (-1 : Int) < 0 ∧ t.back = false then Res.err 12 else iter (fun l f => t.run (decide ((-1 : Int) < 0)) l f) 1 L F) = _ at hr
    split at hr
    · cases hr
    · rename_i hb
      have hb' : t.back = true := by simpa using hb
      cases F with
      | zero => cases hr
      | succ F =>
        rw [iter_one] at hr
        obtain ⟨k1, k2⟩ := Tm.undo t hb' hg.term.wf hL.small hr
        obtain ⟨st, hst, _⟩ := (Tm.paced t true).steps hr
        have hg2 : Good env (powText s 1) (.cons (.pow t 1) .nil) := by
          refine ⟨?_, hg.term.pow (by omega) (by omega)⟩
          have := hg'.len
          unfold powText at *
          rw [itoa_m1] at this
          rw [itoa_1]
          simp at *
          omega
        have hL' : IsList (listText L') L' := run_list hg.term.wf hL hr
        have hrun : (Tm.cons (.pow t 1) .nil).run false L' (F + 1 + 1) = .ok L f' := by
          rw [run_one, Pt.run_pow]
          change (if (1 : Int) < 0 ∧ t.back = false then Res.err 12 else iter (fun l f => t.run (decide ((1 : Int) < 0)) l f) 1 L' (F + 1)) = _
          rw [if_neg (by simp), iter_one]
          exact k1
        have hA := apply_mk (fuel := ((F + 1 + 1 : Nat) : Int)) (r := ls) (n := ((F + 1 + 1 : Nat) : Int) - f') (e := 0) hg2 hL' (by omega) b2 (by
          rw [Int.toNat_natCast, hrun]
          exact ⟨hL.text.symm, rfl, rfl⟩)
        obtain ⟨e1, e2, e3⟩ := h2.unique hA
        exact ⟨e3, e1, e2, by omega⟩
end T
end Go.Proofs.YtikiaijgcjjloaaGreatDoor

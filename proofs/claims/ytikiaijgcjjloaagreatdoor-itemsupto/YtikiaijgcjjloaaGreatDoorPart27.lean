import Derived.Test.YtikiaijgcjjloaaGreatDoorPart5
import Derived.Test.YtikiaijgcjjloaaGreatDoorPart26

/- A run keeps lists lists: the items stay within the limit, and there are never more of them. Terms one behind the other. No program in this text. -/
namespace Go.Proofs.YtikiaijgcjjloaaGreatDoor
namespace T

/-- l' is a list as l was: small items, not more of them. -/
def Keeps (l l' : List Rat) : Prop := (AllS l → AllS l') ∧ l'.length ≤ l.length
theorem Keeps.refl (l : List Rat) : Keeps l l := ⟨id, Nat.le_refl _⟩
theorem Keeps.trans {a b c : List Rat} (h : Keeps a b) (k : Keeps b c) : Keeps a c := ⟨fun x => k.1 (h.1 x), Nat.le_trans k.2 h.2⟩

theorem each_keeps {f : Rat → Except Int Rat} (h : ∀ x y, small x = true → f x = .ok y → small y = true) : ∀ {l l' : List Rat}, each f l = .ok l' → Keeps l l'
  | [], l', e => by cases e; exact Keeps.refl _
  | x :: l, l', e => by
    rw [each] at e
    cases hg : f x with
    | error e' => rw [hg] at e; cases e
    | ok y =>
      rw [hg] at e
      cases hr : each f l with
      | error e' => rw [hr] at e; cases e
      | ok ys =>
        rw [hr] at e
        cases e
        obtain ⟨h1, h2⟩ := each_keeps h hr
        refine ⟨fun ha => ?_, by simpa using h2⟩
        obtain ⟨hx, hl⟩ := allS_cons.1 ha
        exact allS_cons.2 ⟨h x y hx hg, h1 hl⟩
theorem scan_keeps {f : Rat → Rat → Except Int Rat} (h : ∀ a x y, f a x = .ok y → small y = true) : ∀ {l l' : List Rat} {a : Rat}, scan f a l = .ok l' → Keeps l l'
  | [], l', a, e => by cases e; exact Keeps.refl _
  | x :: l, l', a, e => by
    rw [scan] at e
    cases hg : f a x with
    | error e' => rw [hg] at e; cases e
    | ok y =>
      rw [hg] at e
      cases hr : scan f y l with
      | error e' => simp only [hr] at e; cases e
      | ok ys =>
        simp only [hr] at e
        cases e
        obtain ⟨h1, h2⟩ := scan_keeps h hr
        refine ⟨fun ha => ?_, by simpa using h2⟩
        obtain ⟨hx, hl⟩ := allS_cons.1 ha
        exact allS_cons.2 ⟨h a x y hg, h1 hl⟩
theorem diff_keeps {f : Rat → Rat → Except Int Rat} (h : ∀ a x y, f a x = .ok y → small y = true) : ∀ {l l' : List Rat} {a : Rat}, diff f a l = .ok l' → Keeps l l'
  | [], l', a, e => by cases e; exact Keeps.refl _
  | x :: l, l', a, e => by
    rw [diff] at e
    cases hg : f a x with
    | error e' => rw [hg] at e; cases e
    | ok y =>
      rw [hg] at e
      cases hr : diff f x l with
      | error e' => simp only [hr] at e; cases e
      | ok ys =>
        simp only [hr] at e
        cases e
        obtain ⟨h1, h2⟩ := diff_keeps h hr
        refine ⟨fun ha => ?_, by simpa using h2⟩
        obtain ⟨hx, hl⟩ := allS_cons.1 ha
        exact allS_cons.2 ⟨h a x y hg, h1 hl⟩
theorem headed_keeps {g : Rat → List Rat → Except Int (List Rat)} (h : ∀ a l l', g a l = .ok l' → Keeps l l') : ∀ {l l' : List Rat}, headed g l = .ok l' → Keeps l l'
  | [], l', e => by cases e; exact Keeps.refl _
  | x :: l, l', e => by
    rw [headed] at e
    cases hg : g x l with
    | error e' => rw [hg] at e; cases e
    | ok ys =>
      rw [hg] at e
      cases e
      obtain ⟨h1, h2⟩ := h x l ys hg
      refine ⟨fun ha => ?_, by simpa using h2⟩
      obtain ⟨hx, hl⟩ := allS_cons.1 ha
      exact allS_cons.2 ⟨hx, h1 hl⟩
theorem lim_small {r y : Rat} (h : lim r = .ok y) : small y = true := (lim_ok h).2
theorem divE_small {a x y : Rat} (h : divE a x = .ok y) : small y = true := by
  unfold divE at h
  split at h
  · cases h
  · exact lim_small h
theorem map_keeps {f : Rat → Rat} (h : ∀ x, small x = true → small (f x) = true) (l : List Rat) : Keeps l (l.map f) := ⟨fun ha => mapS h ha, by simp⟩

theorem Sp.keeps {x : Sp} (hw : x.wf) {l l' : List Rat} (h : x.work l = .ok l') : Keeps l l' := by
  cases x with
  | n => cases h; exact map_keeps (fun _ => small_neg) l
  | v =>
    refine each_keeps (fun x y hx hg => ?_) h
    split at hg
    · cases hg
    · cases hg; exact small_inv ‹_› hx
  | a =>
    cases h
    refine map_keeps (fun x hx => ?_) l
    split
    · exact small_neg hx
    · exact hx
  | q => exact each_keeps (fun x y _ hg => lim_small hg) h
  | w =>
    refine each_keeps (fun x y hx hg => ?_) h
    split at hg
    · cases hg; exact root_small ‹_› hx
    · cases hg
  | u =>
    refine each_keeps (fun x y _ hg => ?_) h
    split at hg
    · cases hg
    · exact lim_small hg
  | r => cases h; exact ⟨fun ha z hz => ha z (List.mem_reverse.1 hz), by simp⟩
  | s => exact headed_keeps (fun a l l' hg => scan_keeps (f := addE) (fun a x y h => lim_small (show lim (a + x) = .ok y from h)) hg) h
  | z => exact headed_keeps (fun a l l' hg => diff_keeps (f := subE) (fun a x y h => lim_small (show lim (x - a) = .ok y from h)) hg) h
  | p => exact headed_keeps (fun a l l' hg => scan_keeps (f := mulE) (fun a x y h => lim_small (show lim (a * x) = .ok y from h)) hg) h
  | m =>
    have h' : (if zeroAhead l then (Except.error 2 : Except Int (List Rat)) else headed (scan mulE) l) = .ok l' := h
    split at h'
    · cases h'
    · exact headed_keeps (fun a l l' hg => scan_keeps (f := mulE) (fun a x y h => lim_small (show lim (a * x) = .ok y from h)) hg) h'
  | o => exact headed_keeps (fun a l l' hg => diff_keeps (f := divE) (fun a x y h => divE_small h) hg) h
  | plus c => exact each_keeps (fun x y _ hg => lim_small hg) h
  | times c => exact each_keeps (fun x y _ hg => lim_small hg) h
  | set c => cases h; exact map_keeps (fun _ _ => hw) l
  | shift k => cases h; exact ⟨fun ha => turnS k ha, by rw [turn_length]; exact Nat.le_refl _⟩
  | take k =>
    have h' : (if k ≤ l.length then (Except.ok (l.take k) : Except Int (List Rat)) else .error 11) = .ok l' := h
    split at h'
    · cases h'; exact ⟨fun ha z hz => ha z (List.mem_of_mem_take hz), by simp; omega⟩
    · cases h'
  | drop k =>
    have h' : (if k ≤ l.length then (Except.ok (l.drop k) : Except Int (List Rat)) else .error 11) = .ok l' := h
    split at h'
    · cases h'; exact ⟨fun ha z hz => ha z (List.mem_of_mem_drop hz), by simp⟩
    · cases h'
  | pick ps =>
    have h' : (if ps.all (· < l.length) then (Except.ok (picked ps l) : Except Int (List Rat)) else .error 11) = .ok l' := h
    split at h'
    · rename_i hall
      cases h'
      have hlt : ∀ i ∈ ps, i < l.length := fun i hi => by simpa using List.all_eq_true.1 hall i hi
      refine ⟨fun ha => pickedS hlt ha, ?_⟩
      rw [picked_length]
      have := List.Nodup.length_le_of_subset hw.2.1 (fun i hi => List.mem_range.2 (hlt i hi))
      simpa using this
    · cases h'
theorem Sp.opp_wfK {x y : Sp} (hw : x.wf) (ho : x.opp = some y) : y.wf := by
  cases x with
  | plus c => cases ho; exact small_neg hw
  | times c =>
    rw [Sp.opp] at ho
    split at ho
    · cases ho
    · cases ho; exact small_inv ‹_› hw
  | shift k => cases ho; have h1 := hw.1; have h2 := hw.2; exact ⟨by omega, by omega⟩
  | _ => cases ho <;> trivial

theorem lift_ok {r : Except Int (List Rat)} {f f' : Nat} {l' : List Rat} (h : lift r f = .ok l' f') : r = .ok l' := by
  cases r with
  | error e => cases h
  | ok x => cases h; rfl
theorem iter_keeps {g : List Rat → Nat → Res} (hg : ∀ l f l' f', g l f = .ok l' f' → Keeps l l') : ∀ (k : Nat) {l l' : List Rat} {f f' : Nat}, iter g k l f = .ok l' f' → Keeps l l'
  | 0, l, l', f, f', e => by rw [iter_zero] at e; cases e; exact Keeps.refl _
  | k + 1, l, l', f, f', e => by
    rw [iter_succ] at e
    cases f with
    | zero => cases e
    | succ f =>
      obtain ⟨l1, f1, e1, e2⟩ := then_ok e
      exact (hg _ _ _ _ e1).trans (iter_keeps hg k e2)
mutual
theorem Pt.keeps : ∀ (p : Pt), p.wf → ∀ (b : Bool) (l : List Rat) (f : Nat) (l' : List Rat) (f' : Nat), p.run b l f = .ok l' f' → Keeps l l'
  | .sp x, hw, b, l, 0, l', f', e => by rw [Pt.run_sp] at e; cases e
  | .sp x, hw, b, l, f + 1, l', f', e => by
    rw [Pt.run_sp] at e
    rw [Pt.wf] at hw
    have e' := lift_ok (show lift (if b then x.workBack l else x.work l) f = .ok l' f' from e)
    cases b with
    | false => exact Sp.keeps hw e'
    | true =>
      have e2 : x.workBack l = .ok l' := e'
      unfold Sp.workBack at e2
      cases ho : x.opp with
      | none => rw [ho] at e2; cases e2
      | some y => rw [ho] at e2; exact Sp.keeps (Sp.opp_wfK hw ho) e2
  | .pow t k, hw, b, l, 0, l', f', e => by rw [Pt.run_pow] at e; cases e
  | .pow t k, hw, b, l, f + 1, l', f', e => by
    rw [Pt.wf] at hw
    by_cases hc : (if b then -k else k) < 0 ∧ t.back = false
    · rw [Pt.run_pow] at e
      change (if (if b then -k else k) < 0 ∧ t.back = false then Res.err 12 else iter (fun l f => t.run (decide ((if b then -k else k) < 0)) l f) k.natAbs l f) = _ at e
      rw [if_pos hc] at e
      cases e
    · rw [Pt.run_pow_ok _ _ _ hc] at e
      exact iter_keeps (g := t.run (decide ((if b then -k else k) < 0))) (fun l f l' f' h => Tm.keeps t hw.1 _ l f l' f' h) k.natAbs (f := f) e
  | .under s g, hw, b, l, 0, l', f', e => by rw [Pt.run_fun] at e; cases e
  | .under s g, hw, b, l, f + 1, l', f', e => by
    rw [Pt.wf] at hw
    by_cases hp : s.picker = true
    · rw [Pt.run_under_pick _ _ _ hp] at e
      change underRun (s.run false) (g.run b) l f = _ at e
      unfold underRun at e
      obtain ⟨at_, f1, e1, e2⟩ := then_ok e
      obtain ⟨ys, f2, e3, e4⟩ := then_ok e2
      split at e4
      · cases e4
        refine ⟨fun ha => ?_, by rw [layAt_length]; exact Nat.le_refl _⟩
        have hlen : (allPlaces l.length).length = l.length := by simp [allPlaces]
        rcases Tm.natl s hp hw.1 false l.length f with ⟨er, he⟩ | ⟨idx, f3, hnd, hlt, hidx⟩
        · rw [he _ hlen] at e1; cases e1
        · rw [hidx _ hlen] at e1
          cases e1
          rw [places_all idx l.length hlt] at e3 ⊢
          exact layS ha ((Tm.keeps g hw.2 b _ _ _ _ e3).1 (pickedS hlt ha))
      · cases e4
    · by_cases hb : (s.back && s.plain) = true
      · rw [Pt.run_under_way _ _ _ (by simpa using hp) hb] at e
        change Res.then (s.run false l f) _ = _ at e
        obtain ⟨l1, f1, e1, e2⟩ := then_ok e
        obtain ⟨l2, f2, e3, e4⟩ := then_ok e2
        exact ((Tm.keeps s hw.1 false _ _ _ _ e1).trans (Tm.keeps g hw.2 b _ _ _ _ e3)).trans (Tm.keeps s hw.1 true _ _ _ _ e4)
      · rw [Pt.run_fun] at e
        change (if s.picker then _ else if s.back && s.plain then _ else Res.err 12) = _ at e
        rw [if_neg hp, if_neg hb] at e
        cases e
  | .name c t, hw, b, l, 0, l', f', e => by rw [Pt.run_name] at e; cases e
  | .name c t, hw, b, l, f + 1, l', f', e => by
    rw [Pt.run_name] at e
    rw [Pt.wf] at hw
    exact Tm.keeps t hw.2.2 b l f l' f' e
theorem Tm.keeps : ∀ (t : Tm), t.wf → ∀ (b : Bool) (l : List Rat) (f : Nat) (l' : List Rat) (f' : Nat), t.run b l f = .ok l' f' → Keeps l l'
  | .nil, _, b, l, f, l', f', e => by rw [Tm.run_nil] at e; cases e; exact Keeps.refl _
  | .cons p t, hw, false, l, f, l', f', e => by
    rw [Tm.wf] at hw
    rw [Tm.run_fwd] at e
    obtain ⟨l1, f1, e1, e2⟩ := then_ok e
    exact (Pt.keeps p hw.1 _ _ _ _ _ e1).trans (Tm.keeps t hw.2 _ _ _ _ _ e2)
  | .cons p t, hw, true, l, f, l', f', e => by
    rw [Tm.wf] at hw
    rw [Tm.run_bwd] at e
    obtain ⟨l1, f1, e1, e2⟩ := then_ok e
    exact (Tm.keeps t hw.2 _ _ _ _ _ e1).trans (Pt.keeps p hw.1 _ _ _ _ _ e2)
end
end T
end Go.Proofs.YtikiaijgcjjloaaGreatDoor

/- The walks: places, and items laid at places. -/
namespace Go.Proofs.YtikiaijgcjjloaaGreatDoor
open Go Go.RowKit M T Go.Lib

/-! ### Rows of places -/
def ivP (i : Nat) : Value := .int .i64 (i : Int)
def irowP (ps : List Nat) : List Value := ps.map fun i : Nat => Value.int .i64 (i : Int)
theorem irowP_snoc (ps : List Nat) (p : Nat) : irowP ps ++ [ivP p] = irowP (ps ++ [p]) := by unfold irowP ivP; simp
theorem one_ivP (p : Nat) : ∀ u ∈ [ivP p], u.oneCell' = true := by
  intro u hu
  rw [List.mem_singleton.1 hu]
  rfl
/-- A row of places while it is made. -/
structure JkIs (w0 : World) (v : Value) (ps : List Nat) (wr : World) : Prop where
  own : wr.ownsRow w0.heap.size 3 1 v ps.length (irowP ps)
  bel : Below w0.heap.size w0 wr
theorem JkIs.start (w : World) : JkIs w (.slice (some ⟨w.heap.size, 0, none⟩) 0 0) [] (w.alloc (.cells #[] 3)) := ⟨World.ownsRow_made w #[] 0 (Nat.le_refl _) (Nat.zero_le _) rfl, (Below.refl _ _).alloc (Nat.le_refl _) _⟩
theorem JkIs.below {w0 wr wr' : World} {v : Value} {ps : List Nat} (h : JkIs w0 v ps wr) (hb : Below wr.heap.size wr wr') : JkIs w0 v ps wr' := ⟨owns_belowP h.own hb, h.bel.trans (hb.mono h.bel.size)⟩
theorem JkIs.more {w0 wr w4 : World} {v v' : Value} {ps : List Nat} {p : Nat} (h : JkIs w0 v ps wr) (ho : w4.ownsRow w0.heap.size 3 1 v' (ps.length + 1) (irowP ps ++ [ivP p])) (hg : wr.grownBy w4 v.ownBlock) : JkIs w0 v' (ps ++ [p]) w4 := by
  refine ⟨by rw [List.length_append, ← irowP_snoc]; exact ho, ⟨hg.os.trans h.bel.os, hg.tape.trans h.bel.tape, hg.output.trans h.bel.output, Nat.le_trans h.bel.size hg.size, fun k hk => (hg.block k (Nat.lt_of_lt_of_le hk h.bel.size) (fun e => ?_)).trans (h.bel.block k hk)⟩⟩
  have := (h.own.lt k e.symm).1
  omega
theorem JkIs.shape {w0 wr : World} {v : Value} {ps : List Nat} (h : JkIs w0 v ps wr) (hn : 1 ≤ ps.length) : ∃ g cp, v = .slice (some ⟨g, 0, none⟩) ps.length cp := owns_some h.own (by
  rintro rfl
  have := owns_len h.own
  omega)
/-- The cells of a row of places. -/
theorem places_cells {w : World} {pa : Option Addr} {pn pc : Nat} {ps : List Nat} (hp : w.ownsRow 0 3 1 (.slice pa pn pc) ps.length (irowP ps)) (hpos : 0 < ps.length) : ∃ gp, pa = some ⟨gp, 0, none⟩ ∧ gp < w.heap.size ∧ ∀ j (hj : j < ps.length), w.cell? ⟨gp, j, none⟩ = some (.int .i64 (ps[j] : Int)) := by
  rcases hp.2 with ⟨_, e⟩ | ⟨gp, cp, cur, hv, _, hh, _⟩
  · omega
  · obtain ⟨rfl, _, rfl⟩ := Value.slice.inj hv
    refine ⟨gp, rfl, lt_of_block hh, fun j hj => ?_⟩
    have := hp.cells (g := gp) rfl j (.int .i64 (ps[j] : Int)) (by rw [irowP, List.getElem?_map, List.getElem?_eq_getElem hj]; rfl)
    rw [show (⟨gp, 0, none⟩ : Addr).add j = ⟨gp, j, none⟩ from by unfold Addr.add; split <;> simp_all] at this
    exact this

/-! ### The places of a list, as a list -/
def rnat (i : Nat) : Rat := ((i : Int) : Rat)
theorem rnat_num (i : Nat) : (rnat i).num = (i : Int) := rfl
theorem rnat_den (i : Nat) : (rnat i).den = 1 := rfl
theorem rnat_small {i : Nat} (h : i ≤ 1000000000) : small (rnat i) = true := by
  unfold small
  rw [decide_eq_true_iff, rnat_num, rnat_den]
  omega
theorem allPlaces_map (n : Nat) : allPlaces n = (List.range n).map rnat := rfl
theorem allPlaces_len (n : Nat) : (allPlaces n).length = n := by simp [allPlaces]
theorem allPlaces_small {n : Nat} (h : n ≤ 1000) : AllS (allPlaces n) := by
  intro q hq
  rw [allPlaces_map] at hq
  obtain ⟨i, hi, rfl⟩ := List.mem_map.1 hq
  have := List.mem_range.1 hi
  exact rnat_small (by omega)
theorem range_snoc (i : Nat) : (List.range i).map rnat ++ [rnat i] = (List.range (i + 1)).map rnat := by rw [List.range_succ, List.map_append]; rfl

set_option maxRecDepth 100000 in
set_option maxHeartbeats 800000 in
theorem ofWhole_any (i : Nat) (hi : i ≤ 1000) (w : World) : Calls Tryz.prog 190 #[.int .i64 (i : Int)] w fun e w' => e = .returned (.tuple #[.agg #[.int .i64 (i : Int), .int .i64 1], .int .i64 0]) ∧ Below w.heap.size w w' := by
  have h1 : ¬ (i : Int) < -1000000000 := by omega
  have h2 : ¬ (1000000000 : Int) < (i : Int) := by omega
  go_enter Tryz.func190, Tryz.ntmps190
  go_wp2_with fail
  exact bodyPost_ret (v := .tuple #[.agg #[.int .i64 (i : Int), .int .i64 1], .int .i64 0]) (by simp [results, Tryz.results190, go_sem]) rfl ⟨rfl, (by repeat (first | exact Below.refl _ _ | refine below_dr ?_ _ | refine Below.drew ?_ | refine Below.setCell ?_ (by simp) _ | refine Below.alloc ?_ (by simp) _))⟩

set_option maxRecDepth 100000 in
set_option maxHeartbeats 1600000 in
theorem allPlaces_any (n : Nat) (hn : n ≤ 1000) (w : World) : Calls Tryz.prog 185 #[.int .i64 (n : Int)] w fun e w' => (∃ g cap, e = .returned (.tuple #[.slice (some ⟨g, 0, none⟩) n cap, .int .i64 0]) ∧ w'.ownsRow w.heap.size 91 2 (.slice (some ⟨g, 0, none⟩) n cap) n (nrow (allPlaces n))) ∧ Below w.heap.size w w' := by
  obtain ⟨i0, hi0, hz0, hz1, hz2⟩ := info_parts Tryz.infoNumber
  go_enter Tryz.func185, Tryz.ntmps185
  go_wp2_with fail
  go_loopg [4, 5] n (fun kk v4 v5 wr => ∃ (i : Nat) (ys : List Rat) (g' cp' : Nat), kk = n - i ∧ i ≤ n ∧ v5 = .int .i64 (i : Int) ∧ v4 = .slice (some ⟨g', 0, none⟩) ys.length cp' ∧ ys = allPlaces i ∧ MkIs w (.slice (some ⟨g', 0, none⟩) ys.length cp') ys wr)
  case atStart => exact ⟨0, [], w.heap.size, 0, rfl, Nat.zero_le _, rfl, rfl, rfl, MkIs.start w⟩
  case round =>
    obtain ⟨i, ys, g', cp', hk, hi, rfl, rfl, he, hm⟩ := hrel
    have HK := hide hk
    have HM := hide hm
    have HE := hide he
    have hyl : ys.length ≤ 1000 := by rw [he, allPlaces_len]; omega
    clear hk hm he
    by_cases hlt : i < n
    · have hlt' : (i : Int) < (n : Int) := by omega
      go_wp2_with fail
      refine (ofWhole_any i (by omega) _).mono ?_
      rintro e w1 ⟨rfl, hb1⟩
      have HM2 := hide (((unhide HM).below hb1).below ((Below.refl _ _).alloc (Nat.le_refl _) (.cells #[.int .i64 (i : Int), .int .i64 1] 91)))
      have HM3 := hide ((unhide HM2).below ((Below.refl _ _).alloc (Nat.le_refl _) (.cells (qcells (rnat i)).toArray 91)))
      have hsz := ((unhide HM).below hb1).bel.size
      clear hb1
      go_wp2_with (at_builtin; refine wpList_append_own _ rfl _ _ 66 rfl w.heap.size 91 i0 _ 2 16 Tryz.underlying66 hi0 hz0 hz1 hz2 rfl (by decide) _ _ _ rfl (unhide HM3).own ⟨w1.heap.size + 1, 0, none⟩ 1 1 (qcells (rnat i)) rfl rfl (nnews_at (by simp) _ _) (one_qcells _) (by unfold maxLen; omega) (by omega) (by simp; omega) ?_)
      intro v' w4 hown4 hgr4 _
      have hm4 := (unhide HM3).more hown4 hgr4
      obtain ⟨g4, cp4, rfl⟩ := hm4.shape (by simp)
      have HM4 := hide hm4
      clear hown4 hgr4 hm4
      go_wp2_with fail
      go_roundg (n - (i + 1))
      case measure => rw [unhide HK]; omega
      case rel => exact ⟨i + 1, ys ++ [rnat i], g4, cp4, rfl, by omega, rfl, rfl, by rw [unhide HE]; exact range_snoc i, unhide HM4⟩
    · have hlt' : ¬ (i : Int) < (n : Int) := by omega
      obtain rfl : i = n := by omega
      have HFin := hide (show wr.ownsRow w.heap.size 91 2 (.slice (some ⟨g', 0, none⟩) ys.length cp') i (nrow (allPlaces i)) by
        have := (unhide HM).own
        rw [unhide HE, allPlaces_len] at this
        rw [unhide HE, allPlaces_len]
        exact this)
      have HLe := hide (show ys.length = i by rw [unhide HE, allPlaces_len])
      go_wp2_with fail
      exact bodyPost_ret (v := .tuple #[.slice (some ⟨g', 0, none⟩) ys.length cp', .int .i64 0]) (by simp [results, Tryz.results185, go_sem]) rfl ⟨⟨g', cp', by rw [unhide HLe], by have := unhide HFin; rw [unhide HLe] at this; exact this⟩, (unhide HM).bel⟩

set_option maxRecDepth 100000 in
set_option maxHeartbeats 1600000 in
theorem readPls_any {g cap : Nat} {ps : List Nat} {w : World} (h : LIs w g cap (ps.map rnat)) :
    Calls Tryz.prog 186 #[.slice (some ⟨g, 0, none⟩) ps.length cap] w fun e w' => (∃ gp cp, e = .returned (.tuple #[.slice (some ⟨gp, 0, none⟩) ps.length cp, .int .i64 0]) ∧ w'.ownsRow w.heap.size 3 1 (.slice (some ⟨gp, 0, none⟩) ps.length cp) ps.length (irowP ps)) ∧ Below w.heap.size w w' := by
  obtain ⟨i0, hi0, hz0, hz1, hz2⟩ := info_parts Tryz.infoInt
  have hlen : ps.length ≤ 1000 := by have := h.len; rw [List.length_map] at this; exact this
  have hg := h.lt
  have HL := hide h
  clear h
  go_enter Tryz.func186, Tryz.ntmps186
  go_wp2_with fail
  go_loopg [4, 12] ps.length (fun kk v4 v12 wr => ∃ (i : Nat) (qs : List Nat) (g' cp' : Nat), kk = ps.length - i ∧ i ≤ ps.length ∧ v12 = .int .i64 (i : Int) ∧ v4 = .slice (some ⟨g', 0, none⟩) qs.length cp' ∧ qs = ps.take i ∧ JkIs w (.slice (some ⟨g', 0, none⟩) qs.length cp') qs wr)
  case atStart => exact ⟨0, [], w.heap.size, 0, rfl, Nat.zero_le _, rfl, rfl, rfl, JkIs.start w⟩
  case round =>
    obtain ⟨i, qs, g', cp', hk, hi, rfl, rfl, he, hm⟩ := hrel
    have HK := hide hk
    have HM := hide hm
    have HE := hide he
    have hyl : qs.length ≤ 1000 := by rw [he, List.length_take]; omega
    clear he hk
    by_cases hlt : i < ps.length
    · have hlt' : (i : Int) < (ps.length : Int) := by omega
      obtain ⟨d0, d1⟩ := (unhide HL).cell (j := i) (by rw [List.length_map]; exact hlt)
      rw [List.getElem_map, rnat_num] at d0
      rw [List.getElem_map, rnat_den] at d1
      have hgr : ∀ (b o : Nat), b < w.heap.size → wr.cell? ⟨b, o, none⟩ = w.cell? ⟨b, o, none⟩ := fun b o hb => hm.bel.cell (p := ⟨b, o, none⟩) hb
      rw [← hgr g _ hg] at d0 d1
      have hsz := hm.bel.size
      have d1' : wr.cell? ⟨g, i * 2 + 1, none⟩ = some (.int .i64 1) := d1
      have HTk := hide (show ps.take (i + 1) = ps.take i ++ [ps[i]] from List.take_succ_eq_append_getElem hlt)
      clear hgr hm d1
      generalize ps[i] = q at d0 HTk
      go_wp2_with fail
      refine (nWhole_one (q : Int) _).mono ?_
      rintro e w1 ⟨rfl, hb1⟩
      have HM1 := hide (((unhide HM).below ((Below.refl _ _).alloc (Nat.le_refl _) (.cells #[.int .i64 (q : Int), .int .i64 1] 91))).below hb1)
      have HM2 := hide ((unhide HM1).below ((Below.refl _ _).alloc (Nat.le_refl _) (.cells [ivP q].toArray 3)))
      have hsz1 := (unhide HM1).bel.size
      clear hb1
      go_wp2_with (at_builtin; refine wpList_append_own _ rfl _ _ 25 rfl w.heap.size 3 i0 _ 1 8 Tryz.underlying25 hi0 hz0 hz1 hz2 rfl (by decide) _ _ _ rfl (unhide HM2).own ⟨w1.heap.size, 0, none⟩ 1 1 [ivP q] rfl rfl (nnews_at rfl _ _) (one_ivP _) (by unfold maxLen; omega) (by omega) (by simp; omega) ?_)
      intro v' w4 hown4 hgr4 _
      have hm4 := (unhide HM2).more hown4 hgr4
      obtain ⟨g4, cp4, rfl⟩ := hm4.shape (by simp)
      have HM4 := hide hm4
      clear hown4 hgr4 hm4
      go_wp2_with fail
      go_roundg (ps.length - (i + 1))
      case measure => rw [unhide HK]; omega
      case rel => exact ⟨i + 1, qs ++ [q], g4, cp4, rfl, by omega, rfl, rfl, by rw [unhide HTk, unhide HE], unhide HM4⟩
    · have hlt' : ¬ (i : Int) < (ps.length : Int) := by omega
      obtain rfl : qs = ps := by rw [unhide HE]; exact List.take_of_length_le (by omega)
      go_wp2_with fail
      exact bodyPost_ret (v := .tuple #[.slice (some ⟨g', 0, none⟩) qs.length cp', .int .i64 0]) (by simp [results, Tryz.results186, go_sem]) rfl ⟨⟨g', cp', rfl, (unhide HM).own⟩, (unhide HM).bel⟩
end Go.Proofs.YtikiaijgcjjloaaGreatDoor

/- The walks: items laid into a list. -/
namespace Go.Proofs.YtikiaijgcjjloaaGreatDoor
open Go Go.RowKit M T Go.Lib

theorem nrow_set : ∀ (l : List Rat) (q : Nat) (z : Rat), ((nrow l).set (q * 2) (.int .i64 z.num)).set (q * 2 + 1) (.int .i64 (z.den : Int)) = nrow (l.set q z)
  | [], q, z => rfl
  | x :: l, 0, z => rfl
  | x :: l, q + 1, z => by
    have e : nrow (x :: l) = .int .i64 x.num :: .int .i64 (x.den : Int) :: nrow l := rfl
    rw [e, show (q + 1) * 2 = q * 2 + 1 + 1 by omega, List.set_cons_succ, List.set_cons_succ, List.set_cons_succ, List.set_cons_succ, nrow_set l q z, List.set_cons_succ]
    rfl
theorem lay_step (ps : List Nat) (ys xs : List Rat) (hn : ps.Nodup) (hl : ∀ i ∈ ps, i < xs.length) (i : Nat) (hi : i < ps.length) (hy : i < ys.length) : layAt (ps.take (i + 1)) (ys.take (i + 1)) xs = (layAt (ps.take i) (ys.take i) xs).set ps[i] ys[i] := by
  have hsub : ∀ k, k ∈ ps.take i → k < xs.length := fun k hk => hl k (List.mem_of_mem_take hk)
  have hsub2 : ∀ k, k ∈ ps.take (i + 1) → k < xs.length := fun k hk => hl k (List.mem_of_mem_take hk)
  have hn1 : (ps.take i).Nodup := hn.sublist (List.take_sublist _ _)
  have hn2 : (ps.take (i + 1)).Nodup := hn.sublist (List.take_sublist _ _)
  refine getD_ext (by rw [List.length_set, layAt_length, layAt_length]) (fun j hj => ?_)
  rw [layAt_length] at hj
  have hset : ((layAt (ps.take i) (ys.take i) xs).set ps[i] ys[i]).getD j 0 = if ps[i] = j then ys[i] else (layAt (ps.take i) (ys.take i) xs).getD j 0 := by
    rw [List.getD_eq_getElem?_getD, List.getElem?_set, List.getD_eq_getElem?_getD]
    split
    · rename_i h
      rw [if_pos (by rw [layAt_length, h]; exact hj)]
      rfl
    · rfl
  rw [hset]
  by_cases hm : j ∈ ps.take (i + 1)
  · obtain ⟨k, hk, rfl⟩ := List.mem_iff_getElem.1 hm
    have hkl : k < i + 1 := by rw [List.length_take] at hk; omega
    rw [layAt_at _ _ _ hn2 hsub2 k hk (by rw [List.length_take]; omega), List.getElem_take, List.getElem_take]
    by_cases hki : k = i
    · subst hki
      rw [if_pos rfl]
    · have hne : ps[i] ≠ ps[k] := fun e => hki ((List.getElem_inj hn).1 e.symm)
      rw [if_neg hne]
      have hk1 : k < (ps.take i).length := by rw [List.length_take]; omega
      have := layAt_at (ps.take i) (ys.take i) xs hn1 hsub k hk1 (by rw [List.length_take]; omega)
      rw [List.getElem_take, List.getElem_take] at this
      exact this.symm
  · have hne : ps[i] ≠ j := fun e => hm (by rw [← e, List.take_succ_eq_append_getElem hi]; exact List.mem_append_right _ (List.mem_singleton.2 rfl))
    rw [if_neg hne, layAt_other _ _ _ j hj hm, layAt_other _ _ _ j hj (fun h => hm (by rw [List.take_succ_eq_append_getElem hi]; exact List.mem_append_left _ h))]
theorem lay_none (xs : List Rat) : layAt [] [] xs = xs := getD_ext (layAt_length _ _ _) (fun j hj => by rw [layAt_length] at hj; exact layAt_other _ _ _ j hj (by simp))
/-- A list while items are laid into it. -/
structure LayIs (w0 : World) (g cp n : Nat) (l : List Rat) (wr : World) : Prop where
  own : wr.ownsRow w0.heap.size 91 2 (.slice (some ⟨g, 0, none⟩) n cp) n (nrow l)
  bel : Below w0.heap.size w0 wr
theorem LayIs.put {w0 wr : World} {g cp n : Nat} {l : List Rat} (h : LayIs w0 g cp n l wr) (q : Nat) (z : Rat) : LayIs w0 g cp n (l.set q z) ((wr.setCell ⟨g, q * 2, none⟩ (.int .i64 z.num)).setCell ⟨g, q * 2 + 1, none⟩ (.int .i64 (z.den : Int))) := by
  have h1 := h.own.stored (q * 2) (.int .i64 z.num)
  have h2 := h1.1.stored (q * 2 + 1) (.int .i64 (z.den : Int))
  have hg : w0.heap.size ≤ g := (h.own.lt g rfl).1
  exact ⟨by rw [← nrow_set]; exact h2.1, (h.bel.setCell hg _).setCell hg _⟩
/-- What layInto answers. -/
def layE (ps : List Nat) (ys xs : List Rat) : Except Int (List Rat) := if ys.length = ps.length then .ok (layAt ps ys xs) else .error 11

set_option maxRecDepth 100000 in
set_option maxHeartbeats 1600000 in
theorem layInto_any {g cap gy cy : Nat} {xs ys : List Rat} {w : World} (h : LIs w g cap xs) (hys : LIs w gy cy ys) {pa : Option Addr} {pc : Nat} {ps : List Nat} (hp : w.ownsRow 0 3 1 (.slice pa ps.length pc) ps.length (irowP ps)) (hnd : ps.Nodup) (hpb : ∀ i ∈ ps, i < xs.length) (hpl : ps.length ≤ 1000) :
    Calls Tryz.prog 175 #[.slice (some ⟨g, 0, none⟩) xs.length cap, .slice pa ps.length pc, .slice (some ⟨gy, 0, none⟩) ys.length cy] w fun e w' => LGot w.heap.size (layE ps ys xs) e w' ∧ Below w.heap.size w w' := by
  obtain ⟨i0, hi0, hz0, hz1, hz2⟩ := info_parts Tryz.infoNumber
  have hlen := h.len
  have hylen := hys.len
  have hgy := hys.lt
  have HM := hide (MkIs.start w)
  have HNw := hide (nrow_get (h.below ((Below.refl _ _).alloc (Nat.le_refl _) (.cells #[] 91))) (a := 0) xs (fun j hj => by rw [Nat.zero_add]))
  have HLen := hide (nrow_length xs)
  have HA := hide h.small
  have HAy := hide hys.small
  have HY := hide hys
  have HPc := hide (fun hpos => places_cells hp hpos)
  have HNd := hide hnd
  have HPb := hide hpb
  clear h hys hp hnd hpb
  by_cases hl : ys.length = ps.length
  · have hl' : ((ys.length : Int) != (ps.length : Int)) = false := by rw [hl]; simp
    have HLq := hide hl
    clear hl
    go_enter Tryz.func175, Tryz.ntmps175
    go_upto_region 3 with fail
    go_cut [8] (fun v8 wx => ∃ g4 cp4, v8 = .slice (some ⟨g4, 0, none⟩) xs.length cp4 ∧ LayIs w g4 cp4 xs.length xs wx)
    case first =>
      by_cases h0 : xs.length = 0
      · obtain rfl : xs = [] := List.eq_nil_of_length_eq_zero h0
        clear h0
        go_wp2_with fail
        go_meet
        have hm := unhide HM
        exact ⟨w.heap.size, 0, rfl, hm.own, hm.bel⟩
      · go_wp2_with (at_builtin; refine wpList_append_own _ rfl _ _ 66 rfl w.heap.size 91 i0 _ 2 16 Tryz.underlying66 hi0 hz0 hz1 hz2 rfl (by decide) _ _ _ rfl (unhide HM).own ⟨g, 0, none⟩ xs.length cap (nrow xs) rfl (unhide HLen) (unhide HNw) (one_nrow _) (by unfold maxLen; simp; omega) (by simp; omega) (by simp) ?_)
        intro v' w4 hown4 hgr4 hnn
        obtain ⟨g4, cp4, rfl⟩ : ∃ g4 cp4, v' = .slice (some ⟨g4, 0, none⟩) xs.length cp4 := owns_some hown4 hnn
        have hown5 : w4.ownsRow w.heap.size 91 2 (.slice (some ⟨g4, 0, none⟩) xs.length cp4) xs.length (nrow xs) := hown4
        have HO := hide hown5
        have hb4 := (unhide HM).grow hgr4
        have HB4 := hide hb4
        clear hown4 hgr4 hnn hown5 hb4
        go_wp2_with fail
        go_meet
        exact ⟨g4, cp4, rfl, unhide HO, unhide HB4⟩
    case rest =>
      obtain ⟨g4, cp4, rfl, hlay⟩ := hcut
      have HLay := hide hlay
      clear hlay
      go_wp2_with fail
      go_loopg [21] ps.length (fun kk v21 wr => ∃ (i : Nat), kk = ps.length - i ∧ i ≤ ps.length ∧ v21 = .int .i64 (i : Int) ∧ LayIs w g4 cp4 xs.length (layAt (ps.take i) (ys.take i) xs) wr)
      case atStart => exact ⟨0, rfl, Nat.zero_le _, rfl, by rw [List.take_zero, List.take_zero, lay_none]; exact unhide HLay⟩
      case round =>
        obtain ⟨i, hk, hi, rfl, hm⟩ := hrel
        have HK := hide hk
        have HMi := hide hm
        clear hk
        by_cases hlt : i < ps.length
        · have hlt' : (i : Int) < (ps.length : Int) := by omega
          have hly : i < ys.length := by rw [unhide HLq]; exact hlt
          have hly' : (i : Int) < (ys.length : Int) := by omega
          obtain ⟨gp, rfl, hgp, hcp⟩ := unhide HPc (by omega)
          have hc0 := hcp i hlt
          have hgr : ∀ (b o : Nat), b < w.heap.size → wr.cell? ⟨b, o, none⟩ = w.cell? ⟨b, o, none⟩ := fun b o hb => hm.bel.cell (p := ⟨b, o, none⟩) hb
          rw [← hgr gp i hgp] at hc0
          obtain ⟨d0, d1⟩ := (unhide HY).cell hly
          rw [← hgr gy _ hgy] at d0 d1
          have hq := unhide HPb ps[i] (List.getElem_mem hlt)
          have HSt := hide (lay_step ps ys xs (unhide HNd) (unhide HPb) i hlt hly)
          have HPut := hide (hm.put ps[i] ys[i])
          have fz : ∀ j, wr.frozen? ⟨g4, j, none⟩ = false := fun j => hm.own.frozenAt j
          have hll : (layAt (ps.take i) (ys.take i) xs).length = xs.length := layAt_length _ _ _
          have hm' : wr.ownsRow w.heap.size 91 2 (.slice (some ⟨g4, 0, none⟩) xs.length cp4) (layAt (ps.take i) (ys.take i) xs).length (nrow (layAt (ps.take i) (ys.take i) xs)) := by rw [hll]; exact hm.own
          obtain ⟨old, e0, e1⟩ : ∃ old : Rat, wr.cell? ⟨g4, ps[i] * 2, none⟩ = some (.int .i64 old.num) ∧ wr.cell? ⟨g4, ps[i] * 2 + 1, none⟩ = some (.int .i64 (old.den : Int)) := ⟨_, nrow_cell hm' (j := ps[i]) (by rw [hll]; exact hq)⟩
          clear hcp hgr hm hm' hll
          generalize ps[i] = q at hc0 hq HSt HPut e0 e1
          generalize ys[i] = z at d0 d1 HSt HPut
          have hq1 : ¬ (q : Int) < 0 := by omega
          have hq2 : ¬ (xs.length : Int) ≤ (q : Int) := by omega
          have hq3 : (q : Int) < (xs.length : Int) := by omega
          go_wp2_with fail
          go_roundg (ps.length - (i + 1))
          case measure => rw [unhide HK]; omega
          case rel => exact ⟨i + 1, rfl, by omega, rfl, by rw [unhide HSt]; exact unhide HPut⟩
        · have hlt' : ¬ (i : Int) < (ps.length : Int) := by omega
          obtain rfl : i = ps.length := by omega
          have HR := hide (show layE ps ys xs = .ok (layAt ps ys xs) from if_pos (unhide HLq))
          have HO := hide (show wr.ownsRow w.heap.size 91 2 (.slice (some ⟨g4, 0, none⟩) (layAt ps ys xs).length cp4) (layAt ps ys xs).length (nrow (layAt ps ys xs)) by
            have := hm.own
            rw [show ps.take ps.length = ps from List.take_length, show ys.take ps.length = ys from List.take_of_length_le (by rw [unhide HLq]; exact Nat.le_refl _)] at this
            rw [layAt_length]
            exact this)
          have hll : (layAt ps ys xs).length = xs.length := layAt_length _ _ _
          clear hm
          go_wp2_with fail
          exact bodyPost_ret (v := .tuple #[.slice (some ⟨g4, 0, none⟩) xs.length cp4, .int .i64 0]) (by simp [results, Tryz.results175, go_sem]) rfl ⟨Or.inl ⟨_, g4, cp4, unhide HR, layS (unhide HA) (unhide HAy), by rw [hll], unhide HO⟩, (unhide HMi).bel⟩
  · have hl' : ((ys.length : Int) != (ps.length : Int)) = true := by rw [bne_iff_ne]; omega
    have HR := hide (show layE ps ys xs = .error 11 from if_neg hl)
    go_enter Tryz.func175, Tryz.ntmps175
    go_wp2_with fail
    exact bodyPost_ret (v := .tuple #[.slice none 0 0, .int .i64 11]) (by simp [results, Tryz.results175, go_sem]) rfl ⟨Or.inr ⟨11, unhide HR, by decide, rfl⟩, Below.refl _ _⟩
end Go.Proofs.YtikiaijgcjjloaaGreatDoor

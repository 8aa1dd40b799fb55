import Derived.Test.YtikiaijgcjjloaaGreatDoorPart37
import Derived.BigQuiet

namespace Go.Proofs.YtikiaijgcjjloaaGreatDoor
open Go Go.RowKit M T Go.Lib
theorem ffull_any {fb rb m n : Nat} {v : Value} {xs : List RC} {ss : List St} {w : World} (h : FlIs w fb rb m n v xs ss) :
    Calls Tryz.prog 105 #[.pointer (some ⟨fb, 0, none⟩)] w fun e w' => e = .returned (.bool (decide (m < n))) ∧ Below w.heap.size w w' := by
  have c1 : w.cell? ⟨fb, 1, none⟩ = some (.int .i64 (m : Int)) := blk_cell h.blk 1
  have c2 : w.cell? ⟨fb, 2, none⟩ = some (.int .i64 (n : Int)) := blk_cell h.blk 2
  clear h
  go_enter Tryz.func105, Tryz.ntmps105
  go_wp2_with fail
  go_quiet (fail)
  go_wp2_with fail
  go_ret
  exact ⟨by congr 2, (by repeat (first | exact Below.refl _ _ | refine below_dr ?_ _ | refine Below.drew ?_ | refine Below.setCell ?_ (by simp) _ | refine Below.alloc ?_ (by simp) _))⟩
theorem FlIs.grown {fb rb m n : Nat} {v : Value} {xs : List RC} {ss : List St} {w w1 : World} (h : FlIs w fb rb m n v xs ss) {o : Obj} (hg : (w.alloc o).drew.grownBy w1 v.ownBlock) : w1.heap[fb]? = some (.cells (flc rb m n v) 122 (0, 0)) := by
  have hb : Below w.heap.size w (w.alloc o).drew := Below.drew ((Below.refl _ _).alloc (Nat.le_refl _) _)
  have hap : v.ownBlock ≠ some fb := fun e => by
    obtain ⟨c, hc⟩ := h.row_ty e
    exact absurd (blk_ty hc h.blk) (by decide)
  rw [hg.block fb (Nat.lt_of_lt_of_le (lt_of_block h.blk) hb.size) (fun e => hap e.symm), hb.block fb (lt_of_block h.blk)]
  exact h.blk
def rdot (k : UInt8) : RC := ⟨k, 0, 0, 0, none, 0, 0, ⟨#[]⟩, ⟨#[]⟩⟩
set_option maxRecDepth 100000 in
set_option maxHeartbeats 3200000 in
theorem fadd_any {fb rb m n : Nat} {v : Value} {xs : List RC} {ss : List St} {x : RC} {s : St} {w : World} (h : FlIs w fb rb m n v xs ss) (hx : RSt w x s) (hm : m ≤ 100000) (hn : n ≤ m + 1) (hl : ss.length ≤ 1000000) :
    Calls Tryz.prog 144 #[.pointer (some ⟨fb, 0, none⟩), RC.value x] w fun e w' => e = .returned (.tuple #[]) ∧ FlGot fb rb m n v ss [s] w w' := by
  obtain ⟨i0, hi, hz0, hz1, hz2⟩ := info_parts Tryz.infoRPart
  have hxl : xs.length ≤ 1000000 := by rw [h.steps.length]; exact hl
  obtain ⟨hk1, hk2⟩ := free_kd hx
  have HX := hide hx
  have H := hide h
  have c1 : w.cell? ⟨fb, 1, none⟩ = some (.int .i64 (m : Int)) := blk_cell h.blk 1
  have c2 : w.cell? ⟨fb, 2, none⟩ = some (.int .i64 (n : Int)) := blk_cell h.blk 2
  have c3 : w.cell? ⟨fb, 3, none⟩ = some v := blk_cell h.blk 3
  have hfz := lt_of_block h.blk
  clear h hx
  obtain ⟨Kd, P, Q, K, pa, pn, pc, F, G⟩ := x
  rw [show RC.value ⟨Kd, P, Q, K, pa, pn, pc, F, G⟩ = .agg #[.int .u8 (Kd.toNat : Int), .int .i64 P, .int .i64 Q, .int .i64 K, .slice pa pn pc, .string F, .string G] from rfl]
  go_enter Tryz.func144, Tryz.ntmps144
  by_cases hf : m < n
  · have hf' : (m : Int) < (n : Int) := by omega
    go_wp2_with fail
    go_quiet (fail)
    go_wp2_with fail
    refine bodyPost_ret (results_none rfl _ _ _) rfl ?_
    exact ⟨rfl, FlGot.full (unhide H) (below_dr ((Below.refl _ _).alloc (Nat.le_refl _) _) _) hf _⟩
  · have hf' : ¬ (m : Int) < (n : Int) := by omega
    have HE := hide (show lay m [s] n = [s] ∧ after m [s] n = s.next m n from by rw [lay, after, if_neg hf, if_neg hf]; exact ⟨rfl, rfl⟩)
    go_wp2_with fail
    go_quiet (fail)
    obtain ⟨w0, hw0⟩ : ∃ w0, w0 = (w.alloc (.cells #[.int .u8 (Kd.toNat : Int), .int .i64 P, .int .i64 Q, .int .i64 K, .slice pa pn pc, .string F, .string G] 131)).drewN nq := ⟨_, rfl⟩
    rw [← hw0]
    have hb0 : Below w.heap.size w w0 := by rw [hw0]; exact below_dr ((Below.refl _ _).alloc (Nat.le_refl _) _) _
    have hbx0 : w0.heap[w.heap.size]? = some (.cells #[.int .u8 (Kd.toNat : Int), .int .i64 P, .int .i64 Q, .int .i64 K, .slice pa pn pc, .string F, .string G] 131 (0, 0)) := by rw [hw0]; exact heap_alloc_new _ _
    have h0 := (unhide H).below hb0
    have c3 : w0.cell? ⟨fb, 3, none⟩ = some v := blk_cell h0.blk 3
    have d0 : ∀ i, w0.cell? ⟨w.heap.size, i, none⟩ = (#[.int .u8 (Kd.toNat : Int), .int .i64 P, .int .i64 Q, .int .i64 K, .slice pa pn pc, .string F, .string G] : Array Value)[i]? := fun i => blk_cell hbx0 i
    have hfr : ∀ i, w0.frozen? ⟨fb, i, none⟩ = false := fun i => blk_free h0.blk i
    have HX0 := hide ((unhide HX).keeps (fun k _ hk => hb0.block k (lt_of_block hk)))
    have hlt0 := lt_of_block hbx0
    have hfz0 := lt_of_block h0.blk
    have HB0 := hide hb0
    have HBx := hide hbx0
    have H0 := hide h0
    clear hb0 hbx0 h0 c1 c2 hw0
    go_upto_region 2 with fail
    go_cut [] (fun wx => ∃ v', FlIs wx fb rb m n v' (xs ++ [⟨Kd, P, Q, K, pa, pn, pc, F, G⟩]) (ss ++ [s]) ∧ Fc fb v w0 v' wx)
    case first =>
      go_region_law (refine step_append_own rfl (.tmp 18) (.tmp 20) 120 rfl 0 131 i0 _ 7 88 Tryz.underlying120 hi hz0 hz1 hz2 rfl (by decide) v xs.length (rrow xs) (by simp [Act.eval]) (by first | exact ((unhide H0).own.alloc _).drew | exact (unhide H0).own.drew.alloc _) ⟨w0.heap.size, 0, none⟩ 1 1 (RC.cells ⟨Kd, P, Q, K, pa, pn, pc, F, G⟩) (by simp [Act.eval]) rfl (by exact news_alloc w0 (RC.cells ⟨Kd, P, Q, K, pa, pn, pc, F, G⟩) 131) (one_rcells _) (by unfold maxLen; omega) (by omega) (by simp) ?_; intro v' w3 hown3 hgr3 hnn3 hwh3; obtain ⟨g', cap', rfl⟩ := owns_some hown3 (fun e => absurd (hnn3.1 e).2 (by decide)); have hc3 : w3.cell? ⟨fb, 3, none⟩ = some v := blk_cell ((unhide H0).grown hgr3) 3; have hf3 : ∀ i, w3.frozen? ⟨fb, i, none⟩ = false := fun i => blk_free ((unhide H0).grown hgr3) i)
      all_goals go_wp2_with fail
      all_goals go_meet
      all_goals exact ⟨_, (unhide H0).put (unhide HX0) (Below.drew ((Below.refl _ _).alloc (Nat.le_refl _) _)) hgr3 hown3 hwh3⟩
    case rest =>
    obtain ⟨v', hs', hch⟩ := hcut
    have hbx : wc.heap[w.heap.size]? = some (.cells #[.int .u8 (Kd.toNat : Int), .int .i64 P, .int .i64 Q, .int .i64 K, .slice pa pn pc, .string F, .string G] 131 (0, 0)) := (hch.young (unhide H) hlt0 (Nat.le_refl _)).trans (unhide HBx)
    have d1 : ∀ i, wc.cell? ⟨w.heap.size, i, none⟩ = (#[.int .u8 (Kd.toNat : Int), .int .i64 P, .int .i64 Q, .int .i64 K, .slice pa pn pc, .string F, .string G] : Array Value)[i]? := fun i => blk_cell hbx i
    have e1 : wc.cell? ⟨fb, 1, none⟩ = some (.int .i64 (m : Int)) := blk_cell hs'.blk 1
    have e2 : wc.cell? ⟨fb, 2, none⟩ = some (.int .i64 (n : Int)) := blk_cell hs'.blk 2
    have ef : ∀ i, wc.frozen? ⟨fb, i, none⟩ = false := fun i => blk_free hs'.blk i
    have HS := hide hs'
    have HC := hide ((Fc.of_below (fb := fb) (v := v) (unhide HB0)).trans hch)
    have hlt1 : w.heap.size < wc.heap.size := lt_of_block hbx
    clear hs' hch hbx c3 d0 hfr
    go_wp2_with fail
    refine (among_any Kd ⟨#[80, 73, 76]⟩ _ (by decide)).mono ?_
    rintro e w' ⟨rfl, rfl⟩
    rw [show decide (Kd ∈ (⟨#[80, 73, 76]⟩ : ByteArray).data.toList) = s.free from hk1]
    cases s with
    | never =>
      have hk2' : ((Kd.toNat : Int) == 33) = true := hk2
      rw [show St.never.free = false from rfl]
      go_wp2_with fail
      go_end0
      exact ⟨rfl, v', _, by rw [(unhide HE).1, (unhide HE).2]; exact ((unhide HS).setN (n + 1)).setN (m + 1), ((unhide HC).setCell _ _).setCell _ _⟩
    | rest =>
      have hk2' : ((Kd.toNat : Int) == 33) = false := hk2
      rw [show St.rest.free = false from rfl]
      go_wp2_with fail
      go_end0
      exact ⟨rfl, v', _, by rw [(unhide HE).1, (unhide HE).2]; exact (unhide HS).setN (n + 1), (unhide HC).setCell _ _⟩
    | sp y =>
      have hk2' : ((Kd.toNat : Int) == 33) = false := hk2
      rw [show (St.sp y).free = false from rfl]
      go_wp2_with fail
      go_end0
      exact ⟨rfl, v', _, by rw [(unhide HE).1, (unhide HE).2]; exact (unhide HS).setN (n + 1), (unhide HC).setCell _ _⟩
    | aside =>
      have hk2' : ((Kd.toNat : Int) == 33) = false := hk2
      rw [show St.aside.free = true from rfl]
      go_wp2_with fail
      go_end0
      exact ⟨rfl, v', _, by rw [(unhide HE).1, (unhide HE).2]; exact unhide HS, unhide HC⟩
    | fetch =>
      have hk2' : ((Kd.toNat : Int) == 33) = false := hk2
      rw [show St.fetch.free = true from rfl]
      go_wp2_with fail
      go_end0
      exact ⟨rfl, v', _, by rw [(unhide HE).1, (unhide HE).2]; exact unhide HS, unhide HC⟩
    | home =>
      have hk2' : ((Kd.toNat : Int) == 33) = false := hk2
      rw [show St.home.free = true from rfl]
      go_wp2_with fail
      go_end0
      exact ⟨rfl, v', _, by rw [(unhide HE).1, (unhide HE).2]; exact unhide HS, unhide HC⟩
def PartsNew (s : ByteArray) (w : World) (e : Ending) (w' : World) : Prop :=
  ∃ v ok, e = .returned (.tuple #[v, .bool ok]) ∧ ((ok = true ∧ ∃ xs ps, Whole E0 s.data.toList (some (Tm.of ps)) ∧ w'.ownsRow w.heap.size 131 7 v xs.length (rrow xs) ∧ RPl w' xs ps) ∨ (ok = false ∧ v = .slice none 0 0 ∧ Whole E0 s.data.toList none))
set_option maxRecDepth 100000 in
set_option maxHeartbeats 3200000 in
theorem parts_new (s : ByteArray) (w : World) (hs : s.size ≤ 1000) : Calls Tryz.prog 99 #[.string s] w fun e w' => PartsNew s w e w' ∧ Below w.heap.size w w' := by
  obtain ⟨i0, hi, hz0, hz1, hz2⟩ := info_parts Tryz.infoRPart
  go_enter Tryz.func99, Tryz.ntmps99
  go_wp2_with fail
  go_loopg [4, 5] s.size (fun k v i wr => ∃ b ps xs, k = s.size - b ∧ i = .int .i64 ((b : Nat) : Int) ∧ PR s w b ps v xs wr)
  case atStart => exact ⟨0, [], [], rfl, rfl, Nat.zero_le _, Nat.zero_le _, Below.refl _ _, World.ownsRow_nil _ _ _ _, trivial, Ahead.start _ _⟩
  case round =>
    obtain ⟨b, ps, xs, hk, rfl, hR⟩ := hrel
    have HK := hide hk
    have HR := hide hR
    have hb := hR.hb
    have hlen := hR.len
    clear hk hR
    by_cases hlt : b < s.size
    · have hlt' : (b : Int) < (s.size : Int) := by omega
      go_wp2_with fail
      refine (cut_r (parts_all 1000) s b _ hlt (by omega) hs).mono ?_
      rintro e w1 ⟨⟨⟨Kd, P, Q, K, pa, pn, pc, F, G⟩, bz, ok, rfl, hcase⟩, hb1⟩
      rw [show RC.value ⟨Kd, P, Q, K, pa, pn, pc, F, G⟩ = .agg #[.int .u8 (Kd.toNat : Int), .int .i64 P, .int .i64 Q, .int .i64 K, .slice pa pn pc, .string F, .string G] from rfl]
      have HB1 := hide hb1
      have HC := hide hcase
      clear hcase hb1
      cases ok with
      | false =>
        have hno : RdP E0 (rest s b) none := by
          rcases unhide HC with ⟨h, _⟩ | ⟨_, h⟩
          · cases h
          · exact h
        have HNo := hide hno
        clear hno HC
        go_wp2_with fail
        refine bodyPost_ret (v := .tuple #[.slice none 0 0, .bool false]) (by simp [results, Tryz.results99, go_sem]) rfl ⟨⟨_, false, rfl, Or.inr ⟨rfl, rfl, ?_⟩⟩, ((unhide HR).bel.trans ((unhide HB1).mono (unhide HR).bel.size)).alloc (Nat.le_trans (unhide HR).bel.size (unhide HB1).size) _⟩
        have := (unhide HR).ahead.none (by rw [rest_lt hlt]; simp) (unhide HNo)
        rw [rest_z] at this
        exact this
      | true =>
        obtain ⟨p, c, rfl, hc, hrd, hp⟩ : ∃ (p : Pt) (c : Nat), bz = (c : Int) ∧ c ≤ s.size ∧ RdP E0 (rest s b) (some (p, rest s c)) ∧ RPt w1 ⟨Kd, P, Q, K, pa, pn, pc, F, G⟩ p := by
          rcases unhide HC with ⟨_, h⟩ | ⟨h, _⟩
          · exact h
          · cases h
        have HRd := hide hrd
        have HPt := hide hp
        have hmv : b < c := by
          obtain ⟨_, _, e⟩ := hrd.sound _ _ rfl
          obtain ⟨l, e2⟩ := Pt.text_first p
          have := congrArg List.length e
          rw [List.length_append, rest_len, rest_len, e2, List.length_cons] at this
          omega
        clear hrd hp HC
        go_wp2_with (at_builtin; refine wpList_append_own _ rfl _ _ 120 rfl w.heap.size 131 i0 _ 7 88 Tryz.underlying120 hi hz0 hz1 hz2 rfl (by decide) _ _ _ rfl (((owns_below (unhide HR).own (unhide HB1)).alloc _).alloc _) ⟨w1.heap.size + 1, 0, none⟩ 1 1 (RC.cells ⟨Kd, P, Q, K, pa, pn, pc, F, G⟩) rfl rfl (rnews w1 _ ⟨Kd, P, Q, K, pa, pn, pc, F, G⟩) (one_rcells _) (by unfold maxLen; omega) (by omega) (by have := (unhide HR).bel.size; have := (unhide HB1).size; simp; omega) ?_)
        intro v' w2 hown2 hgr2 _
        have HN := hide ((unhide HR).next (unhide HB1) hc (unhide HRd) (unhide HPt) hgr2 hown2)
        clear hown2 hgr2
        go_wp2_with fail
        go_roundg (s.size - c)
        case measure => rw [unhide HK]; omega
        case rel => exact ⟨c, ps ++ [p], xs ++ [⟨Kd, P, Q, K, pa, pn, pc, F, G⟩], rfl, rfl, unhide HN⟩
    · have hlt' : ¬ (b : Int) < (s.size : Int) := by omega
      go_wp2_with fail
      have hah := (unhide HR).ahead
      rw [rest_ge (show s.size ≤ b by omega), rest_z] at hah
      refine bodyPost_ret (v := .tuple #[_, .bool true]) (by simp [results, Tryz.results99, go_sem]) rfl ⟨⟨_, true, rfl, Or.inl ⟨rfl, xs, ps, hah.whole, (unhide HR).own, (unhide HR).parts⟩⟩, (unhide HR).bel⟩
theorem rrow_new {B : Nat} {w : World} {v : Value} {xs : List RC} (h : w.ownsRow B 131 7 v xs.length (rrow xs)) : ∃ ao cap, v = .slice ao xs.length cap ∧ (0 < xs.length → ∃ g, ao = some ⟨g, 0, none⟩ ∧ B ≤ g ∧ g < w.heap.size ∧ ∀ j (hj : j < xs.length) i, i < 7 → w.cell? ⟨g, j * 7 + i, none⟩ = (xs[j].cells)[i]?) := by
  have hown := h
  rcases h.2 with ⟨h1, h2⟩ | ⟨g, cap, cur, hv, hB, hh, _⟩
  · exact ⟨none, 0, by rw [h1, h2], fun hp => by omega⟩
  · refine ⟨some ⟨g, 0, none⟩, cap, hv, fun _ => ⟨g, rfl, hB, lt_of_block hh, fun j hj i hi => ?_⟩⟩
    rw [hv] at hown
    exact rrow_cell hown hj i hi
def _root_.Go.Proofs.YtikiaijgcjjloaaGreatDoor.T.Tm.pts : Tm → List Pt
  | .nil => []
  | .cons p t => p :: t.pts
theorem pts_of : ∀ ps : List Pt, (Tm.of ps).pts = ps
  | [] => rfl
  | p :: ps => by rw [Tm.of, Tm.pts, pts_of ps]
def TmS (t : Tm) (bk : Bool) : Prop := ∀ ⦃s : ByteArray⦄ ⦃ds : List D⦄ ⦃n fb rb m N : Nat⦄ ⦃v vs : Value⦄ ⦃xs : List RC⦄ ⦃ss : List St⦄ ⦃w : World⦄, IsTerm (envOf (ds.take n)) s.data.toList t → s.size ≤ 1000 → RSes w rb vs ds → n ≤ ds.length → ds.length ≤ maxLen → FlIs w fb rb m N v xs ss → m ≤ 100000 → N ≤ m + 1 → (ss ++ lay m (t.flat bk) N).length ≤ 1000000 →
  Calls Tryz.prog 69 #[.pointer (some ⟨fb, 0, none⟩), .string s, .int .i64 (n : Int), .bool bk] w fun e w' => e = .returned (.tuple #[]) ∧ FlGot fb rb m N v ss (t.flat bk) w w'
def PtS (p : Pt) (bk : Bool) : Prop := ∀ ⦃x : RC⦄ ⦃ds : List D⦄ ⦃n fb rb m N : Nat⦄ ⦃v vs : Value⦄ ⦃xs : List RC⦄ ⦃ss : List St⦄ ⦃w : World⦄, RPt w x p → p.wf → p.inEnv (envOf (ds.take n)) → p.text.length ≤ 1000 → RSes w rb vs ds → n ≤ ds.length → ds.length ≤ maxLen → FlIs w fb rb m N v xs ss → m ≤ 100000 → N ≤ m + 1 → (ss ++ lay m (p.flat bk) N).length ≤ 1000000 →
  Calls Tryz.prog 106 #[.pointer (some ⟨fb, 0, none⟩), RC.value x, .int .i64 (n : Int), .bool bk] w fun e w' => e = .returned (.tuple #[]) ∧ FlGot fb rb m N v ss (p.flat bk) w w'
theorem lay_le {m : Nat} {ss a b : List St} {N B : Nat} (h : (ss ++ lay m (a ++ b) N).length ≤ B) : (ss ++ lay m a N).length ≤ B := by
  rw [lay_append] at h
  simp only [List.length_append] at h ⊢
  omega
theorem lay_next {m : Nat} {ss a b : List St} {N : Nat} : (ss ++ lay m a N) ++ lay m b (after m a N) = ss ++ lay m (a ++ b) N := by rw [lay_append, List.append_assoc]
theorem FlGot.then {fb rb m N : Nat} {v v1 : Value} {ss a b : List St} {w w1 w2 : World} (hc : Fc fb v w v1 w1) (h : FlGot fb rb m (after m a N) v1 (ss ++ lay m a N) b w1 w2) : FlGot fb rb m N v ss (a ++ b) w w2 := by
  obtain ⟨v', xs', h1, h2⟩ := h
  exact ⟨v', xs', by rw [after_append, ← lay_next]; exact h1, hc.trans h2⟩
set_option maxRecDepth 100000 in
set_option maxHeartbeats 6400000 in
theorem flow_term {t : Tm} {bk : Bool} (hps : ∀ p ∈ t.pts, PtS p bk) : TmS t bk := by
  intro s ds n fb rb m N v vs xs ss w ht hs h hn hl hf hm hN hlen
  have HPS := hide hps
  have H := hide h
  have HT := hide ht
  have HF0 := hide hf
  have hn' : n ≤ maxLen := by omega
  unfold maxLen at hn'
  have HLen := hide hlen
  clear hps h ht hf hlen
  go_enter Tryz.func69, Tryz.ntmps69
  go_wp2_with fail
  refine (parts_new s _ hs).mono ?_
  rintro e w1 ⟨⟨sl, ok, rfl, hG⟩, hb1⟩
  obtain ⟨rfl, ys, ps, hwh, hown, hpl⟩ : ok = true ∧ ∃ xs ps, Whole E0 s.data.toList (some (Tm.of ps)) ∧ w1.ownsRow w.heap.size 131 7 sl xs.length (rrow xs) ∧ RPl w1 xs ps := by
    rcases hG with h | ⟨_, _, h⟩
    · exact h
    · exact (whole_not h (unhide HT)).elim
  have hewf := (unhide H).ok.wf n hn
  have hbind := whole_is hewf hwh (unhide HT)
  rw [Tm.bind_of] at hbind
  obtain ⟨hwf, htx⟩ := whole_wf hwh
  have hlps : ps.length ≤ 1000 := by have := len_mem ps; rw [htx] at this; simp at this; omega
  have hxl := hpl.length
  have hyl : ys.length ≤ 1000 := by omega
  obtain ⟨ao, cap, rfl, hcs⟩ := rrow_new hown
  obtain ⟨qs, hqs⟩ : ∃ qs, qs = ps.map (Pt.bind (envOf (ds.take n))) := ⟨_, rfl⟩
  have hql : qs.length = ys.length := by rw [hqs, List.length_map]; omega
  have hpl2 : ∀ j (h : j < ys.length) (h' : j < qs.length), RPt w1 ys[j] qs[j] := fun j h h' => by
    have := RPt.bind _ hewf (hpl.get j h (by omega))
    subst hqs
    rw [List.getElem_map]
    exact this
  rw [← hqs] at hbind
  have HQL := hide hql
  have HB1 := hide hb1
  have H1 := hide ((unhide H).below hb1)
  have HF1 := hide ((unhide HF0).below hb1)
  have HPl := hide hpl2
  have HBd := hide hbind
  have HCs := hide hcs
  clear hG hown hpl hbind htx hewf hb1 hwf hwh hqs hpl2 hcs hql hxl
  go_wp2_with fail
  go_loopg [10] ys.length (fun k v10 wr => ∃ i : Nat, k = ys.length - i ∧ i ≤ ys.length ∧ v10 = .int .i64 (i : Int) ∧ ∃ v' xs', FlIs wr fb rb m (after m (flatTo bk qs i) N) v' xs' (ss ++ lay m (flatTo bk qs i) N) ∧ Fc fb v w1 v' wr)
  case atStart => exact ⟨0, rfl, Nat.zero_le _, rfl, v, xs, by rw [show flatTo bk qs 0 = [] from rfl, show after m [] N = N from rfl, show lay m [] N = [] from rfl, List.append_nil]; exact unhide HF1, Fc.of_below (Below.refl _ _)⟩
  case round =>
    obtain ⟨i, hk, hi, rfl, v', xs', hfl, hfc⟩ := hrel
    have HK := hide hk
    have HFl := hide hfl
    have HFc := hide hfc
    clear hk hfl hfc
    by_cases hlt : i < ys.length
    · have hlt' : (i : Int) < (ys.length : Int) := by omega
      go_wp2_with fail
      refine (ffull_any (unhide HFl)).mono ?_
      rintro e w2 ⟨rfl, hb2⟩
      have HB2 := hide hb2
      clear hb2
      by_cases hfull : m < after m (flatTo bk qs i) N
      · rw [decide_eq_true hfull]
        go_wp2_with fail
        refine bodyPost_ret (results_none rfl _ _ _) rfl ?_
        refine ⟨rfl, ?_⟩
        obtain ⟨l, hl2⟩ := flatTo_more bk qs i
        rw [← unhide HBd, hl2]
        exact FlGot.then (((Fc.of_below (unhide HB1))).trans (unhide HFc)) (FlGot.full (unhide HFl) (unhide HB2) hfull l)
      · rw [decide_eq_false hfull]
        obtain ⟨g, rfl, hgB, hgl, hcell⟩ := (unhide HCs) (by omega)
        have hiq : i < (inOrder bk qs).length := by rw [inOrder_length, unhide HQL]; exact hlt
        have hrow : w2.heap[g]? = w1.heap[g]? := ((unhide HB2).block g (Nat.lt_of_lt_of_le hgl (unhide HFc).chg.size)).trans ((unhide HFc).young (unhide HF0) hgl hgB)
        have hcr : ∀ j (hj : j < ys.length) l, l < 7 → w2.cell? ⟨g, j * 7 + l, none⟩ = (ys[j].cells)[l]? := fun j hj l hl => (World.cell?_of_block (a := ⟨g, j * 7 + l, none⟩) hrow).trans (hcell j hj l hl)
        have hints : ∀ (k : Nat) (c : Array Value), w1.heap[k]? = some (.cells c 3 (0, 0)) → w2.heap[k]? = w1.heap[k]? := fun k c hk => ((unhide HB2).block k (Nat.lt_of_lt_of_le (lt_of_block hk) (unhide HFc).chg.size)).trans ((unhide HFc).other (unhide HF1) hk (by decide) (by decide))
        have HF2 := hide ((unhide HFl).below (unhide HB2))
        have H2 := hide (((unhide H1).flow (unhide HF1) (unhide HFc)).below (unhide HB2))
        have HC2 := hide ((unhide HFc).trans (Fc.of_below (unhide HB2)))
        have hsuc := flatTo_succ bk qs i hiq
        have HSuc := hide hsuc
        have hlen2 : ((ss ++ lay m (flatTo bk qs i) N) ++ lay m ((inOrder bk qs)[i].flat bk) (after m (flatTo bk qs i) N)).length ≤ 1000000 := by
          rw [lay_next, ← hsuc]
          obtain ⟨l, hl2⟩ := flatTo_more bk qs (i + 1)
          have := unhide HLen
          rw [← unhide HBd, hl2] at this
          exact lay_le this
        have HL2 := hide hlen2
        have haf := after_le (m := m) (flatTo bk qs i) N hN
        clear hlen2 hsuc hrow hcell
        have hmem : (inOrder bk qs)[i] ∈ qs := by
          have := List.getElem_mem hiq
          cases bk
          · exact this
          · exact List.mem_reverse.1 this
        have q1 := wf_mem _ _ hmem (by rw [unhide HBd]; exact (unhide HT).wf)
        have q2 := env_mem _ _ _ hmem (by rw [unhide HBd]; exact (unhide HT).env)
        have q3 := text_mem _ _ hmem
        rw [unhide HBd, (unhide HT).text] at q3
        have q3' : (inOrder bk qs)[i].text.length ≤ 1000 := by have e : (s.data.toList).length = s.size := by simp
                                                               omega
        have hPS := unhide HPS (inOrder bk qs)[i] (by rw [← unhide HBd, pts_of]; exact hmem)
        obtain ⟨j, hj, hjj⟩ : ∃ j, j < ys.length ∧ j = (if bk then ys.length - 1 - i else i) := ⟨_, by cases bk <;> simp <;> omega, rfl⟩
        have hjq : j < qs.length := by rw [unhide HQL]; exact hj
        have hgt : (inOrder bk qs)[i] = qs[j] := by
          have e : j = (if bk then qs.length - 1 - i else i) := by rw [unhide HQL]; exact hjj
          subst e
          exact inOrder_get bk qs i hiq hjq
        have hpt : RPt w2 ys[j] (inOrder bk qs)[i] := by rw [hgt]; exact (unhide HPl j hj hjq).keeps hints
        have hcj := hcr j hj
        have HQ1 := hide q1
        have HQ2 := hide q2
        have HPS1 := hide hPS
        have HPt := hide hpt
        clear q1 q2 q3 hPS hpt hmem hgt hcr hints
        generalize (inOrder bk qs)[i] = p at HSuc HL2 HQ1 HQ2 q3' HPS1 HPt
        generalize ys[j] = x at hcj HPt
        obtain ⟨Kd, P, Q, K, pa, pn, pc, F, G⟩ := x
        have c0 : w2.cell? ⟨g, j * 7, none⟩ = some (.int .u8 (Kd.toNat : Int)) := hcj 0 (by omega)
        have c1 : w2.cell? ⟨g, j * 7 + 1, none⟩ = some (.int .i64 P) := hcj 1 (by omega)
        have c2 : w2.cell? ⟨g, j * 7 + 2, none⟩ = some (.int .i64 Q) := hcj 2 (by omega)
        have c3 : w2.cell? ⟨g, j * 7 + 3, none⟩ = some (.int .i64 K) := hcj 3 (by omega)
        have c4 : w2.cell? ⟨g, j * 7 + 4, none⟩ = some (.slice pa pn pc) := hcj 4 (by omega)
        have c5 : w2.cell? ⟨g, j * 7 + 5, none⟩ = some (.string F) := hcj 5 (by omega)
        have c6 : w2.cell? ⟨g, j * 7 + 6, none⟩ = some (.string G) := hcj 6 (by omega)
        clear hcj
        cases bk with
        | false =>
          have hji : j = i := hjj
          clear hjj
          subst hji
          clear hlt'
          have hlt' : (j : Int) < (ys.length : Int) := by omega
          go_wp2_with fail
          refine (unhide HPS1 (x := ⟨Kd, P, Q, K, pa, pn, pc, F, G⟩) (unhide HPt) (unhide HQ1) (unhide HQ2) q3' (unhide H2) hn hl (unhide HF2) hm haf (unhide HL2)).mono ?_
          rintro e w3 ⟨rfl, v3, xs3, hf3, hc3⟩
          have HF3 := hide hf3
          have HC3 := hide ((unhide HC2).trans hc3)
          clear hf3 hc3
          go_wp2_with fail
          go_roundg (ys.length - (j + 1))
          case measure => rw [unhide HK]; omega
          case rel => exact ⟨j + 1, rfl, by omega, rfl, v3, xs3, by rw [unhide HSuc, after_append, ← lay_next]; exact unhide HF3, unhide HC3⟩
        | true =>
          have hji : j = ys.length - 1 - i := hjj
          clear hjj
          subst hji
          go_wp2_with fail
          refine (unhide HPS1 (x := ⟨Kd, P, Q, K, pa, pn, pc, F, G⟩) (unhide HPt) (unhide HQ1) (unhide HQ2) q3' (unhide H2) hn hl (unhide HF2) hm haf (unhide HL2)).mono ?_
          rintro e w3 ⟨rfl, v3, xs3, hf3, hc3⟩
          have HF3 := hide hf3
          have HC3 := hide ((unhide HC2).trans hc3)
          clear hf3 hc3
          go_wp2_with fail
          go_roundg (ys.length - (i + 1))
          case measure => rw [unhide HK]; omega
          case rel => exact ⟨i + 1, rfl, by omega, rfl, v3, xs3, by rw [unhide HSuc, after_append, ← lay_next]; exact unhide HF3, unhide HC3⟩
    · have hlt' : ¬ (i : Int) < (ys.length : Int) := by omega
      go_wp2_with fail
      go_end0
      have e := flatTo_all bk qs (i := i) (by rw [unhide HQL]; omega)
      rw [unhide HBd] at e
      rw [e] at HFl
      exact ⟨rfl, v', xs', unhide HFl, (Fc.of_below (unhide HB1)).trans (unhide HFc)⟩
end Go.Proofs.YtikiaijgcjjloaaGreatDoor

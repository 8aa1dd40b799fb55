import Derived.Test.YtknokhbilckmiaaGreatDoorPart48
import Derived.Deep.DeepCutAuto
import Derived.Deep.RegionHeld3
import Derived.BigRegion

/- The walk of the law on terms: played. -/
namespace Go.Proofs.YtknokhbilckmiaaGreatDoor
open Go Go.RowKit M T Go.Lib

/-- A step of a script. -/
structure OpC where
  K : Int
  On : Int
  A : Int
  S : ByteArray
  X : ByteArray
/-- What a script's memory holds. -/
structure ScIs (w : World) (n0 : Nat) (ao : Option Addr) (n : Nat) (os : Nat → OpC) : Prop where
  some : 0 < n → ∃ a, ao = some a ∧ a.block < n0 ∧ ∀ i, i < n → w.cell? (a.add (i * 5)) = some (.int .i64 (os i).K) ∧ w.cell? ⟨(a.add (i * 5)).block, (a.add (i * 5)).off + 1, none⟩ = some (.int .i64 (os i).On) ∧ w.cell? ⟨(a.add (i * 5)).block, (a.add (i * 5)).off + 2, none⟩ = some (.int .i64 (os i).A) ∧ w.cell? ⟨(a.add (i * 5)).block, (a.add (i * 5)).off + 3, none⟩ = some (.string (os i).S) ∧ w.cell? ⟨(a.add (i * 5)).block, (a.add (i * 5)).off + 4, none⟩ = some (.string (os i).X)
  wf : ∀ i, i < n → -9223372036854775808 ≤ (os i).On ∧ (os i).On ≤ 9223372036854775807
theorem Tryz.infoTwin : (Tryz.prog.info? 46).map (fun i => (i.zero, i.size, i.bytes)) = some (some (.agg #[.pointer none, .pointer none]), 2, 16) := by kernel_rfl
theorem one_twin (t : Twn) : ∀ u ∈ t.cells, u.oneCell' = true := by
  intro u hu
  simp only [Twn.cells, List.mem_cons, List.not_mem_nil, or_false] at hu
  rcases hu with rfl | rfl <;> rfl

/-- What holds between two steps of a script. -/
structure PlIs (w0 : World) (i : Nat) (v : Value) (ts : List Twn) (wr : World) : Prop where
  own : wr.ownsRow w0.heap.size 46 2 v ts.length (trow ts)
  tws : Tws w0.heap.size i wr ts
  ne : 1 ≤ ts.length
  le : ts.length ≤ i + 1
  bel : Below w0.heap.size w0 wr
theorem owns_keept {w w' : World} {B : Nat} {v : Value} {n : Nat} {xs : List Value} (h : w.ownsRow B 46 2 v n xs) (hk : KeepT w w') : w'.ownsRow B 46 2 v n xs := by
  refine ⟨h.1, ?_⟩
  rcases h.2 with h2 | ⟨g, cap, cur, hv, hg, hh, r⟩
  · exact Or.inl h2
  · exact Or.inr ⟨g, cap, cur, hv, hg, by rw [hk g _ _ hh (Or.inl rfl)]; exact hh, r⟩
theorem PlIs.below {w0 wr wr' : World} {i : Nat} {v : Value} {ts : List Twn} (h : PlIs w0 i v ts wr) (hb : Below wr.heap.size wr wr') : PlIs w0 i v ts wr' :=
  ⟨owns_keept h.own (KeepT.below hb), h.tws.below hb, h.ne, h.le, h.bel.trans (hb.mono h.bel.size)⟩
theorem PlIs.mono {w0 wr : World} {i : Nat} {v : Value} {ts : List Twn} (h : PlIs w0 i v ts wr) : PlIs w0 (i + 1) v ts wr := ⟨h.own, h.tws.mono (Nat.le_succ _), h.ne, Nat.le_succ_of_le h.le, h.bel⟩
theorem PlIs.ask {w0 wr wr' : World} {i : Nat} {v : Value} {ts : List Twn} (h : PlIs w0 i v ts wr) (ha : AskGot w0.heap.size i ts wr wr') : ∃ ts', PlIs w0 (i + 1) v ts' wr' := by
  obtain ⟨ts', h1, h2, h3, h4, h5⟩ := ha
  exact ⟨ts', by rw [h3, h2]; exact owns_keept h.own h5, h1, by rw [h3]; exact h.ne, by rw [h3]; exact Nat.le_succ_of_le h.le, h.bel.trans h4⟩
theorem PlIs.start (w : World) : PlIs w 0 (.slice (some ⟨w.heap.size + 2, 0, none⟩) 1 1) [freshTw w.heap.size] (((w.alloc (.cells (ncells fun _ => none) 62)).alloc (.cells #[.slice none 0 0] 72)).alloc (.cells #[.pointer (some ⟨w.heap.size, 0, none⟩), .pointer (some ⟨w.heap.size + 1, 0, none⟩)] 46)) := by
  have h0 : Tws w.heap.size 0 w [] := ⟨fun j hj => absurd hj (Nat.not_lt_zero j), fun i j hi => absurd hi (Nat.not_lt_zero i)⟩
  have h1 := h0.fresh (Nat.le_refl _)
  have hb : Below w.heap.size w ((w.alloc (.cells (ncells fun _ => none) 62)).alloc (.cells #[.slice none 0 0] 72)) := ((Below.refl _ _).alloc (Nat.le_refl _) _).alloc (by simp) _
  refine ⟨⟨rfl, Or.inr ⟨w.heap.size + 2, 1, #[.pointer (some ⟨w.heap.size, 0, none⟩), .pointer (some ⟨w.heap.size + 1, 0, none⟩)], rfl, by omega, ?_, Nat.le_refl _, by decide, rfl, rfl⟩⟩, h1.below ((Below.refl _ _).alloc (Nat.le_refl _) _), Nat.le_refl _, Nat.le_refl _, hb.alloc (by simp; omega) _⟩
  have := heap_alloc_new ((w.alloc (.cells (ncells fun _ => none) 62)).alloc (.cells #[.slice none 0 0] 72)) (.cells #[.pointer (some ⟨w.heap.size, 0, none⟩), .pointer (some ⟨w.heap.size + 1, 0, none⟩)] 46)
  rw [World.size_alloc, World.size_alloc] at this
  exact this
theorem PlIs.shape {w0 wr : World} {i : Nat} {v : Value} {ts : List Twn} (h : PlIs w0 i v ts wr) : ∃ g cp, v = .slice (some ⟨g, 0, none⟩) ts.length cp := owns_some h.own (by
  intro e
  have h1 := h.own
  rw [e] at h1
  have := owns_len h1
  have := h.ne
  omega)
/-- Behind one session more. -/
theorem PlIs.more {w0 wr w4 : World} {i : Nat} {v v' : Value} {ts : List Twn} (h : PlIs w0 i v ts wr) {c : Array Value} (ho : w4.ownsRow w0.heap.size 46 2 v' (ts.length + 1) (trow ts ++ (freshTw wr.heap.size).cells)) (hg : (((wr.alloc (.cells (ncells fun _ => none) 62)).alloc (.cells #[.slice none 0 0] 72)).alloc (.cells c 46)).grownBy w4 v.ownBlock) :
    PlIs w0 (i + 1) v' (ts ++ [freshTw wr.heap.size]) w4 := by
  have h1 := h.tws.fresh h.bel.size
  have h2 := h1.below ((Below.refl _ _).alloc (Nat.le_refl _) (.cells c 46))
  have hb : Below wr.heap.size wr (((wr.alloc (.cells (ncells fun _ => none) 62)).alloc (.cells #[.slice none 0 0] 72)).alloc (.cells c 46)) := (((Below.refl _ _).alloc (Nat.le_refl _) _).alloc (by simp) _).alloc (by simp; omega) _
  have hv : ∀ g, v.ownBlock = some g → w0.heap.size ≤ g ∧ ∃ cc, wr.heap[g]? = some (.cells cc 46 (0, 0)) := fun g hgv => by
    rcases h.own.2 with ⟨e, _⟩ | ⟨g', cap, cur, e, hb', hh, _⟩
    · rw [e] at hgv; cases hgv
    · rw [e] at hgv; cases hgv; exact ⟨hb', cur, hh⟩
  refine ⟨by rw [List.length_append, ← trow_snoc]; exact ho, ?_, by simp, by have := h.le; simp; omega, ?_⟩
  · refine (h2.other hg.size (fun k x ty hk hty => hg.block k (lt_of_block hk) (fun e => ?_))).mono (Nat.le_succ _)
    obtain ⟨_, cc, hcc⟩ := hv k e.symm
    have := hb.block k (lt_of_block hcc)
    rw [hcc] at this
    exact hty (blk_ty hk this)
  · have hb0 := h.bel.trans (hb.mono h.bel.size)
    exact ⟨hg.os.trans hb0.os, hg.tape.trans hb0.tape, hg.output.trans hb0.output, Nat.le_trans hb0.size hg.size, fun k hk => (hg.block k (Nat.lt_of_lt_of_le hk hb0.size) (fun e => by have := (hv k e.symm).1; omega)).trans (hb0.block k hk)⟩
theorem PlIs.more' {w0 wr w4 : World} {i : Nat} {v v' : Value} {ts : List Twn} (h : PlIs w0 i v ts wr) {c : Array Value} {n1 : Nat} (e : wr.heap.size = n1) (ho : w4.ownsRow w0.heap.size 46 2 v' (ts.length + 1) (trow ts ++ (freshTw n1).cells)) (hg : (((wr.alloc (.cells (ncells fun _ => none) 62)).alloc (.cells #[.slice none 0 0] 72)).alloc (.cells c 46)).grownBy w4 v.ownBlock) :
    PlIs w0 (i + 1) v' (ts ++ [freshTw n1]) w4 := by
  subst e
  exact h.more ho hg
theorem news_at {w : World} {k : Nat} (e : w.heap.size = k) (c : List Value) (t : TypeId) : ∀ j u, c[j]? = some u → (w.alloc (.cells c.toArray t)).cell? ((⟨k, 0, none⟩ : Addr).add j) = some u := by
  subst e
  exact news_alloc w c t
theorem ask_cells {n0 m : Nat} {ts : List Twn} {w w' : World} (h : AskGot n0 m ts w w') {k : Nat} {c : Array Value} {ty : TypeId} (hk : w.heap[k]? = some (.cells c ty (0, 0))) (ht : ty = 46 ∨ ty = 49) : ∀ o, w'.cell? ⟨k, o, none⟩ = w.cell? ⟨k, o, none⟩ := fun o => by
  obtain ⟨_, _, _, _, _, hk'⟩ := h
  exact World.cell?_of_block (a := ⟨k, o, none⟩) (hk' k c ty hk ht)
theorem owns_blk {w : World} {B : Nat} {e : TypeId} {size : Nat} {g n cap : Nat} {m : Nat} {xs : List Value} (h : w.ownsRow B e size (.slice (some ⟨g, 0, none⟩) n cap) m xs) : ∃ c, w.heap[g]? = some (.cells c e (0, 0)) := by
  rcases h.2 with ⟨h2, _⟩ | ⟨g', cap', cur, hv, _, hh, _⟩
  · cases h2
  · cases hv; exact ⟨cur, hh⟩
theorem trow_cell {w : World} {B : Nat} {g n cap : Nat} {ts : List Twn} (h : w.ownsRow B 46 2 (.slice (some ⟨g, 0, none⟩) n cap) ts.length (trow ts)) {j : Nat} (hj : j < ts.length) : w.cell? ⟨g, j * 2, none⟩ = some (.pointer (some ⟨ts[j].xb, 0, none⟩)) ∧ w.cell? ⟨g, j * 2 + 1, none⟩ = some (.pointer (some ⟨ts[j].rb, 0, none⟩)) := by
  have key : ∀ (ys : List Twn) (j : Nat) (hj : j < ys.length), (trow ys)[j * 2]? = some (.pointer (some ⟨ys[j].xb, 0, none⟩)) ∧ (trow ys)[j * 2 + 1]? = some (.pointer (some ⟨ys[j].rb, 0, none⟩)) := by
    intro ys
    induction ys with
    | nil => intro j hj; simp at hj
    | cons y ys ih =>
      intro j hj
      have e : trow (y :: ys) = .pointer (some ⟨y.xb, 0, none⟩) :: .pointer (some ⟨y.rb, 0, none⟩) :: trow ys := rfl
      cases j with
      | zero => rw [e]; exact ⟨rfl, rfl⟩
      | succ j =>
        rw [e, show (j + 1) * 2 = j * 2 + 1 + 1 by omega, show j * 2 + 1 + 1 + 1 = (j * 2 + 1) + 1 + 1 by omega]
        simp only [List.getElem?_cons_succ, List.getElem_cons_succ]
        exact ih j (by simpa using hj)
  have k := key ts j hj
  have a1 := h.cells (g := g) rfl (j * 2) _ k.1
  have a2 := h.cells (g := g) rfl (j * 2 + 1) _ k.2
  rw [show (⟨g, 0, none⟩ : Addr).add (j * 2) = ⟨g, j * 2, none⟩ from by unfold Addr.add; split <;> simp_all] at a1
  rw [show (⟨g, 0, none⟩ : Addr).add (j * 2 + 1) = ⟨g, j * 2 + 1, none⟩ from by unfold Addr.add; split <;> simp_all] at a2
  exact ⟨a1, a2⟩

theorem ask_step {w wr : World} {i g cp : Nat} {ts : List Twn} (hpl : PlIs w i (.slice (some ⟨g, 0, none⟩) ts.length cp) ts wr) (K On Aa : Int) (S X : ByteArray) (hm : (i + 1) * 32 ≤ 140737488355328) (ht : Tab w) {j : Nat} (hj : j < ts.length) (h6 : 6 ≤ K) (h9 : K < 9) :
    Calls Tryz.prog 20 #[.agg #[.pointer (some ⟨ts[j].xb, 0, none⟩), .pointer (some ⟨ts[j].rb, 0, none⟩)], .agg #[.int .i64 K, .int .i64 On, .int .i64 Aa, .string S, .string X]] (wr.alloc (.cells #[.int .i64 K, .int .i64 On, .int .i64 Aa, .string S, .string X] 49)).drew fun e w' => e = .returned (.bool true) ∧ AskGot w.heap.size i ts (wr.alloc (.cells #[.int .i64 K, .int .i64 On, .int .i64 Aa, .string S, .string X] 49)).drew w' ∧ (∀ o, w'.cell? ⟨wr.heap.size, o, none⟩ = (#[.int .i64 K, .int .i64 On, .int .i64 Aa, .string S, .string X] : Array Value)[o]?) ∧ ∀ o, w'.cell? ⟨g, o, none⟩ = wr.cell? ⟨g, o, none⟩ := by
  have hpd : PlIs w i (.slice (some ⟨g, 0, none⟩) ts.length cp) ts (wr.alloc (.cells #[.int .i64 K, .int .i64 On, .int .i64 Aa, .string S, .string X] 49)).drew := hpl.below (Below.drew ((Below.refl _ _).alloc (Nat.le_refl _) _))
  refine (asked_any hpd.tws hpd.bel.size hm (tab_below ht hpd.bel) hj K On Aa S X h6 h9).mono ?_
  rintro e w' ⟨rfl, h2⟩
  refine ⟨rfl, h2, fun o => ?_, fun o => ?_⟩
  · have hh : (wr.alloc (.cells #[.int .i64 K, .int .i64 On, .int .i64 Aa, .string S, .string X] 49)).drew.heap[wr.heap.size]? = some (.cells #[.int .i64 K, .int .i64 On, .int .i64 Aa, .string S, .string X] 49 (0, 0)) := heap_alloc_new wr _
    rw [ask_cells h2 hh (Or.inr rfl) o]
    exact blk_cell hh o
  · obtain ⟨c, hc⟩ := owns_blk hpl.own
    have hh : (wr.alloc (.cells #[.int .i64 K, .int .i64 On, .int .i64 Aa, .string S, .string X] 49)).drew.heap[g]? = some (.cells c 46 (0, 0)) := (Below.heap_alloc wr _ _ (lt_of_block hc)).trans hc
    rw [ask_cells h2 hh (Or.inl rfl) o, blk_cell hh o, blk_cell hc o]

set_option maxRecDepth 100000 in
set_option maxHeartbeats 3200000 in
theorem played_terms {w : World} {ao : Option Addr} {n cap : Nat} {os : Nat → OpC} (hsc : ScIs w w.heap.size ao n os) (hn : (n + 2) * 32 ≤ 140737488355328) (ht : Tab w) :
    Calls Tryz.prog 6 #[.slice ao n cap, .bool false, .bool true, .bool false] w fun e w' => e = .returned (.bool true) ∧ Below w.heap.size w w' := by
  obtain ⟨i0, hi0, hz0, hz1, hz2⟩ := info_parts Tryz.infoTwin
  have HSc := hide hsc
  have HT := hide ht
  clear hsc ht
  go_enter Tryz.func6, Tryz.ntmps6
  go_wp2_with fail
  refine (new_any _).mono ?_
  rintro e w' ⟨rfl, rfl⟩
  go_wp2_with fail
  refine (rNew_any _).mono ?_
  rintro e w' ⟨rfl, rfl⟩
  go_wp2_with fail
  go_loopg [10, 11] n (fun k v10 v11 wr => ∃ (i : Nat) (ts : List Twn) (g cp : Nat), k = n - i ∧ i ≤ n ∧ v11 = .int .i64 (i : Int) ∧ v10 = .slice (some ⟨g, 0, none⟩) ts.length cp ∧ PlIs w i (.slice (some ⟨g, 0, none⟩) ts.length cp) ts wr)
  case atStart => exact ⟨0, [freshTw w.heap.size], w.heap.size + 2, 1, rfl, Nat.zero_le _, rfl, rfl, PlIs.start w⟩
  case round =>
    obtain ⟨i, ts, g, cp, hk, hi, rfl, rfl, hpl⟩ := hrel
    have HK := hide hk
    have HPl := hide hpl
    clear hk hpl
    by_cases hlt : i < n
    · have hlt' : (i : Int) < (n : Int) := by omega
      obtain ⟨a, rfl, hab, hcs⟩ := (unhide HSc).some (by omega)
      obtain ⟨d0, d1, d2, d3, d4⟩ := hcs i hlt
      have hof : ∀ p : Addr, p.block = (a.add (i * 5)).block → wr.cell? p = w.cell? p := fun p hp => (unhide HPl).bel.cell (by rw [hp, show (a.add (i * 5)).block = a.block from by unfold Addr.add; split <;> rfl]; exact hab)
      have d0 := (hof _ rfl).trans d0
      have d1 := (hof ⟨(a.add (i * 5)).block, (a.add (i * 5)).off + 1, none⟩ rfl).trans d1
      have d2 := (hof ⟨(a.add (i * 5)).block, (a.add (i * 5)).off + 2, none⟩ rfl).trans d2
      have d3 := (hof ⟨(a.add (i * 5)).block, (a.add (i * 5)).off + 3, none⟩ rfl).trans d3
      have d4 := (hof ⟨(a.add (i * 5)).block, (a.add (i * 5)).off + 4, none⟩ rfl).trans d4
      have hon := (unhide HSc).wf i hlt
      clear hof hcs
      generalize os i = o at d0 d1 d2 d3 d4 hon
      obtain ⟨K, On, Aa, S, X⟩ := o
      clear HSc
      have e0 : wr.cell? (a.add (i * 5)) = some (.int .i64 K) := d0
      have e1 : wr.cell? ⟨(a.add (i * 5)).block, (a.add (i * 5)).off + 1, none⟩ = some (.int .i64 On) := d1
      have e2 : wr.cell? ⟨(a.add (i * 5)).block, (a.add (i * 5)).off + 2, none⟩ = some (.int .i64 Aa) := d2
      have e3 : wr.cell? ⟨(a.add (i * 5)).block, (a.add (i * 5)).off + 3, none⟩ = some (.string S) := d3
      have e4 : wr.cell? ⟨(a.add (i * 5)).block, (a.add (i * 5)).off + 4, none⟩ = some (.string X) := d4
      clear d0 d1 d2 d3 d4
      have hbx : Below wr.heap.size wr (wr.alloc (.cells #[.int .i64 K, .int .i64 On, .int .i64 Aa, .string S, .string X] 49)) := (Below.refl _ _).alloc (Nat.le_refl _) _
      have HPx := hide ((unhide HPl).below hbx)
      clear hbx
      rcases (show K < 5 ∨ K = 5 ∨ (6 ≤ K ∧ K < 9) ∨ 9 ≤ K by omega) with h5 | rfl | ⟨h6, h9⟩ | h9
      · go_wp2_with fail
        go_roundg (n - (i + 1))
        case measure => rw [unhide HK]; omega
        case rel => exact ⟨i + 1, ts, g, cp, rfl, by omega, rfl, rfl, (unhide HPx).mono⟩
      · go_wp2_with fail
        refine (new_any _).mono ?_
        rintro e w' ⟨rfl, rfl⟩
        go_wp2_with fail
        refine (rNew_any _).mono ?_
        rintro e w' ⟨rfl, rfl⟩
        have hle := (unhide HPl).le
        go_wp2_with (at_builtin; refine wpList_append_own _ rfl _ _ 47 rfl w.heap.size 46 i0 _ 2 16 Tryz.underlying47 hi0 hz0 hz1 hz2 rfl (by decide) _ _ _ rfl ((((unhide HPx).own.alloc _).alloc _).alloc _) ⟨wr.heap.size + 1 + 1 + 1, 0, none⟩ 1 1 (Twn.cells (freshTw (wr.heap.size + 1))) rfl rfl (news_at (by simp) _ _) (one_twin _) (by unfold maxLen; omega) (by omega) (by have := (unhide HPl).bel.size; simp; omega) ?_)
        intro v' w4 hown4 hgr4 _
        have hp := (unhide HPx).more' (n1 := wr.heap.size + 1) (by simp) hown4 hgr4
        obtain ⟨g', cp', rfl⟩ := hp.shape
        have HP4 := hide hp
        clear hown4 hgr4 hp
        go_wp2_with fail
        go_roundg (n - (i + 1))
        case measure => rw [unhide HK]; omega
        case rel => exact ⟨i + 1, _, g', cp', rfl, by omega, rfl, rfl, unhide HP4⟩
      · have hne := (unhide HPl).ne
        have hle := (unhide HPl).le
        have hab' : g < wr.heap.size := ((unhide HPl).own.lt g rfl).2
        have hjl := pickN_lt On hne
        have htc := trow_cell (unhide HPl).own hjl
        have HPk := hide (fun (w' : World) => pick_any On ts.length w' hon.1 hon.2 hne (by omega))
        have HPd := hide ((unhide HPx).below (Below.drew (Below.refl _ _)))
        have HAsk := hide (ask_step (unhide HPl) K On Aa S X (by omega) (unhide HT) hjl h6 h9)
        generalize pickN On ts.length = j at hjl htc HPk HAsk
        generalize ts[j].xb = xb at htc HAsk
        generalize ts[j].rb = rb at htc HAsk
        obtain ⟨tc0, tc1⟩ := htc
        go_upto_block 2 with fail
        go_cut [10, 13] from 32 to 81 (fun v10 v13 wx => v10 = .slice (some ⟨g, 0, none⟩) ts.length cp ∧ v13 = .bool true ∧ ∃ ts', PlIs w (i + 1) (.slice (some ⟨g, 0, none⟩) ts.length cp) ts' wx)
        case first =>
          rcases (show K = 6 ∨ K = 7 ∨ K = 8 by omega) with rfl | rfl | rfl
          · go_upto_region 19 with fail
            go_region_held3 (fun w' => (w'.cell? ⟨wr.heap.size, 0, none⟩ = some (.int .i64 6) ∧ w'.cell? ⟨wr.heap.size, 1, none⟩ = some (.int .i64 On) ∧ w'.cell? ⟨wr.heap.size, 2, none⟩ = some (.int .i64 Aa) ∧ w'.cell? ⟨wr.heap.size, 3, none⟩ = some (.string S) ∧ w'.cell? ⟨wr.heap.size, 4, none⟩ = some (.string X)) ∧ w'.cell? ⟨g, j * 2, none⟩ = some (.pointer (some ⟨xb, 0, none⟩)) ∧ w'.cell? ⟨g, j * 2 + 1, none⟩ = some (.pointer (some ⟨rb, 0, none⟩))) (go_keep)
              (first | (go_at_call 21; refine (unhide HPk _).mono ?_; rintro e w' ⟨rfl, rfl⟩) | (go_at_call 20; refine (unhide HAsk).mono ?_; rintro e w' ⟨rfl, hask, hO, hG⟩))
            all_goals go_wp2_with fail
            all_goals go_meet
            all_goals exact ⟨rfl, rfl, (unhide HPd).ask hask⟩
          · go_upto_region 19 with fail
            go_region_held3 (fun w' => (w'.cell? ⟨wr.heap.size, 0, none⟩ = some (.int .i64 7) ∧ w'.cell? ⟨wr.heap.size, 1, none⟩ = some (.int .i64 On) ∧ w'.cell? ⟨wr.heap.size, 2, none⟩ = some (.int .i64 Aa) ∧ w'.cell? ⟨wr.heap.size, 3, none⟩ = some (.string S) ∧ w'.cell? ⟨wr.heap.size, 4, none⟩ = some (.string X)) ∧ w'.cell? ⟨g, j * 2, none⟩ = some (.pointer (some ⟨xb, 0, none⟩)) ∧ w'.cell? ⟨g, j * 2 + 1, none⟩ = some (.pointer (some ⟨rb, 0, none⟩))) (go_keep)
              (first | (go_at_call 21; refine (unhide HPk _).mono ?_; rintro e w' ⟨rfl, rfl⟩) | (go_at_call 20; refine (unhide HAsk).mono ?_; rintro e w' ⟨rfl, hask, hO, hG⟩))
            all_goals go_wp2_with fail
            all_goals go_meet
            all_goals exact ⟨rfl, rfl, (unhide HPd).ask hask⟩
          · go_upto_region 19 with fail
            go_region_held3 (fun w' => (w'.cell? ⟨wr.heap.size, 0, none⟩ = some (.int .i64 8) ∧ w'.cell? ⟨wr.heap.size, 1, none⟩ = some (.int .i64 On) ∧ w'.cell? ⟨wr.heap.size, 2, none⟩ = some (.int .i64 Aa) ∧ w'.cell? ⟨wr.heap.size, 3, none⟩ = some (.string S) ∧ w'.cell? ⟨wr.heap.size, 4, none⟩ = some (.string X)) ∧ w'.cell? ⟨g, j * 2, none⟩ = some (.pointer (some ⟨xb, 0, none⟩)) ∧ w'.cell? ⟨g, j * 2 + 1, none⟩ = some (.pointer (some ⟨rb, 0, none⟩))) (go_keep)
              (first | (go_at_call 21; refine (unhide HPk _).mono ?_; rintro e w' ⟨rfl, rfl⟩) | (go_at_call 20; refine (unhide HAsk).mono ?_; rintro e w' ⟨rfl, hask, hO, hG⟩))
            all_goals go_wp2_with fail
            all_goals go_meet
            all_goals exact ⟨rfl, rfl, (unhide HPd).ask hask⟩
        case rest =>
        obtain ⟨rfl, rfl, ts', hp⟩ := hcut
        have HL := hide (owns_len hp.own)
        have HP := hide hp
        clear hp
        go_wp2_with fail
        go_roundg (n - (i + 1))
        case measure => rw [unhide HK]; omega
        case rel => exact ⟨i + 1, ts', g, cp, rfl, by omega, rfl, by rw [unhide HL], by rw [← unhide HL]; exact unhide HP⟩
      · have q6 : (K == 6) = false := by rw [beq_eq_false_iff_ne]; omega
        go_wp2_with fail
        go_roundg (n - (i + 1))
        case measure => rw [unhide HK]; omega
        case rel => exact ⟨i + 1, ts, g, cp, rfl, by omega, rfl, rfl, (unhide HPx).mono⟩
    · have hlt' : ¬ (i : Int) < (n : Int) := by omega
      go_wp2_with fail
      go_ret
      exact ⟨rfl, (unhide HPl).bel⟩
end Go.Proofs.YtknokhbilckmiaaGreatDoor

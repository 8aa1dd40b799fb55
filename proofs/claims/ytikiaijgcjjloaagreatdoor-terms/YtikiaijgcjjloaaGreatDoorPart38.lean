import Derived.Test.YtikiaijgcjjloaaGreatDoorPart37
import Derived.Deep.DeepCutAuto
import Derived.Deep.RegionHeld3
import Derived.BigRegion
import Derived.Test.YtikiaijgcjjloaaGreatDoorRows
import Derived.Test.YtikiaijgcjjloaaGreatDoorPart10
import Derived.ProofKit
import Derived.LaidMore
import Derived.OpenShut
import Derived.ShutString
import Derived.Stop.Joined
import Derived.Lib.LaidTab
import Derived.Deep.Slices
import Derived.SizedLaws
import Derived.Carry

/- The walk of the law on terms: played. -/
namespace Go.Proofs.YtikiaijgcjjloaaGreatDoor
open Go Go.RowKit M T Go.Lib

/-- A step of a script. -/
structure OpC where
  K : Int
  On : Int
  A : Int
  S : ByteArray
  X : ByteArray
/-- What a script's memory holds. -/
structure ScIs (w : World) (n0 : Nat) (ao : Option Addr) (n : Nat) (os : Nat → OpC) : Prop where
  some : 0 < n → ∃ a, ao = some a ∧ a.block < n0 ∧ ∀ i, i < n → w.cell? (a.add (i * 5)) = some (.int .i64 (os i).K) ∧ w.cell? ⟨(a.add (i * 5)).block, (a.add (i * 5)).off + 1, none⟩ = some (.int .i64 (os i).On) ∧ w.cell? ⟨(a.add (i * 5)).block, (a.add (i * 5)).off + 2, none⟩ = some (.int .i64 (os i).A) ∧ w.cell? ⟨(a.add (i * 5)).block, (a.add (i * 5)).off + 3, none⟩ = some (.string (os i).S) ∧ w.cell? ⟨(a.add (i * 5)).block, (a.add (i * 5)).off + 4, none⟩ = some (.string (os i).X)
  wf : ∀ i, i < n → -9223372036854775808 ≤ (os i).On ∧ (os i).On ≤ 9223372036854775807
theorem Tryz.infoTwin : (Tryz.prog.info? 51).map (fun i => (i.zero, i.size, i.bytes)) = some (some (.agg #[.pointer none, .pointer none]), 2, 16) := by kernel_rfl
theorem one_twin (t : Twn) : ∀ u ∈ t.cells, u.oneCell' = true := by
  intro u hu
  simp only [Twn.cells, List.mem_cons, List.not_mem_nil, or_false] at hu
  rcases hu with rfl | rfl <;> rfl

/-- What holds between two steps of a script. -/
structure PlIs (w0 : World) (i : Nat) (v : Value) (ts : List Twn) (wr : World) : Prop where
  own : wr.ownsRow w0.heap.size 51 2 v ts.length (trow ts)
  tws : Tws w0.heap.size i wr ts
  ne : 1 ≤ ts.length
  le : ts.length ≤ i + 1
  bel : Below w0.heap.size w0 wr
theorem owns_keept {w w' : World} {B : Nat} {v : Value} {n : Nat} {xs : List Value} (h : w.ownsRow B 51 2 v n xs) (hk : KeepT w w') : w'.ownsRow B 51 2 v n xs := by
  refine ⟨h.1, ?_⟩
  rcases h.2 with h2 | ⟨g, cap, cur, hv, hg, hh, r⟩
  · exact Or.inl h2
  · exact Or.inr ⟨g, cap, cur, hv, hg, by rw [hk g _ _ hh (Or.inl rfl)]; exact hh, r⟩
theorem PlIs.below {w0 wr wr' : World} {i : Nat} {v : Value} {ts : List Twn} (h : PlIs w0 i v ts wr) (hb : Below wr.heap.size wr wr') : PlIs w0 i v ts wr' :=
  ⟨owns_keept h.own (KeepT.below hb), h.tws.below hb, h.ne, h.le, h.bel.trans (hb.mono h.bel.size)⟩
theorem PlIs.mono {w0 wr : World} {i : Nat} {v : Value} {ts : List Twn} (h : PlIs w0 i v ts wr) : PlIs w0 (i + 1) v ts wr := ⟨h.own, h.tws.mono (Nat.le_succ _), h.ne, Nat.le_succ_of_le h.le, h.bel⟩
theorem PlIs.ask {w0 wr wr' : World} {i : Nat} {v : Value} {ts : List Twn} (h : PlIs w0 i v ts wr) (ha : AskGot w0.heap.size i ts wr wr') : ∃ ts', PlIs w0 (i + 1) v ts' wr' := by
  obtain ⟨ts', h1, h2, h3, h4, h5⟩ := ha
  exact ⟨ts', by rw [h3, h2]; exact owns_keept h.own h5, h1, by rw [h3]; exact h.ne, by rw [h3]; exact Nat.le_succ_of_le h.le, h.bel.trans h4⟩
theorem PlIs.start (w : World) : PlIs w 0 (.slice (some ⟨w.heap.size + 2, 0, none⟩) 1 1) [freshTw w.heap.size] (((w.alloc (.cells (ncells fun _ => none) 65)).alloc (.cells #[.slice none 0 0] 78)).alloc (.cells #[.pointer (some ⟨w.heap.size, 0, none⟩), .pointer (some ⟨w.heap.size + 1, 0, none⟩)] 51)) := by
  have h0 : Tws w.heap.size 0 w [] := ⟨fun j hj => absurd hj (Nat.not_lt_zero j), fun i j hi => absurd hi (Nat.not_lt_zero i)⟩
  have h1 := h0.fresh (Nat.le_refl _)
  have hb : Below w.heap.size w ((w.alloc (.cells (ncells fun _ => none) 65)).alloc (.cells #[.slice none 0 0] 78)) := ((Below.refl _ _).alloc (Nat.le_refl _) _).alloc (by simp) _
  refine ⟨⟨rfl, Or.inr ⟨w.heap.size + 2, 1, #[.pointer (some ⟨w.heap.size, 0, none⟩), .pointer (some ⟨w.heap.size + 1, 0, none⟩)], rfl, by omega, ?_, Nat.le_refl _, by decide, rfl, rfl⟩⟩, h1.below ((Below.refl _ _).alloc (Nat.le_refl _) _), Nat.le_refl _, Nat.le_refl _, hb.alloc (by simp; omega) _⟩
  have := heap_alloc_new ((w.alloc (.cells (ncells fun _ => none) 65)).alloc (.cells #[.slice none 0 0] 78)) (.cells #[.pointer (some ⟨w.heap.size, 0, none⟩), .pointer (some ⟨w.heap.size + 1, 0, none⟩)] 51)
  rw [World.size_alloc, World.size_alloc] at this
  exact this
theorem PlIs.shape {w0 wr : World} {i : Nat} {v : Value} {ts : List Twn} (h : PlIs w0 i v ts wr) : ∃ g cp, v = .slice (some ⟨g, 0, none⟩) ts.length cp := owns_some h.own (by
  intro e
  have h1 := h.own
  rw [e] at h1
  have := owns_len h1
  have := h.ne
  omega)
/-- Behind one session more. -/
theorem PlIs.more {w0 wr w4 : World} {i : Nat} {v v' : Value} {ts : List Twn} (h : PlIs w0 i v ts wr) {c : Array Value} (ho : w4.ownsRow w0.heap.size 51 2 v' (ts.length + 1) (trow ts ++ (freshTw wr.heap.size).cells)) (hg : (((wr.alloc (.cells (ncells fun _ => none) 65)).alloc (.cells #[.slice none 0 0] 78)).alloc (.cells c 51)).grownBy w4 v.ownBlock) :
    PlIs w0 (i + 1) v' (ts ++ [freshTw wr.heap.size]) w4 := by
  have h1 := h.tws.fresh h.bel.size
  have h2 := h1.below ((Below.refl _ _).alloc (Nat.le_refl _) (.cells c 51))
  have hb : Below wr.heap.size wr (((wr.alloc (.cells (ncells fun _ => none) 65)).alloc (.cells #[.slice none 0 0] 78)).alloc (.cells c 51)) := (((Below.refl _ _).alloc (Nat.le_refl _) _).alloc (by simp) _).alloc (by simp; omega) _
  have hv : ∀ g, v.ownBlock = some g → w0.heap.size ≤ g ∧ ∃ cc, wr.heap[g]? = some (.cells cc 51 (0, 0)) := fun g hgv => by
    rcases h.own.2 with ⟨e, _⟩ | ⟨g', cap, cur, e, hb', hh, _⟩
    · rw [e] at hgv; cases hgv
    · rw [e] at hgv; cases hgv; exact ⟨hb', cur, hh⟩
  refine ⟨by rw [List.length_append, ← trow_snoc]; exact ho, ?_, by simp, by have := h.le; simp; omega, ?_⟩
  · refine (h2.other hg.size (fun k x ty hk hty => hg.block k (lt_of_block hk) (fun e => ?_))).mono (Nat.le_succ _)
    obtain ⟨_, cc, hcc⟩ := hv k e.symm
    have := hb.block k (lt_of_block hcc)
    rw [hcc] at this
    exact hty (blk_ty hk this)
  · have hb0 := h.bel.trans (hb.mono h.bel.size)
    exact ⟨hg.os.trans hb0.os, hg.tape.trans hb0.tape, hg.output.trans hb0.output, Nat.le_trans hb0.size hg.size, fun k hk => (hg.block k (Nat.lt_of_lt_of_le hk hb0.size) (fun e => by have := (hv k e.symm).1; omega)).trans (hb0.block k hk)⟩
theorem PlIs.more' {w0 wr w4 : World} {i : Nat} {v v' : Value} {ts : List Twn} (h : PlIs w0 i v ts wr) {c : Array Value} {n1 : Nat} (e : wr.heap.size = n1) (ho : w4.ownsRow w0.heap.size 51 2 v' (ts.length + 1) (trow ts ++ (freshTw n1).cells)) (hg : (((wr.alloc (.cells (ncells fun _ => none) 65)).alloc (.cells #[.slice none 0 0] 78)).alloc (.cells c 51)).grownBy w4 v.ownBlock) :
    PlIs w0 (i + 1) v' (ts ++ [freshTw n1]) w4 := by
  subst e
  exact h.more ho hg
theorem news_at {w : World} {k : Nat} (e : w.heap.size = k) (c : List Value) (t : TypeId) : ∀ j u, c[j]? = some u → (w.alloc (.cells c.toArray t)).cell? ((⟨k, 0, none⟩ : Addr).add j) = some u := by
  subst e
  exact news_alloc w c t
theorem ask_cells {n0 m : Nat} {ts : List Twn} {w w' : World} (h : AskGot n0 m ts w w') {k : Nat} {c : Array Value} {ty : TypeId} (hk : w.heap[k]? = some (.cells c ty (0, 0))) (ht : ty = 51 ∨ ty = 54) : ∀ o, w'.cell? ⟨k, o, none⟩ = w.cell? ⟨k, o, none⟩ := fun o => by
  obtain ⟨_, _, _, _, _, hk'⟩ := h
  exact World.cell?_of_block (a := ⟨k, o, none⟩) (hk' k c ty hk ht)
theorem owns_blk {w : World} {B : Nat} {e : TypeId} {size : Nat} {g n cap : Nat} {m : Nat} {xs : List Value} (h : w.ownsRow B e size (.slice (some ⟨g, 0, none⟩) n cap) m xs) : ∃ c, w.heap[g]? = some (.cells c e (0, 0)) := by
  rcases h.2 with ⟨h2, _⟩ | ⟨g', cap', cur, hv, _, hh, _⟩
  · cases h2
  · cases hv; exact ⟨cur, hh⟩
theorem trow_cell {w : World} {B : Nat} {g n cap : Nat} {ts : List Twn} (h : w.ownsRow B 51 2 (.slice (some ⟨g, 0, none⟩) n cap) ts.length (trow ts)) {j : Nat} (hj : j < ts.length) : w.cell? ⟨g, j * 2, none⟩ = some (.pointer (some ⟨ts[j].xb, 0, none⟩)) ∧ w.cell? ⟨g, j * 2 + 1, none⟩ = some (.pointer (some ⟨ts[j].rb, 0, none⟩)) := by
  have key : ∀ (ys : List Twn) (j : Nat) (hj : j < ys.length), (trow ys)[j * 2]? = some (.pointer (some ⟨ys[j].xb, 0, none⟩)) ∧ (trow ys)[j * 2 + 1]? = some (.pointer (some ⟨ys[j].rb, 0, none⟩)) := by
    intro ys
    induction ys with
    | nil => intro j hj; simp at hj
    | cons y ys ih =>
      intro j hj
      have e : trow (y :: ys) = .pointer (some ⟨y.xb, 0, none⟩) :: .pointer (some ⟨y.rb, 0, none⟩) :: trow ys := rfl
      cases j with
      | zero => rw [e]; exact ⟨rfl, rfl⟩
      | succ j =>
        rw [e, show (j + 1) * 2 = j * 2 + 1 + 1 by omega, show j * 2 + 1 + 1 + 1 = (j * 2 + 1) + 1 + 1 by omega]
        simp only [List.getElem?_cons_succ, List.getElem_cons_succ]
        exact ih j (by simpa using hj)
  have k := key ts j hj
  have a1 := h.cells (g := g) rfl (j * 2) _ k.1
  have a2 := h.cells (g := g) rfl (j * 2 + 1) _ k.2
  rw [show (⟨g, 0, none⟩ : Addr).add (j * 2) = ⟨g, j * 2, none⟩ from by unfold Addr.add; split <;> simp_all] at a1
  rw [show (⟨g, 0, none⟩ : Addr).add (j * 2 + 1) = ⟨g, j * 2 + 1, none⟩ from by unfold Addr.add; split <;> simp_all] at a2
  exact ⟨a1, a2⟩

theorem ask_step {w wr : World} {i g cp : Nat} {ts : List Twn} (hpl : PlIs w i (.slice (some ⟨g, 0, none⟩) ts.length cp) ts wr) (K On Aa : Int) (S X : ByteArray) (hm : (i + 1) * 32 ≤ 140737488355328) (ht : Tab w) {j : Nat} (hj : j < ts.length) (h6 : 6 ≤ K) (h9 : K < 9) :
    Calls Tryz.prog 25 #[.agg #[.pointer (some ⟨ts[j].xb, 0, none⟩), .pointer (some ⟨ts[j].rb, 0, none⟩)], .agg #[.int .i64 K, .int .i64 On, .int .i64 Aa, .string S, .string X]] (wr.alloc (.cells #[.int .i64 K, .int .i64 On, .int .i64 Aa, .string S, .string X] 54)).drew fun e w' => e = .returned (.bool true) ∧ AskGot w.heap.size i ts (wr.alloc (.cells #[.int .i64 K, .int .i64 On, .int .i64 Aa, .string S, .string X] 54)).drew w' ∧ (∀ o, w'.cell? ⟨wr.heap.size, o, none⟩ = (#[.int .i64 K, .int .i64 On, .int .i64 Aa, .string S, .string X] : Array Value)[o]?) ∧ ∀ o, w'.cell? ⟨g, o, none⟩ = wr.cell? ⟨g, o, none⟩ := by
  have hpd : PlIs w i (.slice (some ⟨g, 0, none⟩) ts.length cp) ts (wr.alloc (.cells #[.int .i64 K, .int .i64 On, .int .i64 Aa, .string S, .string X] 54)).drew := hpl.below (Below.drew ((Below.refl _ _).alloc (Nat.le_refl _) _))
  refine (asked_any hpd.tws hpd.bel.size hm (tab_below ht hpd.bel) hj K On Aa S X h6 h9).mono ?_
  rintro e w' ⟨rfl, h2⟩
  refine ⟨rfl, h2, fun o => ?_, fun o => ?_⟩
  · have hh : (wr.alloc (.cells #[.int .i64 K, .int .i64 On, .int .i64 Aa, .string S, .string X] 54)).drew.heap[wr.heap.size]? = some (.cells #[.int .i64 K, .int .i64 On, .int .i64 Aa, .string S, .string X] 54 (0, 0)) := heap_alloc_new wr _
    rw [ask_cells h2 hh (Or.inr rfl) o]
    exact blk_cell hh o
  · obtain ⟨c, hc⟩ := owns_blk hpl.own
    have hh : (wr.alloc (.cells #[.int .i64 K, .int .i64 On, .int .i64 Aa, .string S, .string X] 54)).drew.heap[g]? = some (.cells c 51 (0, 0)) := (Below.heap_alloc wr _ _ (lt_of_block hc)).trans hc
    rw [ask_cells h2 hh (Or.inl rfl) o, blk_cell hh o, blk_cell hc o]

set_option maxRecDepth 100000 in
set_option maxHeartbeats 3200000 in
theorem played_terms {w : World} {ao : Option Addr} {n cap : Nat} {os : Nat → OpC} (hsc : ScIs w w.heap.size ao n os) (hn : (n + 2) * 32 ≤ 140737488355328) (ht : Tab w) :
    Calls Tryz.prog 8 #[.slice ao n cap, .bool false, .bool true, .bool false] w fun e w' => e = .returned (.bool true) ∧ Below w.heap.size w w' := by
  obtain ⟨i0, hi0, hz0, hz1, hz2⟩ := info_parts Tryz.infoTwin
  have HSc := hide hsc
  have HT := hide ht
  clear hsc ht
  go_enter Tryz.func8, Tryz.ntmps8
  go_wp2_with fail
  refine (new_any _).mono ?_
  rintro e w' ⟨rfl, rfl⟩
  go_wp2_with fail
  refine (rNew_any _).mono ?_
  rintro e w' ⟨rfl, rfl⟩
  go_wp2_with fail
  go_loopg [10, 11] n (fun k v10 v11 wr => ∃ (i : Nat) (ts : List Twn) (g cp : Nat), k = n - i ∧ i ≤ n ∧ v11 = .int .i64 (i : Int) ∧ v10 = .slice (some ⟨g, 0, none⟩) ts.length cp ∧ PlIs w i (.slice (some ⟨g, 0, none⟩) ts.length cp) ts wr)
  case atStart => exact ⟨0, [freshTw w.heap.size], w.heap.size + 2, 1, rfl, Nat.zero_le _, rfl, rfl, PlIs.start w⟩
  case round =>
    obtain ⟨i, ts, g, cp, hk, hi, rfl, rfl, hpl⟩ := hrel
    have HK := hide hk
    have HPl := hide hpl
    clear hk hpl
    by_cases hlt : i < n
    · have hlt' : (i : Int) < (n : Int) := by omega
      obtain ⟨a, rfl, hab, hcs⟩ := (unhide HSc).some (by omega)
      obtain ⟨d0, d1, d2, d3, d4⟩ := hcs i hlt
      have hof : ∀ p : Addr, p.block = (a.add (i * 5)).block → wr.cell? p = w.cell? p := fun p hp => (unhide HPl).bel.cell (by rw [hp, show (a.add (i * 5)).block = a.block from by unfold Addr.add; split <;> rfl]; exact hab)
      have d0 := (hof _ rfl).trans d0
      have d1 := (hof ⟨(a.add (i * 5)).block, (a.add (i * 5)).off + 1, none⟩ rfl).trans d1
      have d2 := (hof ⟨(a.add (i * 5)).block, (a.add (i * 5)).off + 2, none⟩ rfl).trans d2
      have d3 := (hof ⟨(a.add (i * 5)).block, (a.add (i * 5)).off + 3, none⟩ rfl).trans d3
      have d4 := (hof ⟨(a.add (i * 5)).block, (a.add (i * 5)).off + 4, none⟩ rfl).trans d4
      have hon := (unhide HSc).wf i hlt
      clear hof hcs
      generalize os i = o at d0 d1 d2 d3 d4 hon
      obtain ⟨K, On, Aa, S, X⟩ := o
      clear HSc
      have e0 : wr.cell? (a.add (i * 5)) = some (.int .i64 K) := d0
      have e1 : wr.cell? ⟨(a.add (i * 5)).block, (a.add (i * 5)).off + 1, none⟩ = some (.int .i64 On) := d1
      have e2 : wr.cell? ⟨(a.add (i * 5)).block, (a.add (i * 5)).off + 2, none⟩ = some (.int .i64 Aa) := d2
      have e3 : wr.cell? ⟨(a.add (i * 5)).block, (a.add (i * 5)).off + 3, none⟩ = some (.string S) := d3
      have e4 : wr.cell? ⟨(a.add (i * 5)).block, (a.add (i * 5)).off + 4, none⟩ = some (.string X) := d4
      clear d0 d1 d2 d3 d4
      have hbx : Below wr.heap.size wr (wr.alloc (.cells #[.int .i64 K, .int .i64 On, .int .i64 Aa, .string S, .string X] 54)) := (Below.refl _ _).alloc (Nat.le_refl _) _
      have HPx := hide ((unhide HPl).below hbx)
      clear hbx
      rcases (show K < 5 ∨ K = 5 ∨ (6 ≤ K ∧ K < 9) ∨ 9 ≤ K by omega) with h5 | rfl | ⟨h6, h9⟩ | h9
      · go_wp2_with fail
        go_roundg (n - (i + 1))
        case measure => rw [unhide HK]; omega
        case rel => exact ⟨i + 1, ts, g, cp, rfl, by omega, rfl, rfl, (unhide HPx).mono⟩
      · go_wp2_with fail
        refine (new_any _).mono ?_
        rintro e w' ⟨rfl, rfl⟩
        go_wp2_with fail
        refine (rNew_any _).mono ?_
        rintro e w' ⟨rfl, rfl⟩
        have hle := (unhide HPl).le
        go_wp2_with (at_builtin; refine wpList_append_own _ rfl _ _ 52 rfl w.heap.size 51 i0 _ 2 16 Tryz.underlying52 hi0 hz0 hz1 hz2 rfl (by decide) _ _ _ rfl ((((unhide HPx).own.alloc _).alloc _).alloc _) ⟨wr.heap.size + 1 + 1 + 1, 0, none⟩ 1 1 (Twn.cells (freshTw (wr.heap.size + 1))) rfl rfl (news_at (by simp) _ _) (one_twin _) (by unfold maxLen; omega) (by omega) (by have := (unhide HPl).bel.size; simp; omega) ?_)
        intro v' w4 hown4 hgr4 _
        have hp := (unhide HPx).more' (n1 := wr.heap.size + 1) (by simp) hown4 hgr4
        obtain ⟨g', cp', rfl⟩ := hp.shape
        have HP4 := hide hp
        clear hown4 hgr4 hp
        go_wp2_with fail
        go_roundg (n - (i + 1))
        case measure => rw [unhide HK]; omega
        case rel => exact ⟨i + 1, _, g', cp', rfl, by omega, rfl, rfl, unhide HP4⟩
      · have hne := (unhide HPl).ne
        have hle := (unhide HPl).le
        have hab' : g < wr.heap.size := ((unhide HPl).own.lt g rfl).2
        have hjl := pickN_lt On hne
        have htc := trow_cell (unhide HPl).own hjl
        have HPk := hide (fun (w' : World) => pick_any On ts.length w' hon.1 hon.2 hne (by omega))
        have HPd := hide ((unhide HPx).below (Below.drew (Below.refl _ _)))
        have HAsk := hide (ask_step (unhide HPl) K On Aa S X (by omega) (unhide HT) hjl h6 h9)
        generalize pickN On ts.length = j at hjl htc HPk HAsk
        generalize ts[j].xb = xb at htc HAsk
        generalize ts[j].rb = rb at htc HAsk
        obtain ⟨tc0, tc1⟩ := htc
        go_upto_block 2 with fail
        go_cut [10, 13] from 32 to 81 (fun v10 v13 wx => v10 = .slice (some ⟨g, 0, none⟩) ts.length cp ∧ v13 = .bool true ∧ ∃ ts', PlIs w (i + 1) (.slice (some ⟨g, 0, none⟩) ts.length cp) ts' wx)
        case first =>
          rcases (show K = 6 ∨ K = 7 ∨ K = 8 by omega) with rfl | rfl | rfl
          · go_upto_region 19 with fail
            go_region_held3 (fun w' => (w'.cell? ⟨wr.heap.size, 0, none⟩ = some (.int .i64 6) ∧ w'.cell? ⟨wr.heap.size, 1, none⟩ = some (.int .i64 On) ∧ w'.cell? ⟨wr.heap.size, 2, none⟩ = some (.int .i64 Aa) ∧ w'.cell? ⟨wr.heap.size, 3, none⟩ = some (.string S) ∧ w'.cell? ⟨wr.heap.size, 4, none⟩ = some (.string X)) ∧ w'.cell? ⟨g, j * 2, none⟩ = some (.pointer (some ⟨xb, 0, none⟩)) ∧ w'.cell? ⟨g, j * 2 + 1, none⟩ = some (.pointer (some ⟨rb, 0, none⟩))) (go_keep)
              (first | (go_at_call 26; refine (unhide HPk _).mono ?_; rintro e w' ⟨rfl, rfl⟩) | (go_at_call 25; refine (unhide HAsk).mono ?_; rintro e w' ⟨rfl, hask, hO, hG⟩))
            all_goals go_wp2_with fail
            all_goals go_meet
            all_goals exact ⟨rfl, rfl, (unhide HPd).ask hask⟩
          · go_upto_region 19 with fail
            go_region_held3 (fun w' => (w'.cell? ⟨wr.heap.size, 0, none⟩ = some (.int .i64 7) ∧ w'.cell? ⟨wr.heap.size, 1, none⟩ = some (.int .i64 On) ∧ w'.cell? ⟨wr.heap.size, 2, none⟩ = some (.int .i64 Aa) ∧ w'.cell? ⟨wr.heap.size, 3, none⟩ = some (.string S) ∧ w'.cell? ⟨wr.heap.size, 4, none⟩ = some (.string X)) ∧ w'.cell? ⟨g, j * 2, none⟩ = some (.pointer (some ⟨xb, 0, none⟩)) ∧ w'.cell? ⟨g, j * 2 + 1, none⟩ = some (.pointer (some ⟨rb, 0, none⟩))) (go_keep)
              (first | (go_at_call 26; refine (unhide HPk _).mono ?_; rintro e w' ⟨rfl, rfl⟩) | (go_at_call 25; refine (unhide HAsk).mono ?_; rintro e w' ⟨rfl, hask, hO, hG⟩))
            all_goals go_wp2_with fail
            all_goals go_meet
            all_goals exact ⟨rfl, rfl, (unhide HPd).ask hask⟩
          · go_upto_region 19 with fail
            go_region_held3 (fun w' => (w'.cell? ⟨wr.heap.size, 0, none⟩ = some (.int .i64 8) ∧ w'.cell? ⟨wr.heap.size, 1, none⟩ = some (.int .i64 On) ∧ w'.cell? ⟨wr.heap.size, 2, none⟩ = some (.int .i64 Aa) ∧ w'.cell? ⟨wr.heap.size, 3, none⟩ = some (.string S) ∧ w'.cell? ⟨wr.heap.size, 4, none⟩ = some (.string X)) ∧ w'.cell? ⟨g, j * 2, none⟩ = some (.pointer (some ⟨xb, 0, none⟩)) ∧ w'.cell? ⟨g, j * 2 + 1, none⟩ = some (.pointer (some ⟨rb, 0, none⟩))) (go_keep)
              (first | (go_at_call 26; refine (unhide HPk _).mono ?_; rintro e w' ⟨rfl, rfl⟩) | (go_at_call 25; refine (unhide HAsk).mono ?_; rintro e w' ⟨rfl, hask, hO, hG⟩))
            all_goals go_wp2_with fail
            all_goals go_meet
            all_goals exact ⟨rfl, rfl, (unhide HPd).ask hask⟩
        case rest =>
        obtain ⟨rfl, rfl, ts', hp⟩ := hcut
        have HL := hide (owns_len hp.own)
        have HP := hide hp
        clear hp
        go_wp2_with fail
        go_roundg (n - (i + 1))
        case measure => rw [unhide HK]; omega
        case rel => exact ⟨i + 1, ts', g, cp, rfl, by omega, rfl, by rw [unhide HL], by rw [← unhide HL]; exact unhide HP⟩
      · have q6 : (K == 6) = false := by rw [beq_eq_false_iff_ne]; omega
        go_wp2_with fail
        go_roundg (n - (i + 1))
        case measure => rw [unhide HK]; omega
        case rel => exact ⟨i + 1, ts, g, cp, rfl, by omega, rfl, rfl, (unhide HPx).mono⟩
    · have hlt' : ¬ (i : Int) < (n : Int) := by omega
      go_wp2_with fail
      go_ret
      exact ⟨rfl, (unhide HPl).bel⟩
end Go.Proofs.YtikiaijgcjjloaaGreatDoor

/- What the rows' listed tables give the walks; the witness' start. -/
namespace Go.Proofs.YtikiaijgcjjloaaGreatDoor
open Go Go.ChangeShapes Go.WideShapes Go.ChangeAt Go.WideMaps Go.WideElems Go.RowKit

theorem own : ownKnob Tryz.prog.godebug = none := by kernel_rfl
def laid3 : List (String × DataW Unit) := [("math/bits.deBruijn32tab", Rows.laid_math_bits_deBruijn32tab), ("math/bits.deBruijn64tab", Rows.laid_math_bits_deBruijn64tab), ("internal/strconv.uint64pow10", Rows.laid_internal_strconv_uint64pow10)]
theorem gPow : Tryz.prog.globalNamed "internal/strconv.uint64pow10" = some 0 := by kernel_rfl
theorem tPow : (Tryz.prog.globals[0]?).map (·.type) = some 183 := by kernel_rfl
theorem dPow : (Rows.laid_internal_strconv_uint64pow10 : DataW Unit) = Lib.tabData .u64 Lib.pow10Tab := by kernel_rfl

set_option maxRecDepth 100000 in
theorem door_met (os : Os) (args : Array Value) : laidMetH Tryz.prog laid3 ((World.doorLaid Tryz.prog 400 os).forCall (fun _ _ => 0) ⟨#[], args, []⟩).memory :=
  laidMetH_of_parts3 (fuel := 8) (laidMet_of_run' 8 (by kernel_rfl) (by kernel_rfl)) (by kernel_rfl) (by kernel_rfl)

theorem tab_of_laid {W : World} (h : laidMetH Tryz.prog laid3 W) : Tab W := by
  rw [MakeChecks.laidMetH_plain _ _ _ (by kernel_rfl)] at h
  obtain ⟨ps, ⟨g0, t0, cs0, f0, p0, q0, hg0, ht0, hv0, hd0, ⟨g1, t1, cs1, f1, p1, q1, hg1, ht1, hv1, hd1, ⟨g2, t2, cs2, f2, p2, q2, hg2, ht2, hv2, hd2, _, _⟩, _⟩, _⟩, _, _⟩ := h
  obtain rfl := Option.some.inj (gPow.symm.trans hg2)
  obtain rfl := Option.some.inj (tPow.symm.trans ht2)
  rw [dPow] at hd2
  unfold Tab Lib.TabIs
  rw [hv2, ← Lib.cells_of_tab Tryz.underlying183 Tryz.underlying139 (by kernel_rfl) (by kernel_rfl) hd2]
end Go.Proofs.YtikiaijgcjjloaaGreatDoor

/- The law on terms: her walk, and how a script is opened. -/
namespace Go.Proofs.YtikiaijgcjjloaaGreatDoor
open Go Go.RowKit M T Go.Lib

set_option maxRecDepth 100000 in
set_option maxHeartbeats 400000 in
theorem terms_walk {w : World} {ao : Option Addr} {n cap : Nat} {os : Nat → OpC} (hsc : ScIs w w.heap.size ao n os) (hn : (n + 2) * 32 ≤ 140737488355328) (ht : Tab w) :
    Calls Tryz.prog 3 #[.slice ao n cap] w fun e w' => e = .returned (.bool true) ∧ Below w.heap.size w w' := by
  have HSc := hide hsc
  have HT := hide ht
  clear hsc ht
  go_enter Tryz.func3, Tryz.ntmps3
  go_wp2_with fail
  refine (played_terms (cap := cap) (unhide HSc) hn (unhide HT)).mono ?_
  rintro e w1 ⟨rfl, hb⟩
  go_wp2_with fail
  go_ret
  exact ⟨rfl, hb⟩

def op0 : OpC := ⟨0, 0, 0, ⟨#[]⟩, ⟨#[]⟩⟩
theorem Tryz.cellsOp : Tryz.prog.cellsOf 54 = 5 := by kernel_rfl
theorem Tryz.cellsInt : Tryz.prog.cellsOf 3 = 1 := by kernel_rfl
theorem Tryz.cellsStr : Tryz.prog.cellsOf 9 = 1 := by kernel_rfl
theorem Tryz.bytesOp : Tryz.prog.bytesOf 54 = 56 := by kernel_rfl
set_option maxRecDepth 100000 in
/-- A script, opened. -/
theorem open_script {H : Type} {enc : TypeId × Value → H} {W : World} {base : Nat} {v : Value} {d : DataW H} {p : List MemPlace} (hval : Value.okWide Tryz.prog W .any base 22 v) (h : DataW.Trod enc Tryz.prog W 0 (fun _ => true) true 22 v d p)
    (hsz : (DataW.weightsEach Tryz.prog [22] [d]).all (· ≤ reachBytes) = true) :
    ∃ (ao : Option Addr) (n cap : Nat) (os : Nat → OpC), v = .slice ao n cap ∧ ScIs W W.heap.size ao n os ∧ (n + 2) * 32 ≤ 140737488355328 := by
  obtain ⟨ao, len0, cap0, rfl⟩ := Go.WideShapes.okWide_slice Tryz.underlying22 hval
  obtain ⟨fuel, hf⟩ := h
  rcases Go.Deep.open_slice Tryz.underlying22 hf with ⟨hc, hx⟩ | ⟨a, len, cap, m, k, D, Pl, hc, _, hl, hm, hmm, hx, hall⟩
  · simp [Value.cells] at hc
    obtain ⟨rfl, rfl, rfl⟩ := hc
    exact ⟨none, 0, 0, fun _ => op0, rfl, ⟨fun h => absurd h (Nat.lt_irrefl 0), fun i h => absurd h (Nat.not_lt_zero i)⟩, by omega⟩
  · simp [Value.cells] at hc
    obtain ⟨rfl, rfl, rfl⟩ := hc
    simp only [if_true] at hmm
    subst hmm
    simp only [Prod.mk.injEq] at hx
    have hw := sized_slice hsz (j := 0) rfl (by rw [hx.1]; rfl) Tryz.underlying22
    rw [List.length_map, List.length_map, List.length_range, List.length_range, Tryz.bytesOp] at hw
    have hrb : reachBytes = 140737488351232 := rfl
    rw [hrb] at hw
    have each : ∀ i, i < len0 → ∃ o : OpC, (W.cell? (a.add (i * 5)) = some (.int .i64 o.K) ∧ W.cell? ⟨(a.add (i * 5)).block, (a.add (i * 5)).off + 1, none⟩ = some (.int .i64 o.On) ∧ W.cell? ⟨(a.add (i * 5)).block, (a.add (i * 5)).off + 2, none⟩ = some (.int .i64 o.A) ∧ W.cell? ⟨(a.add (i * 5)).block, (a.add (i * 5)).off + 3, none⟩ = some (.string o.S) ∧ W.cell? ⟨(a.add (i * 5)).block, (a.add (i * 5)).off + 4, none⟩ = some (.string o.X)) ∧ -9223372036854775808 ≤ o.On ∧ o.On ≤ 9223372036854775807 := by
      intro i hi
      obtain ⟨cs', h1, h2⟩ := hall i (by omega)
      rw [Tryz.cellsOp] at h1
      obtain ⟨_, hlen, hcell⟩ := World.cells?_some h1
      obtain ⟨xs, n', _, _, _, hxl, hfs⟩ := DataW.trod_struct Tryz.underlying54 h2
      match cs', hlen with
      | [v0, v1, v2, v3, v4], _ =>
        match xs, hxl with
        | [y0, y1, y2, y3, y4], _ =>
          have g0 := hfs 0 _ rfl
          have g1 := hfs 1 _ rfl
          have g2 := hfs 2 _ rfl
          have g3 := hfs 3 _ rfl
          have g4 := hfs 4 _ rfl
          simp [Tryz.cellsInt, Tryz.cellsStr] at g0 g1 g2 g3 g4
          obtain ⟨k0, e0, _, _⟩ := DataW.trod_int Tryz.underlying3 g0
          obtain ⟨k1, e1, _, w1⟩ := DataW.trod_int Tryz.underlying3 g1
          obtain ⟨k2, e2, _, _⟩ := DataW.trod_int Tryz.underlying3 g2
          obtain ⟨s3, e3, _, _⟩ := DataW.trod_string Tryz.underlying9 g3
          obtain ⟨s4, e4, _, _⟩ := DataW.trod_string Tryz.underlying9 g4
          simp only [List.cons.injEq, and_true] at e0 e1 e2 e3 e4
          subst e0 e1 e2 e3 e4
          have c0 := hcell 0 (by omega)
          have c1 := hcell 1 (by omega)
          have c2 := hcell 2 (by omega)
          have c3 := hcell 3 (by omega)
          have c4 := hcell 4 (by omega)
          simp [Addr.add] at c0 c1 c2 c3 c4
          exact ⟨⟨k0, k1, k2, s3, s4⟩, ⟨by simpa [Addr.add] using c0, by simpa [Addr.add] using c1, by simpa [Addr.add] using c2, by simpa [Addr.add] using c3, by simpa [Addr.add] using c4⟩, bounds_i64 w1⟩
    have : Inhabited OpC := ⟨op0⟩
    obtain ⟨os, hos⟩ := Go.Deep.choose_lt each
    refine ⟨some a, len0, _, os, rfl, ⟨fun hp => ⟨a, rfl, ?_, fun i hi => (hos i hi).1⟩, fun i hi => (hos i hi).2⟩, by omega⟩
    have hb := World.block_lt_of_cell? W _ (hos 0 hp).1.1
    rw [show (a.add (0 * 5)).block = a.block from by unfold Addr.add; split <;> rfl] at hb
    exact hb
end Go.Proofs.YtikiaijgcjjloaaGreatDoor

import Derived.Test.YtikiaijgcjjloaaGreatDoorPart22
import Derived.Test.YtikiaijgcjjloaaGreatDoorPart21

/- The walks: the opposite of a term. -/
namespace Go.Proofs.YtikiaijgcjjloaaGreatDoor
open Go Go.RowKit M T Go.Lib

/-- The opposites of the last j parts, the last first. -/
def bk (ps : List Pt) (j : Nat) : List Pt := (ps.reverse.take j).map Pt.opp
theorem bk_zero (ps : List Pt) : bk ps 0 = [] := by unfold bk; simp
theorem bk_step (ps : List Pt) (j : Nat) (hj : j < ps.length) : bk ps (j + 1) = bk ps j ++ [(ps[ps.length - 1 - j]'(by omega)).opp] := by
  unfold bk
  rw [List.take_succ_eq_append_getElem (by simpa using hj), List.map_append, List.getElem_reverse]
  simp only [List.map_cons, List.map_nil]
theorem bk_step' (ps : List Pt) (i j : Nat) (h : i + j + 1 = ps.length) : bk ps (j + 1) = bk ps j ++ [(ps[i]'(by omega)).opp] := by
  rw [bk_step ps j (by omega)]
  have e : ps.length - 1 - j = i := by omega
  simp only [e]
theorem bk_all (ps : List Pt) (j : Nat) (hj : ps.length ≤ j) : Tm.of (bk ps j) = (Tm.of ps).opp := by
  unfold bk
  rw [List.take_of_length_le (by simpa using hj), Tm.opp_of]
theorem bk_len (ps : List Pt) (j : Nat) : (bk ps j).length ≤ ps.length := by
  unfold bk
  simp
  omega
/-- What the loop over the parts keeps. -/
structure OR (B : Nat) (ps : List Pt) (w : World) (j : Nat) (sl : Value) (ys : List PC) (wr : World) : Prop where
  bel : Below w.heap.size w wr
  tb : TB (w.heap.size + 1) wr w.heap.size (bk ps j) sl ys
  parts : PsIs (fun k => (k < B ∨ w.heap.size + 1 ≤ k) ∧ sl.ownBlock ≠ some k) wr ys (Tm.of (bk ps j))
theorem OR.out {B : Nat} {ps : List Pt} {w : World} {j : Nat} {sl : Value} {ys : List PC} {wr : World} (h : OR B ps w j sl ys wr) (hj : ps.length ≤ j) : TmIs (Okw B w) wr w.heap.size (Tm.of ps).opp := by
  rw [← bk_all ps j hj]
  refine ⟨sl, ys, ⟨Or.inr (Nat.le_refl _), h.tb.blk, ⟨h.tb.row.1, ?_⟩, fun g hg => Or.inr ?_⟩, PsIs.keeps (fun k hk _ => ⟨rfl, ?_⟩) _ _ h.parts⟩
  · rcases h.tb.row.2 with h2 | ⟨g, cap, cur, hv, hg, r⟩
    · exact Or.inl h2
    · exact Or.inr ⟨g, cap, cur, hv, Nat.zero_le _, r⟩
  · have := (h.tb.row.lt g hg).1; omega
  · exact hk.1.imp id (fun h => by omega)
theorem OR.okp {B : Nat} {ps : List Pt} {w : World} {j : Nat} {sl : Value} {ys : List PC} {wr : World} (h : OR B ps w j sl ys wr) (hB : B ≤ w.heap.size) : ∀ k, Okw B wr k → k ≠ w.heap.size ∧ sl.ownBlock ≠ some k := by
  have hl := lt_of_block h.tb.blk
  intro k hk
  refine ⟨by rcases hk with hk | hk <;> omega, fun e => ?_⟩
  have := h.tb.row.lt k e
  rcases hk with hk | hk <;> omega
theorem owns_belowP {w w1 : World} {B : Nat} {e : TypeId} {size : Nat} {v : Value} {n : Nat} {xs : List Value} (h : w.ownsRow B e size v n xs) (hb : Below w.heap.size w w1) : w1.ownsRow B e size v n xs := by
  refine ⟨h.1, ?_⟩
  rcases h.2 with h2 | ⟨g, cap, cur, hv, hg, hh, r⟩
  · exact Or.inl h2
  · exact Or.inr ⟨g, cap, cur, hv, hg, by rw [hb.block g (lt_of_block hh)]; exact hh, r⟩
theorem OR.mid {B : Nat} {ps : List Pt} {w : World} {j : Nat} {sl : Value} {ys : List PC} {wr w2 : World} (h : OR B ps w j sl ys wr) (hb2 : Below wr.heap.size wr w2) (o : Obj) : TB (w.heap.size + 1) (w2.alloc o) w.heap.size (bk ps j) sl ys := by
  have hl := lt_of_block h.tb.blk
  have hs := hb2.size
  have hle := h.tb.le
  refine ⟨?_, (owns_belowP h.tb.row hb2).alloc o, h.tb.lt, by simp; omega⟩
  rw [Below.heap_alloc _ _ _ (by omega), hb2.block _ hl]
  exact h.tb.blk
theorem OR.next {B : Nat} {ps : List Pt} {w : World} {j : Nat} {sl : Value} {ys : List PC} {wr w2 w3 : World} (h : OR B ps w j sl ys wr) (hB : B ≤ w.heap.size) {p : Pt} {x : PC} {o : Obj} {sl' : Value} (hb : Below wr.heap.size wr w2) (hbk : bk ps (j + 1) = bk ps j ++ [p]) (hx : PtIs (Okw B wr) w2 x p) (hc : Chg w.heap.size sl (w2.alloc o) w3) (ht : TB (w.heap.size + 1) w3 w.heap.size (bk ps j ++ [p]) sl' (ys ++ [x])) (hw : sl'.ownBlock = sl.ownBlock ∨ ∀ g, sl'.ownBlock = some g → (w2.alloc o).heap.size ≤ g) : OR B ps w (j + 1) sl' (ys ++ [x]) w3 := by
  have hl := lt_of_block h.tb.blk
  have hs1 : wr.heap.size ≤ w2.heap.size := hb.size
  have hs2 : (w2.alloc o).heap.size = w2.heap.size + 1 := by simp
  have hrow : ∀ k, sl.ownBlock = some k → w.heap.size + 1 ≤ k ∧ k < wr.heap.size := fun k hk => h.tb.row.lt k hk
  have hold : ∀ k, k < w2.heap.size → k ≠ w.heap.size → sl.ownBlock ≠ some k → w3.heap[k]? = w2.heap[k]? := fun k hk h1 h2 => by
    rw [hc.block k (by omega) h1 h2, Below.heap_alloc _ _ _ hk]
  refine ⟨?_, by rw [hbk]; exact ht, ?_⟩
  · have hb' := h.bel.trans (hb.mono h.bel.size)
    refine ⟨hc.os.trans hb'.os, hc.tape.trans hb'.tape, hc.output.trans hb'.output, Nat.le_trans (Nat.le_trans hb'.size (by omega)) hc.size, fun k hk => ?_⟩
    rw [hold k (by have := hb'.size; omega) (by omega) (fun e => by have := hrow k e; omega)]
    exact hb'.block k hk
  · rw [hbk]
    refine PsIs.of_snoc _ ys p x (PsIs.keeps (fun k hk hkl => ?_) _ _ h.parts) (PtIs.keeps (fun k hk hkl => ?_) _ _ hx)
    · obtain ⟨hk1, hk2⟩ := hk
      have hktb : k ≠ w.heap.size := by rcases hk1 with hk1 | hk1 <;> omega
      refine ⟨(hold k (by omega) hktb hk2).trans (hb.block k hkl), hk1, fun e => ?_⟩
      rcases hw with hw | hw
      · rw [hw] at e; exact hk2 e
      · have := hw k e; omega
    · obtain ⟨hk1, hk2⟩ := h.okp hB k hk
      refine ⟨hold k hkl hk1 hk2, hk.imp id (fun h => by omega), fun e => ?_⟩
      rcases hw with hw | hw
      · rw [hw] at e; exact hk2 e
      · have := hw k e; omega
theorem all_back (ps : List Pt) (h : (Tm.of ps).back = true) : ∀ p ∈ ps, p.back = true := by
  induction ps with
  | nil => intro p hp; cases hp
  | cons q ps ih =>
    rw [Tm.of, Tm.back, Bool.and_eq_true] at h
    intro p hp
    rcases List.mem_cons.1 hp with e | hp
    · rw [e]; exact h.1
    · exact ih h.2 p hp

set_option maxRecDepth 100000 in
set_option maxHeartbeats 3200000 in
theorem opp_loop (ps : List Pt) (hP : ∀ p ∈ ps, PtOpp p) (hw : ∀ p ∈ ps, p.wf) (hbk : (Tm.of ps).back = true) (hl : ps.length ≤ 1000) (B : Nat) (b : Nat) (w : World) (hB : B ≤ w.heap.size) (h : TmIs (fun k => k < B) w b (Tm.of ps)) :
    Calls Tryz.prog 65 #[.pointer (some ⟨b, 0, none⟩)] w fun e w' => ∃ tb, e = .returned (.tuple #[.pointer (some ⟨tb, 0, none⟩), .bool true]) ∧ TmIs (Okw B w) w' tb (Tm.of ps).opp ∧ Below w.heap.size w w' := by
  obtain ⟨sl, xs, hd, hps⟩ := h
  have hlen := PsIs.length ps xs hps
  have hbB : b < B := hd.ok
  have hcb : ∀ i, w.cell? ⟨b, i, none⟩ = (#[sl, .bool true, .bool (Tm.of ps).picker, .bool (Tm.of ps).plain] : Array Value)[i]? := fun i => by rw [blk_cell hd.blk, hbk]
  have hc1 : w.cell? ⟨b, 1, none⟩ = some (.bool true) := hcb 1
  have hc0 : w.cell? ⟨b, 0, none⟩ = some sl := hcb 0
  have hblt : b < w.heap.size := by omega
  have HD := hide hd
  have HPS := hide hps
  have HP := hide hP
  have HW := hide hw
  have HBK := hide (all_back ps hbk)
  have HLen := hide hlen
  have HS : Hid (OR B ps w 0 (.slice none 0 0) [] (w.alloc (.cells #[.slice none 0 0, .bool true, .bool true, .bool true] 75))) := by
    refine ⟨below_box _, ?_, ?_⟩
    · rw [bk_zero]; exact new_TB w
    · rw [bk_zero, Tm.of, PsIs]
  have hsl : (∃ g cap, sl = .slice (some ⟨g, 0, none⟩) xs.length cap ∧ g < w.heap.size) ∨ (sl = .slice none 0 0 ∧ xs.length = 0) := by
    rcases hd.row.2 with ⟨h1, h2⟩ | ⟨g, cap, cur, hv, _, hh, _⟩
    · exact Or.inr ⟨h1, h2⟩
    · exact Or.inl ⟨g, cap, hv, lt_of_block hh⟩
  obtain ⟨ao, cap, hsv⟩ : ∃ ao cap, sl = .slice ao xs.length cap := by
    rcases hsl with ⟨g, cap, e, _⟩ | ⟨e, h0⟩
    · exact ⟨_, _, e⟩
    · exact ⟨none, 0, by rw [e, h0]⟩
  have HSL := hide hsl
  have hxl : xs.length ≤ 1000 := by omega
  subst hsv
  clear hd hps hP hw hbk hlen hsl hcb hl
  go_enter Tryz.func65, Tryz.ntmps65
  go_wp2_with fail
  refine (newTerm_any _).mono ?_
  rintro e w1 ⟨rfl, rfl⟩
  go_wp2_with fail
  go_loopg [5] xs.length (fun k v wr => ∃ (m j : Nat) (sl' : Value) (ys : List PC), m + j = xs.length ∧ k = m ∧ v = .int .i64 ((m : Int) - 1) ∧ ys.length = j ∧ OR B ps w j sl' ys wr)
  case atStart => exact ⟨xs.length, 0, .slice none 0 0, [], by omega, rfl, rfl, rfl, unhide HS⟩
  case round =>
    obtain ⟨m, j, sl', ys, hmj, hk, hv, hyl, hR⟩ := hrel
    have HR := hide hR
    have HK := hide hk
    clear hk hR HS
    cases m with
    | zero =>
      have hv' : _ = Value.int .i64 (-1) := hv
      subst hv'
      go_wp2_with fail
      exact bodyPost_ret (v := .tuple #[.pointer (some ⟨w.heap.size, 0, none⟩), .bool true]) (by simp [results, Tryz.results65, go_sem]) rfl ⟨w.heap.size, rfl, (unhide HR).out (by have := unhide HLen; omega), (unhide HR).bel⟩
    | succ i =>
      have hv' : _ = Value.int .i64 (i : Int) := hv.trans (congrArg (Value.int .i64) (by omega))
      subst hv'
      have hip : i < ps.length := by have := unhide HLen; omega
      have hix : i < xs.length := by omega
      obtain ⟨g, cap2, hsv2, hg⟩ : ∃ g cap2, Value.slice ao xs.length cap = .slice (some ⟨g, 0, none⟩) xs.length cap2 ∧ g < w.heap.size := by
        rcases unhide HSL with h | ⟨_, h⟩
        · exact h
        · omega
      cases hsv2
      have hbel := (unhide HR).bel
      have hc0r : wr.cell? ⟨b, 0, none⟩ = some (.slice (some ⟨g, 0, none⟩) xs.length cap) := (hbel.cell (p := ⟨b, 0, none⟩) hblt).trans hc0
      have hcell : ∀ l, l < 8 → wr.cell? ⟨g, i * 8 + l, none⟩ = (xs[i].cells)[l]? := fun l hl => (hbel.cell (p := ⟨g, i * 8 + l, none⟩) hg).trans (row_cell (unhide HD).row hix l hl)
      have hpt := PsIs.get ps xs (unhide HPS) i hip hix
      have HST := hide (bk_step' ps i j (by have := unhide HLen; omega))
      have HC := hide (unhide HP ps[i] (List.getElem_mem hip) (unhide HW _ (List.getElem_mem hip)) (unhide HBK _ (List.getElem_mem hip)) B)
      generalize xs[i] = x at hcell hpt
      generalize ps[i] = p at hpt HST HC
      obtain ⟨L, N, K, Tp, Bt, pa, pn, pc, Bo, Ov⟩ := x
      have c0 : wr.cell? ⟨g, i * 8, none⟩ = some (.int .u8 (L.toNat : Int)) := hcell 0 (by omega)
      have c1 : wr.cell? ⟨g, i * 8 + 1, none⟩ = some (.int .u8 (N.toNat : Int)) := hcell 1 (by omega)
      have c2 : wr.cell? ⟨g, i * 8 + 2, none⟩ = some (.int .i64 K) := hcell 2 (by omega)
      have c3 : wr.cell? ⟨g, i * 8 + 3, none⟩ = some (.int .i64 Tp) := hcell 3 (by omega)
      have c4 : wr.cell? ⟨g, i * 8 + 4, none⟩ = some (.int .i64 Bt) := hcell 4 (by omega)
      have c5 : wr.cell? ⟨g, i * 8 + 5, none⟩ = some (.slice pa pn pc) := hcell 5 (by omega)
      have c6 : wr.cell? ⟨g, i * 8 + 6, none⟩ = some (.pointer (Bo.map fun b => ⟨b, 0, none⟩)) := hcell 6 (by omega)
      have c7 : wr.cell? ⟨g, i * 8 + 7, none⟩ = some (.pointer (Ov.map fun b => ⟨b, 0, none⟩)) := hcell 7 (by omega)
      have HPT := hide hpt
      have HBe := hide hbel
      have hszr := hbel.size
      clear hcell hpt hbel hv
      go_wp2_with fail
      refine (unhide HC ⟨L, N, K, Tp, Bt, pa, pn, pc, Bo, Ov⟩ _ (by omega) (PtIs.keeps (fun k hk hkl => ⟨(unhide HBe).block k hkl, hk⟩) _ _ (unhide HPT))).mono ?_
      rintro e w2 ⟨⟨L', N', K', T', B', a', n', c', b', o'⟩, rfl, hp2, hb2⟩
      rw [(show PC.value ⟨L', N', K', T', B', a', n', c', b', o'⟩ = .agg #[.int .u8 (L'.toNat : Int), .int .u8 (N'.toNat : Int), .int .i64 K', .int .i64 T', .int .i64 B', .slice a' n' c', .pointer (b'.map fun b => ⟨b, 0, none⟩), .pointer (o'.map fun b => ⟨b, 0, none⟩)] from rfl)]
      have HP2 := hide hp2
      have HB2 := hide hb2
      clear hp2 hb2
      go_wp2_with fail
      refine (add_any (x := ⟨L', N', K', T', B', a', n', c', b', o'⟩) (Ok := Okw B wr) ((unhide HR).mid (unhide HB2) _) (PtIs.keeps (fun k hk hl => ⟨Below.heap_alloc _ _ _ hl, hk⟩) _ _ (unhide HP2)) ((unhide HR).okp hB) (by omega)).mono ?_
      rintro e w3 ⟨rfl, hchg, sl2, htb, hwh⟩
      have HN3 := hide ((unhide HR).next hB (unhide HB2) (unhide HST) (unhide HP2) hchg htb hwh)
      clear hchg htb hwh
      go_wp2_with fail
      go_roundg i
      case measure => rw [unhide HK]; omega
      case rel => exact ⟨i, j + 1, sl2, ys ++ [⟨L', N', K', T', B', a', n', c', b', o'⟩], by omega, rfl, rfl, by rw [List.length_append, hyl]; rfl, unhide HN3⟩
theorem oppAt_of {f : Tm} (hP : ∀ p ∈ f.parts, PtOpp p) (hw : f.wf) (hb : f.back = true) (hl : f.text.length ≤ 1000) {B b : Nat} {w : World} (hB : B ≤ w.heap.size) (h : TmIs (fun k => k < B) w b f) : OppAt b f B w := by
  intro w' hbel
  have e := Tm.of_parts f
  have hw' : (Tm.of f.parts).wf := by rw [e]; exact hw
  have key : ∀ qs : List Pt, qs.length ≤ (Tm.of qs).text.length := by
    intro qs
    induction qs with
    | nil => simp
    | cons q qs ih =>
      obtain ⟨l, e⟩ := Pt.text_first q
      rw [Tm.of, Tm.text, e, List.length_append, List.length_cons, List.length_cons]
      omega
  have hpl := key f.parts
  rw [e] at hpl
  have := opp_loop f.parts hP ((Tm.of_wf f.parts).1 hw') (by rw [e]; exact hb) (by omega) B b w' (Nat.le_trans hB hbel.size) (by rw [e]; exact h.keeps (fun k hk hkl => ⟨hbel.block k hkl, hk⟩))
  rw [e] at this
  exact this
def PtOppL (p : Pt) : Prop := p.text.length ≤ 1000 → PtOpp p
theorem part_len (f : Tm) : ∀ p ∈ f.parts, p.text.length ≤ f.text.length := by
  intro p hp
  obtain ⟨i, hi, rfl⟩ := List.getElem_of_mem hp
  have := text_get_len f.parts i hi
  rw [Tm.of_parts] at this
  exact this
mutual
theorem Pt.opp_call : ∀ p : Pt, PtOppL p
  | .sp y => by
    intro hl hw hb B x w hB h
    obtain ⟨L, N, K, Tp, Bt, pa, pn, pc, Bo, Ov⟩ := x
    have h1 : L = y.first := by rw [PtIs] at h; exact h.1
    subst h1
    rw [Pt.wf] at hw
    cases y with
    | n => exact opp_n hb hB h
    | v => exact opp_v hb hB h
    | q => exact opp_q hb hB h
    | w => exact opp_w hb hB h
    | u => exact opp_u hb hB h
    | r => exact opp_r hb hB h
    | s => exact opp_s hb hB h
    | z => exact opp_z hb hB h
    | p => exact opp_p hb hB h
    | m => exact opp_m hb hB h
    | o => exact opp_o hb hB h
    | plus c => exact opp_plus hw hb hB h
    | times c => exact opp_times hw hb hB h
    | shift k => exact opp_shift hw.1 hw.2 hb hB h
    | a => rw [Pt.back] at hb; cases hb
    | set c => rw [Pt.back] at hb; cases hb
    | take k => rw [Pt.back] at hb; cases hb
    | drop k => rw [Pt.back] at hb; cases hb
    | pick ps => rw [Pt.back] at hb; cases hb
  | .pow f k => by
    intro hl hw hb B x w hB h
    obtain ⟨L, N, K, Tp, Bt, pa, pn, pc, Bo, Ov⟩ := x
    obtain ⟨h1, h2, b, h3, h4⟩ := PtIs.pow_iff.1 h
    have h1' : L = 40 := h1
    have h3' : Bo = some b := h3
    subst h1' h3'
    rw [Pt.wf] at hw
    exact opp_pow hw.2.1 hw.2.2 hb hB h
  | .under s g => by
    intro hl hw hb B x w hB h
    obtain ⟨L, N, K, Tp, Bt, pa, pn, pc, Bo, Ov⟩ := x
    obtain ⟨h1, ⟨b, h3, h4⟩, b', h5, h6⟩ := PtIs.under_iff.1 h
    have h1' : L = 91 := h1
    have h3' : Bo = some b := h3
    have h5' : Ov = some b' := h5
    subst h1' h3' h5'
    have hw2 := hw
    rw [Pt.wf] at hw2
    have hb2 := hb
    rw [Pt.back, Bool.and_eq_true] at hb2
    have hgl : g.text.length ≤ 1000 := by rw [Pt.text] at hl; simp at hl; omega
    exact opp_under hb hB (oppAt_of (fun p hp => Tm.opp_all g p hp (Nat.le_trans (part_len g p hp) hgl)) hw2.2 hb2.1 hgl hB h4) h
  | .name c t => by
    intro hl hw hb B x w hB h
    obtain ⟨L, N, K, Tp, Bt, pa, pn, pc, Bo, Ov⟩ := x
    have h1' : L = 65 := (PtIs.name_iff.1 h).1
    subst h1'
    exact opp_name hb hB h
theorem Tm.opp_all : ∀ t : Tm, ∀ p ∈ t.parts, PtOppL p
  | .nil => fun p h => by rw [Tm.parts] at h; cases h
  | .cons q t => fun p h => by
    rw [Tm.parts] at h
    rcases List.mem_cons.1 h with e | h
    · rw [e]; exact Pt.opp_call q
    · exact Tm.opp_all t p h
end
/-- The opposite of a term in memory. -/
theorem tOpp_any {t : Tm} (hw : t.wf) (hb : t.back = true) (hl : t.text.length ≤ 1000) {b : Nat} {w : World} {Ok : Nat → Prop} (h : TmIs Ok w b t) : Calls Tryz.prog 65 #[.pointer (some ⟨b, 0, none⟩)] w fun e w' => ∃ tb, e = .returned (.tuple #[.pointer (some ⟨tb, 0, none⟩), .bool true]) ∧ TmIs (Okw w.heap.size w) w' tb t.opp ∧ Below w.heap.size w w' :=
  oppAt_of (fun p hp => Tm.opp_all t p hp (Nat.le_trans (part_len t p hp) hl)) hw hb hl (Nat.le_refl _) (h.keeps (fun _ _ hkl => ⟨rfl, hkl⟩)) w (Below.refl _ _)
end Go.Proofs.YtikiaijgcjjloaaGreatDoor

/- The walks: the program's Opposite. -/
namespace Go.Proofs.YtikiaijgcjjloaaGreatDoor
open Go Go.RowKit M T Go.Lib

set_option maxRecDepth 100000 in
set_option maxHeartbeats 800000 in
theorem tOpp_no {t : Tm} (hb : t.back = false) {b : Nat} {w : World} {Ok : Nat → Prop} (h : TmIs Ok w b t) : Calls Tryz.prog 65 #[.pointer (some ⟨b, 0, none⟩)] w fun e w' => e = .returned (.tuple #[.pointer none, .bool false]) ∧ Below w.heap.size w w' := by
  have hc := h.cells.2.1
  rw [hb] at hc
  clear h hb
  go_enter Tryz.func65, Tryz.ntmps65
  go_wp2_with fail
  exact bodyPost_ret (v := .tuple #[.pointer none, .bool false]) (by simp [results, Tryz.results65, go_sem]) rfl ⟨rfl, (by repeat (first | exact Below.refl _ _ | refine below_dr ?_ _ | refine Below.drew ?_ | refine Below.setCell ?_ (by simp) _ | refine Below.alloc ?_ (by simp) _))⟩
end Go.Proofs.YtikiaijgcjjloaaGreatDoor

/- Lists of the program: rows of numbers, and how they are made. -/
namespace Go.Proofs.YtikiaijgcjjloaaGreatDoor
open Go Go.RowKit M T Go.Lib

def qcells (x : Rat) : List Value := [.int .i64 x.num, .int .i64 (x.den : Int)]
def nrow (l : List Rat) : List Value := (l.map qcells).flatten
theorem nrow_snoc (l : List Rat) (x : Rat) : nrow l ++ qcells x = nrow (l ++ [x]) := by unfold nrow; simp
theorem nrow_length (l : List Rat) : (nrow l).length = l.length * 2 := by
  induction l with
  | nil => rfl
  | cons x xs ih =>
    have : nrow (x :: xs) = qcells x ++ nrow xs := rfl
    rw [this, List.length_append, ih, List.length_cons]
    show 2 + _ = _
    omega
theorem one_qcells (x : Rat) : ∀ u ∈ qcells x, u.oneCell' = true := by
  intro u hu
  simp only [qcells, List.mem_cons, List.not_mem_nil, or_false] at hu
  rcases hu with rfl | rfl <;> rfl
theorem Tryz.infoNumber : (Tryz.prog.info? 91).map (fun i => (i.zero, i.size, i.bytes)) = some (some (.agg #[.int .i64 0, .int .i64 0]), 2, 16) := by kernel_rfl
/-- A row's items, by their places. -/
theorem nrow_cell {w : World} {B g n cap : Nat} {l : List Rat} (h : w.ownsRow B 91 2 (.slice (some ⟨g, 0, none⟩) n cap) l.length (nrow l)) {j : Nat} (hj : j < l.length) : w.cell? ⟨g, j * 2, none⟩ = some (.int .i64 l[j].num) ∧ w.cell? ⟨g, j * 2 + 1, none⟩ = some (.int .i64 (l[j].den : Int)) := by
  have key : ∀ (ys : List Rat) (j : Nat) (hj : j < ys.length), (nrow ys)[j * 2]? = some (.int .i64 ys[j].num) ∧ (nrow ys)[j * 2 + 1]? = some (.int .i64 (ys[j].den : Int)) := by
    intro ys
    induction ys with
    | nil => intro j hj; simp at hj
    | cons y ys ih =>
      intro j hj
      have e : nrow (y :: ys) = .int .i64 y.num :: .int .i64 (y.den : Int) :: nrow ys := rfl
      cases j with
      | zero => rw [e]; exact ⟨rfl, rfl⟩
      | succ j =>
        rw [e, show (j + 1) * 2 = j * 2 + 1 + 1 by omega, show j * 2 + 1 + 1 + 1 = (j * 2 + 1) + 1 + 1 by omega]
        simp only [List.getElem?_cons_succ, List.getElem_cons_succ]
        exact ih j (by simpa using hj)
  have k := key l j hj
  have a1 := h.cells (g := g) rfl (j * 2) _ k.1
  have a2 := h.cells (g := g) rfl (j * 2 + 1) _ k.2
  rw [show (⟨g, 0, none⟩ : Addr).add (j * 2) = ⟨g, j * 2, none⟩ from by unfold Addr.add; split <;> simp_all] at a1
  rw [show (⟨g, 0, none⟩ : Addr).add (j * 2 + 1) = ⟨g, j * 2 + 1, none⟩ from by unfold Addr.add; split <;> simp_all] at a2
  exact ⟨a1, a2⟩
/-- A list that is handed in. -/
structure LIs (w : World) (g cap : Nat) (l : List Rat) : Prop where
  own : w.ownsRow 0 91 2 (.slice (some ⟨g, 0, none⟩) l.length cap) l.length (nrow l)
  small : AllS l
  len : l.length ≤ 1000
theorem LIs.below {w w' : World} {g cap : Nat} {l : List Rat} (h : LIs w g cap l) (hb : Below w.heap.size w w') : LIs w' g cap l := ⟨owns_belowP h.own hb, h.small, h.len⟩
theorem LIs.lt {w : World} {g cap : Nat} {l : List Rat} (h : LIs w g cap l) : g < w.heap.size := (h.own.lt g rfl).2
theorem LIs.cell {w : World} {g cap : Nat} {l : List Rat} (h : LIs w g cap l) {j : Nat} (hj : j < l.length) : w.cell? ⟨g, j * 2, none⟩ = some (.int .i64 l[j].num) ∧ w.cell? ⟨g, j * 2 + 1, none⟩ = some (.int .i64 (l[j].den : Int)) := nrow_cell h.own hj
/-- A list while it is made. -/
structure MkIs (w0 : World) (v : Value) (ys : List Rat) (wr : World) : Prop where
  own : wr.ownsRow w0.heap.size 91 2 v ys.length (nrow ys)
  bel : Below w0.heap.size w0 wr
theorem MkIs.start (w : World) : MkIs w (.slice (some ⟨w.heap.size, 0, none⟩) 0 0) [] (w.alloc (.cells #[] 91)) := ⟨World.ownsRow_made w #[] 0 (Nat.le_refl _) (Nat.zero_le _) rfl, (Below.refl _ _).alloc (Nat.le_refl _) _⟩
theorem MkIs.start' {w : World} {k : Nat} (e : w.heap.size = k) : MkIs w (.slice (some ⟨k, 0, none⟩) 0 0) [] (w.alloc (.cells #[] 91)) := by
  subst e
  exact MkIs.start w
theorem MkIs.below {w0 wr wr' : World} {v : Value} {ys : List Rat} (h : MkIs w0 v ys wr) (hb : Below wr.heap.size wr wr') : MkIs w0 v ys wr' := ⟨owns_belowP h.own hb, h.bel.trans (hb.mono h.bel.size)⟩
theorem MkIs.more {w0 wr w4 : World} {v v' : Value} {ys : List Rat} {y : Rat} (h : MkIs w0 v ys wr) (ho : w4.ownsRow w0.heap.size 91 2 v' (ys.length + 1) (nrow ys ++ qcells y)) (hg : wr.grownBy w4 v.ownBlock) : MkIs w0 v' (ys ++ [y]) w4 := by
  refine ⟨by rw [List.length_append, ← nrow_snoc]; exact ho, ⟨hg.os.trans h.bel.os, hg.tape.trans h.bel.tape, hg.output.trans h.bel.output, Nat.le_trans h.bel.size hg.size, fun k hk => (hg.block k (Nat.lt_of_lt_of_le hk h.bel.size) (fun e => ?_)).trans (h.bel.block k hk)⟩⟩
  have := (h.own.lt k e.symm).1
  omega
theorem MkIs.shape {w0 wr : World} {v : Value} {ys : List Rat} (h : MkIs w0 v ys wr) (hn : 1 ≤ ys.length) : ∃ g cp, v = .slice (some ⟨g, 0, none⟩) ys.length cp := owns_some h.own (by
  intro e
  have h1 := h.own
  rw [e] at h1
  have := owns_len h1
  omega)
theorem owns_base {w : World} {B B' : Nat} {e : TypeId} {size : Nat} {v : Value} {n : Nat} {xs : List Value} (h : w.ownsRow B e size v n xs) (hb : B' ≤ B) : w.ownsRow B' e size v n xs := by
  refine ⟨h.1, ?_⟩
  rcases h.2 with h2 | ⟨g, cap, cur, hv, hg, r⟩
  · exact Or.inl h2
  · exact Or.inr ⟨g, cap, cur, hv, Nat.le_trans hb hg, r⟩
theorem nnews_at {w : World} {k : Nat} (e : w.heap.size = k) (c : List Value) (t : TypeId) : ∀ j u, c[j]? = some u → (w.alloc (.cells c.toArray t)).cell? ((⟨k, 0, none⟩ : Addr).add j) = some u := by
  subst e
  exact news_alloc w c t
/-- What a call answers that makes a list. -/
def LGot (B : Nat) (r : Except Int (List Rat)) (e : Ending) (w' : World) : Prop := (∃ l g cap, r = .ok l ∧ AllS l ∧ e = .returned (.tuple #[.slice (some ⟨g, 0, none⟩) l.length cap, .int .i64 0]) ∧ w'.ownsRow B 91 2 (.slice (some ⟨g, 0, none⟩) l.length cap) l.length (nrow l)) ∨ ∃ c, r = .error c ∧ c ≠ 0 ∧ e = .returned (.tuple #[.slice none 0 0, .int .i64 c])
theorem each_append (f : Rat → Except Int Rat) : ∀ a b : List Rat, each f (a ++ b) = match each f a with | .error e => .error e | .ok ys => match each f b with | .error e => .error e | .ok zs => .ok (ys ++ zs)
  | [], b => by
    rw [List.nil_append, each]
    cases each f b <;> rfl
  | x :: a, b => by
    rw [List.cons_append, each, each, each_append f a b]
    cases f x with
    | error e => rfl
    | ok y =>
      cases each f a with
      | error e => rfl
      | ok ys => cases each f b <;> rfl
theorem each_step {f : Rat → Except Int Rat} {l : List Rat} {i : Nat} (hi : i < l.length) {ys : List Rat} (h : each f (l.take i) = .ok ys) {y : Rat} (hy : f l[i] = .ok y) : each f (l.take (i + 1)) = .ok (ys ++ [y]) := by
  rw [List.take_succ_eq_append_getElem hi, each_append, h]
  simp [each, hy]
theorem each_stop {f : Rat → Except Int Rat} {l : List Rat} {i : Nat} (hi : i < l.length) {ys : List Rat} (h : each f (l.take i) = .ok ys) {c : Int} (hc : f l[i] = .error c) : each f l = .error c := by
  have e : l = l.take i ++ l[i] :: l.drop (i + 1) := by
    rw [← List.drop_eq_getElem_cons hi, List.take_append_drop]
  rw [e, each_append, h]
  simp [each, hc]
theorem each_len {f : Rat → Except Int Rat} : ∀ {l ys : List Rat}, each f l = .ok ys → ys.length = l.length
  | [], ys, h => by cases h; rfl
  | x :: l, ys, h => by
    rw [each] at h
    cases hf : f x with
    | error e => rw [hf] at h; cases h
    | ok y =>
      rw [hf] at h
      cases he : each f l with
      | error e => rw [he] at h; cases h
      | ok zs =>
        rw [he] at h
        cases h
        rw [List.length_cons, List.length_cons, each_len he]

set_option maxRecDepth 100000 in
set_option maxHeartbeats 3200000 in
theorem change_any {f : Rat → Except Int Rat} {l n k t b : Int} {pa : Option Addr} {pn pc : Nat} {bo ov : Option Addr} (hone : ∀ (q : Rat) (w : World), small q = true → Calls Tryz.prog 189 #[qv q, .agg #[.int .u8 l, .int .u8 n, .int .i64 k, .int .i64 t, .int .i64 b, .slice pa pn pc, .pointer bo, .pointer ov]] w fun e w' => QGot (f q) e ∧ Below w.heap.size w w') {g cap : Nat} {xs : List Rat} {w : World} (h : LIs w g cap xs) :
    Calls Tryz.prog 181 #[.slice (some ⟨g, 0, none⟩) xs.length cap, .agg #[.int .u8 l, .int .u8 n, .int .i64 k, .int .i64 t, .int .i64 b, .slice pa pn pc, .pointer bo, .pointer ov]] w fun e w' => LGot w.heap.size (each f xs) e w' ∧ Below w.heap.size w w' := by
  obtain ⟨i0, hi0, hz0, hz1, hz2⟩ := info_parts Tryz.infoNumber
  have hg := h.lt
  have HO := hide hone
  have HL := hide h
  have hlen := h.len
  clear hone h
  go_enter Tryz.func181, Tryz.ntmps181
  go_wp2_with fail
  obtain ⟨w0, hw0⟩ : ∃ w0, w0 = w.alloc (.cells #[.int .u8 l, .int .u8 n, .int .i64 k, .int .i64 t, .int .i64 b, .slice pa pn pc, .pointer bo, .pointer ov] 148) := ⟨_, rfl⟩
  have hs0 : w0.heap.size = w.heap.size + 1 := by rw [hw0]; simp
  have hb0 : Below w.heap.size w w0 := by rw [hw0]; exact (Below.refl _ _).alloc (Nat.le_refl _) _
  have hp0 : ∀ i, w0.cell? ⟨w.heap.size, i, none⟩ = (#[.int .u8 l, .int .u8 n, .int .i64 k, .int .i64 t, .int .i64 b, .slice pa pn pc, .pointer bo, .pointer ov] : Array Value)[i]? := fun i => by rw [hw0]; exact blk_cell (heap_alloc_new w _) i
  rw [← hw0]
  have HB0 := hide hb0
  have HS0 := hide hs0
  have hs0' : w.heap.size < w0.heap.size := by omega
  clear hw0 hb0 hs0
  go_loopg [6, 14] xs.length (fun kk v6 v14 wr => ∃ (i : Nat) (ys : List Rat) (g' cp' : Nat), kk = xs.length - i ∧ i ≤ xs.length ∧ v14 = .int .i64 (i : Int) ∧ v6 = .slice (some ⟨g', 0, none⟩) ys.length cp' ∧ each f (xs.take i) = .ok ys ∧ AllS ys ∧ MkIs w0 (.slice (some ⟨g', 0, none⟩) ys.length cp') ys wr)
  case atStart => exact ⟨0, [], w.heap.size + 1, 0, rfl, Nat.zero_le _, rfl, rfl, rfl, fun _ h => by (cases h), MkIs.start' (unhide HS0)⟩
  case round =>
    obtain ⟨i, ys, g', cp', hk, hi, rfl, rfl, he, ha, hm⟩ := hrel
    have HK := hide hk
    have HE := hide he
    have HA := hide ha
    have HM := hide hm
    have hyb : ys.length ≤ 1000 := by
      have := each_len he
      rw [List.length_take] at this
      omega
    clear hk he ha
    by_cases hlt : i < xs.length
    · have hlt' : (i : Int) < (xs.length : Int) := by omega
      obtain ⟨d0, d1⟩ := (unhide HL).cell hlt
      have hgr : ∀ o, wr.cell? ⟨g, o, none⟩ = w.cell? ⟨g, o, none⟩ := fun o => (hm.bel.cell (p := ⟨g, o, none⟩) (by show g < w0.heap.size; omega)).trans ((unhide HB0).cell (p := ⟨g, o, none⟩) hg)
      rw [← hgr] at d0 d1
      have hpr : ∀ o, wr.cell? ⟨w.heap.size, o, none⟩ = (#[.int .u8 l, .int .u8 n, .int .i64 k, .int .i64 t, .int .i64 b, .slice pa pn pc, .pointer bo, .pointer ov] : Array Value)[o]? := fun o => (hm.bel.cell (p := ⟨w.heap.size, o, none⟩) (by show w.heap.size < w0.heap.size; omega)).trans (hp0 o)
      have hwl : w.heap.size < wr.heap.size := by have := hm.bel.size; omega
      have HX := hide ((unhide HL).small xs[i] (List.getElem_mem hlt))
      have HSt := hide (fun (y : Rat) (hy : f xs[i] = .ok y) => each_step hlt (unhide HE) hy)
      have HSp := hide (fun (c : Int) (hc : f xs[i] = .error c) => each_stop hlt (unhide HE) hc)
      have HMx := hide (hm.below ((Below.refl _ _).alloc (Nat.le_refl _) (.cells #[.int .i64 xs[i].num, .int .i64 (xs[i].den : Int)] 91)))
      clear hgr hm
      generalize xs[i] = x at d0 d1 HX HSt HSp HMx
      go_wp2_with fail
      refine (unhide HO x _ (unhide HX)).mono ?_
      rintro e w1 ⟨hq, hb1⟩
      have HM1 := hide ((unhide HMx).below hb1)
      clear hb1
      rcases hq with ⟨z, hz, hs, rfl⟩ | ⟨c, hz, hne, rfl⟩
      · have HZ := hide (unhide HSt z hz)
        have HS := hide hs
        have HM2 := hide (((unhide HM1).below ((Below.refl _ _).alloc (Nat.le_refl _) (.cells (qcells z).toArray 91))).below ((Below.refl _ _).alloc (Nat.le_refl _) (.cells (qcells z).toArray 91)))
        have hsz := (unhide HM1).bel.size
        clear hz hs
        rw [qv]
        go_wp2_with (at_builtin; refine wpList_append_own _ rfl _ _ 66 rfl w0.heap.size 91 i0 _ 2 16 Tryz.underlying66 hi0 hz0 hz1 hz2 rfl (by decide) _ _ _ rfl (unhide HM2).own ⟨w1.heap.size + 1, 0, none⟩ 1 1 (qcells z) rfl rfl (nnews_at (by simp) _ _) (one_qcells _) (by unfold maxLen; omega) (by omega) (by simp; omega) ?_)
        intro v' w4 hown4 hgr4 _
        have hm4 := (unhide HM2).more hown4 hgr4
        obtain ⟨g4, cp4, rfl⟩ := hm4.shape (by simp)
        have HM4 := hide hm4
        clear hown4 hgr4 hm4
        go_wp2_with fail
        go_roundg (xs.length - (i + 1))
        case measure => rw [unhide HK]; omega
        case rel => exact ⟨i + 1, ys ++ [z], g4, cp4, rfl, by omega, rfl, rfl, unhide HZ, fun q hq => by rcases List.mem_append.1 hq with h | h; exact unhide HA q h; rw [List.mem_singleton.1 h]; exact unhide HS, unhide HM4⟩
      · have HZ := hide (unhide HSp c hz)
        have hne' : (c != 0) = true := by rw [bne_iff_ne]; exact hne
        have HN := hide hne
        clear hz hne
        go_wp2_with fail
        exact bodyPost_ret (v := .tuple #[.slice none 0 0, .int .i64 c]) (by simp [results, Tryz.results181, go_sem]) rfl ⟨Or.inr ⟨c, unhide HZ, unhide HN, rfl⟩, ((unhide HB0).trans ((unhide HM1).bel.mono (unhide HB0).size)).alloc (Nat.le_trans (unhide HB0).size (unhide HM1).bel.size) _⟩
    · have hlt' : ¬ (i : Int) < (xs.length : Int) := by omega
      have hie : i = xs.length := by omega
      go_wp2_with fail
      refine bodyPost_ret (v := .tuple #[.slice (some ⟨g', 0, none⟩) ys.length cp', .int .i64 0]) (by simp [results, Tryz.results181, go_sem]) rfl ⟨Or.inl ⟨ys, g', cp', ?_, unhide HA, rfl, ?_⟩, (unhide HB0).trans ((unhide HM).bel.mono (unhide HB0).size)⟩
      · have := unhide HE
        rw [hie, List.take_length] at this
        exact this
      · exact owns_base (unhide HM).own (by omega)
end Go.Proofs.YtikiaijgcjjloaaGreatDoor

import Derived.Test.YtikiaijgcjjloaaGreatDoorPart23
import Derived.Deep.DeepCutAuto

/- The walks: parts that move and pick items. -/
namespace Go.Proofs.YtikiaijgcjjloaaGreatDoor
open Go Go.RowKit M T Go.Lib

theorem allS_one {ys : List Rat} {z : Rat} (h : AllS ys) (hz : small z = true) : AllS (ys ++ [z]) := fun q hq => by
  rcases List.mem_append.1 hq with h' | h'
  · exact h q h'
  · rw [List.mem_singleton.1 h']; exact hz
theorem drop_rev (l : List Rat) (i : Nat) (hi : i < l.length) : (l.drop (i + 1)).reverse ++ [l[i]] = (l.drop i).reverse := by
  rw [List.drop_eq_getElem_cons hi, List.reverse_cons]

set_option maxRecDepth 100000 in
set_option maxHeartbeats 1600000 in
theorem turnRound_any {g cap : Nat} {xs : List Rat} {w : World} (h : LIs w g cap xs) :
    Calls Tryz.prog 176 #[.slice (some ⟨g, 0, none⟩) xs.length cap] w fun e w' => (∃ g' cap', e = .returned (.slice (some ⟨g', 0, none⟩) xs.reverse.length cap') ∧ w'.ownsRow w.heap.size 91 2 (.slice (some ⟨g', 0, none⟩) xs.reverse.length cap') xs.reverse.length (nrow xs.reverse)) ∧ Below w.heap.size w w' := by
  obtain ⟨i0, hi0, hz0, hz1, hz2⟩ := info_parts Tryz.infoNumber
  have HL := hide h
  have hg := h.lt
  have hlen := h.len
  clear h
  go_enter Tryz.func176, Tryz.ntmps176
  go_wp2_with fail
  go_loopg [3, 4] xs.length (fun kk v3 v4 wr => ∃ (i : Nat) (ys : List Rat) (g' cp' : Nat), kk = i ∧ i ≤ xs.length ∧ v4 = .int .i64 ((i : Int) - 1) ∧ v3 = .slice (some ⟨g', 0, none⟩) ys.length cp' ∧ ys = (xs.drop i).reverse ∧ MkIs w (.slice (some ⟨g', 0, none⟩) ys.length cp') ys wr)
  case atStart => exact ⟨xs.length, [], w.heap.size, 0, rfl, Nat.le_refl _, rfl, rfl, by rw [List.drop_length]; rfl, MkIs.start w⟩
  case round =>
    obtain ⟨i, ys, g', cp', hk, hi, hv, rfl, he, hm⟩ := hrel
    have HK := hide hk
    have HE := hide he
    have HM := hide hm
    have hyb : ys.length ≤ 1000 := by rw [he]; simp; omega
    clear hk he
    cases i with
    | zero =>
      have hv' : _ = Value.int .i64 (-1) := hv
      subst hv'
      clear hv
      go_wp2_with fail
      go_ret
      have e : ys = xs.reverse := by rw [unhide HE, List.drop_zero]
      rw [e] at HM
      exact ⟨⟨g', cp', by rw [e]; rfl, (unhide HM).own⟩, (unhide HM).bel⟩
    | succ i =>
      have hv' : _ = Value.int .i64 (i : Int) := hv.trans (congrArg (Value.int .i64) (by omega))
      subst hv'
      have hlt : i < xs.length := by omega
      have hlt' : (i : Int) < (xs.length : Int) := by omega
      obtain ⟨d0, d1⟩ := (unhide HL).cell hlt
      have hgr : ∀ o, wr.cell? ⟨g, o, none⟩ = w.cell? ⟨g, o, none⟩ := fun o => hm.bel.cell (p := ⟨g, o, none⟩) hg
      rw [← hgr] at d0 d1
      have HX := hide (show ys ++ [xs[i]] = (xs.drop i).reverse by rw [unhide HE]; exact drop_rev xs i hlt)
      have HM2 := hide (hm.below ((Below.refl _ _).alloc (Nat.le_refl _) (.cells (qcells xs[i]).toArray 91)))
      have hsz := hm.bel.size
      clear hv hgr hm
      generalize xs[i] = z at d0 d1 HX HM2
      go_wp2_with (at_builtin; refine wpList_append_own _ rfl _ _ 66 rfl w.heap.size 91 i0 _ 2 16 Tryz.underlying66 hi0 hz0 hz1 hz2 rfl (by decide) _ _ _ rfl (unhide HM2).own ⟨wr.heap.size, 0, none⟩ 1 1 (qcells z) rfl rfl (nnews_at rfl _ _) (one_qcells _) (by unfold maxLen; omega) (by omega) (by simp; omega) ?_)
      intro v' w4 hown4 hgr4 _
      have hm4 := (unhide HM2).more hown4 hgr4
      obtain ⟨g4, cp4, rfl⟩ := hm4.shape (by simp)
      have HM4 := hide hm4
      clear hown4 hgr4 hm4
      go_wp2_with fail
      go_roundg i
      case measure => rw [unhide HK]; omega
      case rel => exact ⟨i, ys ++ [z], g4, cp4, rfl, by omega, rfl, rfl, unhide HX, unhide HM4⟩

/-! ### The first, and those behind -/
theorem nrow_get {w : World} {g cap : Nat} {l : List Rat} (h : LIs w g cap l) {a : Nat} (m : List Rat) (hm : ∀ j, j < m.length → m[j]? = l[a + j]?) : ∀ j u, (nrow m)[j]? = some u → w.cell? ((⟨g, a * 2, none⟩ : Addr).add j) = some u := by
  intro j u hu
  have hj : j < m.length * 2 := by
    have := (List.getElem?_eq_some_iff.1 hu).1
    rw [nrow_length] at this
    exact this
  have hadd : (⟨g, a * 2, none⟩ : Addr).add j = ⟨g, a * 2 + j, none⟩ := by unfold Addr.add; split <;> simp_all
  have key : ∀ (ys : List Rat) (i : Nat) (hi : i < ys.length), (nrow ys)[i * 2]? = some (.int .i64 ys[i].num) ∧ (nrow ys)[i * 2 + 1]? = some (.int .i64 (ys[i].den : Int)) := by
    intro ys
    induction ys with
    | nil => intro j hj; simp at hj
    | cons y ys ih =>
      intro j hj
      have e : nrow (y :: ys) = .int .i64 y.num :: .int .i64 (y.den : Int) :: nrow ys := rfl
      cases j with
      | zero => rw [e]; exact ⟨rfl, rfl⟩
      | succ j =>
        rw [e, show (j + 1) * 2 = j * 2 + 1 + 1 by omega, show j * 2 + 1 + 1 + 1 = (j * 2 + 1) + 1 + 1 by omega]
        simp only [List.getElem?_cons_succ, List.getElem_cons_succ]
        exact ih j (by simpa using hj)
  have hi : j / 2 < m.length := by omega
  have hml := hm (j / 2) hi
  rw [List.getElem?_eq_getElem hi] at hml
  obtain ⟨hal, hel⟩ := List.getElem?_eq_some_iff.1 hml.symm
  obtain ⟨k0, k1⟩ := key m (j / 2) hi
  obtain ⟨c0, c1⟩ := h.cell hal
  rw [hel] at c0 c1
  rw [hadd]
  rcases (show j = j / 2 * 2 ∨ j = j / 2 * 2 + 1 by omega) with e | e
  · rw [e] at hu
    rw [k0] at hu
    rw [show a * 2 + j = (a + j / 2) * 2 by omega, c0]
    exact hu
  · rw [e] at hu
    rw [k1] at hu
    rw [show a * 2 + j = (a + j / 2) * 2 + 1 by omega, c1]
    exact hu
theorem one_nrow : ∀ (l : List Rat), ∀ u ∈ nrow l, u.oneCell' = true
  | [], u, h => by cases h
  | x :: l, u, h => by
    have e : nrow (x :: l) = qcells x ++ nrow l := rfl
    rw [e] at h
    rcases List.mem_append.1 h with h | h
    · exact one_qcells x u h
    · exact one_nrow l u h
theorem allS_sub {l m : List Rat} (h : AllS l) (hs : ∀ x ∈ m, x ∈ l) : AllS m := fun x hx => h x (hs x hx)

theorem MkIs.grow {w0 wr w4 : World} {v : Value} {ys : List Rat} (h : MkIs w0 v ys wr) (hg : wr.grownBy w4 v.ownBlock) : Below w0.heap.size w0 w4 :=
  ⟨hg.os.trans h.bel.os, hg.tape.trans h.bel.tape, hg.output.trans h.bel.output, Nat.le_trans h.bel.size hg.size, fun k hk => (hg.block k (Nat.lt_of_lt_of_le hk h.bel.size) (fun e => by have := (h.own.lt k e.symm).1; omega)).trans (h.bel.block k hk)⟩
theorem LIs.cap_le {w : World} {g cap : Nat} {l : List Rat} (h : LIs w g cap l) : l.length ≤ cap := by
  rcases h.own.2 with ⟨e, _⟩ | ⟨g', cap', cur, hv, _, _, hc, _⟩
  · cases e
  · cases hv; exact hc
def takeE (k : Nat) (l : List Rat) : Except Int (List Rat) := if k ≤ l.length then .ok (l.take k) else .error 11
def dropE (k : Nat) (l : List Rat) : Except Int (List Rat) := if k ≤ l.length then .ok (l.drop k) else .error 11

set_option maxRecDepth 100000 in
set_option maxHeartbeats 1600000 in
theorem takeFirst_any {g cap : Nat} {xs : List Rat} {w : World} (h : LIs w g cap xs) (k : Nat) (hk : k ≤ 1000) :
    Calls Tryz.prog 178 #[.slice (some ⟨g, 0, none⟩) xs.length cap, .int .i64 (k : Int)] w fun e w' => LGot w.heap.size (takeE k xs) e w' ∧ Below w.heap.size w w' := by
  obtain ⟨i0, hi0, hz0, hz1, hz2⟩ := info_parts Tryz.infoNumber
  have hlen := h.len
  by_cases hkl : k ≤ xs.length
  · have hkl' : ¬ (xs.length : Int) < (k : Int) := by omega
    have hcap := h.cap_le
    have hkc : (k : Int) ≤ (cap : Int) := by omega
    have hl : (xs.take k).length = k := by rw [List.length_take]; omega
    have HR := hide (show takeE k xs = .ok (xs.take k) from if_pos hkl)
    have HA := hide (allS_sub h.small (fun x (hx : x ∈ xs.take k) => List.mem_of_mem_take hx))
    have HM := hide (MkIs.start w)
    have HN := hide (nrow_get (h.below ((Below.refl _ _).alloc (Nat.le_refl _) (.cells #[] 91))) (a := 0) (xs.take k) (fun j hj => by rw [Nat.zero_add, List.getElem?_take]; rw [hl] at hj; rw [if_pos hj]))
    have HLen := hide (show (nrow (xs.take k)).length = k * 2 by rw [nrow_length, hl])
    have HLl := hide hl
    clear h hl
    generalize xs.take k = ys at HR HA HN HLen HLl
    go_enter Tryz.func178, Tryz.ntmps178
    go_wp2_with (at_builtin; refine wpList_append_own _ rfl _ _ 66 rfl w.heap.size 91 i0 _ 2 16 Tryz.underlying66 hi0 hz0 hz1 hz2 rfl (by decide) _ _ _ rfl (unhide HM).own ⟨g, 0, none⟩ k cap (nrow ys) rfl (unhide HLen) (unhide HN) (one_nrow _) (by unfold maxLen; simp; omega) (by simp; omega) (by simp) ?_)
    intro v' w4 hown4 hgr4 hnn
    obtain ⟨g4, cp4, rfl⟩ : ∃ g4 cp4, v' = .slice (some ⟨g4, 0, none⟩) k cp4 := owns_some hown4 hnn
    have hown5 : w4.ownsRow w.heap.size 91 2 (.slice (some ⟨g4, 0, none⟩) k cp4) k (nrow ys) := hown4
    have HO := hide hown5
    have HB := hide ((unhide HM).grow hgr4)
    clear hown4 hgr4 hnn hown5
    go_wp2_with fail
    exact bodyPost_ret (v := .tuple #[.slice (some ⟨g4, 0, none⟩) k cp4, .int .i64 0]) (by simp [results, Tryz.results178, go_sem]) rfl ⟨Or.inl ⟨ys, g4, cp4, unhide HR, unhide HA, by rw [unhide HLl], by rw [unhide HLl]; exact unhide HO⟩, unhide HB⟩
  · have hkl' : (xs.length : Int) < (k : Int) := by omega
    have HR := hide (show takeE k xs = .error 11 from if_neg hkl)
    go_enter Tryz.func178, Tryz.ntmps178
    go_wp2_with fail
    exact bodyPost_ret (v := .tuple #[.slice none 0 0, .int .i64 11]) (by simp [results, Tryz.results178, go_sem]) rfl ⟨Or.inr ⟨11, unhide HR, by decide, rfl⟩, Below.refl _ _⟩

set_option maxRecDepth 100000 in
set_option maxHeartbeats 1600000 in
theorem takeBehind_any {g cap : Nat} {xs : List Rat} {w : World} (h : LIs w g cap xs) (k : Nat) (hk : k ≤ 1000) :
    Calls Tryz.prog 179 #[.slice (some ⟨g, 0, none⟩) xs.length cap, .int .i64 (k : Int)] w fun e w' => LGot w.heap.size (dropE k xs) e w' ∧ Below w.heap.size w w' := by
  obtain ⟨i0, hi0, hz0, hz1, hz2⟩ := info_parts Tryz.infoNumber
  have hlen := h.len
  by_cases hkl : k ≤ xs.length
  · have hkl' : ¬ (xs.length : Int) < (k : Int) := by omega
    have hcap := h.cap_le
    have hl : (xs.drop k).length = xs.length - k := by rw [List.length_drop]
    have HR := hide (show dropE k xs = .ok (xs.drop k) from if_pos hkl)
    have HA := hide (allS_sub h.small (fun x (hx : x ∈ xs.drop k) => List.mem_of_mem_drop hx))
    have HM := hide (MkIs.start w)
    have HN := hide (nrow_get (h.below ((Below.refl _ _).alloc (Nat.le_refl _) (.cells #[] 91))) (a := k) (xs.drop k) (fun j hj => by rw [List.getElem?_drop]))
    have HLen := hide (show (nrow (xs.drop k)).length = (xs.length - k) * 2 by rw [nrow_length, hl])
    have HLl := hide hl
    clear h hl
    generalize xs.drop k = ys at HR HA HN HLen HLl
    by_cases hlt : k < xs.length
    · have hck : ¬ cap = k := by omega
      have hlk : ¬ xs.length - k = 0 := by omega
      go_enter Tryz.func179, Tryz.ntmps179
      go_wp2_with (at_builtin; refine wpList_append_own _ rfl _ _ 66 rfl w.heap.size 91 i0 _ 2 16 Tryz.underlying66 hi0 hz0 hz1 hz2 rfl (by decide) _ _ _ rfl (unhide HM).own ⟨g, k * 2, none⟩ (xs.length - k) (cap - k) (nrow ys) rfl (unhide HLen) (unhide HN) (one_nrow _) (by unfold maxLen; simp; omega) (by simp; omega) (by simp) ?_)
      intro v' w4 hown4 hgr4 hnn
      obtain ⟨g4, cp4, rfl⟩ : ∃ g4 cp4, v' = .slice (some ⟨g4, 0, none⟩) (xs.length - k) cp4 := owns_some hown4 hnn
      have hown5 : w4.ownsRow w.heap.size 91 2 (.slice (some ⟨g4, 0, none⟩) (xs.length - k) cp4) (xs.length - k) (nrow ys) := hown4
      have HO := hide hown5
      have HB := hide ((unhide HM).grow hgr4)
      clear hown4 hgr4 hnn hown5
      go_wp2_with fail
      exact bodyPost_ret (v := .tuple #[.slice (some ⟨g4, 0, none⟩) (xs.length - k) cp4, .int .i64 0]) (by simp [results, Tryz.results179, go_sem]) rfl ⟨Or.inl ⟨ys, g4, cp4, unhide HR, unhide HA, by rw [unhide HLl], by rw [unhide HLl]; exact unhide HO⟩, unhide HB⟩
    · obtain rfl : ys = [] := List.eq_nil_of_length_eq_zero (by rw [unhide HLl]; omega)
      have hlk : xs.length - k = 0 := by omega
      by_cases hck : cap = k
      · go_enter Tryz.func179, Tryz.ntmps179
        go_wp2_with fail
        exact bodyPost_ret (v := .tuple #[.slice (some ⟨w.heap.size, 0, none⟩) 0 0, .int .i64 0]) (by simp [results, Tryz.results179, go_sem]) rfl ⟨Or.inl ⟨[], w.heap.size, 0, unhide HR, fun _ h => by (cases h), rfl, (unhide HM).own⟩, (unhide HM).bel⟩
      · go_enter Tryz.func179, Tryz.ntmps179
        go_wp2_with fail
        exact bodyPost_ret (v := .tuple #[.slice (some ⟨w.heap.size, 0, none⟩) 0 0, .int .i64 0]) (by simp [results, Tryz.results179, go_sem]) rfl ⟨Or.inl ⟨[], w.heap.size, 0, unhide HR, fun _ h => by (cases h), rfl, (unhide HM).own⟩, (unhide HM).bel⟩
  · have hkl' : (xs.length : Int) < (k : Int) := by omega
    have HR := hide (show dropE k xs = .error 11 from if_neg hkl)
    go_enter Tryz.func179, Tryz.ntmps179
    go_wp2_with fail
    exact bodyPost_ret (v := .tuple #[.slice none 0 0, .int .i64 11]) (by simp [results, Tryz.results179, go_sem]) rfl ⟨Or.inr ⟨11, unhide HR, by decide, rfl⟩, Below.refl _ _⟩

/-! ### At places -/
def pickE (ps : List Nat) (l : List Rat) : Except Int (List Rat) := if ps.all (· < l.length) then .ok (picked ps l) else .error 11
theorem picked_step (ps : List Nat) (l : List Rat) (i : Nat) (hi : i < ps.length) : picked (ps.take (i + 1)) l = picked (ps.take i) l ++ [l.getD ps[i] 0] := by
  unfold picked
  rw [List.take_succ_eq_append_getElem hi, List.map_append]
  rfl

set_option maxRecDepth 100000 in
set_option maxHeartbeats 1600000 in
theorem takeAt_any {g cap : Nat} {xs : List Rat} {w : World} (h : LIs w g cap xs) {pa : Option Addr} {pn pc : Nat} {ps : List Nat} (hp : w.ownsRow 0 3 1 (.slice pa pn pc) ps.length (ps.map fun i : Nat => Value.int .i64 (i : Int))) (hpl : ps.length ≤ 1000) (hpb : ∀ i ∈ ps, i ≤ 1000) :
    Calls Tryz.prog 174 #[.slice (some ⟨g, 0, none⟩) xs.length cap, .slice pa pn pc] w fun e w' => LGot w.heap.size (pickE ps xs) e w' ∧ Below w.heap.size w w' := by
  obtain ⟨i0, hi0, hz0, hz1, hz2⟩ := info_parts Tryz.infoNumber
  have hlen := h.len
  have hg := h.lt
  obtain rfl : pn = ps.length := owns_len hp
  have hpc : 0 < ps.length → ∃ gp, pa = some ⟨gp, 0, none⟩ ∧ gp < w.heap.size ∧ ∀ j (hj : j < ps.length), w.cell? ⟨gp, j, none⟩ = some (.int .i64 (ps[j] : Int)) := fun hpos => by
    rcases hp.2 with ⟨_, e⟩ | ⟨gp, cp, cur, hv, _, hh, _⟩
    · omega
    · obtain ⟨rfl, _, rfl⟩ := Value.slice.inj hv
      refine ⟨gp, rfl, lt_of_block hh, fun j hj => ?_⟩
      have := hp.cells (g := gp) rfl j (.int .i64 (ps[j] : Int)) (by rw [List.getElem?_map, List.getElem?_eq_getElem hj]; rfl)
      rw [show (⟨gp, 0, none⟩ : Addr).add j = ⟨gp, j, none⟩ from by unfold Addr.add; split <;> simp_all] at this
      exact this
  have HL := hide h
  have HPc := hide hpc
  have HPb := hide hpb
  clear h hp hpc hpb
  go_enter Tryz.func174, Tryz.ntmps174
  go_wp2_with fail
  go_loopg [6, 12] ps.length (fun kk v6 v12 wr => ∃ (i : Nat) (ys : List Rat) (g' cp' : Nat), kk = ps.length - i ∧ i ≤ ps.length ∧ v12 = .int .i64 (i : Int) ∧ v6 = .slice (some ⟨g', 0, none⟩) ys.length cp' ∧ (ys = picked (ps.take i) xs ∧ (∀ j ∈ ps.take i, j < xs.length) ∧ AllS ys) ∧ MkIs w (.slice (some ⟨g', 0, none⟩) ys.length cp') ys wr)
  case atStart => exact ⟨0, [], w.heap.size, 0, rfl, Nat.zero_le _, rfl, rfl, ⟨rfl, fun j hj => by (cases hj), fun _ h => by (cases h)⟩, MkIs.start w⟩
  case round =>
    obtain ⟨i, ys, g', cp', hk, hi, rfl, rfl, he, hm⟩ := hrel
    have HK := hide hk
    have HE := hide he
    have HM := hide hm
    have hyb : ys.length ≤ 1000 := by rw [he.1]; unfold picked; simp; omega
    clear hk he
    by_cases hlt : i < ps.length
    · have hlt' : (i : Int) < (ps.length : Int) := by omega
      obtain ⟨gp, rfl, hgp, hcp⟩ := unhide HPc (by omega)
      have hc0 := hcp i hlt
      have hgr : ∀ (b o : Nat), b < w.heap.size → wr.cell? ⟨b, o, none⟩ = w.cell? ⟨b, o, none⟩ := fun b o hb => hm.bel.cell (p := ⟨b, o, none⟩) hb
      rw [← hgr gp i hgp] at hc0
      have hpi := unhide HPb ps[i] (List.getElem_mem hlt)
      have HPI := hide (show ps.take (i + 1) = ps.take i ++ [ps[i]] from List.take_succ_eq_append_getElem hlt)
      have HPS := hide (picked_step ps xs i hlt)
      have HMem := hide (List.getElem_mem hlt)
      clear hcp
      by_cases hb : ps[i] < xs.length
      · have hb' : ¬ (xs.length : Int) ≤ (ps[i] : Int) := by omega
        have hb2 : (ps[i] : Int) < (xs.length : Int) := by omega
        obtain ⟨d0, d1⟩ := (unhide HL).cell hb
        rw [← hgr g _ hg] at d0 d1
        have hgd : xs.getD ps[i] 0 = xs[ps[i]] := by rw [List.getD_eq_getElem?_getD, List.getElem?_eq_getElem hb]; rfl
        rw [hgd] at HPS
        have HX := hide ((unhide HL).small xs[ps[i]] (List.getElem_mem hb))
        have HM2 := hide (hm.below ((Below.refl _ _).alloc (Nat.le_refl _) (.cells (qcells xs[ps[i]]).toArray 91)))
        have hsz := hm.bel.size
        clear hgr hm hgd
        generalize xs[ps[i]] = z at d0 d1 HPS HX HM2
        generalize ps[i] = q at hc0 hpi HPI HPS HMem hb hb' hb2 d0 d1
        go_wp2_with (at_builtin; refine wpList_append_own _ rfl _ _ 66 rfl w.heap.size 91 i0 _ 2 16 Tryz.underlying66 hi0 hz0 hz1 hz2 rfl (by decide) _ _ _ rfl (unhide HM2).own ⟨wr.heap.size, 0, none⟩ 1 1 (qcells z) rfl rfl (nnews_at rfl _ _) (one_qcells _) (by unfold maxLen; omega) (by omega) (by simp; omega) ?_)
        intro v' w4 hown4 hgr4 _
        have hm4 := (unhide HM2).more hown4 hgr4
        obtain ⟨g4, cp4, rfl⟩ := hm4.shape (by simp)
        have HM4 := hide hm4
        clear hown4 hgr4 hm4
        go_wp2_with fail
        go_roundg (ps.length - (i + 1))
        case measure => rw [unhide HK]; omega
        case rel => exact ⟨i + 1, ys ++ [z], g4, cp4, rfl, by omega, rfl, rfl, ⟨by rw [unhide HPS, ← (unhide HE).1], fun j hj => by
          rw [unhide HPI] at hj
          rcases List.mem_append.1 hj with hj | hj
          · exact (unhide HE).2.1 j hj
          · rw [List.mem_singleton.1 hj]; exact hb, allS_one (unhide HE).2.2 (unhide HX)⟩, unhide HM4⟩
      · have hb' : (xs.length : Int) ≤ (ps[i] : Int) := by omega
        have HR := hide (show pickE ps xs = .error 11 from if_neg (fun h => hb (by simpa using List.all_eq_true.1 h ps[i] (List.getElem_mem hlt))))
        clear hgr hm
        generalize ps[i] = q at hc0 hpi HPI HPS HMem hb hb'
        go_wp2_with fail
        exact bodyPost_ret (v := .tuple #[.slice none 0 0, .int .i64 11]) (by simp [results, Tryz.results174, go_sem]) rfl ⟨Or.inr ⟨11, unhide HR, by decide, rfl⟩, (unhide HM).bel⟩
    · have hlt' : ¬ (i : Int) < (ps.length : Int) := by omega
      have hie : i = ps.length := by omega
      have HR := hide (show pickE ps xs = .ok ys by
        have h2 := (unhide HE).2.1
        rw [hie, List.take_length] at h2
        have h1 := (unhide HE).1
        rw [hie, List.take_length] at h1
        rw [pickE, if_pos (List.all_eq_true.2 (fun j hj => by simpa using h2 j hj)), h1])
      clear hie
      go_wp2_with fail
      exact bodyPost_ret (v := .tuple #[.slice (some ⟨g', 0, none⟩) ys.length cp', .int .i64 0]) (by simp [results, Tryz.results174, go_sem]) rfl ⟨Or.inl ⟨ys, g', cp', unhide HR, (unhide HE).2.2, rfl, (unhide HM).own⟩, (unhide HM).bel⟩
end Go.Proofs.YtikiaijgcjjloaaGreatDoor

/- The walks: items moved round; items joined, two by two. -/
namespace Go.Proofs.YtikiaijgcjjloaaGreatDoor
open Go Go.RowKit M T Go.Lib

/-! ### Joined: the words -/
/-- Each item out of the one ahead of it, as it was and as it came out. -/
def joins (J : Rat → Rat → Rat → Except Int Rat) : Rat → Rat → List Rat → Except Int (List Rat)
  | _, _, [] => .ok []
  | o, n, x :: l => match J o n x with
    | .error e => .error e
    | .ok y => match joins J x y l with
      | .error e => .error e
      | .ok ys => .ok (y :: ys)
def joinL (J : Rat → Rat → Rat → Except Int Rat) : List Rat → Except Int (List Rat)
  | [] => .ok []
  | x :: l => match joins J x x l with
    | .error e => .error e
    | .ok ys => .ok (x :: ys)
theorem joins_scan (f : Rat → Rat → Except Int Rat) : ∀ (l : List Rat) (o n : Rat), joins (fun _ n x => f n x) o n l = scan f n l
  | [], _, _ => rfl
  | x :: l, o, n => by
    rw [joins, scan]
    cases f n x with
    | error e => rfl
    | ok y =>
      dsimp only
      rw [joins_scan f l x y]
      cases scan f y l <;> rfl
theorem joins_diff (f : Rat → Rat → Except Int Rat) : ∀ (l : List Rat) (o n : Rat), joins (fun o _ x => f o x) o n l = diff f o l
  | [], _, _ => rfl
  | x :: l, o, n => by
    rw [joins, diff]
    cases f o x with
    | error e => rfl
    | ok y =>
      dsimp only
      rw [joins_diff f l x y]
      cases diff f x l <;> rfl
theorem joinL_scan (f : Rat → Rat → Except Int Rat) (l : List Rat) : joinL (fun _ n x => f n x) l = headed (scan f) l := by
  cases l with
  | nil => rfl
  | cons x l => rw [joinL, headed, joins_scan]; cases scan f x l <;> rfl
theorem joinL_diff (f : Rat → Rat → Except Int Rat) (l : List Rat) : joinL (fun o _ x => f o x) l = headed (diff f) l := by
  cases l with
  | nil => rfl
  | cons x l => rw [joinL, headed, joins_diff]; cases diff f x l <;> rfl
theorem joins_more (J : Rat → Rat → Rat → Except Int Rat) : ∀ (a : List Rat) (o n : Rat) (ys : List Rat) (x : Rat) (b : List Rat), joins J o n a = .ok ys → joins J o n (a ++ x :: b) = match J ((o :: a).getLast (by simp)) ((n :: ys).getLast (by simp)) x with
    | .error e => .error e
    | .ok y => match joins J x y b with
      | .error e => .error e
      | .ok zs => .ok (ys ++ y :: zs)
  | [], o, n, ys, x, b, h => by
    cases h
    rw [List.nil_append, joins]
    rfl
  | u :: a, o, n, ys, x, b, h => by
    rw [joins] at h
    cases hJ : J o n u with
    | error e => rw [hJ] at h; cases h
    | ok y =>
      rw [hJ] at h
      cases hs : joins J u y a with
      | error e => simp only [hs] at h; cases h
      | ok zs =>
        simp only [hs] at h
        cases h
        rw [List.cons_append, joins, hJ]
        simp only []
        rw [joins_more J a u y zs x b hs, show (o :: u :: a).getLast (by simp) = (u :: a).getLast (by simp) from List.getLast_cons (by simp), show (n :: y :: zs).getLast (by simp) = (y :: zs).getLast (by simp) from List.getLast_cons (by simp)]
        cases J ((u :: a).getLast (by simp)) ((y :: zs).getLast (by simp)) x with
        | error e => rfl
        | ok q =>
          dsimp only
          cases joins J x q b <;> rfl
theorem joinL_len {J : Rat → Rat → Rat → Except Int Rat} {l ys : List Rat} (h : joinL J l = .ok ys) : ys.length = l.length := by
  have key : ∀ (l ys : List Rat) (o n : Rat), joins J o n l = .ok ys → ys.length = l.length := by
    intro l
    induction l with
    | nil => intro ys o n h; cases h; rfl
    | cons x l ih =>
      intro ys o n h
      rw [joins] at h
      cases hJ : J o n x with
      | error e => rw [hJ] at h; cases h
      | ok y =>
        rw [hJ] at h
        cases hs : joins J x y l with
        | error e => simp only [hs] at h; cases h
        | ok zs => simp only [hs] at h; cases h; rw [List.length_cons, List.length_cons, ih zs x y hs]
  cases l with
  | nil => cases h; rfl
  | cons x l =>
    rw [joinL] at h
    cases hs : joins J x x l with
    | error e => rw [hs] at h; cases h
    | ok zs => rw [hs] at h; cases h; rw [List.length_cons, List.length_cons, key l zs x x hs]
/-- One item more. -/
theorem joinL_next {J : Rat → Rat → Rat → Except Int Rat} {l ys : List Rat} {i : Nat} (hi : i + 1 < l.length) (h : joinL J (l.take (i + 1)) = .ok ys) (hy : i < ys.length) :
    (∀ y, J l[i] ys[i] l[i + 1] = .ok y → joinL J (l.take (i + 1 + 1)) = .ok (ys ++ [y])) ∧ (∀ c, J l[i] ys[i] l[i + 1] = .error c → joinL J l = .error c) := by
  have hyl := joinL_len h
  rw [List.length_take] at hyl
  cases l with
  | nil => simp at hi
  | cons x0 l =>
    rw [List.take_succ_cons] at h
    rw [joinL] at h
    cases hs : joins J x0 x0 (l.take i) with
    | error e => rw [hs] at h; cases h
    | ok zs =>
      rw [hs] at h
      cases h
      have hil : i < l.length := by simpa using hi
      have g1 : (x0 :: l.take i).getLast (by simp) = (x0 :: l)[i] := by
        rw [List.getLast_eq_getElem]
        simp only [List.length_cons, List.length_take, Nat.add_sub_cancel, Nat.min_eq_left (Nat.le_of_lt hil)]
        cases i with
        | zero => rfl
        | succ i => simp
      have g2 : (x0 :: zs).getLast (by simp) = (x0 :: zs)[i] := by
        rw [List.getLast_eq_getElem]
        have : zs.length = i := by simp at hyl; omega
        simp [this]
      have g3 : (x0 :: l)[i + 1] = l[i] := rfl
      refine ⟨fun y hyy => ?_, fun c hcc => ?_⟩
      · rw [List.take_succ_cons, List.take_succ_eq_append_getElem hil, joinL, joins_more J (l.take i) x0 x0 zs l[i] [] hs, g1, g2]
        rw [g3] at hyy
        rw [hyy]
        rfl
      · have e : l = l.take i ++ l[i] :: l.drop (i + 1) := by
          rw [← List.drop_eq_getElem_cons hil, List.take_append_drop]
        have : joins J x0 x0 l = .error c := by
          conv => lhs; rw [e]
          rw [joins_more J (l.take i) x0 x0 zs l[i] (l.drop (i + 1)) hs, g1, g2]
          rw [g3] at hcc
          rw [hcc]
        rw [joinL, this]
theorem joinL_first {J : Rat → Rat → Rat → Except Int Rat} {l : List Rat} (h : 0 < l.length) : joinL J (l.take 1) = .ok [l[0]] := by
  cases l with
  | nil => simp at h
  | cons x l => rfl

/-! ### Two items -/
def subJ (o x : Rat) : Except Int Rat := lim (x + -o)
theorem subJ_eq (o x : Rat) : subJ o x = subE o x := by rw [subJ, subE, Rat.sub_eq_add_neg]
/-- Two cells of a result behind a call, two boxes ahead. -/
theorem res_at {w1 wb : World} {k : Nat} {c : Array Value} {T : TypeId} (h : wb.heap[k]? = some (.cells c T (0, 0))) (hb : Below wb.heap.size wb w1) : w1.heap[k]? = some (.cells c T (0, 0)) := by
  rw [hb.block _ (lt_of_block h)]; exact h

set_option maxRecDepth 100000 in
set_option maxHeartbeats 800000 in
theorem divide_any {x o : Rat} (hx : small x = true) (ho : small o = true) (w : World) : Calls Tryz.prog 191 #[qv x, qv o] w fun e w' => QGot (divE o x) e ∧ Below w.heap.size w w' := by
  rw [qv, qv]
  have HX := hide hx
  have HO := hide ho
  clear hx ho
  go_enter Tryz.func191, Tryz.ntmps191
  go_wp2_with fail
  refine (qOver (unhide HO) _).mono ?_
  rintro e w1 ⟨hq, hb1⟩
  obtain ⟨hc1, hf1, hbw⟩ := res2 hb1
  have hc0 : ∀ i, w1.cell? ⟨w.heap.size, i, none⟩ = (#[.int .i64 x.num, .int .i64 (x.den : Int)] : Array Value)[i]? := fun i => blk_cell (res_at (show (((w.alloc (.cells #[.int .i64 x.num, .int .i64 (x.den : Int)] 91)).alloc (.cells #[.int .i64 o.num, .int .i64 (o.den : Int)] 91)).alloc (.cells #[.int .i64 0, .int .i64 0] 91)).heap[w.heap.size]? = some (.cells #[.int .i64 x.num, .int .i64 (x.den : Int)] 91 (0, 0)) by rw [Below.heap_alloc _ _ _ (by simp; omega), Below.heap_alloc _ _ _ (by simp)]; exact heap_alloc_new w _) hb1) i
  have hlt : w.heap.size + 1 + 1 < w1.heap.size := by have := hb1.size; simp at this; omega
  have hlt0 : w.heap.size < w1.heap.size := by omega
  have HB := hide hbw
  clear hb1 hbw
  rcases hq with ⟨z, hz, hs, rfl⟩ | ⟨c, hz, hne, rfl⟩
  · obtain ⟨h0, rfl⟩ : o ≠ 0 ∧ z = o⁻¹ := by
      unfold overE at hz
      split at hz
      · cases hz
      · rename_i h; exact ⟨h, (Except.ok.inj hz).symm⟩
    have HE := hide (show divE o x = lim (x * o⁻¹) from if_neg h0)
    have HS := hide hs
    clear hz hs h0
    generalize o⁻¹ = z at HE HS
    rw [qv]
    go_wp2_with fail
    refine (qTimes (unhide HX) (unhide HS) _).mono ?_
    rintro e w2 ⟨hq, hb2⟩
    have hlt2 : w.heap.size + 1 + 1 < (w1.alloc (.cells #[.int .i64 z.num, .int .i64 (z.den : Int)] 91)).heap.size := by simp; omega
    have hc2 : ∀ i, w2.cell? ⟨w.heap.size + 1 + 1, i, none⟩ = (#[.int .i64 0, .int .i64 0] : Array Value)[i]? := fun i => (hb2.cell (p := ⟨w.heap.size + 1 + 1, i, none⟩) hlt2).trans ((((Below.refl w1.heap.size w1).alloc (Nat.le_refl _) _).cell (p := ⟨w.heap.size + 1 + 1, i, none⟩) hlt).trans (hc1 i))
    have hf2 : ∀ i, w2.frozen? ⟨w.heap.size + 1 + 1, i, none⟩ = false := fun i => (hb2.frozen (p := ⟨w.heap.size + 1 + 1, i, none⟩) hlt2).trans ((((Below.refl w1.heap.size w1).alloc (Nat.le_refl _) _).frozen (p := ⟨w.heap.size + 1 + 1, i, none⟩) hlt).trans (hf1 i))
    have hbz := (unhide HB).alloc (unhide HB).size (.cells #[.int .i64 z.num, .int .i64 (z.den : Int)] 91)
    have HB2 := hide (hbz.trans (hb2.mono hbz.size))
    clear hb2 hc1 hf1 hc0 hbz
    rcases hq with ⟨q, hz, hs, rfl⟩ | ⟨c, hz, hne, rfl⟩
    · have HZ := hide hz
      have HS2 := hide hs
      clear hz hs
      rw [qv]
      go_wp2_with fail
      exact bodyPost_ret (v := .tuple #[qv q, .int .i64 0]) (by simp [results, Tryz.results191, go_sem, hc2, qv]) rfl ⟨Or.inl ⟨q, (unhide HE).trans (unhide HZ), unhide HS2, rfl⟩, Below.setCell (p := ⟨w.heap.size + 1 + 1, 1, none⟩) (Below.setCell (p := ⟨w.heap.size + 1 + 1, 0, none⟩) (unhide HB2) (Nat.le_add_right _ 2) _) (Nat.le_add_right _ 2) _⟩
    · have HZ := hide hz
      have HN := hide hne
      clear hz hne
      go_wp2_with fail
      exact bodyPost_ret (v := .tuple #[.agg #[.int .i64 0, .int .i64 0], .int .i64 c]) (by simp [results, Tryz.results191, go_sem, hc2]) rfl ⟨Or.inr ⟨c, (unhide HE).trans (unhide HZ), unhide HN, rfl⟩, Below.setCell (p := ⟨w.heap.size + 1 + 1, 1, none⟩) (Below.setCell (p := ⟨w.heap.size + 1 + 1, 0, none⟩) (unhide HB2) (Nat.le_add_right _ 2) _) (Nat.le_add_right _ 2) _⟩
  · obtain ⟨h0, rfl⟩ : o = 0 ∧ c = 2 := by
      unfold overE at hz
      split at hz
      · rename_i h; exact ⟨h, (Except.error.inj hz).symm⟩
      · cases hz
    have HE := hide (show divE o x = .error 2 from if_pos h0)
    clear hz hne h0
    go_wp2_with fail
    have hst := Below.setCell (p := ⟨w.heap.size + 1 + 1, 1, none⟩) (Below.setCell (p := ⟨w.heap.size + 1 + 1, 0, none⟩) (unhide HB) (Nat.le_add_right _ 2) (.int .i64 0)) (Nat.le_add_right _ 2) (.int .i64 0)
    have hne : w1.heap.size ≠ w.heap.size + 1 + 1 := by omega
    exact bodyPost_ret (v := .tuple #[.agg #[.int .i64 0, .int .i64 0], .int .i64 2]) (by simp [results, Tryz.results191, go_sem, hc1, hlt]) rfl ⟨Or.inr ⟨2, unhide HE, by decide, rfl⟩, hst.alloc hst.size _⟩
end Go.Proofs.YtikiaijgcjjloaaGreatDoor

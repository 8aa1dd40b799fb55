import Derived.Test.YtikiaijgcjjloaaGreatDoorPart12

namespace Go.Proofs.YtikiaijgcjjloaaGreatDoor
open Go Go.RowKit M T Go.Lib
theorem got_st8 {env : Env} {B0 rb : Nat} {s : ByteArray} {nm : Nat → Option Nat} {u : Bool} {l : List UInt8} {w wc w3 : World} {x : PC} {ok : Bool} {b : Nat} {u' : Bool} (hbw : But rb w wc) (hb3 : But rb wc w3) (hsz : w.heap.size + 1 ≤ wc.heap.size) (hB : B0 ≤ w.heap.size) (hlt : rb < w.heap.size) (hb : b ≤ s.size) (h3 : RS rb s nm b u' w3) (hcase : (ok = true ∧ ∃ p, RdP env.full l (some (p, rest s b)) ∧ PtIs (Okw B0 wc) w3 x p ∧ u' = (u || p.unk env)) ∨ (ok = false ∧ x = pc0 ∧ RdP env.full l none)) (v0 v1 v2 v3 v4 v5 v6 v7 : Value) :
    But rb w (st8 w3 w.heap.size v0 v1 v2 v3 v4 v5 v6 v7) ∧ Got env (Okw B0 w) rb s nm u l (.returned (.tuple #[PC.value x, .bool ok])) (st8 w3 w.heap.size v0 v1 v2 v3 v4 v5 v6 v7) := by
  refine ⟨st8_but (hbw.trans hb3) (Nat.le_refl _) _ _ _ _ _ _ _ _, x, ok, b, u', rfl, hb, h3.st8 (by omega) _ _ _ _ _ _ _ _, ?_⟩
  rcases hcase with ⟨h1, p, h2, h4, h5⟩ | h
  · refine Or.inl ⟨h1, p, h2, PtIs.keeps (fun k hk _ => ?_) p x h4, h5⟩
    have hne : k ≠ w.heap.size := by rcases hk with hk | hk <;> omega
    exact ⟨st8_heap _ _ _ _ _ _ _ _ _ hne, hk.imp id (fun h => by omega)⟩
  · exact Or.inr h
theorem Got.lay {env : Env} {Ok : Nat → Prop} {rb : Nat} {s : ByteArray} {nm : Nat → Option Nat} {u : Bool} {l : List UInt8} {e : Ending} {w' : World} (h : Got env Ok rb s nm u l e w') : ∃ (L N : UInt8) (K Tp Bt : Int) (pa : Option Addr) (pn pc : Nat) (Bo Ov : Option Nat) (ok : Bool) (b : Nat) (u' : Bool), e = .returned (.tuple #[.agg #[.int .u8 (L.toNat : Int), .int .u8 (N.toNat : Int), .int .i64 K, .int .i64 Tp, .int .i64 Bt, .slice pa pn pc, .pointer (Bo.map fun b => ⟨b, 0, none⟩), .pointer (Ov.map fun b => ⟨b, 0, none⟩)], .bool ok]) ∧ b ≤ s.size ∧ RS rb s nm b u' w' ∧ ((ok = true ∧ ∃ p, RdP env.full l (some (p, rest s b)) ∧ PtIs Ok w' ⟨L, N, K, Tp, Bt, pa, pn, pc, Bo, Ov⟩ p ∧ u' = (u || p.unk env)) ∨ (ok = false ∧ (⟨L, N, K, Tp, Bt, pa, pn, pc, Bo, Ov⟩ : PC) = pc0 ∧ RdP env.full l none)) := by
  obtain ⟨⟨L, N, K, Tp, Bt, pa, pn, pc, Bo, Ov⟩, ok, b, u', he, hb, hr, hc⟩ := h
  exact ⟨L, N, K, Tp, Bt, pa, pn, pc, Bo, Ov, ok, b, u', he, hb, hr, hc⟩
def pcLet (c : UInt8) : PC := ⟨c, 0, 0, 0, 0, none, 0, 0, none, none⟩
theorem let_is {Ok : Nat → Prop} {w : World} {x : Sp} (h : x.letter = true) : PtIs Ok w (pcLet x.first) (.sp x) := by
  rw [PtIs]
  cases x <;> first | (cases h; done) | exact ⟨rfl, trivial⟩
theorem u8_ne {c d : UInt8} (h : c ≠ d) : ((c.toNat : Int) == (d.toNat : Int)) = false := by
  rw [beq_eq_false_iff_ne]
  intro e
  exact h (UInt8.toNat_inj.1 (by omega))
theorem part_none (env : Env) {c : UInt8} (h110 : c ≠ 110) (h118 : c ≠ 118) (h97 : c ≠ 97) (h113 : c ≠ 113) (h119 : c ≠ 119) (h117 : c ≠ 117) (h114 : c ≠ 114) (h115 : c ≠ 115) (h122 : c ≠ 122) (h112 : c ≠ 112) (h109 : c ≠ 109) (h111 : c ≠ 111) (h43 : c ≠ 43) (h42 : c ≠ 42) (h61 : c ≠ 61) (h60 : c ≠ 60) (h116 : c ≠ 116) (h100 : c ≠ 100) (h35 : c ≠ 35) (h40 : c ≠ 40) (h91 : c ≠ 91) (h : c.toNat < 65 ∨ 90 < c.toNat) (l : List UInt8) : RdP env (c :: l) none := by
  refine rdP_other env (fun x hx e => ?_) ⟨h43, h42, h61, h60, h116, h100, h35, h40, h91⟩ h l
  cases x <;> first
    | (cases hx; done)
    | (simp only [Sp.first] at e; subst e; first | exact h110 rfl | exact h118 rfl | exact h97 rfl | exact h113 rfl | exact h119 rfl | exact h117 rfl | exact h114 rfl | exact h115 rfl | exact h122 rfl | exact h112 rfl | exact h109 rfl | exact h111 rfl)
section
variable {rb : Nat} {s : ByteArray} {nm : Nat → Option Nat} {env : Env} {B0 m : Nat}
set_option maxRecDepth 100000 in
set_option maxHeartbeats 4000000 in
theorem part_of (hT : RT rb s nm env B0 m) (hs : s.size ≤ 120) (hrb : B0 ≤ rb) : RP rb s nm env B0 (m + 1) := by
  intro a u w h ha hm hn hB
  have hlt := h.lt
  have hT0 := h.text
  have hA0 := h.pos
  have hF0 := h.free 1
  have HT := hide hT
  have H := hide h
  have HN := hide hn
  have hd : decide ((s.size : Int) ≤ (a : Int)) = false := by simp; omega
  have hd' : ¬ s.size ≤ a := by omega
  have HRE := hide (rest_lt ha)
  clear hT h hn
  go_enter Tryz.func81, Tryz.ntmps81
  go_wp2_with fail
  go_quiet (fail)
  go_wp2_with fail
  go_quiet (fail)
  go_upto_region 5 with fail
  go_cut [33] (fun v wx => v = .int .u8 (s[a].toNat : Int) ∧ RS rb s nm (a + 1) u wx ∧ But rb w wx ∧ w.heap.size + 1 ≤ wx.heap.size ∧ wx.heap[w.heap.size]? = some (.cells #[.int .u8 0, .int .u8 0, .int .i64 0, .int .i64 0, .int .i64 0, .slice none 0 0, .pointer none, .pointer none] 148 (0, 0)))
  case first =>
    go_wp2_with fail
    go_meet
    refine ⟨rfl, (((unhide H).alloc _).drewN _).setAt (a + 1) (by omega), (((But.refl _ _).alloc _).drewN _).setCell _ _, by simp, ?_⟩
    rw [Below.heap_setCell _ _ _ _ (by show w.heap.size ≠ rb; omega)]
    exact heap_alloc_new w _
  case rest =>
    obtain ⟨rfl, h1, hb1, hsz, hk1⟩ := hcut
    have hc : ∀ i, wc.cell? ⟨w.heap.size, i, none⟩ = _ := fun i => blk_cell hk1 i
    have hf : ∀ i, wc.frozen? ⟨w.heap.size, i, none⟩ = false := fun i => blk_free hk1 i
    have HN1 := hide ((unhide HN).but hb1 hrb)
    have H1 := hide h1
    have HB1 := hide hb1
    have HK1 := hide hk1
    have hB1 : B0 ≤ wc.heap.size := by omega
    have hm1 : s.size - (a + 1) ≤ m := by omega
    have ha1 : a + 1 ≤ s.size := by omega
    clear h1 hb1 hk1 H HN hT0 hA0 hF0 hd hd'
    generalize s[a] = c at HRE ⊢
    by_cases h110 : c = 110
    · subst h110
      go_wp2_with fail
      refine bodyPost_ret (v := .tuple #[PC.value (pcLet 110), .bool true]) (by simp [results, Tryz.results81, go_sem, hc, PC.value, PC.cells, pcLet, ptr]) rfl ?_
      rw [unhide HRE]
      exact got_st8 (x := pcLet 110) (unhide HB1) (But.refl _ _) hsz hB hlt (by omega) (unhide H1) (Or.inl ⟨rfl, .sp .n, rdP_letter env.full (x := .n) rfl _, let_is (x := .n) rfl, by simp [Pt.unk]⟩) _ _ _ _ _ _ _ _
    by_cases h118 : c = 118
    · subst h118
      go_wp2_with fail
      refine bodyPost_ret (v := .tuple #[PC.value (pcLet 118), .bool true]) (by simp [results, Tryz.results81, go_sem, hc, PC.value, PC.cells, pcLet, ptr]) rfl ?_
      rw [unhide HRE]
      exact got_st8 (x := pcLet 118) (unhide HB1) (But.refl _ _) hsz hB hlt (by omega) (unhide H1) (Or.inl ⟨rfl, .sp .v, rdP_letter env.full (x := .v) rfl _, let_is (x := .v) rfl, by simp [Pt.unk]⟩) _ _ _ _ _ _ _ _
    by_cases h97 : c = 97
    · subst h97
      go_wp2_with fail
      refine bodyPost_ret (v := .tuple #[PC.value (pcLet 97), .bool true]) (by simp [results, Tryz.results81, go_sem, hc, PC.value, PC.cells, pcLet, ptr]) rfl ?_
      rw [unhide HRE]
      exact got_st8 (x := pcLet 97) (unhide HB1) (But.refl _ _) hsz hB hlt (by omega) (unhide H1) (Or.inl ⟨rfl, .sp .a, rdP_letter env.full (x := .a) rfl _, let_is (x := .a) rfl, by simp [Pt.unk]⟩) _ _ _ _ _ _ _ _
    by_cases h113 : c = 113
    · subst h113
      go_wp2_with fail
      refine bodyPost_ret (v := .tuple #[PC.value (pcLet 113), .bool true]) (by simp [results, Tryz.results81, go_sem, hc, PC.value, PC.cells, pcLet, ptr]) rfl ?_
      rw [unhide HRE]
      exact got_st8 (x := pcLet 113) (unhide HB1) (But.refl _ _) hsz hB hlt (by omega) (unhide H1) (Or.inl ⟨rfl, .sp .q, rdP_letter env.full (x := .q) rfl _, let_is (x := .q) rfl, by simp [Pt.unk]⟩) _ _ _ _ _ _ _ _
    by_cases h119 : c = 119
    · subst h119
      go_wp2_with fail
      refine bodyPost_ret (v := .tuple #[PC.value (pcLet 119), .bool true]) (by simp [results, Tryz.results81, go_sem, hc, PC.value, PC.cells, pcLet, ptr]) rfl ?_
      rw [unhide HRE]
      exact got_st8 (x := pcLet 119) (unhide HB1) (But.refl _ _) hsz hB hlt (by omega) (unhide H1) (Or.inl ⟨rfl, .sp .w, rdP_letter env.full (x := .w) rfl _, let_is (x := .w) rfl, by simp [Pt.unk]⟩) _ _ _ _ _ _ _ _
    by_cases h117 : c = 117
    · subst h117
      go_wp2_with fail
      refine bodyPost_ret (v := .tuple #[PC.value (pcLet 117), .bool true]) (by simp [results, Tryz.results81, go_sem, hc, PC.value, PC.cells, pcLet, ptr]) rfl ?_
      rw [unhide HRE]
      exact got_st8 (x := pcLet 117) (unhide HB1) (But.refl _ _) hsz hB hlt (by omega) (unhide H1) (Or.inl ⟨rfl, .sp .u, rdP_letter env.full (x := .u) rfl _, let_is (x := .u) rfl, by simp [Pt.unk]⟩) _ _ _ _ _ _ _ _
    by_cases h114 : c = 114
    · subst h114
      go_wp2_with fail
      refine bodyPost_ret (v := .tuple #[PC.value (pcLet 114), .bool true]) (by simp [results, Tryz.results81, go_sem, hc, PC.value, PC.cells, pcLet, ptr]) rfl ?_
      rw [unhide HRE]
      exact got_st8 (x := pcLet 114) (unhide HB1) (But.refl _ _) hsz hB hlt (by omega) (unhide H1) (Or.inl ⟨rfl, .sp .r, rdP_letter env.full (x := .r) rfl _, let_is (x := .r) rfl, by simp [Pt.unk]⟩) _ _ _ _ _ _ _ _
    by_cases h115 : c = 115
    · subst h115
      go_wp2_with fail
      refine bodyPost_ret (v := .tuple #[PC.value (pcLet 115), .bool true]) (by simp [results, Tryz.results81, go_sem, hc, PC.value, PC.cells, pcLet, ptr]) rfl ?_
      rw [unhide HRE]
      exact got_st8 (x := pcLet 115) (unhide HB1) (But.refl _ _) hsz hB hlt (by omega) (unhide H1) (Or.inl ⟨rfl, .sp .s, rdP_letter env.full (x := .s) rfl _, let_is (x := .s) rfl, by simp [Pt.unk]⟩) _ _ _ _ _ _ _ _
    by_cases h122 : c = 122
    · subst h122
      go_wp2_with fail
      refine bodyPost_ret (v := .tuple #[PC.value (pcLet 122), .bool true]) (by simp [results, Tryz.results81, go_sem, hc, PC.value, PC.cells, pcLet, ptr]) rfl ?_
      rw [unhide HRE]
      exact got_st8 (x := pcLet 122) (unhide HB1) (But.refl _ _) hsz hB hlt (by omega) (unhide H1) (Or.inl ⟨rfl, .sp .z, rdP_letter env.full (x := .z) rfl _, let_is (x := .z) rfl, by simp [Pt.unk]⟩) _ _ _ _ _ _ _ _
    by_cases h112 : c = 112
    · subst h112
      go_wp2_with fail
      refine bodyPost_ret (v := .tuple #[PC.value (pcLet 112), .bool true]) (by simp [results, Tryz.results81, go_sem, hc, PC.value, PC.cells, pcLet, ptr]) rfl ?_
      rw [unhide HRE]
      exact got_st8 (x := pcLet 112) (unhide HB1) (But.refl _ _) hsz hB hlt (by omega) (unhide H1) (Or.inl ⟨rfl, .sp .p, rdP_letter env.full (x := .p) rfl _, let_is (x := .p) rfl, by simp [Pt.unk]⟩) _ _ _ _ _ _ _ _
    by_cases h109 : c = 109
    · subst h109
      go_wp2_with fail
      refine bodyPost_ret (v := .tuple #[PC.value (pcLet 109), .bool true]) (by simp [results, Tryz.results81, go_sem, hc, PC.value, PC.cells, pcLet, ptr]) rfl ?_
      rw [unhide HRE]
      exact got_st8 (x := pcLet 109) (unhide HB1) (But.refl _ _) hsz hB hlt (by omega) (unhide H1) (Or.inl ⟨rfl, .sp .m, rdP_letter env.full (x := .m) rfl _, let_is (x := .m) rfl, by simp [Pt.unk]⟩) _ _ _ _ _ _ _ _
    by_cases h111 : c = 111
    · subst h111
      go_wp2_with fail
      refine bodyPost_ret (v := .tuple #[PC.value (pcLet 111), .bool true]) (by simp [results, Tryz.results81, go_sem, hc, PC.value, PC.cells, pcLet, ptr]) rfl ?_
      rw [unhide HRE]
      exact got_st8 (x := pcLet 111) (unhide HB1) (But.refl _ _) hsz hB hlt (by omega) (unhide H1) (Or.inl ⟨rfl, .sp .o, rdP_letter env.full (x := .o) rfl _, let_is (x := .o) rfl, by simp [Pt.unk]⟩) _ _ _ _ _ _ _ _
    by_cases h43 : c = 43
    · subst h43
      go_wp2_with fail
      refine (readValued_any (c := 43) (by decide) env (Okw B0 wc) _ (unhide H1) ha1 hs).mono ?_
      rintro e w3 ⟨hb3, hg3⟩
      obtain ⟨L, N, K, Tp, Bt, pa, pn, pc, Bo, Ov, ok, b, u', rfl, hb, h3, hcase⟩ := hg3.lay
      have hk3 := (hb3.block w.heap.size (lt_of_block (unhide HK1)) (by omega)).trans (unhide HK1)
      have hc3 : ∀ i, w3.cell? ⟨w.heap.size, i, none⟩ = _ := fun i => blk_cell hk3 i
      have hf3 : ∀ i, w3.frozen? ⟨w.heap.size, i, none⟩ = false := fun i => blk_free hk3 i
      have HB3 := hide hb3
      have H3 := hide h3
      have HC := hide hcase
      clear hk3 hb3 h3 hcase hg3 hc hf
      go_wp2_with fail
      refine bodyPost_ret (v := .tuple #[PC.value ⟨L, N, K, Tp, Bt, pa, pn, pc, Bo, Ov⟩, .bool ok]) (by simp [results, Tryz.results81, go_sem, hc3, PC.value, PC.cells, ptr]) rfl ?_
      rw [unhide HRE]
      exact got_st8 (unhide HB1) (unhide HB3) hsz hB hlt hb (unhide H3) (unhide HC) _ _ _ _ _ _ _ _
    by_cases h42 : c = 42
    · subst h42
      go_wp2_with fail
      refine (readValued_any (c := 42) (by decide) env (Okw B0 wc) _ (unhide H1) ha1 hs).mono ?_
      rintro e w3 ⟨hb3, hg3⟩
      obtain ⟨L, N, K, Tp, Bt, pa, pn, pc, Bo, Ov, ok, b, u', rfl, hb, h3, hcase⟩ := hg3.lay
      have hk3 := (hb3.block w.heap.size (lt_of_block (unhide HK1)) (by omega)).trans (unhide HK1)
      have hc3 : ∀ i, w3.cell? ⟨w.heap.size, i, none⟩ = _ := fun i => blk_cell hk3 i
      have hf3 : ∀ i, w3.frozen? ⟨w.heap.size, i, none⟩ = false := fun i => blk_free hk3 i
      have HB3 := hide hb3
      have H3 := hide h3
      have HC := hide hcase
      clear hk3 hb3 h3 hcase hg3 hc hf
      go_wp2_with fail
      refine bodyPost_ret (v := .tuple #[PC.value ⟨L, N, K, Tp, Bt, pa, pn, pc, Bo, Ov⟩, .bool ok]) (by simp [results, Tryz.results81, go_sem, hc3, PC.value, PC.cells, ptr]) rfl ?_
      rw [unhide HRE]
      exact got_st8 (unhide HB1) (unhide HB3) hsz hB hlt hb (unhide H3) (unhide HC) _ _ _ _ _ _ _ _
    by_cases h61 : c = 61
    · subst h61
      go_wp2_with fail
      refine (readValued_any (c := 61) (by decide) env (Okw B0 wc) _ (unhide H1) ha1 hs).mono ?_
      rintro e w3 ⟨hb3, hg3⟩
      obtain ⟨L, N, K, Tp, Bt, pa, pn, pc, Bo, Ov, ok, b, u', rfl, hb, h3, hcase⟩ := hg3.lay
      have hk3 := (hb3.block w.heap.size (lt_of_block (unhide HK1)) (by omega)).trans (unhide HK1)
      have hc3 : ∀ i, w3.cell? ⟨w.heap.size, i, none⟩ = _ := fun i => blk_cell hk3 i
      have hf3 : ∀ i, w3.frozen? ⟨w.heap.size, i, none⟩ = false := fun i => blk_free hk3 i
      have HB3 := hide hb3
      have H3 := hide h3
      have HC := hide hcase
      clear hk3 hb3 h3 hcase hg3 hc hf
      go_wp2_with fail
      refine bodyPost_ret (v := .tuple #[PC.value ⟨L, N, K, Tp, Bt, pa, pn, pc, Bo, Ov⟩, .bool ok]) (by simp [results, Tryz.results81, go_sem, hc3, PC.value, PC.cells, ptr]) rfl ?_
      rw [unhide HRE]
      exact got_st8 (unhide HB1) (unhide HB3) hsz hB hlt hb (unhide H3) (unhide HC) _ _ _ _ _ _ _ _
    by_cases h60 : c = 60
    · subst h60
      go_wp2_with fail
      refine (readCounted_any (c := 60) (by decide) env (Okw B0 wc) _ (unhide H1) ha1 hs).mono ?_
      rintro e w3 ⟨hb3, hg3⟩
      obtain ⟨L, N, K, Tp, Bt, pa, pn, pc, Bo, Ov, ok, b, u', rfl, hb, h3, hcase⟩ := hg3.lay
      have hk3 := (hb3.block w.heap.size (lt_of_block (unhide HK1)) (by omega)).trans (unhide HK1)
      have hc3 : ∀ i, w3.cell? ⟨w.heap.size, i, none⟩ = _ := fun i => blk_cell hk3 i
      have hf3 : ∀ i, w3.frozen? ⟨w.heap.size, i, none⟩ = false := fun i => blk_free hk3 i
      have HB3 := hide hb3
      have H3 := hide h3
      have HC := hide hcase
      clear hk3 hb3 h3 hcase hg3 hc hf
      go_wp2_with fail
      refine bodyPost_ret (v := .tuple #[PC.value ⟨L, N, K, Tp, Bt, pa, pn, pc, Bo, Ov⟩, .bool ok]) (by simp [results, Tryz.results81, go_sem, hc3, PC.value, PC.cells, ptr]) rfl ?_
      rw [unhide HRE]
      exact got_st8 (unhide HB1) (unhide HB3) hsz hB hlt hb (unhide H3) (unhide HC) _ _ _ _ _ _ _ _
    by_cases h116 : c = 116
    · subst h116
      go_wp2_with fail
      refine (readCounted_any (c := 116) (by decide) env (Okw B0 wc) _ (unhide H1) ha1 hs).mono ?_
      rintro e w3 ⟨hb3, hg3⟩
      obtain ⟨L, N, K, Tp, Bt, pa, pn, pc, Bo, Ov, ok, b, u', rfl, hb, h3, hcase⟩ := hg3.lay
      have hk3 := (hb3.block w.heap.size (lt_of_block (unhide HK1)) (by omega)).trans (unhide HK1)
      have hc3 : ∀ i, w3.cell? ⟨w.heap.size, i, none⟩ = _ := fun i => blk_cell hk3 i
      have hf3 : ∀ i, w3.frozen? ⟨w.heap.size, i, none⟩ = false := fun i => blk_free hk3 i
      have HB3 := hide hb3
      have H3 := hide h3
      have HC := hide hcase
      clear hk3 hb3 h3 hcase hg3 hc hf
      go_wp2_with fail
      refine bodyPost_ret (v := .tuple #[PC.value ⟨L, N, K, Tp, Bt, pa, pn, pc, Bo, Ov⟩, .bool ok]) (by simp [results, Tryz.results81, go_sem, hc3, PC.value, PC.cells, ptr]) rfl ?_
      rw [unhide HRE]
      exact got_st8 (unhide HB1) (unhide HB3) hsz hB hlt hb (unhide H3) (unhide HC) _ _ _ _ _ _ _ _
    by_cases h100 : c = 100
    · subst h100
      go_wp2_with fail
      refine (readCounted_any (c := 100) (by decide) env (Okw B0 wc) _ (unhide H1) ha1 hs).mono ?_
      rintro e w3 ⟨hb3, hg3⟩
      obtain ⟨L, N, K, Tp, Bt, pa, pn, pc, Bo, Ov, ok, b, u', rfl, hb, h3, hcase⟩ := hg3.lay
      have hk3 := (hb3.block w.heap.size (lt_of_block (unhide HK1)) (by omega)).trans (unhide HK1)
      have hc3 : ∀ i, w3.cell? ⟨w.heap.size, i, none⟩ = _ := fun i => blk_cell hk3 i
      have hf3 : ∀ i, w3.frozen? ⟨w.heap.size, i, none⟩ = false := fun i => blk_free hk3 i
      have HB3 := hide hb3
      have H3 := hide h3
      have HC := hide hcase
      clear hk3 hb3 h3 hcase hg3 hc hf
      go_wp2_with fail
      refine bodyPost_ret (v := .tuple #[PC.value ⟨L, N, K, Tp, Bt, pa, pn, pc, Bo, Ov⟩, .bool ok]) (by simp [results, Tryz.results81, go_sem, hc3, PC.value, PC.cells, ptr]) rfl ?_
      rw [unhide HRE]
      exact got_st8 (unhide HB1) (unhide HB3) hsz hB hlt hb (unhide H3) (unhide HC) _ _ _ _ _ _ _ _
    by_cases h35 : c = 35
    · subst h35
      go_wp2_with fail
      refine (readPlaces_any env B0 _ (unhide H1) ha1 hs).mono ?_
      rintro e w3 ⟨hb3, hg3⟩
      obtain ⟨L, N, K, Tp, Bt, pa, pn, pc, Bo, Ov, ok, b, u', rfl, hb, h3, hcase⟩ := hg3.lay
      have hk3 := (hb3.block w.heap.size (lt_of_block (unhide HK1)) (by omega)).trans (unhide HK1)
      have hc3 : ∀ i, w3.cell? ⟨w.heap.size, i, none⟩ = _ := fun i => blk_cell hk3 i
      have hf3 : ∀ i, w3.frozen? ⟨w.heap.size, i, none⟩ = false := fun i => blk_free hk3 i
      have HB3 := hide hb3
      have H3 := hide h3
      have HC := hide hcase
      clear hk3 hb3 h3 hcase hg3 hc hf
      go_wp2_with fail
      refine bodyPost_ret (v := .tuple #[PC.value ⟨L, N, K, Tp, Bt, pa, pn, pc, Bo, Ov⟩, .bool ok]) (by simp [results, Tryz.results81, go_sem, hc3, PC.value, PC.cells, ptr]) rfl ?_
      rw [unhide HRE]
      exact got_st8 (unhide HB1) (unhide HB3) hsz hB hlt hb (unhide H3) (unhide HC) _ _ _ _ _ _ _ _
    by_cases h40 : c = 40
    · subst h40
      go_wp2_with fail
      refine (power_of (unhide HT) hs hrb _ (unhide H1) ha1 hm1 (unhide HN1) hB1).mono ?_
      rintro e w3 ⟨hb3, hg3⟩
      obtain ⟨L, N, K, Tp, Bt, pa, pn, pc, Bo, Ov, ok, b, u', rfl, hb, h3, hcase⟩ := hg3.lay
      have hk3 := (hb3.block w.heap.size (lt_of_block (unhide HK1)) (by omega)).trans (unhide HK1)
      have hc3 : ∀ i, w3.cell? ⟨w.heap.size, i, none⟩ = _ := fun i => blk_cell hk3 i
      have hf3 : ∀ i, w3.frozen? ⟨w.heap.size, i, none⟩ = false := fun i => blk_free hk3 i
      have HB3 := hide hb3
      have H3 := hide h3
      have HC := hide hcase
      clear hk3 hb3 h3 hcase hg3 hc hf
      go_wp2_with fail
      refine bodyPost_ret (v := .tuple #[PC.value ⟨L, N, K, Tp, Bt, pa, pn, pc, Bo, Ov⟩, .bool ok]) (by simp [results, Tryz.results81, go_sem, hc3, PC.value, PC.cells, ptr]) rfl ?_
      rw [unhide HRE]
      exact got_st8 (unhide HB1) (unhide HB3) hsz hB hlt hb (unhide H3) (unhide HC) _ _ _ _ _ _ _ _
    by_cases h91 : c = 91
    · subst h91
      go_wp2_with fail
      refine (under_of (unhide HT) hs hrb _ (unhide H1) ha1 hm1 (unhide HN1) hB1).mono ?_
      rintro e w3 ⟨hb3, hg3⟩
      obtain ⟨L, N, K, Tp, Bt, pa, pn, pc, Bo, Ov, ok, b, u', rfl, hb, h3, hcase⟩ := hg3.lay
      have hk3 := (hb3.block w.heap.size (lt_of_block (unhide HK1)) (by omega)).trans (unhide HK1)
      have hc3 : ∀ i, w3.cell? ⟨w.heap.size, i, none⟩ = _ := fun i => blk_cell hk3 i
      have hf3 : ∀ i, w3.frozen? ⟨w.heap.size, i, none⟩ = false := fun i => blk_free hk3 i
      have HB3 := hide hb3
      have H3 := hide h3
      have HC := hide hcase
      clear hk3 hb3 h3 hcase hg3 hc hf
      go_wp2_with fail
      refine bodyPost_ret (v := .tuple #[PC.value ⟨L, N, K, Tp, Bt, pa, pn, pc, Bo, Ov⟩, .bool ok]) (by simp [results, Tryz.results81, go_sem, hc3, PC.value, PC.cells, ptr]) rfl ?_
      rw [unhide HRE]
      exact got_st8 (unhide HB1) (unhide HB3) hsz hB hlt hb (unhide H3) (unhide HC) _ _ _ _ _ _ _ _
    have e110 : ((c.toNat : Int) == 110) = false := u8_ne h110
    have e118 : ((c.toNat : Int) == 118) = false := u8_ne h118
    have e97 : ((c.toNat : Int) == 97) = false := u8_ne h97
    have e113 : ((c.toNat : Int) == 113) = false := u8_ne h113
    have e119 : ((c.toNat : Int) == 119) = false := u8_ne h119
    have e117 : ((c.toNat : Int) == 117) = false := u8_ne h117
    have e114 : ((c.toNat : Int) == 114) = false := u8_ne h114
    have e115 : ((c.toNat : Int) == 115) = false := u8_ne h115
    have e122 : ((c.toNat : Int) == 122) = false := u8_ne h122
    have e112 : ((c.toNat : Int) == 112) = false := u8_ne h112
    have e109 : ((c.toNat : Int) == 109) = false := u8_ne h109
    have e111 : ((c.toNat : Int) == 111) = false := u8_ne h111
    have e43 : ((c.toNat : Int) == 43) = false := u8_ne h43
    have e42 : ((c.toNat : Int) == 42) = false := u8_ne h42
    have e61 : ((c.toNat : Int) == 61) = false := u8_ne h61
    have e60 : ((c.toNat : Int) == 60) = false := u8_ne h60
    have e116 : ((c.toNat : Int) == 116) = false := u8_ne h116
    have e100 : ((c.toNat : Int) == 100) = false := u8_ne h100
    have e35 : ((c.toNat : Int) == 35) = false := u8_ne h35
    have e40 : ((c.toNat : Int) == 40) = false := u8_ne h40
    have e91 : ((c.toNat : Int) == 91) = false := u8_ne h91
    have HNo := hide (fun h => part_none env.full h110 h118 h97 h113 h119 h117 h114 h115 h122 h112 h109 h111 h43 h42 h61 h60 h116 h100 h35 h40 h91 h (rest s (a + 1)))
    clear h110 h118 h97 h113 h119 h117 h114 h115 h122 h112 h109 h111 h43 h42 h61 h60 h116 h100 h35 h40 h91
    go_wp2_with fail
    refine (readName_any _ (unhide H1) ha1 (unhide HN1) (unhide HNo)).mono ?_
    rintro e w3 ⟨hb3, hg3⟩
    obtain ⟨L, N, K, Tp, Bt, pa, pn, pc, Bo, Ov, ok, b, u', rfl, hb, h3, hcase⟩ := hg3.lay
    have hk3 := (hb3.block w.heap.size (lt_of_block (unhide HK1)) (by omega)).trans (unhide HK1)
    have hc3 : ∀ i, w3.cell? ⟨w.heap.size, i, none⟩ = _ := fun i => blk_cell hk3 i
    have hf3 : ∀ i, w3.frozen? ⟨w.heap.size, i, none⟩ = false := fun i => blk_free hk3 i
    have HB3 := hide hb3
    have H3 := hide h3
    have HC := hide hcase
    clear hk3 hb3 h3 hcase hg3 hc hf
    go_wp2_with fail
    refine bodyPost_ret (v := .tuple #[PC.value ⟨L, N, K, Tp, Bt, pa, pn, pc, Bo, Ov⟩, .bool ok]) (by simp [results, Tryz.results81, go_sem, hc3, PC.value, PC.cells, ptr]) rfl ?_
    rw [unhide HRE]
    exact got_st8 (unhide HB1) (unhide HB3) hsz hB hlt hb (unhide H3) (unhide HC) _ _ _ _ _ _ _ _
end
end Go.Proofs.YtikiaijgcjjloaaGreatDoor

import Derived.Test.YtikiaijgcjjloaaGreatDoorPart11
import Derived.Test.YtikiaijgcjjloaaGreatDoorPart9
import Derived.Deep.DeepCutAuto
import Derived.BigRegion

namespace Go.Proofs.YtikiaijgcjjloaaGreatDoor
open Go Go.RowKit M T Go.Lib
def Okw (B0 : Nat) (w : World) : Nat → Prop := fun k => k < B0 ∨ w.heap.size ≤ k
def GotT (env : Env) (Ok : Nat → Prop) (rb : Nat) (s : ByteArray) (nm : Nat → Option Nat) (u : Bool) (l : List UInt8) (e : Ending) (w' : World) : Prop :=
  ∃ b u', b ≤ s.size ∧ RS rb s nm b u' w' ∧ ((∃ t tb, e = .returned (.tuple #[.pointer (some ⟨tb, 0, none⟩), .bool true]) ∧ RdT env.full l (some (t, rest s b)) ∧ TmIs Ok w' tb t ∧ u' = (u || t.unk env)) ∨ (e = .returned (.tuple #[.pointer none, .bool false]) ∧ RdT env.full l none))
def GotU (c : UInt8) (env : Env) (Ok : Nat → Prop) (rb : Nat) (s : ByteArray) (nm : Nat → Option Nat) (u : Bool) (l : List UInt8) (e : Ending) (w' : World) : Prop :=
  ∃ b u', b ≤ s.size ∧ RS rb s nm b u' w' ∧ ((∃ t tb, e = .returned (.tuple #[.pointer (some ⟨tb, 0, none⟩), .bool true]) ∧ RdT env.full l (some (t, c :: rest s b)) ∧ TmIs Ok w' tb t ∧ u' = (u || t.unk env)) ∨ (e = .returned (.tuple #[.pointer none, .bool false]) ∧ ∃ o, RdT env.full l o ∧ ∀ t r, o ≠ some (t, c :: r)))
def RT (rb : Nat) (s : ByteArray) (nm : Nat → Option Nat) (env : Env) (B0 m : Nat) : Prop := ∀ (a : Nat) (u : Bool) (w : World), RS rb s nm a u w → a ≤ s.size → s.size - a ≤ m → NmIs B0 w nm env → B0 ≤ w.heap.size →
  Calls Tryz.prog 49 #[.pointer (some ⟨rb, 0, none⟩)] w fun e w' => But rb w w' ∧ GotT env (Okw B0 w) rb s nm u (rest s a) e w'
def RP (rb : Nat) (s : ByteArray) (nm : Nat → Option Nat) (env : Env) (B0 m : Nat) : Prop := ∀ (a : Nat) (u : Bool) (w : World), RS rb s nm a u w → a < s.size → s.size - a ≤ m → NmIs B0 w nm env → B0 ≤ w.heap.size →
  Calls Tryz.prog 81 #[.pointer (some ⟨rb, 0, none⟩)] w fun e w' => But rb w w' ∧ Got env (Okw B0 w) rb s nm u (rest s a) e w'
theorem tm_but {B0 rb : Nat} {w w1 w2 : World} {tb : Nat} {t : Tm} (h : TmIs (Okw B0 w) w1 tb t) (hb : But rb w1 w2) (hr : B0 ≤ rb) (hlt : rb < w.heap.size) : TmIs (Okw B0 w) w2 tb t :=
  h.keeps (fun k hk hl => ⟨hb.block k hl (by rcases hk with hk | hk <;> omega), hk⟩)
theorem tm_st8 {B0 : Nat} {w w1 : World} {o : Obj} {tb : Nat} {t : Tm} (h : TmIs (Okw B0 (w.alloc o)) w1 tb t) (hB : B0 ≤ w.heap.size) (v0 v1 v2 v3 v4 v5 v6 v7 : Value) : TmIs (Okw B0 w) (st8 w1 w.heap.size v0 v1 v2 v3 v4 v5 v6 v7) tb t :=
  h.keeps (fun k hk hl => by
    have hs : (w.alloc o).heap.size = w.heap.size + 1 := by simp
    have hne : k ≠ w.heap.size := by rcases hk with hk | hk <;> omega
    exact ⟨st8_heap _ _ _ _ _ _ _ _ _ hne, hk.imp id (fun h => by omega)⟩)
section
variable {rb : Nat} {s : ByteArray} {nm : Nat → Option Nat} {env : Env} {B0 m : Nat}
set_option maxRecDepth 100000 in
set_option maxHeartbeats 800000 in
theorem upTo_of (hT : RT rb s nm env B0 m) (hs : s.size ≤ 120) (hrb : B0 ≤ rb) (c : UInt8) {a : Nat} {u : Bool} (w : World) (h : RS rb s nm a u w) (ha : a ≤ s.size) (hm : s.size - a ≤ m) (hn : NmIs B0 w nm env) (hB : B0 ≤ w.heap.size) :
    Calls Tryz.prog 159 #[.pointer (some ⟨rb, 0, none⟩), .int .u8 (c.toNat : Int)] w fun e w' => But rb w w' ∧ GotU c env (Okw B0 w) rb s nm u (rest s a) e w' := by
  have hlt := h.lt
  have HT := hide hT
  clear hT
  go_enter Tryz.func159, Tryz.ntmps159
  go_wp2_with fail
  refine (unhide HT a u _ h ha hm hn hB).mono ?_
  rintro e w1 ⟨hb1, b, u', hb, h1, ⟨t, tb, rfl, hr, ht, hu⟩ | ⟨rfl, hr⟩⟩
  · have HR := hide hr
    have HTm := hide ht
    have HU := hide hu
    have HB1 := hide hb1
    clear hr ht hu hb1 h hn
    go_wp2_with fail
    refine (pass_any c _ h1 hb hs).mono ?_
    rintro e w2 ⟨hb2, ⟨⟨l, hl⟩, ha2, rfl, h2⟩ | ⟨hl, rfl, h2⟩⟩
    · have HL := hide hl
      have HB2 := hide hb2
      have H2 := hide h2
      clear hl hb2 h2 h1
      go_wp2_with fail
      have e : rest s (b + 1) = l := by rw [rest_add, unhide HL]; rfl
      exact bodyPost_ret (v := .tuple #[.pointer (some ⟨tb, 0, none⟩), .bool true]) (by simp [results, Tryz.results159, go_sem]) rfl ⟨(unhide HB1).trans (unhide HB2), b + 1, u', ha2, unhide H2, Or.inl ⟨t, tb, rfl, by rw [e, ← unhide HL]; exact unhide HR, tm_but (unhide HTm) (unhide HB2) hrb hlt, unhide HU⟩⟩
    · have HL := hide hl
      have HB2 := hide hb2
      have H2 := hide h2
      clear hl hb2 h2 h1
      go_wp2_with fail
      exact bodyPost_ret (v := .tuple #[.pointer none, .bool false]) (by simp [results, Tryz.results159, go_sem]) rfl ⟨(unhide HB1).trans (unhide HB2), b, u', hb, unhide H2, Or.inr ⟨rfl, _, unhide HR, fun t' r e => by simp only [Option.some.injEq, Prod.mk.injEq] at e; exact unhide HL (by rw [e.2]; rfl)⟩⟩
  · have HR := hide hr
    have HB1 := hide hb1
    have H1 := hide h1
    clear hr hb1 h1 h hn
    go_wp2_with fail
    exact bodyPost_ret (v := .tuple #[.pointer none, .bool false]) (by simp [results, Tryz.results159, go_sem]) rfl ⟨unhide HB1, b, u', hb, unhide H1, Or.inr ⟨rfl, none, unhide HR, fun t' r e => by cases e⟩⟩
def pcPow (k : Int) (b : Option Nat) : PC := ⟨40, 0, k, 0, 0, none, 0, 0, b, none⟩
def pcUnd (b o : Option Nat) : PC := ⟨91, 0, 0, 0, 0, none, 0, 0, b, o⟩
set_option maxRecDepth 100000 in
set_option maxHeartbeats 1600000 in
theorem power_of (hT : RT rb s nm env B0 m) (hs : s.size ≤ 120) (hrb : B0 ≤ rb) {a : Nat} {u : Bool} (w : World) (h : RS rb s nm a u w) (ha : a ≤ s.size) (hm : s.size - a ≤ m) (hn : NmIs B0 w nm env) (hB : B0 ≤ w.heap.size) :
    Calls Tryz.prog 119 #[.pointer (some ⟨rb, 0, none⟩)] w fun e w' => But rb w w' ∧ Got env (Okw B0 w) rb s nm u (40 :: rest s a) e w' := by
  have hlt := h.lt
  have HT := hide hT
  clear hT
  go_enter Tryz.func119, Tryz.ntmps119
  go_wp2_with fail
  refine (upTo_of (unhide HT) hs hrb 41 _ (h.alloc _) ha hm (hn.alloc _) (by simp; omega)).mono ?_
  rintro e w1 ⟨hb1, b, u', hb, h1, ⟨t, tb, rfl, hr, ht, hu⟩ | ⟨rfl, o, hr, hno⟩⟩
  · have HR := hide hr
    have HTm := hide ht
    have HU := hide hu
    obtain ⟨hc, hf, hblk⟩ := but_new hb1 hlt
    have HK := hide hblk
    have HB1 := hide hb1.unalloc
    clear hr ht hu hb1 h hn hblk
    go_wp2_with fail
    refine (pass_any 94 _ h1 hb hs).mono ?_
    rintro e w2 ⟨hb2, ⟨⟨l, hl⟩, ha2, rfl, h2⟩ | ⟨hl, rfl, h2⟩⟩
    · have HL := hide hl
      have HB2 := hide ((unhide HB1).trans hb2)
      have HTm2 := hide (tm_but (unhide HTm) hb2 hrb (by simp; omega))
      have hblk2 := (hb2.block w.heap.size (lt_of_block (unhide HK)) (by omega)).trans (unhide HK)
      have HK2 := hide hblk2
      clear hl hb2 h1 HK HTm HB1 hblk2 hc hf
      go_wp2_with fail
      refine (readWhole_any (-999) 999 _ h2 ha2 hs (by decide) (by decide)).mono ?_
      rintro e w3 ⟨hb3, b3, hb3', h3, ⟨k, hk, rfl⟩ | ⟨hk, rfl⟩⟩
      · have hblk3 := (hb3.block w.heap.size (lt_of_block (unhide HK2)) (by omega)).trans (unhide HK2)
        have hc : ∀ i, w3.cell? ⟨w.heap.size, i, none⟩ = _ := fun i => blk_cell hblk3 i
        have hf : ∀ i, w3.frozen? ⟨w.heap.size, i, none⟩ = false := fun i => blk_free hblk3 i
        have HB3 := hide ((unhide HB2).trans hb3)
        have HTm3 := hide (tm_but (unhide HTm2) hb3 hrb (by simp; omega))
        have HKk := hide hk
        have H3 := hide h3
        clear hblk3 hb3 hk h3 h2 HB2 HTm2 HK2
        go_wp2_with fail
        have e1 : rest s b = 94 :: rest s (b + 1) := by
          have : rest s (b + 1) = l := by rw [rest_add, unhide HL]; rfl
          rw [this]; exact unhide HL
        have hr1 := unhide HR
        rw [e1] at hr1
        refine bodyPost_ret (v := .tuple #[PC.value (pcPow k (some tb)), .bool true]) (by simp [results, Tryz.results119, go_sem, hc, PC.value, PC.cells, pcPow, ptr]) rfl ⟨st8_but (unhide HB3) (Nat.le_refl _) _ _ _ _ _ _ _ _, pcPow k (some tb), true, b3, u', rfl, hb3', (unhide H3).st8 (by omega) _ _ _ _ _ _ _ _, Or.inl ⟨rfl, .pow t k, ?_, ?_, ?_⟩⟩
        · exact rdP_pow env.full hr1 (unhide HKk)
        · exact PtIs.pow_iff.2 ⟨rfl, rfl, tb, rfl, tm_st8 (unhide HTm3) hB _ _ _ _ _ _ _ _⟩
        · rw [unhide HU, Pt.unk]
      · have hblk3 := (hb3.block w.heap.size (lt_of_block (unhide HK2)) (by omega)).trans (unhide HK2)
        have hc : ∀ i, w3.cell? ⟨w.heap.size, i, none⟩ = _ := fun i => blk_cell hblk3 i
        have hf : ∀ i, w3.frozen? ⟨w.heap.size, i, none⟩ = false := fun i => blk_free hblk3 i
        have HB3 := hide ((unhide HB2).trans hb3)
        have HKk := hide hk
        have H3 := hide h3
        clear hblk3 hb3 hk h3 h2 HB2 HTm2 HK2
        go_wp2_with fail
        have e1 : rest s b = 94 :: rest s (b + 1) := by
          have : rest s (b + 1) = l := by rw [rest_add, unhide HL]; rfl
          rw [this]; exact unhide HL
        have hr1 := unhide HR
        rw [e1] at hr1
        refine bodyPost_ret (v := .tuple #[PC.value pc0, .bool false]) (by simp [results, Tryz.results119, go_sem, hc, PC.value, PC.cells, pc0, ptr]) rfl ⟨st8_but (unhide HB3) (Nat.le_refl _) _ _ _ _ _ _ _ _, pc0, false, b3, u', rfl, hb3', (unhide H3).st8 (by omega) _ _ _ _ _ _ _ _, Or.inr ⟨rfl, rfl, ?_⟩⟩
        exact rdP_pow env.full hr1 (unhide HKk)
    · have HL := hide hl
      have HB2 := hide ((unhide HB1).trans hb2)
      have hblk2 := (hb2.block w.heap.size (lt_of_block (unhide HK)) (by omega)).trans (unhide HK)
      have hc2 : ∀ i, w2.cell? ⟨w.heap.size, i, none⟩ = _ := fun i => blk_cell hblk2 i
      have hf2 : ∀ i, w2.frozen? ⟨w.heap.size, i, none⟩ = false := fun i => blk_free hblk2 i
      have H2 := hide h2
      clear hl hb2 h1 h2 HK HTm HB1 hblk2 hc hf
      go_wp2_with fail
      refine bodyPost_ret (v := .tuple #[PC.value pc0, .bool false]) (by simp [results, Tryz.results119, go_sem, hc2, PC.value, PC.cells, pc0, ptr]) rfl ⟨st8_but (unhide HB2) (Nat.le_refl _) _ _ _ _ _ _ _ _, pc0, false, b, u', rfl, hb, (unhide H2).st8 (by omega) _ _ _ _ _ _ _ _, Or.inr ⟨rfl, rfl, ?_⟩⟩
      refine rdP_pow_none env.full (unhide HR) (fun f r e => ?_)
      simp only [Option.some.injEq, Prod.mk.injEq, List.cons.injEq, true_and] at e
      exact unhide HL (by rw [e.2]; rfl)
  · have HR := hide hr
    have HNo := hide hno
    obtain ⟨hc, hf, _⟩ := but_new hb1 hlt
    have HB1 := hide hb1.unalloc
    have H1 := hide h1
    clear hr hno hb1 h1 h hn
    go_wp2_with fail
    refine bodyPost_ret (v := .tuple #[PC.value pc0, .bool false]) (by simp [results, Tryz.results119, go_sem, hc, PC.value, PC.cells, pc0, ptr]) rfl ⟨st8_but (unhide HB1) (Nat.le_refl _) _ _ _ _ _ _ _ _, pc0, false, b, u', rfl, hb, (unhide H1).st8 (by omega) _ _ _ _ _ _ _ _, Or.inr ⟨rfl, rfl, ?_⟩⟩
    exact rdP_pow_none env.full (unhide HR) (fun f r e => unhide HNo f _ e)
end
section
variable {rb : Nat} {s : ByteArray} {nm : Nat → Option Nat} {env : Env} {B0 m : Nat}
set_option maxRecDepth 100000 in
set_option maxHeartbeats 1600000 in
theorem under_of (hT : RT rb s nm env B0 m) (hs : s.size ≤ 120) (hrb : B0 ≤ rb) {a : Nat} {u : Bool} (w : World) (h : RS rb s nm a u w) (ha : a ≤ s.size) (hm : s.size - a ≤ m) (hn : NmIs B0 w nm env) (hB : B0 ≤ w.heap.size) :
    Calls Tryz.prog 120 #[.pointer (some ⟨rb, 0, none⟩)] w fun e w' => But rb w w' ∧ Got env (Okw B0 w) rb s nm u (91 :: rest s a) e w' := by
  have hlt := h.lt
  have HT := hide hT
  clear hT
  go_enter Tryz.func120, Tryz.ntmps120
  go_wp2_with fail
  refine (upTo_of (unhide HT) hs hrb 58 _ (h.alloc _) ha hm (hn.alloc _) (by simp; omega)).mono ?_
  rintro e w1 ⟨hb1, b, u', hb, h1, ⟨t, tb, rfl, hr, ht, hu⟩ | ⟨rfl, o, hr, hno⟩⟩
  · have HR := hide hr
    have HTm := hide ht
    have HU := hide hu
    obtain ⟨hc, hf, hblk⟩ := but_new hb1 hlt
    have HK := hide hblk
    have HB1 := hide hb1.unalloc
    have hsz1 := hb1.size
    have hn1 := (hn.alloc _).but hb1 hrb
    have hmv : a < b := by
      have := congrArg List.length (hr.sound _ _ rfl).2.2.1
      rw [List.length_append, List.length_cons, rest_len, rest_len] at this
      omega
    clear hr ht hu hb1 h hn hblk
    go_wp2_with fail
    refine (upTo_of (unhide HT) hs hrb 93 _ h1 hb (by omega) hn1 (by simp at hsz1; omega)).mono ?_
    rintro e w2 ⟨hb2, b2, u2, hb2', h2, ⟨t2, tb2, rfl, hr2, ht2, hu2⟩ | ⟨rfl, o2, hr2, hno2⟩⟩
    · have HR2 := hide hr2
      have HU2 := hide hu2
      have HB2 := hide ((unhide HB1).trans hb2)
      have HTm1 := hide (tm_but (unhide HTm) hb2 hrb (by simp; omega))
      have HTm2 := hide ht2
      have hblk2 := (hb2.block w.heap.size (lt_of_block (unhide HK)) (by omega)).trans (unhide HK)
      have hc2 : ∀ i, w2.cell? ⟨w.heap.size, i, none⟩ = _ := fun i => blk_cell hblk2 i
      have hf2 : ∀ i, w2.frozen? ⟨w.heap.size, i, none⟩ = false := fun i => blk_free hblk2 i
      have H2 := hide h2
      clear hr2 hu2 ht2 hblk2 hb2 h2 h1 HB1 HTm HK hc hf hn1
      go_wp2_with fail
      refine bodyPost_ret (v := .tuple #[PC.value (pcUnd (some tb2) (some tb)), .bool true]) (by simp [results, Tryz.results120, go_sem, hc2, PC.value, PC.cells, pcUnd, ptr]) rfl ⟨st8_but (unhide HB2) (Nat.le_refl _) _ _ _ _ _ _ _ _, pcUnd (some tb2) (some tb), true, b2, u2, rfl, hb2', (unhide H2).st8 (by omega) _ _ _ _ _ _ _ _, Or.inl ⟨rfl, .under t t2, rdP_under env.full (unhide HR) (unhide HR2), ?_, ?_⟩⟩
      · refine PtIs.under_iff.2 ⟨rfl, ⟨tb2, rfl, ?_⟩, tb, rfl, tm_st8 (unhide HTm1) hB _ _ _ _ _ _ _ _⟩
        refine (unhide HTm2).keeps (fun k hk hl => ?_)
        have hsz : w.heap.size + 1 ≤ w1.heap.size := by simpa using hsz1
        have hne : k ≠ w.heap.size := by rcases hk with hk | hk <;> omega
        exact ⟨st8_heap _ _ _ _ _ _ _ _ _ hne, hk.imp id (fun h => by omega)⟩
      · rw [unhide HU2, unhide HU, Pt.unk, Bool.or_assoc]
    · have HR2 := hide hr2
      have HNo2 := hide hno2
      have HB2 := hide ((unhide HB1).trans hb2)
      have hblk2 := (hb2.block w.heap.size (lt_of_block (unhide HK)) (by omega)).trans (unhide HK)
      have hc2 : ∀ i, w2.cell? ⟨w.heap.size, i, none⟩ = _ := fun i => blk_cell hblk2 i
      have hf2 : ∀ i, w2.frozen? ⟨w.heap.size, i, none⟩ = false := fun i => blk_free hblk2 i
      have H2 := hide h2
      clear hr2 hno2 hblk2 hb2 h2 h1 HB1 HTm HK hc hf hn1
      go_wp2_with fail
      refine bodyPost_ret (v := .tuple #[PC.value pc0, .bool false]) (by simp [results, Tryz.results120, go_sem, hc2, PC.value, PC.cells, pc0, ptr]) rfl ⟨st8_but (unhide HB2) (Nat.le_refl _) _ _ _ _ _ _ _ _, pc0, false, b2, u2, rfl, hb2', (unhide H2).st8 (by omega) _ _ _ _ _ _ _ _, Or.inr ⟨rfl, rfl, rdP_under_none2 env.full (unhide HR) (unhide HR2) (fun g q e => unhide HNo2 g q e)⟩⟩
  · have HR := hide hr
    have HNo := hide hno
    obtain ⟨hc, hf, _⟩ := but_new hb1 hlt
    have HB1 := hide hb1.unalloc
    have H1 := hide h1
    clear hr hno hb1 h1 h hn
    go_wp2_with fail
    refine bodyPost_ret (v := .tuple #[PC.value pc0, .bool false]) (by simp [results, Tryz.results120, go_sem, hc, PC.value, PC.cells, pc0, ptr]) rfl ⟨st8_but (unhide HB1) (Nat.le_refl _) _ _ _ _ _ _ _ _, pc0, false, b, u', rfl, hb, (unhide H1).st8 (by omega) _ _ _ _ _ _ _ _, Or.inr ⟨rfl, rfl, rdP_under_none env.full (unhide HR) (fun g q e => unhide HNo g q e)⟩⟩
end
def NumSays (s : List UInt8) (t b : Int) (ok : Bool) : Prop := (ok = true ∧ IsNum s t b) ∨ (ok = false ∧ t = 0 ∧ b = 0 ∧ ∀ t b, ¬ IsNum s t b)
theorem nRead_one (s : ByteArray) (w : World) (hs : s.size ≤ maxLen) :
    Calls Tryz.prog 51 #[.string s] w fun e w' => ∃ t b ok, e = .returned (.tuple #[.agg #[.int .i64 t, .int .i64 b], .bool ok]) ∧ NumSays s.data.toList t b ok ∧ Below w.heap.size w w' := by
  refine (Read_any s w hs).mono ?_
  rintro e w1 ⟨⟨t, b, hn, rfl⟩ | ⟨hn, rfl⟩, hb1⟩
  · exact ⟨t, b, true, rfl, Or.inl ⟨rfl, hn⟩, hb1⟩
  · exact ⟨0, 0, false, rfl, Or.inr ⟨rfl, rfl, rfl, hn⟩, hb1⟩
def nv (s : ByteArray) (a : Nat) : Nat := (spanV (rest s a)).1.length
theorem rest_nv (s : ByteArray) (a : Nat) : rest s (a + nv s a) = (spanV (rest s a)).2 := by
  rw [rest_add]
  unfold nv
  have h := spanV_app (rest s a)
  generalize (spanV (rest s a)).1 = x at h
  generalize (spanV (rest s a)).2 = y at h
  rw [← h]
  simp
theorem nv_le {s : ByteArray} {a : Nat} (h : a ≤ s.size) : a + nv s a ≤ s.size := by
  have h1 := congrArg List.length (spanV_app (rest s a))
  rw [List.length_append, rest_len] at h1
  unfold nv
  omega
theorem ext_nv (s : ByteArray) (a : Nat) : (s.extract a (a + nv s a)).data.toList = (spanV (rest s a)).1 := by
  rw [ext_list, Nat.add_sub_cancel_left]
  unfold nv
  show (rest s a).take _ = _
  have h := spanV_app (rest s a)
  generalize (spanV (rest s a)).1 = x at h ⊢
  generalize (spanV (rest s a)).2 = y at h
  rw [← h]
  simp
theorem nv_slash {s : ByteArray} {a : Nat} {l : List UInt8} (h : rest s (a + nw s a) = 47 :: l) : a + nv s a = a + nw s a + 1 + nd s (a + nw s a + 1) := by
  have e : rest s (a + nw s a + 1) = l := by rw [rest_add, h]; rfl
  rw [rest_nw] at h
  unfold nv spanV nd
  rw [e, h]
  simp
  unfold nw
  omega
theorem nv_plain {s : ByteArray} {a : Nat} (h : (rest s (a + nw s a)).head? ≠ some 47) : nv s a = nw s a := by
  rw [rest_nw] at h
  unfold nv spanV nw
  rw [if_neg h]
def pcVal (c : UInt8) (t b : Int) : PC := ⟨c, 0, 0, t, b, none, 0, 0, none, none⟩
theorem val_yes {env : Env} {Ok : Nat → Prop} {w : World} {s : ByteArray} {a : Nat} {c : UInt8} (hc : c = 43 ∨ c = 42 ∨ c = 61) {t b : Int} (hx : (s.extract a (a + nv s a)).data.toList = (spanV (rest s a)).1) (h : NumSays (s.extract a (a + nv s a)).data.toList t b true) : ∃ p, RdP env.full (c :: rest s a) (some (p, rest s (a + nv s a))) ∧ PtIs Ok w (pcVal c t b) p ∧ p.unk env = false := by
  rw [hx] at h
  rcases h with ⟨_, h⟩ | ⟨h, _⟩
  · obtain ⟨x, h1, h2, rfl, rfl⟩ := isNum_rat h
    refine ⟨.sp (valSp c x), ?_, ?_, by rw [Pt.unk]⟩
    · refine rdP_val env.full hc h1 h2 (by rw [rest_nv]; exact spanV_app _) (fun y r' hr e => ?_)
      have := spanV_rat y hr
      rw [← e] at this
      rw [rest_nv, this]
      exact ⟨rfl, rfl⟩
    · rw [PtIs]
      rcases hc with rfl | rfl | rfl <;> exact ⟨rfl, rfl, rfl⟩
  · cases h
theorem val_no {env : Env} {s : ByteArray} {a : Nat} {c : UInt8} (hc : c = 43 ∨ c = 42 ∨ c = 61) {t b : Int} (hx : (s.extract a (a + nv s a)).data.toList = (spanV (rest s a)).1) (h : NumSays (s.extract a (a + nv s a)).data.toList t b false) : RdP env.full (c :: rest s a) none := by
  rw [hx] at h
  rcases h with ⟨h, _⟩ | ⟨_, _, _, h⟩
  · cases h
  · refine rdP_val_none env.full hc h (fun y r' hr e => ?_)
    have := spanV_rat y hr
    rw [← e] at this
    rw [this]
theorem val_wa {rb : Nat} {s : ByteArray} {nm : Nat → Option Nat} {a : Nat} {u : Bool} {w wc w4 : World} {m : Nat} {c : Array Value} {T : TypeId} (h3 : RS rb s nm a u wc) (hb3 : But rb w wc) (hk3 : wc.heap[m]? = some (.cells c T (0, 0))) (hb4 : Below wc.drew.heap.size wc.drew w4) (t b : Value) (D : TypeId) :
    RS rb s nm a u (w4.alloc (.cells #[t, b] D)) ∧ But rb w (w4.alloc (.cells #[t, b] D)) ∧ (w4.alloc (.cells #[t, b] D)).heap[m]? = some (.cells c T (0, 0)) ∧ (w4.alloc (.cells #[t, b] D)).cell? ⟨w4.heap.size, 0, none⟩ = some t ∧ (w4.alloc (.cells #[t, b] D)).cell? ⟨w4.heap.size, 1, none⟩ = some b := by
  obtain ⟨q1, q2⟩ := h3.drew.but hb4
  have hlt : m < wc.heap.size := lt_of_block hk3
  have hsz : wc.heap.size ≤ w4.heap.size := hb4.size
  refine ⟨q1.alloc _, (hb3.drew.trans q2).alloc _, ?_, by simp [go_sem], by simp [go_sem]⟩
  rw [Below.heap_alloc _ _ _ (by omega), hb4.block m hlt]
  exact hk3
theorem val_wb {rb : Nat} {s : ByteArray} {nm : Nat → Option Nat} {a : Nat} {u : Bool} {w wc w4 : World} {m : Nat} {c : Array Value} {T D : TypeId} {x y : Value} (h3 : RS rb s nm a u wc) (hb3 : But rb w wc) (hk3 : wc.heap[m]? = some (.cells c T (0, 0))) (hb4 : Below (wc.alloc (.cells #[x, y] D)).drew.heap.size (wc.alloc (.cells #[x, y] D)).drew w4) (t b : Value) :
    RS rb s nm a u ((w4.setCell ⟨wc.heap.size, 0, none⟩ t).setCell ⟨wc.heap.size, 1, none⟩ b) ∧ But rb w ((w4.setCell ⟨wc.heap.size, 0, none⟩ t).setCell ⟨wc.heap.size, 1, none⟩ b) ∧ ((w4.setCell ⟨wc.heap.size, 0, none⟩ t).setCell ⟨wc.heap.size, 1, none⟩ b).heap[m]? = some (.cells c T (0, 0)) ∧ ((w4.setCell ⟨wc.heap.size, 0, none⟩ t).setCell ⟨wc.heap.size, 1, none⟩ b).cell? ⟨wc.heap.size, 0, none⟩ = some t ∧ ((w4.setCell ⟨wc.heap.size, 0, none⟩ t).setCell ⟨wc.heap.size, 1, none⟩ b).cell? ⟨wc.heap.size, 1, none⟩ = some b := by
  obtain ⟨q1, q2⟩ := (h3.alloc (.cells #[x, y] D)).drew.but hb4
  have hlt : m < wc.heap.size := lt_of_block hk3
  have hlr := h3.lt
  have hn : w4.heap[wc.heap.size]? = some (.cells #[x, y] D (0, 0)) := by
    rw [hb4.block wc.heap.size (by show _ < (wc.heap.push _).size; simp)]
    exact heap_alloc_new wc _
  have hn1 := blk_set hn 0 t
  have hn2 := blk_set hn1 1 b
  refine ⟨⟨?_⟩, ((hb3.alloc _).drew.trans q2).setNew (by exact hb3.size) _ |>.setNew (by exact hb3.size) _, ?_, ?_, ?_⟩
  · rw [Below.heap_setCell _ _ _ _ (by show rb ≠ wc.heap.size; omega), Below.heap_setCell _ _ _ _ (by show rb ≠ wc.heap.size; omega)]
    exact q1.blk
  · rw [Below.heap_setCell _ _ _ _ (by show m ≠ wc.heap.size; omega), Below.heap_setCell _ _ _ _ (by show m ≠ wc.heap.size; omega), hb4.block m (by show _ < (wc.heap.push _).size; simp; omega)]
    show (wc.alloc _).heap[m]? = _
    rw [Below.heap_alloc _ _ _ hlt]
    exact hk3
  · rw [blk_cell hn2]; rfl
  · rw [blk_cell hn2]; rfl
set_option maxRecDepth 100000 in
set_option maxHeartbeats 1600000 in
theorem readValued_any {rb : Nat} {s : ByteArray} {nm : Nat → Option Nat} {a : Nat} {u : Bool} {c : UInt8} (hc0 : c = 43 ∨ c = 42 ∨ c = 61) (env : Env) (Ok : Nat → Prop) (w : World) (h : RS rb s nm a u w) (ha : a ≤ s.size) (hs : s.size ≤ 120) :
    Calls Tryz.prog 116 #[.pointer (some ⟨rb, 0, none⟩), .int .u8 (c.toNat : Int)] w fun e w' => But rb w w' ∧ Got env Ok rb s nm u (c :: rest s a) e w' := by
  have hT := h.text
  have hA := h.pos
  have hle := nv_le ha
  have hlt := h.lt
  have HX := hide (ext_nv s a)
  have hbd : a ≤ a + nv s a := Nat.le_add_right _ _
  go_enter Tryz.func116, Tryz.ntmps116
  go_wp2_with fail
  refine (passWhole_any _ (h.alloc _) ha hs).mono ?_
  rintro e w1 ⟨hb1, rfl, h1⟩
  have HB1 := hide hb1.unalloc
  obtain ⟨hc, hf, hblk⟩ := but_new hb1 h.lt
  have HK := hide hblk
  clear hT hA hb1 h hblk
  go_wp2_with fail
  refine (pass_any 47 _ h1 (nw_le ha) hs).mono ?_
  rintro e w2 ⟨hb2, hor⟩
  have hk2 : w2.heap[w.heap.size]? = _ := (hb2.block w.heap.size (lt_of_block (unhide HK)) (by omega)).trans (unhide HK)
  have HK2 := hide hk2
  have HB2 := hide ((unhide HB1).trans hb2)
  have HO := hide hor
  clear hc hf HK HB1 h1 hk2 hb2 hor
  obtain ⟨ok, hok⟩ : ∃ ok, e = .returned (.bool ok) := by
    rcases unhide HO with ⟨_, _, rfl, _⟩ | ⟨_, rfl, _⟩
    · exact ⟨_, rfl⟩
    · exact ⟨_, rfl⟩
  subst hok
  go_upto_if 18 with fail
  go_cut [] (fun wx => RS rb s nm (a + nv s a) u wx ∧ But rb w wx ∧ wx.heap[w.heap.size]? = some (.cells #[.int .u8 0, .int .u8 0, .int .i64 0, .int .i64 0, .int .i64 0, .slice none 0 0, .pointer none, .pointer none] 148 (0, 0)))
  case first =>
    rcases unhide HO with ⟨⟨l, hl⟩, ha2, he, h2⟩ | ⟨hl, he, h2⟩
    · cases he
      have HV := hide (nv_slash hl)
      clear hl
      go_wp2_with fail
      refine (passDigits_any _ h2 ha2 hs).mono ?_
      rintro e w3 ⟨hb3, rfl, h3⟩
      rw [← unhide HV] at h3
      have hk3 := (hb3.block w.heap.size (lt_of_block (unhide HK2)) (by omega)).trans (unhide HK2)
      have H3 := hide h3
      have HK3 := hide hk3
      have HB3 := hide ((unhide HB2).trans hb3)
      clear h3 hk3 hb3 h2
      go_wp2_with fail
      go_meet
      exact ⟨unhide H3, unhide HB3, unhide HK3⟩
    · cases he
      have HV := hide (nv_plain hl)
      have H2 := hide h2
      clear hl h2
      go_wp2_with fail
      go_meet
      exact ⟨by rw [unhide HV]; exact unhide H2, unhide HB2, unhide HK2⟩
  case rest =>
    clear HO HK2 HB2
    obtain ⟨h3, hb3, hk3⟩ := hcut
    have hT3 := h3.text
    have hA3 := h3.pos
    have hlt3 := h3.lt
    have hlk := lt_of_block hk3
    have H3 := hide h3
    have HB3 := hide hb3
    have HK3 := hide hk3
    clear h3 hb3 hk3
    go_upto_region 6 with fail
    go_cut [8, 9] (fun v8 v9 wx => ∃ t b ok n, NumSays (s.extract a (a + nv s a)).data.toList t b ok ∧ v8 = .pointer (some ⟨n, 0, none⟩) ∧ v9 = .bool ok ∧ RS rb s nm (a + nv s a) u wx ∧ But rb w wx ∧ wx.heap[w.heap.size]? = some (.cells #[.int .u8 0, .int .u8 0, .int .i64 0, .int .i64 0, .int .i64 0, .slice none 0 0, .pointer none, .pointer none] 148 (0, 0)) ∧ wx.cell? ⟨n, 0, none⟩ = some (.int .i64 t) ∧ wx.cell? ⟨n, 1, none⟩ = some (.int .i64 b))
    case first =>
      go_region_with (go_at_call 51; refine (nRead_one _ _ ?_).mono ?_; (have := ext_size s a (a + nv s a); unfold maxLen; omega); rintro e w4 ⟨t, b, ok, rfl, hsay, hb4⟩; obtain ⟨hc4, hf4⟩ := bcell hb4)
      all_goals go_wp2_with fail
      all_goals go_meet
      all_goals first
        | exact ⟨t, b, ok, _, hsay, rfl, rfl, val_wa (unhide H3) (unhide HB3) (unhide HK3) hb4 _ _ _⟩
        | exact ⟨t, b, ok, _, hsay, rfl, rfl, val_wb (unhide H3) (unhide HB3) (unhide HK3) hb4 _ _⟩
    case rest =>
      obtain ⟨t, b, ok, n, hsay, rfl, rfl, h4, hb4, hk4, hv1, hv2⟩ := hcut
      have hc : ∀ i, wc.cell? ⟨w.heap.size, i, none⟩ = _ := fun i => blk_cell hk4 i
      have hf : ∀ i, wc.frozen? ⟨w.heap.size, i, none⟩ = false := fun i => blk_free hk4 i
      have HS := hide hsay
      have H4 := hide h4
      have HB4 := hide hb4
      clear hsay h4 hb4 hk4 H3 HB3 HK3 hT3 hA3
      cases ok with
      | true =>
        go_wp2_with fail
        obtain ⟨p, hp1, hp2, hp3⟩ := val_yes (env := env) (Ok := Ok) (w := st8 wc w.heap.size (.int .u8 (c.toNat : Int)) (.int .u8 0) (.int .i64 0) (.int .i64 t) (.int .i64 b) (.slice none 0 0) (.pointer none) (.pointer none)) hc0 (unhide HX) (unhide HS)
        exact bodyPost_ret (v := .tuple #[PC.value (pcVal c t b), .bool true]) (by simp [results, Tryz.results116, go_sem, hc, PC.value, PC.cells, pcVal, ptr]) rfl ⟨st8_but (unhide HB4) (Nat.le_refl _) _ _ _ _ _ _ _ _, pcVal c t b, true, a + nv s a, u, rfl, hle, (unhide H4).st8 (by omega) _ _ _ _ _ _ _ _, Or.inl ⟨rfl, p, hp1, hp2, by rw [hp3]; simp⟩⟩
      | false =>
        go_wp2_with fail
        exact bodyPost_ret (v := .tuple #[PC.value pc0, .bool false]) (by simp [results, Tryz.results116, go_sem, hc, PC.value, PC.cells, pc0, ptr]) rfl ⟨st8_but (unhide HB4) (Nat.le_refl _) _ _ _ _ _ _ _ _, pc0, false, a + nv s a, u, rfl, hle, (unhide H4).st8 (by omega) _ _ _ _ _ _ _ _, Or.inr ⟨rfl, rfl, val_no hc0 (unhide HX) (unhide HS)⟩⟩
end Go.Proofs.YtikiaijgcjjloaaGreatDoor

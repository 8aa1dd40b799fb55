import Derived.Test.YtknokhbilckmiaaGreatDoorPart26

/- The walks: the program's reader: terms within brackets. -/
namespace Go.Proofs.YtknokhbilckmiaaGreatDoor
open Go Go.RowKit M T Go.Lib

def Okw (B0 : Nat) (w : World) : Nat → Prop := fun k => k < B0 ∨ w.heap.size ≤ k
/-- What a function that reads a term answers. -/
def GotT (env : Env) (Ok : Nat → Prop) (rb : Nat) (s : ByteArray) (nm : Nat → Option Nat) (u : Bool) (l : List UInt8) (e : Ending) (w' : World) : Prop :=
  ∃ b u', b ≤ s.size ∧ RS rb s nm b u' w' ∧ ((∃ t tb, e = .returned (.tuple #[.pointer (some ⟨tb, 0, none⟩), .bool true]) ∧ RdT env.full l (some (t, rest s b)) ∧ TmIs Ok w' tb t ∧ u' = (u || t.unk env)) ∨ (e = .returned (.tuple #[.pointer none, .bool false]) ∧ RdT env.full l none))
/-- The same up to a byte that must end it. -/
def GotU (c : UInt8) (env : Env) (Ok : Nat → Prop) (rb : Nat) (s : ByteArray) (nm : Nat → Option Nat) (u : Bool) (l : List UInt8) (e : Ending) (w' : World) : Prop :=
  ∃ b u', b ≤ s.size ∧ RS rb s nm b u' w' ∧ ((∃ t tb, e = .returned (.tuple #[.pointer (some ⟨tb, 0, none⟩), .bool true]) ∧ RdT env.full l (some (t, c :: rest s b)) ∧ TmIs Ok w' tb t ∧ u' = (u || t.unk env)) ∨ (e = .returned (.tuple #[.pointer none, .bool false]) ∧ ∃ o, RdT env.full l o ∧ ∀ t r, o ≠ some (t, c :: r)))
def RT (rb : Nat) (s : ByteArray) (nm : Nat → Option Nat) (env : Env) (B0 m : Nat) : Prop := ∀ (a : Nat) (u : Bool) (w : World), RS rb s nm a u w → a ≤ s.size → s.size - a ≤ m → NmIs B0 w nm env → B0 ≤ w.heap.size →
  Calls Tryz.prog 45 #[.pointer (some ⟨rb, 0, none⟩)] w fun e w' => But rb w w' ∧ GotT env (Okw B0 w) rb s nm u (rest s a) e w'
def RP (rb : Nat) (s : ByteArray) (nm : Nat → Option Nat) (env : Env) (B0 m : Nat) : Prop := ∀ (a : Nat) (u : Bool) (w : World), RS rb s nm a u w → a < s.size → s.size - a ≤ m → NmIs B0 w nm env → B0 ≤ w.heap.size →
  Calls Tryz.prog 77 #[.pointer (some ⟨rb, 0, none⟩)] w fun e w' => But rb w w' ∧ Got env (Okw B0 w) rb s nm u (rest s a) e w'
/-- What lies in memory of a reader's making stays while it goes on. -/
theorem tm_but {B0 rb : Nat} {w w1 w2 : World} {tb : Nat} {t : Tm} (h : TmIs (Okw B0 w) w1 tb t) (hb : But rb w1 w2) (hr : B0 ≤ rb) (hlt : rb < w.heap.size) : TmIs (Okw B0 w) w2 tb t :=
  h.keeps (fun k hk hl => ⟨hb.block k hl (by rcases hk with hk | hk <;> omega), hk⟩)
theorem tm_st8 {B0 : Nat} {w w1 : World} {o : Obj} {tb : Nat} {t : Tm} (h : TmIs (Okw B0 (w.alloc o)) w1 tb t) (hB : B0 ≤ w.heap.size) (v0 v1 v2 v3 v4 v5 v6 v7 : Value) : TmIs (Okw B0 w) (st8 w1 w.heap.size v0 v1 v2 v3 v4 v5 v6 v7) tb t :=
  h.keeps (fun k hk hl => by
    have hs : (w.alloc o).heap.size = w.heap.size + 1 := by simp
    have hne : k ≠ w.heap.size := by rcases hk with hk | hk <;> omega
    exact ⟨st8_heap _ _ _ _ _ _ _ _ _ hne, hk.imp id (fun h => by omega)⟩)

section
variable {rb : Nat} {s : ByteArray} {nm : Nat → Option Nat} {env : Env} {B0 m : Nat}

set_option maxRecDepth 100000 in
set_option maxHeartbeats 800000 in
theorem upTo_of (hT : RT rb s nm env B0 m) (hs : s.size ≤ 120) (hrb : B0 ≤ rb) (c : UInt8) {a : Nat} {u : Bool} (w : World) (h : RS rb s nm a u w) (ha : a ≤ s.size) (hm : s.size - a ≤ m) (hn : NmIs B0 w nm env) (hB : B0 ≤ w.heap.size) :
    Calls Tryz.prog 152 #[.pointer (some ⟨rb, 0, none⟩), .int .u8 (c.toNat : Int)] w fun e w' => But rb w w' ∧ GotU c env (Okw B0 w) rb s nm u (rest s a) e w' := by
  have hlt := h.lt
  have HT := hide hT
  clear hT
  go_enter Tryz.func152, Tryz.ntmps152
  go_wp2_with fail
  refine (unhide HT a u _ h ha hm hn hB).mono ?_
  rintro e w1 ⟨hb1, b, u', hb, h1, ⟨t, tb, rfl, hr, ht, hu⟩ | ⟨rfl, hr⟩⟩
  · have HR := hide hr
    have HTm := hide ht
    have HU := hide hu
    have HB1 := hide hb1
    clear hr ht hu hb1 h hn
    go_wp2_with fail
    refine (pass_any c _ h1 hb hs).mono ?_
    rintro e w2 ⟨hb2, ⟨⟨l, hl⟩, ha2, rfl, h2⟩ | ⟨hl, rfl, h2⟩⟩
    · have HL := hide hl
      have HB2 := hide hb2
      have H2 := hide h2
      clear hl hb2 h2 h1
      go_wp2_with fail
      have e : rest s (b + 1) = l := by rw [rest_add, unhide HL]; rfl
      exact bodyPost_ret (v := .tuple #[.pointer (some ⟨tb, 0, none⟩), .bool true]) (by simp [results, Tryz.results152, go_sem]) rfl ⟨(unhide HB1).trans (unhide HB2), b + 1, u', ha2, unhide H2, Or.inl ⟨t, tb, rfl, by rw [e, ← unhide HL]; exact unhide HR, tm_but (unhide HTm) (unhide HB2) hrb hlt, unhide HU⟩⟩
    · have HL := hide hl
      have HB2 := hide hb2
      have H2 := hide h2
      clear hl hb2 h2 h1
      go_wp2_with fail
      exact bodyPost_ret (v := .tuple #[.pointer none, .bool false]) (by simp [results, Tryz.results152, go_sem]) rfl ⟨(unhide HB1).trans (unhide HB2), b, u', hb, unhide H2, Or.inr ⟨rfl, _, unhide HR, fun t' r e => by simp only [Option.some.injEq, Prod.mk.injEq] at e; exact unhide HL (by rw [e.2]; rfl)⟩⟩
  · have HR := hide hr
    have HB1 := hide hb1
    have H1 := hide h1
    clear hr hb1 h1 h hn
    go_wp2_with fail
    exact bodyPost_ret (v := .tuple #[.pointer none, .bool false]) (by simp [results, Tryz.results152, go_sem]) rfl ⟨unhide HB1, b, u', hb, unhide H1, Or.inr ⟨rfl, none, unhide HR, fun t' r e => by cases e⟩⟩

def pcPow (k : Int) (b : Option Nat) : PC := ⟨40, 0, k, 0, 0, none, 0, 0, b, none⟩
def pcUnd (b o : Option Nat) : PC := ⟨91, 0, 0, 0, 0, none, 0, 0, b, o⟩

set_option maxRecDepth 100000 in
set_option maxHeartbeats 1600000 in
theorem power_of (hT : RT rb s nm env B0 m) (hs : s.size ≤ 120) (hrb : B0 ≤ rb) {a : Nat} {u : Bool} (w : World) (h : RS rb s nm a u w) (ha : a ≤ s.size) (hm : s.size - a ≤ m) (hn : NmIs B0 w nm env) (hB : B0 ≤ w.heap.size) :
    Calls Tryz.prog 115 #[.pointer (some ⟨rb, 0, none⟩)] w fun e w' => But rb w w' ∧ Got env (Okw B0 w) rb s nm u (40 :: rest s a) e w' := by
  have hlt := h.lt
  have HT := hide hT
  clear hT
  go_enter Tryz.func115, Tryz.ntmps115
  go_wp2_with fail
  refine (upTo_of (unhide HT) hs hrb 41 _ (h.alloc _) ha hm (hn.alloc _) (by simp; omega)).mono ?_
  rintro e w1 ⟨hb1, b, u', hb, h1, ⟨t, tb, rfl, hr, ht, hu⟩ | ⟨rfl, o, hr, hno⟩⟩
  · have HR := hide hr
    have HTm := hide ht
    have HU := hide hu
    obtain ⟨hc, hf, hblk⟩ := but_new hb1 hlt
    have HK := hide hblk
    have HB1 := hide hb1.unalloc
    clear hr ht hu hb1 h hn hblk
    go_wp2_with fail
    refine (pass_any 94 _ h1 hb hs).mono ?_
    rintro e w2 ⟨hb2, ⟨⟨l, hl⟩, ha2, rfl, h2⟩ | ⟨hl, rfl, h2⟩⟩
    · have HL := hide hl
      have HB2 := hide ((unhide HB1).trans hb2)
      have HTm2 := hide (tm_but (unhide HTm) hb2 hrb (by simp; omega))
      have hblk2 := (hb2.block w.heap.size (lt_of_block (unhide HK)) (by omega)).trans (unhide HK)
      have HK2 := hide hblk2
      clear hl hb2 h1 HK HTm HB1 hblk2 hc hf
      go_wp2_with fail
      refine (readWhole_any (-999) 999 _ h2 ha2 hs (by decide) (by decide)).mono ?_
      rintro e w3 ⟨hb3, b3, hb3', h3, ⟨k, hk, rfl⟩ | ⟨hk, rfl⟩⟩
      · have hblk3 := (hb3.block w.heap.size (lt_of_block (unhide HK2)) (by omega)).trans (unhide HK2)
        have hc : ∀ i, w3.cell? ⟨w.heap.size, i, none⟩ = _ := fun i => blk_cell hblk3 i
        have hf : ∀ i, w3.frozen? ⟨w.heap.size, i, none⟩ = false := fun i => blk_free hblk3 i
        have HB3 := hide ((unhide HB2).trans hb3)
        have HTm3 := hide (tm_but (unhide HTm2) hb3 hrb (by simp; omega))
        have HKk := hide hk
        have H3 := hide h3
        clear hblk3 hb3 hk h3 h2 HB2 HTm2 HK2
        go_wp2_with fail
        have e1 : rest s b = 94 :: rest s (b + 1) := by
          have : rest s (b + 1) = l := by rw [rest_add, unhide HL]; rfl
          rw [this]; exact unhide HL
        have hr1 := unhide HR
        rw [e1] at hr1
        refine bodyPost_ret (v := .tuple #[PC.value (pcPow k (some tb)), .bool true]) (by simp [results, Tryz.results115, go_sem, hc, PC.value, PC.cells, pcPow, ptr]) rfl ⟨st8_but (unhide HB3) (Nat.le_refl _) _ _ _ _ _ _ _ _, pcPow k (some tb), true, b3, u', rfl, hb3', (unhide H3).st8 (by omega) _ _ _ _ _ _ _ _, Or.inl ⟨rfl, .pow t k, ?_, ?_, ?_⟩⟩
        · exact rdP_pow env.full hr1 (unhide HKk)
        · exact PtIs.pow_iff.2 ⟨rfl, rfl, tb, rfl, tm_st8 (unhide HTm3) hB _ _ _ _ _ _ _ _⟩
        · rw [unhide HU, Pt.unk]
      · have hblk3 := (hb3.block w.heap.size (lt_of_block (unhide HK2)) (by omega)).trans (unhide HK2)
        have hc : ∀ i, w3.cell? ⟨w.heap.size, i, none⟩ = _ := fun i => blk_cell hblk3 i
        have hf : ∀ i, w3.frozen? ⟨w.heap.size, i, none⟩ = false := fun i => blk_free hblk3 i
        have HB3 := hide ((unhide HB2).trans hb3)
        have HKk := hide hk
        have H3 := hide h3
        clear hblk3 hb3 hk h3 h2 HB2 HTm2 HK2
        go_wp2_with fail
        have e1 : rest s b = 94 :: rest s (b + 1) := by
          have : rest s (b + 1) = l := by rw [rest_add, unhide HL]; rfl
          rw [this]; exact unhide HL
        have hr1 := unhide HR
        rw [e1] at hr1
        refine bodyPost_ret (v := .tuple #[PC.value pc0, .bool false]) (by simp [results, Tryz.results115, go_sem, hc, PC.value, PC.cells, pc0, ptr]) rfl ⟨st8_but (unhide HB3) (Nat.le_refl _) _ _ _ _ _ _ _ _, pc0, false, b3, u', rfl, hb3', (unhide H3).st8 (by omega) _ _ _ _ _ _ _ _, Or.inr ⟨rfl, rfl, ?_⟩⟩
        exact rdP_pow env.full hr1 (unhide HKk)
    · have HL := hide hl
      have HB2 := hide ((unhide HB1).trans hb2)
      have hblk2 := (hb2.block w.heap.size (lt_of_block (unhide HK)) (by omega)).trans (unhide HK)
      have hc2 : ∀ i, w2.cell? ⟨w.heap.size, i, none⟩ = _ := fun i => blk_cell hblk2 i
      have hf2 : ∀ i, w2.frozen? ⟨w.heap.size, i, none⟩ = false := fun i => blk_free hblk2 i
      have H2 := hide h2
      clear hl hb2 h1 h2 HK HTm HB1 hblk2 hc hf
      go_wp2_with fail
      refine bodyPost_ret (v := .tuple #[PC.value pc0, .bool false]) (by simp [results, Tryz.results115, go_sem, hc2, PC.value, PC.cells, pc0, ptr]) rfl ⟨st8_but (unhide HB2) (Nat.le_refl _) _ _ _ _ _ _ _ _, pc0, false, b, u', rfl, hb, (unhide H2).st8 (by omega) _ _ _ _ _ _ _ _, Or.inr ⟨rfl, rfl, ?_⟩⟩
      refine rdP_pow_none env.full (unhide HR) (fun f r e => ?_)
      simp only [Option.some.injEq, Prod.mk.injEq, List.cons.injEq, true_and] at e
      exact unhide HL (by rw [e.2]; rfl)
  · have HR := hide hr
    have HNo := hide hno
    obtain ⟨hc, hf, _⟩ := but_new hb1 hlt
    have HB1 := hide hb1.unalloc
    have H1 := hide h1
    clear hr hno hb1 h1 h hn
    go_wp2_with fail
    refine bodyPost_ret (v := .tuple #[PC.value pc0, .bool false]) (by simp [results, Tryz.results115, go_sem, hc, PC.value, PC.cells, pc0, ptr]) rfl ⟨st8_but (unhide HB1) (Nat.le_refl _) _ _ _ _ _ _ _ _, pc0, false, b, u', rfl, hb, (unhide H1).st8 (by omega) _ _ _ _ _ _ _ _, Or.inr ⟨rfl, rfl, ?_⟩⟩
    exact rdP_pow_none env.full (unhide HR) (fun f r e => unhide HNo f _ e)
end
end Go.Proofs.YtknokhbilckmiaaGreatDoor

/- The walks: the program's reader: unders. -/
namespace Go.Proofs.YtknokhbilckmiaaGreatDoor
open Go Go.RowKit M T Go.Lib
section
variable {rb : Nat} {s : ByteArray} {nm : Nat → Option Nat} {env : Env} {B0 m : Nat}

set_option maxRecDepth 100000 in
set_option maxHeartbeats 1600000 in
theorem under_of (hT : RT rb s nm env B0 m) (hs : s.size ≤ 120) (hrb : B0 ≤ rb) {a : Nat} {u : Bool} (w : World) (h : RS rb s nm a u w) (ha : a ≤ s.size) (hm : s.size - a ≤ m) (hn : NmIs B0 w nm env) (hB : B0 ≤ w.heap.size) :
    Calls Tryz.prog 116 #[.pointer (some ⟨rb, 0, none⟩)] w fun e w' => But rb w w' ∧ Got env (Okw B0 w) rb s nm u (91 :: rest s a) e w' := by
  have hlt := h.lt
  have HT := hide hT
  clear hT
  go_enter Tryz.func116, Tryz.ntmps116
  go_wp2_with fail
  refine (upTo_of (unhide HT) hs hrb 58 _ (h.alloc _) ha hm (hn.alloc _) (by simp; omega)).mono ?_
  rintro e w1 ⟨hb1, b, u', hb, h1, ⟨t, tb, rfl, hr, ht, hu⟩ | ⟨rfl, o, hr, hno⟩⟩
  · have HR := hide hr
    have HTm := hide ht
    have HU := hide hu
    obtain ⟨hc, hf, hblk⟩ := but_new hb1 hlt
    have HK := hide hblk
    have HB1 := hide hb1.unalloc
    have hsz1 := hb1.size
    have hn1 := (hn.alloc _).but hb1 hrb
    have hmv : a < b := by
      have := congrArg List.length (hr.sound _ _ rfl).2.2.1
      rw [List.length_append, List.length_cons, rest_len, rest_len] at this
      omega
    clear hr ht hu hb1 h hn hblk
    go_wp2_with fail
    refine (upTo_of (unhide HT) hs hrb 93 _ h1 hb (by omega) hn1 (by simp at hsz1; omega)).mono ?_
    rintro e w2 ⟨hb2, b2, u2, hb2', h2, ⟨t2, tb2, rfl, hr2, ht2, hu2⟩ | ⟨rfl, o2, hr2, hno2⟩⟩
    · have HR2 := hide hr2
      have HU2 := hide hu2
      have HB2 := hide ((unhide HB1).trans hb2)
      have HTm1 := hide (tm_but (unhide HTm) hb2 hrb (by simp; omega))
      have HTm2 := hide ht2
      have hblk2 := (hb2.block w.heap.size (lt_of_block (unhide HK)) (by omega)).trans (unhide HK)
      have hc2 : ∀ i, w2.cell? ⟨w.heap.size, i, none⟩ = _ := fun i => blk_cell hblk2 i
      have hf2 : ∀ i, w2.frozen? ⟨w.heap.size, i, none⟩ = false := fun i => blk_free hblk2 i
      have H2 := hide h2
      clear hr2 hu2 ht2 hblk2 hb2 h2 h1 HB1 HTm HK hc hf hn1
      go_wp2_with fail
      refine bodyPost_ret (v := .tuple #[PC.value (pcUnd (some tb2) (some tb)), .bool true]) (by simp [results, Tryz.results116, go_sem, hc2, PC.value, PC.cells, pcUnd, ptr]) rfl ⟨st8_but (unhide HB2) (Nat.le_refl _) _ _ _ _ _ _ _ _, pcUnd (some tb2) (some tb), true, b2, u2, rfl, hb2', (unhide H2).st8 (by omega) _ _ _ _ _ _ _ _, Or.inl ⟨rfl, .under t t2, rdP_under env.full (unhide HR) (unhide HR2), ?_, ?_⟩⟩
      · refine PtIs.under_iff.2 ⟨rfl, ⟨tb2, rfl, ?_⟩, tb, rfl, tm_st8 (unhide HTm1) hB _ _ _ _ _ _ _ _⟩
        refine (unhide HTm2).keeps (fun k hk hl => ?_)
        have hsz : w.heap.size + 1 ≤ w1.heap.size := by simpa using hsz1
        have hne : k ≠ w.heap.size := by rcases hk with hk | hk <;> omega
        exact ⟨st8_heap _ _ _ _ _ _ _ _ _ hne, hk.imp id (fun h => by omega)⟩
      · rw [unhide HU2, unhide HU, Pt.unk, Bool.or_assoc]
    · have HR2 := hide hr2
      have HNo2 := hide hno2
      have HB2 := hide ((unhide HB1).trans hb2)
      have hblk2 := (hb2.block w.heap.size (lt_of_block (unhide HK)) (by omega)).trans (unhide HK)
      have hc2 : ∀ i, w2.cell? ⟨w.heap.size, i, none⟩ = _ := fun i => blk_cell hblk2 i
      have hf2 : ∀ i, w2.frozen? ⟨w.heap.size, i, none⟩ = false := fun i => blk_free hblk2 i
      have H2 := hide h2
      clear hr2 hno2 hblk2 hb2 h2 h1 HB1 HTm HK hc hf hn1
      go_wp2_with fail
      refine bodyPost_ret (v := .tuple #[PC.value pc0, .bool false]) (by simp [results, Tryz.results116, go_sem, hc2, PC.value, PC.cells, pc0, ptr]) rfl ⟨st8_but (unhide HB2) (Nat.le_refl _) _ _ _ _ _ _ _ _, pc0, false, b2, u2, rfl, hb2', (unhide H2).st8 (by omega) _ _ _ _ _ _ _ _, Or.inr ⟨rfl, rfl, rdP_under_none2 env.full (unhide HR) (unhide HR2) (fun g q e => unhide HNo2 g q e)⟩⟩
  · have HR := hide hr
    have HNo := hide hno
    obtain ⟨hc, hf, _⟩ := but_new hb1 hlt
    have HB1 := hide hb1.unalloc
    have H1 := hide h1
    clear hr hno hb1 h1 h hn
    go_wp2_with fail
    refine bodyPost_ret (v := .tuple #[PC.value pc0, .bool false]) (by simp [results, Tryz.results116, go_sem, hc, PC.value, PC.cells, pc0, ptr]) rfl ⟨st8_but (unhide HB1) (Nat.le_refl _) _ _ _ _ _ _ _ _, pc0, false, b, u', rfl, hb, (unhide H1).st8 (by omega) _ _ _ _ _ _ _ _, Or.inr ⟨rfl, rfl, rdP_under_none env.full (unhide HR) (fun g q e => unhide HNo g q e)⟩⟩
end
end Go.Proofs.YtknokhbilckmiaaGreatDoor

import Derived.Test.YtikiaijgcjjloaaGreatDoorPart14

/- The walks: names, the empty term, the ends of a term. -/
namespace Go.Proofs.YtikiaijgcjjloaaGreatDoor
open Go Go.RowKit M T Go.Lib

set_option maxRecDepth 100000 in
set_option maxHeartbeats 400000 in
theorem endsTerm_any (c : UInt8) (w : World) : Calls Tryz.prog 80 #[.int .u8 (c.toNat : Int)] w fun e w' => e = .returned (.bool (decide (c = 41 ∨ c = 93 ∨ c = 58))) ∧ w = w' := by
  have key : ∀ d : UInt8, c ≠ d → ((c.toNat : Int) == (d.toNat : Int)) = false := fun d h => by
    rw [beq_eq_false_iff_ne]
    intro e
    exact h (UInt8.toNat_inj.1 (by omega))
  by_cases h1 : c = 41
  · subst h1
    go_enter Tryz.func80, Tryz.ntmps80
    go_wp2_with fail
    go_ret
    exact ⟨ret_bool (by decide), rfl⟩
  · have e1 : ((c.toNat : Int) == 41) = false := key 41 h1
    by_cases h2 : c = 58
    · subst h2
      go_enter Tryz.func80, Tryz.ntmps80
      go_wp2_with fail
      go_ret
      exact ⟨ret_bool (by decide), rfl⟩
    · have e2 : ((c.toNat : Int) == 58) = false := key 58 h2
      by_cases h3 : c = 93
      · subst h3
        go_enter Tryz.func80, Tryz.ntmps80
        go_wp2_with fail
        go_ret
        exact ⟨ret_bool (by decide), rfl⟩
      · have e3 : ((c.toNat : Int) == 93) = false := key 93 h3
        have HF := hide (show decide (c = 41 ∨ c = 93 ∨ c = 58) = false by simp [h1, h2, h3])
        clear key h1 h2 h3
        go_enter Tryz.func80, Tryz.ntmps80
        go_wp2_with fail
        go_ret
        exact ⟨ret_bool (unhide HF).symm, rfl⟩

set_option maxRecDepth 100000 in
set_option maxHeartbeats 400000 in
theorem place_yes (c : UInt8) (h1 : 65 ≤ c.toNat) (h2 : c.toNat ≤ 90) (w : World) : Calls Tryz.prog 62 #[.int .u8 (c.toNat : Int)] w fun e w' => e = .returned (.tuple #[.int .i64 ((c.toNat - 65 : Nat) : Int), .bool true]) ∧ w = w' := by
  have hd1 : ¬ ((c.toNat : Int) < 65) := by omega
  have hd2 : ¬ (90 < (c.toNat : Int)) := by omega
  have hsub : ((c.toNat : Int) - 65) = ((c.toNat - 65 : Nat) : Int) := by omega
  have HS := hide hsub
  clear hsub
  go_enter Tryz.func62, Tryz.ntmps62
  go_wp2_with fail
  exact bodyPost_ret (v := .tuple #[.int .i64 ((c.toNat - 65 : Nat) : Int), .bool true]) (by rw [← unhide HS]; simp [results, Tryz.results62, go_sem]) rfl ⟨rfl, rfl⟩
set_option maxRecDepth 100000 in
set_option maxHeartbeats 400000 in
theorem place_no (c : UInt8) (h : c.toNat < 65 ∨ 90 < c.toNat) (w : World) : Calls Tryz.prog 62 #[.int .u8 (c.toNat : Int)] w fun e w' => e = .returned (.tuple #[.int .i64 0, .bool false]) ∧ w = w' := by
  rcases h with h | h
  · have hd1 : ((c.toNat : Int) < 65) := by omega
    go_enter Tryz.func62, Tryz.ntmps62
    go_wp2_with fail
    exact bodyPost_ret (v := .tuple #[.int .i64 0, .bool false]) (by simp [results, Tryz.results62, go_sem]) rfl ⟨rfl, rfl⟩
  · have hd1 : ¬ ((c.toNat : Int) < 65) := by omega
    have hd2 : (90 < (c.toNat : Int)) := by omega
    go_enter Tryz.func62, Tryz.ntmps62
    go_wp2_with fail
    exact bodyPost_ret (v := .tuple #[.int .i64 0, .bool false]) (by simp [results, Tryz.results62, go_sem]) rfl ⟨rfl, rfl⟩

set_option maxRecDepth 100000 in
set_option maxHeartbeats 400000 in
theorem newTerm_any (w : World) : Calls Tryz.prog 79 #[] w fun e w' => e = .returned (.pointer (some ⟨w.heap.size, 0, none⟩)) ∧ w' = w.alloc (.cells #[.slice none 0 0, .bool true, .bool true, .bool true] 75) := by
  go_enter Tryz.func79, Tryz.ntmps79
  go_wp2_with fail
  go_ret
  exact ⟨rfl, rfl⟩
theorem new_TB (w : World) : TB (w.heap.size + 1) (w.alloc (.cells #[.slice none 0 0, .bool true, .bool true, .bool true] 75)) w.heap.size [] (.slice none 0 0) [] :=
  ⟨heap_alloc_new w _, World.ownsRow_nil _ _ _ _, by omega, by simp⟩
theorem new_TmIs {Ok : Nat → Prop} (w : World) (h : Ok w.heap.size) : TmIs Ok (w.alloc (.cells #[.slice none 0 0, .bool true, .bool true, .bool true] 75)) w.heap.size .nil :=
  ⟨.slice none 0 0, [], ⟨h, heap_alloc_new w _, World.ownsRow_nil _ _ _ _, fun g hg => by cases hg⟩, by rw [PsIs]⟩

/-! ### What names stand for, in memory -/
structure NmIs (B0 : Nat) (w : World) (nm : Nat → Option Nat) (env : Env) : Prop where
  known : ∀ c : UInt8, 65 ≤ c.toNat → c.toNat ≤ 90 → ∀ b, nm (c.toNat - 65) = some b → ∃ t, env c = some t ∧ t.wf ∧ TmIs (fun k => k < B0) w b t
  unknown : ∀ c : UInt8, 65 ≤ c.toNat → c.toNat ≤ 90 → nm (c.toNat - 65) = none → env c = none
theorem NmIs.but {B0 rb : Nat} {w w' : World} {nm : Nat → Option Nat} {env : Env} (h : NmIs B0 w nm env) (hb : But rb w w') (hr : B0 ≤ rb) : NmIs B0 w' nm env :=
  ⟨fun c h1 h2 b hb' => by
    obtain ⟨t, a, b', c'⟩ := h.known c h1 h2 b hb'
    exact ⟨t, a, b', c'.keeps (fun k hk hlt => ⟨hb.block k hlt (by omega), hk⟩)⟩, h.unknown⟩
theorem NmIs.alloc {B0 : Nat} {w : World} {nm : Nat → Option Nat} {env : Env} (h : NmIs B0 w nm env) (o : Obj) : NmIs B0 (w.alloc o) nm env :=
  ⟨fun c h1 h2 b hb' => by
    obtain ⟨t, a, b', c'⟩ := h.known c h1 h2 b hb'
    exact ⟨t, a, b', c'.keeps (fun k hk hlt => ⟨Below.heap_alloc _ _ _ hlt, hk⟩)⟩, h.unknown⟩
def pcNm (c : UInt8) (b : Option Nat) : PC := ⟨65, c, 0, 0, 0, none, 0, 0, b, none⟩

set_option maxRecDepth 100000 in
set_option maxHeartbeats 1600000 in
theorem readName_any {rb : Nat} {s : ByteArray} {nm : Nat → Option Nat} {a : Nat} {u : Bool} {c : UInt8} {env : Env} {B0 : Nat} (w : World) (h : RS rb s nm a u w) (ha : a ≤ s.size) (hn : NmIs B0 w nm env) (hno : (c.toNat < 65 ∨ 90 < c.toNat) → RdP env.full (c :: rest s a) none) :
    Calls Tryz.prog 121 #[.pointer (some ⟨rb, 0, none⟩), .int .u8 (c.toNat : Int)] w fun e w' => But rb w w' ∧ Got env (fun k => k < B0 ∨ w.heap.size ≤ k) rb s nm u (c :: rest s a) e w' := by
  have hlt := h.lt
  by_cases hr : 65 ≤ c.toNat ∧ c.toNat ≤ 90
  · obtain ⟨h1, h2⟩ := hr
    have hcn0 := h.name (i := c.toNat - 65) (by omega)
    rw [Nat.add_comm] at hcn0
    have hfz := h.free 28
    have huk := h.unk
    have hix : ((c.toNat - 65 : Nat) : Int) < 26 := by omega
    have H := hide h
    have HN := hide hn
    clear h hn hno
    cases hb : nm (c.toNat - 65) with
    | some b =>
      rw [hb] at hcn0
      have hcn : w.cell? ⟨rb, 2 + (c.toNat - 65), none⟩ = some (.pointer (some ⟨b, 0, none⟩)) := hcn0
      have HB := hide hb
      clear hcn0 hb
      go_enter Tryz.func121, Tryz.ntmps121
      go_wp2_with fail
      refine (place_yes c h1 h2 _).mono ?_
      rintro e w' ⟨rfl, rfl⟩
      go_wp2_with fail
      obtain ⟨t, ht1, ht2, ht3⟩ := (unhide HN).known c h1 h2 b (unhide HB)
      have hfull : env.full c = some t := by unfold Env.full; rw [ht1]; rfl
      refine bodyPost_ret (v := .tuple #[PC.value (pcNm c (some b)), .bool true]) (by simp [results, Tryz.results121, go_sem, PC.value, PC.cells, pcNm, ptr]) rfl ⟨(But.refl _ _).alloc _, pcNm c (some b), true, a, u, rfl, ha, (unhide H).alloc _, Or.inl ⟨rfl, .name c t, rdP_name env.full h1 h2 hfull ht2 _, ?_, by simp [Pt.unk, ht1]⟩⟩
      exact PtIs.name_iff.2 ⟨rfl, rfl, b, rfl, ht3.keeps (fun k hk hlt => ⟨Below.heap_alloc _ _ _ hlt, Or.inl hk⟩)⟩
    | none =>
      rw [hb] at hcn0
      have hcn : w.cell? ⟨rb, 2 + (c.toNat - 65), none⟩ = some (.pointer none) := hcn0
      have HB := hide hb
      clear hcn0 hb
      go_enter Tryz.func121, Tryz.ntmps121
      go_wp2_with fail
      refine (place_yes c h1 h2 _).mono ?_
      rintro e w' ⟨rfl, rfl⟩
      go_wp2_with fail
      refine (newTerm_any _).mono ?_
      rintro e w' ⟨rfl, rfl⟩
      go_wp2_with fail
      have ht1 := (unhide HN).unknown c h1 h2 (unhide HB)
      have hfull : env.full c = some .nil := by unfold Env.full; rw [ht1]; rfl
      refine bodyPost_ret (v := .tuple #[PC.value (pcNm c (some (w.heap.size + 1))), .bool true]) (by simp [results, Tryz.results121, go_sem, PC.value, PC.cells, pcNm, ptr]) rfl ⟨(((But.refl _ _).setCell _ _).alloc _).alloc _, pcNm c (some (w.heap.size + 1)), true, a, true, rfl, ha, (((unhide H).setUnk true).alloc _).alloc _, Or.inl ⟨rfl, .name c .nil, rdP_name env.full h1 h2 hfull (show True from trivial) _, ?_, by simp [Pt.unk, ht1]⟩⟩
      refine PtIs.name_iff.2 ⟨rfl, rfl, w.heap.size + 1, rfl, ?_⟩
      have := new_TmIs (Ok := fun k => k < B0 ∨ w.heap.size ≤ k) ((w.setCell ⟨rb, 28, none⟩ (.bool true)).alloc (.cells #[.int .u8 65, .int .u8 (c.toNat : Int), .int .i64 0, .int .i64 0, .int .i64 0, .slice none 0 0, .pointer (some ⟨w.heap.size + 1, 0, none⟩), .pointer none] 148)) (Or.inr (by simp))
      rw [World.size_alloc, World.size_setCell] at this
      exact this
  · have HNo := hide (hno (by omega))
    have hr' : c.toNat < 65 ∨ 90 < c.toNat := by omega
    clear hno hn hr
    have H := hide h
    clear h
    go_enter Tryz.func121, Tryz.ntmps121
    go_wp2_with fail
    refine (place_no c hr' _).mono ?_
    rintro e w' ⟨rfl, rfl⟩
    go_wp2_with fail
    exact bodyPost_ret (v := .tuple #[PC.value pc0, .bool false]) (by simp [results, Tryz.results121, go_sem, PC.value, PC.cells, pc0, ptr]) rfl ⟨(But.refl _ _).alloc _, pc0, false, a, u, rfl, ha, (unhide H).alloc _, Or.inr ⟨rfl, rfl, unhide HNo⟩⟩
end Go.Proofs.YtikiaijgcjjloaaGreatDoor

/- The walks: the program's reader: terms within brackets. -/
namespace Go.Proofs.YtikiaijgcjjloaaGreatDoor
open Go Go.RowKit M T Go.Lib

def Okw (B0 : Nat) (w : World) : Nat → Prop := fun k => k < B0 ∨ w.heap.size ≤ k
/-- What a function that reads a term answers. -/
def GotT (env : Env) (Ok : Nat → Prop) (rb : Nat) (s : ByteArray) (nm : Nat → Option Nat) (u : Bool) (l : List UInt8) (e : Ending) (w' : World) : Prop :=
  ∃ b u', b ≤ s.size ∧ RS rb s nm b u' w' ∧ ((∃ t tb, e = .returned (.tuple #[.pointer (some ⟨tb, 0, none⟩), .bool true]) ∧ RdT env.full l (some (t, rest s b)) ∧ TmIs Ok w' tb t ∧ u' = (u || t.unk env)) ∨ (e = .returned (.tuple #[.pointer none, .bool false]) ∧ RdT env.full l none))
/-- The same up to a byte that must end it. -/
def GotU (c : UInt8) (env : Env) (Ok : Nat → Prop) (rb : Nat) (s : ByteArray) (nm : Nat → Option Nat) (u : Bool) (l : List UInt8) (e : Ending) (w' : World) : Prop :=
  ∃ b u', b ≤ s.size ∧ RS rb s nm b u' w' ∧ ((∃ t tb, e = .returned (.tuple #[.pointer (some ⟨tb, 0, none⟩), .bool true]) ∧ RdT env.full l (some (t, c :: rest s b)) ∧ TmIs Ok w' tb t ∧ u' = (u || t.unk env)) ∨ (e = .returned (.tuple #[.pointer none, .bool false]) ∧ ∃ o, RdT env.full l o ∧ ∀ t r, o ≠ some (t, c :: r)))
def RT (rb : Nat) (s : ByteArray) (nm : Nat → Option Nat) (env : Env) (B0 m : Nat) : Prop := ∀ (a : Nat) (u : Bool) (w : World), RS rb s nm a u w → a ≤ s.size → s.size - a ≤ m → NmIs B0 w nm env → B0 ≤ w.heap.size →
  Calls Tryz.prog 49 #[.pointer (some ⟨rb, 0, none⟩)] w fun e w' => But rb w w' ∧ GotT env (Okw B0 w) rb s nm u (rest s a) e w'
def RP (rb : Nat) (s : ByteArray) (nm : Nat → Option Nat) (env : Env) (B0 m : Nat) : Prop := ∀ (a : Nat) (u : Bool) (w : World), RS rb s nm a u w → a < s.size → s.size - a ≤ m → NmIs B0 w nm env → B0 ≤ w.heap.size →
  Calls Tryz.prog 81 #[.pointer (some ⟨rb, 0, none⟩)] w fun e w' => But rb w w' ∧ Got env (Okw B0 w) rb s nm u (rest s a) e w'
/-- What lies in memory of a reader's making stays while it goes on. -/
theorem tm_but {B0 rb : Nat} {w w1 w2 : World} {tb : Nat} {t : Tm} (h : TmIs (Okw B0 w) w1 tb t) (hb : But rb w1 w2) (hr : B0 ≤ rb) (hlt : rb < w.heap.size) : TmIs (Okw B0 w) w2 tb t :=
  h.keeps (fun k hk hl => ⟨hb.block k hl (by rcases hk with hk | hk <;> omega), hk⟩)
theorem tm_st8 {B0 : Nat} {w w1 : World} {o : Obj} {tb : Nat} {t : Tm} (h : TmIs (Okw B0 (w.alloc o)) w1 tb t) (hB : B0 ≤ w.heap.size) (v0 v1 v2 v3 v4 v5 v6 v7 : Value) : TmIs (Okw B0 w) (st8 w1 w.heap.size v0 v1 v2 v3 v4 v5 v6 v7) tb t :=
  h.keeps (fun k hk hl => by
    have hs : (w.alloc o).heap.size = w.heap.size + 1 := by simp
    have hne : k ≠ w.heap.size := by rcases hk with hk | hk <;> omega
    exact ⟨st8_heap _ _ _ _ _ _ _ _ _ hne, hk.imp id (fun h => by omega)⟩)

section
variable {rb : Nat} {s : ByteArray} {nm : Nat → Option Nat} {env : Env} {B0 m : Nat}

set_option maxRecDepth 100000 in
set_option maxHeartbeats 800000 in
theorem upTo_of (hT : RT rb s nm env B0 m) (hs : s.size ≤ 120) (hrb : B0 ≤ rb) (c : UInt8) {a : Nat} {u : Bool} (w : World) (h : RS rb s nm a u w) (ha : a ≤ s.size) (hm : s.size - a ≤ m) (hn : NmIs B0 w nm env) (hB : B0 ≤ w.heap.size) :
    Calls Tryz.prog 159 #[.pointer (some ⟨rb, 0, none⟩), .int .u8 (c.toNat : Int)] w fun e w' => But rb w w' ∧ GotU c env (Okw B0 w) rb s nm u (rest s a) e w' := by
  have hlt := h.lt
  have HT := hide hT
  clear hT
  go_enter Tryz.func159, Tryz.ntmps159
  go_wp2_with fail
  refine (unhide HT a u _ h ha hm hn hB).mono ?_
  rintro e w1 ⟨hb1, b, u', hb, h1, ⟨t, tb, rfl, hr, ht, hu⟩ | ⟨rfl, hr⟩⟩
  · have HR := hide hr
    have HTm := hide ht
    have HU := hide hu
    have HB1 := hide hb1
    clear hr ht hu hb1 h hn
    go_wp2_with fail
    refine (pass_any c _ h1 hb hs).mono ?_
    rintro e w2 ⟨hb2, ⟨⟨l, hl⟩, ha2, rfl, h2⟩ | ⟨hl, rfl, h2⟩⟩
    · have HL := hide hl
      have HB2 := hide hb2
      have H2 := hide h2
      clear hl hb2 h2 h1
      go_wp2_with fail
      have e : rest s (b + 1) = l := by rw [rest_add, unhide HL]; rfl
      exact bodyPost_ret (v := .tuple #[.pointer (some ⟨tb, 0, none⟩), .bool true]) (by simp [results, Tryz.results159, go_sem]) rfl ⟨(unhide HB1).trans (unhide HB2), b + 1, u', ha2, unhide H2, Or.inl ⟨t, tb, rfl, by rw [e, ← unhide HL]; exact unhide HR, tm_but (unhide HTm) (unhide HB2) hrb hlt, unhide HU⟩⟩
    · have HL := hide hl
      have HB2 := hide hb2
      have H2 := hide h2
      clear hl hb2 h2 h1
      go_wp2_with fail
      exact bodyPost_ret (v := .tuple #[.pointer none, .bool false]) (by simp [results, Tryz.results159, go_sem]) rfl ⟨(unhide HB1).trans (unhide HB2), b, u', hb, unhide H2, Or.inr ⟨rfl, _, unhide HR, fun t' r e => by simp only [Option.some.injEq, Prod.mk.injEq] at e; exact unhide HL (by rw [e.2]; rfl)⟩⟩
  · have HR := hide hr
    have HB1 := hide hb1
    have H1 := hide h1
    clear hr hb1 h1 h hn
    go_wp2_with fail
    exact bodyPost_ret (v := .tuple #[.pointer none, .bool false]) (by simp [results, Tryz.results159, go_sem]) rfl ⟨unhide HB1, b, u', hb, unhide H1, Or.inr ⟨rfl, none, unhide HR, fun t' r e => by cases e⟩⟩

def pcPow (k : Int) (b : Option Nat) : PC := ⟨40, 0, k, 0, 0, none, 0, 0, b, none⟩
def pcUnd (b o : Option Nat) : PC := ⟨91, 0, 0, 0, 0, none, 0, 0, b, o⟩

set_option maxRecDepth 100000 in
set_option maxHeartbeats 1600000 in
theorem power_of (hT : RT rb s nm env B0 m) (hs : s.size ≤ 120) (hrb : B0 ≤ rb) {a : Nat} {u : Bool} (w : World) (h : RS rb s nm a u w) (ha : a ≤ s.size) (hm : s.size - a ≤ m) (hn : NmIs B0 w nm env) (hB : B0 ≤ w.heap.size) :
    Calls Tryz.prog 119 #[.pointer (some ⟨rb, 0, none⟩)] w fun e w' => But rb w w' ∧ Got env (Okw B0 w) rb s nm u (40 :: rest s a) e w' := by
  have hlt := h.lt
  have HT := hide hT
  clear hT
  go_enter Tryz.func119, Tryz.ntmps119
  go_wp2_with fail
  refine (upTo_of (unhide HT) hs hrb 41 _ (h.alloc _) ha hm (hn.alloc _) (by simp; omega)).mono ?_
  rintro e w1 ⟨hb1, b, u', hb, h1, ⟨t, tb, rfl, hr, ht, hu⟩ | ⟨rfl, o, hr, hno⟩⟩
  · have HR := hide hr
    have HTm := hide ht
    have HU := hide hu
    obtain ⟨hc, hf, hblk⟩ := but_new hb1 hlt
    have HK := hide hblk
    have HB1 := hide hb1.unalloc
    clear hr ht hu hb1 h hn hblk
    go_wp2_with fail
    refine (pass_any 94 _ h1 hb hs).mono ?_
    rintro e w2 ⟨hb2, ⟨⟨l, hl⟩, ha2, rfl, h2⟩ | ⟨hl, rfl, h2⟩⟩
    · have HL := hide hl
      have HB2 := hide ((unhide HB1).trans hb2)
      have HTm2 := hide (tm_but (unhide HTm) hb2 hrb (by simp; omega))
      have hblk2 := (hb2.block w.heap.size (lt_of_block (unhide HK)) (by omega)).trans (unhide HK)
      have HK2 := hide hblk2
      clear hl hb2 h1 HK HTm HB1 hblk2 hc hf
      go_wp2_with fail
      refine (readWhole_any (-999) 999 _ h2 ha2 hs (by decide) (by decide)).mono ?_
      rintro e w3 ⟨hb3, b3, hb3', h3, ⟨k, hk, rfl⟩ | ⟨hk, rfl⟩⟩
      · have hblk3 := (hb3.block w.heap.size (lt_of_block (unhide HK2)) (by omega)).trans (unhide HK2)
        have hc : ∀ i, w3.cell? ⟨w.heap.size, i, none⟩ = _ := fun i => blk_cell hblk3 i
        have hf : ∀ i, w3.frozen? ⟨w.heap.size, i, none⟩ = false := fun i => blk_free hblk3 i
        have HB3 := hide ((unhide HB2).trans hb3)
        have HTm3 := hide (tm_but (unhide HTm2) hb3 hrb (by simp; omega))
        have HKk := hide hk
        have H3 := hide h3
        clear hblk3 hb3 hk h3 h2 HB2 HTm2 HK2
        go_wp2_with fail
        have e1 : rest s b = 94 :: rest s (b + 1) := by
          have : rest s (b + 1) = l := by rw [rest_add, unhide HL]; rfl
          rw [this]; exact unhide HL
        have hr1 := unhide HR
        rw [e1] at hr1
        refine bodyPost_ret (v := .tuple #[PC.value (pcPow k (some tb)), .bool true]) (by simp [results, Tryz.results119, go_sem, hc, PC.value, PC.cells, pcPow, ptr]) rfl ⟨st8_but (unhide HB3) (Nat.le_refl _) _ _ _ _ _ _ _ _, pcPow k (some tb), true, b3, u', rfl, hb3', (unhide H3).st8 (by omega) _ _ _ _ _ _ _ _, Or.inl ⟨rfl, .pow t k, ?_, ?_, ?_⟩⟩
        · exact rdP_pow env.full hr1 (unhide HKk)
        · exact PtIs.pow_iff.2 ⟨rfl, rfl, tb, rfl, tm_st8 (unhide HTm3) hB _ _ _ _ _ _ _ _⟩
        · rw [unhide HU, Pt.unk]
      · have hblk3 := (hb3.block w.heap.size (lt_of_block (unhide HK2)) (by omega)).trans (unhide HK2)
        have hc : ∀ i, w3.cell? ⟨w.heap.size, i, none⟩ = _ := fun i => blk_cell hblk3 i
        have hf : ∀ i, w3.frozen? ⟨w.heap.size, i, none⟩ = false := fun i => blk_free hblk3 i
        have HB3 := hide ((unhide HB2).trans hb3)
        have HKk := hide hk
        have H3 := hide h3
        clear hblk3 hb3 hk h3 h2 HB2 HTm2 HK2
        go_wp2_with fail
        have e1 : rest s b = 94 :: rest s (b + 1) := by
          have : rest s (b + 1) = l := by rw [rest_add, unhide HL]; rfl
          rw [this]; exact unhide HL
        have hr1 := unhide HR
        rw [e1] at hr1
        refine bodyPost_ret (v := .tuple #[PC.value pc0, .bool false]) (by simp [results, Tryz.results119, go_sem, hc, PC.value, PC.cells, pc0, ptr]) rfl ⟨st8_but (unhide HB3) (Nat.le_refl _) _ _ _ _ _ _ _ _, pc0, false, b3, u', rfl, hb3', (unhide H3).st8 (by omega) _ _ _ _ _ _ _ _, Or.inr ⟨rfl, rfl, ?_⟩⟩
        exact rdP_pow env.full hr1 (unhide HKk)
    · have HL := hide hl
      have HB2 := hide ((unhide HB1).trans hb2)
      have hblk2 := (hb2.block w.heap.size (lt_of_block (unhide HK)) (by omega)).trans (unhide HK)
      have hc2 : ∀ i, w2.cell? ⟨w.heap.size, i, none⟩ = _ := fun i => blk_cell hblk2 i
      have hf2 : ∀ i, w2.frozen? ⟨w.heap.size, i, none⟩ = false := fun i => blk_free hblk2 i
      have H2 := hide h2
      clear hl hb2 h1 h2 HK HTm HB1 hblk2 hc hf
      go_wp2_with fail
      refine bodyPost_ret (v := .tuple #[PC.value pc0, .bool false]) (by simp [results, Tryz.results119, go_sem, hc2, PC.value, PC.cells, pc0, ptr]) rfl ⟨st8_but (unhide HB2) (Nat.le_refl _) _ _ _ _ _ _ _ _, pc0, false, b, u', rfl, hb, (unhide H2).st8 (by omega) _ _ _ _ _ _ _ _, Or.inr ⟨rfl, rfl, ?_⟩⟩
      refine rdP_pow_none env.full (unhide HR) (fun f r e => ?_)
      simp only [Option.some.injEq, Prod.mk.injEq, List.cons.injEq, true_and] at e
      exact unhide HL (by rw [e.2]; rfl)
  · have HR := hide hr
    have HNo := hide hno
    obtain ⟨hc, hf, _⟩ := but_new hb1 hlt
    have HB1 := hide hb1.unalloc
    have H1 := hide h1
    clear hr hno hb1 h1 h hn
    go_wp2_with fail
    refine bodyPost_ret (v := .tuple #[PC.value pc0, .bool false]) (by simp [results, Tryz.results119, go_sem, hc, PC.value, PC.cells, pc0, ptr]) rfl ⟨st8_but (unhide HB1) (Nat.le_refl _) _ _ _ _ _ _ _ _, pc0, false, b, u', rfl, hb, (unhide H1).st8 (by omega) _ _ _ _ _ _ _ _, Or.inr ⟨rfl, rfl, ?_⟩⟩
    exact rdP_pow_none env.full (unhide HR) (fun f r e => unhide HNo f _ e)
end
end Go.Proofs.YtikiaijgcjjloaaGreatDoor

/- The walks: the program's reader: unders. -/
namespace Go.Proofs.YtikiaijgcjjloaaGreatDoor
open Go Go.RowKit M T Go.Lib
section
variable {rb : Nat} {s : ByteArray} {nm : Nat → Option Nat} {env : Env} {B0 m : Nat}

set_option maxRecDepth 100000 in
set_option maxHeartbeats 1600000 in
theorem under_of (hT : RT rb s nm env B0 m) (hs : s.size ≤ 120) (hrb : B0 ≤ rb) {a : Nat} {u : Bool} (w : World) (h : RS rb s nm a u w) (ha : a ≤ s.size) (hm : s.size - a ≤ m) (hn : NmIs B0 w nm env) (hB : B0 ≤ w.heap.size) :
    Calls Tryz.prog 120 #[.pointer (some ⟨rb, 0, none⟩)] w fun e w' => But rb w w' ∧ Got env (Okw B0 w) rb s nm u (91 :: rest s a) e w' := by
  have hlt := h.lt
  have HT := hide hT
  clear hT
  go_enter Tryz.func120, Tryz.ntmps120
  go_wp2_with fail
  refine (upTo_of (unhide HT) hs hrb 58 _ (h.alloc _) ha hm (hn.alloc _) (by simp; omega)).mono ?_
  rintro e w1 ⟨hb1, b, u', hb, h1, ⟨t, tb, rfl, hr, ht, hu⟩ | ⟨rfl, o, hr, hno⟩⟩
  · have HR := hide hr
    have HTm := hide ht
    have HU := hide hu
    obtain ⟨hc, hf, hblk⟩ := but_new hb1 hlt
    have HK := hide hblk
    have HB1 := hide hb1.unalloc
    have hsz1 := hb1.size
    have hn1 := (hn.alloc _).but hb1 hrb
    have hmv : a < b := by
      have := congrArg List.length (hr.sound _ _ rfl).2.2.1
      rw [List.length_append, List.length_cons, rest_len, rest_len] at this
      omega
    clear hr ht hu hb1 h hn hblk
    go_wp2_with fail
    refine (upTo_of (unhide HT) hs hrb 93 _ h1 hb (by omega) hn1 (by simp at hsz1; omega)).mono ?_
    rintro e w2 ⟨hb2, b2, u2, hb2', h2, ⟨t2, tb2, rfl, hr2, ht2, hu2⟩ | ⟨rfl, o2, hr2, hno2⟩⟩
    · have HR2 := hide hr2
      have HU2 := hide hu2
      have HB2 := hide ((unhide HB1).trans hb2)
      have HTm1 := hide (tm_but (unhide HTm) hb2 hrb (by simp; omega))
      have HTm2 := hide ht2
      have hblk2 := (hb2.block w.heap.size (lt_of_block (unhide HK)) (by omega)).trans (unhide HK)
      have hc2 : ∀ i, w2.cell? ⟨w.heap.size, i, none⟩ = _ := fun i => blk_cell hblk2 i
      have hf2 : ∀ i, w2.frozen? ⟨w.heap.size, i, none⟩ = false := fun i => blk_free hblk2 i
      have H2 := hide h2
      clear hr2 hu2 ht2 hblk2 hb2 h2 h1 HB1 HTm HK hc hf hn1
      go_wp2_with fail
      refine bodyPost_ret (v := .tuple #[PC.value (pcUnd (some tb2) (some tb)), .bool true]) (by simp [results, Tryz.results120, go_sem, hc2, PC.value, PC.cells, pcUnd, ptr]) rfl ⟨st8_but (unhide HB2) (Nat.le_refl _) _ _ _ _ _ _ _ _, pcUnd (some tb2) (some tb), true, b2, u2, rfl, hb2', (unhide H2).st8 (by omega) _ _ _ _ _ _ _ _, Or.inl ⟨rfl, .under t t2, rdP_under env.full (unhide HR) (unhide HR2), ?_, ?_⟩⟩
      · refine PtIs.under_iff.2 ⟨rfl, ⟨tb2, rfl, ?_⟩, tb, rfl, tm_st8 (unhide HTm1) hB _ _ _ _ _ _ _ _⟩
        refine (unhide HTm2).keeps (fun k hk hl => ?_)
        have hsz : w.heap.size + 1 ≤ w1.heap.size := by simpa using hsz1
        have hne : k ≠ w.heap.size := by rcases hk with hk | hk <;> omega
        exact ⟨st8_heap _ _ _ _ _ _ _ _ _ hne, hk.imp id (fun h => by omega)⟩
      · rw [unhide HU2, unhide HU, Pt.unk, Bool.or_assoc]
    · have HR2 := hide hr2
      have HNo2 := hide hno2
      have HB2 := hide ((unhide HB1).trans hb2)
      have hblk2 := (hb2.block w.heap.size (lt_of_block (unhide HK)) (by omega)).trans (unhide HK)
      have hc2 : ∀ i, w2.cell? ⟨w.heap.size, i, none⟩ = _ := fun i => blk_cell hblk2 i
      have hf2 : ∀ i, w2.frozen? ⟨w.heap.size, i, none⟩ = false := fun i => blk_free hblk2 i
      have H2 := hide h2
      clear hr2 hno2 hblk2 hb2 h2 h1 HB1 HTm HK hc hf hn1
      go_wp2_with fail
      refine bodyPost_ret (v := .tuple #[PC.value pc0, .bool false]) (by simp [results, Tryz.results120, go_sem, hc2, PC.value, PC.cells, pc0, ptr]) rfl ⟨st8_but (unhide HB2) (Nat.le_refl _) _ _ _ _ _ _ _ _, pc0, false, b2, u2, rfl, hb2', (unhide H2).st8 (by omega) _ _ _ _ _ _ _ _, Or.inr ⟨rfl, rfl, rdP_under_none2 env.full (unhide HR) (unhide HR2) (fun g q e => unhide HNo2 g q e)⟩⟩
  · have HR := hide hr
    have HNo := hide hno
    obtain ⟨hc, hf, _⟩ := but_new hb1 hlt
    have HB1 := hide hb1.unalloc
    have H1 := hide h1
    clear hr hno hb1 h1 h hn
    go_wp2_with fail
    refine bodyPost_ret (v := .tuple #[PC.value pc0, .bool false]) (by simp [results, Tryz.results120, go_sem, hc, PC.value, PC.cells, pc0, ptr]) rfl ⟨st8_but (unhide HB1) (Nat.le_refl _) _ _ _ _ _ _ _ _, pc0, false, b, u', rfl, hb, (unhide H1).st8 (by omega) _ _ _ _ _ _ _ _, Or.inr ⟨rfl, rfl, rdP_under_none env.full (unhide HR) (fun g q e => unhide HNo g q e)⟩⟩
end
end Go.Proofs.YtikiaijgcjjloaaGreatDoor

import Derived.Test.YtikiaijgcjjloaaGreatDoorPart13

namespace Go.Proofs.YtikiaijgcjjloaaGreatDoor
open Go Go.RowKit M T Go.Lib
theorem unk_snoc (env : Env) (ps : List Pt) (p : Pt) : (Tm.of (ps ++ [p])).unk env = ((Tm.of ps).unk env || p.unk env) := by
  induction ps with
  | nil => simp [Tm.of, Tm.unk]
  | cons q ps ih => rw [List.cons_append, Tm.of, Tm.of, Tm.unk, Tm.unk, ih, Bool.or_assoc]
theorem part_moves {env : Env} {s : ByteArray} {b b2 : Nat} {p : Pt} (hb : b ≤ s.size) (hb2 : b2 ≤ s.size) (h : RdP env (rest s b) (some (p, rest s b2))) : b < b2 := by
  obtain ⟨_, _, e⟩ := h.sound _ _ rfl
  obtain ⟨l, e2⟩ := Pt.text_first p
  have := congrArg List.length e
  rw [List.length_append, rest_len, rest_len, e2, List.length_cons] at this
  omega
structure TR (rb : Nat) (s : ByteArray) (nm : Nat → Option Nat) (env : Env) (B0 : Nat) (a : Nat) (u : Bool) (w : World) (b : Nat) (u' : Bool) (ps : List Pt) (sl : Value) (xs : List PC) (wr : World) : Prop where
  hb : b ≤ s.size
  len : xs.length ≤ b
  rs : RS rb s nm b u' wr
  but : But rb w wr
  tb : TB (w.heap.size + 1) wr w.heap.size ps sl xs
  parts : PsIs (fun k => (k < B0 ∨ w.heap.size + 1 ≤ k) ∧ sl.ownBlock ≠ some k) wr xs (Tm.of ps)
  ahead : Ahead env.full (rest s a) ps (rest s b)
  unk : u' = (u || (Tm.of ps).unk env)
  nmis : NmIs B0 wr nm env
theorem TR.drewN {rb : Nat} {s : ByteArray} {nm : Nat → Option Nat} {env : Env} {B0 a : Nat} {u : Bool} {w : World} {b : Nat} {u' : Bool} {ps : List Pt} {sl : Value} {xs : List PC} {wr : World} (h : TR rb s nm env B0 a u w b u' ps sl xs wr) (n : Nat) : TR rb s nm env B0 a u w b u' ps sl xs (wr.drewN n) :=
  ⟨h.hb, h.len, h.rs.drewN n, h.but.drewN n, ⟨h.tb.blk, h.tb.row, h.tb.lt, h.tb.le⟩, PsIs.keeps (w := wr) (w' := wr.drewN n) (fun _ hk _ => ⟨rfl, hk⟩) _ _ h.parts, h.ahead, h.unk, ⟨fun c h1 h2 b hb => by
    obtain ⟨t, a, b', c'⟩ := h.nmis.known c h1 h2 b hb
    exact ⟨t, a, b', c'.keeps (w := wr) (w' := wr.drewN n) (fun k hk _ => ⟨rfl, hk⟩)⟩, h.nmis.unknown⟩⟩
theorem TR.out {rb : Nat} {s : ByteArray} {nm : Nat → Option Nat} {env : Env} {B0 a : Nat} {u : Bool} {w : World} {b : Nat} {u' : Bool} {ps : List Pt} {sl : Value} {xs : List PC} {wr : World} (h : TR rb s nm env B0 a u w b u' ps sl xs wr) : TmIs (Okw B0 w) wr w.heap.size (Tm.of ps) := by
  refine ⟨sl, xs, ⟨Or.inr (Nat.le_refl _), h.tb.blk, ⟨h.tb.row.1, ?_⟩, fun g hg => Or.inr ?_⟩, PsIs.keeps (fun k hk _ => ⟨rfl, ?_⟩) _ _ h.parts⟩
  · rcases h.tb.row.2 with h2 | ⟨g, cap, cur, hv, hg, r⟩
    · exact Or.inl h2
    · exact Or.inr ⟨g, cap, cur, hv, Nat.zero_le _, r⟩
  · have := (h.tb.row.lt g hg).1; omega
  · exact hk.1.imp id (fun h => by omega)
theorem TR.mid {rb : Nat} {s : ByteArray} {nm : Nat → Option Nat} {env : Env} {B0 a : Nat} {u : Bool} {w : World} {b : Nat} {u' : Bool} {ps : List Pt} {sl : Value} {xs : List PC} {wr w2 : World} (h : TR rb s nm env B0 a u w b u' ps sl xs wr) (hlt : rb < w.heap.size) (hb2 : But rb wr w2) (o : Obj) : TB (w.heap.size + 1) (w2.alloc o) w.heap.size ps sl xs := by
  have hl := lt_of_block h.tb.blk
  have hs := hb2.size
  have hle := h.tb.le
  refine ⟨?_, ?_, h.tb.lt, by simp; omega⟩
  · rw [Below.heap_alloc _ _ _ (by omega), hb2.block _ hl (by omega)]
    exact h.tb.blk
  · exact (owns_but h.tb.row hb2 (by omega)).alloc o
theorem TR.okp {rb : Nat} {s : ByteArray} {nm : Nat → Option Nat} {env : Env} {B0 a : Nat} {u : Bool} {w : World} {b : Nat} {u' : Bool} {ps : List Pt} {sl : Value} {xs : List PC} {wr : World} (h : TR rb s nm env B0 a u w b u' ps sl xs wr) (hB : B0 ≤ w.heap.size) : ∀ k, Okw B0 wr k → k ≠ w.heap.size ∧ sl.ownBlock ≠ some k := by
  have hl := lt_of_block h.tb.blk
  intro k hk
  refine ⟨by rcases hk with hk | hk <;> omega, fun e => ?_⟩
  have := h.tb.row.lt k e
  rcases hk with hk | hk <;> omega
theorem TR.next {rb : Nat} {s : ByteArray} {nm : Nat → Option Nat} {env : Env} {B0 a : Nat} {u : Bool} {w : World} {b : Nat} {u' : Bool} {ps : List Pt} {sl : Value} {xs : List PC} {wr w2 w3 : World} (h : TR rb s nm env B0 a u w b u' ps sl xs wr) (hlt : rb < w.heap.size) (hrb : B0 ≤ rb) (hB : B0 ≤ w.heap.size) (hne : ¬ T.End (rest s b)) {b2 : Nat} {u2 : Bool} {p : Pt} {x : PC} {o : Obj} {sl' : Value} (hb : But rb wr w2) (hb2 : b2 ≤ s.size) (h2 : RS rb s nm b2 u2 w2) (hp : RdP env.full (rest s b) (some (p, rest s b2))) (hx : PtIs (Okw B0 wr) w2 x p) (hu : u2 = (u' || p.unk env)) (hc : Chg w.heap.size sl (w2.alloc o) w3) (ht : TB (w.heap.size + 1) w3 w.heap.size (ps ++ [p]) sl' (xs ++ [x])) (hw : sl'.ownBlock = sl.ownBlock ∨ ∀ g, sl'.ownBlock = some g → (w2.alloc o).heap.size ≤ g) : TR rb s nm env B0 a u w b2 u2 (ps ++ [p]) sl' (xs ++ [x]) w3 := by
  have hmv := part_moves h.hb hb2 hp
  have hl := lt_of_block h.tb.blk
  have hs1 : wr.heap.size ≤ w2.heap.size := hb.size
  have hs2 : (w2.alloc o).heap.size = w2.heap.size + 1 := by simp
  have hrow : ∀ k, sl.ownBlock = some k → w.heap.size + 1 ≤ k ∧ k < wr.heap.size := fun k hk => h.tb.row.lt k hk
  have hold : ∀ k, k < w2.heap.size → k ≠ w.heap.size → sl.ownBlock ≠ some k → w3.heap[k]? = w2.heap[k]? := fun k hk h1 h2 => by
    rw [hc.block k (by omega) h1 h2, Below.heap_alloc _ _ _ hk]
  have hlen := h.len
  refine ⟨hb2, by rw [List.length_append, List.length_singleton]; omega, ⟨?_⟩, ?_, ht, ?_, h.ahead.next hne hp, by rw [hu, h.unk, unk_snoc, Bool.or_assoc], ?_⟩
  · rw [hold rb h2.lt (by omega) (fun e => by have := hrow rb e; omega)]
    exact h2.blk
  · have hb' := h.but.trans hb
    refine ⟨hc.os.trans hb'.os, hc.tape.trans hb'.tape, hc.output.trans hb'.output, Nat.le_trans (Nat.le_trans hb'.size (by omega)) hc.size, fun k hk hn => ?_⟩
    rw [hold k (by have := hb'.size; omega) (by omega) (fun e => by have := hrow k e; omega)]
    exact hb'.block k hk hn
  · refine PsIs.of_snoc ps xs p x (PsIs.keeps (fun k hk hkl => ?_) _ _ h.parts) (PtIs.keeps (fun k hk hkl => ?_) _ _ hx)
    · obtain ⟨hk1, hk2⟩ := hk
      have hkrb : k ≠ rb := by rcases hk1 with hk1 | hk1 <;> omega
      have hktb : k ≠ w.heap.size := by rcases hk1 with hk1 | hk1 <;> omega
      refine ⟨(hold k (by omega) hktb hk2).trans (hb.block k hkl hkrb), hk1, fun e => ?_⟩
      rcases hw with hw | hw
      · rw [hw] at e; exact hk2 e
      · have := hw k e; omega
    · obtain ⟨hk1, hk2⟩ := h.okp hB k hk
      refine ⟨hold k hkl hk1 hk2, hk.imp id (fun h => by omega), fun e => ?_⟩
      rcases hw with hw | hw
      · rw [hw] at e; exact hk2 e
      · have := hw k e; omega
  · have hn2 := h.nmis.but hb hrb
    refine ⟨fun c h1 h2 b hb' => ?_, h.nmis.unknown⟩
    obtain ⟨t, a1, a2, a3⟩ := hn2.known c h1 h2 b hb'
    exact ⟨t, a1, a2, a3.keeps (fun k hk hkl => ⟨hold k hkl (by omega) (fun e => by have := hrow k e; omega), hk⟩)⟩
theorem TR.start {rb : Nat} {s : ByteArray} {nm : Nat → Option Nat} {env : Env} {B0 a : Nat} {u : Bool} {w : World} (h : RS rb s nm a u w) (ha : a ≤ s.size) (hn : NmIs B0 w nm env) : TR rb s nm env B0 a u w a u [] (.slice none 0 0) [] (w.alloc (.cells #[.slice none 0 0, .bool true, .bool true, .bool true] 75)) :=
  ⟨ha, Nat.zero_le _, h.alloc _, (But.refl _ _).alloc _, new_TB w, by rw [Tm.of, PsIs], Ahead.start _ _, by simp [Tm.of, Tm.unk], hn.alloc _⟩
theorem end_of {s : ByteArray} {b : Nat} (hb : b < s.size) (h : s[b] = 41 ∨ s[b] = 93 ∨ s[b] = 58) : T.End (rest s b) := by
  intro c hc
  rw [rest_lt hb] at hc
  cases hc
  exact h
theorem not_end {s : ByteArray} {b : Nat} (hb : b < s.size) (h : ¬ (s[b] = 41 ∨ s[b] = 93 ∨ s[b] = 58)) : ¬ T.End (rest s b) := fun he => h (he s[b] (by rw [rest_lt hb]; rfl))
section
variable {rb : Nat} {s : ByteArray} {nm : Nat → Option Nat} {env : Env} {B0 m : Nat}
set_option maxRecDepth 100000 in
set_option maxHeartbeats 3200000 in
theorem term_of (hP : RP rb s nm env B0 m) (hs : s.size ≤ 120) (hrb : B0 ≤ rb) : RT rb s nm env B0 m := by
  intro a u w h ha hm hn hB
  have hlt := h.lt
  have HP := hide hP
  have HS := hide (TR.start h ha hn)
  clear hP h hn
  go_enter Tryz.func49, Tryz.ntmps49
  go_wp2_with fail
  refine (newTerm_any _).mono ?_
  rintro e w' ⟨rfl, rfl⟩
  go_wp2_with fail
  go_loopg [] (s.size - a) (fun k wr => ∃ b u' ps sl xs, k = s.size - b ∧ s.size - b ≤ m ∧ TR rb s nm env B0 a u w b u' ps sl xs wr)
  case atStart => exact ⟨a, u, [], _, [], rfl, hm, unhide HS⟩
  case round =>
    obtain ⟨b, u', ps, sl, xs, hk, hbm, hR⟩ := hrel
    have hT0 := hR.rs.text
    have hA0 := hR.rs.pos
    have hb0 := hR.hb
    have HK := hide hk
    have HR := hide hR
    clear hk hR HS
    by_cases h1 : b < s.size
    · have hd : decide ((b : Int) < (s.size : Int)) = true := by simp; omega
      by_cases h2 : s[b] = 41 ∨ s[b] = 93 ∨ s[b] = 58
      · have hde : decide (s[b] = 41 ∨ s[b] = 93 ∨ s[b] = 58) = true := by simpa using h2
        have HE := hide (end_of h1 h2)
        clear h2
        go_wp2_with fail
        go_quiet (first | (go_at_call 80; exact Calls.quiet_of_same ((endsTerm_any s[b] _).mono (fun e w' h => ⟨h.1, h.2.symm⟩))))
        rw [hde]
        go_wp2_with fail
        exact bodyPost_ret (v := .tuple #[.pointer (some ⟨w.heap.size, 0, none⟩), .bool true]) (by simp [results, Tryz.results49, go_sem]) rfl ⟨((unhide HR).drewN _).but, b, u', hb0, ((unhide HR).drewN _).rs, Or.inl ⟨Tm.of ps, w.heap.size, rfl, (unhide HR).ahead.done (unhide HE), ((unhide HR).drewN _).out, (unhide HR).unk⟩⟩
      · have hde : decide (s[b] = 41 ∨ s[b] = 93 ∨ s[b] = 58) = false := by simpa using h2
        have HE := hide (not_end h1 h2)
        clear h2
        go_wp2_with fail
        go_quiet (first | (go_at_call 80; exact Calls.quiet_of_same ((endsTerm_any s[b] _).mono (fun e w' h => ⟨h.1, h.2.symm⟩))))
        rw [hde]
        go_wp2_with fail
        refine (unhide HP b u' _ ((unhide HR).drewN _).rs h1 hbm ((unhide HR).drewN _).nmis (Nat.le_trans hB ((unhide HR).drewN _).but.size)).mono ?_
        rintro e w2 ⟨hb2, hg2⟩
        obtain ⟨L, N, K, Tp, Bt, pa, pn, pc, Bo, Ov, ok, b2, u2, rfl, hbb, h2, hcase⟩ := hg2.lay
        have HB2 := hide hb2
        have H2 := hide h2
        have HC := hide hcase
        clear hb2 h2 hcase hg2
        cases ok with
        | false =>
          go_wp2_with fail
          have hno : RdP env.full (rest s b) none := by
            rcases unhide HC with ⟨h, _⟩ | ⟨_, _, h⟩
            · cases h
            · exact h
          exact bodyPost_ret (v := .tuple #[.pointer none, .bool false]) (by simp [results, Tryz.results49, go_sem]) rfl ⟨(((unhide HR).drewN _).but.trans (unhide HB2)).alloc _, b2, u2, hbb, (unhide H2).alloc _, Or.inr ⟨rfl, (unhide HR).ahead.fail (unhide HE) hno⟩⟩
        | true =>
          obtain ⟨p, hp1, hp2, hp3⟩ : ∃ p, RdP env.full (rest s b) (some (p, rest s b2)) ∧ PtIs (Okw B0 wr) w2 ⟨L, N, K, Tp, Bt, pa, pn, pc, Bo, Ov⟩ p ∧ u2 = (u' || p.unk env) := by
            rcases unhide HC with ⟨_, h⟩ | ⟨h, _⟩
            · exact h
            · cases h
          have HP1 := hide hp1
          have HP2 := hide hp2
          have HP3 := hide hp3
          have HRd := hide ((unhide HR).drewN nq)
          have hmv := part_moves hb0 hbb hp1
          have hlen := (unhide HR).len
          clear hp1 hp2 hp3 HC hT0 hA0
          go_wp2_with fail
          refine (add_any (x := ⟨L, N, K, Tp, Bt, pa, pn, pc, Bo, Ov⟩) (Ok := Okw B0 wr) ((unhide HRd).mid hlt (unhide HB2) _) (PtIs.keeps (fun k hk hl => ⟨Below.heap_alloc _ _ _ hl, hk⟩) _ _ (unhide HP2)) ((unhide HR).okp hB) (by omega)).mono ?_
          rintro e w3 ⟨rfl, hchg, sl', htb, hwh⟩
          have HN3 := hide ((unhide HRd).next hlt hrb hB (unhide HE) (unhide HB2) hbb (unhide H2) (unhide HP1) (unhide HP2) (unhide HP3) hchg htb hwh)
          clear hchg htb hwh
          go_wp2_with fail
          go_roundg (s.size - b2)
          case measure => rw [unhide HK]; omega
          case rel => exact ⟨b2, u2, ps ++ [p], sl', xs ++ [⟨L, N, K, Tp, Bt, pa, pn, pc, Bo, Ov⟩], rfl, by omega, unhide HN3⟩
    · have hd : decide ((b : Int) < (s.size : Int)) = false := by simp; omega
      have hd' : ¬ b < s.size := h1
      have HE := hide (show T.End (rest s b) by rw [rest_ge (by omega)]; exact end_nil)
      go_wp2_with fail
      go_quiet (fail)
      go_wp2_with fail
      exact bodyPost_ret (v := .tuple #[.pointer (some ⟨w.heap.size, 0, none⟩), .bool true]) (by simp [results, Tryz.results49, go_sem]) rfl ⟨((unhide HR).drewN _).but, b, u', hb0, ((unhide HR).drewN _).rs, Or.inl ⟨Tm.of ps, w.heap.size, rfl, (unhide HR).ahead.done (unhide HE), ((unhide HR).drewN _).out, (unhide HR).unk⟩⟩
theorem read_all (hs : s.size ≤ 120) (hrb : B0 ≤ rb) : ∀ m, RT rb s nm env B0 m
  | 0 => term_of (fun a u w h ha hm => by omega) hs hrb
  | m + 1 => term_of (part_of (read_all hs hrb m) hs hrb) hs hrb
end
def ncells (nm : Nat → Option Nat) : Array Value := #[ptr (nm 0), ptr (nm 1), ptr (nm 2), ptr (nm 3), ptr (nm 4), ptr (nm 5), ptr (nm 6), ptr (nm 7), ptr (nm 8), ptr (nm 9), ptr (nm 10), ptr (nm 11), ptr (nm 12), ptr (nm 13), ptr (nm 14), ptr (nm 15), ptr (nm 16), ptr (nm 17), ptr (nm 18), ptr (nm 19), ptr (nm 20), ptr (nm 21), ptr (nm 22), ptr (nm 23), ptr (nm 24), ptr (nm 25)]
structure EnvOk (env : Env) : Prop where
  wf : env.wf
  dom : ∀ c : UInt8, (c.toNat < 65 ∨ 90 < c.toNat) → env c = none
def ReadT (env : Env) (s : List UInt8) (e : Ending) (w' : World) : Prop :=
  (∃ c, Check env s c ∧ e = .returned (.tuple #[.pointer none, .int .i64 c])) ∨ ∃ t tb, T.Good env s t ∧ TmIs (fun _ => True) w' tb t ∧ e = .returned (.tuple #[.pointer (some ⟨tb, 0, none⟩), .int .i64 0])
theorem rest_zero (s : ByteArray) : rest s 0 = s.data.toList := by unfold rest; simp
theorem rest_eq_nil {s : ByteArray} {b : Nat} (h : b ≤ s.size) : rest s b = [] ↔ b = s.size := by
  have := rest_len s b
  constructor
  · intro e; rw [e] at this; simp at this; omega
  · intro e; exact rest_ge (by omega)
theorem Tryz.infoNames : (Tryz.prog.info? 63).map (·.size) = some 26 := by kernel_rfl
theorem Tryz.infoReader : (Tryz.prog.info? 99).map (·.size) = some 29 := by kernel_rfl
theorem built_reader (s : ByteArray) (nm : Nat → Option Nat) : Tryz.prog.built 99 [(0, .string s), (2, .agg (ncells nm))] = some (rcells s nm 0 false) := by kernel_rfl
theorem rcells_one (s : ByteArray) (nm : Nat → Option Nat) (a : Nat) (u : Bool) : (rcells s nm a u).all (·.oneCell') = true := by simp [rcells, ptr, Value.oneCell']
theorem wpList_build_is {P : Program} {ops : Array Oper} {rest : List Oper} {o : Oper} {a : Act} {w : World} {Q : Exit → Act → World → Prop} (hg : o.guard = none) (t : TypeId) (parts : Array (Nat × Operand)) (ho : o.op = .build t parts) (vs : List (Nat × Value)) (hv : (parts.map fun (i, x) => (i, a.eval x)).toList = vs) (cs : Array Value) (hb : P.built t vs = some cs) (h : wpList P ops Q rest (a.put o.dst (.agg cs)) w) : wpList P ops Q (o :: rest) a w :=
  wpList_build hg t parts ho (by rw [hv, hb]; rfl) (by rw [hv, hb]; exact h)
set_option maxRecDepth 100000 in
set_option maxHeartbeats 1600000 in
theorem tRead_long {env : Env} (s : ByteArray) (nm : Nat → Option Nat) (w : World) (hl : 120 < s.size) :
    Calls Tryz.prog 29 #[.string s, .agg (ncells nm)] w fun e w' => ReadT env s.data.toList e w' ∧ Below w.heap.size w w' := by
  have HC := hide (show Check env s.data.toList 5 from Or.inl ⟨hl, rfl⟩)
  have hl' : (120 : Int) < (s.size : Int) := by omega
  go_enter Tryz.func29, Tryz.ntmps29
  go_wp2_with fail
  exact bodyPost_ret (v := .tuple #[.pointer none, .int .i64 5]) (by simp [results, Tryz.results29, go_sem]) rfl ⟨Or.inl ⟨5, unhide HC, rfl⟩, (by repeat (first | exact Below.refl _ _ | refine below_dr ?_ _ | refine Below.drew ?_ | refine Below.setCell ?_ (by simp) _ | refine Below.alloc ?_ (by simp) _))⟩
theorem new_at (w : World) (o o' : Obj) : ((w.alloc o).alloc o').heap[w.heap.size + 1]? = some o' := by
  have := heap_alloc_new (w.alloc o) o'
  rw [World.size_alloc] at this
  exact this
theorem setRow_heap_ne (w : World) {g k : Nat} (cs : Array Value) (h : k ≠ g) : (w.setRow g cs).heap[k]? = w.heap[k]? := setRow_other w g k cs h
theorem read_start {env : Env} {s : ByteArray} {nm : Nat → Option Nat} {w : World} (hn : NmIs w.heap.size w nm env) (z : Array Value) {T : TypeId} : RS (w.heap.size + 1) s nm 0 false (((w.alloc (.cells (ncells nm) T)).alloc (.cells z 99)).setRow (w.heap.size + 1) (rcells s nm 0 false)) ∧ NmIs w.heap.size (((w.alloc (.cells (ncells nm) T)).alloc (.cells z 99)).setRow (w.heap.size + 1) (rcells s nm 0 false)) nm env ∧ Below w.heap.size w (((w.alloc (.cells (ncells nm) T)).alloc (.cells z 99)).setRow (w.heap.size + 1) (rcells s nm 0 false)) ∧ (((w.alloc (.cells (ncells nm) T)).alloc (.cells z 99)).setRow (w.heap.size + 1) (rcells s nm 0 false)).heap.size = w.heap.size + 2 := by
  have hold : ∀ k, k < w.heap.size → (((w.alloc (.cells (ncells nm) T)).alloc (.cells z 99)).setRow (w.heap.size + 1) (rcells s nm 0 false)).heap[k]? = w.heap[k]? := fun k hk => by
    rw [setRow_heap_ne _ _ (by omega), Below.heap_alloc _ _ _ (by simp; omega), Below.heap_alloc _ _ _ hk]
  refine ⟨⟨setRow_heap _ _ z _ _ _ (new_at w _ _)⟩, ⟨fun c h1 h2 b hb => ?_, hn.unknown⟩, ⟨rfl, rfl, rfl, by simp; omega, hold⟩, by simp⟩
  obtain ⟨t, a1, a2, a3⟩ := hn.known c h1 h2 b hb
  exact ⟨t, a1, a2, a3.keeps (fun k hk _ => ⟨hold k hk, hk⟩)⟩
set_option maxRecDepth 100000 in
set_option maxHeartbeats 1600000 in
theorem tRead_any {env : Env} (he : EnvOk env) (s : ByteArray) (nm : Nat → Option Nat) (w : World) (hn : NmIs w.heap.size w nm env) :
    Calls Tryz.prog 29 #[.string s, .agg (ncells nm)] w fun e w' => ReadT env s.data.toList e w' ∧ Below w.heap.size w w' := by
  by_cases hl : 120 < s.size
  · exact tRead_long s nm w hl
  · have hl' : ¬ (120 : Int) < (s.size : Int) := by omega
    have HN := hide hn
    have HL := hide hl
    have hE := hide he
    clear hn hl he
    go_enter Tryz.func29, Tryz.ntmps29
    go_upto_region 3 with fail
    go_wp2_with (first | (refine wpList_load_row rfl 63 (.tmp 3) rfl w.heap.size rfl 63 (ncells nm) (0, 0) _ (heap_alloc_new w _) Tryz.underlying63 rfl Tryz.infoNames ?_) | (refine wpList_build_is rfl 99 #[(0, .tmp 12), (2, .tmp 13)] rfl [(0, .string s), (2, .agg (ncells nm))] (by simp [Act.eval, Act.put]) (rcells s nm 0 false) (built_reader s nm) ?_) | (refine wpList_store_row rfl 99 (.tmp 6) (.tmp 14) rfl (w.heap.size + 1) (rcells s nm 0 false) rfl rfl 99 _ (new_at w _ _) Tryz.infoReader rfl (rcells_one _ _ _ _) ?_))
    have hs : s.size ≤ 120 := by have := unhide HL; omega
    refine (read_all (m := s.size) hs (Nat.le_succ w.heap.size) 0 false _ (read_start (unhide HN) _).1 (Nat.zero_le _) (by omega) (read_start (unhide HN) _).2.1 (by rw [(read_start (unhide HN) _).2.2.2]; omega)).mono ?_
    rintro e w1 ⟨hb1, b, u', hb, h1, ⟨t, tb, rfl, hr, ht, hu⟩ | ⟨rfl, hr⟩⟩
    · rw [rest_zero] at hr
      have hP := h1.pos
      have hU := h1.unk
      have HB1 := hide ((read_start (unhide HN) _).2.2.1.trans (hb1.below (B := w.heap.size) (by rw [(read_start (unhide HN) _).2.2.2]; omega) (by omega)))
      have HTm := hide (TmIs.keeps (Ok' := fun _ => True) ht (fun k _ _ => ⟨rfl, trivial⟩))
      by_cases hbs : b = s.size
      · have hne : ((b : Int) != (s.size : Int)) = false := by rw [hbs]; simp
        have hnil : rest s b = [] := rest_ge (by omega)
        rw [hnil] at hr
        cases u' with
        | false =>
          have hg := rdT_good (env := env) hr (by simpa using hu.symm)
          have HG := hide hg
          clear hg hr hu ht h1 hb1 hbs hnil
          go_wp2_with fail
          exact bodyPost_ret (v := .tuple #[.pointer (some ⟨tb, 0, none⟩), .int .i64 0]) (by simp [results, Tryz.results29, go_sem]) rfl ⟨Or.inr ⟨t, tb, ⟨hs, unhide HG⟩, unhide HTm, rfl⟩, unhide HB1⟩
        | true =>
          have hg : Check env s.data.toList 7 := Or.inr (Or.inr ⟨hs, rdT_shape hr, rdT_unk hr (by simpa using hu.symm), rfl⟩)
          have HG := hide hg
          clear hg hr hu ht h1 hb1 hbs hnil
          go_wp2_with fail
          exact bodyPost_ret (v := .tuple #[.pointer none, .int .i64 7]) (by simp [results, Tryz.results29, go_sem]) rfl ⟨Or.inl ⟨7, unhide HG, rfl⟩, unhide HB1⟩
      · have hne : ((b : Int) != (s.size : Int)) = true := by rw [bne_iff_ne]; omega
        have hg : Check env s.data.toList 6 := Or.inr (Or.inl ⟨hs, rdT_noshape (unhide hE).wf hr (fun t' e => by
          simp only [Option.some.injEq, Prod.mk.injEq] at e
          exact hbs ((rest_eq_nil hb).1 e.2)), rfl⟩)
        have HG := hide hg
        clear hg hr hu ht h1 hb1 hbs
        go_wp2_with fail
        exact bodyPost_ret (v := .tuple #[.pointer none, .int .i64 6]) (by simp [results, Tryz.results29, go_sem]) rfl ⟨Or.inl ⟨6, unhide HG, rfl⟩, unhide HB1⟩
    · rw [rest_zero] at hr
      have HB1 := hide ((read_start (unhide HN) _).2.2.1.trans (hb1.below (B := w.heap.size) (by rw [(read_start (unhide HN) _).2.2.2]; omega) (by omega)))
      have hg : Check env s.data.toList 6 := Or.inr (Or.inl ⟨hs, rdT_noshape (unhide hE).wf hr (fun t' e => by cases e), rfl⟩)
      have HG := hide hg
      clear hg hr h1 hb1
      go_wp2_with fail
      exact bodyPost_ret (v := .tuple #[.pointer none, .int .i64 6]) (by simp [results, Tryz.results29, go_sem]) rfl ⟨Or.inl ⟨6, unhide HG, rfl⟩, unhide HB1⟩
theorem ncells_get (nm : Nat → Option Nat) : ∀ i, i < 26 → (ncells nm)[i]? = some (ptr (nm i))
  | 0, _ => rfl | 1, _ => rfl | 2, _ => rfl | 3, _ => rfl | 4, _ => rfl | 5, _ => rfl | 6, _ => rfl | 7, _ => rfl | 8, _ => rfl | 9, _ => rfl | 10, _ => rfl | 11, _ => rfl | 12, _ => rfl | 13, _ => rfl | 14, _ => rfl | 15, _ => rfl | 16, _ => rfl | 17, _ => rfl | 18, _ => rfl | 19, _ => rfl | 20, _ => rfl | 21, _ => rfl | 22, _ => rfl | 23, _ => rfl | 24, _ => rfl | 25, _ => rfl
  | n + 26, h => by omega
def nmPut (nm : Nat → Option Nat) (i : Nat) (b : Nat) : Nat → Option Nat := fun j => if j = i then some b else nm j
theorem ncells_set (nm : Nat → Option Nat) (b : Nat) : ∀ i, i < 26 → (ncells nm).setIfInBounds i (ptr (some b)) = ncells (nmPut nm i b)
  | 0, _ => rfl | 1, _ => rfl | 2, _ => rfl | 3, _ => rfl | 4, _ => rfl | 5, _ => rfl | 6, _ => rfl | 7, _ => rfl | 8, _ => rfl | 9, _ => rfl | 10, _ => rfl | 11, _ => rfl | 12, _ => rfl | 13, _ => rfl | 14, _ => rfl | 15, _ => rfl | 16, _ => rfl | 17, _ => rfl | 18, _ => rfl | 19, _ => rfl | 20, _ => rfl | 21, _ => rfl | 22, _ => rfl | 23, _ => rfl | 24, _ => rfl | 25, _ => rfl
  | n + 26, h => by omega
structure SesIs (w : World) (xb : Nat) (nm : Nat → Option Nat) (env : Env) : Prop where
  blk : w.heap[xb]? = some (.cells (ncells nm) 65 (0, 0))
  names : NmIs w.heap.size w nm env
  env : EnvOk env
theorem SesIs.below {w w' : World} {xb : Nat} {nm : Nat → Option Nat} {env : Env} (h : SesIs w xb nm env) (hb : Below w.heap.size w w') : SesIs w' xb nm env :=
  ⟨by rw [hb.block xb (lt_of_block h.blk)]; exact h.blk, ⟨fun c h1 h2 b hb' => by
    obtain ⟨t, a1, a2, a3⟩ := h.names.known c h1 h2 b hb'
    exact ⟨t, a1, a2, a3.keeps (fun k hk _ => ⟨hb.block k hk, Nat.lt_of_lt_of_le hk hb.size⟩)⟩, h.names.unknown⟩, h.env⟩
def noEnv : Env := fun _ => none
theorem noEnv_ok : EnvOk noEnv := ⟨fun c b h => (by cases h), fun _ _ => rfl⟩
set_option maxRecDepth 100000 in
set_option maxHeartbeats 800000 in
theorem new_any (w : World) : Calls Tryz.prog 22 #[] w fun e w' => e = .returned (.pointer (some ⟨w.heap.size, 0, none⟩)) ∧ w' = w.alloc (.cells (ncells fun _ => none) 65) := by
  go_enter Tryz.func22, Tryz.ntmps22
  go_wp2_with fail
  go_ret
  exact ⟨rfl, rfl⟩
theorem new_SesIs (w : World) : SesIs (w.alloc (.cells (ncells fun _ => none) 65)) w.heap.size (fun _ => none) noEnv :=
  ⟨heap_alloc_new w _, ⟨fun c _ _ b h => (by cases h), fun _ _ _ _ => rfl⟩, noEnv_ok⟩
def Ty (w : World) (k : Nat) : Prop := ∃ c ty, w.heap[k]? = some (.cells c ty (0, 0)) ∧ ty ≠ 65
theorem owns_ty {w : World} {e : TypeId} {size : Nat} {v : Value} {n : Nat} {xs : List Value} (h : w.ownsRow 0 e size v n xs) (he : e ≠ 65) : ∀ g, v.ownBlock = some g → Ty w g := by
  intro g hg
  rcases h.2 with ⟨h2, _⟩ | ⟨g', cap, cur, hv, _, hh, _⟩
  · rw [h2] at hg; cases hg
  · rw [hv] at hg; cases hg
    exact ⟨cur, e, hh, he⟩
theorem Hd.typed {Ok : Nat → Prop} {w : World} {b : Nat} {t : Tm} {sl : Value} {xs : List PC} (h : Hd Ok w b t sl xs) : Hd (fun k => Ok k ∧ Ty w k) w b t sl xs :=
  ⟨⟨h.ok, _, _, h.blk, by decide⟩, h.blk, h.row, fun g hg => ⟨h.rok g hg, owns_ty h.row (by decide) g hg⟩⟩
theorem SpIs.typed {Ok : Nat → Prop} {w : World} {x : PC} {y : Sp} (h : SpIs Ok w x y) : SpIs (fun k => Ok k ∧ Ty w k) w x y := by
  refine ⟨h.1, ?_⟩
  have h2 := h.2
  cases y <;> first
    | exact ⟨h2.1, fun g hg => ⟨h2.2 g hg, owns_ty h2.1 (by decide) g hg⟩⟩
    | exact h2
mutual
theorem PtIs.typed {Ok : Nat → Prop} {w : World} : ∀ (p : Pt) (x : PC), PtIs Ok w x p → PtIs (fun k => Ok k ∧ Ty w k) w x p
  | .sp y, x, h => by rw [PtIs] at h ⊢; exact h.typed
  | .pow f k, x, h => by
    rw [PtIs] at h ⊢
    obtain ⟨h1, h2, b, sl, xs, h3, h4, h5⟩ := h
    exact ⟨h1, h2, b, sl, xs, h3, h4.typed, PsIs.typed f xs h5⟩
  | .under s g, x, h => by
    rw [PtIs] at h ⊢
    obtain ⟨h1, ⟨b, sl, xs, h3, h4, h5⟩, b', sl', xs', h3', h4', h5'⟩ := h
    exact ⟨h1, ⟨b, sl, xs, h3, h4.typed, PsIs.typed g xs h5⟩, b', sl', xs', h3', h4'.typed, PsIs.typed s xs' h5'⟩
  | .name c t, x, h => by
    rw [PtIs] at h ⊢
    obtain ⟨h1, h2, b, sl, xs, h3, h4, h5⟩ := h
    exact ⟨h1, h2, b, sl, xs, h3, h4.typed, PsIs.typed t xs h5⟩
theorem PsIs.typed {Ok : Nat → Prop} {w : World} : ∀ (t : Tm) (l : List PC), PsIs Ok w l t → PsIs (fun k => Ok k ∧ Ty w k) w l t
  | .nil, l, h => by rw [PsIs] at h ⊢; exact h
  | .cons p t, l, h => by
    rw [PsIs] at h ⊢
    obtain ⟨x, xs, h1, h2, h3⟩ := h
    exact ⟨x, xs, h1, PtIs.typed p x h2, PsIs.typed t xs h3⟩
end
theorem TmIs.typed {Ok : Nat → Prop} {w : World} {b : Nat} {t : Tm} (h : TmIs Ok w b t) : TmIs (fun k => Ok k ∧ Ty w k) w b t := by
  obtain ⟨sl, xs, h1, h2⟩ := h
  exact ⟨sl, xs, h1.typed, PsIs.typed t xs h2⟩
theorem ty_ne {w : World} {xb k : Nat} {c : Array Value} (hx : w.heap[xb]? = some (.cells c 65 (0, 0))) (h : Ty w k) : k ≠ xb := by
  rintro rfl
  obtain ⟨c', ty, h1, h2⟩ := h
  rw [hx] at h1
  cases h1
  exact h2 rfl
theorem TmIs.but {Ok : Nat → Prop} {w w' : World} {xb b : Nat} {t : Tm} {c : Array Value} (h : TmIs Ok w b t) (hx : w.heap[xb]? = some (.cells c 65 (0, 0))) (hb : But xb w w') : TmIs (fun k => k < w'.heap.size) w' b t :=
  h.typed.keeps (fun k hk hl => ⟨hb.block k hl (ty_ne hx hk.2), Nat.lt_of_lt_of_le hl hb.size⟩)
theorem SesIs.but {w w' : World} {xb yb : Nat} {nm : Nat → Option Nat} {env : Env} {c : Array Value} (h : SesIs w yb nm env) (hx : w.heap[xb]? = some (.cells c 65 (0, 0))) (hb : But xb w w') (hne : yb ≠ xb) : SesIs w' yb nm env :=
  ⟨by rw [hb.block yb (lt_of_block h.blk) hne]; exact h.blk, ⟨fun c h1 h2 b hb' => by
    obtain ⟨t, a1, a2, a3⟩ := h.names.known c h1 h2 b hb'
    exact ⟨t, a1, a2, a3.but hx hb⟩, h.names.unknown⟩, h.env⟩
theorem SesIs.put {w w1 : World} {xb : Nat} {nm : Nat → Option Nat} {env : Env} (h : SesIs w xb nm env) (hb : Below w.heap.size w w1) {c : UInt8} (h1 : 65 ≤ c.toNat) (h2 : c.toNat ≤ 90) {tb : Nat} {t : Tm} {Ok : Nat → Prop} (ht : TmIs Ok w1 tb t) (hw : t.wf) : SesIs (w1.setCell ⟨xb, c.toNat - 65, none⟩ (.pointer (some ⟨tb, 0, none⟩))) xb (nmPut nm (c.toNat - 65) tb) (env.put c t) := by
  have hs1 := h.below hb
  have hbut : But xb w1 (w1.setCell ⟨xb, c.toNat - 65, none⟩ (.pointer (some ⟨tb, 0, none⟩))) := (But.refl _ _).setCell _ _
  refine ⟨by rw [blk_set hs1.blk, ← ncells_set nm tb (c.toNat - 65) (by omega)]; rfl, ⟨fun d d1 d2 b hb' => ?_, fun d d1 d2 hb' => ?_⟩, ⟨fun d b hd => ?_, fun d hd => ?_⟩⟩
  · unfold nmPut at hb'
    by_cases e : d.toNat - 65 = c.toNat - 65
    · rw [if_pos e] at hb'
      cases hb'
      have hdc : d = c := UInt8.toNat_inj.1 (by omega)
      subst hdc
      exact ⟨t, by unfold Env.put; simp, hw, ht.but hs1.blk hbut⟩
    · rw [if_neg e] at hb'
      obtain ⟨t', a1, a2, a3⟩ := hs1.names.known d d1 d2 b hb'
      have hdc : d ≠ c := by rintro rfl; exact e rfl
      exact ⟨t', by unfold Env.put; rw [if_neg hdc]; exact a1, a2, a3.but hs1.blk hbut⟩
  · unfold nmPut at hb'
    by_cases e : d.toNat - 65 = c.toNat - 65
    · rw [if_pos e] at hb'; cases hb'
    · rw [if_neg e] at hb'
      have hdc : d ≠ c := by rintro rfl; exact e rfl
      unfold Env.put
      rw [if_neg hdc]
      exact hs1.names.unknown d d1 d2 hb'
  · unfold Env.put at hd
    by_cases e : d = c
    · rw [if_pos e] at hd; cases hd; exact hw
    · rw [if_neg e] at hd; exact h.env.wf d b hd
  · unfold Env.put
    rw [if_neg (by rintro rfl; omega)]
    exact h.env.dom d hd
theorem name_one {name : ByteArray} (h : name.size = 1) : name.data.toList = [name[0]'(by omega)] := by
  have := rest_lt (s := name) (a := 0) (by omega)
  rw [rest_zero, rest_ge (by omega)] at this
  exact this
set_option maxRecDepth 100000 in
set_option maxHeartbeats 1600000 in
theorem define_any {env : Env} (name s : ByteArray) {xb : Nat} {nm : Nat → Option Nat} (w : World) (h : SesIs w xb nm env) :
    Calls Tryz.prog 38 #[.pointer (some ⟨xb, 0, none⟩), .string name, .string s] w fun e w' => ∃ c env' nm', e = .returned (.int .i64 c) ∧ DefineSays env name.data.toList s.data.toList c env' ∧ SesIs w' xb nm' env' ∧ But xb w w' := by
  have hblk := h.blk
  have H := hide h
  clear h
  by_cases h1 : name.size = 1
  · have hne : (((name.size : Nat) : Int) != 1) = false := by rw [h1]; rfl
    have hix : (0 : Int) < (name.size : Int) := by omega
    have HN := hide (name_one h1)
    have h10 : 0 < name.size := by omega
    obtain ⟨c, hc⟩ : ∃ c, name[0] = c := ⟨_, rfl⟩
    by_cases h2 : 65 ≤ c.toNat ∧ c.toNat ≤ 90
    · obtain ⟨h2, h3⟩ := h2
      go_enter Tryz.func38, Tryz.ntmps38
      go_wp2_with fail
      refine (place_yes c h2 h3 _).mono ?_
      rintro e w' ⟨rfl, rfl⟩
      go_wp2_with (refine wpList_load_row rfl 63 (.tmp 26) rfl xb rfl 65 (ncells nm) (0, 0) _ hblk Tryz.underlying63 rfl Tryz.infoNames ?_)
      refine (tRead_any (unhide H).env s nm _ (unhide H).names).mono ?_
      rintro e w1 ⟨⟨k, hk, rfl⟩ | ⟨t, tb, hg, ht, rfl⟩, hb1⟩
      · have hke : (k != 0) = true := by rw [bne_iff_ne]; exact hk.ne
        have HC := hide hk
        have HB1 := hide hb1
        clear hk hb1
        go_wp2_with fail
        go_ret
        exact ⟨k, env, nm, rfl, Or.inr ⟨c, by rw [unhide HN, hc], h2, h3, Or.inl ⟨unhide HC, rfl⟩⟩, (unhide H).below (unhide HB1), But.of_below (unhide HB1)⟩
      · have hs1 := (unhide H).below hb1
        have hcell : w1.cell? ⟨xb, c.toNat - 65, none⟩ = some (ptr (nm (c.toNat - 65))) := by rw [blk_cell hs1.blk]; exact ncells_get nm _ (by omega)
        have hfr : w1.frozen? ⟨xb, c.toNat - 65, none⟩ = false := blk_free hs1.blk _
        have hix2 : ((c.toNat - 65 : Nat) : Int) < 26 := by omega
        have HP := hide ((unhide H).put hb1 h2 h3 ht hg.term.wf)
        have HG := hide hg
        have HB1 := hide hb1
        clear hg ht hb1 hs1
        go_wp2_with fail
        go_ret
        exact ⟨0, env.put c t, nmPut nm (c.toNat - 65) tb, rfl, Or.inr ⟨c, by rw [unhide HN, hc], h2, h3, Or.inr ⟨t, unhide HG, rfl, rfl⟩⟩, unhide HP, (But.of_below (unhide HB1)).setCell _ _⟩
    · have h2' : c.toNat < 65 ∨ 90 < c.toNat := by omega
      have H2 := hide h2
      clear h2
      go_enter Tryz.func38, Tryz.ntmps38
      go_wp2_with fail
      refine (place_no c h2' _).mono ?_
      rintro e w' ⟨rfl, rfl⟩
      go_wp2_with fail
      go_ret
      exact ⟨4, env, nm, rfl, Or.inl ⟨by rintro ⟨d, hd, d1, d2⟩; rw [unhide HN, hc] at hd; cases hd; exact unhide H2 ⟨d1, d2⟩, rfl, rfl⟩, unhide H, But.refl _ _⟩
  · have hne : (((name.size : Nat) : Int) != 1) = true := by rw [bne_iff_ne]; omega
    have H1 := hide h1
    clear h1
    go_enter Tryz.func38, Tryz.ntmps38
    go_wp2_with fail
    go_ret
    exact ⟨4, env, nm, rfl, Or.inl ⟨by
      rintro ⟨d, hd, _, _⟩
      have := congrArg List.length hd
      exact unhide H1 (by simpa using this), rfl, rfl⟩, unhide H, But.refl _ _⟩
end Go.Proofs.YtikiaijgcjjloaaGreatDoor

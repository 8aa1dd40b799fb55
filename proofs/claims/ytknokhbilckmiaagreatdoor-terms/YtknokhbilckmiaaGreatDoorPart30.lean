import Derived.Test.YtknokhbilckmiaaGreatDoorPart29

/- The walks: the program's reader: a term. -/
namespace Go.Proofs.YtknokhbilckmiaaGreatDoor
open Go Go.RowKit M T Go.Lib

theorem unk_snoc (env : Env) (ps : List Pt) (p : Pt) : (Tm.of (ps ++ [p])).unk env = ((Tm.of ps).unk env || p.unk env) := by
  induction ps with
  | nil => simp [Tm.of, Tm.unk]
  | cons q ps ih => rw [List.cons_append, Tm.of, Tm.of, Tm.unk, Tm.unk, ih, Bool.or_assoc]
theorem part_moves {env : Env} {s : ByteArray} {b b2 : Nat} {p : Pt} (hb : b ≤ s.size) (hb2 : b2 ≤ s.size) (h : RdP env (rest s b) (some (p, rest s b2))) : b < b2 := by
  obtain ⟨_, _, e⟩ := h.sound _ _ rfl
  obtain ⟨l, e2⟩ := Pt.text_first p
  have := congrArg List.length e
  rw [List.length_append, rest_len, rest_len, e2, List.length_cons] at this
  omega
/-- What the loop over parts keeps. -/
structure TR (rb : Nat) (s : ByteArray) (nm : Nat → Option Nat) (env : Env) (B0 : Nat) (a : Nat) (u : Bool) (w : World) (b : Nat) (u' : Bool) (ps : List Pt) (sl : Value) (xs : List PC) (wr : World) : Prop where
  hb : b ≤ s.size
  len : xs.length ≤ b
  rs : RS rb s nm b u' wr
  but : But rb w wr
  tb : TB (w.heap.size + 1) wr w.heap.size ps sl xs
  parts : PsIs (fun k => (k < B0 ∨ w.heap.size + 1 ≤ k) ∧ sl.ownBlock ≠ some k) wr xs (Tm.of ps)
  ahead : Ahead env.full (rest s a) ps (rest s b)
  unk : u' = (u || (Tm.of ps).unk env)
  nmis : NmIs B0 wr nm env
theorem TR.drewN {rb : Nat} {s : ByteArray} {nm : Nat → Option Nat} {env : Env} {B0 a : Nat} {u : Bool} {w : World} {b : Nat} {u' : Bool} {ps : List Pt} {sl : Value} {xs : List PC} {wr : World} (h : TR rb s nm env B0 a u w b u' ps sl xs wr) (n : Nat) : TR rb s nm env B0 a u w b u' ps sl xs (wr.drewN n) :=
  ⟨h.hb, h.len, h.rs.drewN n, h.but.drewN n, ⟨h.tb.blk, h.tb.row, h.tb.lt, h.tb.le⟩, PsIs.keeps (w := wr) (w' := wr.drewN n) (fun _ hk _ => ⟨rfl, hk⟩) _ _ h.parts, h.ahead, h.unk, ⟨fun c h1 h2 b hb => by
    obtain ⟨t, a, b', c'⟩ := h.nmis.known c h1 h2 b hb
    exact ⟨t, a, b', c'.keeps (w := wr) (w' := wr.drewN n) (fun k hk _ => ⟨rfl, hk⟩)⟩, h.nmis.unknown⟩⟩
/-- The term that is handed out. -/
theorem TR.out {rb : Nat} {s : ByteArray} {nm : Nat → Option Nat} {env : Env} {B0 a : Nat} {u : Bool} {w : World} {b : Nat} {u' : Bool} {ps : List Pt} {sl : Value} {xs : List PC} {wr : World} (h : TR rb s nm env B0 a u w b u' ps sl xs wr) : TmIs (Okw B0 w) wr w.heap.size (Tm.of ps) := by
  refine ⟨sl, xs, ⟨Or.inr (Nat.le_refl _), h.tb.blk, ⟨h.tb.row.1, ?_⟩, fun g hg => Or.inr ?_⟩, PsIs.keeps (fun k hk _ => ⟨rfl, ?_⟩) _ _ h.parts⟩
  · rcases h.tb.row.2 with h2 | ⟨g, cap, cur, hv, hg, r⟩
    · exact Or.inl h2
    · exact Or.inr ⟨g, cap, cur, hv, Nat.zero_le _, r⟩
  · have := (h.tb.row.lt g hg).1; omega
  · exact hk.1.imp id (fun h => by omega)
/-- Ahead of the call of add. -/
theorem TR.mid {rb : Nat} {s : ByteArray} {nm : Nat → Option Nat} {env : Env} {B0 a : Nat} {u : Bool} {w : World} {b : Nat} {u' : Bool} {ps : List Pt} {sl : Value} {xs : List PC} {wr w2 : World} (h : TR rb s nm env B0 a u w b u' ps sl xs wr) (hlt : rb < w.heap.size) (hb2 : But rb wr w2) (o : Obj) : TB (w.heap.size + 1) (w2.alloc o) w.heap.size ps sl xs := by
  have hl := lt_of_block h.tb.blk
  have hs := hb2.size
  have hle := h.tb.le
  refine ⟨?_, ?_, h.tb.lt, by simp; omega⟩
  · rw [Below.heap_alloc _ _ _ (by omega), hb2.block _ hl (by omega)]
    exact h.tb.blk
  · exact (owns_but h.tb.row hb2 (by omega)).alloc o
theorem TR.okp {rb : Nat} {s : ByteArray} {nm : Nat → Option Nat} {env : Env} {B0 a : Nat} {u : Bool} {w : World} {b : Nat} {u' : Bool} {ps : List Pt} {sl : Value} {xs : List PC} {wr : World} (h : TR rb s nm env B0 a u w b u' ps sl xs wr) (hB : B0 ≤ w.heap.size) : ∀ k, Okw B0 wr k → k ≠ w.heap.size ∧ sl.ownBlock ≠ some k := by
  have hl := lt_of_block h.tb.blk
  intro k hk
  refine ⟨by rcases hk with hk | hk <;> omega, fun e => ?_⟩
  have := h.tb.row.lt k e
  rcases hk with hk | hk <;> omega
/-- Behind the call of add. -/
theorem TR.next {rb : Nat} {s : ByteArray} {nm : Nat → Option Nat} {env : Env} {B0 a : Nat} {u : Bool} {w : World} {b : Nat} {u' : Bool} {ps : List Pt} {sl : Value} {xs : List PC} {wr w2 w3 : World} (h : TR rb s nm env B0 a u w b u' ps sl xs wr) (hlt : rb < w.heap.size) (hrb : B0 ≤ rb) (hB : B0 ≤ w.heap.size) (hne : ¬ T.End (rest s b)) {b2 : Nat} {u2 : Bool} {p : Pt} {x : PC} {o : Obj} {sl' : Value} (hb : But rb wr w2) (hb2 : b2 ≤ s.size) (h2 : RS rb s nm b2 u2 w2) (hp : RdP env.full (rest s b) (some (p, rest s b2))) (hx : PtIs (Okw B0 wr) w2 x p) (hu : u2 = (u' || p.unk env)) (hc : Chg w.heap.size sl (w2.alloc o) w3) (ht : TB (w.heap.size + 1) w3 w.heap.size (ps ++ [p]) sl' (xs ++ [x])) (hw : sl'.ownBlock = sl.ownBlock ∨ ∀ g, sl'.ownBlock = some g → (w2.alloc o).heap.size ≤ g) : TR rb s nm env B0 a u w b2 u2 (ps ++ [p]) sl' (xs ++ [x]) w3 := by
  have hmv := part_moves h.hb hb2 hp
  have hl := lt_of_block h.tb.blk
  have hs1 : wr.heap.size ≤ w2.heap.size := hb.size
  have hs2 : (w2.alloc o).heap.size = w2.heap.size + 1 := by simp
  have hrow : ∀ k, sl.ownBlock = some k → w.heap.size + 1 ≤ k ∧ k < wr.heap.size := fun k hk => h.tb.row.lt k hk
  have hold : ∀ k, k < w2.heap.size → k ≠ w.heap.size → sl.ownBlock ≠ some k → w3.heap[k]? = w2.heap[k]? := fun k hk h1 h2 => by
    rw [hc.block k (by omega) h1 h2, Below.heap_alloc _ _ _ hk]
  have hlen := h.len
  refine ⟨hb2, by rw [List.length_append, List.length_singleton]; omega, ⟨?_⟩, ?_, ht, ?_, h.ahead.next hne hp, by rw [hu, h.unk, unk_snoc, Bool.or_assoc], ?_⟩
  · rw [hold rb h2.lt (by omega) (fun e => by have := hrow rb e; omega)]
    exact h2.blk
  · have hb' := h.but.trans hb
    refine ⟨hc.os.trans hb'.os, hc.tape.trans hb'.tape, hc.output.trans hb'.output, Nat.le_trans (Nat.le_trans hb'.size (by omega)) hc.size, fun k hk hn => ?_⟩
    rw [hold k (by have := hb'.size; omega) (by omega) (fun e => by have := hrow k e; omega)]
    exact hb'.block k hk hn
  · refine PsIs.of_snoc ps xs p x (PsIs.keeps (fun k hk hkl => ?_) _ _ h.parts) (PtIs.keeps (fun k hk hkl => ?_) _ _ hx)
    · obtain ⟨hk1, hk2⟩ := hk
      have hkrb : k ≠ rb := by rcases hk1 with hk1 | hk1 <;> omega
      have hktb : k ≠ w.heap.size := by rcases hk1 with hk1 | hk1 <;> omega
      refine ⟨(hold k (by omega) hktb hk2).trans (hb.block k hkl hkrb), hk1, fun e => ?_⟩
      rcases hw with hw | hw
      · rw [hw] at e; exact hk2 e
      · have := hw k e; omega
    · obtain ⟨hk1, hk2⟩ := h.okp hB k hk
      refine ⟨hold k hkl hk1 hk2, hk.imp id (fun h => by omega), fun e => ?_⟩
      rcases hw with hw | hw
      · rw [hw] at e; exact hk2 e
      · have := hw k e; omega
  · have hn2 := h.nmis.but hb hrb
    refine ⟨fun c h1 h2 b hb' => ?_, h.nmis.unknown⟩
    obtain ⟨t, a1, a2, a3⟩ := hn2.known c h1 h2 b hb'
    exact ⟨t, a1, a2, a3.keeps (fun k hk hkl => ⟨hold k hkl (by omega) (fun e => by have := hrow k e; omega), hk⟩)⟩
theorem TR.start {rb : Nat} {s : ByteArray} {nm : Nat → Option Nat} {env : Env} {B0 a : Nat} {u : Bool} {w : World} (h : RS rb s nm a u w) (ha : a ≤ s.size) (hn : NmIs B0 w nm env) : TR rb s nm env B0 a u w a u [] (.slice none 0 0) [] (w.alloc (.cells #[.slice none 0 0, .bool true, .bool true, .bool true] 86)) :=
  ⟨ha, Nat.zero_le _, h.alloc _, (But.refl _ _).alloc _, new_TB w, by rw [Tm.of, PsIs], Ahead.start _ _, by simp [Tm.of, Tm.unk], hn.alloc _⟩
theorem end_of {s : ByteArray} {b : Nat} (hb : b < s.size) (h : s[b] = 41 ∨ s[b] = 93 ∨ s[b] = 58) : T.End (rest s b) := by
  intro c hc
  rw [rest_lt hb] at hc
  cases hc
  exact h
theorem not_end {s : ByteArray} {b : Nat} (hb : b < s.size) (h : ¬ (s[b] = 41 ∨ s[b] = 93 ∨ s[b] = 58)) : ¬ T.End (rest s b) := fun he => h (he s[b] (by rw [rest_lt hb]; rfl))

section
variable {rb : Nat} {s : ByteArray} {nm : Nat → Option Nat} {env : Env} {B0 m : Nat}

set_option maxRecDepth 100000 in
set_option maxHeartbeats 3200000 in
theorem term_of (hP : RP rb s nm env B0 m) (hs : s.size ≤ 120) (hrb : B0 ≤ rb) : RT rb s nm env B0 m := by
  intro a u w h ha hm hn hB
  have hlt := h.lt
  have HP := hide hP
  have HS := hide (TR.start h ha hn)
  clear hP h hn
  go_enter Tryz.func45, Tryz.ntmps45
  go_wp2_with fail
  refine (newTerm_any _).mono ?_
  rintro e w' ⟨rfl, rfl⟩
  go_wp2_with fail
  go_loopg [] (s.size - a) (fun k wr => ∃ b u' ps sl xs, k = s.size - b ∧ s.size - b ≤ m ∧ TR rb s nm env B0 a u w b u' ps sl xs wr)
  case atStart => exact ⟨a, u, [], _, [], rfl, hm, unhide HS⟩
  case round =>
    obtain ⟨b, u', ps, sl, xs, hk, hbm, hR⟩ := hrel
    have hT0 := hR.rs.text
    have hA0 := hR.rs.pos
    have hb0 := hR.hb
    have HK := hide hk
    have HR := hide hR
    clear hk hR HS
    by_cases h1 : b < s.size
    · have hd : decide ((b : Int) < (s.size : Int)) = true := by simp; omega
      by_cases h2 : s[b] = 41 ∨ s[b] = 93 ∨ s[b] = 58
      · have hde : decide (s[b] = 41 ∨ s[b] = 93 ∨ s[b] = 58) = true := by simpa using h2
        have HE := hide (end_of h1 h2)
        clear h2
        go_wp2_with fail
        go_quiet (first | (go_at_call 76; exact Calls.quiet_of_same ((endsTerm_any s[b] _).mono (fun e w' h => ⟨h.1, h.2.symm⟩))))
        rw [hde]
        go_wp2_with fail
        exact bodyPost_ret (v := .tuple #[.pointer (some ⟨w.heap.size, 0, none⟩), .bool true]) (by simp [results, Tryz.results45, go_sem]) rfl ⟨((unhide HR).drewN _).but, b, u', hb0, ((unhide HR).drewN _).rs, Or.inl ⟨Tm.of ps, w.heap.size, rfl, (unhide HR).ahead.done (unhide HE), ((unhide HR).drewN _).out, (unhide HR).unk⟩⟩
      · have hde : decide (s[b] = 41 ∨ s[b] = 93 ∨ s[b] = 58) = false := by simpa using h2
        have HE := hide (not_end h1 h2)
        clear h2
        go_wp2_with fail
        go_quiet (first | (go_at_call 76; exact Calls.quiet_of_same ((endsTerm_any s[b] _).mono (fun e w' h => ⟨h.1, h.2.symm⟩))))
        rw [hde]
        go_wp2_with fail
        refine (unhide HP b u' _ ((unhide HR).drewN _).rs h1 hbm ((unhide HR).drewN _).nmis (Nat.le_trans hB ((unhide HR).drewN _).but.size)).mono ?_
        rintro e w2 ⟨hb2, hg2⟩
        obtain ⟨L, N, K, Tp, Bt, pa, pn, pc, Bo, Ov, ok, b2, u2, rfl, hbb, h2, hcase⟩ := hg2.lay
        have HB2 := hide hb2
        have H2 := hide h2
        have HC := hide hcase
        clear hb2 h2 hcase hg2
        cases ok with
        | false =>
          go_wp2_with fail
          have hno : RdP env.full (rest s b) none := by
            rcases unhide HC with ⟨h, _⟩ | ⟨_, _, h⟩
            · cases h
            · exact h
          exact bodyPost_ret (v := .tuple #[.pointer none, .bool false]) (by simp [results, Tryz.results45, go_sem]) rfl ⟨(((unhide HR).drewN _).but.trans (unhide HB2)).alloc _, b2, u2, hbb, (unhide H2).alloc _, Or.inr ⟨rfl, (unhide HR).ahead.fail (unhide HE) hno⟩⟩
        | true =>
          obtain ⟨p, hp1, hp2, hp3⟩ : ∃ p, RdP env.full (rest s b) (some (p, rest s b2)) ∧ PtIs (Okw B0 wr) w2 ⟨L, N, K, Tp, Bt, pa, pn, pc, Bo, Ov⟩ p ∧ u2 = (u' || p.unk env) := by
            rcases unhide HC with ⟨_, h⟩ | ⟨h, _⟩
            · exact h
            · cases h
          have HP1 := hide hp1
          have HP2 := hide hp2
          have HP3 := hide hp3
          have HRd := hide ((unhide HR).drewN nq)
          have hmv := part_moves hb0 hbb hp1
          have hlen := (unhide HR).len
          clear hp1 hp2 hp3 HC hT0 hA0
          go_wp2_with fail
          refine (add_any (x := ⟨L, N, K, Tp, Bt, pa, pn, pc, Bo, Ov⟩) (Ok := Okw B0 wr) ((unhide HRd).mid hlt (unhide HB2) _) (PtIs.keeps (fun k hk hl => ⟨Below.heap_alloc _ _ _ hl, hk⟩) _ _ (unhide HP2)) ((unhide HR).okp hB) (by omega)).mono ?_
          rintro e w3 ⟨rfl, hchg, sl', htb, hwh⟩
          have HN3 := hide ((unhide HRd).next hlt hrb hB (unhide HE) (unhide HB2) hbb (unhide H2) (unhide HP1) (unhide HP2) (unhide HP3) hchg htb hwh)
          clear hchg htb hwh
          go_wp2_with fail
          go_roundg (s.size - b2)
          case measure => rw [unhide HK]; omega
          case rel => exact ⟨b2, u2, ps ++ [p], sl', xs ++ [⟨L, N, K, Tp, Bt, pa, pn, pc, Bo, Ov⟩], rfl, by omega, unhide HN3⟩
    · have hd : decide ((b : Int) < (s.size : Int)) = false := by simp; omega
      have hd' : ¬ b < s.size := h1
      have HE := hide (show T.End (rest s b) by rw [rest_ge (by omega)]; exact end_nil)
      go_wp2_with fail
      go_quiet (fail)
      go_wp2_with fail
      exact bodyPost_ret (v := .tuple #[.pointer (some ⟨w.heap.size, 0, none⟩), .bool true]) (by simp [results, Tryz.results45, go_sem]) rfl ⟨((unhide HR).drewN _).but, b, u', hb0, ((unhide HR).drewN _).rs, Or.inl ⟨Tm.of ps, w.heap.size, rfl, (unhide HR).ahead.done (unhide HE), ((unhide HR).drewN _).out, (unhide HR).unk⟩⟩
theorem read_all (hs : s.size ≤ 120) (hrb : B0 ≤ rb) : ∀ m, RT rb s nm env B0 m
  | 0 => term_of (fun a u w h ha hm => by omega) hs hrb
  | m + 1 => term_of (part_of (read_all hs hrb m) hs hrb) hs hrb
end
end Go.Proofs.YtknokhbilckmiaaGreatDoor

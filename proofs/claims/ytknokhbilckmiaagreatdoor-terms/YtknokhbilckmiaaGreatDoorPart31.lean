import Derived.Test.YtknokhbilckmiaaGreatDoorPart30

/- The walks: the program's reading of a whole text. -/
namespace Go.Proofs.YtknokhbilckmiaaGreatDoor
open Go Go.RowKit M T Go.Lib

def ncells (nm : Nat → Option Nat) : Array Value := #[ptr (nm 0), ptr (nm 1), ptr (nm 2), ptr (nm 3), ptr (nm 4), ptr (nm 5), ptr (nm 6), ptr (nm 7), ptr (nm 8), ptr (nm 9), ptr (nm 10), ptr (nm 11), ptr (nm 12), ptr (nm 13), ptr (nm 14), ptr (nm 15), ptr (nm 16), ptr (nm 17), ptr (nm 18), ptr (nm 19), ptr (nm 20), ptr (nm 21), ptr (nm 22), ptr (nm 23), ptr (nm 24), ptr (nm 25)]
/-- What is known of the names of a session. -/
structure EnvOk (env : Env) : Prop where
  wf : env.wf
  dom : ∀ c : UInt8, (c.toNat < 65 ∨ 90 < c.toNat) → env c = none
/-- What Read answers. -/
def ReadT (env : Env) (s : List UInt8) (e : Ending) (w' : World) : Prop :=
  (∃ c, Check env s c ∧ e = .returned (.tuple #[.pointer none, .int .i64 c])) ∨ ∃ t tb, T.Good env s t ∧ TmIs (fun _ => True) w' tb t ∧ e = .returned (.tuple #[.pointer (some ⟨tb, 0, none⟩), .int .i64 0])
theorem rest_zero (s : ByteArray) : rest s 0 = s.data.toList := by unfold rest; simp
theorem rest_eq_nil {s : ByteArray} {b : Nat} (h : b ≤ s.size) : rest s b = [] ↔ b = s.size := by
  have := rest_len s b
  constructor
  · intro e; rw [e] at this; simp at this; omega
  · intro e; exact rest_ge (by omega)

theorem Tryz.infoNames : (Tryz.prog.info? 60).map (·.size) = some 26 := by kernel_rfl
theorem Tryz.infoReader : (Tryz.prog.info? 96).map (·.size) = some 29 := by kernel_rfl
theorem built_reader (s : ByteArray) (nm : Nat → Option Nat) : Tryz.prog.built 96 [(0, .string s), (2, .agg (ncells nm))] = some (rcells s nm 0 false) := by kernel_rfl
theorem rcells_one (s : ByteArray) (nm : Nat → Option Nat) (a : Nat) (u : Bool) : (rcells s nm a u).all (·.oneCell') = true := by simp [rcells, ptr, Value.oneCell']
theorem wpList_build_is {P : Program} {ops : Array Oper} {rest : List Oper} {o : Oper} {a : Act} {w : World} {Q : Exit → Act → World → Prop} (hg : o.guard = none) (t : TypeId) (parts : Array (Nat × Operand)) (ho : o.op = .build t parts) (vs : List (Nat × Value)) (hv : (parts.map fun (i, x) => (i, a.eval x)).toList = vs) (cs : Array Value) (hb : P.built t vs = some cs) (h : wpList P ops Q rest (a.put o.dst (.agg cs)) w) : wpList P ops Q (o :: rest) a w :=
  wpList_build hg t parts ho (by rw [hv, hb]; rfl) (by rw [hv, hb]; exact h)
set_option maxRecDepth 100000 in
set_option maxHeartbeats 1600000 in
theorem tRead_long {env : Env} (s : ByteArray) (nm : Nat → Option Nat) (w : World) (hl : 120 < s.size) :
    Calls Tryz.prog 25 #[.string s, .agg (ncells nm)] w fun e w' => ReadT env s.data.toList e w' ∧ Below w.heap.size w w' := by
  have HC := hide (show Check env s.data.toList 5 from Or.inl ⟨hl, rfl⟩)
  have hl' : (120 : Int) < (s.size : Int) := by omega
  go_enter Tryz.func25, Tryz.ntmps25
  go_wp2_with fail
  exact bodyPost_ret (v := .tuple #[.pointer none, .int .i64 5]) (by simp [results, Tryz.results25, go_sem]) rfl ⟨Or.inl ⟨5, unhide HC, rfl⟩, (by repeat (first | exact Below.refl _ _ | refine below_dr ?_ _ | refine Below.drew ?_ | refine Below.setCell ?_ (by simp) _ | refine Below.alloc ?_ (by simp) _))⟩

theorem new_at (w : World) (o o' : Obj) : ((w.alloc o).alloc o').heap[w.heap.size + 1]? = some o' := by
  have := heap_alloc_new (w.alloc o) o'
  rw [World.size_alloc] at this
  exact this

theorem setRow_heap_ne (w : World) {g k : Nat} (cs : Array Value) (h : k ≠ g) : (w.setRow g cs).heap[k]? = w.heap[k]? := setRow_other w g k cs h
theorem read_start {env : Env} {s : ByteArray} {nm : Nat → Option Nat} {w : World} (hn : NmIs w.heap.size w nm env) (z : Array Value) {T : TypeId} : RS (w.heap.size + 1) s nm 0 false (((w.alloc (.cells (ncells nm) T)).alloc (.cells z 96)).setRow (w.heap.size + 1) (rcells s nm 0 false)) ∧ NmIs w.heap.size (((w.alloc (.cells (ncells nm) T)).alloc (.cells z 96)).setRow (w.heap.size + 1) (rcells s nm 0 false)) nm env ∧ Below w.heap.size w (((w.alloc (.cells (ncells nm) T)).alloc (.cells z 96)).setRow (w.heap.size + 1) (rcells s nm 0 false)) ∧ (((w.alloc (.cells (ncells nm) T)).alloc (.cells z 96)).setRow (w.heap.size + 1) (rcells s nm 0 false)).heap.size = w.heap.size + 2 := by
  have hold : ∀ k, k < w.heap.size → (((w.alloc (.cells (ncells nm) T)).alloc (.cells z 96)).setRow (w.heap.size + 1) (rcells s nm 0 false)).heap[k]? = w.heap[k]? := fun k hk => by
    rw [setRow_heap_ne _ _ (by omega), Below.heap_alloc _ _ _ (by simp; omega), Below.heap_alloc _ _ _ hk]
  refine ⟨⟨setRow_heap _ _ z _ _ _ (new_at w _ _)⟩, ⟨fun c h1 h2 b hb => ?_, hn.unknown⟩, ⟨rfl, rfl, rfl, by simp; omega, hold⟩, by simp⟩
  obtain ⟨t, a1, a2, a3⟩ := hn.known c h1 h2 b hb
  exact ⟨t, a1, a2, a3.keeps (fun k hk _ => ⟨hold k hk, hk⟩)⟩

set_option maxRecDepth 100000 in
set_option maxHeartbeats 1600000 in
theorem tRead_any {env : Env} (he : EnvOk env) (s : ByteArray) (nm : Nat → Option Nat) (w : World) (hn : NmIs w.heap.size w nm env) :
    Calls Tryz.prog 25 #[.string s, .agg (ncells nm)] w fun e w' => ReadT env s.data.toList e w' ∧ Below w.heap.size w w' := by
  by_cases hl : 120 < s.size
  · exact tRead_long s nm w hl
  · have hl' : ¬ (120 : Int) < (s.size : Int) := by omega
    have HN := hide hn
    have HL := hide hl
    have hE := hide he
    clear hn hl he
    go_enter Tryz.func25, Tryz.ntmps25
    go_upto_region 3 with fail
    go_wp2_with (first | (refine wpList_load_row rfl 60 (.tmp 3) rfl w.heap.size rfl 60 (ncells nm) (0, 0) _ (heap_alloc_new w _) Tryz.underlying60 rfl Tryz.infoNames ?_) | (refine wpList_build_is rfl 96 #[(0, .tmp 12), (2, .tmp 13)] rfl [(0, .string s), (2, .agg (ncells nm))] (by simp [Act.eval, Act.put]) (rcells s nm 0 false) (built_reader s nm) ?_) | (refine wpList_store_row rfl 96 (.tmp 6) (.tmp 14) rfl (w.heap.size + 1) (rcells s nm 0 false) rfl rfl 96 _ (new_at w _ _) Tryz.infoReader rfl (rcells_one _ _ _ _) ?_))
    have hs : s.size ≤ 120 := by have := unhide HL; omega
    refine (read_all (m := s.size) hs (Nat.le_succ w.heap.size) 0 false _ (read_start (unhide HN) _).1 (Nat.zero_le _) (by omega) (read_start (unhide HN) _).2.1 (by rw [(read_start (unhide HN) _).2.2.2]; omega)).mono ?_
    rintro e w1 ⟨hb1, b, u', hb, h1, ⟨t, tb, rfl, hr, ht, hu⟩ | ⟨rfl, hr⟩⟩
    · rw [rest_zero] at hr
      have hP := h1.pos
      have hU := h1.unk
      have HB1 := hide ((read_start (unhide HN) _).2.2.1.trans (hb1.below (B := w.heap.size) (by rw [(read_start (unhide HN) _).2.2.2]; omega) (by omega)))
      have HTm := hide (TmIs.keeps (Ok' := fun _ => True) ht (fun k _ _ => ⟨rfl, trivial⟩))
      by_cases hbs : b = s.size
      · have hne : ((b : Int) != (s.size : Int)) = false := by rw [hbs]; simp
        have hnil : rest s b = [] := rest_ge (by omega)
        rw [hnil] at hr
        cases u' with
        | false =>
          have hg := rdT_good (env := env) hr (by simpa using hu.symm)
          have HG := hide hg
          clear hg hr hu ht h1 hb1 hbs hnil
          go_wp2_with fail
          exact bodyPost_ret (v := .tuple #[.pointer (some ⟨tb, 0, none⟩), .int .i64 0]) (by simp [results, Tryz.results25, go_sem]) rfl ⟨Or.inr ⟨t, tb, ⟨hs, unhide HG⟩, unhide HTm, rfl⟩, unhide HB1⟩
        | true =>
          have hg : Check env s.data.toList 7 := Or.inr (Or.inr ⟨hs, rdT_shape hr, rdT_unk hr (by simpa using hu.symm), rfl⟩)
          have HG := hide hg
          clear hg hr hu ht h1 hb1 hbs hnil
          go_wp2_with fail
          exact bodyPost_ret (v := .tuple #[.pointer none, .int .i64 7]) (by simp [results, Tryz.results25, go_sem]) rfl ⟨Or.inl ⟨7, unhide HG, rfl⟩, unhide HB1⟩
      · have hne : ((b : Int) != (s.size : Int)) = true := by rw [bne_iff_ne]; omega
        have hg : Check env s.data.toList 6 := Or.inr (Or.inl ⟨hs, rdT_noshape (unhide hE).wf hr (fun t' e => by
          simp only [Option.some.injEq, Prod.mk.injEq] at e
          exact hbs ((rest_eq_nil hb).1 e.2)), rfl⟩)
        have HG := hide hg
        clear hg hr hu ht h1 hb1 hbs
        go_wp2_with fail
        exact bodyPost_ret (v := .tuple #[.pointer none, .int .i64 6]) (by simp [results, Tryz.results25, go_sem]) rfl ⟨Or.inl ⟨6, unhide HG, rfl⟩, unhide HB1⟩
    · rw [rest_zero] at hr
      have HB1 := hide ((read_start (unhide HN) _).2.2.1.trans (hb1.below (B := w.heap.size) (by rw [(read_start (unhide HN) _).2.2.2]; omega) (by omega)))
      have hg : Check env s.data.toList 6 := Or.inr (Or.inl ⟨hs, rdT_noshape (unhide hE).wf hr (fun t' e => by cases e), rfl⟩)
      have HG := hide hg
      clear hg hr h1 hb1
      go_wp2_with fail
      exact bodyPost_ret (v := .tuple #[.pointer none, .int .i64 6]) (by simp [results, Tryz.results25, go_sem]) rfl ⟨Or.inl ⟨6, unhide HG, rfl⟩, unhide HB1⟩
end Go.Proofs.YtknokhbilckmiaaGreatDoor

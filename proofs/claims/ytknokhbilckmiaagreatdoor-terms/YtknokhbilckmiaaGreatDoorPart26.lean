import Derived.Test.YtknokhbilckmiaaGreatDoorPart24
import Derived.Test.YtknokhbilckmiaaGreatDoorPart25
import Derived.Test.YtknokhbilckmiaaGreatDoorPart22

/- The document's sessions: what is known of their terms. No program in this text. -/
namespace Go.Proofs.YtknokhbilckmiaaGreatDoor
namespace T
open Go.Lib M

/-! ### Names in a text -/
def up (c : UInt8) : Bool := decide (65 ≤ c.toNat ∧ c.toNat ≤ 90)
/-- Is a byte a name that is not defined? -/
def unkB (env : Env) (c : UInt8) : Bool := up c && (env c).isNone
theorem any_low {env : Env} {l : List UInt8} (h : ∀ c ∈ l, up c = false) : l.any (unkB env) = false := by
  rw [List.any_eq_false]
  intro c hc
  simp [unkB, h c hc]
theorem dig_low {c : UInt8} (h : isDig c = true) : up c = false := by
  unfold isDig at h
  unfold up
  simp only [decide_eq_true_eq] at h
  apply decide_eq_false
  have : (57 : UInt8).toNat = 57 := rfl
  omega
theorem dec_low (n : Nat) : ∀ c ∈ decDigits n, up c = false := fun c hc => dig_low (dec_all n c hc)
theorem itoa_low (k : Int) : ∀ c ∈ itoa k, up c = false := by
  intro c hc
  by_cases hn : k < 0
  · rw [itoa_neg _ hn] at hc
    rcases List.mem_cons.1 hc with rfl | h
    · rfl
    · exact dec_low _ c h
  · rw [itoa_pos _ hn] at hc
    exact dec_low _ c hc
theorem ratText_low (x : Rat) : ∀ c ∈ ratText x, up c = false := by
  intro c hc
  unfold ratText numText at hc
  rcases List.mem_append.1 hc with h | h
  · exact itoa_low _ c h
  · split at h
    · cases h
    · rcases List.mem_cons.1 h with rfl | h
      · rfl
      · exact dec_low _ c h
theorem dots_low : ∀ (l : List Nat), ∀ c ∈ dots l, up c = false
  | [], c, h => by cases h
  | [i], c, h => dec_low i c h
  | i :: j :: l, c, h => by
    rw [show dots (i :: j :: l) = decDigits i ++ 46 :: dots (j :: l) from rfl] at h
    rcases List.mem_append.1 h with h | h
    · exact dec_low _ c h
    · rcases List.mem_cons.1 h with rfl | h
      · rfl
      · exact dots_low (j :: l) c h
theorem Sp.low (x : Sp) : ∀ c ∈ x.text, up c = false := by
  intro c hc
  cases x with
  | plus r => exact (List.mem_cons.1 hc).elim (fun e => by rw [e]; rfl) (fun h => ratText_low _ _ h)
  | times r => exact (List.mem_cons.1 hc).elim (fun e => by rw [e]; rfl) (fun h => ratText_low _ _ h)
  | set r => exact (List.mem_cons.1 hc).elim (fun e => by rw [e]; rfl) (fun h => ratText_low _ _ h)
  | shift k => exact (List.mem_cons.1 hc).elim (fun e => by rw [e]; rfl) (fun h => itoa_low _ _ h)
  | take k => exact (List.mem_cons.1 hc).elim (fun e => by rw [e]; rfl) (fun h => dec_low _ _ h)
  | drop k => exact (List.mem_cons.1 hc).elim (fun e => by rw [e]; rfl) (fun h => dec_low _ _ h)
  | pick l => exact (List.mem_cons.1 hc).elim (fun e => by rw [e]; rfl) (fun h => dots_low _ _ h)
  | _ => exact (List.mem_cons.1 hc).elim (fun e => by rw [e]; rfl) (fun h => by cases h)
mutual
theorem Pt.any_text (env : Env) : ∀ p : Pt, p.wf → p.text.any (unkB env) = p.unk env
  | .sp x, _ => by rw [Pt.text, Pt.unk]; exact any_low x.low
  | .pow f k, h => by
    rw [Pt.wf] at h
    rw [Pt.text, Pt.unk, List.any_cons, List.any_append, List.any_cons, List.any_cons, Tm.any_text env f h.1, any_low (itoa_low k)]
    rw [show unkB env 40 = false from rfl, show unkB env 41 = false from rfl, show unkB env 94 = false from rfl]
    simp
  | .under s g, h => by
    rw [Pt.wf] at h
    rw [Pt.text, Pt.unk, List.any_cons, List.any_append, List.any_cons, List.any_append, List.any_cons, List.any_nil, Tm.any_text env s h.1, Tm.any_text env g h.2]
    rw [show unkB env 91 = false from rfl, show unkB env 58 = false from rfl, show unkB env 93 = false from rfl]
    simp
  | .name c b, h => by
    rw [Pt.wf] at h
    rw [Pt.text, Pt.unk, List.any_cons, List.any_nil, unkB, show up c = true from decide_eq_true ⟨h.1, h.2.1⟩]
    simp
theorem Tm.any_text (env : Env) : ∀ t : Tm, t.wf → t.text.any (unkB env) = t.unk env
  | .nil, _ => rfl
  | .cons p t, h => by
    rw [Tm.wf] at h
    rw [Tm.text, Tm.unk, List.any_append, Pt.any_text env p h.1, Tm.any_text env t h.2]
end
mutual
theorem Pt.bind_known (env : Env) : ∀ p : Pt, p.unk env = false → (p.bind env).inEnv env
  | .sp _, _ => by rw [Pt.bind, Pt.inEnv]; trivial
  | .pow f k, h => by rw [Pt.unk] at h; rw [Pt.bind, Pt.inEnv]; exact Tm.bind_known env f h
  | .under s g, h => by
    rw [Pt.unk, Bool.or_eq_false_iff] at h
    rw [Pt.bind, Pt.inEnv]
    exact ⟨Tm.bind_known env s h.1, Tm.bind_known env g h.2⟩
  | .name c b, h => by
    rw [Pt.unk] at h
    rw [Pt.bind, Pt.inEnv]
    cases hc : env c with
    | none => rw [hc] at h; cases h
    | some x => rfl
theorem Tm.bind_known (env : Env) : ∀ t : Tm, t.unk env = false → (t.bind env).inEnv env
  | .nil, _ => by rw [Tm.bind, Tm.inEnv]; trivial
  | .cons p t, h => by
    rw [Tm.unk, Bool.or_eq_false_iff] at h
    rw [Tm.bind, Tm.inEnv]
    exact ⟨Pt.bind_known env p h.1, Tm.bind_known env t h.2⟩
end
mutual
theorem Pt.bind_unk (e env : Env) : ∀ p : Pt, (p.bind e).unk env = p.unk env
  | .sp _ => rfl
  | .pow f k => by rw [Pt.bind, Pt.unk, Pt.unk, Tm.bind_unk e env f]
  | .under s g => by rw [Pt.bind, Pt.unk, Pt.unk, Tm.bind_unk e env s, Tm.bind_unk e env g]
  | .name c b => by rw [Pt.bind, Pt.unk, Pt.unk]
theorem Tm.bind_unk (e env : Env) : ∀ t : Tm, (t.bind e).unk env = t.unk env
  | .nil => rfl
  | .cons p t => by rw [Tm.bind, Tm.unk, Tm.unk, Pt.bind_unk e env p, Tm.bind_unk e env t]
end
theorem Tm.bind_of (env : Env) : ∀ ps : List Pt, (Tm.of ps).bind env = Tm.of (ps.map (Pt.bind env))
  | [] => rfl
  | p :: ps => by rw [Tm.of, Tm.bind, Tm.bind_of env ps]; rfl
theorem whole_wf {s : List UInt8} {t : Tm} (h : Whole E0 s (some t)) : t.wf ∧ t.text = s := by
  obtain ⟨a, b, c⟩ := h.sound t rfl
  exact ⟨a, c.symm⟩
theorem whole_good {env : Env} (he : env.wf) {s : List UInt8} {t : Tm} (h : Whole E0 s (some t)) (hu : t.unk env = false) : IsTerm env s (t.bind env) := by
  obtain ⟨a, b⟩ := whole_wf h
  obtain ⟨c, d, _⟩ := Tm.bind_facts env he t
  exact ⟨d a, Tm.bind_known env t hu, by rw [c, b]⟩
theorem whole_unk {env : Env} {s : List UInt8} {t : Tm} (h : Whole E0 s (some t)) (hu : t.unk env = true) : ¬ ∃ t', IsTerm env s t' := by
  rintro ⟨t', h'⟩
  obtain ⟨_, b⟩ := Tm.known_full env t' h'.env
  obtain ⟨c, d, e⟩ := Tm.bind_facts E0 E0_wf t'
  have := h.comp (t'.bind E0) (d h'.wf) (e (fun _ h => by cases h)) (by rw [c, h'.text])
  simp only [Option.some.injEq] at this
  rw [this, Tm.bind_unk, b] at hu
  cases hu
theorem whole_is {env : Env} (he : env.wf) {s : List UInt8} {t t' : Tm} (h : Whole E0 s (some t)) (h' : IsTerm env s t') : t.bind env = t' := by
  cases hu : t.unk env with
  | false => exact (whole_good he h hu).unique h'
  | true => exact absurd ⟨t', h'⟩ (whole_unk h hu)
theorem whole_not {s : List UInt8} {env : Env} {t : Tm} (h : Whole E0 s none) (h' : IsTerm env s t) : False := whole_shape h ⟨t, h'.wf, h'.text⟩

/-! ### What is known, part by part -/
def fbits (a b c : Bool) : Int := (if a then 1 else 0) + (if b then 2 else 0) + (if c then 4 else 0)
def ptNum (p : Pt) : Int := fbits p.back p.picker p.plain
theorem factsNum_fbits (t : Tm) : factsNum t = fbits t.back t.picker t.plain := rfl
theorem of_back : ∀ ps : List Pt, (Tm.of ps).back = ps.all Pt.back
  | [] => rfl
  | p :: ps => by rw [Tm.of, Tm.back, of_back ps]; rfl
theorem of_picker : ∀ ps : List Pt, (Tm.of ps).picker = ps.all Pt.picker
  | [] => rfl
  | p :: ps => by rw [Tm.of, Tm.picker, of_picker ps]; rfl
theorem of_plain : ∀ ps : List Pt, (Tm.of ps).plain = ps.all Pt.plain
  | [] => rfl
  | p :: ps => by rw [Tm.of, Tm.plain, of_plain ps]; rfl
theorem factsNum_snoc (ps : List Pt) (p : Pt) : factsNum (Tm.of (ps ++ [p])) = fbits ((Tm.of ps).back && p.back) ((Tm.of ps).picker && p.picker) ((Tm.of ps).plain && p.plain) := by
  rw [factsNum_fbits, of_back, of_picker, of_plain, of_back, of_picker, of_plain, List.all_append, List.all_append, List.all_append]
  simp
theorem factsNum_nil : factsNum (Tm.of []) = 7 := rfl
theorem fbits_bd (a b c : Bool) : 0 ≤ fbits a b c ∧ fbits a b c ≤ 7 := by cases a <;> cases b <;> cases c <;> decide

/-! ### Definitions in their order -/
structure D where
  c : UInt8
  s : ByteArray
  t : Tm
def envOf (ds : List D) : Env := fun c => (ds.reverse.find? fun d => d.c == c).map D.t
theorem envOf_nil (c : UInt8) : envOf [] c = none := rfl
theorem envOf_snoc (ds : List D) (d : D) : envOf (ds ++ [d]) = (envOf ds).put d.c d.t := by
  funext c
  unfold envOf Env.put
  rw [List.reverse_append]
  by_cases h : c = d.c
  · subst h; simp
  · have : (d.c == c) = false := by rw [beq_eq_false_iff_ne]; exact fun e => h e.symm
    rw [if_neg h]
    simp [this]
theorem envOf_take {ds : List D} {n : Nat} (h : n < ds.length) : envOf (ds.take (n + 1)) = (envOf (ds.take n)).put ds[n].c ds[n].t := by
  rw [List.take_succ_eq_append_getElem h]
  exact envOf_snoc _ _
structure DefsOk (ds : List D) : Prop where
  good : ∀ i (h : i < ds.length), Good (envOf (ds.take i)) ds[i].s.data.toList ds[i].t
  name : ∀ i (h : i < ds.length), 65 ≤ ds[i].c.toNat ∧ ds[i].c.toNat ≤ 90
theorem DefsOk.wf {ds : List D} (h : DefsOk ds) : ∀ n, n ≤ ds.length → (envOf (ds.take n)).wf
  | 0, _ => fun c b e => by rw [List.take_zero, envOf_nil] at e; cases e
  | n + 1, hn => fun c b e => by
    rw [envOf_take (by omega)] at e
    unfold Env.put at e
    split at e
    · cases e; exact (h.good n (by omega)).term.wf
    · exact h.wf n (by omega) c b e
theorem DefsOk.dom {ds : List D} (h : DefsOk ds) : ∀ n, n ≤ ds.length → ∀ c : UInt8, (c.toNat < 65 ∨ 90 < c.toNat) → envOf (ds.take n) c = none
  | 0, _ => fun c _ => by rw [List.take_zero, envOf_nil]
  | n + 1, hn => fun c hc => by
    rw [envOf_take (by omega)]
    unfold Env.put
    have := h.name n (by omega)
    rw [if_neg (by rintro rfl; omega)]
    exact h.dom n (by omega) c hc
theorem DefsOk.snoc {ds : List D} {d : D} (h : DefsOk ds) (hg : Good (envOf ds) d.s.data.toList d.t) (hc : 65 ≤ d.c.toNat ∧ d.c.toNat ≤ 90) : DefsOk (ds ++ [d]) := by
  refine ⟨fun i hi => ?_, fun i hi => ?_⟩
  · rw [List.length_append, List.length_singleton] at hi
    by_cases hl : i < ds.length
    · rw [List.getElem_append_left hl, List.take_append_of_le_length (by omega)]
      exact h.good i hl
    · have e : i = ds.length := by omega
      subst e
      rw [List.getElem_append_right (Nat.le_refl _), List.take_append_of_le_length (Nat.le_refl _), List.take_length]
      simpa using hg
  · rw [List.length_append, List.length_singleton] at hi
    by_cases hl : i < ds.length
    · rw [List.getElem_append_left hl]
      exact h.name i hl
    · have e : i = ds.length := by omega
      subst e
      rw [List.getElem_append_right (Nat.le_refl _)]
      simpa using hc
theorem DefsOk.nil : DefsOk [] := ⟨fun i h => absurd h (Nat.not_lt_zero i), fun i h => absurd h (Nat.not_lt_zero i)⟩
end T
end Go.Proofs.YtknokhbilckmiaaGreatDoor

/- The walks: names, the empty term, the ends of a term. -/
namespace Go.Proofs.YtknokhbilckmiaaGreatDoor
open Go Go.RowKit M T Go.Lib

set_option maxRecDepth 100000 in
set_option maxHeartbeats 400000 in
theorem endsTerm_any (c : UInt8) (w : World) : Calls Tryz.prog 76 #[.int .u8 (c.toNat : Int)] w fun e w' => e = .returned (.bool (decide (c = 41 ∨ c = 93 ∨ c = 58))) ∧ w = w' := by
  have key : ∀ d : UInt8, c ≠ d → ((c.toNat : Int) == (d.toNat : Int)) = false := fun d h => by
    rw [beq_eq_false_iff_ne]
    intro e
    exact h (UInt8.toNat_inj.1 (by omega))
  by_cases h1 : c = 41
  · subst h1
    go_enter Tryz.func76, Tryz.ntmps76
    go_wp2_with fail
    go_ret
    exact ⟨ret_bool (by decide), rfl⟩
  · have e1 : ((c.toNat : Int) == 41) = false := key 41 h1
    by_cases h2 : c = 58
    · subst h2
      go_enter Tryz.func76, Tryz.ntmps76
      go_wp2_with fail
      go_ret
      exact ⟨ret_bool (by decide), rfl⟩
    · have e2 : ((c.toNat : Int) == 58) = false := key 58 h2
      by_cases h3 : c = 93
      · subst h3
        go_enter Tryz.func76, Tryz.ntmps76
        go_wp2_with fail
        go_ret
        exact ⟨ret_bool (by decide), rfl⟩
      · have e3 : ((c.toNat : Int) == 93) = false := key 93 h3
        have HF := hide (show decide (c = 41 ∨ c = 93 ∨ c = 58) = false by simp [h1, h2, h3])
        clear key h1 h2 h3
        go_enter Tryz.func76, Tryz.ntmps76
        go_wp2_with fail
        go_ret
        exact ⟨ret_bool (unhide HF).symm, rfl⟩

set_option maxRecDepth 100000 in
set_option maxHeartbeats 400000 in
theorem place_yes (c : UInt8) (h1 : 65 ≤ c.toNat) (h2 : c.toNat ≤ 90) (w : World) : Calls Tryz.prog 58 #[.int .u8 (c.toNat : Int)] w fun e w' => e = .returned (.tuple #[.int .i64 ((c.toNat - 65 : Nat) : Int), .bool true]) ∧ w = w' := by
  have hd1 : ¬ ((c.toNat : Int) < 65) := by omega
  have hd2 : ¬ (90 < (c.toNat : Int)) := by omega
  have hsub : ((c.toNat : Int) - 65) = ((c.toNat - 65 : Nat) : Int) := by omega
  have HS := hide hsub
  clear hsub
  go_enter Tryz.func58, Tryz.ntmps58
  go_wp2_with fail
  exact bodyPost_ret (v := .tuple #[.int .i64 ((c.toNat - 65 : Nat) : Int), .bool true]) (by rw [← unhide HS]; simp [results, Tryz.results58, go_sem]) rfl ⟨rfl, rfl⟩
set_option maxRecDepth 100000 in
set_option maxHeartbeats 400000 in
theorem place_no (c : UInt8) (h : c.toNat < 65 ∨ 90 < c.toNat) (w : World) : Calls Tryz.prog 58 #[.int .u8 (c.toNat : Int)] w fun e w' => e = .returned (.tuple #[.int .i64 0, .bool false]) ∧ w = w' := by
  rcases h with h | h
  · have hd1 : ((c.toNat : Int) < 65) := by omega
    go_enter Tryz.func58, Tryz.ntmps58
    go_wp2_with fail
    exact bodyPost_ret (v := .tuple #[.int .i64 0, .bool false]) (by simp [results, Tryz.results58, go_sem]) rfl ⟨rfl, rfl⟩
  · have hd1 : ¬ ((c.toNat : Int) < 65) := by omega
    have hd2 : (90 < (c.toNat : Int)) := by omega
    go_enter Tryz.func58, Tryz.ntmps58
    go_wp2_with fail
    exact bodyPost_ret (v := .tuple #[.int .i64 0, .bool false]) (by simp [results, Tryz.results58, go_sem]) rfl ⟨rfl, rfl⟩

set_option maxRecDepth 100000 in
set_option maxHeartbeats 400000 in
theorem newTerm_any (w : World) : Calls Tryz.prog 75 #[] w fun e w' => e = .returned (.pointer (some ⟨w.heap.size, 0, none⟩)) ∧ w' = w.alloc (.cells #[.slice none 0 0, .bool true, .bool true, .bool true] 86) := by
  go_enter Tryz.func75, Tryz.ntmps75
  go_wp2_with fail
  go_ret
  exact ⟨rfl, rfl⟩
theorem new_TB (w : World) : TB (w.heap.size + 1) (w.alloc (.cells #[.slice none 0 0, .bool true, .bool true, .bool true] 86)) w.heap.size [] (.slice none 0 0) [] :=
  ⟨heap_alloc_new w _, World.ownsRow_nil _ _ _ _, by omega, by simp⟩
theorem new_TmIs {Ok : Nat → Prop} (w : World) (h : Ok w.heap.size) : TmIs Ok (w.alloc (.cells #[.slice none 0 0, .bool true, .bool true, .bool true] 86)) w.heap.size .nil :=
  ⟨.slice none 0 0, [], ⟨h, heap_alloc_new w _, World.ownsRow_nil _ _ _ _, fun g hg => by cases hg⟩, by rw [PsIs]⟩

/-! ### What names stand for, in memory -/
structure NmIs (B0 : Nat) (w : World) (nm : Nat → Option Nat) (env : Env) : Prop where
  known : ∀ c : UInt8, 65 ≤ c.toNat → c.toNat ≤ 90 → ∀ b, nm (c.toNat - 65) = some b → ∃ t, env c = some t ∧ t.wf ∧ TmIs (fun k => k < B0) w b t
  unknown : ∀ c : UInt8, 65 ≤ c.toNat → c.toNat ≤ 90 → nm (c.toNat - 65) = none → env c = none
theorem NmIs.but {B0 rb : Nat} {w w' : World} {nm : Nat → Option Nat} {env : Env} (h : NmIs B0 w nm env) (hb : But rb w w') (hr : B0 ≤ rb) : NmIs B0 w' nm env :=
  ⟨fun c h1 h2 b hb' => by
    obtain ⟨t, a, b', c'⟩ := h.known c h1 h2 b hb'
    exact ⟨t, a, b', c'.keeps (fun k hk hlt => ⟨hb.block k hlt (by omega), hk⟩)⟩, h.unknown⟩
theorem NmIs.alloc {B0 : Nat} {w : World} {nm : Nat → Option Nat} {env : Env} (h : NmIs B0 w nm env) (o : Obj) : NmIs B0 (w.alloc o) nm env :=
  ⟨fun c h1 h2 b hb' => by
    obtain ⟨t, a, b', c'⟩ := h.known c h1 h2 b hb'
    exact ⟨t, a, b', c'.keeps (fun k hk hlt => ⟨Below.heap_alloc _ _ _ hlt, hk⟩)⟩, h.unknown⟩
def pcNm (c : UInt8) (b : Option Nat) : PC := ⟨65, c, 0, 0, 0, none, 0, 0, b, none⟩

set_option maxRecDepth 100000 in
set_option maxHeartbeats 1600000 in
theorem readName_any {rb : Nat} {s : ByteArray} {nm : Nat → Option Nat} {a : Nat} {u : Bool} {c : UInt8} {env : Env} {B0 : Nat} (w : World) (h : RS rb s nm a u w) (ha : a ≤ s.size) (hn : NmIs B0 w nm env) (hno : (c.toNat < 65 ∨ 90 < c.toNat) → RdP env.full (c :: rest s a) none) :
    Calls Tryz.prog 117 #[.pointer (some ⟨rb, 0, none⟩), .int .u8 (c.toNat : Int)] w fun e w' => But rb w w' ∧ Got env (fun k => k < B0 ∨ w.heap.size ≤ k) rb s nm u (c :: rest s a) e w' := by
  have hlt := h.lt
  by_cases hr : 65 ≤ c.toNat ∧ c.toNat ≤ 90
  · obtain ⟨h1, h2⟩ := hr
    have hcn0 := h.name (i := c.toNat - 65) (by omega)
    rw [Nat.add_comm] at hcn0
    have hfz := h.free 28
    have huk := h.unk
    have hix : ((c.toNat - 65 : Nat) : Int) < 26 := by omega
    have H := hide h
    have HN := hide hn
    clear h hn hno
    cases hb : nm (c.toNat - 65) with
    | some b =>
      rw [hb] at hcn0
      have hcn : w.cell? ⟨rb, 2 + (c.toNat - 65), none⟩ = some (.pointer (some ⟨b, 0, none⟩)) := hcn0
      have HB := hide hb
      clear hcn0 hb
      go_enter Tryz.func117, Tryz.ntmps117
      go_wp2_with fail
      refine (place_yes c h1 h2 _).mono ?_
      rintro e w' ⟨rfl, rfl⟩
      go_wp2_with fail
      obtain ⟨t, ht1, ht2, ht3⟩ := (unhide HN).known c h1 h2 b (unhide HB)
      have hfull : env.full c = some t := by unfold Env.full; rw [ht1]; rfl
      refine bodyPost_ret (v := .tuple #[PC.value (pcNm c (some b)), .bool true]) (by simp [results, Tryz.results117, go_sem, PC.value, PC.cells, pcNm, ptr]) rfl ⟨(But.refl _ _).alloc _, pcNm c (some b), true, a, u, rfl, ha, (unhide H).alloc _, Or.inl ⟨rfl, .name c t, rdP_name env.full h1 h2 hfull ht2 _, ?_, by simp [Pt.unk, ht1]⟩⟩
      exact PtIs.name_iff.2 ⟨rfl, rfl, b, rfl, ht3.keeps (fun k hk hlt => ⟨Below.heap_alloc _ _ _ hlt, Or.inl hk⟩)⟩
    | none =>
      rw [hb] at hcn0
      have hcn : w.cell? ⟨rb, 2 + (c.toNat - 65), none⟩ = some (.pointer none) := hcn0
      have HB := hide hb
      clear hcn0 hb
      go_enter Tryz.func117, Tryz.ntmps117
      go_wp2_with fail
      refine (place_yes c h1 h2 _).mono ?_
      rintro e w' ⟨rfl, rfl⟩
      go_wp2_with fail
      refine (newTerm_any _).mono ?_
      rintro e w' ⟨rfl, rfl⟩
      go_wp2_with fail
      have ht1 := (unhide HN).unknown c h1 h2 (unhide HB)
      have hfull : env.full c = some .nil := by unfold Env.full; rw [ht1]; rfl
      refine bodyPost_ret (v := .tuple #[PC.value (pcNm c (some (w.heap.size + 1))), .bool true]) (by simp [results, Tryz.results117, go_sem, PC.value, PC.cells, pcNm, ptr]) rfl ⟨(((But.refl _ _).setCell _ _).alloc _).alloc _, pcNm c (some (w.heap.size + 1)), true, a, true, rfl, ha, (((unhide H).setUnk true).alloc _).alloc _, Or.inl ⟨rfl, .name c .nil, rdP_name env.full h1 h2 hfull (show True from trivial) _, ?_, by simp [Pt.unk, ht1]⟩⟩
      refine PtIs.name_iff.2 ⟨rfl, rfl, w.heap.size + 1, rfl, ?_⟩
      have := new_TmIs (Ok := fun k => k < B0 ∨ w.heap.size ≤ k) ((w.setCell ⟨rb, 28, none⟩ (.bool true)).alloc (.cells #[.int .u8 65, .int .u8 (c.toNat : Int), .int .i64 0, .int .i64 0, .int .i64 0, .slice none 0 0, .pointer (some ⟨w.heap.size + 1, 0, none⟩), .pointer none] 145)) (Or.inr (by simp))
      rw [World.size_alloc, World.size_setCell] at this
      exact this
  · have HNo := hide (hno (by omega))
    have hr' : c.toNat < 65 ∨ 90 < c.toNat := by omega
    clear hno hn hr
    have H := hide h
    clear h
    go_enter Tryz.func117, Tryz.ntmps117
    go_wp2_with fail
    refine (place_no c hr' _).mono ?_
    rintro e w' ⟨rfl, rfl⟩
    go_wp2_with fail
    exact bodyPost_ret (v := .tuple #[PC.value pc0, .bool false]) (by simp [results, Tryz.results117, go_sem, PC.value, PC.cells, pc0, ptr]) rfl ⟨(But.refl _ _).alloc _, pc0, false, a, u, rfl, ha, (unhide H).alloc _, Or.inr ⟨rfl, rfl, unhide HNo⟩⟩
end Go.Proofs.YtknokhbilckmiaaGreatDoor

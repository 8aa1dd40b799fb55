import Derived.Test.YtikiaijgcjjloaaGreatDoorPart23
import Derived.Test.YtikiaijgcjjloaaGreatDoorPart24
import Derived.Test.YtikiaijgcjjloaaGreatDoorPart19

/- The walks: the document's sessions: find. -/
namespace Go.Proofs.YtikiaijgcjjloaaGreatDoor
open Go Go.RowKit M T Go.Lib

def dcells (d : D) : List Value := [.int .u8 (d.c.toNat : Int), .string d.s, .int .i64 (factsNum d.t)]
theorem dcells_length (d : D) : (dcells d).length = 3 := rfl
def drow (ds : List D) : List Value := (ds.map dcells).flatten
theorem drow_length (ds : List D) : (drow ds).length = ds.length * 3 := by
  induction ds with
  | nil => rfl
  | cons x xs ih =>
    have : drow (x :: xs) = dcells x ++ drow xs := rfl
    rw [this, List.length_append, ih, dcells_length, List.length_cons]
    omega
theorem drow_snoc (ds : List D) (d : D) : drow ds ++ dcells d = drow (ds ++ [d]) := by unfold drow; simp
/-- A session of the document's own answer. -/
structure RSes (w : World) (rb : Nat) (v : Value) (ds : List D) : Prop where
  blk : w.heap[rb]? = some (.cells #[v] 78 (0, 0))
  own : w.ownsRow 0 114 3 v ds.length (drow ds)
  ok : DefsOk ds
theorem RSes.keeps {w w' : World} {rb : Nat} {v : Value} {ds : List D} (h : RSes w rb v ds) (hk : ∀ k, k < w.heap.size → w'.heap[k]? = w.heap[k]?) : RSes w' rb v ds := by
  refine ⟨by rw [hk rb (lt_of_block h.blk)]; exact h.blk, ⟨h.own.1, ?_⟩, h.ok⟩
  rcases h.own.2 with h2 | ⟨g, cap, cur, hv, hg, hh, r⟩
  · exact Or.inl h2
  · exact Or.inr ⟨g, cap, cur, hv, hg, by rw [hk g (lt_of_block hh)]; exact hh, r⟩
theorem RSes.below {w w' : World} {rb : Nat} {v : Value} {ds : List D} (h : RSes w rb v ds) (hb : Below w.heap.size w w') : RSes w' rb v ds := h.keeps (fun k hk => hb.block k hk)
theorem RSes.drewN {w : World} {rb : Nat} {v : Value} {ds : List D} (h : RSes w rb v ds) (n : Nat) : RSes (w.drewN n) rb v ds := h.keeps (fun k _ => by rw [World.heap_drewN])
theorem drow_cell {w : World} {B : Nat} {e : TypeId} {g n cap : Nat} {xs : List D} (h : w.ownsRow B e 3 (.slice (some ⟨g, 0, none⟩) n cap) xs.length (drow xs)) {j : Nat} (hj : j < xs.length) (i : Nat) (hi : i < 3) : w.cell? ⟨g, j * 3 + i, none⟩ = (dcells xs[j])[i]? := by
  have key : ∀ (ys : List D) (j : Nat) (hj : j < ys.length), (drow ys)[j * 3 + i]? = (dcells ys[j])[i]? := by
    intro ys
    induction ys with
    | nil => intro j hj; simp at hj
    | cons y ys ih =>
      intro j hj
      have e : drow (y :: ys) = dcells y ++ drow ys := rfl
      cases j with
      | zero =>
        rw [e, List.getElem?_append_left (by rw [dcells_length]; omega)]
        simp
      | succ j =>
        rw [e, List.getElem?_append_right (by rw [dcells_length]; omega), dcells_length, show (j + 1) * 3 + i - 3 = j * 3 + i by omega, ih j (by simpa using hj)]
        simp
  have hlt : i < (dcells xs[j]).length := hi
  have := h.cells (g := g) rfl (j * 3 + i) ((dcells xs[j])[i]) (by rw [key xs j hj]; exact List.getElem?_eq_getElem hlt)
  rw [show (⟨g, 0, none⟩ : Addr).add (j * 3 + i) = ⟨g, j * 3 + i, none⟩ from by unfold Addr.add; split <;> simp_all] at this
  rw [this, List.getElem?_eq_getElem hlt]
/-- Its slice, written. -/
theorem RSes.slice {w : World} {rb : Nat} {v : Value} {ds : List D} (h : RSes w rb v ds) : ∃ ao cap, v = .slice ao ds.length cap ∧ (0 < ds.length → ∃ g, ao = some ⟨g, 0, none⟩ ∧ ∀ j (hj : j < ds.length) i, i < 3 → w.cell? ⟨g, j * 3 + i, none⟩ = (dcells ds[j])[i]?) := by
  have hown := h.own
  rcases h.own.2 with ⟨h1, h2⟩ | ⟨g, cap, cur, hv, _⟩
  · exact ⟨none, 0, by rw [h1, h2], fun hp => by omega⟩
  · refine ⟨some ⟨g, 0, none⟩, cap, hv, fun _ => ⟨g, rfl, fun j hj i hi => ?_⟩⟩
    rw [hv] at hown
    exact drow_cell hown hj i hi
/-- Which of the first n definitions a name means. -/
def findI (ds : List D) (c : UInt8) : Nat → Int
  | 0 => -1
  | n + 1 => if ds[n]?.map D.c = some c then (n : Int) else findI ds c n
theorem findI_succ {ds : List D} {c : UInt8} {n : Nat} (h : n < ds.length) : findI ds c (n + 1) = if ds[n].c = c then (n : Int) else findI ds c n := by
  rw [findI, List.getElem?_eq_getElem h]
  simp
theorem findI_spec (ds : List D) (c : UInt8) : ∀ n, n ≤ ds.length → (∃ j, ∃ (hj : j < ds.length), j < n ∧ findI ds c n = (j : Int) ∧ ds[j].c = c ∧ envOf (ds.take n) c = some ds[j].t) ∨ (findI ds c n = -1 ∧ envOf (ds.take n) c = none)
  | 0, _ => Or.inr ⟨rfl, by rw [List.take_zero, envOf_nil]⟩
  | n + 1, hn => by
    rw [findI_succ (by omega), envOf_take (by omega), Env.put]
    by_cases h : ds[n].c = c
    · rw [if_pos h, if_pos h.symm]
      exact Or.inl ⟨n, by omega, by omega, rfl, h, rfl⟩
    · rw [if_neg h, if_neg (fun e => h e.symm)]
      rcases findI_spec ds c n (by omega) with ⟨j, hj, h1, h2⟩ | h2
      · exact Or.inl ⟨j, hj, by omega, h2⟩
      · exact Or.inr h2

set_option maxRecDepth 100000 in
set_option maxHeartbeats 800000 in
theorem find_any {rb : Nat} {v : Value} {ds : List D} (c : UInt8) (n : Nat) (w : World) (h : RSes w rb v ds) (hn : n ≤ ds.length) (hl : ds.length ≤ maxLen) :
    Calls Tryz.prog 100 #[.pointer (some ⟨rb, 0, none⟩), .int .u8 (c.toNat : Int), .int .i64 (n : Int)] w fun e w' => e = .returned (.int .i64 (findI ds c n)) ∧ w' = w := by
  obtain ⟨ao, cap, rfl, hcs⟩ := h.slice
  have hb0 : w.cell? ⟨rb, 0, none⟩ = some (.slice ao ds.length cap) := blk_cell h.blk 0
  have hn2 : n ≤ maxLen := by omega
  unfold maxLen at hn2 hl
  clear h
  go_enter Tryz.func100, Tryz.ntmps100
  go_wp2_with fail
  go_loopg [7] n (fun k v wr => ∃ m : Nat, k = m ∧ m ≤ n ∧ v = .int .i64 ((m : Int) - 1) ∧ findI ds c n = findI ds c m ∧ w = wr)
  case atStart => exact ⟨n, rfl, Nat.le_refl _, rfl, rfl, rfl⟩
  case round =>
    obtain ⟨m, hk, hm, hv, hf, rfl⟩ := hrel
    have HF := hide hf
    have HK := hide hk
    clear hf hk
    cases m with
    | zero =>
      have hv' : _ = Value.int .i64 (-1) := hv
      subst hv'
      go_wp2_with fail
      go_ret
      exact ⟨by rw [unhide HF]; rfl, rfl⟩
    | succ i =>
      have hv' : _ = Value.int .i64 (i : Int) := hv.trans (congrArg (Value.int .i64) (by omega))
      subst hv'
      have hix : i < ds.length := by omega
      obtain ⟨g, rfl, hcell⟩ := hcs (by omega)
      have c0 : w.cell? ⟨g, i * 3, none⟩ = some (.int .u8 (ds[i].c.toNat : Int)) := hcell i hix 0 (by omega)
      have HS := hide (findI_succ (c := c) hix)
      have HC := hide hcell
      clear hv hcell hcs
      by_cases he : ds[i].c = c
      · have he' : ((ds[i].c.toNat : Int) == (c.toNat : Int)) = true := by rw [he]; simp
        go_wp2_with fail
        go_ret
        exact ⟨by rw [unhide HF, unhide HS, if_pos he]; rfl, rfl⟩
      · have he' : ((ds[i].c.toNat : Int) == (c.toNat : Int)) = false := by
          rw [beq_eq_false_iff_ne]
          intro e
          exact he (UInt8.toNat_inj.1 (by omega))
        go_wp2_with fail
        go_roundg i
        case measure => rw [unhide HK]; omega
        case rel => exact ⟨i, rfl, by omega, rfl, by rw [unhide HF, unhide HS, if_neg he], rfl⟩
end Go.Proofs.YtikiaijgcjjloaaGreatDoor

/- The walks: the document's sessions: what is known of a part. -/
namespace Go.Proofs.YtikiaijgcjjloaaGreatDoor
open Go Go.RowKit M T Go.Lib

def FS (m : Nat) : Prop := ∀ (s : ByteArray) (t : Tm) (ds : List D) (rb : Nat) (v : Value) (n : Nat) (w : World), s.size ≤ m → s.size ≤ 1000 → RSes w rb v ds → n ≤ ds.length → ds.length ≤ maxLen → IsTerm (envOf (ds.take n)) s.data.toList t → Calls Tryz.prog 64 #[.pointer (some ⟨rb, 0, none⟩), .string s, .int .i64 (n : Int)] w fun e w' => e = .returned (.int .i64 (factsNum t)) ∧ Below w.heap.size w w'
def OfGot (p : Pt) (w : World) (e : Ending) (w' : World) : Prop := e = .returned (.int .i64 (ptNum p)) ∧ Below w.heap.size w w'
def lA : ByteArray := ⟨#[97, 61, 116, 100, 35]⟩
def lP : ByteArray := ⟨#[114, 60, 116, 100, 35]⟩
def lQ : ByteArray := ⟨#[113, 112]⟩
theorem sp_bits (y : Sp) (h : ∀ c, y ≠ .times c) : ptNum (.sp y) = fbits (!decide (y.first ∈ lA.data.toList)) (decide (y.first ∈ lP.data.toList)) (!decide (y.first ∈ lQ.data.toList)) := by
  cases y with
  | times c => exact absurd rfl (h c)
  | _ => rfl
theorem sp_first (y : Sp) (h : ∀ c, y ≠ .times c) : (90 < y.first.toNat ∨ y.first.toNat < 65) ∧ y.first ≠ 42 ∧ y.first ≠ 40 ∧ y.first ≠ 91 := by
  cases y with
  | times c => exact absurd rfl (h c)
  | _ => simp only [Sp.first]; decide

set_option maxRecDepth 100000 in
set_option maxHeartbeats 1600000 in
theorem of_sp {y : Sp} (hy : ∀ c, y ≠ .times c) (x : RC) (rb : Nat) (n : Nat) (w : World) (hx : RPt w x (.sp y)) :
    Calls Tryz.prog 101 #[.pointer (some ⟨rb, 0, none⟩), RC.value x, .int .i64 (n : Int)] w fun e w' => OfGot (.sp y) w e w' := by
  obtain ⟨Kd, P, Q, K, pa, pn, pc, F, G⟩ := x
  rw [show RC.value ⟨Kd, P, Q, K, pa, pn, pc, F, G⟩ = .agg #[.int .u8 (Kd.toNat : Int), .int .i64 P, .int .i64 Q, .int .i64 K, .slice pa pn pc, .string F, .string G] from rfl]
  have hk : Kd = y.first := hx.1
  obtain ⟨hf, e42, e40, e91⟩ := sp_first y hy
  have HN := hide (sp_bits y hy)
  rw [← hk] at hf e42 e40 e91 HN
  have q42 : ((Kd.toNat : Int) == 42) = false := u8_ne' (d := 42) e42
  have q40 : ((Kd.toNat : Int) == 40) = false := u8_ne' (d := 40) e40
  have q91 : ((Kd.toNat : Int) == 91) = false := u8_ne' (d := 91) e91
  clear hk hx e42 e40 e91
  go_enter Tryz.func101, Tryz.ntmps101
  go_wp2_with fail
  refine (among_any Kd lA _ (by decide)).mono ?_
  rintro e w' ⟨rfl, rfl⟩
  generalize decide (Kd ∈ lA.data.toList) = b1 at HN ⊢
  go_wp2_with fail
  refine (among_any Kd lP _ (by decide)).mono ?_
  rintro e w' ⟨rfl, rfl⟩
  generalize decide (Kd ∈ lP.data.toList) = b2 at HN ⊢
  go_wp2_with fail
  refine (among_any Kd lQ _ (by decide)).mono ?_
  rintro e w' ⟨rfl, rfl⟩
  generalize decide (Kd ∈ lQ.data.toList) = b3 at HN ⊢
  rcases hf with hf | hf
  · have g1 : (65 : Int) ≤ (Kd.toNat : Int) := by omega
    have g2 : ¬ (Kd.toNat : Int) ≤ 90 := by omega
    clear hf
    cases b1 <;> cases b2 <;> cases b3 <;> (go_wp2_with fail; go_ret; exact ⟨by rw [unhide HN]; rfl, (by repeat (first | exact Below.refl _ _ | refine below_dr ?_ _ | refine Below.drew ?_ | refine Below.setCell ?_ (by simp) _ | refine Below.alloc ?_ (by simp) _))⟩)
  · have g1 : ¬ (65 : Int) ≤ (Kd.toNat : Int) := by omega
    clear hf
    cases b1 <;> cases b2 <;> cases b3 <;> (go_wp2_with fail; go_ret; exact ⟨by rw [unhide HN]; rfl, (by repeat (first | exact Below.refl _ _ | refine below_dr ?_ _ | refine Below.drew ?_ | refine Below.setCell ?_ (by simp) _ | refine Below.alloc ?_ (by simp) _))⟩)

set_option maxRecDepth 100000 in
set_option maxHeartbeats 1600000 in
theorem of_times {c : Rat} (x : RC) (rb : Nat) (n : Nat) (w : World) (hx : RPt w x (.sp (.times c))) :
    Calls Tryz.prog 101 #[.pointer (some ⟨rb, 0, none⟩), RC.value x, .int .i64 (n : Int)] w fun e w' => OfGot (.sp (.times c)) w e w' := by
  obtain ⟨Kd, P, Q, K, pa, pn, pc, F, G⟩ := x
  rw [show RC.value ⟨Kd, P, Q, K, pa, pn, pc, F, G⟩ = .agg #[.int .u8 (Kd.toNat : Int), .int .i64 P, .int .i64 Q, .int .i64 K, .slice pa pn pc, .string F, .string G] from rfl]
  have hk : Kd = 42 := hx.1
  have hp : P = c.num := hx.2.1
  have HN := hide (show ptNum (.sp (.times c)) = if P = 0 then 4 else 5 by
    rw [hp]
    by_cases h : c = 0
    · subst h; rfl
    · have h' : ¬ c.num = 0 := fun e => h (Rat.num_eq_zero.1 e)
      rw [if_neg h', ptNum, Pt.back, Sp.opp, if_neg h]; rfl)
  subst hk
  clear hx hp
  go_enter Tryz.func101, Tryz.ntmps101
  go_wp2_with fail
  refine (among_any 42 lA _ (by decide)).mono ?_
  rintro e w' ⟨rfl, rfl⟩
  rw [show decide ((42 : UInt8) ∈ lA.data.toList) = false from by decide]
  go_wp2_with fail
  refine (among_any 42 lP _ (by decide)).mono ?_
  rintro e w' ⟨rfl, rfl⟩
  rw [show decide ((42 : UInt8) ∈ lP.data.toList) = false from by decide]
  go_wp2_with fail
  refine (among_any 42 lQ _ (by decide)).mono ?_
  rintro e w' ⟨rfl, rfl⟩
  rw [show decide ((42 : UInt8) ∈ lQ.data.toList) = false from by decide]
  by_cases h : P = 0
  · subst h
    go_wp2_with fail
    go_ret
    exact ⟨by rw [unhide HN]; rfl, (by repeat (first | exact Below.refl _ _ | refine below_dr ?_ _ | refine Below.drew ?_ | refine Below.setCell ?_ (by simp) _ | refine Below.alloc ?_ (by simp) _))⟩
  · have h' : (P != 0) = true := by simpa using h
    go_wp2_with fail
    go_ret
    exact ⟨by rw [unhide HN, if_neg h]; rfl, (by repeat (first | exact Below.refl _ _ | refine below_dr ?_ _ | refine Below.drew ?_ | refine Below.setCell ?_ (by simp) _ | refine Below.alloc ?_ (by simp) _))⟩
end Go.Proofs.YtikiaijgcjjloaaGreatDoor

/- The walks: the document's sessions: check. -/
namespace Go.Proofs.YtikiaijgcjjloaaGreatDoor
open Go Go.RowKit M T Go.Lib

theorem any_take {P : UInt8 → Bool} {s : ByteArray} {i : Nat} (hi : i < s.size) : (s.data.toList.take (i + 1)).any P = ((s.data.toList.take i).any P || P s[i]) := by
  have h : i < s.data.toList.length := by simpa using hi
  rw [List.take_succ_eq_append_getElem h, List.any_append]
  simp
  rfl
theorem any_whole {P : UInt8 → Bool} {s : ByteArray} {i : Nat} (hi : s.size ≤ i) : (s.data.toList.take i).any P = s.data.toList.any P := by
  rw [List.take_of_length_le (by simpa using hi)]
theorem any_found {P : UInt8 → Bool} {s : ByteArray} {i : Nat} (hi : i < s.size) (h : P s[i] = true) : s.data.toList.any P = true := by
  rw [List.any_eq_true]
  exact ⟨s[i], by
    have : s[i] = s.data.toList[i]'(by simpa using hi) := by simp; rfl
    rw [this]
    exact List.getElem_mem _, h⟩
/-- What check answers. -/
def ChkGot (env : Env) (s : List UInt8) (e : Ending) : Prop := ∃ c, e = .returned (.int .i64 c) ∧ (Check env s c ∨ (c = 0 ∧ ∃ t, T.Good env s t))

set_option maxRecDepth 100000 in
set_option maxHeartbeats 1600000 in
theorem check_any (hP : RPS 1000) {rb : Nat} {v : Value} {ds : List D} (s : ByteArray) (w : World) (h : RSes w rb v ds) (hl : ds.length ≤ maxLen) :
    Calls Tryz.prog 63 #[.pointer (some ⟨rb, 0, none⟩), .string s] w fun e w' => ChkGot (envOf ds) s.data.toList e ∧ Below w.heap.size w w' := by
  have HP := hide hP
  have H := hide h
  have hlen : s.data.toList.length = s.size := by simp
  clear hP h
  go_enter Tryz.func63, Tryz.ntmps63
  by_cases hs : 120 < s.size
  · have hs' : (120 : Int) < (s.size : Int) := by omega
    go_wp2_with fail
    go_ret
    exact ⟨⟨5, rfl, Or.inl (Or.inl ⟨by omega, rfl⟩)⟩, Below.refl _ _⟩
  · have hs' : ¬ (120 : Int) < (s.size : Int) := by omega
    go_wp2_with fail
    refine (unhide HP s _ (by omega) (by omega)).mono ?_
    rintro e w1 ⟨⟨sl, ok, rfl, hG⟩, hb1⟩
    have HB1 := hide hb1
    have HG := hide hG
    have H1 := hide ((unhide H).below hb1)
    clear hb1 hG H
    cases ok with
    | false =>
      go_wp2_with fail
      go_ret
      refine ⟨⟨6, rfl, Or.inl (Or.inr (Or.inl ⟨by omega, ?_, rfl⟩))⟩, unhide HB1⟩
      rcases unhide HG with ⟨h, _⟩ | ⟨_, _, h⟩
      · cases h
      · exact whole_shape h
    | true =>
      obtain ⟨t, hw⟩ : ∃ t, Whole E0 s.data.toList (some t) := by
        rcases unhide HG with ⟨_, xs, ps, h, _⟩ | ⟨h, _⟩
        · exact ⟨_, h⟩
        · cases h
      obtain ⟨hwf, htx⟩ := whole_wf hw
      have hany : s.data.toList.any (unkB (envOf ds)) = t.unk (envOf ds) := by rw [← htx]; exact Tm.any_text _ t hwf
      have HW := hide hw
      have HA := hide hany
      have HSh := hide (show Shape s.data.toList from ⟨t, hwf, htx⟩)
      clear hw hany hwf htx HG
      obtain ⟨ao, cap, rfl, _⟩ := (unhide H1).slice
      have hb0 : w1.cell? ⟨rb, 0, none⟩ = some (.slice ao ds.length cap) := blk_cell (unhide H1).blk 0
      go_wp2_with fail
      go_loopg [7] s.size (fun k v wr => ∃ i : Nat, k = s.size - i ∧ i ≤ s.size ∧ v = .int .i64 (i : Int) ∧ (s.data.toList.take i).any (unkB (envOf ds)) = false ∧ Below w1.heap.size w1 wr)
      case atStart => exact ⟨0, rfl, Nat.zero_le _, rfl, rfl, Below.refl _ _⟩
      case round =>
        obtain ⟨i, hk, hi, rfl, hno, hbr⟩ := hrel
        have HK := hide hk
        have HNo := hide hno
        have HBr := hide hbr
        have HR := hide ((unhide H1).below hbr)
        have hbr0 : wr.cell? ⟨rb, 0, none⟩ = some (.slice ao ds.length cap) := blk_cell (unhide HR).blk 0
        clear hk hno hbr hb0
        by_cases hlt : i < s.size
        · have hlt' : (i : Int) < (s.size : Int) := by omega
          have HT := hide (any_take (P := unkB (envOf ds)) hlt)
          by_cases h1 : 65 ≤ s[i].toNat
          · have g1 : decide ((65 : Int) ≤ (s[i].toNat : Int)) = true := decide_eq_true (by omega)
            by_cases h2 : s[i].toNat ≤ 90
            · have g2 : decide ((s[i].toNat : Int) ≤ (90 : Int)) = true := decide_eq_true (by omega)
              have hup : up s[i] = true := decide_eq_true ⟨h1, h2⟩
              have HU := hide hup
              have hsp := findI_spec ds s[i] ds.length (Nat.le_refl _)
              rw [List.take_length] at hsp
              rcases hsp with ⟨j, hj, _, hf, _, he⟩ | ⟨hf, he⟩
              · have g3 : decide (findI ds s[i] ds.length < 0) = false := decide_eq_false (by rw [hf]; omega)
                have HE := hide he
                clear hf he hup
                go_wp2_with fail
                go_quiet (first | (go_at_call 100; exact Calls.quiet_of_same (find_any s[i] ds.length _ ((unhide HR).drewN _) (Nat.le_refl _) hl)))
                go_wp2_with fail
                go_roundg (s.size - (i + 1))
                case measure => rw [unhide HK]; omega
                case rel => exact ⟨i + 1, rfl, by omega, rfl, by rw [unhide HT, unhide HNo, unkB, unhide HE]; simp, below_dr (unhide HBr) _⟩
              · have g3 : decide (findI ds s[i] ds.length < 0) = true := decide_eq_true (by rw [hf]; omega)
                have HE := hide he
                clear hf he hup
                go_wp2_with fail
                go_quiet (first | (go_at_call 100; exact Calls.quiet_of_same (find_any s[i] ds.length _ ((unhide HR).drewN _) (Nat.le_refl _) hl)))
                go_wp2_with fail
                go_ret
                refine ⟨⟨7, rfl, Or.inl (Or.inr (Or.inr ⟨by omega, unhide HSh, ?_, rfl⟩))⟩, ?_⟩
                · refine whole_unk (unhide HW) ?_
                  rw [← unhide HA]
                  exact any_found hlt (by rw [unkB, unhide HU, unhide HE]; rfl)
                · exact below_dr ((unhide HB1).trans ((unhide HBr).mono (unhide HB1).size)) _
            · have g2 : decide ((s[i].toNat : Int) ≤ (90 : Int)) = false := decide_eq_false (by omega)
              have HU := hide (show up s[i] = false from decide_eq_false (by omega))
              go_wp2_with fail
              go_quiet (fail)
              go_wp2_with fail
              go_roundg (s.size - (i + 1))
              case measure => rw [unhide HK]; omega
              case rel => exact ⟨i + 1, rfl, by omega, rfl, by rw [unhide HT, unhide HNo, unkB, unhide HU]; rfl, below_dr (unhide HBr) _⟩
          · have g1 : decide ((65 : Int) ≤ (s[i].toNat : Int)) = false := decide_eq_false (by omega)
            have HU := hide (show up s[i] = false from decide_eq_false (by omega))
            go_wp2_with fail
            go_quiet (fail)
            go_wp2_with fail
            go_roundg (s.size - (i + 1))
            case measure => rw [unhide HK]; omega
            case rel => exact ⟨i + 1, rfl, by omega, rfl, by rw [unhide HT, unhide HNo, unkB, unhide HU]; rfl, below_dr (unhide HBr) _⟩
        · have hlt' : ¬ (i : Int) < (s.size : Int) := by omega
          go_wp2_with fail
          go_ret
          refine ⟨⟨0, rfl, Or.inr ⟨rfl, t.bind (envOf ds), by omega, ?_⟩⟩, (unhide HB1).trans ((unhide HBr).mono (unhide HB1).size)⟩
          have hz := unhide HNo
          rw [any_whole (by omega), unhide HA] at hz
          have hwf := (unhide H1).ok.wf ds.length (Nat.le_refl _)
          rw [List.take_length] at hwf
          exact whole_good hwf (unhide HW) hz
end Go.Proofs.YtikiaijgcjjloaaGreatDoor

/- The walks: the document's sessions: New, Facts, Define. -/
namespace Go.Proofs.YtikiaijgcjjloaaGreatDoor
open Go Go.RowKit M T Go.Lib

set_option maxRecDepth 100000 in
set_option maxHeartbeats 800000 in
theorem rNew_any (w : World) : Calls Tryz.prog 23 #[] w fun e w' => e = .returned (.pointer (some ⟨w.heap.size, 0, none⟩)) ∧ w' = w.alloc (.cells #[.slice none 0 0] 78) := by
  go_enter Tryz.func23, Tryz.ntmps23
  go_wp2_with fail
  go_ret
  exact ⟨rfl, rfl⟩
theorem rNew_RSes (w : World) : RSes (w.alloc (.cells #[.slice none 0 0] 78)) w.heap.size (.slice none 0 0) [] :=
  ⟨heap_alloc_new w _, World.ownsRow_nil _ _ _ _, DefsOk.nil⟩

set_option maxRecDepth 100000 in
set_option maxHeartbeats 1600000 in
theorem rFacts_any (hP : RPS 1000) (hF : FS 1000) {rb : Nat} {v : Value} {ds : List D} (s : ByteArray) (w : World) (h : RSes w rb v ds) (hl : ds.length ≤ maxLen) :
    Calls Tryz.prog 41 #[.pointer (some ⟨rb, 0, none⟩), .string s] w fun e w' => ∃ n c, e = .returned (.tuple #[.int .i64 n, .int .i64 c]) ∧ FactsSays (envOf ds) s.data.toList n c ∧ Below w.heap.size w w' := by
  have HP := hide hP
  have HF := hide hF
  have H := hide h
  clear hP hF h
  go_enter Tryz.func41, Tryz.ntmps41
  go_wp2_with fail
  refine (check_any (unhide HP) s _ (unhide H) hl).mono ?_
  rintro e w1 ⟨⟨c, rfl, hc⟩, hb1⟩
  have HB1 := hide hb1
  have H1 := hide ((unhide H).below hb1)
  clear hb1
  rcases hc with hc | ⟨rfl, t, hg⟩
  · have hne : (c != 0) = true := by rw [bne_iff_ne]; exact hc.ne
    have HC := hide hc
    clear hc
    go_wp2_with fail
    exact bodyPost_ret (v := .tuple #[.int .i64 0, .int .i64 c]) (by simp [results, Tryz.results41, go_sem]) rfl ⟨0, c, rfl, Or.inl ⟨unhide HC, rfl⟩, unhide HB1⟩
  · have HG := hide hg
    obtain ⟨ao, cap, rfl, _⟩ := (unhide H1).slice
    have hb0 : w1.cell? ⟨rb, 0, none⟩ = some (.slice ao ds.length cap) := blk_cell (unhide H1).blk 0
    have hsz : s.size ≤ 1000 := by have := hg.len; simp at this; omega
    clear hg
    go_wp2_with fail
    refine (unhide HF s t ds rb _ ds.length _ hsz hsz (unhide H1) (Nat.le_refl _) hl (by rw [List.take_length]; exact (unhide HG).term)).mono ?_
    rintro e w2 ⟨rfl, hb2⟩
    have HB2 := hide ((unhide HB1).trans (hb2.mono (unhide HB1).size))
    clear hb2
    go_wp2_with fail
    exact bodyPost_ret (v := .tuple #[.int .i64 (factsNum t), .int .i64 0]) (by simp [results, Tryz.results41, go_sem]) rfl ⟨factsNum t, 0, rfl, Or.inr ⟨t, unhide HG, rfl, rfl⟩, unhide HB2⟩
end Go.Proofs.YtikiaijgcjjloaaGreatDoor

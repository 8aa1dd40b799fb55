import Derived.Test.YtikiaijgcjjloaaGreatDoorPart8
import Derived.Test.YtikiaijgcjjloaaGreatDoorPart32
import Derived.Deep.CutRange
import Derived.Deep.DeepCutAuto

/- The walks of the laws without the document's answer: whole numbers as a list. -/
namespace Go.Proofs.YtikiaijgcjjloaaGreatDoor
open Go Go.RowKit M T Go.Lib

theorem ratText_int (z : Int) : ratText ((z : Int) : Rat) = itoa z := by
  show itoa (((z : Int) : Rat).num) ++ (if ((((z : Int) : Rat).den : Nat) : Int) ≤ 1 then [] else 47 :: decDigits ((((z : Int) : Rat).den : Nat) : Int).toNat) = _
  rw [Rat.num_intCast, Rat.den_intCast, if_pos (by omega), List.append_nil]
theorem small_int {z : Int} (h1 : -1000 ≤ z) (h2 : z ≤ 1000) : small ((z : Int) : Rat) = true := by
  unfold small
  rw [decide_eq_true_iff, Rat.num_intCast, Rat.den_intCast]
  omega
/-- The list that listed writes. -/
structure LsdIs (n : Nat) (L : List Rat) : Prop where
  len : L.length = n
  few : n ≤ 12
  small : AllS L
theorem LsdIs.list {n : Nat} {L : List Rat} (h : LsdIs n L) : IsList (listText L) L := ⟨by have := h.few; rw [h.len]; exact this, h.small, rfl⟩
/-- What listed answers. -/
def LsdGot (w : World) (e : Ending) (w' : World) : Prop := ∃ L, IsList (listText L) L ∧ e = .returned (.string ⟨(listText L).toArray⟩) ∧ Below w.heap.size w w'
theorem listText_add (L : List Rat) (x : Rat) (h : L ≠ []) : (⟨(listText L).toArray⟩ ++ ⟨#[44]⟩ ++ ⟨(ratText x).toArray⟩ : ByteArray) = ⟨(listText (L ++ [x])).toArray⟩ := by
  rw [listText_snoc, if_neg h]
  apply ByteArray.ext
  simp
theorem listText_first (x : Rat) : ((⟨#[]⟩ : ByteArray) ++ ⟨(ratText x).toArray⟩ : ByteArray) = ⟨(listText [x]).toArray⟩ := by
  apply ByteArray.ext
  simp [listText]

set_option maxRecDepth 100000 in
set_option maxHeartbeats 1600000 in
theorem listed_any {w : World} {ra : Option Addr} {rn rc : Nat} {raw : Nat → Int} (hr : RawIs w ra rn raw) (_hn : rn ≤ 140737488355328) (ht : Tab w) :
    Calls Tryz.prog 20 #[.slice ra rn rc] w fun e w' => LsdGot w e w' := by
  have HR := hide hr
  have HT := hide ht
  clear hr ht
  go_enter Tryz.func20, Tryz.ntmps20
  go_wp2_with fail
  go_loopg [3, 4] 12 (fun kk v3 v4 wr => ∃ (i : Nat) (L : List Rat), kk = 12 - i ∧ i ≤ 12 ∧ i ≤ rn ∧ v4 = .int .i64 (i : Int) ∧ v3 = .string ⟨(listText L).toArray⟩ ∧ LsdIs i L ∧ Below w.heap.size w wr)
  case atStart => exact ⟨0, [], rfl, Nat.zero_le _, Nat.zero_le _, rfl, rfl, ⟨rfl, by omega, fun _ h => by (cases h)⟩, Below.refl _ _⟩
  case round =>
    obtain ⟨i, L, hk, hi, hin, rfl, rfl, hL, hbl⟩ := hrel
    have HK := hide hk
    have HL := hide hL
    have HB := hide hbl
    have hll : (listText L).length ≤ 300 := by
      have h1 := listText_len hL.small
      have h2 := hL.len
      have h3 := hL.few
      omega
    clear hk
    by_cases hlt : i < rn
    · have hlt' : (i : Int) < (rn : Int) := by omega
      by_cases hl12 : i < 12
      · have hl12' : (i : Int) < 12 := by omega
        obtain ⟨a, rfl, hab, hcell, hr1, hr2⟩ := ((unhide HR).below hbl).at' i hlt
        have hq := (kpick_val (raw i) (n := 2001) (by omega)).2.2
        have HLen := hide hL.len
        clear hL hbl
        by_cases hz0 : i = 0
        · obtain rfl : L = [] := List.eq_nil_of_length_eq_zero (by rw [unhide HLen]; exact hz0)
          have hz0' : ¬ (0 : Int) < (i : Int) := by omega
          have HZ0 := hide hz0
          clear hz0
          go_wp2_with fail
          refine (kpick_any (raw i) 2001 _ hr1 hr2 (by omega) (by omega)).mono ?_
          rintro e w1 ⟨rfl, rfl⟩
          generalize kpickN (raw i) 2001 = q at hq
          obtain ⟨z, hz⟩ : ∃ z : Int, (q : Int) - 1000 = z := ⟨_, rfl⟩
          have hz1 : -1000 ≤ z := by omega
          have hz2 : z ≤ 1000 := by omega
          have hq1 : (q : Int) ≤ 2000 := by omega
          go_wp2_with fail
          refine (itoa_any z _ (by omega) (by omega) (tab_below (unhide HT) (unhide HB))).mono ?_
          rintro e w2 ⟨rfl, hb2⟩
          have HB2 := hide ((unhide HB).trans (hb2.mono (unhide HB).size))
          have HS := hide (small_int hz1 hz2)
          have HTx := hide (listText_first ((z : Int) : Rat))
          rw [← ratText_int]
          clear hb2
          generalize ((z : Int) : Rat) = x at HS HTx ⊢
          have hxl : (ratText x).length ≤ 23 := item_len (unhide HS)
          go_wp2_with fail
          go_roundg (12 - (i + 1))
          case measure => rw [unhide HK]; omega
          case rel => exact ⟨i + 1, [x], rfl, by omega, by omega, rfl, by first | (rw [← unhide HTx]; rfl) | simp [listText], ⟨by rw [unhide HZ0]; rfl, by omega, fun y hy => by rw [List.mem_singleton.1 hy]; exact unhide HS⟩, unhide HB2⟩
        · have hne : L ≠ [] := fun e => by have := unhide HLen; rw [e] at this; simp at this; omega
          have hz0' : (0 : Int) < (i : Int) := by omega
          go_wp2_with fail
          refine (kpick_any (raw i) 2001 _ hr1 hr2 (by omega) (by omega)).mono ?_
          rintro e w1 ⟨rfl, rfl⟩
          generalize kpickN (raw i) 2001 = q at hq
          obtain ⟨z, hz⟩ : ∃ z : Int, (q : Int) - 1000 = z := ⟨_, rfl⟩
          have hz1 : -1000 ≤ z := by omega
          have hz2 : z ≤ 1000 := by omega
          have hq1 : (q : Int) ≤ 2000 := by omega
          go_wp2_with fail
          refine (itoa_any z _ (by omega) (by omega) (tab_below (unhide HT) (unhide HB))).mono ?_
          rintro e w2 ⟨rfl, hb2⟩
          have HB2 := hide ((unhide HB).trans (hb2.mono (unhide HB).size))
          have HS := hide (small_int hz1 hz2)
          have HTx := hide (listText_add L ((z : Int) : Rat) hne)
          rw [← ratText_int]
          clear hb2
          generalize ((z : Int) : Rat) = x at HS HTx ⊢
          have hxl : (ratText x).length ≤ 23 := item_len (unhide HS)
          go_wp2_with fail
          go_roundg (12 - (i + 1))
          case measure => rw [unhide HK]; omega
          case rel => exact ⟨i + 1, L ++ [x], rfl, by omega, by omega, rfl, by first | (rw [← unhide HTx]) | rfl, ⟨by rw [List.length_append, unhide HLen]; rfl, by omega, allS_one (unhide HL).small (unhide HS)⟩, unhide HB2⟩
      · have hl12' : ¬ (i : Int) < 12 := by omega
        have hlist := hL.list
        have HLs := hide hlist
        clear hL hbl hlist
        go_wp2_with fail
        go_ret
        exact ⟨L, unhide HLs, rfl, unhide HB⟩
    · have hlt' : ¬ (i : Int) < (rn : Int) := by omega
      have hlist := hL.list
      have HLs := hide hlist
      clear hL hbl hlist
      go_wp2_with fail
      go_ret
      exact ⟨L, unhide HLs, rfl, unhide HB⟩
end Go.Proofs.YtikiaijgcjjloaaGreatDoor

/- The walks of the laws without the document's answer: texts put together. -/
namespace Go.Proofs.YtikiaijgcjjloaaGreatDoor
open Go Go.RowKit M T Go.Lib

theorem cat_list (a b : ByteArray) : (a ++ b).data.toList = a.data.toList ++ b.data.toList := by simp
theorem bytes_of {a : ByteArray} {l : List UInt8} (h : a.data.toList = l) : a = ⟨l.toArray⟩ := by subst h; simp
theorem bytes_back (a : ByteArray) : (⟨a.data.toList.toArray⟩ : ByteArray) = a := by simp
theorem pow_text (s it : ByteArray) (k : Int) (h : it.data.toList = itoa k) : ((⟨#[40]⟩ : ByteArray) ++ s ++ ⟨#[41, 94]⟩ ++ it).data.toList = powText s.data.toList k := by
  simp only [cat_list, h]
  simp [powText]
theorem minus_text (s : ByteArray) : ((⟨#[40]⟩ : ByteArray) ++ s ++ ⟨#[41, 94, 45, 49]⟩).data.toList = powText s.data.toList (-1) := by
  simp only [cat_list, powText, itoa_m1]
  simp
theorem plus_text (s : ByteArray) : ((⟨#[40]⟩ : ByteArray) ++ s ++ ⟨#[41, 94, 49]⟩).data.toList = powText s.data.toList 1 := by
  simp only [cat_list, powText, itoa_1]
  simp
theorem bytes_size (l : List UInt8) : (⟨l.toArray⟩ : ByteArray).size = l.length := by
  show l.toArray.size = _
  simp
theorem apply_len {env : Env} {s ls : List UInt8} {fuel : Int} {r : List UInt8} {n e : Int} (h : ApplySays env s ls fuel r n e) : r.length ≤ 300 := by
  by_cases he : e = 0
  · obtain ⟨t, l, l', f', hg, hl, _, _, hr, rfl, _⟩ := h.ok he
    have hl' := run_list hg.term.wf hl hr
    have h1 := listText_len hl'.small
    have h2 := hl'.len
    omega
  · rw [(h.err he).1]; simp
theorem apply_n {env : Env} {s ls : List UInt8} {fuel : Int} {r : List UInt8} {n e : Int} (h : ApplySays env s ls fuel r n e) : 0 ≤ n ∧ n ≤ 5000 := by
  by_cases he : e = 0
  · obtain ⟨t, l, l', f', hg, hl, h1, h2, hr, _, rfl⟩ := h.ok he
    obtain ⟨m, hm, _⟩ := Tm.paced t false _ _ _ _ hr
    omega
  · rw [(h.err he).2]; omega
theorem empty_yes {s : ByteArray} (h : s.data.toList = []) : s.toList.isEmpty = true := by rw [ByteArray.toList_eq, h]; rfl
theorem empty_no {s : ByteArray} (h : s.data.toList ≠ []) : s.toList.isEmpty = false := by
  rw [ByteArray.toList_eq]
  cases h1 : s.data.toList with
  | nil => exact absurd h1 h
  | cons c l => rfl
theorem list_len {ls : List UInt8} {L : List Rat} (h : IsList ls L) : ls.length ≤ 300 := by
  have h1 := listText_len h.small
  have h2 := h.len
  rw [h.text] at h1
  omega
theorem facts_len {env : Env} {s : List UInt8} {n : Int} (h : FactsSays env s n 0) : s.length ≤ 120 := by
  obtain ⟨t, hg, _⟩ := h.good
  exact hg.len
theorem size_list (a : ByteArray) : a.size = a.data.toList.length := by simp
end Go.Proofs.YtikiaijgcjjloaaGreatDoor

/- How many steps a run can take at most, and which runs can't meet a missing way back; the parts of the statement There. No program in this text. -/
namespace Go.Proofs.YtikiaijgcjjloaaGreatDoor
namespace T
open Go.Lib M

/-! ### Steps at most -/
mutual
def Pt.cost : Pt → Nat
  | .sp _ => 1
  | .pow f k => 1 + k.natAbs * (1 + f.cost)
  | .under s g => 1 + (s.cost + (g.cost + s.cost))
  | .name _ t => 1 + t.cost
def Tm.cost : Tm → Nat
  | .nil => 0
  | .cons p t => p.cost + t.cost
end
/-- g takes at most c steps, and is never short of fuel with so many. -/
def Within (g : List Rat → Nat → Res) (c : Nat) : Prop := (∀ l l' n, Steps g l l' n → n ≤ c) ∧ ∀ l f, g l f = .err 10 → f < c
theorem Within.then {g h : List Rat → Nat → Res} {c d : Nat} (pg : Paced g) (ph : Paced h) (hg : Within g c) (hh : Within h d) : Within (fun l f => Res.then (g l f) h) (c + d) := by
  refine ⟨fun l l' n hs => ?_, fun l f he => ?_⟩
  · obtain ⟨l1, a, b, h1, h2, rfl⟩ := hs.split pg ph
    have := hg.1 _ _ _ h1
    have := hh.1 _ _ _ h2
    omega
  · change Res.then (g l f) h = _ at he
    cases hr : g l f with
    | err e =>
      rw [hr] at he
      cases he
      have := hg.2 _ _ hr
      omega
    | ok l1 f1 =>
      rw [hr] at he
      have h1 := hh.2 _ _ he
      obtain ⟨n, hn, hs⟩ := pg.steps hr
      have := hg.1 _ _ _ hs
      omega
theorem Within.stepped {g : List Rat → Nat → Res} {c : Nat} (hg : Within g c) : Within (T.stepped g) (1 + c) := by
  refine ⟨fun l l' n hs => ?_, fun l f he => ?_⟩
  · obtain ⟨m, rfl, h1⟩ := hs.unstep
    have := hg.1 _ _ _ h1
    omega
  · cases f with
    | zero => omega
    | succ f =>
      have := hg.2 l f he
      omega
theorem within_id : Within (fun l f => .ok l f) 0 := by
  refine ⟨fun l l' n hs => ?_, fun l f he => by cases he⟩
  obtain ⟨_, rfl⟩ := hs.unique (steps_nil l)
  omega
theorem Within.iter {g : List Rat → Nat → Res} {c : Nat} (pg : Paced g) (hg : Within g c) : ∀ k, Within (T.iter g k) (k * (1 + c))
  | 0 => by rw [iter_zero_fun, Nat.zero_mul]; exact within_id
  | k + 1 => by
    rw [iter_succ_fun]
    have := (hg.then pg (pg.iter k) (Within.iter pg hg k)).stepped
    rw [show (k + 1) * (1 + c) = 1 + (c + k * (1 + c)) by rw [Nat.succ_mul]; omega]
    exact this
theorem within_err {e : Int} (he : e ≠ 10) (c : Nat) : Within (fun _ _ => .err e) c := by
  refine ⟨fun l l' n hs => ?_, fun l f h => ?_⟩
  · have := hs n
    rw [if_pos (Nat.le_refl _)] at this
    cases this
  · cases h; exact absurd rfl he
theorem Sp.no10 {x : Sp} {l : List Rat} {e : Int} (h : x.work l = .error e) : e = 2 ∨ e = 3 ∨ e = 11 := by
  have lim3 : ∀ {r : Rat} {e : Int}, lim r = .error e → e = 2 ∨ e = 3 ∨ e = 11 := by
    intro r e h
    unfold lim at h
    split at h
    · cases h
    · cases h; exact Or.inr (Or.inl rfl)
  have each3 : ∀ {f : Rat → Except Int Rat} {l : List Rat} {e : Int}, (∀ x e, f x = .error e → e = 2 ∨ e = 3 ∨ e = 11) → each f l = .error e → e = 2 ∨ e = 3 ∨ e = 11 := by
    intro f l e hf
    induction l with
    | nil => intro h; cases h
    | cons x l ih =>
      intro h
      rw [each] at h
      cases hg : f x with
      | error e' => rw [hg] at h; cases h; exact hf x _ hg
      | ok y =>
        rw [hg] at h
        cases hr : each f l with
        | error e' => rw [hr] at h; cases h; exact ih hr
        | ok ys => rw [hr] at h; cases h
  have scan3 : ∀ {f : Rat → Rat → Except Int Rat} {l : List Rat} {a : Rat} {e : Int}, (∀ a x e, f a x = .error e → e = 2 ∨ e = 3 ∨ e = 11) → scan f a l = .error e → e = 2 ∨ e = 3 ∨ e = 11 := by
    intro f l
    induction l with
    | nil => intro a e _ h; cases h
    | cons x l ih =>
      intro a e hf h
      rw [scan] at h
      cases hg : f a x with
      | error e' => rw [hg] at h; cases h; exact hf a x _ hg
      | ok y =>
        rw [hg] at h
        cases hr : scan f y l with
        | error e' => simp only [hr] at h; cases h; exact ih hf hr
        | ok ys => simp only [hr] at h; cases h
  have diff3 : ∀ {f : Rat → Rat → Except Int Rat} {l : List Rat} {a : Rat} {e : Int}, (∀ a x e, f a x = .error e → e = 2 ∨ e = 3 ∨ e = 11) → diff f a l = .error e → e = 2 ∨ e = 3 ∨ e = 11 := by
    intro f l
    induction l with
    | nil => intro a e _ h; cases h
    | cons x l ih =>
      intro a e hf h
      rw [diff] at h
      cases hg : f a x with
      | error e' => rw [hg] at h; cases h; exact hf a x _ hg
      | ok y =>
        rw [hg] at h
        cases hr : diff f x l with
        | error e' => simp only [hr] at h; cases h; exact ih hf hr
        | ok ys => simp only [hr] at h; cases h
  have headed3 : ∀ {g : Rat → List Rat → Except Int (List Rat)} {l : List Rat} {e : Int}, (∀ a l e, g a l = .error e → e = 2 ∨ e = 3 ∨ e = 11) → headed g l = .error e → e = 2 ∨ e = 3 ∨ e = 11 := by
    intro g l e hf h
    cases l with
    | nil => cases h
    | cons x l =>
      rw [headed] at h
      cases hg : g x l with
      | error e' => rw [hg] at h; cases h; exact hf x l _ hg
      | ok ys => rw [hg] at h; cases h
  cases x with
  | n => cases h
  | v =>
    refine each3 (fun x e hg => ?_) h
    split at hg
    · cases hg; exact Or.inl rfl
    · cases hg
  | a => cases h
  | q => exact each3 (fun x e hg => lim3 hg) h
  | w =>
    refine each3 (fun x e hg => ?_) h
    split at hg
    · cases hg
    · cases hg; exact Or.inl rfl
  | u =>
    refine each3 (fun x e hg => ?_) h
    split at hg
    · cases hg; exact Or.inl rfl
    · exact lim3 hg
  | r => cases h
  | s => exact headed3 (fun a l e hg => scan3 (f := addE) (fun a x e h => lim3 (show lim (a + x) = .error e from h)) hg) h
  | z => exact headed3 (fun a l e hg => diff3 (f := subE) (fun a x e h => lim3 (show lim (x - a) = .error e from h)) hg) h
  | p => exact headed3 (fun a l e hg => scan3 (f := mulE) (fun a x e h => lim3 (show lim (a * x) = .error e from h)) hg) h
  | m =>
    have h' : (if zeroAhead l then (Except.error 2 : Except Int (List Rat)) else headed (scan mulE) l) = .error e := h
    split at h'
    · cases h'; exact Or.inl rfl
    · exact headed3 (fun a l e hg => scan3 (f := mulE) (fun a x e h => lim3 (show lim (a * x) = .error e from h)) hg) h'
  | o =>
    refine headed3 (fun a l e hg => diff3 (f := divE) (fun a x e h => ?_) hg) h
    unfold divE at h
    split at h
    · cases h; exact Or.inl rfl
    · exact lim3 h
  | plus c => exact each3 (fun x e hg => lim3 hg) h
  | times c => exact each3 (fun x e hg => lim3 hg) h
  | set c => cases h
  | shift k => cases h
  | take k =>
    have h' : (if k ≤ l.length then (Except.ok (l.take k) : Except Int (List Rat)) else .error 11) = .error e := h
    split at h'
    · cases h'
    · cases h'; exact Or.inr (Or.inr rfl)
  | drop k =>
    have h' : (if k ≤ l.length then (Except.ok (l.drop k) : Except Int (List Rat)) else .error 11) = .error e := h
    split at h'
    · cases h'
    · cases h'; exact Or.inr (Or.inr rfl)
  | pick ps =>
    have h' : (if ps.all (· < l.length) then (Except.ok (picked ps l) : Except Int (List Rat)) else .error 11) = .error e := h
    split at h'
    · cases h'
    · cases h'; exact Or.inr (Or.inr rfl)
theorem within_lift (g : List Rat → Except Int (List Rat)) (hg : ∀ l e, g l = .error e → e ≠ 10) : Within (fun l f => lift (g l) f) 0 := by
  refine ⟨fun l l' n hs => ?_, fun l f he => ?_⟩
  · have e := hs n
    rw [if_pos (Nat.le_refl _), Nat.sub_self] at e
    change lift (g l) n = _ at e
    cases hr : g l with
    | error e' => rw [hr] at e; cases e
    | ok x => rw [hr] at e; cases e; omega
  · change lift (g l) f = _ at he
    cases hr : g l with
    | error e' => rw [hr] at he; cases he; exact absurd rfl (hg l _ hr)
    | ok x => rw [hr] at he; cases he
mutual
theorem Pt.within : ∀ (p : Pt) (b : Bool), Within (p.run b) p.cost
  | .sp x, b => by
    rw [Pt.run_sp, Pt.cost]
    refine (within_lift (fun l => if b then x.workBack l else x.work l) (fun l e h => ?_)).stepped
    have key : ∀ {y : Sp} {e : Int}, y.work l = .error e → e ≠ 10 := by
      intro y e h
      rcases Sp.no10 h with rfl | rfl | rfl <;> decide
    cases b with
    | false => exact key h
    | true =>
      change x.workBack l = _ at h
      unfold Sp.workBack at h
      cases ho : x.opp with
      | none => rw [ho] at h; cases h; decide
      | some y => rw [ho] at h; exact key h
  | .pow t k, b => by
    rw [Pt.cost]
    by_cases hc : (if b then -k else k) < 0 ∧ t.back = false
    · rw [Pt.run_pow]
      have e : (fun l f => if (if b then -k else k) < 0 ∧ t.back = false then (Res.err 12 : Res) else iter (fun l f => t.run (decide ((if b then -k else k) < 0)) l f) k.natAbs l f) = fun _ _ => .err 12 := by
        funext l f; rw [if_pos hc]
      rw [e]
      exact (within_err (by decide) _).stepped
    · rw [Pt.run_pow_ok _ _ _ hc]
      exact ((Tm.within t _).iter (Tm.paced t _) _).stepped
  | .under s g, b => by
    rw [Pt.cost]
    by_cases hp : s.picker = true
    · rw [Pt.run_under_pick _ _ _ hp]
      refine Within.stepped ⟨fun l l' n hs => ?_, fun l f he => ?_⟩
      · have e := hs n
        rw [if_pos (Nat.le_refl _), Nat.sub_self] at e
        unfold underRun at e
        obtain ⟨at_, f1, e1, e2⟩ := then_ok e
        obtain ⟨ys, f2, e3, e4⟩ := then_ok e2
        obtain ⟨a, ha, sa⟩ := (Tm.paced s false).steps e1
        obtain ⟨c, hc, sc⟩ := (Tm.paced g b).steps e3
        have h1 := (Tm.within s false).1 _ _ _ sa
        have h2 := (Tm.within g b).1 _ _ _ sc
        split at e4
        · cases e4; omega
        · cases e4
      · unfold underRun at he
        cases hr : s.run false (allPlaces l.length) f with
        | err e' =>
          rw [hr] at he
          cases he
          have := (Tm.within s false).2 _ _ hr
          omega
        | ok at_ f1 =>
          rw [hr, then_of_ok] at he
          obtain ⟨a, ha, sa⟩ := (Tm.paced s false).steps hr
          have h1 := (Tm.within s false).1 _ _ _ sa
          cases hr2 : g.run b (picked (places at_) l) f1 with
          | err e' =>
            rw [hr2] at he
            cases he
            have := (Tm.within g b).2 _ _ hr2
            omega
          | ok ys f2 =>
            rw [hr2, then_of_ok] at he
            split at he
            · cases he
            · cases he
    · by_cases hb : (s.back && s.plain) = true
      · rw [Pt.run_under_way _ _ _ (by simpa using hp) hb]
        exact ((Tm.within s false).then (Tm.paced s false) ((Tm.paced g b).then (Tm.paced s true)) ((Tm.within g b).then (Tm.paced g b) (Tm.paced s true) (Tm.within s true))).stepped
      · rw [Pt.run_fun]
        have e : (fun l f => match Pt.under s g with
            | .sp x => lift (if b then x.workBack l else x.work l) f
            | .pow t k => if (if b then -k else k) < 0 ∧ t.back = false then .err 12 else iter (fun l f => t.run (decide ((if b then -k else k) < 0)) l f) k.natAbs l f
            | .under s g =>
              if s.picker then
                Res.then (s.run false (allPlaces l.length) f) fun at_ f1 =>
                  Res.then (g.run b (picked (places at_) l) f1) fun ys f2 =>
                    if ys.length = at_.length then .ok (layAt (places at_) ys l) f2 else .err 11
              else if s.back && s.plain then
                Res.then (s.run false l f) fun l1 f1 => Res.then (g.run b l1 f1) fun l2 f2 => s.run true l2 f2
              else .err 12
            | .name _ t => t.run b l f) = fun _ _ => (.err 12 : Res) := by
          funext l f
          change (if s.picker then _ else if s.back && s.plain then _ else Res.err 12) = _
          rw [if_neg hp, if_neg hb]
        rw [e]
        exact (within_err (by decide) _).stepped
  | .name c t, b => by
    rw [Pt.run_name, Pt.cost]
    exact (Tm.within t b).stepped
theorem Tm.within : ∀ (t : Tm) (b : Bool), Within (t.run b) t.cost
  | .nil, b => by rw [Tm.run_nil_fun, Tm.cost]; exact within_id
  | .cons p t, false => by rw [Tm.run_fwd_fun, Tm.cost]; exact (Pt.within p false).then (Pt.paced p false) (Tm.paced t false) (Tm.within t false)
  | .cons p t, true => by rw [Tm.run_bwd_fun, Tm.cost, Nat.add_comm]; exact (Tm.within t true).then (Tm.paced t true) (Pt.paced p true) (Pt.within p true)
end
end T
end Go.Proofs.YtikiaijgcjjloaaGreatDoor

/- The statement There, over the answers as relations. No program in this text. -/
namespace Go.Proofs.YtikiaijgcjjloaaGreatDoor
namespace T
open Go.Lib M

/-! ### Runs that can't meet a missing way back -/
mutual
def Pt.calm : Pt → Bool → Bool
  | .sp x, b => !b || x.opp.isSome
  | .pow f k, b => (f.back || !decide ((if b then -k else k) < 0)) && f.calm (decide ((if b then -k else k) < 0))
  | .under s g, b => if s.picker then s.calm false && g.calm b else (s.back && s.plain) && (s.calm false && (g.calm b && s.calm true))
  | .name _ t, b => t.calm b
def Tm.calm : Tm → Bool → Bool
  | .nil, _ => true
  | .cons p t, b => p.calm b && t.calm b
end
def No12 (g : List Rat → Nat → Res) : Prop := ∀ l f, g l f ≠ .err 12
theorem No12.then {g h : List Rat → Nat → Res} (hg : No12 g) (hh : No12 h) : No12 (fun l f => Res.then (g l f) h) := by
  intro l f he
  change Res.then (g l f) h = _ at he
  cases hr : g l f with
  | err e => rw [hr] at he; exact hg l f (hr.trans he)
  | ok l1 f1 => rw [hr] at he; exact hh _ _ he
theorem No12.stepped {g : List Rat → Nat → Res} (hg : No12 g) : No12 (T.stepped g) := by
  intro l f he
  cases f with
  | zero => cases he
  | succ f => exact hg l f he
theorem no12_id : No12 (fun l f => .ok l f) := fun _ _ h => by cases h
theorem No12.iter {g : List Rat → Nat → Res} (hg : No12 g) : ∀ k, No12 (T.iter g k)
  | 0 => by rw [iter_zero_fun]; exact no12_id
  | k + 1 => by rw [iter_succ_fun]; exact (hg.then (No12.iter hg k)).stepped
theorem no12_work (y : Sp) (l : List Rat) (f : Nat) : lift (y.work l) f ≠ .err 12 := by
  intro he
  cases hr : y.work l with
  | error e =>
    rw [hr] at he
    cases he
    rcases Sp.no10 hr with h | h | h <;> cases h
  | ok x => rw [hr] at he; cases he
mutual
theorem Pt.no12 : ∀ (p : Pt) (b : Bool), p.calm b = true → No12 (p.run b)
  | .sp x, b, hc => by
    rw [Pt.run_sp]
    refine No12.stepped fun l f he => ?_
    cases b with
    | false => exact no12_work x l f he
    | true =>
      change lift (x.workBack l) f = _ at he
      unfold Sp.workBack at he
      cases ho : x.opp with
      | none => rw [Pt.calm, ho] at hc; cases hc
      | some y => rw [ho] at he; exact no12_work y l f he
  | .pow t k, b, hc => by
    rw [Pt.calm, Bool.and_eq_true, Bool.or_eq_true] at hc
    rw [Pt.run_pow_ok _ _ _ (by
      rintro ⟨h1, h2⟩
      rcases hc.1 with h | h
      · rw [h2] at h; cases h
      · simp only [Bool.not_eq_true', decide_eq_false_iff_not] at h
        exact h h1)]
    exact ((Tm.no12 t _ hc.2).iter _).stepped
  | .under s g, b, hc => by
    rw [Pt.calm] at hc
    by_cases hp : s.picker = true
    · rw [if_pos hp, Bool.and_eq_true] at hc
      rw [Pt.run_under_pick _ _ _ hp]
      refine No12.stepped fun l f he => ?_
      unfold underRun at he
      cases hr : s.run false (allPlaces l.length) f with
      | err e => rw [hr] at he; exact Tm.no12 s false hc.1 _ _ (hr.trans he)
      | ok at_ f1 =>
        rw [hr, then_of_ok] at he
        cases hr2 : g.run b (picked (places at_) l) f1 with
        | err e => rw [hr2] at he; exact Tm.no12 g b hc.2 _ _ (hr2.trans he)
        | ok ys f2 =>
          rw [hr2, then_of_ok] at he
          split at he <;> cases he
    · simp only [if_neg hp, Bool.and_eq_true] at hc
      rw [Pt.run_under_way _ _ _ (by simpa using hp) (by rw [Bool.and_eq_true]; exact hc.1)]
      exact ((Tm.no12 s false hc.2.1).then ((Tm.no12 g b hc.2.2.1).then (Tm.no12 s true hc.2.2.2))).stepped
  | .name c t, b, hc => by
    rw [Pt.calm] at hc
    rw [Pt.run_name]
    exact (Tm.no12 t b hc).stepped
theorem Tm.no12 : ∀ (t : Tm) (b : Bool), t.calm b = true → No12 (t.run b)
  | .nil, b, _ => by rw [Tm.run_nil_fun]; exact no12_id
  | .cons p t, false, hc => by
    rw [Tm.calm, Bool.and_eq_true] at hc
    rw [Tm.run_fwd_fun]
    exact (Pt.no12 p false hc.1).then (Tm.no12 t false hc.2)
  | .cons p t, true, hc => by
    rw [Tm.calm, Bool.and_eq_true] at hc
    rw [Tm.run_bwd_fun]
    exact (Tm.no12 t true hc.2).then (Pt.no12 p true hc.1)
end

/-! ### The parts of There -/
def one (x : Sp) : Tm := .cons (.sp x) .nil
def way : Nat → Pt
  | 0 => .sp .n
  | 1 => .sp .r
  | 2 => .sp (.shift 1)
  | 3 => .sp (.shift (-5))
  | 4 => .sp .v
  | 5 => .sp (.plus (mkRat 1 2))
  | 6 => .sp (.times (-3))
  | 7 => .sp .s
  | 8 => .sp .z
  | 9 => .sp .w
  | 10 => .sp .u
  | 11 => .sp .o
  | 12 => .sp .m
  | 13 => .pow (one .u) (-1)
  | 14 => .pow (.cons (.sp (.plus 2)) (one .s)) 2
  | 15 => .under (one .r) (one .n)
  | 16 => .under (one (.pick [1, 0])) (one .o)
  | 17 => .under (one .v) (one (.plus 1))
  | _ => .under (one (.take 2)) (one .s)
/-- What holds of each way. -/
structure WayOk (p : Pt) : Prop where
  wf : p.wf
  env : p.inEnv noEnv
  back : p.back = true
  plain : p.plain = true
  calm : p.calm false = true
  cost : p.cost ≤ 7
theorem small_half : small (mkRat 1 2) = true := by decide +kernel
theorem small_m3 : small (-3 : Rat) = true := by decide +kernel
theorem small_2 : small (2 : Rat) = true := by decide +kernel
theorem small_1 : small (1 : Rat) = true := by decide +kernel
theorem way_ok : ∀ k, WayOk (way k)
  | 0 | 1 | 4 | 7 | 8 | 9 | 10 | 11 | 12 => by
    constructor <;> first | (simp [way, Pt.wf, Sp.wf]; done) | (simp [way, Pt.inEnv]; done) | (simp [way, Pt.back, Sp.opp]; done) | (simp [way, Pt.plain, Sp.plain]; done) | (simp [way, Pt.calm]; done) | (simp [way, Pt.cost]; done)
  | 2 | 3 => by
    constructor <;> first | (simp [way, Pt.wf, Sp.wf]; done) | (simp [way, Pt.inEnv]; done) | (simp [way, Pt.back, Sp.opp]; done) | (simp [way, Pt.plain, Sp.plain]; done) | (simp [way, Pt.calm]; done) | (simp [way, Pt.cost]; done)
  | 5 => by
    constructor <;> first | (simp [way, Pt.wf, Sp.wf, small_half]; done) | (simp [way, Pt.inEnv]; done) | (simp [way, Pt.back, Sp.opp]; done) | (simp [way, Pt.plain, Sp.plain]; done) | (simp [way, Pt.calm]; done) | (simp [way, Pt.cost]; done)
  | 6 => by
    constructor <;> first | (simp [way, Pt.wf, Sp.wf, small_m3]; done) | (simp [way, Pt.inEnv]; done) | (rw [way, Pt.back, Sp.opp, if_neg (by decide +kernel)]; rfl) | (simp [way, Pt.plain, Sp.plain]; done) | (simp [way, Pt.calm]; done) | (simp [way, Pt.cost]; done)
  | 13 => by
    constructor <;> simp [way, one, Pt.wf, Tm.wf, Sp.wf, Pt.inEnv, Tm.inEnv, Pt.back, Tm.back, Sp.opp, Pt.plain, Tm.plain, Sp.plain, Pt.calm, Tm.calm, Pt.cost, Tm.cost]
  | 14 => by
    constructor <;> simp [way, one, Pt.wf, Tm.wf, Sp.wf, Pt.inEnv, Tm.inEnv, Pt.back, Tm.back, Sp.opp, Pt.plain, Tm.plain, Sp.plain, Pt.calm, Tm.calm, Pt.cost, Tm.cost, small_2]
  | 15 => by
    constructor <;> simp [way, one, Pt.wf, Tm.wf, Sp.wf, Pt.inEnv, Tm.inEnv, Pt.back, Tm.back, Sp.opp, Pt.plain, Tm.plain, Sp.plain, Pt.calm, Tm.calm, Pt.cost, Tm.cost, Pt.picker, Tm.picker, Sp.picker]
  | 16 => by
    constructor <;> simp [way, one, Pt.wf, Tm.wf, Sp.wf, Pt.inEnv, Tm.inEnv, Pt.back, Tm.back, Sp.opp, Pt.plain, Tm.plain, Sp.plain, Pt.calm, Tm.calm, Pt.cost, Tm.cost, Pt.picker, Tm.picker, Sp.picker]
  | 17 => by
    constructor <;> simp [way, one, Pt.wf, Tm.wf, Sp.wf, Pt.inEnv, Tm.inEnv, Pt.back, Tm.back, Sp.opp, Pt.plain, Tm.plain, Sp.plain, Pt.calm, Tm.calm, Pt.cost, Tm.cost, Pt.picker, Tm.picker, Sp.picker, small_1]
  | _ + 18 => by
    constructor <;> simp [way, one, Pt.wf, Tm.wf, Sp.wf, Pt.inEnv, Tm.inEnv, Pt.back, Tm.back, Sp.opp, Pt.plain, Tm.plain, Sp.plain, Pt.calm, Tm.calm, Pt.cost, Tm.cost, Pt.picker, Tm.picker, Sp.picker]

/-! ### THERE -/
def waysTm : List Nat → Tm
  | [] => .nil
  | k :: ks => .cons (way k) (waysTm ks)
structure WaysOk (t : Tm) (n : Nat) : Prop where
  wf : t.wf
  env : t.inEnv noEnv
  back : t.back = true
  plain : t.plain = true
  calm : t.calm false = true
  cost : t.cost ≤ 7 * n
theorem ways_ok : ∀ ks : List Nat, WaysOk (waysTm ks) ks.length
  | [] => by constructor <;> simp [waysTm, Tm.wf, Tm.inEnv, Tm.back, Tm.plain, Tm.calm, Tm.cost]
  | k :: ks => by
    have h1 := way_ok k
    have h2 := ways_ok ks
    constructor
    · rw [waysTm, Tm.wf]; exact ⟨h1.wf, h2.wf⟩
    · rw [waysTm, Tm.inEnv]; exact ⟨h1.env, h2.env⟩
    · rw [waysTm, Tm.back, h1.back, h2.back]; rfl
    · rw [waysTm, Tm.plain, h1.plain, h2.plain]; rfl
    · rw [waysTm, Tm.calm, h1.calm, h2.calm]; rfl
    · rw [waysTm, Tm.cost]
      have := h1.cost
      have := h2.cost
      simp only [List.length_cons]
      omega
theorem way_sure (k : Nat) (hk : k < 4) (l : List Rat) (f : Nat) : ∃ l', (way k).run false l (f + 1) = .ok l' f := by
  have : k = 0 ∨ k = 1 ∨ k = 2 ∨ k = 3 := by omega
  rcases this with rfl | rfl | rfl | rfl <;> exact ⟨_, by rw [way, Pt.run_sp]; rfl⟩
theorem ways_sure : ∀ (ks : List Nat), (∀ k ∈ ks, k < 4) → ∀ (l : List Rat) (f : Nat), ∃ l', (waysTm ks).run false l (f + ks.length) = .ok l' f
  | [], _, l, f => ⟨l, by rw [waysTm, Tm.run_nil]; rfl⟩
  | k :: ks, h, l, f => by
    obtain ⟨l1, e1⟩ := way_sure k (h k (by simp)) l (f + ks.length)
    obtain ⟨l2, e2⟩ := ways_sure ks (fun j hj => h j (by simp [hj])) l1 f
    refine ⟨l2, ?_⟩
    rw [waysTm, Tm.run_fwd, show f + (k :: ks).length = f + ks.length + 1 by simp; omega, e1]
    exact e2
theorem powText_len1 (s : List UInt8) : (powText s 1).length = s.length + 4 := by
  unfold powText; rw [itoa_1]; simp
theorem run_plus1 (t : Tm) (L : List Rat) (F : Nat) : (Tm.cons (.pow t 1) .nil).run false L (F + 2) = t.run false L F := by
  have := run_power t 1 L (F + 1)
  rw [show ((1 : Nat) : Int) = 1 from rfl] at this
  rw [this, iter_one]
theorem k_there {ks : List Nat} {s ls : List UInt8} {L : List Rat} (hs : (waysTm ks).text = s) (hlen : s.length ≤ 115) (hks : ks.length ≤ 200) (hL : IsList ls L) {l : List UInt8} {n e : Int} (h : ApplySays noEnv (powText s 1) ls 5000 l n e) :
    (e ≠ 0 → l = [] ∧ n = 0 ∧ (e = 2 ∨ e = 3 ∨ e = 11) ∧ ¬ ∀ k ∈ ks, k < 4) ∧ (e = 0 → ∀ {back : List UInt8} {m f : Int}, ApplySays noEnv (powText s (-1)) l 5000 back m f → f = 0 ∧ back = ls ∧ m = n ∧ 2 ≤ n) := by
  have ok := ways_ok ks
  have ht : IsTerm noEnv s (waysTm ks) := ⟨ok.wf, ok.env, hs⟩
  have g1 : Good noEnv (powText s 1) (.cons (.pow (waysTm ks) 1) .nil) := ⟨by rw [powText_len1]; omega, ht.pow (by omega) (by omega)⟩
  have g2 : Good noEnv (powText s (-1)) (.cons (.pow (waysTm ks) (-1)) .nil) := ⟨by rw [powText_len]; omega, ht.pow (by omega) (by omega)⟩
  have h' : ApplySays noEnv (powText s 1) ls ((4998 + 2 : Nat) : Int) l n e := h
  generalize hT : waysTm ks = t at *
  cases hr : t.run false L 4998 with
  | err x =>
    obtain ⟨e1, e2, e3⟩ := h'.unique (apply_mk (r := []) (n := 0) (e := x) g1 hL (by omega) (by omega) (by rw [Int.toNat_natCast, run_plus1, hr]; exact ⟨rfl, rfl, rfl⟩))
    have hx := Tm.errs t false _ _ _ hr
    refine ⟨fun _ => ⟨e1, e2, ?_, fun hsure => ?_⟩, fun he => absurd (e3.symm.trans he) hx.ne⟩
    · have h10 : x ≠ 10 := by
        intro hx10
        subst hx10
        have := (Tm.within t false).2 _ _ hr
        have := ok.cost
        omega
      have h12 : x ≠ 12 := by
        intro hx12
        subst hx12
        exact Tm.no12 t false ok.calm _ _ hr
      rw [e3]
      rcases hx with h | h | h | h | h
      · exact Or.inl h
      · exact Or.inr (Or.inl h)
      · exact absurd h h10
      · exact Or.inr (Or.inr h)
      · exact absurd h h12
    · obtain ⟨l', hl'⟩ := ways_sure ks hsure L (4998 - ks.length)
      rw [hT, show 4998 - ks.length + ks.length = 4998 by omega, hr] at hl'
      cases hl'
  | ok L' f' =>
    obtain ⟨e1, e2, e3⟩ := h'.unique (apply_mk (r := listText L') (n := ((4998 + 2 : Nat) : Int) - f') (e := 0) g1 hL (by omega) (by omega) (by rw [Int.toNat_natCast, run_plus1, hr]; exact ⟨rfl, rfl, rfl⟩))
    refine ⟨fun he => absurd e3 he, fun _ => ?_⟩
    intro back m f hb
    rw [e1] at hb
    have hb' : ApplySays noEnv (powText s (-1)) (listText L') ((4998 + 2 : Nat) : Int) back m f := hb
    obtain ⟨k1, k2⟩ := Tm.redo t ok.back ok.plain ok.wf hL.small hr
    have hL' := run_list ok.wf hL hr
    obtain ⟨d1, d2, d3⟩ := hb'.unique (apply_mk (r := ls) (n := ((4998 + 2 : Nat) : Int) - f') (e := 0) g2 hL' (by omega) (by omega) (by rw [Int.toNat_natCast, run_minus t L' 4998 ok.back, k1]; exact ⟨hL.text.symm, rfl, rfl⟩))
    obtain ⟨st, hst, _⟩ := (Tm.paced t false).steps hr
    exact ⟨d3, d1, by rw [d2, e2], by omega⟩
end T
end Go.Proofs.YtikiaijgcjjloaaGreatDoor

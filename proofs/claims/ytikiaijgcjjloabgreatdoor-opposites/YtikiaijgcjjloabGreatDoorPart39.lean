import Derived.Test.YtikiaijgcjjloabGreatDoorPart36
import Derived.Test.YtikiaijgcjjloabGreatDoorPart38
import Derived.Test.YtikiaijgcjjloabGreatDoorPart9
import Derived.Deep.CutRange
import Derived.Deep.DeepCutAuto
import Derived.Test.YtikiaijgcjjloabGreatDoorPart32

/- The walks of the laws without the document's answer: terms of one part; a session that is ready. -/
namespace Go.Proofs.YtikiaijgcjjloabGreatDoor
open Go Go.RowKit M T Go.Lib

/-- A term of one part. -/
def one (x : Sp) : Tm := .cons (.sp x) .nil
theorem one_good {env : Env} {x : Sp} (hw : x.wf) (hl : x.text.length ≤ 120) : T.Good env x.text (one x) := ⟨hl, ⟨by simp only [one, Tm.wf, Pt.wf]; exact ⟨hw, trivial⟩, by simp only [one, Tm.inEnv, Pt.inEnv]; exact ⟨trivial, trivial⟩, by simp only [one, Tm.text, Pt.text, List.append_nil]⟩⟩
theorem one_run (x : Sp) (l : List Rat) : (one x).run false l 1 = lift (x.work l) 0 := by
  unfold one
  rw [Tm.run, Pt.run]
  simp only [Bool.false_eq_true, if_false]
  cases x.work l with
  | error e => rfl
  | ok ys =>
    show Tm.run .nil false ys 0 = _
    rw [Tm.run]
    rfl
theorem check_not_good {env : Env} {s : List UInt8} {t : Tm} {c : Int} (h : T.Good env s t) (hc : Check env s c) : False := by
  rcases hc with ⟨h1, _⟩ | ⟨_, h1, _⟩ | ⟨_, _, h1, _⟩
  · have := h.len; omega
  · exact h1 ⟨_, h.term.wf, h.term.text⟩
  · exact h1 ⟨_, h.term⟩
/-- What Apply answers for a term of one part and fuel for one step. -/
theorem one_apply {env : Env} {x : Sp} {s ls : List UInt8} {r : List UInt8} {n c : Int} (h : T.Good env s (one x)) (ha : ApplySays env s ls 1 r n c) : ((¬ ∃ l, IsList ls l) ∧ r = [] ∧ n = 0 ∧ c = 8) ∨ ∃ l, IsList ls l ∧ ((∃ l', x.work l = .ok l' ∧ r = listText l' ∧ n = 1 ∧ c = 0) ∨ (x.work l = .error c ∧ r = [] ∧ n = 0)) := by
  rcases ha with ⟨hc, _, _⟩ | ⟨t, ht, hh⟩
  · exact (check_not_good h hc).elim
  · rw [ht.unique h] at hh
    rcases hh with hh | ⟨l, hl, hh⟩
    · exact Or.inl hh
    · refine Or.inr ⟨l, hl, ?_⟩
      rcases hh with ⟨h1, _⟩ | ⟨_, _, hr⟩
      · omega
      · rw [show (1 : Int).toNat = 1 from rfl, one_run] at hr
        cases hw : x.work l with
        | error e =>
          rw [hw] at hr
          obtain ⟨h1, h2, h3⟩ := hr
          exact Or.inr ⟨by rw [h3], h1, h2⟩
        | ok l' =>
          rw [hw] at hr
          obtain ⟨h1, h2, h3⟩ := hr
          exact Or.inl ⟨l', rfl, h1, by rw [h2]; rfl, h3⟩

theorem t1_text : (Sp.take 1).text = [116, 49] := by
  show 116 :: decDigits 1 = _
  rw [dec_small 1 (by omega)]
  rfl
theorem r_text : Sp.r.text = [114] := rfl
theorem rat_text_small (n : Nat) (h : n < 10) : ratText (n : Rat) = [UInt8.ofNat (48 + n)] := by
  show itoa ((n : Rat).num) ++ (if (((n : Rat).den : Nat) : Int) ≤ 1 then [] else 47 :: decDigits (((n : Rat).den : Nat) : Int).toNat) = _
  rw [Rat.num_natCast, Rat.den_natCast, if_pos (by omega), List.append_nil, M.itoa_pos _ (by omega), Int.natAbs_natCast, dec_small n h]
theorem list12 : IsList [49, 44, 50] [1, 2] := by
  refine ⟨by decide, ?_, ?_⟩
  · intro x hx
    simp at hx
    rcases hx with rfl | rfl <;> decide
  · show ratText ((1 : Nat) : Rat) ++ 44 :: ratText ((2 : Nat) : Rat) = _
    rw [rat_text_small 1 (by omega), rat_text_small 2 (by omega)]
    decide
theorem text21 : listText [2, 1] = [50, 44, 49] := by
  show ratText ((2 : Nat) : Rat) ++ 44 :: ratText ((1 : Nat) : Rat) = _
  rw [rat_text_small 1 (by omega), rat_text_small 2 (by omega)]
  decide
theorem ready_facts {env : Env} {n c : Int} (h : FactsSays env [116, 49] n c) : n = 6 ∧ c = 0 := by
  have hg : T.Good env [116, 49] (one (.take 1)) := t1_text ▸ one_good (env := env) (x := .take 1) (by simp [Sp.wf]) (by rw [t1_text]; decide)
  exact h.unique (Or.inr ⟨_, hg, by simp [factsNum, one, Tm.back, Pt.back, Sp.opp, Tm.picker, Pt.picker, Sp.picker, Tm.plain, Pt.plain, Sp.plain], rfl⟩)
theorem ready_apply {env : Env} {r : List UInt8} {n c : Int} (h : ApplySays env [114] [49, 44, 50] 1 r n c) : r = [50, 44, 49] ∧ n = 1 ∧ c = 0 := by
  have hg : T.Good env [114] (one .r) := one_good (env := env) (x := .r) (by simp [Sp.wf]) (by decide)
  rcases one_apply hg h with ⟨h1, _⟩ | ⟨l, hl, hh⟩
  · exact (h1 ⟨_, list12⟩).elim
  · obtain rfl : l = [1, 2] := hl.unique list12
    rcases hh with ⟨l', h1, h2, h3, h4⟩ | ⟨h1, _⟩
    · cases h1
      exact ⟨h2.trans text21, h3, h4⟩
    · cases h1

/-- What ready answers. -/
def ReadyGot (w : World) (e : Ending) (w' : World) : Prop := ∃ xb, e = .returned (.pointer (some ⟨xb, 0, none⟩)) ∧ SesIs w' xb (fun _ => none) T.noEnv ∧ Below w.heap.size w w'
set_option maxRecDepth 100000 in
set_option maxHeartbeats 800000 in
theorem ready_new (w : World) (ht : Tab w) : Calls Tryz.prog 8 #[] w fun e w' => e = .returned (.pointer (some ⟨w.heap.size, 0, none⟩)) ∧ SesIs w' w.heap.size (fun _ => none) T.noEnv ∧ Below w.heap.size w w' := by
  have HT := hide ht
  clear ht
  go_enter Tryz.func8, Tryz.ntmps8
  go_wp2_with fail
  refine (new_any _).mono ?_
  rintro e w1 ⟨rfl, hw1⟩
  have hb1 : Below w.heap.size w w1 := by rw [hw1]; exact (Below.refl _ _).alloc (Nat.le_refl _) _
  have HS1 := hide (show SesIs w1 w.heap.size (fun _ => none) T.noEnv by rw [hw1]; exact new_SesIs w)
  have HB1 := hide hb1
  clear hw1 hb1
  go_wp2_with fail
  refine (facts_any _ _ (unhide HS1)).mono ?_
  rintro e w2 ⟨n, c, rfl, hf, hb2⟩
  obtain ⟨rfl, rfl⟩ := ready_facts (env := T.noEnv) hf
  have HS2 := hide ((unhide HS1).below hb2)
  have HB2 := hide ((unhide HB1).trans (hb2.mono (unhide HB1).size))
  clear hf hb2
  go_wp2_with fail
  refine (apply_any _ _ 1 _ (unhide HS2) (tab_below (unhide HT) (unhide HB2)) (by decide)).mono ?_
  rintro e w3 ⟨r, n, c, rfl, ha, hb3⟩
  obtain ⟨rfl, rfl, rfl⟩ := ready_apply (env := T.noEnv) ha
  have HS3 := hide ((unhide HS2).below hb3)
  have HB3 := hide ((unhide HB2).trans (hb3.mono (unhide HB2).size))
  clear ha hb3
  go_wp2_with fail
  go_ret
  exact ⟨rfl, unhide HS3, unhide HB3⟩
theorem ready_any (w : World) (ht : Tab w) : Calls Tryz.prog 8 #[] w fun e w' => ReadyGot w e w' := (ready_new w ht).mono fun _ _ h => ⟨_, h.1, h.2.1, h.2.2⟩
end Go.Proofs.YtikiaijgcjjloabGreatDoor

/- The walks of the laws without the document's answer: whole numbers as a list. -/
namespace Go.Proofs.YtikiaijgcjjloabGreatDoor
open Go Go.RowKit M T Go.Lib

theorem ratText_int (z : Int) : ratText ((z : Int) : Rat) = itoa z := by
  show itoa (((z : Int) : Rat).num) ++ (if ((((z : Int) : Rat).den : Nat) : Int) ≤ 1 then [] else 47 :: decDigits ((((z : Int) : Rat).den : Nat) : Int).toNat) = _
  rw [Rat.num_intCast, Rat.den_intCast, if_pos (by omega), List.append_nil]
theorem small_int {z : Int} (h1 : -1000 ≤ z) (h2 : z ≤ 1000) : small ((z : Int) : Rat) = true := by
  unfold small
  rw [decide_eq_true_iff, Rat.num_intCast, Rat.den_intCast]
  omega
/-- The list that listed writes. -/
structure LsdIs (n : Nat) (L : List Rat) : Prop where
  len : L.length = n
  few : n ≤ 12
  small : AllS L
theorem LsdIs.list {n : Nat} {L : List Rat} (h : LsdIs n L) : IsList (listText L) L := ⟨by have := h.few; rw [h.len]; exact this, h.small, rfl⟩
/-- What listed answers. -/
def LsdGot (w : World) (e : Ending) (w' : World) : Prop := ∃ L, IsList (listText L) L ∧ e = .returned (.string ⟨(listText L).toArray⟩) ∧ Below w.heap.size w w'
theorem listText_add (L : List Rat) (x : Rat) (h : L ≠ []) : (⟨(listText L).toArray⟩ ++ ⟨#[44]⟩ ++ ⟨(ratText x).toArray⟩ : ByteArray) = ⟨(listText (L ++ [x])).toArray⟩ := by
  rw [listText_snoc, if_neg h]
  apply ByteArray.ext
  simp
theorem listText_first (x : Rat) : ((⟨#[]⟩ : ByteArray) ++ ⟨(ratText x).toArray⟩ : ByteArray) = ⟨(listText [x]).toArray⟩ := by
  apply ByteArray.ext
  simp [listText]

set_option maxRecDepth 100000 in
set_option maxHeartbeats 1600000 in
theorem listed_any {w : World} {ra : Option Addr} {rn rc : Nat} {raw : Nat → Int} (hr : RawIs w ra rn raw) (_hn : rn ≤ 140737488355328) (ht : Tab w) :
    Calls Tryz.prog 11 #[.slice ra rn rc] w fun e w' => LsdGot w e w' := by
  have HR := hide hr
  have HT := hide ht
  clear hr ht
  go_enter Tryz.func11, Tryz.ntmps11
  go_wp2_with fail
  go_loopg [3, 4] 12 (fun kk v3 v4 wr => ∃ (i : Nat) (L : List Rat), kk = 12 - i ∧ i ≤ 12 ∧ i ≤ rn ∧ v4 = .int .i64 (i : Int) ∧ v3 = .string ⟨(listText L).toArray⟩ ∧ LsdIs i L ∧ Below w.heap.size w wr)
  case atStart => exact ⟨0, [], rfl, Nat.zero_le _, Nat.zero_le _, rfl, rfl, ⟨rfl, by omega, fun _ h => by (cases h)⟩, Below.refl _ _⟩
  case round =>
    obtain ⟨i, L, hk, hi, hin, rfl, rfl, hL, hbl⟩ := hrel
    have HK := hide hk
    have HL := hide hL
    have HB := hide hbl
    have hll : (listText L).length ≤ 300 := by
      have h1 := listText_len hL.small
      have h2 := hL.len
      have h3 := hL.few
      omega
    clear hk
    by_cases hlt : i < rn
    · have hlt' : (i : Int) < (rn : Int) := by omega
      by_cases hl12 : i < 12
      · have hl12' : (i : Int) < 12 := by omega
        obtain ⟨a, rfl, hab, hcell, hr1, hr2⟩ := ((unhide HR).below hbl).at' i hlt
        have hq := (kpick_val (raw i) (n := 2001) (by omega)).2.2
        have HLen := hide hL.len
        clear hL hbl
        by_cases hz0 : i = 0
        · obtain rfl : L = [] := List.eq_nil_of_length_eq_zero (by rw [unhide HLen]; exact hz0)
          have hz0' : ¬ (0 : Int) < (i : Int) := by omega
          have HZ0 := hide hz0
          clear hz0
          go_wp2_with fail
          refine (kpick_any (raw i) 2001 _ hr1 hr2 (by omega) (by omega)).mono ?_
          rintro e w1 ⟨rfl, rfl⟩
          generalize kpickN (raw i) 2001 = q at hq
          obtain ⟨z, hz⟩ : ∃ z : Int, (q : Int) - 1000 = z := ⟨_, rfl⟩
          have hz1 : -1000 ≤ z := by omega
          have hz2 : z ≤ 1000 := by omega
          have hq1 : (q : Int) ≤ 2000 := by omega
          go_wp2_with fail
          refine (itoa_any z _ (by omega) (by omega) (tab_below (unhide HT) (unhide HB))).mono ?_
          rintro e w2 ⟨rfl, hb2⟩
          have HB2 := hide ((unhide HB).trans (hb2.mono (unhide HB).size))
          have HS := hide (small_int hz1 hz2)
          have HTx := hide (listText_first ((z : Int) : Rat))
          rw [← ratText_int]
          clear hb2
          generalize ((z : Int) : Rat) = x at HS HTx ⊢
          have hxl : (ratText x).length ≤ 23 := item_len (unhide HS)
          go_wp2_with fail
          go_roundg (12 - (i + 1))
          case measure => rw [unhide HK]; omega
          case rel => exact ⟨i + 1, [x], rfl, by omega, by omega, rfl, by first | (rw [← unhide HTx]; rfl) | simp [listText], ⟨by rw [unhide HZ0]; rfl, by omega, fun y hy => by rw [List.mem_singleton.1 hy]; exact unhide HS⟩, unhide HB2⟩
        · have hne : L ≠ [] := fun e => by have := unhide HLen; rw [e] at this; simp at this; omega
          have hz0' : (0 : Int) < (i : Int) := by omega
          go_wp2_with fail
          refine (kpick_any (raw i) 2001 _ hr1 hr2 (by omega) (by omega)).mono ?_
          rintro e w1 ⟨rfl, rfl⟩
          generalize kpickN (raw i) 2001 = q at hq
          obtain ⟨z, hz⟩ : ∃ z : Int, (q : Int) - 1000 = z := ⟨_, rfl⟩
          have hz1 : -1000 ≤ z := by omega
          have hz2 : z ≤ 1000 := by omega
          have hq1 : (q : Int) ≤ 2000 := by omega
          go_wp2_with fail
          refine (itoa_any z _ (by omega) (by omega) (tab_below (unhide HT) (unhide HB))).mono ?_
          rintro e w2 ⟨rfl, hb2⟩
          have HB2 := hide ((unhide HB).trans (hb2.mono (unhide HB).size))
          have HS := hide (small_int hz1 hz2)
          have HTx := hide (listText_add L ((z : Int) : Rat) hne)
          rw [← ratText_int]
          clear hb2
          generalize ((z : Int) : Rat) = x at HS HTx ⊢
          have hxl : (ratText x).length ≤ 23 := item_len (unhide HS)
          go_wp2_with fail
          go_roundg (12 - (i + 1))
          case measure => rw [unhide HK]; omega
          case rel => exact ⟨i + 1, L ++ [x], rfl, by omega, by omega, rfl, by first | (rw [← unhide HTx]) | rfl, ⟨by rw [List.length_append, unhide HLen]; rfl, by omega, allS_one (unhide HL).small (unhide HS)⟩, unhide HB2⟩
      · have hl12' : ¬ (i : Int) < 12 := by omega
        have hlist := hL.list
        have HLs := hide hlist
        clear hL hbl hlist
        go_wp2_with fail
        go_ret
        exact ⟨L, unhide HLs, rfl, unhide HB⟩
    · have hlt' : ¬ (i : Int) < (rn : Int) := by omega
      have hlist := hL.list
      have HLs := hide hlist
      clear hL hbl hlist
      go_wp2_with fail
      go_ret
      exact ⟨L, unhide HLs, rfl, unhide HB⟩
end Go.Proofs.YtikiaijgcjjloabGreatDoor

/- The walks of the laws without the document's answer: texts put together. -/
namespace Go.Proofs.YtikiaijgcjjloabGreatDoor
open Go Go.RowKit M T Go.Lib

theorem cat_list (a b : ByteArray) : (a ++ b).data.toList = a.data.toList ++ b.data.toList := by simp
theorem bytes_of {a : ByteArray} {l : List UInt8} (h : a.data.toList = l) : a = ⟨l.toArray⟩ := by subst h; simp
theorem bytes_back (a : ByteArray) : (⟨a.data.toList.toArray⟩ : ByteArray) = a := by simp
theorem pow_text (s it : ByteArray) (k : Int) (h : it.data.toList = itoa k) : ((⟨#[40]⟩ : ByteArray) ++ s ++ ⟨#[41, 94]⟩ ++ it).data.toList = powText s.data.toList k := by
  simp only [cat_list, h]
  simp [powText]
theorem minus_text (s : ByteArray) : ((⟨#[40]⟩ : ByteArray) ++ s ++ ⟨#[41, 94, 45, 49]⟩).data.toList = powText s.data.toList (-1) := by
  simp only [cat_list, powText, itoa_m1]
  simp
theorem plus_text (s : ByteArray) : ((⟨#[40]⟩ : ByteArray) ++ s ++ ⟨#[41, 94, 49]⟩).data.toList = powText s.data.toList 1 := by
  simp only [cat_list, powText, itoa_1]
  simp
theorem bytes_size (l : List UInt8) : (⟨l.toArray⟩ : ByteArray).size = l.length := by
  show l.toArray.size = _
  simp
theorem apply_len {env : Env} {s ls : List UInt8} {fuel : Int} {r : List UInt8} {n e : Int} (h : ApplySays env s ls fuel r n e) : r.length ≤ 300 := by
  by_cases he : e = 0
  · obtain ⟨t, l, l', f', hg, hl, _, _, hr, rfl, _⟩ := h.ok he
    have hl' := run_list hg.term.wf hl hr
    have h1 := listText_len hl'.small
    have h2 := hl'.len
    omega
  · rw [(h.err he).1]; simp
theorem apply_n {env : Env} {s ls : List UInt8} {fuel : Int} {r : List UInt8} {n e : Int} (h : ApplySays env s ls fuel r n e) : 0 ≤ n ∧ n ≤ 5000 := by
  by_cases he : e = 0
  · obtain ⟨t, l, l', f', hg, hl, h1, h2, hr, _, rfl⟩ := h.ok he
    obtain ⟨m, hm, _⟩ := Tm.paced t false _ _ _ _ hr
    omega
  · rw [(h.err he).2]; omega
theorem empty_yes {s : ByteArray} (h : s.data.toList = []) : s.toList.isEmpty = true := by rw [ByteArray.toList_eq, h]; rfl
theorem empty_no {s : ByteArray} (h : s.data.toList ≠ []) : s.toList.isEmpty = false := by
  rw [ByteArray.toList_eq]
  cases h1 : s.data.toList with
  | nil => exact absurd h1 h
  | cons c l => rfl
theorem list_len {ls : List UInt8} {L : List Rat} (h : IsList ls L) : ls.length ≤ 300 := by
  have h1 := listText_len h.small
  have h2 := h.len
  rw [h.text] at h1
  omega
theorem facts_len {env : Env} {s : List UInt8} {n : Int} (h : FactsSays env s n 0) : s.length ≤ 120 := by
  obtain ⟨t, hg, _⟩ := h.good
  exact hg.len
theorem size_list (a : ByteArray) : a.size = a.data.toList.length := by simp
end Go.Proofs.YtikiaijgcjjloabGreatDoor

/- Texts between commas. No program in this text. -/
namespace Go.Proofs.YtikiaijgcjjloabGreatDoor
namespace T
open Go.Lib M

/-- The texts between commas. -/
def pieces : List UInt8 → List (List UInt8)
  | [] => [[]]
  | c :: s => if c = 44 then [] :: pieces s else match pieces s with
    | [] => [[c]]
    | p :: ps => (c :: p) :: ps
theorem pieces_ne : ∀ s, pieces s ≠ []
  | [] => by simp [pieces]
  | c :: s => by
    rw [pieces]
    split
    · simp
    · cases h : pieces s with
      | nil => simp
      | cons p ps => simp
/-- A beginning of the first text. -/
def attach (a : List UInt8) : List (List UInt8) → List (List UInt8)
  | [] => [a]
  | p :: ps => (a ++ p) :: ps
theorem attach_nil {l : List (List UInt8)} (h : l ≠ []) : attach [] l = l := by
  cases l with
  | nil => exact absurd rfl h
  | cons p ps => rfl
theorem pieces_comma (s : List UInt8) : pieces (44 :: s) = [] :: pieces s := by rw [pieces, if_pos rfl]
theorem pieces_other {c : UInt8} (h : c ≠ 44) (s : List UInt8) : pieces (c :: s) = attach [c] (pieces s) := by
  rw [pieces, if_neg h]
  cases hp : pieces s with
  | nil => rfl
  | cons p ps => rfl
theorem attach_attach (a b : List UInt8) (l : List (List UInt8)) (h : l ≠ []) : attach a (attach b l) = attach (a ++ b) l := by
  cases l with
  | nil => exact absurd rfl h
  | cons p ps => simp [attach]
theorem pieces_app {a : List UInt8} (ha : ∀ c ∈ a, c ≠ 44) (s : List UInt8) : pieces (a ++ s) = attach a (pieces s) := by
  induction a with
  | nil => rw [List.nil_append, attach_nil (pieces_ne s)]
  | cons c a ih =>
    rw [List.cons_append, pieces_other (ha c (by simp)), ih (fun d hd => ha d (List.mem_cons_of_mem _ hd)), attach_attach _ _ _ (pieces_ne s)]
    rfl
/-- A list's texts are its items'. -/
theorem pieces_list : ∀ {l : List Rat}, l ≠ [] → pieces (listText l) = l.map ratText
  | [], h => absurd rfl h
  | [x], _ => by
    have := pieces_app (ratText_44 x) []
    rw [List.append_nil] at this
    rw [listText_one, this]
    simp [pieces, attach]
  | x :: y :: l, _ => by
    rw [listText_cons2, pieces_app (ratText_44 x), pieces_comma, pieces_list (l := y :: l) (by simp)]
    simp [attach]
/-- Texts with a comma between each two. -/
def joinT : List (List UInt8) → List UInt8
  | [] => []
  | [p] => p
  | p :: q :: ps => p ++ 44 :: joinT (q :: ps)
theorem joinT_attach (a : List UInt8) {l : List (List UInt8)} (h : l ≠ []) : joinT (attach a l) = a ++ joinT l := by
  cases l with
  | nil => exact absurd rfl h
  | cons p ps =>
    cases ps with
    | nil => rfl
    | cons q ps => simp [attach, joinT]
theorem joinT_pieces : ∀ s, joinT (pieces s) = s
  | [] => rfl
  | c :: s => by
    by_cases h : c = 44
    · subst h
      rw [pieces_comma]
      cases hp : pieces s with
      | nil => exact absurd hp (pieces_ne s)
      | cons p ps =>
        show [] ++ 44 :: joinT (p :: ps) = _
        rw [← hp, joinT_pieces s]
        rfl
    · rw [pieces_other h, joinT_attach _ (pieces_ne s), joinT_pieces s]
      rfl
theorem joinT_list (l : List Rat) : joinT (l.map ratText) = listText l := by
  induction l with
  | nil => rfl
  | cons x l ih =>
    cases l with
    | nil => rfl
    | cons y l =>
      rw [listText_cons2, ← ih]
      rfl
theorem joinT_snoc : ∀ (l : List (List UInt8)) (p : List UInt8), joinT (l ++ [p]) = (if l = [] then [] else joinT l ++ [44]) ++ p
  | [], p => rfl
  | [q], p => by
    rw [if_neg (by simp)]
    show q ++ 44 :: p = q ++ [44] ++ p
    simp
  | q :: q2 :: l, p => by
    have ih := joinT_snoc (q2 :: l) p
    rw [if_neg (by simp)] at ih
    rw [if_neg (by simp)]
    show q ++ 44 :: joinT (q2 :: (l ++ [p])) = q ++ 44 :: joinT (q2 :: l) ++ [44] ++ p
    rw [show q2 :: (l ++ [p]) = q2 :: l ++ [p] from rfl, ih]
    simp
/-- Texts that are all numbers are a list. -/
theorem list_of_pieces {s : List UInt8} (hl : (pieces s).length ≤ 12) (hn : ∀ p ∈ pieces s, ∃ t b, IsNum p t b) : ∃ l, IsList s l ∧ pieces s = l.map ratText := by
  have key : ∀ (ps : List (List UInt8)), (∀ p ∈ ps, ∃ t b, IsNum p t b) → ∃ l : List Rat, AllS l ∧ ps = l.map ratText := by
    intro ps
    induction ps with
    | nil => intro _; exact ⟨[], fun _ h => by (cases h), rfl⟩
    | cons p ps ih =>
      intro h
      obtain ⟨t, b, hp⟩ := h p (by simp)
      obtain ⟨x, hx, hpx, _, _⟩ := isNum_rat hp
      obtain ⟨l, hl, e⟩ := ih (fun q hq => h q (List.mem_cons_of_mem _ hq))
      exact ⟨x :: l, fun y hy => by rcases List.mem_cons.1 hy with rfl | hy; exact hx; exact hl y hy, by rw [hpx, e]; rfl⟩
  obtain ⟨l, hal, e⟩ := key (pieces s) hn
  refine ⟨l, ⟨by rw [e, List.length_map] at hl; exact hl, hal, ?_⟩, e⟩
  rw [← joinT_list, ← e, joinT_pieces]
end T
end Go.Proofs.YtikiaijgcjjloabGreatDoor

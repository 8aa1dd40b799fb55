import Derived.Test.YtikiaijgcjjloaaDoorPart36
import Derived.Test.YtikiaijgcjjloaaDoorPart38
import Derived.Deep.CutRange
import Derived.Deep.DeepCutAuto
import Derived.Test.YtikiaijgcjjloaaDoorRows
import Derived.Test.YtikiaijgcjjloaaDoorPart10
import Derived.ProofKit
import Derived.LaidMore
import Derived.OpenShut
import Derived.ShutString
import Derived.Stop.Joined
import Derived.Lib.LaidTab

/- The walks of the laws without the document's answer: terms of one part; a session that is ready. -/
namespace Go.Proofs.YtikiaijgcjjloaaDoor
open Go Go.RowKit M T Go.Lib

/-- A term of one part. -/
def one (x : Sp) : Tm := .cons (.sp x) .nil
theorem one_good {env : Env} {x : Sp} (hw : x.wf) (hl : x.text.length ≤ 120) : T.Good env x.text (one x) := ⟨hl, ⟨by simp only [one, Tm.wf, Pt.wf]; exact ⟨hw, trivial⟩, by simp only [one, Tm.inEnv, Pt.inEnv]; exact ⟨trivial, trivial⟩, by simp only [one, Tm.text, Pt.text, List.append_nil]⟩⟩
theorem one_run (x : Sp) (l : List Rat) : (one x).run false l 1 = lift (x.work l) 0 := by
  unfold one
  rw [Tm.run, Pt.run]
  simp only [Bool.false_eq_true, if_false]
  cases x.work l with
  | error e => rfl
  | ok ys =>
    show Tm.run .nil false ys 0 = _
    rw [Tm.run]
    rfl
theorem check_not_good {env : Env} {s : List UInt8} {t : Tm} {c : Int} (h : T.Good env s t) (hc : Check env s c) : False := by
  rcases hc with ⟨h1, _⟩ | ⟨_, h1, _⟩ | ⟨_, _, h1, _⟩
  · have := h.len; omega
  · exact h1 ⟨_, h.term.wf, h.term.text⟩
  · exact h1 ⟨_, h.term⟩
/-- What Apply answers for a term of one part and fuel for one step. -/
theorem one_apply {env : Env} {x : Sp} {s ls : List UInt8} {r : List UInt8} {n c : Int} (h : T.Good env s (one x)) (ha : ApplySays env s ls 1 r n c) : ((¬ ∃ l, IsList ls l) ∧ r = [] ∧ n = 0 ∧ c = 8) ∨ ∃ l, IsList ls l ∧ ((∃ l', x.work l = .ok l' ∧ r = listText l' ∧ n = 1 ∧ c = 0) ∨ (x.work l = .error c ∧ r = [] ∧ n = 0)) := by
  rcases ha with ⟨hc, _, _⟩ | ⟨t, ht, hh⟩
  · exact (check_not_good h hc).elim
  · rw [ht.unique h] at hh
    rcases hh with hh | ⟨l, hl, hh⟩
    · exact Or.inl hh
    · refine Or.inr ⟨l, hl, ?_⟩
      rcases hh with ⟨h1, _⟩ | ⟨_, _, hr⟩
      · omega
      · rw [show (1 : Int).toNat = 1 from rfl, one_run] at hr
        cases hw : x.work l with
        | error e =>
          rw [hw] at hr
          obtain ⟨h1, h2, h3⟩ := hr
          exact Or.inr ⟨by rw [h3], h1, h2⟩
        | ok l' =>
          rw [hw] at hr
          obtain ⟨h1, h2, h3⟩ := hr
          exact Or.inl ⟨l', rfl, h1, by rw [h2]; rfl, h3⟩

theorem t1_text : (Sp.take 1).text = [116, 49] := by
  show 116 :: decDigits 1 = _
  rw [dec_small 1 (by omega)]
  rfl
theorem r_text : Sp.r.text = [114] := rfl
theorem rat_text_small (n : Nat) (h : n < 10) : ratText (n : Rat) = [UInt8.ofNat (48 + n)] := by
  show itoa ((n : Rat).num) ++ (if (((n : Rat).den : Nat) : Int) ≤ 1 then [] else 47 :: decDigits (((n : Rat).den : Nat) : Int).toNat) = _
  rw [Rat.num_natCast, Rat.den_natCast, if_pos (by omega), List.append_nil, M.itoa_pos _ (by omega), Int.natAbs_natCast, dec_small n h]
theorem list12 : IsList [49, 44, 50] [1, 2] := by
  refine ⟨by decide, ?_, ?_⟩
  · intro x hx
    simp at hx
    rcases hx with rfl | rfl <;> decide
  · show ratText ((1 : Nat) : Rat) ++ 44 :: ratText ((2 : Nat) : Rat) = _
    rw [rat_text_small 1 (by omega), rat_text_small 2 (by omega)]
    decide
theorem text21 : listText [2, 1] = [50, 44, 49] := by
  show ratText ((2 : Nat) : Rat) ++ 44 :: ratText ((1 : Nat) : Rat) = _
  rw [rat_text_small 1 (by omega), rat_text_small 2 (by omega)]
  decide
theorem ready_facts {env : Env} {n c : Int} (h : FactsSays env [116, 49] n c) : n = 6 ∧ c = 0 := by
  have hg : T.Good env [116, 49] (one (.take 1)) := t1_text ▸ one_good (env := env) (x := .take 1) (by simp [Sp.wf]) (by rw [t1_text]; decide)
  exact h.unique (Or.inr ⟨_, hg, by simp [factsNum, one, Tm.back, Pt.back, Sp.opp, Tm.picker, Pt.picker, Sp.picker, Tm.plain, Pt.plain, Sp.plain], rfl⟩)
theorem ready_apply {env : Env} {r : List UInt8} {n c : Int} (h : ApplySays env [114] [49, 44, 50] 1 r n c) : r = [50, 44, 49] ∧ n = 1 ∧ c = 0 := by
  have hg : T.Good env [114] (one .r) := one_good (env := env) (x := .r) (by simp [Sp.wf]) (by decide)
  rcases one_apply hg h with ⟨h1, _⟩ | ⟨l, hl, hh⟩
  · exact (h1 ⟨_, list12⟩).elim
  · obtain rfl : l = [1, 2] := hl.unique list12
    rcases hh with ⟨l', h1, h2, h3, h4⟩ | ⟨h1, _⟩
    · cases h1
      exact ⟨h2.trans text21, h3, h4⟩
    · cases h1

/-- What ready answers. -/
def ReadyGot (w : World) (e : Ending) (w' : World) : Prop := ∃ xb, e = .returned (.pointer (some ⟨xb, 0, none⟩)) ∧ SesIs w' xb (fun _ => none) T.noEnv ∧ Below w.heap.size w w'
set_option maxRecDepth 100000 in
set_option maxHeartbeats 800000 in
theorem ready_new (w : World) (ht : Tab w) : Calls Tryd.prog 22 #[] w fun e w' => e = .returned (.pointer (some ⟨w.heap.size, 0, none⟩)) ∧ SesIs w' w.heap.size (fun _ => none) T.noEnv ∧ Below w.heap.size w w' := by
  have HT := hide ht
  clear ht
  go_enter Tryd.func22, Tryd.ntmps22
  go_wp2_with fail
  refine (new_any _).mono ?_
  rintro e w1 ⟨rfl, hw1⟩
  have hb1 : Below w.heap.size w w1 := by rw [hw1]; exact (Below.refl _ _).alloc (Nat.le_refl _) _
  have HS1 := hide (show SesIs w1 w.heap.size (fun _ => none) T.noEnv by rw [hw1]; exact new_SesIs w)
  have HB1 := hide hb1
  clear hw1 hb1
  go_wp2_with fail
  refine (facts_any _ _ (unhide HS1)).mono ?_
  rintro e w2 ⟨n, c, rfl, hf, hb2⟩
  obtain ⟨rfl, rfl⟩ := ready_facts (env := T.noEnv) hf
  have HS2 := hide ((unhide HS1).below hb2)
  have HB2 := hide ((unhide HB1).trans (hb2.mono (unhide HB1).size))
  clear hf hb2
  go_wp2_with fail
  refine (apply_any _ _ 1 _ (unhide HS2) (tab_below (unhide HT) (unhide HB2)) (by decide)).mono ?_
  rintro e w3 ⟨r, n, c, rfl, ha, hb3⟩
  obtain ⟨rfl, rfl, rfl⟩ := ready_apply (env := T.noEnv) ha
  have HS3 := hide ((unhide HS2).below hb3)
  have HB3 := hide ((unhide HB2).trans (hb3.mono (unhide HB2).size))
  clear ha hb3
  go_wp2_with fail
  go_ret
  exact ⟨rfl, unhide HS3, unhide HB3⟩
theorem ready_any (w : World) (ht : Tab w) : Calls Tryd.prog 22 #[] w fun e w' => ReadyGot w e w' := (ready_new w ht).mono fun _ _ h => ⟨_, h.1, h.2.1, h.2.2⟩
end Go.Proofs.YtikiaijgcjjloaaDoor

/- The walks of the laws without the document's answer: texts put together. -/
namespace Go.Proofs.YtikiaijgcjjloaaDoor
open Go Go.RowKit M T Go.Lib

theorem cat_list (a b : ByteArray) : (a ++ b).data.toList = a.data.toList ++ b.data.toList := by simp
theorem bytes_of {a : ByteArray} {l : List UInt8} (h : a.data.toList = l) : a = ⟨l.toArray⟩ := by subst h; simp
theorem bytes_back (a : ByteArray) : (⟨a.data.toList.toArray⟩ : ByteArray) = a := by simp
theorem pow_text (s it : ByteArray) (k : Int) (h : it.data.toList = itoa k) : ((⟨#[40]⟩ : ByteArray) ++ s ++ ⟨#[41, 94]⟩ ++ it).data.toList = powText s.data.toList k := by
  simp only [cat_list, h]
  simp [powText]
theorem minus_text (s : ByteArray) : ((⟨#[40]⟩ : ByteArray) ++ s ++ ⟨#[41, 94, 45, 49]⟩).data.toList = powText s.data.toList (-1) := by
  simp only [cat_list, powText, itoa_m1]
  simp
theorem plus_text (s : ByteArray) : ((⟨#[40]⟩ : ByteArray) ++ s ++ ⟨#[41, 94, 49]⟩).data.toList = powText s.data.toList 1 := by
  simp only [cat_list, powText, itoa_1]
  simp
theorem bytes_size (l : List UInt8) : (⟨l.toArray⟩ : ByteArray).size = l.length := by
  show l.toArray.size = _
  simp
theorem apply_len {env : Env} {s ls : List UInt8} {fuel : Int} {r : List UInt8} {n e : Int} (h : ApplySays env s ls fuel r n e) : r.length ≤ 300 := by
  by_cases he : e = 0
  · obtain ⟨t, l, l', f', hg, hl, _, _, hr, rfl, _⟩ := h.ok he
    have hl' := run_list hg.term.wf hl hr
    have h1 := listText_len hl'.small
    have h2 := hl'.len
    omega
  · rw [(h.err he).1]; simp
theorem apply_n {env : Env} {s ls : List UInt8} {fuel : Int} {r : List UInt8} {n e : Int} (h : ApplySays env s ls fuel r n e) : 0 ≤ n ∧ n ≤ 5000 := by
  by_cases he : e = 0
  · obtain ⟨t, l, l', f', hg, hl, h1, h2, hr, _, rfl⟩ := h.ok he
    obtain ⟨m, hm, _⟩ := Tm.paced t false _ _ _ _ hr
    omega
  · rw [(h.err he).2]; omega
theorem empty_yes {s : ByteArray} (h : s.data.toList = []) : s.toList.isEmpty = true := by rw [ByteArray.toList_eq, h]; rfl
theorem empty_no {s : ByteArray} (h : s.data.toList ≠ []) : s.toList.isEmpty = false := by
  rw [ByteArray.toList_eq]
  cases h1 : s.data.toList with
  | nil => exact absurd h1 h
  | cons c l => rfl
theorem list_len {ls : List UInt8} {L : List Rat} (h : IsList ls L) : ls.length ≤ 300 := by
  have h1 := listText_len h.small
  have h2 := h.len
  rw [h.text] at h1
  omega
theorem facts_len {env : Env} {s : List UInt8} {n : Int} (h : FactsSays env s n 0) : s.length ≤ 120 := by
  obtain ⟨t, hg, _⟩ := h.good
  exact hg.len
theorem size_list (a : ByteArray) : a.size = a.data.toList.length := by simp
end Go.Proofs.YtikiaijgcjjloaaDoor

/- The walk of unwindkeep.Undo. -/
namespace Go.Proofs.YtikiaijgcjjloaaDoor
open Go Go.RowKit M T Go.Lib

set_option maxRecDepth 100000 in
set_option maxHeartbeats 1600000 in
theorem undo_walk {w : World} (s ls : ByteArray) (fuel : Int) (hls : ls.size ≤ 9223372036854775807) (ht : Tab w) :
    Calls Tryd.prog 8 #[.string s, .string ls, .int .i64 fuel] w fun e w' => e = .returned (.bool true) ∧ Below w.heap.size w w' := by
  have HT := hide ht
  clear ht
  go_enter Tryd.func8, Tryd.ntmps8
  go_wp2_with fail
  refine (ready_any _ (unhide HT)).mono ?_
  rintro e w1 ⟨xb, rfl, hses, hb1⟩
  have HS := hide hses
  have HB1 := hide hb1
  clear hses hb1
  go_wp2_with fail
  refine (facts_any s _ (unhide HS)).mono ?_
  rintro e w2 ⟨n0, c0, rfl, hf, hb2⟩
  have HS2 := hide ((unhide HS).below hb2)
  have HB2 := hide ((unhide HB1).trans (hb2.mono (unhide HB1).size))
  clear hb2
  by_cases hc : c0 = 0
  · subst hc
    have hsl : s.size ≤ 120 := by rw [size_list]; exact facts_len hf
    have HF := hide hf
    have HM := hide (minus_text s)
    have HPl := hide (plus_text s)
    clear hf
    go_wp2_with fail
    refine (apply_any _ ls fuel _ (unhide HS2) (tab_below (unhide HT) (unhide HB2)) hls).mono ?_
    rintro e w3 ⟨r, n, f, rfl, ha, hb3⟩
    rw [unhide HM] at ha
    have hrl := apply_len ha
    have HA := hide ha
    have HS3 := hide ((unhide HS2).below hb3)
    have HB3 := hide ((unhide HB2).trans (hb3.mono (unhide HB2).size))
    clear ha hb3
    by_cases hfe : f = 0
    · subst hfe
      have hrs : (⟨r.toArray⟩ : ByteArray).size ≤ 9223372036854775807 := by rw [bytes_size]; omega
      go_wp2_with fail
      refine (apply_any _ ⟨r.toArray⟩ fuel _ (unhide HS3) (tab_below (unhide HT) (unhide HB3)) hrs).mono ?_
      rintro e w4 ⟨r2, m, g, rfl, ha2, hb4⟩
      rw [unhide HPl] at ha2
      obtain ⟨rfl, rfl, rfl, hn2⟩ := k_undo (unhide HF) (unhide HA) rfl ha2
      have HB4 := hide ((unhide HB3).trans (hb4.mono (unhide HB3).size))
      clear ha2 hb4
      rw [bytes_back]
      go_wp2_with fail
      go_ret
      exact ⟨rfl, unhide HB4⟩
    · obtain ⟨rfl, rfl⟩ := (unhide HA).err hfe
      have hfe' : (f != 0) = true := by rw [bne_iff_ne]; exact hfe
      go_wp2_with fail
      go_ret
      exact ⟨rfl, unhide HB3⟩
  · have hc' : (c0 != 0) = true := by rw [bne_iff_ne]; exact hc
    clear hf
    go_wp2_with fail
    go_ret
    exact ⟨rfl, unhide HB2⟩
end Go.Proofs.YtikiaijgcjjloaaDoor

/- What the rows' listed tables give the walks; the witness' start. -/
namespace Go.Proofs.YtikiaijgcjjloaaDoor
open Go Go.ChangeShapes Go.WideShapes Go.ChangeAt Go.WideMaps Go.WideElems Go.RowKit

theorem own : ownKnob Tryd.prog.godebug = none := by kernel_rfl
def laid3 : List (String × DataW Unit) := [("math/bits.deBruijn32tab", Rows.laid_math_bits_deBruijn32tab), ("math/bits.deBruijn64tab", Rows.laid_math_bits_deBruijn64tab), ("internal/strconv.uint64pow10", Rows.laid_internal_strconv_uint64pow10)]
theorem gPow : Tryd.prog.globalNamed "internal/strconv.uint64pow10" = some 0 := by kernel_rfl
theorem tPow : (Tryd.prog.globals[0]?).map (·.type) = some 129 := by kernel_rfl
theorem dPow : (Rows.laid_internal_strconv_uint64pow10 : DataW Unit) = Lib.tabData .u64 Lib.pow10Tab := by kernel_rfl

set_option maxRecDepth 100000 in
theorem door_met (os : Os) (args : Array Value) : laidMetH Tryd.prog laid3 ((World.doorLaid Tryd.prog 400 os).forCall (fun _ _ => 0) ⟨#[], args, []⟩).memory :=
  laidMetH_of_parts3 (fuel := 8) (laidMet_of_run' 8 (by kernel_rfl) (by kernel_rfl)) (by kernel_rfl) (by kernel_rfl)

theorem tab_of_laid {W : World} (h : laidMetH Tryd.prog laid3 W) : Tab W := by
  rw [MakeChecks.laidMetH_plain _ _ _ (by kernel_rfl)] at h
  obtain ⟨ps, ⟨g0, t0, cs0, f0, p0, q0, hg0, ht0, hv0, hd0, ⟨g1, t1, cs1, f1, p1, q1, hg1, ht1, hv1, hd1, ⟨g2, t2, cs2, f2, p2, q2, hg2, ht2, hv2, hd2, _, _⟩, _⟩, _⟩, _, _⟩ := h
  obtain rfl := Option.some.inj (gPow.symm.trans hg2)
  obtain rfl := Option.some.inj (tPow.symm.trans ht2)
  rw [dPow] at hd2
  unfold Tab Lib.TabIs
  rw [hv2, ← Lib.cells_of_tab Tryd.underlying129 Tryd.underlying115 (by kernel_rfl) (by kernel_rfl) hd2]
end Go.Proofs.YtikiaijgcjjloaaDoor

/- The walk of unwindkeep.Splits. -/
namespace Go.Proofs.YtikiaijgcjjloaaDoor
open Go Go.RowKit M T Go.Lib

set_option maxRecDepth 100000 in
set_option maxHeartbeats 3200000 in
theorem splits_walk {w : World} (one two ls : ByteArray) (fuel : Int) (hls : ls.size ≤ 9223372036854775807) (hf1 : -9223372036854775808 ≤ fuel) (hf2 : fuel ≤ 9223372036854775807) (ht : Tab w) :
    Calls Tryd.prog 9 #[.string one, .string two, .string ls, .int .i64 fuel] w fun e w' => e = .returned (.bool true) ∧ Below w.heap.size w w' := by
  have HT := hide ht
  clear ht
  go_enter Tryd.func9, Tryd.ntmps9
  go_wp2_with fail
  refine (ready_any _ (unhide HT)).mono ?_
  rintro e w1 ⟨xb, rfl, hses, hb1⟩
  have HS := hide hses
  have HB1 := hide hb1
  clear hses hb1
  go_wp2_with fail
  refine (facts_any one _ (unhide HS)).mono ?_
  rintro e w2 ⟨n1, c1, rfl, hfa, hb2⟩
  have HFa := hide hfa
  have HS2 := hide ((unhide HS).below hb2)
  have HB2 := hide ((unhide HB1).trans (hb2.mono (unhide HB1).size))
  clear hfa hb2
  go_wp2_with fail
  refine (facts_any two _ (unhide HS2)).mono ?_
  rintro e w3 ⟨n2, c2, rfl, hfb, hb3⟩
  have HFb := hide hfb
  have HS3 := hide ((unhide HS2).below hb3)
  have HB3 := hide ((unhide HB2).trans (hb3.mono (unhide HB2).size))
  clear hfb hb3
  by_cases hc1 : c1 = 0
  · subst hc1
    by_cases hc2 : c2 = 0
    · subst hc2
      have hl1 : one.size ≤ 120 := by rw [size_list]; exact facts_len (unhide HFa)
      have hl2 : two.size ≤ 120 := by rw [size_list]; exact facts_len (unhide HFb)
      have HC := hide (cat_list one two)
      go_wp2_with fail
      refine (apply_any _ ls fuel _ (unhide HS3) (tab_below (unhide HT) (unhide HB3)) hls).mono ?_
      rintro e w4 ⟨l, n, g, rfl, ha, hb4⟩
      rw [unhide HC] at ha
      have HA := hide ha
      have HS4 := hide ((unhide HS3).below hb4)
      have HB4 := hide ((unhide HB3).trans (hb4.mono (unhide HB3).size))
      clear ha hb4
      by_cases hlong : 120 < one.size + two.size
      · obtain ⟨rfl, rfl, rfl⟩ := k_splits_long (unhide HA) (by rw [← size_list, ← size_list]; exact hlong)
        have hlong' : (120 : Int) < (one.size : Int) + (two.size : Int) := by omega
        go_wp2_with fail
        go_ret
        exact ⟨rfl, unhide HB4⟩
      · have hlong' : ¬ (120 : Int) < (one.size : Int) + (two.size : Int) := by omega
        have HLn := hide (show one.data.toList.length + two.data.toList.length ≤ 120 by rw [← size_list, ← size_list]; omega)
        go_wp2_with fail
        refine (apply_any _ ls fuel _ (unhide HS4) (tab_below (unhide HT) (unhide HB4)) hls).mono ?_
        rintro e w5 ⟨mid, m, h, rfl, hm, hb5⟩
        have HM := hide hm
        have hml := apply_len hm
        have HS5 := hide ((unhide HS4).below hb5)
        have HB5 := hide ((unhide HB4).trans (hb5.mono (unhide HB4).size))
        clear hm hb5
        by_cases hh : h = 0
        · subst hh
          obtain ⟨q1, q2, q3, q4⟩ := k_splits_two (unhide HFa) (unhide HFb) (unhide HLn) (unhide HA) (unhide HM) rfl
          have HQ := hide (fun (en : List UInt8) (k i : Int) (h : ApplySays T.noEnv two.data.toList mid (fuel - m) en k i) => q4 h)
          clear q4
          have hms : (⟨mid.toArray⟩ : ByteArray).size ≤ 9223372036854775807 := by rw [bytes_size]; omega
          have hm0 : ¬ m < 0 := by omega
          have hmf : ¬ fuel < m := by omega
          have hmn := apply_n (unhide HM)
          by_cases hone : one.data.toList = []
          · have hq := empty_yes hone
            have hmz : ¬ 0 < m := fun h => (q1.1 h) hone
            clear q1 hone
            go_wp2_with fail
            refine (apply_any two ⟨mid.toArray⟩ _ _ (unhide HS5) (tab_below (unhide HT) (unhide HB5)) hms).mono ?_
            rintro e w6 ⟨en, k, i, rfl, he, hb6⟩
            obtain ⟨z1, z2⟩ := unhide HQ _ _ _ he
            have hkn := apply_n he
            have HB6 := hide ((unhide HB5).trans (hb6.mono (unhide HB5).size))
            clear he hb6
            by_cases hi : i = 0
            · subst hi
              obtain ⟨rfl, rfl, rfl⟩ := z2 rfl
              clear z1 z2
              go_wp2_with fail
              go_ret
              exact ⟨rfl, unhide HB6⟩
            · obtain ⟨rfl, rfl, rfl⟩ := z1 hi
              have hi' : (g != 0) = true := by rw [bne_iff_ne]; exact hi
              clear z1 z2
              go_wp2_with fail
              go_ret
              exact ⟨rfl, unhide HB6⟩
          · have hq := empty_no hone
            have hmz : 0 < m := q1.2 hone
            clear q1 hone
            go_wp2_with fail
            refine (apply_any two ⟨mid.toArray⟩ _ _ (unhide HS5) (tab_below (unhide HT) (unhide HB5)) hms).mono ?_
            rintro e w6 ⟨en, k, i, rfl, he, hb6⟩
            obtain ⟨z1, z2⟩ := unhide HQ _ _ _ he
            have hkn := apply_n he
            have HB6 := hide ((unhide HB5).trans (hb6.mono (unhide HB5).size))
            clear he hb6
            by_cases hi : i = 0
            · subst hi
              obtain ⟨rfl, rfl, rfl⟩ := z2 rfl
              clear z1 z2
              go_wp2_with fail
              go_ret
              exact ⟨rfl, unhide HB6⟩
            · obtain ⟨rfl, rfl, rfl⟩ := z1 hi
              have hi' : (g != 0) = true := by rw [bne_iff_ne]; exact hi
              clear z1 z2
              go_wp2_with fail
              go_ret
              exact ⟨rfl, unhide HB6⟩
        · obtain ⟨rfl, rfl, rfl⟩ := k_splits_one (unhide HFa) (unhide HFb) (unhide HLn) (unhide HA) (unhide HM) hh
          have hh' : (g != 0) = true := by rw [bne_iff_ne]; exact hh
          go_wp2_with fail
          go_ret
          exact ⟨rfl, unhide HB5⟩
    · have hc' : (c2 != 0) = true := by rw [bne_iff_ne]; exact hc2
      go_wp2_with fail
      go_ret
      exact ⟨rfl, unhide HB3⟩
  · have hc' : (c1 != 0) = true := by rw [bne_iff_ne]; exact hc1
    go_wp2_with fail
    go_ret
    exact ⟨rfl, unhide HB3⟩
end Go.Proofs.YtikiaijgcjjloaaDoor

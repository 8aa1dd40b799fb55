import Derived.Test.YtikiaijgcjjloaaGreatDoorPart17
import Derived.Test.YtikiaijgcjjloaaGreatDoorPart9
import Derived.Laws.Runes
import Derived.Test.YtikiaijgcjjloaaGreatDoorPart7
import Derived.Test.YtikiaijgcjjloaaGreatDoorPart10
import Derived.Deep.CutBlock

/- The walks: Itoa; a row of parts read. -/
namespace Go.Proofs.YtikiaijgcjjloaaGreatDoor
open Go Go.RowKit M T Go.Lib

theorem encode_small (c : UInt8) (h : c.toNat < 128) : Utf8.encode (c.toNat : Int) = ⟨#[c]⟩ := by
  have hv : Utf8.valid (c.toNat : Int) = true := by unfold Utf8.valid; simp; omega
  unfold Utf8.encode
  simp only [hv, if_true, Int.toNat_natCast]
  rw [if_pos h]
  simp
theorem itoa_any (n : Int) (w : World) (h0 : -4000000000000000000 ≤ n) (h1 : n ≤ 4000000000000000000) (ht : Tab w) :
    Calls Tryz.prog 14 #[.int .i64 n] w fun e w' => e = .returned (.string ⟨(itoa n).toArray⟩) ∧ Below w.heap.size w w' :=
  (Tryz.strconv_Itoa n (by omega) (by omega) w ht).mono fun _ _ ⟨he, k, os, hw⟩ => ⟨he, hw ▸ below_gr w k os⟩
/-- Cell i of part j of a row. -/
theorem row_cell {w : World} {B : Nat} {e : TypeId} {g n cap : Nat} {xs : List PC} (h : w.ownsRow B e 8 (.slice (some ⟨g, 0, none⟩) n cap) xs.length (rowCells xs)) {j : Nat} (hj : j < xs.length) (i : Nat) (hi : i < 8) : w.cell? ⟨g, j * 8 + i, none⟩ = (xs[j].cells)[i]? := by
  have key : ∀ (ys : List PC) (j : Nat) (hj : j < ys.length), (rowCells ys)[j * 8 + i]? = (ys[j].cells)[i]? := by
    intro ys
    induction ys with
    | nil => intro j hj; simp at hj
    | cons y ys ih =>
      intro j hj
      have e : rowCells (y :: ys) = y.cells ++ rowCells ys := rfl
      cases j with
      | zero =>
        rw [e, List.getElem?_append_left (by rw [PC.cells_length]; omega)]
        simp
      | succ j =>
        rw [e, List.getElem?_append_right (by rw [PC.cells_length]; omega), PC.cells_length, show (j + 1) * 8 + i - 8 = j * 8 + i by omega, ih j (by simpa using hj)]
        simp
  have hlt : i < (xs[j].cells).length := by rw [PC.cells_length]; exact hi
  have := h.cells (g := g) rfl (j * 8 + i) ((xs[j].cells)[i]) (by rw [key xs j hj]; exact List.getElem?_eq_getElem hlt)
  rw [show (⟨g, 0, none⟩ : Addr).add (j * 8 + i) = ⟨g, j * 8 + i, none⟩ from by unfold Addr.add; split <;> simp_all] at this
  rw [this, List.getElem?_eq_getElem hlt]
theorem owns_len {w : World} {B : Nat} {e : TypeId} {size : Nat} {a : Option Addr} {m cap : Nat} {n : Nat} {xs : List Value} (h : w.ownsRow B e size (.slice a m cap) n xs) : m = n := by
  rcases h.2 with ⟨h2, h3⟩ | ⟨g', cap', cur, hv, _⟩
  · cases h2; exact h3.symm
  · cases hv; rfl
theorem dots_step (ps : List Nat) (j : Nat) (hj : j < ps.length) : dots (ps.take (j + 1)) = dots (ps.take j) ++ ((if j = 0 then [] else [46]) ++ decDigits ps[j]) := by
  rw [List.take_succ_eq_append_getElem hj, dots_pre]
  by_cases h : j = 0
  · subst h
    simp [pre, dots]
  · rw [if_neg h]
    have key : ∀ (qs : List Nat), qs ≠ [] → pre qs = dots qs ++ [46] := by
      intro qs hq
      obtain ⟨l, k, e⟩ := (List.eq_nil_or_concat qs).resolve_left hq
      rw [List.concat_eq_append] at e
      subst e
      rw [dots_pre]
      simp [pre]
    rw [key _ (fun e => by have := List.length_take (i := j) (l := ps); rw [e] at this; simp only [List.length_nil] at this; omega)]
    simp
theorem dots_len (ps : List Nat) : ∀ j, (∀ i ∈ ps, i < 12) → (dots (ps.take j)).length ≤ 3 * ps.length := by
  intro j hs
  have key : ∀ qs : List Nat, (∀ i ∈ qs, i < 12) → (dots qs).length ≤ 3 * qs.length := by
    intro qs
    induction qs with
    | nil => intro _; simp [dots]
    | cons q qs ih =>
      intro hq
      have h1 : (decDigits q).length ≤ 2 := dec_len_le 2 q (by decide) (by have := hq q (by simp); omega)
      by_cases hn : qs = []
      · subst hn; simp [dots]; omega
      · rw [dots_cons q qs hn]
        have := ih (fun i hi => hq i (by simp [hi]))
        simp
        omega
  have h1 := key (ps.take j) (fun i hi => hs i (List.mem_of_mem_take hi))
  have h2 : (ps.take j).length ≤ ps.length := by simp; omega
  omega

theorem PsIs.get {Ok : Nat → Prop} {w : World} : ∀ (ps : List Pt) (xs : List PC), PsIs Ok w xs (Tm.of ps) → ∀ (j : Nat) (h : j < ps.length) (h' : j < xs.length), PtIs Ok w xs[j] ps[j]
  | [], xs, _, j, h, _ => by simp at h
  | p :: ps, xs, hp, j, h, h' => by
    rw [Tm.of, PsIs] at hp
    obtain ⟨y, ys, rfl, h1, h2⟩ := hp
    cases j with
    | zero => exact h1
    | succ j => exact PsIs.get ps ys h2 j (by simpa using h) (by simpa using h')
/-- The first j parts, written. -/
def tx (ps : List Pt) (j : Nat) : List UInt8 := ((ps.take j).map Pt.text).flatten
theorem tx_zero (ps : List Pt) : tx ps 0 = [] := by unfold tx; simp
theorem text_take (ps : List Pt) (j : Nat) (hj : j < ps.length) : tx ps (j + 1) = tx ps j ++ ps[j].text := by
  unfold tx
  rw [List.take_succ_eq_append_getElem hj, List.map_append, List.flatten_append]
  simp only [List.map_cons, List.map_nil, List.flatten_cons, List.flatten_nil, List.append_nil]
theorem tx_all (ps : List Pt) (j : Nat) (hj : ps.length ≤ j) : tx ps j = (Tm.of ps).text := by
  unfold tx
  rw [List.take_of_length_le hj, Tm.of_text]
theorem text_take_len (ps : List Pt) (j : Nat) : (tx ps j).length ≤ (Tm.of ps).text.length := by
  unfold tx
  rw [Tm.of_text]
  conv => rhs; rw [← List.take_append_drop j ps, List.map_append, List.flatten_append, List.length_append]
  omega
theorem text_get_len (ps : List Pt) (j : Nat) (hj : j < ps.length) : ps[j].text.length ≤ (Tm.of ps).text.length := by
  have h1 := text_take_len ps (j + 1)
  rw [text_take ps j hj, List.length_append] at h1
  omega
end Go.Proofs.YtikiaijgcjjloaaGreatDoor

/- Opposites: they may stand in a term, and are not much longer. No program in this text. -/
namespace Go.Proofs.YtikiaijgcjjloaaGreatDoor
namespace T
open Go.Lib M

theorem Tm.snoc_of (ps : List Pt) (q : Pt) : (Tm.of ps).snoc q = Tm.of (ps ++ [q]) := by
  induction ps with
  | nil => rw [Tm.of, Tm.snoc]; rfl
  | cons p ps ih => rw [Tm.of, Tm.snoc, ih]; rfl
theorem Tm.opp_of : ∀ ps : List Pt, (Tm.of ps).opp = Tm.of (ps.reverse.map Pt.opp)
  | [] => by rw [Tm.of, Tm.opp]; rfl
  | p :: ps => by rw [Tm.of, Tm.opp, Tm.opp_of ps, Tm.snoc_of, List.reverse_cons, List.map_append]; rfl
theorem neg_small {c : Rat} (h : small c = true) : small (-c) = true := by
  unfold small at h ⊢
  have := of_decide_eq_true h
  apply decide_eq_true
  rw [Rat.neg_num, Rat.neg_den]
  simpa using this
theorem inv_small {c : Rat} (h : small c = true) (h0 : c ≠ 0) : small c⁻¹ = true := by
  obtain ⟨h1, h2⟩ := inv_pairs c h0
  unfold small at h ⊢
  have := of_decide_eq_true h
  apply decide_eq_true
  have hd := c.den_pos
  split at h1 <;> split at h2 <;> first | omega | (exfalso; omega)
theorem Sp.opp_wf {x y : Sp} (h : x.opp = some y) (hw : x.wf) : y.wf := by
  cases x with
  | plus c => cases h; exact neg_small hw
  | times c =>
    rw [show (Sp.times c).opp = (if c = 0 then none else some (.times c⁻¹)) from rfl] at h
    by_cases h0 : c = 0
    · rw [if_pos h0] at h; cases h
    · rw [if_neg h0] at h; cases h; exact inv_small hw h0
  | shift k => cases h; exact ⟨by have := hw.2; omega, by have := hw.1; omega⟩
  | set c => cases h
  | take k => cases h
  | drop k => cases h
  | pick ps => cases h
  | a => cases h
  | _ => cases h; exact (trivial : True)
theorem snoc_wf : ∀ (t : Tm) (q : Pt), t.wf → q.wf → (t.snoc q).wf
  | .nil, q, _, hq => by rw [Tm.snoc, Tm.wf, Tm.wf]; exact ⟨hq, trivial⟩
  | .cons p t, q, h, hq => by
    rw [Tm.wf] at h
    rw [Tm.snoc, Tm.wf]
    exact ⟨h.1, snoc_wf t q h.2 hq⟩
mutual
theorem Pt.opp_wf : ∀ p : Pt, p.wf → p.back = true → p.opp.wf
  | .sp x, hw, hb => by
    rw [Pt.wf] at hw
    rw [Pt.back] at hb
    rw [Pt.opp, Pt.wf]
    cases h : x.opp with
    | none => rw [h] at hb; cases hb
    | some y => exact Sp.opp_wf h hw
  | .pow f k, hw, _ => by
    rw [Pt.wf] at hw
    rw [Pt.opp, Pt.wf]
    exact ⟨hw.1, by omega, by omega⟩
  | .under s g, hw, hb => by
    rw [Pt.wf] at hw
    rw [Pt.back, Bool.and_eq_true] at hb
    rw [Pt.opp, Pt.wf]
    exact ⟨hw.1, Tm.opp_wf g hw.2 hb.1⟩
  | .name c b, hw, _ => by
    rw [Pt.opp, Pt.wf, Tm.wf, Tm.wf]
    exact ⟨⟨hw, trivial⟩, by omega, by omega⟩
theorem Tm.opp_wf : ∀ t : Tm, t.wf → t.back = true → t.opp.wf
  | .nil, _, _ => by rw [Tm.opp]; exact (trivial : True)
  | .cons p t, hw, hb => by
    rw [Tm.wf] at hw
    rw [Tm.back, Bool.and_eq_true] at hb
    rw [Tm.opp]
    exact snoc_wf _ _ (Tm.opp_wf t hw.2 hb.2) (Pt.opp_wf p hw.1 hb.1)
end
theorem snoc_text : ∀ (t : Tm) (q : Pt), (t.snoc q).text = t.text ++ q.text
  | .nil, q => by rw [Tm.snoc, Tm.text, Tm.text, Tm.text]; simp
  | .cons p t, q => by rw [Tm.snoc, Tm.text, Tm.text, snoc_text t q, List.append_assoc]
theorem rat_len {c : Rat} (h : small c = true) : (ratText c).length ≤ 22 := by
  unfold small at h
  have h' := of_decide_eq_true h
  unfold ratText numText
  have e1 : (itoa c.num).length ≤ 11 := by
    by_cases hn : c.num < 0
    · rw [M.itoa_neg _ hn]; have := dec_len_ten c.num.natAbs (by omega); simp; omega
    · rw [M.itoa_pos _ hn]; have := dec_len_ten c.num.natAbs (by omega); omega
  have e2 := dec_len_ten c.den (by omega)
  split <;> simp <;> omega
theorem itoa_len3 {k : Int} (h1 : -999 ≤ k) (h2 : k ≤ 999) : (itoa k).length ≤ 4 := by
  by_cases hn : k < 0
  · rw [M.itoa_neg _ hn]; have := dec_len_le 3 k.natAbs (by decide) (by omega); simp; omega
  · rw [M.itoa_pos _ hn]; have := dec_len_le 3 k.natAbs (by decide) (by omega); omega
theorem Sp.text_len {x : Sp} (h : x.wf) (hp : x.opp.isSome = true) : x.text.length ≤ 23 := by
  cases x with
  | plus c => have := rat_len h; simp [Sp.text]; omega
  | times c => have := rat_len h; simp [Sp.text]; omega
  | set c => have := rat_len h; simp [Sp.text]; omega
  | shift k => have := itoa_len3 (k := k) (by have := h.1; omega) (by have := h.2; omega); simp [Sp.text]; omega
  | take k => cases hp
  | drop k => cases hp
  | pick ps => cases hp
  | _ => simp [Sp.text]
theorem Sp.opp_some {x y : Sp} (h : x.opp = some y) : y.opp.isSome = true := by
  cases x with
  | times c =>
    rw [show (Sp.times c).opp = (if c = 0 then none else some (.times c⁻¹)) from rfl] at h
    by_cases h0 : c = 0
    · rw [if_pos h0] at h; cases h
    · rw [if_neg h0] at h; cases h
      have : c⁻¹ ≠ 0 := fun e => by
        have h1 := (inv_pairs c h0).1
        rw [e] at h1
        have hd := c.den_pos
        split at h1
        · have : (0 : Int) = -(c.den : Int) := h1
          omega
        · have : (0 : Int) = (c.den : Int) := h1
          omega
      simp [Sp.opp, this]
  | set c => cases h
  | take k => cases h
  | drop k => cases h
  | pick ps => cases h
  | a => cases h
  | _ => cases h; rfl
mutual
theorem Pt.opp_len : ∀ p : Pt, p.wf → p.back = true → p.opp.text.length ≤ 24 * p.text.length
  | .sp x, hw, hb => by
    have h1 : 1 ≤ (Pt.sp x).text.length := by
      obtain ⟨l, e⟩ := Pt.text_first (.sp x)
      rw [e]; simp
    rw [Pt.wf] at hw
    rw [Pt.back] at hb
    rw [Pt.opp]
    cases h : x.opp with
    | none => rw [h] at hb; cases hb
    | some y =>
      have h2 := Sp.text_len (Sp.opp_wf h hw) (Sp.opp_some h)
      have h3 : (Pt.sp ((some y).getD x)).text = y.text := rfl
      rw [h3]
      omega
  | .pow f k, hw, _ => by
    rw [Pt.wf] at hw
    have h1 := itoa_len3 (k := -k) (by omega) (by omega)
    rw [Pt.opp, Pt.text, Pt.text]
    simp
    omega
  | .under s g, hw, hb => by
    rw [Pt.wf] at hw
    rw [Pt.back, Bool.and_eq_true] at hb
    have ih := Tm.opp_len g hw.2 hb.1
    rw [Pt.opp, Pt.text, Pt.text]
    simp
    omega
  | .name c b, _, _ => by
    have h1 := itoa_len3 (k := -1) (by omega) (by omega)
    rw [Pt.opp, Pt.text, Tm.text, Tm.text, Pt.text]
    simp
    omega
theorem Tm.opp_len : ∀ t : Tm, t.wf → t.back = true → t.opp.text.length ≤ 24 * t.text.length
  | .nil, _, _ => by rw [Tm.opp, Tm.text]; simp
  | .cons p t, hw, hb => by
    rw [Tm.wf] at hw
    rw [Tm.back, Bool.and_eq_true] at hb
    have h1 := Pt.opp_len p hw.1 hb.1
    have h2 := Tm.opp_len t hw.2 hb.2
    rw [Tm.opp, snoc_text, Tm.text]
    simp
    omega
end
end T
end Go.Proofs.YtikiaijgcjjloaaGreatDoor

/- The walk of the document's reading of a number: below 0. -/
namespace Go.Proofs.YtikiaijgcjjloaaGreatDoor
open Go Go.RowKit M Go.Lib

set_option maxRecDepth 100000 in
set_option maxHeartbeats 1000000 in
theorem RRead_neg (s : ByteArray) (w : World) (hs : s.size ≤ maxLen) (h0 : 0 < s.size) (hn : neg s.data.toList = true) :
    Calls Tryz.prog 96 #[.string s] w fun e w' => RReadSays s e ∧ Below w.heap.size w w' := by
  have hs' := hs
  unfold maxLen at hs
  have hc : ((s[0].toNat : Int) == 45) = true := by
    rw [neg_of s h0] at hn
    have := of_decide_eq_true hn
    rw [beq_iff_eq]; omega
  have HN := hide hn
  clear hn
  have h0' : 0 < (s.size : Int) := by omega
  go_enter Tryz.func96, Tryz.ntmps96
  go_upto_block 0 with fail
  go_cut [5, 6, 7] from 22 to 37 (fun x y _ wx => ∃ en : Nat, 1 ≤ en ∧ en ≤ s.size ∧ x = .int .i64 en ∧ y = .int .i64 (refQ s.data.toList) ∧ Hid (valueOf (s.extract 1 en).data.toList = refP s.data.toList) ∧ (w.alloc (.cells #[.int .i64 0, .int .i64 0] 129)) = wx)
  case first =>
    go_wp2_with fail
    go_loopw [5, 6, 7] (fun x y z wx => ∃ i : Nat, 1 ≤ i ∧ i ≤ s.size ∧ x = .int .i64 s.size ∧ y = .int .i64 1 ∧ z = .int .i64 i ∧ Hid (∀ j (h : j < s.size), 1 ≤ j → j < i → s[j].toNat ≠ 47) ∧ (w.alloc (.cells #[.int .i64 0, .int .i64 0] 129)) = wx) (fun _ _ z _ => s.size - (RowKit.intOf z).toNat)
    case atStart => exact ⟨1, by omega, by omega, rfl, rfl, rfl, fun j _ h1 h2 => by omega, rfl⟩
    case round =>
      obtain ⟨i, h1, h2, rfl, rfl, rfl, HI, rfl⟩ := hrel
      by_cases hi : i < s.size
      · by_cases hc : s[i].toNat = 47
        · have hc' : ((s[i].toNat : Int) == 47) = true := by rw [beq_iff_eq]; omega
          have HV := hide (slash_at s true i (unhide HN) hi h1 hc (unhide HI))
          clear hc
          go_wp2_with fail
          refine (value_any (s.extract (i + 1) s.size) _ (Nat.le_trans (ext_size s _ _) hs')).mono ?_
          rintro e w' ⟨rfl, rfl⟩
          rw [(unhide HV).2]
          go_wp2_with fail
          go_meet
          exact ⟨i, h1, by omega, rfl, rfl, (unhide HV).1, rfl⟩
        · have hc' : ((s[i].toNat : Int) == 47) = false := by rw [beq_eq_false_iff_ne]; omega
          have HJ : Hid (∀ j (h : j < s.size), 1 ≤ j → j < i + 1 → s[j].toNat ≠ 47) := by
            intro j h h1 h2
            by_cases hj : j < i
            · exact unhide HI j h h1 hj
            · obtain rfl : j = i := by omega
              exact hc
          clear hc
          go_wp2_with fail
          go_roundw
          case rel => exact ⟨i + 1, by omega, by omega, rfl, rfl, by go_num, unhide HJ, by trivial⟩
          case measure => simp [RowKit.intOf]; omega
      · have hi' : ¬ (i : Int) < s.size := by omega
        have HV := hide (slash_none s true (unhide HN) (fun j h hf _ => unhide HI j h hf (by omega)))
        go_wp2_with fail
        go_meet
        exact ⟨s.size, by omega, by omega, rfl, by rw [(unhide HV).2], (unhide HV).1, rfl⟩
  case rest =>
    obtain ⟨en, he1, he2, rfl, rfl, HV, rfl⟩ := hcut
    have hp : -1 ≤ refP s.data.toList ∧ refP s.data.toList ≤ 9999999999 := valueOf_bd _
    have hq := refQ_bd s.data.toList
    have HT : Hid (refT s.data.toList = -refP s.data.toList) := by show _ = _; unfold refT; rw [unhide HN]; rfl
    have HB := hide (rr_bad s.data.toList)
    have HF := hide (rr_nofit s.data.toList)
    have HO := hide (ref_ok s.data.toList)
    have HNo := hide (rr_no s.data.toList)
    rw [unhide HT] at HF HO HNo
    clear HT HN
    go_wp2_with fail
    refine (value_any (s.extract 1 en) _ (Nat.le_trans (ext_size s _ _) hs')).mono ?_
    rintro e w' ⟨rfl, rfl⟩
    rw [unhide HV]
    clear HV
    generalize refP s.data.toList = P at *
    generalize refQ s.data.toList = Q at *
    by_cases hbad : P < 0 ∨ Q < 1
    · have HE := hide ((unhide HB) hbad)
      by_cases hP : P < 0
      all_goals
        go_wp2_with fail
        exact bodyPost_ret (v := .tuple #[.agg #[.int .i64 0, .int .i64 1], .bool false]) (by simp [results, Tryz.results96, go_sem]) rfl ⟨Or.inr ⟨unhide HE, _, _, rfl⟩, (by repeat (first | exact Below.refl _ _ | refine below_dr ?_ _ | refine Below.drew ?_ | refine Below.setCell ?_ (by simp) _ | refine Below.alloc ?_ (by simp) _))⟩
    have hP : ¬ P < 0 := by omega
    have hQ : ¬ Q < 1 := by omega
    have hQ1 : 1 ≤ Q := by omega
    clear hbad HB
    go_wp2_with fail
    refine (Low_int (-P) Q _ (by omega) (by omega) (by omega) (by omega)).mono ?_
    rintro e w1 ⟨⟨hf, rfl⟩ | ⟨hf, rfl⟩, hb⟩
    · have HFt := hide hf
      clear hf
      obtain ⟨hcell, hfr⟩ := bcell hb
      have hz1 : w.heap.size + 1 ≤ w1.heap.size := by have := hb.size; simpa using this
      have hz2 : w.heap.size < w1.heap.size + 1 := by omega
      have hz3 : w.heap.size < w1.heap.size := by omega
      have hz4 : ¬ w.heap.size = w1.heap.size := by omega
      have hz5 : ¬ w1.heap.size = w.heap.size := by omega
      have hfb := fits_bd (-P) Q hQ1 (unhide HFt)
      have HB2 : Hid (RReadSays s (.returned (.tuple #[.agg #[.int .i64 (lowP (-P) Q), .int .i64 (lowQ (-P) Q)], .bool (numText (lowP (-P) Q) (lowQ (-P) Q) == s.toList)]))) := by
        cases hB : (numText (lowP (-P) Q) (lowQ (-P) Q) == s.toList) with
        | true => exact Or.inl ⟨_, _, (unhide HO) hQ1 (unhide HFt) ((beq_text _ s).1 hB), rfl⟩
        | false => exact Or.inr ⟨(unhide HNo) (fun e => by rw [(beq_text _ s).2 e] at hB; cases hB), _, _, rfl⟩
      clear HO HNo HF
      go_wp2_with fail
      go_region_with (go_at_call 110; refine (rText_any _ _ _ hfb.1 hfb.2.1 hfb.2.2.1 hfb.2.2.2).mono ?_; rintro e w2 ⟨rfl, hb2⟩; obtain ⟨hcell2, hfr2⟩ := bcell hb2)
      all_goals go_wp2_with fail
      all_goals
        obtain ⟨c0, c1, hbw⟩ := two_cells hb hb2
        refine bodyPost_ret (v := .tuple #[.agg #[.int .i64 (lowP (-P) Q), .int .i64 (lowQ (-P) Q)], .bool (numText (lowP (-P) Q) (lowQ (-P) Q) == s.toList)]) ?_ ?_ ⟨unhide HB2, ?_⟩
        · simp [results, Tryz.results96, go_sem, c0, c1]
        · rfl
        · exact (hbw.setCell (by simp) _).setCell (by simp) _
    · have HE := hide ((unhide HF) hf)
      clear hf HF HO HNo
      obtain ⟨hcell, hfr⟩ := bcell hb
      have hz1 : w.heap.size + 1 ≤ w1.heap.size := by have := hb.size; simpa using this
      have hz2 : w.heap.size < w1.heap.size + 1 := by omega
      have hz3 : w.heap.size < w1.heap.size := by omega
      have hz4 : ¬ w.heap.size = w1.heap.size := by omega
      have hz5 : ¬ w1.heap.size = w.heap.size := by omega
      go_wp2_with fail
      go_region
      all_goals go_wp2_with fail
      all_goals
        obtain ⟨c0, c1, hbw⟩ := three_cells hb (.int .i64 0) (.int .i64 1) (.cells #[.int .i64 0, .int .i64 1] 129)
        refine bodyPost_ret (v := .tuple #[.agg #[.int .i64 0, .int .i64 1], .bool false]) ?_ ?_ ⟨Or.inr ⟨unhide HE, _, _, rfl⟩, ?_⟩
        · simp [results, Tryz.results96, go_sem, c0, c1]
        · rfl
        · exact hbw.drew
end Go.Proofs.YtikiaijgcjjloaaGreatDoor

/- The walk of the document's reading of a number: 0 and above. -/
namespace Go.Proofs.YtikiaijgcjjloaaGreatDoor
open Go Go.RowKit M Go.Lib

set_option maxRecDepth 100000 in
set_option maxHeartbeats 1000000 in
theorem RRead_pos (s : ByteArray) (w : World) (hs : s.size ≤ maxLen) (h0 : 0 < s.size) (hn : neg s.data.toList = false) :
    Calls Tryz.prog 96 #[.string s] w fun e w' => RReadSays s e ∧ Below w.heap.size w w' := by
  have hs' := hs
  unfold maxLen at hs
  have hc : ((s[0].toNat : Int) == 45) = false := by
    rw [neg_of s h0] at hn
    have := of_decide_eq_false hn
    rw [beq_eq_false_iff_ne]; omega
  have HN := hide hn
  clear hn
  have h0' : 0 < (s.size : Int) := by omega
  go_enter Tryz.func96, Tryz.ntmps96
  go_upto_block 0 with fail
  go_cut [5, 6, 7] from 22 to 37 (fun x y _ wx => ∃ en : Nat, 0 ≤ en ∧ en ≤ s.size ∧ x = .int .i64 en ∧ y = .int .i64 (refQ s.data.toList) ∧ Hid (valueOf (s.extract 0 en).data.toList = refP s.data.toList) ∧ (w.alloc (.cells #[.int .i64 0, .int .i64 0] 129)) = wx)
  case first =>
    go_wp2_with fail
    go_loopw [5, 6, 7] (fun x y z wx => ∃ i : Nat, 0 ≤ i ∧ i ≤ s.size ∧ x = .int .i64 s.size ∧ y = .int .i64 1 ∧ z = .int .i64 i ∧ Hid (∀ j (h : j < s.size), 0 ≤ j → j < i → s[j].toNat ≠ 47) ∧ (w.alloc (.cells #[.int .i64 0, .int .i64 0] 129)) = wx) (fun _ _ z _ => s.size - (RowKit.intOf z).toNat)
    case atStart => exact ⟨0, by omega, by omega, rfl, rfl, rfl, fun j _ h1 h2 => by omega, rfl⟩
    case round =>
      obtain ⟨i, h1, h2, rfl, rfl, rfl, HI, rfl⟩ := hrel
      by_cases hi : i < s.size
      · by_cases hc : s[i].toNat = 47
        · have hc' : ((s[i].toNat : Int) == 47) = true := by rw [beq_iff_eq]; omega
          have HV := hide (slash_at s false i (unhide HN) hi h1 hc (unhide HI))
          clear hc
          go_wp2_with fail
          refine (value_any (s.extract (i + 1) s.size) _ (Nat.le_trans (ext_size s _ _) hs')).mono ?_
          rintro e w' ⟨rfl, rfl⟩
          rw [(unhide HV).2]
          go_wp2_with fail
          go_meet
          exact ⟨i, h1, by omega, rfl, rfl, (unhide HV).1, rfl⟩
        · have hc' : ((s[i].toNat : Int) == 47) = false := by rw [beq_eq_false_iff_ne]; omega
          have HJ : Hid (∀ j (h : j < s.size), 0 ≤ j → j < i + 1 → s[j].toNat ≠ 47) := by
            intro j h h1 h2
            by_cases hj : j < i
            · exact unhide HI j h h1 hj
            · obtain rfl : j = i := by omega
              exact hc
          clear hc
          go_wp2_with fail
          go_roundw
          case rel => exact ⟨i + 1, by omega, by omega, rfl, rfl, by go_num, unhide HJ, by trivial⟩
          case measure => simp [RowKit.intOf]; omega
      · have hi' : ¬ (i : Int) < s.size := by omega
        have HV := hide (slash_none s false (unhide HN) (fun j h hf _ => unhide HI j h hf (by omega)))
        go_wp2_with fail
        go_meet
        exact ⟨s.size, by omega, by omega, rfl, by rw [(unhide HV).2], (unhide HV).1, rfl⟩
  case rest =>
    obtain ⟨en, he1, he2, rfl, rfl, HV, rfl⟩ := hcut
    have hp : -1 ≤ refP s.data.toList ∧ refP s.data.toList ≤ 9999999999 := valueOf_bd _
    have hq := refQ_bd s.data.toList
    have HT : Hid (refT s.data.toList = refP s.data.toList) := by show _ = _; unfold refT; rw [unhide HN]; rfl
    have HB := hide (rr_bad s.data.toList)
    have HF := hide (rr_nofit s.data.toList)
    have HO := hide (ref_ok s.data.toList)
    have HNo := hide (rr_no s.data.toList)
    rw [unhide HT] at HF HO HNo
    clear HT HN
    go_wp2_with fail
    refine (value_any (s.extract 0 en) _ (Nat.le_trans (ext_size s _ _) hs')).mono ?_
    rintro e w' ⟨rfl, rfl⟩
    rw [unhide HV]
    clear HV
    generalize refP s.data.toList = P at *
    generalize refQ s.data.toList = Q at *
    by_cases hbad : P < 0 ∨ Q < 1
    · have HE := hide ((unhide HB) hbad)
      by_cases hP : P < 0
      all_goals
        go_wp2_with fail
        exact bodyPost_ret (v := .tuple #[.agg #[.int .i64 0, .int .i64 1], .bool false]) (by simp [results, Tryz.results96, go_sem]) rfl ⟨Or.inr ⟨unhide HE, _, _, rfl⟩, (by repeat (first | exact Below.refl _ _ | refine below_dr ?_ _ | refine Below.drew ?_ | refine Below.setCell ?_ (by simp) _ | refine Below.alloc ?_ (by simp) _))⟩
    have hP : ¬ P < 0 := by omega
    have hQ : ¬ Q < 1 := by omega
    have hQ1 : 1 ≤ Q := by omega
    clear hbad HB
    go_wp2_with fail
    refine (Low_int P Q _ (by omega) (by omega) (by omega) (by omega)).mono ?_
    rintro e w1 ⟨⟨hf, rfl⟩ | ⟨hf, rfl⟩, hb⟩
    · have HFt := hide hf
      clear hf
      obtain ⟨hcell, hfr⟩ := bcell hb
      have hz1 : w.heap.size + 1 ≤ w1.heap.size := by have := hb.size; simpa using this
      have hz2 : w.heap.size < w1.heap.size + 1 := by omega
      have hz3 : w.heap.size < w1.heap.size := by omega
      have hz4 : ¬ w.heap.size = w1.heap.size := by omega
      have hz5 : ¬ w1.heap.size = w.heap.size := by omega
      have hfb := fits_bd P Q hQ1 (unhide HFt)
      have HB2 : Hid (RReadSays s (.returned (.tuple #[.agg #[.int .i64 (lowP P Q), .int .i64 (lowQ P Q)], .bool (numText (lowP P Q) (lowQ P Q) == s.toList)]))) := by
        cases hB : (numText (lowP P Q) (lowQ P Q) == s.toList) with
        | true => exact Or.inl ⟨_, _, (unhide HO) hQ1 (unhide HFt) ((beq_text _ s).1 hB), rfl⟩
        | false => exact Or.inr ⟨(unhide HNo) (fun e => by rw [(beq_text _ s).2 e] at hB; cases hB), _, _, rfl⟩
      clear HO HNo HF
      go_wp2_with fail
      go_region_with (go_at_call 110; refine (rText_any _ _ _ hfb.1 hfb.2.1 hfb.2.2.1 hfb.2.2.2).mono ?_; rintro e w2 ⟨rfl, hb2⟩; obtain ⟨hcell2, hfr2⟩ := bcell hb2)
      all_goals go_wp2_with fail
      all_goals
        obtain ⟨c0, c1, hbw⟩ := two_cells hb hb2
        refine bodyPost_ret (v := .tuple #[.agg #[.int .i64 (lowP P Q), .int .i64 (lowQ P Q)], .bool (numText (lowP P Q) (lowQ P Q) == s.toList)]) ?_ ?_ ⟨unhide HB2, ?_⟩
        · simp [results, Tryz.results96, go_sem, c0, c1]
        · rfl
        · exact (hbw.setCell (by simp) _).setCell (by simp) _
    · have HE := hide ((unhide HF) hf)
      clear hf HF HO HNo
      obtain ⟨hcell, hfr⟩ := bcell hb
      have hz1 : w.heap.size + 1 ≤ w1.heap.size := by have := hb.size; simpa using this
      have hz2 : w.heap.size < w1.heap.size + 1 := by omega
      have hz3 : w.heap.size < w1.heap.size := by omega
      have hz4 : ¬ w.heap.size = w1.heap.size := by omega
      have hz5 : ¬ w1.heap.size = w.heap.size := by omega
      go_wp2_with fail
      go_region
      all_goals go_wp2_with fail
      all_goals
        obtain ⟨c0, c1, hbw⟩ := three_cells hb (.int .i64 0) (.int .i64 1) (.cells #[.int .i64 0, .int .i64 1] 129)
        refine bodyPost_ret (v := .tuple #[.agg #[.int .i64 0, .int .i64 1], .bool false]) ?_ ?_ ⟨Or.inr ⟨unhide HE, _, _, rfl⟩, ?_⟩
        · simp [results, Tryz.results96, go_sem, c0, c1]
        · rfl
        · exact hbw.drew
end Go.Proofs.YtikiaijgcjjloaaGreatDoor

/- The walk of the document's reading of a number: the whole. -/
namespace Go.Proofs.YtikiaijgcjjloaaGreatDoor
open Go Go.RowKit M Go.Lib

theorem list_empty (s : ByteArray) (h : s.size = 0) : s.data.toList = [] := List.length_eq_zero_iff.1 (by rw [len_size]; exact h)
theorem none_empty (s : ByteArray) (h : s.size = 0) : ∀ t b, ¬ IsNum s.data.toList t b := by
  apply rr_bad
  rw [list_empty s h]
  exact Or.inl (by decide)
set_option maxRecDepth 100000 in
set_option maxHeartbeats 400000 in
theorem RRead_nil (w : World) :
    Calls Tryz.prog 96 #[.string ⟨#[]⟩] w fun e w' => RReadSays ⟨#[]⟩ e ∧ Below w.heap.size w w' := by
  have HE := hide (none_empty ⟨#[]⟩ rfl)
  go_enter Tryz.func96, Tryz.ntmps96
  go_wp2_with fail
  go_loopw [5, 6, 7] (fun x y z wx => x = .int .i64 0 ∧ y = .int .i64 1 ∧ z = .int .i64 0 ∧ (w.alloc (.cells #[.int .i64 0, .int .i64 0] 129)) = wx) (fun _ _ _ _ => 0)
  case atStart => exact ⟨rfl, rfl, rfl, rfl⟩
  case round =>
    obtain ⟨rfl, rfl, rfl, rfl⟩ := hrel
    go_wp2_with fail
    refine (value_any (ByteArray.extract ⟨#[]⟩ 0 0) _ (by decide)).mono ?_
    rintro e w' ⟨rfl, rfl⟩
    rw [show valueOf (ByteArray.extract ⟨#[]⟩ 0 0).data.toList = -1 from by decide]
    go_wp2_with fail
    exact bodyPost_ret (v := .tuple #[.agg #[.int .i64 0, .int .i64 1], .bool false]) (by simp [results, Tryz.results96, go_sem]) rfl ⟨Or.inr ⟨unhide HE, _, _, rfl⟩, (by repeat (first | exact Below.refl _ _ | refine below_dr ?_ _ | refine Below.drew ?_ | refine Below.setCell ?_ (by simp) _ | refine Below.alloc ?_ (by simp) _))⟩
theorem RRead_empty (s : ByteArray) (w : World) (h0 : s.size = 0) :
    Calls Tryz.prog 96 #[.string s] w fun e w' => RReadSays s e ∧ Below w.heap.size w w' := by
  obtain rfl : s = ⟨#[]⟩ := by
    apply ByteArray.ext
    have := list_empty s h0
    simpa using this
  exact RRead_nil w

theorem RRead_any (s : ByteArray) (w : World) (hs : s.size ≤ maxLen) :
    Calls Tryz.prog 96 #[.string s] w fun e w' => RReadSays s e ∧ Below w.heap.size w w' := by
  by_cases h0 : s.size = 0
  · exact RRead_empty s w h0
  · cases hn : neg s.data.toList with
    | true => exact RRead_neg s w hs (by omega) hn
    | false => exact RRead_pos s w hs (by omega) hn
end Go.Proofs.YtikiaijgcjjloaaGreatDoor

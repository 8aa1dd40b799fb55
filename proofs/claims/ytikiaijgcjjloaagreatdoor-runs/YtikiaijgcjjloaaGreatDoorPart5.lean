import Derived.Test.YtikiaijgcjjloaaGreatDoorPart4

namespace Go.Proofs.YtikiaijgcjjloaaGreatDoor
namespace T
open Go.Lib M
def spanW (l : List UInt8) : List UInt8 × List UInt8 := if l.head? = some 45 then (45 :: (l.drop 1).takeWhile isDig, (l.drop 1).dropWhile isDig) else (l.takeWhile isDig, l.dropWhile isDig)
def spanV (l : List UInt8) : List UInt8 × List UInt8 := if (spanW l).2.head? = some 47 then ((spanW l).1 ++ 47 :: ((spanW l).2.drop 1).takeWhile isDig, ((spanW l).2.drop 1).dropWhile isDig) else spanW l
def spanF (l : List UInt8) : List UInt8 × List UInt8 := if (spanW l).2.head? = some 47 then ((spanW l).1 ++ 47 :: (spanW ((spanW l).2.drop 1)).1, (spanW ((spanW l).2.drop 1)).2) else spanW l
theorem head_cons {l : List UInt8} {c : UInt8} (h : l.head? = some c) : l = c :: l.drop 1 := by
  cases l with
  | nil => cases h
  | cons d l => cases h; rfl
theorem spanW_app (l : List UInt8) : (spanW l).1 ++ (spanW l).2 = l := by
  unfold spanW
  split
  · rename_i h
    conv => rhs; rw [head_cons h]
    simp [List.takeWhile_append_dropWhile]
  · simp [List.takeWhile_append_dropWhile]
theorem spanV_app (l : List UInt8) : (spanV l).1 ++ (spanV l).2 = l := by
  unfold spanV
  split
  · rename_i h
    have := spanW_app l
    rw [head_cons h] at this
    conv => rhs; rw [← this]
    simp [List.takeWhile_append_dropWhile]
  · exact spanW_app l
theorem spanF_app (l : List UInt8) : (spanF l).1 ++ (spanF l).2 = l := by
  unfold spanF
  split
  · rename_i h
    have := spanW_app l
    rw [head_cons h] at this
    conv => rhs; rw [← this]
    have e := spanW_app (((spanW l).2).drop 1)
    simp only [List.append_assoc, List.cons_append]
    rw [e]
  · exact spanW_app l
theorem tw_dec (n : Nat) {r : List UInt8} (hr : noDig r) : (decDigits n ++ r).takeWhile isDig = decDigits n ∧ (decDigits n ++ r).dropWhile isDig = r := by
  constructor
  · rw [List.takeWhile_append_of_pos (dec_all n), takeWhile_noDig r hr]; simp
  · rw [List.dropWhile_append_of_pos (dec_all n), dropWhile_noDig r hr]
theorem spanW_itoa (k : Int) {r : List UInt8} (hr : noDig r) : spanW (itoa k ++ r) = (itoa k, r) := by
  obtain ⟨h1, h2⟩ := tw_dec k.natAbs hr
  unfold spanW
  by_cases hk : k < 0
  · rw [M.itoa_neg k hk]
    simp only [List.cons_append, List.head?_cons, if_pos, List.drop_succ_cons, List.drop_zero]
    rw [h1, h2]
  · rw [M.itoa_pos k hk]
    rw [if_neg]
    · rw [h1, h2]
    · obtain ⟨c, l, e, hc⟩ := dec_head k.natAbs r
      rw [e]
      intro h
      cases h
      cases hc
theorem spanV_rat (x : Rat) {r : List UInt8} (hr : Stop r) : spanV (ratText x ++ r) = (ratText x, r) := by
  unfold ratText numText
  rw [List.append_assoc]
  have hs := spanW_itoa x.num (tail_noDig (x.den : Int) hr)
  unfold spanV
  rw [hs]
  by_cases hb : (x.den : Int) ≤ 1
  · rw [if_pos hb]
    simp only [List.nil_append, List.append_nil]
    rw [if_neg]
    intro h
    exact (hr 47 h).2.1 rfl
  · rw [if_neg hb]
    obtain ⟨h1, h2⟩ := tw_dec (x.den : Int).toNat hr.noDig
    simp only [List.cons_append, List.head?_cons, if_pos, List.drop_succ_cons, List.drop_zero]
    rw [h1, h2]
theorem spanF_rat (x : Rat) {r : List UInt8} (hr : Stop r) : spanF (ratText x ++ r) = (ratText x, r) := by
  unfold ratText numText
  rw [List.append_assoc]
  have hs := spanW_itoa x.num (tail_noDig (x.den : Int) hr)
  unfold spanF
  rw [hs]
  by_cases hb : (x.den : Int) ≤ 1
  · rw [if_pos hb]
    simp only [List.nil_append, List.append_nil]
    rw [if_neg]
    intro h
    exact (hr 47 h).2.1 rfl
  · rw [if_neg hb]
    have h1 := spanW_itoa (x.den : Int) hr.noDig
    rw [M.itoa_pos (x.den : Int) (by omega), show (x.den : Int).natAbs = (x.den : Int).toNat by omega] at h1
    simp only [List.cons_append, List.head?_cons, if_pos, List.drop_succ_cons, List.drop_zero]
    rw [h1]
theorem itoa_isNum {k : Int} (h1 : -1000000000 ≤ k) (h2 : k ≤ 1000000000) : IsNum (itoa k) k 1 := ⟨h1, h2, by omega, by omega, by simp, by unfold numText; simp⟩
def Dm (l : List UInt8) : Prop := ∀ c ∈ l, isDig c = true ∨ c = 45
theorem spanW_dm (l : List UInt8) : Dm (spanW l).1 := by
  unfold spanW
  have key : ∀ m : List UInt8, ∀ c ∈ m.takeWhile isDig, isDig c = true := fun m c h => by
    have := List.all_takeWhile (p := isDig) (l := m)
    rw [List.all_eq_true] at this
    exact this c h
  intro c
  split
  · intro h
    rcases List.mem_cons.1 h with rfl | h
    · exact Or.inr rfl
    · exact Or.inl (key _ c h)
  · intro h; exact Or.inl (key _ c h)
theorem dm_whole {s : List UInt8} {t b : Int} (hd : Dm s) (h : IsNum s t b) : b = 1 ∧ s = itoa t := by
  by_cases hb : b ≤ 1
  · have := h.b1
    refine ⟨by omega, ?_⟩
    rw [h.tx]
    unfold numText
    rw [if_pos hb]
    simp
  · exfalso
    have h47 : (47 : UInt8) ∈ s := by
      rw [h.tx]
      unfold numText
      rw [if_neg hb]
      simp
    rcases hd 47 h47 with h | h <;> cases h
structure RdP (env : Env) (l : List UInt8) (o : Option (Pt × List UInt8)) : Prop where
  sound : ∀ p r, o = some (p, r) → p.wf ∧ p.inEnv env ∧ l = p.text ++ r
  comp : ∀ p r, p.wf → p.inEnv env → Stop r → l = p.text ++ r → o = some (p, r)
structure RdT (env : Env) (l : List UInt8) (o : Option (Tm × List UInt8)) : Prop where
  sound : ∀ t r, o = some (t, r) → t.wf ∧ t.inEnv env ∧ l = t.text ++ r ∧ End r
  comp : ∀ t r, t.wf → t.inEnv env → End r → l = t.text ++ r → o = some (t, r)
def Sp.letter : Sp → Bool
  | .plus _ => false | .times _ => false | .set _ => false | .shift _ => false | .take _ => false | .drop _ => false | .pick _ => false | _ => true
theorem Sp.letter_text {x : Sp} (h : x.letter = true) : x.text = [x.first] ∧ x.wf := by
  cases x <;> first | (cases h; done) | exact ⟨rfl, trivial⟩
theorem Sp.letter_inj {x y : Sp} (h : x.letter = true) (e : y.first = x.first) : y = x := by
  cases x <;> first
    | (cases h; done)
    | (cases y <;> first | rfl | (exact absurd e (by decide)) | (simp [Sp.first] at e; done))
theorem cons_first {p : Pt} {c : UInt8} {l r : List UInt8} (h : c :: l = p.text ++ r) : p.first = c := by
  obtain ⟨m, e⟩ := Pt.text_first p
  rw [e] at h
  simp only [List.cons_append, List.cons.injEq] at h
  exact h.1.symm
theorem rdP_letter (env : Env) {x : Sp} (h : x.letter = true) (l : List UInt8) : RdP env (x.first :: l) (some (.sp x, l)) := by
  obtain ⟨h1, h2⟩ := Sp.letter_text h
  refine ⟨fun p r e => ?_, fun p r hw he hs e => ?_⟩
  · cases e
    exact ⟨by rw [Pt.wf]; exact h2, by rw [Pt.inEnv]; trivial, by rw [Pt.text, h1]; rfl⟩
  · have hf := cons_first e
    have hx := Sp.first_small x
    cases p with
    | sp y =>
      have := Sp.letter_inj h hf
      subst this
      rw [Pt.text, h1] at e
      simp only [List.cons_append, List.nil_append, List.cons.injEq, true_and] at e
      rw [e]
    | pow f k => exact absurd hf.symm hx.2
    | under s g => exact absurd (show 65 ≤ x.first.toNat ∧ x.first.toNat ≤ 91 by rw [show x.first = 91 from hf.symm]; decide) hx.1
    | name d b =>
      rw [Pt.wf] at hw
      exact absurd (show 65 ≤ x.first.toNat ∧ x.first.toNat ≤ 91 by rw [show x.first = d from hf.symm]; omega) hx.1
def valSp (c : UInt8) (x : Rat) : Sp := if c = 43 then .plus x else if c = 42 then .times x else .set x
theorem valSp_text {c : UInt8} (hc : c = 43 ∨ c = 42 ∨ c = 61) (x : Rat) (h : small x = true) : (valSp c x).text = c :: ratText x ∧ (valSp c x).wf := by
  rcases hc with rfl | rfl | rfl <;> exact ⟨rfl, h⟩
theorem valSp_only {c : UInt8} (hc : c = 43 ∨ c = 42 ∨ c = 61) {p : Pt} {l r : List UInt8} (hw : p.wf) (e : c :: l = p.text ++ r) : ∃ x, small x = true ∧ p = .sp (valSp c x) ∧ l = ratText x ++ r := by
  have hf := cons_first e
  cases p with
  | sp y =>
    have hf' : y.first = c := hf
    rw [Pt.text] at e
    rw [Pt.wf] at hw
    rcases hc with rfl | rfl | rfl
    · cases y <;> first
        | (simp [Sp.first] at hf'; done)
        | exact ⟨_, hw, rfl, by simpa [Sp.text] using e⟩
    · cases y <;> first
        | (simp [Sp.first] at hf'; done)
        | exact ⟨_, hw, rfl, by simpa [Sp.text] using e⟩
    · cases y <;> first
        | (simp [Sp.first] at hf'; done)
        | exact ⟨_, hw, rfl, by simpa [Sp.text] using e⟩
  | pow f k => exfalso; have : (40 : UInt8) = c := hf; rcases hc with rfl | rfl | rfl <;> cases this
  | under s g => exfalso; have : (91 : UInt8) = c := hf; rcases hc with rfl | rfl | rfl <;> cases this
  | name d b =>
    exfalso
    have : d = c := hf
    subst this
    rw [Pt.wf] at hw
    rcases hc with rfl | rfl | rfl <;> (revert hw; simp)
theorem rdP_val (env : Env) {c : UInt8} (hc : c = 43 ∨ c = 42 ∨ c = 61) {l s r : List UInt8} {x : Rat} (hx : small x = true) (hs : s = ratText x) (happ : s ++ r = l) (hcomp : ∀ (y : Rat) (r' : List UInt8), Stop r' → l = ratText y ++ r' → s = ratText y ∧ r = r') : RdP env (c :: l) (some (.sp (valSp c x), r)) := by
  obtain ⟨h1, h2⟩ := valSp_text hc x hx
  refine ⟨fun p q e => ?_, fun p q hw he hst e => ?_⟩
  · cases e
    exact ⟨by rw [Pt.wf]; exact h2, by rw [Pt.inEnv]; trivial, by rw [Pt.text, h1, ← happ, hs]; rfl⟩
  · obtain ⟨y, hy, rfl, e2⟩ := valSp_only hc hw e
    obtain ⟨e3, rfl⟩ := hcomp y q hst e2
    have : ratText x ++ [] = ratText y ++ [] := by rw [← hs, e3]
    rw [(ratText_split this stop_nil stop_nil).1]
theorem rdP_val_none (env : Env) {c : UInt8} (hc : c = 43 ∨ c = 42 ∨ c = 61) {l s : List UInt8} (hs : ∀ t b, ¬ IsNum s t b) (hcomp : ∀ (y : Rat) (r' : List UInt8), Stop r' → l = ratText y ++ r' → s = ratText y) : RdP env (c :: l) none := by
  refine ⟨fun p q e => by (cases e), fun p q hw he hst e => ?_⟩
  obtain ⟨y, hy, rfl, e2⟩ := valSp_only hc hw e
  exact absurd (rat_isNum hy) (by rw [← hcomp y q hst e2]; exact hs _ _)
def cntSp (c : UInt8) (k : Int) : Sp := if c = 60 then .shift k else if c = 116 then .take k.toNat else .drop k.toNat
def cntLo (c : UInt8) : Int := if c = 60 then -99 else 0
def cntHi (c : UInt8) : Int := if c = 60 then 99 else 12
theorem itoa_nat (k : Int) (h : 0 ≤ k) : itoa k = decDigits k.toNat := by rw [M.itoa_pos k (by omega)]; congr 1; omega
theorem cntSp_text {c : UInt8} (hc : c = 60 ∨ c = 116 ∨ c = 100) (k : Int) (h1 : cntLo c ≤ k) (h2 : k ≤ cntHi c) : (cntSp c k).text = c :: itoa k ∧ (cntSp c k).wf := by
  rcases hc with rfl | rfl | rfl
  · exact ⟨rfl, h1, h2⟩
  · have h1' : 0 ≤ k := h1
    have h2' : k ≤ 12 := h2
    refine ⟨by rw [itoa_nat k h1']; rfl, ?_⟩
    show k.toNat ≤ 12
    omega
  · have h1' : 0 ≤ k := h1
    have h2' : k ≤ 12 := h2
    refine ⟨by rw [itoa_nat k h1']; rfl, ?_⟩
    show k.toNat ≤ 12
    omega
theorem cntSp_only {c : UInt8} (hc : c = 60 ∨ c = 116 ∨ c = 100) {p : Pt} {l r : List UInt8} (hw : p.wf) (e : c :: l = p.text ++ r) : ∃ k, cntLo c ≤ k ∧ k ≤ cntHi c ∧ p = .sp (cntSp c k) ∧ l = itoa k ++ r := by
  have hf := cons_first e
  cases p with
  | sp y =>
    have hf' : y.first = c := hf
    rw [Pt.text] at e
    rw [Pt.wf] at hw
    rcases hc with rfl | rfl | rfl
    · cases y <;> first
        | (simp [Sp.first] at hf'; done)
        | exact ⟨_, hw.1, hw.2, rfl, by simpa [Sp.text] using e⟩
    · cases y <;> first
        | (simp [Sp.first] at hf'; done)
        | exact ⟨_, Int.natCast_nonneg _, (by have : _ ≤ 12 := hw; show ((_ : Nat) : Int) ≤ 12; omega), rfl, by rw [itoa_nat _ (Int.natCast_nonneg _)]; simpa [Sp.text] using e⟩
    · cases y <;> first
        | (simp [Sp.first] at hf'; done)
        | exact ⟨_, Int.natCast_nonneg _, (by have : _ ≤ 12 := hw; show ((_ : Nat) : Int) ≤ 12; omega), rfl, by rw [itoa_nat _ (Int.natCast_nonneg _)]; simpa [Sp.text] using e⟩
  | pow f k => exfalso; have : (40 : UInt8) = c := hf; rcases hc with rfl | rfl | rfl <;> cases this
  | under s g => exfalso; have : (91 : UInt8) = c := hf; rcases hc with rfl | rfl | rfl <;> cases this
  | name d b =>
    exfalso
    have : d = c := hf
    subst this
    rw [Pt.wf] at hw
    rcases hc with rfl | rfl | rfl <;> (revert hw; simp)
structure WhAt (l : List UInt8) (lo hi : Int) (o : Option (Int × List UInt8)) : Prop where
  sound : ∀ k r, o = some (k, r) → lo ≤ k ∧ k ≤ hi ∧ l = itoa k ++ r
  comp : ∀ k r, lo ≤ k → k ≤ hi → noDig r → l = itoa k ++ r → o = some (k, r)
theorem whAt_some {l : List UInt8} {lo hi t b : Int} (hn : IsNum (spanW l).1 t b) (h1 : lo ≤ t) (h2 : t ≤ hi) : WhAt l lo hi (some (t, (spanW l).2)) := by
  obtain ⟨_, hs⟩ := dm_whole (spanW_dm l) hn
  refine ⟨fun k r e => ?_, fun k r a b' hr e => ?_⟩
  · cases e
    exact ⟨h1, h2, by rw [← hs, spanW_app]⟩
  · rw [e, spanW_itoa k hr] at hs ⊢
    have : itoa k ++ [] = itoa t ++ [] := by simpa using hs
    rw [(itoa_split this noDig_nil noDig_nil).1]
theorem whAt_none {l : List UInt8} {lo hi : Int} (hlo : -1000000000 ≤ lo) (hhi : hi ≤ 1000000000) (h : ∀ t b, IsNum (spanW l).1 t b → t < lo ∨ hi < t) : WhAt l lo hi none := by
  refine ⟨fun k r e => by (cases e), fun k r a b hr e => ?_⟩
  exfalso
  have hn : IsNum (spanW l).1 k 1 := by rw [e, spanW_itoa k hr]; exact itoa_isNum (by omega) (by omega)
  rcases h k 1 hn with h | h <;> omega
theorem rdP_cnt (env : Env) {c : UInt8} (hc : c = 60 ∨ c = 116 ∨ c = 100) {l : List UInt8} {o : Option (Int × List UInt8)} (h : WhAt l (cntLo c) (cntHi c) o) : RdP env (c :: l) (o.map fun x => (.sp (cntSp c x.1), x.2)) := by
  refine ⟨fun p q e => ?_, fun p q hw he hst e => ?_⟩
  · cases o with
    | none => cases e
    | some x =>
      cases e
      obtain ⟨a, b, e⟩ := h.sound x.1 x.2 rfl
      obtain ⟨h1, h2⟩ := cntSp_text hc x.1 a b
      exact ⟨by rw [Pt.wf]; exact h2, by rw [Pt.inEnv]; trivial, by rw [Pt.text, h1, e]; rfl⟩
  · obtain ⟨k, a, b, rfl, e2⟩ := cntSp_only hc hw e
    rw [h.comp k q a b hst.noDig e2]
    rfl
theorem rdP_name (env : Env) {c : UInt8} (h1 : 65 ≤ c.toNat) (h2 : c.toNat ≤ 90) {b : Tm} (hb : env c = some b) (hw : b.wf) (l : List UInt8) : RdP env (c :: l) (some (.name c b, l)) := by
  have ne : ∀ d : UInt8, d.toNat < 65 ∨ 90 < d.toNat → c ≠ d := by rintro d hd rfl; omega
  refine ⟨fun p q e => ?_, fun p q hw he hst e => ?_⟩
  · cases e
    exact ⟨by rw [Pt.wf]; exact ⟨h1, h2, hw⟩, by rw [Pt.inEnv]; exact hb, by rw [Pt.text]; rfl⟩
  · have hf := cons_first e
    cases p with
    | sp y =>
      exfalso
      have hf' : y.first = c := hf
      exact (Sp.first_small y).1 (by rw [hf']; omega)
    | pow f k => exact absurd hf.symm (ne 40 (by decide))
    | under s g => exact absurd hf.symm (ne 91 (by decide))
    | name d b' =>
      have : d = c := hf
      subst this
      rw [Pt.inEnv, hb] at he
      cases he
      rw [Pt.text] at e
      simp only [List.cons_append, List.nil_append, List.cons.injEq, true_and] at e
      rw [e]
theorem rdP_other (env : Env) {c : UInt8} (h1 : ∀ x : Sp, x.letter = true → x.first ≠ c) (h2 : c ≠ 43 ∧ c ≠ 42 ∧ c ≠ 61 ∧ c ≠ 60 ∧ c ≠ 116 ∧ c ≠ 100 ∧ c ≠ 35 ∧ c ≠ 40 ∧ c ≠ 91) (h3 : c.toNat < 65 ∨ 90 < c.toNat) (l : List UInt8) : RdP env (c :: l) none := by
  refine ⟨fun p q e => by (cases e), fun p q hw he hst e => ?_⟩
  exfalso
  have hf := cons_first e
  cases p with
  | sp y =>
    have hf' : y.first = c := hf
    subst hf'
    cases hy : y.letter with
    | true => exact h1 y hy rfl
    | false =>
      cases y <;> first
        | (cases hy; done)
        | (simp [Sp.first] at h2; done)
  | pow f k => exact h2.2.2.2.2.2.2.2.1 hf.symm
  | under s g => exact h2.2.2.2.2.2.2.2.2 hf.symm
  | name d b =>
    have : d = c := hf
    subst this
    rw [Pt.wf] at hw
    omega
end T
end Go.Proofs.YtikiaijgcjjloaaGreatDoor

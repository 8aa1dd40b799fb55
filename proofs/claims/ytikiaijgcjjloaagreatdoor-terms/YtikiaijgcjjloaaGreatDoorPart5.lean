import Derived.Test.YtikiaijgcjjloaaGreatDoorPart4

/- A term is read in one way only. No program in this text. -/
namespace Go.Proofs.YtikiaijgcjjloaaGreatDoor
namespace T
open Go.Lib M

theorem Sp.text_unique {x y : Sp} (hx : x.wf) (hy : y.wf) {r r' : List UInt8} (hr : Stop r) (hr' : Stop r') (h : x.text ++ r = y.text ++ r') : x = y ∧ r = r' := by
  have hf : x.first = y.first := by
    obtain ⟨l, e⟩ := Sp.text_first x
    obtain ⟨l', e'⟩ := Sp.text_first y
    rw [e, e'] at h
    simp only [List.cons_append, List.cons.injEq] at h
    exact h.1
  cases x with
  | plus c =>
    cases y with
    | plus d =>
      simp only [Sp.text, List.cons_append, List.cons.injEq, true_and] at h
      obtain ⟨rfl, e⟩ := ratText_split h hr hr'
      exact ⟨rfl, e⟩
    | _ => simp [Sp.first] at hf
  | times c =>
    cases y with
    | times d =>
      simp only [Sp.text, List.cons_append, List.cons.injEq, true_and] at h
      obtain ⟨rfl, e⟩ := ratText_split h hr hr'
      exact ⟨rfl, e⟩
    | _ => simp [Sp.first] at hf
  | set c =>
    cases y with
    | set d =>
      simp only [Sp.text, List.cons_append, List.cons.injEq, true_and] at h
      obtain ⟨rfl, e⟩ := ratText_split h hr hr'
      exact ⟨rfl, e⟩
    | _ => simp [Sp.first] at hf
  | shift k =>
    cases y with
    | shift d =>
      simp only [Sp.text, List.cons_append, List.cons.injEq, true_and] at h
      obtain ⟨rfl, e⟩ := itoa_split h hr.noDig hr'.noDig
      exact ⟨rfl, e⟩
    | _ => simp [Sp.first] at hf
  | take k =>
    cases y with
    | take d =>
      simp only [Sp.text, List.cons_append, List.cons.injEq, true_and] at h
      obtain ⟨rfl, e⟩ := dec_split h hr.noDig hr'.noDig
      exact ⟨rfl, e⟩
    | _ => simp [Sp.first] at hf
  | drop k =>
    cases y with
    | drop d =>
      simp only [Sp.text, List.cons_append, List.cons.injEq, true_and] at h
      obtain ⟨rfl, e⟩ := dec_split h hr.noDig hr'.noDig
      exact ⟨rfl, e⟩
    | _ => simp [Sp.first] at hf
  | pick ps =>
    cases y with
    | pick qs =>
      simp only [Sp.text, List.cons_append, List.cons.injEq, true_and] at h
      obtain ⟨rfl, e⟩ := dots_split hx.1 hy.1 h hr hr'
      exact ⟨rfl, e⟩
    | _ => simp [Sp.first] at hf
  | _ =>
    cases y <;> first
      | (exfalso; simp [Sp.first] at hf; done)
      | (simp only [Sp.text, List.cons_append, List.cons.injEq, true_and, List.nil_append] at h; exact ⟨rfl, h⟩)

theorem Pt.first_eq {p p' : Pt} {r r' : List UInt8} (h : p.text ++ r = p'.text ++ r') : p.first = p'.first := by
  obtain ⟨l, e⟩ := Pt.text_first p
  obtain ⟨l', e'⟩ := Pt.text_first p'
  rw [e, e'] at h
  simp only [List.cons_append, List.cons.injEq] at h
  exact h.1
theorem Sp.first_small (x : Sp) : ¬ (65 ≤ x.first.toNat ∧ x.first.toNat ≤ 91) ∧ x.first ≠ 40 := by cases x <;> (constructor <;> simp [Sp.first])
theorem stop_41 (r : List UInt8) : Stop (41 :: r) := (end_41 r).stop
mutual
theorem Pt.text_unique (env : Env) : ∀ (p p' : Pt), p.wf → p'.wf → p.inEnv env → p'.inEnv env → ∀ r r' : List UInt8, Stop r → Stop r' → p.text ++ r = p'.text ++ r' → p = p' ∧ r = r'
  | .sp x, p', hw, hw', _, _, r, r', hr, hr', h => by
    have hf := Pt.first_eq h
    have hx := Sp.first_small x
    cases p' with
    | sp y =>
      rw [Pt.wf] at hw hw'
      rw [Pt.text, Pt.text] at h
      obtain ⟨rfl, e⟩ := Sp.text_unique hw hw' hr hr' h
      exact ⟨rfl, e⟩
    | pow f k => exact absurd hf hx.2
    | under s g => exact absurd (show 65 ≤ x.first.toNat ∧ x.first.toNat ≤ 91 by rw [show x.first = 91 from hf]; decide) hx.1
    | name c b =>
      rw [Pt.wf] at hw'
      exact absurd (show 65 ≤ x.first.toNat ∧ x.first.toNat ≤ 91 by rw [show x.first = c from hf]; omega) hx.1
  | .pow f k, p', hw, hw', he, he', r, r', hr, hr', h => by
    have hf := Pt.first_eq h
    cases p' with
    | sp y => exact absurd hf.symm (Sp.first_small y).2
    | pow f' k' =>
      rw [Pt.wf] at hw hw'
      rw [Pt.inEnv] at he he'
      rw [Pt.text, Pt.text] at h
      simp only [List.cons_append, List.cons.injEq, true_and, List.append_assoc] at h
      obtain ⟨rfl, e⟩ := Tm.text_unique env f f' hw.1 hw'.1 he he' _ _ (end_41 _) (end_41 _) h
      simp only [List.cons.injEq, true_and] at e
      obtain ⟨rfl, e2⟩ := itoa_split e hr.noDig hr'.noDig
      exact ⟨rfl, e2⟩
    | under s g => cases hf
    | name c b =>
      rw [Pt.wf] at hw'
      have : (40 : UInt8) = c := hf
      subst this
      exact absurd hw'.1 (by decide)
  | .under s g, p', hw, hw', he, he', r, r', hr, hr', h => by
    have hf := Pt.first_eq h
    cases p' with
    | sp y => exact absurd (show 65 ≤ y.first.toNat ∧ y.first.toNat ≤ 91 by rw [show y.first = 91 from hf.symm]; decide) (Sp.first_small y).1
    | pow f k => cases hf
    | under s' g' =>
      rw [Pt.wf] at hw hw'
      rw [Pt.inEnv] at he he'
      rw [Pt.text, Pt.text] at h
      simp only [List.cons_append, List.cons.injEq, true_and, List.append_assoc] at h
      obtain ⟨rfl, e⟩ := Tm.text_unique env s s' hw.1 hw'.1 he.1 he'.1 _ _ (end_58 _) (end_58 _) h
      simp only [List.cons.injEq, true_and] at e
      obtain ⟨rfl, e2⟩ := Tm.text_unique env g g' hw.2 hw'.2 he.2 he'.2 _ _ (end_93 _) (end_93 _) e
      simp only [List.cons.injEq, true_and, List.nil_append] at e2
      exact ⟨rfl, e2⟩
    | name c b =>
      rw [Pt.wf] at hw'
      have : (91 : UInt8) = c := hf
      subst this
      exact absurd hw'.2.1 (by decide)
  | .name c b, p', hw, hw', he, he', r, r', hr, hr', h => by
    have hf := Pt.first_eq h
    rw [Pt.wf] at hw
    cases p' with
    | sp y => exact absurd (show 65 ≤ y.first.toNat ∧ y.first.toNat ≤ 91 by rw [show y.first = c from hf.symm]; omega) (Sp.first_small y).1
    | pow f k =>
      have : c = (40 : UInt8) := hf
      subst this
      exact absurd hw.1 (by decide)
    | under s g =>
      have : c = (91 : UInt8) := hf
      subst this
      exact absurd hw.2.1 (by decide)
    | name c' b' =>
      have hc : c = c' := hf
      subst hc
      rw [Pt.inEnv] at he he'
      rw [he] at he'
      cases he'
      rw [Pt.text] at h
      simp only [List.cons_append, List.nil_append, List.cons.injEq, true_and] at h
      exact ⟨rfl, h⟩
theorem Tm.text_unique (env : Env) : ∀ (t t' : Tm), t.wf → t'.wf → t.inEnv env → t'.inEnv env → ∀ r r' : List UInt8, End r → End r' → t.text ++ r = t'.text ++ r' → t = t' ∧ r = r'
  | .nil, t', _, hw', _, _, r, r', hr, _, h => by
    cases t' with
    | nil => rw [Tm.text] at h; exact ⟨rfl, h⟩
    | cons p t' =>
      exfalso
      rw [Tm.wf] at hw'
      rw [Tm.text, Tm.text, List.nil_append, List.append_assoc] at h
      exact (Pt.first_stop p hw'.1 _).2 (h ▸ hr)
  | .cons p t, t', hw, hw', he, he', r, r', hr, hr', h => by
    rw [Tm.wf] at hw
    rw [Tm.inEnv] at he
    cases t' with
    | nil =>
      exfalso
      rw [Tm.text, Tm.text, List.nil_append, List.append_assoc] at h
      exact (Pt.first_stop p hw.1 _).2 (h ▸ hr')
    | cons p' t' =>
      rw [Tm.wf] at hw'
      rw [Tm.inEnv] at he'
      rw [Tm.text, Tm.text, List.append_assoc, List.append_assoc] at h
      obtain ⟨rfl, e⟩ := Pt.text_unique env p p' hw.1 hw'.1 he.1 he'.1 _ _ (Tm.text_stop t hw.2 hr) (Tm.text_stop t' hw'.2 hr') h
      obtain ⟨rfl, e2⟩ := Tm.text_unique env t t' hw.2 hw'.2 he.2 he'.2 _ _ hr hr' e
      exact ⟨rfl, e2⟩
end
/-- s is a term in env, and this is it. -/
structure IsTerm (env : Env) (s : List UInt8) (t : Tm) : Prop where
  wf : t.wf
  env : t.inEnv env
  text : t.text = s
theorem IsTerm.unique {env : Env} {s : List UInt8} {t t' : Tm} (h : IsTerm env s t) (h' : IsTerm env s t') : t = t' :=
  (Tm.text_unique env t t' h.wf h'.wf h.env h'.env [] [] end_nil end_nil (by rw [h.text, h'.text])).1
end T
end Go.Proofs.YtikiaijgcjjloaaGreatDoor

/- Brackets in the text of a term: where the one that closes stands, and where the first colon outside of brackets. No program in this text. -/
namespace Go.Proofs.YtikiaijgcjjloaaGreatDoor
namespace T
open Go.Lib M

def opens (c : UInt8) : Bool := c == 40 || c == 91
def shuts (c : UInt8) : Bool := c == 41 || c == 93
/-- How deep behind a byte. -/
def deeper (c : UInt8) (d : Int) : Int := (if shuts c then -1 else 0) + ((if opens c then 1 else 0) + d)
/-- The place at which the depth comes to 0. -/
def closeIdx : List UInt8 → Int → Option Nat
  | [], _ => none
  | c :: l, d => if deeper c d = 0 then some 0 else (closeIdx l (deeper c d)).map (· + 1)
/-- The place of the first colon at depth 0. -/
def colonIdx : List UInt8 → Int → Option Nat
  | [], _ => none
  | c :: l, d => if deeper c d = 0 ∧ c = 58 then some 0 else (colonIdx l (deeper c d)).map (· + 1)

/-- A text in which, from depth d on, the depth stays above d0 (or at it) and ends at d. -/
structure Passes (l : List UInt8) : Prop where
  close : ∀ (r : List UInt8) (d : Int), 1 ≤ d → closeIdx (l ++ r) d = (closeIdx r d).map (· + l.length)
  colon : ∀ (r : List UInt8) (d : Int), 0 ≤ d → colonIdx (l ++ r) d = (colonIdx r d).map (· + l.length)
theorem passes_nil : Passes [] := ⟨fun r d _ => by simp, fun r d _ => by simp⟩
theorem map_add (o : Option Nat) (a b : Nat) : (o.map (· + a)).map (· + b) = o.map (· + (a + b)) := by
  cases o <;> simp; omega
theorem Passes.append {a b : List UInt8} (ha : Passes a) (hb : Passes b) : Passes (a ++ b) := by
  refine ⟨fun r d hd => ?_, fun r d hd => ?_⟩
  · rw [List.append_assoc, ha.close _ d hd, hb.close _ d hd, map_add, List.length_append, Nat.add_comm]
  · rw [List.append_assoc, ha.colon _ d hd, hb.colon _ d hd, map_add, List.length_append, Nat.add_comm]
/-- A byte that is no bracket and no colon. -/
def flat (c : UInt8) : Bool := !opens c && !shuts c && c != 58
theorem flat_deeper {c : UInt8} (h : flat c = true) (d : Int) : deeper c d = d ∧ c ≠ 58 := by
  unfold flat at h
  simp only [Bool.and_eq_true, Bool.not_eq_true', bne_iff_ne] at h
  unfold deeper
  rw [h.1.1, h.1.2]
  exact ⟨by simp, h.2⟩
theorem passes_flat : ∀ (l : List UInt8), (∀ c ∈ l, flat c = true) → Passes l
  | [], _ => passes_nil
  | c :: l, h => by
    have ih := passes_flat l (fun x hx => h x (by simp [hx]))
    refine ⟨fun r d hd => ?_, fun r d hd => ?_⟩
    · obtain ⟨h1, h2⟩ := flat_deeper (h c (by simp)) d
      rw [List.cons_append, closeIdx, h1, if_neg (by omega), ih.close r d hd, map_add]
      rfl
    · obtain ⟨h1, h2⟩ := flat_deeper (h c (by simp)) d
      rw [List.cons_append, colonIdx, h1, if_neg (fun e => h2 e.2), ih.colon r d hd, map_add]
      rfl
theorem flat_dig {c : UInt8} (h : isDig c = true) : flat c = true := by
  have h1 := (isDig_iff c).1 h
  have ne : ∀ d : UInt8, d.toNat < 48 ∨ 57 < d.toNat → (c == d) = false := by
    intro d hd
    rw [beq_eq_false_iff_ne]
    rintro rfl
    omega
  unfold flat opens shuts
  rw [ne 40 (by decide), ne 91 (by decide), ne 41 (by decide), ne 93 (by decide)]
  have := ne 58 (by decide)
  simp [bne, this]
theorem flat_dec (n : Nat) : ∀ c ∈ decDigits n, flat c = true := fun c h => flat_dig (dec_all n c h)
theorem flat_itoa (k : Int) : ∀ c ∈ itoa k, flat c = true := by
  intro c h
  by_cases hk : k < 0
  · rw [M.itoa_neg k hk] at h
    rcases List.mem_cons.1 h with rfl | h
    · decide
    · exact flat_dec _ c h
  · rw [M.itoa_pos k hk] at h
    exact flat_dec _ c h
theorem flat_rat (x : Rat) : ∀ c ∈ ratText x, flat c = true := by
  intro c h
  unfold ratText numText at h
  rcases List.mem_append.1 h with h | h
  · exact flat_itoa _ c h
  · split at h
    · cases h
    · rcases List.mem_cons.1 h with rfl | h
      · decide
      · exact flat_dec _ c h
theorem flat_dots : ∀ (ps : List Nat), ∀ c ∈ dots ps, flat c = true
  | [], c, h => by cases h
  | [i], c, h => flat_dec i c h
  | i :: j :: ps, c, h => by
    have e : dots (i :: j :: ps) = decDigits i ++ 46 :: dots (j :: ps) := rfl
    rw [e] at h
    rcases List.mem_append.1 h with h | h
    · exact flat_dec i c h
    · rcases List.mem_cons.1 h with rfl | h
      · decide
      · exact flat_dots (j :: ps) c h
theorem Sp.flat (x : Sp) : ∀ c ∈ x.text, T.flat c = true := by
  intro c h
  cases x with
  | plus r => rcases List.mem_cons.1 h with rfl | h; decide; exact flat_rat r c h
  | times r => rcases List.mem_cons.1 h with rfl | h; decide; exact flat_rat r c h
  | set r => rcases List.mem_cons.1 h with rfl | h; decide; exact flat_rat r c h
  | shift k => rcases List.mem_cons.1 h with rfl | h; decide; exact flat_itoa k c h
  | take k => rcases List.mem_cons.1 h with rfl | h; decide; exact flat_dec k c h
  | drop k => rcases List.mem_cons.1 h with rfl | h; decide; exact flat_dec k c h
  | pick ps => rcases List.mem_cons.1 h with rfl | h; decide; exact flat_dots ps c h
  | _ => rcases List.mem_cons.1 h with rfl | h; decide; cases h
theorem deeper_open {c : UInt8} (h : c = 40 ∨ c = 91) (d : Int) : deeper c d = d + 1 := by
  rcases h with rfl | rfl <;> (show (0 : Int) + (1 + d) = _; omega)
theorem deeper_shut {c : UInt8} (h : c = 41 ∨ c = 93) (d : Int) : deeper c d = d - 1 := by
  rcases h with rfl | rfl <;> (show (-1 : Int) + (0 + d) = _; omega)
theorem deeper_58 (d : Int) : deeper 58 d = d := by show (0 : Int) + (0 + d) = _; omega
/-- A colon inside of brackets is passed over. -/
theorem wrap_passes {o s : UInt8} {b : List UInt8} (ho : o = 40 ∨ o = 91) (hs : s = 41 ∨ s = 93) (hb : ∀ (r : List UInt8) (d : Int), 1 ≤ d → closeIdx (b ++ r) d = (closeIdx r d).map (· + b.length) ∧ colonIdx (b ++ r) d = (colonIdx r d).map (· + b.length)) : Passes (o :: (b ++ [s])) := by
  refine ⟨fun r d hd => ?_, fun r d hd => ?_⟩
  · have e : (o :: (b ++ [s])) ++ r = o :: (b ++ (s :: r)) := by simp
    rw [e, closeIdx, deeper_open ho, if_neg (by omega), (hb (s :: r) (d + 1) (by omega)).1, closeIdx, deeper_shut hs, if_neg (by omega), show d + 1 - 1 = d by omega, map_add, map_add]
    congr 1
    funext x
    simp
    omega
  · have e : (o :: (b ++ [s])) ++ r = o :: (b ++ (s :: r)) := by simp
    have no : o ≠ 58 := by rcases ho with rfl | rfl <;> decide
    have ns : s ≠ 58 := by rcases hs with rfl | rfl <;> decide
    rw [e, colonIdx, deeper_open ho, if_neg (fun h => no h.2), (hb (s :: r) (d + 1) (by omega)).2, colonIdx, deeper_shut hs, if_neg (fun h => ns h.2), show d + 1 - 1 = d by omega, map_add, map_add]
    congr 1
    funext x
    simp
    omega
mutual
theorem Pt.passes : ∀ (p : Pt), p.wf → Passes p.text
  | .sp x, _ => by rw [Pt.text]; exact passes_flat _ (Sp.flat x)
  | .pow f k, hw => by
    rw [Pt.wf] at hw
    have hf := Tm.passes f hw.1
    have h1 : Passes (40 :: (f.text ++ [41])) := wrap_passes (Or.inl rfl) (Or.inl rfl) (fun r d hd => ⟨hf.close r d hd, hf.colon r d (by omega)⟩)
    have h2 : Passes (94 :: itoa k) := passes_flat _ (fun c h => by
      rcases List.mem_cons.1 h with rfl | h
      · decide
      · exact flat_itoa k c h)
    have := h1.append h2
    rw [Pt.text]
    simpa using this
  | .under s g, hw => by
    rw [Pt.wf] at hw
    have hs := Tm.passes s hw.1
    have hg := Tm.passes g hw.2
    have h1 : Passes (91 :: ((s.text ++ 58 :: g.text) ++ [93])) := by
      refine wrap_passes (Or.inr rfl) (Or.inr rfl) (fun r d hd => ?_)
      have e : (s.text ++ 58 :: g.text) ++ r = s.text ++ (58 :: (g.text ++ r)) := by simp
      rw [e]
      constructor
      · rw [hs.close _ d hd, closeIdx, deeper_58, if_neg (by omega), hg.close r d hd, map_add, map_add]
        congr 1
        funext x
        simp
        omega
      · rw [hs.colon _ d (by omega), colonIdx, deeper_58, if_neg (by omega), hg.colon r d (by omega), map_add, map_add]
        congr 1
        funext x
        simp
        omega
    rw [Pt.text]
    simpa using h1
  | .name c b, hw => by
    rw [Pt.wf] at hw
    rw [Pt.text]
    refine passes_flat _ (fun x h => ?_)
    have hx : x = c := by simpa using h
    subst hx
    obtain ⟨h1, h2, _⟩ := hw
    have ne : ∀ d : UInt8, d.toNat < 65 ∨ 90 < d.toNat → (x == d) = false := by
      intro d hd
      rw [beq_eq_false_iff_ne]
      rintro rfl
      omega
    unfold flat opens shuts
    rw [ne 40 (by decide), ne 91 (by decide), ne 41 (by decide), ne 93 (by decide)]
    have := ne 58 (by decide)
    simp [bne, this]
theorem Tm.passes : ∀ (t : Tm), t.wf → Passes t.text
  | .nil, _ => by rw [Tm.text]; exact passes_nil
  | .cons p t, hw => by
    rw [Tm.wf] at hw
    rw [Tm.text]
    exact (Pt.passes p hw.1).append (Tm.passes t hw.2)
end
/-- Behind an opening bracket, a term and what closes it: that is where it is closed. -/
theorem close_at (t : Tm) (hw : t.wf) {o s : UInt8} (ho : o = 40 ∨ o = 91) (hs : s = 41 ∨ s = 93) (r : List UInt8) : closeIdx (o :: (t.text ++ s :: r)) 0 = some (t.text.length + 1) := by
  rw [closeIdx, deeper_open ho, if_neg (by omega), (Tm.passes t hw).close _ _ (by omega), closeIdx, deeper_shut hs, if_pos (by omega)]
  simp
theorem close_under (t u : Tm) (hw : t.wf) (hw' : u.wf) (r : List UInt8) : closeIdx (91 :: (t.text ++ 58 :: (u.text ++ 93 :: r))) 0 = some (t.text.length + u.text.length + 2) := by
  rw [closeIdx, deeper_open (Or.inr rfl), if_neg (by omega), (Tm.passes t hw).close _ _ (by omega), closeIdx, deeper_58, if_neg (by omega), (Tm.passes u hw').close _ _ (by omega), closeIdx, deeper_shut (Or.inr rfl), if_pos (by omega)]
  simp
  omega
theorem colon_at (t : Tm) (hw : t.wf) (r : List UInt8) : colonIdx (t.text ++ 58 :: r) 0 = some t.text.length := by
  rw [(Tm.passes t hw).colon _ _ (by omega), colonIdx, deeper_58, if_pos ⟨rfl, rfl⟩]
  simp
end T
end Go.Proofs.YtikiaijgcjjloaaGreatDoor

/- The way back undone, and there and back again. No program in this text. -/
namespace Go.Proofs.YtikiaijgcjjloaaGreatDoor
namespace T

/-! ### Steps taken apart -/
theorem Steps.unique {g : List Rat → Nat → Res} {l l1 l2 : List Rat} {n m : Nat} (h1 : Steps g l l1 n) (h2 : Steps g l l2 m) : l1 = l2 ∧ n = m := by
  have e1 := h1 (n + m)
  have e2 := h2 (n + m)
  rw [if_pos (by omega)] at e1 e2
  rw [e1] at e2
  simp only [Res.ok.injEq] at e2
  exact ⟨e2.1, by omega⟩
theorem Paced.steps {g : List Rat → Nat → Res} (hg : Paced g) {l l' : List Rat} {f f' : Nat} (h : g l f = .ok l' f') : ∃ n, f = f' + n ∧ Steps g l l' n := hg l f l' f' h
theorem Steps.split {g h : List Rat → Nat → Res} (hg : Paced g) (hh : Paced h) {l l2 : List Rat} {n : Nat} (hs : Steps (fun l f => Res.then (g l f) h) l l2 n) : ∃ l1 a b, Steps g l l1 a ∧ Steps h l1 l2 b ∧ n = a + b := by
  have e := hs n
  rw [if_pos (by omega), Nat.sub_self] at e
  obtain ⟨l1, f1, e1, e2⟩ := then_ok e
  obtain ⟨a, ha, sa⟩ := hg.steps e1
  obtain ⟨b, hb, sb⟩ := hh.steps e2
  exact ⟨l1, a, b, sa, sb, by omega⟩
theorem Steps.unstep {g : List Rat → Nat → Res} {l l' : List Rat} {n : Nat} (hs : Steps (T.stepped g) l l' n) : ∃ m, n = m + 1 ∧ Steps g l l' m := by
  cases n with
  | zero =>
    have e := hs 0
    rw [if_pos (by omega)] at e
    cases e
  | succ m =>
    refine ⟨m, rfl, fun F => ?_⟩
    have e := hs (F + 1)
    show g l F = _
    rw [show T.stepped g l (F + 1) = g l F from rfl] at e
    rw [e]
    by_cases h : m ≤ F
    · rw [if_pos h, if_pos (by omega)]; congr 1; omega
    · rw [if_neg h, if_neg (by omega)]
theorem steps_nil (l : List Rat) : Steps (fun l f => .ok l f) l l 0 := fun F => by rw [if_pos (by omega)]; rfl
theorem iter_zero_fun (g : List Rat → Nat → Res) : iter g 0 = fun l f => .ok l f := by funext l f; rw [iter_zero]
theorem iter_succ_fun (g : List Rat → Nat → Res) (k : Nat) : iter g (k + 1) = T.stepped (fun l f => Res.then (g l f) (iter g k)) := by funext l f; rw [iter_succ]

theorem iter_snoc {g : List Rat → Nat → Res} (hg : Paced g) : ∀ (k : Nat) {l l1 l2 : List Rat} {a b : Nat}, Steps (iter g k) l l1 a → Steps g l1 l2 b → Steps (iter g (k + 1)) l l2 (a + (b + 1))
  | 0, l, l1, l2, a, b, h1, h2 => by
    rw [iter_zero_fun] at h1
    obtain ⟨rfl, rfl⟩ := h1.unique (steps_nil l)
    rw [iter_succ_fun, iter_zero_fun]
    have := (h2.then (steps_nil l2)).stepped
    rw [show 0 + (b + 1) = b + 0 + 1 by omega]
    exact this
  | k + 1, l, l1, l2, a, b, h1, h2 => by
    rw [iter_succ_fun] at h1
    obtain ⟨m, rfl, h3⟩ := h1.unstep
    obtain ⟨l0, c, d, h4, h5, rfl⟩ := h3.split hg (hg.iter k)
    have h6 := iter_snoc hg k h5 h2
    rw [iter_succ_fun]
    have := (h4.then h6).stepped
    rw [show c + d + 1 + (b + 1) = c + (d + (b + 1)) + 1 by omega]
    exact this
theorem iter_rev {g h : List Rat → Nat → Res} (hg : Paced g) (hh : Paced h) (hr : ∀ l l' n, AllS l → Steps g l l' n → Steps h l' l n ∧ AllS l') : ∀ (k : Nat) {l l' : List Rat} {n : Nat}, AllS l → Steps (iter g k) l l' n → Steps (iter h k) l' l n ∧ AllS l'
  | 0, l, l', n, ha, hs => by
    rw [iter_zero_fun] at hs ⊢
    obtain ⟨rfl, rfl⟩ := hs.unique (steps_nil l)
    exact ⟨hs, ha⟩
  | k + 1, l, l', n, ha, hs => by
    rw [iter_succ_fun] at hs
    obtain ⟨m, rfl, h3⟩ := hs.unstep
    obtain ⟨l0, c, d, h4, h5, rfl⟩ := h3.split hg (hg.iter k)
    obtain ⟨h6, h7⟩ := hr _ _ _ ha h4
    obtain ⟨h8, h9⟩ := iter_rev hg hh hr k h7 h5
    have := iter_snoc hh k h8 h6
    rw [show c + d + 1 = d + (c + 1) by omega]
    exact ⟨this, h9⟩

/-! ### Items laid into places -/
theorem find_zip_none (i : Nat) : ∀ (ps : List Nat) (ys : List Rat), i ∉ ps → (ps.zip ys).find? (fun e => e.1 == i) = none
  | [], _, _ => rfl
  | _ :: _, [], _ => rfl
  | p :: ps, y :: ys, h => by
    simp only [List.mem_cons, not_or] at h
    rw [List.zip_cons_cons, List.find?_cons_of_neg (by simpa using fun e => h.1 e.symm)]
    exact find_zip_none i ps ys h.2
theorem find_zip_some : ∀ (ps : List Nat) (ys : List Rat) (k : Nat) (hk : k < ps.length) (hy : k < ys.length), ps.Nodup → (ps.zip ys).find? (fun e => e.1 == ps[k]) = some (ps[k], ys[k])
  | [], _, _, hk, _, _ => by simp at hk
  | _ :: _, [], _, _, hy, _ => by simp at hy
  | p :: ps, y :: ys, 0, _, _, _ => by simp
  | p :: ps, y :: ys, k + 1, hk, hy, hn => by
    have hn' := List.nodup_cons.1 hn
    have hne : ¬ p = ps[k]'(by simpa using hk) := fun e => hn'.1 (e ▸ List.getElem_mem _)
    simp only [List.getElem_cons_succ]
    rw [List.zip_cons_cons, List.find?_cons_of_neg (by simpa using hne)]
    exact find_zip_some ps ys k (by simpa using hk) (by simpa using hy) hn'.2
theorem layAt_length (ps : List Nat) (ys l : List Rat) : (layAt ps ys l).length = l.length := by simp [layAt]
theorem layAt_get (ps : List Nat) (ys l : List Rat) (i : Nat) (hi : i < l.length) : (layAt ps ys l).getD i 0 = match (ps.zip ys).find? (fun e => e.1 == i) with
    | some e => e.2
    | none => l.getD i 0 := by
  unfold layAt
  simp only [List.getD, List.getElem?_map, List.getElem?_range hi, Option.map_some, Option.getD_some]
  rfl
theorem layAt_other (ps : List Nat) (ys l : List Rat) (i : Nat) (hi : i < l.length) (h : i ∉ ps) : (layAt ps ys l).getD i 0 = l.getD i 0 := by
  rw [layAt_get ps ys l i hi, find_zip_none i ps ys h]
theorem layAt_at (ps : List Nat) (ys l : List Rat) (hn : ps.Nodup) (hl : ∀ i ∈ ps, i < l.length) (k : Nat) (hk : k < ps.length) (hy : k < ys.length) : (layAt ps ys l).getD ps[k] 0 = ys[k] := by
  rw [layAt_get ps ys l _ (hl _ (List.getElem_mem hk)), find_zip_some ps ys k hk hy hn]
theorem picked_lay (ps : List Nat) (ys l : List Rat) (hn : ps.Nodup) (hl : ∀ i ∈ ps, i < l.length) (hy : ys.length = ps.length) : picked ps (layAt ps ys l) = ys := by
  apply List.ext_getElem
  · rw [picked_length, hy]
  · intro k h1 h2
    rw [picked_length] at h1
    have := layAt_at ps ys l hn hl k h1 h2
    simp only [picked, List.getElem_map]
    exact this
theorem getD_ext {l l' : List Rat} (hl : l.length = l'.length) (h : ∀ i, i < l.length → l.getD i 0 = l'.getD i 0) : l = l' := by
  apply List.ext_getElem hl
  intro i h1 h2
  have := h i h1
  simpa [List.getD, h1, h2] using this
theorem lay_lay (ps : List Nat) (ys l : List Rat) (hn : ps.Nodup) (hl : ∀ i ∈ ps, i < l.length) : layAt ps (picked ps l) (layAt ps ys l) = l := by
  apply getD_ext
  · rw [layAt_length, layAt_length]
  · intro i hi
    rw [layAt_length, layAt_length] at hi
    by_cases h : i ∈ ps
    · obtain ⟨k, hk, rfl⟩ := List.mem_iff_getElem.1 h
      rw [layAt_at ps (picked ps l) _ hn (fun i hi => by rw [layAt_length]; exact hl i hi) k hk (by rw [picked_length]; exact hk)]
      simp only [picked, List.getElem_map]
    · rw [layAt_other _ _ _ _ (by rw [layAt_length]; exact hi) h, layAt_other _ _ _ _ hi h]
theorem getD_small {l : List Rat} (h : AllS l) (i : Nat) (hi : i < l.length) : small (l.getD i 0) = true := by
  have : l.getD i 0 = l[i] := by simp [List.getD, hi]
  rw [this]
  exact h _ (List.getElem_mem hi)
theorem pickedS {ps : List Nat} {l : List Rat} (hl : ∀ i ∈ ps, i < l.length) (h : AllS l) : AllS (picked ps l) := by
  intro x hx
  obtain ⟨i, hi, rfl⟩ := List.mem_map.1 hx
  exact getD_small h i (hl i hi)
theorem layS {ps : List Nat} {ys l : List Rat} (h : AllS l) (hy : AllS ys) : AllS (layAt ps ys l) := by
  intro x hx
  unfold layAt at hx
  obtain ⟨i, hi, rfl⟩ := List.mem_map.1 hx
  have hi' := List.mem_range.1 hi
  split
  · rename_i e he
    have := List.mem_of_find?_eq_some he
    exact hy _ (List.of_mem_zip this).2
  · exact getD_small h i hi'
theorem places_all (ps : List Nat) (n : Nat) (h : ∀ i ∈ ps, i < n) : places (picked ps (allPlaces n)) = ps := by
  unfold places picked
  rw [List.map_map]
  conv => rhs; rw [← List.map_id ps]
  apply List.map_congr_left
  intro i hi
  have hi' := h i hi
  show ((allPlaces n).getD i 0).num.toNat = i
  have : (allPlaces n).getD i 0 = ((i : Int) : Rat) := by
    unfold allPlaces
    simp [List.getD, hi']
  rw [this]
  simp

/-- Under a picker, as a run: which places it is of. -/
def underRun (s g : List Rat → Nat → Res) (l : List Rat) (f : Nat) : Res := Res.then (s (allPlaces l.length) f) fun at_ f1 =>
  Res.then (g (picked (places at_) l) f1) fun ys f2 => if ys.length = at_.length then .ok (layAt (places at_) ys l) f2 else .err 11
theorem under_rev {s g h : List Rat → Nat → Res} (hn : ∀ n f, Natl s n f) (ps : Paced s) (hg : Paced g) (hr : ∀ l l' n, AllS l → Steps g l l' n → Steps h l' l n ∧ AllS l') {l l' : List Rat} {n : Nat} (ha : AllS l) (hs : Steps (underRun s g) l l' n) : Steps (underRun s h) l' l n ∧ AllS l' := by
  have e := hs n
  rw [if_pos (by omega), Nat.sub_self] at e
  unfold underRun at e
  obtain ⟨at_, f1, e1, e2⟩ := then_ok e
  obtain ⟨ys, f2, e3, e4⟩ := then_ok e2
  have hlen : (allPlaces l.length).length = l.length := by simp [allPlaces]
  rcases hn l.length n with ⟨er, he⟩ | ⟨idx, f', hnd, hlt, hidx⟩
  · rw [he _ hlen] at e1; cases e1
  · rw [hidx _ hlen] at e1
    cases e1
    have hpl := places_all idx l.length hlt
    rw [hpl] at e3 e4
    rw [picked_length] at e4
    split at e4
    · rename_i hly
      cases e4
      obtain ⟨a, ha1, sa⟩ := ps.steps (hidx _ hlen)
      obtain ⟨b, hb1, sb⟩ := hg.steps e3
      obtain ⟨sc, hys⟩ := hr _ _ _ (pickedS hlt ha) sb
      refine ⟨fun F => ?_, layS ha hys⟩
      have hll : (layAt idx ys l).length = l.length := layAt_length _ _ _
      show Res.then (s (allPlaces (layAt idx ys l).length) F) _ = _
      rw [hll, sa F]
      by_cases h1 : a ≤ F
      · rw [if_pos h1, then_of_ok, hpl, picked_lay idx ys l hnd hlt hly, sc (F - a)]
        by_cases h2 : b ≤ F - a
        · rw [if_pos h2, then_of_ok, picked_length, picked_length, if_pos rfl, lay_lay idx ys l hnd hlt, if_pos (by omega)]
          congr 1
          omega
        · rw [if_neg h2, if_neg (by omega)]; rfl
      · rw [if_neg h1, if_neg (by omega)]; rfl
    · cases e4
end T
end Go.Proofs.YtikiaijgcjjloaaGreatDoor

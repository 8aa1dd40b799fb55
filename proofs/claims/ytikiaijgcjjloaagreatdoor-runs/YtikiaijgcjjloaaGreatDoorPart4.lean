import Derived.Test.YtikiaijgcjjloaaGreatDoorPart3

namespace Go.Proofs.YtikiaijgcjjloaaGreatDoor
namespace T
open Go.Lib M
def opens (c : UInt8) : Bool := c == 40 || c == 91
def shuts (c : UInt8) : Bool := c == 41 || c == 93
def deeper (c : UInt8) (d : Int) : Int := (if shuts c then -1 else 0) + ((if opens c then 1 else 0) + d)
def closeIdx : List UInt8 → Int → Option Nat
  | [], _ => none
  | c :: l, d => if deeper c d = 0 then some 0 else (closeIdx l (deeper c d)).map (· + 1)
def colonIdx : List UInt8 → Int → Option Nat
  | [], _ => none
  | c :: l, d => if deeper c d = 0 ∧ c = 58 then some 0 else (colonIdx l (deeper c d)).map (· + 1)
structure Passes (l : List UInt8) : Prop where
  close : ∀ (r : List UInt8) (d : Int), 1 ≤ d → closeIdx (l ++ r) d = (closeIdx r d).map (· + l.length)
  colon : ∀ (r : List UInt8) (d : Int), 0 ≤ d → colonIdx (l ++ r) d = (colonIdx r d).map (· + l.length)
theorem passes_nil : Passes [] := ⟨fun r d _ => by simp, fun r d _ => by simp⟩
theorem map_add (o : Option Nat) (a b : Nat) : (o.map (· + a)).map (· + b) = o.map (· + (a + b)) := by
  cases o <;> simp; omega
theorem Passes.append {a b : List UInt8} (ha : Passes a) (hb : Passes b) : Passes (a ++ b) := by
  refine ⟨fun r d hd => ?_, fun r d hd => ?_⟩
  · rw [List.append_assoc, ha.close _ d hd, hb.close _ d hd, map_add, List.length_append, Nat.add_comm]
  · rw [List.append_assoc, ha.colon _ d hd, hb.colon _ d hd, map_add, List.length_append, Nat.add_comm]
def flat (c : UInt8) : Bool := !opens c && !shuts c && c != 58
theorem flat_deeper {c : UInt8} (h : flat c = true) (d : Int) : deeper c d = d ∧ c ≠ 58 := by
  unfold flat at h
  simp only [Bool.and_eq_true, Bool.not_eq_true', bne_iff_ne] at h
  unfold deeper
  rw [h.1.1, h.1.2]
  exact ⟨by simp, h.2⟩
theorem passes_flat : ∀ (l : List UInt8), (∀ c ∈ l, flat c = true) → Passes l
  | [], _ => passes_nil
  | c :: l, h => by
    have ih := passes_flat l (fun x hx => h x (by simp [hx]))
    refine ⟨fun r d hd => ?_, fun r d hd => ?_⟩
    · obtain ⟨h1, h2⟩ := flat_deeper (h c (by simp)) d
      rw [List.cons_append, closeIdx, h1, if_neg (by omega), ih.close r d hd, map_add]
      rfl
    · obtain ⟨h1, h2⟩ := flat_deeper (h c (by simp)) d
      rw [List.cons_append, colonIdx, h1, if_neg (fun e => h2 e.2), ih.colon r d hd, map_add]
      rfl
theorem flat_dig {c : UInt8} (h : isDig c = true) : flat c = true := by
  have h1 := (isDig_iff c).1 h
  have ne : ∀ d : UInt8, d.toNat < 48 ∨ 57 < d.toNat → (c == d) = false := by
    intro d hd
    rw [beq_eq_false_iff_ne]
    rintro rfl
    omega
  unfold flat opens shuts
  rw [ne 40 (by decide), ne 91 (by decide), ne 41 (by decide), ne 93 (by decide)]
  have := ne 58 (by decide)
  simp [bne, this]
theorem flat_dec (n : Nat) : ∀ c ∈ decDigits n, flat c = true := fun c h => flat_dig (dec_all n c h)
theorem flat_itoa (k : Int) : ∀ c ∈ itoa k, flat c = true := by
  intro c h
  by_cases hk : k < 0
  · rw [M.itoa_neg k hk] at h
    rcases List.mem_cons.1 h with rfl | h
    · decide
    · exact flat_dec _ c h
  · rw [M.itoa_pos k hk] at h
    exact flat_dec _ c h
theorem flat_rat (x : Rat) : ∀ c ∈ ratText x, flat c = true := by
  intro c h
  unfold ratText numText at h
  rcases List.mem_append.1 h with h | h
  · exact flat_itoa _ c h
  · split at h
    · cases h
    · rcases List.mem_cons.1 h with rfl | h
      · decide
      · exact flat_dec _ c h
theorem flat_dots : ∀ (ps : List Nat), ∀ c ∈ dots ps, flat c = true
  | [], c, h => by cases h
  | [i], c, h => flat_dec i c h
  | i :: j :: ps, c, h => by
    have e : dots (i :: j :: ps) = decDigits i ++ 46 :: dots (j :: ps) := rfl
    rw [e] at h
    rcases List.mem_append.1 h with h | h
    · exact flat_dec i c h
    · rcases List.mem_cons.1 h with rfl | h
      · decide
      · exact flat_dots (j :: ps) c h
theorem Sp.flat (x : Sp) : ∀ c ∈ x.text, T.flat c = true := by
  intro c h
  cases x with
  | plus r => rcases List.mem_cons.1 h with rfl | h; decide; exact flat_rat r c h
  | times r => rcases List.mem_cons.1 h with rfl | h; decide; exact flat_rat r c h
  | set r => rcases List.mem_cons.1 h with rfl | h; decide; exact flat_rat r c h
  | shift k => rcases List.mem_cons.1 h with rfl | h; decide; exact flat_itoa k c h
  | take k => rcases List.mem_cons.1 h with rfl | h; decide; exact flat_dec k c h
  | drop k => rcases List.mem_cons.1 h with rfl | h; decide; exact flat_dec k c h
  | pick ps => rcases List.mem_cons.1 h with rfl | h; decide; exact flat_dots ps c h
  | _ => rcases List.mem_cons.1 h with rfl | h; decide; cases h
theorem deeper_open {c : UInt8} (h : c = 40 ∨ c = 91) (d : Int) : deeper c d = d + 1 := by
  rcases h with rfl | rfl <;> (show (0 : Int) + (1 + d) = _; omega)
theorem deeper_shut {c : UInt8} (h : c = 41 ∨ c = 93) (d : Int) : deeper c d = d - 1 := by
  rcases h with rfl | rfl <;> (show (-1 : Int) + (0 + d) = _; omega)
theorem deeper_58 (d : Int) : deeper 58 d = d := by show (0 : Int) + (0 + d) = _; omega
theorem wrap_passes {o s : UInt8} {b : List UInt8} (ho : o = 40 ∨ o = 91) (hs : s = 41 ∨ s = 93) (hb : ∀ (r : List UInt8) (d : Int), 1 ≤ d → closeIdx (b ++ r) d = (closeIdx r d).map (· + b.length) ∧ colonIdx (b ++ r) d = (colonIdx r d).map (· + b.length)) : Passes (o :: (b ++ [s])) := by
  refine ⟨fun r d hd => ?_, fun r d hd => ?_⟩
  · have e : (o :: (b ++ [s])) ++ r = o :: (b ++ (s :: r)) := by simp
    rw [e, closeIdx, deeper_open ho, if_neg (by omega), (hb (s :: r) (d + 1) (by omega)).1, closeIdx, deeper_shut hs, if_neg (by omega), show d + 1 - 1 = d by omega, map_add, map_add]
    congr 1
    funext x
    simp
    omega
  · have e : (o :: (b ++ [s])) ++ r = o :: (b ++ (s :: r)) := by simp
    have no : o ≠ 58 := by rcases ho with rfl | rfl <;> decide
    have ns : s ≠ 58 := by rcases hs with rfl | rfl <;> decide
    rw [e, colonIdx, deeper_open ho, if_neg (fun h => no h.2), (hb (s :: r) (d + 1) (by omega)).2, colonIdx, deeper_shut hs, if_neg (fun h => ns h.2), show d + 1 - 1 = d by omega, map_add, map_add]
    congr 1
    funext x
    simp
    omega
mutual
theorem Pt.passes : ∀ (p : Pt), p.wf → Passes p.text
  | .sp x, _ => by rw [Pt.text]; exact passes_flat _ (Sp.flat x)
  | .pow f k, hw => by
    rw [Pt.wf] at hw
    have hf := Tm.passes f hw.1
    have h1 : Passes (40 :: (f.text ++ [41])) := wrap_passes (Or.inl rfl) (Or.inl rfl) (fun r d hd => ⟨hf.close r d hd, hf.colon r d (by omega)⟩)
    have h2 : Passes (94 :: itoa k) := passes_flat _ (fun c h => by
      rcases List.mem_cons.1 h with rfl | h
      · decide
      · exact flat_itoa k c h)
    have := h1.append h2
    rw [Pt.text]
    simpa using this
  | .under s g, hw => by
    rw [Pt.wf] at hw
    have hs := Tm.passes s hw.1
    have hg := Tm.passes g hw.2
    have h1 : Passes (91 :: ((s.text ++ 58 :: g.text) ++ [93])) := by
      refine wrap_passes (Or.inr rfl) (Or.inr rfl) (fun r d hd => ?_)
      have e : (s.text ++ 58 :: g.text) ++ r = s.text ++ (58 :: (g.text ++ r)) := by simp
      rw [e]
      constructor
      · rw [hs.close _ d hd, closeIdx, deeper_58, if_neg (by omega), hg.close r d hd, map_add, map_add]
        congr 1
        funext x
        simp
        omega
      · rw [hs.colon _ d (by omega), colonIdx, deeper_58, if_neg (by omega), hg.colon r d (by omega), map_add, map_add]
        congr 1
        funext x
        simp
        omega
    rw [Pt.text]
    simpa using h1
  | .name c b, hw => by
    rw [Pt.wf] at hw
    rw [Pt.text]
    refine passes_flat _ (fun x h => ?_)
    have hx : x = c := by simpa using h
    subst hx
    obtain ⟨h1, h2, _⟩ := hw
    have ne : ∀ d : UInt8, d.toNat < 65 ∨ 90 < d.toNat → (x == d) = false := by
      intro d hd
      rw [beq_eq_false_iff_ne]
      rintro rfl
      omega
    unfold flat opens shuts
    rw [ne 40 (by decide), ne 91 (by decide), ne 41 (by decide), ne 93 (by decide)]
    have := ne 58 (by decide)
    simp [bne, this]
theorem Tm.passes : ∀ (t : Tm), t.wf → Passes t.text
  | .nil, _ => by rw [Tm.text]; exact passes_nil
  | .cons p t, hw => by
    rw [Tm.wf] at hw
    rw [Tm.text]
    exact (Pt.passes p hw.1).append (Tm.passes t hw.2)
end
theorem close_at (t : Tm) (hw : t.wf) {o s : UInt8} (ho : o = 40 ∨ o = 91) (hs : s = 41 ∨ s = 93) (r : List UInt8) : closeIdx (o :: (t.text ++ s :: r)) 0 = some (t.text.length + 1) := by
  rw [closeIdx, deeper_open ho, if_neg (by omega), (Tm.passes t hw).close _ _ (by omega), closeIdx, deeper_shut hs, if_pos (by omega)]
  simp
theorem close_under (t u : Tm) (hw : t.wf) (hw' : u.wf) (r : List UInt8) : closeIdx (91 :: (t.text ++ 58 :: (u.text ++ 93 :: r))) 0 = some (t.text.length + u.text.length + 2) := by
  rw [closeIdx, deeper_open (Or.inr rfl), if_neg (by omega), (Tm.passes t hw).close _ _ (by omega), closeIdx, deeper_58, if_neg (by omega), (Tm.passes u hw').close _ _ (by omega), closeIdx, deeper_shut (Or.inr rfl), if_pos (by omega)]
  simp
  omega
theorem colon_at (t : Tm) (hw : t.wf) (r : List UInt8) : colonIdx (t.text ++ 58 :: r) 0 = some t.text.length := by
  rw [(Tm.passes t hw).colon _ _ (by omega), colonIdx, deeper_58, if_pos ⟨rfl, rfl⟩]
  simp
end T
end Go.Proofs.YtikiaijgcjjloaaGreatDoor

namespace Go.Proofs.YtikiaijgcjjloaaGreatDoor
namespace T
theorem Paced.steps {g : List Rat → Nat → Res} (hg : Paced g) {l l' : List Rat} {f f' : Nat} (h : g l f = .ok l' f') : ∃ n, f = f' + n ∧ Steps g l l' n := hg l f l' f' h
theorem Steps.split {g h : List Rat → Nat → Res} (hg : Paced g) (hh : Paced h) {l l2 : List Rat} {n : Nat} (hs : Steps (fun l f => Res.then (g l f) h) l l2 n) : ∃ l1 a b, Steps g l l1 a ∧ Steps h l1 l2 b ∧ n = a + b := by
  have e := hs n
  rw [if_pos (by omega), Nat.sub_self] at e
  obtain ⟨l1, f1, e1, e2⟩ := then_ok e
  obtain ⟨a, ha, sa⟩ := hg.steps e1
  obtain ⟨b, hb, sb⟩ := hh.steps e2
  exact ⟨l1, a, b, sa, sb, by omega⟩
theorem iter_zero_fun (g : List Rat → Nat → Res) : iter g 0 = fun l f => .ok l f := by funext l f; rw [iter_zero]
theorem iter_succ_fun (g : List Rat → Nat → Res) (k : Nat) : iter g (k + 1) = T.stepped (fun l f => Res.then (g l f) (iter g k)) := by funext l f; rw [iter_succ]
theorem find_zip_none (i : Nat) : ∀ (ps : List Nat) (ys : List Rat), i ∉ ps → (ps.zip ys).find? (fun e => e.1 == i) = none
  | [], _, _ => rfl
  | _ :: _, [], _ => rfl
  | p :: ps, y :: ys, h => by
    simp only [List.mem_cons, not_or] at h
    rw [List.zip_cons_cons, List.find?_cons_of_neg (by simpa using fun e => h.1 e.symm)]
    exact find_zip_none i ps ys h.2
theorem find_zip_some : ∀ (ps : List Nat) (ys : List Rat) (k : Nat) (hk : k < ps.length) (hy : k < ys.length), ps.Nodup → (ps.zip ys).find? (fun e => e.1 == ps[k]) = some (ps[k], ys[k])
  | [], _, _, hk, _, _ => by simp at hk
  | _ :: _, [], _, _, hy, _ => by simp at hy
  | p :: ps, y :: ys, 0, _, _, _ => by simp
  | p :: ps, y :: ys, k + 1, hk, hy, hn => by
    have hn' := List.nodup_cons.1 hn
    have hne : ¬ p = ps[k]'(by simpa using hk) := fun e => hn'.1 (e ▸ List.getElem_mem _)
    simp only [List.getElem_cons_succ]
    rw [List.zip_cons_cons, List.find?_cons_of_neg (by simpa using hne)]
    exact find_zip_some ps ys k (by simpa using hk) (by simpa using hy) hn'.2
theorem layAt_length (ps : List Nat) (ys l : List Rat) : (layAt ps ys l).length = l.length := by simp [layAt]
theorem layAt_get (ps : List Nat) (ys l : List Rat) (i : Nat) (hi : i < l.length) : (layAt ps ys l).getD i 0 = match (ps.zip ys).find? (fun e => e.1 == i) with
    | some e => e.2
    | none => l.getD i 0 := by
  unfold layAt
  simp only [List.getD, List.getElem?_map, List.getElem?_range hi, Option.map_some, Option.getD_some]
  rfl
theorem layAt_other (ps : List Nat) (ys l : List Rat) (i : Nat) (hi : i < l.length) (h : i ∉ ps) : (layAt ps ys l).getD i 0 = l.getD i 0 := by
  rw [layAt_get ps ys l i hi, find_zip_none i ps ys h]
theorem layAt_at (ps : List Nat) (ys l : List Rat) (hn : ps.Nodup) (hl : ∀ i ∈ ps, i < l.length) (k : Nat) (hk : k < ps.length) (hy : k < ys.length) : (layAt ps ys l).getD ps[k] 0 = ys[k] := by
  rw [layAt_get ps ys l _ (hl _ (List.getElem_mem hk)), find_zip_some ps ys k hk hy hn]
theorem getD_ext {l l' : List Rat} (hl : l.length = l'.length) (h : ∀ i, i < l.length → l.getD i 0 = l'.getD i 0) : l = l' := by
  apply List.ext_getElem hl
  intro i h1 h2
  have := h i h1
  simpa [List.getD, h1, h2] using this
theorem getD_small {l : List Rat} (h : AllS l) (i : Nat) (hi : i < l.length) : small (l.getD i 0) = true := by
  have : l.getD i 0 = l[i] := by simp [List.getD, hi]
  rw [this]
  exact h _ (List.getElem_mem hi)
theorem pickedS {ps : List Nat} {l : List Rat} (hl : ∀ i ∈ ps, i < l.length) (h : AllS l) : AllS (picked ps l) := by
  intro x hx
  obtain ⟨i, hi, rfl⟩ := List.mem_map.1 hx
  exact getD_small h i (hl i hi)
theorem layS {ps : List Nat} {ys l : List Rat} (h : AllS l) (hy : AllS ys) : AllS (layAt ps ys l) := by
  intro x hx
  unfold layAt at hx
  obtain ⟨i, hi, rfl⟩ := List.mem_map.1 hx
  have hi' := List.mem_range.1 hi
  split
  · rename_i e he
    have := List.mem_of_find?_eq_some he
    exact hy _ (List.of_mem_zip this).2
  · exact getD_small h i hi'
def underRun (s g : List Rat → Nat → Res) (l : List Rat) (f : Nat) : Res := Res.then (s (allPlaces l.length) f) fun at_ f1 =>
  Res.then (g (picked (places at_) l) f1) fun ys f2 => if ys.length = at_.length then .ok (layAt (places at_) ys l) f2 else .err 11
end T
end Go.Proofs.YtikiaijgcjjloaaGreatDoor

namespace Go.Proofs.YtikiaijgcjjloaaGreatDoor
namespace T
theorem Pt.run_sp (x : Sp) (b : Bool) : (Pt.sp x).run b = T.stepped (fun l f => lift (if b then x.workBack l else x.work l) f) := Pt.run_fun _ _
theorem Pt.run_name (c : UInt8) (t : Tm) (b : Bool) : (Pt.name c t).run b = T.stepped (t.run b) := Pt.run_fun _ _
theorem Pt.run_pow (t : Tm) (k : Int) (b : Bool) : (Pt.pow t k).run b = T.stepped (fun l f => if (if b then -k else k) < 0 ∧ t.back = false then .err 12 else iter (fun l f => t.run (decide ((if b then -k else k) < 0)) l f) k.natAbs l f) := Pt.run_fun _ _
theorem Pt.run_pow_ok (t : Tm) (k : Int) (b : Bool) (h : ¬ ((if b then -k else k) < 0 ∧ t.back = false)) : (Pt.pow t k).run b = T.stepped (iter (t.run (decide ((if b then -k else k) < 0))) k.natAbs) := by
  rw [Pt.run_pow]
  congr 1
  funext l f
  rw [if_neg h]
theorem Pt.run_under_pick (s g : Tm) (b : Bool) (h : s.picker = true) : (Pt.under s g).run b = T.stepped (underRun (s.run false) (g.run b)) := by
  rw [Pt.run_fun]
  congr 1
  funext l f
  show (if s.picker then _ else _) = _
  rw [if_pos h]
  rfl
theorem Pt.run_under_way (s g : Tm) (b : Bool) (h : s.picker = false) (h2 : (s.back && s.plain) = true) : (Pt.under s g).run b = T.stepped (fun l f => Res.then (s.run false l f) fun l1 f1 => Res.then (g.run b l1 f1) (s.run true)) := by
  rw [Pt.run_fun]
  congr 1
  funext l f
  show (if s.picker then _ else _) = _
  rw [if_neg (by rw [h]; simp), if_pos h2]
theorem Tm.run_nil_fun (b : Bool) : Tm.nil.run b = fun l f => .ok l f := by funext l f; rw [Tm.run_nil]
theorem Tm.run_fwd_fun (p : Pt) (t : Tm) : (Tm.cons p t).run false = fun l f => Res.then (p.run false l f) (t.run false) := by funext l f; rw [Tm.run_fwd]
theorem Tm.run_bwd_fun (p : Pt) (t : Tm) : (Tm.cons p t).run true = fun l f => Res.then (t.run true l f) (p.run true) := by funext l f; rw [Tm.run_bwd]
end T
end Go.Proofs.YtikiaijgcjjloaaGreatDoor

namespace Go.Proofs.YtikiaijgcjjloaaGreatDoor
namespace T
open Go.Lib M
def listText : List Rat → List UInt8
  | [] => []
  | [x] => ratText x
  | x :: l => ratText x ++ 44 :: listText l
structure IsList (s : List UInt8) (l : List Rat) : Prop where
  len : l.length ≤ 12
  small : AllS l
  text : listText l = s
theorem stop_44 (r : List UInt8) : Stop (44 :: r) := fun c h => by cases h; exact ⟨by decide, by decide, by decide, by decide⟩
theorem stop_nil : Stop [] := fun _ h => by cases h
theorem ratText_ne (x : Rat) : ratText x ≠ [] := by
  unfold ratText numText
  intro h
  have h1 : itoa x.num = [] := (List.append_eq_nil_iff.1 h).1
  by_cases hn : x.num < 0
  · rw [M.itoa_neg _ hn] at h1; cases h1
  · rw [M.itoa_pos _ hn] at h1; exact dec_ne _ h1
theorem listText_cons2 (x y : Rat) (l : List Rat) : listText (x :: y :: l) = ratText x ++ 44 :: listText (y :: l) := rfl
theorem listText_one (x : Rat) : listText [x] = ratText x := rfl
theorem listText_inj : ∀ {l l' : List Rat}, listText l = listText l' → l = l'
  | [], [], _ => rfl
  | [], [y], h => absurd h.symm (ratText_ne y)
  | [], y :: z :: l, h => by
    rw [listText_cons2] at h
    exact absurd (List.append_eq_nil_iff.1 h.symm).1 (ratText_ne y)
  | [x], [], h => absurd h (ratText_ne x)
  | x :: z :: l, [], h => by
    rw [listText_cons2] at h
    exact absurd (List.append_eq_nil_iff.1 h).1 (ratText_ne x)
  | [x], [y], h => by
    rw [listText_one, listText_one] at h
    have := (ratText_split (x := x) (y := y) (r := []) (r' := []) (by simpa using h) stop_nil stop_nil).1
    rw [this]
  | [x], y :: z :: l, h => by
    rw [listText_one, listText_cons2] at h
    have := (ratText_split (x := x) (y := y) (r := []) (by simpa using h) stop_nil (stop_44 _)).2
    cases this
  | x :: z :: l, [y], h => by
    rw [listText_one, listText_cons2] at h
    have := (ratText_split (x := x) (y := y) (r' := []) (by simpa using h) (stop_44 _) stop_nil).2
    cases this
  | x :: z :: l, y :: z' :: l', h => by
    rw [listText_cons2, listText_cons2] at h
    obtain ⟨rfl, e⟩ := ratText_split h (stop_44 _) (stop_44 _)
    simp only [List.cons.injEq, true_and] at e
    rw [listText_inj e]
theorem IsList.unique {s : List UInt8} {l l' : List Rat} (h : IsList s l) (h' : IsList s l') : l = l' := listText_inj (h.text.trans h'.text.symm)
def Shape (s : List UInt8) : Prop := ∃ t : Tm, t.wf ∧ t.text = s
def Check (env : Env) (s : List UInt8) (c : Int) : Prop :=
  (120 < s.length ∧ c = 5) ∨ (s.length ≤ 120 ∧ ¬ Shape s ∧ c = 6) ∨ (s.length ≤ 120 ∧ Shape s ∧ (¬ ∃ t, IsTerm env s t) ∧ c = 7)
structure Good (env : Env) (s : List UInt8) (t : Tm) : Prop where
  len : s.length ≤ 120
  term : IsTerm env s t
theorem Check.ne {env : Env} {s : List UInt8} {c : Int} (h : Check env s c) : c ≠ 0 := by
  rcases h with ⟨_, rfl⟩ | ⟨_, _, rfl⟩ | ⟨_, _, _, rfl⟩ <;> decide
theorem Check.not_good {env : Env} {s : List UInt8} {c : Int} {t : Tm} (h : Check env s c) (g : Good env s t) : False := by
  rcases h with ⟨h, _⟩ | ⟨_, h, _⟩ | ⟨_, _, h, _⟩
  · have := g.len; omega
  · exact h ⟨t, g.term.wf, g.term.text⟩
  · exact h ⟨t, g.term⟩
theorem Check.unique {env : Env} {s : List UInt8} {c c' : Int} (h : Check env s c) (h' : Check env s c') : c = c' := by
  rcases h with ⟨h1, rfl⟩ | ⟨h1, h2, rfl⟩ | ⟨h1, h2, h3, rfl⟩ <;> rcases h' with ⟨k1, rfl⟩ | ⟨k1, k2, rfl⟩ | ⟨k1, k2, k3, rfl⟩ <;> first | rfl | omega | exact absurd h2 k2 | exact absurd k2 h2
theorem Good.unique {env : Env} {s : List UInt8} {t t' : Tm} (h : Good env s t) (h' : Good env s t') : t = t' := h.term.unique h'.term
def factsNum (t : Tm) : Int := (if t.back then 1 else 0) + (if t.picker then 2 else 0) + (if t.plain then 4 else 0)
def FactsSays (env : Env) (s : List UInt8) (n e : Int) : Prop := (Check env s e ∧ n = 0) ∨ ∃ t, Good env s t ∧ n = factsNum t ∧ e = 0
def RunSays (res : Res) (fuel : Int) (r : List UInt8) (n e : Int) : Prop := match res with
  | .ok l f => r = listText l ∧ n = fuel - f ∧ e = 0
  | .err x => r = [] ∧ n = 0 ∧ e = x
def ApplySays (env : Env) (s ls : List UInt8) (fuel : Int) (r : List UInt8) (n e : Int) : Prop :=
  (Check env s e ∧ r = [] ∧ n = 0) ∨ ∃ t, Good env s t ∧ (((¬ ∃ l, IsList ls l) ∧ r = [] ∧ n = 0 ∧ e = 8) ∨ ∃ l, IsList ls l ∧ (((fuel < 0 ∨ 5000 < fuel) ∧ r = [] ∧ n = 0 ∧ e = 9) ∨ (0 ≤ fuel ∧ fuel ≤ 5000 ∧ RunSays (t.run false l fuel.toNat) fuel r n e)))
mutual
def Pt.opp : Pt → Pt
  | .sp x => .sp (x.opp.getD x)
  | .pow f k => .pow f (-k)
  | .under s g => .under s g.opp
  | .name c b => .pow (.cons (.name c b) .nil) (-1)
def Tm.opp : Tm → Tm
  | .nil => .nil
  | .cons p t => t.opp.snoc p.opp
def Tm.snoc : Tm → Pt → Tm
  | .nil, q => .cons q .nil
  | .cons p t, q => .cons p (t.snoc q)
end
def Env.put (env : Env) (c : UInt8) (t : Tm) : Env := fun d => if d = c then some t else env d
def DefineSays (env : Env) (name s : List UInt8) (e : Int) (env' : Env) : Prop :=
  ((¬ ∃ c : UInt8, name = [c] ∧ 65 ≤ c.toNat ∧ c.toNat ≤ 90) ∧ e = 4 ∧ env' = env) ∨ ∃ c : UInt8, name = [c] ∧ 65 ≤ c.toNat ∧ c.toNat ≤ 90 ∧ ((Check env s e ∧ env' = env) ∨ ∃ t, Good env s t ∧ e = 0 ∧ env' = env.put c t)
theorem RunSays.unique {res : Res} {fuel : Int} {r r' : List UInt8} {n e n' e' : Int} (h : RunSays res fuel r n e) (h' : RunSays res fuel r' n' e') : r = r' ∧ n = n' ∧ e = e' := by
  cases res with
  | ok l f => obtain ⟨rfl, rfl, rfl⟩ := h; obtain ⟨rfl, rfl, rfl⟩ := h'; exact ⟨rfl, rfl, rfl⟩
  | err x => obtain ⟨rfl, rfl, rfl⟩ := h; obtain ⟨rfl, rfl, rfl⟩ := h'; exact ⟨rfl, rfl, rfl⟩
theorem ApplySays.unique {env : Env} {s ls : List UInt8} {fuel : Int} {r r' : List UInt8} {n e n' e' : Int} (h : ApplySays env s ls fuel r n e) (h' : ApplySays env s ls fuel r' n' e') : r = r' ∧ n = n' ∧ e = e' := by
  rcases h with ⟨h1, rfl, rfl⟩ | ⟨t, g, h⟩ <;> rcases h' with ⟨k1, rfl, rfl⟩ | ⟨t', g', h'⟩
  · exact ⟨rfl, rfl, h1.unique k1⟩
  · exact (h1.not_good g').elim
  · exact (k1.not_good g).elim
  · obtain rfl := g.unique g'
    rcases h with ⟨h1, rfl, rfl, rfl⟩ | ⟨l, hl, h⟩ <;> rcases h' with ⟨k1, rfl, rfl, rfl⟩ | ⟨l', hl', h'⟩
    · exact ⟨rfl, rfl, rfl⟩
    · exact absurd ⟨l', hl'⟩ h1
    · exact absurd ⟨l, hl⟩ k1
    · obtain rfl := hl.unique hl'
      rcases h with ⟨h1, rfl, rfl, rfl⟩ | ⟨h1, h2, h3⟩ <;> rcases h' with ⟨k1, rfl, rfl, rfl⟩ | ⟨k1, k2, k3⟩
      · exact ⟨rfl, rfl, rfl⟩
      · omega
      · omega
      · exact h3.unique k3
theorem DefineSays.unique {env : Env} {name s : List UInt8} {e e' : Int} {v v' : Env} (h : DefineSays env name s e v) (h' : DefineSays env name s e' v') : e = e' ∧ v = v' := by
  rcases h with ⟨h1, rfl, rfl⟩ | ⟨c, rfl, c1, c2, h⟩ <;> rcases h' with ⟨k1, rfl, rfl⟩ | ⟨c', hc, d1, d2, h'⟩
  · exact ⟨rfl, rfl⟩
  · exact absurd ⟨c', hc, d1, d2⟩ h1
  · exact absurd ⟨c, rfl, c1, c2⟩ k1
  · simp only [List.cons.injEq, and_true] at hc
    subst hc
    rcases h with ⟨h1, rfl⟩ | ⟨t, g, rfl, rfl⟩ <;> rcases h' with ⟨k1, rfl⟩ | ⟨t', g', rfl, rfl⟩
    · exact ⟨h1.unique k1, rfl⟩
    · exact (h1.not_good g').elim
    · exact (k1.not_good g).elim
    · obtain rfl := g.unique g'; exact ⟨rfl, rfl⟩
end T
end Go.Proofs.YtikiaijgcjjloaaGreatDoor

namespace Go.Proofs.YtikiaijgcjjloaaGreatDoor
namespace T
open Go.Lib M
theorem lowP_rat (p : Int) (b : Nat) (hb : 1 ≤ b) : lowP p b = (mkRat p b).num := by
  rw [Rat.num_mkRat, if_neg (by omega)]
  unfold lowP gg
  rw [Int.natAbs_natCast, Nat.gcd_comm b]
  refine Int.tdiv_eq_ediv_of_dvd ?_
  exact Int.ofNat_dvd_left.2 (Nat.gcd_dvd_left _ _)
theorem lowQ_rat (p : Int) (b : Nat) (hb : 1 ≤ b) : lowQ p b = ((mkRat p b).den : Int) := by
  rw [Rat.den_mkRat, if_neg (by omega), lowQ_eq p b (by omega)]
  unfold gg
  rw [Int.natAbs_natCast, Nat.gcd_comm b]
theorem fits_rat (p : Int) (b : Nat) (hb : 1 ≤ b) : fitsB p b = small (mkRat p b) := by
  have h1 := lowP_abs p b
  have h2 := lowQ_eq p b (by omega)
  have h3 := lowP_rat p b hb
  have h4 := lowQ_rat p b hb
  unfold fitsB small
  rw [Bool.eq_iff_iff]
  simp only [decide_eq_true_eq]
  rw [← h3]
  omega
theorem add_rat (x y : Rat) : x + y = mkRat (x.num * y.den + y.num * x.den) (x.den * y.den) := by
  have h : (mkRat x.num x.den) + (mkRat y.num y.den) = mkRat (x.num * y.den + y.num * x.den) (x.den * y.den) := Rat.mkRat_add_mkRat _ _ x.den_nz y.den_nz
  rw [Rat.mkRat_self, Rat.mkRat_self] at h
  exact h
theorem mul_rat (x y : Rat) : x * y = mkRat (x.num * y.num) (x.den * y.den) := by
  have h : (mkRat x.num x.den) * (mkRat y.num y.den) = mkRat (x.num * y.num) (x.den * y.den) := Rat.mkRat_mul_mkRat _ _ _ _
  rw [Rat.mkRat_self, Rat.mkRat_self] at h
  exact h
theorem add_pairs (x y : Rat) : fitsB (x.num * y.den + y.num * x.den) ((x.den : Int) * y.den) = small (x + y) ∧ lowP (x.num * y.den + y.num * x.den) ((x.den : Int) * y.den) = (x + y).num ∧ lowQ (x.num * y.den + y.num * x.den) ((x.den : Int) * y.den) = ((x + y).den : Int) := by
  have e : ((x.den : Int) * y.den) = ((x.den * y.den : Nat) : Int) := by simp
  have hb : 1 ≤ x.den * y.den := Nat.mul_pos x.den_pos y.den_pos
  rw [e, add_rat]
  exact ⟨fits_rat _ _ hb, lowP_rat _ _ hb, lowQ_rat _ _ hb⟩
theorem mul_pairs (x y : Rat) : fitsB (x.num * y.num) ((x.den : Int) * y.den) = small (x * y) ∧ lowP (x.num * y.num) ((x.den : Int) * y.den) = (x * y).num ∧ lowQ (x.num * y.num) ((x.den : Int) * y.den) = ((x * y).den : Int) := by
  have e : ((x.den : Int) * y.den) = ((x.den * y.den : Nat) : Int) := by simp
  have hb : 1 ≤ x.den * y.den := Nat.mul_pos x.den_pos y.den_pos
  rw [e, mul_rat]
  exact ⟨fits_rat _ _ hb, lowP_rat _ _ hb, lowQ_rat _ _ hb⟩
theorem inv_pairs (x : Rat) (h : x ≠ 0) : x⁻¹.num = (if x.num < 0 then -(x.den : Int) else x.den) ∧ (x⁻¹.den : Int) = (if x.num < 0 then -x.num else x.num) := by
  have hn := num_ne h
  rw [Rat.num_inv, Rat.den_inv, if_neg hn]
  by_cases h0 : x.num < 0
  · rw [if_pos h0, if_pos h0, Int.sign_eq_neg_one_of_neg h0]
    omega
  · rw [if_neg h0, if_neg h0, Int.sign_eq_one_of_pos (by omega)]
    omega
theorem isNum_rat {s : List UInt8} {t b : Int} (h : IsNum s t b) : ∃ x : Rat, small x = true ∧ s = ratText x ∧ t = x.num ∧ b = (x.den : Int) := by
  have hb : b.toNat ≠ 0 := by have := h.b1; omega
  have hc : t.natAbs.Coprime b.toNat := by
    have := h.gc
    rw [show b.natAbs = b.toNat by have := h.b1; omega] at this
    exact this
  refine ⟨⟨t, b.toNat, hb, hc⟩, ?_, ?_, rfl, ?_⟩
  · unfold small
    apply decide_eq_true
    have := h.lo; have := h.hi; have := h.b1; have := h.b2
    show t.natAbs ≤ 1000000000 ∧ b.toNat ≤ 1000000000
    omega
  · rw [h.tx]
    unfold ratText
    have : (b.toNat : Int) = b := by have := h.b1; omega
    show numText t b = numText t (b.toNat : Int)
    rw [this]
  · show b = (b.toNat : Int)
    have := h.b1
    omega
theorem rat_isNum {x : Rat} (h : small x = true) : IsNum (ratText x) x.num (x.den : Int) := by
  unfold small at h
  have h' := of_decide_eq_true h
  have hd := x.den_pos
  refine ⟨by omega, by omega, by omega, by omega, ?_, rfl⟩
  have := x.reduced
  rw [Int.natAbs_natCast]
  exact this
theorem num_zero {x : Rat} : x.num = 0 ↔ x = 0 := by
  constructor
  · intro h
    have := Rat.mkRat_self x
    rw [h] at this
    rw [← this]; simp
  · intro h; rw [h]; rfl
theorem root_pairs_some {x : Rat} {a b : Nat} (ha : (a : Int) * a = x.num) (hb : (b : Int) * b = (x.den : Int)) : ∃ y, root x = some y ∧ y.num = a ∧ y.den = b := by
  have hb0 : b ≠ 0 := by
    intro e; subst e
    have := x.den_pos
    simp at hb
    omega
  have ha' : a * a = x.num.natAbs := by
    have : ((a * a : Nat) : Int) = x.num := by simpa using ha
    omega
  have hb' : b * b = x.den := by
    have : ((b * b : Nat) : Int) = (x.den : Int) := by simpa using hb
    omega
  have hc : Nat.gcd a b = 1 := by
    have hx := x.reduced
    unfold Nat.Coprime at hx
    rw [← ha', ← hb'] at hx
    have h1 : Nat.gcd a b ∣ Nat.gcd (a * a) (b * b) := Nat.dvd_gcd (Nat.dvd_mul_right_of_dvd (Nat.gcd_dvd_left a b) a) (Nat.dvd_mul_right_of_dvd (Nat.gcd_dvd_right a b) b)
    rw [hx] at h1
    exact Nat.dvd_one.1 h1
  refine ⟨mkRat a b, ?_, ?_, ?_⟩
  · unfold root
    have hn : ¬ x.num < 0 := by
      have : ((a * a : Nat) : Int) = x.num := by simpa using ha
      omega
    rw [if_neg hn, ← ha', ← hb', rootN_sq, rootN_sq]
  · rw [Rat.num_mkRat, if_neg hb0]
    show (a : Int) / ((Nat.gcd b a : Nat) : Int) = a
    rw [Nat.gcd_comm, hc]
    simp
  · rw [Rat.den_mkRat, if_neg hb0]
    show b / Nat.gcd b a = b
    rw [Nat.gcd_comm, hc]
    simp
theorem root_pairs_none {x : Rat} (h : (∀ r : Nat, (r : Int) * r ≠ x.num) ∨ (∀ r : Nat, (r : Int) * r ≠ (x.den : Int))) : root x = none := by
  cases hr : root x with
  | none => rfl
  | some y =>
    exfalso
    obtain ⟨h0, h1⟩ := root_some hr
    obtain ⟨h2, h3⟩ := sq_parts y
    rw [h1] at h2 h3
    rcases h with h | h
    · apply h y.num.natAbs
      rw [h2]
      have : 0 ≤ y.num := Rat.num_nonneg.2 h0
      rw [show ((y.num.natAbs : Nat) : Int) = y.num by omega]
    · apply h y.den
      rw [h3]
      simp
end T
end Go.Proofs.YtikiaijgcjjloaaGreatDoor

import Derived.Test.YtikiaijgcjjloaaGreatDoorPart36
import Derived.Test.YtikiaijgcjjloaaGreatDoorPart35
import Derived.Test.YtikiaijgcjjloaaGreatDoorPart29

/- The statement There, over the answers as relations. No program in this text. -/
namespace Go.Proofs.YtikiaijgcjjloaaGreatDoor
namespace T
open Go.Lib M

/-! ### Runs that can't meet a missing way back -/
mutual
def Pt.calm : Pt → Bool → Bool
  | .sp x, b => !b || x.opp.isSome
  | .pow f k, b => (f.back || !decide ((if b then -k else k) < 0)) && f.calm (decide ((if b then -k else k) < 0))
  | .under s g, b => if s.picker then s.calm false && g.calm b else (s.back && s.plain) && (s.calm false && (g.calm b && s.calm true))
  | .name _ t, b => t.calm b
def Tm.calm : Tm → Bool → Bool
  | .nil, _ => true
  | .cons p t, b => p.calm b && t.calm b
end
def No12 (g : List Rat → Nat → Res) : Prop := ∀ l f, g l f ≠ .err 12
theorem No12.then {g h : List Rat → Nat → Res} (hg : No12 g) (hh : No12 h) : No12 (fun l f => Res.then (g l f) h) := by
  intro l f he
  change Res.then (g l f) h = _ at he
  cases hr : g l f with
  | err e => rw [hr] at he; exact hg l f (hr.trans he)
  | ok l1 f1 => rw [hr] at he; exact hh _ _ he
theorem No12.stepped {g : List Rat → Nat → Res} (hg : No12 g) : No12 (T.stepped g) := by
  intro l f he
  cases f with
  | zero => cases he
  | succ f => exact hg l f he
theorem no12_id : No12 (fun l f => .ok l f) := fun _ _ h => by cases h
theorem No12.iter {g : List Rat → Nat → Res} (hg : No12 g) : ∀ k, No12 (T.iter g k)
  | 0 => by rw [iter_zero_fun]; exact no12_id
  | k + 1 => by rw [iter_succ_fun]; exact (hg.then (No12.iter hg k)).stepped
theorem no12_work (y : Sp) (l : List Rat) (f : Nat) : lift (y.work l) f ≠ .err 12 := by
  intro he
  cases hr : y.work l with
  | error e =>
    rw [hr] at he
    cases he
    rcases Sp.no10 hr with h | h | h <;> cases h
  | ok x => rw [hr] at he; cases he
mutual
theorem Pt.no12 : ∀ (p : Pt) (b : Bool), p.calm b = true → No12 (p.run b)
  | .sp x, b, hc => by
    rw [Pt.run_sp]
    refine No12.stepped fun l f he => ?_
    cases b with
    | false => exact no12_work x l f he
    | true =>
      change lift (x.workBack l) f = _ at he
      unfold Sp.workBack at he
      cases ho : x.opp with
      | none => rw [Pt.calm, ho] at hc; cases hc
      | some y => rw [ho] at he; exact no12_work y l f he
  | .pow t k, b, hc => by
    rw [Pt.calm, Bool.and_eq_true, Bool.or_eq_true] at hc
    rw [Pt.run_pow_ok _ _ _ (by
      rintro ⟨h1, h2⟩
      rcases hc.1 with h | h
      · rw [h2] at h; cases h
      · simp only [Bool.not_eq_true', decide_eq_false_iff_not] at h
        exact h h1)]
    exact ((Tm.no12 t _ hc.2).iter _).stepped
  | .under s g, b, hc => by
    rw [Pt.calm] at hc
    by_cases hp : s.picker = true
    · rw [if_pos hp, Bool.and_eq_true] at hc
      rw [Pt.run_under_pick _ _ _ hp]
      refine No12.stepped fun l f he => ?_
      unfold underRun at he
      cases hr : s.run false (allPlaces l.length) f with
      | err e => rw [hr] at he; exact Tm.no12 s false hc.1 _ _ (hr.trans he)
      | ok at_ f1 =>
        rw [hr, then_of_ok] at he
        cases hr2 : g.run b (picked (places at_) l) f1 with
        | err e => rw [hr2] at he; exact Tm.no12 g b hc.2 _ _ (hr2.trans he)
        | ok ys f2 =>
          rw [hr2, then_of_ok] at he
          split at he <;> cases he
    · simp only [if_neg hp, Bool.and_eq_true] at hc
      rw [Pt.run_under_way _ _ _ (by simpa using hp) (by rw [Bool.and_eq_true]; exact hc.1)]
      exact ((Tm.no12 s false hc.2.1).then ((Tm.no12 g b hc.2.2.1).then (Tm.no12 s true hc.2.2.2))).stepped
  | .name c t, b, hc => by
    rw [Pt.calm] at hc
    rw [Pt.run_name]
    exact (Tm.no12 t b hc).stepped
theorem Tm.no12 : ∀ (t : Tm) (b : Bool), t.calm b = true → No12 (t.run b)
  | .nil, b, _ => by rw [Tm.run_nil_fun]; exact no12_id
  | .cons p t, false, hc => by
    rw [Tm.calm, Bool.and_eq_true] at hc
    rw [Tm.run_fwd_fun]
    exact (Pt.no12 p false hc.1).then (Tm.no12 t false hc.2)
  | .cons p t, true, hc => by
    rw [Tm.calm, Bool.and_eq_true] at hc
    rw [Tm.run_bwd_fun]
    exact (Tm.no12 t true hc.2).then (Pt.no12 p true hc.1)
end

/-! ### The parts of There -/
def one (x : Sp) : Tm := .cons (.sp x) .nil
def way : Nat → Pt
  | 0 => .sp .n
  | 1 => .sp .r
  | 2 => .sp (.shift 1)
  | 3 => .sp (.shift (-5))
  | 4 => .sp .v
  | 5 => .sp (.plus (mkRat 1 2))
  | 6 => .sp (.times (-3))
  | 7 => .sp .s
  | 8 => .sp .z
  | 9 => .sp .w
  | 10 => .sp .u
  | 11 => .sp .o
  | 12 => .sp .m
  | 13 => .pow (one .u) (-1)
  | 14 => .pow (.cons (.sp (.plus 2)) (one .s)) 2
  | 15 => .under (one .r) (one .n)
  | 16 => .under (one (.pick [1, 0])) (one .o)
  | 17 => .under (one .v) (one (.plus 1))
  | _ => .under (one (.take 2)) (one .s)
/-- What holds of each way. -/
structure WayOk (p : Pt) : Prop where
  wf : p.wf
  env : p.inEnv noEnv
  back : p.back = true
  plain : p.plain = true
  calm : p.calm false = true
  cost : p.cost ≤ 7
theorem small_half : small (mkRat 1 2) = true := by decide +kernel
theorem small_m3 : small (-3 : Rat) = true := by decide +kernel
theorem small_2 : small (2 : Rat) = true := by decide +kernel
theorem small_1 : small (1 : Rat) = true := by decide +kernel
theorem way_ok : ∀ k, WayOk (way k)
  | 0 | 1 | 4 | 7 | 8 | 9 | 10 | 11 | 12 => by
    constructor <;> first | (simp [way, Pt.wf, Sp.wf]; done) | (simp [way, Pt.inEnv]; done) | (simp [way, Pt.back, Sp.opp]; done) | (simp [way, Pt.plain, Sp.plain]; done) | (simp [way, Pt.calm]; done) | (simp [way, Pt.cost]; done)
  | 2 | 3 => by
    constructor <;> first | (simp [way, Pt.wf, Sp.wf]; done) | (simp [way, Pt.inEnv]; done) | (simp [way, Pt.back, Sp.opp]; done) | (simp [way, Pt.plain, Sp.plain]; done) | (simp [way, Pt.calm]; done) | (simp [way, Pt.cost]; done)
  | 5 => by
    constructor <;> first | (simp [way, Pt.wf, Sp.wf, small_half]; done) | (simp [way, Pt.inEnv]; done) | (simp [way, Pt.back, Sp.opp]; done) | (simp [way, Pt.plain, Sp.plain]; done) | (simp [way, Pt.calm]; done) | (simp [way, Pt.cost]; done)
  | 6 => by
    constructor <;> first | (simp [way, Pt.wf, Sp.wf, small_m3]; done) | (simp [way, Pt.inEnv]; done) | (rw [way, Pt.back, Sp.opp, if_neg (by decide +kernel)]; rfl) | (simp [way, Pt.plain, Sp.plain]; done) | (simp [way, Pt.calm]; done) | (simp [way, Pt.cost]; done)
  | 13 => by
    constructor <;> simp [way, one, Pt.wf, Tm.wf, Sp.wf, Pt.inEnv, Tm.inEnv, Pt.back, Tm.back, Sp.opp, Pt.plain, Tm.plain, Sp.plain, Pt.calm, Tm.calm, Pt.cost, Tm.cost]
  | 14 => by
    constructor <;> simp [way, one, Pt.wf, Tm.wf, Sp.wf, Pt.inEnv, Tm.inEnv, Pt.back, Tm.back, Sp.opp, Pt.plain, Tm.plain, Sp.plain, Pt.calm, Tm.calm, Pt.cost, Tm.cost, small_2]
  | 15 => by
    constructor <;> simp [way, one, Pt.wf, Tm.wf, Sp.wf, Pt.inEnv, Tm.inEnv, Pt.back, Tm.back, Sp.opp, Pt.plain, Tm.plain, Sp.plain, Pt.calm, Tm.calm, Pt.cost, Tm.cost, Pt.picker, Tm.picker, Sp.picker]
  | 16 => by
    constructor <;> simp [way, one, Pt.wf, Tm.wf, Sp.wf, Pt.inEnv, Tm.inEnv, Pt.back, Tm.back, Sp.opp, Pt.plain, Tm.plain, Sp.plain, Pt.calm, Tm.calm, Pt.cost, Tm.cost, Pt.picker, Tm.picker, Sp.picker]
  | 17 => by
    constructor <;> simp [way, one, Pt.wf, Tm.wf, Sp.wf, Pt.inEnv, Tm.inEnv, Pt.back, Tm.back, Sp.opp, Pt.plain, Tm.plain, Sp.plain, Pt.calm, Tm.calm, Pt.cost, Tm.cost, Pt.picker, Tm.picker, Sp.picker, small_1]
  | _ + 18 => by
    constructor <;> simp [way, one, Pt.wf, Tm.wf, Sp.wf, Pt.inEnv, Tm.inEnv, Pt.back, Tm.back, Sp.opp, Pt.plain, Tm.plain, Sp.plain, Pt.calm, Tm.calm, Pt.cost, Tm.cost, Pt.picker, Tm.picker, Sp.picker]

/-! ### THERE -/
def waysTm : List Nat → Tm
  | [] => .nil
  | k :: ks => .cons (way k) (waysTm ks)
structure WaysOk (t : Tm) (n : Nat) : Prop where
  wf : t.wf
  env : t.inEnv noEnv
  back : t.back = true
  plain : t.plain = true
  calm : t.calm false = true
  cost : t.cost ≤ 7 * n
theorem ways_ok : ∀ ks : List Nat, WaysOk (waysTm ks) ks.length
  | [] => by constructor <;> simp [waysTm, Tm.wf, Tm.inEnv, Tm.back, Tm.plain, Tm.calm, Tm.cost]
  | k :: ks => by
    have h1 := way_ok k
    have h2 := ways_ok ks
    constructor
    · rw [waysTm, Tm.wf]; exact ⟨h1.wf, h2.wf⟩
    · rw [waysTm, Tm.inEnv]; exact ⟨h1.env, h2.env⟩
    · rw [waysTm, Tm.back, h1.back, h2.back]; rfl
    · rw [waysTm, Tm.plain, h1.plain, h2.plain]; rfl
    · rw [waysTm, Tm.calm, h1.calm, h2.calm]; rfl
    · rw [waysTm, Tm.cost]
      have := h1.cost
      have := h2.cost
      simp only [List.length_cons]
      omega
theorem way_sure (k : Nat) (hk : k < 4) (l : List Rat) (f : Nat) : ∃ l', (way k).run false l (f + 1) = .ok l' f := by
  have : k = 0 ∨ k = 1 ∨ k = 2 ∨ k = 3 := by omega
  rcases this with rfl | rfl | rfl | rfl <;> exact ⟨_, by rw [way, Pt.run_sp]; rfl⟩
theorem ways_sure : ∀ (ks : List Nat), (∀ k ∈ ks, k < 4) → ∀ (l : List Rat) (f : Nat), ∃ l', (waysTm ks).run false l (f + ks.length) = .ok l' f
  | [], _, l, f => ⟨l, by rw [waysTm, Tm.run_nil]; rfl⟩
  | k :: ks, h, l, f => by
    obtain ⟨l1, e1⟩ := way_sure k (h k (by simp)) l (f + ks.length)
    obtain ⟨l2, e2⟩ := ways_sure ks (fun j hj => h j (by simp [hj])) l1 f
    refine ⟨l2, ?_⟩
    rw [waysTm, Tm.run_fwd, show f + (k :: ks).length = f + ks.length + 1 by simp; omega, e1]
    exact e2
theorem powText_len1 (s : List UInt8) : (powText s 1).length = s.length + 4 := by
  unfold powText; rw [itoa_1]; simp
theorem run_plus1 (t : Tm) (L : List Rat) (F : Nat) : (Tm.cons (.pow t 1) .nil).run false L (F + 2) = t.run false L F := by
  have := run_power t 1 L (F + 1)
  rw [show ((1 : Nat) : Int) = 1 from rfl] at this
  rw [this, iter_one]
theorem k_there {ks : List Nat} {s ls : List UInt8} {L : List Rat} (hs : (waysTm ks).text = s) (hlen : s.length ≤ 115) (hks : ks.length ≤ 200) (hL : IsList ls L) {l : List UInt8} {n e : Int} (h : ApplySays noEnv (powText s 1) ls 5000 l n e) :
    (e ≠ 0 → l = [] ∧ n = 0 ∧ (e = 2 ∨ e = 3 ∨ e = 11) ∧ ¬ ∀ k ∈ ks, k < 4) ∧ (e = 0 → ∀ {back : List UInt8} {m f : Int}, ApplySays noEnv (powText s (-1)) l 5000 back m f → f = 0 ∧ back = ls ∧ m = n ∧ 2 ≤ n) := by
  have ok := ways_ok ks
  have ht : IsTerm noEnv s (waysTm ks) := ⟨ok.wf, ok.env, hs⟩
  have g1 : Good noEnv (powText s 1) (.cons (.pow (waysTm ks) 1) .nil) := ⟨by rw [powText_len1]; omega, ht.pow (by omega) (by omega)⟩
  have g2 : Good noEnv (powText s (-1)) (.cons (.pow (waysTm ks) (-1)) .nil) := ⟨by rw [powText_len]; omega, ht.pow (by omega) (by omega)⟩
  have h' : ApplySays noEnv (powText s 1) ls ((4998 + 2 : Nat) : Int) l n e := h
  generalize hT : waysTm ks = t at *
  cases hr : t.run false L 4998 with
  | err x =>
    obtain ⟨e1, e2, e3⟩ := h'.unique (apply_mk (r := []) (n := 0) (e := x) g1 hL (by omega) (by omega) (by rw [Int.toNat_natCast, run_plus1, hr]; exact ⟨rfl, rfl, rfl⟩))
    have hx := Tm.errs t false _ _ _ hr
    refine ⟨fun _ => ⟨e1, e2, ?_, fun hsure => ?_⟩, fun he => absurd (e3.symm.trans he) hx.ne⟩
    · have h10 : x ≠ 10 := by
        intro hx10
        subst hx10
        have := (Tm.within t false).2 _ _ hr
        have := ok.cost
        omega
      have h12 : x ≠ 12 := by
        intro hx12
        subst hx12
        exact Tm.no12 t false ok.calm _ _ hr
      rw [e3]
      rcases hx with h | h | h | h | h
      · exact Or.inl h
      · exact Or.inr (Or.inl h)
      · exact absurd h h10
      · exact Or.inr (Or.inr h)
      · exact absurd h h12
    · obtain ⟨l', hl'⟩ := ways_sure ks hsure L (4998 - ks.length)
      rw [hT, show 4998 - ks.length + ks.length = 4998 by omega, hr] at hl'
      cases hl'
  | ok L' f' =>
    obtain ⟨e1, e2, e3⟩ := h'.unique (apply_mk (r := listText L') (n := ((4998 + 2 : Nat) : Int) - f') (e := 0) g1 hL (by omega) (by omega) (by rw [Int.toNat_natCast, run_plus1, hr]; exact ⟨rfl, rfl, rfl⟩))
    refine ⟨fun he => absurd e3 he, fun _ => ?_⟩
    intro back m f hb
    rw [e1] at hb
    have hb' : ApplySays noEnv (powText s (-1)) (listText L') ((4998 + 2 : Nat) : Int) back m f := hb
    obtain ⟨k1, k2⟩ := Tm.redo t ok.back ok.plain ok.wf hL.small hr
    have hL' := run_list ok.wf hL hr
    obtain ⟨d1, d2, d3⟩ := hb'.unique (apply_mk (r := ls) (n := ((4998 + 2 : Nat) : Int) - f') (e := 0) g2 hL' (by omega) (by omega) (by rw [Int.toNat_natCast, run_minus t L' 4998 ok.back, k1]; exact ⟨hL.text.symm, rfl, rfl⟩))
    obtain ⟨st, hst, _⟩ := (Tm.paced t false).steps hr
    exact ⟨d3, d1, by rw [d2, e2], by omega⟩
end T
end Go.Proofs.YtikiaijgcjjloaaGreatDoor

/- The walk of unwindkeep.There. -/
namespace Go.Proofs.YtikiaijgcjjloaaGreatDoor
open Go Go.RowKit M T Go.Lib

theorem d1 : decDigits 1 = [49] := by rw [dec_small 1 (by omega)]; rfl
theorem d2 : decDigits 2 = [50] := by rw [dec_small 2 (by omega)]; rfl
theorem d3 : decDigits 3 = [51] := by rw [dec_small 3 (by omega)]; rfl
theorem d5 : decDigits 5 = [53] := by rw [dec_small 5 (by omega)]; rfl
theorem d0 : decDigits 0 = [48] := by rw [dec_small 0 (by omega)]; rfl
theorem ratText_n (n : Nat) : ratText ((n : Nat) : Rat) = decDigits n := by
  have := ratText_int (n : Int)
  rw [M.itoa_pos _ (by omega), Int.natAbs_natCast] at this
  rw [← this]
  rfl
/-- How the ways are written. -/
def wayText : List (List UInt8) := [[110], [114], [60, 49], [60, 45, 53], [118], [43, 49, 47, 50], [42, 45, 51], [115], [122], [119], [117], [111], [109], [40, 117, 41, 94, 45, 49], [40, 43, 50, 115, 41, 94, 50], [91, 114, 58, 110, 93], [91, 35, 49, 46, 48, 58, 111, 93], [91, 118, 58, 43, 49, 93], [91, 116, 50, 58, 115, 93]]
theorem half_text : ratText (mkRat 1 2) = [49, 47, 50] := by
  show itoa 1 ++ (if ((2 : Nat) : Int) ≤ 1 then [] else 47 :: decDigits ((2 : Nat) : Int).toNat) = _
  rw [itoa_1, if_neg (by decide)]
  show [49] ++ 47 :: decDigits 2 = _
  rw [d2]
  rfl
theorem m3_text : ratText (-3 : Rat) = [45, 51] := by
  show itoa (-3) ++ (if ((1 : Nat) : Int) ≤ 1 then [] else 47 :: decDigits ((1 : Nat) : Int).toNat) = _
  rw [if_pos (by decide), M.itoa_neg _ (by omega)]
  show 45 :: decDigits 3 ++ [] = _
  rw [d3]
  rfl
theorem two_text : ratText (2 : Rat) = [50] := (ratText_n 2).trans d2
theorem one_text : ratText (1 : Rat) = [49] := (ratText_n 1).trans d1
theorem itoa_m5 : itoa (-5) = [45, 53] := by rw [M.itoa_neg _ (by omega)]; show 45 :: decDigits 5 = _; rw [d5]
theorem itoa_2 : itoa 2 = [50] := by rw [M.itoa_pos _ (by omega)]; exact d2
theorem way_text (k : Nat) (h : k < 19) : (way k).text = wayText.getD k [] := by
  match k, h with
  | 0, _ => rfl
  | 1, _ => rfl
  | 2, _ => show 60 :: itoa 1 = _; rw [itoa_1]; rfl
  | 3, _ => show 60 :: itoa (-5) = _; rw [itoa_m5]; rfl
  | 4, _ => rfl
  | 5, _ => show 43 :: ratText (mkRat 1 2) = _; rw [half_text]; rfl
  | 6, _ => show 42 :: ratText (-3) = _; rw [m3_text]; rfl
  | 7, _ => rfl
  | 8, _ => rfl
  | 9, _ => rfl
  | 10, _ => rfl
  | 11, _ => rfl
  | 12, _ => rfl
  | 13, _ => simp [way, Pt.text, Tm.text, T.one, Sp.text, itoa_m1, wayText]
  | 14, _ => simp [way, Pt.text, Tm.text, T.one, Sp.text, itoa_2, two_text, wayText]
  | 15, _ => simp [way, Pt.text, Tm.text, T.one, Sp.text, wayText]
  | 16, _ => simp [way, Pt.text, Tm.text, T.one, Sp.text, dots, d1, d0, wayText]
  | 17, _ => simp [way, Pt.text, Tm.text, T.one, Sp.text, one_text, wayText]
  | 18, _ => simp [way, Pt.text, Tm.text, T.one, Sp.text, d2, wayText]
  | k + 19, h => omega
/-- The row of the ways. -/
def wayRow : Array Value := #[.string ⟨#[110]⟩, .string ⟨#[114]⟩, .string ⟨#[60, 49]⟩, .string ⟨#[60, 45, 53]⟩, .string ⟨#[118]⟩, .string ⟨#[43, 49, 47, 50]⟩, .string ⟨#[42, 45, 51]⟩, .string ⟨#[115]⟩, .string ⟨#[122]⟩, .string ⟨#[119]⟩, .string ⟨#[117]⟩, .string ⟨#[111]⟩, .string ⟨#[109]⟩, .string ⟨#[40, 117, 41, 94, 45, 49]⟩, .string ⟨#[40, 43, 50, 115, 41, 94, 50]⟩, .string ⟨#[91, 114, 58, 110, 93]⟩, .string ⟨#[91, 35, 49, 46, 48, 58, 111, 93]⟩, .string ⟨#[91, 118, 58, 43, 49, 93]⟩, .string ⟨#[91, 116, 50, 58, 115, 93]⟩]
theorem way_row (k : Nat) (h : k < 19) : wayRow[k]? = some (.string ⟨(way k).text.toArray⟩) := by
  rw [way_text k h]
  match k, h with
  | 0, _ | 1, _ | 2, _ | 3, _ | 4, _ | 5, _ | 6, _ | 7, _ | 8, _ | 9, _ | 10, _ | 11, _ | 12, _ | 13, _ | 14, _ | 15, _ | 16, _ | 17, _ | 18, _ => rfl
  | k + 19, h => omega
theorem way_len (k : Nat) (h : k < 19) : 1 ≤ (way k).text.length ∧ (way k).text.length ≤ 8 := by
  rw [way_text k h]
  match k, h with
  | 0, _ | 1, _ | 2, _ | 3, _ | 4, _ | 5, _ | 6, _ | 7, _ | 8, _ | 9, _ | 10, _ | 11, _ | 12, _ | 13, _ | 14, _ | 15, _ | 16, _ | 17, _ | 18, _ => decide
  | k + 19, h => omega

set_option maxRecDepth 100000 in
set_option maxHeartbeats 800000 in
theorem ways_any (c : Int) (w : World) (h1 : -9223372036854775808 ≤ c) (h2 : c ≤ 9223372036854775807) :
    Calls Tryz.prog 19 #[.int .i64 c] w fun e w' => e = .returned (.string ⟨((way (kpickN c 19)).text).toArray⟩) ∧ Below w.heap.size w w' := by
  have hq := (kpick_val c (n := 19) (by omega)).2.2
  have hcell : (w.alloc (.cells wayRow 9)).cell? ⟨w.heap.size, kpickN c 19, none⟩ = some (.string ⟨((way (kpickN c 19)).text).toArray⟩) := by
    rw [blk_cell (heap_alloc_new w _)]
    exact way_row _ hq
  have hq' : ((kpickN c 19 : Nat) : Int) < 19 := by omega
  have HK := hide (kpick_any c 19 (w.alloc (.cells wayRow 9)) h1 h2 (by omega) (by omega))
  generalize kpickN c 19 = q at hq hcell hq' HK ⊢
  generalize (way q).text = wt at hcell ⊢
  unfold wayRow at hcell HK
  go_enter Tryz.func19, Tryz.ntmps19
  go_wp2_with fail
  refine (unhide HK).mono ?_
  rintro e w1 ⟨rfl, rfl⟩
  go_wp2_with fail
  go_ret
  exact ⟨rfl, (Below.refl _ _).alloc (Nat.le_refl _) _⟩

theorem text_cat (a b : List UInt8) : ((⟨a.toArray⟩ : ByteArray) ++ ⟨b.toArray⟩) = ⟨(a ++ b).toArray⟩ := by
  apply ByteArray.ext
  simp
theorem waysTm_snoc : ∀ (ks : List Nat) (k : Nat), (waysTm (ks ++ [k])).text = (waysTm ks).text ++ (way k).text
  | [], k => by simp [waysTm, Tm.text]
  | a :: ks, k => by
    rw [List.cons_append, waysTm, Tm.text, waysTm_snoc ks k, waysTm, Tm.text, List.append_assoc]
/-- A term while it is put together. -/
structure ThrIs (ks : List Nat) (s : List UInt8) (sure : Bool) : Prop where
  text : (waysTm ks).text = s
  few : ks.length ≤ s.length
  sure : sure = true ↔ ∀ k ∈ ks, k < 4
theorem ThrIs.next {ks : List Nat} {s : List UInt8} {sure : Bool} (h : ThrIs ks s sure) {k : Nat} (hk : k < 19) : ThrIs (ks ++ [k]) (s ++ (way k).text) (sure && decide ((k : Int) < 4)) := by
  refine ⟨by rw [waysTm_snoc, h.text], by have := (way_len k hk).1; have := h.few; simp; omega, ?_⟩
  rw [Bool.and_eq_true, h.sure, decide_eq_true_iff]
  constructor
  · rintro ⟨h1, h2⟩ j hj
    rcases List.mem_append.1 hj with hj | hj
    · exact h1 j hj
    · rw [List.mem_singleton.1 hj]; omega
  · intro h1
    exact ⟨fun j hj => h1 j (List.mem_append_left _ hj), by have := h1 k (by simp); omega⟩

set_option maxRecDepth 100000 in
set_option maxHeartbeats 3200000 in
theorem there_walk {w : World} {ra : Option Addr} {rn rc : Nat} {raw : Nat → Int} {sa : Option Addr} {sn sc : Nat} {sraw : Nat → Int} (hr : RawIs w ra rn raw) (hn : rn ≤ 140737488355328) (hsr : RawIs w sa sn sraw) (hsn : sn ≤ 140737488355328) (ht : Tab w) :
    Calls Tryz.prog 6 #[.slice ra rn rc, .slice sa sn sc] w fun e w' => e = .returned (.bool true) ∧ Below w.heap.size w w' := by
  have HR := hide hr
  have HSr := hide hsr
  have HT := hide ht
  clear hr hsr ht
  go_enter Tryz.func6, Tryz.ntmps6
  go_wp2_with fail
  refine (ready_any _ (unhide HT)).mono ?_
  rintro e w1 ⟨xb, rfl, hses, hb1⟩
  have HS := hide hses
  have HB1 := hide hb1
  clear hses hb1
  go_upto_block 0 with fail
  go_cut [6, 7, 8] from 19 to 45 (fun v6 v7 v8 wx => ∃ ks s sure, v6 = .string ⟨s.toArray⟩ ∧ v7 = .bool sure ∧ ThrIs ks s sure ∧ s.length ≤ 108 ∧ Below w1.heap.size w1 wx)
  case first =>
    go_wp2_with fail
    go_loopg [6, 7, 8] rn (fun kk v6 v7 v8 wr => ∃ (i : Nat) (ks : List Nat) (s : List UInt8) (sure : Bool), kk = rn - i ∧ i ≤ rn ∧ v8 = .int .i64 (i : Int) ∧ v6 = .string ⟨s.toArray⟩ ∧ v7 = .bool sure ∧ ThrIs ks s sure ∧ s.length ≤ 108 ∧ Below w1.heap.size w1 wr)
    case atStart => exact ⟨0, [], [], true, rfl, Nat.zero_le _, rfl, rfl, rfl, ⟨rfl, by simp, by simp⟩, by simp, Below.refl _ _⟩
    case round =>
      obtain ⟨i, ks, s, sure, hk, hi, rfl, rfl, rfl, hth, hsl, hbl⟩ := hrel
      have HK := hide hk
      have HTh := hide hth
      have HBl := hide hbl
      clear hk hth
      by_cases hlt : i < rn
      · have hlt' : (i : Int) < (rn : Int) := by omega
        by_cases hl : s.length < 100
        · have hl' : (s.length : Int) < 100 := by omega
          obtain ⟨a, rfl, hab, hcell, hr1, hr2⟩ := (((unhide HR).below (unhide HB1)).below hbl).at' i hlt
          have hq := (kpick_val (raw i) (n := 19) (by omega)).2.2
          clear hbl
          go_wp2_with fail
          refine (ways_any (raw i) _ hr1 hr2).mono ?_
          rintro e w2 ⟨rfl, hb2⟩
          have hcell2 := (hb2.cell (p := a.add i) hab).trans hcell
          have HB2 := hide ((unhide HBl).trans (hb2.mono (unhide HBl).size))
          have hwl := way_len _ hq
          clear hb2 hcell
          generalize hqq : kpickN (raw i) 19 = q at hq hwl ⊢
          have HQ := hide hqq
          have HNx := hide ((unhide HTh).next hq)
          have HCat := hide (text_cat s (way q).text)
          clear hqq
          generalize (way q).text = wt at HNx HCat hwl ⊢
          cases sure with
          | true =>
            go_wp2_with fail
            refine (kpick_any (raw i) 19 _ hr1 hr2 (by omega) (by omega)).mono ?_
            rintro e w3 ⟨rfl, rfl⟩
            rw [unhide HQ]
            go_wp2_with fail
            go_roundg (rn - (i + 1))
            case measure => rw [unhide HK]; omega
            case rel => exact ⟨i + 1, ks ++ [q], s ++ wt, _, rfl, by omega, rfl, congrArg Value.string (unhide HCat), rfl, unhide HNx, by simp; omega, unhide HB2⟩
          | false =>
            go_wp2_with fail
            go_roundg (rn - (i + 1))
            case measure => rw [unhide HK]; omega
            case rel => exact ⟨i + 1, ks ++ [q], s ++ wt, _, rfl, by omega, rfl, congrArg Value.string (unhide HCat), rfl, unhide HNx, by simp; omega, unhide HB2⟩
        · have hl' : ¬ (s.length : Int) < 100 := by omega
          clear hbl
          go_wp2_with fail
          go_meet
          case rel => exact ⟨ks, s, sure, rfl, rfl, unhide HTh, hsl, unhide HBl⟩
      · have hlt' : ¬ (i : Int) < (rn : Int) := by omega
        clear hbl
        go_wp2_with fail
        go_meet
        case rel => exact ⟨ks, s, sure, rfl, rfl, unhide HTh, hsl, unhide HBl⟩
  case rest =>
    obtain ⟨ks, s, sure, rfl, rfl, hth, hsl, hbx⟩ := hcut
    have HTh := hide hth
    have hkl := hth.few
    have HS2 := hide ((unhide HS).below hbx)
    have HB2 := hide ((unhide HB1).trans (hbx.mono (unhide HB1).size))
    have HPl := hide (plus_text ⟨s.toArray⟩)
    have HMi := hide (minus_text ⟨s.toArray⟩)
    clear hth hbx
    go_wp2_with fail
    refine (listed_any ((unhide HSr).below (unhide HB2)) hsn (tab_below (unhide HT) (unhide HB2))).mono ?_
    rintro e w3 ⟨L, hL, rfl, hb3⟩
    have HL := hide hL
    have HS3 := hide ((unhide HS2).below hb3)
    have HB3 := hide ((unhide HB2).trans (hb3.mono (unhide HB2).size))
    have hls := list_len hL
    clear hL hb3
    generalize listText L = lt at HL hls
    have hlz : (⟨lt.toArray⟩ : ByteArray).size ≤ 9223372036854775807 := by rw [bytes_size]; omega
    go_wp2_with fail
    refine (apply_any _ ⟨lt.toArray⟩ 5000 _ (unhide HS3) (tab_below (unhide HT) (unhide HB3)) hlz).mono ?_
    rintro e w4 ⟨l, n, f, rfl, ha, hb4⟩
    rw [unhide HPl] at ha
    have hll := apply_len ha
    have HK := hide (k_there (ks := ks) (s := s) (unhide HTh).text (by omega) (by omega) (unhide HL) ha)
    have HS4 := hide ((unhide HS3).below hb4)
    have HB4 := hide ((unhide HB3).trans (hb4.mono (unhide HB3).size))
    clear ha hb4
    by_cases hf : f = 0
    · subst hf
      have HK2 := hide (fun (back : List UInt8) (m f : Int) (h : ApplySays T.noEnv (powText s (-1)) l 5000 back m f) => (unhide HK).2 rfl h)
      have hlz2 : (⟨l.toArray⟩ : ByteArray).size ≤ 9223372036854775807 := by rw [bytes_size]; omega
      go_wp2_with fail
      refine (apply_any _ ⟨l.toArray⟩ 5000 _ (unhide HS4) (tab_below (unhide HT) (unhide HB4)) hlz2).mono ?_
      rintro e w5 ⟨bk, m, g, rfl, hb, hb5⟩
      rw [unhide HMi] at hb
      obtain ⟨rfl, rfl, rfl, hm2⟩ := unhide HK2 _ _ _ hb
      have HB5 := hide ((unhide HB4).trans (hb5.mono (unhide HB4).size))
      clear hb hb5
      go_wp2_with fail
      go_ret
      exact ⟨rfl, unhide HB5⟩
    · obtain ⟨rfl, rfl, hfe, hns⟩ := (unhide HK).1 hf
      have hsu : sure = false := by
        cases hsu : sure with
        | false => rfl
        | true => exact absurd ((unhide HTh).sure.1 hsu) hns
      subst hsu
      clear hns hf
      rcases hfe with rfl | rfl | rfl
      · go_wp2_with fail
        go_ret
        exact ⟨rfl, unhide HB4⟩
      · go_wp2_with fail
        go_ret
        exact ⟨rfl, unhide HB4⟩
      · go_wp2_with fail
        go_ret
        exact ⟨rfl, unhide HB4⟩
end Go.Proofs.YtikiaijgcjjloaaGreatDoor

/- Texts between commas. No program in this text. -/
namespace Go.Proofs.YtikiaijgcjjloaaGreatDoor
namespace T
open Go.Lib M

/-- The texts between commas. -/
def pieces : List UInt8 → List (List UInt8)
  | [] => [[]]
  | c :: s => if c = 44 then [] :: pieces s else match pieces s with
    | [] => [[c]]
    | p :: ps => (c :: p) :: ps
theorem pieces_ne : ∀ s, pieces s ≠ []
  | [] => by simp [pieces]
  | c :: s => by
    rw [pieces]
    split
    · simp
    · cases h : pieces s with
      | nil => simp
      | cons p ps => simp
/-- A beginning of the first text. -/
def attach (a : List UInt8) : List (List UInt8) → List (List UInt8)
  | [] => [a]
  | p :: ps => (a ++ p) :: ps
theorem attach_nil {l : List (List UInt8)} (h : l ≠ []) : attach [] l = l := by
  cases l with
  | nil => exact absurd rfl h
  | cons p ps => rfl
theorem pieces_comma (s : List UInt8) : pieces (44 :: s) = [] :: pieces s := by rw [pieces, if_pos rfl]
theorem pieces_other {c : UInt8} (h : c ≠ 44) (s : List UInt8) : pieces (c :: s) = attach [c] (pieces s) := by
  rw [pieces, if_neg h]
  cases hp : pieces s with
  | nil => rfl
  | cons p ps => rfl
theorem attach_attach (a b : List UInt8) (l : List (List UInt8)) (h : l ≠ []) : attach a (attach b l) = attach (a ++ b) l := by
  cases l with
  | nil => exact absurd rfl h
  | cons p ps => simp [attach]
theorem pieces_app {a : List UInt8} (ha : ∀ c ∈ a, c ≠ 44) (s : List UInt8) : pieces (a ++ s) = attach a (pieces s) := by
  induction a with
  | nil => rw [List.nil_append, attach_nil (pieces_ne s)]
  | cons c a ih =>
    rw [List.cons_append, pieces_other (ha c (by simp)), ih (fun d hd => ha d (List.mem_cons_of_mem _ hd)), attach_attach _ _ _ (pieces_ne s)]
    rfl
/-- A list's texts are its items'. -/
theorem pieces_list : ∀ {l : List Rat}, l ≠ [] → pieces (listText l) = l.map ratText
  | [], h => absurd rfl h
  | [x], _ => by
    have := pieces_app (ratText_44 x) []
    rw [List.append_nil] at this
    rw [listText_one, this]
    simp [pieces, attach]
  | x :: y :: l, _ => by
    rw [listText_cons2, pieces_app (ratText_44 x), pieces_comma, pieces_list (l := y :: l) (by simp)]
    simp [attach]
/-- Texts with a comma between each two. -/
def joinT : List (List UInt8) → List UInt8
  | [] => []
  | [p] => p
  | p :: q :: ps => p ++ 44 :: joinT (q :: ps)
theorem joinT_attach (a : List UInt8) {l : List (List UInt8)} (h : l ≠ []) : joinT (attach a l) = a ++ joinT l := by
  cases l with
  | nil => exact absurd rfl h
  | cons p ps =>
    cases ps with
    | nil => rfl
    | cons q ps => simp [attach, joinT]
theorem joinT_pieces : ∀ s, joinT (pieces s) = s
  | [] => rfl
  | c :: s => by
    by_cases h : c = 44
    · subst h
      rw [pieces_comma]
      cases hp : pieces s with
      | nil => exact absurd hp (pieces_ne s)
      | cons p ps =>
        show [] ++ 44 :: joinT (p :: ps) = _
        rw [← hp, joinT_pieces s]
        rfl
    · rw [pieces_other h, joinT_attach _ (pieces_ne s), joinT_pieces s]
      rfl
theorem joinT_list (l : List Rat) : joinT (l.map ratText) = listText l := by
  induction l with
  | nil => rfl
  | cons x l ih =>
    cases l with
    | nil => rfl
    | cons y l =>
      rw [listText_cons2, ← ih]
      rfl
theorem joinT_snoc : ∀ (l : List (List UInt8)) (p : List UInt8), joinT (l ++ [p]) = (if l = [] then [] else joinT l ++ [44]) ++ p
  | [], p => rfl
  | [q], p => by
    rw [if_neg (by simp)]
    show q ++ 44 :: p = q ++ [44] ++ p
    simp
  | q :: q2 :: l, p => by
    have ih := joinT_snoc (q2 :: l) p
    rw [if_neg (by simp)] at ih
    rw [if_neg (by simp)]
    show q ++ 44 :: joinT (q2 :: (l ++ [p])) = q ++ 44 :: joinT (q2 :: l) ++ [44] ++ p
    rw [show q2 :: (l ++ [p]) = q2 :: l ++ [p] from rfl, ih]
    simp
/-- Texts that are all numbers are a list. -/
theorem list_of_pieces {s : List UInt8} (hl : (pieces s).length ≤ 12) (hn : ∀ p ∈ pieces s, ∃ t b, IsNum p t b) : ∃ l, IsList s l ∧ pieces s = l.map ratText := by
  have key : ∀ (ps : List (List UInt8)), (∀ p ∈ ps, ∃ t b, IsNum p t b) → ∃ l : List Rat, AllS l ∧ ps = l.map ratText := by
    intro ps
    induction ps with
    | nil => intro _; exact ⟨[], fun _ h => by (cases h), rfl⟩
    | cons p ps ih =>
      intro h
      obtain ⟨t, b, hp⟩ := h p (by simp)
      obtain ⟨x, hx, hpx, _, _⟩ := isNum_rat hp
      obtain ⟨l, hl, e⟩ := ih (fun q hq => h q (List.mem_cons_of_mem _ hq))
      exact ⟨x :: l, fun y hy => by rcases List.mem_cons.1 hy with rfl | hy; exact hx; exact hl y hy, by rw [hpx, e]; rfl⟩
  obtain ⟨l, hal, e⟩ := key (pieces s) hn
  refine ⟨l, ⟨by rw [e, List.length_map] at hl; exact hl, hal, ?_⟩, e⟩
  rw [← joinT_list, ← e, joinT_pieces]
end T
end Go.Proofs.YtikiaijgcjjloaaGreatDoor

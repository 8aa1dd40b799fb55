import Derived.Lib.ItoaNum
import Derived.Test.YtikiaijgcjjloaaGreatDoorProg
import Derived.WalkKit
import Derived.BigQuiet
import Derived.Deep.QuietTactic
import Derived.Below
import Derived.Handy
import Derived.WalkSpells

namespace Go.Proofs.YtikiaijgcjjloaaGreatDoor
namespace M
open Go.Lib
def isDig (c : UInt8) : Bool := decide (48 ≤ c.toNat ∧ c.toNat ≤ 57)
theorem isDig_iff (c : UInt8) : isDig c = true ↔ 48 ≤ c.toNat ∧ c.toNat ≤ 57 := by simp [isDig]
theorem isDig_not (c : UInt8) : isDig c = false ↔ (c.toNat < 48 ∨ 57 < c.toNat) := by simp [isDig]; omega
def val (l : List UInt8) : Nat := l.foldl (fun a c => 10 * a + (c.toNat - 48)) 0
theorem val_snoc (l : List UInt8) (c : UInt8) : val (l ++ [c]) = 10 * val l + (c.toNat - 48) := by simp [val]
theorem fold_mono (m : List UInt8) : ∀ a : Nat, a ≤ m.foldl (fun a c => 10 * a + (c.toNat - 48)) a := by
  induction m with
  | nil => intro a; simp
  | cons c m ih => intro a; simp only [List.foldl_cons]; have := ih (10 * a + (c.toNat - 48)); omega
theorem val_mono (l m : List UInt8) : val l ≤ val (l ++ m) := by
  unfold val; rw [List.foldl_append]; exact fold_mono m _
theorem dec_small (n : Nat) (h : n < 10) : decDigits n = [UInt8.ofNat (48 + n)] := by rw [decDigits, dif_pos h]
theorem dec_step (n : Nat) (h : ¬ n < 10) : decDigits n = decDigits (n / 10) ++ [UInt8.ofNat (48 + n % 10)] := by rw [decDigits, dif_neg h]
theorem ofNat_toNat (n : Nat) (h : n < 10) : (UInt8.ofNat (48 + n)).toNat = 48 + n := by
  simp [UInt8.toNat_ofNat]; omega
theorem ofNat_isDig (n : Nat) (h : n < 10) : isDig (UInt8.ofNat (48 + n)) = true := by
  rw [isDig_iff, ofNat_toNat n h]; omega
theorem dec_all (n : Nat) : ∀ c ∈ decDigits n, isDig c = true := by
  induction n using Nat.strongRecOn with
  | _ n ih =>
    by_cases h : n < 10
    · rw [dec_small n h]; intro c hc
      simp only [List.mem_singleton] at hc; subst hc; exact ofNat_isDig n h
    · rw [dec_step n h]; intro c hc
      simp only [List.mem_append, List.mem_singleton] at hc
      rcases hc with hc | hc
      · exact ih (n / 10) (by omega) c hc
      · subst hc; exact ofNat_isDig (n % 10) (by omega)
theorem val_dec (n : Nat) : val (decDigits n) = n := by
  induction n using Nat.strongRecOn with
  | _ n ih =>
    by_cases h : n < 10
    · rw [dec_small n h]; show 10 * 0 + _ = _; rw [ofNat_toNat n h]; omega
    · rw [dec_step n h, val_snoc, ih (n / 10) (by omega), ofNat_toNat (n % 10) (by omega)]; omega
theorem dec_ne (n : Nat) : decDigits n ≠ [] := by
  by_cases h : n < 10
  · rw [dec_small n h]; simp
  · rw [dec_step n h]; simp
theorem dec_length_pos (n : Nat) : 1 ≤ (decDigits n).length := by
  have := dec_ne n
  cases h : decDigits n with
  | nil => exact absurd h this
  | cons a l => simp
theorem head_app (l m : List UInt8) (h : l ≠ []) : (l ++ m).head? = l.head? := by
  cases l with
  | nil => exact absurd rfl h
  | cons a l => rfl
theorem dec_head_zero (n : Nat) (h : (decDigits n).head? = some 48) : n = 0 := by
  induction n using Nat.strongRecOn with
  | _ n ih =>
    by_cases hn : n < 10
    · rw [dec_small n hn] at h
      simp only [List.head?_cons, Option.some.injEq] at h
      have := congrArg UInt8.toNat h
      rw [ofNat_toNat n hn] at this
      have h48 : (48 : UInt8).toNat = 48 := rfl
      omega
    · rw [dec_step n hn, head_app _ _ (dec_ne _)] at h
      have := ih (n / 10) (by omega) h
      omega
theorem dec_push (v d : Nat) (hv : 1 ≤ v) (hd : d < 10) : decDigits (10 * v + d) = decDigits v ++ [UInt8.ofNat (48 + d)] := by
  rw [dec_step _ (by omega), show (10 * v + d) / 10 = v by omega, show (10 * v + d) % 10 = d by omega]
theorem ofNat_of_dig (c : UInt8) (h : isDig c = true) : UInt8.ofNat (48 + (c.toNat - 48)) = c := by
  have h1 := (isDig_iff c).1 h
  rw [show 48 + (c.toNat - 48) = c.toNat by omega]
  simp
theorem dec_len_le : ∀ (k n : Nat), 1 ≤ k → n < 10 ^ k → (decDigits n).length ≤ k
  | 0, n, h, _ => by omega
  | 1, n, _, h => by rw [dec_small n (by simpa using h)]; simp
  | k + 2, n, _, h => by
    by_cases hn : n < 10
    · rw [dec_small n hn]; simp
    · rw [dec_step n hn, List.length_append]
      have := dec_len_le (k + 1) (n / 10) (by omega) (by rw [Nat.pow_succ] at h; omega)
      simp; omega
theorem dec_len_ten (n : Nat) (h : n ≤ 1000000000) : (decDigits n).length ≤ 10 := dec_len_le 10 n (by decide) (by have : (10 : Nat) ^ 10 = 10000000000 := by decide
                                                                                                                  omega)
def noDig (r : List UInt8) : Prop := ∀ c, r.head? = some c → isDig c = false
structure DigAt (l : List UInt8) (v : Nat) (r : List UInt8) : Prop where
  le : v ≤ 1000000000
  eq : l = decDigits v ++ r
  nd : noDig r
theorem takeWhile_noDig (r : List UInt8) (h : noDig r) : r.takeWhile isDig = [] := by
  cases r with
  | nil => rfl
  | cons c r => have := h c rfl; simp [this]
theorem dropWhile_noDig (r : List UInt8) (h : noDig r) : r.dropWhile isDig = r := by
  cases r with
  | nil => rfl
  | cons c r => have := h c rfl; simp [this]
theorem DigAt.tw {l : List UInt8} {v : Nat} {r : List UInt8} (h : DigAt l v r) : l.takeWhile isDig = decDigits v := by
  rw [h.eq, List.takeWhile_append_of_pos (dec_all v), takeWhile_noDig r h.nd]; simp
theorem DigAt.dw {l : List UInt8} {v : Nat} {r : List UInt8} (h : DigAt l v r) : l.dropWhile isDig = r := by
  rw [h.eq, List.dropWhile_append_of_pos (dec_all v), dropWhile_noDig r h.nd]
theorem DigAt.unique {l : List UInt8} {v v' : Nat} {r r' : List UInt8} (h : DigAt l v r) (h' : DigAt l v' r') : v = v' ∧ r = r' := by
  refine ⟨?_, ?_⟩
  · rw [← val_dec v, ← val_dec v', ← h.tw, ← h'.tw]
  · rw [← h.dw, ← h'.dw]
theorem tw_of_take (l : List UInt8) (k : Nat) (h : ∀ c ∈ l.take k, isDig c = true) : l.takeWhile isDig = l.take k ++ (l.drop k).takeWhile isDig := by
  conv => lhs; rw [← List.take_append_drop k l]
  exact List.takeWhile_append_of_pos h
theorem dig_none_first (l : List UInt8) (h : noDig l) (v : Nat) (r : List UInt8) : ¬ DigAt l v r := by
  intro hd
  have := hd.tw
  rw [takeWhile_noDig l h] at this
  exact dec_ne v this.symm
theorem dig_none_zero (l : List UInt8) (k : Nat) (h : l.take k = decDigits 0) (c : UInt8) (hc : (l.drop k).head? = some c) (hd : isDig c = true) (v : Nat) (r : List UInt8) : ¬ DigAt l v r := by
  intro hD
  have h1 := hD.tw
  rw [tw_of_take l k (by rw [h]; exact dec_all 0), h] at h1
  have h0 : decDigits 0 = [48] := dec_small 0 (by decide)
  have hv : v = 0 := dec_head_zero v (by rw [← h1, h0]; rfl)
  subst hv
  cases hdr : l.drop k with
  | nil => rw [hdr] at hc; cases hc
  | cons x xs =>
    rw [hdr] at hc
    simp only [List.head?_cons, Option.some.injEq] at hc
    subst hc
    have := congrArg List.length h1
    rw [hdr] at this
    simp [hd] at this
theorem dig_none_big (l : List UInt8) (k V : Nat) (h : l.take k = decDigits V) (hV : 1000000000 < V) (v : Nat) (r : List UInt8) : ¬ DigAt l v r := by
  intro hD
  have h1 := hD.tw
  rw [tw_of_take l k (by rw [h]; exact dec_all V), h] at h1
  have h2 := val_mono (decDigits V) ((l.drop k).takeWhile isDig)
  rw [h1, val_dec, val_dec] at h2
  have := hD.le
  omega
def numText (t b : Int) : List UInt8 := itoa t ++ (if b ≤ 1 then [] else 47 :: decDigits b.toNat)
structure IsNum (s : List UInt8) (t b : Int) : Prop where
  lo : -1000000000 ≤ t
  hi : t ≤ 1000000000
  b1 : 1 ≤ b
  b2 : b ≤ 1000000000
  gc : Nat.gcd t.natAbs b.natAbs = 1
  tx : s = numText t b
def neg (s : List UInt8) : Bool := s.head? == some 45
def body (s : List UInt8) : List UInt8 := if neg s then s.drop 1 else s
theorem neg_dec (n : Nat) (r : List UInt8) : neg (decDigits n ++ r) = false := by
  unfold neg
  rw [head_app _ _ (dec_ne n)]
  cases h : decDigits n with
  | nil => exact absurd h (dec_ne n)
  | cons a l =>
    have : isDig a = true := dec_all n a (by rw [h]; simp)
    simp
    intro e
    subst e
    cases this
theorem itoa_neg (t : Int) (h : t < 0) : itoa t = 45 :: decDigits t.natAbs := by unfold itoa; rw [if_pos h]
theorem itoa_pos (t : Int) (h : ¬ t < 0) : itoa t = decDigits t.natAbs := by
  unfold itoa; rw [if_neg h]; congr 1; omega
theorem numText_neg (t b : Int) : neg (numText t b) = decide (t < 0) := by
  unfold numText
  by_cases h : t < 0
  · rw [itoa_neg t h]; simp [neg, h]
  · rw [itoa_pos t h, neg_dec]; simp [h]
theorem numText_body (t b : Int) : body (numText t b) = decDigits t.natAbs ++ (if b ≤ 1 then [] else 47 :: decDigits b.toNat) := by
  unfold body
  rw [numText_neg]
  unfold numText
  by_cases h : t < 0
  · rw [itoa_neg t h]; simp [h]
  · rw [itoa_pos t h]; simp [h]
theorem noDig_tail (b : Int) : noDig (if b ≤ 1 then [] else 47 :: decDigits b.toNat) := by
  intro c hc
  split at hc
  · cases hc
  · simp at hc; subst hc; rfl
theorem IsNum.dig {s : List UInt8} {t b : Int} (h : IsNum s t b) : DigAt (body s) t.natAbs (if b ≤ 1 then [] else 47 :: decDigits b.toNat) := by
  refine ⟨?_, ?_, noDig_tail b⟩
  · have := h.lo; have := h.hi; omega
  · rw [h.tx, numText_body]
theorem IsNum.neg {s : List UInt8} {t b : Int} (h : IsNum s t b) : neg s = decide (t < 0) := by rw [h.tx, numText_neg]
theorem noDig_nil : noDig [] := fun c h => by cases h
theorem digAt_full (b : Int) (h1 : 1 ≤ b) (h2 : b ≤ 1000000000) : DigAt (decDigits b.toNat) b.toNat [] := ⟨by omega, by simp, noDig_nil⟩
theorem no_num_dig {s : List UInt8} (h : ∀ v r, ¬ DigAt (body s) v r) (t b : Int) : ¬ IsNum s t b := fun hn => h _ _ hn.dig
theorem no_num_zero {s r : List UInt8} (hd : DigAt (body s) 0 r) (hs : neg s = true) (t b : Int) : ¬ IsNum s t b := fun hn => by
  have h1 := (hn.dig.unique hd).1
  have h2 := hn.neg
  rw [hs] at h2
  have : t < 0 := by simpa using h2.symm
  omega
theorem no_num_tail {s r : List UInt8} {v : Nat} (hd : DigAt (body s) v r) (hr : r ≠ []) (h : ∀ q, 2 ≤ q → ¬ (∃ r', r = 47 :: r' ∧ DigAt r' q [])) (t b : Int) : ¬ IsNum s t b := fun hn => by
  have h1 := (hn.dig.unique hd).2
  split at h1
  · exact hr h1.symm
  · exact h b.toNat (by omega) ⟨_, h1.symm, digAt_full b hn.b1 hn.b2⟩
theorem no_num_gcd {s r : List UInt8} {v q : Nat} (hd : DigAt (body s) v (47 :: r)) (hq : DigAt r q []) (h : Nat.gcd v q ≠ 1) (t b : Int) : ¬ IsNum s t b := fun hn => by
  obtain ⟨h0, h1⟩ := hn.dig.unique hd
  split at h1
  · cases h1
  · simp only [List.cons.injEq, true_and] at h1
    have e := ((h1 ▸ digAt_full b hn.b1 hn.b2).unique hq).1
    have g := hn.gc
    have : b.natAbs = q := by have := hn.b1; omega
    rw [h0, this] at g
    exact h g
def sgn (n : Bool) (v : Nat) : Int := if n then -(v : Int) else v
theorem sgn_natAbs (n : Bool) (v : Nat) : (sgn n v).natAbs = v := by unfold sgn; split <;> omega
theorem text_of (s r : List UInt8) (v : Nat) (hd : DigAt (body s) v r) (h0 : neg s = true → 1 ≤ v) : s = itoa (sgn (neg s) v) ++ r := by
  have he := hd.eq
  unfold body at he
  cases hn : neg s with
  | true =>
    rw [hn] at he
    have : 1 ≤ v := h0 hn
    have hs : s = 45 :: s.drop 1 := by
      unfold neg at hn
      cases s with
      | nil => cases hn
      | cons c s => simp at hn; subst hn; simp
    rw [itoa_neg _ (by unfold sgn; simp; omega), sgn_natAbs, List.cons_append, ← he]
    simpa using hs
  | false =>
    rw [hn] at he
    rw [itoa_pos _ (by unfold sgn; simp), sgn_natAbs]
    simpa using he
theorem is_num_whole {s : List UInt8} {v : Nat} (hd : DigAt (body s) v []) (h0 : neg s = true → 1 ≤ v) : IsNum s (sgn (neg s) v) 1 := by
  have := hd.le
  refine ⟨by unfold sgn; split <;> omega, by unfold sgn; split <;> omega, by omega, by omega, by simp, ?_⟩
  have := text_of s [] v hd h0
  simpa [numText] using this
theorem is_num_parts {s r : List UInt8} {v q : Nat} (hd : DigAt (body s) v (47 :: r)) (h0 : neg s = true → 1 ≤ v) (hq : DigAt r q []) (h2 : 2 ≤ q) (hg : Nat.gcd v q = 1) : IsNum s (sgn (neg s) v) q := by
  have := hd.le
  have := hq.le
  refine ⟨by unfold sgn; split <;> omega, by unfold sgn; split <;> omega, by omega, by omega, by rw [sgn_natAbs]; simpa using hg, ?_⟩
  have h := text_of s (47 :: r) v hd h0
  have hr := hq.eq
  simp only [List.append_nil] at hr
  unfold numText
  rw [if_neg (by omega)]
  simpa [← hr] using h
theorem IsNum.unique {s : List UInt8} {t b t' b' : Int} (h : IsNum s t b) (h' : IsNum s t' b') : t = t' ∧ b = b' := by
  obtain ⟨e1, e2⟩ := h.dig.unique h'.dig
  have e3 := h.neg
  rw [h'.neg] at e3
  have e4 : (t' < 0) = (t < 0) := by simpa using e3
  refine ⟨by by_cases hh : t < 0
             · have : t' < 0 := by rw [e4]; exact hh
               omega
             · have : ¬ t' < 0 := by rw [e4]; exact hh
               omega, ?_⟩
  have := h.b1; have := h'.b1
  split at e2 <;> split at e2
  · omega
  · cases e2
  · cases e2
  · simp only [List.cons.injEq, true_and] at e2
    have := congrArg val e2
    rw [val_dec, val_dec] at this
    omega
def valueOf (l : List UInt8) : Int := if l.length < 1 ∨ 10 < l.length ∨ l.all isDig = false then -1 else val l
theorem valueOf_dec (n : Nat) (h : n ≤ 1000000000) : valueOf (decDigits n) = n := by
  unfold valueOf
  have h1 := dec_len_ten n h
  have h2 := dec_length_pos n
  rw [if_neg, val_dec]
  rintro (h | h | h)
  · omega
  · omega
  · rw [List.all_eq_false] at h
    obtain ⟨c, hc, hd⟩ := h
    exact hd (dec_all n c hc)
theorem val_lt (l : List UInt8) (h : l.all isDig = true) : val l < 10 ^ l.length := by
  suffices h : ∀ (l : List UInt8) (a k : Nat), a < 10 ^ k → l.all isDig = true → l.foldl (fun a c => 10 * a + (c.toNat - 48)) a < 10 ^ (k + l.length) by
    have := h l 0 0 (by decide) ‹_›
    simpa [val] using this
  intro l
  induction l with
  | nil => intro a k ha _; simpa using ha
  | cons c l ih =>
    intro a k ha hl
    simp only [List.all_cons, Bool.and_eq_true] at hl
    have hc := (isDig_iff c).1 hl.1
    have := ih (10 * a + (c.toNat - 48)) (k + 1) (by rw [Nat.pow_succ]; omega) hl.2
    simp only [List.foldl_cons, List.length_cons]
    rw [show k + (l.length + 1) = k + 1 + l.length by omega]
    exact this
theorem valueOf_bd (l : List UInt8) : -1 ≤ valueOf l ∧ valueOf l ≤ 9999999999 := by
  unfold valueOf
  split
  · omega
  · rename_i h
    have h1 : l.length ≤ 10 := by omega
    have h2 : l.all isDig = true := by
      cases hh : l.all isDig with
      | true => rfl
      | false => exact absurd (Or.inr (Or.inr hh)) h
    have := val_lt l h2
    have h3 : 10 ^ l.length ≤ 10 ^ 10 := Nat.pow_le_pow_right (by decide) h1
    have h4 : (10 : Nat) ^ 10 = 10000000000 := by decide
    omega
def notSlash (c : UInt8) : Bool := c != 47
def refP (s : List UInt8) : Int := valueOf ((body s).takeWhile notSlash)
def refQ (s : List UInt8) : Int := match (body s).dropWhile notSlash with
  | [] => 1
  | _ :: r => valueOf r
def refT (s : List UInt8) : Int := if neg s then -refP s else refP s
def gg (p q : Int) : Nat := Nat.gcd p.natAbs q.natAbs
def fitsB (p q : Int) : Bool := decide (p.natAbs / gg p q ≤ 1000000000 ∧ q.natAbs / gg p q ≤ 1000000000)
def lowP (p q : Int) : Int := p.tdiv (gg p q)
def lowQ (p q : Int) : Int := q.tdiv (gg p q)
theorem gg_pos (p q : Int) (h : 1 ≤ q) : 1 ≤ gg p q := by
  unfold gg
  exact Nat.gcd_pos_of_pos_right _ (by omega)
theorem gg_le (p q : Int) (h : 1 ≤ q) : (gg p q : Int) ≤ q := by
  unfold gg
  have := Nat.gcd_le_right p.natAbs (n := q.natAbs) (by omega)
  omega
theorem tdiv_natAbs (p : Int) (g : Nat) : (p.tdiv g).natAbs = p.natAbs / g := by
  rw [Int.natAbs_tdiv]; rfl
theorem low_gcd (p q : Int) (h : 1 ≤ q) : Nat.gcd (lowP p q).natAbs (lowQ p q).natAbs = 1 := by
  unfold lowP lowQ
  rw [tdiv_natAbs, tdiv_natAbs]
  have hg := gg_pos p q h
  unfold gg at *
  have h1 := Nat.gcd_div (Nat.gcd_dvd_left p.natAbs q.natAbs) (Nat.gcd_dvd_right p.natAbs q.natAbs)
  rw [h1]
  exact Nat.div_self (by omega)
theorem lowQ_eq (p q : Int) (h : 1 ≤ q) : lowQ p q = ((q.natAbs / gg p q : Nat) : Int) := by
  unfold lowQ
  rw [Int.tdiv_eq_ediv_of_nonneg (by omega)]
  have : (q.natAbs : Int) = q := by omega
  rw [← this]
  simp
theorem lowQ_pos (p q : Int) (h : 1 ≤ q) : 1 ≤ lowQ p q := by
  rw [lowQ_eq p q h]
  have h1 : gg p q ≤ q.natAbs := by unfold gg; exact Nat.gcd_le_right _ (by omega)
  have := Nat.div_pos h1 (gg_pos p q h)
  omega
theorem lowP_abs (p q : Int) : (lowP p q).natAbs = p.natAbs / gg p q := tdiv_natAbs _ _
theorem lowP_le (p q : Int) : (lowP p q).natAbs ≤ p.natAbs := by rw [lowP_abs]; exact Nat.div_le_self _ _
theorem fits_bd (p q : Int) (h : 1 ≤ q) (hf : fitsB p q = true) : -1000000000 ≤ lowP p q ∧ lowP p q ≤ 1000000000 ∧ 1 ≤ lowQ p q ∧ lowQ p q ≤ 1000000000 := by
  have h1 := lowP_abs p q
  have h2 := lowQ_eq p q h
  have h3 := lowQ_pos p q h
  unfold fitsB at hf
  have hf' := of_decide_eq_true hf
  omega
theorem low_self (t b : Int) (hg : Nat.gcd t.natAbs b.natAbs = 1) : lowP t b = t ∧ lowQ t b = b ∧ gg t b = 1 := by
  have : gg t b = 1 := hg
  unfold lowP lowQ
  rw [this]
  simp
theorem IsNum.fits {s : List UInt8} {t b : Int} (h : IsNum s t b) : fitsB t b = true := by
  unfold fitsB
  rw [(low_self t b h.gc).2.2]
  have := h.lo; have := h.hi; have := h.b1; have := h.b2
  exact decide_eq_true (by simp; omega)
theorem ref_ok (s : List UInt8) (hq : 1 ≤ refQ s) (hf : fitsB (refT s) (refQ s) = true) (ht : numText (lowP (refT s) (refQ s)) (lowQ (refT s) (refQ s)) = s) : IsNum s (lowP (refT s) (refQ s)) (lowQ (refT s) (refQ s)) := by
  obtain ⟨h1, h2, h3, h4⟩ := fits_bd _ _ hq hf
  exact ⟨h1, h2, h3, h4, low_gcd _ _ hq, ht.symm⟩
theorem takeWhile_slash (n : Nat) (r : List UInt8) (h : r = [] ∨ ∃ r', r = 47 :: r') : (decDigits n ++ r).takeWhile notSlash = decDigits n ∧ (decDigits n ++ r).dropWhile notSlash = r := by
  have ha : ∀ c ∈ decDigits n, notSlash c = true := by
    intro c hc
    have := dec_all n c hc
    unfold notSlash
    rw [bne_iff_ne]
    intro e
    subst e
    cases this
  rw [List.takeWhile_append_of_pos ha, List.dropWhile_append_of_pos ha]
  rcases h with rfl | ⟨r', rfl⟩ <;> simp [notSlash]
theorem IsNum.ref {s : List UInt8} {t b : Int} (h : IsNum s t b) : refP s = t.natAbs ∧ refQ s = b ∧ refT s = t := by
  have hb : body s = _ := h.dig.eq
  obtain ⟨h1, h2⟩ := takeWhile_slash t.natAbs (if b ≤ 1 then [] else 47 :: decDigits b.toNat) (by split <;> simp)
  rw [← hb] at h1 h2
  have hp : refP s = t.natAbs := by
    unfold refP
    rw [h1, valueOf_dec]
    have := h.lo; have := h.hi; omega
  have hq : refQ s = b := by
    unfold refQ
    rw [h2]
    have := h.b1; have := h.b2
    by_cases hb1 : b ≤ 1
    · simp only [if_pos hb1]; omega
    · simp only [if_neg hb1]; rw [valueOf_dec _ (by omega)]; omega
  refine ⟨hp, hq, ?_⟩
  unfold refT
  rw [hp, h.neg]
  by_cases hh : t < 0
  · simp [hh]; omega
  · simp [hh]; omega
def refOk (s : List UInt8) : Prop := 0 ≤ refP s ∧ 1 ≤ refQ s ∧ fitsB (refT s) (refQ s) = true ∧ numText (lowP (refT s) (refQ s)) (lowQ (refT s) (refQ s)) = s
theorem IsNum.refOk {s : List UInt8} {t b : Int} (h : IsNum s t b) : refOk s ∧ lowP (refT s) (refQ s) = t ∧ lowQ (refT s) (refQ s) = b := by
  obtain ⟨h1, h2, h3⟩ := h.ref
  obtain ⟨l1, l2, _⟩ := low_self t b h.gc
  have := h.b1
  unfold M.refOk
  rw [h1, h2, h3, l1, l2]
  exact ⟨⟨by omega, by omega, h.fits, h.tx.symm⟩, rfl, rfl⟩
theorem root_unique (a b : Nat) (h : a * a = b * b) : a = b := by
  rcases Nat.lt_trichotomy a b with h1 | h1 | h1
  · have := Nat.mul_lt_mul'' h1 h1; omega
  · exact h1
  · have := Nat.mul_lt_mul'' h1 h1; omega
end M
end Go.Proofs.YtikiaijgcjjloaaGreatDoor

namespace Go.Proofs.YtikiaijgcjjloaaGreatDoor
open Go Go.RowKit M
theorem hide {p : Prop} (h : p) : Hid p := h
theorem unhide {p : Prop} (h : Hid p) : p := h
theorem ret_int {k : IntKind} {a b : Int} (h : a = b) : Ending.returned (.int k a) = .returned (.int k b) := by rw [h]
theorem ret_bool {a b : Bool} (h : a = b) : Ending.returned (.bool a) = .returned (.bool b) := by rw [h]
set_option maxRecDepth 100000 in
set_option maxHeartbeats 400000 in
theorem isDigit_any (c : UInt8) (w : World) :
    Calls Tryz.prog 125 #[.int .u8 (c.toNat : Int)] w fun e w' => e = .returned (.bool (isDig c)) ∧ w = w' := by
  by_cases h1 : 48 ≤ (c.toNat : Int)
  · by_cases h2 : (c.toNat : Int) ≤ 57
    · have hf : Hid (isDig c = true) := by show isDig c = _; rw [isDig_iff]; omega
      go_enter Tryz.func125, Tryz.ntmps125
      go_wp2
      go_ret
      exact ⟨ret_bool hf.out.symm, rfl⟩
    · have hf : Hid (isDig c = false) := by show isDig c = _; rw [isDig_not]; omega
      go_enter Tryz.func125, Tryz.ntmps125
      go_wp2
      go_ret
      exact ⟨ret_bool hf.out.symm, rfl⟩
  · have hf : Hid (isDig c = false) := by show isDig c = _; rw [isDig_not]; omega
    go_enter Tryz.func125, Tryz.ntmps125
    go_wp2
    go_ret
    exact ⟨ret_bool hf.out.symm, rfl⟩
set_option maxRecDepth 100000 in
set_option maxHeartbeats 400000 in
theorem size_any (p : Int) (w : World) (h1 : -4000000000000000000 ≤ p) (h2 : p ≤ 4000000000000000000) :
    Calls Tryz.prog 86 #[.int .i64 p] w fun e w' => e = .returned (.int .i64 (p.natAbs : Int)) ∧ w' = w := by
  by_cases h : p < 0
  · go_enter Tryz.func86, Tryz.ntmps86
    go_wp2
    go_ret
    exact ⟨ret_int (by omega), rfl⟩
  · go_enter Tryz.func86, Tryz.ntmps86
    go_wp2
    go_ret
    exact ⟨ret_int (by omega), rfl⟩
set_option maxRecDepth 100000 in
set_option maxHeartbeats 400000 in
theorem commonDivisor_any (a b : Nat) (w : World) (ha : a ≤ 4000000000000000000) (hb : b ≤ 4000000000000000000) :
    Calls Tryz.prog 85 #[.int .i64 a, .int .i64 b] w fun e w' => e = .returned (.int .i64 (Nat.gcd a b : Nat)) ∧ ∃ n, w' = w.drewN n := by
  go_enter Tryz.func85, Tryz.ntmps85
  go_wp2
  go_loopw [0, 1] (fun x y w' => ∃ m n k : Nat, m ≤ 4000000000000000000 ∧ n ≤ 4000000000000000000 ∧ x = .int .i64 m ∧ y = .int .i64 n ∧ Nat.gcd m n = Nat.gcd a b ∧ w' = w.drewN k) (fun _ y _ => (intOf y).toNat)
  case atStart => exact ⟨a, b, 0, ha, hb, rfl, rfl, rfl, rfl⟩
  case round =>
    obtain ⟨m, n, k, hm, hn, rfl, rfl, hg, rfl⟩ := hrel
    have HG : Hid (Nat.gcd m n = Nat.gcd a b) := hg
    clear hg
    by_cases h0 : n = 0
    · subst h0
      go_wp2
      go_ret
      exact ⟨ret_int (by have := HG.out; simp at this; omega), k, rfl⟩
    · have hne : ((n : Int) != 0) = true := by rw [bne_iff_ne]; omega
      have hn1 : 1 ≤ (n : Int) := by omega
      have hmod : m % n < n := Nat.mod_lt m (by omega)
      have HE : Hid (Nat.gcd n (m % n) = Nat.gcd a b) := by show _ = _; rw [← HG.out, Nat.gcd_comm n, ← Nat.gcd_rec, Nat.gcd_comm]
      have hz : ((n : Int) == 0) = false := by rw [beq_eq_false_iff_ne]; omega
      go_wp2
      go_quiet (fail)
      go_roundw
      case rel => exact ⟨_, _, _, _, _, _, _, _, ⟨n, m % n, k + nq, hn, by omega, rfl, by go_num, HE.out, by simp⟩, rfl⟩
      case measure => simp [intOf]; omega
set_option maxRecDepth 100000 in
set_option maxHeartbeats 400000 in
theorem common_any (k : Nat) : ∀ (a b : Nat) (w : World), a ≤ k → a ≤ 4000000000000000000 → b ≤ 4000000000000000000 →
    Calls Tryz.prog 165 #[.int .i64 a, .int .i64 b] w fun e w' => e = .returned (.int .i64 (Nat.gcd a b : Nat)) ∧ w' = w := by
  induction k with
  | zero =>
    intro a b w hk ha hb
    obtain rfl : a = 0 := by omega
    go_enter Tryz.func165, Tryz.ntmps165
    go_wp2_with fail
    go_ret
    exact ⟨ret_int (by simp), rfl⟩
  | succ k ih =>
    intro a b w hk ha hb
    have IH := hide ih
    clear ih
    by_cases h0 : a = 0
    · subst h0
      go_enter Tryz.func165, Tryz.ntmps165
      go_wp2_with fail
      go_ret
      exact ⟨ret_int (by simp), rfl⟩
    · have ha1 : 1 ≤ (a : Int) := by omega
      have hz : ((a : Int) == 0) = false := by rw [beq_eq_false_iff_ne]; omega
      have hm : b % a < a := Nat.mod_lt b (by omega)
      have HE : Hid (Nat.gcd (b % a) a = Nat.gcd a b) := by show _ = _; rw [← Nat.gcd_rec]
      go_enter Tryz.func165, Tryz.ntmps165
      go_wp2_with fail
      rw [show ((b : Int) % (a : Int)) = ((b % a : Nat) : Int) from by omega]
      refine (unhide IH (b % a) a _ (by omega) (by omega) (by omega)).mono ?_
      rintro e w' ⟨rfl, rfl⟩
      go_wp2_with fail
      go_ret
      exact ⟨ret_int (by rw [HE.out]), rfl⟩
end Go.Proofs.YtikiaijgcjjloaaGreatDoor

namespace Go.Proofs.YtikiaijgcjjloaaGreatDoor
open Go Go.RowKit M Go.Lib
theorem ret_str {a b : ByteArray} (h : a = b) : Ending.returned (.string a) = .returned (.string b) := by rw [h]
theorem str_app (l m : List UInt8) : ((⟨l.toArray⟩ : ByteArray) ++ (⟨m.toArray⟩ : ByteArray)) = ⟨(l ++ m).toArray⟩ := by
  apply ByteArray.ext; simp
def dchar (k : Nat) : UInt8 := UInt8.ofNat (48 + k)
theorem dec_conv (n : Nat) (w : World) : (convert 33 9 (.slice (some ⟨w.heap.size, 0, none⟩) 1 1)).run Tryz.prog (w.alloc (.cells #[.int .u8 (48 + (n : Int) % 10)] 5)) = .ok (.string ⟨#[dchar (n % 10)]⟩) (w.alloc (.cells #[.int .u8 (48 + (n : Int) % 10)] 5)) := by
  have h := run_convert_bytes_back (P := Tryz.prog) (w.alloc (.cells #[.int .u8 (48 + (n : Int) % 10)] 5)) 33 9 5 ⟨w.heap.size, 0, none⟩ 1 [dchar (n % 10)] Tryz.underlying33 Tryz.underlying5 Tryz.underlying9 (fun j hj => by
    have hj0 : j = 0 := by simpa using hj
    subst hj0
    have e := ofNat_toNat (n % 10) (by omega)
    simp only [List.getElem_cons_zero, dchar, e]
    simp [go_sem, Addr.add])
  exact h
theorem str_dec_small (n : Nat) (h : n < 10) : (⟨#[dchar (n % 10)]⟩ : ByteArray) = ⟨(decDigits n).toArray⟩ := by
  rw [dec_small n h, Nat.mod_eq_of_lt h]; rfl
set_option maxRecDepth 100000 in
set_option maxHeartbeats 400000 in
theorem decimal_one (n : Nat) (w : World) (h : n < 10) :
    Calls Tryz.prog 151 #[.int .i64 n] w fun e w' => e = .returned (.string ⟨(decDigits n).toArray⟩) ∧ Below w.heap.size w w' := by
  have hc := dec_conv n w
  have HE := hide (str_dec_small n h)
  go_enter Tryz.func151, Tryz.ntmps151
  go_wp2_with fail
  go_ret
  exact ⟨ret_str (unhide HE), (Below.refl _ _).alloc (Nat.le_refl _) _⟩
set_option maxRecDepth 100000 in
set_option maxHeartbeats 400000 in
theorem decimal_any (k : Nat) : ∀ (n : Nat) (w : World), n ≤ k → n ≤ 4000000000000000000 →
    Calls Tryz.prog 151 #[.int .i64 n] w fun e w' => e = .returned (.string ⟨(decDigits n).toArray⟩) ∧ Below w.heap.size w w' := by
  induction k with
  | zero => intro n w hk hn; exact decimal_one n w (by omega)
  | succ k ih =>
    intro n w hk hn
    by_cases h : n < 10
    · exact decimal_one n w h
    have IH := hide ih
    clear ih
    have hc := dec_conv n w
    have HE := hide (show decDigits n = decDigits (n / 10) ++ [dchar (n % 10)] from dec_step n h)
    have h' : ¬ (n : Int) < 10 := by omega
    have hl : (decDigits (n / 10)).length ≤ 19 := dec_len_le 19 _ (by decide) (by have : (10 : Nat) ^ 19 = 10000000000000000000 := by decide
                                                                                  omega)
    go_enter Tryz.func151, Tryz.ntmps151
    go_wp2_with fail
    rw [show ((n : Int) / 10) = ((n / 10 : Nat) : Int) from by omega]
    refine (unhide IH (n / 10) _ (by omega) (by omega)).mono ?_
    rintro e w' ⟨rfl, hb⟩
    go_wp2_with fail
    go_ret
    exact ⟨ret_str (by rw [unhide HE]; exact str_app _ [_]), ((Below.refl _ _).alloc (Nat.le_refl _) _).trans (hb.mono (by simp))⟩
theorem take_snoc (s : ByteArray) (k : Nat) (h : k < s.size) : s.data.toList.take (k + 1) = s.data.toList.take k ++ [s[k]] := by
  rw [List.take_succ_eq_append_getElem (by simpa using h)]; rfl
theorem len_size (s : ByteArray) : s.data.toList.length = s.size := by simp
theorem take_val_lt (s : ByteArray) (k : Nat) (h : s.size ≤ 10) (ha : (s.data.toList.take k).all isDig = true) : val (s.data.toList.take k) ≤ 9999999999 := by
  have h1 := val_lt _ ha
  have h2 : (s.data.toList.take k).length ≤ 10 := by rw [List.length_take, len_size]; omega
  have h3 : 10 ^ (s.data.toList.take k).length ≤ 10 ^ 10 := Nat.pow_le_pow_right (by decide) h2
  have h4 : (10 : Nat) ^ 10 = 10000000000 := by decide
  omega
theorem value_bad (s : ByteArray) (k : Nat) (h : k < s.size) (hd : isDig s[k] = false) : valueOf s.data.toList = -1 := by
  unfold valueOf
  rw [if_pos]
  right; right
  rw [List.all_eq_false]
  refine ⟨s[k], ?_, by rw [hd]; simp⟩
  exact List.getElem_mem (l := s.data.toList) (n := k) (by simpa using h)
theorem value_push (s : ByteArray) (k : Nat) (h : k < s.size) (ha : (s.data.toList.take k).all isDig = true) (hd : isDig s[k] = true) : (s.data.toList.take (k + 1)).all isDig = true ∧ val (s.data.toList.take (k + 1)) = 10 * val (s.data.toList.take k) + (s[k].toNat - 48) := by
  rw [take_snoc s k h, List.all_append, ha, val_snoc]
  simp [hd]
theorem value_end (s : ByteArray) (k : Nat) (h0 : ¬ s.size < 1) (h10 : ¬ 10 < s.size) (h : s.size ≤ k) (ha : (s.data.toList.take k).all isDig = true) : valueOf s.data.toList = (val (s.data.toList.take k) : Nat) := by
  rw [List.take_of_length_le (by simpa using h)] at *
  unfold valueOf
  rw [len_size, if_neg]
  rintro (h | h | h)
  · exact h0 h
  · exact h10 h
  · rw [ha] at h; cases h
set_option maxRecDepth 100000 in
set_option maxHeartbeats 400000 in
theorem value_any (s : ByteArray) (w : World) (hs : s.size ≤ maxLen) :
    Calls Tryz.prog 134 #[.string s] w fun e w' => e = .returned (.int .i64 (valueOf s.data.toList)) ∧ w' = w := by
  unfold maxLen at hs
  by_cases h1 : s.size < 1
  · have HE := hide (show valueOf s.data.toList = -1 from by unfold valueOf; rw [if_pos (Or.inl (by simpa using h1))])
    have h1' : (s.size : Int) < 1 := by omega
    go_enter Tryz.func134, Tryz.ntmps134
    go_wp2
    go_ret
    exact ⟨ret_int (unhide HE).symm, rfl⟩
  by_cases h2 : 10 < s.size
  · have HE := hide (show valueOf s.data.toList = -1 from by unfold valueOf; rw [if_pos (Or.inr (Or.inl (by simpa using h2)))])
    have h1' : ¬ (s.size : Int) < 1 := by omega
    have h2' : 10 < (s.size : Int) := by omega
    go_enter Tryz.func134, Tryz.ntmps134
    go_wp2
    go_ret
    exact ⟨ret_int (unhide HE).symm, rfl⟩
  have h1' : ¬ (s.size : Int) < 1 := by omega
  have h2' : ¬ 10 < (s.size : Int) := by omega
  go_enter Tryz.func134, Tryz.ntmps134
  go_wp2
  go_loop [3, 4] (fun n i => ∃ k : Nat, k ≤ s.size ∧ i = .int .i64 k ∧ (s.data.toList.take k).all isDig = true ∧ n = .int .i64 (val (s.data.toList.take k) : Nat)) (fun _ i => s.size - (intOf i).toNat)
  case atStart => exact ⟨0, Nat.zero_le _, rfl, rfl, rfl⟩
  case round =>
    obtain ⟨k, hk, rfl, ha, rfl⟩ := hrel
    have hv := take_val_lt s k (by omega) ha
    have HA := hide ha
    clear ha
    by_cases hlt : k < s.size
    · cases hd : isDig s[k] with
      | false =>
        have HE := hide (value_bad s k hlt hd)
        have hr := (isDig_not s[k]).1 hd
        clear hd
        by_cases hc : (s[k].toNat : Int) < 48
        · go_wp2
          go_ret
          exact ⟨ret_int (unhide HE).symm, rfl⟩
        · have hc2 : 57 < (s[k].toNat : Int) := by omega
          go_wp2
          go_ret
          exact ⟨ret_int (unhide HE).symm, rfl⟩
      | true =>
        have HE := hide (value_push s k hlt (unhide HA) hd)
        have hr := (isDig_iff s[k]).1 hd
        clear hd
        have hr1 : 48 ≤ (s[k].toNat : Int) := by omega
        have hr2 : (s[k].toNat : Int) ≤ 57 := by omega
        go_wp2
        go_round
        case rel => exact ⟨k + 1, by omega, by go_num, (unhide HE).1, by rw [(unhide HE).2]; go_num⟩
        case measure => simp [intOf]; omega
    · have HE := hide (value_end s k h1 h2 (by omega) (unhide HA))
      go_wp2
      go_ret
      exact ⟨ret_int (unhide HE).symm, rfl⟩
end Go.Proofs.YtikiaijgcjjloaaGreatDoor

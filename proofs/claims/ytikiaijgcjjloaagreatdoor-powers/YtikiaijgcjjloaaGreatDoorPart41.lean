import Derived.Test.YtikiaijgcjjloaaGreatDoorPart12
import Derived.Test.YtikiaijgcjjloaaGreatDoorPart40
import Derived.Deep.CutRange
import Derived.Deep.DeepCutAuto
import Derived.Test.YtikiaijgcjjloaaGreatDoorRows
import Derived.Test.YtikiaijgcjjloaaGreatDoorPart13
import Derived.ProofKit
import Derived.LaidMore
import Derived.OpenShut
import Derived.ShutString
import Derived.Stop.Joined
import Derived.Lib.LaidTab
import Derived.ChangeSlices
import Derived.SizedLaws

/- The walks of the laws without the document's answer: whole numbers as a list. -/
namespace Go.Proofs.YtikiaijgcjjloaaGreatDoor
open Go Go.RowKit M T Go.Lib

theorem ratText_int (z : Int) : ratText ((z : Int) : Rat) = itoa z := by
  show itoa (((z : Int) : Rat).num) ++ (if ((((z : Int) : Rat).den : Nat) : Int) ≤ 1 then [] else 47 :: decDigits ((((z : Int) : Rat).den : Nat) : Int).toNat) = _
  rw [Rat.num_intCast, Rat.den_intCast, if_pos (by omega), List.append_nil]
theorem small_int {z : Int} (h1 : -1000 ≤ z) (h2 : z ≤ 1000) : small ((z : Int) : Rat) = true := by
  unfold small
  rw [decide_eq_true_iff, Rat.num_intCast, Rat.den_intCast]
  omega
/-- The list that listed writes. -/
structure LsdIs (n : Nat) (L : List Rat) : Prop where
  len : L.length = n
  few : n ≤ 12
  small : AllS L
theorem LsdIs.list {n : Nat} {L : List Rat} (h : LsdIs n L) : IsList (listText L) L := ⟨by have := h.few; rw [h.len]; exact this, h.small, rfl⟩
/-- What listed answers. -/
def LsdGot (w : World) (e : Ending) (w' : World) : Prop := ∃ L, IsList (listText L) L ∧ e = .returned (.string ⟨(listText L).toArray⟩) ∧ Below w.heap.size w w'
theorem listText_add (L : List Rat) (x : Rat) (h : L ≠ []) : (⟨(listText L).toArray⟩ ++ ⟨#[44]⟩ ++ ⟨(ratText x).toArray⟩ : ByteArray) = ⟨(listText (L ++ [x])).toArray⟩ := by
  rw [listText_snoc, if_neg h]
  apply ByteArray.ext
  simp
theorem listText_first (x : Rat) : ((⟨#[]⟩ : ByteArray) ++ ⟨(ratText x).toArray⟩ : ByteArray) = ⟨(listText [x]).toArray⟩ := by
  apply ByteArray.ext
  simp [listText]

set_option maxRecDepth 100000 in
set_option maxHeartbeats 1600000 in
theorem listed_any {w : World} {ra : Option Addr} {rn rc : Nat} {raw : Nat → Int} (hr : RawIs w ra rn raw) (_hn : rn ≤ 140737488355328) (ht : Tab w) :
    Calls Tryz.prog 20 #[.slice ra rn rc] w fun e w' => LsdGot w e w' := by
  have HR := hide hr
  have HT := hide ht
  clear hr ht
  go_enter Tryz.func20, Tryz.ntmps20
  go_wp2_with fail
  go_loopg [3, 4] 12 (fun kk v3 v4 wr => ∃ (i : Nat) (L : List Rat), kk = 12 - i ∧ i ≤ 12 ∧ i ≤ rn ∧ v4 = .int .i64 (i : Int) ∧ v3 = .string ⟨(listText L).toArray⟩ ∧ LsdIs i L ∧ Below w.heap.size w wr)
  case atStart => exact ⟨0, [], rfl, Nat.zero_le _, Nat.zero_le _, rfl, rfl, ⟨rfl, by omega, fun _ h => by (cases h)⟩, Below.refl _ _⟩
  case round =>
    obtain ⟨i, L, hk, hi, hin, rfl, rfl, hL, hbl⟩ := hrel
    have HK := hide hk
    have HL := hide hL
    have HB := hide hbl
    have hll : (listText L).length ≤ 300 := by
      have h1 := listText_len hL.small
      have h2 := hL.len
      have h3 := hL.few
      omega
    clear hk
    by_cases hlt : i < rn
    · have hlt' : (i : Int) < (rn : Int) := by omega
      by_cases hl12 : i < 12
      · have hl12' : (i : Int) < 12 := by omega
        obtain ⟨a, rfl, hab, hcell, hr1, hr2⟩ := ((unhide HR).below hbl).at' i hlt
        have hq := (kpick_val (raw i) (n := 2001) (by omega)).2.2
        have HLen := hide hL.len
        clear hL hbl
        by_cases hz0 : i = 0
        · obtain rfl : L = [] := List.eq_nil_of_length_eq_zero (by rw [unhide HLen]; exact hz0)
          have hz0' : ¬ (0 : Int) < (i : Int) := by omega
          have HZ0 := hide hz0
          clear hz0
          go_wp2_with fail
          refine (kpick_any (raw i) 2001 _ hr1 hr2 (by omega) (by omega)).mono ?_
          rintro e w1 ⟨rfl, rfl⟩
          generalize kpickN (raw i) 2001 = q at hq
          obtain ⟨z, hz⟩ : ∃ z : Int, (q : Int) - 1000 = z := ⟨_, rfl⟩
          have hz1 : -1000 ≤ z := by omega
          have hz2 : z ≤ 1000 := by omega
          have hq1 : (q : Int) ≤ 2000 := by omega
          go_wp2_with fail
          refine (itoa_any z _ (by omega) (by omega) (tab_below (unhide HT) (unhide HB))).mono ?_
          rintro e w2 ⟨rfl, hb2⟩
          have HB2 := hide ((unhide HB).trans (hb2.mono (unhide HB).size))
          have HS := hide (small_int hz1 hz2)
          have HTx := hide (listText_first ((z : Int) : Rat))
          rw [← ratText_int]
          clear hb2
          generalize ((z : Int) : Rat) = x at HS HTx ⊢
          have hxl : (ratText x).length ≤ 23 := item_len (unhide HS)
          go_wp2_with fail
          go_roundg (12 - (i + 1))
          case measure => rw [unhide HK]; omega
          case rel => exact ⟨i + 1, [x], rfl, by omega, by omega, rfl, by first | (rw [← unhide HTx]; rfl) | simp [listText], ⟨by rw [unhide HZ0]; rfl, by omega, fun y hy => by rw [List.mem_singleton.1 hy]; exact unhide HS⟩, unhide HB2⟩
        · have hne : L ≠ [] := fun e => by have := unhide HLen; rw [e] at this; simp at this; omega
          have hz0' : (0 : Int) < (i : Int) := by omega
          go_wp2_with fail
          refine (kpick_any (raw i) 2001 _ hr1 hr2 (by omega) (by omega)).mono ?_
          rintro e w1 ⟨rfl, rfl⟩
          generalize kpickN (raw i) 2001 = q at hq
          obtain ⟨z, hz⟩ : ∃ z : Int, (q : Int) - 1000 = z := ⟨_, rfl⟩
          have hz1 : -1000 ≤ z := by omega
          have hz2 : z ≤ 1000 := by omega
          have hq1 : (q : Int) ≤ 2000 := by omega
          go_wp2_with fail
          refine (itoa_any z _ (by omega) (by omega) (tab_below (unhide HT) (unhide HB))).mono ?_
          rintro e w2 ⟨rfl, hb2⟩
          have HB2 := hide ((unhide HB).trans (hb2.mono (unhide HB).size))
          have HS := hide (small_int hz1 hz2)
          have HTx := hide (listText_add L ((z : Int) : Rat) hne)
          rw [← ratText_int]
          clear hb2
          generalize ((z : Int) : Rat) = x at HS HTx ⊢
          have hxl : (ratText x).length ≤ 23 := item_len (unhide HS)
          go_wp2_with fail
          go_roundg (12 - (i + 1))
          case measure => rw [unhide HK]; omega
          case rel => exact ⟨i + 1, L ++ [x], rfl, by omega, by omega, rfl, by first | (rw [← unhide HTx]) | rfl, ⟨by rw [List.length_append, unhide HLen]; rfl, by omega, allS_one (unhide HL).small (unhide HS)⟩, unhide HB2⟩
      · have hl12' : ¬ (i : Int) < 12 := by omega
        have hlist := hL.list
        have HLs := hide hlist
        clear hL hbl hlist
        go_wp2_with fail
        go_ret
        exact ⟨L, unhide HLs, rfl, unhide HB⟩
    · have hlt' : ¬ (i : Int) < (rn : Int) := by omega
      have hlist := hL.list
      have HLs := hide hlist
      clear hL hbl hlist
      go_wp2_with fail
      go_ret
      exact ⟨L, unhide HLs, rfl, unhide HB⟩
end Go.Proofs.YtikiaijgcjjloaaGreatDoor

/- The walks of the laws without the document's answer: texts put together. -/
namespace Go.Proofs.YtikiaijgcjjloaaGreatDoor
open Go Go.RowKit M T Go.Lib

theorem cat_list (a b : ByteArray) : (a ++ b).data.toList = a.data.toList ++ b.data.toList := by simp
theorem bytes_of {a : ByteArray} {l : List UInt8} (h : a.data.toList = l) : a = ⟨l.toArray⟩ := by subst h; simp
theorem bytes_back (a : ByteArray) : (⟨a.data.toList.toArray⟩ : ByteArray) = a := by simp
theorem pow_text (s it : ByteArray) (k : Int) (h : it.data.toList = itoa k) : ((⟨#[40]⟩ : ByteArray) ++ s ++ ⟨#[41, 94]⟩ ++ it).data.toList = powText s.data.toList k := by
  simp only [cat_list, h]
  simp [powText]
theorem minus_text (s : ByteArray) : ((⟨#[40]⟩ : ByteArray) ++ s ++ ⟨#[41, 94, 45, 49]⟩).data.toList = powText s.data.toList (-1) := by
  simp only [cat_list, powText, itoa_m1]
  simp
theorem plus_text (s : ByteArray) : ((⟨#[40]⟩ : ByteArray) ++ s ++ ⟨#[41, 94, 49]⟩).data.toList = powText s.data.toList 1 := by
  simp only [cat_list, powText, itoa_1]
  simp
theorem bytes_size (l : List UInt8) : (⟨l.toArray⟩ : ByteArray).size = l.length := by
  show l.toArray.size = _
  simp
theorem apply_len {env : Env} {s ls : List UInt8} {fuel : Int} {r : List UInt8} {n e : Int} (h : ApplySays env s ls fuel r n e) : r.length ≤ 300 := by
  by_cases he : e = 0
  · obtain ⟨t, l, l', f', hg, hl, _, _, hr, rfl, _⟩ := h.ok he
    have hl' := run_list hg.term.wf hl hr
    have h1 := listText_len hl'.small
    have h2 := hl'.len
    omega
  · rw [(h.err he).1]; simp
theorem apply_n {env : Env} {s ls : List UInt8} {fuel : Int} {r : List UInt8} {n e : Int} (h : ApplySays env s ls fuel r n e) : 0 ≤ n ∧ n ≤ 5000 := by
  by_cases he : e = 0
  · obtain ⟨t, l, l', f', hg, hl, h1, h2, hr, _, rfl⟩ := h.ok he
    obtain ⟨m, hm, _⟩ := Tm.paced t false _ _ _ _ hr
    omega
  · rw [(h.err he).2]; omega
theorem empty_yes {s : ByteArray} (h : s.data.toList = []) : s.toList.isEmpty = true := by rw [ByteArray.toList_eq, h]; rfl
theorem empty_no {s : ByteArray} (h : s.data.toList ≠ []) : s.toList.isEmpty = false := by
  rw [ByteArray.toList_eq]
  cases h1 : s.data.toList with
  | nil => exact absurd h1 h
  | cons c l => rfl
theorem list_len {ls : List UInt8} {L : List Rat} (h : IsList ls L) : ls.length ≤ 300 := by
  have h1 := listText_len h.small
  have h2 := h.len
  rw [h.text] at h1
  omega
theorem facts_len {env : Env} {s : List UInt8} {n : Int} (h : FactsSays env s n 0) : s.length ≤ 120 := by
  obtain ⟨t, hg, _⟩ := h.good
  exact hg.len
theorem size_list (a : ByteArray) : a.size = a.data.toList.length := by simp
end Go.Proofs.YtikiaijgcjjloaaGreatDoor

/- The walk of unwindkeep.Powers. -/
namespace Go.Proofs.YtikiaijgcjjloaaGreatDoor
open Go Go.RowKit M T Go.Lib

/-- How far a power has come. -/
structure PowR (t : Tm) (L : List Rat) (k i : Nat) (c : Int) (lt : List UInt8) (left : Nat) : Prop where
  bd : left ≤ 4999
  is : (c = 0 ∧ ∃ Li, lt = listText Li ∧ IsList lt Li ∧ iter (t.run false) i L 4999 = .ok Li left) ∨ (c ≠ 0 ∧ iter (t.run false) k L 4999 = .err c)
theorem PowR.start {t : Tm} {L : List Rat} {k : Nat} (h : IsList (listText L) L) : PowR t L k 0 0 (listText L) 4999 := ⟨Nat.le_refl _, Or.inl ⟨rfl, L, rfl, h, iter_zero _ _ _⟩⟩
theorem PowR.stop {t : Tm} {L : List Rat} {k i : Nat} {lt : List UInt8} (h : PowR t L k i 0 lt 0) (hi : i < k) : PowR t L k i 10 lt 0 := by
  rcases h.is with ⟨_, Li, _, _, he⟩ | ⟨h, _⟩
  · refine ⟨Nat.zero_le _, Or.inr ⟨by decide, ?_⟩⟩
    have e1 : iter (t.run false) (i + 1) L 4999 = .err 10 := by rw [iter_succ', he]; rfl
    have := iter_err_mono (t.run false) L 4999 10 (i + 1) e1 (k - (i + 1))
    rwa [show i + 1 + (k - (i + 1)) = k by omega] at this
  · exact absurd rfl h
/-- A time more. -/
theorem PowR.next {env : Env} {s : List UInt8} {t : Tm} {L : List Rat} {k i : Nat} {lt : List UInt8} {left : Nat} (h : PowR t L k i 0 lt (left + 1)) (hi : i < k) (hg : T.Good env s t) {r : List UInt8} {n c : Int} (ha : ApplySays env s lt (left : Int) r n c) : 0 ≤ n ∧ n ≤ left ∧ PowR t L k (i + 1) c r (left - n.toNat) := by
  have hlf := h.bd
  rcases h.is with ⟨_, Li, rfl, hl, he⟩ | ⟨h, _⟩
  · rcases ha with ⟨hc, _, _⟩ | ⟨t', hg', ha⟩
    · exact (hc.not_good hg).elim
    obtain rfl := hg'.unique hg
    rcases ha with ⟨hno, _⟩ | ⟨l', hl', ha⟩
    · exact absurd ⟨_, hl⟩ hno
    obtain rfl := hl'.unique hl
    rcases ha with ⟨hf, _⟩ | ⟨_, _, hr⟩
    · omega
    rw [show ((left : Int)).toNat = left from rfl] at hr
    have e1 : iter (t'.run false) (i + 1) L 4999 = t'.run false l' left := by rw [iter_succ', he]; rfl
    cases hres : t'.run false l' left with
    | ok l2 f2 =>
      rw [hres] at hr
      obtain ⟨rfl, rfl, rfl⟩ := hr
      obtain ⟨m, hm, _⟩ := Tm.paced t' false _ _ _ _ hres
      refine ⟨by omega, by omega, by omega, Or.inl ⟨rfl, l2, rfl, run_list hg.term.wf hl hres, ?_⟩⟩
      rw [e1, hres, show left - ((left : Int) - (f2 : Int)).toNat = f2 by omega]
    | err e =>
      rw [hres] at hr
      obtain ⟨rfl, rfl, rfl⟩ := hr
      refine ⟨by omega, by omega, by omega, Or.inr ⟨(Tm.errs t' false _ _ _ hres).ne, ?_⟩⟩
      have := iter_err_mono (t'.run false) L 4999 c (i + 1) (by rw [e1, hres]) (k - (i + 1))
      rwa [show i + 1 + (k - (i + 1)) = k by omega] at this
  · exact absurd rfl h
/-- The power itself. -/
theorem PowR.fin {env : Env} {s ls : List UInt8} {t : Tm} {L : List Rat} {k i : Nat} {c : Int} {lt : List UInt8} {left : Nat} (h : PowR t L k i c lt left) (hi : c = 0 → i = k) (hk : k ≤ 999) (hg : T.Good env s t) (hp : (powText s k).length ≤ 120) (hl : IsList ls L) {r : List UInt8} {m g : Int} (ha : ApplySays env (powText s k) ls 5000 r m g) : (c ≠ 0 → g = c ∧ r = [] ∧ m = 0) ∧ (c = 0 → g = 0 ∧ r = lt ∧ m = 5000 - (left : Int) ∧ 1 ≤ m) := by
  have hgp : T.Good env (powText s k) (.cons (.pow t k) .nil) := ⟨hp, hg.term.pow (by omega) (by omega)⟩
  have hlf := h.bd
  rcases ha with ⟨hc, _, _⟩ | ⟨t', hg', ha⟩
  · exact (hc.not_good hgp).elim
  obtain rfl := hg'.unique hgp
  rcases ha with ⟨hno, _⟩ | ⟨l', hl', ha⟩
  · exact absurd ⟨_, hl⟩ hno
  obtain rfl := hl'.unique hl
  rcases ha with ⟨hf, _⟩ | ⟨_, _, hr⟩
  · omega
  rw [show ((5000 : Int)).toNat = 4999 + 1 from rfl, run_power] at hr
  rcases h.is with ⟨rfl, Li, rfl, _, he⟩ | ⟨hne, he⟩
  · rw [hi rfl] at he
    rw [he] at hr
    obtain ⟨rfl, rfl, rfl⟩ := hr
    exact ⟨fun h => absurd rfl h, fun _ => ⟨rfl, rfl, rfl, by omega⟩⟩
  · rw [he] at hr
    obtain ⟨rfl, rfl, rfl⟩ := hr
    exact ⟨fun _ => ⟨rfl, rfl, rfl⟩, fun h => absurd h hne⟩

set_option maxRecDepth 100000 in
set_option maxHeartbeats 3200000 in
theorem powers_walk {w : World} (s : ByteArray) {ra : Option Addr} {rn rc : Nat} {raw : Nat → Int} (k : Int) (hs : s.size ≤ 140737488355328) (hk1 : -9223372036854775808 ≤ k) (hk2 : k ≤ 9223372036854775807) (hr : RawIs w ra rn raw) (hn : rn ≤ 140737488355328) (ht : Tab w) :
    Calls Tryz.prog 7 #[.string s, .slice ra rn rc, .int .i64 k] w fun e w' => e = .returned (.bool true) ∧ Below w.heap.size w w' := by
  have HR := hide hr
  have HT := hide ht
  clear hr ht
  go_enter Tryz.func7, Tryz.ntmps7
  go_wp2_with fail
  refine (ready_any _ (unhide HT)).mono ?_
  rintro e w1 ⟨xb, rfl, hses, hb1⟩
  have HS := hide hses
  have HB1 := hide hb1
  clear hses hb1
  go_wp2_with fail
  refine (facts_any s _ (unhide HS)).mono ?_
  rintro e w2 ⟨n0, c0, rfl, hf, hb2⟩
  have HF := hide hf
  have HS2 := hide ((unhide HS).below hb2)
  have HB2 := hide ((unhide HB1).trans (hb2.mono (unhide HB1).size))
  clear hf hb2
  go_wp2_with fail
  refine (kpick_any k 40 _ hk1 hk2 (by omega) (by omega)).mono ?_
  rintro e w2' ⟨rfl, rfl⟩
  have hq := (kpick_val k (n := 40) (by omega)).2.2
  generalize kpickN k 40 = q at hq
  have hq' : (q : Int) < 40 := by omega
  go_wp2_with fail
  refine (itoa_any (q : Int) _ (by omega) (by omega) (tab_below (unhide HT) (unhide HB2))).mono ?_
  rintro e w3 ⟨rfl, hb3⟩
  have HS3 := hide ((unhide HS2).below hb3)
  have HB3 := hide ((unhide HB2).trans (hb3.mono (unhide HB2).size))
  obtain ⟨it, hit⟩ : ∃ it : ByteArray, it = ⟨(itoa (q : Int)).toArray⟩ := ⟨_, rfl⟩
  rw [← hit]
  have HP := hide (pow_text s it (q : Int) (by rw [hit]))
  have hil : it.size ≤ 30 := by
    rw [hit, bytes_size, M.itoa_pos _ (by omega), Int.natAbs_natCast]
    have := dec_len_le 2 q (by decide) (by omega)
    omega
  clear hb3 hit
  go_upto_region 7 with fail
  generalize (⟨#[40]⟩ : ByteArray) ++ s ++ ⟨#[41, 94]⟩ ++ it = P at HP ⊢
  have hPs : P.size = P.data.toList.length := size_list P
  by_cases hc : c0 = 0
  · subst hc
    by_cases hlong : 120 < P.size
    · have hlong' : (120 : Int) < (P.size : Int) := by omega
      clear hPs
      go_wp2_with fail
      go_ret
      exact ⟨rfl, unhide HB3⟩
    · have hlong' : ¬ (120 : Int) < (P.size : Int) := by omega
      have HPl := hide (show (powText s.data.toList (q : Int)).length ≤ 120 by rw [← unhide HP, ← hPs]; omega)
      obtain ⟨t, hg, _⟩ := (unhide HF).good
      have HG := hide hg
      clear hPs hg
      go_wp2_with fail
      refine (listed_any ((unhide HR).below (unhide HB3)) hn (tab_below (unhide HT) (unhide HB3))).mono ?_
      rintro e w4 ⟨L, hL, rfl, hb4⟩
      have HL := hide hL
      have HS4 := hide ((unhide HS3).below hb4)
      have HB4 := hide ((unhide HB3).trans (hb4.mono (unhide HB3).size))
      have hls := list_len hL
      have HSt := hide (PowR.start (t := t) (k := q) hL)
      clear hL hb4
      generalize listText L = lt0 at HL hls HSt
      have hlz : (⟨lt0.toArray⟩ : ByteArray).size ≤ 9223372036854775807 := by rw [bytes_size]; omega
      go_upto_block 0 with fail
      go_cut [12, 13, 14, 15, 16] from 47 to 71 (fun v12 v13 v14 v15 v16 wx => ∃ (i : Nat) (c : Int) (lt : List UInt8) (left : Nat), v12 = .string ⟨lt.toArray⟩ ∧ v13 = .int .i64 (left : Int) ∧ v14 = .int .i64 c ∧ PowR t L q i c lt left ∧ (c = 0 → i = q) ∧ Below w4.heap.size w4 wx)
      case first =>
        go_wp2_with fail
        go_loopg [12, 13, 14, 15, 16] (q + 1) (fun kk v12 v13 v14 v15 v16 wr => ∃ (i : Nat) (c : Int) (lt : List UInt8) (left : Nat), kk = q + 1 - i ∧ i ≤ q ∧ v15 = .int .i64 (i : Int) ∧ v12 = .string ⟨lt.toArray⟩ ∧ v13 = .int .i64 (left : Int) ∧ v14 = .int .i64 c ∧ PowR t L q i c lt left ∧ lt.length ≤ 300 ∧ Below w4.heap.size w4 wr)
        case atStart => exact ⟨0, 0, lt0, 4999, rfl, Nat.zero_le _, rfl, rfl, rfl, rfl, unhide HSt, hls, Below.refl _ _⟩
        case round =>
          obtain ⟨i, c, lt, left, hk, hi, rfl, rfl, rfl, rfl, hpw, hltl, hbl⟩ := hrel
          have HK := hide hk
          have HPw := hide hpw
          have HBl := hide hbl
          have hleft := hpw.bd
          clear hk hpw hbl
          by_cases hlt : i < q
          · have hlt' : (i : Int) < (q : Int) := by omega
            by_cases hc0 : c = 0
            · subst hc0
              by_cases hl0 : left = 0
              · subst hl0
                have HNx := hide ((unhide HPw).stop hlt)
                go_wp2_with fail
                go_meet
                case rel => exact ⟨i, 10, lt, 0, rfl, rfl, rfl, unhide HNx, fun h => by (cases h), unhide HBl⟩
              · obtain ⟨left', rfl⟩ : ∃ left', left = left' + 1 := ⟨left - 1, by omega⟩
                have hl0' : (((left' + 1 : Nat) : Int) == 0) = false := by rw [beq_eq_false_iff_ne]; omega
                have hl1 : ((left' + 1 : Nat) : Int) - 1 = (left' : Int) := by omega
                have hltz : (⟨lt.toArray⟩ : ByteArray).size ≤ 9223372036854775807 := by rw [bytes_size]; omega
                have HSr := hide ((unhide HS4).below (unhide HBl))
                have HTr := hide (tab_below (unhide HT) ((unhide HB4).trans ((unhide HBl).mono (unhide HB4).size)))
                go_wp2_with fail
                refine (apply_any s ⟨lt.toArray⟩ (left' : Int) _ (unhide HSr) (unhide HTr) hltz).mono ?_
                rintro e w6 ⟨r, n, c, rfl, ha, hb6⟩
                obtain ⟨hn0, hn1, hnx⟩ := (unhide HPw).next hlt (unhide HG) ha
                have hrl := apply_len ha
                have HNx := hide hnx
                have HB6 := hide ((unhide HBl).trans (hb6.mono (unhide HBl).size))
                clear ha hb6 hnx
                obtain ⟨n', rfl⟩ : ∃ n' : Nat, n = (n' : Int) := ⟨n.toNat, by omega⟩
                have hl2 : (left' : Int) - (n' : Int) = ((left' - n' : Nat) : Int) := by omega
                go_wp2_with fail
                go_roundg (q + 1 - (i + 1))
                case measure => rw [unhide HK]; omega
                case rel => exact ⟨i + 1, c, r, left' - n', rfl, by omega, rfl, rfl, by first | rfl | (rw [hl2]), rfl, unhide HNx, hrl, unhide HB6⟩
            · have hc0' : (c == 0) = false := by rw [beq_eq_false_iff_ne]; exact hc0
              go_wp2_with fail
              go_meet
              case rel => exact ⟨i, c, lt, left, rfl, rfl, rfl, unhide HPw, fun h => absurd h hc0, unhide HBl⟩
          · have hlt' : ¬ (i : Int) < (q : Int) := by omega
            go_wp2_with fail
            go_meet
            case rel => exact ⟨i, c, lt, left, rfl, rfl, rfl, unhide HPw, fun _ => by omega, unhide HBl⟩
      case rest =>
        obtain ⟨i, c, lt, left, rfl, rfl, rfl, hpw, hci, hbx⟩ := hcut
        have HPw := hide hpw
        have hleft := hpw.bd
        have HCi := hide hci
        have HS5 := hide ((unhide HS4).below hbx)
        have HB5 := hide ((unhide HB4).trans (hbx.mono (unhide HB4).size))
        clear hpw hci hbx
        go_wp2_with fail
        refine (apply_any P ⟨lt0.toArray⟩ 5000 _ (unhide HS5) (tab_below (unhide HT) (unhide HB5)) hlz).mono ?_
        rintro e w6 ⟨r, m, g, rfl, ha, hb6⟩
        rw [unhide HP] at ha
        obtain ⟨z1, z2⟩ := (unhide HPw).fin (unhide HCi) (by omega) (unhide HG) (unhide HPl) (unhide HL) ha
        have HB6 := hide ((unhide HB5).trans (hb6.mono (unhide HB5).size))
        clear ha hb6
        by_cases hc0 : c = 0
        · subst hc0
          obtain ⟨rfl, rfl, rfl, hm1⟩ := z2 rfl
          clear z1 z2
          go_wp2_with fail
          go_ret
          exact ⟨rfl, unhide HB6⟩
        · obtain ⟨rfl, rfl, rfl⟩ := z1 hc0
          have hc0' : (g != 0) = true := by rw [bne_iff_ne]; exact hc0
          clear z1 z2
          go_wp2_with fail
          go_ret
          exact ⟨rfl, unhide HB6⟩
  · have hc' : (c0 != 0) = true := by rw [bne_iff_ne]; exact hc
    clear hPs
    go_wp2_with fail
    go_ret
    exact ⟨rfl, unhide HB3⟩
end Go.Proofs.YtikiaijgcjjloaaGreatDoor

/- What the rows' listed tables give the walks; the witness' start. -/
namespace Go.Proofs.YtikiaijgcjjloaaGreatDoor
open Go Go.ChangeShapes Go.WideShapes Go.ChangeAt Go.WideMaps Go.WideElems Go.RowKit

theorem own : ownKnob Tryz.prog.godebug = none := by kernel_rfl
def laid3 : List (String × DataW Unit) := [("math/bits.deBruijn32tab", Rows.laid_math_bits_deBruijn32tab), ("math/bits.deBruijn64tab", Rows.laid_math_bits_deBruijn64tab), ("internal/strconv.uint64pow10", Rows.laid_internal_strconv_uint64pow10)]
theorem gPow : Tryz.prog.globalNamed "internal/strconv.uint64pow10" = some 0 := by kernel_rfl
theorem tPow : (Tryz.prog.globals[0]?).map (·.type) = some 183 := by kernel_rfl
theorem dPow : (Rows.laid_internal_strconv_uint64pow10 : DataW Unit) = Lib.tabData .u64 Lib.pow10Tab := by kernel_rfl

set_option maxRecDepth 100000 in
theorem door_met (os : Os) (args : Array Value) : laidMetH Tryz.prog laid3 ((World.doorLaid Tryz.prog 400 os).forCall (fun _ _ => 0) ⟨#[], args, []⟩).memory :=
  laidMetH_of_parts3 (fuel := 8) (laidMet_of_run' 8 (by kernel_rfl) (by kernel_rfl)) (by kernel_rfl) (by kernel_rfl)

theorem tab_of_laid {W : World} (h : laidMetH Tryz.prog laid3 W) : Tab W := by
  rw [MakeChecks.laidMetH_plain _ _ _ (by kernel_rfl)] at h
  obtain ⟨ps, ⟨g0, t0, cs0, f0, p0, q0, hg0, ht0, hv0, hd0, ⟨g1, t1, cs1, f1, p1, q1, hg1, ht1, hv1, hd1, ⟨g2, t2, cs2, f2, p2, q2, hg2, ht2, hv2, hd2, _, _⟩, _⟩, _⟩, _, _⟩ := h
  obtain rfl := Option.some.inj (gPow.symm.trans hg2)
  obtain rfl := Option.some.inj (tPow.symm.trans ht2)
  rw [dPow] at hd2
  unfold Tab Lib.TabIs
  rw [hv2, ← Lib.cells_of_tab Tryz.underlying183 Tryz.underlying139 (by kernel_rfl) (by kernel_rfl) hd2]
end Go.Proofs.YtikiaijgcjjloaaGreatDoor

/- Raw numbers handed in, opened. -/
namespace Go.Proofs.YtikiaijgcjjloaaGreatDoor
open Go Go.ChangeShapes Go.WideShapes Go.ChangeAt Go.WideMaps Go.WideElems Go.RowKit

theorem Tryz.cellsIntO : Tryz.prog.cellsOf 3 = 1 := by kernel_rfl
theorem Tryz.bytesIntO : Tryz.prog.bytesOf 3 = 8 := by kernel_rfl
theorem add_block (a : Addr) (i : Nat) : (a.add i).block = a.block := by unfold Addr.add; split <;> rfl
set_option maxRecDepth 100000 in
/-- Raw numbers, opened. -/
theorem open_raw {H : Type} {enc : TypeId × Value → H} {W : World} {base : Nat} {v : Value} {d : DataW H} {p : List MemPlace} (hval : Value.okWide Tryz.prog W .any base 25 v) (h : DataW.Trod enc Tryz.prog W 0 (fun _ => true) true 25 v d p)
    {ts : List TypeId} {ds : List (DataW H)} {j : Nat} (hsz : (DataW.weightsEach Tryz.prog ts ds).all (· ≤ reachBytes) = true) (ht : ts[j]? = some 25) (hd : ds[j]? = some d) :
    ∃ (ra : Option Addr) (rn rc : Nat) (raw : Nat → Int), v = .slice ra rn rc ∧ RawIs W ra rn raw ∧ rn ≤ 140737488355328 := by
  obtain ⟨ao, len0, cap0, rfl⟩ := Go.WideShapes.okWide_slice Tryz.underlying25 hval
  obtain ⟨fuel, hf⟩ := h
  rcases open_ints Tryz.underlying25 Tryz.underlying3 Tryz.cellsIntO hf with ⟨hc, hx⟩ | ⟨a, len, cap, zs, hc, _, hl, hm, hzl, hx, hcell, hwf⟩
  · simp [Value.cells] at hc
    obtain ⟨rfl, rfl, rfl⟩ := hc
    exact ⟨none, 0, 0, fun _ => 0, rfl, ⟨fun i h => absurd h (Nat.not_lt_zero i)⟩, by omega⟩
  · simp [Value.cells] at hc
    obtain ⟨rfl, rfl, rfl⟩ := hc
    simp only [if_true] at hzl
    simp only [Prod.mk.injEq] at hx
    have hw := sized_slice hsz (j := j) ht (by rw [hd, hx.1]) Tryz.underlying25
    rw [Tryz.bytesIntO] at hw
    have hrb : reachBytes = 140737488351232 := rfl
    rw [hrb] at hw
    have hle : len0 ≤ 140737488355328 := by
      have h1 : (lits (H := H) .i64 (zs.take len0)).length = len0 := by
        unfold lits
        rw [List.length_map, List.length_take]
        omega
      rw [h1] at hw
      omega
    refine ⟨some a, len0, _, fun i => zs.getD i 0, rfl, ⟨fun i hi => ⟨a, rfl, ?_, hcell i (by omega), ?_⟩⟩, hle⟩
    · exact World.block_lt_of_cell? W _ (hcell i (by omega))
    · refine bounds_i64 (hwf _ ?_)
      rw [List.getD_eq_getElem?_getD, List.getElem?_eq_getElem (by omega)]
      exact List.getElem_mem _
end Go.Proofs.YtikiaijgcjjloaaGreatDoor

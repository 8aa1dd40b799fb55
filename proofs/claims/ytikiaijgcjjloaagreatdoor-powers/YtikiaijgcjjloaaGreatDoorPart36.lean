import Derived.Test.YtikiaijgcjjloaaGreatDoorPart35
import Derived.Test.YtikiaijgcjjloaaGreatDoorRows
import Derived.Test.YtikiaijgcjjloaaGreatDoorPart9
import Derived.ProofKit
import Derived.LaidMore
import Derived.OpenShut
import Derived.ShutString
import Derived.Stop.Joined
import Derived.Lib.LaidTab
import Derived.Test.YtikiaijgcjjloaaGreatDoorPart8
import Derived.ChangeSlices
import Derived.SizedLaws

/- The walk of unwindkeep.Powers. -/
namespace Go.Proofs.YtikiaijgcjjloaaGreatDoor
open Go Go.RowKit M T Go.Lib

/-- How far a power has come. -/
structure PowR (t : Tm) (L : List Rat) (k i : Nat) (c : Int) (lt : List UInt8) (left : Nat) : Prop where
  bd : left ≤ 4999
  is : (c = 0 ∧ ∃ Li, lt = listText Li ∧ IsList lt Li ∧ iter (t.run false) i L 4999 = .ok Li left) ∨ (c ≠ 0 ∧ iter (t.run false) k L 4999 = .err c)
theorem PowR.start {t : Tm} {L : List Rat} {k : Nat} (h : IsList (listText L) L) : PowR t L k 0 0 (listText L) 4999 := ⟨Nat.le_refl _, Or.inl ⟨rfl, L, rfl, h, iter_zero _ _ _⟩⟩
theorem PowR.stop {t : Tm} {L : List Rat} {k i : Nat} {lt : List UInt8} (h : PowR t L k i 0 lt 0) (hi : i < k) : PowR t L k i 10 lt 0 := by
  rcases h.is with ⟨_, Li, _, _, he⟩ | ⟨h, _⟩
  · refine ⟨Nat.zero_le _, Or.inr ⟨by decide, ?_⟩⟩
    have e1 : iter (t.run false) (i + 1) L 4999 = .err 10 := by rw [iter_succ', he]; rfl
    have := iter_err_mono (t.run false) L 4999 10 (i + 1) e1 (k - (i + 1))
    rwa [show i + 1 + (k - (i + 1)) = k by omega] at this
  · exact absurd rfl h
/-- A time more. -/
theorem PowR.next {env : Env} {s : List UInt8} {t : Tm} {L : List Rat} {k i : Nat} {lt : List UInt8} {left : Nat} (h : PowR t L k i 0 lt (left + 1)) (hi : i < k) (hg : T.Good env s t) {r : List UInt8} {n c : Int} (ha : ApplySays env s lt (left : Int) r n c) : 0 ≤ n ∧ n ≤ left ∧ PowR t L k (i + 1) c r (left - n.toNat) := by
  have hlf := h.bd
  rcases h.is with ⟨_, Li, rfl, hl, he⟩ | ⟨h, _⟩
  · rcases ha with ⟨hc, _, _⟩ | ⟨t', hg', ha⟩
    · exact (hc.not_good hg).elim
    obtain rfl := hg'.unique hg
    rcases ha with ⟨hno, _⟩ | ⟨l', hl', ha⟩
    · exact absurd ⟨_, hl⟩ hno
    obtain rfl := hl'.unique hl
    rcases ha with ⟨hf, _⟩ | ⟨_, _, hr⟩
    · omega
    rw [show ((left : Int)).toNat = left from rfl] at hr
    have e1 : iter (t'.run false) (i + 1) L 4999 = t'.run false l' left := by rw [iter_succ', he]; rfl
    cases hres : t'.run false l' left with
    | ok l2 f2 =>
      rw [hres] at hr
      obtain ⟨rfl, rfl, rfl⟩ := hr
      obtain ⟨m, hm, _⟩ := Tm.paced t' false _ _ _ _ hres
      refine ⟨by omega, by omega, by omega, Or.inl ⟨rfl, l2, rfl, run_list hg.term.wf hl hres, ?_⟩⟩
      rw [e1, hres, show left - ((left : Int) - (f2 : Int)).toNat = f2 by omega]
    | err e =>
      rw [hres] at hr
      obtain ⟨rfl, rfl, rfl⟩ := hr
      refine ⟨by omega, by omega, by omega, Or.inr ⟨(Tm.errs t' false _ _ _ hres).ne, ?_⟩⟩
      have := iter_err_mono (t'.run false) L 4999 c (i + 1) (by rw [e1, hres]) (k - (i + 1))
      rwa [show i + 1 + (k - (i + 1)) = k by omega] at this
  · exact absurd rfl h
/-- The power itself. -/
theorem PowR.fin {env : Env} {s ls : List UInt8} {t : Tm} {L : List Rat} {k i : Nat} {c : Int} {lt : List UInt8} {left : Nat} (h : PowR t L k i c lt left) (hi : c = 0 → i = k) (hk : k ≤ 999) (hg : T.Good env s t) (hp : (powText s k).length ≤ 120) (hl : IsList ls L) {r : List UInt8} {m g : Int} (ha : ApplySays env (powText s k) ls 5000 r m g) : (c ≠ 0 → g = c ∧ r = [] ∧ m = 0) ∧ (c = 0 → g = 0 ∧ r = lt ∧ m = 5000 - (left : Int) ∧ 1 ≤ m) := by
  have hgp : T.Good env (powText s k) (.cons (.pow t k) .nil) := ⟨hp, hg.term.pow (by omega) (by omega)⟩
  have hlf := h.bd
  rcases ha with ⟨hc, _, _⟩ | ⟨t', hg', ha⟩
  · exact (hc.not_good hgp).elim
  obtain rfl := hg'.unique hgp
  rcases ha with ⟨hno, _⟩ | ⟨l', hl', ha⟩
  · exact absurd ⟨_, hl⟩ hno
  obtain rfl := hl'.unique hl
  rcases ha with ⟨hf, _⟩ | ⟨_, _, hr⟩
  · omega
  rw [show ((5000 : Int)).toNat = 4999 + 1 from rfl, run_power] at hr
  rcases h.is with ⟨rfl, Li, rfl, _, he⟩ | ⟨hne, he⟩
  · rw [hi rfl] at he
    rw [he] at hr
    obtain ⟨rfl, rfl, rfl⟩ := hr
    exact ⟨fun h => absurd rfl h, fun _ => ⟨rfl, rfl, rfl, by omega⟩⟩
  · rw [he] at hr
    obtain ⟨rfl, rfl, rfl⟩ := hr
    exact ⟨fun _ => ⟨rfl, rfl, rfl⟩, fun h => absurd h hne⟩

set_option maxRecDepth 100000 in
set_option maxHeartbeats 3200000 in
theorem powers_walk {w : World} (s : ByteArray) {ra : Option Addr} {rn rc : Nat} {raw : Nat → Int} (k : Int) (hs : s.size ≤ 140737488355328) (hk1 : -9223372036854775808 ≤ k) (hk2 : k ≤ 9223372036854775807) (hr : RawIs w ra rn raw) (hn : rn ≤ 140737488355328) (ht : Tab w) :
    Calls Tryz.prog 7 #[.string s, .slice ra rn rc, .int .i64 k] w fun e w' => e = .returned (.bool true) ∧ Below w.heap.size w w' := by
  have HR := hide hr
  have HT := hide ht
  clear hr ht
  go_enter Tryz.func7, Tryz.ntmps7
  go_wp2_with fail
  refine (ready_any _ (unhide HT)).mono ?_
  rintro e w1 ⟨xb, rfl, hses, hb1⟩
  have HS := hide hses
  have HB1 := hide hb1
  clear hses hb1
  go_wp2_with fail
  refine (facts_any s _ (unhide HS)).mono ?_
  rintro e w2 ⟨n0, c0, rfl, hf, hb2⟩
  have HF := hide hf
  have HS2 := hide ((unhide HS).below hb2)
  have HB2 := hide ((unhide HB1).trans (hb2.mono (unhide HB1).size))
  clear hf hb2
  go_wp2_with fail
  refine (kpick_any k 40 _ hk1 hk2 (by omega) (by omega)).mono ?_
  rintro e w2' ⟨rfl, rfl⟩
  have hq := (kpick_val k (n := 40) (by omega)).2.2
  generalize kpickN k 40 = q at hq
  have hq' : (q : Int) < 40 := by omega
  go_wp2_with fail
  refine (itoa_any (q : Int) _ (by omega) (by omega) (tab_below (unhide HT) (unhide HB2))).mono ?_
  rintro e w3 ⟨rfl, hb3⟩
  have HS3 := hide ((unhide HS2).below hb3)
  have HB3 := hide ((unhide HB2).trans (hb3.mono (unhide HB2).size))
  obtain ⟨it, hit⟩ : ∃ it : ByteArray, it = ⟨(itoa (q : Int)).toArray⟩ := ⟨_, rfl⟩
  rw [← hit]
  have HP := hide (pow_text s it (q : Int) (by rw [hit]))
  have hil : it.size ≤ 30 := by
    rw [hit, bytes_size, M.itoa_pos _ (by omega), Int.natAbs_natCast]
    have := dec_len_le 2 q (by decide) (by omega)
    omega
  clear hb3 hit
  go_upto_region 7 with fail
  generalize (⟨#[40]⟩ : ByteArray) ++ s ++ ⟨#[41, 94]⟩ ++ it = P at HP ⊢
  have hPs : P.size = P.data.toList.length := size_list P
  by_cases hc : c0 = 0
  · subst hc
    by_cases hlong : 120 < P.size
    · have hlong' : (120 : Int) < (P.size : Int) := by omega
      clear hPs
      go_wp2_with fail
      go_ret
      exact ⟨rfl, unhide HB3⟩
    · have hlong' : ¬ (120 : Int) < (P.size : Int) := by omega
      have HPl := hide (show (powText s.data.toList (q : Int)).length ≤ 120 by rw [← unhide HP, ← hPs]; omega)
      obtain ⟨t, hg, _⟩ := (unhide HF).good
      have HG := hide hg
      clear hPs hg
      go_wp2_with fail
      refine (listed_any ((unhide HR).below (unhide HB3)) hn (tab_below (unhide HT) (unhide HB3))).mono ?_
      rintro e w4 ⟨L, hL, rfl, hb4⟩
      have HL := hide hL
      have HS4 := hide ((unhide HS3).below hb4)
      have HB4 := hide ((unhide HB3).trans (hb4.mono (unhide HB3).size))
      have hls := list_len hL
      have HSt := hide (PowR.start (t := t) (k := q) hL)
      clear hL hb4
      generalize listText L = lt0 at HL hls HSt
      have hlz : (⟨lt0.toArray⟩ : ByteArray).size ≤ 9223372036854775807 := by rw [bytes_size]; omega
      go_upto_block 0 with fail
      go_cut [12, 13, 14, 15, 16] from 47 to 71 (fun v12 v13 v14 v15 v16 wx => ∃ (i : Nat) (c : Int) (lt : List UInt8) (left : Nat), v12 = .string ⟨lt.toArray⟩ ∧ v13 = .int .i64 (left : Int) ∧ v14 = .int .i64 c ∧ PowR t L q i c lt left ∧ (c = 0 → i = q) ∧ Below w4.heap.size w4 wx)
      case first =>
        go_wp2_with fail
        go_loopg [12, 13, 14, 15, 16] (q + 1) (fun kk v12 v13 v14 v15 v16 wr => ∃ (i : Nat) (c : Int) (lt : List UInt8) (left : Nat), kk = q + 1 - i ∧ i ≤ q ∧ v15 = .int .i64 (i : Int) ∧ v12 = .string ⟨lt.toArray⟩ ∧ v13 = .int .i64 (left : Int) ∧ v14 = .int .i64 c ∧ PowR t L q i c lt left ∧ lt.length ≤ 300 ∧ Below w4.heap.size w4 wr)
        case atStart => exact ⟨0, 0, lt0, 4999, rfl, Nat.zero_le _, rfl, rfl, rfl, rfl, unhide HSt, hls, Below.refl _ _⟩
        case round =>
          obtain ⟨i, c, lt, left, hk, hi, rfl, rfl, rfl, rfl, hpw, hltl, hbl⟩ := hrel
          have HK := hide hk
          have HPw := hide hpw
          have HBl := hide hbl
          have hleft := hpw.bd
          clear hk hpw hbl
          by_cases hlt : i < q
          · have hlt' : (i : Int) < (q : Int) := by omega
            by_cases hc0 : c = 0
            · subst hc0
              by_cases hl0 : left = 0
              · subst hl0
                have HNx := hide ((unhide HPw).stop hlt)
                go_wp2_with fail
                go_meet
                case rel => exact ⟨i, 10, lt, 0, rfl, rfl, rfl, unhide HNx, fun h => by (cases h), unhide HBl⟩
              · obtain ⟨left', rfl⟩ : ∃ left', left = left' + 1 := ⟨left - 1, by omega⟩
                have hl0' : (((left' + 1 : Nat) : Int) == 0) = false := by rw [beq_eq_false_iff_ne]; omega
                have hl1 : ((left' + 1 : Nat) : Int) - 1 = (left' : Int) := by omega
                have hltz : (⟨lt.toArray⟩ : ByteArray).size ≤ 9223372036854775807 := by rw [bytes_size]; omega
                have HSr := hide ((unhide HS4).below (unhide HBl))
                have HTr := hide (tab_below (unhide HT) ((unhide HB4).trans ((unhide HBl).mono (unhide HB4).size)))
                go_wp2_with fail
                refine (apply_any s ⟨lt.toArray⟩ (left' : Int) _ (unhide HSr) (unhide HTr) hltz).mono ?_
                rintro e w6 ⟨r, n, c, rfl, ha, hb6⟩
                obtain ⟨hn0, hn1, hnx⟩ := (unhide HPw).next hlt (unhide HG) ha
                have hrl := apply_len ha
                have HNx := hide hnx
                have HB6 := hide ((unhide HBl).trans (hb6.mono (unhide HBl).size))
                clear ha hb6 hnx
                obtain ⟨n', rfl⟩ : ∃ n' : Nat, n = (n' : Int) := ⟨n.toNat, by omega⟩
                have hl2 : (left' : Int) - (n' : Int) = ((left' - n' : Nat) : Int) := by omega
                go_wp2_with fail
                go_roundg (q + 1 - (i + 1))
                case measure => rw [unhide HK]; omega
                case rel => exact ⟨i + 1, c, r, left' - n', rfl, by omega, rfl, rfl, by first | rfl | (rw [hl2]), rfl, unhide HNx, hrl, unhide HB6⟩
            · have hc0' : (c == 0) = false := by rw [beq_eq_false_iff_ne]; exact hc0
              go_wp2_with fail
              go_meet
              case rel => exact ⟨i, c, lt, left, rfl, rfl, rfl, unhide HPw, fun h => absurd h hc0, unhide HBl⟩
          · have hlt' : ¬ (i : Int) < (q : Int) := by omega
            go_wp2_with fail
            go_meet
            case rel => exact ⟨i, c, lt, left, rfl, rfl, rfl, unhide HPw, fun _ => by omega, unhide HBl⟩
      case rest =>
        obtain ⟨i, c, lt, left, rfl, rfl, rfl, hpw, hci, hbx⟩ := hcut
        have HPw := hide hpw
        have hleft := hpw.bd
        have HCi := hide hci
        have HS5 := hide ((unhide HS4).below hbx)
        have HB5 := hide ((unhide HB4).trans (hbx.mono (unhide HB4).size))
        clear hpw hci hbx
        go_wp2_with fail
        refine (apply_any P ⟨lt0.toArray⟩ 5000 _ (unhide HS5) (tab_below (unhide HT) (unhide HB5)) hlz).mono ?_
        rintro e w6 ⟨r, m, g, rfl, ha, hb6⟩
        rw [unhide HP] at ha
        obtain ⟨z1, z2⟩ := (unhide HPw).fin (unhide HCi) (by omega) (unhide HG) (unhide HPl) (unhide HL) ha
        have HB6 := hide ((unhide HB5).trans (hb6.mono (unhide HB5).size))
        clear ha hb6
        by_cases hc0 : c = 0
        · subst hc0
          obtain ⟨rfl, rfl, rfl, hm1⟩ := z2 rfl
          clear z1 z2
          go_wp2_with fail
          go_ret
          exact ⟨rfl, unhide HB6⟩
        · obtain ⟨rfl, rfl, rfl⟩ := z1 hc0
          have hc0' : (g != 0) = true := by rw [bne_iff_ne]; exact hc0
          clear z1 z2
          go_wp2_with fail
          go_ret
          exact ⟨rfl, unhide HB6⟩
  · have hc' : (c0 != 0) = true := by rw [bne_iff_ne]; exact hc
    clear hPs
    go_wp2_with fail
    go_ret
    exact ⟨rfl, unhide HB3⟩
end Go.Proofs.YtikiaijgcjjloaaGreatDoor

/- What the rows' listed tables give the walks; the witness' start. -/
namespace Go.Proofs.YtikiaijgcjjloaaGreatDoor
open Go Go.ChangeShapes Go.WideShapes Go.ChangeAt Go.WideMaps Go.WideElems Go.RowKit

theorem own : ownKnob Tryz.prog.godebug = none := by kernel_rfl
def laid3 : List (String × DataW Unit) := [("math/bits.deBruijn32tab", Rows.laid_math_bits_deBruijn32tab), ("math/bits.deBruijn64tab", Rows.laid_math_bits_deBruijn64tab), ("internal/strconv.uint64pow10", Rows.laid_internal_strconv_uint64pow10)]
theorem gPow : Tryz.prog.globalNamed "internal/strconv.uint64pow10" = some 0 := by kernel_rfl
theorem tPow : (Tryz.prog.globals[0]?).map (·.type) = some 183 := by kernel_rfl
theorem dPow : (Rows.laid_internal_strconv_uint64pow10 : DataW Unit) = Lib.tabData .u64 Lib.pow10Tab := by kernel_rfl

set_option maxRecDepth 100000 in
theorem door_met (os : Os) (args : Array Value) : laidMetH Tryz.prog laid3 ((World.doorLaid Tryz.prog 400 os).forCall (fun _ _ => 0) ⟨#[], args, []⟩).memory :=
  laidMetH_of_parts3 (fuel := 8) (laidMet_of_run' 8 (by kernel_rfl) (by kernel_rfl)) (by kernel_rfl) (by kernel_rfl)

theorem tab_of_laid {W : World} (h : laidMetH Tryz.prog laid3 W) : Tab W := by
  rw [MakeChecks.laidMetH_plain _ _ _ (by kernel_rfl)] at h
  obtain ⟨ps, ⟨g0, t0, cs0, f0, p0, q0, hg0, ht0, hv0, hd0, ⟨g1, t1, cs1, f1, p1, q1, hg1, ht1, hv1, hd1, ⟨g2, t2, cs2, f2, p2, q2, hg2, ht2, hv2, hd2, _, _⟩, _⟩, _⟩, _, _⟩ := h
  obtain rfl := Option.some.inj (gPow.symm.trans hg2)
  obtain rfl := Option.some.inj (tPow.symm.trans ht2)
  rw [dPow] at hd2
  unfold Tab Lib.TabIs
  rw [hv2, ← Lib.cells_of_tab Tryz.underlying183 Tryz.underlying139 (by kernel_rfl) (by kernel_rfl) hd2]
end Go.Proofs.YtikiaijgcjjloaaGreatDoor

/- Raw numbers handed in, opened. -/
namespace Go.Proofs.YtikiaijgcjjloaaGreatDoor
open Go Go.ChangeShapes Go.WideShapes Go.ChangeAt Go.WideMaps Go.WideElems Go.RowKit

theorem Tryz.cellsIntO : Tryz.prog.cellsOf 3 = 1 := by kernel_rfl
theorem Tryz.bytesIntO : Tryz.prog.bytesOf 3 = 8 := by kernel_rfl
theorem add_block (a : Addr) (i : Nat) : (a.add i).block = a.block := by unfold Addr.add; split <;> rfl
set_option maxRecDepth 100000 in
/-- Raw numbers, opened. -/
theorem open_raw {H : Type} {enc : TypeId × Value → H} {W : World} {base : Nat} {v : Value} {d : DataW H} {p : List MemPlace} (hval : Value.okWide Tryz.prog W .any base 25 v) (h : DataW.Trod enc Tryz.prog W 0 (fun _ => true) true 25 v d p)
    {ts : List TypeId} {ds : List (DataW H)} {j : Nat} (hsz : (DataW.weightsEach Tryz.prog ts ds).all (· ≤ reachBytes) = true) (ht : ts[j]? = some 25) (hd : ds[j]? = some d) :
    ∃ (ra : Option Addr) (rn rc : Nat) (raw : Nat → Int), v = .slice ra rn rc ∧ RawIs W ra rn raw ∧ rn ≤ 140737488355328 := by
  obtain ⟨ao, len0, cap0, rfl⟩ := Go.WideShapes.okWide_slice Tryz.underlying25 hval
  obtain ⟨fuel, hf⟩ := h
  rcases open_ints Tryz.underlying25 Tryz.underlying3 Tryz.cellsIntO hf with ⟨hc, hx⟩ | ⟨a, len, cap, zs, hc, _, hl, hm, hzl, hx, hcell, hwf⟩
  · simp [Value.cells] at hc
    obtain ⟨rfl, rfl, rfl⟩ := hc
    exact ⟨none, 0, 0, fun _ => 0, rfl, ⟨fun i h => absurd h (Nat.not_lt_zero i)⟩, by omega⟩
  · simp [Value.cells] at hc
    obtain ⟨rfl, rfl, rfl⟩ := hc
    simp only [if_true] at hzl
    simp only [Prod.mk.injEq] at hx
    have hw := sized_slice hsz (j := j) ht (by rw [hd, hx.1]) Tryz.underlying25
    rw [Tryz.bytesIntO] at hw
    have hrb : reachBytes = 140737488351232 := rfl
    rw [hrb] at hw
    have hle : len0 ≤ 140737488355328 := by
      have h1 : (lits (H := H) .i64 (zs.take len0)).length = len0 := by
        unfold lits
        rw [List.length_map, List.length_take]
        omega
      rw [h1] at hw
      omega
    refine ⟨some a, len0, _, fun i => zs.getD i 0, rfl, ⟨fun i hi => ⟨a, rfl, ?_, hcell i (by omega), ?_⟩⟩, hle⟩
    · exact World.block_lt_of_cell? W _ (hcell i (by omega))
    · refine bounds_i64 (hwf _ ?_)
      rw [List.getD_eq_getElem?_getD, List.getElem?_eq_getElem (by omega)]
      exact List.getElem_mem _
end Go.Proofs.YtikiaijgcjjloaaGreatDoor

/- How many steps a run can take at most, and which runs can't meet a missing way back; the parts of the statement There. No program in this text. -/
namespace Go.Proofs.YtikiaijgcjjloaaGreatDoor
namespace T
open Go.Lib M

/-! ### Steps at most -/
mutual
def Pt.cost : Pt → Nat
  | .sp _ => 1
  | .pow f k => 1 + k.natAbs * (1 + f.cost)
  | .under s g => 1 + (s.cost + (g.cost + s.cost))
  | .name _ t => 1 + t.cost
def Tm.cost : Tm → Nat
  | .nil => 0
  | .cons p t => p.cost + t.cost
end
/-- g takes at most c steps, and is never short of fuel with so many. -/
def Within (g : List Rat → Nat → Res) (c : Nat) : Prop := (∀ l l' n, Steps g l l' n → n ≤ c) ∧ ∀ l f, g l f = .err 10 → f < c
theorem Within.then {g h : List Rat → Nat → Res} {c d : Nat} (pg : Paced g) (ph : Paced h) (hg : Within g c) (hh : Within h d) : Within (fun l f => Res.then (g l f) h) (c + d) := by
  refine ⟨fun l l' n hs => ?_, fun l f he => ?_⟩
  · obtain ⟨l1, a, b, h1, h2, rfl⟩ := hs.split pg ph
    have := hg.1 _ _ _ h1
    have := hh.1 _ _ _ h2
    omega
  · change Res.then (g l f) h = _ at he
    cases hr : g l f with
    | err e =>
      rw [hr] at he
      cases he
      have := hg.2 _ _ hr
      omega
    | ok l1 f1 =>
      rw [hr] at he
      have h1 := hh.2 _ _ he
      obtain ⟨n, hn, hs⟩ := pg.steps hr
      have := hg.1 _ _ _ hs
      omega
theorem Within.stepped {g : List Rat → Nat → Res} {c : Nat} (hg : Within g c) : Within (T.stepped g) (1 + c) := by
  refine ⟨fun l l' n hs => ?_, fun l f he => ?_⟩
  · obtain ⟨m, rfl, h1⟩ := hs.unstep
    have := hg.1 _ _ _ h1
    omega
  · cases f with
    | zero => omega
    | succ f =>
      have := hg.2 l f he
      omega
theorem within_id : Within (fun l f => .ok l f) 0 := by
  refine ⟨fun l l' n hs => ?_, fun l f he => by cases he⟩
  obtain ⟨_, rfl⟩ := hs.unique (steps_nil l)
  omega
theorem Within.iter {g : List Rat → Nat → Res} {c : Nat} (pg : Paced g) (hg : Within g c) : ∀ k, Within (T.iter g k) (k * (1 + c))
  | 0 => by rw [iter_zero_fun, Nat.zero_mul]; exact within_id
  | k + 1 => by
    rw [iter_succ_fun]
    have := (hg.then pg (pg.iter k) (Within.iter pg hg k)).stepped
    rw [show (k + 1) * (1 + c) = 1 + (c + k * (1 + c)) by rw [Nat.succ_mul]; omega]
    exact this
theorem within_err {e : Int} (he : e ≠ 10) (c : Nat) : Within (fun _ _ => .err e) c := by
  refine ⟨fun l l' n hs => ?_, fun l f h => ?_⟩
  · have := hs n
    rw [if_pos (Nat.le_refl _)] at this
    cases this
  · cases h; exact absurd rfl he
theorem Sp.no10 {x : Sp} {l : List Rat} {e : Int} (h : x.work l = .error e) : e = 2 ∨ e = 3 ∨ e = 11 := by
  have lim3 : ∀ {r : Rat} {e : Int}, lim r = .error e → e = 2 ∨ e = 3 ∨ e = 11 := by
    intro r e h
    unfold lim at h
    split at h
    · cases h
    · cases h; exact Or.inr (Or.inl rfl)
  have each3 : ∀ {f : Rat → Except Int Rat} {l : List Rat} {e : Int}, (∀ x e, f x = .error e → e = 2 ∨ e = 3 ∨ e = 11) → each f l = .error e → e = 2 ∨ e = 3 ∨ e = 11 := by
    intro f l e hf
    induction l with
    | nil => intro h; cases h
    | cons x l ih =>
      intro h
      rw [each] at h
      cases hg : f x with
      | error e' => rw [hg] at h; cases h; exact hf x _ hg
      | ok y =>
        rw [hg] at h
        cases hr : each f l with
        | error e' => rw [hr] at h; cases h; exact ih hr
        | ok ys => rw [hr] at h; cases h
  have scan3 : ∀ {f : Rat → Rat → Except Int Rat} {l : List Rat} {a : Rat} {e : Int}, (∀ a x e, f a x = .error e → e = 2 ∨ e = 3 ∨ e = 11) → scan f a l = .error e → e = 2 ∨ e = 3 ∨ e = 11 := by
    intro f l
    induction l with
    | nil => intro a e _ h; cases h
    | cons x l ih =>
      intro a e hf h
      rw [scan] at h
      cases hg : f a x with
      | error e' => rw [hg] at h; cases h; exact hf a x _ hg
      | ok y =>
        rw [hg] at h
        cases hr : scan f y l with
        | error e' => simp only [hr] at h; cases h; exact ih hf hr
        | ok ys => simp only [hr] at h; cases h
  have diff3 : ∀ {f : Rat → Rat → Except Int Rat} {l : List Rat} {a : Rat} {e : Int}, (∀ a x e, f a x = .error e → e = 2 ∨ e = 3 ∨ e = 11) → diff f a l = .error e → e = 2 ∨ e = 3 ∨ e = 11 := by
    intro f l
    induction l with
    | nil => intro a e _ h; cases h
    | cons x l ih =>
      intro a e hf h
      rw [diff] at h
      cases hg : f a x with
      | error e' => rw [hg] at h; cases h; exact hf a x _ hg
      | ok y =>
        rw [hg] at h
        cases hr : diff f x l with
        | error e' => simp only [hr] at h; cases h; exact ih hf hr
        | ok ys => simp only [hr] at h; cases h
  have headed3 : ∀ {g : Rat → List Rat → Except Int (List Rat)} {l : List Rat} {e : Int}, (∀ a l e, g a l = .error e → e = 2 ∨ e = 3 ∨ e = 11) → headed g l = .error e → e = 2 ∨ e = 3 ∨ e = 11 := by
    intro g l e hf h
    cases l with
    | nil => cases h
    | cons x l =>
      rw [headed] at h
      cases hg : g x l with
      | error e' => rw [hg] at h; cases h; exact hf x l _ hg
      | ok ys => rw [hg] at h; cases h
  cases x with
  | n => cases h
  | v =>
    refine each3 (fun x e hg => ?_) h
    split at hg
    · cases hg; exact Or.inl rfl
    · cases hg
  | a => cases h
  | q => exact each3 (fun x e hg => lim3 hg) h
  | w =>
    refine each3 (fun x e hg => ?_) h
    split at hg
    · cases hg
    · cases hg; exact Or.inl rfl
  | u =>
    refine each3 (fun x e hg => ?_) h
    split at hg
    · cases hg; exact Or.inl rfl
    · exact lim3 hg
  | r => cases h
  | s => exact headed3 (fun a l e hg => scan3 (f := addE) (fun a x e h => lim3 (show lim (a + x) = .error e from h)) hg) h
  | z => exact headed3 (fun a l e hg => diff3 (f := subE) (fun a x e h => lim3 (show lim (x - a) = .error e from h)) hg) h
  | p => exact headed3 (fun a l e hg => scan3 (f := mulE) (fun a x e h => lim3 (show lim (a * x) = .error e from h)) hg) h
  | m =>
    have h' : (if zeroAhead l then (Except.error 2 : Except Int (List Rat)) else headed (scan mulE) l) = .error e := h
    split at h'
    · cases h'; exact Or.inl rfl
    · exact headed3 (fun a l e hg => scan3 (f := mulE) (fun a x e h => lim3 (show lim (a * x) = .error e from h)) hg) h'
  | o =>
    refine headed3 (fun a l e hg => diff3 (f := divE) (fun a x e h => ?_) hg) h
    unfold divE at h
    split at h
    · cases h; exact Or.inl rfl
    · exact lim3 h
  | plus c => exact each3 (fun x e hg => lim3 hg) h
  | times c => exact each3 (fun x e hg => lim3 hg) h
  | set c => cases h
  | shift k => cases h
  | take k =>
    have h' : (if k ≤ l.length then (Except.ok (l.take k) : Except Int (List Rat)) else .error 11) = .error e := h
    split at h'
    · cases h'
    · cases h'; exact Or.inr (Or.inr rfl)
  | drop k =>
    have h' : (if k ≤ l.length then (Except.ok (l.drop k) : Except Int (List Rat)) else .error 11) = .error e := h
    split at h'
    · cases h'
    · cases h'; exact Or.inr (Or.inr rfl)
  | pick ps =>
    have h' : (if ps.all (· < l.length) then (Except.ok (picked ps l) : Except Int (List Rat)) else .error 11) = .error e := h
    split at h'
    · cases h'
    · cases h'; exact Or.inr (Or.inr rfl)
theorem within_lift (g : List Rat → Except Int (List Rat)) (hg : ∀ l e, g l = .error e → e ≠ 10) : Within (fun l f => lift (g l) f) 0 := by
  refine ⟨fun l l' n hs => ?_, fun l f he => ?_⟩
  · have e := hs n
    rw [if_pos (Nat.le_refl _), Nat.sub_self] at e
    change lift (g l) n = _ at e
    cases hr : g l with
    | error e' => rw [hr] at e; cases e
    | ok x => rw [hr] at e; cases e; omega
  · change lift (g l) f = _ at he
    cases hr : g l with
    | error e' => rw [hr] at he; cases he; exact absurd rfl (hg l _ hr)
    | ok x => rw [hr] at he; cases he
mutual
theorem Pt.within : ∀ (p : Pt) (b : Bool), Within (p.run b) p.cost
  | .sp x, b => by
    rw [Pt.run_sp, Pt.cost]
    refine (within_lift (fun l => if b then x.workBack l else x.work l) (fun l e h => ?_)).stepped
    have key : ∀ {y : Sp} {e : Int}, y.work l = .error e → e ≠ 10 := by
      intro y e h
      rcases Sp.no10 h with rfl | rfl | rfl <;> decide
    cases b with
    | false => exact key h
    | true =>
      change x.workBack l = _ at h
      unfold Sp.workBack at h
      cases ho : x.opp with
      | none => rw [ho] at h; cases h; decide
      | some y => rw [ho] at h; exact key h
  | .pow t k, b => by
    rw [Pt.cost]
    by_cases hc : (if b then -k else k) < 0 ∧ t.back = false
    · rw [Pt.run_pow]
      have e : (fun l f => if (if b then -k else k) < 0 ∧ t.back = false then (Res.err 12 : Res) else iter (fun l f => t.run (decide ((if b then -k else k) < 0)) l f) k.natAbs l f) = fun _ _ => .err 12 := by
        funext l f; rw [if_pos hc]
      rw [e]
      exact (within_err (by decide) _).stepped
    · rw [Pt.run_pow_ok _ _ _ hc]
      exact ((Tm.within t _).iter (Tm.paced t _) _).stepped
  | .under s g, b => by
    rw [Pt.cost]
    by_cases hp : s.picker = true
    · rw [Pt.run_under_pick _ _ _ hp]
      refine Within.stepped ⟨fun l l' n hs => ?_, fun l f he => ?_⟩
      · have e := hs n
        rw [if_pos (Nat.le_refl _), Nat.sub_self] at e
        unfold underRun at e
        obtain ⟨at_, f1, e1, e2⟩ := then_ok e
        obtain ⟨ys, f2, e3, e4⟩ := then_ok e2
        obtain ⟨a, ha, sa⟩ := (Tm.paced s false).steps e1
        obtain ⟨c, hc, sc⟩ := (Tm.paced g b).steps e3
        have h1 := (Tm.within s false).1 _ _ _ sa
        have h2 := (Tm.within g b).1 _ _ _ sc
        split at e4
        · cases e4; omega
        · cases e4
      · unfold underRun at he
        cases hr : s.run false (allPlaces l.length) f with
        | err e' =>
          rw [hr] at he
          cases he
          have := (Tm.within s false).2 _ _ hr
          omega
        | ok at_ f1 =>
          rw [hr, then_of_ok] at he
          obtain ⟨a, ha, sa⟩ := (Tm.paced s false).steps hr
          have h1 := (Tm.within s false).1 _ _ _ sa
          cases hr2 : g.run b (picked (places at_) l) f1 with
          | err e' =>
            rw [hr2] at he
            cases he
            have := (Tm.within g b).2 _ _ hr2
            omega
          | ok ys f2 =>
            rw [hr2, then_of_ok] at he
            split at he
            · cases he
            · cases he
    · by_cases hb : (s.back && s.plain) = true
      · rw [Pt.run_under_way _ _ _ (by simpa using hp) hb]
        exact ((Tm.within s false).then (Tm.paced s false) ((Tm.paced g b).then (Tm.paced s true)) ((Tm.within g b).then (Tm.paced g b) (Tm.paced s true) (Tm.within s true))).stepped
      · rw [Pt.run_fun]
        have e : (fun l f => match Pt.under s g with
            | .sp x => lift (if b then x.workBack l else x.work l) f
            | .pow t k => if (if b then -k else k) < 0 ∧ t.back = false then .err 12 else iter (fun l f => t.run (decide ((if b then -k else k) < 0)) l f) k.natAbs l f
            | .under s g =>
              if s.picker then
                Res.then (s.run false (allPlaces l.length) f) fun at_ f1 =>
                  Res.then (g.run b (picked (places at_) l) f1) fun ys f2 =>
                    if ys.length = at_.length then .ok (layAt (places at_) ys l) f2 else .err 11
              else if s.back && s.plain then
                Res.then (s.run false l f) fun l1 f1 => Res.then (g.run b l1 f1) fun l2 f2 => s.run true l2 f2
              else .err 12
            | .name _ t => t.run b l f) = fun _ _ => (.err 12 : Res) := by
          funext l f
          change (if s.picker then _ else if s.back && s.plain then _ else Res.err 12) = _
          rw [if_neg hp, if_neg hb]
        rw [e]
        exact (within_err (by decide) _).stepped
  | .name c t, b => by
    rw [Pt.run_name, Pt.cost]
    exact (Tm.within t b).stepped
theorem Tm.within : ∀ (t : Tm) (b : Bool), Within (t.run b) t.cost
  | .nil, b => by rw [Tm.run_nil_fun, Tm.cost]; exact within_id
  | .cons p t, false => by rw [Tm.run_fwd_fun, Tm.cost]; exact (Pt.within p false).then (Pt.paced p false) (Tm.paced t false) (Tm.within t false)
  | .cons p t, true => by rw [Tm.run_bwd_fun, Tm.cost, Nat.add_comm]; exact (Tm.within t true).then (Tm.paced t true) (Pt.paced p true) (Pt.within p true)
end
end T
end Go.Proofs.YtikiaijgcjjloaaGreatDoor

import Derived.Test.YtikiaijgcjjloaaGreatDoorPart33
import Derived.Test.YtikiaijgcjjloaaGreatDoorRows
import Derived.Test.YtikiaijgcjjloaaGreatDoorPart8
import Derived.ProofKit
import Derived.LaidMore
import Derived.OpenShut
import Derived.ShutString
import Derived.Stop.Joined
import Derived.Lib.LaidTab
import Derived.ChangeSlices
import Derived.SizedLaws

/- The walk of unwindkeep.There. -/
namespace Go.Proofs.YtikiaijgcjjloaaGreatDoor
open Go Go.RowKit M T Go.Lib

theorem d1 : decDigits 1 = [49] := by rw [dec_small 1 (by omega)]; rfl
theorem d2 : decDigits 2 = [50] := by rw [dec_small 2 (by omega)]; rfl
theorem d3 : decDigits 3 = [51] := by rw [dec_small 3 (by omega)]; rfl
theorem d5 : decDigits 5 = [53] := by rw [dec_small 5 (by omega)]; rfl
theorem d0 : decDigits 0 = [48] := by rw [dec_small 0 (by omega)]; rfl
theorem ratText_n (n : Nat) : ratText ((n : Nat) : Rat) = decDigits n := by
  have := ratText_int (n : Int)
  rw [M.itoa_pos _ (by omega), Int.natAbs_natCast] at this
  rw [← this]
  rfl
/-- How the ways are written. -/
def wayText : List (List UInt8) := [[110], [114], [60, 49], [60, 45, 53], [118], [43, 49, 47, 50], [42, 45, 51], [115], [122], [119], [117], [111], [109], [40, 117, 41, 94, 45, 49], [40, 43, 50, 115, 41, 94, 50], [91, 114, 58, 110, 93], [91, 35, 49, 46, 48, 58, 111, 93], [91, 118, 58, 43, 49, 93], [91, 116, 50, 58, 115, 93]]
theorem half_text : ratText (mkRat 1 2) = [49, 47, 50] := by
  show itoa 1 ++ (if ((2 : Nat) : Int) ≤ 1 then [] else 47 :: decDigits ((2 : Nat) : Int).toNat) = _
  rw [itoa_1, if_neg (by decide)]
  show [49] ++ 47 :: decDigits 2 = _
  rw [d2]
  rfl
theorem m3_text : ratText (-3 : Rat) = [45, 51] := by
  show itoa (-3) ++ (if ((1 : Nat) : Int) ≤ 1 then [] else 47 :: decDigits ((1 : Nat) : Int).toNat) = _
  rw [if_pos (by decide), M.itoa_neg _ (by omega)]
  show 45 :: decDigits 3 ++ [] = _
  rw [d3]
  rfl
theorem two_text : ratText (2 : Rat) = [50] := (ratText_n 2).trans d2
theorem one_text : ratText (1 : Rat) = [49] := (ratText_n 1).trans d1
theorem itoa_m5 : itoa (-5) = [45, 53] := by rw [M.itoa_neg _ (by omega)]; show 45 :: decDigits 5 = _; rw [d5]
theorem itoa_2 : itoa 2 = [50] := by rw [M.itoa_pos _ (by omega)]; exact d2
theorem way_text (k : Nat) (h : k < 19) : (way k).text = wayText.getD k [] := by
  match k, h with
  | 0, _ => rfl
  | 1, _ => rfl
  | 2, _ => show 60 :: itoa 1 = _; rw [itoa_1]; rfl
  | 3, _ => show 60 :: itoa (-5) = _; rw [itoa_m5]; rfl
  | 4, _ => rfl
  | 5, _ => show 43 :: ratText (mkRat 1 2) = _; rw [half_text]; rfl
  | 6, _ => show 42 :: ratText (-3) = _; rw [m3_text]; rfl
  | 7, _ => rfl
  | 8, _ => rfl
  | 9, _ => rfl
  | 10, _ => rfl
  | 11, _ => rfl
  | 12, _ => rfl
  | 13, _ => simp [way, Pt.text, Tm.text, T.one, Sp.text, itoa_m1, wayText]
  | 14, _ => simp [way, Pt.text, Tm.text, T.one, Sp.text, itoa_2, two_text, wayText]
  | 15, _ => simp [way, Pt.text, Tm.text, T.one, Sp.text, wayText]
  | 16, _ => simp [way, Pt.text, Tm.text, T.one, Sp.text, dots, d1, d0, wayText]
  | 17, _ => simp [way, Pt.text, Tm.text, T.one, Sp.text, one_text, wayText]
  | 18, _ => simp [way, Pt.text, Tm.text, T.one, Sp.text, d2, wayText]
  | k + 19, h => omega
/-- The row of the ways. -/
def wayRow : Array Value := #[.string ⟨#[110]⟩, .string ⟨#[114]⟩, .string ⟨#[60, 49]⟩, .string ⟨#[60, 45, 53]⟩, .string ⟨#[118]⟩, .string ⟨#[43, 49, 47, 50]⟩, .string ⟨#[42, 45, 51]⟩, .string ⟨#[115]⟩, .string ⟨#[122]⟩, .string ⟨#[119]⟩, .string ⟨#[117]⟩, .string ⟨#[111]⟩, .string ⟨#[109]⟩, .string ⟨#[40, 117, 41, 94, 45, 49]⟩, .string ⟨#[40, 43, 50, 115, 41, 94, 50]⟩, .string ⟨#[91, 114, 58, 110, 93]⟩, .string ⟨#[91, 35, 49, 46, 48, 58, 111, 93]⟩, .string ⟨#[91, 118, 58, 43, 49, 93]⟩, .string ⟨#[91, 116, 50, 58, 115, 93]⟩]
theorem way_row (k : Nat) (h : k < 19) : wayRow[k]? = some (.string ⟨(way k).text.toArray⟩) := by
  rw [way_text k h]
  match k, h with
  | 0, _ | 1, _ | 2, _ | 3, _ | 4, _ | 5, _ | 6, _ | 7, _ | 8, _ | 9, _ | 10, _ | 11, _ | 12, _ | 13, _ | 14, _ | 15, _ | 16, _ | 17, _ | 18, _ => rfl
  | k + 19, h => omega
theorem way_len (k : Nat) (h : k < 19) : 1 ≤ (way k).text.length ∧ (way k).text.length ≤ 8 := by
  rw [way_text k h]
  match k, h with
  | 0, _ | 1, _ | 2, _ | 3, _ | 4, _ | 5, _ | 6, _ | 7, _ | 8, _ | 9, _ | 10, _ | 11, _ | 12, _ | 13, _ | 14, _ | 15, _ | 16, _ | 17, _ | 18, _ => decide
  | k + 19, h => omega

set_option maxRecDepth 100000 in
set_option maxHeartbeats 800000 in
theorem ways_any (c : Int) (w : World) (h1 : -9223372036854775808 ≤ c) (h2 : c ≤ 9223372036854775807) :
    Calls Tryz.prog 19 #[.int .i64 c] w fun e w' => e = .returned (.string ⟨((way (kpickN c 19)).text).toArray⟩) ∧ Below w.heap.size w w' := by
  have hq := (kpick_val c (n := 19) (by omega)).2.2
  have hcell : (w.alloc (.cells wayRow 9)).cell? ⟨w.heap.size, kpickN c 19, none⟩ = some (.string ⟨((way (kpickN c 19)).text).toArray⟩) := by
    rw [blk_cell (heap_alloc_new w _)]
    exact way_row _ hq
  have hq' : ((kpickN c 19 : Nat) : Int) < 19 := by omega
  have HK := hide (kpick_any c 19 (w.alloc (.cells wayRow 9)) h1 h2 (by omega) (by omega))
  generalize kpickN c 19 = q at hq hcell hq' HK ⊢
  generalize (way q).text = wt at hcell ⊢
  unfold wayRow at hcell HK
  go_enter Tryz.func19, Tryz.ntmps19
  go_wp2_with fail
  refine (unhide HK).mono ?_
  rintro e w1 ⟨rfl, rfl⟩
  go_wp2_with fail
  go_ret
  exact ⟨rfl, (Below.refl _ _).alloc (Nat.le_refl _) _⟩

theorem text_cat (a b : List UInt8) : ((⟨a.toArray⟩ : ByteArray) ++ ⟨b.toArray⟩) = ⟨(a ++ b).toArray⟩ := by
  apply ByteArray.ext
  simp
theorem waysTm_snoc : ∀ (ks : List Nat) (k : Nat), (waysTm (ks ++ [k])).text = (waysTm ks).text ++ (way k).text
  | [], k => by simp [waysTm, Tm.text]
  | a :: ks, k => by
    rw [List.cons_append, waysTm, Tm.text, waysTm_snoc ks k, waysTm, Tm.text, List.append_assoc]
/-- A term while it is put together. -/
structure ThrIs (ks : List Nat) (s : List UInt8) (sure : Bool) : Prop where
  text : (waysTm ks).text = s
  few : ks.length ≤ s.length
  sure : sure = true ↔ ∀ k ∈ ks, k < 4
theorem ThrIs.next {ks : List Nat} {s : List UInt8} {sure : Bool} (h : ThrIs ks s sure) {k : Nat} (hk : k < 19) : ThrIs (ks ++ [k]) (s ++ (way k).text) (sure && decide ((k : Int) < 4)) := by
  refine ⟨by rw [waysTm_snoc, h.text], by have := (way_len k hk).1; have := h.few; simp; omega, ?_⟩
  rw [Bool.and_eq_true, h.sure, decide_eq_true_iff]
  constructor
  · rintro ⟨h1, h2⟩ j hj
    rcases List.mem_append.1 hj with hj | hj
    · exact h1 j hj
    · rw [List.mem_singleton.1 hj]; omega
  · intro h1
    exact ⟨fun j hj => h1 j (List.mem_append_left _ hj), by have := h1 k (by simp); omega⟩

set_option maxRecDepth 100000 in
set_option maxHeartbeats 3200000 in
theorem there_walk {w : World} {ra : Option Addr} {rn rc : Nat} {raw : Nat → Int} {sa : Option Addr} {sn sc : Nat} {sraw : Nat → Int} (hr : RawIs w ra rn raw) (hn : rn ≤ 140737488355328) (hsr : RawIs w sa sn sraw) (hsn : sn ≤ 140737488355328) (ht : Tab w) :
    Calls Tryz.prog 6 #[.slice ra rn rc, .slice sa sn sc] w fun e w' => e = .returned (.bool true) ∧ Below w.heap.size w w' := by
  have HR := hide hr
  have HSr := hide hsr
  have HT := hide ht
  clear hr hsr ht
  go_enter Tryz.func6, Tryz.ntmps6
  go_wp2_with fail
  refine (ready_any _ (unhide HT)).mono ?_
  rintro e w1 ⟨xb, rfl, hses, hb1⟩
  have HS := hide hses
  have HB1 := hide hb1
  clear hses hb1
  go_upto_block 0 with fail
  go_cut [6, 7, 8] from 19 to 45 (fun v6 v7 v8 wx => ∃ ks s sure, v6 = .string ⟨s.toArray⟩ ∧ v7 = .bool sure ∧ ThrIs ks s sure ∧ s.length ≤ 108 ∧ Below w1.heap.size w1 wx)
  case first =>
    go_wp2_with fail
    go_loopg [6, 7, 8] rn (fun kk v6 v7 v8 wr => ∃ (i : Nat) (ks : List Nat) (s : List UInt8) (sure : Bool), kk = rn - i ∧ i ≤ rn ∧ v8 = .int .i64 (i : Int) ∧ v6 = .string ⟨s.toArray⟩ ∧ v7 = .bool sure ∧ ThrIs ks s sure ∧ s.length ≤ 108 ∧ Below w1.heap.size w1 wr)
    case atStart => exact ⟨0, [], [], true, rfl, Nat.zero_le _, rfl, rfl, rfl, ⟨rfl, by simp, by simp⟩, by simp, Below.refl _ _⟩
    case round =>
      obtain ⟨i, ks, s, sure, hk, hi, rfl, rfl, rfl, hth, hsl, hbl⟩ := hrel
      have HK := hide hk
      have HTh := hide hth
      have HBl := hide hbl
      clear hk hth
      by_cases hlt : i < rn
      · have hlt' : (i : Int) < (rn : Int) := by omega
        by_cases hl : s.length < 100
        · have hl' : (s.length : Int) < 100 := by omega
          obtain ⟨a, rfl, hab, hcell, hr1, hr2⟩ := (((unhide HR).below (unhide HB1)).below hbl).at' i hlt
          have hq := (kpick_val (raw i) (n := 19) (by omega)).2.2
          clear hbl
          go_wp2_with fail
          refine (ways_any (raw i) _ hr1 hr2).mono ?_
          rintro e w2 ⟨rfl, hb2⟩
          have hcell2 := (hb2.cell (p := a.add i) hab).trans hcell
          have HB2 := hide ((unhide HBl).trans (hb2.mono (unhide HBl).size))
          have hwl := way_len _ hq
          clear hb2 hcell
          generalize hqq : kpickN (raw i) 19 = q at hq hwl ⊢
          have HQ := hide hqq
          have HNx := hide ((unhide HTh).next hq)
          have HCat := hide (text_cat s (way q).text)
          clear hqq
          generalize (way q).text = wt at HNx HCat hwl ⊢
          cases sure with
          | true =>
            go_wp2_with fail
            refine (kpick_any (raw i) 19 _ hr1 hr2 (by omega) (by omega)).mono ?_
            rintro e w3 ⟨rfl, rfl⟩
            rw [unhide HQ]
            go_wp2_with fail
            go_roundg (rn - (i + 1))
            case measure => rw [unhide HK]; omega
            case rel => exact ⟨i + 1, ks ++ [q], s ++ wt, _, rfl, by omega, rfl, congrArg Value.string (unhide HCat), rfl, unhide HNx, by simp; omega, unhide HB2⟩
          | false =>
            go_wp2_with fail
            go_roundg (rn - (i + 1))
            case measure => rw [unhide HK]; omega
            case rel => exact ⟨i + 1, ks ++ [q], s ++ wt, _, rfl, by omega, rfl, congrArg Value.string (unhide HCat), rfl, unhide HNx, by simp; omega, unhide HB2⟩
        · have hl' : ¬ (s.length : Int) < 100 := by omega
          clear hbl
          go_wp2_with fail
          go_meet
          case rel => exact ⟨ks, s, sure, rfl, rfl, unhide HTh, hsl, unhide HBl⟩
      · have hlt' : ¬ (i : Int) < (rn : Int) := by omega
        clear hbl
        go_wp2_with fail
        go_meet
        case rel => exact ⟨ks, s, sure, rfl, rfl, unhide HTh, hsl, unhide HBl⟩
  case rest =>
    obtain ⟨ks, s, sure, rfl, rfl, hth, hsl, hbx⟩ := hcut
    have HTh := hide hth
    have hkl := hth.few
    have HS2 := hide ((unhide HS).below hbx)
    have HB2 := hide ((unhide HB1).trans (hbx.mono (unhide HB1).size))
    have HPl := hide (plus_text ⟨s.toArray⟩)
    have HMi := hide (minus_text ⟨s.toArray⟩)
    clear hth hbx
    go_wp2_with fail
    refine (listed_any ((unhide HSr).below (unhide HB2)) hsn (tab_below (unhide HT) (unhide HB2))).mono ?_
    rintro e w3 ⟨L, hL, rfl, hb3⟩
    have HL := hide hL
    have HS3 := hide ((unhide HS2).below hb3)
    have HB3 := hide ((unhide HB2).trans (hb3.mono (unhide HB2).size))
    have hls := list_len hL
    clear hL hb3
    generalize listText L = lt at HL hls
    have hlz : (⟨lt.toArray⟩ : ByteArray).size ≤ 9223372036854775807 := by rw [bytes_size]; omega
    go_wp2_with fail
    refine (apply_any _ ⟨lt.toArray⟩ 5000 _ (unhide HS3) (tab_below (unhide HT) (unhide HB3)) hlz).mono ?_
    rintro e w4 ⟨l, n, f, rfl, ha, hb4⟩
    rw [unhide HPl] at ha
    have hll := apply_len ha
    have HK := hide (k_there (ks := ks) (s := s) (unhide HTh).text (by omega) (by omega) (unhide HL) ha)
    have HS4 := hide ((unhide HS3).below hb4)
    have HB4 := hide ((unhide HB3).trans (hb4.mono (unhide HB3).size))
    clear ha hb4
    by_cases hf : f = 0
    · subst hf
      have HK2 := hide (fun (back : List UInt8) (m f : Int) (h : ApplySays T.noEnv (powText s (-1)) l 5000 back m f) => (unhide HK).2 rfl h)
      have hlz2 : (⟨l.toArray⟩ : ByteArray).size ≤ 9223372036854775807 := by rw [bytes_size]; omega
      go_wp2_with fail
      refine (apply_any _ ⟨l.toArray⟩ 5000 _ (unhide HS4) (tab_below (unhide HT) (unhide HB4)) hlz2).mono ?_
      rintro e w5 ⟨bk, m, g, rfl, hb, hb5⟩
      rw [unhide HMi] at hb
      obtain ⟨rfl, rfl, rfl, hm2⟩ := unhide HK2 _ _ _ hb
      have HB5 := hide ((unhide HB4).trans (hb5.mono (unhide HB4).size))
      clear hb hb5
      go_wp2_with fail
      go_ret
      exact ⟨rfl, unhide HB5⟩
    · obtain ⟨rfl, rfl, hfe, hns⟩ := (unhide HK).1 hf
      have hsu : sure = false := by
        cases hsu : sure with
        | false => rfl
        | true => exact absurd ((unhide HTh).sure.1 hsu) hns
      subst hsu
      clear hns hf
      rcases hfe with rfl | rfl | rfl
      · go_wp2_with fail
        go_ret
        exact ⟨rfl, unhide HB4⟩
      · go_wp2_with fail
        go_ret
        exact ⟨rfl, unhide HB4⟩
      · go_wp2_with fail
        go_ret
        exact ⟨rfl, unhide HB4⟩
end Go.Proofs.YtikiaijgcjjloaaGreatDoor

/- What the rows' listed tables give the walks; the witness' start. -/
namespace Go.Proofs.YtikiaijgcjjloaaGreatDoor
open Go Go.ChangeShapes Go.WideShapes Go.ChangeAt Go.WideMaps Go.WideElems Go.RowKit

theorem own : ownKnob Tryz.prog.godebug = none := by kernel_rfl
def laid3 : List (String × DataW Unit) := [("math/bits.deBruijn32tab", Rows.laid_math_bits_deBruijn32tab), ("math/bits.deBruijn64tab", Rows.laid_math_bits_deBruijn64tab), ("internal/strconv.uint64pow10", Rows.laid_internal_strconv_uint64pow10)]
theorem gPow : Tryz.prog.globalNamed "internal/strconv.uint64pow10" = some 0 := by kernel_rfl
theorem tPow : (Tryz.prog.globals[0]?).map (·.type) = some 183 := by kernel_rfl
theorem dPow : (Rows.laid_internal_strconv_uint64pow10 : DataW Unit) = Lib.tabData .u64 Lib.pow10Tab := by kernel_rfl

set_option maxRecDepth 100000 in
theorem door_met (os : Os) (args : Array Value) : laidMetH Tryz.prog laid3 ((World.doorLaid Tryz.prog 400 os).forCall (fun _ _ => 0) ⟨#[], args, []⟩).memory :=
  laidMetH_of_parts3 (fuel := 8) (laidMet_of_run' 8 (by kernel_rfl) (by kernel_rfl)) (by kernel_rfl) (by kernel_rfl)

theorem tab_of_laid {W : World} (h : laidMetH Tryz.prog laid3 W) : Tab W := by
  rw [MakeChecks.laidMetH_plain _ _ _ (by kernel_rfl)] at h
  obtain ⟨ps, ⟨g0, t0, cs0, f0, p0, q0, hg0, ht0, hv0, hd0, ⟨g1, t1, cs1, f1, p1, q1, hg1, ht1, hv1, hd1, ⟨g2, t2, cs2, f2, p2, q2, hg2, ht2, hv2, hd2, _, _⟩, _⟩, _⟩, _, _⟩ := h
  obtain rfl := Option.some.inj (gPow.symm.trans hg2)
  obtain rfl := Option.some.inj (tPow.symm.trans ht2)
  rw [dPow] at hd2
  unfold Tab Lib.TabIs
  rw [hv2, ← Lib.cells_of_tab Tryz.underlying183 Tryz.underlying139 (by kernel_rfl) (by kernel_rfl) hd2]
end Go.Proofs.YtikiaijgcjjloaaGreatDoor

/- Raw numbers handed in, opened. -/
namespace Go.Proofs.YtikiaijgcjjloaaGreatDoor
open Go Go.ChangeShapes Go.WideShapes Go.ChangeAt Go.WideMaps Go.WideElems Go.RowKit

theorem Tryz.cellsIntO : Tryz.prog.cellsOf 3 = 1 := by kernel_rfl
theorem Tryz.bytesIntO : Tryz.prog.bytesOf 3 = 8 := by kernel_rfl
theorem add_block (a : Addr) (i : Nat) : (a.add i).block = a.block := by unfold Addr.add; split <;> rfl
set_option maxRecDepth 100000 in
/-- Raw numbers, opened. -/
theorem open_raw {H : Type} {enc : TypeId × Value → H} {W : World} {base : Nat} {v : Value} {d : DataW H} {p : List MemPlace} (hval : Value.okWide Tryz.prog W .any base 25 v) (h : DataW.Trod enc Tryz.prog W 0 (fun _ => true) true 25 v d p)
    {ts : List TypeId} {ds : List (DataW H)} {j : Nat} (hsz : (DataW.weightsEach Tryz.prog ts ds).all (· ≤ reachBytes) = true) (ht : ts[j]? = some 25) (hd : ds[j]? = some d) :
    ∃ (ra : Option Addr) (rn rc : Nat) (raw : Nat → Int), v = .slice ra rn rc ∧ RawIs W ra rn raw ∧ rn ≤ 140737488355328 := by
  obtain ⟨ao, len0, cap0, rfl⟩ := Go.WideShapes.okWide_slice Tryz.underlying25 hval
  obtain ⟨fuel, hf⟩ := h
  rcases open_ints Tryz.underlying25 Tryz.underlying3 Tryz.cellsIntO hf with ⟨hc, hx⟩ | ⟨a, len, cap, zs, hc, _, hl, hm, hzl, hx, hcell, hwf⟩
  · simp [Value.cells] at hc
    obtain ⟨rfl, rfl, rfl⟩ := hc
    exact ⟨none, 0, 0, fun _ => 0, rfl, ⟨fun i h => absurd h (Nat.not_lt_zero i)⟩, by omega⟩
  · simp [Value.cells] at hc
    obtain ⟨rfl, rfl, rfl⟩ := hc
    simp only [if_true] at hzl
    simp only [Prod.mk.injEq] at hx
    have hw := sized_slice hsz (j := j) ht (by rw [hd, hx.1]) Tryz.underlying25
    rw [Tryz.bytesIntO] at hw
    have hrb : reachBytes = 140737488351232 := rfl
    rw [hrb] at hw
    have hle : len0 ≤ 140737488355328 := by
      have h1 : (lits (H := H) .i64 (zs.take len0)).length = len0 := by
        unfold lits
        rw [List.length_map, List.length_take]
        omega
      rw [h1] at hw
      omega
    refine ⟨some a, len0, _, fun i => zs.getD i 0, rfl, ⟨fun i hi => ⟨a, rfl, ?_, hcell i (by omega), ?_⟩⟩, hle⟩
    · exact World.block_lt_of_cell? W _ (hcell i (by omega))
    · refine bounds_i64 (hwf _ ?_)
      rw [List.getD_eq_getElem?_getD, List.getElem?_eq_getElem (by omega)]
      exact List.getElem_mem _
end Go.Proofs.YtikiaijgcjjloaaGreatDoor

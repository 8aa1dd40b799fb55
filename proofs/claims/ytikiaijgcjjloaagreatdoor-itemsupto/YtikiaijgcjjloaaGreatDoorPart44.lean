import Derived.Test.YtikiaijgcjjloaaGreatDoorPart43
import Derived.Test.YtikiaijgcjjloaaGreatDoorPart35
import Derived.Deep.CutRange
import Derived.Deep.DeepCutAuto

/- The walk of unwindkeep.Items, up to the part's text. -/
namespace Go.Proofs.YtikiaijgcjjloaaGreatDoor
open Go Go.RowKit M T Go.Lib

theorem byte_convK (c : UInt8) (b : Nat) (w : World) (h : w.heap[b]? = some (.cells #[.int .u8 (c.toNat : Int)] 5 (0, 0))) : (convert 33 9 (.slice (some ⟨b, 0, none⟩) 1 1)).run Tryz.prog w = .ok (.string ⟨#[c]⟩) w := by
  have h := run_convert_bytes_back (P := Tryz.prog) w 33 9 5 ⟨b, 0, none⟩ 1 [c] Tryz.underlying33 Tryz.underlying5 Tryz.underlying9 (fun j hj => by
    have hj0 : j = 0 := by simpa using hj
    subst hj0
    exact blk_cell h 0)
  exact h
/-- Which part is asked for, and how its wants are called. -/
inductive Want (x : Rat) (k : Int) (os : List Nat) : UInt8 → Sp → Prop
  | comes {L : UInt8} {X : Sp} (h : ComesBy x X (L.toNat : Int)) (hm : L ≠ 114 ∧ L ≠ 60 ∧ L ≠ 116 ∧ L ≠ 100 ∧ L ≠ 35) : Want x k os L X
  | r : Want x k os 114 .r
  | shift (h1 : -99 ≤ k) (h2 : k ≤ 99) : Want x k os 60 (.shift k)
  | take {n : Nat} (hn : k = (n : Int)) (h : n ≤ 12) : Want x k os 116 (.take n)
  | drop {n : Nat} (hn : k = (n : Int)) (h : n ≤ 12) : Want x k os 100 (.drop n)
  | pick (h : Apt os) : Want x k os 35 (.pick os)
/-- The part's text, and what it is. -/
structure PartIs (x : Rat) (k : Int) (os : List Nat) (L : UInt8) (X : Sp) (s : List UInt8) : Prop where
  want : Want x k os L X
  wf : X.wf
  text : s = X.text
  len : s.length ≤ 120

theorem cat_rt (c : UInt8) (x : Rat) : ((⟨#[c]⟩ : ByteArray) ++ rt x) = ⟨(c :: ratText x).toArray⟩ := by
  apply ByteArray.ext
  simp [rt]
theorem cat_it (c : UInt8) (l : List UInt8) : ((⟨#[c]⟩ : ByteArray) ++ ⟨l.toArray⟩) = ⟨(c :: l).toArray⟩ := by
  apply ByteArray.ext
  simp
theorem kinds19 {q : Nat} (hq : q < 19) {L : UInt8} (h : (⟨#[110, 118, 97, 113, 119, 117, 114, 115, 122, 112, 109, 111, 43, 42, 61, 60, 116, 100, 35]⟩ : ByteArray)[q]'(by show q < 19; exact hq) = L) : L = 110 ∨ L = 118 ∨ L = 97 ∨ L = 113 ∨ L = 119 ∨ L = 117 ∨ L = 114 ∨ L = 115 ∨ L = 122 ∨ L = 112 ∨ L = 109 ∨ L = 111 ∨ L = 43 ∨ L = 42 ∨ L = 61 ∨ L = 60 ∨ L = 116 ∨ L = 100 ∨ L = 35 := by
  match q, hq, h with
  | 0, _, h => exact Or.inl h.symm
  | 1, _, h => exact Or.inr (Or.inl h.symm)
  | 2, _, h => exact Or.inr (Or.inr (Or.inl h.symm))
  | 3, _, h => exact Or.inr (Or.inr (Or.inr (Or.inl h.symm)))
  | 4, _, h => right; right; right; right; left; exact h.symm
  | 5, _, h => right; right; right; right; right; left; exact h.symm
  | 6, _, h => right; right; right; right; right; right; left; exact h.symm
  | 7, _, h => right; right; right; right; right; right; right; left; exact h.symm
  | 8, _, h => right; right; right; right; right; right; right; right; left; exact h.symm
  | 9, _, h => right; right; right; right; right; right; right; right; right; left; exact h.symm
  | 10, _, h => right; right; right; right; right; right; right; right; right; right; left; exact h.symm
  | 11, _, h => right; right; right; right; right; right; right; right; right; right; right; left; exact h.symm
  | 12, _, h => right; right; right; right; right; right; right; right; right; right; right; right; left; exact h.symm
  | 13, _, h => right; right; right; right; right; right; right; right; right; right; right; right; right; left; exact h.symm
  | 14, _, h => right; right; right; right; right; right; right; right; right; right; right; right; right; right; left; exact h.symm
  | 15, _, h => right; right; right; right; right; right; right; right; right; right; right; right; right; right; right; left; exact h.symm
  | 16, _, h => right; right; right; right; right; right; right; right; right; right; right; right; right; right; right; right; left; exact h.symm
  | 17, _, h => right; right; right; right; right; right; right; right; right; right; right; right; right; right; right; right; right; left; exact h.symm
  | 18, _, h => right; right; right; right; right; right; right; right; right; right; right; right; right; right; right; right; right; right; exact h.symm
  | q + 19, hq, _ => omega
theorem dots_first (os : List Nat) (j : Nat) (hj : j < os.length) (h : j = 0) : ((⟨(35 :: dots (os.take j)).toArray⟩ : ByteArray) ++ ⟨(itoa (os[j] : Int)).toArray⟩) = ⟨(35 :: dots (os.take (j + 1))).toArray⟩ := by
  rw [dots_step os j hj, if_pos h, M.itoa_pos _ (by omega), Int.natAbs_natCast]
  apply ByteArray.ext
  simp
theorem dots_next (os : List Nat) (j : Nat) (hj : j < os.length) (h : j ≠ 0) : ((⟨(35 :: dots (os.take j)).toArray⟩ : ByteArray) ++ ⟨#[46]⟩ ++ ⟨(itoa (os[j] : Int)).toArray⟩) = ⟨(35 :: dots (os.take (j + 1))).toArray⟩ := by
  rw [dots_step os j hj, if_neg h, M.itoa_pos _ (by omega), Int.natAbs_natCast]
  apply ByteArray.ext
  simp
theorem dots_short {os : List Nat} (h : Apt os) (j : Nat) : (dots (os.take j)).length ≤ 36 := by
  have h1 := dots_len os j h.bd
  have h2 := h.few
  omega
theorem dec2 {n : Nat} (h : n ≤ 99) : (decDigits n).length ≤ 2 := dec_len_le 2 n (by decide) (by omega)

set_option maxRecDepth 100000 in
set_option maxHeartbeats 3200000 in
theorem items_walk {w : World} (which k : Int) (c ls : ByteArray) {ra : Option Addr} {rn rc : Nat} {raw : Nat → Int} (hwh1 : -9223372036854775808 ≤ which) (hwh2 : which ≤ 9223372036854775807) (hk1 : -9223372036854775808 ≤ k) (hk2 : k ≤ 9223372036854775807) (hc : c.size ≤ maxLen) (hls : ls.size ≤ 1048576) (hr : RawIs w ra rn raw) (hn : rn ≤ 140737488355328) (ht : Tab w) :
    Calls Tryz.prog 5 #[.int .i64 which, .string c, .int .i64 k, .slice ra rn rc, .string ls] w fun e w' => e = .returned (.bool true) ∧ Below w.heap.size w w' := by
  have HR := hide hr
  have HT := hide ht
  clear hr ht
  go_enter Tryz.func5, Tryz.ntmps5
  go_wp2_with fail
  refine (ready_any _ (unhide HT)).mono ?_
  rintro e w1 ⟨xb, rfl, hses, hb1⟩
  have HS := hide hses
  have HB1 := hide hb1
  clear hses hb1
  go_wp2_with fail
  refine (kpick_any which 19 _ hwh1 hwh2 (by omega) (by omega)).mono ?_
  rintro e w1' ⟨rfl, rfl⟩
  have hq := (kpick_val which (n := 19) (by omega)).2.2
  generalize kpickN which 19 = q at hq
  have hq' : (q : Int) < 19 := by omega
  go_wp2_with fail
  refine (split_all ls _ hls).mono ?_
  rintro e w2 ⟨ao, cp, rfl, hsi, hb2⟩
  have HSi := hide hsi
  have HB2 := hide ((unhide HB1).trans (hb2.mono (unhide HB1).size))
  have HS2 := hide ((unhide HS).below hb2)
  have hpl : (partsOf ls.data.toList).length ≤ 1048577 := by
    have := partsOf_len ls.data.toList
    have h2 : ls.size = ls.data.toList.length := by simp
    omega
  have hpsz : ∀ p ∈ partsOf ls.data.toList, p.length ≤ 1048576 := by
    intro p hp
    have := partsOf_each ls.data.toList p hp
    have h2 : ls.size = ls.data.toList.length := by simp
    omega
  clear hsi hb2
  generalize hps : partsOf ls.data.toList = ps at *
  have HPs := hide hps
  clear hps
  go_upto_block 0 with fail
  generalize hf0 : decide ((ps.length : Int) ≤ 12) = f0
  have HF0 := hide (show f0 = true ↔ ps.length ≤ 12 by rw [← hf0, decide_eq_true_iff]; omega)
  clear hf0
  go_cut [14, 15] from 36 to 49 (fun v14 v15 wx => ∃ b, v14 = .bool b ∧ FineIs ps b ∧ Below w2.heap.size w2 wx)
  case first =>
    go_wp2_with fail
    go_loopg [14, 15] ps.length (fun kk v14 v15 wr => ∃ (i : Nat) (b : Bool), kk = ps.length - i ∧ i ≤ ps.length ∧ v15 = .int .i64 (i : Int) ∧ v14 = .bool b ∧ FineTo ps i b ∧ Below w2.heap.size w2 wr)
    case atStart => exact ⟨0, f0, rfl, Nat.zero_le _, rfl, rfl, by unfold FineTo; simpa using unhide HF0, Below.refl _ _⟩
    case round =>
      obtain ⟨i, b, hk, hi, rfl, rfl, hbi, hbel⟩ := hrel
      have HK := hide hk
      have HBi := hide hbi
      have HBl := hide hbel
      clear hk hbi
      by_cases hlt : i < ps.length
      · have hlt' : (i : Int) < (ps.length : Int) := by omega
        cases b with
        | false =>
          clear hbel
          have HNo := hide (show ¬ Fine ps by
            intro hf
            have := (unhide HBi).2 ⟨hf.1, fun p hp => hf.2 p (List.mem_of_mem_take hp)⟩
            cases this)
          go_wp2_with fail
          go_meet
          case rel => exact ⟨false, rfl, ⟨fun h => (nomatch h), fun h => (unhide HNo h).elim⟩, unhide HBl⟩
        | true =>
          obtain ⟨g, rfl, _, hcell⟩ := ((unhide HSi).below hbel).cell (by omega)
          have c0 := hcell i hlt
          have HPz := hide (show (⟨ps[i].toArray⟩ : ByteArray).size ≤ maxLen by
            have := hpsz ps[i] (List.getElem_mem _)
            show ps[i].toArray.size ≤ _
            unfold maxLen
            simp
            omega)
          clear hcell hbel
          go_wp2_with fail
          refine (isNumber_any _ _ (unhide HPz) (tab_below (unhide HT) ((unhide HB2).trans ((unhide HBl).mono (unhide HB2).size)))).mono ?_
          rintro e w3 ⟨hh, hb3⟩
          have HB3 := hide ((unhide HBl).trans (hb3.mono (unhide HBl).size))
          clear hb3
          rcases hh with ⟨x, hx, hpx, rfl⟩ | ⟨hno, rfl⟩
          · have HNx := hide (show FineTo ps (i + 1) true by
              refine ⟨fun _ => ⟨((unhide HBi).1 rfl).1, ?_⟩, fun _ => rfl⟩
              intro p hp
              rw [List.take_succ_eq_append_getElem hlt] at hp
              rcases List.mem_append.1 hp with h1 | h1
              · exact ((unhide HBi).1 rfl).2 p h1
              · rw [List.mem_singleton.1 h1, show ps[i] = ratText x from congrArg (fun z : ByteArray => z.data.toList) hpx]
                exact ⟨_, _, rat_isNum hx⟩)
            clear hx hpx
            go_wp2_with fail
            go_roundg (ps.length - (i + 1))
            case measure => rw [unhide HK]; omega
            case rel => exact ⟨i + 1, true, rfl, by omega, rfl, rfl, unhide HNx, unhide HB3⟩
          · have HNx := hide (show FineTo ps (i + 1) false by
              refine ⟨fun h => (nomatch h), fun h => ?_⟩
              obtain ⟨t, q, hn⟩ := h.2 ps[i] (by rw [List.take_succ_eq_append_getElem hlt]; exact List.mem_append.2 (Or.inr (List.mem_singleton.2 rfl)))
              exact (hno t q hn).elim)
            clear hno
            go_wp2_with fail
            go_roundg (ps.length - (i + 1))
            case measure => rw [unhide HK]; omega
            case rel => exact ⟨i + 1, false, rfl, by omega, rfl, rfl, unhide HNx, unhide HB3⟩
      · have hlt' : ¬ (i : Int) < (ps.length : Int) := by omega
        clear hbel
        have HYes := hide (show FineIs ps b by
          have h := unhide HBi
          unfold FineTo at h
          rw [List.take_of_length_le (by omega)] at h
          exact h)
        go_wp2_with fail
        go_meet
        case rel => exact ⟨b, rfl, unhide HYes, unhide HBl⟩
  case rest =>
    obtain ⟨b, rfl, hb, hbx⟩ := hcut
    have HFi := hide hb
    have HBx := hide ((unhide HB2).trans (hbx.mono (unhide HB2).size))
    have HSx := hide ((unhide HS2).below hbx)
    have HSix := hide ((unhide HSi).below hbx)
    clear hb hbx
    go_wp2_with fail
    refine (isNumber_any c _ hc (tab_below (unhide HT) (unhide HBx))).mono ?_
    rintro e w3 ⟨hh, hb3⟩
    have HB3 := hide ((unhide HBx).trans (hb3.mono (unhide HBx).size))
    have HS3 := hide ((unhide HSx).below hb3)
    have HSi3 := hide ((unhide HSix).below hb3)
    have hh2 : ∃ b2 : Bool, e = .returned (.bool b2) ∧ (b2 = true → ∃ x, small x = true ∧ c = rt x) := by
      rcases hh with ⟨x, hx, hcx, rfl⟩ | ⟨_, rfl⟩
      · exact ⟨true, rfl, fun _ => ⟨x, hx, hcx⟩⟩
      · exact ⟨false, rfl, fun h => (nomatch h)⟩
    clear hh hb3
    obtain ⟨b2, rfl, hg⟩ := hh2
    have HG := hide hg
    clear hg
    go_upto_if 53 with fail
    go_cut [1] (fun v1 wx => ∃ x, v1 = .string (rt x) ∧ small x = true ∧ w3 = wx)
    case first =>
      cases b2 with
      | true =>
        obtain ⟨x, hx, hcx⟩ := unhide HG rfl
        go_wp2_with fail
        go_meet
        case rel => exact ⟨x, rfl, hx, rfl⟩
      | false =>
        go_wp2_with fail
        go_meet
        case rel => exact ⟨1, by rw [← rt_one], by decide, rfl⟩
    case rest =>
      obtain ⟨x, rfl, hx, rfl⟩ := hcut
      have HX := hide hx
      clear hx HG
      go_wp2_with fail
      refine (apart_any (rc := rc) (rn := rn) (raw := raw) ?_ hn).mono ?_
      · exact (unhide HR).below (unhide HB3)
      rintro e w4 ⟨os, po, pc, hapt, rfl, hkp, hb4⟩
      have HApt := hide hapt
      have HKp := hide hkp
      have HB4 := hide ((unhide HB3).trans (hb4.mono (unhide HB3).size))
      have HS4 := hide ((unhide HS3).below hb4)
      have HSi4 := hide ((unhide HSi3).below hb4)
      clear hapt hkp hb4
      generalize hl : (⟨#[110, 118, 97, 113, 119, 117, 114, 115, 122, 112, 109, 111, 43, 42, 61, 60, 116, 100, 35]⟩ : ByteArray)[q]'(by show q < 19; exact hq) = L
      have hcv := byte_convK L w4.heap.size (w4.alloc (.cells #[.int .u8 (L.toNat : Int)] 5)) (heap_alloc_new w4 _)
      have HT5 := hide (tab_below (unhide HT) ((unhide HB4).trans ((Below.refl w4.heap.size w4).alloc (Nat.le_refl _) (.cells #[.int .u8 (L.toNat : Int)] 5) |>.mono (unhide HB4).size)))
      have HB5 := hide ((Below.refl w4.heap.size w4).alloc (Nat.le_refl _) (.cells #[.int .u8 (L.toNat : Int)] 5))
      have hLs := kinds19 hq hl
      clear hl
      go_upto_block 2 with fail
      go_cut [2, 18, 19] from 60 to 103 (fun v2 v18 v19 wx => ∃ (k' : Int) (X : Sp) (s : List UInt8), v2 = .int .i64 k' ∧ v18 = .string ⟨s.toArray⟩ ∧ PartIs x k' os L X s ∧ Below w4.heap.size w4 wx)
      case first =>
        rcases hLs with rfl | rfl | rfl | rfl | rfl | rfl | rfl | rfl | rfl | rfl | rfl | rfl | rfl | rfl | rfl | rfl | rfl | rfl | rfl
        · go_wp2_with fail
          go_meet
          case rel => exact ⟨k, .n, [110], rfl, rfl, ⟨.comes .n (by decide), trivial, rfl, by decide⟩, (Below.refl _ _).alloc (Nat.le_refl _) _⟩
        · go_wp2_with fail
          go_meet
          case rel => exact ⟨k, .v, [118], rfl, rfl, ⟨.comes .v (by decide), trivial, rfl, by decide⟩, (Below.refl _ _).alloc (Nat.le_refl _) _⟩
        · go_wp2_with fail
          go_meet
          case rel => exact ⟨k, .a, [97], rfl, rfl, ⟨.comes .a (by decide), trivial, rfl, by decide⟩, (Below.refl _ _).alloc (Nat.le_refl _) _⟩
        · go_wp2_with fail
          go_meet
          case rel => exact ⟨k, .q, [113], rfl, rfl, ⟨.comes .q (by decide), trivial, rfl, by decide⟩, (Below.refl _ _).alloc (Nat.le_refl _) _⟩
        · go_wp2_with fail
          go_meet
          case rel => exact ⟨k, .w, [119], rfl, rfl, ⟨.comes .w (by decide), trivial, rfl, by decide⟩, (Below.refl _ _).alloc (Nat.le_refl _) _⟩
        · go_wp2_with fail
          go_meet
          case rel => exact ⟨k, .u, [117], rfl, rfl, ⟨.comes .u (by decide), trivial, rfl, by decide⟩, (Below.refl _ _).alloc (Nat.le_refl _) _⟩
        · go_wp2_with fail
          go_meet
          case rel => exact ⟨k, .r, [114], rfl, rfl, ⟨.r, trivial, rfl, by decide⟩, (Below.refl _ _).alloc (Nat.le_refl _) _⟩
        · go_wp2_with fail
          go_meet
          case rel => exact ⟨k, .s, [115], rfl, rfl, ⟨.comes .s (by decide), trivial, rfl, by decide⟩, (Below.refl _ _).alloc (Nat.le_refl _) _⟩
        · go_wp2_with fail
          go_meet
          case rel => exact ⟨k, .z, [122], rfl, rfl, ⟨.comes .z (by decide), trivial, rfl, by decide⟩, (Below.refl _ _).alloc (Nat.le_refl _) _⟩
        · go_wp2_with fail
          go_meet
          case rel => exact ⟨k, .p, [112], rfl, rfl, ⟨.comes .p (by decide), trivial, rfl, by decide⟩, (Below.refl _ _).alloc (Nat.le_refl _) _⟩
        · go_wp2_with fail
          go_meet
          case rel => exact ⟨k, .m, [109], rfl, rfl, ⟨.comes .m (by decide), trivial, rfl, by decide⟩, (Below.refl _ _).alloc (Nat.le_refl _) _⟩
        · go_wp2_with fail
          go_meet
          case rel => exact ⟨k, .o, [111], rfl, rfl, ⟨.comes .o (by decide), trivial, rfl, by decide⟩, (Below.refl _ _).alloc (Nat.le_refl _) _⟩
        · have HCt := hide (cat_rt 43 x)
          have hxl := rt_size (unhide HX)
          go_wp2_with fail
          go_meet
          case rel => exact ⟨k, .plus x, 43 :: ratText x, rfl, congrArg Value.string (unhide HCt), ⟨.comes .plus (by decide), unhide HX, rfl, by have := item_len (unhide HX); simp; omega⟩, (Below.refl _ _).alloc (Nat.le_refl _) _⟩
        · have HCt := hide (cat_rt 42 x)
          have hxl := rt_size (unhide HX)
          go_wp2_with fail
          go_meet
          case rel => exact ⟨k, .times x, 42 :: ratText x, rfl, congrArg Value.string (unhide HCt), ⟨.comes .times (by decide), unhide HX, rfl, by have := item_len (unhide HX); simp; omega⟩, (Below.refl _ _).alloc (Nat.le_refl _) _⟩
        · have HCt := hide (cat_rt 61 x)
          have hxl := rt_size (unhide HX)
          go_wp2_with fail
          go_meet
          case rel => exact ⟨k, .set x, 61 :: ratText x, rfl, congrArg Value.string (unhide HCt), ⟨.comes .set (by decide), unhide HX, rfl, by have := item_len (unhide HX); simp; omega⟩, (Below.refl _ _).alloc (Nat.le_refl _) _⟩
        · go_wp2_with fail
          refine (kpick_any k 199 _ hk1 hk2 (by omega) (by omega)).mono ?_
          rintro e w5 ⟨rfl, rfl⟩
          have hq2 := (kpick_val k (n := 199) (by omega)).2.2
          generalize kpickN k 199 = q2 at hq2
          obtain ⟨z, hz⟩ : ∃ z : Int, (q2 : Int) - 99 = z := ⟨_, rfl⟩
          have hz1 : -99 ≤ z := by omega
          have hz2 : z ≤ 99 := by omega
          have hq3 : (q2 : Int) ≤ 198 := by omega
          have hil := itoa_len3 (k := z) (by omega) (by omega)
          have HCt := hide (cat_it 60 (itoa z))
          go_wp2_with fail
          refine (itoa_any z _ (by omega) (by omega) (unhide HT5)).mono ?_
          rintro e w6 ⟨rfl, hb6⟩
          have HB6 := hide ((unhide HB5).trans (hb6.mono (unhide HB5).size))
          clear hb6
          go_wp2_with fail
          go_meet
          case rel => exact ⟨z, .shift z, 60 :: itoa z, rfl, congrArg Value.string (unhide HCt), ⟨.shift hz1 hz2, ⟨hz1, hz2⟩, rfl, by simp; omega⟩, unhide HB6⟩
        · go_wp2_with fail
          refine (kpick_any k 13 _ hk1 hk2 (by omega) (by omega)).mono ?_
          rintro e w5 ⟨rfl, rfl⟩
          have hq2 := (kpick_val k (n := 13) (by omega)).2.2
          generalize kpickN k 13 = q2 at hq2
          have hq3 : (q2 : Int) ≤ 12 := by omega
          have hil := dec2 (n := q2) (by omega)
          have hil2 : (itoa (q2 : Int)).length ≤ 2 := by rw [M.itoa_pos _ (by omega), Int.natAbs_natCast]; exact hil
          have HCt := hide (show ((⟨#[116]⟩ : ByteArray) ++ ⟨(itoa (q2 : Int)).toArray⟩) = ⟨(116 :: decDigits q2).toArray⟩ by rw [cat_it, M.itoa_pos _ (by omega), Int.natAbs_natCast])
          go_wp2_with fail
          refine (itoa_any (q2 : Int) _ (by omega) (by omega) (unhide HT5)).mono ?_
          rintro e w6 ⟨rfl, hb6⟩
          have HB6 := hide ((unhide HB5).trans (hb6.mono (unhide HB5).size))
          clear hb6
          go_wp2_with fail
          go_meet
          case rel => exact ⟨(q2 : Int), .take q2, 116 :: decDigits q2, rfl, congrArg Value.string (unhide HCt), ⟨.take rfl (by omega), (by show q2 ≤ 12; omega), rfl, by simp; omega⟩, unhide HB6⟩
        · go_wp2_with fail
          refine (kpick_any k 13 _ hk1 hk2 (by omega) (by omega)).mono ?_
          rintro e w5 ⟨rfl, rfl⟩
          have hq2 := (kpick_val k (n := 13) (by omega)).2.2
          generalize kpickN k 13 = q2 at hq2
          have hq3 : (q2 : Int) ≤ 12 := by omega
          have hil := dec2 (n := q2) (by omega)
          have hil2 : (itoa (q2 : Int)).length ≤ 2 := by rw [M.itoa_pos _ (by omega), Int.natAbs_natCast]; exact hil
          have HCt := hide (show ((⟨#[100]⟩ : ByteArray) ++ ⟨(itoa (q2 : Int)).toArray⟩) = ⟨(100 :: decDigits q2).toArray⟩ by rw [cat_it, M.itoa_pos _ (by omega), Int.natAbs_natCast])
          go_wp2_with fail
          refine (itoa_any (q2 : Int) _ (by omega) (by omega) (unhide HT5)).mono ?_
          rintro e w6 ⟨rfl, hb6⟩
          have HB6 := hide ((unhide HB5).trans (hb6.mono (unhide HB5).size))
          clear hb6
          go_wp2_with fail
          go_meet
          case rel => exact ⟨(q2 : Int), .drop q2, 100 :: decDigits q2, rfl, congrArg Value.string (unhide HCt), ⟨.drop rfl (by omega), (by show q2 ≤ 12; omega), rfl, by simp; omega⟩, unhide HB6⟩
        · go_wp2_with fail
          go_loopg [18, 19] os.length (fun kk v18 v19 wr => ∃ (j : Nat), kk = os.length - j ∧ j ≤ os.length ∧ v19 = .int .i64 (j : Int) ∧ v18 = .string ⟨(35 :: dots (os.take j)).toArray⟩ ∧ Below w4.heap.size w4 wr)
          case atStart => exact ⟨0, rfl, Nat.zero_le _, rfl, rfl, unhide HB5⟩
          case round =>
            obtain ⟨j, hkk, hj, rfl, rfl, hbl⟩ := hrel
            have HKk := hide hkk
            have HBl := hide hbl
            have hdl := dots_short (unhide HApt) j
            have hol := (unhide HApt).few
            have HTl := hide (tab_below (unhide HT) ((unhide HB4).trans (hbl.mono (unhide HB4).size)))
            clear hkk
            by_cases hlt : j < os.length
            · have hlt' : (j : Int) < (os.length : Int) := by omega
              obtain ⟨gp, rfl, hgp, hcp⟩ := ((unhide HKp).below hbl).cell (by omega)
              have c0 := hcp j hlt
              have hob := (unhide HApt).bd os[j] (List.getElem_mem hlt)
              have hil2 : (itoa (os[j] : Int)).length ≤ 2 := by rw [M.itoa_pos _ (by omega), Int.natAbs_natCast]; exact dec2 (by omega)
              clear hcp hbl
              by_cases hj0 : j = 0
              · have HD := hide (dots_first os j hlt hj0)
                have hj0' : ¬ (0 : Int) < (j : Int) := by omega
                clear hj0
                generalize os[j] = o at c0 hob hil2 HD
                go_wp2_with fail
                refine (itoa_any (o : Int) _ (by omega) (by omega) (unhide HTl)).mono ?_
                rintro e w6 ⟨rfl, hb6⟩
                have HB6 := hide ((unhide HBl).trans (hb6.mono (unhide HBl).size))
                clear hb6
                go_wp2_with fail
                go_roundg (os.length - (j + 1))
                case measure => rw [unhide HKk]; omega
                case rel => exact ⟨j + 1, rfl, by omega, rfl, congrArg Value.string (unhide HD), unhide HB6⟩
              · have HD := hide (dots_next os j hlt hj0)
                have hj0' : (0 : Int) < (j : Int) := by omega
                clear hj0
                generalize os[j] = o at c0 hob hil2 HD
                go_wp2_with fail
                refine (itoa_any (o : Int) _ (by omega) (by omega) (unhide HTl)).mono ?_
                rintro e w6 ⟨rfl, hb6⟩
                have HB6 := hide ((unhide HBl).trans (hb6.mono (unhide HBl).size))
                clear hb6
                go_wp2_with fail
                go_roundg (os.length - (j + 1))
                case measure => rw [unhide HKk]; omega
                case rel => exact ⟨j + 1, rfl, by omega, rfl, congrArg Value.string (unhide HD), unhide HB6⟩
            · have hlt' : ¬ (j : Int) < (os.length : Int) := by omega
              obtain rfl : j = os.length := by omega
              have hdl2 := dots_short (unhide HApt) os.length
              rw [List.take_length] at hdl2
              have HPt := hide (show PartIs x k os 35 (.pick os) (35 :: dots os) from ⟨.pick (unhide HApt), ⟨fun e => by have := (unhide HApt).pos; rw [e] at this; simp at this, (unhide HApt).nd, (unhide HApt).bd⟩, rfl, by simp; omega⟩)
              clear hbl
              go_wp2_with fail
              go_meet
              case rel => exact ⟨k, .pick os, _, rfl, rfl, unhide HPt, unhide HBl⟩
      case rest =>
        obtain ⟨k', X, s, rfl, rfl, hpi, hbx⟩ := hcut
        have HPi := hide hpi
        have hslen := hpi.len
        have HB6 := hide ((unhide HB4).trans (hbx.mono (unhide HB4).size))
        have HS6 := hide ((unhide HS4).below hbx)
        have HSi6 := hide ((unhide HSi4).below hbx)
        have HKp6 := hide ((unhide HKp).below hbx)
        have HGd := hide (show T.Good T.noEnv s (one X) by
          have h1 := one_good (env := T.noEnv) hpi.wf (by rw [← hpi.text]; exact hpi.len)
          rw [← hpi.text] at h1
          exact h1)
        clear hpi hbx
        have hlsz : ls.size ≤ 9223372036854775807 := by omega
        go_wp2_with fail
        refine (apply_any ⟨s.toArray⟩ ls 1 _ (unhide HS6) (tab_below (unhide HT) (unhide HB6)) hlsz).mono ?_
        rintro e w7 ⟨r, n, c1, rfl, ha, hb7⟩
        have ho := one_apply (unhide HGd) ha
        have hrl := apply_len ha
        have HB7 := hide ((unhide HB6).trans (hb7.mono (unhide HB6).size))
        have HSi7 := hide ((unhide HSi6).below hb7)
        have HKp7 := hide ((unhide HKp6).below hb7)
        clear ha hb7
        cases b with
        | false =>
          rcases ho with ⟨_, rfl, rfl, rfl⟩ | ⟨l, hl, _⟩
          · go_wp2_with fail
            go_ret
            exact ⟨rfl, unhide HB7⟩
          · exfalso
            have h1 := list_fine hl
            rw [unhide HPs] at h1
            have := (unhide HFi).2 h1
            cases this
        | true =>
          obtain ⟨l, hl, hpl⟩ := fine_list (s := ls.data.toList) (by rw [unhide HPs]; exact (unhide HFi).1 rfl)
          obtain rfl : ps = krow l := by rw [← unhide HPs]; exact hpl
          have HO := hide (show (∃ l', X.work l = .ok l' ∧ r = listText l' ∧ n = 1 ∧ c1 = 0) ∨ (X.work l = .error c1 ∧ r = [] ∧ n = 0) by
            rcases ho with ⟨hno, _⟩ | ⟨l2, hl2, hh⟩
            · exact absurd ⟨l, hl⟩ hno
            · rw [hl.unique hl2]; exact hh)
          have HSm := hide hl.small
          have hl12 : l.length ≤ 1000 := by have := hl.len; omega
          have HTb := hide (tab_below (unhide HT) (unhide HB7))
          clear ho hl hpl
          go_upto_block 5 with fail
          rw [krow_len]
          go_cut [23, 24] from 125 to 145 (fun v23 v24 wx => ∃ (ao' : Option Addr) (n' cp' : Nat) (c' : Int), v23 = .slice ao' n' cp' ∧ v24 = .int .i64 c' ∧ Below w7.heap.size w7 wx ∧ ((∃ zs, X.work l = .ok zs ∧ (∀ z ∈ zs, small z = true) ∧ n' = zs.length ∧ SIs wx ao' cp' (krow zs) ∧ c' = 0) ∨ (X.work l = .error c' ∧ c' ≠ 0)))
          case first =>
            have hwant := (unhide HPi).want
            clear HPi HGd
            cases hwant with
            | comes h hm =>
              obtain ⟨m1, m2, m3, m4, m5⟩ := hm
              have g1 : ((L.toNat : Int) == 114) = false := u8_neP m1
              have g2 : ((L.toNat : Int) == 60) = false := u8_neP m2
              have g3 : ((L.toNat : Int) == 116) = false := u8_neP m3
              have g4 : ((L.toNat : Int) == 100) = false := u8_neP m4
              have g5 : ((L.toNat : Int) == 35) = false := u8_neP m5
              have HCm := hide (comes_any h (unhide HX) (unhide HSm) hl12 (unhide HSi7) (unhide HTb))
              go_wp2_with fail
              refine (unhide HCm).mono ?_
              rintro e w8 ⟨ao', n', cp', c', rfl, hb, hres⟩
              have HRes := hide hres
              have HBw := hide hb
              clear hb hres
              go_wp2_with fail
              go_meet
              case rel => exact ⟨ao', n', cp', c', rfl, rfl, unhide HBw, unhide HRes⟩
            | r =>
              have HCm := hide (moved_r (k := k') (ps := os) (po := po) (pc := pc) (unhide HSm) hl12 (unhide HSi7))
              go_wp2_with fail
              refine (unhide HCm).mono ?_
              rintro e w8 ⟨ao', n', cp', c', rfl, hb, hres⟩
              have HRes := hide hres
              have HBw := hide hb
              clear hb hres
              go_wp2_with fail
              go_meet
              case rel => exact ⟨ao', n', cp', c', rfl, rfl, unhide HBw, unhide HRes⟩
            | shift h1 h2 =>
              have HCm := hide (moved_shift (k := k') (ps := os) (po := po) (pc := pc) (by omega) (by omega) (unhide HSm) hl12 (unhide HSi7))
              go_wp2_with fail
              refine (unhide HCm).mono ?_
              rintro e w8 ⟨ao', n', cp', c', rfl, hb, hres⟩
              have HRes := hide hres
              have HBw := hide hb
              clear hb hres
              go_wp2_with fail
              go_meet
              case rel => exact ⟨ao', n', cp', c', rfl, rfl, unhide HBw, unhide HRes⟩
            | @take nn hn2 h2 =>
              subst hn2
              have HCm := hide (moved_take (k := nn) (ps := os) (po := po) (pc := pc) (by omega) (unhide HSm) hl12 (unhide HSi7))
              go_wp2_with fail
              refine (unhide HCm).mono ?_
              rintro e w8 ⟨ao', n', cp', c', rfl, hb, hres⟩
              have HRes := hide hres
              have HBw := hide hb
              clear hb hres
              go_wp2_with fail
              go_meet
              case rel => exact ⟨ao', n', cp', c', rfl, rfl, unhide HBw, unhide HRes⟩
            | @drop nn hn2 h2 =>
              subst hn2
              have HCm := hide (moved_drop (k := nn) (ps := os) (po := po) (pc := pc) (by omega) (unhide HSm) hl12 (unhide HSi7))
              go_wp2_with fail
              refine (unhide HCm).mono ?_
              rintro e w8 ⟨ao', n', cp', c', rfl, hb, hres⟩
              have HRes := hide hres
              have HBw := hide hb
              clear hb hres
              go_wp2_with fail
              go_meet
              case rel => exact ⟨ao', n', cp', c', rfl, rfl, unhide HBw, unhide HRes⟩
            | pick hap =>
              have HCm := hide (moved_pick (k := k') (by have := hap.few; omega) (fun i hi => by have := hap.bd i hi; omega) (unhide HKp7) (unhide HSm) hl12 (unhide HSi7))
              go_wp2_with fail
              refine (unhide HCm).mono ?_
              rintro e w8 ⟨ao', n', cp', c', rfl, hb, hres⟩
              have HRes := hide hres
              have HBw := hide hb
              clear hb hres
              go_wp2_with fail
              go_meet
              case rel => exact ⟨ao', n', cp', c', rfl, rfl, unhide HBw, unhide HRes⟩
          case rest =>
            obtain ⟨ao', n', cp', c', rfl, rfl, hbx, hres⟩ := hcut
            have HB8 := hide ((unhide HB7).trans (hbx.mono (unhide HB7).size))
            clear hbx
            rcases hres with ⟨zs, hwk, hzs, rfl, hsz, rfl⟩ | ⟨hwk, hne⟩
            · obtain ⟨rfl, rfl, rfl⟩ : r = listText zs ∧ n = 1 ∧ c1 = 0 := by
                rcases unhide HO with ⟨l', h1, h2, h3, h4⟩ | ⟨h1, _⟩
                · rw [hwk] at h1
                  obtain rfl := Except.ok.inj h1
                  exact ⟨h2, h3, h4⟩
                · rw [hwk] at h1; cases h1
              have HJ := hide (joined_any hsz (by rw [krow_len]; have := Sp.keeps (unhide HPi).wf hwk; have := this.2; omega) (fun p hp => by
                obtain ⟨z, hz, rfl⟩ := List.mem_map.1 hp
                have := item_len (hzs z hz)
                omega))
              rw [krow_len, show joinT (krow zs) = listText zs from joinT_list zs] at HJ
              clear hwk hzs hsz
              go_wp2_with fail
              refine (unhide HJ).mono ?_
              rintro e w9 ⟨rfl, rfl⟩
              go_wp2_with fail
              go_ret
              exact ⟨rfl, unhide HB8⟩
            · obtain ⟨rfl, rfl, rfl⟩ : c1 = c' ∧ r = [] ∧ n = 0 := by
                rcases unhide HO with ⟨l', h1, _⟩ | ⟨h1, h2, h3⟩
                · rw [hwk] at h1; cases h1
                · rw [hwk] at h1
                  exact ⟨(Except.error.inj h1).symm, h2, h3⟩
              have hne' : (c1 != 0) = true := by rw [bne_iff_ne]; exact hne
              clear hwk hne
              go_wp2_with fail
              go_ret
              exact ⟨rfl, unhide HB8⟩
end Go.Proofs.YtikiaijgcjjloaaGreatDoor

import Derived.Test.YtikiaijgcjjloaaGreatDoorPart41
import Derived.Deep.CutRange
import Derived.Deep.DeepCutAuto

namespace Go.Proofs.YtikiaijgcjjloaaGreatDoor
open Go Go.RowKit M T Go.Lib
def RWGot (w : World) (r : Except Int (List Rat)) (e : Ending) (w' : World) : Prop := ∃ (ao : Option Addr) (n cp : Nat) (c : Int), e = .returned (.tuple #[.slice ao n cp, .int .i64 c]) ∧ Below w.heap.size w w' ∧ ((∃ zs, r = .ok zs ∧ n = zs.length ∧ c = 0 ∧ RL w' ao cp zs) ∨ (r = .error c ∧ c ≠ 0))
def moveE (ok : Bool) (idx : List Nat) (l : List Rat) : Except Int (List Rat) := if ok = true then .ok (picked idx l) else .error 11
set_option maxRecDepth 100000 in
set_option maxHeartbeats 3200000 in
theorem work_moves {Kd : UInt8} {P Q K : Int} {pa : Option Addr} {pn pc : Nat} {F G : ByteArray} {idx : List Nat} {ok : Bool} {l : List Rat} {ao : Option Addr} {cap : Nat} {w : World} (hk : Kd ∈ [114, 60, 116, 100, 35]) (hil : idx.length ≤ 1000) (hix : ok = true → ∀ i ∈ idx, i < l.length) (h : RL w ao cap l)
    (hfrom : ∀ W, Below w.heap.size w W → Calls Tryz.prog 108 #[.agg #[.int .u8 (Kd.toNat : Int), .int .i64 P, .int .i64 Q, .int .i64 K, .slice pa pn pc, .string F, .string G], .int .i64 (l.length : Int)] W fun e w' => FromGot W idx ok e w') :
    Calls Tryz.prog 72 #[.agg #[.int .u8 (Kd.toNat : Int), .int .i64 P, .int .i64 Q, .int .i64 K, .slice pa pn pc, .string F, .string G], .slice ao l.length cap] w fun e w' => RWGot w (moveE ok idx l) e w' := by
  obtain ⟨i0, hi0, hz0, hz1, hz2⟩ := info_parts Tryz.infoNum
  have hlen := h.len
  have HL := hide h
  have HFr := hide hfrom
  have HIx := hide hix
  have HB0 := hide (box_below w (.cells #[.int .u8 (Kd.toNat : Int), .int .i64 P, .int .i64 Q, .int .i64 K, .slice pa pn pc, .string F, .string G] 131))
  have HBx := hide (heap_alloc_new w (.cells #[.int .u8 (Kd.toNat : Int), .int .i64 P, .int .i64 Q, .int .i64 K, .slice pa pn pc, .string F, .string G] 131))
  have hdk : decide (Kd ∈ (⟨#[114, 60, 116, 100, 35]⟩ : ByteArray).data.toList) = true := decide_eq_true hk
  have HAm := hide (fun W => (among_any Kd ⟨#[114, 60, 116, 100, 35]⟩ W (by decide)).mono (fun e w' h => by rw [hdk] at h; exact h))
  clear h hfrom hix hk hdk
  go_enter Tryz.func72, Tryz.ntmps72
  go_wp2_with fail
  refine (unhide HAm _).mono ?_
  rintro e w0 ⟨rfl, rfl⟩
  generalize w.alloc (.cells #[.int .u8 (Kd.toNat : Int), .int .i64 P, .int .i64 Q, .int .i64 K, .slice pa pn pc, .string F, .string G] 131) = w0 at HB0 HBx ⊢
  have c0 : ∀ jj, w0.cell? ⟨w.heap.size, jj, none⟩ = (#[.int .u8 (Kd.toNat : Int), .int .i64 P, .int .i64 Q, .int .i64 K, .slice pa pn pc, .string F, .string G] : Array Value)[jj]? := fun jj => blk_cell (unhide HBx) jj
  go_wp2_with fail
  refine (unhide HFr _ (unhide HB0)).mono ?_
  rintro e w1 ⟨oi, ci, rfl, hown, hb1⟩
  have HOw := hide hown
  have HB1 := hide ((unhide HB0).trans (hb1.mono (unhide HB0).size))
  clear hown hb1
  cases ok with
  | false =>
    go_wp2_with fail
    exact bodyPost_ret (v := .tuple #[.slice none 0 0, .int .i64 11]) (by simp [results, Tryz.results72, go_sem]) rfl ⟨none, 0, 0, 11, rfl, unhide HB1, Or.inr ⟨rfl, by decide⟩⟩
  | true =>
    have hix := unhide HIx rfl
    have HIx2 := hide hix
    clear hix HIx
    go_wp2_with fail
    go_loopg [6, 10] idx.length (fun kk v6 v10 wr => ∃ (i : Nat) (ys : List Rat) (ao' : Option Addr) (cp : Nat), kk = idx.length - i ∧ i ≤ idx.length ∧ v10 = .int .i64 (i : Int) ∧ v6 = .slice ao' ys.length cp ∧ (ys = picked (idx.take i) l ∧ AllS ys) ∧ RM w1 (.slice ao' ys.length cp) ys wr)
    case atStart => exact ⟨0, [], none, 0, rfl, Nat.zero_le _, rfl, rfl, ⟨rfl, fun _ h => by (cases h)⟩, RM.start w1⟩
    case round =>
      obtain ⟨i, ys, ao', cp, hk, hi, rfl, rfl, he, hm⟩ := hrel
      have HK := hide hk
      have HE := hide he
      have HM := hide hm
      have hyb : ys.length ≤ 1000 := by rw [he.1]; unfold picked; simp; omega
      clear hk he
      by_cases hlt : i < idx.length
      · have hlt' : (i : Int) < (idx.length : Int) := by omega
        obtain ⟨gp, rfl, hgp, hcp⟩ := places_cells (unhide HOw) (by omega)
        have hc0 := (hm.bel.cell (p := ⟨gp, i, none⟩) hgp).trans (hcp i hlt)
        have hq := unhide HIx2 idx[i] (List.getElem_mem hlt)
        obtain ⟨g, rfl, hg, hcl⟩ := ((unhide HL).below (unhide HB1)).cell (by omega)
        obtain ⟨d0, d1⟩ := hcl idx[i] hq
        rw [← hm.bel.cell (p := ⟨g, idx[i] * 2, none⟩) hg] at d0
        rw [← hm.bel.cell (p := ⟨g, idx[i] * 2 + 1, none⟩) hg] at d1
        have hgd : l.getD idx[i] 0 = l[idx[i]] := by rw [List.getD_eq_getElem?_getD, List.getElem?_eq_getElem hq]; rfl
        have HPS := hide (picked_step idx l i hlt)
        rw [hgd] at HPS
        have HX := hide ((unhide HL).small l[idx[i]] (List.getElem_mem hq))
        have hsz := hm.bel.size
        have HM2 := hide (hm.below ((Below.refl _ _).alloc (Nat.le_refl _) (.cells (qcells l[idx[i]]).toArray 129)))
        clear hcp hcl hm hgd
        generalize l[idx[i]] = z at d0 d1 HPS HX HM2
        generalize idx[i] = q at hc0 hq d0 d1
        have hq' : (q : Int) < (l.length : Int) := by omega
        go_wp2_with (at_builtin; refine wpList_append_own _ rfl _ _ 116 rfl w1.heap.size 129 i0 _ 2 16 Tryz.underlying116 hi0 hz0 hz1 hz2 rfl (by decide) _ _ _ rfl (unhide HM2).own ⟨wr.heap.size, 0, none⟩ 1 1 (qcells z) rfl rfl (nnews_at rfl _ _) (one_qcells _) (by unfold maxLen; omega) (by omega) (by simp; omega) ?_)
        intro v' w4 hown4 hgr4 _
        have hm4 := (unhide HM2).more hown4 hgr4
        obtain ⟨ao4, cp4, rfl⟩ := hm4.shape
        have HM4 := hide hm4
        clear hown4 hgr4 hm4
        go_wp2_with fail
        go_roundg (idx.length - (i + 1))
        case measure => rw [unhide HK]; omega
        case rel => exact ⟨i + 1, ys ++ [z], ao4, cp4, rfl, by omega, rfl, rfl, ⟨by rw [unhide HPS, ← (unhide HE).1], allS_one (unhide HE).2 (unhide HX)⟩, unhide HM4⟩
      · have hlt' : ¬ (i : Int) < (idx.length : Int) := by omega
        have HF := hide (show moveE true idx l = .ok ys by
          have h1 := (unhide HE).1
          rw [List.take_of_length_le (by omega)] at h1
          rw [moveE, if_pos rfl, h1])
        have HRl := hide (hm.rl (unhide HE).2 hyb)
        have HB2 := hide ((unhide HB1).trans (hm.bel.mono (unhide HB1).size))
        clear hm
        go_wp2_with fail
        exact bodyPost_ret (v := .tuple #[.slice ao' ys.length cp, .int .i64 0]) (by simp [results, Tryz.results72, go_sem]) rfl ⟨ao', ys.length, cp, 0, rfl, unhide HB2, Or.inl ⟨ys, unhide HF, rfl, rfl, unhide HRl⟩⟩
set_option maxRecDepth 100000 in
set_option maxHeartbeats 3200000 in
theorem work_items {Kd : UInt8} {P Q K : Int} {pa : Option Addr} {pn pc : Nat} {F G : ByteArray} {E : Nat → Except Int Rat} {l : List Rat} {ao : Option Addr} {cap : Nat} {w : World} (hk : Kd ∉ [114, 60, 116, 100, 35]) (hk9 : Kd ≠ 109) (h : RL w ao cap l)
    (hitem : ∀ W i, i < l.length → RL W ao cap l → Calls Tryz.prog 109 #[.agg #[.int .u8 (Kd.toNat : Int), .int .i64 P, .int .i64 Q, .int .i64 K, .slice pa pn pc, .string F, .string G], .slice ao l.length cap, .int .i64 (i : Int)] W fun e w' => RQGot (E i) e ∧ Below W.heap.size W w') :
    Calls Tryz.prog 72 #[.agg #[.int .u8 (Kd.toNat : Int), .int .i64 P, .int .i64 Q, .int .i64 K, .slice pa pn pc, .string F, .string G], .slice ao l.length cap] w fun e w' => RWGot w (gather E l.length 0) e w' := by
  obtain ⟨i0, hi0, hz0, hz1, hz2⟩ := info_parts Tryz.infoNum
  have hlen := h.len
  have HL := hide h
  have HIt := hide hitem
  have HB0 := hide (box_below w (.cells #[.int .u8 (Kd.toNat : Int), .int .i64 P, .int .i64 Q, .int .i64 K, .slice pa pn pc, .string F, .string G] 131))
  have HBx := hide (heap_alloc_new w (.cells #[.int .u8 (Kd.toNat : Int), .int .i64 P, .int .i64 Q, .int .i64 K, .slice pa pn pc, .string F, .string G] 131))
  have hdk : decide (Kd ∈ (⟨#[114, 60, 116, 100, 35]⟩ : ByteArray).data.toList) = false := decide_eq_false hk
  have HAm := hide (fun W => (among_any Kd ⟨#[114, 60, 116, 100, 35]⟩ W (by decide)).mono (fun e w' h => by rw [hdk] at h; exact h))
  have g9 : ((Kd.toNat : Int) == 109) = false := u8_ne' (d := 109) hk9
  clear h hitem hk hdk hk9
  go_enter Tryz.func72, Tryz.ntmps72
  go_wp2_with fail
  refine (unhide HAm _).mono ?_
  rintro e w0 ⟨rfl, rfl⟩
  generalize w.alloc (.cells #[.int .u8 (Kd.toNat : Int), .int .i64 P, .int .i64 Q, .int .i64 K, .slice pa pn pc, .string F, .string G] 131) = w0 at HB0 HBx ⊢
  have c0 : ∀ jj, w0.cell? ⟨w.heap.size, jj, none⟩ = (#[.int .u8 (Kd.toNat : Int), .int .i64 P, .int .i64 Q, .int .i64 K, .slice pa pn pc, .string F, .string G] : Array Value)[jj]? := fun jj => blk_cell (unhide HBx) jj
  go_upto_block 2 with fail
  go_cut [11] from 45 to 62 (fun v11 wx => w0 = wx)
  case first =>
    go_wp2_with fail
    go_loopg [11] 0 (fun kk v11 wr => kk = 0 ∧ v11 = .int .i64 0 ∧ w0 = wr)
    case atStart => exact ⟨rfl, rfl, rfl⟩
    case round =>
      obtain ⟨hk, rfl, rfl⟩ := hrel
      clear hk
      by_cases hl1 : 1 < l.length
      · have hl1' : (1 : Int) < (l.length : Int) := by omega
        go_wp2_with fail
        go_meet
        case rel => rfl
      · have hl1' : ¬ (1 : Int) < (l.length : Int) := by omega
        go_wp2_with fail
        go_meet
        case rel => rfl
  case rest =>
    obtain rfl := hcut
    go_wp2_with fail
    go_loopg [6, 12] l.length (fun kk v6 v12 wr => ∃ (i : Nat) (ys : List Rat) (ao' : Option Addr) (cp : Nat), kk = l.length - i ∧ i ≤ l.length ∧ v12 = .int .i64 (i : Int) ∧ v6 = .slice ao' ys.length cp ∧ (gather E i 0 = .ok ys ∧ AllS ys ∧ ys.length ≤ i) ∧ RM w0 (.slice ao' ys.length cp) ys wr)
    case atStart => exact ⟨0, [], none, 0, rfl, Nat.zero_le _, rfl, rfl, ⟨rfl, fun _ h => by (cases h), by simp⟩, RM.start w0⟩
    case round =>
      obtain ⟨i, ys, ao', cp, hk, hi, rfl, rfl, he, hm⟩ := hrel
      have HK := hide hk
      have HE := hide he
      have HM := hide hm
      have hyl := he.2.2
      clear hk he
      by_cases hlt : i < l.length
      · have hlt' : (i : Int) < (l.length : Int) := by omega
        have cw : ∀ jj, wr.cell? ⟨w.heap.size, jj, none⟩ = (#[.int .u8 (Kd.toNat : Int), .int .i64 P, .int .i64 Q, .int .i64 K, .slice pa pn pc, .string F, .string G] : Array Value)[jj]? := fun jj => blk_cell ((hm.bel.block _ (lt_of_block (unhide HBx))).trans (unhide HBx)) jj
        have HRlw := hide (((unhide HL).below (unhide HB0)).below hm.bel)
        clear hm
        go_wp2_with fail
        refine (unhide HIt _ i hlt (unhide HRlw)).mono ?_
        rintro e w1 ⟨⟨p, q, c, rfl, hr⟩, hb⟩
        rcases hr with ⟨z, hz, hzs, rfl, rfl, rfl⟩ | ⟨hz, hne⟩
        · have HNx := hide (show gather E (i + 1) 0 = .ok (ys ++ [z]) by
            rw [gather_snoc, (unhide HE).1, Nat.zero_add, hz])
          have HZ := hide hzs
          have HM2 := hide ((((unhide HM).below hb).below ((Below.refl _ _).alloc (Nat.le_refl _) (.cells (qcells z).toArray 129))).below ((Below.refl _ _).alloc (Nat.le_refl _) (.cells (qcells z).toArray 129)))
          have hsz := ((unhide HM).below hb).bel.size
          clear hz hzs hb
          go_wp2_with (at_builtin; refine wpList_append_own _ rfl _ _ 116 rfl w0.heap.size 129 i0 _ 2 16 Tryz.underlying116 hi0 hz0 hz1 hz2 rfl (by decide) _ _ _ rfl (unhide HM2).own ⟨w1.heap.size + 1, 0, none⟩ 1 1 (qcells z) rfl rfl (nnews_at (by simp) _ _) (one_qcells _) (by unfold maxLen; omega) (by omega) (by simp; omega) ?_)
          intro v' w4 hown4 hgr4 _
          have hm4 := (unhide HM2).more hown4 hgr4
          obtain ⟨ao4, cp4, rfl⟩ := hm4.shape
          have HM4 := hide hm4
          clear hown4 hgr4 hm4
          go_wp2_with fail
          go_roundg (l.length - (i + 1))
          case measure => rw [unhide HK]; omega
          case rel => exact ⟨i + 1, ys ++ [z], ao4, cp4, rfl, by omega, rfl, rfl, ⟨unhide HNx, allS_one (unhide HE).2.1 (unhide HZ), by simp; omega⟩, unhide HM4⟩
        · have HNx := hide (show gather E l.length 0 = .error c by
            rw [show l.length = (i + 1) + (l.length - (i + 1)) by omega]
            refine gather_err E c (i + 1) _ 0 ?_
            rw [gather_snoc, (unhide HE).1, Nat.zero_add, hz])
          have hne' : (c != 0) = true := by rw [bne_iff_ne]; exact hne
          have HNe := hide hne
          have HB2 := hide ((unhide HB0).trans ((((unhide HM).below hb).bel.alloc ((unhide HM).below hb).bel.size (.cells #[.int .i64 p, .int .i64 q] 129)).mono (unhide HB0).size))
          clear hz hne hb
          go_wp2_with fail
          exact bodyPost_ret (v := .tuple #[.slice none 0 0, .int .i64 c]) (by simp [results, Tryz.results72, go_sem]) rfl ⟨none, 0, 0, c, rfl, unhide HB2, Or.inr ⟨unhide HNx, unhide HNe⟩⟩
      · have hlt' : ¬ (i : Int) < (l.length : Int) := by omega
        have HF := hide (show gather E l.length 0 = .ok ys by rw [← show i = l.length by omega]; exact (unhide HE).1)
        have HRl := hide (hm.rl (unhide HE).2.1 (by omega))
        have HB2 := hide ((unhide HB0).trans (hm.bel.mono (unhide HB0).size))
        clear hm
        go_wp2_with fail
        exact bodyPost_ret (v := .tuple #[.slice ao' ys.length cp, .int .i64 0]) (by simp [results, Tryz.results72, go_sem]) rfl ⟨ao', ys.length, cp, 0, rfl, unhide HB2, Or.inl ⟨ys, unhide HF, rfl, rfl, unhide HRl⟩⟩
def mE (z : Bool) (r : Except Int (List Rat)) : Except Int (List Rat) := if z = true then .error 2 else r
theorem zeroAhead_of : ∀ {l : List Rat} {i : Nat} (h : i < l.length), i + 1 < l.length → l[i] = 0 → zeroAhead l = true
  | [], _, h, _, _ => by simp at h
  | [_], i, _, h, _ => by simp at h
  | x :: y :: l, 0, _, _, h => by
    have : x = 0 := h
    simp [zeroAhead, this]
  | x :: y :: l, i + 1, h, h1, h2 => by
    have := zeroAhead_of (l := y :: l) (i := i) (by simpa using h) (by simpa using h1) h2
    simp [zeroAhead, this]
theorem zeroAhead_no : ∀ {l : List Rat}, (∀ j (h : j < l.length), j + 1 < l.length → l[j] ≠ 0) → zeroAhead l = false
  | [], _ => rfl
  | [_], _ => rfl
  | x :: y :: l, h => by
    have h0 : x ≠ 0 := h 0 (by simp) (by simp)
    have := zeroAhead_no (l := y :: l) (fun j hj h1 => h (j + 1) (by simpa using hj) (by simpa using h1))
    simp [zeroAhead, this, h0]
set_option maxRecDepth 100000 in
set_option maxHeartbeats 3200000 in
theorem work_m {P Q K : Int} {pa : Option Addr} {pn pc : Nat} {F G : ByteArray} {E : Nat → Except Int Rat} {l : List Rat} {ao : Option Addr} {cap : Nat} {w : World} (h : RL w ao cap l)
    (hitem : ∀ W i, i < l.length → RL W ao cap l → Calls Tryz.prog 109 #[.agg #[.int .u8 109, .int .i64 P, .int .i64 Q, .int .i64 K, .slice pa pn pc, .string F, .string G], .slice ao l.length cap, .int .i64 (i : Int)] W fun e w' => RQGot (E i) e ∧ Below W.heap.size W w') :
    Calls Tryz.prog 72 #[.agg #[.int .u8 109, .int .i64 P, .int .i64 Q, .int .i64 K, .slice pa pn pc, .string F, .string G], .slice ao l.length cap] w fun e w' => RWGot w (mE (zeroAhead l) (gather E l.length 0)) e w' := by
  obtain ⟨i0, hi0, hz0, hz1, hz2⟩ := info_parts Tryz.infoNum
  have hlen := h.len
  have HL := hide h
  have HIt := hide hitem
  have HB0 := hide (box_below w (.cells #[.int .u8 109, .int .i64 P, .int .i64 Q, .int .i64 K, .slice pa pn pc, .string F, .string G] 131))
  have HBx := hide (heap_alloc_new w (.cells #[.int .u8 109, .int .i64 P, .int .i64 Q, .int .i64 K, .slice pa pn pc, .string F, .string G] 131))
  have hdk : decide ((109 : UInt8) ∈ (⟨#[114, 60, 116, 100, 35]⟩ : ByteArray).data.toList) = false := by decide
  have HAm := hide (fun W => (among_any 109 ⟨#[114, 60, 116, 100, 35]⟩ W (by decide)).mono (fun e w' h => by rw [hdk] at h; exact h))
  clear h hitem hdk
  go_enter Tryz.func72, Tryz.ntmps72
  go_wp2_with fail
  refine (unhide HAm _).mono ?_
  rintro e w0 ⟨rfl, rfl⟩
  generalize w.alloc (.cells #[.int .u8 109, .int .i64 P, .int .i64 Q, .int .i64 K, .slice pa pn pc, .string F, .string G] 131) = w0 at HB0 HBx ⊢
  have c0 : ∀ jj, w0.cell? ⟨w.heap.size, jj, none⟩ = (#[.int .u8 109, .int .i64 P, .int .i64 Q, .int .i64 K, .slice pa pn pc, .string F, .string G] : Array Value)[jj]? := fun jj => blk_cell (unhide HBx) jj
  go_upto_block 2 with fail
  go_cut [11] from 45 to 62 (fun v11 wx => w0 = wx ∧ zeroAhead l = false)
  case first =>
    go_wp2_with fail
    go_loopg [11] l.length (fun kk v11 wr => ∃ i : Nat, kk = l.length - i ∧ i ≤ l.length ∧ v11 = .int .i64 (i : Int) ∧ (∀ j (h : j < l.length), j < i → l[j] ≠ 0) ∧ w0 = wr)
    case atStart => exact ⟨0, rfl, Nat.zero_le _, rfl, fun j _ h => by omega, rfl⟩
    case round =>
      obtain ⟨i, hk, hil, rfl, hno, rfl⟩ := hrel
      have HK := hide hk
      have HNo := hide hno
      clear hk hno
      by_cases hl1 : i + 1 < l.length
      · have hl1' : (i : Int) + 1 < (l.length : Int) := by omega
        have hl2' : (i : Int) < (l.length : Int) := by omega
        obtain ⟨g, rfl, hg, hcl⟩ := ((unhide HL).below (unhide HB0)).cell (by omega)
        obtain ⟨d0, d1⟩ := hcl i (by omega)
        clear hcl
        by_cases hz : l[i] = 0
        · have hz' : (l[i].num == 0) = true := by rw [hz]; rfl
          have HZ := hide (show zeroAhead l = true from zeroAhead_of (by omega) hl1 hz)
          generalize l[i] = x at d0 d1 hz hz'
          clear hz
          have HRr := hide (show mE (zeroAhead l) (gather E l.length 0) = .error 2 by rw [unhide HZ]; rfl)
          go_wp2_with fail
          exact bodyPost_ret (v := .tuple #[.slice none 0 0, .int .i64 2]) (by simp [results, Tryz.results72, go_sem]) rfl ⟨none, 0, 0, 2, rfl, unhide HB0, Or.inr ⟨unhide HRr, by decide⟩⟩
        · have hz' : (l[i].num == 0) = false := by rw [beq_eq_false_iff_ne]; exact fun e => hz (num_zero.1 e)
          have HNx := hide (show ∀ j (h : j < l.length), j < i + 1 → l[j] ≠ 0 from fun j h h1 => by
            rcases Nat.lt_or_ge j i with h2 | h2
            · exact unhide HNo j h h2
            · have e : j = i := by omega
              subst e
              exact hz)
          generalize l[i] = x at d0 d1 hz hz'
          clear hz
          go_wp2_with fail
          go_roundg (l.length - (i + 1))
          case measure => rw [unhide HK]; omega
          case rel => exact ⟨i + 1, rfl, by omega, rfl, unhide HNx, rfl⟩
      · have hl1' : ¬ (i : Int) + 1 < (l.length : Int) := by omega
        have HZ := hide (show zeroAhead l = false from zeroAhead_no (fun j h h1 => unhide HNo j h (by omega)))
        go_wp2_with fail
        go_meet
        case rel => exact ⟨rfl, unhide HZ⟩
  case rest =>
    obtain ⟨rfl, hza⟩ := hcut
    have HZa := hide (show mE (zeroAhead l) (gather E l.length 0) = gather E l.length 0 by rw [hza]; rfl)
    clear hza
    go_wp2_with fail
    go_loopg [6, 12] l.length (fun kk v6 v12 wr => ∃ (i : Nat) (ys : List Rat) (ao' : Option Addr) (cp : Nat), kk = l.length - i ∧ i ≤ l.length ∧ v12 = .int .i64 (i : Int) ∧ v6 = .slice ao' ys.length cp ∧ (gather E i 0 = .ok ys ∧ AllS ys ∧ ys.length ≤ i) ∧ RM w0 (.slice ao' ys.length cp) ys wr)
    case atStart => exact ⟨0, [], none, 0, rfl, Nat.zero_le _, rfl, rfl, ⟨rfl, fun _ h => by (cases h), by simp⟩, RM.start w0⟩
    case round =>
      obtain ⟨i, ys, ao', cp, hk, hi, rfl, rfl, he, hm⟩ := hrel
      have HK := hide hk
      have HE := hide he
      have HM := hide hm
      have hyl := he.2.2
      clear hk he
      by_cases hlt : i < l.length
      · have hlt' : (i : Int) < (l.length : Int) := by omega
        have cw : ∀ jj, wr.cell? ⟨w.heap.size, jj, none⟩ = (#[.int .u8 109, .int .i64 P, .int .i64 Q, .int .i64 K, .slice pa pn pc, .string F, .string G] : Array Value)[jj]? := fun jj => blk_cell ((hm.bel.block _ (lt_of_block (unhide HBx))).trans (unhide HBx)) jj
        have HRlw := hide (((unhide HL).below (unhide HB0)).below hm.bel)
        clear hm
        go_wp2_with fail
        refine (unhide HIt _ i hlt (unhide HRlw)).mono ?_
        rintro e w1 ⟨⟨p, q, c, rfl, hr⟩, hb⟩
        rcases hr with ⟨z, hz, hzs, rfl, rfl, rfl⟩ | ⟨hz, hne⟩
        · have HNx := hide (show gather E (i + 1) 0 = .ok (ys ++ [z]) by
            rw [gather_snoc, (unhide HE).1, Nat.zero_add, hz])
          have HZ := hide hzs
          have HM2 := hide ((((unhide HM).below hb).below ((Below.refl _ _).alloc (Nat.le_refl _) (.cells (qcells z).toArray 129))).below ((Below.refl _ _).alloc (Nat.le_refl _) (.cells (qcells z).toArray 129)))
          have hsz := ((unhide HM).below hb).bel.size
          clear hz hzs hb
          go_wp2_with (at_builtin; refine wpList_append_own _ rfl _ _ 116 rfl w0.heap.size 129 i0 _ 2 16 Tryz.underlying116 hi0 hz0 hz1 hz2 rfl (by decide) _ _ _ rfl (unhide HM2).own ⟨w1.heap.size + 1, 0, none⟩ 1 1 (qcells z) rfl rfl (nnews_at (by simp) _ _) (one_qcells _) (by unfold maxLen; omega) (by omega) (by simp; omega) ?_)
          intro v' w4 hown4 hgr4 _
          have hm4 := (unhide HM2).more hown4 hgr4
          obtain ⟨ao4, cp4, rfl⟩ := hm4.shape
          have HM4 := hide hm4
          clear hown4 hgr4 hm4
          go_wp2_with fail
          go_roundg (l.length - (i + 1))
          case measure => rw [unhide HK]; omega
          case rel => exact ⟨i + 1, ys ++ [z], ao4, cp4, rfl, by omega, rfl, rfl, ⟨unhide HNx, allS_one (unhide HE).2.1 (unhide HZ), by simp; omega⟩, unhide HM4⟩
        · have HNx := hide (show mE (zeroAhead l) (gather E l.length 0) = .error c by
            rw [unhide HZa]
            rw [show l.length = (i + 1) + (l.length - (i + 1)) by omega]
            refine gather_err E c (i + 1) _ 0 ?_
            rw [gather_snoc, (unhide HE).1, Nat.zero_add, hz])
          have hne' : (c != 0) = true := by rw [bne_iff_ne]; exact hne
          have HNe := hide hne
          have HB2 := hide ((unhide HB0).trans ((((unhide HM).below hb).bel.alloc ((unhide HM).below hb).bel.size (.cells #[.int .i64 p, .int .i64 q] 129)).mono (unhide HB0).size))
          clear hz hne hb
          go_wp2_with fail
          exact bodyPost_ret (v := .tuple #[.slice none 0 0, .int .i64 c]) (by simp [results, Tryz.results72, go_sem]) rfl ⟨none, 0, 0, c, rfl, unhide HB2, Or.inr ⟨unhide HNx, unhide HNe⟩⟩
      · have hlt' : ¬ (i : Int) < (l.length : Int) := by omega
        have HF := hide (show mE (zeroAhead l) (gather E l.length 0) = .ok ys by rw [unhide HZa, ← show i = l.length by omega]; exact (unhide HE).1)
        have HRl := hide (hm.rl (unhide HE).2.1 (by omega))
        have HB2 := hide ((unhide HB0).trans (hm.bel.mono (unhide HB0).size))
        clear hm
        go_wp2_with fail
        exact bodyPost_ret (v := .tuple #[.slice ao' ys.length cp, .int .i64 0]) (by simp [results, Tryz.results72, go_sem]) rfl ⟨ao', ys.length, cp, 0, rfl, unhide HB2, Or.inl ⟨ys, unhide HF, rfl, rfl, unhide HRl⟩⟩
end Go.Proofs.YtikiaijgcjjloaaGreatDoor

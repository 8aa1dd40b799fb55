import Derived.Test.YtikiaijgcjjloabGreatDoorPart39
import Derived.Test.YtikiaijgcjjloabGreatDoorPart40
import Derived.BigQuiet

/- The walk of unwindkeep.Unders. -/
namespace Go.Proofs.YtikiaijgcjjloabGreatDoor
open Go Go.RowKit M T Go.Lib

theorem ratText_nat (n : Nat) : ratText (rnat n) = itoa (n : Int) := ratText_int (n : Int)

set_option maxRecDepth 100000 in
set_option maxHeartbeats 1600000 in
theorem all_any (n : Nat) (hn : n ≤ 12) (w : World) (ht : Tab w) :
    Calls Tryz.prog 20 #[.int .i64 (n : Int)] w fun e w' => e = .returned (.string ⟨(listText (allPlaces n)).toArray⟩) ∧ Below w.heap.size w w' := by
  have HT := hide ht
  clear ht
  go_enter Tryz.func20, Tryz.ntmps20
  go_wp2_with fail
  go_loopg [3, 4] n (fun kk v3 v4 wr => ∃ (i : Nat) (L : List Rat), kk = n - i ∧ i ≤ n ∧ v4 = .int .i64 (i : Int) ∧ v3 = .string ⟨(listText L).toArray⟩ ∧ L = allPlaces i ∧ Below w.heap.size w wr)
  case atStart => exact ⟨0, [], rfl, Nat.zero_le _, rfl, rfl, rfl, Below.refl _ _⟩
  case round =>
    obtain ⟨i, L, hk, hi, rfl, rfl, hL, hbl⟩ := hrel
    have HK := hide hk
    have HL := hide hL
    have HB := hide hbl
    have hll : (listText L).length ≤ 300 := by
      have h1 := listText_len (l := L) (by rw [hL]; exact allPlaces_small (by omega))
      have h2 : L.length = i := by rw [hL, allPlaces_len]
      omega
    clear hk hL hbl
    by_cases hlt : i < n
    · have hlt' : (i : Int) < (n : Int) := by omega
      have hxl : (itoa (i : Int)).length ≤ 23 := by rw [← ratText_nat]; exact item_len (rnat_small (by omega))
      by_cases hz0 : i = 0
      · obtain rfl : L = [] := by rw [unhide HL, hz0]; rfl
        have hz0' : ¬ (0 : Int) < (i : Int) := by omega
        have HZ0 := hide hz0
        have HTx := hide (listText_first (rnat i))
        rw [ratText_nat] at HTx
        clear hz0
        go_wp2_with fail
        refine (itoa_any (i : Int) _ (by omega) (by omega) (tab_below (unhide HT) (unhide HB))).mono ?_
        rintro e w2 ⟨rfl, hb2⟩
        have HB2 := hide ((unhide HB).trans (hb2.mono (unhide HB).size))
        clear hb2
        go_wp2_with fail
        go_roundg (n - (i + 1))
        case measure => rw [unhide HK]; omega
        case rel => exact ⟨i + 1, [rnat i], rfl, by omega, rfl, by first | (rw [← unhide HTx]; rfl) | (rw [← unhide HTx]), by rw [unhide HZ0]; rfl, unhide HB2⟩
      · have hne : L ≠ [] := fun e => hz0 (by have h2 : L.length = i := by rw [unhide HL, allPlaces_len]
                                              rw [e] at h2; simpa using h2.symm)
        have hz0' : (0 : Int) < (i : Int) := by omega
        have HTx := hide (listText_add L (rnat i) hne)
        rw [ratText_nat] at HTx
        go_wp2_with fail
        refine (itoa_any (i : Int) _ (by omega) (by omega) (tab_below (unhide HT) (unhide HB))).mono ?_
        rintro e w2 ⟨rfl, hb2⟩
        have HB2 := hide ((unhide HB).trans (hb2.mono (unhide HB).size))
        clear hb2
        go_wp2_with fail
        go_roundg (n - (i + 1))
        case measure => rw [unhide HK]; omega
        case rel => exact ⟨i + 1, L ++ [rnat i], rfl, by omega, rfl, by first | (rw [← unhide HTx]) | rfl, by rw [unhide HL]; exact range_snoc i, unhide HB2⟩
    · have hlt' : ¬ (i : Int) < (n : Int) := by omega
      obtain rfl : i = n := by omega
      have HE := hide (show listText (allPlaces i) = listText L by rw [unhide HL])
      go_wp2_with fail
      go_ret
      exact ⟨by rw [unhide HE]; rfl, unhide HB⟩

/-- Two lists with the same items at all places but these. -/
structure KeptIs (A B : List Rat) (idx : List Nat) : Prop where
  few : A.length ≤ 12
  fewB : B.length = A.length
  fewI : idx.length ≤ 12
  smallA : AllS A
  smallB : AllS B
  bdI : ∀ i ∈ idx, i < 12
  same : ∀ i (h : i < A.length) (h' : i < B.length), i ∉ idx → A[i] = B[i]
theorem itoa_nat_inj {i j : Nat} (h : itoa (i : Int) = itoa (j : Int)) : i = j := by
  rw [← ratText_nat, ← ratText_nat] at h
  have h2 := listText_inj (l := [rnat i]) (l' := [rnat j]) (by rw [listText_one, listText_one, h])
  have h3 : rnat i = rnat j := by simpa using h2
  have := congrArg Rat.num h3
  rw [rnat_num, rnat_num] at this
  omega
/-- Which places have been seen. -/
def Seen (idx : List Nat) (i k : Nat) (b : Bool) : Prop := b = true ↔ i ∈ idx.take k

set_option maxRecDepth 100000 in
set_option maxHeartbeats 3200000 in
theorem kept_any {A B : List Rat} {idx : List Nat} (hk : KeptIs A B idx) (w : World) (ht : Tab w) :
    Calls Tryz.prog 21 #[.string ⟨(listText A).toArray⟩, .string ⟨(listText B).toArray⟩, .string ⟨(listText (idx.map rnat)).toArray⟩] w fun e w' => e = .returned (.bool true) ∧ Below w.heap.size w w' := by
  have hA := list_len (ls := listText A) ⟨hk.few, hk.smallA, rfl⟩
  have hB := list_len (ls := listText B) ⟨by rw [hk.fewB]; exact hk.few, hk.smallB, rfl⟩
  have hI := list_len (ls := listText (idx.map rnat)) ⟨by rw [List.length_map]; exact hk.fewI, fun x hx => by
    obtain ⟨i, hi, rfl⟩ := List.mem_map.1 hx
    exact rnat_small (by have := hk.bdI i hi; omega), rfl⟩
  have hAs : (⟨(listText A).toArray⟩ : ByteArray).size ≤ 1048576 := by rw [bytes_size]; omega
  have hBs : (⟨(listText B).toArray⟩ : ByteArray).size ≤ 1048576 := by rw [bytes_size]; omega
  have hIs : (⟨(listText (idx.map rnat)).toArray⟩ : ByteArray).size ≤ 1048576 := by rw [bytes_size]; omega
  have eA : partsOf (⟨(listText A).toArray⟩ : ByteArray).data.toList = A.map ratText := parts_list A
  have eB : partsOf (⟨(listText B).toArray⟩ : ByteArray).data.toList = B.map ratText := parts_list B
  have eI : partsOf (⟨(listText (idx.map rnat)).toArray⟩ : ByteArray).data.toList = (idx.map rnat).map ratText := parts_list _
  have HKp := hide hk
  have HT := hide ht
  have lA : (A.map ratText).length = A.length := List.length_map _
  have lB : (B.map ratText).length = A.length := by rw [List.length_map, hk.fewB]
  have lI : ((idx.map rnat).map ratText).length = idx.length := by rw [List.length_map, List.length_map]
  have hfew := hk.few
  have hfewI := hk.fewI
  have HLA := hide lA
  have HLB := hide lB
  have HLI := hide lI
  have HEA := hide eA
  have HEB := hide eB
  have HEI := hide eI
  clear hk ht hA hB hI eA eB eI lA lB lI
  generalize (⟨(listText A).toArray⟩ : ByteArray) = sA at hAs HEA ⊢
  generalize (⟨(listText B).toArray⟩ : ByteArray) = sB at hBs HEB ⊢
  generalize (⟨(listText (idx.map rnat)).toArray⟩ : ByteArray) = sI at hIs HEI ⊢
  go_enter Tryz.func21, Tryz.ntmps21
  go_wp2_with fail
  refine (split_all sA _ hAs).mono ?_
  rintro e w1 ⟨oa, ca, rfl, hsa, hb1⟩
  rw [unhide HEA] at hsa ⊢
  have HSa := hide hsa
  have HB1 := hide hb1
  rw [unhide HLA]
  clear hsa hb1
  go_wp2_with fail
  refine (split_all sB _ hBs).mono ?_
  rintro e w2 ⟨ob, cb, rfl, hsb, hb2⟩
  rw [unhide HEB] at hsb ⊢
  have HSa2 := hide ((unhide HSa).below hb2)
  have HSb := hide hsb
  have HB2 := hide ((unhide HB1).trans (hb2.mono (unhide HB1).size))
  rw [unhide HLB]
  clear hsb hb2
  go_wp2_with fail
  refine (split_all sI _ hIs).mono ?_
  rintro e w3 ⟨oi, ci, rfl, hsi, hb3⟩
  rw [unhide HEI] at hsi ⊢
  have HSa3 := hide ((unhide HSa2).below hb3)
  have HSb3 := hide ((unhide HSb).below hb3)
  have HSi := hide hsi
  have HB3 := hide ((unhide HB2).trans (hb3.mono (unhide HB2).size))
  rw [unhide HLI]
  clear hsi hb3
  go_wp2_with fail
  go_loopg [10] A.length (fun kk v10 wr => ∃ (i : Nat), kk = A.length - i ∧ i ≤ A.length ∧ v10 = .int .i64 (i : Int) ∧ Below w3.heap.size w3 wr)
  case atStart => exact ⟨0, rfl, Nat.zero_le _, rfl, Below.refl _ _⟩
  case round =>
    obtain ⟨i, hk, hi, rfl, hbl⟩ := hrel
    have HK := hide hk
    have HBl := hide hbl
    clear hk
    by_cases hlt : i < A.length
    · have hlt' : (i : Int) < (A.length : Int) := by omega
      clear hbl
      go_upto_block 2 with fail
      go_cut [11, 12] from 30 to 45 (fun v11 v12 wx => ∃ (b : Bool), v11 = .bool b ∧ (b = false → i ∉ idx) ∧ Below w3.heap.size w3 wx)
      case first =>
        go_wp2_with fail
        go_loopg [11, 12] idx.length (fun kk v11 v12 wq => ∃ (k : Nat) (b : Bool), kk = idx.length - k ∧ k ≤ idx.length ∧ v12 = .int .i64 (k : Int) ∧ v11 = .bool b ∧ Seen idx i k b ∧ Below w3.heap.size w3 wq)
        case atStart => exact ⟨0, false, rfl, Nat.zero_le _, rfl, rfl, by unfold Seen; simp, unhide HBl⟩
        case round =>
          obtain ⟨k, b, hkk, hkl, rfl, rfl, hsn, hbq⟩ := hrel
          have HKk := hide hkk
          have HSn := hide hsn
          have HBq := hide hbq
          clear hkk hsn
          by_cases hkl2 : k < idx.length
          · have hkl' : (k : Int) < (idx.length : Int) := by omega
            obtain ⟨gi, rfl, hgi, hcell⟩ := ((unhide HSi).below hbq).cell (by rw [unhide HLI]; omega)
            have c0 := hcell k (by rw [unhide HLI]; exact hkl2)
            rw [List.getElem_map, List.getElem_map, ratText_nat] at c0
            have HTk := hide (show idx.take (k + 1) = idx.take k ++ [idx[k]] from List.take_succ_eq_append_getElem hkl2)
            clear hcell hbq
            generalize idx[k] = q at c0 HTk
            cases b with
            | true =>
              have HNx := hide (show Seen idx i (k + 1) true by
                refine ⟨fun _ => ?_, fun _ => rfl⟩
                rw [unhide HTk]
                exact List.mem_append_left _ ((unhide HSn).1 rfl))
              go_upto_region 13 with fail
              go_quiet (fail)
              go_wp2_with fail
              go_roundg (idx.length - (k + 1))
              case measure => rw [unhide HKk]; omega
              case rel => exact ⟨k + 1, true, rfl, by omega, rfl, rfl, unhide HNx, below_dr (unhide HBq) _⟩
            | false =>
              have hno : i ∉ idx.take k := fun h => by
                have := (unhide HSn).2 h
                cases this
              have HNo := hide hno
              clear hno
              obtain ⟨bi, hbi⟩ : ∃ bi : ByteArray, bi = ⟨(itoa (i : Int)).toArray⟩ := ⟨_, rfl⟩
              have HIt := hide (fun (W : World) (h : Tab W) => itoa_any (i : Int) W (by omega) (by omega) h)
              rw [← hbi] at HIt
              have HTq := hide (tab_below (unhide HT) ((unhide HB3).trans ((Below.drew (unhide HBq)).mono (unhide HB3).size)))
              by_cases hqi : q = i
              · subst hqi
                rw [← hbi] at c0
                have HNx := hide (show Seen idx q (k + 1) true by
                  refine ⟨fun _ => ?_, fun _ => rfl⟩
                  rw [unhide HTk]
                  exact List.mem_append_right _ (List.mem_singleton.2 rfl))
                clear hbi
                go_upto_region 13 with fail
                go_region_held3 (fun w' => w'.cell? ⟨gi, k, none⟩ = some (.string bi)) (go_keep)
                  (first | (go_at_call 22; refine (unhide HIt _ (unhide HTq)).mono ?_; rintro e w' ⟨rfl, hb⟩; have e0 := (hb.cell (p := ⟨gi, k, none⟩) hgi).trans c0; have HBw := hide hb; clear hb))
                all_goals go_wp2_with fail
                all_goals go_roundg (idx.length - (k + 1))
                all_goals first
                  | (case measure => rw [unhide HKk]; omega)
                  | (case rel => exact ⟨k + 1, true, rfl, by omega, rfl, rfl, unhide HNx, (Below.drew (unhide HBq)).trans ((unhide HBw).mono (Below.drew (unhide HBq)).size)⟩)
              · have HNx := hide (show Seen idx i (k + 1) false by
                  refine ⟨fun h => (nomatch h), fun h => ?_⟩
                  rw [unhide HTk] at h
                  rcases List.mem_append.1 h with h | h
                  · exact (unhide HNo h).elim
                  · exact absurd (List.mem_singleton.1 h).symm hqi)
                obtain ⟨bq, hbq⟩ : ∃ bq : ByteArray, bq = ⟨(itoa (q : Int)).toArray⟩ := ⟨_, rfl⟩
                rw [← hbq] at c0
                have hne : ¬ bq = bi := by
                  rw [hbq, hbi]
                  intro e
                  have e2 := congrArg (fun z : ByteArray => z.data.toList) e
                  exact hqi (itoa_nat_inj e2)
                have hne2 : (bq.toList == bi.toList) = false := by
                  rw [beq_eq_false_iff_ne]
                  intro e
                  rw [ByteArray.toList_eq, ByteArray.toList_eq] at e
                  exact hne ((bytes_of e).trans (bytes_back bi))
                clear hbi hbq
                go_upto_region 13 with fail
                go_region_held3 (fun w' => w'.cell? ⟨gi, k, none⟩ = some (.string bq)) (go_keep)
                  (first | (go_at_call 22; refine (unhide HIt _ (unhide HTq)).mono ?_; rintro e w' ⟨rfl, hb⟩; have e0 := (hb.cell (p := ⟨gi, k, none⟩) hgi).trans c0; have HBw := hide hb; clear hb))
                all_goals go_wp2_with fail
                all_goals go_roundg (idx.length - (k + 1))
                all_goals first
                  | (case measure => rw [unhide HKk]; omega)
                  | (case rel => exact ⟨k + 1, false, rfl, by omega, rfl, rfl, unhide HNx, (Below.drew (unhide HBq)).trans ((unhide HBw).mono (Below.drew (unhide HBq)).size)⟩)
          · have hkl' : ¬ (k : Int) < (idx.length : Int) := by omega
            have HYes := hide (show b = false → i ∉ idx by
              intro h hm
              subst h
              have := (unhide HSn).2 (by rw [List.take_of_length_le (by omega)]; exact hm)
              cases this)
            clear hbq
            go_wp2_with fail
            go_meet
            case rel => exact ⟨b, rfl, unhide HYes, unhide HBq⟩
      case rest =>
        obtain ⟨b, rfl, hbi, hbx⟩ := hcut
        have HBi := hide hbi
        have HBx := hide hbx
        obtain ⟨ga, rfl, hga, hca⟩ := ((unhide HSa3).below hbx).cell (by rw [unhide HLA]; omega)
        obtain ⟨gb, rfl, hgb, hcb⟩ := ((unhide HSb3).below hbx).cell (by rw [unhide HLB]; omega)
        have hAi := hca i (by rw [unhide HLA]; exact hlt)
        have hBi := hcb i (by rw [unhide HLB]; exact hlt)
        rw [List.getElem_map] at hAi hBi
        clear hca hcb hbi hbx
        cases b with
        | true =>
          go_upto_region 14 with fail
          go_quiet (fail)
          go_wp2_with fail
          go_roundg (A.length - (i + 1))
          case measure => rw [unhide HK]; omega
          case rel => exact ⟨i + 1, rfl, by omega, rfl, below_dr (unhide HBx) _⟩
        | false =>
          have hsame := (unhide HKp).same i hlt (by rw [(unhide HKp).fewB]; exact hlt) (unhide HBi rfl)
          rw [hsame] at hAi
          clear hsame
          generalize (⟨(ratText (B[i]'(by rw [(unhide HKp).fewB]; exact hlt))).toArray⟩ : ByteArray) = tx at hAi hBi
          go_upto_region 14 with fail
          go_quiet (fail)
          go_wp2_with fail
          go_roundg (A.length - (i + 1))
          case measure => rw [unhide HK]; omega
          case rel => exact ⟨i + 1, rfl, by omega, rfl, below_dr (unhide HBx) _⟩
    · have hlt' : ¬ (i : Int) < (A.length : Int) := by omega
      clear hbl
      go_wp2_with fail
      go_ret
      exact ⟨rfl, (unhide HB3).trans ((unhide HBl).mono (unhide HB3).size)⟩

theorem under_text (s g : ByteArray) : ((⟨#[91]⟩ : ByteArray) ++ s ++ ⟨#[58]⟩ ++ g ++ ⟨#[93]⟩).data.toList = underText s.data.toList g.data.toList := by
  simp only [cat_list, underText]
  simp
theorem parts_len {ls : List UInt8} {L : List Rat} (h : IsList ls L) : (partsOf ls).length = L.length := by
  rw [← h.text, parts_list, List.length_map]

set_option maxRecDepth 100000 in
set_option maxHeartbeats 6400000 in
theorem underLaw_any {s g : ByteArray} {t u : Tm} {L : List Rat} {lt : List UInt8} {xb : Nat} {nm : Nat → Option Nat} {w : World} (gs : T.Good T.noEnv s.data.toList t) (gg : T.Good T.noEnv g.data.toList u) (hpk : t.picker = true) (hlen : s.data.toList.length + g.data.toList.length + 3 ≤ 120) (hL : IsList lt L) (hS : SesIs w xb nm T.noEnv) (ht : Tab w) :
    Calls Tryz.prog 10 #[.pointer (some ⟨xb, 0, none⟩), .string s, .string g, .string ⟨lt.toArray⟩] w fun e w' => e = .returned (.bool true) ∧ Below w.heap.size w w' := by
  have hss : s.size ≤ 120 := by rw [size_list]; omega
  have hgs : g.size ≤ 120 := by rw [size_list]; omega
  have hls := list_len hL
  have hlz : (⟨lt.toArray⟩ : ByteArray).size ≤ 9223372036854775807 := by rw [bytes_size]; omega
  have hlz2 : (⟨lt.toArray⟩ : ByteArray).size ≤ 1048576 := by rw [bytes_size]; omega
  have hL12 := hL.len
  have HGs := hide gs
  have HGg := hide gg
  have HPk := hide hpk
  have HLen := hide hlen
  have HL := hide hL
  have HS := hide hS
  have HT := hide ht
  have HU := hide (under_text s g)
  have HPl := hide (show (partsOf (⟨lt.toArray⟩ : ByteArray).data.toList).length = L.length from parts_len hL)
  clear gs gg hpk hlen hL hS ht
  go_enter Tryz.func10, Tryz.ntmps10
  go_wp2_with fail
  refine (apply_any _ ⟨lt.toArray⟩ 5000 _ (unhide HS) (unhide HT) hlz).mono ?_
  rintro e w1 ⟨r, n, e0, rfl, ha, hb1⟩
  rw [unhide HU] at ha
  have hrl := apply_len ha
  have hnn := apply_n ha
  have HA := hide ha
  have HS1 := hide ((unhide HS).below hb1)
  have HB1 := hide hb1
  clear ha hb1
  obtain ⟨R, hR⟩ : ∃ R : ByteArray, R = ⟨r.toArray⟩ := ⟨_, rfl⟩
  rw [← hR]
  have HR := hide hR
  clear hR
  go_upto_region 2 with fail
  go_cut [12] (fun v12 wx => ∃ F : Bool, v12 = .bool F ∧ (r = [] → n = 0 → F = true) ∧ w1 = wx)
  case first =>
    by_cases hr : r = []
    · have hq := empty_yes (s := R) (by rw [unhide HR]; exact hr)
      by_cases hn0 : n = 0
      · have hn0' : (n == 0) = true := by rw [beq_iff_eq]; exact hn0
        clear hr hn0
        go_wp2_with fail
        go_meet
        case rel => exact ⟨true, rfl, fun _ _ => rfl, rfl⟩
      · have hn0' : (n == 0) = false := by rw [beq_eq_false_iff_ne]; exact hn0
        have HN0 := hide hn0
        clear hr hn0
        go_wp2_with fail
        go_meet
        case rel => exact ⟨false, rfl, fun _ h => absurd h (unhide HN0), rfl⟩
    · have hq := empty_no (s := R) (by rw [unhide HR]; exact hr)
      have HRn := hide hr
      clear hr
      go_wp2_with fail
      go_meet
      case rel => exact ⟨false, rfl, fun h => absurd h (unhide HRn), rfl⟩
  case rest =>
    obtain ⟨F, rfl, hF, rfl⟩ := hcut
    have HF := hide hF
    clear hF
    go_wp2_with fail
    refine (split_all ⟨lt.toArray⟩ _ hlz2).mono ?_
    rintro e w2 ⟨oa, ca, rfl, _, hb2⟩
    have HS2 := hide ((unhide HS1).below hb2)
    have HB2 := hide ((unhide HB1).trans (hb2.mono (unhide HB1).size))
    rw [unhide HPl]
    clear hb2
    go_wp2_with fail
    refine (all_any L.length hL12 _ (tab_below (unhide HT) (unhide HB2))).mono ?_
    rintro e w3 ⟨rfl, hb3⟩
    have HS3 := hide ((unhide HS2).below hb3)
    have HB3 := hide ((unhide HB2).trans (hb3.mono (unhide HB2).size))
    have hal := list_len (allPlaces_list hL12)
    have haz : (⟨(listText (allPlaces L.length)).toArray⟩ : ByteArray).size ≤ 9223372036854775807 := by rw [bytes_size]; omega
    clear hb3
    go_wp2_with fail
    refine (apply_any s _ 4999 _ (unhide HS3) (tab_below (unhide HT) (unhide HB3)) haz).mono ?_
    rintro e w4 ⟨at_, n1, e1, rfl, h1, hb4⟩
    obtain ⟨z1, z2⟩ := k_unders (unhide HGs) (unhide HGg) (unhide HPk) (unhide HLen) (unhide HL) (unhide HA) h1
    have HS4 := hide ((unhide HS3).below hb4)
    have HB4 := hide ((unhide HB3).trans (hb4.mono (unhide HB3).size))
    clear h1 hb4
    by_cases he1 : e1 = 0
    · subst he1
      obtain ⟨hn10, hn11, idx, hnd, hlt, hat, y1, y2⟩ := z2 rfl
      have HY1 := hide (fun (a : List UInt8) (b c : Int) (h : ApplySays T.noEnv s.data.toList lt 4999 a b c) => y1 h)
      have HY2 := hide (fun (a : List UInt8) (b c : Int) (h : ApplySays T.noEnv g.data.toList (listText (picked idx L)) (4999 - n1) a b c) => y2 h)
      have HNd := hide hnd
      have HLt := hide hlt
      have HAt := hide (show at_ = listText (idx.map rnat) by rw [hat, picked_rnat idx _ hlt])
      clear z1 z2 y1 y2 hnd hlt hat
      go_wp2_with fail
      refine (apply_any s ⟨lt.toArray⟩ 4999 _ (unhide HS4) (tab_below (unhide HT) (unhide HB4)) hlz).mono ?_
      rintro e w5 ⟨some_, n2, e2, rfl, h2, hb5⟩
      obtain ⟨rfl, rfl, hsm⟩ := unhide HY1 _ _ _ h2
      have HSm := hide hsm
      have hidl : idx.length ≤ 12 := by
        obtain ⟨t', l, l', f', hg', hl, _, _, hr, he, _⟩ := h2.ok rfl
        have hl' := (run_list hg'.term.wf hl hr).len
        have e2 : l' = picked idx L := listText_inj (he.symm.trans hsm)
        rw [e2, picked_length] at hl'
        exact hl'
      have HS5 := hide ((unhide HS4).below hb5)
      have HB5 := hide ((unhide HB4).trans (hb5.mono (unhide HB4).size))
      have hsl := apply_len h2
      have hsz5 : (⟨some_.toArray⟩ : ByteArray).size ≤ 9223372036854775807 := by rw [bytes_size]; omega
      have hsz6 : (⟨some_.toArray⟩ : ByteArray).size ≤ 1048576 := by rw [bytes_size]; omega
      clear h2 hb5 hsm
      go_wp2_with fail
      refine (apply_any g ⟨some_.toArray⟩ (4999 - n2) _ (unhide HS5) (tab_below (unhide HT) (unhide HB5)) hsz5).mono ?_
      rintro e w6 ⟨made, n3, e3, rfl, h3, hb6⟩
      have hml := apply_len h3
      have hn3 := apply_n h3
      have hmz : (⟨made.toArray⟩ : ByteArray).size ≤ 1048576 := by rw [bytes_size]; omega
      obtain ⟨x1, x2⟩ := unhide HY2 _ _ _ (by have := h3; rw [← unhide HSm]; exact this)
      have HS6 := hide ((unhide HS5).below hb6)
      have HB6 := hide ((unhide HB5).trans (hb6.mono (unhide HB5).size))
      have HMadeL := hide (show e3 = 0 → ∃ ys : List Rat, made = listText ys ∧ IsList made ys from fun he => by
        obtain ⟨t', l, l', f', hg', hl, _, _, hr, rfl, _⟩ := h3.ok he
        exact ⟨l', rfl, run_list hg'.term.wf hl hr⟩)
      clear h3 hb6
      by_cases he3 : e3 = 0
      · subst he3
        obtain ⟨ys, hys, v1, v2⟩ := x2 rfl
        obtain ⟨ys', hys', hyl⟩ := unhide HMadeL rfl
        obtain rfl : ys = ys' := listText_inj (hys.symm.trans hys')
        have HPm := hide (show (partsOf (⟨made.toArray⟩ : ByteArray).data.toList).length = ys.length from parts_len hyl)
        have HPs := hide (show (partsOf (⟨some_.toArray⟩ : ByteArray).data.toList).length = idx.length by
          show (partsOf some_).length = _
          rw [unhide HSm, parts_list, List.length_map, picked_length])
        have HYl := hide hyl
        have hy12 := hyl.len
        clear x1 x2 hys hys' hyl
        go_wp2_with fail
        refine (split_all ⟨made.toArray⟩ _ hmz).mono ?_
        rintro e w7 ⟨o7, c7, rfl, _, hb7⟩
        have HS7 := hide ((unhide HS6).below hb7)
        have HB7 := hide ((unhide HB6).trans (hb7.mono (unhide HB6).size))
        rw [unhide HPm]
        clear hb7
        go_wp2_with fail
        refine (split_all ⟨some_.toArray⟩ _ hsz6).mono ?_
        rintro e w8 ⟨o8, c8, rfl, _, hb8⟩
        have HS8 := hide ((unhide HS7).below hb8)
        have HB8 := hide ((unhide HB7).trans (hb8.mono (unhide HB7).size))
        rw [unhide HPs]
        clear hb8
        by_cases hyi : ys.length = idx.length
        · obtain ⟨rfl, rfl, hr, v3⟩ := v2 hyi
          have hyi' : ((ys.length : Int) != (idx.length : Int)) = false := by rw [hyi]; simp
          have HV3 := hide (fun (a : List UInt8) (b c : Int) (h : ApplySays T.noEnv s.data.toList r 5000 a b c) => v3 h)
          have HRr := hide hr
          have HKt := hide (show KeptIs L (layAt idx ys L) idx from ⟨hL12, layAt_length _ _ _, hidl, (unhide HL).small, layS (unhide HL).small (unhide HYl).small, fun i hi => by have := unhide HLt i hi; omega, fun i h h' hni => by
            have := layAt_other idx ys L i h hni
            rw [List.getD_eq_getElem?_getD, List.getD_eq_getElem?_getD, List.getElem?_eq_getElem h, List.getElem?_eq_getElem h'] at this
            exact this.symm⟩)
          have hRz : R.size ≤ 9223372036854775807 := by rw [unhide HR, bytes_size]; omega
          clear v1 v2 v3 hr hyi
          go_wp2_with fail
          refine (apply_any s R 5000 _ (unhide HS8) (tab_below (unhide HT) (unhide HB8)) hRz).mono ?_
          rintro e w9 ⟨ag, n4, e4, rfl, h4, hb9⟩
          obtain ⟨rfl, rfl⟩ := unhide HV3 _ _ _ (by have := h4; rw [unhide HR] at this; exact this)
          have HB9 := hide ((unhide HB8).trans (hb9.mono (unhide HB8).size))
          clear h4 hb9
          have HKc := hide (kept_any (unhide HKt))
          rw [← unhide HRr, ← unhide HR, ← unhide HAt, (unhide HL).text] at HKc
          go_wp2_with fail
          refine (unhide HKc _ (tab_below (unhide HT) (unhide HB9))).mono ?_
          rintro e w10 ⟨rfl, hb10⟩
          have HB10 := hide ((unhide HB9).trans (hb10.mono (unhide HB9).size))
          clear hb10
          go_wp2_with fail
          go_ret
          exact ⟨rfl, unhide HB10⟩
        · obtain ⟨rfl, rfl, rfl⟩ := v1 hyi
          have hFt := unhide HF rfl rfl
          subst hFt
          have hyi' : ((ys.length : Int) != (idx.length : Int)) = true := by rw [bne_iff_ne]; omega
          clear v1 v2
          go_wp2_with fail
          go_ret
          exact ⟨rfl, unhide HB8⟩
      · obtain ⟨rfl, rfl, rfl⟩ := x1 he3
        have hFt := unhide HF rfl rfl
        subst hFt
        have he3' : (e0 != 0) = true := by rw [bne_iff_ne]; exact he3
        clear x1 x2
        go_wp2_with fail
        go_ret
        exact ⟨rfl, unhide HB6⟩
    · obtain ⟨rfl, rfl, rfl⟩ := z1 he1
      have hFt := unhide HF rfl rfl
      subst hFt
      have he1' : (e0 != 0) = true := by rw [bne_iff_ne]; exact he1
      clear z1 z2
      go_wp2_with fail
      go_ret
      exact ⟨rfl, unhide HB4⟩

set_option maxRecDepth 100000 in
set_option maxHeartbeats 3200000 in
theorem unders_walk {w : World} (s g : ByteArray) {ra : Option Addr} {rn rc : Nat} {raw : Nat → Int} (hr : RawIs w ra rn raw) (hn : rn ≤ 140737488355328) (ht : Tab w) :
    Calls Tryz.prog 3 #[.string s, .string g, .slice ra rn rc] w fun e w' => e = .returned (.bool true) ∧ Below w.heap.size w w' := by
  have HR := hide hr
  have HT := hide ht
  clear hr ht
  go_enter Tryz.func3, Tryz.ntmps3
  go_wp2_with fail
  refine (ready_any _ (unhide HT)).mono ?_
  rintro e w1 ⟨xb, rfl, hses, hb1⟩
  have HS := hide hses
  have HB1 := hide hb1
  clear hses hb1
  go_wp2_with fail
  refine (facts_any s _ (unhide HS)).mono ?_
  rintro e w2 ⟨n1, c1, rfl, hfa, hb2⟩
  have HFa := hide hfa
  have HS2 := hide ((unhide HS).below hb2)
  have HB2 := hide ((unhide HB1).trans (hb2.mono (unhide HB1).size))
  clear hfa hb2
  go_wp2_with fail
  refine (facts_any g _ (unhide HS2)).mono ?_
  rintro e w3 ⟨n2, c2, rfl, hfb, hb3⟩
  have HFb := hide hfb
  have HS3 := hide ((unhide HS2).below hb3)
  have HB3 := hide ((unhide HB2).trans (hb3.mono (unhide HB2).size))
  clear hfb hb3
  by_cases hc1 : c1 = 0
  · subst hc1
    by_cases hc2 : c2 = 0
    · subst hc2
      have hl1 : s.size ≤ 120 := by rw [size_list]; exact facts_len (unhide HFa)
      have hl2 : g.size ≤ 120 := by rw [size_list]; exact facts_len (unhide HFb)
      obtain ⟨t, gt, hn1⟩ := (unhide HFa).good
      obtain ⟨u, gu, _⟩ := (unhide HFb).good
      have HGt := hide gt
      have HGu := hide gu
      clear gt gu
      have hpk : (t.picker = false → n1 = 0 ∨ n1 = 1 ∨ n1 = 4 ∨ n1 = 5) ∧ (t.picker = true → n1 = 2 ∨ n1 = 3 ∨ n1 = 6 ∨ n1 = 7) := by
        rw [hn1]
        unfold factsNum
        cases t.back <;> cases t.picker <;> cases t.plain <;> simp
      clear hn1
      cases hp : t.picker with
      | false =>
        have h4 := hpk.1 hp
        clear hpk hp
        rcases h4 with rfl | rfl | rfl | rfl
        all_goals go_wp2_with fail
        all_goals go_ret
        all_goals exact ⟨rfl, unhide HB3⟩
      | true =>
        have h4 := hpk.2 hp
        have HP := hide hp
        clear hpk hp
        by_cases hlong : 120 < s.size + g.size + 3
        · have hlong' : (120 : Int) < (s.size : Int) + (g.size : Int) + 3 := by omega
          rcases h4 with rfl | rfl | rfl | rfl
          all_goals go_wp2_with fail
          all_goals go_ret
          all_goals exact ⟨rfl, unhide HB3⟩
        · have hlong' : ¬ (120 : Int) < (s.size : Int) + (g.size : Int) + 3 := by omega
          have HLen := hide (show s.data.toList.length + g.data.toList.length + 3 ≤ 120 by rw [← size_list, ← size_list]; omega)
          rcases h4 with rfl | rfl | rfl | rfl
          all_goals
            go_wp2_with fail
            refine (listed_any ((unhide HR).below (unhide HB3)) hn (tab_below (unhide HT) (unhide HB3))).mono ?_
            rintro e w4 ⟨L, hL, rfl, hb4⟩
            have HL := hide hL
            have HS4 := hide ((unhide HS3).below hb4)
            have HB4 := hide ((unhide HB3).trans (hb4.mono (unhide HB3).size))
            clear hL hb4
            go_wp2_with fail
            refine (underLaw_any (unhide HGt) (unhide HGu) (unhide HP) (unhide HLen) (unhide HL) (unhide HS4) (tab_below (unhide HT) (unhide HB4))).mono ?_
            rintro e w5 ⟨rfl, hb5⟩
            have HB5 := hide ((unhide HB4).trans (hb5.mono (unhide HB4).size))
            clear hb5
            go_wp2_with fail
            go_ret
            exact ⟨rfl, unhide HB5⟩
    · have hc' : (c2 != 0) = true := by rw [bne_iff_ne]; exact hc2
      go_wp2_with fail
      go_ret
      exact ⟨rfl, unhide HB3⟩
  · have hc' : (c1 != 0) = true := by rw [bne_iff_ne]; exact hc1
    go_wp2_with fail
    go_ret
    exact ⟨rfl, unhide HB3⟩
end Go.Proofs.YtikiaijgcjjloabGreatDoor

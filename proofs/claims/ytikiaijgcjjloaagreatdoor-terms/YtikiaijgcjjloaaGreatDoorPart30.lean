import Derived.Test.YtikiaijgcjjloaaGreatDoorPart29
import Derived.Deep.DeepCutAuto

/- The walks: the document's own answer: the part at a place, by its first letter. -/
namespace Go.Proofs.YtikiaijgcjjloaaGreatDoor
open Go Go.RowKit M T Go.Lib

set_option maxRecDepth 100000 in
set_option maxHeartbeats 3200000 in
theorem cut_61 {m : Nat} (hP : RPS m) (s : ByteArray) (a : Nat) (w : World) (ha : a < s.size) (hc : s[a] = 61) (_hm : s.size ≤ m + 1) (hs : s.size ≤ 1000) :
    Calls Tryz.prog 136 #[.string s, .int .i64 (a : Int)] w fun e w' => CutGot s a e w' ∧ Below w.heap.size w w' := by
  have HP := hide hP
  have HRE := hide (rest_lt ha)
  have ha1 : a + 1 ≤ s.size := by omega
  have HSA := hide hc
  rw [hc] at HRE
  clear hP
  go_enter Tryz.func136, Tryz.ntmps136
  go_wp2_with fail
  refine (among_any 61 l38 _ (by decide)).mono ?_
  rintro e w' ⟨rfl, rfl⟩
  rw [show decide ((61 : UInt8) ∈ l38.data.toList) = false from by decide]
  go_wp2_with fail
  rw [show ((a : Int) + 1) = ((a + 1 : Nat) : Int) by omega]
  refine (span_c s (a + 1) _ ha1 (by omega)).mono ?_
  rintro e w' ⟨c2, rfl, hc2e, rfl⟩
  have hc2l : c2 ≤ s.size := by rw [hc2e]; exact nf_le ha1
  have hc2g : a + 1 ≤ c2 := by omega
  have HC2 := hide hc2e
  clear hc2e
  go_wp2_with fail
  have hez := ext_size s (a + 1) c2
  refine (rRead_one (s.extract (a + 1) c2) _ (by unfold maxLen; omega)).mono ?_
  rintro e w1 ⟨t, b, ok, rfl, hsay, hb1⟩
  obtain ⟨b0, b1, b2, hbel⟩ := three hb1
  have hc0 : ∀ i, w1.cell? ⟨w.heap.size, i, none⟩ = (#[.int .u8 0, .int .i64 0, .int .i64 0, .int .i64 0, .slice none 0 0, .string ⟨#[]⟩, .string ⟨#[]⟩] : Array Value)[i]? := fun i => blk_cell b0 i
  have hf0 : ∀ i, w1.frozen? ⟨w.heap.size, i, none⟩ = false := fun i => blk_free b0 i
  have hc1 : ∀ i, w1.cell? ⟨w.heap.size + 1, i, none⟩ = (#[.int .u8 61, .int .i64 0, .int .i64 0, .int .i64 0, .slice none 0 0, .string ⟨#[]⟩, .string ⟨#[]⟩] : Array Value)[i]? := fun i => blk_cell b1 i
  have hf1 : ∀ i, w1.frozen? ⟨w.heap.size + 1, i, none⟩ = false := fun i => blk_free b1 i
  have hc2 : ∀ i, w1.cell? ⟨w.heap.size + 2, i, none⟩ = (#[.int .i64 0, .int .i64 0] : Array Value)[i]? := fun i => blk_cell b2 i
  have hf2 : ∀ i, w1.frozen? ⟨w.heap.size + 2, i, none⟩ = false := fun i => blk_free b2 i
  have HBel := hide hbel
  have HS := hide hsay
  clear b0 b1 b2 hbel hsay hb1 hez
  cases ok with
  | false =>
    go_wp2_with fail
    exact bodyPost_ret (v := .tuple #[RC.value ⟨61, t, b, 0, none, 0, 0, ⟨#[]⟩, ⟨#[]⟩⟩, .int .i64 (c2 : Int), .bool false]) (by simp [results, Tryz.results136, go_sem, hc0, RC.value, RC.cells]) rfl ⟨⟨⟨61, t, b, 0, none, 0, 0, ⟨#[]⟩, ⟨#[]⟩⟩, _, false, rfl, Or.inr ⟨rfl, by rw [unhide HRE]; exact valR_no (by decide) (unhide HC2) (unhide HS)⟩⟩, st7_below (Below.setCell (p := ⟨w.heap.size + 1, 2, none⟩) (Below.setCell (p := ⟨w.heap.size + 1, 1, none⟩) (Below.setCell (p := ⟨w.heap.size + 2, 1, none⟩) (Below.setCell (p := ⟨w.heap.size + 2, 0, none⟩) (unhide HBel) (Nat.le_add_right _ 2) _) (Nat.le_add_right _ 2) _) (Nat.le_succ _) _) (Nat.le_succ _) _) (Nat.le_refl _) _ _ _ _ _ _ _⟩
  | true =>
    go_wp2_with fail
    exact bodyPost_ret (v := .tuple #[RC.value ⟨61, t, b, 0, none, 0, 0, ⟨#[]⟩, ⟨#[]⟩⟩, .int .i64 (c2 : Int), .bool true]) (by simp [results, Tryz.results136, go_sem, hc0, RC.value, RC.cells]) rfl ⟨⟨⟨61, t, b, 0, none, 0, 0, ⟨#[]⟩, ⟨#[]⟩⟩, _, true, rfl, Or.inl ⟨rfl, by rw [unhide HRE]; exact valR_yes (by decide) (unhide HC2) ha1 (unhide HS)⟩⟩, st7_below (Below.setCell (p := ⟨w.heap.size + 1, 2, none⟩) (Below.setCell (p := ⟨w.heap.size + 1, 1, none⟩) (Below.setCell (p := ⟨w.heap.size + 2, 1, none⟩) (Below.setCell (p := ⟨w.heap.size + 2, 0, none⟩) (unhide HBel) (Nat.le_add_right _ 2) _) (Nat.le_add_right _ 2) _) (Nat.le_succ _) _) (Nat.le_succ _) _) (Nat.le_refl _) _ _ _ _ _ _ _⟩
end Go.Proofs.YtikiaijgcjjloaaGreatDoor

/- The walks: the document's own answer: the part at a place, by its first letter. -/
namespace Go.Proofs.YtikiaijgcjjloaaGreatDoor
open Go Go.RowKit M T Go.Lib

set_option maxRecDepth 100000 in
set_option maxHeartbeats 3200000 in
theorem cut_60 {m : Nat} (hP : RPS m) (s : ByteArray) (a : Nat) (w : World) (ha : a < s.size) (hc : s[a] = 60) (_hm : s.size ≤ m + 1) (hs : s.size ≤ 1000) :
    Calls Tryz.prog 136 #[.string s, .int .i64 (a : Int)] w fun e w' => CutGot s a e w' ∧ Below w.heap.size w w' := by
  have HP := hide hP
  have HRE := hide (rest_lt ha)
  have ha1 : a + 1 ≤ s.size := by omega
  have HSA := hide hc
  rw [hc] at HRE
  clear hP
  go_enter Tryz.func136, Tryz.ntmps136
  go_wp2_with fail
  refine (among_any 60 l38 _ (by decide)).mono ?_
  rintro e w' ⟨rfl, rfl⟩
  rw [show decide ((60 : UInt8) ∈ l38.data.toList) = false from by decide]
  go_wp2_with fail
  rw [show ((a : Int) + 1) = ((a + 1 : Nat) : Int) by omega]
  refine (whole_c s (a + 1) (-99) 99 _ ha1 (by omega) (by decide) (by decide)).mono ?_
  rintro e w1 ⟨k, ok, c2, rfl, hle, hc2l, hwh, hb1⟩
  obtain ⟨b0, b1, b2, hbel⟩ := three hb1
  have hc0 : ∀ i, w1.cell? ⟨w.heap.size, i, none⟩ = (#[.int .u8 0, .int .i64 0, .int .i64 0, .int .i64 0, .slice none 0 0, .string ⟨#[]⟩, .string ⟨#[]⟩] : Array Value)[i]? := fun i => blk_cell b0 i
  have hf0 : ∀ i, w1.frozen? ⟨w.heap.size, i, none⟩ = false := fun i => blk_free b0 i
  have hc1 : ∀ i, w1.cell? ⟨w.heap.size + 1, i, none⟩ = (#[.int .u8 60, .int .i64 0, .int .i64 0, .int .i64 0, .slice none 0 0, .string ⟨#[]⟩, .string ⟨#[]⟩] : Array Value)[i]? := fun i => blk_cell b1 i
  have hf1 : ∀ i, w1.frozen? ⟨w.heap.size + 1, i, none⟩ = false := fun i => blk_free b1 i
  have HBel := hide hbel
  have HFn := hide (fun wf => cntR (w := wf) (c := 60) (by decide) hc2l hwh)
  clear b0 b1 b2 hbel hwh hb1
  go_wp2_with fail
  exact bodyPost_ret (v := .tuple #[RC.value ⟨60, 0, 0, k, none, 0, 0, ⟨#[]⟩, ⟨#[]⟩⟩, .int .i64 (c2 : Int), .bool ok]) (by simp [results, Tryz.results136, go_sem, hc0, RC.value, RC.cells]) rfl ⟨⟨⟨60, 0, 0, k, none, 0, 0, ⟨#[]⟩, ⟨#[]⟩⟩, _, ok, rfl, by rw [unhide HRE]; exact unhide HFn _⟩, st7_below (Below.setCell (p := ⟨w.heap.size + 1, 3, none⟩) (unhide HBel) (Nat.le_succ _) _) (Nat.le_refl _) _ _ _ _ _ _ _⟩
end Go.Proofs.YtikiaijgcjjloaaGreatDoor

/- The walks: the document's own answer: the part at a place, by its first letter. -/
namespace Go.Proofs.YtikiaijgcjjloaaGreatDoor
open Go Go.RowKit M T Go.Lib

set_option maxRecDepth 100000 in
set_option maxHeartbeats 3200000 in
theorem cut_116 {m : Nat} (hP : RPS m) (s : ByteArray) (a : Nat) (w : World) (ha : a < s.size) (hc : s[a] = 116) (_hm : s.size ≤ m + 1) (hs : s.size ≤ 1000) :
    Calls Tryz.prog 136 #[.string s, .int .i64 (a : Int)] w fun e w' => CutGot s a e w' ∧ Below w.heap.size w w' := by
  have HP := hide hP
  have HRE := hide (rest_lt ha)
  have ha1 : a + 1 ≤ s.size := by omega
  have HSA := hide hc
  rw [hc] at HRE
  clear hP
  go_enter Tryz.func136, Tryz.ntmps136
  go_wp2_with fail
  refine (among_any 116 l38 _ (by decide)).mono ?_
  rintro e w' ⟨rfl, rfl⟩
  rw [show decide ((116 : UInt8) ∈ l38.data.toList) = false from by decide]
  go_wp2_with fail
  rw [show ((a : Int) + 1) = ((a + 1 : Nat) : Int) by omega]
  refine (whole_c s (a + 1) 0 12 _ ha1 (by omega) (by decide) (by decide)).mono ?_
  rintro e w1 ⟨k, ok, c2, rfl, hle, hc2l, hwh, hb1⟩
  obtain ⟨b0, b1, b2, hbel⟩ := three hb1
  have hc0 : ∀ i, w1.cell? ⟨w.heap.size, i, none⟩ = (#[.int .u8 0, .int .i64 0, .int .i64 0, .int .i64 0, .slice none 0 0, .string ⟨#[]⟩, .string ⟨#[]⟩] : Array Value)[i]? := fun i => blk_cell b0 i
  have hf0 : ∀ i, w1.frozen? ⟨w.heap.size, i, none⟩ = false := fun i => blk_free b0 i
  have hc1 : ∀ i, w1.cell? ⟨w.heap.size + 1, i, none⟩ = (#[.int .u8 116, .int .i64 0, .int .i64 0, .int .i64 0, .slice none 0 0, .string ⟨#[]⟩, .string ⟨#[]⟩] : Array Value)[i]? := fun i => blk_cell b1 i
  have hf1 : ∀ i, w1.frozen? ⟨w.heap.size + 1, i, none⟩ = false := fun i => blk_free b1 i
  have HBel := hide hbel
  have HFn := hide (fun wf => cntR (w := wf) (c := 116) (by decide) hc2l hwh)
  clear b0 b1 b2 hbel hwh hb1
  go_wp2_with fail
  exact bodyPost_ret (v := .tuple #[RC.value ⟨116, 0, 0, k, none, 0, 0, ⟨#[]⟩, ⟨#[]⟩⟩, .int .i64 (c2 : Int), .bool ok]) (by simp [results, Tryz.results136, go_sem, hc0, RC.value, RC.cells]) rfl ⟨⟨⟨116, 0, 0, k, none, 0, 0, ⟨#[]⟩, ⟨#[]⟩⟩, _, ok, rfl, by rw [unhide HRE]; exact unhide HFn _⟩, st7_below (Below.setCell (p := ⟨w.heap.size + 1, 3, none⟩) (unhide HBel) (Nat.le_succ _) _) (Nat.le_refl _) _ _ _ _ _ _ _⟩
end Go.Proofs.YtikiaijgcjjloaaGreatDoor

/- The walks: the document's own answer: the part at a place, by its first letter. -/
namespace Go.Proofs.YtikiaijgcjjloaaGreatDoor
open Go Go.RowKit M T Go.Lib

set_option maxRecDepth 100000 in
set_option maxHeartbeats 3200000 in
theorem cut_100 {m : Nat} (hP : RPS m) (s : ByteArray) (a : Nat) (w : World) (ha : a < s.size) (hc : s[a] = 100) (_hm : s.size ≤ m + 1) (hs : s.size ≤ 1000) :
    Calls Tryz.prog 136 #[.string s, .int .i64 (a : Int)] w fun e w' => CutGot s a e w' ∧ Below w.heap.size w w' := by
  have HP := hide hP
  have HRE := hide (rest_lt ha)
  have ha1 : a + 1 ≤ s.size := by omega
  have HSA := hide hc
  rw [hc] at HRE
  clear hP
  go_enter Tryz.func136, Tryz.ntmps136
  go_wp2_with fail
  refine (among_any 100 l38 _ (by decide)).mono ?_
  rintro e w' ⟨rfl, rfl⟩
  rw [show decide ((100 : UInt8) ∈ l38.data.toList) = false from by decide]
  go_wp2_with fail
  rw [show ((a : Int) + 1) = ((a + 1 : Nat) : Int) by omega]
  refine (whole_c s (a + 1) 0 12 _ ha1 (by omega) (by decide) (by decide)).mono ?_
  rintro e w1 ⟨k, ok, c2, rfl, hle, hc2l, hwh, hb1⟩
  obtain ⟨b0, b1, b2, hbel⟩ := three hb1
  have hc0 : ∀ i, w1.cell? ⟨w.heap.size, i, none⟩ = (#[.int .u8 0, .int .i64 0, .int .i64 0, .int .i64 0, .slice none 0 0, .string ⟨#[]⟩, .string ⟨#[]⟩] : Array Value)[i]? := fun i => blk_cell b0 i
  have hf0 : ∀ i, w1.frozen? ⟨w.heap.size, i, none⟩ = false := fun i => blk_free b0 i
  have hc1 : ∀ i, w1.cell? ⟨w.heap.size + 1, i, none⟩ = (#[.int .u8 100, .int .i64 0, .int .i64 0, .int .i64 0, .slice none 0 0, .string ⟨#[]⟩, .string ⟨#[]⟩] : Array Value)[i]? := fun i => blk_cell b1 i
  have hf1 : ∀ i, w1.frozen? ⟨w.heap.size + 1, i, none⟩ = false := fun i => blk_free b1 i
  have HBel := hide hbel
  have HFn := hide (fun wf => cntR (w := wf) (c := 100) (by decide) hc2l hwh)
  clear b0 b1 b2 hbel hwh hb1
  go_wp2_with fail
  exact bodyPost_ret (v := .tuple #[RC.value ⟨100, 0, 0, k, none, 0, 0, ⟨#[]⟩, ⟨#[]⟩⟩, .int .i64 (c2 : Int), .bool ok]) (by simp [results, Tryz.results136, go_sem, hc0, RC.value, RC.cells]) rfl ⟨⟨⟨100, 0, 0, k, none, 0, 0, ⟨#[]⟩, ⟨#[]⟩⟩, _, ok, rfl, by rw [unhide HRE]; exact unhide HFn _⟩, st7_below (Below.setCell (p := ⟨w.heap.size + 1, 3, none⟩) (unhide HBel) (Nat.le_succ _) _) (Nat.le_refl _) _ _ _ _ _ _ _⟩
end Go.Proofs.YtikiaijgcjjloaaGreatDoor

/- The walks: the document's own answer: the part at a place, by its first letter. -/
namespace Go.Proofs.YtikiaijgcjjloaaGreatDoor
open Go Go.RowKit M T Go.Lib

set_option maxRecDepth 100000 in
set_option maxHeartbeats 3200000 in
theorem cut_35 {m : Nat} (hP : RPS m) (s : ByteArray) (a : Nat) (w : World) (ha : a < s.size) (hc : s[a] = 35) (_hm : s.size ≤ m + 1) (hs : s.size ≤ 1000) :
    Calls Tryz.prog 136 #[.string s, .int .i64 (a : Int)] w fun e w' => CutGot s a e w' ∧ Below w.heap.size w w' := by
  have HP := hide hP
  have HRE := hide (rest_lt ha)
  have ha1 : a + 1 ≤ s.size := by omega
  have HSA := hide hc
  rw [hc] at HRE
  clear hP
  go_enter Tryz.func136, Tryz.ntmps136
  go_wp2_with fail
  refine (among_any 35 l38 _ (by decide)).mono ?_
  rintro e w' ⟨rfl, rfl⟩
  rw [show decide ((35 : UInt8) ∈ l38.data.toList) = false from by decide]
  go_upto_block 0 with fail
  go_cut [9, 10, 11] from 26 to 98 (fun v9 v10 _ wx => Laid s a w v9 v10 wx)
  case first =>
    go_wp2_with fail
    rw [show ((a : Int) + 1) = ((a + 1 : Nat) : Int) by omega]
    refine (places_any s (a + 1) _ ha1 hs).mono ?_
    rintro e w1 ⟨⟨ps, c2, ao, cap, hc2l, hpl, hown, rfl⟩ | ⟨hpl, x, bz, rfl⟩, hb1⟩
    · rw [show RC.value ⟨35, 0, 0, 0, ao, ps.length, cap, ⟨#[]⟩, ⟨#[]⟩⟩ = .agg #[.int .u8 35, .int .i64 0, .int .i64 0, .int .i64 0, .slice ao ps.length cap, .string ⟨#[]⟩, .string ⟨#[]⟩] from rfl]
      have hpb := PB.behind hb1
      obtain ⟨_, _, hc1, hf1⟩ := hpb.f
      have hcy : ∀ i, w1.cell? ⟨w.heap.size + 1, i, none⟩ = (#[.int .u8 35, .int .i64 0, .int .i64 0, .int .i64 0, .slice none 0 0, .string ⟨#[]⟩, .string ⟨#[]⟩] : Array Value)[i]? := hc1
      have HPB := hide hpb
      have HL := hide (Laid.of (s := s) (a := a) (Kd := 35) (P := 0) (Q := 0) (K := 0) (pa := ao) (pn := ps.length) (pc := cap) (F := ⟨#[]⟩) (G := ⟨#[]⟩) (bz := (c2 : Int)) (ok := true) hpb (Or.inl ⟨rfl, .sp (.pick ps), c2, rfl, hc2l, by rw [unhide HRE]; exact rdP_pick E0 hpl, ⟨rfl, hown⟩⟩))
      clear hpb hown hpl hb1 hc1
      go_wp2_with fail
      go_meet
      exact unhide HL
    · obtain ⟨Kd, P, Q, K, pa, pn, pc, F, G⟩ := x
      rw [(show RC.value ⟨Kd, P, Q, K, pa, pn, pc, F, G⟩ = .agg #[.int .u8 (Kd.toNat : Int), .int .i64 P, .int .i64 Q, .int .i64 K, .slice pa pn pc, .string F, .string G] from rfl)]
      have hpb := PB.behind hb1
      obtain ⟨_, _, hc1, hf1⟩ := hpb.f
      have hcy : ∀ i, w1.cell? ⟨w.heap.size + 1, i, none⟩ = (#[.int .u8 35, .int .i64 0, .int .i64 0, .int .i64 0, .slice none 0 0, .string ⟨#[]⟩, .string ⟨#[]⟩] : Array Value)[i]? := hc1
      have HPB := hide hpb
      have HL := hide (Laid.of (s := s) (a := a) (Kd := Kd) (P := P) (Q := Q) (K := K) (pa := pa) (pn := pn) (pc := pc) (F := F) (G := G) (bz := bz) (ok := false) hpb (Or.inr ⟨rfl, by rw [unhide HRE]; exact rdP_pick E0 hpl⟩))
      clear hpb hpl hb1 hc1
      go_wp2_with fail
      go_meet
      exact unhide HL
  case rest =>
    obtain ⟨⟨Kd, P, Q, K, pa, pn, pc, F, G⟩, bz, ok, rfl, rfl, hpb, hcase⟩ := hcut
    have hpb' : PB w rz #[.int .u8 (Kd.toNat : Int), .int .i64 P, .int .i64 Q, .int .i64 K, .slice pa pn pc, .string F, .string G] wc := hpb
    obtain ⟨hc0, hf0, hc1, hf1⟩ := hpb'.f
    have hcz : ∀ i, wc.cell? ⟨w.heap.size, i, none⟩ = (#[.int .u8 0, .int .i64 0, .int .i64 0, .int .i64 0, .slice none 0 0, .string ⟨#[]⟩, .string ⟨#[]⟩] : Array Value)[i]? := hc0
    have HPB := hide hpb
    have HCs := hide hcase
    clear hpb hpb' hcase hc0
    go_wp2_with fail
    refine bodyPost_ret (v := .tuple #[RC.value ⟨Kd, P, Q, K, pa, pn, pc, F, G⟩, .int .i64 bz, .bool ok]) (by simp [results, Tryz.results136, go_sem, hcz, RC.value, RC.cells]) rfl ⟨⟨⟨Kd, P, Q, K, pa, pn, pc, F, G⟩, _, ok, rfl, ?_⟩, st7_below (unhide HPB).bel (Nat.le_refl _) _ _ _ _ _ _ _⟩
    rcases unhide HCs with ⟨h1, p, c', h2, h3, h4, h5⟩ | h
    · exact Or.inl ⟨h1, p, c', h2, h3, h4, h5.laid0 (unhide HPB).b0 _ _ _ _ _ _ _⟩
    · exact Or.inr h
end Go.Proofs.YtikiaijgcjjloaaGreatDoor

/- The walks: the document's own answer: the part at a place, by its first letter. -/
namespace Go.Proofs.YtikiaijgcjjloaaGreatDoor
open Go Go.RowKit M T Go.Lib

set_option maxRecDepth 100000 in
set_option maxHeartbeats 3200000 in
theorem cut_40 {m : Nat} (hP : RPS m) (s : ByteArray) (a : Nat) (w : World) (ha : a < s.size) (hc : s[a] = 40) (hm : s.size ≤ m + 1) (hs : s.size ≤ 1000) :
    Calls Tryz.prog 136 #[.string s, .int .i64 (a : Int)] w fun e w' => CutGot s a e w' ∧ Below w.heap.size w w' := by
  have HP := hide hP
  have HRE := hide (rest_lt ha)
  have ha1 : a + 1 ≤ s.size := by omega
  have HSA := hide hc
  rw [hc] at HRE
  clear hP
  go_enter Tryz.func136, Tryz.ntmps136
  go_wp2_with fail
  refine (among_any 40 l38 _ (by decide)).mono ?_
  rintro e w' ⟨rfl, rfl⟩
  rw [show decide ((40 : UInt8) ∈ l38.data.toList) = false from by decide]
  go_upto_block 0 with fail
  go_cut [9, 10, 11] from 26 to 98 (fun v9 v10 _ wx => Laid s a w v9 v10 wx)
  case first =>
    go_wp2_with fail
    refine (power_r (unhide HP) s a _ ha (unhide HSA) hm hs).mono ?_
    rintro e w1 ⟨⟨⟨Kd, P, Q, K, pa, pn, pc, F, G⟩, bz, ok, rfl, hcase⟩, hb1⟩
    rw [(show RC.value ⟨Kd, P, Q, K, pa, pn, pc, F, G⟩ = .agg #[.int .u8 (Kd.toNat : Int), .int .i64 P, .int .i64 Q, .int .i64 K, .slice pa pn pc, .string F, .string G] from rfl)]
    have hpb := PB.behind hb1
    obtain ⟨_, _, hc1, hf1⟩ := hpb.f
    have hcy : ∀ i, w1.cell? ⟨w.heap.size + 1, i, none⟩ = (#[.int .u8 40, .int .i64 0, .int .i64 0, .int .i64 0, .slice none 0 0, .string ⟨#[]⟩, .string ⟨#[]⟩] : Array Value)[i]? := hc1
    have HPB := hide hpb
    have HL := hide (Laid.of hpb hcase)
    clear hpb hcase hb1 hc1
    go_wp2_with fail
    go_meet
    exact unhide HL
  case rest =>
    obtain ⟨⟨Kd, P, Q, K, pa, pn, pc, F, G⟩, bz, ok, rfl, rfl, hpb, hcase⟩ := hcut
    have hpb' : PB w rz #[.int .u8 (Kd.toNat : Int), .int .i64 P, .int .i64 Q, .int .i64 K, .slice pa pn pc, .string F, .string G] wc := hpb
    obtain ⟨hc0, hf0, hc1, hf1⟩ := hpb'.f
    have hcz : ∀ i, wc.cell? ⟨w.heap.size, i, none⟩ = (#[.int .u8 0, .int .i64 0, .int .i64 0, .int .i64 0, .slice none 0 0, .string ⟨#[]⟩, .string ⟨#[]⟩] : Array Value)[i]? := hc0
    have HPB := hide hpb
    have HCs := hide hcase
    clear hpb hpb' hcase hc0
    go_wp2_with fail
    refine bodyPost_ret (v := .tuple #[RC.value ⟨Kd, P, Q, K, pa, pn, pc, F, G⟩, .int .i64 bz, .bool ok]) (by simp [results, Tryz.results136, go_sem, hcz, RC.value, RC.cells]) rfl ⟨⟨⟨Kd, P, Q, K, pa, pn, pc, F, G⟩, _, ok, rfl, ?_⟩, st7_below (unhide HPB).bel (Nat.le_refl _) _ _ _ _ _ _ _⟩
    rcases unhide HCs with ⟨h1, p, c', h2, h3, h4, h5⟩ | h
    · exact Or.inl ⟨h1, p, c', h2, h3, h4, h5.laid0 (unhide HPB).b0 _ _ _ _ _ _ _⟩
    · exact Or.inr h
end Go.Proofs.YtikiaijgcjjloaaGreatDoor

/- The walks: the document's own answer: the part at a place, by its first letter. -/
namespace Go.Proofs.YtikiaijgcjjloaaGreatDoor
open Go Go.RowKit M T Go.Lib

set_option maxRecDepth 100000 in
set_option maxHeartbeats 3200000 in
theorem cut_91 {m : Nat} (hP : RPS m) (s : ByteArray) (a : Nat) (w : World) (ha : a < s.size) (hc : s[a] = 91) (hm : s.size ≤ m + 1) (hs : s.size ≤ 1000) :
    Calls Tryz.prog 136 #[.string s, .int .i64 (a : Int)] w fun e w' => CutGot s a e w' ∧ Below w.heap.size w w' := by
  have HP := hide hP
  have HRE := hide (rest_lt ha)
  have ha1 : a + 1 ≤ s.size := by omega
  have HSA := hide hc
  rw [hc] at HRE
  clear hP
  go_enter Tryz.func136, Tryz.ntmps136
  go_wp2_with fail
  refine (among_any 91 l38 _ (by decide)).mono ?_
  rintro e w' ⟨rfl, rfl⟩
  rw [show decide ((91 : UInt8) ∈ l38.data.toList) = false from by decide]
  go_upto_block 0 with fail
  go_cut [9, 10, 11] from 26 to 98 (fun v9 v10 _ wx => Laid s a w v9 v10 wx)
  case first =>
    go_wp2_with fail
    refine (under_r (unhide HP) s a _ ha (unhide HSA) hm hs).mono ?_
    rintro e w1 ⟨⟨⟨Kd, P, Q, K, pa, pn, pc, F, G⟩, bz, ok, rfl, hcase⟩, hb1⟩
    rw [(show RC.value ⟨Kd, P, Q, K, pa, pn, pc, F, G⟩ = .agg #[.int .u8 (Kd.toNat : Int), .int .i64 P, .int .i64 Q, .int .i64 K, .slice pa pn pc, .string F, .string G] from rfl)]
    have hpb := PB.behind hb1
    obtain ⟨_, _, hc1, hf1⟩ := hpb.f
    have hcy : ∀ i, w1.cell? ⟨w.heap.size + 1, i, none⟩ = (#[.int .u8 91, .int .i64 0, .int .i64 0, .int .i64 0, .slice none 0 0, .string ⟨#[]⟩, .string ⟨#[]⟩] : Array Value)[i]? := hc1
    have HPB := hide hpb
    have HL := hide (Laid.of hpb hcase)
    clear hpb hcase hb1 hc1
    go_wp2_with fail
    go_meet
    exact unhide HL
  case rest =>
    obtain ⟨⟨Kd, P, Q, K, pa, pn, pc, F, G⟩, bz, ok, rfl, rfl, hpb, hcase⟩ := hcut
    have hpb' : PB w rz #[.int .u8 (Kd.toNat : Int), .int .i64 P, .int .i64 Q, .int .i64 K, .slice pa pn pc, .string F, .string G] wc := hpb
    obtain ⟨hc0, hf0, hc1, hf1⟩ := hpb'.f
    have hcz : ∀ i, wc.cell? ⟨w.heap.size, i, none⟩ = (#[.int .u8 0, .int .i64 0, .int .i64 0, .int .i64 0, .slice none 0 0, .string ⟨#[]⟩, .string ⟨#[]⟩] : Array Value)[i]? := hc0
    have HPB := hide hpb
    have HCs := hide hcase
    clear hpb hpb' hcase hc0
    go_wp2_with fail
    refine bodyPost_ret (v := .tuple #[RC.value ⟨Kd, P, Q, K, pa, pn, pc, F, G⟩, .int .i64 bz, .bool ok]) (by simp [results, Tryz.results136, go_sem, hcz, RC.value, RC.cells]) rfl ⟨⟨⟨Kd, P, Q, K, pa, pn, pc, F, G⟩, _, ok, rfl, ?_⟩, st7_below (unhide HPB).bel (Nat.le_refl _) _ _ _ _ _ _ _⟩
    rcases unhide HCs with ⟨h1, p, c', h2, h3, h4, h5⟩ | h
    · exact Or.inl ⟨h1, p, c', h2, h3, h4, h5.laid0 (unhide HPB).b0 _ _ _ _ _ _ _⟩
    · exact Or.inr h
end Go.Proofs.YtikiaijgcjjloaaGreatDoor

/- The walks: the document's own answer: the part at a place, by its first letter. -/
namespace Go.Proofs.YtikiaijgcjjloaaGreatDoor
open Go Go.RowKit M T Go.Lib

set_option maxRecDepth 100000 in
set_option maxHeartbeats 3200000 in
theorem cut_let {m : Nat} (hP : RPS m) (s : ByteArray) (a : Nat) (w : World) (ha : a < s.size) {c : UInt8} (hc : s[a] = c) (hmem : c ∈ l38.data.toList) (_hm : s.size ≤ m + 1) (hs : s.size ≤ 1000) :
    Calls Tryz.prog 136 #[.string s, .int .i64 (a : Int)] w fun e w' => CutGot s a e w' ∧ Below w.heap.size w w' := by
  have HP := hide hP
  have HRE := hide (rest_lt ha)
  have ha1 : a + 1 ≤ s.size := by omega
  have HSA := hide hc
  rw [hc] at HRE
  clear hP
  go_enter Tryz.func136, Tryz.ntmps136
  go_wp2_with fail
  refine (among_any c l38 _ (by decide)).mono ?_
  rintro e w' ⟨rfl, rfl⟩
  have hmd : decide (c ∈ l38.data.toList) = true := by simpa using hmem
  have HM := hide hmem
  clear hmem
  rw [hmd]
  go_wp2_with fail
  obtain ⟨p, hp1, hp2⟩ := cut_letter (unhide HM) (rest s (a + 1))
  exact bodyPost_ret (v := .tuple #[RC.value ⟨c, 0, 0, 0, none, 0, 0, ⟨#[]⟩, ⟨#[]⟩⟩, .int .i64 ((a + 1 : Nat) : Int), .bool true]) (by simp [results, Tryz.results136, go_sem, RC.value, RC.cells]) rfl ⟨⟨⟨c, 0, 0, 0, none, 0, 0, ⟨#[]⟩, ⟨#[]⟩⟩, _, true, rfl, Or.inl ⟨rfl, p, a + 1, rfl, ha1, by rw [unhide HRE]; exact hp1, hp2 _⟩⟩, (by repeat (first | exact Below.refl _ _ | refine below_dr ?_ _ | refine Below.drew ?_ | refine Below.setCell ?_ (by simp) _ | refine Below.alloc ?_ (by simp) _))⟩
end Go.Proofs.YtikiaijgcjjloaaGreatDoor

/- The walks: the document's own answer: the part at a place, by its first letter. -/
namespace Go.Proofs.YtikiaijgcjjloaaGreatDoor
open Go Go.RowKit M T Go.Lib

set_option maxRecDepth 100000 in
set_option maxHeartbeats 3200000 in
theorem cut_oth {m : Nat} (hP : RPS m) (s : ByteArray) (a : Nat) (w : World) (ha : a < s.size) {c : UInt8} (hc : s[a] = c) (hmem : c ∉ l38.data.toList) (h43 : c ≠ 43) (h42 : c ≠ 42) (h61 : c ≠ 61) (h60 : c ≠ 60) (h116 : c ≠ 116) (h100 : c ≠ 100) (h35 : c ≠ 35) (h40 : c ≠ 40) (h91 : c ≠ 91) (_hm : s.size ≤ m + 1) (hs : s.size ≤ 1000) :
    Calls Tryz.prog 136 #[.string s, .int .i64 (a : Int)] w fun e w' => CutGot s a e w' ∧ Below w.heap.size w w' := by
  have HP := hide hP
  have HRE := hide (rest_lt ha)
  have ha1 : a + 1 ≤ s.size := by omega
  have HSA := hide hc
  rw [hc] at HRE
  clear hP
  go_enter Tryz.func136, Tryz.ntmps136
  go_wp2_with fail
  refine (among_any c l38 _ (by decide)).mono ?_
  rintro e w' ⟨rfl, rfl⟩
  have hmd : decide (c ∈ l38.data.toList) = false := by simpa using hmem
  rw [hmd]
  have e43 : ((c.toNat : Int) == 43) = false := u8_ne' (d := 43) h43
  have e42 : ((c.toNat : Int) == 42) = false := u8_ne' (d := 42) h42
  have e61 : ((c.toNat : Int) == 61) = false := u8_ne' (d := 61) h61
  have e60 : ((c.toNat : Int) == 60) = false := u8_ne' (d := 60) h60
  have e116 : ((c.toNat : Int) == 116) = false := u8_ne' (d := 116) h116
  have e100 : ((c.toNat : Int) == 100) = false := u8_ne' (d := 100) h100
  have e35 : ((c.toNat : Int) == 35) = false := u8_ne' (d := 35) h35
  have e40 : ((c.toNat : Int) == 40) = false := u8_ne' (d := 40) h40
  have e91 : ((c.toNat : Int) == 91) = false := u8_ne' (d := 91) h91
  have HNo := hide (rdP_other E0 (not38 hmem).1 ⟨h43, h42, h61, h60, h116, h100, h35, h40, h91⟩ (not38 hmem).2 (rest s (a + 1)))
  clear hmem hmd h43 h42 h61 h60 h116 h100 h35 h40 h91
  go_wp2_with fail
  exact bodyPost_ret (v := .tuple #[RC.value ⟨c, 0, 0, 0, none, 0, 0, ⟨#[]⟩, ⟨#[]⟩⟩, .int .i64 ((a + 1 : Nat) : Int), .bool false]) (by simp [results, Tryz.results136, go_sem, RC.value, RC.cells]) rfl ⟨⟨⟨c, 0, 0, 0, none, 0, 0, ⟨#[]⟩, ⟨#[]⟩⟩, _, false, rfl, Or.inr ⟨rfl, by rw [unhide HRE]; exact unhide HNo⟩⟩, (by repeat (first | exact Below.refl _ _ | refine Below.setCell ?_ (by simp) _ | refine Below.alloc ?_ (by simp <;> omega) _))⟩
end Go.Proofs.YtikiaijgcjjloaaGreatDoor

/- The walks: the document's own answer: the part at a place, by its first letter. -/
namespace Go.Proofs.YtikiaijgcjjloaaGreatDoor
open Go Go.RowKit M T Go.Lib

theorem cut_r {m : Nat} (hP : RPS m) (s : ByteArray) (a : Nat) (w : World) (ha : a < s.size) (hm : s.size ≤ m + 1) (hs : s.size ≤ 1000) :
    Calls Tryz.prog 136 #[.string s, .int .i64 (a : Int)] w fun e w' => CutGot s a e w' ∧ Below w.heap.size w w' := by
  by_cases hmem : s[a] ∈ l38.data.toList
  · exact cut_let hP s a w ha rfl hmem hm hs
  by_cases h43 : s[a] = 43
  · exact cut_43 hP s a w ha h43 hm hs
  by_cases h42 : s[a] = 42
  · exact cut_42 hP s a w ha h42 hm hs
  by_cases h61 : s[a] = 61
  · exact cut_61 hP s a w ha h61 hm hs
  by_cases h60 : s[a] = 60
  · exact cut_60 hP s a w ha h60 hm hs
  by_cases h116 : s[a] = 116
  · exact cut_116 hP s a w ha h116 hm hs
  by_cases h100 : s[a] = 100
  · exact cut_100 hP s a w ha h100 hm hs
  by_cases h35 : s[a] = 35
  · exact cut_35 hP s a w ha h35 hm hs
  by_cases h40 : s[a] = 40
  · exact cut_40 hP s a w ha h40 hm hs
  by_cases h91 : s[a] = 91
  · exact cut_91 hP s a w ha h91 hm hs
  exact cut_oth hP s a w ha rfl hmem h43 h42 h61 h60 h116 h100 h35 h40 h91 hm hs
end Go.Proofs.YtikiaijgcjjloaaGreatDoor

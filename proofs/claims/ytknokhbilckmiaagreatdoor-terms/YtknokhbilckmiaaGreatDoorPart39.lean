import Derived.Test.YtknokhbilckmiaaGreatDoorPart38
import Derived.Deep.DeepCutAuto

/- The walks: the document's own answer: the part at a place, by its first letter. -/
namespace Go.Proofs.YtknokhbilckmiaaGreatDoor
open Go Go.RowKit M T Go.Lib

set_option maxRecDepth 100000 in
set_option maxHeartbeats 3200000 in
theorem cut_43 {m : Nat} (hP : RPS m) (s : ByteArray) (a : Nat) (w : World) (ha : a < s.size) (hc : s[a] = 43) (_hm : s.size ≤ m + 1) (hs : s.size ≤ 1000) :
    Calls Tryz.prog 129 #[.string s, .int .i64 (a : Int)] w fun e w' => CutGot s a e w' ∧ Below w.heap.size w w' := by
  have HP := hide hP
  have HRE := hide (rest_lt ha)
  have ha1 : a + 1 ≤ s.size := by omega
  have HSA := hide hc
  rw [hc] at HRE
  clear hP
  go_enter Tryz.func129, Tryz.ntmps129
  go_wp2_with fail
  refine (among_any 43 l38 _ (by decide)).mono ?_
  rintro e w' ⟨rfl, rfl⟩
  rw [show decide ((43 : UInt8) ∈ l38.data.toList) = false from by decide]
  go_wp2_with fail
  rw [show ((a : Int) + 1) = ((a + 1 : Nat) : Int) by omega]
  refine (span_c s (a + 1) _ ha1 (by omega)).mono ?_
  rintro e w' ⟨c2, rfl, hc2e, rfl⟩
  have hc2l : c2 ≤ s.size := by rw [hc2e]; exact nf_le ha1
  have hc2g : a + 1 ≤ c2 := by omega
  have HC2 := hide hc2e
  clear hc2e
  go_wp2_with fail
  have hez := ext_size s (a + 1) c2
  refine (rRead_one (s.extract (a + 1) c2) _ (by unfold maxLen; omega)).mono ?_
  rintro e w1 ⟨t, b, ok, rfl, hsay, hb1⟩
  obtain ⟨b0, b1, b2, hbel⟩ := three hb1
  have hc0 : ∀ i, w1.cell? ⟨w.heap.size, i, none⟩ = (#[.int .u8 0, .int .i64 0, .int .i64 0, .int .i64 0, .slice none 0 0, .string ⟨#[]⟩, .string ⟨#[]⟩] : Array Value)[i]? := fun i => blk_cell b0 i
  have hf0 : ∀ i, w1.frozen? ⟨w.heap.size, i, none⟩ = false := fun i => blk_free b0 i
  have hc1 : ∀ i, w1.cell? ⟨w.heap.size + 1, i, none⟩ = (#[.int .u8 43, .int .i64 0, .int .i64 0, .int .i64 0, .slice none 0 0, .string ⟨#[]⟩, .string ⟨#[]⟩] : Array Value)[i]? := fun i => blk_cell b1 i
  have hf1 : ∀ i, w1.frozen? ⟨w.heap.size + 1, i, none⟩ = false := fun i => blk_free b1 i
  have hc2 : ∀ i, w1.cell? ⟨w.heap.size + 2, i, none⟩ = (#[.int .i64 0, .int .i64 0] : Array Value)[i]? := fun i => blk_cell b2 i
  have hf2 : ∀ i, w1.frozen? ⟨w.heap.size + 2, i, none⟩ = false := fun i => blk_free b2 i
  have HBel := hide hbel
  have HS := hide hsay
  clear b0 b1 b2 hbel hsay hb1 hez
  cases ok with
  | false =>
    go_wp2_with fail
    exact bodyPost_ret (v := .tuple #[RC.value ⟨43, t, b, 0, none, 0, 0, ⟨#[]⟩, ⟨#[]⟩⟩, .int .i64 (c2 : Int), .bool false]) (by simp [results, Tryz.results129, go_sem, hc0, RC.value, RC.cells]) rfl ⟨⟨⟨43, t, b, 0, none, 0, 0, ⟨#[]⟩, ⟨#[]⟩⟩, _, false, rfl, Or.inr ⟨rfl, by rw [unhide HRE]; exact valR_no (by decide) (unhide HC2) (unhide HS)⟩⟩, st7_below (Below.setCell (p := ⟨w.heap.size + 1, 2, none⟩) (Below.setCell (p := ⟨w.heap.size + 1, 1, none⟩) (Below.setCell (p := ⟨w.heap.size + 2, 1, none⟩) (Below.setCell (p := ⟨w.heap.size + 2, 0, none⟩) (unhide HBel) (Nat.le_add_right _ 2) _) (Nat.le_add_right _ 2) _) (Nat.le_succ _) _) (Nat.le_succ _) _) (Nat.le_refl _) _ _ _ _ _ _ _⟩
  | true =>
    go_wp2_with fail
    exact bodyPost_ret (v := .tuple #[RC.value ⟨43, t, b, 0, none, 0, 0, ⟨#[]⟩, ⟨#[]⟩⟩, .int .i64 (c2 : Int), .bool true]) (by simp [results, Tryz.results129, go_sem, hc0, RC.value, RC.cells]) rfl ⟨⟨⟨43, t, b, 0, none, 0, 0, ⟨#[]⟩, ⟨#[]⟩⟩, _, true, rfl, Or.inl ⟨rfl, by rw [unhide HRE]; exact valR_yes (by decide) (unhide HC2) ha1 (unhide HS)⟩⟩, st7_below (Below.setCell (p := ⟨w.heap.size + 1, 2, none⟩) (Below.setCell (p := ⟨w.heap.size + 1, 1, none⟩) (Below.setCell (p := ⟨w.heap.size + 2, 1, none⟩) (Below.setCell (p := ⟨w.heap.size + 2, 0, none⟩) (unhide HBel) (Nat.le_add_right _ 2) _) (Nat.le_add_right _ 2) _) (Nat.le_succ _) _) (Nat.le_succ _) _) (Nat.le_refl _) _ _ _ _ _ _ _⟩
end Go.Proofs.YtknokhbilckmiaaGreatDoor

/- The walks: the document's own answer: the part at a place, by its first letter. -/
namespace Go.Proofs.YtknokhbilckmiaaGreatDoor
open Go Go.RowKit M T Go.Lib

set_option maxRecDepth 100000 in
set_option maxHeartbeats 3200000 in
theorem cut_42 {m : Nat} (hP : RPS m) (s : ByteArray) (a : Nat) (w : World) (ha : a < s.size) (hc : s[a] = 42) (_hm : s.size ≤ m + 1) (hs : s.size ≤ 1000) :
    Calls Tryz.prog 129 #[.string s, .int .i64 (a : Int)] w fun e w' => CutGot s a e w' ∧ Below w.heap.size w w' := by
  have HP := hide hP
  have HRE := hide (rest_lt ha)
  have ha1 : a + 1 ≤ s.size := by omega
  have HSA := hide hc
  rw [hc] at HRE
  clear hP
  go_enter Tryz.func129, Tryz.ntmps129
  go_wp2_with fail
  refine (among_any 42 l38 _ (by decide)).mono ?_
  rintro e w' ⟨rfl, rfl⟩
  rw [show decide ((42 : UInt8) ∈ l38.data.toList) = false from by decide]
  go_wp2_with fail
  rw [show ((a : Int) + 1) = ((a + 1 : Nat) : Int) by omega]
  refine (span_c s (a + 1) _ ha1 (by omega)).mono ?_
  rintro e w' ⟨c2, rfl, hc2e, rfl⟩
  have hc2l : c2 ≤ s.size := by rw [hc2e]; exact nf_le ha1
  have hc2g : a + 1 ≤ c2 := by omega
  have HC2 := hide hc2e
  clear hc2e
  go_wp2_with fail
  have hez := ext_size s (a + 1) c2
  refine (rRead_one (s.extract (a + 1) c2) _ (by unfold maxLen; omega)).mono ?_
  rintro e w1 ⟨t, b, ok, rfl, hsay, hb1⟩
  obtain ⟨b0, b1, b2, hbel⟩ := three hb1
  have hc0 : ∀ i, w1.cell? ⟨w.heap.size, i, none⟩ = (#[.int .u8 0, .int .i64 0, .int .i64 0, .int .i64 0, .slice none 0 0, .string ⟨#[]⟩, .string ⟨#[]⟩] : Array Value)[i]? := fun i => blk_cell b0 i
  have hf0 : ∀ i, w1.frozen? ⟨w.heap.size, i, none⟩ = false := fun i => blk_free b0 i
  have hc1 : ∀ i, w1.cell? ⟨w.heap.size + 1, i, none⟩ = (#[.int .u8 42, .int .i64 0, .int .i64 0, .int .i64 0, .slice none 0 0, .string ⟨#[]⟩, .string ⟨#[]⟩] : Array Value)[i]? := fun i => blk_cell b1 i
  have hf1 : ∀ i, w1.frozen? ⟨w.heap.size + 1, i, none⟩ = false := fun i => blk_free b1 i
  have hc2 : ∀ i, w1.cell? ⟨w.heap.size + 2, i, none⟩ = (#[.int .i64 0, .int .i64 0] : Array Value)[i]? := fun i => blk_cell b2 i
  have hf2 : ∀ i, w1.frozen? ⟨w.heap.size + 2, i, none⟩ = false := fun i => blk_free b2 i
  have HBel := hide hbel
  have HS := hide hsay
  clear b0 b1 b2 hbel hsay hb1 hez
  cases ok with
  | false =>
    go_wp2_with fail
    exact bodyPost_ret (v := .tuple #[RC.value ⟨42, t, b, 0, none, 0, 0, ⟨#[]⟩, ⟨#[]⟩⟩, .int .i64 (c2 : Int), .bool false]) (by simp [results, Tryz.results129, go_sem, hc0, RC.value, RC.cells]) rfl ⟨⟨⟨42, t, b, 0, none, 0, 0, ⟨#[]⟩, ⟨#[]⟩⟩, _, false, rfl, Or.inr ⟨rfl, by rw [unhide HRE]; exact valR_no (by decide) (unhide HC2) (unhide HS)⟩⟩, st7_below (Below.setCell (p := ⟨w.heap.size + 1, 2, none⟩) (Below.setCell (p := ⟨w.heap.size + 1, 1, none⟩) (Below.setCell (p := ⟨w.heap.size + 2, 1, none⟩) (Below.setCell (p := ⟨w.heap.size + 2, 0, none⟩) (unhide HBel) (Nat.le_add_right _ 2) _) (Nat.le_add_right _ 2) _) (Nat.le_succ _) _) (Nat.le_succ _) _) (Nat.le_refl _) _ _ _ _ _ _ _⟩
  | true =>
    go_wp2_with fail
    exact bodyPost_ret (v := .tuple #[RC.value ⟨42, t, b, 0, none, 0, 0, ⟨#[]⟩, ⟨#[]⟩⟩, .int .i64 (c2 : Int), .bool true]) (by simp [results, Tryz.results129, go_sem, hc0, RC.value, RC.cells]) rfl ⟨⟨⟨42, t, b, 0, none, 0, 0, ⟨#[]⟩, ⟨#[]⟩⟩, _, true, rfl, Or.inl ⟨rfl, by rw [unhide HRE]; exact valR_yes (by decide) (unhide HC2) ha1 (unhide HS)⟩⟩, st7_below (Below.setCell (p := ⟨w.heap.size + 1, 2, none⟩) (Below.setCell (p := ⟨w.heap.size + 1, 1, none⟩) (Below.setCell (p := ⟨w.heap.size + 2, 1, none⟩) (Below.setCell (p := ⟨w.heap.size + 2, 0, none⟩) (unhide HBel) (Nat.le_add_right _ 2) _) (Nat.le_add_right _ 2) _) (Nat.le_succ _) _) (Nat.le_succ _) _) (Nat.le_refl _) _ _ _ _ _ _ _⟩
end Go.Proofs.YtknokhbilckmiaaGreatDoor

/- The walks: the document's own answer: the part at a place, by its first letter. -/
namespace Go.Proofs.YtknokhbilckmiaaGreatDoor
open Go Go.RowKit M T Go.Lib

set_option maxRecDepth 100000 in
set_option maxHeartbeats 3200000 in
theorem cut_61 {m : Nat} (hP : RPS m) (s : ByteArray) (a : Nat) (w : World) (ha : a < s.size) (hc : s[a] = 61) (_hm : s.size ≤ m + 1) (hs : s.size ≤ 1000) :
    Calls Tryz.prog 129 #[.string s, .int .i64 (a : Int)] w fun e w' => CutGot s a e w' ∧ Below w.heap.size w w' := by
  have HP := hide hP
  have HRE := hide (rest_lt ha)
  have ha1 : a + 1 ≤ s.size := by omega
  have HSA := hide hc
  rw [hc] at HRE
  clear hP
  go_enter Tryz.func129, Tryz.ntmps129
  go_wp2_with fail
  refine (among_any 61 l38 _ (by decide)).mono ?_
  rintro e w' ⟨rfl, rfl⟩
  rw [show decide ((61 : UInt8) ∈ l38.data.toList) = false from by decide]
  go_wp2_with fail
  rw [show ((a : Int) + 1) = ((a + 1 : Nat) : Int) by omega]
  refine (span_c s (a + 1) _ ha1 (by omega)).mono ?_
  rintro e w' ⟨c2, rfl, hc2e, rfl⟩
  have hc2l : c2 ≤ s.size := by rw [hc2e]; exact nf_le ha1
  have hc2g : a + 1 ≤ c2 := by omega
  have HC2 := hide hc2e
  clear hc2e
  go_wp2_with fail
  have hez := ext_size s (a + 1) c2
  refine (rRead_one (s.extract (a + 1) c2) _ (by unfold maxLen; omega)).mono ?_
  rintro e w1 ⟨t, b, ok, rfl, hsay, hb1⟩
  obtain ⟨b0, b1, b2, hbel⟩ := three hb1
  have hc0 : ∀ i, w1.cell? ⟨w.heap.size, i, none⟩ = (#[.int .u8 0, .int .i64 0, .int .i64 0, .int .i64 0, .slice none 0 0, .string ⟨#[]⟩, .string ⟨#[]⟩] : Array Value)[i]? := fun i => blk_cell b0 i
  have hf0 : ∀ i, w1.frozen? ⟨w.heap.size, i, none⟩ = false := fun i => blk_free b0 i
  have hc1 : ∀ i, w1.cell? ⟨w.heap.size + 1, i, none⟩ = (#[.int .u8 61, .int .i64 0, .int .i64 0, .int .i64 0, .slice none 0 0, .string ⟨#[]⟩, .string ⟨#[]⟩] : Array Value)[i]? := fun i => blk_cell b1 i
  have hf1 : ∀ i, w1.frozen? ⟨w.heap.size + 1, i, none⟩ = false := fun i => blk_free b1 i
  have hc2 : ∀ i, w1.cell? ⟨w.heap.size + 2, i, none⟩ = (#[.int .i64 0, .int .i64 0] : Array Value)[i]? := fun i => blk_cell b2 i
  have hf2 : ∀ i, w1.frozen? ⟨w.heap.size + 2, i, none⟩ = false := fun i => blk_free b2 i
  have HBel := hide hbel
  have HS := hide hsay
  clear b0 b1 b2 hbel hsay hb1 hez
  cases ok with
  | false =>
    go_wp2_with fail
    exact bodyPost_ret (v := .tuple #[RC.value ⟨61, t, b, 0, none, 0, 0, ⟨#[]⟩, ⟨#[]⟩⟩, .int .i64 (c2 : Int), .bool false]) (by simp [results, Tryz.results129, go_sem, hc0, RC.value, RC.cells]) rfl ⟨⟨⟨61, t, b, 0, none, 0, 0, ⟨#[]⟩, ⟨#[]⟩⟩, _, false, rfl, Or.inr ⟨rfl, by rw [unhide HRE]; exact valR_no (by decide) (unhide HC2) (unhide HS)⟩⟩, st7_below (Below.setCell (p := ⟨w.heap.size + 1, 2, none⟩) (Below.setCell (p := ⟨w.heap.size + 1, 1, none⟩) (Below.setCell (p := ⟨w.heap.size + 2, 1, none⟩) (Below.setCell (p := ⟨w.heap.size + 2, 0, none⟩) (unhide HBel) (Nat.le_add_right _ 2) _) (Nat.le_add_right _ 2) _) (Nat.le_succ _) _) (Nat.le_succ _) _) (Nat.le_refl _) _ _ _ _ _ _ _⟩
  | true =>
    go_wp2_with fail
    exact bodyPost_ret (v := .tuple #[RC.value ⟨61, t, b, 0, none, 0, 0, ⟨#[]⟩, ⟨#[]⟩⟩, .int .i64 (c2 : Int), .bool true]) (by simp [results, Tryz.results129, go_sem, hc0, RC.value, RC.cells]) rfl ⟨⟨⟨61, t, b, 0, none, 0, 0, ⟨#[]⟩, ⟨#[]⟩⟩, _, true, rfl, Or.inl ⟨rfl, by rw [unhide HRE]; exact valR_yes (by decide) (unhide HC2) ha1 (unhide HS)⟩⟩, st7_below (Below.setCell (p := ⟨w.heap.size + 1, 2, none⟩) (Below.setCell (p := ⟨w.heap.size + 1, 1, none⟩) (Below.setCell (p := ⟨w.heap.size + 2, 1, none⟩) (Below.setCell (p := ⟨w.heap.size + 2, 0, none⟩) (unhide HBel) (Nat.le_add_right _ 2) _) (Nat.le_add_right _ 2) _) (Nat.le_succ _) _) (Nat.le_succ _) _) (Nat.le_refl _) _ _ _ _ _ _ _⟩
end Go.Proofs.YtknokhbilckmiaaGreatDoor

/- The walks: the document's own answer: the part at a place, by its first letter. -/
namespace Go.Proofs.YtknokhbilckmiaaGreatDoor
open Go Go.RowKit M T Go.Lib

set_option maxRecDepth 100000 in
set_option maxHeartbeats 3200000 in
theorem cut_60 {m : Nat} (hP : RPS m) (s : ByteArray) (a : Nat) (w : World) (ha : a < s.size) (hc : s[a] = 60) (_hm : s.size ≤ m + 1) (hs : s.size ≤ 1000) :
    Calls Tryz.prog 129 #[.string s, .int .i64 (a : Int)] w fun e w' => CutGot s a e w' ∧ Below w.heap.size w w' := by
  have HP := hide hP
  have HRE := hide (rest_lt ha)
  have ha1 : a + 1 ≤ s.size := by omega
  have HSA := hide hc
  rw [hc] at HRE
  clear hP
  go_enter Tryz.func129, Tryz.ntmps129
  go_wp2_with fail
  refine (among_any 60 l38 _ (by decide)).mono ?_
  rintro e w' ⟨rfl, rfl⟩
  rw [show decide ((60 : UInt8) ∈ l38.data.toList) = false from by decide]
  go_wp2_with fail
  rw [show ((a : Int) + 1) = ((a + 1 : Nat) : Int) by omega]
  refine (whole_c s (a + 1) (-99) 99 _ ha1 (by omega) (by decide) (by decide)).mono ?_
  rintro e w1 ⟨k, ok, c2, rfl, hle, hc2l, hwh, hb1⟩
  obtain ⟨b0, b1, b2, hbel⟩ := three hb1
  have hc0 : ∀ i, w1.cell? ⟨w.heap.size, i, none⟩ = (#[.int .u8 0, .int .i64 0, .int .i64 0, .int .i64 0, .slice none 0 0, .string ⟨#[]⟩, .string ⟨#[]⟩] : Array Value)[i]? := fun i => blk_cell b0 i
  have hf0 : ∀ i, w1.frozen? ⟨w.heap.size, i, none⟩ = false := fun i => blk_free b0 i
  have hc1 : ∀ i, w1.cell? ⟨w.heap.size + 1, i, none⟩ = (#[.int .u8 60, .int .i64 0, .int .i64 0, .int .i64 0, .slice none 0 0, .string ⟨#[]⟩, .string ⟨#[]⟩] : Array Value)[i]? := fun i => blk_cell b1 i
  have hf1 : ∀ i, w1.frozen? ⟨w.heap.size + 1, i, none⟩ = false := fun i => blk_free b1 i
  have HBel := hide hbel
  have HFn := hide (fun wf => cntR (w := wf) (c := 60) (by decide) hc2l hwh)
  clear b0 b1 b2 hbel hwh hb1
  go_wp2_with fail
  exact bodyPost_ret (v := .tuple #[RC.value ⟨60, 0, 0, k, none, 0, 0, ⟨#[]⟩, ⟨#[]⟩⟩, .int .i64 (c2 : Int), .bool ok]) (by simp [results, Tryz.results129, go_sem, hc0, RC.value, RC.cells]) rfl ⟨⟨⟨60, 0, 0, k, none, 0, 0, ⟨#[]⟩, ⟨#[]⟩⟩, _, ok, rfl, by rw [unhide HRE]; exact unhide HFn _⟩, st7_below (Below.setCell (p := ⟨w.heap.size + 1, 3, none⟩) (unhide HBel) (Nat.le_succ _) _) (Nat.le_refl _) _ _ _ _ _ _ _⟩
end Go.Proofs.YtknokhbilckmiaaGreatDoor

/- The walks: the document's own answer: the part at a place, by its first letter. -/
namespace Go.Proofs.YtknokhbilckmiaaGreatDoor
open Go Go.RowKit M T Go.Lib

set_option maxRecDepth 100000 in
set_option maxHeartbeats 3200000 in
theorem cut_116 {m : Nat} (hP : RPS m) (s : ByteArray) (a : Nat) (w : World) (ha : a < s.size) (hc : s[a] = 116) (_hm : s.size ≤ m + 1) (hs : s.size ≤ 1000) :
    Calls Tryz.prog 129 #[.string s, .int .i64 (a : Int)] w fun e w' => CutGot s a e w' ∧ Below w.heap.size w w' := by
  have HP := hide hP
  have HRE := hide (rest_lt ha)
  have ha1 : a + 1 ≤ s.size := by omega
  have HSA := hide hc
  rw [hc] at HRE
  clear hP
  go_enter Tryz.func129, Tryz.ntmps129
  go_wp2_with fail
  refine (among_any 116 l38 _ (by decide)).mono ?_
  rintro e w' ⟨rfl, rfl⟩
  rw [show decide ((116 : UInt8) ∈ l38.data.toList) = false from by decide]
  go_wp2_with fail
  rw [show ((a : Int) + 1) = ((a + 1 : Nat) : Int) by omega]
  refine (whole_c s (a + 1) 0 12 _ ha1 (by omega) (by decide) (by decide)).mono ?_
  rintro e w1 ⟨k, ok, c2, rfl, hle, hc2l, hwh, hb1⟩
  obtain ⟨b0, b1, b2, hbel⟩ := three hb1
  have hc0 : ∀ i, w1.cell? ⟨w.heap.size, i, none⟩ = (#[.int .u8 0, .int .i64 0, .int .i64 0, .int .i64 0, .slice none 0 0, .string ⟨#[]⟩, .string ⟨#[]⟩] : Array Value)[i]? := fun i => blk_cell b0 i
  have hf0 : ∀ i, w1.frozen? ⟨w.heap.size, i, none⟩ = false := fun i => blk_free b0 i
  have hc1 : ∀ i, w1.cell? ⟨w.heap.size + 1, i, none⟩ = (#[.int .u8 116, .int .i64 0, .int .i64 0, .int .i64 0, .slice none 0 0, .string ⟨#[]⟩, .string ⟨#[]⟩] : Array Value)[i]? := fun i => blk_cell b1 i
  have hf1 : ∀ i, w1.frozen? ⟨w.heap.size + 1, i, none⟩ = false := fun i => blk_free b1 i
  have HBel := hide hbel
  have HFn := hide (fun wf => cntR (w := wf) (c := 116) (by decide) hc2l hwh)
  clear b0 b1 b2 hbel hwh hb1
  go_wp2_with fail
  exact bodyPost_ret (v := .tuple #[RC.value ⟨116, 0, 0, k, none, 0, 0, ⟨#[]⟩, ⟨#[]⟩⟩, .int .i64 (c2 : Int), .bool ok]) (by simp [results, Tryz.results129, go_sem, hc0, RC.value, RC.cells]) rfl ⟨⟨⟨116, 0, 0, k, none, 0, 0, ⟨#[]⟩, ⟨#[]⟩⟩, _, ok, rfl, by rw [unhide HRE]; exact unhide HFn _⟩, st7_below (Below.setCell (p := ⟨w.heap.size + 1, 3, none⟩) (unhide HBel) (Nat.le_succ _) _) (Nat.le_refl _) _ _ _ _ _ _ _⟩
end Go.Proofs.YtknokhbilckmiaaGreatDoor

/- The walks: the document's own answer: the part at a place, by its first letter. -/
namespace Go.Proofs.YtknokhbilckmiaaGreatDoor
open Go Go.RowKit M T Go.Lib

set_option maxRecDepth 100000 in
set_option maxHeartbeats 3200000 in
theorem cut_100 {m : Nat} (hP : RPS m) (s : ByteArray) (a : Nat) (w : World) (ha : a < s.size) (hc : s[a] = 100) (_hm : s.size ≤ m + 1) (hs : s.size ≤ 1000) :
    Calls Tryz.prog 129 #[.string s, .int .i64 (a : Int)] w fun e w' => CutGot s a e w' ∧ Below w.heap.size w w' := by
  have HP := hide hP
  have HRE := hide (rest_lt ha)
  have ha1 : a + 1 ≤ s.size := by omega
  have HSA := hide hc
  rw [hc] at HRE
  clear hP
  go_enter Tryz.func129, Tryz.ntmps129
  go_wp2_with fail
  refine (among_any 100 l38 _ (by decide)).mono ?_
  rintro e w' ⟨rfl, rfl⟩
  rw [show decide ((100 : UInt8) ∈ l38.data.toList) = false from by decide]
  go_wp2_with fail
  rw [show ((a : Int) + 1) = ((a + 1 : Nat) : Int) by omega]
  refine (whole_c s (a + 1) 0 12 _ ha1 (by omega) (by decide) (by decide)).mono ?_
  rintro e w1 ⟨k, ok, c2, rfl, hle, hc2l, hwh, hb1⟩
  obtain ⟨b0, b1, b2, hbel⟩ := three hb1
  have hc0 : ∀ i, w1.cell? ⟨w.heap.size, i, none⟩ = (#[.int .u8 0, .int .i64 0, .int .i64 0, .int .i64 0, .slice none 0 0, .string ⟨#[]⟩, .string ⟨#[]⟩] : Array Value)[i]? := fun i => blk_cell b0 i
  have hf0 : ∀ i, w1.frozen? ⟨w.heap.size, i, none⟩ = false := fun i => blk_free b0 i
  have hc1 : ∀ i, w1.cell? ⟨w.heap.size + 1, i, none⟩ = (#[.int .u8 100, .int .i64 0, .int .i64 0, .int .i64 0, .slice none 0 0, .string ⟨#[]⟩, .string ⟨#[]⟩] : Array Value)[i]? := fun i => blk_cell b1 i
  have hf1 : ∀ i, w1.frozen? ⟨w.heap.size + 1, i, none⟩ = false := fun i => blk_free b1 i
  have HBel := hide hbel
  have HFn := hide (fun wf => cntR (w := wf) (c := 100) (by decide) hc2l hwh)
  clear b0 b1 b2 hbel hwh hb1
  go_wp2_with fail
  exact bodyPost_ret (v := .tuple #[RC.value ⟨100, 0, 0, k, none, 0, 0, ⟨#[]⟩, ⟨#[]⟩⟩, .int .i64 (c2 : Int), .bool ok]) (by simp [results, Tryz.results129, go_sem, hc0, RC.value, RC.cells]) rfl ⟨⟨⟨100, 0, 0, k, none, 0, 0, ⟨#[]⟩, ⟨#[]⟩⟩, _, ok, rfl, by rw [unhide HRE]; exact unhide HFn _⟩, st7_below (Below.setCell (p := ⟨w.heap.size + 1, 3, none⟩) (unhide HBel) (Nat.le_succ _) _) (Nat.le_refl _) _ _ _ _ _ _ _⟩
end Go.Proofs.YtknokhbilckmiaaGreatDoor

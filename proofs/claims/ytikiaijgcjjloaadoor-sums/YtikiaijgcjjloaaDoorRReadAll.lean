/- The walk of the document's reading of a number: the whole. -/
import Derived.Test.YtikiaijgcjjloaaDoorRReadNeg
import Derived.Test.YtikiaijgcjjloaaDoorRReadPos
namespace Go.Proofs.YtikiaijgcjjloaaDoor
open Go Go.RowKit M Go.Lib

theorem list_empty (s : ByteArray) (h : s.size = 0) : s.data.toList = [] := List.length_eq_zero_iff.1 (by rw [len_size]; exact h)
theorem none_empty (s : ByteArray) (h : s.size = 0) : ∀ t b, ¬ IsNum s.data.toList t b := by
  apply rr_bad
  rw [list_empty s h]
  exact Or.inl (by decide)
set_option maxRecDepth 100000 in
set_option maxHeartbeats 400000 in
theorem RRead_nil (w : World) :
    Calls Tryd.prog 35 #[.string ⟨#[]⟩] w fun e w' => RReadSays ⟨#[]⟩ e ∧ Below w.heap.size w w' := by
  have HE := hide (none_empty ⟨#[]⟩ rfl)
  go_enter Tryd.func35, Tryd.ntmps35
  go_wp2_with fail
  go_loopw [5, 6, 7] (fun x y z wx => x = .int .i64 0 ∧ y = .int .i64 1 ∧ z = .int .i64 0 ∧ (w.alloc (.cells #[.int .i64 0, .int .i64 0] 51)) = wx) (fun _ _ _ _ => 0)
  case atStart => exact ⟨rfl, rfl, rfl, rfl⟩
  case round =>
    obtain ⟨rfl, rfl, rfl, rfl⟩ := hrel
    go_wp2_with fail
    refine (value_any (ByteArray.extract ⟨#[]⟩ 0 0) _ (by decide)).mono ?_
    rintro e w' ⟨rfl, rfl⟩
    rw [show valueOf (ByteArray.extract ⟨#[]⟩ 0 0).data.toList = -1 from by decide]
    go_wp2_with fail
    exact bodyPost_ret (v := .tuple #[.agg #[.int .i64 0, .int .i64 1], .bool false]) (by simp [results, Tryd.results35, go_sem]) rfl ⟨Or.inr ⟨unhide HE, _, _, rfl⟩, (by repeat (first | exact Below.refl _ _ | refine below_dr ?_ _ | refine Below.drew ?_ | refine Below.setCell ?_ (by simp) _ | refine Below.alloc ?_ (by simp) _))⟩
theorem RRead_empty (s : ByteArray) (w : World) (h0 : s.size = 0) :
    Calls Tryd.prog 35 #[.string s] w fun e w' => RReadSays s e ∧ Below w.heap.size w w' := by
  obtain rfl : s = ⟨#[]⟩ := by
    apply ByteArray.ext
    have := list_empty s h0
    simpa using this
  exact RRead_nil w

theorem RRead_any (s : ByteArray) (w : World) (hs : s.size ≤ maxLen) :
    Calls Tryd.prog 35 #[.string s] w fun e w' => RReadSays s e ∧ Below w.heap.size w w' := by
  by_cases h0 : s.size = 0
  · exact RRead_empty s w h0
  · cases hn : neg s.data.toList with
    | true => exact RRead_neg s w hs (by omega) hn
    | false => exact RRead_pos s w hs (by omega) hn
end Go.Proofs.YtikiaijgcjjloaaDoor

/- The walks of the laws on two texts. -/
import Derived.Test.YtikiaijgcjjloaaDoorCalls4
import Derived.Test.YtikiaijgcjjloaaDoorLaw1
namespace Go.Proofs.YtikiaijgcjjloaaDoor
open Go Go.RowKit M Go.Lib

set_option maxRecDepth 100000 in
set_option maxHeartbeats 400000 in
theorem sums_walk (a b : ByteArray) (w : World) (ha : a.size ≤ maxLen) (hb : b.size ≤ maxLen) (ht : Tab w) :
    Calls Tryd.prog 3 #[.string a, .string b] w fun e w' => e = .returned (.bool true) ∧ Below w.heap.size w w' := by
  have HT := hide ht
  clear ht
  go_enter Tryd.func3, Tryd.ntmps3
  go_wp2_with fail
  refine (Plus_any a b _ ha hb (unhide HT)).mono ?_
  rintro e w1 ⟨⟨r, c, rfl, ha1⟩, hb1⟩
  have HA := hide ha1
  clear ha1
  go_wp2_with fail
  refine (rPlus_any a b _ ha hb).mono ?_
  rintro e w2 ⟨⟨r', c', rfl, ha'⟩, hb2⟩
  obtain ⟨rfl, rfl⟩ := says2_one (F := SumF) (fun _ _ _ _ _ _ _ _ => lowF_fun) (unhide HA) ha'
  clear ha' HA
  go_wp2_with fail
  refine (num_any c _).mono ?_
  rintro e w3 ⟨rfl, rfl⟩
  go_wp2_with fail
  go_ret
  exact ⟨rfl, hb1.trans (hb2.mono hb1.size)⟩

set_option maxRecDepth 100000 in
set_option maxHeartbeats 400000 in
theorem products_walk (a b : ByteArray) (w : World) (ha : a.size ≤ maxLen) (hb : b.size ≤ maxLen) (ht : Tab w) :
    Calls Tryd.prog 4 #[.string a, .string b] w fun e w' => e = .returned (.bool true) ∧ Below w.heap.size w w' := by
  have HT := hide ht
  clear ht
  go_enter Tryd.func4, Tryd.ntmps4
  go_wp2_with fail
  refine (Times_any a b _ ha hb (unhide HT)).mono ?_
  rintro e w1 ⟨⟨r, c, rfl, ha1⟩, hb1⟩
  have HA := hide ha1
  clear ha1
  go_wp2_with fail
  refine (rTimes_any a b _ ha hb).mono ?_
  rintro e w2 ⟨⟨r', c', rfl, ha'⟩, hb2⟩
  obtain ⟨rfl, rfl⟩ := says2_one (F := ProdF) (fun _ _ _ _ _ _ _ _ => lowF_fun) (unhide HA) ha'
  clear ha' HA
  go_wp2_with fail
  refine (num_any c _).mono ?_
  rintro e w3 ⟨rfl, rfl⟩
  go_wp2_with fail
  go_ret
  exact ⟨rfl, hb1.trans (hb2.mono hb1.size)⟩
end Go.Proofs.YtikiaijgcjjloaaDoor

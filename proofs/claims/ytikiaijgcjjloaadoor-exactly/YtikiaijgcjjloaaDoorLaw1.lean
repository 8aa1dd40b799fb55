/- The walks of the laws on one text. -/
import Derived.Test.YtikiaijgcjjloaaDoorCalls3
namespace Go.Proofs.YtikiaijgcjjloaaDoor
open Go Go.RowKit M Go.Lib

theorem overF_fun {t b : Int} {r r' : List UInt8} {c c' : Int} (h : OverF t b r c) (h' : OverF t b r' c') : r = r' ∧ c = c' := by
  rcases h with ⟨h0, rfl, rfl⟩ | ⟨h0, rfl, rfl⟩ <;> rcases h' with ⟨h1, rfl, rfl⟩ | ⟨h1, rfl, rfl⟩
  · exact ⟨rfl, rfl⟩
  · exact absurd h0 h1
  · exact absurd h1 h0
  · exact ⟨rfl, rfl⟩
theorem sq_inj (x y : Nat) (h : (x : Int) * x = (y : Int) * y) : x = y := by
  apply root_unique
  have h2 : ((x * x : Nat) : Int) = ((y * y : Nat) : Int) := by simpa using h
  omega
theorem rootF_fun {t b : Int} {r r' : List UInt8} {c c' : Int} (h : RootF t b r c) (h' : RootF t b r' c') : r = r' ∧ c = c' := by
  rcases h with ⟨x, y, hx, hy, rfl, rfl⟩ | ⟨h0, rfl, rfl⟩ <;> rcases h' with ⟨x', y', hx', hy', rfl, rfl⟩ | ⟨h1, rfl, rfl⟩
  · obtain rfl := sq_inj x x' (hx.trans hx'.symm)
    obtain rfl := sq_inj y y' (hy.trans hy'.symm)
    exact ⟨rfl, rfl⟩
  · rcases h1 with h1 | h1
    · exact absurd hx (h1 x)
    · exact absurd hy (h1 y)
  · rcases h0 with h0 | h0
    · exact absurd hx' (h0 x')
    · exact absurd hy' (h0 y')
  · exact ⟨rfl, rfl⟩

/-- Two answers to one text are one answer. -/
theorem ans1_one {F : Int → Int → List UInt8 → Int → Prop} (hF : ∀ {t b r r' c c'}, F t b r c → F t b r' c' → r = r' ∧ c = c') {s : ByteArray} {r r' : List UInt8} {c c' : Int}
    (h : ((∀ t b, ¬ IsNum s.data.toList t b) ∧ r = [] ∧ c = 1) ∨ ∃ t b, IsNum s.data.toList t b ∧ F t b r c) (h' : ((∀ t b, ¬ IsNum s.data.toList t b) ∧ r' = [] ∧ c' = 1) ∨ ∃ t b, IsNum s.data.toList t b ∧ F t b r' c') : r = r' ∧ c = c' := by
  rcases h with ⟨h0, rfl, rfl⟩ | ⟨t, b, hn, hf⟩ <;> rcases h' with ⟨h1, rfl, rfl⟩ | ⟨t', b', hn', hf'⟩
  · exact ⟨rfl, rfl⟩
  · exact absurd hn' (h0 t' b')
  · exact absurd hn (h1 t b)
  · obtain ⟨rfl, rfl⟩ := hn.unique hn'
    exact hF hf hf'

theorem num_any (c : Int) (w : World) : Calls Tryd.prog 12 #[.int .i64 c] w fun e w' => e = .returned (.int .i64 c) ∧ w = w' := by
  go_enter Tryd.func12, Tryd.ntmps12
  go_wp2
  go_ret
  exact ⟨rfl, rfl⟩

set_option maxRecDepth 100000 in
set_option maxHeartbeats 400000 in
theorem overs_walk (s : ByteArray) (w : World) (hs : s.size ≤ maxLen) (ht : Tab w) :
    Calls Tryd.prog 5 #[.string s] w fun e w' => e = .returned (.bool true) ∧ Below w.heap.size w w' := by
  have HT := hide ht
  clear ht
  go_enter Tryd.func5, Tryd.ntmps5
  go_wp2_with fail
  refine (Over_any s _ hs (unhide HT)).mono ?_
  rintro e w1 ⟨⟨r, c, rfl, ha⟩, hb1⟩
  have HA := hide ha
  clear ha
  go_wp2_with fail
  refine (rOver_any s _ hs).mono ?_
  rintro e w2 ⟨⟨r', c', rfl, ha'⟩, hb2⟩
  obtain ⟨rfl, rfl⟩ := ans1_one (F := OverF) overF_fun (unhide HA) ha'
  clear ha' HA
  go_wp2_with fail
  refine (num_any c _).mono ?_
  rintro e w3 ⟨rfl, rfl⟩
  go_wp2_with fail
  go_ret
  exact ⟨rfl, hb1.trans (hb2.mono hb1.size)⟩

set_option maxRecDepth 100000 in
set_option maxHeartbeats 400000 in
theorem roots_walk (s : ByteArray) (w : World) (hs : s.size ≤ maxLen) (ht : Tab w) :
    Calls Tryd.prog 6 #[.string s] w fun e w' => e = .returned (.bool true) ∧ Below w.heap.size w w' := by
  have HT := hide ht
  clear ht
  go_enter Tryd.func6, Tryd.ntmps6
  go_wp2_with fail
  refine (Root_any s _ hs (unhide HT)).mono ?_
  rintro e w1 ⟨⟨r, c, rfl, ha⟩, hb1⟩
  have HA := hide ha
  clear ha
  go_wp2_with fail
  refine (rRoot_any s _ hs).mono ?_
  rintro e w2 ⟨⟨r', c', rfl, ha'⟩, hb2⟩
  obtain ⟨rfl, rfl⟩ := ans1_one (F := RootF) rootF_fun (unhide HA) ha'
  clear ha' HA
  go_wp2_with fail
  refine (num_any c _).mono ?_
  rintro e w3 ⟨rfl, rfl⟩
  go_wp2_with fail
  go_ret
  exact ⟨rfl, hb1.trans (hb2.mono hb1.size)⟩
end Go.Proofs.YtikiaijgcjjloaaDoor

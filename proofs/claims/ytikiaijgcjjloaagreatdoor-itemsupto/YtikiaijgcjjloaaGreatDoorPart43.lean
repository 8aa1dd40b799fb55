import Derived.Test.YtikiaijgcjjloaaGreatDoorPart42
import Derived.Test.YtikiaijgcjjloaaGreatDoorPart35
import Derived.Test.YtikiaijgcjjloaaGreatDoorPart38

/- The walks of the laws without the document's answer: what Items needs, together. -/
namespace Go.Proofs.YtikiaijgcjjloaaGreatDoor
end Go.Proofs.YtikiaijgcjjloaaGreatDoor

/- The walks of the laws without the document's answer: a list taken apart. -/
namespace Go.Proofs.YtikiaijgcjjloaaGreatDoor
open Go Go.RowKit M T Go.Lib

/-- The texts of a list's items; of the empty text none. -/
def partsOf (s : List UInt8) : List (List UInt8) := if s = [] then [] else pieces s
theorem listText_ne {l : List Rat} (h : l ≠ []) : listText l ≠ [] := by
  intro e
  have := joinT_list l
  match l, h with
  | [x], _ => exact ratText_ne x e
  | x :: y :: l, _ =>
    rw [listText] at e
    · simp at e
    · intro h2; cases h2
theorem parts_list (l : List Rat) : partsOf (listText l) = l.map ratText := by
  unfold partsOf
  by_cases hl : l = []
  · subst hl
    rfl
  · rw [if_neg (listText_ne hl), pieces_list hl]

set_option maxRecDepth 100000 in
set_option maxHeartbeats 800000 in
theorem split_nil (s : ByteArray) (w : World) (h0 : s.size = 0) :
    Calls Tryz.prog 11 #[.string s] w fun e w' => e = .returned (.slice none 0 0) ∧ w' = w := by
  have h0' : ¬ (0 : Int) < (s.size : Int) := by omega
  have h1 : (0 : Int) ≤ (s.size : Int) := by omega
  go_enter Tryz.func11, Tryz.ntmps11
  go_wp2_with fail
  go_loopg [3, 4, 5] 0 (fun kk v3 v4 v5 wr => kk = 0 ∧ v3 = .slice none 0 0 ∧ v5 = .int .i64 0 ∧ v4 = .int .i64 0 ∧ w = wr)
  case atStart => exact ⟨rfl, rfl, rfl, rfl, rfl⟩
  case round =>
    obtain ⟨hk, rfl, rfl, rfl, rfl⟩ := hrel
    clear hk
    go_wp2_with fail
    go_ret
    exact ⟨rfl, rfl⟩
/-- What split answers. -/
def SplitGot (s : ByteArray) (w : World) (e : Ending) (w' : World) : Prop := ∃ ao cp, e = .returned (.slice ao (partsOf s.data.toList).length cp) ∧ SIs w' ao cp (partsOf s.data.toList) ∧ Below w.heap.size w w'
theorem split_all (s : ByteArray) (w : World) (hs : s.size ≤ 1048576) : Calls Tryz.prog 11 #[.string s] w fun e w' => SplitGot s w e w' := by
  by_cases h0 : 0 < s.size
  · refine (split_any s w h0 hs).mono ?_
    rintro e w' ⟨ao, cp, rfl, hk⟩
    have e1 : partsOf s.data.toList = pieces s.data.toList := by
      unfold partsOf
      rw [if_neg]
      intro e
      have : s.data.toList.length = 0 := by rw [e]; rfl
      have h2 : s.size = s.data.toList.length := by simp
      omega
    unfold SplitGot
    rw [e1]
    exact ⟨ao, cp, rfl, hk.sis, hk.bel⟩
  · refine (split_nil s w (by omega)).mono ?_
    rintro e w' ⟨rfl, rfl⟩
    have e1 : partsOf s.data.toList = [] := by
      unfold partsOf
      rw [if_pos]
      apply List.eq_nil_of_length_eq_zero
      have h2 : s.size = s.data.toList.length := by simp
      omega
    unfold SplitGot
    rw [e1]
    exact ⟨none, 0, rfl, ⟨World.ownsRow_nil _ _ _ _⟩, Below.refl _ _⟩
end Go.Proofs.YtikiaijgcjjloaaGreatDoor

/- The walks of the laws without the document's answer: a list taken apart. -/
namespace Go.Proofs.YtikiaijgcjjloaaGreatDoor
open Go Go.RowKit M T Go.Lib

/-- All of them numbers, and not too many. -/
def Fine (ps : List (List UInt8)) : Prop := ps.length ≤ 12 ∧ ∀ p ∈ ps, ∃ t b, IsNum p t b
theorem fine_list {s : List UInt8} (h : Fine (partsOf s)) : ∃ l, IsList s l ∧ partsOf s = krow l := by
  unfold partsOf at h ⊢
  by_cases hs : s = []
  · rw [if_pos hs]
    exact ⟨[], ⟨by decide, fun x hx => (List.not_mem_nil hx).elim, by rw [hs]; rfl⟩, rfl⟩
  · rw [if_neg hs] at h ⊢
    exact list_of_pieces h.1 h.2
theorem list_fine {s : List UInt8} {l : List Rat} (h : IsList s l) : Fine (partsOf s) := by
  have e : partsOf s = krow l := by
    unfold partsOf
    rw [← h.text]
    by_cases hl : l = []
    · subst hl
      rfl
    · rw [if_neg (listText_ne hl), pieces_list hl]
      rfl
  rw [e]
  refine ⟨by rw [krow_len]; exact h.len, ?_⟩
  intro p hp
  obtain ⟨x, hx, rfl⟩ := List.mem_map.1 hp
  exact ⟨_, _, rat_isNum (h.small x hx)⟩
end Go.Proofs.YtikiaijgcjjloaaGreatDoor

/- The walks of the laws without the document's answer: how many items a text has, and how long. -/
namespace Go.Proofs.YtikiaijgcjjloaaGreatDoor
open Go Go.RowKit M T Go.Lib
theorem rt_one : (⟨#[49]⟩ : ByteArray) = rt 1 := by
  have h : ratText 1 = [49] := rat_text_small 1 (by omega)
  unfold rt
  rw [h]
theorem attach_len (a : List UInt8) {l : List (List UInt8)} (h : l ≠ []) : (attach a l).length = l.length := by
  cases l with
  | nil => exact (h rfl).elim
  | cons x l => rfl
theorem pieces_len : ∀ s, (pieces s).length ≤ s.length + 1
  | [] => by simp [pieces]
  | c :: s => by
    have ih := pieces_len s
    by_cases hc : c = 44
    · rw [hc, pieces_comma]; simp; exact ih
    · rw [pieces_other hc, attach_len _ (pieces_ne s)]; simp; omega
theorem pieces_each : ∀ s, ∀ p ∈ pieces s, p.length ≤ s.length
  | [] => by simp [pieces]
  | c :: s => by
    have ih := pieces_each s
    intro p hp
    by_cases hc : c = 44
    · rw [hc, pieces_comma] at hp
      rcases List.mem_cons.1 hp with rfl | h
      · simp
      · have := ih p h; simp; omega
    · rw [pieces_other hc] at hp
      cases hq : pieces s with
      | nil => exact (pieces_ne s hq).elim
      | cons y l =>
        rw [hq] at hp ih
        rcases List.mem_cons.1 hp with rfl | h
        · have := ih y (List.mem_cons_self ..); simp; omega
        · have := ih p (List.mem_cons_of_mem _ h); simp; omega
theorem partsOf_len (s : List UInt8) : (partsOf s).length ≤ s.length + 1 := by
  unfold partsOf
  split
  · simp
  · exact pieces_len s
theorem partsOf_each (s : List UInt8) : ∀ p ∈ partsOf s, p.length ≤ s.length := by
  unfold partsOf
  split
  · simp
  · exact pieces_each s
def FineTo (ps : List (List UInt8)) (i : Nat) (b : Bool) : Prop := b = true ↔ ps.length ≤ 12 ∧ ∀ p ∈ ps.take i, ∃ t q, IsNum p t q
def FineIs (ps : List (List UInt8)) (b : Bool) : Prop := b = true ↔ Fine ps
end Go.Proofs.YtikiaijgcjjloaaGreatDoor

import Derived.Test.YtikiaijgcjjloabGreatDoorPart39
import Derived.Test.YtikiaijgcjjloabGreatDoorPart9
import Derived.Test.YtikiaijgcjjloabGreatDoorPart14
import Derived.Test.YtikiaijgcjjloabGreatDoorPart11

/- The walks of the laws without the document's answer: texts split. -/
namespace Go.Proofs.YtikiaijgcjjloabGreatDoor
open Go Go.RowKit M T Go.Lib

def sv (p : List UInt8) : Value := .string ⟨p.toArray⟩
def srow (ps : List (List UInt8)) : List Value := ps.map sv
theorem srow_snoc (ps : List (List UInt8)) (p : List UInt8) : srow ps ++ [sv p] = srow (ps ++ [p]) := by unfold srow; simp
theorem one_sv (p : List UInt8) : ∀ u ∈ [sv p], u.oneCell' = true := by
  intro u hu
  rw [List.mem_singleton.1 hu]
  rfl
theorem Tryz.infoStr : (Tryz.prog.info? 9).map (fun i => (i.zero, i.size, i.bytes)) = some (some (.string ⟨#[]⟩), 1, 16) := by kernel_rfl
/-- A row of texts while it is made. -/
structure SkIs (w0 : World) (v : Value) (ps : List (List UInt8)) (wr : World) : Prop where
  own : wr.ownsRow w0.heap.size 9 1 v ps.length (srow ps)
  bel : Below w0.heap.size w0 wr
theorem SkIs.start (w : World) : SkIs w (.slice none 0 0) [] w := ⟨World.ownsRow_nil _ _ _ _, Below.refl _ _⟩
theorem sk_owns_below {w w1 : World} {B : Nat} {e : TypeId} {size : Nat} {v : Value} {n : Nat} {xs : List Value} (h : w.ownsRow B e size v n xs) (hb : Below w.heap.size w w1) : w1.ownsRow B e size v n xs := by
  refine ⟨h.1, ?_⟩
  rcases h.2 with h2 | ⟨g, cap, cur, hv, hg, hh, r⟩
  · exact Or.inl h2
  · exact Or.inr ⟨g, cap, cur, hv, hg, by rw [hb.block g (lt_of_block hh)]; exact hh, r⟩
theorem SkIs.below {w0 wr wr' : World} {v : Value} {ps : List (List UInt8)} (h : SkIs w0 v ps wr) (hb : Below wr.heap.size wr wr') : SkIs w0 v ps wr' := ⟨sk_owns_below h.own hb, h.bel.trans (hb.mono h.bel.size)⟩
theorem SkIs.more {w0 wr w4 : World} {v v' : Value} {ps : List (List UInt8)} {p : List UInt8} (h : SkIs w0 v ps wr) (ho : w4.ownsRow w0.heap.size 9 1 v' (ps.length + 1) (srow ps ++ [sv p])) (hg : wr.grownBy w4 v.ownBlock) : SkIs w0 v' (ps ++ [p]) w4 := by
  refine ⟨by rw [List.length_append, ← srow_snoc]; exact ho, ⟨hg.os.trans h.bel.os, hg.tape.trans h.bel.tape, hg.output.trans h.bel.output, Nat.le_trans h.bel.size hg.size, fun k hk => (hg.block k (Nat.lt_of_lt_of_le hk h.bel.size) (fun e => ?_)).trans (h.bel.block k hk)⟩⟩
  have := (h.own.lt k e.symm).1
  omega
theorem SkIs.shape {w0 wr : World} {v : Value} {ps : List (List UInt8)} (h : SkIs w0 v ps wr) : ∃ ao cp, v = .slice ao ps.length cp := by
  rcases h.own.2 with ⟨h1, h2⟩ | ⟨g, cap, cur, hv, _⟩
  · exact ⟨none, 0, by rw [h1, h2]⟩
  · exact ⟨_, cap, hv⟩
theorem snews_at {w : World} {k : Nat} (e : w.heap.size = k) (c : List Value) (t : TypeId) : ∀ j u, c[j]? = some u → (w.alloc (.cells c.toArray t)).cell? ((⟨k, 0, none⟩ : Addr).add j) = some u := by
  subst e
  exact news_alloc w c t
theorem ext_sv (s : ByteArray) (a b : Nat) : Value.string (s.extract a b) = sv (s.extract a b).data.toList := by
  unfold sv
  congr 1
theorem ext_snoc {s : ByteArray} {a i : Nat} (ha : a ≤ i) (hi : i < s.size) : (s.extract a (i + 1)).data.toList = (s.extract a i).data.toList ++ [s[i]] := by
  rw [ext_list, ext_list, show i + 1 - a = (i - a) + 1 by omega, List.take_succ_eq_append_getElem (by rw [List.length_drop]; simp; omega)]
  congr 1
  rw [List.getElem_drop]
  simp only [show a + (i - a) = i by omega]
  rfl
/-- How far split has come. -/
structure SpIs2 (s : ByteArray) (ps : List (List UInt8)) (a i : Nat) : Prop where
  le : a ≤ i
  now : i ≤ s.size → pieces s.data.toList = ps ++ attach (s.extract a i).data.toList (pieces (rest s i))
  done : i = s.size + 1 → pieces s.data.toList = ps
  few : ps.length ≤ i
theorem ext_empty (s : ByteArray) (a : Nat) : (s.extract a a).data.toList = [] := by rw [ext_list]; simp

set_option maxRecDepth 100000 in
set_option maxHeartbeats 1600000 in
theorem split_any (s : ByteArray) (w : World) (h0 : 0 < s.size) (hs : s.size ≤ 1048576) :
    Calls Tryz.prog 19 #[.string s] w fun e w' => ∃ ao cp, e = .returned (.slice ao (pieces s.data.toList).length cp) ∧ SkIs w (.slice ao (pieces s.data.toList).length cp) (pieces s.data.toList) w' := by
  obtain ⟨i0, hi0, hz0, hz1, hz2⟩ := info_parts Tryz.infoStr
  have h0' : (0 : Int) < (s.size : Int) := by omega
  go_enter Tryz.func19, Tryz.ntmps19
  go_wp2_with fail
  go_loopg [3, 4, 5] (s.size + 1) (fun kk v3 v4 v5 wr => ∃ (i a : Nat) (ps : List (List UInt8)) (ao : Option Addr) (cp : Nat), kk = s.size + 1 - i ∧ i ≤ s.size + 1 ∧ v5 = .int .i64 (i : Int) ∧ v4 = .int .i64 (a : Int) ∧ v3 = .slice ao ps.length cp ∧ SpIs2 s ps a i ∧ SkIs w (.slice ao ps.length cp) ps wr)
  case atStart => exact ⟨0, 0, [], none, 0, rfl, Nat.zero_le _, rfl, rfl, rfl, ⟨Nat.le_refl _, fun _ => by rw [ext_empty, attach_nil (pieces_ne _), show rest s 0 = s.data.toList from by unfold rest; simp]; rfl, fun h => by omega, by simp⟩, SkIs.start w⟩
  case round =>
    obtain ⟨i, a, ps, ao, cp, hk, hi, rfl, rfl, rfl, hsp, hsk⟩ := hrel
    have HK := hide hk
    have HSp := hide hsp
    have HSk := hide hsk
    have hai := hsp.le
    have hfew := hsp.few
    clear hk hsp
    by_cases hle : i ≤ s.size
    · have hle' : (i : Int) ≤ (s.size : Int) := by omega
      by_cases hstop : i = s.size ∨ ∃ (h : i < s.size), s[i] = 44
      · have HNx := hide (show SpIs2 s (ps ++ [(s.extract a i).data.toList]) (i + 1) (i + 1) by
          have hn := (unhide HSp).now hle
          rcases hstop with rfl | ⟨hlt, hc⟩
          · rw [rest_ge (Nat.le_refl _)] at hn
            refine ⟨Nat.le_refl _, fun h => by omega, fun _ => by rw [hn]; simp [pieces, attach], by simp; omega⟩
          · rw [rest_lt hlt, hc, pieces_comma] at hn
            refine ⟨Nat.le_refl _, fun _ => ?_, fun h => by omega, by simp; omega⟩
            rw [hn, ext_empty, attach_nil (pieces_ne _)]
            simp [attach])
        have ha2 : (a : Int) ≤ (i : Int) := by omega
        have HSk2 := hide (hsk.below ((Below.refl _ _).alloc (Nat.le_refl _) (.cells [sv (s.extract a i).data.toList].toArray 9)))
        have hsz := hsk.bel.size
        have HEx := hide (ext_sv s a i)
        clear hsk
        have hq : ((i : Int) == (s.size : Int)) = true ∨ (((i : Int) == (s.size : Int)) = false ∧ ∃ (h : i < s.size), s[i] = 44) := by
          rcases hstop with h | ⟨h, hc⟩
          · exact Or.inl (by rw [h]; simp)
          · exact Or.inr ⟨by rw [beq_eq_false_iff_ne]; omega, h, hc⟩
        clear hstop
        rcases hq with hq | ⟨hq, hlt, hc⟩
        · go_wp2_with (at_builtin; refine wpList_append_own _ rfl _ _ 52 rfl w.heap.size 9 i0 _ 1 16 Tryz.underlying52 hi0 hz0 hz1 hz2 rfl (by decide) _ _ _ rfl (unhide HSk2).own ⟨wr.heap.size, 0, none⟩ 1 1 [sv (s.extract a i).data.toList] rfl rfl (snews_at rfl _ _) (one_sv _) (by unfold maxLen; omega) (by omega) (by simp; omega) ?_)
          intro v' w4 hown4 hgr4 _
          have hm4 := (unhide HSk2).more hown4 hgr4
          obtain ⟨ao4, cp4, rfl⟩ := hm4.shape
          have HM4 := hide hm4
          clear hown4 hgr4 hm4
          go_wp2_with fail
          go_roundg (s.size + 1 - (i + 1))
          case measure => rw [unhide HK]; omega
          case rel => exact ⟨i + 1, i + 1, ps ++ [List.take (i - a) (List.drop a s.data.toList)], ao4, cp4, rfl, by omega, rfl, rfl, rfl, by rw [← ext_list]; exact unhide HNx, unhide HM4⟩
        · have hlt' : (i : Int) < (s.size : Int) := by omega
          have hc' : ((s[i].toNat : Int) == 44) = true := by rw [hc]; rfl
          clear hc
          go_wp2_with (at_builtin; refine wpList_append_own _ rfl _ _ 52 rfl w.heap.size 9 i0 _ 1 16 Tryz.underlying52 hi0 hz0 hz1 hz2 rfl (by decide) _ _ _ rfl (unhide HSk2).own ⟨wr.heap.size, 0, none⟩ 1 1 [sv (s.extract a i).data.toList] rfl rfl (snews_at rfl _ _) (one_sv _) (by unfold maxLen; omega) (by omega) (by simp; omega) ?_)
          intro v' w4 hown4 hgr4 _
          have hm4 := (unhide HSk2).more hown4 hgr4
          obtain ⟨ao4, cp4, rfl⟩ := hm4.shape
          have HM4 := hide hm4
          clear hown4 hgr4 hm4
          go_wp2_with fail
          go_roundg (s.size + 1 - (i + 1))
          case measure => rw [unhide HK]; omega
          case rel => exact ⟨i + 1, i + 1, ps ++ [List.take (i - a) (List.drop a s.data.toList)], ao4, cp4, rfl, by omega, rfl, rfl, rfl, by rw [← ext_list]; exact unhide HNx, unhide HM4⟩
      · have hlt : i < s.size := by
          rcases Nat.lt_or_ge i s.size with h | h
          · exact h
          · exact absurd (Or.inl (by omega)) hstop
        have hlt' : (i : Int) < (s.size : Int) := by omega
        have hq : ((i : Int) == (s.size : Int)) = false := by rw [beq_eq_false_iff_ne]; omega
        have hcn : s[i] ≠ 44 := fun e => hstop (Or.inr ⟨hlt, e⟩)
        have hc' : ((s[i].toNat : Int) == 44) = false := by
          rw [beq_eq_false_iff_ne]
          intro e
          exact hcn (UInt8.toNat_inj.1 (by show s[i].toNat = 44; omega))
        have HNx := hide (show SpIs2 s ps a (i + 1) by
          have hn := (unhide HSp).now hle
          rw [rest_lt hlt, pieces_other hcn, attach_attach _ _ _ (pieces_ne _)] at hn
          exact ⟨by omega, fun _ => by rw [hn, ext_snoc hai hlt], fun h => by omega, by omega⟩)
        clear hstop hcn hsk
        go_wp2_with fail
        go_roundg (s.size + 1 - (i + 1))
        case measure => rw [unhide HK]; omega
        case rel => exact ⟨i + 1, a, ps, ao, cp, rfl, by omega, rfl, rfl, rfl, unhide HNx, unhide HSk⟩
    · have hle' : ¬ (i : Int) ≤ (s.size : Int) := by omega
      have HFin := hide ((unhide HSp).done (by omega))
      go_wp2_with fail
      go_ret
      rw [unhide HFin]
      exact ⟨ao, cp, rfl, unhide HSk⟩

/-- A row of texts that is handed in. -/
structure SIs (w : World) (ao : Option Addr) (cp : Nat) (ps : List (List UInt8)) : Prop where
  own : w.ownsRow 0 9 1 (.slice ao ps.length cp) ps.length (srow ps)
theorem SIs.below {w w' : World} {ao : Option Addr} {cp : Nat} {ps : List (List UInt8)} (h : SIs w ao cp ps) (hb : Below w.heap.size w w') : SIs w' ao cp ps := ⟨sk_owns_below h.own hb⟩
theorem SkIs.sis {w0 w : World} {ao : Option Addr} {cp : Nat} {ps : List (List UInt8)} (h : SkIs w0 (.slice ao ps.length cp) ps w) : SIs w ao cp ps := ⟨⟨h.own.1, by
  rcases h.own.2 with h2 | ⟨g, cap, cur, hv, hg, r⟩
  · exact Or.inl h2
  · exact Or.inr ⟨g, cap, cur, hv, Nat.zero_le _, r⟩⟩⟩
theorem SIs.cell {w : World} {ao : Option Addr} {cp : Nat} {ps : List (List UInt8)} (h : SIs w ao cp ps) (hp : 0 < ps.length) : ∃ g, ao = some ⟨g, 0, none⟩ ∧ g < w.heap.size ∧ ∀ j (hj : j < ps.length), w.cell? ⟨g, j, none⟩ = some (.string ⟨ps[j].toArray⟩) := by
  rcases h.own.2 with ⟨h1, h2⟩ | ⟨g, cap, cur, hv, _, hh, _⟩
  · omega
  · obtain ⟨rfl, _, rfl⟩ := Value.slice.inj hv
    refine ⟨g, rfl, lt_of_block hh, fun j hj => ?_⟩
    have := h.own.cells (g := g) rfl j (sv ps[j]) (by unfold srow; rw [List.getElem?_map, List.getElem?_eq_getElem hj]; rfl)
    rw [show (⟨g, 0, none⟩ : Addr).add j = ⟨g, j, none⟩ from by unfold Addr.add; split <;> simp_all] at this
    exact this

end Go.Proofs.YtikiaijgcjjloabGreatDoor

/- The walks of the laws without the document's answer: a list taken apart. -/
namespace Go.Proofs.YtikiaijgcjjloabGreatDoor
open Go Go.RowKit M T Go.Lib

/-- The texts of a list's items; of the empty text none. -/
def partsOf (s : List UInt8) : List (List UInt8) := if s = [] then [] else pieces s
theorem listText_ne {l : List Rat} (h : l ≠ []) : listText l ≠ [] := by
  intro e
  have := joinT_list l
  match l, h with
  | [x], _ => exact ratText_ne x e
  | x :: y :: l, _ =>
    rw [listText] at e
    · simp at e
    · intro h2; cases h2
theorem parts_list (l : List Rat) : partsOf (listText l) = l.map ratText := by
  unfold partsOf
  by_cases hl : l = []
  · subst hl
    rfl
  · rw [if_neg (listText_ne hl), pieces_list hl]

set_option maxRecDepth 100000 in
set_option maxHeartbeats 800000 in
theorem split_nil (s : ByteArray) (w : World) (h0 : s.size = 0) :
    Calls Tryz.prog 19 #[.string s] w fun e w' => e = .returned (.slice none 0 0) ∧ w' = w := by
  have h0' : ¬ (0 : Int) < (s.size : Int) := by omega
  have h1 : (0 : Int) ≤ (s.size : Int) := by omega
  go_enter Tryz.func19, Tryz.ntmps19
  go_wp2_with fail
  go_loopg [3, 4, 5] 0 (fun kk v3 v4 v5 wr => kk = 0 ∧ v3 = .slice none 0 0 ∧ v5 = .int .i64 0 ∧ v4 = .int .i64 0 ∧ w = wr)
  case atStart => exact ⟨rfl, rfl, rfl, rfl, rfl⟩
  case round =>
    obtain ⟨hk, rfl, rfl, rfl, rfl⟩ := hrel
    clear hk
    go_wp2_with fail
    go_ret
    exact ⟨rfl, rfl⟩
/-- What split answers. -/
def SplitGot (s : ByteArray) (w : World) (e : Ending) (w' : World) : Prop := ∃ ao cp, e = .returned (.slice ao (partsOf s.data.toList).length cp) ∧ SIs w' ao cp (partsOf s.data.toList) ∧ Below w.heap.size w w'
theorem split_all (s : ByteArray) (w : World) (hs : s.size ≤ 1048576) : Calls Tryz.prog 19 #[.string s] w fun e w' => SplitGot s w e w' := by
  by_cases h0 : 0 < s.size
  · refine (split_any s w h0 hs).mono ?_
    rintro e w' ⟨ao, cp, rfl, hk⟩
    have e1 : partsOf s.data.toList = pieces s.data.toList := by
      unfold partsOf
      rw [if_neg]
      intro e
      have : s.data.toList.length = 0 := by rw [e]; rfl
      have h2 : s.size = s.data.toList.length := by simp
      omega
    unfold SplitGot
    rw [e1]
    exact ⟨ao, cp, rfl, hk.sis, hk.bel⟩
  · refine (split_nil s w (by omega)).mono ?_
    rintro e w' ⟨rfl, rfl⟩
    have e1 : partsOf s.data.toList = [] := by
      unfold partsOf
      rw [if_pos]
      apply List.eq_nil_of_length_eq_zero
      have h2 : s.size = s.data.toList.length := by simp
      omega
    unfold SplitGot
    rw [e1]
    exact ⟨none, 0, rfl, ⟨World.ownsRow_nil _ _ _ _⟩, Below.refl _ _⟩
end Go.Proofs.YtikiaijgcjjloabGreatDoor

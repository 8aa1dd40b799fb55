import Derived.Test.YtikiaijgcjjloaaGreatDoorPart37
import Derived.Test.YtikiaijgcjjloaaGreatDoorPart8
import Derived.Test.YtikiaijgcjjloaaGreatDoorPart13
import Derived.Test.YtikiaijgcjjloaaGreatDoorPart10
import Derived.Test.YtikiaijgcjjloaaGreatDoorPart20
import Derived.BigRegion

/- The walks of the laws without the document's answer: texts split. -/
namespace Go.Proofs.YtikiaijgcjjloaaGreatDoor
open Go Go.RowKit M T Go.Lib

def sv (p : List UInt8) : Value := .string ⟨p.toArray⟩
def srow (ps : List (List UInt8)) : List Value := ps.map sv
theorem srow_snoc (ps : List (List UInt8)) (p : List UInt8) : srow ps ++ [sv p] = srow (ps ++ [p]) := by unfold srow; simp
theorem one_sv (p : List UInt8) : ∀ u ∈ [sv p], u.oneCell' = true := by
  intro u hu
  rw [List.mem_singleton.1 hu]
  rfl
theorem Tryz.infoStr : (Tryz.prog.info? 9).map (fun i => (i.zero, i.size, i.bytes)) = some (some (.string ⟨#[]⟩), 1, 16) := by kernel_rfl
/-- A row of texts while it is made. -/
structure SkIs (w0 : World) (v : Value) (ps : List (List UInt8)) (wr : World) : Prop where
  own : wr.ownsRow w0.heap.size 9 1 v ps.length (srow ps)
  bel : Below w0.heap.size w0 wr
theorem SkIs.start (w : World) : SkIs w (.slice none 0 0) [] w := ⟨World.ownsRow_nil _ _ _ _, Below.refl _ _⟩
theorem sk_owns_below {w w1 : World} {B : Nat} {e : TypeId} {size : Nat} {v : Value} {n : Nat} {xs : List Value} (h : w.ownsRow B e size v n xs) (hb : Below w.heap.size w w1) : w1.ownsRow B e size v n xs := by
  refine ⟨h.1, ?_⟩
  rcases h.2 with h2 | ⟨g, cap, cur, hv, hg, hh, r⟩
  · exact Or.inl h2
  · exact Or.inr ⟨g, cap, cur, hv, hg, by rw [hb.block g (lt_of_block hh)]; exact hh, r⟩
theorem SkIs.below {w0 wr wr' : World} {v : Value} {ps : List (List UInt8)} (h : SkIs w0 v ps wr) (hb : Below wr.heap.size wr wr') : SkIs w0 v ps wr' := ⟨sk_owns_below h.own hb, h.bel.trans (hb.mono h.bel.size)⟩
theorem SkIs.more {w0 wr w4 : World} {v v' : Value} {ps : List (List UInt8)} {p : List UInt8} (h : SkIs w0 v ps wr) (ho : w4.ownsRow w0.heap.size 9 1 v' (ps.length + 1) (srow ps ++ [sv p])) (hg : wr.grownBy w4 v.ownBlock) : SkIs w0 v' (ps ++ [p]) w4 := by
  refine ⟨by rw [List.length_append, ← srow_snoc]; exact ho, ⟨hg.os.trans h.bel.os, hg.tape.trans h.bel.tape, hg.output.trans h.bel.output, Nat.le_trans h.bel.size hg.size, fun k hk => (hg.block k (Nat.lt_of_lt_of_le hk h.bel.size) (fun e => ?_)).trans (h.bel.block k hk)⟩⟩
  have := (h.own.lt k e.symm).1
  omega
theorem SkIs.shape {w0 wr : World} {v : Value} {ps : List (List UInt8)} (h : SkIs w0 v ps wr) : ∃ ao cp, v = .slice ao ps.length cp := by
  rcases h.own.2 with ⟨h1, h2⟩ | ⟨g, cap, cur, hv, _⟩
  · exact ⟨none, 0, by rw [h1, h2]⟩
  · exact ⟨_, cap, hv⟩
theorem snews_at {w : World} {k : Nat} (e : w.heap.size = k) (c : List Value) (t : TypeId) : ∀ j u, c[j]? = some u → (w.alloc (.cells c.toArray t)).cell? ((⟨k, 0, none⟩ : Addr).add j) = some u := by
  subst e
  exact news_alloc w c t
theorem ext_sv (s : ByteArray) (a b : Nat) : Value.string (s.extract a b) = sv (s.extract a b).data.toList := by
  unfold sv
  congr 1
theorem ext_snoc {s : ByteArray} {a i : Nat} (ha : a ≤ i) (hi : i < s.size) : (s.extract a (i + 1)).data.toList = (s.extract a i).data.toList ++ [s[i]] := by
  rw [ext_list, ext_list, show i + 1 - a = (i - a) + 1 by omega, List.take_succ_eq_append_getElem (by rw [List.length_drop]; simp; omega)]
  congr 1
  rw [List.getElem_drop]
  simp only [show a + (i - a) = i by omega]
  rfl
/-- How far split has come. -/
structure SpIs2 (s : ByteArray) (ps : List (List UInt8)) (a i : Nat) : Prop where
  le : a ≤ i
  now : i ≤ s.size → pieces s.data.toList = ps ++ attach (s.extract a i).data.toList (pieces (rest s i))
  done : i = s.size + 1 → pieces s.data.toList = ps
  few : ps.length ≤ i
theorem ext_empty (s : ByteArray) (a : Nat) : (s.extract a a).data.toList = [] := by rw [ext_list]; simp

set_option maxRecDepth 100000 in
set_option maxHeartbeats 1600000 in
theorem split_any (s : ByteArray) (w : World) (h0 : 0 < s.size) (hs : s.size ≤ 1048576) :
    Calls Tryz.prog 11 #[.string s] w fun e w' => ∃ ao cp, e = .returned (.slice ao (pieces s.data.toList).length cp) ∧ SkIs w (.slice ao (pieces s.data.toList).length cp) (pieces s.data.toList) w' := by
  obtain ⟨i0, hi0, hz0, hz1, hz2⟩ := info_parts Tryz.infoStr
  have h0' : (0 : Int) < (s.size : Int) := by omega
  go_enter Tryz.func11, Tryz.ntmps11
  go_wp2_with fail
  go_loopg [3, 4, 5] (s.size + 1) (fun kk v3 v4 v5 wr => ∃ (i a : Nat) (ps : List (List UInt8)) (ao : Option Addr) (cp : Nat), kk = s.size + 1 - i ∧ i ≤ s.size + 1 ∧ v5 = .int .i64 (i : Int) ∧ v4 = .int .i64 (a : Int) ∧ v3 = .slice ao ps.length cp ∧ SpIs2 s ps a i ∧ SkIs w (.slice ao ps.length cp) ps wr)
  case atStart => exact ⟨0, 0, [], none, 0, rfl, Nat.zero_le _, rfl, rfl, rfl, ⟨Nat.le_refl _, fun _ => by rw [ext_empty, attach_nil (pieces_ne _), show rest s 0 = s.data.toList from by unfold rest; simp]; rfl, fun h => by omega, by simp⟩, SkIs.start w⟩
  case round =>
    obtain ⟨i, a, ps, ao, cp, hk, hi, rfl, rfl, rfl, hsp, hsk⟩ := hrel
    have HK := hide hk
    have HSp := hide hsp
    have HSk := hide hsk
    have hai := hsp.le
    have hfew := hsp.few
    clear hk hsp
    by_cases hle : i ≤ s.size
    · have hle' : (i : Int) ≤ (s.size : Int) := by omega
      by_cases hstop : i = s.size ∨ ∃ (h : i < s.size), s[i] = 44
      · have HNx := hide (show SpIs2 s (ps ++ [(s.extract a i).data.toList]) (i + 1) (i + 1) by
          have hn := (unhide HSp).now hle
          rcases hstop with rfl | ⟨hlt, hc⟩
          · rw [rest_ge (Nat.le_refl _)] at hn
            refine ⟨Nat.le_refl _, fun h => by omega, fun _ => by rw [hn]; simp [pieces, attach], by simp; omega⟩
          · rw [rest_lt hlt, hc, pieces_comma] at hn
            refine ⟨Nat.le_refl _, fun _ => ?_, fun h => by omega, by simp; omega⟩
            rw [hn, ext_empty, attach_nil (pieces_ne _)]
            simp [attach])
        have ha2 : (a : Int) ≤ (i : Int) := by omega
        have HSk2 := hide (hsk.below ((Below.refl _ _).alloc (Nat.le_refl _) (.cells [sv (s.extract a i).data.toList].toArray 9)))
        have hsz := hsk.bel.size
        have HEx := hide (ext_sv s a i)
        clear hsk
        have hq : ((i : Int) == (s.size : Int)) = true ∨ (((i : Int) == (s.size : Int)) = false ∧ ∃ (h : i < s.size), s[i] = 44) := by
          rcases hstop with h | ⟨h, hc⟩
          · exact Or.inl (by rw [h]; simp)
          · exact Or.inr ⟨by rw [beq_eq_false_iff_ne]; omega, h, hc⟩
        clear hstop
        rcases hq with hq | ⟨hq, hlt, hc⟩
        · go_wp2_with (at_builtin; refine wpList_append_own _ rfl _ _ 29 rfl w.heap.size 9 i0 _ 1 16 Tryz.underlying29 hi0 hz0 hz1 hz2 rfl (by decide) _ _ _ rfl (unhide HSk2).own ⟨wr.heap.size, 0, none⟩ 1 1 [sv (s.extract a i).data.toList] rfl rfl (snews_at rfl _ _) (one_sv _) (by unfold maxLen; omega) (by omega) (by simp; omega) ?_)
          intro v' w4 hown4 hgr4 _
          have hm4 := (unhide HSk2).more hown4 hgr4
          obtain ⟨ao4, cp4, rfl⟩ := hm4.shape
          have HM4 := hide hm4
          clear hown4 hgr4 hm4
          go_wp2_with fail
          go_roundg (s.size + 1 - (i + 1))
          case measure => rw [unhide HK]; omega
          case rel => exact ⟨i + 1, i + 1, ps ++ [List.take (i - a) (List.drop a s.data.toList)], ao4, cp4, rfl, by omega, rfl, rfl, rfl, by rw [← ext_list]; exact unhide HNx, unhide HM4⟩
        · have hlt' : (i : Int) < (s.size : Int) := by omega
          have hc' : ((s[i].toNat : Int) == 44) = true := by rw [hc]; rfl
          clear hc
          go_wp2_with (at_builtin; refine wpList_append_own _ rfl _ _ 29 rfl w.heap.size 9 i0 _ 1 16 Tryz.underlying29 hi0 hz0 hz1 hz2 rfl (by decide) _ _ _ rfl (unhide HSk2).own ⟨wr.heap.size, 0, none⟩ 1 1 [sv (s.extract a i).data.toList] rfl rfl (snews_at rfl _ _) (one_sv _) (by unfold maxLen; omega) (by omega) (by simp; omega) ?_)
          intro v' w4 hown4 hgr4 _
          have hm4 := (unhide HSk2).more hown4 hgr4
          obtain ⟨ao4, cp4, rfl⟩ := hm4.shape
          have HM4 := hide hm4
          clear hown4 hgr4 hm4
          go_wp2_with fail
          go_roundg (s.size + 1 - (i + 1))
          case measure => rw [unhide HK]; omega
          case rel => exact ⟨i + 1, i + 1, ps ++ [List.take (i - a) (List.drop a s.data.toList)], ao4, cp4, rfl, by omega, rfl, rfl, rfl, by rw [← ext_list]; exact unhide HNx, unhide HM4⟩
      · have hlt : i < s.size := by
          rcases Nat.lt_or_ge i s.size with h | h
          · exact h
          · exact absurd (Or.inl (by omega)) hstop
        have hlt' : (i : Int) < (s.size : Int) := by omega
        have hq : ((i : Int) == (s.size : Int)) = false := by rw [beq_eq_false_iff_ne]; omega
        have hcn : s[i] ≠ 44 := fun e => hstop (Or.inr ⟨hlt, e⟩)
        have hc' : ((s[i].toNat : Int) == 44) = false := by
          rw [beq_eq_false_iff_ne]
          intro e
          exact hcn (UInt8.toNat_inj.1 (by show s[i].toNat = 44; omega))
        have HNx := hide (show SpIs2 s ps a (i + 1) by
          have hn := (unhide HSp).now hle
          rw [rest_lt hlt, pieces_other hcn, attach_attach _ _ _ (pieces_ne _)] at hn
          exact ⟨by omega, fun _ => by rw [hn, ext_snoc hai hlt], fun h => by omega, by omega⟩)
        clear hstop hcn hsk
        go_wp2_with fail
        go_roundg (s.size + 1 - (i + 1))
        case measure => rw [unhide HK]; omega
        case rel => exact ⟨i + 1, a, ps, ao, cp, rfl, by omega, rfl, rfl, rfl, unhide HNx, unhide HSk⟩
    · have hle' : ¬ (i : Int) ≤ (s.size : Int) := by omega
      have HFin := hide ((unhide HSp).done (by omega))
      go_wp2_with fail
      go_ret
      rw [unhide HFin]
      exact ⟨ao, cp, rfl, unhide HSk⟩

/-- A row of texts that is handed in. -/
structure SIs (w : World) (ao : Option Addr) (cp : Nat) (ps : List (List UInt8)) : Prop where
  own : w.ownsRow 0 9 1 (.slice ao ps.length cp) ps.length (srow ps)
theorem SIs.below {w w' : World} {ao : Option Addr} {cp : Nat} {ps : List (List UInt8)} (h : SIs w ao cp ps) (hb : Below w.heap.size w w') : SIs w' ao cp ps := ⟨sk_owns_below h.own hb⟩
theorem SkIs.sis {w0 w : World} {ao : Option Addr} {cp : Nat} {ps : List (List UInt8)} (h : SkIs w0 (.slice ao ps.length cp) ps w) : SIs w ao cp ps := ⟨⟨h.own.1, by
  rcases h.own.2 with h2 | ⟨g, cap, cur, hv, hg, r⟩
  · exact Or.inl h2
  · exact Or.inr ⟨g, cap, cur, hv, Nat.zero_le _, r⟩⟩⟩
theorem SIs.cell {w : World} {ao : Option Addr} {cp : Nat} {ps : List (List UInt8)} (h : SIs w ao cp ps) (hp : 0 < ps.length) : ∃ g, ao = some ⟨g, 0, none⟩ ∧ g < w.heap.size ∧ ∀ j (hj : j < ps.length), w.cell? ⟨g, j, none⟩ = some (.string ⟨ps[j].toArray⟩) := by
  rcases h.own.2 with ⟨h1, h2⟩ | ⟨g, cap, cur, hv, _, hh, _⟩
  · omega
  · obtain ⟨rfl, _, rfl⟩ := Value.slice.inj hv
    refine ⟨g, rfl, lt_of_block hh, fun j hj => ?_⟩
    have := h.own.cells (g := g) rfl j (sv ps[j]) (by unfold srow; rw [List.getElem?_map, List.getElem?_eq_getElem hj]; rfl)
    rw [show (⟨g, 0, none⟩ : Addr).add j = ⟨g, j, none⟩ from by unfold Addr.add; split <;> simp_all] at this
    exact this

end Go.Proofs.YtikiaijgcjjloaaGreatDoor

/- The walks of the laws without the document's answer: texts joined. -/
namespace Go.Proofs.YtikiaijgcjjloaaGreatDoor
open Go Go.RowKit M T Go.Lib

set_option maxRecDepth 100000 in
set_option maxHeartbeats 1600000 in
theorem joined_any {w : World} {ao : Option Addr} {cp : Nat} {ps : List (List UInt8)} (h : SIs w ao cp ps) (hl : ps.length ≤ 1000) (hb : ∀ p ∈ ps, p.length ≤ 1000) :
    Calls Tryz.prog 18 #[.slice ao ps.length cp] w fun e w' => e = .returned (.string ⟨(joinT ps).toArray⟩) ∧ w' = w := by
  have hlen : ∀ i, (joinT (ps.take i)).length ≤ 1001 * i := by
    intro i
    induction i with
    | zero => simp [joinT]
    | succ i ih =>
      by_cases hi : i < ps.length
      · rw [List.take_succ_eq_append_getElem hi, joinT_snoc, List.length_append]
        have := hb ps[i] (List.getElem_mem hi)
        split
        · simp; omega
        · rw [List.length_append]; simp; omega
      · rw [List.take_of_length_le (by omega)] at ih ⊢
        omega
  have HC := hide (fun hp => h.cell hp)
  have HLen := hide hlen
  have HBd := hide hb
  clear h hlen hb
  go_enter Tryz.func18, Tryz.ntmps18
  go_wp2_with fail
  go_loopg [3, 4] ps.length (fun kk v3 v4 wr => ∃ (i : Nat) (t : List UInt8), kk = ps.length - i ∧ i ≤ ps.length ∧ v4 = .int .i64 (i : Int) ∧ v3 = .string ⟨t.toArray⟩ ∧ t = joinT (ps.take i) ∧ w = wr)
  case atStart => exact ⟨0, [], rfl, Nat.zero_le _, rfl, rfl, rfl, rfl⟩
  case round =>
    obtain ⟨i, t, hk, hi, rfl, rfl, he, rfl⟩ := hrel
    have HK := hide hk
    have HE := hide he
    have htl : t.length ≤ 1001000 := by
      have := unhide HLen i
      rw [← he] at this
      omega
    clear hk he
    by_cases hlt : i < ps.length
    · have hlt' : (i : Int) < (ps.length : Int) := by omega
      obtain ⟨g, rfl, _, hcell⟩ := unhide HC (by omega)
      have c0 := hcell i hlt
      have hpl := unhide HBd ps[i] (List.getElem_mem hlt)
      have HX := hide (show joinT (ps.take (i + 1)) = (if ps.take i = [] then [] else t ++ [44]) ++ ps[i] by rw [List.take_succ_eq_append_getElem hlt, joinT_snoc, unhide HE])
      clear hcell
      generalize ps[i] = p at c0 hpl HX
      by_cases hi0 : 0 < i
      · have hi0' : (0 : Int) < (i : Int) := by omega
        have HF := hide (show joinT (ps.take (i + 1)) = t ++ [44] ++ p by
          rw [unhide HX, if_neg (fun e => by have := congrArg List.length e; rw [List.length_take, List.length_nil] at this; omega)])
        go_wp2_with fail
        go_roundg (ps.length - (i + 1))
        case measure => rw [unhide HK]; omega
        case rel => exact ⟨i + 1, t ++ [44] ++ p, rfl, by omega, rfl, by rw [← str_app, ← str_app], (unhide HF).symm, rfl⟩
      · have hi0' : ¬ (0 : Int) < (i : Int) := by omega
        obtain rfl : i = 0 := by omega
        have HF := hide (show joinT (ps.take (0 + 1)) = t ++ p by rw [unhide HX, if_pos (List.take_zero), unhide HE]; rfl)
        go_wp2_with fail
        go_roundg (ps.length - 1)
        case measure => rw [unhide HK]; omega
        case rel => exact ⟨1, t ++ p, rfl, by omega, rfl, by rw [← str_app], (unhide HF).symm, rfl⟩
    · have hlt' : ¬ (i : Int) < (ps.length : Int) := by omega
      have HF := hide (show t = joinT ps by rw [unhide HE, List.take_of_length_le (by omega)])
      go_wp2_with fail
      go_ret
      exact ⟨by rw [unhide HF]; rfl, rfl⟩
end Go.Proofs.YtikiaijgcjjloaaGreatDoor

/- The walks: Over of the document, Root of both. -/
namespace Go.Proofs.YtikiaijgcjjloaaGreatDoor
open Go Go.RowKit M Go.Lib

set_option maxRecDepth 100000 in
set_option maxHeartbeats 400000 in
theorem rOver_any (s : ByteArray) (w : World) (hs : s.size ≤ maxLen) :
    Calls Tryz.prog 60 #[.string s] w fun e w' => Ans1 OverF s e ∧ Below w.heap.size w w' := by
  go_enter Tryz.func60, Tryz.ntmps60
  go_wp2_with fail
  refine (RRead_any s _ hs).mono ?_
  rintro e w1 ⟨⟨t, b, hn, rfl⟩ | ⟨hn, p, q, rfl⟩, hb1⟩
  · have HN := hide hn
    have i1 := hn.lo; have i2 := hn.hi; have i3 := hn.b1; have i4 := hn.b2
    clear hn
    go_wp2_with fail
    refine (rInv_any t b _ i1 i2 i3 i4).mono ?_
    rintro e w2 ⟨⟨h0, rfl⟩ | ⟨h0, rfl⟩, hb2⟩
    · have H0 := hide h0
      clear h0
      go_wp2_with fail
      refine (told_err 0 1 2 _ rfl).mono ?_
      rintro e w3 ⟨rfl, hb3⟩
      go_wp2_with fail
      go_ret2
      exact ⟨⟨[], 2, rfl, Or.inr ⟨t, b, unhide HN, Or.inl ⟨unhide H0, rfl, rfl⟩⟩⟩, (hb1.trans ((fl_two hb2).mono hb1.size)).trans ((fl_two hb3).mono (by have := (fl_two hb2).size; have := hb1.size; omega))⟩
    · have H0 := hide h0
      clear h0
      obtain ⟨j1, j2, j3, j4⟩ := over_bd t b i1 i2 i3 i4 (unhide H0)
      go_wp2_with fail
      refine (told_ok (overP t b) (overQ t b) _ j1 j2 j3 j4).mono ?_
      rintro e w3 ⟨rfl, hb3⟩
      go_wp2_with fail
      go_ret2
      exact ⟨⟨_, 0, rfl, Or.inr ⟨t, b, unhide HN, Or.inr ⟨unhide H0, rfl, rfl⟩⟩⟩, (hb1.trans ((fl_two hb2).mono hb1.size)).trans ((fl_two hb3).mono (by have := (fl_two hb2).size; have := hb1.size; omega))⟩
  · have HN := hide hn
    clear hn
    go_wp2_with fail
    go_ret2
    exact ⟨⟨[], 1, rfl, Or.inl ⟨unhide HN, rfl, rfl⟩⟩, hb1.trans (((Below.refl _ _).alloc (Nat.le_refl _) _).mono hb1.size)⟩

set_option maxRecDepth 100000 in
set_option maxHeartbeats 400000 in
theorem Root_any (s : ByteArray) (w : World) (hs : s.size ≤ maxLen) (ht : Tab w) :
    Calls Tryz.prog 56 #[.string s] w fun e w' => Ans1 RootF s e ∧ Below w.heap.size w w' := by
  have HT := hide ht
  clear ht
  go_enter Tryz.func56, Tryz.ntmps56
  go_wp2_with fail
  refine (Read_any s _ hs).mono ?_
  rintro e w1 ⟨⟨t, b, hn, rfl⟩ | ⟨hn, rfl⟩, hb1⟩
  · have HN := hide hn
    have i1 := hn.lo; have i2 := hn.hi; have i3 := hn.b1; have i4 := hn.b2
    clear hn
    go_wp2_with fail
    refine (nRoot_any t b _ i1 i2 i3 i4).mono ?_
    rintro e w2 ⟨⟨x, y, hx, hy, rfl⟩ | ⟨h0, rfl⟩, hb2⟩
    · have HX := hide hx
      have HY := hide hy
      have j2 := sq_bound x t i2 (by omega)
      have j4 := sq_bound y b i4 (by omega)
      have j3 := root_pos y b hy i3
      clear hx hy
      go_wp2_with fail
      refine (write_ok x y _ (by omega) (by omega) (by omega) (by omega) (tab_alloc (tab_below (tab_below (unhide HT) hb1) (fl_two hb2)) _)).mono ?_
      rintro e w3 ⟨rfl, hb3⟩
      go_wp2_with fail
      go_ret2
      exact ⟨⟨_, 0, rfl, Or.inr ⟨t, b, unhide HN, Or.inl ⟨x, y, unhide HX, unhide HY, rfl, rfl⟩⟩⟩, (hb1.trans ((fl_two hb2).mono hb1.size)).trans ((fl_two hb3).mono (by have := (fl_two hb2).size; have := hb1.size; omega))⟩
    · have H0 := hide h0
      clear h0
      go_wp2_with fail
      refine (write_err 0 0 2 _ rfl).mono ?_
      rintro e w3 ⟨rfl, hb3⟩
      go_wp2_with fail
      go_ret2
      exact ⟨⟨[], 2, rfl, Or.inr ⟨t, b, unhide HN, Or.inr ⟨unhide H0, rfl, rfl⟩⟩⟩, (hb1.trans ((fl_two hb2).mono hb1.size)).trans ((fl_two hb3).mono (by have := (fl_two hb2).size; have := hb1.size; omega))⟩
  · have HN := hide hn
    clear hn
    go_wp2_with fail
    go_ret2
    exact ⟨⟨[], 1, rfl, Or.inl ⟨unhide HN, rfl, rfl⟩⟩, hb1.trans (((Below.refl _ _).alloc (Nat.le_refl _) _).mono hb1.size)⟩

set_option maxRecDepth 100000 in
set_option maxHeartbeats 400000 in
theorem rRoot_any (s : ByteArray) (w : World) (hs : s.size ≤ maxLen) :
    Calls Tryz.prog 61 #[.string s] w fun e w' => Ans1 RootF s e ∧ Below w.heap.size w w' := by
  go_enter Tryz.func61, Tryz.ntmps61
  go_wp2_with fail
  refine (RRead_any s _ hs).mono ?_
  rintro e w1 ⟨⟨t, b, hn, rfl⟩ | ⟨hn, p, q, rfl⟩, hb1⟩
  · have HN := hide hn
    have i1 := hn.lo; have i2 := hn.hi; have i3 := hn.b1; have i4 := hn.b2
    clear hn
    go_wp2_with fail
    refine (rSqrt_any t b _ i2 i4).mono ?_
    rintro e w2 ⟨⟨x, y, hx, hy, rfl⟩ | ⟨h0, rfl⟩, hb2⟩
    · have HX := hide hx
      have HY := hide hy
      have j2 := sq_bound x t i2 (by omega)
      have j4 := sq_bound y b i4 (by omega)
      have j3 := root_pos y b hy i3
      clear hx hy
      go_wp2_with fail
      refine (told_ok x y _ (by omega) (by omega) (by omega) (by omega)).mono ?_
      rintro e w3 ⟨rfl, hb3⟩
      go_wp2_with fail
      go_ret2
      exact ⟨⟨_, 0, rfl, Or.inr ⟨t, b, unhide HN, Or.inl ⟨x, y, unhide HX, unhide HY, rfl, rfl⟩⟩⟩, (hb1.trans ((fl_two hb2).mono hb1.size)).trans ((fl_two hb3).mono (by have := (fl_two hb2).size; have := hb1.size; omega))⟩
    · have H0 := hide h0
      clear h0
      go_wp2_with fail
      refine (told_err 0 1 2 _ rfl).mono ?_
      rintro e w3 ⟨rfl, hb3⟩
      go_wp2_with fail
      go_ret2
      exact ⟨⟨[], 2, rfl, Or.inr ⟨t, b, unhide HN, Or.inr ⟨unhide H0, rfl, rfl⟩⟩⟩, (hb1.trans ((fl_two hb2).mono hb1.size)).trans ((fl_two hb3).mono (by have := (fl_two hb2).size; have := hb1.size; omega))⟩
  · have HN := hide hn
    clear hn
    go_wp2_with fail
    go_ret2
    exact ⟨⟨[], 1, rfl, Or.inl ⟨unhide HN, rfl, rfl⟩⟩, hb1.trans (((Below.refl _ _).alloc (Nat.le_refl _) _).mono hb1.size)⟩
end Go.Proofs.YtikiaijgcjjloaaGreatDoor

/- The walks: two texts read, the program's and the document's. -/
namespace Go.Proofs.YtikiaijgcjjloaaGreatDoor
open Go Go.RowKit M Go.Lib

/-- One of two texts is no number. -/
def NotBoth (a b : ByteArray) : Prop := (∀ t q, ¬ IsNum a.data.toList t q) ∨ (∀ t q, ¬ IsNum b.data.toList t q)

/-- Two blocks of two cells each, then two calls that leave what was there. -/
structure Frame2 (w w1 w2 : World) (x0 x1 y0 y1 : Value) : Prop where
  a0 : w2.cell? ⟨w.heap.size, 0, none⟩ = some x0
  a1 : w2.cell? ⟨w.heap.size, 1, none⟩ = some x1
  b0 : w2.cell? ⟨w.heap.size + 1, 0, none⟩ = some y0
  b1 : w2.cell? ⟨w.heap.size + 1, 1, none⟩ = some y1
  fa0 : w2.frozen? ⟨w.heap.size, 0, none⟩ = false
  fa1 : w2.frozen? ⟨w.heap.size, 1, none⟩ = false
  fb0 : w2.frozen? ⟨w.heap.size + 1, 0, none⟩ = false
  fb1 : w2.frozen? ⟨w.heap.size + 1, 1, none⟩ = false
  z1 : w.heap.size + 2 ≤ w1.heap.size
  z2 : w1.heap.size + 1 ≤ w2.heap.size
  bel : Below w.heap.size w w2

theorem frame2 {w w1 w2 : World} {T : TypeId} {x0 x1 y0 y1 : Value} {o : Obj} (h1 : Below ((w.alloc (.cells #[x0, x1] T)).alloc (.cells #[y0, y1] T)).heap.size ((w.alloc (.cells #[x0, x1] T)).alloc (.cells #[y0, y1] T)) w1) (h2 : Below (w1.alloc o).heap.size (w1.alloc o) w2) : Frame2 w w1 w2 x0 x1 y0 y1 := by
  have z1 : w.heap.size + 2 ≤ w1.heap.size := by have := h1.size; simpa using this
  have z2 : w1.heap.size + 1 ≤ w2.heap.size := by have := h2.size; simpa using this
  have h3 : Below ((w.alloc (.cells #[x0, x1] T)).alloc (.cells #[y0, y1] T)).heap.size ((w.alloc (.cells #[x0, x1] T)).alloc (.cells #[y0, y1] T)) w2 := h1.trans ((fl_two h2).mono (by simpa using z1))
  refine ⟨?_, ?_, ?_, ?_, ?_, ?_, ?_, ?_, z1, z2, ?_⟩
  · rw [h3.cell (p := ⟨w.heap.size, 0, none⟩) (by simp; omega)]; simp [go_sem]
  · rw [h3.cell (p := ⟨w.heap.size, 1, none⟩) (by simp; omega)]; simp [go_sem]
  · rw [h3.cell (p := ⟨w.heap.size + 1, 0, none⟩) (by simp)]; simp [go_sem]
  · rw [h3.cell (p := ⟨w.heap.size + 1, 1, none⟩) (by simp)]; simp [go_sem]
  · rw [h3.frozen (p := ⟨w.heap.size, 0, none⟩) (by simp; omega)]; simp [go_sem]
  · rw [h3.frozen (p := ⟨w.heap.size, 1, none⟩) (by simp; omega)]; simp [go_sem]
  · rw [h3.frozen (p := ⟨w.heap.size + 1, 0, none⟩) (by simp)]; simp [go_sem]
  · rw [h3.frozen (p := ⟨w.heap.size + 1, 1, none⟩) (by simp)]; simp [go_sem]
  · exact (((Below.refl _ _).alloc (Nat.le_refl _) _).alloc (by simp) _).trans (h3.mono (by simp; omega))

theorem four_cells {w w1 w2 : World} {x0 x1 y0 y1 : Value} (h : Frame2 w w1 w2 x0 x1 y0 y1) (a b c d : Value) (o : Obj) :
    (((((w2.setCell ⟨w.heap.size, 0, none⟩ a).setCell ⟨w.heap.size, 1, none⟩ b).setCell ⟨w.heap.size + 1, 0, none⟩ c).setCell ⟨w.heap.size + 1, 1, none⟩ d).alloc o).cell? ⟨w.heap.size, 0, none⟩ = some a ∧ (((((w2.setCell ⟨w.heap.size, 0, none⟩ a).setCell ⟨w.heap.size, 1, none⟩ b).setCell ⟨w.heap.size + 1, 0, none⟩ c).setCell ⟨w.heap.size + 1, 1, none⟩ d).alloc o).cell? ⟨w.heap.size, 1, none⟩ = some b ∧ (((((w2.setCell ⟨w.heap.size, 0, none⟩ a).setCell ⟨w.heap.size, 1, none⟩ b).setCell ⟨w.heap.size + 1, 0, none⟩ c).setCell ⟨w.heap.size + 1, 1, none⟩ d).alloc o).cell? ⟨w.heap.size + 1, 0, none⟩ = some c ∧ (((((w2.setCell ⟨w.heap.size, 0, none⟩ a).setCell ⟨w.heap.size, 1, none⟩ b).setCell ⟨w.heap.size + 1, 0, none⟩ c).setCell ⟨w.heap.size + 1, 1, none⟩ d).alloc o).cell? ⟨w.heap.size + 1, 1, none⟩ = some d ∧ Below w.heap.size w (((((w2.setCell ⟨w.heap.size, 0, none⟩ a).setCell ⟨w.heap.size, 1, none⟩ b).setCell ⟨w.heap.size + 1, 0, none⟩ c).setCell ⟨w.heap.size + 1, 1, none⟩ d).alloc o) := by
  have hs : ((((w2.setCell ⟨w.heap.size, 0, none⟩ a).setCell ⟨w.heap.size, 1, none⟩ b).setCell ⟨w.heap.size + 1, 0, none⟩ c).setCell ⟨w.heap.size + 1, 1, none⟩ d).heap.size = w2.heap.size := by simp
  have z1 := h.z1
  have z2 := h.z2
  have b1 : Below ((((w2.setCell ⟨w.heap.size, 0, none⟩ a).setCell ⟨w.heap.size, 1, none⟩ b).setCell ⟨w.heap.size + 1, 0, none⟩ c).setCell ⟨w.heap.size + 1, 1, none⟩ d).heap.size ((((w2.setCell ⟨w.heap.size, 0, none⟩ a).setCell ⟨w.heap.size, 1, none⟩ b).setCell ⟨w.heap.size + 1, 0, none⟩ c).setCell ⟨w.heap.size + 1, 1, none⟩ d) (((((w2.setCell ⟨w.heap.size, 0, none⟩ a).setCell ⟨w.heap.size, 1, none⟩ b).setCell ⟨w.heap.size + 1, 0, none⟩ c).setCell ⟨w.heap.size + 1, 1, none⟩ d).alloc o) := (Below.refl _ _).alloc (Nat.le_refl _) _
  refine ⟨?_, ?_, ?_, ?_, ((((h.bel.setCell (by simp) _).setCell (by simp) _).setCell (by simp) _).setCell (by simp) _).trans (b1.mono (by rw [hs]; omega))⟩
  · rw [b1.cell (p := ⟨w.heap.size, 0, none⟩) (by rw [hs]; show w.heap.size < _; omega)]; simp [go_sem, h.a0]
  · rw [b1.cell (p := ⟨w.heap.size, 1, none⟩) (by rw [hs]; show w.heap.size < _; omega)]; simp [go_sem, h.a1]
  · rw [b1.cell (p := ⟨w.heap.size + 1, 0, none⟩) (by rw [hs]; show w.heap.size + 1 < _; omega)]; simp [go_sem, h.b0]
  · rw [b1.cell (p := ⟨w.heap.size + 1, 1, none⟩) (by rw [hs]; show w.heap.size + 1 < _; omega)]; simp [go_sem, h.b1]

set_option maxRecDepth 100000 in
set_option maxHeartbeats 1000000 in
theorem readTwo_any (a b : ByteArray) (w : World) (ha : a.size ≤ maxLen) (hb : b.size ≤ maxLen) :
    Calls Tryz.prog 45 #[.string a, .string b] w fun e w' => ((∃ t1 q1 t2 q2, IsNum a.data.toList t1 q1 ∧ IsNum b.data.toList t2 q2 ∧ e = .returned (.tuple #[.agg #[.int .i64 t1, .int .i64 q1], .agg #[.int .i64 t2, .int .i64 q2], .int .i64 0])) ∨ (NotBoth a b ∧ e = .returned (.tuple #[.agg #[.int .i64 0, .int .i64 0], .agg #[.int .i64 0, .int .i64 0], .int .i64 1]))) ∧ Below w.heap.size w w' := by
  go_enter Tryz.func45, Tryz.ntmps45
  go_wp2_with fail
  refine (Read_any a _ ha).mono ?_
  rintro e w1 ⟨⟨t1, q1, hn1, rfl⟩ | ⟨hn1, rfl⟩, hb1⟩
  · have HN1 := hide hn1
    clear hn1
    go_wp2_with fail
    refine (Read_any b _ hb).mono ?_
    rintro e w2 ⟨⟨t2, q2, hn2, rfl⟩ | ⟨hn2, rfl⟩, hb2⟩
    · have HN2 := hide hn2
      clear hn2
      have hF := frame2 hb1 hb2
      obtain ⟨r0, r1, r2, r3, hbel⟩ := four_cells hF (.int .i64 t1) (.int .i64 q1) (.int .i64 t2) (.int .i64 q2) (.cells #[.int .i64 t2, .int .i64 q2] 91)
      obtain ⟨c0, c1, d0, d1, f0, f1, g0, g1, z1, z2, bel⟩ := hF
      obtain ⟨e0, e1⟩ := cell_new2 hb2
      have y1 : ¬ w.heap.size = w1.heap.size := by omega
      have y1' : ¬ w1.heap.size = w.heap.size := by omega
      have y2 : ¬ w.heap.size = w2.heap.size := by omega
      have y2' : ¬ w2.heap.size = w.heap.size := by omega
      have y3 : ¬ w.heap.size + 1 = w1.heap.size := by omega
      have y3' : ¬ w1.heap.size = w.heap.size + 1 := by omega
      have y4 : ¬ w.heap.size + 1 = w2.heap.size := by omega
      have y4' : ¬ w2.heap.size = w.heap.size + 1 := by omega
      have y5 : ¬ w1.heap.size = w2.heap.size := by omega
      have y5' : ¬ w2.heap.size = w1.heap.size := by omega
      have y6 : w.heap.size < w2.heap.size := by omega
      have y7 : w.heap.size + 1 < w2.heap.size := by omega
      have y8 : w1.heap.size < w2.heap.size := by omega
      go_wp2_with fail
      go_region
      all_goals go_wp2_with fail
      exact bodyPost_ret (v := .tuple #[.agg #[.int .i64 t1, .int .i64 q1], .agg #[.int .i64 t2, .int .i64 q2], .int .i64 0]) (by simp [results, Tryz.results45, go_sem, r0, r1, r2, r3]) rfl ⟨Or.inl ⟨t1, q1, t2, q2, unhide HN1, unhide HN2, rfl⟩, hbel.drew⟩
    · have HN2 := hide hn2
      clear hn2
      have hF := frame2 hb1 hb2
      obtain ⟨r0, r1, r2, r3, hbel⟩ := four_cells hF (.int .i64 0) (.int .i64 0) (.int .i64 0) (.int .i64 0) (.cells #[.int .i64 0, .int .i64 0] 91)
      obtain ⟨c0, c1, d0, d1, f0, f1, g0, g1, z1, z2, bel⟩ := hF
      obtain ⟨e0, e1⟩ := cell_new2 hb2
      have y1 : ¬ w.heap.size = w1.heap.size := by omega
      have y1' : ¬ w1.heap.size = w.heap.size := by omega
      have y2 : ¬ w.heap.size = w2.heap.size := by omega
      have y2' : ¬ w2.heap.size = w.heap.size := by omega
      have y3 : ¬ w.heap.size + 1 = w1.heap.size := by omega
      have y3' : ¬ w1.heap.size = w.heap.size + 1 := by omega
      have y4 : ¬ w.heap.size + 1 = w2.heap.size := by omega
      have y4' : ¬ w2.heap.size = w.heap.size + 1 := by omega
      have y5 : ¬ w1.heap.size = w2.heap.size := by omega
      have y5' : ¬ w2.heap.size = w1.heap.size := by omega
      have y6 : w.heap.size < w2.heap.size := by omega
      have y7 : w.heap.size + 1 < w2.heap.size := by omega
      have y8 : w1.heap.size < w2.heap.size := by omega
      go_wp2_with fail
      exact bodyPost_ret (v := .tuple #[.agg #[.int .i64 0, .int .i64 0], .agg #[.int .i64 0, .int .i64 0], .int .i64 1]) (by simp [results, Tryz.results45, go_sem, r0, r1, r2, r3]) rfl ⟨Or.inr ⟨Or.inr (unhide HN2), rfl⟩, hbel⟩
  · have HN1 := hide hn1
    clear hn1
    go_wp2_with fail
    refine (Read_any b _ hb).mono ?_
    rintro e w2 ⟨⟨t2, q2, hn2, rfl⟩ | ⟨hn2, rfl⟩, hb2⟩
    · clear hn2
      have hF := frame2 hb1 hb2
      obtain ⟨r0, r1, r2, r3, hbel⟩ := four_cells hF (.int .i64 0) (.int .i64 0) (.int .i64 0) (.int .i64 0) (.cells #[.int .i64 t2, .int .i64 q2] 91)
      obtain ⟨c0, c1, d0, d1, f0, f1, g0, g1, z1, z2, bel⟩ := hF
      obtain ⟨e0, e1⟩ := cell_new2 hb2
      have y1 : ¬ w.heap.size = w1.heap.size := by omega
      have y1' : ¬ w1.heap.size = w.heap.size := by omega
      have y2 : ¬ w.heap.size = w2.heap.size := by omega
      have y2' : ¬ w2.heap.size = w.heap.size := by omega
      have y3 : ¬ w.heap.size + 1 = w1.heap.size := by omega
      have y3' : ¬ w1.heap.size = w.heap.size + 1 := by omega
      have y4 : ¬ w.heap.size + 1 = w2.heap.size := by omega
      have y4' : ¬ w2.heap.size = w.heap.size + 1 := by omega
      have y5 : ¬ w1.heap.size = w2.heap.size := by omega
      have y5' : ¬ w2.heap.size = w1.heap.size := by omega
      have y6 : w.heap.size < w2.heap.size := by omega
      have y7 : w.heap.size + 1 < w2.heap.size := by omega
      have y8 : w1.heap.size < w2.heap.size := by omega
      go_wp2_with fail
      exact bodyPost_ret (v := .tuple #[.agg #[.int .i64 0, .int .i64 0], .agg #[.int .i64 0, .int .i64 0], .int .i64 1]) (by simp [results, Tryz.results45, go_sem, r0, r1, r2, r3]) rfl ⟨Or.inr ⟨Or.inl (unhide HN1), rfl⟩, hbel⟩
    · clear hn2
      have hF := frame2 hb1 hb2
      obtain ⟨r0, r1, r2, r3, hbel⟩ := four_cells hF (.int .i64 0) (.int .i64 0) (.int .i64 0) (.int .i64 0) (.cells #[.int .i64 0, .int .i64 0] 91)
      obtain ⟨c0, c1, d0, d1, f0, f1, g0, g1, z1, z2, bel⟩ := hF
      obtain ⟨e0, e1⟩ := cell_new2 hb2
      have y1 : ¬ w.heap.size = w1.heap.size := by omega
      have y1' : ¬ w1.heap.size = w.heap.size := by omega
      have y2 : ¬ w.heap.size = w2.heap.size := by omega
      have y2' : ¬ w2.heap.size = w.heap.size := by omega
      have y3 : ¬ w.heap.size + 1 = w1.heap.size := by omega
      have y3' : ¬ w1.heap.size = w.heap.size + 1 := by omega
      have y4 : ¬ w.heap.size + 1 = w2.heap.size := by omega
      have y4' : ¬ w2.heap.size = w.heap.size + 1 := by omega
      have y5 : ¬ w1.heap.size = w2.heap.size := by omega
      have y5' : ¬ w2.heap.size = w1.heap.size := by omega
      have y6 : w.heap.size < w2.heap.size := by omega
      have y7 : w.heap.size + 1 < w2.heap.size := by omega
      have y8 : w1.heap.size < w2.heap.size := by omega
      go_wp2_with fail
      exact bodyPost_ret (v := .tuple #[.agg #[.int .i64 0, .int .i64 0], .agg #[.int .i64 0, .int .i64 0], .int .i64 1]) (by simp [results, Tryz.results45, go_sem, r0, r1, r2, r3]) rfl ⟨Or.inr ⟨Or.inl (unhide HN1), rfl⟩, hbel⟩
end Go.Proofs.YtikiaijgcjjloaaGreatDoor

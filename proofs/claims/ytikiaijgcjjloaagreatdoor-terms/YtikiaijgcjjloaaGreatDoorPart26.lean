import Derived.Test.YtikiaijgcjjloaaGreatDoorPart19
import Derived.Test.YtikiaijgcjjloaaGreatDoorPart25
import Derived.Deep.DeepCutAuto
import Derived.BigRegion

/- The walks: the document's sessions: Define. -/
namespace Go.Proofs.YtikiaijgcjjloaaGreatDoor
open Go Go.RowKit M T Go.Lib

theorem Tryz.infoDef : (Tryz.prog.info? 114).map (fun i => (i.zero, i.size, i.bytes)) = some (some (.agg #[.int .u8 0, .string ⟨#[]⟩, .int .i64 0]), 3, 32) := by kernel_rfl
theorem one_dcells (d : D) : ∀ u ∈ dcells d, u.oneCell' = true := by
  intro u hu
  simp only [dcells, List.mem_cons, List.not_mem_nil, or_false] at hu
  rcases hu with rfl | rfl | rfl <;> rfl
theorem RSes.apart {w : World} {rb : Nat} {v : Value} {ds : List D} (h : RSes w rb v ds) : v.ownBlock ≠ some rb := by
  intro e
  rcases h.own.2 with ⟨h1, _⟩ | ⟨g, cap, cur, hv, _, hh, _⟩
  · rw [h1] at e; cases e
  · rw [hv] at e; cases e
    have := h.blk
    rw [hh] at this; cases this
theorem RSes.old {w w1 : World} {rb : Nat} {v : Value} {ds : List D} (h : RSes w rb v ds) {o : Obj} (hg : (w.alloc o).drew.grownBy w1 v.ownBlock) : (∀ k, k < w.heap.size → v.ownBlock ≠ some k → w1.heap[k]? = w.heap[k]?) ∧ w.heap.size ≤ w1.heap.size ∧ w1.heap[rb]? = some (.cells #[v] 78 (0, 0)) := by
  have hold : ∀ k, k < w.heap.size → v.ownBlock ≠ some k → w1.heap[k]? = w.heap[k]? := by
    intro k hk hn
    rw [hg.block k (by show k < (w.heap.push _).size; simp; omega) (fun e => hn e.symm)]
    show (w.alloc _).heap[k]? = _
    rw [Below.heap_alloc _ _ _ hk]
  refine ⟨hold, ?_, (hold rb (lt_of_block h.blk) h.apart).trans h.blk⟩
  have e : w.heap.size ≤ (w.heap.push o).size := by simp
  exact Nat.le_trans e hg.size
theorem RSes.put {w w1 : World} {rb : Nat} {v v' : Value} {ds : List D} {d : D} (h : RSes w rb v ds) {o : Obj} (hg : (w.alloc o).drew.grownBy w1 v.ownBlock) (hown : w1.ownsRow 0 114 3 v' (ds.length + 1) (drow ds ++ dcells d)) (hok : DefsOk (ds ++ [d])) : RSes (w1.setCell ⟨rb, 0, none⟩ v') rb v' (ds ++ [d]) ∧ Chg rb v w (w1.setCell ⟨rb, 0, none⟩ v') := by
  obtain ⟨h1, h2, h3⟩ := h.old hg
  refine ⟨⟨blk_set h3 0 v', ?_, hok⟩, Chg.setCell (show Chg rb v w w1 from ⟨hg.os, hg.tape, hg.output, h2, fun k hk _ hn => h1 k hk hn⟩) _ _⟩
  rw [← drow_snoc, List.length_append]
  refine ⟨hown.1, ?_⟩
  rcases hown.2 with h4 | ⟨g, cap, cur, hv, hg0, hh, r⟩
  · exact Or.inl h4
  · refine Or.inr ⟨g, cap, cur, hv, hg0, ?_, r⟩
    rw [Below.heap_setCell _ _ _ _ (by show g ≠ rb; rintro rfl; rw [hh] at h3; cases h3)]
    exact hh
/-- What Define leaves behind. -/
structure RPut (w : World) (rb : Nat) (v : Value) (ds : List D) (v' : Value) (ds' : List D) (w' : World) : Prop where
  ses : RSes w' rb v' ds'
  chg : Chg rb v w w'
  len : ds'.length ≤ ds.length + 1
  own : v'.ownBlock = v.ownBlock ∨ ∀ g, v'.ownBlock = some g → w.heap.size ≤ g
theorem RPut.same {w w' : World} {rb : Nat} {v : Value} {ds : List D} (h : RSes w rb v ds) (hb : Below w.heap.size w w') : RPut w rb v ds v ds w' := ⟨h.below hb, Chg.of_below hb, Nat.le_succ _, Or.inl rfl⟩

set_option maxRecDepth 100000 in
set_option maxHeartbeats 3200000 in
theorem rDefine_any (hP : RPS 1000) (hF : FS 1000) {rb : Nat} {v : Value} {ds : List D} (name s : ByteArray) (w : World) (h : RSes w rb v ds) (hl : (ds.length + 1) * 32 ≤ 140737488355328) :
    Calls Tryz.prog 39 #[.pointer (some ⟨rb, 0, none⟩), .string name, .string s] w fun e w' => ∃ c v' ds', e = .returned (.int .i64 c) ∧ DefineSays (envOf ds) name.data.toList s.data.toList c (envOf ds') ∧ RPut w rb v ds v' ds' w' := by
  obtain ⟨i0, hi, hz0, hz1, hz2⟩ := info_parts Tryz.infoDef
  have HP := hide hP
  have HF := hide hF
  have H := hide h
  have hlm : ds.length ≤ maxLen := by unfold maxLen; omega
  clear hP hF h
  by_cases h1 : name.size = 1
  · have hne : (((name.size : Nat) : Int) != 1) = false := by rw [h1]; rfl
    have hix : (0 : Int) < (name.size : Int) := by omega
    have HN := hide (name_one h1)
    have h10 : 0 < name.size := by omega
    obtain ⟨c, hc⟩ : ∃ c, name[0] = c := ⟨_, rfl⟩
    by_cases h2 : 65 ≤ c.toNat ∧ c.toNat ≤ 90
    · obtain ⟨h2, h3⟩ := h2
      have g2 : ¬ (c.toNat : Int) < 65 := by omega
      have g3 : ¬ (90 : Int) < (c.toNat : Int) := by omega
      go_enter Tryz.func39, Tryz.ntmps39
      go_wp2_with fail
      refine (check_any (unhide HP) s _ (unhide H) hlm).mono ?_
      rintro e w1 ⟨⟨k, rfl, hk⟩, hb1⟩
      have HB1 := hide hb1
      have H1 := hide ((unhide H).below hb1)
      clear hb1
      rcases hk with hk | ⟨rfl, t, hg⟩
      · have hke : (k != 0) = true := by rw [bne_iff_ne]; exact hk.ne
        have HC := hide hk
        clear hk
        go_wp2_with fail
        go_ret
        exact ⟨k, v, ds, rfl, Or.inr ⟨c, by rw [unhide HN, hc], h2, h3, Or.inl ⟨unhide HC, rfl⟩⟩, RPut.same (unhide H) (unhide HB1)⟩
      · have HG := hide hg
        have hb0 : w1.cell? ⟨rb, 0, none⟩ = some v := blk_cell (unhide H1).blk 0
        obtain ⟨ao, cap, hv, _⟩ := (unhide H1).slice
        have hsz : s.size ≤ 1000 := by have := hg.len; simp at this; omega
        subst hv
        clear hg
        go_wp2_with fail
        refine (unhide HF s t ds rb _ ds.length _ hsz hsz (unhide H1) (Nat.le_refl _) hlm (by rw [List.take_length]; exact (unhide HG).term)).mono ?_
        rintro e w2 ⟨rfl, hb2⟩
        have HB2 := hide ((unhide HB1).trans (hb2.mono (unhide HB1).size))
        have H2 := hide ((unhide H1).below hb2)
        have hb02 : w2.cell? ⟨rb, 0, none⟩ = some (.slice ao ds.length cap) := blk_cell (unhide H2).blk 0
        have hbf2 : ∀ i, w2.frozen? ⟨rb, i, none⟩ = false := fun i => blk_free (unhide H2).blk i
        have hlt2 := lt_of_block (unhide H2).blk
        have hlen0 := owns_len (unhide H2).own
        have HOk := hide ((unhide H2).ok.snoc (d := ⟨c, s, t⟩) (unhide HG) ⟨h2, h3⟩)
        clear hb2 hb0
        go_upto_region 7 with fail
        go_cut [] (fun wx => ∃ v', RSes wx rb v' (ds ++ [⟨c, s, t⟩]) ∧ Chg rb (.slice ao ds.length cap) w2 wx ∧ (v'.ownBlock = (Value.slice ao ds.length cap).ownBlock ∨ ∀ g, v'.ownBlock = some g → w2.heap.size ≤ g))
        case first =>
          go_region_law (refine step_append_own rfl (.tmp 40) (.tmp 46) 76 rfl 0 114 i0 _ 3 32 Tryz.underlying76 hi hz0 hz1 hz2 rfl (by decide) (.slice ao ds.length cap) ds.length (drow ds) (by simp [Act.eval]) (by first | exact ((unhide H2).own.alloc _).drew | exact (unhide H2).own.drew.alloc _) ⟨w2.heap.size, 0, none⟩ 1 1 (dcells ⟨c, s, t⟩) (by simp [Act.eval]) rfl (by exact news_alloc w2 (dcells ⟨c, s, t⟩) 114) (one_dcells _) (by unfold maxLen; omega) (by omega) (by simp) ?_; intro v' w3 hown3 hgr3 hnn3 hwh3; obtain ⟨g', cap', rfl⟩ := owns_some hown3 (fun e => absurd (hnn3.1 e).2 (by decide)); have hc3 : w3.cell? ⟨rb, 0, none⟩ = some (.slice ao ds.length cap) := blk_cell ((unhide H2).old hgr3).2.2 0; have hf3 : ∀ i, w3.frozen? ⟨rb, i, none⟩ = false := fun i => blk_free ((unhide H2).old hgr3).2.2 i)
          all_goals go_wp2_with fail
          all_goals go_meet
          all_goals exact ⟨_, ((unhide H2).put hgr3 hown3 (unhide HOk)).1, ((unhide H2).put hgr3 hown3 (unhide HOk)).2, hwh3.imp id (fun h g hg => by have := h g hg; simp at this; omega)⟩
        case rest =>
        obtain ⟨v', hs', hch, hw'⟩ := hcut
        have HS := hide hs'
        have HCh := hide hch
        have HW := hide hw'
        clear hs' hch hw'
        go_wp2_with fail
        go_ret
        refine ⟨0, v', ds ++ [⟨c, s, t⟩], rfl, Or.inr ⟨c, by rw [unhide HN, hc], h2, h3, Or.inr ⟨t, unhide HG, rfl, by rw [envOf_snoc]⟩⟩, unhide HS, (Chg.of_below (unhide HB2)).trans (unhide HCh), by simp, (unhide HW).imp id (fun h g hg => Nat.le_trans (unhide HB2).size (h g hg))⟩
    · have h2' : c.toNat < 65 ∨ 90 < c.toNat := by omega
      have H2 := hide h2
      clear h2
      go_enter Tryz.func39, Tryz.ntmps39
      have HX : Hid (DefineSays (envOf ds) name.data.toList s.data.toList 4 (envOf ds)) := Or.inl ⟨by rintro ⟨d, hd, d1, d2⟩; rw [unhide HN, hc] at hd; cases hd; exact unhide H2 ⟨d1, d2⟩, rfl, rfl⟩
      rcases h2' with h2' | h2'
      · have g2 : (c.toNat : Int) < 65 := by omega
        go_wp2_with fail
        go_ret
        first
          | exact ⟨4, v, ds, rfl, unhide HX, RPut.same (unhide H) (Below.refl _ _)⟩
          | exact ⟨4, rfl, v, ds, unhide HX, RPut.same (unhide H) (Below.refl _ _)⟩
      · have g2 : ¬ (c.toNat : Int) < 65 := by omega
        have g3 : (90 : Int) < (c.toNat : Int) := by omega
        go_wp2_with fail
        go_ret
        first
          | exact ⟨4, v, ds, rfl, unhide HX, RPut.same (unhide H) (Below.refl _ _)⟩
          | exact ⟨4, rfl, v, ds, unhide HX, RPut.same (unhide H) (Below.refl _ _)⟩
  · have hne : (((name.size : Nat) : Int) != 1) = true := by rw [bne_iff_ne]; omega
    have H1 := hide h1
    clear h1
    go_enter Tryz.func39, Tryz.ntmps39
    go_wp2_with fail
    go_ret
    exact ⟨4, v, ds, rfl, Or.inl ⟨by
      rintro ⟨d, hd, _, _⟩
      have := congrArg List.length hd
      exact unhide H1 (by simpa using this), rfl, rfl⟩, RPut.same (unhide H) (Below.refl _ _)⟩
end Go.Proofs.YtikiaijgcjjloaaGreatDoor

/- The walks: the document's opposites: letters. -/
namespace Go.Proofs.YtikiaijgcjjloaaGreatDoor
open Go Go.RowKit M T Go.Lib

def tFrom : ByteArray := ⟨#[110, 118, 113, 119, 117, 114, 115, 122, 112, 109, 111, 43, 42, 60]⟩
def tTo : ByteArray := ⟨#[110, 118, 119, 117, 119, 114, 122, 115, 111, 111, 109, 43, 42, 60]⟩
/-- What turned answers. -/
def TurnIs (f t : ByteArray) (c r : UInt8) : Prop := (∃ i, ∃ (h : i < f.size) (h' : i < t.size), f[i] = c ∧ r = t[i]) ∨ ((∀ i (h : i < f.size), f[i] ≠ c) ∧ r = c)
theorem turn_opp {y y2 : Sp} (h : y.opp = some y2) {r : UInt8} (hr : TurnIs tFrom tTo y.first r) : r = y2.first := by
  have key : ∀ i : Fin 14, ∀ c d : UInt8, (c, d) ∈ [((110 : UInt8), (110 : UInt8)), (118, 118), (113, 119), (119, 117), (117, 119), (114, 114), (115, 122), (122, 115), (112, 111), (109, 111), (111, 109), (43, 43), (42, 42), (60, 60)] → tFrom.data.toList[i.val]? = some c → tTo.data.toList[i.val]? = some d := by
    intro i c d hm
    simp only [List.mem_cons, Prod.mk.injEq, List.not_mem_nil, or_false] at hm
    rcases hm with ⟨rfl, rfl⟩ | ⟨rfl, rfl⟩ | ⟨rfl, rfl⟩ | ⟨rfl, rfl⟩ | ⟨rfl, rfl⟩ | ⟨rfl, rfl⟩ | ⟨rfl, rfl⟩ | ⟨rfl, rfl⟩ | ⟨rfl, rfl⟩ | ⟨rfl, rfl⟩ | ⟨rfl, rfl⟩ | ⟨rfl, rfl⟩ | ⟨rfl, rfl⟩ | ⟨rfl, rfl⟩ <;> revert i <;> decide
  have hm : (y.first, y2.first) ∈ [((110 : UInt8), (110 : UInt8)), (118, 118), (113, 119), (119, 117), (117, 119), (114, 114), (115, 122), (122, 115), (112, 111), (109, 111), (111, 109), (43, 43), (42, 42), (60, 60)] := by
    cases y with
    | times c =>
      rw [show (Sp.times c).opp = (if c = 0 then none else some (.times c⁻¹)) from rfl] at h
      split at h
      · cases h
      · cases h; simp [Sp.first]
    | a => cases h
    | set c => cases h
    | take k => cases h
    | drop k => cases h
    | pick l => cases h
    | _ => cases h; simp [Sp.first]
  rcases hr with ⟨i, h1, h2, h3, h4⟩ | ⟨hno, _⟩
  · have := key ⟨i, h1⟩ _ _ hm (by
      rw [← h3]
      exact List.getElem?_eq_getElem (by simpa using h1))
    have e2 : tTo.data.toList[i]? = some tTo[i] := List.getElem?_eq_getElem (by simpa using h2)
    rw [e2] at this
    rw [h4]
    exact Option.some.inj this
  · exfalso
    simp only [List.mem_cons, Prod.mk.injEq, List.not_mem_nil, or_false] at hm
    rcases hm with ⟨e, _⟩ | ⟨e, _⟩ | ⟨e, _⟩ | ⟨e, _⟩ | ⟨e, _⟩ | ⟨e, _⟩ | ⟨e, _⟩ | ⟨e, _⟩ | ⟨e, _⟩ | ⟨e, _⟩ | ⟨e, _⟩ | ⟨e, _⟩ | ⟨e, _⟩ | ⟨e, _⟩
    · exact hno 0 (by decide) (by rw [e]; rfl)
    · exact hno 1 (by decide) (by rw [e]; rfl)
    · exact hno 2 (by decide) (by rw [e]; rfl)
    · exact hno 3 (by decide) (by rw [e]; rfl)
    · exact hno 4 (by decide) (by rw [e]; rfl)
    · exact hno 5 (by decide) (by rw [e]; rfl)
    · exact hno 6 (by decide) (by rw [e]; rfl)
    · exact hno 7 (by decide) (by rw [e]; rfl)
    · exact hno 8 (by decide) (by rw [e]; rfl)
    · exact hno 9 (by decide) (by rw [e]; rfl)
    · exact hno 10 (by decide) (by rw [e]; rfl)
    · exact hno 11 (by decide) (by rw [e]; rfl)
    · exact hno 12 (by decide) (by rw [e]; rfl)
    · exact hno 13 (by decide) (by rw [e]; rfl)

set_option maxRecDepth 100000 in
set_option maxHeartbeats 800000 in
theorem turned_any (c : UInt8) (w : World) : Calls Tryz.prog 171 #[.int .u8 (c.toNat : Int)] w fun e w' => ∃ r : UInt8, e = .returned (.int .u8 (r.toNat : Int)) ∧ TurnIs tFrom tTo c r ∧ w = w' := by
  go_enter Tryz.func171, Tryz.ntmps171
  go_wp2_with fail
  obtain ⟨f, hfe⟩ : ∃ f, f = tFrom := ⟨_, rfl⟩
  obtain ⟨t, hte⟩ : ∃ t, t = tTo := ⟨_, rfl⟩
  have hs1 : f.size = 14 := by rw [hfe]; rfl
  have hs2 : t.size = 14 := by rw [hte]; rfl
  rw [show ({ data := #[110, 118, 113, 119, 117, 114, 115, 122, 112, 109, 111, 43, 42, 60] } : ByteArray) = f from hfe.symm, show ({ data := #[110, 118, 119, 117, 119, 114, 122, 115, 111, 111, 109, 43, 42, 60] } : ByteArray) = t from hte.symm]
  have HFE := hide hfe
  have HTE := hide hte
  clear hfe hte
  go_loopg [5] 14 (fun k v wr => ∃ i : Nat, k = 14 - i ∧ i ≤ 14 ∧ v = .int .i64 (i : Int) ∧ (∀ j (h : j < f.size), j < i → f[j] ≠ c) ∧ w = wr)
  case atStart => exact ⟨0, rfl, Nat.zero_le _, rfl, fun j _ h => absurd h (Nat.not_lt_zero _), rfl⟩
  case round =>
    obtain ⟨i, hk, hi, rfl, hno, rfl⟩ := hrel
    have HK := hide hk
    have HNo := hide hno
    clear hk hno
    by_cases hlt : i < 14
    · have hf : i < f.size := by omega
      have ht : i < t.size := by omega
      have hlt' : (i : Int) < (f.size : Int) := by omega
      have hlt2 : (i : Int) < (t.size : Int) := by omega
      by_cases he : f[i] = c
      · have he' : ((f[i].toNat : Int) == (c.toNat : Int)) = true := by rw [he]; simp
        have HX := hide (show TurnIs tFrom tTo c t[i] by rw [← unhide HFE, ← unhide HTE]; exact Or.inl ⟨i, hf, ht, he, rfl⟩)
        go_wp2_with fail
        go_ret
        exact ⟨t[i], rfl, unhide HX, rfl⟩
      · have he' : ((f[i].toNat : Int) == (c.toNat : Int)) = false := by
          rw [beq_eq_false_iff_ne]
          intro e
          exact he (UInt8.toNat_inj.1 (by omega))
        have HE := hide he
        go_wp2_with fail
        go_roundg (14 - (i + 1))
        case measure => rw [unhide HK]; omega
        case rel => exact ⟨i + 1, rfl, by omega, rfl, fun j h hj => by
          rcases Nat.lt_or_ge j i with h1 | h1
          · exact unhide HNo j h h1
          · have e : j = i := by omega
            subst e
            exact unhide HE, rfl⟩
    · have hlt' : ¬ (i : Int) < (f.size : Int) := by omega
      go_wp2_with fail
      go_ret
      exact ⟨c, rfl, by rw [← unhide HFE, ← unhide HTE]; exact Or.inr ⟨fun j h => unhide HNo j h (by omega), rfl⟩, rfl⟩
end Go.Proofs.YtikiaijgcjjloaaGreatDoor

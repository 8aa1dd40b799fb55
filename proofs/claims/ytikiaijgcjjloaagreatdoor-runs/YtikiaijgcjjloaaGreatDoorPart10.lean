import Derived.Test.YtikiaijgcjjloaaGreatDoorPart9
import Derived.OwnWalk
import Derived.Laws.OwnMore
import Derived.Deep.LoopGhost
import Derived.Deep.DeepCutAuto

namespace Go.Proofs.YtikiaijgcjjloaaGreatDoor
open Go Go.RowKit M T Go.Lib
def ints (ps : List Nat) : List Value := ps.map fun i : Nat => Value.int .i64 (i : Int)
theorem contains_step {ps : List Nat} {k j : Nat} (hj : j < ps.length) (h : ∀ i (h : i < ps.length), i < j → ps[i] ≠ k) (hk : ps[j] ≠ k) : ∀ i (h : i < ps.length), i < j + 1 → ps[i] ≠ k := by
  intro i hi hlt
  by_cases e : i = j
  · subst e; exact hk
  · exact h i hi (by omega)
set_option maxRecDepth 100000 in
set_option maxHeartbeats 600000 in
theorem contains_any (g cap : Nat) (ps : List Nat) (k : Nat) (w : World) (hc : ∀ i (h : i < ps.length), w.cell? ⟨g, i, none⟩ = some (.int .i64 (ps[i] : Int))) (hl : ps.length ≤ 120) :
    Calls Tryz.prog 158 #[.slice (some ⟨g, 0, none⟩) ps.length cap, .int .i64 (k : Int)] w fun e w' => e = .returned (.bool (decide (k ∈ ps))) ∧ w = w' := by
  go_enter Tryz.func158, Tryz.ntmps158
  go_wp2_with fail
  go_loopw [6, 9] (fun _ i wr => ∃ j : Nat, j ≤ ps.length ∧ i = .int .i64 (j : Int) ∧ Hid (∀ i (h : i < ps.length), i < j → ps[i] ≠ k) ∧ w = wr) (fun _ i _ => ps.length - (RowKit.intOf i).toNat)
  case atStart => exact ⟨0, by omega, rfl, fun i _ h => by omega, rfl⟩
  case round =>
    obtain ⟨j, hj, rfl, HJ, rfl⟩ := hrel
    by_cases hlt : j < ps.length
    · have hcj := hc j hlt
      by_cases hk : ps[j] = k
      · have hb : (((ps[j] : Nat) : Int) == (k : Int)) = true := by rw [hk]; simp
        have HM := hide (show k ∈ ps from hk ▸ List.getElem_mem hlt)
        clear hk
        go_wp2_with fail
        go_ret
        exact ⟨ret_bool (by simpa using unhide HM), rfl⟩
      · have hb : (((ps[j] : Nat) : Int) == (k : Int)) = false := by rw [beq_eq_false_iff_ne]; omega
        have HJ2 := hide (contains_step hlt (unhide HJ) hk)
        clear hk
        go_wp2_with fail
        go_roundw
        case rel => exact ⟨j + 1, by omega, by go_num, HJ2, by trivial⟩
        case measure => simp [RowKit.intOf]; omega
    · have hlt' : ¬ (j : Int) < (ps.length : Int) := by omega
      have HM := hide (show k ∉ ps from fun hm => by
        obtain ⟨i, hi, e⟩ := List.getElem_of_mem hm
        exact unhide HJ i hi (by omega) e)
      go_wp2_with fail
      go_ret
      exact ⟨ret_bool (by simpa using unhide HM), rfl⟩
theorem Tryz.infoInt : (Tryz.prog.info? 3).map (fun i => (i.zero, i.size, i.bytes)) = some (some (.int .i64 0), 1, 8) := by kernel_rfl
theorem ints_snoc (qs : List Nat) (k : Nat) : ints qs ++ [.int .i64 (k : Int)] = ints (qs ++ [k]) := by unfold ints; simp
theorem owns_int {w : World} {B : Nat} {g cap n : Nat} {qs : List Nat} (h : w.ownsRow B 3 1 (.slice (some ⟨g, 0, none⟩) n cap) qs.length (ints qs)) : n = qs.length ∧ B ≤ g ∧ ∀ i (h : i < qs.length), w.cell? ⟨g, i, none⟩ = some (.int .i64 (qs[i] : Int)) := by
  refine ⟨?_, (h.lt g rfl).1, fun i hi => ?_⟩
  · rcases h.2 with ⟨h2, _⟩ | ⟨g', cap', cur, hv, _⟩
    · cases h2
    · cases hv; rfl
  · have hu : (ints qs)[i]? = some (.int .i64 (qs[i] : Int)) := by
      unfold ints
      rw [List.getElem?_map, List.getElem?_eq_getElem hi]
      rfl
    have := h.cells (g := g) rfl i _ hu
    rw [show (⟨g, 0, none⟩ : Addr).add i = ⟨g, i, none⟩ from by unfold Addr.add; split <;> simp_all] at this
    exact this
theorem owns_some {w : World} {B : Nat} {e : TypeId} {size : Nat} {v : Value} {n : Nat} {xs : List Value} (h : w.ownsRow B e size v n xs) (hn : v ≠ .slice none 0 0) : ∃ g cap, v = .slice (some ⟨g, 0, none⟩) n cap := by
  rcases h.2 with ⟨h2, _⟩ | ⟨g', cap', cur, hv, _⟩
  · exact absurd h2 hn
  · exact ⟨g', cap', hv⟩
structure PlR (rb : Nat) (s : ByteArray) (nm : Nat → Option Nat) (u : Bool) (a : Nat) (w : World) (b : Nat) (qs : List Nat) (v : Value) (m : Bool) (wr : World) : Prop where
  hb : b ≤ s.size
  hq : qs.length ≤ b
  rs : RS rb s nm b u wr
  but : But rb w wr
  blk : wr.heap[w.heap.size]? = some (.cells #[.int .u8 0, .int .u8 0, .int .i64 0, .int .i64 0, .int .i64 0, .slice none 0 0, .pointer none, .pointer none] 148 (0, 0))
  own : wr.ownsRow (w.heap.size + 1) 3 1 v qs.length (ints qs)
  nn : v ≠ .slice none 0 0
  go : (m = true ∧ PlGo (rest s a) qs (rest s b)) ∨ (m = false ∧ PlAt (rest s a) (some (qs, rest s b)))
theorem wh_moves {s : ByteArray} {b b' : Nat} {lo hi k : Int} (hb : b ≤ s.size) (hb' : b' ≤ s.size) (h : WhAt (rest s b) lo hi (some (k, rest s b'))) : b < b' := by
  obtain ⟨_, _, e⟩ := h.sound _ _ rfl
  have := congrArg List.length e
  rw [List.length_append, rest_len, rest_len] at this
  have h1 : 1 ≤ (itoa k).length := by
    by_cases hk : k < 0
    · rw [M.itoa_neg k hk]; simp
    · rw [M.itoa_pos k hk]; exact dec_length_pos _
  omega
theorem owns_but {rb : Nat} {w w1 : World} {B : Nat} {e : TypeId} {size : Nat} {v : Value} {n : Nat} {xs : List Value} (h : w.ownsRow B e size v n xs) (hb : But rb w w1) (hr : rb < B) : w1.ownsRow B e size v n xs := by
  refine ⟨h.1, ?_⟩
  rcases h.2 with h2 | ⟨g, cap, cur, hv, hg, hh, r⟩
  · exact Or.inl h2
  · exact Or.inr ⟨g, cap, cur, hv, hg, by rw [hb.block g (lt_of_block hh) (by omega)]; exact hh, r⟩
def pcPl (v : Option Addr) (n cap : Nat) : PC := ⟨35, 0, 0, 0, 0, v, n, cap, none, none⟩
theorem PlR.read {rb : Nat} {s : ByteArray} {nm : Nat → Option Nat} {u : Bool} {a : Nat} {w : World} {b : Nat} {qs : List Nat} {v : Value} {m : Bool} {wr w1 : World} (h : PlR rb s nm u a w b qs v m wr) (hlt : rb < w.heap.size) (hb : But rb wr w1) : But rb w w1 ∧ w1.heap[w.heap.size]? = some (.cells #[.int .u8 0, .int .u8 0, .int .i64 0, .int .i64 0, .int .i64 0, .slice none 0 0, .pointer none, .pointer none] 148 (0, 0)) ∧ w1.ownsRow (w.heap.size + 1) 3 1 v qs.length (ints qs) :=
  ⟨h.but.trans hb, by rw [hb.block _ (lt_of_block h.blk) (by omega)]; exact h.blk, owns_but h.own hb (by omega)⟩
theorem pl_app {rb : Nat} {s : ByteArray} {nm : Nat → Option Nat} {u : Bool} {w w1 w2 : World} {b : Nat} {g n cap : Nat} {c : Array Value} {T : TypeId} {o : Obj} (hlt : rb < w.heap.size) (h1 : RS rb s nm b u w1) (hb1 : But rb w w1) (hk : w1.heap[w.heap.size]? = some (.cells c T (0, 0))) (hg : w.heap.size + 1 ≤ g) (hgr : (w1.alloc o).grownBy w2 (Value.slice (some ⟨g, 0, none⟩) n cap).ownBlock) : RS rb s nm b u w2 ∧ But rb w w2 ∧ w2.heap[w.heap.size]? = some (.cells c T (0, 0)) := by
  have hl1 := h1.lt
  have hl2 : w.heap.size < w1.heap.size := lt_of_block hk
  refine ⟨⟨?_⟩, (hb1.alloc o).grown hgr (fun k hk => ?_), ?_⟩
  · rw [hgr.block rb (by show _ < (w1.heap.push _).size; simp; omega) (by intro e; simp [Value.ownBlock] at e; omega), Below.heap_alloc _ _ _ hl1]
    exact h1.blk
  · simp [Value.ownBlock] at hk
    omega
  · rw [hgr.block _ (by show _ < (w1.heap.push _).size; simp; omega) (by intro e; simp [Value.ownBlock] at e; omega), Below.heap_alloc _ _ _ hl2]
    exact hk
set_option maxRecDepth 100000 in
set_option maxHeartbeats 3200000 in
theorem readPlaces_any {rb : Nat} {s : ByteArray} {nm : Nat → Option Nat} {a : Nat} {u : Bool} (env : Env) (B0 : Nat) (w : World) (h : RS rb s nm a u w) (ha : a ≤ s.size) (hs : s.size ≤ 120) :
    Calls Tryz.prog 118 #[.pointer (some ⟨rb, 0, none⟩)] w fun e w' => But rb w w' ∧ Got env (fun k => k < B0 ∨ w.heap.size ≤ k) rb s nm u (35 :: rest s a) e w' := by
  have hlt := h.lt
  obtain ⟨i0, hi, hz0, hz1, hz2⟩ := info_parts Tryz.infoInt
  go_enter Tryz.func118, Tryz.ntmps118
  go_wp2_with fail
  go_loopg [4, 5] (2 * (s.size - a) + 1) (fun gk v m wr => ∃ b qs m', m = .bool m' ∧ gk = 2 * (s.size - b) + (if m' then 1 else 0) ∧ PlR rb s nm u a w b qs v m' wr)
  case atStart =>
    refine ⟨a, [], true, rfl, rfl, ha, Nat.zero_le _, (h.alloc _).alloc _, ((But.refl _ _).alloc _).alloc _, ?_, ?_, by simp, Or.inl ⟨rfl, PlGo.start _⟩⟩
    · rw [Below.heap_alloc _ _ _ (by simp)]
      exact heap_alloc_new w _
    · have := World.ownsRow_made (base := w.heap.size + 1) (e := 3) (size := 1) (w.alloc (.cells #[.int .u8 0, .int .u8 0, .int .i64 0, .int .i64 0, .int .i64 0, .slice none 0 0, .pointer none, .pointer none] 148)) #[] 0 (by simp) (by decide) rfl
      rw [World.size_alloc] at this
      exact this
  case round =>
    obtain ⟨b, qs, m', rfl, hgk, hR⟩ := hrel
    obtain ⟨g, cap, rfl⟩ := owns_some hR.own hR.nn
    clear h
    cases m' with
    | false =>
      have hc : ∀ i, wr.cell? ⟨w.heap.size, i, none⟩ = _ := fun i => blk_cell hR.blk i
      have hf : ∀ i, wr.frozen? ⟨w.heap.size, i, none⟩ = false := fun i => blk_free hR.blk i
      have hb := hR.hb
      have HR := hide hR
      clear hR hgk
      go_wp2_with fail
      have hR := unhide HR
      have hpl : PlAt (rest s a) (some (qs, rest s b)) := by
        rcases hR.go with ⟨h, _⟩ | ⟨_, h⟩
        · cases h
        · exact h
      refine bodyPost_ret (v := .tuple #[PC.value (pcPl (some ⟨g, 0, none⟩) qs.length cap), .bool true]) (by simp [results, Tryz.results118, go_sem, hc, PC.value, PC.cells, pcPl, ptr]) rfl ⟨st8_but hR.but (Nat.le_refl _) _ _ _ _ _ _ _ _, pcPl (some ⟨g, 0, none⟩) qs.length cap, true, b, u, rfl, hb, hR.rs.st8 (by omega) _ _ _ _ _ _ _ _, Or.inl ⟨rfl, .sp (.pick qs), ?_, ?_, by simp [Pt.unk]⟩⟩
      · exact rdP_pick env.full hpl
      · rw [PtIs]
        have hge := (owns_int hR.own).2.1
        refine ⟨rfl, ⟨hR.own.1, ?_⟩, fun g' hg' => ?_⟩
        · rcases hR.own.2 with ⟨h2, _⟩ | ⟨g2, cap2, cur, hv, _, hh, r⟩
          · cases h2
          · cases hv
            exact Or.inr ⟨g, cap, cur, rfl, Nat.zero_le _, by rw [st8_heap _ _ _ _ _ _ _ _ _ (by omega)]; exact hh, r⟩
        · simp [Value.ownBlock, pcPl] at hg'
          show g' < B0 ∨ w.heap.size ≤ g'
          omega
    | true =>
      have HG := hide hgk
      have HR := hide hR
      have hq := hR.hq
      have hb := hR.hb
      clear hgk
      go_wp2_with fail
      refine (readWhole_any 0 11 _ hR.rs hR.hb hs (by decide) (by decide)).mono ?_
      rintro e w1 ⟨hb1, b', hb', h1, ⟨k, hk, rfl⟩ | ⟨hk, rfl⟩⟩
      · obtain ⟨hbut, hblk, hown⟩ := (unhide HR).read hlt hb1
        obtain ⟨_, hgB, hcell⟩ := owns_int hown
        have hc : ∀ i, w1.cell? ⟨w.heap.size, i, none⟩ = _ := fun i => blk_cell hblk i
        have hf : ∀ i, w1.frozen? ⟨w.heap.size, i, none⟩ = false := fun i => blk_free hblk i
        obtain ⟨kn, rfl⟩ : ∃ kn : Nat, k = (kn : Int) := ⟨k.toNat, by have := (hk.sound _ _ rfl).1; omega⟩
        have hmv := wh_moves hb hb' hk
        have hkb : (kn : Int) ≤ 11 := (hk.sound _ _ rfl).2.1
        have HK := hide hk
        have H1 := hide h1
        have HBut := hide hbut
        have HBlk := hide hblk
        have HOwn := hide hown
        clear hk h1 hbut hblk hown hR hb1
        have hpg : PlGo (rest s a) qs (rest s b) := by
          rcases (unhide HR).go with ⟨_, h⟩ | ⟨h, _⟩
          · exact h
          · cases h
        have HPG := hide hpg
        clear hpg
        go_wp2_with fail
        refine (contains_any g cap qs kn _ hcell (by omega)).mono ?_
        rintro e w1' ⟨rfl, rfl⟩
        by_cases hm : kn ∈ qs
        · have hmd : decide (kn ∈ qs) = true := by simpa using hm
          have HM := hide hm
          clear hm
          rw [hmd]
          go_wp2_with fail
          refine bodyPost_ret (v := .tuple #[PC.value pc0, .bool false]) (by simp [results, Tryz.results118, go_sem, hc, PC.value, PC.cells, pc0, ptr]) rfl ⟨st8_but (unhide HBut) (Nat.le_refl _) _ _ _ _ _ _ _ _, pc0, false, b', u, rfl, hb', (unhide H1).st8 (by omega) _ _ _ _ _ _ _ _, Or.inr ⟨rfl, rfl, rdP_pick env.full ((unhide HPG).twice (unhide HK) (unhide HM))⟩⟩
        · have hmd : decide (kn ∈ qs) = false := by simpa using hm
          have HM := hide hm
          clear hm
          rw [hmd]
          go_wp2_with (at_builtin; refine wpList_append_own _ rfl _ _ 25 rfl (w.heap.size + 1) 3 i0 (.int .i64 0) 1 8 Tryz.underlying25 hi hz0 hz1 hz2 rfl (by decide) _ _ _ rfl ((unhide HOwn).alloc _) ⟨w1.heap.size, 0, none⟩ 1 1 [.int .i64 (kn : Int)] rfl rfl ?c1 ?c2 ?c3 ?c4 ?c5 ?_)
          case c1 =>
            intro j u hj
            match j, hj with
            | 0, hj => simp at hj; subst hj; simp [Addr.add]
          case c2 => intro u hu; simp at hu; subst hu; rfl
          case c3 => unfold maxLen; omega
          case c4 => omega
          case c5 => have := (unhide HBut).size; have := lt_of_block (unhide HBlk); simp; omega
          intro v' w2 hown2 hgr2 hnn
          have hnn2 : v' ≠ .slice none 0 0 := hnn
          rw [ints_snoc] at hown2
          obtain ⟨h2, hbut2, hblk2⟩ := pl_app hlt (unhide H1) (unhide HBut) (unhide HBlk) hgB hgr2
          have HOwn2 := hide hown2
          have HBut2 := hide hbut2
          have HBlk2 := hide hblk2
          have HN2 := hide hnn2
          clear hown2 hgr2 hnn hbut2 hblk2 hnn2 hc hf hcell
          go_wp2_with fail
          refine (pass_any 46 _ h2 hb' hs).mono ?_
          rintro e w3 ⟨hb3, ⟨⟨l, hl⟩, ha3, rfl, h3⟩ | ⟨hl, rfl, h3⟩⟩
          · have HL := hide hl
            have H3 := hide h3
            have HB3 := hide hb3
            clear hl h3 hb3 h2
            go_wp2_with fail
            go_roundg (2 * (s.size - (b' + 1)) + 1)
            case measure => rw [unhide HG]; simp; omega
            case rel =>
              have e : rest s (b' + 1) = l := by rw [rest_add, unhide HL]; rfl
              have hwk := unhide HK
              rw [unhide HL] at hwk
              refine ⟨b' + 1, qs ++ [kn], true, rfl, rfl, ha3, by simp; omega, unhide H3, (unhide HBut2).trans (unhide HB3), ?_, ?_, unhide HN2, Or.inl ⟨rfl, ?_⟩⟩
              · rw [(unhide HB3).block _ (lt_of_block (unhide HBlk2)) (by omega)]; exact unhide HBlk2
              · have := owns_but (unhide HOwn2) (unhide HB3) (by omega)
                simpa using this
              · rw [e]; exact (unhide HPG).next hwk (unhide HM)
          · have HL := hide hl
            have H3 := hide h3
            have HB3 := hide hb3
            clear hl h3 hb3 h2
            go_wp2_with fail
            go_roundg (2 * (s.size - b'))
            case measure => rw [unhide HG]; simp; omega
            case rel =>
              refine ⟨b', qs ++ [kn], false, rfl, rfl, hb', by simp; omega, unhide H3, (unhide HBut2).trans (unhide HB3), ?_, ?_, unhide HN2, Or.inr ⟨rfl, (unhide HPG).done (unhide HK) (unhide HM) (unhide HL)⟩⟩
              · rw [(unhide HB3).block _ (lt_of_block (unhide HBlk2)) (by omega)]; exact unhide HBlk2
              · have := owns_but (unhide HOwn2) (unhide HB3) (by omega)
                simpa using this
      · obtain ⟨hbut, hblk, hown⟩ := (unhide HR).read hlt hb1
        have hc : ∀ i, w1.cell? ⟨w.heap.size, i, none⟩ = _ := fun i => blk_cell hblk i
        have hf : ∀ i, w1.frozen? ⟨w.heap.size, i, none⟩ = false := fun i => blk_free hblk i
        have HK := hide hk
        have H1 := hide h1
        have HBut := hide hbut
        clear hk h1 hbut hblk hown hR hb1
        have hpg : PlGo (rest s a) qs (rest s b) := by
          rcases (unhide HR).go with ⟨_, h⟩ | ⟨h, _⟩
          · exact h
          · cases h
        have HPG := hide hpg
        clear hpg
        go_wp2_with fail
        refine bodyPost_ret (v := .tuple #[PC.value pc0, .bool false]) (by simp [results, Tryz.results118, go_sem, hc, PC.value, PC.cells, pc0, ptr]) rfl ⟨st8_but (unhide HBut) (Nat.le_refl _) _ _ _ _ _ _ _ _, pc0, false, b', u, rfl, hb', (unhide H1).st8 (by omega) _ _ _ _ _ _ _ _, Or.inr ⟨rfl, rfl, rdP_pick env.full ((unhide HPG).fail (unhide HK))⟩⟩
end Go.Proofs.YtikiaijgcjjloaaGreatDoor

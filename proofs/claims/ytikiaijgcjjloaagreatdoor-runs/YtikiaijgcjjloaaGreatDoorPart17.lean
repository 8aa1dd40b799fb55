import Derived.Test.YtikiaijgcjjloaaGreatDoorPart16
import Derived.Test.YtikiaijgcjjloaaGreatDoorPart11
import Derived.Test.YtikiaijgcjjloaaGreatDoorPart6

namespace Go.Proofs.YtikiaijgcjjloaaGreatDoor
open Go Go.RowKit M T Go.Lib
structure RC where
  Kd : UInt8
  P : Int
  Q : Int
  K : Int
  pa : Option Addr
  pn : Nat
  pc : Nat
  F : ByteArray
  G : ByteArray
def RC.cells (x : RC) : List Value := [.int .u8 (x.Kd.toNat : Int), .int .i64 x.P, .int .i64 x.Q, .int .i64 x.K, .slice x.pa x.pn x.pc, .string x.F, .string x.G]
def RC.value (x : RC) : Value := .agg x.cells.toArray
theorem RC.cells_length (x : RC) : x.cells.length = 7 := rfl
abbrev st7 (w : World) (n : Nat) (v0 v1 v2 v3 v4 v5 v6 : Value) : World := ((((((w.setCell ⟨n, 0, none⟩ v0).setCell ⟨n, 1, none⟩ v1).setCell ⟨n, 2, none⟩ v2).setCell ⟨n, 3, none⟩ v3).setCell ⟨n, 4, none⟩ v4).setCell ⟨n, 5, none⟩ v5).setCell ⟨n, 6, none⟩ v6
theorem st7_heap (w : World) {n : Nat} (v0 v1 v2 v3 v4 v5 v6 : Value) {k : Nat} (h : k ≠ n) : (st7 w n v0 v1 v2 v3 v4 v5 v6).heap[k]? = w.heap[k]? := by
  unfold st7
  rw [Below.heap_setCell _ _ _ _ h, Below.heap_setCell _ _ _ _ h, Below.heap_setCell _ _ _ _ h, Below.heap_setCell _ _ _ _ h, Below.heap_setCell _ _ _ _ h, Below.heap_setCell _ _ _ _ h, Below.heap_setCell _ _ _ _ h]
theorem st7_below {B : Nat} {a w : World} (h : Below B a w) {n : Nat} (hn : B ≤ n) (v0 v1 v2 v3 v4 v5 v6 : Value) : Below B a (st7 w n v0 v1 v2 v3 v4 v5 v6) :=
  ((((((h.setCell (p := ⟨n, 0, none⟩) hn _).setCell (p := ⟨n, 1, none⟩) hn _).setCell (p := ⟨n, 2, none⟩) hn _).setCell (p := ⟨n, 3, none⟩) hn _).setCell (p := ⟨n, 4, none⟩) hn _).setCell (p := ⟨n, 5, none⟩) hn _).setCell (p := ⟨n, 6, none⟩) hn _
theorem owns_below {w w1 : World} {B : Nat} {e : TypeId} {size : Nat} {v : Value} {n : Nat} {xs : List Value} (h : w.ownsRow B e size v n xs) (hb : Below w.heap.size w w1) : w1.ownsRow B e size v n xs := by
  refine ⟨h.1, ?_⟩
  rcases h.2 with h2 | ⟨g, cap, cur, hv, hg, hh, r⟩
  · exact Or.inl h2
  · exact Or.inr ⟨g, cap, cur, hv, hg, by rw [hb.block g (lt_of_block hh)]; exact hh, r⟩
theorem whole_c (s : ByteArray) (a : Nat) (lo hi : Int) (w : World) (ha : a ≤ s.size) (hs : s.size ≤ 1000000) (hlo : -1000000000 ≤ lo) (hhi : hi ≤ 1000000000) :
    Calls Tryz.prog 167 #[.string s, .int .i64 (a : Int), .int .i64 lo, .int .i64 hi] w fun e w' => ∃ (k : Int) (ok : Bool) (c : Nat), e = .returned (.tuple #[.int .i64 k, .int .i64 (c : Int), .bool ok]) ∧ a ≤ c ∧ c ≤ s.size ∧ ((ok = true ∧ WhAt (rest s a) lo hi (some (k, rest s c))) ∨ (ok = false ∧ WhAt (rest s a) lo hi none)) ∧ Below w.heap.size w w' := by
  refine (whole_any s a lo hi w ha hs hlo hhi).mono ?_
  rintro e w' ⟨k, ok, rfl, h, hb⟩
  exact ⟨k, ok, a + nw s a, rfl, Nat.le_add_right _ _, nw_le ha, h, hb⟩
structure QR (s : ByteArray) (a : Nat) (w : World) (b : Nat) (qs : List Nat) (sl : Value) (wr : World) : Prop where
  hb : b ≤ s.size
  hq : qs.length ≤ b
  bel : Below w.heap.size w wr
  res : wr.heap[w.heap.size]? = some (.cells #[.int .u8 0, .int .i64 0, .int .i64 0, .int .i64 0, .slice none 0 0, .string ⟨#[]⟩, .string ⟨#[]⟩] 131 (0, 0))
  blk : wr.heap[w.heap.size + 1]? = some (.cells #[.int .u8 35, .int .i64 0, .int .i64 0, .int .i64 0, sl, .string ⟨#[]⟩, .string ⟨#[]⟩] 131 (0, 0))
  own : wr.ownsRow (w.heap.size + 2) 3 1 sl qs.length (ints qs)
  go : PlGo (rest s a) qs (rest s b)
theorem QR.below {s : ByteArray} {a : Nat} {w : World} {b : Nat} {qs : List Nat} {sl : Value} {wr w1 : World} (h : QR s a w b qs sl wr) (hb : Below wr.heap.size wr w1) : QR s a w b qs sl w1 :=
  ⟨h.hb, h.hq, h.bel.trans (hb.mono h.bel.size), by rw [hb.block _ (lt_of_block h.res)]; exact h.res, by rw [hb.block _ (lt_of_block h.blk)]; exact h.blk, owns_below h.own hb, h.go⟩
def PlGot (s : ByteArray) (a : Nat) (e : Ending) (w' : World) : Prop :=
  (∃ ps b ao cap, b ≤ s.size ∧ PlAt (rest s a) (some (ps, rest s b)) ∧ w'.ownsRow 0 3 1 (.slice ao ps.length cap) ps.length (ints ps) ∧ e = .returned (.tuple #[RC.value ⟨35, 0, 0, 0, ao, ps.length, cap, ⟨#[]⟩, ⟨#[]⟩⟩, .int .i64 (b : Int), .bool true])) ∨ (PlAt (rest s a) none ∧ ∃ x b, e = .returned (.tuple #[RC.value x, .int .i64 b, .bool false]))
theorem qr_app {s : ByteArray} {a : Nat} {w : World} {b : Nat} {qs : List Nat} {sl : Value} {wr w2 : World} {o : Obj} (h : QR s a w b qs sl wr) (hgr : (wr.alloc o).grownBy w2 sl.ownBlock) : (∀ i, w2.cell? ⟨w.heap.size + 1, i, none⟩ = (#[.int .u8 35, .int .i64 0, .int .i64 0, .int .i64 0, sl, .string ⟨#[]⟩, .string ⟨#[]⟩] : Array Value)[i]?) ∧ (∀ i, w2.frozen? ⟨w.heap.size + 1, i, none⟩ = false) := by
  have hl := lt_of_block h.blk
  have hb := (show w2.heap[w.heap.size + 1]? = wr.heap[w.heap.size + 1]? by rw [hgr.block _ (by simp; omega) (fun e => by have := (h.own.lt _ e.symm).1; omega), Below.heap_alloc _ _ _ hl]).trans h.blk
  exact ⟨fun i => blk_cell hb i, fun i => blk_free hb i⟩
theorem qr_next {s : ByteArray} {a : Nat} {w : World} {b : Nat} {qs : List Nat} {sl v' : Value} {wr w2 : World} {o : Obj} {k : Nat} (h : QR s a w b qs sl wr) (hgr : (wr.alloc o).grownBy w2 sl.ownBlock) (hown : w2.ownsRow (w.heap.size + 2) 3 1 v' (qs.length + 1) (ints (qs ++ [k]))) : Below w.heap.size w (w2.setCell ⟨w.heap.size + 1, 4, none⟩ v') ∧ (w2.setCell ⟨w.heap.size + 1, 4, none⟩ v').heap[w.heap.size]? = some (.cells #[.int .u8 0, .int .i64 0, .int .i64 0, .int .i64 0, .slice none 0 0, .string ⟨#[]⟩, .string ⟨#[]⟩] 131 (0, 0)) ∧ (w2.setCell ⟨w.heap.size + 1, 4, none⟩ v').heap[w.heap.size + 1]? = some (.cells #[.int .u8 35, .int .i64 0, .int .i64 0, .int .i64 0, v', .string ⟨#[]⟩, .string ⟨#[]⟩] 131 (0, 0)) ∧ (w2.setCell ⟨w.heap.size + 1, 4, none⟩ v').ownsRow (w.heap.size + 2) 3 1 v' (qs ++ [k]).length (ints (qs ++ [k])) := by
  have hl := lt_of_block h.blk
  have hrow : ∀ g, sl.ownBlock = some g → w.heap.size + 2 ≤ g := fun g hg => (h.own.lt g hg).1
  have hold : ∀ g, g < w.heap.size + 2 → g < wr.heap.size → w2.heap[g]? = wr.heap[g]? := fun g h1 h2 => by
    rw [hgr.block _ (by simp; omega) (fun e => by have := hrow g e.symm; omega), Below.heap_alloc _ _ _ h2]
  have hblk : w2.heap[w.heap.size + 1]? = _ := (hold _ (by omega) hl).trans h.blk
  refine ⟨?_, ?_, ?_, ?_⟩
  · have h1 : Below w.heap.size w w2 := h.bel.trans ⟨hgr.os, hgr.tape, hgr.output, Nat.le_trans (by simp) hgr.size, fun g hg => hold g (by omega) (by omega)⟩
    exact h1.setCell (p := ⟨w.heap.size + 1, 4, none⟩) (Nat.le_succ _) _
  · rw [Below.heap_setCell _ _ _ _ (by show w.heap.size ≠ w.heap.size + 1; omega), hold _ (by omega) (lt_of_block h.res)]
    exact h.res
  · rw [blk_set hblk]; rfl
  · rw [List.length_append]
    refine ⟨hown.1, ?_⟩
    rcases hown.2 with ⟨_, h3⟩ | ⟨g, cap, cur, hv, hg2, hh, r⟩
    · exact absurd h3 (by omega)
    · exact Or.inr ⟨g, cap, cur, hv, hg2, by rw [Below.heap_setCell _ _ _ _ (by show g ≠ w.heap.size + 1; omega)]; exact hh, r⟩
theorem own_st7 {w : World} {n : Nat} {e : TypeId} {v : Value} {m : Nat} {xs : List Value} (h : w.ownsRow (n + 2) e 1 v m xs) (v0 v1 v2 v3 v4 v5 v6 : Value) : (st7 w n v0 v1 v2 v3 v4 v5 v6).ownsRow 0 e 1 v m xs := by
  refine ⟨h.1, ?_⟩
  rcases h.2 with h2 | ⟨g, cap, cur, hv, hg, hh, r⟩
  · exact Or.inl h2
  · exact Or.inr ⟨g, cap, cur, hv, Nat.zero_le _, by rw [st7_heap _ _ _ _ _ _ _ _ (by omega)]; exact hh, r⟩
theorem take_mem (qs : List Nat) (k j : Nat) (hj : j < qs.length) : decide (k ∈ qs.take (j + 1)) = (decide (k ∈ qs.take j) || decide (qs[j] = k)) := by
  have e : (k ∈ qs.take j ++ [qs[j]]) ↔ (k ∈ qs.take j ∨ qs[j] = k) := by
    rw [List.mem_append, List.mem_singleton]
    exact or_congr Iff.rfl eq_comm
  rw [List.take_succ_eq_append_getElem hj, decide_eq_decide.2 e, Bool.decide_or]
theorem one_int (k : Int) : ∀ u ∈ [Value.int .i64 k], u.oneCell' = true := by
  intro u hu
  simp at hu
  subst hu
  rfl
theorem new_at2 (w : World) (o o' : Obj) : ((w.alloc o).alloc o').heap[w.heap.size + 1]? = some o' := by
  have := heap_alloc_new (w.alloc o) o'
  rw [World.size_alloc] at this
  exact this
set_option maxRecDepth 100000 in
set_option maxHeartbeats 6400000 in
theorem places_any (s : ByteArray) (a : Nat) (w : World) (ha : a ≤ s.size) (hs : s.size ≤ 1000) :
    Calls Tryz.prog 168 #[.string s, .int .i64 (a : Int)] w fun e w' => PlGot s a e w' ∧ Below w.heap.size w w' := by
  obtain ⟨i0, hi, hz0, hz1, hz2⟩ := info_parts Tryz.infoInt
  go_enter Tryz.func168, Tryz.ntmps168
  go_wp2_with fail
  go_loopg [1] (s.size - a) (fun gk v wr => ∃ b qs sl, v = .int .i64 ((b : Nat) : Int) ∧ gk = s.size - b ∧ QR s a w b qs sl wr)
  case atStart =>
    refine ⟨a, [], .slice none 0 0, rfl, rfl, ha, Nat.zero_le _, ((below_box _).trans ((below_box _).mono (by simp))), ?_, new_at2 w _ _, World.ownsRow_nil _ _ _ _, PlGo.start _⟩
    rw [Below.heap_alloc _ _ _ (by simp)]
    exact heap_alloc_new w _
  case round =>
    obtain ⟨b, qs, sl, rfl, hgk, hR⟩ := hrel
    have HG := hide hgk
    have HR := hide hR
    have hb := hR.hb
    have hq := hR.hq
    clear hgk hR
    go_wp2_with fail
    refine (whole_c s b 0 11 _ hb (by omega) (by decide) (by decide)).mono ?_
    rintro e w1 ⟨k, ok, c, rfl, hle2, hble, hwh, hb1⟩
    have hR1 := (unhide HR).below hb1
    have HR1 := hide hR1
    have HW := hide hwh
    have hc : ∀ i, w1.cell? ⟨w.heap.size + 1, i, none⟩ = _ := fun i => blk_cell hR1.blk i
    have hf : ∀ i, w1.frozen? ⟨w.heap.size + 1, i, none⟩ = false := fun i => blk_free hR1.blk i
    have hcr : ∀ i, w1.cell? ⟨w.heap.size, i, none⟩ = _ := fun i => blk_cell hR1.res i
    have hfr : ∀ i, w1.frozen? ⟨w.heap.size, i, none⟩ = false := fun i => blk_free hR1.res i
    rcases hR1.own.2 with ⟨hnil, hn0⟩ | ⟨g, cap, cur, hv, hgB, hh, hcap, _⟩
    · have hqs : qs = [] := List.eq_nil_of_length_eq_zero hn0
      subst hqs
      subst hnil
      clear hn0 hR1 hwh hb1 HR
      cases ok with
      | false =>
        have hwn : WhAt (rest s b) 0 11 none := by
          rcases unhide HW with ⟨h, _⟩ | ⟨_, h⟩
          · cases h
          · exact h
        go_wp2_with fail
        refine wp_loop_rounds 1 ?_
        rw [rounds_succ]
        go_wp2_with fail
        exact bodyPost_ret (v := .tuple #[RC.value ⟨35, 0, 0, 0, none, 0, 0, ⟨#[]⟩, ⟨#[]⟩⟩, .int .i64 (b : Int), .bool false]) (by simp [results, Tryz.results168, go_sem, hcr, RC.value, RC.cells]) rfl ⟨Or.inr ⟨(unhide HR1).go.fail hwn, _, _, rfl⟩, st7_below (unhide HR1).bel (Nat.le_refl _) _ _ _ _ _ _ _⟩
      | true =>
        have hwy : WhAt (rest s b) 0 11 (some (k, rest s (c))) := by
          rcases unhide HW with ⟨_, h⟩ | ⟨h, _⟩
          · exact h
          · cases h
        obtain ⟨kn, rfl⟩ : ∃ kn : Nat, k = (kn : Int) := ⟨k.toNat, by have := (hwy.sound _ _ rfl).1; omega⟩
        have hmv := wh_moves hb hble hwy
        have hkb : (kn : Int) ≤ 11 := (hwy.sound _ _ rfl).2.1
        have HY := hide hwy
        clear hwy HW
        have HM := hide (show kn ∉ ([] : List Nat) by simp)
        go_wp2_with fail
        refine wp_loop_rounds 1 ?_
        rw [rounds_succ]
        go_wp2_with (at_builtin; refine wpList_append_own _ rfl _ _ 25 rfl (w.heap.size + 2) 3 i0 (.int .i64 0) 1 8 Tryz.underlying25 hi hz0 hz1 hz2 rfl (by decide) _ _ _ rfl ((unhide HR1).own.alloc _) ⟨w1.heap.size, 0, none⟩ 1 1 [.int .i64 (kn : Int)] rfl rfl (news_alloc w1 [.int .i64 (kn : Int)] 3) (one_int _) (by first | (unfold maxLen; omega) | simp [maxLen]) (by first | omega | simp) (by have := lt_of_block (unhide HR1).blk; simp; omega) ?_)
        intro v' w2 hown2 hgr2 hnn
        rw [ints_snoc] at hown2
        obtain ⟨g', cap', hv'⟩ := owns_some hown2 hnn
        have hv2 : v' = .slice (some ⟨g', 0, none⟩) (1) cap' := hv'
        subst hv2
        clear hv'
        obtain ⟨hc2, hf2⟩ := qr_app (unhide HR1) hgr2
        have HQ := hide (qr_next (k := kn) (unhide HR1) hgr2 hown2)
        clear hown2 hgr2 hnn hc hf hcr hfr
        go_upto_region 10 with fail
        obtain ⟨wx, hwx⟩ : ∃ wx, wx = w2.setCell ⟨w.heap.size + 1, 4, none⟩ (.slice (some ⟨g', 0, none⟩) (1) cap') := ⟨_, rfl⟩
        rw [← hwx]
        rw [← hwx] at HQ
        have hcx : ∀ i, wx.cell? ⟨w.heap.size + 1, i, none⟩ = _ := fun i => blk_cell (unhide HQ).2.2.1 i
        have hcr : ∀ i, wx.cell? ⟨w.heap.size, i, none⟩ = _ := fun i => blk_cell (unhide HQ).2.1 i
        have hfr : ∀ i, wx.frozen? ⟨w.heap.size, i, none⟩ = false := fun i => blk_free (unhide HQ).2.1 i
        clear hwx hc2 hf2
        by_cases he : c < s.size
        · by_cases h46 : s[c] = 46
          · have hb46 : ((s[c].toNat : Int) != 46) = false := by rw [h46]; rfl
            have hlt' : ¬ ((s.size : Int) ≤ (c : Int)) := by omega
            have HN := hide (show rest s (c) = 46 :: rest s (c + 1) by rw [rest_lt he, h46])
            clear h46
            go_wp2_with fail
            go_roundg (s.size - (c + 1))
            case measure => rw [unhide HG]; omega
            case rel =>
              have hy := unhide HY
              rw [unhide HN] at hy
              exact ⟨c + 1, ([] : List Nat) ++ [kn], _, by go_num, rfl, by omega, (by rw [List.length_append, List.length_singleton]; omega), (unhide HQ).1, (unhide HQ).2.1, (unhide HQ).2.2.1, (unhide HQ).2.2.2, (unhide HR1).go.next hy (unhide HM)⟩
          · have hb46 : ((s[c].toNat : Int) != 46) = true := bne_t (y := 46) h46
            have hlt' : ¬ ((s.size : Int) ≤ (c : Int)) := by omega
            have HN := hide (show (rest s (c)).head? ≠ some 46 by rw [rest_lt he]; simpa using h46)
            clear h46
            go_wp2_with fail
            exact bodyPost_ret (v := .tuple #[RC.value ⟨35, 0, 0, 0, some ⟨g', 0, none⟩, 1, cap', ⟨#[]⟩, ⟨#[]⟩⟩, .int .i64 (c : Int), .bool true]) (by simp [results, Tryz.results168, go_sem, hcr, RC.value, RC.cells]) rfl ⟨Or.inl ⟨([] : List Nat) ++ [kn], c, some ⟨g', 0, none⟩, cap', hble, (unhide HR1).go.done (unhide HY) (unhide HM) (unhide HN), by have := own_st7 (unhide HQ).2.2.2; simpa using this _ _ _ _ _ _ _, by simp⟩, st7_below (unhide HQ).1 (Nat.le_refl _) _ _ _ _ _ _ _⟩
        · have hlt' : ((s.size : Int) ≤ (c : Int)) := by omega
          have HN := hide (show (rest s (c)).head? ≠ some 46 by rw [rest_ge (by omega)]; simp)
          go_wp2_with fail
          exact bodyPost_ret (v := .tuple #[RC.value ⟨35, 0, 0, 0, some ⟨g', 0, none⟩, 1, cap', ⟨#[]⟩, ⟨#[]⟩⟩, .int .i64 (c : Int), .bool true]) (by simp [results, Tryz.results168, go_sem, hcr, RC.value, RC.cells]) rfl ⟨Or.inl ⟨([] : List Nat) ++ [kn], c, some ⟨g', 0, none⟩, cap', hble, (unhide HR1).go.done (unhide HY) (unhide HM) (unhide HN), by have := own_st7 (unhide HQ).2.2.2; simpa using this _ _ _ _ _ _ _, by simp⟩, st7_below (unhide HQ).1 (Nat.le_refl _) _ _ _ _ _ _ _⟩
    · subst hv
      obtain ⟨_, _, hcell⟩ := owns_int hR1.own
      clear hR1 hwh hb1 HR hh
      cases ok with
      | false =>
        have hwn : WhAt (rest s b) 0 11 none := by
          rcases unhide HW with ⟨h, _⟩ | ⟨_, h⟩
          · cases h
          · exact h
        have HX := hide hwn
        clear hwn
        go_wp2_with fail
        go_loopw [10, 11] (fun v i wr => ∃ j : Nat, j ≤ qs.length ∧ i = .int .i64 (j : Int) ∧ v = .bool false ∧ w1 = wr) (fun _ i _ => qs.length - (RowKit.intOf i).toNat)
        case atStart => exact ⟨0, by omega, rfl, rfl, rfl⟩
        case round =>
          obtain ⟨j, hj, rfl, rfl, rfl⟩ := hrel
          by_cases hlt : j < qs.length
          · go_wp2_with fail
            go_roundw
            case rel => exact ⟨j + 1, by omega, by go_num, rfl, by trivial⟩
            case measure => simp [RowKit.intOf]; omega
          · have hlt' : ¬ (j : Int) < (qs.length : Int) := by omega
            go_wp2_with fail
            exact bodyPost_ret (v := .tuple #[RC.value ⟨35, 0, 0, 0, some ⟨g, 0, none⟩, qs.length, cap, ⟨#[]⟩, ⟨#[]⟩⟩, .int .i64 (b : Int), .bool false]) (by simp [results, Tryz.results168, go_sem, hcr, RC.value, RC.cells]) rfl ⟨Or.inr ⟨(unhide HR1).go.fail (unhide HX), _, _, rfl⟩, st7_below (unhide HR1).bel (Nat.le_refl _) _ _ _ _ _ _ _⟩
      | true =>
        have hwy : WhAt (rest s b) 0 11 (some (k, rest s (c))) := by
          rcases unhide HW with ⟨_, h⟩ | ⟨h, _⟩
          · exact h
          · cases h
        obtain ⟨kn, rfl⟩ : ∃ kn : Nat, k = (kn : Int) := ⟨k.toNat, by have := (hwy.sound _ _ rfl).1; omega⟩
        have hmv := wh_moves hb hble hwy
        have hkb : (kn : Int) ≤ 11 := (hwy.sound _ _ rfl).2.1
        have HY := hide hwy
        clear hwy HW
        go_wp2_with fail
        go_loopw [10, 11] (fun v i wr => ∃ j : Nat, j ≤ qs.length ∧ i = .int .i64 (j : Int) ∧ v = .bool (!decide (kn ∈ qs.take j)) ∧ w1 = wr) (fun _ i _ => qs.length - (RowKit.intOf i).toNat)
        case atStart => exact ⟨0, by omega, rfl, by simp, rfl⟩
        case round =>
          obtain ⟨j, hj, rfl, rfl, rfl⟩ := hrel
          by_cases hlt : j < qs.length
          · have hcj := hcell j hlt
            have HT := hide (take_mem qs kn j hlt)
            by_cases hm : kn ∈ qs.take j
            · have hmd : decide (kn ∈ qs.take j) = true := by simpa using hm
              clear hm
              rw [hmd]
              go_wp2_with fail
              go_roundw
              case rel => exact ⟨j + 1, by omega, by go_num, by rw [unhide HT, hmd]; simp, by trivial⟩
              case measure => simp [RowKit.intOf]; omega
            · have hmd : decide (kn ∈ qs.take j) = false := by simpa using hm
              clear hm
              rw [hmd]
              by_cases hk : qs[j] = kn
              · have hkb2 : (((qs[j] : Nat) : Int) != (kn : Int)) = false := by rw [hk]; simp
                have HK := hide (show decide (qs[j] = kn) = true by simpa using hk)
                clear hk
                go_wp2_with fail
                go_roundw
                case rel => exact ⟨j + 1, by omega, by go_num, by rw [unhide HT, hmd, unhide HK]; rfl, by trivial⟩
                case measure => simp [RowKit.intOf]; omega
              · have hkb2 : (((qs[j] : Nat) : Int) != (kn : Int)) = true := by rw [bne_iff_ne]; omega
                have HK := hide (show decide (qs[j] = kn) = false by simpa using hk)
                clear hk
                go_wp2_with fail
                go_roundw
                case rel => exact ⟨j + 1, by omega, by go_num, by rw [unhide HT, hmd, unhide HK]; rfl, by trivial⟩
                case measure => simp [RowKit.intOf]; omega
          · have hlt' : ¬ (j : Int) < (qs.length : Int) := by omega
            rw [show qs.take j = qs from List.take_of_length_le (by omega)]
            by_cases hm : kn ∈ qs
            · have hmd : decide (kn ∈ qs) = true := by simpa using hm
              have HM := hide hm
              clear hm
              rw [hmd]
              go_wp2_with fail
              exact bodyPost_ret (v := .tuple #[RC.value ⟨35, 0, 0, 0, some ⟨g, 0, none⟩, qs.length, cap, ⟨#[]⟩, ⟨#[]⟩⟩, .int .i64 (b : Int), .bool false]) (by simp [results, Tryz.results168, go_sem, hcr, RC.value, RC.cells]) rfl ⟨Or.inr ⟨(unhide HR1).go.twice (unhide HY) (unhide HM), _, _, rfl⟩, st7_below (unhide HR1).bel (Nat.le_refl _) _ _ _ _ _ _ _⟩
            · have hmd : decide (kn ∈ qs) = false := by simpa using hm
              have HM := hide hm
              clear hm
              rw [hmd]
              go_wp2_with (at_builtin; refine wpList_append_own _ rfl _ _ 25 rfl (w.heap.size + 2) 3 i0 (.int .i64 0) 1 8 Tryz.underlying25 hi hz0 hz1 hz2 rfl (by decide) _ _ _ rfl ((unhide HR1).own.alloc _) ⟨w1.heap.size, 0, none⟩ 1 1 [.int .i64 (kn : Int)] rfl rfl (news_alloc w1 [.int .i64 (kn : Int)] 3) (one_int _) (by first | (unfold maxLen; omega) | simp [maxLen]) (by first | omega | simp) (by have := lt_of_block (unhide HR1).blk; simp; omega) ?_)
              intro v' w2 hown2 hgr2 hnn
              rw [ints_snoc] at hown2
              obtain ⟨g', cap', hv'⟩ := owns_some hown2 hnn
              have hv2 : v' = .slice (some ⟨g', 0, none⟩) (qs.length + 1) cap' := hv'
              subst hv2
              clear hv'
              obtain ⟨hc2, hf2⟩ := qr_app (unhide HR1) hgr2
              have HQ := hide (qr_next (k := kn) (unhide HR1) hgr2 hown2)
              clear hown2 hgr2 hnn hc hf hcr hfr
              go_upto_region 10 with fail
              obtain ⟨wx, hwx⟩ : ∃ wx, wx = w2.setCell ⟨w.heap.size + 1, 4, none⟩ (.slice (some ⟨g', 0, none⟩) (qs.length + 1) cap') := ⟨_, rfl⟩
              rw [← hwx]
              rw [← hwx] at HQ
              have hcx : ∀ i, wx.cell? ⟨w.heap.size + 1, i, none⟩ = _ := fun i => blk_cell (unhide HQ).2.2.1 i
              have hcr : ∀ i, wx.cell? ⟨w.heap.size, i, none⟩ = _ := fun i => blk_cell (unhide HQ).2.1 i
              have hfr : ∀ i, wx.frozen? ⟨w.heap.size, i, none⟩ = false := fun i => blk_free (unhide HQ).2.1 i
              clear hwx hc2 hf2
              by_cases he : c < s.size
              · by_cases h46 : s[c] = 46
                · have hb46 : ((s[c].toNat : Int) != 46) = false := by rw [h46]; rfl
                  have hlt' : ¬ ((s.size : Int) ≤ (c : Int)) := by omega
                  have HN := hide (show rest s (c) = 46 :: rest s (c + 1) by rw [rest_lt he, h46])
                  clear h46
                  go_wp2_with fail
                  go_roundg (s.size - (c + 1))
                  case measure => rw [unhide HG]; omega
                  case rel =>
                    have hy := unhide HY
                    rw [unhide HN] at hy
                    exact ⟨c + 1, qs ++ [kn], _, by go_num, rfl, by omega, (by rw [List.length_append, List.length_singleton]; omega), (unhide HQ).1, (unhide HQ).2.1, (unhide HQ).2.2.1, (unhide HQ).2.2.2, (unhide HR1).go.next hy (unhide HM)⟩
                · have hb46 : ((s[c].toNat : Int) != 46) = true := bne_t (y := 46) h46
                  have hlt' : ¬ ((s.size : Int) ≤ (c : Int)) := by omega
                  have HN := hide (show (rest s (c)).head? ≠ some 46 by rw [rest_lt he]; simpa using h46)
                  clear h46
                  go_wp2_with fail
                  exact bodyPost_ret (v := .tuple #[RC.value ⟨35, 0, 0, 0, some ⟨g', 0, none⟩, qs.length + 1, cap', ⟨#[]⟩, ⟨#[]⟩⟩, .int .i64 (c : Int), .bool true]) (by simp [results, Tryz.results168, go_sem, hcr, RC.value, RC.cells]) rfl ⟨Or.inl ⟨qs ++ [kn], c, some ⟨g', 0, none⟩, cap', hble, (unhide HR1).go.done (unhide HY) (unhide HM) (unhide HN), by have := own_st7 (unhide HQ).2.2.2; simpa using this _ _ _ _ _ _ _, by simp⟩, st7_below (unhide HQ).1 (Nat.le_refl _) _ _ _ _ _ _ _⟩
              · have hlt' : ((s.size : Int) ≤ (c : Int)) := by omega
                have HN := hide (show (rest s (c)).head? ≠ some 46 by rw [rest_ge (by omega)]; simp)
                go_wp2_with fail
                exact bodyPost_ret (v := .tuple #[RC.value ⟨35, 0, 0, 0, some ⟨g', 0, none⟩, qs.length + 1, cap', ⟨#[]⟩, ⟨#[]⟩⟩, .int .i64 (c : Int), .bool true]) (by simp [results, Tryz.results168, go_sem, hcr, RC.value, RC.cells]) rfl ⟨Or.inl ⟨qs ++ [kn], c, some ⟨g', 0, none⟩, cap', hble, (unhide HR1).go.done (unhide HY) (unhide HM) (unhide HN), by have := own_st7 (unhide HQ).2.2.2; simpa using this _ _ _ _ _ _ _, by simp⟩, st7_below (unhide HQ).1 (Nat.le_refl _) _ _ _ _ _ _ _⟩
end Go.Proofs.YtikiaijgcjjloaaGreatDoor

namespace Go.Proofs.YtikiaijgcjjloaaGreatDoor
namespace T
open Go.Lib M
theorem closeIdx_lt : ∀ (l : List UInt8) (d : Int) (k : Nat), closeIdx l d = some k → k < l.length
  | [], _, _, h => by cases h
  | c :: l, d, k, h => by
    rw [closeIdx] at h
    split at h
    · cases h; simp
    · cases hc : closeIdx l (deeper c d) with
      | none => rw [hc] at h; cases h
      | some j =>
        rw [hc] at h
        cases h
        have := closeIdx_lt l _ j hc
        simp
        omega
theorem closeIdx_pos {o : UInt8} (ho : o = 40 ∨ o = 91) {l : List UInt8} {k : Nat} (h : closeIdx (o :: l) 0 = some k) : 1 ≤ k ∧ k - 1 < l.length := by
  have hlt := closeIdx_lt _ _ _ h
  rw [closeIdx, deeper_open ho, if_neg (by omega)] at h
  cases hc : closeIdx l (0 + 1) with
  | none => rw [hc] at h; cases h
  | some j =>
    rw [hc] at h
    cases h
    simp at hlt
    exact ⟨by simp, by simp; omega⟩
theorem colonIdx_at : ∀ (l : List UInt8) (d : Int) (k : Nat), colonIdx l d = some k → l = l.take k ++ 58 :: l.drop (k + 1)
  | [], _, _, h => by cases h
  | c :: l, d, k, h => by
    rw [colonIdx] at h
    split at h
    · rename_i hc
      cases h
      simp [hc.2]
    · cases hc : colonIdx l (deeper c d) with
      | none => rw [hc] at h; cases h
      | some j =>
        rw [hc] at h
        cases h
        have := colonIdx_at l _ j hc
        simp only [List.take_succ_cons, List.drop_succ_cons, List.cons_append]
        rw [← this]
theorem pow_shape {l r : List UInt8} {p : Pt} (hw : p.wf) (e : 40 :: l = p.text ++ r) : ∃ f k, p = .pow f k ∧ f.wf ∧ -999 ≤ k ∧ k ≤ 999 ∧ closeIdx (40 :: l) 0 = some (f.text.length + 1) ∧ l.take f.text.length = f.text ∧ l.drop f.text.length = 41 :: 94 :: (itoa k ++ r) := by
  obtain ⟨f, k, rfl, a, b, c, e2⟩ := pow_only hw e
  refine ⟨f, k, rfl, a, b, c, ?_, ?_, ?_⟩
  · rw [e2]
    exact close_at f a (Or.inl rfl) (Or.inl rfl) _
  · rw [e2]; simp
  · rw [e2]; simp
theorem under_shape {l r : List UInt8} {p : Pt} (hw : p.wf) (e : 91 :: l = p.text ++ r) : ∃ s g, p = .under s g ∧ s.wf ∧ g.wf ∧ closeIdx (91 :: l) 0 = some (s.text.length + g.text.length + 2) ∧ l.take (s.text.length + g.text.length + 1) = s.text ++ 58 :: g.text ∧ l.drop (s.text.length + g.text.length + 1) = 93 :: r := by
  obtain ⟨s, g, rfl, a, b, e2⟩ := under_only hw e
  refine ⟨s, g, rfl, a, b, ?_, ?_, ?_⟩
  · rw [e2]
    exact close_under s g a b _
  · rw [e2, show s.text ++ 58 :: (g.text ++ 93 :: r) = (s.text ++ 58 :: g.text) ++ 93 :: r by simp, List.take_left' (by simp; omega)]
  · rw [e2, show s.text ++ 58 :: (g.text ++ 93 :: r) = (s.text ++ 58 :: g.text) ++ 93 :: r by simp, List.drop_left' (by simp; omega)]
theorem pow_no_close (env : Env) {l : List UInt8} (h : closeIdx (40 :: l) 0 = none) : RdP env (40 :: l) none := by
  refine ⟨fun p q e => by (cases e), fun p q hw _ _ e => ?_⟩
  obtain ⟨f, k, rfl, _, _, _, h1, _⟩ := pow_shape hw e
  rw [h] at h1; cases h1
theorem pow_bad_close (env : Env) {l : List UInt8} {k : Nat} (h : closeIdx (40 :: l) 0 = some k) (hn : ∀ R, l.drop (k - 1) ≠ 41 :: 94 :: R) : RdP env (40 :: l) none := by
  refine ⟨fun p q e => by (cases e), fun p q hw _ _ e => ?_⟩
  obtain ⟨f, k', rfl, _, _, _, h1, _, h3⟩ := pow_shape hw e
  rw [h] at h1
  cases h1
  exact absurd h3 (hn _)
structure Whole (env : Env) (F : List UInt8) (o : Option Tm) : Prop where
  sound : ∀ f, o = some f → f.wf ∧ f.inEnv env ∧ F = f.text
  comp : ∀ f, f.wf → f.inEnv env → F = f.text → o = some f
theorem pow_ref (env : Env) {l R : List UInt8} {k : Nat} (h : closeIdx (40 :: l) 0 = some k) (hR : l.drop (k - 1) = 41 :: 94 :: R) {oF : Option Tm} (hF : Whole env (l.take (k - 1)) oF) {o : Option (Int × List UInt8)} (hk : WhAt R (-999) 999 o) {res : Option (Pt × List UInt8)} (hyes : ∀ f x, oF = some f → o = some x → res = some (.pow f x.1, x.2)) (hres : ∀ y, res = some y → ∃ f x, oF = some f ∧ o = some x ∧ y = (.pow f x.1, x.2)) : RdP env (40 :: l) res := by
  obtain ⟨hk1, hk2⟩ := closeIdx_pos (Or.inl rfl) h
  refine ⟨fun p q e => ?_, fun p q hw he hst e => ?_⟩
  · obtain ⟨f, x, e1, e2, e3⟩ := hres _ e
    cases e3
    subst e1 e2
    obtain ⟨a1, a2, a3⟩ := hF.sound _ rfl
    obtain ⟨b1, b2, b3⟩ := hk.sound x.1 x.2 rfl
    refine ⟨by rw [Pt.wf]; exact ⟨a1, b1, b2⟩, by rw [Pt.inEnv]; exact a2, ?_⟩
    rw [Pt.text]
    have h1 := List.take_append_drop (k - 1) l
    rw [hR, b3, a3] at h1
    rw [← h1]
    simp
  · obtain ⟨f, k', rfl, h1, h2, h3, h4, h5, h6⟩ := pow_shape hw e
    rw [h] at h4
    cases h4
    rw [Pt.inEnv] at he
    rw [Nat.add_sub_cancel] at hR hF
    rw [hR] at h6
    simp only [List.cons.injEq, true_and] at h6
    have g1 := hF.comp f h1 he h5
    have g2 := hk.comp k' q h2 h3 hst.noDig h6
    exact hyes f (k', q) g1 g2
theorem under_no_close (env : Env) {l : List UInt8} (h : closeIdx (91 :: l) 0 = none) : RdP env (91 :: l) none := by
  refine ⟨fun p q e => by (cases e), fun p q hw _ _ e => ?_⟩
  obtain ⟨f, k, rfl, _, _, h1, _⟩ := under_shape hw e
  rw [h] at h1; cases h1
theorem under_bad_close (env : Env) {l : List UInt8} {k : Nat} (h : closeIdx (91 :: l) 0 = some k) (hn : ∀ R, l.drop (k - 1) ≠ 93 :: R) : RdP env (91 :: l) none := by
  refine ⟨fun p q e => by (cases e), fun p q hw _ _ e => ?_⟩
  obtain ⟨f, k', rfl, _, _, h1, _, h3⟩ := under_shape hw e
  rw [h] at h1
  cases h1
  exact absurd h3 (hn _)
theorem under_no_colon (env : Env) {l : List UInt8} {k : Nat} (h : closeIdx (91 :: l) 0 = some k) (hn : colonIdx (l.take (k - 1)) 0 = none) : RdP env (91 :: l) none := by
  refine ⟨fun p q e => by (cases e), fun p q hw _ _ e => ?_⟩
  obtain ⟨f, k', rfl, w1, _, h1, h2, h3⟩ := under_shape hw e
  rw [h] at h1
  cases h1
  rw [show f.text.length + k'.text.length + 2 - 1 = f.text.length + k'.text.length + 1 by omega, h2, colon_at f w1] at hn
  cases hn
theorem under_ref (env : Env) {l R : List UInt8} {k c : Nat} (h : closeIdx (91 :: l) 0 = some k) (hR : l.drop (k - 1) = 93 :: R) (hc : colonIdx (l.take (k - 1)) 0 = some c) {oF oG : Option Tm} (hF : Whole env ((l.take (k - 1)).take c) oF) (hG : Whole env ((l.take (k - 1)).drop (c + 1)) oG) {res : Option (Pt × List UInt8)} (hyes : ∀ f g, oF = some f → oG = some g → res = some (.under f g, R)) (hres : ∀ y, res = some y → ∃ f g, oF = some f ∧ oG = some g ∧ y = (.under f g, R)) : RdP env (91 :: l) res := by
  refine ⟨fun p q e => ?_, fun p q hw he hst e => ?_⟩
  · obtain ⟨f, g, e1, e2, e3⟩ := hres _ e
    cases e3
    subst e1 e2
    obtain ⟨a1, a2, a3⟩ := hF.sound _ rfl
    obtain ⟨b1, b2, b3⟩ := hG.sound _ rfl
    refine ⟨by rw [Pt.wf]; exact ⟨a1, b1⟩, by rw [Pt.inEnv]; exact ⟨a2, b2⟩, ?_⟩
    have h1 := List.take_append_drop (k - 1) l
    have h2 := colonIdx_at _ _ _ hc
    rw [a3, b3] at h2
    rw [hR, h2] at h1
    rw [Pt.text, ← h1]
    simp
  · obtain ⟨s', g', rfl, w1, w2, h1, h2, h3⟩ := under_shape hw e
    rw [h] at h1
    cases h1
    rw [show s'.text.length + g'.text.length + 2 - 1 = s'.text.length + g'.text.length + 1 by omega] at hR hc hF hG
    rw [h2, colon_at s' w1] at hc
    cases hc
    rw [Pt.inEnv] at he
    rw [hR] at h3
    cases h3
    have g1 := hF.comp s' w1 he.1 (by rw [h2]; simp)
    have g2 := hG.comp g' w2 he.2 (by rw [h2]; simp [List.drop_append])
    exact hyes s' g' g1 g2
theorem Ahead.step {env : Env} {l0 l : List UInt8} {ps : List Pt} (h : Ahead env l0 ps l) {p : Pt} {r : List UInt8} (hp : RdP env l (some (p, r))) : Ahead env l0 (ps ++ [p]) r := by
  obtain ⟨a, _, c⟩ := hp.sound _ _ rfl
  exact h.next (by rw [c]; exact (Pt.first_stop p a _).2) hp
theorem Ahead.whole {env : Env} {l0 : List UInt8} {ps : List Pt} (h : Ahead env l0 ps []) : Whole env l0 (some (Tm.of ps)) := by
  have hd := h.done end_nil
  refine ⟨fun f e => ?_, fun f h1 h2 e => ?_⟩
  · cases e
    obtain ⟨a, b, c, _⟩ := hd.sound _ _ rfl
    exact ⟨a, b, by rw [c]; simp⟩
  · have := hd.comp f [] h1 h2 end_nil (by rw [e]; simp)
    simp only [Option.some.injEq, Prod.mk.injEq, and_true] at this
    rw [this]
theorem Ahead.none {env : Env} {l0 l : List UInt8} {ps : List Pt} (h : Ahead env l0 ps l) (hl : l ≠ []) (hp : RdP env l Option.none) : Whole env l0 Option.none := by
  refine ⟨fun f e => by (cases e), fun t h1 h2 e => ?_⟩
  obtain ⟨t', e1, e2, e3, e4⟩ := h.comp t [] h1 h2 end_nil (by rw [e]; simp)
  rw [List.append_nil] at e4
  cases t' with
  | nil => rw [Tm.text] at e4; exact absurd e4 hl
  | cons p t' =>
    rw [Tm.wf] at e2
    rw [Tm.inEnv] at e3
    rw [Tm.text] at e4
    have := hp.comp p t'.text e2.1 e3.1 (by have := Tm.text_stop t' e2.2 end_nil; simpa using this) e4
    cases this
def E0 : Env := fun _ => some .nil
theorem E0_wf : E0.wf := fun c b h => by
  cases h
  exact (trivial : True)
theorem whole_shape {F : List UInt8} (h : Whole E0 F none) : ¬ Shape F := by
  rintro ⟨t, h1, h2⟩
  obtain ⟨a, b, c⟩ := Tm.bind_facts E0 E0_wf t
  have := h.comp (t.bind E0) (b h1) (c (fun _ h => by cases h)) (by rw [a, h2])
  cases this
end T
end Go.Proofs.YtikiaijgcjjloaaGreatDoor

import Derived.Test.YtikiaijgcjjloaaGreatDoorPart22
import Derived.Deep.RegionWith

/- The walks: two items joined. -/
namespace Go.Proofs.YtikiaijgcjjloaaGreatDoor
open Go Go.RowKit M T Go.Lib

/-- Two cells of a result behind a call, three boxes ahead. -/
theorem res3 {w w1 : World} {o1 o2 o3 : Obj} {c : Array Value} {T : TypeId} (hb : Below ((((w.alloc o1).alloc o2).alloc o3).alloc (.cells c T)).heap.size ((((w.alloc o1).alloc o2).alloc o3).alloc (.cells c T)) w1) : (∀ i, w1.cell? ⟨w.heap.size + 1 + 1 + 1, i, none⟩ = c[i]?) ∧ (∀ i, w1.frozen? ⟨w.heap.size + 1 + 1 + 1, i, none⟩ = false) ∧ Below w.heap.size w w1 ∧ w.heap.size + 1 + 1 + 1 < w1.heap.size := by
  have hs : ((((w.alloc o1).alloc o2).alloc o3).alloc (.cells c T)).heap.size = w.heap.size + 4 := by simp
  have hn := heap_alloc_new (((w.alloc o1).alloc o2).alloc o3) (.cells c T)
  rw [World.size_alloc, World.size_alloc, World.size_alloc] at hn
  have hblk : w1.heap[w.heap.size + 1 + 1 + 1]? = some (.cells c T (0, 0)) := by rw [hb.block _ (by omega)]; exact hn
  exact ⟨fun i => blk_cell hblk i, fun i => blk_free hblk i, (((((Below.refl _ _).alloc (Nat.le_refl _) _).alloc (by simp) _).alloc (by simp; omega) _).alloc (by simp; omega) _).trans (hb.mono (by omega)), lt_of_block hblk⟩

set_option maxRecDepth 100000 in
set_option maxHeartbeats 800000 in
theorem two_s {o n x : Rat} (ho : small o = true) (hn : small n = true) (hx : small x = true) (w : World) : Calls Tryz.prog 188 #[qv o, qv n, qv x, .int .u8 115] w fun e w' => QGot (addE n x) e ∧ Below w.heap.size w w' := by
  rw [qv, qv, qv]
  have HO := hide ho
  have HN := hide hn
  have HX := hide hx
  clear ho hn hx
  go_enter Tryz.func188, Tryz.ntmps188
  go_wp2_with fail
  refine (qPlus (unhide HN) (unhide HX) _).mono ?_
  rintro e w1 ⟨hq, hb1⟩
  obtain ⟨hc1, hf1, hbw, _⟩ := res3 hb1
  have HB := hide hbw
  clear hb1 hbw
  rcases hq with ⟨z, hz, hs, rfl⟩ | ⟨c0, hz, hne, rfl⟩
  · have HZ := hide hz
    have HS := hide hs
    clear hz hs
    rw [qv]
    go_wp2_with fail
    exact bodyPost_ret (v := .tuple #[qv z, .int .i64 0]) (by simp [results, Tryz.results188, go_sem, hc1, qv]) rfl ⟨Or.inl ⟨z, unhide HZ, unhide HS, rfl⟩, Below.setCell (p := ⟨w.heap.size + 1 + 1 + 1, 1, none⟩) (Below.setCell (p := ⟨w.heap.size + 1 + 1 + 1, 0, none⟩) (unhide HB) (Nat.le_add_right _ 3) _) (Nat.le_add_right _ 3) _⟩
  · have HZ := hide hz
    have HNe := hide hne
    clear hz hne
    go_wp2_with fail
    exact bodyPost_ret (v := .tuple #[.agg #[.int .i64 0, .int .i64 0], .int .i64 c0]) (by simp [results, Tryz.results188, go_sem, hc1]) rfl ⟨Or.inr ⟨c0, unhide HZ, unhide HNe, rfl⟩, Below.setCell (p := ⟨w.heap.size + 1 + 1 + 1, 1, none⟩) (Below.setCell (p := ⟨w.heap.size + 1 + 1 + 1, 0, none⟩) (unhide HB) (Nat.le_add_right _ 3) _) (Nat.le_add_right _ 3) _⟩

set_option maxRecDepth 100000 in
set_option maxHeartbeats 800000 in
theorem two_p {o n x : Rat} (ho : small o = true) (hn : small n = true) (hx : small x = true) (w : World) : Calls Tryz.prog 188 #[qv o, qv n, qv x, .int .u8 112] w fun e w' => QGot (mulE n x) e ∧ Below w.heap.size w w' := by
  rw [qv, qv, qv]
  have HO := hide ho
  have HN := hide hn
  have HX := hide hx
  clear ho hn hx
  go_enter Tryz.func188, Tryz.ntmps188
  go_wp2_with fail
  refine (qTimes (unhide HN) (unhide HX) _).mono ?_
  rintro e w1 ⟨hq, hb1⟩
  obtain ⟨hc1, hf1, hbw, _⟩ := res3 hb1
  have HB := hide hbw
  clear hb1 hbw
  rcases hq with ⟨z, hz, hs, rfl⟩ | ⟨c0, hz, hne, rfl⟩
  · have HZ := hide hz
    have HS := hide hs
    clear hz hs
    rw [qv]
    go_wp2_with fail
    exact bodyPost_ret (v := .tuple #[qv z, .int .i64 0]) (by simp [results, Tryz.results188, go_sem, hc1, qv]) rfl ⟨Or.inl ⟨z, unhide HZ, unhide HS, rfl⟩, Below.setCell (p := ⟨w.heap.size + 1 + 1 + 1, 1, none⟩) (Below.setCell (p := ⟨w.heap.size + 1 + 1 + 1, 0, none⟩) (unhide HB) (Nat.le_add_right _ 3) _) (Nat.le_add_right _ 3) _⟩
  · have HZ := hide hz
    have HNe := hide hne
    clear hz hne
    go_wp2_with fail
    exact bodyPost_ret (v := .tuple #[.agg #[.int .i64 0, .int .i64 0], .int .i64 c0]) (by simp [results, Tryz.results188, go_sem, hc1]) rfl ⟨Or.inr ⟨c0, unhide HZ, unhide HNe, rfl⟩, Below.setCell (p := ⟨w.heap.size + 1 + 1 + 1, 1, none⟩) (Below.setCell (p := ⟨w.heap.size + 1 + 1 + 1, 0, none⟩) (unhide HB) (Nat.le_add_right _ 3) _) (Nat.le_add_right _ 3) _⟩

set_option maxRecDepth 100000 in
set_option maxHeartbeats 800000 in
theorem two_m {o n x : Rat} (ho : small o = true) (hn : small n = true) (hx : small x = true) (w : World) : Calls Tryz.prog 188 #[qv o, qv n, qv x, .int .u8 109] w fun e w' => QGot (mulE n x) e ∧ Below w.heap.size w w' := by
  rw [qv, qv, qv]
  have HO := hide ho
  have HN := hide hn
  have HX := hide hx
  clear ho hn hx
  go_enter Tryz.func188, Tryz.ntmps188
  go_wp2_with fail
  refine (qTimes (unhide HN) (unhide HX) _).mono ?_
  rintro e w1 ⟨hq, hb1⟩
  obtain ⟨hc1, hf1, hbw, _⟩ := res3 hb1
  have HB := hide hbw
  clear hb1 hbw
  rcases hq with ⟨z, hz, hs, rfl⟩ | ⟨c0, hz, hne, rfl⟩
  · have HZ := hide hz
    have HS := hide hs
    clear hz hs
    rw [qv]
    go_wp2_with fail
    exact bodyPost_ret (v := .tuple #[qv z, .int .i64 0]) (by simp [results, Tryz.results188, go_sem, hc1, qv]) rfl ⟨Or.inl ⟨z, unhide HZ, unhide HS, rfl⟩, Below.setCell (p := ⟨w.heap.size + 1 + 1 + 1, 1, none⟩) (Below.setCell (p := ⟨w.heap.size + 1 + 1 + 1, 0, none⟩) (unhide HB) (Nat.le_add_right _ 3) _) (Nat.le_add_right _ 3) _⟩
  · have HZ := hide hz
    have HNe := hide hne
    clear hz hne
    go_wp2_with fail
    exact bodyPost_ret (v := .tuple #[.agg #[.int .i64 0, .int .i64 0], .int .i64 c0]) (by simp [results, Tryz.results188, go_sem, hc1]) rfl ⟨Or.inr ⟨c0, unhide HZ, unhide HNe, rfl⟩, Below.setCell (p := ⟨w.heap.size + 1 + 1 + 1, 1, none⟩) (Below.setCell (p := ⟨w.heap.size + 1 + 1 + 1, 0, none⟩) (unhide HB) (Nat.le_add_right _ 3) _) (Nat.le_add_right _ 3) _⟩

set_option maxRecDepth 100000 in
set_option maxHeartbeats 800000 in
theorem two_o {o n x : Rat} (ho : small o = true) (hn : small n = true) (hx : small x = true) (w : World) : Calls Tryz.prog 188 #[qv o, qv n, qv x, .int .u8 111] w fun e w' => QGot (divE o x) e ∧ Below w.heap.size w w' := by
  rw [qv, qv, qv]
  have HO := hide ho
  have HN := hide hn
  have HX := hide hx
  clear ho hn hx
  go_enter Tryz.func188, Tryz.ntmps188
  go_wp2_with fail
  refine (divide_any (unhide HX) (unhide HO) _).mono ?_
  rintro e w1 ⟨hq, hb1⟩
  obtain ⟨hc1, hf1, hbw, _⟩ := res3 hb1
  have HB := hide hbw
  clear hb1 hbw
  rcases hq with ⟨z, hz, hs, rfl⟩ | ⟨c0, hz, hne, rfl⟩
  · have HZ := hide hz
    have HS := hide hs
    clear hz hs
    rw [qv]
    go_wp2_with fail
    exact bodyPost_ret (v := .tuple #[qv z, .int .i64 0]) (by simp [results, Tryz.results188, go_sem, hc1, qv]) rfl ⟨Or.inl ⟨z, unhide HZ, unhide HS, rfl⟩, Below.setCell (p := ⟨w.heap.size + 1 + 1 + 1, 1, none⟩) (Below.setCell (p := ⟨w.heap.size + 1 + 1 + 1, 0, none⟩) (unhide HB) (Nat.le_add_right _ 3) _) (Nat.le_add_right _ 3) _⟩
  · have HZ := hide hz
    have HNe := hide hne
    clear hz hne
    go_wp2_with fail
    exact bodyPost_ret (v := .tuple #[.agg #[.int .i64 0, .int .i64 0], .int .i64 c0]) (by simp [results, Tryz.results188, go_sem, hc1]) rfl ⟨Or.inr ⟨c0, unhide HZ, unhide HNe, rfl⟩, Below.setCell (p := ⟨w.heap.size + 1 + 1 + 1, 1, none⟩) (Below.setCell (p := ⟨w.heap.size + 1 + 1 + 1, 0, none⟩) (unhide HB) (Nat.le_add_right _ 3) _) (Nat.le_add_right _ 3) _⟩

/-- An answer on numbers, in one shape. -/
def QFlat (r : Except Int Rat) (p q c : Int) : Prop := (∃ z, r = .ok z ∧ small z = true ∧ p = z.num ∧ q = (z.den : Int) ∧ c = 0) ∨ (∃ c', r = .error c' ∧ c' ≠ 0 ∧ p = 0 ∧ q = 0 ∧ c = c')
theorem QGot.flat {r : Except Int Rat} {e : Ending} (h : QGot r e) : ∃ p q c, e = .returned (.tuple #[.agg #[.int .i64 p, .int .i64 q], .int .i64 c]) ∧ QFlat r p q c := by
  rcases h with ⟨z, hz, hs, rfl⟩ | ⟨c, hz, hne, rfl⟩
  · exact ⟨z.num, z.den, 0, rfl, Or.inl ⟨z, hz, hs, rfl, rfl, rfl⟩⟩
  · exact ⟨0, 0, c, rfl, Or.inr ⟨c, hz, hne, rfl, rfl, rfl⟩⟩
theorem QFlat.got {r : Except Int Rat} {p q c : Int} (h : QFlat r p q c) : QGot r (.returned (.tuple #[.agg #[.int .i64 p, .int .i64 q], .int .i64 c])) := by
  rcases h with ⟨z, hz, hs, rfl, rfl, rfl⟩ | ⟨c', hz, hne, rfl, rfl, rfl⟩
  · exact Or.inl ⟨z, hz, hs, rfl⟩
  · exact Or.inr ⟨c, hz, hne, rfl⟩
/-- The boxes behind a call. -/
theorem zfacts {w wb w1 : World} {cx : Array Value} {a b : Nat} (hx : wb.heap[a]? = some (.cells cx 91 (0, 0))) (hr : wb.heap[b]? = some (.cells #[.int .i64 0, .int .i64 0] 91 (0, 0))) (hw : Below w.heap.size w wb) (hb : Below wb.heap.size wb w1) :
    w1.heap[a]? = some (.cells cx 91 (0, 0)) ∧ w1.heap[b]? = some (.cells #[.int .i64 0, .int .i64 0] 91 (0, 0)) ∧ Below w.heap.size w w1 :=
  ⟨res_at hx hb, res_at hr hb, hw.trans (hb.mono hw.size)⟩

set_option maxRecDepth 100000 in
set_option maxHeartbeats 1600000 in
theorem two_z {o n x : Rat} (ho : small o = true) (hx : small x = true) (w : World) : Calls Tryz.prog 188 #[qv o, qv n, qv x, .int .u8 122] w fun e w' => QGot (subE o x) e ∧ Below w.heap.size w w' := by
  rw [qv, qv, qv]
  rw [← subJ_eq, subJ]
  have HO := hide ho
  have HX := hide hx
  have h2 : (((((w.alloc (.cells #[.int .i64 o.num, .int .i64 (o.den : Int)] 91)).alloc (.cells #[.int .i64 n.num, .int .i64 (n.den : Int)] 91)).alloc (.cells #[.int .i64 x.num, .int .i64 (x.den : Int)] 91)).alloc (.cells #[.int .i64 0, .int .i64 0] 91))).heap[w.heap.size + 1 + 1]? = some (.cells #[.int .i64 x.num, .int .i64 (x.den : Int)] 91 (0, 0)) := by
    rw [Below.heap_alloc _ _ _ (by simp)]
    have := heap_alloc_new ((w.alloc (.cells #[.int .i64 o.num, .int .i64 (o.den : Int)] 91)).alloc (.cells #[.int .i64 n.num, .int .i64 (n.den : Int)] 91)) (.cells #[.int .i64 x.num, .int .i64 (x.den : Int)] 91)
    rw [World.size_alloc, World.size_alloc] at this
    exact this
  have h3 : (((((w.alloc (.cells #[.int .i64 o.num, .int .i64 (o.den : Int)] 91)).alloc (.cells #[.int .i64 n.num, .int .i64 (n.den : Int)] 91)).alloc (.cells #[.int .i64 x.num, .int .i64 (x.den : Int)] 91)).alloc (.cells #[.int .i64 0, .int .i64 0] 91))).heap[w.heap.size + 1 + 1 + 1]? = some (.cells #[.int .i64 0, .int .i64 0] 91 (0, 0)) := by
    have := heap_alloc_new (((w.alloc (.cells #[.int .i64 o.num, .int .i64 (o.den : Int)] 91)).alloc (.cells #[.int .i64 n.num, .int .i64 (n.den : Int)] 91)).alloc (.cells #[.int .i64 x.num, .int .i64 (x.den : Int)] 91)) (.cells #[.int .i64 0, .int .i64 0] 91)
    rw [World.size_alloc, World.size_alloc, World.size_alloc] at this
    exact this
  have hw4 : Below w.heap.size w (((((w.alloc (.cells #[.int .i64 o.num, .int .i64 (o.den : Int)] 91)).alloc (.cells #[.int .i64 n.num, .int .i64 (n.den : Int)] 91)).alloc (.cells #[.int .i64 x.num, .int .i64 (x.den : Int)] 91)).alloc (.cells #[.int .i64 0, .int .i64 0] 91))) := ((((Below.refl _ _).alloc (Nat.le_refl _) _).alloc (by simp) _).alloc (by simp; omega) _).alloc (by simp; omega) _
  have H2 := hide (show (((((w.alloc (.cells #[.int .i64 o.num, .int .i64 (o.den : Int)] 91)).alloc (.cells #[.int .i64 n.num, .int .i64 (n.den : Int)] 91)).alloc (.cells #[.int .i64 x.num, .int .i64 (x.den : Int)] 91)).alloc (.cells #[.int .i64 0, .int .i64 0] 91))).drew.heap[w.heap.size + 1 + 1]? = some (.cells #[.int .i64 x.num, .int .i64 (x.den : Int)] 91 (0, 0)) from h2)
  have H3 := hide (show (((((w.alloc (.cells #[.int .i64 o.num, .int .i64 (o.den : Int)] 91)).alloc (.cells #[.int .i64 n.num, .int .i64 (n.den : Int)] 91)).alloc (.cells #[.int .i64 x.num, .int .i64 (x.den : Int)] 91)).alloc (.cells #[.int .i64 0, .int .i64 0] 91))).drew.heap[w.heap.size + 1 + 1 + 1]? = some (.cells #[.int .i64 0, .int .i64 0] 91 (0, 0)) from h3)
  have H4d := hide (Below.drew hw4)
  clear ho hx h2 h3 hw4
  go_enter Tryz.func188, Tryz.ntmps188
  go_upto_region 5 with fail
  go_region_with (first | (go_at_call 137; refine (qNeg (unhide HO) _).mono ?_; rintro e w1 ⟨rfl, hb1⟩; obtain ⟨k2, k3, kb⟩ := zfacts (unhide H2) (unhide H3) (unhide H4d) hb1; have c2 := blk_cell k2; have HK3 := hide k3; have HKb := hide kb; clear hb1 k2 k3 kb; rw [qv]) | (go_at_call 46; refine (qPlus (unhide HX) (neg_small (unhide HO)) _).mono ?_; rintro e w2 ⟨hq, hb2⟩; obtain ⟨p, q, c, rfl, hfl⟩ := hq.flat; have k3 := res_at (unhide HK3) hb2; have c3 := blk_cell k3; have f3 := blk_free k3; have HFl := hide hfl; have HB := hide ((unhide HKb).trans (hb2.mono (unhide HKb).size)); clear hb2 k3 hfl hq))
  all_goals go_wp2_with fail
  all_goals exact bodyPost_ret (v := .tuple #[.agg #[.int .i64 p, .int .i64 q], .int .i64 c]) (by simp [results, Tryz.results188, go_sem, c3]) rfl ⟨(unhide HFl).got, Below.setCell (p := ⟨w.heap.size + 1 + 1 + 1, 1, none⟩) (Below.setCell (p := ⟨w.heap.size + 1 + 1 + 1, 0, none⟩) (unhide HB) (Nat.le_add_right _ 3) _) (Nat.le_add_right _ 3) _⟩
end Go.Proofs.YtikiaijgcjjloaaGreatDoor

/- The walks: items joined. -/
namespace Go.Proofs.YtikiaijgcjjloaaGreatDoor
open Go Go.RowKit M T Go.Lib

theorem zero_iff : ∀ l : List Rat, zeroAhead l = true ↔ ∃ i, ∃ (h : i + 1 < l.length), l[i] = 0
  | [] => by
    constructor
    · intro h; cases h
    · rintro ⟨i, h, _⟩; simp at h
  | [x] => by
    constructor
    · intro h; cases h
    · rintro ⟨i, h, _⟩; simp at h
  | x :: y :: l => by
    rw [zeroAhead_cons, Bool.or_eq_true, zero_iff (y :: l)]
    constructor
    · rintro (h | ⟨i, h, e⟩)
      · exact ⟨0, by simp, by simpa using h⟩
      · exact ⟨i + 1, by simpa using h, by simpa using e⟩
    · rintro ⟨i, h, e⟩
      cases i with
      | zero => exact Or.inl (by simpa using e)
      | succ i => exact Or.inr ⟨i, by simpa using h, by simpa using e⟩

set_option maxRecDepth 100000 in
set_option maxHeartbeats 1600000 in
theorem hasZero_any {g cap : Nat} {xs : List Rat} {w : World} (h : LIs w g cap xs) :
    Calls Tryz.prog 187 #[.slice (some ⟨g, 0, none⟩) xs.length cap] w fun e w' => e = .returned (.bool (zeroAhead xs)) ∧ Below w.heap.size w w' := by
  have HL := hide h
  have hg := h.lt
  have hlen := h.len
  clear h
  go_enter Tryz.func187, Tryz.ntmps187
  go_wp2_with fail
  go_loopg [7] xs.length (fun kk v7 wr => ∃ (i : Nat), kk = xs.length - i ∧ i ≤ xs.length ∧ v7 = .int .i64 (i : Int) ∧ (∀ j (h : j + 1 < xs.length), j < i → xs[j] ≠ 0) ∧ Below w.heap.size w wr)
  case atStart => exact ⟨0, rfl, Nat.zero_le _, rfl, fun j _ h => absurd h (Nat.not_lt_zero _), Below.refl _ _⟩
  case round =>
    obtain ⟨i, hk, hi, rfl, hno, hb⟩ := hrel
    have HK := hide hk
    have HNo := hide hno
    have HB := hide hb
    clear hk hno
    by_cases hlt : i < xs.length
    · have hlt' : (i : Int) < (xs.length : Int) := by omega
      obtain ⟨d0, d1⟩ := (unhide HL).cell hlt
      have hgr : ∀ o, wr.cell? ⟨g, o, none⟩ = w.cell? ⟨g, o, none⟩ := fun o => hb.cell (p := ⟨g, o, none⟩) hg
      rw [← hgr] at d0 d1
      have hbx := hb.alloc hb.size (.cells #[.int .i64 xs[i].num, .int .i64 (xs[i].den : Int)] 91)
      have HBx := hide hbx
      clear hgr hb hbx
      by_cases hl1 : i + 1 < xs.length
      · have hl2 : (i : Int) < (xs.length : Int) - 1 := by omega
        have HYes := hide (fun (h0 : xs[i] = 0) => (zero_iff xs).2 ⟨i, hl1, h0⟩)
        have HNx := hide (fun (h0 : xs[i] ≠ 0) => show ∀ j (h : j + 1 < xs.length), j < i + 1 → xs[j] ≠ 0 from fun j h hj => by
          rcases Nat.lt_or_ge j i with h1 | h1
          · exact unhide HNo j h h1
          · have e : j = i := by omega
            subst e; exact h0)
        generalize xs[i] = x at d0 d1 HYes HNx HBx
        go_wp2_with fail
        refine (qZero x _).mono ?_
        rintro e w1 ⟨rfl, hb1⟩
        have HB1 := hide ((unhide HBx).trans (hb1.mono (unhide HBx).size))
        clear hb1
        by_cases h0 : x = 0
        · rw [show decide (x = 0) = true from decide_eq_true h0]
          have HZ := hide (unhide HYes h0)
          clear h0
          go_wp2_with fail
          go_ret
          exact ⟨by rw [unhide HZ]; rfl, unhide HB1⟩
        · rw [show decide (x = 0) = false from decide_eq_false h0]
          have HZ := hide (unhide HNx h0)
          clear h0
          go_wp2_with fail
          go_roundg (xs.length - (i + 1))
          case measure => rw [unhide HK]; omega
          case rel => exact ⟨i + 1, rfl, by omega, rfl, unhide HZ, unhide HB1⟩
      · have hl2 : ¬ (i : Int) < (xs.length : Int) - 1 := by omega
        have HNx := hide (show ∀ j (h : j + 1 < xs.length), j < i + 1 → xs[j] ≠ 0 from fun j h hj => unhide HNo j h (by omega))
        generalize xs[i] = x at d0 d1 HBx
        go_wp2_with fail
        go_roundg (xs.length - (i + 1))
        case measure => rw [unhide HK]; omega
        case rel => exact ⟨i + 1, rfl, by omega, rfl, unhide HNx, unhide HBx⟩
    · have hlt' : ¬ (i : Int) < (xs.length : Int) := by omega
      have HZ := hide (show zeroAhead xs = false by
        cases hz : zeroAhead xs with
        | false => rfl
        | true =>
          obtain ⟨j, hj, e⟩ := (zero_iff xs).1 hz
          exact absurd e (unhide HNo j hj (by omega)))
      go_wp2_with fail
      go_ret
      exact ⟨by rw [unhide HZ]; rfl, unhide HB⟩
end Go.Proofs.YtikiaijgcjjloaaGreatDoor

/- The walks: items joined: the loop. -/
namespace Go.Proofs.YtikiaijgcjjloaaGreatDoor
open Go Go.RowKit M T Go.Lib

theorem MkIs.set {w0 wr : World} {g' n cp : Nat} {ys : List Rat} (h : MkIs w0 (.slice (some ⟨g', 0, none⟩) n cp) ys wr) {k : Nat} (hk : w0.heap.size ≤ k) (hn : k ≠ g') (o : Nat) (u : Value) : MkIs w0 (.slice (some ⟨g', 0, none⟩) n cp) ys (wr.setCell ⟨k, o, none⟩ u) := by
  refine ⟨⟨h.own.1, ?_⟩, h.bel.setCell (p := ⟨k, o, none⟩) hk u⟩
  rcases h.own.2 with h2 | ⟨g, cap, cur, hv, hg, hh, r⟩
  · exact Or.inl h2
  · refine Or.inr ⟨g, cap, cur, hv, hg, ?_, r⟩
    obtain ⟨e, _, _⟩ := Value.slice.inj hv
    have e' : g' = g := congrArg Addr.block (Option.some.inj e)
    rw [Below.heap_setCell _ _ _ _ (by show g ≠ k; omega)]
    exact hh
/-- Behind joinTwo. -/
theorem join_step {cc : Int} {J : Rat → Rat → Rat → Except Int Rat} (hJ : ∀ (o n x : Rat) (w : World), small o = true → small n = true → small x = true → Calls Tryz.prog 188 #[qv o, qv n, qv x, .int .u8 cc] w fun e w' => QGot (J o n x) e ∧ Below w.heap.size w w')
    {w0 wr : World} {g' m cp' : Nat} {ys : List Rat} (hm : MkIs w0 (.slice (some ⟨g', 0, none⟩) m cp') ys wr) {o n x : Rat} (ho : small o = true) (hn : small n = true) (hx : small x = true) (wx : World) (hb0 : Below wr.heap.size wr wx) (hh : wx.heap[wr.heap.size]? = some (.cells #[.int .i64 x.num, .int .i64 (x.den : Int)] 91 (0, 0))) :
    Calls Tryz.prog 188 #[.agg #[.int .i64 o.num, .int .i64 (o.den : Int)], .agg #[.int .i64 n.num, .int .i64 (n.den : Int)], .agg #[.int .i64 x.num, .int .i64 (x.den : Int)], .int .u8 cc] wx fun e w' => ∃ p q c, e = .returned (.tuple #[.agg #[.int .i64 p, .int .i64 q], .int .i64 c]) ∧ QFlat (J o n x) p q c ∧ (∀ b k, b < wr.heap.size → w'.cell? ⟨b, k, none⟩ = wr.cell? ⟨b, k, none⟩) ∧ w'.heap[wr.heap.size]? = some (.cells #[.int .i64 x.num, .int .i64 (x.den : Int)] 91 (0, 0)) ∧ MkIs w0 (.slice (some ⟨g', 0, none⟩) m cp') ys w' ∧ Below wx.heap.size wx w' := by
  refine (hJ o n x _ ho hn hx).mono ?_
  rintro e w' ⟨hq, hb⟩
  obtain ⟨p, q, c, rfl, hf⟩ := hq.flat
  have hbb := hb0.trans (hb.mono hb0.size)
  exact ⟨p, q, c, rfl, hf, fun b k hbk => hbb.cell (p := ⟨b, k, none⟩) hbk, res_at hh hb, hm.below hbb, hb⟩
theorem box_two (w : World) (c d : Array Value) (t : TypeId) : ((w.alloc (.cells c t)).alloc (.cells d t)).drew.heap[w.heap.size]? = some (.cells c t (0, 0)) := by
  show ((w.alloc (.cells c t)).alloc (.cells d t)).heap[w.heap.size]? = _
  rw [Below.heap_alloc _ _ _ (by simp)]
  exact heap_alloc_new w _
theorem new_at2P (w : World) (o o' : Obj) : ((w.alloc o).alloc o').heap[w.heap.size + 1]? = some o' := by
  have := heap_alloc_new (w.alloc o) o'
  rw [World.size_alloc] at this
  exact this
theorem box_two' (w : World) (c d : Array Value) (t : TypeId) : ((w.alloc (.cells c t)).alloc (.cells d t)).drew.heap[w.heap.size + 1]? = some (.cells d t (0, 0)) := new_at2P w _ _
/-- What join answers. -/
def joinR (cc : Int) (J : Rat → Rat → Rat → Except Int Rat) (l : List Rat) : Except Int (List Rat) := if (decide (cc = 109) && zeroAhead l) = true then .error 2 else joinL J l

set_option maxRecDepth 100000 in
set_option maxHeartbeats 3200000 in
theorem join_any {cc : Int} {J : Rat → Rat → Rat → Except Int Rat} (hJ : ∀ (o n x : Rat) (w : World), small o = true → small n = true → small x = true → Calls Tryz.prog 188 #[qv o, qv n, qv x, .int .u8 cc] w fun e w' => QGot (J o n x) e ∧ Below w.heap.size w w')
    {g cap : Nat} {xs : List Rat} {w : World} (h : LIs w g cap xs) :
    Calls Tryz.prog 180 #[.slice (some ⟨g, 0, none⟩) xs.length cap, .int .u8 cc] w fun e w' => LGot w.heap.size (joinR cc J xs) e w' ∧ Below w.heap.size w w' := by
  obtain ⟨i0, hi0, hz0, hz1, hz2⟩ := info_parts Tryz.infoNumber
  have HL := hide h
  have HJ := hide hJ
  have hlen := h.len
  have HR := hide (show joinR cc J xs = if (decide (cc = 109) && zeroAhead xs) = true then .error 2 else joinL J xs from rfl)
  clear h hJ
  generalize joinR cc J xs = r at HR ⊢
  go_enter Tryz.func180, Tryz.ntmps180
  go_upto_region 1 with fail
  go_cut [16] (fun v16 wx => v16 = .bool (decide (cc = 109) && zeroAhead xs) ∧ Below w.heap.size w wx)
  case first =>
    by_cases hm : cc = 109
    · have q : (cc == 109) = true := by rw [hm]; rfl
      have HQ := hide (show (decide (cc = 109) && zeroAhead xs) = zeroAhead xs by rw [decide_eq_true hm, Bool.true_and])
      clear hm
      go_wp2_with fail
      refine (hasZero_any (unhide HL)).mono ?_
      rintro e w1 ⟨rfl, hb1⟩
      go_wp2_with fail
      go_meet
      exact ⟨by rw [unhide HQ], hb1⟩
    · have q : (cc == 109) = false := by rw [beq_eq_false_iff_ne]; exact hm
      have HQ := hide (show (decide (cc = 109) && zeroAhead xs) = false by rw [decide_eq_false hm, Bool.false_and])
      clear hm
      go_wp2_with fail
      go_meet
      exact ⟨by rw [unhide HQ], Below.refl _ _⟩
  case rest =>
  obtain ⟨rfl, hbc⟩ := hcut
  obtain ⟨wk, hwk⟩ : ∃ wk, wk = wc := ⟨_, rfl⟩
  subst hwk
  have HBc := hide hbc
  have HLc := hide ((unhide HL).below hbc)
  have hg := (unhide HLc).lt
  clear hbc
  cases hz : (decide (cc = 109) && zeroAhead xs) with
  | true =>
    have HE := hide (show r = .error 2 by rw [unhide HR, hz]; rfl)
    clear hz
    go_wp2_with fail
    exact bodyPost_ret (v := .tuple #[.slice none 0 0, .int .i64 2]) (by simp [results, Tryz.results180, go_sem]) rfl ⟨Or.inr ⟨2, unhide HE, by decide, rfl⟩, unhide HBc⟩
  | false =>
    have HE := hide (show r = joinL J xs by rw [unhide HR, hz]; rfl)
    clear hz
    go_wp2_with fail
    go_loopg [6, 20] xs.length (fun kk v6 v20 wr => ∃ (i : Nat) (ys : List Rat) (g' cp' : Nat), kk = xs.length - i ∧ i ≤ xs.length ∧ v20 = .int .i64 (i : Int) ∧ v6 = .slice (some ⟨g', 0, none⟩) ys.length cp' ∧ joinL J (xs.take i) = .ok ys ∧ AllS ys ∧ MkIs wk (.slice (some ⟨g', 0, none⟩) ys.length cp') ys wr)
    case atStart => exact ⟨0, [], wk.heap.size, 0, rfl, Nat.zero_le _, rfl, rfl, rfl, fun _ h => by (cases h), MkIs.start wk⟩
    case round =>
      obtain ⟨i, ys, g', cp', hk, hi, rfl, rfl, he, ha, hm⟩ := hrel
      have HK := hide hk
      have HJl := hide he
      have HA := hide ha
      have HM := hide hm
      have hyl := joinL_len he
      rw [List.length_take] at hyl
      have hyb : ys.length ≤ 1000 := by omega
      have HYl := hide (show i ≤ xs.length → ys.length = i by omega)
      have hg' : g' < wr.heap.size := (hm.own.lt g' rfl).2
      have hgg := hm.bel.size
      have hgw : g < wr.heap.size := by omega
      clear hk he ha hyl
      by_cases hlt : i < xs.length
      · have hlt' : (i : Int) < (xs.length : Int) := by omega
        obtain ⟨d0, d1⟩ := (unhide HLc).cell hlt
        have hgr : ∀ o, wr.cell? ⟨g, o, none⟩ = wk.cell? ⟨g, o, none⟩ := fun o => hm.bel.cell (p := ⟨g, o, none⟩) hg
        rw [← hgr] at d0 d1
        cases i with
        | zero =>
          obtain rfl : ys = [] := List.eq_nil_of_length_eq_zero (unhide HYl (by omega))
          have HX := hide ((unhide HLc).small xs[0] (List.getElem_mem hlt))
          have HF := hide (joinL_first (J := J) hlt)
          have HM2 := hide ((hm.below ((Below.refl _ _).alloc (Nat.le_refl _) (.cells (qcells xs[0]).toArray 91))).below ((Below.refl _ _).alloc (Nat.le_refl _) (.cells (qcells xs[0]).toArray 91)))
          clear hgr hm
          generalize xs[0] = x at d0 d1 HX HF HM2
          go_wp2_with (at_builtin; refine wpList_append_own _ rfl _ _ 66 rfl wk.heap.size 91 i0 _ 2 16 Tryz.underlying66 hi0 hz0 hz1 hz2 rfl (by decide) _ _ _ rfl (unhide HM2).own ⟨wr.heap.size + 1, 0, none⟩ 1 1 (qcells x) rfl rfl (nnews_at (by simp) _ _) (one_qcells _) (by unfold maxLen; simp) (by simp) (by simp; omega) ?_)
          intro v' w4 hown4 hgr4 _
          have hm4 := (unhide HM2).more hown4 hgr4
          obtain ⟨g4, cp4, rfl⟩ := hm4.shape (by simp)
          have HM4 := hide hm4
          clear hown4 hgr4 hm4
          go_wp2_with fail
          go_roundg (xs.length - 1)
          case measure => rw [unhide HK]; omega
          case rel => exact ⟨1, [x], g4, cp4, rfl, by omega, rfl, rfl, unhide HF, fun q hq => by rw [List.mem_singleton.1 hq]; exact unhide HX, unhide HM4⟩
        | succ j =>
          have hjl : j < xs.length := by omega
          have hyj : ys.length = j + 1 := unhide HYl (by omega)
          have hjy : j < ys.length := by omega
          have hjy' : (j : Int) < (ys.length : Int) := by omega
          have hjl' : (j : Int) < (xs.length : Int) := by omega
          obtain ⟨a0, a1⟩ := (unhide HLc).cell hjl
          rw [← hgr] at a0 a1
          obtain ⟨b0, b1⟩ := nrow_cell hm.own hjy
          have HNx := hide (joinL_next hlt (unhide HJl) hjy)
          have HSt := hide (join_step (unhide HJ) hm ((unhide HLc).small xs[j] (List.getElem_mem hjl)) (unhide HA ys[j] (List.getElem_mem hjy)) ((unhide HLc).small xs[j + 1] (List.getElem_mem hlt)))
          clear hgr hm hyj HYl
          generalize xs[j] = o at a0 a1 HNx HSt
          generalize ys[j] = nn at b0 b1 HNx HSt
          generalize xs[j + 1] = x at d0 d1 HNx HSt
          go_upto_region 8 with fail
          obtain ⟨I, hI⟩ : ∃ I : Int, ((j + 1 : Nat) : Int) = I := ⟨_, rfl⟩
          have hI1 : I - 1 = (j : Int) := by omega
          have hI2 : (0 : Int) < I := by omega
          have hI4 : IntKind.i64.wrap (j : Int) = (j : Int) := by rw [IntKind.wrap_i64]; omega
          have hI5 : IntKind.i64.wrap (I - 1) = (j : Int) := by rw [IntKind.wrap_i64]; omega
          have hI6 : (0 : Int) ≤ (j : Int) := by omega
          have hI3 : I ≤ 1000 := by omega
          rw [hI] at hlt' ⊢
          have HI := hide hI
          clear hI
          have hn1 : g ≠ wr.heap.size + 1 := by omega
          have hn2 : g' ≠ wr.heap.size + 1 := by omega
          have hn3 : wr.heap.size + 1 ≠ g := by omega
          have hn4 : wr.heap.size + 1 ≠ g' := by omega
          go_cut [9, 10] (fun v9 v10 wx => ∃ p q c k, v9 = .pointer (some ⟨k, 0, none⟩) ∧ v10 = .int .i64 c ∧ QFlat (J o nn x) p q c ∧ wr.heap.size < k ∧ wx.heap[k]? = some (.cells #[.int .i64 p, .int .i64 q] 91 (0, 0)) ∧ wx.heap[wr.heap.size]? = some (.cells #[.int .i64 x.num, .int .i64 (x.den : Int)] 91 (0, 0)) ∧ MkIs wk (.slice (some ⟨g', 0, none⟩) ys.length cp') ys wx)
          case first =>
            go_region_held3 (fun w' => w'.cell? ⟨g, j * 2, none⟩ = some (.int .i64 o.num) ∧ w'.cell? ⟨g, j * 2 + 1, none⟩ = some (.int .i64 (o.den : Int)) ∧ w'.cell? ⟨g', j * 2, none⟩ = some (.int .i64 nn.num) ∧ w'.cell? ⟨g', j * 2 + 1, none⟩ = some (.int .i64 (nn.den : Int)) ∧ w'.cell? ⟨wr.heap.size, 0, none⟩ = some (.int .i64 x.num) ∧ w'.cell? ⟨wr.heap.size, 1, none⟩ = some (.int .i64 (x.den : Int))) (go_keep)
              (first | (go_at_call 188; refine (unhide HSt ((wr.alloc (.cells #[.int .i64 x.num, .int .i64 (x.den : Int)] 91)).alloc (.cells #[.int .i64 0, .int .i64 0] 91)).drew (Below.drew (((Below.refl _ _).alloc (Nat.le_refl _) _).alloc (by simp) _)) (box_two wr _ _ _)).mono ?_; rintro e w' ⟨p, q, c, rfl, hfl, hcs, hbx, hmk, hbw⟩; have e0 := (hcs g (j * 2) hgw).trans a0; have e1 := (hcs g (j * 2 + 1) hgw).trans a1; have e2 := (hcs g' (j * 2) hg').trans b0; have e3 := (hcs g' (j * 2 + 1) hg').trans b1; have e4 : ∀ i, w'.cell? ⟨wr.heap.size, i, none⟩ = (#[.int .i64 x.num, .int .i64 (x.den : Int)] : Array Value)[i]? := fun i => blk_cell hbx i; have hl1 := lt_of_block hbx; have hb5 := res_at (box_two' wr _ _ _) hbw; have e5 : ∀ i, w'.cell? ⟨wr.heap.size + 1, i, none⟩ = (#[.int .i64 0, .int .i64 0] : Array Value)[i]? := fun i => blk_cell hb5 i; have e6 : ∀ i, w'.frozen? ⟨wr.heap.size + 1, i, none⟩ = false := fun i => blk_free hb5 i; have HFl := hide hfl; have HMk := hide hmk; have HBx := hide hbx; have HB5 := hide hb5; clear hfl hmk hbw hcs hbx hb5) | (go_at_call 188; refine (unhide HSt (wr.alloc (.cells #[.int .i64 x.num, .int .i64 (x.den : Int)] 91)).drew (Below.drew ((Below.refl _ _).alloc (Nat.le_refl _) _)) (heap_alloc_new wr _)).mono ?_; rintro e w' ⟨p, q, c, rfl, hfl, hcs, hbx, hmk, hbw⟩; have e0 := (hcs g (j * 2) hgw).trans a0; have e1 := (hcs g (j * 2 + 1) hgw).trans a1; have e2 := (hcs g' (j * 2) hg').trans b0; have e3 := (hcs g' (j * 2 + 1) hg').trans b1; have e4 : ∀ i, w'.cell? ⟨wr.heap.size, i, none⟩ = (#[.int .i64 x.num, .int .i64 (x.den : Int)] : Array Value)[i]? := fun i => blk_cell hbx i; have hl1 := lt_of_block hbx; have HFl := hide hfl; have HMk := hide hmk; have HBx := hide hbx; clear hfl hmk hbw hcs hbx))
            all_goals go_wp2_with fail
            all_goals go_meet
            · exact ⟨p, q, c, w'.heap.size, rfl, rfl, unhide HFl, hl1, heap_alloc_new w' _, (Below.heap_alloc w' _ _ hl1).trans (unhide HBx), (unhide HMk).below ((Below.refl _ _).alloc (Nat.le_refl _) _)⟩
            · refine ⟨p, q, c, wr.heap.size + 1, rfl, rfl, unhide HFl, Nat.lt_succ_self _, ?_, ?_, ((unhide HMk).set (by omega) hn4 0 _).set (by omega) hn4 1 _⟩
              · exact blk_set (blk_set (unhide HB5) 0 _) 1 _
              · rw [Below.heap_setCell _ _ _ _ (show wr.heap.size ≠ wr.heap.size + 1 by omega), Below.heap_setCell _ _ _ _ (show wr.heap.size ≠ wr.heap.size + 1 by omega)]
                exact unhide HBx
          case rest =>
            obtain ⟨p, q, c, k, rfl, rfl, hfl, hkl, hbk, hbx, hmk⟩ := hcut
            have c0 : ∀ i, wc.cell? ⟨k, i, none⟩ = (#[.int .i64 p, .int .i64 q] : Array Value)[i]? := fun i => blk_cell hbk i
            have c1 : ∀ i, wc.cell? ⟨wr.heap.size, i, none⟩ = (#[.int .i64 x.num, .int .i64 (x.den : Int)] : Array Value)[i]? := fun i => blk_cell hbx i
            have f1 : ∀ i, wc.frozen? ⟨wr.heap.size, i, none⟩ = false := fun i => blk_free hbx i
            have hxl := lt_of_block hbx
            rcases hfl with ⟨z, hz, hs, rfl, rfl, rfl⟩ | ⟨c', hz, hne, rfl, rfl, rfl⟩
            · have HZ := hide ((unhide HNx).1 z hz)
              have HS := hide hs
              have hm3 := (hmk.set (k := wr.heap.size) (by omega) (by omega) 0 (.int .i64 z.num)).set (k := wr.heap.size) (by omega) (by omega) 1 (.int .i64 (z.den : Int))
              have HM3 := hide (hm3.below ((Below.refl _ _).alloc (Nat.le_refl _) (.cells (qcells z).toArray 91)))
              have hsz := hmk.bel.size
              clear hz hs hm3 hmk hbk hbx
              go_wp2_with (at_builtin; refine wpList_append_own _ rfl _ _ 66 rfl wk.heap.size 91 i0 _ 2 16 Tryz.underlying66 hi0 hz0 hz1 hz2 rfl (by decide) _ _ _ rfl (unhide HM3).own ⟨wc.heap.size, 0, none⟩ 1 1 (qcells z) rfl rfl (nnews_at (by simp) _ _) (one_qcells _) (by unfold maxLen; omega) (by omega) (by simp; omega) ?_)
              intro v' w4 hown4 hgr4 _
              have hm4 := (unhide HM3).more hown4 hgr4
              obtain ⟨g4, cp4, rfl⟩ := hm4.shape (by simp)
              have HM4 := hide hm4
              clear hown4 hgr4 hm4
              go_wp2_with fail
              go_roundg (xs.length - (j + 1 + 1))
              case measure => rw [unhide HK]; omega
              case rel => exact ⟨j + 1 + 1, ys ++ [z], g4, cp4, rfl, by omega, by rw [← unhide HI]; rfl, rfl, unhide HZ, allS_one (unhide HA) (unhide HS), unhide HM4⟩
            · have HZ := hide (show r = .error c by rw [unhide HE]; exact (unhide HNx).2 c hz)
              have hne' : (c != 0) = true := by rw [bne_iff_ne]; exact hne
              have HN := hide hne
              have HMk := hide hmk
              clear hz hne hmk hbk hbx
              go_wp2_with fail
              exact bodyPost_ret (v := .tuple #[.slice none 0 0, .int .i64 c]) (by simp [results, Tryz.results180, go_sem]) rfl ⟨Or.inr ⟨c, unhide HZ, unhide HN, rfl⟩, (unhide HBc).trans ((unhide HMk).bel.mono (unhide HBc).size)⟩
      · have hlt' : ¬ (i : Int) < (xs.length : Int) := by omega
        have hie : i = xs.length := by omega
        have HEn := hide (show r = .ok ys by
          have := unhide HJl
          rw [hie, List.take_length] at this
          rw [unhide HE, this])
        clear hie
        go_wp2_with fail
        exact bodyPost_ret (v := .tuple #[.slice (some ⟨g', 0, none⟩) ys.length cp', .int .i64 0]) (by simp [results, Tryz.results180, go_sem]) rfl ⟨Or.inl ⟨ys, g', cp', unhide HEn, unhide HA, rfl, owns_base (unhide HM).own (unhide HBc).size⟩, (unhide HBc).trans ((unhide HM).bel.mono (unhide HBc).size)⟩
end Go.Proofs.YtikiaijgcjjloaaGreatDoor

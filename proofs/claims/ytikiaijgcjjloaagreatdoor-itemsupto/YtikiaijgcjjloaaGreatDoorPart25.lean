import Derived.Test.YtikiaijgcjjloaaGreatDoorPart24
import Derived.Deep.RegionWith

/- The walks: two items joined. -/
namespace Go.Proofs.YtikiaijgcjjloaaGreatDoor
open Go Go.RowKit M T Go.Lib

/-- Two cells of a result behind a call, three boxes ahead. -/
theorem res3 {w w1 : World} {o1 o2 o3 : Obj} {c : Array Value} {T : TypeId} (hb : Below ((((w.alloc o1).alloc o2).alloc o3).alloc (.cells c T)).heap.size ((((w.alloc o1).alloc o2).alloc o3).alloc (.cells c T)) w1) : (∀ i, w1.cell? ⟨w.heap.size + 1 + 1 + 1, i, none⟩ = c[i]?) ∧ (∀ i, w1.frozen? ⟨w.heap.size + 1 + 1 + 1, i, none⟩ = false) ∧ Below w.heap.size w w1 ∧ w.heap.size + 1 + 1 + 1 < w1.heap.size := by
  have hs : ((((w.alloc o1).alloc o2).alloc o3).alloc (.cells c T)).heap.size = w.heap.size + 4 := by simp
  have hn := heap_alloc_new (((w.alloc o1).alloc o2).alloc o3) (.cells c T)
  rw [World.size_alloc, World.size_alloc, World.size_alloc] at hn
  have hblk : w1.heap[w.heap.size + 1 + 1 + 1]? = some (.cells c T (0, 0)) := by rw [hb.block _ (by omega)]; exact hn
  exact ⟨fun i => blk_cell hblk i, fun i => blk_free hblk i, (((((Below.refl _ _).alloc (Nat.le_refl _) _).alloc (by simp) _).alloc (by simp; omega) _).alloc (by simp; omega) _).trans (hb.mono (by omega)), lt_of_block hblk⟩

set_option maxRecDepth 100000 in
set_option maxHeartbeats 800000 in
theorem two_s {o n x : Rat} (ho : small o = true) (hn : small n = true) (hx : small x = true) (w : World) : Calls Tryz.prog 188 #[qv o, qv n, qv x, .int .u8 115] w fun e w' => QGot (addE n x) e ∧ Below w.heap.size w w' := by
  rw [qv, qv, qv]
  have HO := hide ho
  have HN := hide hn
  have HX := hide hx
  clear ho hn hx
  go_enter Tryz.func188, Tryz.ntmps188
  go_wp2_with fail
  refine (qPlus (unhide HN) (unhide HX) _).mono ?_
  rintro e w1 ⟨hq, hb1⟩
  obtain ⟨hc1, hf1, hbw, _⟩ := res3 hb1
  have HB := hide hbw
  clear hb1 hbw
  rcases hq with ⟨z, hz, hs, rfl⟩ | ⟨c0, hz, hne, rfl⟩
  · have HZ := hide hz
    have HS := hide hs
    clear hz hs
    rw [qv]
    go_wp2_with fail
    exact bodyPost_ret (v := .tuple #[qv z, .int .i64 0]) (by simp [results, Tryz.results188, go_sem, hc1, qv]) rfl ⟨Or.inl ⟨z, unhide HZ, unhide HS, rfl⟩, Below.setCell (p := ⟨w.heap.size + 1 + 1 + 1, 1, none⟩) (Below.setCell (p := ⟨w.heap.size + 1 + 1 + 1, 0, none⟩) (unhide HB) (Nat.le_add_right _ 3) _) (Nat.le_add_right _ 3) _⟩
  · have HZ := hide hz
    have HNe := hide hne
    clear hz hne
    go_wp2_with fail
    exact bodyPost_ret (v := .tuple #[.agg #[.int .i64 0, .int .i64 0], .int .i64 c0]) (by simp [results, Tryz.results188, go_sem, hc1]) rfl ⟨Or.inr ⟨c0, unhide HZ, unhide HNe, rfl⟩, Below.setCell (p := ⟨w.heap.size + 1 + 1 + 1, 1, none⟩) (Below.setCell (p := ⟨w.heap.size + 1 + 1 + 1, 0, none⟩) (unhide HB) (Nat.le_add_right _ 3) _) (Nat.le_add_right _ 3) _⟩

set_option maxRecDepth 100000 in
set_option maxHeartbeats 800000 in
theorem two_p {o n x : Rat} (ho : small o = true) (hn : small n = true) (hx : small x = true) (w : World) : Calls Tryz.prog 188 #[qv o, qv n, qv x, .int .u8 112] w fun e w' => QGot (mulE n x) e ∧ Below w.heap.size w w' := by
  rw [qv, qv, qv]
  have HO := hide ho
  have HN := hide hn
  have HX := hide hx
  clear ho hn hx
  go_enter Tryz.func188, Tryz.ntmps188
  go_wp2_with fail
  refine (qTimes (unhide HN) (unhide HX) _).mono ?_
  rintro e w1 ⟨hq, hb1⟩
  obtain ⟨hc1, hf1, hbw, _⟩ := res3 hb1
  have HB := hide hbw
  clear hb1 hbw
  rcases hq with ⟨z, hz, hs, rfl⟩ | ⟨c0, hz, hne, rfl⟩
  · have HZ := hide hz
    have HS := hide hs
    clear hz hs
    rw [qv]
    go_wp2_with fail
    exact bodyPost_ret (v := .tuple #[qv z, .int .i64 0]) (by simp [results, Tryz.results188, go_sem, hc1, qv]) rfl ⟨Or.inl ⟨z, unhide HZ, unhide HS, rfl⟩, Below.setCell (p := ⟨w.heap.size + 1 + 1 + 1, 1, none⟩) (Below.setCell (p := ⟨w.heap.size + 1 + 1 + 1, 0, none⟩) (unhide HB) (Nat.le_add_right _ 3) _) (Nat.le_add_right _ 3) _⟩
  · have HZ := hide hz
    have HNe := hide hne
    clear hz hne
    go_wp2_with fail
    exact bodyPost_ret (v := .tuple #[.agg #[.int .i64 0, .int .i64 0], .int .i64 c0]) (by simp [results, Tryz.results188, go_sem, hc1]) rfl ⟨Or.inr ⟨c0, unhide HZ, unhide HNe, rfl⟩, Below.setCell (p := ⟨w.heap.size + 1 + 1 + 1, 1, none⟩) (Below.setCell (p := ⟨w.heap.size + 1 + 1 + 1, 0, none⟩) (unhide HB) (Nat.le_add_right _ 3) _) (Nat.le_add_right _ 3) _⟩

set_option maxRecDepth 100000 in
set_option maxHeartbeats 800000 in
theorem two_m {o n x : Rat} (ho : small o = true) (hn : small n = true) (hx : small x = true) (w : World) : Calls Tryz.prog 188 #[qv o, qv n, qv x, .int .u8 109] w fun e w' => QGot (mulE n x) e ∧ Below w.heap.size w w' := by
  rw [qv, qv, qv]
  have HO := hide ho
  have HN := hide hn
  have HX := hide hx
  clear ho hn hx
  go_enter Tryz.func188, Tryz.ntmps188
  go_wp2_with fail
  refine (qTimes (unhide HN) (unhide HX) _).mono ?_
  rintro e w1 ⟨hq, hb1⟩
  obtain ⟨hc1, hf1, hbw, _⟩ := res3 hb1
  have HB := hide hbw
  clear hb1 hbw
  rcases hq with ⟨z, hz, hs, rfl⟩ | ⟨c0, hz, hne, rfl⟩
  · have HZ := hide hz
    have HS := hide hs
    clear hz hs
    rw [qv]
    go_wp2_with fail
    exact bodyPost_ret (v := .tuple #[qv z, .int .i64 0]) (by simp [results, Tryz.results188, go_sem, hc1, qv]) rfl ⟨Or.inl ⟨z, unhide HZ, unhide HS, rfl⟩, Below.setCell (p := ⟨w.heap.size + 1 + 1 + 1, 1, none⟩) (Below.setCell (p := ⟨w.heap.size + 1 + 1 + 1, 0, none⟩) (unhide HB) (Nat.le_add_right _ 3) _) (Nat.le_add_right _ 3) _⟩
  · have HZ := hide hz
    have HNe := hide hne
    clear hz hne
    go_wp2_with fail
    exact bodyPost_ret (v := .tuple #[.agg #[.int .i64 0, .int .i64 0], .int .i64 c0]) (by simp [results, Tryz.results188, go_sem, hc1]) rfl ⟨Or.inr ⟨c0, unhide HZ, unhide HNe, rfl⟩, Below.setCell (p := ⟨w.heap.size + 1 + 1 + 1, 1, none⟩) (Below.setCell (p := ⟨w.heap.size + 1 + 1 + 1, 0, none⟩) (unhide HB) (Nat.le_add_right _ 3) _) (Nat.le_add_right _ 3) _⟩

set_option maxRecDepth 100000 in
set_option maxHeartbeats 800000 in
theorem two_o {o n x : Rat} (ho : small o = true) (hn : small n = true) (hx : small x = true) (w : World) : Calls Tryz.prog 188 #[qv o, qv n, qv x, .int .u8 111] w fun e w' => QGot (divE o x) e ∧ Below w.heap.size w w' := by
  rw [qv, qv, qv]
  have HO := hide ho
  have HN := hide hn
  have HX := hide hx
  clear ho hn hx
  go_enter Tryz.func188, Tryz.ntmps188
  go_wp2_with fail
  refine (divide_any (unhide HX) (unhide HO) _).mono ?_
  rintro e w1 ⟨hq, hb1⟩
  obtain ⟨hc1, hf1, hbw, _⟩ := res3 hb1
  have HB := hide hbw
  clear hb1 hbw
  rcases hq with ⟨z, hz, hs, rfl⟩ | ⟨c0, hz, hne, rfl⟩
  · have HZ := hide hz
    have HS := hide hs
    clear hz hs
    rw [qv]
    go_wp2_with fail
    exact bodyPost_ret (v := .tuple #[qv z, .int .i64 0]) (by simp [results, Tryz.results188, go_sem, hc1, qv]) rfl ⟨Or.inl ⟨z, unhide HZ, unhide HS, rfl⟩, Below.setCell (p := ⟨w.heap.size + 1 + 1 + 1, 1, none⟩) (Below.setCell (p := ⟨w.heap.size + 1 + 1 + 1, 0, none⟩) (unhide HB) (Nat.le_add_right _ 3) _) (Nat.le_add_right _ 3) _⟩
  · have HZ := hide hz
    have HNe := hide hne
    clear hz hne
    go_wp2_with fail
    exact bodyPost_ret (v := .tuple #[.agg #[.int .i64 0, .int .i64 0], .int .i64 c0]) (by simp [results, Tryz.results188, go_sem, hc1]) rfl ⟨Or.inr ⟨c0, unhide HZ, unhide HNe, rfl⟩, Below.setCell (p := ⟨w.heap.size + 1 + 1 + 1, 1, none⟩) (Below.setCell (p := ⟨w.heap.size + 1 + 1 + 1, 0, none⟩) (unhide HB) (Nat.le_add_right _ 3) _) (Nat.le_add_right _ 3) _⟩

/-- An answer on numbers, in one shape. -/
def QFlat (r : Except Int Rat) (p q c : Int) : Prop := (∃ z, r = .ok z ∧ small z = true ∧ p = z.num ∧ q = (z.den : Int) ∧ c = 0) ∨ (∃ c', r = .error c' ∧ c' ≠ 0 ∧ p = 0 ∧ q = 0 ∧ c = c')
theorem QGot.flat {r : Except Int Rat} {e : Ending} (h : QGot r e) : ∃ p q c, e = .returned (.tuple #[.agg #[.int .i64 p, .int .i64 q], .int .i64 c]) ∧ QFlat r p q c := by
  rcases h with ⟨z, hz, hs, rfl⟩ | ⟨c, hz, hne, rfl⟩
  · exact ⟨z.num, z.den, 0, rfl, Or.inl ⟨z, hz, hs, rfl, rfl, rfl⟩⟩
  · exact ⟨0, 0, c, rfl, Or.inr ⟨c, hz, hne, rfl, rfl, rfl⟩⟩
theorem QFlat.got {r : Except Int Rat} {p q c : Int} (h : QFlat r p q c) : QGot r (.returned (.tuple #[.agg #[.int .i64 p, .int .i64 q], .int .i64 c])) := by
  rcases h with ⟨z, hz, hs, rfl, rfl, rfl⟩ | ⟨c', hz, hne, rfl, rfl, rfl⟩
  · exact Or.inl ⟨z, hz, hs, rfl⟩
  · exact Or.inr ⟨c, hz, hne, rfl⟩
/-- The boxes behind a call. -/
theorem zfacts {w wb w1 : World} {cx : Array Value} {a b : Nat} (hx : wb.heap[a]? = some (.cells cx 91 (0, 0))) (hr : wb.heap[b]? = some (.cells #[.int .i64 0, .int .i64 0] 91 (0, 0))) (hw : Below w.heap.size w wb) (hb : Below wb.heap.size wb w1) :
    w1.heap[a]? = some (.cells cx 91 (0, 0)) ∧ w1.heap[b]? = some (.cells #[.int .i64 0, .int .i64 0] 91 (0, 0)) ∧ Below w.heap.size w w1 :=
  ⟨res_at hx hb, res_at hr hb, hw.trans (hb.mono hw.size)⟩

set_option maxRecDepth 100000 in
set_option maxHeartbeats 1600000 in
theorem two_z {o n x : Rat} (ho : small o = true) (hx : small x = true) (w : World) : Calls Tryz.prog 188 #[qv o, qv n, qv x, .int .u8 122] w fun e w' => QGot (subE o x) e ∧ Below w.heap.size w w' := by
  rw [qv, qv, qv]
  rw [← subJ_eq, subJ]
  have HO := hide ho
  have HX := hide hx
  have h2 : (((((w.alloc (.cells #[.int .i64 o.num, .int .i64 (o.den : Int)] 91)).alloc (.cells #[.int .i64 n.num, .int .i64 (n.den : Int)] 91)).alloc (.cells #[.int .i64 x.num, .int .i64 (x.den : Int)] 91)).alloc (.cells #[.int .i64 0, .int .i64 0] 91))).heap[w.heap.size + 1 + 1]? = some (.cells #[.int .i64 x.num, .int .i64 (x.den : Int)] 91 (0, 0)) := by
    rw [Below.heap_alloc _ _ _ (by simp)]
    have := heap_alloc_new ((w.alloc (.cells #[.int .i64 o.num, .int .i64 (o.den : Int)] 91)).alloc (.cells #[.int .i64 n.num, .int .i64 (n.den : Int)] 91)) (.cells #[.int .i64 x.num, .int .i64 (x.den : Int)] 91)
    rw [World.size_alloc, World.size_alloc] at this
    exact this
  have h3 : (((((w.alloc (.cells #[.int .i64 o.num, .int .i64 (o.den : Int)] 91)).alloc (.cells #[.int .i64 n.num, .int .i64 (n.den : Int)] 91)).alloc (.cells #[.int .i64 x.num, .int .i64 (x.den : Int)] 91)).alloc (.cells #[.int .i64 0, .int .i64 0] 91))).heap[w.heap.size + 1 + 1 + 1]? = some (.cells #[.int .i64 0, .int .i64 0] 91 (0, 0)) := by
    have := heap_alloc_new (((w.alloc (.cells #[.int .i64 o.num, .int .i64 (o.den : Int)] 91)).alloc (.cells #[.int .i64 n.num, .int .i64 (n.den : Int)] 91)).alloc (.cells #[.int .i64 x.num, .int .i64 (x.den : Int)] 91)) (.cells #[.int .i64 0, .int .i64 0] 91)
    rw [World.size_alloc, World.size_alloc, World.size_alloc] at this
    exact this
  have hw4 : Below w.heap.size w (((((w.alloc (.cells #[.int .i64 o.num, .int .i64 (o.den : Int)] 91)).alloc (.cells #[.int .i64 n.num, .int .i64 (n.den : Int)] 91)).alloc (.cells #[.int .i64 x.num, .int .i64 (x.den : Int)] 91)).alloc (.cells #[.int .i64 0, .int .i64 0] 91))) := ((((Below.refl _ _).alloc (Nat.le_refl _) _).alloc (by simp) _).alloc (by simp; omega) _).alloc (by simp; omega) _
  have H2 := hide (show (((((w.alloc (.cells #[.int .i64 o.num, .int .i64 (o.den : Int)] 91)).alloc (.cells #[.int .i64 n.num, .int .i64 (n.den : Int)] 91)).alloc (.cells #[.int .i64 x.num, .int .i64 (x.den : Int)] 91)).alloc (.cells #[.int .i64 0, .int .i64 0] 91))).drew.heap[w.heap.size + 1 + 1]? = some (.cells #[.int .i64 x.num, .int .i64 (x.den : Int)] 91 (0, 0)) from h2)
  have H3 := hide (show (((((w.alloc (.cells #[.int .i64 o.num, .int .i64 (o.den : Int)] 91)).alloc (.cells #[.int .i64 n.num, .int .i64 (n.den : Int)] 91)).alloc (.cells #[.int .i64 x.num, .int .i64 (x.den : Int)] 91)).alloc (.cells #[.int .i64 0, .int .i64 0] 91))).drew.heap[w.heap.size + 1 + 1 + 1]? = some (.cells #[.int .i64 0, .int .i64 0] 91 (0, 0)) from h3)
  have H4d := hide (Below.drew hw4)
  clear ho hx h2 h3 hw4
  go_enter Tryz.func188, Tryz.ntmps188
  go_upto_region 5 with fail
  go_region_with (first | (go_at_call 137; refine (qNeg (unhide HO) _).mono ?_; rintro e w1 ⟨rfl, hb1⟩; obtain ⟨k2, k3, kb⟩ := zfacts (unhide H2) (unhide H3) (unhide H4d) hb1; have c2 := blk_cell k2; have HK3 := hide k3; have HKb := hide kb; clear hb1 k2 k3 kb; rw [qv]) | (go_at_call 46; refine (qPlus (unhide HX) (neg_small (unhide HO)) _).mono ?_; rintro e w2 ⟨hq, hb2⟩; obtain ⟨p, q, c, rfl, hfl⟩ := hq.flat; have k3 := res_at (unhide HK3) hb2; have c3 := blk_cell k3; have f3 := blk_free k3; have HFl := hide hfl; have HB := hide ((unhide HKb).trans (hb2.mono (unhide HKb).size)); clear hb2 k3 hfl hq))
  all_goals go_wp2_with fail
  all_goals exact bodyPost_ret (v := .tuple #[.agg #[.int .i64 p, .int .i64 q], .int .i64 c]) (by simp [results, Tryz.results188, go_sem, c3]) rfl ⟨(unhide HFl).got, Below.setCell (p := ⟨w.heap.size + 1 + 1 + 1, 1, none⟩) (Below.setCell (p := ⟨w.heap.size + 1 + 1 + 1, 0, none⟩) (unhide HB) (Nat.le_add_right _ 3) _) (Nat.le_add_right _ 3) _⟩
end Go.Proofs.YtikiaijgcjjloaaGreatDoor

/- The walks: items joined. -/
namespace Go.Proofs.YtikiaijgcjjloaaGreatDoor
open Go Go.RowKit M T Go.Lib

theorem zero_iff : ∀ l : List Rat, zeroAhead l = true ↔ ∃ i, ∃ (h : i + 1 < l.length), l[i] = 0
  | [] => by
    constructor
    · intro h; cases h
    · rintro ⟨i, h, _⟩; simp at h
  | [x] => by
    constructor
    · intro h; cases h
    · rintro ⟨i, h, _⟩; simp at h
  | x :: y :: l => by
    rw [zeroAhead_cons, Bool.or_eq_true, zero_iff (y :: l)]
    constructor
    · rintro (h | ⟨i, h, e⟩)
      · exact ⟨0, by simp, by simpa using h⟩
      · exact ⟨i + 1, by simpa using h, by simpa using e⟩
    · rintro ⟨i, h, e⟩
      cases i with
      | zero => exact Or.inl (by simpa using e)
      | succ i => exact Or.inr ⟨i, by simpa using h, by simpa using e⟩

set_option maxRecDepth 100000 in
set_option maxHeartbeats 1600000 in
theorem hasZero_any {g cap : Nat} {xs : List Rat} {w : World} (h : LIs w g cap xs) :
    Calls Tryz.prog 187 #[.slice (some ⟨g, 0, none⟩) xs.length cap] w fun e w' => e = .returned (.bool (zeroAhead xs)) ∧ Below w.heap.size w w' := by
  have HL := hide h
  have hg := h.lt
  have hlen := h.len
  clear h
  go_enter Tryz.func187, Tryz.ntmps187
  go_wp2_with fail
  go_loopg [7] xs.length (fun kk v7 wr => ∃ (i : Nat), kk = xs.length - i ∧ i ≤ xs.length ∧ v7 = .int .i64 (i : Int) ∧ (∀ j (h : j + 1 < xs.length), j < i → xs[j] ≠ 0) ∧ Below w.heap.size w wr)
  case atStart => exact ⟨0, rfl, Nat.zero_le _, rfl, fun j _ h => absurd h (Nat.not_lt_zero _), Below.refl _ _⟩
  case round =>
    obtain ⟨i, hk, hi, rfl, hno, hb⟩ := hrel
    have HK := hide hk
    have HNo := hide hno
    have HB := hide hb
    clear hk hno
    by_cases hlt : i < xs.length
    · have hlt' : (i : Int) < (xs.length : Int) := by omega
      obtain ⟨d0, d1⟩ := (unhide HL).cell hlt
      have hgr : ∀ o, wr.cell? ⟨g, o, none⟩ = w.cell? ⟨g, o, none⟩ := fun o => hb.cell (p := ⟨g, o, none⟩) hg
      rw [← hgr] at d0 d1
      have hbx := hb.alloc hb.size (.cells #[.int .i64 xs[i].num, .int .i64 (xs[i].den : Int)] 91)
      have HBx := hide hbx
      clear hgr hb hbx
      by_cases hl1 : i + 1 < xs.length
      · have hl2 : (i : Int) < (xs.length : Int) - 1 := by omega
        have HYes := hide (fun (h0 : xs[i] = 0) => (zero_iff xs).2 ⟨i, hl1, h0⟩)
        have HNx := hide (fun (h0 : xs[i] ≠ 0) => show ∀ j (h : j + 1 < xs.length), j < i + 1 → xs[j] ≠ 0 from fun j h hj => by
          rcases Nat.lt_or_ge j i with h1 | h1
          · exact unhide HNo j h h1
          · have e : j = i := by omega
            subst e; exact h0)
        generalize xs[i] = x at d0 d1 HYes HNx HBx
        go_wp2_with fail
        refine (qZero x _).mono ?_
        rintro e w1 ⟨rfl, hb1⟩
        have HB1 := hide ((unhide HBx).trans (hb1.mono (unhide HBx).size))
        clear hb1
        by_cases h0 : x = 0
        · rw [show decide (x = 0) = true from decide_eq_true h0]
          have HZ := hide (unhide HYes h0)
          clear h0
          go_wp2_with fail
          go_ret
          exact ⟨by rw [unhide HZ]; rfl, unhide HB1⟩
        · rw [show decide (x = 0) = false from decide_eq_false h0]
          have HZ := hide (unhide HNx h0)
          clear h0
          go_wp2_with fail
          go_roundg (xs.length - (i + 1))
          case measure => rw [unhide HK]; omega
          case rel => exact ⟨i + 1, rfl, by omega, rfl, unhide HZ, unhide HB1⟩
      · have hl2 : ¬ (i : Int) < (xs.length : Int) - 1 := by omega
        have HNx := hide (show ∀ j (h : j + 1 < xs.length), j < i + 1 → xs[j] ≠ 0 from fun j h hj => unhide HNo j h (by omega))
        generalize xs[i] = x at d0 d1 HBx
        go_wp2_with fail
        go_roundg (xs.length - (i + 1))
        case measure => rw [unhide HK]; omega
        case rel => exact ⟨i + 1, rfl, by omega, rfl, unhide HNx, unhide HBx⟩
    · have hlt' : ¬ (i : Int) < (xs.length : Int) := by omega
      have HZ := hide (show zeroAhead xs = false by
        cases hz : zeroAhead xs with
        | false => rfl
        | true =>
          obtain ⟨j, hj, e⟩ := (zero_iff xs).1 hz
          exact absurd e (unhide HNo j hj (by omega)))
      go_wp2_with fail
      go_ret
      exact ⟨by rw [unhide HZ]; rfl, unhide HB⟩
end Go.Proofs.YtikiaijgcjjloaaGreatDoor

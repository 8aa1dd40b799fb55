import Derived.Test.YtikiaijgcjjloaaGreatDoorPart47
import Derived.Test.YtikiaijgcjjloaaGreatDoorPart44

namespace Go.Proofs.YtikiaijgcjjloaaGreatDoor
open Go Go.RowKit M T Go.Lib
def underFlat (s g : Tm) (bk : Bool) : List St := if s.picker then ((([.aside] ++ s.flat false) ++ [.fetch]) ++ g.flat bk) ++ [.home] else if s.back && s.plain then (s.flat false ++ g.flat bk) ++ s.flat true else [.never]
theorem under_flat (s g : Tm) (bk : Bool) : (Pt.under s g).flat bk = [.rest] ++ underFlat s g bk := by
  rw [Pt.flat, underFlat]
  split <;> simp
structure UnAt (w0 : World) (fb rb m N : Nat) (v vs : Value) (ds : List D) (ss A : List St) (bx : Nat) (c : Array Value) (wr : World) (v' : Value) (xs' : List RC) : Prop where
  fl : FlIs wr fb rb m (after m A N) v' xs' (ss ++ lay m A N)
  fc : Fc fb v w0 v' wr
  ses : RSes wr rb vs ds
  box : wr.heap[bx]? = some (.cells c 131 (0, 0))
theorem UnAt.next {w w0 : World} {fb rb m N : Nat} {v vs : Value} {ds : List D} {ss A B : List St} {c : Array Value} {wr w2 : World} {v' : Value} {xs xs' : List RC} (hf0 : FlIs w fb rb m N v xs ss) (hl : w.heap.size < w0.heap.size) (h : UnAt w0 fb rb m N v vs ds ss A w.heap.size c wr v' xs') (hg : FlGot fb rb m (after m A N) v' (ss ++ lay m A N) B wr w2) : ∃ v2 xs2, UnAt w0 fb rb m N v vs ds ss (A ++ B) w.heap.size c w2 v2 xs2 := by
  obtain ⟨v2, xs2, h1, h2⟩ := hg
  refine ⟨v2, xs2, by rw [after_append, ← lay_next]; exact h1, h.fc.trans h2, h.ses.flow h.fl h2, ?_⟩
  have e1 := h.fc.young hf0 hl (Nat.le_refl _)
  have e2 := (h.fc.trans h2).young hf0 hl (Nat.le_refl _)
  rw [e2, ← e1]
  exact h.box
theorem UnAt.got {w0 : World} {fb rb m N : Nat} {v vs : Value} {ds : List D} {ss A : List St} {bx : Nat} {c : Array Value} {wr : World} {v' : Value} {xs' : List RC} (h : UnAt w0 fb rb m N v vs ds ss A bx c wr v' xs') {w : World} (hb : Below w.heap.size w w0) : FlGot fb rb m N v ss A w wr := ⟨v', xs', h.fl, (Fc.of_below hb).trans h.fc⟩
set_option maxRecDepth 100000 in
set_option maxHeartbeats 3200000 in
theorem there_any {s g : Tm} {bk : Bool} (hS0 : TmS s false) (hS1 : s.back = true → TmS s true) (hGb : TmS g bk) {x : RC} {ds : List D} {n fb rb m N : Nat} {v vs : Value} {xs : List RC} {ss : List St} {w : World} (hx : RPt w x (.under s g)) (hts : IsTerm (envOf (ds.take n)) s.text s) (htg : IsTerm (envOf (ds.take n)) g.text g) (hss : s.text.length ≤ 1000) (hsg : g.text.length ≤ 1000) (h : RSes w rb vs ds) (hn : n ≤ ds.length) (hl : ds.length ≤ maxLen) (hf : FlIs w fb rb m N v xs ss) (hm : m ≤ 100000) (hN : N ≤ m + 1) (hlen : (ss ++ lay m (underFlat s g bk) N).length ≤ 1000000) :
    Calls Tryz.prog 146 #[.pointer (some ⟨fb, 0, none⟩), RC.value x, .int .i64 (n : Int), .bool bk] w fun e w' => e = .returned (.tuple #[]) ∧ FlGot fb rb m N v ss (underFlat s g bk) w w' := by
  obtain ⟨Kd, P, Q, K, pa, pn, pc, F, G⟩ := x
  have hF : F.data.toList = s.text := hx.2.1
  have hG : G.data.toList = g.text := hx.2.2
  have hFs : F.size ≤ 1000 := by have : F.size = s.text.length := by rw [← hF]; simp
                                 omega
  have hGs : G.size ≤ 1000 := by have : G.size = g.text.length := by rw [← hG]; simp
                                 omega
  rw [← hF] at hts
  rw [← hG] at htg
  have hb : Below w.heap.size w (w.alloc (.cells #[.int .u8 (Kd.toNat : Int), .int .i64 P, .int .i64 Q, .int .i64 K, .slice pa pn pc, .string F, .string G] 131)) := (Below.refl _ _).alloc (Nat.le_refl _) _
  have HF0 := hide hf
  have HF := hide (hf.below hb)
  have H := hide (h.below hb)
  have HB := hide hb
  have HTs := hide hts
  have HTg := hide htg
  have HTs0 := hide hS0
  have HTS := hide hS1
  have HTgb := hide hGb
  have HLen := hide hlen
  have e0 : w.cell? ⟨fb, 0, none⟩ = some (.pointer (some ⟨rb, 0, none⟩)) := blk_cell hf.blk 0
  have hzf := lt_of_block hf.blk
  have hn' : n ≤ maxLen := by omega
  unfold maxLen at hn'
  clear hx hf h hb hlen hS0 hS1 hGb hts htg hF hG hss hsg
  rw [show RC.value ⟨Kd, P, Q, K, pa, pn, pc, F, G⟩ = .agg #[.int .u8 (Kd.toNat : Int), .int .i64 P, .int .i64 Q, .int .i64 K, .slice pa pn pc, .string F, .string G] from rfl]
  go_enter Tryz.func146, Tryz.ntmps146
  go_upto_region 1 with fail
  obtain ⟨wA, hwA⟩ : ∃ wA, wA = w.alloc (.cells #[.int .u8 (Kd.toNat : Int), .int .i64 P, .int .i64 Q, .int .i64 K, .slice pa pn pc, .string F, .string G] 131) := ⟨_, rfl⟩
  have hboxA : wA.heap[w.heap.size]? = some (.cells #[.int .u8 (Kd.toNat : Int), .int .i64 P, .int .i64 Q, .int .i64 K, .slice pa pn pc, .string F, .string G] 131 (0, 0)) := by rw [hwA]; exact heap_alloc_new _ _
  rw [← hwA] at HF H HB ⊢
  have HBx := hide hboxA
  have hzA : w.heap.size < wA.heap.size := lt_of_block hboxA
  have a0 : wA.cell? ⟨fb, 0, none⟩ = some (.pointer (some ⟨rb, 0, none⟩)) := blk_cell (unhide HF).blk 0
  have a5 : wA.cell? ⟨w.heap.size, 5, none⟩ = some (.string F) := blk_cell hboxA 5
  have HFs := hide (fun (W : World) (hW : Below wA.heap.size wA W) => facts_all 1000 F s ds rb vs n W hFs hFs ((unhide H).below hW) hn hl (unhide HTs))
  clear hboxA e0 hwA
  go_cut [8] (fun v8 wx => v8 = .int .i64 (factsNum s) ∧ Below wA.heap.size wA wx)
  case first =>
    go_region_held3 (fun w' => w'.cell? ⟨fb, 0, none⟩ = some (.pointer (some ⟨rb, 0, none⟩)) ∧ w'.cell? ⟨w.heap.size, 5, none⟩ = some (.string F)) (go_keep)
      (first | (go_at_call 64; refine (unhide HFs _ (by first | exact Below.refl _ _ | exact Below.drew (Below.refl _ _) | exact below_dr (Below.refl _ _) _)).mono ?_; rintro e w' ⟨rfl, hb'⟩; have hO : ∀ o, w'.cell? ⟨fb, o, none⟩ = wA.cell? ⟨fb, o, none⟩ := fun o => hb'.cell (p := ⟨fb, o, none⟩) (Nat.lt_trans hzf hzA); have hG : ∀ o, w'.cell? ⟨w.heap.size, o, none⟩ = wA.cell? ⟨w.heap.size, o, none⟩ := fun o => hb'.cell (p := ⟨w.heap.size, o, none⟩) hzA))
    all_goals go_wp2_with fail
    all_goals go_meet
    all_goals exact ⟨rfl, ⟨hb'.os, hb'.tape, hb'.output, hb'.size, hb'.block⟩⟩
  case rest =>
  obtain ⟨rfl, hb1⟩ := hcut
  have hbox1 := (hb1.block _ hzA).trans (unhide HBx)
  have HB1 := hide ((unhide HB).trans (hb1.mono (unhide HB).size))
  have hz1 : w.heap.size < wc.heap.size := lt_of_block hbox1
  have b5 : wc.cell? ⟨w.heap.size, 5, none⟩ = some (.string F) := blk_cell hbox1 5
  have b6 : wc.cell? ⟨w.heap.size, 6, none⟩ = some (.string G) := blk_cell hbox1 6
  have HU1 : Hid (UnAt wc fb rb m N v vs ds ss [] w.heap.size #[.int .u8 (Kd.toNat : Int), .int .i64 P, .int .i64 Q, .int .i64 K, .slice pa pn pc, .string F, .string G] wc v xs) := hide ⟨by rw [show lay m [] N = [] from rfl, List.append_nil]; exact (unhide HF).below hb1, Fc.of_below (Below.refl _ _), (unhide H).below hb1, hbox1⟩
  clear hb1 hbox1 a0 a5 HFs HF H HB HBx
  obtain ⟨w1, hw1⟩ : ∃ w1, w1 = wc := ⟨_, rfl⟩
  subst hw1
  rw [factsNum_fbits]
  cases hp : s.picker with
  | true =>
    have HFlat := hide (show underFlat s g bk = [] ++ [.aside] ++ s.flat false ++ [.fetch] ++ g.flat bk ++ [.home] by rw [underFlat, if_pos hp]; rfl)
    have hL6 := unhide HLen
    rw [unhide HFlat] at hL6
    have hL5 := lay_le hL6
    have hL4 := lay_le hL5
    have hL3 := lay_le hL4
    have hL2 := lay_le hL3
    have hL1 := lay_le hL2
    clear HLen HTS
    go_upto_region 3 with fail
    go_cut [8, 20] (fun _ v20 wx => v20 = .bool true ∧ wx = w1)
    case first =>
      cases s.back <;> cases s.plain <;> simp only [fb2, fb3, fb6, fb7] <;> (go_wp2_with fail; go_meet; exact ⟨rfl, rfl⟩)
    case rest =>
    obtain ⟨rfl, hwx⟩ := hcut
    subst hwx
    obtain ⟨w1, hw1⟩ : ∃ w1, w1 = wc := ⟨_, rfl⟩
    subst hw1
    go_wp2_with fail
    refine (fadd_any (x := rdot 80) (s := .aside) (unhide HU1).fl rfl hm (after_le _ _ hN) (by simpa using hL1)).mono ?_
    rintro e w2 ⟨rfl, hg⟩
    obtain ⟨v2, xs2, hu⟩ := (unhide HU1).next (unhide HF0) hz1 hg
    clear b5 b6
    have b5 : w2.cell? ⟨w.heap.size, 5, none⟩ = some (.string F) := blk_cell hu.box 5
    have b6 : w2.cell? ⟨w.heap.size, 6, none⟩ = some (.string G) := blk_cell hu.box 6
    have hzz : w.heap.size < w2.heap.size := lt_of_block hu.box
    have HU2 := hide hu
    clear hu hg
    go_wp2_with fail
    refine (unhide HTs0 (unhide HTs) hFs (unhide HU2).ses hn hl (unhide HU2).fl hm (after_le _ _ hN) (by rw [lay_next]; exact hL3)).mono ?_
    rintro e w3 ⟨rfl, hg⟩
    obtain ⟨v3, xs3, hu⟩ := (unhide HU2).next (unhide HF0) hz1 hg
    clear b5 b6
    have b5 : w3.cell? ⟨w.heap.size, 5, none⟩ = some (.string F) := blk_cell hu.box 5
    have b6 : w3.cell? ⟨w.heap.size, 6, none⟩ = some (.string G) := blk_cell hu.box 6
    have hzz : w.heap.size < w3.heap.size := lt_of_block hu.box
    have HU3 := hide hu
    clear hu hg
    go_wp2_with fail
    refine (fadd_any (x := rdot 73) (s := .fetch) (unhide HU3).fl rfl hm (after_le _ _ hN) (by simpa using hL3)).mono ?_
    rintro e w4 ⟨rfl, hg⟩
    obtain ⟨v4, xs4, hu⟩ := (unhide HU3).next (unhide HF0) hz1 hg
    clear b5 b6
    have b5 : w4.cell? ⟨w.heap.size, 5, none⟩ = some (.string F) := blk_cell hu.box 5
    have b6 : w4.cell? ⟨w.heap.size, 6, none⟩ = some (.string G) := blk_cell hu.box 6
    have hzz : w.heap.size < w4.heap.size := lt_of_block hu.box
    have HU4 := hide hu
    clear hu hg
    go_wp2_with fail
    refine (unhide HTgb (unhide HTg) hGs (unhide HU4).ses hn hl (unhide HU4).fl hm (after_le _ _ hN) (by rw [lay_next]; exact hL5)).mono ?_
    rintro e w5 ⟨rfl, hg⟩
    obtain ⟨v5, xs5, hu⟩ := (unhide HU4).next (unhide HF0) hz1 hg
    clear b5 b6
    have b5 : w5.cell? ⟨w.heap.size, 5, none⟩ = some (.string F) := blk_cell hu.box 5
    have b6 : w5.cell? ⟨w.heap.size, 6, none⟩ = some (.string G) := blk_cell hu.box 6
    have hzz : w.heap.size < w5.heap.size := lt_of_block hu.box
    have HU5 := hide hu
    clear hu hg
    go_wp2_with fail
    refine (fadd_any (x := rdot 76) (s := .home) (unhide HU5).fl rfl hm (after_le _ _ hN) (by simpa using hL5)).mono ?_
    rintro e w6 ⟨rfl, hg⟩
    obtain ⟨v6, xs6, hu⟩ := (unhide HU5).next (unhide HF0) hz1 hg
    clear b5 b6
    have b5 : w6.cell? ⟨w.heap.size, 5, none⟩ = some (.string F) := blk_cell hu.box 5
    have b6 : w6.cell? ⟨w.heap.size, 6, none⟩ = some (.string G) := blk_cell hu.box 6
    have hzz : w.heap.size < w6.heap.size := lt_of_block hu.box
    have HU6 := hide hu
    clear hu hg
    go_wp2_with fail
    go_end0
    refine ⟨rfl, ?_⟩
    rw [unhide HFlat]
    exact (unhide HU6).got (unhide HB1)
  | false =>
    cases hq : (s.back && s.plain) with
    | true =>
      rw [Bool.and_eq_true] at hq
      have HFlat := hide (show underFlat s g bk = [] ++ s.flat false ++ g.flat bk ++ s.flat true by rw [underFlat, if_neg (by rw [hp]; decide), if_pos (by rw [hq.1, hq.2]; rfl)]; rfl)
      have HTs1 := hide (unhide HTS hq.1)
      have hL4 := unhide HLen
      rw [unhide HFlat] at hL4
      have hL3 := lay_le hL4
      have hL2 := lay_le hL3
      clear HLen HTS
      rw [hq.1, hq.2]
      simp only [fb5]
      go_wp2_with fail
      refine (unhide HTs0 (unhide HTs) hFs (unhide HU1).ses hn hl (unhide HU1).fl hm (after_le _ _ hN) (by rw [lay_next]; exact hL2)).mono ?_
      rintro e w2 ⟨rfl, hg⟩
      obtain ⟨v2, xs2, hu⟩ := (unhide HU1).next (unhide HF0) hz1 hg
      clear b5 b6
      have b5 : w2.cell? ⟨w.heap.size, 5, none⟩ = some (.string F) := blk_cell hu.box 5
      have b6 : w2.cell? ⟨w.heap.size, 6, none⟩ = some (.string G) := blk_cell hu.box 6
      have hzz : w.heap.size < w2.heap.size := lt_of_block hu.box
      have HU2 := hide hu
      clear hu hg
      go_wp2_with fail
      refine (unhide HTgb (unhide HTg) hGs (unhide HU2).ses hn hl (unhide HU2).fl hm (after_le _ _ hN) (by rw [lay_next]; exact hL3)).mono ?_
      rintro e w3 ⟨rfl, hg⟩
      obtain ⟨v3, xs3, hu⟩ := (unhide HU2).next (unhide HF0) hz1 hg
      clear b5 b6
      have b5 : w3.cell? ⟨w.heap.size, 5, none⟩ = some (.string F) := blk_cell hu.box 5
      have b6 : w3.cell? ⟨w.heap.size, 6, none⟩ = some (.string G) := blk_cell hu.box 6
      have hzz : w.heap.size < w3.heap.size := lt_of_block hu.box
      have HU3 := hide hu
      clear hu hg
      go_wp2_with fail
      refine (unhide HTs1 (unhide HTs) hFs (unhide HU3).ses hn hl (unhide HU3).fl hm (after_le _ _ hN) (by rw [lay_next]; exact hL4)).mono ?_
      rintro e w4 ⟨rfl, hg⟩
      obtain ⟨v4, xs4, hu⟩ := (unhide HU3).next (unhide HF0) hz1 hg
      clear b5 b6
      have b5 : w4.cell? ⟨w.heap.size, 5, none⟩ = some (.string F) := blk_cell hu.box 5
      have b6 : w4.cell? ⟨w.heap.size, 6, none⟩ = some (.string G) := blk_cell hu.box 6
      have hzz : w.heap.size < w4.heap.size := lt_of_block hu.box
      have HU4 := hide hu
      clear hu hg
      go_wp2_with fail
      go_end0
      refine ⟨rfl, ?_⟩
      rw [unhide HFlat]
      exact (unhide HU4).got (unhide HB1)
    | false =>
      have HFlat := hide (show underFlat s g bk = [] ++ [.never] by rw [underFlat, if_neg (by rw [hp]; decide), if_neg (by rw [hq]; decide)]; rfl)
      have hL1 : (ss ++ lay m [] N).length ≤ 1000000 := by
        have := unhide HLen
        rw [unhide HFlat] at this
        exact lay_le this
      clear HLen HTS
      rcases (show (s.back = false ∧ s.plain = false) ∨ (s.back = false ∧ s.plain = true) ∨ (s.back = true ∧ s.plain = false) by
        revert hq; cases s.back <;> cases s.plain <;> decide) with ⟨r1, r2⟩ | ⟨r1, r2⟩ | ⟨r1, r2⟩
      · rw [r1, r2]
        simp only [fb0]
        go_wp2_with fail
        refine (fadd_any (x := rdot 33) (s := .never) (unhide HU1).fl rfl hm (after_le _ _ hN) (by simpa using hL1)).mono ?_
        rintro e w2 ⟨rfl, hg⟩
        obtain ⟨v2, xs2, hu⟩ := (unhide HU1).next (unhide HF0) hz1 hg
        clear b5 b6
        have b5 : w2.cell? ⟨w.heap.size, 5, none⟩ = some (.string F) := blk_cell hu.box 5
        have b6 : w2.cell? ⟨w.heap.size, 6, none⟩ = some (.string G) := blk_cell hu.box 6
        have hzz : w.heap.size < w2.heap.size := lt_of_block hu.box
        have HU2 := hide hu
        clear hu hg
        go_wp2_with fail
        go_end0
        refine ⟨rfl, ?_⟩
        rw [unhide HFlat]
        exact (unhide HU2).got (unhide HB1)
      · rw [r1, r2]
        simp only [fb4]
        go_wp2_with fail
        refine (fadd_any (x := rdot 33) (s := .never) (unhide HU1).fl rfl hm (after_le _ _ hN) (by simpa using hL1)).mono ?_
        rintro e w2 ⟨rfl, hg⟩
        obtain ⟨v2, xs2, hu⟩ := (unhide HU1).next (unhide HF0) hz1 hg
        clear b5 b6
        have b5 : w2.cell? ⟨w.heap.size, 5, none⟩ = some (.string F) := blk_cell hu.box 5
        have b6 : w2.cell? ⟨w.heap.size, 6, none⟩ = some (.string G) := blk_cell hu.box 6
        have hzz : w.heap.size < w2.heap.size := lt_of_block hu.box
        have HU2 := hide hu
        clear hu hg
        go_wp2_with fail
        go_end0
        refine ⟨rfl, ?_⟩
        rw [unhide HFlat]
        exact (unhide HU2).got (unhide HB1)
      · rw [r1, r2]
        simp only [fb1]
        go_wp2_with fail
        refine (fadd_any (x := rdot 33) (s := .never) (unhide HU1).fl rfl hm (after_le _ _ hN) (by simpa using hL1)).mono ?_
        rintro e w2 ⟨rfl, hg⟩
        obtain ⟨v2, xs2, hu⟩ := (unhide HU1).next (unhide HF0) hz1 hg
        clear b5 b6
        have b5 : w2.cell? ⟨w.heap.size, 5, none⟩ = some (.string F) := blk_cell hu.box 5
        have b6 : w2.cell? ⟨w.heap.size, 6, none⟩ = some (.string G) := blk_cell hu.box 6
        have hzz : w.heap.size < w2.heap.size := lt_of_block hu.box
        have HU2 := hide hu
        clear hu hg
        go_wp2_with fail
        go_end0
        refine ⟨rfl, ?_⟩
        rw [unhide HFlat]
        exact (unhide HU2).got (unhide HB1)
set_option maxRecDepth 100000 in
set_option maxHeartbeats 1600000 in
theorem flow_pow_fwd {f : Tm} {k : Int} (hT : ∀ b, (b = true → f.back = true) → TmS f b) : PtS (.pow f k) false := by
  intro x ds n fb rb m N v vs xs ss w hx hw he htx h hn hl hf hm hN hlen
  obtain ⟨Kd, P, Q, K, pa, pn, pc, F, G⟩ := x
  have hk : Kd = 40 := hx.1
  subst hk
  rw [Pt.wf] at hw
  rw [Pt.inEnv] at he
  rw [Pt.text] at htx
  simp only [List.length_cons, List.length_append] at htx
  have hb : Below w.heap.size w (w.alloc (.cells #[.int .u8 40, .int .i64 P, .int .i64 Q, .int .i64 K, .slice pa pn pc, .string F, .string G] 131)) := (Below.refl _ _).alloc (Nat.le_refl _) _
  have HF0 := hide hf
  have HF := hide (hf.below hb)
  have H := hide (h.below hb)
  have HX := hide hx
  have HW := hide hw
  have HEv := hide he
  have HB := hide hb
  have HT := hide hT
  clear hT
  have HE := hide (pow_flat f k false)
  rw [unhide HE, ← lay_next] at hlen
  have hl0 : ss.length ≤ 1000000 := by rw [List.append_assoc, List.length_append] at hlen; omega
  have HLen := hide hlen
  clear hx hf h hb hlen hw he
  rw [show RC.value ⟨40, P, Q, K, pa, pn, pc, F, G⟩ = .agg #[.int .u8 40, .int .i64 P, .int .i64 Q, .int .i64 K, .slice pa pn pc, .string F, .string G] from rfl]
  go_enter Tryz.func106, Tryz.ntmps106
  go_wp2_with fail
  refine (fadd_any (x := rdot 46) (s := .rest) (unhide HF) rfl hm hN hl0).mono ?_
  rintro e w1 ⟨rfl, v1, xs1, h1, h2⟩
  have hbox := box_kept (x := ⟨40, P, Q, K, pa, pn, pc, F, G⟩) (unhide HF0) h2
  have hs1 := (unhide H).flow (unhide HF) h2
  have d : ∀ i, w1.cell? ⟨w.heap.size, i, none⟩ = (#[.int .u8 40, .int .i64 P, .int .i64 Q, .int .i64 K, .slice pa pn pc, .string F, .string G] : Array Value)[i]? := fun i => blk_cell hbox i
  have haf := after_le (m := m) [.rest] N hN
  have H1 := hide h1
  have H2 := hide h2
  have HS := hide hs1
  have hz1 : w.heap.size < w1.heap.size := lt_of_block hbox
  clear h1 h2 hs1 hbox
  go_wp2_with fail
  refine (times_fwd (x := ⟨40, P, Q, K, pa, pn, pc, F, G⟩) (unhide HT) (show RPt w1 ⟨40, P, Q, K, pa, pn, pc, F, G⟩ (.pow f k) from unhide HX) (unhide HW).2.1 (unhide HW).2.2 ⟨(unhide HW).1, unhide HEv, rfl⟩ (by omega) (unhide HS) hn hl (unhide H1) hm haf (unhide HLen)).mono ?_
  rintro e w2 ⟨rfl, h3⟩
  have H3 := hide h3
  clear h3
  go_wp2_with fail
  go_end0
  refine ⟨rfl, ?_⟩
  rw [unhide HE]
  exact FlGot.then ((Fc.of_below (unhide HB)).trans (unhide H2)) (unhide H3)
set_option maxRecDepth 100000 in
set_option maxHeartbeats 1600000 in
theorem flow_pow_bwd {f : Tm} {k : Int} (hT : ∀ b, (b = true → f.back = true) → TmS f b) : PtS (.pow f k) true := by
  intro x ds n fb rb m N v vs xs ss w hx hw he htx h hn hl hf hm hN hlen
  obtain ⟨Kd, P, Q, K, pa, pn, pc, F, G⟩ := x
  have hk : Kd = 40 := hx.1
  subst hk
  rw [Pt.wf] at hw
  rw [Pt.inEnv] at he
  rw [Pt.text] at htx
  simp only [List.length_cons, List.length_append] at htx
  have hb : Below w.heap.size w (w.alloc (.cells #[.int .u8 40, .int .i64 P, .int .i64 Q, .int .i64 K, .slice pa pn pc, .string F, .string G] 131)) := (Below.refl _ _).alloc (Nat.le_refl _) _
  have HF0 := hide hf
  have HF := hide (hf.below hb)
  have H := hide (h.below hb)
  have HX := hide hx
  have HW := hide hw
  have HEv := hide he
  have HB := hide hb
  have HT := hide hT
  clear hT
  have HE := hide (pow_flat f k true)
  rw [unhide HE, ← lay_next] at hlen
  have hl0 : ss.length ≤ 1000000 := by rw [List.append_assoc, List.length_append] at hlen; omega
  have HLen := hide hlen
  clear hx hf h hb hlen hw he
  rw [show RC.value ⟨40, P, Q, K, pa, pn, pc, F, G⟩ = .agg #[.int .u8 40, .int .i64 P, .int .i64 Q, .int .i64 K, .slice pa pn pc, .string F, .string G] from rfl]
  go_enter Tryz.func106, Tryz.ntmps106
  go_wp2_with fail
  refine (fadd_any (x := rdot 46) (s := .rest) (unhide HF) rfl hm hN hl0).mono ?_
  rintro e w1 ⟨rfl, v1, xs1, h1, h2⟩
  have hbox := box_kept (x := ⟨40, P, Q, K, pa, pn, pc, F, G⟩) (unhide HF0) h2
  have hs1 := (unhide H).flow (unhide HF) h2
  have d : ∀ i, w1.cell? ⟨w.heap.size, i, none⟩ = (#[.int .u8 40, .int .i64 P, .int .i64 Q, .int .i64 K, .slice pa pn pc, .string F, .string G] : Array Value)[i]? := fun i => blk_cell hbox i
  have haf := after_le (m := m) [.rest] N hN
  have H1 := hide h1
  have H2 := hide h2
  have HS := hide hs1
  have hz1 : w.heap.size < w1.heap.size := lt_of_block hbox
  clear h1 h2 hs1 hbox
  go_wp2_with fail
  refine (times_bwd (x := ⟨40, P, Q, K, pa, pn, pc, F, G⟩) (unhide HT) (show RPt w1 ⟨40, P, Q, K, pa, pn, pc, F, G⟩ (.pow f k) from unhide HX) (unhide HW).2.1 (unhide HW).2.2 ⟨(unhide HW).1, unhide HEv, rfl⟩ (by omega) (unhide HS) hn hl (unhide H1) hm haf (unhide HLen)).mono ?_
  rintro e w2 ⟨rfl, h3⟩
  have H3 := hide h3
  clear h3
  go_wp2_with fail
  go_end0
  refine ⟨rfl, ?_⟩
  rw [unhide HE]
  exact FlGot.then ((Fc.of_below (unhide HB)).trans (unhide H2)) (unhide H3)
set_option maxRecDepth 100000 in
set_option maxHeartbeats 1600000 in
theorem flow_under {s g : Tm} {bk : Bool} (hS0 : TmS s false) (hS1 : s.back = true → TmS s true) (hGb : TmS g bk) : PtS (.under s g) bk := by
  intro x ds n fb rb m N v vs xs ss w hx hw he htx h hn hl hf hm hN hlen
  obtain ⟨Kd, P, Q, K, pa, pn, pc, F, G⟩ := x
  have hk : Kd = 91 := hx.1
  subst hk
  rw [Pt.wf] at hw
  rw [Pt.inEnv] at he
  rw [Pt.text] at htx
  simp only [List.length_cons, List.length_append] at htx
  have hb : Below w.heap.size w (w.alloc (.cells #[.int .u8 91, .int .i64 P, .int .i64 Q, .int .i64 K, .slice pa pn pc, .string F, .string G] 131)) := (Below.refl _ _).alloc (Nat.le_refl _) _
  have HF0 := hide hf
  have HF := hide (hf.below hb)
  have H := hide (h.below hb)
  have HX := hide hx
  have HW := hide hw
  have HEv := hide he
  have HB := hide hb
  have HS0 := hide hS0
  have HS1 := hide hS1
  have HGb := hide hGb
  clear hS0 hS1 hGb
  have HE := hide (under_flat s g bk)
  rw [unhide HE, ← lay_next] at hlen
  have hl0 : ss.length ≤ 1000000 := by rw [List.append_assoc, List.length_append] at hlen; omega
  have HLen := hide hlen
  clear hx hf h hb hlen hw he
  rw [show RC.value ⟨91, P, Q, K, pa, pn, pc, F, G⟩ = .agg #[.int .u8 91, .int .i64 P, .int .i64 Q, .int .i64 K, .slice pa pn pc, .string F, .string G] from rfl]
  go_enter Tryz.func106, Tryz.ntmps106
  go_wp2_with fail
  refine (fadd_any (x := rdot 46) (s := .rest) (unhide HF) rfl hm hN hl0).mono ?_
  rintro e w1 ⟨rfl, v1, xs1, h1, h2⟩
  have hbox := box_kept (x := ⟨91, P, Q, K, pa, pn, pc, F, G⟩) (unhide HF0) h2
  have hs1 := (unhide H).flow (unhide HF) h2
  have d : ∀ i, w1.cell? ⟨w.heap.size, i, none⟩ = (#[.int .u8 91, .int .i64 P, .int .i64 Q, .int .i64 K, .slice pa pn pc, .string F, .string G] : Array Value)[i]? := fun i => blk_cell hbox i
  have haf := after_le (m := m) [.rest] N hN
  have H1 := hide h1
  have H2 := hide h2
  have HS := hide hs1
  have hz1 : w.heap.size < w1.heap.size := lt_of_block hbox
  clear h1 h2 hs1 hbox
  go_wp2_with fail
  refine (there_any (x := ⟨91, P, Q, K, pa, pn, pc, F, G⟩) (unhide HS0) (unhide HS1) (unhide HGb) (show RPt w1 ⟨91, P, Q, K, pa, pn, pc, F, G⟩ (.under s g) from unhide HX) ⟨(unhide HW).1, (unhide HEv).1, rfl⟩ ⟨(unhide HW).2, (unhide HEv).2, rfl⟩ (by omega) (by omega) (unhide HS) hn hl (unhide H1) hm haf (unhide HLen)).mono ?_
  rintro e w2 ⟨rfl, h3⟩
  have H3 := hide h3
  clear h3
  go_wp2_with fail
  go_end0
  refine ⟨rfl, ?_⟩
  rw [unhide HE]
  exact FlGot.then ((Fc.of_below (unhide HB)).trans (unhide H2)) (unhide H3)
mutual
theorem Pt.flows : ∀ (p : Pt) (b : Bool), (b = true → p.back = true) → PtS p b
  | .sp y, false, _ => flow_sp_fwd y
  | .sp y, true, hb => by
    have h := hb rfl
    rw [Pt.back] at h
    cases ho : y.opp with
    | none => rw [ho] at h; cases h
    | some y2 =>
      intro x ds n fb rb m N v vs xs ss w hx hw
      exact flow_sp_bwd ho (Sp.opp_wf ho hw) hx hw
  | .pow f k, false, _ => flow_pow_fwd (fun b hb => flow_term (Tm.flows f b hb))
  | .pow f k, true, _ => flow_pow_bwd (fun b hb => flow_term (Tm.flows f b hb))
  | .under s g, b, hb => flow_under (flow_term (Tm.flows s false (fun h => by cases h))) (fun h => flow_term (Tm.flows s true (fun _ => h))) (flow_term (Tm.flows g b (fun h => by
      have := hb h
      rw [Pt.back, Bool.and_eq_true] at this
      exact this.1)))
  | .name c t, b, hb => flow_name (flow_term (Tm.flows t b (fun h => by have := hb h; rw [Pt.back] at this; exact this)))
theorem Tm.flows : ∀ (t : Tm) (b : Bool), (b = true → t.back = true) → ∀ p ∈ t.pts, PtS p b
  | .nil, _, _, p, hp => by cases hp
  | .cons q t, b, hb, p, hp => by
    rw [Tm.pts] at hp
    rcases List.mem_cons.1 hp with h | h
    · rw [h]
      exact Pt.flows q b (fun e => by have := hb e; rw [Tm.back, Bool.and_eq_true] at this; exact this.1)
    · exact Tm.flows t b (fun e => by have := hb e; rw [Tm.back, Bool.and_eq_true] at this; exact this.2) p h
end
theorem flow_any (t : Tm) : TmS t false := flow_term (Tm.flows t false (fun h => by cases h))
theorem Fc.bel {db B : Nat} {av av' : Value} {w1 w2 : World} (h : Fc db av w1 av' w2) (hB : B ≤ w1.heap.size) (hd : B ≤ db) (hav : ∀ g, av.ownBlock = some g → B ≤ g) : Below B w1 w2 :=
  ⟨h.chg.os, h.chg.tape, h.chg.output, h.chg.size, fun k hk => h.chg.block k (by omega) (by omega) (fun e => by have := hav k e; omega)⟩
theorem FlIs.kept {w w' : World} {fb rb m n : Nat} {v : Value} {xs : List RC} {ss : List St} (h : FlIs w fb rb m n v xs ss) (hk : ∀ (k : Nat) (c : Array Value) (ty : TypeId), w.heap[k]? = some (.cells c ty (0, 0)) → ty ≠ 127 → ty ≠ 116 → w'.heap[k]? = w.heap[k]?) : FlIs w' fb rb m n v xs ss := by
  refine ⟨(hk _ _ _ h.blk (by decide) (by decide)).trans h.blk, ⟨h.own.1, ?_⟩, h.steps.keeps (fun k c hc => hk k c _ hc (by decide) (by decide))⟩
  rcases h.own.2 with h2 | ⟨g, cap, cur, hv, hg, hh, r⟩
  · exact Or.inl h2
  · exact Or.inr ⟨g, cap, cur, hv, hg, (hk _ _ _ hh (by decide) (by decide)).trans hh, r⟩
structure ApIs (w3 : World) (db F : Nat) (ss : List St) (d0 : Desk) (i f : Nat) (c : SlC) (av : Value) (ls : List SlC) (wr : World) : Prop where
  dk : DkIs wr db c av ls
  fc : Fc db (.slice none 0 0) w3 av wr
  len : ls.length ≤ i
  fuel : f ≤ F
  play : playAll ss d0 F = playAll (ss.drop i) ⟨c.l, awayOf ls⟩ f
  safe : Safe (ss.drop i) ⟨c.l, awayOf ls⟩ f
theorem ApIs.below {w3 : World} {db F : Nat} {ss : List St} {d0 : Desk} {i f : Nat} {c : SlC} {av : Value} {ls : List SlC} {wr wr' : World} (h : ApIs w3 db F ss d0 i f c av ls wr) (hb : Below wr.heap.size wr wr') : ApIs w3 db F ss d0 i f c av ls wr' :=
  ⟨h.dk.below hb, h.fc.trans (Fc.of_below hb), h.len, h.fuel, h.play, h.safe⟩
theorem ApIs.step {w3 : World} {db F : Nat} {ss : List St} {d0 : Desk} {i f f' : Nat} {c c' : SlC} {av av' : Value} {ls ls' : List SlC} {wr w' : World} (h : ApIs w3 db F ss d0 i f c av ls wr) (hi : i < ss.length) (hp : ss[i].play ⟨c.l, awayOf ls⟩ f = .ok ⟨c'.l, awayOf ls'⟩ f') (hd : DkIs w' db c' av' ls') (hc : Fc db av wr av' w') (hl : ls'.length ≤ ls.length + 1) (hf : f' ≤ f) : ApIs w3 db F ss d0 (i + 1) f' c' av' ls' w' := by
  have hdr : ss.drop i = ss[i] :: ss.drop (i + 1) := List.drop_eq_getElem_cons hi
  have h1 := h.play
  have h2 := h.safe
  rw [hdr] at h1 h2
  refine ⟨hd, h.fc.trans hc, by have := h.len; omega, Nat.le_trans hf h.fuel, ?_, h2.2 _ _ hp⟩
  rw [h1, playAll, hp]
theorem ApIs.err {w3 : World} {db F : Nat} {ss : List St} {d0 : Desk} {i f : Nat} {c : SlC} {av : Value} {ls : List SlC} {wr : World} (h : ApIs w3 db F ss d0 i f c av ls wr) (hi : i < ss.length) {k : Int} (hp : ss[i].play ⟨c.l, awayOf ls⟩ f = .err k) : playAll ss d0 F = .err k := by
  rw [h.play, List.drop_eq_getElem_cons hi, playAll, hp]
theorem ApIs.ok {w3 : World} {db F : Nat} {ss : List St} {d0 : Desk} {i f : Nat} {c : SlC} {av : Value} {ls : List SlC} {wr : World} (h : ApIs w3 db F ss d0 i f c av ls wr) (hi : ss.length ≤ i) : playAll ss d0 F = .ok ⟨c.l, awayOf ls⟩ f := by
  rw [h.play, List.drop_of_length_le hi]
  rfl
theorem ApIs.okAt {w3 : World} {db F : Nat} {ss : List St} {d0 : Desk} {i f : Nat} {c : SlC} {av : Value} {ls : List SlC} {wr : World} (h : ApIs w3 db F ss d0 i f c av ls wr) (hi : i < ss.length) : okAt ss[i] ⟨c.l, awayOf ls⟩ := by
  have h2 := h.safe
  rw [List.drop_eq_getElem_cons hi] at h2
  exact h2.1
theorem awayOf_cons {ls : List SlC} {o : List Rat} {more : List (List Rat)} (h : awayOf ls = o :: more) : ∃ ls0 c, ls = ls0 ++ [c] ∧ c.l = o ∧ awayOf ls0 = more := by
  rcases List.eq_nil_or_concat ls with rfl | ⟨ls0, c, rfl⟩
  · cases h
  · rw [List.concat_eq_append, awayOf_snoc] at h
    obtain ⟨h1, h2⟩ := List.cons.inj h
    exact ⟨ls0, c, List.concat_eq_append, h1, h2⟩
theorem play_any {w : World} {db : Nat} {c : SlC} {av : Value} {ls : List SlC} {x : RC} {s : St} (f : Nat) (hs : s.free = true ∨ s = .never) (hx : RSt w x s) (h : DkIs w db c av ls) (hok : okAt s ⟨c.l, awayOf ls⟩) (hl : ls.length ≤ 900000) :
    Calls Tryz.prog 71 #[.pointer (some ⟨db, 0, none⟩), RC.value x] w fun e w' => DPlay db av ls.length w (s.play ⟨c.l, awayOf ls⟩ f) e w' := by
  cases s with
  | never => exact play_never f _ _ hx
  | aside => exact play_aside f hx h (by omega)
  | fetch =>
    obtain ⟨old, more, idx, h1, h2, h3⟩ := hok
    obtain ⟨ls0, o, rfl, e1, _⟩ := awayOf_cons h1
    refine play_fetch f hx h h2 (fun i hi => by rw [e1]; exact h3 i hi) (by simp at hl; omega)
  | home =>
    obtain ⟨old, more, idx, h1, h2, h3⟩ := hok
    obtain ⟨ls1, a, rfl, e1, e2⟩ := awayOf_cons h1
    obtain ⟨ls0, o, rfl, e3, _⟩ := awayOf_cons e2
    exact play_home f hx h e1 h2 (by simp at hl; omega)
  | rest => rcases hs with h | h <;> cases h
  | sp y => rcases hs with h | h <;> cases h
theorem free_kd2 {w : World} {x : RC} {s : St} (h : RSt w x s) : decide (x.Kd ∈ (⟨#[80, 73, 76, 33]⟩ : ByteArray).data.toList) = (s.free || s.isNever) := by
  cases s with
  | sp y =>
    have hk : x.Kd = y.first := h.1.1
    rw [hk]
    cases y <;> rfl
  | _ => rw [show x.Kd = _ from h]; decide
end Go.Proofs.YtikiaijgcjjloaaGreatDoor

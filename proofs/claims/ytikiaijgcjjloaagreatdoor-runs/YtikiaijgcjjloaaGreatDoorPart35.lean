import Derived.Test.YtikiaijgcjjloaaGreatDoorPart32
import Derived.Test.YtikiaijgcjjloaaGreatDoorPart34

namespace Go.Proofs.YtikiaijgcjjloaaGreatDoor
open Go Go.RowKit M T Go.Lib
def ThereAt (f : Nat) : Prop := ∀ (t : Tm) (tb rb g cap : Nat) (l : List Rat) (w : World), t.wf → TmIs (fun k => k < w.heap.size) w tb t → RunIs w rb g cap l f →
  Calls Tryz.prog 52 #[.pointer (some ⟨rb, 0, none⟩), .pointer (some ⟨tb, 0, none⟩)] w fun e w' => RGot rb (t.run false l f) e w' ∧ But rb w w'
def BackAt (f : Nat) : Prop := ∀ (t : Tm) (tb rb g cap : Nat) (l : List Rat) (w : World), t.wf → t.back = true → TmIs (fun k => k < w.heap.size) w tb t → RunIs w rb g cap l f →
  Calls Tryz.prog 163 #[.pointer (some ⟨rb, 0, none⟩), .pointer (some ⟨tb, 0, none⟩)] w fun e w' => RGot rb (t.run true l f) e w' ∧ But rb w w'
def WayAt (f : Nat) : Prop := ∀ (t : Tm) (b : Bool) (tb rb g cap : Nat) (l : List Rat) (w : World), t.wf → (b = true → t.back = true) → TmIs (fun k => k < w.heap.size) w tb t → RunIs w rb g cap l f →
  Calls Tryz.prog 129 #[.pointer (some ⟨rb, 0, none⟩), .pointer (some ⟨tb, 0, none⟩), .bool b] w fun e w' => RGot rb (t.run b l f) e w' ∧ But rb w w'
set_option maxRecDepth 100000 in
set_option maxHeartbeats 800000 in
theorem way_of {f : Nat} (hT : ThereAt f) (hB : BackAt f) : WayAt f := by
  intro t b tb rb g cap l w hw hbk ht h
  have HT := hide hT
  have HB := hide hB
  have HW := hide hw
  have HBk := hide hbk
  have HTm := hide ht
  have H := hide h
  clear hT hB hw hbk ht h
  cases b with
  | false =>
    go_enter Tryz.func129, Tryz.ntmps129
    go_wp2_with fail
    refine (unhide HT t tb rb g cap l _ (unhide HW) (unhide HTm) (unhide H)).mono ?_
    rintro e w2 ⟨hg, hb2⟩
    have HG := hide hg
    have HB2 := hide hb2
    clear hb2
    rcases hg with ⟨l', f', g', cap', _, rfl, _⟩ | ⟨c, _, _, rfl⟩
    · go_wp2_with fail
      go_ret
      exact ⟨unhide HG, unhide HB2⟩
    · go_wp2_with fail
      go_ret
      exact ⟨unhide HG, unhide HB2⟩
  | true =>
    go_enter Tryz.func129, Tryz.ntmps129
    go_wp2_with fail
    refine (unhide HB t tb rb g cap l _ (unhide HW) (by first | exact unhide HBk rfl | exact unhide HBk trivial) (unhide HTm) (unhide H)).mono ?_
    rintro e w2 ⟨hg, hb2⟩
    have HG := hide hg
    have HB2 := hide hb2
    clear hb2
    rcases hg with ⟨l', f', g', cap', _, rfl, _⟩ | ⟨c, _, _, rfl⟩
    · go_wp2_with fail
      go_ret
      exact ⟨unhide HG, unhide HB2⟩
    · go_wp2_with fail
      go_ret
      exact ⟨unhide HG, unhide HB2⟩
def powRes (t : Tm) (k : Int) (l : List Rat) (F : Nat) : Res := if k < 0 ∧ t.back = false then .err 12 else iter (t.run (decide (k < 0))) k.natAbs l F
set_option maxRecDepth 100000 in
set_option maxHeartbeats 1600000 in
theorem power_any {t : Tm} {k : Int} {tb rb g cap : Nat} {l : List Rat} {F : Nat} {w : World} (hT : ∀ f, f < F → WayAt f) (hw : t.wf) (hk1 : -999 ≤ k) (hk2 : k ≤ 999) (ht : TmIs (fun k => k < w.heap.size) w tb t) (h : RunIs w rb g cap l F) :
    Calls Tryz.prog 127 #[.pointer (some ⟨rb, 0, none⟩), .pointer (some ⟨tb, 0, none⟩), .int .i64 k] w fun e w' => RGot rb (powRes t k l F) e w' ∧ But rb w w' := by
  have hbc := ht.cells.2.1
  have HT := hide hT
  have HW := hide hw
  have HTm := hide ht
  have H := hide h
  obtain ⟨r, hr⟩ : ∃ r, r = powRes t k l F := ⟨_, rfl⟩
  rw [← hr]
  have HR := hide hr
  clear hT hw ht h hr
  by_cases hneg : k < 0
  · cases hbk : t.back with
    | false =>
      rw [hbk] at hbc
      have HE := hide (show r = .err 12 by rw [unhide HR, powRes, if_pos ⟨hneg, hbk⟩])
      clear hbk
      go_enter Tryz.func127, Tryz.ntmps127
      go_wp2_with fail
      go_ret
      exact ⟨Or.inr ⟨12, unhide HE, by decide, rfl⟩, But.refl _ _⟩
    | true =>
      rw [hbk] at hbc
      obtain ⟨m, hm⟩ : ∃ m : Nat, -k = (m : Int) := ⟨(-k).toNat, by omega⟩
      have HE := hide (show r = iter (t.run true) m l F by
        rw [unhide HR, powRes, if_neg (fun h => by rw [hbk] at h; cases h.2), show decide (k < 0) = true from decide_eq_true hneg, show k.natAbs = m by omega])
      have HBk := hide hbk
      have hmi : -k = (m : Int) := hm
      clear hbk hm
      go_enter Tryz.func127, Tryz.ntmps127
      go_wp2_with fail
      go_loopg [8] m (fun kk v8 wr => ∃ (i : Nat) (l' : List Rat) (f' g' cap' : Nat), kk = m - i ∧ i ≤ m ∧ v8 = .int .i64 (i : Int) ∧ (r = iter (t.run true) (m - i) l' f' ∧ f' ≤ F) ∧ RunIs wr rb g' cap' l' f' ∧ But rb w wr)
      case atStart => exact ⟨0, l, F, g, cap, rfl, Nat.zero_le _, rfl, ⟨unhide HE, Nat.le_refl _⟩, unhide H, But.refl _ _⟩
      case round =>
        obtain ⟨i, l', f', g', cap', hk, hi, rfl, ⟨he, hfF⟩, hrun, hbr⟩ := hrel
        have HK := hide hk
        have HEi := hide he
        have HRun := hide hrun
        have HBr := hide hbr
        have HTmr := hide ((unhide HTm).run (unhide H).blk hbr)
        clear hk he hrun hbr
        by_cases hlt : i < m
        · have hlt' : (i : Int) < (m : Int) := by omega
          obtain ⟨q, hq⟩ : ∃ q, m - i = q + 1 := ⟨m - i - 1, by omega⟩
          have hq2 : m - (i + 1) = q := by omega
          have HI := hide (show r = stepped (fun l f => Res.then (t.run true l f) (iter (t.run true) q)) l' f' by rw [unhide HEi, hq, iter_succ])
          have HQ2 := hide hq2
          clear hq hq2
          go_wp2_with fail
          refine (step_any (unhide HRun)).mono ?_
          rintro e w1 ⟨hs, hb1⟩
          have HB1 := hide ((unhide HBr).trans hb1)
          have HTm1 := hide ((unhide HTmr).run (unhide HRun).blk hb1)
          clear hb1
          rcases hs with ⟨h0, rfl⟩ | ⟨f1, hf, rfl, hrun1⟩
          · have HX := hide (show r = .err 10 by rw [unhide HI, h0]; rfl)
            clear h0
            go_wp2_with fail
            go_ret
            exact ⟨Or.inr ⟨10, unhide HX, by decide, rfl⟩, unhide HB1⟩
          · have HI1 := hide (show r = Res.then (t.run true l' f1) (iter (t.run true) q) by rw [unhide HI, hf]; rfl)
            have HRun1 := hide hrun1
            clear hrun1
            go_wp2_with fail
            refine (unhide HT f1 (by omega) t true tb rb g' cap' l' _ (unhide HW) (fun _ => unhide HBk) (unhide HTm1) (unhide HRun1)).mono ?_
            rintro e w2 ⟨hg, hb2⟩
            have HB2 := hide ((unhide HB1).trans hb2)
            clear hb2
            rcases hg with ⟨l2, f2, g2, cap2, hres, rfl, hrun2⟩ | ⟨c, hres, hne, rfl⟩
            · have HNx := hide (show r = iter (t.run true) q l2 f2 ∧ f2 ≤ F by
                obtain ⟨n, hn, _⟩ := Tm.paced t true _ _ _ _ hres
                exact ⟨by rw [unhide HI1, hres]; rfl, by omega⟩)
              have HRun2 := hide hrun2
              clear hres hrun2
              go_wp2_with fail
              go_roundg (m - (i + 1))
              case measure => rw [unhide HK]; omega
              case rel => exact ⟨i + 1, l2, f2, g2, cap2, rfl, by omega, rfl, by rw [unhide HQ2]; exact unhide HNx, unhide HRun2, unhide HB2⟩
            · have HNx := hide (show r = .err c by rw [unhide HI1, hres]; rfl)
              have hne' : (c != 0) = true := by rw [bne_iff_ne]; exact hne
              have HNe := hide hne
              clear hres hne
              go_wp2_with fail
              go_ret
              exact ⟨Or.inr ⟨c, unhide HNx, unhide HNe, rfl⟩, unhide HB2⟩
        · have hlt' : ¬ (i : Int) < (m : Int) := by omega
          have HFin := hide (show r = .ok l' f' by rw [unhide HEi, show m - i = 0 by omega, iter_zero])
          go_wp2_with fail
          go_ret
          exact ⟨Or.inl ⟨l', f', g', cap', unhide HFin, rfl, unhide HRun⟩, unhide HBr⟩
  · obtain ⟨m, hm⟩ : ∃ m : Nat, k = (m : Int) := ⟨k.toNat, by omega⟩
    subst hm
    have HE := hide (show r = iter (t.run false) m l F by
      rw [unhide HR, powRes, if_neg (fun h => hneg h.1), show decide ((m : Int) < 0) = false from decide_eq_false hneg]
      rfl)
    go_enter Tryz.func127, Tryz.ntmps127
    go_wp2_with fail
    go_loopg [8] m (fun kk v8 wr => ∃ (i : Nat) (l' : List Rat) (f' g' cap' : Nat), kk = m - i ∧ i ≤ m ∧ v8 = .int .i64 (i : Int) ∧ (r = iter (t.run false) (m - i) l' f' ∧ f' ≤ F) ∧ RunIs wr rb g' cap' l' f' ∧ But rb w wr)
    case atStart => exact ⟨0, l, F, g, cap, rfl, Nat.zero_le _, rfl, ⟨unhide HE, Nat.le_refl _⟩, unhide H, But.refl _ _⟩
    case round =>
      obtain ⟨i, l', f', g', cap', hk, hi, rfl, ⟨he, hfF⟩, hrun, hbr⟩ := hrel
      have HK := hide hk
      have HEi := hide he
      have HRun := hide hrun
      have HBr := hide hbr
      have HTmr := hide ((unhide HTm).run (unhide H).blk hbr)
      clear hk he hrun hbr
      by_cases hlt : i < m
      · have hlt' : (i : Int) < (m : Int) := by omega
        obtain ⟨q, hq⟩ : ∃ q, m - i = q + 1 := ⟨m - i - 1, by omega⟩
        have hq2 : m - (i + 1) = q := by omega
        have HI := hide (show r = stepped (fun l f => Res.then (t.run false l f) (iter (t.run false) q)) l' f' by rw [unhide HEi, hq, iter_succ])
        have HQ2 := hide hq2
        clear hq hq2
        go_wp2_with fail
        refine (step_any (unhide HRun)).mono ?_
        rintro e w1 ⟨hs, hb1⟩
        have HB1 := hide ((unhide HBr).trans hb1)
        have HTm1 := hide ((unhide HTmr).run (unhide HRun).blk hb1)
        clear hb1
        rcases hs with ⟨h0, rfl⟩ | ⟨f1, hf, rfl, hrun1⟩
        · have HX := hide (show r = .err 10 by rw [unhide HI, h0]; rfl)
          clear h0
          go_wp2_with fail
          go_ret
          exact ⟨Or.inr ⟨10, unhide HX, by decide, rfl⟩, unhide HB1⟩
        · have HI1 := hide (show r = Res.then (t.run false l' f1) (iter (t.run false) q) by rw [unhide HI, hf]; rfl)
          have HRun1 := hide hrun1
          clear hrun1
          go_wp2_with fail
          refine (unhide HT f1 (by omega) t false tb rb g' cap' l' _ (unhide HW) (fun h => by cases h) (unhide HTm1) (unhide HRun1)).mono ?_
          rintro e w2 ⟨hg, hb2⟩
          have HB2 := hide ((unhide HB1).trans hb2)
          clear hb2
          rcases hg with ⟨l2, f2, g2, cap2, hres, rfl, hrun2⟩ | ⟨c, hres, hne, rfl⟩
          · have HNx := hide (show r = iter (t.run false) q l2 f2 ∧ f2 ≤ F by
              obtain ⟨n, hn, _⟩ := Tm.paced t false _ _ _ _ hres
              exact ⟨by rw [unhide HI1, hres]; rfl, by omega⟩)
            have HRun2 := hide hrun2
            clear hres hrun2
            go_wp2_with fail
            go_roundg (m - (i + 1))
            case measure => rw [unhide HK]; omega
            case rel => exact ⟨i + 1, l2, f2, g2, cap2, rfl, by omega, rfl, by rw [unhide HQ2]; exact unhide HNx, unhide HRun2, unhide HB2⟩
          · have HNx := hide (show r = .err c by rw [unhide HI1, hres]; rfl)
            have hne' : (c != 0) = true := by rw [bne_iff_ne]; exact hne
            have HNe := hide hne
            clear hres hne
            go_wp2_with fail
            go_ret
            exact ⟨Or.inr ⟨c, unhide HNx, unhide HNe, rfl⟩, unhide HB2⟩
      · have hlt' : ¬ (i : Int) < (m : Int) := by omega
        have HFin := hide (show r = .ok l' f' by rw [unhide HEi, show m - i = 0 by omega, iter_zero])
        go_wp2_with fail
        go_ret
        exact ⟨Or.inl ⟨l', f', g', cap', unhide HFin, rfl, unhide HRun⟩, unhide HBr⟩
theorem TmIs.belowS {Ok : Nat → Prop} {w w' : World} {b : Nat} {t : Tm} (h : TmIs Ok w b t) (hb : Below w.heap.size w w') : TmIs (fun k => k < w'.heap.size) w' b t := h.keeps (fun k _ hl => ⟨hb.block k hl, Nat.lt_of_lt_of_le hl hb.size⟩)
theorem PtIs.belowS {Ok : Nat → Prop} {w w' : World} {x : PC} {p : Pt} (h : PtIs Ok w x p) (hb : Below w.heap.size w w') : PtIs (fun k => k < w'.heap.size) w' x p := PtIs.keeps (fun k _ hl => ⟨hb.block k hl, Nat.lt_of_lt_of_le hl hb.size⟩) p x h
theorem RunIs.below {w w' : World} {rb g cap : Nat} {l : List Rat} {f : Nat} (h : RunIs w rb g cap l f) (hb : Below w.heap.size w w') : RunIs w' rb g cap l f := ⟨by rw [hb.block rb (lt_of_block h.blk)]; exact h.blk, h.lis.below hb, h.fuel, h.few⟩
theorem RunIs.put {w w1 : World} {rb g cap g' cap' : Nat} {l l' : List Rat} {f : Nat} (h : RunIs w rb g cap l f) (hb : Below w.heap.size w w1) (ho : w1.ownsRow w.heap.size 91 2 (.slice (some ⟨g', 0, none⟩) l'.length cap') l'.length (nrow l')) (hs : AllS l') (hl : l'.length ≤ 12) :
    RunIs (w1.setCell ⟨rb, 0, none⟩ (.slice (some ⟨g', 0, none⟩) l'.length cap')) rb g' cap' l' f := by
  have h1 := h.below hb
  have hlis : LIs w1 g' cap' l' := ⟨owns_base ho (Nat.zero_le _), hs, by omega⟩
  exact ⟨blk_set h1.blk 0 _, hlis.but h1.blk ((But.refl _ _).setCell _ _), h.fuel, hl⟩
def LFlat (B : Nat) (r : Except Int (List Rat)) (c : Int) (sl : Value) (w' : World) : Prop := (∃ l' g' cap', r = .ok l' ∧ AllS l' ∧ c = 0 ∧ sl = .slice (some ⟨g', 0, none⟩) l'.length cap' ∧ w'.ownsRow B 91 2 (.slice (some ⟨g', 0, none⟩) l'.length cap') l'.length (nrow l')) ∨ (r = .error c ∧ c ≠ 0 ∧ sl = .slice none 0 0)
theorem LGot.flat {B : Nat} {r : Except Int (List Rat)} {e : Ending} {w' : World} (h : LGot B r e w') : ∃ c sl, e = .returned (.tuple #[sl, .int .i64 c]) ∧ LFlat B r c sl w' := by
  rcases h with ⟨l, g, cap, h1, h2, rfl, h4⟩ | ⟨c, h1, h2, rfl⟩
  · exact ⟨0, _, rfl, Or.inl ⟨l, g, cap, h1, h2, rfl, rfl, h4⟩⟩
  · exact ⟨c, _, rfl, Or.inr ⟨h1, h2, rfl⟩⟩
set_option maxRecDepth 100000 in
set_option maxHeartbeats 1600000 in
theorem simple_any {y : Sp} {x : PC} {rb g cap f : Nat} {l : List Rat} {w : World} (hw : y.wf) (hx : SpIs (fun k => k < w.heap.size) w x y) (h : RunIs w rb g cap l f) :
    Calls Tryz.prog 131 #[.pointer (some ⟨rb, 0, none⟩), PC.value x] w fun e w' => RGot rb (lift (y.work l) f) e w' ∧ But rb w w' := by
  obtain ⟨L, N, K, Tp, Bt, pa, pn, pc, Bo, Ov⟩ := x
  have hrl := lt_of_block h.blk
  have HW := hide hw
  have HX := hide (show PtIs (fun k => k < w.heap.size) w ⟨L, N, K, Tp, Bt, pa, pn, pc, Bo, Ov⟩ (.sp y) by rw [PtIs]; exact hx)
  have H := hide h
  obtain ⟨r, hr⟩ : ∃ r, r = lift (y.work l) f := ⟨_, rfl⟩
  rw [← hr]
  have HE := hide hr
  clear hw hx h hr
  rw [show PC.value ⟨L, N, K, Tp, Bt, pa, pn, pc, Bo, Ov⟩ = .agg #[.int .u8 (L.toNat : Int), .int .u8 (N.toNat : Int), .int .i64 K, .int .i64 Tp, .int .i64 Bt, .slice pa pn pc, ptr Bo, ptr Ov] from rfl]
  have HVal := hide (show ∀ (w : World), LIs w g cap l → PtIs (fun k => k < w.heap.size) w ⟨L, N, K, Tp, Bt, pa, pn, pc, Bo, Ov⟩ (.sp y) → Calls Tryz.prog 164 #[.slice (some ⟨g, 0, none⟩) l.length cap, .agg #[.int .u8 (L.toNat : Int), .int .u8 (N.toNat : Int), .int .i64 K, .int .i64 Tp, .int .i64 Bt, .slice pa pn pc, ptr Bo, ptr Ov]] w fun e w' => LGot w.heap.size (y.work l) e w' ∧ Below w.heap.size w w' from fun w hl hp => makeOf_any (x := ⟨L, N, K, Tp, Bt, pa, pn, pc, Bo, Ov⟩) (by rw [PtIs] at hp; exact hp) (unhide HW) hl)
  obtain ⟨bo, hbo⟩ : ∃ bo, ptr Bo = .pointer bo := ⟨_, rfl⟩
  obtain ⟨ov, hov⟩ : ∃ ov, ptr Ov = .pointer ov := ⟨_, rfl⟩
  rw [hbo, hov] at HVal ⊢
  clear hbo hov
  have hb0 := box_below w (.cells #[.int .u8 (L.toNat : Int), .int .u8 (N.toNat : Int), .int .i64 K, .int .i64 Tp, .int .i64 Bt, .slice pa pn pc, .pointer bo, .pointer ov] 148)
  have hrun := (unhide H).below hb0
  have HX1 := hide ((unhide HX).belowS hb0)
  have hbk1 : (w.alloc (.cells #[.int .u8 (L.toNat : Int), .int .u8 (N.toNat : Int), .int .i64 K, .int .i64 Tp, .int .i64 Bt, .slice pa pn pc, .pointer bo, .pointer ov] 148)).heap[w.heap.size]? = some (.cells #[.int .u8 (L.toNat : Int), .int .u8 (N.toNat : Int), .int .i64 K, .int .i64 Tp, .int .i64 Bt, .slice pa pn pc, .pointer bo, .pointer ov] 148 (0, 0)) := heap_alloc_new w _
  have HB1 := hide (But.of_below (rb := rb) hb0)
  clear hb0
  go_enter Tryz.func131, Tryz.ntmps131
  go_upto_region 1 with fail
  generalize w.alloc (.cells #[.int .u8 (L.toNat : Int), .int .u8 (N.toNat : Int), .int .i64 K, .int .i64 Tp, .int .i64 Bt, .slice pa pn pc, .pointer bo, .pointer ov] 148) = w1 at hrun HX1 hbk1 HB1 ⊢
  have HRun := hide hrun
  have c0 : ∀ i, w1.cell? ⟨w.heap.size, i, none⟩ = (#[.int .u8 (L.toNat : Int), .int .u8 (N.toNat : Int), .int .i64 K, .int .i64 Tp, .int .i64 Bt, .slice pa pn pc, .pointer bo, .pointer ov] : Array Value)[i]? := fun i => blk_cell hbk1 i
  have r0 : w1.cell? ⟨rb, 0, none⟩ = some (.slice (some ⟨g, 0, none⟩) l.length cap) := blk_cell hrun.blk 0
  have hrl1 := lt_of_block hrun.blk
  have hbl1 := lt_of_block hbk1
  have HBk1 := hide hbk1
  have HCall := hide (unhide HVal w1.drew (hrun.lis.below (Below.drew (Below.refl _ _))) ((unhide HX1).belowS (Below.drew (Below.refl _ _))))
  clear hrun hbk1
  go_cut [5, 6] (fun v5 v6 wx => ∃ (c : Int) (sl : Value), v6 = .int .i64 c ∧ v5 = sl ∧ Below w1.heap.size w1 wx ∧ LFlat w1.heap.size (y.work l) c sl wx)
  case first =>
    go_region_held3 (fun w' => w'.cell? ⟨rb, 0, none⟩ = some (.slice (some ⟨g, 0, none⟩) l.length cap) ∧ w'.cell? ⟨w.heap.size, 0, none⟩ = some (.int .u8 (L.toNat : Int)) ∧ w'.cell? ⟨w.heap.size, 1, none⟩ = some (.int .u8 (N.toNat : Int)) ∧ w'.cell? ⟨w.heap.size, 2, none⟩ = some (.int .i64 K) ∧ w'.cell? ⟨w.heap.size, 3, none⟩ = some (.int .i64 Tp) ∧ w'.cell? ⟨w.heap.size, 4, none⟩ = some (.int .i64 Bt) ∧ w'.cell? ⟨w.heap.size, 5, none⟩ = some (.slice pa pn pc) ∧ w'.cell? ⟨w.heap.size, 6, none⟩ = some (.pointer bo) ∧ w'.cell? ⟨w.heap.size, 7, none⟩ = some (.pointer ov)) (go_keep)
      (first | (go_at_call 164; refine (unhide HCall).mono ?_; rintro e w' ⟨hl, hb⟩; obtain ⟨c, sl, rfl, hfl⟩ := hl.flat; have e0 := (hb.cell (p := ⟨rb, 0, none⟩) hrl1).trans r0; have e1 : ∀ i, w'.cell? ⟨w.heap.size, i, none⟩ = (#[.int .u8 (L.toNat : Int), .int .u8 (N.toNat : Int), .int .i64 K, .int .i64 Tp, .int .i64 Bt, .slice pa pn pc, .pointer bo, .pointer ov] : Array Value)[i]? := fun i => (hb.cell (p := ⟨w.heap.size, i, none⟩) hbl1).trans (c0 i); have HFl := hide hfl; have HBw := hide hb; clear hb hfl))
    all_goals go_wp2_with fail
    all_goals go_meet
    all_goals exact ⟨c, sl, rfl, rfl, (Below.drew (Below.refl _ _)).trans (unhide HBw), unhide HFl⟩
  case rest =>
    obtain ⟨c, sl, rfl, rfl, hbc, hfl⟩ := hcut
    have hr1 := (unhide HRun).below hbc
    have s0 : wc.cell? ⟨rb, 0, none⟩ = some (.slice (some ⟨g, 0, none⟩) l.length cap) := blk_cell hr1.blk 0
    have s1 : wc.frozen? ⟨rb, 0, none⟩ = false := blk_free hr1.blk 0
    rcases hfl with ⟨l', g', cap', hwk, hal, rfl, rfl, hown⟩ | ⟨hwk, hne, rfl⟩
    · have HE2 := hide (show r = .ok l' f by rw [unhide HE, hwk]; rfl)
      have HPut := hide ((unhide HRun).put hbc hown hal (Nat.le_trans (Sp.keeps (unhide HW) hwk).2 (unhide HRun).few))
      have HBf := hide ((unhide HB1).trans ((But.of_below hbc).setCell 0 (.slice (some ⟨g', 0, none⟩) l'.length cap')))
      clear hwk hal hown hbc hr1
      go_wp2_with fail
      go_ret
      exact ⟨Or.inl ⟨l', f, g', cap', unhide HE2, rfl, unhide HPut⟩, unhide HBf⟩
    · have HE2 := hide (show r = .err c by rw [unhide HE, hwk]; rfl)
      have hne' : (c != 0) = true := by rw [bne_iff_ne]; exact hne
      have HNe := hide hne
      have HBf := hide ((unhide HB1).trans (But.of_below hbc))
      clear hwk hne hbc hr1
      go_wp2_with fail
      go_ret
      exact ⟨Or.inr ⟨c, unhide HE2, unhide HNe, rfl⟩, unhide HBf⟩
theorem opp_call {y y2 : Sp} (hw : y.wf) (ho : y.opp = some y2) (x : PC) (w : World) (h : PtIs (fun k => k < w.heap.size) w x (.sp y)) :
    Calls Tryz.prog 102 #[PC.value x] w fun e w' => ∃ x', e = .returned (.tuple #[PC.value x', .bool true]) ∧ PtIs (fun k => k < w'.heap.size) w' x' (.sp y2) ∧ Below w.heap.size w w' := by
  have hs : y.opp.isSome = true := by rw [ho]; rfl
  have hb : (Pt.sp y).back = true := by rw [Pt.back]; exact hs
  have hop : (Pt.sp y).opp = .sp y2 := by rw [Pt.opp, ho]; rfl
  have key : Calls Tryz.prog 102 #[PC.value x] w fun e w' => ∃ x', e = .returned (.tuple #[PC.value x', .bool true]) ∧ PtIs (Okw w.heap.size w) w' x' (Pt.sp y).opp ∧ Below w.heap.size w w' := by
    refine Pt.opp_call (.sp y) ?_ (by rw [Pt.wf]; exact hw) hb w.heap.size x w (Nat.le_refl _) h
    have := Sp.text_len hw hs
    rw [Pt.text]
    omega
  refine key.mono ?_
  rintro e w' ⟨x', rfl, hp, hbw⟩
  rw [hop] at hp
  exact ⟨x', rfl, PtIs.keeps (fun k _ hl => ⟨rfl, hl⟩) _ _ hp, hbw⟩
set_option maxRecDepth 100000 in
set_option maxHeartbeats 1600000 in
theorem opposite_any' {y y2 : Sp} {x : PC} {rb g cap f : Nat} {l : List Rat} {w : World} (hw : y.wf) (ho : y.opp = some y2) (hx : SpIs (fun k => k < w.heap.size) w x y) (h : RunIs w rb g cap l f) :
    Calls Tryz.prog 130 #[.pointer (some ⟨rb, 0, none⟩), PC.value x] w fun e w' => RGot rb (lift (y.workBack l) f) e w' ∧ But rb w w' := by
  obtain ⟨L, N, K, Tp, Bt, pa, pn, pc, Bo, Ov⟩ := x
  have HW := hide (Sp.opp_wfK hw ho)
  have HC := hide (fun (x : PC) (w : World) (h : PtIs (fun k => k < w.heap.size) w x (.sp y)) => opp_call hw ho x w h)
  have HR := hide (show y.workBack l = y2.work l by rw [Sp.workBack, ho])
  rw [show PC.value ⟨L, N, K, Tp, Bt, pa, pn, pc, Bo, Ov⟩ = .agg #[.int .u8 (L.toNat : Int), .int .u8 (N.toNat : Int), .int .i64 K, .int .i64 Tp, .int .i64 Bt, .slice pa pn pc, .pointer (Bo.map fun b => ⟨b, 0, none⟩), .pointer (Ov.map fun b => ⟨b, 0, none⟩)] from rfl]
  have hb0 := box_below w (.cells #[.int .u8 (L.toNat : Int), .int .u8 (N.toNat : Int), .int .i64 K, .int .i64 Tp, .int .i64 Bt, .slice pa pn pc, .pointer (Bo.map fun b => ⟨b, 0, none⟩), .pointer (Ov.map fun b => ⟨b, 0, none⟩)] 148)
  have HB0 := hide hb0
  have HRun0 := hide (h.below hb0)
  have HX0 := hide ((show PtIs (fun k => k < w.heap.size) w ⟨L, N, K, Tp, Bt, pa, pn, pc, Bo, Ov⟩ (.sp y) by rw [PtIs]; exact hx).belowS hb0)
  clear hw ho hx h hb0
  go_enter Tryz.func130, Tryz.ntmps130
  go_wp2_with fail
  refine (unhide HC ⟨L, N, K, Tp, Bt, pa, pn, pc, Bo, Ov⟩ _ (unhide HX0)).mono ?_
  rintro e w1 ⟨⟨L', N', K', T', B', a', n', c', b', o'⟩, rfl, hp2, hb2⟩
  rw [(show PC.value ⟨L', N', K', T', B', a', n', c', b', o'⟩ = .agg #[.int .u8 (L'.toNat : Int), .int .u8 (N'.toNat : Int), .int .i64 K', .int .i64 T', .int .i64 B', .slice a' n' c', .pointer (b'.map fun b => ⟨b, 0, none⟩), .pointer (o'.map fun b => ⟨b, 0, none⟩)] from rfl)]
  have hb3 := box_below w1 (.cells #[.int .u8 (L'.toNat : Int), .int .u8 (N'.toNat : Int), .int .i64 K', .int .i64 T', .int .i64 B', .slice a' n' c', .pointer (b'.map fun b => ⟨b, 0, none⟩), .pointer (o'.map fun b => ⟨b, 0, none⟩)] 148)
  have HX3 := hide (hp2.belowS hb3)
  have HRun3 := hide (((unhide HRun0).below hb2).below hb3)
  have HB3 := hide ((unhide HB0).trans ((hb2.trans (hb3.mono hb2.size)).mono (unhide HB0).size))
  clear hp2 hb2 hb3
  go_wp2_with fail
  refine (simple_any (x := ⟨L', N', K', T', B', a', n', c', b', o'⟩) (unhide HW) (by have := unhide HX3; rw [PtIs] at this; exact this) (unhide HRun3)).mono ?_
  rintro e w2 ⟨hg, hb2⟩
  have HG := hide (show RGot rb (lift (y.workBack l) f) e w2 by rw [unhide HR]; exact hg)
  have HB2 := hide ((But.of_below (unhide HB3)).trans hb2)
  clear hb2
  rcases hg with ⟨l', f', g', cap', _, rfl, _⟩ | ⟨c, _, _, rfl⟩
  · go_wp2_with fail
    go_ret
    exact ⟨unhide HG, unhide HB2⟩
  · go_wp2_with fail
    go_ret
    exact ⟨unhide HG, unhide HB2⟩
end Go.Proofs.YtikiaijgcjjloaaGreatDoor

import Derived.Test.YtikiaijgcjjloaaGreatDoorPart48
import Derived.Test.YtikiaijgcjjloaaGreatDoorPart19

namespace Go.Proofs.YtikiaijgcjjloaaGreatDoor
open Go Go.RowKit M T Go.Lib
theorem free_fuel {s : St} {d d' : Desk} {f f' : Nat} (hs : s.free = true ∨ s = .never) (h : s.play d f = .ok d' f') : f' = f := by
  obtain ⟨cur, away⟩ := d
  cases s with
  | rest => rcases hs with h | h <;> cases h
  | sp y => rcases hs with h | h <;> cases h
  | never => cases h
  | aside => cases h; rfl
  | fetch =>
    cases away with
    | nil => cases h
    | cons o a => cases h; rfl
  | home =>
    cases away with
    | nil => cases h
    | cons at_ away =>
      cases away with
      | nil => cases h
      | cons old more =>
        have h' : (if cur.length = at_.length then PRes.ok ⟨layAt (places at_) cur old, more⟩ f else .err 11) = .ok d' f' := h
        split at h'
        · cases h'; rfl
        · cases h'
structure SayIs (env : Env) (s ls : List UInt8) (F : Nat) (ss : List St) (l : List Rat) : Prop where
  err : ∀ k, playAll ss ⟨l, []⟩ F = .err k → ApplySays env s ls (F : Int) [] 0 k
  ok : ∀ d f, playAll ss ⟨l, []⟩ F = .ok d f → ApplySays env s ls (F : Int) (listText d.cur) ((F : Int) - (f : Int)) 0
theorem say_is {env : Env} {s ls : List UInt8} {F : Nat} {t : Tm} {l : List Rat} (hg : T.Good env s t) (hl : IsList ls l) (hF : F ≤ 5000) : SayIs env s ls F (lay F (t.flat false) 0) l := by
  have h1 := play_lay F (t.flat false) ⟨l, []⟩ 0 F (by omega)
  have h2 := play_run t l F
  refine ⟨fun k h => ?_, fun d f h => ?_⟩
  · rw [h1, h2] at h
    refine Or.inr ⟨t, hg, Or.inr ⟨l, hl, Or.inr ⟨by omega, by omega, ?_⟩⟩⟩
    rw [show ((F : Int)).toNat = F from rfl]
    cases hr : t.run false l F with
    | err x => rw [hr] at h; cases h; exact ⟨rfl, rfl, rfl⟩
    | ok l' f' => rw [hr] at h; cases h
  · rw [h1, h2] at h
    refine Or.inr ⟨t, hg, Or.inr ⟨l, hl, Or.inr ⟨by omega, by omega, ?_⟩⟩⟩
    rw [show ((F : Int)).toNat = F from rfl]
    cases hr : t.run false l F with
    | err x => rw [hr] at h; cases h
    | ok l' f' => rw [hr] at h; cases h; exact ⟨rfl, rfl, rfl⟩
set_option maxRecDepth 100000 in
set_option maxHeartbeats 6400000 in
theorem rApply_any {rb : Nat} {vs : Value} {ds : List D} (s ls : ByteArray) (fuel : Int) (w : World) (h : RSes w rb vs ds) (hl : ds.length ≤ maxLen) (hls : ls.size ≤ 9223372036854775807) :
    Calls Tryz.prog 44 #[.pointer (some ⟨rb, 0, none⟩), .string s, .string ls, .int .i64 fuel] w fun e w' => ∃ (r : List UInt8) (n c : Int), e = .returned (.tuple #[.string ⟨r.toArray⟩, .int .i64 n, .int .i64 c]) ∧ ApplySays (envOf ds) s.data.toList ls.data.toList fuel r n c ∧ Below w.heap.size w w' := by
  have H := hide h
  clear h
  go_enter Tryz.func44, Tryz.ntmps44
  go_wp2_with fail
  refine (check_any (parts_all 1000) s _ (unhide H) hl).mono ?_
  rintro e w1 ⟨⟨k, rfl, hk⟩, hb1⟩
  have HB1 := hide hb1
  have H1 := hide ((unhide H).below hb1)
  clear hb1
  rcases hk with hk | ⟨rfl, t, hg⟩
  · have hke : (k != 0) = true := by rw [bne_iff_ne]; exact hk.ne
    have HC := hide hk
    clear hk
    go_wp2_with fail
    exact bodyPost_ret (v := .tuple #[.string ⟨#[]⟩, .int .i64 0, .int .i64 k]) (by simp [results, Tryz.results44, go_sem]) rfl ⟨[], 0, k, rfl, Or.inl ⟨unhide HC, rfl, rfl⟩, unhide HB1⟩
  have HG := hide hg
  have hsz : s.size ≤ 1000 := by have := hg.len; simp at this; omega
  clear hg
  go_wp2_with fail
  refine (rList_any ls _ hls).mono ?_
  rintro e w2 ⟨ao, nl, cp, b, rfl, hb2, hcase⟩
  have HB2 := hide ((unhide HB1).trans (hb2.mono (unhide HB1).size))
  have H2 := hide ((unhide H1).below hb2)
  clear hb2 H1
  rcases hcase with ⟨rfl, l, hil, rfl, hrl⟩ | ⟨rfl, hno⟩
  rotate_left
  · have HNo := hide hno
    clear hno
    go_wp2_with fail
    exact bodyPost_ret (v := .tuple #[.string ⟨#[]⟩, .int .i64 0, .int .i64 8]) (by simp [results, Tryz.results44, go_sem]) rfl ⟨[], 0, 8, rfl, Or.inr ⟨t, unhide HG, Or.inl ⟨unhide HNo, rfl, rfl, rfl⟩⟩, unhide HB2⟩
  have HL := hide hil
  have HRl := hide hrl
  clear hil hrl
  by_cases hf : fuel < 0 ∨ 5000 < fuel
  · have HF := hide hf
    rcases hf with hf | hf
    · go_wp2_with fail
      exact bodyPost_ret (v := .tuple #[.string ⟨#[]⟩, .int .i64 0, .int .i64 9]) (by simp [results, Tryz.results44, go_sem]) rfl ⟨[], 0, 9, rfl, Or.inr ⟨t, unhide HG, Or.inr ⟨l, unhide HL, Or.inl ⟨unhide HF, rfl, rfl, rfl⟩⟩⟩, unhide HB2⟩
    · have hf0 : ¬ fuel < 0 := by omega
      go_wp2_with fail
      exact bodyPost_ret (v := .tuple #[.string ⟨#[]⟩, .int .i64 0, .int .i64 9]) (by simp [results, Tryz.results44, go_sem]) rfl ⟨[], 0, 9, rfl, Or.inr ⟨t, unhide HG, Or.inr ⟨l, unhide HL, Or.inl ⟨unhide HF, rfl, rfl, rfl⟩⟩⟩, unhide HB2⟩
  obtain ⟨F, rfl⟩ : ∃ F : Nat, fuel = (F : Int) := ⟨fuel.toNat, by omega⟩
  have hf1 : ¬ (F : Int) < 0 := by omega
  have hf2 : ¬ (5000 : Int) < (F : Int) := by omega
  have hF : F ≤ 5000 := by omega
  clear hf
  obtain ⟨da, dc, hvs, _⟩ := (unhide H2).slice
  subst hvs
  have r0 : w2.cell? ⟨rb, 0, none⟩ = some (.slice da ds.length dc) := blk_cell (unhide H2).blk 0
  have hrz : rb < w2.heap.size := lt_of_block (unhide H2).blk
  have HSay := hide (say_is (unhide HG) (unhide HL) hF)
  have hss0 := lay_run_short t F
  have hfl0 : FlIs (w2.alloc (.cells (flc rb F 0 (.slice none 0 0)) 122)) w2.heap.size rb F 0 (.slice none 0 0) [] [] := ⟨heap_alloc_new _ _, World.ownsRow_nil _ _ _ _, trivial⟩
  have HFl0 := hide hfl0
  have HSafe := hide (safe_run (unhide HG).term.wf F l F)
  clear hfl0
  go_wp2_with fail
  refine (flow_any t (n := ds.length) (by rw [List.take_length]; exact (unhide HG).term) hsz ((unhide H2).below (box_below _ _)) (Nat.le_refl _) hl (unhide HFl0) (by omega) (by omega) (by rw [List.nil_append]; omega)).mono ?_
  rintro e w3 ⟨rfl, vf, xs, hfl, hfc⟩
  rw [List.nil_append] at hfl
  have HFl := hide hfl
  have HFc := hide hfc
  generalize lay F (t.flat false) 0 = ss at HFl HSay HSafe hss0
  clear hfl hfc
  have HRl3 := hide (((unhide HRl).below (box_below _ _)).kept (fun k c hk => (unhide HFc).other (unhide HFl0) hk (by decide) (by decide)))
  have hz2 : w.heap.size ≤ w2.heap.size := (unhide HB2).size
  have HB3 := hide (((unhide HB2).trans ((box_below w2 (.cells (flc rb F 0 (.slice none 0 0)) 122)).mono hz2)).trans ((unhide HFc).bel (B := w.heap.size) (by simp; omega) hz2 (fun g hg => by cases hg)))
  have hz3 : w.heap.size ≤ w3.heap.size := (unhide HB3).size
  have HD4 : Hid (DkIs (w3.alloc (.cells #[.slice ao l.length cp, .slice none 0 0] 127)) w3.heap.size ⟨ao, cp, l⟩ (.slice none 0 0) []) := hide ⟨heap_alloc_new _ _, (unhide HRl3).below (box_below _ _), World.ownsRow_nil _ _ _ _, fun a ha => by cases ha⟩
  have HFl4 := hide ((unhide HFl).below (box_below w3 (.cells #[.slice ao l.length cp, .slice none 0 0] 127)))
  have HB4 := hide ((unhide HB3).trans ((box_below w3 (.cells #[.slice ao l.length cp, .slice none 0 0] 127)).mono hz3))
  obtain ⟨fo, fcap, hvf, hcs⟩ := rrow_slice (unhide HFl4).own
  subst hvf
  have hxl := (unhide HFl4).steps.length
  have hxs : xs.length ≤ 20004 := by omega
  have HXl := hide hxl
  have HCs := hide hcs
  clear hcs hxl HRl HRl3 HFl HB3 HFl0 HFc H2 H r0
  go_wp2_with fail
  generalize w3.alloc (.cells #[.slice ao l.length cp, .slice none 0 0] 127) = w4 at HD4 HFl4 HB4 HCs ⊢
  generalize w2.heap.size = fb at HFl4 ⊢
  generalize w3.heap.size = db at HD4 hz3 ⊢
  go_loopg [11, 12, 16, 17] xs.length (fun kk v11 _ v16 v17 wr => ∃ (i f : Nat) (c : SlC) (av : Value) (lss : List SlC), kk = xs.length - i ∧ i ≤ xs.length ∧ v17 = .int .i64 (i : Int) ∧ v16 = .int .i64 ((F : Int) - (f : Int)) ∧ v11 = .int .i64 0 ∧ ApIs w4 db F ss ⟨l, []⟩ i f c av lss wr)
  case atStart => exact ⟨0, F, ⟨ao, cp, l⟩, _, [], rfl, Nat.zero_le _, rfl, congrArg (Value.int .i64) (by omega), rfl, ⟨unhide HD4, Fc.of_below (Below.refl _ _), Nat.le_refl _, Nat.le_refl _, rfl, unhide HSafe⟩⟩
  case round =>
    obtain ⟨i, f, c, av, lss, hk, hi, rfl, rfl, rfl, hap⟩ := hrel
    have HK := hide hk
    have HA := hide hap
    have hflr := (unhide HFl4).kept (fun k c ty hk h1 h2 => hap.fc.otherD (unhide HD4) hk h1 h2)
    have c3 : wr.cell? ⟨fb, 3, none⟩ = some (.slice fo xs.length fcap) := blk_cell hflr.blk 3
    have HFr := hide hflr
    have hfF := hap.fuel
    have hbw := (unhide HB4).trans (hap.fc.bel (B := w.heap.size) (unhide HB4).size hz3 (fun g hg => by cases hg))
    have HBw := hide hbw
    have hnew : ∀ g, av.ownBlock = some g → w.heap.size ≤ g := fun g hg => by
      rcases hap.fc.new with h | h
      · rw [h] at hg; cases hg
      · exact Nat.le_trans (unhide HB4).size (h g hg)
    have HNw := hide hnew
    have hwz := hbw.size
    clear hk hflr hbw hnew
    by_cases hlt : i < xs.length
    · have hlt' : (i : Int) < (xs.length : Int) := by omega
      have hls' : i < ss.length := by rw [← unhide HXl]; exact hlt
      obtain ⟨g, hgo, hgl, hcell⟩ := unhide HCs (by omega)
      have hx := (unhide HFr).steps.get i hlt hls'
      have hcr : ∀ j, j < 7 → wr.cell? ⟨g, i * 7 + j, none⟩ = (xs[i].cells)[j]? := fun j hj => by
        have e : w4.heap[g]? = wr.heap[g]? := by
          rw [hgo] at HFl4
          obtain ⟨cc, hcc⟩ := (unhide HFl4).row_ty (g := g) rfl
          exact (hap.fc.otherD (unhide HD4) hcc (by decide) (by decide)).symm
        exact (World.cell?_of_block (a := ⟨g, i * 7 + j, none⟩) e.symm).trans (hcell i hlt j hj)
      have HStep : Hid (∀ ⦃f' : Nat⦄ ⦃c' : SlC⦄ ⦃av' : Value⦄ ⦃ls' : List SlC⦄ ⦃w' : World⦄, ss[i].play ⟨c.l, awayOf lss⟩ f = .ok ⟨c'.l, awayOf ls'⟩ f' → DkIs w' db c' av' ls' → Fc db av wr av' w' → ls'.length ≤ lss.length + 1 → f' ≤ f → ApIs w4 db F ss ⟨l, []⟩ (i + 1) f' c' av' ls' w') := hide (fun _ _ _ _ _ h1 h2 h3 h4 h5 => hap.step hls' h1 h2 h3 h4 h5)
      have HErr : Hid (∀ k : Int, ss[i].play ⟨c.l, awayOf lss⟩ f = .err k → playAll ss ⟨l, []⟩ F = .err k) := hide (fun _ h => hap.err hls' h)
      have HOk := hide (hap.okAt hls')
      have hlen : lss.length ≤ 900000 := by have := hap.len; omega
      subst hgo
      clear hap hcell
      obtain ⟨st, hst⟩ : ∃ st, st = ss[i] := ⟨_, rfl⟩
      rw [← hst] at hx HStep HErr HOk
      clear hst
      generalize xs[i] = x at hcr hx
      have hdec := free_kd2 hx
      have HX := hide hx
      obtain ⟨Kd, P, Q, K, pa, pn, pc, F', G⟩ := x
      have hfk := hide (free_kd hx)
      have p0 : wr.cell? ⟨g, i * 7, none⟩ = some (.int .u8 (Kd.toNat : Int)) := hcr 0 (by omega)
      have p1 : wr.cell? ⟨g, i * 7 + 1, none⟩ = some (.int .i64 P) := hcr 1 (by omega)
      have p2 : wr.cell? ⟨g, i * 7 + 2, none⟩ = some (.int .i64 Q) := hcr 2 (by omega)
      have p3 : wr.cell? ⟨g, i * 7 + 3, none⟩ = some (.int .i64 K) := hcr 3 (by omega)
      have p4 : wr.cell? ⟨g, i * 7 + 4, none⟩ = some (.slice pa pn pc) := hcr 4 (by omega)
      have p5 : wr.cell? ⟨g, i * 7 + 5, none⟩ = some (.string F') := hcr 5 (by omega)
      have p6 : wr.cell? ⟨g, i * 7 + 6, none⟩ = some (.string G) := hcr 6 (by omega)
      clear hcr hx
      go_wp2_with fail
      refine (among_any Kd ⟨#[80, 73, 76, 33]⟩ _ (by decide)).mono ?_
      rintro e w5 ⟨rfl, rfl⟩
      rw [show decide (Kd ∈ (⟨#[80, 73, 76, 33]⟩ : ByteArray).data.toList) = (st.free || st.isNever) from hdec]
      have HBb := hide (box_below wr (.cells #[.int .u8 (Kd.toNat : Int), .int .i64 P, .int .i64 Q, .int .i64 K, .slice pa pn pc, .string F', .string G] 131))
      have HBx := hide (heap_alloc_new wr (.cells #[.int .u8 (Kd.toNat : Int), .int .i64 P, .int .i64 Q, .int .i64 K, .slice pa pn pc, .string F', .string G] 131))
      generalize wr.alloc (.cells #[.int .u8 (Kd.toNat : Int), .int .i64 P, .int .i64 Q, .int .i64 K, .slice pa pn pc, .string F', .string G] 131) = wb at HBb HBx ⊢
      have q : ∀ o, wb.cell? ⟨wr.heap.size, o, none⟩ = (#[.int .u8 (Kd.toNat : Int), .int .i64 P, .int .i64 Q, .int .i64 K, .slice pa pn pc, .string F', .string G] : Array Value)[o]? := fun o => blk_cell (unhide HBx) o
      have HAb := hide ((unhide HA).below (unhide HBb))
      have HXb := hide ((unhide HX).keeps (fun k _ hk => (unhide HBb).block k (lt_of_block hk)))
      have HBwb := hide ((unhide HBw).trans ((unhide HBb).mono hwz))
      have hwb := (unhide HBb).size
      clear p0 p1 p2 p3 p4 p5 p6 hdec c3
      by_cases hfr : (st.free || st.isNever) = true
      · rw [hfr]
        have hfr' : st.free = true ∨ st = .never := by
          cases st <;> first | exact Or.inl rfl | exact Or.inr rfl | cases hfr
        go_wp2_with fail
        refine (play_any f hfr' (unhide HXb) (unhide HAb).dk (unhide HOk) hlen).mono ?_
        rintro e w6 hd
        cases hp : st.play ⟨c.l, awayOf lss⟩ f with
        | err k =>
          rw [hp] at hd
          obtain ⟨rfl, hk0, av', hfc'⟩ := hd
          have hke : (k != 0) = true := by rw [bne_iff_ne]; exact hk0
          have HE := hide (unhide HErr _ hp)
          have HB6 := hide ((unhide HBwb).trans (hfc'.bel (B := w.heap.size) (by omega) hz3 (unhide HNw)))
          clear hfc' hp hk0
          go_wp2_with fail
          exact bodyPost_ret (v := .tuple #[.string ⟨#[]⟩, .int .i64 0, .int .i64 k]) (by simp [results, Tryz.results44, go_sem]) rfl ⟨[], 0, k, rfl, (unhide HSay).err k (unhide HE), unhide HB6⟩
        | ok d f' =>
          rw [hp] at hd
          obtain ⟨rfl, c', av', ls', hd', rfl, hfc', hl'⟩ := hd
          have hff := free_fuel hfr' hp
          subst hff
          have HN := hide (unhide HStep hp hd' ((Fc.of_below (unhide HBb)).trans hfc') hl' (Nat.le_refl _))
          clear hd' hfc' hp hl'
          go_wp2_with fail
          go_roundg (xs.length - (i + 1))
          case measure => rw [unhide HK]; omega
          case rel => exact ⟨i + 1, f', c', av', ls', rfl, by omega, congrArg (Value.int .i64) (by omega), rfl, rfl, unhide HN⟩
      · have hfr0 : (st.free || st.isNever) = false := by simpa using hfr
        rw [hfr0]
        clear hfr
        cases f with
        | zero =>
          have hE : st.play ⟨c.l, awayOf lss⟩ 0 = .err 10 := by cases st <;> first | rfl | cases hfr0
          have HE := hide (unhide HErr _ hE)
          have hu : ((F : Int) - ((0 : Nat) : Int)) = (F : Int) := by omega
          clear hE
          rw [hu]
          go_wp2_with fail
          exact bodyPost_ret (v := .tuple #[.string ⟨#[]⟩, .int .i64 0, .int .i64 10]) (by simp [results, Tryz.results44, go_sem]) rfl ⟨[], 0, 10, rfl, (unhide HSay).err 10 (unhide HE), unhide HBwb⟩
        | succ f =>
          obtain ⟨U, hU⟩ : ∃ U : Int, U = (F : Int) - ((f + 1 : Nat) : Int) := ⟨_, rfl⟩
          rw [← hU]
          have hu : (U == (F : Int)) = false := by rw [beq_eq_false_iff_ne]; omega
          have hU0 : 0 ≤ U := by omega
          have hU1 : U ≤ 5000 := by omega
          have HU := hide hU
          clear hU hfF
          cases st with
          | never => cases hfr0
          | aside => cases hfr0
          | fetch => cases hfr0
          | home => cases hfr0
          | rest =>
            have hKd : Kd = 46 := unhide HX
            subst hKd
            have HN := hide (unhide HStep (f' := f) (c' := c) (ls' := lss) rfl (unhide HAb).dk (Fc.of_below (unhide HBb)) (by omega) (by omega))
            go_wp2_with fail
            go_roundg (xs.length - (i + 1))
            case measure => rw [unhide HK]; omega
            case rel => exact ⟨i + 1, f, c, av, lss, rfl, by omega, congrArg (Value.int .i64) (by omega), congrArg (Value.int .i64) (by have := unhide HU; omega), rfl, unhide HN⟩
          | sp y =>
            have hne : ((Kd.toNat : Int) != 46) = true := by
              rw [show Kd = y.first from (unhide HX).1.1]
              cases y <;> rfl
            have HWk : Hid (∀ W, Below wb.heap.size wb W → Calls Tryz.prog 72 #[.agg #[.int .u8 (Kd.toNat : Int), .int .i64 P, .int .i64 Q, .int .i64 K, .slice pa pn pc, .string F', .string G], .slice c.ao c.l.length c.cap] W fun e w' => RWGot W (y.work c.l) e w') := hide (fun W hW => by
              have hx := (unhide HXb).keeps (fun k _ hk => hW.block k (lt_of_block hk))
              have h := work_any hx.2 hx.1 ((unhide HAb).dk.cur.below hW)
              exact h)
            have a0 : wb.cell? ⟨db, 0, none⟩ = some (.slice c.ao c.l.length c.cap) := blk_cell (unhide HAb).dk.blk 0
            have hzd : db < wb.heap.size := lt_of_block (unhide HAb).dk.blk
            have hzb : wr.heap.size < wb.heap.size := lt_of_block (unhide HBx)
            have q0 := q 0
            have q1 := q 1
            have q2 := q 2
            have q3 := q 3
            have q4 := q 4
            have q5 := q 5
            have q6 := q 6
            simp at q0 q1 q2 q3 q4 q5 q6
            clear q
            go_upto_region 24 with fail
            go_cut [11, 12] (fun v11 v12 wx => ∃ (ao' : Option Addr) (n' cp' : Nat) (k' : Int), v12 = .slice ao' n' cp' ∧ v11 = .int .i64 k' ∧ Below wb.heap.size wb wx ∧ ((∃ zs, y.work c.l = .ok zs ∧ n' = zs.length ∧ k' = 0 ∧ RL wx ao' cp' zs) ∨ (y.work c.l = .error k' ∧ k' ≠ 0)))
            case first =>
              go_region_held3 (fun w' => (w'.cell? ⟨wr.heap.size, 0, none⟩ = some (.int .u8 (Kd.toNat : Int)) ∧ w'.cell? ⟨wr.heap.size, 1, none⟩ = some (.int .i64 P) ∧ w'.cell? ⟨wr.heap.size, 2, none⟩ = some (.int .i64 Q) ∧ w'.cell? ⟨wr.heap.size, 3, none⟩ = some (.int .i64 K) ∧ w'.cell? ⟨wr.heap.size, 4, none⟩ = some (.slice pa pn pc) ∧ w'.cell? ⟨wr.heap.size, 5, none⟩ = some (.string F') ∧ w'.cell? ⟨wr.heap.size, 6, none⟩ = some (.string G)) ∧ w'.cell? ⟨db, 0, none⟩ = some (.slice c.ao c.l.length c.cap)) (go_keep)
                (first | (go_at_call 72; refine (unhide HWk _ (by first | exact Below.refl _ _ | exact Below.drew (Below.refl _ _) | exact below_dr (Below.refl _ _) _)).mono ?_; rintro e w' ⟨ao', n', cp', k', rfl, hb', hres⟩; have HRes := hide hres; clear hres; have hO : ∀ o, w'.cell? ⟨db, o, none⟩ = wb.cell? ⟨db, o, none⟩ := fun o => hb'.cell (p := ⟨db, o, none⟩) hzd; have hG : ∀ o, w'.cell? ⟨wr.heap.size, o, none⟩ = wb.cell? ⟨wr.heap.size, o, none⟩ := fun o => hb'.cell (p := ⟨wr.heap.size, o, none⟩) hzb))
              all_goals go_wp2_with fail
              all_goals go_meet
              all_goals exact ⟨ao', n', cp', k', rfl, rfl, ⟨hb'.os, hb'.tape, hb'.output, hb'.size, hb'.block⟩, unhide HRes⟩
            case rest =>
            obtain ⟨ao', n', cp', k', rfl, rfl, hb', hres⟩ := hcut
            have d0 : wc.cell? ⟨db, 0, none⟩ = some (.slice c.ao c.l.length c.cap) := (hb'.cell (p := ⟨db, 0, none⟩) hzd).trans a0
            have HAc := hide ((unhide HAb).below hb')
            have fz : wc.frozen? ⟨db, 0, none⟩ = false := blk_free (unhide HAc).dk.blk 0
            have HFc := hide ((Fc.of_below (fb := db) (v := av) (unhide HBb)).trans (Fc.of_below hb'))
            have HBc := hide ((unhide HBwb).trans (hb'.mono (by omega)))
            clear a0 hb' q0 q1 q2 q3 q4 q5 q6 HWk
            rcases hres with ⟨zs, hy, rfl, rfl, hrl⟩ | ⟨hy, hk0⟩
            · have HN := hide (unhide HStep (f' := f) (c' := ⟨ao', cp', zs⟩) (ls' := lss) (by simp only [St.play, hy]) ((unhide HAc).dk.setCur (c' := ⟨ao', cp', zs⟩) hrl) ((unhide HFc).setCell 0 _) (by omega) (by omega))
              clear hy hrl
              go_wp2_with fail
              go_roundg (xs.length - (i + 1))
              case measure => rw [unhide HK]; omega
              case rel => exact ⟨i + 1, f, ⟨ao', cp', zs⟩, av, lss, rfl, by omega, congrArg (Value.int .i64) (by omega), congrArg (Value.int .i64) (by have := unhide HU; omega), rfl, unhide HN⟩
            · have hke : (k' != 0) = true := by rw [bne_iff_ne]; exact hk0
              have HE := hide (unhide HErr k' (by simp only [St.play, hy]))
              have HB6 := hide ((unhide HBc).setCell (p := ⟨db, 0, none⟩) hz3 (.slice ao' n' cp'))
              clear hy hk0
              go_wp2_with fail
              exact bodyPost_ret (v := .tuple #[.string ⟨#[]⟩, .int .i64 0, .int .i64 k']) (by simp [results, Tryz.results44, go_sem]) rfl ⟨[], 0, k', rfl, (unhide HSay).err k' (unhide HE), unhide HB6⟩
    · have hlt' : ¬ (i : Int) < (xs.length : Int) := by omega
      have HOk := hide ((unhide HA).ok (by rw [← unhide HXl]; omega))
      have a0 : wr.cell? ⟨db, 0, none⟩ = some (.slice c.ao c.l.length c.cap) := blk_cell (unhide HA).dk.blk 0
      have hcl : (listText c.l).length ≤ 23000 := by
        have h1 := listText_len (unhide HA).dk.cur.small
        have h2 := (unhide HA).dk.cur.len
        omega
      clear hap
      go_wp2_with fail
      refine (rListed_any (unhide HA).dk.cur).mono ?_
      rintro e w5 ⟨rfl, hb5⟩
      have HB5 := hide ((unhide HBw).trans (hb5.mono hwz))
      clear hb5
      go_wp2_with fail
      exact bodyPost_ret (v := .tuple #[.string ⟨(listText c.l).toArray⟩, .int .i64 ((F : Int) - (f : Int)), .int .i64 0]) (by simp [results, Tryz.results44, go_sem]) rfl ⟨listText c.l, _, 0, rfl, (unhide HSay).ok _ _ (unhide HOk), unhide HB5⟩
end Go.Proofs.YtikiaijgcjjloaaGreatDoor

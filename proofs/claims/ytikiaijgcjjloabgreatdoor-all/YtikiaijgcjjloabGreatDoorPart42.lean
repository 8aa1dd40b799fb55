import Derived.Test.YtikiaijgcjjloabGreatDoorPart41
import Derived.Test.YtikiaijgcjjloabGreatDoorPart34
import Derived.BigQuiet

namespace Go.Proofs.YtikiaijgcjjloabGreatDoor
open Go Go.RowKit M T Go.Lib
def homeAt (idx:List Nat) (ys:List Rat) (x:Rat) (i k:Nat):Rat:=match ((idx.zip ys).take k).find? (fun e=>e.1 == i) with
 | some e=>e.2
 | none=>x
theorem find_none {idx:List Nat} {ys:List Rat} {k i:Nat} (h:∀ j (hj:j < idx.length),j < k → idx[j] ≠ i):((idx.zip ys).take k).find? (fun e=>e.1 == i) = none:=by
 rw [List.find?_eq_none]
 rintro ⟨a,b⟩ hm
 obtain ⟨j,hj,he⟩:=List.getElem_of_mem hm
 rw [List.getElem_take,List.getElem_zip] at he
 have h1:j < k:=by rw [List.length_take] at hj;omega
 have h2:j < idx.length:=by rw [List.length_take,List.length_zip] at hj;omega
 have:=h j h2 h1
 have e1:idx[j] = a:=(Prod.mk.inj he).1
 rw [e1] at this
 simpa using this
theorem homeAt_succ {idx:List Nat} {ys:List Rat} (hn:idx.Nodup) (x:Rat) (i k:Nat) (hk:k < idx.length) (hy:k < ys.length):homeAt idx ys x i (k + 1) = if idx[k] = i then ys[k] else homeAt idx ys x i k:=by
 have hz:k < (idx.zip ys).length:=by rw [List.length_zip];omega
 unfold homeAt
 rw [List.take_succ_eq_append_getElem hz,List.find?_append,List.getElem_zip]
 by_cases he:idx[k] = i
 ·rw [if_pos he,find_none (fun j hj hlt e=>by
   have:=(List.getElem_inj (h₀:=hj) (h₁:=hk) hn).1 (e.trans he.symm)
   omega)]
  simp [he]
 ·rw [if_neg he]
  simp [he]
theorem homeAt_all {idx:List Nat} {ys l:List Rat} {i:Nat} (hi:i < l.length) {k:Nat} (hk:idx.length ≤ k):homeAt idx ys l[i] i k = (layAt idx ys l)[i]'(by unfold layAt;simpa using hi):=by
 unfold homeAt layAt
 rw [List.take_of_length_le (by rw [List.length_zip];omega),List.getElem_map,List.getElem_range,getD_at hi]
 rfl
theorem layAt_len (idx:List Nat) (ys l:List Rat):(layAt idx ys l).length = l.length:=by unfold layAt;simp
theorem homeAt_small {idx:List Nat} {ys:List Rat} (hn:idx.Nodup) (hl:ys.length = idx.length) {x:Rat} (hx:small x = true) (hy:AllS ys) (i:Nat):∀ k,k ≤ idx.length → small (homeAt idx ys x i k) = true
 | 0,_=>hx
 | k + 1,hk=>by
  rw [homeAt_succ hn x i k (by omega) (by omega)]
  split
  ·exact hy _ (List.getElem_mem _)
  ·exact homeAt_small hn hl hx hy i k (by omega)
structure NbIs (wr:World) (z:Rat) (wi:World):Prop where
 bel:Below wr.heap.size wr wi
 blk:wi.heap[wr.heap.size]? = some (.cells #[.int .i64 z.num,.int .i64 (z.den:Int)] 139 (0,0))
theorem NbIs.set {wr wi:World} {z z':Rat} (h:NbIs wr z wi):NbIs wr z' ((wi.setCell ⟨wr.heap.size,0,none⟩ (.int .i64 z'.num)).setCell ⟨wr.heap.size,1,none⟩ (.int .i64 (z'.den:Int))) :=
 ⟨(h.bel.setCell (p:=⟨wr.heap.size,0,none⟩) (Nat.le_refl _) _).setCell (p:=⟨wr.heap.size,1,none⟩) (Nat.le_refl _) _,blk_set (blk_set h.blk 0 _) 1 _⟩
set_option maxRecDepth 100000 in
set_option maxHeartbeats 6400000 in
theorem play_home {w : World} {db : Nat} {c o a : SlC} {av : Value} {ls0 : List SlC} {x : RC} {idx : List Nat} (f : Nat) (hx : RSt w x .home) (h : DkIs w db c av (ls0 ++ [o] ++ [a])) (hai : a.l = idx.map rnat) (hnd : idx.Nodup) (hl : ls0.length ≤ 900000) :
    Calls Tryz.prog 84 #[.pointer (some ⟨db, 0, none⟩), RC.value x] w fun e w' => DPlay db av (ls0 ++ [o] ++ [a]).length w (St.home.play ⟨c.l, awayOf (ls0 ++ [o] ++ [a])⟩ f) e w' := by
  obtain ⟨j0, hj0, hy0, hy1, hy2⟩ := info_parts Tryz.infoNum
  obtain ⟨Kd, P, Q, K, pa, pn, pc, F, G⟩ := x
  have hk : Kd = 76 := hx
  subst hk
  clear hx
  rw [show RC.value ⟨76, P, Q, K, pa, pn, pc, F, G⟩ = .agg #[.int .u8 76, .int .i64 P, .int .i64 Q, .int .i64 K, .slice pa pn pc, .string F, .string G] from rfl]
  obtain ⟨ao, cap, l⟩ := c
  obtain ⟨aa, acap, al⟩ := a
  replace hai : al = idx.map rnat := hai
  have HPl := hide (show St.home.play ⟨l, awayOf (ls0 ++ [o] ++ [SlC.mk aa acap al])⟩ f = if l.length = al.length then .ok ⟨layAt idx l o.l, awayOf ls0⟩ f else .err 11 by
    rw [awayOf_snoc, awayOf_snoc]
    show (if l.length = al.length then PRes.ok ⟨layAt (places al) l o.l, awayOf ls0⟩ f else .err 11) = _
    rw [hai, places_rnat])
  have hil : idx.length = al.length := by rw [hai]; simp
  have HAi := hide hai
  have HNd := hide hnd
  have HIl := hide hil
  obtain ⟨ls, hls⟩ : ∃ ls, ls = ls0 ++ [o] ++ [SlC.mk aa acap al] := ⟨_, rfl⟩
  rw [← hls] at h HPl ⊢
  have HLs := hide hls
  have hb : Below w.heap.size w (w.alloc (.cells #[.int .u8 76, .int .i64 P, .int .i64 Q, .int .i64 K, .slice pa pn pc, .string F, .string G] 141)) := (Below.refl _ _).alloc (Nat.le_refl _) _
  have HA := hide (h.below hb)
  have HB := hide hb
  clear h hb hai hnd hil hls
  go_enter Tryz.func84, Tryz.ntmps84
  go_wp2_with fail
  generalize w.alloc (.cells #[.int .u8 76, .int .i64 P, .int .i64 Q, .int .i64 K, .slice pa pn pc, .string F, .string G] 141) = wA at HA HB ⊢
  refine (top_last (ls1 := ls0 ++ [o]) (a := ⟨aa, acap, al⟩) (by rw [← unhide HLs]; exact unhide HA) (by simp; omega)).mono ?_
  rintro e w1 ⟨rfl, hb1⟩
  have HD1 := hide ((unhide HA).below hb1)
  have HB1 := hide ((unhide HB).trans (hb1.mono (unhide HB).size))
  clear hb1 HA
  rw [show (SlC.mk aa acap al).value = .slice aa al.length acap from rfl]
  go_wp2_with fail
  refine (top_under (ls0 := ls0) (o := o) (a := ⟨aa, acap, al⟩) (by rw [← unhide HLs]; exact unhide HD1) hl).mono ?_
  rintro e w2 ⟨rfl, hb2⟩
  have HD := hide ((unhide HD1).below hb2)
  have HB2 := hide ((unhide HB1).trans (hb2.mono (unhide HB1).size))
  clear hb2 HD1 HB1
  obtain ⟨oo, oc, ol⟩ := o
  have HRo : Hid (RL w2 oo oc ol) := hide ((unhide HD).rl ⟨oo, oc, ol⟩ (by rw [unhide HLs]; simp))
  have HRa : Hid (RL w2 aa acap al) := hide ((unhide HD).rl ⟨aa, acap, al⟩ (by rw [unhide HLs]; simp))
  have HRc : Hid (RL w2 ao cap l) := hide (unhide HD).cur
  rw [show (SlC.mk oo oc ol).value = .slice oo ol.length oc from rfl]
  have a0 : w2.cell? ⟨db, 0, none⟩ = some (.slice ao l.length cap) := blk_cell (unhide HD).blk 0
  have hdz : db < w2.heap.size := lt_of_block (unhide HD).blk
  have hol : ol.length ≤ 1000 := (unhide HRo).len
  have hal : al.length ≤ 1000 := (unhide HRa).len
  have hll : l.length ≤ 1000 := (unhide HRc).len
  by_cases hq : l.length = al.length
  · have hq1 : (((al.length : Nat) : Int) != ((l.length : Nat) : Int)) = false := by rw [hq]; simp
    have HQ := hide hq
    clear hq
    go_wp2_with fail
    go_loopg [12, 13] ol.length (fun kk v12 v13 wr => ∃ (i : Nat) (ys : List Rat) (ao' : Option Addr) (cp : Nat), kk = ol.length - i ∧ i ≤ ol.length ∧ v13 = .int .i64 (i : Int) ∧ v12 = .slice ao' ys.length cp ∧ (ys = (layAt idx l ol).take i ∧ AllS ys) ∧ RM w2 (.slice ao' ys.length cp) ys wr)
    case atStart => exact ⟨0, [], none, 0, rfl, Nat.zero_le _, rfl, rfl, ⟨rfl, fun _ h => by (cases h)⟩, RM.start w2⟩
    case round =>
      obtain ⟨i, ys, ao', cp, hk, hi, rfl, rfl, he, hm⟩ := hrel
      have HK := hide hk
      have HE := hide he
      have HM := hide hm
      have hyb : ys.length ≤ 1000 := by
        rw [he.1, List.length_take]
        omega
      clear hk he
      by_cases hlt : i < ol.length
      · have hlt' : (i : Int) < (ol.length : Int) := by omega
        obtain ⟨g, rfl, hg, hcl⟩ := (unhide HRo).cell (by omega)
        obtain ⟨d0, d1⟩ := hcl i hlt
        rw [← hm.bel.cell (p := ⟨g, i * 2, none⟩) hg] at d0
        rw [← hm.bel.cell (p := ⟨g, i * 2 + 1, none⟩) hg] at d1
        have HX := hide ((unhide HRo).small ol[i] (List.getElem_mem hlt))
        have HLay := hide (show (layAt idx l ol).take (i + 1) = (layAt idx l ol).take i ++ [homeAt idx l ol[i] i al.length] by
          rw [List.take_succ_eq_append_getElem (by rw [layAt_len]; exact hlt), homeAt_all hlt (by rw [unhide HIl]; exact Nat.le_refl _)])
        clear hcl hm
        generalize ol[i] = z at d0 d1 HX HLay
        have hsz := (unhide HM).bel.size
        have HN0 : Hid (NbIs wr (homeAt idx l z i 0) (wr.alloc (.cells #[.int .i64 z.num, .int .i64 (z.den : Int)] 139))) := hide ⟨(Below.refl _ _).alloc (Nat.le_refl _) _, heap_alloc_new _ _⟩
        obtain ⟨wo, hwo⟩ : ∃ wo, wo = wr := ⟨_, rfl⟩
        subst hwo
        go_wp2_with fail
        go_loopg [15] al.length (fun kk v15 wi => ∃ k : Nat, kk = al.length - k ∧ k ≤ al.length ∧ v15 = .int .i64 (k : Int) ∧ NbIs wo (homeAt idx l z i k) wi)
        case atStart => exact ⟨0, rfl, Nat.zero_le _, rfl, unhide HN0⟩
        case round =>
          obtain ⟨k, hk2, hkl, rfl, hnb⟩ := hrel
          have HK2 := hide hk2
          have HNb := hide hnb
          have hwz : w2.heap.size ≤ wo.heap.size := hsz
          clear hk2 hnb d0 d1
          by_cases hkt : k < al.length
          · have hkt' : (k : Int) < (al.length : Int) := by omega
            have hki : k < idx.length := by rw [unhide HIl]; exact hkt
            have hkc : k < l.length := by rw [unhide HQ]; exact hkt
            obtain ⟨ga, rfl, hga, hca⟩ := (unhide HRa).cell (by omega)
            obtain ⟨p0, _⟩ := hca k hkt
            rw [map_rnat_at (unhide HAi) hkt hki, ← (unhide HM).bel.cell (p := ⟨ga, k * 2, none⟩) hga, ← (unhide HNb).bel.cell (p := ⟨ga, k * 2, none⟩) (Nat.lt_of_lt_of_le hga hwz)] at p0
            have HSu := hide (homeAt_succ (ys := l) (unhide HNd) z i k hki hkc)
            clear hca
            by_cases he : idx[k] = i
            · have he' : (((idx[k] : Nat) : Int) == ((i : Nat) : Int)) = true := by rw [he]; simp
              rw [if_pos he] at HSu
              obtain ⟨gc, rfl, hgc, hcc⟩ := (unhide HRc).cell (by omega)
              obtain ⟨c0, c1⟩ := hcc k hkc
              rw [← (unhide HM).bel.cell (p := ⟨gc, k * 2, none⟩) hgc, ← (unhide HNb).bel.cell (p := ⟨gc, k * 2, none⟩) (Nat.lt_of_lt_of_le hgc hwz)] at c0
              rw [← (unhide HM).bel.cell (p := ⟨gc, k * 2 + 1, none⟩) hgc, ← (unhide HNb).bel.cell (p := ⟨gc, k * 2 + 1, none⟩) (Nat.lt_of_lt_of_le hgc hwz)] at c1
              have b0 : wr.cell? ⟨db, 0, none⟩ = some (.slice (some ⟨gc, 0, none⟩) l.length cap) := (((unhide HNb).bel.cell (p := ⟨db, 0, none⟩) (Nat.lt_of_lt_of_le hdz hwz)).trans ((unhide HM).bel.cell (p := ⟨db, 0, none⟩) hdz)).trans a0
              have hfz : ∀ o, wr.frozen? ⟨wo.heap.size, o, none⟩ = false := fun o => blk_free (unhide HNb).blk o
              have n0 : wr.cell? ⟨wo.heap.size, 0, none⟩ = some (.int .i64 (homeAt idx l z i k).num) := blk_cell (unhide HNb).blk 0
              have n1 : wr.cell? ⟨wo.heap.size, 1, none⟩ = some (.int .i64 ((homeAt idx l z i k).den : Int)) := blk_cell (unhide HNb).blk 1
              have HNs := hide ((unhide HNb).set (z' := l[k]))
              have hkc' : (k : Int) < (l.length : Int) := by omega
              clear hcc he
              generalize idx[k] = q at p0 he'
              generalize l[k] = y at c0 c1 HSu HNs
              go_wp2_with fail
              go_roundg (al.length - (k + 1))
              case measure => rw [unhide HK2]; omega
              case rel => exact ⟨k + 1, rfl, by omega, rfl, by rw [unhide HSu]; exact unhide HNs⟩
            · have he' : (((idx[k] : Nat) : Int) == ((i : Nat) : Int)) = false := by rw [beq_eq_false_iff_ne]; omega
              rw [if_neg he] at HSu
              clear he
              generalize idx[k] = q at p0 he'
              go_wp2_with fail
              go_roundg (al.length - (k + 1))
              case measure => rw [unhide HK2]; omega
              case rel => exact ⟨k + 1, rfl, by omega, rfl, by rw [unhide HSu]; exact unhide HNb⟩
          · have hkt' : ¬ (k : Int) < (al.length : Int) := by omega
            have HKE := hide (show k = al.length by omega)
            rw [← unhide HKE] at HLay
            have HSm := hide (homeAt_small (unhide HNd) (by rw [unhide HQ, unhide HIl]) (unhide HX) (unhide HRc).small i k (by rw [unhide HIl]; exact hkl))
            generalize homeAt idx l z i k = y at HNb HLay HSm
            have n0 : wr.cell? ⟨wo.heap.size, 0, none⟩ = some (.int .i64 y.num) := blk_cell (unhide HNb).blk 0
            have n1 : wr.cell? ⟨wo.heap.size, 1, none⟩ = some (.int .i64 (y.den : Int)) := blk_cell (unhide HNb).blk 1
            have HM2 := hide (((unhide HM).below (unhide HNb).bel).below ((Below.refl _ _).alloc (Nat.le_refl _) (.cells (qcells y).toArray 139)))
            have hs2 := (unhide HNb).bel.size
            go_wp2_with (at_builtin; refine wpList_append_own _ rfl _ _ 126 rfl w2.heap.size 139 j0 _ 2 16 Tryz.underlying126 hj0 hy0 hy1 hy2 rfl (by decide) _ _ _ rfl (unhide HM2).own ⟨wr.heap.size, 0, none⟩ 1 1 (qcells y) rfl rfl (nnews_at rfl _ _) (one_qcells _) (by unfold maxLen; omega) (by omega) (by simp; omega) ?_)
            intro v' w4 hown4 hgr4 _
            have hm4 := (unhide HM2).more hown4 hgr4
            obtain ⟨ao4, cp4, rfl⟩ := hm4.shape
            have HM4 := hide hm4
            clear hm4 hown4 hgr4
            go_wp2_with fail
            go_roundg (ol.length - (i + 1))
            case measure => rw [unhide HK]; omega
            case rel => exact ⟨i + 1, ys ++ [y], ao4, cp4, rfl, by omega, rfl, rfl, ⟨by rw [unhide HLay, ← (unhide HE).1], allS_one (unhide HE).2 (unhide HSm)⟩, unhide HM4⟩
      · have hlt' : ¬ (i : Int) < (ol.length : Int) := by omega
        have HYs := hide (show ys = layAt idx l ol by
          have := (unhide HE).1
          rw [List.take_of_length_le (by rw [layAt_len]; omega)] at this
          exact this)
        have HDm := hide ((unhide HD).below (unhide HM).bel)
        have hfm : ∀ o, wr.frozen? ⟨db, o, none⟩ = false := fun o => blk_free (unhide HDm).blk o
        have hdc : DkIs (wr.setCell ⟨db, 0, none⟩ (.slice ao' ys.length cp)) db ⟨ao', cp, ys⟩ av ls := (unhide HDm).setCur (c' := ⟨ao', cp, ys⟩) ((unhide HM).rl (unhide HE).2 hyb)
        have hcc : Fc db av w av (wr.setCell ⟨db, 0, none⟩ (.slice ao' ys.length cp)) := ((Fc.of_below (unhide HB2)).trans (Fc.of_below (unhide HM).bel)).setCell _ _
        have HDc := hide hdc
        have HCc := hide hcc
        have m0 : wr.cell? ⟨db, 0, none⟩ = some (.slice ao l.length cap) := blk_cell (unhide HDm).blk 0
        clear hdc hcc hm
        go_upto_region 36 with fail
        obtain ⟨wB, hwB⟩ : ∃ wB, wB = wr.setCell ⟨db, 0, none⟩ (.slice ao' ys.length cp) := ⟨_, rfl⟩
        rw [← hwB] at HDc HCc ⊢
        obtain ⟨ga, ca, hav, hcap⟩ : ∃ g cap, av = .slice (some ⟨g, 0, none⟩) (ls0.length + 2) cap ∧ ls0.length + 2 ≤ cap := by
          have e : ls.length = ls0.length + 2 := by rw [unhide HLs]; simp
          rcases (unhide HDc).aw.2 with ⟨_, h2⟩ | ⟨g, cap, cur, hv, _, _, hn, _⟩
          · rw [e] at h2; omega
          · rw [e] at hv hn; exact ⟨g, cap, hv, hn⟩
        subst hav
        have b1 : wB.cell? ⟨db, 1, none⟩ = some (.slice (some ⟨ga, 0, none⟩) (ls0.length + 2) ca) := blk_cell (unhide HDc).blk 1
        have hfB : ∀ o, wB.frozen? ⟨db, o, none⟩ = false := fun o => blk_free (unhide HDc).blk o
        have hcap' : (ls0.length : Int) ≤ (ca : Int) := by omega
        clear hwB m0 hfm
        have HDf : Hid (DkIs (wB.setCell ⟨db, 1, none⟩ (.slice (some ⟨ga, 0, none⟩) ls0.length ca)).drew db ⟨ao', cp, ys⟩ (.slice (some ⟨ga, 0, none⟩) ls0.length ca) ls0 ∧ Fc db (.slice (some ⟨ga, 0, none⟩) (ls0.length + 2) ca) w (.slice (some ⟨ga, 0, none⟩) ls0.length ca) (wB.setCell ⟨db, 1, none⟩ (.slice (some ⟨ga, 0, none⟩) ls0.length ca)).drew) := hide (by
          have e : ls.length = ls0.length + 2 := by rw [unhide HLs]; simp
          have h1 := unhide HDc
          have h2 : Fc db (.slice (some ⟨ga, 0, none⟩) (ls0.length + 2) ca) w (.slice (some ⟨ga, 0, none⟩) ls0.length ca) wB := ⟨(unhide HCc).chg, Or.inl rfl⟩
          rw [← e, unhide HLs] at h1
          exact ⟨h1.pop.below (Below.drew (Below.refl _ _)), (h2.setCell _ _).trans (Fc.of_below (Below.drew (Below.refl _ _)))⟩)
        go_region
        all_goals go_wp2_with fail
        all_goals go_ret
        all_goals rw [unhide HPl, if_pos (unhide HQ)]
        all_goals exact ⟨rfl, SlC.mk ao' cp ys, _, ls0, (unhide HDf).1, by rw [unhide HYs], (unhide HDf).2, by rw [unhide HLs]; simp; omega⟩
  · have hq1 : (((al.length : Nat) : Int) != ((l.length : Nat) : Int)) = true := by rw [bne_iff_ne]; omega
    have HQ := hide (show (if l.length = al.length then (PRes.ok ⟨layAt idx l ol, awayOf ls0⟩ f) else .err 11) = .err 11 from if_neg hq)
    clear hq
    go_wp2_with fail
    go_ret
    rw [unhide HPl, unhide HQ]
    exact ⟨rfl, by decide, av, Fc.of_below (unhide HB2)⟩
theorem ffull_any {fb rb m n:Nat} {v:Value} {xs:List RC} {ss:List St} {w:World} (h:FlIs w fb rb m n v xs ss) :
  Calls Tryz.prog 123 #[.pointer (some ⟨fb,0,none⟩)] w fun e w'=>e = .returned (.bool (decide (m < n))) ∧ Below w.heap.size w w':=by
 have c1:w.cell? ⟨fb,1,none⟩ = some (.int .i64 (m:Int)):=blk_cell h.blk 1
 have c2:w.cell? ⟨fb,2,none⟩ = some (.int .i64 (n:Int)):=blk_cell h.blk 2
 clear h
 go_enter Tryz.func123,Tryz.ntmps123
 go_wp2_with fail
 go_quiet (fail)
 go_wp2_with fail
 go_ret
 exact ⟨by congr 2,(by repeat (first | exact Below.refl _ _ | refine below_dr ?_ _ | refine Below.drew ?_ | refine Below.setCell ?_ (by simp) _ | refine Below.alloc ?_ (by simp) _))⟩
theorem FlIs.grown {fb rb m n:Nat} {v:Value} {xs:List RC} {ss:List St} {w w1:World} (h:FlIs w fb rb m n v xs ss) {o:Obj} (hg:(w.alloc o).drew.grownBy w1 v.ownBlock):w1.heap[fb]? = some (.cells (flc rb m n v) 132 (0,0)):=by
 have hb:Below w.heap.size w (w.alloc o).drew:=Below.drew ((Below.refl _ _).alloc (Nat.le_refl _) _)
 have hap:v.ownBlock ≠ some fb:=fun e=>by
  obtain ⟨c,hc⟩:=h.row_ty e
  exact absurd (blk_ty hc h.blk) (by decide)
 rw [hg.block fb (Nat.lt_of_lt_of_le (lt_of_block h.blk) hb.size) (fun e=>hap e.symm),hb.block fb (lt_of_block h.blk)]
 exact h.blk
def rdot (k:UInt8):RC:=⟨k,0,0,0,none,0,0,⟨#[]⟩,⟨#[]⟩⟩
set_option maxRecDepth 100000 in
set_option maxHeartbeats 3200000 in
theorem fadd_any {fb rb m n:Nat} {v:Value} {xs:List RC} {ss:List St} {x:RC} {s:St} {w:World} (h:FlIs w fb rb m n v xs ss) (hx:RSt w x s) (hm:m ≤ 100000) (hn:n ≤ m + 1) (hl:ss.length ≤ 1000000) :
  Calls Tryz.prog 150 #[.pointer (some ⟨fb,0,none⟩),RC.value x] w fun e w'=>e = .returned (.tuple #[]) ∧ FlGot fb rb m n v ss [s] w w':=by
 obtain ⟨i0,hi,hz0,hz1,hz2⟩:=info_parts Tryz.infoRPart
 have hxl:xs.length ≤ 1000000:=by rw [h.steps.length];exact hl
 obtain ⟨hk1,hk2⟩:=free_kd hx
 have HX:=hide hx
 have H:=hide h
 have c1:w.cell? ⟨fb,1,none⟩ = some (.int .i64 (m:Int)):=blk_cell h.blk 1
 have c2:w.cell? ⟨fb,2,none⟩ = some (.int .i64 (n:Int)):=blk_cell h.blk 2
 have c3:w.cell? ⟨fb,3,none⟩ = some v:=blk_cell h.blk 3
 have hfz:=lt_of_block h.blk
 clear h hx
 obtain ⟨Kd,P,Q,K,pa,pn,pc,F,G⟩:=x
 rw [show RC.value ⟨Kd,P,Q,K,pa,pn,pc,F,G⟩ = .agg #[.int .u8 (Kd.toNat:Int),.int .i64 P,.int .i64 Q,.int .i64 K,.slice pa pn pc,.string F,.string G] from rfl]
 go_enter Tryz.func150,Tryz.ntmps150
 by_cases hf:m < n
 ·have hf':(m:Int) < (n:Int):=by omega
  go_wp2_with fail
  go_quiet (fail)
  go_wp2_with fail
  refine bodyPost_ret (results_none rfl _ _ _) rfl ?_
  exact ⟨rfl,FlGot.full (unhide H) (below_dr ((Below.refl _ _).alloc (Nat.le_refl _) _) _) hf _⟩
 ·have hf':¬ (m:Int) < (n:Int):=by omega
  have HE:=hide (show lay m [s] n = [s] ∧ after m [s] n = s.next m n from by rw [lay,after,if_neg hf,if_neg hf];exact ⟨rfl,rfl⟩)
  go_wp2_with fail
  go_quiet (fail)
  obtain ⟨w0,hw0⟩:∃ w0,w0 = (w.alloc (.cells #[.int .u8 (Kd.toNat:Int),.int .i64 P,.int .i64 Q,.int .i64 K,.slice pa pn pc,.string F,.string G] 141)).drewN nq:=⟨_,rfl⟩
  rw [← hw0]
  have hb0:Below w.heap.size w w0:=by rw [hw0];exact below_dr ((Below.refl _ _).alloc (Nat.le_refl _) _) _
  have hbx0:w0.heap[w.heap.size]? = some (.cells #[.int .u8 (Kd.toNat:Int),.int .i64 P,.int .i64 Q,.int .i64 K,.slice pa pn pc,.string F,.string G] 141 (0,0)):=by rw [hw0];exact heap_alloc_new _ _
  have h0:=(unhide H).below hb0
  have c3:w0.cell? ⟨fb,3,none⟩ = some v:=blk_cell h0.blk 3
  have d0:∀ i,w0.cell? ⟨w.heap.size,i,none⟩ = (#[.int .u8 (Kd.toNat:Int),.int .i64 P,.int .i64 Q,.int .i64 K,.slice pa pn pc,.string F,.string G]:Array Value)[i]?:=fun i=>blk_cell hbx0 i
  have hfr:∀ i,w0.frozen? ⟨fb,i,none⟩ = false:=fun i=>blk_free h0.blk i
  have HX0:=hide ((unhide HX).keeps (fun k _ hk=>hb0.block k (lt_of_block hk)))
  have hlt0:=lt_of_block hbx0
  have hfz0:=lt_of_block h0.blk
  have HB0:=hide hb0
  have HBx:=hide hbx0
  have H0:=hide h0
  clear hb0 hbx0 h0 c1 c2 hw0
  go_upto_region 2 with fail
  go_cut [] (fun wx=>∃ v',FlIs wx fb rb m n v' (xs ++ [⟨Kd,P,Q,K,pa,pn,pc,F,G⟩]) (ss ++ [s]) ∧ Fc fb v w0 v' wx)
  case first=>
   go_region_law (refine step_append_own rfl (.tmp 18) (.tmp 20) 130 rfl 0 141 i0 _ 7 88 Tryz.underlying130 hi hz0 hz1 hz2 rfl (by decide) v xs.length (rrow xs) (by simp [Act.eval]) (by first | exact ((unhide H0).own.alloc _).drew | exact (unhide H0).own.drew.alloc _) ⟨w0.heap.size,0,none⟩ 1 1 (RC.cells ⟨Kd,P,Q,K,pa,pn,pc,F,G⟩) (by simp [Act.eval]) rfl (by exact news_alloc w0 (RC.cells ⟨Kd,P,Q,K,pa,pn,pc,F,G⟩) 141) (one_rcells _) (by unfold maxLen;omega) (by omega) (by simp) ?_;intro v' w3 hown3 hgr3 hnn3 hwh3;obtain ⟨g',cap',rfl⟩:=owns_some hown3 (fun e=>absurd (hnn3.1 e).2 (by decide));have hc3:w3.cell? ⟨fb,3,none⟩ = some v:=blk_cell ((unhide H0).grown hgr3) 3;have hf3:∀ i,w3.frozen? ⟨fb,i,none⟩ = false:=fun i=>blk_free ((unhide H0).grown hgr3) i)
   all_goals go_wp2_with fail
   all_goals go_meet
   all_goals exact ⟨_,(unhide H0).put (unhide HX0) (Below.drew ((Below.refl _ _).alloc (Nat.le_refl _) _)) hgr3 hown3 hwh3⟩
  case rest=>
  obtain ⟨v',hs',hch⟩:=hcut
  have hbx:wc.heap[w.heap.size]? = some (.cells #[.int .u8 (Kd.toNat:Int),.int .i64 P,.int .i64 Q,.int .i64 K,.slice pa pn pc,.string F,.string G] 141 (0,0)):=(hch.young (unhide H) hlt0 (Nat.le_refl _)).trans (unhide HBx)
  have d1:∀ i,wc.cell? ⟨w.heap.size,i,none⟩ = (#[.int .u8 (Kd.toNat:Int),.int .i64 P,.int .i64 Q,.int .i64 K,.slice pa pn pc,.string F,.string G]:Array Value)[i]?:=fun i=>blk_cell hbx i
  have e1:wc.cell? ⟨fb,1,none⟩ = some (.int .i64 (m:Int)):=blk_cell hs'.blk 1
  have e2:wc.cell? ⟨fb,2,none⟩ = some (.int .i64 (n:Int)):=blk_cell hs'.blk 2
  have ef:∀ i,wc.frozen? ⟨fb,i,none⟩ = false:=fun i=>blk_free hs'.blk i
  have HS:=hide hs'
  have HC:=hide ((Fc.of_below (fb:=fb) (v:=v) (unhide HB0)).trans hch)
  have hlt1:w.heap.size < wc.heap.size:=lt_of_block hbx
  clear hs' hch hbx c3 d0 hfr
  go_wp2_with fail
  refine (among_any Kd ⟨#[80,73,76]⟩ _ (by decide)).mono ?_
  rintro e w' ⟨rfl,rfl⟩
  rw [show decide (Kd ∈ (⟨#[80,73,76]⟩:ByteArray).data.toList) = s.free from hk1]
  cases s with
  | never=>
   have hk2':((Kd.toNat:Int) == 33) = true:=hk2
   rw [show St.never.free = false from rfl]
   go_wp2_with fail
   go_end0
   exact ⟨rfl,v',_,by rw [(unhide HE).1,(unhide HE).2];exact ((unhide HS).setN (n + 1)).setN (m + 1),((unhide HC).setCell _ _).setCell _ _⟩
  | rest=>
   have hk2':((Kd.toNat:Int) == 33) = false:=hk2
   rw [show St.rest.free = false from rfl]
   go_wp2_with fail
   go_end0
   exact ⟨rfl,v',_,by rw [(unhide HE).1,(unhide HE).2];exact (unhide HS).setN (n + 1),(unhide HC).setCell _ _⟩
  | sp y=>
   have hk2':((Kd.toNat:Int) == 33) = false:=hk2
   rw [show (St.sp y).free = false from rfl]
   go_wp2_with fail
   go_end0
   exact ⟨rfl,v',_,by rw [(unhide HE).1,(unhide HE).2];exact (unhide HS).setN (n + 1),(unhide HC).setCell _ _⟩
  | aside=>
   have hk2':((Kd.toNat:Int) == 33) = false:=hk2
   rw [show St.aside.free = true from rfl]
   go_wp2_with fail
   go_end0
   exact ⟨rfl,v',_,by rw [(unhide HE).1,(unhide HE).2];exact unhide HS,unhide HC⟩
  | fetch=>
   have hk2':((Kd.toNat:Int) == 33) = false:=hk2
   rw [show St.fetch.free = true from rfl]
   go_wp2_with fail
   go_end0
   exact ⟨rfl,v',_,by rw [(unhide HE).1,(unhide HE).2];exact unhide HS,unhide HC⟩
  | home=>
   have hk2':((Kd.toNat:Int) == 33) = false:=hk2
   rw [show St.home.free = true from rfl]
   go_wp2_with fail
   go_end0
   exact ⟨rfl,v',_,by rw [(unhide HE).1,(unhide HE).2];exact unhide HS,unhide HC⟩
end Go.Proofs.YtikiaijgcjjloabGreatDoor

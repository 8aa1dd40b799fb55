import Derived.Test.YtikiaijgcjjloabGreatDoorPart29

namespace Go.Proofs.YtikiaijgcjjloabGreatDoor
open Go Go.RowKit M T Go.Lib
theorem nrow_set:∀ (l:List Rat) (q:Nat) (z:Rat),((nrow l).set (q * 2) (.int .i64 z.num)).set (q * 2 + 1) (.int .i64 (z.den:Int)) = nrow (l.set q z)
 | [],q,z=>rfl
 | x :: l,0,z=>rfl
 | x :: l,q + 1,z=>by
  have e:nrow (x :: l) = .int .i64 x.num :: .int .i64 (x.den:Int) :: nrow l:=rfl
  rw [e,show (q + 1) * 2 = q * 2 + 1 + 1 by omega,List.set_cons_succ,List.set_cons_succ,List.set_cons_succ,List.set_cons_succ,nrow_set l q z,List.set_cons_succ]
  rfl
theorem lay_step (ps:List Nat) (ys xs:List Rat) (hn:ps.Nodup) (hl:∀ i ∈ ps,i < xs.length) (i:Nat) (hi:i < ps.length) (hy:i < ys.length):layAt (ps.take (i + 1)) (ys.take (i + 1)) xs = (layAt (ps.take i) (ys.take i) xs).set ps[i] ys[i]:=by
 have hsub:∀ k,k ∈ ps.take i → k < xs.length:=fun k hk=>hl k (List.mem_of_mem_take hk)
 have hsub2:∀ k,k ∈ ps.take (i + 1) → k < xs.length:=fun k hk=>hl k (List.mem_of_mem_take hk)
 have hn1:(ps.take i).Nodup:=hn.sublist (List.take_sublist _ _)
 have hn2:(ps.take (i + 1)).Nodup:=hn.sublist (List.take_sublist _ _)
 refine getD_ext (by rw [List.length_set,layAt_length,layAt_length]) (fun j hj=>?_)
 rw [layAt_length] at hj
 have hset:((layAt (ps.take i) (ys.take i) xs).set ps[i] ys[i]).getD j 0 = if ps[i] = j then ys[i] else (layAt (ps.take i) (ys.take i) xs).getD j 0:=by
  rw [List.getD_eq_getElem?_getD,List.getElem?_set,List.getD_eq_getElem?_getD]
  split
  ·rename_i h
   rw [if_pos (by rw [layAt_length,h];exact hj)]
   rfl
  ·rfl
 rw [hset]
 by_cases hm:j ∈ ps.take (i + 1)
 ·obtain ⟨k,hk,rfl⟩:=List.mem_iff_getElem.1 hm
  have hkl:k < i + 1:=by rw [List.length_take] at hk;omega
  rw [layAt_at _ _ _ hn2 hsub2 k hk (by rw [List.length_take];omega),List.getElem_take,List.getElem_take]
  by_cases hki:k = i
  ·subst hki
   rw [if_pos rfl]
  ·have hne:ps[i] ≠ ps[k]:=fun e=>hki ((List.getElem_inj hn).1 e.symm)
   rw [if_neg hne]
   have hk1:k < (ps.take i).length:=by rw [List.length_take];omega
   have:=layAt_at (ps.take i) (ys.take i) xs hn1 hsub k hk1 (by rw [List.length_take];omega)
   rw [List.getElem_take,List.getElem_take] at this
   exact this.symm
 ·have hne:ps[i] ≠ j:=fun e=>hm (by rw [← e,List.take_succ_eq_append_getElem hi];exact List.mem_append_right _ (List.mem_singleton.2 rfl))
  rw [if_neg hne,layAt_other _ _ _ j hj hm,layAt_other _ _ _ j hj (fun h=>hm (by rw [List.take_succ_eq_append_getElem hi];exact List.mem_append_left _ h))]
theorem lay_none (xs:List Rat):layAt [] [] xs = xs:=getD_ext (layAt_length _ _ _) (fun j hj=>by rw [layAt_length] at hj;exact layAt_other _ _ _ j hj (by simp))
structure LayIs (w0:World) (g cp n:Nat) (l:List Rat) (wr:World):Prop where
 own:wr.ownsRow w0.heap.size 80 2 (.slice (some ⟨g,0,none⟩) n cp) n (nrow l)
 bel:Below w0.heap.size w0 wr
theorem LayIs.put {w0 wr:World} {g cp n:Nat} {l:List Rat} (h:LayIs w0 g cp n l wr) (q:Nat) (z:Rat):LayIs w0 g cp n (l.set q z) ((wr.setCell ⟨g,q * 2,none⟩ (.int .i64 z.num)).setCell ⟨g,q * 2 + 1,none⟩ (.int .i64 (z.den:Int))):=by
 have h1:=h.own.stored (q * 2) (.int .i64 z.num)
 have h2:=h1.1.stored (q * 2 + 1) (.int .i64 (z.den:Int))
 have hg:w0.heap.size ≤ g:=(h.own.lt g rfl).1
 exact ⟨by rw [← nrow_set];exact h2.1,(h.bel.setCell hg _).setCell hg _⟩
def layE (ps:List Nat) (ys xs:List Rat):Except Int (List Rat):=if ys.length = ps.length then .ok (layAt ps ys xs) else .error 11
set_option maxRecDepth 100000 in
set_option maxHeartbeats 1600000 in
theorem layInto_any {g cap gy cy:Nat} {xs ys:List Rat} {w:World} (h:LIs w g cap xs) (hys:LIs w gy cy ys) {pa:Option Addr} {pc:Nat} {ps:List Nat} (hp:w.ownsRow 0 3 1 (.slice pa ps.length pc) ps.length (irowP ps)) (hnd:ps.Nodup) (hpb:∀ i ∈ ps,i < xs.length) (hpl:ps.length ≤ 1000) :
  Calls Tryz.prog 163 #[.slice (some ⟨g,0,none⟩) xs.length cap,.slice pa ps.length pc,.slice (some ⟨gy,0,none⟩) ys.length cy] w fun e w'=>LGot w.heap.size (layE ps ys xs) e w' ∧ Below w.heap.size w w':=by
 obtain ⟨i0,hi0,hz0,hz1,hz2⟩:=info_parts Tryz.infoNumber
 have hlen:=h.len
 have hylen:=hys.len
 have hgy:=hys.lt
 have HM:=hide (MkIs.start w)
 have HNw:=hide (nrow_get (h.below ((Below.refl _ _).alloc (Nat.le_refl _) (.cells #[] 80))) (a:=0) xs (fun j hj=>by rw [Nat.zero_add]))
 have HLen:=hide (nrow_length xs)
 have HA:=hide h.small
 have HAy:=hide hys.small
 have HY:=hide hys
 have HPc:=hide (fun hpos=>places_cells hp hpos)
 have HNd:=hide hnd
 have HPb:=hide hpb
 clear h hys hp hnd hpb
 by_cases hl:ys.length = ps.length
 ·have hl':((ys.length:Int) != (ps.length:Int)) = false:=by rw [hl];simp
  have HLq:=hide hl
  clear hl
  go_enter Tryz.func163,Tryz.ntmps163
  go_upto_region 3 with fail
  go_cut [8] (fun v8 wx=>∃ g4 cp4,v8 = .slice (some ⟨g4,0,none⟩) xs.length cp4 ∧ LayIs w g4 cp4 xs.length xs wx)
  case first=>
   by_cases h0:xs.length = 0
   ·obtain rfl:xs = []:=List.eq_nil_of_length_eq_zero h0
    clear h0
    go_wp2_with fail
    go_meet
    have hm:=unhide HM
    exact ⟨w.heap.size,0,rfl,hm.own,hm.bel⟩
   ·go_wp2_with (at_builtin;refine wpList_append_own _ rfl _ _ 59 rfl w.heap.size 80 i0 _ 2 16 Tryz.underlying59 hi0 hz0 hz1 hz2 rfl (by decide) _ _ _ rfl (unhide HM).own ⟨g,0,none⟩ xs.length cap (nrow xs) rfl (unhide HLen) (unhide HNw) (one_nrow _) (by unfold maxLen;simp;omega) (by simp;omega) (by simp) ?_)
    intro v' w4 hown4 hgr4 hnn
    obtain ⟨g4,cp4,rfl⟩:∃ g4 cp4,v' = .slice (some ⟨g4,0,none⟩) xs.length cp4:=owns_some hown4 hnn
    have hown5:w4.ownsRow w.heap.size 80 2 (.slice (some ⟨g4,0,none⟩) xs.length cp4) xs.length (nrow xs):=hown4
    have HO:=hide hown5
    have hb4:=(unhide HM).grow hgr4
    have HB4:=hide hb4
    clear hown4 hgr4 hnn hown5 hb4
    go_wp2_with fail
    go_meet
    exact ⟨g4,cp4,rfl,unhide HO,unhide HB4⟩
  case rest=>
   obtain ⟨g4,cp4,rfl,hlay⟩:=hcut
   have HLay:=hide hlay
   clear hlay
   go_wp2_with fail
   go_loopg [21] ps.length (fun kk v21 wr=>∃ (i:Nat),kk = ps.length - i ∧ i ≤ ps.length ∧ v21 = .int .i64 (i:Int) ∧ LayIs w g4 cp4 xs.length (layAt (ps.take i) (ys.take i) xs) wr)
   case atStart=>exact ⟨0,rfl,Nat.zero_le _,rfl,by rw [List.take_zero,List.take_zero,lay_none];exact unhide HLay⟩
   case round=>
    obtain ⟨i,hk,hi,rfl,hm⟩:=hrel
    have HK:=hide hk
    have HMi:=hide hm
    clear hk
    by_cases hlt:i < ps.length
    ·have hlt':(i:Int) < (ps.length:Int):=by omega
     have hly:i < ys.length:=by rw [unhide HLq];exact hlt
     have hly':(i:Int) < (ys.length:Int):=by omega
     obtain ⟨gp,rfl,hgp,hcp⟩:=unhide HPc (by omega)
     have hc0:=hcp i hlt
     have hgr:∀ (b o:Nat),b < w.heap.size → wr.cell? ⟨b,o,none⟩ = w.cell? ⟨b,o,none⟩:=fun b o hb=>hm.bel.cell (p:=⟨b,o,none⟩) hb
     rw [← hgr gp i hgp] at hc0
     obtain ⟨d0,d1⟩:=(unhide HY).cell hly
     rw [← hgr gy _ hgy] at d0 d1
     have hq:=unhide HPb ps[i] (List.getElem_mem hlt)
     have HSt:=hide (lay_step ps ys xs (unhide HNd) (unhide HPb) i hlt hly)
     have HPut:=hide (hm.put ps[i] ys[i])
     have fz:∀ j,wr.frozen? ⟨g4,j,none⟩ = false:=fun j=>hm.own.frozenAt j
     have hll:(layAt (ps.take i) (ys.take i) xs).length = xs.length:=layAt_length _ _ _
     have hm':wr.ownsRow w.heap.size 80 2 (.slice (some ⟨g4,0,none⟩) xs.length cp4) (layAt (ps.take i) (ys.take i) xs).length (nrow (layAt (ps.take i) (ys.take i) xs)):=by rw [hll];exact hm.own
     obtain ⟨old,e0,e1⟩:∃ old:Rat,wr.cell? ⟨g4,ps[i] * 2,none⟩ = some (.int .i64 old.num) ∧ wr.cell? ⟨g4,ps[i] * 2 + 1,none⟩ = some (.int .i64 (old.den:Int)):=⟨_,nrow_cell hm' (j:=ps[i]) (by rw [hll];exact hq)⟩
     clear hcp hgr hm hm' hll
     generalize ps[i] = q at hc0 hq HSt HPut e0 e1
     generalize ys[i] = z at d0 d1 HSt HPut
     have hq1:¬ (q:Int) < 0:=by omega
     have hq2:¬ (xs.length:Int) ≤ (q:Int):=by omega
     have hq3:(q:Int) < (xs.length:Int):=by omega
     go_wp2_with fail
     go_roundg (ps.length - (i + 1))
     case measure=>rw [unhide HK];omega
     case rel=>exact ⟨i + 1,rfl,by omega,rfl,by rw [unhide HSt];exact unhide HPut⟩
    ·have hlt':¬ (i:Int) < (ps.length:Int):=by omega
     obtain rfl:i = ps.length:=by omega
     have HR:=hide (show layE ps ys xs = .ok (layAt ps ys xs) from if_pos (unhide HLq))
     have HO:=hide (show wr.ownsRow w.heap.size 80 2 (.slice (some ⟨g4,0,none⟩) (layAt ps ys xs).length cp4) (layAt ps ys xs).length (nrow (layAt ps ys xs)) by
      have:=hm.own
      rw [show ps.take ps.length = ps from List.take_length,show ys.take ps.length = ys from List.take_of_length_le (by rw [unhide HLq];exact Nat.le_refl _)] at this
      rw [layAt_length]
      exact this)
     have hll:(layAt ps ys xs).length = xs.length:=layAt_length _ _ _
     clear hm
     go_wp2_with fail
     exact bodyPost_ret (v:=.tuple #[.slice (some ⟨g4,0,none⟩) xs.length cp4,.int .i64 0]) (by simp [results,Tryz.results163,go_sem]) rfl ⟨Or.inl ⟨_,g4,cp4,unhide HR,layS (unhide HA) (unhide HAy),by rw [hll],unhide HO⟩,(unhide HMi).bel⟩
 ·have hl':((ys.length:Int) != (ps.length:Int)) = true:=by rw [bne_iff_ne];omega
  have HR:=hide (show layE ps ys xs = .error 11 from if_neg hl)
  go_enter Tryz.func163,Tryz.ntmps163
  go_wp2_with fail
  exact bodyPost_ret (v:=.tuple #[.slice none 0 0,.int .i64 11]) (by simp [results,Tryz.results163,go_sem]) rfl ⟨Or.inr ⟨11,unhide HR,by decide,rfl⟩,Below.refl _ _⟩
end Go.Proofs.YtikiaijgcjjloabGreatDoor

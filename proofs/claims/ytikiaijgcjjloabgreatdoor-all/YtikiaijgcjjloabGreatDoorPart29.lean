import Derived.Test.YtikiaijgcjjloabGreatDoorPart28
import Derived.Test.YtikiaijgcjjloabGreatDoorPart25

namespace Go.Proofs.YtikiaijgcjjloabGreatDoor
open Go Go.RowKit M T Go.Lib
theorem MkIs.set {w0 wr:World} {g' n cp:Nat} {ys:List Rat} (h:MkIs w0 (.slice (some ⟨g',0,none⟩) n cp) ys wr) {k:Nat} (hk:w0.heap.size ≤ k) (hn:k ≠ g') (o:Nat) (u:Value):MkIs w0 (.slice (some ⟨g',0,none⟩) n cp) ys (wr.setCell ⟨k,o,none⟩ u):=by
 refine ⟨⟨h.own.1,?_⟩,h.bel.setCell (p:=⟨k,o,none⟩) hk u⟩
 rcases h.own.2 with h2 | ⟨g,cap,cur,hv,hg,hh,r⟩
 ·exact Or.inl h2
 ·refine Or.inr ⟨g,cap,cur,hv,hg,?_,r⟩
  obtain ⟨e,_,_⟩:=Value.slice.inj hv
  have e':g' = g:=congrArg Addr.block (Option.some.inj e)
  rw [Below.heap_setCell _ _ _ _ (by show g ≠ k;omega)]
  exact hh
theorem join_step {cc:Int} {J:Rat → Rat → Rat → Except Int Rat} (hJ:∀ (o n x:Rat) (w:World),small o = true → small n = true → small x = true → Calls Tryz.prog 181 #[qv o,qv n,qv x,.int .u8 cc] w fun e w'=>QGot (J o n x) e ∧ Below w.heap.size w w')
  {w0 wr:World} {g' m cp':Nat} {ys:List Rat} (hm:MkIs w0 (.slice (some ⟨g',0,none⟩) m cp') ys wr) {o n x:Rat} (ho:small o = true) (hn:small n = true) (hx:small x = true) (wx:World) (hb0:Below wr.heap.size wr wx) (hh:wx.heap[wr.heap.size]? = some (.cells #[.int .i64 x.num,.int .i64 (x.den:Int)] 80 (0,0))) :
  Calls Tryz.prog 181 #[.agg #[.int .i64 o.num,.int .i64 (o.den:Int)],.agg #[.int .i64 n.num,.int .i64 (n.den:Int)],.agg #[.int .i64 x.num,.int .i64 (x.den:Int)],.int .u8 cc] wx fun e w'=>∃ p q c,e = .returned (.tuple #[.agg #[.int .i64 p,.int .i64 q],.int .i64 c]) ∧ QFlat (J o n x) p q c ∧ (∀ b k,b < wr.heap.size → w'.cell? ⟨b,k,none⟩ = wr.cell? ⟨b,k,none⟩) ∧ w'.heap[wr.heap.size]? = some (.cells #[.int .i64 x.num,.int .i64 (x.den:Int)] 80 (0,0)) ∧ MkIs w0 (.slice (some ⟨g',0,none⟩) m cp') ys w' ∧ Below wx.heap.size wx w':=by
 refine (hJ o n x _ ho hn hx).mono ?_
 rintro e w' ⟨hq,hb⟩
 obtain ⟨p,q,c,rfl,hf⟩:=hq.flat
 have hbb:=hb0.trans (hb.mono hb0.size)
 exact ⟨p,q,c,rfl,hf,fun b k hbk=>hbb.cell (p:=⟨b,k,none⟩) hbk,res_at hh hb,hm.below hbb,hb⟩
theorem box_two (w:World) (c d:Array Value) (t:TypeId):((w.alloc (.cells c t)).alloc (.cells d t)).drew.heap[w.heap.size]? = some (.cells c t (0,0)):=by
 show ((w.alloc (.cells c t)).alloc (.cells d t)).heap[w.heap.size]? = _
 rw [Below.heap_alloc _ _ _ (by simp)]
 exact heap_alloc_new w _
theorem new_at2P (w:World) (o o':Obj):((w.alloc o).alloc o').heap[w.heap.size + 1]? = some o':=by
 have:=heap_alloc_new (w.alloc o) o'
 rw [World.size_alloc] at this
 exact this
theorem box_two' (w:World) (c d:Array Value) (t:TypeId):((w.alloc (.cells c t)).alloc (.cells d t)).drew.heap[w.heap.size + 1]? = some (.cells d t (0,0)):=new_at2P w _ _
def joinR (cc:Int) (J:Rat → Rat → Rat → Except Int Rat) (l:List Rat):Except Int (List Rat):=if (decide (cc = 109) && zeroAhead l) = true then .error 2 else joinL J l
set_option maxRecDepth 100000 in
set_option maxHeartbeats 3200000 in
theorem join_any {cc:Int} {J:Rat → Rat → Rat → Except Int Rat} (hJ:∀ (o n x:Rat) (w:World),small o = true → small n = true → small x = true → Calls Tryz.prog 181 #[qv o,qv n,qv x,.int .u8 cc] w fun e w'=>QGot (J o n x) e ∧ Below w.heap.size w w')
  {g cap:Nat} {xs:List Rat} {w:World} (h:LIs w g cap xs) :
  Calls Tryz.prog 168 #[.slice (some ⟨g,0,none⟩) xs.length cap,.int .u8 cc] w fun e w'=>LGot w.heap.size (joinR cc J xs) e w' ∧ Below w.heap.size w w':=by
 obtain ⟨i0,hi0,hz0,hz1,hz2⟩:=info_parts Tryz.infoNumber
 have HL:=hide h
 have HJ:=hide hJ
 have hlen:=h.len
 have HR:=hide (show joinR cc J xs = if (decide (cc = 109) && zeroAhead xs) = true then .error 2 else joinL J xs from rfl)
 clear h hJ
 generalize joinR cc J xs = r at HR ⊢
 go_enter Tryz.func168,Tryz.ntmps168
 go_upto_region 1 with fail
 go_cut [16] (fun v16 wx=>v16 = .bool (decide (cc = 109) && zeroAhead xs) ∧ Below w.heap.size w wx)
 case first=>
  by_cases hm:cc = 109
  ·have q:(cc == 109) = true:=by rw [hm];rfl
   have HQ:=hide (show (decide (cc = 109) && zeroAhead xs) = zeroAhead xs by rw [decide_eq_true hm,Bool.true_and])
   clear hm
   go_wp2_with fail
   refine (hasZero_any (unhide HL)).mono ?_
   rintro e w1 ⟨rfl,hb1⟩
   go_wp2_with fail
   go_meet
   exact ⟨by rw [unhide HQ],hb1⟩
  ·have q:(cc == 109) = false:=by rw [beq_eq_false_iff_ne];exact hm
   have HQ:=hide (show (decide (cc = 109) && zeroAhead xs) = false by rw [decide_eq_false hm,Bool.false_and])
   clear hm
   go_wp2_with fail
   go_meet
   exact ⟨by rw [unhide HQ],Below.refl _ _⟩
 case rest=>
 obtain ⟨rfl,hbc⟩:=hcut
 obtain ⟨wk,hwk⟩:∃ wk,wk = wc:=⟨_,rfl⟩
 subst hwk
 have HBc:=hide hbc
 have HLc:=hide ((unhide HL).below hbc)
 have hg:=(unhide HLc).lt
 clear hbc
 cases hz:(decide (cc = 109) && zeroAhead xs) with
 | true=>
  have HE:=hide (show r = .error 2 by rw [unhide HR,hz];rfl)
  clear hz
  go_wp2_with fail
  exact bodyPost_ret (v:=.tuple #[.slice none 0 0,.int .i64 2]) (by simp [results,Tryz.results168,go_sem]) rfl ⟨Or.inr ⟨2,unhide HE,by decide,rfl⟩,unhide HBc⟩
 | false=>
  have HE:=hide (show r = joinL J xs by rw [unhide HR,hz];rfl)
  clear hz
  go_wp2_with fail
  go_loopg [6,20] xs.length (fun kk v6 v20 wr=>∃ (i:Nat) (ys:List Rat) (g' cp':Nat),kk = xs.length - i ∧ i ≤ xs.length ∧ v20 = .int .i64 (i:Int) ∧ v6 = .slice (some ⟨g',0,none⟩) ys.length cp' ∧ joinL J (xs.take i) = .ok ys ∧ AllS ys ∧ MkIs wk (.slice (some ⟨g',0,none⟩) ys.length cp') ys wr)
  case atStart=>exact ⟨0,[],wk.heap.size,0,rfl,Nat.zero_le _,rfl,rfl,rfl,fun _ h=>by (cases h),MkIs.start wk⟩
  case round=>
   obtain ⟨i,ys,g',cp',hk,hi,rfl,rfl,he,ha,hm⟩:=hrel
   have HK:=hide hk
   have HJl:=hide he
   have HA:=hide ha
   have HM:=hide hm
   have hyl:=joinL_len he
   rw [List.length_take] at hyl
   have hyb:ys.length ≤ 1000:=by omega
   have HYl:=hide (show i ≤ xs.length → ys.length = i by omega)
   have hg':g' < wr.heap.size:=(hm.own.lt g' rfl).2
   have hgg:=hm.bel.size
   have hgw:g < wr.heap.size:=by omega
   clear hk he ha hyl
   by_cases hlt:i < xs.length
   ·have hlt':(i:Int) < (xs.length:Int):=by omega
    obtain ⟨d0,d1⟩:=(unhide HLc).cell hlt
    have hgr:∀ o,wr.cell? ⟨g,o,none⟩ = wk.cell? ⟨g,o,none⟩:=fun o=>hm.bel.cell (p:=⟨g,o,none⟩) hg
    rw [← hgr] at d0 d1
    cases i with
    | zero=>
     obtain rfl:ys = []:=List.eq_nil_of_length_eq_zero (unhide HYl (by omega))
     have HX:=hide ((unhide HLc).small xs[0] (List.getElem_mem hlt))
     have HF:=hide (joinL_first (J:=J) hlt)
     have HM2:=hide ((hm.below ((Below.refl _ _).alloc (Nat.le_refl _) (.cells (qcells xs[0]).toArray 80))).below ((Below.refl _ _).alloc (Nat.le_refl _) (.cells (qcells xs[0]).toArray 80)))
     clear hgr hm
     generalize xs[0] = x at d0 d1 HX HF HM2
     go_wp2_with (at_builtin;refine wpList_append_own _ rfl _ _ 59 rfl wk.heap.size 80 i0 _ 2 16 Tryz.underlying59 hi0 hz0 hz1 hz2 rfl (by decide) _ _ _ rfl (unhide HM2).own ⟨wr.heap.size + 1,0,none⟩ 1 1 (qcells x) rfl rfl (nnews_at (by simp) _ _) (one_qcells _) (by unfold maxLen;simp) (by simp) (by simp;omega) ?_)
     intro v' w4 hown4 hgr4 _
     have hm4:=(unhide HM2).more hown4 hgr4
     obtain ⟨g4,cp4,rfl⟩:=hm4.shape (by simp)
     have HM4:=hide hm4
     clear hown4 hgr4 hm4
     go_wp2_with fail
     go_roundg (xs.length - 1)
     case measure=>rw [unhide HK];omega
     case rel=>exact ⟨1,[x],g4,cp4,rfl,by omega,rfl,rfl,unhide HF,fun q hq=>by rw [List.mem_singleton.1 hq];exact unhide HX,unhide HM4⟩
    | succ j=>
     have hjl:j < xs.length:=by omega
     have hyj:ys.length = j + 1:=unhide HYl (by omega)
     have hjy:j < ys.length:=by omega
     have hjy':(j:Int) < (ys.length:Int):=by omega
     have hjl':(j:Int) < (xs.length:Int):=by omega
     obtain ⟨a0,a1⟩:=(unhide HLc).cell hjl
     rw [← hgr] at a0 a1
     obtain ⟨b0,b1⟩:=nrow_cell hm.own hjy
     have HNx:=hide (joinL_next hlt (unhide HJl) hjy)
     have HSt:=hide (join_step (unhide HJ) hm ((unhide HLc).small xs[j] (List.getElem_mem hjl)) (unhide HA ys[j] (List.getElem_mem hjy)) ((unhide HLc).small xs[j + 1] (List.getElem_mem hlt)))
     clear hgr hm hyj HYl
     generalize xs[j] = o at a0 a1 HNx HSt
     generalize ys[j] = nn at b0 b1 HNx HSt
     generalize xs[j + 1] = x at d0 d1 HNx HSt
     go_upto_region 8 with fail
     obtain ⟨I,hI⟩:∃ I:Int,((j + 1:Nat):Int) = I:=⟨_,rfl⟩
     have hI1:I - 1 = (j:Int):=by omega
     have hI2:(0:Int) < I:=by omega
     have hI4:IntKind.i64.wrap (j:Int) = (j:Int):=by rw [IntKind.wrap_i64];omega
     have hI5:IntKind.i64.wrap (I - 1) = (j:Int):=by rw [IntKind.wrap_i64];omega
     have hI6:(0:Int) ≤ (j:Int):=by omega
     have hI3:I ≤ 1000:=by omega
     rw [hI] at hlt' ⊢
     have HI:=hide hI
     clear hI
     have hn1:g ≠ wr.heap.size + 1:=by omega
     have hn2:g' ≠ wr.heap.size + 1:=by omega
     have hn3:wr.heap.size + 1 ≠ g:=by omega
     have hn4:wr.heap.size + 1 ≠ g':=by omega
     go_cut [9,10] (fun v9 v10 wx=>∃ p q c k,v9 = .pointer (some ⟨k,0,none⟩) ∧ v10 = .int .i64 c ∧ QFlat (J o nn x) p q c ∧ wr.heap.size < k ∧ wx.heap[k]? = some (.cells #[.int .i64 p,.int .i64 q] 80 (0,0)) ∧ wx.heap[wr.heap.size]? = some (.cells #[.int .i64 x.num,.int .i64 (x.den:Int)] 80 (0,0)) ∧ MkIs wk (.slice (some ⟨g',0,none⟩) ys.length cp') ys wx)
     case first=>
      go_region_held3 (fun w'=>w'.cell? ⟨g,j * 2,none⟩ = some (.int .i64 o.num) ∧ w'.cell? ⟨g,j * 2 + 1,none⟩ = some (.int .i64 (o.den:Int)) ∧ w'.cell? ⟨g',j * 2,none⟩ = some (.int .i64 nn.num) ∧ w'.cell? ⟨g',j * 2 + 1,none⟩ = some (.int .i64 (nn.den:Int)) ∧ w'.cell? ⟨wr.heap.size,0,none⟩ = some (.int .i64 x.num) ∧ w'.cell? ⟨wr.heap.size,1,none⟩ = some (.int .i64 (x.den:Int))) (go_keep)
       (first | (go_at_call 181;refine (unhide HSt ((wr.alloc (.cells #[.int .i64 x.num,.int .i64 (x.den:Int)] 80)).alloc (.cells #[.int .i64 0,.int .i64 0] 80)).drew (Below.drew (((Below.refl _ _).alloc (Nat.le_refl _) _).alloc (by simp) _)) (box_two wr _ _ _)).mono ?_;rintro e w' ⟨p,q,c,rfl,hfl,hcs,hbx,hmk,hbw⟩;have e0:=(hcs g (j * 2) hgw).trans a0;have e1:=(hcs g (j * 2 + 1) hgw).trans a1;have e2:=(hcs g' (j * 2) hg').trans b0;have e3:=(hcs g' (j * 2 + 1) hg').trans b1;have e4:∀ i,w'.cell? ⟨wr.heap.size,i,none⟩ = (#[.int .i64 x.num,.int .i64 (x.den:Int)]:Array Value)[i]?:=fun i=>blk_cell hbx i;have hl1:=lt_of_block hbx;have hb5:=res_at (box_two' wr _ _ _) hbw;have e5:∀ i,w'.cell? ⟨wr.heap.size + 1,i,none⟩ = (#[.int .i64 0,.int .i64 0]:Array Value)[i]?:=fun i=>blk_cell hb5 i;have e6:∀ i,w'.frozen? ⟨wr.heap.size + 1,i,none⟩ = false:=fun i=>blk_free hb5 i;have HFl:=hide hfl;have HMk:=hide hmk;have HBx:=hide hbx;have HB5:=hide hb5;clear hfl hmk hbw hcs hbx hb5) | (go_at_call 181;refine (unhide HSt (wr.alloc (.cells #[.int .i64 x.num,.int .i64 (x.den:Int)] 80)).drew (Below.drew ((Below.refl _ _).alloc (Nat.le_refl _) _)) (heap_alloc_new wr _)).mono ?_;rintro e w' ⟨p,q,c,rfl,hfl,hcs,hbx,hmk,hbw⟩;have e0:=(hcs g (j * 2) hgw).trans a0;have e1:=(hcs g (j * 2 + 1) hgw).trans a1;have e2:=(hcs g' (j * 2) hg').trans b0;have e3:=(hcs g' (j * 2 + 1) hg').trans b1;have e4:∀ i,w'.cell? ⟨wr.heap.size,i,none⟩ = (#[.int .i64 x.num,.int .i64 (x.den:Int)]:Array Value)[i]?:=fun i=>blk_cell hbx i;have hl1:=lt_of_block hbx;have HFl:=hide hfl;have HMk:=hide hmk;have HBx:=hide hbx;clear hfl hmk hbw hcs hbx))
      all_goals go_wp2_with fail
      all_goals go_meet
      ·exact ⟨p,q,c,w'.heap.size,rfl,rfl,unhide HFl,hl1,heap_alloc_new w' _,(Below.heap_alloc w' _ _ hl1).trans (unhide HBx),(unhide HMk).below ((Below.refl _ _).alloc (Nat.le_refl _) _)⟩
      ·refine ⟨p,q,c,wr.heap.size + 1,rfl,rfl,unhide HFl,Nat.lt_succ_self _,?_,?_,((unhide HMk).set (by omega) hn4 0 _).set (by omega) hn4 1 _⟩
       ·exact blk_set (blk_set (unhide HB5) 0 _) 1 _
       ·rw [Below.heap_setCell _ _ _ _ (show wr.heap.size ≠ wr.heap.size + 1 by omega),Below.heap_setCell _ _ _ _ (show wr.heap.size ≠ wr.heap.size + 1 by omega)]
        exact unhide HBx
     case rest=>
      obtain ⟨p,q,c,k,rfl,rfl,hfl,hkl,hbk,hbx,hmk⟩:=hcut
      have c0:∀ i,wc.cell? ⟨k,i,none⟩ = (#[.int .i64 p,.int .i64 q]:Array Value)[i]?:=fun i=>blk_cell hbk i
      have c1:∀ i,wc.cell? ⟨wr.heap.size,i,none⟩ = (#[.int .i64 x.num,.int .i64 (x.den:Int)]:Array Value)[i]?:=fun i=>blk_cell hbx i
      have f1:∀ i,wc.frozen? ⟨wr.heap.size,i,none⟩ = false:=fun i=>blk_free hbx i
      have hxl:=lt_of_block hbx
      rcases hfl with ⟨z,hz,hs,rfl,rfl,rfl⟩ | ⟨c',hz,hne,rfl,rfl,rfl⟩
      ·have HZ:=hide ((unhide HNx).1 z hz)
       have HS:=hide hs
       have hm3:=(hmk.set (k:=wr.heap.size) (by omega) (by omega) 0 (.int .i64 z.num)).set (k:=wr.heap.size) (by omega) (by omega) 1 (.int .i64 (z.den:Int))
       have HM3:=hide (hm3.below ((Below.refl _ _).alloc (Nat.le_refl _) (.cells (qcells z).toArray 80)))
       have hsz:=hmk.bel.size
       clear hz hs hm3 hmk hbk hbx
       go_wp2_with (at_builtin;refine wpList_append_own _ rfl _ _ 59 rfl wk.heap.size 80 i0 _ 2 16 Tryz.underlying59 hi0 hz0 hz1 hz2 rfl (by decide) _ _ _ rfl (unhide HM3).own ⟨wc.heap.size,0,none⟩ 1 1 (qcells z) rfl rfl (nnews_at (by simp) _ _) (one_qcells _) (by unfold maxLen;omega) (by omega) (by simp;omega) ?_)
       intro v' w4 hown4 hgr4 _
       have hm4:=(unhide HM3).more hown4 hgr4
       obtain ⟨g4,cp4,rfl⟩:=hm4.shape (by simp)
       have HM4:=hide hm4
       clear hown4 hgr4 hm4
       go_wp2_with fail
       go_roundg (xs.length - (j + 1 + 1))
       case measure=>rw [unhide HK];omega
       case rel=>exact ⟨j + 1 + 1,ys ++ [z],g4,cp4,rfl,by omega,by rw [← unhide HI];rfl,rfl,unhide HZ,allS_one (unhide HA) (unhide HS),unhide HM4⟩
      ·have HZ:=hide (show r = .error c by rw [unhide HE];exact (unhide HNx).2 c hz)
       have hne':(c != 0) = true:=by rw [bne_iff_ne];exact hne
       have HN:=hide hne
       have HMk:=hide hmk
       clear hz hne hmk hbk hbx
       go_wp2_with fail
       exact bodyPost_ret (v:=.tuple #[.slice none 0 0,.int .i64 c]) (by simp [results,Tryz.results168,go_sem]) rfl ⟨Or.inr ⟨c,unhide HZ,unhide HN,rfl⟩,(unhide HBc).trans ((unhide HMk).bel.mono (unhide HBc).size)⟩
   ·have hlt':¬ (i:Int) < (xs.length:Int):=by omega
    have hie:i = xs.length:=by omega
    have HEn:=hide (show r = .ok ys by
     have:=unhide HJl
     rw [hie,List.take_length] at this
     rw [unhide HE,this])
    clear hie
    go_wp2_with fail
    exact bodyPost_ret (v:=.tuple #[.slice (some ⟨g',0,none⟩) ys.length cp',.int .i64 0]) (by simp [results,Tryz.results168,go_sem]) rfl ⟨Or.inl ⟨ys,g',cp',unhide HEn,unhide HA,rfl,owns_base (unhide HM).own (unhide HBc).size⟩,(unhide HBc).trans ((unhide HM).bel.mono (unhide HBc).size)⟩
def fromN (k:Int) (n i:Nat):Nat:=(((i:Int) + k) % (n:Int)).toNat
theorem fromN_lt {k:Int} {n i:Nat} (hn:0 < n):fromN k n i < n:=by
 have h1:=Int.emod_nonneg ((i:Int) + k) (b:=(n:Int)) (by omega)
 have h2:=Int.emod_lt_of_pos ((i:Int) + k) (b:=(n:Int)) (by omega)
 unfold fromN
 omega
theorem rem_twice (a n:Int) (hn:0 < n):(a.tmod n + n).tmod n = a % n:=by
 have h1:=Int.emod_nonneg a (b:=n) (by omega)
 have h2:=Int.emod_lt_of_pos a (b:=n) hn
 rcases Int.lt_or_le a 0 with h | h
 ·by_cases hz:a % n = 0
  ·have:a.tmod n = 0:=by
    rw [Int.tmod_eq_emod,hz]
    have hd:n ∣ a:=Int.dvd_of_emod_eq_zero hz
    simp [hd]
   rw [this,hz,Int.zero_add,Int.tmod_self]
  ·have hd:¬ n ∣ a:=fun hd=>hz (Int.emod_eq_zero_of_dvd hd)
   have:a.tmod n = a % n - n:=by
    rw [Int.tmod_eq_emod,if_neg (by simp [hd];omega)]
    omega
   rw [this,show a % n - n + n = a % n by omega,Int.tmod_eq_emod_of_nonneg h1,Int.emod_eq_of_lt h1 h2]
 ·rw [Int.tmod_eq_emod_of_nonneg h,Int.tmod_eq_emod_of_nonneg (by omega),Int.add_emod_right,Int.emod_emod]
theorem turn_get (k:Int) (l:List Rat) (i:Nat) (hi:i < l.length):(turn k l)[i]? = l[fromN k l.length i]?:=by
 have h1:=Int.emod_nonneg k (b:=(l.length:Int)) (by omega)
 have h2:=Int.emod_lt_of_pos k (b:=(l.length:Int)) (by omega)
 have e0:((i:Int) + k) % (l.length:Int) = ((i:Int) + k % (l.length:Int)) % (l.length:Int):=by rw [Int.add_emod,Int.add_emod (i:Int) (k % _),Int.emod_emod]
 unfold turn fromN
 rw [e0]
 obtain ⟨m,hm⟩:∃ m:Nat,k % (l.length:Int) = (m:Int):=⟨(k % (l.length:Int)).toNat,by omega⟩
 rw [hm] at h2 ⊢
 have hml:m < l.length:=by omega
 rw [show ((m:Nat):Int).toNat = m from rfl]
 by_cases hs:i < l.length - m
 ·rw [List.getElem?_append_left (by rw [List.length_drop];exact hs),List.getElem?_drop,show ((i:Int) + (m:Int)) % (l.length:Int) = ((m + i:Nat):Int) from by rw [Int.emod_eq_of_lt (by omega) (by omega)];omega]
  rfl
 ·rw [List.getElem?_append_right (by rw [List.length_drop];omega),List.length_drop,List.getElem?_take,if_pos (by omega),show ((i:Int) + (m:Int)) % (l.length:Int) = ((i - (l.length - m):Nat):Int) from by
   rw [← Int.sub_emod_right,Int.emod_eq_of_lt (by omega) (by omega)];omega]
  rfl
set_option maxRecDepth 100000 in
set_option maxHeartbeats 1600000 in
theorem shift_any {g cap:Nat} {xs:List Rat} {w:World} (h:LIs w g cap xs) (k:Int) (hk1:-1000 ≤ k) (hk2:k ≤ 1000) :
  Calls Tryz.prog 165 #[.slice (some ⟨g,0,none⟩) xs.length cap,.int .i64 k] w fun e w'=>(∃ g' cap',e = .returned (.slice (some ⟨g',0,none⟩) (turn k xs).length cap') ∧ w'.ownsRow w.heap.size 80 2 (.slice (some ⟨g',0,none⟩) (turn k xs).length cap') (turn k xs).length (nrow (turn k xs))) ∧ Below w.heap.size w w':=by
 obtain ⟨i0,hi0,hz0,hz1,hz2⟩:=info_parts Tryz.infoNumber
 have HL:=hide h
 have hg:=h.lt
 have hlen:=h.len
 clear h
 go_enter Tryz.func165,Tryz.ntmps165
 go_wp2_with fail
 go_loopg [5,7] xs.length (fun kk v5 v7 wr=>∃ (i:Nat) (ys:List Rat) (g' cp':Nat),kk = xs.length - i ∧ i ≤ xs.length ∧ v7 = .int .i64 (i:Int) ∧ v5 = .slice (some ⟨g',0,none⟩) ys.length cp' ∧ ys = (turn k xs).take i ∧ MkIs w (.slice (some ⟨g',0,none⟩) ys.length cp') ys wr)
 case atStart=>exact ⟨0,[],w.heap.size,0,rfl,Nat.zero_le _,rfl,rfl,rfl,MkIs.start w⟩
 case round=>
  obtain ⟨i,ys,g',cp',hk,hi,rfl,rfl,he,hm⟩:=hrel
  have HK:=hide hk
  have HE:=hide he
  have HM:=hide hm
  have hyb:ys.length ≤ 1000:=by rw [he,List.length_take,turn_length];omega
  clear hk he
  by_cases hlt:i < xs.length
  ·have hlt':(i:Int) < (xs.length:Int):=by omega
   have hz:((xs.length:Int) == 0) = false:=by rw [beq_eq_false_iff_ne];omega
   have hfl:fromN k xs.length i < xs.length:=fromN_lt (by omega)
   obtain ⟨d0,d1⟩:=(unhide HL).cell hfl
   have hgr:∀ o,wr.cell? ⟨g,o,none⟩ = w.cell? ⟨g,o,none⟩:=fun o=>hm.bel.cell (p:=⟨g,o,none⟩) hg
   rw [← hgr] at d0 d1
   have htg:=turn_get k xs i hlt
   rw [List.getElem?_eq_getElem hfl] at htg
   obtain ⟨htl,hte⟩:=List.getElem?_eq_some_iff.1 htg
   have HX:=hide (show ys ++ [xs[fromN k xs.length i]] = (turn k xs).take (i + 1) by rw [List.take_succ_eq_append_getElem htl,hte,unhide HE])
   have HM2:=hide (hm.below ((Below.refl _ _).alloc (Nat.le_refl _) (.cells (qcells xs[fromN k xs.length i]).toArray 80)))
   have hsz:=hm.bel.size
   have hr1:(((i:Int) + k).tmod (xs.length:Int) + (xs.length:Int)).tmod (xs.length:Int) = ((fromN k xs.length i:Nat):Int):=by
    rw [rem_twice _ _ (by omega)]
    have h1:=Int.emod_nonneg ((i:Int) + k) (b:=(xs.length:Int)) (by omega)
    unfold fromN
    omega
   have hr2:-1000 ≤ ((i:Int) + k).tmod (xs.length:Int) ∧ ((i:Int) + k).tmod (xs.length:Int) ≤ 1000:=by
    have a1:=Int.tmod_lt_of_pos ((i:Int) + k) (show (0:Int) < (xs.length:Int) by omega)
    have a2:=Int.lt_tmod_of_pos ((i:Int) + k) (show (0:Int) < (xs.length:Int) by omega)
    omega
   clear hgr hm htg htl hte
   generalize xs[fromN k xs.length i] = z at d0 d1 HX HM2
   generalize fromN k xs.length i = q at d0 d1 hfl hr1
   have hq':(q:Int) < (xs.length:Int):=by omega
   go_upto_region 7 with fail
   clear hr1 hr2
   go_wp2_with (at_builtin;refine wpList_append_own _ rfl _ _ 59 rfl w.heap.size 80 i0 _ 2 16 Tryz.underlying59 hi0 hz0 hz1 hz2 rfl (by decide) _ _ _ rfl (unhide HM2).own ⟨wr.heap.size,0,none⟩ 1 1 (qcells z) rfl rfl (nnews_at rfl _ _) (one_qcells _) (by unfold maxLen;omega) (by omega) (by simp;omega) ?_)
   intro v' w4 hown4 hgr4 _
   have hm4:=(unhide HM2).more hown4 hgr4
   obtain ⟨g4,cp4,rfl⟩:=hm4.shape (by simp)
   have HM4:=hide hm4
   clear hown4 hgr4 hm4
   go_wp2_with fail
   go_roundg (xs.length - (i + 1))
   case measure=>rw [unhide HK];omega
   case rel=>exact ⟨i + 1,ys ++ [z],g4,cp4,rfl,by omega,rfl,rfl,unhide HX,unhide HM4⟩
  ·have hlt':¬ (i:Int) < (xs.length:Int):=by omega
   have e:ys = turn k xs:=by rw [unhide HE];exact List.take_of_length_le (by rw [turn_length];omega)
   go_wp2_with fail
   go_ret
   rw [e] at HM
   exact ⟨⟨g',cp',rfl,(unhide HM).own⟩,(unhide HM).bel⟩
def ivP (i:Nat):Value:=.int .i64 (i:Int)
def irowP (ps:List Nat):List Value:=ps.map fun i:Nat=>Value.int .i64 (i:Int)
theorem irowP_snoc (ps:List Nat) (p:Nat):irowP ps ++ [ivP p] = irowP (ps ++ [p]):=by unfold irowP ivP;simp
theorem one_ivP (p:Nat):∀ u ∈ [ivP p],u.oneCell' = true:=by
 intro u hu
 rw [List.mem_singleton.1 hu]
 rfl
structure JkIs (w0:World) (v:Value) (ps:List Nat) (wr:World):Prop where
 own:wr.ownsRow w0.heap.size 3 1 v ps.length (irowP ps)
 bel:Below w0.heap.size w0 wr
theorem JkIs.start (w:World):JkIs w (.slice (some ⟨w.heap.size,0,none⟩) 0 0) [] (w.alloc (.cells #[] 3)):=⟨World.ownsRow_made w #[] 0 (Nat.le_refl _) (Nat.zero_le _) rfl,(Below.refl _ _).alloc (Nat.le_refl _) _⟩
theorem JkIs.below {w0 wr wr':World} {v:Value} {ps:List Nat} (h:JkIs w0 v ps wr) (hb:Below wr.heap.size wr wr'):JkIs w0 v ps wr':=⟨owns_belowP h.own hb,h.bel.trans (hb.mono h.bel.size)⟩
theorem JkIs.more {w0 wr w4:World} {v v':Value} {ps:List Nat} {p:Nat} (h:JkIs w0 v ps wr) (ho:w4.ownsRow w0.heap.size 3 1 v' (ps.length + 1) (irowP ps ++ [ivP p])) (hg:wr.grownBy w4 v.ownBlock):JkIs w0 v' (ps ++ [p]) w4:=by
 refine ⟨by rw [List.length_append,← irowP_snoc];exact ho,⟨hg.os.trans h.bel.os,hg.tape.trans h.bel.tape,hg.output.trans h.bel.output,Nat.le_trans h.bel.size hg.size,fun k hk=>(hg.block k (Nat.lt_of_lt_of_le hk h.bel.size) (fun e=>?_)).trans (h.bel.block k hk)⟩⟩
 have:=(h.own.lt k e.symm).1
 omega
theorem JkIs.shape {w0 wr:World} {v:Value} {ps:List Nat} (h:JkIs w0 v ps wr) (hn:1 ≤ ps.length):∃ g cp,v = .slice (some ⟨g,0,none⟩) ps.length cp:=owns_some h.own (by
 rintro rfl
 have:=owns_len h.own
 omega)
theorem places_cells {w:World} {pa:Option Addr} {pn pc:Nat} {ps:List Nat} (hp:w.ownsRow 0 3 1 (.slice pa pn pc) ps.length (irowP ps)) (hpos:0 < ps.length):∃ gp,pa = some ⟨gp,0,none⟩ ∧ gp < w.heap.size ∧ ∀ j (hj:j < ps.length),w.cell? ⟨gp,j,none⟩ = some (.int .i64 (ps[j]:Int)):=by
 rcases hp.2 with ⟨_,e⟩ | ⟨gp,cp,cur,hv,_,hh,_⟩
 ·omega
 ·obtain ⟨rfl,_,rfl⟩:=Value.slice.inj hv
  refine ⟨gp,rfl,lt_of_block hh,fun j hj=>?_⟩
  have:=hp.cells (g:=gp) rfl j (.int .i64 (ps[j]:Int)) (by rw [irowP,List.getElem?_map,List.getElem?_eq_getElem hj];rfl)
  rw [show (⟨gp,0,none⟩:Addr).add j = ⟨gp,j,none⟩ from by unfold Addr.add;split <;> simp_all] at this
  exact this
def rnat (i:Nat):Rat:=((i:Int):Rat)
theorem rnat_num (i:Nat):(rnat i).num = (i:Int):=rfl
theorem rnat_den (i:Nat):(rnat i).den = 1:=rfl
theorem rnat_small {i:Nat} (h:i ≤ 1000000000):small (rnat i) = true:=by
 unfold small
 rw [decide_eq_true_iff,rnat_num,rnat_den]
 omega
theorem allPlaces_map (n:Nat):allPlaces n = (List.range n).map rnat:=rfl
theorem allPlaces_len (n:Nat):(allPlaces n).length = n:=by simp [allPlaces]
theorem allPlaces_small {n:Nat} (h:n ≤ 1000):AllS (allPlaces n):=by
 intro q hq
 rw [allPlaces_map] at hq
 obtain ⟨i,hi,rfl⟩:=List.mem_map.1 hq
 have:=List.mem_range.1 hi
 exact rnat_small (by omega)
theorem range_snoc (i:Nat):(List.range i).map rnat ++ [rnat i] = (List.range (i + 1)).map rnat:=by rw [List.range_succ,List.map_append];rfl
set_option maxRecDepth 100000 in
set_option maxHeartbeats 800000 in
theorem ofWhole_any (i:Nat) (hi:i ≤ 1000) (w:World):Calls Tryz.prog 185 #[.int .i64 (i:Int)] w fun e w'=>e = .returned (.tuple #[.agg #[.int .i64 (i:Int),.int .i64 1],.int .i64 0]) ∧ Below w.heap.size w w':=by
 have h1:¬ (i:Int) < -1000000000:=by omega
 have h2:¬ (1000000000:Int) < (i:Int):=by omega
 go_enter Tryz.func185,Tryz.ntmps185
 go_wp2_with fail
 exact bodyPost_ret (v:=.tuple #[.agg #[.int .i64 (i:Int),.int .i64 1],.int .i64 0]) (by simp [results,Tryz.results185,go_sem]) rfl ⟨rfl,(by repeat (first | exact Below.refl _ _ | refine below_dr ?_ _ | refine Below.drew ?_ | refine Below.setCell ?_ (by simp) _ | refine Below.alloc ?_ (by simp) _))⟩
set_option maxRecDepth 100000 in
set_option maxHeartbeats 1600000 in
theorem allPlaces_any (n:Nat) (hn:n ≤ 1000) (w:World):Calls Tryz.prog 178 #[.int .i64 (n:Int)] w fun e w'=>(∃ g cap,e = .returned (.tuple #[.slice (some ⟨g,0,none⟩) n cap,.int .i64 0]) ∧ w'.ownsRow w.heap.size 80 2 (.slice (some ⟨g,0,none⟩) n cap) n (nrow (allPlaces n))) ∧ Below w.heap.size w w':=by
 obtain ⟨i0,hi0,hz0,hz1,hz2⟩:=info_parts Tryz.infoNumber
 go_enter Tryz.func178,Tryz.ntmps178
 go_wp2_with fail
 go_loopg [4,5] n (fun kk v4 v5 wr=>∃ (i:Nat) (ys:List Rat) (g' cp':Nat),kk = n - i ∧ i ≤ n ∧ v5 = .int .i64 (i:Int) ∧ v4 = .slice (some ⟨g',0,none⟩) ys.length cp' ∧ ys = allPlaces i ∧ MkIs w (.slice (some ⟨g',0,none⟩) ys.length cp') ys wr)
 case atStart=>exact ⟨0,[],w.heap.size,0,rfl,Nat.zero_le _,rfl,rfl,rfl,MkIs.start w⟩
 case round=>
  obtain ⟨i,ys,g',cp',hk,hi,rfl,rfl,he,hm⟩:=hrel
  have HK:=hide hk
  have HM:=hide hm
  have HE:=hide he
  have hyl:ys.length ≤ 1000:=by rw [he,allPlaces_len];omega
  clear hk hm he
  by_cases hlt:i < n
  ·have hlt':(i:Int) < (n:Int):=by omega
   go_wp2_with fail
   refine (ofWhole_any i (by omega) _).mono ?_
   rintro e w1 ⟨rfl,hb1⟩
   have HM2:=hide (((unhide HM).below hb1).below ((Below.refl _ _).alloc (Nat.le_refl _) (.cells #[.int .i64 (i:Int),.int .i64 1] 80)))
   have HM3:=hide ((unhide HM2).below ((Below.refl _ _).alloc (Nat.le_refl _) (.cells (qcells (rnat i)).toArray 80)))
   have hsz:=((unhide HM).below hb1).bel.size
   clear hb1
   go_wp2_with (at_builtin;refine wpList_append_own _ rfl _ _ 59 rfl w.heap.size 80 i0 _ 2 16 Tryz.underlying59 hi0 hz0 hz1 hz2 rfl (by decide) _ _ _ rfl (unhide HM3).own ⟨w1.heap.size + 1,0,none⟩ 1 1 (qcells (rnat i)) rfl rfl (nnews_at (by simp) _ _) (one_qcells _) (by unfold maxLen;omega) (by omega) (by simp;omega) ?_)
   intro v' w4 hown4 hgr4 _
   have hm4:=(unhide HM3).more hown4 hgr4
   obtain ⟨g4,cp4,rfl⟩:=hm4.shape (by simp)
   have HM4:=hide hm4
   clear hown4 hgr4 hm4
   go_wp2_with fail
   go_roundg (n - (i + 1))
   case measure=>rw [unhide HK];omega
   case rel=>exact ⟨i + 1,ys ++ [rnat i],g4,cp4,rfl,by omega,rfl,rfl,by rw [unhide HE];exact range_snoc i,unhide HM4⟩
  ·have hlt':¬ (i:Int) < (n:Int):=by omega
   obtain rfl:i = n:=by omega
   have HFin:=hide (show wr.ownsRow w.heap.size 80 2 (.slice (some ⟨g',0,none⟩) ys.length cp') i (nrow (allPlaces i)) by
    have:=(unhide HM).own
    rw [unhide HE,allPlaces_len] at this
    rw [unhide HE,allPlaces_len]
    exact this)
   have HLe:=hide (show ys.length = i by rw [unhide HE,allPlaces_len])
   go_wp2_with fail
   exact bodyPost_ret (v:=.tuple #[.slice (some ⟨g',0,none⟩) ys.length cp',.int .i64 0]) (by simp [results,Tryz.results178,go_sem]) rfl ⟨⟨g',cp',by rw [unhide HLe],by have:=unhide HFin;rw [unhide HLe] at this;exact this⟩,(unhide HM).bel⟩
set_option maxRecDepth 100000 in
set_option maxHeartbeats 1600000 in
theorem readPls_any {g cap:Nat} {ps:List Nat} {w:World} (h:LIs w g cap (ps.map rnat)) :
  Calls Tryz.prog 179 #[.slice (some ⟨g,0,none⟩) ps.length cap] w fun e w'=>(∃ gp cp,e = .returned (.tuple #[.slice (some ⟨gp,0,none⟩) ps.length cp,.int .i64 0]) ∧ w'.ownsRow w.heap.size 3 1 (.slice (some ⟨gp,0,none⟩) ps.length cp) ps.length (irowP ps)) ∧ Below w.heap.size w w':=by
 obtain ⟨i0,hi0,hz0,hz1,hz2⟩:=info_parts Tryz.infoInt
 have hlen:ps.length ≤ 1000:=by have:=h.len;rw [List.length_map] at this;exact this
 have hg:=h.lt
 have HL:=hide h
 clear h
 go_enter Tryz.func179,Tryz.ntmps179
 go_wp2_with fail
 go_loopg [4,12] ps.length (fun kk v4 v12 wr=>∃ (i:Nat) (qs:List Nat) (g' cp':Nat),kk = ps.length - i ∧ i ≤ ps.length ∧ v12 = .int .i64 (i:Int) ∧ v4 = .slice (some ⟨g',0,none⟩) qs.length cp' ∧ qs = ps.take i ∧ JkIs w (.slice (some ⟨g',0,none⟩) qs.length cp') qs wr)
 case atStart=>exact ⟨0,[],w.heap.size,0,rfl,Nat.zero_le _,rfl,rfl,rfl,JkIs.start w⟩
 case round=>
  obtain ⟨i,qs,g',cp',hk,hi,rfl,rfl,he,hm⟩:=hrel
  have HK:=hide hk
  have HM:=hide hm
  have HE:=hide he
  have hyl:qs.length ≤ 1000:=by rw [he,List.length_take];omega
  clear he hk
  by_cases hlt:i < ps.length
  ·have hlt':(i:Int) < (ps.length:Int):=by omega
   obtain ⟨d0,d1⟩:=(unhide HL).cell (j:=i) (by rw [List.length_map];exact hlt)
   rw [List.getElem_map,rnat_num] at d0
   rw [List.getElem_map,rnat_den] at d1
   have hgr:∀ (b o:Nat),b < w.heap.size → wr.cell? ⟨b,o,none⟩ = w.cell? ⟨b,o,none⟩:=fun b o hb=>hm.bel.cell (p:=⟨b,o,none⟩) hb
   rw [← hgr g _ hg] at d0 d1
   have hsz:=hm.bel.size
   have d1':wr.cell? ⟨g,i * 2 + 1,none⟩ = some (.int .i64 1):=d1
   have HTk:=hide (show ps.take (i + 1) = ps.take i ++ [ps[i]] from List.take_succ_eq_append_getElem hlt)
   clear hgr hm d1
   generalize ps[i] = q at d0 HTk
   go_wp2_with fail
   refine (nWhole_one (q:Int) _).mono ?_
   rintro e w1 ⟨rfl,hb1⟩
   have HM1:=hide (((unhide HM).below ((Below.refl _ _).alloc (Nat.le_refl _) (.cells #[.int .i64 (q:Int),.int .i64 1] 80))).below hb1)
   have HM2:=hide ((unhide HM1).below ((Below.refl _ _).alloc (Nat.le_refl _) (.cells [ivP q].toArray 3)))
   have hsz1:=(unhide HM1).bel.size
   clear hb1
   go_wp2_with (at_builtin;refine wpList_append_own _ rfl _ _ 22 rfl w.heap.size 3 i0 _ 1 8 Tryz.underlying22 hi0 hz0 hz1 hz2 rfl (by decide) _ _ _ rfl (unhide HM2).own ⟨w1.heap.size,0,none⟩ 1 1 [ivP q] rfl rfl (nnews_at rfl _ _) (one_ivP _) (by unfold maxLen;omega) (by omega) (by simp;omega) ?_)
   intro v' w4 hown4 hgr4 _
   have hm4:=(unhide HM2).more hown4 hgr4
   obtain ⟨g4,cp4,rfl⟩:=hm4.shape (by simp)
   have HM4:=hide hm4
   clear hown4 hgr4 hm4
   go_wp2_with fail
   go_roundg (ps.length - (i + 1))
   case measure=>rw [unhide HK];omega
   case rel=>exact ⟨i + 1,qs ++ [q],g4,cp4,rfl,by omega,rfl,rfl,by rw [unhide HTk,unhide HE],unhide HM4⟩
  ·have hlt':¬ (i:Int) < (ps.length:Int):=by omega
   obtain rfl:qs = ps:=by rw [unhide HE];exact List.take_of_length_le (by omega)
   go_wp2_with fail
   exact bodyPost_ret (v:=.tuple #[.slice (some ⟨g',0,none⟩) qs.length cp',.int .i64 0]) (by simp [results,Tryz.results179,go_sem]) rfl ⟨⟨g',cp',rfl,(unhide HM).own⟩,(unhide HM).bel⟩
end Go.Proofs.YtikiaijgcjjloabGreatDoor

import Derived.Test.YtikiaijgcjjloabGreatDoorPart36

namespace Go.Proofs.YtikiaijgcjjloabGreatDoor
open Go Go.RowKit M T Go.Lib
def foldE (f:Rat → Rat → Except Int Rat):Rat → List Rat → Except Int Rat
 | a,[]=>.ok a
 | a,x :: l=>match f a x with
  | .error e=>.error e
  | .ok y=>foldE f y l
theorem foldE_snoc (f:Rat → Rat → Except Int Rat):∀ (l:List Rat) (a x:Rat),foldE f a (l ++ [x]) = (match foldE f a l with | .error e=>.error e | .ok y=>f y x:Except Int Rat)
 | [],a,x=>by
  simp only [List.nil_append,foldE]
  cases f a x <;> rfl
 | y :: l,a,x=>by
  simp only [List.cons_append,foldE]
  cases f a y with
  | error e=>rfl
  | ok z=>exact foldE_snoc f l z x
theorem foldE_err (f:Rat → Rat → Except Int Rat):∀ (l m:List Rat) (a:Rat) (c:Int),foldE f a l = .error c → foldE f a (l ++ m) = .error c
 | [],m,a,c,h=>by cases h
 | y :: l,m,a,c,h=>by
  simp only [List.cons_append,foldE] at h ⊢
  cases hf:f a y with
  | error e=>rw [hf] at h;exact h
  | ok z=>rw [hf] at h;exact foldE_err f l m z c h
structure SumR (f:Rat → Rat → Except Int Rat) (x0:Rat) (l:List Rat) (m k:Nat) (p q c:Int):Prop where
 lo:1 ≤ k
 hi:k ≤ m + 1
 is:(c = 0 ∧ ∃ z,foldE f x0 (l.take (k - 1)) = .ok z ∧ small z = true ∧ p = z.num ∧ q = (z.den:Int)) ∨ (c ≠ 0 ∧ foldE f x0 (l.take m) = .error c)
theorem SumR.next {f:Rat → Rat → Except Int Rat} {x0:Rat} {l:List Rat} {m k:Nat} {z:Rat} {p q c:Int} (hk1:1 ≤ k) (hk:k ≤ m) (hl:k - 1 < l.length) (hz:foldE f x0 (l.take (k - 1)) = .ok z) (hr:RQ (f z l[k - 1]) p q c):SumR f x0 l m (k + 1) p q c:=by
 have e:foldE f x0 (l.take k) = f z l[k - 1]:=by
  have h1:l.take k = l.take (k - 1) ++ [l[k - 1]]:=by
   have:=List.take_succ_eq_append_getElem hl
   rwa [show k - 1 + 1 = k by omega] at this
  rw [h1,foldE_snoc,hz]
 refine ⟨by omega,by omega,?_⟩
 rcases hr with ⟨y,h1,h2,h3,h4,h5⟩ | ⟨h1,h2⟩
 ·exact Or.inl ⟨h5,y,by rw [show k + 1 - 1 = k by omega,e,h1],h2,h3,h4⟩
 ·refine Or.inr ⟨h2,?_⟩
  have h3:l.take m = l.take k ++ (l.drop k).take (m - k):=by
   rw [show m = k + (m - k) by omega,List.take_add]
   simp
  rw [h3]
  exact foldE_err f _ _ x0 c (by rw [e,h1])
theorem two_at1 (w:World) (o0 o1:Obj):((w.alloc o0).alloc o1).heap[w.heap.size]? = some o0:=by
 rw [Below.heap_alloc _ _ _ (by simp)]
 exact heap_alloc_new w o0
structure SumB (w:World) (p q:Int) (wr:World):Prop where
 b0:wr.heap[w.heap.size]? = some (.cells #[.int .i64 0,.int .i64 0] 139 (0,0))
 b1:wr.heap[w.heap.size + 1]? = some (.cells #[.int .i64 p,.int .i64 q] 139 (0,0))
 bel:Below w.heap.size w wr
theorem SumB.put {w:World} {p q p' q':Int} {wr:World} (h:SumB w p q wr):SumB w p' q' ((wr.setCell ⟨w.heap.size + 1,0,none⟩ (.int .i64 p')).setCell ⟨w.heap.size + 1,1,none⟩ (.int .i64 q')):=by
 refine ⟨?_,?_,(h.bel.setCell (by show w.heap.size ≤ w.heap.size + 1;omega) _).setCell (by show w.heap.size ≤ w.heap.size + 1;omega) _⟩
 ·rw [heap_setCell_other _ _ _ _ (by simp),heap_setCell_other _ _ _ _ (by simp)]
  exact h.b0
 ·have:=blk_set (blk_set h.b1 0 (.int .i64 p')) 1 (.int .i64 q')
  exact this
theorem SumB.below {w:World} {p q:Int} {wr w':World} (h:SumB w p q wr) (hb:Below wr.heap.size wr w'):SumB w p q w':=⟨(hb.block _ (lt_of_block h.b0)).trans h.b0,(hb.block _ (lt_of_block h.b1)).trans h.b1,h.bel.trans (hb.mono h.bel.size)⟩
theorem SumB.drew {w:World} {p q:Int} {wr:World} (h:SumB w p q wr):SumB w p q wr.drew:=⟨h.b0,h.b1,h.bel.drew⟩
set_option maxRecDepth 100000 in
set_option maxHeartbeats 1600000 in
theorem sum_any {w:World} {ao:Option Addr} {cap:Nat} {x0:Rat} {l:List Rat} {i:Nat} (h:RL w ao cap (x0 :: l)) (hi:i ≤ l.length) :
  Calls Tryz.prog 153 #[.slice ao (x0 :: l).length cap,.int .i64 (i:Int)] w fun e w'=>RQGot (foldE addE x0 (l.take i)) e ∧ Below w.heap.size w w':=by
 have hlen:=h.len
 have hlen':l.length + 1 ≤ 1000:=hlen
 obtain ⟨g,rfl,hg,hc⟩:=h.cell (by simp)
 obtain ⟨c00,c01⟩:=hc 0 (by simp)
 have c00':w.cell? ⟨g,0,none⟩ = some (.int .i64 x0.num):=c00
 have c01':w.cell? ⟨g,1,none⟩ = some (.int .i64 (x0.den:Int)):=c01
 have h00:(0:Int) < ((x0 :: l).length:Int):=by rw [List.length_cons];omega
 have HL:=hide h
 have HSm:=hide h.small
 have HC:=hide hc
 obtain ⟨n,hn⟩:∃ n,n = (x0 :: l).length:=⟨_,rfl⟩
 have hnl1:n ≤ l.length + 1:=by rw [hn];exact Nat.le_refl _
 have hnl2:l.length + 1 ≤ n:=by rw [hn];exact Nat.le_refl _
 rw [← hn] at h00 ⊢
 have HN:=hide hn
 have HB0:=hide (show SumB w x0.num (x0.den:Int) ((w.alloc (.cells #[.int .i64 0,.int .i64 0] 139)).alloc (.cells #[.int .i64 x0.num,.int .i64 (x0.den:Int)] 139)) from ⟨two_at1 w _ _,new_at2P w _ _,((Below.refl _ _).alloc (Nat.le_refl _) _).alloc (by rw [World.size_alloc];omega) _⟩)
 have HS0:=hide (show SumR addE x0 l i 1 x0.num (x0.den:Int) 0 from ⟨by omega,by omega,Or.inl ⟨rfl,x0,by rw [Nat.sub_self,List.take_zero];rfl,h.small x0 (by simp),rfl,rfl⟩⟩)
 clear h c00 c01 hc hn hlen
 go_enter Tryz.func153,Tryz.ntmps153
 go_wp2_with fail
 go_loopg [7,8] (i + 1) (fun kk v7 v8 wr=>∃ (k:Nat) (p q c:Int),kk = i + 2 - k ∧ v8 = .int .i64 (k:Int) ∧ v7 = .int .i64 c ∧ SumR addE x0 l i k p q c ∧ SumB w p q wr)
 case atStart=>exact ⟨1,x0.num,(x0.den:Int),0,rfl,rfl,rfl,unhide HS0,unhide HB0⟩
 case round=>
  obtain ⟨k,p,q,c,hk,rfl,rfl,hs,hb⟩:=hrel
  have hk1:=hs.lo
  have hk2:=hs.hi
  have HK:=hide hk
  have HSr:=hide hs
  have HBr:=hide hb
  have n1:∀ j,wr.cell? ⟨w.heap.size + 1,j,none⟩ = (#[.int .i64 p,.int .i64 q]:Array Value)[j]?:=fun j=>blk_cell hb.b1 j
  have f1:∀ j,wr.frozen? ⟨w.heap.size + 1,j,none⟩ = false:=fun j=>blk_free hb.b1 j
  have n0:∀ j,wr.cell? ⟨w.heap.size,j,none⟩ = (#[.int .i64 0,.int .i64 0]:Array Value)[j]?:=fun j=>blk_cell hb.b0 j
  have f0:∀ j,wr.frozen? ⟨w.heap.size,j,none⟩ = false:=fun j=>blk_free hb.b0 j
  clear hk hs
  by_cases hc0:c = 0
  ·subst hc0
   by_cases hlt:k ≤ i
   ·have hlt':(k:Int) ≤ (i:Int):=by omega
    have hkn:(k:Int) < (n:Int):=by omega
    obtain ⟨d0,d1⟩:=unhide HC k (by rw [← unhide HN];omega)
    rw [← hb.bel.cell (p:=⟨g,k * 2,none⟩) hg] at d0
    rw [← hb.bel.cell (p:=⟨g,k * 2 + 1,none⟩) hg] at d1
    obtain ⟨z,hz,hzs,rfl,rfl⟩:∃ z,foldE addE x0 (l.take (k - 1)) = .ok z ∧ small z = true ∧ p = z.num ∧ q = (z.den:Int):=by
     rcases (unhide HSr).is with ⟨_,h⟩ | ⟨h,_⟩
     ·exact h
     ·exact absurd rfl h
    have hkl:k - 1 < l.length:=by omega
    have hgk:(x0 :: l)[k]'(by rw [← unhide HN];omega) = l[k - 1]:=by
     cases k with
     | zero=>omega
     | succ k=>rfl
    rw [hgk] at d0 d1
    have HNx:=hide (fun (p q c:Int) (h:RQ (addE z l[k - 1]) p q c)=>SumR.next (m:=i) hk1 hlt hkl hz h)
    have hys:=unhide HSm l[k - 1] (List.mem_cons_of_mem _ (List.getElem_mem hkl))
    have HCall:=hide (rqAdd hzs hys wr.drew)
    have hsz:=(lt_of_block hb.b1)
    clear hgk hz hb hzs hys HSr
    generalize l[k - 1] = y at d0 d1 HNx HCall
    have hgs:g < wr.heap.size:=by have:=(unhide HBr).bel.size;omega
    go_upto_region 6 with fail
    go_region_with (go_at_call 111;refine (unhide HCall).mono ?_;rintro e w' ⟨⟨p',q',c',rfl,hr⟩,hb'⟩;have e0:∀ j,w'.cell? ⟨w.heap.size + 1,j,none⟩ = (#[.int .i64 z.num,.int .i64 (z.den:Int)]:Array Value)[j]?:=fun j=>(hb'.cell (p:=⟨w.heap.size + 1,j,none⟩) hsz).trans (n1 j);have e1:=(hb'.cell (p:=⟨g,k * 2,none⟩) hgs).trans d0;have e2:=(hb'.cell (p:=⟨g,k * 2 + 1,none⟩) hgs).trans d1;have e3:∀ j,w'.frozen? ⟨w.heap.size + 1,j,none⟩ = false:=fun j=>blk_free ((hb'.block (w.heap.size + 1) hsz).trans (unhide HBr).b1) j;have HRq:=hide hr;have HBw:=hide hb';clear hr hb')
    all_goals go_wp2_with fail
    all_goals go_roundg (i + 2 - (k + 1))
    all_goals first
     | (case measure=>rw [unhide HK];omega)
     | (case rel=>exact ⟨k + 1,p',q',c',rfl,rfl,rfl,unhide HNx _ _ _ (unhide HRq),((unhide HBr).drew.below (unhide HBw)).put⟩)
   ·have hlt':¬ (k:Int) ≤ (i:Int):=by omega
    have HFin:=hide (show RQ (foldE addE x0 (l.take i)) p q 0 by
     rcases (unhide HSr).is with ⟨_,z,h1,h2,h3,h4⟩ | ⟨h,_⟩
     ·rw [show k - 1 = i by omega] at h1
      exact Or.inl ⟨z,h1,h2,h3,h4,rfl⟩
     ·exact absurd rfl h)
    clear hb
    go_wp2_with fail
    exact bodyPost_ret (v:=.tuple #[.agg #[.int .i64 p,.int .i64 q],.int .i64 0]) (by simp [results,Tryz.results153,go_sem,n0]) rfl ⟨⟨p,q,0,rfl,unhide HFin⟩,((unhide HBr).bel.setCell (Nat.le_refl _) _).setCell (Nat.le_refl _) _⟩
  ·have hc0':(c == 0) = false:=by rw [beq_eq_false_iff_ne];exact hc0
   have HFin:=hide (show RQ (foldE addE x0 (l.take i)) p q c by
    rcases (unhide HSr).is with ⟨h,_⟩ | ⟨h1,h2⟩
    ·exact absurd h hc0
    ·exact Or.inr ⟨h2,h1⟩)
   clear hb
   by_cases hlt:k ≤ i
   ·have hlt':(k:Int) ≤ (i:Int):=by omega
    go_wp2_with fail
    exact bodyPost_ret (v:=.tuple #[.agg #[.int .i64 p,.int .i64 q],.int .i64 c]) (by simp [results,Tryz.results153,go_sem,n0]) rfl ⟨⟨p,q,c,rfl,unhide HFin⟩,((unhide HBr).bel.setCell (Nat.le_refl _) _).setCell (Nat.le_refl _) _⟩
   ·have hlt':¬ (k:Int) ≤ (i:Int):=by omega
    go_wp2_with fail
    exact bodyPost_ret (v:=.tuple #[.agg #[.int .i64 p,.int .i64 q],.int .i64 c]) (by simp [results,Tryz.results153,go_sem,n0]) rfl ⟨⟨p,q,c,rfl,unhide HFin⟩,((unhide HBr).bel.setCell (Nat.le_refl _) _).setCell (Nat.le_refl _) _⟩
set_option maxRecDepth 100000 in
set_option maxHeartbeats 1600000 in
theorem product_any {w:World} {ao:Option Addr} {cap:Nat} {x0:Rat} {l:List Rat} {i:Nat} (h:RL w ao cap (x0 :: l)) (hi:i ≤ l.length) :
  Calls Tryz.prog 154 #[.slice ao (x0 :: l).length cap,.int .i64 (i:Int)] w fun e w'=>RQGot (foldE mulE x0 (l.take i)) e ∧ Below w.heap.size w w':=by
 have hlen:=h.len
 have hlen':l.length + 1 ≤ 1000:=hlen
 obtain ⟨g,rfl,hg,hc⟩:=h.cell (by simp)
 obtain ⟨c00,c01⟩:=hc 0 (by simp)
 have c00':w.cell? ⟨g,0,none⟩ = some (.int .i64 x0.num):=c00
 have c01':w.cell? ⟨g,1,none⟩ = some (.int .i64 (x0.den:Int)):=c01
 have h00:(0:Int) < ((x0 :: l).length:Int):=by rw [List.length_cons];omega
 have HL:=hide h
 have HSm:=hide h.small
 have HC:=hide hc
 obtain ⟨n,hn⟩:∃ n,n = (x0 :: l).length:=⟨_,rfl⟩
 have hnl1:n ≤ l.length + 1:=by rw [hn];exact Nat.le_refl _
 have hnl2:l.length + 1 ≤ n:=by rw [hn];exact Nat.le_refl _
 rw [← hn] at h00 ⊢
 have HN:=hide hn
 have HB0:=hide (show SumB w x0.num (x0.den:Int) ((w.alloc (.cells #[.int .i64 0,.int .i64 0] 139)).alloc (.cells #[.int .i64 x0.num,.int .i64 (x0.den:Int)] 139)) from ⟨two_at1 w _ _,new_at2P w _ _,((Below.refl _ _).alloc (Nat.le_refl _) _).alloc (by rw [World.size_alloc];omega) _⟩)
 have HS0:=hide (show SumR mulE x0 l i 1 x0.num (x0.den:Int) 0 from ⟨by omega,by omega,Or.inl ⟨rfl,x0,by rw [Nat.sub_self,List.take_zero];rfl,h.small x0 (by simp),rfl,rfl⟩⟩)
 clear h c00 c01 hc hn hlen
 go_enter Tryz.func154,Tryz.ntmps154
 go_wp2_with fail
 go_loopg [7,8] (i + 1) (fun kk v7 v8 wr=>∃ (k:Nat) (p q c:Int),kk = i + 2 - k ∧ v8 = .int .i64 (k:Int) ∧ v7 = .int .i64 c ∧ SumR mulE x0 l i k p q c ∧ SumB w p q wr)
 case atStart=>exact ⟨1,x0.num,(x0.den:Int),0,rfl,rfl,rfl,unhide HS0,unhide HB0⟩
 case round=>
  obtain ⟨k,p,q,c,hk,rfl,rfl,hs,hb⟩:=hrel
  have hk1:=hs.lo
  have hk2:=hs.hi
  have HK:=hide hk
  have HSr:=hide hs
  have HBr:=hide hb
  have n1:∀ j,wr.cell? ⟨w.heap.size + 1,j,none⟩ = (#[.int .i64 p,.int .i64 q]:Array Value)[j]?:=fun j=>blk_cell hb.b1 j
  have f1:∀ j,wr.frozen? ⟨w.heap.size + 1,j,none⟩ = false:=fun j=>blk_free hb.b1 j
  have n0:∀ j,wr.cell? ⟨w.heap.size,j,none⟩ = (#[.int .i64 0,.int .i64 0]:Array Value)[j]?:=fun j=>blk_cell hb.b0 j
  have f0:∀ j,wr.frozen? ⟨w.heap.size,j,none⟩ = false:=fun j=>blk_free hb.b0 j
  clear hk hs
  by_cases hc0:c = 0
  ·subst hc0
   by_cases hlt:k ≤ i
   ·have hlt':(k:Int) ≤ (i:Int):=by omega
    have hkn:(k:Int) < (n:Int):=by omega
    obtain ⟨d0,d1⟩:=unhide HC k (by rw [← unhide HN];omega)
    rw [← hb.bel.cell (p:=⟨g,k * 2,none⟩) hg] at d0
    rw [← hb.bel.cell (p:=⟨g,k * 2 + 1,none⟩) hg] at d1
    obtain ⟨z,hz,hzs,rfl,rfl⟩:∃ z,foldE mulE x0 (l.take (k - 1)) = .ok z ∧ small z = true ∧ p = z.num ∧ q = (z.den:Int):=by
     rcases (unhide HSr).is with ⟨_,h⟩ | ⟨h,_⟩
     ·exact h
     ·exact absurd rfl h
    have hkl:k - 1 < l.length:=by omega
    have hgk:(x0 :: l)[k]'(by rw [← unhide HN];omega) = l[k - 1]:=by
     cases k with
     | zero=>omega
     | succ k=>rfl
    rw [hgk] at d0 d1
    have HNx:=hide (fun (p q c:Int) (h:RQ (mulE z l[k - 1]) p q c)=>SumR.next (m:=i) hk1 hlt hkl hz h)
    have hys:=unhide HSm l[k - 1] (List.mem_cons_of_mem _ (List.getElem_mem hkl))
    have HCall:=hide (rqMul hzs hys wr.drew)
    have hsz:=(lt_of_block hb.b1)
    clear hgk hz hb hzs hys HSr
    generalize l[k - 1] = y at d0 d1 HNx HCall
    have hgs:g < wr.heap.size:=by have:=(unhide HBr).bel.size;omega
    go_upto_region 6 with fail
    go_region_with (go_at_call 114;refine (unhide HCall).mono ?_;rintro e w' ⟨⟨p',q',c',rfl,hr⟩,hb'⟩;have e0:∀ j,w'.cell? ⟨w.heap.size + 1,j,none⟩ = (#[.int .i64 z.num,.int .i64 (z.den:Int)]:Array Value)[j]?:=fun j=>(hb'.cell (p:=⟨w.heap.size + 1,j,none⟩) hsz).trans (n1 j);have e1:=(hb'.cell (p:=⟨g,k * 2,none⟩) hgs).trans d0;have e2:=(hb'.cell (p:=⟨g,k * 2 + 1,none⟩) hgs).trans d1;have e3:∀ j,w'.frozen? ⟨w.heap.size + 1,j,none⟩ = false:=fun j=>blk_free ((hb'.block (w.heap.size + 1) hsz).trans (unhide HBr).b1) j;have HRq:=hide hr;have HBw:=hide hb';clear hr hb')
    all_goals go_wp2_with fail
    all_goals go_roundg (i + 2 - (k + 1))
    all_goals first
     | (case measure=>rw [unhide HK];omega)
     | (case rel=>exact ⟨k + 1,p',q',c',rfl,rfl,rfl,unhide HNx _ _ _ (unhide HRq),((unhide HBr).drew.below (unhide HBw)).put⟩)
   ·have hlt':¬ (k:Int) ≤ (i:Int):=by omega
    have HFin:=hide (show RQ (foldE mulE x0 (l.take i)) p q 0 by
     rcases (unhide HSr).is with ⟨_,z,h1,h2,h3,h4⟩ | ⟨h,_⟩
     ·rw [show k - 1 = i by omega] at h1
      exact Or.inl ⟨z,h1,h2,h3,h4,rfl⟩
     ·exact absurd rfl h)
    clear hb
    go_wp2_with fail
    exact bodyPost_ret (v:=.tuple #[.agg #[.int .i64 p,.int .i64 q],.int .i64 0]) (by simp [results,Tryz.results154,go_sem,n0]) rfl ⟨⟨p,q,0,rfl,unhide HFin⟩,((unhide HBr).bel.setCell (Nat.le_refl _) _).setCell (Nat.le_refl _) _⟩
  ·have hc0':(c == 0) = false:=by rw [beq_eq_false_iff_ne];exact hc0
   have HFin:=hide (show RQ (foldE mulE x0 (l.take i)) p q c by
    rcases (unhide HSr).is with ⟨h,_⟩ | ⟨h1,h2⟩
    ·exact absurd h hc0
    ·exact Or.inr ⟨h2,h1⟩)
   clear hb
   by_cases hlt:k ≤ i
   ·have hlt':(k:Int) ≤ (i:Int):=by omega
    go_wp2_with fail
    exact bodyPost_ret (v:=.tuple #[.agg #[.int .i64 p,.int .i64 q],.int .i64 c]) (by simp [results,Tryz.results154,go_sem,n0]) rfl ⟨⟨p,q,c,rfl,unhide HFin⟩,((unhide HBr).bel.setCell (Nat.le_refl _) _).setCell (Nat.le_refl _) _⟩
   ·have hlt':¬ (k:Int) ≤ (i:Int):=by omega
    go_wp2_with fail
    exact bodyPost_ret (v:=.tuple #[.agg #[.int .i64 p,.int .i64 q],.int .i64 c]) (by simp [results,Tryz.results154,go_sem,n0]) rfl ⟨⟨p,q,c,rfl,unhide HFin⟩,((unhide HBr).bel.setCell (Nat.le_refl _) _).setCell (Nat.le_refl _) _⟩
end Go.Proofs.YtikiaijgcjjloabGreatDoor

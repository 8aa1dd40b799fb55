import Derived.Test.YtikiaijgcjjloabGreatDoorPart20
import Derived.Test.YtikiaijgcjjloabGreatDoorPart16
import Derived.Test.YtikiaijgcjjloabGreatDoorPart15
import Derived.Test.YtikiaijgcjjloabGreatDoorPart17

namespace Go.Proofs.YtikiaijgcjjloabGreatDoor
open Go Go.RowKit M T Go.Lib
theorem wr_any {m:Nat} (hB:BkS m) {p:Pt} {env:Env} (he:env.wf) (x:RC) (w:World) (hx:RPt w x p) (hw:p.wf) (hp:p.inEnv env) (hb:p.back = true) (hm:p.text.length ≤ m + 1) (hs:p.text.length ≤ 1000) :
  Calls Tryz.prog 122 #[RC.value x] w fun e w'=>e = .returned (.string ⟨p.opp.text.toArray⟩) ∧ Below w.heap.size w w':=by
 cases p with
 | sp y=>
  rw [Pt.wf] at hw
  rw [Pt.back] at hb
  cases h:y.opp with
  | none=>rw [h] at hb;cases hb
  | some y2=>
   have e:(Pt.sp y).opp.text = y2.text:=by rw [Pt.opp,h,Pt.text];rfl
   rw [e]
   exact wr_sp h hw hx
 | pow f k=>
  obtain ⟨Kd,P,Q,K,pa,pn,pc,F,G⟩:=x
  obtain ⟨h1,h2,h3⟩:=hx
  obtain rfl:Kd = 40:=h1
  obtain rfl:K = k:=h3
  rw [Pt.wf] at hw
  rw [Pt.text] at hs
  simp only [List.length_cons,List.length_append] at hs
  rw [Pt.opp]
  have h2':F.data.toList = f.text:=h2
  exact wr_pow f P Q K pa pn pc F G w h2' (by have:=congrArg List.length h2';simp at this;omega) hw.2.1 hw.2.2
 | under f g=>
  obtain ⟨Kd,P,Q,K,pa,pn,pc,F,G⟩:=x
  obtain ⟨h1,h2,h3⟩:=hx
  obtain rfl:Kd = 91:=h1
  rw [Pt.wf] at hw
  rw [Pt.inEnv] at hp
  rw [Pt.back,Bool.and_eq_true] at hb
  rw [Pt.text] at hs hm
  simp only [List.length_cons,List.length_append] at hs hm
  rw [Pt.opp]
  have h2':F.data.toList = f.text:=h2
  have h3':G.data.toList = g.text:=h3
  have l2:=congrArg List.length h2'
  have l3:=congrArg List.length h3'
  simp at l2 l3
  exact wr_under hB f g env he P Q K pa pn pc F G w h2' ⟨hw.2,hp.2,h3'.symm⟩ hb.1 (by omega) (by omega) (by omega)
 | name c b=>
  obtain ⟨Kd,P,Q,K,pa,pn,pc,F,G⟩:=x
  obtain rfl:Kd = c:=hx
  rw [Pt.wf] at hw
  have e:(Pt.name Kd b).opp.text = [40,Kd,41,94,45,49]:=by
   rw [Pt.opp,Pt.text,Tm.text,Pt.text,Tm.text,M.itoa_neg _ (by decide),show (-1:Int).natAbs = 1 from rfl,dec_small 1 (by decide)]
   rfl
  rw [e]
  exact wr_name Kd P Q K pa pn pc F G w hw.1 hw.2.1
theorem bk_opp_take (ps:List Pt) (i:Nat) (h:i < ps.length):(Tm.of (ps.take (i + 1))).opp.text = ps[i].opp.text ++ (Tm.of (ps.take i)).opp.text:=by
 rw [List.take_succ_eq_append_getElem h,Tm.opp_of,Tm.opp_of,List.reverse_append,List.map_append]
 rfl
theorem bk_back_mem:∀ (ps:List Pt) (p:Pt),p ∈ ps → (Tm.of ps).back = true → p.back = true
 | q :: ps,p,h,hw=>by
  rw [Tm.of,Tm.back,Bool.and_eq_true] at hw
  rcases List.mem_cons.1 h with rfl | h
  ·exact hw.1
  ·exact bk_back_mem ps p h hw.2
theorem bk_text_take (ps:List Pt) (i:Nat):(Tm.of (ps.take i)).text.length ≤ (Tm.of ps).text.length:=by
 induction ps generalizing i with
 | nil=>simp
 | cons p ps ih=>
  cases i with
  | zero=>rw [List.take_zero,Tm.of,Tm.text];simp
  | succ i=>
   rw [List.take_succ_cons,Tm.of,Tm.of,Tm.text,Tm.text,List.length_append,List.length_append]
   have:=ih i
   omega
theorem bk_wf_take (ps:List Pt) (i:Nat) (h:(Tm.of ps).wf):(Tm.of (ps.take i)).wf:=by
 induction ps generalizing i with
 | nil=>rw [List.take_nil];exact h
 | cons p ps ih=>
  cases i with
  | zero=>rw [List.take_zero,Tm.of,Tm.wf];trivial
  | succ i=>
   rw [Tm.of,Tm.wf] at h
   rw [List.take_succ_cons,Tm.of,Tm.wf]
   exact ⟨h.1,ih i h.2⟩
theorem bk_back_take (ps:List Pt) (i:Nat) (h:(Tm.of ps).back = true):(Tm.of (ps.take i)).back = true:=by
 rw [of_back,List.all_eq_true] at h ⊢
 exact fun p hp=>h p (List.mem_of_mem_take hp)
set_option maxRecDepth 100000 in
set_option maxHeartbeats 3200000 in
theorem backwards_r {m:Nat} (hF:∀ m',m' + 1 = m → BkS m'):BkS m:=by
 intro s t env w he hm hs ht hbk
 have HP:=hide (parts_all s.size)
 have HF:=hide hF
 have HT:=hide ht
 have HE:=hide he
 have HBk:=hide hbk
 clear hF ht he hbk
 go_enter Tryz.func80,Tryz.ntmps80
 go_wp2_with fail
 refine (unhide HP s _ (Nat.le_refl _) hs).mono ?_
 rintro e w1 ⟨⟨sl,ok,rfl,hG⟩,hb1⟩
 obtain ⟨rfl,xs,ps,hwh,hown,hpl⟩:ok = true ∧ ∃ xs ps,Whole E0 s.data.toList (some (Tm.of ps)) ∧ w1.ownsRow 0 141 7 sl xs.length (rrow xs) ∧ RPl w1 xs ps:=by
  rcases hG with h | ⟨_,_,h⟩
  ·exact h
  ·exact (whole_not h (unhide HT)).elim
 have hbind:=whole_is (unhide HE) hwh (unhide HT)
 rw [Tm.bind_of] at hbind
 obtain ⟨hwf,htx⟩:=whole_wf hwh
 have hlps:ps.length ≤ 1000:=by have:=len_mem ps;rw [htx] at this;simp at this;omega
 have hxl:=hpl.length
 obtain ⟨ao,cap,rfl,hcs⟩:=rrow_slice hown
 have HB1:=hide hb1
 have HPl:=hide hpl
 have HBd:=hide hbind
 clear hG hown hpl hbind htx hb1 hwf hwh
 go_wp2_with fail
 go_loopg [5,6] xs.length (fun k v5 v6 wr=>∃ i:Nat,k = xs.length - i ∧ i ≤ xs.length ∧ v6 = .int .i64 (i:Int) ∧ v5 = .string ⟨((Tm.of ((ps.map (Pt.bind env)).take i)).opp.text).toArray⟩ ∧ Below w1.heap.size w1 wr)
 case atStart=>exact ⟨0,rfl,Nat.zero_le _,rfl,rfl,Below.refl _ _⟩
 case round=>
  obtain ⟨i,hk,hi,rfl,rfl,hbr⟩:=hrel
  have HK:=hide hk
  have HBr:=hide hbr
  clear hk hbr
  by_cases hlt:i < xs.length
  ·have hlt':(i:Int) < (xs.length:Int):=by omega
   have hip:i < ps.length:=by omega
   obtain ⟨g,rfl,hg,hcell⟩:=hcs (by omega)
   have hcr:∀ l,l < 7 → wr.cell? ⟨g,i * 7 + l,none⟩ = (xs[i].cells)[l]?:=fun l hl=>((unhide HBr).cell (p:=⟨g,i * 7 + l,none⟩) hg).trans (hcell i hlt l hl)
   have hpt:RPt wr xs[i] (ps[i].bind env):=RPt.bind _ (unhide HE) (((unhide HPl).get i hlt hip).keeps (fun k c hk=>(unhide HBr).block k (lt_of_block hk)))
   have hnx:=bk_opp_take (ps.map (Pt.bind env)) i (by simpa using hip)
   rw [List.getElem_map] at hnx
   have hmem:ps[i].bind env ∈ ps.map (Pt.bind env):=List.mem_map.2 ⟨_,List.getElem_mem hip,rfl⟩
   have q1:=wf_mem _ _ hmem (by rw [unhide HBd];exact (unhide HT).wf)
   have q2:=env_mem _ _ _ hmem (by rw [unhide HBd];exact (unhide HT).env)
   have q4:=bk_back_mem _ _ hmem (by rw [unhide HBd];exact unhide HBk)
   have q3:=text_mem _ _ hmem
   rw [unhide HBd,(unhide HT).text] at q3
   have hm1:1 ≤ m:=by
    obtain ⟨l,e⟩:=Pt.text_first (ps[i].bind env)
    rw [e,List.length_cons] at q3
    simp at q3;omega
   have l1:(Tm.of ((ps.map (Pt.bind env)).take i)).opp.text.length ≤ 24000:=by
    have a1:=Tm.opp_len _ (bk_wf_take (ps.map (Pt.bind env)) i (by rw [unhide HBd];exact (unhide HT).wf)) (bk_back_take (ps.map (Pt.bind env)) i (by rw [unhide HBd];exact unhide HBk))
    have a2:=bk_text_take (ps.map (Pt.bind env)) i
    rw [unhide HBd,(unhide HT).text] at a2
    simp at a2
    omega
   have hq3:(ps[i].bind env).text.length ≤ s.size:=by simpa using q3
   have l2:(ps[i].bind env).opp.text.length ≤ 24000:=by
    have:=Pt.opp_len _ q1 q4
    omega
   have HQ1:=hide q1
   have HQ2:=hide q2
   have HQ4:=hide q4
   have HNx:=hide hnx
   have HPt:=hide hpt
   generalize ps[i].bind env = p at HNx HPt HQ1 HQ2 HQ4 hq3 l2
   generalize xs[i] = x at hcr HPt
   obtain ⟨Kd,P,Q,K,pa,pn,pc,F,G⟩:=x
   have c0:wr.cell? ⟨g,i * 7,none⟩ = some (.int .u8 (Kd.toNat:Int)):=hcr 0 (by omega)
   have c1:wr.cell? ⟨g,i * 7 + 1,none⟩ = some (.int .i64 P):=hcr 1 (by omega)
   have c2:wr.cell? ⟨g,i * 7 + 2,none⟩ = some (.int .i64 Q):=hcr 2 (by omega)
   have c3:wr.cell? ⟨g,i * 7 + 3,none⟩ = some (.int .i64 K):=hcr 3 (by omega)
   have c4:wr.cell? ⟨g,i * 7 + 4,none⟩ = some (.slice pa pn pc):=hcr 4 (by omega)
   have c5:wr.cell? ⟨g,i * 7 + 5,none⟩ = some (.string F):=hcr 5 (by omega)
   have c6:wr.cell? ⟨g,i * 7 + 6,none⟩ = some (.string G):=hcr 6 (by omega)
   clear hcr hpt hnx hmem q1 q2 q3 q4 hcell hcs hxl
   generalize (Tm.of ((ps.map (Pt.bind env)).take i)).opp.text = out at HNx l1 ⊢
   go_wp2_with fail
   refine (wr_any (m:=m - 1) (unhide HF (m - 1) (by omega)) (unhide HE) ⟨Kd,P,Q,K,pa,pn,pc,F,G⟩ _ (unhide HPt) (unhide HQ1) (unhide HQ2) (unhide HQ4) (by omega) (by omega)).mono ?_
   rintro e w2 ⟨rfl,hb2⟩
   have HB2:=hide ((unhide HBr).trans (hb2.mono (unhide HBr).size))
   clear hb2
   generalize p.opp.text = new at HNx l2 ⊢
   go_wp2_with fail
   go_roundg (xs.length - (i + 1))
   case measure=>rw [unhide HK];omega
   case rel=>exact ⟨i + 1,rfl,by omega,rfl,by rw [unhide HNx,str_app],unhide HB2⟩
  ·have hlt':¬ (i:Int) < (xs.length:Int):=by omega
   have e:(ps.map (Pt.bind env)).take i = ps.map (Pt.bind env):=List.take_of_length_le (by rw [List.length_map];omega)
   rw [e,unhide HBd]
   go_wp2_with fail
   go_ret
   exact ⟨rfl,(unhide HB1).trans ((unhide HBr).mono (unhide HB1).size)⟩
theorem backwards_all:∀ m,BkS m
 | 0=>backwards_r (fun m' h=>by omega)
 | m + 1=>backwards_r (fun m' h=>by
  have e:m' = m:=by omega
  rw [e]
  exact backwards_all m)
theorem fbits_odd (a b c:Bool):((fbits a b c) % 2 == 0) = !a:=by cases a <;> cases b <;> cases c <;> decide
set_option maxRecDepth 100000 in
set_option maxHeartbeats 1600000 in
theorem rOpposite_any {rb:Nat} {v:Value} {ds:List D} (s:ByteArray) (w:World) (h:RSes w rb v ds) (hl:ds.length ≤ maxLen) :
  Calls Tryz.prog 50 #[.pointer (some ⟨rb,0,none⟩),.string s] w fun e w'=>∃ (r:List UInt8) (c:Int),e = .returned (.tuple #[.string ⟨r.toArray⟩,.int .i64 c]) ∧ OppSays (envOf ds) s.data.toList r c ∧ Below w.heap.size w w':=by
 have hewf:(envOf ds).wf:=by have:=h.ok.wf ds.length (Nat.le_refl _);rw [List.take_length] at this;exact this
 have H:=hide h
 have HE:=hide hewf
 clear h hewf
 go_enter Tryz.func50,Tryz.ntmps50
 go_wp2_with fail
 refine (rFacts_any (parts_all 1000) (facts_all 1000) s _ (unhide H) hl).mono ?_
 rintro e w1 ⟨n,c,rfl,hf,hb1⟩
 have HB1:=hide hb1
 clear hb1
 rcases hf with ⟨hc,rfl⟩ | ⟨t,hg,rfl,rfl⟩
 ·have HC:=hide hc
  have hne:(c != 0) = true:=by rw [bne_iff_ne];exact hc.ne
  clear hc
  go_wp2_with fail
  exact bodyPost_ret (v:=.tuple #[.string ⟨#[]⟩,.int .i64 c]) (by simp [results,Tryz.results50,go_sem]) rfl ⟨[],c,rfl,Or.inl ⟨unhide HC,rfl⟩,unhide HB1⟩
 ·have HG:=hide hg
  have hsz:s.size ≤ 1000:=by have:=hg.len;simp at this;omega
  have hbd:=fbits_bd t.back t.picker t.plain
  have hodd:=fbits_odd t.back t.picker t.plain
  rw [← factsNum_fbits] at hbd hodd
  clear hg
  cases hbk:t.back with
  | false=>
   rw [hbk] at hodd
   have hodd':(factsNum t % 2 == 0) = true:=hodd
   have HBk:=hide hbk
   clear hbk hodd
   go_wp2_with fail
   exact bodyPost_ret (v:=.tuple #[.string ⟨#[]⟩,.int .i64 12]) (by simp [results,Tryz.results50,go_sem]) rfl ⟨[],12,rfl,Or.inr ⟨t,unhide HG,Or.inl ⟨unhide HBk,rfl,rfl⟩⟩,unhide HB1⟩
  | true=>
   rw [hbk] at hodd
   have hodd':(factsNum t % 2 == 0) = false:=hodd
   have HBk:=hide hbk
   have hol:t.opp.text.length ≤ 24000:=by
    have:=Tm.opp_len t (unhide HG).term.wf hbk
    rw [(unhide HG).term.text] at this
    simp at this
    omega
   clear hbk hodd
   go_wp2_with fail
   refine (backwards_all 1000 s t (envOf ds) _ (unhide HE) hsz hsz (unhide HG).term (unhide HBk)).mono ?_
   rintro e w2 ⟨rfl,hb2⟩
   have HB2:=hide ((unhide HB1).trans (hb2.mono (unhide HB1).size))
   clear hb2
   by_cases hl2:120 < t.opp.text.length
   ·have hl':(120:Int) < (t.opp.text.length:Int):=by omega
    go_wp2_with fail
    exact bodyPost_ret (v:=.tuple #[.string ⟨#[]⟩,.int .i64 5]) (by simp [results,Tryz.results50,go_sem]) rfl ⟨[],5,rfl,Or.inr ⟨t,unhide HG,Or.inr (Or.inl ⟨unhide HBk,hl2,rfl,rfl⟩)⟩,unhide HB2⟩
   ·have hl':¬ (120:Int) < (t.opp.text.length:Int):=by omega
    go_wp2_with fail
    exact bodyPost_ret (v:=.tuple #[.string ⟨t.opp.text.toArray⟩,.int .i64 0]) (by simp [results,Tryz.results50,go_sem]) rfl ⟨t.opp.text,0,rfl,Or.inr ⟨t,unhide HG,Or.inr (Or.inr ⟨unhide HBk,by omega,rfl,rfl⟩)⟩,unhide HB2⟩
theorem res_facts {w w1:World} {o:Obj} {c:Array Value} {T:TypeId} (hb:Below ((w.alloc o).alloc (.cells c T)).heap.size ((w.alloc o).alloc (.cells c T)) w1):(∀ i,w1.cell? ⟨w.heap.size + 1,i,none⟩ = c[i]?) ∧ (∀ i,w1.frozen? ⟨w.heap.size + 1,i,none⟩ = false) ∧ w.heap.size + 1 < w1.heap.size ∧ Below w.heap.size w w1 ∧ w1.heap[w.heap.size + 1]? = some (.cells c T (0,0)):=by
 have hs:((w.alloc o).alloc (.cells c T)).heap.size = w.heap.size + 2:=by simp
 have hblk:w1.heap[w.heap.size + 1]? = some (.cells c T (0,0)):=by rw [hb.block _ (by omega)];exact new_at w _ _
 exact ⟨fun i=>blk_cell hblk i,fun i=>blk_free hblk i,lt_of_block hblk,((below_box o).trans ((below_box _).mono (by simp))).trans (hb.mono (by omega)),hblk⟩
theorem st8_below {B:Nat} {a w:World} (h:Below B a w) {n:Nat} (hn:B ≤ n) (v0 v1 v2 v3 v4 v5 v6 v7:Value):Below B a (st8 w n v0 v1 v2 v3 v4 v5 v6 v7) :=
 (((((((h.setCell (p:=⟨n,0,none⟩) hn _).setCell (p:=⟨n,1,none⟩) hn _).setCell (p:=⟨n,2,none⟩) hn _).setCell (p:=⟨n,3,none⟩) hn _).setCell (p:=⟨n,4,none⟩) hn _).setCell (p:=⟨n,5,none⟩) hn _).setCell (p:=⟨n,6,none⟩) hn _).setCell (p:=⟨n,7,none⟩) hn _
set_option maxRecDepth 100000 in
set_option maxHeartbeats 800000 in
theorem negative_any (t b:Int) (w:World) (h1:-1000000000 ≤ t) (h2:t ≤ 1000000000):Calls Tryz.prog 56 #[.agg #[.int .i64 t,.int .i64 b]] w fun e w'=>e = .returned (.agg #[.int .i64 (-t),.int .i64 b]) ∧ Below w.heap.size w w':=by
 go_enter Tryz.func56,Tryz.ntmps56
 go_wp2_with fail
 exact bodyPost_ret (v:=.agg #[.int .i64 (-t),.int .i64 b]) (by simp [results,Tryz.results56,go_sem]) rfl ⟨rfl,(by repeat (first | exact Below.refl _ _ | refine below_dr ?_ _ | refine Below.drew ?_ | refine Below.setCell ?_ (by simp) _ | refine Below.alloc ?_ (by simp) _))⟩
set_option maxRecDepth 100000 in
set_option maxHeartbeats 1600000 in
theorem oppTimes_any {l n k t b:Int} {pa:Option Addr} {pn pc:Nat} {bo ov:Option Addr} (w:World) (h0:t ≠ 0) (h1:-1000000000 ≤ t) (h2:t ≤ 1000000000) (h3:1 ≤ b) (h4:b ≤ 1000000000):Calls Tryz.prog 57 #[.agg #[.int .u8 l,.int .u8 n,.int .i64 k,.int .i64 t,.int .i64 b,.slice pa pn pc,.pointer bo,.pointer ov]] w fun e w'=>e = .returned (.tuple #[PC.value (pcVal 42 (overP t b) (overQ t b)),.bool true]) ∧ Below w.heap.size w w':=by
 go_enter Tryz.func57,Tryz.ntmps57
 go_wp2_with fail
 refine (nOver_any t b _ h1 h2 h3 h4).mono ?_
 rintro e w1 ⟨⟨hz,_⟩ | ⟨_,rfl⟩,hb1⟩
 ·exact absurd hz h0
 ·obtain ⟨_,_,hl1,hb,hblk⟩:=res_facts hb1
  clear hb1
  go_upto_region 2 with fail
  obtain ⟨wx,hwx⟩:∃ wx,wx = w1.alloc (.cells #[.int .i64 (overP t b),.int .i64 (overQ t b)] 80):=⟨_,rfl⟩
  rw [← hwx]
  have hbx:=(show wx.heap[w.heap.size + 1]? = w1.heap[w.heap.size + 1]? by rw [hwx,Below.heap_alloc _ _ _ hl1]).trans hblk
  have hcx:∀ i,wx.cell? ⟨w.heap.size + 1,i,none⟩ = _:=fun i=>blk_cell hbx i
  have hfx:∀ i,wx.frozen? ⟨w.heap.size + 1,i,none⟩ = false:=fun i=>blk_free hbx i
  have hv:∀ i,wx.cell? ⟨w1.heap.size,i,none⟩ = (#[.int .i64 (overP t b),.int .i64 (overQ t b)]:Array Value)[i]?:=fun i=>by rw [hwx];exact blk_cell (heap_alloc_new w1 _) i
  have HB:=hide (show Below w.heap.size w wx by rw [hwx];exact hb.alloc hb.size _)
  clear hbx hb hblk hwx
  go_wp2_with fail
  exact bodyPost_ret (v:=.tuple #[PC.value (pcVal 42 (overP t b) (overQ t b)),.bool true]) (by simp [results,Tryz.results57,go_sem,hcx,PC.value,PC.cells,pcVal,ptr]) rfl ⟨rfl,st8_below (unhide HB) (Nat.le_succ _) _ _ _ _ _ _ _ _⟩
set_option maxRecDepth 100000 in
set_option maxHeartbeats 1600000 in
theorem oppLetter_any {c d:UInt8} (h:(c = 110 ∧ d = 110) ∨ (c = 118 ∧ d = 118) ∨ (c = 114 ∧ d = 114) ∨ (c = 113 ∧ d = 119) ∨ (c = 117 ∧ d = 119) ∨ (c = 119 ∧ d = 117) ∨ (c = 115 ∧ d = 122) ∨ (c = 122 ∧ d = 115) ∨ (c = 112 ∧ d = 111) ∨ (c = 109 ∧ d = 111) ∨ (c = 111 ∧ d = 109)) (w:World):Calls Tryz.prog 60 #[.int .u8 (c.toNat:Int)] w fun e w'=>e = .returned (.tuple #[PC.value (pcLet d),.bool true]) ∧ Below w.heap.size w w':=by
 rcases h with ⟨rfl,rfl⟩ | ⟨rfl,rfl⟩ | ⟨rfl,rfl⟩ | ⟨rfl,rfl⟩ | ⟨rfl,rfl⟩ | ⟨rfl,rfl⟩ | ⟨rfl,rfl⟩ | ⟨rfl,rfl⟩ | ⟨rfl,rfl⟩ | ⟨rfl,rfl⟩ | ⟨rfl,rfl⟩
 ·go_enter Tryz.func60,Tryz.ntmps60
  go_wp2_with fail
  exact bodyPost_ret (v:=.tuple #[PC.value (pcLet 110),.bool true]) (by simp [results,Tryz.results60,go_sem,PC.value,PC.cells,pcLet,ptr]) rfl ⟨rfl,(by repeat (first | exact Below.refl _ _ | refine below_dr ?_ _ | refine Below.drew ?_ | refine Below.setCell ?_ (by simp) _ | refine Below.alloc ?_ (by simp) _))⟩
 ·go_enter Tryz.func60,Tryz.ntmps60
  go_wp2_with fail
  exact bodyPost_ret (v:=.tuple #[PC.value (pcLet 118),.bool true]) (by simp [results,Tryz.results60,go_sem,PC.value,PC.cells,pcLet,ptr]) rfl ⟨rfl,(by repeat (first | exact Below.refl _ _ | refine below_dr ?_ _ | refine Below.drew ?_ | refine Below.setCell ?_ (by simp) _ | refine Below.alloc ?_ (by simp) _))⟩
 ·go_enter Tryz.func60,Tryz.ntmps60
  go_wp2_with fail
  exact bodyPost_ret (v:=.tuple #[PC.value (pcLet 114),.bool true]) (by simp [results,Tryz.results60,go_sem,PC.value,PC.cells,pcLet,ptr]) rfl ⟨rfl,(by repeat (first | exact Below.refl _ _ | refine below_dr ?_ _ | refine Below.drew ?_ | refine Below.setCell ?_ (by simp) _ | refine Below.alloc ?_ (by simp) _))⟩
 ·go_enter Tryz.func60,Tryz.ntmps60
  go_wp2_with fail
  exact bodyPost_ret (v:=.tuple #[PC.value (pcLet 119),.bool true]) (by simp [results,Tryz.results60,go_sem,PC.value,PC.cells,pcLet,ptr]) rfl ⟨rfl,(by repeat (first | exact Below.refl _ _ | refine below_dr ?_ _ | refine Below.drew ?_ | refine Below.setCell ?_ (by simp) _ | refine Below.alloc ?_ (by simp) _))⟩
 ·go_enter Tryz.func60,Tryz.ntmps60
  go_wp2_with fail
  exact bodyPost_ret (v:=.tuple #[PC.value (pcLet 119),.bool true]) (by simp [results,Tryz.results60,go_sem,PC.value,PC.cells,pcLet,ptr]) rfl ⟨rfl,(by repeat (first | exact Below.refl _ _ | refine below_dr ?_ _ | refine Below.drew ?_ | refine Below.setCell ?_ (by simp) _ | refine Below.alloc ?_ (by simp) _))⟩
 ·go_enter Tryz.func60,Tryz.ntmps60
  go_wp2_with fail
  exact bodyPost_ret (v:=.tuple #[PC.value (pcLet 117),.bool true]) (by simp [results,Tryz.results60,go_sem,PC.value,PC.cells,pcLet,ptr]) rfl ⟨rfl,(by repeat (first | exact Below.refl _ _ | refine below_dr ?_ _ | refine Below.drew ?_ | refine Below.setCell ?_ (by simp) _ | refine Below.alloc ?_ (by simp) _))⟩
 ·go_enter Tryz.func60,Tryz.ntmps60
  go_wp2_with fail
  exact bodyPost_ret (v:=.tuple #[PC.value (pcLet 122),.bool true]) (by simp [results,Tryz.results60,go_sem,PC.value,PC.cells,pcLet,ptr]) rfl ⟨rfl,(by repeat (first | exact Below.refl _ _ | refine below_dr ?_ _ | refine Below.drew ?_ | refine Below.setCell ?_ (by simp) _ | refine Below.alloc ?_ (by simp) _))⟩
 ·go_enter Tryz.func60,Tryz.ntmps60
  go_wp2_with fail
  exact bodyPost_ret (v:=.tuple #[PC.value (pcLet 115),.bool true]) (by simp [results,Tryz.results60,go_sem,PC.value,PC.cells,pcLet,ptr]) rfl ⟨rfl,(by repeat (first | exact Below.refl _ _ | refine below_dr ?_ _ | refine Below.drew ?_ | refine Below.setCell ?_ (by simp) _ | refine Below.alloc ?_ (by simp) _))⟩
 ·go_enter Tryz.func60,Tryz.ntmps60
  go_wp2_with fail
  exact bodyPost_ret (v:=.tuple #[PC.value (pcLet 111),.bool true]) (by simp [results,Tryz.results60,go_sem,PC.value,PC.cells,pcLet,ptr]) rfl ⟨rfl,(by repeat (first | exact Below.refl _ _ | refine below_dr ?_ _ | refine Below.drew ?_ | refine Below.setCell ?_ (by simp) _ | refine Below.alloc ?_ (by simp) _))⟩
 ·go_enter Tryz.func60,Tryz.ntmps60
  go_wp2_with fail
  exact bodyPost_ret (v:=.tuple #[PC.value (pcLet 111),.bool true]) (by simp [results,Tryz.results60,go_sem,PC.value,PC.cells,pcLet,ptr]) rfl ⟨rfl,(by repeat (first | exact Below.refl _ _ | refine below_dr ?_ _ | refine Below.drew ?_ | refine Below.setCell ?_ (by simp) _ | refine Below.alloc ?_ (by simp) _))⟩
 ·go_enter Tryz.func60,Tryz.ntmps60
  go_wp2_with fail
  exact bodyPost_ret (v:=.tuple #[PC.value (pcLet 109),.bool true]) (by simp [results,Tryz.results60,go_sem,PC.value,PC.cells,pcLet,ptr]) rfl ⟨rfl,(by repeat (first | exact Below.refl _ _ | refine below_dr ?_ _ | refine Below.drew ?_ | refine Below.setCell ?_ (by simp) _ | refine Below.alloc ?_ (by simp) _))⟩
theorem one_TmIs {B:Nat} {w W w3:World} {x:PC} {p:Pt} {sl':Value} (hB:B ≤ w.heap.size) (hW:W.heap.size = w.heap.size + 2) (hx:PtIs (fun k=>k < B) W x p) (hc:Chg (w.heap.size + 2) (.slice none 0 0) (W.alloc (.cells #[.slice none 0 0,.bool true,.bool true,.bool true] 51)) w3) (ht:TB (w.heap.size + 3) w3 (w.heap.size + 2) [p] sl' [x]) (v0 v1 v2 v3 v4 v5 v6 v7:Value):TmIs (Okw B w) (st8 w3 (w.heap.size + 1) v0 v1 v2 v3 v4 v5 v6 v7) (w.heap.size + 2) (.cons p .nil):=by
 refine ⟨sl',[x],⟨Or.inr (by omega),by rw [st8_heap _ _ _ _ _ _ _ _ _ (by omega)];exact ht.blk,⟨ht.row.1,?_⟩,fun g hg=>Or.inr (by have:=(ht.row.lt g hg).1;omega)⟩,?_⟩
 ·rcases ht.row.2 with h2 | ⟨g,cap,cur,hv,hg,hh,r⟩
  ·exact Or.inl h2
  ·exact Or.inr ⟨g,cap,cur,hv,Nat.zero_le _,by rw [st8_heap _ _ _ _ _ _ _ _ _ (by omega)];exact hh,r⟩
 ·rw [PsIs]
  refine ⟨x,[],rfl,PtIs.keeps (fun k hk hkl=>⟨?_,Or.inl hk⟩) _ _ hx,by rw [PsIs]⟩
  have hk':k < B:=hk
  rw [st8_heap _ _ _ _ _ _ _ _ _ (by omega),hc.block k (by simp;omega) (by omega) (by simp [Value.ownBlock]),Below.heap_alloc _ _ _ (by omega)]
set_option maxRecDepth 100000 in
set_option maxHeartbeats 1600000 in
theorem oppName_any {B:Nat} {w:World} {x:PC} {c:UInt8} {t:Tm} (hB:B ≤ w.heap.size) (h:PtIs (fun k=>k < B) w x (.name c t)) :
  Calls Tryz.prog 59 #[PC.value x] w fun e w'=>∃ x',e = .returned (PC.value x') ∧ PtIs (Okw B w) w' x' (Pt.name c t).opp ∧ Below w.heap.size w w':=by
 obtain ⟨L,N,K,Tp,Bt,pa,pn,pc,Bo,Ov⟩:=x
 have H:=hide h
 clear h
 show Calls _ _ #[.agg #[.int .u8 (L.toNat:Int),.int .u8 (N.toNat:Int),.int .i64 K,.int .i64 Tp,.int .i64 Bt,.slice pa pn pc,.pointer (Bo.map fun b=>⟨b,0,none⟩),.pointer (Ov.map fun b=>⟨b,0,none⟩)]] _ _
 go_enter Tryz.func59,Tryz.ntmps59
 go_wp2_with fail
 refine (newTerm_any _).mono ?_
 rintro e w1 ⟨rfl,rfl⟩
 go_wp2_with fail
 obtain ⟨W,hW⟩:∃ W,W = (w.alloc (.cells (PC.cells ⟨L,N,K,Tp,Bt,pa,pn,pc,Bo,Ov⟩).toArray 82)).alloc (.cells #[.int .u8 0,.int .u8 0,.int .i64 0,.int .i64 0,.int .i64 0,.slice none 0 0,.pointer none,.pointer none] 82):=⟨_,rfl⟩
 have hWs:W.heap.size = w.heap.size + 2:=by rw [hW];simp
 have hold:∀ k,k < w.heap.size → W.heap[k]? = w.heap[k]?:=fun k hk=>by rw [hW,Below.heap_alloc _ _ _ (by simp;omega),Below.heap_alloc _ _ _ hk]
 have hWr:W.heap[w.heap.size + 1]? = some (.cells #[.int .u8 0,.int .u8 0,.int .i64 0,.int .i64 0,.int .i64 0,.slice none 0 0,.pointer none,.pointer none] 82 (0,0)):=by rw [hW];exact new_at w _ _
 have hWb:Below w.heap.size w W:=by rw [hW];exact (below_box _).trans ((below_box _).mono (by simp))
 have hx:PtIs (fun k=>k < B) W ⟨L,N,K,Tp,Bt,pa,pn,pc,Bo,Ov⟩ (.name c t):=PtIs.keeps (fun k hk _=>⟨hold k (by have:k < B:=hk;omega),hk⟩) _ _ (unhide H)
 have hTB:TB (w.heap.size + 3) (W.alloc (.cells #[.slice none 0 0,.bool true,.bool true,.bool true] 51)) (w.heap.size + 2) [] (.slice none 0 0) []:=by
  have:=new_TB W
  rw [hWs] at this
  exact this
 have HX:=hide hx
 have HTB:=hide hTB
 clear hTB hx
 have hWx:W = (w.alloc (.cells #[.int .u8 (L.toNat:Int),.int .u8 (N.toNat:Int),.int .i64 K,.int .i64 Tp,.int .i64 Bt,.slice pa pn pc,.pointer (Bo.map fun b=>⟨b,0,none⟩),.pointer (Ov.map fun b=>⟨b,0,none⟩)] 82)).alloc (.cells #[.int .u8 0,.int .u8 0,.int .i64 0,.int .i64 0,.int .i64 0,.slice none 0 0,.pointer none,.pointer none] 82):=hW
 rw [← hWx]
 clear hW hWx
 refine (add_any (x:=⟨L,N,K,Tp,Bt,pa,pn,pc,Bo,Ov⟩) (Ok:=fun k=>k < B) (unhide HTB) (PtIs.keeps (fun k hk hl=>⟨Below.heap_alloc _ _ _ hl,hk⟩) _ _ (unhide HX)) (fun k hk=>⟨by have:k < B:=hk;omega,by simp [Value.ownBlock]⟩) (by simp)).mono ?_
 rintro e w3 ⟨rfl,hchg,sl',htb,_⟩
 have hr3:w3.heap[w.heap.size + 1]? = _:=((hchg.block (w.heap.size + 1) (by simp;omega) (by omega) (by simp [Value.ownBlock])).trans (Below.heap_alloc _ _ _ (by omega))).trans hWr
 have hc3:∀ i,w3.cell? ⟨w.heap.size + 1,i,none⟩ = _:=fun i=>blk_cell hr3 i
 have hf3:∀ i,w3.frozen? ⟨w.heap.size + 1,i,none⟩ = false:=fun i=>blk_free hr3 i
 have hb3:Below w.heap.size w w3:=hWb.trans ⟨hchg.os,hchg.tape,hchg.output,Nat.le_trans (by simp) hchg.size,fun k hk=>(hchg.block k (by simp;omega) (by omega) (by simp [Value.ownBlock])).trans (Below.heap_alloc _ _ _ (by omega))⟩
 have HT3:=hide (fun v0 v1 v2 v3 v4 v5 v6 v7=>one_TmIs hB hWs (unhide HX) hchg htb v0 v1 v2 v3 v4 v5 v6 v7)
 have HB3:=hide hb3
 clear hr3 hb3 hchg htb hWr hWb hold
 go_wp2_with fail
 exact bodyPost_ret (v:=PC.value (pcPow (-1) (some (w.heap.size + 2)))) (by simp [results,Tryz.results59,go_sem,hc3,PC.value,PC.cells,pcPow,ptr]) rfl ⟨pcPow (-1) (some (w.heap.size + 2)),rfl,by rw [Pt.opp];exact PtIs.pow_iff.2 ⟨rfl,rfl,_,rfl,unhide HT3 _ _ _ _ _ _ _ _⟩,st8_below (unhide HB3) (Nat.le_succ _) _ _ _ _ _ _ _ _⟩
def OppAt (q:Nat) (g:Tm) (B:Nat) (w:World):Prop:=∀ w',Below w.heap.size w w' → Calls Tryz.prog 23 #[.pointer (some ⟨q,0,none⟩)] w' fun e w2=>∃ tb,e = .returned (.tuple #[.pointer (some ⟨tb,0,none⟩),.bool true]) ∧ TmIs (Okw B w') w2 tb g.opp ∧ Below w'.heap.size w' w2
set_option maxRecDepth 100000 in
set_option maxHeartbeats 1600000 in
theorem oppUnder_of {B:Nat} {w:World} {s g:Tm} {n k t b:Int} {pa:Option Addr} {pn pc:Nat} {q q':Nat} (hB:B ≤ w.heap.size) (hO:OppAt q g B w) (hs:TmIs (fun k=>k < B) w q' s) :
  Calls Tryz.prog 58 #[.agg #[.int .u8 91,.int .u8 n,.int .i64 k,.int .i64 t,.int .i64 b,.slice pa pn pc,.pointer (some ⟨q,0,none⟩),.pointer (some ⟨q',0,none⟩)]] w fun e w'=>∃ x',e = .returned (.tuple #[PC.value x',.bool true]) ∧ PtIs (Okw B w) w' x' (Pt.under s g).opp ∧ Below w.heap.size w w':=by
 have HO:=hide hO
 have HS:=hide hs
 clear hO hs
 go_enter Tryz.func58,Tryz.ntmps58
 go_wp2_with fail
 refine (unhide HO _ ((below_box _).trans ((below_box _).mono (by simp)))).mono ?_
 rintro e w1 ⟨tb,rfl,ht,hb1⟩
 obtain ⟨hc1,hf1,hl1,hb,hblk⟩:=res_facts hb1
 obtain ⟨hca,hfa⟩:=bcell hb1
 have HB:=hide hb
 have HT:=hide ht
 have hbx:∀ i,w1.cell? ⟨w.heap.size,i,none⟩ = (#[.int .u8 91,.int .u8 n,.int .i64 k,.int .i64 t,.int .i64 b,.slice pa pn pc,.pointer (some ⟨q,0,none⟩),.pointer (some ⟨q',0,none⟩)]:Array Value)[i]?:=fun i=>(hca w.heap.size i (by simp;omega)).trans (blk_cell ((Below.heap_alloc _ _ _ (by simp)).trans (heap_alloc_new w _)) i)
 clear hca hfa hb ht hblk hb1
 go_wp2_with fail
 refine bodyPost_ret (v:=.tuple #[PC.value (pcUnd (some tb) (some q')),.bool true]) (by simp [results,Tryz.results58,go_sem,hc1,PC.value,PC.cells,pcUnd,ptr]) rfl ⟨pcUnd (some tb) (some q'),rfl,?_,st8_below (unhide HB) (Nat.le_succ _) _ _ _ _ _ _ _ _⟩
 rw [Pt.opp]
 refine PtIs.under_iff.2 ⟨rfl,⟨tb,rfl,(unhide HT).keeps (fun k hk _=>?_)⟩,q',rfl,(unhide HS).keeps (fun k hk _=>?_)⟩
 ·have hs2:∀ (o o':Obj),((w.alloc o).alloc o').heap.size = w.heap.size + 2:=fun o o'=>by simp
  have hk2:k < B ∨ w.heap.size + 2 ≤ k:=by
   rcases hk with hk | hk
   ·exact Or.inl hk
   ·rw [hs2] at hk;exact Or.inr hk
  exact ⟨st8_heap _ _ _ _ _ _ _ _ _ (by omega),hk2.imp id (fun h=>by omega)⟩
 ·have hk':k < B:=hk
  exact ⟨(st8_heap _ _ _ _ _ _ _ _ _ (by omega)).trans ((unhide HB).block k (by omega)),Or.inl hk⟩
end Go.Proofs.YtikiaijgcjjloabGreatDoor

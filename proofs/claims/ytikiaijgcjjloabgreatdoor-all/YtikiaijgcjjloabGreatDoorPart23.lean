import Derived.Test.YtikiaijgcjjloabGreatDoorPart22
import Derived.Test.YtikiaijgcjjloabGreatDoorPart16

namespace Go.Proofs.YtikiaijgcjjloabGreatDoor
open Go Go.RowKit M T Go.Lib
def bk (ps:List Pt) (j:Nat):List Pt:=(ps.reverse.take j).map Pt.opp
theorem bk_zero (ps:List Pt):bk ps 0 = []:=by unfold bk;simp
theorem bk_step (ps:List Pt) (j:Nat) (hj:j < ps.length):bk ps (j + 1) = bk ps j ++ [(ps[ps.length - 1 - j]'(by omega)).opp]:=by
 unfold bk
 rw [List.take_succ_eq_append_getElem (by simpa using hj),List.map_append,List.getElem_reverse]
 simp only [List.map_cons,List.map_nil]
theorem bk_step' (ps:List Pt) (i j:Nat) (h:i + j + 1 = ps.length):bk ps (j + 1) = bk ps j ++ [(ps[i]'(by omega)).opp]:=by
 rw [bk_step ps j (by omega)]
 have e:ps.length - 1 - j = i:=by omega
 simp only [e]
theorem bk_all (ps:List Pt) (j:Nat) (hj:ps.length ≤ j):Tm.of (bk ps j) = (Tm.of ps).opp:=by
 unfold bk
 rw [List.take_of_length_le (by simpa using hj),Tm.opp_of]
structure OR (B:Nat) (ps:List Pt) (w:World) (j:Nat) (sl:Value) (ys:List PC) (wr:World):Prop where
 bel:Below w.heap.size w wr
 tb:TB (w.heap.size + 1) wr w.heap.size (bk ps j) sl ys
 parts:PsIs (fun k=>(k < B ∨ w.heap.size + 1 ≤ k) ∧ sl.ownBlock ≠ some k) wr ys (Tm.of (bk ps j))
theorem OR.out {B:Nat} {ps:List Pt} {w:World} {j:Nat} {sl:Value} {ys:List PC} {wr:World} (h:OR B ps w j sl ys wr) (hj:ps.length ≤ j):TmIs (Okw B w) wr w.heap.size (Tm.of ps).opp:=by
 rw [← bk_all ps j hj]
 refine ⟨sl,ys,⟨Or.inr (Nat.le_refl _),h.tb.blk,⟨h.tb.row.1,?_⟩,fun g hg=>Or.inr ?_⟩,PsIs.keeps (fun k hk _=>⟨rfl,?_⟩) _ _ h.parts⟩
 ·rcases h.tb.row.2 with h2 | ⟨g,cap,cur,hv,hg,r⟩
  ·exact Or.inl h2
  ·exact Or.inr ⟨g,cap,cur,hv,Nat.zero_le _,r⟩
 ·have:=(h.tb.row.lt g hg).1;omega
 ·exact hk.1.imp id (fun h=>by omega)
theorem OR.okp {B:Nat} {ps:List Pt} {w:World} {j:Nat} {sl:Value} {ys:List PC} {wr:World} (h:OR B ps w j sl ys wr) (hB:B ≤ w.heap.size):∀ k,Okw B wr k → k ≠ w.heap.size ∧ sl.ownBlock ≠ some k:=by
 have hl:=lt_of_block h.tb.blk
 intro k hk
 refine ⟨by rcases hk with hk | hk <;> omega,fun e=>?_⟩
 have:=h.tb.row.lt k e
 rcases hk with hk | hk <;> omega
theorem owns_belowP {w w1:World} {B:Nat} {e:TypeId} {size:Nat} {v:Value} {n:Nat} {xs:List Value} (h:w.ownsRow B e size v n xs) (hb:Below w.heap.size w w1):w1.ownsRow B e size v n xs:=by
 refine ⟨h.1,?_⟩
 rcases h.2 with h2 | ⟨g,cap,cur,hv,hg,hh,r⟩
 ·exact Or.inl h2
 ·exact Or.inr ⟨g,cap,cur,hv,hg,by rw [hb.block g (lt_of_block hh)];exact hh,r⟩
theorem OR.mid {B:Nat} {ps:List Pt} {w:World} {j:Nat} {sl:Value} {ys:List PC} {wr w2:World} (h:OR B ps w j sl ys wr) (hb2:Below wr.heap.size wr w2) (o:Obj):TB (w.heap.size + 1) (w2.alloc o) w.heap.size (bk ps j) sl ys:=by
 have hl:=lt_of_block h.tb.blk
 have hs:=hb2.size
 have hle:=h.tb.le
 refine ⟨?_,(owns_belowP h.tb.row hb2).alloc o,h.tb.lt,by simp;omega⟩
 rw [Below.heap_alloc _ _ _ (by omega),hb2.block _ hl]
 exact h.tb.blk
theorem OR.next {B:Nat} {ps:List Pt} {w:World} {j:Nat} {sl:Value} {ys:List PC} {wr w2 w3:World} (h:OR B ps w j sl ys wr) (hB:B ≤ w.heap.size) {p:Pt} {x:PC} {o:Obj} {sl':Value} (hb:Below wr.heap.size wr w2) (hbk:bk ps (j + 1) = bk ps j ++ [p]) (hx:PtIs (Okw B wr) w2 x p) (hc:Chg w.heap.size sl (w2.alloc o) w3) (ht:TB (w.heap.size + 1) w3 w.heap.size (bk ps j ++ [p]) sl' (ys ++ [x])) (hw:sl'.ownBlock = sl.ownBlock ∨ ∀ g,sl'.ownBlock = some g → (w2.alloc o).heap.size ≤ g):OR B ps w (j + 1) sl' (ys ++ [x]) w3:=by
 have hl:=lt_of_block h.tb.blk
 have hs1:wr.heap.size ≤ w2.heap.size:=hb.size
 have hs2:(w2.alloc o).heap.size = w2.heap.size + 1:=by simp
 have hrow:∀ k,sl.ownBlock = some k → w.heap.size + 1 ≤ k ∧ k < wr.heap.size:=fun k hk=>h.tb.row.lt k hk
 have hold:∀ k,k < w2.heap.size → k ≠ w.heap.size → sl.ownBlock ≠ some k → w3.heap[k]? = w2.heap[k]?:=fun k hk h1 h2=>by
  rw [hc.block k (by omega) h1 h2,Below.heap_alloc _ _ _ hk]
 refine ⟨?_,by rw [hbk];exact ht,?_⟩
 ·have hb':=h.bel.trans (hb.mono h.bel.size)
  refine ⟨hc.os.trans hb'.os,hc.tape.trans hb'.tape,hc.output.trans hb'.output,Nat.le_trans (Nat.le_trans hb'.size (by omega)) hc.size,fun k hk=>?_⟩
  rw [hold k (by have:=hb'.size;omega) (by omega) (fun e=>by have:=hrow k e;omega)]
  exact hb'.block k hk
 ·rw [hbk]
  refine PsIs.of_snoc _ ys p x (PsIs.keeps (fun k hk hkl=>?_) _ _ h.parts) (PtIs.keeps (fun k hk hkl=>?_) _ _ hx)
  ·obtain ⟨hk1,hk2⟩:=hk
   have hktb:k ≠ w.heap.size:=by rcases hk1 with hk1 | hk1 <;> omega
   refine ⟨(hold k (by omega) hktb hk2).trans (hb.block k hkl),hk1,fun e=>?_⟩
   rcases hw with hw | hw
   ·rw [hw] at e;exact hk2 e
   ·have:=hw k e;omega
  ·obtain ⟨hk1,hk2⟩:=h.okp hB k hk
   refine ⟨hold k hkl hk1 hk2,hk.imp id (fun h=>by omega),fun e=>?_⟩
   rcases hw with hw | hw
   ·rw [hw] at e;exact hk2 e
   ·have:=hw k e;omega
theorem all_back (ps:List Pt) (h:(Tm.of ps).back = true):∀ p ∈ ps,p.back = true:=by
 induction ps with
 | nil=>intro p hp;cases hp
 | cons q ps ih=>
  rw [Tm.of,Tm.back,Bool.and_eq_true] at h
  intro p hp
  rcases List.mem_cons.1 hp with e | hp
  ·rw [e];exact h.1
  ·exact ih h.2 p hp
set_option maxRecDepth 100000 in
set_option maxHeartbeats 3200000 in
theorem opp_loop (ps:List Pt) (hP:∀ p ∈ ps,PtOpp p) (hw:∀ p ∈ ps,p.wf) (hbk:(Tm.of ps).back = true) (hl:ps.length ≤ 1000) (B:Nat) (b:Nat) (w:World) (hB:B ≤ w.heap.size) (h:TmIs (fun k=>k < B) w b (Tm.of ps)) :
  Calls Tryz.prog 23 #[.pointer (some ⟨b,0,none⟩)] w fun e w'=>∃ tb,e = .returned (.tuple #[.pointer (some ⟨tb,0,none⟩),.bool true]) ∧ TmIs (Okw B w) w' tb (Tm.of ps).opp ∧ Below w.heap.size w w':=by
 obtain ⟨sl,xs,hd,hps⟩:=h
 have hlen:=PsIs.length ps xs hps
 have hbB:b < B:=hd.ok
 have hcb:∀ i,w.cell? ⟨b,i,none⟩ = (#[sl,.bool true,.bool (Tm.of ps).picker,.bool (Tm.of ps).plain]:Array Value)[i]?:=fun i=>by rw [blk_cell hd.blk,hbk]
 have hc1:w.cell? ⟨b,1,none⟩ = some (.bool true):=hcb 1
 have hc0:w.cell? ⟨b,0,none⟩ = some sl:=hcb 0
 have hblt:b < w.heap.size:=by omega
 have HD:=hide hd
 have HPS:=hide hps
 have HP:=hide hP
 have HW:=hide hw
 have HBK:=hide (all_back ps hbk)
 have HLen:=hide hlen
 have HS:Hid (OR B ps w 0 (.slice none 0 0) [] (w.alloc (.cells #[.slice none 0 0,.bool true,.bool true,.bool true] 51))):=by
  refine ⟨below_box _,?_,?_⟩
  ·rw [bk_zero];exact new_TB w
  ·rw [bk_zero,Tm.of,PsIs]
 have hsl:(∃ g cap,sl = .slice (some ⟨g,0,none⟩) xs.length cap ∧ g < w.heap.size) ∨ (sl = .slice none 0 0 ∧ xs.length = 0):=by
  rcases hd.row.2 with ⟨h1,h2⟩ | ⟨g,cap,cur,hv,_,hh,_⟩
  ·exact Or.inr ⟨h1,h2⟩
  ·exact Or.inl ⟨g,cap,hv,lt_of_block hh⟩
 obtain ⟨ao,cap,hsv⟩:∃ ao cap,sl = .slice ao xs.length cap:=by
  rcases hsl with ⟨g,cap,e,_⟩ | ⟨e,h0⟩
  ·exact ⟨_,_,e⟩
  ·exact ⟨none,0,by rw [e,h0]⟩
 have HSL:=hide hsl
 have hxl:xs.length ≤ 1000:=by omega
 subst hsv
 clear hd hps hP hw hbk hlen hsl hcb hl
 go_enter Tryz.func23,Tryz.ntmps23
 go_wp2_with fail
 refine (newTerm_any _).mono ?_
 rintro e w1 ⟨rfl,rfl⟩
 go_wp2_with fail
 go_loopg [5] xs.length (fun k v wr=>∃ (m j:Nat) (sl':Value) (ys:List PC),m + j = xs.length ∧ k = m ∧ v = .int .i64 ((m:Int) - 1) ∧ ys.length = j ∧ OR B ps w j sl' ys wr)
 case atStart=>exact ⟨xs.length,0,.slice none 0 0,[],by omega,rfl,rfl,rfl,unhide HS⟩
 case round=>
  obtain ⟨m,j,sl',ys,hmj,hk,hv,hyl,hR⟩:=hrel
  have HR:=hide hR
  have HK:=hide hk
  clear hk hR HS
  cases m with
  | zero=>
   have hv':_ = Value.int .i64 (-1):=hv
   subst hv'
   go_wp2_with fail
   exact bodyPost_ret (v:=.tuple #[.pointer (some ⟨w.heap.size,0,none⟩),.bool true]) (by simp [results,Tryz.results23,go_sem]) rfl ⟨w.heap.size,rfl,(unhide HR).out (by have:=unhide HLen;omega),(unhide HR).bel⟩
  | succ i=>
   have hv':_ = Value.int .i64 (i:Int):=hv.trans (congrArg (Value.int .i64) (by omega))
   subst hv'
   have hip:i < ps.length:=by have:=unhide HLen;omega
   have hix:i < xs.length:=by omega
   obtain ⟨g,cap2,hsv2,hg⟩:∃ g cap2,Value.slice ao xs.length cap = .slice (some ⟨g,0,none⟩) xs.length cap2 ∧ g < w.heap.size:=by
    rcases unhide HSL with h | ⟨_,h⟩
    ·exact h
    ·omega
   cases hsv2
   have hbel:=(unhide HR).bel
   have hc0r:wr.cell? ⟨b,0,none⟩ = some (.slice (some ⟨g,0,none⟩) xs.length cap):=(hbel.cell (p:=⟨b,0,none⟩) hblt).trans hc0
   have hcell:∀ l,l < 8 → wr.cell? ⟨g,i * 8 + l,none⟩ = (xs[i].cells)[l]?:=fun l hl=>(hbel.cell (p:=⟨g,i * 8 + l,none⟩) hg).trans (row_cell (unhide HD).row hix l hl)
   have hpt:=PsIs.get ps xs (unhide HPS) i hip hix
   have HST:=hide (bk_step' ps i j (by have:=unhide HLen;omega))
   have HC:=hide (unhide HP ps[i] (List.getElem_mem hip) (unhide HW _ (List.getElem_mem hip)) (unhide HBK _ (List.getElem_mem hip)) B)
   generalize xs[i] = x at hcell hpt
   generalize ps[i] = p at hpt HST HC
   obtain ⟨L,N,K,Tp,Bt,pa,pn,pc,Bo,Ov⟩:=x
   have c0:wr.cell? ⟨g,i * 8,none⟩ = some (.int .u8 (L.toNat:Int)):=hcell 0 (by omega)
   have c1:wr.cell? ⟨g,i * 8 + 1,none⟩ = some (.int .u8 (N.toNat:Int)):=hcell 1 (by omega)
   have c2:wr.cell? ⟨g,i * 8 + 2,none⟩ = some (.int .i64 K):=hcell 2 (by omega)
   have c3:wr.cell? ⟨g,i * 8 + 3,none⟩ = some (.int .i64 Tp):=hcell 3 (by omega)
   have c4:wr.cell? ⟨g,i * 8 + 4,none⟩ = some (.int .i64 Bt):=hcell 4 (by omega)
   have c5:wr.cell? ⟨g,i * 8 + 5,none⟩ = some (.slice pa pn pc):=hcell 5 (by omega)
   have c6:wr.cell? ⟨g,i * 8 + 6,none⟩ = some (.pointer (Bo.map fun b=>⟨b,0,none⟩)):=hcell 6 (by omega)
   have c7:wr.cell? ⟨g,i * 8 + 7,none⟩ = some (.pointer (Ov.map fun b=>⟨b,0,none⟩)):=hcell 7 (by omega)
   have HPT:=hide hpt
   have HBe:=hide hbel
   have hszr:=hbel.size
   clear hcell hpt hbel hv
   go_wp2_with fail
   refine (unhide HC ⟨L,N,K,Tp,Bt,pa,pn,pc,Bo,Ov⟩ _ (by omega) (PtIs.keeps (fun k hk hkl=>⟨(unhide HBe).block k hkl,hk⟩) _ _ (unhide HPT))).mono ?_
   rintro e w2 ⟨⟨L',N',K',T',B',a',n',c',b',o'⟩,rfl,hp2,hb2⟩
   rw [(show PC.value ⟨L',N',K',T',B',a',n',c',b',o'⟩ = .agg #[.int .u8 (L'.toNat:Int),.int .u8 (N'.toNat:Int),.int .i64 K',.int .i64 T',.int .i64 B',.slice a' n' c',.pointer (b'.map fun b=>⟨b,0,none⟩),.pointer (o'.map fun b=>⟨b,0,none⟩)] from rfl)]
   have HP2:=hide hp2
   have HB2:=hide hb2
   clear hp2 hb2
   go_wp2_with fail
   refine (add_any (x:=⟨L',N',K',T',B',a',n',c',b',o'⟩) (Ok:=Okw B wr) ((unhide HR).mid (unhide HB2) _) (PtIs.keeps (fun k hk hl=>⟨Below.heap_alloc _ _ _ hl,hk⟩) _ _ (unhide HP2)) ((unhide HR).okp hB) (by omega)).mono ?_
   rintro e w3 ⟨rfl,hchg,sl2,htb,hwh⟩
   have HN3:=hide ((unhide HR).next hB (unhide HB2) (unhide HST) (unhide HP2) hchg htb hwh)
   clear hchg htb hwh
   go_wp2_with fail
   go_roundg i
   case measure=>rw [unhide HK];omega
   case rel=>exact ⟨i,j + 1,sl2,ys ++ [⟨L',N',K',T',B',a',n',c',b',o'⟩],by omega,rfl,rfl,by rw [List.length_append,hyl];rfl,unhide HN3⟩
theorem oppAt_of {f:Tm} (hP:∀ p ∈ f.parts,PtOpp p) (hw:f.wf) (hb:f.back = true) (hl:f.text.length ≤ 1000) {B b:Nat} {w:World} (hB:B ≤ w.heap.size) (h:TmIs (fun k=>k < B) w b f):OppAt b f B w:=by
 intro w' hbel
 have e:=Tm.of_parts f
 have hw':(Tm.of f.parts).wf:=by rw [e];exact hw
 have key:∀ qs:List Pt,qs.length ≤ (Tm.of qs).text.length:=by
  intro qs
  induction qs with
  | nil=>simp
  | cons q qs ih=>
   obtain ⟨l,e⟩:=Pt.text_first q
   rw [Tm.of,Tm.text,e,List.length_append,List.length_cons,List.length_cons]
   omega
 have hpl:=key f.parts
 rw [e] at hpl
 have:=opp_loop f.parts hP ((Tm.of_wf f.parts).1 hw') (by rw [e];exact hb) (by omega) B b w' (Nat.le_trans hB hbel.size) (by rw [e];exact h.keeps (fun k hk hkl=>⟨hbel.block k hkl,hk⟩))
 rw [e] at this
 exact this
def PtOppL (p:Pt):Prop:=p.text.length ≤ 1000 → PtOpp p
theorem part_len (f:Tm):∀ p ∈ f.parts,p.text.length ≤ f.text.length:=by
 intro p hp
 obtain ⟨i,hi,rfl⟩:=List.getElem_of_mem hp
 have:=text_get_len f.parts i hi
 rw [Tm.of_parts] at this
 exact this
mutual
theorem Pt.opp_call:∀ p:Pt,PtOppL p
 | .sp y=>by
  intro hl hw hb B x w hB h
  obtain ⟨L,N,K,Tp,Bt,pa,pn,pc,Bo,Ov⟩:=x
  have h1:L = y.first:=by rw [PtIs] at h;exact h.1
  subst h1
  rw [Pt.wf] at hw
  cases y with
  | n=>exact opp_n hb hB h
  | v=>exact opp_v hb hB h
  | q=>exact opp_q hb hB h
  | w=>exact opp_w hb hB h
  | u=>exact opp_u hb hB h
  | r=>exact opp_r hb hB h
  | s=>exact opp_s hb hB h
  | z=>exact opp_z hb hB h
  | p=>exact opp_p hb hB h
  | m=>exact opp_m hb hB h
  | o=>exact opp_o hb hB h
  | plus c=>exact opp_plus hw hb hB h
  | times c=>exact opp_times hw hb hB h
  | shift k=>exact opp_shift hw.1 hw.2 hb hB h
  | a=>rw [Pt.back] at hb;cases hb
  | set c=>rw [Pt.back] at hb;cases hb
  | take k=>rw [Pt.back] at hb;cases hb
  | drop k=>rw [Pt.back] at hb;cases hb
  | pick ps=>rw [Pt.back] at hb;cases hb
 | .pow f k=>by
  intro hl hw hb B x w hB h
  obtain ⟨L,N,K,Tp,Bt,pa,pn,pc,Bo,Ov⟩:=x
  obtain ⟨h1,h2,b,h3,h4⟩:=PtIs.pow_iff.1 h
  have h1':L = 40:=h1
  have h3':Bo = some b:=h3
  subst h1' h3'
  rw [Pt.wf] at hw
  exact opp_pow hw.2.1 hw.2.2 hb hB h
 | .under s g=>by
  intro hl hw hb B x w hB h
  obtain ⟨L,N,K,Tp,Bt,pa,pn,pc,Bo,Ov⟩:=x
  obtain ⟨h1,⟨b,h3,h4⟩,b',h5,h6⟩:=PtIs.under_iff.1 h
  have h1':L = 91:=h1
  have h3':Bo = some b:=h3
  have h5':Ov = some b':=h5
  subst h1' h3' h5'
  have hw2:=hw
  rw [Pt.wf] at hw2
  have hb2:=hb
  rw [Pt.back,Bool.and_eq_true] at hb2
  have hgl:g.text.length ≤ 1000:=by rw [Pt.text] at hl;simp at hl;omega
  exact opp_under hb hB (oppAt_of (fun p hp=>Tm.opp_all g p hp (Nat.le_trans (part_len g p hp) hgl)) hw2.2 hb2.1 hgl hB h4) h
 | .name c t=>by
  intro hl hw hb B x w hB h
  obtain ⟨L,N,K,Tp,Bt,pa,pn,pc,Bo,Ov⟩:=x
  have h1':L = 65:=(PtIs.name_iff.1 h).1
  subst h1'
  exact opp_name hb hB h
theorem Tm.opp_all:∀ t:Tm,∀ p ∈ t.parts,PtOppL p
 | .nil=>fun p h=>by rw [Tm.parts] at h;cases h
 | .cons q t=>fun p h=>by
  rw [Tm.parts] at h
  rcases List.mem_cons.1 h with e | h
  ·rw [e];exact Pt.opp_call q
  ·exact Tm.opp_all t p h
end
theorem tOpp_any {t:Tm} (hw:t.wf) (hb:t.back = true) (hl:t.text.length ≤ 1000) {b:Nat} {w:World} {Ok:Nat → Prop} (h:TmIs Ok w b t):Calls Tryz.prog 23 #[.pointer (some ⟨b,0,none⟩)] w fun e w'=>∃ tb,e = .returned (.tuple #[.pointer (some ⟨tb,0,none⟩),.bool true]) ∧ TmIs (Okw w.heap.size w) w' tb t.opp ∧ Below w.heap.size w w' :=
 oppAt_of (fun p hp=>Tm.opp_all t p hp (Nat.le_trans (part_len t p hp) hl)) hw hb hl (Nat.le_refl _) (h.keeps (fun _ _ hkl=>⟨rfl,hkl⟩)) w (Below.refl _ _)
set_option maxRecDepth 100000 in
set_option maxHeartbeats 800000 in
theorem tOpp_no {t:Tm} (hb:t.back = false) {b:Nat} {w:World} {Ok:Nat → Prop} (h:TmIs Ok w b t):Calls Tryz.prog 23 #[.pointer (some ⟨b,0,none⟩)] w fun e w'=>e = .returned (.tuple #[.pointer none,.bool false]) ∧ Below w.heap.size w w':=by
 have hc:=h.cells.2.1
 rw [hb] at hc
 clear h hb
 go_enter Tryz.func23,Tryz.ntmps23
 go_wp2_with fail
 exact bodyPost_ret (v:=.tuple #[.pointer none,.bool false]) (by simp [results,Tryz.results23,go_sem]) rfl ⟨rfl,(by repeat (first | exact Below.refl _ _ | refine below_dr ?_ _ | refine Below.drew ?_ | refine Below.setCell ?_ (by simp) _ | refine Below.alloc ?_ (by simp) _))⟩
theorem blk_ty {w:World} {k:Nat} {c c':Array Value} {t t':TypeId} (h:w.heap[k]? = some (.cells c t (0,0))) (h':w.heap[k]? = some (.cells c' t' (0,0))):t = t':=by
 rw [h] at h'
 exact (Obj.cells.inj (Option.some.inj h')).2.1
def PTy (ty:TypeId):Prop:=ty = 51 ∨ ty = 82 ∨ ty = 3
def PTk (w:World) (k:Nat):Prop:=∃ c ty,w.heap[k]? = some (.cells c ty (0,0)) ∧ PTy ty
theorem owns_ptk {w:World} {e:TypeId} {size:Nat} {v:Value} {n:Nat} {xs:List Value} (h:w.ownsRow 0 e size v n xs) (he:PTy e):∀ g,v.ownBlock = some g → PTk w g:=by
 intro g hg
 rcases h.2 with ⟨h2,_⟩ | ⟨g',cap,cur,hv,_,hh,_⟩
 ·rw [h2] at hg;cases hg
 ·rw [hv] at hg;cases hg
  exact ⟨cur,e,hh,he⟩
theorem Hd.ptk {Ok:Nat → Prop} {w:World} {b:Nat} {t:Tm} {sl:Value} {xs:List PC} (h:Hd Ok w b t sl xs):Hd (fun k=>Ok k ∧ PTk w k) w b t sl xs :=
 ⟨⟨h.ok,_,_,h.blk,Or.inl rfl⟩,h.blk,h.row,fun g hg=>⟨h.rok g hg,owns_ptk h.row (Or.inr (Or.inl rfl)) g hg⟩⟩
theorem SpIs.ptk {Ok:Nat → Prop} {w:World} {x:PC} {y:Sp} (h:SpIs Ok w x y):SpIs (fun k=>Ok k ∧ PTk w k) w x y:=by
 refine ⟨h.1,?_⟩
 have h2:=h.2
 cases y <;> first
  | exact ⟨h2.1,fun g hg=>⟨h2.2 g hg,owns_ptk h2.1 (Or.inr (Or.inr rfl)) g hg⟩⟩
  | exact h2
mutual
theorem PtIs.ptk {Ok:Nat → Prop} {w:World}:∀ (p:Pt) (x:PC),PtIs Ok w x p → PtIs (fun k=>Ok k ∧ PTk w k) w x p
 | .sp y,x,h=>by rw [PtIs] at h ⊢;exact h.ptk
 | .pow f k,x,h=>by
  rw [PtIs] at h ⊢
  obtain ⟨h1,h2,b,sl,xs,h3,h4,h5⟩:=h
  exact ⟨h1,h2,b,sl,xs,h3,h4.ptk,PsIs.ptk f xs h5⟩
 | .under s g,x,h=>by
  rw [PtIs] at h ⊢
  obtain ⟨h1,⟨b,sl,xs,h3,h4,h5⟩,b',sl',xs',h3',h4',h5'⟩:=h
  exact ⟨h1,⟨b,sl,xs,h3,h4.ptk,PsIs.ptk g xs h5⟩,b',sl',xs',h3',h4'.ptk,PsIs.ptk s xs' h5'⟩
 | .name c t,x,h=>by
  rw [PtIs] at h ⊢
  obtain ⟨h1,h2,b,sl,xs,h3,h4,h5⟩:=h
  exact ⟨h1,h2,b,sl,xs,h3,h4.ptk,PsIs.ptk t xs h5⟩
theorem PsIs.ptk {Ok:Nat → Prop} {w:World}:∀ (t:Tm) (l:List PC),PsIs Ok w l t → PsIs (fun k=>Ok k ∧ PTk w k) w l t
 | .nil,l,h=>by rw [PsIs] at h ⊢;exact h
 | .cons p t,l,h=>by
  rw [PsIs] at h ⊢
  obtain ⟨x,xs,h1,h2,h3⟩:=h
  exact ⟨x,xs,h1,PtIs.ptk p x h2,PsIs.ptk t xs h3⟩
end
theorem TmIs.ptk {Ok:Nat → Prop} {w:World} {b:Nat} {t:Tm} (h:TmIs Ok w b t):TmIs (fun k=>Ok k ∧ PTk w k) w b t:=by
 obtain ⟨sl,xs,h1,h2⟩:=h
 exact ⟨sl,xs,h1.ptk,PsIs.ptk t xs h2⟩
theorem str1 (c:UInt8) (l:List UInt8):(⟨#[c]⟩:ByteArray) ++ (⟨l.toArray⟩:ByteArray) = ⟨(c :: l).toArray⟩:=by
 apply ByteArray.ext;simp
theorem below_then {w w1:World} {o:Obj} (h:Below (w.alloc o).heap.size (w.alloc o) w1):Below w.heap.size w w1:=(below_box o).trans (h.mono (by simp))
def TextAt (q:Nat) (l:List UInt8) (w:World):Prop:=∀ w',Below w.heap.size w w' → Calls Tryz.prog 24 #[.pointer (some ⟨q,0,none⟩)] w' fun e w2=>e = .returned (.string ⟨l.toArray⟩) ∧ Below w'.heap.size w' w2
set_option maxRecDepth 100000 in
set_option maxHeartbeats 800000 in
theorem text_letter {c:UInt8} (hc:c = 110 ∨ c = 118 ∨ c = 97 ∨ c = 113 ∨ c = 119 ∨ c = 117 ∨ c = 114 ∨ c = 115 ∨ c = 122 ∨ c = 112 ∨ c = 109 ∨ c = 111) {n k t b:Int} {pa:Option Addr} {pn pc:Nat} {bo ov:Option Addr} (w:World):Calls Tryz.prog 38 #[.agg #[.int .u8 (c.toNat:Int),.int .u8 n,.int .i64 k,.int .i64 t,.int .i64 b,.slice pa pn pc,.pointer bo,.pointer ov]] w fun e w'=>e = .returned (.string ⟨#[c]⟩) ∧ Below w.heap.size w w':=by
 rcases hc with rfl | rfl | rfl | rfl | rfl | rfl | rfl | rfl | rfl | rfl | rfl | rfl
 all_goals
  go_enter Tryz.func38,Tryz.ntmps38
  go_wp2_with fail
  go_ret
  exact ⟨ret_str (by rfl),(by repeat (first | exact Below.refl _ _ | refine below_dr ?_ _ | refine Below.drew ?_ | refine Below.setCell ?_ (by simp) _ | refine Below.alloc ?_ (by simp) _))⟩
set_option maxRecDepth 100000 in
set_option maxHeartbeats 800000 in
theorem text_valued {c:UInt8} (hc:c = 43 ∨ c = 42 ∨ c = 61) {n k t b:Int} {pa:Option Addr} {pn pc:Nat} {bo ov:Option Addr} (w:World) (h1:-1000000000 ≤ t) (h2:t ≤ 1000000000) (h3:1 ≤ b) (h4:b ≤ 1000000000) (ht:Tab w):Calls Tryz.prog 38 #[.agg #[.int .u8 (c.toNat:Int),.int .u8 n,.int .i64 k,.int .i64 t,.int .i64 b,.slice pa pn pc,.pointer bo,.pointer ov]] w fun e w'=>e = .returned (.string ⟨(c :: numText t b).toArray⟩) ∧ Below w.heap.size w w':=by
 have HT:=hide ht
 clear ht
 have hln:(numText t b).length ≤ 100:=by
  unfold numText
  have e1:=itoa_len t h1 h2
  have e2:=dec_len_ten b.toNat (by omega)
  split <;> simp <;> omega
 have e43:Utf8.encode 43 = ⟨#[43]⟩:=rfl
 have e42:Utf8.encode 42 = ⟨#[42]⟩:=rfl
 have e61:Utf8.encode 61 = ⟨#[61]⟩:=rfl
 rcases hc with rfl | rfl | rfl
 all_goals
  go_enter Tryz.func38,Tryz.ntmps38
  go_wp2_with fail
  refine (Text_any t b _ h1 h2 h3 h4 (tab_alloc (unhide HT) _)).mono ?_
  rintro e w1 ⟨rfl,hb1⟩
  go_wp2_with fail
  go_ret
  exact ⟨ret_str (str1 _ _),below_then hb1⟩
set_option maxRecDepth 100000 in
set_option maxHeartbeats 800000 in
theorem text_counted {c:UInt8} (hc:c = 60 ∨ c = 116 ∨ c = 100) {n k t b:Int} {pa:Option Addr} {pn pc:Nat} {bo ov:Option Addr} (w:World) (h1:-1000000000 ≤ k) (h2:k ≤ 1000000000) (ht:Tab w):Calls Tryz.prog 38 #[.agg #[.int .u8 (c.toNat:Int),.int .u8 n,.int .i64 k,.int .i64 t,.int .i64 b,.slice pa pn pc,.pointer bo,.pointer ov]] w fun e w'=>e = .returned (.string ⟨(c :: itoa k).toArray⟩) ∧ Below w.heap.size w w':=by
 have HT:=hide ht
 clear ht
 have hln:=itoa_len k h1 h2
 have e60:Utf8.encode 60 = ⟨#[60]⟩:=rfl
 have e116:Utf8.encode 116 = ⟨#[116]⟩:=rfl
 have e100:Utf8.encode 100 = ⟨#[100]⟩:=rfl
 rcases hc with rfl | rfl | rfl
 all_goals
  go_enter Tryz.func38,Tryz.ntmps38
  go_wp2_with fail
  refine (itoa_any k _ (by omega) (by omega) (tab_alloc (unhide HT) _)).mono ?_
  rintro e w1 ⟨rfl,hb1⟩
  go_wp2_with fail
  go_ret
  exact ⟨ret_str (str1 _ _),below_then hb1⟩
set_option maxRecDepth 100000 in
set_option maxHeartbeats 800000 in
theorem text_pick {n k t b:Int} {bo ov:Option Addr} (w:World) (g cap:Nat) (ps:List Nat) (hc:∀ i (h:i < ps.length),w.cell? ⟨g,i,none⟩ = some (.int .i64 (ps[i]:Int))) (hg:g < w.heap.size) (hs:∀ i ∈ ps,i < 12) (hl:ps.length ≤ 100000) (ht:Tab w):Calls Tryz.prog 38 #[.agg #[.int .u8 35,.int .u8 n,.int .i64 k,.int .i64 t,.int .i64 b,.slice (some ⟨g,0,none⟩) ps.length cap,.pointer bo,.pointer ov]] w fun e w'=>e = .returned (.string ⟨(35 :: dots ps).toArray⟩) ∧ Below w.heap.size w w':=by
 have HT:=hide ht
 have HC:=hide hc
 have HS:=hide hs
 have hln:(dots ps).length ≤ 300000:=by have:=dots_len ps ps.length hs;rw [List.take_length] at this;omega
 clear ht hc hs
 have e35:Utf8.encode 35 = ⟨#[35]⟩:=rfl
 go_enter Tryz.func38,Tryz.ntmps38
 go_wp2_with fail
 refine (placesText_any g cap ps _ (fun i h=>((below_box _).cell (p:=⟨g,i,none⟩) hg).trans (unhide HC i h)) (by simp;omega) (unhide HS) hl (tab_alloc (unhide HT) _)).mono ?_
 rintro e w1 ⟨rfl,hb1⟩
 go_wp2_with fail
 go_ret
 exact ⟨ret_str (str1 _ _),below_then hb1⟩
set_option maxRecDepth 100000 in
set_option maxHeartbeats 800000 in
theorem text_name {c:UInt8} (h1:c.toNat < 128) {k t b:Int} {pa:Option Addr} {pn pc:Nat} {bo ov:Option Addr} (w:World):Calls Tryz.prog 38 #[.agg #[.int .u8 65,.int .u8 (c.toNat:Int),.int .i64 k,.int .i64 t,.int .i64 b,.slice pa pn pc,.pointer bo,.pointer ov]] w fun e w'=>e = .returned (.string ⟨#[c]⟩) ∧ Below w.heap.size w w':=by
 have HE:=hide (encode_small c h1)
 go_enter Tryz.func38,Tryz.ntmps38
 go_wp2_with fail
 go_ret
 exact ⟨ret_str (unhide HE),(by repeat (first | exact Below.refl _ _ | refine below_dr ?_ _ | refine Below.drew ?_ | refine Below.setCell ?_ (by simp) _ | refine Below.alloc ?_ (by simp) _))⟩
set_option maxRecDepth 100000 in
set_option maxHeartbeats 1600000 in
theorem text_pow {n k t b:Int} {pa:Option Addr} {pn pc:Nat} {ov:Option Addr} (w:World) (q:Nat) (l:List UInt8) (hl:l.length ≤ 100000) (hB:TextAt q l w) (h1:-1000000000 ≤ k) (h2:k ≤ 1000000000) (ht:Tab w):Calls Tryz.prog 38 #[.agg #[.int .u8 40,.int .u8 n,.int .i64 k,.int .i64 t,.int .i64 b,.slice pa pn pc,.pointer (some ⟨q,0,none⟩),.pointer ov]] w fun e w'=>e = .returned (.string ⟨(40 :: (l ++ 41 :: 94 :: itoa k)).toArray⟩) ∧ Below w.heap.size w w':=by
 have HT:=hide ht
 have HBB:=hide hB
 have hln:=itoa_len k h1 h2
 clear ht hB
 go_enter Tryz.func38,Tryz.ntmps38
 go_wp2_with fail
 refine (unhide HBB _ (below_box _)).mono ?_
 rintro e w1 ⟨rfl,hb1⟩
 have HB1:=hide (below_then hb1)
 obtain ⟨hc1,hf1⟩:=bcell hb1
 clear hb1
 go_wp2_with fail
 refine (itoa_any k _ (by omega) (by omega) (tab_below (unhide HT) (unhide HB1))).mono ?_
 rintro e w2 ⟨rfl,hb2⟩
 go_wp2_with fail
 go_ret
 exact ⟨ret_str (by apply ByteArray.ext;simp),(unhide HB1).trans (hb2.mono (unhide HB1).size)⟩
set_option maxRecDepth 100000 in
set_option maxHeartbeats 1600000 in
theorem text_under {n k t b:Int} {pa:Option Addr} {pn pc:Nat} (w:World) (q q':Nat) (l l':List UInt8) (hl:l.length ≤ 100000) (hl':l'.length ≤ 100000) (hB:TextAt q l w) (hO:TextAt q' l' w):Calls Tryz.prog 38 #[.agg #[.int .u8 91,.int .u8 n,.int .i64 k,.int .i64 t,.int .i64 b,.slice pa pn pc,.pointer (some ⟨q,0,none⟩),.pointer (some ⟨q',0,none⟩)]] w fun e w'=>e = .returned (.string ⟨(91 :: (l' ++ 58 :: (l ++ [93]))).toArray⟩) ∧ Below w.heap.size w w':=by
 have HBB:=hide hB
 have HO:=hide hO
 clear hB hO
 go_enter Tryz.func38,Tryz.ntmps38
 go_wp2_with fail
 refine (unhide HO _ (below_box _)).mono ?_
 rintro e w1 ⟨rfl,hb1⟩
 have HB1:=hide (below_then hb1)
 obtain ⟨hc1,hf1⟩:=bcell hb1
 clear hb1
 go_wp2_with fail
 refine (unhide HBB _ (unhide HB1)).mono ?_
 rintro e w2 ⟨rfl,hb2⟩
 go_wp2_with fail
 go_ret
 exact ⟨ret_str (by apply ByteArray.ext;simp),(unhide HB1).trans (hb2.mono (unhide HB1).size)⟩
end Go.Proofs.YtikiaijgcjjloabGreatDoor

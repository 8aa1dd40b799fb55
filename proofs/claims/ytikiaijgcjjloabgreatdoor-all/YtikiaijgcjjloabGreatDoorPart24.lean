import Derived.Test.YtikiaijgcjjloabGreatDoorPart23
import Derived.Test.YtikiaijgcjjloabGreatDoorPart16
import Derived.Test.YtikiaijgcjjloabGreatDoorPart21
import Derived.Test.YtikiaijgcjjloabGreatDoorPart12

namespace Go.Proofs.YtikiaijgcjjloabGreatDoor
open Go Go.RowKit M T Go.Lib
def PtText (p:Pt):Prop:=p.wf → p.text.length ≤ 100000 → ∀ (Ok:Nat → Prop) (x:PC) (w:World),PtIs Ok w x p → Tab w → Calls Tryz.prog 38 #[PC.value x] w fun e w'=>e = .returned (.string ⟨p.text.toArray⟩) ∧ Below w.heap.size w w'
set_option maxRecDepth 100000 in
set_option maxHeartbeats 1600000 in
theorem text_loop (ps:List Pt) (hP:∀ p ∈ ps,PtText p) (hw:∀ p ∈ ps,p.wf) (hl:(Tm.of ps).text.length ≤ 100000) (Ok:Nat → Prop) (b:Nat) (w:World) (h:TmIs Ok w b (Tm.of ps)) (ht:Tab w) :
  Calls Tryz.prog 24 #[.pointer (some ⟨b,0,none⟩)] w fun e w'=>e = .returned (.string ⟨(Tm.of ps).text.toArray⟩) ∧ Below w.heap.size w w':=by
 obtain ⟨sl,xs,hd,hps⟩:=h
 have hlen:=PsIs.length ps xs hps
 have hc0:w.cell? ⟨b,0,none⟩ = some sl:=by rw [blk_cell hd.blk];rfl
 have HD:=hide hd
 have HPS:=hide hps
 have HP:=hide hP
 have HW:=hide hw
 have HT:=hide ht
 have HL:=hide hl
 have HLen:=hide hlen
 rcases hd.row.2 with ⟨hnil,hn0⟩ | ⟨g,cap,cur,hv,_,hh,hcap,_⟩
 ·have hps0:ps = []:=List.eq_nil_of_length_eq_zero (by omega)
  subst hps0
  subst hnil
  clear hd hps hP hw ht hl hlen hn0
  go_enter Tryz.func24,Tryz.ntmps24
  go_wp2_with fail
  refine wp_loop_rounds 1 ?_
  rw [rounds_succ]
  go_wp2_with fail
  go_ret
  exact ⟨ret_str (by rw [Tm.of,Tm.text]),(by repeat (first | exact Below.refl _ _ | refine below_dr ?_ _ | refine Below.drew ?_ | refine Below.setCell ?_ (by simp) _ | refine Below.alloc ?_ (by simp) _))⟩
 ·subst hv
  have hg:=lt_of_block hh
  have hrow:=hd.row
  have HRow:=hide hrow
  have hxl:xs.length ≤ 100000:=by
   have key:∀ qs:List Pt,qs.length ≤ (Tm.of qs).text.length:=by
    intro qs
    induction qs with
    | nil=>simp
    | cons q qs ih=>
     obtain ⟨l,e⟩:=Pt.text_first q
     rw [Tm.of,Tm.text,e,List.length_append,List.length_cons,List.length_cons]
     omega
   have:=key ps
   omega
  clear hd hps hP hw ht hl hlen hcap hrow hh
  go_enter Tryz.func24,Tryz.ntmps24
  go_wp2_with fail
  go_loopw [3,5,11] (fun v _ i wr=>∃ j:Nat,j ≤ xs.length ∧ i = .int .i64 (j:Int) ∧ v = .string ⟨(tx ps j).toArray⟩ ∧ Below w.heap.size w wr) (fun _ _ i _=>xs.length - (RowKit.intOf i).toNat)
  case atStart=>exact ⟨0,by omega,rfl,by rw [tx_zero],Below.refl _ _⟩
  case round=>
   obtain ⟨j,hj,rfl,rfl,hb⟩:=hrel
   have HB:=hide hb
   have hdl:=text_take_len ps j
   have hl:=unhide HL
   by_cases hlt:j < xs.length
   ·have hjp:j < ps.length:=by have:=unhide HLen;omega
    have hcell:∀ i,i < 8 → wr.cell? ⟨g,j * 8 + i,none⟩ = (xs[j].cells)[i]?:=fun i hi=>(hb.cell (p:=⟨g,j * 8 + i,none⟩) hg).trans (row_cell (unhide HRow) hlt i hi)
    have hpt:=PsIs.get ps xs (unhide HPS) j hjp hlt
    have HST:=hide (text_take ps j hjp)
    have hql:=text_get_len ps j hjp
    have HC:=hide (unhide HP ps[j] (List.getElem_mem hjp) (unhide HW _ (List.getElem_mem hjp)) (by omega) Ok)
    generalize xs[j] = x at hcell hpt
    generalize ps[j] = p at hpt HST hql HC
    obtain ⟨L,N,K,Tp,Bt,pa,pn,pc,Bo,Ov⟩:=x
    have c0:wr.cell? ⟨g,j * 8,none⟩ = some (.int .u8 (L.toNat:Int)):=hcell 0 (by omega)
    have c1:wr.cell? ⟨g,j * 8 + 1,none⟩ = some (.int .u8 (N.toNat:Int)):=hcell 1 (by omega)
    have c2:wr.cell? ⟨g,j * 8 + 2,none⟩ = some (.int .i64 K):=hcell 2 (by omega)
    have c3:wr.cell? ⟨g,j * 8 + 3,none⟩ = some (.int .i64 Tp):=hcell 3 (by omega)
    have c4:wr.cell? ⟨g,j * 8 + 4,none⟩ = some (.int .i64 Bt):=hcell 4 (by omega)
    have c5:wr.cell? ⟨g,j * 8 + 5,none⟩ = some (.slice pa pn pc):=hcell 5 (by omega)
    have c6:wr.cell? ⟨g,j * 8 + 6,none⟩ = some (.pointer (Bo.map fun b=>⟨b,0,none⟩)):=hcell 6 (by omega)
    have c7:wr.cell? ⟨g,j * 8 + 7,none⟩ = some (.pointer (Ov.map fun b=>⟨b,0,none⟩)):=hcell 7 (by omega)
    have HPT:=hide hpt
    clear hcell hpt hb
    go_wp2_with fail
    refine (unhide HC ⟨L,N,K,Tp,Bt,pa,pn,pc,Bo,Ov⟩ _ (PtIs.keeps (fun k hk hkl=>⟨(Below.heap_alloc _ _ _ (Nat.lt_of_lt_of_le hkl (unhide HB).size)).trans ((unhide HB).block k hkl),hk⟩) _ _ (unhide HPT)) (tab_alloc (tab_below (unhide HT) (unhide HB)) _)).mono ?_
    rintro e w1 ⟨rfl,hb1⟩
    have HB1:=hide ((unhide HB).trans ((below_then hb1).mono (unhide HB).size))
    clear hb1
    go_wp2_with fail
    go_roundw
    case rel=>exact ⟨j + 1,by omega,by go_num,by rw [unhide HST];simp [str_app],unhide HB1⟩
    case measure=>simp [RowKit.intOf];omega
   ·have hlt':¬ (j:Int) < (xs.length:Int):=by omega
    have HE:=hide (tx_all ps j (by have:=unhide HLen;omega))
    clear hb
    go_wp2_with fail
    go_ret
    exact ⟨ret_str (by rw [unhide HE]),unhide HB⟩
theorem textAt_of {f:Tm} (hP:∀ p ∈ f.parts,PtText p) (hw:f.wf) (hl:f.text.length ≤ 100000) {Ok:Nat → Prop} {b:Nat} {w:World} (h:TmIs Ok w b f) (ht:Tab w):TextAt b f.text w:=by
 intro w' hb
 have e:=Tm.of_parts f
 have h':TmIs (fun _=>True) w' b f:=h.typed.keeps (fun k _ hl=>⟨hb.block k hl,trivial⟩)
 have hw':(Tm.of f.parts).wf:=by rw [e];exact hw
 have:=text_loop f.parts hP ((Tm.of_wf f.parts).1 hw') (by rw [e];exact hl) (fun _=>True) b w' (by rw [e];exact h') (tab_below ht hb)
 rw [e] at this
 exact this
mutual
theorem Pt.text_call:∀ p:Pt,PtText p
 | .sp y=>by
  intro hw hl Ok x w h ht
  obtain ⟨L,N,K,Tp,Bt,pa,pn,pc,Bo,Ov⟩:=x
  rw [PtIs] at h
  obtain ⟨h1,h2⟩:=h
  have h1':L = y.first:=h1
  subst h1'
  rw [Pt.wf] at hw
  rw [Pt.text]
  have val:∀ c:Rat,small c = true → Tp = c.num → Bt = (c.den:Int) → -1000000000 ≤ Tp ∧ Tp ≤ 1000000000 ∧ 1 ≤ Bt ∧ Bt ≤ 1000000000 ∧ numText Tp Bt = ratText c:=by
   intro c hc e1 e2
   have:=rat_isNum hc
   subst e1 e2
   exact ⟨this.lo,this.hi,this.b1,this.b2,rfl⟩
  cases y with
  | plus c=>
   obtain ⟨a1,a2,a3,a4,a5⟩:=val c hw h2.1 h2.2
   have:=text_valued (c:=43) (by decide) (n:=(N.toNat:Int)) (k:=K) (pa:=pa) (pn:=pn) (pc:=pc) (bo:=Bo.map fun b=>⟨b,0,none⟩) (ov:=Ov.map fun b=>⟨b,0,none⟩) w a1 a2 a3 a4 ht
   rw [a5] at this
   exact this
  | times c=>
   obtain ⟨a1,a2,a3,a4,a5⟩:=val c hw h2.1 h2.2
   have:=text_valued (c:=42) (by decide) (n:=(N.toNat:Int)) (k:=K) (pa:=pa) (pn:=pn) (pc:=pc) (bo:=Bo.map fun b=>⟨b,0,none⟩) (ov:=Ov.map fun b=>⟨b,0,none⟩) w a1 a2 a3 a4 ht
   rw [a5] at this
   exact this
  | set c=>
   obtain ⟨a1,a2,a3,a4,a5⟩:=val c hw h2.1 h2.2
   have:=text_valued (c:=61) (by decide) (n:=(N.toNat:Int)) (k:=K) (pa:=pa) (pn:=pn) (pc:=pc) (bo:=Bo.map fun b=>⟨b,0,none⟩) (ov:=Ov.map fun b=>⟨b,0,none⟩) w a1 a2 a3 a4 ht
   rw [a5] at this
   exact this
  | shift k=>
   have e:K = k:=h2
   subst e
   exact text_counted (c:=60) (by decide) w (by have:=hw.1;omega) (by have:=hw.2;omega) ht
  | take k=>
   have e:K = (k:Int):=h2
   have hk:k ≤ 12:=hw
   have:=text_counted (c:=116) (by decide) (n:=(N.toNat:Int)) (k:=K) (t:=Tp) (b:=Bt) (pa:=pa) (pn:=pn) (pc:=pc) (bo:=Bo.map fun b=>⟨b,0,none⟩) (ov:=Ov.map fun b=>⟨b,0,none⟩) w (by omega) (by omega) ht
   rw [itoa_nat K (by omega),show K.toNat = k by omega] at this
   exact this
  | drop k=>
   have e:K = (k:Int):=h2
   have hk:k ≤ 12:=hw
   have:=text_counted (c:=100) (by decide) (n:=(N.toNat:Int)) (k:=K) (t:=Tp) (b:=Bt) (pa:=pa) (pn:=pn) (pc:=pc) (bo:=Bo.map fun b=>⟨b,0,none⟩) (ov:=Ov.map fun b=>⟨b,0,none⟩) w (by omega) (by omega) ht
   rw [itoa_nat K (by omega),show K.toNat = k by omega] at this
   exact this
  | pick ps=>
   obtain ⟨o1,o2⟩:=h2
   have hne:(Value.slice pa pn pc) ≠ .slice none 0 0:=by
    intro e
    have hz:=owns_len o1
    cases e
    exact hw.1 (List.eq_nil_of_length_eq_zero hz.symm)
   obtain ⟨g,cap,e⟩:=owns_some o1 hne
   cases e
   obtain ⟨_,_,hcell⟩:=owns_int o1
   have hg:=(o1.lt g rfl).2
   have hlen:ps.length ≤ 100000:=by
    have key:∀ qs:List Nat,qs.length ≤ (dots qs).length:=by
     intro qs
     induction qs with
     | nil=>simp
     | cons q qs ih=>
      have h1:=dec_length_pos q
      by_cases hn:qs = []
      ·subst hn;simp [dots];omega
      ·rw [dots_cons q qs hn];simp;omega
    have:=key ps
    rw [Pt.text,Sp.text,List.length_cons] at hl
    omega
   exact text_pick w g _ ps hcell hg hw.2.2 hlen ht
  | _=>exact text_letter (by simp [Sp.first]) w
 | .pow f k=>by
  intro hw hl Ok x w h ht
  obtain ⟨L,N,K,Tp,Bt,pa,pn,pc,Bo,Ov⟩:=x
  obtain ⟨h1,h2,b,h3,h4⟩:=PtIs.pow_iff.1 h
  have h1':L = 40:=h1
  have h2':K = k:=h2
  have h3':Bo = some b:=h3
  subst h1' h2' h3'
  rw [Pt.wf] at hw
  rw [Pt.text] at hl ⊢
  have hfl:f.text.length ≤ 100000:=by simp at hl;omega
  exact text_pow w b f.text hfl (textAt_of (Tm.text_all f) hw.1 hfl h4 ht) (by omega) (by omega) ht
 | .under s g=>by
  intro hw hl Ok x w h ht
  obtain ⟨L,N,K,Tp,Bt,pa,pn,pc,Bo,Ov⟩:=x
  obtain ⟨h1,⟨b,h3,h4⟩,b',h5,h6⟩:=PtIs.under_iff.1 h
  have h1':L = 91:=h1
  have h3':Bo = some b:=h3
  have h5':Ov = some b':=h5
  subst h1' h3' h5'
  rw [Pt.wf] at hw
  rw [Pt.text] at hl ⊢
  have hsl:s.text.length ≤ 100000:=by simp at hl;omega
  have hgl:g.text.length ≤ 100000:=by simp at hl;omega
  exact text_under w b b' g.text s.text hgl hsl (textAt_of (Tm.text_all g) hw.2 hgl h4 ht) (textAt_of (Tm.text_all s) hw.1 hsl h6 ht)
 | .name c t=>by
  intro hw hl Ok x w h ht
  obtain ⟨L,N,K,Tp,Bt,pa,pn,pc,Bo,Ov⟩:=x
  obtain ⟨h1,h2,_⟩:=PtIs.name_iff.1 h
  have h1':L = 65:=h1
  have h2':N = c:=h2
  subst h1' h2'
  rw [Pt.wf] at hw
  rw [Pt.text]
  exact text_name (c:=N) (by omega) w
theorem Tm.text_all:∀ t:Tm,∀ p ∈ t.parts,PtText p
 | .nil=>fun p h=>by rw [Tm.parts] at h;cases h
 | .cons q t=>fun p h=>by
  rw [Tm.parts] at h
  rcases List.mem_cons.1 h with e | h
  ·rw [e];exact Pt.text_call q
  ·exact Tm.text_all t p h
end
theorem tText_any {t:Tm} (hw:t.wf) (hl:t.text.length ≤ 100000) {Ok:Nat → Prop} {b:Nat} {w:World} (h:TmIs Ok w b t) (ht:Tab w):Calls Tryz.prog 24 #[.pointer (some ⟨b,0,none⟩)] w fun e w'=>e = .returned (.string ⟨t.text.toArray⟩) ∧ Below w.heap.size w w':=textAt_of (Tm.text_all t) hw hl h ht w (Below.refl _ _)
set_option maxRecDepth 100000 in
set_option maxHeartbeats 1600000 in
theorem opposite_any {env:Env} (s:ByteArray) {xb:Nat} {nm:Nat → Option Nat} (w:World) (h:SesIs w xb nm env) (ht:Tab w) :
  Calls Tryz.prog 13 #[.pointer (some ⟨xb,0,none⟩),.string s] w fun e w'=>∃ (r:List UInt8) (c:Int),e = .returned (.tuple #[.string ⟨r.toArray⟩,.int .i64 c]) ∧ OppSays env s.data.toList r c ∧ Below w.heap.size w w':=by
 have hblk:=h.blk
 have H:=hide h
 have HT:=hide ht
 clear h ht
 go_enter Tryz.func13,Tryz.ntmps13
 go_wp2_with (refine wpList_load_row rfl 46 _ rfl xb rfl 48 (ncells nm) (0,0) _ hblk Tryz.underlying46 rfl Tryz.infoNames ?_)
 refine (tRead_any (unhide H).env s nm _ (unhide H).names).mono ?_
 rintro e w1 ⟨⟨c,hc,rfl⟩ | ⟨t,tb,hg,htm,rfl⟩,hb1⟩
 ·have HC:=hide hc
  have HB1:=hide hb1
  have hne:(c != 0) = true:=by rw [bne_iff_ne];exact hc.ne
  clear hc hb1
  go_wp2_with fail
  exact bodyPost_ret (v:=.tuple #[.string ⟨#[]⟩,.int .i64 c]) (by simp [results,Tryz.results13,go_sem]) rfl ⟨[],c,rfl,Or.inl ⟨unhide HC,rfl⟩,unhide HB1⟩
 ·have HG:=hide hg
  have HB1:=hide hb1
  have HTm:=hide htm
  clear hg hb1 htm hblk
  cases hbk:t.back with
  | false=>
   have HBk:=hide hbk
   clear hbk
   go_wp2_with fail
   refine (tOpp_no (unhide HBk) (unhide HTm)).mono ?_
   rintro e w2 ⟨rfl,hb2⟩
   have HB2:=hide ((unhide HB1).trans (hb2.mono (unhide HB1).size))
   clear hb2
   go_wp2_with fail
   exact bodyPost_ret (v:=.tuple #[.string ⟨#[]⟩,.int .i64 12]) (by simp [results,Tryz.results13,go_sem]) rfl ⟨[],12,rfl,Or.inr ⟨t,unhide HG,Or.inl ⟨unhide HBk,rfl,rfl⟩⟩,unhide HB2⟩
  | true=>
   have HBk:=hide hbk
   clear hbk
   have htl:t.text.length ≤ 120:=by have:=(unhide HG).len;rw [← (unhide HG).term.text] at this;exact this
   have HWf:=hide (Tm.opp_wf t (unhide HG).term.wf (unhide HBk))
   have hol:t.opp.text.length ≤ 2880:=by have:=Tm.opp_len t (unhide HG).term.wf (unhide HBk);omega
   go_wp2_with fail
   refine (tOpp_any (unhide HG).term.wf (unhide HBk) (by omega) (unhide HTm)).mono ?_
   rintro e w2 ⟨ob,rfl,ho,hb2⟩
   have HB2:=hide ((unhide HB1).trans (hb2.mono (unhide HB1).size))
   have HO:=hide ho
   clear hb2 ho
   go_wp2_with fail
   refine (tText_any (unhide HWf) (by omega) (unhide HO) (tab_below (unhide HT) (unhide HB2))).mono ?_
   rintro e w3 ⟨rfl,hb3⟩
   have HB3:=hide ((unhide HB2).trans (hb3.mono (unhide HB2).size))
   clear hb3
   by_cases hl:120 < t.opp.text.length
   ·have hl':(120:Int) < (t.opp.text.length:Int):=by omega
    go_wp2_with fail
    exact bodyPost_ret (v:=.tuple #[.string ⟨#[]⟩,.int .i64 5]) (by simp [results,Tryz.results13,go_sem]) rfl ⟨[],5,rfl,Or.inr ⟨t,unhide HG,Or.inr (Or.inl ⟨unhide HBk,hl,rfl,rfl⟩)⟩,unhide HB3⟩
   ·have hl':¬ (120:Int) < (t.opp.text.length:Int):=by omega
    go_wp2_with fail
    exact bodyPost_ret (v:=.tuple #[.string ⟨t.opp.text.toArray⟩,.int .i64 0]) (by simp [results,Tryz.results13,go_sem]) rfl ⟨t.opp.text,0,rfl,Or.inr ⟨t,unhide HG,Or.inr (Or.inr ⟨unhide HBk,by omega,rfl,rfl⟩)⟩,unhide HB3⟩
theorem SesIs.kept {w w' : World} {xb : Nat} {nm : Nat → Option Nat} {env : Env} (h : SesIs w xb nm env) (hs : w.heap.size ≤ w'.heap.size) (hk : ∀ (k : Nat) (c : Array Value) (ty : TypeId), w.heap[k]? = some (.cells c ty (0, 0)) → PTy ty ∨ ty = 48 → w'.heap[k]? = w.heap[k]?) : SesIs w' xb nm env :=
  ⟨by rw [hk xb _ _ h.blk (Or.inr rfl)]; exact h.blk, ⟨fun c h1 h2 b hb' => by
    obtain ⟨t, a1, a2, a3⟩ := h.names.known c h1 h2 b hb'
    exact ⟨t, a1, a2, a3.ptk.keeps (fun k hk' hl => by
      obtain ⟨_, c, ty, e, hp⟩ := hk'
      exact ⟨hk k c ty e (Or.inl hp), Nat.lt_of_lt_of_le hl hs⟩)⟩, h.names.unknown⟩, h.env⟩
theorem RSes.kept {w w':World} {rb:Nat} {v:Value} {ds:List D} (h:RSes w rb v ds) (hk:∀ k,k = rb ∨ v.ownBlock = some k → w'.heap[k]? = w.heap[k]?):RSes w' rb v ds:=by
 refine ⟨by rw [hk rb (Or.inl rfl)];exact h.blk,⟨h.own.1,?_⟩,h.ok⟩
 rcases h.own.2 with h2 | ⟨g,cap,cur,hv,hg,hh,r⟩
 ·exact Or.inl h2
 ·exact Or.inr ⟨g,cap,cur,hv,hg,by rw [hk g (Or.inr (by rw [hv];rfl))];exact hh,r⟩
theorem RSes.row_ty {w:World} {rb:Nat} {v:Value} {ds:List D} (h:RSes w rb v ds) {g:Nat} (hg:v.ownBlock = some g):∃ c,w.heap[g]? = some (.cells c 124 (0,0)):=by
 rcases h.own.2 with ⟨h1,_⟩ | ⟨g',cap,cur,hv,_,hh,_⟩
 ·rw [h1] at hg;cases hg
 ·rw [hv] at hg;cases hg;exact ⟨cur,hh⟩
theorem RSes.but {w w':World} {rb xb:Nat} {v:Value} {ds:List D} {c:Array Value} (h:RSes w rb v ds) (hx:w.heap[xb]? = some (.cells c 48 (0,0))) (hb:But xb w w'):RSes w' rb v ds:=h.kept (fun k hk=>by
 rcases hk with rfl | hk
 ·exact hb.block _ (lt_of_block h.blk) (by intro e;have:=h.blk;rw [e] at this;exact absurd (blk_ty hx this) (by decide))
 ·obtain ⟨c,hc⟩:=h.row_ty hk
  exact hb.block _ (lt_of_block hc) (by intro e;rw [e] at hc;exact absurd (blk_ty hx hc) (by decide)))
structure Twn where
 xb:Nat
 rb:Nat
 nm:Nat → Option Nat
 v:Value
 ds:List D
def Twn.cells (t:Twn):List Value:=[.pointer (some ⟨t.xb,0,none⟩),.pointer (some ⟨t.rb,0,none⟩)]
def trow (ts:List Twn):List Value:=(ts.map Twn.cells).flatten
theorem trow_snoc (ts:List Twn) (t:Twn):trow ts ++ t.cells = trow (ts ++ [t]):=by unfold trow;simp
structure Tw1 (n0 m:Nat) (w:World) (t:Twn):Prop where
 ses:SesIs w t.xb t.nm (envOf t.ds)
 ref:RSes w t.rb t.v t.ds
 len:t.ds.length ≤ m
 nx:n0 ≤ t.xb
 nr:n0 ≤ t.rb
 nv:∀ g,t.v.ownBlock = some g → n0 ≤ g
def Ap (s t:Twn):Prop:=s.xb ≠ t.xb ∧ s.rb ≠ t.rb ∧ ∀ g,s.v.ownBlock = some g → t.v.ownBlock ≠ some g
theorem Ap.symm {s t:Twn} (h:Ap s t):Ap t s:=⟨h.1.symm,h.2.1.symm,fun g hg e=>h.2.2 g e hg⟩
structure Tws (n0 m:Nat) (w:World) (ts:List Twn):Prop where
 one:∀ j (h:j < ts.length),Tw1 n0 m w ts[j]
 ap:∀ i j (hi:i < ts.length) (hj:j < ts.length),i ≠ j → Ap ts[i] ts[j]
theorem Tw1.mono {n0 m m':Nat} {w:World} {t:Twn} (h:Tw1 n0 m w t) (hm:m ≤ m'):Tw1 n0 m' w t:=⟨h.ses,h.ref,Nat.le_trans h.len hm,h.nx,h.nr,h.nv⟩
theorem Tws.mono {n0 m m':Nat} {w:World} {ts:List Twn} (h:Tws n0 m w ts) (hm:m ≤ m'):Tws n0 m' w ts:=⟨fun j hj=>(h.one j hj).mono hm,h.ap⟩
theorem Tw1.below {n0 m:Nat} {w w':World} {t:Twn} (h:Tw1 n0 m w t) (hb:Below w.heap.size w w'):Tw1 n0 m w' t:=⟨h.ses.below hb,h.ref.below hb,h.len,h.nx,h.nr,h.nv⟩
theorem Tws.below {n0 m:Nat} {w w':World} {ts:List Twn} (h:Tws n0 m w ts) (hb:Below w.heap.size w w'):Tws n0 m w' ts:=⟨fun j hj=>(h.one j hj).below hb,h.ap⟩
theorem Tws.other {n0 m:Nat} {w w':World} {ts:List Twn} (h:Tws n0 m w ts) (hs:w.heap.size ≤ w'.heap.size) (hk:∀ (k:Nat) (c:Array Value) (ty:TypeId),w.heap[k]? = some (.cells c ty (0,0)) → ty ≠ 70 → w'.heap[k]? = w.heap[k]?):Tws n0 m w' ts :=
 ⟨fun j hj=>by
  obtain ⟨a,b,c,d,e,f⟩:=h.one j hj
  refine ⟨a.kept hs (fun k c ty hc ht=>hk k c ty hc ?_),b.kept (fun k hk'=>?_),c,d,e,f⟩
  ·rcases ht with (rfl | rfl | rfl) | rfl <;> decide
  ·rcases hk' with rfl | hk'
   ·exact hk _ _ _ b.blk (by decide)
   ·obtain ⟨c',hc'⟩:=b.row_ty hk'
    exact hk _ _ _ hc' (by decide),h.ap⟩
def freshTw (n:Nat):Twn:=⟨n,n + 1,fun _=>none,.slice none 0 0,[]⟩
theorem Tws.fresh {n0 m:Nat} {w:World} {ts:List Twn} (h:Tws n0 m w ts) (hn:n0 ≤ w.heap.size):Tws n0 m ((w.alloc (.cells (ncells fun _=>none) 48)).alloc (.cells #[.slice none 0 0] 94)) (ts ++ [freshTw w.heap.size]):=by
 have hb1:Below w.heap.size w (w.alloc (.cells (ncells fun _=>none) 48)):=(Below.refl _ _).alloc (Nat.le_refl _) _
 have hb2:Below w.heap.size w ((w.alloc (.cells (ncells fun _=>none) 48)).alloc (.cells #[.slice none 0 0] 94)):=hb1.alloc (by simp) _
 have hb3:Below (w.alloc (.cells (ncells fun _=>none) 48)).heap.size (w.alloc (.cells (ncells fun _=>none) 48)) ((w.alloc (.cells (ncells fun _=>none) 48)).alloc (.cells #[.slice none 0 0] 94)):=(Below.refl _ _).alloc (Nat.le_refl _) _
 have hnew:Tw1 n0 m ((w.alloc (.cells (ncells fun _=>none) 48)).alloc (.cells #[.slice none 0 0] 94)) (freshTw w.heap.size):=by
  refine ⟨(new_SesIs w).below hb3,?_,Nat.zero_le _,hn,Nat.le_succ_of_le hn,fun g hg=>by cases hg⟩
  have:=rNew_RSes (w.alloc (.cells (ncells fun _=>none) 48))
  rw [World.size_alloc] at this
  exact this
 have hx:∀ j (hj:j < ts.length),Ap ts[j] (freshTw w.heap.size):=fun j hj=>by
  obtain ⟨a,b,_⟩:=h.one j hj
  have l1:=lt_of_block a.blk
  have l2:=lt_of_block b.blk
  exact ⟨by show ts[j].xb ≠ w.heap.size;omega,by show ts[j].rb ≠ w.heap.size + 1;omega,fun g _ e=>by cases e⟩
 refine ⟨fun j hj=>?_,fun i j hi hj hij=>?_⟩
 ·rw [List.length_append,List.length_singleton] at hj
  by_cases hl:j < ts.length
  ·rw [List.getElem_append_left hl];exact (h.one j hl).below hb2
  ·have e:j = ts.length:=by omega
   subst e
   simpa using hnew
 ·rw [List.length_append,List.length_singleton] at hi hj
  by_cases hl:i < ts.length
  ·rw [List.getElem_append_left hl]
   by_cases hl':j < ts.length
   ·rw [List.getElem_append_left hl'];exact h.ap i j hl hl' hij
   ·have e:j = ts.length:=by omega
    subst e
    simpa using hx i hl
  ·have e:i = ts.length:=by omega
   subst e
   have hl':j < ts.length:=by omega
   rw [List.getElem_append_left hl']
   simpa using (hx j hl').symm
def KeepT (w w':World):Prop:=∀ (k:Nat) (c:Array Value) (ty:TypeId),w.heap[k]? = some (.cells c ty (0,0)) → ty = 70 ∨ ty = 73 → w'.heap[k]? = w.heap[k]?
theorem KeepT.below {w w':World} (hb:Below w.heap.size w w'):KeepT w w':=fun k _ _ h _=>hb.block k (lt_of_block h)
theorem KeepT.trans {a b c:World} (h:KeepT a b) (h':KeepT b c):KeepT a c:=fun k x ty hk ht=>(h' k x ty ((h k x ty hk ht).trans hk) ht).trans (h k x ty hk ht)
theorem KeepT.but {w w':World} {xb:Nat} {c:Array Value} (hx:w.heap[xb]? = some (.cells c 48 (0,0))) (hb:But xb w w'):KeepT w w':=fun k x ty hk ht=>hb.block k (lt_of_block hk) (by
 rintro rfl
 obtain rfl:=blk_ty hx hk
 rcases ht with h | h <;> exact absurd h (by decide))
theorem KeepT.chg {w w':World} {rb:Nat} {v:Value} {ds:List D} (h:RSes w rb v ds) (hc:Chg rb v w w'):KeepT w w':=fun k x ty hk ht=>hc.block k (lt_of_block hk) (by
 rintro rfl
 obtain rfl:=blk_ty h.blk hk
 rcases ht with h | h <;> exact absurd h (by decide)) (fun e=>by
 obtain ⟨c',hc'⟩:=h.row_ty e
 obtain rfl:=blk_ty hc' hk
 rcases ht with h | h <;> exact absurd h (by decide))
theorem Chg.below {rb B:Nat} {v:Value} {w w':World} (h:Chg rb v w w') (hB:B ≤ w.heap.size) (hr:B ≤ rb) (hv:∀ g,v.ownBlock = some g → B ≤ g):Below B w w':=⟨h.os,h.tape,h.output,h.size,fun k hk=>h.block k (by omega) (by omega) (fun e=>by have:=hv k e;omega)⟩
theorem Tws.define {n0 m:Nat} {w w1 w2:World} {ts:List Twn} (h:Tws n0 m w ts) {j:Nat} (hj:j < ts.length) {nm':Nat → Option Nat} {v':Value} {ds':List D} (h1:SesIs w1 ts[j].xb nm' (envOf ds')) (hb:But ts[j].xb w w1) (h2:RPut w1 ts[j].rb ts[j].v ts[j].ds v' ds' w2) :
  Tws n0 (m + 1) w2 (ts.set j ⟨ts[j].xb,ts[j].rb,nm',v',ds'⟩):=by
 have hJ:=h.one j hj
 have hR1:RSes w1 ts[j].rb ts[j].v ts[j].ds:=hJ.ref.but hJ.ses.blk hb
 have hkeep:∀ (k:Nat) (c:Array Value) (ty:TypeId),w1.heap[k]? = some (.cells c ty (0,0)) → PTy ty ∨ ty = 48 → w2.heap[k]? = w1.heap[k]?:=fun k c ty hk ht=>h2.chg.block k (lt_of_block hk) (by
  rintro rfl
  obtain rfl:=blk_ty hR1.blk hk
  rcases ht with (h | h | h) | h <;> exact absurd h (by decide)) (fun e=>by
  obtain ⟨c',hc'⟩:=hR1.row_ty e
  obtain rfl:=blk_ty hc' hk
  rcases ht with (h | h | h) | h <;> exact absurd h (by decide))
 have hnew:Tw1 n0 (m + 1) w2 ⟨ts[j].xb,ts[j].rb,nm',v',ds'⟩:=by
  refine ⟨h1.kept h2.chg.size hkeep,h2.ses,?_,hJ.nx,hJ.nr,fun g hg=>?_⟩
  ·have:=h2.len
   have:=hJ.len
   show ds'.length ≤ m + 1
   omega
  ·rcases h2.own with e | e
   ·exact hJ.nv g (by rw [← e];exact hg)
   ·have a1:=e g hg
    have a2:=hb.size
    have a3:=lt_of_block hJ.ses.blk
    have a4:=hJ.nx
    omega
 have hold:∀ i (hi:i < ts.length),i ≠ j → Tw1 n0 (m + 1) w2 ts[i]:=fun i hi hij=>by
  obtain ⟨a,b,c,d,e,f⟩:=h.one i hi
  have hap:=h.ap i j hi hj hij
  have b1:RSes w1 ts[i].rb ts[i].v ts[i].ds:=b.but hJ.ses.blk hb
  refine ⟨(a.but hJ.ses.blk hb hap.1).kept h2.chg.size hkeep,b1.kept (fun k hk=>?_),Nat.le_succ_of_le c,d,e,f⟩
  rcases hk with rfl | hk
  ·exact h2.chg.block _ (lt_of_block b1.blk) hap.2.1 (fun e=>by
    obtain ⟨c',hc'⟩:=hR1.row_ty e
    exact absurd (blk_ty b1.blk hc') (by decide))
  ·obtain ⟨c,hc⟩:=b1.row_ty hk
   exact h2.chg.block _ (lt_of_block hc) (by intro e;rw [e] at hc;exact absurd (blk_ty hR1.blk hc) (by decide)) (hap.2.2 k hk)
 have hap:∀ i (hi:i < ts.length),i ≠ j → Ap ts[i] ⟨ts[j].xb,ts[j].rb,nm',v',ds'⟩:=fun i hi hij=>by
  have a:=h.ap i j hi hj hij
  refine ⟨a.1,a.2.1,fun g hg e=>?_⟩
  rcases h2.own with q | q
  ·exact a.2.2 g hg (by rw [← q];exact e)
  ·have a1:=q g e
   have a2:=hb.size
   obtain ⟨c,hc⟩:=(h.one i hi).ref.row_ty hg
   have:=lt_of_block hc
   omega
 refine ⟨fun i hi=>?_,fun i k hi hk hik=>?_⟩
 ·rw [List.length_set] at hi
  rw [List.getElem_set]
  split
  ·exact hnew
  ·exact hold i hi (by omega)
 ·rw [List.length_set] at hi hk
  rw [List.getElem_set,List.getElem_set]
  split
  ·rename_i e
   subst e
   rw [if_neg hik]
   exact (hap k hk (by omega)).symm
  ·rename_i e
   split
   ·exact hap i hi (by omega)
   ·exact h.ap i k hi hk hik
theorem trow_set (ts:List Twn) (j:Nat) (hj:j < ts.length) (t:Twn) (h:t.cells = ts[j].cells):trow (ts.set j t) = trow ts:=by
 unfold trow
 congr 1
 apply List.ext_getElem
 ·simp
 ·intro i h1 h2
  simp only [List.getElem_map,List.getElem_set]
  split
  ·rename_i e
   subst e
   exact h
  ·rfl
theorem tnum_any (c:Int) (w:World):Calls Tryz.prog 48 #[.int .i64 c] w fun e w'=>e = .returned (.int .i64 c) ∧ w = w':=by
 go_enter Tryz.func48,Tryz.ntmps48
 go_wp2
 go_ret
 exact ⟨rfl,rfl⟩
theorem rem_bd (c n:Int) (h0:0 ≤ c) (hn:0 < n):0 ≤ c.tmod n ∧ c.tmod n < n:=⟨Int.tmod_nonneg n h0,Int.tmod_lt_of_pos c hn⟩
def pickN (c:Int) (n:Nat):Nat:=if c < 0 then (-((c + 1).tmod n)).toNat else (c % (n:Int)).toNat
theorem pickN_neg {c:Int} {n:Nat} (h:c < 0) (hn:0 < n):((pickN c n:Nat):Int) = -((c + 1).tmod n) ∧ pickN c n < n:=by
 have hx:=rem_bd (-(c + 1)) n (by omega) (by omega)
 rw [Int.neg_tmod] at hx
 unfold pickN
 rw [if_pos h]
 omega
theorem pickN_pos {c:Int} {n:Nat} (h:¬ c < 0) (hn:0 < n):((pickN c n:Nat):Int) = c % (n:Int) ∧ pickN c n < n:=by
 have h1:=Int.emod_nonneg c (b:=(n:Int)) (by omega)
 have h2:=Int.emod_lt_of_pos c (b:=(n:Int)) (by omega)
 unfold pickN
 rw [if_neg h]
 omega
theorem pickN_lt (c:Int) {n:Nat} (hn:0 < n):pickN c n < n:=by
 by_cases h:c < 0
 ·exact (pickN_neg h hn).2
 ·exact (pickN_pos h hn).2
theorem ret_i64 {x y:Int} (h:y = x):(.returned (.int .i64 x):Ending) = .returned (.int .i64 y):=by rw [h]
set_option maxRecDepth 100000 in
set_option maxHeartbeats 400000 in
theorem pick_any (c:Int) (n:Nat) (w:World) (h1:-9223372036854775808 ≤ c) (h2:c ≤ 9223372036854775807) (hn:0 < n) (hm:n ≤ 9223372036854775807) :
  Calls Tryz.prog 32 #[.int .i64 c,.int .i64 (n:Int)] w fun e w'=>e = .returned (.int .i64 ((pickN c n:Nat):Int)) ∧ w = w':=by
 have hz:((n:Int) == 0) = false:=by rw [beq_eq_false_iff_ne];omega
 by_cases h0:c < 0
 ·have HX:=hide (pickN_neg h0 hn).1
  go_enter Tryz.func32,Tryz.ntmps32
  go_wp2_with fail
  go_ret
  exact ⟨ret_i64 (unhide HX),rfl⟩
 ·have HX:=hide (pickN_pos h0 hn).1
  go_enter Tryz.func32,Tryz.ntmps32
  go_wp2_with fail
  go_ret
  exact ⟨ret_i64 (unhide HX),rfl⟩
set_option maxRecDepth 100000 in
set_option maxHeartbeats 1600000 in
theorem asked_facts {w:World} {xb rb:Nat} {nm:Nat → Option Nat} {v:Value} {ds:List D} (hs:SesIs w xb nm (envOf ds)) (hr:RSes w rb v ds) (hl:ds.length ≤ maxLen) (On Aa:Int) (S X:ByteArray) :
  Calls Tryz.prog 31 #[.agg #[.pointer (some ⟨xb,0,none⟩),.pointer (some ⟨rb,0,none⟩)],.agg #[.int .i64 7,.int .i64 On,.int .i64 Aa,.string S,.string X]] w fun e w'=>e = .returned (.bool true) ∧ Below w.heap.size w w':=by
 have HS:=hide hs
 have HR:=hide hr
 clear hs hr
 go_enter Tryz.func31,Tryz.ntmps31
 go_wp2_with fail
 have hb0:Below w.heap.size w ((w.alloc (.cells #[.pointer (some ⟨xb,0,none⟩),.pointer (some ⟨rb,0,none⟩)] 70)).alloc (.cells #[.int .i64 7,.int .i64 On,.int .i64 Aa,.string S,.string X] 73)):=((Below.refl _ _).alloc (Nat.le_refl _) _).alloc (by simp) _
 refine (facts_any S _ ((unhide HS).below hb0)).mono ?_
 rintro e w1 ⟨n,c,rfl,hf,hb1⟩
 have c0:w1.cell? ⟨w.heap.size,1,none⟩ = some (.pointer (some ⟨rb,0,none⟩)):=(hb1.cell (p:=⟨w.heap.size,1,none⟩) (by simp;omega)).trans (by simp [go_sem])
 have c1:w1.cell? ⟨w.heap.size + 1,3,none⟩ = some (.string S):=(hb1.cell (p:=⟨w.heap.size + 1,3,none⟩) (by simp)).trans (by simp [go_sem])
 have HF:=hide hf
 have HB1:=hide (hb0.trans (hb1.mono hb0.size))
 clear hf hb1 hb0
 go_wp2_with fail
 refine (rFacts_any (parts_all 1000) (facts_all 1000) S _ ((unhide HR).below (unhide HB1)) hl).mono ?_
 rintro e w2 ⟨n',c',rfl,hf',hb2⟩
 obtain ⟨rfl,rfl⟩:=(unhide HF).unique hf'
 have HB2:=hide ((unhide HB1).trans (hb2.mono (unhide HB1).size))
 clear hf' hb2 c0 c1 HF
 go_wp2_with fail
 refine (tnum_any c _).mono ?_
 rintro e w3 ⟨rfl,rfl⟩
 go_wp2_with fail
 go_ret
 exact ⟨rfl,unhide HB2⟩
set_option maxRecDepth 100000 in
set_option maxHeartbeats 1600000 in
theorem asked_opp {w:World} {xb rb:Nat} {nm:Nat → Option Nat} {v:Value} {ds:List D} (hs:SesIs w xb nm (envOf ds)) (hr:RSes w rb v ds) (hl:ds.length ≤ maxLen) (ht:Tab w) (On Aa:Int) (S X:ByteArray) :
  Calls Tryz.prog 31 #[.agg #[.pointer (some ⟨xb,0,none⟩),.pointer (some ⟨rb,0,none⟩)],.agg #[.int .i64 8,.int .i64 On,.int .i64 Aa,.string S,.string X]] w fun e w'=>e = .returned (.bool true) ∧ Below w.heap.size w w':=by
 have HS:=hide hs
 have HR:=hide hr
 have HT:=hide ht
 clear hs hr ht
 go_enter Tryz.func31,Tryz.ntmps31
 go_wp2_with fail
 have hb0:Below w.heap.size w ((w.alloc (.cells #[.pointer (some ⟨xb,0,none⟩),.pointer (some ⟨rb,0,none⟩)] 70)).alloc (.cells #[.int .i64 8,.int .i64 On,.int .i64 Aa,.string S,.string X] 73)):=((Below.refl _ _).alloc (Nat.le_refl _) _).alloc (by simp) _
 refine (opposite_any S _ ((unhide HS).below hb0) (tab_below (unhide HT) hb0)).mono ?_
 rintro e w1 ⟨n,c,rfl,hf,hb1⟩
 have c0:w1.cell? ⟨w.heap.size,1,none⟩ = some (.pointer (some ⟨rb,0,none⟩)):=(hb1.cell (p:=⟨w.heap.size,1,none⟩) (by simp;omega)).trans (by simp [go_sem])
 have c1:w1.cell? ⟨w.heap.size + 1,3,none⟩ = some (.string S):=(hb1.cell (p:=⟨w.heap.size + 1,3,none⟩) (by simp)).trans (by simp [go_sem])
 have HF:=hide hf
 have HB1:=hide (hb0.trans (hb1.mono hb0.size))
 clear hf hb1 hb0
 go_wp2_with fail
 refine (rOpposite_any S _ ((unhide HR).below (unhide HB1)) hl).mono ?_
 rintro e w2 ⟨n',c',rfl,hf',hb2⟩
 obtain ⟨rfl,rfl⟩:=(unhide HF).unique hf'
 have HB2:=hide ((unhide HB1).trans (hb2.mono (unhide HB1).size))
 clear hf' hb2 c0 c1 HF
 go_wp2_with fail
 refine (tnum_any c _).mono ?_
 rintro e w3 ⟨rfl,rfl⟩
 go_wp2_with fail
 go_ret
 exact ⟨rfl,unhide HB2⟩
set_option maxRecDepth 100000 in
set_option maxHeartbeats 1600000 in
theorem asked_def {w:World} {xb rb:Nat} {nm:Nat → Option Nat} {v:Value} {ds:List D} (hs:SesIs w xb nm (envOf ds)) (hr:RSes w rb v ds) (hl:(ds.length + 1) * 32 ≤ 140737488355328) (On Aa:Int) (S X:ByteArray) :
  Calls Tryz.prog 31 #[.agg #[.pointer (some ⟨xb,0,none⟩),.pointer (some ⟨rb,0,none⟩)],.agg #[.int .i64 6,.int .i64 On,.int .i64 Aa,.string S,.string X]] w fun e w'=>e = .returned (.bool true) ∧ ∃ w0 w1 nm' v' ds',Below w.heap.size w w0 ∧ SesIs w1 xb nm' (envOf ds') ∧ But xb w0 w1 ∧ RPut w1 rb v ds v' ds' w':=by
 have hxl:=lt_of_block hs.blk
 have HS:=hide hs
 have HR:=hide hr
 clear hs hr
 go_enter Tryz.func31,Tryz.ntmps31
 go_wp2_with fail
 have hb0:Below w.heap.size w ((w.alloc (.cells #[.pointer (some ⟨xb,0,none⟩),.pointer (some ⟨rb,0,none⟩)] 70)).alloc (.cells #[.int .i64 6,.int .i64 On,.int .i64 Aa,.string S,.string X] 73)):=((Below.refl _ _).alloc (Nat.le_refl _) _).alloc (by simp) _
 have hs0:=(unhide HS).below hb0
 refine (define_any S X _ hs0).mono ?_
 rintro e w1 ⟨c,env',nm',rfl,hf,hs1,hb1⟩
 have c0:w1.cell? ⟨w.heap.size,1,none⟩ = some (.pointer (some ⟨rb,0,none⟩)):=(hb1.cell (p:=⟨w.heap.size,1,none⟩) (by simp;omega) (by show w.heap.size ≠ xb;omega)).trans (by simp [go_sem])
 have c1:w1.cell? ⟨w.heap.size + 1,3,none⟩ = some (.string S):=(hb1.cell (p:=⟨w.heap.size + 1,3,none⟩) (by simp) (by show w.heap.size + 1 ≠ xb;omega)).trans (by simp [go_sem])
 have c2:w1.cell? ⟨w.heap.size + 1,4,none⟩ = some (.string X):=(hb1.cell (p:=⟨w.heap.size + 1,4,none⟩) (by simp) (by show w.heap.size + 1 ≠ xb;omega)).trans (by simp [go_sem])
 have hr0:=(unhide HR).below hb0
 have hr1:RSes w1 rb v ds:=hr0.but hs0.blk hb1
 have HF:=hide hf
 have HS1:=hide hs1
 have HB0:=hide hb0
 have HB1:=hide hb1
 have HR1:=hide hr1
 clear hf hb1 hb0 hs0 hr0 hs1 hr1
 go_wp2_with fail
 refine (rDefine_any (parts_all 1000) (facts_all 1000) S X _ (unhide HR1) hl).mono ?_
 rintro e w2 ⟨c',v',ds',rfl,hf',hp⟩
 obtain ⟨rfl,rfl⟩:=(unhide HF).unique hf'
 have HP:=hide hp
 clear hf' hp c0 c1 c2 HF
 go_wp2_with fail
 refine (tnum_any c _).mono ?_
 rintro e w3 ⟨rfl,rfl⟩
 go_wp2_with fail
 go_ret
 exact ⟨rfl,_,w1,nm',v',ds',unhide HB0,unhide HS1,unhide HB1,unhide HP⟩
def AskGot (n0 m:Nat) (ts:List Twn) (w w':World):Prop:=∃ ts',Tws n0 (m + 1) w' ts' ∧ trow ts' = trow ts ∧ ts'.length = ts.length ∧ Below n0 w w' ∧ KeepT w w'
theorem AskGot.below {n0 m:Nat} {ts:List Twn} {w w':World} (h:Tws n0 m w ts) (hn:n0 ≤ w.heap.size) (hb:Below w.heap.size w w'):AskGot n0 m ts w w':=⟨ts,(h.below hb).mono (Nat.le_succ _),rfl,rfl,hb.mono hn,KeepT.below hb⟩
theorem asked_any {n0 m:Nat} {w:World} {ts:List Twn} (h:Tws n0 m w ts) (hn:n0 ≤ w.heap.size) (hm:(m + 1) * 32 ≤ 140737488355328) (ht:Tab w) {j:Nat} (hj:j < ts.length) (K On Aa:Int) (S X:ByteArray) (h1:6 ≤ K) (h2:K < 9) :
  Calls Tryz.prog 31 #[.agg #[.pointer (some ⟨ts[j].xb,0,none⟩),.pointer (some ⟨ts[j].rb,0,none⟩)],.agg #[.int .i64 K,.int .i64 On,.int .i64 Aa,.string S,.string X]] w fun e w'=>e = .returned (.bool true) ∧ AskGot n0 m ts w w':=by
 have hJ:=h.one j hj
 have hl:ts[j].ds.length ≤ maxLen:=by have:=hJ.len;unfold maxLen;omega
 have hl2:(ts[j].ds.length + 1) * 32 ≤ 140737488355328:=by have:=hJ.len;omega
 rcases (show K = 6 ∨ K = 7 ∨ K = 8 by omega) with rfl | rfl | rfl
 ·refine (asked_def hJ.ses hJ.ref hl2 On Aa S X).mono ?_
  rintro e w' ⟨rfl,w0,w1,nm',v',ds',hb0,hs1,hb1,hp⟩
  have h0:=h.below hb0
  have hJ0:=h0.one j hj
  have hR1:RSes w1 ts[j].rb ts[j].v ts[j].ds:=hJ0.ref.but hJ0.ses.blk hb1
  have s0:n0 ≤ w0.heap.size:=Nat.le_trans hn hb0.size
  refine ⟨rfl,_,h0.define hj hs1 hb1 hp,trow_set ts j hj _ rfl,List.length_set,?_,?_⟩
  ·exact (hb0.mono hn).trans ((hb1.below s0 hJ.nx).trans (hp.chg.below (Nat.le_trans s0 hb1.size) hJ.nr hJ.nv))
  ·exact (KeepT.below hb0).trans ((KeepT.but hJ0.ses.blk hb1).trans (KeepT.chg hR1 hp.chg))
 ·refine (asked_facts hJ.ses hJ.ref hl On Aa S X).mono ?_
  rintro e w' ⟨rfl,hb⟩
  exact ⟨rfl,AskGot.below h hn hb⟩
 ·refine (asked_opp hJ.ses hJ.ref hl ht On Aa S X).mono ?_
  rintro e w' ⟨rfl,hb⟩
  exact ⟨rfl,AskGot.below h hn hb⟩
end Go.Proofs.YtikiaijgcjjloabGreatDoor

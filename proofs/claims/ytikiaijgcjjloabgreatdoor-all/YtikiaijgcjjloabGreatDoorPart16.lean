import Derived.Test.YtikiaijgcjjloabGreatDoorPart15
import Derived.Test.YtikiaijgcjjloabGreatDoorPart12
import Derived.Deep.DeepCutAuto
import Derived.BigRegion

namespace Go.Proofs.YtikiaijgcjjloabGreatDoor
open Go Go.RowKit M T Go.Lib
set_option maxRecDepth 100000 in
set_option maxHeartbeats 1600000 in
theorem placesText_any (g cap:Nat) (ps:List Nat) (w:World) (hc:∀ i (h:i < ps.length),w.cell? ⟨g,i,none⟩ = some (.int .i64 (ps[i]:Int))) (hg:g < w.heap.size) (hs:∀ i ∈ ps,i < 12) (hl:ps.length ≤ 100000) (ht:Tab w) :
  Calls Tryz.prog 63 #[.slice (some ⟨g,0,none⟩) ps.length cap] w fun e w'=>e = .returned (.string ⟨(dots ps).toArray⟩) ∧ Below w.heap.size w w':=by
 have HT:=hide ht
 clear ht
 go_enter Tryz.func63,Tryz.ntmps63
 go_wp2_with fail
 go_loopw [3,4,5,8] (fun v _ _ i wr=>∃ j:Nat,j ≤ ps.length ∧ i = .int .i64 (j:Int) ∧ v = .string ⟨(dots (ps.take j)).toArray⟩ ∧ Below w.heap.size w wr) (fun _ _ _ i _=>ps.length - (RowKit.intOf i).toNat)
 case atStart=>exact ⟨0,by omega,rfl,rfl,Below.refl _ _⟩
 case round=>
  obtain ⟨j,hj,rfl,rfl,hb⟩:=hrel
  have hdl:=dots_len ps j hs
  have HB:=hide hb
  by_cases hlt:j < ps.length
  ·have hcj:wr.cell? ⟨g,j,none⟩ = some (.int .i64 (ps[j]:Int)):=(hb.cell (p:=⟨g,j,none⟩) hg).trans (hc j hlt)
   have HS:=hide (dots_step ps j hlt)
   have h12:=hs ps[j] (List.getElem_mem hlt)
   have hd2:(decDigits ps[j]).length ≤ 2:=dec_len_le 2 _ (by decide) (by omega)
   have HI:=hide (itoa_nat (ps[j]:Int) (by omega))
   by_cases h0:j = 0
   ·have h0':¬ (0:Int) < (j:Int):=by omega
    have H0:=hide h0
    clear hb h0
    go_wp2_with fail
    refine (itoa_any _ _ (by omega) (by omega) (tab_below (unhide HT) (unhide HB))).mono ?_
    rintro e w1 ⟨rfl,hb1⟩
    rw [unhide HI,Int.toNat_natCast]
    have HB1:=hide ((unhide HB).trans (hb1.mono (unhide HB).size))
    clear hb1
    go_wp2_with fail
    go_roundw
    case rel=>exact ⟨j + 1,by omega,by go_num,by rw [unhide HS,if_pos (unhide H0)];simp [str_app],unhide HB1⟩
    case measure=>simp [RowKit.intOf];omega
   ·have h0':(0:Int) < (j:Int):=by omega
    have H0:=hide h0
    clear hb h0
    go_wp2_with fail
    refine (itoa_any _ _ (by omega) (by omega) (tab_below (unhide HT) (unhide HB))).mono ?_
    rintro e w1 ⟨rfl,hb1⟩
    rw [unhide HI,Int.toNat_natCast]
    have HB1:=hide ((unhide HB).trans (hb1.mono (unhide HB).size))
    clear hb1
    go_wp2_with fail
    go_roundw
    case rel=>exact ⟨j + 1,by omega,by go_num,by rw [unhide HS,if_neg (unhide H0)];simp [str_app],unhide HB1⟩
    case measure=>simp [RowKit.intOf];omega
  ·have hlt':¬ (j:Int) < (ps.length:Int):=by omega
   have hje:j = ps.length:=by omega
   have HE:=hide (show ps.take j = ps by rw [hje,List.take_length])
   clear hb hje
   go_wp2_with fail
   go_ret
   exact ⟨ret_str (by rw [unhide HE]),unhide HB⟩
def dcells (d:D):List Value:=[.int .u8 (d.c.toNat:Int),.string d.s,.int .i64 (factsNum d.t)]
theorem dcells_length (d:D):(dcells d).length = 3:=rfl
def drow (ds:List D):List Value:=(ds.map dcells).flatten
theorem drow_snoc (ds:List D) (d:D):drow ds ++ dcells d = drow (ds ++ [d]):=by unfold drow;simp
structure RSes (w:World) (rb:Nat) (v:Value) (ds:List D):Prop where
 blk:w.heap[rb]? = some (.cells #[v] 94 (0,0))
 own:w.ownsRow 0 124 3 v ds.length (drow ds)
 ok:DefsOk ds
theorem RSes.keeps {w w':World} {rb:Nat} {v:Value} {ds:List D} (h:RSes w rb v ds) (hk:∀ k,k < w.heap.size → w'.heap[k]? = w.heap[k]?):RSes w' rb v ds:=by
 refine ⟨by rw [hk rb (lt_of_block h.blk)];exact h.blk,⟨h.own.1,?_⟩,h.ok⟩
 rcases h.own.2 with h2 | ⟨g,cap,cur,hv,hg,hh,r⟩
 ·exact Or.inl h2
 ·exact Or.inr ⟨g,cap,cur,hv,hg,by rw [hk g (lt_of_block hh)];exact hh,r⟩
theorem RSes.below {w w':World} {rb:Nat} {v:Value} {ds:List D} (h:RSes w rb v ds) (hb:Below w.heap.size w w'):RSes w' rb v ds:=h.keeps (fun k hk=>hb.block k hk)
theorem RSes.drewN {w:World} {rb:Nat} {v:Value} {ds:List D} (h:RSes w rb v ds) (n:Nat):RSes (w.drewN n) rb v ds:=h.keeps (fun k _=>by rw [World.heap_drewN])
theorem drow_cell {w:World} {B:Nat} {e:TypeId} {g n cap:Nat} {xs:List D} (h:w.ownsRow B e 3 (.slice (some ⟨g,0,none⟩) n cap) xs.length (drow xs)) {j:Nat} (hj:j < xs.length) (i:Nat) (hi:i < 3):w.cell? ⟨g,j * 3 + i,none⟩ = (dcells xs[j])[i]?:=by
 have key:∀ (ys:List D) (j:Nat) (hj:j < ys.length),(drow ys)[j * 3 + i]? = (dcells ys[j])[i]?:=by
  intro ys
  induction ys with
  | nil=>intro j hj;simp at hj
  | cons y ys ih=>
   intro j hj
   have e:drow (y :: ys) = dcells y ++ drow ys:=rfl
   cases j with
   | zero=>
    rw [e,List.getElem?_append_left (by rw [dcells_length];omega)]
    simp
   | succ j=>
    rw [e,List.getElem?_append_right (by rw [dcells_length];omega),dcells_length,show (j + 1) * 3 + i - 3 = j * 3 + i by omega,ih j (by simpa using hj)]
    simp
 have hlt:i < (dcells xs[j]).length:=hi
 have:=h.cells (g:=g) rfl (j * 3 + i) ((dcells xs[j])[i]) (by rw [key xs j hj];exact List.getElem?_eq_getElem hlt)
 rw [show (⟨g,0,none⟩:Addr).add (j * 3 + i) = ⟨g,j * 3 + i,none⟩ from by unfold Addr.add;split <;> simp_all] at this
 rw [this,List.getElem?_eq_getElem hlt]
theorem RSes.slice {w:World} {rb:Nat} {v:Value} {ds:List D} (h:RSes w rb v ds):∃ ao cap,v = .slice ao ds.length cap ∧ (0 < ds.length → ∃ g,ao = some ⟨g,0,none⟩ ∧ ∀ j (hj:j < ds.length) i,i < 3 → w.cell? ⟨g,j * 3 + i,none⟩ = (dcells ds[j])[i]?):=by
 have hown:=h.own
 rcases h.own.2 with ⟨h1,h2⟩ | ⟨g,cap,cur,hv,_⟩
 ·exact ⟨none,0,by rw [h1,h2],fun hp=>by omega⟩
 ·refine ⟨some ⟨g,0,none⟩,cap,hv,fun _=>⟨g,rfl,fun j hj i hi=>?_⟩⟩
  rw [hv] at hown
  exact drow_cell hown hj i hi
def findI (ds:List D) (c:UInt8):Nat → Int
 | 0=>-1
 | n + 1=>if ds[n]?.map D.c = some c then (n:Int) else findI ds c n
theorem findI_succ {ds:List D} {c:UInt8} {n:Nat} (h:n < ds.length):findI ds c (n + 1) = if ds[n].c = c then (n:Int) else findI ds c n:=by
 rw [findI,List.getElem?_eq_getElem h]
 simp
theorem findI_spec (ds:List D) (c:UInt8):∀ n,n ≤ ds.length → (∃ j,∃ (hj:j < ds.length),j < n ∧ findI ds c n = (j:Int) ∧ ds[j].c = c ∧ envOf (ds.take n) c = some ds[j].t) ∨ (findI ds c n = -1 ∧ envOf (ds.take n) c = none)
 | 0,_=>Or.inr ⟨rfl,by rw [List.take_zero,envOf_nil]⟩
 | n + 1,hn=>by
  rw [findI_succ (by omega),envOf_take (by omega),Env.put]
  by_cases h:ds[n].c = c
  ·rw [if_pos h,if_pos h.symm]
   exact Or.inl ⟨n,by omega,by omega,rfl,h,rfl⟩
  ·rw [if_neg h,if_neg (fun e=>h e.symm)]
   rcases findI_spec ds c n (by omega) with ⟨j,hj,h1,h2⟩ | h2
   ·exact Or.inl ⟨j,hj,by omega,h2⟩
   ·exact Or.inr h2
set_option maxRecDepth 100000 in
set_option maxHeartbeats 800000 in
theorem find_any {rb:Nat} {v:Value} {ds:List D} (c:UInt8) (n:Nat) (w:World) (h:RSes w rb v ds) (hn:n ≤ ds.length) (hl:ds.length ≤ maxLen) :
  Calls Tryz.prog 120 #[.pointer (some ⟨rb,0,none⟩),.int .u8 (c.toNat:Int),.int .i64 (n:Int)] w fun e w'=>e = .returned (.int .i64 (findI ds c n)) ∧ w' = w:=by
 obtain ⟨ao,cap,rfl,hcs⟩:=h.slice
 have hb0:w.cell? ⟨rb,0,none⟩ = some (.slice ao ds.length cap):=blk_cell h.blk 0
 have hn2:n ≤ maxLen:=by omega
 unfold maxLen at hn2 hl
 clear h
 go_enter Tryz.func120,Tryz.ntmps120
 go_wp2_with fail
 go_loopg [7] n (fun k v wr=>∃ m:Nat,k = m ∧ m ≤ n ∧ v = .int .i64 ((m:Int) - 1) ∧ findI ds c n = findI ds c m ∧ w = wr)
 case atStart=>exact ⟨n,rfl,Nat.le_refl _,rfl,rfl,rfl⟩
 case round=>
  obtain ⟨m,hk,hm,hv,hf,rfl⟩:=hrel
  have HF:=hide hf
  have HK:=hide hk
  clear hf hk
  cases m with
  | zero=>
   have hv':_ = Value.int .i64 (-1):=hv
   subst hv'
   go_wp2_with fail
   go_ret
   exact ⟨by rw [unhide HF];rfl,rfl⟩
  | succ i=>
   have hv':_ = Value.int .i64 (i:Int):=hv.trans (congrArg (Value.int .i64) (by omega))
   subst hv'
   have hix:i < ds.length:=by omega
   obtain ⟨g,rfl,hcell⟩:=hcs (by omega)
   have c0:w.cell? ⟨g,i * 3,none⟩ = some (.int .u8 (ds[i].c.toNat:Int)):=hcell i hix 0 (by omega)
   have HS:=hide (findI_succ (c:=c) hix)
   have HC:=hide hcell
   clear hv hcell hcs
   by_cases he:ds[i].c = c
   ·have he':((ds[i].c.toNat:Int) == (c.toNat:Int)) = true:=by rw [he];simp
    go_wp2_with fail
    go_ret
    exact ⟨by rw [unhide HF,unhide HS,if_pos he];rfl,rfl⟩
   ·have he':((ds[i].c.toNat:Int) == (c.toNat:Int)) = false:=by
     rw [beq_eq_false_iff_ne]
     intro e
     exact he (UInt8.toNat_inj.1 (by omega))
    go_wp2_with fail
    go_roundg i
    case measure=>rw [unhide HK];omega
    case rel=>exact ⟨i,rfl,by omega,rfl,by rw [unhide HF,unhide HS,if_neg he],rfl⟩
def FS (m:Nat):Prop:=∀ (s:ByteArray) (t:Tm) (ds:List D) (rb:Nat) (v:Value) (n:Nat) (w:World),s.size ≤ m → s.size ≤ 1000 → RSes w rb v ds → n ≤ ds.length → ds.length ≤ maxLen → IsTerm (envOf (ds.take n)) s.data.toList t → Calls Tryz.prog 79 #[.pointer (some ⟨rb,0,none⟩),.string s,.int .i64 (n:Int)] w fun e w'=>e = .returned (.int .i64 (factsNum t)) ∧ Below w.heap.size w w'
def OfGot (p:Pt) (w:World) (e:Ending) (w':World):Prop:=e = .returned (.int .i64 (ptNum p)) ∧ Below w.heap.size w w'
def lA:ByteArray:=⟨#[97,61,116,100,35]⟩
def lP:ByteArray:=⟨#[114,60,116,100,35]⟩
def lQ:ByteArray:=⟨#[113,112]⟩
theorem sp_bits (y:Sp) (h:∀ c,y ≠ .times c):ptNum (.sp y) = fbits (!decide (y.first ∈ lA.data.toList)) (decide (y.first ∈ lP.data.toList)) (!decide (y.first ∈ lQ.data.toList)):=by
 cases y with
 | times c=>exact absurd rfl (h c)
 | _=>rfl
theorem sp_first (y:Sp) (h:∀ c,y ≠ .times c):(90 < y.first.toNat ∨ y.first.toNat < 65) ∧ y.first ≠ 42 ∧ y.first ≠ 40 ∧ y.first ≠ 91:=by
 cases y with
 | times c=>exact absurd rfl (h c)
 | _=>simp only [Sp.first];decide
set_option maxRecDepth 100000 in
set_option maxHeartbeats 1600000 in
theorem of_sp {y:Sp} (hy:∀ c,y ≠ .times c) (x:RC) (rb:Nat) (n:Nat) (w:World) (hx:RPt w x (.sp y)) :
  Calls Tryz.prog 121 #[.pointer (some ⟨rb,0,none⟩),RC.value x,.int .i64 (n:Int)] w fun e w'=>OfGot (.sp y) w e w':=by
 obtain ⟨Kd,P,Q,K,pa,pn,pc,F,G⟩:=x
 rw [show RC.value ⟨Kd,P,Q,K,pa,pn,pc,F,G⟩ = .agg #[.int .u8 (Kd.toNat:Int),.int .i64 P,.int .i64 Q,.int .i64 K,.slice pa pn pc,.string F,.string G] from rfl]
 have hk:Kd = y.first:=hx.1
 obtain ⟨hf,e42,e40,e91⟩:=sp_first y hy
 have HN:=hide (sp_bits y hy)
 rw [← hk] at hf e42 e40 e91 HN
 have q42:((Kd.toNat:Int) == 42) = false:=u8_ne' (d:=42) e42
 have q40:((Kd.toNat:Int) == 40) = false:=u8_ne' (d:=40) e40
 have q91:((Kd.toNat:Int) == 91) = false:=u8_ne' (d:=91) e91
 clear hk hx e42 e40 e91
 go_enter Tryz.func121,Tryz.ntmps121
 go_wp2_with fail
 refine (among_any Kd lA _ (by decide)).mono ?_
 rintro e w' ⟨rfl,rfl⟩
 generalize decide (Kd ∈ lA.data.toList) = b1 at HN ⊢
 go_wp2_with fail
 refine (among_any Kd lP _ (by decide)).mono ?_
 rintro e w' ⟨rfl,rfl⟩
 generalize decide (Kd ∈ lP.data.toList) = b2 at HN ⊢
 go_wp2_with fail
 refine (among_any Kd lQ _ (by decide)).mono ?_
 rintro e w' ⟨rfl,rfl⟩
 generalize decide (Kd ∈ lQ.data.toList) = b3 at HN ⊢
 rcases hf with hf | hf
 ·have g1:(65:Int) ≤ (Kd.toNat:Int):=by omega
  have g2:¬ (Kd.toNat:Int) ≤ 90:=by omega
  clear hf
  cases b1 <;> cases b2 <;> cases b3 <;> (go_wp2_with fail;go_ret;exact ⟨by rw [unhide HN];rfl,(by repeat (first | exact Below.refl _ _ | refine below_dr ?_ _ | refine Below.drew ?_ | refine Below.setCell ?_ (by simp) _ | refine Below.alloc ?_ (by simp) _))⟩)
 ·have g1:¬ (65:Int) ≤ (Kd.toNat:Int):=by omega
  clear hf
  cases b1 <;> cases b2 <;> cases b3 <;> (go_wp2_with fail;go_ret;exact ⟨by rw [unhide HN];rfl,(by repeat (first | exact Below.refl _ _ | refine below_dr ?_ _ | refine Below.drew ?_ | refine Below.setCell ?_ (by simp) _ | refine Below.alloc ?_ (by simp) _))⟩)
set_option maxRecDepth 100000 in
set_option maxHeartbeats 1600000 in
theorem of_times {c:Rat} (x:RC) (rb:Nat) (n:Nat) (w:World) (hx:RPt w x (.sp (.times c))) :
  Calls Tryz.prog 121 #[.pointer (some ⟨rb,0,none⟩),RC.value x,.int .i64 (n:Int)] w fun e w'=>OfGot (.sp (.times c)) w e w':=by
 obtain ⟨Kd,P,Q,K,pa,pn,pc,F,G⟩:=x
 rw [show RC.value ⟨Kd,P,Q,K,pa,pn,pc,F,G⟩ = .agg #[.int .u8 (Kd.toNat:Int),.int .i64 P,.int .i64 Q,.int .i64 K,.slice pa pn pc,.string F,.string G] from rfl]
 have hk:Kd = 42:=hx.1
 have hp:P = c.num:=hx.2.1
 have HN:=hide (show ptNum (.sp (.times c)) = if P = 0 then 4 else 5 by
  rw [hp]
  by_cases h:c = 0
  ·subst h;rfl
  ·have h':¬ c.num = 0:=fun e=>h (Rat.num_eq_zero.1 e)
   rw [if_neg h',ptNum,Pt.back,Sp.opp,if_neg h];rfl)
 subst hk
 clear hx hp
 go_enter Tryz.func121,Tryz.ntmps121
 go_wp2_with fail
 refine (among_any 42 lA _ (by decide)).mono ?_
 rintro e w' ⟨rfl,rfl⟩
 rw [show decide ((42:UInt8) ∈ lA.data.toList) = false from by decide]
 go_wp2_with fail
 refine (among_any 42 lP _ (by decide)).mono ?_
 rintro e w' ⟨rfl,rfl⟩
 rw [show decide ((42:UInt8) ∈ lP.data.toList) = false from by decide]
 go_wp2_with fail
 refine (among_any 42 lQ _ (by decide)).mono ?_
 rintro e w' ⟨rfl,rfl⟩
 rw [show decide ((42:UInt8) ∈ lQ.data.toList) = false from by decide]
 by_cases h:P = 0
 ·subst h
  go_wp2_with fail
  go_ret
  exact ⟨by rw [unhide HN];rfl,(by repeat (first | exact Below.refl _ _ | refine below_dr ?_ _ | refine Below.drew ?_ | refine Below.setCell ?_ (by simp) _ | refine Below.alloc ?_ (by simp) _))⟩
 ·have h':(P != 0) = true:=by simpa using h
  go_wp2_with fail
  go_ret
  exact ⟨by rw [unhide HN,if_neg h];rfl,(by repeat (first | exact Below.refl _ _ | refine below_dr ?_ _ | refine Below.drew ?_ | refine Below.setCell ?_ (by simp) _ | refine Below.alloc ?_ (by simp) _))⟩
theorem any_take {P:UInt8 → Bool} {s:ByteArray} {i:Nat} (hi:i < s.size):(s.data.toList.take (i + 1)).any P = ((s.data.toList.take i).any P || P s[i]):=by
 have h:i < s.data.toList.length:=by simpa using hi
 rw [List.take_succ_eq_append_getElem h,List.any_append]
 simp
 rfl
theorem any_whole {P:UInt8 → Bool} {s:ByteArray} {i:Nat} (hi:s.size ≤ i):(s.data.toList.take i).any P = s.data.toList.any P:=by
 rw [List.take_of_length_le (by simpa using hi)]
theorem any_found {P:UInt8 → Bool} {s:ByteArray} {i:Nat} (hi:i < s.size) (h:P s[i] = true):s.data.toList.any P = true:=by
 rw [List.any_eq_true]
 exact ⟨s[i],by
  have:s[i] = s.data.toList[i]'(by simpa using hi):=by simp;rfl
  rw [this]
  exact List.getElem_mem _,h⟩
def ChkGot (env:Env) (s:List UInt8) (e:Ending):Prop:=∃ c,e = .returned (.int .i64 c) ∧ (Check env s c ∨ (c = 0 ∧ ∃ t,T.Good env s t))
set_option maxRecDepth 100000 in
set_option maxHeartbeats 1600000 in
theorem check_any (hP:RPS 1000) {rb:Nat} {v:Value} {ds:List D} (s:ByteArray) (w:World) (h:RSes w rb v ds) (hl:ds.length ≤ maxLen) :
  Calls Tryz.prog 78 #[.pointer (some ⟨rb,0,none⟩),.string s] w fun e w'=>ChkGot (envOf ds) s.data.toList e ∧ Below w.heap.size w w':=by
 have HP:=hide hP
 have H:=hide h
 have hlen:s.data.toList.length = s.size:=by simp
 clear hP h
 go_enter Tryz.func78,Tryz.ntmps78
 by_cases hs:120 < s.size
 ·have hs':(120:Int) < (s.size:Int):=by omega
  go_wp2_with fail
  go_ret
  exact ⟨⟨5,rfl,Or.inl (Or.inl ⟨by omega,rfl⟩)⟩,Below.refl _ _⟩
 ·have hs':¬ (120:Int) < (s.size:Int):=by omega
  go_wp2_with fail
  refine (unhide HP s _ (by omega) (by omega)).mono ?_
  rintro e w1 ⟨⟨sl,ok,rfl,hG⟩,hb1⟩
  have HB1:=hide hb1
  have HG:=hide hG
  have H1:=hide ((unhide H).below hb1)
  clear hb1 hG H
  cases ok with
  | false=>
   go_wp2_with fail
   go_ret
   refine ⟨⟨6,rfl,Or.inl (Or.inr (Or.inl ⟨by omega,?_,rfl⟩))⟩,unhide HB1⟩
   rcases unhide HG with ⟨h,_⟩ | ⟨_,_,h⟩
   ·cases h
   ·exact whole_shape h
  | true=>
   obtain ⟨t,hw⟩:∃ t,Whole E0 s.data.toList (some t):=by
    rcases unhide HG with ⟨_,xs,ps,h,_⟩ | ⟨h,_⟩
    ·exact ⟨_,h⟩
    ·cases h
   obtain ⟨hwf,htx⟩:=whole_wf hw
   have hany:s.data.toList.any (unkB (envOf ds)) = t.unk (envOf ds):=by rw [← htx];exact Tm.any_text _ t hwf
   have HW:=hide hw
   have HA:=hide hany
   have HSh:=hide (show Shape s.data.toList from ⟨t,hwf,htx⟩)
   clear hw hany hwf htx HG
   obtain ⟨ao,cap,rfl,_⟩:=(unhide H1).slice
   have hb0:w1.cell? ⟨rb,0,none⟩ = some (.slice ao ds.length cap):=blk_cell (unhide H1).blk 0
   go_wp2_with fail
   go_loopg [7] s.size (fun k v wr=>∃ i:Nat,k = s.size - i ∧ i ≤ s.size ∧ v = .int .i64 (i:Int) ∧ (s.data.toList.take i).any (unkB (envOf ds)) = false ∧ Below w1.heap.size w1 wr)
   case atStart=>exact ⟨0,rfl,Nat.zero_le _,rfl,rfl,Below.refl _ _⟩
   case round=>
    obtain ⟨i,hk,hi,rfl,hno,hbr⟩:=hrel
    have HK:=hide hk
    have HNo:=hide hno
    have HBr:=hide hbr
    have HR:=hide ((unhide H1).below hbr)
    have hbr0:wr.cell? ⟨rb,0,none⟩ = some (.slice ao ds.length cap):=blk_cell (unhide HR).blk 0
    clear hk hno hbr hb0
    by_cases hlt:i < s.size
    ·have hlt':(i:Int) < (s.size:Int):=by omega
     have HT:=hide (any_take (P:=unkB (envOf ds)) hlt)
     by_cases h1:65 ≤ s[i].toNat
     ·have g1:decide ((65:Int) ≤ (s[i].toNat:Int)) = true:=decide_eq_true (by omega)
      by_cases h2:s[i].toNat ≤ 90
      ·have g2:decide ((s[i].toNat:Int) ≤ (90:Int)) = true:=decide_eq_true (by omega)
       have hup:up s[i] = true:=decide_eq_true ⟨h1,h2⟩
       have HU:=hide hup
       have hsp:=findI_spec ds s[i] ds.length (Nat.le_refl _)
       rw [List.take_length] at hsp
       rcases hsp with ⟨j,hj,_,hf,_,he⟩ | ⟨hf,he⟩
       ·have g3:decide (findI ds s[i] ds.length < 0) = false:=decide_eq_false (by rw [hf];omega)
        have HE:=hide he
        clear hf he hup
        go_wp2_with fail
        go_quiet (first | (go_at_call 120;exact Calls.quiet_of_same (find_any s[i] ds.length _ ((unhide HR).drewN _) (Nat.le_refl _) hl)))
        go_wp2_with fail
        go_roundg (s.size - (i + 1))
        case measure=>rw [unhide HK];omega
        case rel=>exact ⟨i + 1,rfl,by omega,rfl,by rw [unhide HT,unhide HNo,unkB,unhide HE];simp,below_dr (unhide HBr) _⟩
       ·have g3:decide (findI ds s[i] ds.length < 0) = true:=decide_eq_true (by rw [hf];omega)
        have HE:=hide he
        clear hf he hup
        go_wp2_with fail
        go_quiet (first | (go_at_call 120;exact Calls.quiet_of_same (find_any s[i] ds.length _ ((unhide HR).drewN _) (Nat.le_refl _) hl)))
        go_wp2_with fail
        go_ret
        refine ⟨⟨7,rfl,Or.inl (Or.inr (Or.inr ⟨by omega,unhide HSh,?_,rfl⟩))⟩,?_⟩
        ·refine whole_unk (unhide HW) ?_
         rw [← unhide HA]
         exact any_found hlt (by rw [unkB,unhide HU,unhide HE];rfl)
        ·exact below_dr ((unhide HB1).trans ((unhide HBr).mono (unhide HB1).size)) _
      ·have g2:decide ((s[i].toNat:Int) ≤ (90:Int)) = false:=decide_eq_false (by omega)
       have HU:=hide (show up s[i] = false from decide_eq_false (by omega))
       go_wp2_with fail
       go_quiet (fail)
       go_wp2_with fail
       go_roundg (s.size - (i + 1))
       case measure=>rw [unhide HK];omega
       case rel=>exact ⟨i + 1,rfl,by omega,rfl,by rw [unhide HT,unhide HNo,unkB,unhide HU];rfl,below_dr (unhide HBr) _⟩
     ·have g1:decide ((65:Int) ≤ (s[i].toNat:Int)) = false:=decide_eq_false (by omega)
      have HU:=hide (show up s[i] = false from decide_eq_false (by omega))
      go_wp2_with fail
      go_quiet (fail)
      go_wp2_with fail
      go_roundg (s.size - (i + 1))
      case measure=>rw [unhide HK];omega
      case rel=>exact ⟨i + 1,rfl,by omega,rfl,by rw [unhide HT,unhide HNo,unkB,unhide HU];rfl,below_dr (unhide HBr) _⟩
    ·have hlt':¬ (i:Int) < (s.size:Int):=by omega
     go_wp2_with fail
     go_ret
     refine ⟨⟨0,rfl,Or.inr ⟨rfl,t.bind (envOf ds),by omega,?_⟩⟩,(unhide HB1).trans ((unhide HBr).mono (unhide HB1).size)⟩
     have hz:=unhide HNo
     rw [any_whole (by omega),unhide HA] at hz
     have hwf:=(unhide H1).ok.wf ds.length (Nat.le_refl _)
     rw [List.take_length] at hwf
     exact whole_good hwf (unhide HW) hz
set_option maxRecDepth 100000 in
set_option maxHeartbeats 800000 in
theorem rNew_any (w:World):Calls Tryz.prog 29 #[] w fun e w'=>e = .returned (.pointer (some ⟨w.heap.size,0,none⟩)) ∧ w' = w.alloc (.cells #[.slice none 0 0] 94):=by
 go_enter Tryz.func29,Tryz.ntmps29
 go_wp2_with fail
 go_ret
 exact ⟨rfl,rfl⟩
theorem rNew_RSes (w:World):RSes (w.alloc (.cells #[.slice none 0 0] 94)) w.heap.size (.slice none 0 0) [] :=
 ⟨heap_alloc_new w _,World.ownsRow_nil _ _ _ _,DefsOk.nil⟩
set_option maxRecDepth 100000 in
set_option maxHeartbeats 1600000 in
theorem rFacts_any (hP:RPS 1000) (hF:FS 1000) {rb:Nat} {v:Value} {ds:List D} (s:ByteArray) (w:World) (h:RSes w rb v ds) (hl:ds.length ≤ maxLen) :
  Calls Tryz.prog 49 #[.pointer (some ⟨rb,0,none⟩),.string s] w fun e w'=>∃ n c,e = .returned (.tuple #[.int .i64 n,.int .i64 c]) ∧ FactsSays (envOf ds) s.data.toList n c ∧ Below w.heap.size w w':=by
 have HP:=hide hP
 have HF:=hide hF
 have H:=hide h
 clear hP hF h
 go_enter Tryz.func49,Tryz.ntmps49
 go_wp2_with fail
 refine (check_any (unhide HP) s _ (unhide H) hl).mono ?_
 rintro e w1 ⟨⟨c,rfl,hc⟩,hb1⟩
 have HB1:=hide hb1
 have H1:=hide ((unhide H).below hb1)
 clear hb1
 rcases hc with hc | ⟨rfl,t,hg⟩
 ·have hne:(c != 0) = true:=by rw [bne_iff_ne];exact hc.ne
  have HC:=hide hc
  clear hc
  go_wp2_with fail
  exact bodyPost_ret (v:=.tuple #[.int .i64 0,.int .i64 c]) (by simp [results,Tryz.results49,go_sem]) rfl ⟨0,c,rfl,Or.inl ⟨unhide HC,rfl⟩,unhide HB1⟩
 ·have HG:=hide hg
  obtain ⟨ao,cap,rfl,_⟩:=(unhide H1).slice
  have hb0:w1.cell? ⟨rb,0,none⟩ = some (.slice ao ds.length cap):=blk_cell (unhide H1).blk 0
  have hsz:s.size ≤ 1000:=by have:=hg.len;simp at this;omega
  clear hg
  go_wp2_with fail
  refine (unhide HF s t ds rb _ ds.length _ hsz hsz (unhide H1) (Nat.le_refl _) hl (by rw [List.take_length];exact (unhide HG).term)).mono ?_
  rintro e w2 ⟨rfl,hb2⟩
  have HB2:=hide ((unhide HB1).trans (hb2.mono (unhide HB1).size))
  clear hb2
  go_wp2_with fail
  exact bodyPost_ret (v:=.tuple #[.int .i64 (factsNum t),.int .i64 0]) (by simp [results,Tryz.results49,go_sem]) rfl ⟨factsNum t,0,rfl,Or.inr ⟨t,unhide HG,rfl,rfl⟩,unhide HB2⟩
theorem Tryz.infoDef:(Tryz.prog.info? 124).map (fun i=>(i.zero,i.size,i.bytes)) = some (some (.agg #[.int .u8 0,.string ⟨#[]⟩,.int .i64 0]),3,32):=by kernel_rfl
theorem one_dcells (d:D):∀ u ∈ dcells d,u.oneCell' = true:=by
 intro u hu
 simp only [dcells,List.mem_cons,List.not_mem_nil,or_false] at hu
 rcases hu with rfl | rfl | rfl <;> rfl
theorem RSes.apart {w:World} {rb:Nat} {v:Value} {ds:List D} (h:RSes w rb v ds):v.ownBlock ≠ some rb:=by
 intro e
 rcases h.own.2 with ⟨h1,_⟩ | ⟨g,cap,cur,hv,_,hh,_⟩
 ·rw [h1] at e;cases e
 ·rw [hv] at e;cases e
  have:=h.blk
  rw [hh] at this;cases this
theorem RSes.old {w w1:World} {rb:Nat} {v:Value} {ds:List D} (h:RSes w rb v ds) {o:Obj} (hg:(w.alloc o).drew.grownBy w1 v.ownBlock):(∀ k,k < w.heap.size → v.ownBlock ≠ some k → w1.heap[k]? = w.heap[k]?) ∧ w.heap.size ≤ w1.heap.size ∧ w1.heap[rb]? = some (.cells #[v] 94 (0,0)):=by
 have hold:∀ k,k < w.heap.size → v.ownBlock ≠ some k → w1.heap[k]? = w.heap[k]?:=by
  intro k hk hn
  rw [hg.block k (by show k < (w.heap.push _).size;simp;omega) (fun e=>hn e.symm)]
  show (w.alloc _).heap[k]? = _
  rw [Below.heap_alloc _ _ _ hk]
 refine ⟨hold,?_,(hold rb (lt_of_block h.blk) h.apart).trans h.blk⟩
 have e:w.heap.size ≤ (w.heap.push o).size:=by simp
 exact Nat.le_trans e hg.size
theorem RSes.put {w w1:World} {rb:Nat} {v v':Value} {ds:List D} {d:D} (h:RSes w rb v ds) {o:Obj} (hg:(w.alloc o).drew.grownBy w1 v.ownBlock) (hown:w1.ownsRow 0 124 3 v' (ds.length + 1) (drow ds ++ dcells d)) (hok:DefsOk (ds ++ [d])):RSes (w1.setCell ⟨rb,0,none⟩ v') rb v' (ds ++ [d]) ∧ Chg rb v w (w1.setCell ⟨rb,0,none⟩ v'):=by
 obtain ⟨h1,h2,h3⟩:=h.old hg
 refine ⟨⟨blk_set h3 0 v',?_,hok⟩,Chg.setCell (show Chg rb v w w1 from ⟨hg.os,hg.tape,hg.output,h2,fun k hk _ hn=>h1 k hk hn⟩) _ _⟩
 rw [← drow_snoc,List.length_append]
 refine ⟨hown.1,?_⟩
 rcases hown.2 with h4 | ⟨g,cap,cur,hv,hg0,hh,r⟩
 ·exact Or.inl h4
 ·refine Or.inr ⟨g,cap,cur,hv,hg0,?_,r⟩
  rw [Below.heap_setCell _ _ _ _ (by show g ≠ rb;rintro rfl;rw [hh] at h3;cases h3)]
  exact hh
structure RPut (w:World) (rb:Nat) (v:Value) (ds:List D) (v':Value) (ds':List D) (w':World):Prop where
 ses:RSes w' rb v' ds'
 chg:Chg rb v w w'
 len:ds'.length ≤ ds.length + 1
 own:v'.ownBlock = v.ownBlock ∨ ∀ g,v'.ownBlock = some g → w.heap.size ≤ g
theorem RPut.same {w w':World} {rb:Nat} {v:Value} {ds:List D} (h:RSes w rb v ds) (hb:Below w.heap.size w w'):RPut w rb v ds v ds w':=⟨h.below hb,Chg.of_below hb,Nat.le_succ _,Or.inl rfl⟩
set_option maxRecDepth 100000 in
set_option maxHeartbeats 3200000 in
theorem rDefine_any (hP:RPS 1000) (hF:FS 1000) {rb:Nat} {v:Value} {ds:List D} (name s:ByteArray) (w:World) (h:RSes w rb v ds) (hl:(ds.length + 1) * 32 ≤ 140737488355328) :
  Calls Tryz.prog 47 #[.pointer (some ⟨rb,0,none⟩),.string name,.string s] w fun e w'=>∃ c v' ds',e = .returned (.int .i64 c) ∧ DefineSays (envOf ds) name.data.toList s.data.toList c (envOf ds') ∧ RPut w rb v ds v' ds' w':=by
 obtain ⟨i0,hi,hz0,hz1,hz2⟩:=info_parts Tryz.infoDef
 have HP:=hide hP
 have HF:=hide hF
 have H:=hide h
 have hlm:ds.length ≤ maxLen:=by unfold maxLen;omega
 clear hP hF h
 by_cases h1:name.size = 1
 ·have hne:(((name.size:Nat):Int) != 1) = false:=by rw [h1];rfl
  have hix:(0:Int) < (name.size:Int):=by omega
  have HN:=hide (name_one h1)
  have h10:0 < name.size:=by omega
  obtain ⟨c,hc⟩:∃ c,name[0] = c:=⟨_,rfl⟩
  by_cases h2:65 ≤ c.toNat ∧ c.toNat ≤ 90
  ·obtain ⟨h2,h3⟩:=h2
   have g2:¬ (c.toNat:Int) < 65:=by omega
   have g3:¬ (90:Int) < (c.toNat:Int):=by omega
   go_enter Tryz.func47,Tryz.ntmps47
   go_wp2_with fail
   refine (check_any (unhide HP) s _ (unhide H) hlm).mono ?_
   rintro e w1 ⟨⟨k,rfl,hk⟩,hb1⟩
   have HB1:=hide hb1
   have H1:=hide ((unhide H).below hb1)
   clear hb1
   rcases hk with hk | ⟨rfl,t,hg⟩
   ·have hke:(k != 0) = true:=by rw [bne_iff_ne];exact hk.ne
    have HC:=hide hk
    clear hk
    go_wp2_with fail
    go_ret
    exact ⟨k,v,ds,rfl,Or.inr ⟨c,by rw [unhide HN,hc],h2,h3,Or.inl ⟨unhide HC,rfl⟩⟩,RPut.same (unhide H) (unhide HB1)⟩
   ·have HG:=hide hg
    have hb0:w1.cell? ⟨rb,0,none⟩ = some v:=blk_cell (unhide H1).blk 0
    obtain ⟨ao,cap,hv,_⟩:=(unhide H1).slice
    have hsz:s.size ≤ 1000:=by have:=hg.len;simp at this;omega
    subst hv
    clear hg
    go_wp2_with fail
    refine (unhide HF s t ds rb _ ds.length _ hsz hsz (unhide H1) (Nat.le_refl _) hlm (by rw [List.take_length];exact (unhide HG).term)).mono ?_
    rintro e w2 ⟨rfl,hb2⟩
    have HB2:=hide ((unhide HB1).trans (hb2.mono (unhide HB1).size))
    have H2:=hide ((unhide H1).below hb2)
    have hb02:w2.cell? ⟨rb,0,none⟩ = some (.slice ao ds.length cap):=blk_cell (unhide H2).blk 0
    have hbf2:∀ i,w2.frozen? ⟨rb,i,none⟩ = false:=fun i=>blk_free (unhide H2).blk i
    have hlt2:=lt_of_block (unhide H2).blk
    have hlen0:=owns_len (unhide H2).own
    have HOk:=hide ((unhide H2).ok.snoc (d:=⟨c,s,t⟩) (unhide HG) ⟨h2,h3⟩)
    clear hb2 hb0
    go_upto_region 7 with fail
    go_cut [] (fun wx=>∃ v',RSes wx rb v' (ds ++ [⟨c,s,t⟩]) ∧ Chg rb (.slice ao ds.length cap) w2 wx ∧ (v'.ownBlock = (Value.slice ao ds.length cap).ownBlock ∨ ∀ g,v'.ownBlock = some g → w2.heap.size ≤ g))
    case first=>
     go_region_law (refine step_append_own rfl (.tmp 40) (.tmp 46) 92 rfl 0 124 i0 _ 3 32 Tryz.underlying92 hi hz0 hz1 hz2 rfl (by decide) (.slice ao ds.length cap) ds.length (drow ds) (by simp [Act.eval]) (by first | exact ((unhide H2).own.alloc _).drew | exact (unhide H2).own.drew.alloc _) ⟨w2.heap.size,0,none⟩ 1 1 (dcells ⟨c,s,t⟩) (by simp [Act.eval]) rfl (by exact news_alloc w2 (dcells ⟨c,s,t⟩) 124) (one_dcells _) (by unfold maxLen;omega) (by omega) (by simp) ?_;intro v' w3 hown3 hgr3 hnn3 hwh3;obtain ⟨g',cap',rfl⟩:=owns_some hown3 (fun e=>absurd (hnn3.1 e).2 (by decide));have hc3:w3.cell? ⟨rb,0,none⟩ = some (.slice ao ds.length cap):=blk_cell ((unhide H2).old hgr3).2.2 0;have hf3:∀ i,w3.frozen? ⟨rb,i,none⟩ = false:=fun i=>blk_free ((unhide H2).old hgr3).2.2 i)
     all_goals go_wp2_with fail
     all_goals go_meet
     all_goals exact ⟨_,((unhide H2).put hgr3 hown3 (unhide HOk)).1,((unhide H2).put hgr3 hown3 (unhide HOk)).2,hwh3.imp id (fun h g hg=>by have:=h g hg;simp at this;omega)⟩
    case rest=>
    obtain ⟨v',hs',hch,hw'⟩:=hcut
    have HS:=hide hs'
    have HCh:=hide hch
    have HW:=hide hw'
    clear hs' hch hw'
    go_wp2_with fail
    go_ret
    refine ⟨0,v',ds ++ [⟨c,s,t⟩],rfl,Or.inr ⟨c,by rw [unhide HN,hc],h2,h3,Or.inr ⟨t,unhide HG,rfl,by rw [envOf_snoc]⟩⟩,unhide HS,(Chg.of_below (unhide HB2)).trans (unhide HCh),by simp,(unhide HW).imp id (fun h g hg=>Nat.le_trans (unhide HB2).size (h g hg))⟩
  ·have h2':c.toNat < 65 ∨ 90 < c.toNat:=by omega
   have H2:=hide h2
   clear h2
   go_enter Tryz.func47,Tryz.ntmps47
   have HX:Hid (DefineSays (envOf ds) name.data.toList s.data.toList 4 (envOf ds)):=Or.inl ⟨by rintro ⟨d,hd,d1,d2⟩;rw [unhide HN,hc] at hd;cases hd;exact unhide H2 ⟨d1,d2⟩,rfl,rfl⟩
   rcases h2' with h2' | h2'
   ·have g2:(c.toNat:Int) < 65:=by omega
    go_wp2_with fail
    go_ret
    first
     | exact ⟨4,v,ds,rfl,unhide HX,RPut.same (unhide H) (Below.refl _ _)⟩
     | exact ⟨4,rfl,v,ds,unhide HX,RPut.same (unhide H) (Below.refl _ _)⟩
   ·have g2:¬ (c.toNat:Int) < 65:=by omega
    have g3:(90:Int) < (c.toNat:Int):=by omega
    go_wp2_with fail
    go_ret
    first
     | exact ⟨4,v,ds,rfl,unhide HX,RPut.same (unhide H) (Below.refl _ _)⟩
     | exact ⟨4,rfl,v,ds,unhide HX,RPut.same (unhide H) (Below.refl _ _)⟩
 ·have hne:(((name.size:Nat):Int) != 1) = true:=by rw [bne_iff_ne];omega
  have H1:=hide h1
  clear h1
  go_enter Tryz.func47,Tryz.ntmps47
  go_wp2_with fail
  go_ret
  exact ⟨4,v,ds,rfl,Or.inl ⟨by
   rintro ⟨d,hd,_,_⟩
   have:=congrArg List.length hd
   exact unhide H1 (by simpa using this),rfl,rfl⟩,RPut.same (unhide H) (Below.refl _ _)⟩
end Go.Proofs.YtikiaijgcjjloabGreatDoor

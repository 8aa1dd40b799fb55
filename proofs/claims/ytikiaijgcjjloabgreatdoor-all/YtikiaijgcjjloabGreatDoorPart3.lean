import Derived.Test.YtikiaijgcjjloabGreatDoorPart2

namespace Go.Proofs.YtikiaijgcjjloabGreatDoor
namespace T
def Sp.wf:Sp → Prop
 | .plus c=>small c = true
 | .times c=>small c = true
 | .set c=>small c = true
 | .shift k=>-99 ≤ k ∧ k ≤ 99
 | .take k=>k ≤ 12
 | .drop k=>k ≤ 12
 | .pick ps=>ps ≠ [] ∧ ps.Nodup ∧ ∀ i ∈ ps,i < 12
 | _=>True
mutual
def Pt.wf:Pt → Prop
 | .sp x=>x.wf
 | .pow f k=>f.wf ∧ -999 ≤ k ∧ k ≤ 999
 | .under s g=>s.wf ∧ g.wf
 | .name c b=>65 ≤ c.toNat ∧ c.toNat ≤ 90 ∧ b.wf
def Tm.wf:Tm → Prop
 | .nil=>True
 | .cons p t=>p.wf ∧ t.wf
end
def Natl (g:List Rat → Nat → Res) (n f:Nat):Prop :=
 (∃ e,∀ l:List Rat,l.length = n → g l f = .err e) ∨ ∃ idx:List Nat,∃ f',idx.Nodup ∧ (∀ i ∈ idx,i < n) ∧ ∀ l:List Rat,l.length = n → g l f = .ok (picked idx l) f'
theorem picked_length (ps:List Nat) (l:List Rat):(picked ps l).length = ps.length:=by simp [picked]
theorem picked_picked (ps qs:List Nat) (l:List Rat) (h:∀ i ∈ qs,i < ps.length):picked qs (picked ps l) = picked (qs.map fun i=>ps.getD i 0) l:=by
 unfold picked
 rw [List.map_map]
 apply List.map_congr_left
 intro i hi
 have hi':=h i hi
 show (ps.map _).getD i 0 = _
 simp [List.getD,hi']
theorem picked_range (l:List Rat):picked (List.range l.length) l = l:=by
 unfold picked
 apply List.ext_getElem
 ·simp
 ·intro i h1 h2
  simp [List.getD,h2]
theorem Natl.then {g h:List Rat → Nat → Res} {n f:Nat} (hg:Natl g n f) (hh:∀ n f,Natl h n f):Natl (fun l f=>Res.then (g l f) h) n f:=by
 rcases hg with ⟨e,he⟩ | ⟨ps,f1,hnd,hlt,hps⟩
 ·exact Or.inl ⟨e,fun l hl=>by show Res.then (g l f) h = _;rw [he l hl];rfl⟩
 ·rcases hh ps.length f1 with ⟨e,he⟩ | ⟨qs,f2,hnd2,hlt2,hqs⟩
  ·exact Or.inl ⟨e,fun l hl=>by show Res.then (g l f) h = _;rw [hps l hl];exact he _ (picked_length _ _)⟩
  ·refine Or.inr ⟨qs.map fun i=>ps.getD i 0,f2,?_,?_,fun l hl=>?_⟩
   ·rw [List.nodup_iff_pairwise_ne] at *
    rw [List.pairwise_map]
    refine hnd2.imp_of_mem ?_
    intro i j hi hj hij e
    have hi':=hlt2 i hi
    have hj':=hlt2 j hj
    simp only [List.getD,List.getElem?_eq_getElem hi',List.getElem?_eq_getElem hj',Option.getD_some] at e
    exact hij ((List.getElem_inj (List.nodup_iff_pairwise_ne.2 hnd)).1 e)
   ·intro i hi
    obtain ⟨j,hj,rfl⟩:=List.mem_map.1 hi
    have hj':=hlt2 j hj
    have:ps.getD j 0 = ps[j]:=by simp [List.getD,hj']
    rw [this]
    exact hlt _ (List.getElem_mem hj')
   ·show Res.then (g l f) h = _
    rw [hps l hl]
    show h _ _ = _
    rw [hqs _ (picked_length _ _),picked_picked _ _ _ hlt2]
theorem natl_id (n f:Nat):Natl (fun l f=>.ok l f) n f :=
 Or.inr ⟨List.range n,f,List.nodup_range,fun i hi=>List.mem_range.1 hi,fun l hl=>by rw [← hl,picked_range]⟩
theorem Natl.stepped {g:List Rat → Nat → Res} (hg:∀ n f,Natl g n f) (n f:Nat):Natl (stepped g) n f:=by
 cases f with
 | zero=>exact Or.inl ⟨10,fun _ _=>rfl⟩
 | succ f=>exact hg n f
theorem Natl.iter {g:List Rat → Nat → Res} (hg:∀ n f,Natl g n f):∀ (k n f:Nat),Natl (iter g k) n f
 | 0,n,f=>by
  have h:=natl_id n f
  have e:(fun l f=>Res.ok l f) = T.iter g 0:=by funext l f;rw [iter_zero]
  rw [e] at h
  exact h
 | k + 1,n,f=>by
  have h:=Natl.stepped (g:=fun l f=>Res.then (g l f) (T.iter g k)) (fun n f=>(hg n f).then (Natl.iter hg k)) n f
  have e:T.stepped (fun l f=>Res.then (g l f) (T.iter g k)) = T.iter g (k + 1):=by funext l f;rw [iter_succ]
  rw [e] at h
  exact h
theorem natl_err (e:Int) (n f:Nat):Natl (fun _ _=>.err e) n f:=Or.inl ⟨e,fun _ _=>rfl⟩
theorem picked_take (l:List Rat) (k:Nat) (hk:k ≤ l.length):picked (List.range k) l = l.take k:=by
 unfold picked
 apply List.ext_getElem
 ·simp;omega
 ·intro i h1 h2
  simp at h1
  simp [List.getD,show i < l.length by omega]
theorem picked_append (ps qs:List Nat) (l:List Rat):picked (ps ++ qs) l = picked ps l ++ picked qs l:=by simp [picked]
theorem picked_drop (l:List Rat) (k:Nat):picked ((List.range l.length).drop k) l = l.drop k:=by
 have h:=picked_range l
 have h2:=congrArg (List.drop k) h
 rw [← h2]
 simp [picked]
theorem picked_take' (l:List Rat) (k:Nat):picked ((List.range l.length).take k) l = l.take k:=by
 have h:picked ((List.range l.length).take k) l = (picked (List.range l.length) l).take k:=by unfold picked;rw [List.map_take]
 rw [h,picked_range]
theorem picked_reverse (l:List Rat):picked (List.range l.length).reverse l = l.reverse:=by
 have h:=picked_range l
 have h2:=congrArg List.reverse h
 rw [← h2]
 simp [picked]
theorem natl_turn (k:Int) (n f:Nat):Natl (fun l f=>lift (.ok (turn k l)) f) n f:=by
 refine Or.inr ⟨(List.range n).drop (k % n).toNat ++ (List.range n).take (k % n).toNat,f,?_,?_,?_⟩
 ·refine (List.Perm.nodup_iff List.perm_append_comm).2 ?_
  rw [List.take_append_drop]
  exact List.nodup_range
 ·intro i hi
  rcases List.mem_append.1 hi with h | h
  ·exact List.mem_range.1 (List.mem_of_mem_drop h)
  ·exact List.mem_range.1 (List.mem_of_mem_take h)
 ·intro l hl
  subst hl
  show Res.ok (turn k l) f = _
  rw [picked_append,picked_drop,picked_take']
  rfl
theorem Sp.natl {x:Sp} (hp:x.picker = true) (hw:x.wf) (b:Bool) (n f:Nat):Natl (fun l f=>lift (if b then x.workBack l else x.work l) f) n f:=by
 have hr:Natl (fun l f=>lift (.ok l.reverse) f) n f:=by
  refine Or.inr ⟨(List.range n).reverse,f,?_,?_,?_⟩
  ·exact (List.Perm.nodup_iff (List.reverse_perm _)).2 List.nodup_range
  ·intro i hi;exact List.mem_range.1 (List.mem_reverse.1 hi)
  ·intro l hl;subst hl;show Res.ok l.reverse f = _;rw [picked_reverse]
 cases x with
 | r=>cases b <;> exact hr
 | shift k=>
  cases b
  ·exact natl_turn k n f
  ·exact natl_turn (-k) n f
 | take k=>
  cases b
  ·by_cases hk:k ≤ n
   ·refine Or.inr ⟨List.range k,f,List.nodup_range,fun i hi=>by have:=List.mem_range.1 hi;omega,fun l hl=>?_⟩
    subst hl
    show lift (if k ≤ l.length then .ok (l.take k) else .error 11) f = _
    rw [if_pos hk,picked_take l k hk];rfl
   ·refine Or.inl ⟨11,fun l hl=>?_⟩
    subst hl
    show lift (if k ≤ l.length then .ok (l.take k) else .error 11) f = _
    rw [if_neg hk];rfl
  ·exact natl_err 12 n f
 | drop k=>
  cases b
  ·by_cases hk:k ≤ n
   ·refine Or.inr ⟨(List.range n).drop k,f,?_,fun i hi=>List.mem_range.1 (List.mem_of_mem_drop hi),fun l hl=>?_⟩
    ·exact List.nodup_range.sublist (List.drop_sublist _ _)
    ·subst hl
     show lift (if k ≤ l.length then .ok (l.drop k) else .error 11) f = _
     rw [if_pos hk,picked_drop];rfl
   ·refine Or.inl ⟨11,fun l hl=>?_⟩
    subst hl
    show lift (if k ≤ l.length then .ok (l.drop k) else .error 11) f = _
    rw [if_neg hk];rfl
  ·exact natl_err 12 n f
 | pick ps=>
  cases b
  ·obtain ⟨_,hnd,_⟩:=hw
   by_cases hk:ps.all (· < n) = true
   ·refine Or.inr ⟨ps,f,hnd,fun i hi=>by simpa using List.all_eq_true.1 hk i hi,fun l hl=>?_⟩
    subst hl
    show lift (if ps.all (· < l.length) then .ok (picked ps l) else .error 11) f = _
    rw [if_pos hk];rfl
   ·refine Or.inl ⟨11,fun l hl=>?_⟩
    subst hl
    show lift (if ps.all (· < l.length) then .ok (picked ps l) else .error 11) f = _
    rw [if_neg hk];rfl
  ·exact natl_err 12 n f
 | _=>cases hp
theorem Pt.run_fun (p:Pt) (b:Bool):p.run b = T.stepped (fun l f=>match p with
  | .sp x=>lift (if b then x.workBack l else x.work l) f
  | .pow t k=>if (if b then -k else k) < 0 ∧ t.back = false then .err 12 else iter (fun l f=>t.run (decide ((if b then -k else k) < 0)) l f) k.natAbs l f
  | .under s g=>
   if s.picker then
    Res.then (s.run false (allPlaces l.length) f) fun at_ f1=>
     Res.then (g.run b (picked (places at_) l) f1) fun ys f2=>
      if ys.length = at_.length then .ok (layAt (places at_) ys l) f2 else .err 11
   else if s.back && s.plain then
    Res.then (s.run false l f) fun l1 f1=>Res.then (g.run b l1 f1) fun l2 f2=>s.run true l2 f2
   else .err 12
  | .name _ t=>t.run b l f):=by
 funext l f
 exact Pt.run_eq p b l f
mutual
theorem Pt.natl:∀ (p:Pt),p.picker = true → p.wf → ∀ (b:Bool) (n f:Nat),Natl (p.run b) n f
 | .sp x,hp,hw,b,n,f=>by
  rw [Pt.run_fun]
  exact Natl.stepped (fun n f=>Sp.natl (by simpa [Pt.picker] using hp) (by simpa [Pt.wf] using hw) b n f) n f
 | .pow t k,hp,hw,b,n,f=>by
  rw [Pt.run_fun]
  have hp':t.picker = true:=by simpa [Pt.picker] using hp
  have hw':t.wf:=by rw [Pt.wf] at hw;exact hw.1
  refine Natl.stepped (fun n f=>?_) n f
  by_cases hc:(if b then -k else k) < 0 ∧ t.back = false
  ·simp only [if_pos hc];exact natl_err 12 n f
  ·simp only [if_neg hc];exact Natl.iter (fun n f=>Tm.natl t hp' hw' _ n f) _ n f
 | .under s g,hp,_,_,_,_=>by simp [Pt.picker] at hp
 | .name c t,hp,hw,b,n,f=>by
  rw [Pt.run_fun]
  exact Natl.stepped (fun n f=>Tm.natl t (by simpa [Pt.picker] using hp) (by rw [Pt.wf] at hw;exact hw.2.2) b n f) n f
theorem Tm.natl:∀ (t:Tm),t.picker = true → t.wf → ∀ (b:Bool) (n f:Nat),Natl (t.run b) n f
 | .nil,_,_,b,n,f=>by
  have h:=natl_id n f
  have e:(fun l f=>Res.ok l f) = Tm.nil.run b:=by funext l f;rw [Tm.run_nil]
  rw [e] at h
  exact h
 | .cons p t,hp,hw,b,n,f=>by
  rw [Tm.picker,Bool.and_eq_true] at hp
  rw [Tm.wf] at hw
  cases b with
  | false=>
   have h:=(Pt.natl p hp.1 hw.1 false n f).then (fun n f=>Tm.natl t hp.2 hw.2 false n f)
   have e:(fun l f=>Res.then (p.run false l f) (t.run false)) = (Tm.cons p t).run false:=by funext l f;rw [Tm.run_fwd]
   rw [e] at h
   exact h
  | true=>
   have h:=(Tm.natl t hp.2 hw.2 true n f).then (fun n f=>Pt.natl p hp.1 hw.1 true n f)
   have e:(fun l f=>Res.then (t.run true l f) (p.run true)) = (Tm.cons p t).run true:=by funext l f;rw [Tm.run_bwd]
   rw [e] at h
   exact h
end
end T
end Go.Proofs.YtikiaijgcjjloabGreatDoor

namespace Go.Proofs.YtikiaijgcjjloabGreatDoor
namespace T
open Go.Lib M
def ratText (r:Rat):List UInt8:=numText r.num r.den
def dots:List Nat → List UInt8
 | []=>[]
 | [i]=>decDigits i
 | i :: l=>decDigits i ++ 46 :: dots l
def Sp.text:Sp → List UInt8
 | .n=>[110] | .v=>[118] | .a=>[97] | .q=>[113] | .w=>[119] | .u=>[117] | .r=>[114] | .s=>[115] | .z=>[122] | .p=>[112] | .m=>[109] | .o=>[111]
 | .plus c=>43 :: ratText c
 | .times c=>42 :: ratText c
 | .set c=>61 :: ratText c
 | .shift k=>60 :: itoa k
 | .take k=>116 :: decDigits k
 | .drop k=>100 :: decDigits k
 | .pick ps=>35 :: dots ps
mutual
def Pt.text:Pt → List UInt8
 | .sp x=>x.text
 | .pow f k=>40 :: (f.text ++ 41 :: 94 :: itoa k)
 | .under s g=>91 :: (s.text ++ 58 :: (g.text ++ [93]))
 | .name c _=>[c]
def Tm.text:Tm → List UInt8
 | .nil=>[]
 | .cons p t=>p.text ++ t.text
end
def Env:Type:=UInt8 → Option Tm
mutual
def Pt.inEnv (env:Env):Pt → Prop
 | .sp _=>True
 | .pow f _=>f.inEnv env
 | .under s g=>s.inEnv env ∧ g.inEnv env
 | .name c b=>env c = some b
def Tm.inEnv (env:Env):Tm → Prop
 | .nil=>True
 | .cons p t=>p.inEnv env ∧ t.inEnv env
end
def Stop (r:List UInt8):Prop:=∀ c,r.head? = some c → isDig c = false ∧ c ≠ 47 ∧ c ≠ 46 ∧ c ≠ 45
def End (r:List UInt8):Prop:=∀ c,r.head? = some c → c = 41 ∨ c = 93 ∨ c = 58
theorem End.stop {r:List UInt8} (h:End r):Stop r:=by
 intro c hc
 rcases h c hc with rfl | rfl | rfl <;> exact ⟨by decide,by decide,by decide,by decide⟩
theorem end_nil:End []:=fun _ h=>by cases h
theorem end_41 (r:List UInt8):End (41 :: r):=fun c h=>by cases h;exact Or.inl rfl
theorem end_93 (r:List UInt8):End (93 :: r):=fun c h=>by cases h;exact Or.inr (Or.inl rfl)
theorem end_58 (r:List UInt8):End (58 :: r):=fun c h=>by cases h;exact Or.inr (Or.inr rfl)
theorem Stop.noDig {r:List UInt8} (h:Stop r):noDig r:=fun c hc=>(h c hc).1
theorem dec_split {a b:Nat} {r r':List UInt8} (h:decDigits a ++ r = decDigits b ++ r') (hr:noDig r) (hr':noDig r'):a = b ∧ r = r':=by
 have e1:(decDigits a ++ r).takeWhile isDig = decDigits a:=by rw [List.takeWhile_append_of_pos (dec_all a),takeWhile_noDig r hr];simp
 have e2:(decDigits b ++ r').takeWhile isDig = decDigits b:=by rw [List.takeWhile_append_of_pos (dec_all b),takeWhile_noDig r' hr'];simp
 rw [h,e2] at e1
 have e3:=congrArg val e1
 rw [val_dec,val_dec] at e3
 subst e3
 exact ⟨rfl,List.append_cancel_left h⟩
theorem dec_head (n:Nat) (r:List UInt8):∃ c l,decDigits n ++ r = c :: l ∧ isDig c = true:=by
 cases h:decDigits n with
 | nil=>exact absurd h (dec_ne n)
 | cons c l=>exact ⟨c,l ++ r,rfl,dec_all n c (by rw [h];simp)⟩
theorem itoa_split {a b:Int} {r r':List UInt8} (h:itoa a ++ r = itoa b ++ r') (hr:noDig r) (hr':noDig r'):a = b ∧ r = r':=by
 by_cases ha:a < 0 <;> by_cases hb:b < 0
 ·rw [M.itoa_neg a ha,M.itoa_neg b hb] at h
  simp only [List.cons_append,List.cons.injEq,true_and] at h
  obtain ⟨h1,h2⟩:=dec_split h hr hr'
  exact ⟨by omega,h2⟩
 ·exfalso
  rw [M.itoa_neg a ha,M.itoa_pos b hb] at h
  obtain ⟨c,l,e,hc⟩:=dec_head b.natAbs r'
  rw [e] at h
  simp only [List.cons_append,List.cons.injEq] at h
  rw [← h.1] at hc;cases hc
 ·exfalso
  rw [M.itoa_pos a ha,M.itoa_neg b hb] at h
  obtain ⟨c,l,e,hc⟩:=dec_head a.natAbs r
  rw [e] at h
  simp only [List.cons_append,List.cons.injEq] at h
  rw [h.1] at hc;cases hc
 ·rw [M.itoa_pos a ha,M.itoa_pos b hb] at h
  obtain ⟨h1,h2⟩:=dec_split h hr hr'
  exact ⟨by omega,h2⟩
theorem tail_noDig (b:Int) {r:List UInt8} (hr:Stop r):noDig ((if b ≤ 1 then [] else 47 :: decDigits b.toNat) ++ r):=by
 intro c hc
 split at hc
 ·exact (hr c hc).1
 ·cases hc;rfl
theorem numText_split {t b t' b':Int} {r r':List UInt8} (h1:1 ≤ b) (h1':1 ≤ b') (h:numText t b ++ r = numText t' b' ++ r') (hr:Stop r) (hr':Stop r'):t = t' ∧ b = b' ∧ r = r':=by
 unfold numText at h
 rw [List.append_assoc,List.append_assoc] at h
 obtain ⟨e1,e2⟩:=itoa_split h (tail_noDig b hr) (tail_noDig b' hr')
 refine ⟨e1,?_⟩
 by_cases hb:b ≤ 1 <;> by_cases hb':b' ≤ 1
 ·rw [if_pos hb,if_pos hb'] at e2
  exact ⟨by omega,e2⟩
 ·exfalso
  rw [if_pos hb,if_neg hb'] at e2
  exact (hr 47 (by rw [List.nil_append] at e2;rw [e2];rfl)).2.1 rfl
 ·exfalso
  rw [if_neg hb,if_pos hb'] at e2
  exact (hr' 47 (by rw [List.nil_append] at e2;rw [← e2];rfl)).2.1 rfl
 ·rw [if_neg hb,if_neg hb'] at e2
  simp only [List.cons_append,List.cons.injEq,true_and] at e2
  obtain ⟨e3,e4⟩:=dec_split e2 hr.noDig hr'.noDig
  exact ⟨by omega,e4⟩
theorem ratText_split {x y:Rat} {r r':List UInt8} (h:ratText x ++ r = ratText y ++ r') (hr:Stop r) (hr':Stop r'):x = y ∧ r = r':=by
 have h1:=x.den_pos
 have h2:=y.den_pos
 obtain ⟨e1,e2,e3⟩:=numText_split (by omega) (by omega) h hr hr'
 exact ⟨Rat.ext e1 (by omega),e3⟩
theorem noDig_46 (r:List UInt8):noDig (46 :: r):=fun c h=>by cases h;rfl
theorem dots_split:∀ {ps qs:List Nat} {r r':List UInt8},ps ≠ [] → qs ≠ [] → dots ps ++ r = dots qs ++ r' → Stop r → Stop r' → ps = qs ∧ r = r'
 | [],_,_,_,h,_,_,_,_=>absurd rfl h
 | _ :: _,[],_,_,_,h,_,_,_=>absurd rfl h
 | [i],[j],r,r',_,_,h,hr,hr'=>by
  obtain ⟨rfl,e⟩:=dec_split (show decDigits i ++ r = decDigits j ++ r' from h) hr.noDig hr'.noDig
  exact ⟨rfl,e⟩
 | [i],j :: j2 :: qs,r,r',_,_,h,hr,hr'=>by
  exfalso
  have h':decDigits i ++ r = decDigits j ++ (46 :: dots (j2 :: qs) ++ r'):=by
   have:dots (j :: j2 :: qs) = decDigits j ++ 46 :: dots (j2 :: qs):=rfl
   rw [this,show dots [i] = decDigits i from rfl] at h;simpa using h
  obtain ⟨_,e⟩:=dec_split h' hr.noDig (noDig_46 _)
  exact (hr 46 (by rw [e];rfl)).2.2.1 rfl
 | i :: i2 :: ps,[j],r,r',_,_,h,hr,hr'=>by
  exfalso
  have h':decDigits i ++ (46 :: dots (i2 :: ps) ++ r) = decDigits j ++ r':=by
   have:dots (i :: i2 :: ps) = decDigits i ++ 46 :: dots (i2 :: ps):=rfl
   rw [this,show dots [j] = decDigits j from rfl] at h;simpa using h
  obtain ⟨_,e⟩:=dec_split h' (noDig_46 _) hr'.noDig
  exact (hr' 46 (by rw [← e];rfl)).2.2.1 rfl
 | i :: i2 :: ps,j :: j2 :: qs,r,r',_,_,h,hr,hr'=>by
  have h':decDigits i ++ (46 :: dots (i2 :: ps) ++ r) = decDigits j ++ (46 :: dots (j2 :: qs) ++ r'):=by
   have e1:dots (i :: i2 :: ps) = decDigits i ++ 46 :: dots (i2 :: ps):=rfl
   have e2:dots (j :: j2 :: qs) = decDigits j ++ 46 :: dots (j2 :: qs):=rfl
   rw [e1,e2] at h;simpa using h
  obtain ⟨rfl,e⟩:=dec_split h' (noDig_46 _) (noDig_46 _)
  simp only [List.cons_append,List.cons.injEq,true_and] at e
  obtain ⟨e3,e4⟩:=dots_split (by simp) (by simp) e hr hr'
  rw [e3]
  exact ⟨rfl,e4⟩
def Sp.first:Sp → UInt8
 | .n=>110 | .v=>118 | .a=>97 | .q=>113 | .w=>119 | .u=>117 | .r=>114 | .s=>115 | .z=>122 | .p=>112 | .m=>109 | .o=>111
 | .plus _=>43 | .times _=>42 | .set _=>61 | .shift _=>60 | .take _=>116 | .drop _=>100 | .pick _=>35
def Pt.first:Pt → UInt8
 | .sp x=>x.first
 | .pow _ _=>40
 | .under _ _=>91
 | .name c _=>c
theorem Sp.text_first (x:Sp):∃ l,x.text = x.first :: l:=by cases x <;> exact ⟨_,rfl⟩
theorem Pt.text_first (p:Pt):∃ l,p.text = p.first :: l:=by
 cases p with
 | sp x=>obtain ⟨l,h⟩:=Sp.text_first x;exact ⟨l,by rw [Pt.text,h];rfl⟩
 | pow f k=>exact ⟨_,by rw [Pt.text];rfl⟩
 | under s g=>exact ⟨_,by rw [Pt.text];rfl⟩
 | name c b=>exact ⟨_,by rw [Pt.text];rfl⟩
def starts (c:UInt8):Bool:=!isDig c && c != 47 && c != 46 && c != 45 && c != 41 && c != 93 && c != 58
theorem starts_ne {c:UInt8} (h:starts c = true):isDig c = false ∧ c ≠ 47 ∧ c ≠ 46 ∧ c ≠ 45 ∧ c ≠ 41 ∧ c ≠ 93 ∧ c ≠ 58:=by
 simpa [starts,and_assoc] using h
theorem Pt.first_starts (p:Pt) (h:p.wf):starts p.first = true:=by
 cases p with
 | sp x=>cases x <;> rfl
 | pow f k=>rfl
 | under s g=>rfl
 | name c b=>
  rw [Pt.wf] at h
  obtain ⟨h1,h2,_⟩:=h
  have ne:∀ d:UInt8,d.toNat < 65 ∨ 90 < d.toNat → c ≠ d:=by rintro d hd rfl;omega
  have hd:=(isDig_not c).2 (Or.inr (by omega))
  have e1:=ne 47 (by decide)
  have e2:=ne 46 (by decide)
  have e3:=ne 45 (by decide)
  have e4:=ne 41 (by decide)
  have e5:=ne 93 (by decide)
  have e6:=ne 58 (by decide)
  simp [starts,Pt.first,hd,e1,e2,e3,e4,e5,e6]
theorem Pt.first_stop (p:Pt) (h:p.wf) (r:List UInt8):Stop (p.text ++ r) ∧ ¬ End (p.text ++ r):=by
 obtain ⟨l,e⟩:=Pt.text_first p
 rw [e]
 have key:=starts_ne (Pt.first_starts p h)
 refine ⟨fun c hc=>?_,fun hE=>?_⟩
 ·cases hc;exact ⟨key.1,key.2.1,key.2.2.1,key.2.2.2.1⟩
 ·rcases hE p.first rfl with h | h | h
  ·exact key.2.2.2.2.1 h
  ·exact key.2.2.2.2.2.1 h
  ·exact key.2.2.2.2.2.2 h
theorem Tm.text_stop (t:Tm) (h:t.wf) {r:List UInt8} (hr:End r):Stop (t.text ++ r):=by
 cases t with
 | nil=>rw [Tm.text];exact hr.stop
 | cons p t=>
  rw [Tm.wf] at h
  rw [Tm.text,List.append_assoc]
  exact (Pt.first_stop p h.1 _).1
end T
end Go.Proofs.YtikiaijgcjjloabGreatDoor

namespace Go.Proofs.YtikiaijgcjjloabGreatDoor
namespace T
open Go.Lib M
theorem Sp.text_unique {x y:Sp} (hx:x.wf) (hy:y.wf) {r r':List UInt8} (hr:Stop r) (hr':Stop r') (h:x.text ++ r = y.text ++ r'):x = y ∧ r = r':=by
 have hf:x.first = y.first:=by
  obtain ⟨l,e⟩:=Sp.text_first x
  obtain ⟨l',e'⟩:=Sp.text_first y
  rw [e,e'] at h
  simp only [List.cons_append,List.cons.injEq] at h
  exact h.1
 cases x with
 | plus c=>
  cases y with
  | plus d=>
   simp only [Sp.text,List.cons_append,List.cons.injEq,true_and] at h
   obtain ⟨rfl,e⟩:=ratText_split h hr hr'
   exact ⟨rfl,e⟩
  | _=>simp [Sp.first] at hf
 | times c=>
  cases y with
  | times d=>
   simp only [Sp.text,List.cons_append,List.cons.injEq,true_and] at h
   obtain ⟨rfl,e⟩:=ratText_split h hr hr'
   exact ⟨rfl,e⟩
  | _=>simp [Sp.first] at hf
 | set c=>
  cases y with
  | set d=>
   simp only [Sp.text,List.cons_append,List.cons.injEq,true_and] at h
   obtain ⟨rfl,e⟩:=ratText_split h hr hr'
   exact ⟨rfl,e⟩
  | _=>simp [Sp.first] at hf
 | shift k=>
  cases y with
  | shift d=>
   simp only [Sp.text,List.cons_append,List.cons.injEq,true_and] at h
   obtain ⟨rfl,e⟩:=itoa_split h hr.noDig hr'.noDig
   exact ⟨rfl,e⟩
  | _=>simp [Sp.first] at hf
 | take k=>
  cases y with
  | take d=>
   simp only [Sp.text,List.cons_append,List.cons.injEq,true_and] at h
   obtain ⟨rfl,e⟩:=dec_split h hr.noDig hr'.noDig
   exact ⟨rfl,e⟩
  | _=>simp [Sp.first] at hf
 | drop k=>
  cases y with
  | drop d=>
   simp only [Sp.text,List.cons_append,List.cons.injEq,true_and] at h
   obtain ⟨rfl,e⟩:=dec_split h hr.noDig hr'.noDig
   exact ⟨rfl,e⟩
  | _=>simp [Sp.first] at hf
 | pick ps=>
  cases y with
  | pick qs=>
   simp only [Sp.text,List.cons_append,List.cons.injEq,true_and] at h
   obtain ⟨rfl,e⟩:=dots_split hx.1 hy.1 h hr hr'
   exact ⟨rfl,e⟩
  | _=>simp [Sp.first] at hf
 | _=>
  cases y <;> first
   | (exfalso;simp [Sp.first] at hf;done)
   | (simp only [Sp.text,List.cons_append,List.cons.injEq,true_and,List.nil_append] at h;exact ⟨rfl,h⟩)
theorem Pt.first_eq {p p':Pt} {r r':List UInt8} (h:p.text ++ r = p'.text ++ r'):p.first = p'.first:=by
 obtain ⟨l,e⟩:=Pt.text_first p
 obtain ⟨l',e'⟩:=Pt.text_first p'
 rw [e,e'] at h
 simp only [List.cons_append,List.cons.injEq] at h
 exact h.1
theorem Sp.first_small (x:Sp):¬ (65 ≤ x.first.toNat ∧ x.first.toNat ≤ 91) ∧ x.first ≠ 40:=by cases x <;> (constructor <;> simp [Sp.first])
mutual
theorem Pt.text_unique (env:Env):∀ (p p':Pt),p.wf → p'.wf → p.inEnv env → p'.inEnv env → ∀ r r':List UInt8,Stop r → Stop r' → p.text ++ r = p'.text ++ r' → p = p' ∧ r = r'
 | .sp x,p',hw,hw',_,_,r,r',hr,hr',h=>by
  have hf:=Pt.first_eq h
  have hx:=Sp.first_small x
  cases p' with
  | sp y=>
   rw [Pt.wf] at hw hw'
   rw [Pt.text,Pt.text] at h
   obtain ⟨rfl,e⟩:=Sp.text_unique hw hw' hr hr' h
   exact ⟨rfl,e⟩
  | pow f k=>exact absurd hf hx.2
  | under s g=>exact absurd (show 65 ≤ x.first.toNat ∧ x.first.toNat ≤ 91 by rw [show x.first = 91 from hf];decide) hx.1
  | name c b=>
   rw [Pt.wf] at hw'
   exact absurd (show 65 ≤ x.first.toNat ∧ x.first.toNat ≤ 91 by rw [show x.first = c from hf];omega) hx.1
 | .pow f k,p',hw,hw',he,he',r,r',hr,hr',h=>by
  have hf:=Pt.first_eq h
  cases p' with
  | sp y=>exact absurd hf.symm (Sp.first_small y).2
  | pow f' k'=>
   rw [Pt.wf] at hw hw'
   rw [Pt.inEnv] at he he'
   rw [Pt.text,Pt.text] at h
   simp only [List.cons_append,List.cons.injEq,true_and,List.append_assoc] at h
   obtain ⟨rfl,e⟩:=Tm.text_unique env f f' hw.1 hw'.1 he he' _ _ (end_41 _) (end_41 _) h
   simp only [List.cons.injEq,true_and] at e
   obtain ⟨rfl,e2⟩:=itoa_split e hr.noDig hr'.noDig
   exact ⟨rfl,e2⟩
  | under s g=>cases hf
  | name c b=>
   rw [Pt.wf] at hw'
   have:(40:UInt8) = c:=hf
   subst this
   exact absurd hw'.1 (by decide)
 | .under s g,p',hw,hw',he,he',r,r',hr,hr',h=>by
  have hf:=Pt.first_eq h
  cases p' with
  | sp y=>exact absurd (show 65 ≤ y.first.toNat ∧ y.first.toNat ≤ 91 by rw [show y.first = 91 from hf.symm];decide) (Sp.first_small y).1
  | pow f k=>cases hf
  | under s' g'=>
   rw [Pt.wf] at hw hw'
   rw [Pt.inEnv] at he he'
   rw [Pt.text,Pt.text] at h
   simp only [List.cons_append,List.cons.injEq,true_and,List.append_assoc] at h
   obtain ⟨rfl,e⟩:=Tm.text_unique env s s' hw.1 hw'.1 he.1 he'.1 _ _ (end_58 _) (end_58 _) h
   simp only [List.cons.injEq,true_and] at e
   obtain ⟨rfl,e2⟩:=Tm.text_unique env g g' hw.2 hw'.2 he.2 he'.2 _ _ (end_93 _) (end_93 _) e
   simp only [List.cons.injEq,true_and,List.nil_append] at e2
   exact ⟨rfl,e2⟩
  | name c b=>
   rw [Pt.wf] at hw'
   have:(91:UInt8) = c:=hf
   subst this
   exact absurd hw'.2.1 (by decide)
 | .name c b,p',hw,hw',he,he',r,r',hr,hr',h=>by
  have hf:=Pt.first_eq h
  rw [Pt.wf] at hw
  cases p' with
  | sp y=>exact absurd (show 65 ≤ y.first.toNat ∧ y.first.toNat ≤ 91 by rw [show y.first = c from hf.symm];omega) (Sp.first_small y).1
  | pow f k=>
   have:c = (40:UInt8):=hf
   subst this
   exact absurd hw.1 (by decide)
  | under s g=>
   have:c = (91:UInt8):=hf
   subst this
   exact absurd hw.2.1 (by decide)
  | name c' b'=>
   have hc:c = c':=hf
   subst hc
   rw [Pt.inEnv] at he he'
   rw [he] at he'
   cases he'
   rw [Pt.text] at h
   simp only [List.cons_append,List.nil_append,List.cons.injEq,true_and] at h
   exact ⟨rfl,h⟩
theorem Tm.text_unique (env:Env):∀ (t t':Tm),t.wf → t'.wf → t.inEnv env → t'.inEnv env → ∀ r r':List UInt8,End r → End r' → t.text ++ r = t'.text ++ r' → t = t' ∧ r = r'
 | .nil,t',_,hw',_,_,r,r',hr,_,h=>by
  cases t' with
  | nil=>rw [Tm.text] at h;exact ⟨rfl,h⟩
  | cons p t'=>
   exfalso
   rw [Tm.wf] at hw'
   rw [Tm.text,Tm.text,List.nil_append,List.append_assoc] at h
   exact (Pt.first_stop p hw'.1 _).2 (h ▸ hr)
 | .cons p t,t',hw,hw',he,he',r,r',hr,hr',h=>by
  rw [Tm.wf] at hw
  rw [Tm.inEnv] at he
  cases t' with
  | nil=>
   exfalso
   rw [Tm.text,Tm.text,List.nil_append,List.append_assoc] at h
   exact (Pt.first_stop p hw.1 _).2 (h ▸ hr')
  | cons p' t'=>
   rw [Tm.wf] at hw'
   rw [Tm.inEnv] at he'
   rw [Tm.text,Tm.text,List.append_assoc,List.append_assoc] at h
   obtain ⟨rfl,e⟩:=Pt.text_unique env p p' hw.1 hw'.1 he.1 he'.1 _ _ (Tm.text_stop t hw.2 hr) (Tm.text_stop t' hw'.2 hr') h
   obtain ⟨rfl,e2⟩:=Tm.text_unique env t t' hw.2 hw'.2 he.2 he'.2 _ _ hr hr' e
   exact ⟨rfl,e2⟩
end
structure IsTerm (env:Env) (s:List UInt8) (t:Tm):Prop where
 wf:t.wf
 env:t.inEnv env
 text:t.text = s
theorem IsTerm.unique {env:Env} {s:List UInt8} {t t':Tm} (h:IsTerm env s t) (h':IsTerm env s t'):t = t' :=
 (Tm.text_unique env t t' h.wf h'.wf h.env h'.env [] [] end_nil end_nil (by rw [h.text,h'.text])).1
end T
end Go.Proofs.YtikiaijgcjjloabGreatDoor

namespace Go.Proofs.YtikiaijgcjjloabGreatDoor
namespace T
open Go.Lib M
def opens (c:UInt8):Bool:=c == 40 || c == 91
def shuts (c:UInt8):Bool:=c == 41 || c == 93
def deeper (c:UInt8) (d:Int):Int:=(if shuts c then -1 else 0) + ((if opens c then 1 else 0) + d)
def closeIdx:List UInt8 → Int → Option Nat
 | [],_=>none
 | c :: l,d=>if deeper c d = 0 then some 0 else (closeIdx l (deeper c d)).map (· + 1)
def colonIdx:List UInt8 → Int → Option Nat
 | [],_=>none
 | c :: l,d=>if deeper c d = 0 ∧ c = 58 then some 0 else (colonIdx l (deeper c d)).map (· + 1)
structure Passes (l:List UInt8):Prop where
 close:∀ (r:List UInt8) (d:Int),1 ≤ d → closeIdx (l ++ r) d = (closeIdx r d).map (· + l.length)
 colon:∀ (r:List UInt8) (d:Int),0 ≤ d → colonIdx (l ++ r) d = (colonIdx r d).map (· + l.length)
theorem passes_nil:Passes []:=⟨fun r d _=>by simp,fun r d _=>by simp⟩
theorem map_add (o:Option Nat) (a b:Nat):(o.map (· + a)).map (· + b) = o.map (· + (a + b)):=by
 cases o <;> simp;omega
theorem Passes.append {a b:List UInt8} (ha:Passes a) (hb:Passes b):Passes (a ++ b):=by
 refine ⟨fun r d hd=>?_,fun r d hd=>?_⟩
 ·rw [List.append_assoc,ha.close _ d hd,hb.close _ d hd,map_add,List.length_append,Nat.add_comm]
 ·rw [List.append_assoc,ha.colon _ d hd,hb.colon _ d hd,map_add,List.length_append,Nat.add_comm]
def flat (c:UInt8):Bool:=!opens c && !shuts c && c != 58
theorem flat_deeper {c:UInt8} (h:flat c = true) (d:Int):deeper c d = d ∧ c ≠ 58:=by
 unfold flat at h
 simp only [Bool.and_eq_true,Bool.not_eq_true',bne_iff_ne] at h
 unfold deeper
 rw [h.1.1,h.1.2]
 exact ⟨by simp,h.2⟩
theorem passes_flat:∀ (l:List UInt8),(∀ c ∈ l,flat c = true) → Passes l
 | [],_=>passes_nil
 | c :: l,h=>by
  have ih:=passes_flat l (fun x hx=>h x (by simp [hx]))
  refine ⟨fun r d hd=>?_,fun r d hd=>?_⟩
  ·obtain ⟨h1,h2⟩:=flat_deeper (h c (by simp)) d
   rw [List.cons_append,closeIdx,h1,if_neg (by omega),ih.close r d hd,map_add]
   rfl
  ·obtain ⟨h1,h2⟩:=flat_deeper (h c (by simp)) d
   rw [List.cons_append,colonIdx,h1,if_neg (fun e=>h2 e.2),ih.colon r d hd,map_add]
   rfl
theorem flat_dig {c:UInt8} (h:isDig c = true):flat c = true:=by
 have h1:=(isDig_iff c).1 h
 have ne:∀ d:UInt8,d.toNat < 48 ∨ 57 < d.toNat → (c == d) = false:=by
  intro d hd
  rw [beq_eq_false_iff_ne]
  rintro rfl
  omega
 unfold flat opens shuts
 rw [ne 40 (by decide),ne 91 (by decide),ne 41 (by decide),ne 93 (by decide)]
 have:=ne 58 (by decide)
 simp [bne,this]
theorem flat_dec (n:Nat):∀ c ∈ decDigits n,flat c = true:=fun c h=>flat_dig (dec_all n c h)
theorem flat_itoa (k:Int):∀ c ∈ itoa k,flat c = true:=by
 intro c h
 by_cases hk:k < 0
 ·rw [M.itoa_neg k hk] at h
  rcases List.mem_cons.1 h with rfl | h
  ·decide
  ·exact flat_dec _ c h
 ·rw [M.itoa_pos k hk] at h
  exact flat_dec _ c h
theorem flat_rat (x:Rat):∀ c ∈ ratText x,flat c = true:=by
 intro c h
 unfold ratText numText at h
 rcases List.mem_append.1 h with h | h
 ·exact flat_itoa _ c h
 ·split at h
  ·cases h
  ·rcases List.mem_cons.1 h with rfl | h
   ·decide
   ·exact flat_dec _ c h
theorem flat_dots:∀ (ps:List Nat),∀ c ∈ dots ps,flat c = true
 | [],c,h=>by cases h
 | [i],c,h=>flat_dec i c h
 | i :: j :: ps,c,h=>by
  have e:dots (i :: j :: ps) = decDigits i ++ 46 :: dots (j :: ps):=rfl
  rw [e] at h
  rcases List.mem_append.1 h with h | h
  ·exact flat_dec i c h
  ·rcases List.mem_cons.1 h with rfl | h
   ·decide
   ·exact flat_dots (j :: ps) c h
theorem Sp.flat (x:Sp):∀ c ∈ x.text,T.flat c = true:=by
 intro c h
 cases x with
 | plus r=>rcases List.mem_cons.1 h with rfl | h;decide;exact flat_rat r c h
 | times r=>rcases List.mem_cons.1 h with rfl | h;decide;exact flat_rat r c h
 | set r=>rcases List.mem_cons.1 h with rfl | h;decide;exact flat_rat r c h
 | shift k=>rcases List.mem_cons.1 h with rfl | h;decide;exact flat_itoa k c h
 | take k=>rcases List.mem_cons.1 h with rfl | h;decide;exact flat_dec k c h
 | drop k=>rcases List.mem_cons.1 h with rfl | h;decide;exact flat_dec k c h
 | pick ps=>rcases List.mem_cons.1 h with rfl | h;decide;exact flat_dots ps c h
 | _=>rcases List.mem_cons.1 h with rfl | h;decide;cases h
theorem deeper_open {c:UInt8} (h:c = 40 ∨ c = 91) (d:Int):deeper c d = d + 1:=by
 rcases h with rfl | rfl <;> (show (0:Int) + (1 + d) = _;omega)
theorem deeper_shut {c:UInt8} (h:c = 41 ∨ c = 93) (d:Int):deeper c d = d - 1:=by
 rcases h with rfl | rfl <;> (show (-1:Int) + (0 + d) = _;omega)
theorem deeper_58 (d:Int):deeper 58 d = d:=by show (0:Int) + (0 + d) = _;omega
theorem wrap_passes {o s:UInt8} {b:List UInt8} (ho:o = 40 ∨ o = 91) (hs:s = 41 ∨ s = 93) (hb:∀ (r:List UInt8) (d:Int),1 ≤ d → closeIdx (b ++ r) d = (closeIdx r d).map (· + b.length) ∧ colonIdx (b ++ r) d = (colonIdx r d).map (· + b.length)):Passes (o :: (b ++ [s])):=by
 refine ⟨fun r d hd=>?_,fun r d hd=>?_⟩
 ·have e:(o :: (b ++ [s])) ++ r = o :: (b ++ (s :: r)):=by simp
  rw [e,closeIdx,deeper_open ho,if_neg (by omega),(hb (s :: r) (d + 1) (by omega)).1,closeIdx,deeper_shut hs,if_neg (by omega),show d + 1 - 1 = d by omega,map_add,map_add]
  congr 1
  funext x
  simp
  omega
 ·have e:(o :: (b ++ [s])) ++ r = o :: (b ++ (s :: r)):=by simp
  have no:o ≠ 58:=by rcases ho with rfl | rfl <;> decide
  have ns:s ≠ 58:=by rcases hs with rfl | rfl <;> decide
  rw [e,colonIdx,deeper_open ho,if_neg (fun h=>no h.2),(hb (s :: r) (d + 1) (by omega)).2,colonIdx,deeper_shut hs,if_neg (fun h=>ns h.2),show d + 1 - 1 = d by omega,map_add,map_add]
  congr 1
  funext x
  simp
  omega
mutual
theorem Pt.passes:∀ (p:Pt),p.wf → Passes p.text
 | .sp x,_=>by rw [Pt.text];exact passes_flat _ (Sp.flat x)
 | .pow f k,hw=>by
  rw [Pt.wf] at hw
  have hf:=Tm.passes f hw.1
  have h1:Passes (40 :: (f.text ++ [41])):=wrap_passes (Or.inl rfl) (Or.inl rfl) (fun r d hd=>⟨hf.close r d hd,hf.colon r d (by omega)⟩)
  have h2:Passes (94 :: itoa k):=passes_flat _ (fun c h=>by
   rcases List.mem_cons.1 h with rfl | h
   ·decide
   ·exact flat_itoa k c h)
  have:=h1.append h2
  rw [Pt.text]
  simpa using this
 | .under s g,hw=>by
  rw [Pt.wf] at hw
  have hs:=Tm.passes s hw.1
  have hg:=Tm.passes g hw.2
  have h1:Passes (91 :: ((s.text ++ 58 :: g.text) ++ [93])):=by
   refine wrap_passes (Or.inr rfl) (Or.inr rfl) (fun r d hd=>?_)
   have e:(s.text ++ 58 :: g.text) ++ r = s.text ++ (58 :: (g.text ++ r)):=by simp
   rw [e]
   constructor
   ·rw [hs.close _ d hd,closeIdx,deeper_58,if_neg (by omega),hg.close r d hd,map_add,map_add]
    congr 1
    funext x
    simp
    omega
   ·rw [hs.colon _ d (by omega),colonIdx,deeper_58,if_neg (by omega),hg.colon r d (by omega),map_add,map_add]
    congr 1
    funext x
    simp
    omega
  rw [Pt.text]
  simpa using h1
 | .name c b,hw=>by
  rw [Pt.wf] at hw
  rw [Pt.text]
  refine passes_flat _ (fun x h=>?_)
  have hx:x = c:=by simpa using h
  subst hx
  obtain ⟨h1,h2,_⟩:=hw
  have ne:∀ d:UInt8,d.toNat < 65 ∨ 90 < d.toNat → (x == d) = false:=by
   intro d hd
   rw [beq_eq_false_iff_ne]
   rintro rfl
   omega
  unfold flat opens shuts
  rw [ne 40 (by decide),ne 91 (by decide),ne 41 (by decide),ne 93 (by decide)]
  have:=ne 58 (by decide)
  simp [bne,this]
theorem Tm.passes:∀ (t:Tm),t.wf → Passes t.text
 | .nil,_=>by rw [Tm.text];exact passes_nil
 | .cons p t,hw=>by
  rw [Tm.wf] at hw
  rw [Tm.text]
  exact (Pt.passes p hw.1).append (Tm.passes t hw.2)
end
theorem close_at (t:Tm) (hw:t.wf) {o s:UInt8} (ho:o = 40 ∨ o = 91) (hs:s = 41 ∨ s = 93) (r:List UInt8):closeIdx (o :: (t.text ++ s :: r)) 0 = some (t.text.length + 1):=by
 rw [closeIdx,deeper_open ho,if_neg (by omega),(Tm.passes t hw).close _ _ (by omega),closeIdx,deeper_shut hs,if_pos (by omega)]
 simp
theorem close_under (t u:Tm) (hw:t.wf) (hw':u.wf) (r:List UInt8):closeIdx (91 :: (t.text ++ 58 :: (u.text ++ 93 :: r))) 0 = some (t.text.length + u.text.length + 2):=by
 rw [closeIdx,deeper_open (Or.inr rfl),if_neg (by omega),(Tm.passes t hw).close _ _ (by omega),closeIdx,deeper_58,if_neg (by omega),(Tm.passes u hw').close _ _ (by omega),closeIdx,deeper_shut (Or.inr rfl),if_pos (by omega)]
 simp
 omega
theorem colon_at (t:Tm) (hw:t.wf) (r:List UInt8):colonIdx (t.text ++ 58 :: r) 0 = some t.text.length:=by
 rw [(Tm.passes t hw).colon _ _ (by omega),colonIdx,deeper_58,if_pos ⟨rfl,rfl⟩]
 simp
end T
end Go.Proofs.YtikiaijgcjjloabGreatDoor

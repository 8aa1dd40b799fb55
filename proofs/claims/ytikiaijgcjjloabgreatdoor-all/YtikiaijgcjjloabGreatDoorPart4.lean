import Derived.Test.YtikiaijgcjjloabGreatDoorPart3

namespace Go.Proofs.YtikiaijgcjjloabGreatDoor
namespace T
theorem Paced.steps {g:List Rat → Nat → Res} (hg:Paced g) {l l':List Rat} {f f':Nat} (h:g l f = .ok l' f'):∃ n,f = f' + n ∧ Steps g l l' n:=hg l f l' f' h
theorem Steps.split {g h:List Rat → Nat → Res} (hg:Paced g) (hh:Paced h) {l l2:List Rat} {n:Nat} (hs:Steps (fun l f=>Res.then (g l f) h) l l2 n):∃ l1 a b,Steps g l l1 a ∧ Steps h l1 l2 b ∧ n = a + b:=by
 have e:=hs n
 rw [if_pos (by omega),Nat.sub_self] at e
 obtain ⟨l1,f1,e1,e2⟩:=then_ok e
 obtain ⟨a,ha,sa⟩:=hg.steps e1
 obtain ⟨b,hb,sb⟩:=hh.steps e2
 exact ⟨l1,a,b,sa,sb,by omega⟩
theorem iter_zero_fun (g:List Rat → Nat → Res):iter g 0 = fun l f=>.ok l f:=by funext l f;rw [iter_zero]
theorem iter_succ_fun (g:List Rat → Nat → Res) (k:Nat):iter g (k + 1) = T.stepped (fun l f=>Res.then (g l f) (iter g k)):=by funext l f;rw [iter_succ]
theorem find_zip_none (i:Nat):∀ (ps:List Nat) (ys:List Rat),i ∉ ps → (ps.zip ys).find? (fun e=>e.1 == i) = none
 | [],_,_=>rfl
 | _ :: _,[],_=>rfl
 | p :: ps,y :: ys,h=>by
  simp only [List.mem_cons,not_or] at h
  rw [List.zip_cons_cons,List.find?_cons_of_neg (by simpa using fun e=>h.1 e.symm)]
  exact find_zip_none i ps ys h.2
theorem find_zip_some:∀ (ps:List Nat) (ys:List Rat) (k:Nat) (hk:k < ps.length) (hy:k < ys.length),ps.Nodup → (ps.zip ys).find? (fun e=>e.1 == ps[k]) = some (ps[k],ys[k])
 | [],_,_,hk,_,_=>by simp at hk
 | _ :: _,[],_,_,hy,_=>by simp at hy
 | p :: ps,y :: ys,0,_,_,_=>by simp
 | p :: ps,y :: ys,k + 1,hk,hy,hn=>by
  have hn':=List.nodup_cons.1 hn
  have hne:¬ p = ps[k]'(by simpa using hk):=fun e=>hn'.1 (e ▸ List.getElem_mem _)
  simp only [List.getElem_cons_succ]
  rw [List.zip_cons_cons,List.find?_cons_of_neg (by simpa using hne)]
  exact find_zip_some ps ys k (by simpa using hk) (by simpa using hy) hn'.2
theorem layAt_length (ps:List Nat) (ys l:List Rat):(layAt ps ys l).length = l.length:=by simp [layAt]
theorem layAt_get (ps:List Nat) (ys l:List Rat) (i:Nat) (hi:i < l.length):(layAt ps ys l).getD i 0 = match (ps.zip ys).find? (fun e=>e.1 == i) with
  | some e=>e.2
  | none=>l.getD i 0:=by
 unfold layAt
 simp only [List.getD,List.getElem?_map,List.getElem?_range hi,Option.map_some,Option.getD_some]
 rfl
theorem layAt_other (ps:List Nat) (ys l:List Rat) (i:Nat) (hi:i < l.length) (h:i ∉ ps):(layAt ps ys l).getD i 0 = l.getD i 0:=by
 rw [layAt_get ps ys l i hi,find_zip_none i ps ys h]
theorem layAt_at (ps:List Nat) (ys l:List Rat) (hn:ps.Nodup) (hl:∀ i ∈ ps,i < l.length) (k:Nat) (hk:k < ps.length) (hy:k < ys.length):(layAt ps ys l).getD ps[k] 0 = ys[k]:=by
 rw [layAt_get ps ys l _ (hl _ (List.getElem_mem hk)),find_zip_some ps ys k hk hy hn]
theorem getD_ext {l l':List Rat} (hl:l.length = l'.length) (h:∀ i,i < l.length → l.getD i 0 = l'.getD i 0):l = l':=by
 apply List.ext_getElem hl
 intro i h1 h2
 have:=h i h1
 simpa [List.getD,h1,h2] using this
theorem getD_small {l:List Rat} (h:AllS l) (i:Nat) (hi:i < l.length):small (l.getD i 0) = true:=by
 have:l.getD i 0 = l[i]:=by simp [List.getD,hi]
 rw [this]
 exact h _ (List.getElem_mem hi)
theorem pickedS {ps:List Nat} {l:List Rat} (hl:∀ i ∈ ps,i < l.length) (h:AllS l):AllS (picked ps l):=by
 intro x hx
 obtain ⟨i,hi,rfl⟩:=List.mem_map.1 hx
 exact getD_small h i (hl i hi)
theorem layS {ps:List Nat} {ys l:List Rat} (h:AllS l) (hy:AllS ys):AllS (layAt ps ys l):=by
 intro x hx
 unfold layAt at hx
 obtain ⟨i,hi,rfl⟩:=List.mem_map.1 hx
 have hi':=List.mem_range.1 hi
 split
 ·rename_i e he
  have:=List.mem_of_find?_eq_some he
  exact hy _ (List.of_mem_zip this).2
 ·exact getD_small h i hi'
def underRun (s g:List Rat → Nat → Res) (l:List Rat) (f:Nat):Res:=Res.then (s (allPlaces l.length) f) fun at_ f1=>
 Res.then (g (picked (places at_) l) f1) fun ys f2=>if ys.length = at_.length then .ok (layAt (places at_) ys l) f2 else .err 11
end T
end Go.Proofs.YtikiaijgcjjloabGreatDoor

namespace Go.Proofs.YtikiaijgcjjloabGreatDoor
namespace T
theorem Pt.run_sp (x:Sp) (b:Bool):(Pt.sp x).run b = T.stepped (fun l f=>lift (if b then x.workBack l else x.work l) f):=Pt.run_fun _ _
theorem Pt.run_name (c:UInt8) (t:Tm) (b:Bool):(Pt.name c t).run b = T.stepped (t.run b):=Pt.run_fun _ _
theorem Pt.run_pow (t:Tm) (k:Int) (b:Bool):(Pt.pow t k).run b = T.stepped (fun l f=>if (if b then -k else k) < 0 ∧ t.back = false then .err 12 else iter (fun l f=>t.run (decide ((if b then -k else k) < 0)) l f) k.natAbs l f):=Pt.run_fun _ _
theorem Pt.run_pow_ok (t:Tm) (k:Int) (b:Bool) (h:¬ ((if b then -k else k) < 0 ∧ t.back = false)):(Pt.pow t k).run b = T.stepped (iter (t.run (decide ((if b then -k else k) < 0))) k.natAbs):=by
 rw [Pt.run_pow]
 congr 1
 funext l f
 rw [if_neg h]
theorem Pt.run_under_pick (s g:Tm) (b:Bool) (h:s.picker = true):(Pt.under s g).run b = T.stepped (underRun (s.run false) (g.run b)):=by
 rw [Pt.run_fun]
 congr 1
 funext l f
 show (if s.picker then _ else _) = _
 rw [if_pos h]
 rfl
theorem Pt.run_under_way (s g:Tm) (b:Bool) (h:s.picker = false) (h2:(s.back && s.plain) = true):(Pt.under s g).run b = T.stepped (fun l f=>Res.then (s.run false l f) fun l1 f1=>Res.then (g.run b l1 f1) (s.run true)):=by
 rw [Pt.run_fun]
 congr 1
 funext l f
 show (if s.picker then _ else _) = _
 rw [if_neg (by rw [h];simp),if_pos h2]
theorem Tm.run_nil_fun (b:Bool):Tm.nil.run b = fun l f=>.ok l f:=by funext l f;rw [Tm.run_nil]
theorem Tm.run_fwd_fun (p:Pt) (t:Tm):(Tm.cons p t).run false = fun l f=>Res.then (p.run false l f) (t.run false):=by funext l f;rw [Tm.run_fwd]
theorem Tm.run_bwd_fun (p:Pt) (t:Tm):(Tm.cons p t).run true = fun l f=>Res.then (t.run true l f) (p.run true):=by funext l f;rw [Tm.run_bwd]
end T
end Go.Proofs.YtikiaijgcjjloabGreatDoor

namespace Go.Proofs.YtikiaijgcjjloabGreatDoor
namespace T
open Go.Lib M
def listText:List Rat → List UInt8
 | []=>[]
 | [x]=>ratText x
 | x :: l=>ratText x ++ 44 :: listText l
structure IsList (s:List UInt8) (l:List Rat):Prop where
 len:l.length ≤ 12
 small:AllS l
 text:listText l = s
theorem stop_44 (r:List UInt8):Stop (44 :: r):=fun c h=>by cases h;exact ⟨by decide,by decide,by decide,by decide⟩
theorem stop_nil:Stop []:=fun _ h=>by cases h
theorem ratText_ne (x:Rat):ratText x ≠ []:=by
 unfold ratText numText
 intro h
 have h1:itoa x.num = []:=(List.append_eq_nil_iff.1 h).1
 by_cases hn:x.num < 0
 ·rw [M.itoa_neg _ hn] at h1;cases h1
 ·rw [M.itoa_pos _ hn] at h1;exact dec_ne _ h1
theorem listText_cons2 (x y:Rat) (l:List Rat):listText (x :: y :: l) = ratText x ++ 44 :: listText (y :: l):=rfl
theorem listText_one (x:Rat):listText [x] = ratText x:=rfl
theorem listText_inj:∀ {l l':List Rat},listText l = listText l' → l = l'
 | [],[],_=>rfl
 | [],[y],h=>absurd h.symm (ratText_ne y)
 | [],y :: z :: l,h=>by
  rw [listText_cons2] at h
  exact absurd (List.append_eq_nil_iff.1 h.symm).1 (ratText_ne y)
 | [x],[],h=>absurd h (ratText_ne x)
 | x :: z :: l,[],h=>by
  rw [listText_cons2] at h
  exact absurd (List.append_eq_nil_iff.1 h).1 (ratText_ne x)
 | [x],[y],h=>by
  rw [listText_one,listText_one] at h
  have:=(ratText_split (x:=x) (y:=y) (r:=[]) (r':=[]) (by simpa using h) stop_nil stop_nil).1
  rw [this]
 | [x],y :: z :: l,h=>by
  rw [listText_one,listText_cons2] at h
  have:=(ratText_split (x:=x) (y:=y) (r:=[]) (by simpa using h) stop_nil (stop_44 _)).2
  cases this
 | x :: z :: l,[y],h=>by
  rw [listText_one,listText_cons2] at h
  have:=(ratText_split (x:=x) (y:=y) (r':=[]) (by simpa using h) (stop_44 _) stop_nil).2
  cases this
 | x :: z :: l,y :: z' :: l',h=>by
  rw [listText_cons2,listText_cons2] at h
  obtain ⟨rfl,e⟩:=ratText_split h (stop_44 _) (stop_44 _)
  simp only [List.cons.injEq,true_and] at e
  rw [listText_inj e]
theorem IsList.unique {s:List UInt8} {l l':List Rat} (h:IsList s l) (h':IsList s l'):l = l':=listText_inj (h.text.trans h'.text.symm)
def Shape (s:List UInt8):Prop:=∃ t:Tm,t.wf ∧ t.text = s
def Check (env:Env) (s:List UInt8) (c:Int):Prop :=
 (120 < s.length ∧ c = 5) ∨ (s.length ≤ 120 ∧ ¬ Shape s ∧ c = 6) ∨ (s.length ≤ 120 ∧ Shape s ∧ (¬ ∃ t,IsTerm env s t) ∧ c = 7)
structure Good (env:Env) (s:List UInt8) (t:Tm):Prop where
 len:s.length ≤ 120
 term:IsTerm env s t
theorem Check.ne {env:Env} {s:List UInt8} {c:Int} (h:Check env s c):c ≠ 0:=by
 rcases h with ⟨_,rfl⟩ | ⟨_,_,rfl⟩ | ⟨_,_,_,rfl⟩ <;> decide
theorem Check.not_good {env:Env} {s:List UInt8} {c:Int} {t:Tm} (h:Check env s c) (g:Good env s t):False:=by
 rcases h with ⟨h,_⟩ | ⟨_,h,_⟩ | ⟨_,_,h,_⟩
 ·have:=g.len;omega
 ·exact h ⟨t,g.term.wf,g.term.text⟩
 ·exact h ⟨t,g.term⟩
theorem Check.unique {env:Env} {s:List UInt8} {c c':Int} (h:Check env s c) (h':Check env s c'):c = c':=by
 rcases h with ⟨h1,rfl⟩ | ⟨h1,h2,rfl⟩ | ⟨h1,h2,h3,rfl⟩ <;> rcases h' with ⟨k1,rfl⟩ | ⟨k1,k2,rfl⟩ | ⟨k1,k2,k3,rfl⟩ <;> first | rfl | omega | exact absurd h2 k2 | exact absurd k2 h2
theorem Good.unique {env:Env} {s:List UInt8} {t t':Tm} (h:Good env s t) (h':Good env s t'):t = t':=h.term.unique h'.term
def factsNum (t:Tm):Int:=(if t.back then 1 else 0) + (if t.picker then 2 else 0) + (if t.plain then 4 else 0)
def FactsSays (env:Env) (s:List UInt8) (n e:Int):Prop:=(Check env s e ∧ n = 0) ∨ ∃ t,Good env s t ∧ n = factsNum t ∧ e = 0
def RunSays (res:Res) (fuel:Int) (r:List UInt8) (n e:Int):Prop:=match res with
 | .ok l f=>r = listText l ∧ n = fuel - f ∧ e = 0
 | .err x=>r = [] ∧ n = 0 ∧ e = x
def ApplySays (env:Env) (s ls:List UInt8) (fuel:Int) (r:List UInt8) (n e:Int):Prop :=
 (Check env s e ∧ r = [] ∧ n = 0) ∨ ∃ t,Good env s t ∧ (((¬ ∃ l,IsList ls l) ∧ r = [] ∧ n = 0 ∧ e = 8) ∨ ∃ l,IsList ls l ∧ (((fuel < 0 ∨ 5000 < fuel) ∧ r = [] ∧ n = 0 ∧ e = 9) ∨ (0 ≤ fuel ∧ fuel ≤ 5000 ∧ RunSays (t.run false l fuel.toNat) fuel r n e)))
mutual
def Pt.opp:Pt → Pt
 | .sp x=>.sp (x.opp.getD x)
 | .pow f k=>.pow f (-k)
 | .under s g=>.under s g.opp
 | .name c b=>.pow (.cons (.name c b) .nil) (-1)
def Tm.opp:Tm → Tm
 | .nil=>.nil
 | .cons p t=>t.opp.snoc p.opp
def Tm.snoc:Tm → Pt → Tm
 | .nil,q=>.cons q .nil
 | .cons p t,q=>.cons p (t.snoc q)
end
def OppSays (env:Env) (s:List UInt8) (r:List UInt8) (e:Int):Prop :=
 (Check env s e ∧ r = []) ∨ ∃ t,Good env s t ∧ ((t.back = false ∧ r = [] ∧ e = 12) ∨ (t.back = true ∧ 120 < t.opp.text.length ∧ r = [] ∧ e = 5) ∨ (t.back = true ∧ t.opp.text.length ≤ 120 ∧ r = t.opp.text ∧ e = 0))
def Env.put (env:Env) (c:UInt8) (t:Tm):Env:=fun d=>if d = c then some t else env d
def DefineSays (env:Env) (name s:List UInt8) (e:Int) (env':Env):Prop :=
 ((¬ ∃ c:UInt8,name = [c] ∧ 65 ≤ c.toNat ∧ c.toNat ≤ 90) ∧ e = 4 ∧ env' = env) ∨ ∃ c:UInt8,name = [c] ∧ 65 ≤ c.toNat ∧ c.toNat ≤ 90 ∧ ((Check env s e ∧ env' = env) ∨ ∃ t,Good env s t ∧ e = 0 ∧ env' = env.put c t)
theorem FactsSays.unique {env:Env} {s:List UInt8} {n e n' e':Int} (h:FactsSays env s n e) (h':FactsSays env s n' e'):n = n' ∧ e = e':=by
 rcases h with ⟨h1,rfl⟩ | ⟨t,g,rfl,rfl⟩ <;> rcases h' with ⟨k1,rfl⟩ | ⟨t',g',rfl,rfl⟩
 ·exact ⟨rfl,h1.unique k1⟩
 ·exact (h1.not_good g').elim
 ·exact (k1.not_good g).elim
 ·rw [g.unique g'];exact ⟨rfl,rfl⟩
theorem RunSays.unique {res:Res} {fuel:Int} {r r':List UInt8} {n e n' e':Int} (h:RunSays res fuel r n e) (h':RunSays res fuel r' n' e'):r = r' ∧ n = n' ∧ e = e':=by
 cases res with
 | ok l f=>obtain ⟨rfl,rfl,rfl⟩:=h;obtain ⟨rfl,rfl,rfl⟩:=h';exact ⟨rfl,rfl,rfl⟩
 | err x=>obtain ⟨rfl,rfl,rfl⟩:=h;obtain ⟨rfl,rfl,rfl⟩:=h';exact ⟨rfl,rfl,rfl⟩
theorem ApplySays.unique {env:Env} {s ls:List UInt8} {fuel:Int} {r r':List UInt8} {n e n' e':Int} (h:ApplySays env s ls fuel r n e) (h':ApplySays env s ls fuel r' n' e'):r = r' ∧ n = n' ∧ e = e':=by
 rcases h with ⟨h1,rfl,rfl⟩ | ⟨t,g,h⟩ <;> rcases h' with ⟨k1,rfl,rfl⟩ | ⟨t',g',h'⟩
 ·exact ⟨rfl,rfl,h1.unique k1⟩
 ·exact (h1.not_good g').elim
 ·exact (k1.not_good g).elim
 ·obtain rfl:=g.unique g'
  rcases h with ⟨h1,rfl,rfl,rfl⟩ | ⟨l,hl,h⟩ <;> rcases h' with ⟨k1,rfl,rfl,rfl⟩ | ⟨l',hl',h'⟩
  ·exact ⟨rfl,rfl,rfl⟩
  ·exact absurd ⟨l',hl'⟩ h1
  ·exact absurd ⟨l,hl⟩ k1
  ·obtain rfl:=hl.unique hl'
   rcases h with ⟨h1,rfl,rfl,rfl⟩ | ⟨h1,h2,h3⟩ <;> rcases h' with ⟨k1,rfl,rfl,rfl⟩ | ⟨k1,k2,k3⟩
   ·exact ⟨rfl,rfl,rfl⟩
   ·omega
   ·omega
   ·exact h3.unique k3
theorem OppSays.unique {env:Env} {s:List UInt8} {r r':List UInt8} {e e':Int} (h:OppSays env s r e) (h':OppSays env s r' e'):r = r' ∧ e = e':=by
 rcases h with ⟨h1,rfl⟩ | ⟨t,g,h⟩ <;> rcases h' with ⟨k1,rfl⟩ | ⟨t',g',h'⟩
 ·exact ⟨rfl,h1.unique k1⟩
 ·exact (h1.not_good g').elim
 ·exact (k1.not_good g).elim
 ·obtain rfl:=g.unique g'
  rcases h with ⟨h1,rfl,rfl⟩ | ⟨h1,h2,rfl,rfl⟩ | ⟨h1,h2,rfl,rfl⟩ <;> rcases h' with ⟨k1,rfl,rfl⟩ | ⟨k1,k2,rfl,rfl⟩ | ⟨k1,k2,rfl,rfl⟩ <;> first | exact ⟨rfl,rfl⟩ | (exfalso;omega) | (rw [h1] at k1;cases k1;done)
theorem DefineSays.unique {env:Env} {name s:List UInt8} {e e':Int} {v v':Env} (h:DefineSays env name s e v) (h':DefineSays env name s e' v'):e = e' ∧ v = v':=by
 rcases h with ⟨h1,rfl,rfl⟩ | ⟨c,rfl,c1,c2,h⟩ <;> rcases h' with ⟨k1,rfl,rfl⟩ | ⟨c',hc,d1,d2,h'⟩
 ·exact ⟨rfl,rfl⟩
 ·exact absurd ⟨c',hc,d1,d2⟩ h1
 ·exact absurd ⟨c,rfl,c1,c2⟩ k1
 ·simp only [List.cons.injEq,and_true] at hc
  subst hc
  rcases h with ⟨h1,rfl⟩ | ⟨t,g,rfl,rfl⟩ <;> rcases h' with ⟨k1,rfl⟩ | ⟨t',g',rfl,rfl⟩
  ·exact ⟨h1.unique k1,rfl⟩
  ·exact (h1.not_good g').elim
  ·exact (k1.not_good g).elim
  ·obtain rfl:=g.unique g';exact ⟨rfl,rfl⟩
end T
end Go.Proofs.YtikiaijgcjjloabGreatDoor

namespace Go.Proofs.YtikiaijgcjjloabGreatDoor
namespace T
open Go.Lib M
theorem lowP_rat (p:Int) (b:Nat) (hb:1 ≤ b):lowP p b = (mkRat p b).num:=by
 rw [Rat.num_mkRat,if_neg (by omega)]
 unfold lowP gg
 rw [Int.natAbs_natCast,Nat.gcd_comm b]
 refine Int.tdiv_eq_ediv_of_dvd ?_
 exact Int.ofNat_dvd_left.2 (Nat.gcd_dvd_left _ _)
theorem lowQ_rat (p:Int) (b:Nat) (hb:1 ≤ b):lowQ p b = ((mkRat p b).den:Int):=by
 rw [Rat.den_mkRat,if_neg (by omega),lowQ_eq p b (by omega)]
 unfold gg
 rw [Int.natAbs_natCast,Nat.gcd_comm b]
theorem fits_rat (p:Int) (b:Nat) (hb:1 ≤ b):fitsB p b = small (mkRat p b):=by
 have h1:=lowP_abs p b
 have h2:=lowQ_eq p b (by omega)
 have h3:=lowP_rat p b hb
 have h4:=lowQ_rat p b hb
 unfold fitsB small
 rw [Bool.eq_iff_iff]
 simp only [decide_eq_true_eq]
 rw [← h3]
 omega
theorem add_rat (x y:Rat):x + y = mkRat (x.num * y.den + y.num * x.den) (x.den * y.den):=by
 have h:(mkRat x.num x.den) + (mkRat y.num y.den) = mkRat (x.num * y.den + y.num * x.den) (x.den * y.den):=Rat.mkRat_add_mkRat _ _ x.den_nz y.den_nz
 rw [Rat.mkRat_self,Rat.mkRat_self] at h
 exact h
theorem mul_rat (x y:Rat):x * y = mkRat (x.num * y.num) (x.den * y.den):=by
 have h:(mkRat x.num x.den) * (mkRat y.num y.den) = mkRat (x.num * y.num) (x.den * y.den):=Rat.mkRat_mul_mkRat _ _ _ _
 rw [Rat.mkRat_self,Rat.mkRat_self] at h
 exact h
theorem add_pairs (x y:Rat):fitsB (x.num * y.den + y.num * x.den) ((x.den:Int) * y.den) = small (x + y) ∧ lowP (x.num * y.den + y.num * x.den) ((x.den:Int) * y.den) = (x + y).num ∧ lowQ (x.num * y.den + y.num * x.den) ((x.den:Int) * y.den) = ((x + y).den:Int):=by
 have e:((x.den:Int) * y.den) = ((x.den * y.den:Nat):Int):=by simp
 have hb:1 ≤ x.den * y.den:=Nat.mul_pos x.den_pos y.den_pos
 rw [e,add_rat]
 exact ⟨fits_rat _ _ hb,lowP_rat _ _ hb,lowQ_rat _ _ hb⟩
theorem mul_pairs (x y:Rat):fitsB (x.num * y.num) ((x.den:Int) * y.den) = small (x * y) ∧ lowP (x.num * y.num) ((x.den:Int) * y.den) = (x * y).num ∧ lowQ (x.num * y.num) ((x.den:Int) * y.den) = ((x * y).den:Int):=by
 have e:((x.den:Int) * y.den) = ((x.den * y.den:Nat):Int):=by simp
 have hb:1 ≤ x.den * y.den:=Nat.mul_pos x.den_pos y.den_pos
 rw [e,mul_rat]
 exact ⟨fits_rat _ _ hb,lowP_rat _ _ hb,lowQ_rat _ _ hb⟩
theorem inv_pairs (x:Rat) (h:x ≠ 0):x⁻¹.num = (if x.num < 0 then -(x.den:Int) else x.den) ∧ (x⁻¹.den:Int) = (if x.num < 0 then -x.num else x.num):=by
 have hn:=num_ne h
 rw [Rat.num_inv,Rat.den_inv,if_neg hn]
 by_cases h0:x.num < 0
 ·rw [if_pos h0,if_pos h0,Int.sign_eq_neg_one_of_neg h0]
  omega
 ·rw [if_neg h0,if_neg h0,Int.sign_eq_one_of_pos (by omega)]
  omega
theorem isNum_rat {s:List UInt8} {t b:Int} (h:IsNum s t b):∃ x:Rat,small x = true ∧ s = ratText x ∧ t = x.num ∧ b = (x.den:Int):=by
 have hb:b.toNat ≠ 0:=by have:=h.b1;omega
 have hc:t.natAbs.Coprime b.toNat:=by
  have:=h.gc
  rw [show b.natAbs = b.toNat by have:=h.b1;omega] at this
  exact this
 refine ⟨⟨t,b.toNat,hb,hc⟩,?_,?_,rfl,?_⟩
 ·unfold small
  apply decide_eq_true
  have:=h.lo;have:=h.hi;have:=h.b1;have:=h.b2
  show t.natAbs ≤ 1000000000 ∧ b.toNat ≤ 1000000000
  omega
 ·rw [h.tx]
  unfold ratText
  have:(b.toNat:Int) = b:=by have:=h.b1;omega
  show numText t b = numText t (b.toNat:Int)
  rw [this]
 ·show b = (b.toNat:Int)
  have:=h.b1
  omega
theorem rat_isNum {x:Rat} (h:small x = true):IsNum (ratText x) x.num (x.den:Int):=by
 unfold small at h
 have h':=of_decide_eq_true h
 have hd:=x.den_pos
 refine ⟨by omega,by omega,by omega,by omega,?_,rfl⟩
 have:=x.reduced
 rw [Int.natAbs_natCast]
 exact this
theorem num_zero {x:Rat}:x.num = 0 ↔ x = 0:=by
 constructor
 ·intro h
  have:=Rat.mkRat_self x
  rw [h] at this
  rw [← this];simp
 ·intro h;rw [h];rfl
theorem root_pairs_some {x:Rat} {a b:Nat} (ha:(a:Int) * a = x.num) (hb:(b:Int) * b = (x.den:Int)):∃ y,root x = some y ∧ y.num = a ∧ y.den = b:=by
 have hb0:b ≠ 0:=by
  intro e;subst e
  have:=x.den_pos
  simp at hb
  omega
 have ha':a * a = x.num.natAbs:=by
  have:((a * a:Nat):Int) = x.num:=by simpa using ha
  omega
 have hb':b * b = x.den:=by
  have:((b * b:Nat):Int) = (x.den:Int):=by simpa using hb
  omega
 have hc:Nat.gcd a b = 1:=by
  have hx:=x.reduced
  unfold Nat.Coprime at hx
  rw [← ha',← hb'] at hx
  have h1:Nat.gcd a b ∣ Nat.gcd (a * a) (b * b):=Nat.dvd_gcd (Nat.dvd_mul_right_of_dvd (Nat.gcd_dvd_left a b) a) (Nat.dvd_mul_right_of_dvd (Nat.gcd_dvd_right a b) b)
  rw [hx] at h1
  exact Nat.dvd_one.1 h1
 refine ⟨mkRat a b,?_,?_,?_⟩
 ·unfold root
  have hn:¬ x.num < 0:=by
   have:((a * a:Nat):Int) = x.num:=by simpa using ha
   omega
  rw [if_neg hn,← ha',← hb',rootN_sq,rootN_sq]
 ·rw [Rat.num_mkRat,if_neg hb0]
  show (a:Int) / ((Nat.gcd b a:Nat):Int) = a
  rw [Nat.gcd_comm,hc]
  simp
 ·rw [Rat.den_mkRat,if_neg hb0]
  show b / Nat.gcd b a = b
  rw [Nat.gcd_comm,hc]
  simp
theorem root_pairs_none {x:Rat} (h:(∀ r:Nat,(r:Int) * r ≠ x.num) ∨ (∀ r:Nat,(r:Int) * r ≠ (x.den:Int))):root x = none:=by
 cases hr:root x with
 | none=>rfl
 | some y=>
  exfalso
  obtain ⟨h0,h1⟩:=root_some hr
  obtain ⟨h2,h3⟩:=sq_parts y
  rw [h1] at h2 h3
  rcases h with h | h
  ·apply h y.num.natAbs
   rw [h2]
   have:0 ≤ y.num:=Rat.num_nonneg.2 h0
   rw [show ((y.num.natAbs:Nat):Int) = y.num by omega]
  ·apply h y.den
   rw [h3]
   simp
end T
end Go.Proofs.YtikiaijgcjjloabGreatDoor

namespace Go.Proofs.YtikiaijgcjjloabGreatDoor
namespace T
open Go.Lib M
def spanW (l:List UInt8):List UInt8 × List UInt8:=if l.head? = some 45 then (45 :: (l.drop 1).takeWhile isDig,(l.drop 1).dropWhile isDig) else (l.takeWhile isDig,l.dropWhile isDig)
def spanV (l:List UInt8):List UInt8 × List UInt8:=if (spanW l).2.head? = some 47 then ((spanW l).1 ++ 47 :: ((spanW l).2.drop 1).takeWhile isDig,((spanW l).2.drop 1).dropWhile isDig) else spanW l
def spanF (l:List UInt8):List UInt8 × List UInt8:=if (spanW l).2.head? = some 47 then ((spanW l).1 ++ 47 :: (spanW ((spanW l).2.drop 1)).1,(spanW ((spanW l).2.drop 1)).2) else spanW l
theorem head_cons {l:List UInt8} {c:UInt8} (h:l.head? = some c):l = c :: l.drop 1:=by
 cases l with
 | nil=>cases h
 | cons d l=>cases h;rfl
theorem spanW_app (l:List UInt8):(spanW l).1 ++ (spanW l).2 = l:=by
 unfold spanW
 split
 ·rename_i h
  conv=>rhs;rw [head_cons h]
  simp [List.takeWhile_append_dropWhile]
 ·simp [List.takeWhile_append_dropWhile]
theorem spanV_app (l:List UInt8):(spanV l).1 ++ (spanV l).2 = l:=by
 unfold spanV
 split
 ·rename_i h
  have:=spanW_app l
  rw [head_cons h] at this
  conv=>rhs;rw [← this]
  simp [List.takeWhile_append_dropWhile]
 ·exact spanW_app l
theorem spanF_app (l:List UInt8):(spanF l).1 ++ (spanF l).2 = l:=by
 unfold spanF
 split
 ·rename_i h
  have:=spanW_app l
  rw [head_cons h] at this
  conv=>rhs;rw [← this]
  have e:=spanW_app (((spanW l).2).drop 1)
  simp only [List.append_assoc,List.cons_append]
  rw [e]
 ·exact spanW_app l
theorem tw_dec (n:Nat) {r:List UInt8} (hr:noDig r):(decDigits n ++ r).takeWhile isDig = decDigits n ∧ (decDigits n ++ r).dropWhile isDig = r:=by
 constructor
 ·rw [List.takeWhile_append_of_pos (dec_all n),takeWhile_noDig r hr];simp
 ·rw [List.dropWhile_append_of_pos (dec_all n),dropWhile_noDig r hr]
theorem spanW_itoa (k:Int) {r:List UInt8} (hr:noDig r):spanW (itoa k ++ r) = (itoa k,r):=by
 obtain ⟨h1,h2⟩:=tw_dec k.natAbs hr
 unfold spanW
 by_cases hk:k < 0
 ·rw [M.itoa_neg k hk]
  simp only [List.cons_append,List.head?_cons,if_pos,List.drop_succ_cons,List.drop_zero]
  rw [h1,h2]
 ·rw [M.itoa_pos k hk]
  rw [if_neg]
  ·rw [h1,h2]
  ·obtain ⟨c,l,e,hc⟩:=dec_head k.natAbs r
   rw [e]
   intro h
   cases h
   cases hc
theorem spanV_rat (x:Rat) {r:List UInt8} (hr:Stop r):spanV (ratText x ++ r) = (ratText x,r):=by
 unfold ratText numText
 rw [List.append_assoc]
 have hs:=spanW_itoa x.num (tail_noDig (x.den:Int) hr)
 unfold spanV
 rw [hs]
 by_cases hb:(x.den:Int) ≤ 1
 ·rw [if_pos hb]
  simp only [List.nil_append,List.append_nil]
  rw [if_neg]
  intro h
  exact (hr 47 h).2.1 rfl
 ·rw [if_neg hb]
  obtain ⟨h1,h2⟩:=tw_dec (x.den:Int).toNat hr.noDig
  simp only [List.cons_append,List.head?_cons,if_pos,List.drop_succ_cons,List.drop_zero]
  rw [h1,h2]
theorem spanF_rat (x:Rat) {r:List UInt8} (hr:Stop r):spanF (ratText x ++ r) = (ratText x,r):=by
 unfold ratText numText
 rw [List.append_assoc]
 have hs:=spanW_itoa x.num (tail_noDig (x.den:Int) hr)
 unfold spanF
 rw [hs]
 by_cases hb:(x.den:Int) ≤ 1
 ·rw [if_pos hb]
  simp only [List.nil_append,List.append_nil]
  rw [if_neg]
  intro h
  exact (hr 47 h).2.1 rfl
 ·rw [if_neg hb]
  have h1:=spanW_itoa (x.den:Int) hr.noDig
  rw [M.itoa_pos (x.den:Int) (by omega),show (x.den:Int).natAbs = (x.den:Int).toNat by omega] at h1
  simp only [List.cons_append,List.head?_cons,if_pos,List.drop_succ_cons,List.drop_zero]
  rw [h1]
theorem itoa_isNum {k:Int} (h1:-1000000000 ≤ k) (h2:k ≤ 1000000000):IsNum (itoa k) k 1:=⟨h1,h2,by omega,by omega,by simp,by unfold numText;simp⟩
def Dm (l:List UInt8):Prop:=∀ c ∈ l,isDig c = true ∨ c = 45
theorem spanW_dm (l:List UInt8):Dm (spanW l).1:=by
 unfold spanW
 have key:∀ m:List UInt8,∀ c ∈ m.takeWhile isDig,isDig c = true:=fun m c h=>by
  have:=List.all_takeWhile (p:=isDig) (l:=m)
  rw [List.all_eq_true] at this
  exact this c h
 intro c
 split
 ·intro h
  rcases List.mem_cons.1 h with rfl | h
  ·exact Or.inr rfl
  ·exact Or.inl (key _ c h)
 ·intro h;exact Or.inl (key _ c h)
theorem dm_whole {s:List UInt8} {t b:Int} (hd:Dm s) (h:IsNum s t b):b = 1 ∧ s = itoa t:=by
 by_cases hb:b ≤ 1
 ·have:=h.b1
  refine ⟨by omega,?_⟩
  rw [h.tx]
  unfold numText
  rw [if_pos hb]
  simp
 ·exfalso
  have h47:(47:UInt8) ∈ s:=by
   rw [h.tx]
   unfold numText
   rw [if_neg hb]
   simp
  rcases hd 47 h47 with h | h <;> cases h
structure RdP (env:Env) (l:List UInt8) (o:Option (Pt × List UInt8)):Prop where
 sound:∀ p r,o = some (p,r) → p.wf ∧ p.inEnv env ∧ l = p.text ++ r
 comp:∀ p r,p.wf → p.inEnv env → Stop r → l = p.text ++ r → o = some (p,r)
structure RdT (env:Env) (l:List UInt8) (o:Option (Tm × List UInt8)):Prop where
 sound:∀ t r,o = some (t,r) → t.wf ∧ t.inEnv env ∧ l = t.text ++ r ∧ End r
 comp:∀ t r,t.wf → t.inEnv env → End r → l = t.text ++ r → o = some (t,r)
def Sp.letter:Sp → Bool
 | .plus _=>false | .times _=>false | .set _=>false | .shift _=>false | .take _=>false | .drop _=>false | .pick _=>false | _=>true
theorem Sp.letter_text {x:Sp} (h:x.letter = true):x.text = [x.first] ∧ x.wf:=by
 cases x <;> first | (cases h;done) | exact ⟨rfl,trivial⟩
theorem Sp.letter_inj {x y:Sp} (h:x.letter = true) (e:y.first = x.first):y = x:=by
 cases x <;> first
  | (cases h;done)
  | (cases y <;> first | rfl | (exact absurd e (by decide)) | (simp [Sp.first] at e;done))
theorem cons_first {p:Pt} {c:UInt8} {l r:List UInt8} (h:c :: l = p.text ++ r):p.first = c:=by
 obtain ⟨m,e⟩:=Pt.text_first p
 rw [e] at h
 simp only [List.cons_append,List.cons.injEq] at h
 exact h.1.symm
theorem rdP_letter (env:Env) {x:Sp} (h:x.letter = true) (l:List UInt8):RdP env (x.first :: l) (some (.sp x,l)):=by
 obtain ⟨h1,h2⟩:=Sp.letter_text h
 refine ⟨fun p r e=>?_,fun p r hw he hs e=>?_⟩
 ·cases e
  exact ⟨by rw [Pt.wf];exact h2,by rw [Pt.inEnv];trivial,by rw [Pt.text,h1];rfl⟩
 ·have hf:=cons_first e
  have hx:=Sp.first_small x
  cases p with
  | sp y=>
   have:=Sp.letter_inj h hf
   subst this
   rw [Pt.text,h1] at e
   simp only [List.cons_append,List.nil_append,List.cons.injEq,true_and] at e
   rw [e]
  | pow f k=>exact absurd hf.symm hx.2
  | under s g=>exact absurd (show 65 ≤ x.first.toNat ∧ x.first.toNat ≤ 91 by rw [show x.first = 91 from hf.symm];decide) hx.1
  | name d b=>
   rw [Pt.wf] at hw
   exact absurd (show 65 ≤ x.first.toNat ∧ x.first.toNat ≤ 91 by rw [show x.first = d from hf.symm];omega) hx.1
def valSp (c:UInt8) (x:Rat):Sp:=if c = 43 then .plus x else if c = 42 then .times x else .set x
theorem valSp_text {c:UInt8} (hc:c = 43 ∨ c = 42 ∨ c = 61) (x:Rat) (h:small x = true):(valSp c x).text = c :: ratText x ∧ (valSp c x).wf:=by
 rcases hc with rfl | rfl | rfl <;> exact ⟨rfl,h⟩
theorem valSp_only {c:UInt8} (hc:c = 43 ∨ c = 42 ∨ c = 61) {p:Pt} {l r:List UInt8} (hw:p.wf) (e:c :: l = p.text ++ r):∃ x,small x = true ∧ p = .sp (valSp c x) ∧ l = ratText x ++ r:=by
 have hf:=cons_first e
 cases p with
 | sp y=>
  have hf':y.first = c:=hf
  rw [Pt.text] at e
  rw [Pt.wf] at hw
  rcases hc with rfl | rfl | rfl
  ·cases y <;> first
    | (simp [Sp.first] at hf';done)
    | exact ⟨_,hw,rfl,by simpa [Sp.text] using e⟩
  ·cases y <;> first
    | (simp [Sp.first] at hf';done)
    | exact ⟨_,hw,rfl,by simpa [Sp.text] using e⟩
  ·cases y <;> first
    | (simp [Sp.first] at hf';done)
    | exact ⟨_,hw,rfl,by simpa [Sp.text] using e⟩
 | pow f k=>exfalso;have:(40:UInt8) = c:=hf;rcases hc with rfl | rfl | rfl <;> cases this
 | under s g=>exfalso;have:(91:UInt8) = c:=hf;rcases hc with rfl | rfl | rfl <;> cases this
 | name d b=>
  exfalso
  have:d = c:=hf
  subst this
  rw [Pt.wf] at hw
  rcases hc with rfl | rfl | rfl <;> (revert hw;simp)
theorem rdP_val (env:Env) {c:UInt8} (hc:c = 43 ∨ c = 42 ∨ c = 61) {l s r:List UInt8} {x:Rat} (hx:small x = true) (hs:s = ratText x) (happ:s ++ r = l) (hcomp:∀ (y:Rat) (r':List UInt8),Stop r' → l = ratText y ++ r' → s = ratText y ∧ r = r'):RdP env (c :: l) (some (.sp (valSp c x),r)):=by
 obtain ⟨h1,h2⟩:=valSp_text hc x hx
 refine ⟨fun p q e=>?_,fun p q hw he hst e=>?_⟩
 ·cases e
  exact ⟨by rw [Pt.wf];exact h2,by rw [Pt.inEnv];trivial,by rw [Pt.text,h1,← happ,hs];rfl⟩
 ·obtain ⟨y,hy,rfl,e2⟩:=valSp_only hc hw e
  obtain ⟨e3,rfl⟩:=hcomp y q hst e2
  have:ratText x ++ [] = ratText y ++ []:=by rw [← hs,e3]
  rw [(ratText_split this stop_nil stop_nil).1]
theorem rdP_val_none (env:Env) {c:UInt8} (hc:c = 43 ∨ c = 42 ∨ c = 61) {l s:List UInt8} (hs:∀ t b,¬ IsNum s t b) (hcomp:∀ (y:Rat) (r':List UInt8),Stop r' → l = ratText y ++ r' → s = ratText y):RdP env (c :: l) none:=by
 refine ⟨fun p q e=>by (cases e),fun p q hw he hst e=>?_⟩
 obtain ⟨y,hy,rfl,e2⟩:=valSp_only hc hw e
 exact absurd (rat_isNum hy) (by rw [← hcomp y q hst e2];exact hs _ _)
def cntSp (c:UInt8) (k:Int):Sp:=if c = 60 then .shift k else if c = 116 then .take k.toNat else .drop k.toNat
def cntLo (c:UInt8):Int:=if c = 60 then -99 else 0
def cntHi (c:UInt8):Int:=if c = 60 then 99 else 12
theorem itoa_nat (k:Int) (h:0 ≤ k):itoa k = decDigits k.toNat:=by rw [M.itoa_pos k (by omega)];congr 1;omega
theorem cntSp_text {c:UInt8} (hc:c = 60 ∨ c = 116 ∨ c = 100) (k:Int) (h1:cntLo c ≤ k) (h2:k ≤ cntHi c):(cntSp c k).text = c :: itoa k ∧ (cntSp c k).wf:=by
 rcases hc with rfl | rfl | rfl
 ·exact ⟨rfl,h1,h2⟩
 ·have h1':0 ≤ k:=h1
  have h2':k ≤ 12:=h2
  refine ⟨by rw [itoa_nat k h1'];rfl,?_⟩
  show k.toNat ≤ 12
  omega
 ·have h1':0 ≤ k:=h1
  have h2':k ≤ 12:=h2
  refine ⟨by rw [itoa_nat k h1'];rfl,?_⟩
  show k.toNat ≤ 12
  omega
theorem cntSp_only {c:UInt8} (hc:c = 60 ∨ c = 116 ∨ c = 100) {p:Pt} {l r:List UInt8} (hw:p.wf) (e:c :: l = p.text ++ r):∃ k,cntLo c ≤ k ∧ k ≤ cntHi c ∧ p = .sp (cntSp c k) ∧ l = itoa k ++ r:=by
 have hf:=cons_first e
 cases p with
 | sp y=>
  have hf':y.first = c:=hf
  rw [Pt.text] at e
  rw [Pt.wf] at hw
  rcases hc with rfl | rfl | rfl
  ·cases y <;> first
    | (simp [Sp.first] at hf';done)
    | exact ⟨_,hw.1,hw.2,rfl,by simpa [Sp.text] using e⟩
  ·cases y <;> first
    | (simp [Sp.first] at hf';done)
    | exact ⟨_,Int.natCast_nonneg _,(by have:_ ≤ 12:=hw;show ((_:Nat):Int) ≤ 12;omega),rfl,by rw [itoa_nat _ (Int.natCast_nonneg _)];simpa [Sp.text] using e⟩
  ·cases y <;> first
    | (simp [Sp.first] at hf';done)
    | exact ⟨_,Int.natCast_nonneg _,(by have:_ ≤ 12:=hw;show ((_:Nat):Int) ≤ 12;omega),rfl,by rw [itoa_nat _ (Int.natCast_nonneg _)];simpa [Sp.text] using e⟩
 | pow f k=>exfalso;have:(40:UInt8) = c:=hf;rcases hc with rfl | rfl | rfl <;> cases this
 | under s g=>exfalso;have:(91:UInt8) = c:=hf;rcases hc with rfl | rfl | rfl <;> cases this
 | name d b=>
  exfalso
  have:d = c:=hf
  subst this
  rw [Pt.wf] at hw
  rcases hc with rfl | rfl | rfl <;> (revert hw;simp)
structure WhAt (l:List UInt8) (lo hi:Int) (o:Option (Int × List UInt8)):Prop where
 sound:∀ k r,o = some (k,r) → lo ≤ k ∧ k ≤ hi ∧ l = itoa k ++ r
 comp:∀ k r,lo ≤ k → k ≤ hi → noDig r → l = itoa k ++ r → o = some (k,r)
theorem whAt_some {l:List UInt8} {lo hi t b:Int} (hn:IsNum (spanW l).1 t b) (h1:lo ≤ t) (h2:t ≤ hi):WhAt l lo hi (some (t,(spanW l).2)):=by
 obtain ⟨_,hs⟩:=dm_whole (spanW_dm l) hn
 refine ⟨fun k r e=>?_,fun k r a b' hr e=>?_⟩
 ·cases e
  exact ⟨h1,h2,by rw [← hs,spanW_app]⟩
 ·rw [e,spanW_itoa k hr] at hs ⊢
  have:itoa k ++ [] = itoa t ++ []:=by simpa using hs
  rw [(itoa_split this noDig_nil noDig_nil).1]
theorem whAt_none {l:List UInt8} {lo hi:Int} (hlo:-1000000000 ≤ lo) (hhi:hi ≤ 1000000000) (h:∀ t b,IsNum (spanW l).1 t b → t < lo ∨ hi < t):WhAt l lo hi none:=by
 refine ⟨fun k r e=>by (cases e),fun k r a b hr e=>?_⟩
 exfalso
 have hn:IsNum (spanW l).1 k 1:=by rw [e,spanW_itoa k hr];exact itoa_isNum (by omega) (by omega)
 rcases h k 1 hn with h | h <;> omega
theorem rdP_cnt (env:Env) {c:UInt8} (hc:c = 60 ∨ c = 116 ∨ c = 100) {l:List UInt8} {o:Option (Int × List UInt8)} (h:WhAt l (cntLo c) (cntHi c) o):RdP env (c :: l) (o.map fun x=>(.sp (cntSp c x.1),x.2)):=by
 refine ⟨fun p q e=>?_,fun p q hw he hst e=>?_⟩
 ·cases o with
  | none=>cases e
  | some x=>
   cases e
   obtain ⟨a,b,e⟩:=h.sound x.1 x.2 rfl
   obtain ⟨h1,h2⟩:=cntSp_text hc x.1 a b
   exact ⟨by rw [Pt.wf];exact h2,by rw [Pt.inEnv];trivial,by rw [Pt.text,h1,e];rfl⟩
 ·obtain ⟨k,a,b,rfl,e2⟩:=cntSp_only hc hw e
  rw [h.comp k q a b hst.noDig e2]
  rfl
theorem rdP_name (env:Env) {c:UInt8} (h1:65 ≤ c.toNat) (h2:c.toNat ≤ 90) {b:Tm} (hb:env c = some b) (hw:b.wf) (l:List UInt8):RdP env (c :: l) (some (.name c b,l)):=by
 have ne:∀ d:UInt8,d.toNat < 65 ∨ 90 < d.toNat → c ≠ d:=by rintro d hd rfl;omega
 refine ⟨fun p q e=>?_,fun p q hw he hst e=>?_⟩
 ·cases e
  exact ⟨by rw [Pt.wf];exact ⟨h1,h2,hw⟩,by rw [Pt.inEnv];exact hb,by rw [Pt.text];rfl⟩
 ·have hf:=cons_first e
  cases p with
  | sp y=>
   exfalso
   have hf':y.first = c:=hf
   exact (Sp.first_small y).1 (by rw [hf'];omega)
  | pow f k=>exact absurd hf.symm (ne 40 (by decide))
  | under s g=>exact absurd hf.symm (ne 91 (by decide))
  | name d b'=>
   have:d = c:=hf
   subst this
   rw [Pt.inEnv,hb] at he
   cases he
   rw [Pt.text] at e
   simp only [List.cons_append,List.nil_append,List.cons.injEq,true_and] at e
   rw [e]
theorem rdP_other (env:Env) {c:UInt8} (h1:∀ x:Sp,x.letter = true → x.first ≠ c) (h2:c ≠ 43 ∧ c ≠ 42 ∧ c ≠ 61 ∧ c ≠ 60 ∧ c ≠ 116 ∧ c ≠ 100 ∧ c ≠ 35 ∧ c ≠ 40 ∧ c ≠ 91) (h3:c.toNat < 65 ∨ 90 < c.toNat) (l:List UInt8):RdP env (c :: l) none:=by
 refine ⟨fun p q e=>by (cases e),fun p q hw he hst e=>?_⟩
 exfalso
 have hf:=cons_first e
 cases p with
 | sp y=>
  have hf':y.first = c:=hf
  subst hf'
  cases hy:y.letter with
  | true=>exact h1 y hy rfl
  | false=>
   cases y <;> first
    | (cases hy;done)
    | (simp [Sp.first] at h2;done)
 | pow f k=>exact h2.2.2.2.2.2.2.2.1 hf.symm
 | under s g=>exact h2.2.2.2.2.2.2.2.2 hf.symm
 | name d b=>
  have:d = c:=hf
  subst this
  rw [Pt.wf] at hw
  omega
end T
end Go.Proofs.YtikiaijgcjjloabGreatDoor

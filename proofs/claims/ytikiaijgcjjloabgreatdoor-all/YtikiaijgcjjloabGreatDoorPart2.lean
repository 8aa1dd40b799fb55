import Derived.Test.YtikiaijgcjjloabGreatDoorPart1

namespace Go.Proofs.YtikiaijgcjjloabGreatDoor
open Go Go.RowKit M Go.Lib
theorem gg_cast (p:Int) (b:Nat):Nat.gcd p.natAbs b = gg p b:=by unfold gg;simp
theorem below_dr {B:Nat} {a w:World} (h:Below B a w) (n:Nat):Below B a (w.drewN n):=h.trans ⟨rfl,rfl,rfl,Nat.le_refl _,fun _ _=>rfl⟩
theorem bcell {W w1:World} (hb:Below W.heap.size W w1):(∀ b o,b < W.heap.size → w1.cell? ⟨b,o,none⟩ = W.cell? ⟨b,o,none⟩) ∧ (∀ b o,b < W.heap.size → w1.frozen? ⟨b,o,none⟩ = W.frozen? ⟨b,o,none⟩) :=
 ⟨fun b o h=>hb.cell (p:=⟨b,o,none⟩) h,fun b o h=>hb.frozen (p:=⟨b,o,none⟩) h⟩
theorem lowQ_div (p:Int) (b:Nat):lowQ p b = (b:Int) / (gg p b:Int):=by unfold lowQ;rw [Int.tdiv_eq_ediv_of_nonneg (by omega)]
theorem lowP_div (m b:Nat):lowP m b = (m:Int) / (gg m b:Int):=by unfold lowP;rw [Int.tdiv_eq_ediv_of_nonneg (by omega)]
theorem div_bd (b g:Nat) (h:b ≤ 4000000000000000000):0 ≤ (b:Int) / (g:Int) ∧ (b:Int) / (g:Int) ≤ 4000000000000000000:=by
 have h1:=Nat.div_le_self b g
 rw [← Int.natCast_ediv]
 generalize b / g = c at *
 omega
theorem fits_not (p:Int) (b:Nat) (hb:1 ≤ b) (hf:fitsB p b = false):1000000000 < ((lowP p b).natAbs:Int) ∨ ((lowP p b).natAbs ≤ 1000000000 ∧ 1000000000 < lowQ p b):=by
 have h1:=lowP_abs p b
 have h2:=lowQ_eq p b (by omega)
 unfold fitsB at hf
 have hf':=of_decide_eq_false hf
 omega
theorem low_bd (p:Int) (b:Nat) (h1:-4000000000000000000 ≤ p) (h2:p ≤ 4000000000000000000):-4000000000000000000 ≤ lowP p b ∧ lowP p b ≤ 4000000000000000000:=by
 have:=lowP_le p b
 omega
set_option maxRecDepth 100000 in
set_option maxHeartbeats 400000 in
theorem lowest_any (p:Int) (b:Nat) (w:World) (h1:-4000000000000000000 ≤ p) (h2:p ≤ 4000000000000000000) (h3:1 ≤ b) (h4:b ≤ 4000000000000000000) :
  Calls Tryz.prog 143 #[.int .i64 p,.int .i64 b] w fun e w'=>((fitsB p b = true ∧ e = .returned (.tuple #[.agg #[.int .i64 (lowP p b),.int .i64 (lowQ p b)],.int .i64 0])) ∨ (fitsB p b = false ∧ e = .returned (.tuple #[.agg #[.int .i64 0,.int .i64 0],.int .i64 3]))) ∧ Below w.heap.size w w':=by
 go_enter Tryz.func143,Tryz.ntmps143
 go_wp2_with fail
 refine (size_any p _ h1 h2).mono ?_
 rintro e w' ⟨rfl,rfl⟩
 go_wp2_with fail
 refine (commonDivisor_any p.natAbs b _ (by omega) (by omega)).mono ?_
 rintro e w' ⟨rfl,n,rfl⟩
 rw [gg_cast]
 have hg:=gg_pos p b (by omega)
 have hg2:=gg_le p b (by omega)
 have HP:=hide (show p.tdiv (gg p b) = lowP p b from rfl)
 have HQ:=hide (lowQ_div p b)
 have hd:=div_bd b (gg p b) h4
 have hl:=low_bd p b h1 h2
 generalize gg p b = g at *
 go_wp2_with fail
 rw [unhide HP,← unhide HQ]
 refine (size_any (lowP p b) _ hl.1 hl.2).mono ?_
 rintro e w' ⟨rfl,rfl⟩
 rw [← unhide HQ] at hd
 cases hf:fitsB p b with
 | true=>
  have hb:=fits_bd p b (by omega) hf
  have HF:=hide hf
  clear hf
  have hb1:¬ 1000000000 < ((lowP p b).natAbs:Int):=by omega
  have hb2:¬ 1000000000 < lowQ p b:=by omega
  go_wp2_with fail
  exact bodyPost_ret (v:=.tuple #[.agg #[.int .i64 (lowP p b),.int .i64 (lowQ p b)],.int .i64 0]) (by simp [results,Tryz.results143,go_sem]) rfl ⟨Or.inl ⟨unhide HF,rfl⟩,(by repeat (first | exact Below.refl _ _ | refine below_dr ?_ _ | refine Below.drew ?_ | refine Below.setCell ?_ (by simp) _ | refine Below.alloc ?_ (by simp) _))⟩
 | false=>
  have hb:=fits_not p b h3 hf
  have HF:=hide hf
  clear hf
  rcases hb with hb1 | ⟨hb0,hb2⟩
  ·go_wp2_with fail
   exact bodyPost_ret (v:=.tuple #[.agg #[.int .i64 0,.int .i64 0],.int .i64 3]) (by simp [results,Tryz.results143,go_sem]) rfl ⟨Or.inr ⟨unhide HF,rfl⟩,(by repeat (first | exact Below.refl _ _ | refine below_dr ?_ _ | refine Below.drew ?_ | refine Below.setCell ?_ (by simp) _ | refine Below.alloc ?_ (by simp) _))⟩
  ·have hb1:¬ 1000000000 < ((lowP p b).natAbs:Int):=by omega
   go_wp2_with fail
   exact bodyPost_ret (v:=.tuple #[.agg #[.int .i64 0,.int .i64 0],.int .i64 3]) (by simp [results,Tryz.results143,go_sem]) rfl ⟨Or.inr ⟨unhide HF,rfl⟩,(by repeat (first | exact Below.refl _ _ | refine below_dr ?_ _ | refine Below.drew ?_ | refine Below.setCell ?_ (by simp) _ | refine Below.alloc ?_ (by simp) _))⟩
set_option maxRecDepth 100000 in
set_option maxHeartbeats 400000 in
theorem Low_any (p:Int) (b:Nat) (w:World) (h1:-4000000000000000000 ≤ p) (h2:p ≤ 4000000000000000000) (h3:1 ≤ b) (h4:b ≤ 4000000000000000000) :
  Calls Tryz.prog 144 #[.int .i64 p,.int .i64 b] w fun e w'=>((fitsB p b = true ∧ e = .returned (.tuple #[.agg #[.int .i64 (lowP p b),.int .i64 (lowQ p b)],.int .i64 0])) ∨ (fitsB p b = false ∧ e = .returned (.tuple #[.agg #[.int .i64 0,.int .i64 1],.int .i64 3]))) ∧ Below w.heap.size w w':=by
 by_cases h0:p < 0
 ·go_enter Tryz.func144,Tryz.ntmps144
  go_wp2_with fail
  rw [show -p = (p.natAbs:Int) from by omega]
  refine (common_any p.natAbs p.natAbs b _ (by omega) (by omega) (by omega)).mono ?_
  rintro e w' ⟨rfl,rfl⟩
  rw [gg_cast]
  have hg:=gg_pos p b (by omega)
  have hg2:=gg_le p b (by omega)
  have HP:=hide (show p.tdiv (gg p b) = lowP p b from rfl)
  have HA:=hide (show ((p.natAbs:Int) / (gg p b:Int)) = ((lowP p b).natAbs:Int) from by rw [lowP_abs,Int.natCast_ediv])
  have HQ:=hide (lowQ_div p b)
  have hd:=div_bd b (gg p b) h4
  have hl:=low_bd p b h1 h2
  generalize gg p b = g at *
  have ha:0 ≤ ((p.natAbs:Int) / (g:Int)) ∧ ((p.natAbs:Int) / (g:Int)) ≤ 4000000000000000000:=by rw [unhide HA];omega
  cases hf:fitsB p b with
  | true=>
   have hb:=fits_bd p b (by omega) hf
   have HF:=hide hf
   clear hf
   have hb1:¬ 1000000000 < ((p.natAbs:Int) / (g:Int)):=by rw [unhide HA];omega
   have hb2:¬ 1000000000 < (b:Int) / (g:Int):=by rw [← unhide HQ];omega
   go_wp2_with fail
   go_region
   rw [unhide HP,← unhide HQ]
   go_wp2_with fail
   exact bodyPost_ret (v:=.tuple #[.agg #[.int .i64 (lowP p b),.int .i64 (lowQ p b)],.int .i64 0]) (by simp [results,Tryz.results144,go_sem]) rfl ⟨Or.inl ⟨unhide HF,rfl⟩,(by repeat (first | exact Below.refl _ _ | refine below_dr ?_ _ | refine Below.drew ?_ | refine Below.setCell ?_ (by simp) _ | refine Below.alloc ?_ (by simp) _))⟩
  | false=>
   have hb:=fits_not p b h3 hf
   have HF:=hide hf
   clear hf
   rcases hb with hb1 | ⟨hb0,hb2⟩
   ·rw [← unhide HA] at hb1
    go_wp2_with fail
    exact bodyPost_ret (v:=.tuple #[.agg #[.int .i64 0,.int .i64 1],.int .i64 3]) (by simp [results,Tryz.results144,go_sem]) rfl ⟨Or.inr ⟨unhide HF,rfl⟩,(by repeat (first | exact Below.refl _ _ | refine below_dr ?_ _ | refine Below.drew ?_ | refine Below.setCell ?_ (by simp) _ | refine Below.alloc ?_ (by simp) _))⟩
   ·have hb1:¬ 1000000000 < ((p.natAbs:Int) / (g:Int)):=by rw [unhide HA];omega
    rw [unhide HQ] at hb2
    go_wp2_with fail
    exact bodyPost_ret (v:=.tuple #[.agg #[.int .i64 0,.int .i64 1],.int .i64 3]) (by simp [results,Tryz.results144,go_sem]) rfl ⟨Or.inr ⟨unhide HF,rfl⟩,(by repeat (first | exact Below.refl _ _ | refine below_dr ?_ _ | refine Below.drew ?_ | refine Below.setCell ?_ (by simp) _ | refine Below.alloc ?_ (by simp) _))⟩
 ·obtain ⟨m,rfl⟩:=Int.eq_ofNat_of_zero_le (show 0 ≤ p by omega)
  go_enter Tryz.func144,Tryz.ntmps144
  go_wp2_with fail
  refine (common_any m m b _ (by omega) (by omega) (by omega)).mono ?_
  rintro e w' ⟨rfl,rfl⟩
  rw [show Nat.gcd m b = gg m b from gg_cast m b]
  have hg:=gg_pos m b (by omega)
  have hg2:=gg_le m b (by omega)
  have HP:=hide (lowP_div m b)
  have HQ:=hide (lowQ_div m b)
  have hd:=div_bd b (gg m b) h4
  have ha:=div_bd m (gg m b) (by omega)
  have hl:=low_bd m b h1 h2
  generalize gg m b = g at *
  cases hf:fitsB m b with
  | true=>
   have hb:=fits_bd m b (by omega) hf
   have HF:=hide hf
   clear hf
   have hb1:¬ 1000000000 < ((m:Int) / (g:Int)):=by rw [← unhide HP];omega
   have hb2:¬ 1000000000 < (b:Int) / (g:Int):=by rw [← unhide HQ];omega
   go_wp2_with fail
   go_region
   rw [← unhide HP,← unhide HQ]
   go_wp2_with fail
   exact bodyPost_ret (v:=.tuple #[.agg #[.int .i64 (lowP m b),.int .i64 (lowQ m b)],.int .i64 0]) (by simp [results,Tryz.results144,go_sem]) rfl ⟨Or.inl ⟨unhide HF,rfl⟩,(by repeat (first | exact Below.refl _ _ | refine below_dr ?_ _ | refine Below.drew ?_ | refine Below.setCell ?_ (by simp) _ | refine Below.alloc ?_ (by simp) _))⟩
  | false=>
   have hb:=fits_not m b h3 hf
   have HF:=hide hf
   clear hf
   rcases hb with hb1 | ⟨hb0,hb2⟩
   ·have hb1':1000000000 < ((m:Int) / (g:Int)):=by have:=ha.1;rw [unhide HP] at hb1;omega
    clear hb1
    go_wp2_with fail
    exact bodyPost_ret (v:=.tuple #[.agg #[.int .i64 0,.int .i64 1],.int .i64 3]) (by simp [results,Tryz.results144,go_sem]) rfl ⟨Or.inr ⟨unhide HF,rfl⟩,(by repeat (first | exact Below.refl _ _ | refine below_dr ?_ _ | refine Below.drew ?_ | refine Below.setCell ?_ (by simp) _ | refine Below.alloc ?_ (by simp) _))⟩
   ·have hb1:¬ 1000000000 < ((m:Int) / (g:Int)):=by have:=ha.1;rw [unhide HP] at hb0;omega
    rw [unhide HQ] at hb2
    clear hb0
    go_wp2_with fail
    exact bodyPost_ret (v:=.tuple #[.agg #[.int .i64 0,.int .i64 1],.int .i64 3]) (by simp [results,Tryz.results144,go_sem]) rfl ⟨Or.inr ⟨unhide HF,rfl⟩,(by repeat (first | exact Below.refl _ _ | refine below_dr ?_ _ | refine Below.drew ?_ | refine Below.setCell ?_ (by simp) _ | refine Below.alloc ?_ (by simp) _))⟩
end Go.Proofs.YtikiaijgcjjloabGreatDoor

namespace Go.Proofs.YtikiaijgcjjloabGreatDoor
namespace T
def small (r:Rat):Bool:=decide (r.num.natAbs ≤ 1000000000 ∧ r.den ≤ 1000000000)
def lim (r:Rat):Except Int Rat:=if small r then .ok r else .error 3
def rootN (n:Nat):Option Nat:=(List.range (n + 1)).find? fun r=>r * r == n
def root (r:Rat):Option Rat :=
 if r.num < 0 then none else
 match rootN r.num.natAbs,rootN r.den with
 | some a,some b=>some (mkRat a b)
 | _,_=>none
inductive Sp where
 | n | v | a | q | w | u | r | s | z | p | m | o
 | plus (c:Rat) | times (c:Rat) | set (c:Rat)
 | shift (k:Int) | take (k:Nat) | drop (k:Nat) | pick (l:List Nat)
def each (f:Rat → Except Int Rat):List Rat → Except Int (List Rat)
 | []=>.ok []
 | x :: l=>match f x with
  | .error e=>.error e
  | .ok y=>match each f l with
   | .error e=>.error e
   | .ok ys=>.ok (y :: ys)
def scan (f:Rat → Rat → Except Int Rat) (acc:Rat):List Rat → Except Int (List Rat)
 | []=>.ok []
 | x :: l=>match f acc x with
  | .error e=>.error e
  | .ok y=>match scan f y l with
   | .error e=>.error e
   | .ok ys=>.ok (y :: ys)
def diff (f:Rat → Rat → Except Int Rat) (prev:Rat):List Rat → Except Int (List Rat)
 | []=>.ok []
 | x :: l=>match f prev x with
  | .error e=>.error e
  | .ok y=>match diff f x l with
   | .error e=>.error e
   | .ok ys=>.ok (y :: ys)
def headed (g:Rat → List Rat → Except Int (List Rat)):List Rat → Except Int (List Rat)
 | []=>.ok []
 | x :: l=>match g x l with
  | .error e=>.error e
  | .ok ys=>.ok (x :: ys)
def addE (a x:Rat):Except Int Rat:=lim (a + x)
def mulE (a x:Rat):Except Int Rat:=lim (a * x)
def subE (a x:Rat):Except Int Rat:=lim (x - a)
def divE (a x:Rat):Except Int Rat:=if a = 0 then .error 2 else lim (x * a⁻¹)
def zeroAhead:List Rat → Bool
 | []=>false
 | [_]=>false
 | x :: l=>x == 0 || zeroAhead l
def turn (k:Int) (l:List Rat):List Rat:=l.drop (k % l.length).toNat ++ l.take (k % l.length).toNat
def picked (ps:List Nat) (l:List Rat):List Rat:=ps.map fun i=>l.getD i 0
def Sp.work:Sp → List Rat → Except Int (List Rat)
 | .n,l=>.ok (l.map fun x=>-x)
 | .v,l=>each (fun x=>if x = 0 then .error 2 else .ok x⁻¹) l
 | .a,l=>.ok (l.map fun x=>if x < 0 then -x else x)
 | .q,l=>each (fun x=>lim (x * x)) l
 | .w,l=>each (fun x=>match root x with | some y=>.ok y | none=>.error 2) l
 | .u,l=>each (fun x=>if x < 0 then .error 2 else lim (x * x)) l
 | .r,l=>.ok l.reverse
 | .s,l=>headed (scan addE) l
 | .z,l=>headed (diff subE) l
 | .p,l=>headed (scan mulE) l
 | .m,l=>if zeroAhead l then .error 2 else headed (scan mulE) l
 | .o,l=>headed (diff divE) l
 | .plus c,l=>each (fun x=>lim (x + c)) l
 | .times c,l=>each (fun x=>lim (x * c)) l
 | .set c,l=>.ok (l.map fun _=>c)
 | .shift k,l=>.ok (turn k l)
 | .take k,l=>if k ≤ l.length then .ok (l.take k) else .error 11
 | .drop k,l=>if k ≤ l.length then .ok (l.drop k) else .error 11
 | .pick ps,l=>if ps.all (· < l.length) then .ok (picked ps l) else .error 11
def Sp.opp:Sp → Option Sp
 | .n=>some .n | .v=>some .v | .a=>none | .q=>some .w | .w=>some .u | .u=>some .w | .r=>some .r
 | .s=>some .z | .z=>some .s | .p=>some .o | .m=>some .o | .o=>some .m
 | .plus c=>some (.plus (-c)) | .times c=>if c = 0 then none else some (.times c⁻¹) | .set _=>none
 | .shift k=>some (.shift (-k)) | .take _=>none | .drop _=>none | .pick _=>none
def Sp.picker:Sp → Bool
 | .r=>true | .shift _=>true | .take _=>true | .drop _=>true | .pick _=>true | _=>false
def Sp.plain:Sp → Bool
 | .q=>false | .p=>false | _=>true
def Sp.workBack (x:Sp) (l:List Rat):Except Int (List Rat):=match x.opp with
 | some y=>y.work l
 | none=>.error 12
mutual
inductive Pt where
 | sp (x:Sp)
 | pow (f:Tm) (k:Int)
 | under (s g:Tm)
 | name (c:UInt8) (b:Tm)
inductive Tm where
 | nil
 | cons (p:Pt) (t:Tm)
end
mutual
def Pt.plain:Pt → Bool
 | .sp x=>x.plain
 | .pow f _=>f.plain
 | .under s g=>s.plain && g.plain
 | .name _ b=>b.plain
def Tm.plain:Tm → Bool
 | .nil=>true
 | .cons p t=>p.plain && t.plain
end
mutual
def Pt.picker:Pt → Bool
 | .sp x=>x.picker
 | .pow f _=>f.picker
 | .under _ _=>false
 | .name _ b=>b.picker
def Tm.picker:Tm → Bool
 | .nil=>true
 | .cons p t=>p.picker && t.picker
end
mutual
def Pt.back:Pt → Bool
 | .sp x=>x.opp.isSome
 | .pow f k=>k == 0 || (f.back && (decide (0 < k) || f.plain))
 | .under s g=>g.back && (s.picker || (s.back && s.plain))
 | .name _ b=>b.back
def Tm.back:Tm → Bool
 | .nil=>true
 | .cons p t=>p.back && t.back
end
inductive Res where
 | ok (l:List Rat) (f:Nat)
 | err (e:Int)
def Res.then (r:Res) (g:List Rat → Nat → Res):Res:=match r with
 | .err e=>.err e
 | .ok l f=>g l f
def lift (r:Except Int (List Rat)) (f:Nat):Res:=match r with
 | .error e=>.err e
 | .ok l=>.ok l f
def iter (g:List Rat → Nat → Res):Nat → List Rat → Nat → Res
 | 0,l,f=>.ok l f
 | _ + 1,_,0=>.err 10
 | k + 1,l,f + 1=>Res.then (g l f) (iter g k)
def allPlaces (n:Nat):List Rat:=(List.range n).map fun i:Nat=>((i:Int):Rat)
def places (l:List Rat):List Nat:=l.map fun x=>x.num.toNat
def layAt (ps:List Nat) (ys:List Rat) (l:List Rat):List Rat:=(List.range l.length).map fun i=>match (ps.zip ys).find? (fun e=>e.1 == i) with
 | some e=>e.2
 | none=>l.getD i 0
mutual
def Pt.run (p : Pt) (b : Bool) (l : List Rat) (f : Nat) : Res :=
  match f with
  | 0 => .err 10
  | f + 1 => match p with
    | .sp x => lift (if b then x.workBack l else x.work l) f
    | .pow t k => if (if b then -k else k) < 0 ∧ t.back = false then .err 12 else iter (fun l f => t.run (decide ((if b then -k else k) < 0)) l f) k.natAbs l f
    | .under s g =>
      if s.picker then
        Res.then (s.run false (allPlaces l.length) f) fun at_ f1 =>
          Res.then (g.run b (picked (places at_) l) f1) fun ys f2 =>
            if ys.length = at_.length then .ok (layAt (places at_) ys l) f2 else .err 11
      else if s.back && s.plain then
        Res.then (s.run false l f) fun l1 f1 => Res.then (g.run b l1 f1) fun l2 f2 => s.run true l2 f2
      else .err 12
    | .name _ t => t.run b l f
def Tm.run (t : Tm) (b : Bool) (l : List Rat) (f : Nat) : Res :=
  match t with
  | .nil => .ok l f
  | .cons p t => if b then Res.then (t.run b l f) (fun l f => p.run b l f) else Res.then (p.run b l f) (fun l f => t.run b l f)
end
end T
end Go.Proofs.YtikiaijgcjjloabGreatDoor

namespace Go.Proofs.YtikiaijgcjjloabGreatDoor
namespace T
def Steps (g:List Rat → Nat → Res) (l l':List Rat) (n:Nat):Prop:=∀ F,g l F = if n ≤ F then .ok l' (F - n) else .err 10
def Paced (g:List Rat → Nat → Res):Prop:=∀ l f l' f',g l f = .ok l' f' → ∃ n,f = f' + n ∧ Steps g l l' n
theorem then_ok {r:Res} {g:List Rat → Nat → Res} {l':List Rat} {f':Nat} (h:Res.then r g = .ok l' f'):∃ l f,r = .ok l f ∧ g l f = .ok l' f':=by
 cases r with
 | err e=>cases h
 | ok l f=>exact ⟨l,f,rfl,h⟩
theorem then_of_ok {g:List Rat → Nat → Res} {l:List Rat} {f:Nat}:Res.then (.ok l f) g = g l f:=rfl
theorem Steps.then {g h:List Rat → Nat → Res} {l l1 l2:List Rat} {n m:Nat} (hg:Steps g l l1 n) (hh:Steps h l1 l2 m):Steps (fun l f=>Res.then (g l f) h) l l2 (n + m):=by
 intro F
 show Res.then (g l F) h = _
 rw [hg F]
 by_cases h1:n ≤ F
 ·rw [if_pos h1,then_of_ok,hh (F - n)]
  by_cases h2:m ≤ F - n
  ·rw [if_pos h2,if_pos (by omega)]
   congr 1
   omega
  ·rw [if_neg h2,if_neg (by omega)]
 ·rw [if_neg h1,if_neg (by omega)]
  rfl
theorem Paced.then {g h:List Rat → Nat → Res} (hg:Paced g) (hh:Paced h):Paced (fun l f=>Res.then (g l f) h):=by
 intro l f l' f' e
 obtain ⟨l1,f1,e1,e2⟩:=then_ok e
 obtain ⟨n,hn,sn⟩:=hg l f l1 f1 e1
 obtain ⟨m,hm,sm⟩:=hh l1 f1 l' f' e2
 exact ⟨n + m,by omega,sn.then sm⟩
theorem paced_const (g:List Rat → Except Int (List Rat)):Paced (fun l f=>lift (g l) f):=by
 intro l f l' f' e
 change lift (g l) f = _ at e
 cases hg:g l with
 | error e'=>rw [hg] at e;cases e
 | ok x=>
  rw [hg] at e
  cases e
  refine ⟨0,rfl,fun F=>?_⟩
  show lift (g l) F = _
  rw [hg,if_pos (by omega)]
  rfl
def stepped (g:List Rat → Nat → Res) (l:List Rat) (f:Nat):Res:=match f with
 | 0=>.err 10
 | f + 1=>g l f
theorem Steps.stepped {g:List Rat → Nat → Res} {l l':List Rat} {n:Nat} (h:Steps g l l' n):Steps (stepped g) l l' (n + 1):=by
 intro F
 cases F with
 | zero=>rfl
 | succ F=>
  show g l F = _
  rw [h F]
  by_cases h1:n ≤ F
  ·rw [if_pos h1,if_pos (by omega)]
   congr 1
   omega
  ·rw [if_neg h1,if_neg (by omega)]
theorem Paced.stepped {g:List Rat → Nat → Res} (hg:Paced g):Paced (stepped g):=by
 intro l f l' f' e
 cases f with
 | zero=>cases e
 | succ f=>
  obtain ⟨n,hn,sn⟩:=hg l f l' f' e
  exact ⟨n + 1,by omega,sn.stepped⟩
theorem iter_zero (g:List Rat → Nat → Res) (l:List Rat) (f:Nat):iter g 0 l f = .ok l f:=by cases f <;> rfl
theorem iter_succ (g:List Rat → Nat → Res) (k:Nat) (l:List Rat) (f:Nat):iter g (k + 1) l f = stepped (fun l f=>Res.then (g l f) (iter g k)) l f:=by cases f <;> rfl
theorem Paced.iter {g:List Rat → Nat → Res} (hg:Paced g):∀ k,Paced (iter g k)
 | 0=>by
  intro l f l' f' e
  rw [iter_zero] at e
  cases e
  exact ⟨0,rfl,fun F=>by rw [iter_zero,if_pos (by omega)];rfl⟩
 | k + 1=>by
  have h:=(hg.then (Paced.iter hg k)).stepped
  intro l f l' f' e
  rw [iter_succ] at e
  obtain ⟨n,hn,sn⟩:=h l f l' f' e
  exact ⟨n,hn,fun F=>by rw [iter_succ];exact sn F⟩
theorem Pt.run_eq (p:Pt) (b:Bool) (l:List Rat) (f:Nat):p.run b l f = stepped (fun l f=>match p with
  | .sp x=>lift (if b then x.workBack l else x.work l) f
  | .pow t k=>if (if b then -k else k) < 0 ∧ t.back = false then .err 12 else iter (fun l f=>t.run (decide ((if b then -k else k) < 0)) l f) k.natAbs l f
  | .under s g=>
   if s.picker then
    Res.then (s.run false (allPlaces l.length) f) fun at_ f1=>
     Res.then (g.run b (picked (places at_) l) f1) fun ys f2=>
      if ys.length = at_.length then .ok (layAt (places at_) ys l) f2 else .err 11
   else if s.back && s.plain then
    Res.then (s.run false l f) fun l1 f1=>Res.then (g.run b l1 f1) fun l2 f2=>s.run true l2 f2
   else .err 12
  | .name _ t=>t.run b l f) l f:=by
 cases f with
 | zero=>cases p <;> rw [Pt.run] <;> rfl
 | succ f=>cases p <;> rw [Pt.run] <;> rfl
theorem Tm.run_nil (b:Bool) (l:List Rat) (f:Nat):Tm.nil.run b l f = .ok l f:=by rw [Tm.run]
theorem Tm.run_fwd (p:Pt) (t:Tm) (l:List Rat) (f:Nat):(Tm.cons p t).run false l f = Res.then (p.run false l f) (fun l f=>t.run false l f):=by rw [Tm.run];rfl
theorem Tm.run_bwd (p:Pt) (t:Tm) (l:List Rat) (f:Nat):(Tm.cons p t).run true l f = Res.then (t.run true l f) (fun l f=>p.run true l f):=by rw [Tm.run];rfl
theorem under_paced {s g:List Rat → Nat → Res} (hs:Paced s) (hg:Paced g):Paced (fun l f=>Res.then (s (allPlaces l.length) f) fun at_ f1=>
     Res.then (g (picked (places at_) l) f1) fun ys f2=>
      if ys.length = at_.length then .ok (layAt (places at_) ys l) f2 else .err 11):=by
 intro l f l' f' e
 obtain ⟨at_,f1,e1,e2⟩:=then_ok e
 obtain ⟨ys,f2,e3,e4⟩:=then_ok e2
 obtain ⟨n,hn,sn⟩:=hs _ _ _ _ e1
 obtain ⟨m,hm,sm⟩:=hg _ _ _ _ e3
 split at e4
 ·rename_i hl
  cases e4
  refine ⟨n + m,by omega,fun F=>?_⟩
  show Res.then (s (allPlaces l.length) F) _ = _
  rw [sn F]
  by_cases h1:n ≤ F
  ·rw [if_pos h1,then_of_ok,sm (F - n)]
   by_cases h2:m ≤ F - n
   ·rw [if_pos h2,then_of_ok,if_pos hl,if_pos (by omega)]
    congr 1
    omega
   ·rw [if_neg h2,if_neg (by omega)];rfl
  ·rw [if_neg h1,if_neg (by omega)];rfl
 ·cases e4
mutual
theorem Pt.paced:∀ (p:Pt) (b:Bool),Paced (p.run b)
 | .sp x,b=>by
  intro l f l' f' e
  rw [Pt.run_eq] at e
  obtain ⟨n,hn,sn⟩:=(paced_const (fun l=>if b then x.workBack l else x.work l)).stepped l f l' f' e
  exact ⟨n,hn,fun F=>by rw [Pt.run_eq];exact sn F⟩
 | .pow t k,b=>by
  intro l f l' f' e
  rw [Pt.run_eq] at e
  have ih:=(Tm.paced t (decide ((if b then -k else k) < 0))).iter k.natAbs
  have h:Paced (fun l f=>if (if b then -k else k) < 0 ∧ t.back = false then (.err 12:Res) else T.iter (fun l f=>t.run (decide ((if b then -k else k) < 0)) l f) k.natAbs l f):=by
   by_cases hc:(if b then -k else k) < 0 ∧ t.back = false
   ·intro l f l' f' e;simp only [if_pos hc] at e;cases e
   ·intro l f l' f' e
    simp only [if_neg hc] at e
    obtain ⟨n,hn,sn⟩:=ih l f l' f' e
    exact ⟨n,hn,fun F=>by simp only [if_neg hc];exact sn F⟩
  obtain ⟨n,hn,sn⟩:=h.stepped l f l' f' e
  exact ⟨n,hn,fun F=>by rw [Pt.run_eq];exact sn F⟩
 | .under s g,b=>by
  intro l f l' f' e
  rw [Pt.run_eq] at e
  have hs0:=Tm.paced s false
  have hs1:=Tm.paced s true
  have hg:=Tm.paced g b
  have h:Paced (fun l f=>if s.picker then
    Res.then (s.run false (allPlaces l.length) f) fun at_ f1=>
     Res.then (g.run b (picked (places at_) l) f1) fun ys f2=>
      if ys.length = at_.length then .ok (layAt (places at_) ys l) f2 else .err 11
   else if s.back && s.plain then
    Res.then (s.run false l f) fun l1 f1=>Res.then (g.run b l1 f1) fun l2 f2=>s.run true l2 f2
   else .err 12):=by
   by_cases h1:s.picker = true
   ·simp only [h1,if_true]
    exact under_paced hs0 hg
   ·simp only [h1]
    by_cases h2:(s.back && s.plain) = true
    ·simp only [h2,if_true]
     exact hs0.then (hg.then hs1)
    ·simp only [h2]
     intro l f l' f' e
     cases e
  obtain ⟨n,hn,sn⟩:=h.stepped l f l' f' e
  exact ⟨n,hn,fun F=>by rw [Pt.run_eq];exact sn F⟩
 | .name c t,b=>by
  intro l f l' f' e
  rw [Pt.run_eq] at e
  obtain ⟨n,hn,sn⟩:=(Tm.paced t b).stepped l f l' f' e
  exact ⟨n,hn,fun F=>by rw [Pt.run_eq];exact sn F⟩
theorem Tm.paced:∀ (t:Tm) (b:Bool),Paced (t.run b)
 | .nil,b=>by
  intro l f l' f' e
  rw [Tm.run_nil] at e
  cases e
  exact ⟨0,rfl,fun F=>by rw [Tm.run_nil,if_pos (by omega)];rfl⟩
 | .cons p t,false=>by
  intro l f l' f' e
  rw [Tm.run_fwd] at e
  obtain ⟨n,hn,sn⟩:=((Pt.paced p false).then (Tm.paced t false)) l f l' f' e
  exact ⟨n,hn,fun F=>by rw [Tm.run_fwd];exact sn F⟩
 | .cons p t,true=>by
  intro l f l' f' e
  rw [Tm.run_bwd] at e
  obtain ⟨n,hn,sn⟩:=((Tm.paced t true).then (Pt.paced p true)) l f l' f' e
  exact ⟨n,hn,fun F=>by rw [Tm.run_bwd];exact sn F⟩
end
end T
end Go.Proofs.YtikiaijgcjjloabGreatDoor

namespace Go.Proofs.YtikiaijgcjjloabGreatDoor
namespace T
theorem lim_ok {r y:Rat} (h:lim r = .ok y):y = r ∧ small y = true:=by
 unfold lim at h
 split at h
 ·cases h;exact ⟨rfl,‹_›⟩
 ·cases h
def AllS (l:List Rat):Prop:=∀ x ∈ l,small x = true
theorem allS_cons {x:Rat} {l:List Rat}:AllS (x :: l) ↔ small x = true ∧ AllS l:=by
 unfold AllS;simp
theorem rootN_some {n r:Nat} (h:rootN n = some r):r * r = n:=by
 unfold rootN at h
 simpa using List.find?_some h
theorem rootN_sq (r:Nat):rootN (r * r) = some r:=by
 unfold rootN
 cases h:(List.range (r * r + 1)).find? (fun x=>x * x == r * r) with
 | none=>
  exfalso
  have h2:=List.find?_eq_none.1 h r (by rw [List.mem_range];have:=Nat.le_mul_self r;omega)
  simp at h2
 | some x=>
  have h2:=List.find?_some h
  have h3:x * x = r * r:=by simpa using h2
  rw [M.root_unique x r h3]
theorem mkRat_mul_self (a b:Nat):mkRat (a:Int) b * mkRat (a:Int) b = mkRat ((a * a:Nat):Int) (b * b):=by
 rw [Rat.mkRat_mul_mkRat]
 simp
theorem root_some {r y:Rat} (h:root r = some y):0 ≤ y ∧ y * y = r:=by
 unfold root at h
 split at h
 ·cases h
 ·rename_i hn
  split at h
  ·rename_i a b ha hb
   cases h
   have h1:=rootN_some ha
   have h2:=rootN_some hb
   refine ⟨?_,?_⟩
   ·rw [← Rat.divInt_ofNat]
    exact Rat.divInt_nonneg (by omega) (by omega)
   ·rw [mkRat_mul_self a b,h1,h2]
    have e:((r.num.natAbs:Nat):Int) = r.num:=by omega
    rw [e]
    exact Rat.mkRat_self r
  ·cases h
theorem sq_parts (y:Rat):(y * y).num = y.num * y.num ∧ (y * y).den = y.den * y.den:=by
 have hc:(y.num * y.num).natAbs.Coprime (y.den * y.den):=by
  rw [Int.natAbs_mul]
  exact Nat.Coprime.mul_left (y.reduced.mul_right y.reduced) (y.reduced.mul_right y.reduced)
 have hz:y.den * y.den ≠ 0:=Nat.mul_ne_zero y.den_nz y.den_nz
 have e:y * y = ⟨y.num * y.num,y.den * y.den,hz,hc⟩:=by
  rw [← Rat.mkRat_self (⟨y.num * y.num,y.den * y.den,hz,hc⟩:Rat)]
  conv=>lhs;rw [← Rat.mkRat_self y]
  rw [Rat.mkRat_mul_mkRat]
 rw [e]
 exact ⟨rfl,rfl⟩
theorem root_small {r y:Rat} (h:root r = some y) (hr:small r = true):small y = true:=by
 obtain ⟨h0,h1⟩:=root_some h
 obtain ⟨h2,h3⟩:=sq_parts y
 rw [h1] at h2 h3
 unfold small at *
 have hr':=of_decide_eq_true hr
 apply decide_eq_true
 rw [h2,h3,Int.natAbs_mul] at hr'
 have k1:=Nat.le_mul_self y.num.natAbs
 have k2:=Nat.le_mul_self y.den
 omega
theorem small_neg {x:Rat} (h:small x = true):small (-x) = true:=by
 unfold small at *
 have:=of_decide_eq_true h
 apply decide_eq_true
 rw [Rat.neg_num,Rat.neg_den]
 omega
theorem num_ne {x:Rat} (h:x ≠ 0):x.num ≠ 0:=fun e=>h (by
 have:=Rat.mkRat_self x
 rw [e] at this
 rw [← this]
 simp)
theorem small_inv {x:Rat} (h0:x ≠ 0) (h:small x = true):small x⁻¹ = true:=by
 unfold small at *
 have:=of_decide_eq_true h
 have hn:=num_ne h0
 apply decide_eq_true
 rw [Rat.num_inv,Rat.den_inv,if_neg hn,Int.natAbs_mul,Int.natAbs_sign_of_ne_zero hn]
 simp
 omega
theorem mapS {f:Rat → Rat} (h:∀ x,small x = true → small (f x) = true) {l:List Rat} (ha:AllS l):AllS (l.map f):=by
 intro y hy
 obtain ⟨x,hx,rfl⟩:=List.mem_map.1 hy
 exact h x (ha x hx)
theorem zeroAhead_cons (x y:Rat) (l:List Rat):zeroAhead (x :: y :: l) = (x == 0 || zeroAhead (y :: l)):=rfl
end T
end Go.Proofs.YtikiaijgcjjloabGreatDoor

namespace Go.Proofs.YtikiaijgcjjloabGreatDoor
namespace T
theorem turn_length (k:Int) (l:List Rat):(turn k l).length = l.length:=by
 unfold turn
 simp only [List.length_append,List.length_drop,List.length_take]
 omega
theorem turnS (k:Int) {l:List Rat} (h:AllS l):AllS (turn k l):=by
 intro x hx
 unfold turn at hx
 rcases List.mem_append.1 hx with h1 | h1
 ·exact h x (List.mem_of_mem_drop h1)
 ·exact h x (List.mem_of_mem_take h1)
end T
end Go.Proofs.YtikiaijgcjjloabGreatDoor

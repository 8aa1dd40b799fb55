import Derived.Test.YtikiaijgcjjloabGreatDoorPart4
import Derived.Test.YtikiaijgcjjloabGreatDoorPart5
import Derived.Test.YtikiaijgcjjloabGreatDoorPart17

namespace Go.Proofs.YtikiaijgcjjloabGreatDoor
namespace T
def Keeps (l l':List Rat):Prop:=(AllS l → AllS l') ∧ l'.length ≤ l.length
theorem Keeps.refl (l:List Rat):Keeps l l:=⟨id,Nat.le_refl _⟩
theorem each_keeps {f:Rat → Except Int Rat} (h:∀ x y,small x = true → f x = .ok y → small y = true):∀ {l l':List Rat},each f l = .ok l' → Keeps l l'
 | [],l',e=>by cases e;exact Keeps.refl _
 | x :: l,l',e=>by
  rw [each] at e
  cases hg:f x with
  | error e'=>rw [hg] at e;cases e
  | ok y=>
   rw [hg] at e
   cases hr:each f l with
   | error e'=>rw [hr] at e;cases e
   | ok ys=>
    rw [hr] at e
    cases e
    obtain ⟨h1,h2⟩:=each_keeps h hr
    refine ⟨fun ha=>?_,by simpa using h2⟩
    obtain ⟨hx,hl⟩:=allS_cons.1 ha
    exact allS_cons.2 ⟨h x y hx hg,h1 hl⟩
theorem scan_keeps {f:Rat → Rat → Except Int Rat} (h:∀ a x y,f a x = .ok y → small y = true):∀ {l l':List Rat} {a:Rat},scan f a l = .ok l' → Keeps l l'
 | [],l',a,e=>by cases e;exact Keeps.refl _
 | x :: l,l',a,e=>by
  rw [scan] at e
  cases hg:f a x with
  | error e'=>rw [hg] at e;cases e
  | ok y=>
   rw [hg] at e
   cases hr:scan f y l with
   | error e'=>simp only [hr] at e;cases e
   | ok ys=>
    simp only [hr] at e
    cases e
    obtain ⟨h1,h2⟩:=scan_keeps h hr
    refine ⟨fun ha=>?_,by simpa using h2⟩
    obtain ⟨hx,hl⟩:=allS_cons.1 ha
    exact allS_cons.2 ⟨h a x y hg,h1 hl⟩
theorem diff_keeps {f:Rat → Rat → Except Int Rat} (h:∀ a x y,f a x = .ok y → small y = true):∀ {l l':List Rat} {a:Rat},diff f a l = .ok l' → Keeps l l'
 | [],l',a,e=>by cases e;exact Keeps.refl _
 | x :: l,l',a,e=>by
  rw [diff] at e
  cases hg:f a x with
  | error e'=>rw [hg] at e;cases e
  | ok y=>
   rw [hg] at e
   cases hr:diff f x l with
   | error e'=>simp only [hr] at e;cases e
   | ok ys=>
    simp only [hr] at e
    cases e
    obtain ⟨h1,h2⟩:=diff_keeps h hr
    refine ⟨fun ha=>?_,by simpa using h2⟩
    obtain ⟨hx,hl⟩:=allS_cons.1 ha
    exact allS_cons.2 ⟨h a x y hg,h1 hl⟩
theorem headed_keeps {g:Rat → List Rat → Except Int (List Rat)} (h:∀ a l l',g a l = .ok l' → Keeps l l'):∀ {l l':List Rat},headed g l = .ok l' → Keeps l l'
 | [],l',e=>by cases e;exact Keeps.refl _
 | x :: l,l',e=>by
  rw [headed] at e
  cases hg:g x l with
  | error e'=>rw [hg] at e;cases e
  | ok ys=>
   rw [hg] at e
   cases e
   obtain ⟨h1,h2⟩:=h x l ys hg
   refine ⟨fun ha=>?_,by simpa using h2⟩
   obtain ⟨hx,hl⟩:=allS_cons.1 ha
   exact allS_cons.2 ⟨hx,h1 hl⟩
theorem lim_small {r y:Rat} (h:lim r = .ok y):small y = true:=(lim_ok h).2
theorem divE_small {a x y:Rat} (h:divE a x = .ok y):small y = true:=by
 unfold divE at h
 split at h
 ·cases h
 ·exact lim_small h
theorem map_keeps {f:Rat → Rat} (h:∀ x,small x = true → small (f x) = true) (l:List Rat):Keeps l (l.map f):=⟨fun ha=>mapS h ha,by simp⟩
theorem Sp.keeps {x:Sp} (hw:x.wf) {l l':List Rat} (h:x.work l = .ok l'):Keeps l l':=by
 cases x with
 | n=>cases h;exact map_keeps (fun _=>small_neg) l
 | v=>
  refine each_keeps (fun x y hx hg=>?_) h
  split at hg
  ·cases hg
  ·cases hg;exact small_inv ‹_› hx
 | a=>
  cases h
  refine map_keeps (fun x hx=>?_) l
  split
  ·exact small_neg hx
  ·exact hx
 | q=>exact each_keeps (fun x y _ hg=>lim_small hg) h
 | w=>
  refine each_keeps (fun x y hx hg=>?_) h
  split at hg
  ·cases hg;exact root_small ‹_› hx
  ·cases hg
 | u=>
  refine each_keeps (fun x y _ hg=>?_) h
  split at hg
  ·cases hg
  ·exact lim_small hg
 | r=>cases h;exact ⟨fun ha z hz=>ha z (List.mem_reverse.1 hz),by simp⟩
 | s=>exact headed_keeps (fun a l l' hg=>scan_keeps (f:=addE) (fun a x y h=>lim_small (show lim (a + x) = .ok y from h)) hg) h
 | z=>exact headed_keeps (fun a l l' hg=>diff_keeps (f:=subE) (fun a x y h=>lim_small (show lim (x - a) = .ok y from h)) hg) h
 | p=>exact headed_keeps (fun a l l' hg=>scan_keeps (f:=mulE) (fun a x y h=>lim_small (show lim (a * x) = .ok y from h)) hg) h
 | m=>
  have h':(if zeroAhead l then (Except.error 2:Except Int (List Rat)) else headed (scan mulE) l) = .ok l':=h
  split at h'
  ·cases h'
  ·exact headed_keeps (fun a l l' hg=>scan_keeps (f:=mulE) (fun a x y h=>lim_small (show lim (a * x) = .ok y from h)) hg) h'
 | o=>exact headed_keeps (fun a l l' hg=>diff_keeps (f:=divE) (fun a x y h=>divE_small h) hg) h
 | plus c=>exact each_keeps (fun x y _ hg=>lim_small hg) h
 | times c=>exact each_keeps (fun x y _ hg=>lim_small hg) h
 | set c=>cases h;exact map_keeps (fun _ _=>hw) l
 | shift k=>cases h;exact ⟨fun ha=>turnS k ha,by rw [turn_length];exact Nat.le_refl _⟩
 | take k=>
  have h':(if k ≤ l.length then (Except.ok (l.take k):Except Int (List Rat)) else .error 11) = .ok l':=h
  split at h'
  ·cases h';exact ⟨fun ha z hz=>ha z (List.mem_of_mem_take hz),by simp;omega⟩
  ·cases h'
 | drop k=>
  have h':(if k ≤ l.length then (Except.ok (l.drop k):Except Int (List Rat)) else .error 11) = .ok l':=h
  split at h'
  ·cases h';exact ⟨fun ha z hz=>ha z (List.mem_of_mem_drop hz),by simp⟩
  ·cases h'
 | pick ps=>
  have h':(if ps.all (· < l.length) then (Except.ok (picked ps l):Except Int (List Rat)) else .error 11) = .ok l':=h
  split at h'
  ·rename_i hall
   cases h'
   have hlt:∀ i ∈ ps,i < l.length:=fun i hi=>by simpa using List.all_eq_true.1 hall i hi
   refine ⟨fun ha=>pickedS hlt ha,?_⟩
   rw [picked_length]
   have:=List.Nodup.length_le_of_subset hw.2.1 (fun i hi=>List.mem_range.2 (hlt i hi))
   simpa using this
  ·cases h'
theorem Sp.opp_wfK {x y:Sp} (hw:x.wf) (ho:x.opp = some y):y.wf:=by
 cases x with
 | plus c=>cases ho;exact small_neg hw
 | times c=>
  rw [Sp.opp] at ho
  split at ho
  ·cases ho
  ·cases ho;exact small_inv ‹_› hw
 | shift k=>cases ho;have h1:=hw.1;have h2:=hw.2;exact ⟨by omega,by omega⟩
 | _=>cases ho <;> trivial
end T
end Go.Proofs.YtikiaijgcjjloabGreatDoor

namespace Go.Proofs.YtikiaijgcjjloabGreatDoor
namespace T
open Go.Lib M
theorem FactsSays.good {env:Env} {s:List UInt8} {n:Int} (h:FactsSays env s n 0):∃ t,Good env s t ∧ n = factsNum t:=by
 rcases h with ⟨h1,_⟩ | ⟨t,g,h1,_⟩
 ·exact absurd rfl h1.ne
 ·exact ⟨t,g,h1⟩
def powText (s:List UInt8) (k:Int):List UInt8:=40 :: (s ++ 41 :: 94 :: itoa k)
theorem IsTerm.pow {env:Env} {s:List UInt8} {t:Tm} (h:IsTerm env s t) {k:Int} (h1:-999 ≤ k) (h2:k ≤ 999):IsTerm env (powText s k) (.cons (.pow t k) .nil):=by
 refine ⟨?_,?_,?_⟩
 ·rw [Tm.wf,Pt.wf,Tm.wf];exact ⟨⟨h.wf,h1,h2⟩,trivial⟩
 ·rw [Tm.inEnv,Pt.inEnv,Tm.inEnv];exact ⟨h.env,trivial⟩
 ·rw [Tm.text,Pt.text,Tm.text,h.text];simp [powText]
end T
end Go.Proofs.YtikiaijgcjjloabGreatDoor

namespace Go.Proofs.YtikiaijgcjjloabGreatDoor
namespace T
inductive St where
 | rest | aside | fetch | home | never
 | sp (x:Sp)
def St.free:St → Bool
 | .aside=>true
 | .fetch=>true
 | .home=>true
 | _=>false
mutual
def Pt.flat:Pt → Bool → List St
 | .sp x,b=>[.sp (if b then x.opp.getD x else x)]
 | .pow f k,b=>.rest :: (if (if b then -k else k) < 0 ∧ f.back = false then [.never] else (List.replicate k.natAbs (.rest :: f.flat (decide ((if b then -k else k) < 0)))).flatten)
 | .under s g,b=>.rest :: (if s.picker then .aside :: (s.flat false ++ .fetch :: (g.flat b ++ [.home])) else if s.back && s.plain then s.flat false ++ (g.flat b ++ s.flat true) else [.never])
 | .name _ t,b=>.rest :: t.flat b
def Tm.flat:Tm → Bool → List St
 | .nil,_=>[]
 | .cons p t,b=>if b then t.flat b ++ p.flat b else p.flat b ++ t.flat b
end
structure Desk where
 cur:List Rat
 away:List (List Rat)
inductive PRes where
 | ok (d:Desk) (f:Nat)
 | err (e:Int)
def St.play (s:St) (d:Desk) (f:Nat):PRes:=match s with
 | .aside=>.ok ⟨allPlaces d.cur.length,d.cur :: d.away⟩ f
 | .fetch=>match d.away with
  | old :: _=>.ok ⟨picked (places d.cur) old,d.cur :: d.away⟩ f
  | []=>.err 0
 | .home=>match d.away with
  | at_ :: old :: more=>if d.cur.length = at_.length then .ok ⟨layAt (places at_) d.cur old,more⟩ f else .err 11
  | _=>.err 0
 | .never=>.err 12
 | .rest=>match f with
  | 0=>.err 10
  | f + 1=>.ok d f
 | .sp x=>match f with
  | 0=>.err 10
  | f + 1=>match x.work d.cur with
   | .error e=>.err e
   | .ok l=>.ok { d with cur:=l } f
def playAll:List St → Desk → Nat → PRes
 | [],d,f=>.ok d f
 | s :: l,d,f=>match s.play d f with
  | .err e=>.err e
  | .ok d' f'=>playAll l d' f'
def PRes.of (r:Res) (away:List (List Rat)) (more:List St):PRes:=match r with
 | .err e=>.err e
 | .ok l f=>playAll more ⟨l,away⟩ f
theorem of_then (r:Res) (g:List Rat → Nat → Res) (away:List (List Rat)) (more:List St):PRes.of (Res.then r g) away more = match r with
  | .err e=>.err e
  | .ok l f=>PRes.of (g l f) away more:=by cases r <;> rfl
def Plays (st:List St) (g:List Rat → Nat → Res):Prop:=∀ (cur:List Rat) (away:List (List Rat)) (f:Nat) (more:List St),playAll (st ++ more) ⟨cur,away⟩ f = PRes.of (g cur f) away more
theorem plays_nil:Plays [] (fun l f=>.ok l f):=fun _ _ _ _=>rfl
theorem Plays.then {a b:List St} {g h:List Rat → Nat → Res} (ha:Plays a g) (hb:Plays b h):Plays (a ++ b) (fun l f=>Res.then (g l f) h):=by
 intro cur away f more
 rw [List.append_assoc,ha,of_then]
 cases g cur f with
 | err e=>rfl
 | ok l f1=>exact hb l away f1 more
theorem Plays.stepped {a:List St} {g:List Rat → Nat → Res} (ha:Plays a g):Plays (.rest :: a) (T.stepped g):=by
 intro cur away f more
 cases f with
 | zero=>rfl
 | succ f=>exact ha cur away f more
theorem Plays.iter {a:List St} {g:List Rat → Nat → Res} (ha:Plays a g):∀ k,Plays (List.replicate k (.rest :: a)).flatten (T.iter g k)
 | 0=>by rw [iter_zero_fun];exact plays_nil
 | k + 1=>by
  rw [iter_succ_fun,List.replicate_succ,List.flatten_cons]
  exact (ha.then (Plays.iter ha k)).stepped
theorem plays_never:Plays [.never] (fun _ _=>.err 12):=fun _ _ _ _=>rfl
theorem plays_under {a b:List St} {s g:List Rat → Nat → Res} (hs:Plays a s) (hg:Plays b g):Plays (.aside :: (a ++ .fetch :: (b ++ [.home]))) (underRun s g):=by
 intro cur away f more
 have e:(St.aside :: (a ++ .fetch :: (b ++ [.home]))) ++ more = .aside :: (a ++ (.fetch :: (b ++ (.home :: more)))):=by simp
 rw [e]
 show playAll (a ++ (.fetch :: (b ++ (.home :: more)))) ⟨allPlaces cur.length,cur :: away⟩ f = _
 rw [hs]
 unfold underRun
 cases hr:s (allPlaces cur.length) f with
 | err x=>rfl
 | ok at_ f1=>
  show playAll (b ++ (.home :: more)) ⟨picked (places at_) cur,at_ :: cur :: away⟩ f1 = _
  rw [hg,then_of_ok]
  cases hr2:g (picked (places at_) cur) f1 with
  | err x=>rfl
  | ok ys f2=>
   show playAll (.home :: more) ⟨ys,at_ :: cur :: away⟩ f2 = PRes.of (if ys.length = at_.length then .ok (layAt (places at_) ys cur) f2 else .err 11) away more
   by_cases hl:ys.length = at_.length
   ·rw [if_pos hl]
    show (match (if ys.length = at_.length then PRes.ok ⟨layAt (places at_) ys cur,away⟩ f2 else .err 11) with
     | .err e=>PRes.err e
     | .ok d' f'=>playAll more d' f') = _
    rw [if_pos hl]
    rfl
   ·rw [if_neg hl]
    show (match (if ys.length = at_.length then PRes.ok ⟨layAt (places at_) ys cur,away⟩ f2 else .err 11) with
     | .err e=>PRes.err e
     | .ok d' f'=>playAll more d' f') = _
    rw [if_neg hl]
    rfl
theorem plays_sp (x:Sp):Plays [.sp x] (T.stepped (fun l f=>lift (x.work l) f)):=by
 intro cur away f more
 cases f with
 | zero=>rfl
 | succ f=>
  show (match (match x.work cur with
   | .error e=>PRes.err e
   | .ok l=>.ok ⟨l,away⟩ f) with
   | .err e=>PRes.err e
   | .ok d' f'=>playAll more d' f') = PRes.of (lift (x.work cur) f) away more
  cases x.work cur with
  | error e=>rfl
  | ok l=>rfl
mutual
theorem Pt.plays : ∀ (p : Pt) (b : Bool), (b = true → p.back = true) → Plays (p.flat b) (p.run b)
  | .sp x, false, _ => by rw [Pt.flat, Pt.run_sp]; exact plays_sp x
  | .sp x, true, hb => by
    have h := hb rfl
    rw [Pt.back] at h
    rw [Pt.flat, Pt.run_sp]
    cases ho : x.opp with
    | none => rw [ho] at h; cases h
    | some y =>
      have e : (fun l f => lift (if true = true then x.workBack l else x.work l) f) = fun l f => lift (y.work l) f := by
        funext l f
        show lift (x.workBack l) f = _
        unfold Sp.workBack
        rw [ho]
      rw [e]
      exact plays_sp y
  | .pow t k, b, hb => by
    rw [Pt.flat]
    by_cases hc : (if b then -k else k) < 0 ∧ t.back = false
    · rw [if_pos hc, Pt.run_pow]
      have e : (fun l f => if (if b then -k else k) < 0 ∧ t.back = false then (Res.err 12 : Res) else iter (fun l f => t.run (decide ((if b then -k else k) < 0)) l f) k.natAbs l f) = fun _ _ => .err 12 := by
        funext l f; rw [if_pos hc]
      rw [e]
      exact plays_never.stepped
    · rw [if_neg hc, Pt.run_pow_ok _ _ _ hc]
      refine ((Tm.plays t _ (fun h => ?_)).iter _).stepped
      have h1 : (if b then -k else k) < 0 := of_decide_eq_true h
      cases hh : t.back with
      | true => rfl
      | false => exact absurd ⟨h1, hh⟩ hc
  | .under s g, b, hb => by
    rw [Pt.flat]
    have hg := Tm.plays g b (fun h => by
      have := hb h
      rw [Pt.back, Bool.and_eq_true] at this
      exact this.1)
    by_cases hp : s.picker = true
    · rw [if_pos hp, Pt.run_under_pick _ _ _ hp]
      exact (plays_under (Tm.plays s false (fun h => by cases h)) hg).stepped
    · rw [if_neg hp]
      by_cases h2 : (s.back && s.plain) = true
      · rw [if_pos h2, Pt.run_under_way _ _ _ (by simpa using hp) h2]
        rw [Bool.and_eq_true] at h2
        exact ((Tm.plays s false (fun h => by cases h)).then (hg.then (Tm.plays s true (fun _ => h2.1)))).stepped
      · rw [if_neg h2, Pt.run_fun]
        have e : (fun l f => match Pt.under s g with
            | .sp x => lift (if b then x.workBack l else x.work l) f
            | .pow t k => if (if b then -k else k) < 0 ∧ t.back = false then .err 12 else iter (fun l f => t.run (decide ((if b then -k else k) < 0)) l f) k.natAbs l f
            | .under s g =>
              if s.picker then
                Res.then (s.run false (allPlaces l.length) f) fun at_ f1 =>
                  Res.then (g.run b (picked (places at_) l) f1) fun ys f2 =>
                    if ys.length = at_.length then .ok (layAt (places at_) ys l) f2 else .err 11
              else if s.back && s.plain then
                Res.then (s.run false l f) fun l1 f1 => Res.then (g.run b l1 f1) fun l2 f2 => s.run true l2 f2
              else .err 12
            | .name _ t => t.run b l f) = fun _ _ => (.err 12 : Res) := by
          funext l f
          change (if s.picker then _ else if s.back && s.plain then _ else Res.err 12) = _
          rw [if_neg hp, if_neg h2]
        rw [e]
        exact plays_never.stepped
  | .name c t, b, hb => by
    rw [Pt.flat, Pt.run_name]
    exact (Tm.plays t b (fun h => by have := hb h; rw [Pt.back] at this; exact this)).stepped
theorem Tm.plays : ∀ (t : Tm) (b : Bool), (b = true → t.back = true) → Plays (t.flat b) (t.run b)
  | .nil, b, _ => by rw [Tm.flat, Tm.run_nil_fun]; exact plays_nil
  | .cons p t, false, _ => by
    rw [Tm.flat, Tm.run_fwd_fun]
    exact (Pt.plays p false (fun h => by cases h)).then (Tm.plays t false (fun h => by cases h))
  | .cons p t, true, hb => by
    have h := hb rfl
    rw [Tm.back, Bool.and_eq_true] at h
    rw [Tm.flat, Tm.run_bwd_fun]
    exact (Tm.plays t true (fun _ => h.2)).then (Pt.plays p true (fun _ => h.1))
end
theorem play_run (t:Tm) (l:List Rat) (f:Nat):playAll (t.flat false) ⟨l,[]⟩ f = match t.run false l f with
  | .err e=>.err e
  | .ok l' f'=>.ok ⟨l',[]⟩ f':=by
 have h:=Tm.plays t false (fun h=>by cases h) l [] f []
 rw [List.append_nil] at h
 rw [h]
 cases t.run false l f <;> rfl
def St.next (m n:Nat):St → Nat
 | .never=>m + 1
 | .aside=>n
 | .fetch=>n
 | .home=>n
 | .rest=>n + 1
 | .sp _=>n + 1
def lay (m:Nat):List St → Nat → List St
 | [],_=>[]
 | s :: l,n=>if m < n then [] else s :: lay m l (s.next m n)
theorem lay_full (m n:Nat) (h:m < n) (l:List St):lay m l n = []:=by
 cases l with
 | nil=>rfl
 | cons s l=>rw [lay,if_pos h]
theorem play_lay (m:Nat):∀ (l:List St) (d:Desk) (n f:Nat),n + f = m → playAll (lay m l n) d f = playAll l d f
 | [],d,n,f,_=>rfl
 | s :: l,d,n,f,h=>by
  rw [lay,if_neg (by omega)]
  cases s with
  | never=>rfl
  | aside=>exact play_lay m l _ n f h
  | fetch=>
   obtain ⟨cur,away⟩:=d
   cases away with
   | nil=>rfl
   | cons o a=>exact play_lay m l _ n f h
  | home=>
   obtain ⟨cur,away⟩:=d
   cases away with
   | nil=>rfl
   | cons at_ away=>
    cases away with
    | nil=>rfl
    | cons old more=>
     show (match (if cur.length = at_.length then PRes.ok ⟨layAt (places at_) cur old,more⟩ f else .err 11) with
      | .err e=>PRes.err e
      | .ok d' f'=>playAll (lay m l n) d' f') = match (if cur.length = at_.length then PRes.ok ⟨layAt (places at_) cur old,more⟩ f else .err 11) with
      | .err e=>PRes.err e
      | .ok d' f'=>playAll l d' f'
     by_cases hl:cur.length = at_.length
     ·rw [if_pos hl];exact play_lay m l _ n f h
     ·rw [if_neg hl]
  | rest=>
   cases f with
   | zero=>rfl
   | succ f=>exact play_lay m l d (n + 1) f (by omega)
  | sp x=>
   cases f with
   | zero=>rfl
   | succ f=>
    show (match (match x.work d.cur with
     | .error e=>PRes.err e
     | .ok l=>.ok { d with cur:=l } f) with
     | .err e=>PRes.err e
     | .ok d' f'=>playAll (lay m l (n + 1)) d' f') = (match (match x.work d.cur with
     | .error e=>PRes.err e
     | .ok l=>.ok { d with cur:=l } f) with
     | .err e=>PRes.err e
     | .ok d' f'=>playAll l d' f')
    cases x.work d.cur with
    | error e=>rfl
    | ok l'=>exact play_lay m l _ (n + 1) f (by omega)
end T
end Go.Proofs.YtikiaijgcjjloabGreatDoor

namespace Go.Proofs.YtikiaijgcjjloabGreatDoor
namespace T
def after (m:Nat):List St → Nat → Nat
 | [],n=>n
 | s :: l,n=>if m < n then n else after m l (s.next m n)
theorem after_full {m n:Nat} (h:m < n) (l:List St):after m l n = n:=by
 cases l with
 | nil=>rfl
 | cons s l=>rw [after,if_pos h]
theorem lay_append (m:Nat):∀ (a b:List St) (n:Nat),lay m (a ++ b) n = lay m a n ++ lay m b (after m a n)
 | [],b,n=>rfl
 | s :: a,b,n=>by
  rw [List.cons_append,lay,lay,after]
  by_cases h:m < n
  ·rw [if_pos h,if_pos h,if_pos h,lay_full m n h];rfl
  ·rw [if_neg h,if_neg h,if_neg h,lay_append m a b];rfl
theorem after_append (m:Nat):∀ (a b:List St) (n:Nat),after m (a ++ b) n = after m b (after m a n)
 | [],b,n=>rfl
 | s :: a,b,n=>by
  rw [List.cons_append,after,after]
  by_cases h:m < n
  ·rw [if_pos h,if_pos h,after_full h]
  ·rw [if_neg h,if_neg h,after_append m a b]
theorem after_le {m:Nat}:∀ (l:List St) (n:Nat),n ≤ m + 1 → after m l n ≤ m + 1
 | [],n,h=>h
 | s :: l,n,h=>by
  rw [after]
  by_cases h2:m < n
  ·rw [if_pos h2];exact h
  ·rw [if_neg h2]
   apply after_le l
   cases s <;> simp only [St.next] <;> omega
def Cr:Nat → List St → Prop
 | _,[]=>True
 | c,s :: l=>if s.free then ∃ d,c = d + 1 ∧ Cr d l else Cr (c + 3) l
def Cd (a:List St):Prop:=∀ (c:Nat) (more:List St),(∀ c',c ≤ c' → Cr c' more) → Cr c (a ++ more)
theorem Cd.nil:Cd []:=fun c _ h=>h c (Nat.le_refl _)
theorem Cd.append {a b:List St} (ha:Cd a) (hb:Cd b):Cd (a ++ b):=by
 intro c more h
 rw [List.append_assoc]
 exact ha c _ (fun c' hc=>hb c' more (fun c'' hc'=>h c'' (Nat.le_trans hc hc')))
theorem Cd.step {s:St} {a:List St} (hs:s.free = false) (ha:Cd a):Cd (s :: a):=by
 intro c more h
 show Cr c (s :: (a ++ more))
 rw [Cr,if_neg (by rw [hs];exact Bool.false_ne_true)]
 exact ha (c + 3) more (fun c' hc=>h c' (by omega))
theorem Cd.under {a b:List St} (ha:Cd a) (hb:Cd b):Cd (.rest :: .aside :: (a ++ .fetch :: (b ++ [.home]))):=by
 intro c more h
 have e:(St.rest :: .aside :: (a ++ .fetch :: (b ++ [.home]))) ++ more = .rest :: .aside :: (a ++ (.fetch :: (b ++ (.home :: more)))):=by simp
 rw [e]
 show Cr (c + 3) (.aside :: _)
 refine ⟨c + 2,rfl,ha (c + 2) _ (fun c' hc=>?_)⟩
 refine ⟨c' - 1,by omega,hb (c' - 1) _ (fun c'' hc'=>?_)⟩
 exact ⟨c'' - 1,by omega,h _ (by omega)⟩
theorem Cd.times {a:List St} (ha:Cd a):∀ k,Cd (List.replicate k (.rest :: a)).flatten
 | 0=>Cd.nil
 | k + 1=>by
  rw [List.replicate_succ,List.flatten_cons]
  exact (Cd.step rfl ha).append (Cd.times ha k)
mutual
theorem Pt.cd:∀ (p:Pt) (b:Bool),Cd (p.flat b)
 | .sp x,b=>by rw [Pt.flat];exact Cd.step rfl Cd.nil
 | .pow f k,b=>by
  rw [Pt.flat]
  by_cases h:(if b then -k else k) < 0 ∧ f.back = false
  ·rw [if_pos h]
   exact Cd.step (s:=.rest) rfl (Cd.step (s:=.never) rfl Cd.nil)
  ·rw [if_neg h]
   exact Cd.step (s:=.rest) rfl ((Tm.cd f _).times _)
 | .under s g,b=>by
  rw [Pt.flat]
  split
  ·exact (Tm.cd s false).under (Tm.cd g b)
  ·split
   ·exact Cd.step rfl ((Tm.cd s false).append ((Tm.cd g b).append (Tm.cd s true)))
   ·exact Cd.step rfl (Cd.step rfl Cd.nil)
 | .name c t,b=>by rw [Pt.flat];exact Cd.step rfl (Tm.cd t b)
theorem Tm.cd:∀ (t:Tm) (b:Bool),Cd (t.flat b)
 | .nil,b=>by rw [Tm.flat];exact Cd.nil
 | .cons p t,b=>by
  rw [Tm.flat]
  split
  ·exact (Tm.cd t b).append (Pt.cd p b)
  ·exact (Pt.cd p b).append (Tm.cd t b)
end
theorem lay_short {m:Nat}:∀ (l:List St) (n c:Nat),n ≤ m + 1 → Cr c l → (lay m l n).length ≤ c + 4 * (m + 1 - n)
 | [],n,c,_,_=>Nat.zero_le _
 | s :: l,n,c,h,hc=>by
  rw [lay]
  by_cases h2:m < n
  ·rw [if_pos h2];exact Nat.zero_le _
  ·rw [if_neg h2,List.length_cons]
   cases s with
   | never=>have h3:Cr (c + 3) l:=hc;have:=lay_short (m:=m) l (m + 1) (c + 3) (Nat.le_refl _) h3;rw [St.next];omega
   | rest=>have h3:Cr (c + 3) l:=hc;have:=lay_short (m:=m) l (n + 1) (c + 3) (by omega) h3;rw [St.next];omega
   | sp x=>have h3:Cr (c + 3) l:=hc;have:=lay_short (m:=m) l (n + 1) (c + 3) (by omega) h3;rw [St.next];omega
   | aside=>obtain ⟨d,rfl,hd⟩:∃ d,c = d + 1 ∧ Cr d l:=hc;have:=lay_short (m:=m) l n d h hd;rw [St.next];omega
   | fetch=>obtain ⟨d,rfl,hd⟩:∃ d,c = d + 1 ∧ Cr d l:=hc;have:=lay_short (m:=m) l n d h hd;rw [St.next];omega
   | home=>obtain ⟨d,rfl,hd⟩:∃ d,c = d + 1 ∧ Cr d l:=hc;have:=lay_short (m:=m) l n d h hd;rw [St.next];omega
theorem lay_run_short (t:Tm) (m:Nat):(lay m (t.flat false) 0).length ≤ 4 * (m + 1):=by
 have h:=Tm.cd t false 0 [] (fun _ _=>trivial)
 rw [List.append_nil] at h
 have:=lay_short (m:=m) _ 0 0 (by omega) h
 omega
theorem flat_of_fwd:∀ (ps:List Pt),(Tm.of ps).flat false = (ps.map (fun p=>p.flat false)).flatten
 | []=>by rw [Tm.of,Tm.flat];rfl
 | p :: ps=>by rw [Tm.of,Tm.flat,flat_of_fwd ps];rfl
theorem flat_of_bwd:∀ (ps:List Pt),(Tm.of ps).flat true = (ps.reverse.map (fun p=>p.flat true)).flatten
 | []=>by rw [Tm.of,Tm.flat];rfl
 | p :: ps=>by
  rw [Tm.of,Tm.flat,if_pos rfl,flat_of_bwd ps,List.reverse_cons,List.map_append,List.flatten_append]
  simp
def inOrder (b:Bool) (ps:List Pt):List Pt:=if b then ps.reverse else ps
theorem flat_of (b:Bool) (ps:List Pt):(Tm.of ps).flat b = ((inOrder b ps).map (fun p=>p.flat b)).flatten:=by
 cases b
 ·exact flat_of_fwd ps
 ·exact flat_of_bwd ps
theorem inOrder_length (b:Bool) (ps:List Pt):(inOrder b ps).length = ps.length:=by cases b <;> simp [inOrder]
theorem inOrder_get (b:Bool) (ps:List Pt) (i:Nat) (h:i < (inOrder b ps).length) (h2:(if b then ps.length - 1 - i else i) < ps.length):(inOrder b ps)[i] = ps[if b then ps.length - 1 - i else i]:=by
 cases b
 ·rfl
 ·exact List.getElem_reverse (by simpa [inOrder] using h)
def flatTo (b:Bool) (ps:List Pt) (i:Nat):List St:=(((inOrder b ps).take i).map (fun p=>p.flat b)).flatten
theorem flatTo_succ (b:Bool) (ps:List Pt) (i:Nat) (h:i < (inOrder b ps).length):flatTo b ps (i + 1) = flatTo b ps i ++ ((inOrder b ps)[i]).flat b:=by
 unfold flatTo
 rw [List.take_succ_eq_append_getElem h,List.map_append,List.flatten_append]
 simp
theorem flatTo_all (b:Bool) (ps:List Pt) {i:Nat} (h:ps.length ≤ i):flatTo b ps i = (Tm.of ps).flat b:=by
 unfold flatTo
 rw [List.take_of_length_le (by rw [inOrder_length];exact h),flat_of]
theorem flatTo_more (b:Bool) (ps:List Pt) (i:Nat):∃ l,(Tm.of ps).flat b = flatTo b ps i ++ l:=by
 refine ⟨(((inOrder b ps).drop i).map (fun p=>p.flat b)).flatten,?_⟩
 rw [flat_of]
 unfold flatTo
 rw [← List.flatten_append,← List.map_append,List.take_append_drop]
end T
end Go.Proofs.YtikiaijgcjjloabGreatDoor

namespace Go.Proofs.YtikiaijgcjjloabGreatDoor
open Go Go.RowKit M Go.Lib
theorem root_pos (y:Nat) (b:Int) (h:(y:Int) * y = b) (hb:1 ≤ b):1 ≤ y:=by
 rcases Nat.eq_zero_or_pos y with h0 | h0
 ·subst h0;simp at h;omega
 ·exact h0
set_option maxRecDepth 100000 in
set_option maxHeartbeats 400000 in
theorem nRoot_any (t b:Int) (w:World) (h1:-1000000000 ≤ t) (h2:t ≤ 1000000000) (h3:1 ≤ b) (h4:b ≤ 1000000000) :
  Calls Tryz.prog 117 #[.agg #[.int .i64 t,.int .i64 b]] w fun e w'=>((∃ x y:Nat,(x:Int) * x = t ∧ (y:Int) * y = b ∧ e = .returned (.tuple #[.agg #[.int .i64 x,.int .i64 y],.int .i64 0])) ∨ ((noRoot t ∨ noRoot b) ∧ e = .returned (.tuple #[.agg #[.int .i64 0,.int .i64 0],.int .i64 2]))) ∧ Below w.heap.size w w':=by
 go_enter Tryz.func117,Tryz.ntmps117
 go_wp2_with fail
 refine (wholeRoot_any t _ h2 h1).mono ?_
 rintro e w' ⟨⟨x,hx,rfl⟩ | ⟨hx,rfl⟩,rfl⟩
 ·have HX:=hide hx
  clear hx
  go_wp2_with fail
  refine (wholeRoot_any b _ h4 (by omega)).mono ?_
  rintro e w' ⟨⟨y,hy,rfl⟩ | ⟨hy,rfl⟩,rfl⟩
  ·have HY:=hide hy
   clear hy
   go_wp2_with fail
   exact bodyPost_ret (v:=.tuple #[.agg #[.int .i64 x,.int .i64 y],.int .i64 0]) (by simp [results,Tryz.results117,go_sem]) rfl ⟨Or.inl ⟨x,y,unhide HX,unhide HY,rfl⟩,(by repeat (first | exact Below.refl _ _ | refine below_dr ?_ _ | refine Below.drew ?_ | refine Below.setCell ?_ (by simp) _ | refine Below.alloc ?_ (by simp) _))⟩
  ·have HY:=hide hy
   clear hy
   go_wp2_with fail
   exact bodyPost_ret (v:=.tuple #[.agg #[.int .i64 0,.int .i64 0],.int .i64 2]) (by simp [results,Tryz.results117,go_sem]) rfl ⟨Or.inr ⟨Or.inr (unhide HY),rfl⟩,(by repeat (first | exact Below.refl _ _ | refine below_dr ?_ _ | refine Below.drew ?_ | refine Below.setCell ?_ (by simp) _ | refine Below.alloc ?_ (by simp) _))⟩
 ·have HX:=hide hx
  clear hx
  go_wp2_with fail
  refine (wholeRoot_any b _ h4 (by omega)).mono ?_
  rintro e w' ⟨⟨y,hy,rfl⟩ | ⟨hy,rfl⟩,rfl⟩
  all_goals
   clear hy
   go_wp2_with fail
   exact bodyPost_ret (v:=.tuple #[.agg #[.int .i64 0,.int .i64 0],.int .i64 2]) (by simp [results,Tryz.results117,go_sem]) rfl ⟨Or.inr ⟨Or.inl (unhide HX),rfl⟩,(by repeat (first | exact Below.refl _ _ | refine below_dr ?_ _ | refine Below.drew ?_ | refine Below.setCell ?_ (by simp) _ | refine Below.alloc ?_ (by simp) _))⟩
set_option maxRecDepth 100000 in
set_option maxHeartbeats 400000 in
theorem rSqrt_any (t b:Int) (w:World) (h2:t ≤ 1000000000) (h4:b ≤ 1000000000) :
  Calls Tryz.prog 118 #[.agg #[.int .i64 t,.int .i64 b]] w fun e w'=>((∃ x y:Nat,(x:Int) * x = t ∧ (y:Int) * y = b ∧ e = .returned (.tuple #[.agg #[.int .i64 x,.int .i64 y],.int .i64 0])) ∨ ((noRoot t ∨ noRoot b) ∧ e = .returned (.tuple #[.agg #[.int .i64 0,.int .i64 1],.int .i64 2]))) ∧ Below w.heap.size w w':=by
 go_enter Tryz.func118,Tryz.ntmps118
 go_wp2_with fail
 refine (side_any t _ h2).mono ?_
 rintro e w' ⟨⟨x,hx,rfl⟩ | ⟨hx,rfl⟩,rfl⟩
 ·have HX:=hide hx
  clear hx
  go_wp2_with fail
  refine (side_any b _ h4).mono ?_
  rintro e w' ⟨⟨y,hy,rfl⟩ | ⟨hy,rfl⟩,rfl⟩
  ·have HY:=hide hy
   clear hy
   have hx0:¬ (x:Int) < 0:=by omega
   have hy0:¬ (y:Int) < 0:=by omega
   go_wp2_with fail
   exact bodyPost_ret (v:=.tuple #[.agg #[.int .i64 x,.int .i64 y],.int .i64 0]) (by simp [results,Tryz.results118,go_sem]) rfl ⟨Or.inl ⟨x,y,unhide HX,unhide HY,rfl⟩,(by repeat (first | exact Below.refl _ _ | refine below_dr ?_ _ | refine Below.drew ?_ | refine Below.setCell ?_ (by simp) _ | refine Below.alloc ?_ (by simp) _))⟩
  ·have HY:=hide hy
   clear hy
   have hx0:¬ (x:Int) < 0:=by omega
   go_wp2_with fail
   exact bodyPost_ret (v:=.tuple #[.agg #[.int .i64 0,.int .i64 1],.int .i64 2]) (by simp [results,Tryz.results118,go_sem]) rfl ⟨Or.inr ⟨Or.inr (unhide HY),rfl⟩,(by repeat (first | exact Below.refl _ _ | refine below_dr ?_ _ | refine Below.drew ?_ | refine Below.setCell ?_ (by simp) _ | refine Below.alloc ?_ (by simp) _))⟩
 ·have HX:=hide hx
  clear hx
  go_wp2_with fail
  refine (side_any b _ h4).mono ?_
  rintro e w' ⟨⟨y,hy,rfl⟩ | ⟨hy,rfl⟩,rfl⟩
  all_goals
   clear hy
   go_wp2_with fail
   exact bodyPost_ret (v:=.tuple #[.agg #[.int .i64 0,.int .i64 1],.int .i64 2]) (by simp [results,Tryz.results118,go_sem]) rfl ⟨Or.inr ⟨Or.inl (unhide HX),rfl⟩,(by repeat (first | exact Below.refl _ _ | refine below_dr ?_ _ | refine Below.drew ?_ | refine Below.setCell ?_ (by simp) _ | refine Below.alloc ?_ (by simp) _))⟩
theorem fl_two {w w1:World} {o:Obj} (hb:Below (w.alloc o).heap.size (w.alloc o) w1):Below w.heap.size w w1:=((Below.refl _ _).alloc (Nat.le_refl _) _).trans (hb.mono (by simp))
set_option maxRecDepth 100000 in
set_option maxHeartbeats 400000 in
theorem write_ok (p q:Int) (w:World) (h1:-1000000000 ≤ p) (h2:p ≤ 1000000000) (h3:1 ≤ q) (h4:q ≤ 1000000000) (ht:Tab w) :
  Calls Tryz.prog 109 #[.agg #[.int .i64 p,.int .i64 q],.int .i64 0] w fun e w'=>e = .returned (.tuple #[.string ⟨(numText p q).toArray⟩,.int .i64 0]) ∧ Below w.heap.size w w':=by
 have HT:=hide ht
 clear ht
 go_enter Tryz.func109,Tryz.ntmps109
 go_wp2_with fail
 refine (Text_any p q _ h1 h2 h3 h4 (tab_alloc (unhide HT) _)).mono ?_
 rintro e w1 ⟨rfl,hb⟩
 go_wp2_with fail
 go_ret2
 exact ⟨rfl,fl_two hb⟩
set_option maxRecDepth 100000 in
set_option maxHeartbeats 400000 in
theorem write_err (p q c:Int) (w:World) (hc:(c != 0) = true) :
  Calls Tryz.prog 109 #[.agg #[.int .i64 p,.int .i64 q],.int .i64 c] w fun e w'=>e = .returned (.tuple #[.string ⟨#[]⟩,.int .i64 c]) ∧ Below w.heap.size w w':=by
 go_enter Tryz.func109,Tryz.ntmps109
 go_wp2_with fail
 go_ret2
 exact ⟨rfl,(by repeat (first | exact Below.refl _ _ | refine below_dr ?_ _ | refine Below.drew ?_ | refine Below.setCell ?_ (by simp) _ | refine Below.alloc ?_ (by simp) _))⟩
set_option maxRecDepth 100000 in
set_option maxHeartbeats 400000 in
theorem told_ok (p q:Int) (w:World) (h1:-1000000000 ≤ p) (h2:p ≤ 1000000000) (h3:1 ≤ q) (h4:q ≤ 1000000000) :
  Calls Tryz.prog 112 #[.agg #[.int .i64 p,.int .i64 q],.int .i64 0] w fun e w'=>e = .returned (.tuple #[.string ⟨(numText p q).toArray⟩,.int .i64 0]) ∧ Below w.heap.size w w':=by
 go_enter Tryz.func112,Tryz.ntmps112
 go_wp2_with fail
 refine (rText_any p q _ h1 h2 h3 h4).mono ?_
 rintro e w1 ⟨rfl,hb⟩
 go_wp2_with fail
 go_ret2
 exact ⟨rfl,fl_two hb⟩
set_option maxRecDepth 100000 in
set_option maxHeartbeats 400000 in
theorem told_err (p q c:Int) (w:World) (hc:(c != 0) = true) :
  Calls Tryz.prog 112 #[.agg #[.int .i64 p,.int .i64 q],.int .i64 c] w fun e w'=>e = .returned (.tuple #[.string ⟨#[]⟩,.int .i64 c]) ∧ Below w.heap.size w w':=by
 go_enter Tryz.func112,Tryz.ntmps112
 go_wp2_with fail
 go_ret2
 exact ⟨rfl,(by repeat (first | exact Below.refl _ _ | refine below_dr ?_ _ | refine Below.drew ?_ | refine Below.setCell ?_ (by simp) _ | refine Below.alloc ?_ (by simp) _))⟩
def Ans1 (F:Int → Int → List UInt8 → Int → Prop) (s:ByteArray) (e:Ending):Prop :=
 ∃ r c,e = .returned (.tuple #[.string ⟨List.toArray r⟩,.int .i64 c]) ∧ (((∀ t b,¬ IsNum s.data.toList t b) ∧ r = [] ∧ c = 1) ∨ ∃ t b,IsNum s.data.toList t b ∧ F t b r c)
def OverF (t b:Int) (r:List UInt8) (c:Int):Prop:=(t = 0 ∧ r = [] ∧ c = 2) ∨ (t ≠ 0 ∧ r = numText (overP t b) (overQ t b) ∧ c = 0)
def RootF (t b:Int) (r:List UInt8) (c:Int):Prop:=(∃ x y:Nat,(x:Int) * x = t ∧ (y:Int) * y = b ∧ r = numText x y ∧ c = 0) ∨ ((noRoot t ∨ noRoot b) ∧ r = [] ∧ c = 2)
set_option maxRecDepth 100000 in
set_option maxHeartbeats 400000 in
theorem Over_any (s:ByteArray) (w:World) (hs:s.size ≤ maxLen) (ht:Tab w) :
  Calls Tryz.prog 74 #[.string s] w fun e w'=>Ans1 OverF s e ∧ Below w.heap.size w w':=by
 have HT:=hide ht
 clear ht
 go_enter Tryz.func74,Tryz.ntmps74
 go_wp2_with fail
 refine (Read_any s _ hs).mono ?_
 rintro e w1 ⟨⟨t,b,hn,rfl⟩ | ⟨hn,rfl⟩,hb1⟩
 ·have HN:=hide hn
  have i1:=hn.lo;have i2:=hn.hi;have i3:=hn.b1;have i4:=hn.b2
  clear hn
  go_wp2_with fail
  refine (nOver_any t b _ i1 i2 i3 i4).mono ?_
  rintro e w2 ⟨⟨h0,rfl⟩ | ⟨h0,rfl⟩,hb2⟩
  ·have H0:=hide h0
   clear h0
   go_wp2_with fail
   refine (write_err 0 0 2 _ rfl).mono ?_
   rintro e w3 ⟨rfl,hb3⟩
   go_wp2_with fail
   go_ret2
   exact ⟨⟨[],2,rfl,Or.inr ⟨t,b,unhide HN,Or.inl ⟨unhide H0,rfl,rfl⟩⟩⟩,(hb1.trans ((fl_two hb2).mono hb1.size)).trans ((fl_two hb3).mono (by have:=(fl_two hb2).size;have:=hb1.size;omega))⟩
  ·have H0:=hide h0
   clear h0
   obtain ⟨j1,j2,j3,j4⟩:=over_bd t b i1 i2 i3 i4 (unhide H0)
   go_wp2_with fail
   refine (write_ok (overP t b) (overQ t b) _ j1 j2 j3 j4 (tab_alloc (tab_below (tab_below (unhide HT) hb1) (fl_two hb2)) _)).mono ?_
   rintro e w3 ⟨rfl,hb3⟩
   go_wp2_with fail
   go_ret2
   exact ⟨⟨_,0,rfl,Or.inr ⟨t,b,unhide HN,Or.inr ⟨unhide H0,rfl,rfl⟩⟩⟩,(hb1.trans ((fl_two hb2).mono hb1.size)).trans ((fl_two hb3).mono (by have:=(fl_two hb2).size;have:=hb1.size;omega))⟩
 ·have HN:=hide hn
  clear hn
  go_wp2_with fail
  go_ret2
  exact ⟨⟨[],1,rfl,Or.inl ⟨unhide HN,rfl,rfl⟩⟩,hb1.trans (((Below.refl _ _).alloc (Nat.le_refl _) _).mono hb1.size)⟩
end Go.Proofs.YtikiaijgcjjloabGreatDoor

import Derived.Test.YtikiaijgcjjloabGreatDoorPart27
import Derived.Deep.DeepCutAuto
import Derived.Deep.RegionWith

namespace Go.Proofs.YtikiaijgcjjloabGreatDoor
open Go Go.RowKit M T Go.Lib
def joins (J:Rat → Rat → Rat → Except Int Rat):Rat → Rat → List Rat → Except Int (List Rat)
 | _,_,[]=>.ok []
 | o,n,x :: l=>match J o n x with
  | .error e=>.error e
  | .ok y=>match joins J x y l with
   | .error e=>.error e
   | .ok ys=>.ok (y :: ys)
def joinL (J:Rat → Rat → Rat → Except Int Rat):List Rat → Except Int (List Rat)
 | []=>.ok []
 | x :: l=>match joins J x x l with
  | .error e=>.error e
  | .ok ys=>.ok (x :: ys)
theorem joins_scan (f:Rat → Rat → Except Int Rat):∀ (l:List Rat) (o n:Rat),joins (fun _ n x=>f n x) o n l = scan f n l
 | [],_,_=>rfl
 | x :: l,o,n=>by
  rw [joins,scan]
  cases f n x with
  | error e=>rfl
  | ok y=>
   dsimp only
   rw [joins_scan f l x y]
   cases scan f y l <;> rfl
theorem joins_diff (f:Rat → Rat → Except Int Rat):∀ (l:List Rat) (o n:Rat),joins (fun o _ x=>f o x) o n l = diff f o l
 | [],_,_=>rfl
 | x :: l,o,n=>by
  rw [joins,diff]
  cases f o x with
  | error e=>rfl
  | ok y=>
   dsimp only
   rw [joins_diff f l x y]
   cases diff f x l <;> rfl
theorem joinL_scan (f:Rat → Rat → Except Int Rat) (l:List Rat):joinL (fun _ n x=>f n x) l = headed (scan f) l:=by
 cases l with
 | nil=>rfl
 | cons x l=>rw [joinL,headed,joins_scan];cases scan f x l <;> rfl
theorem joinL_diff (f:Rat → Rat → Except Int Rat) (l:List Rat):joinL (fun o _ x=>f o x) l = headed (diff f) l:=by
 cases l with
 | nil=>rfl
 | cons x l=>rw [joinL,headed,joins_diff];cases diff f x l <;> rfl
theorem joins_more (J:Rat → Rat → Rat → Except Int Rat):∀ (a:List Rat) (o n:Rat) (ys:List Rat) (x:Rat) (b:List Rat),joins J o n a = .ok ys → joins J o n (a ++ x :: b) = match J ((o :: a).getLast (by simp)) ((n :: ys).getLast (by simp)) x with
  | .error e=>.error e
  | .ok y=>match joins J x y b with
   | .error e=>.error e
   | .ok zs=>.ok (ys ++ y :: zs)
 | [],o,n,ys,x,b,h=>by
  cases h
  rw [List.nil_append,joins]
  rfl
 | u :: a,o,n,ys,x,b,h=>by
  rw [joins] at h
  cases hJ:J o n u with
  | error e=>rw [hJ] at h;cases h
  | ok y=>
   rw [hJ] at h
   cases hs:joins J u y a with
   | error e=>simp only [hs] at h;cases h
   | ok zs=>
    simp only [hs] at h
    cases h
    rw [List.cons_append,joins,hJ]
    simp only []
    rw [joins_more J a u y zs x b hs,show (o :: u :: a).getLast (by simp) = (u :: a).getLast (by simp) from List.getLast_cons (by simp),show (n :: y :: zs).getLast (by simp) = (y :: zs).getLast (by simp) from List.getLast_cons (by simp)]
    cases J ((u :: a).getLast (by simp)) ((y :: zs).getLast (by simp)) x with
    | error e=>rfl
    | ok q=>
     dsimp only
     cases joins J x q b <;> rfl
theorem joinL_len {J:Rat → Rat → Rat → Except Int Rat} {l ys:List Rat} (h:joinL J l = .ok ys):ys.length = l.length:=by
 have key:∀ (l ys:List Rat) (o n:Rat),joins J o n l = .ok ys → ys.length = l.length:=by
  intro l
  induction l with
  | nil=>intro ys o n h;cases h;rfl
  | cons x l ih=>
   intro ys o n h
   rw [joins] at h
   cases hJ:J o n x with
   | error e=>rw [hJ] at h;cases h
   | ok y=>
    rw [hJ] at h
    cases hs:joins J x y l with
    | error e=>simp only [hs] at h;cases h
    | ok zs=>simp only [hs] at h;cases h;rw [List.length_cons,List.length_cons,ih zs x y hs]
 cases l with
 | nil=>cases h;rfl
 | cons x l=>
  rw [joinL] at h
  cases hs:joins J x x l with
  | error e=>rw [hs] at h;cases h
  | ok zs=>rw [hs] at h;cases h;rw [List.length_cons,List.length_cons,key l zs x x hs]
theorem joinL_next {J:Rat → Rat → Rat → Except Int Rat} {l ys:List Rat} {i:Nat} (hi:i + 1 < l.length) (h:joinL J (l.take (i + 1)) = .ok ys) (hy:i < ys.length) :
  (∀ y,J l[i] ys[i] l[i + 1] = .ok y → joinL J (l.take (i + 1 + 1)) = .ok (ys ++ [y])) ∧ (∀ c,J l[i] ys[i] l[i + 1] = .error c → joinL J l = .error c):=by
 have hyl:=joinL_len h
 rw [List.length_take] at hyl
 cases l with
 | nil=>simp at hi
 | cons x0 l=>
  rw [List.take_succ_cons] at h
  rw [joinL] at h
  cases hs:joins J x0 x0 (l.take i) with
  | error e=>rw [hs] at h;cases h
  | ok zs=>
   rw [hs] at h
   cases h
   have hil:i < l.length:=by simpa using hi
   have g1:(x0 :: l.take i).getLast (by simp) = (x0 :: l)[i]:=by
    rw [List.getLast_eq_getElem]
    simp only [List.length_cons,List.length_take,Nat.add_sub_cancel,Nat.min_eq_left (Nat.le_of_lt hil)]
    cases i with
    | zero=>rfl
    | succ i=>simp
   have g2:(x0 :: zs).getLast (by simp) = (x0 :: zs)[i]:=by
    rw [List.getLast_eq_getElem]
    have:zs.length = i:=by simp at hyl;omega
    simp [this]
   have g3:(x0 :: l)[i + 1] = l[i]:=rfl
   refine ⟨fun y hyy=>?_,fun c hcc=>?_⟩
   ·rw [List.take_succ_cons,List.take_succ_eq_append_getElem hil,joinL,joins_more J (l.take i) x0 x0 zs l[i] [] hs,g1,g2]
    rw [g3] at hyy
    rw [hyy]
    rfl
   ·have e:l = l.take i ++ l[i] :: l.drop (i + 1):=by
     rw [← List.drop_eq_getElem_cons hil,List.take_append_drop]
    have:joins J x0 x0 l = .error c:=by
     conv=>lhs;rw [e]
     rw [joins_more J (l.take i) x0 x0 zs l[i] (l.drop (i + 1)) hs,g1,g2]
     rw [g3] at hcc
     rw [hcc]
    rw [joinL,this]
theorem joinL_first {J:Rat → Rat → Rat → Except Int Rat} {l:List Rat} (h:0 < l.length):joinL J (l.take 1) = .ok [l[0]]:=by
 cases l with
 | nil=>simp at h
 | cons x l=>rfl
def subJ (o x:Rat):Except Int Rat:=lim (x + -o)
theorem subJ_eq (o x:Rat):subJ o x = subE o x:=by rw [subJ,subE,Rat.sub_eq_add_neg]
theorem res_at {w1 wb:World} {k:Nat} {c:Array Value} {T:TypeId} (h:wb.heap[k]? = some (.cells c T (0,0))) (hb:Below wb.heap.size wb w1):w1.heap[k]? = some (.cells c T (0,0)):=by
 rw [hb.block _ (lt_of_block h)];exact h
set_option maxRecDepth 100000 in
set_option maxHeartbeats 800000 in
theorem divide_any {x o:Rat} (hx:small x = true) (ho:small o = true) (w:World):Calls Tryz.prog 186 #[qv x,qv o] w fun e w'=>QGot (divE o x) e ∧ Below w.heap.size w w':=by
 rw [qv,qv]
 have HX:=hide hx
 have HO:=hide ho
 clear hx ho
 go_enter Tryz.func186,Tryz.ntmps186
 go_wp2_with fail
 refine (qOver (unhide HO) _).mono ?_
 rintro e w1 ⟨hq,hb1⟩
 obtain ⟨hc1,hf1,hbw⟩:=res2 hb1
 have hc0:∀ i,w1.cell? ⟨w.heap.size,i,none⟩ = (#[.int .i64 x.num,.int .i64 (x.den:Int)]:Array Value)[i]?:=fun i=>blk_cell (res_at (show (((w.alloc (.cells #[.int .i64 x.num,.int .i64 (x.den:Int)] 80)).alloc (.cells #[.int .i64 o.num,.int .i64 (o.den:Int)] 80)).alloc (.cells #[.int .i64 0,.int .i64 0] 80)).heap[w.heap.size]? = some (.cells #[.int .i64 x.num,.int .i64 (x.den:Int)] 80 (0,0)) by rw [Below.heap_alloc _ _ _ (by simp;omega),Below.heap_alloc _ _ _ (by simp)];exact heap_alloc_new w _) hb1) i
 have hlt:w.heap.size + 1 + 1 < w1.heap.size:=by have:=hb1.size;simp at this;omega
 have hlt0:w.heap.size < w1.heap.size:=by omega
 have HB:=hide hbw
 clear hb1 hbw
 rcases hq with ⟨z,hz,hs,rfl⟩ | ⟨c,hz,hne,rfl⟩
 ·obtain ⟨h0,rfl⟩:o ≠ 0 ∧ z = o⁻¹:=by
   unfold overE at hz
   split at hz
   ·cases hz
   ·rename_i h;exact ⟨h,(Except.ok.inj hz).symm⟩
  have HE:=hide (show divE o x = lim (x * o⁻¹) from if_neg h0)
  have HS:=hide hs
  clear hz hs h0
  generalize o⁻¹ = z at HE HS
  rw [qv]
  go_wp2_with fail
  refine (qTimes (unhide HX) (unhide HS) _).mono ?_
  rintro e w2 ⟨hq,hb2⟩
  have hlt2:w.heap.size + 1 + 1 < (w1.alloc (.cells #[.int .i64 z.num,.int .i64 (z.den:Int)] 80)).heap.size:=by simp;omega
  have hc2:∀ i,w2.cell? ⟨w.heap.size + 1 + 1,i,none⟩ = (#[.int .i64 0,.int .i64 0]:Array Value)[i]?:=fun i=>(hb2.cell (p:=⟨w.heap.size + 1 + 1,i,none⟩) hlt2).trans ((((Below.refl w1.heap.size w1).alloc (Nat.le_refl _) _).cell (p:=⟨w.heap.size + 1 + 1,i,none⟩) hlt).trans (hc1 i))
  have hf2:∀ i,w2.frozen? ⟨w.heap.size + 1 + 1,i,none⟩ = false:=fun i=>(hb2.frozen (p:=⟨w.heap.size + 1 + 1,i,none⟩) hlt2).trans ((((Below.refl w1.heap.size w1).alloc (Nat.le_refl _) _).frozen (p:=⟨w.heap.size + 1 + 1,i,none⟩) hlt).trans (hf1 i))
  have hbz:=(unhide HB).alloc (unhide HB).size (.cells #[.int .i64 z.num,.int .i64 (z.den:Int)] 80)
  have HB2:=hide (hbz.trans (hb2.mono hbz.size))
  clear hb2 hc1 hf1 hc0 hbz
  rcases hq with ⟨q,hz,hs,rfl⟩ | ⟨c,hz,hne,rfl⟩
  ·have HZ:=hide hz
   have HS2:=hide hs
   clear hz hs
   rw [qv]
   go_wp2_with fail
   exact bodyPost_ret (v:=.tuple #[qv q,.int .i64 0]) (by simp [results,Tryz.results186,go_sem,hc2,qv]) rfl ⟨Or.inl ⟨q,(unhide HE).trans (unhide HZ),unhide HS2,rfl⟩,Below.setCell (p:=⟨w.heap.size + 1 + 1,1,none⟩) (Below.setCell (p:=⟨w.heap.size + 1 + 1,0,none⟩) (unhide HB2) (Nat.le_add_right _ 2) _) (Nat.le_add_right _ 2) _⟩
  ·have HZ:=hide hz
   have HN:=hide hne
   clear hz hne
   go_wp2_with fail
   exact bodyPost_ret (v:=.tuple #[.agg #[.int .i64 0,.int .i64 0],.int .i64 c]) (by simp [results,Tryz.results186,go_sem,hc2]) rfl ⟨Or.inr ⟨c,(unhide HE).trans (unhide HZ),unhide HN,rfl⟩,Below.setCell (p:=⟨w.heap.size + 1 + 1,1,none⟩) (Below.setCell (p:=⟨w.heap.size + 1 + 1,0,none⟩) (unhide HB2) (Nat.le_add_right _ 2) _) (Nat.le_add_right _ 2) _⟩
 ·obtain ⟨h0,rfl⟩:o = 0 ∧ c = 2:=by
   unfold overE at hz
   split at hz
   ·rename_i h;exact ⟨h,(Except.error.inj hz).symm⟩
   ·cases hz
  have HE:=hide (show divE o x = .error 2 from if_pos h0)
  clear hz hne h0
  go_wp2_with fail
  have hst:=Below.setCell (p:=⟨w.heap.size + 1 + 1,1,none⟩) (Below.setCell (p:=⟨w.heap.size + 1 + 1,0,none⟩) (unhide HB) (Nat.le_add_right _ 2) (.int .i64 0)) (Nat.le_add_right _ 2) (.int .i64 0)
  have hne:w1.heap.size ≠ w.heap.size + 1 + 1:=by omega
  exact bodyPost_ret (v:=.tuple #[.agg #[.int .i64 0,.int .i64 0],.int .i64 2]) (by simp [results,Tryz.results186,go_sem,hc1,hlt]) rfl ⟨Or.inr ⟨2,unhide HE,by decide,rfl⟩,hst.alloc hst.size _⟩
theorem res3 {w w1:World} {o1 o2 o3:Obj} {c:Array Value} {T:TypeId} (hb:Below ((((w.alloc o1).alloc o2).alloc o3).alloc (.cells c T)).heap.size ((((w.alloc o1).alloc o2).alloc o3).alloc (.cells c T)) w1):(∀ i,w1.cell? ⟨w.heap.size + 1 + 1 + 1,i,none⟩ = c[i]?) ∧ (∀ i,w1.frozen? ⟨w.heap.size + 1 + 1 + 1,i,none⟩ = false) ∧ Below w.heap.size w w1 ∧ w.heap.size + 1 + 1 + 1 < w1.heap.size:=by
 have hs:((((w.alloc o1).alloc o2).alloc o3).alloc (.cells c T)).heap.size = w.heap.size + 4:=by simp
 have hn:=heap_alloc_new (((w.alloc o1).alloc o2).alloc o3) (.cells c T)
 rw [World.size_alloc,World.size_alloc,World.size_alloc] at hn
 have hblk:w1.heap[w.heap.size + 1 + 1 + 1]? = some (.cells c T (0,0)):=by rw [hb.block _ (by omega)];exact hn
 exact ⟨fun i=>blk_cell hblk i,fun i=>blk_free hblk i,(((((Below.refl _ _).alloc (Nat.le_refl _) _).alloc (by simp) _).alloc (by simp;omega) _).alloc (by simp;omega) _).trans (hb.mono (by omega)),lt_of_block hblk⟩
set_option maxRecDepth 100000 in
set_option maxHeartbeats 800000 in
theorem two_s {o n x:Rat} (ho:small o = true) (hn:small n = true) (hx:small x = true) (w:World):Calls Tryz.prog 181 #[qv o,qv n,qv x,.int .u8 115] w fun e w'=>QGot (addE n x) e ∧ Below w.heap.size w w':=by
 rw [qv,qv,qv]
 have HO:=hide ho
 have HN:=hide hn
 have HX:=hide hx
 clear ho hn hx
 go_enter Tryz.func181,Tryz.ntmps181
 go_wp2_with fail
 refine (qPlus (unhide HN) (unhide HX) _).mono ?_
 rintro e w1 ⟨hq,hb1⟩
 obtain ⟨hc1,hf1,hbw,_⟩:=res3 hb1
 have HB:=hide hbw
 clear hb1 hbw
 rcases hq with ⟨z,hz,hs,rfl⟩ | ⟨c0,hz,hne,rfl⟩
 ·have HZ:=hide hz
  have HS:=hide hs
  clear hz hs
  rw [qv]
  go_wp2_with fail
  exact bodyPost_ret (v:=.tuple #[qv z,.int .i64 0]) (by simp [results,Tryz.results181,go_sem,hc1,qv]) rfl ⟨Or.inl ⟨z,unhide HZ,unhide HS,rfl⟩,Below.setCell (p:=⟨w.heap.size + 1 + 1 + 1,1,none⟩) (Below.setCell (p:=⟨w.heap.size + 1 + 1 + 1,0,none⟩) (unhide HB) (Nat.le_add_right _ 3) _) (Nat.le_add_right _ 3) _⟩
 ·have HZ:=hide hz
  have HNe:=hide hne
  clear hz hne
  go_wp2_with fail
  exact bodyPost_ret (v:=.tuple #[.agg #[.int .i64 0,.int .i64 0],.int .i64 c0]) (by simp [results,Tryz.results181,go_sem,hc1]) rfl ⟨Or.inr ⟨c0,unhide HZ,unhide HNe,rfl⟩,Below.setCell (p:=⟨w.heap.size + 1 + 1 + 1,1,none⟩) (Below.setCell (p:=⟨w.heap.size + 1 + 1 + 1,0,none⟩) (unhide HB) (Nat.le_add_right _ 3) _) (Nat.le_add_right _ 3) _⟩
set_option maxRecDepth 100000 in
set_option maxHeartbeats 800000 in
theorem two_p {o n x:Rat} (ho:small o = true) (hn:small n = true) (hx:small x = true) (w:World):Calls Tryz.prog 181 #[qv o,qv n,qv x,.int .u8 112] w fun e w'=>QGot (mulE n x) e ∧ Below w.heap.size w w':=by
 rw [qv,qv,qv]
 have HO:=hide ho
 have HN:=hide hn
 have HX:=hide hx
 clear ho hn hx
 go_enter Tryz.func181,Tryz.ntmps181
 go_wp2_with fail
 refine (qTimes (unhide HN) (unhide HX) _).mono ?_
 rintro e w1 ⟨hq,hb1⟩
 obtain ⟨hc1,hf1,hbw,_⟩:=res3 hb1
 have HB:=hide hbw
 clear hb1 hbw
 rcases hq with ⟨z,hz,hs,rfl⟩ | ⟨c0,hz,hne,rfl⟩
 ·have HZ:=hide hz
  have HS:=hide hs
  clear hz hs
  rw [qv]
  go_wp2_with fail
  exact bodyPost_ret (v:=.tuple #[qv z,.int .i64 0]) (by simp [results,Tryz.results181,go_sem,hc1,qv]) rfl ⟨Or.inl ⟨z,unhide HZ,unhide HS,rfl⟩,Below.setCell (p:=⟨w.heap.size + 1 + 1 + 1,1,none⟩) (Below.setCell (p:=⟨w.heap.size + 1 + 1 + 1,0,none⟩) (unhide HB) (Nat.le_add_right _ 3) _) (Nat.le_add_right _ 3) _⟩
 ·have HZ:=hide hz
  have HNe:=hide hne
  clear hz hne
  go_wp2_with fail
  exact bodyPost_ret (v:=.tuple #[.agg #[.int .i64 0,.int .i64 0],.int .i64 c0]) (by simp [results,Tryz.results181,go_sem,hc1]) rfl ⟨Or.inr ⟨c0,unhide HZ,unhide HNe,rfl⟩,Below.setCell (p:=⟨w.heap.size + 1 + 1 + 1,1,none⟩) (Below.setCell (p:=⟨w.heap.size + 1 + 1 + 1,0,none⟩) (unhide HB) (Nat.le_add_right _ 3) _) (Nat.le_add_right _ 3) _⟩
set_option maxRecDepth 100000 in
set_option maxHeartbeats 800000 in
theorem two_m {o n x:Rat} (ho:small o = true) (hn:small n = true) (hx:small x = true) (w:World):Calls Tryz.prog 181 #[qv o,qv n,qv x,.int .u8 109] w fun e w'=>QGot (mulE n x) e ∧ Below w.heap.size w w':=by
 rw [qv,qv,qv]
 have HO:=hide ho
 have HN:=hide hn
 have HX:=hide hx
 clear ho hn hx
 go_enter Tryz.func181,Tryz.ntmps181
 go_wp2_with fail
 refine (qTimes (unhide HN) (unhide HX) _).mono ?_
 rintro e w1 ⟨hq,hb1⟩
 obtain ⟨hc1,hf1,hbw,_⟩:=res3 hb1
 have HB:=hide hbw
 clear hb1 hbw
 rcases hq with ⟨z,hz,hs,rfl⟩ | ⟨c0,hz,hne,rfl⟩
 ·have HZ:=hide hz
  have HS:=hide hs
  clear hz hs
  rw [qv]
  go_wp2_with fail
  exact bodyPost_ret (v:=.tuple #[qv z,.int .i64 0]) (by simp [results,Tryz.results181,go_sem,hc1,qv]) rfl ⟨Or.inl ⟨z,unhide HZ,unhide HS,rfl⟩,Below.setCell (p:=⟨w.heap.size + 1 + 1 + 1,1,none⟩) (Below.setCell (p:=⟨w.heap.size + 1 + 1 + 1,0,none⟩) (unhide HB) (Nat.le_add_right _ 3) _) (Nat.le_add_right _ 3) _⟩
 ·have HZ:=hide hz
  have HNe:=hide hne
  clear hz hne
  go_wp2_with fail
  exact bodyPost_ret (v:=.tuple #[.agg #[.int .i64 0,.int .i64 0],.int .i64 c0]) (by simp [results,Tryz.results181,go_sem,hc1]) rfl ⟨Or.inr ⟨c0,unhide HZ,unhide HNe,rfl⟩,Below.setCell (p:=⟨w.heap.size + 1 + 1 + 1,1,none⟩) (Below.setCell (p:=⟨w.heap.size + 1 + 1 + 1,0,none⟩) (unhide HB) (Nat.le_add_right _ 3) _) (Nat.le_add_right _ 3) _⟩
set_option maxRecDepth 100000 in
set_option maxHeartbeats 800000 in
theorem two_o {o n x:Rat} (ho:small o = true) (hn:small n = true) (hx:small x = true) (w:World):Calls Tryz.prog 181 #[qv o,qv n,qv x,.int .u8 111] w fun e w'=>QGot (divE o x) e ∧ Below w.heap.size w w':=by
 rw [qv,qv,qv]
 have HO:=hide ho
 have HN:=hide hn
 have HX:=hide hx
 clear ho hn hx
 go_enter Tryz.func181,Tryz.ntmps181
 go_wp2_with fail
 refine (divide_any (unhide HX) (unhide HO) _).mono ?_
 rintro e w1 ⟨hq,hb1⟩
 obtain ⟨hc1,hf1,hbw,_⟩:=res3 hb1
 have HB:=hide hbw
 clear hb1 hbw
 rcases hq with ⟨z,hz,hs,rfl⟩ | ⟨c0,hz,hne,rfl⟩
 ·have HZ:=hide hz
  have HS:=hide hs
  clear hz hs
  rw [qv]
  go_wp2_with fail
  exact bodyPost_ret (v:=.tuple #[qv z,.int .i64 0]) (by simp [results,Tryz.results181,go_sem,hc1,qv]) rfl ⟨Or.inl ⟨z,unhide HZ,unhide HS,rfl⟩,Below.setCell (p:=⟨w.heap.size + 1 + 1 + 1,1,none⟩) (Below.setCell (p:=⟨w.heap.size + 1 + 1 + 1,0,none⟩) (unhide HB) (Nat.le_add_right _ 3) _) (Nat.le_add_right _ 3) _⟩
 ·have HZ:=hide hz
  have HNe:=hide hne
  clear hz hne
  go_wp2_with fail
  exact bodyPost_ret (v:=.tuple #[.agg #[.int .i64 0,.int .i64 0],.int .i64 c0]) (by simp [results,Tryz.results181,go_sem,hc1]) rfl ⟨Or.inr ⟨c0,unhide HZ,unhide HNe,rfl⟩,Below.setCell (p:=⟨w.heap.size + 1 + 1 + 1,1,none⟩) (Below.setCell (p:=⟨w.heap.size + 1 + 1 + 1,0,none⟩) (unhide HB) (Nat.le_add_right _ 3) _) (Nat.le_add_right _ 3) _⟩
def QFlat (r:Except Int Rat) (p q c:Int):Prop:=(∃ z,r = .ok z ∧ small z = true ∧ p = z.num ∧ q = (z.den:Int) ∧ c = 0) ∨ (∃ c',r = .error c' ∧ c' ≠ 0 ∧ p = 0 ∧ q = 0 ∧ c = c')
theorem QGot.flat {r:Except Int Rat} {e:Ending} (h:QGot r e):∃ p q c,e = .returned (.tuple #[.agg #[.int .i64 p,.int .i64 q],.int .i64 c]) ∧ QFlat r p q c:=by
 rcases h with ⟨z,hz,hs,rfl⟩ | ⟨c,hz,hne,rfl⟩
 ·exact ⟨z.num,z.den,0,rfl,Or.inl ⟨z,hz,hs,rfl,rfl,rfl⟩⟩
 ·exact ⟨0,0,c,rfl,Or.inr ⟨c,hz,hne,rfl,rfl,rfl⟩⟩
theorem QFlat.got {r:Except Int Rat} {p q c:Int} (h:QFlat r p q c):QGot r (.returned (.tuple #[.agg #[.int .i64 p,.int .i64 q],.int .i64 c])):=by
 rcases h with ⟨z,hz,hs,rfl,rfl,rfl⟩ | ⟨c',hz,hne,rfl,rfl,rfl⟩
 ·exact Or.inl ⟨z,hz,hs,rfl⟩
 ·exact Or.inr ⟨c,hz,hne,rfl⟩
theorem zfacts {w wb w1:World} {cx:Array Value} {a b:Nat} (hx:wb.heap[a]? = some (.cells cx 80 (0,0))) (hr:wb.heap[b]? = some (.cells #[.int .i64 0,.int .i64 0] 80 (0,0))) (hw:Below w.heap.size w wb) (hb:Below wb.heap.size wb w1) :
  w1.heap[a]? = some (.cells cx 80 (0,0)) ∧ w1.heap[b]? = some (.cells #[.int .i64 0,.int .i64 0] 80 (0,0)) ∧ Below w.heap.size w w1 :=
 ⟨res_at hx hb,res_at hr hb,hw.trans (hb.mono hw.size)⟩
set_option maxRecDepth 100000 in
set_option maxHeartbeats 1600000 in
theorem two_z {o n x:Rat} (ho:small o = true) (hx:small x = true) (w:World):Calls Tryz.prog 181 #[qv o,qv n,qv x,.int .u8 122] w fun e w'=>QGot (subE o x) e ∧ Below w.heap.size w w':=by
 rw [qv,qv,qv]
 rw [← subJ_eq,subJ]
 have HO:=hide ho
 have HX:=hide hx
 have h2:(((((w.alloc (.cells #[.int .i64 o.num,.int .i64 (o.den:Int)] 80)).alloc (.cells #[.int .i64 n.num,.int .i64 (n.den:Int)] 80)).alloc (.cells #[.int .i64 x.num,.int .i64 (x.den:Int)] 80)).alloc (.cells #[.int .i64 0,.int .i64 0] 80))).heap[w.heap.size + 1 + 1]? = some (.cells #[.int .i64 x.num,.int .i64 (x.den:Int)] 80 (0,0)):=by
  rw [Below.heap_alloc _ _ _ (by simp)]
  have:=heap_alloc_new ((w.alloc (.cells #[.int .i64 o.num,.int .i64 (o.den:Int)] 80)).alloc (.cells #[.int .i64 n.num,.int .i64 (n.den:Int)] 80)) (.cells #[.int .i64 x.num,.int .i64 (x.den:Int)] 80)
  rw [World.size_alloc,World.size_alloc] at this
  exact this
 have h3:(((((w.alloc (.cells #[.int .i64 o.num,.int .i64 (o.den:Int)] 80)).alloc (.cells #[.int .i64 n.num,.int .i64 (n.den:Int)] 80)).alloc (.cells #[.int .i64 x.num,.int .i64 (x.den:Int)] 80)).alloc (.cells #[.int .i64 0,.int .i64 0] 80))).heap[w.heap.size + 1 + 1 + 1]? = some (.cells #[.int .i64 0,.int .i64 0] 80 (0,0)):=by
  have:=heap_alloc_new (((w.alloc (.cells #[.int .i64 o.num,.int .i64 (o.den:Int)] 80)).alloc (.cells #[.int .i64 n.num,.int .i64 (n.den:Int)] 80)).alloc (.cells #[.int .i64 x.num,.int .i64 (x.den:Int)] 80)) (.cells #[.int .i64 0,.int .i64 0] 80)
  rw [World.size_alloc,World.size_alloc,World.size_alloc] at this
  exact this
 have hw4:Below w.heap.size w (((((w.alloc (.cells #[.int .i64 o.num,.int .i64 (o.den:Int)] 80)).alloc (.cells #[.int .i64 n.num,.int .i64 (n.den:Int)] 80)).alloc (.cells #[.int .i64 x.num,.int .i64 (x.den:Int)] 80)).alloc (.cells #[.int .i64 0,.int .i64 0] 80))):=((((Below.refl _ _).alloc (Nat.le_refl _) _).alloc (by simp) _).alloc (by simp;omega) _).alloc (by simp;omega) _
 have H2:=hide (show (((((w.alloc (.cells #[.int .i64 o.num,.int .i64 (o.den:Int)] 80)).alloc (.cells #[.int .i64 n.num,.int .i64 (n.den:Int)] 80)).alloc (.cells #[.int .i64 x.num,.int .i64 (x.den:Int)] 80)).alloc (.cells #[.int .i64 0,.int .i64 0] 80))).drew.heap[w.heap.size + 1 + 1]? = some (.cells #[.int .i64 x.num,.int .i64 (x.den:Int)] 80 (0,0)) from h2)
 have H3:=hide (show (((((w.alloc (.cells #[.int .i64 o.num,.int .i64 (o.den:Int)] 80)).alloc (.cells #[.int .i64 n.num,.int .i64 (n.den:Int)] 80)).alloc (.cells #[.int .i64 x.num,.int .i64 (x.den:Int)] 80)).alloc (.cells #[.int .i64 0,.int .i64 0] 80))).drew.heap[w.heap.size + 1 + 1 + 1]? = some (.cells #[.int .i64 0,.int .i64 0] 80 (0,0)) from h3)
 have H4d:=hide (Below.drew hw4)
 clear ho hx h2 h3 hw4
 go_enter Tryz.func181,Tryz.ntmps181
 go_upto_region 5 with fail
 go_region_with (first | (go_at_call 56;refine (qNeg (unhide HO) _).mono ?_;rintro e w1 ⟨rfl,hb1⟩;obtain ⟨k2,k3,kb⟩:=zfacts (unhide H2) (unhide H3) (unhide H4d) hb1;have c2:=blk_cell k2;have HK3:=hide k3;have HKb:=hide kb;clear hb1 k2 k3 kb;rw [qv]) | (go_at_call 108;refine (qPlus (unhide HX) (neg_small (unhide HO)) _).mono ?_;rintro e w2 ⟨hq,hb2⟩;obtain ⟨p,q,c,rfl,hfl⟩:=hq.flat;have k3:=res_at (unhide HK3) hb2;have c3:=blk_cell k3;have f3:=blk_free k3;have HFl:=hide hfl;have HB:=hide ((unhide HKb).trans (hb2.mono (unhide HKb).size));clear hb2 k3 hfl hq))
 all_goals go_wp2_with fail
 all_goals exact bodyPost_ret (v:=.tuple #[.agg #[.int .i64 p,.int .i64 q],.int .i64 c]) (by simp [results,Tryz.results181,go_sem,c3]) rfl ⟨(unhide HFl).got,Below.setCell (p:=⟨w.heap.size + 1 + 1 + 1,1,none⟩) (Below.setCell (p:=⟨w.heap.size + 1 + 1 + 1,0,none⟩) (unhide HB) (Nat.le_add_right _ 3) _) (Nat.le_add_right _ 3) _⟩
theorem zero_iff:∀ l:List Rat,zeroAhead l = true ↔ ∃ i,∃ (h:i + 1 < l.length),l[i] = 0
 | []=>by
  constructor
  ·intro h;cases h
  ·rintro ⟨i,h,_⟩;simp at h
 | [x]=>by
  constructor
  ·intro h;cases h
  ·rintro ⟨i,h,_⟩;simp at h
 | x :: y :: l=>by
  rw [zeroAhead_cons,Bool.or_eq_true,zero_iff (y :: l)]
  constructor
  ·rintro (h | ⟨i,h,e⟩)
   ·exact ⟨0,by simp,by simpa using h⟩
   ·exact ⟨i + 1,by simpa using h,by simpa using e⟩
  ·rintro ⟨i,h,e⟩
   cases i with
   | zero=>exact Or.inl (by simpa using e)
   | succ i=>exact Or.inr ⟨i,by simpa using h,by simpa using e⟩
set_option maxRecDepth 100000 in
set_option maxHeartbeats 1600000 in
theorem hasZero_any {g cap:Nat} {xs:List Rat} {w:World} (h:LIs w g cap xs) :
  Calls Tryz.prog 180 #[.slice (some ⟨g,0,none⟩) xs.length cap] w fun e w'=>e = .returned (.bool (zeroAhead xs)) ∧ Below w.heap.size w w':=by
 have HL:=hide h
 have hg:=h.lt
 have hlen:=h.len
 clear h
 go_enter Tryz.func180,Tryz.ntmps180
 go_wp2_with fail
 go_loopg [7] xs.length (fun kk v7 wr=>∃ (i:Nat),kk = xs.length - i ∧ i ≤ xs.length ∧ v7 = .int .i64 (i:Int) ∧ (∀ j (h:j + 1 < xs.length),j < i → xs[j] ≠ 0) ∧ Below w.heap.size w wr)
 case atStart=>exact ⟨0,rfl,Nat.zero_le _,rfl,fun j _ h=>absurd h (Nat.not_lt_zero _),Below.refl _ _⟩
 case round=>
  obtain ⟨i,hk,hi,rfl,hno,hb⟩:=hrel
  have HK:=hide hk
  have HNo:=hide hno
  have HB:=hide hb
  clear hk hno
  by_cases hlt:i < xs.length
  ·have hlt':(i:Int) < (xs.length:Int):=by omega
   obtain ⟨d0,d1⟩:=(unhide HL).cell hlt
   have hgr:∀ o,wr.cell? ⟨g,o,none⟩ = w.cell? ⟨g,o,none⟩:=fun o=>hb.cell (p:=⟨g,o,none⟩) hg
   rw [← hgr] at d0 d1
   have hbx:=hb.alloc hb.size (.cells #[.int .i64 xs[i].num,.int .i64 (xs[i].den:Int)] 80)
   have HBx:=hide hbx
   clear hgr hb hbx
   by_cases hl1:i + 1 < xs.length
   ·have hl2:(i:Int) < (xs.length:Int) - 1:=by omega
    have HYes:=hide (fun (h0:xs[i] = 0)=>(zero_iff xs).2 ⟨i,hl1,h0⟩)
    have HNx:=hide (fun (h0:xs[i] ≠ 0)=>show ∀ j (h:j + 1 < xs.length),j < i + 1 → xs[j] ≠ 0 from fun j h hj=>by
     rcases Nat.lt_or_ge j i with h1 | h1
     ·exact unhide HNo j h h1
     ·have e:j = i:=by omega
      subst e;exact h0)
    generalize xs[i] = x at d0 d1 HYes HNx HBx
    go_wp2_with fail
    refine (qZero x _).mono ?_
    rintro e w1 ⟨rfl,hb1⟩
    have HB1:=hide ((unhide HBx).trans (hb1.mono (unhide HBx).size))
    clear hb1
    by_cases h0:x = 0
    ·rw [show decide (x = 0) = true from decide_eq_true h0]
     have HZ:=hide (unhide HYes h0)
     clear h0
     go_wp2_with fail
     go_ret
     exact ⟨by rw [unhide HZ];rfl,unhide HB1⟩
    ·rw [show decide (x = 0) = false from decide_eq_false h0]
     have HZ:=hide (unhide HNx h0)
     clear h0
     go_wp2_with fail
     go_roundg (xs.length - (i + 1))
     case measure=>rw [unhide HK];omega
     case rel=>exact ⟨i + 1,rfl,by omega,rfl,unhide HZ,unhide HB1⟩
   ·have hl2:¬ (i:Int) < (xs.length:Int) - 1:=by omega
    have HNx:=hide (show ∀ j (h:j + 1 < xs.length),j < i + 1 → xs[j] ≠ 0 from fun j h hj=>unhide HNo j h (by omega))
    generalize xs[i] = x at d0 d1 HBx
    go_wp2_with fail
    go_roundg (xs.length - (i + 1))
    case measure=>rw [unhide HK];omega
    case rel=>exact ⟨i + 1,rfl,by omega,rfl,unhide HNx,unhide HBx⟩
  ·have hlt':¬ (i:Int) < (xs.length:Int):=by omega
   have HZ:=hide (show zeroAhead xs = false by
    cases hz:zeroAhead xs with
    | false=>rfl
    | true=>
     obtain ⟨j,hj,e⟩:=(zero_iff xs).1 hz
     exact absurd e (unhide HNo j hj (by omega)))
   go_wp2_with fail
   go_ret
   exact ⟨by rw [unhide HZ];rfl,unhide HB⟩
end Go.Proofs.YtikiaijgcjjloabGreatDoor

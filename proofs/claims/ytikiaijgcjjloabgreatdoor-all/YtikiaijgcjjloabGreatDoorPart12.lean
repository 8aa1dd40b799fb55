import Derived.Test.YtikiaijgcjjloabGreatDoorPart11
import Derived.Test.YtikiaijgcjjloabGreatDoorPart7
import Derived.Deep.CutBlock

namespace Go.Proofs.YtikiaijgcjjloabGreatDoor
open Go Go.RowKit M T Go.Lib
def ncells (nm:Nat → Option Nat):Array Value:=#[ptr (nm 0),ptr (nm 1),ptr (nm 2),ptr (nm 3),ptr (nm 4),ptr (nm 5),ptr (nm 6),ptr (nm 7),ptr (nm 8),ptr (nm 9),ptr (nm 10),ptr (nm 11),ptr (nm 12),ptr (nm 13),ptr (nm 14),ptr (nm 15),ptr (nm 16),ptr (nm 17),ptr (nm 18),ptr (nm 19),ptr (nm 20),ptr (nm 21),ptr (nm 22),ptr (nm 23),ptr (nm 24),ptr (nm 25)]
structure EnvOk (env:Env):Prop where
 wf:env.wf
 dom:∀ c:UInt8,(c.toNat < 65 ∨ 90 < c.toNat) → env c = none
def ReadT (env:Env) (s:List UInt8) (e:Ending) (w':World):Prop :=
 (∃ c,Check env s c ∧ e = .returned (.tuple #[.pointer none,.int .i64 c])) ∨ ∃ t tb,T.Good env s t ∧ TmIs (fun _=>True) w' tb t ∧ e = .returned (.tuple #[.pointer (some ⟨tb,0,none⟩),.int .i64 0])
theorem rest_zero (s:ByteArray):rest s 0 = s.data.toList:=by unfold rest;simp
theorem rest_eq_nil {s:ByteArray} {b:Nat} (h:b ≤ s.size):rest s b = [] ↔ b = s.size:=by
 have:=rest_len s b
 constructor
 ·intro e;rw [e] at this;simp at this;omega
 ·intro e;exact rest_ge (by omega)
theorem Tryz.infoNames:(Tryz.prog.info? 46).map (·.size) = some 26:=by kernel_rfl
theorem Tryz.infoReader:(Tryz.prog.info? 77).map (·.size) = some 29:=by kernel_rfl
theorem built_reader (s:ByteArray) (nm:Nat → Option Nat):Tryz.prog.built 77 [(0,.string s),(2,.agg (ncells nm))] = some (rcells s nm 0 false):=by kernel_rfl
theorem rcells_one (s:ByteArray) (nm:Nat → Option Nat) (a:Nat) (u:Bool):(rcells s nm a u).all (·.oneCell') = true:=by simp [rcells,ptr,Value.oneCell']
theorem wpList_build_is {P:Program} {ops:Array Oper} {rest:List Oper} {o:Oper} {a:Act} {w:World} {Q:Exit → Act → World → Prop} (hg:o.guard = none) (t:TypeId) (parts:Array (Nat × Operand)) (ho:o.op = .build t parts) (vs:List (Nat × Value)) (hv:(parts.map fun (i,x)=>(i,a.eval x)).toList = vs) (cs:Array Value) (hb:P.built t vs = some cs) (h:wpList P ops Q rest (a.put o.dst (.agg cs)) w):wpList P ops Q (o :: rest) a w :=
 wpList_build hg t parts ho (by rw [hv,hb];rfl) (by rw [hv,hb];exact h)
set_option maxRecDepth 100000 in
set_option maxHeartbeats 1600000 in
theorem tRead_long {env:Env} (s:ByteArray) (nm:Nat → Option Nat) (w:World) (hl:120 < s.size) :
  Calls Tryz.prog 18 #[.string s,.agg (ncells nm)] w fun e w'=>ReadT env s.data.toList e w' ∧ Below w.heap.size w w':=by
 have HC:=hide (show Check env s.data.toList 5 from Or.inl ⟨hl,rfl⟩)
 have hl':(120:Int) < (s.size:Int):=by omega
 go_enter Tryz.func18,Tryz.ntmps18
 go_wp2_with fail
 exact bodyPost_ret (v:=.tuple #[.pointer none,.int .i64 5]) (by simp [results,Tryz.results18,go_sem]) rfl ⟨Or.inl ⟨5,unhide HC,rfl⟩,(by repeat (first | exact Below.refl _ _ | refine below_dr ?_ _ | refine Below.drew ?_ | refine Below.setCell ?_ (by simp) _ | refine Below.alloc ?_ (by simp) _))⟩
theorem new_at (w:World) (o o':Obj):((w.alloc o).alloc o').heap[w.heap.size + 1]? = some o':=by
 have:=heap_alloc_new (w.alloc o) o'
 rw [World.size_alloc] at this
 exact this
theorem setRow_heap_ne (w:World) {g k:Nat} (cs:Array Value) (h:k ≠ g):(w.setRow g cs).heap[k]? = w.heap[k]?:=setRow_other w g k cs h
theorem read_start {env:Env} {s:ByteArray} {nm:Nat → Option Nat} {w:World} (hn:NmIs w.heap.size w nm env) (z:Array Value) {T:TypeId}:RS (w.heap.size + 1) s nm 0 false (((w.alloc (.cells (ncells nm) T)).alloc (.cells z 77)).setRow (w.heap.size + 1) (rcells s nm 0 false)) ∧ NmIs w.heap.size (((w.alloc (.cells (ncells nm) T)).alloc (.cells z 77)).setRow (w.heap.size + 1) (rcells s nm 0 false)) nm env ∧ Below w.heap.size w (((w.alloc (.cells (ncells nm) T)).alloc (.cells z 77)).setRow (w.heap.size + 1) (rcells s nm 0 false)) ∧ (((w.alloc (.cells (ncells nm) T)).alloc (.cells z 77)).setRow (w.heap.size + 1) (rcells s nm 0 false)).heap.size = w.heap.size + 2:=by
 have hold:∀ k,k < w.heap.size → (((w.alloc (.cells (ncells nm) T)).alloc (.cells z 77)).setRow (w.heap.size + 1) (rcells s nm 0 false)).heap[k]? = w.heap[k]?:=fun k hk=>by
  rw [setRow_heap_ne _ _ (by omega),Below.heap_alloc _ _ _ (by simp;omega),Below.heap_alloc _ _ _ hk]
 refine ⟨⟨setRow_heap _ _ z _ _ _ (new_at w _ _)⟩,⟨fun c h1 h2 b hb=>?_,hn.unknown⟩,⟨rfl,rfl,rfl,by simp;omega,hold⟩,by simp⟩
 obtain ⟨t,a1,a2,a3⟩:=hn.known c h1 h2 b hb
 exact ⟨t,a1,a2,a3.keeps (fun k hk _=>⟨hold k hk,hk⟩)⟩
set_option maxRecDepth 100000 in
set_option maxHeartbeats 1600000 in
theorem tRead_any {env:Env} (he:EnvOk env) (s:ByteArray) (nm:Nat → Option Nat) (w:World) (hn:NmIs w.heap.size w nm env) :
  Calls Tryz.prog 18 #[.string s,.agg (ncells nm)] w fun e w'=>ReadT env s.data.toList e w' ∧ Below w.heap.size w w':=by
 by_cases hl:120 < s.size
 ·exact tRead_long s nm w hl
 ·have hl':¬ (120:Int) < (s.size:Int):=by omega
  have HN:=hide hn
  have HL:=hide hl
  have hE:=hide he
  clear hn hl he
  go_enter Tryz.func18,Tryz.ntmps18
  go_upto_region 3 with fail
  go_wp2_with (first | (refine wpList_load_row rfl 46 (.tmp 3) rfl w.heap.size rfl 46 (ncells nm) (0,0) _ (heap_alloc_new w _) Tryz.underlying46 rfl Tryz.infoNames ?_) | (refine wpList_build_is rfl 77 #[(0,.tmp 12),(2,.tmp 13)] rfl [(0,.string s),(2,.agg (ncells nm))] (by simp [Act.eval,Act.put]) (rcells s nm 0 false) (built_reader s nm) ?_) | (refine wpList_store_row rfl 77 (.tmp 6) (.tmp 14) rfl (w.heap.size + 1) (rcells s nm 0 false) rfl rfl 77 _ (new_at w _ _) Tryz.infoReader rfl (rcells_one _ _ _ _) ?_))
  have hs:s.size ≤ 120:=by have:=unhide HL;omega
  refine (read_all (m:=s.size) hs (Nat.le_succ w.heap.size) 0 false _ (read_start (unhide HN) _).1 (Nat.zero_le _) (by omega) (read_start (unhide HN) _).2.1 (by rw [(read_start (unhide HN) _).2.2.2];omega)).mono ?_
  rintro e w1 ⟨hb1,b,u',hb,h1,⟨t,tb,rfl,hr,ht,hu⟩ | ⟨rfl,hr⟩⟩
  ·rw [rest_zero] at hr
   have hP:=h1.pos
   have hU:=h1.unk
   have HB1:=hide ((read_start (unhide HN) _).2.2.1.trans (hb1.below (B:=w.heap.size) (by rw [(read_start (unhide HN) _).2.2.2];omega) (by omega)))
   have HTm:=hide (TmIs.keeps (Ok':=fun _=>True) ht (fun k _ _=>⟨rfl,trivial⟩))
   by_cases hbs:b = s.size
   ·have hne:((b:Int) != (s.size:Int)) = false:=by rw [hbs];simp
    have hnil:rest s b = []:=rest_ge (by omega)
    rw [hnil] at hr
    cases u' with
    | false=>
     have hg:=rdT_good (env:=env) hr (by simpa using hu.symm)
     have HG:=hide hg
     clear hg hr hu ht h1 hb1 hbs hnil
     go_wp2_with fail
     exact bodyPost_ret (v:=.tuple #[.pointer (some ⟨tb,0,none⟩),.int .i64 0]) (by simp [results,Tryz.results18,go_sem]) rfl ⟨Or.inr ⟨t,tb,⟨hs,unhide HG⟩,unhide HTm,rfl⟩,unhide HB1⟩
    | true=>
     have hg:Check env s.data.toList 7:=Or.inr (Or.inr ⟨hs,rdT_shape hr,rdT_unk hr (by simpa using hu.symm),rfl⟩)
     have HG:=hide hg
     clear hg hr hu ht h1 hb1 hbs hnil
     go_wp2_with fail
     exact bodyPost_ret (v:=.tuple #[.pointer none,.int .i64 7]) (by simp [results,Tryz.results18,go_sem]) rfl ⟨Or.inl ⟨7,unhide HG,rfl⟩,unhide HB1⟩
   ·have hne:((b:Int) != (s.size:Int)) = true:=by rw [bne_iff_ne];omega
    have hg:Check env s.data.toList 6:=Or.inr (Or.inl ⟨hs,rdT_noshape (unhide hE).wf hr (fun t' e=>by
     simp only [Option.some.injEq,Prod.mk.injEq] at e
     exact hbs ((rest_eq_nil hb).1 e.2)),rfl⟩)
    have HG:=hide hg
    clear hg hr hu ht h1 hb1 hbs
    go_wp2_with fail
    exact bodyPost_ret (v:=.tuple #[.pointer none,.int .i64 6]) (by simp [results,Tryz.results18,go_sem]) rfl ⟨Or.inl ⟨6,unhide HG,rfl⟩,unhide HB1⟩
  ·rw [rest_zero] at hr
   have HB1:=hide ((read_start (unhide HN) _).2.2.1.trans (hb1.below (B:=w.heap.size) (by rw [(read_start (unhide HN) _).2.2.2];omega) (by omega)))
   have hg:Check env s.data.toList 6:=Or.inr (Or.inl ⟨hs,rdT_noshape (unhide hE).wf hr (fun t' e=>by cases e),rfl⟩)
   have HG:=hide hg
   clear hg hr h1 hb1
   go_wp2_with fail
   exact bodyPost_ret (v:=.tuple #[.pointer none,.int .i64 6]) (by simp [results,Tryz.results18,go_sem]) rfl ⟨Or.inl ⟨6,unhide HG,rfl⟩,unhide HB1⟩
theorem ncells_get (nm:Nat → Option Nat):∀ i,i < 26 → (ncells nm)[i]? = some (ptr (nm i))
 | 0,_=>rfl | 1,_=>rfl | 2,_=>rfl | 3,_=>rfl | 4,_=>rfl | 5,_=>rfl | 6,_=>rfl | 7,_=>rfl | 8,_=>rfl | 9,_=>rfl | 10,_=>rfl | 11,_=>rfl | 12,_=>rfl | 13,_=>rfl | 14,_=>rfl | 15,_=>rfl | 16,_=>rfl | 17,_=>rfl | 18,_=>rfl | 19,_=>rfl | 20,_=>rfl | 21,_=>rfl | 22,_=>rfl | 23,_=>rfl | 24,_=>rfl | 25,_=>rfl
 | n + 26,h=>by omega
def nmPut (nm:Nat → Option Nat) (i:Nat) (b:Nat):Nat → Option Nat:=fun j=>if j = i then some b else nm j
theorem ncells_set (nm:Nat → Option Nat) (b:Nat):∀ i,i < 26 → (ncells nm).setIfInBounds i (ptr (some b)) = ncells (nmPut nm i b)
 | 0,_=>rfl | 1,_=>rfl | 2,_=>rfl | 3,_=>rfl | 4,_=>rfl | 5,_=>rfl | 6,_=>rfl | 7,_=>rfl | 8,_=>rfl | 9,_=>rfl | 10,_=>rfl | 11,_=>rfl | 12,_=>rfl | 13,_=>rfl | 14,_=>rfl | 15,_=>rfl | 16,_=>rfl | 17,_=>rfl | 18,_=>rfl | 19,_=>rfl | 20,_=>rfl | 21,_=>rfl | 22,_=>rfl | 23,_=>rfl | 24,_=>rfl | 25,_=>rfl
 | n + 26,h=>by omega
structure SesIs (w:World) (xb:Nat) (nm:Nat → Option Nat) (env:Env):Prop where
 blk:w.heap[xb]? = some (.cells (ncells nm) 48 (0,0))
 names:NmIs w.heap.size w nm env
 env:EnvOk env
theorem SesIs.below {w w':World} {xb:Nat} {nm:Nat → Option Nat} {env:Env} (h:SesIs w xb nm env) (hb:Below w.heap.size w w'):SesIs w' xb nm env :=
 ⟨by rw [hb.block xb (lt_of_block h.blk)];exact h.blk,⟨fun c h1 h2 b hb'=>by
  obtain ⟨t,a1,a2,a3⟩:=h.names.known c h1 h2 b hb'
  exact ⟨t,a1,a2,a3.keeps (fun k hk _=>⟨hb.block k hk,Nat.lt_of_lt_of_le hk hb.size⟩)⟩,h.names.unknown⟩,h.env⟩
def noEnv:Env:=fun _=>none
theorem noEnv_ok:EnvOk noEnv:=⟨fun c b h=>(by cases h),fun _ _=>rfl⟩
set_option maxRecDepth 100000 in
set_option maxHeartbeats 800000 in
theorem new_any (w:World):Calls Tryz.prog 17 #[] w fun e w'=>e = .returned (.pointer (some ⟨w.heap.size,0,none⟩)) ∧ w' = w.alloc (.cells (ncells fun _=>none) 48):=by
 go_enter Tryz.func17,Tryz.ntmps17
 go_wp2_with fail
 go_ret
 exact ⟨rfl,rfl⟩
theorem new_SesIs (w:World):SesIs (w.alloc (.cells (ncells fun _=>none) 48)) w.heap.size (fun _=>none) noEnv :=
 ⟨heap_alloc_new w _,⟨fun c _ _ b h=>(by cases h),fun _ _ _ _=>rfl⟩,noEnv_ok⟩
set_option maxRecDepth 100000 in
set_option maxHeartbeats 1600000 in
theorem facts_any {env:Env} (s:ByteArray) {xb:Nat} {nm:Nat → Option Nat} (w:World) (h:SesIs w xb nm env) :
  Calls Tryz.prog 9 #[.pointer (some ⟨xb,0,none⟩),.string s] w fun e w'=>∃ n c,e = .returned (.tuple #[.int .i64 n,.int .i64 c]) ∧ FactsSays env s.data.toList n c ∧ Below w.heap.size w w':=by
 have hblk:=h.blk
 have H:=hide h
 clear h
 go_enter Tryz.func9,Tryz.ntmps9
 go_wp2_with (refine wpList_load_row rfl 46 (.tmp 13) rfl xb rfl 48 (ncells nm) (0,0) _ hblk Tryz.underlying46 rfl Tryz.infoNames ?_)
 refine (tRead_any (unhide H).env s nm _ (unhide H).names).mono ?_
 rintro e w1 ⟨⟨c,hc,rfl⟩ | ⟨t,tb,hg,ht,rfl⟩,hb1⟩
 ·have HC:=hide hc
  have HB1:=hide hb1
  have hne:(c != 0) = true:=by rw [bne_iff_ne];exact hc.ne
  clear hc hb1
  go_wp2_with fail
  exact bodyPost_ret (v:=.tuple #[.int .i64 0,.int .i64 c]) (by simp [results,Tryz.results9,go_sem]) rfl ⟨0,c,rfl,Or.inl ⟨unhide HC,rfl⟩,unhide HB1⟩
 ·obtain ⟨c1,c2,c3,c4⟩:=ht.cells
  have HG:=hide hg
  have HB1:=hide hb1
  have HF:=hide (show factsNum t = (if t.back then 1 else 0) + (if t.picker then 2 else 0) + (if t.plain then 4 else 0) from rfl)
  clear hg ht hb1 hblk
  generalize hx1:t.back = f1 at c2 HF
  generalize hx2:t.picker = f2 at c3 HF
  generalize hx3:t.plain = f3 at c4 HF
  clear hx1 hx2 hx3
  cases f1 <;> cases f2 <;> cases f3
  all_goals
   go_wp2_with fail
   exact bodyPost_ret (v:=.tuple #[.int .i64 (factsNum t),.int .i64 0]) (by rw [unhide HF];simp [results,Tryz.results9,go_sem]) rfl ⟨factsNum t,0,rfl,Or.inr ⟨t,unhide HG,rfl,rfl⟩,unhide HB1⟩
def Ty (w:World) (k:Nat):Prop:=∃ c ty,w.heap[k]? = some (.cells c ty (0,0)) ∧ ty ≠ 48
theorem owns_ty {w:World} {e:TypeId} {size:Nat} {v:Value} {n:Nat} {xs:List Value} (h:w.ownsRow 0 e size v n xs) (he:e ≠ 48):∀ g,v.ownBlock = some g → Ty w g:=by
 intro g hg
 rcases h.2 with ⟨h2,_⟩ | ⟨g',cap,cur,hv,_,hh,_⟩
 ·rw [h2] at hg;cases hg
 ·rw [hv] at hg;cases hg
  exact ⟨cur,e,hh,he⟩
theorem Hd.typed {Ok:Nat → Prop} {w:World} {b:Nat} {t:Tm} {sl:Value} {xs:List PC} (h:Hd Ok w b t sl xs):Hd (fun k=>Ok k ∧ Ty w k) w b t sl xs :=
 ⟨⟨h.ok,_,_,h.blk,by decide⟩,h.blk,h.row,fun g hg=>⟨h.rok g hg,owns_ty h.row (by decide) g hg⟩⟩
theorem SpIs.typed {Ok:Nat → Prop} {w:World} {x:PC} {y:Sp} (h:SpIs Ok w x y):SpIs (fun k=>Ok k ∧ Ty w k) w x y:=by
 refine ⟨h.1,?_⟩
 have h2:=h.2
 cases y <;> first
  | exact ⟨h2.1,fun g hg=>⟨h2.2 g hg,owns_ty h2.1 (by decide) g hg⟩⟩
  | exact h2
mutual
theorem PtIs.typed {Ok:Nat → Prop} {w:World}:∀ (p:Pt) (x:PC),PtIs Ok w x p → PtIs (fun k=>Ok k ∧ Ty w k) w x p
 | .sp y,x,h=>by rw [PtIs] at h ⊢;exact h.typed
 | .pow f k,x,h=>by
  rw [PtIs] at h ⊢
  obtain ⟨h1,h2,b,sl,xs,h3,h4,h5⟩:=h
  exact ⟨h1,h2,b,sl,xs,h3,h4.typed,PsIs.typed f xs h5⟩
 | .under s g,x,h=>by
  rw [PtIs] at h ⊢
  obtain ⟨h1,⟨b,sl,xs,h3,h4,h5⟩,b',sl',xs',h3',h4',h5'⟩:=h
  exact ⟨h1,⟨b,sl,xs,h3,h4.typed,PsIs.typed g xs h5⟩,b',sl',xs',h3',h4'.typed,PsIs.typed s xs' h5'⟩
 | .name c t,x,h=>by
  rw [PtIs] at h ⊢
  obtain ⟨h1,h2,b,sl,xs,h3,h4,h5⟩:=h
  exact ⟨h1,h2,b,sl,xs,h3,h4.typed,PsIs.typed t xs h5⟩
theorem PsIs.typed {Ok:Nat → Prop} {w:World}:∀ (t:Tm) (l:List PC),PsIs Ok w l t → PsIs (fun k=>Ok k ∧ Ty w k) w l t
 | .nil,l,h=>by rw [PsIs] at h ⊢;exact h
 | .cons p t,l,h=>by
  rw [PsIs] at h ⊢
  obtain ⟨x,xs,h1,h2,h3⟩:=h
  exact ⟨x,xs,h1,PtIs.typed p x h2,PsIs.typed t xs h3⟩
end
theorem TmIs.typed {Ok:Nat → Prop} {w:World} {b:Nat} {t:Tm} (h:TmIs Ok w b t):TmIs (fun k=>Ok k ∧ Ty w k) w b t:=by
 obtain ⟨sl,xs,h1,h2⟩:=h
 exact ⟨sl,xs,h1.typed,PsIs.typed t xs h2⟩
theorem ty_ne {w:World} {xb k:Nat} {c:Array Value} (hx:w.heap[xb]? = some (.cells c 48 (0,0))) (h:Ty w k):k ≠ xb:=by
 rintro rfl
 obtain ⟨c',ty,h1,h2⟩:=h
 rw [hx] at h1
 cases h1
 exact h2 rfl
theorem TmIs.but {Ok:Nat → Prop} {w w':World} {xb b:Nat} {t:Tm} {c:Array Value} (h:TmIs Ok w b t) (hx:w.heap[xb]? = some (.cells c 48 (0,0))) (hb:But xb w w'):TmIs (fun k=>k < w'.heap.size) w' b t :=
 h.typed.keeps (fun k hk hl=>⟨hb.block k hl (ty_ne hx hk.2),Nat.lt_of_lt_of_le hl hb.size⟩)
theorem SesIs.but {w w':World} {xb yb:Nat} {nm:Nat → Option Nat} {env:Env} {c:Array Value} (h:SesIs w yb nm env) (hx:w.heap[xb]? = some (.cells c 48 (0,0))) (hb:But xb w w') (hne:yb ≠ xb):SesIs w' yb nm env :=
 ⟨by rw [hb.block yb (lt_of_block h.blk) hne];exact h.blk,⟨fun c h1 h2 b hb'=>by
  obtain ⟨t,a1,a2,a3⟩:=h.names.known c h1 h2 b hb'
  exact ⟨t,a1,a2,a3.but hx hb⟩,h.names.unknown⟩,h.env⟩
theorem SesIs.put {w w1:World} {xb:Nat} {nm:Nat → Option Nat} {env:Env} (h:SesIs w xb nm env) (hb:Below w.heap.size w w1) {c:UInt8} (h1:65 ≤ c.toNat) (h2:c.toNat ≤ 90) {tb:Nat} {t:Tm} {Ok:Nat → Prop} (ht:TmIs Ok w1 tb t) (hw:t.wf):SesIs (w1.setCell ⟨xb,c.toNat - 65,none⟩ (.pointer (some ⟨tb,0,none⟩))) xb (nmPut nm (c.toNat - 65) tb) (env.put c t):=by
 have hs1:=h.below hb
 have hbut:But xb w1 (w1.setCell ⟨xb,c.toNat - 65,none⟩ (.pointer (some ⟨tb,0,none⟩))):=(But.refl _ _).setCell _ _
 refine ⟨by rw [blk_set hs1.blk,← ncells_set nm tb (c.toNat - 65) (by omega)];rfl,⟨fun d d1 d2 b hb'=>?_,fun d d1 d2 hb'=>?_⟩,⟨fun d b hd=>?_,fun d hd=>?_⟩⟩
 ·unfold nmPut at hb'
  by_cases e:d.toNat - 65 = c.toNat - 65
  ·rw [if_pos e] at hb'
   cases hb'
   have hdc:d = c:=UInt8.toNat_inj.1 (by omega)
   subst hdc
   exact ⟨t,by unfold Env.put;simp,hw,ht.but hs1.blk hbut⟩
  ·rw [if_neg e] at hb'
   obtain ⟨t',a1,a2,a3⟩:=hs1.names.known d d1 d2 b hb'
   have hdc:d ≠ c:=by rintro rfl;exact e rfl
   exact ⟨t',by unfold Env.put;rw [if_neg hdc];exact a1,a2,a3.but hs1.blk hbut⟩
 ·unfold nmPut at hb'
  by_cases e:d.toNat - 65 = c.toNat - 65
  ·rw [if_pos e] at hb';cases hb'
  ·rw [if_neg e] at hb'
   have hdc:d ≠ c:=by rintro rfl;exact e rfl
   unfold Env.put
   rw [if_neg hdc]
   exact hs1.names.unknown d d1 d2 hb'
 ·unfold Env.put at hd
  by_cases e:d = c
  ·rw [if_pos e] at hd;cases hd;exact hw
  ·rw [if_neg e] at hd;exact h.env.wf d b hd
 ·unfold Env.put
  rw [if_neg (by rintro rfl;omega)]
  exact h.env.dom d hd
theorem name_one {name:ByteArray} (h:name.size = 1):name.data.toList = [name[0]'(by omega)]:=by
 have:=rest_lt (s:=name) (a:=0) (by omega)
 rw [rest_zero,rest_ge (by omega)] at this
 exact this
set_option maxRecDepth 100000 in
set_option maxHeartbeats 1600000 in
theorem define_any {env:Env} (name s:ByteArray) {xb:Nat} {nm:Nat → Option Nat} (w:World) (h:SesIs w xb nm env) :
  Calls Tryz.prog 15 #[.pointer (some ⟨xb,0,none⟩),.string name,.string s] w fun e w'=>∃ c env' nm',e = .returned (.int .i64 c) ∧ DefineSays env name.data.toList s.data.toList c env' ∧ SesIs w' xb nm' env' ∧ But xb w w':=by
 have hblk:=h.blk
 have H:=hide h
 clear h
 by_cases h1:name.size = 1
 ·have hne:(((name.size:Nat):Int) != 1) = false:=by rw [h1];rfl
  have hix:(0:Int) < (name.size:Int):=by omega
  have HN:=hide (name_one h1)
  have h10:0 < name.size:=by omega
  obtain ⟨c,hc⟩:∃ c,name[0] = c:=⟨_,rfl⟩
  by_cases h2:65 ≤ c.toNat ∧ c.toNat ≤ 90
  ·obtain ⟨h2,h3⟩:=h2
   go_enter Tryz.func15,Tryz.ntmps15
   go_wp2_with fail
   refine (place_yes c h2 h3 _).mono ?_
   rintro e w' ⟨rfl,rfl⟩
   go_wp2_with (refine wpList_load_row rfl 46 (.tmp 26) rfl xb rfl 48 (ncells nm) (0,0) _ hblk Tryz.underlying46 rfl Tryz.infoNames ?_)
   refine (tRead_any (unhide H).env s nm _ (unhide H).names).mono ?_
   rintro e w1 ⟨⟨k,hk,rfl⟩ | ⟨t,tb,hg,ht,rfl⟩,hb1⟩
   ·have hke:(k != 0) = true:=by rw [bne_iff_ne];exact hk.ne
    have HC:=hide hk
    have HB1:=hide hb1
    clear hk hb1
    go_wp2_with fail
    go_ret
    exact ⟨k,env,nm,rfl,Or.inr ⟨c,by rw [unhide HN,hc],h2,h3,Or.inl ⟨unhide HC,rfl⟩⟩,(unhide H).below (unhide HB1),But.of_below (unhide HB1)⟩
   ·have hs1:=(unhide H).below hb1
    have hcell:w1.cell? ⟨xb,c.toNat - 65,none⟩ = some (ptr (nm (c.toNat - 65))):=by rw [blk_cell hs1.blk];exact ncells_get nm _ (by omega)
    have hfr:w1.frozen? ⟨xb,c.toNat - 65,none⟩ = false:=blk_free hs1.blk _
    have hix2:((c.toNat - 65:Nat):Int) < 26:=by omega
    have HP:=hide ((unhide H).put hb1 h2 h3 ht hg.term.wf)
    have HG:=hide hg
    have HB1:=hide hb1
    clear hg ht hb1 hs1
    go_wp2_with fail
    go_ret
    exact ⟨0,env.put c t,nmPut nm (c.toNat - 65) tb,rfl,Or.inr ⟨c,by rw [unhide HN,hc],h2,h3,Or.inr ⟨t,unhide HG,rfl,rfl⟩⟩,unhide HP,(But.of_below (unhide HB1)).setCell _ _⟩
  ·have h2':c.toNat < 65 ∨ 90 < c.toNat:=by omega
   have H2:=hide h2
   clear h2
   go_enter Tryz.func15,Tryz.ntmps15
   go_wp2_with fail
   refine (place_no c h2' _).mono ?_
   rintro e w' ⟨rfl,rfl⟩
   go_wp2_with fail
   go_ret
   exact ⟨4,env,nm,rfl,Or.inl ⟨by rintro ⟨d,hd,d1,d2⟩;rw [unhide HN,hc] at hd;cases hd;exact unhide H2 ⟨d1,d2⟩,rfl,rfl⟩,unhide H,But.refl _ _⟩
 ·have hne:(((name.size:Nat):Int) != 1) = true:=by rw [bne_iff_ne];omega
  have H1:=hide h1
  clear h1
  go_enter Tryz.func15,Tryz.ntmps15
  go_wp2_with fail
  go_ret
  exact ⟨4,env,nm,rfl,Or.inl ⟨by
   rintro ⟨d,hd,_,_⟩
   have:=congrArg List.length hd
   exact unhide H1 (by simpa using this),rfl,rfl⟩,unhide H,But.refl _ _⟩
end Go.Proofs.YtikiaijgcjjloabGreatDoor

namespace Go.Proofs.YtikiaijgcjjloabGreatDoor
open Go Go.RowKit M Go.Lib
set_option maxRecDepth 100000 in
set_option maxHeartbeats 1000000 in
theorem RRead_neg (s : ByteArray) (w : World) (hs : s.size ≤ maxLen) (h0 : 0 < s.size) (hn : neg s.data.toList = true) :
    Calls Tryz.prog 115 #[.string s] w fun e w' => RReadSays s e ∧ Below w.heap.size w w' := by
  have hs' := hs
  unfold maxLen at hs
  have hc : ((s[0].toNat : Int) == 45) = true := by
    rw [neg_of s h0] at hn
    have := of_decide_eq_true hn
    rw [beq_iff_eq]; omega
  have HN := hide hn
  clear hn
  have h0' : 0 < (s.size : Int) := by omega
  go_enter Tryz.func115, Tryz.ntmps115
  go_upto_block 0 with fail
  go_cut [5, 6, 7] from 22 to 37 (fun x y _ wx => ∃ en : Nat, 1 ≤ en ∧ en ≤ s.size ∧ x = .int .i64 en ∧ y = .int .i64 (refQ s.data.toList) ∧ Hid (valueOf (s.extract 1 en).data.toList = refP s.data.toList) ∧ (w.alloc (.cells #[.int .i64 0, .int .i64 0] 139)) = wx)
  case first =>
    go_wp2_with fail
    go_loopw [5, 6, 7] (fun x y z wx => ∃ i : Nat, 1 ≤ i ∧ i ≤ s.size ∧ x = .int .i64 s.size ∧ y = .int .i64 1 ∧ z = .int .i64 i ∧ Hid (∀ j (h : j < s.size), 1 ≤ j → j < i → s[j].toNat ≠ 47) ∧ (w.alloc (.cells #[.int .i64 0, .int .i64 0] 139)) = wx) (fun _ _ z _ => s.size - (RowKit.intOf z).toNat)
    case atStart => exact ⟨1, by omega, by omega, rfl, rfl, rfl, fun j _ h1 h2 => by omega, rfl⟩
    case round =>
      obtain ⟨i, h1, h2, rfl, rfl, rfl, HI, rfl⟩ := hrel
      by_cases hi : i < s.size
      · by_cases hc : s[i].toNat = 47
        · have hc' : ((s[i].toNat : Int) == 47) = true := by rw [beq_iff_eq]; omega
          have HV := hide (slash_at s true i (unhide HN) hi h1 hc (unhide HI))
          clear hc
          go_wp2_with fail
          refine (value_any (s.extract (i + 1) s.size) _ (Nat.le_trans (ext_size s _ _) hs')).mono ?_
          rintro e w' ⟨rfl, rfl⟩
          rw [(unhide HV).2]
          go_wp2_with fail
          go_meet
          exact ⟨i, h1, by omega, rfl, rfl, (unhide HV).1, rfl⟩
        · have hc' : ((s[i].toNat : Int) == 47) = false := by rw [beq_eq_false_iff_ne]; omega
          have HJ : Hid (∀ j (h : j < s.size), 1 ≤ j → j < i + 1 → s[j].toNat ≠ 47) := by
            intro j h h1 h2
            by_cases hj : j < i
            · exact unhide HI j h h1 hj
            · obtain rfl : j = i := by omega
              exact hc
          clear hc
          go_wp2_with fail
          go_roundw
          case rel => exact ⟨i + 1, by omega, by omega, rfl, rfl, by go_num, unhide HJ, by trivial⟩
          case measure => simp [RowKit.intOf]; omega
      · have hi' : ¬ (i : Int) < s.size := by omega
        have HV := hide (slash_none s true (unhide HN) (fun j h hf _ => unhide HI j h hf (by omega)))
        go_wp2_with fail
        go_meet
        exact ⟨s.size, by omega, by omega, rfl, by rw [(unhide HV).2], (unhide HV).1, rfl⟩
  case rest =>
    obtain ⟨en, he1, he2, rfl, rfl, HV, rfl⟩ := hcut
    have hp : -1 ≤ refP s.data.toList ∧ refP s.data.toList ≤ 9999999999 := valueOf_bd _
    have hq := refQ_bd s.data.toList
    have HT : Hid (refT s.data.toList = -refP s.data.toList) := by show _ = _; unfold refT; rw [unhide HN]; rfl
    have HB := hide (rr_bad s.data.toList)
    have HF := hide (rr_nofit s.data.toList)
    have HO := hide (ref_ok s.data.toList)
    have HNo := hide (rr_no s.data.toList)
    rw [unhide HT] at HF HO HNo
    clear HT HN
    go_wp2_with fail
    refine (value_any (s.extract 1 en) _ (Nat.le_trans (ext_size s _ _) hs')).mono ?_
    rintro e w' ⟨rfl, rfl⟩
    rw [unhide HV]
    clear HV
    generalize refP s.data.toList = P at *
    generalize refQ s.data.toList = Q at *
    by_cases hbad : P < 0 ∨ Q < 1
    · have HE := hide ((unhide HB) hbad)
      by_cases hP : P < 0
      all_goals
        go_wp2_with fail
        exact bodyPost_ret (v := .tuple #[.agg #[.int .i64 0, .int .i64 1], .bool false]) (by simp [results, Tryz.results115, go_sem]) rfl ⟨Or.inr ⟨unhide HE, _, _, rfl⟩, (by repeat (first | exact Below.refl _ _ | refine below_dr ?_ _ | refine Below.drew ?_ | refine Below.setCell ?_ (by simp) _ | refine Below.alloc ?_ (by simp) _))⟩
    have hP : ¬ P < 0 := by omega
    have hQ : ¬ Q < 1 := by omega
    have hQ1 : 1 ≤ Q := by omega
    clear hbad HB
    go_wp2_with fail
    refine (Low_int (-P) Q _ (by omega) (by omega) (by omega) (by omega)).mono ?_
    rintro e w1 ⟨⟨hf, rfl⟩ | ⟨hf, rfl⟩, hb⟩
    · have HFt := hide hf
      clear hf
      obtain ⟨hcell, hfr⟩ := bcell hb
      have hz1 : w.heap.size + 1 ≤ w1.heap.size := by have := hb.size; simpa using this
      have hz2 : w.heap.size < w1.heap.size + 1 := by omega
      have hz3 : w.heap.size < w1.heap.size := by omega
      have hz4 : ¬ w.heap.size = w1.heap.size := by omega
      have hz5 : ¬ w1.heap.size = w.heap.size := by omega
      have hfb := fits_bd (-P) Q hQ1 (unhide HFt)
      have HB2 : Hid (RReadSays s (.returned (.tuple #[.agg #[.int .i64 (lowP (-P) Q), .int .i64 (lowQ (-P) Q)], .bool (numText (lowP (-P) Q) (lowQ (-P) Q) == s.toList)]))) := by
        cases hB : (numText (lowP (-P) Q) (lowQ (-P) Q) == s.toList) with
        | true => exact Or.inl ⟨_, _, (unhide HO) hQ1 (unhide HFt) ((beq_text _ s).1 hB), rfl⟩
        | false => exact Or.inr ⟨(unhide HNo) (fun e => by rw [(beq_text _ s).2 e] at hB; cases hB), _, _, rfl⟩
      clear HO HNo HF
      go_wp2_with fail
      go_region_with (go_at_call 128; refine (rText_any _ _ _ hfb.1 hfb.2.1 hfb.2.2.1 hfb.2.2.2).mono ?_; rintro e w2 ⟨rfl, hb2⟩; obtain ⟨hcell2, hfr2⟩ := bcell hb2)
      all_goals go_wp2_with fail
      all_goals
        obtain ⟨c0, c1, hbw⟩ := two_cells hb hb2
        refine bodyPost_ret (v := .tuple #[.agg #[.int .i64 (lowP (-P) Q), .int .i64 (lowQ (-P) Q)], .bool (numText (lowP (-P) Q) (lowQ (-P) Q) == s.toList)]) ?_ ?_ ⟨unhide HB2, ?_⟩
        · simp [results, Tryz.results115, go_sem, c0, c1]
        · rfl
        · exact (hbw.setCell (by simp) _).setCell (by simp) _
    · have HE := hide ((unhide HF) hf)
      clear hf HF HO HNo
      obtain ⟨hcell, hfr⟩ := bcell hb
      have hz1 : w.heap.size + 1 ≤ w1.heap.size := by have := hb.size; simpa using this
      have hz2 : w.heap.size < w1.heap.size + 1 := by omega
      have hz3 : w.heap.size < w1.heap.size := by omega
      have hz4 : ¬ w.heap.size = w1.heap.size := by omega
      have hz5 : ¬ w1.heap.size = w.heap.size := by omega
      go_wp2_with fail
      go_region
      all_goals go_wp2_with fail
      all_goals
        obtain ⟨c0, c1, hbw⟩ := three_cells hb (.int .i64 0) (.int .i64 1) (.cells #[.int .i64 0, .int .i64 1] 139)
        refine bodyPost_ret (v := .tuple #[.agg #[.int .i64 0, .int .i64 1], .bool false]) ?_ ?_ ⟨Or.inr ⟨unhide HE, _, _, rfl⟩, ?_⟩
        · simp [results, Tryz.results115, go_sem, c0, c1]
        · rfl
        · exact hbw.drew
set_option maxRecDepth 100000 in
set_option maxHeartbeats 1000000 in
theorem RRead_pos (s : ByteArray) (w : World) (hs : s.size ≤ maxLen) (h0 : 0 < s.size) (hn : neg s.data.toList = false) :
    Calls Tryz.prog 115 #[.string s] w fun e w' => RReadSays s e ∧ Below w.heap.size w w' := by
  have hs' := hs
  unfold maxLen at hs
  have hc : ((s[0].toNat : Int) == 45) = false := by
    rw [neg_of s h0] at hn
    have := of_decide_eq_false hn
    rw [beq_eq_false_iff_ne]; omega
  have HN := hide hn
  clear hn
  have h0' : 0 < (s.size : Int) := by omega
  go_enter Tryz.func115, Tryz.ntmps115
  go_upto_block 0 with fail
  go_cut [5, 6, 7] from 22 to 37 (fun x y _ wx => ∃ en : Nat, 0 ≤ en ∧ en ≤ s.size ∧ x = .int .i64 en ∧ y = .int .i64 (refQ s.data.toList) ∧ Hid (valueOf (s.extract 0 en).data.toList = refP s.data.toList) ∧ (w.alloc (.cells #[.int .i64 0, .int .i64 0] 139)) = wx)
  case first =>
    go_wp2_with fail
    go_loopw [5, 6, 7] (fun x y z wx => ∃ i : Nat, 0 ≤ i ∧ i ≤ s.size ∧ x = .int .i64 s.size ∧ y = .int .i64 1 ∧ z = .int .i64 i ∧ Hid (∀ j (h : j < s.size), 0 ≤ j → j < i → s[j].toNat ≠ 47) ∧ (w.alloc (.cells #[.int .i64 0, .int .i64 0] 139)) = wx) (fun _ _ z _ => s.size - (RowKit.intOf z).toNat)
    case atStart => exact ⟨0, by omega, by omega, rfl, rfl, rfl, fun j _ h1 h2 => by omega, rfl⟩
    case round =>
      obtain ⟨i, h1, h2, rfl, rfl, rfl, HI, rfl⟩ := hrel
      by_cases hi : i < s.size
      · by_cases hc : s[i].toNat = 47
        · have hc' : ((s[i].toNat : Int) == 47) = true := by rw [beq_iff_eq]; omega
          have HV := hide (slash_at s false i (unhide HN) hi h1 hc (unhide HI))
          clear hc
          go_wp2_with fail
          refine (value_any (s.extract (i + 1) s.size) _ (Nat.le_trans (ext_size s _ _) hs')).mono ?_
          rintro e w' ⟨rfl, rfl⟩
          rw [(unhide HV).2]
          go_wp2_with fail
          go_meet
          exact ⟨i, h1, by omega, rfl, rfl, (unhide HV).1, rfl⟩
        · have hc' : ((s[i].toNat : Int) == 47) = false := by rw [beq_eq_false_iff_ne]; omega
          have HJ : Hid (∀ j (h : j < s.size), 0 ≤ j → j < i + 1 → s[j].toNat ≠ 47) := by
            intro j h h1 h2
            by_cases hj : j < i
            · exact unhide HI j h h1 hj
            · obtain rfl : j = i := by omega
              exact hc
          clear hc
          go_wp2_with fail
          go_roundw
          case rel => exact ⟨i + 1, by omega, by omega, rfl, rfl, by go_num, unhide HJ, by trivial⟩
          case measure => simp [RowKit.intOf]; omega
      · have hi' : ¬ (i : Int) < s.size := by omega
        have HV := hide (slash_none s false (unhide HN) (fun j h hf _ => unhide HI j h hf (by omega)))
        go_wp2_with fail
        go_meet
        exact ⟨s.size, by omega, by omega, rfl, by rw [(unhide HV).2], (unhide HV).1, rfl⟩
  case rest =>
    obtain ⟨en, he1, he2, rfl, rfl, HV, rfl⟩ := hcut
    have hp : -1 ≤ refP s.data.toList ∧ refP s.data.toList ≤ 9999999999 := valueOf_bd _
    have hq := refQ_bd s.data.toList
    have HT : Hid (refT s.data.toList = refP s.data.toList) := by show _ = _; unfold refT; rw [unhide HN]; rfl
    have HB := hide (rr_bad s.data.toList)
    have HF := hide (rr_nofit s.data.toList)
    have HO := hide (ref_ok s.data.toList)
    have HNo := hide (rr_no s.data.toList)
    rw [unhide HT] at HF HO HNo
    clear HT HN
    go_wp2_with fail
    refine (value_any (s.extract 0 en) _ (Nat.le_trans (ext_size s _ _) hs')).mono ?_
    rintro e w' ⟨rfl, rfl⟩
    rw [unhide HV]
    clear HV
    generalize refP s.data.toList = P at *
    generalize refQ s.data.toList = Q at *
    by_cases hbad : P < 0 ∨ Q < 1
    · have HE := hide ((unhide HB) hbad)
      by_cases hP : P < 0
      all_goals
        go_wp2_with fail
        exact bodyPost_ret (v := .tuple #[.agg #[.int .i64 0, .int .i64 1], .bool false]) (by simp [results, Tryz.results115, go_sem]) rfl ⟨Or.inr ⟨unhide HE, _, _, rfl⟩, (by repeat (first | exact Below.refl _ _ | refine below_dr ?_ _ | refine Below.drew ?_ | refine Below.setCell ?_ (by simp) _ | refine Below.alloc ?_ (by simp) _))⟩
    have hP : ¬ P < 0 := by omega
    have hQ : ¬ Q < 1 := by omega
    have hQ1 : 1 ≤ Q := by omega
    clear hbad HB
    go_wp2_with fail
    refine (Low_int P Q _ (by omega) (by omega) (by omega) (by omega)).mono ?_
    rintro e w1 ⟨⟨hf, rfl⟩ | ⟨hf, rfl⟩, hb⟩
    · have HFt := hide hf
      clear hf
      obtain ⟨hcell, hfr⟩ := bcell hb
      have hz1 : w.heap.size + 1 ≤ w1.heap.size := by have := hb.size; simpa using this
      have hz2 : w.heap.size < w1.heap.size + 1 := by omega
      have hz3 : w.heap.size < w1.heap.size := by omega
      have hz4 : ¬ w.heap.size = w1.heap.size := by omega
      have hz5 : ¬ w1.heap.size = w.heap.size := by omega
      have hfb := fits_bd P Q hQ1 (unhide HFt)
      have HB2 : Hid (RReadSays s (.returned (.tuple #[.agg #[.int .i64 (lowP P Q), .int .i64 (lowQ P Q)], .bool (numText (lowP P Q) (lowQ P Q) == s.toList)]))) := by
        cases hB : (numText (lowP P Q) (lowQ P Q) == s.toList) with
        | true => exact Or.inl ⟨_, _, (unhide HO) hQ1 (unhide HFt) ((beq_text _ s).1 hB), rfl⟩
        | false => exact Or.inr ⟨(unhide HNo) (fun e => by rw [(beq_text _ s).2 e] at hB; cases hB), _, _, rfl⟩
      clear HO HNo HF
      go_wp2_with fail
      go_region_with (go_at_call 128; refine (rText_any _ _ _ hfb.1 hfb.2.1 hfb.2.2.1 hfb.2.2.2).mono ?_; rintro e w2 ⟨rfl, hb2⟩; obtain ⟨hcell2, hfr2⟩ := bcell hb2)
      all_goals go_wp2_with fail
      all_goals
        obtain ⟨c0, c1, hbw⟩ := two_cells hb hb2
        refine bodyPost_ret (v := .tuple #[.agg #[.int .i64 (lowP P Q), .int .i64 (lowQ P Q)], .bool (numText (lowP P Q) (lowQ P Q) == s.toList)]) ?_ ?_ ⟨unhide HB2, ?_⟩
        · simp [results, Tryz.results115, go_sem, c0, c1]
        · rfl
        · exact (hbw.setCell (by simp) _).setCell (by simp) _
    · have HE := hide ((unhide HF) hf)
      clear hf HF HO HNo
      obtain ⟨hcell, hfr⟩ := bcell hb
      have hz1 : w.heap.size + 1 ≤ w1.heap.size := by have := hb.size; simpa using this
      have hz2 : w.heap.size < w1.heap.size + 1 := by omega
      have hz3 : w.heap.size < w1.heap.size := by omega
      have hz4 : ¬ w.heap.size = w1.heap.size := by omega
      have hz5 : ¬ w1.heap.size = w.heap.size := by omega
      go_wp2_with fail
      go_region
      all_goals go_wp2_with fail
      all_goals
        obtain ⟨c0, c1, hbw⟩ := three_cells hb (.int .i64 0) (.int .i64 1) (.cells #[.int .i64 0, .int .i64 1] 139)
        refine bodyPost_ret (v := .tuple #[.agg #[.int .i64 0, .int .i64 1], .bool false]) ?_ ?_ ⟨Or.inr ⟨unhide HE, _, _, rfl⟩, ?_⟩
        · simp [results, Tryz.results115, go_sem, c0, c1]
        · rfl
        · exact hbw.drew
end Go.Proofs.YtikiaijgcjjloabGreatDoor

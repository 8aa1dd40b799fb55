import Derived.Test.YtikiaijgcjjloabGreatDoorPart18
import Derived.Test.YtikiaijgcjjloabGreatDoorPart10
import Derived.Deep.DeepCutAuto

namespace Go.Proofs.YtikiaijgcjjloabGreatDoor
open Go Go.RowKit M T Go.Lib
def l38:ByteArray:=⟨#[110,118,97,113,119,117,114,115,122,112,109,111,65,66,67,68,69,70,71,72,73,74,75,76,77,78,79,80,81,82,83,84,85,86,87,88,89,90]⟩
theorem mem38 {c:UInt8} (h:c ∈ l38.data.toList):(∃ x:Sp,x.letter = true ∧ x.first = c) ∨ (65 ≤ c.toNat ∧ c.toNat ≤ 90):=by
 unfold l38 at h
 simp only [List.mem_cons,List.not_mem_nil,or_false] at h
 rcases h with rfl | rfl | rfl | rfl | rfl | rfl | rfl | rfl | rfl | rfl | rfl | rfl | rfl | rfl | rfl | rfl | rfl | rfl | rfl | rfl | rfl | rfl | rfl | rfl | rfl | rfl | rfl | rfl | rfl | rfl | rfl | rfl | rfl | rfl | rfl | rfl | rfl | rfl
 ·exact Or.inl ⟨.n,rfl,rfl⟩
 ·exact Or.inl ⟨.v,rfl,rfl⟩
 ·exact Or.inl ⟨.a,rfl,rfl⟩
 ·exact Or.inl ⟨.q,rfl,rfl⟩
 ·exact Or.inl ⟨.w,rfl,rfl⟩
 ·exact Or.inl ⟨.u,rfl,rfl⟩
 ·exact Or.inl ⟨.r,rfl,rfl⟩
 ·exact Or.inl ⟨.s,rfl,rfl⟩
 ·exact Or.inl ⟨.z,rfl,rfl⟩
 ·exact Or.inl ⟨.p,rfl,rfl⟩
 ·exact Or.inl ⟨.m,rfl,rfl⟩
 ·exact Or.inl ⟨.o,rfl,rfl⟩
 all_goals exact Or.inr (by decide)
theorem not38 {c:UInt8} (h:c ∉ l38.data.toList):(∀ x:Sp,x.letter = true → x.first ≠ c) ∧ (c.toNat < 65 ∨ 90 < c.toNat):=by
 constructor
 ·rintro x hx rfl
  apply h
  cases x <;> first
   | (cases hx;done)
   | (simp [l38,Sp.first];done)
 ·rcases Nat.lt_or_ge c.toNat 65 with h1 | h1
  ·exact Or.inl h1
  ·rcases Nat.lt_or_ge 90 c.toNat with h2 | h2
   ·exact Or.inr h2
   ·exfalso
    apply h
    have key:∀ n:Nat,65 ≤ n → n ≤ 90 → UInt8.ofNat n ∈ l38.data.toList:=by
     intro n a b
     have:n = 65 ∨ n = 66 ∨ n = 67 ∨ n = 68 ∨ n = 69 ∨ n = 70 ∨ n = 71 ∨ n = 72 ∨ n = 73 ∨ n = 74 ∨ n = 75 ∨ n = 76 ∨ n = 77 ∨ n = 78 ∨ n = 79 ∨ n = 80 ∨ n = 81 ∨ n = 82 ∨ n = 83 ∨ n = 84 ∨ n = 85 ∨ n = 86 ∨ n = 87 ∨ n = 88 ∨ n = 89 ∨ n = 90:=by omega
     rcases this with rfl | rfl | rfl | rfl | rfl | rfl | rfl | rfl | rfl | rfl | rfl | rfl | rfl | rfl | rfl | rfl | rfl | rfl | rfl | rfl | rfl | rfl | rfl | rfl | rfl | rfl <;> simp [l38]
    have:=key c.toNat h1 h2
    simpa using this
theorem cut_letter {c:UInt8} (h:c ∈ l38.data.toList) (l:List UInt8):∃ p,RdP E0 (c :: l) (some (p,l)) ∧ ∀ w,RPt w ⟨c,0,0,0,none,0,0,⟨#[]⟩,⟨#[]⟩⟩ p:=by
 rcases mem38 h with ⟨x,hx,rfl⟩ | ⟨h1,h2⟩
 ·refine ⟨.sp x,rdP_letter E0 hx l,fun w=>⟨rfl,?_⟩⟩
  cases x <;> first | (cases hx;done) | trivial
 ·exact ⟨.name c .nil,rdP_name E0 h1 h2 rfl (show True from trivial) l,fun w=>rfl⟩
theorem span_c (s:ByteArray) (a:Nat) (w:World) (ha:a ≤ s.size) (hs:s.size ≤ 1000000) :
  Calls Tryz.prog 171 #[.string s,.int .i64 (a:Int),.bool true] w fun e w'=>∃ c:Nat,e = .returned (.int .i64 (c:Int)) ∧ c = a + nf s a ∧ w = w':=by
 refine (span_true s a w ha hs).mono ?_
 rintro e w' ⟨rfl,hw⟩
 exact ⟨a + nf s a,rfl,rfl,hw⟩
theorem valR_yes {w:World} {s:ByteArray} {a c2:Nat} {c:UInt8} (hc:c = 43 ∨ c = 42 ∨ c = 61) {t b:Int} (h2:c2 = a + nf s a) (ha:a ≤ s.size) (h:NumSaysR (s.extract a c2).data.toList t b true):∃ (p:Pt) (c':Nat),(c2:Int) = (c':Int) ∧ c' ≤ s.size ∧ RdP E0 (c :: rest s a) (some (p,rest s c')) ∧ RPt w ⟨c,t,b,0,none,0,0,⟨#[]⟩,⟨#[]⟩⟩ p:=by
 subst h2
 rw [ext_nf] at h
 rcases h with ⟨_,h⟩ | ⟨h,_⟩
 ·obtain ⟨x,h1,h2,rfl,rfl⟩:=isNum_rat h
  refine ⟨.sp (valSp c x),a + nf s a,rfl,nf_le ha,?_,?_⟩
  ·refine rdP_val E0 hc h1 h2 (by rw [rest_nf];exact spanF_app _) (fun y r' hr e=>?_)
   have:=spanF_rat y hr
   rw [← e] at this
   rw [rest_nf,this]
   exact ⟨rfl,rfl⟩
  ·rcases hc with rfl | rfl | rfl <;> exact ⟨rfl,rfl,rfl⟩
 ·cases h
theorem valR_no {s:ByteArray} {a c2:Nat} {c:UInt8} (hc:c = 43 ∨ c = 42 ∨ c = 61) {t b:Int} (h2:c2 = a + nf s a) (h:NumSaysR (s.extract a c2).data.toList t b false):RdP E0 (c :: rest s a) none:=by
 subst h2
 rw [ext_nf] at h
 rcases h with ⟨h,_⟩ | ⟨_,h⟩
 ·cases h
 ·refine rdP_val_none E0 hc h (fun y r' hr e=>?_)
  have:=spanF_rat y hr
  rw [← e] at this
  rw [this]
theorem cntR {w:World} {s:ByteArray} {a c2:Nat} {c:UInt8} (hc:c = 60 ∨ c = 116 ∨ c = 100) {k:Int} {ok:Bool} (hc2:c2 ≤ s.size) (h:(ok = true ∧ WhAt (rest s a) (cntLo c) (cntHi c) (some (k,rest s c2))) ∨ (ok = false ∧ WhAt (rest s a) (cntLo c) (cntHi c) none)):(ok = true ∧ ∃ (p:Pt) (c':Nat),(c2:Int) = (c':Int) ∧ c' ≤ s.size ∧ RdP E0 (c :: rest s a) (some (p,rest s c')) ∧ RPt w ⟨c,0,0,k,none,0,0,⟨#[]⟩,⟨#[]⟩⟩ p) ∨ (ok = false ∧ RdP E0 (c :: rest s a) none):=by
 rcases h with ⟨rfl,h⟩ | ⟨rfl,h⟩
 ·refine Or.inl ⟨rfl,.sp (cntSp c k),c2,rfl,hc2,rdP_cnt E0 hc h,?_⟩
  have h0:=(h.sound _ _ rfl).1
  rcases hc with rfl | rfl | rfl
  ·exact ⟨rfl,rfl⟩
  ·have:0 ≤ k:=h0
   exact ⟨rfl,show k = ((k.toNat:Nat):Int) by omega⟩
  ·have:0 ≤ k:=h0
   exact ⟨rfl,show k = ((k.toNat:Nat):Int) by omega⟩
 ·exact Or.inr ⟨rfl,rdP_cnt E0 hc h⟩
theorem three {w w1:World} {o0 o1 o2:Obj} (hb:Below (((w.alloc o0).alloc o1).alloc o2).heap.size (((w.alloc o0).alloc o1).alloc o2) w1):w1.heap[w.heap.size]? = some o0 ∧ w1.heap[w.heap.size + 1]? = some o1 ∧ w1.heap[w.heap.size + 2]? = some o2 ∧ Below w.heap.size w w1:=by
 have hs:(((w.alloc o0).alloc o1).alloc o2).heap.size = w.heap.size + 3:=by simp
 refine ⟨?_,?_,?_,?_⟩
 ·rw [hb.block _ (by omega),Below.heap_alloc _ _ _ (by simp;omega),Below.heap_alloc _ _ _ (by simp)]
  exact heap_alloc_new w _
 ·rw [hb.block _ (by omega),Below.heap_alloc _ _ _ (by simp)]
  exact new_at2 w _ _
 ·rw [hb.block _ (by omega)]
  have:=heap_alloc_new ((w.alloc o0).alloc o1) o2
  rw [World.size_alloc,World.size_alloc] at this
  exact this
 ·exact ((((Below.refl _ _).alloc (Nat.le_refl _) _).alloc (by simp) _).alloc (by simp;omega) _).trans (hb.mono (by omega))
theorem RPt.keeps {w w':World} {x:RC} {p:Pt} (h:RPt w x p) (hk:∀ (k:Nat) (c:Array Value),w.heap[k]? = some (.cells c 3 (0,0)) → w'.heap[k]? = w.heap[k]?):RPt w' x p:=by
 cases p with
 | sp y=>
  refine ⟨h.1,?_⟩
  have h2:=h.2
  cases y with
  | pick ps=>
   refine ⟨h2.1,?_⟩
   rcases h2.2 with h3 | ⟨g,cap,cur,hv,hg,hh,r⟩
   ·exact Or.inl h3
   ·exact Or.inr ⟨g,cap,cur,hv,hg,by rw [hk g _ hh];exact hh,r⟩
  | _=>exact h2
 | pow f k=>exact h
 | under s g=>exact h
 | name c t=>exact h
theorem RPt.laid0 {w w1:World} {c0:Array Value} {x:RC} {p:Pt} (h:RPt w1 x p) (h0:w1.heap[w.heap.size]? = some (.cells c0 141 (0,0))) (u0 u1 u2 u3 u4 u5 u6:Value):RPt (st7 w1 w.heap.size u0 u1 u2 u3 u4 u5 u6) x p :=
 h.keeps (fun k c hk=>by
  have a1:k ≠ w.heap.size:=by rintro rfl;rw [hk] at h0;cases h0
  rw [st7_heap _ _ _ _ _ _ _ _ a1])
theorem RPt.laid1 {w w1:World} {c1:Array Value} {x:RC} {p:Pt} (h:RPt w1 x p) (h1:w1.heap[w.heap.size + 1]? = some (.cells c1 141 (0,0))) (u0 u1 u2 u3 u4 u5 u6:Value):RPt (st7 w1 (w.heap.size + 1) u0 u1 u2 u3 u4 u5 u6) x p :=
 h.keeps (fun k c hk=>by
  have a1:k ≠ w.heap.size + 1:=by rintro rfl;rw [hk] at h1;cases h1
  rw [st7_heap _ _ _ _ _ _ _ _ a1])
theorem PB.st7 {w w1:World} {c0:Array Value} {k:Value} (h:PB w c0 #[k,.int .i64 0,.int .i64 0,.int .i64 0,.slice none 0 0,.string ⟨#[]⟩,.string ⟨#[]⟩] w1) (v0 v1 v2 v3 v4 v5 v6:Value):PB w c0 #[v0,v1,v2,v3,v4,v5,v6] (st7 w1 (w.heap.size + 1) v0 v1 v2 v3 v4 v5 v6) :=
 ((((((h.set 0 v0).set 1 v1).set 2 v2).set 3 v3).set 4 v4).set 5 v5).set 6 v6
def Laid (s:ByteArray) (a:Nat) (w:World) (v9 v10:Value) (wx:World):Prop :=
 ∃ (x:RC) (bz:Int) (ok:Bool),v9 = .bool ok ∧ v10 = .int .i64 bz ∧ PB w rz x.cells.toArray wx ∧ ((ok = true ∧ ∃ (p:Pt) (c:Nat),bz = (c:Int) ∧ c ≤ s.size ∧ RdP E0 (rest s a) (some (p,rest s c)) ∧ RPt wx x p) ∨ (ok = false ∧ RdP E0 (rest s a) none))
theorem Laid.of {s:ByteArray} {a:Nat} {w w1:World} {Kd:UInt8} {P Q K:Int} {pa:Option Addr} {pn pc:Nat} {F G:ByteArray} {k:Value} {bz:Int} {ok:Bool} (h:PB w rz #[k,.int .i64 0,.int .i64 0,.int .i64 0,.slice none 0 0,.string ⟨#[]⟩,.string ⟨#[]⟩] w1) (hc:(ok = true ∧ ∃ (p:Pt) (c:Nat),bz = (c:Int) ∧ c ≤ s.size ∧ RdP E0 (rest s a) (some (p,rest s c)) ∧ RPt w1 ⟨Kd,P,Q,K,pa,pn,pc,F,G⟩ p) ∨ (ok = false ∧ RdP E0 (rest s a) none)):Laid s a w (.bool ok) (.int .i64 bz) (st7 w1 (w.heap.size + 1) (.int .u8 (Kd.toNat:Int)) (.int .i64 P) (.int .i64 Q) (.int .i64 K) (.slice pa pn pc) (.string F) (.string G)):=by
 refine ⟨⟨Kd,P,Q,K,pa,pn,pc,F,G⟩,bz,ok,rfl,rfl,h.st7 _ _ _ _ _ _ _,?_⟩
 rcases hc with ⟨h1,p,c',h2,h3,h4,h5⟩ | h'
 ·exact Or.inl ⟨h1,p,c',h2,h3,h4,h5.laid1 h.b1 _ _ _ _ _ _ _⟩
 ·exact Or.inr h'
theorem PB.behind {w w1:World} {c0 c1:Array Value} {o2:Obj} (hb:Below (((w.alloc (.cells c0 141)).alloc (.cells c1 141)).alloc o2).heap.size (((w.alloc (.cells c0 141)).alloc (.cells c1 141)).alloc o2) w1):PB w c0 c1 w1:=by
 obtain ⟨b0,b1,_,hb⟩:=three hb
 exact ⟨hb,b0,b1⟩
set_option maxRecDepth 100000 in
set_option maxHeartbeats 3200000 in
theorem cut_43 {m:Nat} (hP:RPS m) (s:ByteArray) (a:Nat) (w:World) (ha:a < s.size) (hc:s[a] = 43) (_hm:s.size ≤ m + 1) (hs:s.size ≤ 1000) :
  Calls Tryz.prog 148 #[.string s,.int .i64 (a:Int)] w fun e w'=>CutGot s a e w' ∧ Below w.heap.size w w':=by
 have HP:=hide hP
 have HRE:=hide (rest_lt ha)
 have ha1:a + 1 ≤ s.size:=by omega
 have HSA:=hide hc
 rw [hc] at HRE
 clear hP
 go_enter Tryz.func148,Tryz.ntmps148
 go_wp2_with fail
 refine (among_any 43 l38 _ (by decide)).mono ?_
 rintro e w' ⟨rfl,rfl⟩
 rw [show decide ((43:UInt8) ∈ l38.data.toList) = false from by decide]
 go_wp2_with fail
 rw [show ((a:Int) + 1) = ((a + 1:Nat):Int) by omega]
 refine (span_c s (a + 1) _ ha1 (by omega)).mono ?_
 rintro e w' ⟨c2,rfl,hc2e,rfl⟩
 have hc2l:c2 ≤ s.size:=by rw [hc2e];exact nf_le ha1
 have hc2g:a + 1 ≤ c2:=by omega
 have HC2:=hide hc2e
 clear hc2e
 go_wp2_with fail
 have hez:=ext_size s (a + 1) c2
 refine (rRead_one (s.extract (a + 1) c2) _ (by unfold maxLen;omega)).mono ?_
 rintro e w1 ⟨t,b,ok,rfl,hsay,hb1⟩
 obtain ⟨b0,b1,b2,hbel⟩:=three hb1
 have hc0:∀ i,w1.cell? ⟨w.heap.size,i,none⟩ = (#[.int .u8 0,.int .i64 0,.int .i64 0,.int .i64 0,.slice none 0 0,.string ⟨#[]⟩,.string ⟨#[]⟩]:Array Value)[i]?:=fun i=>blk_cell b0 i
 have hf0:∀ i,w1.frozen? ⟨w.heap.size,i,none⟩ = false:=fun i=>blk_free b0 i
 have hc1:∀ i,w1.cell? ⟨w.heap.size + 1,i,none⟩ = (#[.int .u8 43,.int .i64 0,.int .i64 0,.int .i64 0,.slice none 0 0,.string ⟨#[]⟩,.string ⟨#[]⟩]:Array Value)[i]?:=fun i=>blk_cell b1 i
 have hf1:∀ i,w1.frozen? ⟨w.heap.size + 1,i,none⟩ = false:=fun i=>blk_free b1 i
 have hc2:∀ i,w1.cell? ⟨w.heap.size + 2,i,none⟩ = (#[.int .i64 0,.int .i64 0]:Array Value)[i]?:=fun i=>blk_cell b2 i
 have hf2:∀ i,w1.frozen? ⟨w.heap.size + 2,i,none⟩ = false:=fun i=>blk_free b2 i
 have HBel:=hide hbel
 have HS:=hide hsay
 clear b0 b1 b2 hbel hsay hb1 hez
 cases ok with
 | false=>
  go_wp2_with fail
  exact bodyPost_ret (v:=.tuple #[RC.value ⟨43,t,b,0,none,0,0,⟨#[]⟩,⟨#[]⟩⟩,.int .i64 (c2:Int),.bool false]) (by simp [results,Tryz.results148,go_sem,hc0,RC.value,RC.cells]) rfl ⟨⟨⟨43,t,b,0,none,0,0,⟨#[]⟩,⟨#[]⟩⟩,_,false,rfl,Or.inr ⟨rfl,by rw [unhide HRE];exact valR_no (by decide) (unhide HC2) (unhide HS)⟩⟩,st7_below (Below.setCell (p:=⟨w.heap.size + 1,2,none⟩) (Below.setCell (p:=⟨w.heap.size + 1,1,none⟩) (Below.setCell (p:=⟨w.heap.size + 2,1,none⟩) (Below.setCell (p:=⟨w.heap.size + 2,0,none⟩) (unhide HBel) (Nat.le_add_right _ 2) _) (Nat.le_add_right _ 2) _) (Nat.le_succ _) _) (Nat.le_succ _) _) (Nat.le_refl _) _ _ _ _ _ _ _⟩
 | true=>
  go_wp2_with fail
  exact bodyPost_ret (v:=.tuple #[RC.value ⟨43,t,b,0,none,0,0,⟨#[]⟩,⟨#[]⟩⟩,.int .i64 (c2:Int),.bool true]) (by simp [results,Tryz.results148,go_sem,hc0,RC.value,RC.cells]) rfl ⟨⟨⟨43,t,b,0,none,0,0,⟨#[]⟩,⟨#[]⟩⟩,_,true,rfl,Or.inl ⟨rfl,by rw [unhide HRE];exact valR_yes (by decide) (unhide HC2) ha1 (unhide HS)⟩⟩,st7_below (Below.setCell (p:=⟨w.heap.size + 1,2,none⟩) (Below.setCell (p:=⟨w.heap.size + 1,1,none⟩) (Below.setCell (p:=⟨w.heap.size + 2,1,none⟩) (Below.setCell (p:=⟨w.heap.size + 2,0,none⟩) (unhide HBel) (Nat.le_add_right _ 2) _) (Nat.le_add_right _ 2) _) (Nat.le_succ _) _) (Nat.le_succ _) _) (Nat.le_refl _) _ _ _ _ _ _ _⟩
set_option maxRecDepth 100000 in
set_option maxHeartbeats 3200000 in
theorem cut_42 {m:Nat} (hP:RPS m) (s:ByteArray) (a:Nat) (w:World) (ha:a < s.size) (hc:s[a] = 42) (_hm:s.size ≤ m + 1) (hs:s.size ≤ 1000) :
  Calls Tryz.prog 148 #[.string s,.int .i64 (a:Int)] w fun e w'=>CutGot s a e w' ∧ Below w.heap.size w w':=by
 have HP:=hide hP
 have HRE:=hide (rest_lt ha)
 have ha1:a + 1 ≤ s.size:=by omega
 have HSA:=hide hc
 rw [hc] at HRE
 clear hP
 go_enter Tryz.func148,Tryz.ntmps148
 go_wp2_with fail
 refine (among_any 42 l38 _ (by decide)).mono ?_
 rintro e w' ⟨rfl,rfl⟩
 rw [show decide ((42:UInt8) ∈ l38.data.toList) = false from by decide]
 go_wp2_with fail
 rw [show ((a:Int) + 1) = ((a + 1:Nat):Int) by omega]
 refine (span_c s (a + 1) _ ha1 (by omega)).mono ?_
 rintro e w' ⟨c2,rfl,hc2e,rfl⟩
 have hc2l:c2 ≤ s.size:=by rw [hc2e];exact nf_le ha1
 have hc2g:a + 1 ≤ c2:=by omega
 have HC2:=hide hc2e
 clear hc2e
 go_wp2_with fail
 have hez:=ext_size s (a + 1) c2
 refine (rRead_one (s.extract (a + 1) c2) _ (by unfold maxLen;omega)).mono ?_
 rintro e w1 ⟨t,b,ok,rfl,hsay,hb1⟩
 obtain ⟨b0,b1,b2,hbel⟩:=three hb1
 have hc0:∀ i,w1.cell? ⟨w.heap.size,i,none⟩ = (#[.int .u8 0,.int .i64 0,.int .i64 0,.int .i64 0,.slice none 0 0,.string ⟨#[]⟩,.string ⟨#[]⟩]:Array Value)[i]?:=fun i=>blk_cell b0 i
 have hf0:∀ i,w1.frozen? ⟨w.heap.size,i,none⟩ = false:=fun i=>blk_free b0 i
 have hc1:∀ i,w1.cell? ⟨w.heap.size + 1,i,none⟩ = (#[.int .u8 42,.int .i64 0,.int .i64 0,.int .i64 0,.slice none 0 0,.string ⟨#[]⟩,.string ⟨#[]⟩]:Array Value)[i]?:=fun i=>blk_cell b1 i
 have hf1:∀ i,w1.frozen? ⟨w.heap.size + 1,i,none⟩ = false:=fun i=>blk_free b1 i
 have hc2:∀ i,w1.cell? ⟨w.heap.size + 2,i,none⟩ = (#[.int .i64 0,.int .i64 0]:Array Value)[i]?:=fun i=>blk_cell b2 i
 have hf2:∀ i,w1.frozen? ⟨w.heap.size + 2,i,none⟩ = false:=fun i=>blk_free b2 i
 have HBel:=hide hbel
 have HS:=hide hsay
 clear b0 b1 b2 hbel hsay hb1 hez
 cases ok with
 | false=>
  go_wp2_with fail
  exact bodyPost_ret (v:=.tuple #[RC.value ⟨42,t,b,0,none,0,0,⟨#[]⟩,⟨#[]⟩⟩,.int .i64 (c2:Int),.bool false]) (by simp [results,Tryz.results148,go_sem,hc0,RC.value,RC.cells]) rfl ⟨⟨⟨42,t,b,0,none,0,0,⟨#[]⟩,⟨#[]⟩⟩,_,false,rfl,Or.inr ⟨rfl,by rw [unhide HRE];exact valR_no (by decide) (unhide HC2) (unhide HS)⟩⟩,st7_below (Below.setCell (p:=⟨w.heap.size + 1,2,none⟩) (Below.setCell (p:=⟨w.heap.size + 1,1,none⟩) (Below.setCell (p:=⟨w.heap.size + 2,1,none⟩) (Below.setCell (p:=⟨w.heap.size + 2,0,none⟩) (unhide HBel) (Nat.le_add_right _ 2) _) (Nat.le_add_right _ 2) _) (Nat.le_succ _) _) (Nat.le_succ _) _) (Nat.le_refl _) _ _ _ _ _ _ _⟩
 | true=>
  go_wp2_with fail
  exact bodyPost_ret (v:=.tuple #[RC.value ⟨42,t,b,0,none,0,0,⟨#[]⟩,⟨#[]⟩⟩,.int .i64 (c2:Int),.bool true]) (by simp [results,Tryz.results148,go_sem,hc0,RC.value,RC.cells]) rfl ⟨⟨⟨42,t,b,0,none,0,0,⟨#[]⟩,⟨#[]⟩⟩,_,true,rfl,Or.inl ⟨rfl,by rw [unhide HRE];exact valR_yes (by decide) (unhide HC2) ha1 (unhide HS)⟩⟩,st7_below (Below.setCell (p:=⟨w.heap.size + 1,2,none⟩) (Below.setCell (p:=⟨w.heap.size + 1,1,none⟩) (Below.setCell (p:=⟨w.heap.size + 2,1,none⟩) (Below.setCell (p:=⟨w.heap.size + 2,0,none⟩) (unhide HBel) (Nat.le_add_right _ 2) _) (Nat.le_add_right _ 2) _) (Nat.le_succ _) _) (Nat.le_succ _) _) (Nat.le_refl _) _ _ _ _ _ _ _⟩
set_option maxRecDepth 100000 in
set_option maxHeartbeats 3200000 in
theorem cut_61 {m:Nat} (hP:RPS m) (s:ByteArray) (a:Nat) (w:World) (ha:a < s.size) (hc:s[a] = 61) (_hm:s.size ≤ m + 1) (hs:s.size ≤ 1000) :
  Calls Tryz.prog 148 #[.string s,.int .i64 (a:Int)] w fun e w'=>CutGot s a e w' ∧ Below w.heap.size w w':=by
 have HP:=hide hP
 have HRE:=hide (rest_lt ha)
 have ha1:a + 1 ≤ s.size:=by omega
 have HSA:=hide hc
 rw [hc] at HRE
 clear hP
 go_enter Tryz.func148,Tryz.ntmps148
 go_wp2_with fail
 refine (among_any 61 l38 _ (by decide)).mono ?_
 rintro e w' ⟨rfl,rfl⟩
 rw [show decide ((61:UInt8) ∈ l38.data.toList) = false from by decide]
 go_wp2_with fail
 rw [show ((a:Int) + 1) = ((a + 1:Nat):Int) by omega]
 refine (span_c s (a + 1) _ ha1 (by omega)).mono ?_
 rintro e w' ⟨c2,rfl,hc2e,rfl⟩
 have hc2l:c2 ≤ s.size:=by rw [hc2e];exact nf_le ha1
 have hc2g:a + 1 ≤ c2:=by omega
 have HC2:=hide hc2e
 clear hc2e
 go_wp2_with fail
 have hez:=ext_size s (a + 1) c2
 refine (rRead_one (s.extract (a + 1) c2) _ (by unfold maxLen;omega)).mono ?_
 rintro e w1 ⟨t,b,ok,rfl,hsay,hb1⟩
 obtain ⟨b0,b1,b2,hbel⟩:=three hb1
 have hc0:∀ i,w1.cell? ⟨w.heap.size,i,none⟩ = (#[.int .u8 0,.int .i64 0,.int .i64 0,.int .i64 0,.slice none 0 0,.string ⟨#[]⟩,.string ⟨#[]⟩]:Array Value)[i]?:=fun i=>blk_cell b0 i
 have hf0:∀ i,w1.frozen? ⟨w.heap.size,i,none⟩ = false:=fun i=>blk_free b0 i
 have hc1:∀ i,w1.cell? ⟨w.heap.size + 1,i,none⟩ = (#[.int .u8 61,.int .i64 0,.int .i64 0,.int .i64 0,.slice none 0 0,.string ⟨#[]⟩,.string ⟨#[]⟩]:Array Value)[i]?:=fun i=>blk_cell b1 i
 have hf1:∀ i,w1.frozen? ⟨w.heap.size + 1,i,none⟩ = false:=fun i=>blk_free b1 i
 have hc2:∀ i,w1.cell? ⟨w.heap.size + 2,i,none⟩ = (#[.int .i64 0,.int .i64 0]:Array Value)[i]?:=fun i=>blk_cell b2 i
 have hf2:∀ i,w1.frozen? ⟨w.heap.size + 2,i,none⟩ = false:=fun i=>blk_free b2 i
 have HBel:=hide hbel
 have HS:=hide hsay
 clear b0 b1 b2 hbel hsay hb1 hez
 cases ok with
 | false=>
  go_wp2_with fail
  exact bodyPost_ret (v:=.tuple #[RC.value ⟨61,t,b,0,none,0,0,⟨#[]⟩,⟨#[]⟩⟩,.int .i64 (c2:Int),.bool false]) (by simp [results,Tryz.results148,go_sem,hc0,RC.value,RC.cells]) rfl ⟨⟨⟨61,t,b,0,none,0,0,⟨#[]⟩,⟨#[]⟩⟩,_,false,rfl,Or.inr ⟨rfl,by rw [unhide HRE];exact valR_no (by decide) (unhide HC2) (unhide HS)⟩⟩,st7_below (Below.setCell (p:=⟨w.heap.size + 1,2,none⟩) (Below.setCell (p:=⟨w.heap.size + 1,1,none⟩) (Below.setCell (p:=⟨w.heap.size + 2,1,none⟩) (Below.setCell (p:=⟨w.heap.size + 2,0,none⟩) (unhide HBel) (Nat.le_add_right _ 2) _) (Nat.le_add_right _ 2) _) (Nat.le_succ _) _) (Nat.le_succ _) _) (Nat.le_refl _) _ _ _ _ _ _ _⟩
 | true=>
  go_wp2_with fail
  exact bodyPost_ret (v:=.tuple #[RC.value ⟨61,t,b,0,none,0,0,⟨#[]⟩,⟨#[]⟩⟩,.int .i64 (c2:Int),.bool true]) (by simp [results,Tryz.results148,go_sem,hc0,RC.value,RC.cells]) rfl ⟨⟨⟨61,t,b,0,none,0,0,⟨#[]⟩,⟨#[]⟩⟩,_,true,rfl,Or.inl ⟨rfl,by rw [unhide HRE];exact valR_yes (by decide) (unhide HC2) ha1 (unhide HS)⟩⟩,st7_below (Below.setCell (p:=⟨w.heap.size + 1,2,none⟩) (Below.setCell (p:=⟨w.heap.size + 1,1,none⟩) (Below.setCell (p:=⟨w.heap.size + 2,1,none⟩) (Below.setCell (p:=⟨w.heap.size + 2,0,none⟩) (unhide HBel) (Nat.le_add_right _ 2) _) (Nat.le_add_right _ 2) _) (Nat.le_succ _) _) (Nat.le_succ _) _) (Nat.le_refl _) _ _ _ _ _ _ _⟩
set_option maxRecDepth 100000 in
set_option maxHeartbeats 3200000 in
theorem cut_60 {m:Nat} (hP:RPS m) (s:ByteArray) (a:Nat) (w:World) (ha:a < s.size) (hc:s[a] = 60) (_hm:s.size ≤ m + 1) (hs:s.size ≤ 1000) :
  Calls Tryz.prog 148 #[.string s,.int .i64 (a:Int)] w fun e w'=>CutGot s a e w' ∧ Below w.heap.size w w':=by
 have HP:=hide hP
 have HRE:=hide (rest_lt ha)
 have ha1:a + 1 ≤ s.size:=by omega
 have HSA:=hide hc
 rw [hc] at HRE
 clear hP
 go_enter Tryz.func148,Tryz.ntmps148
 go_wp2_with fail
 refine (among_any 60 l38 _ (by decide)).mono ?_
 rintro e w' ⟨rfl,rfl⟩
 rw [show decide ((60:UInt8) ∈ l38.data.toList) = false from by decide]
 go_wp2_with fail
 rw [show ((a:Int) + 1) = ((a + 1:Nat):Int) by omega]
 refine (whole_c s (a + 1) (-99) 99 _ ha1 (by omega) (by decide) (by decide)).mono ?_
 rintro e w1 ⟨k,ok,c2,rfl,hle,hc2l,hwh,hb1⟩
 obtain ⟨b0,b1,b2,hbel⟩:=three hb1
 have hc0:∀ i,w1.cell? ⟨w.heap.size,i,none⟩ = (#[.int .u8 0,.int .i64 0,.int .i64 0,.int .i64 0,.slice none 0 0,.string ⟨#[]⟩,.string ⟨#[]⟩]:Array Value)[i]?:=fun i=>blk_cell b0 i
 have hf0:∀ i,w1.frozen? ⟨w.heap.size,i,none⟩ = false:=fun i=>blk_free b0 i
 have hc1:∀ i,w1.cell? ⟨w.heap.size + 1,i,none⟩ = (#[.int .u8 60,.int .i64 0,.int .i64 0,.int .i64 0,.slice none 0 0,.string ⟨#[]⟩,.string ⟨#[]⟩]:Array Value)[i]?:=fun i=>blk_cell b1 i
 have hf1:∀ i,w1.frozen? ⟨w.heap.size + 1,i,none⟩ = false:=fun i=>blk_free b1 i
 have HBel:=hide hbel
 have HFn:=hide (fun wf=>cntR (w:=wf) (c:=60) (by decide) hc2l hwh)
 clear b0 b1 b2 hbel hwh hb1
 go_wp2_with fail
 exact bodyPost_ret (v:=.tuple #[RC.value ⟨60,0,0,k,none,0,0,⟨#[]⟩,⟨#[]⟩⟩,.int .i64 (c2:Int),.bool ok]) (by simp [results,Tryz.results148,go_sem,hc0,RC.value,RC.cells]) rfl ⟨⟨⟨60,0,0,k,none,0,0,⟨#[]⟩,⟨#[]⟩⟩,_,ok,rfl,by rw [unhide HRE];exact unhide HFn _⟩,st7_below (Below.setCell (p:=⟨w.heap.size + 1,3,none⟩) (unhide HBel) (Nat.le_succ _) _) (Nat.le_refl _) _ _ _ _ _ _ _⟩
set_option maxRecDepth 100000 in
set_option maxHeartbeats 3200000 in
theorem cut_116 {m:Nat} (hP:RPS m) (s:ByteArray) (a:Nat) (w:World) (ha:a < s.size) (hc:s[a] = 116) (_hm:s.size ≤ m + 1) (hs:s.size ≤ 1000) :
  Calls Tryz.prog 148 #[.string s,.int .i64 (a:Int)] w fun e w'=>CutGot s a e w' ∧ Below w.heap.size w w':=by
 have HP:=hide hP
 have HRE:=hide (rest_lt ha)
 have ha1:a + 1 ≤ s.size:=by omega
 have HSA:=hide hc
 rw [hc] at HRE
 clear hP
 go_enter Tryz.func148,Tryz.ntmps148
 go_wp2_with fail
 refine (among_any 116 l38 _ (by decide)).mono ?_
 rintro e w' ⟨rfl,rfl⟩
 rw [show decide ((116:UInt8) ∈ l38.data.toList) = false from by decide]
 go_wp2_with fail
 rw [show ((a:Int) + 1) = ((a + 1:Nat):Int) by omega]
 refine (whole_c s (a + 1) 0 12 _ ha1 (by omega) (by decide) (by decide)).mono ?_
 rintro e w1 ⟨k,ok,c2,rfl,hle,hc2l,hwh,hb1⟩
 obtain ⟨b0,b1,b2,hbel⟩:=three hb1
 have hc0:∀ i,w1.cell? ⟨w.heap.size,i,none⟩ = (#[.int .u8 0,.int .i64 0,.int .i64 0,.int .i64 0,.slice none 0 0,.string ⟨#[]⟩,.string ⟨#[]⟩]:Array Value)[i]?:=fun i=>blk_cell b0 i
 have hf0:∀ i,w1.frozen? ⟨w.heap.size,i,none⟩ = false:=fun i=>blk_free b0 i
 have hc1:∀ i,w1.cell? ⟨w.heap.size + 1,i,none⟩ = (#[.int .u8 116,.int .i64 0,.int .i64 0,.int .i64 0,.slice none 0 0,.string ⟨#[]⟩,.string ⟨#[]⟩]:Array Value)[i]?:=fun i=>blk_cell b1 i
 have hf1:∀ i,w1.frozen? ⟨w.heap.size + 1,i,none⟩ = false:=fun i=>blk_free b1 i
 have HBel:=hide hbel
 have HFn:=hide (fun wf=>cntR (w:=wf) (c:=116) (by decide) hc2l hwh)
 clear b0 b1 b2 hbel hwh hb1
 go_wp2_with fail
 exact bodyPost_ret (v:=.tuple #[RC.value ⟨116,0,0,k,none,0,0,⟨#[]⟩,⟨#[]⟩⟩,.int .i64 (c2:Int),.bool ok]) (by simp [results,Tryz.results148,go_sem,hc0,RC.value,RC.cells]) rfl ⟨⟨⟨116,0,0,k,none,0,0,⟨#[]⟩,⟨#[]⟩⟩,_,ok,rfl,by rw [unhide HRE];exact unhide HFn _⟩,st7_below (Below.setCell (p:=⟨w.heap.size + 1,3,none⟩) (unhide HBel) (Nat.le_succ _) _) (Nat.le_refl _) _ _ _ _ _ _ _⟩
set_option maxRecDepth 100000 in
set_option maxHeartbeats 3200000 in
theorem cut_100 {m:Nat} (hP:RPS m) (s:ByteArray) (a:Nat) (w:World) (ha:a < s.size) (hc:s[a] = 100) (_hm:s.size ≤ m + 1) (hs:s.size ≤ 1000) :
  Calls Tryz.prog 148 #[.string s,.int .i64 (a:Int)] w fun e w'=>CutGot s a e w' ∧ Below w.heap.size w w':=by
 have HP:=hide hP
 have HRE:=hide (rest_lt ha)
 have ha1:a + 1 ≤ s.size:=by omega
 have HSA:=hide hc
 rw [hc] at HRE
 clear hP
 go_enter Tryz.func148,Tryz.ntmps148
 go_wp2_with fail
 refine (among_any 100 l38 _ (by decide)).mono ?_
 rintro e w' ⟨rfl,rfl⟩
 rw [show decide ((100:UInt8) ∈ l38.data.toList) = false from by decide]
 go_wp2_with fail
 rw [show ((a:Int) + 1) = ((a + 1:Nat):Int) by omega]
 refine (whole_c s (a + 1) 0 12 _ ha1 (by omega) (by decide) (by decide)).mono ?_
 rintro e w1 ⟨k,ok,c2,rfl,hle,hc2l,hwh,hb1⟩
 obtain ⟨b0,b1,b2,hbel⟩:=three hb1
 have hc0:∀ i,w1.cell? ⟨w.heap.size,i,none⟩ = (#[.int .u8 0,.int .i64 0,.int .i64 0,.int .i64 0,.slice none 0 0,.string ⟨#[]⟩,.string ⟨#[]⟩]:Array Value)[i]?:=fun i=>blk_cell b0 i
 have hf0:∀ i,w1.frozen? ⟨w.heap.size,i,none⟩ = false:=fun i=>blk_free b0 i
 have hc1:∀ i,w1.cell? ⟨w.heap.size + 1,i,none⟩ = (#[.int .u8 100,.int .i64 0,.int .i64 0,.int .i64 0,.slice none 0 0,.string ⟨#[]⟩,.string ⟨#[]⟩]:Array Value)[i]?:=fun i=>blk_cell b1 i
 have hf1:∀ i,w1.frozen? ⟨w.heap.size + 1,i,none⟩ = false:=fun i=>blk_free b1 i
 have HBel:=hide hbel
 have HFn:=hide (fun wf=>cntR (w:=wf) (c:=100) (by decide) hc2l hwh)
 clear b0 b1 b2 hbel hwh hb1
 go_wp2_with fail
 exact bodyPost_ret (v:=.tuple #[RC.value ⟨100,0,0,k,none,0,0,⟨#[]⟩,⟨#[]⟩⟩,.int .i64 (c2:Int),.bool ok]) (by simp [results,Tryz.results148,go_sem,hc0,RC.value,RC.cells]) rfl ⟨⟨⟨100,0,0,k,none,0,0,⟨#[]⟩,⟨#[]⟩⟩,_,ok,rfl,by rw [unhide HRE];exact unhide HFn _⟩,st7_below (Below.setCell (p:=⟨w.heap.size + 1,3,none⟩) (unhide HBel) (Nat.le_succ _) _) (Nat.le_refl _) _ _ _ _ _ _ _⟩
set_option maxRecDepth 100000 in
set_option maxHeartbeats 3200000 in
theorem cut_35 {m:Nat} (hP:RPS m) (s:ByteArray) (a:Nat) (w:World) (ha:a < s.size) (hc:s[a] = 35) (_hm:s.size ≤ m + 1) (hs:s.size ≤ 1000) :
  Calls Tryz.prog 148 #[.string s,.int .i64 (a:Int)] w fun e w'=>CutGot s a e w' ∧ Below w.heap.size w w':=by
 have HP:=hide hP
 have HRE:=hide (rest_lt ha)
 have ha1:a + 1 ≤ s.size:=by omega
 have HSA:=hide hc
 rw [hc] at HRE
 clear hP
 go_enter Tryz.func148,Tryz.ntmps148
 go_wp2_with fail
 refine (among_any 35 l38 _ (by decide)).mono ?_
 rintro e w' ⟨rfl,rfl⟩
 rw [show decide ((35:UInt8) ∈ l38.data.toList) = false from by decide]
 go_upto_block 0 with fail
 go_cut [9,10,11] from 26 to 98 (fun v9 v10 _ wx=>Laid s a w v9 v10 wx)
 case first=>
  go_wp2_with fail
  rw [show ((a:Int) + 1) = ((a + 1:Nat):Int) by omega]
  refine (places_any s (a + 1) _ ha1 hs).mono ?_
  rintro e w1 ⟨⟨ps,c2,ao,cap,hc2l,hpl,hown,rfl⟩ | ⟨hpl,x,bz,rfl⟩,hb1⟩
  ·rw [show RC.value ⟨35,0,0,0,ao,ps.length,cap,⟨#[]⟩,⟨#[]⟩⟩ = .agg #[.int .u8 35,.int .i64 0,.int .i64 0,.int .i64 0,.slice ao ps.length cap,.string ⟨#[]⟩,.string ⟨#[]⟩] from rfl]
   have hpb:=PB.behind hb1
   obtain ⟨_,_,hc1,hf1⟩:=hpb.f
   have hcy:∀ i,w1.cell? ⟨w.heap.size + 1,i,none⟩ = (#[.int .u8 35,.int .i64 0,.int .i64 0,.int .i64 0,.slice none 0 0,.string ⟨#[]⟩,.string ⟨#[]⟩]:Array Value)[i]?:=hc1
   have HPB:=hide hpb
   have HL:=hide (Laid.of (s:=s) (a:=a) (Kd:=35) (P:=0) (Q:=0) (K:=0) (pa:=ao) (pn:=ps.length) (pc:=cap) (F:=⟨#[]⟩) (G:=⟨#[]⟩) (bz:=(c2:Int)) (ok:=true) hpb (Or.inl ⟨rfl,.sp (.pick ps),c2,rfl,hc2l,by rw [unhide HRE];exact rdP_pick E0 hpl,⟨rfl,hown⟩⟩))
   clear hpb hown hpl hb1 hc1
   go_wp2_with fail
   go_meet
   exact unhide HL
  ·obtain ⟨Kd,P,Q,K,pa,pn,pc,F,G⟩:=x
   rw [(show RC.value ⟨Kd,P,Q,K,pa,pn,pc,F,G⟩ = .agg #[.int .u8 (Kd.toNat:Int),.int .i64 P,.int .i64 Q,.int .i64 K,.slice pa pn pc,.string F,.string G] from rfl)]
   have hpb:=PB.behind hb1
   obtain ⟨_,_,hc1,hf1⟩:=hpb.f
   have hcy:∀ i,w1.cell? ⟨w.heap.size + 1,i,none⟩ = (#[.int .u8 35,.int .i64 0,.int .i64 0,.int .i64 0,.slice none 0 0,.string ⟨#[]⟩,.string ⟨#[]⟩]:Array Value)[i]?:=hc1
   have HPB:=hide hpb
   have HL:=hide (Laid.of (s:=s) (a:=a) (Kd:=Kd) (P:=P) (Q:=Q) (K:=K) (pa:=pa) (pn:=pn) (pc:=pc) (F:=F) (G:=G) (bz:=bz) (ok:=false) hpb (Or.inr ⟨rfl,by rw [unhide HRE];exact rdP_pick E0 hpl⟩))
   clear hpb hpl hb1 hc1
   go_wp2_with fail
   go_meet
   exact unhide HL
 case rest=>
  obtain ⟨⟨Kd,P,Q,K,pa,pn,pc,F,G⟩,bz,ok,rfl,rfl,hpb,hcase⟩:=hcut
  have hpb':PB w rz #[.int .u8 (Kd.toNat:Int),.int .i64 P,.int .i64 Q,.int .i64 K,.slice pa pn pc,.string F,.string G] wc:=hpb
  obtain ⟨hc0,hf0,hc1,hf1⟩:=hpb'.f
  have hcz:∀ i,wc.cell? ⟨w.heap.size,i,none⟩ = (#[.int .u8 0,.int .i64 0,.int .i64 0,.int .i64 0,.slice none 0 0,.string ⟨#[]⟩,.string ⟨#[]⟩]:Array Value)[i]?:=hc0
  have HPB:=hide hpb
  have HCs:=hide hcase
  clear hpb hpb' hcase hc0
  go_wp2_with fail
  refine bodyPost_ret (v:=.tuple #[RC.value ⟨Kd,P,Q,K,pa,pn,pc,F,G⟩,.int .i64 bz,.bool ok]) (by simp [results,Tryz.results148,go_sem,hcz,RC.value,RC.cells]) rfl ⟨⟨⟨Kd,P,Q,K,pa,pn,pc,F,G⟩,_,ok,rfl,?_⟩,st7_below (unhide HPB).bel (Nat.le_refl _) _ _ _ _ _ _ _⟩
  rcases unhide HCs with ⟨h1,p,c',h2,h3,h4,h5⟩ | h
  ·exact Or.inl ⟨h1,p,c',h2,h3,h4,h5.laid0 (unhide HPB).b0 _ _ _ _ _ _ _⟩
  ·exact Or.inr h
set_option maxRecDepth 100000 in
set_option maxHeartbeats 3200000 in
theorem cut_40 {m:Nat} (hP:RPS m) (s:ByteArray) (a:Nat) (w:World) (ha:a < s.size) (hc:s[a] = 40) (hm:s.size ≤ m + 1) (hs:s.size ≤ 1000) :
  Calls Tryz.prog 148 #[.string s,.int .i64 (a:Int)] w fun e w'=>CutGot s a e w' ∧ Below w.heap.size w w':=by
 have HP:=hide hP
 have HRE:=hide (rest_lt ha)
 have ha1:a + 1 ≤ s.size:=by omega
 have HSA:=hide hc
 rw [hc] at HRE
 clear hP
 go_enter Tryz.func148,Tryz.ntmps148
 go_wp2_with fail
 refine (among_any 40 l38 _ (by decide)).mono ?_
 rintro e w' ⟨rfl,rfl⟩
 rw [show decide ((40:UInt8) ∈ l38.data.toList) = false from by decide]
 go_upto_block 0 with fail
 go_cut [9,10,11] from 26 to 98 (fun v9 v10 _ wx=>Laid s a w v9 v10 wx)
 case first=>
  go_wp2_with fail
  refine (power_r (unhide HP) s a _ ha (unhide HSA) hm hs).mono ?_
  rintro e w1 ⟨⟨⟨Kd,P,Q,K,pa,pn,pc,F,G⟩,bz,ok,rfl,hcase⟩,hb1⟩
  rw [(show RC.value ⟨Kd,P,Q,K,pa,pn,pc,F,G⟩ = .agg #[.int .u8 (Kd.toNat:Int),.int .i64 P,.int .i64 Q,.int .i64 K,.slice pa pn pc,.string F,.string G] from rfl)]
  have hpb:=PB.behind hb1
  obtain ⟨_,_,hc1,hf1⟩:=hpb.f
  have hcy:∀ i,w1.cell? ⟨w.heap.size + 1,i,none⟩ = (#[.int .u8 40,.int .i64 0,.int .i64 0,.int .i64 0,.slice none 0 0,.string ⟨#[]⟩,.string ⟨#[]⟩]:Array Value)[i]?:=hc1
  have HPB:=hide hpb
  have HL:=hide (Laid.of hpb hcase)
  clear hpb hcase hb1 hc1
  go_wp2_with fail
  go_meet
  exact unhide HL
 case rest=>
  obtain ⟨⟨Kd,P,Q,K,pa,pn,pc,F,G⟩,bz,ok,rfl,rfl,hpb,hcase⟩:=hcut
  have hpb':PB w rz #[.int .u8 (Kd.toNat:Int),.int .i64 P,.int .i64 Q,.int .i64 K,.slice pa pn pc,.string F,.string G] wc:=hpb
  obtain ⟨hc0,hf0,hc1,hf1⟩:=hpb'.f
  have hcz:∀ i,wc.cell? ⟨w.heap.size,i,none⟩ = (#[.int .u8 0,.int .i64 0,.int .i64 0,.int .i64 0,.slice none 0 0,.string ⟨#[]⟩,.string ⟨#[]⟩]:Array Value)[i]?:=hc0
  have HPB:=hide hpb
  have HCs:=hide hcase
  clear hpb hpb' hcase hc0
  go_wp2_with fail
  refine bodyPost_ret (v:=.tuple #[RC.value ⟨Kd,P,Q,K,pa,pn,pc,F,G⟩,.int .i64 bz,.bool ok]) (by simp [results,Tryz.results148,go_sem,hcz,RC.value,RC.cells]) rfl ⟨⟨⟨Kd,P,Q,K,pa,pn,pc,F,G⟩,_,ok,rfl,?_⟩,st7_below (unhide HPB).bel (Nat.le_refl _) _ _ _ _ _ _ _⟩
  rcases unhide HCs with ⟨h1,p,c',h2,h3,h4,h5⟩ | h
  ·exact Or.inl ⟨h1,p,c',h2,h3,h4,h5.laid0 (unhide HPB).b0 _ _ _ _ _ _ _⟩
  ·exact Or.inr h
end Go.Proofs.YtikiaijgcjjloabGreatDoor

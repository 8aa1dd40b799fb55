import Derived.Test.YtikiaijgcjjloabGreatDoorPart8
import Derived.Deep.RegionLaw
import Derived.ArgAppend

namespace Go.Proofs.YtikiaijgcjjloabGreatDoor
open Go Go.RowKit M T Go.Lib
theorem TmIs.cells {Ok:Nat → Prop} {w:World} {b:Nat} {t:Tm} (h:TmIs Ok w b t):b < w.heap.size ∧ w.cell? ⟨b,1,none⟩ = some (.bool t.back) ∧ w.cell? ⟨b,2,none⟩ = some (.bool t.picker) ∧ w.cell? ⟨b,3,none⟩ = some (.bool t.plain):=by
 obtain ⟨sl,xs,h1,_⟩:=h
 exact ⟨lt_of_block h1.blk,by rw [blk_cell h1.blk];rfl,by rw [blk_cell h1.blk];rfl,by rw [blk_cell h1.blk];rfl⟩
theorem times_back (c:Rat):(Sp.times c).opp.isSome = !decide (c.num = 0):=by
 by_cases h:c = 0
 ·subst h;rfl
 ·have hn:c.num ≠ 0:=fun e=>h (num_zero.1 e)
  simp [Sp.opp,h,hn]
theorem hasBack_is {Ok:Nat → Prop} {w:World} {x:PC} {p:Pt} (h:PtIs Ok w x p):Calls Tryz.prog 55 #[PC.value x] w fun e w'=>e = .returned (.bool p.back) ∧ Below w.heap.size w w':=by
 obtain ⟨L,N,K,Tp,Bt,pa,pn,pc,Bo,Ov⟩:=x
 cases p with
 | sp y=>
  rw [PtIs] at h
  obtain ⟨h1,h2⟩:=h
  have h1':L = y.first:=h1
  subst h1'
  rw [Pt.back]
  cases y with
  | times c=>
   have e:Tp = c.num:=h2.1
   rw [times_back,← e]
   exact hasBack_times w
  | _=>first
   | exact hasBack_no (by simp [Sp.first]) w
   | exact hasBack_yes (by simp [Sp.first]) (by simp [Sp.first]) (by simp [Sp.first]) (by simp [Sp.first]) (by simp [Sp.first]) (by simp [Sp.first]) (by simp [Sp.first]) (by simp [Sp.first]) (by simp [Sp.first]) w
 | pow f k=>
  obtain ⟨h1,h2,b,h3,h4⟩:=PtIs.pow_iff.1 h
  have h1':L = 40:=h1
  have h2':K = k:=h2
  have h3':Bo = some b:=h3
  subst h1' h2' h3'
  rw [Pt.back]
  obtain ⟨c1,c2,c3,c4⟩:=h4.cells
  exact hasBack_pow w b _ _ c1 c2 c4
 | under s g=>
  obtain ⟨h1,⟨b,h3,h4⟩,b',h5,h6⟩:=PtIs.under_iff.1 h
  have h1':L = 91:=h1
  have h3':Bo = some b:=h3
  have h5':Ov = some b':=h5
  subst h1' h3' h5'
  rw [Pt.back]
  obtain ⟨c1,c2,c3,c4⟩:=h4.cells
  obtain ⟨d1,d2,d3,d4⟩:=h6.cells
  exact hasBack_under w b b' _ _ _ _ c1 c2 d1 d2 d3 d4
 | name c t=>
  obtain ⟨h1,h2,b,h3,h4⟩:=PtIs.name_iff.1 h
  have h1':L = 65:=h1
  have h3':Bo = some b:=h3
  subst h1' h3'
  rw [Pt.back]
  obtain ⟨c1,c2,c3,c4⟩:=h4.cells
  exact hasBack_name w b _ c1 c2
theorem isPicker_is {Ok:Nat → Prop} {w:World} {x:PC} {p:Pt} (h:PtIs Ok w x p):Calls Tryz.prog 61 #[PC.value x] w fun e w'=>e = .returned (.bool p.picker) ∧ Below w.heap.size w w':=by
 obtain ⟨L,N,K,Tp,Bt,pa,pn,pc,Bo,Ov⟩:=x
 cases p with
 | sp y=>
  rw [PtIs] at h
  obtain ⟨h1,h2⟩:=h
  have h1':L = y.first:=h1
  subst h1'
  rw [Pt.picker]
  cases y <;> first
   | exact isPicker_yes (by simp [Sp.first]) w
   | exact isPicker_no (by simp [Sp.first]) (by simp [Sp.first]) (by simp [Sp.first]) (by simp [Sp.first]) (by simp [Sp.first]) (by simp [Sp.first]) (by simp [Sp.first]) w
 | pow f k=>
  obtain ⟨h1,h2,b,h3,h4⟩:=PtIs.pow_iff.1 h
  have h1':L = 40:=h1
  have h3':Bo = some b:=h3
  subst h1' h3'
  rw [Pt.picker]
  obtain ⟨c1,c2,c3,c4⟩:=h4.cells
  exact isPicker_pow w b _ c1 c3
 | under s g=>
  obtain ⟨h1,_⟩:=PtIs.under_iff.1 h
  have h1':L = 91:=h1
  subst h1'
  rw [Pt.picker]
  exact isPicker_no (by simp) (by simp) (by simp) (by simp) (by simp) (by simp) (by simp) w
 | name c t=>
  obtain ⟨h1,h2,b,h3,h4⟩:=PtIs.name_iff.1 h
  have h1':L = 65:=h1
  have h3':Bo = some b:=h3
  subst h1' h3'
  rw [Pt.picker]
  obtain ⟨c1,c2,c3,c4⟩:=h4.cells
  exact isPicker_name w b _ c1 c3
theorem isPlain_is {Ok:Nat → Prop} {w:World} {x:PC} {p:Pt} (h:PtIs Ok w x p):Calls Tryz.prog 62 #[PC.value x] w fun e w'=>e = .returned (.bool p.plain) ∧ Below w.heap.size w w':=by
 obtain ⟨L,N,K,Tp,Bt,pa,pn,pc,Bo,Ov⟩:=x
 cases p with
 | sp y=>
  rw [PtIs] at h
  obtain ⟨h1,h2⟩:=h
  have h1':L = y.first:=h1
  subst h1'
  rw [Pt.plain]
  cases y <;> first
   | exact isPlain_no (by simp [Sp.first]) w
   | exact isPlain_yes (by simp [Sp.first]) (by simp [Sp.first]) (by simp [Sp.first]) (by simp [Sp.first]) (by simp [Sp.first]) w
 | pow f k=>
  obtain ⟨h1,h2,b,h3,h4⟩:=PtIs.pow_iff.1 h
  have h1':L = 40:=h1
  have h3':Bo = some b:=h3
  subst h1' h3'
  rw [Pt.plain]
  obtain ⟨c1,c2,c3,c4⟩:=h4.cells
  exact isPlain_pow w b _ c1 c4
 | under s g=>
  obtain ⟨h1,⟨b,h3,h4⟩,b',h5,h6⟩:=PtIs.under_iff.1 h
  have h1':L = 91:=h1
  have h3':Bo = some b:=h3
  have h5':Ov = some b':=h5
  subst h1' h3' h5'
  rw [Pt.plain]
  obtain ⟨c1,c2,c3,c4⟩:=h4.cells
  obtain ⟨d1,d2,d3,d4⟩:=h6.cells
  exact isPlain_under w b b' _ _ c1 c4 d1 d4
 | name c t=>
  obtain ⟨h1,h2,b,h3,h4⟩:=PtIs.name_iff.1 h
  have h1':L = 65:=h1
  have h3':Bo = some b:=h3
  subst h1' h3'
  rw [Pt.plain]
  obtain ⟨c1,c2,c3,c4⟩:=h4.cells
  exact isPlain_name w b _ c1 c4
theorem append_where {P:Program} (w:World) (base:Nat) (t ty e:TypeId) (i:TypeInfo) (z:Value) (size bytes:Nat) (ht:P.underlying t = some (.slice e)) (hi:P.info? e = some i) (hz:i.zero = some z)
  (hsize:i.size = size) (hby:i.bytes = bytes) (hzs:z.cells.size = size) (hsz:0 < size)
  (v:Value) (n:Nat) (xs:List Value) (hown:w.ownsRow base e size v n xs)
  (a:Addr) (m c:Nat) (news:List Value) (hl:news.length = m * size) (hnews:∀ j u,news[j]? = some u → w.cell? (a.add j) = some u) (h1:∀ u ∈ news,u.oneCell' = true)
  (h63:n + m ≤ maxLen) (hbytes:(n + m) * bytes ≤ 140737488355328) (v':Value) (w':World) (hr:(Builtin.append_ #[t,t] ty #[v,.slice (some a) m c]).run P w = .ok v' w') :
  v'.ownBlock = v.ownBlock ∨ ∀ g,v'.ownBlock = some g → w.heap.size ≤ g:=by
 rcases hown.2 with ⟨rfl,rfl⟩ | ⟨g,cap,cur,rfl,hbg,hg,hnc,hcm,hcs,htake⟩
 ·have hx:xs = []:=List.eq_nil_of_length_eq_zero (by simpa using hown.1)
  subst hx
  obtain ⟨v2,w2,hr2,ho2,_,_⟩:=run_append_own (P:=P) w w.heap.size t ty e i z size bytes ht hi hz hsize hby hzs hsz (.slice none 0 0) 0 [] (World.ownsRow_nil w _ e size) a m c news hl hnews h1 h63 hbytes (Nat.le_refl _)
  rw [hr] at hr2
  cases hr2
  exact Or.inr fun g hg=>(ho2.lt g hg).1
 ·by_cases hroom:n + m ≤ cap
  ·subst hsize
   have hfit:n * i.size + news.length ≤ cur.size:=by rw [hl,hcs,← Nat.add_mul];exact Nat.mul_le_mul_right _ hroom
   have hr2:=run_append_room (P:=P) w t ty e i ht hi g n cap cur hg a m c news hl hnews h1 hroom hfit
   rw [hr] at hr2
   cases hr2
   exact Or.inl rfl
  ·obtain ⟨v2,w2,hr2,ho2,_⟩:=run_append_arg_grows (P:=P) w t ty e i z size bytes ht hi hz hsize hby hzs hsz ⟨g,0,none⟩ n cap xs hown.1 (hown.cells (g:=g) rfl) a m c news hl hnews (by omega) h63 hbytes
   rw [hr] at hr2
   cases hr2
   exact Or.inr fun g hg=>(ho2.lt g hg).1
theorem step_append_own {P:Program} {ops:Array Oper} {o:Oper} {a:Act} {w:World} {K:Act → World → Prop} {Q:Exit → Act → World → Prop} {E:Prop}
  (hg:o.guard = none) (s x:Operand) (t:TypeId) (hop:o.op = Op.call { callee:=Callee.builtin Builtin.append,args:=#[s,x],argTypes:=#[t,t] })
  (base:Nat) (e:TypeId) (i:TypeInfo) (z:Value) (size bytes:Nat) (ht:P.underlying t = some (.slice e)) (hi:P.info? e = some i) (hz:i.zero = some z)
  (hsize:i.size = size) (hby:i.bytes = bytes) (hzs:z.cells.size = size) (hsz:0 < size)
  (v:Value) (n:Nat) (xs:List Value) (hs:a.eval s = v) (hown:w.ownsRow base e size v n xs)
  (ad:Addr) (m c:Nat) (news:List Value) (hx:a.eval x = .slice (some ad) m c) (hl:news.length = m * size) (hnews:∀ j u,news[j]? = some u → w.cell? (ad.add j) = some u) (h1:∀ u ∈ news,u.oneCell' = true)
  (h63:n + m ≤ maxLen) (hbytes:(n + m) * bytes ≤ 140737488355328) (hbase:base ≤ w.heap.size)
  (h:∀ v' w',w'.ownsRow base e size v' (n + m) (xs ++ news) → w.grownBy w' v.ownBlock → (v' = .slice none 0 0 ↔ v = .slice none 0 0 ∧ m = 0) → (v'.ownBlock = v.ownBlock ∨ ∀ g,v'.ownBlock = some g → w.heap.size ≤ g) → K (a.put o.dst v') w') :
  if Region.wanted o (yielded ops a.tmps) = true then Oper.wp P o a w K Q else E:=by
 rw [if_pos (by simp [Region.wanted,hg])]
 obtain ⟨v',w',hr,h2,h3,h4⟩:=run_append_own (P:=P) w base t o.type e i z size bytes ht hi hz hsize hby hzs hsz v n xs hown ad m c news hl hnews h1 h63 hbytes hbase
 have h5:=append_where (P:=P) w base t o.type e i z size bytes ht hi hz hsize hby hzs hsz v n xs hown ad m c news hl hnews h1 h63 hbytes v' w' hr
 unfold Oper.wp
 simp [execOp,hop,resolve,invoke,builtin,hs,hx,hr,Result.andThen]
 exact h v' w' h2 h3 h4 h5
structure TB (base:Nat) (w:World) (tb:Nat) (ps:List Pt) (sl:Value) (xs:List PC):Prop where
 blk:w.heap[tb]? = some (.cells #[sl,.bool (Tm.of ps).back,.bool (Tm.of ps).picker,.bool (Tm.of ps).plain] 51 (0,0))
 row:w.ownsRow base 82 8 sl xs.length (rowCells xs)
 lt:tb < base
 le:base ≤ w.heap.size
structure Chg (tb:Nat) (sl:Value) (w w':World):Prop where
 os:w'.os = w.os
 tape:w'.tape = w.tape
 output:w'.output = w.output
 size:w.heap.size ≤ w'.heap.size
 block:∀ k,k < w.heap.size → k ≠ tb → sl.ownBlock ≠ some k → w'.heap[k]? = w.heap[k]?
theorem Chg.trans {tb:Nat} {sl:Value} {a b c:World} (h:Chg tb sl a b) (k:Chg tb sl b c):Chg tb sl a c :=
 ⟨k.os.trans h.os,k.tape.trans h.tape,k.output.trans h.output,Nat.le_trans h.size k.size,fun i hi h1 h2=>(k.block i (Nat.lt_of_lt_of_le hi h.size) h1 h2).trans (h.block i hi h1 h2)⟩
theorem Chg.of_below {tb:Nat} {sl:Value} {w w':World} (h:Below w.heap.size w w'):Chg tb sl w w':=⟨h.os,h.tape,h.output,h.size,fun k hk _ _=>h.block k hk⟩
theorem Chg.setCell {tb:Nat} {sl:Value} {a w:World} (h:Chg tb sl a w) (o:Nat) (u:Value):Chg tb sl a (w.setCell ⟨tb,o,none⟩ u) :=
 h.trans ⟨rfl,rfl,rfl,by simp [World.setCell],fun k _ hn _=>Below.heap_setCell _ _ _ _ (by simpa using hn)⟩
theorem Tryz.infoPart:(Tryz.prog.info? 82).map (fun i=>(i.zero,i.size,i.bytes)) = some (some (.agg #[.int .u8 0,.int .u8 0,.int .i64 0,.int .i64 0,.int .i64 0,.slice none 0 0,.pointer none,.pointer none]),8,72):=by kernel_rfl
theorem news_alloc (w:World) (c:List Value) (t:TypeId):∀ j u,c[j]? = some u → (w.alloc (.cells c.toArray t)).cell? ((⟨w.heap.size,0,none⟩:Addr).add j) = some u:=by
 intro j u hj
 have e:(⟨w.heap.size,0,none⟩:Addr).add j = ⟨w.heap.size,j,none⟩:=by unfold Addr.add;split <;> simp_all
 rw [e,blk_cell (heap_alloc_new w _)]
 simpa using hj
theorem one_cells (x:PC):∀ u ∈ x.cells,u.oneCell' = true:=by
 intro u hu
 simp only [PC.cells,List.mem_cons,List.not_mem_nil,or_false] at hu
 rcases hu with rfl | rfl | rfl | rfl | rfl | rfl | rfl | rfl <;> rfl
structure AS (Ok:Nat → Prop) (base:Nat) (w:World) (tb:Nat) (sl sl':Value) (xs:List PC) (x:PC) (p:Pt) (f1 f2 f3:Bool) (wx:World):Prop where
 blk:wx.heap[tb]? = some (.cells #[sl',.bool f1,.bool f2,.bool f3] 51 (0,0))
 box:wx.heap[w.heap.size]? = some (.cells x.cells.toArray 82 (0,0))
 part:PtIs Ok wx x p
 chg:Chg tb sl w wx
 row:wx.ownsRow base 82 8 sl' (xs.length + 1) (rowCells (xs ++ [x]))
theorem AS.below {Ok:Nat → Prop} {base:Nat} {w:World} {tb:Nat} {sl sl':Value} {xs:List PC} {x:PC} {p:Pt} {f1 f2 f3:Bool} {wx wy:World} (h:AS Ok base w tb sl sl' xs x p f1 f2 f3 wx) (hb:Below wx.heap.size wx wy):AS Ok base w tb sl sl' xs x p f1 f2 f3 wy:=by
 refine ⟨by rw [hb.block _ (lt_of_block h.blk)];exact h.blk,by rw [hb.block _ (lt_of_block h.box)];exact h.box,PtIs.keeps (fun k hk hlt=>⟨hb.block k hlt,hk⟩) p x h.part,h.chg.trans (Chg.of_below hb),⟨h.row.1,?_⟩⟩
 rcases h.row.2 with h2 | ⟨g,cap,cur,hv,hg,hh,r⟩
 ·exact Or.inl h2
 ·exact Or.inr ⟨g,cap,cur,hv,hg,by rw [hb.block g (lt_of_block hh)];exact hh,r⟩
theorem AS.set {Ok:Nat → Prop} {base:Nat} {w:World} {tb:Nat} {sl sl':Value} {xs:List PC} {x:PC} {p:Pt} {f1 f2 f3:Bool} {wx:World} (h:AS Ok base w tb sl sl' xs x p f1 f2 f3 wx) (hlt:tb < base) (hw:base ≤ w.heap.size) (hOk:∀ k,Ok k → k ≠ tb ∧ sl.ownBlock ≠ some k) {i:Nat} {v:Value} {g1 g2 g3:Bool} (he:(#[sl',.bool f1,.bool f2,.bool f3]:Array Value).setIfInBounds i v = #[sl',.bool g1,.bool g2,.bool g3]):AS Ok base w tb sl sl' xs x p g1 g2 g3 (wx.setCell ⟨tb,i,none⟩ v):=by
 refine ⟨by rw [blk_set h.blk,he],by rw [Below.heap_setCell _ _ _ _ (by show w.heap.size ≠ tb;omega)];exact h.box,PtIs.keeps (fun k hk _=>⟨Below.heap_setCell _ _ _ _ (by show k ≠ tb;exact (hOk k hk).1),hk⟩) p x h.part,h.chg.setCell _ _,⟨h.row.1,?_⟩⟩
 rcases h.row.2 with h2 | ⟨g,cap,cur,hv,hg,hh,r⟩
 ·exact Or.inl h2
 ·exact Or.inr ⟨g,cap,cur,hv,hg,by rw [Below.heap_setCell _ _ _ _ (by show g ≠ tb;omega)];exact hh,r⟩
theorem AS.cells {Ok:Nat → Prop} {base:Nat} {w:World} {tb:Nat} {sl sl':Value} {xs:List PC} {x:PC} {p:Pt} {f1 f2 f3:Bool} {wx:World} (h:AS Ok base w tb sl sl' xs x p f1 f2 f3 wx):(∀ i,wx.cell? ⟨tb,i,none⟩ = (#[sl',.bool f1,.bool f2,.bool f3]:Array Value)[i]?) ∧ (∀ i,wx.frozen? ⟨tb,i,none⟩ = false) ∧ (∀ i,wx.cell? ⟨w.heap.size,i,none⟩ = x.cells.toArray[i]?):=⟨fun i=>blk_cell h.blk i,fun i=>blk_free h.blk i,fun i=>blk_cell h.box i⟩
theorem rowCells_snoc (xs:List PC) (x:PC):rowCells xs ++ x.cells = rowCells (xs ++ [x]):=by unfold rowCells;simp
theorem grown_blk {base:Nat} {w w1:World} {tb:Nat} {ps:List Pt} {sl:Value} {xs:List PC} {x:PC} (h:TB base w tb ps sl xs) {o:Obj} (hg:((w.alloc (.cells x.cells.toArray 82)).alloc o).drew.grownBy w1 sl.ownBlock):(∀ i,w1.cell? ⟨tb,i,none⟩ = (#[sl,.bool (Tm.of ps).back,.bool (Tm.of ps).picker,.bool (Tm.of ps).plain]:Array Value)[i]?) ∧ (∀ i,w1.frozen? ⟨tb,i,none⟩ = false):=by
 have hlt:=lt_of_block h.blk
 have hne:some tb ≠ sl.ownBlock:=fun e=>by have:=(h.row.lt tb e.symm).1;have:=h.lt;omega
 have hb:w1.heap[tb]? = some (.cells #[sl,.bool (Tm.of ps).back,.bool (Tm.of ps).picker,.bool (Tm.of ps).plain] 51 (0,0)):=by
  rw [hg.block tb (by show tb < ((w.heap.push _).push _).size;simp;omega) hne]
  show ((w.alloc _).alloc _).heap[tb]? = _
  rw [Below.heap_alloc _ _ _ (by simp;omega),Below.heap_alloc _ _ _ hlt]
  exact h.blk
 exact ⟨fun i=>blk_cell hb i,fun i=>blk_free hb i⟩
theorem as_first {Ok : Nat → Prop} {base : Nat} {w : World} {tb : Nat} {ps : List Pt} {sl v' : Value} {xs : List PC} {x : PC} {p : Pt} {w1 : World} (h : TB base w tb ps sl xs) (hp : PtIs Ok w x p) (hOk : ∀ k, Ok k → k ≠ tb ∧ sl.ownBlock ≠ some k) {o : Obj} (hown : w1.ownsRow base 82 8 v' (xs.length + 1) (rowCells xs ++ x.cells)) (hg : ((w.alloc (.cells x.cells.toArray 82)).alloc o).drew.grownBy w1 sl.ownBlock) : AS Ok base w tb sl v' xs x p (Tm.of ps).back (Tm.of ps).picker (Tm.of ps).plain (w1.setCell ⟨tb, 0, none⟩ v') := by
  have hlt := lt_of_block h.blk
  have hle := h.le
  have htb := h.lt
  have hne : ∀ k, k < base → some k ≠ sl.ownBlock := fun k hk e => by have := (h.row.lt k e.symm).1; omega
  have hold : ∀ k, k < w.heap.size → some k ≠ sl.ownBlock → w1.heap[k]? = w.heap[k]? := by
    intro k hk hn
    rw [hg.block k (by show k < ((w.heap.push _).push _).size; simp; omega) hn]
    show ((w.alloc _).alloc _).heap[k]? = _
    rw [Below.heap_alloc _ _ _ (by simp; omega), Below.heap_alloc _ _ _ hk]
  have hbox : w1.heap[w.heap.size]? = some (.cells x.cells.toArray 82 (0, 0)) := by
    rw [hg.block w.heap.size (by show w.heap.size < ((w.heap.push _).push _).size; simp; omega) (fun e => by have := (h.row.lt _ e.symm).2; omega)]
    show ((w.alloc _).alloc _).heap[w.heap.size]? = _
    rw [Below.heap_alloc _ _ _ (by simp)]
    exact heap_alloc_new w _
  have hblk : w1.heap[tb]? = _ := (hold tb hlt (hne tb htb)).trans h.blk
  have hchg : Chg tb sl w w1 := ⟨hg.os, hg.tape, hg.output, by have := hg.size; have e : w.heap.size ≤ ((w.heap.push (.cells x.cells.toArray 82 (0, 0))).push o).size := by simp; omega
                                                               exact Nat.le_trans e this, fun k hk _ h2 => hold k hk (fun e => h2 e.symm)⟩
  refine ⟨by rw [blk_set hblk]; rfl, by rw [Below.heap_setCell _ _ _ _ (by show w.heap.size ≠ tb; omega)]; exact hbox, PtIs.keeps (fun k hk hk2 => ⟨(Below.heap_setCell _ _ _ _ (by show k ≠ tb; exact (hOk k hk).1)).trans (hold k hk2 (fun e => (hOk k hk).2 e.symm)), hk⟩) p x hp, hchg.setCell _ _, ⟨by rw [← rowCells_snoc]; exact hown.1, ?_⟩⟩
  rcases hown.2 with ⟨h2, h3⟩ | ⟨g, cap, cur, hv, hg2, hh, r⟩
  · exact absurd h3 (by omega)
  · exact Or.inr ⟨g, cap, cur, hv, hg2, by rw [Below.heap_setCell _ _ _ _ (by show g ≠ tb; omega)]; exact hh, by rw [← rowCells_snoc]; exact r⟩
theorem as_done {Ok:Nat → Prop} {base:Nat} {w:World} {tb:Nat} {ps:List Pt} {sl sl':Value} {xs:List PC} {x:PC} {p:Pt} {f1 f2 f3:Bool} {wx:World} (hf:(Tm.of (ps ++ [p])).back = f1 ∧ (Tm.of (ps ++ [p])).picker = f2 ∧ (Tm.of (ps ++ [p])).plain = f3) (hlt:tb < base) (hle:base ≤ w.heap.size) (h:AS Ok base w tb sl sl' xs x p f1 f2 f3 wx):TB base wx tb (ps ++ [p]) sl' (xs ++ [x]):=by
 refine ⟨by rw [hf.1,hf.2.1,hf.2.2];exact h.blk,by rw [List.length_append];exact h.row,hlt,Nat.le_trans hle h.chg.size⟩
set_option maxRecDepth 100000 in
set_option maxHeartbeats 3200000 in
theorem add_any {Ok:Nat → Prop} {base:Nat} {w:World} {tb:Nat} {ps:List Pt} {sl:Value} {xs:List PC} {x:PC} {p:Pt} (h:TB base w tb ps sl xs) (hp:PtIs Ok w x p) (hOk:∀ k,Ok k → k ≠ tb ∧ sl.ownBlock ≠ some k) (hlen:xs.length ≤ 1000) :
  Calls Tryz.prog 37 #[.pointer (some ⟨tb,0,none⟩),PC.value x] w fun e w'=>e = .returned (.tuple #[]) ∧ Chg tb sl w w' ∧ ∃ sl',TB base w' tb (ps ++ [p]) sl' (xs ++ [x]) ∧ (sl'.ownBlock = sl.ownBlock ∨ ∀ g,sl'.ownBlock = some g → w.heap.size ≤ g):=by
 obtain ⟨i0,hi,hz0,hz1,hz2⟩:=info_parts Tryz.infoPart
 have hlt:=lt_of_block h.blk
 have hc0:w.cell? ⟨tb,0,none⟩ = some sl:=by rw [blk_cell h.blk];rfl
 have hf0:∀ i,w.frozen? ⟨tb,i,none⟩ = false:=fun i=>blk_free h.blk i
 have H:=hide h
 have HP:=hide hp
 have HO:=hide hOk
 have hbase:=h.le
 obtain ⟨L,N,K,Tp,Bt,pa,pn,pc,Bo,Ov⟩:=x
 clear h hp hOk
 show Calls _ _ #[_,.agg #[.int .u8 (L.toNat:Int),.int .u8 (N.toNat:Int),.int .i64 K,.int .i64 Tp,.int .i64 Bt,.slice pa pn pc,.pointer (Bo.map fun b=>⟨b,0,none⟩),.pointer (Ov.map fun b=>⟨b,0,none⟩)]] _ _
 go_enter Tryz.func37,Tryz.ntmps37
 go_upto_region 1 with fail
 go_cut [] (fun wx=>∃ sl',AS Ok base w tb sl sl' xs ⟨L,N,K,Tp,Bt,pa,pn,pc,Bo,Ov⟩ p (Tm.of ps).back (Tm.of ps).picker (Tm.of ps).plain wx ∧ (sl'.ownBlock = sl.ownBlock ∨ ∀ g,sl'.ownBlock = some g → w.heap.size ≤ g))
 case first=>
  go_region_law (refine step_append_own rfl (.tmp 8) (.tmp 10) 49 rfl base 82 i0 _ 8 72 Tryz.underlying49 hi hz0 hz1 hz2 rfl (by decide) sl xs.length (rowCells xs) (by simp [Act.eval]) (by first | exact (((unhide H).row.alloc _).alloc _).drew | exact ((unhide H).row.alloc _).drew.alloc _) ⟨w.heap.size + 1,0,none⟩ 1 1 (PC.cells ⟨L,N,K,Tp,Bt,pa,pn,pc,Bo,Ov⟩) (by simp [Act.eval]) rfl (by have:=news_alloc (w.alloc (.cells (PC.cells ⟨L,N,K,Tp,Bt,pa,pn,pc,Bo,Ov⟩).toArray 82)) (PC.cells ⟨L,N,K,Tp,Bt,pa,pn,pc,Bo,Ov⟩) 82;rw [World.size_alloc] at this;exact this) (one_cells _) (by unfold maxLen;omega) (by omega) (by simp;omega) ?_;intro v' w1 hown1 hgr1 hnn1 hwh1;obtain ⟨g',cap',rfl⟩:=owns_some hown1 (fun e=>absurd (hnn1.1 e).2 (by decide));obtain ⟨hc1,hf1⟩:=grown_blk (x:=⟨L,N,K,Tp,Bt,pa,pn,pc,Bo,Ov⟩) (unhide H) hgr1)
  all_goals go_wp2_with fail
  all_goals go_meet
  all_goals exact ⟨_,as_first (x:=⟨L,N,K,Tp,Bt,pa,pn,pc,Bo,Ov⟩) (unhide H) (unhide HP) (unhide HO) hown1 hgr1,hwh1.imp id (fun h g hg=>by have:=h g hg;simp at this;omega)⟩
 case rest=>
 obtain ⟨sl',hAS,hW⟩:=hcut
 have HW:=hide hW
 have htb:=(unhide H).lt
 have HF:=hide (of_facts ps p)
 clear hW hc0 hf0
 generalize (Tm.of ps).back = b1 at hAS HF
 generalize (Tm.of ps).picker = b2 at hAS HF
 generalize (Tm.of ps).plain = b3 at hAS HF
 have hC:=hAS.cells
 obtain ⟨hct,hft,hcx0⟩:=hC
 have hcx:∀ i,wc.cell? ⟨w.heap.size,i,none⟩ = (#[.int .u8 (L.toNat:Int),.int .u8 (N.toNat:Int),.int .i64 K,.int .i64 Tp,.int .i64 Bt,.slice pa pn pc,.pointer (Bo.map fun b=>⟨b,0,none⟩),.pointer (Ov.map fun b=>⟨b,0,none⟩)]:Array Value)[i]?:=hcx0
 clear hcx0
 have HA:=hide hAS
 clear hAS
 go_upto_region 2 with fail
 go_cut [] (fun wx=>AS Ok base w tb sl sl' xs ⟨L,N,K,Tp,Bt,pa,pn,pc,Bo,Ov⟩ p (b1 && p.back) b2 b3 wx)
 case first=>
  cases b1 with
  | false=>
   go_wp2_with fail
   go_meet
   exact (unhide HA).set htb hbase (unhide HO) rfl
  | true=>
   go_wp2_with fail
   refine (hasBack_is (x:=⟨L,N,K,Tp,Bt,pa,pn,pc,Bo,Ov⟩) (unhide HA).part).mono ?_
   rintro e w2 ⟨rfl,hb2⟩
   have hA2:=(unhide HA).below hb2
   obtain ⟨hct2,hft2,_⟩:=hA2.cells
   have HA2:=hide hA2
   clear hA2 hct hft hcx HA hb2
   go_wp2_with fail
   go_meet
   exact (unhide HA2).set htb hbase (unhide HO) rfl
 case rest=>
 have hAS:=hcut
 clear hcut hct hft hcx HA
 have hC:=hAS.cells
 obtain ⟨hct,hft,hcx0⟩:=hC
 have hcx:∀ i,wc.cell? ⟨w.heap.size,i,none⟩ = (#[.int .u8 (L.toNat:Int),.int .u8 (N.toNat:Int),.int .i64 K,.int .i64 Tp,.int .i64 Bt,.slice pa pn pc,.pointer (Bo.map fun b=>⟨b,0,none⟩),.pointer (Ov.map fun b=>⟨b,0,none⟩)]:Array Value)[i]?:=hcx0
 clear hcx0
 have HA:=hide hAS
 clear hAS
 go_upto_region 3 with fail
 go_cut [] (fun wx=>AS Ok base w tb sl sl' xs ⟨L,N,K,Tp,Bt,pa,pn,pc,Bo,Ov⟩ p (b1 && p.back) (b2 && p.picker) b3 wx)
 case first=>
  cases b2 with
  | false=>
   go_wp2_with fail
   go_meet
   exact (unhide HA).set htb hbase (unhide HO) rfl
  | true=>
   go_wp2_with fail
   refine (isPicker_is (x:=⟨L,N,K,Tp,Bt,pa,pn,pc,Bo,Ov⟩) (unhide HA).part).mono ?_
   rintro e w2 ⟨rfl,hb2⟩
   have hA2:=(unhide HA).below hb2
   obtain ⟨hct2,hft2,_⟩:=hA2.cells
   have HA2:=hide hA2
   clear hA2 hct hft hcx HA hb2
   go_wp2_with fail
   go_meet
   exact (unhide HA2).set htb hbase (unhide HO) rfl
 case rest=>
 have hAS:=hcut
 clear hcut hct hft hcx HA
 have hC:=hAS.cells
 obtain ⟨hct,hft,hcx0⟩:=hC
 have hcx:∀ i,wc.cell? ⟨w.heap.size,i,none⟩ = (#[.int .u8 (L.toNat:Int),.int .u8 (N.toNat:Int),.int .i64 K,.int .i64 Tp,.int .i64 Bt,.slice pa pn pc,.pointer (Bo.map fun b=>⟨b,0,none⟩),.pointer (Ov.map fun b=>⟨b,0,none⟩)]:Array Value)[i]?:=hcx0
 clear hcx0
 have HA:=hide hAS
 clear hAS
 cases b3 with
 | false=>
  go_wp2_with fail
  go_end0
  exact ⟨rfl,((unhide HA).set htb hbase (unhide HO) rfl).chg,sl',as_done (unhide HF) htb hbase (((unhide HA).set htb hbase (unhide HO) rfl)),unhide HW⟩
 | true=>
  go_wp2_with fail
  refine (isPlain_is (x:=⟨L,N,K,Tp,Bt,pa,pn,pc,Bo,Ov⟩) (unhide HA).part).mono ?_
  rintro e w2 ⟨rfl,hb2⟩
  have hA2:=(unhide HA).below hb2
  obtain ⟨hct2,hft2,_⟩:=hA2.cells
  have HA2:=hide hA2
  clear hA2 hct hft hcx HA hb2
  go_wp2_with fail
  go_end0
  exact ⟨rfl,((unhide HA2).set htb hbase (unhide HO) rfl).chg,sl',as_done (unhide HF) htb hbase (((unhide HA2).set htb hbase (unhide HO) rfl)),unhide HW⟩
set_option maxRecDepth 100000 in
set_option maxHeartbeats 400000 in
theorem endsTerm_any (c:UInt8) (w:World):Calls Tryz.prog 52 #[.int .u8 (c.toNat:Int)] w fun e w'=>e = .returned (.bool (decide (c = 41 ∨ c = 93 ∨ c = 58))) ∧ w = w':=by
 have key:∀ d:UInt8,c ≠ d → ((c.toNat:Int) == (d.toNat:Int)) = false:=fun d h=>by
  rw [beq_eq_false_iff_ne]
  intro e
  exact h (UInt8.toNat_inj.1 (by omega))
 by_cases h1:c = 41
 ·subst h1
  go_enter Tryz.func52,Tryz.ntmps52
  go_wp2_with fail
  go_ret
  exact ⟨ret_bool (by decide),rfl⟩
 ·have e1:((c.toNat:Int) == 41) = false:=key 41 h1
  by_cases h2:c = 58
  ·subst h2
   go_enter Tryz.func52,Tryz.ntmps52
   go_wp2_with fail
   go_ret
   exact ⟨ret_bool (by decide),rfl⟩
  ·have e2:((c.toNat:Int) == 58) = false:=key 58 h2
   by_cases h3:c = 93
   ·subst h3
    go_enter Tryz.func52,Tryz.ntmps52
    go_wp2_with fail
    go_ret
    exact ⟨ret_bool (by decide),rfl⟩
   ·have e3:((c.toNat:Int) == 93) = false:=key 93 h3
    have HF:=hide (show decide (c = 41 ∨ c = 93 ∨ c = 58) = false by simp [h1,h2,h3])
    clear key h1 h2 h3
    go_enter Tryz.func52,Tryz.ntmps52
    go_wp2_with fail
    go_ret
    exact ⟨ret_bool (unhide HF).symm,rfl⟩
set_option maxRecDepth 100000 in
set_option maxHeartbeats 400000 in
theorem place_yes (c:UInt8) (h1:65 ≤ c.toNat) (h2:c.toNat ≤ 90) (w:World):Calls Tryz.prog 28 #[.int .u8 (c.toNat:Int)] w fun e w'=>e = .returned (.tuple #[.int .i64 ((c.toNat - 65:Nat):Int),.bool true]) ∧ w = w':=by
 have hd1:¬ ((c.toNat:Int) < 65):=by omega
 have hd2:¬ (90 < (c.toNat:Int)):=by omega
 have hsub:((c.toNat:Int) - 65) = ((c.toNat - 65:Nat):Int):=by omega
 have HS:=hide hsub
 clear hsub
 go_enter Tryz.func28,Tryz.ntmps28
 go_wp2_with fail
 exact bodyPost_ret (v:=.tuple #[.int .i64 ((c.toNat - 65:Nat):Int),.bool true]) (by rw [← unhide HS];simp [results,Tryz.results28,go_sem]) rfl ⟨rfl,rfl⟩
set_option maxRecDepth 100000 in
set_option maxHeartbeats 400000 in
theorem place_no (c:UInt8) (h:c.toNat < 65 ∨ 90 < c.toNat) (w:World):Calls Tryz.prog 28 #[.int .u8 (c.toNat:Int)] w fun e w'=>e = .returned (.tuple #[.int .i64 0,.bool false]) ∧ w = w':=by
 rcases h with h | h
 ·have hd1:((c.toNat:Int) < 65):=by omega
  go_enter Tryz.func28,Tryz.ntmps28
  go_wp2_with fail
  exact bodyPost_ret (v:=.tuple #[.int .i64 0,.bool false]) (by simp [results,Tryz.results28,go_sem]) rfl ⟨rfl,rfl⟩
 ·have hd1:¬ ((c.toNat:Int) < 65):=by omega
  have hd2:(90 < (c.toNat:Int)):=by omega
  go_enter Tryz.func28,Tryz.ntmps28
  go_wp2_with fail
  exact bodyPost_ret (v:=.tuple #[.int .i64 0,.bool false]) (by simp [results,Tryz.results28,go_sem]) rfl ⟨rfl,rfl⟩
set_option maxRecDepth 100000 in
set_option maxHeartbeats 400000 in
theorem newTerm_any (w:World):Calls Tryz.prog 35 #[] w fun e w'=>e = .returned (.pointer (some ⟨w.heap.size,0,none⟩)) ∧ w' = w.alloc (.cells #[.slice none 0 0,.bool true,.bool true,.bool true] 51):=by
 go_enter Tryz.func35,Tryz.ntmps35
 go_wp2_with fail
 go_ret
 exact ⟨rfl,rfl⟩
theorem new_TB (w:World):TB (w.heap.size + 1) (w.alloc (.cells #[.slice none 0 0,.bool true,.bool true,.bool true] 51)) w.heap.size [] (.slice none 0 0) [] :=
 ⟨heap_alloc_new w _,World.ownsRow_nil _ _ _ _,by omega,by simp⟩
theorem new_TmIs {Ok:Nat → Prop} (w:World) (h:Ok w.heap.size):TmIs Ok (w.alloc (.cells #[.slice none 0 0,.bool true,.bool true,.bool true] 51)) w.heap.size .nil :=
 ⟨.slice none 0 0,[],⟨h,heap_alloc_new w _,World.ownsRow_nil _ _ _ _,fun g hg=>by cases hg⟩,by rw [PsIs]⟩
structure NmIs (B0:Nat) (w:World) (nm:Nat → Option Nat) (env:Env):Prop where
 known:∀ c:UInt8,65 ≤ c.toNat → c.toNat ≤ 90 → ∀ b,nm (c.toNat - 65) = some b → ∃ t,env c = some t ∧ t.wf ∧ TmIs (fun k=>k < B0) w b t
 unknown:∀ c:UInt8,65 ≤ c.toNat → c.toNat ≤ 90 → nm (c.toNat - 65) = none → env c = none
theorem NmIs.but {B0 rb:Nat} {w w':World} {nm:Nat → Option Nat} {env:Env} (h:NmIs B0 w nm env) (hb:But rb w w') (hr:B0 ≤ rb):NmIs B0 w' nm env :=
 ⟨fun c h1 h2 b hb'=>by
  obtain ⟨t,a,b',c'⟩:=h.known c h1 h2 b hb'
  exact ⟨t,a,b',c'.keeps (fun k hk hlt=>⟨hb.block k hlt (by omega),hk⟩)⟩,h.unknown⟩
theorem NmIs.alloc {B0:Nat} {w:World} {nm:Nat → Option Nat} {env:Env} (h:NmIs B0 w nm env) (o:Obj):NmIs B0 (w.alloc o) nm env :=
 ⟨fun c h1 h2 b hb'=>by
  obtain ⟨t,a,b',c'⟩:=h.known c h1 h2 b hb'
  exact ⟨t,a,b',c'.keeps (fun k hk hlt=>⟨Below.heap_alloc _ _ _ hlt,hk⟩)⟩,h.unknown⟩
def pcNm (c:UInt8) (b:Option Nat):PC:=⟨65,c,0,0,0,none,0,0,b,none⟩
set_option maxRecDepth 100000 in
set_option maxHeartbeats 1600000 in
theorem readName_any {rb:Nat} {s:ByteArray} {nm:Nat → Option Nat} {a:Nat} {u:Bool} {c:UInt8} {env:Env} {B0:Nat} (w:World) (h:RS rb s nm a u w) (ha:a ≤ s.size) (hn:NmIs B0 w nm env) (hno:(c.toNat < 65 ∨ 90 < c.toNat) → RdP env.full (c :: rest s a) none) :
  Calls Tryz.prog 92 #[.pointer (some ⟨rb,0,none⟩),.int .u8 (c.toNat:Int)] w fun e w'=>But rb w w' ∧ Got env (fun k=>k < B0 ∨ w.heap.size ≤ k) rb s nm u (c :: rest s a) e w':=by
 have hlt:=h.lt
 by_cases hr:65 ≤ c.toNat ∧ c.toNat ≤ 90
 ·obtain ⟨h1,h2⟩:=hr
  have hcn0:=h.name (i:=c.toNat - 65) (by omega)
  rw [Nat.add_comm] at hcn0
  have hfz:=h.free 28
  have huk:=h.unk
  have hix:((c.toNat - 65:Nat):Int) < 26:=by omega
  have H:=hide h
  have HN:=hide hn
  clear h hn hno
  cases hb:nm (c.toNat - 65) with
  | some b=>
   rw [hb] at hcn0
   have hcn:w.cell? ⟨rb,2 + (c.toNat - 65),none⟩ = some (.pointer (some ⟨b,0,none⟩)):=hcn0
   have HB:=hide hb
   clear hcn0 hb
   go_enter Tryz.func92,Tryz.ntmps92
   go_wp2_with fail
   refine (place_yes c h1 h2 _).mono ?_
   rintro e w' ⟨rfl,rfl⟩
   go_wp2_with fail
   obtain ⟨t,ht1,ht2,ht3⟩:=(unhide HN).known c h1 h2 b (unhide HB)
   have hfull:env.full c = some t:=by unfold Env.full;rw [ht1];rfl
   refine bodyPost_ret (v:=.tuple #[PC.value (pcNm c (some b)),.bool true]) (by simp [results,Tryz.results92,go_sem,PC.value,PC.cells,pcNm,ptr]) rfl ⟨(But.refl _ _).alloc _,pcNm c (some b),true,a,u,rfl,ha,(unhide H).alloc _,Or.inl ⟨rfl,.name c t,rdP_name env.full h1 h2 hfull ht2 _,?_,by simp [Pt.unk,ht1]⟩⟩
   exact PtIs.name_iff.2 ⟨rfl,rfl,b,rfl,ht3.keeps (fun k hk hlt=>⟨Below.heap_alloc _ _ _ hlt,Or.inl hk⟩)⟩
  | none=>
   rw [hb] at hcn0
   have hcn:w.cell? ⟨rb,2 + (c.toNat - 65),none⟩ = some (.pointer none):=hcn0
   have HB:=hide hb
   clear hcn0 hb
   go_enter Tryz.func92,Tryz.ntmps92
   go_wp2_with fail
   refine (place_yes c h1 h2 _).mono ?_
   rintro e w' ⟨rfl,rfl⟩
   go_wp2_with fail
   refine (newTerm_any _).mono ?_
   rintro e w' ⟨rfl,rfl⟩
   go_wp2_with fail
   have ht1:=(unhide HN).unknown c h1 h2 (unhide HB)
   have hfull:env.full c = some .nil:=by unfold Env.full;rw [ht1];rfl
   refine bodyPost_ret (v:=.tuple #[PC.value (pcNm c (some (w.heap.size + 1))),.bool true]) (by simp [results,Tryz.results92,go_sem,PC.value,PC.cells,pcNm,ptr]) rfl ⟨(((But.refl _ _).setCell _ _).alloc _).alloc _,pcNm c (some (w.heap.size + 1)),true,a,true,rfl,ha,(((unhide H).setUnk true).alloc _).alloc _,Or.inl ⟨rfl,.name c .nil,rdP_name env.full h1 h2 hfull (show True from trivial) _,?_,by simp [Pt.unk,ht1]⟩⟩
   refine PtIs.name_iff.2 ⟨rfl,rfl,w.heap.size + 1,rfl,?_⟩
   have:=new_TmIs (Ok:=fun k=>k < B0 ∨ w.heap.size ≤ k) ((w.setCell ⟨rb,28,none⟩ (.bool true)).alloc (.cells #[.int .u8 65,.int .u8 (c.toNat:Int),.int .i64 0,.int .i64 0,.int .i64 0,.slice none 0 0,.pointer (some ⟨w.heap.size + 1,0,none⟩),.pointer none] 82)) (Or.inr (by simp))
   rw [World.size_alloc,World.size_setCell] at this
   exact this
 ·have HNo:=hide (hno (by omega))
  have hr':c.toNat < 65 ∨ 90 < c.toNat:=by omega
  clear hno hn hr
  have H:=hide h
  clear h
  go_enter Tryz.func92,Tryz.ntmps92
  go_wp2_with fail
  refine (place_no c hr' _).mono ?_
  rintro e w' ⟨rfl,rfl⟩
  go_wp2_with fail
  exact bodyPost_ret (v:=.tuple #[PC.value pc0,.bool false]) (by simp [results,Tryz.results92,go_sem,PC.value,PC.cells,pc0,ptr]) rfl ⟨(But.refl _ _).alloc _,pc0,false,a,u,rfl,ha,(unhide H).alloc _,Or.inr ⟨rfl,rfl,unhide HNo⟩⟩
end Go.Proofs.YtikiaijgcjjloabGreatDoor

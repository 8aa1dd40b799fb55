import Derived.Test.YtikiaijgcjjloabGreatDoorPart40
import Derived.Test.YtikiaijgcjjloabGreatDoorPart34
import Derived.BigQuiet
import Derived.WalkSmall

namespace Go.Proofs.YtikiaijgcjjloabGreatDoor
open Go Go.RowKit M T Go.Lib
theorem mem_told {el:Nat → Nat} {m q:Nat} (h:q ∈ told el m):∃ i,i < m ∧ q = el i:=by
 unfold told at h
 obtain ⟨i,hi,rfl⟩:=List.mem_map.1 h
 exact ⟨i,List.mem_range.1 hi,rfl⟩
theorem work_r {P Q K:Int} {pa:Option Addr} {pn pc:Nat} {F G:ByteArray} {l:List Rat} {ao:Option Addr} {cap:Nat} {w:World} (h:RL w ao cap l) :
  Calls Tryz.prog 85 #[.agg #[.int .u8 114,.int .i64 P,.int .i64 Q,.int .i64 K,.slice pa pn pc,.string F,.string G],.slice ao l.length cap] w fun e w'=>RWGot w (Sp.work .r l) e w':=by
 have hlen:=h.len
 refine (work_moves (Kd:=114) (idx:=told (fun i=>l.length - 1 - i) l.length) (ok:=true) (by decide) (by rw [told_len];exact hlen) (fun _ q hq=>?_) h (fun W _=>from_r hlen P Q pa pn pc F G W)).mono (fun e w' g=>g.of ?_)
 ·obtain ⟨i,hi,rfl⟩:=mem_told hq
  omega
 ·show Except.ok (picked _ l) = .ok l.reverse
  congr 1
  refine picked_ext (by rw [told_len,List.length_reverse]) (fun i h1 h2=>?_)
  rw [told_len] at h1
  rw [told_get,List.getElem_reverse,getD_at (by omega)]
theorem work_shift {P Q K:Int} {pa:Option Addr} {pn pc:Nat} {F G:ByteArray} {l:List Rat} {ao:Option Addr} {cap:Nat} {w:World} (hK1:-1000 ≤ K) (hK2:K ≤ 1000) (h:RL w ao cap l) :
  Calls Tryz.prog 85 #[.agg #[.int .u8 60,.int .i64 P,.int .i64 Q,.int .i64 K,.slice pa pn pc,.string F,.string G],.slice ao l.length cap] w fun e w'=>RWGot w (Sp.work (.shift K) l) e w':=by
 have hlen:=h.len
 refine (work_moves (Kd:=60) (idx:=told (fromN K l.length) l.length) (ok:=true) (by decide) (by rw [told_len];exact hlen) (fun _ q hq=>?_) h (fun W _=>from_shift hK1 hK2 hlen P Q pa pn pc F G W)).mono (fun e w' g=>g.of ?_)
 ·obtain ⟨i,hi,rfl⟩:=mem_told hq
  exact fromN_lt (by omega)
 ·show Except.ok (picked _ l) = .ok (turn K l)
  congr 1
  refine picked_ext (by rw [told_len,turn_length]) (fun i h1 h2=>?_)
  rw [told_len] at h1
  have hf:fromN K l.length i < l.length:=fromN_lt (by omega)
  have ht:=turn_get K l i h1
  rw [List.getElem?_eq_getElem h2,List.getElem?_eq_getElem hf] at ht
  rw [told_get,getD_at hf]
  exact (Option.some.inj ht).symm
theorem work_take {P Q:Int} {k:Nat} {pa:Option Addr} {pn pc:Nat} {F G:ByteArray} {l:List Rat} {ao:Option Addr} {cap:Nat} {w:World} (hk:k ≤ 1000) (h:RL w ao cap l) :
  Calls Tryz.prog 85 #[.agg #[.int .u8 116,.int .i64 P,.int .i64 Q,.int .i64 (k:Int),.slice pa pn pc,.string F,.string G],.slice ao l.length cap] w fun e w'=>RWGot w (Sp.work (.take k) l) e w':=by
 have hlen:=h.len
 refine (work_moves (Kd:=116) (idx:=told (fun i=>i) k) (ok:=decide ((k:Int) ≤ (l.length:Int))) (by decide) (by rw [told_len];exact hk) (fun ho q hq=>?_) h (fun W _=>from_take hk rfl hlen P Q pa pn pc F G W)).mono (fun e w' g=>g.of ?_)
 ·obtain ⟨i,hi,rfl⟩:=mem_told hq
  have:=of_decide_eq_true ho
  omega
 ·show (if decide ((k:Int) ≤ (l.length:Int)) = true then _ else _) = if k ≤ l.length then _ else _
  by_cases hkl:k ≤ l.length
  ·rw [if_pos (decide_eq_true (by omega)),if_pos hkl]
   congr 1
   refine picked_ext (by rw [told_len,List.length_take];omega) (fun i h1 h2=>?_)
   rw [told_len] at h1
   rw [told_get,List.getElem_take,getD_at (by omega)]
  ·rw [if_neg (by simp;omega),if_neg hkl]
theorem work_drop {P Q:Int} {k:Nat} {pa:Option Addr} {pn pc:Nat} {F G:ByteArray} {l:List Rat} {ao:Option Addr} {cap:Nat} {w:World} (hk:k ≤ 1000) (h:RL w ao cap l) :
  Calls Tryz.prog 85 #[.agg #[.int .u8 100,.int .i64 P,.int .i64 Q,.int .i64 (k:Int),.slice pa pn pc,.string F,.string G],.slice ao l.length cap] w fun e w'=>RWGot w (Sp.work (.drop k) l) e w':=by
 have hlen:=h.len
 refine (work_moves (Kd:=100) (idx:=told (fun i=>k + i) (l.length - k)) (ok:=decide ((k:Int) ≤ (l.length:Int))) (by decide) (by rw [told_len];omega) (fun ho q hq=>?_) h (fun W _=>from_drop hk rfl hlen P Q pa pn pc F G W)).mono (fun e w' g=>g.of ?_)
 ·obtain ⟨i,hi,rfl⟩:=mem_told hq
  omega
 ·show (if decide ((k:Int) ≤ (l.length:Int)) = true then _ else _) = if k ≤ l.length then _ else _
  by_cases hkl:k ≤ l.length
  ·rw [if_pos (decide_eq_true (by omega)),if_pos hkl]
   congr 1
   refine picked_ext (by rw [told_len,List.length_drop]) (fun i h1 h2=>?_)
   rw [told_len] at h1
   rw [told_get,List.getElem_drop,getD_at (by omega)]
  ·rw [if_neg (by simp;omega),if_neg hkl]
theorem work_pick {P Q K:Int} {ps:List Nat} {pa:Option Addr} {pc:Nat} {F G:ByteArray} {l:List Rat} {ao:Option Addr} {cap:Nat} {w:World} (hp:w.ownsRow 0 3 1 (.slice pa ps.length pc) ps.length (irowP ps)) (hpl:ps.length ≤ 1000) (hpb:∀ i ∈ ps,i ≤ 1000) (h:RL w ao cap l) :
  Calls Tryz.prog 85 #[.agg #[.int .u8 35,.int .i64 P,.int .i64 Q,.int .i64 K,.slice pa ps.length pc,.string F,.string G],.slice ao l.length cap] w fun e w'=>RWGot w (Sp.work (.pick ps) l) e w':=by
 have hlen:=h.len
 refine (work_moves (Kd:=35) (idx:=ps) (ok:=ps.all (· < l.length)) (by decide) hpl (fun ho q hq=>?_) h (fun W hW=>from_pick (owns_belowP hp hW) hpl hpb hlen P Q K F G)).mono (fun e w' g=>g.of ?_)
 ·simpa using List.all_eq_true.1 ho q hq
 ·rfl
theorem nodup_short {ps:List Nat} (hn:ps.Nodup) (hb:∀ i ∈ ps,i < 12):ps.length ≤ 1000:=by
 have:=List.Nodup.length_le_of_subset hn (fun i hi=>List.mem_range.2 (hb i hi))
 simp at this
 omega
theorem work_any {y:Sp} {x:RC} {l:List Rat} {ao:Option Addr} {cap:Nat} {w:World} (hw:y.wf) (hx:RPt w x (.sp y)) (h:RL w ao cap l) :
  Calls Tryz.prog 85 #[RC.value x,.slice ao l.length cap] w fun e w'=>RWGot w (y.work l) e w':=by
 obtain ⟨Kd,P,Q,K,pa,pn,pc,F,G⟩:=x
 obtain ⟨h1,h2⟩:=hx
 cases y with
 | n=>obtain rfl:Kd = 110:=h1;exact work_n h
 | v=>obtain rfl:Kd = 118:=h1;exact work_v h
 | a=>obtain rfl:Kd = 97:=h1;exact work_a h
 | q=>obtain rfl:Kd = 113:=h1;exact work_q h
 | w=>obtain rfl:Kd = 119:=h1;exact work_w h
 | u=>obtain rfl:Kd = 117:=h1;exact work_u h
 | r=>obtain rfl:Kd = 114:=h1;exact work_r h
 | s=>obtain rfl:Kd = 115:=h1;exact work_s h
 | z=>obtain rfl:Kd = 122:=h1;exact work_z h
 | p=>obtain rfl:Kd = 112:=h1;exact work_p h
 | m=>obtain rfl:Kd = 109:=h1;exact work_mm h
 | o=>obtain rfl:Kd = 111:=h1;exact work_o h
 | plus c=>obtain rfl:Kd = 43:=h1;obtain ⟨e1,e2⟩:=h2;obtain rfl:P = c.num:=e1;obtain rfl:Q = (c.den:Int):=e2;exact work_plus hw h
 | times c=>obtain rfl:Kd = 42:=h1;obtain ⟨e1,e2⟩:=h2;obtain rfl:P = c.num:=e1;obtain rfl:Q = (c.den:Int):=e2;exact work_times hw h
 | set c=>obtain rfl:Kd = 61:=h1;obtain ⟨e1,e2⟩:=h2;obtain rfl:P = c.num:=e1;obtain rfl:Q = (c.den:Int):=e2;exact work_set hw h
 | shift k=>obtain rfl:Kd = 60:=h1;obtain rfl:K = k:=h2;exact work_shift (by have:=hw.1;show -1000 ≤ K;omega) (by have:=hw.2;show K ≤ 1000;omega) h
 | take k=>obtain rfl:Kd = 116:=h1;obtain rfl:K = (k:Int):=h2;exact work_take (by have:k ≤ 12:=hw;omega) h
 | drop k=>obtain rfl:Kd = 100:=h1;obtain rfl:K = (k:Int):=h2;exact work_drop (by have:k ≤ 12:=hw;omega) h
 | pick ps=>
  obtain rfl:Kd = 35:=h1
  have hp:w.ownsRow 0 3 1 (.slice pa pn pc) ps.length (irowP ps):=h2
  obtain rfl:pn = ps.length:=owns_len hp
  exact work_pick hp (nodup_short hw.2.1 hw.2.2) (fun i hi=>by have:=hw.2.2 i hi;omega) h
structure SlC where
 ao:Option Addr
 cap:Nat
 l:List Rat
def SlC.value (c:SlC):Value:=.slice c.ao c.l.length c.cap
def awrow (ls:List SlC):List Value:=ls.map SlC.value
theorem awrow_snoc (ls:List SlC) (c:SlC):awrow ls ++ [c.value] = awrow (ls ++ [c]):=by unfold awrow;simp
theorem awrow_length (ls:List SlC):(awrow ls).length = ls.length:=by unfold awrow;simp
def awayOf (ls:List SlC):List (List Rat):=ls.reverse.map SlC.l
theorem awayOf_snoc (ls:List SlC) (c:SlC):awayOf (ls ++ [c]) = c.l :: awayOf ls:=by unfold awayOf;simp
structure DkIs (w:World) (db:Nat) (c:SlC) (av:Value) (ls:List SlC):Prop where
 blk:w.heap[db]? = some (.cells #[c.value,av] 137 (0,0))
 cur:RL w c.ao c.cap c.l
 aw:w.ownsRow 0 126 1 av ls.length (awrow ls)
 rl:∀ a ∈ ls,RL w a.ao a.cap a.l
theorem RL.kept {w w':World} {ao:Option Addr} {cap:Nat} {l:List Rat} (h:RL w ao cap l) (hk:∀ (k:Nat) (c:Array Value),w.heap[k]? = some (.cells c 139 (0,0)) → w'.heap[k]? = w.heap[k]?):RL w' ao cap l:=by
 refine ⟨⟨h.own.1,?_⟩,h.small,h.len⟩
 rcases h.own.2 with h2 | ⟨g,cp,cur,hv,hg,hh,r⟩
 ·exact Or.inl h2
 ·exact Or.inr ⟨g,cp,cur,hv,hg,(hk g cur hh).trans hh,r⟩
theorem DkIs.row_ty {w:World} {db:Nat} {c:SlC} {av:Value} {ls:List SlC} (h:DkIs w db c av ls) {g:Nat} (hg:av.ownBlock = some g):∃ c,w.heap[g]? = some (.cells c 126 (0,0)):=by
 rcases h.aw.2 with ⟨h1,_⟩ | ⟨g',cap,cur,hv,_,hh,_⟩
 ·rw [h1] at hg;cases hg
 ·rw [hv] at hg;cases hg;exact ⟨cur,hh⟩
theorem Fc.otherD {db:Nat} {c:SlC} {av av':Value} {ls:List SlC} {w w':World} (h:Fc db av w av' w') (hd:DkIs w db c av ls) {k:Nat} {cc:Array Value} {ty:TypeId} (hk:w.heap[k]? = some (.cells cc ty (0,0))) (h1:ty ≠ 137) (h2:ty ≠ 126):w'.heap[k]? = w.heap[k]?:=by
 refine h.chg.block k (lt_of_block hk) (fun e=>?_) (fun e=>?_)
 ·rw [e] at hk;exact h1 (blk_ty hk hd.blk)
 ·obtain ⟨c',hc'⟩:=hd.row_ty e
  exact h2 (blk_ty hk hc')
theorem DkIs.below {w w':World} {db:Nat} {c:SlC} {av:Value} {ls:List SlC} (h:DkIs w db c av ls) (hb:Below w.heap.size w w'):DkIs w' db c av ls :=
 ⟨(hb.block _ (lt_of_block h.blk)).trans h.blk,h.cur.below hb,owns_belowP h.aw hb,fun a ha=>(h.rl a ha).below hb⟩
theorem DkIs.setCur {w:World} {db:Nat} {c c':SlC} {av:Value} {ls:List SlC} (h:DkIs w db c av ls) (hc:RL w c'.ao c'.cap c'.l):DkIs (w.setCell ⟨db,0,none⟩ c'.value) db c' av ls:=by
 have hne:∀ {k:Nat} {cc:Array Value} {ty:TypeId},w.heap[k]? = some (.cells cc ty (0,0)) → ty ≠ 137 → (w.setCell ⟨db,0,none⟩ c'.value).heap[k]? = w.heap[k]?:=fun {k cc ty} hk ht=>Below.heap_setCell _ _ _ _ (by show k ≠ db;rintro rfl;exact ht (blk_ty hk h.blk))
 have hnum:∀ (k:Nat) (cc:Array Value),w.heap[k]? = some (.cells cc 139 (0,0)) → (w.setCell ⟨db,0,none⟩ c'.value).heap[k]? = w.heap[k]?:=fun k cc hk=>hne hk (by decide)
 refine ⟨blk_set h.blk 0 _,hc.kept hnum,⟨h.aw.1,?_⟩,fun a ha=>(h.rl a ha).kept hnum⟩
 rcases h.aw.2 with h2 | ⟨g,cap,cur,hv,hg,hh,r⟩
 ·exact Or.inl h2
 ·exact Or.inr ⟨g,cap,cur,hv,hg,(hne hh (by decide)).trans hh,r⟩
theorem DkIs.grown {w wB w1:World} {db:Nat} {c:SlC} {av:Value} {ls:List SlC} (h:DkIs w db c av ls) (hB:Below w.heap.size w wB) (hg:wB.grownBy w1 av.ownBlock):w1.heap[db]? = some (.cells #[c.value,av] 137 (0,0)):=by
 have hap:av.ownBlock ≠ some db:=fun e=>by
  obtain ⟨c,hc⟩:=h.row_ty e
  exact absurd (blk_ty hc h.blk) (by decide)
 rw [hg.block db (Nat.lt_of_lt_of_le (lt_of_block h.blk) hB.size) (fun e=>hap e.symm),hB.block db (lt_of_block h.blk)]
 exact h.blk
theorem DkIs.push {w wB w1:World} {db:Nat} {c:SlC} {av av':Value} {ls:List SlC} (h:DkIs w db c av ls) (hB:Below w.heap.size w wB) (hg:wB.grownBy w1 av.ownBlock) (hown:w1.ownsRow 0 126 1 av' (ls.length + 1) (awrow ls ++ [c.value])) (hwh:av'.ownBlock = av.ownBlock ∨ ∀ g,av'.ownBlock = some g → wB.heap.size ≤ g) :
  DkIs (w1.setCell ⟨db,1,none⟩ av') db c av' (ls ++ [c]) ∧ Fc db av w av' (w1.setCell ⟨db,1,none⟩ av'):=by
 have hold:∀ k,k < w.heap.size → av.ownBlock ≠ some k → w1.heap[k]? = w.heap[k]?:=fun k hk hn=>(hg.block k (Nat.lt_of_lt_of_le hk hB.size) (fun e=>hn e.symm)).trans (hB.block k hk)
 have hb1:=h.grown hB hg
 have hnum:∀ (k:Nat) (cc:Array Value),w.heap[k]? = some (.cells cc 139 (0,0)) → (w1.setCell ⟨db,1,none⟩ av').heap[k]? = w.heap[k]?:=fun k cc hk=>by
  rw [Below.heap_setCell _ _ _ _ (by show k ≠ db;rintro rfl;exact absurd (blk_ty hk h.blk) (by decide))]
  exact hold k (lt_of_block hk) (fun e=>by obtain ⟨c',hc'⟩:=h.row_ty e;exact absurd (blk_ty hk hc') (by decide))
 refine ⟨⟨blk_set hb1 1 av',h.cur.kept hnum,⟨by rw [← awrow_snoc,show (ls ++ [c]).length = ls.length + 1 by simp];exact hown.1,?_⟩,fun a ha=>?_⟩,⟨Chg.setCell ⟨hg.os.trans hB.os,hg.tape.trans hB.tape,hg.output.trans hB.output,Nat.le_trans hB.size hg.size,fun k hk _ hn=>hold k hk hn⟩ _ _,hwh.imp id (fun hh g hgv=>Nat.le_trans hB.size (hh g hgv))⟩⟩
 ·rw [← awrow_snoc,List.length_append]
  rcases hown.2 with h2 | ⟨g,cap,cur,hv,hg0,hh,r⟩
  ·exact Or.inl h2
  ·refine Or.inr ⟨g,cap,cur,hv,hg0,?_,r⟩
   rw [Below.heap_setCell _ _ _ _ (by show g ≠ db;rintro rfl;exact absurd (blk_ty hh hb1) (by decide))]
   exact hh
 ·rcases List.mem_append.1 ha with ha | ha
  ·exact (h.rl a ha).kept hnum
  ·rw [List.mem_singleton] at ha
   rw [ha]
   exact h.cur.kept hnum
theorem DkIs.pop {w:World} {db g cap:Nat} {c a o:SlC} {ls:List SlC} (h:DkIs w db c (.slice (some ⟨g,0,none⟩) (ls ++ [o] ++ [a]).length cap) (ls ++ [o] ++ [a])):DkIs (w.setCell ⟨db,1,none⟩ (.slice (some ⟨g,0,none⟩) ls.length cap)) db c (.slice (some ⟨g,0,none⟩) ls.length cap) ls:=by
 have hne:∀ {k:Nat} {cc:Array Value} {ty:TypeId},w.heap[k]? = some (.cells cc ty (0,0)) → ty ≠ 137 → (w.setCell ⟨db,1,none⟩ (.slice (some ⟨g,0,none⟩) ls.length cap)).heap[k]? = w.heap[k]?:=fun {k cc ty} hk ht=>Below.heap_setCell _ _ _ _ (by show k ≠ db;rintro rfl;exact ht (blk_ty hk h.blk))
 have hnum:∀ (k:Nat) (cc:Array Value),w.heap[k]? = some (.cells cc 139 (0,0)) → (w.setCell ⟨db,1,none⟩ (.slice (some ⟨g,0,none⟩) ls.length cap)).heap[k]? = w.heap[k]?:=fun k cc hk=>hne hk (by decide)
 have h1:w.ownsRow 0 126 1 (.slice (some ⟨g,0,none⟩) (ls.length + 1 + 1) cap) (ls.length + 1 + 1) ((awrow ls ++ [o.value]) ++ [a.value]):=by
  have:=h.aw
  rw [← awrow_snoc,← awrow_snoc,show (ls ++ [o] ++ [a]).length = ls.length + 1 + 1 by simp] at this
  exact this
 have h2:=ownsRow_pop (by simp [awrow_length]) h1
 have h3:=ownsRow_pop (by simp [awrow_length]) h2
 refine ⟨blk_set h.blk 1 _,h.cur.kept hnum,⟨h3.1,?_⟩,fun a' ha=>(h.rl a' (by simp [ha])).kept hnum⟩
 rcases h3.2 with h4 | ⟨g',cap',cur,hv,hg,hh,r⟩
 ·exact Or.inl h4
 ·exact Or.inr ⟨g',cap',cur,hv,hg,(hne hh (by decide)).trans hh,r⟩
theorem Tryz.infoNums:(Tryz.prog.info? 126).map (fun i=>(i.zero,i.size,i.bytes)) = some (some (.slice none 0 0),1,24):=by kernel_rfl
theorem one_slc (c:SlC):∀ u ∈ [c.value],u.oneCell' = true:=by
 intro u hu
 rw [List.mem_singleton] at hu
 rw [hu]
 rfl
theorem awrow_cell {w:World} {g n cap:Nat} {ls:List SlC} (h:w.ownsRow 0 126 1 (.slice (some ⟨g,0,none⟩) n cap) ls.length (awrow ls)) {j:Nat} (hj:j < ls.length):w.cell? ⟨g,j,none⟩ = some ls[j].value:=by
 have:=h.cells (g:=g) rfl j ls[j].value (by unfold awrow;rw [List.getElem?_map,List.getElem?_eq_getElem hj];rfl)
 rw [show (⟨g,0,none⟩:Addr).add j = ⟨g,j,none⟩ from by unfold Addr.add;split <;> simp_all] at this
 exact this
theorem top_any {w:World} {db:Nat} {c:SlC} {av:Value} {ls:List SlC} (h:DkIs w db c av ls) {k j:Nat} (hk:k + j + 1 = ls.length) (hl:ls.length ≤ 1000000) (hj:j < ls.length) :
  Calls Tryz.prog 125 #[.pointer (some ⟨db,0,none⟩),.int .i64 (k:Int)] w fun e w'=>e = .returned ls[j].value ∧ Below w.heap.size w w':=by
 have haw:=h.aw
 obtain ⟨g,cap,rfl⟩:∃ g cap,av = .slice (some ⟨g,0,none⟩) ls.length cap:=by
  rcases h.aw.2 with ⟨_,h2⟩ | ⟨g,cap,cur,hv,_⟩
  ·omega
  ·exact ⟨g,cap,hv⟩
 have c1:w.cell? ⟨db,1,none⟩ = some (.slice (some ⟨g,0,none⟩) ls.length cap):=blk_cell h.blk 1
 have cj:w.cell? ⟨g,j,none⟩ = some ls[j].value:=awrow_cell haw hj
 generalize ls[j].value = u at cj
 clear h haw
 obtain ⟨n,hn⟩:∃ n,n = ls.length:=⟨_,rfl⟩
 rw [← hn] at c1 hk hl hj
 clear hn
 obtain rfl:j = n - 1 - k:=by omega
 have hkn:k < n:=by omega
 clear hk hj
 go_enter Tryz.func125,Tryz.ntmps125
 go_wp2_with fail
 go_quiet (fail)
 go_wp2_with fail
 go_ret
 exact ⟨rfl,(by repeat (first | exact Below.refl _ _ | refine below_dr ?_ _ | refine Below.drew ?_ | refine Below.setCell ?_ (by simp) _ | refine Below.alloc ?_ (by simp) _))⟩
def DPlay (db:Nat) (av:Value) (n:Nat) (w:World) (r:PRes) (e:Ending) (w':World):Prop:=match r with
 | .ok d _=>e = .returned (.int .i64 0) ∧ ∃ c' av' ls',DkIs w' db c' av' ls' ∧ d = ⟨c'.l,awayOf ls'⟩ ∧ Fc db av w av' w' ∧ ls'.length ≤ n + 1
 | .err k=>e = .returned (.int .i64 k) ∧ k ≠ 0 ∧ ∃ av',Fc db av w av' w'
set_option maxRecDepth 100000 in
set_option maxHeartbeats 800000 in
theorem play_never {w:World} {db:Nat} {av:Value} {x:RC} (f:Nat) (d:Desk) (n:Nat) (hx:RSt w x .never) :
  Calls Tryz.prog 84 #[.pointer (some ⟨db,0,none⟩),RC.value x] w fun e w'=>DPlay db av n w (St.never.play d f) e w':=by
 obtain ⟨Kd,P,Q,K,pa,pn,pc,F,G⟩:=x
 have hk:Kd = 33:=hx
 subst hk
 clear hx
 rw [show RC.value ⟨33,P,Q,K,pa,pn,pc,F,G⟩ = .agg #[.int .u8 33,.int .i64 P,.int .i64 Q,.int .i64 K,.slice pa pn pc,.string F,.string G] from rfl]
 go_enter Tryz.func84,Tryz.ntmps84
 go_wp2_with fail
 go_ret
 exact ⟨rfl,by decide,av,Fc.of_below ((Below.refl _ _).alloc (Nat.le_refl _) _)⟩
set_option maxRecDepth 100000 in
set_option maxHeartbeats 3200000 in
theorem play_aside {w:World} {db:Nat} {c:SlC} {av:Value} {ls:List SlC} {x:RC} (f:Nat) (hx:RSt w x .aside) (h:DkIs w db c av ls) (hl:ls.length ≤ 1000000) :
  Calls Tryz.prog 84 #[.pointer (some ⟨db,0,none⟩),RC.value x] w fun e w'=>DPlay db av ls.length w (St.aside.play ⟨c.l,awayOf ls⟩ f) e w':=by
 obtain ⟨i0,hi0,hz0,hz1,hz2⟩:=info_parts Tryz.infoNums
 obtain ⟨j0,hj0,hy0,hy1,hy2⟩:=info_parts Tryz.infoNum
 obtain ⟨Kd,P,Q,K,pa,pn,pc,F,G⟩:=x
 have hk:Kd = 80:=hx
 subst hk
 clear hx
 rw [show RC.value ⟨80,P,Q,K,pa,pn,pc,F,G⟩ = .agg #[.int .u8 80,.int .i64 P,.int .i64 Q,.int .i64 K,.slice pa pn pc,.string F,.string G] from rfl]
 obtain ⟨ao,cap,l⟩:=c
 have hb:Below w.heap.size w (w.alloc (.cells #[.int .u8 80,.int .i64 P,.int .i64 Q,.int .i64 K,.slice pa pn pc,.string F,.string G] 141)):=(Below.refl _ _).alloc (Nat.le_refl _) _
 have HA:=hide (h.below hb)
 have HB:=hide hb
 clear h hb
 go_enter Tryz.func84,Tryz.ntmps84
 go_upto_region 3 with fail
 generalize w.alloc (.cells #[.int .u8 80,.int .i64 P,.int .i64 Q,.int .i64 K,.slice pa pn pc,.string F,.string G] 141) = wA at HA HB ⊢
 have a0:wA.cell? ⟨db,0,none⟩ = some (.slice ao l.length cap):=blk_cell (unhide HA).blk 0
 have a1:wA.cell? ⟨db,1,none⟩ = some av:=blk_cell (unhide HA).blk 1
 have hdz:db < wA.heap.size:=lt_of_block (unhide HA).blk
 have hll:l.length ≤ 1000:=(unhide HA).cur.len
 go_cut [] (fun wx=>∃ av',DkIs wx db ⟨ao,cap,l⟩ av' (ls ++ [⟨ao,cap,l⟩]) ∧ Fc db av wA av' wx)
 case first=>
  go_region_law (refine step_append_own rfl (.tmp 24) (.tmp 29) 135 rfl 0 126 i0 _ 1 24 Tryz.underlying135 hi0 hz0 hz1 hz2 rfl (by decide) av ls.length (awrow ls) (by simp [Act.eval]) (by first | exact ((unhide HA).aw.alloc _).drew | exact (unhide HA).aw.drew.alloc _) ⟨wA.heap.size,0,none⟩ 1 1 [(SlC.mk ao cap l).value] (by simp [Act.eval]) rfl (by exact news_alloc wA [(SlC.mk ao cap l).value] 126) (one_slc _) (by unfold maxLen;omega) (by omega) (by simp) ?_;intro v' w3 hown3 hgr3 hnn3 hwh3;obtain ⟨g',cap',rfl⟩:=owns_some hown3 (fun e=>absurd (hnn3.1 e).2 (by decide));have hgb:=(unhide HA).grown (Below.drew ((Below.refl _ _).alloc (Nat.le_refl _) _)) hgr3;have hc3:w3.cell? ⟨db,1,none⟩ = some av:=blk_cell hgb 1;have hf3:∀ i,w3.frozen? ⟨db,i,none⟩ = false:=fun i=>blk_free hgb i)
  all_goals go_wp2_with fail
  all_goals go_meet
  all_goals exact ⟨_,(unhide HA).push (Below.drew ((Below.refl _ _).alloc (Nat.le_refl _) _)) hgr3 hown3 hwh3⟩
 case rest=>
 obtain ⟨av',hd1,hc1⟩:=hcut
 have HD:=hide hd1
 have HC:=hide hc1
 clear hd1 hc1 a0 a1 HA
 obtain ⟨w1,hw1⟩:∃ w1,w1 = wc:=⟨_,rfl⟩
 subst hw1
 have a0:w1.cell? ⟨db,0,none⟩ = some (.slice ao l.length cap):=blk_cell (unhide HD).blk 0
 have hdz1:db < w1.heap.size:=lt_of_block (unhide HD).blk
 go_wp2_with fail
 go_loopg [5,6] l.length (fun kk v5 v6 wr=>∃ (i:Nat) (ao':Option Addr) (cp:Nat),kk = l.length - i ∧ i ≤ l.length ∧ v6 = .int .i64 (i:Int) ∧ v5 = .slice ao' (allPlaces i).length cp ∧ RM w1 (.slice ao' (allPlaces i).length cp) (allPlaces i) wr)
 case atStart=>exact ⟨0,none,0,rfl,Nat.zero_le _,rfl,rfl,RM.start w1⟩
 case round=>
  obtain ⟨i,ao',cp,hk,hi,rfl,rfl,hm⟩:=hrel
  have HK:=hide hk
  have HM:=hide hm
  have b0:wr.cell? ⟨db,0,none⟩ = some (.slice ao l.length cap):=(hm.bel.cell (p:=⟨db,0,none⟩) hdz1).trans a0
  have hsz:=hm.bel.size
  have hal:=allPlaces_len i
  have hal2:(allPlaces i).length ≤ 1000:=by omega
  have HAL:=hide hal
  have HSn:=hide (show allPlaces i ++ [rnat i] = allPlaces (i + 1) from range_snoc i)
  have HM2:=hide (hm.below ((Below.refl _ _).alloc (Nat.le_refl _) (.cells (qcells (rnat i)).toArray 139)))
  clear hk hm hal
  by_cases hlt:i < l.length
  ·have hlt':(i:Int) < (l.length:Int):=by omega
   go_wp2_with (at_builtin;refine wpList_append_own _ rfl _ _ 126 rfl w1.heap.size 139 j0 _ 2 16 Tryz.underlying126 hj0 hy0 hy1 hy2 rfl (by decide) _ _ _ rfl (unhide HM2).own ⟨wr.heap.size,0,none⟩ 1 1 (qcells (rnat i)) rfl rfl (nnews_at rfl _ _) (one_qcells _) (by unfold maxLen;omega) (by omega) (by simp;omega) ?_)
   intro v' w4 hown4 hgr4 _
   have hm4:=(unhide HM2).more hown4 hgr4
   rw [unhide HSn] at hm4
   obtain ⟨ao4,cp4,rfl⟩:=hm4.shape
   have HM4:=hide hm4
   clear hm4 hown4 hgr4
   go_wp2_with fail
   go_roundg (l.length - (i + 1))
   case measure=>rw [unhide HK];omega
   case rel=>exact ⟨i + 1,ao4,cp4,rfl,by omega,rfl,rfl,unhide HM4⟩
  ·have hlt':¬ (i:Int) < (l.length:Int):=by omega
   have HIL:=hide (show i = l.length by omega)
   have hbf:∀ o,wr.frozen? ⟨db,o,none⟩ = false:=fun o=>blk_free ((unhide HD).below (unhide HM).bel).blk o
   go_wp2_with fail
   go_ret
   have hfin:DkIs (wr.setCell ⟨db,0,none⟩ (.slice ao' (allPlaces i).length cp)) db ⟨ao',cp,allPlaces i⟩ av' (ls ++ [⟨ao,cap,l⟩]):=((unhide HD).below (unhide HM).bel).setCur (c':=⟨ao',cp,allPlaces i⟩) ((unhide HM).rl (allPlaces_small (by omega)) hal2)
   refine ⟨rfl,SlC.mk ao' cp (allPlaces i),av',ls ++ [SlC.mk ao cap l],hfin,?_,(((Fc.of_below (unhide HB)).trans (unhide HC)).trans (Fc.of_below (unhide HM).bel)).setCell _ _,by simp⟩
   rw [awayOf_snoc,unhide HIL]
theorem top_under {w:World} {db:Nat} {c:SlC} {av:Value} {ls0:List SlC} {o a:SlC} (h:DkIs w db c av (ls0 ++ [o] ++ [a])) (hl:ls0.length ≤ 900000) :
  Calls Tryz.prog 125 #[.pointer (some ⟨db,0,none⟩),.int .i64 1] w fun e w'=>e = .returned o.value ∧ Below w.heap.size w w':=by
 refine (top_any h (k:=1) (j:=ls0.length) (by simp;omega) (by simp;omega) (by simp)).mono ?_
 rintro e w' ⟨he,hb⟩
 refine ⟨?_,hb⟩
 rw [he]
 congr 2
 simp []
theorem top_last {w:World} {db:Nat} {c:SlC} {av:Value} {ls1:List SlC} {a:SlC} (h:DkIs w db c av (ls1 ++ [a])) (hl:ls1.length ≤ 950000) :
  Calls Tryz.prog 125 #[.pointer (some ⟨db,0,none⟩),.int .i64 0] w fun e w'=>e = .returned a.value ∧ Below w.heap.size w w':=by
 refine (top_any h (k:=0) (j:=ls1.length) (by simp) (by simp;omega) (by simp)).mono ?_
 rintro e w' ⟨he,hb⟩
 refine ⟨?_,hb⟩
 rw [he]
 congr 2
 simp
theorem map_rnat_at {idx:List Nat} {l:List Rat} (h:l = idx.map rnat) {i:Nat} (hi:i < l.length) (hj:i < idx.length):l[i].num = ((idx[i]:Nat):Int):=by
 subst h
 rw [List.getElem_map]
 rfl
set_option maxRecDepth 100000 in
set_option maxHeartbeats 3200000 in
theorem play_fetch {w:World} {db:Nat} {c o:SlC} {av:Value} {ls0:List SlC} {x:RC} {idx:List Nat} (f:Nat) (hx:RSt w x .fetch) (h:DkIs w db c av (ls0 ++ [o])) (hci:c.l = idx.map rnat) (hix:∀ i ∈ idx,i < o.l.length) (hl:ls0.length ≤ 900000) :
  Calls Tryz.prog 84 #[.pointer (some ⟨db,0,none⟩),RC.value x] w fun e w'=>DPlay db av (ls0 ++ [o]).length w (St.fetch.play ⟨c.l,awayOf (ls0 ++ [o])⟩ f) e w':=by
 obtain ⟨i0,hi0,hz0,hz1,hz2⟩:=info_parts Tryz.infoNums
 obtain ⟨j0,hj0,hy0,hy1,hy2⟩:=info_parts Tryz.infoNum
 obtain ⟨Kd,P,Q,K,pa,pn,pc,F,G⟩:=x
 have hk:Kd = 73:=hx
 subst hk
 clear hx
 rw [show RC.value ⟨73,P,Q,K,pa,pn,pc,F,G⟩ = .agg #[.int .u8 73,.int .i64 P,.int .i64 Q,.int .i64 K,.slice pa pn pc,.string F,.string G] from rfl]
 obtain ⟨ao,cap,l⟩:=c
 replace hci:l = idx.map rnat:=hci
 have HPl:=hide (show St.fetch.play ⟨l,awayOf (ls0 ++ [o])⟩ f = .ok ⟨picked idx o.l,l :: awayOf (ls0 ++ [o])⟩ f by
  rw [awayOf_snoc]
  show PRes.ok ⟨picked (places l) o.l,_⟩ f = _
  rw [hci,places_rnat])
 have hil:idx.length = l.length:=by rw [hci];simp
 have HCi:=hide hci
 have HIx:=hide hix
 have HIl:=hide hil
 obtain ⟨ls,hls⟩:∃ ls,ls = ls0 ++ [o]:=⟨_,rfl⟩
 rw [← hls] at h HPl ⊢
 have hlsz:ls.length ≤ 900001:=by rw [hls];simp;omega
 have HLs:=hide hls
 have hb:Below w.heap.size w (w.alloc (.cells #[.int .u8 73,.int .i64 P,.int .i64 Q,.int .i64 K,.slice pa pn pc,.string F,.string G] 141)):=(Below.refl _ _).alloc (Nat.le_refl _) _
 have HA:=hide (h.below hb)
 have HB:=hide hb
 clear h hb hci hix hil hls
 go_enter Tryz.func84,Tryz.ntmps84
 go_upto_region 11 with fail
 generalize w.alloc (.cells #[.int .u8 73,.int .i64 P,.int .i64 Q,.int .i64 K,.slice pa pn pc,.string F,.string G] 141) = wA at HA HB ⊢
 have a0:wA.cell? ⟨db,0,none⟩ = some (.slice ao l.length cap):=blk_cell (unhide HA).blk 0
 have a1:wA.cell? ⟨db,1,none⟩ = some av:=blk_cell (unhide HA).blk 1
 have hdz:db < wA.heap.size:=lt_of_block (unhide HA).blk
 have hll:l.length ≤ 1000:=(unhide HA).cur.len
 go_cut [] (fun wx=>∃ av',DkIs wx db ⟨ao,cap,l⟩ av' (ls ++ [⟨ao,cap,l⟩]) ∧ Fc db av wA av' wx)
 case first=>
  go_region_law (refine step_append_own rfl (.tmp 57) (.tmp 62) 135 rfl 0 126 i0 _ 1 24 Tryz.underlying135 hi0 hz0 hz1 hz2 rfl (by decide) av ls.length (awrow ls) (by simp [Act.eval]) (by first | exact ((unhide HA).aw.alloc _).drew | exact (unhide HA).aw.drew.alloc _) ⟨wA.heap.size,0,none⟩ 1 1 [(SlC.mk ao cap l).value] (by simp [Act.eval]) rfl (by exact news_alloc wA [(SlC.mk ao cap l).value] 126) (one_slc _) (by unfold maxLen;omega) (by omega) (by simp) ?_;intro v' w3 hown3 hgr3 hnn3 hwh3;obtain ⟨g',cap',rfl⟩:=owns_some hown3 (fun e=>absurd (hnn3.1 e).2 (by decide));have hgb:=(unhide HA).grown (Below.drew ((Below.refl _ _).alloc (Nat.le_refl _) _)) hgr3;have hc3:w3.cell? ⟨db,1,none⟩ = some av:=blk_cell hgb 1;have hf3:∀ i,w3.frozen? ⟨db,i,none⟩ = false:=fun i=>blk_free hgb i)
  all_goals go_wp2_with fail
  all_goals go_meet
  all_goals exact ⟨_,(unhide HA).push (Below.drew ((Below.refl _ _).alloc (Nat.le_refl _) _)) hgr3 hown3 hwh3⟩
 case rest=>
 obtain ⟨av',hd1,hc1⟩:=hcut
 have HD:=hide hd1
 have HC:=hide hc1
 clear hd1 hc1 a0 a1 HA
 obtain ⟨w1,hw1⟩:∃ w1,w1 = wc:=⟨_,rfl⟩
 subst hw1
 go_wp2_with fail
 refine (top_under (ls0:=ls0) (o:=o) (a:=⟨ao,cap,l⟩) (by rw [← unhide HLs];exact unhide HD) hl).mono ?_
 rintro e w2 ⟨rfl,hb2⟩
 have HD2:=hide ((unhide HD).below hb2)
 have HC2:=hide ((unhide HC).trans (Fc.of_below hb2))
 clear hb2 HD HC
 have HRo:=hide ((unhide HD2).rl o (by rw [unhide HLs];simp))
 have HRc:=hide (unhide HD2).cur
 obtain ⟨oo,oc,ol⟩:=o
 rw [show (SlC.mk oo oc ol).value = .slice oo ol.length oc from rfl]
 have a0:w2.cell? ⟨db,0,none⟩ = some (.slice ao l.length cap):=blk_cell (unhide HD2).blk 0
 have hdz1:db < w2.heap.size:=lt_of_block (unhide HD2).blk
 have hol:ol.length ≤ 1000:=(unhide HRo).len
 go_wp2_with fail
 go_loopg [8,9] l.length (fun kk v8 v9 wr=>∃ (i:Nat) (ys:List Rat) (ao':Option Addr) (cp:Nat),kk = l.length - i ∧ i ≤ l.length ∧ v9 = .int .i64 (i:Int) ∧ v8 = .slice ao' ys.length cp ∧ (ys = picked (idx.take i) ol ∧ AllS ys) ∧ RM w2 (.slice ao' ys.length cp) ys wr)
 case atStart=>exact ⟨0,[],none,0,rfl,Nat.zero_le _,rfl,rfl,⟨rfl,fun _ h=>by (cases h)⟩,RM.start w2⟩
 case round=>
  obtain ⟨i,ys,ao',cp,hk,hi,rfl,rfl,he,hm⟩:=hrel
  have HK:=hide hk
  have HE:=hide he
  have HM:=hide hm
  have hyb:ys.length ≤ 1000:=by
   rw [he.1]
   unfold picked
   simp
   have:=unhide HIl
   omega
  have b0:wr.cell? ⟨db,0,none⟩ = some (.slice ao l.length cap):=(hm.bel.cell (p:=⟨db,0,none⟩) hdz1).trans a0
  have hsz:=hm.bel.size
  clear hk he
  by_cases hlt:i < l.length
  ·have hlt':(i:Int) < (l.length:Int):=by omega
   have hlti:i < idx.length:=by rw [unhide HIl];exact hlt
   have hq:=unhide HIx idx[i] (List.getElem_mem hlti)
   have hq0:idx[i] < ol.length:=hq
   obtain ⟨gc,rfl,hgc,hcc⟩:=(unhide HRc).cell (by show 0 < l.length;omega)
   obtain ⟨p0,_⟩:=hcc i hlt
   rw [map_rnat_at (unhide HCi) hlt hlti,← hm.bel.cell (p:=⟨gc,i * 2,none⟩) hgc] at p0
   obtain ⟨g,rfl,hg,hcl⟩:=(unhide HRo).cell (by show 0 < ol.length;omega)
   obtain ⟨d0,d1⟩:=hcl idx[i] hq0
   rw [← hm.bel.cell (p:=⟨g,idx[i] * 2,none⟩) hg] at d0
   rw [← hm.bel.cell (p:=⟨g,idx[i] * 2 + 1,none⟩) hg] at d1
   have hgd:ol.getD idx[i] 0 = ol[idx[i]]:=getD_at hq0
   have HPS:=hide (picked_step idx ol i hlti)
   rw [hgd] at HPS
   have HX:=hide ((unhide HRo).small ol[idx[i]] (List.getElem_mem hq0))
   have HM2:=hide (hm.below ((Below.refl _ _).alloc (Nat.le_refl _) (.cells (qcells ol[idx[i]]).toArray 139)))
   clear hcl hm hgd hcc hq
   generalize ol[idx[i]] = z at d0 d1 HPS HX HM2
   generalize idx[i] = q at p0 hq0 d0 d1
   have hq':(q:Int) < (ol.length:Int):=by omega
   go_wp2_with (at_builtin;refine wpList_append_own _ rfl _ _ 126 rfl w2.heap.size 139 j0 _ 2 16 Tryz.underlying126 hj0 hy0 hy1 hy2 rfl (by decide) _ _ _ rfl (unhide HM2).own ⟨wr.heap.size,0,none⟩ 1 1 (qcells z) rfl rfl (nnews_at rfl _ _) (one_qcells _) (by unfold maxLen;omega) (by omega) (by simp;omega) ?_)
   intro v' w4 hown4 hgr4 _
   have hm4:=(unhide HM2).more hown4 hgr4
   obtain ⟨ao4,cp4,rfl⟩:=hm4.shape
   have HM4:=hide hm4
   clear hm4 hown4 hgr4
   go_wp2_with fail
   go_roundg (l.length - (i + 1))
   case measure=>rw [unhide HK];omega
   case rel=>exact ⟨i + 1,ys ++ [z],ao4,cp4,rfl,by omega,rfl,rfl,⟨by rw [unhide HPS,← (unhide HE).1],allS_one (unhide HE).2 (unhide HX)⟩,unhide HM4⟩
  ·have hlt':¬ (i:Int) < (l.length:Int):=by omega
   have HYs:=hide (show ys = picked idx ol by rw [(unhide HE).1,List.take_of_length_le (by rw [unhide HIl];omega)])
   have hbf:∀ o,wr.frozen? ⟨db,o,none⟩ = false:=fun o=>blk_free ((unhide HD2).below (unhide HM).bel).blk o
   clear hm
   go_wp2_with fail
   go_ret
   have hfin:DkIs (wr.setCell ⟨db,0,none⟩ (.slice ao' ys.length cp)) db ⟨ao',cp,ys⟩ av' (ls ++ [⟨ao,cap,l⟩]):=((unhide HD2).below (unhide HM).bel).setCur (c':=⟨ao',cp,ys⟩) ((unhide HM).rl (unhide HE).2 hyb)
   rw [unhide HPl]
   refine ⟨rfl,SlC.mk ao' cp ys,av',ls ++ [SlC.mk ao cap l],hfin,?_,(((Fc.of_below (unhide HB)).trans (unhide HC2)).trans (Fc.of_below (unhide HM).bel)).setCell _ _,by simp⟩
   rw [awayOf_snoc _ (SlC.mk ao cap l),unhide HYs]
end Go.Proofs.YtikiaijgcjjloabGreatDoor

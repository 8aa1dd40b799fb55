import Derived.Test.YtikiaijgcjjloabGreatDoorPart29

namespace Go.Proofs.YtikiaijgcjjloabGreatDoor
open Go Go.RowKit M T Go.Lib
theorem each_ok (f:Rat → Rat):∀ l:List Rat,each (fun x=>.ok (f x)) l = .ok (l.map f)
 | []=>rfl
 | x :: l=>by rw [each,each_ok f l];rfl
theorem LGot.base {B B':Nat} {r:Except Int (List Rat)} {e:Ending} {w:World} (h:LGot B r e w) (hb:B' ≤ B):LGot B' r e w:=by
 rcases h with ⟨l,g,cap,h1,h2,h3,h4⟩ | h
 ·exact Or.inl ⟨l,g,cap,h1,h2,h3,owns_base h4 hb⟩
 ·exact Or.inr h
theorem box_below (w:World) (o:Obj):Below w.heap.size w (w.alloc o):=(Below.refl _ _).alloc (Nat.le_refl _) _
set_option maxRecDepth 100000 in
set_option maxHeartbeats 800000 in
theorem mk_n {g cap:Nat} {xs:List Rat} {w:World} (h:LIs w g cap xs) (n k t b:Int) (pa:Option Addr) (pn pc:Nat) (bo ov:Option Addr) :
  Calls Tryz.prog 142 #[.slice (some ⟨g,0,none⟩) xs.length cap,.agg #[.int .u8 110,.int .u8 n,.int .i64 k,.int .i64 t,.int .i64 b,.slice pa pn pc,.pointer bo,.pointer ov]] w fun e w'=>LGot w.heap.size (each (fun x=>.ok (-x)) xs) e w' ∧ Below w.heap.size w w':=by
 have HL:=hide (h.below (box_below w (.cells #[.int .u8 110,.int .u8 n,.int .i64 k,.int .i64 t,.int .i64 b,.slice pa pn pc,.pointer bo,.pointer ov] 82)))
 have hb0:=box_below w (.cells #[.int .u8 110,.int .u8 n,.int .i64 k,.int .i64 t,.int .i64 b,.slice pa pn pc,.pointer bo,.pointer ov] 82)
 have HB0:=hide hb0
 have HSm:=hide h.small
 clear h hb0
 go_enter Tryz.func142,Tryz.ntmps142
 go_wp2_with fail
 refine (change_any (f:=fun x=>.ok (-x)) (fun q w hq=>one_n hq t b n k pa pn pc bo ov w) (unhide HL)).mono ?_
 rintro e w1 ⟨hl,hb1⟩
 have HB:=hide ((unhide HB0).trans (hb1.mono (unhide HB0).size))
 have HG:=hide (hl.base (unhide HB0).size)
 clear hb1
 rcases hl with ⟨l',g',cap',_,_,rfl,_⟩ | ⟨c,_,_,rfl⟩
 ·go_wp2_with fail
  exact bodyPost_ret (v:=.tuple #[.slice (some ⟨g',0,none⟩) l'.length cap',.int .i64 0]) (by simp [results,Tryz.results142,go_sem]) rfl ⟨unhide HG,unhide HB⟩
 ·go_wp2_with fail
  exact bodyPost_ret (v:=.tuple #[.slice none 0 0,.int .i64 c]) (by simp [results,Tryz.results142,go_sem]) rfl ⟨unhide HG,unhide HB⟩
set_option maxRecDepth 100000 in
set_option maxHeartbeats 800000 in
theorem mk_v {g cap:Nat} {xs:List Rat} {w:World} (h:LIs w g cap xs) (n k t b:Int) (pa:Option Addr) (pn pc:Nat) (bo ov:Option Addr) :
  Calls Tryz.prog 142 #[.slice (some ⟨g,0,none⟩) xs.length cap,.agg #[.int .u8 118,.int .u8 n,.int .i64 k,.int .i64 t,.int .i64 b,.slice pa pn pc,.pointer bo,.pointer ov]] w fun e w'=>LGot w.heap.size (each (overE) xs) e w' ∧ Below w.heap.size w w':=by
 have HL:=hide (h.below (box_below w (.cells #[.int .u8 118,.int .u8 n,.int .i64 k,.int .i64 t,.int .i64 b,.slice pa pn pc,.pointer bo,.pointer ov] 82)))
 have hb0:=box_below w (.cells #[.int .u8 118,.int .u8 n,.int .i64 k,.int .i64 t,.int .i64 b,.slice pa pn pc,.pointer bo,.pointer ov] 82)
 have HB0:=hide hb0
 have HSm:=hide h.small
 clear h hb0
 go_enter Tryz.func142,Tryz.ntmps142
 go_wp2_with fail
 refine (change_any (f:=overE) (fun q w hq=>one_v hq t b n k pa pn pc bo ov w) (unhide HL)).mono ?_
 rintro e w1 ⟨hl,hb1⟩
 have HB:=hide ((unhide HB0).trans (hb1.mono (unhide HB0).size))
 have HG:=hide (hl.base (unhide HB0).size)
 clear hb1
 rcases hl with ⟨l',g',cap',_,_,rfl,_⟩ | ⟨c,_,_,rfl⟩
 ·go_wp2_with fail
  exact bodyPost_ret (v:=.tuple #[.slice (some ⟨g',0,none⟩) l'.length cap',.int .i64 0]) (by simp [results,Tryz.results142,go_sem]) rfl ⟨unhide HG,unhide HB⟩
 ·go_wp2_with fail
  exact bodyPost_ret (v:=.tuple #[.slice none 0 0,.int .i64 c]) (by simp [results,Tryz.results142,go_sem]) rfl ⟨unhide HG,unhide HB⟩
set_option maxRecDepth 100000 in
set_option maxHeartbeats 800000 in
theorem mk_a {g cap:Nat} {xs:List Rat} {w:World} (h:LIs w g cap xs) (n k t b:Int) (pa:Option Addr) (pn pc:Nat) (bo ov:Option Addr) :
  Calls Tryz.prog 142 #[.slice (some ⟨g,0,none⟩) xs.length cap,.agg #[.int .u8 97,.int .u8 n,.int .i64 k,.int .i64 t,.int .i64 b,.slice pa pn pc,.pointer bo,.pointer ov]] w fun e w'=>LGot w.heap.size (each (fun x=>.ok (absR x)) xs) e w' ∧ Below w.heap.size w w':=by
 have HL:=hide (h.below (box_below w (.cells #[.int .u8 97,.int .u8 n,.int .i64 k,.int .i64 t,.int .i64 b,.slice pa pn pc,.pointer bo,.pointer ov] 82)))
 have hb0:=box_below w (.cells #[.int .u8 97,.int .u8 n,.int .i64 k,.int .i64 t,.int .i64 b,.slice pa pn pc,.pointer bo,.pointer ov] 82)
 have HB0:=hide hb0
 have HSm:=hide h.small
 clear h hb0
 go_enter Tryz.func142,Tryz.ntmps142
 go_wp2_with fail
 refine (change_any (f:=fun x=>.ok (absR x)) (fun q w hq=>one_a hq t b n k pa pn pc bo ov w) (unhide HL)).mono ?_
 rintro e w1 ⟨hl,hb1⟩
 have HB:=hide ((unhide HB0).trans (hb1.mono (unhide HB0).size))
 have HG:=hide (hl.base (unhide HB0).size)
 clear hb1
 rcases hl with ⟨l',g',cap',_,_,rfl,_⟩ | ⟨c,_,_,rfl⟩
 ·go_wp2_with fail
  exact bodyPost_ret (v:=.tuple #[.slice (some ⟨g',0,none⟩) l'.length cap',.int .i64 0]) (by simp [results,Tryz.results142,go_sem]) rfl ⟨unhide HG,unhide HB⟩
 ·go_wp2_with fail
  exact bodyPost_ret (v:=.tuple #[.slice none 0 0,.int .i64 c]) (by simp [results,Tryz.results142,go_sem]) rfl ⟨unhide HG,unhide HB⟩
set_option maxRecDepth 100000 in
set_option maxHeartbeats 800000 in
theorem mk_q {g cap:Nat} {xs:List Rat} {w:World} (h:LIs w g cap xs) (n k t b:Int) (pa:Option Addr) (pn pc:Nat) (bo ov:Option Addr) :
  Calls Tryz.prog 142 #[.slice (some ⟨g,0,none⟩) xs.length cap,.agg #[.int .u8 113,.int .u8 n,.int .i64 k,.int .i64 t,.int .i64 b,.slice pa pn pc,.pointer bo,.pointer ov]] w fun e w'=>LGot w.heap.size (each (fun x=>lim (x * x)) xs) e w' ∧ Below w.heap.size w w':=by
 have HL:=hide (h.below (box_below w (.cells #[.int .u8 113,.int .u8 n,.int .i64 k,.int .i64 t,.int .i64 b,.slice pa pn pc,.pointer bo,.pointer ov] 82)))
 have hb0:=box_below w (.cells #[.int .u8 113,.int .u8 n,.int .i64 k,.int .i64 t,.int .i64 b,.slice pa pn pc,.pointer bo,.pointer ov] 82)
 have HB0:=hide hb0
 have HSm:=hide h.small
 clear h hb0
 go_enter Tryz.func142,Tryz.ntmps142
 go_wp2_with fail
 refine (change_any (f:=fun x=>lim (x * x)) (fun q w hq=>one_q hq t b n k pa pn pc bo ov w) (unhide HL)).mono ?_
 rintro e w1 ⟨hl,hb1⟩
 have HB:=hide ((unhide HB0).trans (hb1.mono (unhide HB0).size))
 have HG:=hide (hl.base (unhide HB0).size)
 clear hb1
 rcases hl with ⟨l',g',cap',_,_,rfl,_⟩ | ⟨c,_,_,rfl⟩
 ·go_wp2_with fail
  exact bodyPost_ret (v:=.tuple #[.slice (some ⟨g',0,none⟩) l'.length cap',.int .i64 0]) (by simp [results,Tryz.results142,go_sem]) rfl ⟨unhide HG,unhide HB⟩
 ·go_wp2_with fail
  exact bodyPost_ret (v:=.tuple #[.slice none 0 0,.int .i64 c]) (by simp [results,Tryz.results142,go_sem]) rfl ⟨unhide HG,unhide HB⟩
set_option maxRecDepth 100000 in
set_option maxHeartbeats 800000 in
theorem mk_w {g cap:Nat} {xs:List Rat} {w:World} (h:LIs w g cap xs) (n k t b:Int) (pa:Option Addr) (pn pc:Nat) (bo ov:Option Addr) :
  Calls Tryz.prog 142 #[.slice (some ⟨g,0,none⟩) xs.length cap,.agg #[.int .u8 119,.int .u8 n,.int .i64 k,.int .i64 t,.int .i64 b,.slice pa pn pc,.pointer bo,.pointer ov]] w fun e w'=>LGot w.heap.size (each (rootE) xs) e w' ∧ Below w.heap.size w w':=by
 have HL:=hide (h.below (box_below w (.cells #[.int .u8 119,.int .u8 n,.int .i64 k,.int .i64 t,.int .i64 b,.slice pa pn pc,.pointer bo,.pointer ov] 82)))
 have hb0:=box_below w (.cells #[.int .u8 119,.int .u8 n,.int .i64 k,.int .i64 t,.int .i64 b,.slice pa pn pc,.pointer bo,.pointer ov] 82)
 have HB0:=hide hb0
 have HSm:=hide h.small
 clear h hb0
 go_enter Tryz.func142,Tryz.ntmps142
 go_wp2_with fail
 refine (change_any (f:=rootE) (fun q w hq=>one_w hq t b n k pa pn pc bo ov w) (unhide HL)).mono ?_
 rintro e w1 ⟨hl,hb1⟩
 have HB:=hide ((unhide HB0).trans (hb1.mono (unhide HB0).size))
 have HG:=hide (hl.base (unhide HB0).size)
 clear hb1
 rcases hl with ⟨l',g',cap',_,_,rfl,_⟩ | ⟨c,_,_,rfl⟩
 ·go_wp2_with fail
  exact bodyPost_ret (v:=.tuple #[.slice (some ⟨g',0,none⟩) l'.length cap',.int .i64 0]) (by simp [results,Tryz.results142,go_sem]) rfl ⟨unhide HG,unhide HB⟩
 ·go_wp2_with fail
  exact bodyPost_ret (v:=.tuple #[.slice none 0 0,.int .i64 c]) (by simp [results,Tryz.results142,go_sem]) rfl ⟨unhide HG,unhide HB⟩
set_option maxRecDepth 100000 in
set_option maxHeartbeats 800000 in
theorem mk_u {g cap:Nat} {xs:List Rat} {w:World} (h:LIs w g cap xs) (n k t b:Int) (pa:Option Addr) (pn pc:Nat) (bo ov:Option Addr) :
  Calls Tryz.prog 142 #[.slice (some ⟨g,0,none⟩) xs.length cap,.agg #[.int .u8 117,.int .u8 n,.int .i64 k,.int .i64 t,.int .i64 b,.slice pa pn pc,.pointer bo,.pointer ov]] w fun e w'=>LGot w.heap.size (each (sqE) xs) e w' ∧ Below w.heap.size w w':=by
 have HL:=hide (h.below (box_below w (.cells #[.int .u8 117,.int .u8 n,.int .i64 k,.int .i64 t,.int .i64 b,.slice pa pn pc,.pointer bo,.pointer ov] 82)))
 have hb0:=box_below w (.cells #[.int .u8 117,.int .u8 n,.int .i64 k,.int .i64 t,.int .i64 b,.slice pa pn pc,.pointer bo,.pointer ov] 82)
 have HB0:=hide hb0
 have HSm:=hide h.small
 clear h hb0
 go_enter Tryz.func142,Tryz.ntmps142
 go_wp2_with fail
 refine (change_any (f:=sqE) (fun q w hq=>one_u hq t b n k pa pn pc bo ov w) (unhide HL)).mono ?_
 rintro e w1 ⟨hl,hb1⟩
 have HB:=hide ((unhide HB0).trans (hb1.mono (unhide HB0).size))
 have HG:=hide (hl.base (unhide HB0).size)
 clear hb1
 rcases hl with ⟨l',g',cap',_,_,rfl,_⟩ | ⟨c,_,_,rfl⟩
 ·go_wp2_with fail
  exact bodyPost_ret (v:=.tuple #[.slice (some ⟨g',0,none⟩) l'.length cap',.int .i64 0]) (by simp [results,Tryz.results142,go_sem]) rfl ⟨unhide HG,unhide HB⟩
 ·go_wp2_with fail
  exact bodyPost_ret (v:=.tuple #[.slice none 0 0,.int .i64 c]) (by simp [results,Tryz.results142,go_sem]) rfl ⟨unhide HG,unhide HB⟩
set_option maxRecDepth 100000 in
set_option maxHeartbeats 800000 in
theorem mk_plus {g cap:Nat} {xs:List Rat} {w:World} (h:LIs w g cap xs) (n k:Int) (pa:Option Addr) (pn pc:Nat) (bo ov:Option Addr) {c:Rat} (hc:small c = true) :
  Calls Tryz.prog 142 #[.slice (some ⟨g,0,none⟩) xs.length cap,.agg #[.int .u8 43,.int .u8 n,.int .i64 k,.int .i64 c.num,.int .i64 (c.den:Int),.slice pa pn pc,.pointer bo,.pointer ov]] w fun e w'=>LGot w.heap.size (each (fun x=>lim (x + c)) xs) e w' ∧ Below w.heap.size w w':=by
 have HL:=hide (h.below (box_below w (.cells #[.int .u8 43,.int .u8 n,.int .i64 k,.int .i64 c.num,.int .i64 (c.den:Int),.slice pa pn pc,.pointer bo,.pointer ov] 82)))
 have hb0:=box_below w (.cells #[.int .u8 43,.int .u8 n,.int .i64 k,.int .i64 c.num,.int .i64 (c.den:Int),.slice pa pn pc,.pointer bo,.pointer ov] 82)
 have HB0:=hide hb0
 have HSm:=hide h.small
 have HC:=hide hc
 clear hc
 clear h hb0
 go_enter Tryz.func142,Tryz.ntmps142
 go_wp2_with fail
 refine (change_any (f:=fun x=>lim (x + c)) (fun q w hq=>one_plus hq (unhide HC) n k pa pn pc bo ov w) (unhide HL)).mono ?_
 rintro e w1 ⟨hl,hb1⟩
 have HB:=hide ((unhide HB0).trans (hb1.mono (unhide HB0).size))
 have HG:=hide (hl.base (unhide HB0).size)
 clear hb1
 rcases hl with ⟨l',g',cap',_,_,rfl,_⟩ | ⟨c,_,_,rfl⟩
 ·go_wp2_with fail
  exact bodyPost_ret (v:=.tuple #[.slice (some ⟨g',0,none⟩) l'.length cap',.int .i64 0]) (by simp [results,Tryz.results142,go_sem]) rfl ⟨unhide HG,unhide HB⟩
 ·go_wp2_with fail
  exact bodyPost_ret (v:=.tuple #[.slice none 0 0,.int .i64 c]) (by simp [results,Tryz.results142,go_sem]) rfl ⟨unhide HG,unhide HB⟩
set_option maxRecDepth 100000 in
set_option maxHeartbeats 800000 in
theorem mk_times {g cap:Nat} {xs:List Rat} {w:World} (h:LIs w g cap xs) (n k:Int) (pa:Option Addr) (pn pc:Nat) (bo ov:Option Addr) {c:Rat} (hc:small c = true) :
  Calls Tryz.prog 142 #[.slice (some ⟨g,0,none⟩) xs.length cap,.agg #[.int .u8 42,.int .u8 n,.int .i64 k,.int .i64 c.num,.int .i64 (c.den:Int),.slice pa pn pc,.pointer bo,.pointer ov]] w fun e w'=>LGot w.heap.size (each (fun x=>lim (x * c)) xs) e w' ∧ Below w.heap.size w w':=by
 have HL:=hide (h.below (box_below w (.cells #[.int .u8 42,.int .u8 n,.int .i64 k,.int .i64 c.num,.int .i64 (c.den:Int),.slice pa pn pc,.pointer bo,.pointer ov] 82)))
 have hb0:=box_below w (.cells #[.int .u8 42,.int .u8 n,.int .i64 k,.int .i64 c.num,.int .i64 (c.den:Int),.slice pa pn pc,.pointer bo,.pointer ov] 82)
 have HB0:=hide hb0
 have HSm:=hide h.small
 have HC:=hide hc
 clear hc
 clear h hb0
 go_enter Tryz.func142,Tryz.ntmps142
 go_wp2_with fail
 refine (change_any (f:=fun x=>lim (x * c)) (fun q w hq=>one_times hq (unhide HC) n k pa pn pc bo ov w) (unhide HL)).mono ?_
 rintro e w1 ⟨hl,hb1⟩
 have HB:=hide ((unhide HB0).trans (hb1.mono (unhide HB0).size))
 have HG:=hide (hl.base (unhide HB0).size)
 clear hb1
 rcases hl with ⟨l',g',cap',_,_,rfl,_⟩ | ⟨c,_,_,rfl⟩
 ·go_wp2_with fail
  exact bodyPost_ret (v:=.tuple #[.slice (some ⟨g',0,none⟩) l'.length cap',.int .i64 0]) (by simp [results,Tryz.results142,go_sem]) rfl ⟨unhide HG,unhide HB⟩
 ·go_wp2_with fail
  exact bodyPost_ret (v:=.tuple #[.slice none 0 0,.int .i64 c]) (by simp [results,Tryz.results142,go_sem]) rfl ⟨unhide HG,unhide HB⟩
set_option maxRecDepth 100000 in
set_option maxHeartbeats 800000 in
theorem mk_set {g cap:Nat} {xs:List Rat} {w:World} (h:LIs w g cap xs) (n k:Int) (pa:Option Addr) (pn pc:Nat) (bo ov:Option Addr) {c:Rat} (hc:small c = true) :
  Calls Tryz.prog 142 #[.slice (some ⟨g,0,none⟩) xs.length cap,.agg #[.int .u8 61,.int .u8 n,.int .i64 k,.int .i64 c.num,.int .i64 (c.den:Int),.slice pa pn pc,.pointer bo,.pointer ov]] w fun e w'=>LGot w.heap.size (each (fun _=>.ok c) xs) e w' ∧ Below w.heap.size w w':=by
 have HL:=hide (h.below (box_below w (.cells #[.int .u8 61,.int .u8 n,.int .i64 k,.int .i64 c.num,.int .i64 (c.den:Int),.slice pa pn pc,.pointer bo,.pointer ov] 82)))
 have hb0:=box_below w (.cells #[.int .u8 61,.int .u8 n,.int .i64 k,.int .i64 c.num,.int .i64 (c.den:Int),.slice pa pn pc,.pointer bo,.pointer ov] 82)
 have HB0:=hide hb0
 have HSm:=hide h.small
 have HC:=hide hc
 clear hc
 clear h hb0
 go_enter Tryz.func142,Tryz.ntmps142
 go_wp2_with fail
 refine (change_any (f:=fun _=>.ok c) (fun q w hq=>one_set hq (unhide HC) n k pa pn pc bo ov w) (unhide HL)).mono ?_
 rintro e w1 ⟨hl,hb1⟩
 have HB:=hide ((unhide HB0).trans (hb1.mono (unhide HB0).size))
 have HG:=hide (hl.base (unhide HB0).size)
 clear hb1
 rcases hl with ⟨l',g',cap',_,_,rfl,_⟩ | ⟨c,_,_,rfl⟩
 ·go_wp2_with fail
  exact bodyPost_ret (v:=.tuple #[.slice (some ⟨g',0,none⟩) l'.length cap',.int .i64 0]) (by simp [results,Tryz.results142,go_sem]) rfl ⟨unhide HG,unhide HB⟩
 ·go_wp2_with fail
  exact bodyPost_ret (v:=.tuple #[.slice none 0 0,.int .i64 c]) (by simp [results,Tryz.results142,go_sem]) rfl ⟨unhide HG,unhide HB⟩
set_option maxRecDepth 100000 in
set_option maxHeartbeats 800000 in
theorem mk_s {g cap:Nat} {xs:List Rat} {w:World} (h:LIs w g cap xs) (n k t b:Int) (pa:Option Addr) (pn pc:Nat) (bo ov:Option Addr) :
  Calls Tryz.prog 142 #[.slice (some ⟨g,0,none⟩) xs.length cap,.agg #[.int .u8 115,.int .u8 n,.int .i64 k,.int .i64 t,.int .i64 b,.slice pa pn pc,.pointer bo,.pointer ov]] w fun e w'=>LGot w.heap.size (joinR 115 (fun _ n x=>addE n x) xs) e w' ∧ Below w.heap.size w w':=by
 have HL:=hide (h.below (box_below w (.cells #[.int .u8 115,.int .u8 n,.int .i64 k,.int .i64 t,.int .i64 b,.slice pa pn pc,.pointer bo,.pointer ov] 82)))
 have hb0:=box_below w (.cells #[.int .u8 115,.int .u8 n,.int .i64 k,.int .i64 t,.int .i64 b,.slice pa pn pc,.pointer bo,.pointer ov] 82)
 have HB0:=hide hb0
 have HSm:=hide h.small
 clear h hb0
 go_enter Tryz.func142,Tryz.ntmps142
 go_wp2_with fail
 refine (join_any (cc:=115) (J:=fun _ n x=>addE n x) (fun o n x w ho hn hx=>two_s ho hn hx w) (unhide HL)).mono ?_
 rintro e w1 ⟨hl,hb1⟩
 have HB:=hide ((unhide HB0).trans (hb1.mono (unhide HB0).size))
 have HG:=hide (hl.base (unhide HB0).size)
 clear hb1
 rcases hl with ⟨l',g',cap',_,_,rfl,_⟩ | ⟨c,_,_,rfl⟩
 ·go_wp2_with fail
  exact bodyPost_ret (v:=.tuple #[.slice (some ⟨g',0,none⟩) l'.length cap',.int .i64 0]) (by simp [results,Tryz.results142,go_sem]) rfl ⟨unhide HG,unhide HB⟩
 ·go_wp2_with fail
  exact bodyPost_ret (v:=.tuple #[.slice none 0 0,.int .i64 c]) (by simp [results,Tryz.results142,go_sem]) rfl ⟨unhide HG,unhide HB⟩
set_option maxRecDepth 100000 in
set_option maxHeartbeats 800000 in
theorem mk_z {g cap:Nat} {xs:List Rat} {w:World} (h:LIs w g cap xs) (n k t b:Int) (pa:Option Addr) (pn pc:Nat) (bo ov:Option Addr) :
  Calls Tryz.prog 142 #[.slice (some ⟨g,0,none⟩) xs.length cap,.agg #[.int .u8 122,.int .u8 n,.int .i64 k,.int .i64 t,.int .i64 b,.slice pa pn pc,.pointer bo,.pointer ov]] w fun e w'=>LGot w.heap.size (joinR 122 (fun o _ x=>subE o x) xs) e w' ∧ Below w.heap.size w w':=by
 have HL:=hide (h.below (box_below w (.cells #[.int .u8 122,.int .u8 n,.int .i64 k,.int .i64 t,.int .i64 b,.slice pa pn pc,.pointer bo,.pointer ov] 82)))
 have hb0:=box_below w (.cells #[.int .u8 122,.int .u8 n,.int .i64 k,.int .i64 t,.int .i64 b,.slice pa pn pc,.pointer bo,.pointer ov] 82)
 have HB0:=hide hb0
 have HSm:=hide h.small
 clear h hb0
 go_enter Tryz.func142,Tryz.ntmps142
 go_wp2_with fail
 refine (join_any (cc:=122) (J:=fun o _ x=>subE o x) (fun o n x w ho hn hx=>two_z ho hx w) (unhide HL)).mono ?_
 rintro e w1 ⟨hl,hb1⟩
 have HB:=hide ((unhide HB0).trans (hb1.mono (unhide HB0).size))
 have HG:=hide (hl.base (unhide HB0).size)
 clear hb1
 rcases hl with ⟨l',g',cap',_,_,rfl,_⟩ | ⟨c,_,_,rfl⟩
 ·go_wp2_with fail
  exact bodyPost_ret (v:=.tuple #[.slice (some ⟨g',0,none⟩) l'.length cap',.int .i64 0]) (by simp [results,Tryz.results142,go_sem]) rfl ⟨unhide HG,unhide HB⟩
 ·go_wp2_with fail
  exact bodyPost_ret (v:=.tuple #[.slice none 0 0,.int .i64 c]) (by simp [results,Tryz.results142,go_sem]) rfl ⟨unhide HG,unhide HB⟩
set_option maxRecDepth 100000 in
set_option maxHeartbeats 800000 in
theorem mk_p {g cap:Nat} {xs:List Rat} {w:World} (h:LIs w g cap xs) (n k t b:Int) (pa:Option Addr) (pn pc:Nat) (bo ov:Option Addr) :
  Calls Tryz.prog 142 #[.slice (some ⟨g,0,none⟩) xs.length cap,.agg #[.int .u8 112,.int .u8 n,.int .i64 k,.int .i64 t,.int .i64 b,.slice pa pn pc,.pointer bo,.pointer ov]] w fun e w'=>LGot w.heap.size (joinR 112 (fun _ n x=>mulE n x) xs) e w' ∧ Below w.heap.size w w':=by
 have HL:=hide (h.below (box_below w (.cells #[.int .u8 112,.int .u8 n,.int .i64 k,.int .i64 t,.int .i64 b,.slice pa pn pc,.pointer bo,.pointer ov] 82)))
 have hb0:=box_below w (.cells #[.int .u8 112,.int .u8 n,.int .i64 k,.int .i64 t,.int .i64 b,.slice pa pn pc,.pointer bo,.pointer ov] 82)
 have HB0:=hide hb0
 have HSm:=hide h.small
 clear h hb0
 go_enter Tryz.func142,Tryz.ntmps142
 go_wp2_with fail
 refine (join_any (cc:=112) (J:=fun _ n x=>mulE n x) (fun o n x w ho hn hx=>two_p ho hn hx w) (unhide HL)).mono ?_
 rintro e w1 ⟨hl,hb1⟩
 have HB:=hide ((unhide HB0).trans (hb1.mono (unhide HB0).size))
 have HG:=hide (hl.base (unhide HB0).size)
 clear hb1
 rcases hl with ⟨l',g',cap',_,_,rfl,_⟩ | ⟨c,_,_,rfl⟩
 ·go_wp2_with fail
  exact bodyPost_ret (v:=.tuple #[.slice (some ⟨g',0,none⟩) l'.length cap',.int .i64 0]) (by simp [results,Tryz.results142,go_sem]) rfl ⟨unhide HG,unhide HB⟩
 ·go_wp2_with fail
  exact bodyPost_ret (v:=.tuple #[.slice none 0 0,.int .i64 c]) (by simp [results,Tryz.results142,go_sem]) rfl ⟨unhide HG,unhide HB⟩
set_option maxRecDepth 100000 in
set_option maxHeartbeats 800000 in
theorem mk_m {g cap:Nat} {xs:List Rat} {w:World} (h:LIs w g cap xs) (n k t b:Int) (pa:Option Addr) (pn pc:Nat) (bo ov:Option Addr) :
  Calls Tryz.prog 142 #[.slice (some ⟨g,0,none⟩) xs.length cap,.agg #[.int .u8 109,.int .u8 n,.int .i64 k,.int .i64 t,.int .i64 b,.slice pa pn pc,.pointer bo,.pointer ov]] w fun e w'=>LGot w.heap.size (joinR 109 (fun _ n x=>mulE n x) xs) e w' ∧ Below w.heap.size w w':=by
 have HL:=hide (h.below (box_below w (.cells #[.int .u8 109,.int .u8 n,.int .i64 k,.int .i64 t,.int .i64 b,.slice pa pn pc,.pointer bo,.pointer ov] 82)))
 have hb0:=box_below w (.cells #[.int .u8 109,.int .u8 n,.int .i64 k,.int .i64 t,.int .i64 b,.slice pa pn pc,.pointer bo,.pointer ov] 82)
 have HB0:=hide hb0
 have HSm:=hide h.small
 clear h hb0
 go_enter Tryz.func142,Tryz.ntmps142
 go_wp2_with fail
 refine (join_any (cc:=109) (J:=fun _ n x=>mulE n x) (fun o n x w ho hn hx=>two_m ho hn hx w) (unhide HL)).mono ?_
 rintro e w1 ⟨hl,hb1⟩
 have HB:=hide ((unhide HB0).trans (hb1.mono (unhide HB0).size))
 have HG:=hide (hl.base (unhide HB0).size)
 clear hb1
 rcases hl with ⟨l',g',cap',_,_,rfl,_⟩ | ⟨c,_,_,rfl⟩
 ·go_wp2_with fail
  exact bodyPost_ret (v:=.tuple #[.slice (some ⟨g',0,none⟩) l'.length cap',.int .i64 0]) (by simp [results,Tryz.results142,go_sem]) rfl ⟨unhide HG,unhide HB⟩
 ·go_wp2_with fail
  exact bodyPost_ret (v:=.tuple #[.slice none 0 0,.int .i64 c]) (by simp [results,Tryz.results142,go_sem]) rfl ⟨unhide HG,unhide HB⟩
set_option maxRecDepth 100000 in
set_option maxHeartbeats 800000 in
theorem mk_o {g cap:Nat} {xs:List Rat} {w:World} (h:LIs w g cap xs) (n k t b:Int) (pa:Option Addr) (pn pc:Nat) (bo ov:Option Addr) :
  Calls Tryz.prog 142 #[.slice (some ⟨g,0,none⟩) xs.length cap,.agg #[.int .u8 111,.int .u8 n,.int .i64 k,.int .i64 t,.int .i64 b,.slice pa pn pc,.pointer bo,.pointer ov]] w fun e w'=>LGot w.heap.size (joinR 111 (fun o _ x=>divE o x) xs) e w' ∧ Below w.heap.size w w':=by
 have HL:=hide (h.below (box_below w (.cells #[.int .u8 111,.int .u8 n,.int .i64 k,.int .i64 t,.int .i64 b,.slice pa pn pc,.pointer bo,.pointer ov] 82)))
 have hb0:=box_below w (.cells #[.int .u8 111,.int .u8 n,.int .i64 k,.int .i64 t,.int .i64 b,.slice pa pn pc,.pointer bo,.pointer ov] 82)
 have HB0:=hide hb0
 have HSm:=hide h.small
 clear h hb0
 go_enter Tryz.func142,Tryz.ntmps142
 go_wp2_with fail
 refine (join_any (cc:=111) (J:=fun o _ x=>divE o x) (fun o n x w ho hn hx=>two_o ho hn hx w) (unhide HL)).mono ?_
 rintro e w1 ⟨hl,hb1⟩
 have HB:=hide ((unhide HB0).trans (hb1.mono (unhide HB0).size))
 have HG:=hide (hl.base (unhide HB0).size)
 clear hb1
 rcases hl with ⟨l',g',cap',_,_,rfl,_⟩ | ⟨c,_,_,rfl⟩
 ·go_wp2_with fail
  exact bodyPost_ret (v:=.tuple #[.slice (some ⟨g',0,none⟩) l'.length cap',.int .i64 0]) (by simp [results,Tryz.results142,go_sem]) rfl ⟨unhide HG,unhide HB⟩
 ·go_wp2_with fail
  exact bodyPost_ret (v:=.tuple #[.slice none 0 0,.int .i64 c]) (by simp [results,Tryz.results142,go_sem]) rfl ⟨unhide HG,unhide HB⟩
set_option maxRecDepth 100000 in
set_option maxHeartbeats 800000 in
theorem mk_r {g cap:Nat} {xs:List Rat} {w:World} (h:LIs w g cap xs) (n k t b:Int) (pa:Option Addr) (pn pc:Nat) (bo ov:Option Addr) :
  Calls Tryz.prog 142 #[.slice (some ⟨g,0,none⟩) xs.length cap,.agg #[.int .u8 114,.int .u8 n,.int .i64 k,.int .i64 t,.int .i64 b,.slice pa pn pc,.pointer bo,.pointer ov]] w fun e w'=>LGot w.heap.size (.ok xs.reverse) e w' ∧ Below w.heap.size w w':=by
 have HL:=hide (h.below (box_below w (.cells #[.int .u8 114,.int .u8 n,.int .i64 k,.int .i64 t,.int .i64 b,.slice pa pn pc,.pointer bo,.pointer ov] 82)))
 have hb0:=box_below w (.cells #[.int .u8 114,.int .u8 n,.int .i64 k,.int .i64 t,.int .i64 b,.slice pa pn pc,.pointer bo,.pointer ov] 82)
 have HB0:=hide hb0
 have HSm:=hide h.small
 clear h hb0
 go_enter Tryz.func142,Tryz.ntmps142
 go_wp2_with fail
 refine (turnRound_any (unhide HL)).mono ?_
 rintro e w1 ⟨⟨g',cap',rfl,ho⟩,hb1⟩
 have HO:=hide (owns_base ho (unhide HB0).size)
 have HB:=hide ((unhide HB0).trans (hb1.mono (unhide HB0).size))
 clear ho hb1
 go_wp2_with fail
 exact bodyPost_ret (v:=.tuple #[.slice (some ⟨g',0,none⟩) (xs.reverse).length cap',.int .i64 0]) (by simp [results,Tryz.results142,go_sem]) rfl ⟨Or.inl ⟨_,g',cap',rfl,allS_sub (unhide HSm) (fun x hx=>List.mem_reverse.1 hx),rfl,unhide HO⟩,unhide HB⟩
set_option maxRecDepth 100000 in
set_option maxHeartbeats 800000 in
theorem mk_shift {g cap:Nat} {xs:List Rat} {w:World} (h:LIs w g cap xs) (n k t b:Int) (pa:Option Addr) (pn pc:Nat) (bo ov:Option Addr) (hk1:-1000 ≤ k) (hk2:k ≤ 1000) :
  Calls Tryz.prog 142 #[.slice (some ⟨g,0,none⟩) xs.length cap,.agg #[.int .u8 60,.int .u8 n,.int .i64 k,.int .i64 t,.int .i64 b,.slice pa pn pc,.pointer bo,.pointer ov]] w fun e w'=>LGot w.heap.size (.ok (turn k xs)) e w' ∧ Below w.heap.size w w':=by
 have HL:=hide (h.below (box_below w (.cells #[.int .u8 60,.int .u8 n,.int .i64 k,.int .i64 t,.int .i64 b,.slice pa pn pc,.pointer bo,.pointer ov] 82)))
 have hb0:=box_below w (.cells #[.int .u8 60,.int .u8 n,.int .i64 k,.int .i64 t,.int .i64 b,.slice pa pn pc,.pointer bo,.pointer ov] 82)
 have HB0:=hide hb0
 have HSm:=hide h.small
 clear h hb0
 go_enter Tryz.func142,Tryz.ntmps142
 go_wp2_with fail
 refine (shift_any (unhide HL) k hk1 hk2).mono ?_
 rintro e w1 ⟨⟨g',cap',rfl,ho⟩,hb1⟩
 have HO:=hide (owns_base ho (unhide HB0).size)
 have HB:=hide ((unhide HB0).trans (hb1.mono (unhide HB0).size))
 clear ho hb1
 go_wp2_with fail
 exact bodyPost_ret (v:=.tuple #[.slice (some ⟨g',0,none⟩) (turn k xs).length cap',.int .i64 0]) (by simp [results,Tryz.results142,go_sem]) rfl ⟨Or.inl ⟨_,g',cap',rfl,turnS k (unhide HSm),rfl,unhide HO⟩,unhide HB⟩
set_option maxRecDepth 100000 in
set_option maxHeartbeats 800000 in
theorem mk_take {g cap:Nat} {xs:List Rat} {w:World} (h:LIs w g cap xs) (n:Int) (k:Nat) (t b:Int) (pa:Option Addr) (pn pc:Nat) (bo ov:Option Addr) (hk:k ≤ 1000) :
  Calls Tryz.prog 142 #[.slice (some ⟨g,0,none⟩) xs.length cap,.agg #[.int .u8 116,.int .u8 n,.int .i64 (k:Int),.int .i64 t,.int .i64 b,.slice pa pn pc,.pointer bo,.pointer ov]] w fun e w'=>LGot w.heap.size (takeE k xs) e w' ∧ Below w.heap.size w w':=by
 have HL:=hide (h.below (box_below w (.cells #[.int .u8 116,.int .u8 n,.int .i64 (k:Int),.int .i64 t,.int .i64 b,.slice pa pn pc,.pointer bo,.pointer ov] 82)))
 have hb0:=box_below w (.cells #[.int .u8 116,.int .u8 n,.int .i64 (k:Int),.int .i64 t,.int .i64 b,.slice pa pn pc,.pointer bo,.pointer ov] 82)
 have HB0:=hide hb0
 have HSm:=hide h.small
 clear h hb0
 go_enter Tryz.func142,Tryz.ntmps142
 go_wp2_with fail
 refine (takeFirst_any (unhide HL) k hk).mono ?_
 rintro e w1 ⟨hl,hb1⟩
 have HB:=hide ((unhide HB0).trans (hb1.mono (unhide HB0).size))
 have HG:=hide (hl.base (unhide HB0).size)
 clear hb1
 rcases hl with ⟨l',g',cap',_,_,rfl,_⟩ | ⟨c,_,_,rfl⟩
 ·go_wp2_with fail
  exact bodyPost_ret (v:=.tuple #[.slice (some ⟨g',0,none⟩) l'.length cap',.int .i64 0]) (by simp [results,Tryz.results142,go_sem]) rfl ⟨unhide HG,unhide HB⟩
 ·go_wp2_with fail
  exact bodyPost_ret (v:=.tuple #[.slice none 0 0,.int .i64 c]) (by simp [results,Tryz.results142,go_sem]) rfl ⟨unhide HG,unhide HB⟩
set_option maxRecDepth 100000 in
set_option maxHeartbeats 800000 in
theorem mk_drop {g cap:Nat} {xs:List Rat} {w:World} (h:LIs w g cap xs) (n:Int) (k:Nat) (t b:Int) (pa:Option Addr) (pn pc:Nat) (bo ov:Option Addr) (hk:k ≤ 1000) :
  Calls Tryz.prog 142 #[.slice (some ⟨g,0,none⟩) xs.length cap,.agg #[.int .u8 100,.int .u8 n,.int .i64 (k:Int),.int .i64 t,.int .i64 b,.slice pa pn pc,.pointer bo,.pointer ov]] w fun e w'=>LGot w.heap.size (dropE k xs) e w' ∧ Below w.heap.size w w':=by
 have HL:=hide (h.below (box_below w (.cells #[.int .u8 100,.int .u8 n,.int .i64 (k:Int),.int .i64 t,.int .i64 b,.slice pa pn pc,.pointer bo,.pointer ov] 82)))
 have hb0:=box_below w (.cells #[.int .u8 100,.int .u8 n,.int .i64 (k:Int),.int .i64 t,.int .i64 b,.slice pa pn pc,.pointer bo,.pointer ov] 82)
 have HB0:=hide hb0
 have HSm:=hide h.small
 clear h hb0
 go_enter Tryz.func142,Tryz.ntmps142
 go_wp2_with fail
 refine (takeBehind_any (unhide HL) k hk).mono ?_
 rintro e w1 ⟨hl,hb1⟩
 have HB:=hide ((unhide HB0).trans (hb1.mono (unhide HB0).size))
 have HG:=hide (hl.base (unhide HB0).size)
 clear hb1
 rcases hl with ⟨l',g',cap',_,_,rfl,_⟩ | ⟨c,_,_,rfl⟩
 ·go_wp2_with fail
  exact bodyPost_ret (v:=.tuple #[.slice (some ⟨g',0,none⟩) l'.length cap',.int .i64 0]) (by simp [results,Tryz.results142,go_sem]) rfl ⟨unhide HG,unhide HB⟩
 ·go_wp2_with fail
  exact bodyPost_ret (v:=.tuple #[.slice none 0 0,.int .i64 c]) (by simp [results,Tryz.results142,go_sem]) rfl ⟨unhide HG,unhide HB⟩
set_option maxRecDepth 100000 in
set_option maxHeartbeats 800000 in
theorem mk_pick {g cap:Nat} {xs:List Rat} {w:World} (h:LIs w g cap xs) (n k t b:Int) (pa:Option Addr) (pn pc:Nat) (bo ov:Option Addr) {ps:List Nat} (hp:w.ownsRow 0 3 1 (.slice pa pn pc) ps.length (ps.map fun i:Nat=>Value.int .i64 (i:Int))) (hpl:ps.length ≤ 1000) (hpb:∀ i ∈ ps,i ≤ 1000) :
  Calls Tryz.prog 142 #[.slice (some ⟨g,0,none⟩) xs.length cap,.agg #[.int .u8 35,.int .u8 n,.int .i64 k,.int .i64 t,.int .i64 b,.slice pa pn pc,.pointer bo,.pointer ov]] w fun e w'=>LGot w.heap.size (pickE ps xs) e w' ∧ Below w.heap.size w w':=by
 have HL:=hide (h.below (box_below w (.cells #[.int .u8 35,.int .u8 n,.int .i64 k,.int .i64 t,.int .i64 b,.slice pa pn pc,.pointer bo,.pointer ov] 82)))
 have hb0:=box_below w (.cells #[.int .u8 35,.int .u8 n,.int .i64 k,.int .i64 t,.int .i64 b,.slice pa pn pc,.pointer bo,.pointer ov] 82)
 have HB0:=hide hb0
 have HSm:=hide h.small
 have HP:=hide hp
 have HPb:=hide hpb
 clear hp hpb
 clear h hb0
 go_enter Tryz.func142,Tryz.ntmps142
 go_wp2_with fail
 refine (takeAt_any (unhide HL) (owns_belowP (unhide HP) (unhide HB0)) hpl (unhide HPb)).mono ?_
 rintro e w1 ⟨hl,hb1⟩
 have HB:=hide ((unhide HB0).trans (hb1.mono (unhide HB0).size))
 have HG:=hide (hl.base (unhide HB0).size)
 clear hb1
 rcases hl with ⟨l',g',cap',_,_,rfl,_⟩ | ⟨c,_,_,rfl⟩
 ·go_wp2_with fail
  exact bodyPost_ret (v:=.tuple #[.slice (some ⟨g',0,none⟩) l'.length cap',.int .i64 0]) (by simp [results,Tryz.results142,go_sem]) rfl ⟨unhide HG,unhide HB⟩
 ·go_wp2_with fail
  exact bodyPost_ret (v:=.tuple #[.slice none 0 0,.int .i64 c]) (by simp [results,Tryz.results142,go_sem]) rfl ⟨unhide HG,unhide HB⟩
theorem joinR_other {cc:Int} (h:cc ≠ 109) (J:Rat → Rat → Rat → Except Int Rat) (l:List Rat):joinR cc J l = joinL J l:=by
 rw [joinR,decide_eq_false h]
 rfl
theorem joinR_m (J:Rat → Rat → Rat → Except Int Rat) (l:List Rat):joinR 109 J l = if zeroAhead l then .error 2 else joinL J l:=by
 rw [joinR,decide_eq_true rfl,Bool.true_and]
theorem nodup12 {ps:List Nat} (h:ps.Nodup) (hb:∀ i ∈ ps,i < 12):ps.length ≤ 12:=by
 have:=List.Nodup.length_le_of_subset h (fun i hi=>List.mem_range.2 (hb i hi))
 simpa using this
theorem makeOf_any {y:Sp} {x:PC} {Ok:Nat → Prop} {g cap:Nat} {xs:List Rat} {w:World} (hx:SpIs Ok w x y) (hw:y.wf) (h:LIs w g cap xs) :
  Calls Tryz.prog 142 #[.slice (some ⟨g,0,none⟩) xs.length cap,PC.value x] w fun e w'=>LGot w.heap.size (y.work xs) e w' ∧ Below w.heap.size w w':=by
 obtain ⟨L,N,K,Tp,Bt,pa,pn,pc,Bo,Ov⟩:=x
 obtain ⟨hL,hx⟩:=hx
 have hL':L = y.first:=hL
 subst hL'
 cases y with
 | n=>
  rw [show Sp.n.work xs = each (fun x=>.ok (-x)) xs from (each_ok _ xs).symm]
  exact mk_n h _ _ _ _ pa pn pc _ _
 | v=>exact mk_v h _ _ _ _ pa pn pc _ _
 | a=>
  rw [show Sp.a.work xs = each (fun x=>.ok (absR x)) xs from (each_ok absR xs).symm]
  exact mk_a h _ _ _ _ pa pn pc _ _
 | q=>exact mk_q h _ _ _ _ pa pn pc _ _
 | w=>exact mk_w h _ _ _ _ pa pn pc _ _
 | u=>exact mk_u h _ _ _ _ pa pn pc _ _
 | r=>exact mk_r h _ _ _ _ pa pn pc _ _
 | s=>
  rw [show Sp.s.work xs = joinR 115 (fun _ n x=>addE n x) xs from by rw [joinR_other (by decide),joinL_scan];rfl]
  exact mk_s h _ _ _ _ pa pn pc _ _
 | z=>
  rw [show Sp.z.work xs = joinR 122 (fun o _ x=>subE o x) xs from by rw [joinR_other (by decide),joinL_diff];rfl]
  exact mk_z h _ _ _ _ pa pn pc _ _
 | p=>
  rw [show Sp.p.work xs = joinR 112 (fun _ n x=>mulE n x) xs from by rw [joinR_other (by decide),joinL_scan];rfl]
  exact mk_p h _ _ _ _ pa pn pc _ _
 | m=>
  rw [show Sp.m.work xs = joinR 109 (fun _ n x=>mulE n x) xs from by rw [joinR_m,joinL_scan];rfl]
  exact mk_m h _ _ _ _ pa pn pc _ _
 | o=>
  rw [show Sp.o.work xs = joinR 111 (fun o _ x=>divE o x) xs from by rw [joinR_other (by decide),joinL_diff];rfl]
  exact mk_o h _ _ _ _ pa pn pc _ _
 | plus c=>
  obtain ⟨e1,e2⟩:=hx
  have e1':Tp = c.num:=e1
  have e2':Bt = (c.den:Int):=e2
  subst e1' e2'
  exact mk_plus h _ _ pa pn pc _ _ hw
 | times c=>
  obtain ⟨e1,e2⟩:=hx
  have e1':Tp = c.num:=e1
  have e2':Bt = (c.den:Int):=e2
  subst e1' e2'
  exact mk_times h _ _ pa pn pc _ _ hw
 | set c=>
  obtain ⟨e1,e2⟩:=hx
  have e1':Tp = c.num:=e1
  have e2':Bt = (c.den:Int):=e2
  subst e1' e2'
  rw [show (Sp.set c).work xs = each (fun _=>.ok c) xs from (each_ok (fun _=>c) xs).symm]
  exact mk_set h _ _ pa pn pc _ _ hw
 | shift k=>
  have e1:K = k:=hx
  subst e1
  exact mk_shift h _ _ _ _ pa pn pc _ _ (by have:=hw.1;omega) (by have:=hw.2;omega)
 | take k=>
  have e1:K = (k:Int):=hx
  subst e1
  have hk:k ≤ 12:=hw
  exact mk_take h _ k _ _ pa pn pc _ _ (by omega)
 | drop k=>
  have e1:K = (k:Int):=hx
  subst e1
  have hk:k ≤ 12:=hw
  exact mk_drop h _ k _ _ pa pn pc _ _ (by omega)
 | pick ps=>
  have hp:w.ownsRow 0 3 1 (.slice pa pn pc) ps.length (ps.map fun i:Nat=>Value.int .i64 (i:Int)):=hx.1
  have hl:=nodup12 hw.2.1 hw.2.2
  exact mk_pick h _ _ _ _ pa pn pc _ _ hp (by omega) (fun i hi=>by have:=hw.2.2 i hi;omega)
end Go.Proofs.YtikiaijgcjjloabGreatDoor

import Derived.Test.YtikiaijgcjjloabGreatDoorPart48
import Derived.BigRegion

namespace Go.Proofs.YtikiaijgcjjloabGreatDoor
open Go Go.RowKit M Go.Lib
def NotBoth (a b:ByteArray):Prop:=(∀ t q,¬ IsNum a.data.toList t q) ∨ (∀ t q,¬ IsNum b.data.toList t q)
structure Frame2 (w w1 w2:World) (x0 x1 y0 y1:Value):Prop where
 a0:w2.cell? ⟨w.heap.size,0,none⟩ = some x0
 a1:w2.cell? ⟨w.heap.size,1,none⟩ = some x1
 b0:w2.cell? ⟨w.heap.size + 1,0,none⟩ = some y0
 b1:w2.cell? ⟨w.heap.size + 1,1,none⟩ = some y1
 fa0:w2.frozen? ⟨w.heap.size,0,none⟩ = false
 fa1:w2.frozen? ⟨w.heap.size,1,none⟩ = false
 fb0:w2.frozen? ⟨w.heap.size + 1,0,none⟩ = false
 fb1:w2.frozen? ⟨w.heap.size + 1,1,none⟩ = false
 z1:w.heap.size + 2 ≤ w1.heap.size
 z2:w1.heap.size + 1 ≤ w2.heap.size
 bel:Below w.heap.size w w2
theorem frame2 {w w1 w2:World} {T:TypeId} {x0 x1 y0 y1:Value} {o:Obj} (h1:Below ((w.alloc (.cells #[x0,x1] T)).alloc (.cells #[y0,y1] T)).heap.size ((w.alloc (.cells #[x0,x1] T)).alloc (.cells #[y0,y1] T)) w1) (h2:Below (w1.alloc o).heap.size (w1.alloc o) w2):Frame2 w w1 w2 x0 x1 y0 y1:=by
 have z1:w.heap.size + 2 ≤ w1.heap.size:=by have:=h1.size;simpa using this
 have z2:w1.heap.size + 1 ≤ w2.heap.size:=by have:=h2.size;simpa using this
 have h3:Below ((w.alloc (.cells #[x0,x1] T)).alloc (.cells #[y0,y1] T)).heap.size ((w.alloc (.cells #[x0,x1] T)).alloc (.cells #[y0,y1] T)) w2:=h1.trans ((fl_two h2).mono (by simpa using z1))
 refine ⟨?_,?_,?_,?_,?_,?_,?_,?_,z1,z2,?_⟩
 ·rw [h3.cell (p:=⟨w.heap.size,0,none⟩) (by simp;omega)];simp [go_sem]
 ·rw [h3.cell (p:=⟨w.heap.size,1,none⟩) (by simp;omega)];simp [go_sem]
 ·rw [h3.cell (p:=⟨w.heap.size + 1,0,none⟩) (by simp)];simp [go_sem]
 ·rw [h3.cell (p:=⟨w.heap.size + 1,1,none⟩) (by simp)];simp [go_sem]
 ·rw [h3.frozen (p:=⟨w.heap.size,0,none⟩) (by simp;omega)];simp [go_sem]
 ·rw [h3.frozen (p:=⟨w.heap.size,1,none⟩) (by simp;omega)];simp [go_sem]
 ·rw [h3.frozen (p:=⟨w.heap.size + 1,0,none⟩) (by simp)];simp [go_sem]
 ·rw [h3.frozen (p:=⟨w.heap.size + 1,1,none⟩) (by simp)];simp [go_sem]
 ·exact (((Below.refl _ _).alloc (Nat.le_refl _) _).alloc (by simp) _).trans (h3.mono (by simp;omega))
theorem four_cells {w w1 w2:World} {x0 x1 y0 y1:Value} (h:Frame2 w w1 w2 x0 x1 y0 y1) (a b c d:Value) (o:Obj) :
  (((((w2.setCell ⟨w.heap.size,0,none⟩ a).setCell ⟨w.heap.size,1,none⟩ b).setCell ⟨w.heap.size + 1,0,none⟩ c).setCell ⟨w.heap.size + 1,1,none⟩ d).alloc o).cell? ⟨w.heap.size,0,none⟩ = some a ∧ (((((w2.setCell ⟨w.heap.size,0,none⟩ a).setCell ⟨w.heap.size,1,none⟩ b).setCell ⟨w.heap.size + 1,0,none⟩ c).setCell ⟨w.heap.size + 1,1,none⟩ d).alloc o).cell? ⟨w.heap.size,1,none⟩ = some b ∧ (((((w2.setCell ⟨w.heap.size,0,none⟩ a).setCell ⟨w.heap.size,1,none⟩ b).setCell ⟨w.heap.size + 1,0,none⟩ c).setCell ⟨w.heap.size + 1,1,none⟩ d).alloc o).cell? ⟨w.heap.size + 1,0,none⟩ = some c ∧ (((((w2.setCell ⟨w.heap.size,0,none⟩ a).setCell ⟨w.heap.size,1,none⟩ b).setCell ⟨w.heap.size + 1,0,none⟩ c).setCell ⟨w.heap.size + 1,1,none⟩ d).alloc o).cell? ⟨w.heap.size + 1,1,none⟩ = some d ∧ Below w.heap.size w (((((w2.setCell ⟨w.heap.size,0,none⟩ a).setCell ⟨w.heap.size,1,none⟩ b).setCell ⟨w.heap.size + 1,0,none⟩ c).setCell ⟨w.heap.size + 1,1,none⟩ d).alloc o):=by
 have hs:((((w2.setCell ⟨w.heap.size,0,none⟩ a).setCell ⟨w.heap.size,1,none⟩ b).setCell ⟨w.heap.size + 1,0,none⟩ c).setCell ⟨w.heap.size + 1,1,none⟩ d).heap.size = w2.heap.size:=by simp
 have z1:=h.z1
 have z2:=h.z2
 have b1:Below ((((w2.setCell ⟨w.heap.size,0,none⟩ a).setCell ⟨w.heap.size,1,none⟩ b).setCell ⟨w.heap.size + 1,0,none⟩ c).setCell ⟨w.heap.size + 1,1,none⟩ d).heap.size ((((w2.setCell ⟨w.heap.size,0,none⟩ a).setCell ⟨w.heap.size,1,none⟩ b).setCell ⟨w.heap.size + 1,0,none⟩ c).setCell ⟨w.heap.size + 1,1,none⟩ d) (((((w2.setCell ⟨w.heap.size,0,none⟩ a).setCell ⟨w.heap.size,1,none⟩ b).setCell ⟨w.heap.size + 1,0,none⟩ c).setCell ⟨w.heap.size + 1,1,none⟩ d).alloc o):=(Below.refl _ _).alloc (Nat.le_refl _) _
 refine ⟨?_,?_,?_,?_,((((h.bel.setCell (by simp) _).setCell (by simp) _).setCell (by simp) _).setCell (by simp) _).trans (b1.mono (by rw [hs];omega))⟩
 ·rw [b1.cell (p:=⟨w.heap.size,0,none⟩) (by rw [hs];show w.heap.size < _;omega)];simp [go_sem,h.a0]
 ·rw [b1.cell (p:=⟨w.heap.size,1,none⟩) (by rw [hs];show w.heap.size < _;omega)];simp [go_sem,h.a1]
 ·rw [b1.cell (p:=⟨w.heap.size + 1,0,none⟩) (by rw [hs];show w.heap.size + 1 < _;omega)];simp [go_sem,h.b0]
 ·rw [b1.cell (p:=⟨w.heap.size + 1,1,none⟩) (by rw [hs];show w.heap.size + 1 < _;omega)];simp [go_sem,h.b1]
set_option maxRecDepth 100000 in
set_option maxHeartbeats 1000000 in
theorem readTwo_any (a b:ByteArray) (w:World) (ha:a.size ≤ maxLen) (hb:b.size ≤ maxLen) :
  Calls Tryz.prog 107 #[.string a,.string b] w fun e w'=>((∃ t1 q1 t2 q2,IsNum a.data.toList t1 q1 ∧ IsNum b.data.toList t2 q2 ∧ e = .returned (.tuple #[.agg #[.int .i64 t1,.int .i64 q1],.agg #[.int .i64 t2,.int .i64 q2],.int .i64 0])) ∨ (NotBoth a b ∧ e = .returned (.tuple #[.agg #[.int .i64 0,.int .i64 0],.agg #[.int .i64 0,.int .i64 0],.int .i64 1]))) ∧ Below w.heap.size w w':=by
 go_enter Tryz.func107,Tryz.ntmps107
 go_wp2_with fail
 refine (Read_any a _ ha).mono ?_
 rintro e w1 ⟨⟨t1,q1,hn1,rfl⟩ | ⟨hn1,rfl⟩,hb1⟩
 ·have HN1:=hide hn1
  clear hn1
  go_wp2_with fail
  refine (Read_any b _ hb).mono ?_
  rintro e w2 ⟨⟨t2,q2,hn2,rfl⟩ | ⟨hn2,rfl⟩,hb2⟩
  ·have HN2:=hide hn2
   clear hn2
   have hF:=frame2 hb1 hb2
   obtain ⟨r0,r1,r2,r3,hbel⟩:=four_cells hF (.int .i64 t1) (.int .i64 q1) (.int .i64 t2) (.int .i64 q2) (.cells #[.int .i64 t2,.int .i64 q2] 80)
   obtain ⟨c0,c1,d0,d1,f0,f1,g0,g1,z1,z2,bel⟩:=hF
   obtain ⟨e0,e1⟩:=cell_new2 hb2
   have y1:¬ w.heap.size = w1.heap.size:=by omega
   have y1':¬ w1.heap.size = w.heap.size:=by omega
   have y2:¬ w.heap.size = w2.heap.size:=by omega
   have y2':¬ w2.heap.size = w.heap.size:=by omega
   have y3:¬ w.heap.size + 1 = w1.heap.size:=by omega
   have y3':¬ w1.heap.size = w.heap.size + 1:=by omega
   have y4:¬ w.heap.size + 1 = w2.heap.size:=by omega
   have y4':¬ w2.heap.size = w.heap.size + 1:=by omega
   have y5:¬ w1.heap.size = w2.heap.size:=by omega
   have y5':¬ w2.heap.size = w1.heap.size:=by omega
   have y6:w.heap.size < w2.heap.size:=by omega
   have y7:w.heap.size + 1 < w2.heap.size:=by omega
   have y8:w1.heap.size < w2.heap.size:=by omega
   go_wp2_with fail
   go_region
   all_goals go_wp2_with fail
   exact bodyPost_ret (v:=.tuple #[.agg #[.int .i64 t1,.int .i64 q1],.agg #[.int .i64 t2,.int .i64 q2],.int .i64 0]) (by simp [results,Tryz.results107,go_sem,r0,r1,r2,r3]) rfl ⟨Or.inl ⟨t1,q1,t2,q2,unhide HN1,unhide HN2,rfl⟩,hbel.drew⟩
  ·have HN2:=hide hn2
   clear hn2
   have hF:=frame2 hb1 hb2
   obtain ⟨r0,r1,r2,r3,hbel⟩:=four_cells hF (.int .i64 0) (.int .i64 0) (.int .i64 0) (.int .i64 0) (.cells #[.int .i64 0,.int .i64 0] 80)
   obtain ⟨c0,c1,d0,d1,f0,f1,g0,g1,z1,z2,bel⟩:=hF
   obtain ⟨e0,e1⟩:=cell_new2 hb2
   have y1:¬ w.heap.size = w1.heap.size:=by omega
   have y1':¬ w1.heap.size = w.heap.size:=by omega
   have y2:¬ w.heap.size = w2.heap.size:=by omega
   have y2':¬ w2.heap.size = w.heap.size:=by omega
   have y3:¬ w.heap.size + 1 = w1.heap.size:=by omega
   have y3':¬ w1.heap.size = w.heap.size + 1:=by omega
   have y4:¬ w.heap.size + 1 = w2.heap.size:=by omega
   have y4':¬ w2.heap.size = w.heap.size + 1:=by omega
   have y5:¬ w1.heap.size = w2.heap.size:=by omega
   have y5':¬ w2.heap.size = w1.heap.size:=by omega
   have y6:w.heap.size < w2.heap.size:=by omega
   have y7:w.heap.size + 1 < w2.heap.size:=by omega
   have y8:w1.heap.size < w2.heap.size:=by omega
   go_wp2_with fail
   exact bodyPost_ret (v:=.tuple #[.agg #[.int .i64 0,.int .i64 0],.agg #[.int .i64 0,.int .i64 0],.int .i64 1]) (by simp [results,Tryz.results107,go_sem,r0,r1,r2,r3]) rfl ⟨Or.inr ⟨Or.inr (unhide HN2),rfl⟩,hbel⟩
 ·have HN1:=hide hn1
  clear hn1
  go_wp2_with fail
  refine (Read_any b _ hb).mono ?_
  rintro e w2 ⟨⟨t2,q2,hn2,rfl⟩ | ⟨hn2,rfl⟩,hb2⟩
  ·clear hn2
   have hF:=frame2 hb1 hb2
   obtain ⟨r0,r1,r2,r3,hbel⟩:=four_cells hF (.int .i64 0) (.int .i64 0) (.int .i64 0) (.int .i64 0) (.cells #[.int .i64 t2,.int .i64 q2] 80)
   obtain ⟨c0,c1,d0,d1,f0,f1,g0,g1,z1,z2,bel⟩:=hF
   obtain ⟨e0,e1⟩:=cell_new2 hb2
   have y1:¬ w.heap.size = w1.heap.size:=by omega
   have y1':¬ w1.heap.size = w.heap.size:=by omega
   have y2:¬ w.heap.size = w2.heap.size:=by omega
   have y2':¬ w2.heap.size = w.heap.size:=by omega
   have y3:¬ w.heap.size + 1 = w1.heap.size:=by omega
   have y3':¬ w1.heap.size = w.heap.size + 1:=by omega
   have y4:¬ w.heap.size + 1 = w2.heap.size:=by omega
   have y4':¬ w2.heap.size = w.heap.size + 1:=by omega
   have y5:¬ w1.heap.size = w2.heap.size:=by omega
   have y5':¬ w2.heap.size = w1.heap.size:=by omega
   have y6:w.heap.size < w2.heap.size:=by omega
   have y7:w.heap.size + 1 < w2.heap.size:=by omega
   have y8:w1.heap.size < w2.heap.size:=by omega
   go_wp2_with fail
   exact bodyPost_ret (v:=.tuple #[.agg #[.int .i64 0,.int .i64 0],.agg #[.int .i64 0,.int .i64 0],.int .i64 1]) (by simp [results,Tryz.results107,go_sem,r0,r1,r2,r3]) rfl ⟨Or.inr ⟨Or.inl (unhide HN1),rfl⟩,hbel⟩
  ·clear hn2
   have hF:=frame2 hb1 hb2
   obtain ⟨r0,r1,r2,r3,hbel⟩:=four_cells hF (.int .i64 0) (.int .i64 0) (.int .i64 0) (.int .i64 0) (.cells #[.int .i64 0,.int .i64 0] 80)
   obtain ⟨c0,c1,d0,d1,f0,f1,g0,g1,z1,z2,bel⟩:=hF
   obtain ⟨e0,e1⟩:=cell_new2 hb2
   have y1:¬ w.heap.size = w1.heap.size:=by omega
   have y1':¬ w1.heap.size = w.heap.size:=by omega
   have y2:¬ w.heap.size = w2.heap.size:=by omega
   have y2':¬ w2.heap.size = w.heap.size:=by omega
   have y3:¬ w.heap.size + 1 = w1.heap.size:=by omega
   have y3':¬ w1.heap.size = w.heap.size + 1:=by omega
   have y4:¬ w.heap.size + 1 = w2.heap.size:=by omega
   have y4':¬ w2.heap.size = w.heap.size + 1:=by omega
   have y5:¬ w1.heap.size = w2.heap.size:=by omega
   have y5':¬ w2.heap.size = w1.heap.size:=by omega
   have y6:w.heap.size < w2.heap.size:=by omega
   have y7:w.heap.size + 1 < w2.heap.size:=by omega
   have y8:w1.heap.size < w2.heap.size:=by omega
   go_wp2_with fail
   exact bodyPost_ret (v:=.tuple #[.agg #[.int .i64 0,.int .i64 0],.agg #[.int .i64 0,.int .i64 0],.int .i64 1]) (by simp [results,Tryz.results107,go_sem,r0,r1,r2,r3]) rfl ⟨Or.inr ⟨Or.inl (unhide HN1),rfl⟩,hbel⟩
set_option maxRecDepth 100000 in
set_option maxHeartbeats 1000000 in
theorem two_any (a b:ByteArray) (w:World) (ha:a.size ≤ maxLen) (hb:b.size ≤ maxLen) :
  Calls Tryz.prog 110 #[.string a,.string b] w fun e w'=>((∃ t1 q1 t2 q2,IsNum a.data.toList t1 q1 ∧ IsNum b.data.toList t2 q2 ∧ e = .returned (.tuple #[.agg #[.int .i64 t1,.int .i64 q1],.agg #[.int .i64 t2,.int .i64 q2],.bool true])) ∨ (NotBoth a b ∧ ∃ t1 q1 t2 q2,e = .returned (.tuple #[.agg #[.int .i64 t1,.int .i64 q1],.agg #[.int .i64 t2,.int .i64 q2],.bool false]))) ∧ Below w.heap.size w w':=by
 go_enter Tryz.func110,Tryz.ntmps110
 go_wp2_with fail
 refine (RRead_any a _ ha).mono ?_
 rintro e w1 ⟨⟨t1,q1,hn1,rfl⟩ | ⟨hn1,t1,q1,rfl⟩,hb1⟩
 ·have HN1:=hide hn1
  clear hn1
  go_wp2_with fail
  refine (RRead_any b _ hb).mono ?_
  rintro e w2 ⟨⟨t2,q2,hn2,rfl⟩ | ⟨hn2,t2,q2,rfl⟩,hb2⟩
  ·have HN2:=hide hn2
   clear hn2
   have hF:=frame2 hb1 hb2
   obtain ⟨r0,r1,r2,r3,hbel⟩:=four_cells hF (.int .i64 t1) (.int .i64 q1) (.int .i64 t2) (.int .i64 q2) (.cells #[.int .i64 t2,.int .i64 q2] 139)
   obtain ⟨c0,c1,d0,d1,f0,f1,g0,g1,z1,z2,bel⟩:=hF
   obtain ⟨e0,e1⟩:=cell_new2 hb2
   have y1:¬ w.heap.size = w1.heap.size:=by omega
   have y1':¬ w1.heap.size = w.heap.size:=by omega
   have y2:¬ w.heap.size = w2.heap.size:=by omega
   have y2':¬ w2.heap.size = w.heap.size:=by omega
   have y3:¬ w.heap.size + 1 = w1.heap.size:=by omega
   have y3':¬ w1.heap.size = w.heap.size + 1:=by omega
   have y4:¬ w.heap.size + 1 = w2.heap.size:=by omega
   have y4':¬ w2.heap.size = w.heap.size + 1:=by omega
   have y5:¬ w1.heap.size = w2.heap.size:=by omega
   have y5':¬ w2.heap.size = w1.heap.size:=by omega
   have y6:w.heap.size < w2.heap.size:=by omega
   have y7:w.heap.size + 1 < w2.heap.size:=by omega
   have y8:w1.heap.size < w2.heap.size:=by omega
   go_wp2_with fail
   go_region
   all_goals go_wp2_with fail
   all_goals exact bodyPost_ret (v:=.tuple #[.agg #[.int .i64 t1,.int .i64 q1],.agg #[.int .i64 t2,.int .i64 q2],.bool true]) (by simp [results,Tryz.results110,go_sem,r0,r1,r2,r3]) rfl ⟨Or.inl ⟨t1,q1,t2,q2,unhide HN1,unhide HN2,rfl⟩,hbel.drew⟩
  ·have HN2:=hide hn2
   clear hn2
   have hF:=frame2 hb1 hb2
   obtain ⟨r0,r1,r2,r3,hbel⟩:=four_cells hF (.int .i64 t1) (.int .i64 q1) (.int .i64 t2) (.int .i64 q2) (.cells #[.int .i64 t2,.int .i64 q2] 139)
   obtain ⟨c0,c1,d0,d1,f0,f1,g0,g1,z1,z2,bel⟩:=hF
   obtain ⟨e0,e1⟩:=cell_new2 hb2
   have y1:¬ w.heap.size = w1.heap.size:=by omega
   have y1':¬ w1.heap.size = w.heap.size:=by omega
   have y2:¬ w.heap.size = w2.heap.size:=by omega
   have y2':¬ w2.heap.size = w.heap.size:=by omega
   have y3:¬ w.heap.size + 1 = w1.heap.size:=by omega
   have y3':¬ w1.heap.size = w.heap.size + 1:=by omega
   have y4:¬ w.heap.size + 1 = w2.heap.size:=by omega
   have y4':¬ w2.heap.size = w.heap.size + 1:=by omega
   have y5:¬ w1.heap.size = w2.heap.size:=by omega
   have y5':¬ w2.heap.size = w1.heap.size:=by omega
   have y6:w.heap.size < w2.heap.size:=by omega
   have y7:w.heap.size + 1 < w2.heap.size:=by omega
   have y8:w1.heap.size < w2.heap.size:=by omega
   go_wp2_with fail
   go_region
   all_goals go_wp2_with fail
   all_goals exact bodyPost_ret (v:=.tuple #[.agg #[.int .i64 t1,.int .i64 q1],.agg #[.int .i64 t2,.int .i64 q2],.bool false]) (by simp [results,Tryz.results110,go_sem,r0,r1,r2,r3]) rfl ⟨Or.inr ⟨Or.inr (unhide HN2),t1,q1,t2,q2,rfl⟩,hbel.drew⟩
 ·have HN1:=hide hn1
  clear hn1
  go_wp2_with fail
  refine (RRead_any b _ hb).mono ?_
  rintro e w2 ⟨⟨t2,q2,hn2,rfl⟩ | ⟨hn2,t2,q2,rfl⟩,hb2⟩
  all_goals
   clear hn2
   have hF:=frame2 hb1 hb2
   obtain ⟨r0,r1,r2,r3,hbel⟩:=four_cells hF (.int .i64 t1) (.int .i64 q1) (.int .i64 t2) (.int .i64 q2) (.cells #[.int .i64 t2,.int .i64 q2] 139)
   obtain ⟨c0,c1,d0,d1,f0,f1,g0,g1,z1,z2,bel⟩:=hF
   obtain ⟨e0,e1⟩:=cell_new2 hb2
   have y1:¬ w.heap.size = w1.heap.size:=by omega
   have y1':¬ w1.heap.size = w.heap.size:=by omega
   have y2:¬ w.heap.size = w2.heap.size:=by omega
   have y2':¬ w2.heap.size = w.heap.size:=by omega
   have y3:¬ w.heap.size + 1 = w1.heap.size:=by omega
   have y3':¬ w1.heap.size = w.heap.size + 1:=by omega
   have y4:¬ w.heap.size + 1 = w2.heap.size:=by omega
   have y4':¬ w2.heap.size = w.heap.size + 1:=by omega
   have y5:¬ w1.heap.size = w2.heap.size:=by omega
   have y5':¬ w2.heap.size = w1.heap.size:=by omega
   have y6:w.heap.size < w2.heap.size:=by omega
   have y7:w.heap.size + 1 < w2.heap.size:=by omega
   have y8:w1.heap.size < w2.heap.size:=by omega
   go_wp2_with fail
   go_region
   all_goals go_wp2_with fail
   all_goals exact bodyPost_ret (v:=.tuple #[.agg #[.int .i64 t1,.int .i64 q1],.agg #[.int .i64 t2,.int .i64 q2],.bool false]) (by simp [results,Tryz.results110,go_sem,r0,r1,r2,r3]) rfl ⟨Or.inr ⟨Or.inl (unhide HN1),t1,q1,t2,q2,rfl⟩,hbel.drew⟩
def LowF (p q:Int) (r:List UInt8) (c:Int):Prop:=(fitsB p q = true ∧ r = numText (lowP p q) (lowQ p q) ∧ c = 0) ∨ (fitsB p q = false ∧ r = [] ∧ c = 3)
def SumF (t1 q1 t2 q2:Int):List UInt8 → Int → Prop:=LowF (t1 * q2 + t2 * q1) (q1 * q2)
def ProdF (t1 q1 t2 q2:Int):List UInt8 → Int → Prop:=LowF (t1 * t2) (q1 * q2)
def Says2 (F:Int → Int → Int → Int → List UInt8 → Int → Prop) (a b:ByteArray) (r:List UInt8) (c:Int):Prop :=
 (NotBoth a b ∧ r = [] ∧ c = 1) ∨ ∃ t1 q1 t2 q2,IsNum a.data.toList t1 q1 ∧ IsNum b.data.toList t2 q2 ∧ F t1 q1 t2 q2 r c
def Ans2 (F:Int → Int → Int → Int → List UInt8 → Int → Prop) (a b:ByteArray) (e:Ending):Prop :=
 ∃ r c,e = .returned (.tuple #[.string ⟨List.toArray r⟩,.int .i64 c]) ∧ Says2 F a b r c
theorem lowF_fun {p q:Int} {r r':List UInt8} {c c':Int} (h:LowF p q r c) (h':LowF p q r' c'):r = r' ∧ c = c':=by
 rcases h with ⟨h0,rfl,rfl⟩ | ⟨h0,rfl,rfl⟩ <;> rcases h' with ⟨h1,rfl,rfl⟩ | ⟨h1,rfl,rfl⟩
 ·exact ⟨rfl,rfl⟩
 ·rw [h0] at h1;cases h1
 ·rw [h0] at h1;cases h1
 ·exact ⟨rfl,rfl⟩
theorem says2_one {F:Int → Int → Int → Int → List UInt8 → Int → Prop} (hF:∀ t1 q1 t2 q2 r r' c c',F t1 q1 t2 q2 r c → F t1 q1 t2 q2 r' c' → r = r' ∧ c = c') {a b:ByteArray} {r r':List UInt8} {c c':Int}
  (h:Says2 F a b r c) (h':Says2 F a b r' c'):r = r' ∧ c = c':=by
 rcases h with ⟨h0,rfl,rfl⟩ | ⟨t1,q1,t2,q2,n1,n2,hf⟩ <;> rcases h' with ⟨h1,rfl,rfl⟩ | ⟨t1',q1',t2',q2',n1',n2',hf'⟩
 ·exact ⟨rfl,rfl⟩
 ·rcases h0 with h0 | h0
  ·exact absurd n1' (h0 _ _)
  ·exact absurd n2' (h0 _ _)
 ·rcases h1 with h1 | h1
  ·exact absurd n1 (h1 _ _)
  ·exact absurd n2 (h1 _ _)
 ·obtain ⟨rfl,rfl⟩:=n1.unique n1'
  obtain ⟨rfl,rfl⟩:=n2.unique n2'
  exact hF _ _ _ _ _ _ _ _ hf hf'
theorem chain_al {w w1 w2:World} {o o':Obj} (h1:Below w.heap.size w w1) (h2:Below ((w1.alloc o).alloc o').heap.size ((w1.alloc o).alloc o') w2):Below w.heap.size w w2 :=
 h1.trans (((((Below.refl _ _).alloc (Nat.le_refl _) o).alloc (by simp) o').trans (h2.mono (by simp;omega))).mono h1.size)
theorem chain_al1 {w w1 w2:World} {o:Obj} (h1:Below w.heap.size w w1) (h2:Below (w1.alloc o).heap.size (w1.alloc o) w2):Below w.heap.size w w2 :=
 h1.trans ((fl_two h2).mono h1.size)
set_option maxRecDepth 100000 in
set_option maxHeartbeats 400000 in
theorem Plus_any (a b:ByteArray) (w:World) (ha:a.size ≤ maxLen) (hb:b.size ≤ maxLen) (ht:Tab w) :
  Calls Tryz.prog 70 #[.string a,.string b] w fun e w'=>Ans2 SumF a b e ∧ Below w.heap.size w w':=by
 have HT:=hide ht
 clear ht
 go_enter Tryz.func70,Tryz.ntmps70
 go_wp2_with fail
 refine (readTwo_any a b _ ha hb).mono ?_
 rintro e w1 ⟨⟨t1,q1,t2,q2,n1,n2,rfl⟩ | ⟨hn,rfl⟩,hb1⟩
 ·have HN1:=hide n1
  have HN2:=hide n2
  have i1:=n1.lo;have i2:=n1.hi;have i3:=n1.b1;have i4:=n1.b2
  have j1:=n2.lo;have j2:=n2.hi;have j3:=n2.b1;have j4:=n2.b2
  clear n1 n2
  go_wp2_with fail
  refine (nPlus_any t1 q1 t2 q2 _ i1 i2 i3 i4 j1 j2 j3 j4).mono ?_
  rintro e w2 ⟨⟨hf,rfl⟩ | ⟨hf,rfl⟩,hb2⟩
  ·obtain ⟨k1,k2,k3,k4⟩:=fits_bd (t1 * q2 + t2 * q1) (q1 * q2) (mul_pos1 q1 q2 i3 j3) hf
   have HA:=hide (show Says2 SumF a b (numText (lowP (t1 * q2 + t2 * q1) (q1 * q2)) (lowQ (t1 * q2 + t2 * q1) (q1 * q2))) 0 from Or.inr ⟨t1,q1,t2,q2,unhide HN1,unhide HN2,Or.inl ⟨hf,rfl,rfl⟩⟩)
   clear hf HN1 HN2
   generalize lowP (t1 * q2 + t2 * q1) (q1 * q2) = P at *
   generalize lowQ (t1 * q2 + t2 * q1) (q1 * q2) = Q at *
   go_wp2_with fail
   refine (write_ok P Q _ k1 k2 k3 k4 (tab_alloc (tab_below (unhide HT) (chain_al hb1 hb2)) _)).mono ?_
   rintro e w3 ⟨rfl,hb3⟩
   go_wp2_with fail
   go_ret2
   exact ⟨⟨_,0,rfl,unhide HA⟩,chain_al1 (chain_al hb1 hb2) hb3⟩
  ·have HA:=hide (show Says2 SumF a b [] 3 from Or.inr ⟨t1,q1,t2,q2,unhide HN1,unhide HN2,Or.inr ⟨hf,rfl,rfl⟩⟩)
   clear hf HN1 HN2
   go_wp2_with fail
   refine (write_err 0 0 3 _ rfl).mono ?_
   rintro e w3 ⟨rfl,hb3⟩
   go_wp2_with fail
   go_ret2
   exact ⟨⟨[],3,rfl,unhide HA⟩,chain_al1 (chain_al hb1 hb2) hb3⟩
 ·have HN:=hide hn
  clear hn
  go_wp2_with fail
  go_ret2
  exact ⟨⟨[],1,rfl,Or.inl ⟨unhide HN,rfl,rfl⟩⟩,hb1.trans ((((Below.refl _ _).alloc (Nat.le_refl _) _).alloc (by simp) _).mono hb1.size)⟩
set_option maxRecDepth 100000 in
set_option maxHeartbeats 400000 in
theorem Times_any (a b:ByteArray) (w:World) (ha:a.size ≤ maxLen) (hb:b.size ≤ maxLen) (ht:Tab w) :
  Calls Tryz.prog 72 #[.string a,.string b] w fun e w'=>Ans2 ProdF a b e ∧ Below w.heap.size w w':=by
 have HT:=hide ht
 clear ht
 go_enter Tryz.func72,Tryz.ntmps72
 go_wp2_with fail
 refine (readTwo_any a b _ ha hb).mono ?_
 rintro e w1 ⟨⟨t1,q1,t2,q2,n1,n2,rfl⟩ | ⟨hn,rfl⟩,hb1⟩
 ·have HN1:=hide n1
  have HN2:=hide n2
  have i1:=n1.lo;have i2:=n1.hi;have i3:=n1.b1;have i4:=n1.b2
  have j1:=n2.lo;have j2:=n2.hi;have j3:=n2.b1;have j4:=n2.b2
  clear n1 n2
  go_wp2_with fail
  refine (nTimes_any t1 q1 t2 q2 _ i1 i2 i3 i4 j1 j2 j3 j4).mono ?_
  rintro e w2 ⟨⟨hf,rfl⟩ | ⟨hf,rfl⟩,hb2⟩
  ·obtain ⟨k1,k2,k3,k4⟩:=fits_bd (t1 * t2) (q1 * q2) (mul_pos1 q1 q2 i3 j3) hf
   have HA:=hide (show Says2 ProdF a b (numText (lowP (t1 * t2) (q1 * q2)) (lowQ (t1 * t2) (q1 * q2))) 0 from Or.inr ⟨t1,q1,t2,q2,unhide HN1,unhide HN2,Or.inl ⟨hf,rfl,rfl⟩⟩)
   clear hf HN1 HN2
   generalize lowP (t1 * t2) (q1 * q2) = P at *
   generalize lowQ (t1 * t2) (q1 * q2) = Q at *
   go_wp2_with fail
   refine (write_ok P Q _ k1 k2 k3 k4 (tab_alloc (tab_below (unhide HT) (chain_al hb1 hb2)) _)).mono ?_
   rintro e w3 ⟨rfl,hb3⟩
   go_wp2_with fail
   go_ret2
   exact ⟨⟨_,0,rfl,unhide HA⟩,chain_al1 (chain_al hb1 hb2) hb3⟩
  ·have HA:=hide (show Says2 ProdF a b [] 3 from Or.inr ⟨t1,q1,t2,q2,unhide HN1,unhide HN2,Or.inr ⟨hf,rfl,rfl⟩⟩)
   clear hf HN1 HN2
   go_wp2_with fail
   refine (write_err 0 0 3 _ rfl).mono ?_
   rintro e w3 ⟨rfl,hb3⟩
   go_wp2_with fail
   go_ret2
   exact ⟨⟨[],3,rfl,unhide HA⟩,chain_al1 (chain_al hb1 hb2) hb3⟩
 ·have HN:=hide hn
  clear hn
  go_wp2_with fail
  go_ret2
  exact ⟨⟨[],1,rfl,Or.inl ⟨unhide HN,rfl,rfl⟩⟩,hb1.trans ((((Below.refl _ _).alloc (Nat.le_refl _) _).alloc (by simp) _).mono hb1.size)⟩
set_option maxRecDepth 100000 in
set_option maxHeartbeats 400000 in
theorem rPlus_any (a b:ByteArray) (w:World) (ha:a.size ≤ maxLen) (hb:b.size ≤ maxLen) :
  Calls Tryz.prog 71 #[.string a,.string b] w fun e w'=>Ans2 SumF a b e ∧ Below w.heap.size w w':=by
 go_enter Tryz.func71,Tryz.ntmps71
 go_wp2_with fail
 refine (two_any a b _ ha hb).mono ?_
 rintro e w1 ⟨⟨t1,q1,t2,q2,n1,n2,rfl⟩ | ⟨hn,t1,q1,t2,q2,rfl⟩,hb1⟩
 ·have HN1:=hide n1
  have HN2:=hide n2
  have i1:=n1.lo;have i2:=n1.hi;have i3:=n1.b1;have i4:=n1.b2
  have j1:=n2.lo;have j2:=n2.hi;have j3:=n2.b1;have j4:=n2.b2
  clear n1 n2
  go_wp2_with fail
  refine (rAdd_any t1 q1 t2 q2 _ i1 i2 i3 i4 j1 j2 j3 j4).mono ?_
  rintro e w2 ⟨⟨hf,rfl⟩ | ⟨hf,rfl⟩,hb2⟩
  ·obtain ⟨k1,k2,k3,k4⟩:=fits_bd (t1 * q2 + t2 * q1) (q1 * q2) (mul_pos1 q1 q2 i3 j3) hf
   have HA:=hide (show Says2 SumF a b (numText (lowP (t1 * q2 + t2 * q1) (q1 * q2)) (lowQ (t1 * q2 + t2 * q1) (q1 * q2))) 0 from Or.inr ⟨t1,q1,t2,q2,unhide HN1,unhide HN2,Or.inl ⟨hf,rfl,rfl⟩⟩)
   clear hf HN1 HN2
   generalize lowP (t1 * q2 + t2 * q1) (q1 * q2) = P at *
   generalize lowQ (t1 * q2 + t2 * q1) (q1 * q2) = Q at *
   go_wp2_with fail
   refine (told_ok P Q _ k1 k2 k3 k4).mono ?_
   rintro e w3 ⟨rfl,hb3⟩
   go_wp2_with fail
   go_ret2
   exact ⟨⟨_,0,rfl,unhide HA⟩,chain_al1 (chain_al hb1 hb2) hb3⟩
  ·have HA:=hide (show Says2 SumF a b [] 3 from Or.inr ⟨t1,q1,t2,q2,unhide HN1,unhide HN2,Or.inr ⟨hf,rfl,rfl⟩⟩)
   clear hf HN1 HN2
   go_wp2_with fail
   refine (told_err 0 1 3 _ rfl).mono ?_
   rintro e w3 ⟨rfl,hb3⟩
   go_wp2_with fail
   go_ret2
   exact ⟨⟨[],3,rfl,unhide HA⟩,chain_al1 (chain_al hb1 hb2) hb3⟩
 ·have HN:=hide hn
  clear hn
  go_wp2_with fail
  go_ret2
  exact ⟨⟨[],1,rfl,Or.inl ⟨unhide HN,rfl,rfl⟩⟩,hb1.trans ((((Below.refl _ _).alloc (Nat.le_refl _) _).alloc (by simp) _).mono hb1.size)⟩
set_option maxRecDepth 100000 in
set_option maxHeartbeats 400000 in
theorem rTimes_any (a b:ByteArray) (w:World) (ha:a.size ≤ maxLen) (hb:b.size ≤ maxLen) :
  Calls Tryz.prog 73 #[.string a,.string b] w fun e w'=>Ans2 ProdF a b e ∧ Below w.heap.size w w':=by
 go_enter Tryz.func73,Tryz.ntmps73
 go_wp2_with fail
 refine (two_any a b _ ha hb).mono ?_
 rintro e w1 ⟨⟨t1,q1,t2,q2,n1,n2,rfl⟩ | ⟨hn,t1,q1,t2,q2,rfl⟩,hb1⟩
 ·have HN1:=hide n1
  have HN2:=hide n2
  have i1:=n1.lo;have i2:=n1.hi;have i3:=n1.b1;have i4:=n1.b2
  have j1:=n2.lo;have j2:=n2.hi;have j3:=n2.b1;have j4:=n2.b2
  clear n1 n2
  go_wp2_with fail
  refine (rMul_any t1 q1 t2 q2 _ i1 i2 i3 i4 j1 j2 j3 j4).mono ?_
  rintro e w2 ⟨⟨hf,rfl⟩ | ⟨hf,rfl⟩,hb2⟩
  ·obtain ⟨k1,k2,k3,k4⟩:=fits_bd (t1 * t2) (q1 * q2) (mul_pos1 q1 q2 i3 j3) hf
   have HA:=hide (show Says2 ProdF a b (numText (lowP (t1 * t2) (q1 * q2)) (lowQ (t1 * t2) (q1 * q2))) 0 from Or.inr ⟨t1,q1,t2,q2,unhide HN1,unhide HN2,Or.inl ⟨hf,rfl,rfl⟩⟩)
   clear hf HN1 HN2
   generalize lowP (t1 * t2) (q1 * q2) = P at *
   generalize lowQ (t1 * t2) (q1 * q2) = Q at *
   go_wp2_with fail
   refine (told_ok P Q _ k1 k2 k3 k4).mono ?_
   rintro e w3 ⟨rfl,hb3⟩
   go_wp2_with fail
   go_ret2
   exact ⟨⟨_,0,rfl,unhide HA⟩,chain_al1 (chain_al hb1 hb2) hb3⟩
  ·have HA:=hide (show Says2 ProdF a b [] 3 from Or.inr ⟨t1,q1,t2,q2,unhide HN1,unhide HN2,Or.inr ⟨hf,rfl,rfl⟩⟩)
   clear hf HN1 HN2
   go_wp2_with fail
   refine (told_err 0 1 3 _ rfl).mono ?_
   rintro e w3 ⟨rfl,hb3⟩
   go_wp2_with fail
   go_ret2
   exact ⟨⟨[],3,rfl,unhide HA⟩,chain_al1 (chain_al hb1 hb2) hb3⟩
 ·have HN:=hide hn
  clear hn
  go_wp2_with fail
  go_ret2
  exact ⟨⟨[],1,rfl,Or.inl ⟨unhide HN,rfl,rfl⟩⟩,hb1.trans ((((Below.refl _ _).alloc (Nat.le_refl _) _).alloc (by simp) _).mono hb1.size)⟩
theorem overF_fun {t b:Int} {r r':List UInt8} {c c':Int} (h:OverF t b r c) (h':OverF t b r' c'):r = r' ∧ c = c':=by
 rcases h with ⟨h0,rfl,rfl⟩ | ⟨h0,rfl,rfl⟩ <;> rcases h' with ⟨h1,rfl,rfl⟩ | ⟨h1,rfl,rfl⟩
 ·exact ⟨rfl,rfl⟩
 ·exact absurd h0 h1
 ·exact absurd h1 h0
 ·exact ⟨rfl,rfl⟩
theorem sq_inj (x y:Nat) (h:(x:Int) * x = (y:Int) * y):x = y:=by
 apply root_unique
 have h2:((x * x:Nat):Int) = ((y * y:Nat):Int):=by simpa using h
 omega
theorem rootF_fun {t b:Int} {r r':List UInt8} {c c':Int} (h:RootF t b r c) (h':RootF t b r' c'):r = r' ∧ c = c':=by
 rcases h with ⟨x,y,hx,hy,rfl,rfl⟩ | ⟨h0,rfl,rfl⟩ <;> rcases h' with ⟨x',y',hx',hy',rfl,rfl⟩ | ⟨h1,rfl,rfl⟩
 ·obtain rfl:=sq_inj x x' (hx.trans hx'.symm)
  obtain rfl:=sq_inj y y' (hy.trans hy'.symm)
  exact ⟨rfl,rfl⟩
 ·rcases h1 with h1 | h1
  ·exact absurd hx (h1 x)
  ·exact absurd hy (h1 y)
 ·rcases h0 with h0 | h0
  ·exact absurd hx' (h0 x')
  ·exact absurd hy' (h0 y')
 ·exact ⟨rfl,rfl⟩
theorem ans1_one {F:Int → Int → List UInt8 → Int → Prop} (hF:∀ {t b r r' c c'},F t b r c → F t b r' c' → r = r' ∧ c = c') {s:ByteArray} {r r':List UInt8} {c c':Int}
  (h:((∀ t b,¬ IsNum s.data.toList t b) ∧ r = [] ∧ c = 1) ∨ ∃ t b,IsNum s.data.toList t b ∧ F t b r c) (h':((∀ t b,¬ IsNum s.data.toList t b) ∧ r' = [] ∧ c' = 1) ∨ ∃ t b,IsNum s.data.toList t b ∧ F t b r' c'):r = r' ∧ c = c':=by
 rcases h with ⟨h0,rfl,rfl⟩ | ⟨t,b,hn,hf⟩ <;> rcases h' with ⟨h1,rfl,rfl⟩ | ⟨t',b',hn',hf'⟩
 ·exact ⟨rfl,rfl⟩
 ·exact absurd hn' (h0 t' b')
 ·exact absurd hn (h1 t b)
 ·obtain ⟨rfl,rfl⟩:=hn.unique hn'
  exact hF hf hf'
theorem num_any (c:Int) (w:World):Calls Tryz.prog 48 #[.int .i64 c] w fun e w'=>e = .returned (.int .i64 c) ∧ w = w':=by
 go_enter Tryz.func48,Tryz.ntmps48
 go_wp2
 go_ret
 exact ⟨rfl,rfl⟩
set_option maxRecDepth 100000 in
set_option maxHeartbeats 400000 in
theorem overs_walk (s:ByteArray) (w:World) (hs:s.size ≤ maxLen) (ht:Tab w) :
  Calls Tryz.prog 45 #[.string s] w fun e w'=>e = .returned (.bool true) ∧ Below w.heap.size w w':=by
 have HT:=hide ht
 clear ht
 go_enter Tryz.func45,Tryz.ntmps45
 go_wp2_with fail
 refine (Over_any s _ hs (unhide HT)).mono ?_
 rintro e w1 ⟨⟨r,c,rfl,ha⟩,hb1⟩
 have HA:=hide ha
 clear ha
 go_wp2_with fail
 refine (rOver_any s _ hs).mono ?_
 rintro e w2 ⟨⟨r',c',rfl,ha'⟩,hb2⟩
 obtain ⟨rfl,rfl⟩:=ans1_one (F:=OverF) overF_fun (unhide HA) ha'
 clear ha' HA
 go_wp2_with fail
 refine (num_any c _).mono ?_
 rintro e w3 ⟨rfl,rfl⟩
 go_wp2_with fail
 go_ret
 exact ⟨rfl,hb1.trans (hb2.mono hb1.size)⟩
set_option maxRecDepth 100000 in
set_option maxHeartbeats 400000 in
theorem roots_walk (s:ByteArray) (w:World) (hs:s.size ≤ maxLen) (ht:Tab w) :
  Calls Tryz.prog 46 #[.string s] w fun e w'=>e = .returned (.bool true) ∧ Below w.heap.size w w':=by
 have HT:=hide ht
 clear ht
 go_enter Tryz.func46,Tryz.ntmps46
 go_wp2_with fail
 refine (Root_any s _ hs (unhide HT)).mono ?_
 rintro e w1 ⟨⟨r,c,rfl,ha⟩,hb1⟩
 have HA:=hide ha
 clear ha
 go_wp2_with fail
 refine (rRoot_any s _ hs).mono ?_
 rintro e w2 ⟨⟨r',c',rfl,ha'⟩,hb2⟩
 obtain ⟨rfl,rfl⟩:=ans1_one (F:=RootF) rootF_fun (unhide HA) ha'
 clear ha' HA
 go_wp2_with fail
 refine (num_any c _).mono ?_
 rintro e w3 ⟨rfl,rfl⟩
 go_wp2_with fail
 go_ret
 exact ⟨rfl,hb1.trans (hb2.mono hb1.size)⟩
set_option maxRecDepth 100000 in
set_option maxHeartbeats 400000 in
theorem sums_walk (a b:ByteArray) (w:World) (ha:a.size ≤ maxLen) (hb:b.size ≤ maxLen) (ht:Tab w) :
  Calls Tryz.prog 43 #[.string a,.string b] w fun e w'=>e = .returned (.bool true) ∧ Below w.heap.size w w':=by
 have HT:=hide ht
 clear ht
 go_enter Tryz.func43,Tryz.ntmps43
 go_wp2_with fail
 refine (Plus_any a b _ ha hb (unhide HT)).mono ?_
 rintro e w1 ⟨⟨r,c,rfl,ha1⟩,hb1⟩
 have HA:=hide ha1
 clear ha1
 go_wp2_with fail
 refine (rPlus_any a b _ ha hb).mono ?_
 rintro e w2 ⟨⟨r',c',rfl,ha'⟩,hb2⟩
 obtain ⟨rfl,rfl⟩:=says2_one (F:=SumF) (fun _ _ _ _ _ _ _ _=>lowF_fun) (unhide HA) ha'
 clear ha' HA
 go_wp2_with fail
 refine (num_any c _).mono ?_
 rintro e w3 ⟨rfl,rfl⟩
 go_wp2_with fail
 go_ret
 exact ⟨rfl,hb1.trans (hb2.mono hb1.size)⟩
set_option maxRecDepth 100000 in
set_option maxHeartbeats 400000 in
theorem products_walk (a b:ByteArray) (w:World) (ha:a.size ≤ maxLen) (hb:b.size ≤ maxLen) (ht:Tab w) :
  Calls Tryz.prog 44 #[.string a,.string b] w fun e w'=>e = .returned (.bool true) ∧ Below w.heap.size w w':=by
 have HT:=hide ht
 clear ht
 go_enter Tryz.func44,Tryz.ntmps44
 go_wp2_with fail
 refine (Times_any a b _ ha hb (unhide HT)).mono ?_
 rintro e w1 ⟨⟨r,c,rfl,ha1⟩,hb1⟩
 have HA:=hide ha1
 clear ha1
 go_wp2_with fail
 refine (rTimes_any a b _ ha hb).mono ?_
 rintro e w2 ⟨⟨r',c',rfl,ha'⟩,hb2⟩
 obtain ⟨rfl,rfl⟩:=says2_one (F:=ProdF) (fun _ _ _ _ _ _ _ _=>lowF_fun) (unhide HA) ha'
 clear ha' HA
 go_wp2_with fail
 refine (num_any c _).mono ?_
 rintro e w3 ⟨rfl,rfl⟩
 go_wp2_with fail
 go_ret
 exact ⟨rfl,hb1.trans (hb2.mono hb1.size)⟩
end Go.Proofs.YtikiaijgcjjloabGreatDoor

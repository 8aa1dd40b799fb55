import Derived.Test.YtikiaijgcjjloabGreatDoorPart5
import Derived.Deep.LoopGhost
import Derived.Shelf.LaysM
import Derived.Shelf.Strconv.Itoa3
import Derived.Shelf.Strconv.Itoa4
import Derived.Test.YtikiaijgcjjloabGreatDoorProg
import Derived.Test.YtikiaijgcjjloabGreatDoorPart2

namespace Go.Proofs.YtikiaijgcjjloabGreatDoor
open Go Go.RowKit M T Go.Lib
def rcells (s:ByteArray) (nm:Nat → Option Nat) (a:Nat) (u:Bool):Array Value :=
 #[.string s,.int .i64 (a:Int),ptr (nm 0),ptr (nm 1),ptr (nm 2),ptr (nm 3),ptr (nm 4),ptr (nm 5),ptr (nm 6),ptr (nm 7),ptr (nm 8),ptr (nm 9),ptr (nm 10),ptr (nm 11),ptr (nm 12),ptr (nm 13),ptr (nm 14),ptr (nm 15),ptr (nm 16),ptr (nm 17),ptr (nm 18),ptr (nm 19),ptr (nm 20),ptr (nm 21),ptr (nm 22),ptr (nm 23),ptr (nm 24),ptr (nm 25),.bool u]
theorem rcells_at (s:ByteArray) (nm:Nat → Option Nat) (a a':Nat) (u:Bool):(rcells s nm a u).setIfInBounds 1 (.int .i64 (a':Int)) = rcells s nm a' u:=rfl
theorem rcells_unk (s:ByteArray) (nm:Nat → Option Nat) (a:Nat) (u u':Bool):(rcells s nm a u).setIfInBounds 28 (.bool u') = rcells s nm a u':=rfl
theorem rcells_nm (s:ByteArray) (nm:Nat → Option Nat) (a:Nat) (u:Bool):∀ i,i < 26 → (rcells s nm a u)[i + 2]? = some (ptr (nm i))
 | 0,_=>rfl | 1,_=>rfl | 2,_=>rfl | 3,_=>rfl | 4,_=>rfl | 5,_=>rfl | 6,_=>rfl | 7,_=>rfl | 8,_=>rfl | 9,_=>rfl | 10,_=>rfl | 11,_=>rfl | 12,_=>rfl
 | 13,_=>rfl | 14,_=>rfl | 15,_=>rfl | 16,_=>rfl | 17,_=>rfl | 18,_=>rfl | 19,_=>rfl | 20,_=>rfl | 21,_=>rfl | 22,_=>rfl | 23,_=>rfl | 24,_=>rfl | 25,_=>rfl
 | n + 26,h=>by omega
structure RS (rb:Nat) (s:ByteArray) (nm:Nat → Option Nat) (a:Nat) (u:Bool) (w:World):Prop where
 blk:w.heap[rb]? = some (.cells (rcells s nm a u) 77 (0,0))
theorem RS.text {rb:Nat} {s:ByteArray} {nm:Nat → Option Nat} {a:Nat} {u:Bool} {w:World} (h:RS rb s nm a u w):w.cell? ⟨rb,0,none⟩ = some (.string s):=by rw [blk_cell h.blk];rfl
theorem RS.pos {rb:Nat} {s:ByteArray} {nm:Nat → Option Nat} {a:Nat} {u:Bool} {w:World} (h:RS rb s nm a u w):w.cell? ⟨rb,1,none⟩ = some (.int .i64 (a:Int)):=by rw [blk_cell h.blk];rfl
theorem RS.unk {rb:Nat} {s:ByteArray} {nm:Nat → Option Nat} {a:Nat} {u:Bool} {w:World} (h:RS rb s nm a u w):w.cell? ⟨rb,28,none⟩ = some (.bool u):=by rw [blk_cell h.blk];rfl
theorem RS.name {rb:Nat} {s:ByteArray} {nm:Nat → Option Nat} {a:Nat} {u:Bool} {w:World} (h:RS rb s nm a u w) {i:Nat} (hi:i < 26):w.cell? ⟨rb,i + 2,none⟩ = some (ptr (nm i)):=by rw [blk_cell h.blk];exact rcells_nm s nm a u i hi
theorem RS.free {rb:Nat} {s:ByteArray} {nm:Nat → Option Nat} {a:Nat} {u:Bool} {w:World} (h:RS rb s nm a u w) (i:Nat):w.frozen? ⟨rb,i,none⟩ = false:=blk_free h.blk i
theorem RS.lt {rb:Nat} {s:ByteArray} {nm:Nat → Option Nat} {a:Nat} {u:Bool} {w:World} (h:RS rb s nm a u w):rb < w.heap.size:=lt_of_block h.blk
theorem RS.setAt {rb:Nat} {s:ByteArray} {nm:Nat → Option Nat} {a:Nat} {u:Bool} {w:World} (h:RS rb s nm a u w) {z:Int} (a':Nat) (hz:z = (a':Int)):RS rb s nm a' u (w.setCell ⟨rb,1,none⟩ (.int .i64 z)):=by
 subst hz
 exact ⟨by rw [blk_set h.blk,rcells_at]⟩
theorem RS.setUnk {rb:Nat} {s:ByteArray} {nm:Nat → Option Nat} {a:Nat} {u:Bool} {w:World} (h:RS rb s nm a u w) (u':Bool):RS rb s nm a u' (w.setCell ⟨rb,28,none⟩ (.bool u')) :=
 ⟨by rw [blk_set h.blk,rcells_unk]⟩
theorem RS.kept {rb:Nat} {s:ByteArray} {nm:Nat → Option Nat} {a:Nat} {u:Bool} {w w':World} (h:RS rb s nm a u w) (hb:Below w.heap.size w w'):RS rb s nm a u w':=⟨by rw [hb.block rb h.lt];exact h.blk⟩
theorem RS.alloc {rb:Nat} {s:ByteArray} {nm:Nat → Option Nat} {a:Nat} {u:Bool} {w:World} (h:RS rb s nm a u w) (o:Obj):RS rb s nm a u (w.alloc o):=h.kept ((Below.refl _ _).alloc (Nat.le_refl _) o)
theorem RS.drewN {rb:Nat} {s:ByteArray} {nm:Nat → Option Nat} {a:Nat} {u:Bool} {w:World} (h:RS rb s nm a u w) (n:Nat):RS rb s nm a u (w.drewN n):=⟨h.blk⟩
theorem RS.drew {rb:Nat} {s:ByteArray} {nm:Nat → Option Nat} {a:Nat} {u:Bool} {w:World} (h:RS rb s nm a u w):RS rb s nm a u w.drew:=⟨h.blk⟩
def rest (s:ByteArray) (a:Nat):List UInt8:=s.data.toList.drop a
theorem rest_lt {s:ByteArray} {a:Nat} (h:a < s.size):rest s a = s[a] :: rest s (a + 1):=by
 unfold rest
 have h':a < s.data.toList.length:=by simpa using h
 rw [List.drop_eq_getElem_cons h']
 rfl
theorem rest_ge {s:ByteArray} {a:Nat} (h:s.size ≤ a):rest s a = []:=by
 unfold rest
 exact List.drop_eq_nil_of_le (by simpa using h)
theorem rest_add (s:ByteArray) (a b:Nat):rest s (a + b) = (rest s a).drop b:=by
 unfold rest
 rw [List.drop_drop]
theorem rest_len (s:ByteArray) (a:Nat):(rest s a).length = s.size - a:=by
 unfold rest
 rw [List.length_drop]
 rfl
theorem bne_f {x y:UInt8} (h:x = y):((x.toNat:Int) != (y.toNat:Int)) = false:=by rw [h];simp
theorem bne_t {x y:UInt8} (h:x ≠ y):((x.toNat:Int) != (y.toNat:Int)) = true:=by
 rw [bne_iff_ne]
 intro e
 exact h (UInt8.toNat_inj.1 (by omega))
set_option maxRecDepth 100000 in
set_option maxHeartbeats 400000 in
theorem pass_any {rb:Nat} {s:ByteArray} {nm:Nat → Option Nat} {a:Nat} {u:Bool} (c:UInt8) (w:World) (h:RS rb s nm a u w) (ha:a ≤ s.size) (hs:s.size ≤ 120) :
  Calls Tryz.prog 130 #[.pointer (some ⟨rb,0,none⟩),.int .u8 (c.toNat:Int)] w fun e w'=>But rb w w' ∧ (((∃ l,rest s a = c :: l) ∧ a + 1 ≤ s.size ∧ e = .returned (.bool true) ∧ RS rb s nm (a + 1) u w') ∨ ((rest s a).head? ≠ some c ∧ e = .returned (.bool false) ∧ RS rb s nm a u w')):=by
 have hT:=h.text
 have hA:=h.pos
 have hF:=h.free 1
 have H:=hide h
 clear h
 by_cases h1:a < s.size
 ·have hd:decide ((s.size:Int) ≤ (a:Int)) = false:=by simp;omega
  have hd':¬ s.size ≤ a:=by omega
  have HR:=hide (rest_lt h1)
  by_cases h2:s[a] = c
  ·have h3:=bne_f h2
   have H2:=hide h2
   clear h2
   go_enter Tryz.func130,Tryz.ntmps130
   go_wp2_with fail
   go_quiet (fail)
   go_wp2_with fail
   go_ret
   exact ⟨((But.refl _ _).setCell _ _).drewN _,Or.inl ⟨⟨_,by rw [unhide HR,unhide H2]⟩,by omega,rfl,((unhide H).setAt (a + 1) (by omega)).drewN _⟩⟩
  ·have h3:=bne_t h2
   have H2:=hide h2
   clear h2
   go_enter Tryz.func130,Tryz.ntmps130
   go_wp2_with fail
   go_quiet (fail)
   go_wp2_with fail
   go_ret
   exact ⟨(But.refl _ _).drewN _,Or.inr ⟨by rw [unhide HR];intro e;cases e;exact unhide H2 rfl,rfl,(unhide H).drewN _⟩⟩
 ·have hd:decide ((s.size:Int) ≤ (a:Int)) = true:=by simp;omega
  have hd':s.size ≤ a:=by omega
  have HR:=hide (rest_ge hd')
  go_enter Tryz.func130,Tryz.ntmps130
  go_wp2_with fail
  go_quiet (fail)
  go_wp2_with fail
  go_ret
  exact ⟨(But.refl _ _).drewN _,Or.inr ⟨by rw [unhide HR];exact (fun e=>by cases e),rfl,(unhide H).drewN _⟩⟩
def nd (s:ByteArray) (a:Nat):Nat:=((rest s a).takeWhile isDig).length
theorem nd_step {s:ByteArray} {a:Nat} (h:a < s.size) (hd:isDig s[a] = true):nd s a = nd s (a + 1) + 1:=by
 unfold nd
 rw [rest_lt h,List.takeWhile_cons,if_pos hd,List.length_cons]
theorem nd_stop {s:ByteArray} {a:Nat} (h:a < s.size) (hd:isDig s[a] = false):nd s a = 0:=by
 unfold nd
 rw [rest_lt h,List.takeWhile_cons,if_neg (by rw [hd];simp)]
 rfl
theorem nd_end {s:ByteArray} {a:Nat} (h:¬ a < s.size):nd s a = 0:=by
 unfold nd
 rw [rest_ge (by omega)]
 rfl
set_option maxRecDepth 100000 in
set_option maxHeartbeats 600000 in
theorem passDigits_any {rb:Nat} {s:ByteArray} {nm:Nat → Option Nat} {a:Nat} {u:Bool} (w:World) (h:RS rb s nm a u w) (ha:a ≤ s.size) (hs:s.size ≤ 120) :
  Calls Tryz.prog 131 #[.pointer (some ⟨rb,0,none⟩)] w fun e w'=>But rb w w' ∧ e = .returned (.tuple #[]) ∧ RS rb s nm (a + nd s a) u w':=by
 go_enter Tryz.func131,Tryz.ntmps131
 go_wp2_with fail
 go_loopg [] (nd s a) (fun k wr=>∃ b,k = nd s b ∧ a + nd s a = b + nd s b ∧ b ≤ s.size ∧ RS rb s nm b u wr ∧ But rb w wr)
 case atStart=>exact ⟨a,rfl,rfl,ha,h,But.refl _ _⟩
 case round=>
  obtain ⟨b,hk,he,hb,hr,hbut⟩:=hrel
  have hT:=hr.text
  have hA:=hr.pos
  have hF:=hr.free 1
  have HK:=hide hk
  have HE:=hide he
  have H:=hide hr
  have HB:=hide hbut
  clear hk he hr hbut h
  by_cases h1:b < s.size
  ·have hd:decide ((b:Int) < (s.size:Int)) = true:=by simp;omega
   by_cases h2:48 ≤ s[b].toNat
   ·have h2d:decide ((48:Int) ≤ (s[b].toNat:Int)) = true:=by simp;omega
    by_cases h3:s[b].toNat ≤ 57
    ·have h3d:decide ((s[b].toNat:Int) ≤ 57) = true:=by simp;omega
     have HN:=hide (nd_step h1 ((isDig_iff _).2 ⟨h2,h3⟩))
     go_wp2_with fail
     go_quiet (fail)
     go_wp2_with fail
     go_roundg (nd s (b + 1))
     case measure=>rw [unhide HK,unhide HN];omega
     case rel=>exact ⟨b + 1,rfl,by have:=unhide HE;have:=unhide HN;omega,by omega,((unhide H).drewN _).setAt (b + 1) (by omega),((unhide HB).drewN _).setCell _ _⟩
    ·have h3d:decide ((s[b].toNat:Int) ≤ 57) = false:=by simp;omega
     have h3n:¬ s[b].toNat ≤ 57:=h3
     have HN:=hide (nd_stop h1 ((isDig_not _).2 (by omega)))
     go_wp2_with fail
     go_quiet (fail)
     go_wp2_with fail
     go_end0
     exact ⟨(unhide HB).drewN _,rfl,by have e:a + nd s a = b:=by { have:=unhide HE;have:=unhide HN;omega };rw [e];exact (unhide H).drewN _⟩
   ·have h2d:decide ((48:Int) ≤ (s[b].toNat:Int)) = false:=by simp;omega
    have h2n:¬ 48 ≤ s[b].toNat:=h2
    have HN:=hide (nd_stop h1 ((isDig_not _).2 (by omega)))
    go_wp2_with fail
    go_quiet (fail)
    go_wp2_with fail
    go_end0
    exact ⟨(unhide HB).drewN _,rfl,by have e:a + nd s a = b:=by { have:=unhide HE;have:=unhide HN;omega };rw [e];exact (unhide H).drewN _⟩
  ·have hd:decide ((b:Int) < (s.size:Int)) = false:=by simp;omega
   have hd':¬ b < s.size:=h1
   have HN:=hide (nd_end h1)
   go_wp2_with fail
   go_quiet (fail)
   go_wp2_with fail
   go_end0
   exact ⟨(unhide HB).drewN _,rfl,by have e:a + nd s a = b:=by { have:=unhide HE;have:=unhide HN;omega };rw [e];exact (unhide H).drewN _⟩
def nw (s:ByteArray) (a:Nat):Nat:=(spanW (rest s a)).1.length
theorem rest_nw (s:ByteArray) (a:Nat):rest s (a + nw s a) = (spanW (rest s a)).2:=by
 rw [rest_add]
 unfold nw
 have h:=spanW_app (rest s a)
 generalize (spanW (rest s a)).1 = x at h
 generalize (spanW (rest s a)).2 = y at h
 rw [← h]
 simp
theorem nw_le {s:ByteArray} {a:Nat} (h:a ≤ s.size):a + nw s a ≤ s.size:=by
 have h1:=congrArg List.length (spanW_app (rest s a))
 rw [List.length_append,rest_len] at h1
 unfold nw
 omega
theorem nw_minus {s:ByteArray} {a:Nat} {l:List UInt8} (h:rest s a = 45 :: l):nw s a = 1 + nd s (a + 1):=by
 have e:rest s (a + 1) = l:=by rw [rest_add,h];rfl
 unfold nw spanW nd
 rw [h,e]
 simp
 omega
theorem nw_plain {s:ByteArray} {a:Nat} (h:(rest s a).head? ≠ some 45):nw s a = nd s a:=by
 unfold nw spanW nd
 rw [if_neg h]
set_option maxRecDepth 100000 in
set_option maxHeartbeats 600000 in
theorem passWhole_any {rb:Nat} {s:ByteArray} {nm:Nat → Option Nat} {a:Nat} {u:Bool} (w:World) (h:RS rb s nm a u w) (ha:a ≤ s.size) (hs:s.size ≤ 120) :
  Calls Tryz.prog 129 #[.pointer (some ⟨rb,0,none⟩)] w fun e w'=>But rb w w' ∧ e = .returned (.tuple #[]) ∧ RS rb s nm (a + nw s a) u w':=by
 go_enter Tryz.func129,Tryz.ntmps129
 go_wp2_with fail
 refine (pass_any 45 _ h ha hs).mono ?_
 rintro e w1 ⟨hb1,⟨⟨l,hl⟩,ha1,rfl,h1⟩ | ⟨hl,rfl,h1⟩⟩
 ·have HL:=hide (nw_minus hl)
  clear hl
  go_wp2_with fail
  refine (passDigits_any _ h1 ha1 hs).mono ?_
  rintro e w2 ⟨hb2,rfl,h2⟩
  go_wp2_with fail
  go_end0
  exact ⟨hb1.trans hb2,rfl,by rw [unhide HL,← Nat.add_assoc];exact h2⟩
 ·have HL:=hide (nw_plain hl)
  clear hl
  go_wp2_with fail
  refine (passDigits_any _ h1 ha hs).mono ?_
  rintro e w2 ⟨hb2,rfl,h2⟩
  go_wp2_with fail
  go_end0
  exact ⟨hb1.trans hb2,rfl,by rw [unhide HL];exact h2⟩
end Go.Proofs.YtikiaijgcjjloabGreatDoor

namespace Go.Proofs
open Go.Shelf
def Tryz.laysM173_ren:Go.Shelf.Ren:=⟨fun | 173=>69 | 246=>54 | 283=>93 | 284=>94 | 285=>95 | 286=>96 | 129=>136 | 317=>135 | 318=>137 | 319=>138 | 320=>139 | 337=>159 | 338=>160 | n=>n,fun | 2=>2 | 3=>3 | 9=>9 | 4=>4 | 171=>148 | 0=>0 | 53=>149 | 37=>152 | 5=>5 | 173=>153 | 212=>190 | 51=>191 | 20=>20 | 213=>192 | 46=>194 | 232=>223 | 233=>224 | n=>n,fun | 17=>0 | 18=>1 | 19=>2 | n=>n⟩
theorem Tryz.laysM173:Go.Proofs.LaysM.n173 Tryz.prog Tryz.laysM173_ren:={
 mixed:=by kernel_rfl
 f129:=Tryz.func136.trans (congrArg some (by kernel_rfl))
 f173:=Tryz.func69.trans (congrArg some (by kernel_rfl))
 f246:=Tryz.func54.trans (congrArg some (by kernel_rfl))
 f283:=Tryz.func93.trans (congrArg some (by kernel_rfl))
 f284:=Tryz.func94.trans (congrArg some (by kernel_rfl))
 f285:=Tryz.func95.trans (congrArg some (by kernel_rfl))
 f286:=Tryz.func96.trans (congrArg some (by kernel_rfl))
 f317:=Tryz.func135.trans (congrArg some (by kernel_rfl))
 f318:=Tryz.func137.trans (congrArg some (by kernel_rfl))
 f319:=Tryz.func138.trans (congrArg some (by kernel_rfl))
 f320:=Tryz.func139.trans (congrArg some (by kernel_rfl))
 f337:=Tryz.func159.trans (congrArg some (by kernel_rfl))
 f338:=Tryz.func160.trans (congrArg some (by kernel_rfl))
 t0:=Tryz.underlying0
 a0:=Tryz.isAgg0
 z0:=Tryz.sizeOf0
 v0:=Tryz.zeroValue0
 t2:=Tryz.underlying2
 a2:=Tryz.isAgg2
 z2:=Tryz.sizeOf2
 v2:=Tryz.zeroValue2
 t3:=Tryz.underlying3
 a3:=Tryz.isAgg3
 z3:=Tryz.sizeOf3
 v3:=Tryz.zeroValue3
 t4:=Tryz.underlying4
 a4:=Tryz.isAgg4
 z4:=Tryz.sizeOf4
 v4:=Tryz.zeroValue4
 t5:=Tryz.underlying5
 a5:=Tryz.isAgg5
 z5:=Tryz.sizeOf5
 v5:=Tryz.zeroValue5
 t9:=Tryz.underlying9
 a9:=Tryz.isAgg9
 z9:=Tryz.sizeOf9
 v9:=Tryz.zeroValue9
 t20:=Tryz.underlying20
 a20:=Tryz.isAgg20
 z20:=Tryz.sizeOf20
 v20:=Tryz.zeroValue20
 t37:=Tryz.underlying152
 a37:=Tryz.isAgg152
 z37:=Tryz.sizeOf152
 v37:=Tryz.zeroValue152
 t46:=Tryz.underlying194
 a46:=Tryz.isAgg194
 z46:=Tryz.sizeOf194
 v46:=Tryz.zeroValue194
 t51:=Tryz.underlying191
 a51:=Tryz.isAgg191
 z51:=Tryz.sizeOf191
 v51:=Tryz.zeroValue191
 t53:=Tryz.underlying149
 a53:=Tryz.isAgg149
 z53:=Tryz.sizeOf149
 v53:=Tryz.zeroValue149
 t171:=Tryz.underlying148
 a171:=Tryz.isAgg148
 z171:=Tryz.sizeOf148
 v171:=Tryz.zeroValue148
 t173:=Tryz.underlying153
 a173:=Tryz.isAgg153
 z173:=Tryz.sizeOf153
 v173:=Tryz.zeroValue153
 t212:=Tryz.underlying190
 a212:=Tryz.isAgg190
 z212:=Tryz.sizeOf190
 v212:=Tryz.zeroValue190
 t213:=Tryz.underlying192
 a213:=Tryz.isAgg192
 z213:=Tryz.sizeOf192
 t232:=Tryz.underlying223
 a232:=Tryz.isAgg223
 z232:=Tryz.sizeOf223
 v232:=Tryz.zeroValue223
 t233:=Tryz.underlying224
 a233:=Tryz.isAgg224
 z233:=Tryz.sizeOf224
 v233:=Tryz.zeroValue224
 g17:=by kernel_rfl
 g18:=by kernel_rfl
 g19:=by kernel_rfl
 i0:=by kernel_rfl
 i2:=by kernel_rfl
 i3:=by kernel_rfl
 i4:=by kernel_rfl
 i5:=by kernel_rfl
 i9:=by kernel_rfl
 i20:=by kernel_rfl
 i37:=by kernel_rfl
 i46:=by kernel_rfl
 i51:=by kernel_rfl
 i53:=by kernel_rfl
 i171:=by kernel_rfl
 i173:=by kernel_rfl
 i212:=by kernel_rfl
 i232:=by kernel_rfl
 i233:=by kernel_rfl
 m17:=by kernel_rfl
 m18:=by kernel_rfl
 m19:=by kernel_rfl }
open Go.RowKit Go.Sort Go.Lib in
theorem Tryz.strconv_FormatInt_10 (n:Int) (h0:-9223372036854775808 ≤ n) (h1:n ≤ 9223372036854775807) (w:World) (htab:Lib.TabIs Tryz.prog w "internal/strconv.uint64pow10" .u64 Lib.pow10Tab) :
  Calls Tryz.prog 69 #[.int .i64 n,.int .i64 10] w fun e w'=>e = .returned (.string ⟨(Lib.itoa n).toArray⟩) ∧ ∃ k os,w' = grow (w.drewN k) os:=Any.strconv_FormatInt_10 Tryz.laysM173 n h0 h1 w htab
def Tryz.laysM171_ren:Go.Shelf.Ren:=⟨fun | 171=>22 | 243=>34 | 246=>54 | 283=>93 | 284=>94 | 285=>95 | 286=>96 | 129=>136 | 317=>135 | 318=>137 | 319=>138 | 320=>139 | 337=>159 | 338=>160 | n=>n,fun | 3=>3 | 9=>9 | 2=>2 | 4=>4 | 171=>148 | 0=>0 | 53=>149 | 37=>152 | 5=>5 | 173=>153 | 212=>190 | 51=>191 | 20=>20 | 213=>192 | 46=>194 | 232=>223 | 233=>224 | n=>n,fun | 17=>0 | 18=>1 | 19=>2 | n=>n⟩
theorem Tryz.laysM171:Go.Proofs.LaysM.n171 Tryz.prog Tryz.laysM171_ren:={
 mixed:=by kernel_rfl
 f129:=Tryz.func136.trans (congrArg some (by kernel_rfl))
 f171:=Tryz.func22.trans (congrArg some (by kernel_rfl))
 f243:=Tryz.func34.trans (congrArg some (by kernel_rfl))
 f246:=Tryz.func54.trans (congrArg some (by kernel_rfl))
 f283:=Tryz.func93.trans (congrArg some (by kernel_rfl))
 f284:=Tryz.func94.trans (congrArg some (by kernel_rfl))
 f285:=Tryz.func95.trans (congrArg some (by kernel_rfl))
 f286:=Tryz.func96.trans (congrArg some (by kernel_rfl))
 f317:=Tryz.func135.trans (congrArg some (by kernel_rfl))
 f318:=Tryz.func137.trans (congrArg some (by kernel_rfl))
 f319:=Tryz.func138.trans (congrArg some (by kernel_rfl))
 f320:=Tryz.func139.trans (congrArg some (by kernel_rfl))
 f337:=Tryz.func159.trans (congrArg some (by kernel_rfl))
 f338:=Tryz.func160.trans (congrArg some (by kernel_rfl))
 t0:=Tryz.underlying0
 a0:=Tryz.isAgg0
 z0:=Tryz.sizeOf0
 v0:=Tryz.zeroValue0
 t2:=Tryz.underlying2
 a2:=Tryz.isAgg2
 z2:=Tryz.sizeOf2
 v2:=Tryz.zeroValue2
 t3:=Tryz.underlying3
 a3:=Tryz.isAgg3
 z3:=Tryz.sizeOf3
 v3:=Tryz.zeroValue3
 t4:=Tryz.underlying4
 a4:=Tryz.isAgg4
 z4:=Tryz.sizeOf4
 v4:=Tryz.zeroValue4
 t5:=Tryz.underlying5
 a5:=Tryz.isAgg5
 z5:=Tryz.sizeOf5
 v5:=Tryz.zeroValue5
 t9:=Tryz.underlying9
 a9:=Tryz.isAgg9
 z9:=Tryz.sizeOf9
 v9:=Tryz.zeroValue9
 t20:=Tryz.underlying20
 a20:=Tryz.isAgg20
 z20:=Tryz.sizeOf20
 v20:=Tryz.zeroValue20
 t37:=Tryz.underlying152
 a37:=Tryz.isAgg152
 z37:=Tryz.sizeOf152
 v37:=Tryz.zeroValue152
 t46:=Tryz.underlying194
 a46:=Tryz.isAgg194
 z46:=Tryz.sizeOf194
 v46:=Tryz.zeroValue194
 t51:=Tryz.underlying191
 a51:=Tryz.isAgg191
 z51:=Tryz.sizeOf191
 v51:=Tryz.zeroValue191
 t53:=Tryz.underlying149
 a53:=Tryz.isAgg149
 z53:=Tryz.sizeOf149
 v53:=Tryz.zeroValue149
 t171:=Tryz.underlying148
 a171:=Tryz.isAgg148
 z171:=Tryz.sizeOf148
 v171:=Tryz.zeroValue148
 t173:=Tryz.underlying153
 a173:=Tryz.isAgg153
 z173:=Tryz.sizeOf153
 v173:=Tryz.zeroValue153
 t212:=Tryz.underlying190
 a212:=Tryz.isAgg190
 z212:=Tryz.sizeOf190
 v212:=Tryz.zeroValue190
 t213:=Tryz.underlying192
 a213:=Tryz.isAgg192
 z213:=Tryz.sizeOf192
 t232:=Tryz.underlying223
 a232:=Tryz.isAgg223
 z232:=Tryz.sizeOf223
 v232:=Tryz.zeroValue223
 t233:=Tryz.underlying224
 a233:=Tryz.isAgg224
 z233:=Tryz.sizeOf224
 v233:=Tryz.zeroValue224
 g17:=by kernel_rfl
 g18:=by kernel_rfl
 g19:=by kernel_rfl
 i0:=by kernel_rfl
 i2:=by kernel_rfl
 i3:=by kernel_rfl
 i4:=by kernel_rfl
 i5:=by kernel_rfl
 i9:=by kernel_rfl
 i20:=by kernel_rfl
 i37:=by kernel_rfl
 i46:=by kernel_rfl
 i51:=by kernel_rfl
 i53:=by kernel_rfl
 i171:=by kernel_rfl
 i173:=by kernel_rfl
 i212:=by kernel_rfl
 i232:=by kernel_rfl
 i233:=by kernel_rfl
 m17:=by kernel_rfl
 m18:=by kernel_rfl
 m19:=by kernel_rfl }
open Go.RowKit Go.Sort Go.Lib in
theorem Tryz.strconv_Itoa (n:Int) (h0:-9223372036854775808 ≤ n) (h1:n ≤ 9223372036854775807) (w:World) (htab:Lib.TabIs Tryz.prog w "internal/strconv.uint64pow10" .u64 Lib.pow10Tab) :
  Calls Tryz.prog 22 #[.int .i64 n] w fun e w'=>e = .returned (.string ⟨(Lib.itoa n).toArray⟩) ∧ ∃ k os,w' = grow (w.drewN k) os:=Any.strconv_Itoa Tryz.laysM171 n h0 h1 w htab
end Go.Proofs

namespace Go.Proofs.YtikiaijgcjjloabGreatDoor
open Go Go.RowKit M Go.Lib
def Tab (w:World):Prop:=TabIs Tryz.prog w "internal/strconv.uint64pow10" .u64 pow10Tab
theorem tab_below {w w':World} (h:Tab w) (hb:Below w.heap.size w w'):Tab w':=by
 unfold Tab TabIs World.var? at h ⊢
 cases hg:Tryz.prog.globalNamed "internal/strconv.uint64pow10" with
 | none=>rw [hg] at h;simp at h
 | some g=>
  rw [hg] at h
  simp only [Option.bind_some] at h ⊢
  have hlt:g < w.heap.size:=by
   rcases Nat.lt_or_ge g w.heap.size with h' | h'
   ·exact h'
   ·rw [Array.getElem?_eq_none h'] at h
    simp at h
  rw [hb.block g hlt]
  exact h
theorem tab_alloc {w:World} (h:Tab w) (o:Obj):Tab (w.alloc o):=tab_below h ((Below.refl _ _).alloc (Nat.le_refl _) o)
theorem below_gr (w:World) (k:Nat) (os:Array Obj):Below w.heap.size w (Sort.grow (w.drewN k) os) :=
 ⟨rfl,rfl,rfl,by show w.heap.size ≤ (w.heap ++ os).size;rw [Array.size_append];omega,fun i hi=>by
  show ((w.drewN k).heap ++ os)[i]? = _
  rw [Array.getElem?_append_left (by show i < w.heap.size;omega)]
  rfl⟩
theorem format_any (n:Int) (w:World) (h0:-4000000000000000000 ≤ n) (h1:n ≤ 4000000000000000000) (ht:Tab w) :
  Calls Tryz.prog 69 #[.int .i64 n,.int .i64 10] w fun e w'=>e = .returned (.string ⟨(itoa n).toArray⟩) ∧ Below w.heap.size w w' :=
 (Tryz.strconv_FormatInt_10 n (by omega) (by omega) w ht).mono fun _ _ ⟨he,k,os,hw⟩=>⟨he,hw ▸ below_gr w k os⟩
theorem itoa_len (t:Int) (h1:-1000000000 ≤ t) (h2:t ≤ 1000000000):(itoa t).length ≤ 11:=by
 by_cases h:t < 0
 ·rw [M.itoa_neg t h];have:=dec_len_ten t.natAbs (by omega);simp;omega
 ·rw [M.itoa_pos t h];have:=dec_len_ten t.natAbs (by omega);omega
theorem text_str (t b:Int) (h:¬ b ≤ 1):((⟨(itoa t).toArray⟩:ByteArray) ++ (⟨#[47]⟩:ByteArray)) ++ (⟨(itoa b).toArray⟩:ByteArray) = ⟨(numText t b).toArray⟩:=by
 have e:itoa b = decDigits b.toNat:=by rw [M.itoa_pos b (by omega)];congr 1;omega
 unfold numText
 rw [if_neg h,e]
 apply ByteArray.ext
 simp
theorem text_str1 (t b:Int) (h:b ≤ 1):(⟨(itoa t).toArray⟩:ByteArray) = ⟨(numText t b).toArray⟩:=by
 unfold numText
 rw [if_pos h]
 simp
set_option maxRecDepth 100000 in
set_option maxHeartbeats 400000 in
theorem Text_any (t b:Int) (w:World) (h1:-1000000000 ≤ t) (h2:t ≤ 1000000000) (h3:1 ≤ b) (h4:b ≤ 1000000000) (ht:Tab w) :
  Calls Tryz.prog 42 #[.agg #[.int .i64 t,.int .i64 b]] w fun e w'=>e = .returned (.string ⟨(numText t b).toArray⟩) ∧ Below w.heap.size w w':=by
 have HT:=hide ht
 clear ht
 have hl1:=itoa_len t h1 h2
 have hl2:=itoa_len b (by omega) h4
 by_cases hb:b ≤ 1
 ·have HE:=hide (text_str1 t b hb)
  go_enter Tryz.func42,Tryz.ntmps42
  go_wp2_with fail
  refine (format_any t _ (by omega) (by omega) (tab_alloc (unhide HT) _)).mono ?_
  rintro e w1 ⟨rfl,hb1⟩
  obtain ⟨hc,hf⟩:=bcell hb1
  go_wp2_with fail
  go_ret
  exact ⟨ret_str (unhide HE),((Below.refl _ _).alloc (Nat.le_refl _) _).trans (hb1.mono (by simp))⟩
 ·have HE:=hide (text_str t b hb)
  go_enter Tryz.func42,Tryz.ntmps42
  go_wp2_with fail
  refine (format_any t _ (by omega) (by omega) (tab_alloc (unhide HT) _)).mono ?_
  rintro e w1 ⟨rfl,hb1⟩
  obtain ⟨hc,hf⟩:=bcell hb1
  go_wp2_with fail
  refine (format_any b _ (by omega) (by omega) (tab_below (tab_alloc (unhide HT) _) hb1)).mono ?_
  rintro e w2 ⟨rfl,hb2⟩
  go_wp2_with fail
  go_ret
  exact ⟨ret_str (unhide HE),(((Below.refl _ _).alloc (Nat.le_refl _) _).trans (hb1.mono (by simp))).trans (hb2.mono (by have:=hb1.size;simp at this;omega))⟩
theorem decimal_int (n:Int) (w:World) (h0:0 ≤ n) (h1:n ≤ 4000000000000000000) :
  Calls Tryz.prog 157 #[.int .i64 n] w fun e w'=>e = .returned (.string ⟨(decDigits n.natAbs).toArray⟩) ∧ Below w.heap.size w w':=by
 obtain ⟨m,rfl⟩:=Int.eq_ofNat_of_zero_le h0
 exact decimal_any m m w (Nat.le_refl _) (by omega)
theorem rtext1 (t b:Int) (h:t < 0) (hb:b ≤ 1):((⟨#[45]⟩:ByteArray) ++ (⟨(decDigits t.natAbs).toArray⟩:ByteArray)) = ⟨(numText t b).toArray⟩:=by
 unfold numText
 rw [if_pos hb,M.itoa_neg t h]
 apply ByteArray.ext
 simp
theorem rtext2 (t b:Int) (h:t < 0) (hb:¬ b ≤ 1):((⟨#[45]⟩:ByteArray) ++ (⟨(decDigits t.natAbs).toArray⟩:ByteArray)) ++ (⟨#[47]⟩:ByteArray) ++ (⟨(decDigits b.toNat).toArray⟩:ByteArray) = ⟨(numText t b).toArray⟩:=by
 unfold numText
 rw [if_neg hb,M.itoa_neg t h]
 apply ByteArray.ext
 simp
theorem rtext3 (t b:Int) (h:¬ t < 0) (hb:b ≤ 1):((⟨#[]⟩:ByteArray) ++ (⟨(decDigits t.natAbs).toArray⟩:ByteArray)) = ⟨(numText t b).toArray⟩:=by
 unfold numText
 rw [if_pos hb,M.itoa_pos t h]
 apply ByteArray.ext
 simp
theorem rtext4 (t b:Int) (h:¬ t < 0) (hb:¬ b ≤ 1):((⟨#[]⟩:ByteArray) ++ (⟨(decDigits t.natAbs).toArray⟩:ByteArray)) ++ (⟨#[47]⟩:ByteArray) ++ (⟨(decDigits b.toNat).toArray⟩:ByteArray) = ⟨(numText t b).toArray⟩:=by
 unfold numText
 rw [if_neg hb,M.itoa_pos t h]
 apply ByteArray.ext
 simp
set_option maxRecDepth 100000 in
set_option maxHeartbeats 400000 in
theorem rText_neg (t b:Int) (w:World) (h:t < 0) (h1:-1000000000 ≤ t) (h3:1 ≤ b) (h4:b ≤ 1000000000) :
  Calls Tryz.prog 128 #[.agg #[.int .i64 t,.int .i64 b]] w fun e w'=>e = .returned (.string ⟨(numText t b).toArray⟩) ∧ Below w.heap.size w w':=by
 have hl1:=dec_len_ten t.natAbs (by omega)
 have hl2:=dec_len_ten b.toNat (by omega)
 go_enter Tryz.func128,Tryz.ntmps128
 go_wp2_with fail
 rw [show -t = (t.natAbs:Int) from by omega]
 refine (decimal_any t.natAbs t.natAbs _ (by omega) (by omega)).mono ?_
 rintro e w1 ⟨rfl,hb1⟩
 obtain ⟨hc,hf⟩:=bcell hb1
 by_cases hb:b ≤ 1
 ·have HE:=hide (rtext1 t b h hb)
  go_wp2_with fail
  go_ret
  exact ⟨ret_str (unhide HE),((Below.refl _ _).alloc (Nat.le_refl _) _).trans (hb1.mono (by simp))⟩
 ·have HE:=hide (rtext2 t b h hb)
  go_wp2_with fail
  refine (decimal_int b _ (by omega) (by omega)).mono ?_
  rintro e w2 ⟨rfl,hb2⟩
  rw [show b.natAbs = b.toNat from by omega]
  go_wp2_with fail
  go_ret
  exact ⟨ret_str (unhide HE),(((Below.refl _ _).alloc (Nat.le_refl _) _).trans (hb1.mono (by simp))).trans (hb2.mono (by have:=hb1.size;simp at this;omega))⟩
set_option maxRecDepth 100000 in
set_option maxHeartbeats 400000 in
theorem rText_pos (t b:Int) (w:World) (h:¬ t < 0) (h1:t ≤ 1000000000) (h3:1 ≤ b) (h4:b ≤ 1000000000) :
  Calls Tryz.prog 128 #[.agg #[.int .i64 t,.int .i64 b]] w fun e w'=>e = .returned (.string ⟨(numText t b).toArray⟩) ∧ Below w.heap.size w w':=by
 have hl1:=dec_len_ten t.natAbs (by omega)
 have hl2:=dec_len_ten b.toNat (by omega)
 go_enter Tryz.func128,Tryz.ntmps128
 go_wp2_with fail
 refine (decimal_int t _ (by omega) (by omega)).mono ?_
 rintro e w1 ⟨rfl,hb1⟩
 obtain ⟨hc,hf⟩:=bcell hb1
 by_cases hb:b ≤ 1
 ·have HE:=hide (rtext3 t b (by omega) hb)
  go_wp2_with fail
  go_ret
  exact ⟨ret_str (unhide HE),((Below.refl _ _).alloc (Nat.le_refl _) _).trans (hb1.mono (by simp))⟩
 ·have HE:=hide (rtext4 t b (by omega) hb)
  go_wp2_with fail
  refine (decimal_int b _ (by omega) (by omega)).mono ?_
  rintro e w2 ⟨rfl,hb2⟩
  rw [show b.natAbs = b.toNat from by omega]
  go_wp2_with fail
  go_ret
  exact ⟨ret_str (unhide HE),(((Below.refl _ _).alloc (Nat.le_refl _) _).trans (hb1.mono (by simp))).trans (hb2.mono (by have:=hb1.size;simp at this;omega))⟩
theorem rText_any (t b:Int) (w:World) (h1:-1000000000 ≤ t) (h2:t ≤ 1000000000) (h3:1 ≤ b) (h4:b ≤ 1000000000) :
  Calls Tryz.prog 128 #[.agg #[.int .i64 t,.int .i64 b]] w fun e w'=>e = .returned (.string ⟨(numText t b).toArray⟩) ∧ Below w.heap.size w w':=by
 by_cases h:t < 0
 ·exact rText_neg t b w h h1 h3 h4
 ·exact rText_pos t b w h h2 h3 h4
def RInv (s:ByteArray) (st a v:Nat):Prop:=(a = st ∧ v = 0) ∨ (st < a ∧ (s.data.toList.drop st).take (a - st) = decDigits v)
theorem drop_at (s:ByteArray) (a:Nat) (h:a < s.size):s.data.toList.drop a = s[a] :: s.data.toList.drop (a + 1):=by
 rw [List.drop_eq_getElem_cons (by simpa using h)];rfl
theorem drop_end (s:ByteArray) (a:Nat) (h:s.size ≤ a):s.data.toList.drop a = []:=by
 rw [List.drop_eq_nil_iff];simpa using h
theorem drop_take_succ (s:ByteArray) (st a:Nat) (h:st ≤ a) (ha:a < s.size):(s.data.toList.drop st).take (a + 1 - st) = (s.data.toList.drop st).take (a - st) ++ [s[a]]:=by
 rw [show a + 1 - st = (a - st) + 1 by omega]
 rw [List.take_succ_eq_append_getElem (by simp;omega)]
 congr 2
 rw [List.getElem_drop]
 simp only [show st + (a - st) = a by omega]
 rfl
theorem rinv_push (s:ByteArray) (st a v:Nat) (h:st ≤ a) (ha:a < s.size) (hI:RInv s st a v) (hd:isDig s[a] = true) (hz:a = st ∨ 1 ≤ v):RInv s st (a + 1) (10 * v + (s[a].toNat - 48)):=by
 refine Or.inr ⟨by omega,?_⟩
 have h48:=(isDig_iff s[a]).1 hd
 rw [drop_take_succ s st a h ha]
 rcases hI with ⟨rfl,rfl⟩ | ⟨hlt,he⟩
 ·rw [Nat.sub_self,List.take_zero,List.nil_append,dec_small _ (by omega)]
  rw [show 48 + (10 * 0 + (s[a].toNat - 48)) = 48 + (s[a].toNat - 48) by omega,ofNat_of_dig _ hd]
 ·rw [he,dec_push v _ (by omega) (by omega),ofNat_of_dig _ hd]
theorem rinv_none_zero (s:ByteArray) (st a:Nat) (h:st < a) (ha:a < s.size) (hI:RInv s st a 0) (hd:isDig s[a] = true):∀ v r,¬ DigAt (s.data.toList.drop st) v r:=by
 intro v r
 rcases hI with ⟨rfl,_⟩ | ⟨_,he⟩
 ·omega
 ·refine dig_none_zero _ (a - st) he s[a] ?_ hd v r
  rw [List.drop_drop,show st + (a - st) = a by omega,drop_at s a ha];rfl
theorem rinv_none_big (s:ByteArray) (st a V:Nat) (h:st < a) (hI:RInv s st a V) (hV:1000000000 < V):∀ v r,¬ DigAt (s.data.toList.drop st) v r:=by
 intro v r
 rcases hI with ⟨rfl,_⟩ | ⟨_,he⟩
 ·omega
 ·exact dig_none_big _ (a - st) V he hV v r
theorem rinv_done (s:ByteArray) (st a v:Nat) (h:st < a) (hI:RInv s st a v) (hv:v ≤ 1000000000) (hn:∀ ha:a < s.size,isDig s[a] = false):DigAt (s.data.toList.drop st) v (s.data.toList.drop a):=by
 rcases hI with ⟨rfl,_⟩ | ⟨_,he⟩
 ·omega
 ·refine ⟨hv,?_,?_⟩
  ·rw [← he]
   conv=>lhs;rw [← List.take_append_drop (a - st) (s.data.toList.drop st)]
   rw [List.drop_drop,show st + (a - st) = a by omega]
  ·intro c hc
   by_cases ha:a < s.size
   ·rw [drop_at s a ha] at hc
    simp only [List.head?_cons,Option.some.injEq] at hc
    rw [← hc];exact hn ha
   ·rw [drop_end s a (by omega)] at hc;cases hc
theorem none_first (s:ByteArray) (st:Nat) (hn:∀ ha:st < s.size,isDig s[st] = false):∀ v r,¬ DigAt (s.data.toList.drop st) v r:=by
 refine dig_none_first _ ?_
 intro c hc
 by_cases ha:st < s.size
 ·rw [drop_at s st ha] at hc
  simp only [List.head?_cons,Option.some.injEq] at hc
  rw [← hc];exact hn ha
 ·rw [drop_end s st (by omega)] at hc;cases hc
set_option maxRecDepth 100000 in
set_option maxHeartbeats 400000 in
theorem readDigits_any (s : ByteArray) (st : Nat) (w : World) (hs : s.size ≤ maxLen) (hst : st ≤ 9223372036854775807) :
    Calls Tryz.prog 64 #[.string s, .int .i64 st] w fun e w' => ((∃ v a : Nat, DigAt (s.data.toList.drop st) v (s.data.toList.drop a) ∧ st < a ∧ a ≤ s.size ∧ e = .returned (.tuple #[.int .i64 v, .int .i64 a, .bool true])) ∨ ((∀ v r, ¬ DigAt (s.data.toList.drop st) v r) ∧ e = .returned (.tuple #[.int .i64 0, .int .i64 0, .bool false]))) ∧ w' = w := by
  unfold maxLen at hs
  by_cases hlt : st < s.size
  case neg =>
    have HE := hide (none_first s st (fun ha => absurd ha hlt))
    have hlt' : ¬ (st : Int) < s.size := by omega
    go_enter Tryz.func64, Tryz.ntmps64
    go_wp2_with fail
    go_ret3
    exact ⟨Or.inr ⟨unhide HE, rfl⟩, rfl⟩
  have hlt' : (st : Int) < s.size := by omega
  have hge1 : decide ((s.size : Int) ≤ (st : Int)) = false := by simp; omega
  have hge2 : decide (s.size ≤ st) = false := by simp; omega
  cases hd0 : isDig s[st] with
  | false =>
    have HE := hide (none_first s st (fun ha => hd0))
    have HD := hide hd0
    clear hd0
    go_enter Tryz.func64, Tryz.ntmps64
    go_wp2_with fail
    refine (isDigit_any s[st] _).mono ?_
    rintro e w' ⟨rfl, rfl⟩
    rw [unhide HD]
    go_wp2_with fail
    go_ret3
    exact ⟨Or.inr ⟨unhide HE, rfl⟩, rfl⟩
  | true =>
    have HD := hide hd0
    clear hd0
    go_enter Tryz.func64, Tryz.ntmps64
    go_wp2_with fail
    refine (isDigit_any s[st] _).mono ?_
    rintro e w' ⟨rfl, rfl⟩
    rw [unhide HD]
    go_wp2_with fail
    go_loopw [7, 8] (fun x y wx => ∃ v a : Nat, st ≤ a ∧ a ≤ s.size ∧ v ≤ 1000000000 ∧ x = .int .i64 v ∧ y = .int .i64 a ∧ Hid (RInv s st a v) ∧ w = wx) (fun _ y _ => s.size - (RowKit.intOf y).toNat)
    case atStart => exact ⟨0, st, by omega, by omega, by omega, rfl, rfl, Or.inl ⟨rfl, rfl⟩, rfl⟩
    case round =>
      obtain ⟨v, a, h1, h2, h3, rfl, rfl, HI, rfl⟩ := hrel
      by_cases ha : a < s.size
      · cases hd : isDig s[a] with
        | false =>
          have hne : st < a := by
            rcases Nat.lt_or_ge st a with h | h
            · exact h
            · obtain rfl : st = a := by omega
              rw [unhide HD] at hd; cases hd
          have HE := hide (rinv_done s st a v hne (unhide HI) h3 (fun _ => hd))
          have HDa := hide hd
          clear hd
          go_wp2_with fail
          refine (isDigit_any s[a] _).mono ?_
          rintro e w' ⟨rfl, rfl⟩
          rw [unhide HDa]
          go_wp2_with fail
          go_ret3
          exact ⟨Or.inl ⟨v, a, unhide HE, hne, h2, rfl⟩, rfl⟩
        | true =>
          have hr := (isDig_iff s[a]).1 hd
          have HDa := hide hd
          clear hd
          have hr1 : 48 ≤ (s[a].toNat : Int) := by omega
          have hr2 : (s[a].toNat : Int) ≤ 57 := by omega
          go_wp2_with fail
          refine (isDigit_any s[a] _).mono ?_
          rintro e w' ⟨rfl, rfl⟩
          rw [unhide HDa]
          by_cases hz : st < a ∧ v = 0
          · obtain ⟨hz1, rfl⟩ := hz
            have HE := hide (rinv_none_zero s st a hz1 ha (unhide HI) (unhide HDa))
            have hz1' : (st : Int) < a := by omega
            go_wp2_with fail
            go_ret3
            exact ⟨Or.inr ⟨unhide HE, rfl⟩, rfl⟩
          · have HP := hide (rinv_push s st a v h1 ha (unhide HI) (unhide HDa) (by omega))
            have hg : ((st : Int) < a ∧ ((v : Int) == 0) = false) ∨ ¬ (st : Int) < a := by
              by_cases hh : st < a
              · exact Or.inl ⟨by omega, by rw [beq_eq_false_iff_ne]; omega⟩
              · exact Or.inr (by omega)
            by_cases hbig : 1000000000 < (v : Int) * 10 + ((s[a].toNat : Int) - 48)
            · have HE := hide (rinv_none_big s st (a + 1) _ (by omega) (unhide HP) (by omega))
              clear hz
              rcases hg with ⟨hg1, hg2⟩ | hg1
              all_goals
                go_wp2_with fail
                go_ret3
                exact ⟨Or.inr ⟨unhide HE, rfl⟩, rfl⟩
            · clear hz
              rcases hg with ⟨hg1, hg2⟩ | hg1
              all_goals
                go_wp2_with fail
                go_roundw
                case rel => exact ⟨10 * v + (s[a].toNat - 48), a + 1, by omega, by omega, by omega, by congr 1; omega, by go_num, unhide HP, by trivial⟩
                case measure => simp [RowKit.intOf]; omega
      · have HE := hide (rinv_done s st a v (by omega) (unhide HI) h3 (fun h => absurd h ha))
        have ha' : ¬ (a : Int) < s.size := by omega
        go_wp2_with fail
        go_ret3
        exact ⟨Or.inl ⟨v, a, unhide HE, by omega, h2, rfl⟩, rfl⟩
end Go.Proofs.YtikiaijgcjjloabGreatDoor

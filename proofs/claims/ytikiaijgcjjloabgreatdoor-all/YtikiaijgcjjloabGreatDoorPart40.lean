import Derived.Test.YtikiaijgcjjloabGreatDoorPart39
import Derived.Deep.CutRange
import Derived.Deep.DeepCutAuto

namespace Go.Proofs.YtikiaijgcjjloabGreatDoor
open Go Go.RowKit M T Go.Lib
set_option maxRecDepth 100000 in
set_option maxHeartbeats 3200000 in
theorem work_items {Kd:UInt8} {P Q K:Int} {pa:Option Addr} {pn pc:Nat} {F G:ByteArray} {E:Nat → Except Int Rat} {l:List Rat} {ao:Option Addr} {cap:Nat} {w:World} (hk:Kd ∉ [114,60,116,100,35]) (hk9:Kd ≠ 109) (h:RL w ao cap l)
  (hitem:∀ W i,i < l.length → RL W ao cap l → Calls Tryz.prog 127 #[.agg #[.int .u8 (Kd.toNat:Int),.int .i64 P,.int .i64 Q,.int .i64 K,.slice pa pn pc,.string F,.string G],.slice ao l.length cap,.int .i64 (i:Int)] W fun e w'=>RQGot (E i) e ∧ Below W.heap.size W w') :
  Calls Tryz.prog 85 #[.agg #[.int .u8 (Kd.toNat:Int),.int .i64 P,.int .i64 Q,.int .i64 K,.slice pa pn pc,.string F,.string G],.slice ao l.length cap] w fun e w'=>RWGot w (gather E l.length 0) e w':=by
 obtain ⟨i0,hi0,hz0,hz1,hz2⟩:=info_parts Tryz.infoNum
 have hlen:=h.len
 have HL:=hide h
 have HIt:=hide hitem
 have HB0:=hide (box_below w (.cells #[.int .u8 (Kd.toNat:Int),.int .i64 P,.int .i64 Q,.int .i64 K,.slice pa pn pc,.string F,.string G] 141))
 have HBx:=hide (heap_alloc_new w (.cells #[.int .u8 (Kd.toNat:Int),.int .i64 P,.int .i64 Q,.int .i64 K,.slice pa pn pc,.string F,.string G] 141))
 have hdk:decide (Kd ∈ (⟨#[114,60,116,100,35]⟩:ByteArray).data.toList) = false:=decide_eq_false hk
 have HAm:=hide (fun W=>(among_any Kd ⟨#[114,60,116,100,35]⟩ W (by decide)).mono (fun e w' h=>by rw [hdk] at h;exact h))
 have g9:((Kd.toNat:Int) == 109) = false:=u8_ne' (d:=109) hk9
 clear h hitem hk hdk hk9
 go_enter Tryz.func85,Tryz.ntmps85
 go_wp2_with fail
 refine (unhide HAm _).mono ?_
 rintro e w0 ⟨rfl,rfl⟩
 generalize w.alloc (.cells #[.int .u8 (Kd.toNat:Int),.int .i64 P,.int .i64 Q,.int .i64 K,.slice pa pn pc,.string F,.string G] 141) = w0 at HB0 HBx ⊢
 have c0:∀ jj,w0.cell? ⟨w.heap.size,jj,none⟩ = (#[.int .u8 (Kd.toNat:Int),.int .i64 P,.int .i64 Q,.int .i64 K,.slice pa pn pc,.string F,.string G]:Array Value)[jj]?:=fun jj=>blk_cell (unhide HBx) jj
 go_upto_block 2 with fail
 go_cut [11] from 45 to 62 (fun v11 wx=>w0 = wx)
 case first=>
  go_wp2_with fail
  go_loopg [11] 0 (fun kk v11 wr=>kk = 0 ∧ v11 = .int .i64 0 ∧ w0 = wr)
  case atStart=>exact ⟨rfl,rfl,rfl⟩
  case round=>
   obtain ⟨hk,rfl,rfl⟩:=hrel
   clear hk
   by_cases hl1:1 < l.length
   ·have hl1':(1:Int) < (l.length:Int):=by omega
    go_wp2_with fail
    go_meet
    case rel=>rfl
   ·have hl1':¬ (1:Int) < (l.length:Int):=by omega
    go_wp2_with fail
    go_meet
    case rel=>rfl
 case rest=>
  obtain rfl:=hcut
  go_wp2_with fail
  go_loopg [6,12] l.length (fun kk v6 v12 wr=>∃ (i:Nat) (ys:List Rat) (ao':Option Addr) (cp:Nat),kk = l.length - i ∧ i ≤ l.length ∧ v12 = .int .i64 (i:Int) ∧ v6 = .slice ao' ys.length cp ∧ (gather E i 0 = .ok ys ∧ AllS ys ∧ ys.length ≤ i) ∧ RM w0 (.slice ao' ys.length cp) ys wr)
  case atStart=>exact ⟨0,[],none,0,rfl,Nat.zero_le _,rfl,rfl,⟨rfl,fun _ h=>by (cases h),by simp⟩,RM.start w0⟩
  case round=>
   obtain ⟨i,ys,ao',cp,hk,hi,rfl,rfl,he,hm⟩:=hrel
   have HK:=hide hk
   have HE:=hide he
   have HM:=hide hm
   have hyl:=he.2.2
   clear hk he
   by_cases hlt:i < l.length
   ·have hlt':(i:Int) < (l.length:Int):=by omega
    have cw:∀ jj,wr.cell? ⟨w.heap.size,jj,none⟩ = (#[.int .u8 (Kd.toNat:Int),.int .i64 P,.int .i64 Q,.int .i64 K,.slice pa pn pc,.string F,.string G]:Array Value)[jj]?:=fun jj=>blk_cell ((hm.bel.block _ (lt_of_block (unhide HBx))).trans (unhide HBx)) jj
    have HRlw:=hide (((unhide HL).below (unhide HB0)).below hm.bel)
    clear hm
    go_wp2_with fail
    refine (unhide HIt _ i hlt (unhide HRlw)).mono ?_
    rintro e w1 ⟨⟨p,q,c,rfl,hr⟩,hb⟩
    rcases hr with ⟨z,hz,hzs,rfl,rfl,rfl⟩ | ⟨hz,hne⟩
    ·have HNx:=hide (show gather E (i + 1) 0 = .ok (ys ++ [z]) by
      rw [gather_snoc,(unhide HE).1,Nat.zero_add,hz])
     have HZ:=hide hzs
     have HM2:=hide ((((unhide HM).below hb).below ((Below.refl _ _).alloc (Nat.le_refl _) (.cells (qcells z).toArray 139))).below ((Below.refl _ _).alloc (Nat.le_refl _) (.cells (qcells z).toArray 139)))
     have hsz:=((unhide HM).below hb).bel.size
     clear hz hzs hb
     go_wp2_with (at_builtin;refine wpList_append_own _ rfl _ _ 126 rfl w0.heap.size 139 i0 _ 2 16 Tryz.underlying126 hi0 hz0 hz1 hz2 rfl (by decide) _ _ _ rfl (unhide HM2).own ⟨w1.heap.size + 1,0,none⟩ 1 1 (qcells z) rfl rfl (nnews_at (by simp) _ _) (one_qcells _) (by unfold maxLen;omega) (by omega) (by simp;omega) ?_)
     intro v' w4 hown4 hgr4 _
     have hm4:=(unhide HM2).more hown4 hgr4
     obtain ⟨ao4,cp4,rfl⟩:=hm4.shape
     have HM4:=hide hm4
     clear hown4 hgr4 hm4
     go_wp2_with fail
     go_roundg (l.length - (i + 1))
     case measure=>rw [unhide HK];omega
     case rel=>exact ⟨i + 1,ys ++ [z],ao4,cp4,rfl,by omega,rfl,rfl,⟨unhide HNx,allS_one (unhide HE).2.1 (unhide HZ),by simp;omega⟩,unhide HM4⟩
    ·have HNx:=hide (show gather E l.length 0 = .error c by
      rw [show l.length = (i + 1) + (l.length - (i + 1)) by omega]
      refine gather_err E c (i + 1) _ 0 ?_
      rw [gather_snoc,(unhide HE).1,Nat.zero_add,hz])
     have hne':(c != 0) = true:=by rw [bne_iff_ne];exact hne
     have HNe:=hide hne
     have HB2:=hide ((unhide HB0).trans ((((unhide HM).below hb).bel.alloc ((unhide HM).below hb).bel.size (.cells #[.int .i64 p,.int .i64 q] 139)).mono (unhide HB0).size))
     clear hz hne hb
     go_wp2_with fail
     exact bodyPost_ret (v:=.tuple #[.slice none 0 0,.int .i64 c]) (by simp [results,Tryz.results85,go_sem]) rfl ⟨none,0,0,c,rfl,unhide HB2,Or.inr ⟨unhide HNx,unhide HNe⟩⟩
   ·have hlt':¬ (i:Int) < (l.length:Int):=by omega
    have HF:=hide (show gather E l.length 0 = .ok ys by rw [← show i = l.length by omega];exact (unhide HE).1)
    have HRl:=hide (hm.rl (unhide HE).2.1 (by omega))
    have HB2:=hide ((unhide HB0).trans (hm.bel.mono (unhide HB0).size))
    clear hm
    go_wp2_with fail
    exact bodyPost_ret (v:=.tuple #[.slice ao' ys.length cp,.int .i64 0]) (by simp [results,Tryz.results85,go_sem]) rfl ⟨ao',ys.length,cp,0,rfl,unhide HB2,Or.inl ⟨ys,unhide HF,rfl,rfl,unhide HRl⟩⟩
def mE (z:Bool) (r:Except Int (List Rat)):Except Int (List Rat):=if z = true then .error 2 else r
theorem zeroAhead_of:∀ {l:List Rat} {i:Nat} (h:i < l.length),i + 1 < l.length → l[i] = 0 → zeroAhead l = true
 | [],_,h,_,_=>by simp at h
 | [_],i,_,h,_=>by simp at h
 | x :: y :: l,0,_,_,h=>by
  have:x = 0:=h
  simp [zeroAhead,this]
 | x :: y :: l,i + 1,h,h1,h2=>by
  have:=zeroAhead_of (l:=y :: l) (i:=i) (by simpa using h) (by simpa using h1) h2
  simp [zeroAhead,this]
theorem zeroAhead_no:∀ {l:List Rat},(∀ j (h:j < l.length),j + 1 < l.length → l[j] ≠ 0) → zeroAhead l = false
 | [],_=>rfl
 | [_],_=>rfl
 | x :: y :: l,h=>by
  have h0:x ≠ 0:=h 0 (by simp) (by simp)
  have:=zeroAhead_no (l:=y :: l) (fun j hj h1=>h (j + 1) (by simpa using hj) (by simpa using h1))
  simp [zeroAhead,this,h0]
set_option maxRecDepth 100000 in
set_option maxHeartbeats 3200000 in
theorem work_m {P Q K : Int} {pa : Option Addr} {pn pc : Nat} {F G : ByteArray} {E : Nat → Except Int Rat} {l : List Rat} {ao : Option Addr} {cap : Nat} {w : World} (h : RL w ao cap l)
    (hitem : ∀ W i, i < l.length → RL W ao cap l → Calls Tryz.prog 127 #[.agg #[.int .u8 109, .int .i64 P, .int .i64 Q, .int .i64 K, .slice pa pn pc, .string F, .string G], .slice ao l.length cap, .int .i64 (i : Int)] W fun e w' => RQGot (E i) e ∧ Below W.heap.size W w') :
    Calls Tryz.prog 85 #[.agg #[.int .u8 109, .int .i64 P, .int .i64 Q, .int .i64 K, .slice pa pn pc, .string F, .string G], .slice ao l.length cap] w fun e w' => RWGot w (mE (zeroAhead l) (gather E l.length 0)) e w' := by
  obtain ⟨i0, hi0, hz0, hz1, hz2⟩ := info_parts Tryz.infoNum
  have hlen := h.len
  have HL := hide h
  have HIt := hide hitem
  have HB0 := hide (box_below w (.cells #[.int .u8 109, .int .i64 P, .int .i64 Q, .int .i64 K, .slice pa pn pc, .string F, .string G] 141))
  have HBx := hide (heap_alloc_new w (.cells #[.int .u8 109, .int .i64 P, .int .i64 Q, .int .i64 K, .slice pa pn pc, .string F, .string G] 141))
  have hdk : decide ((109 : UInt8) ∈ (⟨#[114, 60, 116, 100, 35]⟩ : ByteArray).data.toList) = false := by decide
  have HAm := hide (fun W => (among_any 109 ⟨#[114, 60, 116, 100, 35]⟩ W (by decide)).mono (fun e w' h => by rw [hdk] at h; exact h))
  clear h hitem hdk
  go_enter Tryz.func85, Tryz.ntmps85
  go_wp2_with fail
  refine (unhide HAm _).mono ?_
  rintro e w0 ⟨rfl, rfl⟩
  generalize w.alloc (.cells #[.int .u8 109, .int .i64 P, .int .i64 Q, .int .i64 K, .slice pa pn pc, .string F, .string G] 141) = w0 at HB0 HBx ⊢
  have c0 : ∀ jj, w0.cell? ⟨w.heap.size, jj, none⟩ = (#[.int .u8 109, .int .i64 P, .int .i64 Q, .int .i64 K, .slice pa pn pc, .string F, .string G] : Array Value)[jj]? := fun jj => blk_cell (unhide HBx) jj
  go_upto_block 2 with fail
  go_cut [11] from 45 to 62 (fun v11 wx => w0 = wx ∧ zeroAhead l = false)
  case first =>
    go_wp2_with fail
    go_loopg [11] l.length (fun kk v11 wr => ∃ i : Nat, kk = l.length - i ∧ i ≤ l.length ∧ v11 = .int .i64 (i : Int) ∧ (∀ j (h : j < l.length), j < i → l[j] ≠ 0) ∧ w0 = wr)
    case atStart => exact ⟨0, rfl, Nat.zero_le _, rfl, fun j _ h => by omega, rfl⟩
    case round =>
      obtain ⟨i, hk, hil, rfl, hno, rfl⟩ := hrel
      have HK := hide hk
      have HNo := hide hno
      clear hk hno
      by_cases hl1 : i + 1 < l.length
      · have hl1' : (i : Int) + 1 < (l.length : Int) := by omega
        have hl2' : (i : Int) < (l.length : Int) := by omega
        obtain ⟨g, rfl, hg, hcl⟩ := ((unhide HL).below (unhide HB0)).cell (by omega)
        obtain ⟨d0, d1⟩ := hcl i (by omega)
        clear hcl
        by_cases hz : l[i] = 0
        · have hz' : (l[i].num == 0) = true := by rw [hz]; rfl
          have HZ := hide (show zeroAhead l = true from zeroAhead_of (by omega) hl1 hz)
          generalize l[i] = x at d0 d1 hz hz'
          clear hz
          have HRr := hide (show mE (zeroAhead l) (gather E l.length 0) = .error 2 by rw [unhide HZ]; rfl)
          go_wp2_with fail
          exact bodyPost_ret (v := .tuple #[.slice none 0 0, .int .i64 2]) (by simp [results, Tryz.results85, go_sem]) rfl ⟨none, 0, 0, 2, rfl, unhide HB0, Or.inr ⟨unhide HRr, by decide⟩⟩
        · have hz' : (l[i].num == 0) = false := by rw [beq_eq_false_iff_ne]; exact fun e => hz (num_zero.1 e)
          have HNx := hide (show ∀ j (h : j < l.length), j < i + 1 → l[j] ≠ 0 from fun j h h1 => by
            rcases Nat.lt_or_ge j i with h2 | h2
            · exact unhide HNo j h h2
            · have e : j = i := by omega
              subst e
              exact hz)
          generalize l[i] = x at d0 d1 hz hz'
          clear hz
          go_wp2_with fail
          go_roundg (l.length - (i + 1))
          case measure => rw [unhide HK]; omega
          case rel => exact ⟨i + 1, rfl, by omega, rfl, unhide HNx, rfl⟩
      · have hl1' : ¬ (i : Int) + 1 < (l.length : Int) := by omega
        have HZ := hide (show zeroAhead l = false from zeroAhead_no (fun j h h1 => unhide HNo j h (by omega)))
        go_wp2_with fail
        go_meet
        case rel => exact ⟨rfl, unhide HZ⟩
  case rest =>
    obtain ⟨rfl, hza⟩ := hcut
    have HZa := hide (show mE (zeroAhead l) (gather E l.length 0) = gather E l.length 0 by rw [hza]; rfl)
    clear hza
    go_wp2_with fail
    go_loopg [6, 12] l.length (fun kk v6 v12 wr => ∃ (i : Nat) (ys : List Rat) (ao' : Option Addr) (cp : Nat), kk = l.length - i ∧ i ≤ l.length ∧ v12 = .int .i64 (i : Int) ∧ v6 = .slice ao' ys.length cp ∧ (gather E i 0 = .ok ys ∧ AllS ys ∧ ys.length ≤ i) ∧ RM w0 (.slice ao' ys.length cp) ys wr)
    case atStart => exact ⟨0, [], none, 0, rfl, Nat.zero_le _, rfl, rfl, ⟨rfl, fun _ h => by (cases h), by simp⟩, RM.start w0⟩
    case round =>
      obtain ⟨i, ys, ao', cp, hk, hi, rfl, rfl, he, hm⟩ := hrel
      have HK := hide hk
      have HE := hide he
      have HM := hide hm
      have hyl := he.2.2
      clear hk he
      by_cases hlt : i < l.length
      · have hlt' : (i : Int) < (l.length : Int) := by omega
        have cw : ∀ jj, wr.cell? ⟨w.heap.size, jj, none⟩ = (#[.int .u8 109, .int .i64 P, .int .i64 Q, .int .i64 K, .slice pa pn pc, .string F, .string G] : Array Value)[jj]? := fun jj => blk_cell ((hm.bel.block _ (lt_of_block (unhide HBx))).trans (unhide HBx)) jj
        have HRlw := hide (((unhide HL).below (unhide HB0)).below hm.bel)
        clear hm
        go_wp2_with fail
        refine (unhide HIt _ i hlt (unhide HRlw)).mono ?_
        rintro e w1 ⟨⟨p, q, c, rfl, hr⟩, hb⟩
        rcases hr with ⟨z, hz, hzs, rfl, rfl, rfl⟩ | ⟨hz, hne⟩
        · have HNx := hide (show gather E (i + 1) 0 = .ok (ys ++ [z]) by
            rw [gather_snoc, (unhide HE).1, Nat.zero_add, hz])
          have HZ := hide hzs
          have HM2 := hide ((((unhide HM).below hb).below ((Below.refl _ _).alloc (Nat.le_refl _) (.cells (qcells z).toArray 139))).below ((Below.refl _ _).alloc (Nat.le_refl _) (.cells (qcells z).toArray 139)))
          have hsz := ((unhide HM).below hb).bel.size
          clear hz hzs hb
          go_wp2_with (at_builtin; refine wpList_append_own _ rfl _ _ 126 rfl w0.heap.size 139 i0 _ 2 16 Tryz.underlying126 hi0 hz0 hz1 hz2 rfl (by decide) _ _ _ rfl (unhide HM2).own ⟨w1.heap.size + 1, 0, none⟩ 1 1 (qcells z) rfl rfl (nnews_at (by simp) _ _) (one_qcells _) (by unfold maxLen; omega) (by omega) (by simp; omega) ?_)
          intro v' w4 hown4 hgr4 _
          have hm4 := (unhide HM2).more hown4 hgr4
          obtain ⟨ao4, cp4, rfl⟩ := hm4.shape
          have HM4 := hide hm4
          clear hown4 hgr4 hm4
          go_wp2_with fail
          go_roundg (l.length - (i + 1))
          case measure => rw [unhide HK]; omega
          case rel => exact ⟨i + 1, ys ++ [z], ao4, cp4, rfl, by omega, rfl, rfl, ⟨unhide HNx, allS_one (unhide HE).2.1 (unhide HZ), by simp; omega⟩, unhide HM4⟩
        · have HNx := hide (show mE (zeroAhead l) (gather E l.length 0) = .error c by
            rw [unhide HZa]
            rw [show l.length = (i + 1) + (l.length - (i + 1)) by omega]
            refine gather_err E c (i + 1) _ 0 ?_
            rw [gather_snoc, (unhide HE).1, Nat.zero_add, hz])
          have hne' : (c != 0) = true := by rw [bne_iff_ne]; exact hne
          have HNe := hide hne
          have HB2 := hide ((unhide HB0).trans ((((unhide HM).below hb).bel.alloc ((unhide HM).below hb).bel.size (.cells #[.int .i64 p, .int .i64 q] 139)).mono (unhide HB0).size))
          clear hz hne hb
          go_wp2_with fail
          exact bodyPost_ret (v := .tuple #[.slice none 0 0, .int .i64 c]) (by simp [results, Tryz.results85, go_sem]) rfl ⟨none, 0, 0, c, rfl, unhide HB2, Or.inr ⟨unhide HNx, unhide HNe⟩⟩
      · have hlt' : ¬ (i : Int) < (l.length : Int) := by omega
        have HF := hide (show mE (zeroAhead l) (gather E l.length 0) = .ok ys by rw [unhide HZa, ← show i = l.length by omega]; exact (unhide HE).1)
        have HRl := hide (hm.rl (unhide HE).2.1 (by omega))
        have HB2 := hide ((unhide HB0).trans (hm.bel.mono (unhide HB0).size))
        clear hm
        go_wp2_with fail
        exact bodyPost_ret (v := .tuple #[.slice ao' ys.length cp, .int .i64 0]) (by simp [results, Tryz.results85, go_sem]) rfl ⟨ao', ys.length, cp, 0, rfl, unhide HB2, Or.inl ⟨ys, unhide HF, rfl, rfl, unhide HRl⟩⟩
theorem each_oks (g:Rat → Rat):∀ l:List Rat,each (fun x=>.ok (g x)) l = .ok (l.map g)
 | []=>rfl
 | x :: l=>by simp only [each];rw [each_oks g l];rfl
theorem getD_at {l:List Rat} {i:Nat} (h:i < l.length):l.getD i 0 = l[i]:=by rw [List.getD_eq_getElem?_getD,List.getElem?_eq_getElem h];rfl
theorem RWGot.of {w:World} {r r':Except Int (List Rat)} {e:Ending} {w':World} (h:r = r') (g:RWGot w r e w'):RWGot w r' e w':=h ▸ g
theorem picked_ext {idx:List Nat} {l m:List Rat} (hl:idx.length = m.length) (h:∀ i (h1:i < idx.length) (h2:i < m.length),l.getD idx[i] 0 = m[i]):picked idx l = m:=by
 unfold picked
 apply List.ext_getElem
 ·simpa using hl
 ·intro i h1 h2
  rw [List.getElem_map]
  exact h i (by simpa using h1) h2
theorem told_get (el:Nat → Nat) (m i:Nat) (h:i < (told el m).length):(told el m)[i] = el i:=by simp [told]
theorem work_n {P Q K:Int} {pa:Option Addr} {pn pc:Nat} {F G:ByteArray} {l:List Rat} {ao:Option Addr} {cap:Nat} {w:World} (h:RL w ao cap l) :
  Calls Tryz.prog 85 #[.agg #[.int .u8 110,.int .i64 P,.int .i64 Q,.int .i64 K,.slice pa pn pc,.string F,.string G],.slice ao l.length cap] w fun e w'=>RWGot w (Sp.work .n l) e w':=by
 have hs:=h.small
 refine (work_items (Kd:=110) (E:=fun i=>.ok (-(l.getD i 0))) (by decide) (by decide) h (fun W i hi hW=>item_alone hW hi _ _ K pa pn pc F G (by decide) (fun W'=>?_))).mono (fun e w' g=>g.of ?_)
 ·have hx:=hs l[i] (List.getElem_mem hi)
  show Calls Tryz.prog 156 _ _ fun e w'=>RQGot ((fun x=>.ok (-x)) (l.getD i 0)) e ∧ _
  rw [getD_at hi]
  generalize l[i] = x at hx
  exact alone_n hx P Q K pa pn pc F G W'
 ·rw [gather_each (fun x=>.ok (-x)) l]
  exact each_oks _ l
theorem work_a {P Q K:Int} {pa:Option Addr} {pn pc:Nat} {F G:ByteArray} {l:List Rat} {ao:Option Addr} {cap:Nat} {w:World} (h:RL w ao cap l) :
  Calls Tryz.prog 85 #[.agg #[.int .u8 97,.int .i64 P,.int .i64 Q,.int .i64 K,.slice pa pn pc,.string F,.string G],.slice ao l.length cap] w fun e w'=>RWGot w (Sp.work .a l) e w':=by
 have hs:=h.small
 refine (work_items (Kd:=97) (E:=fun i=>.ok (absR (l.getD i 0))) (by decide) (by decide) h (fun W i hi hW=>item_alone hW hi _ _ K pa pn pc F G (by decide) (fun W'=>?_))).mono (fun e w' g=>g.of ?_)
 ·have hx:=hs l[i] (List.getElem_mem hi)
  show Calls Tryz.prog 156 _ _ fun e w'=>RQGot ((fun x=>.ok (absR x)) (l.getD i 0)) e ∧ _
  rw [getD_at hi]
  generalize l[i] = x at hx
  by_cases h0:x < 0
  ·exact alone_aneg h0 hx P Q K pa pn pc F G W'
  ·exact alone_apos h0 hx P Q K pa pn pc F G W'
 ·rw [gather_each (fun x=>.ok (absR x)) l]
  exact each_oks _ l
theorem work_v {P Q K:Int} {pa:Option Addr} {pn pc:Nat} {F G:ByteArray} {l:List Rat} {ao:Option Addr} {cap:Nat} {w:World} (h:RL w ao cap l) :
  Calls Tryz.prog 85 #[.agg #[.int .u8 118,.int .i64 P,.int .i64 Q,.int .i64 K,.slice pa pn pc,.string F,.string G],.slice ao l.length cap] w fun e w'=>RWGot w (Sp.work .v l) e w':=by
 have hs:=h.small
 refine (work_items (Kd:=118) (E:=fun i=>overE (l.getD i 0)) (by decide) (by decide) h (fun W i hi hW=>item_alone hW hi _ _ K pa pn pc F G (by decide) (fun W'=>?_))).mono (fun e w' g=>g.of ?_)
 ·have hx:=hs l[i] (List.getElem_mem hi)
  show Calls Tryz.prog 156 _ _ fun e w'=>RQGot ((fun x=>overE x) (l.getD i 0)) e ∧ _
  rw [getD_at hi]
  generalize l[i] = x at hx
  exact alone_v hx P Q K pa pn pc F G W'
 ·rw [gather_each (fun x=>overE x) l]
  rfl
theorem work_w {P Q K:Int} {pa:Option Addr} {pn pc:Nat} {F G:ByteArray} {l:List Rat} {ao:Option Addr} {cap:Nat} {w:World} (h:RL w ao cap l) :
  Calls Tryz.prog 85 #[.agg #[.int .u8 119,.int .i64 P,.int .i64 Q,.int .i64 K,.slice pa pn pc,.string F,.string G],.slice ao l.length cap] w fun e w'=>RWGot w (Sp.work .w l) e w':=by
 have hs:=h.small
 refine (work_items (Kd:=119) (E:=fun i=>rootE (l.getD i 0)) (by decide) (by decide) h (fun W i hi hW=>item_alone hW hi _ _ K pa pn pc F G (by decide) (fun W'=>?_))).mono (fun e w' g=>g.of ?_)
 ·have hx:=hs l[i] (List.getElem_mem hi)
  show Calls Tryz.prog 156 _ _ fun e w'=>RQGot ((fun x=>rootE x) (l.getD i 0)) e ∧ _
  rw [getD_at hi]
  generalize l[i] = x at hx
  exact alone_w hx P Q K pa pn pc F G W'
 ·rw [gather_each (fun x=>rootE x) l]
  rfl
theorem work_u {P Q K:Int} {pa:Option Addr} {pn pc:Nat} {F G:ByteArray} {l:List Rat} {ao:Option Addr} {cap:Nat} {w:World} (h:RL w ao cap l) :
  Calls Tryz.prog 85 #[.agg #[.int .u8 117,.int .i64 P,.int .i64 Q,.int .i64 K,.slice pa pn pc,.string F,.string G],.slice ao l.length cap] w fun e w'=>RWGot w (Sp.work .u l) e w':=by
 have hs:=h.small
 refine (work_items (Kd:=117) (E:=fun i=>uE (l.getD i 0)) (by decide) (by decide) h (fun W i hi hW=>item_alone hW hi _ _ K pa pn pc F G (by decide) (fun W'=>?_))).mono (fun e w' g=>g.of ?_)
 ·have hx:=hs l[i] (List.getElem_mem hi)
  show Calls Tryz.prog 156 _ _ fun e w'=>RQGot ((fun x=>uE x) (l.getD i 0)) e ∧ _
  rw [getD_at hi]
  generalize l[i] = x at hx
  by_cases h0:x < 0
  ·exact alone_uneg h0 hx P Q K pa pn pc F G W'
  ·exact alone_upos h0 hx P Q K pa pn pc F G W'
 ·rw [gather_each (fun x=>uE x) l]
  rfl
theorem work_q {P Q K:Int} {pa:Option Addr} {pn pc:Nat} {F G:ByteArray} {l:List Rat} {ao:Option Addr} {cap:Nat} {w:World} (h:RL w ao cap l) :
  Calls Tryz.prog 85 #[.agg #[.int .u8 113,.int .i64 P,.int .i64 Q,.int .i64 K,.slice pa pn pc,.string F,.string G],.slice ao l.length cap] w fun e w'=>RWGot w (Sp.work .q l) e w':=by
 have hs:=h.small
 refine (work_items (Kd:=113) (E:=fun i=>lim ((l.getD i 0) * (l.getD i 0))) (by decide) (by decide) h (fun W i hi hW=>item_alone hW hi _ _ K pa pn pc F G (by decide) (fun W'=>?_))).mono (fun e w' g=>g.of ?_)
 ·have hx:=hs l[i] (List.getElem_mem hi)
  show Calls Tryz.prog 156 _ _ fun e w'=>RQGot ((fun x=>lim (x * x)) (l.getD i 0)) e ∧ _
  rw [getD_at hi]
  generalize l[i] = x at hx
  exact alone_q hx P Q K pa pn pc F G W'
 ·rw [gather_each (fun x=>lim (x * x)) l]
  rfl
theorem work_plus {d:Rat} {K:Int} {pa:Option Addr} {pn pc:Nat} {F G:ByteArray} {l:List Rat} {ao:Option Addr} {cap:Nat} {w:World} (hd:small d = true) (h:RL w ao cap l) :
  Calls Tryz.prog 85 #[.agg #[.int .u8 43,.int .i64 d.num,.int .i64 (d.den:Int),.int .i64 K,.slice pa pn pc,.string F,.string G],.slice ao l.length cap] w fun e w'=>RWGot w (Sp.work (.plus d) l) e w':=by
 have hs:=h.small
 refine (work_items (Kd:=43) (E:=fun i=>lim ((l.getD i 0) + d)) (by decide) (by decide) h (fun W i hi hW=>item_alone hW hi _ _ K pa pn pc F G (by decide) (fun W'=>?_))).mono (fun e w' g=>g.of ?_)
 ·have hx:=hs l[i] (List.getElem_mem hi)
  show Calls Tryz.prog 156 _ _ fun e w'=>RQGot ((fun x=>lim (x + d)) (l.getD i 0)) e ∧ _
  rw [getD_at hi]
  generalize l[i] = x at hx
  exact alone_plus hd hx K pa pn pc F G W'
 ·rw [gather_each (fun x=>lim (x + d)) l]
  rfl
theorem work_times {d:Rat} {K:Int} {pa:Option Addr} {pn pc:Nat} {F G:ByteArray} {l:List Rat} {ao:Option Addr} {cap:Nat} {w:World} (hd:small d = true) (h:RL w ao cap l) :
  Calls Tryz.prog 85 #[.agg #[.int .u8 42,.int .i64 d.num,.int .i64 (d.den:Int),.int .i64 K,.slice pa pn pc,.string F,.string G],.slice ao l.length cap] w fun e w'=>RWGot w (Sp.work (.times d) l) e w':=by
 have hs:=h.small
 refine (work_items (Kd:=42) (E:=fun i=>lim ((l.getD i 0) * d)) (by decide) (by decide) h (fun W i hi hW=>item_alone hW hi _ _ K pa pn pc F G (by decide) (fun W'=>?_))).mono (fun e w' g=>g.of ?_)
 ·have hx:=hs l[i] (List.getElem_mem hi)
  show Calls Tryz.prog 156 _ _ fun e w'=>RQGot ((fun x=>lim (x * d)) (l.getD i 0)) e ∧ _
  rw [getD_at hi]
  generalize l[i] = x at hx
  exact alone_times hd hx K pa pn pc F G W'
 ·rw [gather_each (fun x=>lim (x * d)) l]
  rfl
theorem work_set {d:Rat} {K:Int} {pa:Option Addr} {pn pc:Nat} {F G:ByteArray} {l:List Rat} {ao:Option Addr} {cap:Nat} {w:World} (hd:small d = true) (h:RL w ao cap l) :
  Calls Tryz.prog 85 #[.agg #[.int .u8 61,.int .i64 d.num,.int .i64 (d.den:Int),.int .i64 K,.slice pa pn pc,.string F,.string G],.slice ao l.length cap] w fun e w'=>RWGot w (Sp.work (.set d) l) e w':=by
 have hs:=h.small
 refine (work_items (Kd:=61) (E:=fun i=>.ok d) (by decide) (by decide) h (fun W i hi hW=>item_alone hW hi _ _ K pa pn pc F G (by decide) (fun W'=>?_))).mono (fun e w' g=>g.of ?_)
 ·have hx:=hs l[i] (List.getElem_mem hi)
  show Calls Tryz.prog 156 _ _ fun e w'=>RQGot (.ok d) e ∧ _
  generalize l[i] = x at hx
  exact alone_set hd hx K pa pn pc F G W'
 ·rw [show gather (fun i=>(.ok d:Except Int Rat)) l.length 0 = each (fun _=>.ok d) l from gather_each (fun _=>.ok d) l]
  exact each_oks (fun _=>d) l
theorem work_s {P Q K:Int} {pa:Option Addr} {pn pc:Nat} {F G:ByteArray} {l:List Rat} {ao:Option Addr} {cap:Nat} {w:World} (h:RL w ao cap l) :
  Calls Tryz.prog 85 #[.agg #[.int .u8 115,.int .i64 P,.int .i64 Q,.int .i64 K,.slice pa pn pc,.string F,.string G],.slice ao l.length cap] w fun e w'=>RWGot w (Sp.work .s l) e w':=by
 refine (work_items (Kd:=115) (E:=fun i=>foldE addE (l.headD 0) (l.tail.take i)) (by decide) (by decide) h (fun W i hi hW=>item_s hW hi P Q K pa pn pc F G)).mono (fun e w' g=>g.of ?_)
 cases l with
 | nil=>rfl
 | cons x0 l'=>exact gather_headed_scan addE x0 l'
theorem work_p {P Q K:Int} {pa:Option Addr} {pn pc:Nat} {F G:ByteArray} {l:List Rat} {ao:Option Addr} {cap:Nat} {w:World} (h:RL w ao cap l) :
  Calls Tryz.prog 85 #[.agg #[.int .u8 112,.int .i64 P,.int .i64 Q,.int .i64 K,.slice pa pn pc,.string F,.string G],.slice ao l.length cap] w fun e w'=>RWGot w (Sp.work .p l) e w':=by
 refine (work_items (Kd:=112) (E:=fun i=>foldE mulE (l.headD 0) (l.tail.take i)) (by decide) (by decide) h (fun W i hi hW=>item_p hW hi P Q K pa pn pc F G)).mono (fun e w' g=>g.of ?_)
 cases l with
 | nil=>rfl
 | cons x0 l'=>exact gather_headed_scan mulE x0 l'
theorem work_mm {P Q K:Int} {pa:Option Addr} {pn pc:Nat} {F G:ByteArray} {l:List Rat} {ao:Option Addr} {cap:Nat} {w:World} (h:RL w ao cap l) :
  Calls Tryz.prog 85 #[.agg #[.int .u8 109,.int .i64 P,.int .i64 Q,.int .i64 K,.slice pa pn pc,.string F,.string G],.slice ao l.length cap] w fun e w'=>RWGot w (Sp.work .m l) e w':=by
 refine (work_m (E:=fun i=>foldE mulE (l.headD 0) (l.tail.take i)) h (fun W i hi hW=>item_m hW hi P Q K pa pn pc F G)).mono (fun e w' g=>g.of ?_)
 show mE (zeroAhead l) _ = if zeroAhead l then .error 2 else headed (scan mulE) l
 unfold mE
 cases zeroAhead l with
 | true=>rfl
 | false=>
  cases l with
  | nil=>rfl
  | cons x0 l'=>exact gather_headed_scan mulE x0 l'
theorem work_z {P Q K:Int} {pa:Option Addr} {pn pc:Nat} {F G:ByteArray} {l:List Rat} {ao:Option Addr} {cap:Nat} {w:World} (h:RL w ao cap l) :
  Calls Tryz.prog 85 #[.agg #[.int .u8 122,.int .i64 P,.int .i64 Q,.int .i64 K,.slice pa pn pc,.string F,.string G],.slice ao l.length cap] w fun e w'=>RWGot w (Sp.work .z l) e w':=by
 refine (work_items (Kd:=122) (E:=fun i=>if i = 0 then .ok (l.headD 0) else subE (l.getD (i - 1) 0) (l.getD i 0)) (by decide) (by decide) h (fun W i hi hW=>by
  show Calls _ _ _ _ fun e w'=>RQGot (if i = 0 then .ok (l.headD 0) else subE (l.getD (i - 1) 0) (l.getD i 0)) e ∧ _
  cases i with
  | zero=>
   have:=item_z0 rfl hW hi P Q K pa pn pc F G
   rw [if_pos rfl]
   cases l with
   | nil=>simp at hi
   | cons x0 l'=>exact this
  | succ j=>
   rw [if_neg (by omega),show j + 1 - 1 = j from rfl,getD_at hi,getD_at (show j < l.length by omega)]
   exact item_z1 hW hi P Q K pa pn pc F G)).mono (fun e w' g=>g.of ?_)
 cases l with
 | nil=>rfl
 | cons x0 l'=>exact gather_headed_diff subE x0 l'
theorem work_o {P Q K:Int} {pa:Option Addr} {pn pc:Nat} {F G:ByteArray} {l:List Rat} {ao:Option Addr} {cap:Nat} {w:World} (h:RL w ao cap l) :
  Calls Tryz.prog 85 #[.agg #[.int .u8 111,.int .i64 P,.int .i64 Q,.int .i64 K,.slice pa pn pc,.string F,.string G],.slice ao l.length cap] w fun e w'=>RWGot w (Sp.work .o l) e w':=by
 refine (work_items (Kd:=111) (E:=fun i=>if i = 0 then .ok (l.headD 0) else divE (l.getD (i - 1) 0) (l.getD i 0)) (by decide) (by decide) h (fun W i hi hW=>by
  show Calls _ _ _ _ fun e w'=>RQGot (if i = 0 then .ok (l.headD 0) else divE (l.getD (i - 1) 0) (l.getD i 0)) e ∧ _
  cases i with
  | zero=>
   have:=item_o0 rfl hW hi P Q K pa pn pc F G
   rw [if_pos rfl]
   cases l with
   | nil=>simp at hi
   | cons x0 l'=>exact this
  | succ j=>
   rw [if_neg (by omega),show j + 1 - 1 = j from rfl,getD_at hi,getD_at (show j < l.length by omega)]
   exact item_o1 hW hi P Q K pa pn pc F G)).mono (fun e w' g=>g.of ?_)
 cases l with
 | nil=>rfl
 | cons x0 l'=>exact gather_headed_diff divE x0 l'
end Go.Proofs.YtikiaijgcjjloabGreatDoor

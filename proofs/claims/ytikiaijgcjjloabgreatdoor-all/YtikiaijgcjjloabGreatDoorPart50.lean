import Derived.Test.YtikiaijgcjjloabGreatDoorPart48
import Derived.Test.YtikiaijgcjjloabGreatDoorPart49
import Derived.Deep.DeepCutAuto
import Derived.Deep.RegionHeld3
import Derived.BigRegion
import Derived.Test.YtikiaijgcjjloabGreatDoorRows
import Derived.Test.YtikiaijgcjjloabGreatDoorPart6
import Derived.ProofKit
import Derived.LaidMore
import Derived.OpenShut
import Derived.ShutString
import Derived.Stop.Joined
import Derived.Lib.LaidTab
import Derived.Deep.Slices
import Derived.SizedLaws
import Derived.Carry

namespace Go.Proofs.YtikiaijgcjjloabGreatDoor
open Go Go.RowKit M T Go.Lib
set_option maxRecDepth 100000 in
set_option maxHeartbeats 800000 in
theorem numbers_any {w:World} (K On Aa:Int) (S X:ByteArray) (hS:S.size ≤ 9223372036854775807) (hX:X.size ≤ 9223372036854775807) (ht:Tab w) :
  Calls Tryz.prog 30 #[.agg #[.int .i64 K,.int .i64 On,.int .i64 Aa,.string S,.string X]] w fun e w'=>e = .returned (.bool true) ∧ Below w.heap.size w w':=by
 have hb0:Below w.heap.size w (w.alloc (.cells #[.int .i64 K,.int .i64 On,.int .i64 Aa,.string S,.string X] 73)):=(Below.refl _ _).alloc (Nat.le_refl _) _
 have HT:=hide (tab_below ht hb0)
 clear ht
 rcases (show K = 1 ∨ K = 2 ∨ K = 3 ∨ K = 4 ∨ (K ≠ 1 ∧ K ≠ 2 ∧ K ≠ 3 ∧ K ≠ 4) by omega) with rfl | rfl | rfl | rfl | ⟨h1,h2,h3,h4⟩
 all_goals go_enter Tryz.func30,Tryz.ntmps30
 ·go_wp2_with fail
  refine (sums_walk S X _ hS hX (unhide HT)).mono ?_
  rintro e w1 ⟨rfl,hb1⟩
  have HB1:=hide (hb0.trans (hb1.mono hb0.size))
  clear hb1
  go_wp2_with fail
  go_ret
  exact ⟨rfl,unhide HB1⟩
 ·go_wp2_with fail
  refine (products_walk S X _ hS hX (unhide HT)).mono ?_
  rintro e w1 ⟨rfl,hb1⟩
  have HB1:=hide (hb0.trans (hb1.mono hb0.size))
  clear hb1
  go_wp2_with fail
  go_ret
  exact ⟨rfl,unhide HB1⟩
 ·go_wp2_with fail
  refine (overs_walk S _ hS (unhide HT)).mono ?_
  rintro e w1 ⟨rfl,hb1⟩
  have HB1:=hide (hb0.trans (hb1.mono hb0.size))
  clear hb1
  go_wp2_with fail
  go_ret
  exact ⟨rfl,unhide HB1⟩
 ·go_wp2_with fail
  refine (roots_walk S _ hS (unhide HT)).mono ?_
  rintro e w1 ⟨rfl,hb1⟩
  have HB1:=hide (hb0.trans (hb1.mono hb0.size))
  clear hb1
  go_wp2_with fail
  go_ret
  exact ⟨rfl,unhide HB1⟩
 ·have q1:(K == 1) = false:=by rw [beq_eq_false_iff_ne];exact h1
  have q2:(K == 2) = false:=by rw [beq_eq_false_iff_ne];exact h2
  have q3:(K == 3) = false:=by rw [beq_eq_false_iff_ne];exact h3
  have q4:(K == 4) = false:=by rw [beq_eq_false_iff_ne];exact h4
  go_wp2_with fail
  go_ret
  exact ⟨rfl,hb0⟩
theorem asked_all {n0 m:Nat} {w:World} {ts:List Twn} (h:Tws n0 m w ts) (hn:n0 ≤ w.heap.size) (hm:(m + 1) * 32 ≤ 140737488355328) (ht:Tab w) {j:Nat} (hj:j < ts.length) (K On Aa:Int) (S X:ByteArray) (hX:X.size ≤ 9223372036854775807) (h1:6 ≤ K) (h2:K ≤ 9) :
  Calls Tryz.prog 31 #[.agg #[.pointer (some ⟨ts[j].xb,0,none⟩),.pointer (some ⟨ts[j].rb,0,none⟩)],.agg #[.int .i64 K,.int .i64 On,.int .i64 Aa,.string S,.string X]] w fun e w'=>e = .returned (.bool true) ∧ AskGot n0 m ts w w':=by
 rcases (show K < 9 ∨ K = 9 by omega) with h9 | rfl
 ·exact asked_any h hn hm ht hj K On Aa S X h1 h9
 ·have hJ:=h.one j hj
  refine (asked_run hJ.ses hJ.ref (by have:=hJ.len;unfold maxLen;omega) ht On Aa S X hX).mono ?_
  rintro e w' ⟨rfl,hb⟩
  exact ⟨rfl,AskGot.below h hn hb⟩
theorem ask_stepA {w wr:World} {i g cp:Nat} {ts:List Twn} (hpl:PlIs w i (.slice (some ⟨g,0,none⟩) ts.length cp) ts wr) (K On Aa:Int) (S X:ByteArray) (hX:X.size ≤ 9223372036854775807) (hm:(i + 1) * 32 ≤ 140737488355328) (ht:Tab w) {j:Nat} (hj:j < ts.length) (h6:6 ≤ K) (h9:K ≤ 9) :
  Calls Tryz.prog 31 #[.agg #[.pointer (some ⟨ts[j].xb,0,none⟩),.pointer (some ⟨ts[j].rb,0,none⟩)],.agg #[.int .i64 K,.int .i64 On,.int .i64 Aa,.string S,.string X]] (wr.alloc (.cells #[.int .i64 K,.int .i64 On,.int .i64 Aa,.string S,.string X] 73)).drew fun e w'=>e = .returned (.bool true) ∧ AskGot w.heap.size i ts (wr.alloc (.cells #[.int .i64 K,.int .i64 On,.int .i64 Aa,.string S,.string X] 73)).drew w' ∧ (∀ o,w'.cell? ⟨wr.heap.size,o,none⟩ = (#[.int .i64 K,.int .i64 On,.int .i64 Aa,.string S,.string X]:Array Value)[o]?) ∧ ∀ o,w'.cell? ⟨g,o,none⟩ = wr.cell? ⟨g,o,none⟩:=by
 have hpd:PlIs w i (.slice (some ⟨g,0,none⟩) ts.length cp) ts (wr.alloc (.cells #[.int .i64 K,.int .i64 On,.int .i64 Aa,.string S,.string X] 73)).drew:=hpl.below (Below.drew ((Below.refl _ _).alloc (Nat.le_refl _) _))
 refine (asked_all hpd.tws hpd.bel.size hm (tab_below ht hpd.bel) hj K On Aa S X hX h6 h9).mono ?_
 rintro e w' ⟨rfl,h2⟩
 refine ⟨rfl,h2,fun o=>?_,fun o=>?_⟩
 ·have hh:(wr.alloc (.cells #[.int .i64 K,.int .i64 On,.int .i64 Aa,.string S,.string X] 73)).drew.heap[wr.heap.size]? = some (.cells #[.int .i64 K,.int .i64 On,.int .i64 Aa,.string S,.string X] 73 (0,0)):=heap_alloc_new wr _
  rw [ask_cells h2 hh (Or.inr rfl) o]
  exact blk_cell hh o
 ·obtain ⟨c,hc⟩:=owns_blk hpl.own
  have hh:(wr.alloc (.cells #[.int .i64 K,.int .i64 On,.int .i64 Aa,.string S,.string X] 73)).drew.heap[g]? = some (.cells c 70 (0,0)):=(Below.heap_alloc wr _ _ (lt_of_block hc)).trans hc
  rw [ask_cells h2 hh (Or.inl rfl) o,blk_cell hh o,blk_cell hc o]
set_option maxRecDepth 100000 in
set_option maxHeartbeats 3200000 in
theorem played_all {w:World} {ao:Option Addr} {n cap:Nat} {os:Nat → OpC} (hsc:ScIs w w.heap.size ao n os) (hol:OpLens n os) (hn:(n + 2) * 32 ≤ 140737488355328) (ht:Tab w) :
  Calls Tryz.prog 16 #[.slice ao n cap,.bool true,.bool true,.bool true] w fun e w'=>e = .returned (.bool true) ∧ Below w.heap.size w w':=by
 obtain ⟨i0,hi0,hz0,hz1,hz2⟩:=info_parts Tryz.infoTwin
 have HSc:=hide hsc
 have HOl:=hide hol
 have HT:=hide ht
 clear hsc ht hol
 go_enter Tryz.func16,Tryz.ntmps16
 go_wp2_with fail
 refine (new_any _).mono ?_
 rintro e w' ⟨rfl,rfl⟩
 go_wp2_with fail
 refine (rNew_any _).mono ?_
 rintro e w' ⟨rfl,rfl⟩
 go_wp2_with fail
 go_loopg [10,11] n (fun k v10 v11 wr=>∃ (i:Nat) (ts:List Twn) (g cp:Nat),k = n - i ∧ i ≤ n ∧ v11 = .int .i64 (i:Int) ∧ v10 = .slice (some ⟨g,0,none⟩) ts.length cp ∧ PlIs w i (.slice (some ⟨g,0,none⟩) ts.length cp) ts wr)
 case atStart=>exact ⟨0,[freshTw w.heap.size],w.heap.size + 2,1,rfl,Nat.zero_le _,rfl,rfl,PlIs.start w⟩
 case round=>
  obtain ⟨i,ts,g,cp,hk,hi,rfl,rfl,hpl⟩:=hrel
  have HK:=hide hk
  have HPl:=hide hpl
  clear hk hpl
  by_cases hlt:i < n
  ·have hlt':(i:Int) < (n:Int):=by omega
   obtain ⟨a,rfl,hab,hcs⟩:=(unhide HSc).some (by omega)
   obtain ⟨d0,d1,d2,d3,d4⟩:=hcs i hlt
   have hof:∀ p:Addr,p.block = (a.add (i * 5)).block → wr.cell? p = w.cell? p:=fun p hp=>(unhide HPl).bel.cell (by rw [hp,show (a.add (i * 5)).block = a.block from by unfold Addr.add;split <;> rfl];exact hab)
   have d0:=(hof _ rfl).trans d0
   have d1:=(hof ⟨(a.add (i * 5)).block,(a.add (i * 5)).off + 1,none⟩ rfl).trans d1
   have d2:=(hof ⟨(a.add (i * 5)).block,(a.add (i * 5)).off + 2,none⟩ rfl).trans d2
   have d3:=(hof ⟨(a.add (i * 5)).block,(a.add (i * 5)).off + 3,none⟩ rfl).trans d3
   have d4:=(hof ⟨(a.add (i * 5)).block,(a.add (i * 5)).off + 4,none⟩ rfl).trans d4
   have hon:=(unhide HSc).wf i hlt
   have hol:=unhide HOl i hlt
   clear hof hcs
   generalize os i = o at d0 d1 d2 d3 d4 hon hol
   obtain ⟨K,On,Aa,S,X⟩:=o
   clear HSc HOl
   have hS:S.size ≤ 9223372036854775807:=hol.1
   have hX:X.size ≤ 9223372036854775807:=hol.2
   clear hol
   have e0:wr.cell? (a.add (i * 5)) = some (.int .i64 K):=d0
   have e1:wr.cell? ⟨(a.add (i * 5)).block,(a.add (i * 5)).off + 1,none⟩ = some (.int .i64 On):=d1
   have e2:wr.cell? ⟨(a.add (i * 5)).block,(a.add (i * 5)).off + 2,none⟩ = some (.int .i64 Aa):=d2
   have e3:wr.cell? ⟨(a.add (i * 5)).block,(a.add (i * 5)).off + 3,none⟩ = some (.string S):=d3
   have e4:wr.cell? ⟨(a.add (i * 5)).block,(a.add (i * 5)).off + 4,none⟩ = some (.string X):=d4
   clear d0 d1 d2 d3 d4
   have hbx:Below wr.heap.size wr (wr.alloc (.cells #[.int .i64 K,.int .i64 On,.int .i64 Aa,.string S,.string X] 73)):=(Below.refl _ _).alloc (Nat.le_refl _) _
   have HPx:=hide ((unhide HPl).below hbx)
   clear hbx
   rcases (show K < 5 ∨ K = 5 ∨ (6 ≤ K ∧ K ≤ 9) ∨ 9 < K by omega) with h5 | rfl | ⟨h6,h9⟩ | h9
   ·have HTx:=hide (tab_below (unhide HT) (unhide HPx).bel)
    go_wp2_with fail
    refine (numbers_any K On Aa S X hS hX (unhide HTx)).mono ?_
    rintro e w5 ⟨rfl,hb5⟩
    have HP5:=hide ((unhide HPx).below hb5)
    clear hb5
    go_wp2_with fail
    go_roundg (n - (i + 1))
    case measure=>rw [unhide HK];omega
    case rel=>exact ⟨i + 1,ts,g,cp,rfl,by omega,rfl,rfl,(unhide HP5).mono⟩
   ·go_wp2_with fail
    refine (new_any _).mono ?_
    rintro e w' ⟨rfl,rfl⟩
    go_wp2_with fail
    refine (rNew_any _).mono ?_
    rintro e w' ⟨rfl,rfl⟩
    have hle:=(unhide HPl).le
    go_wp2_with (at_builtin;refine wpList_append_own _ rfl _ _ 71 rfl w.heap.size 70 i0 _ 2 16 Tryz.underlying71 hi0 hz0 hz1 hz2 rfl (by decide) _ _ _ rfl ((((unhide HPx).own.alloc _).alloc _).alloc _) ⟨wr.heap.size + 1 + 1 + 1,0,none⟩ 1 1 (Twn.cells (freshTw (wr.heap.size + 1))) rfl rfl (news_at (by simp) _ _) (one_twin _) (by unfold maxLen;omega) (by omega) (by have:=(unhide HPl).bel.size;simp;omega) ?_)
    intro v' w4 hown4 hgr4 _
    have hp:=(unhide HPx).more' (n1:=wr.heap.size + 1) (by simp) hown4 hgr4
    obtain ⟨g',cp',rfl⟩:=hp.shape
    have HP4:=hide hp
    clear hown4 hgr4 hp
    go_wp2_with fail
    go_roundg (n - (i + 1))
    case measure=>rw [unhide HK];omega
    case rel=>exact ⟨i + 1,_,g',cp',rfl,by omega,rfl,rfl,unhide HP4⟩
   ·have hne:=(unhide HPl).ne
    have hle:=(unhide HPl).le
    have hab':g < wr.heap.size:=((unhide HPl).own.lt g rfl).2
    have hjl:=pickN_lt On hne
    have htc:=trow_cell (unhide HPl).own hjl
    have HPk:=hide (fun (w':World)=>pick_any On ts.length w' hon.1 hon.2 hne (by omega))
    have HPd:=hide ((unhide HPx).below (Below.drew (Below.refl _ _)))
    have HAsk:=hide (ask_stepA (unhide HPl) K On Aa S X hX (by omega) (unhide HT) hjl h6 h9)
    generalize pickN On ts.length = j at hjl htc HPk HAsk
    generalize ts[j].xb = xb at htc HAsk
    generalize ts[j].rb = rb at htc HAsk
    obtain ⟨tc0,tc1⟩:=htc
    go_upto_block 2 with fail
    go_cut [10,13] from 32 to 81 (fun v10 v13 wx=>v10 = .slice (some ⟨g,0,none⟩) ts.length cp ∧ v13 = .bool true ∧ ∃ ts',PlIs w (i + 1) (.slice (some ⟨g,0,none⟩) ts.length cp) ts' wx)
    case first=>
     rcases (show K = 6 ∨ K = 7 ∨ K = 8 ∨ K = 9 by omega) with rfl | rfl | rfl | rfl
     ·go_upto_region 19 with fail
      go_region_held3 (fun w'=>(w'.cell? ⟨wr.heap.size,0,none⟩ = some (.int .i64 6) ∧ w'.cell? ⟨wr.heap.size,1,none⟩ = some (.int .i64 On) ∧ w'.cell? ⟨wr.heap.size,2,none⟩ = some (.int .i64 Aa) ∧ w'.cell? ⟨wr.heap.size,3,none⟩ = some (.string S) ∧ w'.cell? ⟨wr.heap.size,4,none⟩ = some (.string X)) ∧ w'.cell? ⟨g,j * 2,none⟩ = some (.pointer (some ⟨xb,0,none⟩)) ∧ w'.cell? ⟨g,j * 2 + 1,none⟩ = some (.pointer (some ⟨rb,0,none⟩))) (go_keep)
       (first | (go_at_call 32;refine (unhide HPk _).mono ?_;rintro e w' ⟨rfl,rfl⟩) | (go_at_call 31;refine (unhide HAsk).mono ?_;rintro e w' ⟨rfl,hask,hO,hG⟩))
      all_goals go_wp2_with fail
      all_goals go_meet
      all_goals exact ⟨rfl,rfl,(unhide HPd).ask hask⟩
     ·go_upto_region 19 with fail
      go_region_held3 (fun w'=>(w'.cell? ⟨wr.heap.size,0,none⟩ = some (.int .i64 7) ∧ w'.cell? ⟨wr.heap.size,1,none⟩ = some (.int .i64 On) ∧ w'.cell? ⟨wr.heap.size,2,none⟩ = some (.int .i64 Aa) ∧ w'.cell? ⟨wr.heap.size,3,none⟩ = some (.string S) ∧ w'.cell? ⟨wr.heap.size,4,none⟩ = some (.string X)) ∧ w'.cell? ⟨g,j * 2,none⟩ = some (.pointer (some ⟨xb,0,none⟩)) ∧ w'.cell? ⟨g,j * 2 + 1,none⟩ = some (.pointer (some ⟨rb,0,none⟩))) (go_keep)
       (first | (go_at_call 32;refine (unhide HPk _).mono ?_;rintro e w' ⟨rfl,rfl⟩) | (go_at_call 31;refine (unhide HAsk).mono ?_;rintro e w' ⟨rfl,hask,hO,hG⟩))
      all_goals go_wp2_with fail
      all_goals go_meet
      all_goals exact ⟨rfl,rfl,(unhide HPd).ask hask⟩
     ·go_upto_region 19 with fail
      go_region_held3 (fun w'=>(w'.cell? ⟨wr.heap.size,0,none⟩ = some (.int .i64 8) ∧ w'.cell? ⟨wr.heap.size,1,none⟩ = some (.int .i64 On) ∧ w'.cell? ⟨wr.heap.size,2,none⟩ = some (.int .i64 Aa) ∧ w'.cell? ⟨wr.heap.size,3,none⟩ = some (.string S) ∧ w'.cell? ⟨wr.heap.size,4,none⟩ = some (.string X)) ∧ w'.cell? ⟨g,j * 2,none⟩ = some (.pointer (some ⟨xb,0,none⟩)) ∧ w'.cell? ⟨g,j * 2 + 1,none⟩ = some (.pointer (some ⟨rb,0,none⟩))) (go_keep)
       (first | (go_at_call 32;refine (unhide HPk _).mono ?_;rintro e w' ⟨rfl,rfl⟩) | (go_at_call 31;refine (unhide HAsk).mono ?_;rintro e w' ⟨rfl,hask,hO,hG⟩))
      all_goals go_wp2_with fail
      all_goals go_meet
      all_goals exact ⟨rfl,rfl,(unhide HPd).ask hask⟩
     ·go_upto_region 19 with fail
      go_region_held3 (fun w'=>(w'.cell? ⟨wr.heap.size,0,none⟩ = some (.int .i64 9) ∧ w'.cell? ⟨wr.heap.size,1,none⟩ = some (.int .i64 On) ∧ w'.cell? ⟨wr.heap.size,2,none⟩ = some (.int .i64 Aa) ∧ w'.cell? ⟨wr.heap.size,3,none⟩ = some (.string S) ∧ w'.cell? ⟨wr.heap.size,4,none⟩ = some (.string X)) ∧ w'.cell? ⟨g,j * 2,none⟩ = some (.pointer (some ⟨xb,0,none⟩)) ∧ w'.cell? ⟨g,j * 2 + 1,none⟩ = some (.pointer (some ⟨rb,0,none⟩))) (go_keep)
       (first | (go_at_call 32;refine (unhide HPk _).mono ?_;rintro e w' ⟨rfl,rfl⟩) | (go_at_call 31;refine (unhide HAsk).mono ?_;rintro e w' ⟨rfl,hask,hO,hG⟩))
      all_goals go_wp2_with fail
      all_goals go_meet
      all_goals exact ⟨rfl,rfl,(unhide HPd).ask hask⟩
    case rest=>
    obtain ⟨rfl,rfl,ts',hp⟩:=hcut
    have HL:=hide (owns_len hp.own)
    have HP:=hide hp
    clear hp
    go_wp2_with fail
    go_roundg (n - (i + 1))
    case measure=>rw [unhide HK];omega
    case rel=>exact ⟨i + 1,ts',g,cp,rfl,by omega,rfl,by rw [unhide HL],by rw [← unhide HL];exact unhide HP⟩
   ·have q6:(K == 6) = false:=by rw [beq_eq_false_iff_ne];omega
    have q9:(K == 9) = false:=by rw [beq_eq_false_iff_ne];omega
    go_wp2_with fail
    go_roundg (n - (i + 1))
    case measure=>rw [unhide HK];omega
    case rel=>exact ⟨i + 1,ts,g,cp,rfl,by omega,rfl,rfl,(unhide HPx).mono⟩
  ·have hlt':¬ (i:Int) < (n:Int):=by omega
   go_wp2_with fail
   go_ret
   exact ⟨rfl,(unhide HPl).bel⟩
end Go.Proofs.YtikiaijgcjjloabGreatDoor

namespace Go.Proofs.YtikiaijgcjjloabGreatDoor
open Go Go.ChangeShapes Go.WideShapes Go.ChangeAt Go.WideMaps Go.WideElems Go.RowKit
theorem own:ownKnob Tryz.prog.godebug = none:=by kernel_rfl
def laid3:List (String × DataW Unit):=[("math/bits.deBruijn32tab",Rows.laid_math_bits_deBruijn32tab),("math/bits.deBruijn64tab",Rows.laid_math_bits_deBruijn64tab),("internal/strconv.uint64pow10",Rows.laid_internal_strconv_uint64pow10)]
theorem gPow:Tryz.prog.globalNamed "internal/strconv.uint64pow10" = some 0:=by kernel_rfl
theorem tPow:(Tryz.prog.globals[0]?).map (·.type) = some 190:=by kernel_rfl
theorem dPow:(Rows.laid_internal_strconv_uint64pow10:DataW Unit) = Lib.tabData .u64 Lib.pow10Tab:=by kernel_rfl
set_option maxRecDepth 100000 in
theorem door_met (os:Os) (args:Array Value):laidMetH Tryz.prog laid3 ((World.doorLaid Tryz.prog 400 os).forCall (fun _ _=>0) ⟨#[],args,[]⟩).memory :=
 laidMetH_of_parts3 (fuel:=8) (laidMet_of_run' 8 (by kernel_rfl) (by kernel_rfl)) (by kernel_rfl) (by kernel_rfl)
theorem tab_of_laid {W:World} (h:laidMetH Tryz.prog laid3 W):Tab W:=by
 rw [MakeChecks.laidMetH_plain _ _ _ (by kernel_rfl)] at h
 obtain ⟨ps,⟨g0,t0,cs0,f0,p0,q0,hg0,ht0,hv0,hd0,⟨g1,t1,cs1,f1,p1,q1,hg1,ht1,hv1,hd1,⟨g2,t2,cs2,f2,p2,q2,hg2,ht2,hv2,hd2,_,_⟩,_⟩,_⟩,_,_⟩:=h
 obtain rfl:=Option.some.inj (gPow.symm.trans hg2)
 obtain rfl:=Option.some.inj (tPow.symm.trans ht2)
 rw [dPow] at hd2
 unfold Tab Lib.TabIs
 rw [hv2,← Lib.cells_of_tab Tryz.underlying190 Tryz.underlying149 (by kernel_rfl) (by kernel_rfl) hd2]
end Go.Proofs.YtikiaijgcjjloabGreatDoor

namespace Go.Proofs.YtikiaijgcjjloabGreatDoor
open Go Go.RowKit M T Go.Lib
set_option maxRecDepth 100000 in
set_option maxHeartbeats 400000 in
theorem all_walk {w:World} {ao:Option Addr} {n cap:Nat} {os:Nat → OpC} (hsc:ScIs w w.heap.size ao n os) (hol:OpLens n os) (hn:(n + 2) * 32 ≤ 140737488355328) (ht:Tab w) :
  Calls Tryz.prog 7 #[.slice ao n cap] w fun e w'=>e = .returned (.bool true) ∧ Below w.heap.size w w':=by
 have HSc:=hide hsc
 have HOl:=hide hol
 have HT:=hide ht
 clear hsc ht hol
 go_enter Tryz.func7,Tryz.ntmps7
 go_wp2_with fail
 refine (played_all (cap:=cap) (unhide HSc) (unhide HOl) hn (unhide HT)).mono ?_
 rintro e w1 ⟨rfl,hb⟩
 go_wp2_with fail
 go_ret
 exact ⟨rfl,hb⟩
def op0:OpC:=⟨0,0,0,⟨#[]⟩,⟨#[]⟩⟩
theorem Tryz.cellsOp:Tryz.prog.cellsOf 73 = 5:=by kernel_rfl
theorem Tryz.cellsInt:Tryz.prog.cellsOf 3 = 1:=by kernel_rfl
theorem Tryz.cellsStr:Tryz.prog.cellsOf 9 = 1:=by kernel_rfl
theorem Tryz.bytesOp:Tryz.prog.bytesOf 73 = 56:=by kernel_rfl
set_option maxRecDepth 100000 in
theorem open_script {H:Type} {enc:TypeId × Value → H} {W:World} {base:Nat} {v:Value} {d:DataW H} {p:List MemPlace} (hval:Value.okWide Tryz.prog W .any base 39 v) (h:DataW.Trod enc Tryz.prog W 0 (fun _=>true) true 39 v d p)
  (hsz:(DataW.weightsEach Tryz.prog [39] [d]).all (· ≤ reachBytes) = true) :
  ∃ (ao:Option Addr) (n cap:Nat) (os:Nat → OpC),v = .slice ao n cap ∧ ScIs W W.heap.size ao n os ∧ OpLens n os ∧ (n + 2) * 32 ≤ 140737488355328:=by
 obtain ⟨ao,len0,cap0,rfl⟩:=Go.WideShapes.okWide_slice Tryz.underlying39 hval
 obtain ⟨fuel,hf⟩:=h
 rcases Go.Deep.open_slice Tryz.underlying39 hf with ⟨hc,hx⟩ | ⟨a,len,cap,m,k,D,Pl,hc,_,hl,hm,hmm,hx,hall⟩
 ·simp [Value.cells] at hc
  obtain ⟨rfl,rfl,rfl⟩:=hc
  exact ⟨none,0,0,fun _=>op0,rfl,⟨fun h=>absurd h (Nat.lt_irrefl 0),fun i h=>absurd h (Nat.not_lt_zero i)⟩,fun i h=>absurd h (Nat.not_lt_zero i),by omega⟩
 ·simp [Value.cells] at hc
  obtain ⟨rfl,rfl,rfl⟩:=hc
  simp only [if_true] at hmm
  subst hmm
  simp only [Prod.mk.injEq] at hx
  have hw:=sized_slice hsz (j:=0) rfl (by rw [hx.1];rfl) Tryz.underlying39
  rw [List.length_map,List.length_map,List.length_range,List.length_range,Tryz.bytesOp] at hw
  have hrb:reachBytes = 140737488351232:=rfl
  rw [hrb] at hw
  have each:∀ i,i < len0 → ∃ o:OpC,(W.cell? (a.add (i * 5)) = some (.int .i64 o.K) ∧ W.cell? ⟨(a.add (i * 5)).block,(a.add (i * 5)).off + 1,none⟩ = some (.int .i64 o.On) ∧ W.cell? ⟨(a.add (i * 5)).block,(a.add (i * 5)).off + 2,none⟩ = some (.int .i64 o.A) ∧ W.cell? ⟨(a.add (i * 5)).block,(a.add (i * 5)).off + 3,none⟩ = some (.string o.S) ∧ W.cell? ⟨(a.add (i * 5)).block,(a.add (i * 5)).off + 4,none⟩ = some (.string o.X)) ∧ -9223372036854775808 ≤ o.On ∧ o.On ≤ 9223372036854775807 ∧ o.S.size ≤ 9223372036854775807 ∧ o.X.size ≤ 9223372036854775807:=by
   intro i hi
   obtain ⟨cs',h1,h2⟩:=hall i (by omega)
   rw [Tryz.cellsOp] at h1
   obtain ⟨_,hlen,hcell⟩:=World.cells?_some h1
   obtain ⟨xs,n',_,_,_,hxl,hfs⟩:=DataW.trod_struct Tryz.underlying73 h2
   match cs',hlen with
   | [v0,v1,v2,v3,v4],_=>
    match xs,hxl with
    | [y0,y1,y2,y3,y4],_=>
     have g0:=hfs 0 _ rfl
     have g1:=hfs 1 _ rfl
     have g2:=hfs 2 _ rfl
     have g3:=hfs 3 _ rfl
     have g4:=hfs 4 _ rfl
     simp [Tryz.cellsInt,Tryz.cellsStr] at g0 g1 g2 g3 g4
     obtain ⟨k0,e0,_,_⟩:=DataW.trod_int Tryz.underlying3 g0
     obtain ⟨k1,e1,_,w1⟩:=DataW.trod_int Tryz.underlying3 g1
     obtain ⟨k2,e2,_,_⟩:=DataW.trod_int Tryz.underlying3 g2
     obtain ⟨s3,e3,_,z3⟩:=DataW.trod_string Tryz.underlying9 g3
     obtain ⟨s4,e4,_,z4⟩:=DataW.trod_string Tryz.underlying9 g4
     simp only [List.cons.injEq,and_true] at e0 e1 e2 e3 e4
     subst e0 e1 e2 e3 e4
     have c0:=hcell 0 (by omega)
     have c1:=hcell 1 (by omega)
     have c2:=hcell 2 (by omega)
     have c3:=hcell 3 (by omega)
     have c4:=hcell 4 (by omega)
     simp [Addr.add] at c0 c1 c2 c3 c4
     exact ⟨⟨k0,k1,k2,s3,s4⟩,⟨by simpa [Addr.add] using c0,by simpa [Addr.add] using c1,by simpa [Addr.add] using c2,by simpa [Addr.add] using c3,by simpa [Addr.add] using c4⟩,(bounds_i64 w1).1,(bounds_i64 w1).2,z3,z4⟩
  have:Inhabited OpC:=⟨op0⟩
  obtain ⟨os,hos⟩:=Go.Deep.choose_lt each
  refine ⟨some a,len0,_,os,rfl,⟨fun hp=>⟨a,rfl,?_,fun i hi=>(hos i hi).1⟩,fun i hi=>⟨(hos i hi).2.1,(hos i hi).2.2.1⟩⟩,fun i hi=>(hos i hi).2.2.2,by omega⟩
  have hb:=World.block_lt_of_cell? W _ (hos 0 hp).1.1
  rw [show (a.add (0 * 5)).block = a.block from by unfold Addr.add;split <;> rfl] at hb
  exact hb
end Go.Proofs.YtikiaijgcjjloabGreatDoor

import Derived.Test.YtikiaijgcjjloabGreatDoorPart47
import Derived.Test.YtikiaijgcjjloabGreatDoorPart24
import Derived.Test.YtikiaijgcjjloabGreatDoorPart46
import Derived.Deep.DeepCutAuto
import Derived.Deep.RegionHeld3
import Derived.BigRegion
import Derived.Test.YtikiaijgcjjloabGreatDoorPart25

namespace Go.Proofs.YtikiaijgcjjloabGreatDoor
open Go Go.RowKit M T Go.Lib
def RunGot (r:Res) (F:Int) (e:Ending) (w':World):Prop:=(∃ l f g cap,r = .ok l f ∧ e = .returned (.tuple #[.slice (some ⟨g,0,none⟩) l.length cap,.int .i64 (F - (f:Int)),.int .i64 0]) ∧ LIs w' g cap l) ∨ (∃ c,r = .err c ∧ c ≠ 0 ∧ e = .returned (.tuple #[.slice none 0 0,.int .i64 0,.int .i64 c]))
set_option maxRecDepth 100000 in
set_option maxHeartbeats 1600000 in
theorem run_any {t:Tm} {tb g cap:Nat} {xs:List Rat} {F:Nat} {w:World} (hw:t.wf) (ht:TmIs (fun k=>k < w.heap.size) w tb t) (h:LIs w g cap xs) (hl:xs.length ≤ 12) (hF:F ≤ 5000) :
  Calls Tryz.prog 26 #[.pointer (some ⟨tb,0,none⟩),.slice (some ⟨g,0,none⟩) xs.length cap,.int .i64 (F:Int)] w fun e w'=>RunGot (t.run false xs F) (F:Int) e w' ∧ Below w.heap.size w w':=by
 obtain ⟨i0,hi0,hz0,hz1,hz2⟩:=info_parts Tryz.infoNumber
 have HM:=hide (MkIs.start w)
 have HNw:=hide (nrow_get (h.below ((Below.refl _ _).alloc (Nat.le_refl _) (.cells #[] 80))) (a:=0) xs (fun j hj=>by rw [Nat.zero_add]))
 have HLen:=hide (nrow_length xs)
 have HA:=hide h.small
 have HW:=hide hw
 have HTm:=hide ht
 obtain ⟨r,hr⟩:∃ r,r = t.run false xs F:=⟨_,rfl⟩
 rw [← hr]
 have HR:=hide hr
 have hl12:xs.length ≤ 12:=hl
 clear hw ht h hr
 go_enter Tryz.func26,Tryz.ntmps26
 go_upto_region 1 with fail
 go_cut [9] (fun v9 wx=>∃ rb g' cap',v9 = .pointer (some ⟨rb,0,none⟩) ∧ w.heap.size ≤ rb ∧ RunIs wx rb g' cap' xs F ∧ Below w.heap.size w wx)
 case first=>
  by_cases h0:xs.length = 0
  ·obtain rfl:xs = []:=List.eq_nil_of_length_eq_zero h0
   clear h0
   go_wp2_with fail
   go_meet
   have hm:=unhide HM
   have hl:LIs (w.alloc (.cells #[] 80)) w.heap.size 0 []:=⟨owns_base hm.own (Nat.zero_le _),fun _ h=>by (cases h),by simp⟩
   refine ⟨w.heap.size + 1,w.heap.size,0,rfl,Nat.le_succ _,⟨new_at2P w _ _,hl.below (box_below _ _),hF,by simp⟩,(box_below w _).trans ((box_below _ _).mono (by simp))⟩
  ·go_wp2_with (at_builtin;refine wpList_append_own _ rfl _ _ 59 rfl w.heap.size 80 i0 _ 2 16 Tryz.underlying59 hi0 hz0 hz1 hz2 rfl (by decide) _ _ _ rfl (unhide HM).own ⟨g,0,none⟩ xs.length cap (nrow xs) rfl (unhide HLen) (unhide HNw) (one_nrow _) (by unfold maxLen;simp;omega) (by simp;omega) (by simp) ?_)
   intro v' w4 hown4 hgr4 hnn
   obtain ⟨g4,cp4,rfl⟩:∃ g4 cp4,v' = .slice (some ⟨g4,0,none⟩) xs.length cp4:=owns_some hown4 hnn
   have hown5:w4.ownsRow w.heap.size 80 2 (.slice (some ⟨g4,0,none⟩) xs.length cp4) xs.length (nrow xs):=hown4
   have HO:=hide hown5
   have hb4:=(unhide HM).grow hgr4
   have HB4:=hide hb4
   clear hown4 hgr4 hnn hown5 hb4
   go_wp2_with fail
   go_meet
   have hl:LIs w4 g4 cp4 xs:=⟨owns_base (unhide HO) (Nat.zero_le _),unhide HA,by omega⟩
   exact ⟨w4.heap.size,g4,cp4,rfl,(unhide HB4).size,⟨heap_alloc_new w4 _,hl.below (box_below _ _),hF,hl12⟩,(unhide HB4).alloc (unhide HB4).size _⟩
 case rest=>
  obtain ⟨rb,g',cap',rfl,hrb,hrun,hbc⟩:=hcut
  have HRun:=hide hrun
  have HBc:=hide hbc
  have HTc:=hide ((unhide HTm).belowS hbc)
  clear hrun hbc
  go_wp2_with fail
  refine ((runs_all F).1 t tb rb g' cap' xs _ (unhide HW) (unhide HTc) (unhide HRun)).mono ?_
  rintro e w2 ⟨hg,hb2⟩
  have HB2:=hide ((unhide HBc).trans (hb2.below (unhide HBc).size hrb))
  clear hb2
  rcases hg with ⟨l2,f2,g2,cap2,hres,rfl,hrun2⟩ | ⟨c,hres,hne,rfl⟩
  ·have HE:=hide (show r = .ok l2 f2 by rw [unhide HR];exact hres)
   have s0:w2.cell? ⟨rb,0,none⟩ = some (.slice (some ⟨g2,0,none⟩) l2.length cap2):=blk_cell hrun2.blk 0
   have s1:w2.cell? ⟨rb,1,none⟩ = some (.int .i64 (f2:Int)):=blk_cell hrun2.blk 1
   have hf2:=hrun2.fuel
   have HL:=hide hrun2.lis
   clear hres hrun2
   go_upto_region 5 with fail
   go_quiet (fail)
   go_wp2_with fail
   exact bodyPost_ret (v:=.tuple #[.slice (some ⟨g2,0,none⟩) l2.length cap2,.int .i64 ((F:Int) - (f2:Int)),.int .i64 0]) (by simp [results,Tryz.results26,go_sem]) rfl ⟨Or.inl ⟨l2,f2,g2,cap2,unhide HE,rfl,(unhide HL).below (below_dr (Below.refl _ _) _)⟩,below_dr (unhide HB2) _⟩
  ·have HE:=hide (show r = .err c by rw [unhide HR];exact hres)
   have hne':(c != 0) = true:=by rw [bne_iff_ne];exact hne
   have HNe:=hide hne
   clear hres hne
   go_wp2_with fail
   exact bodyPost_ret (v:=.tuple #[.slice none 0 0,.int .i64 0,.int .i64 c]) (by simp [results,Tryz.results26,go_sem]) rfl ⟨Or.inr ⟨c,unhide HE,unhide HNe,rfl⟩,unhide HB2⟩
set_option maxRecDepth 100000 in
set_option maxHeartbeats 1600000 in
theorem apply_any {env : Env} (s ls : ByteArray) (fuel : Int) {xb : Nat} {nm : Nat → Option Nat} (w : World) (h : SesIs w xb nm env) (ht : Tab w) (hls : ls.size ≤ 9223372036854775807) :
    Calls Tryz.prog 14 #[.pointer (some ⟨xb, 0, none⟩), .string s, .string ls, .int .i64 fuel] w fun e w' => ∃ (r : List UInt8) (n c : Int), e = .returned (.tuple #[.string ⟨r.toArray⟩, .int .i64 n, .int .i64 c]) ∧ ApplySays env s.data.toList ls.data.toList fuel r n c ∧ Below w.heap.size w w' := by
  have hblk := h.blk
  have H := hide h
  have HT := hide ht
  clear h ht
  go_enter Tryz.func14, Tryz.ntmps14
  go_wp2_with (refine wpList_load_row rfl 46 _ rfl xb rfl 48 (ncells nm) (0, 0) _ hblk Tryz.underlying46 rfl Tryz.infoNames ?_)
  refine (tRead_any (unhide H).env s nm _ (unhide H).names).mono ?_
  rintro e w1 ⟨⟨c, hc, rfl⟩ | ⟨t, tb, hg, htm, rfl⟩, hb1⟩
  · have HC := hide hc
    have HB1 := hide hb1
    have hne : (c != 0) = true := by rw [bne_iff_ne]; exact hc.ne
    clear hc hb1 hblk
    go_wp2_with fail
    exact bodyPost_ret (v := .tuple #[.string ⟨#[]⟩, .int .i64 0, .int .i64 c]) (by simp [results, Tryz.results14, go_sem]) rfl ⟨[], 0, c, rfl, Or.inl ⟨unhide HC, rfl, rfl⟩, unhide HB1⟩
  · have HG := hide hg
    have HB1 := hide hb1
    have HTm := hide htm
    clear hg hb1 htm hblk
    go_wp2_with fail
    refine (listsRead_any ls _ hls).mono ?_
    rintro e w2 ⟨hl, hb2⟩
    have HB2 := hide ((unhide HB1).trans (hb2.mono (unhide HB1).size))
    have HTm2 := hide ((unhide HTm).belowS hb2)
    clear hb2
    rcases hl with ⟨l, g, cap, hl, rfl, hown⟩ | ⟨hno, rfl⟩
    · have HL := hide hl
      have HLi := hide (show LIs w2 g cap l from ⟨owns_base hown (Nat.zero_le _), hl.small, by have := hl.len; omega⟩)
      have hl12 := hl.len
      clear hl hown
      by_cases hf : fuel < 0 ∨ 5000 < fuel
      · have HF := hide hf
        rcases hf with hf | hf
        · go_wp2_with fail
          exact bodyPost_ret (v := .tuple #[.string ⟨#[]⟩, .int .i64 0, .int .i64 9]) (by simp [results, Tryz.results14, go_sem]) rfl ⟨[], 0, 9, rfl, Or.inr ⟨t, unhide HG, Or.inr ⟨l, unhide HL, Or.inl ⟨unhide HF, rfl, rfl, rfl⟩⟩⟩, unhide HB2⟩
        · have hf0 : ¬ fuel < 0 := by omega
          go_wp2_with fail
          exact bodyPost_ret (v := .tuple #[.string ⟨#[]⟩, .int .i64 0, .int .i64 9]) (by simp [results, Tryz.results14, go_sem]) rfl ⟨[], 0, 9, rfl, Or.inr ⟨t, unhide HG, Or.inr ⟨l, unhide HL, Or.inl ⟨unhide HF, rfl, rfl, rfl⟩⟩⟩, unhide HB2⟩
      · obtain ⟨F, rfl⟩ : ∃ F : Nat, fuel = (F : Int) := ⟨fuel.toNat, by omega⟩
        have hf1 : ¬ (F : Int) < 0 := by omega
        have hf2 : ¬ (5000 : Int) < (F : Int) := by omega
        clear hf
        go_wp2_with fail
        refine (run_any (unhide HG).term.wf (unhide HTm2) (unhide HLi) hl12 (by omega)).mono ?_
        rintro e w3 ⟨hr, hb3⟩
        have HB3 := hide ((unhide HB2).trans (hb3.mono (unhide HB2).size))
        clear hb3
        rcases hr with ⟨l', f', g', cap', hres, rfl, hli⟩ | ⟨c, hres, hne, rfl⟩
        · have HSay := hide (show ApplySays env s.data.toList ls.data.toList (F : Int) (listText l') ((F : Int) - (f' : Int)) 0 from Or.inr ⟨t, unhide HG, Or.inr ⟨l, unhide HL, Or.inr ⟨by omega, by omega, by rw [show ((F : Int)).toNat = F from rfl, hres]; exact ⟨rfl, rfl, rfl⟩⟩⟩⟩)
          have HLi3 := hide hli
          have hll : (listText l').length ≤ 23000 := by
            have h1 := listText_len hli.small
            have h2 := hli.len
            omega
          clear hres hli
          go_wp2_with fail
          refine (listsText_any (unhide HLi3) (tab_below (unhide HT) (unhide HB3))).mono ?_
          rintro e w4 ⟨rfl, hb4⟩
          have HB4 := hide ((unhide HB3).trans (hb4.mono (unhide HB3).size))
          clear hb4
          go_wp2_with fail
          exact bodyPost_ret (v := .tuple #[.string ⟨(listText l').toArray⟩, .int .i64 ((F : Int) - (f' : Int)), .int .i64 0]) (by simp [results, Tryz.results14, go_sem]) rfl ⟨listText l', _, 0, rfl, unhide HSay, unhide HB4⟩
        · have HSay := hide (show ApplySays env s.data.toList ls.data.toList (F : Int) [] 0 c from Or.inr ⟨t, unhide HG, Or.inr ⟨l, unhide HL, Or.inr ⟨by omega, by omega, by rw [show ((F : Int)).toNat = F from rfl, hres]; exact ⟨rfl, rfl, rfl⟩⟩⟩⟩)
          have hne' : (c != 0) = true := by rw [bne_iff_ne]; exact hne
          clear hres hne
          go_wp2_with fail
          exact bodyPost_ret (v := .tuple #[.string ⟨#[]⟩, .int .i64 0, .int .i64 c]) (by simp [results, Tryz.results14, go_sem]) rfl ⟨[], 0, c, rfl, unhide HSay, unhide HB3⟩
    · have HNo := hide hno
      clear hno
      go_wp2_with fail
      exact bodyPost_ret (v := .tuple #[.string ⟨#[]⟩, .int .i64 0, .int .i64 8]) (by simp [results, Tryz.results14, go_sem]) rfl ⟨[], 0, 8, rfl, Or.inr ⟨t, unhide HG, Or.inl ⟨unhide HNo, rfl, rfl, rfl⟩⟩, unhide HB2⟩
set_option maxRecDepth 100000 in
set_option maxHeartbeats 1600000 in
theorem asked_run {w:World} {xb rb:Nat} {nm:Nat → Option Nat} {v:Value} {ds:List D} (hs:SesIs w xb nm (envOf ds)) (hr:RSes w rb v ds) (hl:ds.length ≤ maxLen) (ht:Tab w) (On Aa:Int) (S X:ByteArray) (hX:X.size ≤ 9223372036854775807) :
  Calls Tryz.prog 31 #[.agg #[.pointer (some ⟨xb,0,none⟩),.pointer (some ⟨rb,0,none⟩)],.agg #[.int .i64 9,.int .i64 On,.int .i64 Aa,.string S,.string X]] w fun e w'=>e = .returned (.bool true) ∧ Below w.heap.size w w':=by
 have HS:=hide hs
 have HR:=hide hr
 have HT:=hide ht
 clear hs hr ht
 go_enter Tryz.func31,Tryz.ntmps31
 go_wp2_with fail
 have hb0:Below w.heap.size w ((w.alloc (.cells #[.pointer (some ⟨xb,0,none⟩),.pointer (some ⟨rb,0,none⟩)] 70)).alloc (.cells #[.int .i64 9,.int .i64 On,.int .i64 Aa,.string S,.string X] 73)):=((Below.refl _ _).alloc (Nat.le_refl _) _).alloc (by simp) _
 refine (apply_any S X Aa _ ((unhide HS).below hb0) (tab_below (unhide HT) hb0) hX).mono ?_
 rintro e w1 ⟨r,n,c,rfl,hf,hb1⟩
 have c0:w1.cell? ⟨w.heap.size,1,none⟩ = some (.pointer (some ⟨rb,0,none⟩)):=(hb1.cell (p:=⟨w.heap.size,1,none⟩) (by simp;omega)).trans (by simp [go_sem])
 have c1:w1.cell? ⟨w.heap.size + 1,2,none⟩ = some (.int .i64 Aa):=(hb1.cell (p:=⟨w.heap.size + 1,2,none⟩) (by simp)).trans (by simp [go_sem])
 have c2:w1.cell? ⟨w.heap.size + 1,3,none⟩ = some (.string S):=(hb1.cell (p:=⟨w.heap.size + 1,3,none⟩) (by simp)).trans (by simp [go_sem])
 have c3:w1.cell? ⟨w.heap.size + 1,4,none⟩ = some (.string X):=(hb1.cell (p:=⟨w.heap.size + 1,4,none⟩) (by simp)).trans (by simp [go_sem])
 have HF:=hide hf
 have HB1:=hide (hb0.trans (hb1.mono hb0.size))
 clear hf hb1 hb0
 go_wp2_with fail
 refine (rApply_any S X Aa _ ((unhide HR).below (unhide HB1)) hl hX).mono ?_
 rintro e w2 ⟨r',n',c',rfl,hf',hb2⟩
 obtain ⟨rfl,rfl,rfl⟩:=(unhide HF).unique hf'
 have HB2:=hide ((unhide HB1).trans (hb2.mono (unhide HB1).size))
 clear hf' hb2 c0 c1 c2 c3 HF
 go_wp2_with fail
 refine (tnum_any c _).mono ?_
 rintro e w3 ⟨rfl,rfl⟩
 go_wp2_with fail
 go_ret
 exact ⟨rfl,unhide HB2⟩
theorem asked_dr {n0 m:Nat} {w:World} {ts:List Twn} (h:Tws n0 m w ts) (hn:n0 ≤ w.heap.size) (hm:(m + 1) * 32 ≤ 140737488355328) (ht:Tab w) {j:Nat} (hj:j < ts.length) (K On Aa:Int) (S X:ByteArray) (hX:X.size ≤ 9223372036854775807) (h1:K = 6 ∨ K = 9) :
  Calls Tryz.prog 31 #[.agg #[.pointer (some ⟨ts[j].xb,0,none⟩),.pointer (some ⟨ts[j].rb,0,none⟩)],.agg #[.int .i64 K,.int .i64 On,.int .i64 Aa,.string S,.string X]] w fun e w'=>e = .returned (.bool true) ∧ AskGot n0 m ts w w':=by
 have hJ:=h.one j hj
 have hl2:(ts[j].ds.length + 1) * 32 ≤ 140737488355328:=by have:=hJ.len;omega
 rcases h1 with rfl | rfl
 ·refine (asked_def hJ.ses hJ.ref hl2 On Aa S X).mono ?_
  rintro e w' ⟨rfl,w0,w1,nm',v',ds',hb0,hs1,hb1,hp⟩
  have h0:=h.below hb0
  have hJ0:=h0.one j hj
  have hR1:RSes w1 ts[j].rb ts[j].v ts[j].ds:=hJ0.ref.but hJ0.ses.blk hb1
  have s0:n0 ≤ w0.heap.size:=Nat.le_trans hn hb0.size
  refine ⟨rfl,_,h0.define hj hs1 hb1 hp,trow_set ts j hj _ rfl,List.length_set,?_,?_⟩
  ·exact (hb0.mono hn).trans ((hb1.below s0 hJ.nx).trans (hp.chg.below (Nat.le_trans s0 hb1.size) hJ.nr hJ.nv))
  ·exact (KeepT.below hb0).trans ((KeepT.but hJ0.ses.blk hb1).trans (KeepT.chg hR1 hp.chg))
 ·refine (asked_run hJ.ses hJ.ref (by have:=hJ.len;unfold maxLen;omega) ht On Aa S X hX).mono ?_
  rintro e w' ⟨rfl,hb⟩
  exact ⟨rfl,AskGot.below h hn hb⟩
structure OpC where
 K:Int
 On:Int
 A:Int
 S:ByteArray
 X:ByteArray
structure ScIs (w:World) (n0:Nat) (ao:Option Addr) (n:Nat) (os:Nat → OpC):Prop where
 some:0 < n → ∃ a,ao = some a ∧ a.block < n0 ∧ ∀ i,i < n → w.cell? (a.add (i * 5)) = some (.int .i64 (os i).K) ∧ w.cell? ⟨(a.add (i * 5)).block,(a.add (i * 5)).off + 1,none⟩ = some (.int .i64 (os i).On) ∧ w.cell? ⟨(a.add (i * 5)).block,(a.add (i * 5)).off + 2,none⟩ = some (.int .i64 (os i).A) ∧ w.cell? ⟨(a.add (i * 5)).block,(a.add (i * 5)).off + 3,none⟩ = some (.string (os i).S) ∧ w.cell? ⟨(a.add (i * 5)).block,(a.add (i * 5)).off + 4,none⟩ = some (.string (os i).X)
 wf:∀ i,i < n → -9223372036854775808 ≤ (os i).On ∧ (os i).On ≤ 9223372036854775807
theorem Tryz.infoTwin:(Tryz.prog.info? 70).map (fun i=>(i.zero,i.size,i.bytes)) = some (some (.agg #[.pointer none,.pointer none]),2,16):=by kernel_rfl
theorem one_twin (t:Twn):∀ u ∈ t.cells,u.oneCell' = true:=by
 intro u hu
 simp only [Twn.cells,List.mem_cons,List.not_mem_nil,or_false] at hu
 rcases hu with rfl | rfl <;> rfl
structure PlIs (w0:World) (i:Nat) (v:Value) (ts:List Twn) (wr:World):Prop where
 own:wr.ownsRow w0.heap.size 70 2 v ts.length (trow ts)
 tws:Tws w0.heap.size i wr ts
 ne:1 ≤ ts.length
 le:ts.length ≤ i + 1
 bel:Below w0.heap.size w0 wr
theorem owns_keept {w w':World} {B:Nat} {v:Value} {n:Nat} {xs:List Value} (h:w.ownsRow B 70 2 v n xs) (hk:KeepT w w'):w'.ownsRow B 70 2 v n xs:=by
 refine ⟨h.1,?_⟩
 rcases h.2 with h2 | ⟨g,cap,cur,hv,hg,hh,r⟩
 ·exact Or.inl h2
 ·exact Or.inr ⟨g,cap,cur,hv,hg,by rw [hk g _ _ hh (Or.inl rfl)];exact hh,r⟩
theorem PlIs.below {w0 wr wr':World} {i:Nat} {v:Value} {ts:List Twn} (h:PlIs w0 i v ts wr) (hb:Below wr.heap.size wr wr'):PlIs w0 i v ts wr' :=
 ⟨owns_keept h.own (KeepT.below hb),h.tws.below hb,h.ne,h.le,h.bel.trans (hb.mono h.bel.size)⟩
theorem PlIs.mono {w0 wr:World} {i:Nat} {v:Value} {ts:List Twn} (h:PlIs w0 i v ts wr):PlIs w0 (i + 1) v ts wr:=⟨h.own,h.tws.mono (Nat.le_succ _),h.ne,Nat.le_succ_of_le h.le,h.bel⟩
theorem PlIs.ask {w0 wr wr':World} {i:Nat} {v:Value} {ts:List Twn} (h:PlIs w0 i v ts wr) (ha:AskGot w0.heap.size i ts wr wr'):∃ ts',PlIs w0 (i + 1) v ts' wr':=by
 obtain ⟨ts',h1,h2,h3,h4,h5⟩:=ha
 exact ⟨ts',by rw [h3,h2];exact owns_keept h.own h5,h1,by rw [h3];exact h.ne,by rw [h3];exact Nat.le_succ_of_le h.le,h.bel.trans h4⟩
theorem PlIs.start (w:World):PlIs w 0 (.slice (some ⟨w.heap.size + 2,0,none⟩) 1 1) [freshTw w.heap.size] (((w.alloc (.cells (ncells fun _=>none) 48)).alloc (.cells #[.slice none 0 0] 94)).alloc (.cells #[.pointer (some ⟨w.heap.size,0,none⟩),.pointer (some ⟨w.heap.size + 1,0,none⟩)] 70)):=by
 have h0:Tws w.heap.size 0 w []:=⟨fun j hj=>absurd hj (Nat.not_lt_zero j),fun i j hi=>absurd hi (Nat.not_lt_zero i)⟩
 have h1:=h0.fresh (Nat.le_refl _)
 have hb:Below w.heap.size w ((w.alloc (.cells (ncells fun _=>none) 48)).alloc (.cells #[.slice none 0 0] 94)):=((Below.refl _ _).alloc (Nat.le_refl _) _).alloc (by simp) _
 refine ⟨⟨rfl,Or.inr ⟨w.heap.size + 2,1,#[.pointer (some ⟨w.heap.size,0,none⟩),.pointer (some ⟨w.heap.size + 1,0,none⟩)],rfl,by omega,?_,Nat.le_refl _,by decide,rfl,rfl⟩⟩,h1.below ((Below.refl _ _).alloc (Nat.le_refl _) _),Nat.le_refl _,Nat.le_refl _,hb.alloc (by simp;omega) _⟩
 have:=heap_alloc_new ((w.alloc (.cells (ncells fun _=>none) 48)).alloc (.cells #[.slice none 0 0] 94)) (.cells #[.pointer (some ⟨w.heap.size,0,none⟩),.pointer (some ⟨w.heap.size + 1,0,none⟩)] 70)
 rw [World.size_alloc,World.size_alloc] at this
 exact this
theorem PlIs.shape {w0 wr:World} {i:Nat} {v:Value} {ts:List Twn} (h:PlIs w0 i v ts wr):∃ g cp,v = .slice (some ⟨g,0,none⟩) ts.length cp:=owns_some h.own (by
 intro e
 have h1:=h.own
 rw [e] at h1
 have:=owns_len h1
 have:=h.ne
 omega)
theorem PlIs.more {w0 wr w4:World} {i:Nat} {v v':Value} {ts:List Twn} (h:PlIs w0 i v ts wr) {c:Array Value} (ho:w4.ownsRow w0.heap.size 70 2 v' (ts.length + 1) (trow ts ++ (freshTw wr.heap.size).cells)) (hg:(((wr.alloc (.cells (ncells fun _=>none) 48)).alloc (.cells #[.slice none 0 0] 94)).alloc (.cells c 70)).grownBy w4 v.ownBlock) :
  PlIs w0 (i + 1) v' (ts ++ [freshTw wr.heap.size]) w4:=by
 have h1:=h.tws.fresh h.bel.size
 have h2:=h1.below ((Below.refl _ _).alloc (Nat.le_refl _) (.cells c 70))
 have hb:Below wr.heap.size wr (((wr.alloc (.cells (ncells fun _=>none) 48)).alloc (.cells #[.slice none 0 0] 94)).alloc (.cells c 70)):=(((Below.refl _ _).alloc (Nat.le_refl _) _).alloc (by simp) _).alloc (by simp;omega) _
 have hv:∀ g,v.ownBlock = some g → w0.heap.size ≤ g ∧ ∃ cc,wr.heap[g]? = some (.cells cc 70 (0,0)):=fun g hgv=>by
  rcases h.own.2 with ⟨e,_⟩ | ⟨g',cap,cur,e,hb',hh,_⟩
  ·rw [e] at hgv;cases hgv
  ·rw [e] at hgv;cases hgv;exact ⟨hb',cur,hh⟩
 refine ⟨by rw [List.length_append,← trow_snoc];exact ho,?_,by simp,by have:=h.le;simp;omega,?_⟩
 ·refine (h2.other hg.size (fun k x ty hk hty=>hg.block k (lt_of_block hk) (fun e=>?_))).mono (Nat.le_succ _)
  obtain ⟨_,cc,hcc⟩:=hv k e.symm
  have:=hb.block k (lt_of_block hcc)
  rw [hcc] at this
  exact hty (blk_ty hk this)
 ·have hb0:=h.bel.trans (hb.mono h.bel.size)
  exact ⟨hg.os.trans hb0.os,hg.tape.trans hb0.tape,hg.output.trans hb0.output,Nat.le_trans hb0.size hg.size,fun k hk=>(hg.block k (Nat.lt_of_lt_of_le hk hb0.size) (fun e=>by have:=(hv k e.symm).1;omega)).trans (hb0.block k hk)⟩
theorem PlIs.more' {w0 wr w4:World} {i:Nat} {v v':Value} {ts:List Twn} (h:PlIs w0 i v ts wr) {c:Array Value} {n1:Nat} (e:wr.heap.size = n1) (ho:w4.ownsRow w0.heap.size 70 2 v' (ts.length + 1) (trow ts ++ (freshTw n1).cells)) (hg:(((wr.alloc (.cells (ncells fun _=>none) 48)).alloc (.cells #[.slice none 0 0] 94)).alloc (.cells c 70)).grownBy w4 v.ownBlock) :
  PlIs w0 (i + 1) v' (ts ++ [freshTw n1]) w4:=by
 subst e
 exact h.more ho hg
theorem news_at {w:World} {k:Nat} (e:w.heap.size = k) (c:List Value) (t:TypeId):∀ j u,c[j]? = some u → (w.alloc (.cells c.toArray t)).cell? ((⟨k,0,none⟩:Addr).add j) = some u:=by
 subst e
 exact news_alloc w c t
theorem ask_cells {n0 m:Nat} {ts:List Twn} {w w':World} (h:AskGot n0 m ts w w') {k:Nat} {c:Array Value} {ty:TypeId} (hk:w.heap[k]? = some (.cells c ty (0,0))) (ht:ty = 70 ∨ ty = 73):∀ o,w'.cell? ⟨k,o,none⟩ = w.cell? ⟨k,o,none⟩:=fun o=>by
 obtain ⟨_,_,_,_,_,hk'⟩:=h
 exact World.cell?_of_block (a:=⟨k,o,none⟩) (hk' k c ty hk ht)
theorem owns_blk {w:World} {B:Nat} {e:TypeId} {size:Nat} {g n cap:Nat} {m:Nat} {xs:List Value} (h:w.ownsRow B e size (.slice (some ⟨g,0,none⟩) n cap) m xs):∃ c,w.heap[g]? = some (.cells c e (0,0)):=by
 rcases h.2 with ⟨h2,_⟩ | ⟨g',cap',cur,hv,_,hh,_⟩
 ·cases h2
 ·cases hv;exact ⟨cur,hh⟩
theorem trow_cell {w:World} {B:Nat} {g n cap:Nat} {ts:List Twn} (h:w.ownsRow B 70 2 (.slice (some ⟨g,0,none⟩) n cap) ts.length (trow ts)) {j:Nat} (hj:j < ts.length):w.cell? ⟨g,j * 2,none⟩ = some (.pointer (some ⟨ts[j].xb,0,none⟩)) ∧ w.cell? ⟨g,j * 2 + 1,none⟩ = some (.pointer (some ⟨ts[j].rb,0,none⟩)):=by
 have key:∀ (ys:List Twn) (j:Nat) (hj:j < ys.length),(trow ys)[j * 2]? = some (.pointer (some ⟨ys[j].xb,0,none⟩)) ∧ (trow ys)[j * 2 + 1]? = some (.pointer (some ⟨ys[j].rb,0,none⟩)):=by
  intro ys
  induction ys with
  | nil=>intro j hj;simp at hj
  | cons y ys ih=>
   intro j hj
   have e:trow (y :: ys) = .pointer (some ⟨y.xb,0,none⟩) :: .pointer (some ⟨y.rb,0,none⟩) :: trow ys:=rfl
   cases j with
   | zero=>rw [e];exact ⟨rfl,rfl⟩
   | succ j=>
    rw [e,show (j + 1) * 2 = j * 2 + 1 + 1 by omega,show j * 2 + 1 + 1 + 1 = (j * 2 + 1) + 1 + 1 by omega]
    simp only [List.getElem?_cons_succ,List.getElem_cons_succ]
    exact ih j (by simpa using hj)
 have k:=key ts j hj
 have a1:=h.cells (g:=g) rfl (j * 2) _ k.1
 have a2:=h.cells (g:=g) rfl (j * 2 + 1) _ k.2
 rw [show (⟨g,0,none⟩:Addr).add (j * 2) = ⟨g,j * 2,none⟩ from by unfold Addr.add;split <;> simp_all] at a1
 rw [show (⟨g,0,none⟩:Addr).add (j * 2 + 1) = ⟨g,j * 2 + 1,none⟩ from by unfold Addr.add;split <;> simp_all] at a2
 exact ⟨a1,a2⟩
def OpLens (n:Nat) (os:Nat → OpC):Prop:=∀ i,i < n → (os i).S.size ≤ 9223372036854775807 ∧ (os i).X.size ≤ 9223372036854775807
theorem ask_step9 {w wr:World} {i g cp:Nat} {ts:List Twn} (hpl:PlIs w i (.slice (some ⟨g,0,none⟩) ts.length cp) ts wr) (K On Aa:Int) (S X:ByteArray) (hX:X.size ≤ 9223372036854775807) (hm:(i + 1) * 32 ≤ 140737488355328) (ht:Tab w) {j:Nat} (hj:j < ts.length) (h69:K = 6 ∨ K = 9) :
  Calls Tryz.prog 31 #[.agg #[.pointer (some ⟨ts[j].xb,0,none⟩),.pointer (some ⟨ts[j].rb,0,none⟩)],.agg #[.int .i64 K,.int .i64 On,.int .i64 Aa,.string S,.string X]] (wr.alloc (.cells #[.int .i64 K,.int .i64 On,.int .i64 Aa,.string S,.string X] 73)).drew fun e w'=>e = .returned (.bool true) ∧ AskGot w.heap.size i ts (wr.alloc (.cells #[.int .i64 K,.int .i64 On,.int .i64 Aa,.string S,.string X] 73)).drew w' ∧ (∀ o,w'.cell? ⟨wr.heap.size,o,none⟩ = (#[.int .i64 K,.int .i64 On,.int .i64 Aa,.string S,.string X]:Array Value)[o]?) ∧ ∀ o,w'.cell? ⟨g,o,none⟩ = wr.cell? ⟨g,o,none⟩:=by
 have hpd:PlIs w i (.slice (some ⟨g,0,none⟩) ts.length cp) ts (wr.alloc (.cells #[.int .i64 K,.int .i64 On,.int .i64 Aa,.string S,.string X] 73)).drew:=hpl.below (Below.drew ((Below.refl _ _).alloc (Nat.le_refl _) _))
 refine (asked_dr hpd.tws hpd.bel.size hm (tab_below ht hpd.bel) hj K On Aa S X hX h69).mono ?_
 rintro e w' ⟨rfl,h2⟩
 refine ⟨rfl,h2,fun o=>?_,fun o=>?_⟩
 ·have hh:(wr.alloc (.cells #[.int .i64 K,.int .i64 On,.int .i64 Aa,.string S,.string X] 73)).drew.heap[wr.heap.size]? = some (.cells #[.int .i64 K,.int .i64 On,.int .i64 Aa,.string S,.string X] 73 (0,0)):=heap_alloc_new wr _
  rw [ask_cells h2 hh (Or.inr rfl) o]
  exact blk_cell hh o
 ·obtain ⟨c,hc⟩:=owns_blk hpl.own
  have hh:(wr.alloc (.cells #[.int .i64 K,.int .i64 On,.int .i64 Aa,.string S,.string X] 73)).drew.heap[g]? = some (.cells c 70 (0,0)):=(Below.heap_alloc wr _ _ (lt_of_block hc)).trans hc
  rw [ask_cells h2 hh (Or.inl rfl) o,blk_cell hh o,blk_cell hc o]
end Go.Proofs.YtikiaijgcjjloabGreatDoor

namespace Go.Proofs.YtikiaijgcjjloabGreatDoor
open Go Go.RowKit M Go.Lib
set_option maxRecDepth 100000 in
set_option maxHeartbeats 400000 in
theorem rOver_any (s:ByteArray) (w:World) (hs:s.size ≤ maxLen) :
  Calls Tryz.prog 75 #[.string s] w fun e w'=>Ans1 OverF s e ∧ Below w.heap.size w w':=by
 go_enter Tryz.func75,Tryz.ntmps75
 go_wp2_with fail
 refine (RRead_any s _ hs).mono ?_
 rintro e w1 ⟨⟨t,b,hn,rfl⟩ | ⟨hn,p,q,rfl⟩,hb1⟩
 ·have HN:=hide hn
  have i1:=hn.lo;have i2:=hn.hi;have i3:=hn.b1;have i4:=hn.b2
  clear hn
  go_wp2_with fail
  refine (rInv_any t b _ i1 i2 i3 i4).mono ?_
  rintro e w2 ⟨⟨h0,rfl⟩ | ⟨h0,rfl⟩,hb2⟩
  ·have H0:=hide h0
   clear h0
   go_wp2_with fail
   refine (told_err 0 1 2 _ rfl).mono ?_
   rintro e w3 ⟨rfl,hb3⟩
   go_wp2_with fail
   go_ret2
   exact ⟨⟨[],2,rfl,Or.inr ⟨t,b,unhide HN,Or.inl ⟨unhide H0,rfl,rfl⟩⟩⟩,(hb1.trans ((fl_two hb2).mono hb1.size)).trans ((fl_two hb3).mono (by have:=(fl_two hb2).size;have:=hb1.size;omega))⟩
  ·have H0:=hide h0
   clear h0
   obtain ⟨j1,j2,j3,j4⟩:=over_bd t b i1 i2 i3 i4 (unhide H0)
   go_wp2_with fail
   refine (told_ok (overP t b) (overQ t b) _ j1 j2 j3 j4).mono ?_
   rintro e w3 ⟨rfl,hb3⟩
   go_wp2_with fail
   go_ret2
   exact ⟨⟨_,0,rfl,Or.inr ⟨t,b,unhide HN,Or.inr ⟨unhide H0,rfl,rfl⟩⟩⟩,(hb1.trans ((fl_two hb2).mono hb1.size)).trans ((fl_two hb3).mono (by have:=(fl_two hb2).size;have:=hb1.size;omega))⟩
 ·have HN:=hide hn
  clear hn
  go_wp2_with fail
  go_ret2
  exact ⟨⟨[],1,rfl,Or.inl ⟨unhide HN,rfl,rfl⟩⟩,hb1.trans (((Below.refl _ _).alloc (Nat.le_refl _) _).mono hb1.size)⟩
set_option maxRecDepth 100000 in
set_option maxHeartbeats 400000 in
theorem Root_any (s:ByteArray) (w:World) (hs:s.size ≤ maxLen) (ht:Tab w) :
  Calls Tryz.prog 76 #[.string s] w fun e w'=>Ans1 RootF s e ∧ Below w.heap.size w w':=by
 have HT:=hide ht
 clear ht
 go_enter Tryz.func76,Tryz.ntmps76
 go_wp2_with fail
 refine (Read_any s _ hs).mono ?_
 rintro e w1 ⟨⟨t,b,hn,rfl⟩ | ⟨hn,rfl⟩,hb1⟩
 ·have HN:=hide hn
  have i1:=hn.lo;have i2:=hn.hi;have i3:=hn.b1;have i4:=hn.b2
  clear hn
  go_wp2_with fail
  refine (nRoot_any t b _ i1 i2 i3 i4).mono ?_
  rintro e w2 ⟨⟨x,y,hx,hy,rfl⟩ | ⟨h0,rfl⟩,hb2⟩
  ·have HX:=hide hx
   have HY:=hide hy
   have j2:=sq_bound x t i2 (by omega)
   have j4:=sq_bound y b i4 (by omega)
   have j3:=root_pos y b hy i3
   clear hx hy
   go_wp2_with fail
   refine (write_ok x y _ (by omega) (by omega) (by omega) (by omega) (tab_alloc (tab_below (tab_below (unhide HT) hb1) (fl_two hb2)) _)).mono ?_
   rintro e w3 ⟨rfl,hb3⟩
   go_wp2_with fail
   go_ret2
   exact ⟨⟨_,0,rfl,Or.inr ⟨t,b,unhide HN,Or.inl ⟨x,y,unhide HX,unhide HY,rfl,rfl⟩⟩⟩,(hb1.trans ((fl_two hb2).mono hb1.size)).trans ((fl_two hb3).mono (by have:=(fl_two hb2).size;have:=hb1.size;omega))⟩
  ·have H0:=hide h0
   clear h0
   go_wp2_with fail
   refine (write_err 0 0 2 _ rfl).mono ?_
   rintro e w3 ⟨rfl,hb3⟩
   go_wp2_with fail
   go_ret2
   exact ⟨⟨[],2,rfl,Or.inr ⟨t,b,unhide HN,Or.inr ⟨unhide H0,rfl,rfl⟩⟩⟩,(hb1.trans ((fl_two hb2).mono hb1.size)).trans ((fl_two hb3).mono (by have:=(fl_two hb2).size;have:=hb1.size;omega))⟩
 ·have HN:=hide hn
  clear hn
  go_wp2_with fail
  go_ret2
  exact ⟨⟨[],1,rfl,Or.inl ⟨unhide HN,rfl,rfl⟩⟩,hb1.trans (((Below.refl _ _).alloc (Nat.le_refl _) _).mono hb1.size)⟩
set_option maxRecDepth 100000 in
set_option maxHeartbeats 400000 in
theorem rRoot_any (s:ByteArray) (w:World) (hs:s.size ≤ maxLen) :
  Calls Tryz.prog 77 #[.string s] w fun e w'=>Ans1 RootF s e ∧ Below w.heap.size w w':=by
 go_enter Tryz.func77,Tryz.ntmps77
 go_wp2_with fail
 refine (RRead_any s _ hs).mono ?_
 rintro e w1 ⟨⟨t,b,hn,rfl⟩ | ⟨hn,p,q,rfl⟩,hb1⟩
 ·have HN:=hide hn
  have i1:=hn.lo;have i2:=hn.hi;have i3:=hn.b1;have i4:=hn.b2
  clear hn
  go_wp2_with fail
  refine (rSqrt_any t b _ i2 i4).mono ?_
  rintro e w2 ⟨⟨x,y,hx,hy,rfl⟩ | ⟨h0,rfl⟩,hb2⟩
  ·have HX:=hide hx
   have HY:=hide hy
   have j2:=sq_bound x t i2 (by omega)
   have j4:=sq_bound y b i4 (by omega)
   have j3:=root_pos y b hy i3
   clear hx hy
   go_wp2_with fail
   refine (told_ok x y _ (by omega) (by omega) (by omega) (by omega)).mono ?_
   rintro e w3 ⟨rfl,hb3⟩
   go_wp2_with fail
   go_ret2
   exact ⟨⟨_,0,rfl,Or.inr ⟨t,b,unhide HN,Or.inl ⟨x,y,unhide HX,unhide HY,rfl,rfl⟩⟩⟩,(hb1.trans ((fl_two hb2).mono hb1.size)).trans ((fl_two hb3).mono (by have:=(fl_two hb2).size;have:=hb1.size;omega))⟩
  ·have H0:=hide h0
   clear h0
   go_wp2_with fail
   refine (told_err 0 1 2 _ rfl).mono ?_
   rintro e w3 ⟨rfl,hb3⟩
   go_wp2_with fail
   go_ret2
   exact ⟨⟨[],2,rfl,Or.inr ⟨t,b,unhide HN,Or.inr ⟨unhide H0,rfl,rfl⟩⟩⟩,(hb1.trans ((fl_two hb2).mono hb1.size)).trans ((fl_two hb3).mono (by have:=(fl_two hb2).size;have:=hb1.size;omega))⟩
 ·have HN:=hide hn
  clear hn
  go_wp2_with fail
  go_ret2
  exact ⟨⟨[],1,rfl,Or.inl ⟨unhide HN,rfl,rfl⟩⟩,hb1.trans (((Below.refl _ _).alloc (Nat.le_refl _) _).mono hb1.size)⟩
end Go.Proofs.YtikiaijgcjjloabGreatDoor

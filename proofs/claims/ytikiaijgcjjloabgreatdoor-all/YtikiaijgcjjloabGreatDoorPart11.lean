import Derived.Test.YtikiaijgcjjloabGreatDoorPart10

namespace Go.Proofs.YtikiaijgcjjloabGreatDoor
open Go Go.RowKit M T Go.Lib
theorem got_st8 {env:Env} {B0 rb:Nat} {s:ByteArray} {nm:Nat → Option Nat} {u:Bool} {l:List UInt8} {w wc w3:World} {x:PC} {ok:Bool} {b:Nat} {u':Bool} (hbw:But rb w wc) (hb3:But rb wc w3) (hsz:w.heap.size + 1 ≤ wc.heap.size) (hB:B0 ≤ w.heap.size) (hlt:rb < w.heap.size) (hb:b ≤ s.size) (h3:RS rb s nm b u' w3) (hcase:(ok = true ∧ ∃ p,RdP env.full l (some (p,rest s b)) ∧ PtIs (Okw B0 wc) w3 x p ∧ u' = (u || p.unk env)) ∨ (ok = false ∧ x = pc0 ∧ RdP env.full l none)) (v0 v1 v2 v3 v4 v5 v6 v7:Value) :
  But rb w (st8 w3 w.heap.size v0 v1 v2 v3 v4 v5 v6 v7) ∧ Got env (Okw B0 w) rb s nm u l (.returned (.tuple #[PC.value x,.bool ok])) (st8 w3 w.heap.size v0 v1 v2 v3 v4 v5 v6 v7):=by
 refine ⟨st8_but (hbw.trans hb3) (Nat.le_refl _) _ _ _ _ _ _ _ _,x,ok,b,u',rfl,hb,h3.st8 (by omega) _ _ _ _ _ _ _ _,?_⟩
 rcases hcase with ⟨h1,p,h2,h4,h5⟩ | h
 ·refine Or.inl ⟨h1,p,h2,PtIs.keeps (fun k hk _=>?_) p x h4,h5⟩
  have hne:k ≠ w.heap.size:=by rcases hk with hk | hk <;> omega
  exact ⟨st8_heap _ _ _ _ _ _ _ _ _ hne,hk.imp id (fun h=>by omega)⟩
 ·exact Or.inr h
theorem Got.lay {env:Env} {Ok:Nat → Prop} {rb:Nat} {s:ByteArray} {nm:Nat → Option Nat} {u:Bool} {l:List UInt8} {e:Ending} {w':World} (h:Got env Ok rb s nm u l e w'):∃ (L N:UInt8) (K Tp Bt:Int) (pa:Option Addr) (pn pc:Nat) (Bo Ov:Option Nat) (ok:Bool) (b:Nat) (u':Bool),e = .returned (.tuple #[.agg #[.int .u8 (L.toNat:Int),.int .u8 (N.toNat:Int),.int .i64 K,.int .i64 Tp,.int .i64 Bt,.slice pa pn pc,.pointer (Bo.map fun b=>⟨b,0,none⟩),.pointer (Ov.map fun b=>⟨b,0,none⟩)],.bool ok]) ∧ b ≤ s.size ∧ RS rb s nm b u' w' ∧ ((ok = true ∧ ∃ p,RdP env.full l (some (p,rest s b)) ∧ PtIs Ok w' ⟨L,N,K,Tp,Bt,pa,pn,pc,Bo,Ov⟩ p ∧ u' = (u || p.unk env)) ∨ (ok = false ∧ (⟨L,N,K,Tp,Bt,pa,pn,pc,Bo,Ov⟩:PC) = pc0 ∧ RdP env.full l none)):=by
 obtain ⟨⟨L,N,K,Tp,Bt,pa,pn,pc,Bo,Ov⟩,ok,b,u',he,hb,hr,hc⟩:=h
 exact ⟨L,N,K,Tp,Bt,pa,pn,pc,Bo,Ov,ok,b,u',he,hb,hr,hc⟩
def pcLet (c:UInt8):PC:=⟨c,0,0,0,0,none,0,0,none,none⟩
theorem let_is {Ok:Nat → Prop} {w:World} {x:Sp} (h:x.letter = true):PtIs Ok w (pcLet x.first) (.sp x):=by
 rw [PtIs]
 cases x <;> first | (cases h;done) | exact ⟨rfl,trivial⟩
theorem u8_ne {c d:UInt8} (h:c ≠ d):((c.toNat:Int) == (d.toNat:Int)) = false:=by
 rw [beq_eq_false_iff_ne]
 intro e
 exact h (UInt8.toNat_inj.1 (by omega))
theorem part_none (env:Env) {c:UInt8} (h110:c ≠ 110) (h118:c ≠ 118) (h97:c ≠ 97) (h113:c ≠ 113) (h119:c ≠ 119) (h117:c ≠ 117) (h114:c ≠ 114) (h115:c ≠ 115) (h122:c ≠ 122) (h112:c ≠ 112) (h109:c ≠ 109) (h111:c ≠ 111) (h43:c ≠ 43) (h42:c ≠ 42) (h61:c ≠ 61) (h60:c ≠ 60) (h116:c ≠ 116) (h100:c ≠ 100) (h35:c ≠ 35) (h40:c ≠ 40) (h91:c ≠ 91) (h:c.toNat < 65 ∨ 90 < c.toNat) (l:List UInt8):RdP env (c :: l) none:=by
 refine rdP_other env (fun x hx e=>?_) ⟨h43,h42,h61,h60,h116,h100,h35,h40,h91⟩ h l
 cases x <;> first
  | (cases hx;done)
  | (simp only [Sp.first] at e;subst e;first | exact h110 rfl | exact h118 rfl | exact h97 rfl | exact h113 rfl | exact h119 rfl | exact h117 rfl | exact h114 rfl | exact h115 rfl | exact h122 rfl | exact h112 rfl | exact h109 rfl | exact h111 rfl)
section
variable {rb:Nat} {s:ByteArray} {nm:Nat → Option Nat} {env:Env} {B0 m:Nat}
set_option maxRecDepth 100000 in
set_option maxHeartbeats 4000000 in
theorem part_of (hT:RT rb s nm env B0 m) (hs:s.size ≤ 120) (hrb:B0 ≤ rb):RP rb s nm env B0 (m + 1):=by
 intro a u w h ha hm hn hB
 have hlt:=h.lt
 have hT0:=h.text
 have hA0:=h.pos
 have hF0:=h.free 1
 have HT:=hide hT
 have H:=hide h
 have HN:=hide hn
 have hd:decide ((s.size:Int) ≤ (a:Int)) = false:=by simp;omega
 have hd':¬ s.size ≤ a:=by omega
 have HRE:=hide (rest_lt ha)
 clear hT h hn
 go_enter Tryz.func53,Tryz.ntmps53
 go_wp2_with fail
 go_quiet (fail)
 go_wp2_with fail
 go_quiet (fail)
 go_upto_region 5 with fail
 go_cut [33] (fun v wx=>v = .int .u8 (s[a].toNat:Int) ∧ RS rb s nm (a + 1) u wx ∧ But rb w wx ∧ w.heap.size + 1 ≤ wx.heap.size ∧ wx.heap[w.heap.size]? = some (.cells #[.int .u8 0,.int .u8 0,.int .i64 0,.int .i64 0,.int .i64 0,.slice none 0 0,.pointer none,.pointer none] 82 (0,0)))
 case first=>
  go_wp2_with fail
  go_meet
  refine ⟨rfl,(((unhide H).alloc _).drewN _).setAt (a + 1) (by omega),(((But.refl _ _).alloc _).drewN _).setCell _ _,by simp,?_⟩
  rw [Below.heap_setCell _ _ _ _ (by show w.heap.size ≠ rb;omega)]
  exact heap_alloc_new w _
 case rest=>
  obtain ⟨rfl,h1,hb1,hsz,hk1⟩:=hcut
  have hc:∀ i,wc.cell? ⟨w.heap.size,i,none⟩ = _:=fun i=>blk_cell hk1 i
  have hf:∀ i,wc.frozen? ⟨w.heap.size,i,none⟩ = false:=fun i=>blk_free hk1 i
  have HN1:=hide ((unhide HN).but hb1 hrb)
  have H1:=hide h1
  have HB1:=hide hb1
  have HK1:=hide hk1
  have hB1:B0 ≤ wc.heap.size:=by omega
  have hm1:s.size - (a + 1) ≤ m:=by omega
  have ha1:a + 1 ≤ s.size:=by omega
  clear h1 hb1 hk1 H HN hT0 hA0 hF0 hd hd'
  generalize s[a] = c at HRE ⊢
  by_cases h110:c = 110
  ·subst h110
   go_wp2_with fail
   refine bodyPost_ret (v:=.tuple #[PC.value (pcLet 110),.bool true]) (by simp [results,Tryz.results53,go_sem,hc,PC.value,PC.cells,pcLet,ptr]) rfl ?_
   rw [unhide HRE]
   exact got_st8 (x:=pcLet 110) (unhide HB1) (But.refl _ _) hsz hB hlt (by omega) (unhide H1) (Or.inl ⟨rfl,.sp .n,rdP_letter env.full (x:=.n) rfl _,let_is (x:=.n) rfl,by simp [Pt.unk]⟩) _ _ _ _ _ _ _ _
  by_cases h118:c = 118
  ·subst h118
   go_wp2_with fail
   refine bodyPost_ret (v:=.tuple #[PC.value (pcLet 118),.bool true]) (by simp [results,Tryz.results53,go_sem,hc,PC.value,PC.cells,pcLet,ptr]) rfl ?_
   rw [unhide HRE]
   exact got_st8 (x:=pcLet 118) (unhide HB1) (But.refl _ _) hsz hB hlt (by omega) (unhide H1) (Or.inl ⟨rfl,.sp .v,rdP_letter env.full (x:=.v) rfl _,let_is (x:=.v) rfl,by simp [Pt.unk]⟩) _ _ _ _ _ _ _ _
  by_cases h97:c = 97
  ·subst h97
   go_wp2_with fail
   refine bodyPost_ret (v:=.tuple #[PC.value (pcLet 97),.bool true]) (by simp [results,Tryz.results53,go_sem,hc,PC.value,PC.cells,pcLet,ptr]) rfl ?_
   rw [unhide HRE]
   exact got_st8 (x:=pcLet 97) (unhide HB1) (But.refl _ _) hsz hB hlt (by omega) (unhide H1) (Or.inl ⟨rfl,.sp .a,rdP_letter env.full (x:=.a) rfl _,let_is (x:=.a) rfl,by simp [Pt.unk]⟩) _ _ _ _ _ _ _ _
  by_cases h113:c = 113
  ·subst h113
   go_wp2_with fail
   refine bodyPost_ret (v:=.tuple #[PC.value (pcLet 113),.bool true]) (by simp [results,Tryz.results53,go_sem,hc,PC.value,PC.cells,pcLet,ptr]) rfl ?_
   rw [unhide HRE]
   exact got_st8 (x:=pcLet 113) (unhide HB1) (But.refl _ _) hsz hB hlt (by omega) (unhide H1) (Or.inl ⟨rfl,.sp .q,rdP_letter env.full (x:=.q) rfl _,let_is (x:=.q) rfl,by simp [Pt.unk]⟩) _ _ _ _ _ _ _ _
  by_cases h119:c = 119
  ·subst h119
   go_wp2_with fail
   refine bodyPost_ret (v:=.tuple #[PC.value (pcLet 119),.bool true]) (by simp [results,Tryz.results53,go_sem,hc,PC.value,PC.cells,pcLet,ptr]) rfl ?_
   rw [unhide HRE]
   exact got_st8 (x:=pcLet 119) (unhide HB1) (But.refl _ _) hsz hB hlt (by omega) (unhide H1) (Or.inl ⟨rfl,.sp .w,rdP_letter env.full (x:=.w) rfl _,let_is (x:=.w) rfl,by simp [Pt.unk]⟩) _ _ _ _ _ _ _ _
  by_cases h117:c = 117
  ·subst h117
   go_wp2_with fail
   refine bodyPost_ret (v:=.tuple #[PC.value (pcLet 117),.bool true]) (by simp [results,Tryz.results53,go_sem,hc,PC.value,PC.cells,pcLet,ptr]) rfl ?_
   rw [unhide HRE]
   exact got_st8 (x:=pcLet 117) (unhide HB1) (But.refl _ _) hsz hB hlt (by omega) (unhide H1) (Or.inl ⟨rfl,.sp .u,rdP_letter env.full (x:=.u) rfl _,let_is (x:=.u) rfl,by simp [Pt.unk]⟩) _ _ _ _ _ _ _ _
  by_cases h114:c = 114
  ·subst h114
   go_wp2_with fail
   refine bodyPost_ret (v:=.tuple #[PC.value (pcLet 114),.bool true]) (by simp [results,Tryz.results53,go_sem,hc,PC.value,PC.cells,pcLet,ptr]) rfl ?_
   rw [unhide HRE]
   exact got_st8 (x:=pcLet 114) (unhide HB1) (But.refl _ _) hsz hB hlt (by omega) (unhide H1) (Or.inl ⟨rfl,.sp .r,rdP_letter env.full (x:=.r) rfl _,let_is (x:=.r) rfl,by simp [Pt.unk]⟩) _ _ _ _ _ _ _ _
  by_cases h115:c = 115
  ·subst h115
   go_wp2_with fail
   refine bodyPost_ret (v:=.tuple #[PC.value (pcLet 115),.bool true]) (by simp [results,Tryz.results53,go_sem,hc,PC.value,PC.cells,pcLet,ptr]) rfl ?_
   rw [unhide HRE]
   exact got_st8 (x:=pcLet 115) (unhide HB1) (But.refl _ _) hsz hB hlt (by omega) (unhide H1) (Or.inl ⟨rfl,.sp .s,rdP_letter env.full (x:=.s) rfl _,let_is (x:=.s) rfl,by simp [Pt.unk]⟩) _ _ _ _ _ _ _ _
  by_cases h122:c = 122
  ·subst h122
   go_wp2_with fail
   refine bodyPost_ret (v:=.tuple #[PC.value (pcLet 122),.bool true]) (by simp [results,Tryz.results53,go_sem,hc,PC.value,PC.cells,pcLet,ptr]) rfl ?_
   rw [unhide HRE]
   exact got_st8 (x:=pcLet 122) (unhide HB1) (But.refl _ _) hsz hB hlt (by omega) (unhide H1) (Or.inl ⟨rfl,.sp .z,rdP_letter env.full (x:=.z) rfl _,let_is (x:=.z) rfl,by simp [Pt.unk]⟩) _ _ _ _ _ _ _ _
  by_cases h112:c = 112
  ·subst h112
   go_wp2_with fail
   refine bodyPost_ret (v:=.tuple #[PC.value (pcLet 112),.bool true]) (by simp [results,Tryz.results53,go_sem,hc,PC.value,PC.cells,pcLet,ptr]) rfl ?_
   rw [unhide HRE]
   exact got_st8 (x:=pcLet 112) (unhide HB1) (But.refl _ _) hsz hB hlt (by omega) (unhide H1) (Or.inl ⟨rfl,.sp .p,rdP_letter env.full (x:=.p) rfl _,let_is (x:=.p) rfl,by simp [Pt.unk]⟩) _ _ _ _ _ _ _ _
  by_cases h109:c = 109
  ·subst h109
   go_wp2_with fail
   refine bodyPost_ret (v:=.tuple #[PC.value (pcLet 109),.bool true]) (by simp [results,Tryz.results53,go_sem,hc,PC.value,PC.cells,pcLet,ptr]) rfl ?_
   rw [unhide HRE]
   exact got_st8 (x:=pcLet 109) (unhide HB1) (But.refl _ _) hsz hB hlt (by omega) (unhide H1) (Or.inl ⟨rfl,.sp .m,rdP_letter env.full (x:=.m) rfl _,let_is (x:=.m) rfl,by simp [Pt.unk]⟩) _ _ _ _ _ _ _ _
  by_cases h111:c = 111
  ·subst h111
   go_wp2_with fail
   refine bodyPost_ret (v:=.tuple #[PC.value (pcLet 111),.bool true]) (by simp [results,Tryz.results53,go_sem,hc,PC.value,PC.cells,pcLet,ptr]) rfl ?_
   rw [unhide HRE]
   exact got_st8 (x:=pcLet 111) (unhide HB1) (But.refl _ _) hsz hB hlt (by omega) (unhide H1) (Or.inl ⟨rfl,.sp .o,rdP_letter env.full (x:=.o) rfl _,let_is (x:=.o) rfl,by simp [Pt.unk]⟩) _ _ _ _ _ _ _ _
  by_cases h43:c = 43
  ·subst h43
   go_wp2_with fail
   refine (readValued_any (c:=43) (by decide) env (Okw B0 wc) _ (unhide H1) ha1 hs).mono ?_
   rintro e w3 ⟨hb3,hg3⟩
   obtain ⟨L,N,K,Tp,Bt,pa,pn,pc,Bo,Ov,ok,b,u',rfl,hb,h3,hcase⟩:=hg3.lay
   have hk3:=(hb3.block w.heap.size (lt_of_block (unhide HK1)) (by omega)).trans (unhide HK1)
   have hc3:∀ i,w3.cell? ⟨w.heap.size,i,none⟩ = _:=fun i=>blk_cell hk3 i
   have hf3:∀ i,w3.frozen? ⟨w.heap.size,i,none⟩ = false:=fun i=>blk_free hk3 i
   have HB3:=hide hb3
   have H3:=hide h3
   have HC:=hide hcase
   clear hk3 hb3 h3 hcase hg3 hc hf
   go_wp2_with fail
   refine bodyPost_ret (v:=.tuple #[PC.value ⟨L,N,K,Tp,Bt,pa,pn,pc,Bo,Ov⟩,.bool ok]) (by simp [results,Tryz.results53,go_sem,hc3,PC.value,PC.cells,ptr]) rfl ?_
   rw [unhide HRE]
   exact got_st8 (unhide HB1) (unhide HB3) hsz hB hlt hb (unhide H3) (unhide HC) _ _ _ _ _ _ _ _
  by_cases h42:c = 42
  ·subst h42
   go_wp2_with fail
   refine (readValued_any (c:=42) (by decide) env (Okw B0 wc) _ (unhide H1) ha1 hs).mono ?_
   rintro e w3 ⟨hb3,hg3⟩
   obtain ⟨L,N,K,Tp,Bt,pa,pn,pc,Bo,Ov,ok,b,u',rfl,hb,h3,hcase⟩:=hg3.lay
   have hk3:=(hb3.block w.heap.size (lt_of_block (unhide HK1)) (by omega)).trans (unhide HK1)
   have hc3:∀ i,w3.cell? ⟨w.heap.size,i,none⟩ = _:=fun i=>blk_cell hk3 i
   have hf3:∀ i,w3.frozen? ⟨w.heap.size,i,none⟩ = false:=fun i=>blk_free hk3 i
   have HB3:=hide hb3
   have H3:=hide h3
   have HC:=hide hcase
   clear hk3 hb3 h3 hcase hg3 hc hf
   go_wp2_with fail
   refine bodyPost_ret (v:=.tuple #[PC.value ⟨L,N,K,Tp,Bt,pa,pn,pc,Bo,Ov⟩,.bool ok]) (by simp [results,Tryz.results53,go_sem,hc3,PC.value,PC.cells,ptr]) rfl ?_
   rw [unhide HRE]
   exact got_st8 (unhide HB1) (unhide HB3) hsz hB hlt hb (unhide H3) (unhide HC) _ _ _ _ _ _ _ _
  by_cases h61:c = 61
  ·subst h61
   go_wp2_with fail
   refine (readValued_any (c:=61) (by decide) env (Okw B0 wc) _ (unhide H1) ha1 hs).mono ?_
   rintro e w3 ⟨hb3,hg3⟩
   obtain ⟨L,N,K,Tp,Bt,pa,pn,pc,Bo,Ov,ok,b,u',rfl,hb,h3,hcase⟩:=hg3.lay
   have hk3:=(hb3.block w.heap.size (lt_of_block (unhide HK1)) (by omega)).trans (unhide HK1)
   have hc3:∀ i,w3.cell? ⟨w.heap.size,i,none⟩ = _:=fun i=>blk_cell hk3 i
   have hf3:∀ i,w3.frozen? ⟨w.heap.size,i,none⟩ = false:=fun i=>blk_free hk3 i
   have HB3:=hide hb3
   have H3:=hide h3
   have HC:=hide hcase
   clear hk3 hb3 h3 hcase hg3 hc hf
   go_wp2_with fail
   refine bodyPost_ret (v:=.tuple #[PC.value ⟨L,N,K,Tp,Bt,pa,pn,pc,Bo,Ov⟩,.bool ok]) (by simp [results,Tryz.results53,go_sem,hc3,PC.value,PC.cells,ptr]) rfl ?_
   rw [unhide HRE]
   exact got_st8 (unhide HB1) (unhide HB3) hsz hB hlt hb (unhide H3) (unhide HC) _ _ _ _ _ _ _ _
  by_cases h60:c = 60
  ·subst h60
   go_wp2_with fail
   refine (readCounted_any (c:=60) (by decide) env (Okw B0 wc) _ (unhide H1) ha1 hs).mono ?_
   rintro e w3 ⟨hb3,hg3⟩
   obtain ⟨L,N,K,Tp,Bt,pa,pn,pc,Bo,Ov,ok,b,u',rfl,hb,h3,hcase⟩:=hg3.lay
   have hk3:=(hb3.block w.heap.size (lt_of_block (unhide HK1)) (by omega)).trans (unhide HK1)
   have hc3:∀ i,w3.cell? ⟨w.heap.size,i,none⟩ = _:=fun i=>blk_cell hk3 i
   have hf3:∀ i,w3.frozen? ⟨w.heap.size,i,none⟩ = false:=fun i=>blk_free hk3 i
   have HB3:=hide hb3
   have H3:=hide h3
   have HC:=hide hcase
   clear hk3 hb3 h3 hcase hg3 hc hf
   go_wp2_with fail
   refine bodyPost_ret (v:=.tuple #[PC.value ⟨L,N,K,Tp,Bt,pa,pn,pc,Bo,Ov⟩,.bool ok]) (by simp [results,Tryz.results53,go_sem,hc3,PC.value,PC.cells,ptr]) rfl ?_
   rw [unhide HRE]
   exact got_st8 (unhide HB1) (unhide HB3) hsz hB hlt hb (unhide H3) (unhide HC) _ _ _ _ _ _ _ _
  by_cases h116:c = 116
  ·subst h116
   go_wp2_with fail
   refine (readCounted_any (c:=116) (by decide) env (Okw B0 wc) _ (unhide H1) ha1 hs).mono ?_
   rintro e w3 ⟨hb3,hg3⟩
   obtain ⟨L,N,K,Tp,Bt,pa,pn,pc,Bo,Ov,ok,b,u',rfl,hb,h3,hcase⟩:=hg3.lay
   have hk3:=(hb3.block w.heap.size (lt_of_block (unhide HK1)) (by omega)).trans (unhide HK1)
   have hc3:∀ i,w3.cell? ⟨w.heap.size,i,none⟩ = _:=fun i=>blk_cell hk3 i
   have hf3:∀ i,w3.frozen? ⟨w.heap.size,i,none⟩ = false:=fun i=>blk_free hk3 i
   have HB3:=hide hb3
   have H3:=hide h3
   have HC:=hide hcase
   clear hk3 hb3 h3 hcase hg3 hc hf
   go_wp2_with fail
   refine bodyPost_ret (v:=.tuple #[PC.value ⟨L,N,K,Tp,Bt,pa,pn,pc,Bo,Ov⟩,.bool ok]) (by simp [results,Tryz.results53,go_sem,hc3,PC.value,PC.cells,ptr]) rfl ?_
   rw [unhide HRE]
   exact got_st8 (unhide HB1) (unhide HB3) hsz hB hlt hb (unhide H3) (unhide HC) _ _ _ _ _ _ _ _
  by_cases h100:c = 100
  ·subst h100
   go_wp2_with fail
   refine (readCounted_any (c:=100) (by decide) env (Okw B0 wc) _ (unhide H1) ha1 hs).mono ?_
   rintro e w3 ⟨hb3,hg3⟩
   obtain ⟨L,N,K,Tp,Bt,pa,pn,pc,Bo,Ov,ok,b,u',rfl,hb,h3,hcase⟩:=hg3.lay
   have hk3:=(hb3.block w.heap.size (lt_of_block (unhide HK1)) (by omega)).trans (unhide HK1)
   have hc3:∀ i,w3.cell? ⟨w.heap.size,i,none⟩ = _:=fun i=>blk_cell hk3 i
   have hf3:∀ i,w3.frozen? ⟨w.heap.size,i,none⟩ = false:=fun i=>blk_free hk3 i
   have HB3:=hide hb3
   have H3:=hide h3
   have HC:=hide hcase
   clear hk3 hb3 h3 hcase hg3 hc hf
   go_wp2_with fail
   refine bodyPost_ret (v:=.tuple #[PC.value ⟨L,N,K,Tp,Bt,pa,pn,pc,Bo,Ov⟩,.bool ok]) (by simp [results,Tryz.results53,go_sem,hc3,PC.value,PC.cells,ptr]) rfl ?_
   rw [unhide HRE]
   exact got_st8 (unhide HB1) (unhide HB3) hsz hB hlt hb (unhide H3) (unhide HC) _ _ _ _ _ _ _ _
  by_cases h35:c = 35
  ·subst h35
   go_wp2_with fail
   refine (readPlaces_any env B0 _ (unhide H1) ha1 hs).mono ?_
   rintro e w3 ⟨hb3,hg3⟩
   obtain ⟨L,N,K,Tp,Bt,pa,pn,pc,Bo,Ov,ok,b,u',rfl,hb,h3,hcase⟩:=hg3.lay
   have hk3:=(hb3.block w.heap.size (lt_of_block (unhide HK1)) (by omega)).trans (unhide HK1)
   have hc3:∀ i,w3.cell? ⟨w.heap.size,i,none⟩ = _:=fun i=>blk_cell hk3 i
   have hf3:∀ i,w3.frozen? ⟨w.heap.size,i,none⟩ = false:=fun i=>blk_free hk3 i
   have HB3:=hide hb3
   have H3:=hide h3
   have HC:=hide hcase
   clear hk3 hb3 h3 hcase hg3 hc hf
   go_wp2_with fail
   refine bodyPost_ret (v:=.tuple #[PC.value ⟨L,N,K,Tp,Bt,pa,pn,pc,Bo,Ov⟩,.bool ok]) (by simp [results,Tryz.results53,go_sem,hc3,PC.value,PC.cells,ptr]) rfl ?_
   rw [unhide HRE]
   exact got_st8 (unhide HB1) (unhide HB3) hsz hB hlt hb (unhide H3) (unhide HC) _ _ _ _ _ _ _ _
  by_cases h40:c = 40
  ·subst h40
   go_wp2_with fail
   refine (power_of (unhide HT) hs hrb _ (unhide H1) ha1 hm1 (unhide HN1) hB1).mono ?_
   rintro e w3 ⟨hb3,hg3⟩
   obtain ⟨L,N,K,Tp,Bt,pa,pn,pc,Bo,Ov,ok,b,u',rfl,hb,h3,hcase⟩:=hg3.lay
   have hk3:=(hb3.block w.heap.size (lt_of_block (unhide HK1)) (by omega)).trans (unhide HK1)
   have hc3:∀ i,w3.cell? ⟨w.heap.size,i,none⟩ = _:=fun i=>blk_cell hk3 i
   have hf3:∀ i,w3.frozen? ⟨w.heap.size,i,none⟩ = false:=fun i=>blk_free hk3 i
   have HB3:=hide hb3
   have H3:=hide h3
   have HC:=hide hcase
   clear hk3 hb3 h3 hcase hg3 hc hf
   go_wp2_with fail
   refine bodyPost_ret (v:=.tuple #[PC.value ⟨L,N,K,Tp,Bt,pa,pn,pc,Bo,Ov⟩,.bool ok]) (by simp [results,Tryz.results53,go_sem,hc3,PC.value,PC.cells,ptr]) rfl ?_
   rw [unhide HRE]
   exact got_st8 (unhide HB1) (unhide HB3) hsz hB hlt hb (unhide H3) (unhide HC) _ _ _ _ _ _ _ _
  by_cases h91:c = 91
  ·subst h91
   go_wp2_with fail
   refine (under_of (unhide HT) hs hrb _ (unhide H1) ha1 hm1 (unhide HN1) hB1).mono ?_
   rintro e w3 ⟨hb3,hg3⟩
   obtain ⟨L,N,K,Tp,Bt,pa,pn,pc,Bo,Ov,ok,b,u',rfl,hb,h3,hcase⟩:=hg3.lay
   have hk3:=(hb3.block w.heap.size (lt_of_block (unhide HK1)) (by omega)).trans (unhide HK1)
   have hc3:∀ i,w3.cell? ⟨w.heap.size,i,none⟩ = _:=fun i=>blk_cell hk3 i
   have hf3:∀ i,w3.frozen? ⟨w.heap.size,i,none⟩ = false:=fun i=>blk_free hk3 i
   have HB3:=hide hb3
   have H3:=hide h3
   have HC:=hide hcase
   clear hk3 hb3 h3 hcase hg3 hc hf
   go_wp2_with fail
   refine bodyPost_ret (v:=.tuple #[PC.value ⟨L,N,K,Tp,Bt,pa,pn,pc,Bo,Ov⟩,.bool ok]) (by simp [results,Tryz.results53,go_sem,hc3,PC.value,PC.cells,ptr]) rfl ?_
   rw [unhide HRE]
   exact got_st8 (unhide HB1) (unhide HB3) hsz hB hlt hb (unhide H3) (unhide HC) _ _ _ _ _ _ _ _
  have e110:((c.toNat:Int) == 110) = false:=u8_ne h110
  have e118:((c.toNat:Int) == 118) = false:=u8_ne h118
  have e97:((c.toNat:Int) == 97) = false:=u8_ne h97
  have e113:((c.toNat:Int) == 113) = false:=u8_ne h113
  have e119:((c.toNat:Int) == 119) = false:=u8_ne h119
  have e117:((c.toNat:Int) == 117) = false:=u8_ne h117
  have e114:((c.toNat:Int) == 114) = false:=u8_ne h114
  have e115:((c.toNat:Int) == 115) = false:=u8_ne h115
  have e122:((c.toNat:Int) == 122) = false:=u8_ne h122
  have e112:((c.toNat:Int) == 112) = false:=u8_ne h112
  have e109:((c.toNat:Int) == 109) = false:=u8_ne h109
  have e111:((c.toNat:Int) == 111) = false:=u8_ne h111
  have e43:((c.toNat:Int) == 43) = false:=u8_ne h43
  have e42:((c.toNat:Int) == 42) = false:=u8_ne h42
  have e61:((c.toNat:Int) == 61) = false:=u8_ne h61
  have e60:((c.toNat:Int) == 60) = false:=u8_ne h60
  have e116:((c.toNat:Int) == 116) = false:=u8_ne h116
  have e100:((c.toNat:Int) == 100) = false:=u8_ne h100
  have e35:((c.toNat:Int) == 35) = false:=u8_ne h35
  have e40:((c.toNat:Int) == 40) = false:=u8_ne h40
  have e91:((c.toNat:Int) == 91) = false:=u8_ne h91
  have HNo:=hide (fun h=>part_none env.full h110 h118 h97 h113 h119 h117 h114 h115 h122 h112 h109 h111 h43 h42 h61 h60 h116 h100 h35 h40 h91 h (rest s (a + 1)))
  clear h110 h118 h97 h113 h119 h117 h114 h115 h122 h112 h109 h111 h43 h42 h61 h60 h116 h100 h35 h40 h91
  go_wp2_with fail
  refine (readName_any _ (unhide H1) ha1 (unhide HN1) (unhide HNo)).mono ?_
  rintro e w3 ⟨hb3,hg3⟩
  obtain ⟨L,N,K,Tp,Bt,pa,pn,pc,Bo,Ov,ok,b,u',rfl,hb,h3,hcase⟩:=hg3.lay
  have hk3:=(hb3.block w.heap.size (lt_of_block (unhide HK1)) (by omega)).trans (unhide HK1)
  have hc3:∀ i,w3.cell? ⟨w.heap.size,i,none⟩ = _:=fun i=>blk_cell hk3 i
  have hf3:∀ i,w3.frozen? ⟨w.heap.size,i,none⟩ = false:=fun i=>blk_free hk3 i
  have HB3:=hide hb3
  have H3:=hide h3
  have HC:=hide hcase
  clear hk3 hb3 h3 hcase hg3 hc hf
  go_wp2_with fail
  refine bodyPost_ret (v:=.tuple #[PC.value ⟨L,N,K,Tp,Bt,pa,pn,pc,Bo,Ov⟩,.bool ok]) (by simp [results,Tryz.results53,go_sem,hc3,PC.value,PC.cells,ptr]) rfl ?_
  rw [unhide HRE]
  exact got_st8 (unhide HB1) (unhide HB3) hsz hB hlt hb (unhide H3) (unhide HC) _ _ _ _ _ _ _ _
end
theorem unk_snoc (env:Env) (ps:List Pt) (p:Pt):(Tm.of (ps ++ [p])).unk env = ((Tm.of ps).unk env || p.unk env):=by
 induction ps with
 | nil=>simp [Tm.of,Tm.unk]
 | cons q ps ih=>rw [List.cons_append,Tm.of,Tm.of,Tm.unk,Tm.unk,ih,Bool.or_assoc]
theorem part_moves {env:Env} {s:ByteArray} {b b2:Nat} {p:Pt} (hb:b ≤ s.size) (hb2:b2 ≤ s.size) (h:RdP env (rest s b) (some (p,rest s b2))):b < b2:=by
 obtain ⟨_,_,e⟩:=h.sound _ _ rfl
 obtain ⟨l,e2⟩:=Pt.text_first p
 have:=congrArg List.length e
 rw [List.length_append,rest_len,rest_len,e2,List.length_cons] at this
 omega
structure TR (rb:Nat) (s:ByteArray) (nm:Nat → Option Nat) (env:Env) (B0:Nat) (a:Nat) (u:Bool) (w:World) (b:Nat) (u':Bool) (ps:List Pt) (sl:Value) (xs:List PC) (wr:World):Prop where
 hb:b ≤ s.size
 len:xs.length ≤ b
 rs:RS rb s nm b u' wr
 but:But rb w wr
 tb:TB (w.heap.size + 1) wr w.heap.size ps sl xs
 parts:PsIs (fun k=>(k < B0 ∨ w.heap.size + 1 ≤ k) ∧ sl.ownBlock ≠ some k) wr xs (Tm.of ps)
 ahead:Ahead env.full (rest s a) ps (rest s b)
 unk:u' = (u || (Tm.of ps).unk env)
 nmis:NmIs B0 wr nm env
theorem TR.drewN {rb:Nat} {s:ByteArray} {nm:Nat → Option Nat} {env:Env} {B0 a:Nat} {u:Bool} {w:World} {b:Nat} {u':Bool} {ps:List Pt} {sl:Value} {xs:List PC} {wr:World} (h:TR rb s nm env B0 a u w b u' ps sl xs wr) (n:Nat):TR rb s nm env B0 a u w b u' ps sl xs (wr.drewN n) :=
 ⟨h.hb,h.len,h.rs.drewN n,h.but.drewN n,⟨h.tb.blk,h.tb.row,h.tb.lt,h.tb.le⟩,PsIs.keeps (w:=wr) (w':=wr.drewN n) (fun _ hk _=>⟨rfl,hk⟩) _ _ h.parts,h.ahead,h.unk,⟨fun c h1 h2 b hb=>by
  obtain ⟨t,a,b',c'⟩:=h.nmis.known c h1 h2 b hb
  exact ⟨t,a,b',c'.keeps (w:=wr) (w':=wr.drewN n) (fun k hk _=>⟨rfl,hk⟩)⟩,h.nmis.unknown⟩⟩
theorem TR.out {rb:Nat} {s:ByteArray} {nm:Nat → Option Nat} {env:Env} {B0 a:Nat} {u:Bool} {w:World} {b:Nat} {u':Bool} {ps:List Pt} {sl:Value} {xs:List PC} {wr:World} (h:TR rb s nm env B0 a u w b u' ps sl xs wr):TmIs (Okw B0 w) wr w.heap.size (Tm.of ps):=by
 refine ⟨sl,xs,⟨Or.inr (Nat.le_refl _),h.tb.blk,⟨h.tb.row.1,?_⟩,fun g hg=>Or.inr ?_⟩,PsIs.keeps (fun k hk _=>⟨rfl,?_⟩) _ _ h.parts⟩
 ·rcases h.tb.row.2 with h2 | ⟨g,cap,cur,hv,hg,r⟩
  ·exact Or.inl h2
  ·exact Or.inr ⟨g,cap,cur,hv,Nat.zero_le _,r⟩
 ·have:=(h.tb.row.lt g hg).1;omega
 ·exact hk.1.imp id (fun h=>by omega)
theorem TR.mid {rb:Nat} {s:ByteArray} {nm:Nat → Option Nat} {env:Env} {B0 a:Nat} {u:Bool} {w:World} {b:Nat} {u':Bool} {ps:List Pt} {sl:Value} {xs:List PC} {wr w2:World} (h:TR rb s nm env B0 a u w b u' ps sl xs wr) (hlt:rb < w.heap.size) (hb2:But rb wr w2) (o:Obj):TB (w.heap.size + 1) (w2.alloc o) w.heap.size ps sl xs:=by
 have hl:=lt_of_block h.tb.blk
 have hs:=hb2.size
 have hle:=h.tb.le
 refine ⟨?_,?_,h.tb.lt,by simp;omega⟩
 ·rw [Below.heap_alloc _ _ _ (by omega),hb2.block _ hl (by omega)]
  exact h.tb.blk
 ·exact (owns_but h.tb.row hb2 (by omega)).alloc o
theorem TR.okp {rb:Nat} {s:ByteArray} {nm:Nat → Option Nat} {env:Env} {B0 a:Nat} {u:Bool} {w:World} {b:Nat} {u':Bool} {ps:List Pt} {sl:Value} {xs:List PC} {wr:World} (h:TR rb s nm env B0 a u w b u' ps sl xs wr) (hB:B0 ≤ w.heap.size):∀ k,Okw B0 wr k → k ≠ w.heap.size ∧ sl.ownBlock ≠ some k:=by
 have hl:=lt_of_block h.tb.blk
 intro k hk
 refine ⟨by rcases hk with hk | hk <;> omega,fun e=>?_⟩
 have:=h.tb.row.lt k e
 rcases hk with hk | hk <;> omega
theorem TR.next {rb:Nat} {s:ByteArray} {nm:Nat → Option Nat} {env:Env} {B0 a:Nat} {u:Bool} {w:World} {b:Nat} {u':Bool} {ps:List Pt} {sl:Value} {xs:List PC} {wr w2 w3:World} (h:TR rb s nm env B0 a u w b u' ps sl xs wr) (hlt:rb < w.heap.size) (hrb:B0 ≤ rb) (hB:B0 ≤ w.heap.size) (hne:¬ T.End (rest s b)) {b2:Nat} {u2:Bool} {p:Pt} {x:PC} {o:Obj} {sl':Value} (hb:But rb wr w2) (hb2:b2 ≤ s.size) (h2:RS rb s nm b2 u2 w2) (hp:RdP env.full (rest s b) (some (p,rest s b2))) (hx:PtIs (Okw B0 wr) w2 x p) (hu:u2 = (u' || p.unk env)) (hc:Chg w.heap.size sl (w2.alloc o) w3) (ht:TB (w.heap.size + 1) w3 w.heap.size (ps ++ [p]) sl' (xs ++ [x])) (hw:sl'.ownBlock = sl.ownBlock ∨ ∀ g,sl'.ownBlock = some g → (w2.alloc o).heap.size ≤ g):TR rb s nm env B0 a u w b2 u2 (ps ++ [p]) sl' (xs ++ [x]) w3:=by
 have hmv:=part_moves h.hb hb2 hp
 have hl:=lt_of_block h.tb.blk
 have hs1:wr.heap.size ≤ w2.heap.size:=hb.size
 have hs2:(w2.alloc o).heap.size = w2.heap.size + 1:=by simp
 have hrow:∀ k,sl.ownBlock = some k → w.heap.size + 1 ≤ k ∧ k < wr.heap.size:=fun k hk=>h.tb.row.lt k hk
 have hold:∀ k,k < w2.heap.size → k ≠ w.heap.size → sl.ownBlock ≠ some k → w3.heap[k]? = w2.heap[k]?:=fun k hk h1 h2=>by
  rw [hc.block k (by omega) h1 h2,Below.heap_alloc _ _ _ hk]
 have hlen:=h.len
 refine ⟨hb2,by rw [List.length_append,List.length_singleton];omega,⟨?_⟩,?_,ht,?_,h.ahead.next hne hp,by rw [hu,h.unk,unk_snoc,Bool.or_assoc],?_⟩
 ·rw [hold rb h2.lt (by omega) (fun e=>by have:=hrow rb e;omega)]
  exact h2.blk
 ·have hb':=h.but.trans hb
  refine ⟨hc.os.trans hb'.os,hc.tape.trans hb'.tape,hc.output.trans hb'.output,Nat.le_trans (Nat.le_trans hb'.size (by omega)) hc.size,fun k hk hn=>?_⟩
  rw [hold k (by have:=hb'.size;omega) (by omega) (fun e=>by have:=hrow k e;omega)]
  exact hb'.block k hk hn
 ·refine PsIs.of_snoc ps xs p x (PsIs.keeps (fun k hk hkl=>?_) _ _ h.parts) (PtIs.keeps (fun k hk hkl=>?_) _ _ hx)
  ·obtain ⟨hk1,hk2⟩:=hk
   have hkrb:k ≠ rb:=by rcases hk1 with hk1 | hk1 <;> omega
   have hktb:k ≠ w.heap.size:=by rcases hk1 with hk1 | hk1 <;> omega
   refine ⟨(hold k (by omega) hktb hk2).trans (hb.block k hkl hkrb),hk1,fun e=>?_⟩
   rcases hw with hw | hw
   ·rw [hw] at e;exact hk2 e
   ·have:=hw k e;omega
  ·obtain ⟨hk1,hk2⟩:=h.okp hB k hk
   refine ⟨hold k hkl hk1 hk2,hk.imp id (fun h=>by omega),fun e=>?_⟩
   rcases hw with hw | hw
   ·rw [hw] at e;exact hk2 e
   ·have:=hw k e;omega
 ·have hn2:=h.nmis.but hb hrb
  refine ⟨fun c h1 h2 b hb'=>?_,h.nmis.unknown⟩
  obtain ⟨t,a1,a2,a3⟩:=hn2.known c h1 h2 b hb'
  exact ⟨t,a1,a2,a3.keeps (fun k hk hkl=>⟨hold k hkl (by omega) (fun e=>by have:=hrow k e;omega),hk⟩)⟩
theorem TR.start {rb:Nat} {s:ByteArray} {nm:Nat → Option Nat} {env:Env} {B0 a:Nat} {u:Bool} {w:World} (h:RS rb s nm a u w) (ha:a ≤ s.size) (hn:NmIs B0 w nm env):TR rb s nm env B0 a u w a u [] (.slice none 0 0) [] (w.alloc (.cells #[.slice none 0 0,.bool true,.bool true,.bool true] 51)) :=
 ⟨ha,Nat.zero_le _,h.alloc _,(But.refl _ _).alloc _,new_TB w,by rw [Tm.of,PsIs],Ahead.start _ _,by simp [Tm.of,Tm.unk],hn.alloc _⟩
theorem end_of {s:ByteArray} {b:Nat} (hb:b < s.size) (h:s[b] = 41 ∨ s[b] = 93 ∨ s[b] = 58):T.End (rest s b):=by
 intro c hc
 rw [rest_lt hb] at hc
 cases hc
 exact h
theorem not_end {s:ByteArray} {b:Nat} (hb:b < s.size) (h:¬ (s[b] = 41 ∨ s[b] = 93 ∨ s[b] = 58)):¬ T.End (rest s b):=fun he=>h (he s[b] (by rw [rest_lt hb];rfl))
section
variable {rb:Nat} {s:ByteArray} {nm:Nat → Option Nat} {env:Env} {B0 m:Nat}
set_option maxRecDepth 100000 in
set_option maxHeartbeats 3200000 in
theorem term_of (hP : RP rb s nm env B0 m) (hs : s.size ≤ 120) (hrb : B0 ≤ rb) : RT rb s nm env B0 m := by
  intro a u w h ha hm hn hB
  have hlt := h.lt
  have HP := hide hP
  have HS := hide (TR.start h ha hn)
  clear hP h hn
  go_enter Tryz.func33, Tryz.ntmps33
  go_wp2_with fail
  refine (newTerm_any _).mono ?_
  rintro e w' ⟨rfl, rfl⟩
  go_wp2_with fail
  go_loopg [] (s.size - a) (fun k wr => ∃ b u' ps sl xs, k = s.size - b ∧ s.size - b ≤ m ∧ TR rb s nm env B0 a u w b u' ps sl xs wr)
  case atStart => exact ⟨a, u, [], _, [], rfl, hm, unhide HS⟩
  case round =>
    obtain ⟨b, u', ps, sl, xs, hk, hbm, hR⟩ := hrel
    have hT0 := hR.rs.text
    have hA0 := hR.rs.pos
    have hb0 := hR.hb
    have HK := hide hk
    have HR := hide hR
    clear hk hR HS
    by_cases h1 : b < s.size
    · have hd : decide ((b : Int) < (s.size : Int)) = true := by simp; omega
      by_cases h2 : s[b] = 41 ∨ s[b] = 93 ∨ s[b] = 58
      · have hde : decide (s[b] = 41 ∨ s[b] = 93 ∨ s[b] = 58) = true := by simpa using h2
        have HE := hide (end_of h1 h2)
        clear h2
        go_wp2_with fail
        go_quiet (first | (go_at_call 52; exact Calls.quiet_of_same ((endsTerm_any s[b] _).mono (fun e w' h => ⟨h.1, h.2.symm⟩))))
        rw [hde]
        go_wp2_with fail
        exact bodyPost_ret (v := .tuple #[.pointer (some ⟨w.heap.size, 0, none⟩), .bool true]) (by simp [results, Tryz.results33, go_sem]) rfl ⟨((unhide HR).drewN _).but, b, u', hb0, ((unhide HR).drewN _).rs, Or.inl ⟨Tm.of ps, w.heap.size, rfl, (unhide HR).ahead.done (unhide HE), ((unhide HR).drewN _).out, (unhide HR).unk⟩⟩
      · have hde : decide (s[b] = 41 ∨ s[b] = 93 ∨ s[b] = 58) = false := by simpa using h2
        have HE := hide (not_end h1 h2)
        clear h2
        go_wp2_with fail
        go_quiet (first | (go_at_call 52; exact Calls.quiet_of_same ((endsTerm_any s[b] _).mono (fun e w' h => ⟨h.1, h.2.symm⟩))))
        rw [hde]
        go_wp2_with fail
        refine (unhide HP b u' _ ((unhide HR).drewN _).rs h1 hbm ((unhide HR).drewN _).nmis (Nat.le_trans hB ((unhide HR).drewN _).but.size)).mono ?_
        rintro e w2 ⟨hb2, hg2⟩
        obtain ⟨L, N, K, Tp, Bt, pa, pn, pc, Bo, Ov, ok, b2, u2, rfl, hbb, h2, hcase⟩ := hg2.lay
        have HB2 := hide hb2
        have H2 := hide h2
        have HC := hide hcase
        clear hb2 h2 hcase hg2
        cases ok with
        | false =>
          go_wp2_with fail
          have hno : RdP env.full (rest s b) none := by
            rcases unhide HC with ⟨h, _⟩ | ⟨_, _, h⟩
            · cases h
            · exact h
          exact bodyPost_ret (v := .tuple #[.pointer none, .bool false]) (by simp [results, Tryz.results33, go_sem]) rfl ⟨(((unhide HR).drewN _).but.trans (unhide HB2)).alloc _, b2, u2, hbb, (unhide H2).alloc _, Or.inr ⟨rfl, (unhide HR).ahead.fail (unhide HE) hno⟩⟩
        | true =>
          obtain ⟨p, hp1, hp2, hp3⟩ : ∃ p, RdP env.full (rest s b) (some (p, rest s b2)) ∧ PtIs (Okw B0 wr) w2 ⟨L, N, K, Tp, Bt, pa, pn, pc, Bo, Ov⟩ p ∧ u2 = (u' || p.unk env) := by
            rcases unhide HC with ⟨_, h⟩ | ⟨h, _⟩
            · exact h
            · cases h
          have HP1 := hide hp1
          have HP2 := hide hp2
          have HP3 := hide hp3
          have HRd := hide ((unhide HR).drewN nq)
          have hmv := part_moves hb0 hbb hp1
          have hlen := (unhide HR).len
          clear hp1 hp2 hp3 HC hT0 hA0
          go_wp2_with fail
          refine (add_any (x := ⟨L, N, K, Tp, Bt, pa, pn, pc, Bo, Ov⟩) (Ok := Okw B0 wr) ((unhide HRd).mid hlt (unhide HB2) _) (PtIs.keeps (fun k hk hl => ⟨Below.heap_alloc _ _ _ hl, hk⟩) _ _ (unhide HP2)) ((unhide HR).okp hB) (by omega)).mono ?_
          rintro e w3 ⟨rfl, hchg, sl', htb, hwh⟩
          have HN3 := hide ((unhide HRd).next hlt hrb hB (unhide HE) (unhide HB2) hbb (unhide H2) (unhide HP1) (unhide HP2) (unhide HP3) hchg htb hwh)
          clear hchg htb hwh
          go_wp2_with fail
          go_roundg (s.size - b2)
          case measure => rw [unhide HK]; omega
          case rel => exact ⟨b2, u2, ps ++ [p], sl', xs ++ [⟨L, N, K, Tp, Bt, pa, pn, pc, Bo, Ov⟩], rfl, by omega, unhide HN3⟩
    · have hd : decide ((b : Int) < (s.size : Int)) = false := by simp; omega
      have hd' : ¬ b < s.size := h1
      have HE := hide (show T.End (rest s b) by rw [rest_ge (by omega)]; exact end_nil)
      go_wp2_with fail
      go_quiet (fail)
      go_wp2_with fail
      exact bodyPost_ret (v := .tuple #[.pointer (some ⟨w.heap.size, 0, none⟩), .bool true]) (by simp [results, Tryz.results33, go_sem]) rfl ⟨((unhide HR).drewN _).but, b, u', hb0, ((unhide HR).drewN _).rs, Or.inl ⟨Tm.of ps, w.heap.size, rfl, (unhide HR).ahead.done (unhide HE), ((unhide HR).drewN _).out, (unhide HR).unk⟩⟩
theorem read_all (hs:s.size ≤ 120) (hrb:B0 ≤ rb):∀ m,RT rb s nm env B0 m
 | 0=>term_of (fun a u w h ha hm=>by omega) hs hrb
 | m + 1=>term_of (part_of (read_all hs hrb m) hs hrb) hs hrb
end
end Go.Proofs.YtikiaijgcjjloabGreatDoor

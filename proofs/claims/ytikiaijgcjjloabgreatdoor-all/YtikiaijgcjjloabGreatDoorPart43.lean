import Derived.Test.YtikiaijgcjjloabGreatDoorPart42
import Derived.Test.YtikiaijgcjjloabGreatDoorPart18

namespace Go.Proofs.YtikiaijgcjjloabGreatDoor
open Go Go.RowKit M T Go.Lib
def PartsNew (s:ByteArray) (w:World) (e:Ending) (w':World):Prop :=
 ∃ v ok,e = .returned (.tuple #[v,.bool ok]) ∧ ((ok = true ∧ ∃ xs ps,Whole E0 s.data.toList (some (Tm.of ps)) ∧ w'.ownsRow w.heap.size 141 7 v xs.length (rrow xs) ∧ RPl w' xs ps) ∨ (ok = false ∧ v = .slice none 0 0 ∧ Whole E0 s.data.toList none))
set_option maxRecDepth 100000 in
set_option maxHeartbeats 3200000 in
theorem parts_new (s:ByteArray) (w:World) (hs:s.size ≤ 1000):Calls Tryz.prog 119 #[.string s] w fun e w'=>PartsNew s w e w' ∧ Below w.heap.size w w':=by
 obtain ⟨i0,hi,hz0,hz1,hz2⟩:=info_parts Tryz.infoRPart
 go_enter Tryz.func119,Tryz.ntmps119
 go_wp2_with fail
 go_loopg [4,5] s.size (fun k v i wr=>∃ b ps xs,k = s.size - b ∧ i = .int .i64 ((b:Nat):Int) ∧ PR s w b ps v xs wr)
 case atStart=>exact ⟨0,[],[],rfl,rfl,Nat.zero_le _,Nat.zero_le _,Below.refl _ _,World.ownsRow_nil _ _ _ _,trivial,Ahead.start _ _⟩
 case round=>
  obtain ⟨b,ps,xs,hk,rfl,hR⟩:=hrel
  have HK:=hide hk
  have HR:=hide hR
  have hb:=hR.hb
  have hlen:=hR.len
  clear hk hR
  by_cases hlt:b < s.size
  ·have hlt':(b:Int) < (s.size:Int):=by omega
   go_wp2_with fail
   refine (cut_r (parts_all 1000) s b _ hlt (by omega) hs).mono ?_
   rintro e w1 ⟨⟨⟨Kd,P,Q,K,pa,pn,pc,F,G⟩,bz,ok,rfl,hcase⟩,hb1⟩
   rw [show RC.value ⟨Kd,P,Q,K,pa,pn,pc,F,G⟩ = .agg #[.int .u8 (Kd.toNat:Int),.int .i64 P,.int .i64 Q,.int .i64 K,.slice pa pn pc,.string F,.string G] from rfl]
   have HB1:=hide hb1
   have HC:=hide hcase
   clear hcase hb1
   cases ok with
   | false=>
    have hno:RdP E0 (rest s b) none:=by
     rcases unhide HC with ⟨h,_⟩ | ⟨_,h⟩
     ·cases h
     ·exact h
    have HNo:=hide hno
    clear hno HC
    go_wp2_with fail
    refine bodyPost_ret (v:=.tuple #[.slice none 0 0,.bool false]) (by simp [results,Tryz.results119,go_sem]) rfl ⟨⟨_,false,rfl,Or.inr ⟨rfl,rfl,?_⟩⟩,((unhide HR).bel.trans ((unhide HB1).mono (unhide HR).bel.size)).alloc (Nat.le_trans (unhide HR).bel.size (unhide HB1).size) _⟩
    have:=(unhide HR).ahead.none (by rw [rest_lt hlt];simp) (unhide HNo)
    rw [rest_z] at this
    exact this
   | true=>
    obtain ⟨p,c,rfl,hc,hrd,hp⟩:∃ (p:Pt) (c:Nat),bz = (c:Int) ∧ c ≤ s.size ∧ RdP E0 (rest s b) (some (p,rest s c)) ∧ RPt w1 ⟨Kd,P,Q,K,pa,pn,pc,F,G⟩ p:=by
     rcases unhide HC with ⟨_,h⟩ | ⟨h,_⟩
     ·exact h
     ·cases h
    have HRd:=hide hrd
    have HPt:=hide hp
    have hmv:b < c:=by
     obtain ⟨_,_,e⟩:=hrd.sound _ _ rfl
     obtain ⟨l,e2⟩:=Pt.text_first p
     have:=congrArg List.length e
     rw [List.length_append,rest_len,rest_len,e2,List.length_cons] at this
     omega
    clear hrd hp HC
    go_wp2_with (at_builtin;refine wpList_append_own _ rfl _ _ 130 rfl w.heap.size 141 i0 _ 7 88 Tryz.underlying130 hi hz0 hz1 hz2 rfl (by decide) _ _ _ rfl (((owns_below (unhide HR).own (unhide HB1)).alloc _).alloc _) ⟨w1.heap.size + 1,0,none⟩ 1 1 (RC.cells ⟨Kd,P,Q,K,pa,pn,pc,F,G⟩) rfl rfl (rnews w1 _ ⟨Kd,P,Q,K,pa,pn,pc,F,G⟩) (one_rcells _) (by unfold maxLen;omega) (by omega) (by have:=(unhide HR).bel.size;have:=(unhide HB1).size;simp;omega) ?_)
    intro v' w2 hown2 hgr2 _
    have HN:=hide ((unhide HR).next (unhide HB1) hc (unhide HRd) (unhide HPt) hgr2 hown2)
    clear hown2 hgr2
    go_wp2_with fail
    go_roundg (s.size - c)
    case measure=>rw [unhide HK];omega
    case rel=>exact ⟨c,ps ++ [p],xs ++ [⟨Kd,P,Q,K,pa,pn,pc,F,G⟩],rfl,rfl,unhide HN⟩
  ·have hlt':¬ (b:Int) < (s.size:Int):=by omega
   go_wp2_with fail
   have hah:=(unhide HR).ahead
   rw [rest_ge (show s.size ≤ b by omega),rest_z] at hah
   refine bodyPost_ret (v:=.tuple #[_,.bool true]) (by simp [results,Tryz.results119,go_sem]) rfl ⟨⟨_,true,rfl,Or.inl ⟨rfl,xs,ps,hah.whole,(unhide HR).own,(unhide HR).parts⟩⟩,(unhide HR).bel⟩
theorem rrow_new {B:Nat} {w:World} {v:Value} {xs:List RC} (h:w.ownsRow B 141 7 v xs.length (rrow xs)):∃ ao cap,v = .slice ao xs.length cap ∧ (0 < xs.length → ∃ g,ao = some ⟨g,0,none⟩ ∧ B ≤ g ∧ g < w.heap.size ∧ ∀ j (hj:j < xs.length) i,i < 7 → w.cell? ⟨g,j * 7 + i,none⟩ = (xs[j].cells)[i]?):=by
 have hown:=h
 rcases h.2 with ⟨h1,h2⟩ | ⟨g,cap,cur,hv,hB,hh,_⟩
 ·exact ⟨none,0,by rw [h1,h2],fun hp=>by omega⟩
 ·refine ⟨some ⟨g,0,none⟩,cap,hv,fun _=>⟨g,rfl,hB,lt_of_block hh,fun j hj i hi=>?_⟩⟩
  rw [hv] at hown
  exact rrow_cell hown hj i hi
def _root_.Go.Proofs.YtikiaijgcjjloabGreatDoor.T.Tm.pts:Tm → List Pt
 | .nil=>[]
 | .cons p t=>p :: t.pts
theorem pts_of:∀ ps:List Pt,(Tm.of ps).pts = ps
 | []=>rfl
 | p :: ps=>by rw [Tm.of,Tm.pts,pts_of ps]
def TmS (t:Tm) (bk:Bool):Prop:=∀ ⦃s:ByteArray⦄ ⦃ds:List D⦄ ⦃n fb rb m N:Nat⦄ ⦃v vs:Value⦄ ⦃xs:List RC⦄ ⦃ss:List St⦄ ⦃w:World⦄,IsTerm (envOf (ds.take n)) s.data.toList t → s.size ≤ 1000 → RSes w rb vs ds → n ≤ ds.length → ds.length ≤ maxLen → FlIs w fb rb m N v xs ss → m ≤ 100000 → N ≤ m + 1 → (ss ++ lay m (t.flat bk) N).length ≤ 1000000 →
 Calls Tryz.prog 82 #[.pointer (some ⟨fb,0,none⟩),.string s,.int .i64 (n:Int),.bool bk] w fun e w'=>e = .returned (.tuple #[]) ∧ FlGot fb rb m N v ss (t.flat bk) w w'
def PtS (p:Pt) (bk:Bool):Prop:=∀ ⦃x:RC⦄ ⦃ds:List D⦄ ⦃n fb rb m N:Nat⦄ ⦃v vs:Value⦄ ⦃xs:List RC⦄ ⦃ss:List St⦄ ⦃w:World⦄,RPt w x p → p.wf → p.inEnv (envOf (ds.take n)) → p.text.length ≤ 1000 → RSes w rb vs ds → n ≤ ds.length → ds.length ≤ maxLen → FlIs w fb rb m N v xs ss → m ≤ 100000 → N ≤ m + 1 → (ss ++ lay m (p.flat bk) N).length ≤ 1000000 →
 Calls Tryz.prog 124 #[.pointer (some ⟨fb,0,none⟩),RC.value x,.int .i64 (n:Int),.bool bk] w fun e w'=>e = .returned (.tuple #[]) ∧ FlGot fb rb m N v ss (p.flat bk) w w'
theorem lay_le {m:Nat} {ss a b:List St} {N B:Nat} (h:(ss ++ lay m (a ++ b) N).length ≤ B):(ss ++ lay m a N).length ≤ B:=by
 rw [lay_append] at h
 simp only [List.length_append] at h ⊢
 omega
theorem lay_next {m:Nat} {ss a b:List St} {N:Nat}:(ss ++ lay m a N) ++ lay m b (after m a N) = ss ++ lay m (a ++ b) N:=by rw [lay_append,List.append_assoc]
theorem FlGot.then {fb rb m N:Nat} {v v1:Value} {ss a b:List St} {w w1 w2:World} (hc:Fc fb v w v1 w1) (h:FlGot fb rb m (after m a N) v1 (ss ++ lay m a N) b w1 w2):FlGot fb rb m N v ss (a ++ b) w w2:=by
 obtain ⟨v',xs',h1,h2⟩:=h
 exact ⟨v',xs',by rw [after_append,← lay_next];exact h1,hc.trans h2⟩
set_option maxRecDepth 100000 in
set_option maxHeartbeats 6400000 in
theorem flow_term {t : Tm} {bk : Bool} (hps : ∀ p ∈ t.pts, PtS p bk) : TmS t bk := by
  intro s ds n fb rb m N v vs xs ss w ht hs h hn hl hf hm hN hlen
  have HPS := hide hps
  have H := hide h
  have HT := hide ht
  have HF0 := hide hf
  have hn' : n ≤ maxLen := by omega
  unfold maxLen at hn'
  have HLen := hide hlen
  clear hps h ht hf hlen
  go_enter Tryz.func82, Tryz.ntmps82
  go_wp2_with fail
  refine (parts_new s _ hs).mono ?_
  rintro e w1 ⟨⟨sl, ok, rfl, hG⟩, hb1⟩
  obtain ⟨rfl, ys, ps, hwh, hown, hpl⟩ : ok = true ∧ ∃ xs ps, Whole E0 s.data.toList (some (Tm.of ps)) ∧ w1.ownsRow w.heap.size 141 7 sl xs.length (rrow xs) ∧ RPl w1 xs ps := by
    rcases hG with h | ⟨_, _, h⟩
    · exact h
    · exact (whole_not h (unhide HT)).elim
  have hewf := (unhide H).ok.wf n hn
  have hbind := whole_is hewf hwh (unhide HT)
  rw [Tm.bind_of] at hbind
  obtain ⟨hwf, htx⟩ := whole_wf hwh
  have hlps : ps.length ≤ 1000 := by have := len_mem ps; rw [htx] at this; simp at this; omega
  have hxl := hpl.length
  have hyl : ys.length ≤ 1000 := by omega
  obtain ⟨ao, cap, rfl, hcs⟩ := rrow_new hown
  obtain ⟨qs, hqs⟩ : ∃ qs, qs = ps.map (Pt.bind (envOf (ds.take n))) := ⟨_, rfl⟩
  have hql : qs.length = ys.length := by rw [hqs, List.length_map]; omega
  have hpl2 : ∀ j (h : j < ys.length) (h' : j < qs.length), RPt w1 ys[j] qs[j] := fun j h h' => by
    have := RPt.bind _ hewf (hpl.get j h (by omega))
    subst hqs
    rw [List.getElem_map]
    exact this
  rw [← hqs] at hbind
  have HQL := hide hql
  have HB1 := hide hb1
  have H1 := hide ((unhide H).below hb1)
  have HF1 := hide ((unhide HF0).below hb1)
  have HPl := hide hpl2
  have HBd := hide hbind
  have HCs := hide hcs
  clear hG hown hpl hbind htx hewf hb1 hwf hwh hqs hpl2 hcs hql hxl
  go_wp2_with fail
  go_loopg [10] ys.length (fun k v10 wr => ∃ i : Nat, k = ys.length - i ∧ i ≤ ys.length ∧ v10 = .int .i64 (i : Int) ∧ ∃ v' xs', FlIs wr fb rb m (after m (flatTo bk qs i) N) v' xs' (ss ++ lay m (flatTo bk qs i) N) ∧ Fc fb v w1 v' wr)
  case atStart => exact ⟨0, rfl, Nat.zero_le _, rfl, v, xs, by rw [show flatTo bk qs 0 = [] from rfl, show after m [] N = N from rfl, show lay m [] N = [] from rfl, List.append_nil]; exact unhide HF1, Fc.of_below (Below.refl _ _)⟩
  case round =>
    obtain ⟨i, hk, hi, rfl, v', xs', hfl, hfc⟩ := hrel
    have HK := hide hk
    have HFl := hide hfl
    have HFc := hide hfc
    clear hk hfl hfc
    by_cases hlt : i < ys.length
    · have hlt' : (i : Int) < (ys.length : Int) := by omega
      go_wp2_with fail
      refine (ffull_any (unhide HFl)).mono ?_
      rintro e w2 ⟨rfl, hb2⟩
      have HB2 := hide hb2
      clear hb2
      by_cases hfull : m < after m (flatTo bk qs i) N
      · rw [decide_eq_true hfull]
        go_wp2_with fail
        refine bodyPost_ret (results_none rfl _ _ _) rfl ?_
        refine ⟨rfl, ?_⟩
        obtain ⟨l, hl2⟩ := flatTo_more bk qs i
        rw [← unhide HBd, hl2]
        exact FlGot.then (((Fc.of_below (unhide HB1))).trans (unhide HFc)) (FlGot.full (unhide HFl) (unhide HB2) hfull l)
      · rw [decide_eq_false hfull]
        obtain ⟨g, rfl, hgB, hgl, hcell⟩ := (unhide HCs) (by omega)
        have hiq : i < (inOrder bk qs).length := by rw [inOrder_length, unhide HQL]; exact hlt
        have hrow : w2.heap[g]? = w1.heap[g]? := ((unhide HB2).block g (Nat.lt_of_lt_of_le hgl (unhide HFc).chg.size)).trans ((unhide HFc).young (unhide HF0) hgl hgB)
        have hcr : ∀ j (hj : j < ys.length) l, l < 7 → w2.cell? ⟨g, j * 7 + l, none⟩ = (ys[j].cells)[l]? := fun j hj l hl => (World.cell?_of_block (a := ⟨g, j * 7 + l, none⟩) hrow).trans (hcell j hj l hl)
        have hints : ∀ (k : Nat) (c : Array Value), w1.heap[k]? = some (.cells c 3 (0, 0)) → w2.heap[k]? = w1.heap[k]? := fun k c hk => ((unhide HB2).block k (Nat.lt_of_lt_of_le (lt_of_block hk) (unhide HFc).chg.size)).trans ((unhide HFc).other (unhide HF1) hk (by decide) (by decide))
        have HF2 := hide ((unhide HFl).below (unhide HB2))
        have H2 := hide (((unhide H1).flow (unhide HF1) (unhide HFc)).below (unhide HB2))
        have HC2 := hide ((unhide HFc).trans (Fc.of_below (unhide HB2)))
        have hsuc := flatTo_succ bk qs i hiq
        have HSuc := hide hsuc
        have hlen2 : ((ss ++ lay m (flatTo bk qs i) N) ++ lay m ((inOrder bk qs)[i].flat bk) (after m (flatTo bk qs i) N)).length ≤ 1000000 := by
          rw [lay_next, ← hsuc]
          obtain ⟨l, hl2⟩ := flatTo_more bk qs (i + 1)
          have := unhide HLen
          rw [← unhide HBd, hl2] at this
          exact lay_le this
        have HL2 := hide hlen2
        have haf := after_le (m := m) (flatTo bk qs i) N hN
        clear hlen2 hsuc hrow hcell
        have hmem : (inOrder bk qs)[i] ∈ qs := by
          have := List.getElem_mem hiq
          cases bk
          · exact this
          · exact List.mem_reverse.1 this
        have q1 := wf_mem _ _ hmem (by rw [unhide HBd]; exact (unhide HT).wf)
        have q2 := env_mem _ _ _ hmem (by rw [unhide HBd]; exact (unhide HT).env)
        have q3 := text_mem _ _ hmem
        rw [unhide HBd, (unhide HT).text] at q3
        have q3' : (inOrder bk qs)[i].text.length ≤ 1000 := by have e : (s.data.toList).length = s.size := by simp
                                                               omega
        have hPS := unhide HPS (inOrder bk qs)[i] (by rw [← unhide HBd, pts_of]; exact hmem)
        obtain ⟨j, hj, hjj⟩ : ∃ j, j < ys.length ∧ j = (if bk then ys.length - 1 - i else i) := ⟨_, by cases bk <;> simp <;> omega, rfl⟩
        have hjq : j < qs.length := by rw [unhide HQL]; exact hj
        have hgt : (inOrder bk qs)[i] = qs[j] := by
          have e : j = (if bk then qs.length - 1 - i else i) := by rw [unhide HQL]; exact hjj
          subst e
          exact inOrder_get bk qs i hiq hjq
        have hpt : RPt w2 ys[j] (inOrder bk qs)[i] := by rw [hgt]; exact (unhide HPl j hj hjq).keeps hints
        have hcj := hcr j hj
        have HQ1 := hide q1
        have HQ2 := hide q2
        have HPS1 := hide hPS
        have HPt := hide hpt
        clear q1 q2 q3 hPS hpt hmem hgt hcr hints
        generalize (inOrder bk qs)[i] = p at HSuc HL2 HQ1 HQ2 q3' HPS1 HPt
        generalize ys[j] = x at hcj HPt
        obtain ⟨Kd, P, Q, K, pa, pn, pc, F, G⟩ := x
        have c0 : w2.cell? ⟨g, j * 7, none⟩ = some (.int .u8 (Kd.toNat : Int)) := hcj 0 (by omega)
        have c1 : w2.cell? ⟨g, j * 7 + 1, none⟩ = some (.int .i64 P) := hcj 1 (by omega)
        have c2 : w2.cell? ⟨g, j * 7 + 2, none⟩ = some (.int .i64 Q) := hcj 2 (by omega)
        have c3 : w2.cell? ⟨g, j * 7 + 3, none⟩ = some (.int .i64 K) := hcj 3 (by omega)
        have c4 : w2.cell? ⟨g, j * 7 + 4, none⟩ = some (.slice pa pn pc) := hcj 4 (by omega)
        have c5 : w2.cell? ⟨g, j * 7 + 5, none⟩ = some (.string F) := hcj 5 (by omega)
        have c6 : w2.cell? ⟨g, j * 7 + 6, none⟩ = some (.string G) := hcj 6 (by omega)
        clear hcj
        cases bk with
        | false =>
          have hji : j = i := hjj
          clear hjj
          subst hji
          clear hlt'
          have hlt' : (j : Int) < (ys.length : Int) := by omega
          go_wp2_with fail
          refine (unhide HPS1 (x := ⟨Kd, P, Q, K, pa, pn, pc, F, G⟩) (unhide HPt) (unhide HQ1) (unhide HQ2) q3' (unhide H2) hn hl (unhide HF2) hm haf (unhide HL2)).mono ?_
          rintro e w3 ⟨rfl, v3, xs3, hf3, hc3⟩
          have HF3 := hide hf3
          have HC3 := hide ((unhide HC2).trans hc3)
          clear hf3 hc3
          go_wp2_with fail
          go_roundg (ys.length - (j + 1))
          case measure => rw [unhide HK]; omega
          case rel => exact ⟨j + 1, rfl, by omega, rfl, v3, xs3, by rw [unhide HSuc, after_append, ← lay_next]; exact unhide HF3, unhide HC3⟩
        | true =>
          have hji : j = ys.length - 1 - i := hjj
          clear hjj
          subst hji
          go_wp2_with fail
          refine (unhide HPS1 (x := ⟨Kd, P, Q, K, pa, pn, pc, F, G⟩) (unhide HPt) (unhide HQ1) (unhide HQ2) q3' (unhide H2) hn hl (unhide HF2) hm haf (unhide HL2)).mono ?_
          rintro e w3 ⟨rfl, v3, xs3, hf3, hc3⟩
          have HF3 := hide hf3
          have HC3 := hide ((unhide HC2).trans hc3)
          clear hf3 hc3
          go_wp2_with fail
          go_roundg (ys.length - (i + 1))
          case measure => rw [unhide HK]; omega
          case rel => exact ⟨i + 1, rfl, by omega, rfl, v3, xs3, by rw [unhide HSuc, after_append, ← lay_next]; exact unhide HF3, unhide HC3⟩
    · have hlt' : ¬ (i : Int) < (ys.length : Int) := by omega
      go_wp2_with fail
      go_end0
      have e := flatTo_all bk qs (i := i) (by rw [unhide HQL]; omega)
      rw [unhide HBd] at e
      rw [e] at HFl
      exact ⟨rfl, v', xs', unhide HFl, (Fc.of_below (unhide HB1)).trans (unhide HFc)⟩
theorem against_step {y y2:Sp} (h:y.opp = some y2) (hw:y.wf) {x:RC} {w:World} (hx:RPt w x (.sp y)) :
  Calls Tryz.prog 149 #[RC.value x] w fun e w'=>∃ x':RC,e = .returned (RC.value x') ∧ (∀ w'',RPt w'' x' (.sp y2)) ∧ Below w.heap.size w w':=by
 obtain ⟨Kd,P,Q,K,pa,pn,pc,F,G⟩:=x
 obtain ⟨hk,hx⟩:=hx
 have hk':Kd = y.first:=hk
 subst hk'
 have other:y.first ≠ 43 → y.first ≠ 42 → (∀ r K' w'',r = y2.first → K' = IntKind.i64.wrap (-K) → RPt w'' ⟨r,P,Q,K',none,0,0,⟨#[]⟩,⟨#[]⟩⟩ (.sp y2)) → Calls Tryz.prog 149 #[RC.value ⟨y.first,P,Q,K,pa,pn,pc,F,G⟩] w fun e w'=>∃ x':RC,e = .returned (RC.value x') ∧ (∀ w'',RPt w'' x' (.sp y2)) ∧ Below w.heap.size w w':=by
  intro n1 n2 n3
  refine (against_other y.first P Q K pa pn pc F G w n1 n2).mono ?_
  rintro e w' ⟨r,K',rfl,hK,hr,hb⟩
  exact ⟨_,rfl,fun w''=>n3 r K' w'' (turn_opp h hr) hK,hb⟩
 cases y with
 | plus c=>
  cases h
  have h1:=of_decide_eq_true hw
  obtain ⟨e1,e2⟩:=hx
  have e1:P = c.num:=e1
  have e2:Q = (c.den:Int):=e2
  have hd:=c.den_pos
  refine (against_plus P Q K pa pn pc F G w (by omega) (by omega)).mono ?_
  rintro e w' ⟨r,K',rfl,_,hr,hb⟩
  refine ⟨_,rfl,fun w''=>⟨turn_opp (y:=.plus c) (y2:=.plus (-c)) rfl hr,?_,?_⟩,hb⟩
  ·show -P = (-c).num
   rw [Rat.neg_num,e1]
  ·show Q = ((-c).den:Int)
   rw [Rat.neg_den,e2]
 | times c=>
  rw [show (Sp.times c).opp = (if c = 0 then none else some (.times c⁻¹)) from rfl] at h
  by_cases h0:c = 0
  ·rw [if_pos h0] at h;cases h
  ·rw [if_neg h0] at h
   cases h
   have h1:=of_decide_eq_true hw
   obtain ⟨e1,e2⟩:=hx
   have e1:P = c.num:=e1
   have e2:Q = (c.den:Int):=e2
   have hd:=c.den_pos
   have hn:=num_ne h0
   refine (against_times P Q K pa pn pc F G w (by omega) (by omega) (by omega) (by omega) (by omega)).mono ?_
   rintro e w' ⟨r,K',rfl,_,hr,hb⟩
   obtain ⟨i1,i2⟩:=inv_pairs c h0
   have hp:overP P Q = c⁻¹.num:=by rw [i1,e1,e2];rfl
   have hq:overQ P Q = (c⁻¹.den:Int):=by rw [i2,e1];rfl
   exact ⟨_,rfl,fun w''=>⟨turn_opp (y:=.times c) (y2:=.times c⁻¹) (if_neg h0) hr,hp,hq⟩,hb⟩
 | shift k=>
  cases h
  refine other (show (60:UInt8) ≠ 43 by decide) (show (60:UInt8) ≠ 42 by decide) (fun r K' w'' hr hK=>⟨hr,?_⟩)
  have hK2:K = k:=hx
  subst hK2
  have h1:=hw.1
  have h2:=hw.2
  show K' = -K
  rw [hK,IntKind.wrap_i64];omega
 | set c=>cases h
 | take k=>cases h
 | drop k=>cases h
 | pick ps=>cases h
 | a=>cases h
 | _=>cases h;exact other (by decide) (by decide) (fun r K' w'' hr _=>⟨hr,trivial⟩)
theorem sp_kd (y:Sp):(90 < y.first.toNat ∨ y.first.toNat < 65) ∧ y.first ≠ 40 ∧ y.first ≠ 91:=by
 cases y <;> simp only [Sp.first] <;> decide
set_option maxRecDepth 100000 in
set_option maxHeartbeats 1600000 in
theorem flow_sp_fwd (y:Sp):PtS (.sp y) false:=by
 intro x ds n fb rb m N v vs xs ss w hx hw _ _ h _ _ hf hm hN hlen
 obtain ⟨Kd,P,Q,K,pa,pn,pc,F,G⟩:=x
 have hk:Kd = y.first:=hx.1
 obtain ⟨hk1,k40,k91⟩:=sp_kd y
 rw [← hk] at hk1 k40 k91
 have q40:((Kd.toNat:Int) == 40) = false:=u8_ne' (d:=40) k40
 have q91:((Kd.toNat:Int) == 91) = false:=u8_ne' (d:=91) k91
 have hb:Below w.heap.size w (w.alloc (.cells #[.int .u8 (Kd.toNat:Int),.int .i64 P,.int .i64 Q,.int .i64 K,.slice pa pn pc,.string F,.string G] 141)):=(Below.refl _ _).alloc (Nat.le_refl _) _
 have HF:=hide (hf.below hb)
 have hx2:RSt (w.alloc (.cells #[.int .u8 (Kd.toNat:Int),.int .i64 P,.int .i64 Q,.int .i64 K,.slice pa pn pc,.string F,.string G] 141)) ⟨Kd,P,Q,K,pa,pn,pc,F,G⟩ (.sp y):=⟨hx.keeps (fun k _ hk=>hb.block k (lt_of_block hk)),hw⟩
 have HX:=hide hx2
 have HB:=hide hb
 have hl:ss.length ≤ 1000000:=by rw [List.length_append] at hlen;omega
 have HE:=hide (show (Pt.sp y).flat false = [.sp y] by rw [Pt.flat];rfl)
 clear hx hx2 hf h hb hk k40 k91 hlen
 rw [show RC.value ⟨Kd,P,Q,K,pa,pn,pc,F,G⟩ = .agg #[.int .u8 (Kd.toNat:Int),.int .i64 P,.int .i64 Q,.int .i64 K,.slice pa pn pc,.string F,.string G] from rfl]
 go_enter Tryz.func124,Tryz.ntmps124
 rcases hk1 with hk1 | hk1
 ·have g1:(65:Int) ≤ (Kd.toNat:Int):=by omega
  have g2:¬ (Kd.toNat:Int) ≤ 90:=by omega
  clear hk1
  go_wp2_with fail
  refine (fadd_any (x:=⟨Kd,P,Q,K,pa,pn,pc,F,G⟩) (unhide HF) (unhide HX) hm hN hl).mono ?_
  rintro e w1 ⟨rfl,v1,xs1,h1,h2⟩
  have H1:=hide h1
  have H2:=hide h2
  clear h1 h2
  go_wp2_with fail
  go_end0
  exact ⟨rfl,v1,xs1,by rw [unhide HE];exact unhide H1,(Fc.of_below (unhide HB)).trans (unhide H2)⟩
 ·have g1:¬ (65:Int) ≤ (Kd.toNat:Int):=by omega
  clear hk1
  go_wp2_with fail
  refine (fadd_any (x:=⟨Kd,P,Q,K,pa,pn,pc,F,G⟩) (unhide HF) (unhide HX) hm hN hl).mono ?_
  rintro e w1 ⟨rfl,v1,xs1,h1,h2⟩
  have H1:=hide h1
  have H2:=hide h2
  clear h1 h2
  go_wp2_with fail
  go_end0
  exact ⟨rfl,v1,xs1,by rw [unhide HE];exact unhide H1,(Fc.of_below (unhide HB)).trans (unhide H2)⟩
theorem bx7 {w w1:World} (h:Below w.heap.size w w1) (o:Obj):Below w.heap.size w (w1.alloc o):=h.alloc h.size _
set_option maxRecDepth 100000 in
set_option maxHeartbeats 1600000 in
theorem flow_sp_bwd {y y2:Sp} (ho:y.opp = some y2) (hw2:y2.wf):PtS (.sp y) true:=by
 intro x ds n fb rb m N v vs xs ss w hx hw _ _ h _ _ hf hm hN hlen
 obtain ⟨Kd,P,Q,K,pa,pn,pc,F,G⟩:=x
 have hk:Kd = y.first:=hx.1
 obtain ⟨hk1,k40,k91⟩:=sp_kd y
 rw [← hk] at hk1 k40 k91
 have q40:((Kd.toNat:Int) == 40) = false:=u8_ne' (d:=40) k40
 have q91:((Kd.toNat:Int) == 91) = false:=u8_ne' (d:=91) k91
 have hb:Below w.heap.size w (w.alloc (.cells #[.int .u8 (Kd.toNat:Int),.int .i64 P,.int .i64 Q,.int .i64 K,.slice pa pn pc,.string F,.string G] 141)):=(Below.refl _ _).alloc (Nat.le_refl _) _
 have hx2:RPt (w.alloc (.cells #[.int .u8 (Kd.toNat:Int),.int .i64 P,.int .i64 Q,.int .i64 K,.slice pa pn pc,.string F,.string G] 141)) ⟨Kd,P,Q,K,pa,pn,pc,F,G⟩ (.sp y):=hx.keeps (fun k _ hk=>hb.block k (lt_of_block hk))
 have HX:=hide hx2
 have HB:=hide hb
 have HF:=hide hf
 have HO:=hide ho
 have hl:ss.length ≤ 1000000:=by rw [List.length_append] at hlen;omega
 have HE:=hide (show (Pt.sp y).flat true = [.sp y2] by rw [Pt.flat,ho];rfl)
 clear hx hx2 hf h hb hk k40 k91 hlen ho
 rw [show RC.value ⟨Kd,P,Q,K,pa,pn,pc,F,G⟩ = .agg #[.int .u8 (Kd.toNat:Int),.int .i64 P,.int .i64 Q,.int .i64 K,.slice pa pn pc,.string F,.string G] from rfl]
 go_enter Tryz.func124,Tryz.ntmps124
 rcases hk1 with hk1 | hk1
 ·have g1:(65:Int) ≤ (Kd.toNat:Int):=by omega
  have g2:¬ (Kd.toNat:Int) ≤ 90:=by omega
  clear hk1
  go_wp2_with fail
  refine (against_step (unhide HO) hw (unhide HX)).mono ?_
  rintro e w1 ⟨⟨Kd',P',Q',K',pa',pn',pc',F',G'⟩,rfl,hx',hb1⟩
  rw [show RC.value ⟨Kd',P',Q',K',pa',pn',pc',F',G'⟩ = .agg #[.int .u8 (Kd'.toNat:Int),.int .i64 P',.int .i64 Q',.int .i64 K',.slice pa' pn' pc',.string F',.string G'] from rfl]
  have HX':=hide hx'
  have hb2:=(unhide HB).trans (hb1.mono (unhide HB).size)
  have HB2:=hide hb2
  clear hx' hb1 hb2
  go_wp2_with fail
  refine (fadd_any (x:=⟨Kd',P',Q',K',pa',pn',pc',F',G'⟩) (s:=.sp y2) ((unhide HF).below (bx7 (unhide HB2) _)) ⟨unhide HX' _,hw2⟩ hm hN hl).mono ?_
  rintro e w2 ⟨rfl,v1,xs1,h1,h2⟩
  have H1:=hide h1
  have H2:=hide h2
  clear h1 h2
  go_wp2_with fail
  go_end0
  exact ⟨rfl,v1,xs1,by rw [unhide HE];exact unhide H1,(Fc.of_below (bx7 (unhide HB2) _)).trans (unhide H2)⟩
 ·have g1:¬ (65:Int) ≤ (Kd.toNat:Int):=by omega
  clear hk1
  go_wp2_with fail
  refine (against_step (unhide HO) hw (unhide HX)).mono ?_
  rintro e w1 ⟨⟨Kd',P',Q',K',pa',pn',pc',F',G'⟩,rfl,hx',hb1⟩
  rw [show RC.value ⟨Kd',P',Q',K',pa',pn',pc',F',G'⟩ = .agg #[.int .u8 (Kd'.toNat:Int),.int .i64 P',.int .i64 Q',.int .i64 K',.slice pa' pn' pc',.string F',.string G'] from rfl]
  have HX':=hide hx'
  have hb2:=(unhide HB).trans (hb1.mono (unhide HB).size)
  have HB2:=hide hb2
  clear hx' hb1 hb2
  go_wp2_with fail
  refine (fadd_any (x:=⟨Kd',P',Q',K',pa',pn',pc',F',G'⟩) (s:=.sp y2) ((unhide HF).below (bx7 (unhide HB2) _)) ⟨unhide HX' _,hw2⟩ hm hN hl).mono ?_
  rintro e w2 ⟨rfl,v1,xs1,h1,h2⟩
  have H1:=hide h1
  have H2:=hide h2
  clear h1 h2
  go_wp2_with fail
  go_end0
  exact ⟨rfl,v1,xs1,by rw [unhide HE];exact unhide H1,(Fc.of_below (bx7 (unhide HB2) _)).trans (unhide H2)⟩
theorem box_kept {fb rb m n:Nat} {v v':Value} {xs:List RC} {ss:List St} {w w':World} {x:RC} (hf:FlIs w fb rb m n v xs ss) (hc:Fc fb v (w.alloc (.cells x.cells.toArray 141)) v' w'):w'.heap[w.heap.size]? = some (.cells x.cells.toArray 141 (0,0)) :=
 (hc.young hf (by simp) (Nat.le_refl _)).trans (heap_alloc_new _ _)
set_option maxRecDepth 100000 in
set_option maxHeartbeats 3200000 in
theorem flow_name {c:UInt8} {t:Tm} {bk:Bool} (hT:TmS t bk):PtS (.name c t) bk:=by
 intro x ds n fb rb m N v vs xs ss w hx hw he _ h hn hl hf hm hN hlen
 obtain ⟨Kd,P,Q,K,pa,pn,pc,F,G⟩:=x
 have hk:Kd = c:=hx
 rw [Pt.wf] at hw
 rw [Pt.inEnv] at he
 obtain ⟨h65,h90,_⟩:=hw
 subst hk
 have q40:((Kd.toNat:Int) == 40) = false:=by rw [beq_eq_false_iff_ne];omega
 have q91:((Kd.toNat:Int) == 91) = false:=by rw [beq_eq_false_iff_ne];omega
 have g1:(65:Int) ≤ (Kd.toNat:Int):=by omega
 have g2:(Kd.toNat:Int) ≤ 90:=by omega
 obtain ⟨j,hj,hjn,hfi,hjc,hjt⟩:∃ j,∃ (hj:j < ds.length),j < n ∧ findI ds Kd n = (j:Int) ∧ ds[j].c = Kd ∧ envOf (ds.take n) Kd = some ds[j].t:=by
  rcases findI_spec ds Kd n hn with h | ⟨_,h⟩
  ·exact h
  ·rw [he] at h;cases h
 obtain rfl:t = ds[j].t:=Option.some.inj (he.symm.trans hjt)
 have hgood:=h.ok.good j hj
 have hsz:ds[j].s.size ≤ 1000:=by have:=hgood.len;simp at this;omega
 have HG:=hide hgood.term
 have HFI:=hide hfi
 have HT:=hide hT
 have hb:Below w.heap.size w (w.alloc (.cells #[.int .u8 (Kd.toNat:Int),.int .i64 P,.int .i64 Q,.int .i64 K,.slice pa pn pc,.string F,.string G] 141)):=(Below.refl _ _).alloc (Nat.le_refl _) _
 have HF0:=hide hf
 have HF:=hide (hf.below hb)
 have H:=hide (h.below hb)
 have HB:=hide hb
 have hl0:ss.length ≤ 1000000:=by rw [List.length_append] at hlen;omega
 have HE:=hide (show (Pt.name Kd ds[j].t).flat bk = [.rest] ++ ds[j].t.flat bk by rw [Pt.flat];rfl)
 rw [Pt.flat,show (St.rest :: ds[j].t.flat bk) = [.rest] ++ ds[j].t.flat bk from rfl,← lay_next] at hlen
 have HLen:=hide hlen
 clear hx hf h hb hlen hT hgood hfi he hjt hjc
 rw [show RC.value ⟨Kd,P,Q,K,pa,pn,pc,F,G⟩ = .agg #[.int .u8 (Kd.toNat:Int),.int .i64 P,.int .i64 Q,.int .i64 K,.slice pa pn pc,.string F,.string G] from rfl]
 go_enter Tryz.func124,Tryz.ntmps124
 go_wp2_with fail
 refine (fadd_any (x:=rdot 46) (s:=.rest) (unhide HF) rfl hm hN hl0).mono ?_
 rintro e w1 ⟨rfl,v1,xs1,h1,h2⟩
 have hbox:=box_kept (x:=⟨Kd,P,Q,K,pa,pn,pc,F,G⟩) (unhide HF0) h2
 have hs1:=(unhide H).flow (unhide HF) h2
 obtain ⟨ao,cap,hvs,hcs⟩:=hs1.slice
 obtain ⟨g,rfl,hcell⟩:=hcs (by omega)
 subst hvs
 have d0:w1.cell? ⟨w.heap.size,0,none⟩ = some (.int .u8 (Kd.toNat:Int)):=blk_cell hbox 0
 have e0:w1.cell? ⟨fb,0,none⟩ = some (.pointer (some ⟨rb,0,none⟩)):=blk_cell h1.blk 0
 have r0:w1.cell? ⟨rb,0,none⟩ = some (.slice (some ⟨g,0,none⟩) ds.length cap):=blk_cell hs1.blk 0
 have k1:w1.cell? ⟨g,j * 3 + 1,none⟩ = some (.string ds[j].s):=hcell j hj 1 (by omega)
 have hjl:(j:Int) < (ds.length:Int):=by omega
 have haf:=after_le (m:=m) [.rest] N hN
 have H1:=hide h1
 have H2:=hide h2
 have HS:=hide hs1
 have hz1:w.heap.size < w1.heap.size:=lt_of_block hbox
 have hz2:fb < w1.heap.size:=lt_of_block h1.blk
 have hz3:rb < w1.heap.size:=lt_of_block hs1.blk
 clear h1 h2 hs1 hbox hcell hcs
 go_wp2_with fail
 go_quiet (first | (go_at_call 120;exact Calls.quiet_of_same (v:=.int .i64 (j:Int)) ((find_any Kd n _ ((unhide HS).drewN _) hn hl).mono (fun e w' h=>⟨by rw [h.1,unhide HFI],h.2⟩))))
 go_wp2_with fail
 refine (unhide HT (unhide HG) hsz ((unhide HS).drewN _) (by omega) hl ((unhide H1).below (below_dr (Below.refl _ _) _)) hm haf (unhide HLen)).mono ?_
 rintro e w2 ⟨rfl,h3⟩
 have H3:=hide h3
 clear h3
 go_wp2_with fail
 go_end0
 refine ⟨rfl,?_⟩
 rw [unhide HE]
 exact FlGot.then (((Fc.of_below (unhide HB)).trans (unhide H2)).trans (Fc.of_below (below_dr (Below.refl _ _) _))) (unhide H3)
end Go.Proofs.YtikiaijgcjjloabGreatDoor

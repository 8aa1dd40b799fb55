import Derived.Test.YtikiaijgcjjloabGreatDoorPart12
import Derived.Test.YtikiaijgcjjloabGreatDoorPart7
import Derived.Deep.DeepCutAuto
import Derived.Deep.CutBlock

namespace Go.Proofs.YtikiaijgcjjloabGreatDoor
open Go Go.RowKit M Go.Lib
theorem list_empty (s:ByteArray) (h:s.size = 0):s.data.toList = []:=List.length_eq_zero_iff.1 (by rw [len_size];exact h)
theorem none_empty (s:ByteArray) (h:s.size = 0):∀ t b,¬ IsNum s.data.toList t b:=by
 apply rr_bad
 rw [list_empty s h]
 exact Or.inl (by decide)
set_option maxRecDepth 100000 in
set_option maxHeartbeats 400000 in
theorem RRead_nil (w:World) :
  Calls Tryz.prog 115 #[.string ⟨#[]⟩] w fun e w'=>RReadSays ⟨#[]⟩ e ∧ Below w.heap.size w w':=by
 have HE:=hide (none_empty ⟨#[]⟩ rfl)
 go_enter Tryz.func115,Tryz.ntmps115
 go_wp2_with fail
 go_loopw [5,6,7] (fun x y z wx=>x = .int .i64 0 ∧ y = .int .i64 1 ∧ z = .int .i64 0 ∧ (w.alloc (.cells #[.int .i64 0,.int .i64 0] 139)) = wx) (fun _ _ _ _=>0)
 case atStart=>exact ⟨rfl,rfl,rfl,rfl⟩
 case round=>
  obtain ⟨rfl,rfl,rfl,rfl⟩:=hrel
  go_wp2_with fail
  refine (value_any (ByteArray.extract ⟨#[]⟩ 0 0) _ (by decide)).mono ?_
  rintro e w' ⟨rfl,rfl⟩
  rw [show valueOf (ByteArray.extract ⟨#[]⟩ 0 0).data.toList = -1 from by decide]
  go_wp2_with fail
  exact bodyPost_ret (v:=.tuple #[.agg #[.int .i64 0,.int .i64 1],.bool false]) (by simp [results,Tryz.results115,go_sem]) rfl ⟨Or.inr ⟨unhide HE,_,_,rfl⟩,(by repeat (first | exact Below.refl _ _ | refine below_dr ?_ _ | refine Below.drew ?_ | refine Below.setCell ?_ (by simp) _ | refine Below.alloc ?_ (by simp) _))⟩
theorem RRead_empty (s:ByteArray) (w:World) (h0:s.size = 0) :
  Calls Tryz.prog 115 #[.string s] w fun e w'=>RReadSays s e ∧ Below w.heap.size w w':=by
 obtain rfl:s = ⟨#[]⟩:=by
  apply ByteArray.ext
  have:=list_empty s h0
  simpa using this
 exact RRead_nil w
theorem RRead_any (s:ByteArray) (w:World) (hs:s.size ≤ maxLen) :
  Calls Tryz.prog 115 #[.string s] w fun e w'=>RReadSays s e ∧ Below w.heap.size w w':=by
 by_cases h0:s.size = 0
 ·exact RRead_empty s w h0
 ·cases hn:neg s.data.toList with
  | true=>exact RRead_neg s w hs (by omega) hn
  | false=>exact RRead_pos s w hs (by omega) hn
end Go.Proofs.YtikiaijgcjjloabGreatDoor

namespace Go.Proofs.YtikiaijgcjjloabGreatDoor
open Go Go.RowKit M T Go.Lib
theorem among_step {s:ByteArray} {c:UInt8} {j:Nat} (hj:j < s.size) (h:∀ i (h:i < s.size),i < j → s[i] ≠ c) (hk:s[j] ≠ c):∀ i (h:i < s.size),i < j + 1 → s[i] ≠ c:=by
 intro i hi hlt
 by_cases e:i = j
 ·subst e;exact hk
 ·exact h i hi (by omega)
theorem mem_get {s:ByteArray} {j:Nat} (h:j < s.size):s[j] ∈ s.data.toList:=by
 have:s[j] = s.data.toList[j]'(by simpa using h):=rfl
 rw [this]
 exact List.getElem_mem _
theorem u8_ne' {c d:UInt8} (h:c ≠ d):((c.toNat:Int) == (d.toNat:Int)) = false:=by
 rw [beq_eq_false_iff_ne]
 intro e
 exact h (UInt8.toNat_inj.1 (by omega))
set_option maxRecDepth 100000 in
set_option maxHeartbeats 600000 in
theorem among_any (c:UInt8) (s:ByteArray) (w:World) (hs:s.size ≤ 1000000) :
  Calls Tryz.prog 83 #[.int .u8 (c.toNat:Int),.string s] w fun e w'=>e = .returned (.bool (decide (c ∈ s.data.toList))) ∧ w = w':=by
 go_enter Tryz.func83,Tryz.ntmps83
 go_wp2_with fail
 go_loopw [5] (fun i wr=>∃ j:Nat,j ≤ s.size ∧ i = .int .i64 (j:Int) ∧ Hid (∀ i (h:i < s.size),i < j → s[i] ≠ c) ∧ w = wr) (fun i _=>s.size - (RowKit.intOf i).toNat)
 case atStart=>exact ⟨0,by omega,rfl,fun i _ h=>by omega,rfl⟩
 case round=>
  obtain ⟨j,hj,rfl,HJ,rfl⟩:=hrel
  by_cases hlt:j < s.size
  ·by_cases hk:s[j] = c
   ·have hb:((s[j].toNat:Int) == (c.toNat:Int)) = true:=by rw [hk];simp
    have HM:=hide (show c ∈ s.data.toList from hk ▸ mem_get hlt)
    clear hk
    go_wp2_with fail
    go_ret
    exact ⟨ret_bool (by simpa using unhide HM),rfl⟩
   ·have hb:((s[j].toNat:Int) == (c.toNat:Int)) = false:=u8_ne' hk
    have HJ2:=hide (among_step hlt (unhide HJ) hk)
    clear hk
    go_wp2_with fail
    go_roundw
    case rel=>exact ⟨j + 1,by omega,by go_num,HJ2,by trivial⟩
    case measure=>simp [RowKit.intOf];omega
  ·have hlt':¬ (j:Int) < (s.size:Int):=by omega
   have HM:=hide (show c ∉ s.data.toList from fun hm=>by
    obtain ⟨i,hi,e⟩:=List.getElem_of_mem hm
    exact unhide HJ i (by simpa using hi) (by simp at hi;omega) e)
   go_wp2_with fail
   go_ret
   exact ⟨ret_bool (by simpa using unhide HM),rfl⟩
set_option maxRecDepth 100000 in
set_option maxHeartbeats 1600000 in
theorem span_false (s:ByteArray) (a:Nat) (w:World) (ha:a ≤ s.size) (hs:s.size ≤ 1000000) :
  Calls Tryz.prog 171 #[.string s,.int .i64 (a:Int),.bool false] w fun e w'=>e = .returned (.int .i64 ((a + nw s a:Nat):Int)) ∧ w = w':=by
 go_enter Tryz.func171,Tryz.ntmps171
 obtain ⟨f,hf⟩:∃ f,f = decide ((rest s a).head? = some 45):=⟨_,rfl⟩
 have HF:=hide hf
 clear hf
 go_upto_region 1 with fail
 go_cut [16] (fun v wx=>v = .bool f ∧ w = wx)
 case first=>
  by_cases h1:a < s.size
  ·by_cases h2:s[a] = 45
   ·have h2':((s[a].toNat:Int) == 45) = true:=by rw [h2];rfl
    have HN:=hide (show f = true by rw [unhide HF,rest_lt h1,h2];rfl)
    clear h2
    go_wp2_with fail
    go_meet
    exact ⟨by rw [unhide HN],rfl⟩
   ·have h2':((s[a].toNat:Int) == 45) = false:=u8_ne' (d:=45) h2
    have HN:=hide (show f = false by rw [unhide HF,rest_lt h1];simp [h2])
    clear h2
    go_wp2_with fail
    go_meet
    exact ⟨by rw [unhide HN],rfl⟩
  ·have h1':¬ (a:Int) < (s.size:Int):=by omega
   have HN:=hide (show f = false by rw [unhide HF,rest_ge (by omega)];rfl)
   go_wp2_with fail
   go_meet
   exact ⟨by rw [unhide HN],rfl⟩
 case rest=>
 obtain ⟨rfl,rfl⟩:=hcut
 go_upto_if 16 with fail
 go_cut [1] (fun v wx=>(∃ b:Nat,v = .int .i64 (b:Int) ∧ b ≤ s.size ∧ a + nw s a = b + nd s b) ∧ w = wx)
 case first=>
  cases f with
  | true=>
   have hh:(rest s a).head? = some 45:=by simpa using (unhide HF).symm
   have h1:a < s.size:=by
    rcases Nat.lt_or_ge a s.size with h | h
    ·exact h
    ·rw [rest_ge h] at hh;cases hh
   have HN:=hide (nw_minus (l:=rest s (a + 1)) (by have:=head_cons hh;rw [this,rest_add]))
   clear hh
   go_wp2_with fail
   go_meet
   exact ⟨⟨a + 1,by go_num,by omega,by rw [unhide HN];omega⟩,rfl⟩
  | false=>
   have HN:=hide (nw_plain (s:=s) (a:=a) (by simpa using (unhide HF).symm))
   go_wp2_with fail
   go_meet
   exact ⟨⟨a,rfl,ha,by rw [unhide HN]⟩,rfl⟩
 case rest=>
  obtain ⟨⟨b,rfl,hb,he⟩,rfl⟩:=hcut
  have HE:=hide he
  clear he
  go_wp2_with fail
  go_loopw [1] (fun i wr=>∃ j:Nat,j ≤ s.size ∧ i = .int .i64 (j:Int) ∧ Hid (a + nw s a = j + nd s j) ∧ w = wr) (fun i _=>s.size - (RowKit.intOf i).toNat)
  case atStart=>exact ⟨b,hb,rfl,HE,rfl⟩
  case round=>
   obtain ⟨j,hj,rfl,HJ,rfl⟩:=hrel
   by_cases h1:j < s.size
   ·by_cases h2:48 ≤ s[j].toNat
    ·by_cases h3:s[j].toNat ≤ 57
     ·have HN:=hide (nd_step h1 ((isDig_iff _).2 ⟨h2,h3⟩))
      go_wp2_with fail
      go_roundw
      case rel=>exact ⟨j + 1,by omega,by go_num,by have:=unhide HJ;have:=unhide HN;show _ = _;omega,by trivial⟩
      case measure=>simp [RowKit.intOf];omega
     ·have h3n:¬ (s[j].toNat:Int) ≤ 57:=by omega
      have HN:=hide (nd_stop h1 ((isDig_not _).2 (by omega)))
      go_wp2_with fail
      go_ret
      exact ⟨ret_int (by have:=unhide HJ;have:=unhide HN;omega),rfl⟩
    ·have h2n:¬ (48:Int) ≤ (s[j].toNat:Int):=by omega
     have HN:=hide (nd_stop h1 ((isDig_not _).2 (by omega)))
     go_wp2_with fail
     go_ret
     exact ⟨ret_int (by have:=unhide HJ;have:=unhide HN;omega),rfl⟩
   ·have h1':¬ (j:Int) < (s.size:Int):=by omega
    have HN:=hide (nd_end h1)
    go_wp2_with fail
    go_ret
    exact ⟨ret_int (by have:=unhide HJ;have:=unhide HN;omega),rfl⟩
theorem am_open (c:UInt8):decide (c ∈ (⟨#[40,91]⟩:ByteArray).data.toList) = opens c:=by
 unfold opens
 by_cases h1:c = 40 <;> by_cases h2:c = 91 <;> simp [h1,h2]
theorem am_shut (c:UInt8):decide (c ∈ (⟨#[41,93]⟩:ByteArray).data.toList) = shuts c:=by
 unfold shuts
 by_cases h1:c = 41 <;> by_cases h2:c = 93 <;> simp [h1,h2]
theorem not_both (c:UInt8) (h1:opens c = true) (h2:shuts c = true):False:=by
 unfold opens at h1
 unfold shuts at h2
 simp only [Bool.or_eq_true,beq_iff_eq] at h1 h2
 rcases h1 with rfl | rfl <;> rcases h2 with h | h <;> cases h
theorem map_shift (o:Option Nat) (a b:Nat):(o.map (· + a)).map (· + b) = o.map (· + (a + b)):=map_add o a b
theorem close_step {s:ByteArray} {a j:Nat} {d d':Int} (hj:j < s.size) (haj:a ≤ j) (h:closeIdx (rest s a) 0 = (closeIdx (rest s j) d).map (· + (j - a))) (hd:deeper s[j] d = d') (hn:d' ≠ 0):closeIdx (rest s a) 0 = (closeIdx (rest s (j + 1)) d').map (· + (j + 1 - a)):=by
 rw [h,rest_lt hj,closeIdx,hd,if_neg hn,map_shift]
 congr 1
 funext x
 show x + (1 + (j - a)) = x + (j + 1 - a)
 omega
theorem close_hit {s:ByteArray} {a j:Nat} {d d':Int} (hj:j < s.size) (h:closeIdx (rest s a) 0 = (closeIdx (rest s j) d).map (· + (j - a))) (hd:deeper s[j] d = d') (hn:d' = 0):closeIdx (rest s a) 0 = some (j - a):=by
 rw [h,rest_lt hj,closeIdx,hd,if_pos hn]
 simp
theorem close_end {s:ByteArray} {a j:Nat} {d:Int} (hj:¬ j < s.size) (h:closeIdx (rest s a) 0 = (closeIdx (rest s j) d).map (· + (j - a))):closeIdx (rest s a) 0 = none:=by
 rw [h,rest_ge (by omega)];rfl
theorem colon_step {s:ByteArray} {j:Nat} {d d':Int} (hj:j < s.size) (h:colonIdx (rest s 0) 0 = (colonIdx (rest s j) d).map (· + j)) (hd:deeper s[j] d = d') (hn:¬ (d' = 0 ∧ s[j] = 58)):colonIdx (rest s 0) 0 = (colonIdx (rest s (j + 1)) d').map (· + (j + 1)):=by
 rw [h,rest_lt hj,colonIdx,hd,if_neg hn,map_shift]
 congr 1
 funext x
 show x + (1 + j) = x + (j + 1)
 omega
theorem colon_hit {s:ByteArray} {j:Nat} {d d':Int} (hj:j < s.size) (h:colonIdx (rest s 0) 0 = (colonIdx (rest s j) d).map (· + j)) (hd:deeper s[j] d = d') (hn:d' = 0 ∧ s[j] = 58):colonIdx (rest s 0) 0 = some j:=by
 rw [h,rest_lt hj,colonIdx,hd,if_pos hn]
 simp
theorem colon_end {s:ByteArray} {j:Nat} {d:Int} (hj:¬ j < s.size) (h:colonIdx (rest s 0) 0 = (colonIdx (rest s j) d).map (· + j)):colonIdx (rest s 0) 0 = none:=by
 rw [h,rest_ge (by omega)];rfl
theorem deep_o {c:UInt8} (h1:opens c = true) (h2:shuts c = false) (d:Int):deeper c d = d + 1:=by unfold deeper;rw [h1,h2];simp;omega
theorem deep_s {c:UInt8} (h1:opens c = false) (h2:shuts c = true) (d:Int):deeper c d = d - 1:=by unfold deeper;rw [h1,h2];simp;omega
theorem deep_n {c:UInt8} (h1:opens c = false) (h2:shuts c = false) (d:Int):deeper c d = d:=by unfold deeper;rw [h1,h2];simp
theorem beq_f' {x y:Int} (h:x ≠ y):(x == y) = false:=by rw [beq_eq_false_iff_ne];exact h
set_option maxRecDepth 100000 in
set_option maxHeartbeats 3200000 in
theorem closing_any (s:ByteArray) (a:Nat) (w:World) (ha:a ≤ s.size) (hs:s.size ≤ 1000000) :
  Calls Tryz.prog 183 #[.string s,.int .i64 (a:Int)] w fun e w'=>((∃ k:Nat,closeIdx (rest s a) 0 = some k ∧ e = .returned (.int .i64 ((a + k:Nat):Int))) ∨ (closeIdx (rest s a) 0 = none ∧ e = .returned (.int .i64 (-1)))) ∧ w = w':=by
 go_enter Tryz.func183,Tryz.ntmps183
 go_wp2_with fail
 go_loopw [5,6,7,8] (fun dv i _ _ wr=>∃ (j:Nat) (d:Int),a ≤ j ∧ j ≤ s.size ∧ i = .int .i64 (j:Int) ∧ dv = .int .i64 d ∧ -(j:Int) ≤ d ∧ d ≤ (j:Int) ∧ Hid (closeIdx (rest s a) 0 = (closeIdx (rest s j) d).map (· + (j - a))) ∧ w = wr) (fun _ i _ _ _=>s.size - (RowKit.intOf i).toNat)
 case atStart=>exact ⟨a,0,Nat.le_refl _,ha,rfl,rfl,by omega,by omega,by show _ = _;simp,rfl⟩
 case round=>
  obtain ⟨j,d,haj,hj,rfl,rfl,hd1,hd2,HR,rfl⟩:=hrel
  by_cases hlt:j < s.size
  ·go_wp2_with fail
   refine (among_any s[j] ⟨#[40,91]⟩ _ (by decide)).mono ?_
   rintro e w' ⟨rfl,rfl⟩
   rw [am_open]
   go_wp2_with fail
   refine (among_any s[j] ⟨#[41,93]⟩ _ (by decide)).mono ?_
   rintro e w' ⟨rfl,rfl⟩
   rw [am_shut]
   cases ho:opens s[j] with
   | true=>
    cases hsh:shuts s[j] with
    | true=>exact absurd hsh (fun h=>not_both _ ho h)
    | false=>
     have HD:=hide (deep_o ho hsh d)
     clear ho hsh
     by_cases h0:d + 1 = 0
     ·have hb:((d + 1) == 0) = true:=by rw [h0];rfl
      have HH:=hide (close_hit hlt (unhide HR) (unhide HD) h0)
      clear h0
      go_wp2_with fail
      go_ret
      exact ⟨Or.inl ⟨j - a,unhide HH,ret_int (by omega)⟩,rfl⟩
     ·have hb:((d + 1) == 0) = false:=beq_f' h0
      have HH:=hide (close_step hlt haj (unhide HR) (unhide HD) h0)
      clear h0
      go_wp2_with fail
      go_roundw
      case rel=>exact ⟨j + 1,d + 1,by omega,by omega,by go_num,rfl,by omega,by omega,HH,by trivial⟩
      case measure=>simp [RowKit.intOf];omega
   | false=>
    cases hsh:shuts s[j] with
    | true=>
     have HD:=hide (deep_s ho hsh d)
     clear ho hsh
     by_cases h0:d - 1 = 0
     ·have hb:((d - 1) == 0) = true:=by rw [h0];rfl
      have HH:=hide (close_hit hlt (unhide HR) (unhide HD) h0)
      clear h0
      go_wp2_with fail
      go_ret
      exact ⟨Or.inl ⟨j - a,unhide HH,ret_int (by omega)⟩,rfl⟩
     ·have hb:((d - 1) == 0) = false:=beq_f' h0
      have HH:=hide (close_step hlt haj (unhide HR) (unhide HD) h0)
      clear h0
      go_wp2_with fail
      go_roundw
      case rel=>exact ⟨j + 1,d - 1,by omega,by omega,by go_num,rfl,by omega,by omega,HH,by trivial⟩
      case measure=>simp [RowKit.intOf];omega
    | false=>
     have HD:=hide (deep_n ho hsh d)
     clear ho hsh
     by_cases h0:d = 0
     ·have hb:((d) == 0) = true:=by rw [h0];rfl
      have HH:=hide (close_hit hlt (unhide HR) (unhide HD) h0)
      clear h0
      go_wp2_with fail
      go_ret
      exact ⟨Or.inl ⟨j - a,unhide HH,ret_int (by omega)⟩,rfl⟩
     ·have hb:((d) == 0) = false:=beq_f' h0
      have HH:=hide (close_step hlt haj (unhide HR) (unhide HD) h0)
      clear h0
      go_wp2_with fail
      go_roundw
      case rel=>exact ⟨j + 1,d,by omega,by omega,by go_num,rfl,by omega,by omega,HH,by trivial⟩
      case measure=>simp [RowKit.intOf];omega
  ·have hlt':¬ (j:Int) < (s.size:Int):=by omega
   have HH:=hide (close_end hlt (unhide HR))
   go_wp2_with fail
   go_ret
   exact ⟨Or.inr ⟨unhide HH,rfl⟩,rfl⟩
set_option maxRecDepth 100000 in
set_option maxHeartbeats 3200000 in
theorem colon_any (s : ByteArray) (w : World) (hs : s.size ≤ 1000000) :
    Calls Tryz.prog 184 #[.string s] w fun e w' => ((∃ k : Nat, colonIdx (rest s 0) 0 = some k ∧ e = .returned (.int .i64 (k : Int))) ∨ (colonIdx (rest s 0) 0 = none ∧ e = .returned (.int .i64 (-1)))) ∧ w = w' := by
  go_enter Tryz.func184, Tryz.ntmps184
  go_wp2_with fail
  go_loopw [3, 4, 5, 6] (fun dv i _ _ wr => ∃ (j : Nat) (d : Int), j ≤ s.size ∧ i = .int .i64 (j : Int) ∧ dv = .int .i64 d ∧ -(j : Int) ≤ d ∧ d ≤ (j : Int) ∧ Hid (colonIdx (rest s 0) 0 = (colonIdx (rest s j) d).map (· + j)) ∧ w = wr) (fun _ i _ _ _ => s.size - (RowKit.intOf i).toNat)
  case atStart => exact ⟨0, 0, by omega, rfl, rfl, by omega, by omega, by show _ = _; simp, rfl⟩
  case round =>
    obtain ⟨j, d, hj, rfl, rfl, hd1, hd2, HR, rfl⟩ := hrel
    by_cases hlt : j < s.size
    · go_wp2_with fail
      refine (among_any s[j] ⟨#[40, 91]⟩ _ (by decide)).mono ?_
      rintro e w' ⟨rfl, rfl⟩
      rw [am_open]
      go_wp2_with fail
      refine (among_any s[j] ⟨#[41, 93]⟩ _ (by decide)).mono ?_
      rintro e w' ⟨rfl, rfl⟩
      rw [am_shut]
      cases ho : opens s[j] with
      | true =>
        cases hsh : shuts s[j] with
        | true => exact absurd hsh (fun h => not_both _ ho h)
        | false =>
          have HD := hide (deep_o ho hsh d)
          clear ho hsh
          by_cases h0 : d + 1 = 0
          · have hb : ((d + 1) == 0) = true := by rw [h0]; rfl
            by_cases h58 : s[j] = 58
            · have hb2 : ((s[j].toNat : Int) == 58) = true := by rw [h58]; rfl
              have HH := hide (colon_hit hlt (unhide HR) (unhide HD) ⟨h0, h58⟩)
              clear h0 h58
              go_wp2_with fail
              go_ret
              exact ⟨Or.inl ⟨j, unhide HH, rfl⟩, rfl⟩
            · have hb2 : ((s[j].toNat : Int) == 58) = false := u8_ne' (d := 58) h58
              have HH := hide (colon_step hlt (unhide HR) (unhide HD) (fun h => h58 h.2))
              have HZ := hide h0
              clear h0 h58
              go_wp2_with fail
              go_roundw
              case rel => exact ⟨j + 1, d + 1, by omega, by go_num, rfl, by omega, by omega, HH, by trivial⟩
              case measure => simp [RowKit.intOf]; omega
          · have hb : ((d + 1) == 0) = false := beq_f' h0
            have HH := hide (colon_step hlt (unhide HR) (unhide HD) (fun h => h0 h.1))
            clear h0
            go_wp2_with fail
            go_roundw
            case rel => exact ⟨j + 1, d + 1, by omega, by go_num, rfl, by omega, by omega, HH, by trivial⟩
            case measure => simp [RowKit.intOf]; omega
      | false =>
        cases hsh : shuts s[j] with
        | true =>
          have HD := hide (deep_s ho hsh d)
          clear ho hsh
          by_cases h0 : d - 1 = 0
          · have hb : ((d - 1) == 0) = true := by rw [h0]; rfl
            by_cases h58 : s[j] = 58
            · have hb2 : ((s[j].toNat : Int) == 58) = true := by rw [h58]; rfl
              have HH := hide (colon_hit hlt (unhide HR) (unhide HD) ⟨h0, h58⟩)
              clear h0 h58
              go_wp2_with fail
              go_ret
              exact ⟨Or.inl ⟨j, unhide HH, rfl⟩, rfl⟩
            · have hb2 : ((s[j].toNat : Int) == 58) = false := u8_ne' (d := 58) h58
              have HH := hide (colon_step hlt (unhide HR) (unhide HD) (fun h => h58 h.2))
              have HZ := hide h0
              clear h0 h58
              go_wp2_with fail
              go_roundw
              case rel => exact ⟨j + 1, d - 1, by omega, by go_num, rfl, by omega, by omega, HH, by trivial⟩
              case measure => simp [RowKit.intOf]; omega
          · have hb : ((d - 1) == 0) = false := beq_f' h0
            have HH := hide (colon_step hlt (unhide HR) (unhide HD) (fun h => h0 h.1))
            clear h0
            go_wp2_with fail
            go_roundw
            case rel => exact ⟨j + 1, d - 1, by omega, by go_num, rfl, by omega, by omega, HH, by trivial⟩
            case measure => simp [RowKit.intOf]; omega
        | false =>
          have HD := hide (deep_n ho hsh d)
          clear ho hsh
          by_cases h0 : d = 0
          · have hb : ((d) == 0) = true := by rw [h0]; rfl
            by_cases h58 : s[j] = 58
            · have hb2 : ((s[j].toNat : Int) == 58) = true := by rw [h58]; rfl
              have HH := hide (colon_hit hlt (unhide HR) (unhide HD) ⟨h0, h58⟩)
              clear h0 h58
              go_wp2_with fail
              go_ret
              exact ⟨Or.inl ⟨j, unhide HH, rfl⟩, rfl⟩
            · have hb2 : ((s[j].toNat : Int) == 58) = false := u8_ne' (d := 58) h58
              have HH := hide (colon_step hlt (unhide HR) (unhide HD) (fun h => h58 h.2))
              have HZ := hide h0
              clear h0 h58
              go_wp2_with fail
              go_roundw
              case rel => exact ⟨j + 1, d, by omega, by go_num, rfl, by omega, by omega, HH, by trivial⟩
              case measure => simp [RowKit.intOf]; omega
          · have hb : ((d) == 0) = false := beq_f' h0
            have HH := hide (colon_step hlt (unhide HR) (unhide HD) (fun h => h0 h.1))
            clear h0
            go_wp2_with fail
            go_roundw
            case rel => exact ⟨j + 1, d, by omega, by go_num, rfl, by omega, by omega, HH, by trivial⟩
            case measure => simp [RowKit.intOf]; omega
    · have hlt' : ¬ (j : Int) < (s.size : Int) := by omega
      have HH := hide (colon_end hlt (unhide HR))
      go_wp2_with fail
      go_ret
      exact ⟨Or.inr ⟨unhide HH, rfl⟩, rfl⟩
def nf (s:ByteArray) (a:Nat):Nat:=(spanF (rest s a)).1.length
theorem nf_slash {s:ByteArray} {a:Nat} (l:List UInt8) (h:rest s (a + nw s a) = 47 :: l):a + nf s a = a + nw s a + 1 + nw s (a + nw s a + 1):=by
 have e:rest s (a + nw s a + 1) = l:=by rw [rest_add,h];rfl
 have h':=h
 rw [rest_nw] at h'
 unfold nf spanF
 rw [h']
 have e2:nw s (a + nw s a + 1) = (spanW l).1.length:=by unfold nw;unfold nw at e;rw [e]
 rw [e2]
 simp
 unfold nw
 omega
theorem nf_plain {s:ByteArray} {a:Nat} (h:(rest s (a + nw s a)).head? ≠ some 47):a + nf s a = a + nw s a:=by
 rw [rest_nw] at h
 unfold nf spanF nw
 rw [if_neg h]
theorem rest_nf (s:ByteArray) (a:Nat):rest s (a + nf s a) = (spanF (rest s a)).2:=by
 rw [rest_add]
 unfold nf
 have h:=spanF_app (rest s a)
 generalize (spanF (rest s a)).1 = x at h
 generalize (spanF (rest s a)).2 = y at h
 rw [← h]
 simp
theorem nf_le {s:ByteArray} {a:Nat} (h:a ≤ s.size):a + nf s a ≤ s.size:=by
 have h1:=congrArg List.length (spanF_app (rest s a))
 rw [List.length_append,rest_len] at h1
 unfold nf
 omega
theorem ext_nf (s:ByteArray) (a:Nat):(s.extract a (a + nf s a)).data.toList = (spanF (rest s a)).1:=by
 rw [ext_list,Nat.add_sub_cancel_left]
 unfold nf
 show (rest s a).take _ = _
 have h:=spanF_app (rest s a)
 generalize (spanF (rest s a)).1 = x at h ⊢
 generalize (spanF (rest s a)).2 = y at h
 rw [← h]
 simp
set_option maxRecDepth 100000 in
set_option maxHeartbeats 1600000 in
theorem span_true (s : ByteArray) (a : Nat) (w : World) (ha : a ≤ s.size) (hs : s.size ≤ 1000000) :
    Calls Tryz.prog 171 #[.string s, .int .i64 (a : Int), .bool true] w fun e w' => e = .returned (.int .i64 ((a + nf s a : Nat) : Int)) ∧ w = w' := by
  go_enter Tryz.func171, Tryz.ntmps171
  obtain ⟨f, hf⟩ : ∃ f, f = decide ((rest s a).head? = some 45) := ⟨_, rfl⟩
  have HF := hide hf
  clear hf
  go_upto_region 1 with fail
  go_cut [16] (fun v wx => v = .bool f ∧ w = wx)
  case first =>
    by_cases h1 : a < s.size
    · by_cases h2 : s[a] = 45
      · have h2' : ((s[a].toNat : Int) == 45) = true := by rw [h2]; rfl
        have HN := hide (show f = true by rw [unhide HF, rest_lt h1, h2]; rfl)
        clear h2
        go_wp2_with fail
        go_meet
        exact ⟨by rw [unhide HN], rfl⟩
      · have h2' : ((s[a].toNat : Int) == 45) = false := u8_ne' (d := 45) h2
        have HN := hide (show f = false by rw [unhide HF, rest_lt h1]; simp [h2])
        clear h2
        go_wp2_with fail
        go_meet
        exact ⟨by rw [unhide HN], rfl⟩
    · have h1' : ¬ (a : Int) < (s.size : Int) := by omega
      have HN := hide (show f = false by rw [unhide HF, rest_ge (by omega)]; rfl)
      go_wp2_with fail
      go_meet
      exact ⟨by rw [unhide HN], rfl⟩
  case rest =>
  obtain ⟨rfl, rfl⟩ := hcut
  go_upto_if 16 with fail
  go_cut [1] (fun v wx => (∃ b : Nat, v = .int .i64 (b : Int) ∧ b ≤ s.size ∧ a + nw s a = b + nd s b) ∧ w = wx)
  case first =>
    cases f with
    | true =>
      have hh : (rest s a).head? = some 45 := by simpa using (unhide HF).symm
      have h1 : a < s.size := by
        rcases Nat.lt_or_ge a s.size with h | h
        · exact h
        · rw [rest_ge h] at hh; cases hh
      have HN := hide (nw_minus (l := rest s (a + 1)) (by have := head_cons hh; rw [this, rest_add]))
      clear hh
      go_wp2_with fail
      go_meet
      exact ⟨⟨a + 1, by go_num, by omega, by rw [unhide HN]; omega⟩, rfl⟩
    | false =>
      have HN := hide (nw_plain (s := s) (a := a) (by simpa using (unhide HF).symm))
      go_wp2_with fail
      go_meet
      exact ⟨⟨a, rfl, ha, by rw [unhide HN]⟩, rfl⟩
  case rest =>
    obtain ⟨⟨b, rfl, hb, he⟩, rfl⟩ := hcut
    have HE := hide he
    clear he
    go_upto_block 0 with fail
    go_cut [1] (fun v wx => v = .int .i64 ((a + nw s a : Nat) : Int) ∧ w = wx)
    case first =>
      go_wp2_with fail
      go_loopw [1] (fun i wr => ∃ j : Nat, j ≤ s.size ∧ i = .int .i64 (j : Int) ∧ Hid (a + nw s a = j + nd s j) ∧ w = wr) (fun i _ => s.size - (RowKit.intOf i).toNat)
      case atStart => exact ⟨b, hb, rfl, HE, rfl⟩
      case round =>
        obtain ⟨j, hj, rfl, HJ, rfl⟩ := hrel
        by_cases h1 : j < s.size
        · by_cases h2 : 48 ≤ s[j].toNat
          · by_cases h3 : s[j].toNat ≤ 57
            · have HN := hide (nd_step h1 ((isDig_iff _).2 ⟨h2, h3⟩))
              go_wp2_with fail
              go_roundw
              case rel => exact ⟨j + 1, by omega, by go_num, by have := unhide HJ; have := unhide HN; show _ = _; omega, by trivial⟩
              case measure => simp [RowKit.intOf]; omega
            · have h3n : ¬ (s[j].toNat : Int) ≤ 57 := by omega
              have HN := hide (nd_stop h1 ((isDig_not _).2 (by omega)))
              go_wp2_with fail
              go_meet
              exact ⟨congrArg (Value.int .i64) (by have := unhide HJ; have := unhide HN; omega), rfl⟩
          · have h2n : ¬ (48 : Int) ≤ (s[j].toNat : Int) := by omega
            have HN := hide (nd_stop h1 ((isDig_not _).2 (by omega)))
            go_wp2_with fail
            go_meet
            exact ⟨congrArg (Value.int .i64) (by have := unhide HJ; have := unhide HN; omega), rfl⟩
        · have h1' : ¬ (j : Int) < (s.size : Int) := by omega
          have HN := hide (nd_end h1)
          go_wp2_with fail
          go_meet
          exact ⟨congrArg (Value.int .i64) (by have := unhide HJ; have := unhide HN; omega), rfl⟩
    case rest =>
      obtain ⟨rfl, rfl⟩ := hcut
      have hle := nw_le ha
      have HS := hide (@nf_slash s a)
      have HP := hide (@nf_plain s a)
      generalize a + nw s a = c at *
      by_cases h1 : c < s.size
      · by_cases h2 : s[c] = 47
        · have h2' : ((s[c].toNat : Int) == 47) = true := by rw [h2]; rfl
          have HN := hide (unhide HS (rest s (c + 1)) (by rw [rest_lt h1, h2]))
          clear h2
          go_wp2_with fail
          rw [show ((c : Int) + 1) = ((c + 1 : Nat) : Int) by omega]
          refine (span_false s (c + 1) _ (by omega) hs).mono ?_
          rintro e w' ⟨rfl, rfl⟩
          go_wp2_with fail
          go_ret
          exact ⟨ret_int (by have := unhide HN; omega), rfl⟩
        · have h2' : ((s[c].toNat : Int) == 47) = false := u8_ne' (d := 47) h2
          have HN := hide (unhide HP (by rw [rest_lt h1]; simpa using h2))
          clear h2
          go_wp2_with fail
          go_ret
          exact ⟨ret_int (by have := unhide HN; omega), rfl⟩
      · have h1' : ¬ (c : Int) < (s.size : Int) := by omega
        have HN := hide (unhide HP (by rw [rest_ge (by omega)]; intro e; cases e))
        go_wp2_with fail
        go_ret
        exact ⟨ret_int (by have := unhide HN; omega), rfl⟩
def WhSays (s:ByteArray) (a:Nat) (lo hi:Int) (k:Int) (ok:Bool):Prop:=(ok = true ∧ WhAt (rest s a) lo hi (some (k,rest s (a + nw s a)))) ∨ (ok = false ∧ WhAt (rest s a) lo hi none)
def NumSaysR (s:List UInt8) (t b:Int) (ok:Bool):Prop:=(ok = true ∧ IsNum s t b) ∨ (ok = false ∧ ∀ t b,¬ IsNum s t b)
theorem rRead_one (s:ByteArray) (w:World) (hs:s.size ≤ maxLen) :
  Calls Tryz.prog 115 #[.string s] w fun e w'=>∃ t b ok,e = .returned (.tuple #[.agg #[.int .i64 t,.int .i64 b],.bool ok]) ∧ NumSaysR s.data.toList t b ok ∧ Below w.heap.size w w':=by
 refine (RRead_any s w hs).mono ?_
 rintro e w1 ⟨⟨t,b,hn,rfl⟩ | ⟨hn,p,q,rfl⟩,hb1⟩
 ·exact ⟨t,b,true,rfl,Or.inl ⟨rfl,hn⟩,hb1⟩
 ·exact ⟨p,q,false,rfl,Or.inr ⟨rfl,hn⟩,hb1⟩
theorem whs_no {s:ByteArray} {a:Nat} {t b lo hi k:Int} (h:NumSaysR (s.extract a (a + nw s a)).data.toList t b false) (hlo:-1000000000 ≤ lo) (hhi:hi ≤ 1000000000):WhSays s a lo hi k false:=by
 rw [ext_nw] at h
 rcases h with ⟨h,_⟩ | ⟨_,h⟩
 ·cases h
 ·exact Or.inr ⟨rfl,whAt_none hlo hhi (fun t b hn=>absurd hn (h t b))⟩
theorem whs_out {s:ByteArray} {a:Nat} {t b lo hi k:Int} (h:NumSaysR (s.extract a (a + nw s a)).data.toList t b true) (hlo:-1000000000 ≤ lo) (hhi:hi ≤ 1000000000) (ho:t < lo ∨ hi < t):WhSays s a lo hi k false:=by
 rw [ext_nw] at h
 rcases h with ⟨_,h⟩ | ⟨h,_⟩
 ·exact Or.inr ⟨rfl,whAt_none hlo hhi (fun t' b' hn=>by rw [(hn.unique h).1];exact ho)⟩
 ·cases h
theorem whs_yes {s:ByteArray} {a:Nat} {t b lo hi:Int} (h:NumSaysR (s.extract a (a + nw s a)).data.toList t b true) (h1:lo ≤ t) (h2:t ≤ hi):WhSays s a lo hi t true:=by
 rw [ext_nw] at h
 rcases h with ⟨_,h⟩ | ⟨h,_⟩
 ·exact Or.inl ⟨rfl,by rw [rest_nw];exact whAt_some h h1 h2⟩
 ·cases h
set_option maxRecDepth 100000 in
set_option maxHeartbeats 1600000 in
theorem whole_any (s:ByteArray) (a:Nat) (lo hi:Int) (w:World) (ha:a ≤ s.size) (hs:s.size ≤ 1000000) (hlo:-1000000000 ≤ lo) (hhi:hi ≤ 1000000000) :
  Calls Tryz.prog 172 #[.string s,.int .i64 (a:Int),.int .i64 lo,.int .i64 hi] w fun e w'=>∃ k ok,e = .returned (.tuple #[.int .i64 k,.int .i64 ((a + nw s a:Nat):Int),.bool ok]) ∧ WhSays s a lo hi k ok ∧ Below w.heap.size w w':=by
 have hle:=nw_le ha
 have hbd:a ≤ a + nw s a:=Nat.le_add_right _ _
 go_enter Tryz.func172,Tryz.ntmps172
 go_wp2_with fail
 refine (span_false s a _ ha hs).mono ?_
 rintro e w' ⟨rfl,rfl⟩
 go_wp2_with fail
 refine (rRead_one _ _ (by have:=ext_size s a (a + nw s a);unfold maxLen;omega)).mono ?_
 rintro e w1 ⟨t,b,ok,rfl,hsay,hb1⟩
 have HS:=hide hsay
 have HB:=hide hb1
 clear hsay hb1
 cases ok with
 | false=>
  go_wp2_with fail
  go_quiet (fail)
  go_wp2_with fail
  exact bodyPost_ret (v:=.tuple #[.int .i64 t,.int .i64 ((a + nw s a:Nat):Int),.bool false]) (by simp [results,Tryz.results172,go_sem]) rfl ⟨t,false,rfl,whs_no (unhide HS) hlo hhi,((unhide HB).alloc (unhide HB).size _).trans (below_dr (Below.refl _ _) _)⟩
 | true=>
  by_cases h1:lo ≤ t
  ·have h1d:decide (lo ≤ t) = true:=by simpa using h1
   by_cases h2:t ≤ hi
   ·have h2d:decide (t ≤ hi) = true:=by simpa using h2
    go_wp2_with fail
    go_quiet (fail)
    go_wp2_with fail
    exact bodyPost_ret (v:=.tuple #[.int .i64 t,.int .i64 ((a + nw s a:Nat):Int),.bool true]) (by simp [results,Tryz.results172,go_sem]) rfl ⟨t,true,rfl,whs_yes (unhide HS) h1 h2,((unhide HB).alloc (unhide HB).size _).trans (below_dr (Below.refl _ _) _)⟩
   ·have h2d:decide (t ≤ hi) = false:=by simpa using h2
    have h2n:¬ t ≤ hi:=h2
    go_wp2_with fail
    go_quiet (fail)
    go_wp2_with fail
    exact bodyPost_ret (v:=.tuple #[.int .i64 t,.int .i64 ((a + nw s a:Nat):Int),.bool false]) (by simp [results,Tryz.results172,go_sem]) rfl ⟨t,false,rfl,whs_out (unhide HS) hlo hhi (Or.inr (by omega)),((unhide HB).alloc (unhide HB).size _).trans (below_dr (Below.refl _ _) _)⟩
  ·have h1d:decide (lo ≤ t) = false:=by simpa using h1
   have h1n:¬ lo ≤ t:=h1
   go_wp2_with fail
   go_quiet (fail)
   go_wp2_with fail
   exact bodyPost_ret (v:=.tuple #[.int .i64 t,.int .i64 ((a + nw s a:Nat):Int),.bool false]) (by simp [results,Tryz.results172,go_sem]) rfl ⟨t,false,rfl,whs_out (unhide HS) hlo hhi (Or.inl (by omega)),((unhide HB).alloc (unhide HB).size _).trans (below_dr (Below.refl _ _) _)⟩
end Go.Proofs.YtikiaijgcjjloabGreatDoor

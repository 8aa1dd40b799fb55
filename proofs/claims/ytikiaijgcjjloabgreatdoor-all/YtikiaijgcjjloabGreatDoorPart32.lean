import Derived.Test.YtikiaijgcjjloabGreatDoorPart31
import Derived.Test.YtikiaijgcjjloabGreatDoorPart4
import Derived.Test.YtikiaijgcjjloabGreatDoorPart23

namespace Go.Proofs.YtikiaijgcjjloabGreatDoor
open Go Go.RowKit M T Go.Lib
theorem listText_snoc:∀ (l:List Rat) (x:Rat),listText (l ++ [x]) = (if l = [] then [] else listText l ++ [44]) ++ ratText x
 | [],x=>rfl
 | [y],x=>by
  show ratText y ++ 44 :: ratText x = _
  rw [if_neg (by simp),listText_one]
  simp
 | y :: z :: l,x=>by
  have ih:=listText_snoc (z :: l) x
  rw [if_neg (by simp)] at ih
  rw [List.cons_append,show z :: l ++ [x] = z :: (l ++ [x]) from rfl,listText_cons2,show z :: (l ++ [x]) = z :: l ++ [x] from rfl,ih,if_neg (by simp),listText_cons2]
  simp
theorem listText_len:∀ {l:List Rat},AllS l → (listText l).length ≤ 23 * l.length
 | [],_=>by simp [listText]
 | [x],h=>by
  have:=rat_len (h x (by simp))
  rw [listText_one]
  simp
  omega
 | x :: y :: l,h=>by
  have h1:=rat_len (h x (by simp))
  have h2:=listText_len (l:=y :: l) (fun z hz=>h z (List.mem_cons_of_mem _ hz))
  rw [listText_cons2,List.length_append,List.length_cons]
  simp only [List.length_cons] at h2 ⊢
  omega
theorem allS_take {l:List Rat} (h:AllS l) (i:Nat):AllS (l.take i):=fun x hx=>h x (List.mem_of_mem_take hx)
set_option maxRecDepth 100000 in
set_option maxHeartbeats 1600000 in
theorem listsText_any {g cap:Nat} {xs:List Rat} {w:World} (h:LIs w g cap xs) (ht:Tab w) :
  Calls Tryz.prog 27 #[.slice (some ⟨g,0,none⟩) xs.length cap] w fun e w'=>e = .returned (.string ⟨(listText xs).toArray⟩) ∧ Below w.heap.size w w':=by
 have HL:=hide h
 have hg:=h.lt
 have hlen:=h.len
 have HT:=hide ht
 clear h ht
 go_enter Tryz.func27,Tryz.ntmps27
 go_wp2_with fail
 go_loopg [3,8] xs.length (fun kk v3 v8 wr=>∃ (i:Nat) (t:List UInt8),kk = xs.length - i ∧ i ≤ xs.length ∧ v8 = .int .i64 (i:Int) ∧ v3 = .string ⟨t.toArray⟩ ∧ t = listText (xs.take i) ∧ Below w.heap.size w wr)
 case atStart=>exact ⟨0,[],rfl,Nat.zero_le _,rfl,rfl,rfl,Below.refl _ _⟩
 case round=>
  obtain ⟨i,t,hk,hi,rfl,rfl,he,hb⟩:=hrel
  have HK:=hide hk
  have HE:=hide he
  have HB:=hide hb
  have htl:t.length ≤ 23000:=by
   have:=listText_len (allS_take (unhide HL).small i)
   rw [← he,List.length_take] at this
   omega
  clear hk he
  by_cases hlt:i < xs.length
  ·have hlt':(i:Int) < (xs.length:Int):=by omega
   obtain ⟨d0,d1⟩:=(unhide HL).cell hlt
   have hgr:∀ o,wr.cell? ⟨g,o,none⟩ = w.cell? ⟨g,o,none⟩:=fun o=>hb.cell (p:=⟨g,o,none⟩) hg
   rw [← hgr] at d0 d1
   have hsx:=(unhide HL).small xs[i] (List.getElem_mem hlt)
   obtain ⟨s1,s2,s3,s4⟩:=small_bd hsx
   have hrl:=rat_len hsx
   have HX:=hide (show listText (xs.take (i + 1)) = (if xs.take i = [] then [] else listText (xs.take i) ++ [44]) ++ ratText xs[i] by rw [List.take_succ_eq_append_getElem hlt,listText_snoc])
   have hbx:=hb.alloc hb.size (.cells #[.int .i64 xs[i].num,.int .i64 (xs[i].den:Int)] 80)
   have HBx:=hide hbx
   have HTx:=hide (tab_below (unhide HT) hbx)
   clear hgr hb hbx hsx
   have HRt:=hide (show ∀ x:Rat,numText x.num (x.den:Int) = ratText x from fun _=>rfl)
   generalize xs[i] = x at d0 d1 s1 s2 s3 s4 hrl HX HBx HTx
   have hrl':(numText x.num (x.den:Int)).length ≤ 22:=hrl
   by_cases hi0:0 < i
   ·have hi0':(0:Int) < (i:Int):=by omega
    have HF:=hide (show listText (xs.take (i + 1)) = t ++ [44] ++ numText x.num (x.den:Int) by
     rw [unhide HX,if_neg (fun e=>by have:=congrArg List.length e;rw [List.length_take,List.length_nil] at this;omega),← unhide HE]
     rfl)
    go_wp2_with fail
    refine (Text_any x.num (x.den:Int) _ s1 s2 s3 s4 (unhide HTx)).mono ?_
    rintro e w1 ⟨rfl,hb1⟩
    have HB1:=hide ((unhide HBx).trans (hb1.mono (unhide HBx).size))
    clear hb1
    go_wp2_with fail
    go_roundg (xs.length - (i + 1))
    case measure=>rw [unhide HK];omega
    case rel=>exact ⟨i + 1,t ++ [44] ++ numText x.num (x.den:Int),rfl,by omega,rfl,by rw [← str_app,← str_app],(unhide HF).symm,unhide HB1⟩
   ·have hi0':¬ (0:Int) < (i:Int):=by omega
    obtain rfl:i = 0:=by omega
    have HF:=hide (show listText (xs.take (0 + 1)) = t ++ numText x.num (x.den:Int) by
     rw [unhide HX,if_pos (List.take_zero),unhide HE]
     rfl)
    go_wp2_with fail
    refine (Text_any x.num (x.den:Int) _ s1 s2 s3 s4 (unhide HTx)).mono ?_
    rintro e w1 ⟨rfl,hb1⟩
    have HB1:=hide ((unhide HBx).trans (hb1.mono (unhide HBx).size))
    clear hb1
    go_wp2_with fail
    go_roundg (xs.length - 1)
    case measure=>rw [unhide HK];omega
    case rel=>exact ⟨1,t ++ numText x.num (x.den:Int),rfl,by omega,rfl,by rw [← str_app],(unhide HF).symm,unhide HB1⟩
  ·have hlt':¬ (i:Int) < (xs.length:Int):=by omega
   have HF:=hide (show t = listText xs by rw [unhide HE,List.take_of_length_le (by omega)])
   go_wp2_with fail
   go_ret
   exact ⟨by rw [unhide HF];rfl,unhide HB⟩
end Go.Proofs.YtikiaijgcjjloabGreatDoor

namespace Go.Proofs.YtikiaijgcjjloabGreatDoor
namespace T
open Go.Lib M
theorem ratText_44 (x:Rat):∀ c ∈ ratText x,c ≠ 44:=by
 have hd:∀ (n:Nat),∀ c ∈ decDigits n,c ≠ 44:=fun n c hc e=>by
  have:=dec_all n c hc
  rw [e] at this
  exact absurd this (by decide)
 have hi:∀ (k:Int),∀ c ∈ itoa k,c ≠ 44:=fun k c hc=>by
  by_cases hn:k < 0
  ·rw [M.itoa_neg _ hn] at hc
   rcases List.mem_cons.1 hc with rfl | h
   ·decide
   ·exact hd _ c h
  ·rw [M.itoa_pos _ hn] at hc
   exact hd _ c hc
 intro c hc
 unfold ratText numText at hc
 rcases List.mem_append.1 hc with h | h
 ·exact hi _ c h
 ·split at h
  ·cases h
  ·rcases List.mem_cons.1 h with rfl | h
   ·decide
   ·exact hd _ c h
def upto44 (s:List UInt8):List UInt8:=s.takeWhile (fun c=>c != 44)
theorem upto_rat (x:Rat) (r:List UInt8):upto44 (ratText x ++ 44 :: r) = ratText x:=by
 unfold upto44
 rw [List.takeWhile_append_of_pos (fun c hc=>by rw [bne_iff_ne];exact ratText_44 x c hc)]
 simp
theorem upto_rat_end (x:Rat):upto44 (ratText x) = ratText x:=by
 have:=List.takeWhile_append_of_pos (p:=fun c:UInt8=>c != 44) (l₁:=ratText x) (l₂:=[]) (fun c hc=>by rw [bne_iff_ne];exact ratText_44 x c hc)
 simpa [upto44] using this
theorem upto_list {l:List Rat} {x:Rat}:upto44 (listText (x :: l)) = ratText x:=by
 cases l with
 | nil=>rw [listText_one];exact upto_rat_end x
 | cons y l=>rw [listText_cons2];exact upto_rat x _
theorem list_prefix:∀ {ys l:List Rat} {r:List UInt8},ys ≠ [] → listText l = listText ys ++ 44 :: r → ∃ l',l' ≠ [] ∧ l = ys ++ l' ∧ listText l' = r
 | [],_,_,h,_=>absurd rfl h
 | [y],l,r,_,h=>by
  rw [listText_one] at h
  cases l with
  | nil=>exact absurd h.symm (by rw [listText];simp)
  | cons x l=>
   cases l with
   | nil=>
    rw [listText_one] at h
    have:=(ratText_split (x:=x) (y:=y) (r:=[]) (by simpa using h) stop_nil (stop_44 _)).2
    cases this
   | cons z l=>
    rw [listText_cons2] at h
    obtain ⟨rfl,e⟩:=ratText_split h (stop_44 _) (stop_44 _)
    simp only [List.cons.injEq,true_and] at e
    exact ⟨z :: l,by simp,rfl,e⟩
 | y :: y2 :: ys,l,r,_,h=>by
  rw [listText_cons2,List.append_assoc,List.cons_append] at h
  cases l with
  | nil=>exact absurd h.symm (by rw [listText];simp)
  | cons x l=>
   cases l with
   | nil=>
    rw [listText_one] at h
    have:=(ratText_split (x:=x) (y:=y) (r:=[]) (by simpa using h) stop_nil (stop_44 _)).2
    cases this
   | cons z l=>
    rw [listText_cons2] at h
    obtain ⟨rfl,e⟩:=ratText_split h (stop_44 _) (stop_44 _)
    simp only [List.cons.injEq,true_and] at e
    obtain ⟨l',h1,h2,h3⟩:=list_prefix (ys:=y2 :: ys) (by simp) e
    exact ⟨l',h1,by rw [h2];rfl,h3⟩
theorem listText_more {ys:List Rat} {x:Rat}:listText (ys ++ [x]) = (if ys = [] then [] else listText ys ++ [44]) ++ ratText x:=by
 induction ys with
 | nil=>rfl
 | cons y ys ih=>
  cases ys with
  | nil=>
   show ratText y ++ 44 :: ratText x = _
   rw [if_neg (by simp),listText_one]
   simp
  | cons z l=>
   rw [if_neg (by simp)] at ih
   rw [List.cons_append,show z :: l ++ [x] = z :: (l ++ [x]) from rfl,listText_cons2,show z :: (l ++ [x]) = z :: l ++ [x] from rfl,ih,if_neg (by simp),listText_cons2]
   simp
def RdL (s:List UInt8) (ys:List Rat) (r:List UInt8):Prop:=(s ≠ [] ∧ ys = [] ∧ r = s) ∨ (ys ≠ [] ∧ s = listText ys ++ 44 :: r)
theorem RdL.rest {s:List UInt8} {ys:List Rat} {r:List UInt8} (h:RdL s ys r) {l:List Rat} (hl:listText l = s):∃ l',l' ≠ [] ∧ l = ys ++ l' ∧ listText l' = r:=by
 rcases h with ⟨hs,rfl,rfl⟩ | ⟨hy,he⟩
 ·exact ⟨l,fun e=>hs (by rw [← hl,e];rfl),rfl,hl⟩
 ·exact list_prefix hy (hl.trans he)
theorem RdL.bad {s:List UInt8} {ys:List Rat} {r:List UInt8} (h:RdL s ys r) (hn:∀ t b,¬ IsNum (upto44 r) t b):¬ ∃ l,IsList s l:=by
 rintro ⟨l,hl⟩
 obtain ⟨l',h1,h2,h3⟩:=h.rest hl.text
 cases l' with
 | nil=>exact h1 rfl
 | cons x l'=>
  have hx:small x = true:=hl.small x (by rw [h2];simp)
  have:=rat_isNum hx
  rw [← upto_list (l:=l') (x:=x),h3] at this
  exact hn _ _ this
theorem RdL.full {s:List UInt8} {ys:List Rat} {r:List UInt8} (h:RdL s ys r) (hn:ys.length = 12):¬ ∃ l,IsList s l:=by
 rintro ⟨l,hl⟩
 obtain ⟨l',h1,h2,_⟩:=h.rest hl.text
 have:=hl.len
 rw [h2,List.length_append] at this
 have:0 < l'.length:=List.length_pos_iff.2 h1
 omega
theorem RdL.snoc {s:List UInt8} {ys:List Rat} {r r':List UInt8} (h:RdL s ys r) {x:Rat} (he:r = ratText x ++ 44 :: r'):RdL s (ys ++ [x]) r':=by
 refine Or.inr ⟨by simp,?_⟩
 rw [listText_more]
 rcases h with ⟨hs,rfl,rfl⟩ | ⟨hy,e⟩
 ·rw [if_pos rfl,he];rfl
 ·rw [if_neg hy,e,he];simp
theorem RdL.last {s:List UInt8} {ys:List Rat} {r:List UInt8} (h:RdL s ys r) {x:Rat} (he:r = ratText x):listText (ys ++ [x]) = s:=by
 rw [listText_more]
 rcases h with ⟨hs,rfl,rfl⟩ | ⟨hy,e⟩
 ·rw [if_pos rfl,he];rfl
 ·rw [if_neg hy,e,he];simp
end T
end Go.Proofs.YtikiaijgcjjloabGreatDoor

namespace Go.Proofs.YtikiaijgcjjloabGreatDoor
open Go Go.RowKit M T Go.Lib
structure EndIs (s:ByteArray) (a e:Nat):Prop where
 le:a ≤ e
 sz:e ≤ s.size
 upto:upto44 (rest s a) = (s.extract a e).data.toList
 cut:(e = s.size ∧ rest s a = (s.extract a e).data.toList) ∨ (e < s.size ∧ rest s a = (s.extract a e).data.toList ++ 44 :: rest s (e + 1))
theorem endIs_of {s:ByteArray} {a e:Nat} (hae:a ≤ e) (he:e ≤ s.size) (hno:∀ j (h:j < s.size),a ≤ j → j < e → s[j] ≠ 44) (hc:(h:e < s.size) → s[e] = 44):EndIs s a e:=by
 have hsplit:rest s a = (s.extract a e).data.toList ++ rest s e:=by
  rw [ext_list]
  unfold rest
  conv=>lhs;rw [← List.take_append_drop (e - a) (s.data.toList.drop a)]
  rw [List.drop_drop,show a + (e - a) = e by omega]
 have hall:∀ c ∈ (s.extract a e).data.toList,(c != 44) = true:=by
  intro c hcm
  rw [ext_list] at hcm
  obtain ⟨i,hi,rfl⟩:=List.mem_iff_getElem.1 hcm
  rw [List.length_take,List.length_drop] at hi
  have hs:s.data.toList.length = s.size:=by simp
  rw [List.getElem_take,List.getElem_drop,bne_iff_ne]
  have:=hno (a + i) (by omega) (by omega) (by omega)
  exact this
 have hu:upto44 (rest s a) = (s.extract a e).data.toList:=by
  rw [hsplit]
  unfold upto44
  rw [List.takeWhile_append_of_pos hall]
  rcases Nat.lt_or_ge e s.size with h | h
  ·rw [rest_lt h,hc h]
   simp
  ·rw [rest_ge h]
   simp
 refine ⟨hae,he,hu,?_⟩
 rcases Nat.lt_or_ge e s.size with h | h
 ·exact Or.inr ⟨h,by rw [hsplit,rest_lt h,hc h]⟩
 ·exact Or.inl ⟨by omega,by rw [hsplit,rest_ge h,List.append_nil]⟩
set_option maxRecDepth 100000 in
set_option maxHeartbeats 800000 in
theorem itemEnd_any (s:ByteArray) (a:Nat) (w:World) (ha:a ≤ s.size) (hs:s.size ≤ 9223372036854775807) :
  Calls Tryz.prog 39 #[.string s,.int .i64 (a:Int)] w fun e w'=>(∃ b:Nat,e = .returned (.int .i64 (b:Int)) ∧ EndIs s a b) ∧ w' = w:=by
 go_enter Tryz.func39,Tryz.ntmps39
 go_wp2_with fail
 go_loopg [5] (s.size - a) (fun k v wr=>∃ i:Nat,k = s.size - i ∧ a ≤ i ∧ i ≤ s.size ∧ v = .int .i64 (i:Int) ∧ (∀ j (h:j < s.size),a ≤ j → j < i → s[j] ≠ 44) ∧ w = wr)
 case atStart=>exact ⟨a,rfl,Nat.le_refl _,ha,rfl,fun j _ h1 h2=>by omega,rfl⟩
 case round=>
  obtain ⟨i,hk,hai,hi,rfl,hno,rfl⟩:=hrel
  have HK:=hide hk
  have HNo:=hide hno
  clear hk hno
  by_cases hlt:i < s.size
  ·have hlt':(i:Int) < (s.size:Int):=by omega
   by_cases hc:s[i] = 44
   ·have hc':((s[i].toNat:Int) != 44) = false:=by rw [hc];rfl
    have HC:=hide hc
    clear hc
    go_wp2_with fail
    go_ret
    exact ⟨⟨i,rfl,endIs_of hai hi (unhide HNo) (fun _=>unhide HC)⟩,rfl⟩
   ·have hc':((s[i].toNat:Int) != 44) = true:=by
     rw [bne_iff_ne]
     intro e
     exact hc (UInt8.toNat_inj.1 (by show s[i].toNat = 44;omega))
    have HC:=hide hc
    clear hc
    go_wp2_with fail
    go_roundg (s.size - (i + 1))
    case measure=>rw [unhide HK];omega
    case rel=>exact ⟨i + 1,rfl,by omega,by omega,rfl,fun j h h1 h2=>by
     rcases Nat.lt_or_ge j i with h3 | h3
     ·exact unhide HNo j h h1 h3
     ·have e:j = i:=by omega
      subst e
      exact unhide HC,rfl⟩
  ·have hlt':¬ (i:Int) < (s.size:Int):=by omega
   go_wp2_with fail
   go_ret
   exact ⟨⟨i,rfl,endIs_of hai hi (unhide HNo) (fun h=>absurd h hlt)⟩,rfl⟩
def ListGot (B:Nat) (s:List UInt8) (e:Ending) (w':World):Prop:=(∃ l g cap,IsList s l ∧ e = .returned (.tuple #[.slice (some ⟨g,0,none⟩) l.length cap,.bool true]) ∧ w'.ownsRow B 80 2 (.slice (some ⟨g,0,none⟩) l.length cap) l.length (nrow l)) ∨ ((¬ ∃ l,IsList s l) ∧ e = .returned (.tuple #[.slice none 0 0,.bool false]))
theorem item_len {x:Rat} (h:small x = true):(ratText x).length ≤ 23:=by
 have:=listText_len (l:=[x]) (fun y hy=>by rw [List.mem_singleton.1 hy];exact h)
 simpa [listText] using this
set_option maxRecDepth 100000 in
set_option maxHeartbeats 1600000 in
theorem listsRead_any (s:ByteArray) (w:World) (hs:s.size ≤ 9223372036854775807) :
  Calls Tryz.prog 25 #[.string s] w fun e w'=>ListGot w.heap.size s.data.toList e w' ∧ Below w.heap.size w w':=by
 obtain ⟨i0,hi0,hz0,hz1,hz2⟩:=info_parts Tryz.infoNumber
 by_cases h0:s.size = 0
 ·have hse:s.data.toList = []:=List.eq_nil_of_length_eq_zero (by simpa using h0)
  have hq:s.toList.isEmpty = true:=by rw [ByteArray.toList_eq,hse];rfl
  have HE:=hide (show IsList s.data.toList [] from ⟨by simp,fun _ h=>by (cases h),by rw [hse];rfl⟩)
  clear hse
  go_enter Tryz.func25,Tryz.ntmps25
  go_wp2_with fail
  exact bodyPost_ret (v:=.tuple #[.slice (some ⟨w.heap.size,0,none⟩) 0 0,.bool true]) (by simp [results,Tryz.results25,go_sem]) rfl ⟨Or.inl ⟨[],w.heap.size,0,unhide HE,rfl,(MkIs.start w).own⟩,(MkIs.start w).bel⟩
 ·have hsn:s.data.toList ≠ []:=fun e=>h0 (by simpa using congrArg List.length e)
  have hq:s.toList.isEmpty = false:=by
   rw [ByteArray.toList_eq]
   cases h:s.data.toList with
   | nil=>exact absurd h hsn
   | cons c l=>rfl
  have HS0:=hide (show RdL s.data.toList [] (rest s 0) from Or.inl ⟨hsn,rfl,rest_zero s⟩)
  clear hsn
  go_enter Tryz.func25,Tryz.ntmps25
  go_wp2_with fail
  go_loopg [4,5] (s.size + 1) (fun kk v4 v5 wr=>∃ (a:Nat) (ys:List Rat) (g' cp':Nat),kk = s.size + 1 - a ∧ v5 = .int .i64 (a:Int) ∧ v4 = .slice (some ⟨g',0,none⟩) ys.length cp' ∧ AllS ys ∧ (ys.length ≤ 12 ∧ a ≤ 24 * ys.length) ∧ MkIs w (.slice (some ⟨g',0,none⟩) ys.length cp') ys wr ∧ ((a ≤ s.size ∧ RdL s.data.toList ys (rest s a)) ∨ (a = s.size + 1 ∧ listText ys = s.data.toList)))
  case atStart=>exact ⟨0,[],w.heap.size,0,rfl,rfl,rfl,fun _ h=>by (cases h),⟨by simp,by simp⟩,MkIs.start w,Or.inl ⟨Nat.zero_le _,unhide HS0⟩⟩
  case round=>
   obtain ⟨a,ys,g',cp',hk,rfl,rfl,ha,⟨hyl,hya⟩,hm,hst⟩:=hrel
   have HK:=hide hk
   have HA:=hide ha
   have HM:=hide hm
   clear hk ha
   rcases hst with ⟨hale,hrd⟩ | ⟨rfl,htx⟩
   ·have hale':(a:Int) ≤ (s.size:Int):=by omega
    have HRd:=hide hrd
    clear hrd
    by_cases hfull:ys.length = 12
    ·have hf':((ys.length:Int) == 12) = true:=by rw [hfull];rfl
     have HN:=hide ((unhide HRd).full hfull)
     clear hfull
     go_wp2_with fail
     exact bodyPost_ret (v:=.tuple #[.slice none 0 0,.bool false]) (by simp [results,Tryz.results25,go_sem]) rfl ⟨Or.inr ⟨unhide HN,rfl⟩,(unhide HM).bel⟩
    ·have hf':((ys.length:Int) == 12) = false:=by rw [beq_eq_false_iff_ne];omega
     have hyl':ys.length ≤ 11:=by omega
     clear hfull
     go_wp2_with fail
     refine (itemEnd_any s a _ hale hs).mono ?_
     rintro e w1 ⟨⟨b,rfl,hend⟩,rfl⟩
     have hb1:=hend.le
     have hb2:=hend.sz
     have hb1':(a:Int) ≤ (b:Int):=by omega
     have hb2':(b:Int) ≤ (s.size:Int):=by omega
     have HEnd:=hide hend
     clear hend
     go_wp2_with fail
     refine (Read_any (s.extract a b) _ (by have:=ext_size s a b;unfold maxLen;omega)).mono ?_
     rintro e w2 ⟨hr,hb⟩
     have HM2:=hide (hm.below hb)
     clear hb hm
     rcases hr with ⟨t,d,hn,rfl⟩ | ⟨hn,rfl⟩
     ·obtain ⟨x,hx1,hx2,rfl,rfl⟩:=isNum_rat hn
      have HX:=hide hx1
      have hbb:b ≤ 24 * ys.length + 23:=by
       have h1:=item_len hx1
       have h2:(s.extract a b).data.toList.length = b - a:=by
        rw [ext_list,List.length_take,List.length_drop]
        have h3:s.data.toList.length = s.size:=by simp
        omega
       rw [hx2] at h2
       omega
      have hbb':(b:Int) ≤ 300:=by omega
      have HNext:=hide (show (b + 1 ≤ s.size ∧ RdL s.data.toList (ys ++ [x]) (rest s (b + 1))) ∨ (b + 1 = s.size + 1 ∧ listText (ys ++ [x]) = s.data.toList) by
       rcases (unhide HEnd).cut with ⟨e1,e2⟩ | ⟨e1,e2⟩
       ·exact Or.inr ⟨by omega,(unhide HRd).last (by rw [e2,hx2])⟩
       ·exact Or.inl ⟨by omega,(unhide HRd).snoc (by rw [e2,hx2])⟩)
      have HM3:=hide (((unhide HM2).below ((Below.refl _ _).alloc (Nat.le_refl _) (.cells (qcells x).toArray 80))).below ((Below.refl _ _).alloc (Nat.le_refl _) (.cells (qcells x).toArray 80)))
      have hsz:=(unhide HM2).bel.size
      clear hn hx1 hx2
      go_wp2_with (at_builtin;refine wpList_append_own _ rfl _ _ 59 rfl w.heap.size 80 i0 _ 2 16 Tryz.underlying59 hi0 hz0 hz1 hz2 rfl (by decide) _ _ _ rfl (unhide HM3).own ⟨w2.heap.size + 1,0,none⟩ 1 1 (qcells x) rfl rfl (nnews_at (by simp) _ _) (one_qcells _) (by unfold maxLen;omega) (by omega) (by simp;omega) ?_)
      intro v' w4 hown4 hgr4 _
      have hm4:=(unhide HM3).more hown4 hgr4
      obtain ⟨g4,cp4,rfl⟩:=hm4.shape (by simp)
      have HM4:=hide hm4
      clear hown4 hgr4 hm4
      go_wp2_with fail
      go_roundg (s.size + 1 - (b + 1))
      case measure=>rw [unhide HK];omega
      case rel=>exact ⟨b + 1,ys ++ [x],g4,cp4,rfl,rfl,rfl,allS_one (unhide HA) (unhide HX),⟨by simp;omega,by simp;omega⟩,unhide HM4,unhide HNext⟩
     ·have HN:=hide (show ¬ ∃ l,IsList s.data.toList l from (unhide HRd).bad (fun t d h=>hn t d (by rw [← (unhide HEnd).upto];exact h)))
      have HB:=hide ((unhide HM2).bel.alloc (unhide HM2).bel.size (.cells #[.int .i64 0,.int .i64 0] 80))
      clear hn
      go_wp2_with fail
      exact bodyPost_ret (v:=.tuple #[.slice none 0 0,.bool false]) (by simp [results,Tryz.results25,go_sem]) rfl ⟨Or.inr ⟨unhide HN,rfl⟩,unhide HB⟩
   ·have hale':¬ ((s.size + 1:Nat):Int) ≤ (s.size:Int):=by omega
    have HE:=hide (show IsList s.data.toList ys from ⟨hyl,unhide HA,htx⟩)
    clear htx
    go_wp2_with fail
    exact bodyPost_ret (v:=.tuple #[.slice (some ⟨g',0,none⟩) ys.length cp',.bool true]) (by simp [results,Tryz.results25,go_sem]) rfl ⟨Or.inl ⟨ys,g',cp',unhide HE,rfl,(unhide HM).own⟩,(unhide HM).bel⟩
structure RunIs (w:World) (rb g cap:Nat) (l:List Rat) (f:Nat):Prop where
 blk:w.heap[rb]? = some (.cells #[.slice (some ⟨g,0,none⟩) l.length cap,.int .i64 (f:Int)] 90 (0,0))
 lis:LIs w g cap l
 fuel:f ≤ 5000
 few:l.length ≤ 12
theorem LIs.but {w w':World} {rb g cap:Nat} {l:List Rat} (h:LIs w g cap l) {c:Array Value} (hr:w.heap[rb]? = some (.cells c 90 (0,0))) (hb:But rb w w'):LIs w' g cap l:=by
 refine ⟨⟨h.own.1,?_⟩,h.small,h.len⟩
 rcases h.own.2 with h2 | ⟨g',cap',cur,hv,hg,hh,r⟩
 ·exact Or.inl h2
 ·refine Or.inr ⟨g',cap',cur,hv,hg,?_,r⟩
  rw [hb.block g' (lt_of_block hh) (by rintro rfl;exact absurd (blk_ty hr hh) (by decide))]
  exact hh
theorem TmIs.run {Ok:Nat → Prop} {w w':World} {rb b:Nat} {t:Tm} {c:Array Value} (h:TmIs Ok w b t) (hr:w.heap[rb]? = some (.cells c 90 (0,0))) (hb:But rb w w'):TmIs (fun k=>k < w'.heap.size) w' b t :=
 h.ptk.keeps (fun k hk hl=>⟨hb.block k hl (by
  rintro rfl
  obtain ⟨_,c',ty,hc',hp⟩:=hk
  obtain rfl:=blk_ty hr hc'
  rcases hp with h | h | h <;> exact absurd h (by decide)),Nat.lt_of_lt_of_le hl hb.size⟩)
theorem PtIs.run {Ok:Nat → Prop} {w w':World} {rb:Nat} {x:PC} {p:Pt} {c:Array Value} (h:PtIs Ok w x p) (hr:w.heap[rb]? = some (.cells c 90 (0,0))) (hb:But rb w w'):PtIs (fun k=>k < w'.heap.size) w' x p :=
 PtIs.keeps (fun k hk hl=>⟨hb.block k hl (by
  rintro rfl
  obtain ⟨_,c',ty,hc',hp⟩:=hk
  obtain rfl:=blk_ty hr hc'
  rcases hp with h | h | h <;> exact absurd h (by decide)),Nat.lt_of_lt_of_le hl hb.size⟩) p x (PtIs.ptk p x h)
def RGot (rb:Nat) (r:Res) (e:Ending) (w':World):Prop:=(∃ l f g cap,r = .ok l f ∧ e = .returned (.int .i64 0) ∧ RunIs w' rb g cap l f) ∨ (∃ c,r = .err c ∧ c ≠ 0 ∧ e = .returned (.int .i64 c))
def StepGot (rb g cap:Nat) (l:List Rat) (f:Nat) (e:Ending) (w':World):Prop:=(f = 0 ∧ e = .returned (.int .i64 10)) ∨ ∃ f',f = f' + 1 ∧ e = .returned (.int .i64 0) ∧ RunIs w' rb g cap l f'
set_option maxRecDepth 100000 in
set_option maxHeartbeats 800000 in
theorem step_any {rb g cap:Nat} {l:List Rat} {f:Nat} {w:World} (h:RunIs w rb g cap l f) :
  Calls Tryz.prog 101 #[.pointer (some ⟨rb,0,none⟩)] w fun e w'=>StepGot rb g cap l f e w' ∧ But rb w w':=by
 have c1:w.cell? ⟨rb,1,none⟩ = some (.int .i64 (f:Int)):=blk_cell h.blk 1
 have f1:w.frozen? ⟨rb,1,none⟩ = false:=blk_free h.blk 1
 have hfu:=h.fuel
 have H:=hide h
 clear h
 cases f with
 | zero=>
  have c1':w.cell? ⟨rb,1,none⟩ = some (.int .i64 0):=c1
  clear c1
  go_enter Tryz.func101,Tryz.ntmps101
  go_wp2_with fail
  go_ret
  exact ⟨Or.inl ⟨rfl,rfl⟩,But.refl _ _⟩
 | succ f=>
  have hf1:¬ ((f + 1:Nat):Int) < 1:=by omega
  have hf2:IntKind.i64.wrap (((f + 1:Nat):Int) - 1) = (f:Int):=by rw [IntKind.wrap_i64];omega
  obtain ⟨I,hI⟩:∃ I:Int,((f + 1:Nat):Int) = I:=⟨_,rfl⟩
  rw [hI] at c1 hf1 hf2
  have hI1:I - 1 = (f:Int):=by omega
  have hI2:I ≤ 5000:=by omega
  clear hI
  have HS:=hide (show RunIs (w.setCell ⟨rb,1,none⟩ (.int .i64 (f:Int))) rb g cap l f from by
   have hb:But rb w (w.setCell ⟨rb,1,none⟩ (.int .i64 (f:Int))):=(But.refl _ _).setCell _ _
   exact ⟨blk_set (unhide H).blk 1 _,(unhide H).lis.but (unhide H).blk hb,by omega,(unhide H).few⟩)
  go_enter Tryz.func101,Tryz.ntmps101
  go_wp2_with fail
  go_ret
  exact ⟨Or.inr ⟨f,rfl,rfl,unhide HS⟩,(But.refl _ _).setCell _ _⟩
end Go.Proofs.YtikiaijgcjjloabGreatDoor

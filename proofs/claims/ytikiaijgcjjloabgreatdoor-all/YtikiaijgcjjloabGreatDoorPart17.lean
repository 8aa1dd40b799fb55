import Derived.Test.YtikiaijgcjjloabGreatDoorPart16
import Derived.Test.YtikiaijgcjjloabGreatDoorPart13
import Derived.Deep.DeepCutAuto
import Derived.Deep.RegionHeld3

namespace Go.Proofs.YtikiaijgcjjloabGreatDoor
open Go Go.RowKit M T Go.Lib
def tFrom:ByteArray:=⟨#[110,118,113,119,117,114,115,122,112,109,111,43,42,60]⟩
def tTo:ByteArray:=⟨#[110,118,119,117,119,114,122,115,111,111,109,43,42,60]⟩
def TurnIs (f t:ByteArray) (c r:UInt8):Prop:=(∃ i,∃ (h:i < f.size) (h':i < t.size),f[i] = c ∧ r = t[i]) ∨ ((∀ i (h:i < f.size),f[i] ≠ c) ∧ r = c)
theorem turn_opp {y y2:Sp} (h:y.opp = some y2) {r:UInt8} (hr:TurnIs tFrom tTo y.first r):r = y2.first:=by
 have key:∀ i:Fin 14,∀ c d:UInt8,(c,d) ∈ [((110:UInt8),(110:UInt8)),(118,118),(113,119),(119,117),(117,119),(114,114),(115,122),(122,115),(112,111),(109,111),(111,109),(43,43),(42,42),(60,60)] → tFrom.data.toList[i.val]? = some c → tTo.data.toList[i.val]? = some d:=by
  intro i c d hm
  simp only [List.mem_cons,Prod.mk.injEq,List.not_mem_nil,or_false] at hm
  rcases hm with ⟨rfl,rfl⟩ | ⟨rfl,rfl⟩ | ⟨rfl,rfl⟩ | ⟨rfl,rfl⟩ | ⟨rfl,rfl⟩ | ⟨rfl,rfl⟩ | ⟨rfl,rfl⟩ | ⟨rfl,rfl⟩ | ⟨rfl,rfl⟩ | ⟨rfl,rfl⟩ | ⟨rfl,rfl⟩ | ⟨rfl,rfl⟩ | ⟨rfl,rfl⟩ | ⟨rfl,rfl⟩ <;> revert i <;> decide
 have hm:(y.first,y2.first) ∈ [((110:UInt8),(110:UInt8)),(118,118),(113,119),(119,117),(117,119),(114,114),(115,122),(122,115),(112,111),(109,111),(111,109),(43,43),(42,42),(60,60)]:=by
  cases y with
  | times c=>
   rw [show (Sp.times c).opp = (if c = 0 then none else some (.times c⁻¹)) from rfl] at h
   split at h
   ·cases h
   ·cases h;simp [Sp.first]
  | a=>cases h
  | set c=>cases h
  | take k=>cases h
  | drop k=>cases h
  | pick l=>cases h
  | _=>cases h;simp [Sp.first]
 rcases hr with ⟨i,h1,h2,h3,h4⟩ | ⟨hno,_⟩
 ·have:=key ⟨i,h1⟩ _ _ hm (by
   rw [← h3]
   exact List.getElem?_eq_getElem (by simpa using h1))
  have e2:tTo.data.toList[i]? = some tTo[i]:=List.getElem?_eq_getElem (by simpa using h2)
  rw [e2] at this
  rw [h4]
  exact Option.some.inj this
 ·exfalso
  simp only [List.mem_cons,Prod.mk.injEq,List.not_mem_nil,or_false] at hm
  rcases hm with ⟨e,_⟩ | ⟨e,_⟩ | ⟨e,_⟩ | ⟨e,_⟩ | ⟨e,_⟩ | ⟨e,_⟩ | ⟨e,_⟩ | ⟨e,_⟩ | ⟨e,_⟩ | ⟨e,_⟩ | ⟨e,_⟩ | ⟨e,_⟩ | ⟨e,_⟩ | ⟨e,_⟩
  ·exact hno 0 (by decide) (by rw [e];rfl)
  ·exact hno 1 (by decide) (by rw [e];rfl)
  ·exact hno 2 (by decide) (by rw [e];rfl)
  ·exact hno 3 (by decide) (by rw [e];rfl)
  ·exact hno 4 (by decide) (by rw [e];rfl)
  ·exact hno 5 (by decide) (by rw [e];rfl)
  ·exact hno 6 (by decide) (by rw [e];rfl)
  ·exact hno 7 (by decide) (by rw [e];rfl)
  ·exact hno 8 (by decide) (by rw [e];rfl)
  ·exact hno 9 (by decide) (by rw [e];rfl)
  ·exact hno 10 (by decide) (by rw [e];rfl)
  ·exact hno 11 (by decide) (by rw [e];rfl)
  ·exact hno 12 (by decide) (by rw [e];rfl)
  ·exact hno 13 (by decide) (by rw [e];rfl)
set_option maxRecDepth 100000 in
set_option maxHeartbeats 800000 in
theorem turned_any (c : UInt8) (w : World) : Calls Tryz.prog 176 #[.int .u8 (c.toNat : Int)] w fun e w' => ∃ r : UInt8, e = .returned (.int .u8 (r.toNat : Int)) ∧ TurnIs tFrom tTo c r ∧ w = w' := by
  go_enter Tryz.func176, Tryz.ntmps176
  go_wp2_with fail
  obtain ⟨f, hfe⟩ : ∃ f, f = tFrom := ⟨_, rfl⟩
  obtain ⟨t, hte⟩ : ∃ t, t = tTo := ⟨_, rfl⟩
  have hs1 : f.size = 14 := by rw [hfe]; rfl
  have hs2 : t.size = 14 := by rw [hte]; rfl
  rw [show ({ data := #[110, 118, 113, 119, 117, 114, 115, 122, 112, 109, 111, 43, 42, 60] } : ByteArray) = f from hfe.symm, show ({ data := #[110, 118, 119, 117, 119, 114, 122, 115, 111, 111, 109, 43, 42, 60] } : ByteArray) = t from hte.symm]
  have HFE := hide hfe
  have HTE := hide hte
  clear hfe hte
  go_loopg [5] 14 (fun k v wr => ∃ i : Nat, k = 14 - i ∧ i ≤ 14 ∧ v = .int .i64 (i : Int) ∧ (∀ j (h : j < f.size), j < i → f[j] ≠ c) ∧ w = wr)
  case atStart => exact ⟨0, rfl, Nat.zero_le _, rfl, fun j _ h => absurd h (Nat.not_lt_zero _), rfl⟩
  case round =>
    obtain ⟨i, hk, hi, rfl, hno, rfl⟩ := hrel
    have HK := hide hk
    have HNo := hide hno
    clear hk hno
    by_cases hlt : i < 14
    · have hf : i < f.size := by omega
      have ht : i < t.size := by omega
      have hlt' : (i : Int) < (f.size : Int) := by omega
      have hlt2 : (i : Int) < (t.size : Int) := by omega
      by_cases he : f[i] = c
      · have he' : ((f[i].toNat : Int) == (c.toNat : Int)) = true := by rw [he]; simp
        have HX := hide (show TurnIs tFrom tTo c t[i] by rw [← unhide HFE, ← unhide HTE]; exact Or.inl ⟨i, hf, ht, he, rfl⟩)
        go_wp2_with fail
        go_ret
        exact ⟨t[i], rfl, unhide HX, rfl⟩
      · have he' : ((f[i].toNat : Int) == (c.toNat : Int)) = false := by
          rw [beq_eq_false_iff_ne]
          intro e
          exact he (UInt8.toNat_inj.1 (by omega))
        have HE := hide he
        go_wp2_with fail
        go_roundg (14 - (i + 1))
        case measure => rw [unhide HK]; omega
        case rel => exact ⟨i + 1, rfl, by omega, rfl, fun j h hj => by
          rcases Nat.lt_or_ge j i with h1 | h1
          · exact unhide HNo j h h1
          · have e : j = i := by omega
            subst e
            exact unhide HE, rfl⟩
    · have hlt' : ¬ (i : Int) < (f.size : Int) := by omega
      go_wp2_with fail
      go_ret
      exact ⟨c, rfl, by rw [← unhide HFE, ← unhide HTE]; exact Or.inr ⟨fun j h => unhide HNo j h (by omega), rfl⟩, rfl⟩
end Go.Proofs.YtikiaijgcjjloabGreatDoor

namespace Go.Proofs.YtikiaijgcjjloabGreatDoor
open Go Go.RowKit M Go.Lib
def overP (t b:Int):Int:=if t < 0 then -b else b
def overQ (t _b:Int):Int:=if t < 0 then -t else t
theorem overP_neg (t b:Int) (h:t < 0):overP t b = -b:=by unfold overP;rw [if_pos h]
theorem overP_pos (t b:Int) (h:¬ t < 0):overP t b = b:=by unfold overP;rw [if_neg h]
theorem overQ_neg (t b:Int) (h:t < 0):overQ t b = -t:=by unfold overQ;rw [if_pos h]
theorem overQ_pos (t b:Int) (h:¬ t < 0):overQ t b = t:=by unfold overQ;rw [if_neg h]
theorem over_bd (t b:Int) (h1:-1000000000 ≤ t) (h2:t ≤ 1000000000) (h3:1 ≤ b) (h4:b ≤ 1000000000) (h0:t ≠ 0):-1000000000 ≤ overP t b ∧ overP t b ≤ 1000000000 ∧ 1 ≤ overQ t b ∧ overQ t b ≤ 1000000000:=by
 unfold overP overQ;split <;> omega
theorem mul_bd (x y:Int) (h1:-1000000000 ≤ x) (h2:x ≤ 1000000000) (h3:-1000000000 ≤ y) (h4:y ≤ 1000000000):-1000000000000000000 ≤ x * y ∧ x * y ≤ 1000000000000000000:=by
 have h:(x * y).natAbs ≤ 1000000000 * 1000000000:=by
  rw [Int.natAbs_mul]
  exact Nat.mul_le_mul (by omega) (by omega)
 omega
theorem mul_pos1 (x y:Int) (h1:1 ≤ x) (h2:1 ≤ y):1 ≤ x * y:=by
 have:=Int.mul_pos (show 0 < x by omega) (show 0 < y by omega)
 omega
theorem cell_new2 {W w1:World} {T:TypeId} {x y:Value} (hb:Below (W.alloc (.cells #[x,y] T)).heap.size (W.alloc (.cells #[x,y] T)) w1) :
  w1.cell? ⟨W.heap.size,0,none⟩ = some x ∧ w1.cell? ⟨W.heap.size,1,none⟩ = some y:=by
 constructor
 ·rw [hb.cell (p:=⟨W.heap.size,0,none⟩) (by simp)];simp [go_sem]
 ·rw [hb.cell (p:=⟨W.heap.size,1,none⟩) (by simp)];simp [go_sem]
theorem lowest_int (p q:Int) (w:World) (h1:-4000000000000000000 ≤ p) (h2:p ≤ 4000000000000000000) (h3:1 ≤ q) (h4:q ≤ 4000000000000000000) :
  Calls Tryz.prog 143 #[.int .i64 p,.int .i64 q] w fun e w'=>((fitsB p q = true ∧ e = .returned (.tuple #[.agg #[.int .i64 (lowP p q),.int .i64 (lowQ p q)],.int .i64 0])) ∨ (fitsB p q = false ∧ e = .returned (.tuple #[.agg #[.int .i64 0,.int .i64 0],.int .i64 3]))) ∧ Below w.heap.size w w':=by
 obtain ⟨b,rfl⟩:=Int.eq_ofNat_of_zero_le (show 0 ≤ q by omega)
 exact lowest_any p b w h1 h2 (by omega) (by omega)
set_option maxRecDepth 100000 in
set_option maxHeartbeats 400000 in
theorem nOver_any (t b:Int) (w:World) (h1:-1000000000 ≤ t) (h2:t ≤ 1000000000) (h3:1 ≤ b) (h4:b ≤ 1000000000) :
  Calls Tryz.prog 99 #[.agg #[.int .i64 t,.int .i64 b]] w fun e w'=>((t = 0 ∧ e = .returned (.tuple #[.agg #[.int .i64 0,.int .i64 0],.int .i64 2])) ∨ (t ≠ 0 ∧ e = .returned (.tuple #[.agg #[.int .i64 (overP t b),.int .i64 (overQ t b)],.int .i64 0]))) ∧ Below w.heap.size w w':=by
 by_cases h0:t = 0
 ·subst h0
  go_enter Tryz.func99,Tryz.ntmps99
  go_wp2_with fail
  exact bodyPost_ret (v:=.tuple #[.agg #[.int .i64 0,.int .i64 0],.int .i64 2]) (by simp [results,Tryz.results99,go_sem]) rfl ⟨Or.inl ⟨by simp,rfl⟩,(by repeat (first | exact Below.refl _ _ | refine below_dr ?_ _ | refine Below.drew ?_ | refine Below.setCell ?_ (by simp) _ | refine Below.alloc ?_ (by simp) _))⟩
 ·have H0:=hide h0
  have hz:(t == 0) = false:=by rw [beq_eq_false_iff_ne];exact h0
  clear h0
  by_cases hn:t < 0
  ·have HP:=hide (overP_neg t b hn)
   have HQ:=hide (overQ_neg t b hn)
   go_enter Tryz.func99,Tryz.ntmps99
   go_wp2_with fail
   exact bodyPost_ret (v:=.tuple #[.agg #[.int .i64 (-b),.int .i64 (-t)],.int .i64 0]) (by simp [results,Tryz.results99,go_sem]) rfl ⟨Or.inr ⟨unhide H0,by rw [unhide HP,unhide HQ]⟩,(by repeat (first | exact Below.refl _ _ | refine below_dr ?_ _ | refine Below.drew ?_ | refine Below.setCell ?_ (by simp) _ | refine Below.alloc ?_ (by simp) _))⟩
  ·have HP:=hide (overP_pos t b hn)
   have HQ:=hide (overQ_pos t b hn)
   go_enter Tryz.func99,Tryz.ntmps99
   go_wp2_with fail
   exact bodyPost_ret (v:=.tuple #[.agg #[.int .i64 b,.int .i64 t],.int .i64 0]) (by simp [results,Tryz.results99,go_sem]) rfl ⟨Or.inr ⟨unhide H0,by rw [unhide HP,unhide HQ]⟩,(by repeat (first | exact Below.refl _ _ | refine below_dr ?_ _ | refine Below.drew ?_ | refine Below.setCell ?_ (by simp) _ | refine Below.alloc ?_ (by simp) _))⟩
set_option maxRecDepth 100000 in
set_option maxHeartbeats 400000 in
theorem rInv_any (t b:Int) (w:World) (h1:-1000000000 ≤ t) (h2:t ≤ 1000000000) (h3:1 ≤ b) (h4:b ≤ 1000000000) :
  Calls Tryz.prog 116 #[.agg #[.int .i64 t,.int .i64 b]] w fun e w'=>((t = 0 ∧ e = .returned (.tuple #[.agg #[.int .i64 0,.int .i64 1],.int .i64 2])) ∨ (t ≠ 0 ∧ e = .returned (.tuple #[.agg #[.int .i64 (overP t b),.int .i64 (overQ t b)],.int .i64 0]))) ∧ Below w.heap.size w w':=by
 by_cases h0:t = 0
 ·subst h0
  go_enter Tryz.func116,Tryz.ntmps116
  go_wp2_with fail
  exact bodyPost_ret (v:=.tuple #[.agg #[.int .i64 0,.int .i64 1],.int .i64 2]) (by simp [results,Tryz.results116,go_sem]) rfl ⟨Or.inl ⟨by simp,rfl⟩,(by repeat (first | exact Below.refl _ _ | refine below_dr ?_ _ | refine Below.drew ?_ | refine Below.setCell ?_ (by simp) _ | refine Below.alloc ?_ (by simp) _))⟩
 ·have H0:=hide h0
  have hz:(t == 0) = false:=by rw [beq_eq_false_iff_ne];exact h0
  clear h0
  by_cases hn:t < 0
  ·have HP:=hide (overP_neg t b hn)
   have HQ:=hide (overQ_neg t b hn)
   go_enter Tryz.func116,Tryz.ntmps116
   go_wp2_with fail
   exact bodyPost_ret (v:=.tuple #[.agg #[.int .i64 (-b),.int .i64 (-t)],.int .i64 0]) (by simp [results,Tryz.results116,go_sem]) rfl ⟨Or.inr ⟨unhide H0,by rw [unhide HP,unhide HQ]⟩,(by repeat (first | exact Below.refl _ _ | refine below_dr ?_ _ | refine Below.drew ?_ | refine Below.setCell ?_ (by simp) _ | refine Below.alloc ?_ (by simp) _))⟩
  ·have HP:=hide (overP_pos t b hn)
   have HQ:=hide (overQ_pos t b hn)
   go_enter Tryz.func116,Tryz.ntmps116
   go_wp2_with fail
   exact bodyPost_ret (v:=.tuple #[.agg #[.int .i64 b,.int .i64 t],.int .i64 0]) (by simp [results,Tryz.results116,go_sem]) rfl ⟨Or.inr ⟨unhide H0,by rw [unhide HP,unhide HQ]⟩,(by repeat (first | exact Below.refl _ _ | refine below_dr ?_ _ | refine Below.drew ?_ | refine Below.setCell ?_ (by simp) _ | refine Below.alloc ?_ (by simp) _))⟩
set_option maxRecDepth 100000 in
set_option maxHeartbeats 400000 in
theorem nPlus_any (t1 b1 t2 b2:Int) (w:World) (h1:-1000000000 ≤ t1) (h2:t1 ≤ 1000000000) (h3:1 ≤ b1) (h4:b1 ≤ 1000000000) (k1:-1000000000 ≤ t2) (k2:t2 ≤ 1000000000) (k3:1 ≤ b2) (k4:b2 ≤ 1000000000) :
  Calls Tryz.prog 108 #[.agg #[.int .i64 t1,.int .i64 b1],.agg #[.int .i64 t2,.int .i64 b2]] w fun e w'=>((fitsB (t1 * b2 + t2 * b1) (b1 * b2) = true ∧ e = .returned (.tuple #[.agg #[.int .i64 (lowP (t1 * b2 + t2 * b1) (b1 * b2)),.int .i64 (lowQ (t1 * b2 + t2 * b1) (b1 * b2))],.int .i64 0])) ∨ (fitsB (t1 * b2 + t2 * b1) (b1 * b2) = false ∧ e = .returned (.tuple #[.agg #[.int .i64 0,.int .i64 0],.int .i64 3]))) ∧ Below w.heap.size w w':=by
 have m1:=mul_bd t1 b2 h1 h2 (by omega) k4
 have m2:=mul_bd t2 b1 k1 k2 (by omega) h4
 have m3:=mul_bd b1 b2 (by omega) h4 (by omega) k4
 have m4:=mul_pos1 b1 b2 h3 k3
 go_enter Tryz.func108,Tryz.ntmps108
 go_wp2_with fail
 refine (lowest_int (t1 * b2 + t2 * b1) (b1 * b2) _ (by omega) (by omega) (by omega) (by omega)).mono ?_
 rintro e w1 ⟨⟨hf,rfl⟩ | ⟨hf,rfl⟩,hb⟩
 ·
  have HF:=hide hf
  clear hf m1 m2 m3 m4
  obtain ⟨hcell,hfr⟩:=bcell hb
  obtain ⟨c0,c1⟩:=cell_new2 hb
  simp only [World.size_alloc] at c0 c1
  have hz1:w.heap.size + 3 ≤ w1.heap.size:=by have:=hb.size;simpa using this
  have hz2:w.heap.size + 1 + 1 < w1.heap.size:=by omega
  have hz3:¬ w.heap.size + 1 + 1 = w1.heap.size:=by omega
  have hz4:¬ w1.heap.size = w.heap.size + 1 + 1:=by omega
  go_wp2_with fail
  refine bodyPost_ret (v:=.tuple #[.agg #[.int .i64 (lowP (t1 * b2 + t2 * b1) (b1 * b2)),.int .i64 (lowQ (t1 * b2 + t2 * b1) (b1 * b2))],.int .i64 0]) ?_ rfl ⟨Or.inl ⟨unhide HF,rfl⟩,?_⟩
  ·simp [results,Tryz.results108,go_sem,c0,c1]
  ·exact ((((((Below.refl _ _).alloc (Nat.le_refl _) _).alloc (by simp) _).alloc (by simp;omega) _).trans (hb.mono (by simp;omega))).setCell (by simp;omega) _).setCell (by simp;omega) _
 ·
  have HF:=hide hf
  clear hf m1 m2 m3 m4
  obtain ⟨hcell,hfr⟩:=bcell hb
  obtain ⟨c0,c1⟩:=cell_new2 hb
  simp only [World.size_alloc] at c0 c1
  have hz1:w.heap.size + 3 ≤ w1.heap.size:=by have:=hb.size;simpa using this
  have hz2:w.heap.size + 1 + 1 < w1.heap.size:=by omega
  have hz3:¬ w.heap.size + 1 + 1 = w1.heap.size:=by omega
  have hz4:¬ w1.heap.size = w.heap.size + 1 + 1:=by omega
  go_wp2_with fail
  refine bodyPost_ret (v:=.tuple #[.agg #[.int .i64 0,.int .i64 0],.int .i64 3]) ?_ rfl ⟨Or.inr ⟨unhide HF,rfl⟩,?_⟩
  ·simp [results,Tryz.results108,go_sem,c0,c1]
  ·exact ((((((Below.refl _ _).alloc (Nat.le_refl _) _).alloc (by simp) _).alloc (by simp;omega) _).trans (hb.mono (by simp;omega))).setCell (by simp;omega) _).setCell (by simp;omega) _
set_option maxRecDepth 100000 in
set_option maxHeartbeats 400000 in
theorem nTimes_any (t1 b1 t2 b2:Int) (w:World) (h1:-1000000000 ≤ t1) (h2:t1 ≤ 1000000000) (h3:1 ≤ b1) (h4:b1 ≤ 1000000000) (k1:-1000000000 ≤ t2) (k2:t2 ≤ 1000000000) (k3:1 ≤ b2) (k4:b2 ≤ 1000000000) :
  Calls Tryz.prog 113 #[.agg #[.int .i64 t1,.int .i64 b1],.agg #[.int .i64 t2,.int .i64 b2]] w fun e w'=>((fitsB (t1 * t2) (b1 * b2) = true ∧ e = .returned (.tuple #[.agg #[.int .i64 (lowP (t1 * t2) (b1 * b2)),.int .i64 (lowQ (t1 * t2) (b1 * b2))],.int .i64 0])) ∨ (fitsB (t1 * t2) (b1 * b2) = false ∧ e = .returned (.tuple #[.agg #[.int .i64 0,.int .i64 0],.int .i64 3]))) ∧ Below w.heap.size w w':=by
 have m1:=mul_bd t1 t2 h1 h2 k1 k2
 have m3:=mul_bd b1 b2 (by omega) h4 (by omega) k4
 have m4:=mul_pos1 b1 b2 h3 k3
 go_enter Tryz.func113,Tryz.ntmps113
 go_wp2_with fail
 refine (lowest_int (t1 * t2) (b1 * b2) _ (by omega) (by omega) (by omega) (by omega)).mono ?_
 rintro e w1 ⟨⟨hf,rfl⟩ | ⟨hf,rfl⟩,hb⟩
 ·
  have HF:=hide hf
  clear hf m1 m3 m4
  obtain ⟨hcell,hfr⟩:=bcell hb
  obtain ⟨c0,c1⟩:=cell_new2 hb
  simp only [World.size_alloc] at c0 c1
  have hz1:w.heap.size + 3 ≤ w1.heap.size:=by have:=hb.size;simpa using this
  have hz2:w.heap.size + 1 + 1 < w1.heap.size:=by omega
  have hz3:¬ w.heap.size + 1 + 1 = w1.heap.size:=by omega
  have hz4:¬ w1.heap.size = w.heap.size + 1 + 1:=by omega
  go_wp2_with fail
  refine bodyPost_ret (v:=.tuple #[.agg #[.int .i64 (lowP (t1 * t2) (b1 * b2)),.int .i64 (lowQ (t1 * t2) (b1 * b2))],.int .i64 0]) ?_ rfl ⟨Or.inl ⟨unhide HF,rfl⟩,?_⟩
  ·simp [results,Tryz.results113,go_sem,c0,c1]
  ·exact ((((((Below.refl _ _).alloc (Nat.le_refl _) _).alloc (by simp) _).alloc (by simp;omega) _).trans (hb.mono (by simp;omega))).setCell (by simp;omega) _).setCell (by simp;omega) _
 ·
  have HF:=hide hf
  clear hf m1 m3 m4
  obtain ⟨hcell,hfr⟩:=bcell hb
  obtain ⟨c0,c1⟩:=cell_new2 hb
  simp only [World.size_alloc] at c0 c1
  have hz1:w.heap.size + 3 ≤ w1.heap.size:=by have:=hb.size;simpa using this
  have hz2:w.heap.size + 1 + 1 < w1.heap.size:=by omega
  have hz3:¬ w.heap.size + 1 + 1 = w1.heap.size:=by omega
  have hz4:¬ w1.heap.size = w.heap.size + 1 + 1:=by omega
  go_wp2_with fail
  refine bodyPost_ret (v:=.tuple #[.agg #[.int .i64 0,.int .i64 0],.int .i64 3]) ?_ rfl ⟨Or.inr ⟨unhide HF,rfl⟩,?_⟩
  ·simp [results,Tryz.results113,go_sem,c0,c1]
  ·exact ((((((Below.refl _ _).alloc (Nat.le_refl _) _).alloc (by simp) _).alloc (by simp;omega) _).trans (hb.mono (by simp;omega))).setCell (by simp;omega) _).setCell (by simp;omega) _
set_option maxRecDepth 100000 in
set_option maxHeartbeats 400000 in
theorem rAdd_any (t1 b1 t2 b2:Int) (w:World) (h1:-1000000000 ≤ t1) (h2:t1 ≤ 1000000000) (h3:1 ≤ b1) (h4:b1 ≤ 1000000000) (k1:-1000000000 ≤ t2) (k2:t2 ≤ 1000000000) (k3:1 ≤ b2) (k4:b2 ≤ 1000000000) :
  Calls Tryz.prog 111 #[.agg #[.int .i64 t1,.int .i64 b1],.agg #[.int .i64 t2,.int .i64 b2]] w fun e w'=>((fitsB (t1 * b2 + t2 * b1) (b1 * b2) = true ∧ e = .returned (.tuple #[.agg #[.int .i64 (lowP (t1 * b2 + t2 * b1) (b1 * b2)),.int .i64 (lowQ (t1 * b2 + t2 * b1) (b1 * b2))],.int .i64 0])) ∨ (fitsB (t1 * b2 + t2 * b1) (b1 * b2) = false ∧ e = .returned (.tuple #[.agg #[.int .i64 0,.int .i64 1],.int .i64 3]))) ∧ Below w.heap.size w w':=by
 have m1:=mul_bd t1 b2 h1 h2 (by omega) k4
 have m2:=mul_bd t2 b1 k1 k2 (by omega) h4
 have m3:=mul_bd b1 b2 (by omega) h4 (by omega) k4
 have m4:=mul_pos1 b1 b2 h3 k3
 go_enter Tryz.func111,Tryz.ntmps111
 go_wp2_with fail
 refine (Low_int (t1 * b2 + t2 * b1) (b1 * b2) _ (by omega) (by omega) (by omega) (by omega)).mono ?_
 rintro e w1 ⟨⟨hf,rfl⟩ | ⟨hf,rfl⟩,hb⟩
 ·
  have HF:=hide hf
  clear hf m1 m2 m3 m4
  obtain ⟨hcell,hfr⟩:=bcell hb
  obtain ⟨d0,d1,hbw⟩:=three_cells hb (.int .i64 (lowP (t1 * b2 + t2 * b1) (b1 * b2))) (.int .i64 (lowQ (t1 * b2 + t2 * b1) (b1 * b2))) (.cells #[.int .i64 (lowP (t1 * b2 + t2 * b1) (b1 * b2)),.int .i64 (lowQ (t1 * b2 + t2 * b1) (b1 * b2))] 139)
  simp only [World.size_alloc] at d0 d1 hbw
  have hz1:w.heap.size + 3 ≤ w1.heap.size:=by have:=hb.size;simpa using this
  have hz2:w.heap.size + 1 + 1 < w1.heap.size:=by omega
  have hz3:¬ w.heap.size + 1 + 1 = w1.heap.size:=by omega
  have hz4:¬ w1.heap.size = w.heap.size + 1 + 1:=by omega
  go_wp2_with fail
  refine bodyPost_ret (v:=.tuple #[.agg #[.int .i64 (lowP (t1 * b2 + t2 * b1) (b1 * b2)),.int .i64 (lowQ (t1 * b2 + t2 * b1) (b1 * b2))],.int .i64 0]) ?_ rfl ⟨Or.inl ⟨unhide HF,rfl⟩,?_⟩
  ·simp [results,Tryz.results111,go_sem,d0,d1]
  ·exact (((Below.refl _ _).alloc (Nat.le_refl _) _).alloc (by simp) _).trans (hbw.mono (by omega))
 ·
  have HF:=hide hf
  clear hf m1 m2 m3 m4
  obtain ⟨hcell,hfr⟩:=bcell hb
  obtain ⟨d0,d1,hbw⟩:=three_cells hb (.int .i64 0) (.int .i64 1) (.cells #[.int .i64 0,.int .i64 1] 139)
  simp only [World.size_alloc] at d0 d1 hbw
  have hz1:w.heap.size + 3 ≤ w1.heap.size:=by have:=hb.size;simpa using this
  have hz2:w.heap.size + 1 + 1 < w1.heap.size:=by omega
  have hz3:¬ w.heap.size + 1 + 1 = w1.heap.size:=by omega
  have hz4:¬ w1.heap.size = w.heap.size + 1 + 1:=by omega
  go_wp2_with fail
  refine bodyPost_ret (v:=.tuple #[.agg #[.int .i64 0,.int .i64 1],.int .i64 3]) ?_ rfl ⟨Or.inr ⟨unhide HF,rfl⟩,?_⟩
  ·simp [results,Tryz.results111,go_sem,d0,d1]
  ·exact (((Below.refl _ _).alloc (Nat.le_refl _) _).alloc (by simp) _).trans (hbw.mono (by omega))
set_option maxRecDepth 100000 in
set_option maxHeartbeats 400000 in
theorem rMul_any (t1 b1 t2 b2:Int) (w:World) (h1:-1000000000 ≤ t1) (h2:t1 ≤ 1000000000) (h3:1 ≤ b1) (h4:b1 ≤ 1000000000) (k1:-1000000000 ≤ t2) (k2:t2 ≤ 1000000000) (k3:1 ≤ b2) (k4:b2 ≤ 1000000000) :
  Calls Tryz.prog 114 #[.agg #[.int .i64 t1,.int .i64 b1],.agg #[.int .i64 t2,.int .i64 b2]] w fun e w'=>((fitsB (t1 * t2) (b1 * b2) = true ∧ e = .returned (.tuple #[.agg #[.int .i64 (lowP (t1 * t2) (b1 * b2)),.int .i64 (lowQ (t1 * t2) (b1 * b2))],.int .i64 0])) ∨ (fitsB (t1 * t2) (b1 * b2) = false ∧ e = .returned (.tuple #[.agg #[.int .i64 0,.int .i64 1],.int .i64 3]))) ∧ Below w.heap.size w w':=by
 have m1:=mul_bd t1 t2 h1 h2 k1 k2
 have m3:=mul_bd b1 b2 (by omega) h4 (by omega) k4
 have m4:=mul_pos1 b1 b2 h3 k3
 go_enter Tryz.func114,Tryz.ntmps114
 go_wp2_with fail
 refine (Low_int (t1 * t2) (b1 * b2) _ (by omega) (by omega) (by omega) (by omega)).mono ?_
 rintro e w1 ⟨⟨hf,rfl⟩ | ⟨hf,rfl⟩,hb⟩
 ·
  have HF:=hide hf
  clear hf m1 m3 m4
  obtain ⟨hcell,hfr⟩:=bcell hb
  obtain ⟨d0,d1,hbw⟩:=three_cells hb (.int .i64 (lowP (t1 * t2) (b1 * b2))) (.int .i64 (lowQ (t1 * t2) (b1 * b2))) (.cells #[.int .i64 (lowP (t1 * t2) (b1 * b2)),.int .i64 (lowQ (t1 * t2) (b1 * b2))] 139)
  simp only [World.size_alloc] at d0 d1 hbw
  have hz1:w.heap.size + 3 ≤ w1.heap.size:=by have:=hb.size;simpa using this
  have hz2:w.heap.size + 1 + 1 < w1.heap.size:=by omega
  have hz3:¬ w.heap.size + 1 + 1 = w1.heap.size:=by omega
  have hz4:¬ w1.heap.size = w.heap.size + 1 + 1:=by omega
  go_wp2_with fail
  refine bodyPost_ret (v:=.tuple #[.agg #[.int .i64 (lowP (t1 * t2) (b1 * b2)),.int .i64 (lowQ (t1 * t2) (b1 * b2))],.int .i64 0]) ?_ rfl ⟨Or.inl ⟨unhide HF,rfl⟩,?_⟩
  ·simp [results,Tryz.results114,go_sem,d0,d1]
  ·exact (((Below.refl _ _).alloc (Nat.le_refl _) _).alloc (by simp) _).trans (hbw.mono (by omega))
 ·
  have HF:=hide hf
  clear hf m1 m3 m4
  obtain ⟨hcell,hfr⟩:=bcell hb
  obtain ⟨d0,d1,hbw⟩:=three_cells hb (.int .i64 0) (.int .i64 1) (.cells #[.int .i64 0,.int .i64 1] 139)
  simp only [World.size_alloc] at d0 d1 hbw
  have hz1:w.heap.size + 3 ≤ w1.heap.size:=by have:=hb.size;simpa using this
  have hz2:w.heap.size + 1 + 1 < w1.heap.size:=by omega
  have hz3:¬ w.heap.size + 1 + 1 = w1.heap.size:=by omega
  have hz4:¬ w1.heap.size = w.heap.size + 1 + 1:=by omega
  go_wp2_with fail
  refine bodyPost_ret (v:=.tuple #[.agg #[.int .i64 0,.int .i64 1],.int .i64 3]) ?_ rfl ⟨Or.inr ⟨unhide HF,rfl⟩,?_⟩
  ·simp [results,Tryz.results114,go_sem,d0,d1]
  ·exact (((Below.refl _ _).alloc (Nat.le_refl _) _).alloc (by simp) _).trans (hbw.mono (by omega))
end Go.Proofs.YtikiaijgcjjloabGreatDoor

namespace Go.Proofs.YtikiaijgcjjloabGreatDoor
open Go Go.RowKit M T Go.Lib
set_option maxRecDepth 100000 in
set_option maxHeartbeats 400000 in
theorem rLess_any (t b:Int) (w:World) (h1:-1000000000 ≤ t) (h2:t ≤ 1000000000) :
  Calls Tryz.prog 155 #[.agg #[.int .i64 t,.int .i64 b]] w fun e w'=>e = .returned (.agg #[.int .i64 (-t),.int .i64 b]) ∧ Below w.heap.size w w':=by
 go_enter Tryz.func155,Tryz.ntmps155
 go_wp2_with fail
 exact bodyPost_ret (v:=.agg #[.int .i64 (-t),.int .i64 b]) (by simp [results,Tryz.results155,go_sem]) rfl ⟨rfl,(by repeat (first | exact Below.refl _ _ | refine below_dr ?_ _ | refine Below.drew ?_ | refine Below.setCell ?_ (by simp) _ | refine Below.alloc ?_ (by simp) _))⟩
structure TB3 (w:World) (c0 c2:Array Value) (wx:World):Prop where
 bel:Below w.heap.size w wx
 b0:wx.heap[w.heap.size]? = some (.cells c0 141 (0,0))
 b1:wx.heap[w.heap.size + 1]? = some (.cells rz 141 (0,0))
 b2:wx.heap[w.heap.size + 2]? = some (.cells c2 141 (0,0))
theorem tb3_new (w:World) (c0 c2:Array Value):TB3 w c0 c2 (((w.alloc (.cells c0 141)).alloc (.cells rz 141)).alloc (.cells c2 141)).drew:=by
 refine ⟨Below.drew ((((Below.refl _ _).alloc (Nat.le_refl _) _).alloc (by simp) _).alloc (by simp;omega) _),?_,?_,?_⟩
 ·show (((w.alloc (.cells c0 141)).alloc (.cells rz 141)).alloc (.cells c2 141)).heap[w.heap.size]? = _
  rw [Below.heap_alloc _ _ _ (by simp;omega),Below.heap_alloc _ _ _ (by simp)]
  exact heap_alloc_new w _
 ·show (((w.alloc (.cells c0 141)).alloc (.cells rz 141)).alloc (.cells c2 141)).heap[w.heap.size + 1]? = _
  rw [Below.heap_alloc _ _ _ (by simp)]
  exact new_at2 w _ _
 ·have:=heap_alloc_new ((w.alloc (.cells c0 141)).alloc (.cells rz 141)) (.cells c2 141)
  rw [World.size_alloc,World.size_alloc] at this
  exact this
set_option maxRecDepth 100000 in
set_option maxHeartbeats 1600000 in
theorem against_other (Kd:UInt8) (P Q K:Int) (pa:Option Addr) (pn pc:Nat) (F G:ByteArray) (w:World) (h43:Kd ≠ 43) (h42:Kd ≠ 42) :
  Calls Tryz.prog 149 #[RC.value ⟨Kd,P,Q,K,pa,pn,pc,F,G⟩] w fun e w'=>∃ (r:UInt8) (K':Int),e = .returned (RC.value ⟨r,P,Q,K',none,0,0,⟨#[]⟩,⟨#[]⟩⟩) ∧ K' = IntKind.i64.wrap (-K) ∧ TurnIs tFrom tTo Kd r ∧ Below w.heap.size w w':=by
 rw [show RC.value ⟨Kd,P,Q,K,pa,pn,pc,F,G⟩ = .agg #[.int .u8 (Kd.toNat:Int),.int .i64 P,.int .i64 Q,.int .i64 K,.slice pa pn pc,.string F,.string G] from rfl]
 have q43:((Kd.toNat:Int) == 43) = false:=u8_ne' (d:=43) h43
 have q42:((Kd.toNat:Int) == 42) = false:=u8_ne' (d:=42) h42
 clear h43 h42
 go_enter Tryz.func149,Tryz.ntmps149
 go_upto_region 1 with fail
 go_cut [3] (fun v3 wx=>∃ (r:UInt8) (K':Int),v3 = .pointer (some ⟨w.heap.size + 2,0,none⟩) ∧ K' = IntKind.i64.wrap (-K) ∧ TurnIs tFrom tTo Kd r ∧ TB3 w #[.int .u8 (Kd.toNat:Int),.int .i64 P,.int .i64 Q,.int .i64 K,.slice pa pn pc,.string F,.string G] #[.int .u8 (r.toNat:Int),.int .i64 P,.int .i64 Q,.int .i64 K',.slice none 0 0,.string ⟨#[]⟩,.string ⟨#[]⟩] wx)
 case first=>
  go_region_held3 (fun w'=>w'.cell? ⟨w.heap.size,0,none⟩ = some (.int .u8 (Kd.toNat:Int)) ∧ w'.cell? ⟨w.heap.size,1,none⟩ = some (.int .i64 P) ∧ w'.cell? ⟨w.heap.size,2,none⟩ = some (.int .i64 Q) ∧ w'.cell? ⟨w.heap.size,3,none⟩ = some (.int .i64 K)) (go_keep)
   (first | (go_at_call 176;refine (turned_any Kd _).mono ?_;rintro e w' ⟨r,rfl,hr,rfl⟩))
  all_goals go_wp2_with fail
  all_goals go_meet
  all_goals exact ⟨r,_,rfl,rfl,hr,tb3_new w _ _⟩
 case rest=>
  obtain ⟨r,K',rfl,hk,hr,h3⟩:=hcut
  have HK:=hide hk
  clear hk
  have HR:=hide hr
  have H3:=hide h3
  have c0:∀ i,wc.cell? ⟨w.heap.size,i,none⟩ = (#[.int .u8 (Kd.toNat:Int),.int .i64 P,.int .i64 Q,.int .i64 K,.slice pa pn pc,.string F,.string G]:Array Value)[i]?:=fun i=>blk_cell h3.b0 i
  have c1:∀ i,wc.cell? ⟨w.heap.size + 1,i,none⟩ = (#[.int .u8 0,.int .i64 0,.int .i64 0,.int .i64 0,.slice none 0 0,.string ⟨#[]⟩,.string ⟨#[]⟩]:Array Value)[i]?:=fun i=>blk_cell h3.b1 i
  have f1:∀ i,wc.frozen? ⟨w.heap.size + 1,i,none⟩ = false:=fun i=>blk_free h3.b1 i
  have c2:∀ i,wc.cell? ⟨w.heap.size + 2,i,none⟩ = (#[.int .u8 (r.toNat:Int),.int .i64 P,.int .i64 Q,.int .i64 K',.slice none 0 0,.string ⟨#[]⟩,.string ⟨#[]⟩]:Array Value)[i]?:=fun i=>blk_cell h3.b2 i
  clear hr h3
  go_wp2_with fail
  exact bodyPost_ret (v:=RC.value ⟨r,P,Q,K',none,0,0,⟨#[]⟩,⟨#[]⟩⟩) (by simp [results,Tryz.results149,go_sem,c1,RC.value,RC.cells]) rfl ⟨r,K',rfl,unhide HK,unhide HR,st7_below (unhide H3).bel (Nat.le_succ _) _ _ _ _ _ _ _⟩
set_option maxRecDepth 100000 in
set_option maxHeartbeats 1600000 in
theorem against_plus (P Q K:Int) (pa:Option Addr) (pn pc:Nat) (F G:ByteArray) (w:World) (h1:-1000000000 ≤ P) (h2:P ≤ 1000000000) :
  Calls Tryz.prog 149 #[RC.value ⟨43,P,Q,K,pa,pn,pc,F,G⟩] w fun e w'=>∃ (r:UInt8) (K':Int),e = .returned (RC.value ⟨r,-P,Q,K',none,0,0,⟨#[]⟩,⟨#[]⟩⟩) ∧ K' = IntKind.i64.wrap (-K) ∧ TurnIs tFrom tTo 43 r ∧ Below w.heap.size w w':=by
 rw [show RC.value ⟨43,P,Q,K,pa,pn,pc,F,G⟩ = .agg #[.int .u8 43,.int .i64 P,.int .i64 Q,.int .i64 K,.slice pa pn pc,.string F,.string G] from rfl]
 go_enter Tryz.func149,Tryz.ntmps149
 go_upto_region 1 with fail
 go_cut [3] (fun v3 wx=>∃ (r:UInt8) (K':Int),v3 = .pointer (some ⟨w.heap.size + 2,0,none⟩) ∧ K' = IntKind.i64.wrap (-K) ∧ TurnIs tFrom tTo 43 r ∧ TB3 w #[.int .u8 43,.int .i64 P,.int .i64 Q,.int .i64 K,.slice pa pn pc,.string F,.string G] #[.int .u8 (r.toNat:Int),.int .i64 P,.int .i64 Q,.int .i64 K',.slice none 0 0,.string ⟨#[]⟩,.string ⟨#[]⟩] wx)
 case first=>
  go_region_held3 (fun w'=>w'.cell? ⟨w.heap.size,0,none⟩ = some (.int .u8 43) ∧ w'.cell? ⟨w.heap.size,1,none⟩ = some (.int .i64 P) ∧ w'.cell? ⟨w.heap.size,2,none⟩ = some (.int .i64 Q) ∧ w'.cell? ⟨w.heap.size,3,none⟩ = some (.int .i64 K)) (go_keep)
   (first | (go_at_call 176;refine (turned_any 43 _).mono ?_;rintro e w' ⟨r,rfl,hr,rfl⟩))
  all_goals go_wp2_with fail
  all_goals go_meet
  all_goals exact ⟨r,_,rfl,rfl,hr,tb3_new w _ _⟩
 case rest=>
  obtain ⟨r,K',rfl,hk,hr,h3⟩:=hcut
  have HK:=hide hk
  clear hk
  have HR:=hide hr
  have H3:=hide h3
  have c0:∀ i,wc.cell? ⟨w.heap.size,i,none⟩ = (#[.int .u8 43,.int .i64 P,.int .i64 Q,.int .i64 K,.slice pa pn pc,.string F,.string G]:Array Value)[i]?:=fun i=>blk_cell h3.b0 i
  have c1:∀ i,wc.cell? ⟨w.heap.size + 1,i,none⟩ = (#[.int .u8 0,.int .i64 0,.int .i64 0,.int .i64 0,.slice none 0 0,.string ⟨#[]⟩,.string ⟨#[]⟩]:Array Value)[i]?:=fun i=>blk_cell h3.b1 i
  have f1:∀ i,wc.frozen? ⟨w.heap.size + 1,i,none⟩ = false:=fun i=>blk_free h3.b1 i
  have c2:∀ i,wc.cell? ⟨w.heap.size + 2,i,none⟩ = (#[.int .u8 (r.toNat:Int),.int .i64 P,.int .i64 Q,.int .i64 K',.slice none 0 0,.string ⟨#[]⟩,.string ⟨#[]⟩]:Array Value)[i]?:=fun i=>blk_cell h3.b2 i
  have hb0:=h3.b0
  have hb1:=h3.b1
  have hb2:=h3.b2
  clear hr h3 c0 c1 c2 f1
  have c0:wc.cell? ⟨w.heap.size,0,none⟩ = some (.int .u8 43):=blk_cell hb0 0
  have c0p:wc.cell? ⟨w.heap.size,1,none⟩ = some (.int .i64 P):=blk_cell hb0 1
  have c0q:wc.cell? ⟨w.heap.size,2,none⟩ = some (.int .i64 Q):=blk_cell hb0 2
  go_wp2_with fail
  refine (rLess_any P Q _ h1 h2).mono ?_
  rintro e w1 ⟨rfl,hbl⟩
  have d0:∀ i,w1.cell? ⟨w.heap.size,i,none⟩ = (#[.int .u8 43,.int .i64 P,.int .i64 Q,.int .i64 K,.slice pa pn pc,.string F,.string G]:Array Value)[i]?:=fun i=>blk_cell (by rw [hbl.block _ (lt_of_block hb0)];exact hb0) i
  have d1:∀ i,w1.cell? ⟨w.heap.size + 1,i,none⟩ = (#[.int .u8 0,.int .i64 0,.int .i64 0,.int .i64 0,.slice none 0 0,.string ⟨#[]⟩,.string ⟨#[]⟩]:Array Value)[i]?:=fun i=>blk_cell (by rw [hbl.block _ (lt_of_block hb1)];exact hb1) i
  have e1:∀ i,w1.frozen? ⟨w.heap.size + 1,i,none⟩ = false:=fun i=>blk_free (by rw [hbl.block _ (lt_of_block hb1)];exact hb1) i
  have d2:∀ i,w1.cell? ⟨w.heap.size + 2,i,none⟩ = (#[.int .u8 (r.toNat:Int),.int .i64 P,.int .i64 Q,.int .i64 K',.slice none 0 0,.string ⟨#[]⟩,.string ⟨#[]⟩]:Array Value)[i]?:=fun i=>blk_cell (by rw [hbl.block _ (lt_of_block hb2)];exact hb2) i
  have e2:∀ i,w1.frozen? ⟨w.heap.size + 2,i,none⟩ = false:=fun i=>blk_free (by rw [hbl.block _ (lt_of_block hb2)];exact hb2) i
  have HB:=hide ((unhide H3).bel.trans (hbl.mono (unhide H3).bel.size))
  clear hb0 hb1 hb2 hbl c0 c0p c0q
  go_wp2_with fail
  exact bodyPost_ret (v:=RC.value ⟨r,-P,Q,K',none,0,0,⟨#[]⟩,⟨#[]⟩⟩) (by simp [results,Tryz.results149,go_sem,d1,RC.value,RC.cells]) rfl ⟨r,K',rfl,unhide HK,unhide HR,st7_below (Below.setCell (p:=⟨w.heap.size + 2,2,none⟩) (Below.setCell (p:=⟨w.heap.size + 2,1,none⟩) (unhide HB) (Nat.le_add_right _ 2) _) (Nat.le_add_right _ 2) _) (Nat.le_succ _) _ _ _ _ _ _ _⟩
end Go.Proofs.YtikiaijgcjjloabGreatDoor

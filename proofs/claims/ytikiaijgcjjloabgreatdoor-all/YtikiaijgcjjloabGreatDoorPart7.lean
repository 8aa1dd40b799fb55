import Derived.Test.YtikiaijgcjjloabGreatDoorPart6
import Derived.Deep.RegionWith

namespace Go.Proofs.YtikiaijgcjjloabGreatDoor
open Go Go.RowKit M Go.Lib
def BotIs (s:ByteArray) (st q:Nat):Prop:=2 ≤ q ∧ ∃ r,s.data.toList.drop st = 47 :: r ∧ DigAt r q []
theorem bot_none_slash (s:ByteArray) (st:Nat) (hn:∀ ha:st < s.size,s[st].toNat ≠ 47) (q:Nat):¬ BotIs s st q:=by
 rintro ⟨_,r,hr,_⟩
 by_cases ha:st < s.size
 ·rw [drop_at s st ha] at hr
  simp only [List.cons.injEq] at hr
  exact hn ha (by rw [hr.1];rfl)
 ·rw [drop_end s st (by omega)] at hr;cases hr
theorem bot_of (s:ByteArray) (st:Nat) (ha:st < s.size) (hc:s[st].toNat = 47) (q:Nat):BotIs s st q ↔ 2 ≤ q ∧ DigAt (s.data.toList.drop (st + 1)) q []:=by
 have hc':s[st] = 47:=UInt8.toNat_inj.1 hc
 unfold BotIs
 rw [drop_at s st ha,hc']
 constructor
 ·rintro ⟨h2,r,hr,hd⟩
  simp only [List.cons.injEq,true_and] at hr
  exact ⟨h2,hr ▸ hd⟩
 ·rintro ⟨h2,hd⟩
  exact ⟨h2,_,rfl,hd⟩
set_option maxRecDepth 100000 in
set_option maxHeartbeats 400000 in
theorem readBottom_any (s:ByteArray) (st:Nat) (w:World) (hs:s.size ≤ maxLen) (hst:st ≤ s.size) :
  Calls Tryz.prog 65 #[.string s,.int .i64 st] w fun e w'=>((∃ q:Nat,BotIs s st q ∧ q ≤ 1000000000 ∧ e = .returned (.tuple #[.int .i64 q,.bool true])) ∨ ((∀ q,¬ BotIs s st q) ∧ e = .returned (.tuple #[.int .i64 0,.bool false]))) ∧ w = w':=by
 have hs':=hs
 unfold maxLen at hs
 by_cases hlt:st < s.size
 case neg=>
  have HE:=hide (bot_none_slash s st (fun ha=>absurd ha hlt))
  have hlt':¬ (st:Int) < s.size:=by omega
  go_enter Tryz.func65,Tryz.ntmps65
  go_wp2_with fail
  go_ret2
  exact ⟨Or.inr ⟨unhide HE,rfl⟩,rfl⟩
 have hlt':(st:Int) < s.size:=by omega
 by_cases hc:s[st].toNat = 47
 case neg=>
  have HE:=hide (bot_none_slash s st (fun ha=>hc))
  have hc':((s[st].toNat:Int) != 47) = true:=by rw [bne_iff_ne];omega
  clear hc
  go_enter Tryz.func65,Tryz.ntmps65
  go_wp2_with fail
  go_ret2
  exact ⟨Or.inr ⟨unhide HE,rfl⟩,rfl⟩
 have HB:=hide (bot_of s st hlt hc)
 have hc':((s[st].toNat:Int) != 47) = false:=by rw [bne_eq_false_iff_eq];omega
 clear hc
 go_enter Tryz.func65,Tryz.ntmps65
 go_wp2_with fail
 rw [show ((st:Int) + 1) = ((st + 1:Nat):Int) from by omega]
 refine (readDigits_any s (st + 1) _ hs' (by omega)).mono ?_
 rintro e w' ⟨⟨v,a,hD,ha1,ha2,rfl⟩ | ⟨hN,rfl⟩,rfl⟩
 ·have HD:=hide hD
  have hv:=hD.le
  clear hD
  by_cases hok:a = s.size ∧ 2 ≤ v
  ·obtain ⟨rfl,hv2⟩:=hok
   have HE:=hide (((unhide HB) v).2 ⟨hv2,by have:=unhide HD;rwa [drop_end s s.size (Nat.le_refl _)] at this⟩)
   go_wp2_with fail
   go_ret2
   exact ⟨Or.inl ⟨v,unhide HE,hv,rfl⟩,rfl⟩
  ·have HE:Hid (∀ q,¬ BotIs s st q):=by
    intro q hq
    obtain ⟨h2,hd⟩:=((unhide HB) q).1 hq
    obtain ⟨rfl,hr⟩:=hd.unique (unhide HD)
    apply hok
    refine ⟨?_,h2⟩
    rcases Nat.lt_or_ge a s.size with h | h
    ·rw [drop_at s a h] at hr;cases hr
    ·omega
   by_cases hae:a = s.size
   ·have hv2:(v:Int) < 2:=by omega
    have hae':((a:Int) != s.size) = false:=by rw [bne_eq_false_iff_eq];omega
    clear hok hae
    go_wp2_with fail
    go_ret2
    exact ⟨Or.inr ⟨unhide HE,rfl⟩,rfl⟩
   ·have hae':((a:Int) != s.size) = true:=by rw [bne_iff_ne];omega
    clear hok hae
    go_wp2_with fail
    go_ret2
    exact ⟨Or.inr ⟨unhide HE,rfl⟩,rfl⟩
 ·have HE:Hid (∀ q,¬ BotIs s st q):=by
   intro q hq
   obtain ⟨h2,hd⟩:=((unhide HB) q).1 hq
   exact hN _ _ hd
  clear hN
  go_wp2_with fail
  go_ret2
  exact ⟨Or.inr ⟨unhide HE,rfl⟩,rfl⟩
theorem readDigits_0 (s:ByteArray) (w:World) (hs:s.size ≤ maxLen) :
  Calls Tryz.prog 64 #[.string s,.int .i64 0] w fun e w'=>((∃ v a:Nat,DigAt (s.data.toList.drop 0) v (s.data.toList.drop a) ∧ 0 < a ∧ a ≤ s.size ∧ e = .returned (.tuple #[.int .i64 v,.int .i64 a,.bool true])) ∨ ((∀ v r,¬ DigAt (s.data.toList.drop 0) v r) ∧ e = .returned (.tuple #[.int .i64 0,.int .i64 0,.bool false]))) ∧ w = w' :=
 (readDigits_any s 0 w hs (by omega)).mono fun _ _ ⟨h,e⟩=>⟨h,e.symm⟩
theorem readDigits_1 (s:ByteArray) (w:World) (hs:s.size ≤ maxLen) :
  Calls Tryz.prog 64 #[.string s,.int .i64 1] w fun e w'=>((∃ v a:Nat,DigAt (s.data.toList.drop 1) v (s.data.toList.drop a) ∧ 1 < a ∧ a ≤ s.size ∧ e = .returned (.tuple #[.int .i64 v,.int .i64 a,.bool true])) ∨ ((∀ v r,¬ DigAt (s.data.toList.drop 1) v r) ∧ e = .returned (.tuple #[.int .i64 0,.int .i64 0,.bool false]))) ∧ w = w' :=
 (readDigits_any s 1 w hs (by omega)).mono fun _ _ ⟨h,e⟩=>⟨h,e.symm⟩
theorem neg_of (s:ByteArray) (h:0 < s.size):neg s.data.toList = decide (s[0].toNat = 45):=by
 unfold M.neg
 have:s.data.toList = s[0] :: s.data.toList.drop 1:=by simpa using drop_at s 0 h
 rw [this]
 simp only [List.head?_cons]
 rw [Bool.eq_iff_iff]
 simp
 constructor
 ·intro e;rw [e];rfl
 ·intro e;exact UInt8.toNat_inj.1 e
theorem neg_empty (s:ByteArray) (h:s.size = 0):neg s.data.toList = false:=by
 have:s.data.toList = []:=List.length_eq_zero_iff.1 (by rw [len_size];exact h)
 rw [this];rfl
theorem read_none1 (s:ByteArray) (n:Bool) (hn:neg s.data.toList = n) (h:∀ v r,¬ DigAt (s.data.toList.drop (if n then 1 else 0)) v r):∀ t b,¬ IsNum s.data.toList t b:=by
 apply no_num_dig
 unfold body
 rw [hn]
 cases n <;> simpa using h
theorem body_eq (s:ByteArray) (n:Bool) (hn:neg s.data.toList = n):s.data.toList.drop (if n then 1 else 0) = body s.data.toList:=by
 unfold body;rw [hn];cases n <;> simp
theorem read_none0 (s:ByteArray) (r:List UInt8) (hn:neg s.data.toList = true) (h:DigAt (s.data.toList.drop 1) 0 r):∀ t b,¬ IsNum s.data.toList t b:=by
 have:=body_eq s true hn
 simp only [if_true] at this
 rw [this] at h
 exact no_num_zero h hn
theorem read_whole (s:ByteArray) (n:Bool) (v:Nat) (hn:neg s.data.toList = n) (hv:n = true → 1 ≤ v) (h:DigAt (s.data.toList.drop (if n then 1 else 0)) v (s.data.toList.drop s.size)):IsNum s.data.toList (sgn n v) 1:=by
 rw [body_eq s n hn,drop_end s s.size (Nat.le_refl _)] at h
 subst hn
 exact is_num_whole h hv
theorem read_parts (s:ByteArray) (n:Bool) (v a q:Nat) (hn:neg s.data.toList = n) (hv:n = true → 1 ≤ v) (h:DigAt (s.data.toList.drop (if n then 1 else 0)) v (s.data.toList.drop a)) (hq:BotIs s a q) (hg:Nat.gcd v q = 1):IsNum s.data.toList (sgn n v) q:=by
 obtain ⟨h2,r,hr,hd⟩:=hq
 rw [body_eq s n hn,hr] at h
 subst hn
 exact is_num_parts h hv hd h2 hg
theorem read_none_bot (s:ByteArray) (n:Bool) (v a:Nat) (ha:a < s.size) (hn:neg s.data.toList = n) (h:DigAt (s.data.toList.drop (if n then 1 else 0)) v (s.data.toList.drop a)) (hq:∀ q,¬ BotIs s a q):∀ t b,¬ IsNum s.data.toList t b:=by
 rw [body_eq s n hn] at h
 refine no_num_tail h (by rw [drop_at s a ha];simp) ?_
 rintro q h2 ⟨r,hr,hd⟩
 exact hq q ⟨h2,r,hr,hd⟩
theorem read_none_gcd (s:ByteArray) (n:Bool) (v a q:Nat) (hn:neg s.data.toList = n) (h:DigAt (s.data.toList.drop (if n then 1 else 0)) v (s.data.toList.drop a)) (hq:BotIs s a q) (hg:Nat.gcd v q ≠ 1):∀ t b,¬ IsNum s.data.toList t b:=by
 obtain ⟨h2,r,hr,hd⟩:=hq
 rw [body_eq s n hn,hr] at h
 exact no_num_gcd h hd hg
def ReadSays (s:ByteArray) (e:Ending):Prop :=
 (∃ t b,IsNum s.data.toList t b ∧ e = .returned (.tuple #[.agg #[.int .i64 t,.int .i64 b],.bool true])) ∨ ((∀ t b,¬ IsNum s.data.toList t b) ∧ e = .returned (.tuple #[.agg #[.int .i64 0,.int .i64 0],.bool false]))
set_option maxRecDepth 100000 in
set_option maxHeartbeats 400000 in
theorem Read_neg (s : ByteArray) (w : World) (hs : s.size ≤ maxLen) (h0 : 0 < s.size) (hn : neg s.data.toList = true) :
    Calls Tryz.prog 40 #[.string s] w fun e w' => ReadSays s e ∧ Below w.heap.size w w' := by
  have hs' := hs
  unfold maxLen at hs
  have hc : ((s[0].toNat : Int) == 45) = true := by
    rw [neg_of s h0] at hn
    have := of_decide_eq_true hn
    rw [beq_iff_eq]; omega
  have HN := hide hn
  clear hn
  have h0' : 0 < (s.size : Int) := by omega
  go_enter Tryz.func40, Tryz.ntmps40
  go_wp2_with fail
  refine (readDigits_1 s _ hs').mono ?_
  rintro e w' ⟨⟨v, a, hD, ha1, ha2, rfl⟩ | ⟨hN, rfl⟩, rfl⟩
  · have HD := hide hD
    have hv := hD.le
    clear hD
    by_cases hz0 : v = 0
    · subst hz0
      have HE := hide (read_none0 s _ (unhide HN) (unhide HD))
      go_wp2_with fail
      exact bodyPost_ret (v := .tuple #[.agg #[.int .i64 0, .int .i64 0], .bool false]) (by simp [results, Tryz.results40, go_sem]) rfl ⟨Or.inr ⟨unhide HE, rfl⟩, (by repeat (first | exact Below.refl _ _ | refine below_dr ?_ _ | refine Below.drew ?_ | refine Below.setCell ?_ (by simp) _ | refine Below.alloc ?_ (by simp) _))⟩
    have hz : ((v : Int) == 0) = false := by rw [beq_eq_false_iff_ne]; omega
    have hae2 : a ≤ s.size := ha2
    by_cases hae : a = s.size
    · subst hae
      have HE := hide (read_whole s true v (unhide HN) (fun _ => by omega) (unhide HD))
      go_wp2_with fail
      exact bodyPost_ret (v := .tuple #[.agg #[.int .i64 (-(v : Int)), .int .i64 1], .bool true]) (by simp [results, Tryz.results40, go_sem]) rfl ⟨Or.inl ⟨_, _, unhide HE, rfl⟩, (by repeat (first | exact Below.refl _ _ | refine below_dr ?_ _ | refine Below.drew ?_ | refine Below.setCell ?_ (by simp) _ | refine Below.alloc ?_ (by simp) _))⟩
    · have hae' : ((a : Int) == s.size) = false := by rw [beq_eq_false_iff_ne]; omega
      have hlt : a < s.size := by omega
      clear hae
      go_wp2_with fail
      refine (readBottom_any s a _ hs' ha2).mono ?_
      rintro e w' ⟨⟨q, hQ, hq, rfl⟩ | ⟨hN, rfl⟩, rfl⟩
      · have HQ := hide hQ
        clear hQ
        go_wp2_with fail
        refine (size_any (-(v : Int)) _ (by omega) (by omega)).mono ?_
        rintro e w' ⟨rfl, rfl⟩
        rw [show (-(v : Int)).natAbs = v from by omega]
        go_wp2_with fail
        refine (commonDivisor_any v q _ (by omega) (by omega)).mono ?_
        rintro e w' ⟨rfl, k, rfl⟩
        by_cases hg : Nat.gcd v q = 1
        · have HE := hide (read_parts s true v a q (unhide HN) (fun _ => by omega) (unhide HD) (unhide HQ) hg)
          rw [hg]
          clear hg
          go_wp2_with fail
          exact bodyPost_ret (v := .tuple #[.agg #[.int .i64 (-(v : Int)), .int .i64 q], .bool true]) (by simp [results, Tryz.results40, go_sem]) rfl ⟨Or.inl ⟨_, _, unhide HE, rfl⟩, (by repeat (first | exact Below.refl _ _ | refine below_dr ?_ _ | refine Below.drew ?_ | refine Below.setCell ?_ (by simp) _ | refine Below.alloc ?_ (by simp) _))⟩
        · have HE := hide (read_none_gcd s true v a q (unhide HN) (unhide HD) (unhide HQ) hg)
          generalize Nat.gcd v q = g at *
          have hg' : ((g : Int) != 1) = true := by rw [bne_iff_ne]; omega
          clear hg
          go_wp2_with fail
          exact bodyPost_ret (v := .tuple #[.agg #[.int .i64 0, .int .i64 0], .bool false]) (by simp [results, Tryz.results40, go_sem]) rfl ⟨Or.inr ⟨unhide HE, rfl⟩, (by repeat (first | exact Below.refl _ _ | refine below_dr ?_ _ | refine Below.drew ?_ | refine Below.setCell ?_ (by simp) _ | refine Below.alloc ?_ (by simp) _))⟩
      · have HE := hide (read_none_bot s true v a hlt (unhide HN) (unhide HD) hN)
        clear hN
        go_wp2_with fail
        exact bodyPost_ret (v := .tuple #[.agg #[.int .i64 0, .int .i64 0], .bool false]) (by simp [results, Tryz.results40, go_sem]) rfl ⟨Or.inr ⟨unhide HE, rfl⟩, (by repeat (first | exact Below.refl _ _ | refine below_dr ?_ _ | refine Below.drew ?_ | refine Below.setCell ?_ (by simp) _ | refine Below.alloc ?_ (by simp) _))⟩
  · have HE := hide (read_none1 s true (unhide HN) hN)
    clear hN
    go_wp2_with fail
    exact bodyPost_ret (v := .tuple #[.agg #[.int .i64 0, .int .i64 0], .bool false]) (by simp [results, Tryz.results40, go_sem]) rfl ⟨Or.inr ⟨unhide HE, rfl⟩, (by repeat (first | exact Below.refl _ _ | refine below_dr ?_ _ | refine Below.drew ?_ | refine Below.setCell ?_ (by simp) _ | refine Below.alloc ?_ (by simp) _))⟩
set_option maxRecDepth 100000 in
set_option maxHeartbeats 400000 in
theorem Read_pos (s : ByteArray) (w : World) (hs : s.size ≤ maxLen) (h0 : 0 < s.size) (hn : neg s.data.toList = false) :
    Calls Tryz.prog 40 #[.string s] w fun e w' => ReadSays s e ∧ Below w.heap.size w w' := by
  have hs' := hs
  unfold maxLen at hs
  have hc : ((s[0].toNat : Int) == 45) = false := by
    rw [neg_of s h0] at hn
    have := of_decide_eq_false hn
    rw [beq_eq_false_iff_ne]; omega
  have HN := hide hn
  clear hn
  have h0' : 0 < (s.size : Int) := by omega
  go_enter Tryz.func40, Tryz.ntmps40
  go_wp2_with fail
  refine (readDigits_0 s _ hs').mono ?_
  rintro e w' ⟨⟨v, a, hD, ha1, ha2, rfl⟩ | ⟨hN, rfl⟩, rfl⟩
  · have HD := hide hD
    have hv := hD.le
    clear hD
    have hae2 : a ≤ s.size := ha2
    by_cases hae : a = s.size
    · subst hae
      have HE := hide (read_whole s false v (unhide HN) (fun h => by cases h) (unhide HD))
      go_wp2_with fail
      exact bodyPost_ret (v := .tuple #[.agg #[.int .i64 ((v : Int)), .int .i64 1], .bool true]) (by simp [results, Tryz.results40, go_sem]) rfl ⟨Or.inl ⟨_, _, unhide HE, rfl⟩, (by repeat (first | exact Below.refl _ _ | refine below_dr ?_ _ | refine Below.drew ?_ | refine Below.setCell ?_ (by simp) _ | refine Below.alloc ?_ (by simp) _))⟩
    · have hae' : ((a : Int) == s.size) = false := by rw [beq_eq_false_iff_ne]; omega
      have hlt : a < s.size := by omega
      clear hae
      go_wp2_with fail
      refine (readBottom_any s a _ hs' ha2).mono ?_
      rintro e w' ⟨⟨q, hQ, hq, rfl⟩ | ⟨hN, rfl⟩, rfl⟩
      · have HQ := hide hQ
        clear hQ
        go_wp2_with fail
        refine (size_any ((v : Int)) _ (by omega) (by omega)).mono ?_
        rintro e w' ⟨rfl, rfl⟩
        rw [show ((v : Int)).natAbs = v from by omega]
        go_wp2_with fail
        refine (commonDivisor_any v q _ (by omega) (by omega)).mono ?_
        rintro e w' ⟨rfl, k, rfl⟩
        by_cases hg : Nat.gcd v q = 1
        · have HE := hide (read_parts s false v a q (unhide HN) (fun h => by cases h) (unhide HD) (unhide HQ) hg)
          rw [hg]
          clear hg
          go_wp2_with fail
          exact bodyPost_ret (v := .tuple #[.agg #[.int .i64 ((v : Int)), .int .i64 q], .bool true]) (by simp [results, Tryz.results40, go_sem]) rfl ⟨Or.inl ⟨_, _, unhide HE, rfl⟩, (by repeat (first | exact Below.refl _ _ | refine below_dr ?_ _ | refine Below.drew ?_ | refine Below.setCell ?_ (by simp) _ | refine Below.alloc ?_ (by simp) _))⟩
        · have HE := hide (read_none_gcd s false v a q (unhide HN) (unhide HD) (unhide HQ) hg)
          generalize Nat.gcd v q = g at *
          have hg' : ((g : Int) != 1) = true := by rw [bne_iff_ne]; omega
          clear hg
          go_wp2_with fail
          exact bodyPost_ret (v := .tuple #[.agg #[.int .i64 0, .int .i64 0], .bool false]) (by simp [results, Tryz.results40, go_sem]) rfl ⟨Or.inr ⟨unhide HE, rfl⟩, (by repeat (first | exact Below.refl _ _ | refine below_dr ?_ _ | refine Below.drew ?_ | refine Below.setCell ?_ (by simp) _ | refine Below.alloc ?_ (by simp) _))⟩
      · have HE := hide (read_none_bot s false v a hlt (unhide HN) (unhide HD) hN)
        clear hN
        go_wp2_with fail
        exact bodyPost_ret (v := .tuple #[.agg #[.int .i64 0, .int .i64 0], .bool false]) (by simp [results, Tryz.results40, go_sem]) rfl ⟨Or.inr ⟨unhide HE, rfl⟩, (by repeat (first | exact Below.refl _ _ | refine below_dr ?_ _ | refine Below.drew ?_ | refine Below.setCell ?_ (by simp) _ | refine Below.alloc ?_ (by simp) _))⟩
  · have HE := hide (read_none1 s false (unhide HN) hN)
    clear hN
    go_wp2_with fail
    exact bodyPost_ret (v := .tuple #[.agg #[.int .i64 0, .int .i64 0], .bool false]) (by simp [results, Tryz.results40, go_sem]) rfl ⟨Or.inr ⟨unhide HE, rfl⟩, (by repeat (first | exact Below.refl _ _ | refine below_dr ?_ _ | refine Below.drew ?_ | refine Below.setCell ?_ (by simp) _ | refine Below.alloc ?_ (by simp) _))⟩
set_option maxRecDepth 100000 in
set_option maxHeartbeats 400000 in
theorem Read_empty (s:ByteArray) (w:World) (hs:s.size ≤ maxLen) (h0:s.size = 0) :
  Calls Tryz.prog 40 #[.string s] w fun e w'=>ReadSays s e ∧ Below w.heap.size w w':=by
 have hs':=hs
 unfold maxLen at hs
 have HN:=hide (neg_empty s h0)
 have h0':¬ 0 < (s.size:Int):=by omega
 go_enter Tryz.func40,Tryz.ntmps40
 go_wp2_with fail
 refine (readDigits_0 s _ hs').mono ?_
 rintro e w' ⟨⟨v,a,hD,ha1,ha2,rfl⟩ | ⟨hN,rfl⟩,rfl⟩
 ·exact absurd ha2 (by omega)
 ·have HE:=hide (read_none1 s false (unhide HN) hN)
  clear hN
  go_wp2_with fail
  exact bodyPost_ret (v:=.tuple #[.agg #[.int .i64 0,.int .i64 0],.bool false]) (by simp [results,Tryz.results40,go_sem]) rfl ⟨Or.inr ⟨unhide HE,rfl⟩,(by repeat (first | exact Below.refl _ _ | refine below_dr ?_ _ | refine Below.drew ?_ | refine Below.setCell ?_ (by simp) _ | refine Below.alloc ?_ (by simp) _))⟩
theorem Read_any (s:ByteArray) (w:World) (hs:s.size ≤ maxLen) :
  Calls Tryz.prog 40 #[.string s] w fun e w'=>ReadSays s e ∧ Below w.heap.size w w':=by
 by_cases h0:s.size = 0
 ·exact Read_empty s w hs h0
 ·cases hn:neg s.data.toList with
  | true=>exact Read_neg s w hs (by omega) hn
  | false=>exact Read_pos s w hs (by omega) hn
def RReadSays (s:ByteArray) (e:Ending):Prop :=
 (∃ t b,IsNum s.data.toList t b ∧ e = .returned (.tuple #[.agg #[.int .i64 t,.int .i64 b],.bool true])) ∨ ((∀ t b,¬ IsNum s.data.toList t b) ∧ ∃ p q,e = .returned (.tuple #[.agg #[.int .i64 p,.int .i64 q],.bool false]))
theorem ext_list (s:ByteArray) (a b:Nat):(s.extract a b).data.toList = (s.data.toList.drop a).take (b - a):=by
 simp [List.extract]
theorem ext_size (s:ByteArray) (a b:Nat):(s.extract a b).size ≤ s.size:=by
 rw [ByteArray.size_extract];omega
theorem all_notSlash (s:ByteArray) (f i:Nat) (hi:i ≤ s.size) (hno:∀ j (h:j < s.size),f ≤ j → j < i → s[j].toNat ≠ 47):∀ c ∈ (s.data.toList.drop f).take (i - f),notSlash c = true:=by
 intro c hc
 obtain ⟨k,hk,rfl⟩:=List.mem_iff_getElem.1 hc
 simp only [List.length_take,List.length_drop,len_size] at hk
 rw [List.getElem_take,List.getElem_drop]
 unfold notSlash
 rw [bne_iff_ne]
 intro e
 have:=hno (f + k) (by omega) (by omega) (by omega)
 apply this
 have e2:s[f + k] = 47:=e
 rw [e2];rfl
theorem slash_at (s:ByteArray) (n:Bool) (i:Nat) (hn:neg s.data.toList = n) (hi:i < s.size) (hf:(if n then 1 else 0) ≤ i) (hc:s[i].toNat = 47) (hno:∀ j (h:j < s.size),(if n then 1 else 0) ≤ j → j < i → s[j].toNat ≠ 47) :
  valueOf (s.extract (if n then 1 else 0) i).data.toList = refP s.data.toList ∧ valueOf (s.extract (i + 1) s.size).data.toList = refQ s.data.toList:=by
 have hb:=body_eq s n hn
 generalize (if n then 1 else 0) = f at *
 have h1:body s.data.toList = (s.data.toList.drop f).take (i - f) ++ (47 :: s.data.toList.drop (i + 1)):=by
  rw [← hb]
  conv=>lhs;rw [← List.take_append_drop (i - f) (s.data.toList.drop f)]
  rw [List.drop_drop,show f + (i - f) = i by omega,drop_at s i hi,show s[i] = 47 from UInt8.toNat_inj.1 hc]
 have h2:=all_notSlash s f i (by omega) hno
 unfold refP refQ
 rw [h1,List.takeWhile_append_of_pos h2,List.dropWhile_append_of_pos h2,ext_list,ext_list]
 simp [notSlash]
 congr 1
 rw [List.take_of_length_le (by simp)]
theorem slash_none (s:ByteArray) (n:Bool) (hn:neg s.data.toList = n) (hno:∀ j (h:j < s.size),(if n then 1 else 0) ≤ j → j < s.size → s[j].toNat ≠ 47) :
  valueOf (s.extract (if n then 1 else 0) s.size).data.toList = refP s.data.toList ∧ refQ s.data.toList = 1:=by
 have hb:=body_eq s n hn
 generalize (if n then 1 else 0) = f at *
 have h1:body s.data.toList = (s.data.toList.drop f).take (s.size - f) ++ []:=by
  rw [← hb,List.take_of_length_le (by simp)];simp
 have h2:=all_notSlash s f s.size (by omega) hno
 unfold refP refQ
 rw [h1,List.takeWhile_append_of_pos h2,List.dropWhile_append_of_pos h2,ext_list]
 simp
theorem beq_text (l:List UInt8) (s:ByteArray):(l == s.toList) = true ↔ l = s.data.toList:=by
 rw [beq_iff_eq,ByteArray.toList_eq]
theorem refQ_bd (l:List UInt8):-1 ≤ refQ l ∧ refQ l ≤ 9999999999:=by
 unfold refQ
 split
 ·omega
 ·exact valueOf_bd _
theorem rr_bad (l:List UInt8) (h:refP l < 0 ∨ refQ l < 1):∀ t b,¬ IsNum l t b:=fun t b hn=>by
 have:=hn.refOk.1.1
 have:=hn.refOk.1.2.1
 omega
theorem rr_nofit (l:List UInt8) (h:fitsB (refT l) (refQ l) = false):∀ t b,¬ IsNum l t b:=fun t b hn=>by
 have:=hn.refOk.1.2.2.1
 rw [h] at this;cases this
theorem rr_no (l:List UInt8) (h:numText (lowP (refT l) (refQ l)) (lowQ (refT l) (refQ l)) ≠ l):∀ t b,¬ IsNum l t b:=fun _ _ hn=>h hn.refOk.1.2.2.2
theorem two_cells {w w1 w2:World} {T:TypeId} {x y:Value} {o:Obj} (hb:Below (w.alloc (.cells #[x,y] T)).heap.size (w.alloc (.cells #[x,y] T)) w1) (hb2:Below (w1.alloc o).drew.heap.size (w1.alloc o).drew w2) :
  w2.cell? ⟨w.heap.size,0,none⟩ = some x ∧ w2.cell? ⟨w.heap.size,1,none⟩ = some y ∧ Below w.heap.size w w2:=by
 have hz:w.heap.size + 1 ≤ w1.heap.size:=by have:=hb.size;simpa using this
 have b1:Below w1.heap.size w1 (w1.alloc o).drew:=((Below.refl _ _).alloc (Nat.le_refl _) _).drew
 have b2:Below w1.heap.size w1 w2:=b1.trans (hb2.mono (by simp))
 have b3:Below (w.alloc (.cells #[x,y] T)).heap.size (w.alloc (.cells #[x,y] T)) w2:=hb.trans (b2.mono (by simpa using hz))
 refine ⟨?_,?_,((Below.refl _ _).alloc (Nat.le_refl _) _).trans (b3.mono (by simp))⟩
 ·rw [b3.cell (p:=⟨w.heap.size,0,none⟩) (by simp)];simp [go_sem]
 ·rw [b3.cell (p:=⟨w.heap.size,1,none⟩) (by simp)];simp [go_sem]
theorem three_cells {w w1:World} {T:TypeId} {x y:Value} (hb:Below (w.alloc (.cells #[x,y] T)).heap.size (w.alloc (.cells #[x,y] T)) w1) (x' y':Value) (o:Obj) :
  (((w1.setCell ⟨w.heap.size,0,none⟩ x').setCell ⟨w.heap.size,1,none⟩ y').alloc o).cell? ⟨w.heap.size,0,none⟩ = some x' ∧ (((w1.setCell ⟨w.heap.size,0,none⟩ x').setCell ⟨w.heap.size,1,none⟩ y').alloc o).cell? ⟨w.heap.size,1,none⟩ = some y' ∧ Below w.heap.size w (((w1.setCell ⟨w.heap.size,0,none⟩ x').setCell ⟨w.heap.size,1,none⟩ y').alloc o):=by
 have hz:w.heap.size + 1 ≤ w1.heap.size:=by have:=hb.size;simpa using this
 have c0:w1.cell? ⟨w.heap.size,0,none⟩ = some x:=by rw [hb.cell (p:=⟨w.heap.size,0,none⟩) (by simp)];simp [go_sem]
 have c1:w1.cell? ⟨w.heap.size,1,none⟩ = some y:=by rw [hb.cell (p:=⟨w.heap.size,1,none⟩) (by simp)];simp [go_sem]
 have b0:Below w.heap.size w w1:=((Below.refl _ _).alloc (Nat.le_refl _) _).trans (hb.mono (by simp))
 have hs:((w1.setCell ⟨w.heap.size,0,none⟩ x').setCell ⟨w.heap.size,1,none⟩ y').heap.size = w1.heap.size:=by simp
 have b1:Below ((w1.setCell ⟨w.heap.size,0,none⟩ x').setCell ⟨w.heap.size,1,none⟩ y').heap.size ((w1.setCell ⟨w.heap.size,0,none⟩ x').setCell ⟨w.heap.size,1,none⟩ y') (((w1.setCell ⟨w.heap.size,0,none⟩ x').setCell ⟨w.heap.size,1,none⟩ y').alloc o):=(Below.refl _ _).alloc (Nat.le_refl _) _
 refine ⟨?_,?_,((b0.setCell (by simp) _).setCell (by simp) _).trans (b1.mono (by rw [hs];omega))⟩
 ·rw [b1.cell (p:=⟨w.heap.size,0,none⟩) (by rw [hs];show w.heap.size < _;omega)];simp [go_sem,c0]
 ·rw [b1.cell (p:=⟨w.heap.size,1,none⟩) (by rw [hs];show w.heap.size < _;omega)];simp [go_sem,c1]
theorem Low_int (p q:Int) (w:World) (h1:-4000000000000000000 ≤ p) (h2:p ≤ 4000000000000000000) (h3:1 ≤ q) (h4:q ≤ 4000000000000000000) :
  Calls Tryz.prog 144 #[.int .i64 p,.int .i64 q] w fun e w'=>((fitsB p q = true ∧ e = .returned (.tuple #[.agg #[.int .i64 (lowP p q),.int .i64 (lowQ p q)],.int .i64 0])) ∨ (fitsB p q = false ∧ e = .returned (.tuple #[.agg #[.int .i64 0,.int .i64 1],.int .i64 3]))) ∧ Below w.heap.size w w':=by
 obtain ⟨b,rfl⟩:=Int.eq_ofNat_of_zero_le (show 0 ≤ q by omega)
 exact Low_any p b w h1 h2 (by omega) (by omega)
end Go.Proofs.YtikiaijgcjjloabGreatDoor

namespace Go.Proofs.YtikiaijgcjjloabGreatDoor
open Go Go.RowKit M T Go.Lib
theorem RS.but {rb:Nat} {s:ByteArray} {nm:Nat → Option Nat} {a:Nat} {u:Bool} {w w':World} (h:RS rb s nm a u w) (hb:Below w.heap.size w w'):RS rb s nm a u w' ∧ But rb w w':=⟨h.kept hb,But.of_below hb⟩
def WholeSays (s:List UInt8) (t:Int) (ok:Bool):Prop:=(ok = true ∧ IsNum s t 1) ∨ (ok = false ∧ t = 0 ∧ ∀ t,¬ IsNum s t 1)
theorem WholeSays.bd {s:List UInt8} {t:Int} {ok:Bool} (h:WholeSays s t ok):-1000000000 ≤ t ∧ t ≤ 1000000000:=by
 rcases h with ⟨_,h⟩ | ⟨_,rfl,_⟩
 ·exact ⟨h.lo,h.hi⟩
 ·omega
set_option maxRecDepth 100000 in
set_option maxHeartbeats 600000 in
theorem nWhole_one (t:Int) (w:World):Calls Tryz.prog 177 #[.agg #[.int .i64 t,.int .i64 1]] w fun e w'=>e = .returned (.tuple #[.int .i64 t,.bool true]) ∧ Below w.heap.size w w':=by
 have hne:((1:Int) != 1) = false:=rfl
 go_enter Tryz.func177,Tryz.ntmps177
 go_wp2_with fail
 exact bodyPost_ret (v:=.tuple #[.int .i64 t,.bool true]) (by simp [results,Tryz.results177,go_sem]) rfl ⟨rfl,(Below.refl _ _).alloc (Nat.le_refl _) _⟩
set_option maxRecDepth 100000 in
set_option maxHeartbeats 600000 in
theorem nWhole_no (t b:Int) (h:b ≠ 1) (w:World):Calls Tryz.prog 177 #[.agg #[.int .i64 t,.int .i64 b]] w fun e w'=>e = .returned (.tuple #[.int .i64 0,.bool false]) ∧ Below w.heap.size w w':=by
 have hne:(b != 1) = true:=by simpa using h
 go_enter Tryz.func177,Tryz.ntmps177
 go_wp2_with fail
 exact bodyPost_ret (v:=.tuple #[.int .i64 0,.bool false]) (by simp [results,Tryz.results177,go_sem]) rfl ⟨rfl,(Below.refl _ _).alloc (Nat.le_refl _) _⟩
set_option maxRecDepth 100000 in
set_option maxHeartbeats 600000 in
theorem nReadWhole_any (s:ByteArray) (w:World) (hs:s.size ≤ maxLen) :
  Calls Tryz.prog 158 #[.string s] w fun e w'=>∃ t ok,e = .returned (.tuple #[.int .i64 t,.bool ok]) ∧ WholeSays s.data.toList t ok ∧ Below w.heap.size w w':=by
 go_enter Tryz.func158,Tryz.ntmps158
 go_wp2_with fail
 refine (Read_any s _ hs).mono ?_
 rintro e w1 ⟨⟨t,b,hn,rfl⟩ | ⟨hn,rfl⟩,hb1⟩
 ·have HB:=hide (hb1.alloc hb1.size (.cells #[.int .i64 t,.int .i64 b] 80))
  have hsz:=hb1.size
  clear hb1
  by_cases h:b = 1
  ·subst h
   have HN:=hide hn
   clear hn
   go_wp2_with fail
   refine (nWhole_one t _).mono ?_
   rintro e w2 ⟨rfl,hb2⟩
   have HB2:=hide ((unhide HB).trans (hb2.mono (unhide HB).size))
   clear hb2
   go_wp2_with fail
   exact bodyPost_ret (v:=.tuple #[.int .i64 t,.bool true]) (by simp [results,Tryz.results158,go_sem]) rfl ⟨t,true,rfl,Or.inl ⟨rfl,unhide HN⟩,unhide HB2⟩
  ·have HN:=hide hn
   clear hn
   go_wp2_with fail
   refine (nWhole_no t b h _).mono ?_
   rintro e w2 ⟨rfl,hb2⟩
   have HB2:=hide ((unhide HB).trans (hb2.mono (unhide HB).size))
   clear hb2
   go_wp2_with fail
   exact bodyPost_ret (v:=.tuple #[.int .i64 0,.bool false]) (by simp [results,Tryz.results158,go_sem]) rfl ⟨0,false,rfl,Or.inr ⟨rfl,rfl,fun t' h'=>h ((unhide HN).unique h').2⟩,unhide HB2⟩
 ·have HN:=hide hn
  clear hn
  go_wp2_with fail
  exact bodyPost_ret (v:=.tuple #[.int .i64 0,.bool false]) (by simp [results,Tryz.results158,go_sem]) rfl ⟨0,false,rfl,Or.inr ⟨rfl,rfl,fun t' h'=>unhide HN t' 1 h'⟩,hb1.alloc hb1.size _⟩
theorem ext_nw (s:ByteArray) (a:Nat):(s.extract a (a + nw s a)).data.toList = (spanW (rest s a)).1:=by
 rw [ext_list,Nat.add_sub_cancel_left]
 unfold nw
 show (rest s a).take _ = _
 have h:=spanW_app (rest s a)
 generalize (spanW (rest s a)).1 = x at h ⊢
 generalize (spanW (rest s a)).2 = y at h
 rw [← h]
 simp
theorem wh_no {s:ByteArray} {a:Nat} {t lo hi:Int} (hx:(s.extract a (a + nw s a)).data.toList = (spanW (rest s a)).1) (h:WholeSays (s.extract a (a + nw s a)).data.toList t false) (hlo:-1000000000 ≤ lo) (hhi:hi ≤ 1000000000):WhAt (rest s a) lo hi none:=by
 rw [hx] at h
 rcases h with ⟨h,_⟩ | ⟨_,_,h⟩
 ·cases h
 ·exact whAt_none hlo hhi (fun t b hn=>by
   have:=(dm_whole (spanW_dm _) hn).1
   subst this
   exact absurd hn (h t))
theorem wh_out {s:ByteArray} {a:Nat} {t lo hi:Int} (hx:(s.extract a (a + nw s a)).data.toList = (spanW (rest s a)).1) (h:WholeSays (s.extract a (a + nw s a)).data.toList t true) (hlo:-1000000000 ≤ lo) (hhi:hi ≤ 1000000000) (ho:t < lo ∨ hi < t):WhAt (rest s a) lo hi none:=by
 rw [hx] at h
 rcases h with ⟨_,h⟩ | ⟨h,_,_⟩
 ·exact whAt_none hlo hhi (fun t' b hn=>by rw [(hn.unique h).1];exact ho)
 ·cases h
theorem wh_yes {s:ByteArray} {a:Nat} {t lo hi:Int} (hx:(s.extract a (a + nw s a)).data.toList = (spanW (rest s a)).1) (hr:rest s (a + nw s a) = (spanW (rest s a)).2) (h:WholeSays (s.extract a (a + nw s a)).data.toList t true) (h1:lo ≤ t) (h2:t ≤ hi):WhAt (rest s a) lo hi (some (t,rest s (a + nw s a))):=by
 rw [hx] at h
 rw [hr]
 rcases h with ⟨_,h⟩ | ⟨h,_,_⟩
 ·exact whAt_some h h1 h2
 ·cases h
set_option maxRecDepth 100000 in
set_option maxHeartbeats 800000 in
theorem readWhole_any {rb : Nat} {s : ByteArray} {nm : Nat → Option Nat} {a : Nat} {u : Bool} (lo hi : Int) (w : World) (h : RS rb s nm a u w) (ha : a ≤ s.size) (hs : s.size ≤ 120) (hlo : -1000000000 ≤ lo) (hhi : hi ≤ 1000000000) :
    Calls Tryz.prog 132 #[.pointer (some ⟨rb, 0, none⟩), .int .i64 lo, .int .i64 hi] w fun e w' => But rb w w' ∧ ∃ b, b ≤ s.size ∧ RS rb s nm b u w' ∧ ((∃ k, WhAt (rest s a) lo hi (some (k, rest s b)) ∧ e = .returned (.tuple #[.int .i64 k, .bool true])) ∨ (WhAt (rest s a) lo hi none ∧ e = .returned (.tuple #[.int .i64 0, .bool false]))) := by
  have hT := h.text
  have hA := h.pos
  have hle := nw_le ha
  have HX := hide (ext_nw s a)
  have HR := hide (rest_nw s a)
  go_enter Tryz.func132, Tryz.ntmps132
  go_wp2_with fail
  refine (passWhole_any _ h ha hs).mono ?_
  rintro e w1 ⟨hb1, rfl, h1⟩
  have hT1 := h1.text
  have hA1 := h1.pos
  have H1 := hide h1
  have HB1 := hide hb1
  have hbd : a ≤ a + nw s a := Nat.le_add_right _ _
  clear hT hA h1 hb1 h
  go_wp2_with fail
  go_region_with (go_at_call 158; refine (nReadWhole_any _ _ ?_).mono ?_; (have := ext_size s a (a + nw s a); unfold maxLen; omega); rintro e w2 ⟨t, ok, rfl, hsay, hb2⟩)
  all_goals
    have Q2 := (unhide H1).drew.but hb2
    have HS := hide hsay
    have hbd2 := hsay.bd
    clear hsay hb2 H1 hT1 hA1
    cases ok with
    | false =>
      go_wp2_with fail
      exact bodyPost_ret (v := .tuple #[.int .i64 0, .bool false]) (by simp [results, Tryz.results132, go_sem]) rfl ⟨(unhide HB1).drew.trans Q2.2, a + nw s a, hle, Q2.1, Or.inr ⟨wh_no (unhide HX) (unhide HS) hlo hhi, rfl⟩⟩
    | true =>
      by_cases hl : t < lo
      · go_wp2_with fail
        exact bodyPost_ret (v := .tuple #[.int .i64 0, .bool false]) (by simp [results, Tryz.results132, go_sem]) rfl ⟨(unhide HB1).drew.trans Q2.2, a + nw s a, hle, Q2.1, Or.inr ⟨wh_out (unhide HX) (unhide HS) hlo hhi (Or.inl hl), rfl⟩⟩
      · by_cases hh : hi < t
        · go_wp2_with fail
          exact bodyPost_ret (v := .tuple #[.int .i64 0, .bool false]) (by simp [results, Tryz.results132, go_sem]) rfl ⟨(unhide HB1).drew.trans Q2.2, a + nw s a, hle, Q2.1, Or.inr ⟨wh_out (unhide HX) (unhide HS) hlo hhi (Or.inr hh), rfl⟩⟩
        · go_wp2_with fail
          exact bodyPost_ret (v := .tuple #[.int .i64 t, .bool true]) (by simp [results, Tryz.results132, go_sem]) rfl ⟨(unhide HB1).drew.trans Q2.2, a + nw s a, hle, Q2.1, Or.inl ⟨t, wh_yes (unhide HX) (unhide HR) (unhide HS) (by omega) (by omega), rfl⟩⟩
end Go.Proofs.YtikiaijgcjjloabGreatDoor

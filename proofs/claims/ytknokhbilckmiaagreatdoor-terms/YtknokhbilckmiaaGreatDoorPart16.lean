import Derived.Test.YtknokhbilckmiaaGreatDoorPart13
import Derived.Test.YtknokhbilckmiaaGreatDoorPart15
import Derived.Deep.CutBlock

/- The walks: the program's reader: whole numbers within bounds, numbers, counted parts. -/
namespace Go.Proofs.YtknokhbilckmiaaGreatDoor
open Go Go.RowKit M T Go.Lib

theorem RS.but {rb : Nat} {s : ByteArray} {nm : Nat → Option Nat} {a : Nat} {u : Bool} {w w' : World} (h : RS rb s nm a u w) (hb : Below w.heap.size w w') : RS rb s nm a u w' ∧ But rb w w' := ⟨h.kept hb, But.of_below hb⟩

/-- What ReadWhole answers. -/
def WholeSays (s : List UInt8) (t : Int) (ok : Bool) : Prop := (ok = true ∧ IsNum s t 1) ∨ (ok = false ∧ t = 0 ∧ ∀ t, ¬ IsNum s t 1)
theorem WholeSays.bd {s : List UInt8} {t : Int} {ok : Bool} (h : WholeSays s t ok) : -1000000000 ≤ t ∧ t ≤ 1000000000 := by
  rcases h with ⟨_, h⟩ | ⟨_, rfl, _⟩
  · exact ⟨h.lo, h.hi⟩
  · omega
set_option maxRecDepth 100000 in
set_option maxHeartbeats 600000 in
theorem nReadWhole_any (s : ByteArray) (w : World) (hs : s.size ≤ maxLen) :
    Calls Tryz.prog 170 #[.string s] w fun e w' => ∃ t ok, e = .returned (.tuple #[.int .i64 t, .bool ok]) ∧ WholeSays s.data.toList t ok ∧ Below w.heap.size w w' := by
  go_enter Tryz.func170, Tryz.ntmps170
  go_wp2_with fail
  refine (Read_any s _ hs).mono ?_
  rintro e w1 ⟨⟨t, b, hn, rfl⟩ | ⟨hn, rfl⟩, hb1⟩
  · have l1 := hn.lo
    have l2 := hn.hi
    by_cases h : b = 1
    · subst h
      have HN := hide hn
      clear hn
      have hne : ((1 : Int) != 1) = false := rfl
      go_wp2_with fail
      exact bodyPost_ret (v := .tuple #[.int .i64 t, .bool true]) (by simp [results, Tryz.results170, go_sem]) rfl ⟨t, true, rfl, Or.inl ⟨rfl, unhide HN⟩, hb1.alloc hb1.size _⟩
    · have HN := hide hn
      clear hn
      have hne : (b != 1) = true := by simpa using h
      go_wp2_with fail
      exact bodyPost_ret (v := .tuple #[.int .i64 0, .bool false]) (by simp [results, Tryz.results170, go_sem]) rfl ⟨0, false, rfl, Or.inr ⟨rfl, rfl, fun t' h' => h ((unhide HN).unique h').2⟩, hb1.alloc hb1.size _⟩
  · have HN := hide hn
    clear hn
    go_wp2_with fail
    exact bodyPost_ret (v := .tuple #[.int .i64 0, .bool false]) (by simp [results, Tryz.results170, go_sem]) rfl ⟨0, false, rfl, Or.inr ⟨rfl, rfl, fun t' h' => unhide HN t' 1 h'⟩, hb1.alloc hb1.size _⟩

theorem ext_nw (s : ByteArray) (a : Nat) : (s.extract a (a + nw s a)).data.toList = (spanW (rest s a)).1 := by
  rw [ext_list, Nat.add_sub_cancel_left]
  unfold nw
  show (rest s a).take _ = _
  have h := spanW_app (rest s a)
  generalize (spanW (rest s a)).1 = x at h ⊢
  generalize (spanW (rest s a)).2 = y at h
  rw [← h]
  simp

theorem wh_no {s : ByteArray} {a : Nat} {t lo hi : Int} (hx : (s.extract a (a + nw s a)).data.toList = (spanW (rest s a)).1) (h : WholeSays (s.extract a (a + nw s a)).data.toList t false) (hlo : -1000000000 ≤ lo) (hhi : hi ≤ 1000000000) : WhAt (rest s a) lo hi none := by
  rw [hx] at h
  rcases h with ⟨h, _⟩ | ⟨_, _, h⟩
  · cases h
  · exact whAt_none hlo hhi (fun t b hn => by
      have := (dm_whole (spanW_dm _) hn).1
      subst this
      exact absurd hn (h t))
theorem wh_out {s : ByteArray} {a : Nat} {t lo hi : Int} (hx : (s.extract a (a + nw s a)).data.toList = (spanW (rest s a)).1) (h : WholeSays (s.extract a (a + nw s a)).data.toList t true) (hlo : -1000000000 ≤ lo) (hhi : hi ≤ 1000000000) (ho : t < lo ∨ hi < t) : WhAt (rest s a) lo hi none := by
  rw [hx] at h
  rcases h with ⟨_, h⟩ | ⟨h, _, _⟩
  · exact whAt_none hlo hhi (fun t' b hn => by rw [(hn.unique h).1]; exact ho)
  · cases h
theorem wh_yes {s : ByteArray} {a : Nat} {t lo hi : Int} (hx : (s.extract a (a + nw s a)).data.toList = (spanW (rest s a)).1) (hr : rest s (a + nw s a) = (spanW (rest s a)).2) (h : WholeSays (s.extract a (a + nw s a)).data.toList t true) (h1 : lo ≤ t) (h2 : t ≤ hi) : WhAt (rest s a) lo hi (some (t, rest s (a + nw s a))) := by
  rw [hx] at h
  rw [hr]
  rcases h with ⟨_, h⟩ | ⟨h, _, _⟩
  · exact whAt_some h h1 h2
  · cases h

set_option maxRecDepth 100000 in
set_option maxHeartbeats 800000 in
theorem readWhole_any {rb : Nat} {s : ByteArray} {nm : Nat → Option Nat} {a : Nat} {u : Bool} (lo hi : Int) (w : World) (h : RS rb s nm a u w) (ha : a ≤ s.size) (hs : s.size ≤ 120) (hlo : -1000000000 ≤ lo) (hhi : hi ≤ 1000000000) :
    Calls Tryz.prog 150 #[.pointer (some ⟨rb, 0, none⟩), .int .i64 lo, .int .i64 hi] w fun e w' => But rb w w' ∧ ∃ b, b ≤ s.size ∧ RS rb s nm b u w' ∧ ((∃ k, WhAt (rest s a) lo hi (some (k, rest s b)) ∧ e = .returned (.tuple #[.int .i64 k, .bool true])) ∨ (WhAt (rest s a) lo hi none ∧ e = .returned (.tuple #[.int .i64 0, .bool false]))) := by
  have hT := h.text
  have hA := h.pos
  have hle := nw_le ha
  have HX := hide (ext_nw s a)
  have HR := hide (rest_nw s a)
  go_enter Tryz.func150, Tryz.ntmps150
  go_wp2_with fail
  refine (passWhole_any _ h ha hs).mono ?_
  rintro e w1 ⟨hb1, rfl, h1⟩
  have hT1 := h1.text
  have hA1 := h1.pos
  have H1 := hide h1
  have HB1 := hide hb1
  have hbd : a ≤ a + nw s a := Nat.le_add_right _ _
  clear hT hA h1 hb1 h
  go_wp2_with fail
  go_region_with (go_at_call 170; refine (nReadWhole_any _ _ ?_).mono ?_; (have := ext_size s a (a + nw s a); unfold maxLen; omega); rintro e w2 ⟨t, ok, rfl, hsay, hb2⟩)
  all_goals
    have Q2 := (unhide H1).drew.but hb2
    have HS := hide hsay
    have hbd2 := hsay.bd
    clear hsay hb2 H1 hT1 hA1
    cases ok with
    | false =>
      go_wp2_with fail
      exact bodyPost_ret (v := .tuple #[.int .i64 0, .bool false]) (by simp [results, Tryz.results150, go_sem]) rfl ⟨(unhide HB1).drew.trans Q2.2, a + nw s a, hle, Q2.1, Or.inr ⟨wh_no (unhide HX) (unhide HS) hlo hhi, rfl⟩⟩
    | true =>
      by_cases hl : t < lo
      · go_wp2_with fail
        exact bodyPost_ret (v := .tuple #[.int .i64 0, .bool false]) (by simp [results, Tryz.results150, go_sem]) rfl ⟨(unhide HB1).drew.trans Q2.2, a + nw s a, hle, Q2.1, Or.inr ⟨wh_out (unhide HX) (unhide HS) hlo hhi (Or.inl hl), rfl⟩⟩
      · by_cases hh : hi < t
        · go_wp2_with fail
          exact bodyPost_ret (v := .tuple #[.int .i64 0, .bool false]) (by simp [results, Tryz.results150, go_sem]) rfl ⟨(unhide HB1).drew.trans Q2.2, a + nw s a, hle, Q2.1, Or.inr ⟨wh_out (unhide HX) (unhide HS) hlo hhi (Or.inr hh), rfl⟩⟩
        · go_wp2_with fail
          exact bodyPost_ret (v := .tuple #[.int .i64 t, .bool true]) (by simp [results, Tryz.results150, go_sem]) rfl ⟨(unhide HB1).drew.trans Q2.2, a + nw s a, hle, Q2.1, Or.inl ⟨t, wh_yes (unhide HX) (unhide HR) (unhide HS) (by omega) (by omega), rfl⟩⟩
end Go.Proofs.YtknokhbilckmiaaGreatDoor

/- The walk of the document's reading of a number: below 0. -/
namespace Go.Proofs.YtknokhbilckmiaaGreatDoor
open Go Go.RowKit M Go.Lib

set_option maxRecDepth 100000 in
set_option maxHeartbeats 1000000 in
theorem RRead_neg (s : ByteArray) (w : World) (hs : s.size ≤ maxLen) (h0 : 0 < s.size) (hn : neg s.data.toList = true) :
    Calls Tryz.prog 92 #[.string s] w fun e w' => RReadSays s e ∧ Below w.heap.size w w' := by
  have hs' := hs
  unfold maxLen at hs
  have hc : ((s[0].toNat : Int) == 45) = true := by
    rw [neg_of s h0] at hn
    have := of_decide_eq_true hn
    rw [beq_iff_eq]; omega
  have HN := hide hn
  clear hn
  have h0' : 0 < (s.size : Int) := by omega
  go_enter Tryz.func92, Tryz.ntmps92
  go_upto_block 0 with fail
  go_cut [5, 6, 7] from 22 to 37 (fun x y _ wx => ∃ en : Nat, 1 ≤ en ∧ en ≤ s.size ∧ x = .int .i64 en ∧ y = .int .i64 (refQ s.data.toList) ∧ Hid (valueOf (s.extract 1 en).data.toList = refP s.data.toList) ∧ (w.alloc (.cells #[.int .i64 0, .int .i64 0] 126)) = wx)
  case first =>
    go_wp2_with fail
    go_loopw [5, 6, 7] (fun x y z wx => ∃ i : Nat, 1 ≤ i ∧ i ≤ s.size ∧ x = .int .i64 s.size ∧ y = .int .i64 1 ∧ z = .int .i64 i ∧ Hid (∀ j (h : j < s.size), 1 ≤ j → j < i → s[j].toNat ≠ 47) ∧ (w.alloc (.cells #[.int .i64 0, .int .i64 0] 126)) = wx) (fun _ _ z _ => s.size - (RowKit.intOf z).toNat)
    case atStart => exact ⟨1, by omega, by omega, rfl, rfl, rfl, fun j _ h1 h2 => by omega, rfl⟩
    case round =>
      obtain ⟨i, h1, h2, rfl, rfl, rfl, HI, rfl⟩ := hrel
      by_cases hi : i < s.size
      · by_cases hc : s[i].toNat = 47
        · have hc' : ((s[i].toNat : Int) == 47) = true := by rw [beq_iff_eq]; omega
          have HV := hide (slash_at s true i (unhide HN) hi h1 hc (unhide HI))
          clear hc
          go_wp2_with fail
          refine (value_any (s.extract (i + 1) s.size) _ (Nat.le_trans (ext_size s _ _) hs')).mono ?_
          rintro e w' ⟨rfl, rfl⟩
          rw [(unhide HV).2]
          go_wp2_with fail
          go_meet
          exact ⟨i, h1, by omega, rfl, rfl, (unhide HV).1, rfl⟩
        · have hc' : ((s[i].toNat : Int) == 47) = false := by rw [beq_eq_false_iff_ne]; omega
          have HJ : Hid (∀ j (h : j < s.size), 1 ≤ j → j < i + 1 → s[j].toNat ≠ 47) := by
            intro j h h1 h2
            by_cases hj : j < i
            · exact unhide HI j h h1 hj
            · obtain rfl : j = i := by omega
              exact hc
          clear hc
          go_wp2_with fail
          go_roundw
          case rel => exact ⟨i + 1, by omega, by omega, rfl, rfl, by go_num, unhide HJ, by trivial⟩
          case measure => simp [RowKit.intOf]; omega
      · have hi' : ¬ (i : Int) < s.size := by omega
        have HV := hide (slash_none s true (unhide HN) (fun j h hf _ => unhide HI j h hf (by omega)))
        go_wp2_with fail
        go_meet
        exact ⟨s.size, by omega, by omega, rfl, by rw [(unhide HV).2], (unhide HV).1, rfl⟩
  case rest =>
    obtain ⟨en, he1, he2, rfl, rfl, HV, rfl⟩ := hcut
    have hp : -1 ≤ refP s.data.toList ∧ refP s.data.toList ≤ 9999999999 := valueOf_bd _
    have hq := refQ_bd s.data.toList
    have HT : Hid (refT s.data.toList = -refP s.data.toList) := by show _ = _; unfold refT; rw [unhide HN]; rfl
    have HB := hide (rr_bad s.data.toList)
    have HF := hide (rr_nofit s.data.toList)
    have HO := hide (ref_ok s.data.toList)
    have HNo := hide (rr_no s.data.toList)
    rw [unhide HT] at HF HO HNo
    clear HT HN
    go_wp2_with fail
    refine (value_any (s.extract 1 en) _ (Nat.le_trans (ext_size s _ _) hs')).mono ?_
    rintro e w' ⟨rfl, rfl⟩
    rw [unhide HV]
    clear HV
    generalize refP s.data.toList = P at *
    generalize refQ s.data.toList = Q at *
    by_cases hbad : P < 0 ∨ Q < 1
    · have HE := hide ((unhide HB) hbad)
      by_cases hP : P < 0
      all_goals
        go_wp2_with fail
        exact bodyPost_ret (v := .tuple #[.agg #[.int .i64 0, .int .i64 1], .bool false]) (by simp [results, Tryz.results92, go_sem]) rfl ⟨Or.inr ⟨unhide HE, _, _, rfl⟩, (by repeat (first | exact Below.refl _ _ | refine below_dr ?_ _ | refine Below.drew ?_ | refine Below.setCell ?_ (by simp) _ | refine Below.alloc ?_ (by simp) _))⟩
    have hP : ¬ P < 0 := by omega
    have hQ : ¬ Q < 1 := by omega
    have hQ1 : 1 ≤ Q := by omega
    clear hbad HB
    go_wp2_with fail
    refine (Low_int (-P) Q _ (by omega) (by omega) (by omega) (by omega)).mono ?_
    rintro e w1 ⟨⟨hf, rfl⟩ | ⟨hf, rfl⟩, hb⟩
    · have HFt := hide hf
      clear hf
      obtain ⟨hcell, hfr⟩ := bcell hb
      have hz1 : w.heap.size + 1 ≤ w1.heap.size := by have := hb.size; simpa using this
      have hz2 : w.heap.size < w1.heap.size + 1 := by omega
      have hz3 : w.heap.size < w1.heap.size := by omega
      have hz4 : ¬ w.heap.size = w1.heap.size := by omega
      have hz5 : ¬ w1.heap.size = w.heap.size := by omega
      have hfb := fits_bd (-P) Q hQ1 (unhide HFt)
      have HB2 : Hid (RReadSays s (.returned (.tuple #[.agg #[.int .i64 (lowP (-P) Q), .int .i64 (lowQ (-P) Q)], .bool (numText (lowP (-P) Q) (lowQ (-P) Q) == s.toList)]))) := by
        cases hB : (numText (lowP (-P) Q) (lowQ (-P) Q) == s.toList) with
        | true => exact Or.inl ⟨_, _, (unhide HO) hQ1 (unhide HFt) ((beq_text _ s).1 hB), rfl⟩
        | false => exact Or.inr ⟨(unhide HNo) (fun e => by rw [(beq_text _ s).2 e] at hB; cases hB), _, _, rfl⟩
      clear HO HNo HF
      go_wp2_with fail
      go_region_with (go_at_call 106; refine (rText_any _ _ _ hfb.1 hfb.2.1 hfb.2.2.1 hfb.2.2.2).mono ?_; rintro e w2 ⟨rfl, hb2⟩; obtain ⟨hcell2, hfr2⟩ := bcell hb2)
      all_goals go_wp2_with fail
      all_goals
        obtain ⟨c0, c1, hbw⟩ := two_cells hb hb2
        refine bodyPost_ret (v := .tuple #[.agg #[.int .i64 (lowP (-P) Q), .int .i64 (lowQ (-P) Q)], .bool (numText (lowP (-P) Q) (lowQ (-P) Q) == s.toList)]) ?_ ?_ ⟨unhide HB2, ?_⟩
        · simp [results, Tryz.results92, go_sem, c0, c1]
        · rfl
        · exact (hbw.setCell (by simp) _).setCell (by simp) _
    · have HE := hide ((unhide HF) hf)
      clear hf HF HO HNo
      obtain ⟨hcell, hfr⟩ := bcell hb
      have hz1 : w.heap.size + 1 ≤ w1.heap.size := by have := hb.size; simpa using this
      have hz2 : w.heap.size < w1.heap.size + 1 := by omega
      have hz3 : w.heap.size < w1.heap.size := by omega
      have hz4 : ¬ w.heap.size = w1.heap.size := by omega
      have hz5 : ¬ w1.heap.size = w.heap.size := by omega
      go_wp2_with fail
      go_region
      all_goals go_wp2_with fail
      all_goals
        obtain ⟨c0, c1, hbw⟩ := three_cells hb (.int .i64 0) (.int .i64 1) (.cells #[.int .i64 0, .int .i64 1] 126)
        refine bodyPost_ret (v := .tuple #[.agg #[.int .i64 0, .int .i64 1], .bool false]) ?_ ?_ ⟨Or.inr ⟨unhide HE, _, _, rfl⟩, ?_⟩
        · simp [results, Tryz.results92, go_sem, c0, c1]
        · rfl
        · exact hbw.drew
end Go.Proofs.YtknokhbilckmiaaGreatDoor

/- The walk of the document's reading of a number: 0 and above. -/
namespace Go.Proofs.YtknokhbilckmiaaGreatDoor
open Go Go.RowKit M Go.Lib

set_option maxRecDepth 100000 in
set_option maxHeartbeats 1000000 in
theorem RRead_pos (s : ByteArray) (w : World) (hs : s.size ≤ maxLen) (h0 : 0 < s.size) (hn : neg s.data.toList = false) :
    Calls Tryz.prog 92 #[.string s] w fun e w' => RReadSays s e ∧ Below w.heap.size w w' := by
  have hs' := hs
  unfold maxLen at hs
  have hc : ((s[0].toNat : Int) == 45) = false := by
    rw [neg_of s h0] at hn
    have := of_decide_eq_false hn
    rw [beq_eq_false_iff_ne]; omega
  have HN := hide hn
  clear hn
  have h0' : 0 < (s.size : Int) := by omega
  go_enter Tryz.func92, Tryz.ntmps92
  go_upto_block 0 with fail
  go_cut [5, 6, 7] from 22 to 37 (fun x y _ wx => ∃ en : Nat, 0 ≤ en ∧ en ≤ s.size ∧ x = .int .i64 en ∧ y = .int .i64 (refQ s.data.toList) ∧ Hid (valueOf (s.extract 0 en).data.toList = refP s.data.toList) ∧ (w.alloc (.cells #[.int .i64 0, .int .i64 0] 126)) = wx)
  case first =>
    go_wp2_with fail
    go_loopw [5, 6, 7] (fun x y z wx => ∃ i : Nat, 0 ≤ i ∧ i ≤ s.size ∧ x = .int .i64 s.size ∧ y = .int .i64 1 ∧ z = .int .i64 i ∧ Hid (∀ j (h : j < s.size), 0 ≤ j → j < i → s[j].toNat ≠ 47) ∧ (w.alloc (.cells #[.int .i64 0, .int .i64 0] 126)) = wx) (fun _ _ z _ => s.size - (RowKit.intOf z).toNat)
    case atStart => exact ⟨0, by omega, by omega, rfl, rfl, rfl, fun j _ h1 h2 => by omega, rfl⟩
    case round =>
      obtain ⟨i, h1, h2, rfl, rfl, rfl, HI, rfl⟩ := hrel
      by_cases hi : i < s.size
      · by_cases hc : s[i].toNat = 47
        · have hc' : ((s[i].toNat : Int) == 47) = true := by rw [beq_iff_eq]; omega
          have HV := hide (slash_at s false i (unhide HN) hi h1 hc (unhide HI))
          clear hc
          go_wp2_with fail
          refine (value_any (s.extract (i + 1) s.size) _ (Nat.le_trans (ext_size s _ _) hs')).mono ?_
          rintro e w' ⟨rfl, rfl⟩
          rw [(unhide HV).2]
          go_wp2_with fail
          go_meet
          exact ⟨i, h1, by omega, rfl, rfl, (unhide HV).1, rfl⟩
        · have hc' : ((s[i].toNat : Int) == 47) = false := by rw [beq_eq_false_iff_ne]; omega
          have HJ : Hid (∀ j (h : j < s.size), 0 ≤ j → j < i + 1 → s[j].toNat ≠ 47) := by
            intro j h h1 h2
            by_cases hj : j < i
            · exact unhide HI j h h1 hj
            · obtain rfl : j = i := by omega
              exact hc
          clear hc
          go_wp2_with fail
          go_roundw
          case rel => exact ⟨i + 1, by omega, by omega, rfl, rfl, by go_num, unhide HJ, by trivial⟩
          case measure => simp [RowKit.intOf]; omega
      · have hi' : ¬ (i : Int) < s.size := by omega
        have HV := hide (slash_none s false (unhide HN) (fun j h hf _ => unhide HI j h hf (by omega)))
        go_wp2_with fail
        go_meet
        exact ⟨s.size, by omega, by omega, rfl, by rw [(unhide HV).2], (unhide HV).1, rfl⟩
  case rest =>
    obtain ⟨en, he1, he2, rfl, rfl, HV, rfl⟩ := hcut
    have hp : -1 ≤ refP s.data.toList ∧ refP s.data.toList ≤ 9999999999 := valueOf_bd _
    have hq := refQ_bd s.data.toList
    have HT : Hid (refT s.data.toList = refP s.data.toList) := by show _ = _; unfold refT; rw [unhide HN]; rfl
    have HB := hide (rr_bad s.data.toList)
    have HF := hide (rr_nofit s.data.toList)
    have HO := hide (ref_ok s.data.toList)
    have HNo := hide (rr_no s.data.toList)
    rw [unhide HT] at HF HO HNo
    clear HT HN
    go_wp2_with fail
    refine (value_any (s.extract 0 en) _ (Nat.le_trans (ext_size s _ _) hs')).mono ?_
    rintro e w' ⟨rfl, rfl⟩
    rw [unhide HV]
    clear HV
    generalize refP s.data.toList = P at *
    generalize refQ s.data.toList = Q at *
    by_cases hbad : P < 0 ∨ Q < 1
    · have HE := hide ((unhide HB) hbad)
      by_cases hP : P < 0
      all_goals
        go_wp2_with fail
        exact bodyPost_ret (v := .tuple #[.agg #[.int .i64 0, .int .i64 1], .bool false]) (by simp [results, Tryz.results92, go_sem]) rfl ⟨Or.inr ⟨unhide HE, _, _, rfl⟩, (by repeat (first | exact Below.refl _ _ | refine below_dr ?_ _ | refine Below.drew ?_ | refine Below.setCell ?_ (by simp) _ | refine Below.alloc ?_ (by simp) _))⟩
    have hP : ¬ P < 0 := by omega
    have hQ : ¬ Q < 1 := by omega
    have hQ1 : 1 ≤ Q := by omega
    clear hbad HB
    go_wp2_with fail
    refine (Low_int P Q _ (by omega) (by omega) (by omega) (by omega)).mono ?_
    rintro e w1 ⟨⟨hf, rfl⟩ | ⟨hf, rfl⟩, hb⟩
    · have HFt := hide hf
      clear hf
      obtain ⟨hcell, hfr⟩ := bcell hb
      have hz1 : w.heap.size + 1 ≤ w1.heap.size := by have := hb.size; simpa using this
      have hz2 : w.heap.size < w1.heap.size + 1 := by omega
      have hz3 : w.heap.size < w1.heap.size := by omega
      have hz4 : ¬ w.heap.size = w1.heap.size := by omega
      have hz5 : ¬ w1.heap.size = w.heap.size := by omega
      have hfb := fits_bd P Q hQ1 (unhide HFt)
      have HB2 : Hid (RReadSays s (.returned (.tuple #[.agg #[.int .i64 (lowP P Q), .int .i64 (lowQ P Q)], .bool (numText (lowP P Q) (lowQ P Q) == s.toList)]))) := by
        cases hB : (numText (lowP P Q) (lowQ P Q) == s.toList) with
        | true => exact Or.inl ⟨_, _, (unhide HO) hQ1 (unhide HFt) ((beq_text _ s).1 hB), rfl⟩
        | false => exact Or.inr ⟨(unhide HNo) (fun e => by rw [(beq_text _ s).2 e] at hB; cases hB), _, _, rfl⟩
      clear HO HNo HF
      go_wp2_with fail
      go_region_with (go_at_call 106; refine (rText_any _ _ _ hfb.1 hfb.2.1 hfb.2.2.1 hfb.2.2.2).mono ?_; rintro e w2 ⟨rfl, hb2⟩; obtain ⟨hcell2, hfr2⟩ := bcell hb2)
      all_goals go_wp2_with fail
      all_goals
        obtain ⟨c0, c1, hbw⟩ := two_cells hb hb2
        refine bodyPost_ret (v := .tuple #[.agg #[.int .i64 (lowP P Q), .int .i64 (lowQ P Q)], .bool (numText (lowP P Q) (lowQ P Q) == s.toList)]) ?_ ?_ ⟨unhide HB2, ?_⟩
        · simp [results, Tryz.results92, go_sem, c0, c1]
        · rfl
        · exact (hbw.setCell (by simp) _).setCell (by simp) _
    · have HE := hide ((unhide HF) hf)
      clear hf HF HO HNo
      obtain ⟨hcell, hfr⟩ := bcell hb
      have hz1 : w.heap.size + 1 ≤ w1.heap.size := by have := hb.size; simpa using this
      have hz2 : w.heap.size < w1.heap.size + 1 := by omega
      have hz3 : w.heap.size < w1.heap.size := by omega
      have hz4 : ¬ w.heap.size = w1.heap.size := by omega
      have hz5 : ¬ w1.heap.size = w.heap.size := by omega
      go_wp2_with fail
      go_region
      all_goals go_wp2_with fail
      all_goals
        obtain ⟨c0, c1, hbw⟩ := three_cells hb (.int .i64 0) (.int .i64 1) (.cells #[.int .i64 0, .int .i64 1] 126)
        refine bodyPost_ret (v := .tuple #[.agg #[.int .i64 0, .int .i64 1], .bool false]) ?_ ?_ ⟨Or.inr ⟨unhide HE, _, _, rfl⟩, ?_⟩
        · simp [results, Tryz.results92, go_sem, c0, c1]
        · rfl
        · exact hbw.drew
end Go.Proofs.YtknokhbilckmiaaGreatDoor

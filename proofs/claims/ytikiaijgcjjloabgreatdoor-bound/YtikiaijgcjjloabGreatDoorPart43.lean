import Derived.Test.YtikiaijgcjjloabGreatDoorPart24
import Derived.Test.YtikiaijgcjjloabGreatDoorPart42
import Derived.Test.YtikiaijgcjjloabGreatDoorPart39
import Derived.Test.YtikiaijgcjjloabGreatDoorPart19

/- The walks: the program's Opposite, asked of a session. -/
namespace Go.Proofs.YtikiaijgcjjloabGreatDoor
open Go Go.RowKit M T Go.Lib

set_option maxRecDepth 100000 in
set_option maxHeartbeats 1600000 in
theorem opposite_any {env : Env} (s : ByteArray) {xb : Nat} {nm : Nat → Option Nat} (w : World) (h : SesIs w xb nm env) (ht : Tab w) :
    Calls Tryz.prog 13 #[.pointer (some ⟨xb, 0, none⟩), .string s] w fun e w' => ∃ (r : List UInt8) (c : Int), e = .returned (.tuple #[.string ⟨r.toArray⟩, .int .i64 c]) ∧ OppSays env s.data.toList r c ∧ Below w.heap.size w w' := by
  have hblk := h.blk
  have H := hide h
  have HT := hide ht
  clear h ht
  go_enter Tryz.func13, Tryz.ntmps13
  go_wp2_with (refine wpList_load_row rfl 46 _ rfl xb rfl 48 (ncells nm) (0, 0) _ hblk Tryz.underlying46 rfl Tryz.infoNames ?_)
  refine (tRead_any (unhide H).env s nm _ (unhide H).names).mono ?_
  rintro e w1 ⟨⟨c, hc, rfl⟩ | ⟨t, tb, hg, htm, rfl⟩, hb1⟩
  · have HC := hide hc
    have HB1 := hide hb1
    have hne : (c != 0) = true := by rw [bne_iff_ne]; exact hc.ne
    clear hc hb1
    go_wp2_with fail
    exact bodyPost_ret (v := .tuple #[.string ⟨#[]⟩, .int .i64 c]) (by simp [results, Tryz.results13, go_sem]) rfl ⟨[], c, rfl, Or.inl ⟨unhide HC, rfl⟩, unhide HB1⟩
  · have HG := hide hg
    have HB1 := hide hb1
    have HTm := hide htm
    clear hg hb1 htm hblk
    cases hbk : t.back with
    | false =>
      have HBk := hide hbk
      clear hbk
      go_wp2_with fail
      refine (tOpp_no (unhide HBk) (unhide HTm)).mono ?_
      rintro e w2 ⟨rfl, hb2⟩
      have HB2 := hide ((unhide HB1).trans (hb2.mono (unhide HB1).size))
      clear hb2
      go_wp2_with fail
      exact bodyPost_ret (v := .tuple #[.string ⟨#[]⟩, .int .i64 12]) (by simp [results, Tryz.results13, go_sem]) rfl ⟨[], 12, rfl, Or.inr ⟨t, unhide HG, Or.inl ⟨unhide HBk, rfl, rfl⟩⟩, unhide HB2⟩
    | true =>
      have HBk := hide hbk
      clear hbk
      have htl : t.text.length ≤ 120 := by have := (unhide HG).len; rw [← (unhide HG).term.text] at this; exact this
      have HWf := hide (Tm.opp_wf t (unhide HG).term.wf (unhide HBk))
      have hol : t.opp.text.length ≤ 2880 := by have := Tm.opp_len t (unhide HG).term.wf (unhide HBk); omega
      go_wp2_with fail
      refine (tOpp_any (unhide HG).term.wf (unhide HBk) (by omega) (unhide HTm)).mono ?_
      rintro e w2 ⟨ob, rfl, ho, hb2⟩
      have HB2 := hide ((unhide HB1).trans (hb2.mono (unhide HB1).size))
      have HO := hide ho
      clear hb2 ho
      go_wp2_with fail
      refine (tText_any (unhide HWf) (by omega) (unhide HO) (tab_below (unhide HT) (unhide HB2))).mono ?_
      rintro e w3 ⟨rfl, hb3⟩
      have HB3 := hide ((unhide HB2).trans (hb3.mono (unhide HB2).size))
      clear hb3
      by_cases hl : 120 < t.opp.text.length
      · have hl' : (120 : Int) < (t.opp.text.length : Int) := by omega
        go_wp2_with fail
        exact bodyPost_ret (v := .tuple #[.string ⟨#[]⟩, .int .i64 5]) (by simp [results, Tryz.results13, go_sem]) rfl ⟨[], 5, rfl, Or.inr ⟨t, unhide HG, Or.inr (Or.inl ⟨unhide HBk, hl, rfl, rfl⟩)⟩, unhide HB3⟩
      · have hl' : ¬ (120 : Int) < (t.opp.text.length : Int) := by omega
        go_wp2_with fail
        exact bodyPost_ret (v := .tuple #[.string ⟨t.opp.text.toArray⟩, .int .i64 0]) (by simp [results, Tryz.results13, go_sem]) rfl ⟨t.opp.text, 0, rfl, Or.inr ⟨t, unhide HG, Or.inr (Or.inr ⟨unhide HBk, by omega, rfl, rfl⟩)⟩, unhide HB3⟩
end Go.Proofs.YtikiaijgcjjloabGreatDoor

/- The walk of unwindkeep.Opposites. -/
namespace Go.Proofs.YtikiaijgcjjloabGreatDoor
open Go Go.RowKit M T Go.Lib

theorem factsNum_bd (t : Tm) : 0 ≤ factsNum t ∧ factsNum t ≤ 7 := by
  unfold factsNum
  cases t.back <;> cases t.picker <;> cases t.plain <;> simp
set_option maxRecDepth 100000 in
set_option maxHeartbeats 3200000 in
theorem opposites_walk {w : World} (s : ByteArray) {ra : Option Addr} {rn rc : Nat} {raw : Nat → Int} (fuel : Int) (hsz : s.size ≤ 140737488355328) (hk1 : -9223372036854775808 ≤ fuel) (hk2 : fuel ≤ 9223372036854775807) (hr : RawIs w ra rn raw) (hn : rn ≤ 140737488355328) (ht : Tab w) :
    Calls Tryz.prog 4 #[.string s, .slice ra rn rc, .int .i64 fuel] w fun e w' => e = .returned (.bool true) ∧ Below w.heap.size w w' := by
  have HR := hide hr
  have HT := hide ht
  clear hr ht
  go_enter Tryz.func4, Tryz.ntmps4
  go_wp2_with fail
  refine (ready_any _ (unhide HT)).mono ?_
  rintro e w1 ⟨xb, rfl, hses, hb1⟩
  have HS := hide hses
  have HB1 := hide hb1
  clear hses hb1
  go_wp2_with fail
  refine (facts_any s _ (unhide HS)).mono ?_
  rintro e w2 ⟨n0, c0, rfl, hf, hb2⟩
  have HF := hide hf
  have HS2 := hide ((unhide HS).below hb2)
  have HB2 := hide ((unhide HB1).trans (hb2.mono (unhide HB1).size))
  clear hf hb2
  by_cases hc : c0 = 0
  · subst hc
    by_cases hlong : 120 < s.size + 5
    · have hlong' : (120 : Int) < (s.size : Int) + 5 := by omega
      go_wp2_with fail
      go_ret
      exact ⟨rfl, unhide HB2⟩
    · have hlong' : ¬ (120 : Int) < (s.size : Int) + 5 := by omega
      have HLen := hide (show s.data.toList.length + 5 ≤ 120 by rw [← size_list]; omega)
      have hnb : 0 ≤ n0 ∧ n0 ≤ 7 := by
        obtain ⟨t, _, rfl⟩ := (unhide HF).good
        exact factsNum_bd t
      have HM := hide (minus_text s)
      go_wp2_with fail
      refine (kpick_any fuel 4999 _ hk1 hk2 (by omega) (by omega)).mono ?_
      rintro e w2' ⟨rfl, rfl⟩
      have hq := (kpick_val fuel (n := 4999) (by omega)).2.2
      generalize kpickN fuel 4999 = q at hq
      go_wp2_with fail
      refine (listed_any ((unhide HR).below (unhide HB2)) hn (tab_below (unhide HT) (unhide HB2))).mono ?_
      rintro e w3 ⟨L, hL, rfl, hb3⟩
      have HL := hide hL
      have HS3 := hide ((unhide HS2).below hb3)
      have HB3 := hide ((unhide HB2).trans (hb3.mono (unhide HB2).size))
      have hls := list_len hL
      clear hL hb3
      generalize listText L = lt at HL hls
      have hlz : (⟨lt.toArray⟩ : ByteArray).size ≤ 9223372036854775807 := by rw [bytes_size]; omega
      go_wp2_with fail
      refine (opposite_any s _ (unhide HS3) (tab_below (unhide HT) (unhide HB3))).mono ?_
      rintro e w4 ⟨u, f, rfl, ho, hb4⟩
      have HO := hide ho
      have HS4 := hide ((unhide HS3).below hb4)
      have HB4 := hide ((unhide HB3).trans (hb4.mono (unhide HB3).size))
      clear ho hb4
      go_wp2_with fail
      refine (apply_any _ ⟨lt.toArray⟩ ((q : Int) + 2) _ (unhide HS4) (tab_below (unhide HT) (unhide HB4)) hlz).mono ?_
      rintro e w5 ⟨l, k, g, rfl, ha, hb5⟩
      rw [unhide HM] at ha
      have HK := hide (k_opposites (unhide HF) (unhide HLen) (unhide HL) (by omega) (by omega) (unhide HO) ha)
      have hkn := apply_n ha
      have HS5 := hide ((unhide HS4).below hb5)
      have HB5 := hide ((unhide HB4).trans (hb5.mono (unhide HB4).size))
      clear ha hb5
      by_cases hev : n0 % 2 = 0
      · obtain ⟨rfl, rfl, rfl, rfl, rfl⟩ := (unhide HK).1 hev
        have hev' : (n0.tmod 2 == 0) = true := by rw [beq_iff_eq, Int.tmod_eq_emod_of_nonneg hnb.1]; exact hev
        have hev2 : (n0 % 2 == 0) = true := by rw [beq_iff_eq]; exact hev
        go_wp2_with fail
        go_ret
        exact ⟨rfl, unhide HB5⟩
      · have hev' : (n0.tmod 2 == 0) = false := by rw [beq_eq_false_iff_ne, Int.tmod_eq_emod_of_nonneg hnb.1]; exact hev
        have hev2 : (n0 % 2 == 0) = false := by rw [beq_eq_false_iff_ne]; exact hev
        obtain ⟨z1, z2⟩ := (unhide HK).2 hev
        by_cases hf5 : f = 5
        · obtain rfl := z1 hf5
          subst hf5
          clear z1 z2
          go_wp2_with fail
          go_ret
          exact ⟨rfl, unhide HB5⟩
        · obtain ⟨rfl, z3⟩ := z2 hf5
          have HZ := hide (fun (r : List UInt8) (m h : Int) (h2 : ApplySays T.noEnv u lt (q : Int) r m h) => z3 h2)
          clear z1 z2 z3
          go_wp2_with fail
          refine (apply_any ⟨u.toArray⟩ ⟨lt.toArray⟩ (q : Int) _ (unhide HS5) (tab_below (unhide HT) (unhide HB5)) hlz).mono ?_
          rintro e w6 ⟨r, m, h, rfl, hb, hb6⟩
          obtain ⟨rfl, rfl, hz⟩ := unhide HZ _ _ _ hb
          have hmn := apply_n hb
          have HB6 := hide ((unhide HB5).trans (hb6.mono (unhide HB5).size))
          clear hb hb6
          rcases hz with ⟨rfl, rfl⟩ | ⟨hne, rfl, rfl⟩
          · go_wp2_with fail
            go_ret
            exact ⟨rfl, unhide HB6⟩
          · have hne' : (g == 0) = false := by rw [beq_eq_false_iff_ne]; exact hne
            have hne2 : (g != 0) = true := by rw [bne_iff_ne]; exact hne
            go_wp2_with fail
            go_ret
            exact ⟨rfl, unhide HB6⟩
  · have hc' : (c0 != 0) = true := by rw [bne_iff_ne]; exact hc
    go_wp2_with fail
    go_ret
    exact ⟨rfl, unhide HB2⟩
end Go.Proofs.YtikiaijgcjjloabGreatDoor

/- The walks: the program's Define. -/
namespace Go.Proofs.YtikiaijgcjjloabGreatDoor
open Go Go.RowKit M T Go.Lib

theorem name_one {name : ByteArray} (h : name.size = 1) : name.data.toList = [name[0]'(by omega)] := by
  have := rest_lt (s := name) (a := 0) (by omega)
  rw [rest_zero, rest_ge (by omega)] at this
  exact this

set_option maxRecDepth 100000 in
set_option maxHeartbeats 1600000 in
theorem define_any {env : Env} (name s : ByteArray) {xb : Nat} {nm : Nat → Option Nat} (w : World) (h : SesIs w xb nm env) :
    Calls Tryz.prog 15 #[.pointer (some ⟨xb, 0, none⟩), .string name, .string s] w fun e w' => ∃ c env' nm', e = .returned (.int .i64 c) ∧ DefineSays env name.data.toList s.data.toList c env' ∧ SesIs w' xb nm' env' ∧ But xb w w' := by
  have hblk := h.blk
  have H := hide h
  clear h
  by_cases h1 : name.size = 1
  · have hne : (((name.size : Nat) : Int) != 1) = false := by rw [h1]; rfl
    have hix : (0 : Int) < (name.size : Int) := by omega
    have HN := hide (name_one h1)
    have h10 : 0 < name.size := by omega
    obtain ⟨c, hc⟩ : ∃ c, name[0] = c := ⟨_, rfl⟩
    by_cases h2 : 65 ≤ c.toNat ∧ c.toNat ≤ 90
    · obtain ⟨h2, h3⟩ := h2
      go_enter Tryz.func15, Tryz.ntmps15
      go_wp2_with fail
      refine (place_yes c h2 h3 _).mono ?_
      rintro e w' ⟨rfl, rfl⟩
      go_wp2_with (refine wpList_load_row rfl 46 (.tmp 26) rfl xb rfl 48 (ncells nm) (0, 0) _ hblk Tryz.underlying46 rfl Tryz.infoNames ?_)
      refine (tRead_any (unhide H).env s nm _ (unhide H).names).mono ?_
      rintro e w1 ⟨⟨k, hk, rfl⟩ | ⟨t, tb, hg, ht, rfl⟩, hb1⟩
      · have hke : (k != 0) = true := by rw [bne_iff_ne]; exact hk.ne
        have HC := hide hk
        have HB1 := hide hb1
        clear hk hb1
        go_wp2_with fail
        go_ret
        exact ⟨k, env, nm, rfl, Or.inr ⟨c, by rw [unhide HN, hc], h2, h3, Or.inl ⟨unhide HC, rfl⟩⟩, (unhide H).below (unhide HB1), But.of_below (unhide HB1)⟩
      · have hs1 := (unhide H).below hb1
        have hcell : w1.cell? ⟨xb, c.toNat - 65, none⟩ = some (ptr (nm (c.toNat - 65))) := by rw [blk_cell hs1.blk]; exact ncells_get nm _ (by omega)
        have hfr : w1.frozen? ⟨xb, c.toNat - 65, none⟩ = false := blk_free hs1.blk _
        have hix2 : ((c.toNat - 65 : Nat) : Int) < 26 := by omega
        have HP := hide ((unhide H).put hb1 h2 h3 ht hg.term.wf)
        have HG := hide hg
        have HB1 := hide hb1
        clear hg ht hb1 hs1
        go_wp2_with fail
        go_ret
        exact ⟨0, env.put c t, nmPut nm (c.toNat - 65) tb, rfl, Or.inr ⟨c, by rw [unhide HN, hc], h2, h3, Or.inr ⟨t, unhide HG, rfl, rfl⟩⟩, unhide HP, (But.of_below (unhide HB1)).setCell _ _⟩
    · have h2' : c.toNat < 65 ∨ 90 < c.toNat := by omega
      have H2 := hide h2
      clear h2
      go_enter Tryz.func15, Tryz.ntmps15
      go_wp2_with fail
      refine (place_no c h2' _).mono ?_
      rintro e w' ⟨rfl, rfl⟩
      go_wp2_with fail
      go_ret
      exact ⟨4, env, nm, rfl, Or.inl ⟨by rintro ⟨d, hd, d1, d2⟩; rw [unhide HN, hc] at hd; cases hd; exact unhide H2 ⟨d1, d2⟩, rfl, rfl⟩, unhide H, But.refl _ _⟩
  · have hne : (((name.size : Nat) : Int) != 1) = true := by rw [bne_iff_ne]; omega
    have H1 := hide h1
    clear h1
    go_enter Tryz.func15, Tryz.ntmps15
    go_wp2_with fail
    go_ret
    exact ⟨4, env, nm, rfl, Or.inl ⟨by
      rintro ⟨d, hd, _, _⟩
      have := congrArg List.length hd
      exact unhide H1 (by simpa using this), rfl, rfl⟩, unhide H, But.refl _ _⟩
end Go.Proofs.YtikiaijgcjjloabGreatDoor

/- The walk of unwindkeep.Bound. -/
namespace Go.Proofs.YtikiaijgcjjloabGreatDoor
open Go Go.RowKit M T Go.Lib

theorem a_text (s : ByteArray) : ((⟨#[65]⟩ : ByteArray) ++ s).data.toList = 65 :: s.data.toList := by
  rw [cat_list]; rfl
/-- What a want and its run behind it come to. -/
structure Behind (l want : List UInt8) (k n i h d : Int) : Prop where
  l : l = want
  i : i = h
  ok : h = 0 → k = n + d
  no : h ≠ 0 → k = 0 ∧ n = 0

set_option maxRecDepth 100000 in
set_option maxHeartbeats 6400000 in
theorem bound_walk {w : World} (one two other : ByteArray) {ra : Option Addr} {rn rc : Nat} {raw : Nat → Int} (hr : RawIs w ra rn raw) (hn : rn ≤ 140737488355328) (ht : Tab w) :
    Calls Tryz.prog 5 #[.string one, .string two, .string other, .slice ra rn rc] w fun e w' => e = .returned (.bool true) ∧ Below w.heap.size w w' := by
  have HR := hide hr
  have HT := hide ht
  clear hr ht
  go_enter Tryz.func5, Tryz.ntmps5
  go_wp2_with fail
  refine (ready_new _ (unhide HT)).mono ?_
  rintro e w1 ⟨rfl, hses, hb1⟩
  obtain ⟨xb, hxb⟩ : ∃ xb, xb = w.heap.size := ⟨_, rfl⟩
  rw [← hxb] at hses ⊢
  have hx : w.heap.size ≤ xb := by omega
  have HXb := hide hx
  have HS := hide hses
  have HB1 := hide hb1
  clear hses hb1 hxb hx
  go_wp2_with fail
  refine (facts_any one _ (unhide HS)).mono ?_
  rintro e w2 ⟨n1, c1, rfl, hfa, hb2⟩
  have HFa := hide hfa
  have HS2 := hide ((unhide HS).below hb2)
  have HB2 := hide ((unhide HB1).trans (hb2.mono (unhide HB1).size))
  clear hfa hb2
  go_wp2_with fail
  refine (facts_any two _ (unhide HS2)).mono ?_
  rintro e w3 ⟨n2, c2, rfl, hfb, hb3⟩
  have HFb := hide hfb
  have HS3 := hide ((unhide HS2).below hb3)
  have HB3 := hide ((unhide HB2).trans (hb3.mono (unhide HB2).size))
  clear hfb hb3
  go_wp2_with fail
  refine (facts_any other _ (unhide HS3)).mono ?_
  rintro e w4 ⟨n3, c3, rfl, hfc, hb4⟩
  have HFc := hide hfc
  have HS4 := hide ((unhide HS3).below hb4)
  have HB4 := hide ((unhide HB3).trans (hb4.mono (unhide HB3).size))
  clear hfc hb4
  by_cases hc1 : c1 = 0
  · subst hc1
    by_cases hc2 : c2 = 0
    · subst hc2
      by_cases hc3 : c3 = 0
      · subst hc3
        have hl1 : one.size ≤ 120 := by rw [size_list]; exact facts_len (unhide HFa)
        have hl2 : two.size ≤ 120 := by rw [size_list]; exact facts_len (unhide HFb)
        by_cases hlong : 120 ≤ one.size + two.size
        · have hlong' : (120 : Int) ≤ (one.size : Int) + (two.size : Int) := by omega
          go_wp2_with fail
          go_ret
          exact ⟨rfl, unhide HB4⟩
        · have hlong' : ¬ (120 : Int) ≤ (one.size : Int) + (two.size : Int) := by omega
          have HLen := hide (show one.data.toList.length + two.data.toList.length < 120 by rw [← size_list, ← size_list]; omega)
          obtain ⟨t1, g1, _⟩ := (unhide HFa).good
          obtain ⟨t2, g2, _⟩ := (unhide HFb).good
          obtain ⟨t3, g3, _⟩ := (unhide HFc).good
          have HG1 := hide g1
          have HG2 := hide g2
          have HG3 := hide g3
          have HAT := hide (a_text two)
          have HCat := hide (cat_list one two)
          clear g1 g2 g3
          go_wp2_with fail
          refine (define_any ⟨#[65]⟩ one _ (unhide HS4)).mono ?_
          rintro e w5 ⟨a, env1, nm1, rfl, hd1, hs5, hb5⟩
          have HD1 := hide hd1
          have HS5 := hide hs5
          have HB5 := hide ((unhide HB4).trans (hb5.below (unhide HB4).size (unhide HXb)))
          obtain ⟨rfl, _⟩ := define_ok (by decide) (unhide HG1) hd1
          clear hd1 hs5 hb5
          go_wp2_with fail
          refine (define_any ⟨#[66]⟩ _ _ (unhide HS5)).mono ?_
          rintro e w6 ⟨b, env2, nm2, rfl, hd2, hs6, hb6⟩
          rw [unhide HAT] at hd2
          obtain ⟨_, rfl, hbs⟩ := k_bound_defs (unhide HG1) (unhide HG2) (unhide HLen) (unhide HD1) hd2
          have HBs := hide hbs
          have HS6 := hide hs6
          have HB6 := hide ((unhide HB5).trans (hb6.below (unhide HB5).size (unhide HXb)))
          clear hd2 hbs hs6 hb6
          go_wp2_with fail
          refine (listed_any ((unhide HR).below (unhide HB6)) hn (tab_below (unhide HT) (unhide HB6))).mono ?_
          rintro e w7 ⟨L, hL, rfl, hb7⟩
          have HL := hide hL
          have HS7 := hide ((unhide HS6).below hb7)
          have HB7 := hide ((unhide HB6).trans (hb7.mono (unhide HB6).size))
          have hls := list_len hL
          clear hL hb7
          generalize listText L = lt at HL hls
          have hlz : (⟨lt.toArray⟩ : ByteArray).size ≤ 9223372036854775807 := by rw [bytes_size]; omega
          go_wp2_with fail
          refine (apply_any _ ⟨lt.toArray⟩ 4998 _ (unhide HS7) (tab_below (unhide HT) (unhide HB7)) hlz).mono ?_
          rintro e w8 ⟨want, n, h, rfl, ha, hb8⟩
          rw [unhide HCat] at ha
          have HA := hide ha
          have hnb := apply_n ha
          have HS8 := hide ((unhide HS7).below hb8)
          have HB8 := hide ((unhide HB7).trans (hb8.mono (unhide HB7).size))
          clear ha hb8
          by_cases hh : h = 0
          · subst hh
            go_wp2_with fail
            refine (apply_any ⟨#[66]⟩ ⟨lt.toArray⟩ 5000 _ (unhide HS8) (tab_below (unhide HT) (unhide HB8)) hlz).mono ?_
            rintro e w9 ⟨l, k, i, rfl, ha, hb9⟩
            obtain ⟨rfl, rfl, z1, z2⟩ := k_bound_B (unhide HG1) (unhide HG2) (unhide HLen) (unhide HL) (unhide HBs).b ha (unhide HA)
            obtain rfl := z1 rfl
            have HS9 := hide ((unhide HS8).below hb9)
            have HB9 := hide ((unhide HB8).trans (hb9.mono (unhide HB8).size))
            clear ha hb9 z1 z2
            go_wp2_with fail
            refine (define_any ⟨#[65]⟩ other _ (unhide HS9)).mono ?_
            rintro e w10 ⟨a3, env3, nm3, rfl, hd3, hs10, hb10⟩
            obtain ⟨rfl, rfl⟩ := define_ok (by decide) ((unhide HG3).any env2) hd3
            have HS10 := hide hs10
            have HB10 := hide ((unhide HB9).trans (hb10.below (unhide HB9).size (unhide HXb)))
            have HE66 := hide (show (env2.put 65 t3) 66 = some (.cons (.name 65 t1) t2) by rw [put_other _ _ _ _ (by decide)]; exact (unhide HBs).b)
            have HE65 := hide (put_same env2 65 t3)
            clear hd3 hs10 hb10
            go_wp2_with fail
            refine (apply_any ⟨#[66]⟩ ⟨lt.toArray⟩ 5000 _ (unhide HS10) (tab_below (unhide HT) (unhide HB10)) hlz).mono ?_
            rintro e w11 ⟨l2, k2, i2, rfl, ha, hb11⟩
            obtain ⟨rfl, rfl, z1, z2⟩ := k_bound_B (unhide HG1) (unhide HG2) (unhide HLen) (unhide HL) (unhide HE66) ha (unhide HA)
            obtain rfl := z1 rfl
            have HS11 := hide ((unhide HS10).below hb11)
            have HB11 := hide ((unhide HB10).trans (hb11.mono (unhide HB10).size))
            clear ha hb11 z1 z2
            go_wp2_with fail
            refine (apply_any other ⟨lt.toArray⟩ 4999 _ (unhide HS11) (tab_below (unhide HT) (unhide HB11)) hlz).mono ?_
            rintro e w12 ⟨want2, n4, h4, rfl, ha2, hb12⟩
            have HA2 := hide ha2
            have hnb2 := apply_n ha2
            have HS12 := hide ((unhide HS11).below hb12)
            have HB12 := hide ((unhide HB11).trans (hb12.mono (unhide HB11).size))
            clear ha2 hb12
            by_cases hh4 : h4 = 0
            · subst hh4
              go_wp2_with fail
              refine (apply_any ⟨#[65]⟩ ⟨lt.toArray⟩ 5000 _ (unhide HS12) (tab_below (unhide HT) (unhide HB12)) hlz).mono ?_
              rintro e w13 ⟨l3, k3, i3, rfl, ha, hb13⟩
              have hz := k_bound_A (unhide HG3) (unhide HL) (unhide HE65) ha (unhide HA2)
              obtain ⟨rfl, rfl, z1, z2⟩ := hz
              have HB13 := hide ((unhide HB12).trans (hb13.mono (unhide HB12).size))
              clear ha hb13
              obtain rfl := z1 rfl
              clear z1 z2
              go_wp2_with fail
              go_ret
              exact ⟨rfl, unhide HB13⟩
            · have hh4' : (h4 == 0) = false := by rw [beq_eq_false_iff_ne]; exact hh4
              go_wp2_with fail
              refine (apply_any ⟨#[65]⟩ ⟨lt.toArray⟩ 5000 _ (unhide HS12) (tab_below (unhide HT) (unhide HB12)) hlz).mono ?_
              rintro e w13 ⟨l3, k3, i3, rfl, ha, hb13⟩
              have hz := k_bound_A (unhide HG3) (unhide HL) (unhide HE65) ha (unhide HA2)
              obtain ⟨rfl, rfl, z1, z2⟩ := hz
              have HB13 := hide ((unhide HB12).trans (hb13.mono (unhide HB12).size))
              clear ha hb13
              obtain ⟨rfl, rfl⟩ := z2 hh4
              clear z1 z2
              go_wp2_with fail
              go_ret
              exact ⟨rfl, unhide HB13⟩
          · have hh' : (h == 0) = false := by rw [beq_eq_false_iff_ne]; exact hh
            go_wp2_with fail
            refine (apply_any ⟨#[66]⟩ ⟨lt.toArray⟩ 5000 _ (unhide HS8) (tab_below (unhide HT) (unhide HB8)) hlz).mono ?_
            rintro e w9 ⟨l, k, i, rfl, ha, hb9⟩
            obtain ⟨rfl, rfl, z1, z2⟩ := k_bound_B (unhide HG1) (unhide HG2) (unhide HLen) (unhide HL) (unhide HBs).b ha (unhide HA)
            obtain ⟨rfl, rfl⟩ := z2 hh
            have HS9 := hide ((unhide HS8).below hb9)
            have HB9 := hide ((unhide HB8).trans (hb9.mono (unhide HB8).size))
            clear ha hb9 z1 z2
            go_wp2_with fail
            refine (define_any ⟨#[65]⟩ other _ (unhide HS9)).mono ?_
            rintro e w10 ⟨a3, env3, nm3, rfl, hd3, hs10, hb10⟩
            obtain ⟨rfl, rfl⟩ := define_ok (by decide) ((unhide HG3).any env2) hd3
            have HS10 := hide hs10
            have HB10 := hide ((unhide HB9).trans (hb10.below (unhide HB9).size (unhide HXb)))
            have HE66 := hide (show (env2.put 65 t3) 66 = some (.cons (.name 65 t1) t2) by rw [put_other _ _ _ _ (by decide)]; exact (unhide HBs).b)
            have HE65 := hide (put_same env2 65 t3)
            clear hd3 hs10 hb10
            go_wp2_with fail
            refine (apply_any ⟨#[66]⟩ ⟨lt.toArray⟩ 5000 _ (unhide HS10) (tab_below (unhide HT) (unhide HB10)) hlz).mono ?_
            rintro e w11 ⟨l2, k2, i2, rfl, ha, hb11⟩
            obtain ⟨rfl, rfl, z1, z2⟩ := k_bound_B (unhide HG1) (unhide HG2) (unhide HLen) (unhide HL) (unhide HE66) ha (unhide HA)
            obtain ⟨rfl, _⟩ := z2 hh
            have HS11 := hide ((unhide HS10).below hb11)
            have HB11 := hide ((unhide HB10).trans (hb11.mono (unhide HB10).size))
            clear ha hb11 z1 z2
            go_wp2_with fail
            refine (apply_any other ⟨lt.toArray⟩ 4999 _ (unhide HS11) (tab_below (unhide HT) (unhide HB11)) hlz).mono ?_
            rintro e w12 ⟨want2, n4, h4, rfl, ha2, hb12⟩
            have HA2 := hide ha2
            have hnb2 := apply_n ha2
            have HS12 := hide ((unhide HS11).below hb12)
            have HB12 := hide ((unhide HB11).trans (hb12.mono (unhide HB11).size))
            clear ha2 hb12
            by_cases hh4 : h4 = 0
            · subst hh4
              go_wp2_with fail
              refine (apply_any ⟨#[65]⟩ ⟨lt.toArray⟩ 5000 _ (unhide HS12) (tab_below (unhide HT) (unhide HB12)) hlz).mono ?_
              rintro e w13 ⟨l3, k3, i3, rfl, ha, hb13⟩
              have hz := k_bound_A (unhide HG3) (unhide HL) (unhide HE65) ha (unhide HA2)
              obtain ⟨rfl, rfl, z1, z2⟩ := hz
              have HB13 := hide ((unhide HB12).trans (hb13.mono (unhide HB12).size))
              clear ha hb13
              obtain rfl := z1 rfl
              clear z1 z2
              go_wp2_with fail
              go_ret
              exact ⟨rfl, unhide HB13⟩
            · have hh4' : (h4 == 0) = false := by rw [beq_eq_false_iff_ne]; exact hh4
              go_wp2_with fail
              refine (apply_any ⟨#[65]⟩ ⟨lt.toArray⟩ 5000 _ (unhide HS12) (tab_below (unhide HT) (unhide HB12)) hlz).mono ?_
              rintro e w13 ⟨l3, k3, i3, rfl, ha, hb13⟩
              have hz := k_bound_A (unhide HG3) (unhide HL) (unhide HE65) ha (unhide HA2)
              obtain ⟨rfl, rfl, z1, z2⟩ := hz
              have HB13 := hide ((unhide HB12).trans (hb13.mono (unhide HB12).size))
              clear ha hb13
              obtain ⟨rfl, rfl⟩ := z2 hh4
              clear z1 z2
              go_wp2_with fail
              go_ret
              exact ⟨rfl, unhide HB13⟩
      · have hc' : (c3 != 0) = true := by rw [bne_iff_ne]; exact hc3
        go_wp2_with fail
        go_ret
        exact ⟨rfl, unhide HB4⟩
    · have hc' : (c2 != 0) = true := by rw [bne_iff_ne]; exact hc2
      go_wp2_with fail
      go_ret
      exact ⟨rfl, unhide HB4⟩
  · have hc' : (c1 != 0) = true := by rw [bne_iff_ne]; exact hc1
    go_wp2_with fail
    go_ret
    exact ⟨rfl, unhide HB4⟩
end Go.Proofs.YtikiaijgcjjloabGreatDoor

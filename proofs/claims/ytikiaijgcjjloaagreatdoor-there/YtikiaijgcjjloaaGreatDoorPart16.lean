import Derived.Test.YtikiaijgcjjloaaGreatDoorPart15
import Derived.Test.YtikiaijgcjjloaaGreatDoorPart8
import Derived.Laws.Runes
import Derived.Test.YtikiaijgcjjloaaGreatDoorPart7

/- The walks: places written; a row of parts read. -/
namespace Go.Proofs.YtikiaijgcjjloaaGreatDoor
open Go Go.RowKit M T Go.Lib

theorem encode_small (c : UInt8) (h : c.toNat < 128) : Utf8.encode (c.toNat : Int) = ⟨#[c]⟩ := by
  have hv : Utf8.valid (c.toNat : Int) = true := by unfold Utf8.valid; simp; omega
  unfold Utf8.encode
  simp only [hv, if_true, Int.toNat_natCast]
  rw [if_pos h]
  simp
theorem itoa_any (n : Int) (w : World) (h0 : -4000000000000000000 ≤ n) (h1 : n ≤ 4000000000000000000) (ht : Tab w) :
    Calls Tryz.prog 14 #[.int .i64 n] w fun e w' => e = .returned (.string ⟨(itoa n).toArray⟩) ∧ Below w.heap.size w w' :=
  (Tryz.strconv_Itoa n (by omega) (by omega) w ht).mono fun _ _ ⟨he, k, os, hw⟩ => ⟨he, hw ▸ below_gr w k os⟩
/-- Cell i of part j of a row. -/
theorem row_cell {w : World} {B : Nat} {e : TypeId} {g n cap : Nat} {xs : List PC} (h : w.ownsRow B e 8 (.slice (some ⟨g, 0, none⟩) n cap) xs.length (rowCells xs)) {j : Nat} (hj : j < xs.length) (i : Nat) (hi : i < 8) : w.cell? ⟨g, j * 8 + i, none⟩ = (xs[j].cells)[i]? := by
  have key : ∀ (ys : List PC) (j : Nat) (hj : j < ys.length), (rowCells ys)[j * 8 + i]? = (ys[j].cells)[i]? := by
    intro ys
    induction ys with
    | nil => intro j hj; simp at hj
    | cons y ys ih =>
      intro j hj
      have e : rowCells (y :: ys) = y.cells ++ rowCells ys := rfl
      cases j with
      | zero =>
        rw [e, List.getElem?_append_left (by rw [PC.cells_length]; omega)]
        simp
      | succ j =>
        rw [e, List.getElem?_append_right (by rw [PC.cells_length]; omega), PC.cells_length, show (j + 1) * 8 + i - 8 = j * 8 + i by omega, ih j (by simpa using hj)]
        simp
  have hlt : i < (xs[j].cells).length := by rw [PC.cells_length]; exact hi
  have := h.cells (g := g) rfl (j * 8 + i) ((xs[j].cells)[i]) (by rw [key xs j hj]; exact List.getElem?_eq_getElem hlt)
  rw [show (⟨g, 0, none⟩ : Addr).add (j * 8 + i) = ⟨g, j * 8 + i, none⟩ from by unfold Addr.add; split <;> simp_all] at this
  rw [this, List.getElem?_eq_getElem hlt]
theorem owns_len {w : World} {B : Nat} {e : TypeId} {size : Nat} {a : Option Addr} {m cap : Nat} {n : Nat} {xs : List Value} (h : w.ownsRow B e size (.slice a m cap) n xs) : m = n := by
  rcases h.2 with ⟨h2, h3⟩ | ⟨g', cap', cur, hv, _⟩
  · cases h2; exact h3.symm
  · cases hv; rfl
theorem dots_step (ps : List Nat) (j : Nat) (hj : j < ps.length) : dots (ps.take (j + 1)) = dots (ps.take j) ++ ((if j = 0 then [] else [46]) ++ decDigits ps[j]) := by
  rw [List.take_succ_eq_append_getElem hj, dots_pre]
  by_cases h : j = 0
  · subst h
    simp [pre, dots]
  · rw [if_neg h]
    have key : ∀ (qs : List Nat), qs ≠ [] → pre qs = dots qs ++ [46] := by
      intro qs hq
      obtain ⟨l, k, e⟩ := (List.eq_nil_or_concat qs).resolve_left hq
      rw [List.concat_eq_append] at e
      subst e
      rw [dots_pre]
      simp [pre]
    rw [key _ (fun e => by have := List.length_take (i := j) (l := ps); rw [e] at this; simp only [List.length_nil] at this; omega)]
    simp
theorem dots_len (ps : List Nat) : ∀ j, (∀ i ∈ ps, i < 12) → (dots (ps.take j)).length ≤ 3 * ps.length := by
  intro j hs
  have key : ∀ qs : List Nat, (∀ i ∈ qs, i < 12) → (dots qs).length ≤ 3 * qs.length := by
    intro qs
    induction qs with
    | nil => intro _; simp [dots]
    | cons q qs ih =>
      intro hq
      have h1 : (decDigits q).length ≤ 2 := dec_len_le 2 q (by decide) (by have := hq q (by simp); omega)
      by_cases hn : qs = []
      · subst hn; simp [dots]; omega
      · rw [dots_cons q qs hn]
        have := ih (fun i hi => hq i (by simp [hi]))
        simp
        omega
  have h1 := key (ps.take j) (fun i hi => hs i (List.mem_of_mem_take hi))
  have h2 : (ps.take j).length ≤ ps.length := by simp; omega
  omega

set_option maxRecDepth 100000 in
set_option maxHeartbeats 1600000 in
theorem placesText_any (g cap : Nat) (ps : List Nat) (w : World) (hc : ∀ i (h : i < ps.length), w.cell? ⟨g, i, none⟩ = some (.int .i64 (ps[i] : Int))) (hg : g < w.heap.size) (hs : ∀ i ∈ ps, i < 12) (hl : ps.length ≤ 100000) (ht : Tab w) :
    Calls Tryz.prog 142 #[.slice (some ⟨g, 0, none⟩) ps.length cap] w fun e w' => e = .returned (.string ⟨(dots ps).toArray⟩) ∧ Below w.heap.size w w' := by
  have HT := hide ht
  clear ht
  go_enter Tryz.func142, Tryz.ntmps142
  go_wp2_with fail
  go_loopw [3, 4, 5, 8] (fun v _ _ i wr => ∃ j : Nat, j ≤ ps.length ∧ i = .int .i64 (j : Int) ∧ v = .string ⟨(dots (ps.take j)).toArray⟩ ∧ Below w.heap.size w wr) (fun _ _ _ i _ => ps.length - (RowKit.intOf i).toNat)
  case atStart => exact ⟨0, by omega, rfl, rfl, Below.refl _ _⟩
  case round =>
    obtain ⟨j, hj, rfl, rfl, hb⟩ := hrel
    have hdl := dots_len ps j hs
    have HB := hide hb
    by_cases hlt : j < ps.length
    · have hcj : wr.cell? ⟨g, j, none⟩ = some (.int .i64 (ps[j] : Int)) := (hb.cell (p := ⟨g, j, none⟩) hg).trans (hc j hlt)
      have HS := hide (dots_step ps j hlt)
      have h12 := hs ps[j] (List.getElem_mem hlt)
      have hd2 : (decDigits ps[j]).length ≤ 2 := dec_len_le 2 _ (by decide) (by omega)
      have HI := hide (itoa_nat (ps[j] : Int) (by omega))
      by_cases h0 : j = 0
      · have h0' : ¬ (0 : Int) < (j : Int) := by omega
        have H0 := hide h0
        clear hb h0
        go_wp2_with fail
        refine (itoa_any _ _ (by omega) (by omega) (tab_below (unhide HT) (unhide HB))).mono ?_
        rintro e w1 ⟨rfl, hb1⟩
        rw [unhide HI, Int.toNat_natCast]
        have HB1 := hide ((unhide HB).trans (hb1.mono (unhide HB).size))
        clear hb1
        go_wp2_with fail
        go_roundw
        case rel => exact ⟨j + 1, by omega, by go_num, by rw [unhide HS, if_pos (unhide H0)]; simp [str_app], unhide HB1⟩
        case measure => simp [RowKit.intOf]; omega
      · have h0' : (0 : Int) < (j : Int) := by omega
        have H0 := hide h0
        clear hb h0
        go_wp2_with fail
        refine (itoa_any _ _ (by omega) (by omega) (tab_below (unhide HT) (unhide HB))).mono ?_
        rintro e w1 ⟨rfl, hb1⟩
        rw [unhide HI, Int.toNat_natCast]
        have HB1 := hide ((unhide HB).trans (hb1.mono (unhide HB).size))
        clear hb1
        go_wp2_with fail
        go_roundw
        case rel => exact ⟨j + 1, by omega, by go_num, by rw [unhide HS, if_neg (unhide H0)]; simp [str_app], unhide HB1⟩
        case measure => simp [RowKit.intOf]; omega
    · have hlt' : ¬ (j : Int) < (ps.length : Int) := by omega
      have hje : j = ps.length := by omega
      have HE := hide (show ps.take j = ps by rw [hje, List.take_length])
      clear hb hje
      go_wp2_with fail
      go_ret
      exact ⟨ret_str (by rw [unhide HE]), unhide HB⟩
end Go.Proofs.YtikiaijgcjjloaaGreatDoor

/- The walks: a part written. -/
namespace Go.Proofs.YtikiaijgcjjloaaGreatDoor
open Go Go.RowKit M T Go.Lib

theorem str1 (c : UInt8) (l : List UInt8) : (⟨#[c]⟩ : ByteArray) ++ (⟨l.toArray⟩ : ByteArray) = ⟨(c :: l).toArray⟩ := by
  apply ByteArray.ext; simp
theorem below_then {w w1 : World} {o : Obj} (h : Below (w.alloc o).heap.size (w.alloc o) w1) : Below w.heap.size w w1 := (below_box o).trans (h.mono (by simp))
/-- What Text answers of the term at q. -/
def TextAt (q : Nat) (l : List UInt8) (w : World) : Prop := ∀ w', Below w.heap.size w w' → Calls Tryz.prog 66 #[.pointer (some ⟨q, 0, none⟩)] w' fun e w2 => e = .returned (.string ⟨l.toArray⟩) ∧ Below w'.heap.size w' w2
set_option maxRecDepth 100000 in
set_option maxHeartbeats 800000 in
theorem text_letter {c : UInt8} (hc : c = 110 ∨ c = 118 ∨ c = 97 ∨ c = 113 ∨ c = 119 ∨ c = 117 ∨ c = 114 ∨ c = 115 ∨ c = 122 ∨ c = 112 ∨ c = 109 ∨ c = 111) {n k t b : Int} {pa : Option Addr} {pn pc : Nat} {bo ov : Option Addr} (w : World) : Calls Tryz.prog 103 #[.agg #[.int .u8 (c.toNat : Int), .int .u8 n, .int .i64 k, .int .i64 t, .int .i64 b, .slice pa pn pc, .pointer bo, .pointer ov]] w fun e w' => e = .returned (.string ⟨#[c]⟩) ∧ Below w.heap.size w w' := by
  rcases hc with rfl | rfl | rfl | rfl | rfl | rfl | rfl | rfl | rfl | rfl | rfl | rfl
  all_goals
    go_enter Tryz.func103, Tryz.ntmps103
    go_wp2_with fail
    go_ret
    exact ⟨ret_str (by rfl), (by repeat (first | exact Below.refl _ _ | refine below_dr ?_ _ | refine Below.drew ?_ | refine Below.setCell ?_ (by simp) _ | refine Below.alloc ?_ (by simp) _))⟩
set_option maxRecDepth 100000 in
set_option maxHeartbeats 800000 in
theorem text_valued {c : UInt8} (hc : c = 43 ∨ c = 42 ∨ c = 61) {n k t b : Int} {pa : Option Addr} {pn pc : Nat} {bo ov : Option Addr} (w : World) (h1 : -1000000000 ≤ t) (h2 : t ≤ 1000000000) (h3 : 1 ≤ b) (h4 : b ≤ 1000000000) (ht : Tab w) : Calls Tryz.prog 103 #[.agg #[.int .u8 (c.toNat : Int), .int .u8 n, .int .i64 k, .int .i64 t, .int .i64 b, .slice pa pn pc, .pointer bo, .pointer ov]] w fun e w' => e = .returned (.string ⟨(c :: numText t b).toArray⟩) ∧ Below w.heap.size w w' := by
  have HT := hide ht
  clear ht
  have hln : (numText t b).length ≤ 100 := by
    unfold numText
    have e1 := itoa_len t h1 h2
    have e2 := dec_len_ten b.toNat (by omega)
    split <;> simp <;> omega
  have e43 : Utf8.encode 43 = ⟨#[43]⟩ := rfl
  have e42 : Utf8.encode 42 = ⟨#[42]⟩ := rfl
  have e61 : Utf8.encode 61 = ⟨#[61]⟩ := rfl
  rcases hc with rfl | rfl | rfl
  all_goals
    go_enter Tryz.func103, Tryz.ntmps103
    go_wp2_with fail
    refine (Text_any t b _ h1 h2 h3 h4 (tab_alloc (unhide HT) _)).mono ?_
    rintro e w1 ⟨rfl, hb1⟩
    go_wp2_with fail
    go_ret
    exact ⟨ret_str (str1 _ _), below_then hb1⟩
set_option maxRecDepth 100000 in
set_option maxHeartbeats 800000 in
theorem text_counted {c : UInt8} (hc : c = 60 ∨ c = 116 ∨ c = 100) {n k t b : Int} {pa : Option Addr} {pn pc : Nat} {bo ov : Option Addr} (w : World) (h1 : -1000000000 ≤ k) (h2 : k ≤ 1000000000) (ht : Tab w) : Calls Tryz.prog 103 #[.agg #[.int .u8 (c.toNat : Int), .int .u8 n, .int .i64 k, .int .i64 t, .int .i64 b, .slice pa pn pc, .pointer bo, .pointer ov]] w fun e w' => e = .returned (.string ⟨(c :: itoa k).toArray⟩) ∧ Below w.heap.size w w' := by
  have HT := hide ht
  clear ht
  have hln := itoa_len k h1 h2
  have e60 : Utf8.encode 60 = ⟨#[60]⟩ := rfl
  have e116 : Utf8.encode 116 = ⟨#[116]⟩ := rfl
  have e100 : Utf8.encode 100 = ⟨#[100]⟩ := rfl
  rcases hc with rfl | rfl | rfl
  all_goals
    go_enter Tryz.func103, Tryz.ntmps103
    go_wp2_with fail
    refine (itoa_any k _ (by omega) (by omega) (tab_alloc (unhide HT) _)).mono ?_
    rintro e w1 ⟨rfl, hb1⟩
    go_wp2_with fail
    go_ret
    exact ⟨ret_str (str1 _ _), below_then hb1⟩
set_option maxRecDepth 100000 in
set_option maxHeartbeats 800000 in
theorem text_pick {n k t b : Int} {bo ov : Option Addr} (w : World) (g cap : Nat) (ps : List Nat) (hc : ∀ i (h : i < ps.length), w.cell? ⟨g, i, none⟩ = some (.int .i64 (ps[i] : Int))) (hg : g < w.heap.size) (hs : ∀ i ∈ ps, i < 12) (hl : ps.length ≤ 100000) (ht : Tab w) : Calls Tryz.prog 103 #[.agg #[.int .u8 35, .int .u8 n, .int .i64 k, .int .i64 t, .int .i64 b, .slice (some ⟨g, 0, none⟩) ps.length cap, .pointer bo, .pointer ov]] w fun e w' => e = .returned (.string ⟨(35 :: dots ps).toArray⟩) ∧ Below w.heap.size w w' := by
  have HT := hide ht
  have HC := hide hc
  have HS := hide hs
  have hln : (dots ps).length ≤ 300000 := by have := dots_len ps ps.length hs; rw [List.take_length] at this; omega
  clear ht hc hs
  have e35 : Utf8.encode 35 = ⟨#[35]⟩ := rfl
  go_enter Tryz.func103, Tryz.ntmps103
  go_wp2_with fail
  refine (placesText_any g cap ps _ (fun i h => ((below_box _).cell (p := ⟨g, i, none⟩) hg).trans (unhide HC i h)) (by simp; omega) (unhide HS) hl (tab_alloc (unhide HT) _)).mono ?_
  rintro e w1 ⟨rfl, hb1⟩
  go_wp2_with fail
  go_ret
  exact ⟨ret_str (str1 _ _), below_then hb1⟩
set_option maxRecDepth 100000 in
set_option maxHeartbeats 800000 in
theorem text_name {c : UInt8} (h1 : c.toNat < 128) {k t b : Int} {pa : Option Addr} {pn pc : Nat} {bo ov : Option Addr} (w : World) : Calls Tryz.prog 103 #[.agg #[.int .u8 65, .int .u8 (c.toNat : Int), .int .i64 k, .int .i64 t, .int .i64 b, .slice pa pn pc, .pointer bo, .pointer ov]] w fun e w' => e = .returned (.string ⟨#[c]⟩) ∧ Below w.heap.size w w' := by
  have HE := hide (encode_small c h1)
  go_enter Tryz.func103, Tryz.ntmps103
  go_wp2_with fail
  go_ret
  exact ⟨ret_str (unhide HE), (by repeat (first | exact Below.refl _ _ | refine below_dr ?_ _ | refine Below.drew ?_ | refine Below.setCell ?_ (by simp) _ | refine Below.alloc ?_ (by simp) _))⟩
set_option maxRecDepth 100000 in
set_option maxHeartbeats 1600000 in
theorem text_pow {n k t b : Int} {pa : Option Addr} {pn pc : Nat} {ov : Option Addr} (w : World) (q : Nat) (l : List UInt8) (hl : l.length ≤ 100000) (hB : TextAt q l w) (h1 : -1000000000 ≤ k) (h2 : k ≤ 1000000000) (ht : Tab w) : Calls Tryz.prog 103 #[.agg #[.int .u8 40, .int .u8 n, .int .i64 k, .int .i64 t, .int .i64 b, .slice pa pn pc, .pointer (some ⟨q, 0, none⟩), .pointer ov]] w fun e w' => e = .returned (.string ⟨(40 :: (l ++ 41 :: 94 :: itoa k)).toArray⟩) ∧ Below w.heap.size w w' := by
  have HT := hide ht
  have HBB := hide hB
  have hln := itoa_len k h1 h2
  clear ht hB
  go_enter Tryz.func103, Tryz.ntmps103
  go_wp2_with fail
  refine (unhide HBB _ (below_box _)).mono ?_
  rintro e w1 ⟨rfl, hb1⟩
  have HB1 := hide (below_then hb1)
  obtain ⟨hc1, hf1⟩ := bcell hb1
  clear hb1
  go_wp2_with fail
  refine (itoa_any k _ (by omega) (by omega) (tab_below (unhide HT) (unhide HB1))).mono ?_
  rintro e w2 ⟨rfl, hb2⟩
  go_wp2_with fail
  go_ret
  exact ⟨ret_str (by apply ByteArray.ext; simp), (unhide HB1).trans (hb2.mono (unhide HB1).size)⟩
set_option maxRecDepth 100000 in
set_option maxHeartbeats 1600000 in
theorem text_under {n k t b : Int} {pa : Option Addr} {pn pc : Nat} (w : World) (q q' : Nat) (l l' : List UInt8) (hl : l.length ≤ 100000) (hl' : l'.length ≤ 100000) (hB : TextAt q l w) (hO : TextAt q' l' w) : Calls Tryz.prog 103 #[.agg #[.int .u8 91, .int .u8 n, .int .i64 k, .int .i64 t, .int .i64 b, .slice pa pn pc, .pointer (some ⟨q, 0, none⟩), .pointer (some ⟨q', 0, none⟩)]] w fun e w' => e = .returned (.string ⟨(91 :: (l' ++ 58 :: (l ++ [93]))).toArray⟩) ∧ Below w.heap.size w w' := by
  have HBB := hide hB
  have HO := hide hO
  clear hB hO
  go_enter Tryz.func103, Tryz.ntmps103
  go_wp2_with fail
  refine (unhide HO _ (below_box _)).mono ?_
  rintro e w1 ⟨rfl, hb1⟩
  have HB1 := hide (below_then hb1)
  obtain ⟨hc1, hf1⟩ := bcell hb1
  clear hb1
  go_wp2_with fail
  refine (unhide HBB _ (unhide HB1)).mono ?_
  rintro e w2 ⟨rfl, hb2⟩
  go_wp2_with fail
  go_ret
  exact ⟨ret_str (by apply ByteArray.ext; simp), (unhide HB1).trans (hb2.mono (unhide HB1).size)⟩
end Go.Proofs.YtikiaijgcjjloaaGreatDoor

/- The walks: a term written. -/
namespace Go.Proofs.YtikiaijgcjjloaaGreatDoor
open Go Go.RowKit M T Go.Lib

/-- What text answers of a part. -/
def PtText (p : Pt) : Prop := p.wf → p.text.length ≤ 100000 → ∀ (Ok : Nat → Prop) (x : PC) (w : World), PtIs Ok w x p → Tab w → Calls Tryz.prog 103 #[PC.value x] w fun e w' => e = .returned (.string ⟨p.text.toArray⟩) ∧ Below w.heap.size w w'
theorem PsIs.get {Ok : Nat → Prop} {w : World} : ∀ (ps : List Pt) (xs : List PC), PsIs Ok w xs (Tm.of ps) → ∀ (j : Nat) (h : j < ps.length) (h' : j < xs.length), PtIs Ok w xs[j] ps[j]
  | [], xs, _, j, h, _ => by simp at h
  | p :: ps, xs, hp, j, h, h' => by
    rw [Tm.of, PsIs] at hp
    obtain ⟨y, ys, rfl, h1, h2⟩ := hp
    cases j with
    | zero => exact h1
    | succ j => exact PsIs.get ps ys h2 j (by simpa using h) (by simpa using h')
/-- The first j parts, written. -/
def tx (ps : List Pt) (j : Nat) : List UInt8 := ((ps.take j).map Pt.text).flatten
theorem tx_zero (ps : List Pt) : tx ps 0 = [] := by unfold tx; simp
theorem text_take (ps : List Pt) (j : Nat) (hj : j < ps.length) : tx ps (j + 1) = tx ps j ++ ps[j].text := by
  unfold tx
  rw [List.take_succ_eq_append_getElem hj, List.map_append, List.flatten_append]
  simp only [List.map_cons, List.map_nil, List.flatten_cons, List.flatten_nil, List.append_nil]
theorem tx_all (ps : List Pt) (j : Nat) (hj : ps.length ≤ j) : tx ps j = (Tm.of ps).text := by
  unfold tx
  rw [List.take_of_length_le hj, Tm.of_text]
theorem text_take_len (ps : List Pt) (j : Nat) : (tx ps j).length ≤ (Tm.of ps).text.length := by
  unfold tx
  rw [Tm.of_text]
  conv => rhs; rw [← List.take_append_drop j ps, List.map_append, List.flatten_append, List.length_append]
  omega
theorem text_get_len (ps : List Pt) (j : Nat) (hj : j < ps.length) : ps[j].text.length ≤ (Tm.of ps).text.length := by
  have h1 := text_take_len ps (j + 1)
  rw [text_take ps j hj, List.length_append] at h1
  omega

set_option maxRecDepth 100000 in
set_option maxHeartbeats 1600000 in
theorem text_loop (ps : List Pt) (hP : ∀ p ∈ ps, PtText p) (hw : ∀ p ∈ ps, p.wf) (hl : (Tm.of ps).text.length ≤ 100000) (Ok : Nat → Prop) (b : Nat) (w : World) (h : TmIs Ok w b (Tm.of ps)) (ht : Tab w) :
    Calls Tryz.prog 66 #[.pointer (some ⟨b, 0, none⟩)] w fun e w' => e = .returned (.string ⟨(Tm.of ps).text.toArray⟩) ∧ Below w.heap.size w w' := by
  obtain ⟨sl, xs, hd, hps⟩ := h
  have hlen := PsIs.length ps xs hps
  have hc0 : w.cell? ⟨b, 0, none⟩ = some sl := by rw [blk_cell hd.blk]; rfl
  have HD := hide hd
  have HPS := hide hps
  have HP := hide hP
  have HW := hide hw
  have HT := hide ht
  have HL := hide hl
  have HLen := hide hlen
  rcases hd.row.2 with ⟨hnil, hn0⟩ | ⟨g, cap, cur, hv, _, hh, hcap, _⟩
  · have hps0 : ps = [] := List.eq_nil_of_length_eq_zero (by omega)
    subst hps0
    subst hnil
    clear hd hps hP hw ht hl hlen hn0
    go_enter Tryz.func66, Tryz.ntmps66
    go_wp2_with fail
    refine wp_loop_rounds 1 ?_
    rw [rounds_succ]
    go_wp2_with fail
    go_ret
    exact ⟨ret_str (by rw [Tm.of, Tm.text]), (by repeat (first | exact Below.refl _ _ | refine below_dr ?_ _ | refine Below.drew ?_ | refine Below.setCell ?_ (by simp) _ | refine Below.alloc ?_ (by simp) _))⟩
  · subst hv
    have hg := lt_of_block hh
    have hrow := hd.row
    have HRow := hide hrow
    have hxl : xs.length ≤ 100000 := by
      have key : ∀ qs : List Pt, qs.length ≤ (Tm.of qs).text.length := by
        intro qs
        induction qs with
        | nil => simp
        | cons q qs ih =>
          obtain ⟨l, e⟩ := Pt.text_first q
          rw [Tm.of, Tm.text, e, List.length_append, List.length_cons, List.length_cons]
          omega
      have := key ps
      omega
    clear hd hps hP hw ht hl hlen hcap hrow hh
    go_enter Tryz.func66, Tryz.ntmps66
    go_wp2_with fail
    go_loopw [3, 5, 11] (fun v _ i wr => ∃ j : Nat, j ≤ xs.length ∧ i = .int .i64 (j : Int) ∧ v = .string ⟨(tx ps j).toArray⟩ ∧ Below w.heap.size w wr) (fun _ _ i _ => xs.length - (RowKit.intOf i).toNat)
    case atStart => exact ⟨0, by omega, rfl, by rw [tx_zero], Below.refl _ _⟩
    case round =>
      obtain ⟨j, hj, rfl, rfl, hb⟩ := hrel
      have HB := hide hb
      have hdl := text_take_len ps j
      have hl := unhide HL
      by_cases hlt : j < xs.length
      · have hjp : j < ps.length := by have := unhide HLen; omega
        have hcell : ∀ i, i < 8 → wr.cell? ⟨g, j * 8 + i, none⟩ = (xs[j].cells)[i]? := fun i hi => (hb.cell (p := ⟨g, j * 8 + i, none⟩) hg).trans (row_cell (unhide HRow) hlt i hi)
        have hpt := PsIs.get ps xs (unhide HPS) j hjp hlt
        have HST := hide (text_take ps j hjp)
        have hql := text_get_len ps j hjp
        have HC := hide (unhide HP ps[j] (List.getElem_mem hjp) (unhide HW _ (List.getElem_mem hjp)) (by omega) Ok)
        generalize xs[j] = x at hcell hpt
        generalize ps[j] = p at hpt HST hql HC
        obtain ⟨L, N, K, Tp, Bt, pa, pn, pc, Bo, Ov⟩ := x
        have c0 : wr.cell? ⟨g, j * 8, none⟩ = some (.int .u8 (L.toNat : Int)) := hcell 0 (by omega)
        have c1 : wr.cell? ⟨g, j * 8 + 1, none⟩ = some (.int .u8 (N.toNat : Int)) := hcell 1 (by omega)
        have c2 : wr.cell? ⟨g, j * 8 + 2, none⟩ = some (.int .i64 K) := hcell 2 (by omega)
        have c3 : wr.cell? ⟨g, j * 8 + 3, none⟩ = some (.int .i64 Tp) := hcell 3 (by omega)
        have c4 : wr.cell? ⟨g, j * 8 + 4, none⟩ = some (.int .i64 Bt) := hcell 4 (by omega)
        have c5 : wr.cell? ⟨g, j * 8 + 5, none⟩ = some (.slice pa pn pc) := hcell 5 (by omega)
        have c6 : wr.cell? ⟨g, j * 8 + 6, none⟩ = some (.pointer (Bo.map fun b => ⟨b, 0, none⟩)) := hcell 6 (by omega)
        have c7 : wr.cell? ⟨g, j * 8 + 7, none⟩ = some (.pointer (Ov.map fun b => ⟨b, 0, none⟩)) := hcell 7 (by omega)
        have HPT := hide hpt
        clear hcell hpt hb
        go_wp2_with fail
        refine (unhide HC ⟨L, N, K, Tp, Bt, pa, pn, pc, Bo, Ov⟩ _ (PtIs.keeps (fun k hk hkl => ⟨(Below.heap_alloc _ _ _ (Nat.lt_of_lt_of_le hkl (unhide HB).size)).trans ((unhide HB).block k hkl), hk⟩) _ _ (unhide HPT)) (tab_alloc (tab_below (unhide HT) (unhide HB)) _)).mono ?_
        rintro e w1 ⟨rfl, hb1⟩
        have HB1 := hide ((unhide HB).trans ((below_then hb1).mono (unhide HB).size))
        clear hb1
        go_wp2_with fail
        go_roundw
        case rel => exact ⟨j + 1, by omega, by go_num, by rw [unhide HST]; simp [str_app], unhide HB1⟩
        case measure => simp [RowKit.intOf]; omega
      · have hlt' : ¬ (j : Int) < (xs.length : Int) := by omega
        have HE := hide (tx_all ps j (by have := unhide HLen; omega))
        clear hb
        go_wp2_with fail
        go_ret
        exact ⟨ret_str (by rw [unhide HE]), unhide HB⟩
theorem textAt_of {f : Tm} (hP : ∀ p ∈ f.parts, PtText p) (hw : f.wf) (hl : f.text.length ≤ 100000) {Ok : Nat → Prop} {b : Nat} {w : World} (h : TmIs Ok w b f) (ht : Tab w) : TextAt b f.text w := by
  intro w' hb
  have e := Tm.of_parts f
  have h' : TmIs (fun _ => True) w' b f := h.typed.keeps (fun k _ hl => ⟨hb.block k hl, trivial⟩)
  have hw' : (Tm.of f.parts).wf := by rw [e]; exact hw
  have := text_loop f.parts hP ((Tm.of_wf f.parts).1 hw') (by rw [e]; exact hl) (fun _ => True) b w' (by rw [e]; exact h') (tab_below ht hb)
  rw [e] at this
  exact this
mutual
theorem Pt.text_call : ∀ p : Pt, PtText p
  | .sp y => by
    intro hw hl Ok x w h ht
    obtain ⟨L, N, K, Tp, Bt, pa, pn, pc, Bo, Ov⟩ := x
    rw [PtIs] at h
    obtain ⟨h1, h2⟩ := h
    have h1' : L = y.first := h1
    subst h1'
    rw [Pt.wf] at hw
    rw [Pt.text]
    have val : ∀ c : Rat, small c = true → Tp = c.num → Bt = (c.den : Int) → -1000000000 ≤ Tp ∧ Tp ≤ 1000000000 ∧ 1 ≤ Bt ∧ Bt ≤ 1000000000 ∧ numText Tp Bt = ratText c := by
      intro c hc e1 e2
      have := rat_isNum hc
      subst e1 e2
      exact ⟨this.lo, this.hi, this.b1, this.b2, rfl⟩
    cases y with
    | plus c =>
      obtain ⟨a1, a2, a3, a4, a5⟩ := val c hw h2.1 h2.2
      have := text_valued (c := 43) (by decide) (n := (N.toNat : Int)) (k := K) (pa := pa) (pn := pn) (pc := pc) (bo := Bo.map fun b => ⟨b, 0, none⟩) (ov := Ov.map fun b => ⟨b, 0, none⟩) w a1 a2 a3 a4 ht
      rw [a5] at this
      exact this
    | times c =>
      obtain ⟨a1, a2, a3, a4, a5⟩ := val c hw h2.1 h2.2
      have := text_valued (c := 42) (by decide) (n := (N.toNat : Int)) (k := K) (pa := pa) (pn := pn) (pc := pc) (bo := Bo.map fun b => ⟨b, 0, none⟩) (ov := Ov.map fun b => ⟨b, 0, none⟩) w a1 a2 a3 a4 ht
      rw [a5] at this
      exact this
    | set c =>
      obtain ⟨a1, a2, a3, a4, a5⟩ := val c hw h2.1 h2.2
      have := text_valued (c := 61) (by decide) (n := (N.toNat : Int)) (k := K) (pa := pa) (pn := pn) (pc := pc) (bo := Bo.map fun b => ⟨b, 0, none⟩) (ov := Ov.map fun b => ⟨b, 0, none⟩) w a1 a2 a3 a4 ht
      rw [a5] at this
      exact this
    | shift k =>
      have e : K = k := h2
      subst e
      exact text_counted (c := 60) (by decide) w (by have := hw.1; omega) (by have := hw.2; omega) ht
    | take k =>
      have e : K = (k : Int) := h2
      have hk : k ≤ 12 := hw
      have := text_counted (c := 116) (by decide) (n := (N.toNat : Int)) (k := K) (t := Tp) (b := Bt) (pa := pa) (pn := pn) (pc := pc) (bo := Bo.map fun b => ⟨b, 0, none⟩) (ov := Ov.map fun b => ⟨b, 0, none⟩) w (by omega) (by omega) ht
      rw [itoa_nat K (by omega), show K.toNat = k by omega] at this
      exact this
    | drop k =>
      have e : K = (k : Int) := h2
      have hk : k ≤ 12 := hw
      have := text_counted (c := 100) (by decide) (n := (N.toNat : Int)) (k := K) (t := Tp) (b := Bt) (pa := pa) (pn := pn) (pc := pc) (bo := Bo.map fun b => ⟨b, 0, none⟩) (ov := Ov.map fun b => ⟨b, 0, none⟩) w (by omega) (by omega) ht
      rw [itoa_nat K (by omega), show K.toNat = k by omega] at this
      exact this
    | pick ps =>
      obtain ⟨o1, o2⟩ := h2
      have hne : (Value.slice pa pn pc) ≠ .slice none 0 0 := by
        intro e
        have hz := owns_len o1
        cases e
        exact hw.1 (List.eq_nil_of_length_eq_zero hz.symm)
      obtain ⟨g, cap, e⟩ := owns_some o1 hne
      cases e
      obtain ⟨_, _, hcell⟩ := owns_int o1
      have hg := (o1.lt g rfl).2
      have hlen : ps.length ≤ 100000 := by
        have key : ∀ qs : List Nat, qs.length ≤ (dots qs).length := by
          intro qs
          induction qs with
          | nil => simp
          | cons q qs ih =>
            have h1 := dec_length_pos q
            by_cases hn : qs = []
            · subst hn; simp [dots]; omega
            · rw [dots_cons q qs hn]; simp; omega
        have := key ps
        rw [Pt.text, Sp.text, List.length_cons] at hl
        omega
      exact text_pick w g _ ps hcell hg hw.2.2 hlen ht
    | _ => exact text_letter (by simp [Sp.first]) w
  | .pow f k => by
    intro hw hl Ok x w h ht
    obtain ⟨L, N, K, Tp, Bt, pa, pn, pc, Bo, Ov⟩ := x
    obtain ⟨h1, h2, b, h3, h4⟩ := PtIs.pow_iff.1 h
    have h1' : L = 40 := h1
    have h2' : K = k := h2
    have h3' : Bo = some b := h3
    subst h1' h2' h3'
    rw [Pt.wf] at hw
    rw [Pt.text] at hl ⊢
    have hfl : f.text.length ≤ 100000 := by simp at hl; omega
    exact text_pow w b f.text hfl (textAt_of (Tm.text_all f) hw.1 hfl h4 ht) (by omega) (by omega) ht
  | .under s g => by
    intro hw hl Ok x w h ht
    obtain ⟨L, N, K, Tp, Bt, pa, pn, pc, Bo, Ov⟩ := x
    obtain ⟨h1, ⟨b, h3, h4⟩, b', h5, h6⟩ := PtIs.under_iff.1 h
    have h1' : L = 91 := h1
    have h3' : Bo = some b := h3
    have h5' : Ov = some b' := h5
    subst h1' h3' h5'
    rw [Pt.wf] at hw
    rw [Pt.text] at hl ⊢
    have hsl : s.text.length ≤ 100000 := by simp at hl; omega
    have hgl : g.text.length ≤ 100000 := by simp at hl; omega
    exact text_under w b b' g.text s.text hgl hsl (textAt_of (Tm.text_all g) hw.2 hgl h4 ht) (textAt_of (Tm.text_all s) hw.1 hsl h6 ht)
  | .name c t => by
    intro hw hl Ok x w h ht
    obtain ⟨L, N, K, Tp, Bt, pa, pn, pc, Bo, Ov⟩ := x
    obtain ⟨h1, h2, _⟩ := PtIs.name_iff.1 h
    have h1' : L = 65 := h1
    have h2' : N = c := h2
    subst h1' h2'
    rw [Pt.wf] at hw
    rw [Pt.text]
    exact text_name (c := N) (by omega) w
theorem Tm.text_all : ∀ t : Tm, ∀ p ∈ t.parts, PtText p
  | .nil => fun p h => by rw [Tm.parts] at h; cases h
  | .cons q t => fun p h => by
    rw [Tm.parts] at h
    rcases List.mem_cons.1 h with e | h
    · rw [e]; exact Pt.text_call q
    · exact Tm.text_all t p h
end
/-- A term in memory, written. -/
theorem tText_any {t : Tm} (hw : t.wf) (hl : t.text.length ≤ 100000) {Ok : Nat → Prop} {b : Nat} {w : World} (h : TmIs Ok w b t) (ht : Tab w) : Calls Tryz.prog 66 #[.pointer (some ⟨b, 0, none⟩)] w fun e w' => e = .returned (.string ⟨t.text.toArray⟩) ∧ Below w.heap.size w w' := textAt_of (Tm.text_all t) hw hl h ht w (Below.refl _ _)
end Go.Proofs.YtikiaijgcjjloaaGreatDoor

/- Opposites: they may stand in a term, and are not much longer. No program in this text. -/
namespace Go.Proofs.YtikiaijgcjjloaaGreatDoor
namespace T
open Go.Lib M

theorem Tm.snoc_of (ps : List Pt) (q : Pt) : (Tm.of ps).snoc q = Tm.of (ps ++ [q]) := by
  induction ps with
  | nil => rw [Tm.of, Tm.snoc]; rfl
  | cons p ps ih => rw [Tm.of, Tm.snoc, ih]; rfl
theorem Tm.opp_of : ∀ ps : List Pt, (Tm.of ps).opp = Tm.of (ps.reverse.map Pt.opp)
  | [] => by rw [Tm.of, Tm.opp]; rfl
  | p :: ps => by rw [Tm.of, Tm.opp, Tm.opp_of ps, Tm.snoc_of, List.reverse_cons, List.map_append]; rfl
theorem neg_small {c : Rat} (h : small c = true) : small (-c) = true := by
  unfold small at h ⊢
  have := of_decide_eq_true h
  apply decide_eq_true
  rw [Rat.neg_num, Rat.neg_den]
  simpa using this
theorem inv_small {c : Rat} (h : small c = true) (h0 : c ≠ 0) : small c⁻¹ = true := by
  obtain ⟨h1, h2⟩ := inv_pairs c h0
  unfold small at h ⊢
  have := of_decide_eq_true h
  apply decide_eq_true
  have hd := c.den_pos
  split at h1 <;> split at h2 <;> first | omega | (exfalso; omega)
theorem Sp.opp_wf {x y : Sp} (h : x.opp = some y) (hw : x.wf) : y.wf := by
  cases x with
  | plus c => cases h; exact neg_small hw
  | times c =>
    rw [show (Sp.times c).opp = (if c = 0 then none else some (.times c⁻¹)) from rfl] at h
    by_cases h0 : c = 0
    · rw [if_pos h0] at h; cases h
    · rw [if_neg h0] at h; cases h; exact inv_small hw h0
  | shift k => cases h; exact ⟨by have := hw.2; omega, by have := hw.1; omega⟩
  | set c => cases h
  | take k => cases h
  | drop k => cases h
  | pick ps => cases h
  | a => cases h
  | _ => cases h; exact (trivial : True)
theorem snoc_wf : ∀ (t : Tm) (q : Pt), t.wf → q.wf → (t.snoc q).wf
  | .nil, q, _, hq => by rw [Tm.snoc, Tm.wf, Tm.wf]; exact ⟨hq, trivial⟩
  | .cons p t, q, h, hq => by
    rw [Tm.wf] at h
    rw [Tm.snoc, Tm.wf]
    exact ⟨h.1, snoc_wf t q h.2 hq⟩
mutual
theorem Pt.opp_wf : ∀ p : Pt, p.wf → p.back = true → p.opp.wf
  | .sp x, hw, hb => by
    rw [Pt.wf] at hw
    rw [Pt.back] at hb
    rw [Pt.opp, Pt.wf]
    cases h : x.opp with
    | none => rw [h] at hb; cases hb
    | some y => exact Sp.opp_wf h hw
  | .pow f k, hw, _ => by
    rw [Pt.wf] at hw
    rw [Pt.opp, Pt.wf]
    exact ⟨hw.1, by omega, by omega⟩
  | .under s g, hw, hb => by
    rw [Pt.wf] at hw
    rw [Pt.back, Bool.and_eq_true] at hb
    rw [Pt.opp, Pt.wf]
    exact ⟨hw.1, Tm.opp_wf g hw.2 hb.1⟩
  | .name c b, hw, _ => by
    rw [Pt.opp, Pt.wf, Tm.wf, Tm.wf]
    exact ⟨⟨hw, trivial⟩, by omega, by omega⟩
theorem Tm.opp_wf : ∀ t : Tm, t.wf → t.back = true → t.opp.wf
  | .nil, _, _ => by rw [Tm.opp]; exact (trivial : True)
  | .cons p t, hw, hb => by
    rw [Tm.wf] at hw
    rw [Tm.back, Bool.and_eq_true] at hb
    rw [Tm.opp]
    exact snoc_wf _ _ (Tm.opp_wf t hw.2 hb.2) (Pt.opp_wf p hw.1 hb.1)
end
theorem snoc_text : ∀ (t : Tm) (q : Pt), (t.snoc q).text = t.text ++ q.text
  | .nil, q => by rw [Tm.snoc, Tm.text, Tm.text, Tm.text]; simp
  | .cons p t, q => by rw [Tm.snoc, Tm.text, Tm.text, snoc_text t q, List.append_assoc]
theorem rat_len {c : Rat} (h : small c = true) : (ratText c).length ≤ 22 := by
  unfold small at h
  have h' := of_decide_eq_true h
  unfold ratText numText
  have e1 : (itoa c.num).length ≤ 11 := by
    by_cases hn : c.num < 0
    · rw [itoa_neg _ hn]; have := dec_len_ten c.num.natAbs (by omega); simp; omega
    · rw [itoa_pos _ hn]; have := dec_len_ten c.num.natAbs (by omega); omega
  have e2 := dec_len_ten c.den (by omega)
  split <;> simp <;> omega
theorem itoa_len3 {k : Int} (h1 : -999 ≤ k) (h2 : k ≤ 999) : (itoa k).length ≤ 4 := by
  by_cases hn : k < 0
  · rw [itoa_neg _ hn]; have := dec_len_le 3 k.natAbs (by decide) (by omega); simp; omega
  · rw [itoa_pos _ hn]; have := dec_len_le 3 k.natAbs (by decide) (by omega); omega
theorem Sp.text_len {x : Sp} (h : x.wf) (hp : x.opp.isSome = true) : x.text.length ≤ 23 := by
  cases x with
  | plus c => have := rat_len h; simp [Sp.text]; omega
  | times c => have := rat_len h; simp [Sp.text]; omega
  | set c => have := rat_len h; simp [Sp.text]; omega
  | shift k => have := itoa_len3 (k := k) (by have := h.1; omega) (by have := h.2; omega); simp [Sp.text]; omega
  | take k => cases hp
  | drop k => cases hp
  | pick ps => cases hp
  | _ => simp [Sp.text]
theorem Sp.opp_some {x y : Sp} (h : x.opp = some y) : y.opp.isSome = true := by
  cases x with
  | times c =>
    rw [show (Sp.times c).opp = (if c = 0 then none else some (.times c⁻¹)) from rfl] at h
    by_cases h0 : c = 0
    · rw [if_pos h0] at h; cases h
    · rw [if_neg h0] at h; cases h
      have : c⁻¹ ≠ 0 := fun e => by
        have h1 := (inv_pairs c h0).1
        rw [e] at h1
        have hd := c.den_pos
        split at h1
        · have : (0 : Int) = -(c.den : Int) := h1
          omega
        · have : (0 : Int) = (c.den : Int) := h1
          omega
      simp [Sp.opp, this]
  | set c => cases h
  | take k => cases h
  | drop k => cases h
  | pick ps => cases h
  | a => cases h
  | _ => cases h; rfl
mutual
theorem Pt.opp_len : ∀ p : Pt, p.wf → p.back = true → p.opp.text.length ≤ 24 * p.text.length
  | .sp x, hw, hb => by
    have h1 : 1 ≤ (Pt.sp x).text.length := by
      obtain ⟨l, e⟩ := Pt.text_first (.sp x)
      rw [e]; simp
    rw [Pt.wf] at hw
    rw [Pt.back] at hb
    rw [Pt.opp]
    cases h : x.opp with
    | none => rw [h] at hb; cases hb
    | some y =>
      have h2 := Sp.text_len (Sp.opp_wf h hw) (Sp.opp_some h)
      have h3 : (Pt.sp ((some y).getD x)).text = y.text := rfl
      rw [h3]
      omega
  | .pow f k, hw, _ => by
    rw [Pt.wf] at hw
    have h1 := itoa_len3 (k := -k) (by omega) (by omega)
    rw [Pt.opp, Pt.text, Pt.text]
    simp
    omega
  | .under s g, hw, hb => by
    rw [Pt.wf] at hw
    rw [Pt.back, Bool.and_eq_true] at hb
    have ih := Tm.opp_len g hw.2 hb.1
    rw [Pt.opp, Pt.text, Pt.text]
    simp
    omega
  | .name c b, _, _ => by
    have h1 := itoa_len3 (k := -1) (by omega) (by omega)
    rw [Pt.opp, Pt.text, Tm.text, Tm.text, Pt.text]
    simp
    omega
theorem Tm.opp_len : ∀ t : Tm, t.wf → t.back = true → t.opp.text.length ≤ 24 * t.text.length
  | .nil, _, _ => by rw [Tm.opp, Tm.text]; simp
  | .cons p t, hw, hb => by
    rw [Tm.wf] at hw
    rw [Tm.back, Bool.and_eq_true] at hb
    have h1 := Pt.opp_len p hw.1 hb.1
    have h2 := Tm.opp_len t hw.2 hb.2
    rw [Tm.opp, snoc_text, Tm.text]
    simp
    omega
end
end T
end Go.Proofs.YtikiaijgcjjloaaGreatDoor

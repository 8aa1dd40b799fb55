import Derived.Test.YtikiaijgcjjloaaGreatDoorPart27
import Derived.Test.YtikiaijgcjjloaaGreatDoorPart10
import Derived.Test.YtikiaijgcjjloaaGreatDoorPart25

/- The walks: the document's opposites: products. -/
namespace Go.Proofs.YtikiaijgcjjloaaGreatDoor
open Go Go.RowKit M T Go.Lib

/-- Blocks of Against behind its products. -/
structure TB4 (w : World) (c2 : Array Value) (k : Nat) (c3 : Array Value) (wx : World) : Prop where
  bel : Below w.heap.size w wx
  b1 : wx.heap[w.heap.size + 1]? = some (.cells rz 131 (0, 0))
  b2 : wx.heap[w.heap.size + 2]? = some (.cells c2 131 (0, 0))
  b3 : wx.heap[k]? = some (.cells c3 129 (0, 0))
  lt : w.heap.size + 2 < k
theorem TB4.of {w w0 w1 : World} {c0 c2 : Array Value} (h : TB3 w c0 c2 w0) (hb : Below w0.heap.size w0 w1) (c3 : Array Value) : TB4 w c2 w1.heap.size c3 (w1.alloc (.cells c3 129)) := by
  have l2 := lt_of_block h.b2
  have l1 := lt_of_block h.b1
  have l3 := hb.size
  refine ⟨(h.bel.trans (hb.mono h.bel.size)).alloc (Nat.le_trans h.bel.size hb.size) _, ?_, ?_, heap_alloc_new _ _, by omega⟩
  · rw [Below.heap_alloc _ _ _ (by omega), hb.block _ l1]; exact h.b1
  · rw [Below.heap_alloc _ _ _ (by omega), hb.block _ l2]; exact h.b2

set_option maxRecDepth 100000 in
set_option maxHeartbeats 1600000 in
theorem against_times (P Q K : Int) (pa : Option Addr) (pn pc : Nat) (F G : ByteArray) (w : World) (h1 : -1000000000 ≤ P) (h2 : P ≤ 1000000000) (h3 : 1 ≤ Q) (h4 : Q ≤ 1000000000) (h0 : P ≠ 0) :
    Calls Tryz.prog 143 #[RC.value ⟨42, P, Q, K, pa, pn, pc, F, G⟩] w fun e w' => ∃ (r : UInt8) (K' : Int), e = .returned (RC.value ⟨r, overP P Q, overQ P Q, K', none, 0, 0, ⟨#[]⟩, ⟨#[]⟩⟩) ∧ K' = IntKind.i64.wrap (-K) ∧ TurnIs tFrom tTo 42 r ∧ Below w.heap.size w w' := by
  rw [show RC.value ⟨42, P, Q, K, pa, pn, pc, F, G⟩ = .agg #[.int .u8 42, .int .i64 P, .int .i64 Q, .int .i64 K, .slice pa pn pc, .string F, .string G] from rfl]
  have H0 := hide h0
  clear h0
  go_enter Tryz.func143, Tryz.ntmps143
  go_upto_region 1 with fail
  go_cut [3] (fun v3 wx => ∃ (r : UInt8) (K' : Int), v3 = .pointer (some ⟨w.heap.size + 2, 0, none⟩) ∧ K' = IntKind.i64.wrap (-K) ∧ TurnIs tFrom tTo 42 r ∧ TB3 w #[.int .u8 42, .int .i64 P, .int .i64 Q, .int .i64 K, .slice pa pn pc, .string F, .string G] #[.int .u8 (r.toNat : Int), .int .i64 P, .int .i64 Q, .int .i64 K', .slice none 0 0, .string ⟨#[]⟩, .string ⟨#[]⟩] wx)
  case first =>
    go_region_held3 (fun w' => w'.cell? ⟨w.heap.size, 0, none⟩ = some (.int .u8 42) ∧ w'.cell? ⟨w.heap.size, 1, none⟩ = some (.int .i64 P) ∧ w'.cell? ⟨w.heap.size, 2, none⟩ = some (.int .i64 Q) ∧ w'.cell? ⟨w.heap.size, 3, none⟩ = some (.int .i64 K)) (go_keep)
      (first | (go_at_call 171; refine (turned_any 42 _).mono ?_; rintro e w' ⟨r, rfl, hr, rfl⟩))
    all_goals go_wp2_with fail
    all_goals go_meet
    all_goals exact ⟨r, _, rfl, rfl, hr, tb3_new w _ _⟩
  case rest =>
    obtain ⟨r, K', rfl, hk, hr, h3'⟩ := hcut
    have HK := hide hk
    clear hk
    have HR := hide hr
    have H3 := hide h3'
    have hb0 := h3'.b0
    clear hr h3'
    have c0 : wc.cell? ⟨w.heap.size, 0, none⟩ = some (.int .u8 42) := blk_cell hb0 0
    have c0p : wc.cell? ⟨w.heap.size, 1, none⟩ = some (.int .i64 P) := blk_cell hb0 1
    have c0q : wc.cell? ⟨w.heap.size, 2, none⟩ = some (.int .i64 Q) := blk_cell hb0 2
    clear hb0
    go_upto_region 5 with fail
    go_cut [4] (fun v4 wx => ∃ k, v4 = .pointer (some ⟨k, 0, none⟩) ∧ TB4 w #[.int .u8 (r.toNat : Int), .int .i64 P, .int .i64 Q, .int .i64 K', .slice none 0 0, .string ⟨#[]⟩, .string ⟨#[]⟩] k #[.int .i64 (overP P Q), .int .i64 (overQ P Q)] wx)
    case first =>
      go_wp2_with fail
      refine (rInv_any P Q _ h1 h2 h3 h4).mono ?_
      rintro e w1 ⟨⟨hz, _⟩ | ⟨_, rfl⟩, hbl⟩
      · exact absurd hz (unhide H0)
      have HT := hide (TB4.of (unhide H3) hbl #[.int .i64 (overP P Q), .int .i64 (overQ P Q)])
      clear hbl c0 c0p c0q
      go_wp2_with fail
      go_meet
      exact ⟨_, rfl, unhide HT⟩
    case rest =>
      obtain ⟨k, rfl, h4'⟩ := hcut
      have H4 := hide h4'
      have d1 : ∀ i, wc.cell? ⟨w.heap.size + 1, i, none⟩ = (#[.int .u8 0, .int .i64 0, .int .i64 0, .int .i64 0, .slice none 0 0, .string ⟨#[]⟩, .string ⟨#[]⟩] : Array Value)[i]? := fun i => blk_cell h4'.b1 i
      have e1 : ∀ i, wc.frozen? ⟨w.heap.size + 1, i, none⟩ = false := fun i => blk_free h4'.b1 i
      have d2 : ∀ i, wc.cell? ⟨w.heap.size + 2, i, none⟩ = (#[.int .u8 (r.toNat : Int), .int .i64 P, .int .i64 Q, .int .i64 K', .slice none 0 0, .string ⟨#[]⟩, .string ⟨#[]⟩] : Array Value)[i]? := fun i => blk_cell h4'.b2 i
      have e2 : ∀ i, wc.frozen? ⟨w.heap.size + 2, i, none⟩ = false := fun i => blk_free h4'.b2 i
      have d3 : ∀ i, wc.cell? ⟨k, i, none⟩ = (#[.int .i64 (overP P Q), .int .i64 (overQ P Q)] : Array Value)[i]? := fun i => blk_cell h4'.b3 i
      have HB := hide h4'.bel
      clear h4' H4 c0 c0p c0q H3
      go_wp2_with fail
      exact bodyPost_ret (v := RC.value ⟨r, overP P Q, overQ P Q, K', none, 0, 0, ⟨#[]⟩, ⟨#[]⟩⟩) (by simp [results, Tryz.results143, go_sem, d1, RC.value, RC.cells]) rfl ⟨r, K', rfl, unhide HK, unhide HR, st7_below (Below.setCell (p := ⟨w.heap.size + 2, 2, none⟩) (Below.setCell (p := ⟨w.heap.size + 2, 1, none⟩) (unhide HB) (Nat.le_add_right _ 2) _) (Nat.le_add_right _ 2) _) (Nat.le_succ _) _ _ _ _ _ _ _⟩
end Go.Proofs.YtikiaijgcjjloaaGreatDoor

/- The walks: the document's opposites: parts, written. -/
namespace Go.Proofs.YtikiaijgcjjloaaGreatDoor
open Go Go.RowKit M T Go.Lib

theorem str_of {s : ByteArray} {l : List UInt8} (h : s.data.toList = l) : s = ⟨l.toArray⟩ := by
  apply ByteArray.ext
  rw [← h]

theorem byte_conv (c : UInt8) (b : Nat) (w : World) (h : w.heap[b]? = some (.cells #[.int .u8 (c.toNat : Int)] 5 (0, 0))) : (convert 33 9 (.slice (some ⟨b, 0, none⟩) 1 1)).run Tryz.prog w = .ok (.string ⟨#[c]⟩) w := by
  have h := run_convert_bytes_back (P := Tryz.prog) w 33 9 5 ⟨b, 0, none⟩ 1 [c] Tryz.underlying33 Tryz.underlying5 Tryz.underlying9 (fun j hj => by
    have hj0 : j = 0 := by simpa using hj
    subst hj0
    exact blk_cell h 0)
  exact h

set_option maxRecDepth 100000 in
set_option maxHeartbeats 800000 in
theorem wr_pow (f : Tm) (P Q K : Int) (pa : Option Addr) (pn pc : Nat) (F G : ByteArray) (w : World) (hF : F.data.toList = f.text) (hs : F.size ≤ 1000) (h1 : -999 ≤ K) (h2 : K ≤ 999) :
    Calls Tryz.prog 104 #[RC.value ⟨40, P, Q, K, pa, pn, pc, F, G⟩] w fun e w' => e = .returned (.string ⟨(Pt.pow f (-K)).text.toArray⟩) ∧ Below w.heap.size w w' := by
  rw [show RC.value ⟨40, P, Q, K, pa, pn, pc, F, G⟩ = .agg #[.int .u8 40, .int .i64 P, .int .i64 Q, .int .i64 K, .slice pa pn pc, .string F, .string G] from rfl]
  have HF := hide hF
  have hl : (numText (-K) 1).length ≤ 4 := by
    rw [numText, if_pos (by decide), List.append_nil]
    exact itoa_len3 (by omega) (by omega)
  clear hF
  go_enter Tryz.func104, Tryz.ntmps104
  go_wp2_with fail
  refine (rText_any (-K) 1 _ (by omega) (by omega) (by omega) (by omega)).mono ?_
  rintro e w1 ⟨rfl, hb1⟩
  have c5 : w1.cell? ⟨w.heap.size, 5, none⟩ = some (.string F) := (hb1.cell (p := ⟨w.heap.size, 5, none⟩) (by simp)).trans (by simp [go_sem])
  have HB := hide hb1
  clear hb1
  go_wp2_with fail
  go_ret
  refine ⟨ret_str ?_, ((Below.refl _ _).alloc (Nat.le_refl _) _).trans ((unhide HB).mono (by simp))⟩
  rw [str_of (unhide HF), Pt.text, numText]
  apply ByteArray.ext
  simp

/-- What backwards answers. -/
def BkS (m : Nat) : Prop := ∀ (s : ByteArray) (t : Tm) (env : Env) (w : World), env.wf → s.size ≤ m → s.size ≤ 1000 → IsTerm env s.data.toList t → t.back = true →
    Calls Tryz.prog 67 #[.string s] w fun e w' => e = .returned (.string ⟨t.opp.text.toArray⟩) ∧ Below w.heap.size w w'

set_option maxRecDepth 100000 in
set_option maxHeartbeats 800000 in
theorem wr_under {m : Nat} (hB : BkS m) (s g : Tm) (env : Env) (he : env.wf) (P Q K : Int) (pa : Option Addr) (pn pc : Nat) (F G : ByteArray) (w : World) (hF : F.data.toList = s.text) (hG : IsTerm env G.data.toList g) (hb : g.back = true) (hs : F.size ≤ 1000) (hm : G.size ≤ m) (hs' : G.size ≤ 1000) :
    Calls Tryz.prog 104 #[RC.value ⟨91, P, Q, K, pa, pn, pc, F, G⟩] w fun e w' => e = .returned (.string ⟨(Pt.under s g.opp).text.toArray⟩) ∧ Below w.heap.size w w' := by
  rw [show RC.value ⟨91, P, Q, K, pa, pn, pc, F, G⟩ = .agg #[.int .u8 91, .int .i64 P, .int .i64 Q, .int .i64 K, .slice pa pn pc, .string F, .string G] from rfl]
  have HF := hide hF
  have HG := hide hG
  have HB := hide hB
  have HE := hide he
  have HBk := hide hb
  have hl : g.opp.text.length ≤ 24000 := by
    have := Tm.opp_len g hG.wf hb
    rw [hG.text] at this
    simp at this
    omega
  clear hF hG hB he hb
  go_enter Tryz.func104, Tryz.ntmps104
  go_wp2_with fail
  refine (unhide HB G g env _ (unhide HE) hm hs' (unhide HG) (unhide HBk)).mono ?_
  rintro e w1 ⟨rfl, hb1⟩
  have c5 : w1.cell? ⟨w.heap.size, 5, none⟩ = some (.string F) := (hb1.cell (p := ⟨w.heap.size, 5, none⟩) (by simp)).trans (by simp [go_sem])
  have HBl := hide hb1
  clear hb1
  go_wp2_with fail
  go_ret
  refine ⟨ret_str ?_, ((Below.refl _ _).alloc (Nat.le_refl _) _).trans ((unhide HBl).mono (by simp))⟩
  rw [str_of (unhide HF), Pt.text]
  apply ByteArray.ext
  simp

set_option maxRecDepth 100000 in
set_option maxHeartbeats 800000 in
theorem wr_name (c : UInt8) (P Q K : Int) (pa : Option Addr) (pn pc : Nat) (F G : ByteArray) (w : World) (h1 : 65 ≤ c.toNat) (h2 : c.toNat ≤ 90) :
    Calls Tryz.prog 104 #[RC.value ⟨c, P, Q, K, pa, pn, pc, F, G⟩] w fun e w' => e = .returned (.string ⟨#[40, c, 41, 94, 45, 49]⟩) ∧ Below w.heap.size w w' := by
  rw [show RC.value ⟨c, P, Q, K, pa, pn, pc, F, G⟩ = .agg #[.int .u8 (c.toNat : Int), .int .i64 P, .int .i64 Q, .int .i64 K, .slice pa pn pc, .string F, .string G] from rfl]
  have q1 : ((c.toNat : Int) == 40) = false := by rw [beq_eq_false_iff_ne]; omega
  have q2 : ((c.toNat : Int) == 91) = false := by rw [beq_eq_false_iff_ne]; omega
  have q3 : (65 : Int) ≤ (c.toNat : Int) := by omega
  have q4 : (c.toNat : Int) ≤ 90 := by omega
  have hc := byte_conv c (w.heap.size + 1) ((w.alloc (.cells #[.int .u8 (c.toNat : Int), .int .i64 P, .int .i64 Q, .int .i64 K, .slice pa pn pc, .string F, .string G] 131)).alloc (.cells #[.int .u8 (c.toNat : Int)] 5)) (new_at2 w _ _)
  go_enter Tryz.func104, Tryz.ntmps104
  go_wp2_with fail
  go_ret
  exact ⟨ret_str (by apply ByteArray.ext; simp), ((Below.refl _ _).alloc (Nat.le_refl _) _).alloc (by simp) _⟩

/-- Against, of a simple part that has an opposite. -/
theorem against_sp {y y2 : Sp} (h : y.opp = some y2) (hw : y.wf) {x : RC} {w : World} (hx : RPt w x (.sp y)) :
    Calls Tryz.prog 143 #[RC.value x] w fun e w' => ∃ x' : RC, e = .returned (RC.value x') ∧ x'.Kd = y2.first ∧ (y2.first = 43 ∨ y2.first = 42 → 1 ≤ x'.Q ∧ numText x'.P x'.Q = y2.text.drop 1 ∧ -1000000000 ≤ x'.P ∧ x'.P ≤ 1000000000 ∧ x'.Q ≤ 1000000000) ∧ (y2.first = 60 → itoa x'.K = y2.text.drop 1 ∧ -99 ≤ x'.K ∧ x'.K ≤ 99) ∧ Below w.heap.size w w' := by
  obtain ⟨Kd, P, Q, K, pa, pn, pc, F, G⟩ := x
  obtain ⟨hk, hx⟩ := hx
  have hk' : Kd = y.first := hk
  subst hk'
  have other : y.first ≠ 43 → y.first ≠ 42 → (y2.first = 60 → ∃ k, y = .shift k) → (y2.first ≠ 43 ∧ y2.first ≠ 42) → Calls Tryz.prog 143 #[RC.value ⟨y.first, P, Q, K, pa, pn, pc, F, G⟩] w fun e w' => ∃ x' : RC, e = .returned (RC.value x') ∧ x'.Kd = y2.first ∧ (y2.first = 43 ∨ y2.first = 42 → 1 ≤ x'.Q ∧ numText x'.P x'.Q = y2.text.drop 1 ∧ -1000000000 ≤ x'.P ∧ x'.P ≤ 1000000000 ∧ x'.Q ≤ 1000000000) ∧ (y2.first = 60 → itoa x'.K = y2.text.drop 1 ∧ -99 ≤ x'.K ∧ x'.K ≤ 99) ∧ Below w.heap.size w w' := by
    intro n1 n2 n3 n4
    refine (against_other y.first P Q K pa pn pc F G w n1 n2).mono ?_
    rintro e w' ⟨r, K', rfl, hK, hr, hb⟩
    refine ⟨_, rfl, turn_opp h hr, fun e => by rcases e with e | e; exact absurd e n4.1; exact absurd e n4.2, fun e => ?_, hb⟩
    obtain ⟨k, rfl⟩ := n3 e
    cases h
    have hK2 : K = k := hx
    subst hK2
    have h1 := hw.1
    have h2 := hw.2
    have e2 : K' = -K := by
      rw [hK, IntKind.wrap_i64]; omega
    subst e2
    exact ⟨rfl, by show -99 ≤ -K; omega, by show -K ≤ 99; omega⟩
  cases y with
  | plus c =>
    cases h
    have h1 := of_decide_eq_true hw
    obtain ⟨e1, e2⟩ := hx
    have e1 : P = c.num := e1
    have e2 : Q = (c.den : Int) := e2
    have hd := c.den_pos
    refine (against_plus P Q K pa pn pc F G w (by omega) (by omega)).mono ?_
    rintro e w' ⟨r, K', rfl, _, hr, hb⟩
    refine ⟨_, rfl, turn_opp (y := .plus c) (y2 := .plus (-c)) rfl hr, fun _ => ⟨by show 1 ≤ Q; omega, ?_, by show _ ≤ -P; omega, by show -P ≤ _; omega, by show Q ≤ _; omega⟩, fun e => absurd e (show ¬ (43 : UInt8) = 60 by decide), hb⟩
    show numText (-P) Q = ratText (-c)
    rw [ratText, Rat.neg_num, Rat.neg_den, e1, e2]
  | times c =>
    rw [show (Sp.times c).opp = (if c = 0 then none else some (.times c⁻¹)) from rfl] at h
    by_cases h0 : c = 0
    · rw [if_pos h0] at h; cases h
    · rw [if_neg h0] at h
      cases h
      have h1 := of_decide_eq_true hw
      obtain ⟨e1, e2⟩ := hx
      have e1 : P = c.num := e1
      have e2 : Q = (c.den : Int) := e2
      have hd := c.den_pos
      have hn := num_ne h0
      refine (against_times P Q K pa pn pc F G w (by omega) (by omega) (by omega) (by omega) (by omega)).mono ?_
      rintro e w' ⟨r, K', rfl, _, hr, hb⟩
      obtain ⟨i1, i2⟩ := inv_pairs c h0
      have hp : overP P Q = c⁻¹.num := by rw [i1, e1, e2]; rfl
      have hq : overQ P Q = (c⁻¹.den : Int) := by rw [i2, e1]; rfl
      have hsm := of_decide_eq_true (inv_small hw h0)
      have hd' := c⁻¹.den_pos
      refine ⟨_, rfl, turn_opp (y := .times c) (y2 := .times c⁻¹) (if_neg h0) hr, fun _ => ⟨by show 1 ≤ overQ P Q; omega, ?_, by show _ ≤ overP P Q; omega, by show overP P Q ≤ _; omega, by show overQ P Q ≤ _; omega⟩, fun e => absurd e (show ¬ (42 : UInt8) = 60 by decide), hb⟩
      show numText (overP P Q) (overQ P Q) = ratText c⁻¹
      rw [ratText, hp, hq]
  | shift k => cases h; exact other (show (60 : UInt8) ≠ 43 by decide) (show (60 : UInt8) ≠ 42 by decide) (fun _ => ⟨k, rfl⟩) ⟨show (60 : UInt8) ≠ 43 by decide, show (60 : UInt8) ≠ 42 by decide⟩
  | set c => cases h
  | take k => cases h
  | drop k => cases h
  | pick ps => cases h
  | a => cases h
  | _ => cases h; exact other (by decide) (by decide) (fun e => absurd e (by decide)) ⟨by decide, by decide⟩
end Go.Proofs.YtikiaijgcjjloaaGreatDoor

/- The walks: the document's sessions: what is known of a power, of a name. -/
namespace Go.Proofs.YtikiaijgcjjloaaGreatDoor
open Go Go.RowKit M T Go.Lib

theorem box7 {w w1 : World} {c : Array Value} {e : TypeId} (hb : Below (w.alloc (.cells c e)).heap.size (w.alloc (.cells c e)) w1) : (∀ i, w1.cell? ⟨w.heap.size, i, none⟩ = c[i]?) ∧ Below w.heap.size w w1 := by
  refine ⟨fun i => ?_, ((Below.refl _ _).alloc (Nat.le_refl _) _).trans (hb.mono (by simp))⟩
  exact blk_cell (by rw [hb.block _ (by simp)]; exact heap_alloc_new w _) i

theorem fb0 : fbits false false false = 0 := rfl
theorem fb1 : fbits true false false = 1 := rfl
theorem fb2 : fbits false true false = 2 := rfl
theorem fb3 : fbits true true false = 3 := rfl
theorem fb4 : fbits false false true = 4 := rfl
theorem fb5 : fbits true false true = 5 := rfl
theorem fb6 : fbits false true true = 6 := rfl
theorem fb7 : fbits true true true = 7 := rfl

set_option maxRecDepth 100000 in
set_option maxHeartbeats 6400000 in
theorem of_pow {m : Nat} (hF : FS m) {f : Tm} {k : Int} (x : RC) {ds : List D} {rb : Nat} {v : Value} (n : Nat) (w : World) (hx : RPt w x (.pow f k)) (h : RSes w rb v ds) (hn : n ≤ ds.length) (hl : ds.length ≤ maxLen) (ht : IsTerm (envOf (ds.take n)) f.text f) (hm : f.text.length ≤ m) (hs : f.text.length ≤ 1000) :
    Calls Tryz.prog 101 #[.pointer (some ⟨rb, 0, none⟩), RC.value x, .int .i64 (n : Int)] w fun e w' => OfGot (.pow f k) w e w' := by
  obtain ⟨Kd, P, Q, K, pa, pn, pc, F, G⟩ := x
  rw [show RC.value ⟨Kd, P, Q, K, pa, pn, pc, F, G⟩ = .agg #[.int .u8 (Kd.toNat : Int), .int .i64 P, .int .i64 Q, .int .i64 K, .slice pa pn pc, .string F, .string G] from rfl]
  have hk : Kd = 40 := hx.1
  have hf : F.data.toList = f.text := hx.2.1
  have hK : K = k := hx.2.2
  have hfz : F.size = f.text.length := by rw [← hf]; simp
  have HF := hide hF
  have H := hide h
  have HT := hide ht
  subst hk hK
  rw [← hf] at HT
  have HN := hide (show ptNum (.pow f K) = fbits (K == 0 || (f.back && (decide (0 < K) || f.plain))) f.picker f.plain by rw [ptNum, Pt.back, Pt.picker, Pt.plain])
  clear hx hF h ht hf
  go_enter Tryz.func101, Tryz.ntmps101
  go_wp2_with fail
  refine (among_any 40 lA _ (by decide)).mono ?_
  rintro e w' ⟨rfl, rfl⟩
  rw [show decide ((40 : UInt8) ∈ lA.data.toList) = false from by decide]
  go_wp2_with fail
  refine (among_any 40 lP _ (by decide)).mono ?_
  rintro e w' ⟨rfl, rfl⟩
  rw [show decide ((40 : UInt8) ∈ lP.data.toList) = false from by decide]
  go_wp2_with fail
  refine (among_any 40 lQ _ (by decide)).mono ?_
  rintro e w' ⟨rfl, rfl⟩
  rw [show decide ((40 : UInt8) ∈ lQ.data.toList) = false from by decide]
  go_wp2_with fail
  refine (unhide HF F f ds rb v n _ (by omega) (by omega) ((unhide H).below ((Below.refl _ _).alloc (Nat.le_refl _) _)) hn hl (unhide HT)).mono ?_
  rintro e w1 ⟨rfl, hb1⟩
  obtain ⟨hc1, hbel⟩ := box7 hb1
  have HB := hide hbel
  rw [factsNum_fbits]
  clear hb1 hbel HF H HT
  generalize f.back = f1 at HN ⊢
  generalize f.picker = f2 at HN ⊢
  generalize f.plain = f3 at HN ⊢
  rcases Int.lt_trichotomy K 0 with h0 | h0 | h0
  · have g1 : (K == 0) = false := by rw [beq_eq_false_iff_ne]; omega
    have g2 : ¬ 0 < K := by omega
    rw [g1, decide_eq_false g2] at HN
    cases f1 <;> cases f2 <;> cases f3 <;> simp only [fb0, fb1, fb2, fb3, fb4, fb5, fb6, fb7] <;> (go_wp2_with fail; go_ret; exact ⟨by rw [unhide HN]; rfl, unhide HB⟩)
  · subst h0
    cases f1 <;> cases f2 <;> cases f3 <;> simp only [fb0, fb1, fb2, fb3, fb4, fb5, fb6, fb7] <;> (go_wp2_with fail; go_ret; exact ⟨by rw [unhide HN]; rfl, unhide HB⟩)
  · have g1 : (K == 0) = false := by rw [beq_eq_false_iff_ne]; omega
    rw [g1, decide_eq_true h0] at HN
    cases f1 <;> cases f2 <;> cases f3 <;> simp only [fb0, fb1, fb2, fb3, fb4, fb5, fb6, fb7] <;> (go_wp2_with fail; go_ret; exact ⟨by rw [unhide HN]; rfl, unhide HB⟩)
end Go.Proofs.YtikiaijgcjjloaaGreatDoor

/- The walks: the document's sessions: what is known of an under. -/
namespace Go.Proofs.YtikiaijgcjjloaaGreatDoor
open Go Go.RowKit M T Go.Lib

set_option maxRecDepth 100000 in
set_option maxHeartbeats 6400000 in
theorem of_under {m : Nat} (hF : FS m) {f g : Tm} (x : RC) {ds : List D} {rb : Nat} {v : Value} (n : Nat) (w : World) (hx : RPt w x (.under f g)) (h : RSes w rb v ds) (hn : n ≤ ds.length) (hl : ds.length ≤ maxLen) (ht : IsTerm (envOf (ds.take n)) f.text f) (hm : f.text.length ≤ m) (hs : f.text.length ≤ 1000) (ht2 : IsTerm (envOf (ds.take n)) g.text g) (hm2 : g.text.length ≤ m) (hs2 : g.text.length ≤ 1000) :
    Calls Tryz.prog 101 #[.pointer (some ⟨rb, 0, none⟩), RC.value x, .int .i64 (n : Int)] w fun e w' => OfGot (.under f g) w e w' := by
  obtain ⟨Kd, P, Q, K, pa, pn, pc, F, G⟩ := x
  rw [show RC.value ⟨Kd, P, Q, K, pa, pn, pc, F, G⟩ = .agg #[.int .u8 (Kd.toNat : Int), .int .i64 P, .int .i64 Q, .int .i64 K, .slice pa pn pc, .string F, .string G] from rfl]
  have hk : Kd = 91 := hx.1
  have hf : F.data.toList = f.text := hx.2.1
  have hg : G.data.toList = g.text := hx.2.2
  have hgz : G.size = g.text.length := by rw [← hg]; simp
  have HT2 := hide ht2
  have hfz : F.size = f.text.length := by rw [← hf]; simp
  have HF := hide hF
  have H := hide h
  have HT := hide ht
  subst hk
  rw [← hf] at HT
  rw [← hg] at HT2
  have HN := hide (show ptNum (.under f g) = fbits (g.back && (f.picker || (f.back && f.plain))) false (f.plain && g.plain) by rw [ptNum, Pt.back, Pt.picker, Pt.plain])
  clear hx hF h ht ht2 hf hg
  go_enter Tryz.func101, Tryz.ntmps101
  go_wp2_with fail
  refine (among_any 91 lA _ (by decide)).mono ?_
  rintro e w' ⟨rfl, rfl⟩
  rw [show decide ((91 : UInt8) ∈ lA.data.toList) = false from by decide]
  go_wp2_with fail
  refine (among_any 91 lP _ (by decide)).mono ?_
  rintro e w' ⟨rfl, rfl⟩
  rw [show decide ((91 : UInt8) ∈ lP.data.toList) = false from by decide]
  go_wp2_with fail
  refine (among_any 91 lQ _ (by decide)).mono ?_
  rintro e w' ⟨rfl, rfl⟩
  rw [show decide ((91 : UInt8) ∈ lQ.data.toList) = false from by decide]
  go_wp2_with fail
  refine (unhide HF F f ds rb v n _ (by omega) (by omega) ((unhide H).below ((Below.refl _ _).alloc (Nat.le_refl _) _)) hn hl (unhide HT)).mono ?_
  rintro e w1 ⟨rfl, hb1⟩
  obtain ⟨hc1, hbel⟩ := box7 hb1
  have HB := hide hbel
  have H1 := hide ((unhide H).below hbel)
  have hsz : w.heap.size < w1.heap.size := by have := hb1.size; simp at this; omega
  rw [factsNum_fbits]
  clear hb1 hbel HT
  go_wp2_with fail
  refine (unhide HF G g ds rb v n _ (by omega) (by omega) (unhide H1) hn hl (unhide HT2)).mono ?_
  rintro e w2 ⟨rfl, hb2⟩
  have HB2 := hide ((unhide HB).trans (hb2.mono (Nat.le_of_lt hsz)))
  rw [factsNum_fbits]
  clear hb2 HF H H1 HT2 hc1 HB
  generalize f.back = f1 at HN ⊢
  generalize f.picker = f2 at HN ⊢
  generalize f.plain = f3 at HN ⊢
  generalize g.back = g1 at HN ⊢
  generalize g.picker = g2 at HN ⊢
  generalize g.plain = g3 at HN ⊢
  cases g1 <;> cases g2 <;> cases g3 <;> cases f1 <;> cases f2 <;> cases f3 <;> simp only [fb0, fb1, fb2, fb3, fb4, fb5, fb6, fb7] <;> (go_wp2_with fail; go_ret; exact ⟨by rw [unhide HN]; rfl, unhide HB2⟩)
end Go.Proofs.YtikiaijgcjjloaaGreatDoor

/- The walks: the document's sessions: what is known of a name. -/
namespace Go.Proofs.YtikiaijgcjjloaaGreatDoor
open Go Go.RowKit M T Go.Lib

theorem RSes.lt {w : World} {rb g n cap : Nat} {ds : List D} (h : RSes w rb (.slice (some ⟨g, 0, none⟩) n cap) ds) : g < w.heap.size := by
  rcases h.own.2 with ⟨h1, _⟩ | ⟨g', cap', cur, hv, _, hh, _⟩
  · cases h1
  · cases hv; exact lt_of_block hh
set_option maxRecDepth 100000 in
set_option maxHeartbeats 1600000 in
theorem of_name {c : UInt8} {b : Tm} (x : RC) {ds : List D} {rb : Nat} {v : Value} (n : Nat) (w : World) (hx : RPt w x (.name c b)) (h : RSes w rb v ds) (hn : n ≤ ds.length) (hl : ds.length ≤ maxLen) (h65 : 65 ≤ c.toNat) (h90 : c.toNat ≤ 90) (ht : envOf (ds.take n) c = some b) :
    Calls Tryz.prog 101 #[.pointer (some ⟨rb, 0, none⟩), RC.value x, .int .i64 (n : Int)] w fun e w' => OfGot (.name c b) w e w' := by
  obtain ⟨Kd, P, Q, K, pa, pn, pc, F, G⟩ := x
  rw [show RC.value ⟨Kd, P, Q, K, pa, pn, pc, F, G⟩ = .agg #[.int .u8 (Kd.toNat : Int), .int .i64 P, .int .i64 Q, .int .i64 K, .slice pa pn pc, .string F, .string G] from rfl]
  have hk : Kd = c := hx
  subst hk
  obtain ⟨j, hj, hjn, hfi, hjc, hjt⟩ : ∃ j, ∃ (hj : j < ds.length), j < n ∧ findI ds Kd n = (j : Int) ∧ ds[j].c = Kd ∧ ds[j].t = b := by
    rcases findI_spec ds Kd n hn with ⟨j, hj, h1, h2, h3, h4⟩ | ⟨_, h2⟩
    · rw [ht] at h4
      exact ⟨j, hj, h1, h2, h3, (Option.some.inj h4).symm⟩
    · rw [ht] at h2; cases h2
  have HR := hide (h.below ((Below.refl _ _).alloc (Nat.le_refl _) (.cells #[.int .u8 (Kd.toNat : Int), .int .i64 P, .int .i64 Q, .int .i64 K, .slice pa pn pc, .string F, .string G] 131)))
  obtain ⟨ao, cap, rfl, hcs⟩ := h.slice
  obtain ⟨g, rfl, hcell⟩ := hcs (by omega)
  have hb0 : w.cell? ⟨rb, 0, none⟩ = some (.slice (some ⟨g, 0, none⟩) ds.length cap) := blk_cell h.blk 0
  have c2 : w.cell? ⟨g, j * 3 + 2, none⟩ = some (.int .i64 (factsNum ds[j].t)) := hcell j hj 2 (by omega)
  rw [hjt] at c2
  have q42 : ((Kd.toNat : Int) == 42) = false := by rw [beq_eq_false_iff_ne]; omega
  have q40 : ((Kd.toNat : Int) == 40) = false := by rw [beq_eq_false_iff_ne]; omega
  have q91 : ((Kd.toNat : Int) == 91) = false := by rw [beq_eq_false_iff_ne]; omega
  have g1 : (65 : Int) ≤ (Kd.toNat : Int) := by omega
  have g2 : (Kd.toNat : Int) ≤ 90 := by omega
  have hrb : rb < w.heap.size := lt_of_block h.blk
  have hg : g < w.heap.size := h.lt
  have HFI := hide hfi
  clear hx h hcs hcell hjt hjc hfi ht
  go_enter Tryz.func101, Tryz.ntmps101
  go_wp2_with fail
  refine (among_any Kd lA _ (by decide)).mono ?_
  rintro e w' ⟨rfl, rfl⟩
  go_wp2_with fail
  refine (among_any Kd lP _ (by decide)).mono ?_
  rintro e w' ⟨rfl, rfl⟩
  go_wp2_with fail
  refine (among_any Kd lQ _ (by decide)).mono ?_
  rintro e w' ⟨rfl, rfl⟩
  go_wp2_with fail
  go_quiet (first | (go_at_call 100; exact Calls.quiet_of_same (v := .int .i64 (j : Int)) ((find_any Kd n _ ((unhide HR).drewN _) hn hl).mono (fun e w' h => ⟨by rw [h.1, unhide HFI], h.2⟩))))
  go_wp2_with fail
  go_ret
  exact ⟨rfl, below_dr ((Below.refl _ _).alloc (Nat.le_refl _) _) _⟩
end Go.Proofs.YtikiaijgcjjloaaGreatDoor

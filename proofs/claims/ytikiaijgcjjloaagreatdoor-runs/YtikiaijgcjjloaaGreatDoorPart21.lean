import Derived.Test.YtikiaijgcjjloaaGreatDoorPart20
import Derived.Test.YtikiaijgcjjloaaGreatDoorPart7
import Derived.Test.YtikiaijgcjjloaaGreatDoorPart19
import Derived.Test.YtikiaijgcjjloaaGreatDoorPart18

namespace Go.Proofs.YtikiaijgcjjloaaGreatDoor
open Go Go.RowKit M T Go.Lib
structure TB4 (w : World) (c2 : Array Value) (k : Nat) (c3 : Array Value) (wx : World) : Prop where
  bel : Below w.heap.size w wx
  b1 : wx.heap[w.heap.size + 1]? = some (.cells rz 131 (0, 0))
  b2 : wx.heap[w.heap.size + 2]? = some (.cells c2 131 (0, 0))
  b3 : wx.heap[k]? = some (.cells c3 129 (0, 0))
  lt : w.heap.size + 2 < k
theorem TB4.of {w w0 w1 : World} {c0 c2 : Array Value} (h : TB3 w c0 c2 w0) (hb : Below w0.heap.size w0 w1) (c3 : Array Value) : TB4 w c2 w1.heap.size c3 (w1.alloc (.cells c3 129)) := by
  have l2 := lt_of_block h.b2
  have l1 := lt_of_block h.b1
  have l3 := hb.size
  refine ⟨(h.bel.trans (hb.mono h.bel.size)).alloc (Nat.le_trans h.bel.size hb.size) _, ?_, ?_, heap_alloc_new _ _, by omega⟩
  · rw [Below.heap_alloc _ _ _ (by omega), hb.block _ l1]; exact h.b1
  · rw [Below.heap_alloc _ _ _ (by omega), hb.block _ l2]; exact h.b2
set_option maxRecDepth 100000 in
set_option maxHeartbeats 1600000 in
theorem against_times (P Q K : Int) (pa : Option Addr) (pn pc : Nat) (F G : ByteArray) (w : World) (h1 : -1000000000 ≤ P) (h2 : P ≤ 1000000000) (h3 : 1 ≤ Q) (h4 : Q ≤ 1000000000) (h0 : P ≠ 0) :
    Calls Tryz.prog 143 #[RC.value ⟨42, P, Q, K, pa, pn, pc, F, G⟩] w fun e w' => ∃ (r : UInt8) (K' : Int), e = .returned (RC.value ⟨r, overP P Q, overQ P Q, K', none, 0, 0, ⟨#[]⟩, ⟨#[]⟩⟩) ∧ K' = IntKind.i64.wrap (-K) ∧ TurnIs tFrom tTo 42 r ∧ Below w.heap.size w w' := by
  rw [show RC.value ⟨42, P, Q, K, pa, pn, pc, F, G⟩ = .agg #[.int .u8 42, .int .i64 P, .int .i64 Q, .int .i64 K, .slice pa pn pc, .string F, .string G] from rfl]
  have H0 := hide h0
  clear h0
  go_enter Tryz.func143, Tryz.ntmps143
  go_upto_region 1 with fail
  go_cut [3] (fun v3 wx => ∃ (r : UInt8) (K' : Int), v3 = .pointer (some ⟨w.heap.size + 2, 0, none⟩) ∧ K' = IntKind.i64.wrap (-K) ∧ TurnIs tFrom tTo 42 r ∧ TB3 w #[.int .u8 42, .int .i64 P, .int .i64 Q, .int .i64 K, .slice pa pn pc, .string F, .string G] #[.int .u8 (r.toNat : Int), .int .i64 P, .int .i64 Q, .int .i64 K', .slice none 0 0, .string ⟨#[]⟩, .string ⟨#[]⟩] wx)
  case first =>
    go_region_held3 (fun w' => w'.cell? ⟨w.heap.size, 0, none⟩ = some (.int .u8 42) ∧ w'.cell? ⟨w.heap.size, 1, none⟩ = some (.int .i64 P) ∧ w'.cell? ⟨w.heap.size, 2, none⟩ = some (.int .i64 Q) ∧ w'.cell? ⟨w.heap.size, 3, none⟩ = some (.int .i64 K)) (go_keep)
      (first | (go_at_call 171; refine (turned_any 42 _).mono ?_; rintro e w' ⟨r, rfl, hr, rfl⟩))
    all_goals go_wp2_with fail
    all_goals go_meet
    all_goals exact ⟨r, _, rfl, rfl, hr, tb3_new w _ _⟩
  case rest =>
    obtain ⟨r, K', rfl, hk, hr, h3'⟩ := hcut
    have HK := hide hk
    clear hk
    have HR := hide hr
    have H3 := hide h3'
    have hb0 := h3'.b0
    clear hr h3'
    have c0 : wc.cell? ⟨w.heap.size, 0, none⟩ = some (.int .u8 42) := blk_cell hb0 0
    have c0p : wc.cell? ⟨w.heap.size, 1, none⟩ = some (.int .i64 P) := blk_cell hb0 1
    have c0q : wc.cell? ⟨w.heap.size, 2, none⟩ = some (.int .i64 Q) := blk_cell hb0 2
    clear hb0
    go_upto_region 5 with fail
    go_cut [4] (fun v4 wx => ∃ k, v4 = .pointer (some ⟨k, 0, none⟩) ∧ TB4 w #[.int .u8 (r.toNat : Int), .int .i64 P, .int .i64 Q, .int .i64 K', .slice none 0 0, .string ⟨#[]⟩, .string ⟨#[]⟩] k #[.int .i64 (overP P Q), .int .i64 (overQ P Q)] wx)
    case first =>
      go_wp2_with fail
      refine (rInv_any P Q _ h1 h2 h3 h4).mono ?_
      rintro e w1 ⟨⟨hz, _⟩ | ⟨_, rfl⟩, hbl⟩
      · exact absurd hz (unhide H0)
      have HT := hide (TB4.of (unhide H3) hbl #[.int .i64 (overP P Q), .int .i64 (overQ P Q)])
      clear hbl c0 c0p c0q
      go_wp2_with fail
      go_meet
      exact ⟨_, rfl, unhide HT⟩
    case rest =>
      obtain ⟨k, rfl, h4'⟩ := hcut
      have H4 := hide h4'
      have d1 : ∀ i, wc.cell? ⟨w.heap.size + 1, i, none⟩ = (#[.int .u8 0, .int .i64 0, .int .i64 0, .int .i64 0, .slice none 0 0, .string ⟨#[]⟩, .string ⟨#[]⟩] : Array Value)[i]? := fun i => blk_cell h4'.b1 i
      have e1 : ∀ i, wc.frozen? ⟨w.heap.size + 1, i, none⟩ = false := fun i => blk_free h4'.b1 i
      have d2 : ∀ i, wc.cell? ⟨w.heap.size + 2, i, none⟩ = (#[.int .u8 (r.toNat : Int), .int .i64 P, .int .i64 Q, .int .i64 K', .slice none 0 0, .string ⟨#[]⟩, .string ⟨#[]⟩] : Array Value)[i]? := fun i => blk_cell h4'.b2 i
      have e2 : ∀ i, wc.frozen? ⟨w.heap.size + 2, i, none⟩ = false := fun i => blk_free h4'.b2 i
      have d3 : ∀ i, wc.cell? ⟨k, i, none⟩ = (#[.int .i64 (overP P Q), .int .i64 (overQ P Q)] : Array Value)[i]? := fun i => blk_cell h4'.b3 i
      have HB := hide h4'.bel
      clear h4' H4 c0 c0p c0q H3
      go_wp2_with fail
      exact bodyPost_ret (v := RC.value ⟨r, overP P Q, overQ P Q, K', none, 0, 0, ⟨#[]⟩, ⟨#[]⟩⟩) (by simp [results, Tryz.results143, go_sem, d1, RC.value, RC.cells]) rfl ⟨r, K', rfl, unhide HK, unhide HR, st7_below (Below.setCell (p := ⟨w.heap.size + 2, 2, none⟩) (Below.setCell (p := ⟨w.heap.size + 2, 1, none⟩) (unhide HB) (Nat.le_add_right _ 2) _) (Nat.le_add_right _ 2) _) (Nat.le_succ _) _ _ _ _ _ _ _⟩
theorem box7 {w w1 : World} {c : Array Value} {e : TypeId} (hb : Below (w.alloc (.cells c e)).heap.size (w.alloc (.cells c e)) w1) : (∀ i, w1.cell? ⟨w.heap.size, i, none⟩ = c[i]?) ∧ Below w.heap.size w w1 := by
  refine ⟨fun i => ?_, ((Below.refl _ _).alloc (Nat.le_refl _) _).trans (hb.mono (by simp))⟩
  exact blk_cell (by rw [hb.block _ (by simp)]; exact heap_alloc_new w _) i
theorem fb0 : fbits false false false = 0 := rfl
theorem fb1 : fbits true false false = 1 := rfl
theorem fb2 : fbits false true false = 2 := rfl
theorem fb3 : fbits true true false = 3 := rfl
theorem fb4 : fbits false false true = 4 := rfl
theorem fb5 : fbits true false true = 5 := rfl
theorem fb6 : fbits false true true = 6 := rfl
theorem fb7 : fbits true true true = 7 := rfl
set_option maxRecDepth 100000 in
set_option maxHeartbeats 6400000 in
theorem of_pow {m : Nat} (hF : FS m) {f : Tm} {k : Int} (x : RC) {ds : List D} {rb : Nat} {v : Value} (n : Nat) (w : World) (hx : RPt w x (.pow f k)) (h : RSes w rb v ds) (hn : n ≤ ds.length) (hl : ds.length ≤ maxLen) (ht : IsTerm (envOf (ds.take n)) f.text f) (hm : f.text.length ≤ m) (hs : f.text.length ≤ 1000) :
    Calls Tryz.prog 101 #[.pointer (some ⟨rb, 0, none⟩), RC.value x, .int .i64 (n : Int)] w fun e w' => OfGot (.pow f k) w e w' := by
  obtain ⟨Kd, P, Q, K, pa, pn, pc, F, G⟩ := x
  rw [show RC.value ⟨Kd, P, Q, K, pa, pn, pc, F, G⟩ = .agg #[.int .u8 (Kd.toNat : Int), .int .i64 P, .int .i64 Q, .int .i64 K, .slice pa pn pc, .string F, .string G] from rfl]
  have hk : Kd = 40 := hx.1
  have hf : F.data.toList = f.text := hx.2.1
  have hK : K = k := hx.2.2
  have hfz : F.size = f.text.length := by rw [← hf]; simp
  have HF := hide hF
  have H := hide h
  have HT := hide ht
  subst hk hK
  rw [← hf] at HT
  have HN := hide (show ptNum (.pow f K) = fbits (K == 0 || (f.back && (decide (0 < K) || f.plain))) f.picker f.plain by rw [ptNum, Pt.back, Pt.picker, Pt.plain])
  clear hx hF h ht hf
  go_enter Tryz.func101, Tryz.ntmps101
  go_wp2_with fail
  refine (among_any 40 lA _ (by decide)).mono ?_
  rintro e w' ⟨rfl, rfl⟩
  rw [show decide ((40 : UInt8) ∈ lA.data.toList) = false from by decide]
  go_wp2_with fail
  refine (among_any 40 lP _ (by decide)).mono ?_
  rintro e w' ⟨rfl, rfl⟩
  rw [show decide ((40 : UInt8) ∈ lP.data.toList) = false from by decide]
  go_wp2_with fail
  refine (among_any 40 lQ _ (by decide)).mono ?_
  rintro e w' ⟨rfl, rfl⟩
  rw [show decide ((40 : UInt8) ∈ lQ.data.toList) = false from by decide]
  go_wp2_with fail
  refine (unhide HF F f ds rb v n _ (by omega) (by omega) ((unhide H).below ((Below.refl _ _).alloc (Nat.le_refl _) _)) hn hl (unhide HT)).mono ?_
  rintro e w1 ⟨rfl, hb1⟩
  obtain ⟨hc1, hbel⟩ := box7 hb1
  have HB := hide hbel
  rw [factsNum_fbits]
  clear hb1 hbel HF H HT
  generalize f.back = f1 at HN ⊢
  generalize f.picker = f2 at HN ⊢
  generalize f.plain = f3 at HN ⊢
  rcases Int.lt_trichotomy K 0 with h0 | h0 | h0
  · have g1 : (K == 0) = false := by rw [beq_eq_false_iff_ne]; omega
    have g2 : ¬ 0 < K := by omega
    rw [g1, decide_eq_false g2] at HN
    cases f1 <;> cases f2 <;> cases f3 <;> simp only [fb0, fb1, fb2, fb3, fb4, fb5, fb6, fb7] <;> (go_wp2_with fail; go_ret; exact ⟨by rw [unhide HN]; rfl, unhide HB⟩)
  · subst h0
    cases f1 <;> cases f2 <;> cases f3 <;> simp only [fb0, fb1, fb2, fb3, fb4, fb5, fb6, fb7] <;> (go_wp2_with fail; go_ret; exact ⟨by rw [unhide HN]; rfl, unhide HB⟩)
  · have g1 : (K == 0) = false := by rw [beq_eq_false_iff_ne]; omega
    rw [g1, decide_eq_true h0] at HN
    cases f1 <;> cases f2 <;> cases f3 <;> simp only [fb0, fb1, fb2, fb3, fb4, fb5, fb6, fb7] <;> (go_wp2_with fail; go_ret; exact ⟨by rw [unhide HN]; rfl, unhide HB⟩)
set_option maxRecDepth 100000 in
set_option maxHeartbeats 6400000 in
theorem of_under {m : Nat} (hF : FS m) {f g : Tm} (x : RC) {ds : List D} {rb : Nat} {v : Value} (n : Nat) (w : World) (hx : RPt w x (.under f g)) (h : RSes w rb v ds) (hn : n ≤ ds.length) (hl : ds.length ≤ maxLen) (ht : IsTerm (envOf (ds.take n)) f.text f) (hm : f.text.length ≤ m) (hs : f.text.length ≤ 1000) (ht2 : IsTerm (envOf (ds.take n)) g.text g) (hm2 : g.text.length ≤ m) (hs2 : g.text.length ≤ 1000) :
    Calls Tryz.prog 101 #[.pointer (some ⟨rb, 0, none⟩), RC.value x, .int .i64 (n : Int)] w fun e w' => OfGot (.under f g) w e w' := by
  obtain ⟨Kd, P, Q, K, pa, pn, pc, F, G⟩ := x
  rw [show RC.value ⟨Kd, P, Q, K, pa, pn, pc, F, G⟩ = .agg #[.int .u8 (Kd.toNat : Int), .int .i64 P, .int .i64 Q, .int .i64 K, .slice pa pn pc, .string F, .string G] from rfl]
  have hk : Kd = 91 := hx.1
  have hf : F.data.toList = f.text := hx.2.1
  have hg : G.data.toList = g.text := hx.2.2
  have hgz : G.size = g.text.length := by rw [← hg]; simp
  have HT2 := hide ht2
  have hfz : F.size = f.text.length := by rw [← hf]; simp
  have HF := hide hF
  have H := hide h
  have HT := hide ht
  subst hk
  rw [← hf] at HT
  rw [← hg] at HT2
  have HN := hide (show ptNum (.under f g) = fbits (g.back && (f.picker || (f.back && f.plain))) false (f.plain && g.plain) by rw [ptNum, Pt.back, Pt.picker, Pt.plain])
  clear hx hF h ht ht2 hf hg
  go_enter Tryz.func101, Tryz.ntmps101
  go_wp2_with fail
  refine (among_any 91 lA _ (by decide)).mono ?_
  rintro e w' ⟨rfl, rfl⟩
  rw [show decide ((91 : UInt8) ∈ lA.data.toList) = false from by decide]
  go_wp2_with fail
  refine (among_any 91 lP _ (by decide)).mono ?_
  rintro e w' ⟨rfl, rfl⟩
  rw [show decide ((91 : UInt8) ∈ lP.data.toList) = false from by decide]
  go_wp2_with fail
  refine (among_any 91 lQ _ (by decide)).mono ?_
  rintro e w' ⟨rfl, rfl⟩
  rw [show decide ((91 : UInt8) ∈ lQ.data.toList) = false from by decide]
  go_wp2_with fail
  refine (unhide HF F f ds rb v n _ (by omega) (by omega) ((unhide H).below ((Below.refl _ _).alloc (Nat.le_refl _) _)) hn hl (unhide HT)).mono ?_
  rintro e w1 ⟨rfl, hb1⟩
  obtain ⟨hc1, hbel⟩ := box7 hb1
  have HB := hide hbel
  have H1 := hide ((unhide H).below hbel)
  have hsz : w.heap.size < w1.heap.size := by have := hb1.size; simp at this; omega
  rw [factsNum_fbits]
  clear hb1 hbel HT
  go_wp2_with fail
  refine (unhide HF G g ds rb v n _ (by omega) (by omega) (unhide H1) hn hl (unhide HT2)).mono ?_
  rintro e w2 ⟨rfl, hb2⟩
  have HB2 := hide ((unhide HB).trans (hb2.mono (Nat.le_of_lt hsz)))
  rw [factsNum_fbits]
  clear hb2 HF H H1 HT2 hc1 HB
  generalize f.back = f1 at HN ⊢
  generalize f.picker = f2 at HN ⊢
  generalize f.plain = f3 at HN ⊢
  generalize g.back = g1 at HN ⊢
  generalize g.picker = g2 at HN ⊢
  generalize g.plain = g3 at HN ⊢
  cases g1 <;> cases g2 <;> cases g3 <;> cases f1 <;> cases f2 <;> cases f3 <;> simp only [fb0, fb1, fb2, fb3, fb4, fb5, fb6, fb7] <;> (go_wp2_with fail; go_ret; exact ⟨by rw [unhide HN]; rfl, unhide HB2⟩)
theorem RSes.lt {w : World} {rb g n cap : Nat} {ds : List D} (h : RSes w rb (.slice (some ⟨g, 0, none⟩) n cap) ds) : g < w.heap.size := by
  rcases h.own.2 with ⟨h1, _⟩ | ⟨g', cap', cur, hv, _, hh, _⟩
  · cases h1
  · cases hv; exact lt_of_block hh
set_option maxRecDepth 100000 in
set_option maxHeartbeats 1600000 in
theorem of_name {c : UInt8} {b : Tm} (x : RC) {ds : List D} {rb : Nat} {v : Value} (n : Nat) (w : World) (hx : RPt w x (.name c b)) (h : RSes w rb v ds) (hn : n ≤ ds.length) (hl : ds.length ≤ maxLen) (h65 : 65 ≤ c.toNat) (h90 : c.toNat ≤ 90) (ht : envOf (ds.take n) c = some b) :
    Calls Tryz.prog 101 #[.pointer (some ⟨rb, 0, none⟩), RC.value x, .int .i64 (n : Int)] w fun e w' => OfGot (.name c b) w e w' := by
  obtain ⟨Kd, P, Q, K, pa, pn, pc, F, G⟩ := x
  rw [show RC.value ⟨Kd, P, Q, K, pa, pn, pc, F, G⟩ = .agg #[.int .u8 (Kd.toNat : Int), .int .i64 P, .int .i64 Q, .int .i64 K, .slice pa pn pc, .string F, .string G] from rfl]
  have hk : Kd = c := hx
  subst hk
  obtain ⟨j, hj, hjn, hfi, hjc, hjt⟩ : ∃ j, ∃ (hj : j < ds.length), j < n ∧ findI ds Kd n = (j : Int) ∧ ds[j].c = Kd ∧ ds[j].t = b := by
    rcases findI_spec ds Kd n hn with ⟨j, hj, h1, h2, h3, h4⟩ | ⟨_, h2⟩
    · rw [ht] at h4
      exact ⟨j, hj, h1, h2, h3, (Option.some.inj h4).symm⟩
    · rw [ht] at h2; cases h2
  have HR := hide (h.below ((Below.refl _ _).alloc (Nat.le_refl _) (.cells #[.int .u8 (Kd.toNat : Int), .int .i64 P, .int .i64 Q, .int .i64 K, .slice pa pn pc, .string F, .string G] 131)))
  obtain ⟨ao, cap, rfl, hcs⟩ := h.slice
  obtain ⟨g, rfl, hcell⟩ := hcs (by omega)
  have hb0 : w.cell? ⟨rb, 0, none⟩ = some (.slice (some ⟨g, 0, none⟩) ds.length cap) := blk_cell h.blk 0
  have c2 : w.cell? ⟨g, j * 3 + 2, none⟩ = some (.int .i64 (factsNum ds[j].t)) := hcell j hj 2 (by omega)
  rw [hjt] at c2
  have q42 : ((Kd.toNat : Int) == 42) = false := by rw [beq_eq_false_iff_ne]; omega
  have q40 : ((Kd.toNat : Int) == 40) = false := by rw [beq_eq_false_iff_ne]; omega
  have q91 : ((Kd.toNat : Int) == 91) = false := by rw [beq_eq_false_iff_ne]; omega
  have g1 : (65 : Int) ≤ (Kd.toNat : Int) := by omega
  have g2 : (Kd.toNat : Int) ≤ 90 := by omega
  have hrb : rb < w.heap.size := lt_of_block h.blk
  have hg : g < w.heap.size := h.lt
  have HFI := hide hfi
  clear hx h hcs hcell hjt hjc hfi ht
  go_enter Tryz.func101, Tryz.ntmps101
  go_wp2_with fail
  refine (among_any Kd lA _ (by decide)).mono ?_
  rintro e w' ⟨rfl, rfl⟩
  go_wp2_with fail
  refine (among_any Kd lP _ (by decide)).mono ?_
  rintro e w' ⟨rfl, rfl⟩
  go_wp2_with fail
  refine (among_any Kd lQ _ (by decide)).mono ?_
  rintro e w' ⟨rfl, rfl⟩
  go_wp2_with fail
  go_quiet (first | (go_at_call 100; exact Calls.quiet_of_same (v := .int .i64 (j : Int)) ((find_any Kd n _ ((unhide HR).drewN _) hn hl).mono (fun e w' h => ⟨by rw [h.1, unhide HFI], h.2⟩))))
  go_wp2_with fail
  go_ret
  exact ⟨rfl, below_dr ((Below.refl _ _).alloc (Nat.le_refl _) _) _⟩
theorem rest_z (s : ByteArray) : rest s 0 = s.data.toList := by unfold rest; simp
theorem colon_lt {l : List UInt8} {d : Int} {k : Nat} (h : colonIdx l d = some k) : k < l.length := by
  have := congrArg List.length (colonIdx_at l d k h)
  rw [List.length_append, List.length_cons, List.length_take, List.length_drop] at this
  omega
theorem und_fin {s inn : ByteArray} {a c k : Nat} {ok1 ok2 : Bool} {v1 v2 : Value} {w1 w2 wf : World} (hac : a + 1 ≤ c) (hcs : c < s.size) (hi : inn = s.extract (a + 1) c) (hL : rest s a = 91 :: rest s (a + 1)) (hC : closeIdx (rest s a) 0 = some (c - a)) (hR : rest s c = 93 :: rest s (c + 1)) (hK : colonIdx (rest inn 0) 0 = some k) (hF : (ok1 = true ∧ ∃ xs ps, Whole E0 (inn.extract 0 k).data.toList (some (Tm.of ps)) ∧ w1.ownsRow 0 131 7 v1 xs.length (rrow xs) ∧ RPl w1 xs ps) ∨ (ok1 = false ∧ v1 = .slice none 0 0 ∧ Whole E0 (inn.extract 0 k).data.toList none)) (hG : (ok2 = true ∧ ∃ xs ps, Whole E0 (inn.extract (k + 1) inn.size).data.toList (some (Tm.of ps)) ∧ w2.ownsRow 0 131 7 v2 xs.length (rrow xs) ∧ RPl w2 xs ps) ∨ (ok2 = false ∧ v2 = .slice none 0 0 ∧ Whole E0 (inn.extract (k + 1) inn.size).data.toList none)) :
    ((ok1 && ok2) = true ∧ ∃ (p : Pt) (c' : Nat), ((c + 1 : Nat) : Int) = (c' : Int) ∧ c' ≤ s.size ∧ RdP E0 (rest s a) (some (p, rest s c')) ∧ RPt wf ⟨91, 0, 0, 0, none, 0, 0, inn.extract 0 k, inn.extract (k + 1) inn.size⟩ p) ∨ ((ok1 && ok2) = false ∧ RdP E0 (rest s a) none) := by
  rw [hL] at hC ⊢
  have hR' : (rest s (a + 1)).drop (c - a - 1) = 93 :: rest s (c + 1) := by rw [rest_drop, show a + 1 + (c - a - 1) = c by omega]; exact hR
  have hx : inn.data.toList = (rest s (a + 1)).take (c - a - 1) := by rw [hi, ext_rest, Nat.sub_sub]
  have hxF : (inn.extract 0 k).data.toList = ((rest s (a + 1)).take (c - a - 1)).take k := by rw [ext_rest, rest_z, hx]; rfl
  have hxG : (inn.extract (k + 1) inn.size).data.toList = ((rest s (a + 1)).take (c - a - 1)).drop (k + 1) := by
    rw [ext_rest]
    show (inn.data.toList.drop (k + 1)).take _ = _
    rw [hx]
    apply List.take_of_length_le
    have hsz : inn.size = ((rest s (a + 1)).take (c - a - 1)).length := by rw [← hx]; rfl
    rw [List.length_drop, hsz]
    exact Nat.le_refl _
  rw [rest_z, hx] at hK
  rw [hxF] at hF
  rw [hxG] at hG
  rcases hF with ⟨rfl, xs, ps, hF, _, _⟩ | ⟨rfl, _, hF⟩
  · rcases hG with ⟨rfl, ys, qs, hG, _, _⟩ | ⟨rfl, _, hG⟩
    · refine Or.inl ⟨rfl, .under (Tm.of ps) (Tm.of qs), c + 1, rfl, by omega, under_ref E0 hC hR' hK hF hG (fun f x e1 e2 => by cases e1; cases e2; rfl) (fun y e => by cases e; exact ⟨_, _, rfl, rfl, rfl⟩), rfl, ?_, ?_⟩
      · show (inn.extract 0 k).data.toList = _
        rw [hxF]
        exact (hF.sound _ rfl).2.2
      · show (inn.extract (k + 1) inn.size).data.toList = _
        rw [hxG]
        exact (hG.sound _ rfl).2.2
    · exact Or.inr ⟨rfl, under_ref E0 hC hR' hK hF hG (fun f x e1 e2 => by cases e2) (fun y e => by cases e)⟩
  · rcases hG with ⟨rfl, ys, qs, hG, _, _⟩ | ⟨rfl, _, hG⟩
    · exact Or.inr ⟨rfl, under_ref E0 hC hR' hK hF hG (fun f x e1 e2 => by cases e1) (fun y e => by cases e)⟩
    · exact Or.inr ⟨rfl, under_ref E0 hC hR' hK hF hG (fun f x e1 e2 => by cases e1) (fun y e => by cases e)⟩
set_option maxRecDepth 100000 in
set_option maxHeartbeats 3200000 in
theorem under_r {m : Nat} (hP : RPS m) (s : ByteArray) (a : Nat) (w : World) (ha : a < s.size) (h91 : s[a] = 91) (hm : s.size ≤ m + 1) (hs : s.size ≤ 1000) :
    Calls Tryz.prog 170 #[.string s, .int .i64 (a : Int)] w fun e w' => CutGot s a e w' ∧ Below w.heap.size w w' := by
  have HP := hide hP
  have HL := hide (show rest s a = 91 :: rest s (a + 1) by rw [rest_lt ha, h91])
  clear hP h91
  go_enter Tryz.func170, Tryz.ntmps170
  go_wp2_with fail
  refine (closing_c s a _ (by omega) (by omega)).mono ?_
  rintro e w' ⟨⟨c, hac, hcs, hcl, rfl⟩ | ⟨hcl, rfl⟩, rfl⟩
  · have HC := hide hcl
    clear hcl
    have hac1 : a + 1 ≤ c := by
      have := (unhide HC)
      rw [unhide HL] at this
      have := (closeIdx_pos (Or.inr rfl) this).1
      omega
    have hcn : ¬ (c : Int) < 0 := by omega
    by_cases h1 : s[c] = 93
    · have h1b : ((s[c].toNat : Int) != 93) = false := by rw [h1]; rfl
      have HR := hide (show rest s c = 93 :: rest s (c + 1) by rw [rest_lt hcs, h1])
      clear h1
      go_wp2_with fail
      have hsz := ext_size s (a + 1) c
      refine (colon_any (s.extract (a + 1) c) _ (by omega)).mono ?_
      obtain ⟨inn, hinn⟩ : ∃ inn, inn = s.extract (a + 1) c := ⟨_, rfl⟩
      have hsz2 : inn.size ≤ s.size - 1 := by rw [hinn, ByteArray.size_extract]; omega
      rw [← hinn]
      have HI := hide hinn
      clear hinn hsz
      rintro e w' ⟨⟨k, hk, rfl⟩ | ⟨hk, rfl⟩, rfl⟩
      · have hkl : k < inn.size := by have := colon_lt hk; rw [rest_len] at this; omega
        have HK := hide hk
        clear hk
        go_wp2_with fail
        have hz1 := ext_size inn 0 k
        have hz2 := ext_size inn (k + 1) inn.size
        refine (unhide HP (inn.extract 0 k) _ (by omega) (by omega)).mono ?_
        rintro e w1 ⟨⟨v1, ok1, rfl, hpf⟩, hb1⟩
        have P1 := (PB.start w rz #[.int .u8 91, .int .i64 0, .int .i64 0, .int .i64 0, .slice none 0 0, .string (inn.extract 0 k), .string (inn.extract (k + 1) inn.size)]).next hb1
        obtain ⟨_, _, hc1, hf1⟩ := P1.f
        have HP1 := hide P1
        have HF := hide hpf
        clear P1 hpf hb1
        go_wp2_with fail
        refine (unhide HP (inn.extract (k + 1) inn.size) _ (by omega) (by omega)).mono ?_
        rintro e w2 ⟨⟨v2, ok2, rfl, hpg⟩, hb2⟩
        have P2 := (unhide HP1).next hb2
        obtain ⟨hc0, hf0, hc3, _⟩ := P2.f
        have hcz : ∀ i, w2.cell? ⟨w.heap.size, i, none⟩ = (#[.int .u8 0, .int .i64 0, .int .i64 0, .int .i64 0, .slice none 0 0, .string ⟨#[]⟩, .string ⟨#[]⟩] : Array Value)[i]? := hc0
        have HPB := hide P2
        have HG := hide hpg
        clear P2 hpg hb2 hc1 hf1 HP1 hc0
        obtain ⟨bb, hbb⟩ : ∃ bb, bb = (ok1 && ok2) := ⟨_, rfl⟩
        have HFn := hide (fun wf => und_fin (wf := wf) hac1 hcs (unhide HI) (unhide HL) (unhide HC) (unhide HR) (unhide HK) (unhide HF) (unhide HG))
        rw [← hbb] at HFn
        have HBq := hide hbb
        clear HF HG hbb
        cases ok1 with
        | false =>
          go_wp2_with fail
          have hbf : bb = false := by have := unhide HBq; simpa using this
          subst hbf
          exact bodyPost_ret (v := .tuple #[RC.value ⟨91, 0, 0, 0, none, 0, 0, inn.extract 0 k, inn.extract (k + 1) inn.size⟩, .int .i64 ((c + 1 : Nat) : Int), .bool false]) (by simp [results, Tryz.results170, go_sem, hcz, RC.value, RC.cells]) rfl ⟨⟨⟨91, 0, 0, 0, none, 0, 0, inn.extract 0 k, inn.extract (k + 1) inn.size⟩, _, false, rfl, unhide HFn _⟩, st7_below (unhide HPB).bel (Nat.le_refl _) _ _ _ _ _ _ _⟩
        | true =>
          go_wp2_with fail
          have hbf : bb = ok2 := by have := unhide HBq; simpa using this
          subst hbf
          exact bodyPost_ret (v := .tuple #[RC.value ⟨91, 0, 0, 0, none, 0, 0, inn.extract 0 k, inn.extract (k + 1) inn.size⟩, .int .i64 ((c + 1 : Nat) : Int), .bool bb]) (by simp [results, Tryz.results170, go_sem, hcz, RC.value, RC.cells]) rfl ⟨⟨⟨91, 0, 0, 0, none, 0, 0, inn.extract 0 k, inn.extract (k + 1) inn.size⟩, _, bb, rfl, unhide HFn _⟩, st7_below (unhide HPB).bel (Nat.le_refl _) _ _ _ _ _ _ _⟩
      · have HK := hide hk
        clear hk
        go_wp2_with fail
        exact bodyPost_ret (v := .tuple #[RC.value ⟨91, 0, 0, 0, none, 0, 0, ⟨#[]⟩, ⟨#[]⟩⟩, .int .i64 (a : Int), .bool false]) (by simp [results, Tryz.results170, go_sem, RC.value, RC.cells]) rfl ⟨⟨⟨91, 0, 0, 0, none, 0, 0, ⟨#[]⟩, ⟨#[]⟩⟩, _, false, rfl, Or.inr ⟨rfl, by rw [unhide HL]; exact under_no_colon E0 (k := c - a) (by rw [← unhide HL]; exact unhide HC) (by have := unhide HK; rw [rest_z, unhide HI, ext_rest, ← Nat.sub_sub] at this; exact this)⟩⟩, (by repeat (first | exact Below.refl _ _ | refine below_dr ?_ _ | refine Below.drew ?_ | refine Below.setCell ?_ (by simp) _ | refine Below.alloc ?_ (by simp) _))⟩
    · have h1b : ((s[c].toNat : Int) != 93) = true := bne_t (y := 93) h1
      have HB := hide (show ∀ R, rest s c ≠ 93 :: R from fun R e => by rw [rest_lt hcs] at e; exact h1 (List.cons.inj e).1)
      clear h1
      go_wp2_with fail
      exact bodyPost_ret (v := .tuple #[RC.value ⟨91, 0, 0, 0, none, 0, 0, ⟨#[]⟩, ⟨#[]⟩⟩, .int .i64 (a : Int), .bool false]) (by simp [results, Tryz.results170, go_sem, RC.value, RC.cells]) rfl ⟨⟨⟨91, 0, 0, 0, none, 0, 0, ⟨#[]⟩, ⟨#[]⟩⟩, _, false, rfl, Or.inr ⟨rfl, by rw [unhide HL]; exact under_bad_close E0 (k := c - a) (by rw [← unhide HL]; exact unhide HC) (fun R e => unhide HB R (by rw [← e, rest_drop]; congr 1; omega))⟩⟩, (by repeat (first | exact Below.refl _ _ | refine below_dr ?_ _ | refine Below.drew ?_ | refine Below.setCell ?_ (by simp) _ | refine Below.alloc ?_ (by simp) _))⟩
  · have HC := hide hcl
    clear hcl
    go_wp2_with fail
    exact bodyPost_ret (v := .tuple #[RC.value ⟨91, 0, 0, 0, none, 0, 0, ⟨#[]⟩, ⟨#[]⟩⟩, .int .i64 (a : Int), .bool false]) (by simp [results, Tryz.results170, go_sem, RC.value, RC.cells]) rfl ⟨⟨⟨91, 0, 0, 0, none, 0, 0, ⟨#[]⟩, ⟨#[]⟩⟩, _, false, rfl, Or.inr ⟨rfl, by rw [unhide HL]; exact under_no_close E0 (by rw [← unhide HL]; exact unhide HC)⟩⟩, (by repeat (first | exact Below.refl _ _ | refine below_dr ?_ _ | refine Below.drew ?_ | refine Below.setCell ?_ (by simp) _ | refine Below.alloc ?_ (by simp) _))⟩
end Go.Proofs.YtikiaijgcjjloaaGreatDoor

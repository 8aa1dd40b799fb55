import Derived.Test.YtikiaijgcjjloaaGreatDoorPart22
import Derived.Deep.DeepCutAuto
import Derived.Test.YtikiaijgcjjloaaGreatDoorPart21
import Derived.Test.YtikiaijgcjjloaaGreatDoorPart19

namespace Go.Proofs.YtikiaijgcjjloaaGreatDoor
open Go Go.RowKit M T Go.Lib
set_option maxRecDepth 100000 in
set_option maxHeartbeats 3200000 in
theorem cut_40 {m : Nat} (hP : RPS m) (s : ByteArray) (a : Nat) (w : World) (ha : a < s.size) (hc : s[a] = 40) (hm : s.size ≤ m + 1) (hs : s.size ≤ 1000) :
    Calls Tryz.prog 136 #[.string s, .int .i64 (a : Int)] w fun e w' => CutGot s a e w' ∧ Below w.heap.size w w' := by
  have HP := hide hP
  have HRE := hide (rest_lt ha)
  have ha1 : a + 1 ≤ s.size := by omega
  have HSA := hide hc
  rw [hc] at HRE
  clear hP
  go_enter Tryz.func136, Tryz.ntmps136
  go_wp2_with fail
  refine (among_any 40 l38 _ (by decide)).mono ?_
  rintro e w' ⟨rfl, rfl⟩
  rw [show decide ((40 : UInt8) ∈ l38.data.toList) = false from by decide]
  go_upto_block 0 with fail
  go_cut [9, 10, 11] from 26 to 98 (fun v9 v10 _ wx => Laid s a w v9 v10 wx)
  case first =>
    go_wp2_with fail
    refine (power_r (unhide HP) s a _ ha (unhide HSA) hm hs).mono ?_
    rintro e w1 ⟨⟨⟨Kd, P, Q, K, pa, pn, pc, F, G⟩, bz, ok, rfl, hcase⟩, hb1⟩
    rw [(show RC.value ⟨Kd, P, Q, K, pa, pn, pc, F, G⟩ = .agg #[.int .u8 (Kd.toNat : Int), .int .i64 P, .int .i64 Q, .int .i64 K, .slice pa pn pc, .string F, .string G] from rfl)]
    have hpb := PB.behind hb1
    obtain ⟨_, _, hc1, hf1⟩ := hpb.f
    have hcy : ∀ i, w1.cell? ⟨w.heap.size + 1, i, none⟩ = (#[.int .u8 40, .int .i64 0, .int .i64 0, .int .i64 0, .slice none 0 0, .string ⟨#[]⟩, .string ⟨#[]⟩] : Array Value)[i]? := hc1
    have HPB := hide hpb
    have HL := hide (Laid.of hpb hcase)
    clear hpb hcase hb1 hc1
    go_wp2_with fail
    go_meet
    exact unhide HL
  case rest =>
    obtain ⟨⟨Kd, P, Q, K, pa, pn, pc, F, G⟩, bz, ok, rfl, rfl, hpb, hcase⟩ := hcut
    have hpb' : PB w rz #[.int .u8 (Kd.toNat : Int), .int .i64 P, .int .i64 Q, .int .i64 K, .slice pa pn pc, .string F, .string G] wc := hpb
    obtain ⟨hc0, hf0, hc1, hf1⟩ := hpb'.f
    have hcz : ∀ i, wc.cell? ⟨w.heap.size, i, none⟩ = (#[.int .u8 0, .int .i64 0, .int .i64 0, .int .i64 0, .slice none 0 0, .string ⟨#[]⟩, .string ⟨#[]⟩] : Array Value)[i]? := hc0
    have HPB := hide hpb
    have HCs := hide hcase
    clear hpb hpb' hcase hc0
    go_wp2_with fail
    refine bodyPost_ret (v := .tuple #[RC.value ⟨Kd, P, Q, K, pa, pn, pc, F, G⟩, .int .i64 bz, .bool ok]) (by simp [results, Tryz.results136, go_sem, hcz, RC.value, RC.cells]) rfl ⟨⟨⟨Kd, P, Q, K, pa, pn, pc, F, G⟩, _, ok, rfl, ?_⟩, st7_below (unhide HPB).bel (Nat.le_refl _) _ _ _ _ _ _ _⟩
    rcases unhide HCs with ⟨h1, p, c', h2, h3, h4, h5⟩ | h
    · exact Or.inl ⟨h1, p, c', h2, h3, h4, h5.laid0 (unhide HPB).b0 _ _ _ _ _ _ _⟩
    · exact Or.inr h
set_option maxRecDepth 100000 in
set_option maxHeartbeats 3200000 in
theorem cut_91 {m : Nat} (hP : RPS m) (s : ByteArray) (a : Nat) (w : World) (ha : a < s.size) (hc : s[a] = 91) (hm : s.size ≤ m + 1) (hs : s.size ≤ 1000) :
    Calls Tryz.prog 136 #[.string s, .int .i64 (a : Int)] w fun e w' => CutGot s a e w' ∧ Below w.heap.size w w' := by
  have HP := hide hP
  have HRE := hide (rest_lt ha)
  have ha1 : a + 1 ≤ s.size := by omega
  have HSA := hide hc
  rw [hc] at HRE
  clear hP
  go_enter Tryz.func136, Tryz.ntmps136
  go_wp2_with fail
  refine (among_any 91 l38 _ (by decide)).mono ?_
  rintro e w' ⟨rfl, rfl⟩
  rw [show decide ((91 : UInt8) ∈ l38.data.toList) = false from by decide]
  go_upto_block 0 with fail
  go_cut [9, 10, 11] from 26 to 98 (fun v9 v10 _ wx => Laid s a w v9 v10 wx)
  case first =>
    go_wp2_with fail
    refine (under_r (unhide HP) s a _ ha (unhide HSA) hm hs).mono ?_
    rintro e w1 ⟨⟨⟨Kd, P, Q, K, pa, pn, pc, F, G⟩, bz, ok, rfl, hcase⟩, hb1⟩
    rw [(show RC.value ⟨Kd, P, Q, K, pa, pn, pc, F, G⟩ = .agg #[.int .u8 (Kd.toNat : Int), .int .i64 P, .int .i64 Q, .int .i64 K, .slice pa pn pc, .string F, .string G] from rfl)]
    have hpb := PB.behind hb1
    obtain ⟨_, _, hc1, hf1⟩ := hpb.f
    have hcy : ∀ i, w1.cell? ⟨w.heap.size + 1, i, none⟩ = (#[.int .u8 91, .int .i64 0, .int .i64 0, .int .i64 0, .slice none 0 0, .string ⟨#[]⟩, .string ⟨#[]⟩] : Array Value)[i]? := hc1
    have HPB := hide hpb
    have HL := hide (Laid.of hpb hcase)
    clear hpb hcase hb1 hc1
    go_wp2_with fail
    go_meet
    exact unhide HL
  case rest =>
    obtain ⟨⟨Kd, P, Q, K, pa, pn, pc, F, G⟩, bz, ok, rfl, rfl, hpb, hcase⟩ := hcut
    have hpb' : PB w rz #[.int .u8 (Kd.toNat : Int), .int .i64 P, .int .i64 Q, .int .i64 K, .slice pa pn pc, .string F, .string G] wc := hpb
    obtain ⟨hc0, hf0, hc1, hf1⟩ := hpb'.f
    have hcz : ∀ i, wc.cell? ⟨w.heap.size, i, none⟩ = (#[.int .u8 0, .int .i64 0, .int .i64 0, .int .i64 0, .slice none 0 0, .string ⟨#[]⟩, .string ⟨#[]⟩] : Array Value)[i]? := hc0
    have HPB := hide hpb
    have HCs := hide hcase
    clear hpb hpb' hcase hc0
    go_wp2_with fail
    refine bodyPost_ret (v := .tuple #[RC.value ⟨Kd, P, Q, K, pa, pn, pc, F, G⟩, .int .i64 bz, .bool ok]) (by simp [results, Tryz.results136, go_sem, hcz, RC.value, RC.cells]) rfl ⟨⟨⟨Kd, P, Q, K, pa, pn, pc, F, G⟩, _, ok, rfl, ?_⟩, st7_below (unhide HPB).bel (Nat.le_refl _) _ _ _ _ _ _ _⟩
    rcases unhide HCs with ⟨h1, p, c', h2, h3, h4, h5⟩ | h
    · exact Or.inl ⟨h1, p, c', h2, h3, h4, h5.laid0 (unhide HPB).b0 _ _ _ _ _ _ _⟩
    · exact Or.inr h
set_option maxRecDepth 100000 in
set_option maxHeartbeats 3200000 in
theorem cut_let {m : Nat} (hP : RPS m) (s : ByteArray) (a : Nat) (w : World) (ha : a < s.size) {c : UInt8} (hc : s[a] = c) (hmem : c ∈ l38.data.toList) (_hm : s.size ≤ m + 1) (hs : s.size ≤ 1000) :
    Calls Tryz.prog 136 #[.string s, .int .i64 (a : Int)] w fun e w' => CutGot s a e w' ∧ Below w.heap.size w w' := by
  have HP := hide hP
  have HRE := hide (rest_lt ha)
  have ha1 : a + 1 ≤ s.size := by omega
  have HSA := hide hc
  rw [hc] at HRE
  clear hP
  go_enter Tryz.func136, Tryz.ntmps136
  go_wp2_with fail
  refine (among_any c l38 _ (by decide)).mono ?_
  rintro e w' ⟨rfl, rfl⟩
  have hmd : decide (c ∈ l38.data.toList) = true := by simpa using hmem
  have HM := hide hmem
  clear hmem
  rw [hmd]
  go_wp2_with fail
  obtain ⟨p, hp1, hp2⟩ := cut_letter (unhide HM) (rest s (a + 1))
  exact bodyPost_ret (v := .tuple #[RC.value ⟨c, 0, 0, 0, none, 0, 0, ⟨#[]⟩, ⟨#[]⟩⟩, .int .i64 ((a + 1 : Nat) : Int), .bool true]) (by simp [results, Tryz.results136, go_sem, RC.value, RC.cells]) rfl ⟨⟨⟨c, 0, 0, 0, none, 0, 0, ⟨#[]⟩, ⟨#[]⟩⟩, _, true, rfl, Or.inl ⟨rfl, p, a + 1, rfl, ha1, by rw [unhide HRE]; exact hp1, hp2 _⟩⟩, (by repeat (first | exact Below.refl _ _ | refine below_dr ?_ _ | refine Below.drew ?_ | refine Below.setCell ?_ (by simp) _ | refine Below.alloc ?_ (by simp) _))⟩
set_option maxRecDepth 100000 in
set_option maxHeartbeats 3200000 in
theorem cut_oth {m : Nat} (hP : RPS m) (s : ByteArray) (a : Nat) (w : World) (ha : a < s.size) {c : UInt8} (hc : s[a] = c) (hmem : c ∉ l38.data.toList) (h43 : c ≠ 43) (h42 : c ≠ 42) (h61 : c ≠ 61) (h60 : c ≠ 60) (h116 : c ≠ 116) (h100 : c ≠ 100) (h35 : c ≠ 35) (h40 : c ≠ 40) (h91 : c ≠ 91) (_hm : s.size ≤ m + 1) (hs : s.size ≤ 1000) :
    Calls Tryz.prog 136 #[.string s, .int .i64 (a : Int)] w fun e w' => CutGot s a e w' ∧ Below w.heap.size w w' := by
  have HP := hide hP
  have HRE := hide (rest_lt ha)
  have ha1 : a + 1 ≤ s.size := by omega
  have HSA := hide hc
  rw [hc] at HRE
  clear hP
  go_enter Tryz.func136, Tryz.ntmps136
  go_wp2_with fail
  refine (among_any c l38 _ (by decide)).mono ?_
  rintro e w' ⟨rfl, rfl⟩
  have hmd : decide (c ∈ l38.data.toList) = false := by simpa using hmem
  rw [hmd]
  have e43 : ((c.toNat : Int) == 43) = false := u8_ne' (d := 43) h43
  have e42 : ((c.toNat : Int) == 42) = false := u8_ne' (d := 42) h42
  have e61 : ((c.toNat : Int) == 61) = false := u8_ne' (d := 61) h61
  have e60 : ((c.toNat : Int) == 60) = false := u8_ne' (d := 60) h60
  have e116 : ((c.toNat : Int) == 116) = false := u8_ne' (d := 116) h116
  have e100 : ((c.toNat : Int) == 100) = false := u8_ne' (d := 100) h100
  have e35 : ((c.toNat : Int) == 35) = false := u8_ne' (d := 35) h35
  have e40 : ((c.toNat : Int) == 40) = false := u8_ne' (d := 40) h40
  have e91 : ((c.toNat : Int) == 91) = false := u8_ne' (d := 91) h91
  have HNo := hide (rdP_other E0 (not38 hmem).1 ⟨h43, h42, h61, h60, h116, h100, h35, h40, h91⟩ (not38 hmem).2 (rest s (a + 1)))
  clear hmem hmd h43 h42 h61 h60 h116 h100 h35 h40 h91
  go_wp2_with fail
  exact bodyPost_ret (v := .tuple #[RC.value ⟨c, 0, 0, 0, none, 0, 0, ⟨#[]⟩, ⟨#[]⟩⟩, .int .i64 ((a + 1 : Nat) : Int), .bool false]) (by simp [results, Tryz.results136, go_sem, RC.value, RC.cells]) rfl ⟨⟨⟨c, 0, 0, 0, none, 0, 0, ⟨#[]⟩, ⟨#[]⟩⟩, _, false, rfl, Or.inr ⟨rfl, by rw [unhide HRE]; exact unhide HNo⟩⟩, (by repeat (first | exact Below.refl _ _ | refine Below.setCell ?_ (by simp) _ | refine Below.alloc ?_ (by simp <;> omega) _))⟩
theorem cut_r {m : Nat} (hP : RPS m) (s : ByteArray) (a : Nat) (w : World) (ha : a < s.size) (hm : s.size ≤ m + 1) (hs : s.size ≤ 1000) :
    Calls Tryz.prog 136 #[.string s, .int .i64 (a : Int)] w fun e w' => CutGot s a e w' ∧ Below w.heap.size w w' := by
  by_cases hmem : s[a] ∈ l38.data.toList
  · exact cut_let hP s a w ha rfl hmem hm hs
  by_cases h43 : s[a] = 43
  · exact cut_43 hP s a w ha h43 hm hs
  by_cases h42 : s[a] = 42
  · exact cut_42 hP s a w ha h42 hm hs
  by_cases h61 : s[a] = 61
  · exact cut_61 hP s a w ha h61 hm hs
  by_cases h60 : s[a] = 60
  · exact cut_60 hP s a w ha h60 hm hs
  by_cases h116 : s[a] = 116
  · exact cut_116 hP s a w ha h116 hm hs
  by_cases h100 : s[a] = 100
  · exact cut_100 hP s a w ha h100 hm hs
  by_cases h35 : s[a] = 35
  · exact cut_35 hP s a w ha h35 hm hs
  by_cases h40 : s[a] = 40
  · exact cut_40 hP s a w ha h40 hm hs
  by_cases h91 : s[a] = 91
  · exact cut_91 hP s a w ha h91 hm hs
  exact cut_oth hP s a w ha rfl hmem h43 h42 h61 h60 h116 h100 h35 h40 h91 hm hs
theorem rrow_snoc (xs : List RC) (x : RC) : rrow xs ++ x.cells = rrow (xs ++ [x]) := by unfold rrow; simp
theorem RPl.snoc {w : World} : ∀ {xs : List RC} {ps : List Pt} {x : RC} {p : Pt}, RPl w xs ps → RPt w x p → RPl w (xs ++ [x]) (ps ++ [p])
  | [], [], _, _, _, h => ⟨h, trivial⟩
  | _ :: _, _ :: _, _, _, h, hp => ⟨h.1, RPl.snoc h.2 hp⟩
  | [], _ :: _, _, _, h, _ => h.elim
  | _ :: _, [], _, _, h, _ => h.elim
theorem RPl.keeps {w w' : World} (hk : ∀ (k : Nat) (c : Array Value), w.heap[k]? = some (.cells c 3 (0, 0)) → w'.heap[k]? = w.heap[k]?) : ∀ {xs : List RC} {ps : List Pt}, RPl w xs ps → RPl w' xs ps
  | [], [], _ => trivial
  | _ :: _, _ :: _, h => ⟨h.1.keeps hk, RPl.keeps hk h.2⟩
  | [], _ :: _, h => h.elim
  | _ :: _, [], h => h.elim
theorem RPl.length {w : World} : ∀ {xs : List RC} {ps : List Pt}, RPl w xs ps → xs.length = ps.length
  | [], [], _ => rfl
  | y :: ys, q :: qs, h => by rw [List.length_cons, List.length_cons, RPl.length h.2]
  | [], _ :: _, h => h.elim
  | _ :: _, [], h => h.elim
theorem RPl.get {w : World} : ∀ {xs : List RC} {ps : List Pt}, RPl w xs ps → ∀ (j : Nat) (h : j < xs.length) (h' : j < ps.length), RPt w xs[j] ps[j]
  | [], [], _, j, h, _ => by simp at h
  | y :: ys, q :: qs, hp, j, h, h' => by
    cases j with
    | zero => exact hp.1
    | succ j => exact RPl.get hp.2 j (by simpa using h) (by simpa using h')
  | [], _ :: _, h, _, _, _ => h.elim
  | _ :: _, [], h, _, _, _ => h.elim
theorem one_rcells (x : RC) : ∀ u ∈ x.cells, u.oneCell' = true := by
  intro u hu
  simp only [RC.cells, List.mem_cons, List.not_mem_nil, or_false] at hu
  rcases hu with rfl | rfl | rfl | rfl | rfl | rfl | rfl <;> rfl
theorem Tryz.infoRPart : (Tryz.prog.info? 131).map (fun i => (i.zero, i.size, i.bytes)) = some (some (.agg #[.int .u8 0, .int .i64 0, .int .i64 0, .int .i64 0, .slice none 0 0, .string ⟨#[]⟩, .string ⟨#[]⟩]), 7, 88) := by kernel_rfl
structure PR (s : ByteArray) (w : World) (b : Nat) (ps : List Pt) (v : Value) (xs : List RC) (wr : World) : Prop where
  hb : b ≤ s.size
  len : xs.length ≤ b
  bel : Below w.heap.size w wr
  own : wr.ownsRow w.heap.size 131 7 v xs.length (rrow xs)
  parts : RPl wr xs ps
  ahead : Ahead E0 (rest s 0) ps (rest s b)
theorem PR.next {s : ByteArray} {w : World} {b : Nat} {ps : List Pt} {v v' : Value} {xs : List RC} {wr w1 w2 : World} {o o' : Obj} {x : RC} {p : Pt} {c : Nat} (h : PR s w b ps v xs wr) (hb1 : Below wr.heap.size wr w1) (hc : c ≤ s.size) (hrd : RdP E0 (rest s b) (some (p, rest s c))) (hp : RPt w1 x p) (hgr : ((w1.alloc o).alloc o').grownBy w2 v.ownBlock) (hown : w2.ownsRow w.heap.size 131 7 v' (xs.length + 1) (rrow xs ++ x.cells)) : PR s w c (ps ++ [p]) v' (xs ++ [x]) w2 := by
  have hmv : b < c := by
    obtain ⟨_, _, e⟩ := hrd.sound _ _ rfl
    obtain ⟨l, e2⟩ := Pt.text_first p
    have := congrArg List.length e
    rw [List.length_append, rest_len, rest_len, e2, List.length_cons] at this
    omega
  have hlen := h.len
  have hs1 := hb1.size
  have hold : ∀ k, k < w1.heap.size → v.ownBlock ≠ some k → w2.heap[k]? = w1.heap[k]? := fun k hk hn => by
    rw [hgr.block k (by simp; omega) (fun e => hn e.symm), Below.heap_alloc _ _ _ (by simp; omega), Below.heap_alloc _ _ _ hk]
  have hrow : ∀ (k : Nat) (c : Array Value), w1.heap[k]? = some (.cells c 3 (0, 0)) → v.ownBlock ≠ some k := by
    intro k c hk e
    rcases (owns_below h.own hb1).2 with ⟨h2, _⟩ | ⟨g, cap, cur, hv, _, hh, _⟩
    · rw [h2] at e; cases e
    · rw [hv] at e; cases e
      rw [hh] at hk; cases hk
  refine ⟨hc, by rw [List.length_append, List.length_singleton]; omega, ?_, by rw [List.length_append, ← rrow_snoc]; exact hown, ?_, h.ahead.step hrd⟩
  · have hb' := h.bel.trans (hb1.mono h.bel.size)
    refine ⟨hgr.os.trans hb'.os, hgr.tape.trans hb'.tape, hgr.output.trans hb'.output, Nat.le_trans (Nat.le_trans hb'.size (by simp; omega)) hgr.size, fun k hk => ?_⟩
    rw [hold k (by have := hb'.size; omega) (fun e => by have := (h.own.lt k e).1; omega)]
    exact hb'.block k hk
  · have hk2 : ∀ (k : Nat) (c : Array Value), w1.heap[k]? = some (.cells c 3 (0, 0)) → w2.heap[k]? = w1.heap[k]? := fun k c hk => hold k (lt_of_block hk) (hrow k c hk)
    refine RPl.snoc (RPl.keeps (fun k c hk => ?_) h.parts) (hp.keeps hk2)
    have e1 := hb1.block k (lt_of_block hk)
    rw [hk2 k c (by rw [e1]; exact hk), e1]
theorem rnews (w : World) (o : Obj) (x : RC) : ∀ j u, x.cells[j]? = some u → ((w.alloc o).alloc (.cells x.cells.toArray 131)).cell? ((⟨w.heap.size + 1, 0, none⟩ : Addr).add j) = some u := by
  have := news_alloc (w.alloc o) x.cells 131
  rw [World.size_alloc] at this
  exact this
set_option maxRecDepth 100000 in
set_option maxHeartbeats 3200000 in
theorem parts_r {m : Nat} (hP : ∀ m', m' + 1 = m → RPS m') : RPS m := by
  intro s w hm hs
  obtain ⟨i0, hi, hz0, hz1, hz2⟩ := info_parts Tryz.infoRPart
  have HP := hide hP
  clear hP
  go_enter Tryz.func99, Tryz.ntmps99
  go_wp2_with fail
  go_loopg [4, 5] s.size (fun k v i wr => ∃ b ps xs, k = s.size - b ∧ i = .int .i64 ((b : Nat) : Int) ∧ PR s w b ps v xs wr)
  case atStart => exact ⟨0, [], [], rfl, rfl, Nat.zero_le _, Nat.zero_le _, Below.refl _ _, World.ownsRow_nil _ _ _ _, trivial, Ahead.start _ _⟩
  case round =>
    obtain ⟨b, ps, xs, hk, rfl, hR⟩ := hrel
    have HK := hide hk
    have HR := hide hR
    have hb := hR.hb
    have hlen := hR.len
    clear hk hR
    by_cases hlt : b < s.size
    · have hlt' : (b : Int) < (s.size : Int) := by omega
      go_wp2_with fail
      refine (cut_r (m := m - 1) (unhide HP (m - 1) (by omega)) s b _ hlt (by omega) hs).mono ?_
      rintro e w1 ⟨⟨⟨Kd, P, Q, K, pa, pn, pc, F, G⟩, bz, ok, rfl, hcase⟩, hb1⟩
      rw [show RC.value ⟨Kd, P, Q, K, pa, pn, pc, F, G⟩ = .agg #[.int .u8 (Kd.toNat : Int), .int .i64 P, .int .i64 Q, .int .i64 K, .slice pa pn pc, .string F, .string G] from rfl]
      have HB1 := hide hb1
      have HC := hide hcase
      clear hcase hb1
      cases ok with
      | false =>
        have hno : RdP E0 (rest s b) none := by
          rcases unhide HC with ⟨h, _⟩ | ⟨_, h⟩
          · cases h
          · exact h
        have HNo := hide hno
        clear hno HC
        go_wp2_with fail
        refine bodyPost_ret (v := .tuple #[.slice none 0 0, .bool false]) (by simp [results, Tryz.results99, go_sem]) rfl ⟨⟨_, false, rfl, Or.inr ⟨rfl, rfl, ?_⟩⟩, ((unhide HR).bel.trans ((unhide HB1).mono (unhide HR).bel.size)).alloc (Nat.le_trans (unhide HR).bel.size (unhide HB1).size) _⟩
        have := (unhide HR).ahead.none (by rw [rest_lt hlt]; simp) (unhide HNo)
        rw [rest_z] at this
        exact this
      | true =>
        obtain ⟨p, c, rfl, hc, hrd, hp⟩ : ∃ (p : Pt) (c : Nat), bz = (c : Int) ∧ c ≤ s.size ∧ RdP E0 (rest s b) (some (p, rest s c)) ∧ RPt w1 ⟨Kd, P, Q, K, pa, pn, pc, F, G⟩ p := by
          rcases unhide HC with ⟨_, h⟩ | ⟨h, _⟩
          · exact h
          · cases h
        have HRd := hide hrd
        have HPt := hide hp
        have hmv : b < c := by
          obtain ⟨_, _, e⟩ := hrd.sound _ _ rfl
          obtain ⟨l, e2⟩ := Pt.text_first p
          have := congrArg List.length e
          rw [List.length_append, rest_len, rest_len, e2, List.length_cons] at this
          omega
        clear hrd hp HC
        go_wp2_with (at_builtin; refine wpList_append_own _ rfl _ _ 120 rfl w.heap.size 131 i0 _ 7 88 Tryz.underlying120 hi hz0 hz1 hz2 rfl (by decide) _ _ _ rfl (((owns_below (unhide HR).own (unhide HB1)).alloc _).alloc _) ⟨w1.heap.size + 1, 0, none⟩ 1 1 (RC.cells ⟨Kd, P, Q, K, pa, pn, pc, F, G⟩) rfl rfl (rnews w1 _ ⟨Kd, P, Q, K, pa, pn, pc, F, G⟩) (one_rcells _) (by unfold maxLen; omega) (by omega) (by have := (unhide HR).bel.size; have := (unhide HB1).size; simp; omega) ?_)
        intro v' w2 hown2 hgr2 _
        have HN := hide ((unhide HR).next (unhide HB1) hc (unhide HRd) (unhide HPt) hgr2 hown2)
        clear hown2 hgr2
        go_wp2_with fail
        go_roundg (s.size - c)
        case measure => rw [unhide HK]; omega
        case rel => exact ⟨c, ps ++ [p], xs ++ [⟨Kd, P, Q, K, pa, pn, pc, F, G⟩], rfl, rfl, unhide HN⟩
    · have hlt' : ¬ (b : Int) < (s.size : Int) := by omega
      go_wp2_with fail
      have hah := (unhide HR).ahead
      rw [rest_ge (show s.size ≤ b by omega), rest_z] at hah
      refine bodyPost_ret (v := .tuple #[_, .bool true]) (by simp [results, Tryz.results99, go_sem]; rfl) rfl ⟨⟨_, true, rfl, Or.inl ⟨rfl, xs, ps, hah.whole, ⟨(unhide HR).own.1, ?_⟩, (unhide HR).parts⟩⟩, (unhide HR).bel⟩
      rcases (unhide HR).own.2 with h2 | ⟨g, cap, cur, hv, hg, r⟩
      · exact Or.inl h2
      · exact Or.inr ⟨g, cap, cur, hv, Nat.zero_le _, r⟩
theorem parts_all : ∀ m, RPS m
  | 0 => parts_r (fun m' h => by omega)
  | m + 1 => parts_r (fun m' h => by
    have e : m' = m := by omega
    rw [e]
    exact parts_all m)
theorem RPt.bind {w : World} {x : RC} (env : Env) (he : env.wf) : ∀ {p : Pt}, RPt w x p → RPt w x (p.bind env)
  | .sp _, h => h
  | .pow f k, h => ⟨h.1, by rw [(Tm.bind_facts env he f).1]; exact h.2.1, h.2.2⟩
  | .under f g, h => ⟨h.1, by rw [(Tm.bind_facts env he f).1]; exact h.2.1, by rw [(Tm.bind_facts env he g).1]; exact h.2.2⟩
  | .name _ _, h => h
theorem of_any {m : Nat} (hF : FS m) {p : Pt} (x : RC) {ds : List D} {rb : Nat} {v : Value} (n : Nat) (w : World) (hx : RPt w x p) (h : RSes w rb v ds) (hn : n ≤ ds.length) (hl : ds.length ≤ maxLen) (hw : p.wf) (he : p.inEnv (envOf (ds.take n))) (hm : p.text.length ≤ m + 1) (hs : p.text.length ≤ 1000) :
    Calls Tryz.prog 101 #[.pointer (some ⟨rb, 0, none⟩), RC.value x, .int .i64 (n : Int)] w fun e w' => OfGot p w e w' := by
  cases p with
  | sp y =>
    by_cases hy : ∃ c, y = .times c
    · obtain ⟨c, rfl⟩ := hy
      exact of_times x rb n w hx
    · exact of_sp (fun c e => hy ⟨c, e⟩) x rb n w hx
  | pow f k =>
    rw [Pt.wf] at hw
    rw [Pt.inEnv] at he
    rw [Pt.text] at hm hs
    simp only [List.length_cons, List.length_append] at hm hs
    exact of_pow hF x n w hx h hn hl ⟨hw.1, he, rfl⟩ (by omega) (by omega)
  | under f g =>
    rw [Pt.wf] at hw
    rw [Pt.inEnv] at he
    rw [Pt.text] at hm hs
    simp only [List.length_cons, List.length_append] at hm hs
    exact of_under hF x n w hx h hn hl ⟨hw.1, he.1, rfl⟩ (by omega) (by omega) ⟨hw.2, he.2, rfl⟩ (by omega) (by omega)
  | name c b =>
    rw [Pt.wf] at hw
    rw [Pt.inEnv] at he
    exact of_name x n w hx h hn hl hw.1 hw.2.1 he
theorem rrow_cell {w : World} {B : Nat} {e : TypeId} {g n cap : Nat} {xs : List RC} (h : w.ownsRow B e 7 (.slice (some ⟨g, 0, none⟩) n cap) xs.length (rrow xs)) {j : Nat} (hj : j < xs.length) (i : Nat) (hi : i < 7) : w.cell? ⟨g, j * 7 + i, none⟩ = (xs[j].cells)[i]? := by
  have key : ∀ (ys : List RC) (j : Nat) (hj : j < ys.length), (rrow ys)[j * 7 + i]? = (ys[j].cells)[i]? := by
    intro ys
    induction ys with
    | nil => intro j hj; simp at hj
    | cons y ys ih =>
      intro j hj
      have e : rrow (y :: ys) = y.cells ++ rrow ys := rfl
      cases j with
      | zero =>
        rw [e, List.getElem?_append_left (by rw [RC.cells_length]; omega)]
        simp
      | succ j =>
        rw [e, List.getElem?_append_right (by rw [RC.cells_length]; omega), RC.cells_length, show (j + 1) * 7 + i - 7 = j * 7 + i by omega, ih j (by simpa using hj)]
        simp
  have hlt : i < (xs[j].cells).length := by rw [RC.cells_length]; exact hi
  have := h.cells (g := g) rfl (j * 7 + i) ((xs[j].cells)[i]) (by rw [key xs j hj]; exact List.getElem?_eq_getElem hlt)
  rw [show (⟨g, 0, none⟩ : Addr).add (j * 7 + i) = ⟨g, j * 7 + i, none⟩ from by unfold Addr.add; split <;> simp_all] at this
  rw [this, List.getElem?_eq_getElem hlt]
theorem rrow_slice {w : World} {v : Value} {xs : List RC} (h : w.ownsRow 0 131 7 v xs.length (rrow xs)) : ∃ ao cap, v = .slice ao xs.length cap ∧ (0 < xs.length → ∃ g, ao = some ⟨g, 0, none⟩ ∧ g < w.heap.size ∧ ∀ j (hj : j < xs.length) i, i < 7 → w.cell? ⟨g, j * 7 + i, none⟩ = (xs[j].cells)[i]?) := by
  have hown := h
  rcases h.2 with ⟨h1, h2⟩ | ⟨g, cap, cur, hv, _, hh, _⟩
  · exact ⟨none, 0, by rw [h1, h2], fun hp => by omega⟩
  · refine ⟨some ⟨g, 0, none⟩, cap, hv, fun _ => ⟨g, rfl, lt_of_block hh, fun j hj i hi => ?_⟩⟩
    rw [hv] at hown
    exact rrow_cell hown hj i hi
theorem text_mem : ∀ (ps : List Pt) (p : Pt), p ∈ ps → p.text.length ≤ (Tm.of ps).text.length
  | q :: ps, p, h => by
    rw [Tm.of, Tm.text, List.length_append]
    rcases List.mem_cons.1 h with rfl | h
    · omega
    · have := text_mem ps p h; omega
theorem len_mem : ∀ (ps : List Pt), ps.length ≤ (Tm.of ps).text.length
  | [] => Nat.zero_le _
  | q :: ps => by
    rw [Tm.of, Tm.text, List.length_append, List.length_cons]
    obtain ⟨l, e⟩ := Pt.text_first q
    have := len_mem ps
    rw [e, List.length_cons]; omega
theorem wf_mem : ∀ (ps : List Pt) (p : Pt), p ∈ ps → (Tm.of ps).wf → p.wf
  | q :: ps, p, h, hw => by
    rw [Tm.of, Tm.wf] at hw
    rcases List.mem_cons.1 h with rfl | h
    · exact hw.1
    · exact wf_mem ps p h hw.2
theorem env_mem (env : Env) : ∀ (ps : List Pt) (p : Pt), p ∈ ps → (Tm.of ps).inEnv env → p.inEnv env
  | q :: ps, p, h, hw => by
    rw [Tm.of, Tm.inEnv] at hw
    rcases List.mem_cons.1 h with rfl | h
    · exact hw.1
    · exact env_mem env ps p h hw.2
theorem and_bits (a b c a' b' c' : Bool) : IntKind.i64.wrap ((BitVec.ofInt 64 (fbits a b c) &&& BitVec.ofInt 64 (fbits a' b' c')).toNat : Int) = fbits (a && a') (b && b') (c && c') := by
  cases a <;> cases b <;> cases c <;> cases a' <;> cases b' <;> cases c' <;> decide
set_option maxRecDepth 100000 in
set_option maxHeartbeats 3200000 in
theorem facts_r {m : Nat} (hF : ∀ m', m' + 1 = m → FS m') : FS m := by
  intro s t ds rb v n w hm hs h hn hl ht
  have HP := hide (parts_all s.size)
  have HF := hide hF
  have H := hide h
  have HT := hide ht
  have hn' : n ≤ maxLen := by omega
  unfold maxLen at hn'
  clear hF h ht
  go_enter Tryz.func64, Tryz.ntmps64
  go_wp2_with fail
  refine (unhide HP s _ (Nat.le_refl _) hs).mono ?_
  rintro e w1 ⟨⟨sl, ok, rfl, hG⟩, hb1⟩
  obtain ⟨rfl, xs, ps, hwh, hown, hpl⟩ : ok = true ∧ ∃ xs ps, Whole E0 s.data.toList (some (Tm.of ps)) ∧ w1.ownsRow 0 131 7 sl xs.length (rrow xs) ∧ RPl w1 xs ps := by
    rcases hG with h | ⟨_, _, h⟩
    · exact h
    · exact (whole_not h (unhide HT)).elim
  have hewf := (unhide H).ok.wf n hn
  have hbind := whole_is hewf hwh (unhide HT)
  rw [Tm.bind_of] at hbind
  obtain ⟨hwf, htx⟩ := whole_wf hwh
  have hlps : ps.length ≤ 1000 := by have := len_mem ps; rw [htx] at this; simp at this; omega
  have hxl := hpl.length
  obtain ⟨ao, cap, rfl, hcs⟩ := rrow_slice hown
  have HB1 := hide hb1
  have H1 := hide ((unhide H).below hb1)
  have HPl := hide hpl
  have HBd := hide hbind
  have HTx := hide htx
  have HE := hide hewf
  clear hG hown hpl hbind htx hewf hb1 hwf hwh
  go_wp2_with fail
  go_loopg [9, 10] xs.length (fun k v9 v10 wr => ∃ i : Nat, k = xs.length - i ∧ i ≤ xs.length ∧ v10 = .int .i64 (i : Int) ∧ v9 = .int .i64 (factsNum (Tm.of ((ps.map (Pt.bind (envOf (ds.take n)))).take i))) ∧ Below w1.heap.size w1 wr)
  case atStart => exact ⟨0, rfl, Nat.zero_le _, rfl, rfl, Below.refl _ _⟩
  case round =>
    obtain ⟨i, hk, hi, rfl, rfl, hbr⟩ := hrel
    have HK := hide hk
    have HBr := hide hbr
    clear hk hbr
    by_cases hlt : i < xs.length
    · have hlt' : (i : Int) < (xs.length : Int) := by omega
      have hip : i < ps.length := by omega
      obtain ⟨g, rfl, hg, hcell⟩ := hcs (by omega)
      have hcr : ∀ l, l < 7 → wr.cell? ⟨g, i * 7 + l, none⟩ = (xs[i].cells)[l]? := fun l hl => ((unhide HBr).cell (p := ⟨g, i * 7 + l, none⟩) hg).trans (hcell i hlt l hl)
      have hpt : RPt wr xs[i] (ps[i].bind (envOf (ds.take n))) := RPt.bind _ (unhide HE) (((unhide HPl).get i hlt hip).keeps (fun k c hk => (unhide HBr).block k (lt_of_block hk)))
      have hnx := factsNum_snoc ((ps.map (Pt.bind (envOf (ds.take n)))).take i) (ps[i].bind (envOf (ds.take n)))
      have hnt : (ps.map (Pt.bind (envOf (ds.take n)))).take (i + 1) = (ps.map (Pt.bind (envOf (ds.take n)))).take i ++ [ps[i].bind (envOf (ds.take n))] := by
        rw [List.take_succ_eq_append_getElem (by simpa using hip), List.getElem_map]
      rw [← hnt] at hnx
      have hmem : ps[i].bind (envOf (ds.take n)) ∈ ps.map (Pt.bind (envOf (ds.take n))) := List.mem_map.2 ⟨_, List.getElem_mem hip, rfl⟩
      have q1 := wf_mem _ _ hmem (by rw [unhide HBd]; exact (unhide HT).wf)
      have q2 := env_mem _ _ _ hmem (by rw [unhide HBd]; exact (unhide HT).env)
      have q3 := text_mem _ _ hmem
      rw [unhide HBd, (unhide HT).text] at q3
      have hm1 : 1 ≤ m := by
        obtain ⟨l, e⟩ := Pt.text_first (ps[i].bind (envOf (ds.take n)))
        rw [e, List.length_cons] at q3
        simp at q3; omega
      have HQ1 := hide q1
      have HQ2 := hide q2
      have hq3 : (ps[i].bind (envOf (ds.take n))).text.length ≤ s.size := by simpa using q3
      have HNx := hide hnx
      have HPt := hide hpt
      have HRr := hide ((unhide H1).below (unhide HBr))
      generalize ps[i].bind (envOf (ds.take n)) = p at HNx HPt HQ1 HQ2 hq3
      generalize xs[i] = x at hcr HPt
      obtain ⟨Kd, P, Q, K, pa, pn, pc, F, G⟩ := x
      have c0 : wr.cell? ⟨g, i * 7, none⟩ = some (.int .u8 (Kd.toNat : Int)) := hcr 0 (by omega)
      have c1 : wr.cell? ⟨g, i * 7 + 1, none⟩ = some (.int .i64 P) := hcr 1 (by omega)
      have c2 : wr.cell? ⟨g, i * 7 + 2, none⟩ = some (.int .i64 Q) := hcr 2 (by omega)
      have c3 : wr.cell? ⟨g, i * 7 + 3, none⟩ = some (.int .i64 K) := hcr 3 (by omega)
      have c4 : wr.cell? ⟨g, i * 7 + 4, none⟩ = some (.slice pa pn pc) := hcr 4 (by omega)
      have c5 : wr.cell? ⟨g, i * 7 + 5, none⟩ = some (.string F) := hcr 5 (by omega)
      have c6 : wr.cell? ⟨g, i * 7 + 6, none⟩ = some (.string G) := hcr 6 (by omega)
      clear hcr hpt hnx hnt hmem q1 q2 q3 hcell hcs hxl
      rw [factsNum_fbits]
      generalize (Tm.of ((ps.map (Pt.bind (envOf (ds.take n)))).take i)).back = f1 at HNx ⊢
      generalize (Tm.of ((ps.map (Pt.bind (envOf (ds.take n)))).take i)).picker = f2 at HNx ⊢
      generalize (Tm.of ((ps.map (Pt.bind (envOf (ds.take n)))).take i)).plain = f3 at HNx ⊢
      go_wp2_with fail
      refine (of_any (m := m - 1) (unhide HF (m - 1) (by omega)) ⟨Kd, P, Q, K, pa, pn, pc, F, G⟩ n _ (unhide HPt) (unhide HRr) hn hl (unhide HQ1) (unhide HQ2) (by omega) (by omega)).mono ?_
      rintro e w2 ⟨rfl, hb2⟩
      rw [ptNum]
      have HB2 := hide ((unhide HBr).trans (hb2.mono (unhide HBr).size))
      clear hb2
      go_wp2_with fail
      go_roundg (xs.length - (i + 1))
      case measure => rw [unhide HK]; omega
      case rel => exact ⟨i + 1, rfl, by omega, rfl, by rw [unhide HNx, ← and_bits]; rfl, unhide HB2⟩
    · have hlt' : ¬ (i : Int) < (xs.length : Int) := by omega
      go_wp2_with fail
      go_ret
      refine ⟨?_, (unhide HB1).trans ((unhide HBr).mono (unhide HB1).size)⟩
      have e : (ps.map (Pt.bind (envOf (ds.take n)))).take i = ps.map (Pt.bind (envOf (ds.take n))) := List.take_of_length_le (by rw [List.length_map]; omega)
      rw [e, unhide HBd]
      rfl
theorem facts_all : ∀ m, FS m
  | 0 => facts_r (fun m' h => by omega)
  | m + 1 => facts_r (fun m' h => by
    have e : m' = m := by omega
    rw [e]
    exact facts_all m)
end Go.Proofs.YtikiaijgcjjloaaGreatDoor

import Derived.Test.YtikiaijgcjjloaaGreatDoorPart40
import Derived.Test.YtikiaijgcjjloaaGreatDoorPart32
import Derived.Test.YtikiaijgcjjloaaGreatDoorPart31
import Derived.Test.YtikiaijgcjjloaaGreatDoorPart39

namespace Go.Proofs.YtikiaijgcjjloaaGreatDoor
open Go Go.RowKit M T Go.Lib
theorem JkIs.nil (w : World) : JkIs w (.slice none 0 0) [] w := ⟨World.ownsRow_nil _ _ _ _, Below.refl _ _⟩
theorem JkIs.form {w0 wr : World} {v : Value} {ps : List Nat} (h : JkIs w0 v ps wr) : ∃ ao cp, v = .slice ao ps.length cp := by
  rcases h.own.2 with ⟨h1, h2⟩ | ⟨g, cap, cur, hv, _⟩
  · exact ⟨none, 0, by rw [h1, h2]⟩
  · exact ⟨_, cap, hv⟩
def told (el : Nat → Nat) (m : Nat) : List Nat := (List.range m).map el
theorem told_snoc (el : Nat → Nat) (i : Nat) : told el (i + 1) = told el i ++ [el i] := by unfold told; rw [List.range_succ, List.map_append]; rfl
theorem told_len (el : Nat → Nat) (m : Nat) : (told el m).length = m := by simp [told]
def FromGot (w : World) (idx : List Nat) (ok : Bool) (e : Ending) (w' : World) : Prop := ∃ (ao : Option Addr) (cp : Nat), e = .returned (.tuple #[.slice ao idx.length cp, .bool ok]) ∧ w'.ownsRow 0 3 1 (.slice ao idx.length cp) idx.length (irowP idx) ∧ Below w.heap.size w w'
structure FromR (w : World) (c0 : Array Value) (el : Nat → Nat) (m i : Nat) (qs : List Nat) (v : Value) (wr : World) : Prop where
  le : i ≤ m
  tx : qs = told el i
  row : JkIs w v qs wr
  b0 : wr.heap[w.heap.size]? = some (.cells c0 131 (0, 0))
theorem FromR.start (w : World) (c0 : Array Value) (el : Nat → Nat) (m : Nat) : FromR w c0 el m 0 [] (.slice none 0 0) (w.alloc (.cells c0 131)) := ⟨Nat.zero_le _, rfl, (JkIs.nil w).below (box_below w _), heap_alloc_new w _⟩
theorem FromR.len {w : World} {c0 : Array Value} {el : Nat → Nat} {m i : Nat} {qs : List Nat} {v : Value} {wr : World} (h : FromR w c0 el m i qs v wr) : qs.length = i := by rw [h.tx, told_len]
theorem FromR.more {w : World} {c0 : Array Value} {el : Nat → Nat} {m i : Nat} {qs : List Nat} {v v' : Value} {wr wa w4 : World} (h : FromR w c0 el m i qs v wr) (hi : i < m) (ha : Below wr.heap.size wr wa) (hm : JkIs w v qs wa) (ho : w4.ownsRow w.heap.size 3 1 v' (qs.length + 1) (irowP qs ++ [ivP (el i)])) (hg : wa.grownBy w4 v.ownBlock) : FromR w c0 el m (i + 1) (qs ++ [el i]) v' w4 := by
  refine ⟨hi, by rw [told_snoc, h.tx], hm.more ho hg, ?_⟩
  have hb : wa.heap[w.heap.size]? = some (.cells c0 131 (0, 0)) := (ha.block _ (lt_of_block h.b0)).trans h.b0
  rw [hg.block w.heap.size (lt_of_block hb) (fun e => by
    rcases hm.own.2 with ⟨h1, _⟩ | ⟨g, cap, cur, hv, _, hh, _⟩
    · rw [h1] at e; cases e
    · rw [hv] at e
      have e2 : g = w.heap.size := by cases e; rfl
      rw [e2, hb] at hh
      have := (Obj.cells.inj (Option.some.inj hh)).2.1
      exact absurd this (by decide))]
  exact hb
theorem FromR.got {w : World} {c0 : Array Value} {el : Nat → Nat} {m : Nat} {qs : List Nat} {ao : Option Addr} {cp : Nat} {wr : World} (h : FromR w c0 el m m qs (.slice ao qs.length cp) wr) (ok : Bool) : FromGot w (told el m) ok (.returned (.tuple #[.slice ao qs.length cp, .bool ok])) wr := by
  have e := h.tx
  subst e
  exact ⟨ao, cp, rfl, owns_base h.row.own (Nat.zero_le _), h.row.bel⟩
set_option maxRecDepth 100000 in
set_option maxHeartbeats 1600000 in
theorem from_r {n : Nat} {K : Int} (hn : n ≤ 1000) (P Q : Int) (pa : Option Addr) (pn pc : Nat) (F G : ByteArray) (w : World) :
    Calls Tryz.prog 108 #[.agg #[.int .u8 114, .int .i64 P, .int .i64 Q, .int .i64 K, .slice pa pn pc, .string F, .string G], .int .i64 (n : Int)] w fun e w' => FromGot w (told (fun i => n - 1 - i) (n)) (true) e w' := by
  obtain ⟨i0, hi0, hz0, hz1, hz2⟩ := info_parts Tryz.infoInt
  have HS := hide (FromR.start w #[.int .u8 114, .int .i64 P, .int .i64 Q, .int .i64 K, .slice pa pn pc, .string F, .string G] (fun i => n - 1 - i) (n))
  go_enter Tryz.func108, Tryz.ntmps108
  go_wp2_with fail
  go_loopg [6, 8] (n) (fun kk v6 v8 wr => ∃ (i : Nat) (qs : List Nat) (ao : Option Addr) (cp : Nat), kk = n - i ∧ v8 = .int .i64 ((i : Int) + 1) ∧ v6 = .slice ao qs.length cp ∧ FromR w #[.int .u8 114, .int .i64 P, .int .i64 Q, .int .i64 K, .slice pa pn pc, .string F, .string G] (fun i => n - 1 - i) (n) i qs (.slice ao qs.length cp) wr)
  case atStart => exact ⟨0, [], none, 0, rfl, by first | rfl | simp, rfl, unhide HS⟩
  case round =>
    obtain ⟨i, qs, ao, cp, hk, rfl, rfl, hf⟩ := hrel
    have him := hf.le
    have HK := hide hk
    have HF := hide hf
    have hql : qs.length ≤ 1000 := by rw [hf.len]; omega
    have c0 : ∀ jj, wr.cell? ⟨w.heap.size, jj, none⟩ = (#[.int .u8 114, .int .i64 P, .int .i64 Q, .int .i64 K, .slice pa pn pc, .string F, .string G] : Array Value)[jj]? := fun jj => blk_cell hf.b0 jj
    have hsz := hf.row.bel.size
    have hbl := lt_of_block hf.b0
    clear hk hf
    by_cases hlt : i < n
    · have hlt' : (i : Int) + 1 ≤ (n : Int) := by omega
      have hel : (n : Int) - ((i : Int) + 1) = ((n - 1 - i : Nat) : Int) := by omega
      have HM2 := hide ((unhide HF).row.below ((Below.refl _ _).alloc (Nat.le_refl _) (.cells [ivP (n - 1 - i)].toArray 3)))
      go_wp2_with (at_builtin; refine wpList_append_own _ rfl _ _ 25 rfl w.heap.size 3 i0 _ 1 8 Tryz.underlying25 hi0 hz0 hz1 hz2 rfl (by decide) _ _ _ rfl (unhide HM2).own ⟨wr.heap.size, 0, none⟩ 1 1 [ivP (n - 1 - i)] rfl rfl (nnews_at rfl _ _) (one_ivP _) (by unfold maxLen; omega) (by omega) (by simp; omega) ?_)
      intro v' w4 hown4 hgr4 _
      have hm4 := (unhide HF).more hlt ((Below.refl _ _).alloc (Nat.le_refl _) _) (unhide HM2) hown4 hgr4
      obtain ⟨ao4, cp4, rfl⟩ := hm4.row.form
      have HM4 := hide hm4
      clear hown4 hgr4 hm4
      go_wp2_with fail
      go_roundg (n - (i + 1))
      case measure => rw [unhide HK]; omega
      case rel => exact ⟨i + 1, qs ++ [n - 1 - i], ao4, cp4, rfl, by first | rfl | (congr 1; omega), rfl, unhide HM4⟩
    · have hlt' : ¬ (i : Int) + 1 ≤ (n : Int) := by omega
      have HGot := hide (show FromGot w (told (fun i => n - 1 - i) (n)) (true) (.returned (.tuple #[.slice ao qs.length cp, .bool (true)])) wr from by
        have h := unhide HF
        rw [show i = n by omega] at h
        exact h.got (true))
      go_wp2_with fail
      exact bodyPost_ret (v := .tuple #[.slice ao qs.length cp, .bool (true)]) (by simp [results, Tryz.results108, go_sem]) rfl (unhide HGot)
set_option maxRecDepth 100000 in
set_option maxHeartbeats 1600000 in
theorem from_shift {n : Nat} {K : Int} (hK1 : -1000 ≤ K) (hK2 : K ≤ 1000) (hn : n ≤ 1000) (P Q : Int) (pa : Option Addr) (pn pc : Nat) (F G : ByteArray) (w : World) :
    Calls Tryz.prog 108 #[.agg #[.int .u8 60, .int .i64 P, .int .i64 Q, .int .i64 K, .slice pa pn pc, .string F, .string G], .int .i64 (n : Int)] w fun e w' => FromGot w (told (fromN K n) (n)) (true) e w' := by
  obtain ⟨i0, hi0, hz0, hz1, hz2⟩ := info_parts Tryz.infoInt
  have HS := hide (FromR.start w #[.int .u8 60, .int .i64 P, .int .i64 Q, .int .i64 K, .slice pa pn pc, .string F, .string G] (fromN K n) (n))
  go_enter Tryz.func108, Tryz.ntmps108
  go_wp2_with fail
  go_loopg [6, 9] (n) (fun kk v6 v9 wr => ∃ (i : Nat) (qs : List Nat) (ao : Option Addr) (cp : Nat), kk = n - i ∧ v9 = .int .i64 (i : Int) ∧ v6 = .slice ao qs.length cp ∧ FromR w #[.int .u8 60, .int .i64 P, .int .i64 Q, .int .i64 K, .slice pa pn pc, .string F, .string G] (fromN K n) (n) i qs (.slice ao qs.length cp) wr)
  case atStart => exact ⟨0, [], none, 0, rfl, by first | rfl | simp, rfl, unhide HS⟩
  case round =>
    obtain ⟨i, qs, ao, cp, hk, rfl, rfl, hf⟩ := hrel
    have him := hf.le
    have HK := hide hk
    have HF := hide hf
    have hql : qs.length ≤ 1000 := by rw [hf.len]; omega
    have c0 : ∀ jj, wr.cell? ⟨w.heap.size, jj, none⟩ = (#[.int .u8 60, .int .i64 P, .int .i64 Q, .int .i64 K, .slice pa pn pc, .string F, .string G] : Array Value)[jj]? := fun jj => blk_cell hf.b0 jj
    have hsz := hf.row.bel.size
    have hbl := lt_of_block hf.b0
    clear hk hf
    by_cases hlt : i < n
    · have hlt' : (i : Int) < (n : Int) := by omega
      have hz : ((n : Int) == 0) = false := by rw [beq_eq_false_iff_ne]; omega
      have hr1 : (((i : Int) + K).tmod (n : Int) + (n : Int)).tmod (n : Int) = ((fromN K n i : Nat) : Int) := by
        rw [rem_twice _ _ (by omega)]
        have h1 := Int.emod_nonneg ((i : Int) + K) (b := (n : Int)) (by omega)
        unfold fromN
        omega
      have hr2 : -1000 ≤ ((i : Int) + K).tmod (n : Int) ∧ ((i : Int) + K).tmod (n : Int) ≤ 1000 := by
        have a1 := Int.tmod_lt_of_pos ((i : Int) + K) (show (0 : Int) < (n : Int) by omega)
        have a2 := Int.lt_tmod_of_pos ((i : Int) + K) (show (0 : Int) < (n : Int) by omega)
        omega
      have HM2 := hide ((unhide HF).row.below ((Below.refl _ _).alloc (Nat.le_refl _) (.cells [ivP (fromN K n i)].toArray 3)))
      go_wp2_with (at_builtin; refine wpList_append_own _ rfl _ _ 25 rfl w.heap.size 3 i0 _ 1 8 Tryz.underlying25 hi0 hz0 hz1 hz2 rfl (by decide) _ _ _ rfl (unhide HM2).own ⟨wr.heap.size, 0, none⟩ 1 1 [ivP (fromN K n i)] rfl rfl (nnews_at rfl _ _) (one_ivP _) (by unfold maxLen; omega) (by omega) (by simp; omega) ?_)
      intro v' w4 hown4 hgr4 _
      have hm4 := (unhide HF).more hlt ((Below.refl _ _).alloc (Nat.le_refl _) _) (unhide HM2) hown4 hgr4
      obtain ⟨ao4, cp4, rfl⟩ := hm4.row.form
      have HM4 := hide hm4
      clear hown4 hgr4 hm4
      go_wp2_with fail
      go_roundg (n - (i + 1))
      case measure => rw [unhide HK]; omega
      case rel => exact ⟨i + 1, qs ++ [fromN K n i], ao4, cp4, rfl, rfl, rfl, unhide HM4⟩
    · have hlt' : ¬ (i : Int) < (n : Int) := by omega
      have HGot := hide (show FromGot w (told (fromN K n) (n)) (true) (.returned (.tuple #[.slice ao qs.length cp, .bool (true)])) wr from by
        have h := unhide HF
        rw [show i = n by omega] at h
        exact h.got (true))
      go_wp2_with fail
      exact bodyPost_ret (v := .tuple #[.slice ao qs.length cp, .bool (true)]) (by simp [results, Tryz.results108, go_sem]) rfl (unhide HGot)
set_option maxRecDepth 100000 in
set_option maxHeartbeats 1600000 in
theorem from_take {n k : Nat} (hk1 : k ≤ 1000) {okb : Bool} (hok : okb = decide ((k : Int) ≤ (n : Int))) (_ : n ≤ 1000) (P Q : Int) (pa : Option Addr) (pn pc : Nat) (F G : ByteArray) (w : World) :
    Calls Tryz.prog 108 #[.agg #[.int .u8 116, .int .i64 P, .int .i64 Q, .int .i64 (k : Int), .slice pa pn pc, .string F, .string G], .int .i64 (n : Int)] w fun e w' => FromGot w (told (fun i => i) (k)) (okb) e w' := by
  obtain ⟨i0, hi0, hz0, hz1, hz2⟩ := info_parts Tryz.infoInt
  have HS := hide (FromR.start w #[.int .u8 116, .int .i64 P, .int .i64 Q, .int .i64 (k : Int), .slice pa pn pc, .string F, .string G] (fun i => i) (k))
  have HOk := hide hok
  clear hok
  go_enter Tryz.func108, Tryz.ntmps108
  go_wp2_with fail
  go_loopg [6, 10] (k) (fun kk v6 v10 wr => ∃ (i : Nat) (qs : List Nat) (ao : Option Addr) (cp : Nat), kk = k - i ∧ v10 = .int .i64 (i : Int) ∧ v6 = .slice ao qs.length cp ∧ FromR w #[.int .u8 116, .int .i64 P, .int .i64 Q, .int .i64 (k : Int), .slice pa pn pc, .string F, .string G] (fun i => i) (k) i qs (.slice ao qs.length cp) wr)
  case atStart => exact ⟨0, [], none, 0, rfl, by first | rfl | simp, rfl, unhide HS⟩
  case round =>
    obtain ⟨i, qs, ao, cp, hk, rfl, rfl, hf⟩ := hrel
    have him := hf.le
    have HK := hide hk
    have HF := hide hf
    have hql : qs.length ≤ 1000 := by rw [hf.len]; omega
    have c0 : ∀ jj, wr.cell? ⟨w.heap.size, jj, none⟩ = (#[.int .u8 116, .int .i64 P, .int .i64 Q, .int .i64 (k : Int), .slice pa pn pc, .string F, .string G] : Array Value)[jj]? := fun jj => blk_cell hf.b0 jj
    have hsz := hf.row.bel.size
    have hbl := lt_of_block hf.b0
    clear hk hf
    by_cases hlt : i < k
    · have hlt' : (i : Int) < (k : Int) := by omega
      have HM2 := hide ((unhide HF).row.below ((Below.refl _ _).alloc (Nat.le_refl _) (.cells [ivP (i)].toArray 3)))
      go_wp2_with (at_builtin; refine wpList_append_own _ rfl _ _ 25 rfl w.heap.size 3 i0 _ 1 8 Tryz.underlying25 hi0 hz0 hz1 hz2 rfl (by decide) _ _ _ rfl (unhide HM2).own ⟨wr.heap.size, 0, none⟩ 1 1 [ivP (i)] rfl rfl (nnews_at rfl _ _) (one_ivP _) (by unfold maxLen; omega) (by omega) (by simp; omega) ?_)
      intro v' w4 hown4 hgr4 _
      have hm4 := (unhide HF).more hlt ((Below.refl _ _).alloc (Nat.le_refl _) _) (unhide HM2) hown4 hgr4
      obtain ⟨ao4, cp4, rfl⟩ := hm4.row.form
      have HM4 := hide hm4
      clear hown4 hgr4 hm4
      go_wp2_with fail
      go_roundg (k - (i + 1))
      case measure => rw [unhide HK]; omega
      case rel => exact ⟨i + 1, qs ++ [i], ao4, cp4, rfl, rfl, rfl, unhide HM4⟩
    · have hlt' : ¬ (i : Int) < (k : Int) := by omega
      have HGot := hide (show FromGot w (told (fun i => i) (k)) (okb) (.returned (.tuple #[.slice ao qs.length cp, .bool (okb)])) wr from by
        have h := unhide HF
        rw [show i = k by omega] at h
        exact h.got (okb))
      go_wp2_with fail
      exact bodyPost_ret (v := .tuple #[.slice ao qs.length cp, .bool (okb)]) (by rw [unhide HOk]; simp [results, Tryz.results108, go_sem]) rfl (unhide HGot)
set_option maxRecDepth 100000 in
set_option maxHeartbeats 1600000 in
theorem from_drop {n k : Nat} (hk1 : k ≤ 1000) {okb : Bool} (hok : okb = decide ((k : Int) ≤ (n : Int))) (hn : n ≤ 1000) (P Q : Int) (pa : Option Addr) (pn pc : Nat) (F G : ByteArray) (w : World) :
    Calls Tryz.prog 108 #[.agg #[.int .u8 100, .int .i64 P, .int .i64 Q, .int .i64 (k : Int), .slice pa pn pc, .string F, .string G], .int .i64 (n : Int)] w fun e w' => FromGot w (told (fun i => k + i) (n - k)) (okb) e w' := by
  obtain ⟨i0, hi0, hz0, hz1, hz2⟩ := info_parts Tryz.infoInt
  have HS := hide (FromR.start w #[.int .u8 100, .int .i64 P, .int .i64 Q, .int .i64 (k : Int), .slice pa pn pc, .string F, .string G] (fun i => k + i) (n - k))
  have HOk := hide hok
  clear hok
  go_enter Tryz.func108, Tryz.ntmps108
  go_wp2_with fail
  go_loopg [6, 11] (n - k) (fun kk v6 v11 wr => ∃ (i : Nat) (qs : List Nat) (ao : Option Addr) (cp : Nat), kk = n - k - i ∧ v11 = .int .i64 ((k + i : Nat) : Int) ∧ v6 = .slice ao qs.length cp ∧ FromR w #[.int .u8 100, .int .i64 P, .int .i64 Q, .int .i64 (k : Int), .slice pa pn pc, .string F, .string G] (fun i => k + i) (n - k) i qs (.slice ao qs.length cp) wr)
  case atStart => exact ⟨0, [], none, 0, rfl, by first | rfl | simp, rfl, unhide HS⟩
  case round =>
    obtain ⟨i, qs, ao, cp, hk, rfl, rfl, hf⟩ := hrel
    have him := hf.le
    have HK := hide hk
    have HF := hide hf
    have hql : qs.length ≤ 1000 := by rw [hf.len]; omega
    have c0 : ∀ jj, wr.cell? ⟨w.heap.size, jj, none⟩ = (#[.int .u8 100, .int .i64 P, .int .i64 Q, .int .i64 (k : Int), .slice pa pn pc, .string F, .string G] : Array Value)[jj]? := fun jj => blk_cell hf.b0 jj
    have hsz := hf.row.bel.size
    have hbl := lt_of_block hf.b0
    clear hk hf
    by_cases hlt : i < n - k
    · have hlt' : ((k + i : Nat) : Int) < (n : Int) := by omega
      have HM2 := hide ((unhide HF).row.below ((Below.refl _ _).alloc (Nat.le_refl _) (.cells [ivP (k + i)].toArray 3)))
      go_wp2_with (at_builtin; refine wpList_append_own _ rfl _ _ 25 rfl w.heap.size 3 i0 _ 1 8 Tryz.underlying25 hi0 hz0 hz1 hz2 rfl (by decide) _ _ _ rfl (unhide HM2).own ⟨wr.heap.size, 0, none⟩ 1 1 [ivP (k + i)] rfl rfl (nnews_at rfl _ _) (one_ivP _) (by unfold maxLen; omega) (by omega) (by simp; omega) ?_)
      intro v' w4 hown4 hgr4 _
      have hm4 := (unhide HF).more hlt ((Below.refl _ _).alloc (Nat.le_refl _) _) (unhide HM2) hown4 hgr4
      obtain ⟨ao4, cp4, rfl⟩ := hm4.row.form
      have HM4 := hide hm4
      clear hown4 hgr4 hm4
      go_wp2_with fail
      go_roundg (n - k - (i + 1))
      case measure => rw [unhide HK]; omega
      case rel => exact ⟨i + 1, qs ++ [k + i], ao4, cp4, rfl, by first | rfl | (congr 1; omega), rfl, unhide HM4⟩
    · have hlt' : ¬ ((k + i : Nat) : Int) < (n : Int) := by omega
      have HGot := hide (show FromGot w (told (fun i => k + i) (n - k)) (okb) (.returned (.tuple #[.slice ao qs.length cp, .bool (okb)])) wr from by
        have h := unhide HF
        rw [show i = n - k by omega] at h
        exact h.got (okb))
      go_wp2_with fail
      exact bodyPost_ret (v := .tuple #[.slice ao qs.length cp, .bool (okb)]) (by rw [unhide HOk]; simp [results, Tryz.results108, go_sem]) rfl (unhide HGot)
def PlOk (ps : List Nat) (n i : Nat) (b : Bool) : Prop := b = true ↔ ∀ p ∈ ps.take i, p < n
theorem PlOk.next {ps : List Nat} {n i : Nat} {b : Bool} (h : PlOk ps n i b) (hi : i < ps.length) : PlOk ps n (i + 1) (b && decide (ps[i] < n)) := by
  unfold PlOk at h ⊢
  rw [Bool.and_eq_true, h, decide_eq_true_iff, List.take_succ_eq_append_getElem hi]
  constructor
  · rintro ⟨h1, h2⟩ p hp
    rcases List.mem_append.1 hp with h3 | h3
    · exact h1 p h3
    · rw [List.mem_singleton.1 h3]; exact h2
  · intro h1
    exact ⟨fun p hp => h1 p (List.mem_append_left _ hp), h1 _ (List.mem_append_right _ (List.mem_singleton.2 rfl))⟩
theorem PlOk.all {ps : List Nat} {n : Nat} {b : Bool} (h : PlOk ps n ps.length b) : b = ps.all (· < n) := by
  unfold PlOk at h
  rw [List.take_length] at h
  cases b with
  | true => exact (List.all_eq_true.2 (fun p hp => by simpa using h.1 rfl p hp)).symm
  | false =>
    cases hb : ps.all (· < n) with
    | false => rfl
    | true =>
      have := h.2 (fun p hp => by simpa using List.all_eq_true.1 hb p hp)
      cases this
theorem told_places (ps : List Nat) : told (fun i => ps.getD i 0) ps.length = ps := by
  unfold told
  apply List.ext_getElem
  · simp
  · intro i h1 h2
    simp [List.getD, h2]
set_option maxRecDepth 100000 in
set_option maxHeartbeats 3200000 in
theorem from_pick {n : Nat} {ps : List Nat} {w : World} {pa : Option Addr} {pc : Nat} (hp : w.ownsRow 0 3 1 (.slice pa ps.length pc) ps.length (irowP ps)) (hpl : ps.length ≤ 1000) (hpb : ∀ i ∈ ps, i ≤ 1000) (_ : n ≤ 1000) (P Q K : Int) (F G : ByteArray) :
    Calls Tryz.prog 108 #[.agg #[.int .u8 35, .int .i64 P, .int .i64 Q, .int .i64 K, .slice pa ps.length pc, .string F, .string G], .int .i64 (n : Int)] w fun e w' => FromGot w ps (ps.all (· < n)) e w' := by
  obtain ⟨i0, hi0, hz0, hz1, hz2⟩ := info_parts Tryz.infoInt
  have HS := hide (FromR.start w #[.int .u8 35, .int .i64 P, .int .i64 Q, .int .i64 K, .slice pa ps.length pc, .string F, .string G] (fun i => ps.getD i 0) ps.length)
  have HPc := hide (fun hpos => places_cells hp hpos)
  have HPb := hide hpb
  obtain ⟨okb, hok⟩ : ∃ okb, okb = ps.all (· < n) := ⟨_, rfl⟩
  rw [← hok]
  have HOk := hide hok
  have HTo := hide (told_places ps)
  clear hp hpb hok
  go_enter Tryz.func108, Tryz.ntmps108
  go_wp2_with fail
  go_loopg [6, 7, 12] ps.length (fun kk v6 v7 v12 wr => ∃ (i : Nat) (qs : List Nat) (ao : Option Addr) (cp : Nat) (b : Bool), kk = ps.length - i ∧ v12 = .int .i64 (i : Int) ∧ v6 = .slice ao qs.length cp ∧ v7 = .bool b ∧ PlOk ps n i b ∧ FromR w #[.int .u8 35, .int .i64 P, .int .i64 Q, .int .i64 K, .slice pa ps.length pc, .string F, .string G] (fun i => ps.getD i 0) ps.length i qs (.slice ao qs.length cp) wr)
  case atStart => exact ⟨0, [], none, 0, true, rfl, rfl, rfl, rfl, by unfold PlOk; simp, unhide HS⟩
  case round =>
    obtain ⟨i, qs, ao, cp, b, hk, rfl, rfl, rfl, hpo, hf⟩ := hrel
    have him := hf.le
    have HK := hide hk
    have HF := hide hf
    have HPo := hide hpo
    have hql : qs.length ≤ 1000 := by rw [hf.len]; omega
    have c0 : ∀ jj, wr.cell? ⟨w.heap.size, jj, none⟩ = (#[.int .u8 35, .int .i64 P, .int .i64 Q, .int .i64 K, .slice pa ps.length pc, .string F, .string G] : Array Value)[jj]? := fun jj => blk_cell hf.b0 jj
    have hsz := hf.row.bel.size
    have hbl := lt_of_block hf.b0
    clear hk hpo
    by_cases hlt : i < ps.length
    · have hlt' : (i : Int) < (ps.length : Int) := by omega
      obtain ⟨gp, rfl, hgp, hcp⟩ := unhide HPc (by omega)
      have c1 := (hf.row.bel.cell (p := ⟨gp, i, none⟩) hgp).trans (hcp i hlt)
      have c1w := hcp i hlt
      have hgd : ps.getD i 0 = ps[i] := by rw [List.getD_eq_getElem?_getD, List.getElem?_eq_getElem hlt]; rfl
      have HNx := hide ((unhide HPo).next hlt)
      have hqb := unhide HPb ps[i] (List.getElem_mem hlt)
      have HMo := hide (fun (v' : Value) (wa w4 : World) (ha : Below wr.heap.size wr wa) (hm : JkIs w (.slice ao qs.length cp) qs wa) (ho : w4.ownsRow w.heap.size 3 1 v' (qs.length + 1) (irowP qs ++ [ivP ps[i]])) (hg : wa.grownBy w4 (Value.slice ao qs.length cp).ownBlock) => by
        have := (unhide HF).more hlt ha hm (by rw [hgd]; exact ho) hg
        rw [hgd] at this
        exact this)
      clear hcp hf hgd
      generalize ps[i] = q at c1 c1w HNx hqb HMo
      have HM2 := hide ((unhide HF).row.below ((Below.refl _ _).alloc (Nat.le_refl _) (.cells [ivP q].toArray 3)))
      go_wp2_with (at_builtin; refine wpList_append_own _ rfl _ _ 25 rfl w.heap.size 3 i0 _ 1 8 Tryz.underlying25 hi0 hz0 hz1 hz2 rfl (by decide) _ _ _ rfl (unhide HM2).own ⟨wr.heap.size, 0, none⟩ 1 1 [ivP q] rfl rfl (nnews_at rfl _ _) (one_ivP _) (by unfold maxLen; omega) (by omega) (by simp; omega) ?_)
      intro v' w4 hown4 hgr4 _
      have hm4 := unhide HMo _ _ _ ((Below.refl _ _).alloc (Nat.le_refl _) _) (unhide HM2) hown4 hgr4
      obtain ⟨ao4, cp4, rfl⟩ := hm4.row.form
      have c04 : ∀ jj, w4.cell? ⟨w.heap.size, jj, none⟩ = (#[.int .u8 35, .int .i64 P, .int .i64 Q, .int .i64 K, .slice (some ⟨gp, 0, none⟩) ps.length pc, .string F, .string G] : Array Value)[jj]? := fun jj => blk_cell hm4.b0 jj
      have c14 := (hm4.row.bel.cell (p := ⟨gp, i, none⟩) hgp).trans c1w
      have HM4 := hide hm4
      clear hown4 hgr4 hm4 c1w
      cases b with
      | true =>
        have HNx' := hide (show PlOk ps n (i + 1) (decide ((q : Int) < (n : Int))) by
          have h := unhide HNx
          rw [Bool.true_and] at h
          rw [show decide ((q : Int) < (n : Int)) = decide (q < n) from by rw [decide_eq_decide]; omega]
          exact h)
        generalize hdd : decide ((q : Int) < (n : Int)) = dd at HNx'
        have HDd := hide hdd
        go_wp2_with fail
        go_roundg (ps.length - (i + 1))
        case measure => rw [unhide HK]; omega
        case rel => exact ⟨i + 1, qs ++ [q], ao4, cp4, _, rfl, rfl, rfl, by first | rfl | (rw [← unhide HDd]; simp), unhide HNx', unhide HM4⟩
      | false =>
        have HNx' := hide (show PlOk ps n (i + 1) false from unhide HNx)
        go_wp2_with fail
        go_roundg (ps.length - (i + 1))
        case measure => rw [unhide HK]; omega
        case rel => exact ⟨i + 1, qs ++ [q], ao4, cp4, false, rfl, rfl, rfl, rfl, unhide HNx', unhide HM4⟩
    · have hlt' : ¬ (i : Int) < (ps.length : Int) := by omega
      have HGot := hide (show FromGot w ps okb (.returned (.tuple #[.slice ao qs.length cp, .bool b])) wr from by
        have h := unhide HF
        have h2 := unhide HPo
        rw [show i = ps.length by omega] at h h2
        have h3 := h2.all
        rw [← unhide HOk] at h3
        have h4 := h.got okb
        rw [unhide HTo, ← h3] at h4
        rw [← h3]
        exact h4)
      clear hf
      go_wp2_with fail
      exact bodyPost_ret (v := .tuple #[.slice ao qs.length cp, .bool b]) (by simp [results, Tryz.results108, go_sem]) rfl (unhide HGot)
def gather (F : Nat → Except Int Rat) : Nat → Nat → Except Int (List Rat)
  | 0, _ => .ok []
  | n + 1, k => match F k with
    | .error e => .error e
    | .ok y => match gather F n (k + 1) with
      | .error e => .error e
      | .ok ys => .ok (y :: ys)
theorem gather_shift (F : Nat → Except Int Rat) : ∀ (n k : Nat), gather F n (k + 1) = gather (fun i => F (i + 1)) n k
  | 0, _ => rfl
  | n + 1, k => by
    simp only [gather]
    rw [gather_shift F n (k + 1)]
theorem gather_each (f : Rat → Except Int Rat) : ∀ l : List Rat, gather (fun i => f (l.getD i 0)) l.length 0 = each f l
  | [] => rfl
  | x :: l => by
    simp only [List.length_cons, gather, each]
    rw [gather_shift]
    have e : (fun i => f ((x :: l).getD (i + 1) 0)) = fun i => f (l.getD i 0) := by funext i; simp [List.getD]
    rw [e, gather_each f l]
    rfl
theorem gather_scan (f : Rat → Rat → Except Int Rat) : ∀ (l : List Rat) (a : Rat), gather (fun i => foldE f a (l.take (i + 1))) l.length 0 = scan f a l
  | [], _ => rfl
  | x :: l, a => by
    simp only [List.length_cons, gather, scan, Nat.zero_add, List.take_succ_cons, List.take_zero, foldE]
    rw [gather_shift]
    cases hf : f a x with
    | error e => rfl
    | ok y =>
      have e : (fun i => foldE f a ((x :: l).take (i + 1 + 1))) = fun i => foldE f y (l.take (i + 1)) := by
        funext i
        rw [List.take_succ_cons]
        simp only [foldE, hf]
      simp only [List.take_succ_cons, foldE, hf] at e ⊢
      rw [gather_scan f l y]
      rfl
theorem gather_headed_scan (f : Rat → Rat → Except Int Rat) (x : Rat) (l : List Rat) : gather (fun i => foldE f x (l.take i)) (l.length + 1) 0 = headed (scan f) (x :: l) := by
  simp only [gather, List.take_zero, foldE, headed]
  rw [gather_shift, gather_scan]
  rfl
theorem gather_diff (f : Rat → Rat → Except Int Rat) : ∀ (l : List Rat) (a : Rat), gather (fun i => f ((a :: l).getD i 0) (l.getD i 0)) l.length 0 = diff f a l
  | [], _ => rfl
  | x :: l, a => by
    simp only [List.length_cons, gather, diff]
    rw [gather_shift]
    have e : (fun i => f ((a :: x :: l).getD (i + 1) 0) ((x :: l).getD (i + 1) 0)) = fun i => f ((x :: l).getD i 0) (l.getD i 0) := by funext i; simp [List.getD]
    rw [e, gather_diff f l x]
    rfl
theorem gather_headed_diff (f : Rat → Rat → Except Int Rat) (x : Rat) (l : List Rat) : gather (fun i => if i = 0 then .ok x else f ((x :: l).getD (i - 1) 0) ((x :: l).getD i 0)) (l.length + 1) 0 = headed (diff f) (x :: l) := by
  simp only [gather, if_true, headed]
  rw [gather_shift]
  have e : (fun i => if i + 1 = 0 then (.ok x : Except Int Rat) else f ((x :: l).getD (i + 1 - 1) 0) ((x :: l).getD (i + 1) 0)) = fun i => f ((x :: l).getD i 0) (l.getD i 0) := by
    funext i
    rw [if_neg (by omega), show i + 1 - 1 = i by omega]
    simp [List.getD]
  rw [e, gather_diff]
  rfl
theorem gather_snoc (F : Nat → Except Int Rat) : ∀ (n k : Nat), gather F (n + 1) k = (match gather F n k with | .error e => .error e | .ok ys => match F (k + n) with | .error e => .error e | .ok y => .ok (ys ++ [y]) : Except Int (List Rat))
  | 0, k => by
    simp only [gather, Nat.add_zero]
    cases F k <;> rfl
  | n + 1, k => by
    rw [gather]
    simp only [gather_snoc F n (k + 1)]
    rw [gather]
    cases F k with
    | error e => rfl
    | ok y =>
      show (match (match gather F n (k + 1) with | .error e => .error e | .ok ys => match F (k + 1 + n) with | .error e => .error e | .ok y => .ok (ys ++ [y]) : Except Int (List Rat)) with | .error e => .error e | .ok ys => .ok (y :: ys) : Except Int (List Rat)) = (match (match gather F n (k + 1) with | .error e => .error e | .ok ys => .ok (y :: ys) : Except Int (List Rat)) with | .error e => .error e | .ok ys => match F (k + (n + 1)) with | .error e => .error e | .ok y => .ok (ys ++ [y]) : Except Int (List Rat))
      rw [show k + (n + 1) = k + 1 + n by omega]
      cases gather F n (k + 1) with
      | error e => rfl
      | ok ys => cases F (k + 1 + n) <;> rfl
theorem gather_err (F : Nat → Except Int Rat) (c : Int) : ∀ (n m k : Nat), gather F n k = .error c → gather F (n + m) k = .error c
  | n, 0, k, h => h
  | n, m + 1, k, h => by
    rw [← Nat.add_assoc, gather_snoc, gather_err F c n m k h]
end Go.Proofs.YtikiaijgcjjloaaGreatDoor

import Derived.Test.YtikiaijgcjjloaaGreatDoorPart23
import Derived.Test.YtikiaijgcjjloaaGreatDoorPart16
import Derived.Deep.DeepCutAuto

/- The walks: the document's own answer: unders. -/
namespace Go.Proofs.YtikiaijgcjjloaaGreatDoor
open Go Go.RowKit M T Go.Lib

theorem rest_z (s : ByteArray) : rest s 0 = s.data.toList := by unfold rest; simp
theorem colon_lt {l : List UInt8} {d : Int} {k : Nat} (h : colonIdx l d = some k) : k < l.length := by
  have := congrArg List.length (colonIdx_at l d k h)
  rw [List.length_append, List.length_cons, List.length_take, List.length_drop] at this
  omega
theorem und_fin {s inn : ByteArray} {a c k : Nat} {ok1 ok2 : Bool} {v1 v2 : Value} {w1 w2 wf : World} (hac : a + 1 ≤ c) (hcs : c < s.size) (hi : inn = s.extract (a + 1) c) (hL : rest s a = 91 :: rest s (a + 1)) (hC : closeIdx (rest s a) 0 = some (c - a)) (hR : rest s c = 93 :: rest s (c + 1)) (hK : colonIdx (rest inn 0) 0 = some k) (hF : (ok1 = true ∧ ∃ xs ps, Whole E0 (inn.extract 0 k).data.toList (some (Tm.of ps)) ∧ w1.ownsRow 0 131 7 v1 xs.length (rrow xs) ∧ RPl w1 xs ps) ∨ (ok1 = false ∧ v1 = .slice none 0 0 ∧ Whole E0 (inn.extract 0 k).data.toList none)) (hG : (ok2 = true ∧ ∃ xs ps, Whole E0 (inn.extract (k + 1) inn.size).data.toList (some (Tm.of ps)) ∧ w2.ownsRow 0 131 7 v2 xs.length (rrow xs) ∧ RPl w2 xs ps) ∨ (ok2 = false ∧ v2 = .slice none 0 0 ∧ Whole E0 (inn.extract (k + 1) inn.size).data.toList none)) :
    ((ok1 && ok2) = true ∧ ∃ (p : Pt) (c' : Nat), ((c + 1 : Nat) : Int) = (c' : Int) ∧ c' ≤ s.size ∧ RdP E0 (rest s a) (some (p, rest s c')) ∧ RPt wf ⟨91, 0, 0, 0, none, 0, 0, inn.extract 0 k, inn.extract (k + 1) inn.size⟩ p) ∨ ((ok1 && ok2) = false ∧ RdP E0 (rest s a) none) := by
  rw [hL] at hC ⊢
  have hR' : (rest s (a + 1)).drop (c - a - 1) = 93 :: rest s (c + 1) := by rw [rest_drop, show a + 1 + (c - a - 1) = c by omega]; exact hR
  have hx : inn.data.toList = (rest s (a + 1)).take (c - a - 1) := by rw [hi, ext_rest, Nat.sub_sub]
  have hxF : (inn.extract 0 k).data.toList = ((rest s (a + 1)).take (c - a - 1)).take k := by rw [ext_rest, rest_z, hx]; rfl
  have hxG : (inn.extract (k + 1) inn.size).data.toList = ((rest s (a + 1)).take (c - a - 1)).drop (k + 1) := by
    rw [ext_rest]
    show (inn.data.toList.drop (k + 1)).take _ = _
    rw [hx]
    apply List.take_of_length_le
    have hsz : inn.size = ((rest s (a + 1)).take (c - a - 1)).length := by rw [← hx]; rfl
    rw [List.length_drop, hsz]
    exact Nat.le_refl _
  rw [rest_z, hx] at hK
  rw [hxF] at hF
  rw [hxG] at hG
  rcases hF with ⟨rfl, xs, ps, hF, _, _⟩ | ⟨rfl, _, hF⟩
  · rcases hG with ⟨rfl, ys, qs, hG, _, _⟩ | ⟨rfl, _, hG⟩
    · refine Or.inl ⟨rfl, .under (Tm.of ps) (Tm.of qs), c + 1, rfl, by omega, under_ref E0 hC hR' hK hF hG (fun f x e1 e2 => by cases e1; cases e2; rfl) (fun y e => by cases e; exact ⟨_, _, rfl, rfl, rfl⟩), rfl, ?_, ?_⟩
      · show (inn.extract 0 k).data.toList = _
        rw [hxF]
        exact (hF.sound _ rfl).2.2
      · show (inn.extract (k + 1) inn.size).data.toList = _
        rw [hxG]
        exact (hG.sound _ rfl).2.2
    · exact Or.inr ⟨rfl, under_ref E0 hC hR' hK hF hG (fun f x e1 e2 => by cases e2) (fun y e => by cases e)⟩
  · rcases hG with ⟨rfl, ys, qs, hG, _, _⟩ | ⟨rfl, _, hG⟩
    · exact Or.inr ⟨rfl, under_ref E0 hC hR' hK hF hG (fun f x e1 e2 => by cases e1) (fun y e => by cases e)⟩
    · exact Or.inr ⟨rfl, under_ref E0 hC hR' hK hF hG (fun f x e1 e2 => by cases e1) (fun y e => by cases e)⟩

set_option maxRecDepth 100000 in
set_option maxHeartbeats 3200000 in
theorem under_r {m : Nat} (hP : RPS m) (s : ByteArray) (a : Nat) (w : World) (ha : a < s.size) (h91 : s[a] = 91) (hm : s.size ≤ m + 1) (hs : s.size ≤ 1000) :
    Calls Tryz.prog 170 #[.string s, .int .i64 (a : Int)] w fun e w' => CutGot s a e w' ∧ Below w.heap.size w w' := by
  have HP := hide hP
  have HL := hide (show rest s a = 91 :: rest s (a + 1) by rw [rest_lt ha, h91])
  clear hP h91
  go_enter Tryz.func170, Tryz.ntmps170
  go_wp2_with fail
  refine (closing_c s a _ (by omega) (by omega)).mono ?_
  rintro e w' ⟨⟨c, hac, hcs, hcl, rfl⟩ | ⟨hcl, rfl⟩, rfl⟩
  · have HC := hide hcl
    clear hcl
    have hac1 : a + 1 ≤ c := by
      have := (unhide HC)
      rw [unhide HL] at this
      have := (closeIdx_pos (Or.inr rfl) this).1
      omega
    have hcn : ¬ (c : Int) < 0 := by omega
    by_cases h1 : s[c] = 93
    · have h1b : ((s[c].toNat : Int) != 93) = false := by rw [h1]; rfl
      have HR := hide (show rest s c = 93 :: rest s (c + 1) by rw [rest_lt hcs, h1])
      clear h1
      go_wp2_with fail
      have hsz := ext_size s (a + 1) c
      refine (colon_any (s.extract (a + 1) c) _ (by omega)).mono ?_
      obtain ⟨inn, hinn⟩ : ∃ inn, inn = s.extract (a + 1) c := ⟨_, rfl⟩
      have hsz2 : inn.size ≤ s.size - 1 := by rw [hinn, ByteArray.size_extract]; omega
      rw [← hinn]
      have HI := hide hinn
      clear hinn hsz
      rintro e w' ⟨⟨k, hk, rfl⟩ | ⟨hk, rfl⟩, rfl⟩
      · have hkl : k < inn.size := by have := colon_lt hk; rw [rest_len] at this; omega
        have HK := hide hk
        clear hk
        go_wp2_with fail
        have hz1 := ext_size inn 0 k
        have hz2 := ext_size inn (k + 1) inn.size
        refine (unhide HP (inn.extract 0 k) _ (by omega) (by omega)).mono ?_
        rintro e w1 ⟨⟨v1, ok1, rfl, hpf⟩, hb1⟩
        have P1 := (PB.start w rz #[.int .u8 91, .int .i64 0, .int .i64 0, .int .i64 0, .slice none 0 0, .string (inn.extract 0 k), .string (inn.extract (k + 1) inn.size)]).next hb1
        obtain ⟨_, _, hc1, hf1⟩ := P1.f
        have HP1 := hide P1
        have HF := hide hpf
        clear P1 hpf hb1
        go_wp2_with fail
        refine (unhide HP (inn.extract (k + 1) inn.size) _ (by omega) (by omega)).mono ?_
        rintro e w2 ⟨⟨v2, ok2, rfl, hpg⟩, hb2⟩
        have P2 := (unhide HP1).next hb2
        obtain ⟨hc0, hf0, hc3, _⟩ := P2.f
        have hcz : ∀ i, w2.cell? ⟨w.heap.size, i, none⟩ = (#[.int .u8 0, .int .i64 0, .int .i64 0, .int .i64 0, .slice none 0 0, .string ⟨#[]⟩, .string ⟨#[]⟩] : Array Value)[i]? := hc0
        have HPB := hide P2
        have HG := hide hpg
        clear P2 hpg hb2 hc1 hf1 HP1 hc0
        obtain ⟨bb, hbb⟩ : ∃ bb, bb = (ok1 && ok2) := ⟨_, rfl⟩
        have HFn := hide (fun wf => und_fin (wf := wf) hac1 hcs (unhide HI) (unhide HL) (unhide HC) (unhide HR) (unhide HK) (unhide HF) (unhide HG))
        rw [← hbb] at HFn
        have HBq := hide hbb
        clear HF HG hbb
        cases ok1 with
        | false =>
          go_wp2_with fail
          have hbf : bb = false := by have := unhide HBq; simpa using this
          subst hbf
          exact bodyPost_ret (v := .tuple #[RC.value ⟨91, 0, 0, 0, none, 0, 0, inn.extract 0 k, inn.extract (k + 1) inn.size⟩, .int .i64 ((c + 1 : Nat) : Int), .bool false]) (by simp [results, Tryz.results170, go_sem, hcz, RC.value, RC.cells]) rfl ⟨⟨⟨91, 0, 0, 0, none, 0, 0, inn.extract 0 k, inn.extract (k + 1) inn.size⟩, _, false, rfl, unhide HFn _⟩, st7_below (unhide HPB).bel (Nat.le_refl _) _ _ _ _ _ _ _⟩
        | true =>
          go_wp2_with fail
          have hbf : bb = ok2 := by have := unhide HBq; simpa using this
          subst hbf
          exact bodyPost_ret (v := .tuple #[RC.value ⟨91, 0, 0, 0, none, 0, 0, inn.extract 0 k, inn.extract (k + 1) inn.size⟩, .int .i64 ((c + 1 : Nat) : Int), .bool bb]) (by simp [results, Tryz.results170, go_sem, hcz, RC.value, RC.cells]) rfl ⟨⟨⟨91, 0, 0, 0, none, 0, 0, inn.extract 0 k, inn.extract (k + 1) inn.size⟩, _, bb, rfl, unhide HFn _⟩, st7_below (unhide HPB).bel (Nat.le_refl _) _ _ _ _ _ _ _⟩
      · have HK := hide hk
        clear hk
        go_wp2_with fail
        exact bodyPost_ret (v := .tuple #[RC.value ⟨91, 0, 0, 0, none, 0, 0, ⟨#[]⟩, ⟨#[]⟩⟩, .int .i64 (a : Int), .bool false]) (by simp [results, Tryz.results170, go_sem, RC.value, RC.cells]) rfl ⟨⟨⟨91, 0, 0, 0, none, 0, 0, ⟨#[]⟩, ⟨#[]⟩⟩, _, false, rfl, Or.inr ⟨rfl, by rw [unhide HL]; exact under_no_colon E0 (k := c - a) (by rw [← unhide HL]; exact unhide HC) (by have := unhide HK; rw [rest_z, unhide HI, ext_rest, ← Nat.sub_sub] at this; exact this)⟩⟩, (by repeat (first | exact Below.refl _ _ | refine below_dr ?_ _ | refine Below.drew ?_ | refine Below.setCell ?_ (by simp) _ | refine Below.alloc ?_ (by simp) _))⟩
    · have h1b : ((s[c].toNat : Int) != 93) = true := bne_t (y := 93) h1
      have HB := hide (show ∀ R, rest s c ≠ 93 :: R from fun R e => by rw [rest_lt hcs] at e; exact h1 (List.cons.inj e).1)
      clear h1
      go_wp2_with fail
      exact bodyPost_ret (v := .tuple #[RC.value ⟨91, 0, 0, 0, none, 0, 0, ⟨#[]⟩, ⟨#[]⟩⟩, .int .i64 (a : Int), .bool false]) (by simp [results, Tryz.results170, go_sem, RC.value, RC.cells]) rfl ⟨⟨⟨91, 0, 0, 0, none, 0, 0, ⟨#[]⟩, ⟨#[]⟩⟩, _, false, rfl, Or.inr ⟨rfl, by rw [unhide HL]; exact under_bad_close E0 (k := c - a) (by rw [← unhide HL]; exact unhide HC) (fun R e => unhide HB R (by rw [← e, rest_drop]; congr 1; omega))⟩⟩, (by repeat (first | exact Below.refl _ _ | refine below_dr ?_ _ | refine Below.drew ?_ | refine Below.setCell ?_ (by simp) _ | refine Below.alloc ?_ (by simp) _))⟩
  · have HC := hide hcl
    clear hcl
    go_wp2_with fail
    exact bodyPost_ret (v := .tuple #[RC.value ⟨91, 0, 0, 0, none, 0, 0, ⟨#[]⟩, ⟨#[]⟩⟩, .int .i64 (a : Int), .bool false]) (by simp [results, Tryz.results170, go_sem, RC.value, RC.cells]) rfl ⟨⟨⟨91, 0, 0, 0, none, 0, 0, ⟨#[]⟩, ⟨#[]⟩⟩, _, false, rfl, Or.inr ⟨rfl, by rw [unhide HL]; exact under_no_close E0 (by rw [← unhide HL]; exact unhide HC)⟩⟩, (by repeat (first | exact Below.refl _ _ | refine below_dr ?_ _ | refine Below.drew ?_ | refine Below.setCell ?_ (by simp) _ | refine Below.alloc ?_ (by simp) _))⟩
end Go.Proofs.YtikiaijgcjjloaaGreatDoor

/- The walks: the document's own answer: the part at a place. -/
namespace Go.Proofs.YtikiaijgcjjloaaGreatDoor
open Go Go.RowKit M T Go.Lib

def l38 : ByteArray := ⟨#[110, 118, 97, 113, 119, 117, 114, 115, 122, 112, 109, 111, 65, 66, 67, 68, 69, 70, 71, 72, 73, 74, 75, 76, 77, 78, 79, 80, 81, 82, 83, 84, 85, 86, 87, 88, 89, 90]⟩
theorem mem38 {c : UInt8} (h : c ∈ l38.data.toList) : (∃ x : Sp, x.letter = true ∧ x.first = c) ∨ (65 ≤ c.toNat ∧ c.toNat ≤ 90) := by
  unfold l38 at h
  simp only [List.mem_cons, List.not_mem_nil, or_false] at h
  rcases h with rfl | rfl | rfl | rfl | rfl | rfl | rfl | rfl | rfl | rfl | rfl | rfl | rfl | rfl | rfl | rfl | rfl | rfl | rfl | rfl | rfl | rfl | rfl | rfl | rfl | rfl | rfl | rfl | rfl | rfl | rfl | rfl | rfl | rfl | rfl | rfl | rfl | rfl
  · exact Or.inl ⟨.n, rfl, rfl⟩
  · exact Or.inl ⟨.v, rfl, rfl⟩
  · exact Or.inl ⟨.a, rfl, rfl⟩
  · exact Or.inl ⟨.q, rfl, rfl⟩
  · exact Or.inl ⟨.w, rfl, rfl⟩
  · exact Or.inl ⟨.u, rfl, rfl⟩
  · exact Or.inl ⟨.r, rfl, rfl⟩
  · exact Or.inl ⟨.s, rfl, rfl⟩
  · exact Or.inl ⟨.z, rfl, rfl⟩
  · exact Or.inl ⟨.p, rfl, rfl⟩
  · exact Or.inl ⟨.m, rfl, rfl⟩
  · exact Or.inl ⟨.o, rfl, rfl⟩
  all_goals exact Or.inr (by decide)
theorem not38 {c : UInt8} (h : c ∉ l38.data.toList) : (∀ x : Sp, x.letter = true → x.first ≠ c) ∧ (c.toNat < 65 ∨ 90 < c.toNat) := by
  constructor
  · rintro x hx rfl
    apply h
    cases x <;> first
      | (cases hx; done)
      | (simp [l38, Sp.first]; done)
  · rcases Nat.lt_or_ge c.toNat 65 with h1 | h1
    · exact Or.inl h1
    · rcases Nat.lt_or_ge 90 c.toNat with h2 | h2
      · exact Or.inr h2
      · exfalso
        apply h
        have key : ∀ n : Nat, 65 ≤ n → n ≤ 90 → UInt8.ofNat n ∈ l38.data.toList := by
          intro n a b
          have : n = 65 ∨ n = 66 ∨ n = 67 ∨ n = 68 ∨ n = 69 ∨ n = 70 ∨ n = 71 ∨ n = 72 ∨ n = 73 ∨ n = 74 ∨ n = 75 ∨ n = 76 ∨ n = 77 ∨ n = 78 ∨ n = 79 ∨ n = 80 ∨ n = 81 ∨ n = 82 ∨ n = 83 ∨ n = 84 ∨ n = 85 ∨ n = 86 ∨ n = 87 ∨ n = 88 ∨ n = 89 ∨ n = 90 := by omega
          rcases this with rfl | rfl | rfl | rfl | rfl | rfl | rfl | rfl | rfl | rfl | rfl | rfl | rfl | rfl | rfl | rfl | rfl | rfl | rfl | rfl | rfl | rfl | rfl | rfl | rfl | rfl <;> simp [l38]
        have := key c.toNat h1 h2
        simpa using this
theorem cut_letter {c : UInt8} (h : c ∈ l38.data.toList) (l : List UInt8) : ∃ p, RdP E0 (c :: l) (some (p, l)) ∧ ∀ w, RPt w ⟨c, 0, 0, 0, none, 0, 0, ⟨#[]⟩, ⟨#[]⟩⟩ p := by
  rcases mem38 h with ⟨x, hx, rfl⟩ | ⟨h1, h2⟩
  · refine ⟨.sp x, rdP_letter E0 hx l, fun w => ⟨rfl, ?_⟩⟩
    cases x <;> first | (cases hx; done) | trivial
  · exact ⟨.name c .nil, rdP_name E0 h1 h2 rfl (show True from trivial) l, fun w => rfl⟩
theorem span_c (s : ByteArray) (a : Nat) (w : World) (ha : a ≤ s.size) (hs : s.size ≤ 1000000) :
    Calls Tryz.prog 166 #[.string s, .int .i64 (a : Int), .bool true] w fun e w' => ∃ c : Nat, e = .returned (.int .i64 (c : Int)) ∧ c = a + nf s a ∧ w = w' := by
  refine (span_true s a w ha hs).mono ?_
  rintro e w' ⟨rfl, hw⟩
  exact ⟨a + nf s a, rfl, rfl, hw⟩
theorem valR_yes {w : World} {s : ByteArray} {a c2 : Nat} {c : UInt8} (hc : c = 43 ∨ c = 42 ∨ c = 61) {t b : Int} (h2 : c2 = a + nf s a) (ha : a ≤ s.size) (h : NumSaysR (s.extract a c2).data.toList t b true) : ∃ (p : Pt) (c' : Nat), (c2 : Int) = (c' : Int) ∧ c' ≤ s.size ∧ RdP E0 (c :: rest s a) (some (p, rest s c')) ∧ RPt w ⟨c, t, b, 0, none, 0, 0, ⟨#[]⟩, ⟨#[]⟩⟩ p := by
  subst h2
  rw [ext_nf] at h
  rcases h with ⟨_, h⟩ | ⟨h, _⟩
  · obtain ⟨x, h1, h2, rfl, rfl⟩ := isNum_rat h
    refine ⟨.sp (valSp c x), a + nf s a, rfl, nf_le ha, ?_, ?_⟩
    · refine rdP_val E0 hc h1 h2 (by rw [rest_nf]; exact spanF_app _) (fun y r' hr e => ?_)
      have := spanF_rat y hr
      rw [← e] at this
      rw [rest_nf, this]
      exact ⟨rfl, rfl⟩
    · rcases hc with rfl | rfl | rfl <;> exact ⟨rfl, rfl, rfl⟩
  · cases h
theorem valR_no {s : ByteArray} {a c2 : Nat} {c : UInt8} (hc : c = 43 ∨ c = 42 ∨ c = 61) {t b : Int} (h2 : c2 = a + nf s a) (h : NumSaysR (s.extract a c2).data.toList t b false) : RdP E0 (c :: rest s a) none := by
  subst h2
  rw [ext_nf] at h
  rcases h with ⟨h, _⟩ | ⟨_, h⟩
  · cases h
  · refine rdP_val_none E0 hc h (fun y r' hr e => ?_)
    have := spanF_rat y hr
    rw [← e] at this
    rw [this]
theorem cntR {w : World} {s : ByteArray} {a c2 : Nat} {c : UInt8} (hc : c = 60 ∨ c = 116 ∨ c = 100) {k : Int} {ok : Bool} (hc2 : c2 ≤ s.size) (h : (ok = true ∧ WhAt (rest s a) (cntLo c) (cntHi c) (some (k, rest s c2))) ∨ (ok = false ∧ WhAt (rest s a) (cntLo c) (cntHi c) none)) : (ok = true ∧ ∃ (p : Pt) (c' : Nat), (c2 : Int) = (c' : Int) ∧ c' ≤ s.size ∧ RdP E0 (c :: rest s a) (some (p, rest s c')) ∧ RPt w ⟨c, 0, 0, k, none, 0, 0, ⟨#[]⟩, ⟨#[]⟩⟩ p) ∨ (ok = false ∧ RdP E0 (c :: rest s a) none) := by
  rcases h with ⟨rfl, h⟩ | ⟨rfl, h⟩
  · refine Or.inl ⟨rfl, .sp (cntSp c k), c2, rfl, hc2, rdP_cnt E0 hc h, ?_⟩
    have h0 := (h.sound _ _ rfl).1
    rcases hc with rfl | rfl | rfl
    · exact ⟨rfl, rfl⟩
    · have : 0 ≤ k := h0
      exact ⟨rfl, show k = ((k.toNat : Nat) : Int) by omega⟩
    · have : 0 ≤ k := h0
      exact ⟨rfl, show k = ((k.toNat : Nat) : Int) by omega⟩
  · exact Or.inr ⟨rfl, rdP_cnt E0 hc h⟩
/-- Three blocks behind a call. -/
theorem three {w w1 : World} {o0 o1 o2 : Obj} (hb : Below (((w.alloc o0).alloc o1).alloc o2).heap.size (((w.alloc o0).alloc o1).alloc o2) w1) : w1.heap[w.heap.size]? = some o0 ∧ w1.heap[w.heap.size + 1]? = some o1 ∧ w1.heap[w.heap.size + 2]? = some o2 ∧ Below w.heap.size w w1 := by
  have hs : (((w.alloc o0).alloc o1).alloc o2).heap.size = w.heap.size + 3 := by simp
  refine ⟨?_, ?_, ?_, ?_⟩
  · rw [hb.block _ (by omega), Below.heap_alloc _ _ _ (by simp; omega), Below.heap_alloc _ _ _ (by simp)]
    exact heap_alloc_new w _
  · rw [hb.block _ (by omega), Below.heap_alloc _ _ _ (by simp)]
    exact new_at2 w _ _
  · rw [hb.block _ (by omega)]
    have := heap_alloc_new ((w.alloc o0).alloc o1) o2
    rw [World.size_alloc, World.size_alloc] at this
    exact this
  · exact ((((Below.refl _ _).alloc (Nat.le_refl _) _).alloc (by simp) _).alloc (by simp; omega) _).trans (hb.mono (by omega))
theorem RPt.keeps {w w' : World} {x : RC} {p : Pt} (h : RPt w x p) (hk : ∀ (k : Nat) (c : Array Value), w.heap[k]? = some (.cells c 3 (0, 0)) → w'.heap[k]? = w.heap[k]?) : RPt w' x p := by
  cases p with
  | sp y =>
    refine ⟨h.1, ?_⟩
    have h2 := h.2
    cases y with
    | pick ps =>
      refine ⟨h2.1, ?_⟩
      rcases h2.2 with h3 | ⟨g, cap, cur, hv, hg, hh, r⟩
      · exact Or.inl h3
      · exact Or.inr ⟨g, cap, cur, hv, hg, by rw [hk g _ hh]; exact hh, r⟩
    | _ => exact h2
  | pow f k => exact h
  | under s g => exact h
  | name c t => exact h
/-- A part of an inner function, laid into the first block. -/
theorem RPt.laid0 {w w1 : World} {c0 : Array Value} {x : RC} {p : Pt} (h : RPt w1 x p) (h0 : w1.heap[w.heap.size]? = some (.cells c0 131 (0, 0))) (u0 u1 u2 u3 u4 u5 u6 : Value) : RPt (st7 w1 w.heap.size u0 u1 u2 u3 u4 u5 u6) x p :=
  h.keeps (fun k c hk => by
    have a1 : k ≠ w.heap.size := by rintro rfl; rw [hk] at h0; cases h0
    rw [st7_heap _ _ _ _ _ _ _ _ a1])
theorem RPt.laid1 {w w1 : World} {c1 : Array Value} {x : RC} {p : Pt} (h : RPt w1 x p) (h1 : w1.heap[w.heap.size + 1]? = some (.cells c1 131 (0, 0))) (u0 u1 u2 u3 u4 u5 u6 : Value) : RPt (st7 w1 (w.heap.size + 1) u0 u1 u2 u3 u4 u5 u6) x p :=
  h.keeps (fun k c hk => by
    have a1 : k ≠ w.heap.size + 1 := by rintro rfl; rw [hk] at h1; cases h1
    rw [st7_heap _ _ _ _ _ _ _ _ a1])
theorem PB.st7 {w w1 : World} {c0 : Array Value} {k : Value} (h : PB w c0 #[k, .int .i64 0, .int .i64 0, .int .i64 0, .slice none 0 0, .string ⟨#[]⟩, .string ⟨#[]⟩] w1) (v0 v1 v2 v3 v4 v5 v6 : Value) : PB w c0 #[v0, v1, v2, v3, v4, v5, v6] (st7 w1 (w.heap.size + 1) v0 v1 v2 v3 v4 v5 v6) :=
  ((((((h.set 0 v0).set 1 v1).set 2 v2).set 3 v3).set 4 v4).set 5 v5).set 6 v6
/-- Where a part of an inner function has been laid. -/
def Laid (s : ByteArray) (a : Nat) (w : World) (v9 v10 : Value) (wx : World) : Prop :=
  ∃ (x : RC) (bz : Int) (ok : Bool), v9 = .bool ok ∧ v10 = .int .i64 bz ∧ PB w rz x.cells.toArray wx ∧ ((ok = true ∧ ∃ (p : Pt) (c : Nat), bz = (c : Int) ∧ c ≤ s.size ∧ RdP E0 (rest s a) (some (p, rest s c)) ∧ RPt wx x p) ∨ (ok = false ∧ RdP E0 (rest s a) none))
theorem Laid.of {s : ByteArray} {a : Nat} {w w1 : World} {Kd : UInt8} {P Q K : Int} {pa : Option Addr} {pn pc : Nat} {F G : ByteArray} {k : Value} {bz : Int} {ok : Bool} (h : PB w rz #[k, .int .i64 0, .int .i64 0, .int .i64 0, .slice none 0 0, .string ⟨#[]⟩, .string ⟨#[]⟩] w1) (hc : (ok = true ∧ ∃ (p : Pt) (c : Nat), bz = (c : Int) ∧ c ≤ s.size ∧ RdP E0 (rest s a) (some (p, rest s c)) ∧ RPt w1 ⟨Kd, P, Q, K, pa, pn, pc, F, G⟩ p) ∨ (ok = false ∧ RdP E0 (rest s a) none)) : Laid s a w (.bool ok) (.int .i64 bz) (st7 w1 (w.heap.size + 1) (.int .u8 (Kd.toNat : Int)) (.int .i64 P) (.int .i64 Q) (.int .i64 K) (.slice pa pn pc) (.string F) (.string G)) := by
  refine ⟨⟨Kd, P, Q, K, pa, pn, pc, F, G⟩, bz, ok, rfl, rfl, h.st7 _ _ _ _ _ _ _, ?_⟩
  rcases hc with ⟨h1, p, c', h2, h3, h4, h5⟩ | h'
  · exact Or.inl ⟨h1, p, c', h2, h3, h4, h5.laid1 h.b1 _ _ _ _ _ _ _⟩
  · exact Or.inr h'
theorem PB.behind {w w1 : World} {c0 c1 : Array Value} {o2 : Obj} (hb : Below (((w.alloc (.cells c0 131)).alloc (.cells c1 131)).alloc o2).heap.size (((w.alloc (.cells c0 131)).alloc (.cells c1 131)).alloc o2) w1) : PB w c0 c1 w1 := by
  obtain ⟨b0, b1, _, hb⟩ := three hb
  exact ⟨hb, b0, b1⟩
end Go.Proofs.YtikiaijgcjjloaaGreatDoor

/- The walks: the document's own answer: the part at a place, by its first letter. -/
namespace Go.Proofs.YtikiaijgcjjloaaGreatDoor
open Go Go.RowKit M T Go.Lib

set_option maxRecDepth 100000 in
set_option maxHeartbeats 3200000 in
theorem cut_43 {m : Nat} (hP : RPS m) (s : ByteArray) (a : Nat) (w : World) (ha : a < s.size) (hc : s[a] = 43) (_hm : s.size ≤ m + 1) (hs : s.size ≤ 1000) :
    Calls Tryz.prog 136 #[.string s, .int .i64 (a : Int)] w fun e w' => CutGot s a e w' ∧ Below w.heap.size w w' := by
  have HP := hide hP
  have HRE := hide (rest_lt ha)
  have ha1 : a + 1 ≤ s.size := by omega
  have HSA := hide hc
  rw [hc] at HRE
  clear hP
  go_enter Tryz.func136, Tryz.ntmps136
  go_wp2_with fail
  refine (among_any 43 l38 _ (by decide)).mono ?_
  rintro e w' ⟨rfl, rfl⟩
  rw [show decide ((43 : UInt8) ∈ l38.data.toList) = false from by decide]
  go_wp2_with fail
  rw [show ((a : Int) + 1) = ((a + 1 : Nat) : Int) by omega]
  refine (span_c s (a + 1) _ ha1 (by omega)).mono ?_
  rintro e w' ⟨c2, rfl, hc2e, rfl⟩
  have hc2l : c2 ≤ s.size := by rw [hc2e]; exact nf_le ha1
  have hc2g : a + 1 ≤ c2 := by omega
  have HC2 := hide hc2e
  clear hc2e
  go_wp2_with fail
  have hez := ext_size s (a + 1) c2
  refine (rRead_one (s.extract (a + 1) c2) _ (by unfold maxLen; omega)).mono ?_
  rintro e w1 ⟨t, b, ok, rfl, hsay, hb1⟩
  obtain ⟨b0, b1, b2, hbel⟩ := three hb1
  have hc0 : ∀ i, w1.cell? ⟨w.heap.size, i, none⟩ = (#[.int .u8 0, .int .i64 0, .int .i64 0, .int .i64 0, .slice none 0 0, .string ⟨#[]⟩, .string ⟨#[]⟩] : Array Value)[i]? := fun i => blk_cell b0 i
  have hf0 : ∀ i, w1.frozen? ⟨w.heap.size, i, none⟩ = false := fun i => blk_free b0 i
  have hc1 : ∀ i, w1.cell? ⟨w.heap.size + 1, i, none⟩ = (#[.int .u8 43, .int .i64 0, .int .i64 0, .int .i64 0, .slice none 0 0, .string ⟨#[]⟩, .string ⟨#[]⟩] : Array Value)[i]? := fun i => blk_cell b1 i
  have hf1 : ∀ i, w1.frozen? ⟨w.heap.size + 1, i, none⟩ = false := fun i => blk_free b1 i
  have hc2 : ∀ i, w1.cell? ⟨w.heap.size + 2, i, none⟩ = (#[.int .i64 0, .int .i64 0] : Array Value)[i]? := fun i => blk_cell b2 i
  have hf2 : ∀ i, w1.frozen? ⟨w.heap.size + 2, i, none⟩ = false := fun i => blk_free b2 i
  have HBel := hide hbel
  have HS := hide hsay
  clear b0 b1 b2 hbel hsay hb1 hez
  cases ok with
  | false =>
    go_wp2_with fail
    exact bodyPost_ret (v := .tuple #[RC.value ⟨43, t, b, 0, none, 0, 0, ⟨#[]⟩, ⟨#[]⟩⟩, .int .i64 (c2 : Int), .bool false]) (by simp [results, Tryz.results136, go_sem, hc0, RC.value, RC.cells]) rfl ⟨⟨⟨43, t, b, 0, none, 0, 0, ⟨#[]⟩, ⟨#[]⟩⟩, _, false, rfl, Or.inr ⟨rfl, by rw [unhide HRE]; exact valR_no (by decide) (unhide HC2) (unhide HS)⟩⟩, st7_below (Below.setCell (p := ⟨w.heap.size + 1, 2, none⟩) (Below.setCell (p := ⟨w.heap.size + 1, 1, none⟩) (Below.setCell (p := ⟨w.heap.size + 2, 1, none⟩) (Below.setCell (p := ⟨w.heap.size + 2, 0, none⟩) (unhide HBel) (Nat.le_add_right _ 2) _) (Nat.le_add_right _ 2) _) (Nat.le_succ _) _) (Nat.le_succ _) _) (Nat.le_refl _) _ _ _ _ _ _ _⟩
  | true =>
    go_wp2_with fail
    exact bodyPost_ret (v := .tuple #[RC.value ⟨43, t, b, 0, none, 0, 0, ⟨#[]⟩, ⟨#[]⟩⟩, .int .i64 (c2 : Int), .bool true]) (by simp [results, Tryz.results136, go_sem, hc0, RC.value, RC.cells]) rfl ⟨⟨⟨43, t, b, 0, none, 0, 0, ⟨#[]⟩, ⟨#[]⟩⟩, _, true, rfl, Or.inl ⟨rfl, by rw [unhide HRE]; exact valR_yes (by decide) (unhide HC2) ha1 (unhide HS)⟩⟩, st7_below (Below.setCell (p := ⟨w.heap.size + 1, 2, none⟩) (Below.setCell (p := ⟨w.heap.size + 1, 1, none⟩) (Below.setCell (p := ⟨w.heap.size + 2, 1, none⟩) (Below.setCell (p := ⟨w.heap.size + 2, 0, none⟩) (unhide HBel) (Nat.le_add_right _ 2) _) (Nat.le_add_right _ 2) _) (Nat.le_succ _) _) (Nat.le_succ _) _) (Nat.le_refl _) _ _ _ _ _ _ _⟩
end Go.Proofs.YtikiaijgcjjloaaGreatDoor

/- The walks: the document's own answer: the part at a place, by its first letter. -/
namespace Go.Proofs.YtikiaijgcjjloaaGreatDoor
open Go Go.RowKit M T Go.Lib

set_option maxRecDepth 100000 in
set_option maxHeartbeats 3200000 in
theorem cut_42 {m : Nat} (hP : RPS m) (s : ByteArray) (a : Nat) (w : World) (ha : a < s.size) (hc : s[a] = 42) (_hm : s.size ≤ m + 1) (hs : s.size ≤ 1000) :
    Calls Tryz.prog 136 #[.string s, .int .i64 (a : Int)] w fun e w' => CutGot s a e w' ∧ Below w.heap.size w w' := by
  have HP := hide hP
  have HRE := hide (rest_lt ha)
  have ha1 : a + 1 ≤ s.size := by omega
  have HSA := hide hc
  rw [hc] at HRE
  clear hP
  go_enter Tryz.func136, Tryz.ntmps136
  go_wp2_with fail
  refine (among_any 42 l38 _ (by decide)).mono ?_
  rintro e w' ⟨rfl, rfl⟩
  rw [show decide ((42 : UInt8) ∈ l38.data.toList) = false from by decide]
  go_wp2_with fail
  rw [show ((a : Int) + 1) = ((a + 1 : Nat) : Int) by omega]
  refine (span_c s (a + 1) _ ha1 (by omega)).mono ?_
  rintro e w' ⟨c2, rfl, hc2e, rfl⟩
  have hc2l : c2 ≤ s.size := by rw [hc2e]; exact nf_le ha1
  have hc2g : a + 1 ≤ c2 := by omega
  have HC2 := hide hc2e
  clear hc2e
  go_wp2_with fail
  have hez := ext_size s (a + 1) c2
  refine (rRead_one (s.extract (a + 1) c2) _ (by unfold maxLen; omega)).mono ?_
  rintro e w1 ⟨t, b, ok, rfl, hsay, hb1⟩
  obtain ⟨b0, b1, b2, hbel⟩ := three hb1
  have hc0 : ∀ i, w1.cell? ⟨w.heap.size, i, none⟩ = (#[.int .u8 0, .int .i64 0, .int .i64 0, .int .i64 0, .slice none 0 0, .string ⟨#[]⟩, .string ⟨#[]⟩] : Array Value)[i]? := fun i => blk_cell b0 i
  have hf0 : ∀ i, w1.frozen? ⟨w.heap.size, i, none⟩ = false := fun i => blk_free b0 i
  have hc1 : ∀ i, w1.cell? ⟨w.heap.size + 1, i, none⟩ = (#[.int .u8 42, .int .i64 0, .int .i64 0, .int .i64 0, .slice none 0 0, .string ⟨#[]⟩, .string ⟨#[]⟩] : Array Value)[i]? := fun i => blk_cell b1 i
  have hf1 : ∀ i, w1.frozen? ⟨w.heap.size + 1, i, none⟩ = false := fun i => blk_free b1 i
  have hc2 : ∀ i, w1.cell? ⟨w.heap.size + 2, i, none⟩ = (#[.int .i64 0, .int .i64 0] : Array Value)[i]? := fun i => blk_cell b2 i
  have hf2 : ∀ i, w1.frozen? ⟨w.heap.size + 2, i, none⟩ = false := fun i => blk_free b2 i
  have HBel := hide hbel
  have HS := hide hsay
  clear b0 b1 b2 hbel hsay hb1 hez
  cases ok with
  | false =>
    go_wp2_with fail
    exact bodyPost_ret (v := .tuple #[RC.value ⟨42, t, b, 0, none, 0, 0, ⟨#[]⟩, ⟨#[]⟩⟩, .int .i64 (c2 : Int), .bool false]) (by simp [results, Tryz.results136, go_sem, hc0, RC.value, RC.cells]) rfl ⟨⟨⟨42, t, b, 0, none, 0, 0, ⟨#[]⟩, ⟨#[]⟩⟩, _, false, rfl, Or.inr ⟨rfl, by rw [unhide HRE]; exact valR_no (by decide) (unhide HC2) (unhide HS)⟩⟩, st7_below (Below.setCell (p := ⟨w.heap.size + 1, 2, none⟩) (Below.setCell (p := ⟨w.heap.size + 1, 1, none⟩) (Below.setCell (p := ⟨w.heap.size + 2, 1, none⟩) (Below.setCell (p := ⟨w.heap.size + 2, 0, none⟩) (unhide HBel) (Nat.le_add_right _ 2) _) (Nat.le_add_right _ 2) _) (Nat.le_succ _) _) (Nat.le_succ _) _) (Nat.le_refl _) _ _ _ _ _ _ _⟩
  | true =>
    go_wp2_with fail
    exact bodyPost_ret (v := .tuple #[RC.value ⟨42, t, b, 0, none, 0, 0, ⟨#[]⟩, ⟨#[]⟩⟩, .int .i64 (c2 : Int), .bool true]) (by simp [results, Tryz.results136, go_sem, hc0, RC.value, RC.cells]) rfl ⟨⟨⟨42, t, b, 0, none, 0, 0, ⟨#[]⟩, ⟨#[]⟩⟩, _, true, rfl, Or.inl ⟨rfl, by rw [unhide HRE]; exact valR_yes (by decide) (unhide HC2) ha1 (unhide HS)⟩⟩, st7_below (Below.setCell (p := ⟨w.heap.size + 1, 2, none⟩) (Below.setCell (p := ⟨w.heap.size + 1, 1, none⟩) (Below.setCell (p := ⟨w.heap.size + 2, 1, none⟩) (Below.setCell (p := ⟨w.heap.size + 2, 0, none⟩) (unhide HBel) (Nat.le_add_right _ 2) _) (Nat.le_add_right _ 2) _) (Nat.le_succ _) _) (Nat.le_succ _) _) (Nat.le_refl _) _ _ _ _ _ _ _⟩
end Go.Proofs.YtikiaijgcjjloaaGreatDoor

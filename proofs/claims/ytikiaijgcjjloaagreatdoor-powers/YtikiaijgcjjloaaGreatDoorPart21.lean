import Derived.Test.YtikiaijgcjjloaaGreatDoorPart20
import Derived.Test.YtikiaijgcjjloaaGreatDoorPart13
import Derived.Laws.Runes

/- The walks: the program's sessions: New, Facts, Define. -/
namespace Go.Proofs.YtikiaijgcjjloaaGreatDoor
open Go Go.RowKit M T Go.Lib

theorem ncells_get (nm : Nat → Option Nat) : ∀ i, i < 26 → (ncells nm)[i]? = some (ptr (nm i))
  | 0, _ => rfl | 1, _ => rfl | 2, _ => rfl | 3, _ => rfl | 4, _ => rfl | 5, _ => rfl | 6, _ => rfl | 7, _ => rfl | 8, _ => rfl | 9, _ => rfl | 10, _ => rfl | 11, _ => rfl | 12, _ => rfl | 13, _ => rfl | 14, _ => rfl | 15, _ => rfl | 16, _ => rfl | 17, _ => rfl | 18, _ => rfl | 19, _ => rfl | 20, _ => rfl | 21, _ => rfl | 22, _ => rfl | 23, _ => rfl | 24, _ => rfl | 25, _ => rfl
  | n + 26, h => by omega
def nmPut (nm : Nat → Option Nat) (i : Nat) (b : Nat) : Nat → Option Nat := fun j => if j = i then some b else nm j
theorem ncells_set (nm : Nat → Option Nat) (b : Nat) : ∀ i, i < 26 → (ncells nm).setIfInBounds i (ptr (some b)) = ncells (nmPut nm i b)
  | 0, _ => rfl | 1, _ => rfl | 2, _ => rfl | 3, _ => rfl | 4, _ => rfl | 5, _ => rfl | 6, _ => rfl | 7, _ => rfl | 8, _ => rfl | 9, _ => rfl | 10, _ => rfl | 11, _ => rfl | 12, _ => rfl | 13, _ => rfl | 14, _ => rfl | 15, _ => rfl | 16, _ => rfl | 17, _ => rfl | 18, _ => rfl | 19, _ => rfl | 20, _ => rfl | 21, _ => rfl | 22, _ => rfl | 23, _ => rfl | 24, _ => rfl | 25, _ => rfl
  | n + 26, h => by omega
theorem ncells_size (nm : Nat → Option Nat) : (ncells nm).size = 26 := rfl
/-- A session of the program. -/
structure SesIs (w : World) (xb : Nat) (nm : Nat → Option Nat) (env : Env) : Prop where
  blk : w.heap[xb]? = some (.cells (ncells nm) 65 (0, 0))
  names : NmIs w.heap.size w nm env
  env : EnvOk env
theorem SesIs.below {w w' : World} {xb : Nat} {nm : Nat → Option Nat} {env : Env} (h : SesIs w xb nm env) (hb : Below w.heap.size w w') : SesIs w' xb nm env :=
  ⟨by rw [hb.block xb (lt_of_block h.blk)]; exact h.blk, ⟨fun c h1 h2 b hb' => by
    obtain ⟨t, a1, a2, a3⟩ := h.names.known c h1 h2 b hb'
    exact ⟨t, a1, a2, a3.keeps (fun k hk _ => ⟨hb.block k hk, Nat.lt_of_lt_of_le hk hb.size⟩)⟩, h.names.unknown⟩, h.env⟩
def noEnv : Env := fun _ => none
theorem noEnv_ok : EnvOk noEnv := ⟨fun c b h => (by cases h), fun _ _ => rfl⟩

set_option maxRecDepth 100000 in
set_option maxHeartbeats 800000 in
theorem new_any (w : World) : Calls Tryz.prog 22 #[] w fun e w' => e = .returned (.pointer (some ⟨w.heap.size, 0, none⟩)) ∧ w' = w.alloc (.cells (ncells fun _ => none) 65) := by
  go_enter Tryz.func22, Tryz.ntmps22
  go_wp2_with fail
  go_ret
  exact ⟨rfl, rfl⟩
theorem new_SesIs (w : World) : SesIs (w.alloc (.cells (ncells fun _ => none) 65)) w.heap.size (fun _ => none) noEnv :=
  ⟨heap_alloc_new w _, ⟨fun c _ _ b h => (by cases h), fun _ _ _ _ => rfl⟩, noEnv_ok⟩

set_option maxRecDepth 100000 in
set_option maxHeartbeats 1600000 in
theorem facts_any {env : Env} (s : ByteArray) {xb : Nat} {nm : Nat → Option Nat} (w : World) (h : SesIs w xb nm env) :
    Calls Tryz.prog 21 #[.pointer (some ⟨xb, 0, none⟩), .string s] w fun e w' => ∃ n c, e = .returned (.tuple #[.int .i64 n, .int .i64 c]) ∧ FactsSays env s.data.toList n c ∧ Below w.heap.size w w' := by
  have hblk := h.blk
  have H := hide h
  clear h
  go_enter Tryz.func21, Tryz.ntmps21
  go_wp2_with (refine wpList_load_row rfl 63 (.tmp 13) rfl xb rfl 65 (ncells nm) (0, 0) _ hblk Tryz.underlying63 rfl Tryz.infoNames ?_)
  refine (tRead_any (unhide H).env s nm _ (unhide H).names).mono ?_
  rintro e w1 ⟨⟨c, hc, rfl⟩ | ⟨t, tb, hg, ht, rfl⟩, hb1⟩
  · have HC := hide hc
    have HB1 := hide hb1
    have hne : (c != 0) = true := by rw [bne_iff_ne]; exact hc.ne
    clear hc hb1
    go_wp2_with fail
    exact bodyPost_ret (v := .tuple #[.int .i64 0, .int .i64 c]) (by simp [results, Tryz.results21, go_sem]) rfl ⟨0, c, rfl, Or.inl ⟨unhide HC, rfl⟩, unhide HB1⟩
  · obtain ⟨c1, c2, c3, c4⟩ := ht.cells
    have HG := hide hg
    have HB1 := hide hb1
    have HF := hide (show factsNum t = (if t.back then 1 else 0) + (if t.picker then 2 else 0) + (if t.plain then 4 else 0) from rfl)
    clear hg ht hb1 hblk
    generalize hx1 : t.back = f1 at c2 HF
    generalize hx2 : t.picker = f2 at c3 HF
    generalize hx3 : t.plain = f3 at c4 HF
    clear hx1 hx2 hx3
    cases f1 <;> cases f2 <;> cases f3
    all_goals
      go_wp2_with fail
      exact bodyPost_ret (v := .tuple #[.int .i64 (factsNum t), .int .i64 0]) (by rw [unhide HF]; simp [results, Tryz.results21, go_sem]) rfl ⟨factsNum t, 0, rfl, Or.inr ⟨t, unhide HG, rfl, rfl⟩, unhide HB1⟩

/-! ### Sessions are no terms -/
def Ty (w : World) (k : Nat) : Prop := ∃ c ty, w.heap[k]? = some (.cells c ty (0, 0)) ∧ ty ≠ 65
theorem owns_ty {w : World} {e : TypeId} {size : Nat} {v : Value} {n : Nat} {xs : List Value} (h : w.ownsRow 0 e size v n xs) (he : e ≠ 65) : ∀ g, v.ownBlock = some g → Ty w g := by
  intro g hg
  rcases h.2 with ⟨h2, _⟩ | ⟨g', cap, cur, hv, _, hh, _⟩
  · rw [h2] at hg; cases hg
  · rw [hv] at hg; cases hg
    exact ⟨cur, e, hh, he⟩
theorem Hd.typed {Ok : Nat → Prop} {w : World} {b : Nat} {t : Tm} {sl : Value} {xs : List PC} (h : Hd Ok w b t sl xs) : Hd (fun k => Ok k ∧ Ty w k) w b t sl xs :=
  ⟨⟨h.ok, _, _, h.blk, by decide⟩, h.blk, h.row, fun g hg => ⟨h.rok g hg, owns_ty h.row (by decide) g hg⟩⟩
theorem SpIs.typed {Ok : Nat → Prop} {w : World} {x : PC} {y : Sp} (h : SpIs Ok w x y) : SpIs (fun k => Ok k ∧ Ty w k) w x y := by
  refine ⟨h.1, ?_⟩
  have h2 := h.2
  cases y <;> first
    | exact ⟨h2.1, fun g hg => ⟨h2.2 g hg, owns_ty h2.1 (by decide) g hg⟩⟩
    | exact h2
mutual
theorem PtIs.typed {Ok : Nat → Prop} {w : World} : ∀ (p : Pt) (x : PC), PtIs Ok w x p → PtIs (fun k => Ok k ∧ Ty w k) w x p
  | .sp y, x, h => by rw [PtIs] at h ⊢; exact h.typed
  | .pow f k, x, h => by
    rw [PtIs] at h ⊢
    obtain ⟨h1, h2, b, sl, xs, h3, h4, h5⟩ := h
    exact ⟨h1, h2, b, sl, xs, h3, h4.typed, PsIs.typed f xs h5⟩
  | .under s g, x, h => by
    rw [PtIs] at h ⊢
    obtain ⟨h1, ⟨b, sl, xs, h3, h4, h5⟩, b', sl', xs', h3', h4', h5'⟩ := h
    exact ⟨h1, ⟨b, sl, xs, h3, h4.typed, PsIs.typed g xs h5⟩, b', sl', xs', h3', h4'.typed, PsIs.typed s xs' h5'⟩
  | .name c t, x, h => by
    rw [PtIs] at h ⊢
    obtain ⟨h1, h2, b, sl, xs, h3, h4, h5⟩ := h
    exact ⟨h1, h2, b, sl, xs, h3, h4.typed, PsIs.typed t xs h5⟩
theorem PsIs.typed {Ok : Nat → Prop} {w : World} : ∀ (t : Tm) (l : List PC), PsIs Ok w l t → PsIs (fun k => Ok k ∧ Ty w k) w l t
  | .nil, l, h => by rw [PsIs] at h ⊢; exact h
  | .cons p t, l, h => by
    rw [PsIs] at h ⊢
    obtain ⟨x, xs, h1, h2, h3⟩ := h
    exact ⟨x, xs, h1, PtIs.typed p x h2, PsIs.typed t xs h3⟩
end
theorem TmIs.typed {Ok : Nat → Prop} {w : World} {b : Nat} {t : Tm} (h : TmIs Ok w b t) : TmIs (fun k => Ok k ∧ Ty w k) w b t := by
  obtain ⟨sl, xs, h1, h2⟩ := h
  exact ⟨sl, xs, h1.typed, PsIs.typed t xs h2⟩
theorem ty_ne {w : World} {xb k : Nat} {c : Array Value} (hx : w.heap[xb]? = some (.cells c 65 (0, 0))) (h : Ty w k) : k ≠ xb := by
  rintro rfl
  obtain ⟨c', ty, h1, h2⟩ := h
  rw [hx] at h1
  cases h1
  exact h2 rfl
theorem TmIs.but {Ok : Nat → Prop} {w w' : World} {xb b : Nat} {t : Tm} {c : Array Value} (h : TmIs Ok w b t) (hx : w.heap[xb]? = some (.cells c 65 (0, 0))) (hb : But xb w w') : TmIs (fun k => k < w'.heap.size) w' b t :=
  h.typed.keeps (fun k hk hl => ⟨hb.block k hl (ty_ne hx hk.2), Nat.lt_of_lt_of_le hl hb.size⟩)
/-- Another session. -/
theorem SesIs.but {w w' : World} {xb yb : Nat} {nm : Nat → Option Nat} {env : Env} {c : Array Value} (h : SesIs w yb nm env) (hx : w.heap[xb]? = some (.cells c 65 (0, 0))) (hb : But xb w w') (hne : yb ≠ xb) : SesIs w' yb nm env :=
  ⟨by rw [hb.block yb (lt_of_block h.blk) hne]; exact h.blk, ⟨fun c h1 h2 b hb' => by
    obtain ⟨t, a1, a2, a3⟩ := h.names.known c h1 h2 b hb'
    exact ⟨t, a1, a2, a3.but hx hb⟩, h.names.unknown⟩, h.env⟩
theorem SesIs.put {w w1 : World} {xb : Nat} {nm : Nat → Option Nat} {env : Env} (h : SesIs w xb nm env) (hb : Below w.heap.size w w1) {c : UInt8} (h1 : 65 ≤ c.toNat) (h2 : c.toNat ≤ 90) {tb : Nat} {t : Tm} {Ok : Nat → Prop} (ht : TmIs Ok w1 tb t) (hw : t.wf) : SesIs (w1.setCell ⟨xb, c.toNat - 65, none⟩ (.pointer (some ⟨tb, 0, none⟩))) xb (nmPut nm (c.toNat - 65) tb) (env.put c t) := by
  have hs1 := h.below hb
  have hbut : But xb w1 (w1.setCell ⟨xb, c.toNat - 65, none⟩ (.pointer (some ⟨tb, 0, none⟩))) := (But.refl _ _).setCell _ _
  refine ⟨by rw [blk_set hs1.blk, ← ncells_set nm tb (c.toNat - 65) (by omega)]; rfl, ⟨fun d d1 d2 b hb' => ?_, fun d d1 d2 hb' => ?_⟩, ⟨fun d b hd => ?_, fun d hd => ?_⟩⟩
  · unfold nmPut at hb'
    by_cases e : d.toNat - 65 = c.toNat - 65
    · rw [if_pos e] at hb'
      cases hb'
      have hdc : d = c := UInt8.toNat_inj.1 (by omega)
      subst hdc
      exact ⟨t, by unfold Env.put; simp, hw, ht.but hs1.blk hbut⟩
    · rw [if_neg e] at hb'
      obtain ⟨t', a1, a2, a3⟩ := hs1.names.known d d1 d2 b hb'
      have hdc : d ≠ c := by rintro rfl; exact e rfl
      exact ⟨t', by unfold Env.put; rw [if_neg hdc]; exact a1, a2, a3.but hs1.blk hbut⟩
  · unfold nmPut at hb'
    by_cases e : d.toNat - 65 = c.toNat - 65
    · rw [if_pos e] at hb'; cases hb'
    · rw [if_neg e] at hb'
      have hdc : d ≠ c := by rintro rfl; exact e rfl
      unfold Env.put
      rw [if_neg hdc]
      exact hs1.names.unknown d d1 d2 hb'
  · unfold Env.put at hd
    by_cases e : d = c
    · rw [if_pos e] at hd; cases hd; exact hw
    · rw [if_neg e] at hd; exact h.env.wf d b hd
  · unfold Env.put
    rw [if_neg (by rintro rfl; omega)]
    exact h.env.dom d hd
theorem name_one {name : ByteArray} (h : name.size = 1) : name.data.toList = [name[0]'(by omega)] := by
  have := rest_lt (s := name) (a := 0) (by omega)
  rw [rest_zero, rest_ge (by omega)] at this
  exact this

set_option maxRecDepth 100000 in
set_option maxHeartbeats 1600000 in
theorem define_any {env : Env} (name s : ByteArray) {xb : Nat} {nm : Nat → Option Nat} (w : World) (h : SesIs w xb nm env) :
    Calls Tryz.prog 38 #[.pointer (some ⟨xb, 0, none⟩), .string name, .string s] w fun e w' => ∃ c env' nm', e = .returned (.int .i64 c) ∧ DefineSays env name.data.toList s.data.toList c env' ∧ SesIs w' xb nm' env' ∧ But xb w w' := by
  have hblk := h.blk
  have H := hide h
  clear h
  by_cases h1 : name.size = 1
  · have hne : (((name.size : Nat) : Int) != 1) = false := by rw [h1]; rfl
    have hix : (0 : Int) < (name.size : Int) := by omega
    have HN := hide (name_one h1)
    have h10 : 0 < name.size := by omega
    obtain ⟨c, hc⟩ : ∃ c, name[0] = c := ⟨_, rfl⟩
    by_cases h2 : 65 ≤ c.toNat ∧ c.toNat ≤ 90
    · obtain ⟨h2, h3⟩ := h2
      go_enter Tryz.func38, Tryz.ntmps38
      go_wp2_with fail
      refine (place_yes c h2 h3 _).mono ?_
      rintro e w' ⟨rfl, rfl⟩
      go_wp2_with (refine wpList_load_row rfl 63 (.tmp 26) rfl xb rfl 65 (ncells nm) (0, 0) _ hblk Tryz.underlying63 rfl Tryz.infoNames ?_)
      refine (tRead_any (unhide H).env s nm _ (unhide H).names).mono ?_
      rintro e w1 ⟨⟨k, hk, rfl⟩ | ⟨t, tb, hg, ht, rfl⟩, hb1⟩
      · have hke : (k != 0) = true := by rw [bne_iff_ne]; exact hk.ne
        have HC := hide hk
        have HB1 := hide hb1
        clear hk hb1
        go_wp2_with fail
        go_ret
        exact ⟨k, env, nm, rfl, Or.inr ⟨c, by rw [unhide HN, hc], h2, h3, Or.inl ⟨unhide HC, rfl⟩⟩, (unhide H).below (unhide HB1), But.of_below (unhide HB1)⟩
      · have hs1 := (unhide H).below hb1
        have hcell : w1.cell? ⟨xb, c.toNat - 65, none⟩ = some (ptr (nm (c.toNat - 65))) := by rw [blk_cell hs1.blk]; exact ncells_get nm _ (by omega)
        have hfr : w1.frozen? ⟨xb, c.toNat - 65, none⟩ = false := blk_free hs1.blk _
        have hix2 : ((c.toNat - 65 : Nat) : Int) < 26 := by omega
        have HP := hide ((unhide H).put hb1 h2 h3 ht hg.term.wf)
        have HG := hide hg
        have HB1 := hide hb1
        clear hg ht hb1 hs1
        go_wp2_with fail
        go_ret
        exact ⟨0, env.put c t, nmPut nm (c.toNat - 65) tb, rfl, Or.inr ⟨c, by rw [unhide HN, hc], h2, h3, Or.inr ⟨t, unhide HG, rfl, rfl⟩⟩, unhide HP, (But.of_below (unhide HB1)).setCell _ _⟩
    · have h2' : c.toNat < 65 ∨ 90 < c.toNat := by omega
      have H2 := hide h2
      clear h2
      go_enter Tryz.func38, Tryz.ntmps38
      go_wp2_with fail
      refine (place_no c h2' _).mono ?_
      rintro e w' ⟨rfl, rfl⟩
      go_wp2_with fail
      go_ret
      exact ⟨4, env, nm, rfl, Or.inl ⟨by rintro ⟨d, hd, d1, d2⟩; rw [unhide HN, hc] at hd; cases hd; exact unhide H2 ⟨d1, d2⟩, rfl, rfl⟩, unhide H, But.refl _ _⟩
  · have hne : (((name.size : Nat) : Int) != 1) = true := by rw [bne_iff_ne]; omega
    have H1 := hide h1
    clear h1
    go_enter Tryz.func38, Tryz.ntmps38
    go_wp2_with fail
    go_ret
    exact ⟨4, env, nm, rfl, Or.inl ⟨by
      rintro ⟨d, hd, _, _⟩
      have := congrArg List.length hd
      exact unhide H1 (by simpa using this), rfl, rfl⟩, unhide H, But.refl _ _⟩
end Go.Proofs.YtikiaijgcjjloaaGreatDoor

/- The walks: places written; a row of parts read. -/
namespace Go.Proofs.YtikiaijgcjjloaaGreatDoor
open Go Go.RowKit M T Go.Lib

theorem encode_small (c : UInt8) (h : c.toNat < 128) : Utf8.encode (c.toNat : Int) = ⟨#[c]⟩ := by
  have hv : Utf8.valid (c.toNat : Int) = true := by unfold Utf8.valid; simp; omega
  unfold Utf8.encode
  simp only [hv, if_true, Int.toNat_natCast]
  rw [if_pos h]
  simp
theorem itoa_any (n : Int) (w : World) (h0 : -4000000000000000000 ≤ n) (h1 : n ≤ 4000000000000000000) (ht : Tab w) :
    Calls Tryz.prog 14 #[.int .i64 n] w fun e w' => e = .returned (.string ⟨(itoa n).toArray⟩) ∧ Below w.heap.size w w' :=
  (Tryz.strconv_Itoa n (by omega) (by omega) w ht).mono fun _ _ ⟨he, k, os, hw⟩ => ⟨he, hw ▸ below_gr w k os⟩
/-- Cell i of part j of a row. -/
theorem row_cell {w : World} {B : Nat} {e : TypeId} {g n cap : Nat} {xs : List PC} (h : w.ownsRow B e 8 (.slice (some ⟨g, 0, none⟩) n cap) xs.length (rowCells xs)) {j : Nat} (hj : j < xs.length) (i : Nat) (hi : i < 8) : w.cell? ⟨g, j * 8 + i, none⟩ = (xs[j].cells)[i]? := by
  have key : ∀ (ys : List PC) (j : Nat) (hj : j < ys.length), (rowCells ys)[j * 8 + i]? = (ys[j].cells)[i]? := by
    intro ys
    induction ys with
    | nil => intro j hj; simp at hj
    | cons y ys ih =>
      intro j hj
      have e : rowCells (y :: ys) = y.cells ++ rowCells ys := rfl
      cases j with
      | zero =>
        rw [e, List.getElem?_append_left (by rw [PC.cells_length]; omega)]
        simp
      | succ j =>
        rw [e, List.getElem?_append_right (by rw [PC.cells_length]; omega), PC.cells_length, show (j + 1) * 8 + i - 8 = j * 8 + i by omega, ih j (by simpa using hj)]
        simp
  have hlt : i < (xs[j].cells).length := by rw [PC.cells_length]; exact hi
  have := h.cells (g := g) rfl (j * 8 + i) ((xs[j].cells)[i]) (by rw [key xs j hj]; exact List.getElem?_eq_getElem hlt)
  rw [show (⟨g, 0, none⟩ : Addr).add (j * 8 + i) = ⟨g, j * 8 + i, none⟩ from by unfold Addr.add; split <;> simp_all] at this
  rw [this, List.getElem?_eq_getElem hlt]
theorem owns_len {w : World} {B : Nat} {e : TypeId} {size : Nat} {a : Option Addr} {m cap : Nat} {n : Nat} {xs : List Value} (h : w.ownsRow B e size (.slice a m cap) n xs) : m = n := by
  rcases h.2 with ⟨h2, h3⟩ | ⟨g', cap', cur, hv, _⟩
  · cases h2; exact h3.symm
  · cases hv; rfl
theorem dots_step (ps : List Nat) (j : Nat) (hj : j < ps.length) : dots (ps.take (j + 1)) = dots (ps.take j) ++ ((if j = 0 then [] else [46]) ++ decDigits ps[j]) := by
  rw [List.take_succ_eq_append_getElem hj, dots_pre]
  by_cases h : j = 0
  · subst h
    simp [pre, dots]
  · rw [if_neg h]
    have key : ∀ (qs : List Nat), qs ≠ [] → pre qs = dots qs ++ [46] := by
      intro qs hq
      obtain ⟨l, k, e⟩ := (List.eq_nil_or_concat qs).resolve_left hq
      rw [List.concat_eq_append] at e
      subst e
      rw [dots_pre]
      simp [pre]
    rw [key _ (fun e => by have := List.length_take (i := j) (l := ps); rw [e] at this; simp only [List.length_nil] at this; omega)]
    simp
theorem dots_len (ps : List Nat) : ∀ j, (∀ i ∈ ps, i < 12) → (dots (ps.take j)).length ≤ 3 * ps.length := by
  intro j hs
  have key : ∀ qs : List Nat, (∀ i ∈ qs, i < 12) → (dots qs).length ≤ 3 * qs.length := by
    intro qs
    induction qs with
    | nil => intro _; simp [dots]
    | cons q qs ih =>
      intro hq
      have h1 : (decDigits q).length ≤ 2 := dec_len_le 2 q (by decide) (by have := hq q (by simp); omega)
      by_cases hn : qs = []
      · subst hn; simp [dots]; omega
      · rw [dots_cons q qs hn]
        have := ih (fun i hi => hq i (by simp [hi]))
        simp
        omega
  have h1 := key (ps.take j) (fun i hi => hs i (List.mem_of_mem_take hi))
  have h2 : (ps.take j).length ≤ ps.length := by simp; omega
  omega

set_option maxRecDepth 100000 in
set_option maxHeartbeats 1600000 in
theorem placesText_any (g cap : Nat) (ps : List Nat) (w : World) (hc : ∀ i (h : i < ps.length), w.cell? ⟨g, i, none⟩ = some (.int .i64 (ps[i] : Int))) (hg : g < w.heap.size) (hs : ∀ i ∈ ps, i < 12) (hl : ps.length ≤ 100000) (ht : Tab w) :
    Calls Tryz.prog 142 #[.slice (some ⟨g, 0, none⟩) ps.length cap] w fun e w' => e = .returned (.string ⟨(dots ps).toArray⟩) ∧ Below w.heap.size w w' := by
  have HT := hide ht
  clear ht
  go_enter Tryz.func142, Tryz.ntmps142
  go_wp2_with fail
  go_loopw [3, 4, 5, 8] (fun v _ _ i wr => ∃ j : Nat, j ≤ ps.length ∧ i = .int .i64 (j : Int) ∧ v = .string ⟨(dots (ps.take j)).toArray⟩ ∧ Below w.heap.size w wr) (fun _ _ _ i _ => ps.length - (RowKit.intOf i).toNat)
  case atStart => exact ⟨0, by omega, rfl, rfl, Below.refl _ _⟩
  case round =>
    obtain ⟨j, hj, rfl, rfl, hb⟩ := hrel
    have hdl := dots_len ps j hs
    have HB := hide hb
    by_cases hlt : j < ps.length
    · have hcj : wr.cell? ⟨g, j, none⟩ = some (.int .i64 (ps[j] : Int)) := (hb.cell (p := ⟨g, j, none⟩) hg).trans (hc j hlt)
      have HS := hide (dots_step ps j hlt)
      have h12 := hs ps[j] (List.getElem_mem hlt)
      have hd2 : (decDigits ps[j]).length ≤ 2 := dec_len_le 2 _ (by decide) (by omega)
      have HI := hide (itoa_nat (ps[j] : Int) (by omega))
      by_cases h0 : j = 0
      · have h0' : ¬ (0 : Int) < (j : Int) := by omega
        have H0 := hide h0
        clear hb h0
        go_wp2_with fail
        refine (itoa_any _ _ (by omega) (by omega) (tab_below (unhide HT) (unhide HB))).mono ?_
        rintro e w1 ⟨rfl, hb1⟩
        rw [unhide HI, Int.toNat_natCast]
        have HB1 := hide ((unhide HB).trans (hb1.mono (unhide HB).size))
        clear hb1
        go_wp2_with fail
        go_roundw
        case rel => exact ⟨j + 1, by omega, by go_num, by rw [unhide HS, if_pos (unhide H0)]; simp [str_app], unhide HB1⟩
        case measure => simp [RowKit.intOf]; omega
      · have h0' : (0 : Int) < (j : Int) := by omega
        have H0 := hide h0
        clear hb h0
        go_wp2_with fail
        refine (itoa_any _ _ (by omega) (by omega) (tab_below (unhide HT) (unhide HB))).mono ?_
        rintro e w1 ⟨rfl, hb1⟩
        rw [unhide HI, Int.toNat_natCast]
        have HB1 := hide ((unhide HB).trans (hb1.mono (unhide HB).size))
        clear hb1
        go_wp2_with fail
        go_roundw
        case rel => exact ⟨j + 1, by omega, by go_num, by rw [unhide HS, if_neg (unhide H0)]; simp [str_app], unhide HB1⟩
        case measure => simp [RowKit.intOf]; omega
    · have hlt' : ¬ (j : Int) < (ps.length : Int) := by omega
      have hje : j = ps.length := by omega
      have HE := hide (show ps.take j = ps by rw [hje, List.take_length])
      clear hb hje
      go_wp2_with fail
      go_ret
      exact ⟨ret_str (by rw [unhide HE]), unhide HB⟩
end Go.Proofs.YtikiaijgcjjloaaGreatDoor

import Derived.Test.YtikiaijgcjjloaaGreatDoorPart42
import Derived.Test.YtikiaijgcjjloaaGreatDoorPart36
import Derived.Test.YtikiaijgcjjloaaGreatDoorPart37
import Derived.BigQuiet
import Derived.WalkSmall

namespace Go.Proofs.YtikiaijgcjjloaaGreatDoor
open Go Go.RowKit M T Go.Lib
theorem each_oks (g : Rat → Rat) : ∀ l : List Rat, each (fun x => .ok (g x)) l = .ok (l.map g)
  | [] => rfl
  | x :: l => by simp only [each]; rw [each_oks g l]; rfl
theorem getD_at {l : List Rat} {i : Nat} (h : i < l.length) : l.getD i 0 = l[i] := by rw [List.getD_eq_getElem?_getD, List.getElem?_eq_getElem h]; rfl
theorem RWGot.of {w : World} {r r' : Except Int (List Rat)} {e : Ending} {w' : World} (h : r = r') (g : RWGot w r e w') : RWGot w r' e w' := h ▸ g
theorem picked_ext {idx : List Nat} {l m : List Rat} (hl : idx.length = m.length) (h : ∀ i (h1 : i < idx.length) (h2 : i < m.length), l.getD idx[i] 0 = m[i]) : picked idx l = m := by
  unfold picked
  apply List.ext_getElem
  · simpa using hl
  · intro i h1 h2
    rw [List.getElem_map]
    exact h i (by simpa using h1) h2
theorem told_get (el : Nat → Nat) (m i : Nat) (h : i < (told el m).length) : (told el m)[i] = el i := by simp [told]
theorem work_n {P Q K : Int} {pa : Option Addr} {pn pc : Nat} {F G : ByteArray} {l : List Rat} {ao : Option Addr} {cap : Nat} {w : World} (h : RL w ao cap l) :
    Calls Tryz.prog 72 #[.agg #[.int .u8 110, .int .i64 P, .int .i64 Q, .int .i64 K, .slice pa pn pc, .string F, .string G], .slice ao l.length cap] w fun e w' => RWGot w (Sp.work .n l) e w' := by
  have hs := h.small
  refine (work_items (Kd := 110) (E := fun i => .ok (-(l.getD i 0))) (by decide) (by decide) h (fun W i hi hW => item_alone hW hi _ _ K pa pn pc F G (by decide) (fun W' => ?_))).mono (fun e w' g => g.of ?_)
  · have hx := hs l[i] (List.getElem_mem hi)
    show Calls Tryz.prog 150 _ _ fun e w' => RQGot ((fun x => .ok (-x)) (l.getD i 0)) e ∧ _
    rw [getD_at hi]
    generalize l[i] = x at hx
    exact alone_n hx P Q K pa pn pc F G W'
  · rw [gather_each (fun x => .ok (-x)) l]
    exact each_oks _ l
theorem work_a {P Q K : Int} {pa : Option Addr} {pn pc : Nat} {F G : ByteArray} {l : List Rat} {ao : Option Addr} {cap : Nat} {w : World} (h : RL w ao cap l) :
    Calls Tryz.prog 72 #[.agg #[.int .u8 97, .int .i64 P, .int .i64 Q, .int .i64 K, .slice pa pn pc, .string F, .string G], .slice ao l.length cap] w fun e w' => RWGot w (Sp.work .a l) e w' := by
  have hs := h.small
  refine (work_items (Kd := 97) (E := fun i => .ok (absR (l.getD i 0))) (by decide) (by decide) h (fun W i hi hW => item_alone hW hi _ _ K pa pn pc F G (by decide) (fun W' => ?_))).mono (fun e w' g => g.of ?_)
  · have hx := hs l[i] (List.getElem_mem hi)
    show Calls Tryz.prog 150 _ _ fun e w' => RQGot ((fun x => .ok (absR x)) (l.getD i 0)) e ∧ _
    rw [getD_at hi]
    generalize l[i] = x at hx
    by_cases h0 : x < 0
    · exact alone_aneg h0 hx P Q K pa pn pc F G W'
    · exact alone_apos h0 hx P Q K pa pn pc F G W'
  · rw [gather_each (fun x => .ok (absR x)) l]
    exact each_oks _ l
theorem work_v {P Q K : Int} {pa : Option Addr} {pn pc : Nat} {F G : ByteArray} {l : List Rat} {ao : Option Addr} {cap : Nat} {w : World} (h : RL w ao cap l) :
    Calls Tryz.prog 72 #[.agg #[.int .u8 118, .int .i64 P, .int .i64 Q, .int .i64 K, .slice pa pn pc, .string F, .string G], .slice ao l.length cap] w fun e w' => RWGot w (Sp.work .v l) e w' := by
  have hs := h.small
  refine (work_items (Kd := 118) (E := fun i => overE (l.getD i 0)) (by decide) (by decide) h (fun W i hi hW => item_alone hW hi _ _ K pa pn pc F G (by decide) (fun W' => ?_))).mono (fun e w' g => g.of ?_)
  · have hx := hs l[i] (List.getElem_mem hi)
    show Calls Tryz.prog 150 _ _ fun e w' => RQGot ((fun x => overE x) (l.getD i 0)) e ∧ _
    rw [getD_at hi]
    generalize l[i] = x at hx
    exact alone_v hx P Q K pa pn pc F G W'
  · rw [gather_each (fun x => overE x) l]
    rfl
theorem work_w {P Q K : Int} {pa : Option Addr} {pn pc : Nat} {F G : ByteArray} {l : List Rat} {ao : Option Addr} {cap : Nat} {w : World} (h : RL w ao cap l) :
    Calls Tryz.prog 72 #[.agg #[.int .u8 119, .int .i64 P, .int .i64 Q, .int .i64 K, .slice pa pn pc, .string F, .string G], .slice ao l.length cap] w fun e w' => RWGot w (Sp.work .w l) e w' := by
  have hs := h.small
  refine (work_items (Kd := 119) (E := fun i => rootE (l.getD i 0)) (by decide) (by decide) h (fun W i hi hW => item_alone hW hi _ _ K pa pn pc F G (by decide) (fun W' => ?_))).mono (fun e w' g => g.of ?_)
  · have hx := hs l[i] (List.getElem_mem hi)
    show Calls Tryz.prog 150 _ _ fun e w' => RQGot ((fun x => rootE x) (l.getD i 0)) e ∧ _
    rw [getD_at hi]
    generalize l[i] = x at hx
    exact alone_w hx P Q K pa pn pc F G W'
  · rw [gather_each (fun x => rootE x) l]
    rfl
theorem work_u {P Q K : Int} {pa : Option Addr} {pn pc : Nat} {F G : ByteArray} {l : List Rat} {ao : Option Addr} {cap : Nat} {w : World} (h : RL w ao cap l) :
    Calls Tryz.prog 72 #[.agg #[.int .u8 117, .int .i64 P, .int .i64 Q, .int .i64 K, .slice pa pn pc, .string F, .string G], .slice ao l.length cap] w fun e w' => RWGot w (Sp.work .u l) e w' := by
  have hs := h.small
  refine (work_items (Kd := 117) (E := fun i => uE (l.getD i 0)) (by decide) (by decide) h (fun W i hi hW => item_alone hW hi _ _ K pa pn pc F G (by decide) (fun W' => ?_))).mono (fun e w' g => g.of ?_)
  · have hx := hs l[i] (List.getElem_mem hi)
    show Calls Tryz.prog 150 _ _ fun e w' => RQGot ((fun x => uE x) (l.getD i 0)) e ∧ _
    rw [getD_at hi]
    generalize l[i] = x at hx
    by_cases h0 : x < 0
    · exact alone_uneg h0 hx P Q K pa pn pc F G W'
    · exact alone_upos h0 hx P Q K pa pn pc F G W'
  · rw [gather_each (fun x => uE x) l]
    rfl
theorem work_q {P Q K : Int} {pa : Option Addr} {pn pc : Nat} {F G : ByteArray} {l : List Rat} {ao : Option Addr} {cap : Nat} {w : World} (h : RL w ao cap l) :
    Calls Tryz.prog 72 #[.agg #[.int .u8 113, .int .i64 P, .int .i64 Q, .int .i64 K, .slice pa pn pc, .string F, .string G], .slice ao l.length cap] w fun e w' => RWGot w (Sp.work .q l) e w' := by
  have hs := h.small
  refine (work_items (Kd := 113) (E := fun i => lim ((l.getD i 0) * (l.getD i 0))) (by decide) (by decide) h (fun W i hi hW => item_alone hW hi _ _ K pa pn pc F G (by decide) (fun W' => ?_))).mono (fun e w' g => g.of ?_)
  · have hx := hs l[i] (List.getElem_mem hi)
    show Calls Tryz.prog 150 _ _ fun e w' => RQGot ((fun x => lim (x * x)) (l.getD i 0)) e ∧ _
    rw [getD_at hi]
    generalize l[i] = x at hx
    exact alone_q hx P Q K pa pn pc F G W'
  · rw [gather_each (fun x => lim (x * x)) l]
    rfl
theorem work_plus {d : Rat} {K : Int} {pa : Option Addr} {pn pc : Nat} {F G : ByteArray} {l : List Rat} {ao : Option Addr} {cap : Nat} {w : World} (hd : small d = true) (h : RL w ao cap l) :
    Calls Tryz.prog 72 #[.agg #[.int .u8 43, .int .i64 d.num, .int .i64 (d.den : Int), .int .i64 K, .slice pa pn pc, .string F, .string G], .slice ao l.length cap] w fun e w' => RWGot w (Sp.work (.plus d) l) e w' := by
  have hs := h.small
  refine (work_items (Kd := 43) (E := fun i => lim ((l.getD i 0) + d)) (by decide) (by decide) h (fun W i hi hW => item_alone hW hi _ _ K pa pn pc F G (by decide) (fun W' => ?_))).mono (fun e w' g => g.of ?_)
  · have hx := hs l[i] (List.getElem_mem hi)
    show Calls Tryz.prog 150 _ _ fun e w' => RQGot ((fun x => lim (x + d)) (l.getD i 0)) e ∧ _
    rw [getD_at hi]
    generalize l[i] = x at hx
    exact alone_plus hd hx K pa pn pc F G W'
  · rw [gather_each (fun x => lim (x + d)) l]
    rfl
theorem work_times {d : Rat} {K : Int} {pa : Option Addr} {pn pc : Nat} {F G : ByteArray} {l : List Rat} {ao : Option Addr} {cap : Nat} {w : World} (hd : small d = true) (h : RL w ao cap l) :
    Calls Tryz.prog 72 #[.agg #[.int .u8 42, .int .i64 d.num, .int .i64 (d.den : Int), .int .i64 K, .slice pa pn pc, .string F, .string G], .slice ao l.length cap] w fun e w' => RWGot w (Sp.work (.times d) l) e w' := by
  have hs := h.small
  refine (work_items (Kd := 42) (E := fun i => lim ((l.getD i 0) * d)) (by decide) (by decide) h (fun W i hi hW => item_alone hW hi _ _ K pa pn pc F G (by decide) (fun W' => ?_))).mono (fun e w' g => g.of ?_)
  · have hx := hs l[i] (List.getElem_mem hi)
    show Calls Tryz.prog 150 _ _ fun e w' => RQGot ((fun x => lim (x * d)) (l.getD i 0)) e ∧ _
    rw [getD_at hi]
    generalize l[i] = x at hx
    exact alone_times hd hx K pa pn pc F G W'
  · rw [gather_each (fun x => lim (x * d)) l]
    rfl
theorem work_set {d : Rat} {K : Int} {pa : Option Addr} {pn pc : Nat} {F G : ByteArray} {l : List Rat} {ao : Option Addr} {cap : Nat} {w : World} (hd : small d = true) (h : RL w ao cap l) :
    Calls Tryz.prog 72 #[.agg #[.int .u8 61, .int .i64 d.num, .int .i64 (d.den : Int), .int .i64 K, .slice pa pn pc, .string F, .string G], .slice ao l.length cap] w fun e w' => RWGot w (Sp.work (.set d) l) e w' := by
  have hs := h.small
  refine (work_items (Kd := 61) (E := fun i => .ok d) (by decide) (by decide) h (fun W i hi hW => item_alone hW hi _ _ K pa pn pc F G (by decide) (fun W' => ?_))).mono (fun e w' g => g.of ?_)
  · have hx := hs l[i] (List.getElem_mem hi)
    show Calls Tryz.prog 150 _ _ fun e w' => RQGot (.ok d) e ∧ _
    generalize l[i] = x at hx
    exact alone_set hd hx K pa pn pc F G W'
  · rw [show gather (fun i => (.ok d : Except Int Rat)) l.length 0 = each (fun _ => .ok d) l from gather_each (fun _ => .ok d) l]
    exact each_oks (fun _ => d) l
theorem work_s {P Q K : Int} {pa : Option Addr} {pn pc : Nat} {F G : ByteArray} {l : List Rat} {ao : Option Addr} {cap : Nat} {w : World} (h : RL w ao cap l) :
    Calls Tryz.prog 72 #[.agg #[.int .u8 115, .int .i64 P, .int .i64 Q, .int .i64 K, .slice pa pn pc, .string F, .string G], .slice ao l.length cap] w fun e w' => RWGot w (Sp.work .s l) e w' := by
  refine (work_items (Kd := 115) (E := fun i => foldE addE (l.headD 0) (l.tail.take i)) (by decide) (by decide) h (fun W i hi hW => item_s hW hi P Q K pa pn pc F G)).mono (fun e w' g => g.of ?_)
  cases l with
  | nil => rfl
  | cons x0 l' => exact gather_headed_scan addE x0 l'
theorem work_p {P Q K : Int} {pa : Option Addr} {pn pc : Nat} {F G : ByteArray} {l : List Rat} {ao : Option Addr} {cap : Nat} {w : World} (h : RL w ao cap l) :
    Calls Tryz.prog 72 #[.agg #[.int .u8 112, .int .i64 P, .int .i64 Q, .int .i64 K, .slice pa pn pc, .string F, .string G], .slice ao l.length cap] w fun e w' => RWGot w (Sp.work .p l) e w' := by
  refine (work_items (Kd := 112) (E := fun i => foldE mulE (l.headD 0) (l.tail.take i)) (by decide) (by decide) h (fun W i hi hW => item_p hW hi P Q K pa pn pc F G)).mono (fun e w' g => g.of ?_)
  cases l with
  | nil => rfl
  | cons x0 l' => exact gather_headed_scan mulE x0 l'
theorem work_mm {P Q K : Int} {pa : Option Addr} {pn pc : Nat} {F G : ByteArray} {l : List Rat} {ao : Option Addr} {cap : Nat} {w : World} (h : RL w ao cap l) :
    Calls Tryz.prog 72 #[.agg #[.int .u8 109, .int .i64 P, .int .i64 Q, .int .i64 K, .slice pa pn pc, .string F, .string G], .slice ao l.length cap] w fun e w' => RWGot w (Sp.work .m l) e w' := by
  refine (work_m (E := fun i => foldE mulE (l.headD 0) (l.tail.take i)) h (fun W i hi hW => item_m hW hi P Q K pa pn pc F G)).mono (fun e w' g => g.of ?_)
  show mE (zeroAhead l) _ = if zeroAhead l then .error 2 else headed (scan mulE) l
  unfold mE
  cases zeroAhead l with
  | true => rfl
  | false =>
    cases l with
    | nil => rfl
    | cons x0 l' => exact gather_headed_scan mulE x0 l'
theorem work_z {P Q K : Int} {pa : Option Addr} {pn pc : Nat} {F G : ByteArray} {l : List Rat} {ao : Option Addr} {cap : Nat} {w : World} (h : RL w ao cap l) :
    Calls Tryz.prog 72 #[.agg #[.int .u8 122, .int .i64 P, .int .i64 Q, .int .i64 K, .slice pa pn pc, .string F, .string G], .slice ao l.length cap] w fun e w' => RWGot w (Sp.work .z l) e w' := by
  refine (work_items (Kd := 122) (E := fun i => if i = 0 then .ok (l.headD 0) else subE (l.getD (i - 1) 0) (l.getD i 0)) (by decide) (by decide) h (fun W i hi hW => by
    show Calls _ _ _ _ fun e w' => RQGot (if i = 0 then .ok (l.headD 0) else subE (l.getD (i - 1) 0) (l.getD i 0)) e ∧ _
    cases i with
    | zero =>
      have := item_z0 rfl hW hi P Q K pa pn pc F G
      rw [if_pos rfl]
      cases l with
      | nil => simp at hi
      | cons x0 l' => exact this
    | succ j =>
      rw [if_neg (by omega), show j + 1 - 1 = j from rfl, getD_at hi, getD_at (show j < l.length by omega)]
      exact item_z1 hW hi P Q K pa pn pc F G)).mono (fun e w' g => g.of ?_)
  cases l with
  | nil => rfl
  | cons x0 l' => exact gather_headed_diff subE x0 l'
theorem work_o {P Q K : Int} {pa : Option Addr} {pn pc : Nat} {F G : ByteArray} {l : List Rat} {ao : Option Addr} {cap : Nat} {w : World} (h : RL w ao cap l) :
    Calls Tryz.prog 72 #[.agg #[.int .u8 111, .int .i64 P, .int .i64 Q, .int .i64 K, .slice pa pn pc, .string F, .string G], .slice ao l.length cap] w fun e w' => RWGot w (Sp.work .o l) e w' := by
  refine (work_items (Kd := 111) (E := fun i => if i = 0 then .ok (l.headD 0) else divE (l.getD (i - 1) 0) (l.getD i 0)) (by decide) (by decide) h (fun W i hi hW => by
    show Calls _ _ _ _ fun e w' => RQGot (if i = 0 then .ok (l.headD 0) else divE (l.getD (i - 1) 0) (l.getD i 0)) e ∧ _
    cases i with
    | zero =>
      have := item_o0 rfl hW hi P Q K pa pn pc F G
      rw [if_pos rfl]
      cases l with
      | nil => simp at hi
      | cons x0 l' => exact this
    | succ j =>
      rw [if_neg (by omega), show j + 1 - 1 = j from rfl, getD_at hi, getD_at (show j < l.length by omega)]
      exact item_o1 hW hi P Q K pa pn pc F G)).mono (fun e w' g => g.of ?_)
  cases l with
  | nil => rfl
  | cons x0 l' => exact gather_headed_diff divE x0 l'
theorem mem_told {el : Nat → Nat} {m q : Nat} (h : q ∈ told el m) : ∃ i, i < m ∧ q = el i := by
  unfold told at h
  obtain ⟨i, hi, rfl⟩ := List.mem_map.1 h
  exact ⟨i, List.mem_range.1 hi, rfl⟩
theorem work_r {P Q K : Int} {pa : Option Addr} {pn pc : Nat} {F G : ByteArray} {l : List Rat} {ao : Option Addr} {cap : Nat} {w : World} (h : RL w ao cap l) :
    Calls Tryz.prog 72 #[.agg #[.int .u8 114, .int .i64 P, .int .i64 Q, .int .i64 K, .slice pa pn pc, .string F, .string G], .slice ao l.length cap] w fun e w' => RWGot w (Sp.work .r l) e w' := by
  have hlen := h.len
  refine (work_moves (Kd := 114) (idx := told (fun i => l.length - 1 - i) l.length) (ok := true) (by decide) (by rw [told_len]; exact hlen) (fun _ q hq => ?_) h (fun W _ => from_r hlen P Q pa pn pc F G W)).mono (fun e w' g => g.of ?_)
  · obtain ⟨i, hi, rfl⟩ := mem_told hq
    omega
  · show Except.ok (picked _ l) = .ok l.reverse
    congr 1
    refine picked_ext (by rw [told_len, List.length_reverse]) (fun i h1 h2 => ?_)
    rw [told_len] at h1
    rw [told_get, List.getElem_reverse, getD_at (by omega)]
theorem work_shift {P Q K : Int} {pa : Option Addr} {pn pc : Nat} {F G : ByteArray} {l : List Rat} {ao : Option Addr} {cap : Nat} {w : World} (hK1 : -1000 ≤ K) (hK2 : K ≤ 1000) (h : RL w ao cap l) :
    Calls Tryz.prog 72 #[.agg #[.int .u8 60, .int .i64 P, .int .i64 Q, .int .i64 K, .slice pa pn pc, .string F, .string G], .slice ao l.length cap] w fun e w' => RWGot w (Sp.work (.shift K) l) e w' := by
  have hlen := h.len
  refine (work_moves (Kd := 60) (idx := told (fromN K l.length) l.length) (ok := true) (by decide) (by rw [told_len]; exact hlen) (fun _ q hq => ?_) h (fun W _ => from_shift hK1 hK2 hlen P Q pa pn pc F G W)).mono (fun e w' g => g.of ?_)
  · obtain ⟨i, hi, rfl⟩ := mem_told hq
    exact fromN_lt (by omega)
  · show Except.ok (picked _ l) = .ok (turn K l)
    congr 1
    refine picked_ext (by rw [told_len, turn_length]) (fun i h1 h2 => ?_)
    rw [told_len] at h1
    have hf : fromN K l.length i < l.length := fromN_lt (by omega)
    have ht := turn_get K l i h1
    rw [List.getElem?_eq_getElem h2, List.getElem?_eq_getElem hf] at ht
    rw [told_get, getD_at hf]
    exact (Option.some.inj ht).symm
theorem work_take {P Q : Int} {k : Nat} {pa : Option Addr} {pn pc : Nat} {F G : ByteArray} {l : List Rat} {ao : Option Addr} {cap : Nat} {w : World} (hk : k ≤ 1000) (h : RL w ao cap l) :
    Calls Tryz.prog 72 #[.agg #[.int .u8 116, .int .i64 P, .int .i64 Q, .int .i64 (k : Int), .slice pa pn pc, .string F, .string G], .slice ao l.length cap] w fun e w' => RWGot w (Sp.work (.take k) l) e w' := by
  have hlen := h.len
  refine (work_moves (Kd := 116) (idx := told (fun i => i) k) (ok := decide ((k : Int) ≤ (l.length : Int))) (by decide) (by rw [told_len]; exact hk) (fun ho q hq => ?_) h (fun W _ => from_take hk rfl hlen P Q pa pn pc F G W)).mono (fun e w' g => g.of ?_)
  · obtain ⟨i, hi, rfl⟩ := mem_told hq
    have := of_decide_eq_true ho
    omega
  · show (if decide ((k : Int) ≤ (l.length : Int)) = true then _ else _) = if k ≤ l.length then _ else _
    by_cases hkl : k ≤ l.length
    · rw [if_pos (decide_eq_true (by omega)), if_pos hkl]
      congr 1
      refine picked_ext (by rw [told_len, List.length_take]; omega) (fun i h1 h2 => ?_)
      rw [told_len] at h1
      rw [told_get, List.getElem_take, getD_at (by omega)]
    · rw [if_neg (by simp; omega), if_neg hkl]
theorem work_drop {P Q : Int} {k : Nat} {pa : Option Addr} {pn pc : Nat} {F G : ByteArray} {l : List Rat} {ao : Option Addr} {cap : Nat} {w : World} (hk : k ≤ 1000) (h : RL w ao cap l) :
    Calls Tryz.prog 72 #[.agg #[.int .u8 100, .int .i64 P, .int .i64 Q, .int .i64 (k : Int), .slice pa pn pc, .string F, .string G], .slice ao l.length cap] w fun e w' => RWGot w (Sp.work (.drop k) l) e w' := by
  have hlen := h.len
  refine (work_moves (Kd := 100) (idx := told (fun i => k + i) (l.length - k)) (ok := decide ((k : Int) ≤ (l.length : Int))) (by decide) (by rw [told_len]; omega) (fun ho q hq => ?_) h (fun W _ => from_drop hk rfl hlen P Q pa pn pc F G W)).mono (fun e w' g => g.of ?_)
  · obtain ⟨i, hi, rfl⟩ := mem_told hq
    omega
  · show (if decide ((k : Int) ≤ (l.length : Int)) = true then _ else _) = if k ≤ l.length then _ else _
    by_cases hkl : k ≤ l.length
    · rw [if_pos (decide_eq_true (by omega)), if_pos hkl]
      congr 1
      refine picked_ext (by rw [told_len, List.length_drop]) (fun i h1 h2 => ?_)
      rw [told_len] at h1
      rw [told_get, List.getElem_drop, getD_at (by omega)]
    · rw [if_neg (by simp; omega), if_neg hkl]
theorem work_pick {P Q K : Int} {ps : List Nat} {pa : Option Addr} {pc : Nat} {F G : ByteArray} {l : List Rat} {ao : Option Addr} {cap : Nat} {w : World} (hp : w.ownsRow 0 3 1 (.slice pa ps.length pc) ps.length (irowP ps)) (hpl : ps.length ≤ 1000) (hpb : ∀ i ∈ ps, i ≤ 1000) (h : RL w ao cap l) :
    Calls Tryz.prog 72 #[.agg #[.int .u8 35, .int .i64 P, .int .i64 Q, .int .i64 K, .slice pa ps.length pc, .string F, .string G], .slice ao l.length cap] w fun e w' => RWGot w (Sp.work (.pick ps) l) e w' := by
  have hlen := h.len
  refine (work_moves (Kd := 35) (idx := ps) (ok := ps.all (· < l.length)) (by decide) hpl (fun ho q hq => ?_) h (fun W hW => from_pick (owns_belowP hp hW) hpl hpb hlen P Q K F G)).mono (fun e w' g => g.of ?_)
  · simpa using List.all_eq_true.1 ho q hq
  · rfl
theorem nodup_short {ps : List Nat} (hn : ps.Nodup) (hb : ∀ i ∈ ps, i < 12) : ps.length ≤ 1000 := by
  have := List.Nodup.length_le_of_subset hn (fun i hi => List.mem_range.2 (hb i hi))
  simp at this
  omega
theorem work_any {y : Sp} {x : RC} {l : List Rat} {ao : Option Addr} {cap : Nat} {w : World} (hw : y.wf) (hx : RPt w x (.sp y)) (h : RL w ao cap l) :
    Calls Tryz.prog 72 #[RC.value x, .slice ao l.length cap] w fun e w' => RWGot w (y.work l) e w' := by
  obtain ⟨Kd, P, Q, K, pa, pn, pc, F, G⟩ := x
  obtain ⟨h1, h2⟩ := hx
  cases y with
  | n => obtain rfl : Kd = 110 := h1; exact work_n h
  | v => obtain rfl : Kd = 118 := h1; exact work_v h
  | a => obtain rfl : Kd = 97 := h1; exact work_a h
  | q => obtain rfl : Kd = 113 := h1; exact work_q h
  | w => obtain rfl : Kd = 119 := h1; exact work_w h
  | u => obtain rfl : Kd = 117 := h1; exact work_u h
  | r => obtain rfl : Kd = 114 := h1; exact work_r h
  | s => obtain rfl : Kd = 115 := h1; exact work_s h
  | z => obtain rfl : Kd = 122 := h1; exact work_z h
  | p => obtain rfl : Kd = 112 := h1; exact work_p h
  | m => obtain rfl : Kd = 109 := h1; exact work_mm h
  | o => obtain rfl : Kd = 111 := h1; exact work_o h
  | plus c => obtain rfl : Kd = 43 := h1; obtain ⟨e1, e2⟩ := h2; obtain rfl : P = c.num := e1; obtain rfl : Q = (c.den : Int) := e2; exact work_plus hw h
  | times c => obtain rfl : Kd = 42 := h1; obtain ⟨e1, e2⟩ := h2; obtain rfl : P = c.num := e1; obtain rfl : Q = (c.den : Int) := e2; exact work_times hw h
  | set c => obtain rfl : Kd = 61 := h1; obtain ⟨e1, e2⟩ := h2; obtain rfl : P = c.num := e1; obtain rfl : Q = (c.den : Int) := e2; exact work_set hw h
  | shift k => obtain rfl : Kd = 60 := h1; obtain rfl : K = k := h2; exact work_shift (by have := hw.1; show -1000 ≤ K; omega) (by have := hw.2; show K ≤ 1000; omega) h
  | take k => obtain rfl : Kd = 116 := h1; obtain rfl : K = (k : Int) := h2; exact work_take (by have : k ≤ 12 := hw; omega) h
  | drop k => obtain rfl : Kd = 100 := h1; obtain rfl : K = (k : Int) := h2; exact work_drop (by have : k ≤ 12 := hw; omega) h
  | pick ps =>
    obtain rfl : Kd = 35 := h1
    have hp : w.ownsRow 0 3 1 (.slice pa pn pc) ps.length (irowP ps) := h2
    obtain rfl : pn = ps.length := owns_len hp
    exact work_pick hp (nodup_short hw.2.1 hw.2.2) (fun i hi => by have := hw.2.2 i hi; omega) h
structure SlC where
  ao : Option Addr
  cap : Nat
  l : List Rat
def SlC.value (c : SlC) : Value := .slice c.ao c.l.length c.cap
def awrow (ls : List SlC) : List Value := ls.map SlC.value
theorem awrow_snoc (ls : List SlC) (c : SlC) : awrow ls ++ [c.value] = awrow (ls ++ [c]) := by unfold awrow; simp
theorem awrow_length (ls : List SlC) : (awrow ls).length = ls.length := by unfold awrow; simp
def awayOf (ls : List SlC) : List (List Rat) := ls.reverse.map SlC.l
theorem awayOf_snoc (ls : List SlC) (c : SlC) : awayOf (ls ++ [c]) = c.l :: awayOf ls := by unfold awayOf; simp
structure DkIs (w : World) (db : Nat) (c : SlC) (av : Value) (ls : List SlC) : Prop where
  blk : w.heap[db]? = some (.cells #[c.value, av] 127 (0, 0))
  cur : RL w c.ao c.cap c.l
  aw : w.ownsRow 0 116 1 av ls.length (awrow ls)
  rl : ∀ a ∈ ls, RL w a.ao a.cap a.l
theorem RL.kept {w w' : World} {ao : Option Addr} {cap : Nat} {l : List Rat} (h : RL w ao cap l) (hk : ∀ (k : Nat) (c : Array Value), w.heap[k]? = some (.cells c 129 (0, 0)) → w'.heap[k]? = w.heap[k]?) : RL w' ao cap l := by
  refine ⟨⟨h.own.1, ?_⟩, h.small, h.len⟩
  rcases h.own.2 with h2 | ⟨g, cp, cur, hv, hg, hh, r⟩
  · exact Or.inl h2
  · exact Or.inr ⟨g, cp, cur, hv, hg, (hk g cur hh).trans hh, r⟩
theorem DkIs.row_ty {w : World} {db : Nat} {c : SlC} {av : Value} {ls : List SlC} (h : DkIs w db c av ls) {g : Nat} (hg : av.ownBlock = some g) : ∃ c, w.heap[g]? = some (.cells c 116 (0, 0)) := by
  rcases h.aw.2 with ⟨h1, _⟩ | ⟨g', cap, cur, hv, _, hh, _⟩
  · rw [h1] at hg; cases hg
  · rw [hv] at hg; cases hg; exact ⟨cur, hh⟩
theorem Fc.otherD {db : Nat} {c : SlC} {av av' : Value} {ls : List SlC} {w w' : World} (h : Fc db av w av' w') (hd : DkIs w db c av ls) {k : Nat} {cc : Array Value} {ty : TypeId} (hk : w.heap[k]? = some (.cells cc ty (0, 0))) (h1 : ty ≠ 127) (h2 : ty ≠ 116) : w'.heap[k]? = w.heap[k]? := by
  refine h.chg.block k (lt_of_block hk) (fun e => ?_) (fun e => ?_)
  · rw [e] at hk; exact h1 (blk_ty hk hd.blk)
  · obtain ⟨c', hc'⟩ := hd.row_ty e
    exact h2 (blk_ty hk hc')
theorem DkIs.below {w w' : World} {db : Nat} {c : SlC} {av : Value} {ls : List SlC} (h : DkIs w db c av ls) (hb : Below w.heap.size w w') : DkIs w' db c av ls :=
  ⟨(hb.block _ (lt_of_block h.blk)).trans h.blk, h.cur.below hb, owns_belowP h.aw hb, fun a ha => (h.rl a ha).below hb⟩
theorem DkIs.setCur {w : World} {db : Nat} {c c' : SlC} {av : Value} {ls : List SlC} (h : DkIs w db c av ls) (hc : RL w c'.ao c'.cap c'.l) : DkIs (w.setCell ⟨db, 0, none⟩ c'.value) db c' av ls := by
  have hne : ∀ {k : Nat} {cc : Array Value} {ty : TypeId}, w.heap[k]? = some (.cells cc ty (0, 0)) → ty ≠ 127 → (w.setCell ⟨db, 0, none⟩ c'.value).heap[k]? = w.heap[k]? := fun {k cc ty} hk ht => Below.heap_setCell _ _ _ _ (by show k ≠ db; rintro rfl; exact ht (blk_ty hk h.blk))
  have hnum : ∀ (k : Nat) (cc : Array Value), w.heap[k]? = some (.cells cc 129 (0, 0)) → (w.setCell ⟨db, 0, none⟩ c'.value).heap[k]? = w.heap[k]? := fun k cc hk => hne hk (by decide)
  refine ⟨blk_set h.blk 0 _, hc.kept hnum, ⟨h.aw.1, ?_⟩, fun a ha => (h.rl a ha).kept hnum⟩
  rcases h.aw.2 with h2 | ⟨g, cap, cur, hv, hg, hh, r⟩
  · exact Or.inl h2
  · exact Or.inr ⟨g, cap, cur, hv, hg, (hne hh (by decide)).trans hh, r⟩
theorem DkIs.grown {w wB w1 : World} {db : Nat} {c : SlC} {av : Value} {ls : List SlC} (h : DkIs w db c av ls) (hB : Below w.heap.size w wB) (hg : wB.grownBy w1 av.ownBlock) : w1.heap[db]? = some (.cells #[c.value, av] 127 (0, 0)) := by
  have hap : av.ownBlock ≠ some db := fun e => by
    obtain ⟨c, hc⟩ := h.row_ty e
    exact absurd (blk_ty hc h.blk) (by decide)
  rw [hg.block db (Nat.lt_of_lt_of_le (lt_of_block h.blk) hB.size) (fun e => hap e.symm), hB.block db (lt_of_block h.blk)]
  exact h.blk
theorem DkIs.push {w wB w1 : World} {db : Nat} {c : SlC} {av av' : Value} {ls : List SlC} (h : DkIs w db c av ls) (hB : Below w.heap.size w wB) (hg : wB.grownBy w1 av.ownBlock) (hown : w1.ownsRow 0 116 1 av' (ls.length + 1) (awrow ls ++ [c.value])) (hwh : av'.ownBlock = av.ownBlock ∨ ∀ g, av'.ownBlock = some g → wB.heap.size ≤ g) :
    DkIs (w1.setCell ⟨db, 1, none⟩ av') db c av' (ls ++ [c]) ∧ Fc db av w av' (w1.setCell ⟨db, 1, none⟩ av') := by
  have hold : ∀ k, k < w.heap.size → av.ownBlock ≠ some k → w1.heap[k]? = w.heap[k]? := fun k hk hn => (hg.block k (Nat.lt_of_lt_of_le hk hB.size) (fun e => hn e.symm)).trans (hB.block k hk)
  have hb1 := h.grown hB hg
  have hnum : ∀ (k : Nat) (cc : Array Value), w.heap[k]? = some (.cells cc 129 (0, 0)) → (w1.setCell ⟨db, 1, none⟩ av').heap[k]? = w.heap[k]? := fun k cc hk => by
    rw [Below.heap_setCell _ _ _ _ (by show k ≠ db; rintro rfl; exact absurd (blk_ty hk h.blk) (by decide))]
    exact hold k (lt_of_block hk) (fun e => by obtain ⟨c', hc'⟩ := h.row_ty e; exact absurd (blk_ty hk hc') (by decide))
  refine ⟨⟨blk_set hb1 1 av', h.cur.kept hnum, ⟨by rw [← awrow_snoc, show (ls ++ [c]).length = ls.length + 1 by simp]; exact hown.1, ?_⟩, fun a ha => ?_⟩, ⟨Chg.setCell ⟨hg.os.trans hB.os, hg.tape.trans hB.tape, hg.output.trans hB.output, Nat.le_trans hB.size hg.size, fun k hk _ hn => hold k hk hn⟩ _ _, hwh.imp id (fun hh g hgv => Nat.le_trans hB.size (hh g hgv))⟩⟩
  · rw [← awrow_snoc, List.length_append]
    rcases hown.2 with h2 | ⟨g, cap, cur, hv, hg0, hh, r⟩
    · exact Or.inl h2
    · refine Or.inr ⟨g, cap, cur, hv, hg0, ?_, r⟩
      rw [Below.heap_setCell _ _ _ _ (by show g ≠ db; rintro rfl; exact absurd (blk_ty hh hb1) (by decide))]
      exact hh
  · rcases List.mem_append.1 ha with ha | ha
    · exact (h.rl a ha).kept hnum
    · rw [List.mem_singleton] at ha
      rw [ha]
      exact h.cur.kept hnum
theorem DkIs.pop {w : World} {db g cap : Nat} {c a o : SlC} {ls : List SlC} (h : DkIs w db c (.slice (some ⟨g, 0, none⟩) (ls ++ [o] ++ [a]).length cap) (ls ++ [o] ++ [a])) : DkIs (w.setCell ⟨db, 1, none⟩ (.slice (some ⟨g, 0, none⟩) ls.length cap)) db c (.slice (some ⟨g, 0, none⟩) ls.length cap) ls := by
  have hne : ∀ {k : Nat} {cc : Array Value} {ty : TypeId}, w.heap[k]? = some (.cells cc ty (0, 0)) → ty ≠ 127 → (w.setCell ⟨db, 1, none⟩ (.slice (some ⟨g, 0, none⟩) ls.length cap)).heap[k]? = w.heap[k]? := fun {k cc ty} hk ht => Below.heap_setCell _ _ _ _ (by show k ≠ db; rintro rfl; exact ht (blk_ty hk h.blk))
  have hnum : ∀ (k : Nat) (cc : Array Value), w.heap[k]? = some (.cells cc 129 (0, 0)) → (w.setCell ⟨db, 1, none⟩ (.slice (some ⟨g, 0, none⟩) ls.length cap)).heap[k]? = w.heap[k]? := fun k cc hk => hne hk (by decide)
  have h1 : w.ownsRow 0 116 1 (.slice (some ⟨g, 0, none⟩) (ls.length + 1 + 1) cap) (ls.length + 1 + 1) ((awrow ls ++ [o.value]) ++ [a.value]) := by
    have := h.aw
    rw [← awrow_snoc, ← awrow_snoc, show (ls ++ [o] ++ [a]).length = ls.length + 1 + 1 by simp] at this
    exact this
  have h2 := ownsRow_pop (by simp [awrow_length]) h1
  have h3 := ownsRow_pop (by simp [awrow_length]) h2
  refine ⟨blk_set h.blk 1 _, h.cur.kept hnum, ⟨h3.1, ?_⟩, fun a' ha => (h.rl a' (by simp [ha])).kept hnum⟩
  rcases h3.2 with h4 | ⟨g', cap', cur, hv, hg, hh, r⟩
  · exact Or.inl h4
  · exact Or.inr ⟨g', cap', cur, hv, hg, (hne hh (by decide)).trans hh, r⟩
theorem Tryz.infoNums : (Tryz.prog.info? 116).map (fun i => (i.zero, i.size, i.bytes)) = some (some (.slice none 0 0), 1, 24) := by kernel_rfl
theorem one_slc (c : SlC) : ∀ u ∈ [c.value], u.oneCell' = true := by
  intro u hu
  rw [List.mem_singleton] at hu
  rw [hu]
  rfl
theorem awrow_cell {w : World} {g n cap : Nat} {ls : List SlC} (h : w.ownsRow 0 116 1 (.slice (some ⟨g, 0, none⟩) n cap) ls.length (awrow ls)) {j : Nat} (hj : j < ls.length) : w.cell? ⟨g, j, none⟩ = some ls[j].value := by
  have := h.cells (g := g) rfl j ls[j].value (by unfold awrow; rw [List.getElem?_map, List.getElem?_eq_getElem hj]; rfl)
  rw [show (⟨g, 0, none⟩ : Addr).add j = ⟨g, j, none⟩ from by unfold Addr.add; split <;> simp_all] at this
  exact this
theorem top_any {w : World} {db : Nat} {c : SlC} {av : Value} {ls : List SlC} (h : DkIs w db c av ls) {k j : Nat} (hk : k + j + 1 = ls.length) (hl : ls.length ≤ 1000000) (hj : j < ls.length) :
    Calls Tryz.prog 107 #[.pointer (some ⟨db, 0, none⟩), .int .i64 (k : Int)] w fun e w' => e = .returned ls[j].value ∧ Below w.heap.size w w' := by
  have haw := h.aw
  obtain ⟨g, cap, rfl⟩ : ∃ g cap, av = .slice (some ⟨g, 0, none⟩) ls.length cap := by
    rcases h.aw.2 with ⟨_, h2⟩ | ⟨g, cap, cur, hv, _⟩
    · omega
    · exact ⟨g, cap, hv⟩
  have c1 : w.cell? ⟨db, 1, none⟩ = some (.slice (some ⟨g, 0, none⟩) ls.length cap) := blk_cell h.blk 1
  have cj : w.cell? ⟨g, j, none⟩ = some ls[j].value := awrow_cell haw hj
  generalize ls[j].value = u at cj
  clear h haw
  obtain ⟨n, hn⟩ : ∃ n, n = ls.length := ⟨_, rfl⟩
  rw [← hn] at c1 hk hl hj
  clear hn
  obtain rfl : j = n - 1 - k := by omega
  have hkn : k < n := by omega
  clear hk hj
  go_enter Tryz.func107, Tryz.ntmps107
  go_wp2_with fail
  go_quiet (fail)
  go_wp2_with fail
  go_ret
  exact ⟨rfl, (by repeat (first | exact Below.refl _ _ | refine below_dr ?_ _ | refine Below.drew ?_ | refine Below.setCell ?_ (by simp) _ | refine Below.alloc ?_ (by simp) _))⟩
end Go.Proofs.YtikiaijgcjjloaaGreatDoor

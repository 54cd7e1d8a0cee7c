/- The program's way to what follows, plain: at each variable its literal; what remains of a clause. No program is named here. -/
import Derived.Test.YtjkmdghlhodhiaaOb
namespace Go.Proofs.Ytjkmdghlhodhiaa.Up
/-- At each variable its literal that is there. -/
def kL (m : List Int) : List Int := m.mapIdx fun i x => (i : Int) * x
theorem kL_len (m : List Int) : (kL m).length = m.length := List.length_mapIdx
theorem kL_getD (m : List Int) (i : Nat) : (kL m).getD i 0 = (i : Int) * m.getD i 0 := by
  rw [List.getD_eq_getElem?_getD, List.getD_eq_getElem?_getD]
  unfold kL
  rw [List.getElem?_mapIdx]
  cases m[i]? with
  | none => simp
  | some x => rfl
theorem kL_set (m : List Int) (p : Nat) (v : Int) : (kL m).set p ((p : Int) * v) = kL (m.set p v) := by
  apply List.ext_getElem?
  intro i
  unfold kL
  rw [List.getElem?_set, List.getElem?_mapIdx, List.getElem?_mapIdx, List.getElem?_set, List.length_mapIdx]
  by_cases h : p = i
  · subst h
    rw [if_pos rfl, if_pos rfl]
    by_cases h2 : p < m.length
    · rw [if_pos h2, if_pos h2]; rfl
    · rw [if_neg h2, if_neg h2]; rfl
  · rw [if_neg h, if_neg h]
theorem kL_setL {n : Nat} (m : List Int) {x : Int} (hx : LitOf n x) : kL (setL m x) = (kL m).set x.natAbs x := by
  obtain ⟨h0, _, _⟩ := hx
  unfold setL
  rcases Int.lt_or_gt_of_ne h0 with h | h
  · rw [if_pos h, show (-x).toNat = x.natAbs by omega, ← kL_set]
    congr 1
    omega
  · rw [if_neg (by omega), show x.toNat = x.natAbs by omega, ← kL_set]
    congr 1
    omega
theorem kL_var {n : Nat} (m : List Int) {x : Int} (hx : LitOf n x) : (kL m).getD x.natAbs 0 = x * valL m x := by
  obtain ⟨h0, _, _⟩ := hx
  rw [kL_getD]
  unfold valL
  rcases Int.lt_or_gt_of_ne h0 with h | h
  · rw [if_pos h, show (-x).toNat = x.natAbs by omega, show (x.natAbs : Int) = -x by omega, Int.neg_mul, Int.mul_neg]
  · rw [if_neg (by omega), show x.toNat = x.natAbs by omega, show (x.natAbs : Int) = x by omega]
/-- What the cell of a literal's variable holds. -/
theorem kL_tri {n : Nat} {m : List Int} (hm : MOk n m) {x : Int} (hx : LitOf n x) : (valL m x = -1 ∧ (kL m).getD x.natAbs 0 = -x) ∨ (valL m x = 0 ∧ (kL m).getD x.natAbs 0 = 0) ∨ (valL m x = 1 ∧ (kL m).getD x.natAbs 0 = x) := by
  rw [kL_var m hx]
  rcases val_tri hm x with h | h | h <;> rw [h]
  · exact .inl ⟨rfl, by omega⟩
  · exact .inr (.inl ⟨rfl, by omega⟩)
  · exact .inr (.inr ⟨rfl, by omega⟩)
/-- The literals in the first cells. -/
def litsK (m : List Int) (j : Nat) : List Int := ((kL m).take j).filter (fun x => x != 0)
theorem litsK_more {m : List Int} {j : Nat} (hj : j < (kL m).length) {x : Int} (hx : (kL m)[j] = x) : litsK m (j + 1) = litsK m j ++ (if x = 0 then [] else [x]) := by
  unfold litsK
  rw [List.take_succ_eq_append_getElem hj, hx, List.filter_append]
  congr 1
  by_cases h : x = 0
  · rw [if_pos h, h]; rfl
  · rw [if_neg h, List.filter_cons, if_pos (by simpa using h)]; rfl
theorem litsK_len (m : List Int) (j : Nat) : (litsK m j).length ≤ j := by
  unfold litsK
  exact Nat.le_trans (List.length_filter_le _ _) (by rw [List.length_take]; exact Nat.min_le_left _ _)
theorem litsK_out (m : List Int) : ∀ p, p + 1 ≤ m.length → litsK m (p + 1) = outK m p
  | 0, h => by
    rw [litsK_more (m := m) (j := 0) (by rw [kL_len]; omega) rfl]
    have : (kL m)[0]'(by rw [kL_len]; omega) = 0 := by simp [kL]
    rw [this, if_pos rfl]; rfl
  | p + 1, h => by
    have hj : p + 1 < (kL m).length := by rw [kL_len]; omega
    rw [litsK_more hj rfl, litsK_out m p (by omega), outK]
    have e : (kL m)[p + 1] = ((p + 1 : Nat) : Int) * m.getD (p + 1) 0 := by
      rw [← kL_getD, List.getD_eq_getElem?_getD, List.getElem?_eq_getElem hj]; rfl
    rw [e]
    congr 1
    by_cases h0 : m.getD (p + 1) 0 = 0
    · rw [if_pos h0, h0, Int.mul_zero, if_pos rfl]
    · rw [if_neg h0, if_neg]
      intro hc
      rcases Int.mul_eq_zero.1 hc with hc | hc
      · omega
      · exact h0 hc
/-- What may be left of a clause: what is not there any more is false. -/
structure RSt (c r m : List Int) : Prop where
  sub : ∀ y ∈ r, y ∈ c
  out : ∀ y ∈ c, y ∈ r ∨ valL m y = -1
  some : c ≠ [] → r ≠ []
  len : r.length ≤ c.length
theorem rst_self (c m : List Int) : RSt c c m := ⟨fun _ h => h, fun _ h => .inl h, fun h => h, Nat.le_refl _⟩
theorem rst_mono {n : Nat} {c r m : List Int} (h : RSt c r m) {x : Int} (hm : MOk n m) (hx : LitOf n x) (hv : valL m x ≠ -1) (_hc : ∀ y ∈ c, LitOf n y) : RSt c r (setL m x) := ⟨h.sub, fun y hy => by
  rcases h.out y hy with h1 | h1
  · exact .inl h1
  · refine .inr ?_
    rw [val_set hm hx]
    by_cases e : y = x
    · rw [e] at h1; exact absurd h1 hv
    · rw [if_neg e]
      by_cases e2 : y = -x
      · rw [if_pos e2]
      · rw [if_neg e2, h1], h.some, h.len⟩
/-- The first literal, false, is passed over. -/
theorem rst_drop {c r m : List Int} (h : RSt c r m) (h2 : 2 ≤ r.length) (hv : valL m (r.getD 0 0) = -1) : RSt c (r.drop 1) m := by
  match r, h2 with
  | x :: r, h2 =>
    refine ⟨fun y hy => h.sub y (List.mem_cons_of_mem _ hy), fun y hy => ?_, fun _ e => ?_, Nat.le_trans (by simp) h.len⟩
    · rcases h.out y hy with h1 | h1
      · rcases List.mem_cons.1 h1 with rfl | h1
        · exact .inr hv
        · exact .inl h1
      · exact .inr h1
    · have : r = [] := e
      rw [this] at h2; simp at h2
/-- The last one, false or the first one again. -/
theorem rst_take {c r m : List Int} (h : RSt c r m) {p : Nat} (h2 : r.length = p + 1) (hp : 0 < p) (hv : r.getD p 0 = r.getD 0 0 ∨ valL m (r.getD p 0) = -1) : RSt c (r.take p) m := by
  have h3 : r = r.take p ++ [r.getD p 0] := by
    have : r.take (p + 1) = r.take p ++ [r[p]] := List.take_succ_eq_append_getElem (by omega)
    rw [List.take_of_length_le (by omega)] at this
    rw [List.getD_eq_getElem?_getD, List.getElem?_eq_getElem (by omega)]
    exact this
  have h0 : r.getD 0 0 ∈ r.take p := by
    match r, h2 with
    | x :: r, _ =>
      obtain ⟨q, rfl⟩ : ∃ q, p = q + 1 := ⟨p - 1, by omega⟩
      rw [List.take_succ_cons]; exact List.mem_cons_self ..
  refine ⟨fun y hy => h.sub y (List.mem_of_mem_take hy), fun y hy => ?_, fun _ e => ?_, Nat.le_trans (by rw [List.length_take]; exact Nat.min_le_right _ _) h.len⟩
  · rcases h.out y hy with h1 | h1
    · rw [h3] at h1
      rcases List.mem_append.1 h1 with h1 | h1
      · exact .inl h1
      · rw [List.mem_singleton.1 h1]
        rcases hv with hv | hv
        · rw [hv]; exact .inl h0
        · exact .inr hv
    · exact .inr h1
  · rw [e] at h0; exact absurd h0 (by simp)
theorem rst_trans {c r t m : List Int} (h : RSt c r m) (k : RSt r t m) : RSt c t m := ⟨fun y hy => h.sub y (k.sub y hy), fun y hy => (h.out y hy).elim (k.out y) .inr, fun e => k.some (h.some e), Nat.le_trans k.len h.len⟩
/-- At the end: one literal at most, or two that are not false. -/
structure RemR (c r m : List Int) : Prop where
  st : RSt c r m
  two : 2 ≤ r.length → ∃ x ∈ r, ∃ y ∈ r, x ≠ y ∧ valL m x ≠ -1 ∧ valL m y ≠ -1
theorem rem_trans {c r t m : List Int} (h : RSt c r m) (k : RemR r t m) : RemR c t m := ⟨rst_trans h k.st, k.two⟩
theorem rem_one {c r m : List Int} (h : RSt c r m) (h1 : r.length ≤ 1) : RemR c r m := ⟨h, fun h2 => by omega⟩
theorem rem_two {c r m : List Int} (h : RSt c r m) {p : Nat} (h2 : r.length = p + 1) (hne : r.getD p 0 ≠ r.getD 0 0) (h0 : valL m (r.getD 0 0) ≠ -1) (hp : valL m (r.getD p 0) ≠ -1) : RemR c r m := ⟨h, fun _ => by
  have hm : ∀ i, i < r.length → r.getD i 0 ∈ r := fun i hi => by
    rw [List.getD_eq_getElem?_getD, List.getElem?_eq_getElem hi]; exact List.getElem_mem hi
  exact ⟨_, hm 0 (by omega), _, hm p (by omega), fun e => hne e.symm, h0, hp⟩⟩
/-- What an end says: nothing more; one literal; it fails. -/
theorem rem_unit {n : Nat} {c r m : List Int} (hm : MOk n m) (hc : ∀ y ∈ c, LitOf n y) (h : RemR c r m) : (c = [] ∧ r = [] ∧ UnitR c m 0 true) ∨ (∃ x, r = [x] ∧ x ∈ c ∧ (∀ y ∈ c, y ≠ x → valL m y = -1) ∧ LitOf n x) ∨ (2 ≤ r.length ∧ UnitR c m 0 false) := by
  match r, h with
  | [], h =>
    have hc0 : c = [] := Classical.byContradiction fun hne => h.st.some hne rfl
    subst hc0
    exact .inl ⟨rfl, rfl, .inr (.inr ⟨rfl, rfl, fun y hy => absurd hy (by simp)⟩)⟩
  | [x], h =>
    have hx := h.st.sub x (List.mem_cons_self ..)
    refine .inr (.inl ⟨x, rfl, hx, fun y hy hne => ?_, hc x hx⟩)
    rcases h.st.out y hy with h1 | h1
    · exact absurd (by simpa using h1) hne
    · exact h1
  | x :: y :: r, h =>
    refine .inr (.inr ⟨by simp, .inl ⟨rfl, rfl, ?_⟩⟩)
    obtain ⟨a, ha, b, hb, hab, h1, h2⟩ := h.two (by simp)
    have ha' := h.st.sub a ha
    have hb' := h.st.sub b hb
    rcases val_tri hm a with e | e | e
    · exact absurd e h1
    · rcases val_tri hm b with e' | e' | e'
      · exact absurd e' h2
      · exact .inr ⟨a, ha', b, hb', hab, e, e'⟩
      · exact .inl ⟨b, hb', e'⟩
    · exact .inl ⟨a, ha', e⟩
/-- The one literal: it fails, it is there already, it is new. -/
theorem one_fails {c m : List Int} {x : Int} (ho : ∀ y ∈ c, y ≠ x → valL m y = -1) (hv : valL m x = -1) : UnitR c m 0 true := .inr (.inr ⟨rfl, rfl, fun y hy => by
  by_cases e : y = x
  · rw [e]; exact hv
  · exact ho y hy e⟩)
theorem one_there {c m : List Int} {x : Int} (hx : x ∈ c) (hv : valL m x = 1) : UnitR c m 0 false := .inl ⟨rfl, rfl, .inl ⟨x, hx, hv⟩⟩
theorem one_new {c m : List Int} {x : Int} (h0 : x ≠ 0) (hx : x ∈ c) (ho : ∀ y ∈ c, y ≠ x → valL m y = -1) (hv : valL m x = 0) : UnitR c m x false := .inr (.inl ⟨h0, rfl, hx, hv, ho⟩)
end Go.Proofs.Ytjkmdghlhodhiaa.Up

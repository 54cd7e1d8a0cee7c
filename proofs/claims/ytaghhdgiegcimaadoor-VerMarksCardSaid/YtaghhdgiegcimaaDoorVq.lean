/- Plain facts on the order of versions: turned round it is the other one, it stands in one row, and 0 is just 'one canonical form'. No program is named here. -/
import Derived.Test.YtaghhdgiegcimaaDoorVm
namespace Go.Proofs.YtaghhdgiegcimaaDoor.Vm

/-- Turned round it is the other one; of three, one that is not above the second, which is not above the third, is not above that. -/
def Cmp3 {α : Type} (f : α → α → Int) : Prop := (∀ a b, f b a = - f a b) ∧ (∀ a b c, f a b ≤ 0 → f b c ≤ 0 → f a c ≤ 0)
theorem sgn_le (a b : Int) : sgn a b ≤ 0 ↔ a ≤ b := by unfold sgn; split <;> (try split) <;> omega
theorem sgn_eq (a b : Int) : sgn a b = 0 ↔ a = b := by unfold sgn; split <;> (try split) <;> omega
theorem sgn_anti (a b : Int) : sgn b a = - sgn a b := by unfold sgn; by_cases h1 : a < b <;> by_cases h2 : b < a <;> simp [h1, h2] <;> omega
theorem sgn_cmp : Cmp3 sgn := ⟨fun a b => sgn_anti a b, fun a b c h1 h2 => by rw [sgn_le] at *; omega⟩
theorem both_eq {x y : Int} : both x y = 0 ↔ x = 0 ∧ y = 0 := by
  unfold both
  by_cases h : x = 0
  · simp [h]
  · simp [h]
theorem Cmp3.both {α : Type} {f g : α → α → Int} (hf : Cmp3 f) (hg : Cmp3 g) : Cmp3 (fun a b => Vm.both (f a b) (g a b)) := by
  refine ⟨fun a b => ?_, fun a b c h1 h2 => ?_⟩
  · simp only [Vm.both, hf.1 a b, hg.1 a b]
    by_cases h : f a b = 0
    · simp [h]
    · simp [h]
  · simp only [Vm.both, beq_iff_eq] at *
    have a1 := hf.1 a b; have a2 := hf.1 b c; have a3 := hf.1 a c
    have t1 := hf.2 a b c; have t2 := hf.2 c b a; have t3 := hf.2 b c a; have t4 := hf.2 c a b; have t5 := hg.2 a b c
    split at h1
    · split at h2
      · have : f a c = 0 := by
          have := t1 (by omega) (by omega)
          have := t2 (by omega) (by omega)
          omega
        rw [if_pos this]; exact t5 h1 h2
      · have h4 := t1 (by omega) (by omega)
        split
        · rename_i h5
          have := t4 (by omega) (by omega)
          omega
        · exact h4
    · split at h2
      · have h4 := t1 (by omega) (by omega)
        split
        · rename_i h5
          have := t3 (by omega) (by omega)
          omega
        · exact h4
      · have h4 := t1 h1 h2
        split
        · rename_i h5
          have := t3 h2 (by omega)
          omega
        · exact h4
theorem Cmp3.pull {α β : Type} {f : α → α → Int} (hf : Cmp3 f) (h : β → α) : Cmp3 (fun a b => f (h a) (h b)) := ⟨fun _ _ => hf.1 _ _, fun _ _ _ h1 h2 => hf.2 _ _ _ h1 h2⟩
theorem zero_cmp {α : Type} : Cmp3 (fun (_ _ : α) => (0 : Int)) := ⟨fun _ _ => rfl, fun _ _ _ _ _ => Int.le_refl _⟩

theorem cb_cons (a b : UInt8) (r s : List UInt8) : Lib.compareBytes (a :: r) (b :: s) = both (sgn a.toNat b.toNat) (Lib.compareBytes r s) := by
  rw [Lib.compareBytes]
  unfold both sgn
  simp only [UInt8.lt_iff_toNat_lt]
  by_cases h1 : a.toNat < b.toNat
  · have : (a.toNat : Int) < b.toNat := by omega
    simp [h1]
  · by_cases h2 : b.toNat < a.toNat
    · simp [h1, h2]
    · simp [h1, h2]
theorem cb_anti : ∀ a b : List UInt8, Lib.compareBytes b a = - Lib.compareBytes a b
  | [], [] => rfl
  | [], _ :: _ => rfl
  | _ :: _, [] => rfl
  | a :: r, b :: s => by
    have ih := cb_anti r s
    rw [cb_cons, cb_cons]
    unfold both
    rw [sgn_anti, ih]
    by_cases h : sgn (a.toNat : Int) b.toNat = 0
    · simp [h]
    · simp [h]
theorem cb_eq : ∀ a b : List UInt8, Lib.compareBytes a b = 0 ↔ a = b
  | [], [] => by simp [Lib.compareBytes]
  | [], _ :: _ => by simp [Lib.compareBytes]
  | _ :: _, [] => by simp [Lib.compareBytes]
  | a :: r, b :: s => by
    rw [cb_cons, both_eq, cb_eq r s, sgn_eq]
    constructor
    · rintro ⟨h1, h2⟩
      rw [h2, UInt8.toNat.inj (show a.toNat = b.toNat by omega)]
    · intro h; injection h with h1 h2; subst h1 h2; exact ⟨rfl, rfl⟩
theorem cb_trans : ∀ a b c : List UInt8, Lib.compareBytes a b ≤ 0 → Lib.compareBytes b c ≤ 0 → Lib.compareBytes a c ≤ 0
  | [], _, [], _, _ => by simp [Lib.compareBytes]
  | [], _, _ :: _, _, _ => by simp [Lib.compareBytes]
  | _ :: _, [], _, h, _ => by simp [Lib.compareBytes] at h
  | _ :: _, _ :: _, [], _, h => by simp [Lib.compareBytes] at h
  | a :: r, b :: s, c :: t, h1, h2 => by
    have ih := cb_trans r s t
    rw [cb_cons] at *
    unfold both at *
    simp only [beq_iff_eq, sgn_eq] at *
    split at h1
    · split at h2
      · rw [if_pos (by omega)]; exact ih h1 h2
      · rw [sgn_le] at h2; rw [if_neg (by omega), sgn_le]; omega
    · rw [sgn_le] at h1
      split at h2
      · rw [if_neg (by omega), sgn_le]; omega
      · rw [sgn_le] at h2; rw [if_neg (by omega), sgn_le]; omega
theorem cb_cmp : Cmp3 Lib.compareBytes := ⟨cb_anti, cb_trans⟩
theorem cmpD_cmp : Cmp3 cmpD := Cmp3.both ((sgn_cmp.pull (fun n : Nat => (n : Int))).pull (fun l => (bare l).length)) (cb_cmp.pull bare)
theorem cmpD_eq (a b : List UInt8) : cmpD a b = 0 ↔ bare a = bare b := by
  unfold cmpD
  rw [both_eq, sgn_eq, cb_eq]
  exact ⟨fun h => h.2, fun h => ⟨by rw [h], h⟩⟩

theorem cmpOF_cmp : ∀ n i, Cmp3 (fun a b => cmpOF a b n i)
  | 0, _ => zero_cmp
  | n + 1, i => Cmp3.both (sgn_cmp.pull (fun l => mark l i)) (cmpOF_cmp n (i + 1))
theorem mark_out (l : List UInt8) (i : Nat) (h : l.length ≤ i) : mark l i = 0 := by simp [mark, h]
theorem cmpOF_out (a b : List UInt8) : ∀ n i, a.length ≤ i → b.length ≤ i → cmpOF a b n i = 0
  | 0, _, _, _ => rfl
  | n + 1, i, ha, hb => by rw [cmpOF, mark_out a i ha, mark_out b i hb, cmpOF_out a b n (i + 1) (by omega) (by omega)]; rfl
theorem cmpOF_more (a b : List UInt8) (k : Nat) : ∀ n i, a.length ≤ n + i → b.length ≤ n + i → cmpOF a b (n + k) i = cmpOF a b n i
  | 0, i, ha, hb => by rw [cmpOF_out a b _ i (by omega) (by omega)]; rfl
  | n + 1, i, ha, hb => by rw [show n + 1 + k = (n + k) + 1 from by omega, cmpOF, cmpOF, cmpOF_more a b k n (i + 1) (by omega) (by omega)]
theorem cmpO_far (a b : List UInt8) (N : Nat) (ha : a.length ≤ N) (hb : b.length ≤ N) : cmpO a b = cmpOF a b N 0 := by
  unfold cmpO
  have : N = max a.length b.length + (N - max a.length b.length) := by omega
  rw [this, cmpOF_more a b _ _ 0 (by omega) (by omega)]
theorem cmpO_cmp : Cmp3 cmpO := by
  refine ⟨fun a b => ?_, fun a b c h1 h2 => ?_⟩
  · rw [cmpO_far b a (a.length + b.length) (by omega) (by omega), cmpO_far a b (a.length + b.length) (by omega) (by omega)]
    exact (cmpOF_cmp _ 0).1 a b
  · rw [cmpO_far a b (a.length + b.length + c.length) (by omega) (by omega)] at h1
    rw [cmpO_far b c (a.length + b.length + c.length) (by omega) (by omega)] at h2
    rw [cmpO_far a c (a.length + b.length + c.length) (by omega) (by omega)]
    exact (cmpOF_cmp _ 0).2 a b c h1 h2
theorem cmpOF_eq (a b : List UInt8) : ∀ n i, cmpOF a b n i = 0 → ∀ j, i ≤ j → j < i + n → mark a j = mark b j
  | 0, i, _, j, h1, h2 => by omega
  | n + 1, i, h, j, h1, h2 => by
    rw [cmpOF, both_eq, sgn_eq] at h
    by_cases hj : j = i
    · subst hj; exact h.1
    · exact cmpOF_eq a b n (i + 1) h.2 j (by omega) (by omega)
theorem markB_ne (c : UInt8) : markB c ≠ 0 := by
  unfold markB
  split
  · decide
  · split
    · rename_i h2; unfold ltr at h2; simp at h2; omega
    · omega
theorem markB_inj (a b : UInt8) (h : markB a = markB b) : a = b := by
  apply UInt8.toNat.inj
  have ha' := a.toNat_lt
  have hb' := b.toNat_lt
  unfold markB at h
  by_cases a1 : a.toNat = 126 <;> by_cases b1 : b.toNat = 126 <;> cases a2 : ltr a <;> cases b2 : ltr b <;> simp [a1, b1, a2, b2] at h <;> omega
theorem mark_in (l : List UInt8) (i : Nat) (h : i < l.length) : mark l i = markB l[i] := by
  unfold mark markB
  rw [if_neg (by omega)]
  simp [h]
theorem cmpO_eq (a b : List UInt8) : cmpO a b = 0 ↔ a = b := by
  constructor
  · intro h
    rw [cmpO_far a b (a.length + b.length + 1) (by omega) (by omega)] at h
    have hm := cmpOF_eq a b _ 0 h
    have hl : a.length = b.length := by
      by_cases h1 : a.length < b.length
      · have := hm a.length (by omega) (by omega)
        rw [mark_out a _ (Nat.le_refl _), mark_in b _ h1] at this
        exact absurd this.symm (markB_ne _)
      · by_cases h2 : b.length < a.length
        · have := hm b.length (by omega) (by omega)
          rw [mark_out b _ (Nat.le_refl _), mark_in a _ h2] at this
          exact absurd this (markB_ne _)
        · omega
    apply List.ext_getElem hl
    intro i h1 h2
    have := hm i (by omega) (by omega)
    rw [mark_in a _ h1, mark_in b _ h2] at this
    exact markB_inj _ _ this
  · rintro rfl
    have := cmpO_cmp.1 a a
    omega
theorem cmpP_eq (n : Nat) (a b : List UInt8) : cmpP (n + 1) a b = both (cmpD (digs a) (digs b)) (both (cmpO (oths (undigs a)) (oths (undigs b))) (cmpP n (tail2 a) (tail2 b))) := by
  rw [cmpP]
  split
  · rename_i h
    simp only [Bool.and_eq_true, List.isEmpty_iff] at h
    obtain ⟨rfl, rfl⟩ := h
    have h0 : cmpP n (tail2 []) (tail2 []) = 0 := by
      cases n with
      | zero => rfl
      | succ n => rfl
    rw [h0]; rfl
  · rfl
theorem cmpP_cmp : ∀ n, Cmp3 (cmpP n)
  | 0 => zero_cmp
  | n + 1 => by
    have h := Cmp3.both (cmpD_cmp.pull digs) (Cmp3.both (cmpO_cmp.pull (fun l => oths (undigs l))) ((cmpP_cmp n).pull tail2))
    have e : cmpP (n + 1) = fun a b => both (cmpD (digs a) (digs b)) (both (cmpO (oths (undigs a)) (oths (undigs b))) (cmpP n (tail2 a) (tail2 b))) := by
      funext a b; exact cmpP_eq n a b
    rw [e]; exact h
theorem cmpV_cmp : Cmp3 cmpV := Cmp3.both (cmpD_cmp.pull ep) (Cmp3.both ((cmpP_cmp 41).pull pt) ((cmpP_cmp 41).pull rv))

theorem sgn_range (a b : Int) : -1 ≤ sgn a b ∧ sgn a b ≤ 1 := by unfold sgn; split <;> (try split) <;> omega
theorem both_range {x y : Int} (h1 : -1 ≤ x ∧ x ≤ 1) (h2 : -1 ≤ y ∧ y ≤ 1) : -1 ≤ both x y ∧ both x y ≤ 1 := by unfold both; split <;> assumption
theorem cb_range : ∀ a b : List UInt8, -1 ≤ Lib.compareBytes a b ∧ Lib.compareBytes a b ≤ 1
  | [], [] => by decide
  | [], _ :: _ => by simp [Lib.compareBytes]
  | _ :: _, [] => by simp [Lib.compareBytes]
  | a :: r, b :: s => by rw [cb_cons]; exact both_range (sgn_range _ _) (cb_range r s)
theorem cmpD_range (a b : List UInt8) : -1 ≤ cmpD a b ∧ cmpD a b ≤ 1 := both_range (sgn_range _ _) (cb_range _ _)
theorem cmpOF_range (a b : List UInt8) : ∀ n i, -1 ≤ cmpOF a b n i ∧ cmpOF a b n i ≤ 1
  | 0, _ => by simp [cmpOF]
  | n + 1, i => by rw [cmpOF]; exact both_range (sgn_range _ _) (cmpOF_range a b n (i + 1))
theorem cmpP_range : ∀ n a b, -1 ≤ cmpP n a b ∧ cmpP n a b ≤ 1
  | 0, _, _ => by simp [cmpP]
  | n + 1, a, b => by rw [cmpP_eq]; exact both_range (cmpD_range _ _) (both_range (cmpOF_range _ _ _ _) (cmpP_range n _ _))
theorem cmpV_range (l m : List UInt8) : -1 ≤ cmpV l m ∧ cmpV l m ≤ 1 := both_range (cmpD_range _ _) (both_range (cmpP_range _ _ _) (cmpP_range _ _ _))
end Go.Proofs.YtaghhdgiegcimaaDoor.Vm

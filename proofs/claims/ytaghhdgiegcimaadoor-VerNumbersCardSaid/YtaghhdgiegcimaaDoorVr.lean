/- Plain facts on the canonical form: what its pieces are, that it is a version no longer than what it is made of, that it is its own canonical form, and that two versions are as great just where it is the same. No program is named here. -/
import Derived.Test.YtaghhdgiegcimaaDoorVq
namespace Go.Proofs.YtaghhdgiegcimaaDoor.Vm

theorem split_digs (l : List UInt8) : digs l ++ undigs l = l := List.takeWhile_append_dropWhile
theorem split_oths (l : List UInt8) : oths l ++ unoths l = l := List.takeWhile_append_dropWhile
theorem digs_all (l : List UInt8) : (digs l).all dig = true := by
  unfold digs
  induction l with
  | nil => rfl
  | cons c r ih => rw [List.takeWhile_cons]; cases h : dig c <;> simp [h]
theorem oths_all (l : List UInt8) : (oths l).all (fun c => !dig c) = true := by
  unfold oths
  induction l with
  | nil => rfl
  | cons c r ih => rw [List.takeWhile_cons]; cases h : dig c <;> simp [h]
/-- It ends here, or begins with a byte that is (not) a digit. -/
def HdN (l : List UInt8) : Prop := ∀ c, l.head? = some c → dig c = false
def HdY (l : List UInt8) : Prop := ∀ c, l.head? = some c → dig c = true
theorem hdN_undigs (l : List UInt8) : HdN (undigs l) := by
  unfold undigs
  induction l with
  | nil => intro c h; cases h
  | cons a r ih =>
    rw [List.dropWhile_cons]
    cases h : dig a
    · intro c hc
      simp at hc; subst hc; exact h
    · exact ih
theorem hdY_unoths (l : List UInt8) : HdY (unoths l) := by
  unfold unoths
  induction l with
  | nil => intro c h; cases h
  | cons a r ih =>
    rw [List.dropWhile_cons]
    cases h : dig a
    · exact ih
    · intro c hc
      simp at hc; subst hc; exact h
theorem digs_app {a b : List UInt8} (ha : a.all dig = true) (hb : HdN b) : digs (a ++ b) = a ∧ undigs (a ++ b) = b := by
  unfold digs undigs
  induction a with
  | nil =>
    cases b with
    | nil => exact ⟨rfl, rfl⟩
    | cons c r => have := hb c rfl; simp [this]
  | cons c r ih =>
    simp only [List.all_cons, Bool.and_eq_true] at ha
    obtain ⟨h1, h2⟩ := ih ha.2
    simp [ha.1, h1, h2]
theorem oths_app {a b : List UInt8} (ha : a.all (fun c => !dig c) = true) (hb : HdY b) : oths (a ++ b) = a ∧ unoths (a ++ b) = b := by
  unfold oths unoths
  induction a with
  | nil =>
    cases b with
    | nil => exact ⟨rfl, rfl⟩
    | cons c r => have := hb c rfl; simp [this]
  | cons c r ih =>
    simp only [List.all_cons, Bool.and_eq_true] at ha
    obtain ⟨h1, h2⟩ := ih ha.2
    simp [ha.1, h1, h2]
theorem bare_all {l : List UInt8} (h : l.all dig = true) : (bare l).all dig = true := by
  unfold bare
  split
  · decide
  · rw [List.all_eq_true] at *
    exact fun x hx => h x ((List.dropWhile_sublist _).subset hx)
theorem bare_ne (l : List UInt8) : bare l ≠ [] := by
  unfold bare
  split
  · simp
  · rename_i h; simpa using h
theorem bare_len {l : List UInt8} (h : l ≠ []) : (bare l).length ≤ l.length := by
  unfold bare
  split
  · have := List.length_pos_iff.2 h; simp; omega
  · exact (List.dropWhile_sublist _).length_le
theorem bare_bare (l : List UInt8) : bare (bare l) = bare l := by
  have key : ∀ m : List UInt8, (m.dropWhile (· == 48)).dropWhile (· == 48) = m.dropWhile (· == 48) := by
    intro m
    induction m with
    | nil => rfl
    | cons c r ih => rw [List.dropWhile_cons]; split <;> rename_i h <;> simp [h, ih]
  unfold bare
  cases h : (l.dropWhile (· == 48)).isEmpty
  · simp only [Bool.false_eq_true, if_false]
    rw [key, h]; rfl
  · rfl
theorem bare_ok {l : List UInt8} (h : l.all ok1 = true) : (bare l).all ok1 = true := by
  unfold bare
  split
  · decide
  · rw [List.all_eq_true] at *
    exact fun x hx => h x ((List.dropWhile_sublist _).subset hx)

/-- What is left of a part: nothing, or digits at both ends. -/
def GP (l : List UInt8) : Prop := HdY l ∧ ∀ c, l.getLast? = some c → dig c = true
theorem last_app {a b : List UInt8} (h : b ≠ []) : (a ++ b).getLast? = b.getLast? := by
  rw [List.getLast?_append]
  cases hb : b.getLast? with
  | none => exact absurd (List.getLast?_eq_none_iff.1 hb) h
  | some c => rfl
theorem gp_parts {l : List UInt8} (h : GP l) : GP (tail2 l) ∧ (tail2 l = [] → undigs l = []) := by
  have e1 := split_digs l
  have e2 := split_oths (undigs l)
  refine ⟨⟨hdY_unoths _, ?_⟩, ?_⟩
  · intro c hc
    have hne : tail2 l ≠ [] := by intro h0; rw [h0] at hc; cases hc
    have : l.getLast? = (tail2 l).getLast? := by
      conv => lhs; rw [← e1, ← e2, ← List.append_assoc]
      exact last_app hne
    exact h.2 c (this.trans hc)
  · intro h0
    by_cases hu : undigs l = []
    · exact hu
    · exfalso
      have h1 : unoths (undigs l) = [] := h0
      rw [h1, List.append_nil] at e2
      have hl : l.getLast? = (undigs l).getLast? := by
        conv => lhs; rw [← e1]
        exact last_app hu
      cases hx : (undigs l).getLast? with
      | none => exact hu (List.getLast?_eq_none_iff.1 hx)
      | some c =>
        have hd := h.2 c (hl.trans hx)
        have ho := oths_all (undigs l)
        rw [e2, List.all_eq_true] at ho
        have := ho c (List.mem_of_getLast? hx)
        rw [hd] at this; cases this
theorem digs_ne {l : List UInt8} (h : HdY l) (h0 : l ≠ []) : digs l ≠ [] := by
  cases l with
  | nil => exact absurd rfl h0
  | cons c r => have := h c rfl; simp [digs, this]
theorem tail2_len {l : List UInt8} (h : HdY l) (h0 : l ≠ []) : (tail2 l).length < l.length := by
  have h1 := List.length_pos_iff.2 (digs_ne h h0)
  have e1 := congrArg List.length (split_digs l)
  have e2 := congrArg List.length (split_oths (undigs l))
  rw [List.length_append] at e1 e2
  unfold tail2; omega
theorem canonP_nil (n : Nat) : canonP n [] = [] := by cases n <;> rfl
theorem canonP_cons (n : Nat) {l : List UInt8} (h : l ≠ []) : canonP (n + 1) l = bare (digs l) ++ (oths (undigs l) ++ canonP n (tail2 l)) := by
  rw [canonP, if_neg (by simpa using h), List.append_assoc]
theorem canonP_ne0 (n : Nat) {l : List UInt8} (h : l ≠ []) (hl : l.length ≤ n) : canonP n l ≠ [] := by
  cases n with
  | zero => exact absurd (List.eq_nil_of_length_eq_zero (by omega)) h
  | succ n => rw [canonP_cons n h]; have := bare_ne (digs l); simp [this]
theorem canonP_hdY (n : Nat) (l : List UInt8) : HdY (canonP n l) := by
  cases n with
  | zero => intro c h; cases h
  | succ n =>
    by_cases h : l = []
    · subst h; intro c h; cases h
    · rw [canonP_cons n h]
      have h1 := bare_ne (digs l)
      have h2 := bare_all (digs_all l)
      intro c hc
      cases hb : bare (digs l) with
      | nil => exact absurd hb h1
      | cons a r =>
        rw [hb] at hc h2
        simp at hc; subst hc
        simp only [List.all_cons, Bool.and_eq_true] at h2; exact h2.1
/-- The runs of a canonical form. -/
theorem canonP_runs (n : Nat) {l : List UInt8} (h0 : l ≠ []) : digs (canonP (n + 1) l) = bare (digs l) ∧ undigs (canonP (n + 1) l) = oths (undigs l) ++ canonP n (tail2 l) ∧
    oths (undigs (canonP (n + 1) l)) = oths (undigs l) ∧ tail2 (canonP (n + 1) l) = canonP n (tail2 l) := by
  have hN : HdN (oths (undigs l) ++ canonP n (tail2 l)) := by
    by_cases hu : undigs l = []
    · have ht : tail2 l = [] := by unfold tail2; rw [hu]; rfl
      rw [hu, ht, canonP_nil]; intro c hc; cases hc
    · have hd := hdN_undigs l
      have e2 := split_oths (undigs l)
      cases hx : undigs l with
      | nil => exact absurd hx hu
      | cons a r =>
        have ha := hd a (by rw [hx]; rfl)
        have : oths (a :: r) = a :: oths r := by simp [oths, ha]
        rw [this]; intro c hc; simp at hc; subst hc; exact ha
  rw [canonP_cons n h0]
  obtain ⟨g1, g2⟩ := digs_app (bare_all (digs_all l)) hN
  obtain ⟨g3, g4⟩ := oths_app (oths_all (undigs l)) (canonP_hdY n (tail2 l))
  refine ⟨g1, g2, by rw [g2, g3], ?_⟩
  unfold tail2 at *
  rw [g2, g4]
theorem canonP_idem : ∀ (n : Nat) (l : List UInt8), GP l → l.length ≤ n → canonP n (canonP n l) = canonP n l
  | 0, _, _, _ => rfl
  | n + 1, l, h, hl => by
    by_cases h0 : l = []
    · subst h0; rfl
    · obtain ⟨r1, _, r3, r4⟩ := canonP_runs n h0
      have ih := canonP_idem n (tail2 l) (gp_parts h).1 (by have := tail2_len h.1 h0; omega)
      rw [canonP_cons n (canonP_ne0 (n + 1) h0 hl), r1, r3, r4, ih, bare_bare, ← canonP_cons n h0]
theorem canonP_len : ∀ (n : Nat) (l : List UInt8), HdY l → (canonP n l).length ≤ l.length
  | 0, _, _ => by simp [canonP]
  | n + 1, l, h => by
    by_cases h0 : l = []
    · subst h0; simp [canonP]
    · have ih := canonP_len n (tail2 l) (hdY_unoths _)
      have h1 := bare_len (digs_ne h h0)
      have e1 := congrArg List.length (split_digs l)
      have e2 := congrArg List.length (split_oths (undigs l))
      rw [List.length_append] at e1 e2
      rw [canonP_cons n h0, List.length_append, List.length_append]
      unfold tail2 at *
      omega
theorem canonP_last : ∀ (n : Nat) (l : List UInt8), GP l → l.length ≤ n → ∀ c, (canonP n l).getLast? = some c → dig c = true
  | 0, _, _, _, c, hc => by cases hc
  | n + 1, l, h, hl, c, hc => by
    by_cases h0 : l = []
    · subst h0; cases hc
    · have ht := tail2_len h.1 h0
      rw [canonP_cons n h0] at hc
      by_cases h1 : tail2 l = []
      · have hu := (gp_parts h).2 h1
        rw [hu, h1, canonP_nil] at hc
        have hb := bare_all (digs_all l)
        rw [List.all_eq_true] at hb
        apply hb
        have : oths ([] : List UInt8) ++ [] = [] := rfl
        rw [this, List.append_nil] at hc
        exact List.mem_of_getLast? hc
      · have hne := canonP_ne0 n h1 (by omega)
        rw [last_app (by simp [hne]), last_app hne] at hc
        exact canonP_last n (tail2 l) (gp_parts h).1 (by omega) c hc
theorem canonP_ok : ∀ (n : Nat) (l : List UInt8), l.all ok1 = true → (canonP n l).all ok1 = true
  | 0, _, _ => rfl
  | n + 1, l, h => by
    by_cases h0 : l = []
    · subst h0; rfl
    · have sub : ∀ m : List UInt8, m.Sublist l → m.all ok1 = true := fun m hm => by
        rw [List.all_eq_true] at *; exact fun x hx => h x (hm.subset hx)
      have s1 : (digs l).Sublist l := List.takeWhile_sublist _
      have s2 : (undigs l).Sublist l := List.dropWhile_sublist _
      have s3 : (oths (undigs l)).Sublist l := (List.takeWhile_sublist _).trans s2
      have s4 : (tail2 l).Sublist l := (List.dropWhile_sublist _).trans s2
      rw [canonP_cons n h0, List.all_append, List.all_append, bare_ok (sub _ s1), sub _ s3, canonP_ok n _ (sub _ s4)]; rfl
/-- Two parts are as great just where their canonical forms are the same. -/
theorem cmpP_canon : ∀ (n : Nat) (a b : List UInt8), GP a → GP b → a ≠ [] → b ≠ [] → a.length ≤ n → b.length ≤ n → (cmpP n a b = 0 ↔ canonP n a = canonP n b)
  | 0, a, _, _, _, ha, _, hl, _ => absurd (List.eq_nil_of_length_eq_zero (by omega)) ha
  | n + 1, a, b, ga, gb, ha, hb, la, lb => by
    obtain ⟨r1, _, r3, r4⟩ := canonP_runs n ha
    obtain ⟨s1, _, s3, s4⟩ := canonP_runs n hb
    obtain ⟨ga1, ga2⟩ := gp_parts ga
    obtain ⟨gb1, gb2⟩ := gp_parts gb
    have lta := tail2_len ga.1 ha
    have ltb := tail2_len gb.1 hb
    have hund : ∀ l : List UInt8, oths (undigs l) = [] → undigs l = [] := fun l h => by
      cases hx : undigs l with
      | nil => rfl
      | cons c r =>
        have hc := hdN_undigs l c (by rw [hx]; rfl)
        rw [hx] at h; simp [oths, hc] at h
    have htl : ∀ l : List UInt8, undigs l = [] → tail2 l = [] := fun l h => by unfold tail2; rw [h]; rfl
    have hou : ∀ l : List UInt8, undigs l = [] → oths (undigs l) = [] := fun l h => by rw [h]; rfl
    rw [cmpP_eq, both_eq, both_eq, cmpD_eq, cmpO_eq]
    constructor
    · rintro ⟨h1, h2, h3⟩
      rw [canonP_cons n ha, canonP_cons n hb, h1, h2]
      by_cases ta : tail2 a = []
      · have tb : tail2 b = [] := htl b (hund b (by rw [← h2]; exact hou a (ga2 ta)))
        rw [ta, tb]
      · by_cases tb : tail2 b = []
        · exact absurd (htl a (hund a (by rw [h2]; exact hou b (gb2 tb)))) ta
        · rw [(cmpP_canon n (tail2 a) (tail2 b) ga1 gb1 ta tb (by omega) (by omega)).1 h3]
    · intro h
      rw [h] at r1 r3 r4
      refine ⟨r1.symm.trans s1, r3.symm.trans s3, ?_⟩
      have ht : canonP n (tail2 a) = canonP n (tail2 b) := r4.symm.trans s4
      by_cases ta : tail2 a = []
      · by_cases tb : tail2 b = []
        · rw [ta, tb]; have := (cmpP_cmp n).1 [] []; omega
        · rw [ta, canonP_nil] at ht; exact absurd ht.symm (canonP_ne0 n tb (by omega))
      · by_cases tb : tail2 b = []
        · rw [tb, canonP_nil] at ht; exact absurd ht (canonP_ne0 n ta (by omega))
        · exact (cmpP_canon n (tail2 a) (tail2 b) ga1 gb1 ta tb (by omega) (by omega)).2 ht
end Go.Proofs.YtaghhdgiegcimaaDoor.Vm

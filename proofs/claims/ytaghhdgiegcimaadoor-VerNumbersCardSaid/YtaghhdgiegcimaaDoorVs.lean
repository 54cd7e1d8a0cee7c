/- Plain facts on whole versions: the canonical form is a version, its own canonical form, as great as what it is made of; two versions are as great just where it is the same; digits are compared as numbers. No program is named here. -/
import Derived.Test.YtaghhdgiegcimaaDoorVr
namespace Go.Proofs.YtaghhdgiegcimaaDoor.Vm

theorem ver_of {l : List UInt8} (h : check l = 0) : l.length ≤ 40 ∧ epOk (ep l) = true ∧ partOk (pt l) = true ∧ partOk (rv l) = true := by
  unfold check at h
  split at h
  · cases h
  · split at h
    · rename_i h1 h2
      unfold verOk at h2
      simp only [Bool.and_eq_true] at h2
      exact ⟨by omega, h2.1, h2.2.1, h2.2.2⟩
    · cases h
theorem of_ver {l : List UInt8} (h : l.length ≤ 40) (h1 : epOk (ep l) = true) (h2 : partOk (pt l) = true) (h3 : partOk (rv l) = true) : check l = 0 := by
  unfold check verOk
  rw [if_neg (by omega), h1, h2, h3]; rfl
theorem partOk_iff (l : List UInt8) : partOk l = true ↔ l ≠ [] ∧ GP l ∧ l.all ok1 = true := by
  cases l with
  | nil => simp [partOk]
  | cons c r =>
    have hl : (c :: r).getLast? = some ((c :: r).getD ((c :: r).length - 1) 0) := by
      rw [List.getLast?_eq_getElem?]; simp
    unfold partOk GP HdY
    rw [hl]
    simp only [List.isEmpty_cons, Bool.not_false, Bool.true_and, Bool.and_eq_true, List.head?_cons, Option.some.injEq, forall_eq', ne_eq, reduceCtorEq, not_false_eq_true, true_and, and_assoc]
    rfl
theorem epOk_iff (l : List UInt8) : epOk l = true ↔ l ≠ [] ∧ l.length ≤ 6 ∧ l.all dig = true := by
  cases l <;> simp [epOk]
theorem no58 {l : List UInt8} (h : l.all ok1 = true) : ∀ c ∈ l, c ≠ 58 ∧ c ≠ 45 := by
  intro c hc
  rw [List.all_eq_true] at h
  have := h c hc
  constructor <;> (rintro rfl; exact absurd this (by decide))
theorem dig_ok {l : List UInt8} (h : l.all dig = true) : l.all ok1 = true := by
  rw [List.all_eq_true] at *
  intro c hc
  rw [ok1, h c hc]; rfl
theorem fst_app (c : UInt8) {a : List UInt8} (b : List UInt8) (h : ∀ x ∈ a, x ≠ c) : fst c (a ++ c :: b) = a ∧ snd c (a ++ c :: b) = b ∧ has c (a ++ c :: b) = true := by
  unfold fst snd has
  induction a with
  | nil => simp
  | cons x r ih =>
    have hx : (x != c) = true := by simpa using h x (by simp)
    obtain ⟨h1, h2, h3⟩ := ih (fun y hy => h y (by simp [hy]))
    refine ⟨by simp [hx, h1], by simpa [hx] using h2, by simp⟩
theorem has_no (c : UInt8) {a : List UInt8} (h : ∀ x ∈ a, x ≠ c) : has c a = false ∧ fst c a = a := by
  unfold fst has
  induction a with
  | nil => simp
  | cons x r ih =>
    have hx : x ≠ c := h x (by simp)
    obtain ⟨h1, h2⟩ := ih (fun y hy => h y (by simp [hy]))
    refine ⟨?_, by simp [hx, h2]⟩
    have : (c == x) = false := by simpa using fun e => hx e.symm
    rw [List.contains_cons, this, Bool.false_or]; exact h1

/-- A text of three pieces: an epoch of digits or none, a part, a revision or none. -/
def glue (e p r : List UInt8) : List UInt8 := (if e.isEmpty then [] else e ++ [58]) ++ p ++ (if r.isEmpty then [] else 45 :: r)
theorem glue_pieces (e p r : List UInt8) (he : e.all dig = true) (hp : p.all ok1 = true) (hr : r.all ok1 = true) :
    ep (glue e p r) = (if e.isEmpty then [48] else e) ∧ pt (glue e p r) = p ∧ rv (glue e p r) = (if r.isEmpty then [48] else r) := by
  have hn1 : ∀ x ∈ p ++ (if r.isEmpty then [] else 45 :: r), x ≠ 58 := by
    intro x hx
    rcases List.mem_append.1 hx with hx | hx
    · exact (no58 hp x hx).1
    · split at hx
      · cases hx
      · rcases List.mem_cons.1 hx with rfl | hx
        · decide
        · exact (no58 hr x hx).1
  have hrest : rest (glue e p r) = p ++ (if r.isEmpty then [] else 45 :: r) ∧ ep (glue e p r) = (if e.isEmpty then [48] else e) := by
    unfold rest ep glue
    cases hE : e.isEmpty
    · have h3 : (if false = true then [] else e ++ [58]) ++ p ++ (if r.isEmpty then [] else 45 :: r) = e ++ 58 :: (p ++ (if r.isEmpty then [] else 45 :: r)) := by simp
      rw [h3]
      obtain ⟨g1, g2, g3⟩ := fst_app 58 (p ++ (if r.isEmpty then [] else 45 :: r)) (fun x hx => (no58 (dig_ok he) x hx).1)
      rw [g1, g2, g3]; exact ⟨rfl, rfl⟩
    · have h3 : (if true = true then [] else e ++ [58]) ++ p ++ (if r.isEmpty then [] else 45 :: r) = p ++ (if r.isEmpty then [] else 45 :: r) := by simp
      rw [h3, (has_no 58 hn1).1]; exact ⟨rfl, rfl⟩
  refine ⟨hrest.2, ?_, ?_⟩
  · unfold pt
    rw [hrest.1]
    cases hR : r.isEmpty
    · exact (fst_app 45 r (fun x hx => (no58 hp x hx).2)).1
    · simp only [if_true, List.append_nil]
      exact (has_no 45 (fun x hx => (no58 hp x hx).2)).2
  · unfold rv
    rw [hrest.1]
    cases hR : r.isEmpty
    · have g := fst_app 45 r (fun x hx => (no58 hp x hx).2)
      simp only [Bool.false_eq_true, if_false]
      rw [g.2.2, g.2.1]; rfl
    · simp only [if_true, List.append_nil]
      rw [(has_no 45 (fun x hx => (no58 hp x hx).2)).1]; rfl
theorem recon (c : UInt8) (l : List UInt8) (h : has c l = true) : l = fst c l ++ c :: snd c l := by
  unfold has fst snd at *
  induction l with
  | nil => cases h
  | cons x r ih =>
    by_cases hx : x = c
    · subst hx; simp
    · have h1 : (x != c) = true := by simpa using hx
      have h2 : (c == x) = false := by simpa using fun e => hx e.symm
      rw [List.contains_cons, h2, Bool.false_or] at h
      rw [List.takeWhile_cons, List.dropWhile_cons, h1]
      simp only [if_true, List.cons_append]
      rw [← ih h]
theorem lengths (l : List UInt8) : (if has 58 l then (ep l).length + 1 else 0) + (pt l).length + (if has 45 (rest l) then (rv l).length + 1 else 0) = l.length := by
  have h2 : (pt l).length + (if has 45 (rest l) then (rv l).length + 1 else 0) = (rest l).length := by
    unfold pt rv
    cases h : has 45 (rest l)
    · have : fst 45 (rest l) = rest l := by
        refine (has_no 45 (fun x hx e => ?_)).2
        subst e
        unfold has at h
        rw [List.contains_iff_mem.2 hx] at h; cases h
      rw [this]; simp
    · have e := congrArg List.length (recon 45 (rest l) h)
      rw [List.length_append, List.length_cons] at e
      simp only [if_true]; omega
  have h1 : (if has 58 l then (ep l).length + 1 else 0) + (rest l).length = l.length := by
    unfold ep rest
    cases h : has 58 l
    · simp
    · have e := congrArg List.length (recon 58 l h)
      rw [List.length_append, List.length_cons] at e
      simp only [if_true]; omega
  omega
theorem gp_of {l : List UInt8} (h : partOk l = true) : l ≠ [] ∧ GP l ∧ l.all ok1 = true := (partOk_iff l).1 h
theorem rv_len {l : List UInt8} (h : check l = 0) : (rv l).length ≤ 41 ∧ (pt l).length ≤ 41 := by
  have h1 := lengths l
  have h2 := (ver_of h).1
  refine ⟨?_, by omega⟩
  cases h3 : has 45 (rest l)
  · unfold rv; rw [h3]; simp
  · rw [h3] at h1; simp only [if_true] at h1; omega
theorem canon_glue {l : List UInt8} (hv : check l = 0) : canon l = glue (if bare (ep l) == [48] then [] else bare (ep l)) (canonP 41 (pt l)) (if canonP 41 (rv l) == [48] then [] else canonP 41 (rv l)) := by
  unfold canon canonE canonR glue
  have h1 := bare_ne (ep l)
  have h2 := canonP_ne0 41 (gp_of (ver_of hv).2.2.2).1 (rv_len hv).1
  congr 1
  · congr 1
    cases h : bare (ep l) == [48]
    · have : (bare (ep l)).isEmpty = false := by simpa using h1
      simp [this]
    · simp
  · cases h : canonP 41 (rv l) == [48]
    · have : (canonP 41 (rv l)).isEmpty = false := by simpa using h2
      simp [this]
    · simp
/-- The pieces of a canonical form. -/
theorem canon_pieces {l : List UInt8} (hv : check l = 0) : ep (canon l) = bare (ep l) ∧ pt (canon l) = canonP 41 (pt l) ∧ rv (canon l) = canonP 41 (rv l) := by
  obtain ⟨_, v1, v2, v3⟩ := ver_of hv
  obtain ⟨p1, p2, p3⟩ := gp_of v2
  obtain ⟨r1, r2, r3⟩ := gp_of v3
  have e3 := ((epOk_iff _).1 v1).2.2
  rw [canon_glue hv]
  have g := glue_pieces (if bare (ep l) == [48] then [] else bare (ep l)) (canonP 41 (pt l)) (if canonP 41 (rv l) == [48] then [] else canonP 41 (rv l))
    (by split
        · rfl
        · exact bare_all e3) (canonP_ok 41 _ p3)
    (by split
        · rfl
        · exact canonP_ok 41 _ r3)
  refine ⟨g.1.trans ?_, g.2.1, g.2.2.trans ?_⟩
  · have h1 := bare_ne (ep l)
    cases h : bare (ep l) == [48]
    · have : (bare (ep l)).isEmpty = false := by simpa using h1
      simp [this]
    · simp; exact (by simpa using h : bare (ep l) = [48]).symm
  · have h2 := canonP_ne0 41 r1 (rv_len hv).1
    cases h : canonP 41 (rv l) == [48]
    · have : (canonP 41 (rv l)).isEmpty = false := by simpa using h2
      simp [this]
    · simp; exact (by simpa using h : canonP 41 (rv l) = [48]).symm
theorem part_canon {p : List UInt8} (h : partOk p = true) (hl : p.length ≤ 41) : partOk (canonP 41 p) = true := by
  obtain ⟨p1, p2, p3⟩ := gp_of h
  exact (partOk_iff _).2 ⟨canonP_ne0 41 p1 hl, ⟨canonP_hdY 41 p, canonP_last 41 p p2 hl⟩, canonP_ok 41 p p3⟩
theorem canon_check {l : List UInt8} (hv : check l = 0) : check (canon l) = 0 := by
  obtain ⟨hl, v1, v2, v3⟩ := ver_of hv
  obtain ⟨c1, c2, c3⟩ := canon_pieces hv
  obtain ⟨e1, e2, e3⟩ := (epOk_iff _).1 v1
  have lv := rv_len hv
  have hlen : (canon l).length ≤ l.length := by
    have h := lengths l
    have le := bare_len e1
    have lp := canonP_len 41 (pt l) (gp_of v2).2.1.1
    have lr := canonP_len 41 (rv l) (gp_of v3).2.1.1
    have hE : (canonE l).length ≤ (if has 58 l then (ep l).length + 1 else 0) := by
      unfold canonE
      cases h1 : has 58 l
      · have : ep l = [48] := by unfold ep; rw [h1]; rfl
        rw [this]; decide
      · split
        · simp
        · simp; omega
    have hR : (canonR l).length ≤ (if has 45 (rest l) then (rv l).length + 1 else 0) := by
      unfold canonR
      cases h1 : has 45 (rest l)
      · have : rv l = [48] := by unfold rv; rw [h1]; rfl
        rw [this]; decide
      · split
        · simp
        · simp; omega
    unfold canon
    rw [List.length_append, List.length_append]
    omega
  refine of_ver (by omega) ?_ ?_ ?_
  · rw [c1]; exact (epOk_iff _).2 ⟨bare_ne _, by have := bare_len e1; omega, bare_all e3⟩
  · rw [c2]; exact part_canon v2 lv.2
  · rw [c3]; exact part_canon v3 lv.1
theorem canon_canon {l : List UInt8} (hv : check l = 0) : canon (canon l) = canon l := by
  obtain ⟨_, v1, v2, v3⟩ := ver_of hv
  obtain ⟨c1, c2, c3⟩ := canon_pieces hv
  have lv := rv_len hv
  have i2 := canonP_idem 41 (pt l) (gp_of v2).2.1 lv.2
  have i3 := canonP_idem 41 (rv l) (gp_of v3).2.1 lv.1
  show canonE (canon l) ++ canonP 41 (pt (canon l)) ++ canonR (canon l) = canonE l ++ canonP 41 (pt l) ++ canonR l
  unfold canonE canonR
  rw [c1, c2, c3, bare_bare, i2, i3]
/-- As great just where the canonical forms are the same. -/
theorem cmpV_canon {l m : List UInt8} (hl : check l = 0) (hm : check m = 0) : cmpV l m = 0 ↔ canon l = canon m := by
  obtain ⟨_, _, v2, v3⟩ := ver_of hl
  obtain ⟨_, _, u2, u3⟩ := ver_of hm
  have lv := rv_len hl
  have lu := rv_len hm
  obtain ⟨p1, p2, _⟩ := gp_of v2
  obtain ⟨r1, r2, _⟩ := gp_of v3
  obtain ⟨q1, q2, _⟩ := gp_of u2
  obtain ⟨s1, s2, _⟩ := gp_of u3
  unfold cmpV
  rw [both_eq, both_eq, cmpD_eq, cmpP_canon 41 _ _ p2 q2 p1 q1 lv.2 lu.2, cmpP_canon 41 _ _ r2 s2 r1 s1 lv.1 lu.1]
  constructor
  · rintro ⟨h1, h2, h3⟩
    unfold canon canonE canonR
    rw [h1, h2, h3]
  · intro h
    obtain ⟨c1, c2, c3⟩ := canon_pieces hl
    obtain ⟨d1, d2, d3⟩ := canon_pieces hm
    rw [h] at c1 c2 c3
    exact ⟨c1.symm.trans d1, c2.symm.trans d2, c3.symm.trans d3⟩
theorem cmpV_own {l : List UInt8} (hl : check l = 0) : cmpV l (canon l) = 0 := (cmpV_canon hl (canon_check hl)).2 (canon_canon hl).symm

/-! Digits, as numbers. -/
theorem num_from (l : List UInt8) : ∀ a, l.foldl (fun n c => 10 * n + (c.toNat - 48)) a = a * 10 ^ l.length + num l := by
  induction l with
  | nil => intro a; simp [num]
  | cons c r ih =>
    intro a
    unfold num at *
    simp only [List.foldl_cons, List.length_cons]
    rw [ih, ih (10 * 0 + (c.toNat - 48)), Nat.pow_succ]
    simp only [Nat.add_mul, Nat.mul_zero, Nat.zero_add]
    have : a * (10 ^ r.length * 10) = 10 * a * 10 ^ r.length := by rw [Nat.mul_comm (10 ^ r.length) 10, ← Nat.mul_assoc, Nat.mul_comm a 10]
    omega
theorem num_cons (c : UInt8) (r : List UInt8) : num (c :: r) = (c.toNat - 48) * 10 ^ r.length + num r := by
  have := num_from r (c.toNat - 48)
  unfold num at *
  simpa using this
theorem num_lt (l : List UInt8) (h : l.all dig = true) : num l < 10 ^ l.length := by
  induction l with
  | nil => simp [num]
  | cons c r ih =>
    simp only [List.all_cons, Bool.and_eq_true] at h
    have h1 := ih h.2
    have h2 : c.toNat - 48 ≤ 9 := by have := h.1; unfold dig at this; simp at this; omega
    rw [num_cons, List.length_cons, Nat.pow_succ]
    have : (c.toNat - 48) * 10 ^ r.length ≤ 9 * 10 ^ r.length := Nat.mul_le_mul_right _ h2
    omega
theorem num_bare (l : List UInt8) : num (bare l) = num l := by
  have key : ∀ l : List UInt8, num (l.dropWhile (· == 48)) = num l := by
    intro l
    induction l with
    | nil => rfl
    | cons c r ih =>
      rw [List.dropWhile_cons]
      split
      · rename_i h
        rw [ih, num_cons, show c = 48 from by simpa using h]; simp
      · rfl
  unfold bare
  split
  · rename_i h
    have := key l
    rw [show l.dropWhile (· == 48) = [] from by simpa using h] at this
    rw [← this]; rfl
  · exact key l
theorem sgn_lt {a b : Int} (h : a < b) : sgn a b = -1 := by unfold sgn; rw [if_pos h]
theorem sgn_gt {a b : Int} (h : b < a) : sgn a b = 1 := by unfold sgn; rw [if_neg (by omega), if_pos h]
theorem sgn_add (q a b : Int) : sgn (q + a) (q + b) = sgn a b := by
  by_cases h1 : a < b
  · rw [sgn_lt h1, sgn_lt (by omega)]
  · by_cases h2 : b < a
    · rw [sgn_gt h2, sgn_gt (by omega)]
    · rw [(sgn_eq a b).2 (by omega), (sgn_eq _ _).2 (by omega)]
theorem cb_num : ∀ a b : List UInt8, a.length = b.length → a.all dig = true → b.all dig = true → Lib.compareBytes a b = sgn (num a) (num b)
  | [], [], _, _, _ => rfl
  | [], _ :: _, h, _, _ => by cases h
  | _ :: _, [], h, _, _ => by cases h
  | a :: r, b :: s, h, ha, hb => by
    simp only [List.all_cons, Bool.and_eq_true] at ha hb
    have hl : r.length = s.length := by simpa using h
    have ih := cb_num r s hl ha.2 hb.2
    have h1 := num_lt r ha.2
    have h2 := num_lt s hb.2
    have da : 48 ≤ a.toNat ∧ a.toNat ≤ 57 := by have := ha.1; unfold dig at this; simpa using this
    have db : 48 ≤ b.toNat ∧ b.toNat ≤ 57 := by have := hb.1; unfold dig at this; simpa using this
    rw [cb_cons, num_cons, num_cons, ih, hl]
    rw [hl] at h1
    generalize 10 ^ s.length = P at *
    rcases Nat.lt_trichotomy a.toNat b.toNat with hlt | heq | hgt
    · have : (a.toNat - 48) * P + P ≤ (b.toNat - 48) * P := by
        rw [← Nat.succ_mul]; exact Nat.mul_le_mul_right _ (by omega)
      rw [sgn_lt (show (a.toNat : Int) < b.toNat by omega), sgn_lt (show (((a.toNat - 48) * P + num r : Nat) : Int) < ((b.toNat - 48) * P + num s : Nat) by omega)]; rfl
    · rw [(sgn_eq (a.toNat : Int) b.toNat).2 (by omega), heq]
      generalize (b.toNat - 48) * P = Q
      rw [show ((Q + num r : Nat) : Int) = (Q : Int) + (num r : Int) from by omega, show ((Q + num s : Nat) : Int) = (Q : Int) + (num s : Int) from by omega, sgn_add]; rfl
    · have : (b.toNat - 48) * P + P ≤ (a.toNat - 48) * P := by
        rw [← Nat.succ_mul]; exact Nat.mul_le_mul_right _ (by omega)
      rw [sgn_gt (show (b.toNat : Int) < a.toNat by omega), sgn_gt (show (((b.toNat - 48) * P + num s : Nat) : Int) < ((a.toNat - 48) * P + num r : Nat) by omega)]; rfl
theorem bare_first {l : List UInt8} (h : l.all dig = true) : bare l = [48] ∨ ∃ c r, bare l = c :: r ∧ 49 ≤ c.toNat := by
  unfold bare
  cases hd : l.dropWhile (· == 48) with
  | nil => left; rfl
  | cons c r =>
    right
    refine ⟨c, r, rfl, ?_⟩
    have hne : (c == 48) = false := by
      have := List.head?_dropWhile_not (· == 48) l
      rw [hd] at this
      simpa using this
    have hc : dig c = true := by
      rw [List.all_eq_true] at h
      exact h c ((List.dropWhile_sublist _).subset (by rw [hd]; simp))
    unfold dig at hc
    simp at hc
    have : c.toNat ≠ 48 := fun e => by
      have : c = 48 := UInt8.toNat.inj e
      subst this; cases hne
    omega
/-- Of runs of digits the greater number is ahead. -/
theorem cmpD_num (a b : List UInt8) (ha : a.all dig = true) (hb : b.all dig = true) : cmpD a b = sgn (num a) (num b) := by
  have ea := num_bare a
  have eb := num_bare b
  have aa := bare_all ha
  have ab := bare_all hb
  have low : ∀ x y : List UInt8, (x = [48] ∨ ∃ c r, x = c :: r ∧ 49 ≤ c.toNat) → (y = [48] ∨ ∃ c r, y = c :: r ∧ 49 ≤ c.toNat) → x.all dig = true → x.length < y.length → num x < num y := by
    intro x y hx hy ax hlt
    have h1 := num_lt x ax
    rcases hy with rfl | ⟨c, r, rfl, hc⟩
    · have : x = [] := List.eq_nil_of_length_eq_zero (by have : x.length < 1 := hlt; omega)
      subst this
      rcases hx with h | ⟨_, _, h, _⟩ <;> cases h
    · rw [num_cons]
      have h2 : 10 ^ x.length ≤ 10 ^ r.length := Nat.pow_le_pow_right (by decide) (by simp at hlt; omega)
      have h3 : 1 * 10 ^ r.length ≤ (c.toNat - 48) * 10 ^ r.length := Nat.mul_le_mul_right _ (by omega)
      omega
  unfold cmpD
  rw [← ea, ← eb]
  rcases Nat.lt_trichotomy (bare a).length (bare b).length with hlt | heq | hgt
  · have := low _ _ (bare_first ha) (bare_first hb) aa hlt
    have e1 : sgn ((bare a).length : Int) (bare b).length = -1 := by unfold sgn; rw [if_pos (by omega)]
    rw [e1]
    unfold both sgn
    rw [if_pos (show ((num (bare a) : Nat) : Int) < num (bare b) by omega)]; rfl
  · rw [show sgn ((bare a).length : Int) (bare b).length = 0 from (sgn_eq _ _).2 (by omega)]
    rw [cb_num _ _ heq aa ab]; rfl
  · have := low _ _ (bare_first hb) (bare_first ha) ab hgt
    have e1 : sgn ((bare a).length : Int) (bare b).length = 1 := by unfold sgn; rw [if_neg (by omega), if_pos (by omega)]
    rw [e1]
    unfold both sgn
    rw [if_neg (show ¬ ((num (bare a) : Nat) : Int) < num (bare b) by omega), if_pos (show ((num (bare b) : Nat) : Int) < num (bare a) by omega)]; rfl
end Go.Proofs.YtaghhdgiegcimaaDoor.Vm

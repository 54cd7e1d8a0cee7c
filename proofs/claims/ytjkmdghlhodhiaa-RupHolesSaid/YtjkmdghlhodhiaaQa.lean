/- Plain functions on bytes that say what the versions' functions compute. No program is named here. Plain facts on the order of versions: turned round it is the other one, it stands in one row, and 0 is just 'one canonical form'. No program is named here. Plain facts on the canonical form: what its pieces are, that it is a version no longer than what it is made of, that it is its own canonical form, and that two versions are as great just where it is the same. No program is named here. Plain facts on whole versions: the canonical form is a version, its own canonical form, as great as what it is made of; two versions are as great just where it is the same; digits are compared as numbers. No program is named here. -/
import Derived.Lib.Strings
import Derived.Lib.IndexMore
import Derived.Lib.IndexAny
import Derived.Lib.SlTrimSet
import Derived.Lib.Bytealg
namespace Go.Proofs.Ytjkmdghlhodhiaa.Vm

def dig (c : UInt8) : Bool := decide (48 ≤ c.toNat) && decide (c.toNat ≤ 57)
def ltr (c : UInt8) : Bool := (decide (97 ≤ c.toNat) && decide (c.toNat ≤ 122)) || (decide (65 ≤ c.toNat) && decide (c.toNat ≤ 90))
def oth (c : UInt8) : Bool := ltr c || (c.toNat == 46 || (c.toNat == 43 || c.toNat == 126))
def ok1 (c : UInt8) : Bool := dig c || oth c

/-- May it be a part of a version? -/
def partOk (l : List UInt8) : Bool := !l.isEmpty && (dig (l.getD 0 0) && (dig (l.getD (l.length - 1) 0) && l.all ok1))
def epOk (l : List UInt8) : Bool := !l.isEmpty && (decide (l.length ≤ 6) && l.all dig)

def fst (c : UInt8) (l : List UInt8) : List UInt8 := l.takeWhile (· != c)
def snd (c : UInt8) (l : List UInt8) : List UInt8 := (l.dropWhile (· != c)).drop 1
def has (c : UInt8) (l : List UInt8) : Bool := l.contains c

/-- The pieces of a version; "0" for a missing one. -/
def ep (l : List UInt8) : List UInt8 := if has 58 l then fst 58 l else [48]
def rest (l : List UInt8) : List UInt8 := if has 58 l then snd 58 l else l
def pt (l : List UInt8) : List UInt8 := fst 45 (rest l)
def rv (l : List UInt8) : List UInt8 := if has 45 (rest l) then snd 45 (rest l) else [48]
def verOk (l : List UInt8) : Bool := epOk (ep l) && (partOk (pt l) && partOk (rv l))
/-- P101's Check, as a number. -/
def check (l : List UInt8) : Int := if 40 < l.length then 4 else if verOk l then 0 else 5

/-- A run of digits without noughts ahead. -/
def bare (l : List UInt8) : List UInt8 := if (l.dropWhile (· == 48)).isEmpty then [48] else l.dropWhile (· == 48)
def digs (l : List UInt8) : List UInt8 := l.takeWhile dig
def undigs (l : List UInt8) : List UInt8 := l.dropWhile dig
def oths (l : List UInt8) : List UInt8 := l.takeWhile (fun c => !dig c)
def unoths (l : List UInt8) : List UInt8 := l.dropWhile (fun c => !dig c)
/-- What a part is behind its first two runs. -/
def tail2 (l : List UInt8) : List UInt8 := unoths (undigs l)

def canonP : Nat → List UInt8 → List UInt8
  | 0, _ => []
  | n + 1, l => if l.isEmpty then [] else bare (digs l) ++ oths (undigs l) ++ canonP n (tail2 l)
def canonE (l : List UInt8) : List UInt8 := if bare (ep l) == [48] then [] else bare (ep l) ++ [58]
def canonR (l : List UInt8) : List UInt8 := if canonP 41 (rv l) == [48] then [] else 45 :: canonP 41 (rv l)
def canon (l : List UInt8) : List UInt8 := canonE l ++ canonP 41 (pt l) ++ canonR l

def sgn (a b : Int) : Int := if a < b then -1 else if b < a then 1 else 0
def both (a b : Int) : Int := if a == 0 then b else a
def cmpD (a b : List UInt8) : Int := both (sgn (bare a).length (bare b).length) (Lib.compareBytes (bare a) (bare b))
/-- How byte i of a run stands; the end of the run is 0. -/
def mark (l : List UInt8) (i : Nat) : Int :=
  if l.length ≤ i then 0 else if (l.getD i 0).toNat == 126 then -1 else if ltr (l.getD i 0) then ((l.getD i 0).toNat : Int) else 256 + ((l.getD i 0).toNat : Int)
def markB (c : UInt8) : Int := if c.toNat == 126 then -1 else if ltr c then (c.toNat : Int) else 256 + (c.toNat : Int)
def cmpOF (a b : List UInt8) : Nat → Nat → Int
  | 0, _ => 0
  | n + 1, i => both (sgn (mark a i) (mark b i)) (cmpOF a b n (i + 1))
def cmpO (a b : List UInt8) : Int := cmpOF a b (max a.length b.length) 0
def cmpP : Nat → List UInt8 → List UInt8 → Int
  | 0, _, _ => 0
  | n + 1, a, b => if a.isEmpty && b.isEmpty then 0 else both (cmpD (digs a) (digs b)) (both (cmpO (oths (undigs a)) (oths (undigs b))) (cmpP n (tail2 a) (tail2 b)))
/-- P102's Compare, of two versions. -/
def cmpV (l m : List UInt8) : Int := both (cmpD (ep l) (ep m)) (both (cmpP 41 (pt l) (pt m)) (cmpP 41 (rv l) (rv m)))
def num (l : List UInt8) : Nat := l.foldl (fun n c => 10 * n + (c.toNat - 48)) 0
end Go.Proofs.Ytjkmdghlhodhiaa.Vm
namespace Go.Proofs.Ytjkmdghlhodhiaa.Vm

/-- Turned round it is the other one; of three, one that is not above the second, which is not above the third, is not above that. -/
def Cmp3 {α : Type} (f : α → α → Int) : Prop := (∀ a b, f b a = - f a b) ∧ (∀ a b c, f a b ≤ 0 → f b c ≤ 0 → f a c ≤ 0)
theorem sgn_le (a b : Int) : sgn a b ≤ 0 ↔ a ≤ b := by unfold sgn; split <;> (try split) <;> omega
theorem sgn_eq (a b : Int) : sgn a b = 0 ↔ a = b := by unfold sgn; split <;> (try split) <;> omega
theorem sgn_anti (a b : Int) : sgn b a = - sgn a b := by unfold sgn; by_cases h1 : a < b <;> by_cases h2 : b < a <;> simp [h1, h2] <;> omega
theorem sgn_cmp : Cmp3 sgn := ⟨fun a b => sgn_anti a b, fun a b c h1 h2 => by rw [sgn_le] at *; omega⟩
theorem both_eq {x y : Int} : both x y = 0 ↔ x = 0 ∧ y = 0 := by
  unfold both
  by_cases h : x = 0
  · simp [h]
  · simp [h]
theorem Cmp3.both {α : Type} {f g : α → α → Int} (hf : Cmp3 f) (hg : Cmp3 g) : Cmp3 (fun a b => Vm.both (f a b) (g a b)) := by
  refine ⟨fun a b => ?_, fun a b c h1 h2 => ?_⟩
  · simp only [Vm.both, hf.1 a b, hg.1 a b]
    by_cases h : f a b = 0
    · simp [h]
    · simp [h]
  · simp only [Vm.both, beq_iff_eq] at *
    have a1 := hf.1 a b; have a2 := hf.1 b c; have a3 := hf.1 a c
    have t1 := hf.2 a b c; have t2 := hf.2 c b a; have t3 := hf.2 b c a; have t4 := hf.2 c a b; have t5 := hg.2 a b c
    split at h1
    · split at h2
      · have : f a c = 0 := by
          have := t1 (by omega) (by omega)
          have := t2 (by omega) (by omega)
          omega
        rw [if_pos this]; exact t5 h1 h2
      · have h4 := t1 (by omega) (by omega)
        split
        · rename_i h5
          have := t4 (by omega) (by omega)
          omega
        · exact h4
    · split at h2
      · have h4 := t1 (by omega) (by omega)
        split
        · rename_i h5
          have := t3 (by omega) (by omega)
          omega
        · exact h4
      · have h4 := t1 h1 h2
        split
        · rename_i h5
          have := t3 h2 (by omega)
          omega
        · exact h4
theorem Cmp3.pull {α β : Type} {f : α → α → Int} (hf : Cmp3 f) (h : β → α) : Cmp3 (fun a b => f (h a) (h b)) := ⟨fun _ _ => hf.1 _ _, fun _ _ _ h1 h2 => hf.2 _ _ _ h1 h2⟩
theorem zero_cmp {α : Type} : Cmp3 (fun (_ _ : α) => (0 : Int)) := ⟨fun _ _ => rfl, fun _ _ _ _ _ => Int.le_refl _⟩

theorem cb_cons (a b : UInt8) (r s : List UInt8) : Lib.compareBytes (a :: r) (b :: s) = both (sgn a.toNat b.toNat) (Lib.compareBytes r s) := by
  rw [Lib.compareBytes]
  unfold both sgn
  simp only [UInt8.lt_iff_toNat_lt]
  by_cases h1 : a.toNat < b.toNat
  · have : (a.toNat : Int) < b.toNat := by omega
    simp [h1]
  · by_cases h2 : b.toNat < a.toNat
    · simp [h1, h2]
    · simp [h1, h2]
theorem cb_anti : ∀ a b : List UInt8, Lib.compareBytes b a = - Lib.compareBytes a b
  | [], [] => rfl
  | [], _ :: _ => rfl
  | _ :: _, [] => rfl
  | a :: r, b :: s => by
    have ih := cb_anti r s
    rw [cb_cons, cb_cons]
    unfold both
    rw [sgn_anti, ih]
    by_cases h : sgn (a.toNat : Int) b.toNat = 0
    · simp [h]
    · simp [h]
theorem cb_eq : ∀ a b : List UInt8, Lib.compareBytes a b = 0 ↔ a = b
  | [], [] => by simp [Lib.compareBytes]
  | [], _ :: _ => by simp [Lib.compareBytes]
  | _ :: _, [] => by simp [Lib.compareBytes]
  | a :: r, b :: s => by
    rw [cb_cons, both_eq, cb_eq r s, sgn_eq]
    constructor
    · rintro ⟨h1, h2⟩
      rw [h2, UInt8.toNat.inj (show a.toNat = b.toNat by omega)]
    · intro h; injection h with h1 h2; subst h1 h2; exact ⟨rfl, rfl⟩
theorem cb_trans : ∀ a b c : List UInt8, Lib.compareBytes a b ≤ 0 → Lib.compareBytes b c ≤ 0 → Lib.compareBytes a c ≤ 0
  | [], _, [], _, _ => by simp [Lib.compareBytes]
  | [], _, _ :: _, _, _ => by simp [Lib.compareBytes]
  | _ :: _, [], _, h, _ => by simp [Lib.compareBytes] at h
  | _ :: _, _ :: _, [], _, h => by simp [Lib.compareBytes] at h
  | a :: r, b :: s, c :: t, h1, h2 => by
    have ih := cb_trans r s t
    rw [cb_cons] at *
    unfold both at *
    simp only [beq_iff_eq, sgn_eq] at *
    split at h1
    · split at h2
      · rw [if_pos (by omega)]; exact ih h1 h2
      · rw [sgn_le] at h2; rw [if_neg (by omega), sgn_le]; omega
    · rw [sgn_le] at h1
      split at h2
      · rw [if_neg (by omega), sgn_le]; omega
      · rw [sgn_le] at h2; rw [if_neg (by omega), sgn_le]; omega
theorem cb_cmp : Cmp3 Lib.compareBytes := ⟨cb_anti, cb_trans⟩
theorem cmpD_cmp : Cmp3 cmpD := Cmp3.both ((sgn_cmp.pull (fun n : Nat => (n : Int))).pull (fun l => (bare l).length)) (cb_cmp.pull bare)
theorem cmpD_eq (a b : List UInt8) : cmpD a b = 0 ↔ bare a = bare b := by
  unfold cmpD
  rw [both_eq, sgn_eq, cb_eq]
  exact ⟨fun h => h.2, fun h => ⟨by rw [h], h⟩⟩

theorem cmpOF_cmp : ∀ n i, Cmp3 (fun a b => cmpOF a b n i)
  | 0, _ => zero_cmp
  | n + 1, i => Cmp3.both (sgn_cmp.pull (fun l => mark l i)) (cmpOF_cmp n (i + 1))
theorem mark_out (l : List UInt8) (i : Nat) (h : l.length ≤ i) : mark l i = 0 := by simp [mark, h]
theorem cmpOF_out (a b : List UInt8) : ∀ n i, a.length ≤ i → b.length ≤ i → cmpOF a b n i = 0
  | 0, _, _, _ => rfl
  | n + 1, i, ha, hb => by rw [cmpOF, mark_out a i ha, mark_out b i hb, cmpOF_out a b n (i + 1) (by omega) (by omega)]; rfl
theorem cmpOF_more (a b : List UInt8) (k : Nat) : ∀ n i, a.length ≤ n + i → b.length ≤ n + i → cmpOF a b (n + k) i = cmpOF a b n i
  | 0, i, ha, hb => by rw [cmpOF_out a b _ i (by omega) (by omega)]; rfl
  | n + 1, i, ha, hb => by rw [show n + 1 + k = (n + k) + 1 from by omega, cmpOF, cmpOF, cmpOF_more a b k n (i + 1) (by omega) (by omega)]
theorem cmpO_far (a b : List UInt8) (N : Nat) (ha : a.length ≤ N) (hb : b.length ≤ N) : cmpO a b = cmpOF a b N 0 := by
  unfold cmpO
  have : N = max a.length b.length + (N - max a.length b.length) := by omega
  rw [this, cmpOF_more a b _ _ 0 (by omega) (by omega)]
theorem cmpO_cmp : Cmp3 cmpO := by
  refine ⟨fun a b => ?_, fun a b c h1 h2 => ?_⟩
  · rw [cmpO_far b a (a.length + b.length) (by omega) (by omega), cmpO_far a b (a.length + b.length) (by omega) (by omega)]
    exact (cmpOF_cmp _ 0).1 a b
  · rw [cmpO_far a b (a.length + b.length + c.length) (by omega) (by omega)] at h1
    rw [cmpO_far b c (a.length + b.length + c.length) (by omega) (by omega)] at h2
    rw [cmpO_far a c (a.length + b.length + c.length) (by omega) (by omega)]
    exact (cmpOF_cmp _ 0).2 a b c h1 h2
theorem cmpOF_eq (a b : List UInt8) : ∀ n i, cmpOF a b n i = 0 → ∀ j, i ≤ j → j < i + n → mark a j = mark b j
  | 0, i, _, j, h1, h2 => by omega
  | n + 1, i, h, j, h1, h2 => by
    rw [cmpOF, both_eq, sgn_eq] at h
    by_cases hj : j = i
    · subst hj; exact h.1
    · exact cmpOF_eq a b n (i + 1) h.2 j (by omega) (by omega)
theorem markB_ne (c : UInt8) : markB c ≠ 0 := by
  unfold markB
  split
  · decide
  · split
    · rename_i h2; unfold ltr at h2; simp at h2; omega
    · omega
theorem markB_inj (a b : UInt8) (h : markB a = markB b) : a = b := by
  apply UInt8.toNat.inj
  have ha' := a.toNat_lt
  have hb' := b.toNat_lt
  unfold markB at h
  by_cases a1 : a.toNat = 126 <;> by_cases b1 : b.toNat = 126 <;> cases a2 : ltr a <;> cases b2 : ltr b <;> simp [a1, b1, a2, b2] at h <;> omega
theorem mark_in (l : List UInt8) (i : Nat) (h : i < l.length) : mark l i = markB l[i] := by
  unfold mark markB
  rw [if_neg (by omega)]
  simp [h]
theorem cmpO_eq (a b : List UInt8) : cmpO a b = 0 ↔ a = b := by
  constructor
  · intro h
    rw [cmpO_far a b (a.length + b.length + 1) (by omega) (by omega)] at h
    have hm := cmpOF_eq a b _ 0 h
    have hl : a.length = b.length := by
      by_cases h1 : a.length < b.length
      · have := hm a.length (by omega) (by omega)
        rw [mark_out a _ (Nat.le_refl _), mark_in b _ h1] at this
        exact absurd this.symm (markB_ne _)
      · by_cases h2 : b.length < a.length
        · have := hm b.length (by omega) (by omega)
          rw [mark_out b _ (Nat.le_refl _), mark_in a _ h2] at this
          exact absurd this (markB_ne _)
        · omega
    apply List.ext_getElem hl
    intro i h1 h2
    have := hm i (by omega) (by omega)
    rw [mark_in a _ h1, mark_in b _ h2] at this
    exact markB_inj _ _ this
  · rintro rfl
    have := cmpO_cmp.1 a a
    omega
theorem cmpP_eq (n : Nat) (a b : List UInt8) : cmpP (n + 1) a b = both (cmpD (digs a) (digs b)) (both (cmpO (oths (undigs a)) (oths (undigs b))) (cmpP n (tail2 a) (tail2 b))) := by
  rw [cmpP]
  split
  · rename_i h
    simp only [Bool.and_eq_true, List.isEmpty_iff] at h
    obtain ⟨rfl, rfl⟩ := h
    have h0 : cmpP n (tail2 []) (tail2 []) = 0 := by
      cases n with
      | zero => rfl
      | succ n => rfl
    rw [h0]; rfl
  · rfl
theorem cmpP_cmp : ∀ n, Cmp3 (cmpP n)
  | 0 => zero_cmp
  | n + 1 => by
    have h := Cmp3.both (cmpD_cmp.pull digs) (Cmp3.both (cmpO_cmp.pull (fun l => oths (undigs l))) ((cmpP_cmp n).pull tail2))
    have e : cmpP (n + 1) = fun a b => both (cmpD (digs a) (digs b)) (both (cmpO (oths (undigs a)) (oths (undigs b))) (cmpP n (tail2 a) (tail2 b))) := by
      funext a b; exact cmpP_eq n a b
    rw [e]; exact h
theorem cmpV_cmp : Cmp3 cmpV := Cmp3.both (cmpD_cmp.pull ep) (Cmp3.both ((cmpP_cmp 41).pull pt) ((cmpP_cmp 41).pull rv))

theorem sgn_range (a b : Int) : -1 ≤ sgn a b ∧ sgn a b ≤ 1 := by unfold sgn; split <;> (try split) <;> omega
theorem both_range {x y : Int} (h1 : -1 ≤ x ∧ x ≤ 1) (h2 : -1 ≤ y ∧ y ≤ 1) : -1 ≤ both x y ∧ both x y ≤ 1 := by unfold both; split <;> assumption
theorem cb_range : ∀ a b : List UInt8, -1 ≤ Lib.compareBytes a b ∧ Lib.compareBytes a b ≤ 1
  | [], [] => by decide
  | [], _ :: _ => by simp [Lib.compareBytes]
  | _ :: _, [] => by simp [Lib.compareBytes]
  | a :: r, b :: s => by rw [cb_cons]; exact both_range (sgn_range _ _) (cb_range r s)
theorem cmpD_range (a b : List UInt8) : -1 ≤ cmpD a b ∧ cmpD a b ≤ 1 := both_range (sgn_range _ _) (cb_range _ _)
theorem cmpOF_range (a b : List UInt8) : ∀ n i, -1 ≤ cmpOF a b n i ∧ cmpOF a b n i ≤ 1
  | 0, _ => by simp [cmpOF]
  | n + 1, i => by rw [cmpOF]; exact both_range (sgn_range _ _) (cmpOF_range a b n (i + 1))
theorem cmpP_range : ∀ n a b, -1 ≤ cmpP n a b ∧ cmpP n a b ≤ 1
  | 0, _, _ => by simp [cmpP]
  | n + 1, a, b => by rw [cmpP_eq]; exact both_range (cmpD_range _ _) (both_range (cmpOF_range _ _ _ _) (cmpP_range n _ _))
theorem cmpV_range (l m : List UInt8) : -1 ≤ cmpV l m ∧ cmpV l m ≤ 1 := both_range (cmpD_range _ _) (both_range (cmpP_range _ _ _) (cmpP_range _ _ _))
end Go.Proofs.Ytjkmdghlhodhiaa.Vm
namespace Go.Proofs.Ytjkmdghlhodhiaa.Vm

theorem split_digs (l : List UInt8) : digs l ++ undigs l = l := List.takeWhile_append_dropWhile
theorem split_oths (l : List UInt8) : oths l ++ unoths l = l := List.takeWhile_append_dropWhile
theorem digs_all (l : List UInt8) : (digs l).all dig = true := by
  unfold digs
  induction l with
  | nil => rfl
  | cons c r ih => rw [List.takeWhile_cons]; cases h : dig c <;> simp [h]
theorem oths_all (l : List UInt8) : (oths l).all (fun c => !dig c) = true := by
  unfold oths
  induction l with
  | nil => rfl
  | cons c r ih => rw [List.takeWhile_cons]; cases h : dig c <;> simp [h]
/-- It ends here, or begins with a byte that is (not) a digit. -/
def HdN (l : List UInt8) : Prop := ∀ c, l.head? = some c → dig c = false
def HdY (l : List UInt8) : Prop := ∀ c, l.head? = some c → dig c = true
theorem hdN_undigs (l : List UInt8) : HdN (undigs l) := by
  unfold undigs
  induction l with
  | nil => intro c h; cases h
  | cons a r ih =>
    rw [List.dropWhile_cons]
    cases h : dig a
    · intro c hc
      simp at hc; subst hc; exact h
    · exact ih
theorem hdY_unoths (l : List UInt8) : HdY (unoths l) := by
  unfold unoths
  induction l with
  | nil => intro c h; cases h
  | cons a r ih =>
    rw [List.dropWhile_cons]
    cases h : dig a
    · exact ih
    · intro c hc
      simp at hc; subst hc; exact h
theorem digs_app {a b : List UInt8} (ha : a.all dig = true) (hb : HdN b) : digs (a ++ b) = a ∧ undigs (a ++ b) = b := by
  unfold digs undigs
  induction a with
  | nil =>
    cases b with
    | nil => exact ⟨rfl, rfl⟩
    | cons c r => have := hb c rfl; simp [this]
  | cons c r ih =>
    simp only [List.all_cons, Bool.and_eq_true] at ha
    obtain ⟨h1, h2⟩ := ih ha.2
    simp [ha.1, h1, h2]
theorem oths_app {a b : List UInt8} (ha : a.all (fun c => !dig c) = true) (hb : HdY b) : oths (a ++ b) = a ∧ unoths (a ++ b) = b := by
  unfold oths unoths
  induction a with
  | nil =>
    cases b with
    | nil => exact ⟨rfl, rfl⟩
    | cons c r => have := hb c rfl; simp [this]
  | cons c r ih =>
    simp only [List.all_cons, Bool.and_eq_true] at ha
    obtain ⟨h1, h2⟩ := ih ha.2
    simp [ha.1, h1, h2]
theorem bare_all {l : List UInt8} (h : l.all dig = true) : (bare l).all dig = true := by
  unfold bare
  split
  · decide
  · rw [List.all_eq_true] at *
    exact fun x hx => h x ((List.dropWhile_sublist _).subset hx)
theorem bare_ne (l : List UInt8) : bare l ≠ [] := by
  unfold bare
  split
  · simp
  · rename_i h; simpa using h
theorem bare_len {l : List UInt8} (h : l ≠ []) : (bare l).length ≤ l.length := by
  unfold bare
  split
  · have := List.length_pos_iff.2 h; simp; omega
  · exact (List.dropWhile_sublist _).length_le
theorem bare_bare (l : List UInt8) : bare (bare l) = bare l := by
  have key : ∀ m : List UInt8, (m.dropWhile (· == 48)).dropWhile (· == 48) = m.dropWhile (· == 48) := by
    intro m
    induction m with
    | nil => rfl
    | cons c r ih => rw [List.dropWhile_cons]; split <;> rename_i h <;> simp [h, ih]
  unfold bare
  cases h : (l.dropWhile (· == 48)).isEmpty
  · simp only [Bool.false_eq_true, if_false]
    rw [key, h]; rfl
  · rfl
theorem bare_ok {l : List UInt8} (h : l.all ok1 = true) : (bare l).all ok1 = true := by
  unfold bare
  split
  · decide
  · rw [List.all_eq_true] at *
    exact fun x hx => h x ((List.dropWhile_sublist _).subset hx)

/-- What is left of a part: nothing, or digits at both ends. -/
def GP (l : List UInt8) : Prop := HdY l ∧ ∀ c, l.getLast? = some c → dig c = true
theorem last_app {a b : List UInt8} (h : b ≠ []) : (a ++ b).getLast? = b.getLast? := by
  rw [List.getLast?_append]
  cases hb : b.getLast? with
  | none => exact absurd (List.getLast?_eq_none_iff.1 hb) h
  | some c => rfl
theorem gp_parts {l : List UInt8} (h : GP l) : GP (tail2 l) ∧ (tail2 l = [] → undigs l = []) := by
  have e1 := split_digs l
  have e2 := split_oths (undigs l)
  refine ⟨⟨hdY_unoths _, ?_⟩, ?_⟩
  · intro c hc
    have hne : tail2 l ≠ [] := by intro h0; rw [h0] at hc; cases hc
    have : l.getLast? = (tail2 l).getLast? := by
      conv => lhs; rw [← e1, ← e2, ← List.append_assoc]
      exact last_app hne
    exact h.2 c (this.trans hc)
  · intro h0
    by_cases hu : undigs l = []
    · exact hu
    · exfalso
      have h1 : unoths (undigs l) = [] := h0
      rw [h1, List.append_nil] at e2
      have hl : l.getLast? = (undigs l).getLast? := by
        conv => lhs; rw [← e1]
        exact last_app hu
      cases hx : (undigs l).getLast? with
      | none => exact hu (List.getLast?_eq_none_iff.1 hx)
      | some c =>
        have hd := h.2 c (hl.trans hx)
        have ho := oths_all (undigs l)
        rw [e2, List.all_eq_true] at ho
        have := ho c (List.mem_of_getLast? hx)
        rw [hd] at this; cases this
theorem digs_ne {l : List UInt8} (h : HdY l) (h0 : l ≠ []) : digs l ≠ [] := by
  cases l with
  | nil => exact absurd rfl h0
  | cons c r => have := h c rfl; simp [digs, this]
theorem tail2_len {l : List UInt8} (h : HdY l) (h0 : l ≠ []) : (tail2 l).length < l.length := by
  have h1 := List.length_pos_iff.2 (digs_ne h h0)
  have e1 := congrArg List.length (split_digs l)
  have e2 := congrArg List.length (split_oths (undigs l))
  rw [List.length_append] at e1 e2
  unfold tail2; omega
theorem canonP_nil (n : Nat) : canonP n [] = [] := by cases n <;> rfl
theorem canonP_cons (n : Nat) {l : List UInt8} (h : l ≠ []) : canonP (n + 1) l = bare (digs l) ++ (oths (undigs l) ++ canonP n (tail2 l)) := by
  rw [canonP, if_neg (by simpa using h), List.append_assoc]
theorem canonP_ne0 (n : Nat) {l : List UInt8} (h : l ≠ []) (hl : l.length ≤ n) : canonP n l ≠ [] := by
  cases n with
  | zero => exact absurd (List.eq_nil_of_length_eq_zero (by omega)) h
  | succ n => rw [canonP_cons n h]; have := bare_ne (digs l); simp [this]
theorem canonP_hdY (n : Nat) (l : List UInt8) : HdY (canonP n l) := by
  cases n with
  | zero => intro c h; cases h
  | succ n =>
    by_cases h : l = []
    · subst h; intro c h; cases h
    · rw [canonP_cons n h]
      have h1 := bare_ne (digs l)
      have h2 := bare_all (digs_all l)
      intro c hc
      cases hb : bare (digs l) with
      | nil => exact absurd hb h1
      | cons a r =>
        rw [hb] at hc h2
        simp at hc; subst hc
        simp only [List.all_cons, Bool.and_eq_true] at h2; exact h2.1
/-- The runs of a canonical form. -/
theorem canonP_runs (n : Nat) {l : List UInt8} (h0 : l ≠ []) : digs (canonP (n + 1) l) = bare (digs l) ∧ undigs (canonP (n + 1) l) = oths (undigs l) ++ canonP n (tail2 l) ∧
    oths (undigs (canonP (n + 1) l)) = oths (undigs l) ∧ tail2 (canonP (n + 1) l) = canonP n (tail2 l) := by
  have hN : HdN (oths (undigs l) ++ canonP n (tail2 l)) := by
    by_cases hu : undigs l = []
    · have ht : tail2 l = [] := by unfold tail2; rw [hu]; rfl
      rw [hu, ht, canonP_nil]; intro c hc; cases hc
    · have hd := hdN_undigs l
      have e2 := split_oths (undigs l)
      cases hx : undigs l with
      | nil => exact absurd hx hu
      | cons a r =>
        have ha := hd a (by rw [hx]; rfl)
        have : oths (a :: r) = a :: oths r := by simp [oths, ha]
        rw [this]; intro c hc; simp at hc; subst hc; exact ha
  rw [canonP_cons n h0]
  obtain ⟨g1, g2⟩ := digs_app (bare_all (digs_all l)) hN
  obtain ⟨g3, g4⟩ := oths_app (oths_all (undigs l)) (canonP_hdY n (tail2 l))
  refine ⟨g1, g2, by rw [g2, g3], ?_⟩
  unfold tail2 at *
  rw [g2, g4]
theorem canonP_idem : ∀ (n : Nat) (l : List UInt8), GP l → l.length ≤ n → canonP n (canonP n l) = canonP n l
  | 0, _, _, _ => rfl
  | n + 1, l, h, hl => by
    by_cases h0 : l = []
    · subst h0; rfl
    · obtain ⟨r1, _, r3, r4⟩ := canonP_runs n h0
      have ih := canonP_idem n (tail2 l) (gp_parts h).1 (by have := tail2_len h.1 h0; omega)
      rw [canonP_cons n (canonP_ne0 (n + 1) h0 hl), r1, r3, r4, ih, bare_bare, ← canonP_cons n h0]
theorem canonP_len : ∀ (n : Nat) (l : List UInt8), HdY l → (canonP n l).length ≤ l.length
  | 0, _, _ => by simp [canonP]
  | n + 1, l, h => by
    by_cases h0 : l = []
    · subst h0; simp [canonP]
    · have ih := canonP_len n (tail2 l) (hdY_unoths _)
      have h1 := bare_len (digs_ne h h0)
      have e1 := congrArg List.length (split_digs l)
      have e2 := congrArg List.length (split_oths (undigs l))
      rw [List.length_append] at e1 e2
      rw [canonP_cons n h0, List.length_append, List.length_append]
      unfold tail2 at *
      omega
theorem canonP_last : ∀ (n : Nat) (l : List UInt8), GP l → l.length ≤ n → ∀ c, (canonP n l).getLast? = some c → dig c = true
  | 0, _, _, _, c, hc => by cases hc
  | n + 1, l, h, hl, c, hc => by
    by_cases h0 : l = []
    · subst h0; cases hc
    · have ht := tail2_len h.1 h0
      rw [canonP_cons n h0] at hc
      by_cases h1 : tail2 l = []
      · have hu := (gp_parts h).2 h1
        rw [hu, h1, canonP_nil] at hc
        have hb := bare_all (digs_all l)
        rw [List.all_eq_true] at hb
        apply hb
        have : oths ([] : List UInt8) ++ [] = [] := rfl
        rw [this, List.append_nil] at hc
        exact List.mem_of_getLast? hc
      · have hne := canonP_ne0 n h1 (by omega)
        rw [last_app (by simp [hne]), last_app hne] at hc
        exact canonP_last n (tail2 l) (gp_parts h).1 (by omega) c hc
theorem canonP_ok : ∀ (n : Nat) (l : List UInt8), l.all ok1 = true → (canonP n l).all ok1 = true
  | 0, _, _ => rfl
  | n + 1, l, h => by
    by_cases h0 : l = []
    · subst h0; rfl
    · have sub : ∀ m : List UInt8, m.Sublist l → m.all ok1 = true := fun m hm => by
        rw [List.all_eq_true] at *; exact fun x hx => h x (hm.subset hx)
      have s1 : (digs l).Sublist l := List.takeWhile_sublist _
      have s2 : (undigs l).Sublist l := List.dropWhile_sublist _
      have s3 : (oths (undigs l)).Sublist l := (List.takeWhile_sublist _).trans s2
      have s4 : (tail2 l).Sublist l := (List.dropWhile_sublist _).trans s2
      rw [canonP_cons n h0, List.all_append, List.all_append, bare_ok (sub _ s1), sub _ s3, canonP_ok n _ (sub _ s4)]; rfl
/-- Two parts are as great just where their canonical forms are the same. -/
theorem cmpP_canon : ∀ (n : Nat) (a b : List UInt8), GP a → GP b → a ≠ [] → b ≠ [] → a.length ≤ n → b.length ≤ n → (cmpP n a b = 0 ↔ canonP n a = canonP n b)
  | 0, a, _, _, _, ha, _, hl, _ => absurd (List.eq_nil_of_length_eq_zero (by omega)) ha
  | n + 1, a, b, ga, gb, ha, hb, la, lb => by
    obtain ⟨r1, _, r3, r4⟩ := canonP_runs n ha
    obtain ⟨s1, _, s3, s4⟩ := canonP_runs n hb
    obtain ⟨ga1, ga2⟩ := gp_parts ga
    obtain ⟨gb1, gb2⟩ := gp_parts gb
    have lta := tail2_len ga.1 ha
    have ltb := tail2_len gb.1 hb
    have hund : ∀ l : List UInt8, oths (undigs l) = [] → undigs l = [] := fun l h => by
      cases hx : undigs l with
      | nil => rfl
      | cons c r =>
        have hc := hdN_undigs l c (by rw [hx]; rfl)
        rw [hx] at h; simp [oths, hc] at h
    have htl : ∀ l : List UInt8, undigs l = [] → tail2 l = [] := fun l h => by unfold tail2; rw [h]; rfl
    have hou : ∀ l : List UInt8, undigs l = [] → oths (undigs l) = [] := fun l h => by rw [h]; rfl
    rw [cmpP_eq, both_eq, both_eq, cmpD_eq, cmpO_eq]
    constructor
    · rintro ⟨h1, h2, h3⟩
      rw [canonP_cons n ha, canonP_cons n hb, h1, h2]
      by_cases ta : tail2 a = []
      · have tb : tail2 b = [] := htl b (hund b (by rw [← h2]; exact hou a (ga2 ta)))
        rw [ta, tb]
      · by_cases tb : tail2 b = []
        · exact absurd (htl a (hund a (by rw [h2]; exact hou b (gb2 tb)))) ta
        · rw [(cmpP_canon n (tail2 a) (tail2 b) ga1 gb1 ta tb (by omega) (by omega)).1 h3]
    · intro h
      rw [h] at r1 r3 r4
      refine ⟨r1.symm.trans s1, r3.symm.trans s3, ?_⟩
      have ht : canonP n (tail2 a) = canonP n (tail2 b) := r4.symm.trans s4
      by_cases ta : tail2 a = []
      · by_cases tb : tail2 b = []
        · rw [ta, tb]; have := (cmpP_cmp n).1 [] []; omega
        · rw [ta, canonP_nil] at ht; exact absurd ht.symm (canonP_ne0 n tb (by omega))
      · by_cases tb : tail2 b = []
        · rw [tb, canonP_nil] at ht; exact absurd ht (canonP_ne0 n ta (by omega))
        · exact (cmpP_canon n (tail2 a) (tail2 b) ga1 gb1 ta tb (by omega) (by omega)).2 ht
end Go.Proofs.Ytjkmdghlhodhiaa.Vm
namespace Go.Proofs.Ytjkmdghlhodhiaa.Vm

theorem ver_of {l : List UInt8} (h : check l = 0) : l.length ≤ 40 ∧ epOk (ep l) = true ∧ partOk (pt l) = true ∧ partOk (rv l) = true := by
  unfold check at h
  split at h
  · cases h
  · split at h
    · rename_i h1 h2
      unfold verOk at h2
      simp only [Bool.and_eq_true] at h2
      exact ⟨by omega, h2.1, h2.2.1, h2.2.2⟩
    · cases h
theorem of_ver {l : List UInt8} (h : l.length ≤ 40) (h1 : epOk (ep l) = true) (h2 : partOk (pt l) = true) (h3 : partOk (rv l) = true) : check l = 0 := by
  unfold check verOk
  rw [if_neg (by omega), h1, h2, h3]; rfl
theorem partOk_iff (l : List UInt8) : partOk l = true ↔ l ≠ [] ∧ GP l ∧ l.all ok1 = true := by
  cases l with
  | nil => simp [partOk]
  | cons c r =>
    have hl : (c :: r).getLast? = some ((c :: r).getD ((c :: r).length - 1) 0) := by
      rw [List.getLast?_eq_getElem?]; simp
    unfold partOk GP HdY
    rw [hl]
    simp only [List.isEmpty_cons, Bool.not_false, Bool.true_and, Bool.and_eq_true, List.head?_cons, Option.some.injEq, forall_eq', ne_eq, reduceCtorEq, not_false_eq_true, true_and, and_assoc]
    rfl
theorem epOk_iff (l : List UInt8) : epOk l = true ↔ l ≠ [] ∧ l.length ≤ 6 ∧ l.all dig = true := by
  cases l <;> simp [epOk]
theorem no58 {l : List UInt8} (h : l.all ok1 = true) : ∀ c ∈ l, c ≠ 58 ∧ c ≠ 45 := by
  intro c hc
  rw [List.all_eq_true] at h
  have := h c hc
  constructor <;> (rintro rfl; exact absurd this (by decide))
theorem dig_ok {l : List UInt8} (h : l.all dig = true) : l.all ok1 = true := by
  rw [List.all_eq_true] at *
  intro c hc
  rw [ok1, h c hc]; rfl
theorem fst_app (c : UInt8) {a : List UInt8} (b : List UInt8) (h : ∀ x ∈ a, x ≠ c) : fst c (a ++ c :: b) = a ∧ snd c (a ++ c :: b) = b ∧ has c (a ++ c :: b) = true := by
  unfold fst snd has
  induction a with
  | nil => simp
  | cons x r ih =>
    have hx : (x != c) = true := by simpa using h x (by simp)
    obtain ⟨h1, h2, h3⟩ := ih (fun y hy => h y (by simp [hy]))
    refine ⟨by simp [hx, h1], by simpa [hx] using h2, by simp⟩
theorem has_no (c : UInt8) {a : List UInt8} (h : ∀ x ∈ a, x ≠ c) : has c a = false ∧ fst c a = a := by
  unfold fst has
  induction a with
  | nil => simp
  | cons x r ih =>
    have hx : x ≠ c := h x (by simp)
    obtain ⟨h1, h2⟩ := ih (fun y hy => h y (by simp [hy]))
    refine ⟨?_, by simp [hx, h2]⟩
    have : (c == x) = false := by simpa using fun e => hx e.symm
    rw [List.contains_cons, this, Bool.false_or]; exact h1

/-- A text of three pieces: an epoch of digits or none, a part, a revision or none. -/
def glue (e p r : List UInt8) : List UInt8 := (if e.isEmpty then [] else e ++ [58]) ++ p ++ (if r.isEmpty then [] else 45 :: r)
theorem glue_pieces (e p r : List UInt8) (he : e.all dig = true) (hp : p.all ok1 = true) (hr : r.all ok1 = true) :
    ep (glue e p r) = (if e.isEmpty then [48] else e) ∧ pt (glue e p r) = p ∧ rv (glue e p r) = (if r.isEmpty then [48] else r) := by
  have hn1 : ∀ x ∈ p ++ (if r.isEmpty then [] else 45 :: r), x ≠ 58 := by
    intro x hx
    rcases List.mem_append.1 hx with hx | hx
    · exact (no58 hp x hx).1
    · split at hx
      · cases hx
      · rcases List.mem_cons.1 hx with rfl | hx
        · decide
        · exact (no58 hr x hx).1
  have hrest : rest (glue e p r) = p ++ (if r.isEmpty then [] else 45 :: r) ∧ ep (glue e p r) = (if e.isEmpty then [48] else e) := by
    unfold rest ep glue
    cases hE : e.isEmpty
    · have h3 : (if false = true then [] else e ++ [58]) ++ p ++ (if r.isEmpty then [] else 45 :: r) = e ++ 58 :: (p ++ (if r.isEmpty then [] else 45 :: r)) := by simp
      rw [h3]
      obtain ⟨g1, g2, g3⟩ := fst_app 58 (p ++ (if r.isEmpty then [] else 45 :: r)) (fun x hx => (no58 (dig_ok he) x hx).1)
      rw [g1, g2, g3]; exact ⟨rfl, rfl⟩
    · have h3 : (if true = true then [] else e ++ [58]) ++ p ++ (if r.isEmpty then [] else 45 :: r) = p ++ (if r.isEmpty then [] else 45 :: r) := by simp
      rw [h3, (has_no 58 hn1).1]; exact ⟨rfl, rfl⟩
  refine ⟨hrest.2, ?_, ?_⟩
  · unfold pt
    rw [hrest.1]
    cases hR : r.isEmpty
    · exact (fst_app 45 r (fun x hx => (no58 hp x hx).2)).1
    · simp only [if_true, List.append_nil]
      exact (has_no 45 (fun x hx => (no58 hp x hx).2)).2
  · unfold rv
    rw [hrest.1]
    cases hR : r.isEmpty
    · have g := fst_app 45 r (fun x hx => (no58 hp x hx).2)
      simp only [Bool.false_eq_true, if_false]
      rw [g.2.2, g.2.1]; rfl
    · simp only [if_true, List.append_nil]
      rw [(has_no 45 (fun x hx => (no58 hp x hx).2)).1]; rfl
theorem recon (c : UInt8) (l : List UInt8) (h : has c l = true) : l = fst c l ++ c :: snd c l := by
  unfold has fst snd at *
  induction l with
  | nil => cases h
  | cons x r ih =>
    by_cases hx : x = c
    · subst hx; simp
    · have h1 : (x != c) = true := by simpa using hx
      have h2 : (c == x) = false := by simpa using fun e => hx e.symm
      rw [List.contains_cons, h2, Bool.false_or] at h
      rw [List.takeWhile_cons, List.dropWhile_cons, h1]
      simp only [if_true, List.cons_append]
      rw [← ih h]
theorem lengths (l : List UInt8) : (if has 58 l then (ep l).length + 1 else 0) + (pt l).length + (if has 45 (rest l) then (rv l).length + 1 else 0) = l.length := by
  have h2 : (pt l).length + (if has 45 (rest l) then (rv l).length + 1 else 0) = (rest l).length := by
    unfold pt rv
    cases h : has 45 (rest l)
    · have : fst 45 (rest l) = rest l := by
        refine (has_no 45 (fun x hx e => ?_)).2
        subst e
        unfold has at h
        rw [List.contains_iff_mem.2 hx] at h; cases h
      rw [this]; simp
    · have e := congrArg List.length (recon 45 (rest l) h)
      rw [List.length_append, List.length_cons] at e
      simp only [if_true]; omega
  have h1 : (if has 58 l then (ep l).length + 1 else 0) + (rest l).length = l.length := by
    unfold ep rest
    cases h : has 58 l
    · simp
    · have e := congrArg List.length (recon 58 l h)
      rw [List.length_append, List.length_cons] at e
      simp only [if_true]; omega
  omega
theorem gp_of {l : List UInt8} (h : partOk l = true) : l ≠ [] ∧ GP l ∧ l.all ok1 = true := (partOk_iff l).1 h
theorem rv_len {l : List UInt8} (h : check l = 0) : (rv l).length ≤ 41 ∧ (pt l).length ≤ 41 := by
  have h1 := lengths l
  have h2 := (ver_of h).1
  refine ⟨?_, by omega⟩
  cases h3 : has 45 (rest l)
  · unfold rv; rw [h3]; simp
  · rw [h3] at h1; simp only [if_true] at h1; omega
theorem canon_glue {l : List UInt8} (hv : check l = 0) : canon l = glue (if bare (ep l) == [48] then [] else bare (ep l)) (canonP 41 (pt l)) (if canonP 41 (rv l) == [48] then [] else canonP 41 (rv l)) := by
  unfold canon canonE canonR glue
  have h1 := bare_ne (ep l)
  have h2 := canonP_ne0 41 (gp_of (ver_of hv).2.2.2).1 (rv_len hv).1
  congr 1
  · congr 1
    cases h : bare (ep l) == [48]
    · have : (bare (ep l)).isEmpty = false := by simpa using h1
      simp [this]
    · simp
  · cases h : canonP 41 (rv l) == [48]
    · have : (canonP 41 (rv l)).isEmpty = false := by simpa using h2
      simp [this]
    · simp
/-- The pieces of a canonical form. -/
theorem canon_pieces {l : List UInt8} (hv : check l = 0) : ep (canon l) = bare (ep l) ∧ pt (canon l) = canonP 41 (pt l) ∧ rv (canon l) = canonP 41 (rv l) := by
  obtain ⟨_, v1, v2, v3⟩ := ver_of hv
  obtain ⟨p1, p2, p3⟩ := gp_of v2
  obtain ⟨r1, r2, r3⟩ := gp_of v3
  have e3 := ((epOk_iff _).1 v1).2.2
  rw [canon_glue hv]
  have g := glue_pieces (if bare (ep l) == [48] then [] else bare (ep l)) (canonP 41 (pt l)) (if canonP 41 (rv l) == [48] then [] else canonP 41 (rv l))
    (by split
        · rfl
        · exact bare_all e3) (canonP_ok 41 _ p3)
    (by split
        · rfl
        · exact canonP_ok 41 _ r3)
  refine ⟨g.1.trans ?_, g.2.1, g.2.2.trans ?_⟩
  · have h1 := bare_ne (ep l)
    cases h : bare (ep l) == [48]
    · have : (bare (ep l)).isEmpty = false := by simpa using h1
      simp [this]
    · simp; exact (by simpa using h : bare (ep l) = [48]).symm
  · have h2 := canonP_ne0 41 r1 (rv_len hv).1
    cases h : canonP 41 (rv l) == [48]
    · have : (canonP 41 (rv l)).isEmpty = false := by simpa using h2
      simp [this]
    · simp; exact (by simpa using h : canonP 41 (rv l) = [48]).symm
theorem part_canon {p : List UInt8} (h : partOk p = true) (hl : p.length ≤ 41) : partOk (canonP 41 p) = true := by
  obtain ⟨p1, p2, p3⟩ := gp_of h
  exact (partOk_iff _).2 ⟨canonP_ne0 41 p1 hl, ⟨canonP_hdY 41 p, canonP_last 41 p p2 hl⟩, canonP_ok 41 p p3⟩
theorem canon_check {l : List UInt8} (hv : check l = 0) : check (canon l) = 0 := by
  obtain ⟨hl, v1, v2, v3⟩ := ver_of hv
  obtain ⟨c1, c2, c3⟩ := canon_pieces hv
  obtain ⟨e1, e2, e3⟩ := (epOk_iff _).1 v1
  have lv := rv_len hv
  have hlen : (canon l).length ≤ l.length := by
    have h := lengths l
    have le := bare_len e1
    have lp := canonP_len 41 (pt l) (gp_of v2).2.1.1
    have lr := canonP_len 41 (rv l) (gp_of v3).2.1.1
    have hE : (canonE l).length ≤ (if has 58 l then (ep l).length + 1 else 0) := by
      unfold canonE
      cases h1 : has 58 l
      · have : ep l = [48] := by unfold ep; rw [h1]; rfl
        rw [this]; decide
      · split
        · simp
        · simp; omega
    have hR : (canonR l).length ≤ (if has 45 (rest l) then (rv l).length + 1 else 0) := by
      unfold canonR
      cases h1 : has 45 (rest l)
      · have : rv l = [48] := by unfold rv; rw [h1]; rfl
        rw [this]; decide
      · split
        · simp
        · simp; omega
    unfold canon
    rw [List.length_append, List.length_append]
    omega
  refine of_ver (by omega) ?_ ?_ ?_
  · rw [c1]; exact (epOk_iff _).2 ⟨bare_ne _, by have := bare_len e1; omega, bare_all e3⟩
  · rw [c2]; exact part_canon v2 lv.2
  · rw [c3]; exact part_canon v3 lv.1
theorem canon_canon {l : List UInt8} (hv : check l = 0) : canon (canon l) = canon l := by
  obtain ⟨_, v1, v2, v3⟩ := ver_of hv
  obtain ⟨c1, c2, c3⟩ := canon_pieces hv
  have lv := rv_len hv
  have i2 := canonP_idem 41 (pt l) (gp_of v2).2.1 lv.2
  have i3 := canonP_idem 41 (rv l) (gp_of v3).2.1 lv.1
  show canonE (canon l) ++ canonP 41 (pt (canon l)) ++ canonR (canon l) = canonE l ++ canonP 41 (pt l) ++ canonR l
  unfold canonE canonR
  rw [c1, c2, c3, bare_bare, i2, i3]
/-- As great just where the canonical forms are the same. -/
theorem cmpV_canon {l m : List UInt8} (hl : check l = 0) (hm : check m = 0) : cmpV l m = 0 ↔ canon l = canon m := by
  obtain ⟨_, _, v2, v3⟩ := ver_of hl
  obtain ⟨_, _, u2, u3⟩ := ver_of hm
  have lv := rv_len hl
  have lu := rv_len hm
  obtain ⟨p1, p2, _⟩ := gp_of v2
  obtain ⟨r1, r2, _⟩ := gp_of v3
  obtain ⟨q1, q2, _⟩ := gp_of u2
  obtain ⟨s1, s2, _⟩ := gp_of u3
  unfold cmpV
  rw [both_eq, both_eq, cmpD_eq, cmpP_canon 41 _ _ p2 q2 p1 q1 lv.2 lu.2, cmpP_canon 41 _ _ r2 s2 r1 s1 lv.1 lu.1]
  constructor
  · rintro ⟨h1, h2, h3⟩
    unfold canon canonE canonR
    rw [h1, h2, h3]
  · intro h
    obtain ⟨c1, c2, c3⟩ := canon_pieces hl
    obtain ⟨d1, d2, d3⟩ := canon_pieces hm
    rw [h] at c1 c2 c3
    exact ⟨c1.symm.trans d1, c2.symm.trans d2, c3.symm.trans d3⟩
theorem cmpV_own {l : List UInt8} (hl : check l = 0) : cmpV l (canon l) = 0 := (cmpV_canon hl (canon_check hl)).2 (canon_canon hl).symm

/-! Digits, as numbers. -/
theorem num_from (l : List UInt8) : ∀ a, l.foldl (fun n c => 10 * n + (c.toNat - 48)) a = a * 10 ^ l.length + num l := by
  induction l with
  | nil => intro a; simp [num]
  | cons c r ih =>
    intro a
    unfold num at *
    simp only [List.foldl_cons, List.length_cons]
    rw [ih, ih (10 * 0 + (c.toNat - 48)), Nat.pow_succ]
    simp only [Nat.add_mul, Nat.mul_zero, Nat.zero_add]
    have : a * (10 ^ r.length * 10) = 10 * a * 10 ^ r.length := by rw [Nat.mul_comm (10 ^ r.length) 10, ← Nat.mul_assoc, Nat.mul_comm a 10]
    omega
theorem num_cons (c : UInt8) (r : List UInt8) : num (c :: r) = (c.toNat - 48) * 10 ^ r.length + num r := by
  have := num_from r (c.toNat - 48)
  unfold num at *
  simpa using this
theorem num_lt (l : List UInt8) (h : l.all dig = true) : num l < 10 ^ l.length := by
  induction l with
  | nil => simp [num]
  | cons c r ih =>
    simp only [List.all_cons, Bool.and_eq_true] at h
    have h1 := ih h.2
    have h2 : c.toNat - 48 ≤ 9 := by have := h.1; unfold dig at this; simp at this; omega
    rw [num_cons, List.length_cons, Nat.pow_succ]
    have : (c.toNat - 48) * 10 ^ r.length ≤ 9 * 10 ^ r.length := Nat.mul_le_mul_right _ h2
    omega
theorem num_bare (l : List UInt8) : num (bare l) = num l := by
  have key : ∀ l : List UInt8, num (l.dropWhile (· == 48)) = num l := by
    intro l
    induction l with
    | nil => rfl
    | cons c r ih =>
      rw [List.dropWhile_cons]
      split
      · rename_i h
        rw [ih, num_cons, show c = 48 from by simpa using h]; simp
      · rfl
  unfold bare
  split
  · rename_i h
    have := key l
    rw [show l.dropWhile (· == 48) = [] from by simpa using h] at this
    rw [← this]; rfl
  · exact key l
theorem sgn_lt {a b : Int} (h : a < b) : sgn a b = -1 := by unfold sgn; rw [if_pos h]
theorem sgn_gt {a b : Int} (h : b < a) : sgn a b = 1 := by unfold sgn; rw [if_neg (by omega), if_pos h]
theorem sgn_add (q a b : Int) : sgn (q + a) (q + b) = sgn a b := by
  by_cases h1 : a < b
  · rw [sgn_lt h1, sgn_lt (by omega)]
  · by_cases h2 : b < a
    · rw [sgn_gt h2, sgn_gt (by omega)]
    · rw [(sgn_eq a b).2 (by omega), (sgn_eq _ _).2 (by omega)]
theorem cb_num : ∀ a b : List UInt8, a.length = b.length → a.all dig = true → b.all dig = true → Lib.compareBytes a b = sgn (num a) (num b)
  | [], [], _, _, _ => rfl
  | [], _ :: _, h, _, _ => by cases h
  | _ :: _, [], h, _, _ => by cases h
  | a :: r, b :: s, h, ha, hb => by
    simp only [List.all_cons, Bool.and_eq_true] at ha hb
    have hl : r.length = s.length := by simpa using h
    have ih := cb_num r s hl ha.2 hb.2
    have h1 := num_lt r ha.2
    have h2 := num_lt s hb.2
    have da : 48 ≤ a.toNat ∧ a.toNat ≤ 57 := by have := ha.1; unfold dig at this; simpa using this
    have db : 48 ≤ b.toNat ∧ b.toNat ≤ 57 := by have := hb.1; unfold dig at this; simpa using this
    rw [cb_cons, num_cons, num_cons, ih, hl]
    rw [hl] at h1
    generalize 10 ^ s.length = P at *
    rcases Nat.lt_trichotomy a.toNat b.toNat with hlt | heq | hgt
    · have : (a.toNat - 48) * P + P ≤ (b.toNat - 48) * P := by
        rw [← Nat.succ_mul]; exact Nat.mul_le_mul_right _ (by omega)
      rw [sgn_lt (show (a.toNat : Int) < b.toNat by omega), sgn_lt (show (((a.toNat - 48) * P + num r : Nat) : Int) < ((b.toNat - 48) * P + num s : Nat) by omega)]; rfl
    · rw [(sgn_eq (a.toNat : Int) b.toNat).2 (by omega), heq]
      generalize (b.toNat - 48) * P = Q
      rw [show ((Q + num r : Nat) : Int) = (Q : Int) + (num r : Int) from by omega, show ((Q + num s : Nat) : Int) = (Q : Int) + (num s : Int) from by omega, sgn_add]; rfl
    · have : (b.toNat - 48) * P + P ≤ (a.toNat - 48) * P := by
        rw [← Nat.succ_mul]; exact Nat.mul_le_mul_right _ (by omega)
      rw [sgn_gt (show (b.toNat : Int) < a.toNat by omega), sgn_gt (show (((b.toNat - 48) * P + num s : Nat) : Int) < ((a.toNat - 48) * P + num r : Nat) by omega)]; rfl
theorem bare_first {l : List UInt8} (h : l.all dig = true) : bare l = [48] ∨ ∃ c r, bare l = c :: r ∧ 49 ≤ c.toNat := by
  unfold bare
  cases hd : l.dropWhile (· == 48) with
  | nil => left; rfl
  | cons c r =>
    right
    refine ⟨c, r, rfl, ?_⟩
    have hne : (c == 48) = false := by
      have := List.head?_dropWhile_not (· == 48) l
      rw [hd] at this
      simpa using this
    have hc : dig c = true := by
      rw [List.all_eq_true] at h
      exact h c ((List.dropWhile_sublist _).subset (by rw [hd]; simp))
    unfold dig at hc
    simp at hc
    have : c.toNat ≠ 48 := fun e => by
      have : c = 48 := UInt8.toNat.inj e
      subst this; cases hne
    omega
/-- Of runs of digits the greater number is ahead. -/
theorem cmpD_num (a b : List UInt8) (ha : a.all dig = true) (hb : b.all dig = true) : cmpD a b = sgn (num a) (num b) := by
  have ea := num_bare a
  have eb := num_bare b
  have aa := bare_all ha
  have ab := bare_all hb
  have low : ∀ x y : List UInt8, (x = [48] ∨ ∃ c r, x = c :: r ∧ 49 ≤ c.toNat) → (y = [48] ∨ ∃ c r, y = c :: r ∧ 49 ≤ c.toNat) → x.all dig = true → x.length < y.length → num x < num y := by
    intro x y hx hy ax hlt
    have h1 := num_lt x ax
    rcases hy with rfl | ⟨c, r, rfl, hc⟩
    · have : x = [] := List.eq_nil_of_length_eq_zero (by have : x.length < 1 := hlt; omega)
      subst this
      rcases hx with h | ⟨_, _, h, _⟩ <;> cases h
    · rw [num_cons]
      have h2 : 10 ^ x.length ≤ 10 ^ r.length := Nat.pow_le_pow_right (by decide) (by simp at hlt; omega)
      have h3 : 1 * 10 ^ r.length ≤ (c.toNat - 48) * 10 ^ r.length := Nat.mul_le_mul_right _ (by omega)
      omega
  unfold cmpD
  rw [← ea, ← eb]
  rcases Nat.lt_trichotomy (bare a).length (bare b).length with hlt | heq | hgt
  · have := low _ _ (bare_first ha) (bare_first hb) aa hlt
    have e1 : sgn ((bare a).length : Int) (bare b).length = -1 := by unfold sgn; rw [if_pos (by omega)]
    rw [e1]
    unfold both sgn
    rw [if_pos (show ((num (bare a) : Nat) : Int) < num (bare b) by omega)]; rfl
  · rw [show sgn ((bare a).length : Int) (bare b).length = 0 from (sgn_eq _ _).2 (by omega)]
    rw [cb_num _ _ heq aa ab]; rfl
  · have := low _ _ (bare_first hb) (bare_first ha) ab hgt
    have e1 : sgn ((bare a).length : Int) (bare b).length = 1 := by unfold sgn; rw [if_neg (by omega), if_pos (by omega)]
    rw [e1]
    unfold both sgn
    rw [if_neg (show ¬ ((num (bare a) : Nat) : Int) < num (bare b) by omega), if_pos (show ((num (bare b) : Nat) : Int) < num (bare a) by omega)]; rfl
end Go.Proofs.Ytjkmdghlhodhiaa.Vm

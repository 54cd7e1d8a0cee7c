/- Clauses, plain: which may be, their norm, where they hold, which is the first that does not. No program is named here. -/
import Derived.Test.YtjkmdghlhodhiaaOb
namespace Go.Proofs.Ytjkmdghlhodhiaa.Cl
open Up
/-- No literal of 1 to n. -/
def litBad (n x : Int) : Bool := x == 0 || (decide (n < x) || decide (x < 0 - n))
def nBad (n : Int) : Bool := decide (n < 0) || decide (256 < n)
def checkC (n : Int) (c : List Int) : Int := if nBad n then 1 else if 256 < c.length then 4 else if c.any (litBad n) then 11 else 0
/-- The first place at which there is an error, from i on, and that. -/
def firstC (n : Int) : Nat → List (List Int) → Nat × Int
  | _, [] => (0, 0)
  | i, c :: l => if checkC n c = 0 then firstC n (i + 1) l else (i, checkC n c)
def checkAll (n : Int) (l : List (List Int)) : Nat × Int := if nBad n then (0, 1) else if 131072 < l.length then (0, 4) else firstC n 0 l
theorem firstC_ok (n : Int) : ∀ (l : List (List Int)) (i : Nat), (∀ c ∈ l, checkC n c = 0) → firstC n i l = (0, 0)
  | [], _, _ => rfl
  | c :: l, i, h => by rw [firstC, if_pos (h c (List.mem_cons_self ..))]; exact firstC_ok n l (i + 1) fun d hd => h d (List.mem_cons_of_mem _ hd)
theorem firstC_bad (n : Int) : ∀ (l : List (List Int)) (i k : Nat) (hk : k < l.length), (∀ c ∈ l.take k, checkC n c = 0) → checkC n l[k] ≠ 0 → firstC n i l = (i + k, checkC n l[k])
  | c :: l, i, 0, _, _, h => by rw [firstC, if_neg (show ¬ checkC n c = 0 from h)]; rfl
  | c :: l, i, k + 1, hk, h0, h => by
    rw [firstC, if_pos (h0 c (by simp)), firstC_bad n l (i + 1) k (by simpa using hk) (fun d hd => h0 d (by simp [hd])) h]
    refine Prod.ext (by show i + 1 + k = i + (k + 1); omega) rfl
theorem firstC_all (n : Int) : ∀ (l : List (List Int)) (i : Nat), (firstC n i l).2 = 0 → firstC n i l = (0, 0) ∧ ∀ c ∈ l, checkC n c = 0
  | [], _, _ => ⟨rfl, fun c h => absurd h (by simp)⟩
  | c :: l, i, h => by
    rw [firstC] at h ⊢
    by_cases e : checkC n c = 0
    · rw [if_pos e] at h ⊢
      obtain ⟨h1, h2⟩ := firstC_all n l (i + 1) h
      refine ⟨h1, fun d hd => ?_⟩
      rcases List.mem_cons.1 hd with rfl | hd
      · exact e
      · exact h2 d hd
    · rw [if_neg e] at h; exact absurd h e
theorem check_ok {n : Int} {c : List Int} (h : checkC n c = 0) : 0 ≤ n ∧ n ≤ 256 ∧ c.length ≤ 256 ∧ ∀ x ∈ c, LitOf n.toNat x := by
  unfold checkC at h
  split at h
  · exact absurd h (by decide)
  · rename_i h1
    split at h
    · exact absurd h (by decide)
    · rename_i h2
      split at h
      · exact absurd h (by decide)
      · rename_i h3
        have h1' : 0 ≤ n ∧ n ≤ 256 := by unfold nBad at h1; simp at h1; omega
        refine ⟨h1'.1, h1'.2, by omega, fun x hx => ?_⟩
        have : litBad n x = false := by
          cases hb : litBad n x with
          | false => rfl
          | true => exact absurd (List.any_eq_true.2 ⟨x, hx, hb⟩) h3
        unfold litBad at this
        simp at this
        exact ⟨this.1, by omega, by omega⟩
theorem check_of {n : Int} {c : List Int} (h0 : 0 ≤ n) (h1 : n ≤ 256) (h2 : c.length ≤ 256) (h3 : ∀ x ∈ c, LitOf n.toNat x) : checkC n c = 0 := by
  unfold checkC
  have a : nBad n = false := by unfold nBad; simp; omega
  have b : c.any (litBad n) = false := by
    rw [List.any_eq_false]
    intro x hx
    obtain ⟨p, q, r⟩ := h3 x hx
    unfold litBad
    simp
    exact ⟨p, by omega, by omega⟩
  rw [a, b, if_neg (by decide), if_neg (by omega), if_neg (by decide)]
theorem all_ok {n : Int} {l : List (List Int)} (h : (checkAll n l).2 = 0) : 0 ≤ n ∧ n ≤ 256 ∧ l.length ≤ 131072 ∧ checkAll n l = (0, 0) ∧ ∀ c ∈ l, checkC n c = 0 := by
  unfold checkAll at h ⊢
  split at h
  · exact absurd h (by decide)
  · rename_i h1
    split at h
    · exact absurd h (by decide)
    · rename_i h2
      have h1' : 0 ≤ n ∧ n ≤ 256 := by unfold nBad at h1; simp at h1; omega
      obtain ⟨e, hc⟩ := firstC_all n l 0 h
      rw [if_neg h1, if_neg h2]
      exact ⟨h1'.1, h1'.2, by omega, e, hc⟩
theorem all_lits {n : Int} {l : List (List Int)} (h : (checkAll n l).2 = 0) : ∀ c ∈ l, ∀ x ∈ c, LitOf n.toNat x := fun c hc => (check_ok ((all_ok h).2.2.2.2 c hc)).2.2.2
/-- What Norm answers, for literals that are not 0. -/
def IsNorm (c out : List Int) (ok : Bool) : Prop := (ok = false ∧ out = [] ∧ ∃ x ∈ c, -x ∈ c) ∨ (ok = true ∧ (∀ x ∈ c, -x ∉ c) ∧ Up out ∧ ∀ x, x ∈ out ↔ x ∈ c)
theorem norm_one {c d a b : List Int} {x y : Bool} (hcd : ∀ z, z ∈ c ↔ z ∈ d) (h1 : IsNorm c a x) (h2 : IsNorm d b y) : a = b ∧ x = y := by
  rcases h1 with ⟨e1, o1, z, c1, c1'⟩ | ⟨e1, c1, u1, m1⟩ <;> rcases h2 with ⟨e2, o2, w, c2, c2'⟩ | ⟨e2, c2, u2, m2⟩
  · exact ⟨o1.trans o2.symm, e1.trans e2.symm⟩
  · exact absurd ((hcd _).1 c1') (c2 z ((hcd z).1 c1))
  · exact absurd ((hcd _).2 c2') (c1 w ((hcd w).2 c2))
  · exact ⟨up_eq u1 u2 fun z => (m1 z).trans ((hcd z).trans (m2 z).symm), e1.trans e2.symm⟩
theorem norm_holds {c out : List Int} (h : IsNorm c out true) (m : List Bool) : holdsC m out = holdsC m c := by
  rcases h with ⟨e, _⟩ | ⟨_, _, _, hm⟩
  · exact absurd e (by decide)
  · unfold holdsC
    rw [Bool.eq_iff_iff, List.any_eq_true, List.any_eq_true]
    exact ⟨fun ⟨x, h1, h2⟩ => ⟨x, (hm x).1 h1, h2⟩, fun ⟨x, h1, h2⟩ => ⟨x, (hm x).2 h1, h2⟩⟩
/-- The order of Norm's insertion: by variable, the negated one ahead. -/
def Ahead (a b : Int) : Prop := a.natAbs < b.natAbs ∨ (a.natAbs = b.natAbs ∧ a < b)
instance (a b : Int) : Decidable (Ahead a b) := inferInstanceAs (Decidable (_ ∨ _))
theorem ahead_trans {a b c : Int} (h1 : Ahead a b) (h2 : Ahead b c) : Ahead a c := by unfold Ahead at *; omega
theorem ahead_or {a b : Int} (h : ¬ Ahead a b) (hne : a ≠ b) : Ahead b a := by unfold Ahead at *; omega
def Srt (a : List Int) : Prop := a.Pairwise Ahead
/-- One literal more: its place is k, where all ahead of k go ahead of it and the k-th, if there is one, does not. -/
theorem ins_new {l : List Int} {x : Int} {k : Nat} (hs : Srt l) (hk : k ≤ l.length) (h1 : ∀ y ∈ l.take k, Ahead y x) (h2 : ∀ h : k < l.length, ¬ Ahead l[k] x ∧ l[k] ≠ x) : Srt (l.take k ++ x :: l.drop k) := by
  have hd : Srt (l.take k ++ l.drop k) := by rw [List.take_append_drop]; exact hs
  obtain ⟨a1, a2, a3⟩ := List.pairwise_append.1 hd
  have hx : ∀ y ∈ l.drop k, Ahead x y := fun y hy => by
    by_cases hlt : k < l.length
    · have e : l.drop k = l[k] :: l.drop (k + 1) := List.drop_eq_getElem_cons hlt
      have b := ahead_or (h2 hlt).1 (h2 hlt).2
      rw [e] at hy a2
      rcases List.mem_cons.1 hy with rfl | hy
      · exact b
      · exact ahead_trans b ((List.pairwise_cons.1 a2).1 y hy)
    · rw [List.drop_eq_nil_of_le (by omega)] at hy; exact absurd hy (by simp)
  refine List.pairwise_append.2 ⟨a1, List.pairwise_cons.2 ⟨hx, a2⟩, fun y hy z hz => ?_⟩
  rcases List.mem_cons.1 hz with rfl | hz
  · exact h1 y hy
  · exact a3 y hy z hz
theorem ins_mem (l : List Int) (x : Int) (k : Nat) (z : Int) : z ∈ l.take k ++ x :: l.drop k ↔ z = x ∨ z ∈ l := by
  have : z ∈ l ↔ z ∈ l.take k ∨ z ∈ l.drop k := by rw [← List.mem_append, List.take_append_drop]
  rw [List.mem_append, List.mem_cons, this]
  constructor
  · rintro (h | h | h)
    · exact .inr (.inl h)
    · exact .inl h
    · exact .inr (.inr h)
  · rintro (h | h | h)
    · exact .inr (.inl h)
    · exact .inl h
    · exact .inr (.inr h)
/-- Sorted, with no two contraries side by side: rising by variable. -/
theorem srt_up : ∀ {l : List Int}, Srt l → (∀ i (h : i + 1 < l.length), l[i + 1] ≠ -l[i]) → Up l
  | [], _, _ => .nil
  | [a], _, _ => List.pairwise_singleton ..
  | a :: b :: l, hs, hn => by
    have h1 := List.pairwise_cons.1 hs
    have hb : Up (b :: l) := srt_up h1.2 fun i h => hn (i + 1) (by simpa using h)
    have hab := h1.1 b (List.mem_cons_self ..)
    have hne := hn 0 (by simp)
    have hlt : a.natAbs < b.natAbs := by
      have : b ≠ -a := hne
      unfold Ahead at hab; omega
    refine List.pairwise_cons.2 ⟨fun z hz => ?_, hb⟩
    rcases List.mem_cons.1 hz with rfl | hz
    · exact hlt
    · have := (List.pairwise_cons.1 hb).1 z hz; omega
theorem srt_done {c out : List Int} (hs : Srt out) (hm : ∀ x, x ∈ out ↔ x ∈ c) (h0 : (0 : Int) ∉ c) (hn : ∀ i (h : i + 1 < out.length), out[i + 1] ≠ -out[i]) : IsNorm c out true := by
  have hu := srt_up hs hn
  have key : ∀ (a : List Int), Up a → ∀ x, x ∈ a → -x ∈ a → x = 0 := fun a => by
    induction a with
    | nil => exact fun _ x h => absurd h (by simp)
    | cons z a ih =>
      intro hu x hx hn
      have hu' := List.pairwise_cons.1 hu
      rcases List.mem_cons.1 hx with e | e <;> rcases List.mem_cons.1 hn with e2 | e2
      · omega
      · have := hu'.1 _ e2; omega
      · have := hu'.1 _ e; omega
      · exact ih hu'.2 x e e2
  exact .inr ⟨rfl, fun x hx hnx => h0 (key out hu x ((hm x).2 hx) ((hm _).2 hnx) ▸ hx), hu, hm⟩
theorem srt_bad {c out : List Int} (hm : ∀ x, x ∈ out ↔ x ∈ c) {i : Nat} (h : i + 1 < out.length) (e : out[i + 1] = -out[i]) : IsNorm c [] false :=
  .inl ⟨rfl, rfl, out[i], (hm _).1 (List.getElem_mem _), by rw [← e]; exact (hm _).1 (List.getElem_mem _)⟩
/-- The first clause that does not hold, from i on. -/
def firstH (m : List Bool) : Nat → List (List Int) → Int
  | _, [] => -1
  | i, c :: l => if holdsC m c then firstH m (i + 1) l else i
theorem firstH_neg (m : List Bool) : ∀ (l : List (List Int)) (i : Nat), firstH m i l < 0 ↔ ∀ c ∈ l, holdsC m c = true
  | [], i => by simp [firstH]
  | c :: l, i => by
    rw [firstH]
    cases hc : holdsC m c
    · rw [if_neg (by decide)]
      refine ⟨fun h => absurd h (by omega), fun h => ?_⟩
      have := h c (List.mem_cons_self ..)
      rw [hc] at this; exact absurd this (by decide)
    · rw [if_pos rfl, firstH_neg m l (i + 1)]
      refine ⟨fun h d hd => ?_, fun h d hd => h d (List.mem_cons_of_mem _ hd)⟩
      rcases List.mem_cons.1 hd with rfl | hd
      · exact hc
      · exact h d hd
theorem firstH_done (m : List Bool) : ∀ (l : List (List Int)) (i : Nat), (∀ c ∈ l, holdsC m c = true) → firstH m i l = -1
  | [], _, _ => rfl
  | c :: l, i, h => by rw [firstH, if_pos (h c (List.mem_cons_self ..))]; exact firstH_done m l (i + 1) fun d hd => h d (List.mem_cons_of_mem _ hd)
theorem firstH_at (m : List Bool) : ∀ (l : List (List Int)) (i k : Nat) (hk : k < l.length), (∀ c ∈ l.take k, holdsC m c = true) → holdsC m l[k] = false → firstH m i l = ((i + k : Nat) : Int)
  | c :: l, i, 0, _, _, h => by rw [firstH, if_neg (by simpa using h)]; rfl
  | c :: l, i, k + 1, hk, h0, h => by
    rw [firstH, if_pos (h0 c (by simp)), firstH_at m l (i + 1) k (by simpa using hk) (fun d hd => h0 d (by simp [hd])) (by simpa using h)]
    omega
end Go.Proofs.Ytjkmdghlhodhiaa.Cl

/- The reference's way to what follows, plain: truths of variables as a row of -1, 0, 1; a chain of clauses. No program is named here. -/
import Derived.Test.YtjkmdghlhodhiaaOa
namespace Go.Proofs.Ytjkmdghlhodhiaa.Up
def valL (m : List Int) (x : Int) : Int := if x < 0 then - m.getD (-x).toNat 0 else m.getD x.toNat 0
def setL (m : List Int) (x : Int) : List Int := if x < 0 then m.set (-x).toNat (-1) else m.set x.toNat 1
structure MOk (n : Nat) (m : List Int) : Prop where
  len : m.length = n + 1
  tri : ∀ i, m.getD i 0 = -1 ∨ m.getD i 0 = 0 ∨ m.getD i 0 = 1
  zero : m.getD 0 0 = 0
theorem mok_new (n : Nat) : MOk n (List.replicate (n + 1) 0) := ⟨by simp, fun i => .inr (.inl (by rw [List.getD_eq_getElem?_getD, List.getElem?_replicate]; split <;> rfl)), by simp⟩
theorem val_neg (m : List Int) {x : Int} (h : x ≠ 0) : valL m (-x) = - valL m x := by
  unfold valL
  rcases Int.lt_or_gt_of_ne h with hx | hx
  · rw [if_neg (by omega), if_pos hx]; omega
  · rw [if_pos (by omega), if_neg (by omega), show - -x = x by omega]
theorem val_tri {n : Nat} {m : List Int} (h : MOk n m) (x : Int) : valL m x = -1 ∨ valL m x = 0 ∨ valL m x = 1 := by
  unfold valL
  split
  · rcases h.tri (-x).toNat with e | e | e <;> rw [e] <;> decide
  · exact h.tri x.toNat
theorem getD_set (m : List Int) (i j : Nat) (v : Int) (h : i < m.length) : (m.set i v).getD j 0 = if i = j then v else m.getD j 0 := by
  rw [List.getD_eq_getElem?_getD, List.getD_eq_getElem?_getD, List.getElem?_set]
  split
  · rename_i e; subst e; rfl
  · rfl
theorem set_len (m : List Int) (x : Int) : (setL m x).length = m.length := by unfold setL; split <;> simp
theorem val_set {n : Nat} {m : List Int} (h : MOk n m) {x : Int} (hx : LitOf n x) (y : Int) : valL (setL m x) y = if y = x then 1 else if y = -x then -1 else valL m y := by
  obtain ⟨h0, h1, h2⟩ := hx
  have hl := h.len
  have hz := h.zero
  unfold valL setL
  rcases Int.lt_or_gt_of_ne h0 with hx | hx
  · simp only [if_pos hx]
    rw [getD_set m _ _ _ (by omega), getD_set m _ _ _ (by omega)]
    by_cases hy : y < 0
    · simp only [if_pos hy]
      by_cases e : y = x
      · rw [if_pos e, if_pos (by omega)]; rfl
      · rw [if_neg e, if_neg (show ¬ y = -x by omega), if_neg (by omega)]
    · simp only [if_neg hy]
      rw [if_neg (show ¬ y = x by omega)]
      by_cases e : y = -x
      · rw [if_pos e, if_pos (by omega)]
      · rw [if_neg e, if_neg (by omega)]
  · simp only [if_neg (show ¬ x < 0 by omega)]
    rw [getD_set m _ _ _ (by omega), getD_set m _ _ _ (by omega)]
    by_cases hy : y < 0
    · simp only [if_pos hy]
      rw [if_neg (show ¬ y = x by omega)]
      by_cases e : y = -x
      · rw [if_pos e, if_pos (by omega)]
      · rw [if_neg e, if_neg (by omega)]
    · simp only [if_neg hy]
      by_cases e : y = x
      · rw [if_pos e, if_pos (by omega)]
      · rw [if_neg e, if_neg (show ¬ y = -x by omega), if_neg (by omega)]
theorem mok_set {n : Nat} {m : List Int} (h : MOk n m) {x : Int} (hx : LitOf n x) : MOk n (setL m x) := by
  obtain ⟨h0, h1, h2⟩ := hx
  have hl := h.len
  refine ⟨(set_len m x).trans hl, fun i => ?_, ?_⟩ <;> unfold setL <;> split
  · rw [getD_set m _ _ _ (by omega)]; split
    · exact .inl rfl
    · exact h.tri i
  · rw [getD_set m _ _ _ (by omega)]; split
    · exact .inr (.inr rfl)
    · exact h.tri i
  · rw [getD_set m _ _ _ (by omega), if_neg (by omega)]; exact h.zero
  · rw [getD_set m _ _ _ (by omega), if_neg (by omega)]; exact h.zero
def zer (m : List Int) : Nat := m.count 0
theorem zer_at : ∀ (m : List Int) (i : Nat) (v : Int), i < m.length → m.getD i 0 = 0 → v ≠ 0 → zer (m.set i v) + 1 = zer m
  | [], i, _, h, _, _ => absurd h (by simp)
  | a :: m, 0, v, _, h0, hv => by
    have : a = 0 := by simpa using h0
    subst this
    have e : (v == (0 : Int)) = false := by simpa using hv
    unfold zer; rw [List.set_cons_zero, List.count_cons, List.count_cons, e]; simp
  | a :: m, i + 1, v, h, h0, hv => by
    have := zer_at m i v (by simpa using h) (by simpa using h0) hv
    unfold zer at this ⊢
    rw [List.set_cons_succ, List.count_cons, List.count_cons]; omega
theorem zer_set {n : Nat} {m : List Int} (h : MOk n m) {x : Int} (hx : LitOf n x) (h0 : valL m x = 0) : zer (setL m x) + 1 = zer m := by
  obtain ⟨h0', h1, h2⟩ := hx
  have hl := h.len
  unfold valL at h0
  unfold setL
  split at h0
  · rename_i hx; rw [if_pos hx]; exact zer_at m _ _ (by omega) (by omega) (by decide)
  · rename_i hx; rw [if_neg hx]; exact zer_at m _ _ (by omega) h0 (by decide)
/-- What a clause says at some truths: nothing (0, false), its one literal, or that it fails. -/
def UnitR (c m : List Int) (u : Int) (b : Bool) : Prop :=
  (u = 0 ∧ b = false ∧ ((∃ x ∈ c, valL m x = 1) ∨ ∃ x ∈ c, ∃ y ∈ c, x ≠ y ∧ valL m x = 0 ∧ valL m y = 0)) ∨
  (u ≠ 0 ∧ b = false ∧ u ∈ c ∧ valL m u = 0 ∧ ∀ y ∈ c, y ≠ u → valL m y = -1) ∨ (u = 0 ∧ b = true ∧ ∀ y ∈ c, valL m y = -1)
def Sound (l : List (List Int)) (s m : List Int) : Prop := ∀ x, x ≠ 0 → valL m x = 1 → Der l s x
theorem sound_neg {l : List (List Int)} {s m : List Int} (h : Sound l s m) {x : Int} (h0 : x ≠ 0) (hv : valL m x = -1) : Der l s (-x) := h _ (by omega) (by rw [val_neg m h0, hv]; rfl)
theorem sound_new (l : List (List Int)) (s : List Int) (n : Nat) : Sound l s (List.replicate (n + 1) 0) := fun x _ h => by
  have hz : ∀ i, (List.replicate (n + 1) (0 : Int)).getD i 0 = 0 := fun i => by rw [List.getD_eq_getElem?_getD, List.getElem?_replicate]; split <;> rfl
  unfold valL at h
  split at h <;> rw [hz] at h <;> exact absurd h (by decide)
theorem sound_set {l : List (List Int)} {s m : List Int} {n : Nat} (hm : MOk n m) (h : Sound l s m) {x : Int} (hx : LitOf n x) (hd : Der l s x) : Sound l s (setL m x) := fun y h0 hy => by
  rw [val_set hm hx] at hy
  split at hy
  · rename_i e; exact e ▸ hd
  · split at hy
    · exact absurd hy (by decide)
    · exact h y h0 hy
theorem unit_der {l : List (List Int)} {s c m : List Int} {n : Nat} (hs : Sound l s m) (hc : c ∈ l) (hn : ∀ x ∈ c, LitOf n x) {u : Int} (h : UnitR c m u false) (h0 : u ≠ 0) : LitOf n u ∧ valL m u = 0 ∧ Der l s u := by
  rcases h with ⟨e, _⟩ | ⟨_, _, hu, hv, ho⟩ | ⟨_, e, _⟩
  · exact absurd e h0
  · exact ⟨hn u hu, hv, .cl hc hu fun y hy hne => sound_neg hs (hn y hy).1 (ho y hy hne)⟩
  · exact absurd e (by decide)
theorem unit_bad {l : List (List Int)} {s c m : List Int} {n : Nat} (hs : Sound l s m) (hc : c ∈ l) (hn : ∀ x ∈ c, LitOf n x) {u : Int} (h : UnitR c m u true) : Contra l s := by
  rcases h with ⟨_, e, _⟩ | ⟨_, e, _⟩ | ⟨_, _, ho⟩
  · exact absurd e (by decide)
  · exact absurd e (by decide)
  · exact .inr ⟨c, hc, fun y hy => sound_neg hs (hn y hy).1 (ho y hy)⟩
/-- The literals up to a variable. -/
def outK (m : List Int) : Nat → List Int
  | 0 => []
  | k + 1 => outK m k ++ (if m.getD (k + 1) 0 = 0 then [] else [((k + 1 : Nat) : Int) * m.getD (k + 1) 0])
theorem val_pos (m : List Int) (k : Nat) : valL m ((k : Nat) : Int) = m.getD k 0 := by unfold valL; rw [if_neg (by omega)]; rfl
theorem mem_outK {n : Nat} {m : List Int} (hm : MOk n m) (x : Int) : ∀ k, x ∈ outK m k ↔ x ≠ 0 ∧ x.natAbs ≤ k ∧ valL m x = 1
  | 0 => by
    simp only [outK, List.not_mem_nil, false_iff]
    rintro ⟨h0, h1, _⟩; omega
  | k + 1 => by
    rw [outK, List.mem_append, mem_outK hm x k]
    have hk := val_pos m (k + 1)
    have key : x.natAbs = k + 1 → (valL m x = 1 ↔ x = ((k + 1 : Nat) : Int) * m.getD (k + 1) 0) := fun e => by
      rcases (show x = ((k + 1 : Nat) : Int) ∨ x = -((k + 1 : Nat) : Int) by omega) with rfl | rfl
      · rw [hk]
        rcases hm.tri (k + 1) with h | h | h <;> rw [h] <;> omega
      · rw [val_neg m (by omega), hk]
        rcases hm.tri (k + 1) with h | h | h <;> rw [h] <;> omega
    have nat : ∀ v : Int, v = -1 ∨ v = 1 → (((k + 1 : Nat) : Int) * v).natAbs = k + 1 := fun v h => by rcases h with rfl | rfl <;> omega
    constructor
    · rintro (⟨h0, h1, h2⟩ | h)
      · exact ⟨h0, by omega, h2⟩
      · split at h
        · exact absurd h (by simp)
        · rename_i hz
          have e : x = ((k + 1 : Nat) : Int) * m.getD (k + 1) 0 := by simpa using h
          have hv : m.getD (k + 1) 0 = -1 ∨ m.getD (k + 1) 0 = 1 := by rcases hm.tri (k + 1) with h | h | h <;> simp_all
          have hn : x.natAbs = k + 1 := by rw [e]; exact nat _ hv
          exact ⟨by omega, by omega, (key hn).2 e⟩
    · rintro ⟨h0, h1, h2⟩
      by_cases e : x.natAbs = k + 1
      · refine .inr ?_
        have hx := (key e).1 h2
        rw [if_neg (fun h => by rw [h, Int.mul_zero] at hx; exact h0 hx)]
        exact List.mem_singleton.2 hx
      · exact .inl ⟨h0, by omega, h2⟩
theorem up_outK {n : Nat} {m : List Int} (hm : MOk n m) : ∀ k, Up (outK m k)
  | 0 => List.Pairwise.nil
  | k + 1 => by
    rw [outK]
    refine List.pairwise_append.2 ⟨up_outK hm k, ?_, fun x hx y hy => ?_⟩
    · split
      · exact .nil
      · exact List.pairwise_singleton ..
    · have h1 := ((mem_outK hm x k).1 hx).2.1
      have h2 := (mem_outK hm y (k + 1)).1 (by rw [outK]; exact List.mem_append.2 (.inr hy))
      split at hy
      · exact absurd hy (by simp)
      · rename_i hz
        have e : y = ((k + 1 : Nat) : Int) * m.getD (k + 1) 0 := by simpa using hy
        have hv : m.getD (k + 1) 0 = -1 ∨ m.getD (k + 1) 0 = 1 := by rcases hm.tri (k + 1) with h | h | h <;> simp_all
        have : y.natAbs = k + 1 := by rw [e]; rcases hv with h | h <;> rw [h] <;> omega
        omega
theorem ref_done {n : Nat} {l : List (List Int)} {s m : List Int} (hm : MOk n m) (hs : Sound l s m) (hl : ∀ x ∈ s, LitOf n x) (hn : ∀ c ∈ l, ∀ x ∈ c, LitOf n x) (hb : ∀ x ∈ s, valL m x = 1) (hc : ∀ c ∈ l, UnitR c m 0 false) : IsClose l s (outK m n) false := by
  have hi : ∀ x, LitOf n x → (x ∈ outK m n ↔ valL m x = 1) := fun x hx => (mem_outK hm x n).trans ⟨fun h => h.2.2, fun h => ⟨hx.1, by have := hx.2; omega, h⟩⟩
  refine close_done (fun x hx => (hi x (hl x hx)).2 (hb x hx)) (fun x hx => ?_) (up_outK hm n) (fun h => ((mem_outK hm 0 n).1 h).1 rfl) fun c hcl => ?_
  · have := (mem_outK hm x n).1 hx
    exact hs x this.1 this.2.2
  · have no : ∀ x ∈ c, valL m x = 0 → -x ∉ outK m n := fun x hx h0 hn' => by
      have := (hi (-x) (lit_neg (hn c hcl x hx))).1 hn'
      rw [val_neg m (hn c hcl x hx).1, h0] at this
      exact absurd this (by decide)
    rcases hc c hcl with ⟨_, _, ⟨x, hx, hv⟩ | ⟨x, hx, y, hy, hne, h1, h2⟩⟩ | ⟨e, _⟩ | ⟨_, e, _⟩
    · exact .inl ⟨x, hx, (hi x (hn c hcl x hx)).2 hv⟩
    · exact .inr ⟨x, hx, y, hy, hne, no x hx h1, no y hy h2⟩
    · exact absurd rfl e
    · exact absurd e (by decide)
/-- A chain: each variable brings the next one. -/
theorem chain_up {l : List (List Int)} {k f : Nat} (hf : 1 ≤ f) (hfk : f ≤ k) (hl : ∀ c, c ∈ l ↔ ∃ j : Nat, 1 ≤ j ∧ j + 1 ≤ k ∧ c = [-(j : Int), (j : Int) + 1]) :
    (∀ x, Der l [(f : Int)] x ↔ (f : Int) ≤ x ∧ x ≤ k) ∧ ¬ Contra l [(f : Int)] := by
  obtain ⟨h1, h2⟩ := closed_all (l := l) (s := [(f : Int)]) (T := fun x => (f : Int) ≤ x ∧ x ≤ k) (fun x hx => (by have : x = f := (by simpa using hx); omega)) (fun x h h' => by omega) fun c hc => by
    obtain ⟨j, h1, h2, rfl⟩ := (hl c).1 hc
    by_cases hj : f ≤ j + 1
    · exact .inl ⟨(j : Int) + 1, by simp, by omega, by omega⟩
    · exact .inr ⟨-(j : Int), by simp, (j : Int) + 1, by simp, by omega, by omega, by omega⟩
  refine ⟨fun x => ⟨h1 x, fun ⟨ha, hb⟩ => ?_⟩, h2⟩
  have : ∀ d : Nat, f + d ≤ k → Der l [(f : Int)] ((f + d : Nat) : Int) := fun d => by
    induction d with
    | zero => exact fun _ => .lit (by simp)
    | succ d ih =>
      intro hd
      have hi := ih (by omega)
      refine .cl ((hl _).2 ⟨f + d, by omega, by omega, rfl⟩) (x := ((f + (d + 1) : Nat) : Int)) (by simp; omega) fun y hy hne => ?_
      have : y = -((f + d : Nat) : Int) := by
        rcases List.mem_cons.1 hy with e | e
        · exact e
        · have : y = ((f + d : Nat) : Int) + 1 := by simpa using e
          exact absurd (this.trans (by omega)) hne
      rw [this, Int.neg_neg]; exact hi
  have e : x = ((f + (x.toNat - f) : Nat) : Int) := by omega
  rw [e]; exact this _ (by omega)
theorem chain_down {l : List (List Int)} {k : Nat} (hk : 1 ≤ k) (hl : ∀ c, c ∈ l ↔ ∃ j : Nat, 1 ≤ j ∧ j + 1 ≤ k ∧ c = [-(j : Int), (j : Int) + 1]) :
    (∀ x, Der l [-(k : Int)] x ↔ -(k : Int) ≤ x ∧ x ≤ -1) ∧ ¬ Contra l [-(k : Int)] := by
  obtain ⟨h1, h2⟩ := closed_all (l := l) (s := [-(k : Int)]) (T := fun x => -(k : Int) ≤ x ∧ x ≤ -1) (fun x hx => (by have : x = -(k : Int) := (by simpa using hx); omega)) (fun x h h' => by omega) fun c hc => by
    obtain ⟨j, h1, h2, rfl⟩ := (hl c).1 hc
    exact .inl ⟨-(j : Int), by simp, by omega, by omega⟩
  refine ⟨fun x => ⟨h1 x, fun ⟨ha, hb⟩ => ?_⟩, h2⟩
  have : ∀ d : Nat, d + 1 ≤ k → Der l [-(k : Int)] (-((k - d : Nat) : Int)) := fun d => by
    induction d with
    | zero => exact fun _ => .lit (by simp)
    | succ d ih =>
      intro hd
      have hi := ih (by omega)
      refine .cl ((hl _).2 ⟨k - (d + 1), by omega, by omega, rfl⟩) (by simp) fun y hy hne => ?_
      have : y = ((k - d : Nat) : Int) := by
        rcases List.mem_cons.1 hy with e | e
        · exact absurd e hne
        · have : y = ((k - (d + 1) : Nat) : Int) + 1 := by simpa using e
          omega
      rw [this]; exact hi
  have e : x = -((k - (k - (-x).toNat) : Nat) : Int) := by omega
  rw [e]; exact this _ (by omega)
theorem chain_bad {l l' : List (List Int)} {k f : Nat} (hf : 1 ≤ f) (hfk : f ≤ k) (hl : ∀ c, c ∈ l ↔ ∃ j : Nat, 1 ≤ j ∧ j + 1 ≤ k ∧ c = [-(j : Int), (j : Int) + 1]) (hl' : ∀ c ∈ l, c ∈ l') (hk : [-(k : Int)] ∈ l') : Contra l' [(f : Int)] := by
  have h := ((chain_up hf hfk hl).1 k).2 ⟨by omega, by omega⟩
  refine .inr ⟨_, hk, fun y hy => ?_⟩
  have : y = -(k : Int) := by simpa using hy
  rw [this, Int.neg_neg]
  exact der_mono hl' (fun x hx => .lit hx) h
/-- A row from one number to another. -/
def from' (a : Int) (n : Nat) : List Int := (List.range n).map fun i : Nat => a + (i : Int)
theorem mem_from (a x : Int) (n : Nat) : x ∈ from' a n ↔ a ≤ x ∧ x < a + n := by
  unfold from'
  rw [List.mem_map]
  refine ⟨?_, fun h => ⟨(x - a).toNat, List.mem_range.2 (by omega), by omega⟩⟩
  rintro ⟨i, hi, rfl⟩
  have := List.mem_range.1 hi
  omega
end Go.Proofs.Ytjkmdghlhodhiaa.Up

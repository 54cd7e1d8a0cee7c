/- What follows of clauses by those that have one literal left, plain: the least row, one row alone; models; steps of proofs. No program is named here. -/
import Derived.Lib.Hide
namespace Go.Proofs.Ytjkmdghlhodhiaa.Up
/-- What follows at once, and of that. -/
inductive Der (l : List (List Int)) (s : List Int) : Int → Prop
  | lit {x : Int} : x ∈ s → Der l s x
  | cl {c : List Int} {x : Int} : c ∈ l → x ∈ c → (∀ y ∈ c, y ≠ x → Der l s (-y)) → Der l s x
/-- It is against itself. -/
def Contra (l : List (List Int)) (s : List Int) : Prop := (∃ v, Der l s v ∧ Der l s (-v)) ∨ ∃ c ∈ l, ∀ y ∈ c, Der l s (-y)
theorem der_mono {l l' : List (List Int)} {s s' : List Int} (hl : ∀ c ∈ l, c ∈ l') (hs : ∀ x ∈ s, Der l' s' x) {x : Int} (h : Der l s x) : Der l' s' x := by
  induction h with
  | lit hx => exact hs _ hx
  | cl hc hx _ ih => exact .cl (hl _ hc) hx ih
theorem contra_mono {l l' : List (List Int)} {s s' : List Int} (hl : ∀ c ∈ l, c ∈ l') (hs : ∀ x ∈ s, Der l' s' x) (h : Contra l s) : Contra l' s' := by
  rcases h with ⟨v, h1, h2⟩ | ⟨c, hc, h⟩
  · exact .inl ⟨v, der_mono hl hs h1, der_mono hl hs h2⟩
  · exact .inr ⟨c, hl c hc, fun y hy => der_mono hl hs (h y hy)⟩
/-- A row that is closed and agrees with itself is what follows. -/
theorem closed_all {l : List (List Int)} {s : List Int} {T : Int → Prop} (hb : ∀ x ∈ s, T x) (hc : ∀ x, T x → ¬ T (-x))
    (hl : ∀ c ∈ l, (∃ x ∈ c, T x) ∨ ∃ x ∈ c, ∃ y ∈ c, x ≠ y ∧ ¬ T (-x) ∧ ¬ T (-y)) : (∀ x, Der l s x → T x) ∧ ¬ Contra l s := by
  have hd : ∀ x, Der l s x → T x := fun x h => by
    induction h with
    | lit hx => exact hb _ hx
    | @cl c x h1 h2 _ ih =>
      rcases hl c h1 with ⟨z, hz, hT⟩ | ⟨a, ha, b, hb', hab, h3, h4⟩
      · by_cases e : z = x
        · exact e ▸ hT
        · exact absurd (ih z hz e) (hc z hT)
      · by_cases e : a = x
        · exact absurd (ih b hb' (fun e2 => hab (e.trans e2.symm))) h4
        · exact absurd (ih a ha e) h3
  refine ⟨hd, ?_⟩
  rintro (⟨v, h1, h2⟩ | ⟨c, hcl, h⟩)
  · exact hc v (hd _ h1) (hd _ h2)
  · rcases hl c hcl with ⟨z, hz, hT⟩ | ⟨a, ha, b, _, _, h3, _⟩
    · exact hc z hT (hd _ (h z hz))
    · exact h3 (hd _ (h a ha))
/-- Rising by variable. -/
def Up (a : List Int) : Prop := a.Pairwise (fun x y => x.natAbs < y.natAbs)
theorem up_eq : ∀ {a b : List Int}, Up a → Up b → (∀ x, x ∈ a ↔ x ∈ b) → a = b
  | [], [], _, _, _ => rfl
  | [], y :: b, _, _, h => absurd ((h y).2 (List.mem_cons_self ..)) (by simp)
  | x :: a, [], _, _, h => absurd ((h x).1 (List.mem_cons_self ..)) (by simp)
  | x :: a, y :: b, ha, hb, h => by
    have ha' := List.pairwise_cons.1 ha
    have hb' := List.pairwise_cons.1 hb
    have hxy : x = y := by
      have h1 := (h x).1 (List.mem_cons_self ..)
      have h2 := (h y).2 (List.mem_cons_self ..)
      rcases List.mem_cons.1 h1 with e | e
      · exact e
      · rcases List.mem_cons.1 h2 with e2 | e2
        · exact e2.symm
        · have := ha'.1 _ e2; have := hb'.1 _ e; omega
    subst hxy
    refine congrArg _ (up_eq ha'.2 hb'.2 fun z => ?_)
    have hz := h z
    rw [List.mem_cons, List.mem_cons] at hz
    refine ⟨fun hm => ?_, fun hm => ?_⟩
    · rcases hz.1 (.inr hm) with e | e
      · subst e; exact absurd (ha'.1 _ hm) (Nat.lt_irrefl _)
      · exact e
    · rcases hz.2 (.inr hm) with e | e
      · subst e; exact absurd (hb'.1 _ hm) (Nat.lt_irrefl _)
      · exact e
/-- What Close answers. -/
def IsClose (l : List (List Int)) (s : List Int) (out : List Int) (bad : Bool) : Prop := (bad = true ∧ out = [] ∧ Contra l s) ∨ (bad = false ∧ ¬ Contra l s ∧ Up out ∧ ∀ x, x ∈ out ↔ Der l s x)
theorem close_one {l : List (List Int)} {s a b : List Int} {x y : Bool} (h1 : IsClose l s a x) (h2 : IsClose l s b y) : a = b ∧ x = y := by
  rcases h1 with ⟨e1, o1, c1⟩ | ⟨e1, c1, u1, m1⟩ <;> rcases h2 with ⟨e2, o2, c2⟩ | ⟨e2, c2, u2, m2⟩
  · exact ⟨o1.trans o2.symm, e1.trans e2.symm⟩
  · exact absurd c1 c2
  · exact absurd c2 c1
  · exact ⟨up_eq u1 u2 fun z => (m1 z).trans (m2 z).symm, e1.trans e2.symm⟩
/-- Done without a fault: a row of literals that is closed. -/
theorem close_done {l : List (List Int)} {s out : List Int} (hb : ∀ x ∈ s, x ∈ out) (hs : ∀ x ∈ out, Der l s x) (hu : Up out) (h0 : (0 : Int) ∉ out)
    (hl : ∀ c ∈ l, (∃ x ∈ c, x ∈ out) ∨ ∃ x ∈ c, ∃ y ∈ c, x ≠ y ∧ -x ∉ out ∧ -y ∉ out) : IsClose l s out false := by
  have hc : ∀ x, x ∈ out → ¬ -x ∈ out := fun x h1 h2 => by
    have : ∀ (a : List Int), Up a → x ∈ a → -x ∈ a → x = -x := fun a => by
      induction a with
      | nil => exact fun _ h => absurd h (by simp)
      | cons z a ih =>
        intro hu hx hn
        have hu' := List.pairwise_cons.1 hu
        rcases List.mem_cons.1 hx with e | e <;> rcases List.mem_cons.1 hn with e2 | e2
        · exact e.trans e2.symm
        · have := hu'.1 _ e2; omega
        · have := hu'.1 _ e; omega
        · exact ih hu'.2 e e2
    have e := this out hu h1 h2
    have : x = 0 := by omega
    exact h0 (this ▸ h1)
  obtain ⟨h1, h2⟩ := closed_all (T := fun x => x ∈ out) hb hc hl
  exact .inr ⟨rfl, h2, hu, fun x => ⟨hs x, h1 x⟩⟩
/-- What follows of what follows. -/
theorem close_again {l : List (List Int)} {s out : List Int} (h : IsClose l s out false) : IsClose l out out false := by
  rcases h with ⟨e, _⟩ | ⟨_, hc, hu, hm⟩
  · exact absurd e (by decide)
  · have hd : ∀ x, Der l out x → Der l s x := fun x => der_mono (fun _ h => h) fun y hy => (hm y).1 hy
    exact .inr ⟨rfl, fun h => hc (contra_mono (fun _ h => h) (fun y hy => (hm y).1 hy) h), hu, fun x => ⟨fun h => .lit h, fun h => (hm x).2 (hd x h)⟩⟩
theorem close_more {l : List (List Int)} {s t a b : List Int} {x y : Bool} (hst : ∀ z ∈ s, z ∈ t) (h1 : IsClose l s a x) (h2 : IsClose l t b y) : (x = true → y = true) ∧ (y = false → ∀ z ∈ a, z ∈ b) := by
  rcases h1 with ⟨e1, o1, c1⟩ | ⟨e1, c1, u1, m1⟩ <;> rcases h2 with ⟨e2, o2, c2⟩ | ⟨e2, c2, u2, m2⟩
  · exact ⟨fun _ => e2, fun e => absurd (e2.symm.trans e) (by decide)⟩
  · exact absurd (contra_mono (fun _ h => h) (fun z hz => .lit (hst z hz)) c1) c2
  · exact ⟨fun _ => e2, fun e => absurd (e2.symm.trans e) (by decide)⟩
  · exact ⟨fun e => absurd (e1.symm.trans e) (by decide), fun _ z hz => (m2 z).2 (der_mono (fun _ h => h) (fun z hz => .lit (hst z hz)) ((m1 z).1 hz))⟩
theorem close_true {l : List (List Int)} {s out : List Int} {x : Bool} (h : IsClose l s out x) : x = true ↔ Contra l s := by
  rcases h with ⟨e, _, c⟩ | ⟨e, c, _⟩
  · exact ⟨fun _ => c, fun _ => e⟩
  · exact ⟨fun h => absurd (e.symm.trans h) (by decide), fun h => absurd h c⟩
/-- A literal that holds. -/
def holdsL (m : List Bool) (v : Int) : Bool := (decide (1 ≤ v) && decide (v ≤ m.length) && m.getD (v - 1).toNat false) || (decide (v ≤ -1) && decide (-m.length ≤ v) && !m.getD (-v - 1).toNat false)
def holdsC (m : List Bool) (c : List Int) : Bool := c.any (holdsL m)
/-- A literal of 1 to n. -/
def LitOf (n : Nat) (x : Int) : Prop := x ≠ 0 ∧ x ≤ n ∧ -n ≤ x
theorem lit_neg {n : Nat} {x : Int} (h : LitOf n x) : LitOf n (-x) := ⟨by have := h.1; omega, by have := h.2.2; omega, by have := h.2.1; omega⟩
theorem holds_neg {n : Nat} {m : List Bool} (hm : m.length = n) {x : Int} (h : LitOf n x) : holdsL m (-x) = !holdsL m x := by
  unfold holdsL
  obtain ⟨h0, h1, h2⟩ := h
  rw [hm]
  rcases Int.lt_or_gt_of_ne h0 with hx | hx
  · have a1 : decide (1 ≤ x) = false := decide_eq_false (by omega)
    have a2 : decide (x ≤ -1) = true := decide_eq_true (by omega)
    have a3 : decide (-(n : Int) ≤ x) = true := decide_eq_true h2
    have b1 : decide (1 ≤ -x) = true := decide_eq_true (by omega)
    have b2 : decide (-x ≤ (n : Int)) = true := decide_eq_true (by omega)
    have b3 : decide (-x ≤ -1) = false := decide_eq_false (by omega)
    rw [a1, a2, a3, b1, b2, b3]
    cases m.getD (-x - 1).toNat false <;> rfl
  · have a1 : decide (1 ≤ x) = true := decide_eq_true (by omega)
    have a2 : decide (x ≤ -1) = false := decide_eq_false (by omega)
    have a3 : decide (x ≤ (n : Int)) = true := decide_eq_true h1
    have b1 : decide (1 ≤ -x) = false := decide_eq_false (by omega)
    have b2 : decide (-x ≤ -1) = true := decide_eq_true (by omega)
    have b3 : decide (-(n : Int) ≤ -x) = true := decide_eq_true (by omega)
    have b4 : - -x = x := by omega
    rw [a1, a2, a3, b1, b2, b3, b4]
    cases m.getD (x - 1).toNat false <;> rfl
/-- A model has what follows. -/
theorem model_der {n : Nat} {l : List (List Int)} {s : List Int} {m : List Bool} (hm : m.length = n) (hn : ∀ c ∈ l, ∀ x ∈ c, LitOf n x) (hl : ∀ c ∈ l, holdsC m c = true) (hs : ∀ x ∈ s, holdsL m x = true) {x : Int} (h : Der l s x) : holdsL m x = true := by
  induction h with
  | lit hx => exact hs _ hx
  | @cl c x hc hx _ ih =>
    obtain ⟨y, hy, hh⟩ := List.any_eq_true.1 (hl c hc)
    by_cases e : y = x
    · exact e ▸ hh
    · have := ih y hy e
      rw [holds_neg hm (hn c hc y hy), hh] at this
      exact absurd this (by decide)
theorem model_none {n : Nat} {l : List (List Int)} {s : List Int} {m : List Bool} (hm : m.length = n) (hn : ∀ c ∈ l, ∀ x ∈ c, LitOf n x) (hv : ∀ x ∈ s, LitOf n x) (hl : ∀ c ∈ l, holdsC m c = true) (hs : ∀ x ∈ s, holdsL m x = true) : ¬ Contra l s := by
  have hd := fun {x : Int} (h : Der l s x) => model_der hm hn hl hs h
  have hlit : ∀ x, Der l s x → LitOf n x := fun x h => by
    cases h with
    | lit hx => exact hv _ hx
    | cl hc hx _ => exact hn _ hc _ hx
  rintro (⟨v, h1, h2⟩ | ⟨c, hc, h⟩)
  · have := hd h2
    rw [holds_neg hm (hlit v h1), hd h1] at this
    exact absurd this (by decide)
  · obtain ⟨y, hy, hh⟩ := List.any_eq_true.1 (hl c hc)
    have := hd (h y hy)
    rw [holds_neg hm (hn c hc y hy), hh] at this
    exact absurd this (by decide)
/-- A step of a proof. -/
def neg (c : List Int) : List Int := c.map fun x => -x
def Fol (l : List (List Int)) (c : List Int) : Prop := Contra l (neg c)
theorem fol_mono {l l' : List (List Int)} {c d : List Int} (hl : ∀ c ∈ l, c ∈ l') (hc : ∀ x ∈ c, x ∈ d) (h : Fol l c) : Fol l' d := contra_mono hl (fun x hx => by
  obtain ⟨y, hy, rfl⟩ := List.mem_map.1 hx
  exact .lit (List.mem_map.2 ⟨y, hc y hy, rfl⟩)) h
theorem fol_own {l : List (List Int)} {c : List Int} (h : c ∈ l) : Fol l c := .inr ⟨c, h, fun y hy => .lit (List.mem_map.2 ⟨y, hy, rfl⟩)⟩
theorem fol_both {l : List (List Int)} {x : Int} : Fol l [x, -x] := .inl ⟨x, .lit (by simp [neg]), .lit (by simp [neg])⟩
theorem fol_holds {n : Nat} {l : List (List Int)} {c : List Int} {m : List Bool} (hm : m.length = n) (hn : ∀ c ∈ l, ∀ x ∈ c, LitOf n x) (hv : ∀ x ∈ c, LitOf n x) (hl : ∀ c ∈ l, holdsC m c = true) (h : Fol l c) : holdsC m c = true := by
  rcases hh : holdsC m c with _ | _
  · refine absurd h (model_none hm hn (fun x hx => ?_) hl fun x hx => ?_)
    · obtain ⟨y, hy, rfl⟩ := List.mem_map.1 hx
      exact lit_neg (hv y hy)
    · obtain ⟨y, hy, rfl⟩ := List.mem_map.1 hx
      rw [holds_neg hm (hv y hy)]
      have := (List.any_eq_false.1 hh) y hy
      simpa using this
  · rfl
theorem not_fol_one {x : Int} (h0 : x ≠ 0) : ¬ Fol [] [x] :=
  (closed_all (T := fun z => z = -x) (fun z hz => by simpa [neg] using hz) (fun z hz h => h0 (by omega)) (fun c hc => absurd hc (by simp))).2
theorem der_lit {n : Nat} {l : List (List Int)} {s : List Int} (hn : ∀ c ∈ l, ∀ x ∈ c, LitOf n x) (hv : ∀ x ∈ s, LitOf n x) {x : Int} (h : Der l s x) : LitOf n x := by
  cases h with
  | lit hx => exact hv _ hx
  | cl hc hx _ => exact hn _ hc _ hx
theorem up_len {n : Nat} : ∀ (a : List Int) (k : Nat), k ≤ n → Up a → (∀ x ∈ a, k < x.natAbs ∧ x.natAbs ≤ n) → a.length + k ≤ n
  | [], k, h, _, _ => by simpa using h
  | x :: a, k, h, hu, hx => by
    have h1 := hx x (List.mem_cons_self ..)
    have hu' := List.pairwise_cons.1 hu
    have := up_len a x.natAbs h1.2 hu'.2 fun y hy => ⟨hu'.1 y hy, (hx y (List.mem_cons_of_mem _ hy)).2⟩
    rw [List.length_cons]; omega
theorem close_lits {n : Nat} {l : List (List Int)} {s out : List Int} {b : Bool} (hn : ∀ c ∈ l, ∀ x ∈ c, LitOf n x) (hv : ∀ x ∈ s, LitOf n x) (h : IsClose l s out b) : (∀ x ∈ out, LitOf n x) ∧ out.length ≤ n := by
  rcases h with ⟨_, rfl, _⟩ | ⟨_, _, hu, hm⟩
  · exact ⟨fun x h => absurd h (by simp), Nat.zero_le _⟩
  · have h1 : ∀ x ∈ out, LitOf n x := fun x hx => der_lit hn hv ((hm x).1 hx)
    refine ⟨h1, ?_⟩
    have := up_len (n := n) out 0 (Nat.zero_le _) hu fun x hx => by
      obtain ⟨a, b, c⟩ := h1 x hx
      omega
    simpa using this
end Go.Proofs.Ytjkmdghlhodhiaa.Up

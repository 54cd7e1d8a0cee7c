/- Rows of half-open pieces of a line: their normal form, both, either, none. No program is named here. The laws of rows of pieces in normal form: what P302 asks, with no program. Rows of pieces as lists of cuts: what a walk along two such lists gives. No program is named here. -/

namespace Go.Proofs.YtkdildgdodnbbaaGreatDoor.Rm

/-- A line: any two stand in one order. -/
structure Line (K : Type) where
  le : K → K → Bool
  bot : K
  top : K
  total : ∀ a b, le a b = true ∨ le b a = true
  trans : ∀ a b c, le a b = true → le b c = true → le a c = true
  anti : ∀ a b, le a b = true → le b a = true → a = b
  least : ∀ a, le bot a = true
  most : ∀ a, le a top = true

section
variable {K : Type} (L : Line K)

def lt (a b : K) : Bool := !L.le b a
theorem le_refl (a : K) : L.le a a = true := by rcases L.total a a with h | h <;> exact h
theorem lt_iff {a b : K} : lt L a b = true ↔ ¬ L.le b a = true := by unfold lt; cases L.le b a <;> simp
theorem le_of_lt {a b : K} (h : lt L a b = true) : L.le a b = true := by
  rcases L.total a b with h1 | h1
  · exact h1
  · exact absurd h1 ((lt_iff L).1 h)
theorem lt_or_le (a b : K) : lt L a b = true ∨ L.le b a = true := by unfold lt; cases L.le b a <;> simp
theorem lt_of_lt_of_le {a b c : K} (h1 : lt L a b = true) (h2 : L.le b c = true) : lt L a c = true := by
  rw [lt_iff] at *; exact fun h => h1 (L.trans _ _ _ h2 h)
theorem lt_of_le_of_lt {a b c : K} (h1 : L.le a b = true) (h2 : lt L b c = true) : lt L a c = true := by
  rw [lt_iff] at *; exact fun h => h2 (L.trans _ _ _ h h1)
theorem not_lt_self (a : K) : ¬ lt L a a = true := by rw [lt_iff]; exact fun h => h (le_refl L a)
theorem not_le {a b : K} (h : ¬ L.le a b = true) : lt L b a = true := (lt_iff L).2 h

/-- A piece: from lo on, ahead of hi. -/
structure P (K : Type) where
  lo : K
  hi : K

def mem (x : K) (p : P K) : Bool := L.le p.lo x && lt L x p.hi
def Mem (x : K) (l : List (P K)) : Bool := l.any (mem L x)
def ok (p : P K) : Bool := lt L p.lo p.hi
/-- The normal form: each piece holds something, each ends ahead of the next one's begin. -/
def Nrm : List (P K) → Prop
  | [] => True
  | [a] => ok L a = true
  | a :: b :: t => ok L a = true ∧ lt L a.hi b.lo = true ∧ Nrm (b :: t)
theorem mem_iff {x : K} {p : P K} : mem L x p = true ↔ L.le p.lo x = true ∧ lt L x p.hi = true := by unfold mem; simp
theorem Mem_cons {x : K} {p : P K} {l : List (P K)} : Mem L x (p :: l) = (mem L x p || Mem L x l) := by unfold Mem; simp
theorem Mem_nil {x : K} : Mem L x [] = false := rfl
theorem Mem_app {x : K} {l m : List (P K)} : Mem L x (l ++ m) = (Mem L x l || Mem L x m) := by unfold Mem; simp
theorem nrm_ok {a : P K} {l : List (P K)} (h : Nrm L (a :: l)) : ok L a = true := by cases l with
  | nil => exact h
  | cons b t => exact h.1
theorem nrm_tail {a : P K} {l : List (P K)} (h : Nrm L (a :: l)) : Nrm L l := by cases l with
  | nil => trivial
  | cons b t => exact h.2.2
theorem mem_lo {a : P K} (h : ok L a = true) : mem L a.lo a = true := by rw [mem_iff]; exact ⟨le_refl L _, h⟩
/-- All of the rest begins behind the first one's end. -/
theorem nrm_above : ∀ {l : List (P K)} {a : P K}, Nrm L (a :: l) → ∀ x, Mem L x l = true → lt L a.hi x = true
  | [], _, _, x, h => by simp [Mem] at h
  | b :: t, a, h, x, hx => by
    rw [Mem_cons, Bool.or_eq_true] at hx
    rcases hx with hx | hx
    · exact lt_of_lt_of_le L h.2.1 ((mem_iff L).1 hx).1
    · have h1 := nrm_above h.2.2 x hx
      exact lt_of_lt_of_le L (lt_of_lt_of_le L h.2.1 (le_of_lt L (nrm_ok L h.2.2))) (le_of_lt L h1)
theorem nrm_least {l : List (P K)} {a : P K} (h : Nrm L (a :: l)) (x : K) (hx : Mem L x (a :: l) = true) : L.le a.lo x = true := by
  rw [Mem_cons, Bool.or_eq_true] at hx
  rcases hx with hx | hx
  · exact ((mem_iff L).1 hx).1
  · exact L.trans _ _ _ (le_of_lt L (nrm_ok L h)) (le_of_lt L (nrm_above L h x hx))
theorem nrm_hi_out {l : List (P K)} {a : P K} (h : Nrm L (a :: l)) : Mem L a.hi (a :: l) = false := by
  rw [Mem_cons, Bool.or_eq_false_iff]
  constructor
  · rw [Bool.eq_false_iff]; intro hx; exact not_lt_self L _ ((mem_iff L).1 hx).2
  · rw [Bool.eq_false_iff]; intro hx; exact not_lt_self L _ (nrm_above L h _ hx)
/-- Rows in normal form that hold the same are the same. -/
theorem nrm_unique : ∀ (l m : List (P K)), Nrm L l → Nrm L m → (∀ x, lt L x L.top = true → Mem L x l = Mem L x m) → l = m
  | [], [], _, _, _ => rfl
  | [], b :: m, _, hm, h => by
    have hb := nrm_ok L hm
    have := h b.lo (lt_of_lt_of_le L hb (L.most _))
    rw [Mem_nil, Mem_cons, mem_lo L hb] at this; cases this
  | a :: l, [], hl, _, h => by
    have ha := nrm_ok L hl
    have := h a.lo (lt_of_lt_of_le L ha (L.most _))
    rw [Mem_nil, Mem_cons, mem_lo L ha] at this; cases this
  | a :: l, b :: m, hl, hm, h => by
    have ha := nrm_ok L hl
    have hb := nrm_ok L hm
    have hlo : a.lo = b.lo := by
      refine L.anti _ _ (nrm_least L hl _ ?_) (nrm_least L hm _ ?_)
      · rw [h _ (lt_of_lt_of_le L hb (L.most _)), Mem_cons, mem_lo L hb]; rfl
      · rw [← h _ (lt_of_lt_of_le L ha (L.most _)), Mem_cons, mem_lo L ha]; rfl
    have hhi : a.hi = b.hi := by
      refine L.anti _ _ ?_ ?_
      · rcases lt_or_le L b.hi a.hi with h1 | h1
        · have e := h b.hi (lt_of_lt_of_le L h1 (L.most _))
          rw [nrm_hi_out L hm, Mem_cons] at e
          have : mem L b.hi a = true := by rw [mem_iff]; exact ⟨by rw [hlo]; exact le_of_lt L hb, h1⟩
          rw [this] at e; cases e
        · exact h1
      · rcases lt_or_le L a.hi b.hi with h1 | h1
        · have e := h a.hi (lt_of_lt_of_le L h1 (L.most _))
          rw [nrm_hi_out L hl, Mem_cons] at e
          have : mem L a.hi b = true := by rw [mem_iff]; exact ⟨by rw [← hlo]; exact le_of_lt L ha, h1⟩
          rw [this] at e; cases e
        · exact h1
    have hab : a = b := by cases a; cases b; simp at hlo hhi; rw [hlo, hhi]
    subst hab
    have ht : l = m := by
      refine nrm_unique l m (nrm_tail L hl) (nrm_tail L hm) fun x hx => ?_
      have e := h x hx
      rw [Mem_cons, Mem_cons] at e
      cases hxa : mem L x a
      · rw [hxa] at e; simpa using e
      · have h2 := ((mem_iff L).1 hxa).2
        have n1 : Mem L x l = false := by
          rw [Bool.eq_false_iff]; intro h3
          exact not_lt_self L _ (lt_of_lt_of_le L h2 (le_of_lt L (nrm_above L hl x h3)))
        have n2 : Mem L x m = false := by
          rw [Bool.eq_false_iff]; intro h3
          exact not_lt_self L _ (lt_of_lt_of_le L h2 (le_of_lt L (nrm_above L hm x h3)))
        rw [n1, n2]
    rw [ht]

/-! Pieces put in order, those that touch joined. -/
def ins (x : P K) (l : List (P K)) : List (P K) := l.takeWhile (fun y => !lt L x.lo y.lo) ++ x :: l.dropWhile (fun y => !lt L x.lo y.lo)
def srt (l : List (P K)) : List (P K) := l.foldl (fun r x => ins L x r) []
def Srt : List (P K) → Prop
  | [] => True
  | a :: l => (∀ y ∈ l, L.le a.lo y.lo = true) ∧ Srt l
theorem mem_ins {x y : P K} {l : List (P K)} : y ∈ ins L x l ↔ y = x ∨ y ∈ l := by
  unfold ins
  have h := List.takeWhile_append_dropWhile (p := fun y => !lt L x.lo y.lo) (l := l)
  constructor
  · intro hy
    rw [List.mem_append, List.mem_cons] at hy
    rcases hy with hy | hy | hy
    · right; rw [← h]; exact List.mem_append_left _ hy
    · left; exact hy
    · right; rw [← h]; exact List.mem_append_right _ hy
  · intro hy
    rw [List.mem_append, List.mem_cons]
    rcases hy with hy | hy
    · right; left; exact hy
    · rw [← h, List.mem_append] at hy
      rcases hy with hy | hy
      · left; exact hy
      · right; right; exact hy
theorem ins_cons (x a : P K) (l : List (P K)) : ins L x (a :: l) = if lt L x.lo a.lo then x :: a :: l else a :: ins L x l := by
  unfold ins
  rw [List.takeWhile_cons, List.dropWhile_cons]
  cases lt L x.lo a.lo <;> simp
theorem srt_ins : ∀ {l : List (P K)} (x : P K), Srt L l → Srt L (ins L x l)
  | [], x, _ => ⟨fun y hy => by simp at hy, trivial⟩
  | a :: l, x, h => by
    rw [ins_cons]
    split
    · rename_i h1
      refine ⟨fun y hy => ?_, h⟩
      rcases List.mem_cons.1 hy with rfl | hy
      · exact le_of_lt L h1
      · exact L.trans _ _ _ (le_of_lt L h1) (h.1 y hy)
    · rename_i h1
      refine ⟨fun y hy => ?_, srt_ins x h.2⟩
      rcases (mem_ins L).1 hy with rfl | hy
      · unfold lt at h1; revert h1; cases L.le a.lo y.lo <;> simp
      · exact h.1 y hy
theorem Mem_ins {z : K} {x : P K} {l : List (P K)} : Mem L z (ins L x l) = (mem L z x || Mem L z l) := by
  unfold ins
  have h := List.takeWhile_append_dropWhile (p := fun y => !lt L x.lo y.lo) (l := l)
  conv => rhs; rw [← h]
  rw [Mem_app, Mem_cons, Mem_app]
  cases Mem L z (l.takeWhile fun y => !lt L x.lo y.lo) <;> cases mem L z x <;> simp
theorem len_ins {x : P K} {l : List (P K)} : (ins L x l).length = l.length + 1 := by
  unfold ins
  have h := congrArg List.length (List.takeWhile_append_dropWhile (p := fun y => !lt L x.lo y.lo) (l := l))
  rw [List.length_append] at h
  rw [List.length_append, List.length_cons]; omega
theorem srt_gen : ∀ (l r : List (P K)), Srt L r → Srt L (l.foldl (fun r x => ins L x r) r) ∧ (∀ z, Mem L z (l.foldl (fun r x => ins L x r) r) = (Mem L z r || Mem L z l)) ∧
    (l.foldl (fun r x => ins L x r) r).length = r.length + l.length ∧ ∀ y, y ∈ l.foldl (fun r x => ins L x r) r ↔ y ∈ r ∨ y ∈ l
  | [], r, h => ⟨h, fun z => by simp [Mem_nil], rfl, fun y => by simp⟩
  | x :: l, r, h => by
    obtain ⟨h1, h2, h3, h4⟩ := srt_gen l (ins L x r) (srt_ins L x h)
    refine ⟨h1, fun z => ?_, ?_, fun y => ?_⟩
    · rw [List.foldl_cons, h2, Mem_ins, Mem_cons]; cases Mem L z r <;> cases mem L z x <;> simp
    · rw [List.foldl_cons, h3, len_ins, List.length_cons]; omega
    · rw [List.foldl_cons, h4, mem_ins, List.mem_cons]
      constructor
      · rintro ((h | h) | h)
        · exact Or.inr (Or.inl h)
        · exact Or.inl h
        · exact Or.inr (Or.inr h)
      · rintro (h | h | h)
        · exact Or.inl (Or.inr h)
        · exact Or.inl (Or.inl h)
        · exact Or.inr h
theorem srt_srt (l : List (P K)) : Srt L (srt L l) := (srt_gen L l [] trivial).1
theorem Mem_srt (l : List (P K)) (z : K) : Mem L z (srt L l) = Mem L z l := by have := (srt_gen L l [] trivial).2.1 z; rw [Mem_nil, Bool.false_or] at this; exact this
theorem len_srt (l : List (P K)) : (srt L l).length = l.length := by have := (srt_gen L l [] trivial).2.2.1; unfold srt; simpa using this
theorem mem_srt (l : List (P K)) (y : P K) : y ∈ srt L l ↔ y ∈ l := by have := (srt_gen L l [] trivial).2.2.2 y; unfold srt; simpa using this
def up (a b : K) : K := if lt L a b then b else a
def mrg (c : P K) : List (P K) → List (P K)
  | [] => [c]
  | r :: t => if L.le r.lo c.hi then mrg { c with hi := up L c.hi r.hi } t else c :: mrg r t
theorem up_le (a b : K) : L.le a (up L a b) = true ∧ L.le b (up L a b) = true := by
  unfold up
  split
  · rename_i h; exact ⟨le_of_lt L h, le_refl L _⟩
  · rename_i h
    refine ⟨le_refl L _, ?_⟩
    unfold lt at h; revert h; cases L.le b a <;> simp
theorem mrg_head (c : P K) (t : List (P K)) : ∃ a u, mrg L c t = a :: u ∧ a.lo = c.lo := by
  induction t generalizing c with
  | nil => exact ⟨c, [], rfl, rfl⟩
  | cons r t ih =>
    unfold mrg
    split
    · obtain ⟨a, u, h1, h2⟩ := ih { c with hi := up L c.hi r.hi }
      exact ⟨a, u, h1, h2⟩
    · exact ⟨c, _, rfl, rfl⟩
theorem mrg_nrm : ∀ (t : List (P K)) (c : P K), ok L c = true → (∀ y ∈ t, ok L y = true) → Srt L (c :: t) → Nrm L (mrg L c t)
  | [], c, h, _, _ => h
  | r :: t, c, h, hall, hs => by
    unfold mrg
    split
    · refine mrg_nrm t _ ?_ (fun y hy => hall y (List.mem_cons_of_mem _ hy)) ⟨fun y hy => hs.1 y (List.mem_cons_of_mem _ hy), hs.2.2⟩
      exact lt_of_lt_of_le L h (up_le L c.hi r.hi).1
    · rename_i h1
      have hr := hall r (List.mem_cons_self ..)
      have ih := mrg_nrm t r hr (fun y hy => hall y (List.mem_cons_of_mem _ hy)) hs.2
      obtain ⟨a, u, e, ha⟩ := mrg_head L r t
      rw [e] at ih ⊢
      refine ⟨h, ?_, ih⟩
      rw [ha]; exact not_le L h1
theorem mrg_mem : ∀ (t : List (P K)) (c : P K) (z : K), (∀ y ∈ t, L.le c.lo y.lo = true) → Srt L t → Mem L z (mrg L c t) = (mem L z c || Mem L z t)
  | [], c, z, _, _ => by unfold mrg; rw [Mem_cons, Mem_nil]
  | r :: t, c, z, hle, hs => by
    unfold mrg
    split
    · rename_i h1
      have hcr := hle r (List.mem_cons_self ..)
      rw [mrg_mem t { c with hi := up L c.hi r.hi } z (fun y hy => hle y (List.mem_cons_of_mem _ hy)) hs.2, Mem_cons]
      have e : mem L z { c with hi := up L c.hi r.hi } = (mem L z c || mem L z r) := by
        rw [Bool.eq_iff_iff, Bool.or_eq_true, mem_iff, mem_iff, mem_iff]
        constructor
        · rintro ⟨g1, g2⟩
          rcases lt_or_le L z c.hi with g3 | g3
          · exact Or.inl ⟨g1, g3⟩
          · right
            refine ⟨L.trans _ _ _ h1 g3, ?_⟩
            have g2' : lt L z (up L c.hi r.hi) = true := g2
            unfold up at g2'
            split at g2'
            · exact g2'
            · exact absurd g3 ((lt_iff L).1 g2')
        · rintro (⟨g1, g2⟩ | ⟨g1, g2⟩)
          · exact ⟨g1, lt_of_lt_of_le L g2 (up_le L c.hi r.hi).1⟩
          · exact ⟨L.trans _ _ _ hcr g1, lt_of_lt_of_le L g2 (up_le L c.hi r.hi).2⟩
      rw [e, Bool.or_assoc]
    · rw [Mem_cons, mrg_mem t r z hs.1 hs.2, Mem_cons]
theorem mrg_len : ∀ (t : List (P K)) (c : P K), (mrg L c t).length ≤ t.length + 1
  | [], c => by simp [mrg]
  | r :: t, c => by
    unfold mrg
    split
    · have := mrg_len t { c with hi := up L c.hi r.hi }; simp; omega
    · have := mrg_len t r; simp; omega
/-- Pieces as a row in normal form. -/
def joinK (l : List (P K)) : List (P K) := match srt L l with | [] => [] | a :: t => mrg L a t
theorem joinK_spec (l : List (P K)) (h : ∀ y ∈ l, ok L y = true) : Nrm L (joinK L l) ∧ (∀ z, Mem L z (joinK L l) = Mem L z l) ∧ (joinK L l).length ≤ l.length := by
  have h1 := srt_srt L l
  have h2 := Mem_srt L l
  have h3 := len_srt L l
  have h4 := mem_srt L l
  unfold joinK
  cases hs : srt L l with
  | nil =>
    rw [hs] at h2 h3
    exact ⟨trivial, h2, by simp⟩
  | cons a t =>
    rw [hs] at h1 h2 h3 h4
    refine ⟨mrg_nrm L t a (h a ((h4 a).1 (List.mem_cons_self ..))) (fun y hy => h y ((h4 y).1 (List.mem_cons_of_mem _ hy))) h1, fun z => ?_, ?_⟩
    · rw [mrg_mem L t a z h1.1 h1.2, ← Mem_cons, h2]
    · have := mrg_len L t a
      rw [← h3, List.length_cons]; exact this

/-! Both. -/
def meet (a b : P K) : P K := { lo := if lt L a.lo b.lo then b.lo else a.lo, hi := if lt L b.hi a.hi then b.hi else a.hi }
theorem mem_meet (x : K) (a b : P K) : mem L x (meet L a b) = (mem L x a && mem L x b) := by
  rw [Bool.eq_iff_iff, Bool.and_eq_true, mem_iff, mem_iff, mem_iff]
  unfold meet
  constructor
  · rintro ⟨g1, g2⟩
    have g1' : L.le (if lt L a.lo b.lo then b.lo else a.lo) x = true := g1
    have g2' : lt L x (if lt L b.hi a.hi then b.hi else a.hi) = true := g2
    have l1 : L.le a.lo x = true ∧ L.le b.lo x = true := by
      split at g1'
      · rename_i h; exact ⟨L.trans _ _ _ (le_of_lt L h) g1', g1'⟩
      · rename_i h
        refine ⟨g1', ?_⟩
        have : L.le b.lo a.lo = true := by unfold lt at h; revert h; cases L.le b.lo a.lo <;> simp
        exact L.trans _ _ _ this g1'
    have l2 : lt L x a.hi = true ∧ lt L x b.hi = true := by
      split at g2'
      · rename_i h; exact ⟨lt_of_lt_of_le L g2' (le_of_lt L h), g2'⟩
      · rename_i h
        refine ⟨g2', ?_⟩
        have : L.le a.hi b.hi = true := by unfold lt at h; revert h; cases L.le a.hi b.hi <;> simp
        exact lt_of_lt_of_le L g2' this
    exact ⟨⟨l1.1, l2.1⟩, l1.2, l2.2⟩
  · rintro ⟨⟨g1, g2⟩, g3, g4⟩
    refine ⟨?_, ?_⟩
    · show L.le (if lt L a.lo b.lo then b.lo else a.lo) x = true
      split
      · exact g3
      · exact g1
    · show lt L x (if lt L b.hi a.hi then b.hi else a.hi) = true
      split
      · exact g4
      · exact g2
def pairs (a b : List (P K)) : List (P K) := a.flatMap fun x => (b.map (meet L x)).filter (ok L)
def andK (a b : List (P K)) : List (P K) := joinK L (pairs L a b)
theorem not_ok_mem {p : P K} (h : ok L p = false) (x : K) : mem L x p = false := by
  rw [Bool.eq_false_iff]; intro hx
  obtain ⟨h1, h2⟩ := (mem_iff L).1 hx
  have := lt_of_le_of_lt L h1 h2
  unfold ok at h; rw [h] at this; cases this
theorem Mem_filter (x : K) (l : List (P K)) : Mem L x (l.filter (ok L)) = Mem L x l := by
  induction l with
  | nil => rfl
  | cons a l ih =>
    rw [List.filter_cons]
    cases h : ok L a
    · rw [if_neg Bool.false_ne_true, ih, Mem_cons, not_ok_mem L h, Bool.false_or]
    · rw [if_pos rfl, Mem_cons, Mem_cons, ih]
theorem Mem_meets (x : K) (p : P K) (b : List (P K)) : Mem L x (b.map (meet L p)) = (mem L x p && Mem L x b) := by
  induction b with
  | nil => simp [Mem_nil]
  | cons c b ih => rw [List.map_cons, Mem_cons, Mem_cons, ih, mem_meet]; cases mem L x p <;> simp
theorem Mem_pairs (x : K) (a b : List (P K)) : Mem L x (pairs L a b) = (Mem L x a && Mem L x b) := by
  induction a with
  | nil => rfl
  | cons p a ih =>
    unfold pairs at *
    rw [List.flatMap_cons, Mem_app, Mem_filter, Mem_meets, ih, Mem_cons]
    cases mem L x p <;> cases Mem L x a <;> simp
theorem ok_pairs (a b : List (P K)) : ∀ y ∈ pairs L a b, ok L y = true := by
  intro y hy
  unfold pairs at hy
  rw [List.mem_flatMap] at hy
  obtain ⟨x, _, hx⟩ := hy
  exact (List.mem_filter.1 hx).2
theorem andK_spec (a b : List (P K)) : Nrm L (andK L a b) ∧ ∀ z, Mem L z (andK L a b) = (Mem L z a && Mem L z b) := by
  obtain ⟨h1, h2, _⟩ := joinK_spec L (pairs L a b) (ok_pairs L a b)
  exact ⟨h1, fun z => by unfold andK; rw [h2, Mem_pairs]⟩
theorem nrm_all_ok : ∀ {l : List (P K)}, Nrm L l → ∀ y ∈ l, ok L y = true
  | [], _, y, hy => by cases hy
  | a :: l, h, y, hy => by
    rcases List.mem_cons.1 hy with rfl | hy
    · exact nrm_ok L h
    · exact nrm_all_ok (nrm_tail L h) y hy
/-! Either. -/
def orK (a b : List (P K)) : List (P K) := joinK L (a ++ b)
theorem orK_spec (a b : List (P K)) (ha : Nrm L a) (hb : Nrm L b) : Nrm L (orK L a b) ∧ (∀ z, Mem L z (orK L a b) = (Mem L z a || Mem L z b)) ∧ (orK L a b).length ≤ a.length + b.length := by
  obtain ⟨h1, h2, h3⟩ := joinK_spec L (a ++ b) (fun y hy => by
    rcases List.mem_append.1 hy with h | h
    · exact nrm_all_ok L ha y h
    · exact nrm_all_ok L hb y h)
  rw [List.length_append] at h3
  exact ⟨h1, fun z => by unfold orK; rw [h2, Mem_app], h3⟩
/-! None. -/
def notF (c : K) : List (P K) → List (P K)
  | [] => if lt L c L.top then [{ lo := c, hi := L.top }] else []
  | p :: t => if lt L L.bot p.lo then { lo := c, hi := p.lo } :: notF p.hi t else notF p.hi t
def notK (r : List (P K)) : List (P K) := notF L L.bot r
/-- What lies from c on and in none of r. -/
theorem notF_spec : ∀ (r : List (P K)) (c : K), Nrm L r → (∀ a t, r = a :: t → lt L c a.lo = true) → lt L c L.top = true ∨ r = [] →
    Nrm L (notF L c r) ∧ (∀ z, lt L z L.top = true → Mem L z (notF L c r) = (L.le c z && !Mem L z r)) ∧ (notF L c r).length ≤ r.length + 1 ∧
    (∀ a t, notF L c r = a :: t → a.lo = c)
  | [], c, _, _, _ => by
    unfold notF
    cases h : lt L c L.top
    · refine ⟨trivial, fun z hz => ?_, by simp, fun a t e => by simp at e⟩
      have h1 : L.le c z = false := by
        rw [Bool.eq_false_iff]; intro h2
        have := lt_of_le_of_lt L h2 hz
        rw [h] at this; cases this
      rw [h1]; simp [Mem_nil]
    · refine ⟨h, fun z hz => ?_, by simp, fun a t e => ?_⟩
      · simp only [Mem_cons, Mem_nil, mem, hz, if_true]; simp
      · simp only [if_true, List.cons.injEq] at e; rw [← e.1]
  | p :: t, c, hn, hc, _ => by
    have hp := nrm_ok L hn
    have hcp := hc p t rfl
    have hb : lt L L.bot p.lo = true := lt_of_le_of_lt L (L.least c) hcp
    have ht := nrm_tail L hn
    have hnext : ∀ a u, t = a :: u → lt L p.hi a.lo = true := fun a u e => by subst e; exact hn.2.1
    have hd : lt L p.hi L.top = true ∨ t = [] := by
      cases t with
      | nil => exact Or.inr rfl
      | cons a u => exact Or.inl (lt_of_lt_of_le L hn.2.1 (L.most _))
    obtain ⟨i1, i2, i3, i4⟩ := notF_spec t p.hi ht hnext hd
    unfold notF
    rw [hb, if_pos rfl]
    refine ⟨?_, fun z hz => ?_, by rw [List.length_cons, List.length_cons]; omega, fun a u e => by simp only [List.cons.injEq] at e; rw [← e.1]⟩
    · cases e : notF L p.hi t with
      | nil => exact hcp
      | cons a u =>
        refine ⟨hcp, ?_, e ▸ i1⟩
        rw [i4 a u e]; exact hp
    · rw [Mem_cons, i2 z hz, Mem_cons]
      unfold mem
      rcases lt_or_le L z p.lo with g | g
      · have g1 : L.le p.lo z = false := by rw [Bool.eq_false_iff]; exact (lt_iff L).1 g
        have g2 : L.le p.hi z = false := by
          rw [Bool.eq_false_iff]; intro g3
          exact (lt_iff L).1 (lt_of_lt_of_le L hp g3) (le_of_lt L g)
        have g3 : Mem L z t = false := by
          rw [Bool.eq_false_iff]; intro g4
          have := nrm_above L hn z g4
          rw [(show L.le p.hi z = true from le_of_lt L this)] at g2; cases g2
        rw [g, g1, g2, g3]; simp
      · have g1 : lt L z p.lo = false := by unfold lt; rw [g]; rfl
        have g2 : L.le c z = true := L.trans _ _ _ (le_of_lt L hcp) g
        rw [g1, g, g2]
        have g4 : (L.le p.hi z) = !lt L z p.hi := by unfold lt; simp
        rw [g4]; cases lt L z p.hi <;> simp
theorem notF_bot (p : P K) (t : List (P K)) (hn : Nrm L (p :: t)) (hb : lt L L.bot p.lo = false) : p.lo = L.bot ∧ notK L (p :: t) = notF L p.hi t ∧
    (∀ a u, t = a :: u → lt L p.hi a.lo = true) ∧ (lt L p.hi L.top = true ∨ t = []) := by
  refine ⟨?_, ?_, fun a u e => by subst e; exact hn.2.1, ?_⟩
  · refine L.anti _ _ ?_ (L.least _)
    unfold lt at hb; revert hb; cases L.le p.lo L.bot <;> simp
  · unfold notK
    conv => lhs; unfold notF
    rw [hb, if_neg Bool.false_ne_true]
  · cases t with
    | nil => exact Or.inr rfl
    | cons a u => exact Or.inl (lt_of_lt_of_le L hn.2.1 (L.most _))
theorem notK_spec (r : List (P K)) (hn : Nrm L r) (hbt : lt L L.bot L.top = true) : Nrm L (notK L r) ∧ (∀ z, lt L z L.top = true → Mem L z (notK L r) = !Mem L z r) ∧
    (notK L r).length ≤ r.length + 1 := by
  cases r with
  | nil =>
    obtain ⟨h1, h2, h3, _⟩ := notF_spec L [] L.bot trivial (fun _ _ e => by cases e) (Or.inr rfl)
    refine ⟨h1, fun z hz => ?_, h3⟩
    unfold notK; rw [h2 z hz, L.least]; rfl
  | cons p t =>
    cases hb : lt L L.bot p.lo
    · obtain ⟨e, e1, e2, e3⟩ := notF_bot L p t hn hb
      obtain ⟨h1, h2, h3, _⟩ := notF_spec L t p.hi (nrm_tail L hn) e2 e3
      rw [e1]
      refine ⟨h1, fun z hz => ?_, by rw [List.length_cons]; omega⟩
      rw [h2 z hz, Mem_cons]
      unfold mem
      rw [e, L.least]
      have g4 : (L.le p.hi z) = !lt L z p.hi := by unfold lt; simp
      rw [g4]; cases lt L z p.hi <;> simp
    · obtain ⟨h1, h2, h3, _⟩ := notF_spec L (p :: t) L.bot hn (fun a u e => by cases e; exact hb) (Or.inl hbt)
      refine ⟨h1, fun z hz => ?_, h3⟩
      unfold notK; rw [h2 z hz, L.least]; rfl

/-! How many pieces both can hold. -/
def hisIn (l : List (P K)) (hs : List K) : Prop := ∀ y ∈ l, y.hi ∈ hs
theorem hisIn_mrg : ∀ (t : List (P K)) (c : P K) (hs : List K), c.hi ∈ hs → hisIn t hs → hisIn (mrg L c t) hs
  | [], c, hs, h, _ => fun y hy => by unfold mrg at hy; rw [List.mem_singleton] at hy; rw [hy]; exact h
  | r :: t, c, hs, h, ht => by
    have hr := ht r (List.mem_cons_self ..)
    have ht' : hisIn t hs := fun y hy => ht y (List.mem_cons_of_mem _ hy)
    unfold mrg
    split
    · refine hisIn_mrg t _ hs ?_ ht'
      show up L c.hi r.hi ∈ hs
      unfold up; split
      · exact hr
      · exact h
    · intro y hy
      rcases List.mem_cons.1 hy with rfl | hy
      · exact h
      · exact hisIn_mrg t r hs hr ht' y hy
theorem hisIn_join (l : List (P K)) (hs : List K) (h : hisIn l hs) : hisIn (joinK L l) hs := by
  unfold joinK
  cases e : srt L l with
  | nil => intro y hy; cases hy
  | cons a t =>
    have h4 : ∀ y ∈ a :: t, y.hi ∈ hs := fun y hy => h y ((mem_srt L l y).1 (by rw [e]; exact hy))
    exact hisIn_mrg L t a hs (h4 a (List.mem_cons_self ..)) (fun y hy => h4 y (List.mem_cons_of_mem _ hy))
theorem hisIn_pairs (a b : List (P K)) : hisIn (pairs L a b) (a.map (·.hi) ++ b.map (·.hi)) := by
  intro y hy
  unfold pairs at hy
  rw [List.mem_flatMap] at hy
  obtain ⟨x, hx, hy⟩ := hy
  obtain ⟨w, hw, rfl⟩ := List.mem_map.1 (List.mem_filter.1 hy).1
  rw [List.mem_append]
  show (if lt L w.hi x.hi then w.hi else x.hi) ∈ _ ∨ (if lt L w.hi x.hi then w.hi else x.hi) ∈ _
  split
  · exact Or.inr (List.mem_map.2 ⟨w, hw, rfl⟩)
  · exact Or.inl (List.mem_map.2 ⟨x, hx, rfl⟩)
/-- The ends of a row in normal form are all different, so there are no more than those that they are taken of. -/
theorem nrm_hi_lt : ∀ {l : List (P K)} {a : P K}, Nrm L (a :: l) → ∀ y ∈ l, lt L a.hi y.hi = true
  | [], _, _, y, hy => by cases hy
  | b :: t, a, h, y, hy => by
    have hb := nrm_ok L h.2.2
    have h1 : lt L a.hi b.hi = true := lt_of_lt_of_le L h.2.1 (le_of_lt L hb)
    rcases List.mem_cons.1 hy with rfl | hy
    · exact h1
    · exact lt_of_lt_of_le L h1 (le_of_lt L (nrm_hi_lt h.2.2 y hy))
theorem len_erase [DecidableEq K] (hs : List K) (x : K) (h : x ∈ hs) : (hs.erase x).length + 1 = hs.length := by
  rw [List.length_erase_of_mem h]
  have := List.length_pos_of_mem h
  omega
theorem nrm_len [DecidableEq K] : ∀ (l : List (P K)) (hs : List K), Nrm L l → hisIn l hs → l.length ≤ hs.length
  | [], _, _, _ => Nat.zero_le _
  | a :: l, hs, h, hi => by
    have ha := hi a (List.mem_cons_self ..)
    have ih := nrm_len l (hs.erase a.hi) (nrm_tail L h) (fun y hy => by
      have h1 := hi y (List.mem_cons_of_mem _ hy)
      refine (List.mem_erase_of_ne ?_).2 h1
      intro e
      have h2 := nrm_hi_lt L h y hy
      rw [e] at h2
      exact not_lt_self L _ h2)
    have := len_erase hs a.hi ha
    rw [List.length_cons]; omega
theorem andK_len [DecidableEq K] (a b : List (P K)) : (andK L a b).length ≤ a.length + b.length := by
  have h := nrm_len L (andK L a b) _ (andK_spec L a b).1 (hisIn_join L _ _ (hisIn_pairs L a b))
  rw [List.length_append, List.length_map, List.length_map] at h
  exact h
end
end Go.Proofs.YtkdildgdodnbbaaGreatDoor.Rm
namespace Go.Proofs.YtkdildgdodnbbaaGreatDoor.Rm
section
variable {K : Type} (L : Line K)
def all1 : List (P K) := [{ lo := L.bot, hi := L.top }]
theorem nrm_ext {l m : List (P K)} (hl : Nrm L l) (hm : Nrm L m) (h : ∀ x, lt L x L.top = true → Mem L x l = Mem L x m) : l = m := nrm_unique L l m hl hm h
theorem mem_all {x : K} (h : lt L x L.top = true) : Mem L x (all1 L) = true := by
  unfold all1; rw [Mem_cons, Mem_nil]; unfold mem; rw [L.least, h]; rfl
theorem nrm_all (hbt : lt L L.bot L.top = true) : Nrm L (all1 L) := hbt
theorem not_not (hbt : lt L L.bot L.top = true) {r : List (P K)} (h : Nrm L r) : notK L (notK L r) = r := by
  obtain ⟨h1, h2, _⟩ := notK_spec L r h hbt
  obtain ⟨h3, h4, _⟩ := notK_spec L (notK L r) h1 hbt
  exact nrm_ext L h3 h fun x hx => by rw [h4 x hx, h2 x hx, Bool.not_not]
theorem not_or (hbt : lt L L.bot L.top = true) {p q : List (P K)} (hp : Nrm L p) (hq : Nrm L q) : andK L (notK L p) (notK L q) = notK L (orK L p q) := by
  obtain ⟨p1, p2, _⟩ := notK_spec L p hp hbt
  obtain ⟨q1, q2, _⟩ := notK_spec L q hq hbt
  obtain ⟨o1, o2, _⟩ := orK_spec L p q hp hq
  obtain ⟨n1, n2, _⟩ := notK_spec L _ o1 hbt
  obtain ⟨a1, a2⟩ := andK_spec L (notK L p) (notK L q)
  exact nrm_ext L a1 n1 fun x hx => by rw [a2, n2 x hx, o2, p2 x hx, q2 x hx, Bool.not_or]
theorem or_not (hbt : lt L L.bot L.top = true) {p : List (P K)} (hp : Nrm L p) : orK L p (notK L p) = all1 L := by
  obtain ⟨p1, p2, _⟩ := notK_spec L p hp hbt
  obtain ⟨o1, o2, _⟩ := orK_spec L p _ hp p1
  exact nrm_ext L o1 (nrm_all L hbt) fun x hx => by rw [o2, p2 x hx, mem_all L hx, Bool.or_not_self]
theorem and_not (hbt : lt L L.bot L.top = true) {p : List (P K)} (hp : Nrm L p) : andK L p (notK L p) = [] := by
  obtain ⟨p1, p2, _⟩ := notK_spec L p hp hbt
  obtain ⟨a1, a2⟩ := andK_spec L p (notK L p)
  exact nrm_ext L a1 trivial fun x hx => by rw [a2, p2 x hx, Bool.and_not_self, Mem_nil]
theorem and_comm (p q : List (P K)) : andK L p q = andK L q p := by
  obtain ⟨a1, a2⟩ := andK_spec L p q
  obtain ⟨b1, b2⟩ := andK_spec L q p
  exact nrm_ext L a1 b1 fun x _ => by rw [a2, b2, Bool.and_comm]
theorem or_self {p : List (P K)} (hp : Nrm L p) : orK L p p = p := by
  obtain ⟨o1, o2, _⟩ := orK_spec L p p hp hp
  exact nrm_ext L o1 hp fun x _ => by rw [o2, Bool.or_self]
theorem and_assoc (p q s : List (P K)) : andK L (andK L p q) s = andK L p (andK L q s) := by
  obtain ⟨a1, a2⟩ := andK_spec L p q
  obtain ⟨b1, b2⟩ := andK_spec L q s
  obtain ⟨c1, c2⟩ := andK_spec L (andK L p q) s
  obtain ⟨d1, d2⟩ := andK_spec L p (andK L q s)
  exact nrm_ext L c1 d1 fun x _ => by rw [c2, d2, a2, b2, Bool.and_assoc]
theorem or_assoc {p q s : List (P K)} (hp : Nrm L p) (hq : Nrm L q) (hs : Nrm L s) : orK L (orK L p q) s = orK L p (orK L q s) := by
  obtain ⟨a1, a2, _⟩ := orK_spec L p q hp hq
  obtain ⟨b1, b2, _⟩ := orK_spec L q s hq hs
  obtain ⟨c1, c2, _⟩ := orK_spec L _ s a1 hs
  obtain ⟨d1, d2, _⟩ := orK_spec L p _ hp b1
  exact nrm_ext L c1 d1 fun x _ => by rw [c2, d2, a2, b2, Bool.or_assoc]
theorem and_or {p q s : List (P K)} (hq : Nrm L q) (hs : Nrm L s) : andK L p (orK L q s) = orK L (andK L p q) (andK L p s) := by
  obtain ⟨a1, a2, _⟩ := orK_spec L q s hq hs
  obtain ⟨b1, b2⟩ := andK_spec L p (orK L q s)
  obtain ⟨c1, c2⟩ := andK_spec L p q
  obtain ⟨d1, d2⟩ := andK_spec L p s
  obtain ⟨e1, e2, _⟩ := orK_spec L _ _ c1 d1
  exact nrm_ext L b1 e1 fun x _ => by rw [b2, a2, e2, c2, d2, Bool.and_or_distrib_left]
/-- A row in normal form, joined again, is itself. -/
theorem join_self {r : List (P K)} (h : Nrm L r) : joinK L r = r := by
  obtain ⟨h1, h2, _⟩ := joinK_spec L r (fun y hy => nrm_all_ok L h y hy)
  exact nrm_ext L h1 h fun x _ => h2 x
/-- Pieces in any order are one row. -/
theorem join_same {l m : List (P K)} (hl : ∀ y ∈ l, ok L y = true) (hm : ∀ y ∈ m, ok L y = true) (h : ∀ y, y ∈ l ↔ y ∈ m) : joinK L l = joinK L m := by
  obtain ⟨h1, h2, _⟩ := joinK_spec L l hl
  obtain ⟨h3, h4, _⟩ := joinK_spec L m hm
  refine nrm_ext L h1 h3 fun x _ => ?_
  rw [h2, h4, Bool.eq_iff_iff]
  unfold Mem
  rw [List.any_eq_true, List.any_eq_true]
  constructor
  · rintro ⟨y, hy, hx⟩; exact ⟨y, (h y).1 hy, hx⟩
  · rintro ⟨y, hy, hx⟩; exact ⟨y, (h y).2 hy, hx⟩
end
end Go.Proofs.YtkdildgdodnbbaaGreatDoor.Rm
namespace Go.Proofs.YtkdildgdodnbbaaGreatDoor.Rm
section
variable {K : Type} (L : Line K)

/-- Is a place in what begins and ends by turns at these cuts? -/
def inC : List K → Bool → K → Bool
  | [], p, _ => p
  | c :: t, p, x => if L.le c x then inC t (!p) x else p
def Asc : List K → Prop
  | [] => True
  | [_] => True
  | a :: b :: t => lt L a b = true ∧ Asc (b :: t)
theorem asc_tail {a : K} {l : List K} (h : Asc L (a :: l)) : Asc L l := by cases l with
  | nil => trivial
  | cons b t => exact h.2
theorem asc_head : ∀ {l : List K} {a : K}, Asc L (a :: l) → ∀ y ∈ l, lt L a y = true
  | [], _, _, y, hy => by cases hy
  | b :: t, a, h, y, hy => by
    rcases List.mem_cons.1 hy with rfl | hy
    · exact h.1
    · exact lt_of_lt_of_le L h.1 (le_of_lt L (asc_head h.2 y hy))
theorem asc_mk {a : K} {l : List K} (h : Asc L l) (ha : ∀ y ∈ l, lt L a y = true) : Asc L (a :: l) := by cases l with
  | nil => trivial
  | cons b t => exact ⟨ha b (List.mem_cons_self ..), h⟩
theorem inC_above {l : List K} {p : Bool} {x : K} (h : ∀ y ∈ l, L.le y x = false) : inC L l p x = p := by
  cases l with
  | nil => rfl
  | cons a t => unfold inC; rw [h a (List.mem_cons_self ..)]; rfl
theorem inC_in {c x : K} {l : List K} {p : Bool} (h : L.le c x = true) : inC L (c :: l) p x = inC L l (!p) x := by
  show (if L.le c x = true then inC L l (!p) x else p) = _
  rw [if_pos h]
/-- The walk. -/
def comb (op : Bool → Bool → Bool) : List K → List K → Bool → Bool → List K
  | [], [], _, _ => []
  | c :: a, [], pa, pb => (if op (!pa) pb != op pa pb then [c] else []) ++ comb op a [] (!pa) pb
  | [], d :: b, pa, pb => (if op pa (!pb) != op pa pb then [d] else []) ++ comb op [] b pa (!pb)
  | c :: a, d :: b, pa, pb =>
    if lt L c d then (if op (!pa) pb != op pa pb then [c] else []) ++ comb op a (d :: b) (!pa) pb
    else if lt L d c then (if op pa (!pb) != op pa pb then [d] else []) ++ comb op (c :: a) b pa (!pb)
    else (if op (!pa) (!pb) != op pa pb then [c] else []) ++ comb op a b (!pa) (!pb)
termination_by a b => a.length + b.length
theorem comb_mem (op : Bool → Bool → Bool) (a b : List K) (pa pb : Bool) : ∀ y ∈ comb L op a b pa pb, y ∈ a ∨ y ∈ b := by
  fun_induction comb L op a b pa pb with
  | case1 => intro y hy; cases hy
  | case2 c a pa pb ih =>
    intro y hy
    rcases List.mem_append.1 hy with h | h
    · split at h
      · rw [List.mem_singleton] at h; subst h; simp
      · cases h
    · rcases ih y h with h | h <;> simp [h]
  | case3 d b pa pb ih =>
    intro y hy
    rcases List.mem_append.1 hy with h | h
    · split at h
      · rw [List.mem_singleton] at h; subst h; simp
      · cases h
    · rcases ih y h with h | h <;> simp [h]
  | case4 c a d b pa pb hc ih =>
    intro y hy
    rcases List.mem_append.1 hy with h | h
    · split at h
      · rw [List.mem_singleton] at h; subst h; simp
      · cases h
    · rcases ih y h with h | h
      · simp [h]
      · exact Or.inr h
  | case5 c a d b pa pb hc hd ih =>
    intro y hy
    rcases List.mem_append.1 hy with h | h
    · split at h
      · rw [List.mem_singleton] at h; subst h; simp
      · cases h
    · rcases ih y h with h | h
      · exact Or.inl h
      · simp [h]
  | case6 c a d b pa pb hc hd ih =>
    intro y hy
    rcases List.mem_append.1 hy with h | h
    · split at h
      · rw [List.mem_singleton] at h; subst h; simp
      · cases h
    · rcases ih y h with h | h <;> simp [h]
theorem lt_out {c x y : K} (h : lt L c y = true) (hx : L.le c x = false) : L.le y x = false := by
  rw [Bool.eq_false_iff]
  intro h2
  have := le_of_lt L (lt_of_lt_of_le L h h2)
  rw [hx] at this; cases this
theorem le_out {c x y : K} (h : L.le c y = true) (hx : L.le c x = false) : L.le y x = false := by
  rw [Bool.eq_false_iff]
  intro h2
  have := L.trans _ _ _ h h2
  rw [hx] at this; cases this
/-- One cut of the walk: what stands behind it is above it. -/
theorem comb_one {c x : K} {p q r : Bool} {l : List K} (hl : ∀ y ∈ l, lt L c y = true) (hx : L.le c x = true → inC L l q x = r) (h0 : L.le c x = false → p = r) :
    inC L ((if q != p then [c] else []) ++ l) p x = r := by
  cases hc : L.le c x
  · have hr := h0 hc
    subst hr
    apply inC_above
    intro y hy
    rcases List.mem_append.1 hy with h | h
    · split at h
      · rw [List.mem_singleton] at h; subst h; exact hc
      · cases h
    · exact lt_out L (hl y h) hc
  · have hr := hx hc
    cases hq : q != p
    · have e : q = p := by simpa using hq
      subst e
      rw [if_neg Bool.false_ne_true]; exact hr
    · have e : (!p) = q := by cases p <;> cases q <;> first | rfl | (simp at hq)
      rw [if_pos rfl]
      show inC L (c :: l) p x = r
      unfold inC; rw [hc, if_pos rfl, e]; exact hr
theorem comb_asc_one {c : K} {b : Bool} {l : List K} (hl : ∀ y ∈ l, lt L c y = true) (h : Asc L l) : Asc L ((if b then [c] else []) ++ l) := by
  cases b
  · exact h
  · exact asc_mk L h hl
theorem comb_spec (op : Bool → Bool → Bool) (a b : List K) (pa pb : Bool) : Asc L a → Asc L b → Asc L (comb L op a b pa pb) ∧ ∀ x, inC L (comb L op a b pa pb) (op pa pb) x = op (inC L a pa x) (inC L b pb x) := by
  fun_induction comb L op a b pa pb with
  | case1 => intro _ _; exact ⟨trivial, fun x => rfl⟩
  | case2 c a pa pb ih =>
    intro ha hb
    obtain ⟨h1, h2⟩ := ih (asc_tail L ha) hb
    have hl : ∀ y ∈ comb L op a [] (!pa) pb, lt L c y = true := fun y hy => by
      rcases comb_mem L op a [] _ _ y hy with h | h
      · exact asc_head L ha y h
      · cases h
    refine ⟨comb_asc_one L hl h1, fun x => comb_one L hl (fun hc => ?_) (fun hc => ?_)⟩
    · rw [h2 x, inC_in L hc]
    · rw [inC_above L (l := c :: a) (fun y hy => ?_)]; rfl
      rcases List.mem_cons.1 hy with rfl | hy
      · exact hc
      · exact lt_out L (asc_head L ha y hy) hc
  | case3 d b pa pb ih =>
    intro ha hb
    obtain ⟨h1, h2⟩ := ih ha (asc_tail L hb)
    have hl : ∀ y ∈ comb L op [] b pa (!pb), lt L d y = true := fun y hy => by
      rcases comb_mem L op [] b _ _ y hy with h | h
      · cases h
      · exact asc_head L hb y h
    refine ⟨comb_asc_one L hl h1, fun x => comb_one L hl (fun hc => ?_) (fun hc => ?_)⟩
    · rw [h2 x, inC_in L hc]
    · rw [inC_above L (l := d :: b) (fun y hy => ?_)]; rfl
      rcases List.mem_cons.1 hy with rfl | hy
      · exact hc
      · exact lt_out L (asc_head L hb y hy) hc
  | case4 c a d b pa pb hc ih =>
    intro ha hb
    obtain ⟨h1, h2⟩ := ih (asc_tail L ha) hb
    have hdb : ∀ y ∈ d :: b, lt L c y = true := fun y hy => by
      rcases List.mem_cons.1 hy with rfl | hy
      · exact hc
      · exact lt_of_lt_of_le L hc (le_of_lt L (asc_head L hb y hy))
    have hl : ∀ y ∈ comb L op a (d :: b) (!pa) pb, lt L c y = true := fun y hy => by
      rcases comb_mem L op a (d :: b) _ _ y hy with h | h
      · exact asc_head L ha y h
      · exact hdb y h
    refine ⟨comb_asc_one L hl h1, fun x => comb_one L hl (fun hcx => ?_) (fun hcx => ?_)⟩
    · rw [h2 x, inC_in L hcx]
    · rw [inC_above L (l := c :: a) (fun y hy => ?_), inC_above L (l := d :: b) (fun y hy => lt_out L (hdb y hy) hcx)]
      rcases List.mem_cons.1 hy with rfl | hy
      · exact hcx
      · exact lt_out L (asc_head L ha y hy) hcx
  | case5 c a d b pa pb hc hd ih =>
    intro ha hb
    obtain ⟨h1, h2⟩ := ih ha (asc_tail L hb)
    have hca : ∀ y ∈ c :: a, lt L d y = true := fun y hy => by
      rcases List.mem_cons.1 hy with rfl | hy
      · exact hd
      · exact lt_of_lt_of_le L hd (le_of_lt L (asc_head L ha y hy))
    have hl : ∀ y ∈ comb L op (c :: a) b pa (!pb), lt L d y = true := fun y hy => by
      rcases comb_mem L op (c :: a) b _ _ y hy with h | h
      · exact hca y h
      · exact asc_head L hb y h
    refine ⟨comb_asc_one L hl h1, fun x => comb_one L hl (fun hcx => ?_) (fun hcx => ?_)⟩
    · rw [h2 x, inC_in L hcx]
    · rw [inC_above L (l := c :: a) (fun y hy => lt_out L (hca y hy) hcx), inC_above L (l := d :: b) (fun y hy => ?_)]
      rcases List.mem_cons.1 hy with rfl | hy
      · exact hcx
      · exact lt_out L (asc_head L hb y hy) hcx
  | case6 c a d b pa pb hc hd ih =>
    intro ha hb
    obtain ⟨h1, h2⟩ := ih (asc_tail L ha) (asc_tail L hb)
    have ecd : c = d := by
      have x1 : L.le d c = true := by
        rcases lt_or_le L c d with h | h
        · exact absurd h hc
        · exact h
      have x2 : L.le c d = true := by
        rcases lt_or_le L d c with h | h
        · exact absurd h hd
        · exact h
      exact L.anti _ _ x2 x1
    subst ecd
    have hl : ∀ y ∈ comb L op a b (!pa) (!pb), lt L c y = true := fun y hy => by
      rcases comb_mem L op a b _ _ y hy with h | h
      · exact asc_head L ha y h
      · exact asc_head L hb y h
    refine ⟨comb_asc_one L hl h1, fun x => comb_one L hl (fun hcx => ?_) (fun hcx => ?_)⟩
    · rw [h2 x, inC_in L hcx, inC_in L hcx]
    · rw [inC_above L (l := c :: a) (fun y hy => ?_), inC_above L (l := c :: b) (fun y hy => ?_)]
      · rcases List.mem_cons.1 hy with rfl | hy
        · exact hcx
        · exact lt_out L (asc_head L hb y hy) hcx
      · rcases List.mem_cons.1 hy with rfl | hy
        · exact hcx
        · exact lt_out L (asc_head L ha y hy) hcx
theorem comb_len (op : Bool → Bool → Bool) (a b : List K) (pa pb : Bool) : (comb L op a b pa pb).length ≤ a.length + b.length := by
  have one : ∀ (q : Bool) (c : K), (if q then [c] else []).length ≤ 1 := fun q c => by cases q <;> simp
  fun_induction comb L op a b pa pb with
  | case1 => simp
  | case2 c a pa pb ih => have := one (op (!pa) pb != op pa pb) c; rw [List.length_append, List.length_cons]; omega
  | case3 d b pa pb ih => have := one (op pa (!pb) != op pa pb) d; rw [List.length_append, List.length_cons]; omega
  | case4 c a d b pa pb hc ih => have := one (op (!pa) pb != op pa pb) c; rw [List.length_append, List.length_cons, List.length_cons]; rw [List.length_cons] at ih; omega
  | case5 c a d b pa pb hc hd ih => have := one (op pa (!pb) != op pa pb) d; rw [List.length_append, List.length_cons, List.length_cons]; rw [List.length_cons] at ih; omega
  | case6 c a d b pa pb hc hd ih => have := one (op (!pa) (!pb) != op pa pb) c; rw [List.length_append, List.length_cons, List.length_cons]; omega
/-- Behind so many cuts: in or not. -/
def par : Nat → Bool → Bool
  | 0, p => p
  | n + 1, p => par n (!p)
theorem par_add (m n : Nat) (p : Bool) : par (m + n) p = par n (par m p) := by
  induction m generalizing p with
  | zero => rw [Nat.zero_add]; rfl
  | succ m ih => rw [show m + 1 + n = (m + n) + 1 by omega]; exact ih _
theorem par_not (n : Nat) (p : Bool) : par n (!p) = !par n p := by
  induction n generalizing p with
  | zero => rfl
  | succ n ih => exact ih _
theorem par_mod (n : Nat) : par n false = decide (n % 2 = 1) := by
  induction n with
  | zero => rfl
  | succ n ih =>
    show par n (!false) = _
    rw [par_not, ih]
    by_cases h : n % 2 = 1
    · rw [decide_eq_true h, decide_eq_false (by omega)]; rfl
    · rw [decide_eq_false h, decide_eq_true (by omega)]; rfl
theorem par_one {q p : Bool} {c : K} : par (if q != p then [c] else []).length p = q := by cases q <;> cases p <;> rfl
theorem comb_par (op : Bool → Bool → Bool) (a b : List K) (pa pb : Bool) : par (comb L op a b pa pb).length (op pa pb) = op (par a.length pa) (par b.length pb) := by
  fun_induction comb L op a b pa pb with
  | case1 => rfl
  | case2 c a pa pb ih => rw [List.length_append, par_add, par_one]; exact ih
  | case3 d b pa pb ih => rw [List.length_append, par_add, par_one]; exact ih
  | case4 c a d b pa pb hc ih => rw [List.length_append, par_add, par_one]; exact ih
  | case5 c a d b pa pb hc hd ih => rw [List.length_append, par_add, par_one]; exact ih
  | case6 c a d b pa pb hc hd ih => rw [List.length_append, par_add, par_one]; exact ih

/-! Rows and cuts. -/
def cuts (r : List (P K)) : List K := r.flatMap fun p => [p.lo, p.hi]
def rows : List K → List (P K)
  | a :: b :: t => { lo := a, hi := b } :: rows t
  | _ => []
theorem cuts_nil : cuts ([] : List (P K)) = [] := rfl
theorem cuts_cons (p : P K) (r : List (P K)) : cuts (p :: r) = p.lo :: p.hi :: cuts r := rfl
theorem cuts_app (a b : List (P K)) : cuts (a ++ b) = cuts a ++ cuts b := List.flatMap_append
theorem cuts_len : ∀ r : List (P K), (cuts r).length = r.length * 2
  | [] => rfl
  | p :: r => by rw [cuts_cons, List.length_cons, List.length_cons, cuts_len r, List.length_cons]; omega
theorem rows_cuts : ∀ r : List (P K), rows (cuts r) = r
  | [] => rfl
  | p :: r => by rw [cuts_cons]; show { lo := p.lo, hi := p.hi } :: rows (cuts r) = _; rw [rows_cuts r]
theorem cuts_rows : ∀ l : List K, par l.length false = false → cuts (rows l) = l
  | [], _ => rfl
  | [a], h => by cases h
  | a :: b :: t, h => by
    show a :: b :: cuts (rows t) = _
    rw [cuts_rows t h]
theorem nrm_cuts : ∀ {r : List (P K)}, Nrm L r → Asc L (cuts r) ∧ ∀ x, inC L (cuts r) false x = Mem L x r
  | [], _ => ⟨trivial, fun _ => rfl⟩
  | p :: r, h => by
    obtain ⟨h1, h2⟩ := nrm_cuts (nrm_tail L h)
    have ho : lt L p.lo p.hi = true := nrm_ok L h
    rw [cuts_cons]
    have hb : ∀ y ∈ cuts r, lt L p.hi y = true := by
      cases r with
      | nil => intro y hy; cases hy
      | cons q r =>
        have hq : lt L p.hi q.lo = true := h.2.1
        intro y hy
        rw [cuts_cons] at hy h1
        rcases List.mem_cons.1 hy with rfl | hy
        · exact hq
        · exact lt_of_lt_of_le L hq (le_of_lt L (asc_head L h1 y hy))
    refine ⟨⟨ho, asc_mk L h1 hb⟩, fun x => ?_⟩
    rw [Mem_cons]
    unfold inC
    cases h3 : L.le p.lo x
    · have h4 : mem L x p = false := by unfold mem; rw [h3]; rfl
      rw [h4, ← h2 x, inC_above L (fun y hy => lt_out L (hb y hy) (lt_out L ho h3))]; rfl
    · show inC L (p.hi :: cuts r) true x = _
      unfold inC
      cases h4 : L.le p.hi x
      · have h5 : mem L x p = true := by unfold mem lt; rw [h3, h4]; rfl
        rw [h5]; rfl
      · have h5 : mem L x p = false := by unfold mem lt; rw [h3, h4]; rfl
        rw [h5, if_pos rfl]; exact h2 x
theorem rows_nrm : ∀ {l : List K}, Asc L l → Nrm L (rows l)
  | [], _ => trivial
  | [_], _ => trivial
  | [_, _], h => h.1
  | [_, _, _], h => h.1
  | _ :: _ :: c :: d :: t, h => ⟨h.1, h.2.1, rows_nrm (l := c :: d :: t) h.2.2⟩
/-- What the walk along two rows gives. -/
theorem comb_rows {op : Bool → Bool → Bool} (h0 : op false false = false) {a b : List (P K)} (ha : Nrm L a) (hb : Nrm L b) :
    ∃ r, comb L op (cuts a) (cuts b) false false = cuts r ∧ Nrm L r ∧ ∀ x, Mem L x r = op (Mem L x a) (Mem L x b) := by
  obtain ⟨a1, a2⟩ := nrm_cuts L ha
  obtain ⟨b1, b2⟩ := nrm_cuts L hb
  obtain ⟨c1, c2⟩ := comb_spec L op (cuts a) (cuts b) false false a1 b1
  have hp := comb_par L op (cuts a) (cuts b) false false
  have e2 : ∀ r : List (P K), par (cuts r).length false = false := fun r => by rw [par_mod, cuts_len]; exact decide_eq_false (by omega)
  rw [e2, e2, h0] at hp
  have hn := rows_nrm L c1
  refine ⟨rows (comb L op (cuts a) (cuts b) false false), (cuts_rows _ hp).symm, hn, fun x => ?_⟩
  have := (nrm_cuts L hn).2 x
  rw [cuts_rows _ hp] at this
  rw [← this, ← a2 x, ← b2 x, ← c2 x, h0]
theorem comb_and {a b : List (P K)} (ha : Nrm L a) (hb : Nrm L b) : comb L (fun x y => x && y) (cuts a) (cuts b) false false = cuts (andK L a b) := by
  obtain ⟨r, h1, h2, h3⟩ := comb_rows L (op := fun x y => x && y) rfl ha hb
  have s := andK_spec L a b
  rw [h1, nrm_ext L h2 s.1 fun x _ => by rw [h3, s.2]]
theorem comb_or {a b : List (P K)} (ha : Nrm L a) (hb : Nrm L b) : comb L (fun x y => x || y) (cuts a) (cuts b) false false = cuts (orK L a b) := by
  obtain ⟨r, h1, h2, h3⟩ := comb_rows L (op := fun x y => x || y) rfl ha hb
  have s := orK_spec L a b ha hb
  rw [h1, nrm_ext L h2 s.1 fun x _ => by rw [h3, s.2.1]]
theorem comb_not (hbt : lt L L.bot L.top = true) {a : List (P K)} (ha : Nrm L a) : comb L (fun x y => x && !y) (cuts (all1 L)) (cuts a) false false = cuts (notK L a) := by
  obtain ⟨r, h1, h2, h3⟩ := comb_rows L (op := fun x y => x && !y) rfl (nrm_all L hbt) ha
  have s := notK_spec L a ha hbt
  rw [h1, nrm_ext L h2 s.1 fun x hx => by rw [h3, s.2.1 x hx, mem_all L hx, Bool.true_and]]
theorem comb_join {l : List (P K)} {p : P K} (hl : ∀ y ∈ l, ok L y = true) (hp : ok L p = true) :
    comb L (fun x y => x || y) (cuts (joinK L l)) (cuts [p]) false false = cuts (joinK L (l ++ [p])) := by
  have s := joinK_spec L l hl
  have s2 := joinK_spec L (l ++ [p]) (fun y hy => by
    rcases List.mem_append.1 hy with h | h
    · exact hl y h
    · rw [List.mem_singleton] at h; rw [h]; exact hp)
  obtain ⟨r, h1, h2, h3⟩ := comb_rows L (op := fun x y => x || y) rfl s.1 (show Nrm L [p] from hp)
  rw [h1, nrm_ext L h2 s2.1 fun x _ => by rw [h3, s.2.1, s2.2.1, Mem_app]]
end
end Go.Proofs.YtkdildgdodnbbaaGreatDoor.Rm

/- Stanzas that are written are read again: a text of fields laid by hand, plain. No program is named here. -/
import Derived.Test.YtmhobdlhmkbkdaaDoorSm
namespace Go.Proofs.YtmhobdlhmkbkdaaDoor.Sz
def lineF (f : Fld) : List UInt8 := f.key ++ mark ++ f.val
theorem keyB_all {k : List UInt8} (h : keyB k = true) : k.all Vm.ltr = true := by
  unfold keyB at h; rw [Bool.and_eq_true] at h; exact h.1
theorem keyB_len {k : List UInt8} (h : keyB k = true) : 1 ≤ k.length ∧ k.length ≤ 16 := by
  unfold keyB at h
  rw [Bool.and_eq_true, Bool.and_eq_true, decide_eq_true_eq] at h
  refine ⟨?_, h.2.2⟩
  cases k with
  | nil => simp at h
  | cons a l => simp
theorem field_lineF (f : Fld) (n : Int) (hk : keyB f.key = true) (hv : valB f.val = true) : fieldP (lineF f) n = some ⟨f.key, f.val, n⟩ := by
  have e : lineF f = f.key ++ (58 :: 32 :: f.val) := by unfold lineF mark; rw [List.append_assoc]; rfl
  obtain ⟨h1, h2⟩ := keyB_len hk
  have h58 : (lineF f)[f.key.length]? = some 58 := by rw [e, List.getElem?_append_right (Nat.le_refl _), Nat.sub_self]; rfl
  have h32 : (lineF f)[f.key.length + 1]? = some 32 := by rw [e, List.getElem?_append_right (by omega), Nat.add_sub_cancel_left]; rfl
  have hkl : kLen (lineF f) = f.key.length := tw_len _ _ 58 (by rw [e, List.take_left]; exact keyB_all hk) h58 (by decide)
  have hd : (lineF f).drop (f.key.length + 2) = f.val := by rw [e, ← List.drop_drop, List.drop_left]; rfl
  rw [field_scan, hkl, hd, if_pos ⟨h1, h2, h58, h32, hv⟩, e, List.take_left]
theorem lineF_some (f : Fld) : lineF f ≠ [] := by unfold lineF mark; simp
theorem lineF_ten (f : Fld) (hk : keyB f.key = true) (hv : valB f.val = true) : (10 : UInt8) ∉ lineF f := by
  unfold lineF mark
  intro h
  rcases List.mem_append.1 h with h | h
  · rcases List.mem_append.1 h with h | h
    · have := List.all_eq_true.1 (keyB_all hk) 10 h
      exact absurd this (by decide)
    · exact absurd h (by decide)
  · unfold valB at hv
    have := List.all_eq_true.1 hv 10 h
    exact absurd this (by decide)
/-- Fields that are read one after another from line n on, behind those of last. -/
def GoodL : Nat → List Fld → List Fld → Prop
  | _, _, [] => True
  | n, last, f :: l => keyB f.key = true ∧ valB f.val = true ∧ f.line = n ∧ hasK last f.key = false ∧ GoodL (n + 1) (last ++ [f]) l
theorem read_fields : ∀ (l : List Fld) (n : Nat) (rest : List (List UInt8)) (acc : List (List Fld)) (last : List Fld), GoodL n last l → readL n (l.map lineF ++ rest) acc last = readL (n + l.length) rest acc (last ++ l)
  | [], n, rest, acc, last, _ => by rw [List.append_nil]; rfl
  | f :: l, n, rest, acc, last, h => by
    obtain ⟨h1, h2, h3, h4, h5⟩ := h
    rw [List.map_cons, List.cons_append, readL_cons, if_neg (by simpa using lineF_some f), field_lineF f n h1 h2]
    have hf : (⟨f.key, f.val, (n : Int)⟩ : Fld) = f := by rw [← h3]
    rw [hf]
    dsimp only
    rw [h4, if_neg (by decide), read_fields l (n + 1) rest acc (last ++ [f]) h5, List.append_assoc]
    congr 1
    rw [List.length_cons]; omega
def linesG : List (List Fld) → List (List UInt8)
  | [] => []
  | l :: r => l.map lineF ++ (if r.isEmpty then [] else [] :: linesG r)
def GoodG : Nat → List (List Fld) → Prop
  | _, [] => True
  | n, l :: r => l ≠ [] ∧ GoodL n [] l ∧ GoodG (n + l.length + 1) r
theorem linesG_some {l : List Fld} {r : List (List Fld)} (h : l ≠ []) : linesG (l :: r) ≠ [] := by
  cases l with
  | nil => exact absurd rfl h
  | cons f l => unfold linesG; simp
theorem read_grid : ∀ (G : List (List Fld)) (z : List Fld) (n : Nat) (rest : List (List UInt8)) (acc : List (List Fld)), GoodG n (G ++ [z]) → readL n (linesG (G ++ [z]) ++ rest) acc [] = readL (n + (linesG (G ++ [z])).length) rest (acc ++ G) z
  | [], z, n, rest, acc, h => by
    obtain ⟨_, h2, _⟩ := h
    have e : linesG ([] ++ [z]) = z.map lineF := by show z.map lineF ++ [] = _; rw [List.append_nil]
    rw [e, read_fields z n rest acc [] h2, List.length_map, List.append_nil]; rfl
  | l :: G, z, n, rest, acc, h => by
    obtain ⟨h1, h2, h3⟩ := h
    have e : linesG (l :: (G ++ [z])) = l.map lineF ++ ([] :: linesG (G ++ [z])) := by
      show l.map lineF ++ (if (G ++ [z]).isEmpty then [] else [] :: linesG (G ++ [z])) = _
      rw [if_neg (by simp)]
    have hs : linesG (G ++ [z]) ≠ [] := by
      cases G with
      | nil => exact linesG_some (by obtain ⟨hz, _⟩ := h3; exact hz)
      | cons m G => exact linesG_some (by obtain ⟨hz, _⟩ := h3; exact hz)
    rw [List.cons_append, e, List.append_assoc, read_fields l n _ acc [] h2, List.nil_append, List.cons_append, readL_cons, if_pos (show ([] : List UInt8).isEmpty = true from rfl), if_neg]
    · rw [read_grid G z (n + l.length + 1) rest (acc ++ [l]) h3, List.append_assoc]
      congr 1
      simp only [List.length_append, List.length_map, List.length_cons]; omega
    · cases l with
      | nil => exact absurd rfl h1
      | cons f l =>
        cases hx : linesG (G ++ [z]) with
        | nil => exact absurd hx hs
        | cons a b => simp
theorem stanzaT_join (l : List Fld) : stanzaT l = joinL (l.map lineF) := by
  induction l with
  | nil => rfl
  | cons f l ih =>
    show fieldT f ++ stanzaT l = _
    rw [List.map_cons, joinL_cons, ih]; rfl
theorem joinL_app (a b : List (List UInt8)) : joinL (a ++ b) = joinL a ++ joinL b := by unfold joinL; rw [List.flatMap_append]
theorem textS_join : ∀ G : List (List Fld), textS G = joinL (linesG G)
  | [] => rfl
  | [l] => by show stanzaT l = joinL (l.map lineF ++ []); rw [List.append_nil, stanzaT_join]
  | l :: m :: r => by
    show stanzaT l ++ [10] ++ textS (m :: r) = joinL (l.map lineF ++ ([] :: linesG (m :: r)))
    rw [textS_join (m :: r), joinL_app, joinL_cons, stanzaT_join]
    simp
theorem goodL_ten : ∀ (l : List Fld) (n : Nat) (last : List Fld), GoodL n last l → ∀ s ∈ l.map lineF, (10 : UInt8) ∉ s
  | [], _, _, _, s, hs => by cases hs
  | f :: l, n, last, h, s, hs => by
    obtain ⟨h1, h2, _, _, h5⟩ := h
    rw [List.map_cons] at hs
    rcases List.mem_cons.1 hs with rfl | hs
    · exact lineF_ten f h1 h2
    · exact goodL_ten l _ _ h5 s hs
theorem goodG_ten : ∀ (G : List (List Fld)) (n : Nat), GoodG n G → ∀ s ∈ linesG G, (10 : UInt8) ∉ s
  | [], _, _, s, hs => by cases hs
  | l :: r, n, h, s, hs => by
    obtain ⟨_, h2, h3⟩ := h
    unfold linesG at hs
    rcases List.mem_append.1 hs with hs | hs
    · exact goodL_ten l _ _ h2 s hs
    · split at hs
      · cases hs
      · rcases List.mem_cons.1 hs with rfl | hs
        · simp
        · exact goodG_ten r _ h3 s hs
/-- What is written is read. -/
theorem parse_grid {G : List (List Fld)} (h : GoodG 0 G) (hl : (textS G).length ≤ 65536) : parseS (textS G) = (0, 0, G) := by
  unfold parseS
  have he : endB (textS G) = true := by rw [textS_join]; exact end_join _
  rw [if_neg (by omega), if_pos he, textS_join, lines_join _ (goodG_ten G 0 h)]
  rcases List.eq_nil_or_concat G with rfl | ⟨g, z, rfl⟩
  · rfl
  · rw [List.concat_eq_append] at h ⊢
    have := read_grid g z 0 [] [] h
    rw [List.append_nil] at this
    rw [this, readL_nil]
    have hz : z ≠ [] := by
      clear this hl he
      have : ∀ (g : List (List Fld)) (n : Nat), GoodG n (g ++ [z]) → z ≠ [] := by
        intro g
        induction g with
        | nil => exact fun n h => h.1
        | cons a g ih => exact fun n h => ih _ h.2.2
      exact this g 0 h
    cases z with
    | nil => exact absurd rfl hz
    | cons f z => rfl
/-- One key of the last stanza again is told at its line. -/
theorem parse_twice {g : List (List Fld)} {z : List Fld} {f : Fld} (h : GoodG 0 (g ++ [z])) (hk : keyB f.key = true) (hv : valB f.val = true) (hh : hasK z f.key = true) (hl : (textS (g ++ [z]) ++ fieldT f).length ≤ 65536) : parseS (textS (g ++ [z]) ++ fieldT f) = (6, ((linesG (g ++ [z])).length : Int), []) := by
  have e : textS (g ++ [z]) ++ fieldT f = joinL (linesG (g ++ [z]) ++ [lineF f]) := by
    rw [textS_join, joinL_app]
    congr 1
    show fieldT f = joinL [lineF f]
    unfold joinL fieldT lineF; simp
  unfold parseS
  have he : endB (textS (g ++ [z]) ++ fieldT f) = true := by rw [e]; exact end_join _
  rw [if_neg (by omega), if_pos he, e, lines_join]
  · rw [read_grid g z 0 [lineF f] [] h, readL_cons, if_neg (by simpa using lineF_some f), field_lineF f _ hk hv]
    dsimp only
    rw [hh, if_pos rfl, Nat.zero_add]
  · intro s hs
    rcases List.mem_append.1 hs with hs | hs
    · exact goodG_ten _ 0 h s hs
    · rw [List.mem_singleton.1 hs]; exact lineF_ten f hk hv
end Go.Proofs.YtmhobdlhmkbkdaaDoor.Sz

/- Stanzas, plain: a text of fields in lines, read and written; what is read is told so again. No program is named here. -/
import Derived.Test.YtjkmdghlhodhiaaSp
import Derived.Lib.IndexMore
namespace Go.Proofs.Ytjkmdghlhodhiaa.Sz

structure Fld where
  key : List UInt8
  val : List UInt8
  line : Int
  deriving DecidableEq
def valC (c : UInt8) : Bool := decide (32 ≤ c.toNat) && decide (c.toNat ≤ 126)
def keyB (s : List UInt8) : Bool := s.all Vm.ltr && (!s.isEmpty && decide (s.length ≤ 16))
def valB (s : List UInt8) : Bool := s.all valC
def mark : List UInt8 := [58, 32]
/-- A line as a field. -/
def fieldP (s : List UInt8) (n : Int) : Option Fld :=
  if 0 ≤ Lib.index s mark ∧ keyB (s.take (Lib.index s mark).toNat) = true ∧ valB (s.drop ((Lib.index s mark).toNat + 2)) = true then
    some ⟨s.take (Lib.index s mark).toNat, s.drop ((Lib.index s mark).toNat + 2), n⟩ else none
def hasK (l : List Fld) (k : List UInt8) : Bool := l.any (fun f => f.key == k)
/-- What is read of lines: what is wrong, in which line, and the stanzas. -/
def readL : Nat → List (List UInt8) → List (List Fld) → List Fld → Int × Int × List (List Fld)
  | _, [], acc, last => (0, 0, if last.isEmpty then acc else acc ++ [last])
  | n, s :: ls, acc, last =>
    if s.isEmpty then (if last.isEmpty || ls.isEmpty then (2, n, []) else readL (n + 1) ls (acc ++ [last]) [])
    else match fieldP s n with
      | none => (2, n, [])
      | some f => if hasK last f.key then (6, n, []) else readL (n + 1) ls acc (last ++ [f])
/-- The lines of a text that ends with one's end. -/
def linesL (s : List UInt8) : List (List UInt8) := (Lib.split s [10]).dropLast
def endB (s : List UInt8) : Bool := s.isEmpty || s.getLast? == some 10
def parseS (s : List UInt8) : Int × Int × List (List Fld) :=
  if 65536 < s.length then (4, 0, []) else if endB s then readL 0 (linesL s) [] [] else (2, 0, [])
def fieldT (f : Fld) : List UInt8 := f.key ++ mark ++ f.val ++ [10]
def stanzaT (l : List Fld) : List UInt8 := l.flatMap fieldT
/-- What is written. -/
def textS : List (List Fld) → List UInt8
  | [] => []
  | [l] => stanzaT l
  | l :: m :: r => stanzaT l ++ [10] ++ textS (m :: r)
/-! What is read is told so again. -/
def joinL (ls : List (List UInt8)) : List UInt8 := ls.flatMap (fun s => s ++ [10])
theorem field_back {s : List UInt8} {n : Int} {f : Fld} (h : fieldP s n = some f) : f.key ++ mark ++ f.val = s ∧ f.line = n ∧ keyB f.key = true ∧ valB f.val = true := by
  unfold fieldP at h
  split at h
  · rename_i hc
    obtain ⟨h0, h1, h2⟩ := hc
    cases h
    refine ⟨?_, rfl, h1, h2⟩
    dsimp only
    obtain ⟨i, hi⟩ : ∃ i : Nat, Lib.index s mark = i := ⟨(Lib.index s mark).toNat, by omega⟩
    rw [hi]
    have ho : Lib.occAt s mark i = true := by
      rcases Lib.index_spec s mark with ⟨h1, _⟩ | ⟨j, h1, _, h3, _⟩
      · omega
      · have : j = i := by omega
        exact this ▸ h3
    unfold Lib.occAt at ho
    obtain ⟨t, ht⟩ := List.isPrefixOf_iff_prefix.1 ho
    show s.take i ++ mark ++ s.drop (i + 2) = s
    have e : s.drop (i + 2) = t := by rw [← List.drop_drop, ← ht]; rfl
    rw [e, List.append_assoc, ht, List.take_append_drop]
  · cases h
theorem stanzaT_snoc (l : List Fld) (f : Fld) : stanzaT (l ++ [f]) = stanzaT l ++ fieldT f := by
  unfold stanzaT; rw [List.flatMap_append]; simp
theorem textS_snoc : ∀ (acc : List (List Fld)) (l : List Fld), textS (acc ++ [l]) = (if acc.isEmpty then [] else textS acc ++ [10]) ++ stanzaT l
  | [], l => rfl
  | [a], l => by show stanzaT a ++ [10] ++ stanzaT l = _; rfl
  | a :: b :: r, l => by
    have ih := textS_snoc (b :: r) l
    show stanzaT a ++ [10] ++ textS (b :: r ++ [l]) = _
    rw [ih]
    show _ = (stanzaT a ++ [10] ++ textS (b :: r) ++ [10]) ++ stanzaT l
    simp
theorem joinL_cons (s : List UInt8) (ls : List (List UInt8)) : joinL (s :: ls) = s ++ [10] ++ joinL ls := by unfold joinL; rw [List.flatMap_cons]
theorem read_back : ∀ (ls : List (List UInt8)) (n : Nat) (acc : List (List Fld)) (last : List Fld) (r : List (List Fld)) (k : Int), readL n ls acc last = (0, k, r) →
    k = 0 ∧ textS r = textS (acc ++ [last]) ++ joinL ls ∨ (k = 0 ∧ ls = [] ∧ last = [] ∧ r = acc)
  | [], n, acc, last, r, k, h => by
    unfold readL at h
    cases last with
    | nil => right; injection h with _ h; injection h with h1 h2; exact ⟨h1.symm, rfl, rfl, h2.symm⟩
    | cons f l => left; injection h with _ h; injection h with h1 h2; subst h2; exact ⟨h1.symm, by simp [joinL]⟩
  | s :: ls, n, acc, last, r, k, h => by
    unfold readL at h
    split at h
    · rename_i hs
      have hs0 : s = [] := by simpa using hs
      subst hs0
      split at h
      · injection h with h _; cases h
      · rename_i hl
        have hl1 : last ≠ [] := fun e => hl (by simp [e])
        have hl2 : ls ≠ [] := fun e => hl (by simp [e])
        rcases read_back ls (n + 1) (acc ++ [last]) [] r k h with ⟨hk, ht⟩ | ⟨_, h2, _, _⟩
        · left
          refine ⟨hk, ?_⟩
          rw [ht, textS_snoc (acc ++ [last]) [], joinL_cons]
          simp [stanzaT]
        · exact absurd h2 hl2
    · rename_i hs
      cases hf : fieldP s n with
      | none => rw [hf] at h; injection h with h _; cases h
      | some f =>
        rw [hf] at h
        dsimp only at h
        split at h
        · injection h with h _; cases h
        · obtain ⟨h1, _, _, _⟩ := field_back hf
          rcases read_back ls (n + 1) acc (last ++ [f]) r k h with ⟨hk, ht⟩ | ⟨_, _, h3, _⟩
          · left
            refine ⟨hk, ?_⟩
            rw [ht, textS_snoc, textS_snoc, stanzaT_snoc, joinL_cons]
            unfold fieldT
            rw [h1]
            simp
          · exact absurd h3 (by simp)
/-! Lines. -/
theorem ten_hit (a r : List UInt8) (h : (10 : UInt8) ∉ a) : Lib.split (a ++ 10 :: r) [10] = a :: Lib.split r [10] := by
  have hi : Lib.index (a ++ 10 :: r) [10] = a.length := by
    refine Lib.index_first (by simp) ?_ fun j hj => ?_
    · unfold Lib.occAt; rw [List.drop_left]; rfl
    · cases ho : Lib.occAt (a ++ 10 :: r) [10] j with
      | false => rfl
      | true =>
        have h2 := Lib.occAt_head (c := 10) (t := []) rfl ho
        rw [List.getElem?_append_left hj] at h2
        exact absurd (List.mem_of_getElem? h2) h
  rw [At.split_hit (by simp) hi, List.take_left]
  have e : (a ++ 10 :: r).drop (a.length + ([10] : List UInt8).length) = r := by
    rw [← List.drop_drop, List.drop_left]; rfl
  rw [e]
theorem ten_miss (a : List UInt8) (h : (10 : UInt8) ∉ a) : Lib.split a [10] = [a] := by
  refine At.split_miss (Lib.index_none fun j _ => ?_)
  cases ho : Lib.occAt a [10] j with
  | false => rfl
  | true => exact absurd (List.mem_of_getElem? (Lib.occAt_head (c := 10) (t := []) rfl ho)) h
theorem split_some (s : List UInt8) : Lib.split s [10] ≠ [] := by
  unfold Lib.split
  cases Lib.count s [10] with
  | zero => unfold Lib.splitK; simp
  | succ k => unfold Lib.splitK; split <;> simp
theorem lines_hit (a r : List UInt8) (h : (10 : UInt8) ∉ a) : linesL (a ++ 10 :: r) = a :: linesL r := by
  unfold linesL
  rw [ten_hit a r h, List.dropLast_cons_of_ne_nil (split_some r)]
theorem lines_miss (a : List UInt8) (h : (10 : UInt8) ∉ a) : linesL a = [] := by unfold linesL; rw [ten_miss a h]; rfl
theorem ten_cut (s : List UInt8) : ((10 : UInt8) ∉ s) ∨ ∃ a r, s = a ++ 10 :: r ∧ (10 : UInt8) ∉ a := by
  induction s with
  | nil => left; simp
  | cons b l ih =>
    by_cases hb : b = 10
    · right; exact ⟨[], l, by rw [hb]; rfl, by simp⟩
    · rcases ih with h | ⟨a, r, e, h⟩
      · left; intro hm; rcases List.mem_cons.1 hm with e | e
        · exact hb e.symm
        · exact h e
      · right
        refine ⟨b :: a, r, by rw [e]; rfl, fun hm => ?_⟩
        rcases List.mem_cons.1 hm with e | e
        · exact hb e.symm
        · exact h e
theorem lines_back : ∀ (k : Nat) (s : List UInt8), s.length ≤ k → endB s = true → joinL (linesL s) = s
  | 0, s, hk, _ => by
    have : s = [] := List.length_eq_zero_iff.1 (by omega)
    subst this; rfl
  | k + 1, s, hk, he => by
    rcases ten_cut s with h | ⟨a, r, e, h⟩
    · unfold endB at he
      rw [Bool.or_eq_true] at he
      rcases he with he | he
      · have : s = [] := by simpa using he
        subst this; rfl
      · exact absurd (List.mem_of_getLast? (by simpa using he)) h
    · subst e
      rw [lines_hit a r h, joinL_cons]
      have hr : endB r = true := by
        unfold endB at he ⊢
        cases r with
        | nil => rfl
        | cons b l =>
          rw [Bool.or_eq_true] at he ⊢
          rcases he with he | he
          · simp at he
          · right
            rw [List.getLast?_append] at he
            have e2 : (10 :: b :: l).getLast? = (b :: l).getLast? := by rw [List.getLast?_cons_cons]
            rw [e2] at he
            obtain ⟨x, hx⟩ : ∃ x, (b :: l).getLast? = some x := ⟨_, List.getLast?_eq_some_getLast (by simp)⟩
            rw [hx] at he ⊢
            exact he
      rw [lines_back k r (by simp at hk; omega) hr]
      simp
theorem lines_join : ∀ ls : List (List UInt8), (∀ s ∈ ls, (10 : UInt8) ∉ s) → linesL (joinL ls) = ls
  | [], _ => rfl
  | s :: ls, h => by
    rw [joinL_cons, List.append_assoc]
    show linesL (s ++ 10 :: joinL ls) = _
    rw [lines_hit s _ (h s (by simp)), lines_join ls (fun x hx => h x (by simp [hx]))]
theorem end_join : ∀ ls : List (List UInt8), endB (joinL ls) = true
  | [] => rfl
  | s :: ls => by
    have ih := end_join ls
    rw [joinL_cons]
    unfold endB at ih ⊢
    rw [Bool.or_eq_true]
    right
    cases hj : joinL ls with
    | nil => rw [List.append_nil, List.getLast?_append]; rfl
    | cons b l =>
      rw [hj] at ih
      rw [Bool.or_eq_true] at ih
      rcases ih with ih | ih
      · simp at ih
      · rw [List.getLast?_append]
        obtain ⟨x, hx⟩ : ∃ x, (b :: l).getLast? = some x := ⟨_, List.getLast?_eq_some_getLast (by simp)⟩
        rw [hx] at ih ⊢
        exact ih
/-- What is read is told so again. -/
theorem parse_text {s : List UInt8} {k : Int} {r : List (List Fld)} (h : parseS s = (0, k, r)) : k = 0 ∧ textS r = s := by
  unfold parseS at h
  split at h
  · injection h with h _; cases h
  · split at h
    · rename_i he
      rcases read_back _ _ _ _ _ _ h with ⟨h1, h2⟩ | ⟨h1, h2, _, h4⟩
      · refine ⟨h1, ?_⟩
        rw [h2, lines_back s.length s (Nat.le_refl _) he]; rfl
      · refine ⟨h1, ?_⟩
        rw [h4, ← lines_back s.length s (Nat.le_refl _) he, h2]; rfl
    · injection h with h _; cases h
end Go.Proofs.Ytjkmdghlhodhiaa.Sz

/- What the walk of stanza.parse leans on. -/
import Derived.Test.YtmhobdlhmkbkdaaDoorSi
namespace Go.Proofs.YtmhobdlhmkbkdaaDoor.Sz
open Go.RowKit Go.Maps
theorem suffix_end (s : List UInt8) : Lib.hasSuffix s [10] = (s.getLast? == some 10) := by
  unfold Lib.hasSuffix
  rcases List.eq_nil_or_concat s with rfl | ⟨t, c, rfl⟩
  · rfl
  · unfold List.isSuffixOf
    rw [List.concat_eq_append, List.reverse_append]
    show (10 == c && true) = _
    rw [Bool.and_true, List.getLast?_concat]
    show (10 == c) = (c == 10)
    rw [Bool.eq_iff_iff, beq_iff_eq, beq_iff_eq]; exact eq_comm
theorem keeps_cell {B d : Nat} {w w' : World} (h : Keeps B d w w') {a : Addr} (h1 : a.block < B) (h2 : a.block ≠ d) : w'.cell? a = w.cell? a := by
  unfold World.cell?
  rw [h.2 _ h1 h2]
/-- A string lies in no draft. -/
theorem draft_no_text {w : World} {B d : Nat} {v0 v1 v2 : Value} {ds : List Desc} {acc : List (List Fld)} {last : List Fld} (h : DrO w B d v0 v1 v2 ds acc last) (h0 : ∀ x, v0 ≠ .string x) (h1 : ∀ x, v1 ≠ .string x) (h2 : ∀ x, v2 ≠ .string x)
    {a : Addr} {x : ByteArray} (hc : w.cell? a = some (.string x)) : a.block ≠ d := fun e => by
  have hb := h.2.1
  unfold World.cell? at hc
  rw [e, hb] at hc
  dsimp only at hc
  split at hc
  · cases hc
  · match h3 : a.off with
    | 0 => rw [h3] at hc; exact h0 x (Option.some.inj hc)
    | 1 => rw [h3] at hc; exact h1 x (Option.some.inj hc)
    | 2 => rw [h3] at hc; exact h2 x (Option.some.inj hc)
    | k + 3 => rw [h3] at hc; simp at hc
end Go.Proofs.YtmhobdlhmkbkdaaDoor.Sz

/- A strings.Builder in a call's own block: written to, read. -/
import Derived.Test.YtkdildgdodnbbaaGreatDoorBr
import Derived.Test.YtkdildgdodnbbaaGreatDoorShelfW
namespace Go.Proofs.YtkdildgdodnbbaaGreatDoor
namespace Sz
end Sz
open Go.RowKit Sz
/-- What the builder in block w.heap.size holds, and that all that was there is as it was. -/
def Sz.Bld (w : World) (t : List UInt8) (u : World) : Prop := Lib.IsBuilderF 99 5 w.heap.size w.heap.size (Lib.byteCells t) u ∧ Below w.heap.size w u
theorem Sz.bld_new {w W1 : World} (h : w.alloc (.cells #[.pointer none, .slice none 0 0] 99) = W1) : Bld w [] W1 := by
  subst h
  exact ⟨Lib.IsBuilderF.of (Lib.fresh_isBuilder _ _ w), (Below.refl _ _).alloc (Nat.le_refl _) _⟩
theorem Sz.byteCells_app (t s : List UInt8) : Lib.byteCells t ++ Lib.strCells ⟨s.toArray⟩ = Lib.byteCells (t ++ s) := by
  unfold Lib.byteCells Lib.strCells
  simp
theorem Sz.bld_at {u u' : World} {B b : Nat} {p : Value} {bs : List Value} (h : Lib.BuilderAtF 99 5 B b p bs u) (hb : Below u.heap.size u u') : Lib.BuilderAtF 99 5 B b p bs u' := by
  have hlt := h.lt
  obtain ⟨hB, v, hk, hown, hne⟩ := h
  refine ⟨hB, v, (hb.block _ hlt).trans hk, hown.kept (row := none) ⟨hb.os, hb.tape, hb.output, hb.size, fun k hk _ => hb.block k hk⟩ ?_, hne⟩
  cases v.ownBlock with
  | none => exact Or.inl rfl
  | some x => exact Or.inr (by simp)
theorem Sz.bld_below {w u u' : World} {t : List UInt8} (h : Bld w t u) (hb : Below u.heap.size u u') : Bld w t u' :=
  ⟨h.1.elim (fun x => .inl (bld_at x hb)) (fun x => .inr (bld_at x hb)), h.2.trans (hb.mono h.2.size)⟩
theorem Sz.bld_lt {w u : World} {t : List UInt8} (h : Bld w t u) : w.heap.size < u.heap.size := h.1.elim (fun x => x.lt) (fun x => x.lt)
theorem Sz.bld_write {w u : World} {t : List UInt8} (h : Bld w t u) (s : List UInt8) (hl : t.length + s.length ≤ 10000000) :
    Calls Tryz.prog 56 #[.pointer (some ⟨w.heap.size, 0, none⟩), .string ⟨s.toArray⟩] u fun e u' => e = .returned (.tuple #[.int .i64 s.length, .nilIface]) ∧ Bld w (t ++ s) u' ∧ Lib.OthersKept 5 (some w.heap.size) u u' := by
  refine (Tryz.Builder_WriteString_kc w.heap.size w.heap.size (Lib.byteCells t) ⟨s.toArray⟩ u h.1 (by
    have : (Lib.byteCells t).length = t.length := by unfold Lib.byteCells; simp
    rw [this]; show t.length + s.toArray.size ≤ _; rw [List.size_toArray]; omega) h.2.size).mono ?_
  rintro e u' ⟨rfl, ⟨hb, hB, hk⟩, _⟩
  refine ⟨by show _ = Ending.returned (.tuple #[.int .i64 s.toArray.size, .nilIface]); rfl, ⟨?_, h.2.trans hB⟩, hk⟩
  rw [← byteCells_app]
  exact .inr hb
theorem Sz.bld_string {w u : World} {t : List UInt8} (h : Bld w t u) :
    Calls Tryz.prog 58 #[.pointer (some ⟨w.heap.size, 0, none⟩)] u fun e u' => e = .returned (.string ⟨t.toArray⟩) ∧ Bld w t u' := by
  refine (Tryz.Builder_String_any_k w.heap.size w.heap.size t u h.1 h.2.size).mono ?_
  rintro e u' ⟨rfl, hb, hB, _⟩
  exact ⟨rfl, hb, h.2.trans hB⟩
end Go.Proofs.YtkdildgdodnbbaaGreatDoor

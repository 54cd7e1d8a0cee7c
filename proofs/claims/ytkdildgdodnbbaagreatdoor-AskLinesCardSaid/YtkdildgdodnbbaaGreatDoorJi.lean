/- The reference's Not, walked. -/
import Derived.Test.YtkdildgdodnbbaaGreatDoorJh
import Derived.StillTailTactics
namespace Go.Proofs.YtkdildgdodnbbaaGreatDoor
open Go.RowKit Rs
attribute [local go_sem ↓] Go.wp_at_zero Go.wp_at_succ

theorem lo_empty {c : Cut} (h : LoOk c) : (txt c).isEmpty = !(Rm.lt Ln .bot c) := by
  cases c with
  | bot => rfl
  | pos v a => exact (own_ne h).trans rfl
  | top => cases h
theorem hi_empty {c : Cut} (h : HiOk c) : (txt c).isEmpty = !(Rm.lt Ln c .top) := by
  cases c with
  | bot => cases h
  | pos v a => exact (own_ne h).trans rfl
  | top => rfl
theorem aft_not {c : Cut} (h : LoOk c) (h2 : (txt c).isEmpty = false) : (!loI c) = aft c := by
  cases c with
  | bot => cases h2
  | pos v a => show (!(!a)) = a; cases a <;> rfl
  | top => cases h
theorem loI_not {c : Cut} (h2 : (txt c).isEmpty = false) : (!aft c) = loI c := by
  cases c with
  | bot => cases h2
  | pos v a => rfl
  | top => cases h2
theorem loI_none {c : Cut} (h2 : (txt c).isEmpty = true) (h : HiOk c) : loI c = false := by
  cases c with
  | bot => rfl
  | pos v a => exact absurd ((own_ne h).symm.trans h2) (by decide)
  | top => rfl
theorem notF_yes (c : Cut) (p : Rm.P Cut) (t : List (Rm.P Cut)) (h : Rm.lt Ln .bot p.lo = true) : Rm.notF Ln c (p :: t) = { lo := c, hi := p.lo } :: Rm.notF Ln p.hi t := by
  show (if Rm.lt Ln .bot p.lo = true then _ else _) = _; rw [if_pos h]
theorem notF_no (c : Cut) (p : Rm.P Cut) (t : List (Rm.P Cut)) (h : Rm.lt Ln .bot p.lo = false) : Rm.notF Ln c (p :: t) = Rm.notF Ln p.hi t := by
  show (if Rm.lt Ln .bot p.lo = true then _ else _) = _; rw [h]; rfl
/-- A goal that nothing looks into. -/
structure Boxed (p : Prop) : Prop where
  out : p
theorem bx_in {p : Prop} (h : Boxed p) : p := h.out
section
variable {P : Program} {ops : Array Oper} {w : World} {Q : Act → Prop} {a : Act} {o : Oper} {rest : List Oper}
theorem bx_step (h : ∀ K : Act → Prop, (∀ a, Boxed (wpStill P ops w Q rest a) → K a) → if Region.wanted o (yielded ops a.tmps) then o.still P a w K else K (a.put o.dst undef)) : Boxed (wpStill P ops w Q (o :: rest) a) := ⟨h _ (fun _ h => h.out)⟩
theorem bx_skip (hw : Region.wanted o (yielded ops a.tmps) = false) (h : Boxed (wpStill P ops w Q rest (a.put o.dst undef))) : Boxed (wpStill P ops w Q (o :: rest) a) := ⟨by
  show (if _ then _ else _); rw [hw]; exact h.out⟩
theorem bx_nil (h : Boxed (Q a)) : Boxed (wpStill P ops w Q [] a) := ⟨h.out⟩
end
theorem bx_low {B D : Nat} {T : TypeId} {s : Sp} {w w' : World} (h : BxS B T s w) (hB : B < D) (hb : Below D w w') : BxS B T s w' := by unfold BxS; rw [hb.block B hB]; exact h
/-- What is left open behind c. -/
def opn (c : Cut) : Sp := ⟨txt c, [], loI c, false⟩
end Go.Proofs.YtkdildgdodnbbaaGreatDoor

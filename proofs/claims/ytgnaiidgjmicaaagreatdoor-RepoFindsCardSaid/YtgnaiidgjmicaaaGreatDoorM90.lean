/- Four small laws that the texts lean on often. -/
import Derived.Lib.Hide
import Derived.Below
import Derived.KernelRfl
namespace Go.Proofs.YtgnaiidgjmicaaaGreatDoor
open Go.RowKit
theorem bt {w u x : World} (h : Below w.heap.size w u) (k : Below u.heap.size u x) : Below w.heap.size w x := h.trans (k.mono h.size)
theorem ex {α : Sort _} (e : α) : ∃ x, e = x := ⟨_, rfl⟩
theorem zh {p : Prop} (h : p) : Hid p := Lib.hid h
theorem zl {p : Prop} (h : p := by constructor <;> first | kernel_rfl | exact fun _ => rfl | (constructor <;> first | kernel_rfl | exact fun _ => rfl | (constructor <;> first | kernel_rfl | exact fun _ => rfl))) : p := h
theorem actS : (∀ {α : Type} {l : List α} {i : Nat} (h : i < l.toArray.size), l.toArray[i] = l[i]'(by simpa using h)) /\ (∀ {α : Type} {a : α} {l : List α} {h : 0 < (a :: l).length}, (a :: l)[0] = a) /\ (∀ {α : Type} {a : α} {l : List α} {i : Nat} {h : i + 1 < (a :: l).length}, (a :: l)[i + 1] = l[i]'(Nat.lt_of_succ_lt_succ h)) /\ (∀ {α : Type} (l : List α) (i : Nat) (v : α), l.toArray.setIfInBounds i v = (l.set i v).toArray) /\ (∀ {α : Type} (x v : α) (l : List α), (x :: l).set 0 v = v :: l) /\ ∀ {α : Type} (x v : α) (l : List α) (n : Nat), (x :: l).set (n + 1) v = x :: l.set n v := ⟨fun h => List.getElem_toArray h, @fun _ a l h => List.getElem_cons_zero a l h, @fun _ a l i h => List.getElem_cons_succ a l i h, fun _ _ _ => List.setIfInBounds_toArray .., fun _ _ _ => List.set_cons_zero, fun _ _ _ _ => List.set_cons_succ⟩
end Go.Proofs.YtgnaiidgjmicaaaGreatDoor

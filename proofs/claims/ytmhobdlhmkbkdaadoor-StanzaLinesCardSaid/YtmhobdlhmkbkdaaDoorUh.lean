/- The reference's own memory as it reads stanzas: those that have ended, the last one. -/
import Derived.Test.YtmhobdlhmkbkdaaDoorUg
namespace Go.Proofs.YtmhobdlhmkbkdaaDoor
open Go.RowKit Go.Maps Sz
attribute [local go_sem ↓] Go.wp_at_zero Go.wp_at_succ
section
variable {α : Type} {P : Program} {enc : α → List Value} {K : Nat} {ST T : TypeId} {w : World}
/-- An append at a plain list of operations: where the new slice lies is told. -/
theorem Rg.wpList_app_at (hf : Rg.Fits enc K) (hT : Rg.SliceT P enc K ST T) {ops : Array Oper} {rest : List Oper} {o : Oper} {a : Act} {Q : Exit → Act → World → Prop} (hgd : o.guard = none) (sl x : Operand)
    (ho : o.op = .call { callee := .builtin .append, args := #[sl, x], argTypes := #[ST, ST] })
    (B : Nat) (v : Value) (l m : List α) (hs : a.eval sl = v) (hown : Rg.Own enc K w B T v l) (ad : Addr) (c : Nat) (hx : a.eval x = .slice (some ad) m.length c)
    (hnews : ∀ j u, (Rg.flat enc m)[j]? = some u → w.cell? (ad.add j) = some u) (hm : 0 < m.length) (hsz : l.length + m.length ≤ 1000000) (hB : B ≤ w.heap.size)
    (h : ∀ g cap w', Rg.Own enc K w' B T (.slice (some ⟨g, 0, none⟩) (l.length + m.length) cap) (l ++ m) → w.grownBy w' v.ownBlock → (v.ownBlock = some g ∨ g = w.heap.size) → wpList P ops Q rest (a.put o.dst (.slice (some ⟨g, 0, none⟩) (l.length + m.length) cap)) w') : wpList P ops Q (o :: rest) a w := by
  obtain ⟨i, z, hi, hz0, hz1, hz2, hb⟩ := hT.info
  refine wpList_append_lies w hgd sl x ST ho B T i z K i.bytes hT.under hi hz0 hz2 rfl hz1 hT.pos v l.length (Rg.flat enc l) hs hown ad m.length c (Rg.flat enc m) hx (Rg.flat_len hf m) hnews (Rg.flat_ones hf m) hm (by unfold maxLen; omega) (by
    have : (l.length + m.length) * i.bytes ≤ 1000000 * 1000 := Nat.mul_le_mul hsz hb
    omega) hB _ rfl ?_
  intro g cap w' h1 h2 h3 _
  refine h g cap w' ?_ h2 h3
  unfold Rg.Own
  rw [Rg.flat_app, List.length_append]
  exact h1
end
theorem Sz.sliceRF : Rg.SliceT Tryd.prog encF 3 33 46 := ⟨fitsF, by decide, by kernel_rfl, Rg.info_of (z := .agg #[.string ByteArray.empty, .string ByteArray.empty, .int .i64 0]) (b := 40) (by kernel_rfl) (by rfl) (by decide)⟩
theorem Sz.sliceRE : Rg.SliceT Tryd.prog encO 1 27 33 := ⟨fitsO, by decide, by kernel_rfl, Rg.info_of (z := .slice none 0 0) (b := 24) (by kernel_rfl) (by rfl) (by decide)⟩
/-- Rows of rows of one's own, and a last row beside them. -/
def Sz.RdO (TO TF : TypeId) (w : World) (B : Nat) (vo vn : Value) (ds : List Desc) (acc : List (List Fld)) (last : List Fld) : Prop :=
  Rg.Own encO 1 w B TO vo ds ∧ Gr.In encF 3 w ds acc ∧ Gr.Free vo ds acc ∧ Rg.Own encF 3 w B TF vn last ∧ Gr.Free vn ds acc
variable {TO TF : TypeId}
theorem Sz.rdo_new (w : World) (B : Nat) : RdO TO TF w B (.slice none 0 0) (.slice none 0 0) [] [] [] :=
  ⟨Rg.own_nil _ _ _, ⟨rfl, fun i d l h => by simp at h⟩, fun i d l h => by simp at h, Rg.own_nil _ _ _, fun i d l h => by simp at h⟩
theorem Sz.rdo_below {w w' : World} {B : Nat} {vo vn : Value} {ds : List Desc} {acc : List (List Fld)} {last : List Fld} (h : RdO TO TF w B vo vn ds acc last) (hb : Below w.heap.size w w') : RdO TO TF w' B vo vn ds acc last :=
  ⟨Rg.own_below h.1 hb, Gr.in_below h.2.1 hb, h.2.2.1, Rg.own_below h.2.2.2.1 hb, h.2.2.2.2⟩
theorem Sz.rdo_len {w : World} {B : Nat} {vo vn : Value} {ds : List Desc} {acc : List (List Fld)} {last : List Fld} (h : RdO TO TF w B vo vn ds acc last) : ds.length = acc.length := h.2.1.1
/-- A field is appended to the last stanza. -/
theorem Sz.rdo_add (hT : TO ≠ TF) {w w' : World} {B g n cap : Nat} {vo vn : Value} {ds : List Desc} {acc : List (List Fld)} {last : List Fld} {f : Fld} (h : RdO TO TF w B vo vn ds acc last) (ho : Rg.Own encF 3 w' B TF (.slice (some ⟨g, 0, none⟩) n cap) (last ++ [f])) (hg : w.grownBy w' vn.ownBlock) (hl : vn.ownBlock = some g ∨ g = w.heap.size) :
    RdO TO TF w' B vo (.slice (some ⟨g, 0, none⟩) n cap) ds acc (last ++ [f]) := by
  obtain ⟨h2, h3, h4, h5, h6⟩ := h
  have h01 : vo.ownBlock = none ∨ vo.ownBlock ≠ vn.ownBlock := by
    cases e0 : vo.ownBlock with
    | none => exact Or.inl rfl
    | some b0 =>
      refine Or.inr fun e => ?_
      obtain ⟨cs, fr, hc⟩ := own_cells h2 e0
      exact own_ne h5 hc hT e.symm
  refine ⟨own_kept h2 hg h01, in_grownV h3 hg h6, h4, ho, fun i dd l e1 e2 hl0 a ha hb => ?_⟩
  have hb2 : g = a.block := Option.some.inj hb
  have hal := in_lt h3 i dd l e1 e2 hl0 a ha
  rcases hl with hl | hl
  · exact h6 i dd l e1 e2 hl0 a ha (by rw [hl, hb2])
  · omega
/-- The last stanza is appended to those that have ended; then there is no last one. -/
theorem Sz.rdo_end (hT : TO ≠ TF) {w w' : World} {B g n cap nl cl : Nat} {A : Option Addr} {vo : Value} {ds : List Desc} {acc : List (List Fld)} {last : List Fld} (h : RdO TO TF w B vo (.slice A nl cl) ds acc last) (hn : last.length = nl)
    (ho : Rg.Own encO 1 w' B TO (.slice (some ⟨g, 0, none⟩) n cap) (ds ++ [(A, nl, cl)])) (hg : w.grownBy w' vo.ownBlock) (hl : vo.ownBlock = some g ∨ g = w.heap.size) :
    RdO TO TF w' B (.slice (some ⟨g, 0, none⟩) n cap) (.slice none 0 0) (ds ++ [(A, nl, cl)]) (acc ++ [last]) [] := by
  obtain ⟨h2, h3, h4, h5, h6⟩ := h
  obtain ⟨A2, c2, hv, hrow, _, _⟩ := Rg.row_own fitsF h5
  rw [hn] at hv
  cases hv
  have hA : ∀ a, A = some a → 0 < last.length → (∃ cs fr, w.heap[a.block]? = some (.cells cs TF fr)) ∧ a.block < w.heap.size := fun a ha hl0 => by
    obtain ⟨cs, fr, hc⟩ := own_cells (g := a.block) h5 (by rw [ha]; rfl)
    exact ⟨⟨cs, fr, hc⟩, (Array.getElem?_eq_some_iff.1 hc).1⟩
  have h3' := in_grownV h3 hg h4
  have hrow' : Rg.Row encF 3 w' A last := row_grown hrow hg (fun hl0 a ha e => by
    obtain ⟨⟨cs, fr, hc⟩, _⟩ := hA a ha hl0
    exact own_ne h2 hc (fun e => hT e.symm) e)
  refine ⟨ho, ⟨by rw [List.length_append, List.length_append, h3'.1]; rfl, fun i dd l e1 e2 => ?_⟩, fun i dd l e1 e2 hl0 a ha e => ?_, Rg.own_nil _ _ _, fun i dd l e1 e2 hl0 a ha e => (by cases e)⟩
  · rcases get_snoc e1 with ⟨q1, q2⟩ | ⟨q1, q2⟩
    · rcases get_snoc e2 with ⟨_, p2⟩ | ⟨p1, _⟩
      · exact h3'.2 i dd l q2 p2
      · have := h3'.1; omega
    · rcases get_snoc e2 with ⟨p1, _⟩ | ⟨_, p2⟩
      · have := h3'.1; omega
      · subst q2 p2; exact ⟨hn.symm, hrow'⟩
  · have e3 : g = a.block := Option.some.inj e
    rcases get_snoc e1 with ⟨q1, q2⟩ | ⟨q1, q2⟩
    · rcases get_snoc e2 with ⟨_, p2⟩ | ⟨p1, _⟩
      · have hal := in_lt h3 i dd l q2 p2 hl0 a ha
        rcases hl with hl | hl
        · exact h4 i dd l q2 p2 hl0 a ha (by rw [hl, e3])
        · omega
      · have := h3'.1; omega
    · rcases get_snoc e2 with ⟨p1, _⟩ | ⟨_, p2⟩
      · have := h3'.1; omega
      · subst q2 p2
        obtain ⟨⟨cs, fr, hc⟩, hlt2⟩ := hA a ha hl0
        rcases hl with hl | hl
        · rw [← e3] at hc
          exact own_ne h2 hc (fun e => hT e.symm) hl
        · omega
/-- Three cells in a block of their own. -/
def Sz.Tri (b : Nat) (k v : List UInt8) (n : Int) (T : TypeId) (u : World) : Prop := u.heap[b]? = some (.cells #[.string ⟨k.toArray⟩, .string ⟨v.toArray⟩, .int .i64 n] T (0, 0))
theorem Sz.tri_new {w W1 : World} {k v : List UInt8} {n : Int} {T : TypeId} (h : w.alloc (.cells #[.string ⟨k.toArray⟩, .string ⟨v.toArray⟩, .int .i64 n] T) = W1) : Tri w.heap.size k v n T W1 := by
  subst h; exact heap_alloc_new w _
theorem Sz.tri_cells {b : Nat} {k v : List UInt8} {n : Int} {T : TypeId} {u : World} (h : Tri b k v n T u) : u.cell? ⟨b, 0, none⟩ = some (.string ⟨k.toArray⟩) ∧ u.cell? ⟨b, 1, none⟩ = some (.string ⟨v.toArray⟩) ∧ u.cell? ⟨b, 2, none⟩ = some (.int .i64 n) ∧ u.frozen? ⟨b, 0, none⟩ = false ∧ u.frozen? ⟨b, 1, none⟩ = false ∧ u.frozen? ⟨b, 2, none⟩ = false := by
  unfold Tri at h
  refine ⟨?_, ?_, ?_, ?_, ?_, ?_⟩ <;> simp [World.cell?, World.frozen?, h]
theorem Sz.tri_below {b : Nat} {k v : List UInt8} {n : Int} {T : TypeId} {u u' : World} (h : Tri b k v n T u) (hb : Below u.heap.size u u') : Tri b k v n T u' :=
  (hb.block b (Array.getElem?_eq_some_iff.1 h).1).trans h
theorem Sz.tri_line {b : Nat} {k v : List UInt8} {n m : Int} {T : TypeId} {u : World} (h : Tri b k v n T u) : Tri b k v m T (u.setCell ⟨b, 2, none⟩ (.int .i64 m)) := by
  unfold Tri at h ⊢
  simp [World.setCell, Array.getElem?_modify, h]
end Go.Proofs.YtmhobdlhmkbkdaaDoor

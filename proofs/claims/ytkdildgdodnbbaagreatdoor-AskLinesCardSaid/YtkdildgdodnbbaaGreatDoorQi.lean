/- A slice of Spans that came in: how its cells read. No program is named here. A row of Spans as cells one after another. No program is named here. Rows of structs, whatever the struct: its cells one after another. No program is named here. append on a row of structs that a function made, whatever the struct. No program is named here. -/
import Derived.Test.YtkdildgdodnbbaaGreatDoorQh
import Derived.Test.YtkdildgdodnbbaaGreatDoorBr
import Derived.Deep.Slices
import Derived.Lib.SmallJoins
import Derived.RowKit
import Derived.Laws.AppendOwn
import Derived.Below
import Derived.Deep.AppendLies
import Derived.OwnWalk
import Derived.WalkKit
import Derived.Deep.RegionLaw
import Derived.Deep.RegionHeld3
import Derived.Deep.DrawnRows
namespace Go.Proofs.YtkdildgdodnbbaaGreatDoor.Rs
open Go.RowKit Go.ChangeShapes Go.WideShapes Go.Joins

instance : Inhabited Sp := ⟨⟨[], [], false, false⟩⟩
/-- The four cells of a Span from a place on. -/
def SpAt (w : World) (a : Addr) (s : Sp) : Prop :=
  w.cell? (a.add 0) = some (.string ⟨s.lo.toArray⟩) ∧ w.cell? (a.add 1) = some (.string ⟨s.hi.toArray⟩) ∧ w.cell? (a.add 2) = some (.bool s.li) ∧ w.cell? (a.add 3) = some (.bool s.hn)
/-- A row of Spans, four cells each. -/
def SRow (w : World) (A : Option Addr) (l : List Sp) : Prop := 0 < l.length → ∃ a, A = some a ∧ a.block < w.heap.size ∧ ∀ (i : Nat) (h : i < l.length), SpAt w (a.add (i * 4)) l[i]
theorem one_of {α : Type} {cs : List α} {n : Nat} (hl : cs.length = 4) (hn : n < 4) : (cs.drop n).take 1 = [cs[n]'(by omega)] := by
  rw [List.drop_eq_getElem_cons (by omega)]; rfl
theorem open_spans {H : Type} {enc : TypeId × Value → H} {P : Program} {W : World} {b0 : Nat} {t e ts tb : TypeId} {n0 n1 n2 n3 : Field} {v : Value} {d : DataW H} {ps : List MemPlace}
    (ht : P.underlying t = some (.slice e)) (he : P.underlying e = some (.struct #[n0, n1, n2, n3])) (h0 : n0.type = ts ∧ n0.offset = 0) (h1 : n1.type = ts ∧ n1.offset = 1) (h2 : n2.type = tb ∧ n2.offset = 2) (h3 : n3.type = tb ∧ n3.offset = 3)
    (hs : P.underlying ts = some .string) (hb : P.underlying tb = some .bool) (cs : P.cellsOf ts = 1) (cb : P.cellsOf tb = 1) (ce : P.cellsOf e = 4)
    (hval : Value.okWide P W .any b0 t v) (h : DataW.Trod enc P W 0 (fun _ => true) true t v d ps) :
    ∃ (A : Option Addr) (c : Nat) (l : List Sp), v = .slice A l.length c ∧ SRow W A l ∧ l.length ≤ c ∧ ∀ s ∈ l, s.lo.length ≤ maxLen ∧ s.hi.length ≤ maxLen := by
  obtain ⟨a0, l0, k0, rfl⟩ := okWide_slice ht hval
  obtain ⟨fuel, hf⟩ := h
  rcases Go.Deep.open_slice ht hf with ⟨hcs, _⟩ | ⟨a, len, cap, m, n, D, Pl, hcs, _, hl, _, hmm, _, hi⟩
  · simp [Value.cells] at hcs
    obtain ⟨rfl, rfl, rfl⟩ := hcs
    exact ⟨none, 0, [], rfl, fun h => absurd h (by simp), by simp, by simp⟩
  · simp [Value.cells] at hcs
    obtain ⟨rfl, rfl, rfl⟩ := hcs
    simp only [if_true] at hmm
    have each : ∀ i, i < l0 → ∃ s : Sp, SpAt W (a.add (i * 4)) s ∧ s.lo.length ≤ maxLen ∧ s.hi.length ≤ maxLen := fun i hil => by
      obtain ⟨cs', hc, ht'⟩ := hi i (by omega)
      rw [ce] at hc
      obtain ⟨y0, y1, y2, y3, m', _, hcl, g0, g1, g2, g3⟩ := trod_struct4 he ht'
      rw [ce] at hcl
      rw [h0.1, h0.2, cs, one_of hcl (by omega)] at g0
      rw [h1.1, h1.2, cs, one_of hcl (by omega)] at g1
      rw [h2.1, h2.2, cb, one_of hcl (by omega)] at g2
      rw [h3.1, h3.2, cb, one_of hcl (by omega)] at g3
      obtain ⟨s0, e0, _, m0⟩ := DataW.trod_string hs g0
      obtain ⟨s1, e1, _, m1⟩ := DataW.trod_string hs g1
      obtain ⟨b2, e2, _⟩ := DataW.trod_bool hb g2
      obtain ⟨b3, e3, _⟩ := DataW.trod_bool hb g3
      obtain ⟨_, hcl2, hat⟩ := World.cells?_some hc
      refine ⟨⟨s0.data.toList, s1.data.toList, b2, b3⟩, ⟨?_, ?_, ?_, ?_⟩, ?_, ?_⟩
      · exact (hat 0 (by omega)).trans ((List.getElem?_eq_getElem (by omega)).trans (congrArg some (List.cons.inj e0).1))
      · exact (hat 1 (by omega)).trans ((List.getElem?_eq_getElem (by omega)).trans (congrArg some (List.cons.inj e1).1))
      · exact (hat 2 (by omega)).trans ((List.getElem?_eq_getElem (by omega)).trans (congrArg some (List.cons.inj e2).1))
      · exact (hat 3 (by omega)).trans ((List.getElem?_eq_getElem (by omega)).trans (congrArg some (List.cons.inj e3).1))
      · show s0.data.toList.length ≤ maxLen
        rw [Array.length_toList]; exact m0
      · show s1.data.toList.length ≤ maxLen
        rw [Array.length_toList]; exact m1
    obtain ⟨f, hf2⟩ := Go.Deep.choose_lt each
    have hlen : ((List.range l0).map f).length = l0 := by simp
    refine ⟨some a, k0, (List.range l0).map f, by rw [hlen], fun h => ?_, by rw [hlen]; exact hl, fun s hs => ?_⟩
    · rw [hlen] at h
      refine ⟨a, rfl, ?_, fun i hi2 => ?_⟩
      · have := cell_in (hf2 0 h).1.1
        rwa [add_block, add_block] at this
      · rw [hlen] at hi2
        have := (hf2 i hi2).1
        simpa using this
    · obtain ⟨i, hi2, rfl⟩ := List.mem_map.1 hs
      exact (hf2 i (List.mem_range.1 hi2)).2
end Go.Proofs.YtkdildgdodnbbaaGreatDoor.Rs
namespace Go.Proofs.YtkdildgdodnbbaaGreatDoor.Rs
open Go.RowKit Go.ChangeShapes Go.WideShapes

def spC (s : Sp) : List Value := [.string ⟨s.lo.toArray⟩, .string ⟨s.hi.toArray⟩, .bool s.li, .bool s.hn]
def flat (l : List Sp) : List Value := l.flatMap spC
theorem flat_nil : flat [] = [] := rfl
theorem flat_cons (s : Sp) (l : List Sp) : flat (s :: l) = spC s ++ flat l := rfl
theorem flat_app (l m : List Sp) : flat (l ++ m) = flat l ++ flat m := List.flatMap_append
theorem flat_len : ∀ l : List Sp, (flat l).length = l.length * 4
  | [] => rfl
  | s :: l => by rw [flat_cons, List.length_append, flat_len l, List.length_cons]; show 4 + _ = _; omega
theorem flat_get : ∀ (l : List Sp) (i : Nat) (h : i < l.length) (j : Nat), j < 4 → (flat l)[i * 4 + j]? = (spC l[i])[j]?
  | [], _, h, _, _ => absurd h (by simp)
  | s :: l, 0, _, j, hj => by
    rw [flat_cons, List.getElem?_append_left (by show 0 * 4 + j < 4; omega), Nat.zero_mul, Nat.zero_add]; rfl
  | s :: l, i + 1, h, j, hj => by
    rw [flat_cons, List.getElem?_append_right (by show 4 ≤ _; omega)]
    rw [show (i + 1) * 4 + j - (spC s).length = i * 4 + j from by show (i + 1) * 4 + j - 4 = _; omega]
    exact flat_get l i (by simpa using h) j hj
theorem flat_take (l : List Sp) (k : Nat) : (flat l).take (k * 4) = flat (l.take k) := by
  induction l generalizing k with
  | nil => simp [flat_nil]
  | cons s l ih =>
    cases k with
    | zero => rfl
    | succ k =>
      rw [flat_cons, List.take_succ_cons, flat_cons, ← ih k]
      show List.take ((k + 1) * 4) (_ :: _ :: _ :: _ :: flat l) = _
      rw [show (k + 1) * 4 = k * 4 + 4 from by omega]
      rfl
theorem flat_drop (l : List Sp) (k : Nat) : (flat l).drop (k * 4) = flat (l.drop k) := by
  induction l generalizing k with
  | nil => simp [flat_nil]
  | cons s l ih =>
    cases k with
    | zero => rfl
    | succ k =>
      rw [flat_cons, List.drop_succ_cons, ← ih k]
      show List.drop ((k + 1) * 4) (_ :: _ :: _ :: _ :: flat l) = _
      rw [show (k + 1) * 4 = k * 4 + 4 from by omega]
      rfl
theorem flat_one : ∀ l : List Sp, ∀ u ∈ flat l, u.oneCell' = true
  | [], _, h => by cases h
  | s :: l, u, h => by
    rw [flat_cons, List.mem_append] at h
    rcases h with h | h
    · simp only [spC, List.mem_cons, List.not_mem_nil, or_false] at h
      rcases h with rfl | rfl | rfl | rfl <;> rfl
    · exact flat_one l u h
/-- The slice v, made from block B on, holds the Spans l. -/
def SOwn (w : World) (B : Nat) (T : TypeId) (v : Value) (l : List Sp) : Prop := w.ownsRow B T 4 v l.length (flat l)
theorem sOwn_nil (w : World) (B : Nat) (T : TypeId) : SOwn w B T (.slice none 0 0) [] := World.ownsRow_nil w B T 4
/-- A row that a function made reads as Spans. -/
theorem srow_own {w : World} {B : Nat} {T : TypeId} {v : Value} {l : List Sp} (h : SOwn w B T v l) : ∃ A c, v = .slice A l.length c ∧ SRow w A l := by
  have h0 := h
  rcases h.2 with ⟨rfl, h1⟩ | ⟨g, cap, cur, rfl, hb, hg, hn, hm, hs, ht⟩
  · refine ⟨none, 0, by rw [h1], fun h2 => by omega⟩
  · refine ⟨_, _, rfl, fun h2 => ⟨_, rfl, ?_, fun i hi => ?_⟩⟩
    · exact (Array.getElem?_eq_some_iff.1 hg).1
    · have hc := World.ownsRow.cells h0 (g := g) rfl
      have key : ∀ j u, j < 4 → (spC l[i])[j]? = some u → w.cell? (((⟨g, 0, none⟩ : Addr).add (i * 4)).add j) = some u := fun j u hj hu => by
        rw [Go.Deep.add_add]
        exact hc _ _ (by rw [flat_get l i hi j hj]; exact hu)
      exact ⟨key 0 _ (by omega) rfl, key 1 _ (by omega) rfl, key 2 _ (by omega) rfl, key 3 _ (by omega) rfl⟩
/-- The cells of a row, as an append reads them. -/
theorem srow_cells {w : World} {a : Addr} {l : List Sp} (h : ∀ (i : Nat) (h : i < l.length), SpAt w (a.add (i * 4)) l[i]) : ∀ j u, (flat l)[j]? = some u → w.cell? (a.add j) = some u := by
  intro j u hu
  have hj : j < (flat l).length := (List.getElem?_eq_some_iff.1 hu).1
  rw [flat_len] at hj
  obtain ⟨i, k, hi, hk, rfl⟩ : ∃ i k, i < l.length ∧ k < 4 ∧ j = i * 4 + k := ⟨j / 4, j % 4, by omega, by omega, by omega⟩
  rw [flat_get l i hi k hk] at hu
  obtain ⟨s0, s1, s2, s3⟩ := h i hi
  rw [← Go.Deep.add_add]
  rcases (show k = 0 ∨ k = 1 ∨ k = 2 ∨ k = 3 by omega) with rfl | rfl | rfl | rfl
  · cases hu; exact s0
  · cases hu; exact s1
  · cases hu; exact s2
  · cases hu; exact s3
theorem spAt_below {w w' : World} {a : Addr} {s : Sp} (h : SpAt w a s) (hb : Below w.heap.size w w') : SpAt w' a s := by
  obtain ⟨h0, h1, h2, h3⟩ := h
  exact ⟨by rw [hb.cell (cell_in h0)]; exact h0, by rw [hb.cell (cell_in h1)]; exact h1, by rw [hb.cell (cell_in h2)]; exact h2, by rw [hb.cell (cell_in h3)]; exact h3⟩
theorem srow_below {w w' : World} {A : Option Addr} {l : List Sp} (h : SRow w A l) (hb : Below w.heap.size w w') : SRow w' A l := fun h0 => by
  obtain ⟨a, e, hl, hc⟩ := h h0
  exact ⟨a, e, Nat.lt_of_lt_of_le hl hb.size, fun i hi => spAt_below (hc i hi) hb⟩
end Go.Proofs.YtkdildgdodnbbaaGreatDoor.Rs

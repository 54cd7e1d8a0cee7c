/- A slice of Spans that came in: how its cells read. No program is named here. A row of Spans as cells one after another. No program is named here. Rows of structs, whatever the struct: its cells one after another. No program is named here. append on a row of structs that a function made, whatever the struct. No program is named here. -/
import Derived.Test.YtpfkcjofpihgjaaDoorQh
import Derived.Deep.Slices
import Derived.Lib.SmallJoins
import Derived.RowKit
import Derived.Laws.AppendOwn
import Derived.Below
import Derived.Deep.AppendLies
import Derived.OwnWalk
import Derived.WalkKit
import Derived.Deep.RegionLaw
import Derived.Deep.RegionHeld3
import Derived.Deep.DrawnRows
namespace Go.Proofs.YtpfkcjofpihgjaaDoor.Rs
open Go.RowKit Go.ChangeShapes Go.WideShapes Go.Joins

instance : Inhabited Sp := ⟨⟨[], [], false, false⟩⟩
theorem add_block (a : Addr) (n : Nat) : (a.add n).block = a.block := by unfold Addr.add; split <;> rfl
theorem cell_in {w : World} {a : Addr} {v : Value} (h : w.cell? a = some v) : a.block < w.heap.size := by
  rcases Nat.lt_or_ge a.block w.heap.size with h1 | h1
  · exact h1
  · unfold World.cell? at h
    rw [Array.getElem?_eq_none h1] at h
    cases h
/-- The four cells of a Span from a place on. -/
def SpAt (w : World) (a : Addr) (s : Sp) : Prop :=
  w.cell? (a.add 0) = some (.string ⟨s.lo.toArray⟩) ∧ w.cell? (a.add 1) = some (.string ⟨s.hi.toArray⟩) ∧ w.cell? (a.add 2) = some (.bool s.li) ∧ w.cell? (a.add 3) = some (.bool s.hn)
/-- A row of Spans, four cells each. -/
def SRow (w : World) (A : Option Addr) (l : List Sp) : Prop := 0 < l.length → ∃ a, A = some a ∧ a.block < w.heap.size ∧ ∀ (i : Nat) (h : i < l.length), SpAt w (a.add (i * 4)) l[i]
theorem one_of {α : Type} {cs : List α} {n : Nat} (hl : cs.length = 4) (hn : n < 4) : (cs.drop n).take 1 = [cs[n]'(by omega)] := by
  rw [List.drop_eq_getElem_cons (by omega)]; rfl
theorem open_spans {H : Type} {enc : TypeId × Value → H} {P : Program} {W : World} {b0 : Nat} {t e ts tb : TypeId} {n0 n1 n2 n3 : Field} {v : Value} {d : DataW H} {ps : List MemPlace}
    (ht : P.underlying t = some (.slice e)) (he : P.underlying e = some (.struct #[n0, n1, n2, n3])) (h0 : n0.type = ts ∧ n0.offset = 0) (h1 : n1.type = ts ∧ n1.offset = 1) (h2 : n2.type = tb ∧ n2.offset = 2) (h3 : n3.type = tb ∧ n3.offset = 3)
    (hs : P.underlying ts = some .string) (hb : P.underlying tb = some .bool) (cs : P.cellsOf ts = 1) (cb : P.cellsOf tb = 1) (ce : P.cellsOf e = 4)
    (hval : Value.okWide P W .any b0 t v) (h : DataW.Trod enc P W 0 (fun _ => true) true t v d ps) :
    ∃ (A : Option Addr) (c : Nat) (l : List Sp), v = .slice A l.length c ∧ SRow W A l ∧ l.length ≤ c ∧ ∀ s ∈ l, s.lo.length ≤ maxLen ∧ s.hi.length ≤ maxLen := by
  obtain ⟨a0, l0, k0, rfl⟩ := okWide_slice ht hval
  obtain ⟨fuel, hf⟩ := h
  rcases Go.Deep.open_slice ht hf with ⟨hcs, _⟩ | ⟨a, len, cap, m, n, D, Pl, hcs, _, hl, _, hmm, _, hi⟩
  · simp [Value.cells] at hcs
    obtain ⟨rfl, rfl, rfl⟩ := hcs
    exact ⟨none, 0, [], rfl, fun h => absurd h (by simp), by simp, by simp⟩
  · simp [Value.cells] at hcs
    obtain ⟨rfl, rfl, rfl⟩ := hcs
    simp only [if_true] at hmm
    have each : ∀ i, i < l0 → ∃ s : Sp, SpAt W (a.add (i * 4)) s ∧ s.lo.length ≤ maxLen ∧ s.hi.length ≤ maxLen := fun i hil => by
      obtain ⟨cs', hc, ht'⟩ := hi i (by omega)
      rw [ce] at hc
      obtain ⟨y0, y1, y2, y3, m', _, hcl, g0, g1, g2, g3⟩ := trod_struct4 he ht'
      rw [ce] at hcl
      rw [h0.1, h0.2, cs, one_of hcl (by omega)] at g0
      rw [h1.1, h1.2, cs, one_of hcl (by omega)] at g1
      rw [h2.1, h2.2, cb, one_of hcl (by omega)] at g2
      rw [h3.1, h3.2, cb, one_of hcl (by omega)] at g3
      obtain ⟨s0, e0, _, m0⟩ := DataW.trod_string hs g0
      obtain ⟨s1, e1, _, m1⟩ := DataW.trod_string hs g1
      obtain ⟨b2, e2, _⟩ := DataW.trod_bool hb g2
      obtain ⟨b3, e3, _⟩ := DataW.trod_bool hb g3
      obtain ⟨_, hcl2, hat⟩ := World.cells?_some hc
      refine ⟨⟨s0.data.toList, s1.data.toList, b2, b3⟩, ⟨?_, ?_, ?_, ?_⟩, ?_, ?_⟩
      · exact (hat 0 (by omega)).trans ((List.getElem?_eq_getElem (by omega)).trans (congrArg some (List.cons.inj e0).1))
      · exact (hat 1 (by omega)).trans ((List.getElem?_eq_getElem (by omega)).trans (congrArg some (List.cons.inj e1).1))
      · exact (hat 2 (by omega)).trans ((List.getElem?_eq_getElem (by omega)).trans (congrArg some (List.cons.inj e2).1))
      · exact (hat 3 (by omega)).trans ((List.getElem?_eq_getElem (by omega)).trans (congrArg some (List.cons.inj e3).1))
      · show s0.data.toList.length ≤ maxLen
        rw [Array.length_toList]; exact m0
      · show s1.data.toList.length ≤ maxLen
        rw [Array.length_toList]; exact m1
    obtain ⟨f, hf2⟩ := Go.Deep.choose_lt each
    have hlen : ((List.range l0).map f).length = l0 := by simp
    refine ⟨some a, k0, (List.range l0).map f, by rw [hlen], fun h => ?_, by rw [hlen]; exact hl, fun s hs => ?_⟩
    · rw [hlen] at h
      refine ⟨a, rfl, ?_, fun i hi2 => ?_⟩
      · have := cell_in (hf2 0 h).1.1
        rwa [add_block, add_block] at this
      · rw [hlen] at hi2
        have := (hf2 i hi2).1
        simpa using this
    · obtain ⟨i, hi2, rfl⟩ := List.mem_map.1 hs
      exact (hf2 i (List.mem_range.1 hi2)).2
end Go.Proofs.YtpfkcjofpihgjaaDoor.Rs
namespace Go.Proofs.YtpfkcjofpihgjaaDoor.Rs
open Go.RowKit Go.ChangeShapes Go.WideShapes

def spC (s : Sp) : List Value := [.string ⟨s.lo.toArray⟩, .string ⟨s.hi.toArray⟩, .bool s.li, .bool s.hn]
def flat (l : List Sp) : List Value := l.flatMap spC
theorem flat_nil : flat [] = [] := rfl
theorem flat_cons (s : Sp) (l : List Sp) : flat (s :: l) = spC s ++ flat l := rfl
theorem flat_app (l m : List Sp) : flat (l ++ m) = flat l ++ flat m := List.flatMap_append
theorem flat_len : ∀ l : List Sp, (flat l).length = l.length * 4
  | [] => rfl
  | s :: l => by rw [flat_cons, List.length_append, flat_len l, List.length_cons]; show 4 + _ = _; omega
theorem flat_get : ∀ (l : List Sp) (i : Nat) (h : i < l.length) (j : Nat), j < 4 → (flat l)[i * 4 + j]? = (spC l[i])[j]?
  | [], _, h, _, _ => absurd h (by simp)
  | s :: l, 0, _, j, hj => by
    rw [flat_cons, List.getElem?_append_left (by show 0 * 4 + j < 4; omega), Nat.zero_mul, Nat.zero_add]; rfl
  | s :: l, i + 1, h, j, hj => by
    rw [flat_cons, List.getElem?_append_right (by show 4 ≤ _; omega)]
    rw [show (i + 1) * 4 + j - (spC s).length = i * 4 + j from by show (i + 1) * 4 + j - 4 = _; omega]
    exact flat_get l i (by simpa using h) j hj
theorem flat_take (l : List Sp) (k : Nat) : (flat l).take (k * 4) = flat (l.take k) := by
  induction l generalizing k with
  | nil => simp [flat_nil]
  | cons s l ih =>
    cases k with
    | zero => rfl
    | succ k =>
      rw [flat_cons, List.take_succ_cons, flat_cons, ← ih k]
      show List.take ((k + 1) * 4) (_ :: _ :: _ :: _ :: flat l) = _
      rw [show (k + 1) * 4 = k * 4 + 4 from by omega]
      rfl
theorem flat_drop (l : List Sp) (k : Nat) : (flat l).drop (k * 4) = flat (l.drop k) := by
  induction l generalizing k with
  | nil => simp [flat_nil]
  | cons s l ih =>
    cases k with
    | zero => rfl
    | succ k =>
      rw [flat_cons, List.drop_succ_cons, ← ih k]
      show List.drop ((k + 1) * 4) (_ :: _ :: _ :: _ :: flat l) = _
      rw [show (k + 1) * 4 = k * 4 + 4 from by omega]
      rfl
theorem flat_one : ∀ l : List Sp, ∀ u ∈ flat l, u.oneCell' = true
  | [], _, h => by cases h
  | s :: l, u, h => by
    rw [flat_cons, List.mem_append] at h
    rcases h with h | h
    · simp only [spC, List.mem_cons, List.not_mem_nil, or_false] at h
      rcases h with rfl | rfl | rfl | rfl <;> rfl
    · exact flat_one l u h
/-- The slice v, made from block B on, holds the Spans l. -/
def SOwn (w : World) (B : Nat) (T : TypeId) (v : Value) (l : List Sp) : Prop := w.ownsRow B T 4 v l.length (flat l)
theorem sOwn_nil (w : World) (B : Nat) (T : TypeId) : SOwn w B T (.slice none 0 0) [] := World.ownsRow_nil w B T 4
/-- A row that a function made reads as Spans. -/
theorem srow_own {w : World} {B : Nat} {T : TypeId} {v : Value} {l : List Sp} (h : SOwn w B T v l) : ∃ A c, v = .slice A l.length c ∧ SRow w A l := by
  have h0 := h
  rcases h.2 with ⟨rfl, h1⟩ | ⟨g, cap, cur, rfl, hb, hg, hn, hm, hs, ht⟩
  · refine ⟨none, 0, by rw [h1], fun h2 => by omega⟩
  · refine ⟨_, _, rfl, fun h2 => ⟨_, rfl, ?_, fun i hi => ?_⟩⟩
    · exact (Array.getElem?_eq_some_iff.1 hg).1
    · have hc := World.ownsRow.cells h0 (g := g) rfl
      have key : ∀ j u, j < 4 → (spC l[i])[j]? = some u → w.cell? (((⟨g, 0, none⟩ : Addr).add (i * 4)).add j) = some u := fun j u hj hu => by
        rw [Go.Deep.add_add]
        exact hc _ _ (by rw [flat_get l i hi j hj]; exact hu)
      exact ⟨key 0 _ (by omega) rfl, key 1 _ (by omega) rfl, key 2 _ (by omega) rfl, key 3 _ (by omega) rfl⟩
/-- The cells of a row, as an append reads them. -/
theorem srow_cells {w : World} {a : Addr} {l : List Sp} (h : ∀ (i : Nat) (h : i < l.length), SpAt w (a.add (i * 4)) l[i]) : ∀ j u, (flat l)[j]? = some u → w.cell? (a.add j) = some u := by
  intro j u hu
  have hj : j < (flat l).length := (List.getElem?_eq_some_iff.1 hu).1
  rw [flat_len] at hj
  obtain ⟨i, k, hi, hk, rfl⟩ : ∃ i k, i < l.length ∧ k < 4 ∧ j = i * 4 + k := ⟨j / 4, j % 4, by omega, by omega, by omega⟩
  rw [flat_get l i hi k hk] at hu
  obtain ⟨s0, s1, s2, s3⟩ := h i hi
  rw [← Go.Deep.add_add]
  rcases (show k = 0 ∨ k = 1 ∨ k = 2 ∨ k = 3 by omega) with rfl | rfl | rfl | rfl
  · cases hu; exact s0
  · cases hu; exact s1
  · cases hu; exact s2
  · cases hu; exact s3
theorem spAt_below {w w' : World} {a : Addr} {s : Sp} (h : SpAt w a s) (hb : Below w.heap.size w w') : SpAt w' a s := by
  obtain ⟨h0, h1, h2, h3⟩ := h
  exact ⟨by rw [hb.cell (cell_in h0)]; exact h0, by rw [hb.cell (cell_in h1)]; exact h1, by rw [hb.cell (cell_in h2)]; exact h2, by rw [hb.cell (cell_in h3)]; exact h3⟩
theorem srow_below {w w' : World} {A : Option Addr} {l : List Sp} (h : SRow w A l) (hb : Below w.heap.size w w') : SRow w' A l := fun h0 => by
  obtain ⟨a, e, hl, hc⟩ := h h0
  exact ⟨a, e, Nat.lt_of_lt_of_le hl hb.size, fun i hi => spAt_below (hc i hi) hb⟩
end Go.Proofs.YtpfkcjofpihgjaaDoor.Rs
namespace Go.Proofs.YtpfkcjofpihgjaaDoor.Rg
open Go.RowKit Go.ChangeShapes Go.WideShapes

section
variable {α : Type} (enc : α → List Value) (K : Nat)
def flat (l : List α) : List Value := l.flatMap enc
theorem flat_app (l m : List α) : flat enc (l ++ m) = flat enc l ++ flat enc m := List.flatMap_append
theorem flat_one (x : α) : flat enc [x] = enc x := by simp [flat]
/-- An element's own cells. -/
structure Fits : Prop where
  len : ∀ x, (enc x).length = K
  one : ∀ x, ∀ u ∈ enc x, u.oneCell' = true
variable {enc K}
theorem flat_len (h : Fits enc K) : ∀ l : List α, (flat enc l).length = l.length * K
  | [] => by simp [flat]
  | s :: l => by
    show (enc s ++ flat enc l).length = _
    rw [List.length_append, flat_len h l, h.len, List.length_cons, Nat.add_mul]; omega
theorem flat_get (h : Fits enc K) : ∀ (l : List α) (i : Nat) (hi : i < l.length) (j : Nat), j < K → (flat enc l)[i * K + j]? = (enc l[i])[j]?
  | [], _, hi, _, _ => absurd hi (by simp)
  | s :: l, 0, _, j, hj => by
    show (enc s ++ flat enc l)[0 * K + j]? = _
    rw [Nat.zero_mul, Nat.zero_add, List.getElem?_append_left (by rw [h.len]; exact hj)]; rfl
  | s :: l, i + 1, hi, j, hj => by
    show (enc s ++ flat enc l)[(i + 1) * K + j]? = _
    rw [List.getElem?_append_right (by rw [h.len, Nat.add_mul]; omega), h.len, show (i + 1) * K + j - K = i * K + j from by rw [Nat.add_mul]; omega]
    exact flat_get h l i (by simpa using hi) j hj
theorem flat_ones (h : Fits enc K) (l : List α) : ∀ u ∈ flat enc l, u.oneCell' = true := fun u hu => by
  obtain ⟨x, _, hx⟩ := List.mem_flatMap.1 hu
  exact h.one x u hx
variable (enc K)
/-- An element's cells lie from here on, as the walk calls them. -/
def At (w : World) (p : Addr) (x : α) : Prop := ∀ j v, (enc x)[j]? = some v → w.cell? (if j = 0 then p else ⟨p.block, p.off + j, none⟩) = some v
def Row (w : World) (A : Option Addr) (l : List α) : Prop := 0 < l.length → ∃ a, A = some a ∧ a.block < w.heap.size ∧ ∀ (i : Nat) (h : i < l.length), At enc w (a.add (i * K)) l[i]
def Own (w : World) (B : Nat) (T : TypeId) (v : Value) (l : List α) : Prop := w.ownsRow B T K v l.length (flat enc l)
variable {enc K}
theorem add_zero (a : Addr) : a.add 0 = a := by unfold Addr.add; rfl
theorem add_j (a : Addr) (m j : Nat) : a.add (m + j) = if j = 0 then a.add m else ⟨(a.add m).block, (a.add m).off + j, none⟩ := by
  by_cases hj : j = 0
  · subst hj; simp
  · rw [if_neg hj]
    unfold Addr.add
    rw [if_neg (by omega)]
    by_cases hm : m = 0
    · subst hm; simp
    · rw [if_neg hm]; show (⟨_, _, _⟩ : Addr) = ⟨_, _, _⟩; rw [Nat.add_assoc]
theorem at_below {w w' : World} {p : Addr} {x : α} (hp : p.block < w.heap.size) (h : At enc w p x) (hb : Below w.heap.size w w') : At enc w' p x := fun j v hv => by
  rw [hb.cell (by split <;> exact hp)]; exact h j v hv
theorem row_below {w w' : World} {A : Option Addr} {l : List α} (h : Row enc K w A l) (hb : Below w.heap.size w w') : Row enc K w' A l := fun h0 => by
  obtain ⟨a, e, hl, hc⟩ := h h0
  exact ⟨a, e, Nat.lt_of_lt_of_le hl hb.size, fun i hi => at_below (by rw [Rs.add_block]; exact hl) (hc i hi) hb⟩
theorem row_nil (w : World) (A : Option Addr) : Row enc K w A ([] : List α) := fun h => absurd h (by simp)
theorem row_at {w : World} {A : Option Addr} {l : List α} (h : Row enc K w A l) (k : Nat) (hk : k < l.length) : ∃ ad x, A = some ad ∧ l[k] = x ∧ ad.block < w.heap.size ∧ At enc w (ad.add (k * K)) x := by
  obtain ⟨ad, e, hl, hc⟩ := h (by omega)
  exact ⟨ad, _, e, rfl, hl, hc k hk⟩
theorem own_nil (w : World) (B : Nat) (T : TypeId) : Own enc K w B T (.slice none 0 0) ([] : List α) := World.ownsRow_nil w B T K
/-- A row that a function made reads as it should. -/
theorem row_own (hf : Fits enc K) {w : World} {B : Nat} {T : TypeId} {v : Value} {l : List α} (h : Own enc K w B T v l) : ∃ A c, v = .slice A l.length c ∧ Row enc K w A l ∧ l.length ≤ c ∧ c ≤ maxLen := by
  have h0 := h
  rcases h.2 with ⟨rfl, h1⟩ | ⟨g, cap, cur, rfl, hb, hg, hn, hm, hs, ht⟩
  · refine ⟨none, 0, by rw [h1], fun h2 => by omega, by omega, by unfold maxLen; omega⟩
  · refine ⟨_, _, rfl, fun h2 => ⟨_, rfl, ?_, fun i hi j v hv => ?_⟩, hn, hm⟩
    · exact (Array.getElem?_eq_some_iff.1 hg).1
    · have hc := World.ownsRow.cells h0 (g := g) rfl
      have hj : j < K := by rw [← hf.len l[i]]; exact (List.getElem?_eq_some_iff.1 hv).1
      rw [← add_j]
      exact hc _ _ (by rw [flat_get hf l i hi j hj]; exact hv)
theorem own_below {w w' : World} {B : Nat} {T : TypeId} {v : Value} {l : List α} (h : Own enc K w B T v l) (hb : Below w.heap.size w w') : Own enc K w' B T v l := by
  obtain ⟨h1, h2⟩ := h
  refine ⟨h1, ?_⟩
  rcases h2 with h2 | ⟨g, cap, cur, e1, e2, e3, e4⟩
  · exact Or.inl h2
  · refine Or.inr ⟨g, cap, cur, e1, e2, ?_, e4⟩
    rw [hb.block g ((Array.getElem?_eq_some_iff.1 e3).1)]; exact e3
theorem own_lt {w : World} {B : Nat} {T : TypeId} {v : Value} {l : List α} (h : Own enc K w B T v l) : ∀ k, v.ownBlock = some k → B ≤ k ∧ k < w.heap.size := World.ownsRow.lt h
theorem grown_below {w w' : World} {B : Nat} {T : TypeId} {v : Value} {l : List α} (h : Own enc K w B T v l) (hB : B ≤ w.heap.size) (hg : w.grownBy w' v.ownBlock) : Below B w w' :=
  (Below.refl B w).grown hg hB (fun k hk => (own_lt h k hk).1)
/-- Cells of a block that is known whole, as an append reads them. -/
theorem row_news {w : World} {a : Addr} {l : List α} (hf : Fits enc K) (h : ∀ (i : Nat) (hi : i < l.length), At enc w (a.add (i * K)) l[i]) : ∀ j u, (flat enc l)[j]? = some u → w.cell? (a.add j) = some u := by
  intro j u hu
  have hj : j < (flat enc l).length := (List.getElem?_eq_some_iff.1 hu).1
  rw [flat_len hf] at hj
  have hK : 0 < K := by rcases Nat.eq_zero_or_pos K with h0 | h0; (subst h0; simp at hj); exact h0
  have hi : j / K < l.length := Nat.div_lt_of_lt_mul (by rw [Nat.mul_comm]; exact hj)
  have hm := Nat.mod_lt j hK
  have e : j = j / K * K + j % K := by rw [Nat.mul_comm]; exact (Nat.div_add_mod j K).symm
  rw [e] at hu ⊢
  rw [flat_get hf l _ hi _ hm] at hu
  rw [add_j]
  exact h _ hi _ _ hu
end
end Go.Proofs.YtpfkcjofpihgjaaDoor.Rg
namespace Go.Proofs.YtpfkcjofpihgjaaDoor.Rg
open Go.RowKit Go.ChangeShapes Go.WideShapes

structure SliceT {α : Type} (P : Program) (enc : α → List Value) (K : Nat) (ST T : TypeId) : Prop where
  fits : Fits enc K
  pos : 0 < K
  under : P.underlying ST = some (.slice T)
  info : ∃ i z, P.info? T = some i ∧ i.zero = some z ∧ z.cells.size = K ∧ i.size = K ∧ i.bytes ≤ 1000
theorem info_of {P : Program} {T : TypeId} {z : Value} {K b : Nat} (h : (P.info? T).map (fun i => (i.zero, i.size, i.bytes)) = some (some z, K, b)) (hz : z.cells.size = K) (hb : b ≤ 1000) :
    ∃ i z, P.info? T = some i ∧ i.zero = some z ∧ z.cells.size = K ∧ i.size = K ∧ i.bytes ≤ 1000 := by
  obtain ⟨i0, hi, hz0, hz1, hz2⟩ := info_parts h
  exact ⟨i0, z, hi, hz0, hz, hz1, by omega⟩
section
variable {α : Type} {P : Program} {enc : α → List Value} {K : Nat} {ST T : TypeId} {w : World}
/-- At a plain list of operations. -/
theorem wpList_app (hT : SliceT P enc K ST T) {ops : Array Oper} {rest : List Oper} {o : Oper} {a : Act} {Q : Exit → Act → World → Prop} (hgd : o.guard = none) (sl x : Operand)
    (ho : o.op = .call { callee := .builtin .append, args := #[sl, x], argTypes := #[ST, ST] })
    (B : Nat) (v : Value) (l m : List α) (hs : a.eval sl = v) (hown : Own enc K w B T v l) (ad : Addr) (c : Nat) (hx : a.eval x = .slice (some ad) m.length c)
    (hnews : ∀ j u, (flat enc m)[j]? = some u → w.cell? (ad.add j) = some u) (hm : 0 < m.length) (hsz : l.length + m.length ≤ 1000000) (hB : B ≤ w.heap.size)
    (h : ∀ v' w', Own enc K w' B T v' (l ++ m) → w.grownBy w' v.ownBlock → w.heap.size ≤ w'.heap.size → wpList P ops Q rest (a.put o.dst v') w') : wpList P ops Q (o :: rest) a w := by
  obtain ⟨i, z, hi, hz0, hz1, hz2, hb⟩ := hT.info
  refine wpList_append_lies w hgd sl x ST ho B T i z K i.bytes hT.under hi hz0 hz2 rfl hz1 hT.pos v l.length (flat enc l) hs hown ad m.length c (flat enc m) hx (flat_len hT.fits m) hnews (flat_ones hT.fits m) hm (by unfold maxLen; omega) (by
    have : (l.length + m.length) * i.bytes ≤ 1000000 * 1000 := Nat.mul_le_mul hsz hb
    omega) hB _ rfl ?_
  intro g cap w' h1 h2 _ _
  refine h _ w' ?_ h2 h2.size
  unfold Own
  rw [flat_app, List.length_append]
  exact h1
/-- At a step of a region that draws its order. -/
theorem step_app (hT : SliceT P enc K ST T) {ops : Array Oper} {o : Oper} {a : Act} {G : Act → World → Prop} {Q : Exit → Act → World → Prop} {E : Prop} (hgd : o.guard = none) (sl x : Operand)
    (ho : o.op = .call { callee := .builtin .append, args := #[sl, x], argTypes := #[ST, ST] })
    (B : Nat) (v : Value) (l m : List α) (hs : a.eval sl = v) (hown : Own enc K w B T v l) (ad : Addr) (c : Nat) (hx : a.eval x = .slice (some ad) m.length c)
    (hnews : ∀ j u, (flat enc m)[j]? = some u → w.cell? (ad.add j) = some u) (hm : 0 < m.length) (hsz : l.length + m.length ≤ 1000000) (hB : B ≤ w.heap.size)
    (h : ∀ v' w', Own enc K w' B T v' (l ++ m) → w.grownBy w' v.ownBlock → w.heap.size ≤ w'.heap.size → G (a.put o.dst v') w') : if Region.wanted o (yielded ops a.tmps) = true then Oper.wp P o a w G Q else E := by
  obtain ⟨i, z, hi, hz0, hz1, hz2, hb⟩ := hT.info
  refine step_append_lies w hgd sl x ST ho B T i z K i.bytes hT.under hi hz0 hz2 rfl hz1 hT.pos v l.length (flat enc l) hs hown ad m.length c (flat enc m) hx (flat_len hT.fits m) hnews (flat_ones hT.fits m) hm (by unfold maxLen; omega) (by
    have : (l.length + m.length) * i.bytes ≤ 1000000 * 1000 := Nat.mul_le_mul hsz hb
    omega) hB _ rfl ?_
  intro g cap w' h1 h2 _ _
  refine h _ w' ?_ h2 h2.size
  unfold Own
  rw [flat_app, List.length_append]
  exact h1
/-- A block of one's own: what an append reads of it. -/
theorem news_new (w : World) (T : TypeId) (m : List α) (cs : Array Value) (h : cs.toList = flat enc m) : ∀ j u, (flat enc m)[j]? = some u → (w.alloc (.cells cs T)).cell? ((⟨w.heap.size, 0, none⟩ : Addr).add j) = some u :=
  fun j u hu => World.news_of_block (heap_alloc_new w _) j u (by rw [h]; exact hu)
end
end Go.Proofs.YtpfkcjofpihgjaaDoor.Rg

/- Rows of structs, whatever the struct: its cells one after another; texts in rows; rows of rows. -/
import Derived.Test.YtjkmdghlhodhiaaBa
import Derived.Deep.Slices
import Derived.Lib.SmallJoins
import Derived.RowKit
import Derived.Laws.AppendOwn
import Derived.Below
import Derived.Deep.AppendLies
import Derived.OwnWalk
import Derived.WalkKit
import Derived.Deep.RegionLaw
import Derived.Deep.RegionHeld3
import Derived.Deep.DrawnRows
import Derived.Laws.OwnMore
import Derived.Deep.Upon
import Derived.Maps.AppendAt
namespace Go.Proofs.Ytjkmdghlhodhiaa.Rs
open Go.RowKit Go.ChangeShapes Go.WideShapes Go.Joins
theorem add_block (a : Addr) (n : Nat) : (a.add n).block = a.block := by unfold Addr.add; split <;> rfl
theorem cell_in {w : World} {a : Addr} {v : Value} (h : w.cell? a = some v) : a.block < w.heap.size := by
  rcases Nat.lt_or_ge a.block w.heap.size with h1 | h1
  · exact h1
  · unfold World.cell? at h
    rw [Array.getElem?_eq_none h1] at h
    cases h
end Go.Proofs.Ytjkmdghlhodhiaa.Rs
namespace Go.Proofs.Ytjkmdghlhodhiaa.Rg
open Go.RowKit Go.ChangeShapes Go.WideShapes

section
variable {α : Type} (enc : α → List Value) (K : Nat)
def flat (l : List α) : List Value := l.flatMap enc
theorem flat_app (l m : List α) : flat enc (l ++ m) = flat enc l ++ flat enc m := List.flatMap_append
theorem flat_one (x : α) : flat enc [x] = enc x := by simp [flat]
/-- An element's own cells. -/
structure Fits : Prop where
  len : ∀ x, (enc x).length = K
  one : ∀ x, ∀ u ∈ enc x, u.oneCell' = true
variable {enc K}
theorem flat_len (h : Fits enc K) : ∀ l : List α, (flat enc l).length = l.length * K
  | [] => by simp [flat]
  | s :: l => by
    show (enc s ++ flat enc l).length = _
    rw [List.length_append, flat_len h l, h.len, List.length_cons, Nat.add_mul]; omega
theorem flat_get (h : Fits enc K) : ∀ (l : List α) (i : Nat) (hi : i < l.length) (j : Nat), j < K → (flat enc l)[i * K + j]? = (enc l[i])[j]?
  | [], _, hi, _, _ => absurd hi (by simp)
  | s :: l, 0, _, j, hj => by
    show (enc s ++ flat enc l)[0 * K + j]? = _
    rw [Nat.zero_mul, Nat.zero_add, List.getElem?_append_left (by rw [h.len]; exact hj)]; rfl
  | s :: l, i + 1, hi, j, hj => by
    show (enc s ++ flat enc l)[(i + 1) * K + j]? = _
    rw [List.getElem?_append_right (by rw [h.len, Nat.add_mul]; omega), h.len, show (i + 1) * K + j - K = i * K + j from by rw [Nat.add_mul]; omega]
    exact flat_get h l i (by simpa using hi) j hj
theorem flat_ones (h : Fits enc K) (l : List α) : ∀ u ∈ flat enc l, u.oneCell' = true := fun u hu => by
  obtain ⟨x, _, hx⟩ := List.mem_flatMap.1 hu
  exact h.one x u hx
variable (enc K)
/-- An element's cells lie from here on, as the walk calls them. -/
def At (w : World) (p : Addr) (x : α) : Prop := ∀ j v, (enc x)[j]? = some v → w.cell? (if j = 0 then p else ⟨p.block, p.off + j, none⟩) = some v
def Row (w : World) (A : Option Addr) (l : List α) : Prop := 0 < l.length → ∃ a, A = some a ∧ a.block < w.heap.size ∧ ∀ (i : Nat) (h : i < l.length), At enc w (a.add (i * K)) l[i]
def Own (w : World) (B : Nat) (T : TypeId) (v : Value) (l : List α) : Prop := w.ownsRow B T K v l.length (flat enc l)
variable {enc K}
theorem add_zero (a : Addr) : a.add 0 = a := by unfold Addr.add; rfl
theorem add_j (a : Addr) (m j : Nat) : a.add (m + j) = if j = 0 then a.add m else ⟨(a.add m).block, (a.add m).off + j, none⟩ := by
  by_cases hj : j = 0
  · subst hj; simp
  · rw [if_neg hj]
    unfold Addr.add
    rw [if_neg (by omega)]
    by_cases hm : m = 0
    · subst hm; simp
    · rw [if_neg hm]; show (⟨_, _, _⟩ : Addr) = ⟨_, _, _⟩; rw [Nat.add_assoc]
theorem at_below {w w' : World} {p : Addr} {x : α} (hp : p.block < w.heap.size) (h : At enc w p x) (hb : Below w.heap.size w w') : At enc w' p x := fun j v hv => by
  rw [hb.cell (by split <;> exact hp)]; exact h j v hv
theorem row_below {w w' : World} {A : Option Addr} {l : List α} (h : Row enc K w A l) (hb : Below w.heap.size w w') : Row enc K w' A l := fun h0 => by
  obtain ⟨a, e, hl, hc⟩ := h h0
  exact ⟨a, e, Nat.lt_of_lt_of_le hl hb.size, fun i hi => at_below (by rw [Rs.add_block]; exact hl) (hc i hi) hb⟩
theorem row_nil (w : World) (A : Option Addr) : Row enc K w A ([] : List α) := fun h => absurd h (by simp)
theorem row_at {w : World} {A : Option Addr} {l : List α} (h : Row enc K w A l) (k : Nat) (hk : k < l.length) : ∃ ad x, A = some ad ∧ l[k] = x ∧ ad.block < w.heap.size ∧ At enc w (ad.add (k * K)) x := by
  obtain ⟨ad, e, hl, hc⟩ := h (by omega)
  exact ⟨ad, _, e, rfl, hl, hc k hk⟩
theorem own_nil (w : World) (B : Nat) (T : TypeId) : Own enc K w B T (.slice none 0 0) ([] : List α) := World.ownsRow_nil w B T K
/-- A row that a function made reads as it should. -/
theorem row_own (hf : Fits enc K) {w : World} {B : Nat} {T : TypeId} {v : Value} {l : List α} (h : Own enc K w B T v l) : ∃ A c, v = .slice A l.length c ∧ Row enc K w A l ∧ l.length ≤ c ∧ c ≤ maxLen := by
  have h0 := h
  rcases h.2 with ⟨rfl, h1⟩ | ⟨g, cap, cur, rfl, hb, hg, hn, hm, hs, ht⟩
  · refine ⟨none, 0, by rw [h1], fun h2 => by omega, by omega, by unfold maxLen; omega⟩
  · refine ⟨_, _, rfl, fun h2 => ⟨_, rfl, ?_, fun i hi j v hv => ?_⟩, hn, hm⟩
    · exact (Array.getElem?_eq_some_iff.1 hg).1
    · have hc := World.ownsRow.cells h0 (g := g) rfl
      have hj : j < K := by rw [← hf.len l[i]]; exact (List.getElem?_eq_some_iff.1 hv).1
      rw [← add_j]
      exact hc _ _ (by rw [flat_get hf l i hi j hj]; exact hv)
theorem own_below {w w' : World} {B : Nat} {T : TypeId} {v : Value} {l : List α} (h : Own enc K w B T v l) (hb : Below w.heap.size w w') : Own enc K w' B T v l := by
  obtain ⟨h1, h2⟩ := h
  refine ⟨h1, ?_⟩
  rcases h2 with h2 | ⟨g, cap, cur, e1, e2, e3, e4⟩
  · exact Or.inl h2
  · refine Or.inr ⟨g, cap, cur, e1, e2, ?_, e4⟩
    rw [hb.block g ((Array.getElem?_eq_some_iff.1 e3).1)]; exact e3
theorem own_lt {w : World} {B : Nat} {T : TypeId} {v : Value} {l : List α} (h : Own enc K w B T v l) : ∀ k, v.ownBlock = some k → B ≤ k ∧ k < w.heap.size := World.ownsRow.lt h
theorem grown_below {w w' : World} {B : Nat} {T : TypeId} {v : Value} {l : List α} (h : Own enc K w B T v l) (hB : B ≤ w.heap.size) (hg : w.grownBy w' v.ownBlock) : Below B w w' :=
  (Below.refl B w).grown hg hB (fun k hk => (own_lt h k hk).1)
/-- Cells of a block that is known whole, as an append reads them. -/
theorem row_news {w : World} {a : Addr} {l : List α} (hf : Fits enc K) (h : ∀ (i : Nat) (hi : i < l.length), At enc w (a.add (i * K)) l[i]) : ∀ j u, (flat enc l)[j]? = some u → w.cell? (a.add j) = some u := by
  intro j u hu
  have hj : j < (flat enc l).length := (List.getElem?_eq_some_iff.1 hu).1
  rw [flat_len hf] at hj
  have hK : 0 < K := by rcases Nat.eq_zero_or_pos K with h0 | h0; (subst h0; simp at hj); exact h0
  have hi : j / K < l.length := Nat.div_lt_of_lt_mul (by rw [Nat.mul_comm]; exact hj)
  have hm := Nat.mod_lt j hK
  have e : j = j / K * K + j % K := by rw [Nat.mul_comm]; exact (Nat.div_add_mod j K).symm
  rw [e] at hu ⊢
  rw [flat_get hf l _ hi _ hm] at hu
  rw [add_j]
  exact h _ hi _ _ hu
end
end Go.Proofs.Ytjkmdghlhodhiaa.Rg
namespace Go.Proofs.Ytjkmdghlhodhiaa.Rg
open Go.RowKit Go.ChangeShapes Go.WideShapes

structure SliceT {α : Type} (P : Program) (enc : α → List Value) (K : Nat) (ST T : TypeId) : Prop where
  fits : Fits enc K
  pos : 0 < K
  under : P.underlying ST = some (.slice T)
  info : ∃ i z, P.info? T = some i ∧ i.zero = some z ∧ z.cells.size = K ∧ i.size = K ∧ i.bytes ≤ 1000
theorem info_of {P : Program} {T : TypeId} {z : Value} {K b : Nat} (h : (P.info? T).map (fun i => (i.zero, i.size, i.bytes)) = some (some z, K, b)) (hz : z.cells.size = K) (hb : b ≤ 1000) :
    ∃ i z, P.info? T = some i ∧ i.zero = some z ∧ z.cells.size = K ∧ i.size = K ∧ i.bytes ≤ 1000 := by
  obtain ⟨i0, hi, hz0, hz1, hz2⟩ := info_parts h
  exact ⟨i0, z, hi, hz0, hz, hz1, by omega⟩
section
variable {α : Type} {P : Program} {enc : α → List Value} {K : Nat} {ST T : TypeId} {w : World}
/-- At a plain list of operations. -/
theorem wpList_app (hT : SliceT P enc K ST T) {ops : Array Oper} {rest : List Oper} {o : Oper} {a : Act} {Q : Exit → Act → World → Prop} (hgd : o.guard = none) (sl x : Operand)
    (ho : o.op = .call { callee := .builtin .append, args := #[sl, x], argTypes := #[ST, ST] })
    (B : Nat) (v : Value) (l m : List α) (hs : a.eval sl = v) (hown : Own enc K w B T v l) (ad : Addr) (c : Nat) (hx : a.eval x = .slice (some ad) m.length c)
    (hnews : ∀ j u, (flat enc m)[j]? = some u → w.cell? (ad.add j) = some u) (hm : 0 < m.length) (hsz : l.length + m.length ≤ 1000000) (hB : B ≤ w.heap.size)
    (h : ∀ v' w', Own enc K w' B T v' (l ++ m) → w.grownBy w' v.ownBlock → w.heap.size ≤ w'.heap.size → wpList P ops Q rest (a.put o.dst v') w') : wpList P ops Q (o :: rest) a w := by
  obtain ⟨i, z, hi, hz0, hz1, hz2, hb⟩ := hT.info
  refine wpList_append_lies w hgd sl x ST ho B T i z K i.bytes hT.under hi hz0 hz2 rfl hz1 hT.pos v l.length (flat enc l) hs hown ad m.length c (flat enc m) hx (flat_len hT.fits m) hnews (flat_ones hT.fits m) hm (by unfold maxLen; omega) (by
    have : (l.length + m.length) * i.bytes ≤ 1000000 * 1000 := Nat.mul_le_mul hsz hb
    omega) hB _ rfl ?_
  intro g cap w' h1 h2 _ _
  refine h _ w' ?_ h2 h2.size
  unfold Own
  rw [flat_app, List.length_append]
  exact h1
/-- At a step of a region that draws its order. -/
theorem step_app (hT : SliceT P enc K ST T) {ops : Array Oper} {o : Oper} {a : Act} {G : Act → World → Prop} {Q : Exit → Act → World → Prop} {E : Prop} (hgd : o.guard = none) (sl x : Operand)
    (ho : o.op = .call { callee := .builtin .append, args := #[sl, x], argTypes := #[ST, ST] })
    (B : Nat) (v : Value) (l m : List α) (hs : a.eval sl = v) (hown : Own enc K w B T v l) (ad : Addr) (c : Nat) (hx : a.eval x = .slice (some ad) m.length c)
    (hnews : ∀ j u, (flat enc m)[j]? = some u → w.cell? (ad.add j) = some u) (hm : 0 < m.length) (hsz : l.length + m.length ≤ 1000000) (hB : B ≤ w.heap.size)
    (h : ∀ v' w', Own enc K w' B T v' (l ++ m) → w.grownBy w' v.ownBlock → w.heap.size ≤ w'.heap.size → G (a.put o.dst v') w') : if Region.wanted o (yielded ops a.tmps) = true then Oper.wp P o a w G Q else E := by
  obtain ⟨i, z, hi, hz0, hz1, hz2, hb⟩ := hT.info
  refine step_append_lies w hgd sl x ST ho B T i z K i.bytes hT.under hi hz0 hz2 rfl hz1 hT.pos v l.length (flat enc l) hs hown ad m.length c (flat enc m) hx (flat_len hT.fits m) hnews (flat_ones hT.fits m) hm (by unfold maxLen; omega) (by
    have : (l.length + m.length) * i.bytes ≤ 1000000 * 1000 := Nat.mul_le_mul hsz hb
    omega) hB _ rfl ?_
  intro g cap w' h1 h2 _ _
  refine h _ w' ?_ h2 h2.size
  unfold Own
  rw [flat_app, List.length_append]
  exact h1
/-- A block of one's own: what an append reads of it. -/
theorem news_new (w : World) (T : TypeId) (m : List α) (cs : Array Value) (h : cs.toList = flat enc m) : ∀ j u, (flat enc m)[j]? = some u → (w.alloc (.cells cs T)).cell? ((⟨w.heap.size, 0, none⟩ : Addr).add j) = some u :=
  fun j u hu => World.news_of_block (heap_alloc_new w _) j u (by rw [h]; exact hu)
end
end Go.Proofs.Ytjkmdghlhodhiaa.Rg
namespace Go.Proofs.Ytjkmdghlhodhiaa
open Go.RowKit Rs
attribute [local go_sem ↓] Go.wp_at_zero Go.wp_at_succ
/-- A slice as it lies in a cell. -/
abbrev Desc := Option Addr × Nat × Nat
def encO (d : Desc) : List Value := [.slice d.1 d.2.1 d.2.2]
def encT (l : List UInt8) : List Value := [.string ⟨l.toArray⟩]
theorem fitsO : Rg.Fits encO 1 := ⟨fun _ => rfl, fun x u hu => by
  simp only [encO, List.mem_cons, List.not_mem_nil, or_false] at hu
  rcases hu with rfl; rfl⟩
theorem fitsT : Rg.Fits encT 1 := ⟨fun _ => rfl, fun x u hu => by
  simp only [encT, List.mem_cons, List.not_mem_nil, or_false] at hu
  rcases hu with rfl; rfl⟩
/-- A row in another block stays as it is. -/
theorem row_grown {α : Type} {enc : α → List Value} {K : Nat} {w w' : World} {A : Option Addr} {l : List α} {row : Option Nat} (h : Rg.Row enc K w A l) (hg : w.grownBy w' row) (hne : 0 < l.length → ∀ a, A = some a → row ≠ some a.block) : Rg.Row enc K w' A l := fun h0 => by
  obtain ⟨a, e, hb, hc⟩ := h h0
  refine ⟨a, e, Nat.lt_of_lt_of_le hb hg.size, fun i hi j v hv => ?_⟩
  have hn : some a.block ≠ row := fun e2 => hne h0 a e e2.symm
  have hblk : (a.add (i * K)).block = a.block := add_block _ _
  have hq : (if j = 0 then a.add (i * K) else ⟨(a.add (i * K)).block, (a.add (i * K)).off + j, none⟩ : Addr).block = a.block := by split <;> exact hblk
  rw [hg.cell_far _ (by rw [hq]; exact hb) (by rw [hq]; exact hn)]
  exact hc i hi j v hv
theorem get_snoc {α : Type} {l : List α} {x y : α} {i : Nat} (h : (l ++ [x])[i]? = some y) : (i < l.length ∧ l[i]? = some y) ∨ (i = l.length ∧ y = x) := by
  by_cases hi : i < l.length
  · rw [List.getElem?_append_left hi] at h; exact Or.inl ⟨hi, h⟩
  · rw [List.getElem?_append_right (by omega)] at h
    by_cases h0 : i - l.length = 0
    · rw [h0] at h; simp at h; exact Or.inr ⟨by omega, h.symm⟩
    · obtain ⟨k, hk⟩ : ∃ k, i - l.length = k + 1 := ⟨i - l.length - 1, by omega⟩
      rw [hk] at h; simp at h
end Go.Proofs.Ytjkmdghlhodhiaa
namespace Go.Proofs.Ytjkmdghlhodhiaa.Rg
open Go.RowKit Go.ChangeShapes Go.WideShapes

section
variable {α : Type} {P : Program} {enc : α → List Value} {K : Nat} {ST T : TypeId} {w : World}
theorem grown_refl (w : World) (r : Option Nat) : w.grownBy w r := ⟨rfl, rfl, rfl, Nat.le_refl _, fun _ _ _ => rfl⟩
theorem run_appS (hT : SliceT P enc K ST T) (ty : TypeId) (B : Nat) (v : Value) (l m : List α) (hown : Own enc K w B T v l) (A : Option Addr) (c : Nat) (hrow : Row enc K w A m)
    (hsz : l.length + m.length ≤ 1000000) (hB : B ≤ w.heap.size) :
    ∃ v' w', (Builtin.append_ #[ST, ST] ty #[v, .slice A m.length c]).run P w = .ok v' w' ∧ Own enc K w' B T v' (l ++ m) ∧ w.grownBy w' v.ownBlock ∧ w.heap.size ≤ w'.heap.size := by
  obtain ⟨i, z, hi, hz0, hz1, hz2, hb⟩ := hT.info
  cases m with
  | nil =>
    obtain ⟨A0, c0, rfl, _, hle, _⟩ := row_own hT.fits hown
    refine ⟨.slice A0 l.length c0, w, ?_, by rw [List.append_nil]; exact hown, grown_refl w _, Nat.le_refl _⟩
    refine run_append_nothing w ST ST ty T i hT.under hi A0 l.length c0 hle _ ?_
    cases A with
    | none => exact Src.ofNil w hT.under c
    | some a => exact Src.ofSlice w hT.under a 0 c [] (by simp) (fun j u h => by simp at h) (fun u h => by cases h)
  | cons x m =>
    obtain ⟨a, rfl, _, hc⟩ := hrow (by simp)
    obtain ⟨v', w', h1, h2, h3, _⟩ := run_append_own_at w B ST ty T i z K i.bytes hT.under hi hz0 hz2 rfl hz1 hT.pos v l.length (flat enc l) hown a (x :: m).length c (flat enc (x :: m))
      (flat_len hT.fits _) (row_news hT.fits hc) (flat_ones hT.fits _) (by unfold maxLen; omega) (by
        have : (l.length + (x :: m).length) * i.bytes ≤ 1000000 * 1000 := Nat.mul_le_mul hsz hb
        omega) hB
    refine ⟨v', w', h1, ?_, h3, h3.size⟩
    unfold Own
    rw [flat_app, List.length_append]
    exact h2
/-- At a plain list of operations: from a row that may be empty. -/
theorem wpList_appS (hT : SliceT P enc K ST T) {ops : Array Oper} {rest : List Oper} {o : Oper} {a : Act} {Q : Exit → Act → World → Prop} (hgd : o.guard = none) (sl x : Operand)
    (ho : o.op = .call { callee := .builtin .append, args := #[sl, x], argTypes := #[ST, ST] })
    (B : Nat) (v : Value) (l m : List α) (hs : a.eval sl = v) (hown : Own enc K w B T v l) (A : Option Addr) (n c : Nat) (hn : m.length = n) (hx : a.eval x = .slice A n c)
    (hrow : Row enc K w A m) (hsz : l.length + m.length ≤ 1000000) (hB : B ≤ w.heap.size)
    (h : ∀ v' w', Own enc K w' B T v' (l ++ m) → w.grownBy w' v.ownBlock → w.heap.size ≤ w'.heap.size → wpList P ops Q rest (a.put o.dst v') w') : wpList P ops Q (o :: rest) a w := by
  subst hn
  refine wpList_plain hgd fun _ hK => ?_
  obtain ⟨v', w', hr, h2, h3, h4⟩ := run_appS hT o.type B v l m hown A c hrow hsz hB
  unfold Oper.wp execOp
  simp only [ho, resolve, invoke, builtin, Sem.run_bind, Sem.run_pure, Result.andThen_ok, List.map_toArray, List.map_cons, List.map_nil, hs, hx, hr]
  exact hK _ _ (h v' w' h2 h3 h4)
theorem flat_set (hf : Fits enc K) : ∀ (l : List α) (i j : Nat) (hi : i < l.length) (x : α) (u : Value), j < K → enc x = (enc l[i]).set j u → flat enc (l.set i x) = (flat enc l).set (i * K + j) u
  | [], _, _, hi, _, _, _, _ => absurd hi (by simp)
  | s :: l, 0, j, _, x, u, hj, hx => by
    show enc x ++ flat enc l = (enc s ++ flat enc l).set (0 * K + j) u
    rw [Nat.zero_mul, Nat.zero_add, List.set_append, if_pos (by rw [hf.len]; exact hj), hx]; rfl
  | s :: l, i + 1, j, hi, x, u, hj, hx => by
    show enc s ++ flat enc (l.set i x) = (enc s ++ flat enc l).set ((i + 1) * K + j) u
    rw [List.set_append, if_neg (by rw [hf.len, Nat.add_mul]; omega), hf.len, show (i + 1) * K + j - K = i * K + j from by rw [Nat.add_mul]; omega, flat_set hf l i j (by simpa using hi) x u hj hx]
/-- A store into a row of one's own. -/
theorem own_store (hf : Fits enc K) {B g n cap : Nat} {l : List α} (h : Own enc K w B T (.slice (some ⟨g, 0, none⟩) n cap) l) (hn : l.length = n) (i j : Nat) (hi : i < l.length) (hj : j < K) (x : α) (u : Value) (hx : enc x = (enc l[i]).set j u) :
    Own enc K (w.setCell ⟨g, i * K + j, none⟩ u) B T (.slice (some ⟨g, 0, none⟩) n cap) (l.set i x) ∧ w.grownBy (w.setCell ⟨g, i * K + j, none⟩ u) (some g) := by
  subst hn
  have := World.ownsRow.stored (w := w) h (i * K + j) u
  refine ⟨?_, this.2⟩
  unfold Own
  rw [List.length_set, flat_set hf l i j hi x u hj hx]
  exact this.1
theorem own_form {B n cap : Nat} {A : Option Addr} {l : List α} (h : Own enc K w B T (.slice A n cap) l) (hl : 0 < l.length) : ∃ g, A = some ⟨g, 0, none⟩ ∧ B ≤ g ∧ g < w.heap.size ∧ (∀ j, w.frozen? ⟨g, j, none⟩ = false) := by
  rcases h.2 with ⟨_, h1⟩ | ⟨g, cp, cur, e, hb, hg, _⟩
  · omega
  · cases e
    refine ⟨g, rfl, hb, (Array.getElem?_eq_some_iff.1 hg).1, fun j => frozen_of_row w g j cur T hg⟩
theorem row_take {A : Option Addr} {l : List α} (h : Row enc K w A l) (k : Nat) : Row enc K w A (l.take k) := fun h0 => by
  rw [List.length_take] at h0
  obtain ⟨a, e, hb, hc⟩ := h (by omega)
  refine ⟨a, e, hb, fun i hi => ?_⟩
  rw [List.length_take] at hi
  rw [List.getElem_take]
  exact hc i (by omega)
theorem own_made (w : World) (_hf : Fits enc K) {B : Nat} (hB : B ≤ w.heap.size) : Own enc K (w.alloc (.cells #[] T)) B T (.slice (some ⟨w.heap.size, 0, none⟩) 0 0) ([] : List α) :=
  World.ownsRow_made w #[] 0 hB (by unfold maxLen; omega) (by simp)
end
end Go.Proofs.Ytjkmdghlhodhiaa.Rg
namespace Go.Proofs.Ytjkmdghlhodhiaa.Rg
section
variable {α : Type} {enc : α → List Value} {K : Nat} {w : World}
theorem row_drop {A A' : Option Addr} {l : List α} (h : Row enc K w A l) (k : Nat) (hA : k < l.length → A' = A.map (fun a => a.add (k * K))) : Row enc K w A' (l.drop k) := fun h0 => by
  rw [List.length_drop] at h0
  obtain ⟨a, rfl, hb, hc⟩ := h (by omega)
  refine ⟨a.add (k * K), hA (by omega), by rw [Rs.add_block]; exact hb, fun i hi => ?_⟩
  rw [List.length_drop] at hi
  rw [List.getElem_drop, Go.Deep.add_add, ← Nat.add_mul]
  exact hc (k + i) (by omega)
theorem own_weak {B B' : Nat} {T : TypeId} {v : Value} {l : List α} (hB : B ≤ B') (h : Own enc K w B' T v l) : Own enc K w B T v l := by
  refine ⟨h.1, ?_⟩
  rcases h.2 with h2 | ⟨g, cap, cur, e, hb, h3⟩
  · exact Or.inl h2
  · exact Or.inr ⟨g, cap, cur, e, Nat.le_trans hB hb, h3⟩
end
end Go.Proofs.Ytjkmdghlhodhiaa.Rg
namespace Go.Proofs.Ytjkmdghlhodhiaa.Gr
open Go.RowKit Rs
section
variable {α : Type} (enc : α → List Value) (K : Nat)
/-- The rows that slices show. -/
def In (w : World) (ds : List Desc) (t : List (List α)) : Prop := ds.length = t.length ∧ ∀ (i : Nat) (d : Desc) (l : List α), ds[i]? = some d → t[i]? = some l → d.2.1 = l.length ∧ Rg.Row enc K w d.1 l
/-- None of them lies in the outer row's own block. -/
def Free (v : Value) (ds : List Desc) (t : List (List α)) : Prop := ∀ (i : Nat) (d : Desc) (l : List α), ds[i]? = some d → t[i]? = some l → 0 < l.length → ∀ a, d.1 = some a → v.ownBlock ≠ some a.block
def Row (w : World) (A : Option Addr) (t : List (List α)) : Prop := ∃ ds, Rg.Row encO 1 w A ds ∧ In enc K w ds t
def Own (w : World) (B : Nat) (TI : TypeId) (v : Value) (t : List (List α)) : Prop := ∃ ds, Rg.Own encO 1 w B TI v ds ∧ In enc K w ds t ∧ Free v ds t
variable {enc K}
theorem in_below {w w' : World} {ds : List Desc} {t : List (List α)} (h : In enc K w ds t) (hb : Below w.heap.size w w') : In enc K w' ds t := ⟨h.1, fun i d l h1 h2 => ⟨(h.2 i d l h1 h2).1, Rg.row_below (h.2 i d l h1 h2).2 hb⟩⟩
theorem row_below {w w' : World} {A : Option Addr} {t : List (List α)} (h : Row enc K w A t) (hb : Below w.heap.size w w') : Row enc K w' A t := by
  obtain ⟨ds, h1, h2⟩ := h; exact ⟨ds, Rg.row_below h1 hb, in_below h2 hb⟩
theorem own_below {w w' : World} {B : Nat} {TI : TypeId} {v : Value} {t : List (List α)} (h : Own enc K w B TI v t) (hb : Below w.heap.size w w') : Own enc K w' B TI v t := by
  obtain ⟨ds, h1, h2, h3⟩ := h; exact ⟨ds, Rg.own_below h1 hb, in_below h2 hb, h3⟩
theorem own_nil (w : World) (B : Nat) (TI : TypeId) : Own enc K w B TI (.slice none 0 0) ([] : List (List α)) := ⟨[], Rg.own_nil _ _ _, ⟨rfl, fun i d l h => by simp at h⟩, fun i d l h => by simp at h⟩
theorem row_nil (w : World) (A : Option Addr) : Row enc K w A ([] : List (List α)) := ⟨[], fun h => absurd h (by decide), rfl, fun i d l h => by simp at h⟩
/-- One more row behind a row of one's own. -/
theorem wpList_gapp {TS TI : TypeId} (hO : Rg.SliceT Try.prog encO 1 TS TI) {ops : Array Oper} {rest : List Oper} {o : Oper} {a : Act} {Q : Exit → Act → World → Prop} {u : World} {Tc : TypeId} (hgd : o.guard = none) (sl x : Operand)
    (ho : o.op = .call { callee := .builtin .append, args := #[sl, x], argTypes := #[TS, TS] })
    (B : Nat) (v : Value) (t : List (List α)) (l : List α) (C : Option Addr) (n c : Nat) (hs : a.eval sl = v) (hx : a.eval x = .slice (some ⟨u.heap.size, 0, none⟩) 1 1) (hT : Own enc K u B TI v t) (hn : l.length = n) (hrow : Rg.Row enc K u C l)
    (hfresh : 0 < l.length → ∀ a, C = some a → v.ownBlock ≠ some a.block) (hsz : t.length + 1 ≤ 1000000) (hB : B ≤ u.heap.size)
    (h : ∀ v' w', Own enc K w' B TI v' (t ++ [l]) → Below B u w' → u.heap.size ≤ w'.heap.size → wpList Try.prog ops Q rest (a.put o.dst v') w') : wpList Try.prog ops Q (o :: rest) a (u.alloc (.cells #[.slice C n c] Tc)) := by
  obtain ⟨ds, h1, h2, h3⟩ := hT
  obtain ⟨i, z, hi, hz0, hz1, hz2, hb⟩ := hO.info
  have hal : Below u.heap.size u (u.alloc (.cells #[.slice C n c] Tc)) := (Below.refl _ _).alloc (Nat.le_refl _) _
  have hown := Rg.own_below h1 hal
  have hdl : ds.length + 1 ≤ 1000000 := by rw [h2.1]; exact hsz
  refine wpList_append_lies _ hgd sl x TS ho B TI i z 1 i.bytes hO.under hi hz0 hz2 rfl hz1 hO.pos v ds.length (Rg.flat encO ds) hs hown ⟨u.heap.size, 0, none⟩ 1 1 (Rg.flat encO [(C, n, c)]) hx rfl (Rg.news_new u Tc [(C, n, c)] _ (by rfl)) (Rg.flat_ones fitsO _) (by decide) (by unfold maxLen; omega) (by
    have : (ds.length + 1) * i.bytes ≤ 1000000 * 1000 := Nat.mul_le_mul hdl hb
    omega) (Nat.le_trans hB hal.size) _ rfl ?_
  intro g cap w' g1 g2 g3 g4
  have hsz2 : (u.alloc (.cells #[.slice C n c] Tc)).heap.size = u.heap.size + 1 := by simp
  have hnw : Rg.Own encO 1 w' B TI (.slice (some ⟨g, 0, none⟩) (ds.length + 1) cap) (ds ++ [(C, n, c)]) := by
    unfold Rg.Own
    rw [Rg.flat_app, List.length_append]
    exact g1
  have hin := in_below h2 hal
  have keep : ∀ (j : Nat) (d : Desc) (m : List α), ds[j]? = some d → t[j]? = some m → Rg.Row enc K w' d.1 m := fun j d m e1 e2 => row_grown (hin.2 j d m e1 e2).2 g2 (h3 j d m e1 e2)
  have hblk : ∀ (b : Nat), b < u.heap.size → v.ownBlock ≠ some b → (some g : Option Nat) ≠ some b := fun b hb hv e => by
    rcases g3 with g3 | g3
    · exact hv (by rw [g3, e])
    · have := Option.some.inj e; omega
  refine h _ w' ⟨ds ++ [(C, n, c)], hnw, ⟨by rw [List.length_append, List.length_append, h2.1]; rfl, fun j d m e1 e2 => ?_⟩, fun j d m e1 e2 hm ad had => ?_⟩ ?_ (by have := g2.size; omega)
  · rcases get_snoc e1 with ⟨q1, q2⟩ | ⟨q1, q2⟩
    · rcases get_snoc e2 with ⟨_, p2⟩ | ⟨p1, _⟩
      · exact ⟨(h2.2 j d m q2 p2).1, keep j d m q2 p2⟩
      · have := h2.1; omega
    · rcases get_snoc e2 with ⟨p1, _⟩ | ⟨_, p2⟩
      · have := h2.1; omega
      · subst q2 p2
        exact ⟨hn.symm, row_grown (Rg.row_below hrow hal) g2 hfresh⟩
  · rcases get_snoc e1 with ⟨q1, q2⟩ | ⟨q1, q2⟩
    · rcases get_snoc e2 with ⟨_, p2⟩ | ⟨p1, _⟩
      · obtain ⟨a2, ea, hlt, _⟩ := (h2.2 j d m q2 p2).2 hm
        rw [had] at ea
        cases ea
        exact hblk _ hlt (h3 j d m q2 p2 hm ad had)
      · have := h2.1; omega
    · rcases get_snoc e2 with ⟨p1, _⟩ | ⟨_, p2⟩
      · have := h2.1; omega
      · subst q2 p2
        obtain ⟨a2, ea, hlt, _⟩ := hrow hm
        rw [show C = some ad from had] at ea
        cases ea
        exact hblk _ hlt (hfresh hm ad had)
  · exact (hal.mono hB).trans (Rg.grown_below hown (Nat.le_trans hB hal.size) g2)
theorem row_own {w : World} {B : Nat} {TI : TypeId} {v : Value} {t : List (List α)} (h : Own enc K w B TI v t) : ∃ C d, v = .slice C t.length d ∧ Row enc K w C t := by
  obtain ⟨ds, h1, h2, _⟩ := h
  obtain ⟨C, d, hv, hr, _, _⟩ := Rg.row_own fitsO h1
  rw [h2.1] at hv
  exact ⟨C, d, hv, ds, hr, h2⟩
theorem row_at {w : World} {A : Option Addr} {t : List (List α)} (h : Row enc K w A t) (k : Nat) (hk : k < t.length) : ∃ ad C n c, A = some ad ∧ ad.block < w.heap.size ∧ w.cell? (ad.add k) = some (.slice C n c) ∧ t[k].length = n ∧ Rg.Row enc K w C t[k] := by
  obtain ⟨ds, h1, h2, h3⟩ := h
  have hkd : k < ds.length := by omega
  obtain ⟨ad, x, e, hx, hlt, hc⟩ := Rg.row_at h1 k hkd
  obtain ⟨q1, q2⟩ := h3 k x t[k] (by rw [List.getElem?_eq_getElem hkd, hx]) (List.getElem?_eq_getElem hk)
  refine ⟨ad, x.1, x.2.1, x.2.2, e, hlt, ?_, q1.symm, q2⟩
  have := hc 0 _ rfl
  rw [if_pos rfl, Nat.mul_one] at this
  exact this
/-- A row that a function has just made does not lie in an elder block. -/
theorem fresh {w : World} {B : Nat} {TI : TypeId} {v : Value} {t : List (List α)} {C : Option Addr} {b : Nat} (hO : Own enc K w B TI v t) (hsz : w.heap.size ≤ b) (hf : ∀ a, C = some a → b ≤ a.block) (l : List α) : 0 < l.length → ∀ a, C = some a → v.ownBlock ≠ some a.block := fun _ a ha hb => by
  obtain ⟨ds, h1, _, _⟩ := hO
  have h2 := (Rg.own_lt h1 a.block hb).2
  have h3 := hf a ha
  omega
end
end Go.Proofs.Ytjkmdghlhodhiaa.Gr

/- The reader's own memory, step by step. -/
import Derived.Test.YtmhobdlhmkbkdaaDoorSf
import Derived.Lib.Builder
namespace Go.Proofs.YtmhobdlhmkbkdaaDoor.Sz
open Go.RowKit Go.Maps

theorem set_grown (w : World) (a : Addr) (v : Value) : w.grownBy (w.setCell a v) (some a.block) := ⟨rfl, rfl, rfl, by simp [World.setCell], fun k _ hk => Below.heap_setCell _ _ _ _ (fun e => hk (by simp [e]))⟩
section
variable {α : Type} {enc : α → List Value} {K : Nat}
theorem own_kept {w w' : World} {B : Nat} {T : TypeId} {v : Value} {l : List α} {row : Option Nat} (h : Rg.Own enc K w B T v l) (hg : w.grownBy w' row) (hne : v.ownBlock = none ∨ v.ownBlock ≠ row) : Rg.Own enc K w' B T v l := World.ownsRow.kept h hg hne
theorem own_cells {w : World} {B : Nat} {T : TypeId} {v : Value} {l : List α} {g : Nat} (h : Rg.Own enc K w B T v l) (hg : v.ownBlock = some g) : ∃ cs fr, w.heap[g]? = some (.cells cs T fr) := by
  rcases h.2 with ⟨rfl, _⟩ | ⟨g', cap, cur, rfl, _, hgg, _⟩
  · cases hg
  · cases hg; exact ⟨_, _, hgg⟩
theorem own_ne {w : World} {B : Nat} {T T2 : TypeId} {v : Value} {l : List α} {b : Nat} {cs : Array Value} {fr : Nat × Nat} (h : Rg.Own enc K w B T v l) (hb : w.heap[b]? = some (.cells cs T2 fr)) (hT : T2 ≠ T) : v.ownBlock ≠ some b := fun e => by
  obtain ⟨cs2, fr2, hc⟩ := own_cells h e
  rw [hb] at hc
  exact hT (Obj.cells.inj (Option.some.inj hc)).2.1
theorem in_grown {w w' : World} {ds : List Desc} {t : List (List α)} {b : Nat} (h : Gr.In enc K w ds t) (hg : w.grownBy w' (some b)) (hf : Gr.Free (.slice (some ⟨b, 0, none⟩) 0 0) ds t) : Gr.In enc K w' ds t :=
  ⟨h.1, fun i d l h1 h2 => ⟨(h.2 i d l h1 h2).1, row_grown (h.2 i d l h1 h2).2 hg (fun h0 a ha => by
    have := hf i d l h1 h2 h0 a ha
    exact this)⟩⟩
theorem in_grownV {w w' : World} {ds : List Desc} {t : List (List α)} {v : Value} (h : Gr.In enc K w ds t) (hg : w.grownBy w' v.ownBlock) (hf : Gr.Free v ds t) : Gr.In enc K w' ds t :=
  ⟨h.1, fun i d l h1 h2 => ⟨(h.2 i d l h1 h2).1, row_grown (h.2 i d l h1 h2).2 hg (fun h0 a ha => hf i d l h1 h2 h0 a ha)⟩⟩
theorem in_lt {w : World} {ds : List Desc} {t : List (List α)} (h : Gr.In enc K w ds t) : ∀ (i : Nat) (d : Desc) (l : List α), ds[i]? = some d → t[i]? = some l → 0 < l.length → ∀ a, d.1 = some a → a.block < w.heap.size := fun i d l h1 h2 h0 a ha => by
  obtain ⟨a2, e, hlt, _⟩ := (h.2 i d l h1 h2).2 h0
  rw [ha] at e; cases e; exact hlt
end
/-- All but block d is as it was, as far as B. -/
def Keeps (B d : Nat) (w w' : World) : Prop := Below 0 w w' ∧ ∀ k, k < B → k ≠ d → w'.heap[k]? = w.heap[k]?
theorem keeps_of {B d : Nat} {w w' : World} (h : Below B w w') : Keeps B d w w' := ⟨h.mono (Nat.zero_le _), fun k hk _ => h.block k hk⟩
theorem keeps_trans {B d : Nat} {w u w' : World} (h : Keeps B d w u) (k : Keeps B d u w') : Keeps B d w w' := ⟨h.1.trans k.1, fun i hi hd => (k.2 i hi hd).trans (h.2 i hi hd)⟩
theorem keeps_set {B d j : Nat} {w u : World} (h : Keeps B d w u) (x : Value) : Keeps B d w (u.setCell ⟨d, j, none⟩ x) := ⟨h.1.setCell (Nat.zero_le _) _, fun i hi hd => (Below.heap_setCell _ _ _ _ (fun e => hd (by simp [e]))).trans (h.2 i hi hd)⟩
theorem keeps_low {B d : Nat} {w u : World} (h : Keeps B d w u) (hd : d ≤ B) : Below d w u := ⟨h.1.os, h.1.tape, h.1.output, h.1.size, fun k hk => h.2 k (Nat.lt_of_lt_of_le hk hd) (Nat.ne_of_lt hk)⟩
/-- The reader's draft in block d: what has ended, the last stanza, its keys. -/
def DrO (w : World) (B d : Nat) (v0 v1 v2 : Value) (ds : List Desc) (acc : List (List Fld)) (last : List Fld) : Prop :=
  True ∧ w.heap[d]? = some (.cells #[v0, v1, v2] 78 (0, 0)) ∧ Rg.Own encO 1 w B 38 v0 ds ∧ Gr.In encF 3 w ds acc ∧ Gr.Free v0 ds acc ∧
  Rg.Own encF 3 w B 43 v1 last ∧ Gr.Free v1 ds acc ∧ Gr.Free (.slice (some ⟨d, 0, none⟩) 0 0) ds acc
theorem dro_new {w : World} {B : Nat} : DrO (w.alloc (.cells #[.slice none 0 0, .slice none 0 0, .map none] 78)) B w.heap.size (.slice none 0 0) (.slice none 0 0) (.map none) [] [] [] :=
  ⟨trivial, heap_alloc_new _ _, Rg.own_nil _ _ _, ⟨rfl, fun i d l h => by simp at h⟩, fun i d l h => by simp at h, Rg.own_nil _ _ _, fun i d l h => by simp at h, fun i d l h => by simp at h⟩
theorem dro_lt {w : World} {B d : Nat} {v0 v1 v2 : Value} {ds : List Desc} {acc : List (List Fld)} {last : List Fld} (h : DrO w B d v0 v1 v2 ds acc last) : d < w.heap.size := (Array.getElem?_eq_some_iff.1 h.2.1).1
theorem dro_cells {w : World} {B d : Nat} {v0 v1 v2 : Value} {ds : List Desc} {acc : List (List Fld)} {last : List Fld} (h : DrO w B d v0 v1 v2 ds acc last) :
    w.cell? ⟨d, 0, none⟩ = some v0 ∧ w.cell? ⟨d, 1, none⟩ = some v1 ∧ w.cell? ⟨d, 2, none⟩ = some v2 ∧ w.frozen? ⟨d, 0, none⟩ = false ∧ w.frozen? ⟨d, 1, none⟩ = false ∧ w.frozen? ⟨d, 2, none⟩ = false := by
  have hb := h.2.1
  refine ⟨?_, ?_, ?_, ?_, ?_, ?_⟩ <;> simp [World.cell?, World.frozen?, hb]
theorem dro_below {w w' : World} {B d : Nat} {v0 v1 v2 : Value} {ds : List Desc} {acc : List (List Fld)} {last : List Fld} (h : DrO w B d v0 v1 v2 ds acc last) (hb : Below w.heap.size w w') : DrO w' B d v0 v1 v2 ds acc last := by
  have hlt := dro_lt h
  obtain ⟨h0, h1, h2, h3, h4, h5, h6, h7⟩ := h
  exact ⟨h0, (hb.block d hlt).trans h1, Rg.own_below h2 hb, Gr.in_below h3 hb, h4, Rg.own_below h5 hb, h6, h7⟩
theorem neS : 78 ≠ 38 := by decide
theorem neF : 78 ≠ 43 := by decide
theorem neSF : 38 ≠ 43 := by decide
/-- A store into the draft itself. -/
theorem dro_set {w : World} {B d : Nat} {v0 v1 v2 : Value} {ds : List Desc} {acc : List (List Fld)} {last : List Fld} (h : DrO w B d v0 v1 v2 ds acc last) (j : Nat) (x : Value) {u0 u1 u2 : Value} (hj : (#[v0, v1, v2] : Array Value).setIfInBounds j x = #[u0, u1, u2]) :
    (w.setCell ⟨d, j, none⟩ x).heap[d]? = some (.cells #[u0, u1, u2] 78 (0, 0)) ∧ Rg.Own encO 1 (w.setCell ⟨d, j, none⟩ x) B 38 v0 ds ∧ Gr.In encF 3 (w.setCell ⟨d, j, none⟩ x) ds acc ∧ Rg.Own encF 3 (w.setCell ⟨d, j, none⟩ x) B 43 v1 last := by
  obtain ⟨h0, h1, h2, h3, h4, h5, h6, h7⟩ := h
  have hg := set_grown w ⟨d, j, none⟩ x
  refine ⟨?_, own_kept h2 hg (Or.inr (own_ne h2 h1 neS)), in_grown h3 hg h7, own_kept h5 hg (Or.inr (own_ne h5 h1 neF))⟩
  simp [World.setCell, Array.getElem?_modify, h1, hj]
theorem dro_keys {w : World} {B d : Nat} {v0 v1 v2 : Value} {ds : List Desc} {acc : List (List Fld)} {last : List Fld} (h : DrO w B d v0 v1 v2 ds acc last) (x : Value) : DrO (w.setCell ⟨d, 2, none⟩ x) B d v0 v1 x ds acc last := by
  obtain ⟨g1, g2, g3, g4⟩ := dro_set h 2 x rfl
  exact ⟨h.1, g1, g2, g3, h.2.2.2.2.1, g4, h.2.2.2.2.2.2.1, h.2.2.2.2.2.2.2⟩
theorem map_no_cell {w : World} {m : Nat} {es : Array MapEntry} {c : Nat} (h : w.heap[m]? = some (.map es c)) (j : Nat) : w.cell? ⟨m, j, none⟩ = none := by simp [World.cell?, h]
theorem dro_map {w w' : World} {B d m : Nat} {v0 v1 v2 : Value} {ds : List Desc} {acc : List (List Fld)} {last : List Fld} {ks : List (List UInt8)} (h : DrO w B d v0 v1 v2 ds acc last) (hk : KSet w m ks) (ht : w.mapTurned w' m) : DrO w' B d v0 v1 v2 ds acc last := by
  obtain ⟨n, D, ⟨es, clock, hm, _⟩, _⟩ := hk
  obtain ⟨h0, h1, h2, h3, h4, h5, h6, h7⟩ := h
  have hg := ht.grown
  have hdm : d ≠ m := fun e => by subst e; rw [hm] at h1; cases h1
  have n0 : v0.ownBlock ≠ some m := fun e => by
    obtain ⟨cs, fr, hc⟩ := own_cells h2 e
    rw [hm] at hc; cases hc
  have n1 : v1.ownBlock ≠ some m := fun e => by
    obtain ⟨cs, fr, hc⟩ := own_cells h5 e
    rw [hm] at hc; cases hc
  have hf : Gr.Free (.slice (some ⟨m, 0, none⟩) 0 0) ds acc := fun i dd l e1 e2 hl a ha hb => by
    have hb2 : m = a.block := Option.some.inj hb
    obtain ⟨a2, e, _, hc⟩ := (h3.2 i dd l e1 e2).2 hl
    rw [ha] at e; cases e
    have := hc 0 hl 0 _ rfl
    rw [if_pos rfl] at this
    have hblk : (a.add (0 * 3)).block = m := by rw [Rs.add_block]; exact hb2.symm
    obtain ⟨q, hq⟩ : ∃ q, a.add (0 * 3) = q := ⟨_, rfl⟩
    rw [hq] at this hblk
    unfold World.cell? at this
    rw [hblk, hm] at this
    cases this
  exact ⟨h0, by rw [← h1]; exact hg.block d (dro_lt ⟨h0, h1, h2, h3, h4, h5, h6, h7⟩) (fun e => hdm (Option.some.inj e)), own_kept h2 hg (Or.inr n0), in_grown h3 hg hf, h4, own_kept h5 hg (Or.inr n1), h6, h7⟩
/-- A field is appended to the last stanza, and the new slice stored. -/
theorem dro_add {w w' : World} {B d g n cap : Nat} {v0 v1 v2 : Value} {ds : List Desc} {acc : List (List Fld)} {last : List Fld} {f : Fld} (h : DrO w B d v0 v1 v2 ds acc last) (ho : Rg.Own encF 3 w' B 43 (.slice (some ⟨g, 0, none⟩) n cap) (last ++ [f])) (hg : w.grownBy w' v1.ownBlock) (hl : v1.ownBlock = some g ∨ w.heap.size ≤ g) :
    DrO (w'.setCell ⟨d, 1, none⟩ (.slice (some ⟨g, 0, none⟩) n cap)) B d v0 (.slice (some ⟨g, 0, none⟩) n cap) v2 ds acc (last ++ [f]) := by
  have hlt := dro_lt h
  obtain ⟨h0, h1, h2, h3, h4, h5, h6, h7⟩ := h
  have hd1 : v1.ownBlock ≠ some d := own_ne h5 h1 neF
  have h1' : w'.heap[d]? = some (.cells #[v0, v1, v2] 78 (0, 0)) := (hg.block d hlt (fun e => hd1 e.symm)).trans h1
  have h01 : v0.ownBlock = none ∨ v0.ownBlock ≠ v1.ownBlock := by
    cases e0 : v0.ownBlock with
    | none => exact Or.inl rfl
    | some b0 =>
      refine Or.inr fun e => ?_
      obtain ⟨cs, fr, hc⟩ := own_cells h2 e0
      exact own_ne h5 hc neSF e.symm
  have h2' : Rg.Own encO 1 w' B 38 v0 ds := own_kept h2 hg h01
  have h3' := in_grownV h3 hg h6
  have hs := set_grown w' ⟨d, 1, none⟩ (.slice (some ⟨g, 0, none⟩) n cap)
  refine ⟨h0, ?_, own_kept h2' hs (Or.inr (own_ne h2' h1' neS)), in_grown h3' hs h7, h4, own_kept ho hs (Or.inr (own_ne ho h1' neF)), ?_, h7⟩
  · simp [World.setCell, Array.getElem?_modify, h1']
  · intro i dd l e1 e2 hl0 a ha hb
    have hb2 : g = a.block := Option.some.inj hb
    have hal := in_lt h3 i dd l e1 e2 hl0 a ha
    rcases hl with hl | hl
    · exact h6 i dd l e1 e2 hl0 a ha (by rw [hl, hb2])
    · omega
/-- The last stanza is appended to those that have ended, and the new slice stored; then there is no last one. -/
theorem dro_end {w w' : World} {B d g n cap nl cl : Nat} {A : Option Addr} {v0 v2 : Value} {ds : List Desc} {acc : List (List Fld)} {last : List Fld} (h : DrO w B d v0 (.slice A nl cl) v2 ds acc last) (hn : last.length = nl)
    (ho : Rg.Own encO 1 w' B 38 (.slice (some ⟨g, 0, none⟩) n cap) (ds ++ [(A, nl, cl)])) (hg : w.grownBy w' v0.ownBlock) (hl : v0.ownBlock = some g ∨ w.heap.size ≤ g) :
    DrO ((w'.setCell ⟨d, 0, none⟩ (.slice (some ⟨g, 0, none⟩) n cap)).setCell ⟨d, 1, none⟩ (.slice none 0 0)) B d (.slice (some ⟨g, 0, none⟩) n cap) (.slice none 0 0) v2 (ds ++ [(A, nl, cl)]) (acc ++ [last]) [] := by
  have hlt := dro_lt h
  obtain ⟨h0, h1, h2, h3, h4, h5, h6, h7⟩ := h
  have hd0 : v0.ownBlock ≠ some d := own_ne h2 h1 neS
  have h1' : w'.heap[d]? = some (.cells #[v0, .slice A nl cl, v2] 78 (0, 0)) := (hg.block d hlt (fun e => hd0 e.symm)).trans h1
  obtain ⟨A2, c2, hv, hrow, _, _⟩ := Rg.row_own fitsF h5
  rw [hn] at hv
  cases hv
  have hA : ∀ a, A = some a → 0 < last.length → (∃ cs fr, w.heap[a.block]? = some (.cells cs 43 fr)) ∧ a.block < w.heap.size := fun a ha hl0 => by
    obtain ⟨cs, fr, hc⟩ := own_cells (g := a.block) h5 (by rw [ha]; rfl)
    exact ⟨⟨cs, fr, hc⟩, (Array.getElem?_eq_some_iff.1 hc).1⟩
  have h3' := in_grownV h3 hg h4
  have hrow' : Rg.Row encF 3 w' A last := row_grown hrow hg (fun hl0 a ha e => by
    obtain ⟨⟨cs, fr, hc⟩, _⟩ := hA a ha hl0
    exact own_ne h2 hc (fun e => neSF e.symm) e)
  have hin : Gr.In encF 3 w' (ds ++ [(A, nl, cl)]) (acc ++ [last]) := by
    refine ⟨by rw [List.length_append, List.length_append, h3'.1]; rfl, fun i dd l e1 e2 => ?_⟩
    rcases get_snoc e1 with ⟨q1, q2⟩ | ⟨q1, q2⟩
    · rcases get_snoc e2 with ⟨_, p2⟩ | ⟨p1, _⟩
      · exact h3'.2 i dd l q2 p2
      · have := h3'.1; omega
    · rcases get_snoc e2 with ⟨p1, _⟩ | ⟨_, p2⟩
      · have := h3'.1; omega
      · subst q2 p2; exact ⟨hn.symm, hrow'⟩
  have hfree : ∀ b, Gr.Free (.slice (some ⟨b, 0, none⟩) 0 0) ds acc → (∀ a, A = some a → 0 < last.length → b ≠ a.block) → Gr.Free (.slice (some ⟨b, 0, none⟩) 0 0) (ds ++ [(A, nl, cl)]) (acc ++ [last]) := fun b hf hb i dd l e1 e2 hl0 a ha => by
    rcases get_snoc e1 with ⟨q1, q2⟩ | ⟨q1, q2⟩
    · rcases get_snoc e2 with ⟨_, p2⟩ | ⟨p1, _⟩
      · exact hf i dd l q2 p2 hl0 a ha
      · have := h3'.1; omega
    · rcases get_snoc e2 with ⟨p1, _⟩ | ⟨_, p2⟩
      · have := h3'.1; omega
      · subst q2 p2; exact fun e => hb a ha hl0 (Option.some.inj e)
  have hfd := hfree d h7 (fun a ha hl0 e => by
    obtain ⟨⟨cs, fr, hc⟩, _⟩ := hA a ha hl0
    rw [← e, h1] at hc
    exact neF (Obj.cells.inj (Option.some.inj hc)).2.1)
  have hfg := hfree g (fun i dd l e1 e2 hl0 a ha e => by
    have hal := in_lt h3 i dd l e1 e2 hl0 a ha
    have e3 : g = a.block := Option.some.inj e
    rcases hl with hl | hl
    · exact h4 i dd l e1 e2 hl0 a ha (by rw [hl, e3])
    · omega) (fun a ha hl0 e => by
    obtain ⟨⟨cs, fr, hc⟩, hlt2⟩ := hA a ha hl0
    rcases hl with hl | hl
    · rw [← e] at hc
      exact own_ne h2 hc (fun e => neSF e.symm) hl
    · omega)
  have hs0 := set_grown w' ⟨d, 0, none⟩ (.slice (some ⟨g, 0, none⟩) n cap)
  have h1'' : (w'.setCell ⟨d, 0, none⟩ (.slice (some ⟨g, 0, none⟩) n cap)).heap[d]? = some (.cells #[.slice (some ⟨g, 0, none⟩) n cap, .slice A nl cl, v2] 78 (0, 0)) := by simp [World.setCell, Array.getElem?_modify, h1']
  have ho' := own_kept ho hs0 (Or.inr (own_ne ho h1' neS))
  have hin' := in_grown hin hs0 hfd
  have hs1 := set_grown (w'.setCell ⟨d, 0, none⟩ (.slice (some ⟨g, 0, none⟩) n cap)) ⟨d, 1, none⟩ (.slice none 0 0)
  refine ⟨h0, ?_, own_kept ho' hs1 (Or.inr (own_ne ho' h1'' neS)), in_grown hin' hs1 hfd, ?_, Rg.own_nil _ _ _, fun i dd l e1 e2 hl0 a ha e => (by cases e), hfd⟩
  · have e : ∀ (x : World), x.heap[d]? = some (.cells #[.slice (some ⟨g, 0, none⟩) n cap, .slice A nl cl, v2] 78 (0, 0)) → (x.setCell ⟨d, 1, none⟩ (.slice none 0 0)).heap[d]? = some (.cells #[.slice (some ⟨g, 0, none⟩) n cap, .slice none 0 0, v2] 78 (0, 0)) := fun x hx => by simp [World.setCell, Array.getElem?_modify, hx]
    exact e _ h1''
  · exact fun i dd l e1 e2 hl0 a ha e => hfg i dd l e1 e2 hl0 a ha e
end Go.Proofs.YtmhobdlhmkbkdaaDoor.Sz

/- The reader's last stanza ends: walked. -/
import Derived.Test.YtmhobdlhmkbkdaaDoorSg
namespace Go.Proofs.YtmhobdlhmkbkdaaDoor
open Go.RowKit Go.Maps Sz
attribute [local go_sem ↓] Go.wp_at_zero Go.wp_at_succ
section
variable {α : Type} {P : Program} {enc : α → List Value} {K : Nat} {ST T : TypeId} {w : World}
/-- An append at a step of a region that draws its order: where the new slice lies is told. -/
theorem Rg.step_app_at (hf : Rg.Fits enc K) (hT : Rg.SliceT P enc K ST T) {ops : Array Oper} {o : Oper} {a : Act} {G : Act → World → Prop} {Q : Exit → Act → World → Prop} {E : Prop} (hgd : o.guard = none) (sl x : Operand)
    (ho : o.op = .call { callee := .builtin .append, args := #[sl, x], argTypes := #[ST, ST] })
    (B : Nat) (v : Value) (l m : List α) (hs : a.eval sl = v) (hown : Rg.Own enc K w B T v l) (ad : Addr) (c : Nat) (hx : a.eval x = .slice (some ad) m.length c)
    (hnews : ∀ j u, (Rg.flat enc m)[j]? = some u → w.cell? (ad.add j) = some u) (hm : 0 < m.length) (hsz : l.length + m.length ≤ 1000000) (hB : B ≤ w.heap.size)
    (h : ∀ g cap w', Rg.Own enc K w' B T (.slice (some ⟨g, 0, none⟩) (l.length + m.length) cap) (l ++ m) → w.grownBy w' v.ownBlock → (v.ownBlock = some g ∨ g = w.heap.size) → G (a.put o.dst (.slice (some ⟨g, 0, none⟩) (l.length + m.length) cap)) w') :
    if Region.wanted o (yielded ops a.tmps) = true then Oper.wp P o a w G Q else E := by
  obtain ⟨i, z, hi, hz0, hz1, hz2, hb⟩ := hT.info
  refine step_append_lies w hgd sl x ST ho B T i z K i.bytes hT.under hi hz0 hz2 rfl hz1 hT.pos v l.length (Rg.flat enc l) hs hown ad m.length c (Rg.flat enc m) hx (Rg.flat_len hf m) hnews (Rg.flat_ones hf m) hm (by unfold maxLen; omega) (by
    have : (l.length + m.length) * i.bytes ≤ 1000000 * 1000 := Nat.mul_le_mul hsz hb
    omega) hB _ rfl ?_
  intro g cap w' h1 h2 h3 _
  refine h g cap w' ?_ h2 h3
  unfold Rg.Own
  rw [Rg.flat_app, List.length_append]
  exact h1
end
/-- What the draft's own cells hold behind an append to another row. -/
theorem Sz.dro_far {w u W : World} {B d : Nat} {v0 v1 v2 : Value} {ds : List Desc} {acc : List (List Fld)} {last : List Fld} {row : Option Nat} (h : DrO w B d v0 v1 v2 ds acc last) (hb : Below w.heap.size w u) (hg : u.grownBy W row) (hne : row ≠ some d) :
    W.cell? ⟨d, 0, none⟩ = some v0 ∧ W.cell? ⟨d, 1, none⟩ = some v1 ∧ W.cell? ⟨d, 2, none⟩ = some v2 ∧ W.frozen? ⟨d, 0, none⟩ = false ∧ W.frozen? ⟨d, 1, none⟩ = false ∧ W.frozen? ⟨d, 2, none⟩ = false := by
  have hlt := dro_lt h
  have hbl : W.heap[d]? = some (.cells #[v0, v1, v2] 78 (0, 0)) := (hg.block d (Nat.lt_of_lt_of_le hlt hb.size) (fun e => hne e.symm)).trans ((hb.block d hlt).trans h.2.1)
  refine ⟨?_, ?_, ?_, ?_, ?_, ?_⟩ <;> simp [World.cell?, World.frozen?, hbl]
/-- An append to a row of one's own leaves what lies below the base. -/
theorem Sz.own_base {α : Type} {enc : α → List Value} {K : Nat} {w u W : World} {B : Nat} {T : TypeId} {v : Value} {l : List α} (ho : Rg.Own enc K w B T v l) (hB : B ≤ w.heap.size) (hb : Below w.heap.size w u) (hg : u.grownBy W v.ownBlock) : Below B w W := by
  exact (hb.mono hB).trans (Rg.grown_below (Rg.own_below ho hb) (Nat.le_trans hB hb.size) hg)
theorem Sz.grown_of {w u W : World} {row : Option Nat} (hb : Below w.heap.size w u) (hg : u.grownBy W row) : w.grownBy W row := by
  have hbb := hb
  have hgg := hg
  obtain ⟨b1, b2, b3, b4, b5⟩ := hbb
  obtain ⟨g1, g2, g3, g4, g5⟩ := hgg
  refine ⟨?_, ?_, ?_, Nat.le_trans b4 g4, fun k hk hne => (g5 k (Nat.lt_of_lt_of_le hk b4) hne).trans (b5 k hk)⟩
  · first | exact g1.trans b1 | exact b1.trans g1
  · first | exact g2.trans b2 | exact b2.trans g2
  · first | exact g3.trans b3 | exact b3.trans g3
def Sz.EndRet (w : World) (B d : Nat) (v2 : Value) (acc : List (List Fld)) (last : List Fld) (e : Ending) (w' : World) : Prop :=
  e = .returned (.tuple #[]) ∧ Keeps B d w w' ∧ w.heap.size ≤ w'.heap.size ∧ ∃ u0 u1 ds, DrO w' B d u0 u1 v2 ds (if last = [] then acc else acc ++ [last]) []
set_option maxRecDepth 100000 in
set_option maxHeartbeats 1600000 in
theorem draftEnd_any {w : World} {B d : Nat} {v0 v1 v2 : Value} {ds : List Desc} {acc : List (List Fld)} {last : List Fld} (h : DrO w B d v0 v1 v2 ds acc last) (hsz : ds.length + 1 ≤ 1000000) (hB : B ≤ w.heap.size) :
    Calls Tryd.prog 34 #[.pointer (some ⟨d, 0, none⟩)] w (Sz.EndRet w B d v2 acc last) := by
  obtain ⟨A, c, hv, hrow, _, _⟩ := Rg.row_own fitsF h.2.2.2.2.2.1
  obtain ⟨n, hn⟩ : ∃ n, last.length = n := ⟨_, rfl⟩
  rw [hn] at hv
  subst hv
  have H := Lib.hid h
  have HN := Lib.hid hn
  have HSZ := Lib.hid hsz
  have HB0 := Lib.hid hB
  obtain ⟨d0, d1, d2, f0, f1, f2⟩ := dro_cells h
  clear h hn hsz hrow hB
  by_cases h0 : n = 0
  · subst h0
    have hl : Hid (last = []) := List.length_eq_zero_iff.1 HN.out
    go_enter Tryd.func34, Tryd.ntmps34
    go_wp2_with fail
    exact bodyPost_ret (v := .tuple #[]) (by simp [results, Tryd.results34, go_sem]) rfl ⟨rfl, keeps_of (Below.refl _ _), Nat.le_refl _, v0, _, ds, by rw [if_pos hl.out, ← hl.out]; exact H.out⟩
  · have hpos : (0 : Int) < (n : Int) := by omega
    have hl : Hid (last ≠ []) := fun e => h0 (by rw [← HN.out, e]; rfl)
    clear h0
    go_enter Tryd.func34, Tryd.ntmps34
    go_wp2_with fail
    have hbA : Below w.heap.size w (w.alloc (.cells #[.slice A n c] 38)) := (Below.refl _ _).alloc (Nat.le_refl _) _
    have a0 := (dro_cells (dro_below H.out hbA)).1
    clear hbA
    have HNE : Hid (v0.ownBlock ≠ some d) := own_ne H.out.2.2.1 H.out.2.1 neS
    go_region_law (refine Rg.step_app_at fitsO sliceE (by rfl) (.tmp 12) (.tmp 17) (by rfl) B v0 ds [(A, n, c)] (by rfl) (Rg.own_below H.out.2.2.1 ((Below.refl _ _).drew.alloc (Nat.le_refl _) _)) _ _ (by rfl) (Rg.news_new _ _ [(A, n, c)] _ (by rfl)) (Nat.zero_lt_succ _) HSZ.out (Nat.le_trans HB0.out (by simp)) ?_; intro g cap W5 ho5 hg5 hl5; have HO5 := Lib.hid ho5; have HG5 := Lib.hid hg5; have HL5 := Lib.hid hl5; obtain ⟨e0, e1, e2, k0, k1, k2⟩ := dro_far H.out ((Below.refl _ _).drew.alloc (Nat.le_refl _) _) hg5 HNE.out; clear ho5 hg5 hl5)
    all_goals (
      have HBW := own_base H.out.2.2.1 HB0.out ((Below.refl _ _).drew.alloc (Nat.le_refl _) _) HG5.out
      have HSZ5 : Hid (w.heap.size ≤ W5.heap.size) := Nat.le_trans (by simp) HG5.out.size
      have HBW5 := Lib.hid HBW
      have HD := Lib.hid (dro_end (w := w) (g := g) (n := ds.length + 1) (cap := cap) H.out HN.out HO5.out (grown_of ((Below.refl _ _).drew.alloc (Nat.le_refl _) _) HG5.out) (HL5.out.imp id (fun h => by rw [h]; simp)))
      clear HBW
      go_wp2_with fail
      exact bodyPost_ret (v := .tuple #[]) (by simp [results, Tryd.results34, go_sem]) rfl ⟨rfl, keeps_set (keeps_set (keeps_of HBW5.out) _) _, by simpa using HSZ5.out, _, _, _, by rw [if_neg hl.out]; exact HD.out⟩)
end Go.Proofs.YtmhobdlhmkbkdaaDoor

/- A field found by its key: walked. -/
import Derived.Test.YtmhobdlhmkbkdaaDoorSo
namespace Go.Proofs.YtmhobdlhmkbkdaaDoor
open Go.RowKit Go.Maps Sz
attribute [local go_sem ↓] Go.wp_at_zero Go.wp_at_succ
theorem Sz.field_at {w : World} {A : Option Addr} {l : List Fld} (h : Rg.Row encF 3 w A l) (k : Nat) (hk : k < l.length) :
    ∃ ad, A = some ad ∧ ad.block < w.heap.size ∧ w.cell? (ad.add (k * 3)) = some (.string ⟨l[k].key.toArray⟩) ∧ w.cell? ⟨(ad.add (k * 3)).block, (ad.add (k * 3)).off + 1, none⟩ = some (.string ⟨l[k].val.toArray⟩) ∧ w.cell? ⟨(ad.add (k * 3)).block, (ad.add (k * 3)).off + 2, none⟩ = some (.int .i64 l[k].line) := by
  obtain ⟨ad, x, e, hx, hlt, hc⟩ := Rg.row_at h k hk
  subst hx
  exact ⟨ad, e, hlt, hc 0 _ rfl, hc 1 _ rfl, hc 2 _ rfl⟩
/-- Fields whose texts are not too long. -/
def Sz.Short (l : List Fld) : Prop := ∀ f ∈ l, f.key.length ≤ 140737488355328 ∧ f.val.length ≤ 140737488355328
theorem Sz.short_at {l : List Fld} (h : Short l) (k : Nat) (hk : k < l.length) : l[k].key.length ≤ 140737488355328 ∧ l[k].val.length ≤ 140737488355328 := h _ (List.getElem_mem hk)
theorem Sz.getF_cons (f : Fld) (l : List Fld) (k : List UInt8) : getF (f :: l) k = if (f.key == k) = true then some f else getF l k := by
  unfold getF; rw [List.find?_cons]; cases f.key == k <;> rfl
/-- A field found, or none. -/
def Sz.GotRet (w : World) (R : Option Fld) (e : Ending) (w' : World) : Prop := e = .returned (.tuple #[.agg #[.string ⟨(R.getD ⟨[], [], 0⟩).key.toArray⟩, .string ⟨(R.getD ⟨[], [], 0⟩).val.toArray⟩, .int .i64 (R.getD ⟨[], [], 0⟩).line], .bool R.isSome]) ∧ Below w.heap.size w w'
set_option maxRecDepth 100000 in
set_option maxHeartbeats 1600000 in
theorem stanzaGet_any (A : Option Addr) (n c : Nat) (l : List Fld) (key : List UInt8) (w : World) (hn : l.length = n) (hr : Rg.Row encF 3 w A l) (hl : n ≤ 100000) (hs : Short l) :
    Calls Tryd.prog 15 #[.slice A n c, .string ⟨key.toArray⟩] w (Sz.GotRet w (getF l key)) := by
  obtain ⟨R, hR⟩ : ∃ R, getF l key = R := ⟨_, rfl⟩
  rw [hR]
  obtain ⟨W1, hW1⟩ : ∃ W, w.alloc (.cells #[.string ⟨#[]⟩, .string ⟨#[]⟩, .int .i64 0] 43) = W := ⟨_, rfl⟩
  have HBW : Hid (Below w.heap.size w W1) := alloc_low hW1
  have HC3 : Hid (∀ u, Below W1.heap.size W1 u → u.cell? ⟨w.heap.size, 0, none⟩ = some (.string ⟨#[]⟩) ∧ u.cell? ⟨w.heap.size, 1, none⟩ = some (.string ⟨#[]⟩) ∧ u.cell? ⟨w.heap.size, 2, none⟩ = some (.int .i64 0) ∧ u.frozen? ⟨w.heap.size, 0, none⟩ = false ∧ u.frozen? ⟨w.heap.size, 1, none⟩ = false ∧ u.frozen? ⟨w.heap.size, 2, none⟩ = false) := fun u hb => cell_three hW1 hb
  have HR := Lib.hid (Rg.row_below hr HBW.out)
  have HG := Lib.hid hR
  have HN := Lib.hid hn
  have HS := Lib.hid hs
  clear hr hR hn hs
  go_enter Tryd.func15, Tryd.ntmps15
  go_wp2_with fail
  clear hW1
  go_loopw [10] (fun i wr => ∃ k : Nat, k ≤ n ∧ i = .int .i64 k ∧ Hid (Below W1.heap.size W1 wr) ∧ Hid (getF (l.drop k) key = R)) (fun i _ => n - (intOf i).toNat)
  case atStart => exact ⟨0, Nat.zero_le _, rfl, Below.refl _ _, HG.out⟩
  case round =>
    obtain ⟨k, hk, rfl, HW, HH⟩ := hrel
    by_cases hlt : k < n
    · have hlr : k < l.length := by rw [HN.out]; exact hlt
      obtain ⟨ad, rfl, _, c0, c1, c2⟩ := field_at (Rg.row_below HR.out HW.out) k hlr
      have hd : l.drop k = l[k] :: l.drop (k + 1) := List.drop_eq_getElem_cons hlr
      obtain ⟨s1, s2⟩ := short_at HS.out k hlr
      have hh := HH.out
      rw [hd, getF_cons] at hh
      obtain ⟨f, hf⟩ : ∃ f, l[k] = f := ⟨_, rfl⟩
      rw [hf] at c0 c1 c2 hh s1 s2
      obtain ⟨fk, fv, fl⟩ := f
      dsimp only at c0 c1 c2 hh s1 s2
      obtain ⟨V, hV⟩ : ∃ V, wr.alloc (.cells #[.string ⟨fk.toArray⟩, .string ⟨fv.toArray⟩, .int .i64 fl] 43) = V := ⟨_, rfl⟩
      have HV1 : Hid (Below W1.heap.size W1 V) := HW.out.trans ((alloc_low hV).mono HW.out.size)
      obtain ⟨v0, v1, v2, _⟩ := cell_three hV (Below.refl _ _)
      have S1 := Lib.hid s1
      have S2 := Lib.hid s2
      clear hd hf s1 s2
      cases hq : fk == key
      · have HE : Hid (getF (l.drop (k + 1)) key = R) := by show _ = _; rw [← hh, if_neg (by rw [hq]; decide)]
        clear hh
        go_wp2_with fail
        clear hV
        go_roundw
        case rel => exact ⟨k + 1, by omega, by go_num, HV1, HE⟩
        case measure => simp [intOf]; omega
      · have HE : Hid (R = some ⟨fk, fv, fl⟩) := by show _ = _; rw [← hh, if_pos hq]
        clear hh
        go_wp2_with fail
        clear hV
        refine (fClone_any fk fv fl _ S1.out S2.out).mono ?_
        rintro _ u3 ⟨rfl, hb3⟩
        have HBU : Hid (Below W1.heap.size W1 u3) := HV1.out.trans (hb3.mono HV1.out.size)
        clear hb3
        obtain ⟨b0, b1, b2, f0, f1, f2⟩ := HC3.out _ HBU.out
        have HBV : Hid (Below w.heap.size w (((u3.setCell ⟨w.heap.size, 0, none⟩ (.string ⟨fk.toArray⟩)).setCell ⟨w.heap.size, 1, none⟩ (.string ⟨fv.toArray⟩)).setCell ⟨w.heap.size, 2, none⟩ (.int .i64 fl))) := (((HBW.out.trans (HBU.out.mono HBW.out.size)).setCell (Nat.le_refl _) _).setCell (Nat.le_refl _) _).setCell (Nat.le_refl _) _
        have g0 : (((u3.setCell ⟨w.heap.size, 0, none⟩ (.string ⟨fk.toArray⟩)).setCell ⟨w.heap.size, 1, none⟩ (.string ⟨fv.toArray⟩)).setCell ⟨w.heap.size, 2, none⟩ (.int .i64 fl)).cell? ⟨w.heap.size, 0, none⟩ = some (.string ⟨fk.toArray⟩) := by simp [go_sem, b0]
        have g1 : (((u3.setCell ⟨w.heap.size, 0, none⟩ (.string ⟨fk.toArray⟩)).setCell ⟨w.heap.size, 1, none⟩ (.string ⟨fv.toArray⟩)).setCell ⟨w.heap.size, 2, none⟩ (.int .i64 fl)).cell? ⟨w.heap.size, 1, none⟩ = some (.string ⟨fv.toArray⟩) := by simp [go_sem, b1]
        have g2 : (((u3.setCell ⟨w.heap.size, 0, none⟩ (.string ⟨fk.toArray⟩)).setCell ⟨w.heap.size, 1, none⟩ (.string ⟨fv.toArray⟩)).setCell ⟨w.heap.size, 2, none⟩ (.int .i64 fl)).cell? ⟨w.heap.size, 2, none⟩ = some (.int .i64 fl) := by simp [go_sem, b2]
        go_wp2_with fail
        generalize (((u3.setCell ⟨w.heap.size, 0, none⟩ (.string ⟨fk.toArray⟩)).setCell ⟨w.heap.size, 1, none⟩ (.string ⟨fv.toArray⟩)).setCell ⟨w.heap.size, 2, none⟩ (.int .i64 fl)) = V at *
        refine bodyPost_ret (v := .tuple #[.agg #[.string ⟨fk.toArray⟩, .string ⟨fv.toArray⟩, .int .i64 fl], .bool true]) ?_ rfl ?_
        · simp [results, Tryd.results15, go_sem, g0, g1, g2]
        · show GotRet w R _ _
          rw [HE.out]; exact ⟨rfl, HBV.out⟩
    · obtain rfl : k = n := by omega
      have HE : Hid (R = none) := by show _ = _; rw [← HH.out, List.drop_eq_nil_of_le (by rw [HN.out]; exact Nat.le_refl _)]; rfl
      have HBU := HW
      obtain ⟨b0, b1, b2, f0, f1, f2⟩ := HC3.out _ HBU.out
      have HBV : Hid (Below w.heap.size w (((wr.setCell ⟨w.heap.size, 0, none⟩ (.string ⟨#[]⟩)).setCell ⟨w.heap.size, 1, none⟩ (.string ⟨#[]⟩)).setCell ⟨w.heap.size, 2, none⟩ (.int .i64 0))) := (((HBW.out.trans (HBU.out.mono HBW.out.size)).setCell (Nat.le_refl _) _).setCell (Nat.le_refl _) _).setCell (Nat.le_refl _) _
      have g0 : (((wr.setCell ⟨w.heap.size, 0, none⟩ (.string ⟨#[]⟩)).setCell ⟨w.heap.size, 1, none⟩ (.string ⟨#[]⟩)).setCell ⟨w.heap.size, 2, none⟩ (.int .i64 0)).cell? ⟨w.heap.size, 0, none⟩ = some (.string ⟨#[]⟩) := by simp [go_sem, b0]
      have g1 : (((wr.setCell ⟨w.heap.size, 0, none⟩ (.string ⟨#[]⟩)).setCell ⟨w.heap.size, 1, none⟩ (.string ⟨#[]⟩)).setCell ⟨w.heap.size, 2, none⟩ (.int .i64 0)).cell? ⟨w.heap.size, 1, none⟩ = some (.string ⟨#[]⟩) := by simp [go_sem, b1]
      have g2 : (((wr.setCell ⟨w.heap.size, 0, none⟩ (.string ⟨#[]⟩)).setCell ⟨w.heap.size, 1, none⟩ (.string ⟨#[]⟩)).setCell ⟨w.heap.size, 2, none⟩ (.int .i64 0)).cell? ⟨w.heap.size, 2, none⟩ = some (.int .i64 0) := by simp [go_sem, b2]
      go_wp2_with fail
      generalize (((wr.setCell ⟨w.heap.size, 0, none⟩ (.string ⟨#[]⟩)).setCell ⟨w.heap.size, 1, none⟩ (.string ⟨#[]⟩)).setCell ⟨w.heap.size, 2, none⟩ (.int .i64 0)) = V at *
      refine bodyPost_ret (v := .tuple #[.agg #[.string ⟨#[]⟩, .string ⟨#[]⟩, .int .i64 0], .bool false]) ?_ rfl ?_
      · simp [results, Tryd.results15, go_sem, g0, g1, g2]
      · show GotRet w R _ _
        rw [HE.out]; exact ⟨rfl, HBV.out⟩
end Go.Proofs.YtmhobdlhmkbkdaaDoor

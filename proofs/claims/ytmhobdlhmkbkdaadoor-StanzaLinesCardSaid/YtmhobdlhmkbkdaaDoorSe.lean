/- The lines of a text, walked. -/
import Derived.Test.YtmhobdlhmkbkdaaDoorSd
namespace Go.Proofs.YtmhobdlhmkbkdaaDoor.Sz
open Go.RowKit
attribute [local go_sem ↓] Go.wp_at_zero Go.wp_at_succ

theorem row_newT (w : World) (T : TypeId) (l : List (List UInt8)) (cs : Array Value) (h : cs.toList = Rg.flat encT l) : Rg.Row encT 1 (w.alloc (.cells cs T)) (some ⟨w.heap.size, 0, none⟩) l := fun _ => by
  refine ⟨_, rfl, by simp, fun i hi j v hv => ?_⟩
  have hj : j < 1 := (List.getElem?_eq_some_iff.1 hv).1
  rw [← Rg.add_j]
  exact Rg.news_new w T l cs h _ _ ((Rg.flat_get fitsT l i hi j hj).trans hv)
theorem txt_at {w : World} {A : Option Addr} {l : List (List UInt8)} (h : Rg.Row encT 1 w A l) (k : Nat) (hk : k < l.length) : ∃ ad, A = some ad ∧ ad.block < w.heap.size ∧ w.cell? (ad.add k) = some (.string ⟨l[k].toArray⟩) := by
  obtain ⟨ad, x, e, hx, hlt, hc⟩ := Rg.row_at h k hk
  refine ⟨ad, e, hlt, ?_⟩
  have := hc 0 _ rfl
  rw [if_pos rfl, Nat.mul_one] at this
  rw [hx]
  exact this
theorem flatT (l : List (List UInt8)) : Rg.flat encT l = l.map fun t => Value.string ⟨t.toArray⟩ := by
  induction l with
  | nil => rfl
  | cons a l ih => show encT a ++ Rg.flat encT l = _; rw [ih]; rfl
theorem piece_le (sep : List UInt8) : ∀ (k : Nat) (s : List UInt8), ∀ p ∈ Lib.splitK sep 0 k s, p.length ≤ s.length
  | 0, s, p, hp => by
    unfold Lib.splitK at hp
    rw [List.mem_singleton.1 hp]; exact Nat.le_refl _
  | k + 1, s, p, hp => by
    unfold Lib.splitK at hp
    split at hp
    · rw [List.mem_singleton.1 hp]; exact Nat.le_refl _
    · rcases List.mem_cons.1 hp with e | hp
      · rw [e]; simp; omega
      · have := piece_le sep k _ p hp
        simp at this; omega
theorem split_any (s sep : List UInt8) (w : World) (hm : MaxOk w) (hl : s.length ≤ 900000) (h1 : 1 ≤ sep.length) :
    Calls Tryd.prog 42 #[.string ⟨s.toArray⟩, .string ⟨sep.toArray⟩] w fun e w' => ∃ A n, e = .returned (.slice A n n) ∧ (Lib.split s sep).length = n ∧ n ≤ s.length + 1 ∧ Rg.Row encT 1 w' A (Lib.split s sep) ∧ Below w.heap.size w w' := by
  obtain ⟨m, hm⟩ := hm
  refine (Tryd.strings_Split ⟨s.toArray⟩ ⟨sep.toArray⟩ m w (by show s.length < _; omega) hm h1).mono ?_
  rintro e w' ⟨rfl, rfl⟩
  have hd : (Lib.splitB ⟨sep.toArray⟩ 0 (Lib.countB ⟨s.toArray⟩ ⟨sep.toArray⟩) ⟨s.toArray⟩).map (·.data.toList) = Lib.split s sep := Lib.splitB_data _ _ _ _
  have hn := Lib.splitB_all ⟨sep.toArray⟩ h1 0 (Lib.countB ⟨s.toArray⟩ ⟨sep.toArray⟩) ⟨s.toArray⟩ rfl
  have hc := Lib.countB_le ⟨sep.toArray⟩ h1 s.length ⟨s.toArray⟩ (Nat.le_refl _)
  refine ⟨_, _, rfl, by rw [← hd, List.length_map, hn], Nat.succ_le_succ hc, row_newT w _ _ _ ?_, (Below.refl _ _).alloc (Nat.le_refl _) _⟩
  rw [flatT, ← hd, List.map_map]
  rfl
/-- The front of a row. -/
theorem row_front {w : World} {A : Option Addr} {l : List (List UInt8)} (h : Rg.Row encT 1 w A l) : Rg.Row encT 1 w A l.dropLast := fun h0 => by
  rw [List.length_dropLast] at h0
  obtain ⟨a, e, hl, hc⟩ := h (by omega)
  refine ⟨a, e, hl, fun i hi => ?_⟩
  rw [List.getElem_dropLast]
  exact hc i (by rw [List.length_dropLast] at hi; omega)
theorem line_le {s p : List UInt8} (h : p ∈ linesL s) : p.length ≤ s.length := piece_le [10] _ _ p (List.dropLast_subset _ h)
set_option maxRecDepth 100000 in
set_option maxHeartbeats 800000 in
theorem linesOf_any (s : List UInt8) (w : World) (hw : MaxOk w) (hs : s.length ≤ 100000) :
    Calls Tryd.prog 32 #[.string ⟨s.toArray⟩] w fun e w' => ∃ A n c, e = .returned (.slice A n c) ∧ (linesL s).length = n ∧ n ≤ s.length ∧ Rg.Row encT 1 w' A (linesL s) ∧ Below w.heap.size w w' := by
  have hc := split_any s [10] w hw (by omega) (by decide)
  have hns := split_some s
  have HL : Hid ((linesL s).length = (Lib.split s [10]).length - 1) := by show _ = _; unfold linesL; rw [List.length_dropLast]
  have HF : Hid (∀ (u : World) (A : Option Addr), Rg.Row encT 1 u A (Lib.split s [10]) → Rg.Row encT 1 u A (linesL s)) := fun u A h => row_front h
  have HC := Lib.hid hc
  have HNS : Hid (1 ≤ (Lib.split s [10]).length) := List.length_pos_iff.2 hns
  clear hc hns
  go_enter Tryd.func32, Tryd.ntmps32
  go_wp2_with fail
  refine HC.out.mono ?_
  rintro _ u ⟨A, n, rfl, hn, hnl, hrow, hb⟩
  have h1 : 1 ≤ n := by rw [← hn]; exact HNS.out
  have HN := Lib.hid hn
  have HROW := Lib.hid (HF.out _ _ hrow)
  have HB := Lib.hid hb
  clear hn hrow hb
  have i0 : (0 : Int) ≤ (n : Int) - 1 := by omega
  have i1 : (n : Int) - 1 ≤ (n : Int) := by omega
  have i2 : ((n : Int) - 1).toNat = n - 1 := by omega
  go_wp2_with fail
  go_ret
  exact ⟨A, _, _, rfl, by rw [HL.out, HN.out], by omega, HROW.out, HB.out⟩
end Go.Proofs.YtmhobdlhmkbkdaaDoor.Sz

/- Bytes in a block of their own: read, written, turned into a string; the digits of sixteen as they are laid there. -/
import Derived.Test.YtojhapnodjabdaaGreatDoorCa
import Derived.Test.YtojhapnodjabdaaGreatDoorBa
namespace Go.Proofs.YtojhapnodjabdaaGreatDoor.Lk
open Go.RowKit
def cellsB (L : List UInt8) : Array Value := (L.map fun c => Value.int .u8 (c.toNat : Int)).toArray
theorem cellsB_size (L : List UInt8) : (cellsB L).size = L.length := by simp [cellsB]
theorem cellsB_at (L : List UInt8) (j : Nat) (hj : j < L.length) : (cellsB L)[j]? = some (.int .u8 (L[j].toNat : Int)) := by
  simp [cellsB, hj]
/-- Bytes in block b. -/
def Buf (b : Nat) (L : List UInt8) (T : TypeId) (fr : Nat × Nat) (u : World) : Prop := u.heap[b]? = some (.cells (cellsB L) T fr)
section
variable {b : Nat} {L : List UInt8} {T : TypeId} {fr : Nat × Nat} {u : World}
theorem buf_cell (h : Buf b L T fr u) (j : Nat) (hj : j < L.length) : u.cell? ⟨b, j, none⟩ = some (.int .u8 (L[j].toNat : Int)) := by
  unfold World.cell?; rw [h]; exact cellsB_at L j hj
theorem buf_free (h : Buf b L T fr u) (j : Nat) (hj : j < fr.1 ∨ fr.2 ≤ j) : u.frozen? ⟨b, j, none⟩ = false := by
  unfold World.frozen?; rw [h]; simp; omega
theorem buf_set (h : Buf b L T fr u) (j : Nat) (c : UInt8) : Buf b (L.set j c) T fr (u.setCell ⟨b, j, none⟩ (.int .u8 (c.toNat : Int))) := by
  unfold Buf at h ⊢
  have e : cellsB (L.set j c) = (cellsB L).setIfInBounds j (.int .u8 (c.toNat : Int)) := by
    unfold cellsB; rw [List.map_set]; simp
  rw [e]
  simp [World.setCell, Array.getElem?_modify, h]
theorem buf_below {u' : World} (h : Buf b L T fr u) (hb : Below u.heap.size u u') : Buf b L T fr u' :=
  (hb.block _ (Array.getElem?_eq_some_iff.1 h).1).trans h
theorem buf_lt (h : Buf b L T fr u) : b < u.heap.size := (Array.getElem?_eq_some_iff.1 h).1
end
theorem buf_new (w : World) (L : List UInt8) (T : TypeId) (fr : Nat × Nat) {cs : Array Value} (h : cs = cellsB L) : Buf w.heap.size L T fr (w.alloc (.cells cs T fr)) := by
  subst h; exact heap_alloc_new w _
/-- Bytes from place o on as a string. -/
theorem conv_from {b : Nat} {L : List UInt8} {T : TypeId} {fr : Nat × Nat} (W : World) (h : Buf b L T fr W) (o cap n : Nat) (M : List UInt8) (hn : M.length = n) (hM : ∀ j (hj : j < M.length), L[o + j]? = some M[j]) : (convert 53 9 (.slice (some ⟨b, o, none⟩) n cap)).run Tryz.prog W = .ok (.string ⟨M.toArray⟩) W := by
  subst hn
  refine run_convert_bytes_back (P := Tryz.prog) _ _ _ _ _ cap M Tryz.underlying53 Tryz.underlying5 Tryz.underlying9 fun j hj => ?_
  have h1 := hM j hj
  obtain ⟨h2, h3⟩ := List.getElem?_eq_some_iff.1 h1
  have h4 := buf_cell h (o + j) h2
  rw [h3] at h4
  have e : (⟨b, o, none⟩ : Addr).add j = ⟨b, o + j, none⟩ := by unfold Addr.add; split <;> simp_all
  rw [e]; exact h4
/-! The digits, laid from the end of 65 bytes. -/
/-- What stands when d are the digits so far and u is left. -/
def HexSt (n u : Nat) (d : List UInt8) : Prop := hexn n = hexn u ++ d ∧ u < 4294967296 ∧ d.length ≤ 7
def lay (d : List UInt8) : List UInt8 := List.replicate (65 - d.length) 0 ++ d
theorem hexn_one {u : Nat} (h : u < 16) : hexn u = [hexd u] := by unfold hexn; rw [dif_pos h]
theorem hexn_more {u : Nat} (h : ¬ u < 16) : hexn u = hexn (u / 16) ++ [hexd (u % 16)] := by
  conv => lhs; unfold hexn
  rw [dif_neg h]
theorem hex_start {n : Nat} (h : n < 4294967296) : HexSt n n [] := ⟨by simp, h, by simp⟩
theorem hex_len {n u : Nat} {d : List UInt8} (hn : n < 4294967296) (h : HexSt n u d) : (hexn u).length + d.length ≤ 8 := by
  have h1 := (hexn_pad 7 n hn).1
  rw [h.1, List.length_append] at h1
  exact h1
theorem hex_step {n u : Nat} {d : List UInt8} (hn : n < 4294967296) (h : HexSt n u d) (hu : ¬ u < 16) : HexSt n (u / 16) (hexd (u % 16) :: d) := by
  obtain ⟨h1, h2, h3⟩ := h
  have hl := hex_len hn ⟨h1, h2, h3⟩
  rw [hexn_more hu] at h1 hl
  have h4 := (hexn_pad 7 (u / 16) (by omega)).2.1
  rw [List.length_append] at hl
  refine ⟨by rw [h1, List.append_assoc]; rfl, by omega, ?_⟩
  simp at hl ⊢; omega
theorem lay_set (d : List UInt8) (c : UInt8) (h : d.length ≤ 64) : (lay d).set (65 - d.length - 1) c = lay (c :: d) := by
  unfold lay
  rw [List.set_append, if_pos (by rw [List.length_replicate]; omega)]
  obtain ⟨m, hm⟩ : ∃ m, 65 - d.length = m + 1 := ⟨64 - d.length, by omega⟩
  have hm2 : 65 - (c :: d).length = m := by simp; omega
  rw [hm, hm2, Nat.add_sub_cancel, List.replicate_succ', List.set_append_right _ _ (by simp)]
  simp
theorem lay_len (d : List UInt8) (h : d.length ≤ 65) : (lay d).length = 65 := by unfold lay; simp; omega
theorem lay_at (d : List UInt8) (j : Nat) (hj : j < d.length) : (lay d)[65 - d.length + j]? = some d[j] := by
  unfold lay
  rw [List.getElem?_append_right (by simp)]
  simp [hj]
theorem lay_nil : lay [] = List.replicate 65 0 := by unfold lay; simp
end Go.Proofs.YtojhapnodjabdaaGreatDoor.Lk

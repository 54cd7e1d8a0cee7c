/- Rows of numbers in memory; the reference's clauses: which are the same, which may be, where they hold: walked. -/
import Derived.Test.YtjkmdghlhodhiaaEa
import Derived.Test.YtjkmdghlhodhiaaBr
import Derived.BigQuiet
namespace Go.Proofs.Ytjkmdghlhodhiaa.Cl
open Go.RowKit Up
def encI (x : Int) : List Value := [.int .i64 x]
theorem fitsI : Rg.Fits encI 1 := ⟨fun _ => rfl, fun x u hu => by
  obtain rfl : u = .int .i64 x := by simpa [encI] using hu
  rfl⟩
theorem sliceI : Rg.SliceT Try.prog encI 1 23 3 := ⟨fitsI, by decide, by kernel_rfl, Rg.info_of (z := .int .i64 0) (b := 8) (by kernel_rfl) (by rfl) (by decide)⟩
abbrev IRow (w : World) (A : Option Addr) (l : List Int) : Prop := Rg.Row encI 1 w A l
abbrev GRow (w : World) (A : Option Addr) (t : List (List Int)) : Prop := Gr.Row encI 1 w A t
theorem irow_at {w : World} {A : Option Addr} {l : List Int} (h : IRow w A l) (k : Nat) (hk : k < l.length) : ∃ ad x, A = some ad ∧ l[k] = x ∧ ad.block < w.heap.size ∧ w.cell? (ad.add k) = some (.int .i64 x) := by
  obtain ⟨ad, x, h1, h2, h3, h4⟩ := Rg.row_at h k hk
  refine ⟨ad, x, h1, h2, h3, ?_⟩
  have := h4 0 (.int .i64 x) rfl
  rwa [if_pos rfl, Nat.mul_one] at this
theorem irow_below {w w' : World} {A : Option Addr} {l : List Int} (h : IRow w A l) (hb : Below w.heap.size w w') : IRow w' A l := Rg.row_below h hb
/-- The cell at a place, in whatever world keeps what lies below. -/
theorem cell_below {w w' : World} {ad : Addr} {k : Nat} {v : Value} (h : w.cell? (ad.add k) = some v) (hl : ad.block < w.heap.size) (hb : Below w.heap.size w w') : w'.cell? (ad.add k) = some v := by
  refine (hb.cell ?_).trans h
  rw [Rs.add_block]; exact hl
end Go.Proofs.Ytjkmdghlhodhiaa.Cl
namespace Go.Proofs.Ytjkmdghlhodhiaa
open Go.RowKit Cl Up
attribute [local go_sem ↓] Go.wp_at_zero Go.wp_at_succ
set_option maxRecDepth 100000 in
set_option maxHeartbeats 1600000 in
theorem refSameClause_any (A B : Option Addr) (n m c d : Nat) (l k : List Int) (w : World) (hn : l.length = n) (hm : k.length = m) (hr : IRow w A l) (hq : IRow w B k) (hl : n ≤ 1000000) :
    Calls Try.prog 31 #[.slice A n c, .slice B m d] w fun e w' => e = .returned (.bool (decide (l = k))) ∧ Below w.heap.size w w' := by
  obtain ⟨X, hX⟩ : ∃ X, decide (l = k) = X := ⟨_, rfl⟩
  rw [hX]
  have HX := Lib.hid hX
  have HR := Lib.hid hr
  have HQ := Lib.hid hq
  have HN := Lib.hid hn
  have HM := Lib.hid hm
  clear hX hr hq hn hm
  by_cases hlen : n = m
  · have hd : ((n : Int) != m) = false := by rw [hlen]; simp
    have HL := Lib.hid hlen
    clear hlen
    go_enter Try.func31, Try.ntmps31
    go_wp2_with fail
    clear hd
    go_loopw [5] (fun i wr => ∃ j : Nat, j ≤ n ∧ i = .int .i64 j ∧ Hid (l.take j = k.take j) ∧ Hid (Below w.heap.size w wr)) (fun i _ => n - (intOf i).toNat)
    case atStart => exact ⟨0, Nat.zero_le _, rfl, rfl, Below.refl _ _⟩
    case round =>
      obtain ⟨j, hj, rfl, HT, HW⟩ := hrel
      by_cases hlt : j < n
      · have hlt2 : j < m := by have := HL.out; omega
        have h1 : j < l.length := by rw [HN.out]; exact hlt
        have h2 : j < k.length := by rw [HM.out]; exact hlt2
        obtain ⟨ad, x, rfl, hx, hs, hc⟩ := irow_at (irow_below HR.out HW.out) j h1
        obtain ⟨ae, y, rfl, hy, ht, he⟩ := irow_at (irow_below HQ.out HW.out) j h2
        have HT2 : Hid (x = y → l.take (j + 1) = k.take (j + 1)) := fun q => by
          rw [List.take_succ_eq_append_getElem h1, List.take_succ_eq_append_getElem h2, HT.out, hx, hy, q]
        have HNE : Hid (x ≠ y → X = false) := fun q => by
          rw [← HX.out]; exact decide_eq_false fun h => q (by subst h; exact hx.symm.trans hy)
        have j0 : (0 : Int) ≤ (j : Int) := by omega
        have j1 : (j : Int) < (n : Int) := by omega
        have j2 : (j : Int) < (m : Int) := by omega
        clear hx hy hs ht h1 h2
        cases hxy : x == y
        · have hne : (x != y) = true := by show (!(x == y)) = true; rw [hxy]; rfl
          have HF : Hid (X = false) := HNE.out fun q => by rw [q] at hxy; simp at hxy
          clear HT2 HNE
          go_wp2_with fail
          first | (go_quiet (fail)) | fail
          go_wp2_with fail
          go_ret
          exact ⟨by rw [HF.out]; rfl, below_drewN HW.out _⟩
        · have hne : (x != y) = false := by show (!(x == y)) = false; rw [hxy]; rfl
          have HT3 : Hid (l.take (j + 1) = k.take (j + 1)) := HT2.out (by simpa using hxy)
          clear HT2 HNE
          go_wp2_with fail
          first | (go_quiet (fail)) | fail
          go_wp2_with fail
          go_roundw
          case rel => exact ⟨j + 1, by omega, by go_num, HT3, below_drewN HW.out _⟩
          case measure => simp [intOf]; omega
      · have HF : Hid (X = true) := by
          show _ = _
          rw [← HX.out]
          refine decide_eq_true ?_
          have := HT.out
          rwa [List.take_of_length_le (by rw [HN.out]; omega), List.take_of_length_le (by rw [HM.out]; have := HL.out; omega)] at this
        go_wp2_with fail
        go_ret
        exact ⟨by rw [HF.out]; rfl, HW.out⟩
  · have hd : ((n : Int) != m) = true := by
      show (!((n : Int) == m)) = true
      have : ((n : Int) == m) = false := by simp; omega
      rw [this]; rfl
    have HF : Hid (X = false) := by
      show _ = _
      rw [← HX.out]
      exact decide_eq_false fun h => hlen (by rw [← HN.out, ← HM.out, h])
    clear hlen
    go_enter Try.func31, Try.ntmps31
    go_wp2_with fail
    go_ret
    exact ⟨by rw [HF.out]; rfl, Below.refl _ _⟩
end Go.Proofs.Ytjkmdghlhodhiaa

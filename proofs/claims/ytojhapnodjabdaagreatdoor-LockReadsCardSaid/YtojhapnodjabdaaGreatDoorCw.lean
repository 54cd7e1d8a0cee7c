/- Any text as a lock: the law's digits, the law walked. -/
import Derived.Test.YtojhapnodjabdaaGreatDoorCwb
import Derived.Test.YtojhapnodjabdaaGreatDoorCs
import Derived.Laws.MakeOwn
namespace Go.Proofs.YtojhapnodjabdaaGreatDoor
open Go.RowKit Lk At
attribute [local go_sem ↓] Go.wp_at_zero Go.wp_at_succ
theorem Lk.hx_set (P : List UInt8) (z : Nat) (c : UInt8) : (P ++ List.replicate (z + 1) 0).set P.length c = P ++ [c] ++ List.replicate z 0 := by
  rw [List.replicate_succ, List.set_append_right _ _ (Nat.le_refl _), Nat.sub_self, List.set_cons_zero]; simp
theorem Lk.make8 (w : World) : (Instr.makeSlice 53 (.int .i64 8) (.int .i64 8)).run Tryz.prog w = .ok (.slice (some ⟨w.heap.size, 0, none⟩) 8 8) (w.alloc (.cells (cellsB (List.replicate 8 0)) 5)) := by
  obtain ⟨i, hi, hz, h1, h2⟩ := info_parts (P := Tryz.prog) (e := 5) (z := .int .u8 0) (size := 1) (bytes := 1) (by kernel_rfl)
  have h := run_makeSlice w 53 5 i (.int .u8 0) Tryz.underlying53 hi hz .i64 .i64 8 8 (by decide) (by decide) (by rw [h1]; decide) (by rw [h2]; decide) (by decide)
  rw [h1, show madeCells (Value.int .u8 0).cells (Int.toNat 8 * 1) = cellsB (List.replicate 8 0) by kernel_rfl] at h
  exact h
set_option maxRecDepth 100000 in
set_option maxHeartbeats 3200000 in
theorem hex8_any (n : Nat) (w : World) (hn : n < 4294967296) :
    Calls Tryz.prog 22 #[.int .u32 n] w fun e w' => e = .returned (.string ⟨(hexj 8 n).toArray⟩) ∧ Below w.heap.size w w' := by
  have hmk := make8 w
  obtain ⟨W1, hW1⟩ : ∃ W, w.alloc (.cells (cellsB (List.replicate 8 0)) 5) = W := ⟨_, rfl⟩
  rw [hW1] at hmk
  have HBW : Hid (Below w.heap.size w W1) := alloc_low hW1
  have HBF : Hid (Buf w.heap.size (List.replicate 8 0) 5 (0, 0) W1) := by
    show Buf _ _ _ _ _
    rw [← hW1]; exact buf_new w _ _ _ (by rfl)
  have HN := Lib.hid hn
  clear hn
  go_enter Tryz.func22, Tryz.ntmps22
  go_wp2_with fail
  clear hW1 hmk
  go_loopw [4] (fun i wr => ∃ t : Nat, t ≤ 8 ∧ i = .int .i64 t ∧ Hid (Buf w.heap.size (hexj t (n / 16 ^ (8 - t)) ++ List.replicate (8 - t) 0) 5 (0, 0) wr) ∧ Hid (Below w.heap.size w wr)) (fun i _ => 8 - (intOf i).toNat)
  case atStart => exact ⟨0, Nat.zero_le _, rfl, HBF.out, HBW.out⟩
  case round =>
    obtain ⟨t, ht, rfl, HF, HB⟩ := hrel
    have htt : t = 0 ∨ t = 1 ∨ t = 2 ∨ t = 3 ∨ t = 4 ∨ t = 5 ∨ t = 6 ∨ t = 7 ∨ t = 8 := by omega
    clear ht
    rcases htt with rfl | rfl | rfl | rfl | rfl | rfl | rfl | rfl | rfl
    · have HQ : Hid (n / 268435456 < 4294967296) := Nat.lt_of_le_of_lt (Nat.div_le_self _ _) HN.out
      obtain ⟨q, hq⟩ : ∃ q, n / 268435456 = q := ⟨_, rfl⟩
      have a2 : (n : Int) / 268435456 = (q : Int) := by omega
      obtain ⟨m, hm⟩ : ∃ m, q % 16 = m := ⟨_, rfl⟩
      rw [hq] at HQ
      have a1 := and15b q HQ.out m hm
      have hm16 : m < 16 := by omega
      have m0 : (0 : Int) ≤ (m : Int) := by omega
      have m1 : (m : Int) < 16 := by omega
      obtain ⟨c, hc, hh⟩ := dig16 m hm16
      have hlen : (hexj 0 (n / 16 ^ (8 - 0)) ++ List.replicate (8 - 0) 0).length = 8 := by rw [List.length_append, hexj_len, List.length_replicate]
      have c0 := buf_cell HF.out 0 (by rw [hlen]; decide)
      have f0 := buf_free HF.out 0 (Or.inr (Nat.zero_le _))
      obtain ⟨y, hy⟩ : ∃ y : Int, ((hexj 0 (n / 16 ^ (8 - 0)) ++ List.replicate (8 - 0) (0 : UInt8))[0].toNat : Int) = y := ⟨_, rfl⟩
      rw [hy] at c0
      have HS : Hid (Buf w.heap.size (hexj (0 + 1) (n / 16 ^ (8 - (0 + 1))) ++ List.replicate (8 - (0 + 1)) 0) 5 (0, 0) (wr.setCell ⟨w.heap.size, 0, none⟩ (.int .u8 (c.toNat : Int)))) := by
        have h := buf_set HF.out 0 c
        have e1 : n / 16 ^ (8 - (0 + 1)) = q := hq
        have e2 : n / 16 ^ (8 - 0) = q / 16 := by rw [← hq, Nat.div_div_eq_div_mul]
        have e3 : hexj (0 + 1) q = hexj 0 (q / 16) ++ [c] := by
          show hexj 0 (q / 16) ++ [hexd (q % 16)] = _
          rw [hm, hh]
        have e4 := hx_set (hexj 0 (q / 16)) (7 - 0) c
        rw [hexj_len] at e4
        show Buf _ _ _ _ _
        rw [e1, e3]
        rw [e2] at h
        exact e4 ▸ h
      have HBS : Hid (Below w.heap.size w (wr.setCell ⟨w.heap.size, 0, none⟩ (.int .u8 (c.toNat : Int)))) := HB.out.setCell (Nat.le_refl _) _
      clear hq hm hh hlen hy
      go_wp2_with fail
      go_roundw
      case rel => exact ⟨0 + 1, by decide, by go_num, HS, HBS⟩
      case measure => simp [intOf]
    · have HQ : Hid (n / 16777216 < 4294967296) := Nat.lt_of_le_of_lt (Nat.div_le_self _ _) HN.out
      obtain ⟨q, hq⟩ : ∃ q, n / 16777216 = q := ⟨_, rfl⟩
      have a2 : (n : Int) / 16777216 = (q : Int) := by omega
      obtain ⟨m, hm⟩ : ∃ m, q % 16 = m := ⟨_, rfl⟩
      rw [hq] at HQ
      have a1 := and15b q HQ.out m hm
      have hm16 : m < 16 := by omega
      have m0 : (0 : Int) ≤ (m : Int) := by omega
      have m1 : (m : Int) < 16 := by omega
      obtain ⟨c, hc, hh⟩ := dig16 m hm16
      have hlen : (hexj 1 (n / 16 ^ (8 - 1)) ++ List.replicate (8 - 1) 0).length = 8 := by rw [List.length_append, hexj_len, List.length_replicate]
      have c0 := buf_cell HF.out 1 (by rw [hlen]; decide)
      have f0 := buf_free HF.out 1 (Or.inr (Nat.zero_le _))
      obtain ⟨y, hy⟩ : ∃ y : Int, ((hexj 1 (n / 16 ^ (8 - 1)) ++ List.replicate (8 - 1) (0 : UInt8))[1].toNat : Int) = y := ⟨_, rfl⟩
      rw [hy] at c0
      have HS : Hid (Buf w.heap.size (hexj (1 + 1) (n / 16 ^ (8 - (1 + 1))) ++ List.replicate (8 - (1 + 1)) 0) 5 (0, 0) (wr.setCell ⟨w.heap.size, 1, none⟩ (.int .u8 (c.toNat : Int)))) := by
        have h := buf_set HF.out 1 c
        have e1 : n / 16 ^ (8 - (1 + 1)) = q := hq
        have e2 : n / 16 ^ (8 - 1) = q / 16 := by rw [← hq, Nat.div_div_eq_div_mul]
        have e3 : hexj (1 + 1) q = hexj 1 (q / 16) ++ [c] := by
          show hexj 1 (q / 16) ++ [hexd (q % 16)] = _
          rw [hm, hh]
        have e4 := hx_set (hexj 1 (q / 16)) (7 - 1) c
        rw [hexj_len] at e4
        show Buf _ _ _ _ _
        rw [e1, e3]
        rw [e2] at h
        exact e4 ▸ h
      have HBS : Hid (Below w.heap.size w (wr.setCell ⟨w.heap.size, 1, none⟩ (.int .u8 (c.toNat : Int)))) := HB.out.setCell (Nat.le_refl _) _
      clear hq hm hh hlen hy
      go_wp2_with fail
      go_roundw
      case rel => exact ⟨1 + 1, by decide, by go_num, HS, HBS⟩
      case measure => simp [intOf]
    · have HQ : Hid (n / 1048576 < 4294967296) := Nat.lt_of_le_of_lt (Nat.div_le_self _ _) HN.out
      obtain ⟨q, hq⟩ : ∃ q, n / 1048576 = q := ⟨_, rfl⟩
      have a2 : (n : Int) / 1048576 = (q : Int) := by omega
      obtain ⟨m, hm⟩ : ∃ m, q % 16 = m := ⟨_, rfl⟩
      rw [hq] at HQ
      have a1 := and15b q HQ.out m hm
      have hm16 : m < 16 := by omega
      have m0 : (0 : Int) ≤ (m : Int) := by omega
      have m1 : (m : Int) < 16 := by omega
      obtain ⟨c, hc, hh⟩ := dig16 m hm16
      have hlen : (hexj 2 (n / 16 ^ (8 - 2)) ++ List.replicate (8 - 2) 0).length = 8 := by rw [List.length_append, hexj_len, List.length_replicate]
      have c0 := buf_cell HF.out 2 (by rw [hlen]; decide)
      have f0 := buf_free HF.out 2 (Or.inr (Nat.zero_le _))
      obtain ⟨y, hy⟩ : ∃ y : Int, ((hexj 2 (n / 16 ^ (8 - 2)) ++ List.replicate (8 - 2) (0 : UInt8))[2].toNat : Int) = y := ⟨_, rfl⟩
      rw [hy] at c0
      have HS : Hid (Buf w.heap.size (hexj (2 + 1) (n / 16 ^ (8 - (2 + 1))) ++ List.replicate (8 - (2 + 1)) 0) 5 (0, 0) (wr.setCell ⟨w.heap.size, 2, none⟩ (.int .u8 (c.toNat : Int)))) := by
        have h := buf_set HF.out 2 c
        have e1 : n / 16 ^ (8 - (2 + 1)) = q := hq
        have e2 : n / 16 ^ (8 - 2) = q / 16 := by rw [← hq, Nat.div_div_eq_div_mul]
        have e3 : hexj (2 + 1) q = hexj 2 (q / 16) ++ [c] := by
          show hexj 2 (q / 16) ++ [hexd (q % 16)] = _
          rw [hm, hh]
        have e4 := hx_set (hexj 2 (q / 16)) (7 - 2) c
        rw [hexj_len] at e4
        show Buf _ _ _ _ _
        rw [e1, e3]
        rw [e2] at h
        exact e4 ▸ h
      have HBS : Hid (Below w.heap.size w (wr.setCell ⟨w.heap.size, 2, none⟩ (.int .u8 (c.toNat : Int)))) := HB.out.setCell (Nat.le_refl _) _
      clear hq hm hh hlen hy
      go_wp2_with fail
      go_roundw
      case rel => exact ⟨2 + 1, by decide, by go_num, HS, HBS⟩
      case measure => simp [intOf]
    · have HQ : Hid (n / 65536 < 4294967296) := Nat.lt_of_le_of_lt (Nat.div_le_self _ _) HN.out
      obtain ⟨q, hq⟩ : ∃ q, n / 65536 = q := ⟨_, rfl⟩
      have a2 : (n : Int) / 65536 = (q : Int) := by omega
      obtain ⟨m, hm⟩ : ∃ m, q % 16 = m := ⟨_, rfl⟩
      rw [hq] at HQ
      have a1 := and15b q HQ.out m hm
      have hm16 : m < 16 := by omega
      have m0 : (0 : Int) ≤ (m : Int) := by omega
      have m1 : (m : Int) < 16 := by omega
      obtain ⟨c, hc, hh⟩ := dig16 m hm16
      have hlen : (hexj 3 (n / 16 ^ (8 - 3)) ++ List.replicate (8 - 3) 0).length = 8 := by rw [List.length_append, hexj_len, List.length_replicate]
      have c0 := buf_cell HF.out 3 (by rw [hlen]; decide)
      have f0 := buf_free HF.out 3 (Or.inr (Nat.zero_le _))
      obtain ⟨y, hy⟩ : ∃ y : Int, ((hexj 3 (n / 16 ^ (8 - 3)) ++ List.replicate (8 - 3) (0 : UInt8))[3].toNat : Int) = y := ⟨_, rfl⟩
      rw [hy] at c0
      have HS : Hid (Buf w.heap.size (hexj (3 + 1) (n / 16 ^ (8 - (3 + 1))) ++ List.replicate (8 - (3 + 1)) 0) 5 (0, 0) (wr.setCell ⟨w.heap.size, 3, none⟩ (.int .u8 (c.toNat : Int)))) := by
        have h := buf_set HF.out 3 c
        have e1 : n / 16 ^ (8 - (3 + 1)) = q := hq
        have e2 : n / 16 ^ (8 - 3) = q / 16 := by rw [← hq, Nat.div_div_eq_div_mul]
        have e3 : hexj (3 + 1) q = hexj 3 (q / 16) ++ [c] := by
          show hexj 3 (q / 16) ++ [hexd (q % 16)] = _
          rw [hm, hh]
        have e4 := hx_set (hexj 3 (q / 16)) (7 - 3) c
        rw [hexj_len] at e4
        show Buf _ _ _ _ _
        rw [e1, e3]
        rw [e2] at h
        exact e4 ▸ h
      have HBS : Hid (Below w.heap.size w (wr.setCell ⟨w.heap.size, 3, none⟩ (.int .u8 (c.toNat : Int)))) := HB.out.setCell (Nat.le_refl _) _
      clear hq hm hh hlen hy
      go_wp2_with fail
      go_roundw
      case rel => exact ⟨3 + 1, by decide, by go_num, HS, HBS⟩
      case measure => simp [intOf]
    · have HQ : Hid (n / 4096 < 4294967296) := Nat.lt_of_le_of_lt (Nat.div_le_self _ _) HN.out
      obtain ⟨q, hq⟩ : ∃ q, n / 4096 = q := ⟨_, rfl⟩
      have a2 : (n : Int) / 4096 = (q : Int) := by omega
      obtain ⟨m, hm⟩ : ∃ m, q % 16 = m := ⟨_, rfl⟩
      rw [hq] at HQ
      have a1 := and15b q HQ.out m hm
      have hm16 : m < 16 := by omega
      have m0 : (0 : Int) ≤ (m : Int) := by omega
      have m1 : (m : Int) < 16 := by omega
      obtain ⟨c, hc, hh⟩ := dig16 m hm16
      have hlen : (hexj 4 (n / 16 ^ (8 - 4)) ++ List.replicate (8 - 4) 0).length = 8 := by rw [List.length_append, hexj_len, List.length_replicate]
      have c0 := buf_cell HF.out 4 (by rw [hlen]; decide)
      have f0 := buf_free HF.out 4 (Or.inr (Nat.zero_le _))
      obtain ⟨y, hy⟩ : ∃ y : Int, ((hexj 4 (n / 16 ^ (8 - 4)) ++ List.replicate (8 - 4) (0 : UInt8))[4].toNat : Int) = y := ⟨_, rfl⟩
      rw [hy] at c0
      have HS : Hid (Buf w.heap.size (hexj (4 + 1) (n / 16 ^ (8 - (4 + 1))) ++ List.replicate (8 - (4 + 1)) 0) 5 (0, 0) (wr.setCell ⟨w.heap.size, 4, none⟩ (.int .u8 (c.toNat : Int)))) := by
        have h := buf_set HF.out 4 c
        have e1 : n / 16 ^ (8 - (4 + 1)) = q := hq
        have e2 : n / 16 ^ (8 - 4) = q / 16 := by rw [← hq, Nat.div_div_eq_div_mul]
        have e3 : hexj (4 + 1) q = hexj 4 (q / 16) ++ [c] := by
          show hexj 4 (q / 16) ++ [hexd (q % 16)] = _
          rw [hm, hh]
        have e4 := hx_set (hexj 4 (q / 16)) (7 - 4) c
        rw [hexj_len] at e4
        show Buf _ _ _ _ _
        rw [e1, e3]
        rw [e2] at h
        exact e4 ▸ h
      have HBS : Hid (Below w.heap.size w (wr.setCell ⟨w.heap.size, 4, none⟩ (.int .u8 (c.toNat : Int)))) := HB.out.setCell (Nat.le_refl _) _
      clear hq hm hh hlen hy
      go_wp2_with fail
      go_roundw
      case rel => exact ⟨4 + 1, by decide, by go_num, HS, HBS⟩
      case measure => simp [intOf]
    · have HQ : Hid (n / 256 < 4294967296) := Nat.lt_of_le_of_lt (Nat.div_le_self _ _) HN.out
      obtain ⟨q, hq⟩ : ∃ q, n / 256 = q := ⟨_, rfl⟩
      have a2 : (n : Int) / 256 = (q : Int) := by omega
      obtain ⟨m, hm⟩ : ∃ m, q % 16 = m := ⟨_, rfl⟩
      rw [hq] at HQ
      have a1 := and15b q HQ.out m hm
      have hm16 : m < 16 := by omega
      have m0 : (0 : Int) ≤ (m : Int) := by omega
      have m1 : (m : Int) < 16 := by omega
      obtain ⟨c, hc, hh⟩ := dig16 m hm16
      have hlen : (hexj 5 (n / 16 ^ (8 - 5)) ++ List.replicate (8 - 5) 0).length = 8 := by rw [List.length_append, hexj_len, List.length_replicate]
      have c0 := buf_cell HF.out 5 (by rw [hlen]; decide)
      have f0 := buf_free HF.out 5 (Or.inr (Nat.zero_le _))
      obtain ⟨y, hy⟩ : ∃ y : Int, ((hexj 5 (n / 16 ^ (8 - 5)) ++ List.replicate (8 - 5) (0 : UInt8))[5].toNat : Int) = y := ⟨_, rfl⟩
      rw [hy] at c0
      have HS : Hid (Buf w.heap.size (hexj (5 + 1) (n / 16 ^ (8 - (5 + 1))) ++ List.replicate (8 - (5 + 1)) 0) 5 (0, 0) (wr.setCell ⟨w.heap.size, 5, none⟩ (.int .u8 (c.toNat : Int)))) := by
        have h := buf_set HF.out 5 c
        have e1 : n / 16 ^ (8 - (5 + 1)) = q := hq
        have e2 : n / 16 ^ (8 - 5) = q / 16 := by rw [← hq, Nat.div_div_eq_div_mul]
        have e3 : hexj (5 + 1) q = hexj 5 (q / 16) ++ [c] := by
          show hexj 5 (q / 16) ++ [hexd (q % 16)] = _
          rw [hm, hh]
        have e4 := hx_set (hexj 5 (q / 16)) (7 - 5) c
        rw [hexj_len] at e4
        show Buf _ _ _ _ _
        rw [e1, e3]
        rw [e2] at h
        exact e4 ▸ h
      have HBS : Hid (Below w.heap.size w (wr.setCell ⟨w.heap.size, 5, none⟩ (.int .u8 (c.toNat : Int)))) := HB.out.setCell (Nat.le_refl _) _
      clear hq hm hh hlen hy
      go_wp2_with fail
      go_roundw
      case rel => exact ⟨5 + 1, by decide, by go_num, HS, HBS⟩
      case measure => simp [intOf]
    · have HQ : Hid (n / 16 < 4294967296) := Nat.lt_of_le_of_lt (Nat.div_le_self _ _) HN.out
      obtain ⟨q, hq⟩ : ∃ q, n / 16 = q := ⟨_, rfl⟩
      have a2 : (n : Int) / 16 = (q : Int) := by omega
      obtain ⟨m, hm⟩ : ∃ m, q % 16 = m := ⟨_, rfl⟩
      rw [hq] at HQ
      have a1 := and15b q HQ.out m hm
      have hm16 : m < 16 := by omega
      have m0 : (0 : Int) ≤ (m : Int) := by omega
      have m1 : (m : Int) < 16 := by omega
      obtain ⟨c, hc, hh⟩ := dig16 m hm16
      have hlen : (hexj 6 (n / 16 ^ (8 - 6)) ++ List.replicate (8 - 6) 0).length = 8 := by rw [List.length_append, hexj_len, List.length_replicate]
      have c0 := buf_cell HF.out 6 (by rw [hlen]; decide)
      have f0 := buf_free HF.out 6 (Or.inr (Nat.zero_le _))
      obtain ⟨y, hy⟩ : ∃ y : Int, ((hexj 6 (n / 16 ^ (8 - 6)) ++ List.replicate (8 - 6) (0 : UInt8))[6].toNat : Int) = y := ⟨_, rfl⟩
      rw [hy] at c0
      have HS : Hid (Buf w.heap.size (hexj (6 + 1) (n / 16 ^ (8 - (6 + 1))) ++ List.replicate (8 - (6 + 1)) 0) 5 (0, 0) (wr.setCell ⟨w.heap.size, 6, none⟩ (.int .u8 (c.toNat : Int)))) := by
        have h := buf_set HF.out 6 c
        have e1 : n / 16 ^ (8 - (6 + 1)) = q := hq
        have e2 : n / 16 ^ (8 - 6) = q / 16 := by rw [← hq, Nat.div_div_eq_div_mul]
        have e3 : hexj (6 + 1) q = hexj 6 (q / 16) ++ [c] := by
          show hexj 6 (q / 16) ++ [hexd (q % 16)] = _
          rw [hm, hh]
        have e4 := hx_set (hexj 6 (q / 16)) (7 - 6) c
        rw [hexj_len] at e4
        show Buf _ _ _ _ _
        rw [e1, e3]
        rw [e2] at h
        exact e4 ▸ h
      have HBS : Hid (Below w.heap.size w (wr.setCell ⟨w.heap.size, 6, none⟩ (.int .u8 (c.toNat : Int)))) := HB.out.setCell (Nat.le_refl _) _
      clear hq hm hh hlen hy
      go_wp2_with fail
      go_roundw
      case rel => exact ⟨6 + 1, by decide, by go_num, HS, HBS⟩
      case measure => simp [intOf]
    · have HQ : Hid (n / 1 < 4294967296) := Nat.lt_of_le_of_lt (Nat.div_le_self _ _) HN.out
      obtain ⟨q, hq⟩ : ∃ q, n / 1 = q := ⟨_, rfl⟩
      have a2 : (n : Int) / 1 = (q : Int) := by omega
      obtain ⟨m, hm⟩ : ∃ m, q % 16 = m := ⟨_, rfl⟩
      rw [hq] at HQ
      have a1 := and15b q HQ.out m hm
      have hm16 : m < 16 := by omega
      have m0 : (0 : Int) ≤ (m : Int) := by omega
      have m1 : (m : Int) < 16 := by omega
      obtain ⟨c, hc, hh⟩ := dig16 m hm16
      have hlen : (hexj 7 (n / 16 ^ (8 - 7)) ++ List.replicate (8 - 7) 0).length = 8 := by rw [List.length_append, hexj_len, List.length_replicate]
      have c0 := buf_cell HF.out 7 (by rw [hlen]; decide)
      have f0 := buf_free HF.out 7 (Or.inr (Nat.zero_le _))
      obtain ⟨y, hy⟩ : ∃ y : Int, ((hexj 7 (n / 16 ^ (8 - 7)) ++ List.replicate (8 - 7) (0 : UInt8))[7].toNat : Int) = y := ⟨_, rfl⟩
      rw [hy] at c0
      have HS : Hid (Buf w.heap.size (hexj (7 + 1) (n / 16 ^ (8 - (7 + 1))) ++ List.replicate (8 - (7 + 1)) 0) 5 (0, 0) (wr.setCell ⟨w.heap.size, 7, none⟩ (.int .u8 (c.toNat : Int)))) := by
        have h := buf_set HF.out 7 c
        have e1 : n / 16 ^ (8 - (7 + 1)) = q := hq
        have e2 : n / 16 ^ (8 - 7) = q / 16 := by rw [← hq, Nat.div_div_eq_div_mul]
        have e3 : hexj (7 + 1) q = hexj 7 (q / 16) ++ [c] := by
          show hexj 7 (q / 16) ++ [hexd (q % 16)] = _
          rw [hm, hh]
        have e4 := hx_set (hexj 7 (q / 16)) (7 - 7) c
        rw [hexj_len] at e4
        show Buf _ _ _ _ _
        rw [e1, e3]
        rw [e2] at h
        exact e4 ▸ h
      have HBS : Hid (Below w.heap.size w (wr.setCell ⟨w.heap.size, 7, none⟩ (.int .u8 (c.toNat : Int)))) := HB.out.setCell (Nat.le_refl _) _
      clear hq hm hh hlen hy
      go_wp2_with fail
      go_roundw
      case rel => exact ⟨7 + 1, by decide, by go_num, HS, HBS⟩
      case measure => simp [intOf]
    · have hcv := conv_from wr HF.out 0 8 8 (hexj 8 n) (hexj_len 8 n) (fun j hj => by
        show (hexj 8 (n / 1) ++ [])[0 + j]? = _
        rw [Nat.div_one, List.append_nil, Nat.zero_add, List.getElem?_eq_getElem hj])
      go_wp2_with fail
      go_ret
      exact ⟨rfl, HB.out⟩
theorem Lk.read_len {s : List UInt8} {i : Nat} {k : Int} {l : List Ent} (h : readL s = (i, k, l)) : l.length ≤ 64 ∧ (k = 0 → (checkL l).2 = 0 ∧ writeT l = s) := by
  refine ⟨?_, fun hk => by subst hk; obtain ⟨_, h2, h3⟩ := write_read h; exact ⟨h2, h3⟩⟩
  by_cases hk : k = 0
  · subst hk
    exact (check_ent (write_read h).2.1).1
  · have hl : l = [] := by
      unfold readL linesE at h
      repeat' split at h
      all_goals first
        | (have := (Prod.mk.inj (Prod.mk.inj h).2).2; exact this.symm)
        | (exact absurd (Prod.mk.inj (Prod.mk.inj h).2).1.symm hk)
    rw [hl]; exact Nat.zero_le _
theorem Lk.few_ck {l : List Ent} (h : (checkL l).2 = 0) : EFew l := fun e he => by
  obtain ⟨_, _, h1, h2⟩ := ent_words (check_all h e he)
  unfold maxLen; omega
set_option maxRecDepth 100000 in
set_option maxHeartbeats 6400000 in
theorem lockReads_any (s : List UInt8) (w : World) (hw : WOk w) :
    Calls Tryz.prog 4 #[.string ⟨s.toArray⟩] w fun e w' => e = .returned (.bool true) ∧ Below w.heap.size w w' := by
  have HK := Lib.hid (known8_any w hw)
  have HW := Lib.hid hw
  clear hw
  by_cases hl : 3000 < s.length
  · have d0 : decide ((3000 : Int) < (s.length : Int)) = true := decide_eq_true (by omega)
    go_enter Tryz.func4, Tryz.ntmps4
    go_wp2_with fail
    refine HK.out.mono ?_
    rintro _ z ⟨rfl, hb⟩
    have HB := Lib.hid hb
    clear hb HK
    go_wp2_with fail
    go_ret
    exact ⟨rfl, HB.out⟩
  · have d0 : decide ((3000 : Int) < (s.length : Int)) = false := decide_eq_false (by omega)
    have HL0 : Hid (s.length ≤ 3000 + 13 * 0) := by show _ ≤ _; omega
    clear hl
    go_enter Tryz.func4, Tryz.ntmps4
    go_wp2_with fail
    refine HK.out.mono ?_
    rintro _ z ⟨rfl, hb⟩
    have HB := Lib.hid hb
    clear hb HK
    go_wp2_with fail
    clear d0
    go_loopw [0, 3] (fun sv i wr => ∃ (k : Nat) (S : List UInt8), k ≤ 2 ∧ sv = .string ⟨S.toArray⟩ ∧ i = .int .i64 k ∧ Hid (S.length ≤ 3000 + 13 * k) ∧ Hid (Below w.heap.size w wr)) (fun _ i _ => 2 - (intOf i).toNat)
    case atStart => exact ⟨0, s, Nat.zero_le _, rfl, rfl, HL0.out, HB.out⟩
    case round =>
      obtain ⟨k, S, hk, rfl, rfl, HS, HW0⟩ := hrel
      by_cases hlt : k < 2
      · have hSl : S.length ≤ 3013 := by have := HS.out; omega
        obtain ⟨X, hX⟩ : ∃ X, readL S = X := ⟨_, rfl⟩
        obtain ⟨i, e, l⟩ := X
        have HX := Lib.hid hX
        obtain ⟨l64, hwr⟩ := read_len hX
        have HWR := Lib.hid hwr
        clear hX hwr
        go_wp2_with fail
        refine (lockRead_any S _ (wok_below HW.out HW0.out) (by omega)).mono ?_
        rintro ee u1 hh
        obtain ⟨hb, A, n, c, rfl, hn, hr⟩ := readR_get hh HX.out
        have HU1 := Lib.hid (HW0.out.trans (hb.mono HW0.out.size))
        have HR1 := Lib.hid hr
        have HN := Lib.hid hn
        have n64 : n ≤ 64 := by rw [← hn]; exact l64
        clear hh hb hn hr
        go_wp2_with fail
        refine (refReadLock_any S u1 (by omega)).mono ?_
        rintro ee u2 hh
        obtain ⟨hb, B, m, d, rfl, hn, hr⟩ := readR_get hh HX.out
        have HU2 := Lib.hid (HU1.out.trans (hb.mono HU1.out.size))
        have HR2 := Lib.hid (Rg.row_below HR1.out hb)
        have HQ2 := Lib.hid hr
        obtain rfl : m = n := by rw [← hn]; exact HN.out
        clear hh hb hn hr HR1 HU1
        go_wp2_with fail
        refine (of8_any A m c l u2 HN.out HR2.out (by omega)).mono ?_
        rintro _ u3 ⟨C, g, rfl, hrow, hb⟩
        have HU3 := Lib.hid (HU2.out.trans (hb.mono HU2.out.size))
        have HR3 := Lib.hid (Rg.row_below HR2.out hb)
        have HQ3 := Lib.hid (Rg.row_below HQ2.out hb)
        have HO3 := Lib.hid hrow
        clear hb hrow HU2 HR2 HQ2
        go_wp2_with fail
        refine (refSameLock_any C B m g m d l l u3 HN.out HN.out HO3.out HQ3.out (by omega) (by omega)).mono ?_
        rintro _ u4 ⟨rfl, hb⟩
        rw [decide_eq_true (rfl : l = l)]
        have HU4 := Lib.hid (HU3.out.trans (hb.mono HU3.out.size))
        have HR4 := Lib.hid (Rg.row_below HR3.out hb)
        clear hb HU3 HR3 HQ3 HO3
        obtain ⟨xx, hxx⟩ : ∃ x, wrT [] = x := ⟨_, rfl⟩
        have hxl : xx.length = 13 := by rw [← hxx, k8_w0.1]; rfl
        have hx4 : (⟨xx.toArray⟩ : ByteArray).extract 0 4 = ⟨#[115, 117, 109, 32]⟩ := by rw [← hxx, k8_w0.1]; rfl
        have HWN : Hid (∀ W : World, Calls Tryz.prog 14 #[.slice none 0 0] W fun e w' => e = .returned (.tuple #[.string ⟨xx.toArray⟩, .int .i64 0]) ∧ Below W.heap.size W w') := fun W => by
          have := refWriteLock_any none 0 0 [] W rfl (Rg.row_nil _ _) (fun e he => absurd he (by simp))
          rwa [hxx, k8_w0.2] at this
        obtain ⟨x, hx⟩ : ∃ x, sumL S = x := ⟨_, rfl⟩
        have hxlt : x < 4294967296 := by rw [← hx]; exact sumL_lt S
        have HSU : Hid (∀ W : World, Calls Tryz.prog 23 #[.string ⟨S.toArray⟩] W fun e w' => e = .returned (.int .u32 (x : Nat)) ∧ W = w') := fun W => by
          have := lockSum_any S W (by omega)
          rwa [hx] at this
        obtain ⟨hh, hhh⟩ : ∃ h, hexj 8 x = h := ⟨_, rfl⟩
        have HHX : Hid (∀ W : World, Calls Tryz.prog 22 #[.int .u32 (x : Nat)] W fun e w' => e = .returned (.string ⟨hh.toArray⟩) ∧ Below W.heap.size W w') := fun W => by
          have := hex8_any x W hxlt
          rwa [hhh] at this
        have hhl : hh.length = 8 := by rw [← hhh]; exact hexj_len 8 x
        obtain ⟨S1, h1⟩ : ∃ x, S ++ [115, 117, 109, 32] = x := ⟨_, rfl⟩
        obtain ⟨S2, h2⟩ : ∃ x, S1 ++ hh = x := ⟨_, rfl⟩
        obtain ⟨S3, h3⟩ : ∃ x, S2 ++ [10] = x := ⟨_, rfl⟩
        have l3 := congrArg List.length h3
        have l2 := congrArg List.length h2
        have l1 := congrArg List.length h1
        simp only [List.length_append, List.length_cons, List.length_nil] at l1 l2 l3
        have r1 := cat_to h1 (by omega)
        have r2 := cat_to h2 (by omega)
        have r3 := cat_to h3 (by omega)
        have HS3 : Hid (S3.length ≤ 3000 + 13 * (k + 1)) := by have := HS.out; show _ ≤ _; omega
        clear hxx hx hhh h1 h2 h3 l1 l2 l3
        by_cases he : e = 0
        · obtain ⟨w1, w2⟩ := HWR.out he
          have hwt : wrT l = S := by unfold wrT; rw [if_pos w1]; exact w2
          subst he
          have HWT := Lib.hid hwt
          have HCK := Lib.hid w1
          clear w1 w2 hwt
          have e1 : (S == S) = true := by simp
          go_wp2_with fail
          refine (lockWrite_any A m c l u4 (wok_below HW.out HU4.out) HN.out HR4.out (few_ck HCK.out)).mono ?_
          rintro _ u5 ⟨rfl, hb⟩
          rw [HWT.out, HCK.out]
          have HU5 := Lib.hid (HU4.out.trans (hb.mono HU4.out.size))
          clear hb
          go_wp2_with fail
          refine (HWN.out _).mono ?_
          rintro _ u6 ⟨rfl, hb⟩
          have HU6 := Lib.hid (HU5.out.trans (hb.mono HU5.out.size))
          clear hb HU5 HU4 HR4
          go_wp2_with fail
          go_region_held3 (fun _ => True) (trivial)
            (first
              | (go_at_call 22; refine (HHX.out _).mono ?_; rintro _ y ⟨rfl, hb9⟩)
              | (go_at_call 23; refine (HSU.out _).mono ?_; rintro _ y ⟨rfl, rfl⟩))
          have HY := Lib.hid (HU6.out.drew.trans (hb9.mono HU6.out.drew.size))
          clear hb9 r1 r2 r3 hx4
          go_wp2_with fail
          go_roundw
          case rel => exact ⟨k + 1, S3, by omega, rfl, by go_num, HS3, HY.out⟩
          case measure => simp [intOf]; omega
        · have e1 : (e == 0) = false := beq_eq_false_iff_ne.2 he
          clear he
          go_wp2_with fail
          refine (HWN.out _).mono ?_
          rintro _ u6 ⟨rfl, hb⟩
          have HU6 := Lib.hid (HU4.out.trans (hb.mono HU4.out.size))
          clear hb HU4 HR4
          go_wp2_with fail
          go_region_held3 (fun _ => True) (trivial)
            (first
              | (go_at_call 22; refine (HHX.out _).mono ?_; rintro _ y ⟨rfl, hb9⟩)
              | (go_at_call 23; refine (HSU.out _).mono ?_; rintro _ y ⟨rfl, rfl⟩))
          have HY := Lib.hid (HU6.out.drew.trans (hb9.mono HU6.out.drew.size))
          clear hb9 r1 r2 r3 hx4
          go_wp2_with fail
          go_roundw
          case rel => exact ⟨k + 1, S3, by omega, rfl, by go_num, HS3, HY.out⟩
          case measure => simp [intOf]; omega
      · obtain rfl : k = 2 := by omega
        go_wp2_with fail
        go_ret
        exact ⟨rfl, HW0.out⟩
end Go.Proofs.YtojhapnodjabdaaGreatDoor

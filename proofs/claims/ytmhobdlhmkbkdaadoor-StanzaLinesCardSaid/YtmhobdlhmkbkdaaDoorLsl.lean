/- The law StanzaLines, walked. -/
import Derived.Test.YtmhobdlhmkbkdaaDoorUn
import Derived.Test.YtmhobdlhmkbkdaaDoorLsb
import Derived.Test.YtmhobdlhmkbkdaaDoorLsr
namespace Go.Proofs.YtmhobdlhmkbkdaaDoor
open Go.RowKit Go.Maps Sz
attribute [local go_sem ↓] Go.wp_at_zero Go.wp_at_succ
def Sz.encU (b : UInt8) : List Value := [.int .u8 b.toNat]
theorem Sz.oct_at {w : World} {A : Option Addr} {l : List UInt8} (h : Rg.Row encU 1 w A l) (k : Nat) (hk : k < l.length) : ∃ ad, A = some ad ∧ ad.block < w.heap.size ∧ w.cell? (ad.add k) = some (.int .u8 l[k].toNat) := by
  obtain ⟨ad, x, e, hx, hlt, hc⟩ := Rg.row_at h k hk
  refine ⟨ad, e, hlt, ?_⟩
  have := hc 0 _ rfl
  rw [if_pos rfl, Nat.mul_one] at this
  rw [hx]
  exact this
def Sz.qs (l : List UInt8) : List Nat := l.map fun b => b.toNat % 9
theorem Sz.qs_le (l : List UInt8) : ∀ q ∈ qs l, q ≤ 8 := fun q hq => by
  obtain ⟨b, _, rfl⟩ := List.mem_map.1 hq
  omega
theorem Sz.qs_take (l : List UInt8) (k : Nat) (hk : k < l.length) : (qs l).take (k + 1) = (qs l).take k ++ [l[k].toNat % 9] := by
  have h : k < (qs l).length := by unfold qs; simpa using hk
  have e : (qs l)[k] = l[k].toNat % 9 := List.getElem_map (fun b : UInt8 => b.toNat % 9)
  rw [List.take_succ_eq_append_getElem h, e]
theorem Sz.take_le {l : List Nat} (h : ∀ q ∈ l, q ≤ 8) (k : Nat) : ∀ q ∈ l.take k, q ≤ 8 := fun q hq => h q (List.mem_of_mem_take hq)
theorem Sz.two_cells (w : World) (j : Nat) (hj : j ≤ 8) : (convert 50 9 (.slice (some ⟨w.heap.size, 0, none⟩) 2 2)).run Tryd.prog (w.alloc (.cells #[.int .u8 75, .int .u8 (97 + (j : Int))] 5)) = .ok (.string ⟨([75, UInt8.ofNat (97 + j)] : List UInt8).toArray⟩) (w.alloc (.cells #[.int .u8 75, .int .u8 (97 + (j : Int))] 5)) := by
  have hh : (w.alloc (.cells #[.int .u8 75, .int .u8 (97 + (j : Int))] 5)).heap[w.heap.size]? = some (.cells #[.int .u8 75, .int .u8 (97 + (j : Int))] 5 (0, 0)) := heap_alloc_new w _
  refine conv_list _ _ 2 [75, UInt8.ofNat (97 + j)] (fun i hi => ?_)
  match i, hi with
  | 0, _ => exact (cell_heap hh 0).trans rfl
  | 1, _ =>
    have h2 : ((UInt8.ofNat (97 + j)).toNat : Int) = 97 + (j : Int) := by rw [UInt8.toNat_ofNat']; omega
    show World.cell? _ ⟨w.heap.size, 1, none⟩ = some (.int .u8 ((UInt8.ofNat (97 + j)).toNat : Int))
    rw [h2]
    exact (cell_heap hh 1).trans rfl
/-- Where the lines are ahead of stanza k. -/
def Sz.lineAt (l : List Nat) (k : Nat) : Nat := if k = 0 then 0 else sumQ (l.take k) - 1
theorem Sz.cat_is (a b : List UInt8) : ((⟨a.toArray⟩ : ByteArray) ++ ⟨b.toArray⟩) = ⟨(a ++ b).toArray⟩ := ByteArray.mk_append_mk a b
abbrev Sz.RL := Sz.RdO 33 46
set_option maxRecDepth 100000 in
set_option maxHeartbeats 6400000 in
theorem stanzaLines_any (A : Option Addr) (n c : Nat) (l : List UInt8) (tw : Nat) (htw : tw < 256) (w : World) (hw : MaxOk w) (hn : l.length = n) (hr : Rg.Row encU 1 w A l) (hnm : n ≤ maxLen) :
    Calls Tryd.prog 5 #[.slice A n c, .int .u8 tw] w fun e w' => e = .returned (.bool true) ∧ Below w.heap.size w w' := by
  unfold maxLen at hnm
  have HM := Lib.hid hw
  have HN := Lib.hid hn
  have HR := Lib.hid hr
  clear hw hn hr
  by_cases h1 : 20 < n
  · have d0 : decide ((20 : Int) < (n : Int)) = true := decide_eq_true (by omega)
    clear h1
    go_enter Tryd.func5, Tryd.ntmps5
    go_wp2_with fail
    refine (known5_any _ HM.out).mono ?_
    rintro _ u1 ⟨rfl, hb⟩
    have HB1 := Lib.hid hb
    clear hb
    go_wp2_with fail
    go_ret
    exact ⟨rfl, HB1.out⟩
  have d0 : decide ((20 : Int) < (n : Int)) = false := decide_eq_false (by omega)
  have hn20 : n ≤ 20 := by omega
  clear h1
  go_enter Tryd.func5, Tryd.ntmps5
  go_wp2_with fail
  refine (known5_any _ HM.out).mono ?_
  rintro _ u ⟨rfl, hb⟩
  have HB := Lib.hid hb
  clear hb
  go_wp2_with fail
  go_loopw [5, 6, 7, 8] (fun s ln vo i wr => ∃ (k : Nat) (T : List UInt8) (G : List (List Fld)) (ds : List Desc) (q : Nat), k ≤ n ∧ i = .int .i64 k ∧ s = .string ⟨T.toArray⟩ ∧ ln = .int .i64 q ∧ q ≤ 1000 ∧ Hid (q = lineAt (qs l) k) ∧ Hid (G = layG 0 ((qs l).take k)) ∧ Hid (T = textS G) ∧ Hid (RL wr u.heap.size vo (.slice none 0 0) ds G []) ∧ Hid (Below u.heap.size u wr)) (fun _ _ _ i _ => n - (intOf i).toNat)
  case atStart => exact ⟨0, [], [], [], 0, Nat.zero_le _, rfl, rfl, rfl, Nat.zero_le _, rfl, rfl, rfl, rdo_new _ _, Below.refl _ _⟩
  case round =>
    obtain ⟨k, T, G, ds, q0, hk, rfl, rfl, rfl, hq1, HQ, HG, HT, HRD, HW⟩ := hrel
    have htl : T.length ≤ 6000 := by
      rw [HT.out, HG.out]
      have := textH_len ((qs l).take k) 0 (take_le (qs_le l) k)
      have h2 : ((qs l).take k).length ≤ 20 := by rw [List.length_take]; unfold qs; rw [List.length_map, HN.out]; omega
      omega
    by_cases hlt : k < n
    · have hlr : k < l.length := by rw [HN.out]; exact hlt
      have hqt := qs_take l k hlr
      have hcell : ∀ v, Below w.heap.size w v → ∃ ad, A = some ad ∧ v.cell? (ad.add k) = some (.int .u8 l[k].toNat) := fun v hb => by
        obtain ⟨ad, e, _, hc⟩ := oct_at (Rg.row_below HR.out hb) k hlr
        exact ⟨ad, e, hc⟩
      obtain ⟨ad, hA, _⟩ := hcell w (Below.refl _ _)
      subst hA
      have hcell2 : ∀ v, Below w.heap.size w v → v.cell? (ad.add k) = some (.int .u8 l[k].toNat) := fun v hb => by
        obtain ⟨ad2, e, hc⟩ := hcell v hb
        cases e; exact hc
      have HC := Lib.hid hcell2
      obtain ⟨b, hb⟩ : ∃ b, l[k] = b := ⟨_, rfl⟩
      rw [hb] at hqt HC
      obtain ⟨q, hq⟩ : ∃ q, b.toNat % 9 = q := ⟨_, rfl⟩
      rw [hq] at hqt
      have hq8 : q ≤ 8 := by omega
      have hqi : (b.toNat : Int) % 9 = (q : Int) := by omega
      have HQI := Lib.hid hqi
      have HQT := Lib.hid hqt
      have hsum : sumQ ((qs l).take k) ≤ 200 := by
        have := sumQ_le ((qs l).take k) (take_le (qs_le l) k)
        have h2 : ((qs l).take k).length ≤ 20 := by rw [List.length_take]; unfold qs; rw [List.length_map, HN.out]; omega
        omega
      obtain ⟨N0, hN0⟩ : ∃ N, sumQ ((qs l).take k) = N := ⟨_, rfl⟩
      rw [hN0] at hsum
      have HN0 := Lib.hid hN0
      clear hcell hcell2 hb hq hqt hN0 hqi
      by_cases hk0 : k = 0
      · have dk : decide (0 < k) = false := decide_eq_false (by omega)
        have hq00 : q0 = 0 := by rw [HQ.out, hk0]; rfl
        have hNz : N0 = 0 := by rw [← HN0.out, hk0]; rfl
        subst hq00
        obtain rfl : 0 = N0 := hNz.symm
        have HTX : Hid (textS (G ++ [stzH 0 (q + 1)]) = T ++ stanzaT (stzH 0 (q + 1))) := by
          have hg : G = [] := by rw [HG.out, hk0]; rfl
          show _ = _; rw [HT.out, hg]; rfl
        clear hk0
        go_wp2_with fail
        go_loopw [5, 6, 9, 10] (fun s ln vn i wq => ∃ (j : Nat) (C : List UInt8) (L : Nat), j ≤ q + 1 ∧ i = .int .i64 j ∧ s = .string ⟨C.toArray⟩ ∧ ln = .int .i64 L ∧ L ≤ 400 ∧ Hid (L = 0 + j) ∧ Hid (C = T ++ stanzaT (stzH 0 j)) ∧ Hid (RL wq u.heap.size u7 vn ds G (stzH 0 j)) ∧ Hid (Below u.heap.size u wq)) (fun _ _ _ i _ => q + 1 - (intOf i).toNat)
        case atStart => exact ⟨0, T, 0, Nat.zero_le _, rfl, rfl, by go_num, by omega, rfl, by show _ = T ++ []; rw [List.append_nil], HRD.out, HW.out⟩
        case round =>
          obtain ⟨j, C, L, hj, rfl, rfl, rfl, hL4, HL, HCC, HRJ, HWJ⟩ := hrel
          have HWA : Hid (Below w.heap.size w wr) := HB.out.trans (HWJ.out.mono HB.out.size)
          have c0 := HC.out _ HWA.out
          have hqi := HQI.out
          obtain ⟨Aj, cj, hvj, hrj, _, _⟩ := Rg.row_own fitsF HRJ.out.2.2.2.1
          rw [stzH_len] at hvj
          subst hvj
          have HRJ1 := Lib.hid hrj
          clear hrj
          by_cases hjq : j ≤ q
          · have dj : decide ((j : Int) ≤ (q : Int)) = true := decide_eq_true (by omega)
            have hj8 : j ≤ 8 := by omega
            have hconv := two_cells wr j hj8
            have hw8 : IntKind.u8.wrap (97 + (j : Int)) = 97 + (j : Int) := by rw [IntKind.wrap_u8]; omega
            obtain ⟨kb, hkb⟩ : ∃ x, UInt8.ofNat (97 + j) = x := ⟨_, rfl⟩
            have hst : stzH 0 (j + 1) = stzH 0 j ++ [⟨[75, kb], 118 :: decT L, (L : Int)⟩] := by rw [stzH_snoc, ← hkb, HL.out]; rfl
            rw [hkb] at hconv
            have hcl : C.length ≤ 6300 := by
              rw [HCC.out, List.length_append]; have := stanzaH_len 0 j; omega
            obtain ⟨D, hD⟩ : ∃ x, decT L = x := ⟨_, rfl⟩
            have hdl : D.length ≤ 21 := by rw [← hD]; exact decF_len 20 _
            rw [hD] at hst
            have hDC := decT_any L (by omega)
            rw [hD] at hDC
            have HDC := Lib.hid hDC
            have e0 := cat_is C [75, kb]
            obtain ⟨X1, hX1⟩ : ∃ x, C ++ [75, kb] = x := ⟨_, rfl⟩
            have l0 : X1.length ≤ 6302 := by rw [← hX1, List.length_append]; simp only [List.length_cons, List.length_nil]; omega
            rw [hX1] at e0
            have e1 := cat_is X1 [58, 32, 118]
            obtain ⟨X2, hX2⟩ : ∃ x, X1 ++ [58, 32, 118] = x := ⟨_, rfl⟩
            have l1 : X2.length ≤ 6305 := by rw [← hX2, List.length_append]; simp only [List.length_cons, List.length_nil]; omega
            rw [hX2] at e1
            have e2 := cat_is X2 D
            obtain ⟨X3, hX3⟩ : ∃ x, X2 ++ D = x := ⟨_, rfl⟩
            have l2 : X3.length ≤ 6330 := by rw [← hX3, List.length_append]; omega
            rw [hX3] at e2
            have e3 := cat_is X3 [10]
            obtain ⟨X4, hX4⟩ : ∃ x, X3 ++ [10] = x := ⟨_, rfl⟩
            have l3 : X4.length ≤ 6331 := by rw [← hX4, List.length_append]; simp only [List.length_cons, List.length_nil]; omega
            rw [hX4] at e3
            have e0' : ((⟨C.toArray⟩ : ByteArray) ++ ⟨#[75, kb]⟩) = ⟨X1.toArray⟩ := e0
            have e1' : ((⟨X1.toArray⟩ : ByteArray) ++ ⟨#[58, 32, 118]⟩) = ⟨X2.toArray⟩ := e1
            have e3' : ((⟨X3.toArray⟩ : ByteArray) ++ ⟨#[10]⟩) = ⟨X4.toArray⟩ := e3
            have e4 : ((⟨#[118]⟩ : ByteArray) ++ ⟨D.toArray⟩) = ⟨(118 :: D).toArray⟩ := cat_is [118] D
            obtain ⟨V, hV⟩ : ∃ x, 118 :: D = x := ⟨_, rfl⟩
            have l4 : V.length ≤ 22 := by rw [← hV, List.length_cons]; omega
            rw [hV] at e4 hst
            have HX4 : Hid (X4 = T ++ stanzaT (stzH 0 (j + 1))) := by
              show _ = _
              rw [hst, stanzaT_snoc, ← List.append_assoc, ← HCC.out, ← hX4, ← hX3, ← hX2, ← hX1]
              unfold fieldT Sz.mark; simp [← hV]
            have HST := Lib.hid hst
            have hwu : IntKind.u64.wrap (L : Int) = (L : Int) := IntWalk.u64_in _ (by omega)
            clear e0 e1 e3 hX1 hX2 hX3 hX4 hV hst hD hDC hkb
            go_wp2_with fail
            have hb0 : Below u.heap.size u (wr.alloc (.cells #[.int .u8 75, .int .u8 (97 + (j : Int))] 5)) := HWJ.out.alloc HWJ.out.size _
            have HR0 := Lib.hid (rdo_below HRJ.out ((Below.refl _ _).alloc (Nat.le_refl _) (.cells #[.int .u8 75, .int .u8 (97 + (j : Int))] 5)))
            have HB0 := Lib.hid hb0
            clear hconv hb0
            refine (HDC.out _).mono ?_
            rintro _ z1 ⟨rfl, hb1⟩
            have HR1 := Lib.hid (rdo_below HR0.out hb1)
            have HB1 := Lib.hid (HB0.out.trans (hb1.mono HB0.out.size))
            clear hb1
            go_wp2_with fail
            refine (HDC.out _).mono ?_
            rintro _ z2 ⟨rfl, hb2⟩
            have HR2 := Lib.hid (rdo_below HR1.out hb2)
            have HB2 := Lib.hid (HB1.out.trans (hb2.mono HB1.out.size))
            clear hb2
            have HW4 : Hid (Below z2.heap.size z2 (z2.alloc (.cells #[.string ⟨([75, kb] : List UInt8).toArray⟩, .string ⟨V.toArray⟩, .int .i64 L] 46))) := (Below.refl _ _).alloc (Nat.le_refl _) _
            have HB4 : Hid (u.heap.size ≤ (z2.alloc (.cells #[.string ⟨([75, kb] : List UInt8).toArray⟩, .string ⟨V.toArray⟩, .int .i64 L] 46)).heap.size) := Nat.le_trans HB2.out.size HW4.out.size
            have HSZ : Hid ((stzH 0 j).length + 1 ≤ 1000000) := by show _ ≤ _; rw [stzH_len]; omega
            go_wp2_with (at_builtin; refine Rg.wpList_app_at fitsF sliceRF rfl (.tmp 60) (.tmp 68) rfl u.heap.size _ (stzH 0 j) [(⟨[75, kb], V, (L : Int)⟩ : Fld)] rfl (Rg.own_below HR2.out.2.2.2.1 HW4.out) _ _ rfl (Rg.news_new z2 _ [(⟨[75, kb], V, (L : Int)⟩ : Fld)] _ (by rfl)) (Nat.zero_lt_succ _) HSZ.out HB4.out ?_)
            intro g cap W5 ho5 hg5 hl5
            have HR5 : Hid (RL W5 u.heap.size u7 (.slice (some ⟨g, 0, none⟩) ((stzH 0 j).length + 1) cap) ds G (stzH 0 (j + 1))) := by show RdO _ _ _ _ _ _ _ _ _; rw [HST.out]; exact rdo_add neOF (rdo_below HR2.out HW4.out) ho5 hg5 (by simpa using hl5)
            have HB5 : Hid (Below u.heap.size u W5) := (HB2.out.trans (HW4.out.mono HB2.out.size)).trans (Rg.grown_below (Rg.own_below HR2.out.2.2.2.1 HW4.out) HB4.out hg5)
            have HLX : Hid (L + 1 = 0 + (j + 1)) := by have := HL.out; show _ = _; omega
            have hL5 : L ≤ 300 := by rw [HL.out]; omega
            clear ho5 hg5 hl5
            go_wp2_with fail
            go_roundw
            case rel => exact ⟨j + 1, X4, L + 1, by omega, by go_num, rfl, by go_num, by omega, HLX, HX4, HR5, HB5⟩
            case measure => simp [intOf]; omega
          · have hje : j = q + 1 := by omega
            have dj : decide ((j : Int) ≤ (q : Int)) = false := decide_eq_false (by omega)
            have HG2 : Hid (G ++ [stzH 0 (q + 1)] = layG 0 ((qs l).take (k + 1))) := by show _ = _; rw [HQT.out, layG_snoc, Nat.zero_add, HN0.out, ← HG.out]
            have HT2 : Hid (C = textS (G ++ [stzH 0 (q + 1)])) := by show _ = _; rw [HTX.out, HCC.out, hje]
            have HQ2 : Hid (L = lineAt (qs l) (k + 1)) := by
              show _ = _
              unfold lineAt
              rw [if_neg (Nat.succ_ne_zero k), HQT.out, sumQ_snoc, HN0.out, HL.out, hje]; omega
            have HRE : Hid (RL wr u.heap.size u7 (.slice Aj j cj) ds G (stzH 0 (q + 1))) := by show RdO _ _ _ _ _ _ _ _ _; rw [← hje]; exact HRJ.out
            have HJL : Hid ((stzH 0 (q + 1)).length = j) := by show _ = _; rw [stzH_len, hje]
            have HDL : Hid (ds.length + 1 ≤ 1000000) := by
              have h1 := rdo_len HRJ.out
              have h2 := layG_len ((qs l).take k) 0
              rw [← HG.out, List.length_take] at h2
              show _ ≤ _; omega
            have HUS : Hid (u.heap.size ≤ wr.heap.size) := HWJ.out.size
            clear hje
            go_wp2_with (at_builtin; refine Rg.wpList_app_at fitsO sliceRE rfl (.tmp 72) (.tmp 74) rfl u.heap.size _ ds [(Aj, j, cj)] rfl (Rg.own_below HRJ.out.1 ((Below.refl _ _).alloc (Nat.le_refl _) _)) _ _ rfl (Rg.news_new wr _ [(Aj, j, cj)] _ (by rfl)) (Nat.zero_lt_succ _) HDL.out ?b2 ?_)
            case b2 => have := HUS.out; simp; omega
            intro g cap W5 ho5 hg5 hl5
            have hal : Below wr.heap.size wr (wr.alloc (.cells #[.slice Aj j cj] 33)) := (Below.refl _ _).alloc (Nat.le_refl _) _
            have HR5 := Lib.hid (rdo_end neOF (rdo_below HRE.out hal) HJL.out ho5 hg5 (by simpa using hl5))
            have HW5 : Hid (Below u.heap.size u W5) := (HWJ.out.trans (hal.mono HUS.out)).trans (Rg.grown_below (Rg.own_below HRJ.out.1 hal) (Nat.le_trans HUS.out hal.size) hg5)
            clear ho5 hg5 hl5 hal
            go_wp2_with fail
            go_roundw
            case rel => exact ⟨k + 1, C, G ++ [stzH 0 (q + 1)], _, L, by omega, by go_num, rfl, rfl, by omega, HQ2, HG2, HT2, HR5, HW5⟩
            case measure => simp [intOf]; omega
      · have dk : decide (0 < k) = true := decide_eq_true (by omega)
        have hq00 : q0 + 1 = N0 := by
          have h := HQ.out
          unfold lineAt at h
          rw [if_neg hk0, HN0.out] at h
          have : 2 ≤ N0 := by
            rw [← HN0.out]
            have e := qs_take l (k - 1) (by omega)
            rw [show k - 1 + 1 = k by omega] at e
            rw [e, sumQ_snoc]; omega
          omega
        have hqz : (q0 : Int) + 1 = (N0 : Int) := by omega
        have HTX : Hid (textS (G ++ [stzH N0 (q + 1)]) = T ++ [10] ++ stanzaT (stzH N0 (q + 1))) := by
          have hg : G.isEmpty = false := by
            rw [HG.out, List.isEmpty_eq_false_iff]; intro e
            have := layG_len ((qs l).take k) 0
            rw [e, List.length_take] at this; unfold qs at this; rw [List.length_map] at this; simp at this; omega
          show _ = _; rw [textS_snoc, hg, HT.out]; rfl
        have hcat := cat_is T [10]
        obtain ⟨T2, hT2⟩ : ∃ x, T ++ [10] = x := ⟨_, rfl⟩
        have htl2 : T2.length ≤ 6001 := by rw [← hT2, List.length_append]; simp; omega
        rw [hT2] at hcat HTX
        have hcat' : ((⟨T.toArray⟩ : ByteArray) ++ ⟨#[10]⟩) = ⟨T2.toArray⟩ := hcat
        clear hk0 hq00 hcat hT2
        go_wp2_with fail
        clear hcat' htl hqz
        go_loopw [5, 6, 9, 10] (fun s ln vn i wq => ∃ (j : Nat) (C : List UInt8) (L : Nat), j ≤ q + 1 ∧ i = .int .i64 j ∧ s = .string ⟨C.toArray⟩ ∧ ln = .int .i64 L ∧ L ≤ 400 ∧ Hid (L = N0 + j) ∧ Hid (C = T2 ++ stanzaT (stzH N0 j)) ∧ Hid (RL wq u.heap.size u7 vn ds G (stzH N0 j)) ∧ Hid (Below u.heap.size u wq)) (fun _ _ _ i _ => q + 1 - (intOf i).toNat)
        case atStart => exact ⟨0, T2, N0, Nat.zero_le _, rfl, rfl, by go_num, by omega, rfl, by show _ = T2 ++ []; rw [List.append_nil], HRD.out, HW.out⟩
        case round =>
          obtain ⟨j, C, L, hj, rfl, rfl, rfl, hL4, HL, HCC, HRJ, HWJ⟩ := hrel
          have HWA : Hid (Below w.heap.size w wr) := HB.out.trans (HWJ.out.mono HB.out.size)
          have c0 := HC.out _ HWA.out
          have hqi := HQI.out
          obtain ⟨Aj, cj, hvj, hrj, _, _⟩ := Rg.row_own fitsF HRJ.out.2.2.2.1
          rw [stzH_len] at hvj
          subst hvj
          have HRJ1 := Lib.hid hrj
          clear hrj
          by_cases hjq : j ≤ q
          · have dj : decide ((j : Int) ≤ (q : Int)) = true := decide_eq_true (by omega)
            have hj8 : j ≤ 8 := by omega
            have hconv := two_cells wr j hj8
            have hw8 : IntKind.u8.wrap (97 + (j : Int)) = 97 + (j : Int) := by rw [IntKind.wrap_u8]; omega
            obtain ⟨kb, hkb⟩ : ∃ x, UInt8.ofNat (97 + j) = x := ⟨_, rfl⟩
            have hst : stzH N0 (j + 1) = stzH N0 j ++ [⟨[75, kb], 118 :: decT L, (L : Int)⟩] := by rw [stzH_snoc, ← hkb, HL.out]; rfl
            rw [hkb] at hconv
            have hcl : C.length ≤ 6300 := by
              rw [HCC.out, List.length_append]; have := stanzaH_len N0 j; omega
            obtain ⟨D, hD⟩ : ∃ x, decT L = x := ⟨_, rfl⟩
            have hdl : D.length ≤ 21 := by rw [← hD]; exact decF_len 20 _
            rw [hD] at hst
            have hDC := decT_any L (by omega)
            rw [hD] at hDC
            have HDC := Lib.hid hDC
            have e0 := cat_is C [75, kb]
            obtain ⟨X1, hX1⟩ : ∃ x, C ++ [75, kb] = x := ⟨_, rfl⟩
            have l0 : X1.length ≤ 6302 := by rw [← hX1, List.length_append]; simp only [List.length_cons, List.length_nil]; omega
            rw [hX1] at e0
            have e1 := cat_is X1 [58, 32, 118]
            obtain ⟨X2, hX2⟩ : ∃ x, X1 ++ [58, 32, 118] = x := ⟨_, rfl⟩
            have l1 : X2.length ≤ 6305 := by rw [← hX2, List.length_append]; simp only [List.length_cons, List.length_nil]; omega
            rw [hX2] at e1
            have e2 := cat_is X2 D
            obtain ⟨X3, hX3⟩ : ∃ x, X2 ++ D = x := ⟨_, rfl⟩
            have l2 : X3.length ≤ 6330 := by rw [← hX3, List.length_append]; omega
            rw [hX3] at e2
            have e3 := cat_is X3 [10]
            obtain ⟨X4, hX4⟩ : ∃ x, X3 ++ [10] = x := ⟨_, rfl⟩
            have l3 : X4.length ≤ 6331 := by rw [← hX4, List.length_append]; simp only [List.length_cons, List.length_nil]; omega
            rw [hX4] at e3
            have e0' : ((⟨C.toArray⟩ : ByteArray) ++ ⟨#[75, kb]⟩) = ⟨X1.toArray⟩ := e0
            have e1' : ((⟨X1.toArray⟩ : ByteArray) ++ ⟨#[58, 32, 118]⟩) = ⟨X2.toArray⟩ := e1
            have e3' : ((⟨X3.toArray⟩ : ByteArray) ++ ⟨#[10]⟩) = ⟨X4.toArray⟩ := e3
            have e4 : ((⟨#[118]⟩ : ByteArray) ++ ⟨D.toArray⟩) = ⟨(118 :: D).toArray⟩ := cat_is [118] D
            obtain ⟨V, hV⟩ : ∃ x, 118 :: D = x := ⟨_, rfl⟩
            have l4 : V.length ≤ 22 := by rw [← hV, List.length_cons]; omega
            rw [hV] at e4 hst
            have HX4 : Hid (X4 = T2 ++ stanzaT (stzH N0 (j + 1))) := by
              show _ = _
              rw [hst, stanzaT_snoc, ← List.append_assoc, ← HCC.out, ← hX4, ← hX3, ← hX2, ← hX1]
              unfold fieldT Sz.mark; simp [← hV]
            have HST := Lib.hid hst
            have hwu : IntKind.u64.wrap (L : Int) = (L : Int) := IntWalk.u64_in _ (by omega)
            clear e0 e1 e3 hX1 hX2 hX3 hX4 hV hst hD hDC hkb
            go_wp2_with fail
            have hb0 : Below u.heap.size u (wr.alloc (.cells #[.int .u8 75, .int .u8 (97 + (j : Int))] 5)) := HWJ.out.alloc HWJ.out.size _
            have HR0 := Lib.hid (rdo_below HRJ.out ((Below.refl _ _).alloc (Nat.le_refl _) (.cells #[.int .u8 75, .int .u8 (97 + (j : Int))] 5)))
            have HB0 := Lib.hid hb0
            clear hconv hb0
            refine (HDC.out _).mono ?_
            rintro _ z1 ⟨rfl, hb1⟩
            have HR1 := Lib.hid (rdo_below HR0.out hb1)
            have HB1 := Lib.hid (HB0.out.trans (hb1.mono HB0.out.size))
            clear hb1
            go_wp2_with fail
            refine (HDC.out _).mono ?_
            rintro _ z2 ⟨rfl, hb2⟩
            have HR2 := Lib.hid (rdo_below HR1.out hb2)
            have HB2 := Lib.hid (HB1.out.trans (hb2.mono HB1.out.size))
            clear hb2
            have HW4 : Hid (Below z2.heap.size z2 (z2.alloc (.cells #[.string ⟨([75, kb] : List UInt8).toArray⟩, .string ⟨V.toArray⟩, .int .i64 L] 46))) := (Below.refl _ _).alloc (Nat.le_refl _) _
            have HB4 : Hid (u.heap.size ≤ (z2.alloc (.cells #[.string ⟨([75, kb] : List UInt8).toArray⟩, .string ⟨V.toArray⟩, .int .i64 L] 46)).heap.size) := Nat.le_trans HB2.out.size HW4.out.size
            have HSZ : Hid ((stzH N0 j).length + 1 ≤ 1000000) := by show _ ≤ _; rw [stzH_len]; omega
            go_wp2_with (at_builtin; refine Rg.wpList_app_at fitsF sliceRF rfl (.tmp 60) (.tmp 68) rfl u.heap.size _ (stzH N0 j) [(⟨[75, kb], V, (L : Int)⟩ : Fld)] rfl (Rg.own_below HR2.out.2.2.2.1 HW4.out) _ _ rfl (Rg.news_new z2 _ [(⟨[75, kb], V, (L : Int)⟩ : Fld)] _ (by rfl)) (Nat.zero_lt_succ _) HSZ.out HB4.out ?_)
            intro g cap W5 ho5 hg5 hl5
            have HR5 : Hid (RL W5 u.heap.size u7 (.slice (some ⟨g, 0, none⟩) ((stzH N0 j).length + 1) cap) ds G (stzH N0 (j + 1))) := by show RdO _ _ _ _ _ _ _ _ _; rw [HST.out]; exact rdo_add neOF (rdo_below HR2.out HW4.out) ho5 hg5 (by simpa using hl5)
            have HB5 : Hid (Below u.heap.size u W5) := (HB2.out.trans (HW4.out.mono HB2.out.size)).trans (Rg.grown_below (Rg.own_below HR2.out.2.2.2.1 HW4.out) HB4.out hg5)
            have HLX : Hid (L + 1 = N0 + (j + 1)) := by have := HL.out; show _ = _; omega
            have hL5 : L ≤ 300 := by rw [HL.out]; omega
            clear ho5 hg5 hl5
            go_wp2_with fail
            go_roundw
            case rel => exact ⟨j + 1, X4, L + 1, by omega, by go_num, rfl, by go_num, by omega, HLX, HX4, HR5, HB5⟩
            case measure => simp [intOf]; omega
          · have hje : j = q + 1 := by omega
            have dj : decide ((j : Int) ≤ (q : Int)) = false := decide_eq_false (by omega)
            have HG2 : Hid (G ++ [stzH N0 (q + 1)] = layG 0 ((qs l).take (k + 1))) := by show _ = _; rw [HQT.out, layG_snoc, Nat.zero_add, HN0.out, ← HG.out]
            have HT2 : Hid (C = textS (G ++ [stzH N0 (q + 1)])) := by show _ = _; rw [HTX.out, HCC.out, hje]
            have HQ2 : Hid (L = lineAt (qs l) (k + 1)) := by
              show _ = _
              unfold lineAt
              rw [if_neg (Nat.succ_ne_zero k), HQT.out, sumQ_snoc, HN0.out, HL.out, hje]; omega
            have HRE : Hid (RL wr u.heap.size u7 (.slice Aj j cj) ds G (stzH N0 (q + 1))) := by show RdO _ _ _ _ _ _ _ _ _; rw [← hje]; exact HRJ.out
            have HJL : Hid ((stzH N0 (q + 1)).length = j) := by show _ = _; rw [stzH_len, hje]
            have HDL : Hid (ds.length + 1 ≤ 1000000) := by
              have h1 := rdo_len HRJ.out
              have h2 := layG_len ((qs l).take k) 0
              rw [← HG.out, List.length_take] at h2
              show _ ≤ _; omega
            have HUS : Hid (u.heap.size ≤ wr.heap.size) := HWJ.out.size
            clear hje
            go_wp2_with (at_builtin; refine Rg.wpList_app_at fitsO sliceRE rfl (.tmp 72) (.tmp 74) rfl u.heap.size _ ds [(Aj, j, cj)] rfl (Rg.own_below HRJ.out.1 ((Below.refl _ _).alloc (Nat.le_refl _) _)) _ _ rfl (Rg.news_new wr _ [(Aj, j, cj)] _ (by rfl)) (Nat.zero_lt_succ _) HDL.out ?b2 ?_)
            case b2 => have := HUS.out; simp; omega
            intro g cap W5 ho5 hg5 hl5
            have hal : Below wr.heap.size wr (wr.alloc (.cells #[.slice Aj j cj] 33)) := (Below.refl _ _).alloc (Nat.le_refl _) _
            have HR5 := Lib.hid (rdo_end neOF (rdo_below HRE.out hal) HJL.out ho5 hg5 (by simpa using hl5))
            have HW5 : Hid (Below u.heap.size u W5) := (HWJ.out.trans (hal.mono HUS.out)).trans (Rg.grown_below (Rg.own_below HRJ.out.1 hal) (Nat.le_trans HUS.out hal.size) hg5)
            clear ho5 hg5 hl5 hal
            go_wp2_with fail
            go_roundw
            case rel => exact ⟨k + 1, C, G ++ [stzH N0 (q + 1)], _, L, by omega, by go_num, rfl, rfl, by omega, HQ2, HG2, HT2, HR5, HW5⟩
            case measure => simp [intOf]; omega
    · obtain rfl : k = n := by omega
      have hall : (qs l).take k = qs l := List.take_of_length_le (by unfold qs; rw [List.length_map, HN.out]; exact Nat.le_refl _)
      have HALL := Lib.hid hall
      have HGA : Hid (G = layG 0 (qs l)) := by show _ = _; rw [HG.out, hall]
      have hgl : G.length = k := by rw [HGA.out, layG_len]; unfold qs; rw [List.length_map, HN.out]
      have HPG : Hid (parseS T = (0, 0, G)) := by show _ = _; rw [HT.out]; exact parse_grid (by rw [HGA.out]; exact goodG_lay _ 0 (qs_le l)) (by rw [← HT.out]; omega)
      have HGL := Lib.hid hgl
      have hdl : ds.length = k := (rdo_len HRD.out).trans hgl
      obtain ⟨Cv, dv, hv, hrowv, _, _⟩ := Rg.row_own fitsO HRD.out.1
      rw [hdl] at hv
      subst hv
      have HGW : Hid (Gr.Row encF 3 wr Cv G) := ⟨ds, hrowv, HRD.out.2.1⟩
      have HLEN : Hid (∀ x ∈ G, x.length ≤ 100000) := fun x hx => by
        have := (textS_len G).1 x hx
        rw [← HT.out] at this; omega
      have HWA : Hid (Below w.heap.size w wr) := HB.out.trans (HW.out.mono HB.out.size)
      clear hall hgl hdl hrowv
      go_wp2_with fail
      refine (s5_parse (maxOk_below HM.out HWA.out) T HPG.out HGL.out).mono ?_
      rintro _ z1 ⟨A1, c1, rfl, hr1, hb1⟩
      have HR1 := Lib.hid hr1
      have HG1 := Lib.hid (Gr.row_below HGW.out hb1)
      have HB1 := Lib.hid (HWA.out.trans (hb1.mono HWA.out.size))
      clear hr1 hb1
      go_wp2_with fail
      refine (same5_any A1 Cv k c1 k dv G G _ HGL.out HGL.out HR1.out HG1.out (by omega) (by omega) HLEN.out HLEN.out).mono ?_
      rintro _ z2 ⟨rfl, hb2⟩
      rw [decide_eq_true rfl]
      have HR2 := Lib.hid (Gr.row_below HR1.out hb2)
      have HB2 := Lib.hid (HB1.out.trans (hb2.mono HB1.out.size))
      clear hb2
      go_wp2_with fail
      refine (s5_print A1 k c1 G HGL.out HR2.out (by omega) (fun l hl => Nat.le_trans (HLEN.out l hl) (by decide)) HT.out.symm (by omega)).mono ?_
      rintro _ z3 ⟨rfl, hb3⟩
      have HB3 := Lib.hid (HB2.out.trans (hb3.mono HB2.out.size))
      clear hb3
      have eT : (T == T) = true := by simp
      have eT2 : (T != T) = false := by simp
      by_cases hk0 : k = 0
      · have dk1 : decide (k = 0) = true := decide_eq_true hk0
        have dk2 : ((k : Int) == 0) = true := by rw [beq_iff_eq]; omega
        clear hk0
        go_wp2_with fail
        go_ret
        exact ⟨rfl, HB3.out⟩
      have dk1 : decide (k = 0) = false := decide_eq_false hk0
      have dk2 : ((k : Int) == 0) = false := beq_eq_false_iff_ne.2 (by omega)
      obtain ⟨p, hp⟩ : ∃ p, k = p + 1 := ⟨k - 1, by omega⟩
      have hpl : p < l.length := by rw [HN.out]; omega
      obtain ⟨ad, rfl, _, c0⟩ := oct_at (Rg.row_below HR.out HB3.out) p hpl
      have hqt := qs_take l p hpl
      obtain ⟨b, hb⟩ : ∃ b, l[p] = b := ⟨_, rfl⟩
      rw [hb] at hqt c0
      obtain ⟨q, hq⟩ : ∃ q, b.toNat % 9 = q := ⟨_, rfl⟩
      rw [hq, ← hp, HALL.out] at hqt
      have hq8 : q ≤ 8 := by omega
      have hqi : (b.toNat : Int) % 9 = (q : Int) := by omega
      obtain ⟨t, ht⟩ : ∃ t, tw % (q + 1) = t := ⟨_, rfl⟩
      have ht8 : t < q + 1 := by rw [← ht]; exact Nat.mod_lt _ (Nat.succ_pos q)
      have hti : (tw : Int) % ((q : Int) + 1) = (t : Int) := by rw [← ht]; norm_cast
      obtain ⟨N0, hN0⟩ : ∃ N, sumQ ((qs l).take p) = N := ⟨_, rfl⟩
      have hG2 : G = layG 0 ((qs l).take p) ++ [stzH N0 (q + 1)] := by rw [HGA.out, hqt, layG_snoc, Nat.zero_add, hN0, List.take_append_of_le_length (by rw [List.length_take]; unfold qs; rw [List.length_map, HN.out]; omega), List.take_take, Nat.min_self]
      have hconv := two_cells z3 t (by omega)
      obtain ⟨kb, hkb⟩ : ∃ x, UInt8.ofNat (97 + t) = x := ⟨_, rfl⟩
      rw [hkb] at hconv
      have hw8 : IntKind.u8.wrap (97 + (t : Int)) = 97 + (t : Int) := IntWalk.u8_in _ (by omega)
      have e0 := cat_is T [75, kb]
      obtain ⟨X1, hX1⟩ : ∃ x, T ++ [75, kb] = x := ⟨_, rfl⟩
      have l0 : X1.length ≤ 6002 := by rw [← hX1, List.length_append]; simp only [List.length_cons, List.length_nil]; omega
      rw [hX1] at e0
      have e1 := cat_is X1 [58, 32, 120, 10]
      obtain ⟨X2, hX2⟩ : ∃ x, X1 ++ [58, 32, 120, 10] = x := ⟨_, rfl⟩
      have l1 : X2.length ≤ 6006 := by rw [← hX2, List.length_append]; simp only [List.length_cons, List.length_nil]; omega
      rw [hX2] at e1
      have e0' : ((⟨T.toArray⟩ : ByteArray) ++ ⟨#[75, kb]⟩) = ⟨X1.toArray⟩ := e0
      have e1' : ((⟨X1.toArray⟩ : ByteArray) ++ ⟨#[58, 32, 120, 10]⟩) = ⟨X2.toArray⟩ := e1
      have hX2e : X2 = textS (layG 0 ((qs l).take p) ++ [stzH N0 (q + 1)]) ++ fieldT ⟨[75, kb], [120], 0⟩ := by
        rw [← hX2, ← hX1, ← hG2, ← HT.out]
        unfold fieldT Sz.mark; simp
      have hnz : qs l ≠ [] := by intro e; have := congrArg List.length e; unfold qs at this; rw [List.length_map, HN.out] at this; simp at this; omega
      have HPT : Hid (parseS X2 = (6, (q0 : Int), [])) := by
        show _ = _
        have hgood : GoodG 0 (layG 0 ((qs l).take p) ++ [stzH N0 (q + 1)]) := by rw [← hG2, HGA.out]; exact goodG_lay _ 0 (qs_le l)
        have h6 := parse_twice (f := ⟨[75, kb], [120], 0⟩) hgood (by rw [← hkb]; exact keyH t (by omega)) (show valB [120] = true by decide) (by rw [← hkb]; exact hasH_yes N0 (q + 1) t ht8) (by rw [← hX2e]; omega)
        rw [← hX2e, ← hG2, HGA.out] at h6
        have h7 := linesG_lay (qs l) 0 hnz
        have h8 := HQ.out
        unfold lineAt at h8
        rw [if_neg hk0, HALL.out] at h8
        rw [h6, h8]
        congr 2
        omega
      have hpi : (k : Int) - 1 = (p : Int) := by omega
      have hpk : p < k := by omega
      have iw : IntKind.i64.wrap ((k : Int) - 1) = (k : Int) - 1 := IntWalk.i64_in _ (by omega)
      have HBZ : Hid (Below w.heap.size w (z3.alloc (.cells #[.int .u8 75, .int .u8 (97 + (t : Int))] 5))) := HB3.out.alloc HB3.out.size _
      clear hq hqt hb ht hN0 hG2 hkb e0 e1 hX1 hX2 hX2e hnz hp hk0
      go_wp2_with fail
      refine (s5_parse (maxOk_below HM.out HBZ.out) X2 HPT.out (m := 0) rfl).mono ?_
      rintro _ z5 ⟨A5, c5, rfl, _, hb5⟩
      have HB5 := Lib.hid (HBZ.out.trans (hb5.mono HBZ.out.size))
      clear hb5
      have eq0 : ((q0 : Int) == (q0 : Int)) = true := by simp
      go_wp2_with fail
      go_ret
      exact ⟨rfl, HB5.out⟩
end Go.Proofs.YtmhobdlhmkbkdaaDoor

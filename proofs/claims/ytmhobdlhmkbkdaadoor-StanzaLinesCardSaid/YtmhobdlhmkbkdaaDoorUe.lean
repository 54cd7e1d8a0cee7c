/- The reference's Get and Order of fields: walked. -/
import Derived.Test.YtmhobdlhmkbkdaaDoorUd
import Derived.BigQuiet
namespace Go.Proofs.YtmhobdlhmkbkdaaDoor
open Go.RowKit Go.Maps Sz
attribute [local go_sem ↓] Go.wp_at_zero Go.wp_at_succ
set_option maxRecDepth 100000 in
set_option maxHeartbeats 1600000 in
theorem refGet_any (A : Option Addr) (n c : Nat) (l : List Fld) (key : List UInt8) (w : World) (hn : l.length = n) (hr : Rg.Row encF 3 w A l) (hl : n ≤ 100000) :
    Calls Tryd.prog 16 #[.slice A n c, .string ⟨key.toArray⟩] w (Sz.GotRet w (getF l key)) := by
  obtain ⟨R, hR⟩ : ∃ R, getF l key = R := ⟨_, rfl⟩
  rw [hR]
  obtain ⟨W1, hW1⟩ : ∃ W, w.alloc (.cells #[.string ⟨#[]⟩, .string ⟨#[]⟩, .int .i64 0] 46) = W := ⟨_, rfl⟩
  have HBW : Hid (Below w.heap.size w W1) := alloc_low hW1
  obtain ⟨b0, b1, b2, f0, f1, f2⟩ := cell_three hW1 (Below.refl _ _)
  have HR := Lib.hid (Rg.row_below hr HBW.out)
  have HG := Lib.hid hR
  have HN := Lib.hid hn
  clear hr hR hn
  go_enter Tryd.func16, Tryd.ntmps16
  go_wp2_with fail
  clear hW1
  go_loop [6] (fun i => ∃ k : Nat, k ≤ n ∧ i = .int .i64 k ∧ Hid (getF (l.drop k) key = R)) (fun i => n - (intOf i).toNat)
  case atStart => exact ⟨0, Nat.zero_le _, rfl, HG.out⟩
  case round =>
    obtain ⟨k, hk, rfl, HH⟩ := hrel
    by_cases hlt : k < n
    · have hlr : k < l.length := by rw [HN.out]; exact hlt
      obtain ⟨ad, rfl, _, c0, c1, c2⟩ := field_at HR.out k hlr
      have hd : l.drop k = l[k] :: l.drop (k + 1) := List.drop_eq_getElem_cons hlr
      have hh := HH.out
      rw [hd, getF_cons] at hh
      obtain ⟨f, hf⟩ : ∃ f, l[k] = f := ⟨_, rfl⟩
      rw [hf] at c0 c1 c2 hh
      obtain ⟨fk, fv, fl⟩ := f
      dsimp only at c0 c1 c2 hh
      clear hd hf
      cases hq : fk == key
      · have HE : Hid (getF (l.drop (k + 1)) key = R) := by show _ = _; rw [← hh, if_neg (by rw [hq]; decide)]
        clear hh
        go_wp2_with fail
        go_round
        case rel => exact ⟨k + 1, by omega, by go_num, HE⟩
        case measure => simp [intOf]; omega
      · have HE : Hid (R = some ⟨fk, fv, fl⟩) := by show _ = _; rw [← hh, if_pos hq]
        clear hh
        have HBV : Hid (Below w.heap.size w (((W1.setCell ⟨w.heap.size, 0, none⟩ (.string ⟨fk.toArray⟩)).setCell ⟨w.heap.size, 1, none⟩ (.string ⟨fv.toArray⟩)).setCell ⟨w.heap.size, 2, none⟩ (.int .i64 fl))) := ((HBW.out.setCell (Nat.le_refl _) _).setCell (Nat.le_refl _) _).setCell (Nat.le_refl _) _
        have g0 : (((W1.setCell ⟨w.heap.size, 0, none⟩ (.string ⟨fk.toArray⟩)).setCell ⟨w.heap.size, 1, none⟩ (.string ⟨fv.toArray⟩)).setCell ⟨w.heap.size, 2, none⟩ (.int .i64 fl)).cell? ⟨w.heap.size, 0, none⟩ = some (.string ⟨fk.toArray⟩) := by simp [go_sem, b0]
        have g1 : (((W1.setCell ⟨w.heap.size, 0, none⟩ (.string ⟨fk.toArray⟩)).setCell ⟨w.heap.size, 1, none⟩ (.string ⟨fv.toArray⟩)).setCell ⟨w.heap.size, 2, none⟩ (.int .i64 fl)).cell? ⟨w.heap.size, 1, none⟩ = some (.string ⟨fv.toArray⟩) := by simp [go_sem, b1]
        have g2 : (((W1.setCell ⟨w.heap.size, 0, none⟩ (.string ⟨fk.toArray⟩)).setCell ⟨w.heap.size, 1, none⟩ (.string ⟨fv.toArray⟩)).setCell ⟨w.heap.size, 2, none⟩ (.int .i64 fl)).cell? ⟨w.heap.size, 2, none⟩ = some (.int .i64 fl) := by simp [go_sem, b2]
        go_wp2_with fail
        generalize ((W1.setCell ⟨w.heap.size, 0, none⟩ (.string ⟨fk.toArray⟩)).setCell ⟨w.heap.size, 1, none⟩ (.string ⟨fv.toArray⟩)).setCell ⟨w.heap.size, 2, none⟩ (.int .i64 fl) = V at *
        refine bodyPost_ret (v := .tuple #[.agg #[.string ⟨fk.toArray⟩, .string ⟨fv.toArray⟩, .int .i64 fl], .bool true]) ?_ rfl ?_
        · simp [results, Tryd.results16, go_sem, g0, g1, g2]
        · show GotRet w R _ _
          rw [HE.out]; exact ⟨rfl, HBV.out⟩
    · obtain rfl : k = n := by omega
      have HE : Hid (R = none) := by show _ = _; rw [← HH.out, List.drop_eq_nil_of_le (by rw [HN.out]; exact Nat.le_refl _)]; rfl
      have HBV : Hid (Below w.heap.size w (((W1.setCell ⟨w.heap.size, 0, none⟩ (.string ⟨#[]⟩)).setCell ⟨w.heap.size, 1, none⟩ (.string ⟨#[]⟩)).setCell ⟨w.heap.size, 2, none⟩ (.int .i64 0))) := ((HBW.out.setCell (Nat.le_refl _) _).setCell (Nat.le_refl _) _).setCell (Nat.le_refl _) _
      have g0 : (((W1.setCell ⟨w.heap.size, 0, none⟩ (.string ⟨#[]⟩)).setCell ⟨w.heap.size, 1, none⟩ (.string ⟨#[]⟩)).setCell ⟨w.heap.size, 2, none⟩ (.int .i64 0)).cell? ⟨w.heap.size, 0, none⟩ = some (.string ⟨#[]⟩) := by simp [go_sem, b0]
      have g1 : (((W1.setCell ⟨w.heap.size, 0, none⟩ (.string ⟨#[]⟩)).setCell ⟨w.heap.size, 1, none⟩ (.string ⟨#[]⟩)).setCell ⟨w.heap.size, 2, none⟩ (.int .i64 0)).cell? ⟨w.heap.size, 1, none⟩ = some (.string ⟨#[]⟩) := by simp [go_sem, b1]
      have g2 : (((W1.setCell ⟨w.heap.size, 0, none⟩ (.string ⟨#[]⟩)).setCell ⟨w.heap.size, 1, none⟩ (.string ⟨#[]⟩)).setCell ⟨w.heap.size, 2, none⟩ (.int .i64 0)).cell? ⟨w.heap.size, 2, none⟩ = some (.int .i64 0) := by simp [go_sem, b2]
      go_wp2_with fail
      generalize ((W1.setCell ⟨w.heap.size, 0, none⟩ (.string ⟨#[]⟩)).setCell ⟨w.heap.size, 1, none⟩ (.string ⟨#[]⟩)).setCell ⟨w.heap.size, 2, none⟩ (.int .i64 0) = V at *
      refine bodyPost_ret (v := .tuple #[.agg #[.string ⟨#[]⟩, .string ⟨#[]⟩, .int .i64 0], .bool false]) ?_ rfl ?_
      · simp [results, Tryd.results16, go_sem, g0, g1, g2]
      · show GotRet w R _ _
        rw [HE.out]; exact ⟨rfl, HBV.out⟩
/-- The first place of a key from j on, as a number; -1 is none. -/
def Sz.lastAt (ks : List (List UInt8)) (key : List UInt8) (j : Nat) : Int := match (ks.drop j).findIdx? (· == key) with
  | some p => ((p + j : Nat) : Int)
  | none => -1
theorem Sz.lastAt_end (ks : List (List UInt8)) (key : List UInt8) (j : Nat) (h : ks.length ≤ j) : lastAt ks key j = -1 := by
  unfold lastAt; rw [List.drop_eq_nil_of_le h]; rfl
theorem Sz.lastAt_step (ks : List (List UInt8)) (key : List UInt8) (j : Nat) (h : j < ks.length) : lastAt ks key j = if (ks[j] == key) = true then (j : Int) else lastAt ks key (j + 1) := by
  unfold lastAt
  rw [List.drop_eq_getElem_cons h, List.findIdx?_cons]
  cases hq : ks[j] == key
  · rw [if_neg (by decide), if_neg (by decide)]
    cases (ks.drop (j + 1)).findIdx? (· == key) with
    | none => rfl
    | some p => show ((p + 1 + j : Nat) : Int) = ((p + (j + 1) : Nat) : Int); congr 1; omega
  · rw [if_pos rfl, if_pos rfl]; show ((0 + j : Nat) : Int) = _; rw [Nat.zero_add]
theorem Sz.lastAt_zero (ks : List (List UInt8)) (key : List UInt8) : lastAt ks key 0 = match placeOf ks key with | some p => (p : Int) | none => -1 := rfl
theorem Sz.lastAt_le (ks : List (List UInt8)) (key : List UInt8) (j : Nat) : -1 ≤ lastAt ks key j ∧ lastAt ks key j ≤ ks.length := by
  unfold lastAt
  cases h : (ks.drop j).findIdx? (· == key) with
  | none => exact ⟨Int.le_refl _, by show (-1 : Int) ≤ _; omega⟩
  | some p =>
    obtain ⟨h1, _⟩ := List.findIdx?_eq_some_iff_getElem.1 h
    rw [List.length_drop] at h1
    exact ⟨by show (-1 : Int) ≤ ((p + j : Nat) : Int); omega, by show ((p + j : Nat) : Int) ≤ _; omega⟩
theorem Sz.drewN_low {w u : World} {B : Nat} (h : Below B w u) (n : Nat) : Below B w (u.drewN n) := below_drewN h n
set_option maxRecDepth 100000 in
set_option maxHeartbeats 1600000 in
theorem refOrder_any (A : Option Addr) (n c : Nat) (l : List Fld) (B : Option Addr) (m d : Nat) (ks : List (List UInt8)) (w : World) (hn : l.length = n) (hr : Rg.Row encF 3 w A l) (hl : n ≤ 100000) (hm : ks.length = m) (hk : Rg.Row encT 1 w B ks) (hml : m ≤ 100000) :
    Calls Tryd.prog 14 #[.slice A n c, .slice B m d] w (Sz.OrderRet w (ordP ks 0 (-1) l)) := by
  obtain ⟨R, hR⟩ : ∃ R, ordP ks 0 (-1) l = R := ⟨_, rfl⟩
  rw [hR]
  have HG := Lib.hid hR
  have HR := Lib.hid hr
  have HK := Lib.hid hk
  have HN := Lib.hid hn
  have HM := Lib.hid hm
  clear hR hr hn hm hk
  go_enter Tryd.func14, Tryd.ntmps14
  go_wp2_with fail
  go_loopw [6, 7] (fun v i wr => ∃ (k : Nat) (x : Int), k ≤ n ∧ i = .int .i64 k ∧ v = .int .i64 x ∧ -1 ≤ x ∧ x ≤ 1000000 ∧ Hid (Below w.heap.size w wr) ∧ Hid (ordP ks k x (l.drop k) = R)) (fun _ i _ => n - (intOf i).toNat)
  case atStart => exact ⟨0, -1, Nat.zero_le _, rfl, rfl, by decide, by decide, Below.refl _ _, HG.out⟩
  case round =>
    obtain ⟨k, x, hk, rfl, rfl, hx0, hx1, HW, HH⟩ := hrel
    by_cases hlt : k < n
    · have hlr : k < l.length := by rw [HN.out]; exact hlt
      obtain ⟨ad, rfl, _, c0, c1, c2⟩ := field_at (Rg.row_below HR.out HW.out) k hlr
      have hd : l.drop k = l[k] :: l.drop (k + 1) := List.drop_eq_getElem_cons hlr
      have hh := HH.out
      rw [hd, ordP_cons] at hh
      obtain ⟨f, hf⟩ : ∃ f, l[k] = f := ⟨_, rfl⟩
      rw [hf] at c0 c1 c2 hh
      obtain ⟨fk, fv, fl⟩ := f
      dsimp only at c0 c1 c2 hh
      have HHH := Lib.hid hh
      have HCC : Hid (∀ u, Below w.heap.size w u → u.cell? (ad.add (k * 3)) = some (.string ⟨fk.toArray⟩)) := fun u hb => by
        obtain ⟨ad2, e2, _, c2, _⟩ := field_at (Rg.row_below HR.out hb) k hlr
        cases e2
        rw [hf] at c2; exact c2
      clear hd hf hh c0 c1 c2
      go_wp2_with fail
      go_loopw [8, 9] (fun a j wr => ∃ (y q : Int), -1 ≤ q ∧ q < m ∧ -1 ≤ y ∧ y ≤ m ∧ j = .int .i64 q ∧ a = .int .i64 y ∧ Hid (Below w.heap.size w wr) ∧ Hid (lastAt ks fk (q + 1).toNat = y)) (fun _ j _ => (intOf j + 1).toNat)
      case atStart => exact ⟨-1, (m : Int) - 1, by omega, by omega, by decide, by omega, rfl, rfl, HW.out, lastAt_end _ _ _ (by rw [HM.out]; omega)⟩
      case round =>
        obtain ⟨y, q, hq0, hq1, hy0, hy1, rfl, rfl, HI, HA⟩ := hrel
        obtain ⟨_, _, _, c0, _⟩ : ∃ ad' : Addr, ad' = ad' ∧ True ∧ wr.cell? (ad.add (k * 3)) = some (.string ⟨fk.toArray⟩) ∧ True := ⟨ad, rfl, trivial, HCC.out _ HI.out, trivial⟩
        by_cases hq : 0 ≤ q
        · obtain ⟨i, rfl⟩ : ∃ i : Nat, q = i := ⟨q.toNat, by omega⟩
          have him : i < m := by omega
          have hil : i < ks.length := by rw [HM.out]; exact him
          obtain ⟨ae, rfl, _, e0⟩ := txt_at (Rg.row_below HK.out HI.out) i hil
          have hs := lastAt_step ks fk i hil
          have hy := HA.out
          have et : ((i : Int) + 1).toNat = i + 1 := by omega
          have et2 : ((i : Int) - 1 + 1).toNat = i := by omega
          rw [et] at hy
          rw [hy] at hs
          obtain ⟨kk, hkk⟩ : ∃ kk, ks[i] = kk := ⟨_, rfl⟩
          rw [hkk] at e0 hs
          have ET2 := Lib.hid et2
          clear hy et et2 hkk
          cases hq2 : kk == fk
          · have HS : Hid (lastAt ks fk i = y) := by show _ = _; rw [hs, if_neg (by rw [hq2]; decide)]
            clear hs
            go_wp2_with fail
            go_quiet (fail)
            go_wp2_with fail
            go_roundw
            case rel => exact ⟨y, (i : Int) - 1, by omega, by omega, hy0, hy1, by go_num, rfl, drewN_low HI.out _, by show lastAt _ _ _ = _; rw [ET2.out]; exact HS.out⟩
            case measure => simp [intOf]
          · have HS : Hid (lastAt ks fk i = i) := by show _ = _; rw [hs, if_pos hq2]
            clear hs
            go_wp2_with fail
            go_quiet (fail)
            go_wp2_with fail
            go_roundw
            case rel => exact ⟨i, (i : Int) - 1, by omega, by omega, by omega, by omega, by go_num, rfl, drewN_low HI.out _, by show lastAt _ _ _ = _; rw [ET2.out]; exact HS.out⟩
            case measure => simp [intOf]
        · obtain rfl : q = -1 := by omega
          have hy : (match placeOf ks fk with | some p => (p : Int) | none => -1) = y := HA.out
          have hh := HHH.out
          cases hp : placeOf ks fk with
          | none =>
            rw [hp] at hy hh
            dsimp only at hy hh
            subst hy
            have HE := Lib.hid hh
            clear hh hp
            go_wp2_with fail
            go_ret2
            rw [← HE.out]
            exact ⟨rfl, HI.out⟩
          | some p =>
            rw [hp] at hy hh
            dsimp only at hy hh
            subst hy
            clear hp
            by_cases hgt : x < p
            · have d0 : decide ((p : Int) ≤ x) = false := decide_eq_false (by omega)
              have HE : Hid (ordP ks (k + 1) p (l.drop (k + 1)) = R) := by rw [if_pos hgt] at hh; exact hh
              clear hh
              go_wp2_with fail
              go_roundw
              case rel => exact ⟨k + 1, p, by omega, by go_num, rfl, by omega, by omega, HI, HE⟩
              case measure => simp [intOf]; omega
            · have d0 : decide ((p : Int) ≤ x) = true := decide_eq_true (by omega)
              have HE : Hid (((k : Int), (7 : Int)) = R) := by rw [if_neg hgt] at hh; exact hh
              clear hh
              go_wp2_with fail
              go_ret2
              rw [← HE.out]
              exact ⟨rfl, HI.out⟩
    · obtain rfl : k = n := by omega
      have HE : Hid (R = (0, 0)) := by show _ = _; rw [← HH.out, List.drop_eq_nil_of_le (by rw [HN.out]; exact Nat.le_refl _)]; rfl
      go_wp2_with fail
      go_ret2
      rw [HE.out]
      exact ⟨rfl, HW.out⟩
end Go.Proofs.YtmhobdlhmkbkdaaDoor

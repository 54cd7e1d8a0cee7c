/- Clauses of one literal each: the law walked. -/
import Derived.Test.YtoioeekfnnoaoaaGreatDoorEm
namespace Go.Proofs.YtoioeekfnnoaoaaGreatDoor.Cl
open Go.RowKit Up
/-- The literal of variable i + 1 by its sign. -/
def sgnZ (b : Bool) (i : Nat) : Int := if b then ((i + 1 : Nat) : Int) else -((i + 1 : Nat) : Int)
def sgnL (sg : List Bool) (n : Nat) : List (List Int) := (List.range n).map fun i => [sgnZ (sg.getD i false) i]
theorem sgnL_more (sg : List Bool) (n : Nat) : sgnL sg (n + 1) = sgnL sg n ++ [[sgnZ (sg.getD n false) n]] := by
  unfold sgnL
  rw [List.range_succ, List.map_append]; rfl
theorem sgnL_len (sg : List Bool) (n : Nat) : (sgnL sg n).length = n := by unfold sgnL; simp
theorem firstH_snoc (m : List Bool) (c : List Int) : ∀ (t : List (List Int)) (i : Nat), firstH m i (t ++ [c]) = if firstH m i t < 0 then (if holdsC m c then -1 else ((i + t.length : Nat) : Int)) else firstH m i t
  | [], i => by
    show (if holdsC m c then firstH m (i + 1) [] else (i : Int)) = _
    rfl
  | d :: t, i => by
    show (if holdsC m d then firstH m (i + 1) (t ++ [c]) else (i : Int)) = _
    rw [firstH_snoc m c t (i + 1)]
    show _ = if (if holdsC m d then firstH m (i + 1) t else (i : Int)) < 0 then (if holdsC m c then -1 else ((i + (t.length + 1) : Nat) : Int)) else (if holdsC m d then firstH m (i + 1) t else (i : Int))
    have e : i + 1 + t.length = i + (t.length + 1) := by omega
    rw [e]
    cases holdsC m d
    · have : ¬ ((i : Int) < 0) := by omega
      simp [this]
    · simp
theorem firstH_one {m : List Bool} {t : List (List Int)} (h : firstH m 0 t < 0) : firstH m 0 t = -1 := firstH_done m t 0 ((firstH_neg m t 0).1 h)
theorem sgn_holds {m : List Bool} {i : Nat} (h : i < m.length) (b : Bool) : holdsC m [sgnZ b i] = (m[i] == b) := by
  have e : holdsC m [sgnZ b i] = holdsL m (sgnZ b i) := by unfold holdsC; simp
  have g : m.getD i false = m[i] := getD_at h
  rw [e]
  unfold holdsL sgnZ
  cases b
  · rw [if_neg (by decide)]
    have a1 : decide (1 ≤ -((i + 1 : Nat) : Int)) = false := decide_eq_false (by omega)
    have a2 : decide (-((i + 1 : Nat) : Int) ≤ -1) = true := decide_eq_true (by omega)
    have a3 : decide (-(m.length : Int) ≤ -((i + 1 : Nat) : Int)) = true := decide_eq_true (by omega)
    have a5 : (- -((i + 1 : Nat) : Int) - 1).toNat = i := by omega
    rw [a1, a2, a3, a5, g]
    cases m[i] <;> rfl
  · rw [if_pos rfl]
    have a1 : decide (1 ≤ ((i + 1 : Nat) : Int)) = true := decide_eq_true (by omega)
    have a2 : decide (((i + 1 : Nat) : Int) ≤ -1) = false := decide_eq_false (by omega)
    have a3 : decide (((i + 1 : Nat) : Int) ≤ (m.length : Int)) = true := decide_eq_true (by omega)
    have a5 : (((i + 1 : Nat) : Int) - 1).toNat = i := by omega
    rw [a1, a2, a3, a5, g]
    cases m[i] <;> rfl
end Go.Proofs.YtoioeekfnnoaoaaGreatDoor.Cl
namespace Go.Proofs.YtoioeekfnnoaoaaGreatDoor
open Go.RowKit Cl Up
attribute [local go_sem ↓] Go.wp_at_zero Go.wp_at_succ
set_option maxRecDepth 100000 in
set_option maxHeartbeats 12800000 in
theorem cnfFirst_any {Q : World → Prop} (HQ : Stays Q) (HKN : KnownC13 Q) (HFI : FirstC Q) (A B : Option Addr) (n q c d : Nat) (k sg : List Bool) (w : World) (hn : k.length = n) (hm : sg.length = q) (hk : BRow w A k) (hb : BRow w B sg) (hq : Q w) :
    Calls Tryz.prog 8 #[.slice A n c, .slice B q d] w fun e w' => e = .returned (.bool true) ∧ Below w.heap.size w w' := by
  have HK0 := Lib.hid (HKN w hq)
  have HQQ := Lib.hid fun (u : World) (hb : Below w.heap.size w u) => HQ w u hq hb
  have HN := Lib.hid hn
  have HM := Lib.hid hm
  have HKR := Lib.hid fun (u : World) (h : Below w.heap.size w u) => Rg.row_below hk h
  have HBR := Lib.hid fun (u : World) (h : Below w.heap.size w u) => Rg.row_below hb h
  have HFIC := Lib.hid HFI
  clear hn hm hk hb hq HKN HFI
  go_enter Tryz.func8, Tryz.ntmps8
  go_wp2_with (go_at_call 9; refine HK0.out.mono ?_)
  rintro _ u0 ⟨rfl, hb⟩
  have HB0 : Hid (Below w.heap.size w u0 ∧ w.heap.size ≤ u0.heap.size) := ⟨hb, hb.size⟩
  clear hb HK0
  cases d1 : decide ((100 : Int) < (n : Int))
  case true =>
    go_wp2_with fail
    go_ret
    exact ⟨rfl, HB0.out.1⟩
  by_cases hqn : q < n
  · have hqn2 : (q : Int) < (n : Int) := by omega
    go_wp2_with fail
    go_ret
    exact ⟨rfl, HB0.out.1⟩
  have hn1 : n ≤ 100 := by have := of_decide_eq_false d1; omega
  have hm1 : n ≤ q := by omega
  have hqn2 : ¬ ((q : Int) < (n : Int)) := by omega
  go_wp2_with fail
  go_loopw [5, 6, 7, 8] (fun v z i _ wr => ∃ (j : Nat) (f : Int), j ≤ n ∧ i = .int .i64 j ∧ z = .int .i64 f ∧ Hid (f = firstH k 0 (sgnL sg j)) ∧ Hid (Gr.Own encI 1 wr w.heap.size 49 v (sgnL sg j)) ∧ Hid (Below w.heap.size w wr ∧ w.heap.size ≤ wr.heap.size)) (fun _ _ i _ _ => n - (intOf i).toNat)
  case atStart => exact ⟨0, -1, Nat.zero_le _, rfl, rfl, rfl, Gr.own_nil _ _ _, HB0.out⟩
  case round =>
    obtain ⟨j, f, hj, rfl, rfl, HF, HO, HB⟩ := hrel
    by_cases hlt : j < n
    · have hjk : j < k.length := by rw [HN.out]; exact hlt
      have hjs : j < sg.length := by rw [HM.out]; omega
      obtain ⟨ad, x, rfl, hx, hbx, hcx0⟩ := brow_at (HKR.out w (Below.refl _ _)) j hjk
      obtain ⟨ae, y, rfl, hy, hby, hcy0⟩ := brow_at (HBR.out w (Below.refl _ _)) j hjs
      have hcy := cell_below hcy0 hby HB.out.1
      have j0 : (0 : Int) ≤ (j : Int) := by omega
      have j1 : (j : Int) < (n : Int) := by omega
      have j2 : (j : Int) < (q : Int) := by omega
      have hyd : sg.getD j false = y := (getD_at hjs).trans hy
      have HMORE : Hid (sgnL sg (j + 1) = sgnL sg j ++ [[sgnZ y j]]) := by show _ = _; rw [sgnL_more, hyd]
      have HH := sgn_holds hjk y
      rw [hx] at HH
      have HFM := Lib.hid (firstH_snoc k [sgnZ y j] (sgnL sg j) 0)
      rw [HH, sgnL_len, ← HF.out, ← HMORE.out, Nat.zero_add] at HFM
      have HCX := Lib.hid fun (u : World) (h : Below w.heap.size w u) => And.intro (cell_below hcx0 hbx h) (cell_below hcy0 hby h)
      obtain ⟨p, hp⟩ : ∃ p : Int, (j : Int) + 1 = p := ⟨_, rfl⟩
      have HPV : Hid (p = ((j + 1 : Nat) : Int)) := by show _ = _; rw [← hp]; rfl
      have wp : IntKind.i64.wrap ((j : Int) + 1) = p := by rw [hp]; exact IntWalk.i64_in _ (by omega)
      have wn : IntKind.i64.wrap (-p) = -p := IntWalk.i64_in _ (by omega)
      have wn2 : IntKind.i64.wrap (0 - p) = -p := by rw [Int.zero_sub]; exact wn
      have HSL : Hid ((sgnL sg j).length + 1 ≤ 1000000) := by show _ ≤ _; rw [sgnL_len]; omega
      have HFR := Lib.hid (Gr.fresh (C := some ⟨wr.heap.size, 0, none⟩) HO.out (Nat.le_refl _) (fun a ha => by cases ha; exact Nat.le_refl _) [sgnZ y j])
      clear hx hy hyd HH hp hbx hby hjk hjs hcx0 hcy0
      cases y
      · obtain ⟨b5, hb5⟩ : ∃ b, wr.heap.size = b := ⟨_, rfl⟩
        obtain ⟨u5, hu5⟩ : ∃ u, wr.alloc (.cells #[.int .i64 (-p)] 3) = u := ⟨_, rfl⟩
        have HB5 : Hid (Below wr.heap.size wr u5 ∧ wr.heap.size ≤ u5.heap.size) := by rw [← hu5]; exact ⟨(Below.refl _ _).alloc (Nat.le_refl _) _, by simp⟩
        have HR5 : Hid (IRow u5 (some ⟨b5, 0, none⟩) [sgnZ false j]) := by
          show IRow _ _ _
          rw [← hu5, ← hb5]
          refine irow_new _ _ _ _ ?_
          rw [HPV.out]; rfl
        rw [hb5] at HFR
        go_wp2_with (at_builtin; refine Gr.wpList_gapp sliceCC rfl (.tmp 36) (.tmp 39) rfl w.heap.size _ (sgnL sg j) [sgnZ false j] (some ⟨b5, 0, none⟩) 1 1 rfl rfl (Gr.own_below HO.out HB5.out.1) rfl HR5.out HFR.out HSL.out (Nat.le_trans HB.out.2 HB5.out.2) ?_)
        intro v6 W6 ho6 hb6 hz6
        have HO6 := Lib.hid ho6
        rw [← HMORE.out] at HO6
        have HB6 : Hid (Below w.heap.size w W6 ∧ w.heap.size ≤ W6.heap.size) := ⟨(HB.out.1.trans (HB5.out.1.mono HB.out.2)).trans hb6, Nat.le_trans (Nat.le_trans HB.out.2 HB5.out.2) hz6⟩
        clear hcy
        obtain ⟨ex, ey⟩ := HCX.out W6 HB6.out.1
        clear ho6 hb6 hz6 hu5 hb5 HFR HR5 HB5 HSL HO HCX wn wn2
        cases x
        · have HZ : Hid (f = firstH k 0 (sgnL sg (j + 1))) := by
            show _ = _
            rw [HFM.out]
            by_cases h : f < 0
            · rw [if_pos h]; have := HF.out; rw [this] at h ⊢; exact (firstH_one h)
            · rw [if_neg h]
          go_wp2_with fail
          first | go_quiet (fail) | skip
          go_wp2_with fail
          go_roundw
          case rel => exact ⟨j + 1, f, by omega, by first | go_num | (rw [HPV.out]), rfl, HZ.out, HO6.out, by first | exact HB6.out | exact ⟨below_drewN HB6.out.1 _, HB6.out.2⟩⟩
          case measure => first | (simp [intOf]; omega) | (simp [intOf, HPV.out]; omega)
        · by_cases hf : f < 0
          · have HZ : Hid ((j : Int) = firstH k 0 (sgnL sg (j + 1))) := by show _ = _; rw [HFM.out, if_pos hf]; rfl
            go_wp2_with fail
            first | go_quiet (fail) | skip
            go_wp2_with fail
            go_roundw
            case rel => exact ⟨j + 1, (j : Int), by omega, by first | go_num | (rw [HPV.out]), rfl, HZ.out, HO6.out, by first | exact HB6.out | exact ⟨below_drewN HB6.out.1 _, HB6.out.2⟩⟩
            case measure => first | (simp [intOf]; omega) | (simp [intOf, HPV.out]; omega)
          · have HZ : Hid (f = firstH k 0 (sgnL sg (j + 1))) := by show _ = _; rw [HFM.out, if_neg hf]
            go_wp2_with fail
            first | go_quiet (fail) | skip
            go_wp2_with fail
            go_roundw
            case rel => exact ⟨j + 1, f, by omega, by first | go_num | (rw [HPV.out]), rfl, HZ.out, HO6.out, by first | exact HB6.out | exact ⟨below_drewN HB6.out.1 _, HB6.out.2⟩⟩
            case measure => first | (simp [intOf]; omega) | (simp [intOf, HPV.out]; omega)
      · obtain ⟨b5, hb5⟩ : ∃ b, wr.heap.size = b := ⟨_, rfl⟩
        obtain ⟨u5, hu5⟩ : ∃ u, wr.alloc (.cells #[.int .i64 (p)] 3) = u := ⟨_, rfl⟩
        have HB5 : Hid (Below wr.heap.size wr u5 ∧ wr.heap.size ≤ u5.heap.size) := by rw [← hu5]; exact ⟨(Below.refl _ _).alloc (Nat.le_refl _) _, by simp⟩
        have HR5 : Hid (IRow u5 (some ⟨b5, 0, none⟩) [sgnZ true j]) := by
          show IRow _ _ _
          rw [← hu5, ← hb5]
          refine irow_new _ _ _ _ ?_
          rw [HPV.out]; rfl
        rw [hb5] at HFR
        go_wp2_with (at_builtin; refine Gr.wpList_gapp sliceCC rfl (.tmp 36) (.tmp 39) rfl w.heap.size _ (sgnL sg j) [sgnZ true j] (some ⟨b5, 0, none⟩) 1 1 rfl rfl (Gr.own_below HO.out HB5.out.1) rfl HR5.out HFR.out HSL.out (Nat.le_trans HB.out.2 HB5.out.2) ?_)
        intro v6 W6 ho6 hb6 hz6
        have HO6 := Lib.hid ho6
        rw [← HMORE.out] at HO6
        have HB6 : Hid (Below w.heap.size w W6 ∧ w.heap.size ≤ W6.heap.size) := ⟨(HB.out.1.trans (HB5.out.1.mono HB.out.2)).trans hb6, Nat.le_trans (Nat.le_trans HB.out.2 HB5.out.2) hz6⟩
        clear hcy
        obtain ⟨ex, ey⟩ := HCX.out W6 HB6.out.1
        clear ho6 hb6 hz6 hu5 hb5 HFR HR5 HB5 HSL HO HCX wn wn2
        cases x
        · by_cases hf : f < 0
          · have HZ : Hid ((j : Int) = firstH k 0 (sgnL sg (j + 1))) := by show _ = _; rw [HFM.out, if_pos hf]; rfl
            go_wp2_with fail
            first | go_quiet (fail) | skip
            go_wp2_with fail
            go_roundw
            case rel => exact ⟨j + 1, (j : Int), by omega, by first | go_num | (rw [HPV.out]), rfl, HZ.out, HO6.out, by first | exact HB6.out | exact ⟨below_drewN HB6.out.1 _, HB6.out.2⟩⟩
            case measure => first | (simp [intOf]; omega) | (simp [intOf, HPV.out]; omega)
          · have HZ : Hid (f = firstH k 0 (sgnL sg (j + 1))) := by show _ = _; rw [HFM.out, if_neg hf]
            go_wp2_with fail
            first | go_quiet (fail) | skip
            go_wp2_with fail
            go_roundw
            case rel => exact ⟨j + 1, f, by omega, by first | go_num | (rw [HPV.out]), rfl, HZ.out, HO6.out, by first | exact HB6.out | exact ⟨below_drewN HB6.out.1 _, HB6.out.2⟩⟩
            case measure => first | (simp [intOf]; omega) | (simp [intOf, HPV.out]; omega)
        · have HZ : Hid (f = firstH k 0 (sgnL sg (j + 1))) := by
            show _ = _
            rw [HFM.out]
            by_cases h : f < 0
            · rw [if_pos h]; have := HF.out; rw [this] at h ⊢; exact (firstH_one h)
            · rw [if_neg h]
          go_wp2_with fail
          first | go_quiet (fail) | skip
          go_wp2_with fail
          go_roundw
          case rel => exact ⟨j + 1, f, by omega, by first | go_num | (rw [HPV.out]), rfl, HZ.out, HO6.out, by first | exact HB6.out | exact ⟨below_drewN HB6.out.1 _, HB6.out.2⟩⟩
          case measure => first | (simp [intOf]; omega) | (simp [intOf, HPV.out]; omega)
    · have HE : Hid (j = n) := by show _ = _; omega
      have HFC := Lib.hid fun (u : World) (C : Option Addr) (cc : Nat) (hb : Below w.heap.size w u) (hr : GRow u C (sgnL sg n)) => HFIC.out C A n n cc c (sgnL sg n) k u (sgnL_len _ _) HN.out hr (HKR.out u hb) (by omega) (by omega) (fun x hx => by
        obtain ⟨i, _, rfl⟩ := List.mem_map.1 hx
        show 1 ≤ 1000; decide) (fun x hx y hy => by
        obtain ⟨i, hi, rfl⟩ := List.mem_map.1 hx
        rw [List.mem_singleton.1 hy]
        have := List.mem_range.1 hi
        unfold sgnZ In64
        split <;> constructor <;> omega) (HQQ.out u hb)
      have hjn : j = n := HE.out
      rw [hjn] at HF HO
      have hlt2 : ¬ ((j : Int) < (n : Int)) := by omega
      obtain ⟨C, cc, rfl, hr⟩ := Gr.row_own HO.out
      have HFX := Lib.hid (HFC.out wr C cc HB.out.1 hr)
      rw [← HF.out] at HFX
      clear hr HFC hjn HO
      have hsl := sgnL_len sg n
      simp only [hsl]
      go_wp2_with (go_at_call 28; refine HFX.out.mono ?_)
      first | rintro _ u9 rfl hb9 | rintro _ u9 ⟨rfl, hb9⟩
      have HB9 := Lib.hid (HB.out.1.trans (hb9.mono HB.out.2))
      clear hb9 HFX
      go_wp2_with fail
      go_ret
      exact ⟨by simp, HB9.out⟩
end Go.Proofs.YtoioeekfnnoaoaaGreatDoor

/- The reference's Norm: walked. -/
import Derived.Test.YtoioeekfnnoaoaaGreatDoorEf
namespace Go.Proofs.YtoioeekfnnoaoaaGreatDoor
open Go.RowKit Cl Up
attribute [local go_sem ↓] Go.wp_at_zero Go.wp_at_succ
theorem ahead_dec (a b p q : Int) (hp : (a.natAbs : Int) = p) (hq : (b.natAbs : Int) = q) : decide (Ahead a b) = (decide (p < q) || (p == q && decide (a < b))) := by
  rw [Bool.eq_iff_iff, decide_eq_true_iff]
  unfold Ahead
  simp only [decide_eq_true_iff, Bool.or_eq_true, Bool.and_eq_true, beq_iff_eq]
  have e1 : a.natAbs < b.natAbs ↔ p < q := by omega
  have e2 : a.natAbs = b.natAbs ↔ p = q := by omega
  rw [e1, e2]
set_option maxRecDepth 100000 in
set_option maxHeartbeats 3200000 in
theorem refAhead_any (a b : Int) (w : World) (ha : a.natAbs ≤ 2199023255552) (hb : b.natAbs ≤ 2199023255552) :
    Calls Tryz.prog 57 #[.int .i64 a, .int .i64 b] w fun e w' => e = .returned (.bool (decide (Ahead a b))) ∧ w = w' := by
  obtain ⟨X, hX⟩ : ∃ X, decide (Ahead a b) = X := ⟨_, rfl⟩
  obtain ⟨p, hp⟩ : ∃ p : Int, (a.natAbs : Int) = p := ⟨_, rfl⟩
  obtain ⟨q, hq⟩ : ∃ q : Int, (b.natAbs : Int) = q := ⟨_, rfl⟩
  have HX : Hid (X = (decide (p < q) || (p == q && decide (a < b)))) := hX.symm.trans (ahead_dec a b p q hp hq)
  rw [hX]
  clear hX
  by_cases sa : a < 0
  · have ea : IntKind.i64.wrap (0 - a) = p := (IntWalk.i64_in _ (by omega)).trans (by omega)
    have fa : IntKind.i64.wrap (-a) = p := (IntWalk.i64_in _ (by omega)).trans (by omega)
    have ta : decide (a < 0) = true := decide_eq_true sa
    clear sa hp ha
    by_cases sb : b < 0
    · have eb : IntKind.i64.wrap (0 - b) = q := (IntWalk.i64_in _ (by omega)).trans (by omega)
      have fb : IntKind.i64.wrap (-b) = q := (IntWalk.i64_in _ (by omega)).trans (by omega)
      have tb : decide (b < 0) = true := decide_eq_true sb
      clear sb hq hb
      cases d1 : decide (p < q) <;> cases d2 : p == q <;> cases d3 : decide (a < b)
      all_goals
        have HY : Hid (X = _) := HX.out.trans (by first | rw [d1, d2, d3] | rw [d1, d2])
        go_enter Tryz.func57, Tryz.ntmps57
        go_wp2_with fail
        go_ret
        exact ⟨by rw [HY.out]; rfl, rfl⟩
    · have eb : b = q := by omega
      subst eb
      have tb : decide (b < 0) = false := decide_eq_false sb
      clear sb hq hb
      cases d1 : decide (p < b) <;> cases d2 : p == b <;> cases d3 : decide (a < b)
      all_goals
        have HY : Hid (X = _) := HX.out.trans (by first | rw [d1, d2, d3] | rw [d1, d2])
        go_enter Tryz.func57, Tryz.ntmps57
        go_wp2_with fail
        go_ret
        exact ⟨by rw [HY.out]; rfl, rfl⟩
  · have ea : a = p := by omega
    subst ea
    have ta : decide (a < 0) = false := decide_eq_false sa
    clear sa hp ha
    by_cases sb : b < 0
    · have eb : IntKind.i64.wrap (0 - b) = q := (IntWalk.i64_in _ (by omega)).trans (by omega)
      have fb : IntKind.i64.wrap (-b) = q := (IntWalk.i64_in _ (by omega)).trans (by omega)
      have tb : decide (b < 0) = true := decide_eq_true sb
      clear sb hq hb
      cases d1 : decide (a < q) <;> cases d2 : a == q <;> cases d3 : decide (a < b)
      all_goals
        have HY : Hid (X = _) := HX.out.trans (by first | rw [d1, d2, d3] | rw [d1, d2])
        go_enter Tryz.func57, Tryz.ntmps57
        go_wp2_with fail
        go_ret
        exact ⟨by rw [HY.out]; rfl, rfl⟩
    · have eb : b = q := by omega
      subst eb
      have tb : decide (b < 0) = false := decide_eq_false sb
      clear sb hq hb
      cases d1 : decide (a < b) <;> cases d2 : a == b <;> cases d3 : decide (a < b)
      all_goals
        have HY : Hid (X = _) := HX.out.trans (by first | rw [d1, d2, d3] | rw [d1, d2])
        go_enter Tryz.func57, Tryz.ntmps57
        go_wp2_with fail
        go_ret
        exact ⟨by rw [HY.out]; rfl, rfl⟩
theorem iX_run (V : Option Addr) (k vc m : Nat) (h : m ≤ k) (h2 : k ≤ vc) (_hv : vc ≤ maxLen) : ∀ W : World, (Instr.sliceAt 35 (.slice V k vc) none (some (.int .i64 m)) none).run Tryz.prog W = .ok (.slice V m vc) W := by
  intro W
  have i0 : (0 : Int) ≤ (m : Int) := by omega
  have i1 : (m : Int) ≤ (k : Int) := by omega
  have i2 : (m : Int) ≤ (vc : Int) := by omega
  go_simp
theorem iY_run (V : Option Addr) (k vc m : Nat) (h : m ≤ k) (h2 : k ≤ vc) (_hv : vc ≤ maxLen) : ∃ Y, ((if vc = m then V else V.map (fun x => x.add (m * 1))) = Y) ∧ ∀ W : World, (Instr.sliceAt 35 (.slice V k vc) (some (.int .i64 m)) none none).run Tryz.prog W = .ok (.slice Y (k - m) (vc - m)) W := by
  refine ⟨_, rfl, fun W => ?_⟩
  have i0 : (0 : Int) ≤ (m : Int) := by omega
  have i1 : (m : Int) ≤ (k : Int) := by omega
  have i2 : (m : Int) ≤ (vc : Int) := by omega
  go_simp
/-- What Norm's loop keeps. -/
def NSt (l : List Int) (j : Nat) (S : List Int) : Prop := Srt S ∧ (∀ x, x ∈ S ↔ x ∈ l.take j) ∧ S.length ≤ j
theorem nst_new {l S : List Int} {j k : Nat} (h : NSt l j S) (hj : j < l.length) (hk : k ≤ S.length) (h1 : ∀ y ∈ S.take k, Ahead y l[j]) (h2 : ∀ h : k < S.length, ¬ Ahead S[k] l[j] ∧ S[k] ≠ l[j]) : NSt l (j + 1) (S.take k ++ l[j] :: S.drop k) := by
  refine ⟨ins_new h.1 hk h1 h2, fun x => ?_, ?_⟩
  · rw [ins_mem, h.2.1, List.take_succ_eq_append_getElem hj, List.mem_append, List.mem_singleton]
    exact Or.comm
  · rw [List.length_append, List.length_cons, List.length_take, List.length_drop]
    have := h.2.2; omega
theorem nst_old {l S : List Int} {j k : Nat} (h : NSt l j S) (hj : j < l.length) (hk : k < S.length) (e : S[k] = l[j]) : NSt l (j + 1) S := by
  refine ⟨h.1, fun x => ?_, Nat.le_succ_of_le h.2.2⟩
  rw [List.take_succ_eq_append_getElem hj, List.mem_append, List.mem_singleton, h.2.1]
  refine ⟨.inl, fun hx => ?_⟩
  rcases hx with hx | rfl
  · exact hx
  · rw [← h.2.1, ← e]; exact List.getElem_mem hk
def NormRet (w : World) (l : List Int) (e : Ending) (w' : World) : Prop := ∃ v out ok, e = .returned (.tuple #[v, .bool ok]) ∧ IsNorm l out ok ∧ Rg.Own encI 1 w' w.heap.size 3 v out ∧ Below w.heap.size w w' ∧ out.length ≤ l.length
set_option maxRecDepth 100000 in
set_option maxHeartbeats 6400000 in
theorem refNorm_any (A : Option Addr) (n c : Nat) (l : List Int) (w : World) (hn : l.length = n) (hr : IRow w A l) (hl : n ≤ 1000) (hb : ∀ x ∈ l, x ≠ 0 ∧ x.natAbs ≤ 2199023255552) :
    Calls Tryz.prog 26 #[.slice A n c] w (NormRet w l) := by
  have HR := Lib.hid hr
  have HN := Lib.hid hn
  have HF := Lib.hid hb
  clear hr hn hb
  go_enter Tryz.func26, Tryz.ntmps26
  go_wp2_with fail
  go_loopw [4, 5, 6, 7] (fun v i _ _ wr => ∃ (j : Nat) (S : List Int), j ≤ n ∧ i = .int .i64 j ∧ Hid (NSt l j S) ∧ Hid (Rg.Own encI 1 wr w.heap.size 3 v S) ∧ Hid (Below w.heap.size w wr ∧ w.heap.size ≤ wr.heap.size)) (fun _ i _ _ _ => n - (intOf i).toNat)
  case atStart => exact ⟨0, [], Nat.zero_le _, rfl, ⟨.nil, fun x => by simp, Nat.le_refl _⟩, Rg.own_nil _ _ _, Below.refl _ _, Nat.le_refl _⟩
  case round =>
    obtain ⟨j, S, hj, rfl, HST, HO, HB⟩ := hrel
    obtain ⟨z1, hz1⟩ : ∃ z1, z1 = wr := ⟨_, rfl⟩
    subst hz1
    by_cases hlt : j < n
    · have hjl : j < l.length := by rw [HN.out]; exact hlt
      obtain ⟨ad, x, rfl, hx, hbx, hc⟩ := irow_at (irow_below HR.out HB.out.1) j hjl
      have HX := Lib.hid hx
      have HCX : Hid (∀ u, Below z1.heap.size z1 u → u.cell? (ad.add j) = some (.int .i64 x)) := fun u hu => cell_below hc hbx hu
      have HFX : Hid (x.natAbs ≤ 2199023255552) := by show _ ≤ _; rw [← hx]; exact (HF.out _ (List.getElem_mem hjl)).2
      obtain ⟨V, vc, rfl, hrw, hle, hmx⟩ := Rg.row_own fitsI HO.out
      have HRW := Lib.hid hrw
      obtain ⟨s, hs⟩ : ∃ s, S.length = s := ⟨_, rfl⟩
      rw [hs] at hle HO
      rw [hs]
      have HS := Lib.hid hs
      have HLE := Lib.hid hle
      have HMX := Lib.hid hmx
      have hsj : s ≤ 1000 := by have := HST.out.2.2; omega
      have j0 : (0 : Int) ≤ (j : Int) := by omega
      have j1 : (j : Int) < (n : Int) := by omega
      clear hx hc hbx hrw hs hle hmx
      go_wp2_with fail
      go_loopw [6] (fun i w3 => ∃ m : Nat, m ≤ s ∧ i = .int .i64 m ∧ Hid (∀ y ∈ S.take m, Ahead y x) ∧ Hid (Below z1.heap.size z1 w3)) (fun i _ => s - (intOf i).toNat)
      case atStart => exact ⟨0, Nat.zero_le _, rfl, fun y hy => absurd hy (by simp), Below.refl _ _⟩
      case round =>
        obtain ⟨m, hm, rfl, HA, HW⟩ := hrel
        by_cases hlt2 : m < s
        · have hms : m < S.length := by rw [HS.out]; exact hlt2
          obtain ⟨bd, y, rfl, hy, hby, hcy⟩ := irow_at (irow_below HRW.out HW.out) m hms
          have HCY : Hid (∀ u, Below wr.heap.size wr u → u.cell? (bd.add m) = some (.int .i64 y)) := fun u hu => cell_below hcy hby hu
          have HFY : Hid (y.natAbs ≤ 2199023255552) := by
            show _ ≤ _
            have h1 : y ∈ l.take j := (HST.out.2.1 y).1 (hy ▸ List.getElem_mem hms)
            exact (HF.out _ (List.mem_of_mem_take h1)).2
          have HY := Lib.hid hy
          have cx := HCX.out _ HW.out
          have cy := HCY.out _ (Below.refl _ _)
          have cx2 := HCX.out _ HW.out.drew
          have cy2 := HCY.out _ ((Below.refl _ _).drew)
          have m0 : (0 : Int) ≤ (m : Int) := by omega
          have m1 : (m : Int) < (s : Int) := by omega
          have m2 : decide ((m : Int) < (s : Int)) = true := decide_eq_true m1
          have HAY : Hid (Ahead y x → ∀ q ∈ S.take (m + 1), Ahead q x) := fun h q hq => by
            rw [List.take_succ_eq_append_getElem hms] at hq
            rcases List.mem_append.1 hq with hq | hq
            · exact HA.out q hq
            · rw [List.mem_singleton.1 hq, HY.out]; exact h
          clear hy hby hcy
          obtain ⟨b, hbq⟩ : ∃ b, decide (Ahead y x) = b := ⟨_, rfl⟩
          have HBQ := Lib.hid hbq
          clear hbq
          cases b
          · cases hyx : y == x
            · have HIN : Hid (NSt l (j + 1) (S.take m ++ x :: S.drop m)) := by
                have h := nst_new HST.out hjl (k := m) (by omega) (by rw [HX.out]; exact HA.out) (fun h => by
                  rw [HY.out, HX.out]
                  exact ⟨of_decide_eq_false HBQ.out, by simpa using hyx⟩)
                rw [HX.out] at h; exact h
              go_wp2_with fail
              go_region_held3 (fun u => u.cell? (bd.add m) = some (.int .i64 y) ∧ u.cell? (ad.add j) = some (.int .i64 x))
                (first
                  | exact ⟨cy, cx⟩
                  | exact ⟨cy2, cx2⟩)
                (first
                  | (go_at_call 57; refine (refAhead_any y x _ HFY.out HFX.out).mono ?_; rintro _ z ⟨rfl, rfl⟩; rw [HBQ.out]))
              go_wp2_with fail
              first | (go_quiet (fail)) | fail
              have HW3 := Lib.hid (below_drewN HW.out.drew nq)
              generalize wr.drew.drewN nq = w3 at *
              clear cx cy cx2 cy2 HAY HA HW
              have rx := iX_run (some bd) s vc m (by omega) (by have := HLE.out; omega) HMX.out
              obtain ⟨Y, hY, ry⟩ := iY_run (some bd) s vc m (by omega) (by have := HLE.out; omega) HMX.out
              have RX : Hid (IRow w3 (some bd) (S.take m)) := Rg.row_take (irow_below HRW.out HW3.out) m
              have RY : Hid (IRow w3 Y (S.drop m)) := Rg.row_drop (irow_below HRW.out HW3.out) m (A' := Y) (fun h => by
                have h1 := HS.out
                have h2 := HLE.out
                rw [← hY, if_neg (by omega)])
              have HL1 : Hid ((S.take m).length = m) := by
                show _ = _
                have := HS.out
                rw [List.length_take]; omega
              have HL2 : Hid ((S.drop m).length = s - m) := by
                show _ = _
                have := HS.out
                rw [List.length_drop]; omega
              have HSN : Hid (s ≤ j) := by have := HS.out; have := HST.out.2.2; show _ ≤ _; omega
              have HB4 : Hid (Below w.heap.size w w3 ∧ w.heap.size ≤ w3.heap.size) := ⟨HB.out.1.trans (HW3.out.mono HB.out.2), Nat.le_trans HB.out.2 HW3.out.size⟩
              have HRX : Hid (IRow w3 (some ad) l) := irow_below (irow_below HR.out HB.out.1) HW3.out
              have HAL : Hid (Rg.Own encI 1 (w3.alloc (.cells #[] 3)) w3.heap.size 3 (.slice (some ⟨w3.heap.size, 0, none⟩) 0 0) []) := Rg.own_made w3 fitsI (Nat.le_refl _)
              obtain ⟨L1, hL1⟩ : ∃ L, S.take m = L := ⟨_, rfl⟩
              obtain ⟨L2, hL2⟩ : ∃ L, S.drop m = L := ⟨_, rfl⟩
              rw [hL1, hL2] at HIN
              rw [hL1] at RX HL1
              rw [hL2] at RY HL2
              clear hL1 hL2 hY HW3 HB HO HRW HS HST
              go_wp2_with (at_builtin; refine Rg.wpList_appS sliceI rfl (.tmp 47) (.tmp 50) rfl w3.heap.size _ [] L1 rfl HAL.out (some bd) m vc HL1.out rfl ?r1 ?s1 ?b1 ?_)
              case r1 => exact irow_below RX.out ((Below.refl _ _).alloc (Nat.le_refl _) _)
              case s1 => rw [HL1.out]; show 0 + _ ≤ _; omega
              case b1 => simp
              intro v5 W5 ho5 hg5 hz5
              have HO5 := Lib.hid ho5
              have HB5 : Hid (Below w3.heap.size w3 W5) := ((Below.refl _ _).alloc (Nat.le_refl _) _).trans (Rg.grown_below HAL.out (by simp) hg5)
              clear ho5 hg5 hz5 HAL
              obtain ⟨ad2, x2, had, hx2, hbl2, c2⟩ := irow_at (irow_below HRX.out HB5.out) j hjl
              obtain rfl := Option.some.inj had
              obtain rfl : x2 = x := hx2.symm.trans HX.out
              clear had hx2 hbl2
              go_wp2_with (at_builtin; refine Rg.wpList_app sliceI rfl (.tmp 52) (.tmp 57) rfl w3.heap.size v5 ([] ++ L1) [x2] rfl (Rg.own_below HO5.out ((Below.refl _ _).alloc (Nat.le_refl _) _)) _ _ rfl (Rg.news_new W5 _ _ _ (by rfl)) (Nat.zero_lt_succ _) ?s2 ?b2 ?_)
              case s2 => rw [List.nil_append, HL1.out]; show _ + 1 ≤ _; omega
              case b2 => have := HB5.out.size; simp; omega
              intro v6 W6 ho6 hg6 hz6
              have HO6 := Lib.hid ho6
              have HB6 : Hid (Below w3.heap.size w3 W6) := by
                have h1 := HB5.out.size
                exact (HB5.out.alloc h1 _).trans (Rg.grown_below (Rg.own_below HO5.out ((Below.refl _ _).alloc (Nat.le_refl _) _)) (by simp; omega) hg6)
              clear ho6 hg6 hz6 HO5 HB5 c2
              go_wp2_with (at_builtin; refine Rg.wpList_appS sliceI rfl (.tmp 59) (.tmp 62) rfl w3.heap.size v6 ([] ++ L1 ++ [x2]) L2 rfl HO6.out Y (s - m) (vc - m) HL2.out rfl ?r3 ?s3 ?b3 ?_)
              case r3 => exact irow_below RY.out HB6.out
              case s3 => have := HSN.out; rw [HL2.out, List.nil_append, List.length_append, HL1.out]; show _ + 1 + _ ≤ _; omega
              case b3 => exact HB6.out.size
              intro v7 W7 ho7 hg7 hz7
              have HB7 : Hid (Below w3.heap.size w3 W7) := HB6.out.trans (Rg.grown_below HO6.out HB6.out.size hg7)
              have HO7 : Hid (Rg.Own encI 1 W7 w.heap.size 3 v7 (L1 ++ x2 :: L2)) := by
                show Rg.Own _ _ _ _ _ _ _
                refine Rg.own_weak HB4.out.2 ?_; simpa using ho7
              have HB8 : Hid (Below w.heap.size w W7 ∧ w.heap.size ≤ W7.heap.size) := ⟨HB4.out.1.trans (HB7.out.mono HB4.out.2), Nat.le_trans HB4.out.2 HB7.out.size⟩
              clear ho7 hg7 hz7 HO6 HB6 HB7 RX RY
              go_wp2_with fail
              go_roundw
              case rel => exact ⟨j + 1, L1 ++ x2 :: L2, by omega, by go_num, HIN, HO7, HB8⟩
              case measure => simp [intOf]; omega
            · go_wp2_with fail
              go_region_held3 (fun u => u.cell? (bd.add m) = some (.int .i64 y) ∧ u.cell? (ad.add j) = some (.int .i64 x))
                (first
                  | exact ⟨cy, cx⟩
                  | exact ⟨cy2, cx2⟩)
                (first
                  | (go_at_call 57; refine (refAhead_any y x _ HFY.out HFX.out).mono ?_; rintro _ z ⟨rfl, rfl⟩; rw [HBQ.out]))
              have HST2 : Hid (NSt l (j + 1) S) := nst_old HST.out hjl hms (HY.out.trans ((by simpa using hyx : y = x).trans HX.out.symm))
              go_wp2_with fail
              first | (go_quiet (fail)) | fail
              have HW3 := Lib.hid (below_drewN HW.out.drew nq)
              generalize wr.drew.drewN nq = w3 at *
              clear cx cy cx2 cy2 HAY HA HW
              have HO3 := Lib.hid (Rg.own_below HO.out HW3.out)
              have HB3 : Hid (Below w.heap.size w w3 ∧ w.heap.size ≤ w3.heap.size) := ⟨HB.out.1.trans (HW3.out.mono HB.out.2), Nat.le_trans HB.out.2 HW3.out.size⟩
              go_wp2_with fail
              go_roundw
              case rel => exact ⟨j + 1, S, by omega, by go_num, HST2.out, HO3.out, HB3.out⟩
              case measure => simp [intOf]; omega
          · go_wp2_with fail
            go_region_held3 (fun u => u.cell? (bd.add m) = some (.int .i64 y) ∧ u.cell? (ad.add j) = some (.int .i64 x))
              (first
                | exact ⟨cy, cx⟩
                | exact ⟨cy2, cx2⟩)
              (first
                | (go_at_call 57; refine (refAhead_any y x _ HFY.out HFX.out).mono ?_; rintro _ z ⟨rfl, rfl⟩; rw [HBQ.out]))
            have HA3 := Lib.hid (HAY.out (of_decide_eq_true HBQ.out))
            go_wp2_with fail
            go_roundw
            case rel => exact ⟨m + 1, by omega, by go_num, HA3.out, HW.out.drew⟩
            case measure => simp [intOf]; omega
        · obtain rfl : m = s := by omega
          have HIN : Hid (NSt l (j + 1) (S.take m ++ x :: S.drop m)) := by
            have h := nst_new HST.out hjl (k := m) (by rw [HS.out]; exact Nat.le_refl _) (by rw [HX.out]; exact HA.out) (fun h => absurd h (by rw [HS.out]; exact Nat.lt_irrefl _))
            rw [HX.out] at h; exact h
          go_wp2_with fail
          first | (go_quiet (fail)) | fail
          have HW2 := Lib.hid (below_drewN HW.out nq)
          generalize wr.drewN nq = w2 at *
          go_wp2_with fail
          first | (go_quiet (fail)) | fail
          have HW3 := Lib.hid (below_drewN HW2.out nq)
          generalize w2.drewN nq = w3 at *
          clear HA HW HW2
          have rx := iX_run V m vc m (by omega) (by have := HLE.out; omega) HMX.out
          obtain ⟨Y, hY, ry⟩ := iY_run V m vc m (by omega) (by have := HLE.out; omega) HMX.out
          have RX : Hid (IRow w3 V (S.take m)) := Rg.row_take (irow_below HRW.out HW3.out) m
          have RY : Hid (IRow w3 Y (S.drop m)) := Rg.row_drop (irow_below HRW.out HW3.out) m (A' := Y) (fun h => by
            have h1 := HS.out
            have h2 := HLE.out
            rw [← hY, if_neg (by omega)])
          have HL1 : Hid ((S.take m).length = m) := by
            show _ = _
            have := HS.out
            rw [List.length_take]; omega
          have HL2 : Hid ((S.drop m).length = 0) := by
            show _ = _
            have := HS.out
            rw [List.length_drop]; omega
          have HSN : Hid (m ≤ j) := by have := HS.out; have := HST.out.2.2; show _ ≤ _; omega
          have HB4 : Hid (Below w.heap.size w w3 ∧ w.heap.size ≤ w3.heap.size) := ⟨HB.out.1.trans (HW3.out.mono HB.out.2), Nat.le_trans HB.out.2 HW3.out.size⟩
          have HRX : Hid (IRow w3 (some ad) l) := irow_below (irow_below HR.out HB.out.1) HW3.out
          have HAL : Hid (Rg.Own encI 1 (w3.alloc (.cells #[] 3)) w3.heap.size 3 (.slice (some ⟨w3.heap.size, 0, none⟩) 0 0) []) := Rg.own_made w3 fitsI (Nat.le_refl _)
          obtain ⟨L1, hL1⟩ : ∃ L, S.take m = L := ⟨_, rfl⟩
          obtain ⟨L2, hL2⟩ : ∃ L, S.drop m = L := ⟨_, rfl⟩
          rw [hL1, hL2] at HIN
          rw [hL1] at RX HL1
          rw [hL2] at RY HL2
          clear hL1 hL2 hY HW3 HB HO HRW HS HST
          go_wp2_with (at_builtin; refine Rg.wpList_appS sliceI rfl (.tmp 47) (.tmp 50) rfl w3.heap.size _ [] L1 rfl HAL.out V m vc HL1.out rfl ?r1 ?s1 ?b1 ?_)
          case r1 => exact irow_below RX.out ((Below.refl _ _).alloc (Nat.le_refl _) _)
          case s1 => rw [HL1.out]; show 0 + _ ≤ _; omega
          case b1 => simp
          intro v5 W5 ho5 hg5 hz5
          have HO5 := Lib.hid ho5
          have HB5 : Hid (Below w3.heap.size w3 W5) := ((Below.refl _ _).alloc (Nat.le_refl _) _).trans (Rg.grown_below HAL.out (by simp) hg5)
          clear ho5 hg5 hz5 HAL
          obtain ⟨ad2, x2, had, hx2, hbl2, c2⟩ := irow_at (irow_below HRX.out HB5.out) j hjl
          obtain rfl := Option.some.inj had
          obtain rfl : x2 = x := hx2.symm.trans HX.out
          clear had hx2 hbl2
          go_wp2_with (at_builtin; refine Rg.wpList_app sliceI rfl (.tmp 52) (.tmp 57) rfl w3.heap.size v5 ([] ++ L1) [x2] rfl (Rg.own_below HO5.out ((Below.refl _ _).alloc (Nat.le_refl _) _)) _ _ rfl (Rg.news_new W5 _ _ _ (by rfl)) (Nat.zero_lt_succ _) ?s2 ?b2 ?_)
          case s2 => rw [List.nil_append, HL1.out]; show _ + 1 ≤ _; omega
          case b2 => have := HB5.out.size; simp; omega
          intro v6 W6 ho6 hg6 hz6
          have HO6 := Lib.hid ho6
          have HB6 : Hid (Below w3.heap.size w3 W6) := by
            have h1 := HB5.out.size
            exact (HB5.out.alloc h1 _).trans (Rg.grown_below (Rg.own_below HO5.out ((Below.refl _ _).alloc (Nat.le_refl _) _)) (by simp; omega) hg6)
          clear ho6 hg6 hz6 HO5 HB5 c2
          go_wp2_with (at_builtin; refine Rg.wpList_appS sliceI rfl (.tmp 59) (.tmp 62) rfl w3.heap.size v6 ([] ++ L1 ++ [x2]) L2 rfl HO6.out Y (0) (vc - m) HL2.out rfl ?r3 ?s3 ?b3 ?_)
          case r3 => exact irow_below RY.out HB6.out
          case s3 => have := HSN.out; rw [HL2.out, List.nil_append, List.length_append, HL1.out]; show _ + 1 + _ ≤ _; omega
          case b3 => exact HB6.out.size
          intro v7 W7 ho7 hg7 hz7
          have HB7 : Hid (Below w3.heap.size w3 W7) := HB6.out.trans (Rg.grown_below HO6.out HB6.out.size hg7)
          have HO7 : Hid (Rg.Own encI 1 W7 w.heap.size 3 v7 (L1 ++ x2 :: L2)) := by
            show Rg.Own _ _ _ _ _ _ _
            refine Rg.own_weak HB4.out.2 ?_; simpa using ho7
          have HB8 : Hid (Below w.heap.size w W7 ∧ w.heap.size ≤ W7.heap.size) := ⟨HB4.out.1.trans (HB7.out.mono HB4.out.2), Nat.le_trans HB4.out.2 HB7.out.size⟩
          clear ho7 hg7 hz7 HO6 HB6 HB7 RX RY
          go_wp2_with fail
          go_roundw
          case rel => exact ⟨j + 1, L1 ++ x2 :: L2, by omega, by go_num, HIN, HO7, HB8⟩
          case measure => simp [intOf]; omega
    · obtain rfl : j = n := by omega
      obtain ⟨V, vc, rfl, hrw, hle, hmx⟩ := Rg.row_own fitsI HO.out
      have HRW := Lib.hid hrw
      obtain ⟨s, hs⟩ : ∃ s, S.length = s := ⟨_, rfl⟩
      rw [hs] at hle HO
      rw [hs]
      have HS := Lib.hid hs
      have hsj : s ≤ 1000 := by have := HST.out.2.2; omega
      have HSM : Hid (∀ x, x ∈ S ↔ x ∈ l) := fun x => by
        have := HST.out.2.1 x
        rwa [List.take_of_length_le (by rw [HN.out]; exact Nat.le_refl _)] at this
      have HSB : Hid (∀ x ∈ S, x ≠ 0 ∧ x.natAbs ≤ 2199023255552) := fun x hx => HF.out x ((HSM.out x).1 hx)
      clear hrw hs hle hmx
      go_wp2_with fail
      go_loopw [8] (fun i w3 => ∃ k : Nat, 1 ≤ k ∧ k ≤ s + 1 ∧ i = .int .i64 k ∧ Hid (∀ q (h : q + 1 < S.length), q + 1 < k → S[q + 1]'h ≠ -(S[q]'(Nat.lt_of_succ_lt h))) ∧ Hid (Below z1.heap.size z1 w3)) (fun i _ => s + 1 - (intOf i).toNat)
      case atStart => exact ⟨1, Nat.le_refl _, by omega, rfl, fun q h hq => absurd hq (by omega), Below.refl _ _⟩
      case round =>
        obtain ⟨k, hk1, hk, rfl, HA, HW⟩ := hrel
        by_cases hlt2 : k < s
        · obtain ⟨p, hp⟩ : ∃ p, k = p + 1 := ⟨k - 1, by omega⟩
          have hms : k < S.length := by rw [HS.out]; exact hlt2
          have hms0 : p < S.length := by omega
          obtain ⟨bd, y, rfl, hy, hby, hcy⟩ := irow_at (irow_below HRW.out HW.out) k hms
          obtain ⟨bd2, x, had, hx, hbx, hcx⟩ := irow_at (irow_below HRW.out HW.out) p hms0
          obtain rfl := Option.some.inj had
          have HFX := Lib.hid (HSB.out x (hx ▸ List.getElem_mem hms0))
          have w1 : IntKind.i64.wrap (0 - x) = -x := by have := HFX.out.2; exact (IntWalk.i64_in _ (by omega)).trans (by omega)
          have w2 : IntKind.i64.wrap (-x) = -x := by have := HFX.out.2; exact IntWalk.i64_in _ (by omega)
          have w3 : (k : Int) - 1 = (p : Int) := by omega
          have w4 : IntKind.i64.wrap ((k : Int) - 1) = (p : Int) := (IntWalk.i64_in _ (by omega)).trans (by omega)
          have w5 : IntKind.i64.wrap (p : Int) = (p : Int) := IntWalk.i64_in _ (by omega)
          have p0 : (0 : Int) ≤ (p : Int) := by omega
          have p1 : (p : Int) < (s : Int) := by omega
          have k0 : (0 : Int) ≤ (k : Int) := by omega
          have k1 : (k : Int) < (s : Int) := by omega
          have hy2 : S[p + 1]'(by omega) = y := by
            have : ∀ (i : Nat) (h : i < S.length), i = k → S[i] = y := fun i h e => by subst e; exact hy
            exact this _ _ hp.symm
          cases hyx : y == -x
          · have HA2 : Hid (∀ q (h : q + 1 < S.length), q + 1 < k + 1 → S[q + 1]'h ≠ -(S[q]'(Nat.lt_of_succ_lt h))) := fun q h hq e => by
              by_cases hqm : q = p
              · subst hqm; rw [hy2, hx] at e; rw [e] at hyx; simp at hyx
              · exact HA.out q h (by omega) e
            clear hy hx hby hbx had hp hy2
            go_wp2_with fail
            first | (go_quiet (fail)) | fail
            go_wp2_with fail
            go_roundw
            case rel => exact ⟨k + 1, by omega, by omega, by go_num, HA2.out, below_drewN HW.out _⟩
            case measure => simp [intOf]; omega
          · have HBAD : Hid (IsNorm l [] false) := srt_bad HSM.out (i := p) (by omega) (by rw [hy2, hx]; simpa using hyx)
            clear hy hx hby hbx had hp hy2
            go_wp2_with fail
            first | (go_quiet (fail)) | fail
            go_wp2_with fail
            go_ret2
            exact ⟨_, [], false, rfl, HBAD.out, Rg.own_nil _ _ _, HB.out.1.trans ((below_drewN HW.out _).mono HB.out.2), Nat.zero_le _⟩
        · have HOK : Hid (IsNorm l S true) := srt_done HST.out.1 HSM.out (fun h => (HF.out 0 h).1 rfl) (fun q h => HA.out q h (by have := HS.out; omega))
          go_wp2_with fail
          go_ret2
          exact ⟨_, S, true, rfl, HOK.out, Rg.own_below HO.out HW.out, HB.out.1.trans (HW.out.mono HB.out.2), by have := HST.out.2.2; rw [HN.out]; exact this⟩
end Go.Proofs.YtoioeekfnnoaoaaGreatDoor

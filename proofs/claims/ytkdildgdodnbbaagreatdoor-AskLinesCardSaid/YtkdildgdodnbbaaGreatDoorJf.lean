/- The reference's joined, walked: its first two loops (the insertion), then the joining. -/
import Derived.Test.YtkdildgdodnbbaaGreatDoorQq
namespace Go.Proofs.YtkdildgdodnbbaaGreatDoor
open Go.RowKit Rs
attribute [local go_sem ↓] Go.wp_at_zero Go.wp_at_succ

theorem own_st {w : World} {B n cap : Nat} {cd : Addr} {l : List Sp} (h : ROwn w B (.slice (some cd) n cap) l) (hn : l.length = n) (i j : Nat) (hi : i < l.length) (hj : j < 4) (x s : Sp) (u : Value) (hs : l[i] = s) (hx : Rs.spC x = (Rs.spC s).set j u) :
    ROwn (w.setCell ⟨(cd.add (i * 4)).block, (cd.add (i * 4)).off + j, none⟩ u) B (.slice (some cd) n cap) (l.set i x) ∧ w.frozen? ⟨(cd.add (i * 4)).block, (cd.add (i * 4)).off + j, none⟩ = false ∧ B ≤ cd.block := by
  obtain ⟨g, e, hb, _, hf⟩ := Rg.own_form h (by omega)
  cases e
  have ea : (⟨((⟨g, 0, none⟩ : Addr).add (i * 4)).block, ((⟨g, 0, none⟩ : Addr).add (i * 4)).off + j, none⟩ : Addr) = ⟨g, i * 4 + j, none⟩ := by
    unfold Addr.add
    split
    · rename_i h0; rw [h0]
    · show (⟨g, 0 + i * 4 + j, none⟩ : Addr) = _; rw [Nat.zero_add]
  rw [ea]
  exact ⟨(Rg.own_store fitsS h hn i j hi hj x u (by rw [hs]; exact hx)).1, hf _, hb⟩
theorem srow_take {w : World} {C : Option Addr} {l : List Sp} (h : SRow w C l) (k : Nat) : SRow w C (l.take k) := fun h0 => by
  rw [List.length_take] at h0
  obtain ⟨a, e, hb, hc⟩ := h (by omega)
  refine ⟨a, e, hb, fun i hi => ?_⟩
  rw [List.length_take] at hi
  rw [List.getElem_take]
  exact hc i (by omega)
theorem mgS_nil {O : List (Rm.P Cut)} {x : Rm.P Cut} (h : O.length = 0) : Rm.mgS Ln O x = [x] := by unfold Rm.mgS; rw [dif_neg (by omega)]
theorem mgS_no {O : List (Rm.P Cut)} {x q : Rm.P Cut} {p : Nat} (hp : p - 1 < O.length) (hp2 : O.length = p) (hq : O[p - 1] = q) (h : Ln.le x.lo q.hi = false) : Rm.mgS Ln O x = O ++ [x] := by
  unfold Rm.mgS
  rw [dif_pos (by omega)]
  have e : O.length - 1 = p - 1 := by omega
  simp only [e, hq, h]; rfl
theorem mgS_up {O : List (Rm.P Cut)} {x q : Rm.P Cut} {p : Nat} (hp : p - 1 < O.length) (hp2 : O.length = p) (hq : O[p - 1] = q) (h : Ln.le x.lo q.hi = true) (h2 : Rm.lt Ln q.hi x.hi = true) : Rm.mgS Ln O x = O.set (p - 1) { lo := q.lo, hi := x.hi } := by
  unfold Rm.mgS
  rw [dif_pos (by omega)]
  have e : O.length - 1 = p - 1 := by omega
  simp only [e, hq, h, Rm.up, h2]; rfl
theorem mgS_same {O : List (Rm.P Cut)} {x q : Rm.P Cut} {p : Nat} (hp : p - 1 < O.length) (hp2 : O.length = p) (hq : O[p - 1] = q) (h : Ln.le x.lo q.hi = true) (h2 : Rm.lt Ln q.hi x.hi = false) : Rm.mgS Ln O x = O := by
  unfold Rm.mgS
  rw [dif_pos (by omega)]
  have e : O.length - 1 = p - 1 := by omega
  have e2 : Rm.mgS Ln O x = Rm.mgS Ln O x := rfl
  simp only [e, hq, h, Rm.up, h2]
  show O.set (p - 1) { lo := q.lo, hi := q.hi } = O
  rw [show ({ lo := q.lo, hi := q.hi } : Rm.P Cut) = O[p - 1] from hq.symm, List.set_getElem_self]
set_option maxRecDepth 100000 in
set_option maxHeartbeats 6400000 in
theorem joined_any (A : Option Addr) (n c : Nat) (r : List (Rm.P Cut)) (w : World) (hn : r.length = n) (hr : SRow w A (r.map spOf)) (ho : ∀ p ∈ r, Ok2 p) (hl : n ≤ 10000) :
    Calls Tryz.prog 91 #[.slice A n c] w (SpansRet w (((Rm.joinK Ln r).take 64).map spOf)) := by
  have HR := Lib.hid hr
  have HO2 := Lib.hid ho
  have HN := Lib.hid hn
  obtain ⟨R, hR⟩ : ∃ R, ((Rm.joinK Ln r).take 64).map spOf = R := ⟨_, rfl⟩
  rw [hR]
  have HRR := Lib.hid hR
  clear hn hr ho hR
  go_enter Tryz.func91, Tryz.ntmps91
  go_wp2_with fail
  go_loopw [3, 4] (fun v i wr => ∃ k : Nat, k ≤ n ∧ i = .int .i64 k ∧ Hid (ROwn wr w.heap.size v ((Rm.srt Ln (r.take k)).map spOf)) ∧ Hid (Below w.heap.size w wr ∧ w.heap.size ≤ wr.heap.size)) (fun _ i _ => n - (intOf i).toNat)
  case atStart => exact ⟨0, Nat.zero_le _, rfl, Rg.own_nil _ _ _, Below.refl _ _, Nat.le_refl _⟩
  case round =>
    obtain ⟨k, hk, rfl, HO, HB⟩ := hrel
    by_cases hlt : k < n
    · have hlr : k < r.length := by rw [HN.out]; exact hlt
      obtain ⟨x, hx⟩ : ∃ x, r[k] = x := ⟨_, rfl⟩
      have HX := Lib.hid hx
      have hsn := Rm.srt_snoc Ln r k hlr
      rw [hx] at hsn
      obtain ⟨S, hS⟩ : ∃ S, Rm.srt Ln (r.take k) = S := ⟨_, rfl⟩
      have ho1 := HO.out
      rw [hS] at hsn ho1
      have hSl : S.length = k := by rw [← hS, Rm.len_srt, List.length_take]; omega
      have HSN := Lib.hid hsn
      have HSO : Hid (∀ p ∈ S, Ok2 p) := fun p hp => HO2.out p (List.mem_of_mem_take ((Rm.mem_srt Ln _ p).1 (by rw [hS]; exact hp)))
      have HXO : Hid (Ok2 x) := by rw [← hx]; exact HO2.out _ (List.getElem_mem hlr)
      obtain ⟨V, vc, rfl, hsrow, hrow, hle, hmx, _⟩ := rrow_of ho1 (show (S.map spOf).length = k by rw [List.length_map]; exact hSl)
      have HSR := Lib.hid hsrow
      have HRW := Lib.hid hrow
      have HSL := Lib.hid hSl
      clear hx hsn ho1 hS hSl hsrow hrow HO
      go_wp2_with fail
      go_loopw [5] (fun j wq => ∃ m : Nat, m ≤ k ∧ j = .int .i64 m ∧ Hid (∀ y ∈ S.take m, (!Rm.lt Ln x.lo y.lo) = true) ∧ Hid (Below wr.heap.size wr wq)) (fun j _ => k - (intOf j).toNat)
      case atStart => exact ⟨0, Nat.zero_le _, rfl, fun y hy => by simp at hy, Below.refl _ _⟩
      case round =>
        obtain ⟨m, hm, rfl, HA, HW⟩ := hrel
        by_cases hlm : m < k
        · have hms : m < S.length := by rw [HSL.out]; exact hlm
          obtain ⟨ad, rfl, hbl, c0, c1, c2, c3⟩ := row_piece (srow_below (srow_below HR.out HB.out.1) (HW.out.mono (Nat.le_refl _))) k hlr
          obtain ⟨bd, rfl, hbm, d0, d1, d2, d3⟩ := row_piece (srow_below HSR.out HW.out) m hms
          rw [HX.out] at c0 c1 c2 c3
          obtain ⟨y, hy⟩ : ∃ y, S[m] = y := ⟨_, rfl⟩
          rw [hy] at d0 d1 d2 d3
          have HY := Lib.hid hy
          have HYO : Hid (Ok2 y) := by rw [← hy]; exact HSO.out _ (List.getElem_mem hms)
          obtain ⟨b, hb⟩ : ∃ b, Rm.lt Ln x.lo y.lo = b := ⟨_, rfl⟩
          have HLB := Lib.hid hb
          have hp1 : (ad.add (k * 4)).block < wr.heap.size := by rw [add_block]; exact hbl
          have hq1 : (bd.add (m * 4)).block < wr.heap.size := by rw [add_block]; exact hbm
          clear hy hb
          cases b
          · have HA2 : Hid (∀ y ∈ S.take (m + 1), (!Rm.lt Ln x.lo y.lo) = true) := fun z hz => by
              rw [List.take_succ_eq_append_getElem hms, HY.out] at hz
              rcases List.mem_append.1 hz with hz | hz
              · exact HA.out z hz
              · rw [List.mem_singleton.1 hz, HLB.out]; rfl
            go_wp2_with fail
            go_region_held3 (fun w' => w'.cell? (ad.add (k * 4)) = some (.string ⟨(spOf x).lo.toArray⟩) ∧ w'.cell? ⟨(ad.add (k * 4)).block, (ad.add (k * 4)).off + 1, none⟩ = some (.string ⟨(spOf x).hi.toArray⟩) ∧ w'.cell? ⟨(ad.add (k * 4)).block, (ad.add (k * 4)).off + 2, none⟩ = some (.bool (spOf x).li) ∧ w'.cell? ⟨(ad.add (k * 4)).block, (ad.add (k * 4)).off + 3, none⟩ = some (.bool (spOf x).hn) ∧
                w'.cell? (bd.add (m * 4)) = some (.string ⟨(spOf y).lo.toArray⟩) ∧ w'.cell? ⟨(bd.add (m * 4)).block, (bd.add (m * 4)).off + 1, none⟩ = some (.string ⟨(spOf y).hi.toArray⟩) ∧ w'.cell? ⟨(bd.add (m * 4)).block, (bd.add (m * 4)).off + 2, none⟩ = some (.bool (spOf y).li) ∧ w'.cell? ⟨(bd.add (m * 4)).block, (bd.add (m * 4)).off + 3, none⟩ = some (.bool (spOf y).hn) ∧ wr.heap.size ≤ w'.heap.size ∧ Below wr.heap.size wr w')
              (first
                | exact ⟨c0, c1, c2, c3, d0, d1, d2, d3, Nat.le_refl _, (Below.refl _ _).drew⟩
                | assumption
                | (refine keepRR hp1 hq1 ?_ hb; assumption))
              (first
                | (go_at_call 89; refine (lowerP_any x y _ _ HXO.out HYO.out HLB.out).mono ?_; rintro _ w4 ⟨rfl, hb⟩))
            rename_i HCC
            obtain ⟨_, _, _, _, _, _, _, _, z1, z2⟩ := HCC
            have HW4 : Hid (Below _ _ w4) := HW.out.trans (z2.mono HW.out.size)
            clear z1 z2 c0 c1 c2 c3 d0 d1 d2 d3
            go_wp2_with fail
            go_roundw
            case rel => exact ⟨m + 1, by omega, by go_num, HA2, HW4⟩
            case measure => simp [intOf]; omega
          · have HINS : Hid (Rm.srt Ln (r.take (k + 1)) = S.take m ++ x :: S.drop m) := HSN.out.trans (Rm.ins_cut Ln x S m (by omega) HA.out (fun _ => by rw [HY.out, HLB.out]; rfl))
            go_wp2_with fail
            go_region_held3 (fun w' => w'.cell? (ad.add (k * 4)) = some (.string ⟨(spOf x).lo.toArray⟩) ∧ w'.cell? ⟨(ad.add (k * 4)).block, (ad.add (k * 4)).off + 1, none⟩ = some (.string ⟨(spOf x).hi.toArray⟩) ∧ w'.cell? ⟨(ad.add (k * 4)).block, (ad.add (k * 4)).off + 2, none⟩ = some (.bool (spOf x).li) ∧ w'.cell? ⟨(ad.add (k * 4)).block, (ad.add (k * 4)).off + 3, none⟩ = some (.bool (spOf x).hn) ∧
                w'.cell? (bd.add (m * 4)) = some (.string ⟨(spOf y).lo.toArray⟩) ∧ w'.cell? ⟨(bd.add (m * 4)).block, (bd.add (m * 4)).off + 1, none⟩ = some (.string ⟨(spOf y).hi.toArray⟩) ∧ w'.cell? ⟨(bd.add (m * 4)).block, (bd.add (m * 4)).off + 2, none⟩ = some (.bool (spOf y).li) ∧ w'.cell? ⟨(bd.add (m * 4)).block, (bd.add (m * 4)).off + 3, none⟩ = some (.bool (spOf y).hn) ∧ wr.heap.size ≤ w'.heap.size ∧ Below wr.heap.size wr w')
              (first
                | exact ⟨c0, c1, c2, c3, d0, d1, d2, d3, Nat.le_refl _, (Below.refl _ _).drew⟩
                | assumption
                | (refine keepRR hp1 hq1 ?_ hb; assumption))
              (first
                | (go_at_call 89; refine (lowerP_any x y _ _ HXO.out HYO.out HLB.out).mono ?_; rintro _ w4 ⟨rfl, hb⟩))
            rename_i HCC
            obtain ⟨_, _, _, _, _, _, _, _, z1, z2⟩ := HCC
            have HW4 : Hid (Below _ _ w4) := HW.out.trans (z2.mono HW.out.size)
            clear z1 z2 c0 c1 c2 c3 d0 d1 d2 d3
            have HSA : Hid (SRow w4 (some ad) (r.map spOf)) := srow_below (srow_below HR.out HB.out.1) HW4.out
            have SRA := HSA
            have HIN : Hid ((Rm.srt Ln (r.take (k + 1))).map spOf = ([] ++ (S.take m).map spOf ++ [spOf x]) ++ (S.drop m).map spOf) := by
              show _ = _
              rw [HINS.out]; simp
            have RX : Hid (Rg.Row spC 4 w4 (some bd) ((S.take m).map spOf)) := by
              have := Rg.row_take (Rg.row_below HRW.out HW4.out) m
              rw [← List.map_take] at this; exact this
            have rx := rX_run (some bd) k vc m (by omega) hle hmx
            obtain ⟨Y, hY, ry⟩ := rY_run (some bd) k vc m (by omega) hle hmx
            have RY : Hid (Rg.Row spC 4 w4 Y ((S.drop m).map spOf)) := by
              have := Rg.row_drop (Rg.row_below HRW.out HW4.out) m (A' := Y) (fun h => by
                rw [List.length_map, HSL.out] at h
                rw [← hY, if_neg (by omega)])
              rw [← List.map_drop] at this; exact this
            have HAL : Hid (ROwn (w4.alloc (.cells #[] 90)) w4.heap.size (.slice (some ⟨w4.heap.size, 0, none⟩) 0 0) []) := Rg.own_made w4 fitsS (Nat.le_refl _)
            have HL1 : Hid (((S.take m).map spOf).length = m) := by
              show _ = _
              rw [List.length_map, List.length_take, HSL.out]; omega
            have HL2 : Hid (((S.drop m).map spOf).length = k - m) := by
              show _ = _
              have := HSL.out
              rw [List.length_map, List.length_drop]; omega
            have HB4 : Hid (Below w.heap.size w w4 ∧ w.heap.size ≤ w4.heap.size) := ⟨HB.out.1.trans (HW4.out.mono HB.out.2), Nat.le_trans HB.out.2 HW4.out.size⟩
            obtain ⟨L1, hL1⟩ : ∃ L, (S.take m).map spOf = L := ⟨_, rfl⟩
            obtain ⟨L2, hL2⟩ : ∃ L, (S.drop m).map spOf = L := ⟨_, rfl⟩
            rw [hL1, hL2] at HIN
            rw [hL1] at RX HL1
            rw [hL2] at RY HL2
            clear hL1 hL2 hY HW4 HW HRW HSR HINS HSA HSN HSO
            go_wp2_with (at_builtin; refine Rg.wpList_appS sliceR rfl (.tmp 34) (.tmp 37) rfl w4.heap.size _ [] L1 rfl HAL.out (some bd) m vc HL1.out rfl ?r1 ?s1 ?b1 ?_)
            case r1 => exact Rg.row_below RX.out ((Below.refl _ _).alloc (Nat.le_refl _) _)
            case s1 => rw [HL1.out]; show 0 + m ≤ _; omega
            case b1 => simp
            intro v5 W5 ho5 hg5 hz5
            have HO5 := Lib.hid ho5
            have HB5 : Hid (Below w4.heap.size w4 W5) := ((Below.refl _ _).alloc (Nat.le_refl _) _).trans (Rg.grown_below HAL.out (by simp) hg5)
            clear ho5 hg5 hz5 HAL
            obtain ⟨ad2, had, hbl2, c0, c1, c2, c3⟩ := row_piece (srow_below SRA.out HB5.out) k hlr
            obtain rfl := Option.some.inj had
            clear had
            rw [HX.out] at c0 c1 c2 c3
            go_wp2_with (at_builtin; refine Rg.wpList_app sliceR rfl (.tmp 39) (.tmp 44) rfl w4.heap.size v5 ([] ++ L1) [spOf x] rfl (Rg.own_below HO5.out ((Below.refl _ _).alloc (Nat.le_refl _) _)) _ _ rfl (Rg.news_new W5 _ _ _ (by rfl)) (Nat.zero_lt_succ _) ?s2 ?b2 ?_)
            case s2 => rw [List.nil_append, HL1.out]; show m + 1 ≤ _; omega
            case b2 => have := HB5.out.size; simp; omega
            intro v6 W6 ho6 hg6 hz6
            have HO6 := Lib.hid ho6
            have HB6 : Hid (Below w4.heap.size w4 W6) := by
              have h1 := HB5.out.size
              exact (HB5.out.alloc h1 _).trans (Rg.grown_below (Rg.own_below HO5.out ((Below.refl _ _).alloc (Nat.le_refl _) _)) (by simp; omega) hg6)
            clear ho6 hg6 hz6 HO5 HB5 c0 c1 c2 c3
            go_wp2_with (at_builtin; refine Rg.wpList_appS sliceR rfl (.tmp 46) (.tmp 49) rfl w4.heap.size v6 ([] ++ L1 ++ [spOf x]) L2 rfl HO6.out Y (k - m) (vc - m) HL2.out rfl ?r3 ?s3 ?b3 ?_)
            case r3 => exact Rg.row_below RY.out HB6.out
            case s3 => rw [HL2.out, List.nil_append, List.length_append, HL1.out]; show m + 1 + _ ≤ _; omega
            case b3 => exact HB6.out.size
            intro v7 W7 ho7 hg7 hz7
            have HB7 : Hid (Below w4.heap.size w4 W7) := HB6.out.trans (Rg.grown_below HO6.out HB6.out.size hg7)
            have HO7 : Hid (ROwn W7 w.heap.size v7 ((Rm.srt Ln (r.take (k + 1))).map spOf)) := by
              show ROwn _ _ _ _
              rw [HIN.out]; refine Rg.own_weak HB4.out.2 ?_; simpa using ho7
            have HB8 : Hid (Below w.heap.size w W7 ∧ w.heap.size ≤ W7.heap.size) := ⟨HB4.out.1.trans (HB7.out.mono HB4.out.2), Nat.le_trans HB4.out.2 HB7.out.size⟩
            clear ho7 hg7 hz7 HO6 HB6 HB7 RX RY
            go_wp2_with fail
            go_roundw
            case rel => exact ⟨k + 1, by omega, by go_num, HO7, HB8⟩
            case measure => simp [intOf]; omega

        · obtain rfl : m = k := by omega
          have HINS : Hid (Rm.srt Ln (r.take (m + 1)) = S.take m ++ x :: S.drop m) := HSN.out.trans (Rm.ins_cut Ln x S m (by rw [HSL.out]; exact Nat.le_refl _) HA.out (fun h => absurd h (by rw [HSL.out]; omega)))
          go_wp2_with fail
          go_quiet (fail)
          have HW4 := Lib.hid (below_drewN HW.out nq)
          generalize wr.drewN nq = w4 at *
          have HSA : Hid (SRow w4 (A) (r.map spOf)) := srow_below (srow_below HR.out HB.out.1) HW4.out
          have SRA := HSA
          have HIN : Hid ((Rm.srt Ln (r.take (m + 1))).map spOf = ([] ++ (S.take m).map spOf ++ [spOf x]) ++ (S.drop m).map spOf) := by
            show _ = _
            rw [HINS.out]; simp
          have RX : Hid (Rg.Row spC 4 w4 (V) ((S.take m).map spOf)) := by
            have := Rg.row_take (Rg.row_below HRW.out HW4.out) m
            rw [← List.map_take] at this; exact this
          have rx := rX_run (V) m vc m (by omega) hle hmx
          obtain ⟨Y, hY, ry⟩ := rY_run (V) m vc m (by omega) hle hmx
          have RY : Hid (Rg.Row spC 4 w4 Y ((S.drop m).map spOf)) := by
            have := Rg.row_drop (Rg.row_below HRW.out HW4.out) m (A' := Y) (fun h => by
              rw [List.length_map, HSL.out] at h
              rw [← hY, if_neg (by omega)])
            rw [← List.map_drop] at this; exact this
          have HAL : Hid (ROwn (w4.alloc (.cells #[] 90)) w4.heap.size (.slice (some ⟨w4.heap.size, 0, none⟩) 0 0) []) := Rg.own_made w4 fitsS (Nat.le_refl _)
          have HL1 : Hid (((S.take m).map spOf).length = m) := by
            show _ = _
            rw [List.length_map, List.length_take, HSL.out]; omega
          have HL2 : Hid (((S.drop m).map spOf).length = 0) := by
            show _ = _
            have := HSL.out
            rw [List.length_map, List.length_drop]; omega
          have HB4 : Hid (Below w.heap.size w w4 ∧ w.heap.size ≤ w4.heap.size) := ⟨HB.out.1.trans (HW4.out.mono HB.out.2), Nat.le_trans HB.out.2 HW4.out.size⟩
          obtain ⟨L1, hL1⟩ : ∃ L, (S.take m).map spOf = L := ⟨_, rfl⟩
          obtain ⟨L2, hL2⟩ : ∃ L, (S.drop m).map spOf = L := ⟨_, rfl⟩
          rw [hL1, hL2] at HIN
          rw [hL1] at RX HL1
          rw [hL2] at RY HL2
          clear hL1 hL2 hY HW4 HW HRW HSR HINS HSA HSN HSO
          go_wp2_with (at_builtin; refine Rg.wpList_appS sliceR rfl (.tmp 34) (.tmp 37) rfl w4.heap.size _ [] L1 rfl HAL.out (V) m vc HL1.out rfl ?r1 ?s1 ?b1 ?_)
          case r1 => exact Rg.row_below RX.out ((Below.refl _ _).alloc (Nat.le_refl _) _)
          case s1 => rw [HL1.out]; show 0 + m ≤ _; omega
          case b1 => simp
          intro v5 W5 ho5 hg5 hz5
          have HO5 := Lib.hid ho5
          have HB5 : Hid (Below w4.heap.size w4 W5) := ((Below.refl _ _).alloc (Nat.le_refl _) _).trans (Rg.grown_below HAL.out (by simp) hg5)
          clear ho5 hg5 hz5 HAL
          obtain ⟨ad2, rfl, hbl2, c0, c1, c2, c3⟩ := row_piece (srow_below SRA.out HB5.out) m hlr
          rw [HX.out] at c0 c1 c2 c3
          go_wp2_with (at_builtin; refine Rg.wpList_app sliceR rfl (.tmp 39) (.tmp 44) rfl w4.heap.size v5 ([] ++ L1) [spOf x] rfl (Rg.own_below HO5.out ((Below.refl _ _).alloc (Nat.le_refl _) _)) _ _ rfl (Rg.news_new W5 _ _ _ (by rfl)) (Nat.zero_lt_succ _) ?s2 ?b2 ?_)
          case s2 => rw [List.nil_append, HL1.out]; show m + 1 ≤ _; omega
          case b2 => have := HB5.out.size; simp; omega
          intro v6 W6 ho6 hg6 hz6
          have HO6 := Lib.hid ho6
          have HB6 : Hid (Below w4.heap.size w4 W6) := by
            have h1 := HB5.out.size
            exact (HB5.out.alloc h1 _).trans (Rg.grown_below (Rg.own_below HO5.out ((Below.refl _ _).alloc (Nat.le_refl _) _)) (by simp; omega) hg6)
          clear ho6 hg6 hz6 HO5 HB5 c0 c1 c2 c3
          go_wp2_with (at_builtin; refine Rg.wpList_appS sliceR rfl (.tmp 46) (.tmp 49) rfl w4.heap.size v6 ([] ++ L1 ++ [spOf x]) L2 rfl HO6.out Y 0 (vc - m) HL2.out rfl ?r3 ?s3 ?b3 ?_)
          case r3 => exact Rg.row_below RY.out HB6.out
          case s3 => rw [HL2.out, List.nil_append, List.length_append, HL1.out]; show m + 1 + _ ≤ _; omega
          case b3 => exact HB6.out.size
          intro v7 W7 ho7 hg7 hz7
          have HB7 : Hid (Below w4.heap.size w4 W7) := HB6.out.trans (Rg.grown_below HO6.out HB6.out.size hg7)
          have HO7 : Hid (ROwn W7 w.heap.size v7 ((Rm.srt Ln (r.take (m + 1))).map spOf)) := by
            show ROwn _ _ _ _
            rw [HIN.out]; refine Rg.own_weak HB4.out.2 ?_; simpa using ho7
          have HB8 : Hid (Below w.heap.size w W7 ∧ w.heap.size ≤ W7.heap.size) := ⟨HB4.out.1.trans (HB7.out.mono HB4.out.2), Nat.le_trans HB4.out.2 HB7.out.size⟩
          clear ho7 hg7 hz7 HO6 HB6 HB7 RX RY
          go_wp2_with fail
          go_roundw
          case rel => exact ⟨m + 1, by omega, by go_num, HO7, HB8⟩
          case measure => simp [intOf]; omega

    · obtain rfl : n = k := by omega
      have ho1 : ROwn wr w.heap.size u3 ((Rm.srt Ln r).map spOf) := by
        have := HO.out
        rwa [List.take_of_length_le (by rw [HN.out]; exact Nat.le_refl _)] at this
      obtain ⟨S, hS⟩ : ∃ S, Rm.srt Ln r = S := ⟨_, rfl⟩
      have hSl : S.length = n := by rw [← hS, Rm.len_srt]; exact HN.out
      have HSO : Hid (∀ p ∈ S, Ok2 p) := by rw [← hS]; exact ok2_srt HO2.out
      have HJ : Hid (((Rm.mgd Ln S).take 64).map spOf = R) := by show _ = _; rw [← hS, ← Rm.joinK_mgd]; exact HRR.out
      rw [hS] at ho1
      obtain ⟨V, vc, rfl, hsrow, _, hle, hmx, _⟩ := rrow_of ho1 (show (S.map spOf).length = n by rw [List.length_map]; exact hSl)
      have HSR := Lib.hid hsrow
      have HSL := Lib.hid hSl
      clear ho1 hS hSl hsrow HO HR HO2 HN HRR
      obtain ⟨wA, hwA⟩ : ∃ z, z = wr := ⟨_, rfl⟩
      subst hwA
      go_wp2_with fail
      go_loopw [7, 8] (fun v i wq => ∃ k : Nat, k ≤ n ∧ i = .int .i64 k ∧ Hid (ROwn wq wA.heap.size v ((Rm.mgd Ln (S.take k)).map spOf)) ∧ Hid (Below wA.heap.size wA wq)) (fun _ i _ => n - (intOf i).toNat)
      case atStart => exact ⟨0, Nat.zero_le _, rfl, Rg.own_nil _ _ _, Below.refl _ _⟩
      case round =>
        obtain ⟨k, hk, rfl, HO, HW⟩ := hrel
        by_cases hlk : k < n
        · have hks : k < S.length := by rw [HSL.out]; exact hlk
          obtain ⟨x, hx⟩ : ∃ x, S[k] = x := ⟨_, rfl⟩
          have HXO : Hid (Ok2 x) := by rw [← hx]; exact HSO.out _ (List.getElem_mem hks)
          have hmg := Rm.mgd_snoc Ln S k hks
          have hol := Rm.mgd_len Ln S k (by omega)
          have hoo := ok2_mgd HSO.out k (by omega)
          have ho1 := HO.out
          obtain ⟨O, hO⟩ : ∃ O, Rm.mgd Ln (S.take k) = O := ⟨_, rfl⟩
          rw [hO] at hmg hol hoo ho1
          rw [hx] at hmg
          have HMGS := Lib.hid hmg
          have HOO := Lib.hid hoo
          have HX := Lib.hid hx
          clear hx hmg hoo hO HO
          by_cases h0 : O.length = 0
          · obtain ⟨C, cc, rfl, _, _, hcc, hcm, _⟩ := rrow_of ho1 (show (O.map spOf).length = 0 by rw [List.length_map]; exact h0)
            have HMG : Hid (Rm.mgd Ln (S.take (k + 1)) = O ++ [x]) := by
              show _ = _
              rw [HMGS.out, mgS_nil h0, List.length_eq_zero_iff.1 h0]; rfl
            have HO3 := Lib.hid ho1
            clear ho1 h0
            go_wp2_with fail
            go_quiet (fail)
            have HW4 := Lib.hid (below_drewN HW.out nq)
            have HO4 := Lib.hid (Rg.own_below HO3.out (below_drewN (Below.refl _ _) nq))
            generalize wr.drewN nq = w4 at *
            obtain ⟨bd, rfl, hbm, c0, c1, c2, c3⟩ := row_piece (srow_below HSR.out HW4.out) k hks
            rw [HX.out] at c0 c1 c2 c3
            clear HO3 HMGS
            go_wp2_with (at_builtin; refine Rg.wpList_app sliceR rfl (.tmp 103) (.tmp 108) rfl wA.heap.size _ (O.map spOf) [spOf x] rfl (Rg.own_below HO4.out ((Below.refl _ _).alloc (Nat.le_refl _) _)) _ _ rfl (Rg.news_new w4 _ _ _ (by rfl)) (Nat.zero_lt_succ _) ?s2 ?b2 ?_)
            case s2 => rw [List.length_map]; show _ + 1 ≤ _; omega
            case b2 => have := HW4.out.size; simp; omega
            intro v6 W6 ho6 hg6 hz6
            have HO6 : Hid (ROwn W6 wA.heap.size v6 ((Rm.mgd Ln (S.take (k + 1))).map spOf)) := by
              show ROwn _ _ _ _
              rw [HMG.out]; simpa using ho6
            have HW6 : Hid (Below wA.heap.size wA W6) := by
              have h1 := HW4.out.size
              exact (HW4.out.alloc h1 _).trans (Rg.grown_below (Rg.own_below HO4.out ((Below.refl _ _).alloc (Nat.le_refl _) _)) (by simp; omega) hg6)
            clear ho6 hg6 hz6 HO4 HW4 HMG
            go_wp2_with fail
            go_roundw
            case rel => exact ⟨k + 1, by omega, by go_num, HO6, HW6⟩
            case measure => simp [intOf]; omega
          · obtain ⟨p, hp⟩ : ∃ p, O.length = p := ⟨_, rfl⟩
            have hp0 : 1 ≤ p := by omega
            obtain ⟨C, cc, rfl, osrow, _, hcc, hcm, _⟩ := rrow_of ho1 (show (O.map spOf).length = p by rw [List.length_map]; exact hp)
            have hpo : p - 1 < O.length := by omega
            obtain ⟨q, hq⟩ : ∃ q, O[p - 1] = q := ⟨_, rfl⟩
            have HQO : Hid (Ok2 q) := by rw [← hq]; exact HOO.out _ (List.getElem_mem hpo)
            obtain ⟨cd, rfl, hcb, d0, d1, d2, d3⟩ := row_piece osrow (p - 1) hpo
            rw [hq] at d0 d1 d2 d3
            have HQ := Lib.hid hq
            obtain ⟨bd, rfl, hbm, c0, c1, c2, c3⟩ := row_piece (srow_below HSR.out HW.out) k hks
            rw [HX.out] at c0 c1 c2 c3
            have HO3 := Lib.hid ho1
            have HPL := Lib.hid hp
            have g1 : (0 : Int) ≤ (p : Int) - 1 := by omega
            have g6 : (1 : Int) ≤ (p : Int) := by omega
            have g2 : (p : Int) - 1 < (p : Int) := by omega
            have g3 : ((p : Int) - 1).toNat = p - 1 := by omega
            have g5 : IntKind.i64.wrap ((p : Int) - 1) = (p : Int) - 1 := IntWalk.i64_in _ (by omega)
            have g7 : decide ((0 : Int) < (p : Int)) = true := decide_eq_true (by omega)
            have g8 : (0 : Int) < (p : Int) := by omega
            have g9 : decide (0 < p) = true := decide_eq_true (by omega)
            have g10 : 0 < p := by omega
            have hp1 : (cd.add ((p - 1) * 4)).block < wr.heap.size := by rw [add_block]; exact hcb
            have hq1 : (bd.add (k * 4)).block < wr.heap.size := by rw [add_block]; exact hbm
            obtain ⟨b, hb⟩ : ∃ b, Ln.le x.lo q.hi = b := ⟨_, rfl⟩
            have HT := Lib.hid hb
            clear hb hq ho1 osrow h0
            cases b
            · have HMG : Hid (Rm.mgd Ln (S.take (k + 1)) = O ++ [x]) := HMGS.out.trans (mgS_no hpo HPL.out HQ.out HT.out)
              clear HMGS
              go_wp2_with fail
              go_region_held3 (fun w' => w'.cell? (cd.add ((p - 1) * 4)) = some (.string ⟨(spOf q).lo.toArray⟩) ∧ w'.cell? ⟨(cd.add ((p - 1) * 4)).block, (cd.add ((p - 1) * 4)).off + 1, none⟩ = some (.string ⟨(spOf q).hi.toArray⟩) ∧ w'.cell? ⟨(cd.add ((p - 1) * 4)).block, (cd.add ((p - 1) * 4)).off + 2, none⟩ = some (.bool (spOf q).li) ∧ w'.cell? ⟨(cd.add ((p - 1) * 4)).block, (cd.add ((p - 1) * 4)).off + 3, none⟩ = some (.bool (spOf q).hn) ∧
                              w'.cell? (bd.add (k * 4)) = some (.string ⟨(spOf x).lo.toArray⟩) ∧ w'.cell? ⟨(bd.add (k * 4)).block, (bd.add (k * 4)).off + 1, none⟩ = some (.string ⟨(spOf x).hi.toArray⟩) ∧ w'.cell? ⟨(bd.add (k * 4)).block, (bd.add (k * 4)).off + 2, none⟩ = some (.bool (spOf x).li) ∧ w'.cell? ⟨(bd.add (k * 4)).block, (bd.add (k * 4)).off + 3, none⟩ = some (.bool (spOf x).hn) ∧ wr.heap.size ≤ w'.heap.size ∧ Below wr.heap.size wr w')
                (first
                  | exact ⟨d0, d1, d2, d3, c0, c1, c2, c3, Nat.le_refl _, (Below.refl _ _).drew⟩
                  | assumption
                  | (refine keepRR hp1 hq1 ?_ hb; assumption))
                (first
                  | (go_at_call 111; refine (touchP_any q x _ _ HQO.out HXO.out HT.out).mono ?_; rintro _ w4 ⟨rfl, hb⟩))
              rename_i HCC
              obtain ⟨d0, d1, d2, d3, c0, c1, c2, c3, z1, z2⟩ := HCC
              have HW4 : Hid (Below _ _ w4) := HW.out.trans (z2.mono HW.out.size)
              have HO4 := Lib.hid (Rg.own_below HO3.out z2)
              clear z1 z2 HO3 HW d0 d1 d2 d3
              go_wp2_with (at_builtin; refine Rg.wpList_app sliceR rfl (.tmp 103) (.tmp 108) rfl wA.heap.size _ (O.map spOf) [spOf x] rfl (Rg.own_below HO4.out ((Below.refl _ _).alloc (Nat.le_refl _) _)) _ _ rfl (Rg.news_new w4 _ _ _ (by rfl)) (Nat.zero_lt_succ _) ?s2 ?b2 ?_)
              case s2 => rw [List.length_map]; show _ + 1 ≤ _; omega
              case b2 => have := HW4.out.size; simp; omega
              intro v6 W6 ho6 hg6 hz6
              have HO6 : Hid (ROwn W6 wA.heap.size v6 ((Rm.mgd Ln (S.take (k + 1))).map spOf)) := by
                show ROwn _ _ _ _
                rw [HMG.out]; simpa using ho6
              have HW6 : Hid (Below wA.heap.size wA W6) := by
                have h1 := HW4.out.size
                exact (HW4.out.alloc h1 _).trans (Rg.grown_below (Rg.own_below HO4.out ((Below.refl _ _).alloc (Nat.le_refl _) _)) (by simp; omega) hg6)
              clear ho6 hg6 hz6 HO4 HW4 HMG
              go_wp2_with fail
              go_roundw
              case rel => exact ⟨k + 1, by omega, by go_num, HO6, HW6⟩
              case measure => simp [intOf]; omega
            · cases hd : Rm.lt Ln q.hi x.hi
              all_goals
                have HD := Lib.hid hd
                clear hd
              · have HMG : Hid (Rm.mgd Ln (S.take (k + 1)) = O) := HMGS.out.trans (mgS_same hpo HPL.out HQ.out HT.out HD.out)
                clear HMGS
                go_wp2_with fail
                go_region_held3 (fun w' => w'.cell? (cd.add ((p - 1) * 4)) = some (.string ⟨(spOf q).lo.toArray⟩) ∧ w'.cell? ⟨(cd.add ((p - 1) * 4)).block, (cd.add ((p - 1) * 4)).off + 1, none⟩ = some (.string ⟨(spOf q).hi.toArray⟩) ∧ w'.cell? ⟨(cd.add ((p - 1) * 4)).block, (cd.add ((p - 1) * 4)).off + 2, none⟩ = some (.bool (spOf q).li) ∧ w'.cell? ⟨(cd.add ((p - 1) * 4)).block, (cd.add ((p - 1) * 4)).off + 3, none⟩ = some (.bool (spOf q).hn) ∧
                                w'.cell? (bd.add (k * 4)) = some (.string ⟨(spOf x).lo.toArray⟩) ∧ w'.cell? ⟨(bd.add (k * 4)).block, (bd.add (k * 4)).off + 1, none⟩ = some (.string ⟨(spOf x).hi.toArray⟩) ∧ w'.cell? ⟨(bd.add (k * 4)).block, (bd.add (k * 4)).off + 2, none⟩ = some (.bool (spOf x).li) ∧ w'.cell? ⟨(bd.add (k * 4)).block, (bd.add (k * 4)).off + 3, none⟩ = some (.bool (spOf x).hn) ∧ wr.heap.size ≤ w'.heap.size ∧ Below wr.heap.size wr w')
                  (first
                    | exact ⟨d0, d1, d2, d3, c0, c1, c2, c3, Nat.le_refl _, (Below.refl _ _).drew⟩
                    | assumption
                    | (refine keepRR hp1 hq1 ?_ hb; assumption))
                  (first
                    | (go_at_call 111; refine (touchP_any q x _ _ HQO.out HXO.out HT.out).mono ?_; rintro _ w4 ⟨rfl, hb⟩))
                rename_i HCC
                obtain ⟨d0, d1, d2, d3, c0, c1, c2, c3, z1, z2⟩ := HCC
                have HW4 : Hid (Below _ _ w4) := HW.out.trans (z2.mono HW.out.size)
                have HO4 := Lib.hid (Rg.own_below HO3.out z2)
                replace hp1 := Nat.lt_of_lt_of_le hp1 z1
                replace hq1 := Nat.lt_of_lt_of_le hq1 z1
                clear z1 z2 HO3 HW
                go_wp2_with fail
                go_region_held3 (fun w' => w'.cell? (cd.add ((p - 1) * 4)) = some (.string ⟨(spOf q).lo.toArray⟩) ∧ w'.cell? ⟨(cd.add ((p - 1) * 4)).block, (cd.add ((p - 1) * 4)).off + 1, none⟩ = some (.string ⟨(spOf q).hi.toArray⟩) ∧ w'.cell? ⟨(cd.add ((p - 1) * 4)).block, (cd.add ((p - 1) * 4)).off + 2, none⟩ = some (.bool (spOf q).li) ∧ w'.cell? ⟨(cd.add ((p - 1) * 4)).block, (cd.add ((p - 1) * 4)).off + 3, none⟩ = some (.bool (spOf q).hn) ∧
                                w'.cell? (bd.add (k * 4)) = some (.string ⟨(spOf x).lo.toArray⟩) ∧ w'.cell? ⟨(bd.add (k * 4)).block, (bd.add (k * 4)).off + 1, none⟩ = some (.string ⟨(spOf x).hi.toArray⟩) ∧ w'.cell? ⟨(bd.add (k * 4)).block, (bd.add (k * 4)).off + 2, none⟩ = some (.bool (spOf x).li) ∧ w'.cell? ⟨(bd.add (k * 4)).block, (bd.add (k * 4)).off + 3, none⟩ = some (.bool (spOf x).hn) ∧ w4.heap.size ≤ w'.heap.size ∧ Below w4.heap.size w4 w')
                  (first
                    | exact ⟨d0, d1, d2, d3, c0, c1, c2, c3, Nat.le_refl _, (Below.refl _ _).drew⟩
                    | assumption
                    | (refine keepRR hp1 hq1 ?_ hb; assumption))
                  (first
                    | (go_at_call 90; refine (beyondP_any x q _ _ HXO.out HQO.out HD.out).mono ?_; rintro _ w5 ⟨rfl, hb⟩))
                rename_i HCC
                obtain ⟨d0, d1, d2, d3, c0, c1, c2, c3, z1, z2⟩ := HCC
                have HW5 : Hid (Below _ _ w5) := HW4.out.trans (z2.mono HW4.out.size)
                have HO5 := Lib.hid (Rg.own_below HO4.out z2)
                clear z1 z2 HO4 HW4
                have HO6 : Hid (ROwn w5 wA.heap.size (.slice (some cd) p cc) ((Rm.mgd Ln (S.take (k + 1))).map spOf)) := by
                  show ROwn _ _ _ _
                  rw [HMG.out]; exact HO5.out
                clear HO5 HMG
                go_wp2_with fail
                go_roundw
                case rel => exact ⟨k + 1, by omega, by go_num, HO6, HW5⟩
                case measure => simp [intOf]; omega
              · have HMG : Hid (Rm.mgd Ln (S.take (k + 1)) = O.set (p - 1) { lo := q.lo, hi := x.hi }) := HMGS.out.trans (mgS_up hpo HPL.out HQ.out HT.out HD.out)
                clear HMGS
                go_wp2_with fail
                go_region_held3 (fun w' => w'.cell? (cd.add ((p - 1) * 4)) = some (.string ⟨(spOf q).lo.toArray⟩) ∧ w'.cell? ⟨(cd.add ((p - 1) * 4)).block, (cd.add ((p - 1) * 4)).off + 1, none⟩ = some (.string ⟨(spOf q).hi.toArray⟩) ∧ w'.cell? ⟨(cd.add ((p - 1) * 4)).block, (cd.add ((p - 1) * 4)).off + 2, none⟩ = some (.bool (spOf q).li) ∧ w'.cell? ⟨(cd.add ((p - 1) * 4)).block, (cd.add ((p - 1) * 4)).off + 3, none⟩ = some (.bool (spOf q).hn) ∧
                                w'.cell? (bd.add (k * 4)) = some (.string ⟨(spOf x).lo.toArray⟩) ∧ w'.cell? ⟨(bd.add (k * 4)).block, (bd.add (k * 4)).off + 1, none⟩ = some (.string ⟨(spOf x).hi.toArray⟩) ∧ w'.cell? ⟨(bd.add (k * 4)).block, (bd.add (k * 4)).off + 2, none⟩ = some (.bool (spOf x).li) ∧ w'.cell? ⟨(bd.add (k * 4)).block, (bd.add (k * 4)).off + 3, none⟩ = some (.bool (spOf x).hn) ∧ wr.heap.size ≤ w'.heap.size ∧ Below wr.heap.size wr w')
                  (first
                    | exact ⟨d0, d1, d2, d3, c0, c1, c2, c3, Nat.le_refl _, (Below.refl _ _).drew⟩
                    | assumption
                    | (refine keepRR hp1 hq1 ?_ hb; assumption))
                  (first
                    | (go_at_call 111; refine (touchP_any q x _ _ HQO.out HXO.out HT.out).mono ?_; rintro _ w4 ⟨rfl, hb⟩))
                rename_i HCC
                obtain ⟨d0, d1, d2, d3, c0, c1, c2, c3, z1, z2⟩ := HCC
                have HW4 : Hid (Below _ _ w4) := HW.out.trans (z2.mono HW.out.size)
                have HO4 := Lib.hid (Rg.own_below HO3.out z2)
                replace hp1 := Nat.lt_of_lt_of_le hp1 z1
                replace hq1 := Nat.lt_of_lt_of_le hq1 z1
                clear z1 z2 HO3 HW
                go_wp2_with fail
                go_region_held3 (fun w' => w'.cell? (cd.add ((p - 1) * 4)) = some (.string ⟨(spOf q).lo.toArray⟩) ∧ w'.cell? ⟨(cd.add ((p - 1) * 4)).block, (cd.add ((p - 1) * 4)).off + 1, none⟩ = some (.string ⟨(spOf q).hi.toArray⟩) ∧ w'.cell? ⟨(cd.add ((p - 1) * 4)).block, (cd.add ((p - 1) * 4)).off + 2, none⟩ = some (.bool (spOf q).li) ∧ w'.cell? ⟨(cd.add ((p - 1) * 4)).block, (cd.add ((p - 1) * 4)).off + 3, none⟩ = some (.bool (spOf q).hn) ∧
                                w'.cell? (bd.add (k * 4)) = some (.string ⟨(spOf x).lo.toArray⟩) ∧ w'.cell? ⟨(bd.add (k * 4)).block, (bd.add (k * 4)).off + 1, none⟩ = some (.string ⟨(spOf x).hi.toArray⟩) ∧ w'.cell? ⟨(bd.add (k * 4)).block, (bd.add (k * 4)).off + 2, none⟩ = some (.bool (spOf x).li) ∧ w'.cell? ⟨(bd.add (k * 4)).block, (bd.add (k * 4)).off + 3, none⟩ = some (.bool (spOf x).hn) ∧ w4.heap.size ≤ w'.heap.size ∧ Below w4.heap.size w4 w')
                  (first
                    | exact ⟨d0, d1, d2, d3, c0, c1, c2, c3, Nat.le_refl _, (Below.refl _ _).drew⟩
                    | assumption
                    | (refine keepRR hp1 hq1 ?_ hb; assumption))
                  (first
                    | (go_at_call 90; refine (beyondP_any x q _ _ HXO.out HQO.out HD.out).mono ?_; rintro _ w5 ⟨rfl, hb⟩))
                rename_i HCC
                obtain ⟨d0, d1, d2, d3, c0, c1, c2, c3, z1, z2⟩ := HCC
                have HW5 : Hid (Below _ _ w5) := HW4.out.trans (z2.mono HW4.out.size)
                have HO5 := Lib.hid (Rg.own_below HO4.out z2)
                clear z1 z2 HO4 HW4
                have hpm : p - 1 < (O.map spOf).length := by rw [List.length_map]; exact hpo
                have hlq : (O.map spOf)[p - 1] = spOf q := by rw [List.getElem_map, HQ.out]
                obtain ⟨o1, f1, b1⟩ := own_st HO5.out (by rw [List.length_map]; exact HPL.out) (p - 1) 1 hpm (by omega) { spOf q with hi := (spOf x).hi } (spOf q) (.string ⟨(spOf x).hi.toArray⟩) hlq rfl
                have HO6 := Lib.hid o1
                have HB1 := Lib.hid b1
                have HW6 := Lib.hid (HW5.out.setCell (show wA.heap.size ≤ (⟨(cd.add ((p - 1) * 4)).block, (cd.add ((p - 1) * 4)).off + 1, none⟩ : Addr).block by show _ ≤ (cd.add _).block; rw [add_block]; exact b1) (.string ⟨(spOf x).hi.toArray⟩))
                have hbb : bd.block < wA.heap.size := by
                  obtain ⟨_, e, h, _⟩ := row_piece HSR.out k hks
                  cases e; exact h
                have HLQ := Lib.hid hlq
                clear o1 b1 hlq d0 d2 c0 c2
                go_upto_region 19 with fail
                have cd3 : (w5.setCell ⟨(cd.add ((p - 1) * 4)).block, (cd.add ((p - 1) * 4)).off + 1, none⟩ (.string ⟨(spOf x).hi.toArray⟩)).cell? ⟨(bd.add (k * 4)).block, (bd.add (k * 4)).off + 3, none⟩ = some (.bool (spOf x).hn) := by
                  rw [World.cell?_setCell_far _ _ _ _ (by show (cd.add _).block ≠ (bd.add _).block; rw [add_block, add_block]; have := HB1.out; omega)]; exact c3
                generalize w5.setCell ⟨(cd.add ((p - 1) * 4)).block, (cd.add ((p - 1) * 4)).off + 1, none⟩ (.string ⟨(spOf x).hi.toArray⟩) = W6 at *
                obtain ⟨_, _, e6, sr6, _⟩ := rrow_of HO6.out (show _ = p by rw [List.length_set, List.length_map]; exact HPL.out)
                cases e6
                obtain ⟨ad6, lo6, hi6, li6, hn6, had, _, _, e0, e1, e2, e3⟩ := srow_at sr6 (p - 1) (by rw [List.length_set]; exact hpm)
                obtain rfl := Option.some.inj had
                obtain ⟨o2, f2, _⟩ := own_st HO6.out (by rw [List.length_set, List.length_map]; exact HPL.out) (p - 1) 3 (by rw [List.length_set]; exact hpm) (by omega) (spOf { lo := q.lo, hi := x.hi }) { spOf q with hi := (spOf x).hi } (.bool (spOf x).hn) (List.getElem_set_self _) rfl
                have HO7 : Hid (ROwn (W6.setCell ⟨(cd.add ((p - 1) * 4)).block, (cd.add ((p - 1) * 4)).off + 3, none⟩ (.bool (spOf x).hn)) wA.heap.size (.slice (some cd) p cc) ((Rm.mgd Ln (S.take (k + 1))).map spOf)) := by
                  show ROwn _ _ _ _
                  rw [List.set_set] at o2
                  rw [HMG.out, List.map_set]; exact o2
                have HW7 := Lib.hid (HW6.out.setCell (show wA.heap.size ≤ (⟨(cd.add ((p - 1) * 4)).block, (cd.add ((p - 1) * 4)).off + 3, none⟩ : Addr).block by show _ ≤ (cd.add _).block; rw [add_block]; exact HB1.out) (.bool (spOf x).hn))
                clear o2 sr6 had e0 e1 e2 HO6 HW6 HMG f1 c1 c3 d1 d3 HO5 HW5 HLQ
                go_wp2_with fail
                go_roundw
                case rel => exact ⟨k + 1, by omega, by go_num, HO7, HW7⟩
                case measure => simp [intOf]; omega
        · obtain rfl : n = k := by omega
          have ho1 : ROwn wr wA.heap.size u7 ((Rm.mgd Ln S).map spOf) := by
            have := HO.out
            rwa [List.take_of_length_le (by rw [HSL.out]; exact Nat.le_refl _)] at this
          have HBW := Lib.hid (HB.out.1.trans (HW.out.mono HB.out.2))
          obtain ⟨O, hO⟩ : ∃ O, Rm.mgd Ln S = O := ⟨_, rfl⟩
          have hj := HJ.out
          rw [hO] at hj ho1
          obtain ⟨p, hp⟩ : ∃ p, O.length = p := ⟨_, rfl⟩
          obtain ⟨C, cc, rfl, osrow, _, hcc, hcm, hcb⟩ := rrow_of ho1 (show (O.map spOf).length = p by rw [List.length_map]; exact hp)
          have HCB : Hid (∀ a, C = some a → w.heap.size ≤ a.block) := fun a ha => Nat.le_trans HB.out.2 (hcb a ha)
          have HJJ := Lib.hid hj
          have HOS := Lib.hid osrow
          have HP := Lib.hid hp
          clear hO hj ho1 osrow hcb HO HW HB HJ hp
          by_cases h64 : 64 < p
          · have hRl : R.length = 64 := by rw [← HJJ.out, List.length_map, List.length_take, HP.out]; omega
            have HRL := Lib.hid hRl
            have rx : ∀ W : World, (Instr.sliceAt 36 (.slice C p cc) none (some (.int .i64 64)) none).run Tryz.prog W = .ok (.slice C 64 cc) W := rX_run C p cc 64 (by omega) hcc hcm
            have g0 : decide ((64 : Int) < (p : Int)) = true := decide_eq_true (by omega)
            have g1 : decide (64 < p) = true := decide_eq_true h64
            clear hRl
            go_wp2_with fail
            go_ret
            refine ⟨⟨C, cc, by rw [HRL.out]; rfl, ?_, by rw [HRL.out]; omega, HCB.out⟩, HBW.out⟩
            rw [← HJJ.out, List.map_take]
            exact srow_take HOS.out 64
          · have hRl : R.length = p := by rw [← HJJ.out, List.length_map, List.length_take, HP.out]; omega
            have HRL := Lib.hid hRl
            have g0 : decide ((64 : Int) < (p : Int)) = false := decide_eq_false (by omega)
            have g1 : decide (64 < p) = false := decide_eq_false h64
            clear hRl
            go_wp2_with fail
            go_ret
            refine ⟨⟨C, cc, by rw [HRL.out]; rfl, ?_, by rw [HRL.out]; exact hcc, HCB.out⟩, HBW.out⟩
            rw [← HJJ.out, List.map_take]
            exact srow_take HOS.out 64
end Go.Proofs.YtkdildgdodnbbaaGreatDoor

/- The reference's And, walked. -/
import Derived.Test.YtkdildgdodnbbaaGreatDoorJg
namespace Go.Proofs.YtkdildgdodnbbaaGreatDoor.Rm
section
variable {K : Type} (L : Line K)
theorem pairs_snoc (a b : List (P K)) (k : Nat) (h : k < a.length) : pairs L (a.take (k + 1)) b = pairs L (a.take k) b ++ (b.map (meet L a[k])).filter (ok L) := by
  unfold pairs
  rw [List.take_succ_eq_append_getElem h, List.flatMap_append]; simp
theorem met_snoc (x : P K) (b : List (P K)) (j : Nat) (h : j < b.length) : ((b.take (j + 1)).map (meet L x)).filter (ok L) = ((b.take j).map (meet L x)).filter (ok L) ++ (if ok L (meet L x b[j]) then [meet L x b[j]] else []) := by
  rw [List.take_succ_eq_append_getElem h, List.map_append, List.filter_append]
  congr 1
  rw [List.map_singleton, List.filter_cons]; split <;> simp
end
end Go.Proofs.YtkdildgdodnbbaaGreatDoor.Rm
namespace Go.Proofs.YtkdildgdodnbbaaGreatDoor
open Go.RowKit Rs
attribute [local go_sem ↓] Go.wp_at_zero Go.wp_at_succ

/-- A Span's own block. -/
def BxS (B : Nat) (T : TypeId) (s : Sp) (w : World) : Prop := w.heap[B]? = some (.cells #[.string ⟨s.lo.toArray⟩, .string ⟨s.hi.toArray⟩, .bool s.li, .bool s.hn] T (0, 0))
section
variable {B : Nat} {T : TypeId} {s : Sp} {w w' : World}
theorem bx_new (w : World) (T : TypeId) (s : Sp) : BxS w.heap.size T s (w.alloc (.cells #[.string ⟨s.lo.toArray⟩, .string ⟨s.hi.toArray⟩, .bool s.li, .bool s.hn] T)) := heap_alloc_new w _
theorem bx_cells (h : BxS B T s w) : w.cell? ⟨B, 0, none⟩ = some (.string ⟨s.lo.toArray⟩) ∧ w.cell? ⟨B, 1, none⟩ = some (.string ⟨s.hi.toArray⟩) ∧ w.cell? ⟨B, 2, none⟩ = some (.bool s.li) ∧ w.cell? ⟨B, 3, none⟩ = some (.bool s.hn) ∧ ∀ j, w.frozen? ⟨B, j, none⟩ = false :=
  ⟨cell_of_row w B 0 _ T (0, 0) h, cell_of_row w B 1 _ T (0, 0) h, cell_of_row w B 2 _ T (0, 0) h, cell_of_row w B 3 _ T (0, 0) h, fun j => frozen_of_row w B j _ T h⟩
theorem bx_below (h : BxS B T s w) (hB : B < w.heap.size) (hb : Below w.heap.size w w') : BxS B T s w' := by unfold BxS; rw [hb.block B hB]; exact h
theorem bx_set0 (h : BxS B T s w) (v : List UInt8) : BxS B T { s with lo := v } (w.setCell ⟨B, 0, none⟩ (.string ⟨v.toArray⟩)) := by unfold BxS; rw [heap_setCell_same w B 0 _ T _ h]; rfl
theorem bx_set1 (h : BxS B T s w) (v : List UInt8) : BxS B T { s with hi := v } (w.setCell ⟨B, 1, none⟩ (.string ⟨v.toArray⟩)) := by unfold BxS; rw [heap_setCell_same w B 1 _ T _ h]; rfl
theorem bx_set2 (h : BxS B T s w) (v : Bool) : BxS B T { s with li := v } (w.setCell ⟨B, 2, none⟩ (.bool v)) := by unfold BxS; rw [heap_setCell_same w B 2 _ T _ h]; rfl
theorem bx_set3 (h : BxS B T s w) (v : Bool) : BxS B T { s with hn := v } (w.setCell ⟨B, 3, none⟩ (.bool v)) := by unfold BxS; rw [heap_setCell_same w B 3 _ T _ h]; rfl
end
theorem y_at {w W : World} {bd : Addr} {b : List (Rm.P Cut)} {j : Nat} (h : SRow w (some bd) (b.map spOf)) (hj : j < b.length) (y : Rm.P Cut) (hy : b[j] = y) (hb : Below w.heap.size w W) : At4 W (bd.add (j * 4)) (spOf y).lo (spOf y).hi (spOf y).li (spOf y).hn := by
  obtain ⟨ad, e, _, hc⟩ := row_piece (srow_below h hb) j hj
  cases e; rw [hy] at hc; exact hc
theorem keepBX {W u u' : World} {B : Nat} {T : TypeId} {s : Sp} {q : Addr} {x0 x1 x2 x3 y0 y1 y2 y3 : Value} (hB : B < W.heap.size) (hq : q.block < W.heap.size)
    (h : u.cell? ⟨B, 0, none⟩ = some x0 ∧ u.cell? ⟨B, 1, none⟩ = some x1 ∧ u.cell? ⟨B, 2, none⟩ = some x2 ∧ u.cell? ⟨B, 3, none⟩ = some x3 ∧ u.cell? q = some y0 ∧ u.cell? ⟨q.block, q.off + 1, none⟩ = some y1 ∧ u.cell? ⟨q.block, q.off + 2, none⟩ = some y2 ∧ u.cell? ⟨q.block, q.off + 3, none⟩ = some y3 ∧ BxS B T s u ∧ W.heap.size ≤ u.heap.size ∧ Below W.heap.size W u) (hb : Below u.heap.size u u') :
    u'.cell? ⟨B, 0, none⟩ = some x0 ∧ u'.cell? ⟨B, 1, none⟩ = some x1 ∧ u'.cell? ⟨B, 2, none⟩ = some x2 ∧ u'.cell? ⟨B, 3, none⟩ = some x3 ∧ u'.cell? q = some y0 ∧ u'.cell? ⟨q.block, q.off + 1, none⟩ = some y1 ∧ u'.cell? ⟨q.block, q.off + 2, none⟩ = some y2 ∧ u'.cell? ⟨q.block, q.off + 3, none⟩ = some y3 ∧ BxS B T s u' ∧ W.heap.size ≤ u'.heap.size ∧ Below W.heap.size W u' := by
  obtain ⟨h0, h1, h2, h3, h4, h5, h6, h7, h10, h8, h9⟩ := h
  have e : ∀ a : Addr, a.block < W.heap.size → u'.cell? a = u.cell? a := fun a ha => hb.cell (by omega)
  refine ⟨?_, ?_, ?_, ?_, ?_, ?_, ?_, ?_, bx_below h10 (by omega) hb, Nat.le_trans h8 hb.size, h9.trans (hb.mono h8)⟩
  · rw [e ⟨B, 0, none⟩ hB]; exact h0
  · rw [e ⟨B, 1, none⟩ hB]; exact h1
  · rw [e ⟨B, 2, none⟩ hB]; exact h2
  · rw [e ⟨B, 3, none⟩ hB]; exact h3
  · rw [e q hq]; exact h4
  · rw [e ⟨q.block, q.off + 1, none⟩ hq]; exact h5
  · rw [e ⟨q.block, q.off + 2, none⟩ hq]; exact h6
  · rw [e ⟨q.block, q.off + 3, none⟩ hq]; exact h7
set_option maxRecDepth 100000 in
set_option maxHeartbeats 12800000 in
theorem refAnd_any (A B : Option Addr) (n m ca cb : Nat) (a b : List (Rm.P Cut)) (w : World) (hn : a.length = n) (hm : b.length = m) (ha : SRow w A (a.map spOf)) (hb : SRow w B (b.map spOf)) (ga : ∀ p ∈ a, Ok2 p) (gb : ∀ p ∈ b, Ok2 p) (hl : n ≤ 64 ∧ m ≤ 64) :
    Calls Tryz.prog 69 #[.slice A n ca, .slice B m cb] w (SpansRet w ((andR a b).map spOf)) := by
  obtain ⟨hl1, hl2⟩ := hl
  have HA := Lib.hid ha
  have HB := Lib.hid hb
  have GA := Lib.hid ga
  have GB := Lib.hid gb
  have HN := Lib.hid hn
  have HM := Lib.hid hm
  obtain ⟨R, hR⟩ : ∃ R, (andR a b).map spOf = R := ⟨_, rfl⟩
  rw [hR]
  have HR : Hid (((Rm.joinK Ln (Rm.pairs Ln a b)).take 64).map spOf = R) := hR
  clear ha hb ga gb hn hm hR
  go_enter Tryz.func69, Tryz.ntmps69
  go_wp2_with fail
  go_loopw [5, 6] (fun v i wr => ∃ (k : Nat) (out : List (Rm.P Cut)), k ≤ n ∧ i = .int .i64 k ∧ Hid (out = Rm.pairs Ln (a.take k) b) ∧ out.length ≤ k * 64 ∧ Hid (∀ p ∈ out, Ok2 p) ∧ Hid (ROwn wr w.heap.size v (out.map spOf)) ∧ Hid (Below w.heap.size w wr)) (fun _ i _ => n - (intOf i).toNat)
  case atStart => exact ⟨0, [], Nat.zero_le _, rfl, rfl, by simp, fun p hp => (by cases hp), Rg.own_nil _ _ _, Below.refl _ _⟩
  case round =>
    obtain ⟨k, out0, hk, rfl, HE, hlen0, HOK0, HO, HBL⟩ := hrel
    by_cases hlt : k < n
    · have hka : k < a.length := by rw [HN.out]; exact hlt
      obtain ⟨x, hx⟩ : ∃ x, a[k] = x := ⟨_, rfl⟩
      have HXO : Hid (Ok2 x) := by rw [← hx]; exact GA.out _ (List.getElem_mem hka)
      have hps := Rm.pairs_snoc Ln a b k hka
      rw [hx, ← HE.out] at hps
      have HPS := Lib.hid hps
      have HX := Lib.hid hx
      clear hx hps HE
      go_wp2_with fail
      go_loopw [5, 7] (fun v i wr => ∃ (j : Nat) (out : List (Rm.P Cut)), j ≤ m ∧ i = .int .i64 j ∧ Hid (out = out0 ++ ((b.take j).map (Rm.meet Ln x)).filter (Rm.ok Ln)) ∧ out.length ≤ k * 64 + j ∧ Hid (∀ p ∈ out, Ok2 p) ∧ Hid (ROwn wr w.heap.size v (out.map spOf)) ∧ Hid (Below w.heap.size w wr)) (fun _ i _ => m - (intOf i).toNat)
      case atStart => exact ⟨0, out0, Nat.zero_le _, rfl, by show _ = _; simp, by omega, HOK0, HO, HBL⟩
      case round =>
        clear HO HBL HOK0
        obtain ⟨j, out, hj, rfl, HE, hlen, HOK, HO, HBL⟩ := hrel
        by_cases hlj : j < m
        · have hjb : j < b.length := by rw [HM.out]; exact hlj
          obtain ⟨y, hy⟩ : ∃ y, b[j] = y := ⟨_, rfl⟩
          have HYO : Hid (Ok2 y) := by rw [← hy]; exact GB.out _ (List.getElem_mem hjb)
          have hms := Rm.met_snoc Ln x b j hjb
          rw [hy] at hms
          have HMS := Lib.hid hms
          obtain ⟨ad, rfl, hal, c0, c1, c2, c3⟩ := row_piece (srow_below HA.out HBL.out) k hka
          obtain ⟨bd, rfl, hbl, _⟩ := row_piece (srow_below HB.out HBL.out) j hjb
          rw [HX.out] at c0 c1 c2 c3
          have HROWB := Lib.hid (srow_below HB.out HBL.out)
          have HW1 : Hid (Below wr.heap.size wr (wr.alloc (.cells #[.string ⟨(spOf x).lo.toArray⟩, .string ⟨(spOf x).hi.toArray⟩, .bool (spOf x).li, .bool (spOf x).hn] 90))) := (Below.refl _ _).alloc (Nat.le_refl _) _
          have HBX := Lib.hid (bx_new wr 90 (spOf x))
          have hB1 : wr.heap.size < (wr.alloc (.cells #[.string ⟨(spOf x).lo.toArray⟩, .string ⟨(spOf x).hi.toArray⟩, .bool (spOf x).li, .bool (spOf x).hn] 90)).heap.size := by simp
          have hq1 : (bd.add (j * 4)).block < (wr.alloc (.cells #[.string ⟨(spOf x).lo.toArray⟩, .string ⟨(spOf x).hi.toArray⟩, .bool (spOf x).li, .bool (spOf x).hn] 90)).heap.size := by rw [add_block]; simp; omega
          obtain ⟨e0, e1, e2, e3⟩ := y_at HROWB.out hjb y hy HW1.out
          obtain ⟨k0, k1, k2, k3, _⟩ := bx_cells HBX.out
          clear hms
          go_wp2_with fail
          generalize wr.alloc (.cells #[.string ⟨(spOf x).lo.toArray⟩, .string ⟨(spOf x).hi.toArray⟩, .bool (spOf x).li, .bool (spOf x).hn] 90) = W1 at *
          clear c0 c1 c2 c3
          cases hb1 : Rm.lt Ln x.lo y.lo
          all_goals
            have HL1 := Lib.hid hb1
            clear hb1
          · obtain ⟨x1, hx1⟩ : ∃ z : Rm.P Cut, z = x := ⟨_, rfl⟩
            have HX1H : Hid (x1.hi = x.hi) := by rw [hx1]; exact rfl
            have HX1L : Hid (x1.lo = if Rm.lt Ln x.lo y.lo then y.lo else x.lo) := by show _ = _; rw [hx1, HL1.out]; rfl
            have HX1O : Hid (Ok2 x1) := by rw [hx1]; exact HXO.out
            go_wp2_with fail
            go_region_held3 (fun w' => w'.cell? ⟨wr.heap.size, 0, none⟩ = some (.string ⟨(spOf x).lo.toArray⟩) ∧ w'.cell? ⟨wr.heap.size, 1, none⟩ = some (.string ⟨(spOf x).hi.toArray⟩) ∧ w'.cell? ⟨wr.heap.size, 2, none⟩ = some (.bool (spOf x).li) ∧ w'.cell? ⟨wr.heap.size, 3, none⟩ = some (.bool (spOf x).hn) ∧
                w'.cell? (bd.add (j * 4)) = some (.string ⟨(spOf y).lo.toArray⟩) ∧ w'.cell? ⟨(bd.add (j * 4)).block, (bd.add (j * 4)).off + 1, none⟩ = some (.string ⟨(spOf y).hi.toArray⟩) ∧ w'.cell? ⟨(bd.add (j * 4)).block, (bd.add (j * 4)).off + 2, none⟩ = some (.bool (spOf y).li) ∧ w'.cell? ⟨(bd.add (j * 4)).block, (bd.add (j * 4)).off + 3, none⟩ = some (.bool (spOf y).hn) ∧ BxS wr.heap.size 90 (spOf x) w' ∧ W1.heap.size ≤ w'.heap.size ∧ Below W1.heap.size W1 w')
              (first
                | exact ⟨k0, k1, k2, k3, e0, e1, e2, e3, HBX.out, Nat.le_refl _, (Below.refl _ _).drew⟩
                | assumption
                | (refine keepBX hB1 hq1 ?_ hb; assumption))
              (first
                | (go_at_call 89; refine (lowerP_any x y _ _ HXO.out HYO.out HL1.out).mono ?_; rintro _ W4 ⟨rfl, hb⟩))
            rename_i HCC
            obtain ⟨k0, k1, k2, k3, e0, e1, e2, e3, hbx, z1, z2⟩ := HCC
            replace HBX := Lib.hid hbx
            replace hB1 := Nat.lt_of_lt_of_le hB1 z1
            replace hq1 := Nat.lt_of_lt_of_le hq1 z1
            replace HW1 : Hid (Below wr.heap.size wr W4) := HW1.out.trans (z2.mono HW1.out.size)
            clear z1 z2 hbx
            rw [← hx1] at k0 k1 k2 k3 HBX
            clear hx1
            cases hb2 : Rm.lt Ln y.hi x.hi
            all_goals
              have HL2 := Lib.hid hb2
              clear hb2
            · have HB2 : Hid (Rm.lt Ln y.hi x1.hi = false) := by show _ = _; rw [HX1H.out]; exact HL2.out
              obtain ⟨x2, hx2⟩ : ∃ z : Rm.P Cut, z = x1 := ⟨_, rfl⟩
              have HX2 : Hid (x2 = Rm.meet Ln x y) := by
                show _ = _
                rw [hx2]; unfold Rm.meet; rw [HL2.out]
                show x1 = { lo := _, hi := x.hi }
                rw [← HX1H.out, ← HX1L.out]
              have HX2O : Hid (Ok2 x2) := by rw [hx2]; exact HX1O.out
              go_wp2_with fail
              go_region_held3 (fun w' => w'.cell? ⟨wr.heap.size, 0, none⟩ = some (.string ⟨(spOf x1).lo.toArray⟩) ∧ w'.cell? ⟨wr.heap.size, 1, none⟩ = some (.string ⟨(spOf x1).hi.toArray⟩) ∧ w'.cell? ⟨wr.heap.size, 2, none⟩ = some (.bool (spOf x1).li) ∧ w'.cell? ⟨wr.heap.size, 3, none⟩ = some (.bool (spOf x1).hn) ∧
                  w'.cell? (bd.add (j * 4)) = some (.string ⟨(spOf y).lo.toArray⟩) ∧ w'.cell? ⟨(bd.add (j * 4)).block, (bd.add (j * 4)).off + 1, none⟩ = some (.string ⟨(spOf y).hi.toArray⟩) ∧ w'.cell? ⟨(bd.add (j * 4)).block, (bd.add (j * 4)).off + 2, none⟩ = some (.bool (spOf y).li) ∧ w'.cell? ⟨(bd.add (j * 4)).block, (bd.add (j * 4)).off + 3, none⟩ = some (.bool (spOf y).hn) ∧ BxS wr.heap.size 90 (spOf x1) w' ∧ W4.heap.size ≤ w'.heap.size ∧ Below W4.heap.size W4 w')
                (first
                  | exact ⟨k0, k1, k2, k3, e0, e1, e2, e3, HBX.out, Nat.le_refl _, (Below.refl _ _).drew⟩
                  | assumption
                  | (refine keepBX hB1 hq1 ?_ hb; assumption))
                (first
                  | (go_at_call 90; refine (beyondP_any x1 y _ _ HX1O.out HYO.out HB2.out).mono ?_; rintro _ w5 ⟨rfl, hb⟩))
              rename_i HCC
              obtain ⟨k0, k1, k2, k3, e0, e1, e2, e3, hbx, z1, z2⟩ := HCC
              replace HBX := Lib.hid hbx
              replace hB1 := Nat.lt_of_lt_of_le hB1 z1
              replace hq1 := Nat.lt_of_lt_of_le hq1 z1
              replace HW1 : Hid (Below wr.heap.size wr w5) := HW1.out.trans (z2.mono HW1.out.size)
              clear z1 z2 hbx
              rw [← hx2] at k0 k1 k2 k3 HBX
              clear hx2
              obtain ⟨q, hq⟩ : ∃ q, Rm.ok Ln x2 = q := ⟨_, rfl⟩
              obtain ⟨g, hg⟩ : ∃ g : Int, (if q then 0 else 7) = g := ⟨_, rfl⟩
              have HSP : Hid (span (spOf x2).lo (spOf x2).hi (spOf x2).li (spOf x2).hn = g) := by
                show (spOf x2).err = g
                rw [spOf_err HX2O.out, hq]; exact hg
              have hme := HMS.out
              rw [← HX2.out, hq] at hme
              have HME := Lib.hid hme
              clear hme hq
              go_wp2_with fail
              refine (spanAt_any _ _ _ _ g _ HSP.out).mono ?_
              rintro _ w8 ⟨rfl, hb⟩
              replace HW1 : Hid (Below wr.heap.size wr w8) := HW1.out.trans (hb.mono HW1.out.size)
              replace HBX := Lib.hid (bx_below HBX.out hB1 hb)
              clear hb hB1 hq1 k0 k1 k2 k3 e0 e1 e2 e3
              have HO2 := Lib.hid (Rg.own_below HO.out HW1.out)
              have HBL2 := Lib.hid (HBL.out.trans (HW1.out.mono HBL.out.size))
              obtain ⟨k0, k1, k2, k3, _⟩ := bx_cells HBX.out
              cases q
              · obtain rfl : (7 : Int) = g := hg
                have HE2 : Hid (out = out0 ++ ((b.take (j + 1)).map (Rm.meet Ln x)).filter (Rm.ok Ln)) := by show _ = _; rw [HME.out, HE.out]; simp
                clear HE HO HW1 HBX
                go_wp2_with fail
                go_roundw
                case rel => exact ⟨j + 1, out, by omega, by go_num, HE2, by omega, HOK, HO2, HBL2⟩
                case measure => simp [intOf]; omega
              · obtain rfl : (0 : Int) = g := hg
                have HE2 : Hid (out ++ [x2] = out0 ++ ((b.take (j + 1)).map (Rm.meet Ln x)).filter (Rm.ok Ln)) := by show _ = _; rw [HME.out, HE.out]; simp
                have HOK2 : Hid (∀ p ∈ out ++ [x2], Ok2 p) := fun p hp => by
                  rcases List.mem_append.1 hp with h | h
                  · exact HOK.out p h
                  · rw [List.mem_singleton.1 h]; exact HX2O.out
                go_wp2_with (at_builtin; refine Rg.wpList_app sliceR rfl (.tmp 64) (.tmp 66) rfl w.heap.size _ (out.map spOf) [spOf x2] rfl (Rg.own_below HO2.out ((Below.refl _ _).alloc (Nat.le_refl _) _)) _ _ rfl (Rg.news_new w8 _ _ _ (by rfl)) (Nat.zero_lt_succ _) ?s2 ?b2 ?_)
                case s2 => rw [List.length_map]; show _ + 1 ≤ _; omega
                case b2 => have := HBL2.out.size; simp; omega
                intro v6 W6 ho6 hg6 hz6
                have HO6 : Hid (ROwn W6 w.heap.size v6 ((out ++ [x2]).map spOf)) := by
                  show ROwn _ _ _ _
                  rw [List.map_append]; exact ho6
                have HB6 : Hid (Below w.heap.size w W6) := by
                  have h1 := HBL2.out.size
                  exact (HBL2.out.alloc h1 _).trans (Rg.grown_below (Rg.own_below HO2.out ((Below.refl _ _).alloc (Nat.le_refl _) _)) (by simp; omega) hg6)
                have hl7 : (out ++ [x2]).length ≤ k * 64 + (j + 1) := by rw [List.length_append]; show _ + 1 ≤ _; omega
                generalize out ++ [x2] = out2 at *
                clear ho6 hg6 hz6 HO HO2 HBL2 HW1 HE HME k0 k1 k2 k3
                go_wp2_with fail
                go_roundw
                case rel => exact ⟨j + 1, out2, by omega, by go_num, HE2, hl7, HOK2, HO6, HB6⟩
                case measure => simp [intOf]; omega
            · have HB2 : Hid (Rm.lt Ln y.hi x1.hi = true) := by show _ = _; rw [HX1H.out]; exact HL2.out
              obtain ⟨x2, hx2⟩ : ∃ z : Rm.P Cut, z = { lo := x1.lo, hi := y.hi } := ⟨_, rfl⟩
              have HX2 : Hid (x2 = Rm.meet Ln x y) := by
                show _ = _
                rw [hx2]; unfold Rm.meet; rw [HL2.out, HX1L.out]; rfl
              have HX2O : Hid (Ok2 x2) := by rw [hx2]; exact ⟨HX1O.out.1, HYO.out.2⟩
              go_wp2_with fail
              go_region_held3 (fun w' => w'.cell? ⟨wr.heap.size, 0, none⟩ = some (.string ⟨(spOf x1).lo.toArray⟩) ∧ w'.cell? ⟨wr.heap.size, 1, none⟩ = some (.string ⟨(spOf x1).hi.toArray⟩) ∧ w'.cell? ⟨wr.heap.size, 2, none⟩ = some (.bool (spOf x1).li) ∧ w'.cell? ⟨wr.heap.size, 3, none⟩ = some (.bool (spOf x1).hn) ∧
                  w'.cell? (bd.add (j * 4)) = some (.string ⟨(spOf y).lo.toArray⟩) ∧ w'.cell? ⟨(bd.add (j * 4)).block, (bd.add (j * 4)).off + 1, none⟩ = some (.string ⟨(spOf y).hi.toArray⟩) ∧ w'.cell? ⟨(bd.add (j * 4)).block, (bd.add (j * 4)).off + 2, none⟩ = some (.bool (spOf y).li) ∧ w'.cell? ⟨(bd.add (j * 4)).block, (bd.add (j * 4)).off + 3, none⟩ = some (.bool (spOf y).hn) ∧ BxS wr.heap.size 90 (spOf x1) w' ∧ W4.heap.size ≤ w'.heap.size ∧ Below W4.heap.size W4 w')
                (first
                  | exact ⟨k0, k1, k2, k3, e0, e1, e2, e3, HBX.out, Nat.le_refl _, (Below.refl _ _).drew⟩
                  | assumption
                  | (refine keepBX hB1 hq1 ?_ hb; assumption))
                (first
                  | (go_at_call 90; refine (beyondP_any x1 y _ _ HX1O.out HYO.out HB2.out).mono ?_; rintro _ w5 ⟨rfl, hb⟩))
              rename_i HCC
              obtain ⟨k0, k1, k2, k3, e0, e1, e2, e3, hbx, z1, z2⟩ := HCC
              replace HBX := Lib.hid hbx
              replace hB1 := Nat.lt_of_lt_of_le hB1 z1
              replace hq1 := Nat.lt_of_lt_of_le hq1 z1
              replace HW1 : Hid (Below wr.heap.size wr w5) := HW1.out.trans (z2.mono HW1.out.size)
              clear z1 z2 hbx
              have f1 := (bx_cells HBX.out).2.2.2.2 1
              go_upto_region 14 with fail
              replace HBX := Lib.hid (bx_set1 HBX.out (spOf y).hi)
              replace HW1 := Lib.hid (HW1.out.setCell (p := ⟨wr.heap.size, 1, none⟩) (Nat.le_refl _) (.string ⟨(spOf y).hi.toArray⟩))
              replace hB1 : wr.heap.size < (w5.setCell ⟨wr.heap.size, 1, none⟩ (.string ⟨(spOf y).hi.toArray⟩)).heap.size := by simpa using hB1
              replace hq1 : (bd.add (j * 4)).block < (w5.setCell ⟨wr.heap.size, 1, none⟩ (.string ⟨(spOf y).hi.toArray⟩)).heap.size := by simpa using hq1
              generalize w5.setCell ⟨wr.heap.size, 1, none⟩ (.string ⟨(spOf y).hi.toArray⟩) = W6 at *
              clear k0 k1 k2 k3 e0 e1 e2 e3 f1
              obtain ⟨k0, k1, k2, k3, kf⟩ := bx_cells HBX.out
              have f2 := kf 3
              obtain ⟨e0, e1, e2, e3⟩ := y_at HROWB.out hjb y hy HW1.out
              clear kf
              go_upto_region 15 with fail
              replace HBX := Lib.hid (bx_set3 HBX.out (spOf y).hn)
              replace HW1 := Lib.hid (HW1.out.setCell (p := ⟨wr.heap.size, 3, none⟩) (Nat.le_refl _) (.bool (spOf y).hn))
              replace hB1 : wr.heap.size < (W6.setCell ⟨wr.heap.size, 3, none⟩ (.bool (spOf y).hn)).heap.size := by simpa using hB1
              replace hq1 : (bd.add (j * 4)).block < (W6.setCell ⟨wr.heap.size, 3, none⟩ (.bool (spOf y).hn)).heap.size := by simpa using hq1
              generalize W6.setCell ⟨wr.heap.size, 3, none⟩ (.bool (spOf y).hn) = W7 at *
              clear k0 k1 k2 k3 e0 e1 e2 e3 f2
              obtain ⟨k0, k1, k2, k3, _⟩ := bx_cells HBX.out
              obtain ⟨e0, e1, e2, e3⟩ := y_at HROWB.out hjb y hy HW1.out
              replace HBX : Hid (BxS wr.heap.size 90 (spOf x2) W7) := by rw [hx2]; exact HBX.out
              clear k0 k1 k2 k3
              obtain ⟨k0, k1, k2, k3, _⟩ := bx_cells HBX.out
              clear hx2
              obtain ⟨q, hq⟩ : ∃ q, Rm.ok Ln x2 = q := ⟨_, rfl⟩
              obtain ⟨g, hg⟩ : ∃ g : Int, (if q then 0 else 7) = g := ⟨_, rfl⟩
              have HSP : Hid (span (spOf x2).lo (spOf x2).hi (spOf x2).li (spOf x2).hn = g) := by
                show (spOf x2).err = g
                rw [spOf_err HX2O.out, hq]; exact hg
              have hme := HMS.out
              rw [← HX2.out, hq] at hme
              have HME := Lib.hid hme
              clear hme hq
              go_wp2_with fail
              refine (spanAt_any _ _ _ _ g _ HSP.out).mono ?_
              rintro _ w8 ⟨rfl, hb⟩
              replace HW1 : Hid (Below wr.heap.size wr w8) := HW1.out.trans (hb.mono HW1.out.size)
              replace HBX := Lib.hid (bx_below HBX.out hB1 hb)
              clear hb hB1 hq1 k0 k1 k2 k3 e0 e1 e2 e3
              have HO2 := Lib.hid (Rg.own_below HO.out HW1.out)
              have HBL2 := Lib.hid (HBL.out.trans (HW1.out.mono HBL.out.size))
              obtain ⟨k0, k1, k2, k3, _⟩ := bx_cells HBX.out
              cases q
              · obtain rfl : (7 : Int) = g := hg
                have HE2 : Hid (out = out0 ++ ((b.take (j + 1)).map (Rm.meet Ln x)).filter (Rm.ok Ln)) := by show _ = _; rw [HME.out, HE.out]; simp
                clear HE HO HW1 HBX
                go_wp2_with fail
                go_roundw
                case rel => exact ⟨j + 1, out, by omega, by go_num, HE2, by omega, HOK, HO2, HBL2⟩
                case measure => simp [intOf]; omega
              · obtain rfl : (0 : Int) = g := hg
                have HE2 : Hid (out ++ [x2] = out0 ++ ((b.take (j + 1)).map (Rm.meet Ln x)).filter (Rm.ok Ln)) := by show _ = _; rw [HME.out, HE.out]; simp
                have HOK2 : Hid (∀ p ∈ out ++ [x2], Ok2 p) := fun p hp => by
                  rcases List.mem_append.1 hp with h | h
                  · exact HOK.out p h
                  · rw [List.mem_singleton.1 h]; exact HX2O.out
                go_wp2_with (at_builtin; refine Rg.wpList_app sliceR rfl (.tmp 64) (.tmp 66) rfl w.heap.size _ (out.map spOf) [spOf x2] rfl (Rg.own_below HO2.out ((Below.refl _ _).alloc (Nat.le_refl _) _)) _ _ rfl (Rg.news_new w8 _ _ _ (by rfl)) (Nat.zero_lt_succ _) ?s2 ?b2 ?_)
                case s2 => rw [List.length_map]; show _ + 1 ≤ _; omega
                case b2 => have := HBL2.out.size; simp; omega
                intro v6 W6 ho6 hg6 hz6
                have HO6 : Hid (ROwn W6 w.heap.size v6 ((out ++ [x2]).map spOf)) := by
                  show ROwn _ _ _ _
                  rw [List.map_append]; exact ho6
                have HB6 : Hid (Below w.heap.size w W6) := by
                  have h1 := HBL2.out.size
                  exact (HBL2.out.alloc h1 _).trans (Rg.grown_below (Rg.own_below HO2.out ((Below.refl _ _).alloc (Nat.le_refl _) _)) (by simp; omega) hg6)
                have hl7 : (out ++ [x2]).length ≤ k * 64 + (j + 1) := by rw [List.length_append]; show _ + 1 ≤ _; omega
                generalize out ++ [x2] = out2 at *
                clear ho6 hg6 hz6 HO HO2 HBL2 HW1 HE HME k0 k1 k2 k3
                go_wp2_with fail
                go_roundw
                case rel => exact ⟨j + 1, out2, by omega, by go_num, HE2, hl7, HOK2, HO6, HB6⟩
                case measure => simp [intOf]; omega
          · obtain ⟨x1, hx1⟩ : ∃ z : Rm.P Cut, z = { lo := y.lo, hi := x.hi } := ⟨_, rfl⟩
            have HX1H : Hid (x1.hi = x.hi) := by rw [hx1]; exact rfl
            have HX1L : Hid (x1.lo = if Rm.lt Ln x.lo y.lo then y.lo else x.lo) := by show _ = _; rw [hx1, HL1.out]; rfl
            have HX1O : Hid (Ok2 x1) := by rw [hx1]; exact ⟨HYO.out.1, HXO.out.2⟩
            go_wp2_with fail
            go_region_held3 (fun w' => w'.cell? ⟨wr.heap.size, 0, none⟩ = some (.string ⟨(spOf x).lo.toArray⟩) ∧ w'.cell? ⟨wr.heap.size, 1, none⟩ = some (.string ⟨(spOf x).hi.toArray⟩) ∧ w'.cell? ⟨wr.heap.size, 2, none⟩ = some (.bool (spOf x).li) ∧ w'.cell? ⟨wr.heap.size, 3, none⟩ = some (.bool (spOf x).hn) ∧
                w'.cell? (bd.add (j * 4)) = some (.string ⟨(spOf y).lo.toArray⟩) ∧ w'.cell? ⟨(bd.add (j * 4)).block, (bd.add (j * 4)).off + 1, none⟩ = some (.string ⟨(spOf y).hi.toArray⟩) ∧ w'.cell? ⟨(bd.add (j * 4)).block, (bd.add (j * 4)).off + 2, none⟩ = some (.bool (spOf y).li) ∧ w'.cell? ⟨(bd.add (j * 4)).block, (bd.add (j * 4)).off + 3, none⟩ = some (.bool (spOf y).hn) ∧ BxS wr.heap.size 90 (spOf x) w' ∧ W1.heap.size ≤ w'.heap.size ∧ Below W1.heap.size W1 w')
              (first
                | exact ⟨k0, k1, k2, k3, e0, e1, e2, e3, HBX.out, Nat.le_refl _, (Below.refl _ _).drew⟩
                | assumption
                | (refine keepBX hB1 hq1 ?_ hb; assumption))
              (first
                | (go_at_call 89; refine (lowerP_any x y _ _ HXO.out HYO.out HL1.out).mono ?_; rintro _ w2 ⟨rfl, hb⟩))
            rename_i HCC
            obtain ⟨k0, k1, k2, k3, e0, e1, e2, e3, hbx, z1, z2⟩ := HCC
            replace HBX := Lib.hid hbx
            replace hB1 := Nat.lt_of_lt_of_le hB1 z1
            replace hq1 := Nat.lt_of_lt_of_le hq1 z1
            replace HW1 : Hid (Below wr.heap.size wr w2) := HW1.out.trans (z2.mono HW1.out.size)
            clear z1 z2 hbx
            have f1 := (bx_cells HBX.out).2.2.2.2 0
            go_upto_region 11 with fail
            replace HBX := Lib.hid (bx_set0 HBX.out (spOf y).lo)
            replace HW1 := Lib.hid (HW1.out.setCell (p := ⟨wr.heap.size, 0, none⟩) (Nat.le_refl _) (.string ⟨(spOf y).lo.toArray⟩))
            replace hB1 : wr.heap.size < (w2.setCell ⟨wr.heap.size, 0, none⟩ (.string ⟨(spOf y).lo.toArray⟩)).heap.size := by simpa using hB1
            replace hq1 : (bd.add (j * 4)).block < (w2.setCell ⟨wr.heap.size, 0, none⟩ (.string ⟨(spOf y).lo.toArray⟩)).heap.size := by simpa using hq1
            generalize w2.setCell ⟨wr.heap.size, 0, none⟩ (.string ⟨(spOf y).lo.toArray⟩) = W3 at *
            clear k0 k1 k2 k3 e0 e1 e2 e3 f1
            obtain ⟨k0, k1, k2, k3, kf⟩ := bx_cells HBX.out
            have f2 := kf 2
            obtain ⟨e0, e1, e2, e3⟩ := y_at HROWB.out hjb y hy HW1.out
            clear kf
            go_upto_region 12 with fail
            replace HBX := Lib.hid (bx_set2 HBX.out (spOf y).li)
            replace HW1 := Lib.hid (HW1.out.setCell (p := ⟨wr.heap.size, 2, none⟩) (Nat.le_refl _) (.bool (spOf y).li))
            replace hB1 : wr.heap.size < (W3.setCell ⟨wr.heap.size, 2, none⟩ (.bool (spOf y).li)).heap.size := by simpa using hB1
            replace hq1 : (bd.add (j * 4)).block < (W3.setCell ⟨wr.heap.size, 2, none⟩ (.bool (spOf y).li)).heap.size := by simpa using hq1
            generalize W3.setCell ⟨wr.heap.size, 2, none⟩ (.bool (spOf y).li) = W4 at *
            clear k0 k1 k2 k3 e0 e1 e2 e3 f2
            obtain ⟨k0, k1, k2, k3, _⟩ := bx_cells HBX.out
            obtain ⟨e0, e1, e2, e3⟩ := y_at HROWB.out hjb y hy HW1.out
            replace HBX : Hid (BxS wr.heap.size 90 (spOf x1) W4) := by rw [hx1]; exact HBX.out
            clear k0 k1 k2 k3
            obtain ⟨k0, k1, k2, k3, _⟩ := bx_cells HBX.out
            clear hx1
            cases hb2 : Rm.lt Ln y.hi x.hi
            all_goals
              have HL2 := Lib.hid hb2
              clear hb2
            · have HB2 : Hid (Rm.lt Ln y.hi x1.hi = false) := by show _ = _; rw [HX1H.out]; exact HL2.out
              obtain ⟨x2, hx2⟩ : ∃ z : Rm.P Cut, z = x1 := ⟨_, rfl⟩
              have HX2 : Hid (x2 = Rm.meet Ln x y) := by
                show _ = _
                rw [hx2]; unfold Rm.meet; rw [HL2.out]
                show x1 = { lo := _, hi := x.hi }
                rw [← HX1H.out, ← HX1L.out]
              have HX2O : Hid (Ok2 x2) := by rw [hx2]; exact HX1O.out
              go_wp2_with fail
              go_region_held3 (fun w' => w'.cell? ⟨wr.heap.size, 0, none⟩ = some (.string ⟨(spOf x1).lo.toArray⟩) ∧ w'.cell? ⟨wr.heap.size, 1, none⟩ = some (.string ⟨(spOf x1).hi.toArray⟩) ∧ w'.cell? ⟨wr.heap.size, 2, none⟩ = some (.bool (spOf x1).li) ∧ w'.cell? ⟨wr.heap.size, 3, none⟩ = some (.bool (spOf x1).hn) ∧
                  w'.cell? (bd.add (j * 4)) = some (.string ⟨(spOf y).lo.toArray⟩) ∧ w'.cell? ⟨(bd.add (j * 4)).block, (bd.add (j * 4)).off + 1, none⟩ = some (.string ⟨(spOf y).hi.toArray⟩) ∧ w'.cell? ⟨(bd.add (j * 4)).block, (bd.add (j * 4)).off + 2, none⟩ = some (.bool (spOf y).li) ∧ w'.cell? ⟨(bd.add (j * 4)).block, (bd.add (j * 4)).off + 3, none⟩ = some (.bool (spOf y).hn) ∧ BxS wr.heap.size 90 (spOf x1) w' ∧ W4.heap.size ≤ w'.heap.size ∧ Below W4.heap.size W4 w')
                (first
                  | exact ⟨k0, k1, k2, k3, e0, e1, e2, e3, HBX.out, Nat.le_refl _, (Below.refl _ _).drew⟩
                  | assumption
                  | (refine keepBX hB1 hq1 ?_ hb; assumption))
                (first
                  | (go_at_call 90; refine (beyondP_any x1 y _ _ HX1O.out HYO.out HB2.out).mono ?_; rintro _ w5 ⟨rfl, hb⟩))
              rename_i HCC
              obtain ⟨k0, k1, k2, k3, e0, e1, e2, e3, hbx, z1, z2⟩ := HCC
              replace HBX := Lib.hid hbx
              replace hB1 := Nat.lt_of_lt_of_le hB1 z1
              replace hq1 := Nat.lt_of_lt_of_le hq1 z1
              replace HW1 : Hid (Below wr.heap.size wr w5) := HW1.out.trans (z2.mono HW1.out.size)
              clear z1 z2 hbx
              rw [← hx2] at k0 k1 k2 k3 HBX
              clear hx2
              obtain ⟨q, hq⟩ : ∃ q, Rm.ok Ln x2 = q := ⟨_, rfl⟩
              obtain ⟨g, hg⟩ : ∃ g : Int, (if q then 0 else 7) = g := ⟨_, rfl⟩
              have HSP : Hid (span (spOf x2).lo (spOf x2).hi (spOf x2).li (spOf x2).hn = g) := by
                show (spOf x2).err = g
                rw [spOf_err HX2O.out, hq]; exact hg
              have hme := HMS.out
              rw [← HX2.out, hq] at hme
              have HME := Lib.hid hme
              clear hme hq
              go_wp2_with fail
              refine (spanAt_any _ _ _ _ g _ HSP.out).mono ?_
              rintro _ w8 ⟨rfl, hb⟩
              replace HW1 : Hid (Below wr.heap.size wr w8) := HW1.out.trans (hb.mono HW1.out.size)
              replace HBX := Lib.hid (bx_below HBX.out hB1 hb)
              clear hb hB1 hq1 k0 k1 k2 k3 e0 e1 e2 e3
              have HO2 := Lib.hid (Rg.own_below HO.out HW1.out)
              have HBL2 := Lib.hid (HBL.out.trans (HW1.out.mono HBL.out.size))
              obtain ⟨k0, k1, k2, k3, _⟩ := bx_cells HBX.out
              cases q
              · obtain rfl : (7 : Int) = g := hg
                have HE2 : Hid (out = out0 ++ ((b.take (j + 1)).map (Rm.meet Ln x)).filter (Rm.ok Ln)) := by show _ = _; rw [HME.out, HE.out]; simp
                clear HE HO HW1 HBX
                go_wp2_with fail
                go_roundw
                case rel => exact ⟨j + 1, out, by omega, by go_num, HE2, by omega, HOK, HO2, HBL2⟩
                case measure => simp [intOf]; omega
              · obtain rfl : (0 : Int) = g := hg
                have HE2 : Hid (out ++ [x2] = out0 ++ ((b.take (j + 1)).map (Rm.meet Ln x)).filter (Rm.ok Ln)) := by show _ = _; rw [HME.out, HE.out]; simp
                have HOK2 : Hid (∀ p ∈ out ++ [x2], Ok2 p) := fun p hp => by
                  rcases List.mem_append.1 hp with h | h
                  · exact HOK.out p h
                  · rw [List.mem_singleton.1 h]; exact HX2O.out
                go_wp2_with (at_builtin; refine Rg.wpList_app sliceR rfl (.tmp 64) (.tmp 66) rfl w.heap.size _ (out.map spOf) [spOf x2] rfl (Rg.own_below HO2.out ((Below.refl _ _).alloc (Nat.le_refl _) _)) _ _ rfl (Rg.news_new w8 _ _ _ (by rfl)) (Nat.zero_lt_succ _) ?s2 ?b2 ?_)
                case s2 => rw [List.length_map]; show _ + 1 ≤ _; omega
                case b2 => have := HBL2.out.size; simp; omega
                intro v6 W6 ho6 hg6 hz6
                have HO6 : Hid (ROwn W6 w.heap.size v6 ((out ++ [x2]).map spOf)) := by
                  show ROwn _ _ _ _
                  rw [List.map_append]; exact ho6
                have HB6 : Hid (Below w.heap.size w W6) := by
                  have h1 := HBL2.out.size
                  exact (HBL2.out.alloc h1 _).trans (Rg.grown_below (Rg.own_below HO2.out ((Below.refl _ _).alloc (Nat.le_refl _) _)) (by simp; omega) hg6)
                have hl7 : (out ++ [x2]).length ≤ k * 64 + (j + 1) := by rw [List.length_append]; show _ + 1 ≤ _; omega
                generalize out ++ [x2] = out2 at *
                clear ho6 hg6 hz6 HO HO2 HBL2 HW1 HE HME k0 k1 k2 k3
                go_wp2_with fail
                go_roundw
                case rel => exact ⟨j + 1, out2, by omega, by go_num, HE2, hl7, HOK2, HO6, HB6⟩
                case measure => simp [intOf]; omega
            · have HB2 : Hid (Rm.lt Ln y.hi x1.hi = true) := by show _ = _; rw [HX1H.out]; exact HL2.out
              obtain ⟨x2, hx2⟩ : ∃ z : Rm.P Cut, z = { lo := x1.lo, hi := y.hi } := ⟨_, rfl⟩
              have HX2 : Hid (x2 = Rm.meet Ln x y) := by
                show _ = _
                rw [hx2]; unfold Rm.meet; rw [HL2.out, HX1L.out]; rfl
              have HX2O : Hid (Ok2 x2) := by rw [hx2]; exact ⟨HX1O.out.1, HYO.out.2⟩
              go_wp2_with fail
              go_region_held3 (fun w' => w'.cell? ⟨wr.heap.size, 0, none⟩ = some (.string ⟨(spOf x1).lo.toArray⟩) ∧ w'.cell? ⟨wr.heap.size, 1, none⟩ = some (.string ⟨(spOf x1).hi.toArray⟩) ∧ w'.cell? ⟨wr.heap.size, 2, none⟩ = some (.bool (spOf x1).li) ∧ w'.cell? ⟨wr.heap.size, 3, none⟩ = some (.bool (spOf x1).hn) ∧
                  w'.cell? (bd.add (j * 4)) = some (.string ⟨(spOf y).lo.toArray⟩) ∧ w'.cell? ⟨(bd.add (j * 4)).block, (bd.add (j * 4)).off + 1, none⟩ = some (.string ⟨(spOf y).hi.toArray⟩) ∧ w'.cell? ⟨(bd.add (j * 4)).block, (bd.add (j * 4)).off + 2, none⟩ = some (.bool (spOf y).li) ∧ w'.cell? ⟨(bd.add (j * 4)).block, (bd.add (j * 4)).off + 3, none⟩ = some (.bool (spOf y).hn) ∧ BxS wr.heap.size 90 (spOf x1) w' ∧ W4.heap.size ≤ w'.heap.size ∧ Below W4.heap.size W4 w')
                (first
                  | exact ⟨k0, k1, k2, k3, e0, e1, e2, e3, HBX.out, Nat.le_refl _, (Below.refl _ _).drew⟩
                  | assumption
                  | (refine keepBX hB1 hq1 ?_ hb; assumption))
                (first
                  | (go_at_call 90; refine (beyondP_any x1 y _ _ HX1O.out HYO.out HB2.out).mono ?_; rintro _ w5 ⟨rfl, hb⟩))
              rename_i HCC
              obtain ⟨k0, k1, k2, k3, e0, e1, e2, e3, hbx, z1, z2⟩ := HCC
              replace HBX := Lib.hid hbx
              replace hB1 := Nat.lt_of_lt_of_le hB1 z1
              replace hq1 := Nat.lt_of_lt_of_le hq1 z1
              replace HW1 : Hid (Below wr.heap.size wr w5) := HW1.out.trans (z2.mono HW1.out.size)
              clear z1 z2 hbx
              have f1 := (bx_cells HBX.out).2.2.2.2 1
              go_upto_region 14 with fail
              replace HBX := Lib.hid (bx_set1 HBX.out (spOf y).hi)
              replace HW1 := Lib.hid (HW1.out.setCell (p := ⟨wr.heap.size, 1, none⟩) (Nat.le_refl _) (.string ⟨(spOf y).hi.toArray⟩))
              replace hB1 : wr.heap.size < (w5.setCell ⟨wr.heap.size, 1, none⟩ (.string ⟨(spOf y).hi.toArray⟩)).heap.size := by simpa using hB1
              replace hq1 : (bd.add (j * 4)).block < (w5.setCell ⟨wr.heap.size, 1, none⟩ (.string ⟨(spOf y).hi.toArray⟩)).heap.size := by simpa using hq1
              generalize w5.setCell ⟨wr.heap.size, 1, none⟩ (.string ⟨(spOf y).hi.toArray⟩) = W6 at *
              clear k0 k1 k2 k3 e0 e1 e2 e3 f1
              obtain ⟨k0, k1, k2, k3, kf⟩ := bx_cells HBX.out
              have f2 := kf 3
              obtain ⟨e0, e1, e2, e3⟩ := y_at HROWB.out hjb y hy HW1.out
              clear kf
              go_upto_region 15 with fail
              replace HBX := Lib.hid (bx_set3 HBX.out (spOf y).hn)
              replace HW1 := Lib.hid (HW1.out.setCell (p := ⟨wr.heap.size, 3, none⟩) (Nat.le_refl _) (.bool (spOf y).hn))
              replace hB1 : wr.heap.size < (W6.setCell ⟨wr.heap.size, 3, none⟩ (.bool (spOf y).hn)).heap.size := by simpa using hB1
              replace hq1 : (bd.add (j * 4)).block < (W6.setCell ⟨wr.heap.size, 3, none⟩ (.bool (spOf y).hn)).heap.size := by simpa using hq1
              generalize W6.setCell ⟨wr.heap.size, 3, none⟩ (.bool (spOf y).hn) = W7 at *
              clear k0 k1 k2 k3 e0 e1 e2 e3 f2
              obtain ⟨k0, k1, k2, k3, _⟩ := bx_cells HBX.out
              obtain ⟨e0, e1, e2, e3⟩ := y_at HROWB.out hjb y hy HW1.out
              replace HBX : Hid (BxS wr.heap.size 90 (spOf x2) W7) := by rw [hx2]; exact HBX.out
              clear k0 k1 k2 k3
              obtain ⟨k0, k1, k2, k3, _⟩ := bx_cells HBX.out
              clear hx2
              obtain ⟨q, hq⟩ : ∃ q, Rm.ok Ln x2 = q := ⟨_, rfl⟩
              obtain ⟨g, hg⟩ : ∃ g : Int, (if q then 0 else 7) = g := ⟨_, rfl⟩
              have HSP : Hid (span (spOf x2).lo (spOf x2).hi (spOf x2).li (spOf x2).hn = g) := by
                show (spOf x2).err = g
                rw [spOf_err HX2O.out, hq]; exact hg
              have hme := HMS.out
              rw [← HX2.out, hq] at hme
              have HME := Lib.hid hme
              clear hme hq
              go_wp2_with fail
              refine (spanAt_any _ _ _ _ g _ HSP.out).mono ?_
              rintro _ w8 ⟨rfl, hb⟩
              replace HW1 : Hid (Below wr.heap.size wr w8) := HW1.out.trans (hb.mono HW1.out.size)
              replace HBX := Lib.hid (bx_below HBX.out hB1 hb)
              clear hb hB1 hq1 k0 k1 k2 k3 e0 e1 e2 e3
              have HO2 := Lib.hid (Rg.own_below HO.out HW1.out)
              have HBL2 := Lib.hid (HBL.out.trans (HW1.out.mono HBL.out.size))
              obtain ⟨k0, k1, k2, k3, _⟩ := bx_cells HBX.out
              cases q
              · obtain rfl : (7 : Int) = g := hg
                have HE2 : Hid (out = out0 ++ ((b.take (j + 1)).map (Rm.meet Ln x)).filter (Rm.ok Ln)) := by show _ = _; rw [HME.out, HE.out]; simp
                clear HE HO HW1 HBX
                go_wp2_with fail
                go_roundw
                case rel => exact ⟨j + 1, out, by omega, by go_num, HE2, by omega, HOK, HO2, HBL2⟩
                case measure => simp [intOf]; omega
              · obtain rfl : (0 : Int) = g := hg
                have HE2 : Hid (out ++ [x2] = out0 ++ ((b.take (j + 1)).map (Rm.meet Ln x)).filter (Rm.ok Ln)) := by show _ = _; rw [HME.out, HE.out]; simp
                have HOK2 : Hid (∀ p ∈ out ++ [x2], Ok2 p) := fun p hp => by
                  rcases List.mem_append.1 hp with h | h
                  · exact HOK.out p h
                  · rw [List.mem_singleton.1 h]; exact HX2O.out
                go_wp2_with (at_builtin; refine Rg.wpList_app sliceR rfl (.tmp 64) (.tmp 66) rfl w.heap.size _ (out.map spOf) [spOf x2] rfl (Rg.own_below HO2.out ((Below.refl _ _).alloc (Nat.le_refl _) _)) _ _ rfl (Rg.news_new w8 _ _ _ (by rfl)) (Nat.zero_lt_succ _) ?s2 ?b2 ?_)
                case s2 => rw [List.length_map]; show _ + 1 ≤ _; omega
                case b2 => have := HBL2.out.size; simp; omega
                intro v6 W6 ho6 hg6 hz6
                have HO6 : Hid (ROwn W6 w.heap.size v6 ((out ++ [x2]).map spOf)) := by
                  show ROwn _ _ _ _
                  rw [List.map_append]; exact ho6
                have HB6 : Hid (Below w.heap.size w W6) := by
                  have h1 := HBL2.out.size
                  exact (HBL2.out.alloc h1 _).trans (Rg.grown_below (Rg.own_below HO2.out ((Below.refl _ _).alloc (Nat.le_refl _) _)) (by simp; omega) hg6)
                have hl7 : (out ++ [x2]).length ≤ k * 64 + (j + 1) := by rw [List.length_append]; show _ + 1 ≤ _; omega
                generalize out ++ [x2] = out2 at *
                clear ho6 hg6 hz6 HO HO2 HBL2 HW1 HE HME k0 k1 k2 k3
                go_wp2_with fail
                go_roundw
                case rel => exact ⟨j + 1, out2, by omega, by go_num, HE2, hl7, HOK2, HO6, HB6⟩
                case measure => simp [intOf]; omega
        · obtain rfl : m = j := by omega
          have HE2 : Hid (out = Rm.pairs Ln (a.take (k + 1)) b) := by
            show _ = _
            rw [HPS.out, HE.out, List.take_of_length_le (by rw [HM.out]; exact Nat.le_refl _)]
          have hl7 : out.length ≤ (k + 1) * 64 := by omega
          clear HE HPS
          go_wp2_with fail
          go_roundw
          case rel => exact ⟨k + 1, out, by omega, by go_num, HE2, hl7, HOK, HO, HBL⟩
          case measure => simp [intOf]; omega
    · obtain rfl : n = k := by omega
      have he : out0 = Rm.pairs Ln a b := by rw [HE.out, List.take_of_length_le (by rw [HN.out]; exact Nat.le_refl _)]
      have HRR : Hid (((Rm.joinK Ln out0).take 64).map spOf = R) := by rw [he]; exact HR.out
      obtain ⟨z, hz⟩ : ∃ z, out0.length = z := ⟨_, rfl⟩
      have HZ := Lib.hid hz
      rw [hz] at hlen0
      obtain ⟨C, d, rfl, hsr, _, _, _, _⟩ := rrow_of HO.out (show (out0.map spOf).length = z by rw [List.length_map]; exact hz)
      have HSR := Lib.hid hsr
      clear he HE HR hz hsr HO
      go_wp2_with fail
      refine (joinedR_any C z d out0 R _ HZ.out HSR.out HOK0.out (by omega) HRR.out).mono ?_
      rintro _ w1 ⟨⟨D, e, rfl, hc, hle, hbl⟩, hb⟩
      have HC := Lib.hid hc
      have HLE := Lib.hid hle
      have HBD := Lib.hid hbl
      have HB1 := Lib.hid (HBL.out.trans (hb.mono HBL.out.size))
      clear hc hle hb hbl
      go_wp2_with fail
      go_ret
      exact ⟨⟨D, e, rfl, HC.out, HLE.out, fun a ha => Nat.le_trans HBL.out.size (HBD.out a ha)⟩, HB1.out⟩
end Go.Proofs.YtkdildgdodnbbaaGreatDoor

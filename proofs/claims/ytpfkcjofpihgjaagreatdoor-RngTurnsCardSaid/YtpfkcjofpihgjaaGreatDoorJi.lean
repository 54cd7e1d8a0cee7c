/- The reference's Not, walked. -/
import Derived.Test.YtpfkcjofpihgjaaGreatDoorJh
import Derived.StillTailTactics
namespace Go.Proofs.YtpfkcjofpihgjaaGreatDoor
open Go.RowKit Rs
attribute [local go_sem ↓] Go.wp_at_zero Go.wp_at_succ

theorem lo_empty {c : Cut} (h : LoOk c) : (txt c).isEmpty = !(Rm.lt Ln .bot c) := by
  cases c with
  | bot => rfl
  | pos v a => exact (own_ne h).trans rfl
  | top => cases h
theorem hi_empty {c : Cut} (h : HiOk c) : (txt c).isEmpty = !(Rm.lt Ln c .top) := by
  cases c with
  | bot => cases h
  | pos v a => exact (own_ne h).trans rfl
  | top => rfl
theorem aft_not {c : Cut} (h : LoOk c) (h2 : (txt c).isEmpty = false) : (!loI c) = aft c := by
  cases c with
  | bot => cases h2
  | pos v a => show (!(!a)) = a; cases a <;> rfl
  | top => cases h
theorem loI_not {c : Cut} (h2 : (txt c).isEmpty = false) : (!aft c) = loI c := by
  cases c with
  | bot => cases h2
  | pos v a => rfl
  | top => cases h2
theorem loI_none {c : Cut} (h2 : (txt c).isEmpty = true) (h : HiOk c) : loI c = false := by
  cases c with
  | bot => rfl
  | pos v a => exact absurd ((own_ne h).symm.trans h2) (by decide)
  | top => rfl
theorem notF_yes (c : Cut) (p : Rm.P Cut) (t : List (Rm.P Cut)) (h : Rm.lt Ln .bot p.lo = true) : Rm.notF Ln c (p :: t) = { lo := c, hi := p.lo } :: Rm.notF Ln p.hi t := by
  show (if Rm.lt Ln .bot p.lo = true then _ else _) = _; rw [if_pos h]
theorem notF_no (c : Cut) (p : Rm.P Cut) (t : List (Rm.P Cut)) (h : Rm.lt Ln .bot p.lo = false) : Rm.notF Ln c (p :: t) = Rm.notF Ln p.hi t := by
  show (if Rm.lt Ln .bot p.lo = true then _ else _) = _; rw [h]; rfl
/-- A goal that nothing looks into. -/
structure Boxed (p : Prop) : Prop where
  out : p
theorem bx_in {p : Prop} (h : Boxed p) : p := h.out
section
variable {P : Program} {ops : Array Oper} {w : World} {Q : Act → Prop} {a : Act} {o : Oper} {rest : List Oper}
theorem bx_step (h : ∀ K : Act → Prop, (∀ a, Boxed (wpStill P ops w Q rest a) → K a) → if Region.wanted o (yielded ops a.tmps) then o.still P a w K else K (a.put o.dst undef)) : Boxed (wpStill P ops w Q (o :: rest) a) := ⟨h _ (fun _ h => h.out)⟩
theorem bx_skip (hw : Region.wanted o (yielded ops a.tmps) = false) (h : Boxed (wpStill P ops w Q rest (a.put o.dst undef))) : Boxed (wpStill P ops w Q (o :: rest) a) := ⟨by
  show (if _ then _ else _); rw [hw]; exact h.out⟩
theorem bx_nil (h : Boxed (Q a)) : Boxed (wpStill P ops w Q [] a) := ⟨h.out⟩
end
theorem bx_low {B D : Nat} {T : TypeId} {s : Sp} {w w' : World} (h : BxS B T s w) (hB : B < D) (hb : Below D w w') : BxS B T s w' := by unfold BxS; rw [hb.block B hB]; exact h
/-- What is left open behind c. -/
def opn (c : Cut) : Sp := ⟨txt c, [], loI c, false⟩
set_option maxRecDepth 100000 in
set_option maxHeartbeats 6400000 in
theorem refNot_any (A : Option Addr) (n ca : Nat) (r : List (Rm.P Cut)) (w : World) (hn : r.length = n) (hr : SRow w A (r.map spOf)) (ho : ∀ p ∈ r, Ok2 p) (hl : n ≤ 1000) :
    Calls Tryz.prog 30 #[.slice A n ca] w (SpansRet w ((notR r).map spOf)) := by
  have HA := Lib.hid hr
  have GO := Lib.hid ho
  have HN := Lib.hid hn
  obtain ⟨R, hR⟩ : ∃ R, (notR r).map spOf = R := ⟨_, rfl⟩
  rw [hR]
  have HR : Hid (((Rm.notK Ln r).take 64).map spOf = R) := hR
  clear hn hr ho hR
  go_enter Tryz.func30, Tryz.ntmps30
  go_wp2_with fail
  go_loopw [3, 5, 6] (fun v o i wr => ∃ (k : Nat) (c : Cut) (acc : List (Rm.P Cut)), k ≤ n ∧ i = .int .i64 k ∧ o = .bool (Rm.lt Ln c .top) ∧ acc.length ≤ k ∧ Hid (Rm.notK Ln r = acc ++ Rm.notF Ln c (r.drop k)) ∧ Hid (ROwn wr (w.heap.size + 1) v (acc.map spOf)) ∧ Hid (BxS w.heap.size 75 (opn c) wr) ∧ Hid (Below w.heap.size w wr) ∧ w.heap.size < wr.heap.size) (fun _ _ i _ => n - (intOf i).toNat)
  case atStart => exact ⟨0, .bot, [], Nat.zero_le _, rfl, rfl, Nat.le_refl _, rfl, Rg.own_nil _ _ _, bx_new w 75 (opn .bot), (Below.refl _ _).alloc (Nat.le_refl _) _, by simp⟩
  case round =>
    obtain ⟨k, c, acc, hk, rfl, rfl, hal, HE, HO, HBX, HBL, hB1⟩ := hrel
    by_cases hlt : k < n
    · have hlr : k < r.length := by rw [HN.out]; exact hlt
      have hdr : r.drop k = r[k] :: r.drop (k + 1) := List.drop_eq_getElem_cons hlr
      obtain ⟨p, hp⟩ : ∃ p, r[k] = p := ⟨_, rfl⟩
      have HPO : Hid (Ok2 p) := by rw [← hp]; exact GO.out _ (List.getElem_mem hlr)
      obtain ⟨ad, rfl, hbl, c0, c1, c2, c3⟩ := row_piece (srow_below HA.out HBL.out) k hlr
      rw [hp] at c0 c1 c2 c3 hdr
      have HP := Lib.hid hp
      have hee := HE.out
      rw [hdr] at hee
      have HEE := Lib.hid hee
      have HROW := Lib.hid (srow_below HA.out HBL.out)
      clear hp hdr hee HE
      obtain ⟨k0, k1, k2, k3, kf⟩ := bx_cells HBX.out
      cases e1 : (spOf p).lo.isEmpty
      · have f1 := kf 1
        go_upto_region 9 with fail
        replace HBX := Lib.hid (bx_set1 HBX.out (spOf p).lo)
        replace HO : Hid (ROwn (wr.setCell ⟨w.heap.size, 1, none⟩ (.string ⟨(spOf p).lo.toArray⟩)) (w.heap.size + 1) _ (acc.map spOf)) := ownsRow_setCell_below HO.out (a := ⟨w.heap.size, 1, none⟩) (Nat.lt_succ_self _) (.string ⟨(spOf p).lo.toArray⟩)
        replace HBL := Lib.hid (HBL.out.setCell (p := ⟨w.heap.size, 1, none⟩) (Nat.le_refl _) (.string ⟨(spOf p).lo.toArray⟩))
        replace hB1 : w.heap.size < (wr.setCell ⟨w.heap.size, 1, none⟩ (.string ⟨(spOf p).lo.toArray⟩)).heap.size := by simpa using hB1
        clear k0 k1 k2 k3 kf c0 c1 c2 c3 f1
        generalize (wr.setCell ⟨w.heap.size, 1, none⟩ (.string ⟨(spOf p).lo.toArray⟩)) = W3 at *
        obtain ⟨k0, k1, k2, k3, kf⟩ := bx_cells HBX.out
        have f3 := kf 3
        obtain ⟨ad7, had, _, c0, c1, c2, c3⟩ := row_piece (srow_below HA.out HBL.out) k hlr
        obtain rfl := Option.some.inj had
        rw [HP.out] at c0 c1 c2 c3
        clear had kf
        go_upto_region 10 with fail
        have hbx := bx_set3 HBX.out (!(spOf p).li)
        replace HBX : Hid (BxS w.heap.size 75 (spOf { lo := c, hi := p.lo }) (W3.setCell ⟨w.heap.size, 3, none⟩ (.bool (!(spOf p).li)))) := by
          have e : spOf { lo := c, hi := p.lo } = ⟨txt c, txt p.lo, loI c, !(spOf p).li⟩ := by show Sp.mk _ _ _ (aft p.lo) = _; rw [← aft_not HPO.out.1 e1]; rfl
          rw [e]; exact hbx
        replace HO : Hid (ROwn (W3.setCell ⟨w.heap.size, 3, none⟩ (.bool (!(spOf p).li))) (w.heap.size + 1) _ (acc.map spOf)) := ownsRow_setCell_below HO.out (a := ⟨w.heap.size, 3, none⟩) (Nat.lt_succ_self _) (.bool (!(spOf p).li))
        replace HBL := Lib.hid (HBL.out.setCell (p := ⟨w.heap.size, 3, none⟩) (Nat.le_refl _) (.bool (!(spOf p).li)))
        replace hB1 : w.heap.size < (W3.setCell ⟨w.heap.size, 3, none⟩ (.bool (!(spOf p).li))).heap.size := by simpa using hB1
        clear k0 k1 k2 k3 c0 c1 c2 c3 f3 hbx
        generalize (W3.setCell ⟨w.heap.size, 3, none⟩ (.bool (!(spOf p).li))) = W4 at *
        have hno := HEE.out
        rw [notF_yes c p _ (by have := lo_empty HPO.out.1; rw [show (txt p.lo).isEmpty = false from e1] at this; simpa using this)] at hno
        have hno2 : Rm.notK Ln r = (acc ++ [{ lo := c, hi := p.lo }]) ++ Rm.notF Ln p.hi (r.drop (k + 1)) := by rw [hno]; simp
        obtain ⟨z, hz⟩ : ∃ z : Rm.P Cut, z = { lo := c, hi := p.lo } := ⟨_, rfl⟩
        rw [← hz] at HBX hno2
        clear hno hz HEE HROW
        obtain ⟨k0, k1, k2, k3, _⟩ := bx_cells HBX.out
        have HE1 := Lib.hid hno2
        clear hno2
        go_wp2_with (at_builtin; refine Rg.wpList_app sliceR rfl (.tmp 33) (.tmp 35) rfl (w.heap.size + 1) _ (acc.map spOf) [spOf z] rfl (Rg.own_below HO.out ((Below.refl _ _).alloc (Nat.le_refl _) _)) _ _ rfl (Rg.news_new W4 _ _ _ (by rfl)) (Nat.zero_lt_succ _) ?s2 ?b2 ?_)
        case s2 => rw [List.length_map]; show _ + 1 ≤ _; omega
        case b2 => simp; omega
        intro v6 W6 ho6 hg6 hz6
        have hlow : Below (w.heap.size + 1) W4 W6 := ((Below.refl _ _).alloc (by omega) _).trans (Rg.grown_below (Rg.own_below HO.out ((Below.refl _ _).alloc (Nat.le_refl _) _)) (by simp; omega) hg6)
        have HO6 : Hid (ROwn W6 (w.heap.size + 1) v6 ((acc ++ [z]).map spOf)) := by
          show ROwn _ _ _ _
          rw [List.map_append]; exact ho6
        have HBX6 := Lib.hid (bx_low HBX.out (Nat.lt_succ_self _) hlow)
        have HBL6 : Hid (Below w.heap.size w W6) := HBL.out.trans (hlow.mono (by omega))
        have hB6 : w.heap.size < W6.heap.size := Nat.lt_of_lt_of_le hB1 hlow.size
        clear ho6 hg6 hz6 hlow HO HBX HBL hB1 k0 k1 k2 k3
        have hal2 : (acc ++ [z]).length ≤ k + 1 := by rw [List.length_append]; show _ + 1 ≤ _; omega
        obtain ⟨acc2, hacc⟩ : ∃ x, acc ++ [z] = x := ⟨_, rfl⟩
        have he3 := HE1.out
        rw [hacc] at HO6 he3 hal2
        have HE2 := Lib.hid he3
        clear hacc he3 HE1
        have HO := HO6
        have HBX := HBX6
        have HBL := HBL6
        have hB1 := hB6
        clear HO6 HBX6 HBL6 hB6
        obtain ⟨k0, k1, k2, k3, kf⟩ := bx_cells HBX.out
        obtain ⟨ad7, had, _, c0, c1, c2, c3⟩ := row_piece (srow_below HA.out HBL.out) k hlr
        obtain rfl := Option.some.inj had
        rw [HP.out] at c0 c1 c2 c3
        clear had
        cases e2 : (spOf p).hi.isEmpty
        · have hop := hi_empty HPO.out.2
          rw [show (txt p.hi).isEmpty = _ from e2] at hop
          have HOP0 := Lib.hid hop
          have HEM : Hid ((txt p.hi).isEmpty = _) := e2
          clear hop
          go_wp2_with fail
          go_still_tail 20, (by kernel_rfl)
          change wpList _ _ _ _ _ W6.drew
          have hbd : Below W6.heap.size W6 W6.drew := (Below.refl _ _).drew
          replace HBX := Lib.hid (bx_below HBX.out hB1 hbd)
          replace HO := Lib.hid (Rg.own_below HO.out hbd)
          replace HBL : Hid (Below w.heap.size w W6.drew) := HBL.out.trans (hbd.mono HBL.out.size)
          replace hB1 : w.heap.size < W6.drew.heap.size := hB1
          clear k0 k1 k2 k3 kf c0 c1 c2 c3 hbd
          generalize W6.drew = w2 at *
          obtain ⟨k0, k1, k2, k3, kf⟩ := bx_cells HBX.out
          have f0 := kf 0
          have f1 := kf 1
          have f2 := kf 2
          have f3 := kf 3
          go_upto_region 12 with fail
          have hbx := bx_set3 (bx_set2 (bx_set1 (bx_set0 HBX.out (spOf p).hi) []) (!(spOf p).hn)) false
          have hho := ownsRow_setCell_below (ownsRow_setCell_below (ownsRow_setCell_below (ownsRow_setCell_below HO.out (a := ⟨w.heap.size, 0, none⟩) (Nat.lt_succ_self _) (.string ⟨(spOf p).hi.toArray⟩)) (a := ⟨w.heap.size, 1, none⟩) (Nat.lt_succ_self _) (.string ⟨#[]⟩)) (a := ⟨w.heap.size, 2, none⟩) (Nat.lt_succ_self _) (.bool (!(spOf p).hn))) (a := ⟨w.heap.size, 3, none⟩) (Nat.lt_succ_self _) (.bool false)
          have hbl4 := (((HBL.out.setCell (p := ⟨w.heap.size, 0, none⟩) (Nat.le_refl _) (.string ⟨(spOf p).hi.toArray⟩)).setCell (p := ⟨w.heap.size, 1, none⟩) (Nat.le_refl _) (.string ⟨#[]⟩)).setCell (p := ⟨w.heap.size, 2, none⟩) (Nat.le_refl _) (.bool (!(spOf p).hn))).setCell (p := ⟨w.heap.size, 3, none⟩) (Nat.le_refl _) (.bool false)
          have HBX4 : Hid (BxS w.heap.size 75 (opn p.hi) ((((w2.setCell ⟨w.heap.size, 0, none⟩ (.string ⟨(spOf p).hi.toArray⟩)).setCell ⟨w.heap.size, 1, none⟩ (.string ⟨#[]⟩)).setCell ⟨w.heap.size, 2, none⟩ (.bool (!(spOf p).hn))).setCell ⟨w.heap.size, 3, none⟩ (.bool false))) := by
            have e : opn p.hi = ⟨(spOf p).hi, [], (!(spOf p).hn), false⟩ := by show Sp.mk (txt p.hi) _ (loI p.hi) _ = _; rw [show loI p.hi = (!(spOf p).hn) from (loI_not HEM.out).symm]; rfl
            rw [e]; exact hbx
          have HO4 : Hid (ROwn ((((w2.setCell ⟨w.heap.size, 0, none⟩ (.string ⟨(spOf p).hi.toArray⟩)).setCell ⟨w.heap.size, 1, none⟩ (.string ⟨#[]⟩)).setCell ⟨w.heap.size, 2, none⟩ (.bool (!(spOf p).hn))).setCell ⟨w.heap.size, 3, none⟩ (.bool false)) (w.heap.size + 1) _ (acc2.map spOf)) := hho
          have HBL4 : Hid (Below w.heap.size w ((((w2.setCell ⟨w.heap.size, 0, none⟩ (.string ⟨(spOf p).hi.toArray⟩)).setCell ⟨w.heap.size, 1, none⟩ (.string ⟨#[]⟩)).setCell ⟨w.heap.size, 2, none⟩ (.bool (!(spOf p).hn))).setCell ⟨w.heap.size, 3, none⟩ (.bool false))) := hbl4
          have hB4 : w.heap.size < ((((w2.setCell ⟨w.heap.size, 0, none⟩ (.string ⟨(spOf p).hi.toArray⟩)).setCell ⟨w.heap.size, 1, none⟩ (.string ⟨#[]⟩)).setCell ⟨w.heap.size, 2, none⟩ (.bool (!(spOf p).hn))).setCell ⟨w.heap.size, 3, none⟩ (.bool false)).heap.size := by simpa using hB1
          have HOP : Hid (Rm.lt Ln p.hi .top = true) := by show _ = _; have := HOP0.out; simpa using this.symm
          clear hbx hho hbl4 hB1 HBL HO HBX f0 f1 f2 f3 k0 k1 k2 k3 kf HOP0
          generalize ((((w2.setCell ⟨w.heap.size, 0, none⟩ (.string ⟨(spOf p).hi.toArray⟩)).setCell ⟨w.heap.size, 1, none⟩ (.string ⟨#[]⟩)).setCell ⟨w.heap.size, 2, none⟩ (.bool (!(spOf p).hn))).setCell ⟨w.heap.size, 3, none⟩ (.bool false)) = W7 at *
          obtain ⟨ad7, had, _, c0, c1, c2, c3⟩ := row_piece (srow_below HA.out HBL4.out) k hlr
          obtain rfl := Option.some.inj had
          rw [HP.out] at c0 c1 c2 c3
          clear had
          go_wp2_with fail
          go_roundw
          case rel => exact ⟨k + 1, p.hi, acc2, by omega, by go_num, by rw [HOP.out], by omega, HE2, HO4, HBX4, HBL4, hB4⟩
          case measure => simp [intOf]; omega
        · have hop := hi_empty HPO.out.2
          rw [show (txt p.hi).isEmpty = _ from e2] at hop
          have HOP0 := Lib.hid hop
          have HEM : Hid ((txt p.hi).isEmpty = _) := e2
          have e3 : (spOf p).hi = [] := List.isEmpty_iff.1 e2
          have HE3 : Hid (txt p.hi = []) := e3
          rw [e3] at c1
          clear e3
          clear hop e2
          go_wp2_with fail
          refine wp_region_still_tail 20 (by kernel_rfl) (by kernel_rfl) ?_
          refine bx_in ?_
          simp only [List.take_succ_cons, List.take_zero, List.drop_succ_cons, List.drop_zero]
          refine bx_step (fun K hK => ?_)
          go_simp
          refine hK _ ?_
          clear hK K
          refine bx_step (fun K hK => ?_)
          go_simp
          refine hK _ ?_
          clear hK K
          refine bx_step (fun K hK => ?_)
          go_simp
          refine hK _ ?_
          clear hK K
          refine bx_step (fun K hK => ?_)
          go_simp
          refine hK _ ?_
          clear hK K
          refine bx_step (fun K hK => ?_)
          go_simp
          refine hK _ ?_
          clear hK K
          refine bx_step (fun K hK => ?_)
          go_simp
          refine hK _ ?_
          clear hK K
          refine bx_step (fun K hK => ?_)
          go_simp
          refine hK _ ?_
          clear hK K
          refine bx_step (fun K hK => ?_)
          go_simp
          refine hK _ ?_
          clear hK K
          refine bx_step (fun K hK => ?_)
          go_simp
          refine hK _ ?_
          clear hK K
          refine bx_step (fun K hK => ?_)
          go_simp
          refine hK _ ?_
          clear hK K
          refine bx_step (fun K hK => ?_)
          go_simp
          refine hK _ ?_
          clear hK K
          refine bx_step (fun K hK => ?_)
          go_simp
          refine hK _ ?_
          clear hK K
          refine bx_skip (by rfl) ?_
          simp only [Act.put, List.setIfInBounds_toArray, List.set_cons_zero, List.set_cons_succ]
          refine bx_skip (by rfl) ?_
          simp only [Act.put, List.setIfInBounds_toArray, List.set_cons_zero, List.set_cons_succ]
          refine bx_skip (by rfl) ?_
          simp only [Act.put, List.setIfInBounds_toArray, List.set_cons_zero, List.set_cons_succ]
          refine bx_skip (by rfl) ?_
          simp only [Act.put, List.setIfInBounds_toArray, List.set_cons_zero, List.set_cons_succ]
          refine bx_skip (by rfl) ?_
          simp only [Act.put, List.setIfInBounds_toArray, List.set_cons_zero, List.set_cons_succ]
          refine bx_skip (by rfl) ?_
          simp only [Act.put, List.setIfInBounds_toArray, List.set_cons_zero, List.set_cons_succ]
          refine bx_step (fun K hK => ?_)
          go_simp
          refine hK _ ?_
          clear hK K
          refine bx_step (fun K hK => ?_)
          go_simp
          refine hK _ ?_
          clear hK K
          refine bx_nil ?_
          refine Boxed.mk ?_
          change wpList _ _ _ _ _ W6.drew
          have hbd : Below W6.heap.size W6 W6.drew := (Below.refl _ _).drew
          replace HBX := Lib.hid (bx_below HBX.out hB1 hbd)
          replace HO := Lib.hid (Rg.own_below HO.out hbd)
          replace HBL : Hid (Below w.heap.size w W6.drew) := HBL.out.trans (hbd.mono HBL.out.size)
          replace hB1 : w.heap.size < W6.drew.heap.size := hB1
          clear k0 k1 k2 k3 kf c0 c1 c2 c3 hbd
          generalize W6.drew = w2 at *
          obtain ⟨k0, k1, k2, k3, kf⟩ := bx_cells HBX.out
          have f0 := kf 0
          have f1 := kf 1
          have f2 := kf 2
          have f3 := kf 3
          go_upto_region 12 with fail
          have hbx := bx_set3 (bx_set2 (bx_set1 (bx_set0 HBX.out []) []) false) false
          have hho := ownsRow_setCell_below (ownsRow_setCell_below (ownsRow_setCell_below (ownsRow_setCell_below HO.out (a := ⟨w.heap.size, 0, none⟩) (Nat.lt_succ_self _) (.string ⟨#[]⟩)) (a := ⟨w.heap.size, 1, none⟩) (Nat.lt_succ_self _) (.string ⟨#[]⟩)) (a := ⟨w.heap.size, 2, none⟩) (Nat.lt_succ_self _) (.bool false)) (a := ⟨w.heap.size, 3, none⟩) (Nat.lt_succ_self _) (.bool false)
          have hbl4 := (((HBL.out.setCell (p := ⟨w.heap.size, 0, none⟩) (Nat.le_refl _) (.string ⟨#[]⟩)).setCell (p := ⟨w.heap.size, 1, none⟩) (Nat.le_refl _) (.string ⟨#[]⟩)).setCell (p := ⟨w.heap.size, 2, none⟩) (Nat.le_refl _) (.bool false)).setCell (p := ⟨w.heap.size, 3, none⟩) (Nat.le_refl _) (.bool false)
          have HBX4 : Hid (BxS w.heap.size 75 (opn p.hi) ((((w2.setCell ⟨w.heap.size, 0, none⟩ (.string ⟨#[]⟩)).setCell ⟨w.heap.size, 1, none⟩ (.string ⟨#[]⟩)).setCell ⟨w.heap.size, 2, none⟩ (.bool false)).setCell ⟨w.heap.size, 3, none⟩ (.bool false))) := by
            have e : opn p.hi = ⟨[], [], false, false⟩ := by show Sp.mk (txt p.hi) _ (loI p.hi) _ = _; rw [HE3.out]; rw [show loI p.hi = false from ((loI_none HEM.out HPO.out.2).symm).symm]
            rw [e]; exact hbx
          have HO4 : Hid (ROwn ((((w2.setCell ⟨w.heap.size, 0, none⟩ (.string ⟨#[]⟩)).setCell ⟨w.heap.size, 1, none⟩ (.string ⟨#[]⟩)).setCell ⟨w.heap.size, 2, none⟩ (.bool false)).setCell ⟨w.heap.size, 3, none⟩ (.bool false)) (w.heap.size + 1) _ (acc2.map spOf)) := hho
          have HBL4 : Hid (Below w.heap.size w ((((w2.setCell ⟨w.heap.size, 0, none⟩ (.string ⟨#[]⟩)).setCell ⟨w.heap.size, 1, none⟩ (.string ⟨#[]⟩)).setCell ⟨w.heap.size, 2, none⟩ (.bool false)).setCell ⟨w.heap.size, 3, none⟩ (.bool false))) := hbl4
          have hB4 : w.heap.size < ((((w2.setCell ⟨w.heap.size, 0, none⟩ (.string ⟨#[]⟩)).setCell ⟨w.heap.size, 1, none⟩ (.string ⟨#[]⟩)).setCell ⟨w.heap.size, 2, none⟩ (.bool false)).setCell ⟨w.heap.size, 3, none⟩ (.bool false)).heap.size := by simpa using hB1
          have HOP : Hid (Rm.lt Ln p.hi .top = false) := by show _ = _; have := HOP0.out; simpa using this.symm
          clear hbx hho hbl4 hB1 HBL HO HBX f0 f1 f2 f3 k0 k1 k2 k3 kf HOP0
          generalize ((((w2.setCell ⟨w.heap.size, 0, none⟩ (.string ⟨#[]⟩)).setCell ⟨w.heap.size, 1, none⟩ (.string ⟨#[]⟩)).setCell ⟨w.heap.size, 2, none⟩ (.bool false)).setCell ⟨w.heap.size, 3, none⟩ (.bool false)) = W7 at *
          obtain ⟨ad7, had, _, c0, c1, c2, c3⟩ := row_piece (srow_below HA.out HBL4.out) k hlr
          obtain rfl := Option.some.inj had
          rw [HP.out] at c0 c1 c2 c3
          rw [show (spOf p).hi = [] from HE3.out] at c1
          clear had
          go_wp2_with fail
          go_roundw
          case rel => exact ⟨k + 1, p.hi, acc2, by omega, by go_num, by rw [HOP.out], by omega, HE2, HO4, HBX4, HBL4, hB4⟩
          case measure => simp [intOf]; omega
      · have hno := HEE.out
        rw [notF_no c p _ (by have := lo_empty HPO.out.1; rw [show (txt p.lo).isEmpty = true from e1] at this; simpa using this)] at hno
        have HE2 := Lib.hid hno
        clear hno HEE HROW
        cases e2 : (spOf p).hi.isEmpty
        · have hop := hi_empty HPO.out.2
          rw [show (txt p.hi).isEmpty = _ from e2] at hop
          have HOP0 := Lib.hid hop
          have HEM : Hid ((txt p.hi).isEmpty = _) := e2
          clear hop
          go_wp2_with fail
          go_still_tail 20, (by kernel_rfl)
          change wpList _ _ _ _ _ wr.drew
          have hbd : Below wr.heap.size wr wr.drew := (Below.refl _ _).drew
          replace HBX := Lib.hid (bx_below HBX.out hB1 hbd)
          replace HO := Lib.hid (Rg.own_below HO.out hbd)
          replace HBL : Hid (Below w.heap.size w wr.drew) := HBL.out.trans (hbd.mono HBL.out.size)
          replace hB1 : w.heap.size < wr.drew.heap.size := hB1
          clear k0 k1 k2 k3 kf c0 c1 c2 c3 hbd
          generalize wr.drew = w2 at *
          obtain ⟨k0, k1, k2, k3, kf⟩ := bx_cells HBX.out
          have f0 := kf 0
          have f1 := kf 1
          have f2 := kf 2
          have f3 := kf 3
          go_upto_region 12 with fail
          have hbx := bx_set3 (bx_set2 (bx_set1 (bx_set0 HBX.out (spOf p).hi) []) (!(spOf p).hn)) false
          have hho := ownsRow_setCell_below (ownsRow_setCell_below (ownsRow_setCell_below (ownsRow_setCell_below HO.out (a := ⟨w.heap.size, 0, none⟩) (Nat.lt_succ_self _) (.string ⟨(spOf p).hi.toArray⟩)) (a := ⟨w.heap.size, 1, none⟩) (Nat.lt_succ_self _) (.string ⟨#[]⟩)) (a := ⟨w.heap.size, 2, none⟩) (Nat.lt_succ_self _) (.bool (!(spOf p).hn))) (a := ⟨w.heap.size, 3, none⟩) (Nat.lt_succ_self _) (.bool false)
          have hbl4 := (((HBL.out.setCell (p := ⟨w.heap.size, 0, none⟩) (Nat.le_refl _) (.string ⟨(spOf p).hi.toArray⟩)).setCell (p := ⟨w.heap.size, 1, none⟩) (Nat.le_refl _) (.string ⟨#[]⟩)).setCell (p := ⟨w.heap.size, 2, none⟩) (Nat.le_refl _) (.bool (!(spOf p).hn))).setCell (p := ⟨w.heap.size, 3, none⟩) (Nat.le_refl _) (.bool false)
          have HBX4 : Hid (BxS w.heap.size 75 (opn p.hi) ((((w2.setCell ⟨w.heap.size, 0, none⟩ (.string ⟨(spOf p).hi.toArray⟩)).setCell ⟨w.heap.size, 1, none⟩ (.string ⟨#[]⟩)).setCell ⟨w.heap.size, 2, none⟩ (.bool (!(spOf p).hn))).setCell ⟨w.heap.size, 3, none⟩ (.bool false))) := by
            have e : opn p.hi = ⟨(spOf p).hi, [], (!(spOf p).hn), false⟩ := by show Sp.mk (txt p.hi) _ (loI p.hi) _ = _; rw [show loI p.hi = (!(spOf p).hn) from (loI_not HEM.out).symm]; rfl
            rw [e]; exact hbx
          have HO4 : Hid (ROwn ((((w2.setCell ⟨w.heap.size, 0, none⟩ (.string ⟨(spOf p).hi.toArray⟩)).setCell ⟨w.heap.size, 1, none⟩ (.string ⟨#[]⟩)).setCell ⟨w.heap.size, 2, none⟩ (.bool (!(spOf p).hn))).setCell ⟨w.heap.size, 3, none⟩ (.bool false)) (w.heap.size + 1) _ (acc.map spOf)) := hho
          have HBL4 : Hid (Below w.heap.size w ((((w2.setCell ⟨w.heap.size, 0, none⟩ (.string ⟨(spOf p).hi.toArray⟩)).setCell ⟨w.heap.size, 1, none⟩ (.string ⟨#[]⟩)).setCell ⟨w.heap.size, 2, none⟩ (.bool (!(spOf p).hn))).setCell ⟨w.heap.size, 3, none⟩ (.bool false))) := hbl4
          have hB4 : w.heap.size < ((((w2.setCell ⟨w.heap.size, 0, none⟩ (.string ⟨(spOf p).hi.toArray⟩)).setCell ⟨w.heap.size, 1, none⟩ (.string ⟨#[]⟩)).setCell ⟨w.heap.size, 2, none⟩ (.bool (!(spOf p).hn))).setCell ⟨w.heap.size, 3, none⟩ (.bool false)).heap.size := by simpa using hB1
          have HOP : Hid (Rm.lt Ln p.hi .top = true) := by show _ = _; have := HOP0.out; simpa using this.symm
          clear hbx hho hbl4 hB1 HBL HO HBX f0 f1 f2 f3 k0 k1 k2 k3 kf HOP0
          generalize ((((w2.setCell ⟨w.heap.size, 0, none⟩ (.string ⟨(spOf p).hi.toArray⟩)).setCell ⟨w.heap.size, 1, none⟩ (.string ⟨#[]⟩)).setCell ⟨w.heap.size, 2, none⟩ (.bool (!(spOf p).hn))).setCell ⟨w.heap.size, 3, none⟩ (.bool false)) = W7 at *
          obtain ⟨ad7, had, _, c0, c1, c2, c3⟩ := row_piece (srow_below HA.out HBL4.out) k hlr
          obtain rfl := Option.some.inj had
          rw [HP.out] at c0 c1 c2 c3
          clear had
          go_wp2_with fail
          go_roundw
          case rel => exact ⟨k + 1, p.hi, acc, by omega, by go_num, by rw [HOP.out], by omega, HE2, HO4, HBX4, HBL4, hB4⟩
          case measure => simp [intOf]; omega
        · have hop := hi_empty HPO.out.2
          rw [show (txt p.hi).isEmpty = _ from e2] at hop
          have HOP0 := Lib.hid hop
          have HEM : Hid ((txt p.hi).isEmpty = _) := e2
          have e3 : (spOf p).hi = [] := List.isEmpty_iff.1 e2
          have HE3 : Hid (txt p.hi = []) := e3
          rw [e3] at c1
          clear e3
          clear hop e2
          go_wp2_with fail
          refine wp_region_still_tail 20 (by kernel_rfl) (by kernel_rfl) ?_
          refine bx_in ?_
          simp only [List.take_succ_cons, List.take_zero, List.drop_succ_cons, List.drop_zero]
          refine bx_step (fun K hK => ?_)
          go_simp
          refine hK _ ?_
          clear hK K
          refine bx_step (fun K hK => ?_)
          go_simp
          refine hK _ ?_
          clear hK K
          refine bx_step (fun K hK => ?_)
          go_simp
          refine hK _ ?_
          clear hK K
          refine bx_step (fun K hK => ?_)
          go_simp
          refine hK _ ?_
          clear hK K
          refine bx_step (fun K hK => ?_)
          go_simp
          refine hK _ ?_
          clear hK K
          refine bx_step (fun K hK => ?_)
          go_simp
          refine hK _ ?_
          clear hK K
          refine bx_step (fun K hK => ?_)
          go_simp
          refine hK _ ?_
          clear hK K
          refine bx_step (fun K hK => ?_)
          go_simp
          refine hK _ ?_
          clear hK K
          refine bx_step (fun K hK => ?_)
          go_simp
          refine hK _ ?_
          clear hK K
          refine bx_step (fun K hK => ?_)
          go_simp
          refine hK _ ?_
          clear hK K
          refine bx_step (fun K hK => ?_)
          go_simp
          refine hK _ ?_
          clear hK K
          refine bx_step (fun K hK => ?_)
          go_simp
          refine hK _ ?_
          clear hK K
          refine bx_skip (by rfl) ?_
          simp only [Act.put, List.setIfInBounds_toArray, List.set_cons_zero, List.set_cons_succ]
          refine bx_skip (by rfl) ?_
          simp only [Act.put, List.setIfInBounds_toArray, List.set_cons_zero, List.set_cons_succ]
          refine bx_skip (by rfl) ?_
          simp only [Act.put, List.setIfInBounds_toArray, List.set_cons_zero, List.set_cons_succ]
          refine bx_skip (by rfl) ?_
          simp only [Act.put, List.setIfInBounds_toArray, List.set_cons_zero, List.set_cons_succ]
          refine bx_skip (by rfl) ?_
          simp only [Act.put, List.setIfInBounds_toArray, List.set_cons_zero, List.set_cons_succ]
          refine bx_skip (by rfl) ?_
          simp only [Act.put, List.setIfInBounds_toArray, List.set_cons_zero, List.set_cons_succ]
          refine bx_step (fun K hK => ?_)
          go_simp
          refine hK _ ?_
          clear hK K
          refine bx_step (fun K hK => ?_)
          go_simp
          refine hK _ ?_
          clear hK K
          refine bx_nil ?_
          refine Boxed.mk ?_
          change wpList _ _ _ _ _ wr.drew
          have hbd : Below wr.heap.size wr wr.drew := (Below.refl _ _).drew
          replace HBX := Lib.hid (bx_below HBX.out hB1 hbd)
          replace HO := Lib.hid (Rg.own_below HO.out hbd)
          replace HBL : Hid (Below w.heap.size w wr.drew) := HBL.out.trans (hbd.mono HBL.out.size)
          replace hB1 : w.heap.size < wr.drew.heap.size := hB1
          clear k0 k1 k2 k3 kf c0 c1 c2 c3 hbd
          generalize wr.drew = w2 at *
          obtain ⟨k0, k1, k2, k3, kf⟩ := bx_cells HBX.out
          have f0 := kf 0
          have f1 := kf 1
          have f2 := kf 2
          have f3 := kf 3
          go_upto_region 12 with fail
          have hbx := bx_set3 (bx_set2 (bx_set1 (bx_set0 HBX.out []) []) false) false
          have hho := ownsRow_setCell_below (ownsRow_setCell_below (ownsRow_setCell_below (ownsRow_setCell_below HO.out (a := ⟨w.heap.size, 0, none⟩) (Nat.lt_succ_self _) (.string ⟨#[]⟩)) (a := ⟨w.heap.size, 1, none⟩) (Nat.lt_succ_self _) (.string ⟨#[]⟩)) (a := ⟨w.heap.size, 2, none⟩) (Nat.lt_succ_self _) (.bool false)) (a := ⟨w.heap.size, 3, none⟩) (Nat.lt_succ_self _) (.bool false)
          have hbl4 := (((HBL.out.setCell (p := ⟨w.heap.size, 0, none⟩) (Nat.le_refl _) (.string ⟨#[]⟩)).setCell (p := ⟨w.heap.size, 1, none⟩) (Nat.le_refl _) (.string ⟨#[]⟩)).setCell (p := ⟨w.heap.size, 2, none⟩) (Nat.le_refl _) (.bool false)).setCell (p := ⟨w.heap.size, 3, none⟩) (Nat.le_refl _) (.bool false)
          have HBX4 : Hid (BxS w.heap.size 75 (opn p.hi) ((((w2.setCell ⟨w.heap.size, 0, none⟩ (.string ⟨#[]⟩)).setCell ⟨w.heap.size, 1, none⟩ (.string ⟨#[]⟩)).setCell ⟨w.heap.size, 2, none⟩ (.bool false)).setCell ⟨w.heap.size, 3, none⟩ (.bool false))) := by
            have e : opn p.hi = ⟨[], [], false, false⟩ := by show Sp.mk (txt p.hi) _ (loI p.hi) _ = _; rw [HE3.out]; rw [show loI p.hi = false from ((loI_none HEM.out HPO.out.2).symm).symm]
            rw [e]; exact hbx
          have HO4 : Hid (ROwn ((((w2.setCell ⟨w.heap.size, 0, none⟩ (.string ⟨#[]⟩)).setCell ⟨w.heap.size, 1, none⟩ (.string ⟨#[]⟩)).setCell ⟨w.heap.size, 2, none⟩ (.bool false)).setCell ⟨w.heap.size, 3, none⟩ (.bool false)) (w.heap.size + 1) _ (acc.map spOf)) := hho
          have HBL4 : Hid (Below w.heap.size w ((((w2.setCell ⟨w.heap.size, 0, none⟩ (.string ⟨#[]⟩)).setCell ⟨w.heap.size, 1, none⟩ (.string ⟨#[]⟩)).setCell ⟨w.heap.size, 2, none⟩ (.bool false)).setCell ⟨w.heap.size, 3, none⟩ (.bool false))) := hbl4
          have hB4 : w.heap.size < ((((w2.setCell ⟨w.heap.size, 0, none⟩ (.string ⟨#[]⟩)).setCell ⟨w.heap.size, 1, none⟩ (.string ⟨#[]⟩)).setCell ⟨w.heap.size, 2, none⟩ (.bool false)).setCell ⟨w.heap.size, 3, none⟩ (.bool false)).heap.size := by simpa using hB1
          have HOP : Hid (Rm.lt Ln p.hi .top = false) := by show _ = _; have := HOP0.out; simpa using this.symm
          clear hbx hho hbl4 hB1 HBL HO HBX f0 f1 f2 f3 k0 k1 k2 k3 kf HOP0
          generalize ((((w2.setCell ⟨w.heap.size, 0, none⟩ (.string ⟨#[]⟩)).setCell ⟨w.heap.size, 1, none⟩ (.string ⟨#[]⟩)).setCell ⟨w.heap.size, 2, none⟩ (.bool false)).setCell ⟨w.heap.size, 3, none⟩ (.bool false)) = W7 at *
          obtain ⟨ad7, had, _, c0, c1, c2, c3⟩ := row_piece (srow_below HA.out HBL4.out) k hlr
          obtain rfl := Option.some.inj had
          rw [HP.out] at c0 c1 c2 c3
          rw [show (spOf p).hi = [] from HE3.out] at c1
          clear had
          go_wp2_with fail
          go_roundw
          case rel => exact ⟨k + 1, p.hi, acc, by omega, by go_num, by rw [HOP.out], by omega, HE2, HO4, HBX4, HBL4, hB4⟩
          case measure => simp [intOf]; omega
    · obtain rfl : n = k := by omega
      have hee := HE.out
      rw [List.drop_eq_nil_of_le (by rw [HN.out]; exact Nat.le_refl _)] at hee
      have hff : Rm.notF Ln c [] = if Rm.lt Ln c .top = true then [{ lo := c, hi := .top }] else [] := rfl
      rw [hff] at hee
      clear hff HE
      cases hct : Rm.lt Ln c .top
      · rw [hct, if_neg (by decide), List.append_nil] at hee
        obtain ⟨L, hL⟩ : ∃ L, acc = L := ⟨_, rfl⟩
        have HLL : Hid (Rm.notK Ln r = L) := by rw [← hL]; exact hee
        have HOL : Hid (ROwn wr (w.heap.size + 1) u3 (L.map spOf)) := by rw [← hL]; exact HO.out
        clear hL hee HO HBX hct
        have HRR : Hid ((L.take 64).map spOf = R) := by show _ = _; rw [← HR.out, HLL.out]
        obtain ⟨z, hz⟩ : ∃ z, L.length = z := ⟨_, rfl⟩
        obtain ⟨C, cc, rfl, osrow, _, hcc, hcm, hcb⟩ := rrow_of HOL.out (show (L.map spOf).length = z by rw [List.length_map]; exact hz)
        have HCB : Hid (∀ a, C = some a → w.heap.size ≤ a.block) := fun a ha => Nat.le_trans (Nat.le_succ _) (hcb a ha)
        have HOS := Lib.hid osrow
        have HP := Lib.hid hz
        clear osrow hcb hz HOL HLL HR
        by_cases h64 : 64 < z
        · have hRl : R.length = 64 := by rw [← HRR.out, List.length_map, List.length_take, HP.out]; omega
          have HRL := Lib.hid hRl
          have rx : ∀ W : World, (Instr.sliceAt 22 (.slice C z cc) none (some (.int .i64 64)) none).run Tryz.prog W = .ok (.slice C 64 cc) W := rX_run C z cc 64 (by omega) hcc hcm
          have g0 : decide ((64 : Int) < (z : Int)) = true := decide_eq_true (by omega)
          have g1 : decide (64 < z) = true := decide_eq_true h64
          clear hRl
          go_wp2_with fail
          go_ret
          refine ⟨⟨C, cc, by rw [HRL.out]; rfl, ?_, by rw [HRL.out]; omega, HCB.out⟩, HBL.out⟩
          rw [← HRR.out, List.map_take]
          exact srow_take HOS.out 64
        · have hRl : R.length = z := by rw [← HRR.out, List.length_map, List.length_take, HP.out]; omega
          have HRL := Lib.hid hRl
          have g0 : decide ((64 : Int) < (z : Int)) = false := decide_eq_false (by omega)
          have g1 : decide (64 < z) = false := decide_eq_false h64
          clear hRl
          go_wp2_with fail
          go_ret
          refine ⟨⟨C, cc, by rw [HRL.out]; rfl, ?_, by rw [HRL.out]; exact hcc, HCB.out⟩, HBL.out⟩
          rw [← HRR.out, List.map_take]
          exact srow_take HOS.out 64
      · rw [hct, if_pos rfl] at hee
        obtain ⟨k0, k1, k2, k3, _⟩ := bx_cells HBX.out
        clear hct
        have HE1 := Lib.hid hee
        clear hee
        go_wp2_with (at_builtin; refine Rg.wpList_app sliceR rfl (.tmp 64) (.tmp 66) rfl (w.heap.size + 1) _ (acc.map spOf) [opn c] rfl (Rg.own_below HO.out ((Below.refl _ _).alloc (Nat.le_refl _) _)) _ _ rfl (Rg.news_new wr _ _ _ (by rfl)) (Nat.zero_lt_succ _) ?s2 ?b2 ?_)
        case s2 => rw [List.length_map]; show _ + 1 ≤ _; omega
        case b2 => simp; omega
        intro v6 W6 ho6 hg6 hz6
        have hlow : Below (w.heap.size + 1) wr W6 := ((Below.refl _ _).alloc (by omega) _).trans (Rg.grown_below (Rg.own_below HO.out ((Below.refl _ _).alloc (Nat.le_refl _) _)) (by simp; omega) hg6)
        have HO6 : Hid (ROwn W6 (w.heap.size + 1) v6 ((acc ++ [({ lo := c, hi := .top } : Rm.P Cut)]).map spOf)) := by
          show ROwn _ _ _ _
          rw [List.map_append]; exact ho6
        have HBX6 := Lib.hid (bx_low HBX.out (Nat.lt_succ_self _) hlow)
        have HBL6 : Hid (Below w.heap.size w W6) := HBL.out.trans (hlow.mono (by omega))
        have hB6 : w.heap.size < W6.heap.size := Nat.lt_of_lt_of_le hB1 hlow.size
        clear ho6 hg6 hz6 hlow HO HBX HBL hB1 k0 k1 k2 k3
        obtain ⟨L, hL⟩ : ∃ L, acc ++ [({ lo := c, hi := .top } : Rm.P Cut)] = L := ⟨_, rfl⟩
        have HLL : Hid (Rm.notK Ln r = L) := by rw [← hL]; exact HE1.out
        have HOL : Hid (ROwn W6 (w.heap.size + 1) v6 (L.map spOf)) := by rw [← hL]; exact HO6.out
        have HBL := HBL6
        clear hL HO6 HBX6 HBL6 hB6 HE1
        have HRR : Hid ((L.take 64).map spOf = R) := by show _ = _; rw [← HR.out, HLL.out]
        obtain ⟨z, hz⟩ : ∃ z, L.length = z := ⟨_, rfl⟩
        obtain ⟨C, cc, rfl, osrow, _, hcc, hcm, hcb⟩ := rrow_of HOL.out (show (L.map spOf).length = z by rw [List.length_map]; exact hz)
        have HCB : Hid (∀ a, C = some a → w.heap.size ≤ a.block) := fun a ha => Nat.le_trans (Nat.le_succ _) (hcb a ha)
        have HOS := Lib.hid osrow
        have HP := Lib.hid hz
        clear osrow hcb hz HOL HLL HR
        by_cases h64 : 64 < z
        · have hRl : R.length = 64 := by rw [← HRR.out, List.length_map, List.length_take, HP.out]; omega
          have HRL := Lib.hid hRl
          have rx : ∀ W : World, (Instr.sliceAt 22 (.slice C z cc) none (some (.int .i64 64)) none).run Tryz.prog W = .ok (.slice C 64 cc) W := rX_run C z cc 64 (by omega) hcc hcm
          have g0 : decide ((64 : Int) < (z : Int)) = true := decide_eq_true (by omega)
          have g1 : decide (64 < z) = true := decide_eq_true h64
          clear hRl
          go_wp2_with fail
          go_ret
          refine ⟨⟨C, cc, by rw [HRL.out]; rfl, ?_, by rw [HRL.out]; omega, HCB.out⟩, HBL.out⟩
          rw [← HRR.out, List.map_take]
          exact srow_take HOS.out 64
        · have hRl : R.length = z := by rw [← HRR.out, List.length_map, List.length_take, HP.out]; omega
          have HRL := Lib.hid hRl
          have g0 : decide ((64 : Int) < (z : Int)) = false := decide_eq_false (by omega)
          have g1 : decide (64 < z) = false := decide_eq_false h64
          clear hRl
          go_wp2_with fail
          go_ret
          refine ⟨⟨C, cc, by rw [HRL.out]; rfl, ?_, by rw [HRL.out]; exact hcc, HCB.out⟩, HBL.out⟩
          rw [← HRR.out, List.map_take]
          exact srow_take HOS.out 64
end Go.Proofs.YtpfkcjofpihgjaaGreatDoor

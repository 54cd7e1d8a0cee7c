/- The reference's ParseAtom at a text with a term, walked. -/
import Derived.Test.YtkdildgdodnbbaaGreatDoorTf
namespace Go.Proofs.YtkdildgdodnbbaaGreatDoor
open Go.RowKit Rs At
attribute [local go_sem ↓] Go.wp_at_zero Go.wp_at_succ
theorem termP_size {v : List UInt8} {T : List (List Cond)} (hv : v.length ≤ 4000) (h : termP v = some T) : T.length ≤ 4001 ∧ ∀ l ∈ T, l.length ≤ 4001 := by
  obtain ⟨h1, h2⟩ := termP_le h
  exact ⟨by omega, fun l hl => by have := h2 l hl; omega⟩
theorem vers_app (T : List (List Cond)) (l : List Cond) : vers (T ++ [l]) = vers T + l.length := by
  unfold vers; rw [List.map_append, List.sum_append]; simp
set_option maxRecDepth 100000 in
set_option maxHeartbeats 6400000 in
theorem refParse_more (s : List UInt8) (w : World) (hw : MaxOk w) (hs : s.length ≤ 4000) (hsp : Vm.has 32 s = true) :
    Calls Tryz.prog 41 #[.string ⟨s.toArray⟩] w (ParseRet w (parseA s)) := by
  obtain ⟨X, hX⟩ : ∃ X, parseA s = X := ⟨_, rfl⟩
  rw [hX]
  obtain ⟨W1, hW1⟩ : ∃ W, w.alloc (.cells #[.string ⟨#[]⟩, .slice none 0 0] 38) = W := ⟨_, rfl⟩
  have HRC : Hid (∀ u, Below W1.heap.size W1 u → RC w.heap.size u) := fun u hb => cell_two hW1 hb
  have HPD : Hid (∀ u, Below W1.heap.size W1 u → ∀ (name : List UInt8) (C : Option Addr) (m d : Nat) (k : Int) (l : List Sp), X = (k, ⟨name, l⟩) → l.length = m → SRow u C l → ParseRet w X (.returned (.tuple #[.agg #[.string ⟨name.toArray⟩, .slice C m d], .int .i64 k])) (stA u w.heap.size name C m d)) := fun u hb _ _ _ _ _ _ h1 h2 h3 => pr_done hW1 hb h1 h2 h3
  have HR0 : Hid (Below W1.heap.size W1 W1) := Below.refl _ _
  have HM1 : Hid (MaxOk W1) := maxOk_below hw (alloc_low hW1)
  rw [parse_more hsp] at hX
  have HPL := Lib.hid (place_yes s 32 W1 hs hsp)
  obtain ⟨hlt, hxa, hxb⟩ := cut_texts s 32 hsp
  have htl : (Vm.snd 32 s).length ≤ 4000 := by unfold Vm.snd; rw [List.length_drop]; have := (List.dropWhile_sublist (· != (32 : UInt8)) (l := s)).length_le; omega
  obtain ⟨nm, hnm⟩ : ∃ x, Vm.fst 32 s = x := ⟨_, rfl⟩
  obtain ⟨t, ht⟩ : ∃ x, Vm.snd 32 s = x := ⟨_, rfl⟩
  rw [hnm] at hX HPL hlt hxa hxb
  rw [ht] at hX hxb htl
  obtain ⟨r0, r1, f0, f1⟩ := HRC.out _ HR0.out
  clear hsp hw hnm ht
  go_enter Tryz.func41, Tryz.ntmps41
  go_wp2_with fail
  clear hW1
  refine HPL.out.mono ?_
  rintro _ z ⟨rfl, rfl⟩
  go_wp2_with fail
  refine (refBytes_any nm _ (by omega)).mono ?_
  rintro _ z ⟨rfl, rfl⟩
  cases hwb : wordB nm
  · have HX : Hid (X = (2, zeroA)) := by rw [hwb] at hX; exact hX.symm
    clear hX hwb
    go_wp2_with fail
    exact bodyPost_ret (res_atom (HRC.out _ HR0.out) rfl rfl) rfl (HPD.out _ HR0.out [] none 0 0 2 [] HX.out rfl (srow_zero _))
  · rw [hwb, if_pos rfl] at hX
    clear hwb
    by_cases h3 : t.length < 3
    · have HX : Hid (X = (2, zeroA)) := by rw [body_short h3] at hX; exact hX.symm
      have d3 : decide ((t.length : Int) < 3) = true := decide_eq_true (by omega)
      clear hX h3
      go_wp2_with fail
      exact bodyPost_ret (res_atom (HRC.out _ HR0.out) rfl rfl) rfl (HPD.out _ HR0.out [] none 0 0 2 [] HX.out rfl (srow_zero _))
    · have d3 : decide ((t.length : Int) < 3) = false := decide_eq_false (by omega)
      have hpos : 0 < t.length := by omega
      have hlast : t.length - 1 < t.length := by omega
      obtain ⟨c0, hc0, hc0'⟩ := byte_at t 0 hpos
      obtain ⟨cn, hcn, hcn'⟩ := byte_at t (t.length - 1) hlast
      by_cases e0 : c0.toNat = 40
      · have n0 : ((c0.toNat : Int) != 40) = false := by simp [e0]
        have g0 : c0 = 40 := by rw [← UInt8.toNat_inj]; exact e0
        by_cases en : cn.toNat = 41
        · have n1 : ((cn.toNat : Int) != 41) = false := by simp [en]
          have gn : cn = 41 := by rw [← UInt8.toNat_inj]; exact en
          have hby := body_yes (by omega) (hc0'.trans g0) (hcn'.trans gn)
          have hxc : (⟨t.toArray⟩ : ByteArray).extract 1 (t.length - 1) = ⟨((t.drop 1).take (t.length - 2)).toArray⟩ := piece_of t 1 (t.length - 1)
          obtain ⟨v, hv⟩ : ∃ v, (t.drop 1).take (t.length - 2) = v := ⟨_, rfl⟩
          have hvl : v.length ≤ 4000 := by rw [← hv, List.length_take, List.length_drop]; omega
          rw [hv] at hby hxc
          have HX : Hid (X = match termP v with | none => (2, zeroA) | some t => readA nm t) := by rw [hby] at hX; exact hX.symm
          have hl1 : (1 : Int) ≤ ((t.length - 1 : Nat) : Int) := by omega
          clear hX hby hv hc0' hcn' e0 g0 en gn h3
          go_upto_if 74 with fail
          go_cut [7, 8] (fun v7 v8 wx => ∃ (T : List (List Cond)) (ps : List (List (List UInt8))) (C : Option Addr) (m d x : Nat), v7 = .slice C m d ∧ v8 = .int .i64 x ∧ x ≤ 20000000 ∧ m ≤ 4001 ∧ Hid (termP v = some T) ∧ Hid (Ways ps T) ∧ Hid (ps.length = m) ∧ Hid (vers T = x) ∧ Hid (Gr.Row encT 1 wx C ps) ∧ Hid (Below W1.heap.size W1 wx) ∧ Hid (∀ p ∈ ps, ∀ e ∈ p, e.length ≤ 4000))
          case first =>
            by_cases hno : v = noneT
            · subst hno
              have HTP : Hid (termP noneT = some []) := by show _ = _; unfold termP; rw [if_pos rfl]
              go_wp2_with fail
              go_meet
              case rel => exact ⟨[], [], none, 0, 0, 0, rfl, rfl, by omega, by omega, HTP, ways_nil, rfl, rfl, Gr.row_nil _ _, HR0, fun p hp => by simp at hp⟩
            · have hnb : (v == [110, 111, 110, 101]) = false := beq_eq_false_iff_ne.2 hno
              obtain ⟨R, hR⟩ : ∃ R, termP v = R := ⟨_, rfl⟩
              have hR2 : (Lib.split v [32, 124, 32]).mapM altP = R := by rw [← hR]; unfold termP; rw [if_neg hno]
              have hpl : ∀ p ∈ Lib.split v [32, 124, 32], p.length ≤ v.length := piece_le _ _ _
              obtain ⟨L, hL⟩ : ∃ L, Lib.split v [32, 124, 32] = L := ⟨_, rfl⟩
              have HC1 := Lib.hid (refCut_any v [32, 124, 32] W1 hvl (by decide) (by decide))
              rw [hL] at hR2 hpl HC1
              have HR := Lib.hid hR
              have HRM := Lib.hid hR2
              have HPL2 : Hid (∀ p ∈ L, p.length ≤ 4000) := fun p hp => Nat.le_trans (hpl p hp) hvl
              clear hno hR hR2 hpl hL r0 r1 f0 f1
              rw [hnb]
              go_wp2_with fail
              refine HC1.out.mono ?_
              rintro _ z1 ⟨A1, n1, c1, rfl, hn1, hn1l, hrow1, hf1, hb1⟩
              have HN1 := Lib.hid hn1
              have HROW1 := Lib.hid hrow1
              have HB1 := Lib.hid hb1
              clear hn1 hrow1 hf1 hb1 HC1
              go_wp2_with fail
              go_loopw [7, 8, 10] (fun v7 v8 i wr => ∃ (k x : Nat) (ps : List (List (List UInt8))) (T : List (List Cond)), k ≤ n1 ∧ i = .int .i64 k ∧ v8 = .int .i64 x ∧ x ≤ k * 4001 ∧ Hid (Gr.Own encT 1 wr z1.heap.size 58 v7 ps) ∧ Hid (ps.length = k) ∧ Hid (Ways ps T) ∧ Hid (vers T = x) ∧ Hid (((L.drop k).mapM altP).map (T ++ ·) = R) ∧ Hid (Below z1.heap.size z1 wr ∧ z1.heap.size ≤ wr.heap.size) ∧ Hid (∀ p ∈ ps, ∀ e ∈ p, e.length ≤ 4000)) (fun _ _ i _ => n1 - (intOf i).toNat)
              case atStart => exact ⟨0, 0, [], [], Nat.zero_le _, rfl, rfl, Nat.zero_le _, Gr.own_nil _ _ _, rfl, ways_nil, rfl, by show ((L.drop 0).mapM altP).map _ = R; rw [List.drop_zero, HRM.out]; cases R <;> rfl, ⟨Below.refl _ _, Nat.le_refl _⟩, fun p hp => by simp at hp⟩
              case round =>
                obtain ⟨k, x, ps, T, hk, rfl, rfl, hx, HO, HPK, HWY, HVX, HE, HB, HEP⟩ := hrel
                by_cases hlt : k < n1
                · have hlr : k < L.length := by rw [HN1.out]; exact hlt
                  obtain ⟨ad, rfl, _, c0⟩ := txt_at (Rg.row_below HROW1.out HB.out.1) k hlr
                  have hpp := HPL2.out _ (List.getElem_mem hlr)
                  have he := HE.out
                  rw [List.drop_eq_getElem_cons hlr] at he
                  obtain ⟨p, hp⟩ : ∃ p, L[k] = p := ⟨_, rfl⟩
                  rw [hp] at hpp he c0
                  have HC2 := Lib.hid (refCut_any p [32, 38, 32] wr hpp (by decide) (by decide))
                  have hpw : ∀ x ∈ Lib.split p [32, 38, 32], x.length ≤ p.length := piece_le _ _ _
                  obtain ⟨RA, hRA⟩ : ∃ R, altP p = R := ⟨_, rfl⟩
                  have hRA2 : (Lib.split p [32, 38, 32]).mapM condP = RA := hRA
                  obtain ⟨W, hW⟩ : ∃ W, Lib.split p [32, 38, 32] = W := ⟨_, rfl⟩
                  rw [hW] at hpw hRA2 HC2
                  have HRA := Lib.hid hRA2
                  have HPW : Hid (∀ x ∈ W, x.length ≤ 4000) := fun x hx => Nat.le_trans (hpw x hx) hpp
                  have HXE : Hid (RA = none → X = (2, zeroA)) := fun h => by rw [HX.out, HR.out]; have : R = none := by rw [← he]; exact mapM_stop (hRA.trans h)
                                                                             rw [this]
                  have HXS : Hid (∀ acc, RA = some acc → ((L.drop (k + 1)).mapM altP).map ((T ++ [acc]) ++ ·) = R) := fun acc h => (mapM_step (acc := T) (hRA.trans h)).symm.trans he
                  clear he hp hpp hpw hRA hRA2 hW
                  go_wp2_with fail
                  refine HC2.out.mono ?_
                  rintro _ z2 ⟨A2, n2, c2', rfl, hn2, hn2l, hrow2, hf2, hb2⟩
                  have HN2 := Lib.hid hn2
                  have HROW2 := Lib.hid hrow2
                  have HB2 := Lib.hid hb2
                  have HF2 := Lib.hid hf2
                  clear hn2 hrow2 hf2 hb2 HC2 c0
                  go_wp2_with fail
                  go_loop [8, 12] (fun v8 j => ∃ (q y : Nat) (acc : List Cond), q ≤ n2 ∧ j = .int .i64 q ∧ v8 = .int .i64 y ∧ y ≤ k * 4001 + q ∧ Hid (acc.length = q) ∧ Hid (x + q = y) ∧ Hid (((W.drop q).mapM condP).map (acc ++ ·) = RA)) (fun _ j => n2 - (intOf j).toNat)
                  case atStart => exact ⟨0, x, [], Nat.zero_le _, rfl, rfl, by omega, rfl, rfl, by show ((W.drop 0).mapM condP).map _ = RA; rw [List.drop_zero, HRA.out]; cases RA <;> rfl⟩
                  case round =>
                    obtain ⟨q, y, acc, hqn, rfl, rfl, hy, HAQ, HXY, HE2⟩ := hrel
                    have HBE : Hid (Below W1.heap.size W1 z2) := HB1.out.trans ((HB.out.1.trans (HB2.out.mono HB.out.2)).mono HB1.out.size)
                    by_cases hq : q < n2
                    · have hqr : q < W.length := by rw [HN2.out]; exact hq
                      obtain ⟨ad2, rfl, _, c2⟩ := txt_at HROW2.out q hqr
                      have hel := HPW.out _ (List.getElem_mem hqr)
                      have he2 := HE2.out
                      rw [List.drop_eq_getElem_cons hqr] at he2
                      obtain ⟨e, hee⟩ : ∃ e, W[q] = e := ⟨_, rfl⟩
                      rw [hee] at hel he2 c2
                      obtain ⟨r0, r1, f0, f1⟩ := HRC.out _ HBE.out
                      rcases condP_cases e with ⟨hcd, h32⟩ | ⟨hcd, h32, hsg⟩ | ⟨hcd, h32, hsg, hwd⟩ | ⟨hcd, h32, hsg, hwd⟩
                      · have HRN : Hid (RA = none) := by show _ = _; rw [← he2]; exact mapM_stop hcd
                        have HX2 : Hid (X = (2, zeroA)) := HXE.out HRN.out
                        have HPL3 := Lib.hid (place_no e 32 z2 hel h32)
                        clear he2 hee hcd h32
                        go_wp2_with fail
                        refine HPL3.out.mono ?_
                        rintro _ z ⟨rfl, rfl⟩
                        go_wp2_with fail
                        (try simp only [Exit.inBlock, Exit.then])
                        exact bodyPost_ret (res_atom (HRC.out _ HBE.out) rfl rfl) rfl (HPD.out _ HBE.out [] none 0 0 2 [] HX2.out rfl (srow_zero _))
                      · have HRN : Hid (RA = none) := by show _ = _; rw [← he2]; exact mapM_stop hcd
                        have HX2 : Hid (X = (2, zeroA)) := HXE.out HRN.out
                        have HPL3 := Lib.hid (place_yes e 32 z2 hel h32)
                        obtain ⟨hlt2, hya, hyb⟩ := cut_texts e 32 h32
                        obtain ⟨sg, hsg2⟩ : ∃ x, Vm.fst 32 e = x := ⟨_, rfl⟩
                        rw [hsg2] at HPL3 hlt2 hya hyb hsg
                        have HSG := Lib.hid hsg
                        clear he2 hee hcd h32 hsg hsg2 hyb
                        go_wp2_with fail
                        refine HPL3.out.mono ?_
                        rintro _ z ⟨rfl, rfl⟩
                        go_wp2_with fail
                        refine (refSigns_any sg _).mono ?_
                        rintro _ z ⟨rfl, rfl⟩
                        rw [HSG.out]
                        go_wp2_with fail
                        (try simp only [Exit.inBlock, Exit.then])
                        exact bodyPost_ret (res_atom (HRC.out _ HBE.out) rfl rfl) rfl (HPD.out _ HBE.out [] none 0 0 2 [] HX2.out rfl (srow_zero _))
                      · have HRN : Hid (RA = none) := by show _ = _; rw [← he2]; exact mapM_stop hcd
                        have HX2 : Hid (X = (2, zeroA)) := HXE.out HRN.out
                        have HPL3 := Lib.hid (place_yes e 32 z2 hel h32)
                        obtain ⟨hlt2, hya, hyb⟩ := cut_texts e 32 h32
                        obtain ⟨sg, hsg2⟩ : ∃ x, Vm.fst 32 e = x := ⟨_, rfl⟩
                        obtain ⟨vr, hvr⟩ : ∃ x, Vm.snd 32 e = x := ⟨_, rfl⟩
                        have hvl2 : vr.length ≤ 4000 := by rw [← hvr]; unfold Vm.snd; rw [List.length_drop]; have := (List.dropWhile_sublist (· != (32 : UInt8)) (l := e)).length_le; omega
                        rw [hsg2] at HPL3 hlt2 hya hyb hsg
                        rw [hvr] at hyb hwd
                        have HSG := Lib.hid hsg
                        have HWD := Lib.hid hwd
                        clear he2 hee hcd h32 hsg hsg2 hvr hwd
                        go_wp2_with fail
                        refine HPL3.out.mono ?_
                        rintro _ z ⟨rfl, rfl⟩
                        go_wp2_with fail
                        refine (refSigns_any sg _).mono ?_
                        rintro _ z ⟨rfl, rfl⟩
                        rw [HSG.out]
                        go_wp2_with fail
                        refine (refBytes_any vr _ hvl2).mono ?_
                        rintro _ z ⟨rfl, rfl⟩
                        rw [HWD.out]
                        go_wp2_with fail
                        (try simp only [Exit.inBlock, Exit.then])
                        exact bodyPost_ret (res_atom (HRC.out _ HBE.out) rfl rfl) rfl (HPD.out _ HBE.out [] none 0 0 2 [] HX2.out rfl (srow_zero _))
                      · have HE3 := Lib.hid ((mapM_step (acc := acc) hcd).symm.trans he2)
                        have HPL3 := Lib.hid (place_yes e 32 z2 hel h32)
                        obtain ⟨hlt2, hya, hyb⟩ := cut_texts e 32 h32
                        obtain ⟨sg, hsg2⟩ : ∃ x, Vm.fst 32 e = x := ⟨_, rfl⟩
                        obtain ⟨vr, hvr⟩ : ∃ x, Vm.snd 32 e = x := ⟨_, rfl⟩
                        have hvl2 : vr.length ≤ 4000 := by rw [← hvr]; unfold Vm.snd; rw [List.length_drop]; have := (List.dropWhile_sublist (· != (32 : UInt8)) (l := e)).length_le; omega
                        rw [hsg2] at HPL3 hlt2 hya hyb hsg HE3
                        rw [hvr] at hyb hwd HE3
                        have HSG := Lib.hid hsg
                        have HWD := Lib.hid hwd
                        have HQ := Lib.hid hq
                        clear he2 hee hcd h32 hsg hsg2 hvr hwd
                        go_wp2_with fail
                        refine HPL3.out.mono ?_
                        rintro _ z ⟨rfl, rfl⟩
                        go_wp2_with fail
                        refine (refSigns_any sg _).mono ?_
                        rintro _ z ⟨rfl, rfl⟩
                        rw [HSG.out]
                        go_wp2_with fail
                        refine (refBytes_any vr _ hvl2).mono ?_
                        rintro _ z ⟨rfl, rfl⟩
                        rw [HWD.out]
                        go_wp2_with fail
                        go_round
                        case rel => exact ⟨q + 1, y + 1, acc ++ [(sg, vr)], by omega, by go_num, by go_num, by omega, by show (acc ++ [(sg, vr)]).length = _; rw [List.length_append, HAQ.out]; rfl, by have := HXY.out; show _ = _; omega, HE3⟩
                        case measure => simp [intOf]; omega
                    · obtain rfl : q = n2 := by omega
                      have HRS : Hid (RA = some acc) := by show _ = _; rw [← HE2.out, List.drop_eq_nil_of_le (by rw [HN2.out]; exact Nat.le_refl _)]; show some (acc ++ []) = _; rw [List.append_nil]
                      have HWM : Hid (W.mapM condP = some acc) := by show _ = _; rw [HRA.out]; exact HRS.out
                      have HEE := Lib.hid (HXS.out acc HRS.out)
                      have HSZ : Hid (ps.length + 1 ≤ 1000000) := by have := HPK.out; show _ ≤ _; omega
                      have HVV : Hid (vers (T ++ [acc]) = y) := by show _ = _; rw [vers_app, HVX.out, HAQ.out]; exact HXY.out
                      have HLTK := Lib.hid hlt
                      go_wp2_with (at_builtin; refine Gr.wpList_gapp sliceSS rfl (.tmp 125) (.tmp 127) rfl z1.heap.size _ ps W A2 _ c2' rfl rfl (Gr.own_below HO.out HB2.out) HN2.out HROW2.out (Gr.fresh HO.out (Nat.le_refl _) HF2.out W) HSZ.out (Nat.le_trans HB.out.2 HB2.out.size) ?_)
                      intro v5 W5 hT5 hb5 hz5
                      have HO5 := Lib.hid hT5
                      have HB5 : Hid (Below z1.heap.size z1 W5 ∧ z1.heap.size ≤ W5.heap.size) := ⟨(HB.out.1.trans (HB2.out.mono HB.out.2)).trans hb5, Nat.le_trans (Nat.le_trans HB.out.2 HB2.out.size) hz5⟩
                      clear hT5 hb5 hz5 HO HB HB2 HROW2
                      go_wp2_with fail
                      go_roundw
                      case rel => exact ⟨k + 1, y, ps ++ [W], T ++ [acc], (by have := HLTK.out; omega), by go_num, rfl, by omega, HO5, by show (ps ++ [W]).length = _; rw [List.length_append, HPK.out]; rfl, ways_snoc HWY.out HWM.out, HVV, HEE, HB5, fun p hp => by
                        rcases List.mem_append.1 hp with hp | hp
                        · exact HEP.out p hp
                        · rw [List.mem_singleton.1 hp]; exact HPW.out⟩
                      case measure => have := HLTK.out; simp [intOf]; omega
                · obtain rfl : k = n1 := by omega
                  have HTS : Hid (termP v = some T) := by show _ = _; rw [HR.out, ← HE.out, List.drop_eq_nil_of_le (by rw [HN1.out]; exact Nat.le_refl _)]; show some (T ++ []) = _; rw [List.append_nil]
                  obtain ⟨C, d, rfl, hrow⟩ := Gr.row_own HO.out
                  have HROWG := Lib.hid hrow
                  have hpk : ps.length = k := HPK.out
                  have HBF : Hid (Below W1.heap.size W1 wr) := HB1.out.trans (HB.out.1.mono HB1.out.size)
                  clear hrow
                  go_wp2_with fail
                  go_meet
                  case rel => exact ⟨T, ps, C, _, d, x, rfl, rfl, by omega, by omega, HTS, HWY.out, rfl, HVX.out, HROWG.out, HBF.out, HEP.out⟩
          case rest =>
            obtain ⟨T, ps, C, m, d, x, rfl, rfl, hx, hm, HTP, HWY, HPM, HVX, HROW, HBC, HEP⟩ := hcut
            have HX2 : Hid (X = readA nm T) := by show _ = _; rw [HX.out, HTP.out]
            clear HX r0 r1 f0 f1 hxa hxb hxc hc0 hcn n0 n1 d3
            obtain ⟨r0, r1, f0, f1⟩ := HRC.out _ HBC.out
            go_wp2_with fail
            refine (refName_any nm _ (by unfold maxLen; omega)).mono ?_
            rintro _ z ⟨rfl, rfl⟩
            cases hnb : nameB nm
            · have HX3 : Hid (X = (3, zeroA)) := by show _ = _; rw [HX2.out]; unfold readA; rw [hnb]; rfl
              clear hnb
              go_wp2_with fail
              exact bodyPost_ret (res_atom (HRC.out _ HBC.out) rfl rfl) rfl (HPD.out _ HBC.out [] none 0 0 3 [] HX3.out rfl (srow_zero _))
            · obtain ⟨R3, hR3⟩ : ∃ R, hTerm [] T = R := ⟨_, rfl⟩
              have HX3 : Hid (X = if x ≤ 16 then (if R3.1 = 0 then (if checkA ⟨nm, R3.2.map spOf⟩ = 0 then (0, ⟨nm, R3.2.map spOf⟩) else (checkA ⟨nm, R3.2.map spOf⟩, zeroA)) else (R3.1, zeroA)) else (4, zeroA)) := by show _ = _; rw [HX2.out]; unfold readA; rw [hnb, HVX.out, hR3]; rfl
              have HR3 := Lib.hid hR3
              clear hnb hR3 HX2
              by_cases h16 : 16 < x
              · have d16 : decide ((16 : Int) < (x : Int)) = true := decide_eq_true (by omega)
                have HX4 : Hid (X = (4, zeroA)) := by show _ = _; rw [HX3.out, if_neg (by omega)]
                clear h16
                go_wp2_with fail
                exact bodyPost_ret (res_atom (HRC.out _ HBC.out) rfl rfl) rfl (HPD.out _ HBC.out [] none 0 0 4 [] HX4.out rfl (srow_zero _))
              · have d16 : decide ((16 : Int) < (x : Int)) = false := decide_eq_false (by omega)
                have HX4 : Hid (X = if R3.1 = 0 then (if checkA ⟨nm, R3.2.map spOf⟩ = 0 then (0, ⟨nm, R3.2.map spOf⟩) else (checkA ⟨nm, R3.2.map spOf⟩, zeroA)) else (R3.1, zeroA)) := by show _ = _; rw [HX3.out, if_pos (by omega)]
                clear h16 HX3
                have HMC : Hid (MaxOk wc) := maxOk_below HM1.out HBC.out
                have HTL : Hid (T.length = m) := by have := HWY.out.1; show _ = _; rw [← this, HPM.out]
                have HSZT : Hid (∀ l ∈ T, l.length ≤ 4001) := (termP_size hvl HTP.out).2
                clear r0 r1 f0 f1
                go_wp2_with fail
                go_loopw [14, 15] (fun v14 i wr => ∃ (k : Nat) (C1 : Option Addr) (m1 d1 : Nat) (r : List (Rm.P Cut)), k ≤ m ∧ i = .int .i64 k ∧ v14 = .slice C1 m1 d1 ∧ Hid (St wc wr [⟨C1, m1, r.map spOf⟩]) ∧ Hid (Rs.Good r) ∧ Hid (hTerm r (T.drop k) = R3)) (fun _ i _ => m - (intOf i).toNat)
                case atStart => exact ⟨0, none, 0, 0, [], Nat.zero_le _, rfl, rfl, ⟨HMC.out, Below.refl _ _, fun x hx => by rw [List.mem_singleton.1 hx]; exact ⟨srow_nil _ _, rfl⟩⟩, good_nil, HR3.out⟩
                case round =>
                  obtain ⟨k, C1, m1, d1, r, hk, rfl, rfl, HW, HG, HH⟩ := hrel
                  by_cases hlt : k < m
                  · have hkp : k < ps.length := by rw [HPM.out]; exact hlt
                    have hkt : k < T.length := by rw [HTL.out]; exact hlt
                    obtain ⟨ad, C2, n2, c2, rfl, hadl, c0, hn2, hrow2⟩ := Gr.row_at HROW.out k hkp
                    obtain ⟨W, hW⟩ : ∃ W, ps[k] = W := ⟨_, rfl⟩
                    obtain ⟨l, hl⟩ : ∃ l, T[k] = l := ⟨_, rfl⟩
                    have hWl : W.mapM condP = some l := HWY.out.2 k W l (by rw [List.getElem?_eq_getElem hkp, hW]) (by rw [List.getElem?_eq_getElem hkt, hl])
                    have hd : T.drop k = l :: T.drop (k + 1) := by rw [List.drop_eq_getElem_cons hkt, hl]
                    have hln := HSZT.out _ (List.getElem_mem hkt)
                    rw [hl] at hln
                    rw [hW] at hn2 hrow2
                    have hlW : l.length = W.length := (mapM_all hWl).1
                    have hh := HH.out
                    rw [hd, hTerm_step] at hh
                    obtain ⟨RA, hRA⟩ : ∃ x, hAlt allR l = x := ⟨_, rfl⟩
                    have HGA : Hid (Rs.Good RA.2) := by show Rs.Good _; rw [← hRA]; exact hAlt_good l _ goodAll
                    rw [hRA] at hh
                    have HRA := Lib.hid hRA
                    have HHH := Lib.hid hh
                    have HN2 := Lib.hid hn2
                    have HROW2 := Lib.hid hrow2
                    have HC0 := Lib.hid c0
                    have HWL := Lib.hid hWl
                    have HLW : Hid (l.length = n2) := by show _ = _; rw [hlW]; exact hn2
                    have hn2l : n2 ≤ 4001 := by rw [← HLW.out]; exact hln
                    have HADL := Lib.hid hadl
                    have hWm : Hid (W ∈ ps) := by show _ ∈ _; rw [← hW]; exact List.getElem_mem hkp
                    clear hd hl hh hRA hn2 hrow2 hW hWl hln hlW c0 hadl
                    have c0 := (HW.out.2.1.cell (p := ad.add k) (by rw [add_block]; exact HADL.out)).trans HC0.out
                    go_wp2_with fail
                    refine (s_refAll HW.out).mono ?_
                    rintro _ u1 ⟨C3, m3, d3, rfl, hs⟩
                    have HS1 := Lib.hid hs
                    clear hs c0
                    go_wp2_with fail
                    go_loopw [16, 17] (fun v16 j wq => ∃ (q : Nat) (C3 : Option Addr) (m3 d3 : Nat) (r3 : List (Rm.P Cut)), q ≤ n2 ∧ j = .int .i64 q ∧ v16 = .slice C3 m3 d3 ∧ Hid (St wc wq [⟨C3, m3, r3.map spOf⟩, ⟨C1, m1, r.map spOf⟩]) ∧ Hid (Rs.Good r3) ∧ Hid (hAlt r3 (l.drop q) = RA)) (fun _ j _ => n2 - (intOf j).toNat)
                    case atStart => exact ⟨0, C3, m3, d3, allR, Nat.zero_le _, rfl, rfl, HS1, goodAll, HRA.out⟩
                    case round =>
                      clear HS1
                      obtain ⟨q, C3, m3, d3, r3, hq, rfl, rfl, HS, HG3, HH3⟩ := hrel
                      have c0 := (HS.out.2.1.cell (p := ad.add k) (by rw [add_block]; exact HADL.out)).trans HC0.out
                      by_cases hqn : q < n2
                      · have hqw : q < W.length := by rw [HN2.out]; exact hqn
                        have hql : q < l.length := by rw [HLW.out]; exact hqn
                        obtain ⟨ad2, rfl, _, c2'⟩ := txt_at (Rg.row_below HROW2.out HS.out.2.1) q hqw
                        have hcd := mapM_get HWL.out q hqw hql
                        have hd := List.drop_eq_getElem_cons hql
                        obtain ⟨e, hee⟩ : ∃ e, W[q] = e := ⟨_, rfl⟩
                        obtain ⟨cd, hcc⟩ : ∃ c, l[q] = c := ⟨_, rfl⟩
                        rw [hee] at hcd c2'
                        rw [hcc] at hcd hd
                        obtain ⟨h32, rfl⟩ := condP_some hcd
                        have hel : e.length ≤ 4000 := HEP.out W (hWm.out) e (by rw [← hee]; exact List.getElem_mem hqw)
                        have HPL3 := Lib.hid (place_yes e 32 wr hel h32)
                        obtain ⟨hlt2, hya, hyb⟩ := cut_texts e 32 h32
                        obtain ⟨sg, hsg2⟩ : ∃ x, Vm.fst 32 e = x := ⟨_, rfl⟩
                        obtain ⟨vr, hvr⟩ : ∃ x, Vm.snd 32 e = x := ⟨_, rfl⟩
                        rw [hsg2] at HPL3 hlt2 hya hyb hd
                        rw [hvr] at hyb hd
                        have hh := HH3.out
                        rw [hd, hAlt_step] at hh
                        dsimp only at hh
                        obtain ⟨x1, hx1⟩ : ∃ x, ofR sg vr = x := ⟨_, rfl⟩
                        obtain ⟨y, hy⟩ : ∃ y, ofE sg vr = y := ⟨_, rfl⟩
                        have HGX : Hid (Rs.Good x1) := by show Rs.Good _; rw [← hx1]; exact ofR_good _ _
                        rw [hx1, hy] at hh
                        have HX1 := Lib.hid hx1
                        have HY := Lib.hid hy
                        have HHA := Lib.hid hh
                        clear hd hh hcd hcc hee hx1 hy h32 hsg2 hvr HH3
                        go_wp2_with fail
                        refine HPL3.out.mono ?_
                        rintro _ z ⟨rfl, rfl⟩
                        go_wp2_with fail
                        have HS1 : Hid (St wc wr.drew [⟨C3, m3, r3.map spOf⟩, ⟨C1, m1, r.map spOf⟩]) := st_step HS.out (Below.refl _ _).drew
                        have hb0 : (0 : Int) ≤ (sg.length : Int) := by omega
                        have hb1 : (sg.length : Int) ≤ (e.length : Int) := by omega
                        have hb2 : (0 : Int) ≤ (sg.length : Int) + 1 := by omega
                        have hb3 : (sg.length : Int) + 1 ≤ (e.length : Int) := by omega
                        have hb4 : IntKind.i64.wrap ((sg.length : Int) + 1) = (sg.length : Int) + 1 := IntWalk.i64_in _ (by omega)
                        have hb5 : ((sg.length : Int) + 1).toNat = sg.length + 1 := by omega
                        go_region_held3 (fun _ => True)
                          (trivial)
                          (first
                            | (go_at_call 68; refine (s_refOf HS1.out sg vr x1 y HX1.out HY.out).mono ?_; rintro _ u2 ⟨C4, n4, d4, rfl, hs⟩; have HS2 := Lib.hid hs; clear hs))
                        clear c0 c2' HS1
                        by_cases hy0 : y = 0
                        · subst hy0
                          go_wp2_with fail
                          refine (s_refAnd HS2.out 1 0 rfl rfl HG3.out HGX.out _ _ _ rfl).mono ?_
                          rintro _ u4 ⟨C5, n5, d5, rfl, hs⟩
                          have HS4 : Hid (St wc u4 [⟨C5, n5, (andR r3 x1).map spOf⟩, ⟨C1, m1, r.map spOf⟩]) := st_two (st_two hs)
                          have HG4 : Hid (Rs.Good (andR r3 x1)) := goodA HG3.out HGX.out
                          have HH4 : Hid (hAlt (andR r3 x1) (l.drop (q + 1)) = RA) := by show _ = _; have h := HHA.out; first | rwa [if_pos rfl] at h | rwa [if_pos trivial] at h
                          clear hs HS2 HS
                          go_wp2_with fail
                          go_roundw
                          case rel => exact ⟨q + 1, C5, n5, d5, andR r3 x1, by omega, by go_num, rfl, HS4, HG4, HH4⟩
                          case measure => simp [intOf]; omega
                        · have hne : (y != 0) = true := by simpa using hy0
                          have HRE : Hid (RA = (y, [])) := by show _ = _; have h := HHA.out; rw [if_neg hy0] at h; exact h.symm
                          have HR5 : Hid (R3 = (y, [])) := by show _ = _; have h := HHH.out; rw [HRE.out, if_neg hy0] at h; exact h.symm
                          have HX5 : Hid (X = (y, zeroA)) := by show _ = _; rw [HX4.out, HR5.out]; exact if_neg hy0
                          have HBE : Hid (Below W1.heap.size W1 u2) := HBC.out.trans (HS2.out.2.1.mono HBC.out.size)
                          clear hy0
                          obtain ⟨r0, r1, f0, f1⟩ := HRC.out _ HBE.out
                          go_wp2_with fail
                          (try simp only [Exit.inBlock, Exit.then])
                          exact bodyPost_ret (res_atom (HRC.out _ HBE.out) rfl rfl) rfl (HPD.out _ HBE.out [] none 0 0 y [] HX5.out rfl (srow_zero _))
                      · obtain rfl : q = n2 := by omega
                        have HRE : Hid (RA = (0, r3)) := by show _ = _; rw [← HH3.out, List.drop_eq_nil_of_le (by rw [HLW.out]; exact Nat.le_refl _)]; rfl
                        have HH4 : Hid (hTerm (orR r r3) (T.drop (k + 1)) = R3) := by show _ = _; have h := HHH.out; rw [HRE.out, if_pos rfl] at h; exact h
                        have HG4 : Hid (Rs.Good (orR r r3)) := goodO HG.out HG3.out
                        have HLTK := Lib.hid hlt
                        go_wp2_with fail
                        refine (s_refOr HS.out 1 0 rfl rfl HG.out HG3.out _ _ _ rfl).mono ?_
                        rintro _ u4 ⟨C5, n5, d5, rfl, hs⟩
                        have HS4 : Hid (St wc u4 [⟨C5, n5, (orR r r3).map spOf⟩]) := st_two (st_two hs)
                        clear hs HS c0
                        go_wp2_with fail
                        go_roundw
                        case rel => exact ⟨k + 1, C5, n5, d5, orR r r3, (by have := HLTK.out; omega), by go_num, rfl, HS4, HG4, HH4⟩
                        case measure => have := HLTK.out; simp [intOf]; omega
                  · obtain rfl : k = m := by omega
                    have HRE : Hid (R3 = (0, r)) := by show _ = _; rw [← HH.out, List.drop_eq_nil_of_le (by rw [HTL.out]; exact Nat.le_refl _)]; rfl
                    have HX5 : Hid (X = if checkA ⟨nm, r.map spOf⟩ = 0 then (0, ⟨nm, r.map spOf⟩) else (checkA ⟨nm, r.map spOf⟩, zeroA)) := by show _ = _; rw [HX4.out, HRE.out]; exact if_pos rfl
                    obtain ⟨K, hK⟩ : ∃ K, checkA ⟨nm, r.map spOf⟩ = K := ⟨_, rfl⟩
                    have HX6 : Hid (X = if K = 0 then (0, ⟨nm, r.map spOf⟩) else (K, zeroA)) := by show _ = _; rw [HX5.out, hK]
                    have hml : (r.map spOf).length = m1 := (st_row HW.out 0 rfl).2
                    have hm64 : m1 ≤ 64 := by rw [← hml, List.length_map]; exact HG.out.2.2
                    have hal : Below wr.heap.size wr (wr.alloc (.cells #[.string ⟨nm.toArray⟩, .slice C1 m1 d1] 38)) := (Below.refl _ _).alloc (Nat.le_refl _) _
                    have HCA := Lib.hid (refCheckAtom_any nm C1 m1 d1 (r.map spOf) _ (maxOk_below (st_max HW.out) hal) (by unfold maxLen; omega) hml (srow_below (st_row HW.out 0 rfl).1 hal) (by omega))
                    rw [hK] at HCA
                    have HAL := Lib.hid hal
                    have HML := Lib.hid hml
                    clear hK hml hal HX5
                    go_wp2_with fail
                    refine HCA.out.mono ?_
                    rintro _ z5 ⟨rfl, hb5⟩
                    have HBX : Hid (Bx2 wr.heap.size nm C1 m1 d1 z5) := bx2_below (bx2_new wr nm C1 m1 d1 38) (by simp) hb5
                    have HB5 : Hid (Below wr.heap.size wr z5) := HAL.out.trans (hb5.mono HAL.out.size)
                    have HBE : Hid (Below W1.heap.size W1 z5) := HBC.out.trans ((HW.out.2.1.trans (HB5.out.mono HW.out.2.1.size)).mono HBC.out.size)
                    have HR5 : Hid (SRow z5 C1 (r.map spOf)) := srow_below (st_row HW.out 0 rfl).1 HB5.out
                    clear hb5
                    obtain ⟨r0, r1, f0, f1⟩ := HRC.out _ HBE.out
                    obtain ⟨k0, k1⟩ := HBX.out
                    by_cases hK0 : K = 0
                    · subst hK0
                      have HX7 : Hid (X = (0, ⟨nm, r.map spOf⟩)) := HX6.out
                      go_wp2_with fail
                      exact bodyPost_ret (res_atom (HRC.out _ HBE.out) rfl rfl) rfl (HPD.out _ HBE.out nm C1 m1 d1 0 _ HX7.out HML.out HR5.out)
                    · have hne : (K != 0) = true := by simpa using hK0
                      have HX7 : Hid (X = (K, zeroA)) := by show _ = _; rw [HX6.out, if_neg hK0]
                      clear hK0
                      go_wp2_with fail
                      exact bodyPost_ret (res_atom (HRC.out _ HBE.out) rfl rfl) rfl (HPD.out _ HBE.out [] none 0 0 K [] HX7.out rfl (srow_zero _))
        · have n1 : ((cn.toNat : Int) != 41) = true := by simp; omega
          have HX : Hid (X = (2, zeroA)) := by rw [body_right (by omega) hcn' (fun e => en (by rw [e]; rfl))] at hX; exact hX.symm
          clear hX hc0' hcn' e0 g0 en h3
          go_wp2_with fail
          exact bodyPost_ret (res_atom (HRC.out _ HR0.out) rfl rfl) rfl (HPD.out _ HR0.out [] none 0 0 2 [] HX.out rfl (srow_zero _))
      · have n0 : ((c0.toNat : Int) != 40) = true := by simp; omega
        have HX : Hid (X = (2, zeroA)) := by rw [body_left (by omega) hc0' (fun e => e0 (by rw [e]; rfl))] at hX; exact hX.symm
        clear hX hc0' hcn' e0 h3
        go_wp2_with fail
        exact bodyPost_ret (res_atom (HRC.out _ HR0.out) rfl rfl) rfl (HPD.out _ HR0.out [] none 0 0 2 [] HX.out rfl (srow_zero _))
end Go.Proofs.YtkdildgdodnbbaaGreatDoor

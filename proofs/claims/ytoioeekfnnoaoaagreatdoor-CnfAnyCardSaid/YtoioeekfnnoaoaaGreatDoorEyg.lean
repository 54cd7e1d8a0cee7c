/- Clauses read: Lines, read, walked. -/
import Derived.Test.YtoioeekfnnoaoaaGreatDoorEyf
import Derived.Test.YtoioeekfnnoaoaaGreatDoorEx
namespace Go.Proofs.YtoioeekfnnoaoaaGreatDoor.Cl
open Go.RowKit Up Sz
theorem cRow_front {w : World} {A : Option Addr} {l : List (List UInt8)} (h : Rg.Row encT 1 w A l) : Rg.Row encT 1 w A l.dropLast := fun h0 => by
  rw [List.length_dropLast] at h0
  obtain ⟨a, e, hl, hc⟩ := h (by omega)
  refine ⟨a, e, hl, fun i hi => ?_⟩
  rw [List.getElem_dropLast]
  exact hc i (by rw [List.length_dropLast] at hi; omega)
theorem cPiece_le (sep : List UInt8) : ∀ (k : Nat) (s : List UInt8), ∀ p ∈ Lib.splitK sep 0 k s, p.length ≤ s.length
  | 0, s, p, hp => by
    unfold Lib.splitK at hp
    rw [List.mem_singleton.1 hp]; exact Nat.le_refl _
  | k + 1, s, p, hp => by
    unfold Lib.splitK at hp
    split at hp
    · rw [List.mem_singleton.1 hp]; exact Nat.le_refl _
    · rcases List.mem_cons.1 hp with e | hp
      · rw [e]; simp; omega
      · have := cPiece_le sep k _ p hp
        simp at this; omega
theorem cLine_le {s p : List UInt8} (h : p ∈ linesL s) : p.length ≤ s.length := cPiece_le [10] _ _ p (List.dropLast_subset _ h)
theorem cSuffix (s : List UInt8) : Lib.hasSuffix s [10] = !(s.isEmpty || !endB s) := by
  unfold Lib.hasSuffix
  rcases List.eq_nil_or_concat s with rfl | ⟨a, b, rfl⟩
  · rfl
  · rw [List.concat_eq_append]
    have h1 : (a ++ [b]).isEmpty = false := by simp
    have h2 : endB (a ++ [b]) = (b == 10) := by unfold endB; rw [h1]; simp
    rw [h1, h2]
    cases hb : b == 10
    · cases h : List.isSuffixOf [10] (a ++ [b])
      · rfl
      · obtain ⟨x, hx⟩ := List.isSuffixOf_iff_suffix.1 h
        have := (List.append_inj' hx rfl).2
        have : b = 10 := by simpa using this.symm
        rw [this] at hb; cases hb
    · have : b = 10 := by simpa using hb
      subst this
      exact List.isSuffixOf_iff_suffix.2 ⟨a, rfl⟩
attribute [local go_sem ↓] Go.wp_at_zero Go.wp_at_succ
set_option maxRecDepth 100000 in
set_option maxHeartbeats 800000 in
theorem cLines_any (s : List UInt8) (w : World) (hw : MaxOk w) (hs : s.length ≤ 300000) :
    Calls Tryz.prog 65 #[.string ⟨s.toArray⟩] w fun e w' => ∃ A n c, e = .returned (.slice A n c) ∧ (linesL s).length = n ∧ n ≤ s.length ∧ Rg.Row encT 1 w' A (linesL s) ∧ n < c ∧ Below w.heap.size w w' := by
  have hc := cSplit_any s [10] w hw (by omega) (by decide)
  have hns := split_some s
  have HL : Hid ((linesL s).length = (Lib.split s [10]).length - 1) := by show _ = _; unfold linesL; rw [List.length_dropLast]
  have HF : Hid (∀ (u : World) (A : Option Addr), Rg.Row encT 1 u A (Lib.split s [10]) → Rg.Row encT 1 u A (linesL s)) := fun u A h => cRow_front h
  have HC := Lib.hid hc
  have HNS : Hid (1 ≤ (Lib.split s [10]).length) := List.length_pos_iff.2 hns
  clear hc hns
  go_enter Tryz.func65, Tryz.ntmps65
  go_wp2_with fail
  refine HC.out.mono ?_
  rintro _ u hh
  obtain ⟨A, n, rfl, hn, hnl, hrow, hb⟩ := hh
  have h1 : 1 ≤ n := by rw [← hn]; exact HNS.out
  have HN := Lib.hid hn
  have HROW := Lib.hid (HF.out _ _ hrow)
  have HB := Lib.hid hb
  clear hn hrow hb
  have i0 : (0 : Int) ≤ (n : Int) - 1 := by omega
  have i1 : (n : Int) - 1 ≤ (n : Int) := by omega
  have i2 : ((n : Int) - 1).toNat = n - 1 := by omega
  go_wp2_with fail
  go_ret
  exact ⟨A, _, _, rfl, by rw [HL.out, HN.out], by omega, HROW.out, by omega, HB.out⟩
/-- How a text of clauses is read. -/
def ReadE (w : World) (s : List UInt8) (e : Ending) (w' : World) : Prop := (∃ (n : Nat) (l : List (List Int)) (C : Option Addr) (c : Nat), parseC s = (0, 0, n, l) ∧ e = .returned (.tuple #[.int .i64 n, .slice C l.length c]) ∧ GRow w' C l) ∨ (∃ (i : Nat) (k : Int), parseC s = (i, k, 0, []) ∧ k ≠ 0 ∧ (e = cPan i k ∨ (i = 0 ∧ e = pan k)))
theorem fin_end (N : Nat) (out : List (List Int)) : (allE N 1 out = .returned (.tuple #[]) ∧ finC N out = (0, 0, N, out)) ∨ (∃ (i : Nat) (k : Int), finC N out = (i, k, 0, []) ∧ k ≠ 0 ∧ (allE N 1 out = cPan i k ∨ (i = 0 ∧ allE N 1 out = pan k))) := by
  unfold finC checkAll
  by_cases h1 : nBad (N : Int) = true
  · refine .inr ⟨0, 1, ?_, by decide, .inr ⟨rfl, allE_vars h1⟩⟩
    rw [h1]; rfl
  · have h1' : nBad (N : Int) = false := by simpa using h1
    by_cases h2 : 131072 < out.length
    · refine .inr ⟨0, 4, ?_, by decide, .inr ⟨rfl, allE_long h1' h2⟩⟩
      rw [if_neg h1, if_pos h2, h1', decide_eq_true h2]; rfl
    · rw [if_neg h1, if_neg h2, h1', decide_eq_false h2, allE_each h1' h2]
      by_cases h3 : (firstC N 0 out).2 = 0
      · refine .inl ⟨by rw [h3, cOk_zero], by rw [if_pos h3]⟩
      · refine .inr ⟨(firstC N 0 out).1 + 1, (firstC N 0 out).2, by rw [if_neg h3]; rfl, h3, .inl ?_⟩
        rw [cOk_ne h3, show ((1 : Int) + ((firstC N 0 out).1 : Int)) = (((firstC N 0 out).1 + 1 : Nat) : Int) by omega]
set_option maxRecDepth 100000 in
set_option maxHeartbeats 6400000 in
theorem read_any (s : List UInt8) (hs : s.length ≤ 262144) (w : World) (hq : QC w) :
    Calls Tryz.prog 44 #[.string ⟨s.toArray⟩] w fun e w' => ReadE w s e w' ∧ Below w.heap.size w w' := by
  have d1 : decide ((s.length : Int) ≤ 262144) = true := decide_eq_true (by omega)
  have HSX := Lib.hid (Tryz.strings_HasSuffix ⟨s.toArray⟩ ⟨[10].toArray⟩ w (by show s.length ≤ _; omega))
  have HLN := Lib.hid (cLines_any s w hq.1 (by omega))
  have HQ := Lib.hid (fun u (h : Below w.heap.size w u) => qc_stays _ _ hq h)
  have HBAD : Hid (∀ (i : Nat) (k : Int) e w', parseC s = (i, k, 0, []) → k ≠ 0 → (e = cPan i k ∨ (i = 0 ∧ e = pan k)) → ReadE w s e w') := fun i k e w' h1 h2 h3 => .inr ⟨i, k, h1, h2, h3⟩
  have HGOOD : Hid (∀ (n : Nat) (l : List (List Int)) (C : Option Addr) (c : Nat) (w' : World), parseC s = (0, 0, n, l) → GRow w' C l → ReadE w s (.returned (.tuple #[.int .i64 n, .slice C l.length c])) w') := fun n l C c w' h1 h2 => .inl ⟨n, l, C, c, h1, rfl, h2⟩
  have hform := parse_form (s := s) hs
  have hsx := cSuffix s
  cases hE : (s.isEmpty || !endB s)
  case true =>
    have HZ := Lib.hid (hform hE)
    rw [hE] at hsx
    have HSX2 : Hid (Calls Tryz.prog 64 #[.string ⟨s.toArray⟩, .string ⟨[10].toArray⟩] w fun e w' => e = .returned (.bool false) ∧ w = w') := HSX.out.mono fun _ _ h => ⟨by rw [h.1]; exact congrArg (fun b => Ending.returned (.bool b)) hsx, h.2.symm⟩
    clear hform hsx hE HSX HLN hq
    go_enter Tryz.func44, Tryz.ntmps44
    go_wp2_with fail
    refine (require_yes _).mono ?_
    rintro _ z ⟨rfl, rfl⟩
    clear d1
    go_wp2_with fail
    refine HSX2.out.mono ?_
    rintro _ z ⟨rfl, rfl⟩
    go_wp2_with fail
    refine (require_no _).mono ?_
    rintro _ z ⟨rfl, rfl⟩
    go_wp2_with fail
    exact ⟨rfl, HBAD.out 0 2 _ _ HZ.out (by decide) (.inr ⟨rfl, rfl⟩), Below.refl _ _⟩
  rw [hE] at hsx
  have HSX2 : Hid (Calls Tryz.prog 64 #[.string ⟨s.toArray⟩, .string ⟨[10].toArray⟩] w fun e w' => e = .returned (.bool true) ∧ w = w') := HSX.out.mono fun _ _ h => ⟨by rw [h.1]; exact congrArg (fun b => Ending.returned (.bool b)) hsx, h.2.symm⟩
  have hpos := lines_some hE
  have hgo := fun n k => parse_go (s := s) hs hE (n := n) (k := k)
  have hhd := parse_head (s := s) hs hE
  have hll : ∀ p ∈ linesL s, p.length ≤ 262144 := fun p h => Nat.le_trans (cLine_le h) hs
  obtain ⟨ls, hls⟩ : ∃ ls, linesL s = ls := ⟨_, rfl⟩
  rw [hls] at HLN hpos hgo hhd hll
  have HGO := Lib.hid hgo
  have HHD := Lib.hid hhd
  have HLL := Lib.hid hll
  have HPOS := Lib.hid hpos
  obtain ⟨P, hP⟩ : ∃ P, parseC s = P := ⟨_, rfl⟩
  rw [hP] at HGO HHD HBAD HGOOD
  clear hform hsx hE HSX hq hpos hgo hhd hll hls hP
  go_enter Tryz.func44, Tryz.ntmps44
  go_wp2_with fail
  refine (require_yes _).mono ?_
  rintro _ z ⟨rfl, rfl⟩
  clear d1
  go_wp2_with fail
  refine HSX2.out.mono ?_
  rintro _ z ⟨rfl, rfl⟩
  go_wp2_with fail
  refine (require_yes _).mono ?_
  rintro _ z ⟨rfl, rfl⟩
  go_wp2_with fail
  refine HLN.out.mono ?_
  rintro _ w1 ⟨A, n, c, rfl, hn, hns, hrow, hnc, hb⟩
  have HB1 := Lib.hid hb
  have HROW := Lib.hid hrow
  have hpos := HPOS.out
  obtain ⟨ad, x, rfl, hx, hxb, hxc⟩ := trow_at hrow 0 hpos
  obtain ⟨q, rfl⟩ : ∃ q, n = q + 1 := ⟨n - 1, by omega⟩
  have HN := Lib.hid hn
  have hq9 : q ≤ 262144 := by omega
  have HX : Hid (ls.headD [] = x) := by
    show _ = _
    rw [← hx]
    cases ls with
    | nil => simp at hpos
    | cons a r => rfl
  have hxl : x.length ≤ 262144 := by rw [← hx]; exact HLL.out _ (List.getElem_mem _)
  have HHO := Lib.hid (headOf_any x (by omega) w1 (HQ.out w1 hb))
  rw [Rg.add_zero] at hxc
  have n0 : (0 : Int) < ((q + 1 : Nat) : Int) := by omega
  have HNC := Lib.hid hnc
  clear hn hrow hb hx hxb hxl hpos HSX2 HLN hns hnc
  go_wp2_with fail
  refine HHO.out.mono ?_
  rintro e w2 ⟨he, hb2⟩
  have HB2 := Lib.hid hb2
  have HB12 := Lib.hid (HB1.out.trans (hb2.mono HB1.out.size))
  clear hb2 hxc HHO
  rcases he with ⟨N, M, hH, rfl⟩ | ⟨hH, he⟩
  case inr =>
    have HZ := Lib.hid (HHD.out (.inl (by rw [HX.out]; exact hH)))
    clear hH
    rcases he with rfl | rfl
    · go_wp2_with fail
      exact ⟨rfl, HBAD.out 0 2 _ _ HZ.out (by decide) (.inr ⟨rfl, rfl⟩), HB12.out⟩
    · go_wp2_with fail
      exact ⟨rfl, HBAD.out 0 2 _ _ HZ.out (by decide) (.inl rfl), HB12.out⟩
  have hH' : headP (ls.headD []) = some (N, M) := by rw [HX.out]; exact hH
  have wq : ((q + 1 : Nat) : Int) - 1 = (q : Int) := by omega
  have wq2 : IntKind.i64.wrap (((q + 1 : Nat) : Int) - 1) = (q : Int) := (IntWalk.i64_in _ (by omega)).trans (by omega)
  have wq3 : IntKind.i64.wrap (q : Int) = (q : Int) := IntWalk.i64_in _ (by omega)
  by_cases hM : M = q
  case neg =>
    have HZ := Lib.hid (HHD.out (.inr ⟨N, M, hH', by have := HN.out; omega⟩))
    have d : ((q : Int) == (M : Int)) = false := by rw [beq_eq_false_iff_ne]; omega
    clear hH hH' hM
    go_wp2_with fail
    refine (require_no _).mono ?_
    rintro _ z ⟨rfl, rfl⟩
    go_wp2_with fail
    exact ⟨rfl, HBAD.out 0 2 _ _ HZ.out (by decide) (.inr ⟨rfl, rfl⟩), HB12.out⟩
  subst hM
  have HG := Lib.hid (HGO.out N M hH' (by have := HN.out; omega))
  have d : ((M : Int) == (M : Int)) = true := beq_self_eq_true _
  clear hH hH' HGO HHD
  go_wp2_with fail
  refine (require_yes _).mono ?_
  rintro _ z ⟨rfl, rfl⟩
  clear d
  have HDROP : Hid (Rg.Row encT 1 w1 (some ⟨ad.block, ad.off + 1, none⟩) (ls.drop 1)) := Rg.row_drop HROW.out 1 fun _ => rfl
  have HDL : Hid ((ls.drop 1).length = M) := by show _ = _; rw [List.length_drop, HN.out]; rfl
  have i0 : (1 : Int) ≤ ((M + 1 : Nat) : Int) := by omega
  have hcM : M + 1 < c := HNC.out
  have hc1 : ¬ c = 1 := by omega
  go_wp2_with fail
  clear i0 hcM hc1 wq wq2 wq3 n0
  obtain ⟨a2, ha2⟩ : ∃ a2, (⟨ad.block, ad.off + 1, none⟩ : Addr) = a2 := ⟨_, rfl⟩
  rw [ha2] at HDROP ⊢
  clear ha2
  go_loopw [7, 35] (fun v i wr => ∃ (k : Nat) (out : List (List Int)), k ≤ M ∧ i = .int .i64 k ∧ Hid (LSt ls (k + 1) out) ∧ Hid (Gr.Own encI 1 wr w2.heap.size 49 v out) ∧ Hid (Below w2.heap.size w2 wr ∧ w2.heap.size ≤ wr.heap.size)) (fun _ i _ => M - (intOf i).toNat)
  case atStart => exact ⟨0, [], Nat.zero_le _, rfl, lst_start ls, Gr.own_nil _ _ _, Below.refl _ _, Nat.le_refl _⟩
  case round =>
    obtain ⟨k, out, hk, rfl, HST, HO, HB⟩ := hrel
    by_cases hlt : k < M
    · have hkl : k + 1 < ls.length := by rw [HN.out]; omega
      have hkd : k < (ls.drop 1).length := by rw [HDL.out]; exact hlt
      obtain ⟨ad2, y, had, hy, hyb, hyc⟩ := trow_at (Rg.row_below (Rg.row_below HDROP.out HB2.out) HB.out.1) k hkd
      obtain rfl := Option.some.inj had
      have hy2 : ls[k + 1] = y := by
        rw [← hy, List.getElem_drop]
        have : ∀ i (h : i < ls.length), i = k + 1 → ls[k + 1] = ls[i] := fun i h e => by subst e; rfl
        exact this _ _ (by omega)
      have hyl : y.length ≤ 262144 := by rw [← hy2]; exact HLL.out _ (List.getElem_mem _)
      have HBW := Lib.hid (HB12.out.trans (HB.out.1.mono HB12.out.size))
      have HCL := Lib.hid (clauseOf_any y (by omega) ((k : Int) + 1) wr (HQ.out wr HBW.out))
      have hyes : ∀ c, clauseP y = some c → LSt ls (k + 1 + 1) (out ++ [c]) := fun c h => lst_more HST.out hkl (by rw [hy2]; exact h)
      have hno : clauseP y = none → P = (k + 1, 2, 0, []) := fun h => HG.out.1 (k + 1) (lst_bad HST.out hkl (by rw [hy2]; exact h))
      have HYES := Lib.hid hyes
      have HNO := Lib.hid hno
      have k0 : (0 : Int) ≤ (k : Int) := by omega
      have k1 : (k : Int) < (M : Int) := by omega
      have wk : IntKind.i64.wrap ((k : Int) + 1) = (k : Int) + 1 := IntWalk.i64_in _ (by omega)
      clear had hy hyb hkl hkd hyl hy2 hyes hno
      go_wp2_with fail
      refine HCL.out.mono ?_
      rintro e w3 ⟨he, hb3⟩
      have HB3 := Lib.hid hb3
      have HBZ : Hid (Below w2.heap.size w2 w3 ∧ w2.heap.size ≤ w3.heap.size) := ⟨HB.out.1.trans (HB3.out.mono HB.out.2), Nat.le_trans HB.out.2 HB3.out.size⟩
      clear hb3 hyc HCL wk
      rcases he with ⟨cc, C, cap, hcl, rfl, ho⟩ | ⟨hcl, rfl⟩
      · have HST2 := Lib.hid (HYES.out cc hcl)
        obtain ⟨C', cap', e', hrow4, _, _⟩ := Rg.row_own fitsI ho
        cases e'
        have HROW4 := Lib.hid hrow4
        have HFR := Lib.hid (Gr.fresh HO.out (Nat.le_refl _) (own_block ho) cc)
        have HSZ : Hid (out.length + 1 ≤ 1000000) := by have := HST.out.2.2.2; show _ ≤ _; omega
        obtain ⟨nn, hnn⟩ : ∃ nn, cc.length = nn := ⟨_, rfl⟩
        have HNN := Lib.hid hnn
        rw [hnn]
        clear hcl HYES HNO ho hrow4 hnn
        go_wp2_with (at_builtin; refine Gr.wpList_gapp sliceCC rfl (.tmp 40) (.tmp 45) rfl w2.heap.size _ out cc C nn cap rfl rfl (Gr.own_below HO.out HB3.out) HNN.out HROW4.out HFR.out HSZ.out HBZ.out.2 ?_)
        intro v5 W5 ho5 hb5 hz5
        have HO5 := Lib.hid ho5
        have HB5 : Hid (Below w2.heap.size w2 W5 ∧ w2.heap.size ≤ W5.heap.size) := ⟨HBZ.out.1.trans hb5, Nat.le_trans HBZ.out.2 hz5⟩
        clear ho5 hb5 hz5 HO HB HBZ HROW4 HFR HB3
        go_wp2_with fail
        go_roundw
        case rel => exact ⟨k + 1, out ++ [cc], by omega, by go_num, HST2.out, HO5.out, HB5.out⟩
        case measure => simp [intOf]; omega
      · have HZ := Lib.hid (HNO.out hcl)
        clear hcl HYES HNO
        go_wp2_with fail
        exact ⟨rfl, HBAD.out (k + 1) 2 _ _ HZ.out (by decide) (.inl (by rw [show (((k + 1 : Nat) : Int)) = (k : Int) + 1 by omega])), HB12.out.trans (HBZ.out.1.mono HB12.out.size)⟩
    · obtain rfl : k = M := by omega
      obtain ⟨hbad, hout⟩ := lst_end HST.out (by rw [HN.out])
      have hfin := HG.out.2 hbad
      rw [← hout] at hfin
      obtain ⟨V, vc, rfl, hgrow⟩ := Gr.row_own HO.out
      have HBW := Lib.hid (HB12.out.trans (HB.out.1.mono HB12.out.size))
      obtain ⟨z, hz⟩ : ∃ z, out.length = z := ⟨_, rfl⟩
      have HRA := Lib.hid (reqAll_any N V z vc out 1 (by decide) (by decide) wr hz hgrow)
      have HGROW := Lib.hid hgrow
      have HZL := Lib.hid hz
      have hend := fin_end N out
      rw [← hfin] at hend
      obtain ⟨E, hE⟩ : ∃ E, allE N 1 out = E := ⟨_, rfl⟩
      rw [hE] at HRA hend
      rw [hz]
      clear hbad hout hfin hgrow hz hE
      rcases hend with ⟨rfl, hP⟩ | ⟨i, e, hP, hk0, he⟩
      · have HP := Lib.hid hP
        clear hP
        go_wp2_with fail
        refine HRA.out.mono ?_
        first | rintro _ w4 rfl hb4 | rintro _ w4 ⟨rfl, hb4⟩
        have HB4 := Lib.hid (HBW.out.trans (hb4.mono HBW.out.size))
        have HGR := Lib.hid (Gr.row_below HGROW.out hb4)
        clear hb4
        have HFIN : Hid (ReadE w s (.returned (.tuple #[.int .i64 N, .slice V z vc])) w4) := by
          have := HGOOD.out N out V vc w4 HP.out HGR.out
          rw [HZL.out] at this; exact this
        go_wp2_with fail
        go_ret2
        exact ⟨HFIN.out, HB4.out⟩
      · have HP := Lib.hid hP
        have HK := Lib.hid hk0
        clear hP hk0
        rcases he with rfl | ⟨rfl, rfl⟩
        · go_wp2_with fail
          refine HRA.out.mono ?_
          first | rintro _ w4 rfl hb4 | rintro _ w4 ⟨rfl, hb4⟩
          have HB4 := Lib.hid (HBW.out.trans (hb4.mono HBW.out.size))
          clear hb4
          go_wp2_with fail
          exact ⟨rfl, HBAD.out i e _ _ HP.out HK.out (.inl rfl), HB4.out⟩
        · go_wp2_with fail
          refine HRA.out.mono ?_
          first | rintro _ w4 rfl hb4 | rintro _ w4 ⟨rfl, hb4⟩
          have HB4 := Lib.hid (HBW.out.trans (hb4.mono HBW.out.size))
          clear hb4
          go_wp2_with fail
          exact ⟨rfl, HBAD.out 0 e _ _ HP.out HK.out (.inr ⟨rfl, rfl⟩), HB4.out⟩
end Go.Proofs.YtoioeekfnnoaoaaGreatDoor.Cl

/- The lines of a text read one after another: walked. -/
import Derived.Test.YtmhobdlhmkbkdaaDoorSj
namespace Go.Proofs.YtmhobdlhmkbkdaaDoor
open Go.RowKit Go.Maps Sz
attribute [local go_sem ↓] Go.wp_at_zero Go.wp_at_succ
def Sz.ReadRet (w : World) (R : Int × Int × List (List Fld)) (e : Ending) (w' : World) : Prop :=
  Below w.heap.size w w' ∧ if R.1 = 0 then ∃ A c ds, e = .returned (.slice A R.2.2.length c) ∧ Rg.Row encO 1 w' A ds ∧ Gr.In encF 3 w' ds R.2.2 else e = panAt R.2.1 R.1
def Sz.KeysOk (w : World) (B : Nat) (v2 : Value) (last : List Fld) : Prop := last = [] ∨ ∃ m, v2 = .map (some m) ∧ B ≤ m ∧ KSet w m (last.map Fld.key)
theorem Sz.readRet_bad {w w' : World} {k n : Int} {l : List (List Fld)} (hk : k ≠ 0) (hb : Below w.heap.size w w') : ReadRet w (k, n, l) (panAt n k) w' := ⟨hb, by show if k = 0 then _ else _; rw [if_neg hk]⟩
theorem Sz.hasK_eq (l : List Fld) (k : List UInt8) : hasK l k = (l.map Fld.key).contains k := by
  induction l with
  | nil => rfl
  | cons f l ih =>
    rw [List.map_cons, List.contains_cons, ← ih]
    show (f.key == k || _) = _
    rw [show (f.key == k) = (k == f.key) by rw [Bool.eq_iff_iff, beq_iff_eq, beq_iff_eq]; exact eq_comm]; rfl
theorem Sz.key_len {k : List UInt8} (h : keyB k = true) : k.length ≤ 1000000 := by
  unfold keyB at h
  rw [Bool.and_eq_true, Bool.and_eq_true, decide_eq_true_eq] at h
  omega
set_option maxRecDepth 100000 in
set_option maxHeartbeats 3200000 in
theorem parseIn_some (s : List UInt8) (w : World) (hw : MaxOk w) (hs : s.length ≤ 65536) (h0 : s ≠ []) (h1 : Lib.hasSuffix s [10] = true) :
    Calls Tryd.prog 20 #[.string ⟨s.toArray⟩] w (Sz.ReadRet w (readL 0 (linesL s) [] [])) := by
  obtain ⟨R, hR⟩ : ∃ R, readL 0 (linesL s) [] [] = R := ⟨_, rfl⟩
  rw [hR]
  obtain ⟨W1, hW1⟩ : ∃ W, w.alloc (.cells #[.slice none 0 0, .slice none 0 0, .map none] 78) = W := ⟨_, rfl⟩
  have HB1 : Hid (Below w.heap.size w W1) := alloc_low hW1
  have HD1 : Hid (∀ B, DrO W1 B w.heap.size (.slice none 0 0) (.slice none 0 0) (.map none) [] [] []) := fun B => by rw [← hW1]; exact dro_new
  have HLN := Lib.hid (linesOf_any s W1 (maxOk_below hw HB1.out) (by omega))
  have HM1 : Hid (MaxOk W1) := maxOk_below hw HB1.out
  have HR := Lib.hid hR
  have HMW := Lib.hid hw
  have dl : decide ((s.length : Int) ≤ 65536) = true := decide_eq_true (by omega)
  have HSL := Lib.hid hs
  have hne : (s == []) = false := beq_eq_false_iff_ne.2 h0
  have hse : decide (s.length = 0) = false := decide_eq_false (fun e => h0 (List.length_eq_zero_iff.1 e))
  have HSF := Lib.hid h1
  clear h1 h0
  clear hw hR hs
  go_enter Tryd.func20, Tryd.ntmps20
  go_wp2_with fail
  refine (require_yes _).mono ?_
  rintro _ z ⟨rfl, rfl⟩
  go_wp2_with fail
  refine (Tryd.strings_HasSuffix ⟨s.toArray⟩ ⟨#[10]⟩ _ (by show s.length ≤ _; have := HSL.out; omega)).mono ?_
  rintro _ z ⟨rfl, hz⟩
  obtain rfl := hz.symm
  clear hz
  rw [show Lib.hasSuffix (⟨s.toArray⟩ : ByteArray).data.toList (⟨#[10]⟩ : ByteArray).data.toList = true from HSF.out]
  go_wp2_with fail
  refine (require_yes _).mono ?_
  rintro _ z ⟨rfl, rfl⟩
  go_wp2_with fail
  clear hW1
  refine HLN.out.mono ?_
  rintro _ u ⟨A, n, c, rfl, hn, hnl, hrow, hb⟩
  obtain ⟨D, hD⟩ : ∃ D, w.heap.size = D := ⟨_, rfl⟩
  have HD := Lib.hid hD
  have HDu : Hid (DrO u u.heap.size D (.slice none 0 0) (.slice none 0 0) (.map none) [] [] []) := by show DrO _ _ _ _ _ _ _ _ _; rw [← hD]; exact dro_below (HD1.out _) hb
  have HN := Lib.hid hn
  have HNL := Lib.hid hnl
  have HROW := Lib.hid hrow
  have HBu : Hid (Below D w u ∧ w.heap.size ≤ u.heap.size) := ⟨by rw [← hD]; exact HB1.out.trans (hb.mono HB1.out.size), Nat.le_trans HB1.out.size hb.size⟩
  have HMu : Hid (MaxOk u) := maxOk_below HM1.out hb
  rw [hD]
  clear hn hrow hb dl hnl hD HLN HD1 HB1
  go_wp2_with fail
  go_loopw [22] (fun i wr => ∃ (k : Nat) (acc : List (List Fld)) (last : List Fld) (ds : List Desc) (v0 v1 v2 : Value), i = .int .i64 k ∧ k ≤ n ∧ Hid (DrO wr u.heap.size D v0 v1 v2 ds acc last) ∧ Hid (KeysOk wr u.heap.size v2 last) ∧ Hid (readL k ((linesL s).drop k) acc last = R) ∧ Hid (Keeps u.heap.size D u wr ∧ u.heap.size ≤ wr.heap.size) ∧ Hid (ds.length + last.length ≤ k)) (fun i _ => n - (intOf i).toNat)
  case atStart => exact ⟨0, [], [], [], _, _, _, rfl, Nat.zero_le _, HDu, Or.inl rfl, HR, ⟨keeps_of (Below.refl _ _), Nat.le_refl _⟩, Nat.zero_le _⟩
  case round =>
    obtain ⟨k, acc, last, ds, v0, v1, v2, rfl, hk, HDR, HKO, HRD, HKP, HLE⟩ := hrel
    by_cases hlt : k < n
    · have hlr : k < (linesL s).length := by rw [HN.out]; exact hlt
      obtain ⟨ad, hA, hblk, hcell⟩ := txt_at HROW.out k hlr
      subst hA
      have hnd : ad.block ≠ D := by
        have := draft_no_text HDu.out (fun x h => by cases h) (fun x h => by cases h) (fun x h => by cases h) hcell
        rwa [Rs.add_block] at this
      have cw := (keeps_cell HKP.out.1 (a := ad.add k) (by rw [Rs.add_block]; exact hblk) (by rw [Rs.add_block]; exact hnd)).trans hcell
      have HLL : Hid ((linesL s)[k].length ≤ 65536) := Nat.le_trans (line_le (List.getElem_mem hlr)) HSL.out
      have hrd := HRD.out
      rw [List.drop_eq_getElem_cons hlr] at hrd
      have hrl : ((linesL s).drop (k + 1)).length = n - (k + 1) := by rw [List.length_drop, HN.out]
      obtain ⟨rest, hrest⟩ : ∃ x, (linesL s).drop (k + 1) = x := ⟨_, rfl⟩
      obtain ⟨ln, hln⟩ : ∃ x, (linesL s)[k] = x := ⟨_, rfl⟩
      rw [hln] at cw hrd HLL
      rw [hrest] at hrd hrl
      have HRS := Lib.hid hrest
      have HRLN := Lib.hid hrl
      have ik : (k : Int) < (n : Int) := by omega
      have hkw : IntKind.i64.wrap ((k : Int) + 1) = (k : Int) + 1 := IntWalk.i64_in _ (by have := HNL.out; have := HSL.out; omega)
      have hnw : IntKind.i64.wrap ((n : Int) - 1) = (n : Int) - 1 := IntWalk.i64_in _ (by have := HNL.out; have := HSL.out; omega)
      obtain ⟨A1, c1, hv1, _, _, _⟩ := Rg.row_own fitsF HDR.out.2.2.2.2.2.1
      obtain ⟨q, hq⟩ : ∃ q, last.length = q := ⟨_, rfl⟩
      rw [hq] at hv1
      subst hv1
      obtain ⟨e0, e1, e2, _, _, _⟩ := dro_cells HDR.out
      have HQ := Lib.hid hq
      have HBR : Hid (Below D w wr) := HBu.out.1.trans (keeps_low HKP.out.1 (Nat.le_trans (by rw [HD.out]; exact Nat.le_refl _) HBu.out.2))
      clear hcell hblk hnd hrest hln hrl hq
      by_cases hle : ln = []
      · subst hle
        have hrd2 : (if (last.isEmpty || rest.isEmpty) then (2, (k : Int), []) else readL (k + 1) rest (acc ++ [last]) []) = R := hrd
        by_cases hgo : 0 < q ∧ k + 1 < n
        · have i1 : (0 : Int) < (q : Int) := by omega
          have i2 : (k : Int) < (n : Int) - 1 := by omega
          have HR2 : Hid (readL (k + 1) rest (acc ++ [last]) [] = R) := by
            show _ = _
            rw [if_neg] at hrd2
            · exact hrd2
            · cases last with
              | nil => have := HQ.out; simp at this; omega
              | cons x l => cases rest with
                | nil => have := HRLN.out; simp at this; omega
                | cons y r => simp
          have HQ1 := Lib.hid hgo
          clear hgo hrd hrd2
          go_wp2_with fail
          refine (requireAt_yes _).mono ?_
          rintro _ z ⟨rfl, rfl⟩
          go_wp2_with fail
          refine (draftEnd_any HDR.out (by have := HLE.out; have := HNL.out; have := HSL.out; omega) HKP.out.2).mono ?_
          rintro _ z ⟨rfl, hkp, hsz, u0, u1, ds2, hd2⟩
          have hln0 : last ≠ [] := fun e => by have := HQ.out; rw [e] at this; simp at this; have := HQ1.out; omega
          rw [if_neg hln0] at hd2
          have HD2 := Lib.hid hd2
          have HK2 : Hid (Keeps u.heap.size D u z ∧ u.heap.size ≤ z.heap.size) := ⟨keeps_trans HKP.out.1 hkp, Nat.le_trans HKP.out.2 hsz⟩
          have HL2 : Hid (ds2.length + ([] : List Fld).length ≤ k + 1) := by
            have h1 := hd2.2.2.2.1.1
            have h2 := HDR.out.2.2.2.1.1
            rw [List.length_append] at h1
            have h3 := HLE.out
            have h4 := HQ.out
            have h5 := HQ1.out
            show ds2.length + 0 ≤ k + 1
            simp at h1
            omega
          clear hkp hsz hd2 hln0
          go_wp2_with fail
          go_roundw
          case rel => exact ⟨k + 1, acc ++ [last], [], ds2, _, _, _, by go_num, by omega, HD2, Or.inl rfl, by show readL _ _ _ _ = R; rw [HRS.out]; exact HR2.out, HK2, HL2⟩
          case measure => simp [intOf]; omega
        · have HRE : Hid (R = (2, (k : Int), [])) := by
            show _ = _
            rw [← hrd2, if_pos]
            cases last with
            | nil => rfl
            | cons x l => cases rest with
              | nil => simp
              | cons y r =>
                have h1 := HQ.out
                have h2 := HRLN.out
                simp at h1 h2
                omega
          clear hrd hrd2
          by_cases hq0 : 0 < q
          · have i1 : (0 : Int) < (q : Int) := by omega
            have i2 : ¬ (k : Int) < (n : Int) - 1 := by omega
            clear hgo hq0
            go_wp2_with fail
            refine (requireAt_no _).mono ?_
            rintro _ z ⟨rfl, rfl⟩
            go_wp2_with fail
            exact ⟨rfl, by show ReadRet w R _ _; rw [HRE.out]; exact readRet_bad (by decide) (by rw [HD.out]; exact HBR.out)⟩
          · have i1 : ¬ (0 : Int) < (q : Int) := by omega
            clear hgo hq0
            go_wp2_with fail
            refine (requireAt_no _).mono ?_
            rintro _ z ⟨rfl, rfl⟩
            go_wp2_with fail
            exact ⟨rfl, by show ReadRet w R _ _; rw [HRE.out]; exact readRet_bad (by decide) (by rw [HD.out]; exact HBR.out)⟩
      · have hrd2 : (match Sz.fieldP ln (k : Int) with | none => ((2 : Int), (k : Int), ([] : List (List Fld))) | some f => if hasK last f.key then (6, (k : Int), []) else readL (k + 1) rest acc (last ++ [f])) = R := by
          cases ln with
          | nil => exact absurd rfl hle
          | cons x t => exact hrd
        have lne : (ln == []) = false := beq_eq_false_iff_ne.2 hle
        have hfo := fieldOf_any ln (k : Int) wr (maxOk_below HMW.out (by rw [HD.out]; exact HBR.out)) (Nat.le_trans HLL.out (by decide))
        have hfb := @Sz.field_back ln (k : Int)
        obtain ⟨F, hF⟩ : ∃ F, Sz.fieldP ln (k : Int) = F := ⟨_, rfl⟩
        rw [hF] at hrd2 hfo hfb
        have HFO := Lib.hid hfo
        cases F with
        | none =>
          have HRE : Hid (R = (2, (k : Int), [])) := hrd2.symm
          clear hrd hrd2 hfo hfb hF hle
          go_wp2_with fail
          refine HFO.out.mono ?_
          rintro e z ⟨hb, he⟩
          have HBZ : Hid (Below D w z) := HBR.out.trans (hb.mono (Nat.le_trans (by rw [← HD.out]; exact HBu.out.2) HKP.out.2))
          have he2 : e = panAt k 2 := he
          subst he2
          clear hb he
          go_wp2_with fail
          exact ⟨rfl, by show ReadRet w R _ _; rw [HRE.out]; exact readRet_bad (by decide) (by rw [HD.out]; exact HBZ.out)⟩
        | some f =>
          obtain ⟨_, hline, hkb, _⟩ := hfb rfl
          have HLINE := Lib.hid hline
          have HKL := Lib.hid (key_len hkb)
          have HRX : Hid ((if hasK last f.key then ((6 : Int), (k : Int), ([] : List (List Fld))) else readL (k + 1) rest acc (last ++ [f])) = R) := hrd2
          clear hrd hrd2 hfo hfb hF hle hline hkb
          go_wp2_with fail
          refine HFO.out.mono ?_
          rintro e z ⟨hb, he⟩
          have he2 : e = .returned (.agg #[.string ⟨f.key.toArray⟩, .string ⟨f.val.toArray⟩, .int .i64 (k : Int)]) := he
          subst he2
          have HKZ : Hid (Keeps u.heap.size D u z ∧ u.heap.size ≤ z.heap.size) := ⟨keeps_trans HKP.out.1 (keeps_of (hb.mono HKP.out.2)), Nat.le_trans HKP.out.2 hb.size⟩
          have hdz := dro_below HDR.out hb
          have hadd : Calls Tryd.prog 35 #[.pointer (some ⟨D, 0, none⟩), .agg #[.string ⟨f.key.toArray⟩, .string ⟨f.val.toArray⟩, .int .i64 f.line]] z (Sz.AddRet z u.heap.size D v0 ds acc last f) := by
            have hsz1 : last.length + 1 ≤ 1000000 := by have := HLE.out; have := HNL.out; have := HSL.out; omega
            by_cases hl : last = []
            · exact draftAdd_first f hdz hsz1 HKL.out HKZ.out.2 hl
            · rcases HKO.out with h | ⟨m, h1, h2, h3⟩
              · exact absurd h hl
              · refine draftAdd_more f hdz hsz1 HKL.out HKZ.out.2 hl ⟨m, h1, h2, ?_⟩
                obtain ⟨_, _, ⟨_, _, hh, _⟩, _⟩ := id h3
                exact kset_below h3 hb (Array.getElem?_eq_some_iff.1 hh).1
          rw [HLINE.out] at hadd
          have HADD := Lib.hid hadd
          clear hb he hdz hadd HFO
          go_wp2_with fail
          refine HADD.out.mono ?_
          rintro e z2 ⟨hkp, hsz, hif⟩
          have HK2 : Hid (Keeps u.heap.size D u z2 ∧ u.heap.size ≤ z2.heap.size) := ⟨keeps_trans HKZ.out.1 hkp, Nat.le_trans HKZ.out.2 hsz⟩
          by_cases htw : (last.map Fld.key).contains f.key = true
          · rw [if_pos htw, HLINE.out] at hif
            have HRE : Hid (R = (6, (k : Int), [])) := by show _ = _; rw [← HRX.out, hasK_eq, if_pos htw]
            have HBZ : Hid (Below D w z2) := HBu.out.1.trans (keeps_low HK2.out.1 (Nat.le_trans (by rw [HD.out]; exact Nat.le_refl _) HBu.out.2))
            subst hif
            clear htw hkp hsz
            go_wp2_with fail
            exact ⟨rfl, by show ReadRet w R _ _; rw [HRE.out]; exact readRet_bad (by decide) (by rw [HD.out]; exact HBZ.out)⟩
          · rw [if_neg htw] at hif
            obtain ⟨rfl, u1, m, hbm, hd2, hks⟩ := hif
            have HR2 : Hid (readL (k + 1) rest acc (last ++ [f]) = R) := by show _ = _; rw [← HRX.out, hasK_eq, if_neg htw]
            have HD2 := Lib.hid hd2
            have HKO2 : Hid (KeysOk z2 u.heap.size (.map (some m)) (last ++ [f])) := Or.inr ⟨m, rfl, hbm, hks⟩
            have HL2 : Hid (ds.length + (last ++ [f]).length ≤ k + 1) := by have := HLE.out; show _ ≤ _; rw [List.length_append]; show _ + (_ + 1) ≤ _; omega
            clear htw hkp hsz hbm hd2 hks
            go_wp2_with fail
            go_roundw
            case rel => exact ⟨k + 1, acc, last ++ [f], ds, _, _, _, by go_num, by omega, HD2, HKO2, by show readL _ _ _ _ = R; rw [HRS.out]; exact HR2.out, HK2, HL2⟩
            case measure => simp [intOf]; omega
    · obtain rfl : k = n := by omega
      have HRE : Hid (R = (0, 0, if last = [] then acc else acc ++ [last])) := by
        show _ = _
        rw [← HRD.out, List.drop_eq_nil_of_le (by rw [HN.out]; exact Nat.le_refl _)]
        cases last <;> rfl
      have ik : ¬ (k : Int) < (k : Int) := by omega
      go_wp2_with fail
      refine (draftEnd_any HDR.out (by have := HLE.out; have := HNL.out; have := HSL.out; omega) HKP.out.2).mono ?_
      rintro _ z ⟨rfl, hkp, hsz, u0, u1, ds2, hd2⟩
      have HBZ : Hid (Below D w z) := HBu.out.1.trans (keeps_low (keeps_trans HKP.out.1 hkp) (Nat.le_trans (by rw [HD.out]; exact Nat.le_refl _) HBu.out.2))
      obtain ⟨A2, c2, hv2, hrow2, _, _⟩ := Rg.row_own fitsO hd2.2.2.1
      have hin2 := hd2.2.2.2.1
      subst hv2
      obtain ⟨e0, _, _, _, _, _⟩ := dro_cells hd2
      have HROW2 := Lib.hid hrow2
      have HIN2 := Lib.hid hin2
      clear hkp hsz hd2 hrow2 hin2
      go_wp2_with fail
      go_ret
      show ReadRet w R _ _
      rw [HRE.out]
      refine ⟨by rw [HD.out]; exact HBZ.out, ?_⟩
      show if (0 : Int) = 0 then _ else _
      rw [if_pos rfl]
      exact ⟨A2, c2, ds2, congrArg (fun x => Ending.returned (Value.slice A2 x c2)) HIN2.out.1, HROW2.out, HIN2.out⟩
set_option maxRecDepth 100000 in
set_option maxHeartbeats 3200000 in
theorem parseIn_none (s : List UInt8) (w : World) (hw : MaxOk w) (hs : s.length ≤ 65536) (h0 : s = []) :
    Calls Tryd.prog 20 #[.string ⟨s.toArray⟩] w (Sz.ReadRet w (readL 0 (linesL s) [] [])) := by
  obtain ⟨R, hR⟩ : ∃ R, readL 0 (linesL s) [] [] = R := ⟨_, rfl⟩
  rw [hR]
  obtain ⟨W1, hW1⟩ : ∃ W, w.alloc (.cells #[.slice none 0 0, .slice none 0 0, .map none] 78) = W := ⟨_, rfl⟩
  have HB1 : Hid (Below w.heap.size w W1) := alloc_low hW1
  have HD1 : Hid (∀ B, DrO W1 B w.heap.size (.slice none 0 0) (.slice none 0 0) (.map none) [] [] []) := fun B => by rw [← hW1]; exact dro_new
  have HLN := Lib.hid (linesOf_any s W1 (maxOk_below hw HB1.out) (by omega))
  have HM1 : Hid (MaxOk W1) := maxOk_below hw HB1.out
  have HR := Lib.hid hR
  have HMW := Lib.hid hw
  have dl : decide ((s.length : Int) ≤ 65536) = true := decide_eq_true (by omega)
  have HSL := Lib.hid hs
  have hne : (s == []) = true := by rw [h0]; rfl
  clear h0
  clear hw hR hs
  go_enter Tryd.func20, Tryd.ntmps20
  go_wp2_with fail
  refine (require_yes _).mono ?_
  rintro _ z ⟨rfl, rfl⟩
  go_wp2_with fail
  refine (require_yes _).mono ?_
  rintro _ z ⟨rfl, rfl⟩
  go_wp2_with fail
  clear hW1
  refine HLN.out.mono ?_
  rintro _ u ⟨A, n, c, rfl, hn, hnl, hrow, hb⟩
  obtain ⟨D, hD⟩ : ∃ D, w.heap.size = D := ⟨_, rfl⟩
  have HD := Lib.hid hD
  have HDu : Hid (DrO u u.heap.size D (.slice none 0 0) (.slice none 0 0) (.map none) [] [] []) := by show DrO _ _ _ _ _ _ _ _ _; rw [← hD]; exact dro_below (HD1.out _) hb
  have HN := Lib.hid hn
  have HNL := Lib.hid hnl
  have HROW := Lib.hid hrow
  have HBu : Hid (Below D w u ∧ w.heap.size ≤ u.heap.size) := ⟨by rw [← hD]; exact HB1.out.trans (hb.mono HB1.out.size), Nat.le_trans HB1.out.size hb.size⟩
  have HMu : Hid (MaxOk u) := maxOk_below HM1.out hb
  rw [hD]
  clear hn hrow hb dl hnl hD HLN HD1 HB1
  go_wp2_with fail
  go_loopw [22] (fun i wr => ∃ (k : Nat) (acc : List (List Fld)) (last : List Fld) (ds : List Desc) (v0 v1 v2 : Value), i = .int .i64 k ∧ k ≤ n ∧ Hid (DrO wr u.heap.size D v0 v1 v2 ds acc last) ∧ Hid (KeysOk wr u.heap.size v2 last) ∧ Hid (readL k ((linesL s).drop k) acc last = R) ∧ Hid (Keeps u.heap.size D u wr ∧ u.heap.size ≤ wr.heap.size) ∧ Hid (ds.length + last.length ≤ k)) (fun i _ => n - (intOf i).toNat)
  case atStart => exact ⟨0, [], [], [], _, _, _, rfl, Nat.zero_le _, HDu, Or.inl rfl, HR, ⟨keeps_of (Below.refl _ _), Nat.le_refl _⟩, Nat.zero_le _⟩
  case round =>
    obtain ⟨k, acc, last, ds, v0, v1, v2, rfl, hk, HDR, HKO, HRD, HKP, HLE⟩ := hrel
    by_cases hlt : k < n
    · have hlr : k < (linesL s).length := by rw [HN.out]; exact hlt
      obtain ⟨ad, hA, hblk, hcell⟩ := txt_at HROW.out k hlr
      subst hA
      have hnd : ad.block ≠ D := by
        have := draft_no_text HDu.out (fun x h => by cases h) (fun x h => by cases h) (fun x h => by cases h) hcell
        rwa [Rs.add_block] at this
      have cw := (keeps_cell HKP.out.1 (a := ad.add k) (by rw [Rs.add_block]; exact hblk) (by rw [Rs.add_block]; exact hnd)).trans hcell
      have HLL : Hid ((linesL s)[k].length ≤ 65536) := Nat.le_trans (line_le (List.getElem_mem hlr)) HSL.out
      have hrd := HRD.out
      rw [List.drop_eq_getElem_cons hlr] at hrd
      have hrl : ((linesL s).drop (k + 1)).length = n - (k + 1) := by rw [List.length_drop, HN.out]
      obtain ⟨rest, hrest⟩ : ∃ x, (linesL s).drop (k + 1) = x := ⟨_, rfl⟩
      obtain ⟨ln, hln⟩ : ∃ x, (linesL s)[k] = x := ⟨_, rfl⟩
      rw [hln] at cw hrd HLL
      rw [hrest] at hrd hrl
      have HRS := Lib.hid hrest
      have HRLN := Lib.hid hrl
      have ik : (k : Int) < (n : Int) := by omega
      have hkw : IntKind.i64.wrap ((k : Int) + 1) = (k : Int) + 1 := IntWalk.i64_in _ (by have := HNL.out; have := HSL.out; omega)
      have hnw : IntKind.i64.wrap ((n : Int) - 1) = (n : Int) - 1 := IntWalk.i64_in _ (by have := HNL.out; have := HSL.out; omega)
      obtain ⟨A1, c1, hv1, _, _, _⟩ := Rg.row_own fitsF HDR.out.2.2.2.2.2.1
      obtain ⟨q, hq⟩ : ∃ q, last.length = q := ⟨_, rfl⟩
      rw [hq] at hv1
      subst hv1
      obtain ⟨e0, e1, e2, _, _, _⟩ := dro_cells HDR.out
      have HQ := Lib.hid hq
      have HBR : Hid (Below D w wr) := HBu.out.1.trans (keeps_low HKP.out.1 (Nat.le_trans (by rw [HD.out]; exact Nat.le_refl _) HBu.out.2))
      clear hcell hblk hnd hrest hln hrl hq
      by_cases hle : ln = []
      · subst hle
        have hrd2 : (if (last.isEmpty || rest.isEmpty) then (2, (k : Int), []) else readL (k + 1) rest (acc ++ [last]) []) = R := hrd
        by_cases hgo : 0 < q ∧ k + 1 < n
        · have i1 : (0 : Int) < (q : Int) := by omega
          have i2 : (k : Int) < (n : Int) - 1 := by omega
          have HR2 : Hid (readL (k + 1) rest (acc ++ [last]) [] = R) := by
            show _ = _
            rw [if_neg] at hrd2
            · exact hrd2
            · cases last with
              | nil => have := HQ.out; simp at this; omega
              | cons x l => cases rest with
                | nil => have := HRLN.out; simp at this; omega
                | cons y r => simp
          have HQ1 := Lib.hid hgo
          clear hgo hrd hrd2
          go_wp2_with fail
          refine (requireAt_yes _).mono ?_
          rintro _ z ⟨rfl, rfl⟩
          go_wp2_with fail
          refine (draftEnd_any HDR.out (by have := HLE.out; have := HNL.out; have := HSL.out; omega) HKP.out.2).mono ?_
          rintro _ z ⟨rfl, hkp, hsz, u0, u1, ds2, hd2⟩
          have hln0 : last ≠ [] := fun e => by have := HQ.out; rw [e] at this; simp at this; have := HQ1.out; omega
          rw [if_neg hln0] at hd2
          have HD2 := Lib.hid hd2
          have HK2 : Hid (Keeps u.heap.size D u z ∧ u.heap.size ≤ z.heap.size) := ⟨keeps_trans HKP.out.1 hkp, Nat.le_trans HKP.out.2 hsz⟩
          have HL2 : Hid (ds2.length + ([] : List Fld).length ≤ k + 1) := by
            have h1 := hd2.2.2.2.1.1
            have h2 := HDR.out.2.2.2.1.1
            rw [List.length_append] at h1
            have h3 := HLE.out
            have h4 := HQ.out
            have h5 := HQ1.out
            show ds2.length + 0 ≤ k + 1
            simp at h1
            omega
          clear hkp hsz hd2 hln0
          go_wp2_with fail
          go_roundw
          case rel => exact ⟨k + 1, acc ++ [last], [], ds2, _, _, _, by go_num, by omega, HD2, Or.inl rfl, by show readL _ _ _ _ = R; rw [HRS.out]; exact HR2.out, HK2, HL2⟩
          case measure => simp [intOf]; omega
        · have HRE : Hid (R = (2, (k : Int), [])) := by
            show _ = _
            rw [← hrd2, if_pos]
            cases last with
            | nil => rfl
            | cons x l => cases rest with
              | nil => simp
              | cons y r =>
                have h1 := HQ.out
                have h2 := HRLN.out
                simp at h1 h2
                omega
          clear hrd hrd2
          by_cases hq0 : 0 < q
          · have i1 : (0 : Int) < (q : Int) := by omega
            have i2 : ¬ (k : Int) < (n : Int) - 1 := by omega
            clear hgo hq0
            go_wp2_with fail
            refine (requireAt_no _).mono ?_
            rintro _ z ⟨rfl, rfl⟩
            go_wp2_with fail
            exact ⟨rfl, by show ReadRet w R _ _; rw [HRE.out]; exact readRet_bad (by decide) (by rw [HD.out]; exact HBR.out)⟩
          · have i1 : ¬ (0 : Int) < (q : Int) := by omega
            clear hgo hq0
            go_wp2_with fail
            refine (requireAt_no _).mono ?_
            rintro _ z ⟨rfl, rfl⟩
            go_wp2_with fail
            exact ⟨rfl, by show ReadRet w R _ _; rw [HRE.out]; exact readRet_bad (by decide) (by rw [HD.out]; exact HBR.out)⟩
      · have hrd2 : (match Sz.fieldP ln (k : Int) with | none => ((2 : Int), (k : Int), ([] : List (List Fld))) | some f => if hasK last f.key then (6, (k : Int), []) else readL (k + 1) rest acc (last ++ [f])) = R := by
          cases ln with
          | nil => exact absurd rfl hle
          | cons x t => exact hrd
        have lne : (ln == []) = false := beq_eq_false_iff_ne.2 hle
        have hfo := fieldOf_any ln (k : Int) wr (maxOk_below HMW.out (by rw [HD.out]; exact HBR.out)) (Nat.le_trans HLL.out (by decide))
        have hfb := @Sz.field_back ln (k : Int)
        obtain ⟨F, hF⟩ : ∃ F, Sz.fieldP ln (k : Int) = F := ⟨_, rfl⟩
        rw [hF] at hrd2 hfo hfb
        have HFO := Lib.hid hfo
        cases F with
        | none =>
          have HRE : Hid (R = (2, (k : Int), [])) := hrd2.symm
          clear hrd hrd2 hfo hfb hF hle
          go_wp2_with fail
          refine HFO.out.mono ?_
          rintro e z ⟨hb, he⟩
          have HBZ : Hid (Below D w z) := HBR.out.trans (hb.mono (Nat.le_trans (by rw [← HD.out]; exact HBu.out.2) HKP.out.2))
          have he2 : e = panAt k 2 := he
          subst he2
          clear hb he
          go_wp2_with fail
          exact ⟨rfl, by show ReadRet w R _ _; rw [HRE.out]; exact readRet_bad (by decide) (by rw [HD.out]; exact HBZ.out)⟩
        | some f =>
          obtain ⟨_, hline, hkb, _⟩ := hfb rfl
          have HLINE := Lib.hid hline
          have HKL := Lib.hid (key_len hkb)
          have HRX : Hid ((if hasK last f.key then ((6 : Int), (k : Int), ([] : List (List Fld))) else readL (k + 1) rest acc (last ++ [f])) = R) := hrd2
          clear hrd hrd2 hfo hfb hF hle hline hkb
          go_wp2_with fail
          refine HFO.out.mono ?_
          rintro e z ⟨hb, he⟩
          have he2 : e = .returned (.agg #[.string ⟨f.key.toArray⟩, .string ⟨f.val.toArray⟩, .int .i64 (k : Int)]) := he
          subst he2
          have HKZ : Hid (Keeps u.heap.size D u z ∧ u.heap.size ≤ z.heap.size) := ⟨keeps_trans HKP.out.1 (keeps_of (hb.mono HKP.out.2)), Nat.le_trans HKP.out.2 hb.size⟩
          have hdz := dro_below HDR.out hb
          have hadd : Calls Tryd.prog 35 #[.pointer (some ⟨D, 0, none⟩), .agg #[.string ⟨f.key.toArray⟩, .string ⟨f.val.toArray⟩, .int .i64 f.line]] z (Sz.AddRet z u.heap.size D v0 ds acc last f) := by
            have hsz1 : last.length + 1 ≤ 1000000 := by have := HLE.out; have := HNL.out; have := HSL.out; omega
            by_cases hl : last = []
            · exact draftAdd_first f hdz hsz1 HKL.out HKZ.out.2 hl
            · rcases HKO.out with h | ⟨m, h1, h2, h3⟩
              · exact absurd h hl
              · refine draftAdd_more f hdz hsz1 HKL.out HKZ.out.2 hl ⟨m, h1, h2, ?_⟩
                obtain ⟨_, _, ⟨_, _, hh, _⟩, _⟩ := id h3
                exact kset_below h3 hb (Array.getElem?_eq_some_iff.1 hh).1
          rw [HLINE.out] at hadd
          have HADD := Lib.hid hadd
          clear hb he hdz hadd HFO
          go_wp2_with fail
          refine HADD.out.mono ?_
          rintro e z2 ⟨hkp, hsz, hif⟩
          have HK2 : Hid (Keeps u.heap.size D u z2 ∧ u.heap.size ≤ z2.heap.size) := ⟨keeps_trans HKZ.out.1 hkp, Nat.le_trans HKZ.out.2 hsz⟩
          by_cases htw : (last.map Fld.key).contains f.key = true
          · rw [if_pos htw, HLINE.out] at hif
            have HRE : Hid (R = (6, (k : Int), [])) := by show _ = _; rw [← HRX.out, hasK_eq, if_pos htw]
            have HBZ : Hid (Below D w z2) := HBu.out.1.trans (keeps_low HK2.out.1 (Nat.le_trans (by rw [HD.out]; exact Nat.le_refl _) HBu.out.2))
            subst hif
            clear htw hkp hsz
            go_wp2_with fail
            exact ⟨rfl, by show ReadRet w R _ _; rw [HRE.out]; exact readRet_bad (by decide) (by rw [HD.out]; exact HBZ.out)⟩
          · rw [if_neg htw] at hif
            obtain ⟨rfl, u1, m, hbm, hd2, hks⟩ := hif
            have HR2 : Hid (readL (k + 1) rest acc (last ++ [f]) = R) := by show _ = _; rw [← HRX.out, hasK_eq, if_neg htw]
            have HD2 := Lib.hid hd2
            have HKO2 : Hid (KeysOk z2 u.heap.size (.map (some m)) (last ++ [f])) := Or.inr ⟨m, rfl, hbm, hks⟩
            have HL2 : Hid (ds.length + (last ++ [f]).length ≤ k + 1) := by have := HLE.out; show _ ≤ _; rw [List.length_append]; show _ + (_ + 1) ≤ _; omega
            clear htw hkp hsz hbm hd2 hks
            go_wp2_with fail
            go_roundw
            case rel => exact ⟨k + 1, acc, last ++ [f], ds, _, _, _, by go_num, by omega, HD2, HKO2, by show readL _ _ _ _ = R; rw [HRS.out]; exact HR2.out, HK2, HL2⟩
            case measure => simp [intOf]; omega
    · obtain rfl : k = n := by omega
      have HRE : Hid (R = (0, 0, if last = [] then acc else acc ++ [last])) := by
        show _ = _
        rw [← HRD.out, List.drop_eq_nil_of_le (by rw [HN.out]; exact Nat.le_refl _)]
        cases last <;> rfl
      have ik : ¬ (k : Int) < (k : Int) := by omega
      go_wp2_with fail
      refine (draftEnd_any HDR.out (by have := HLE.out; have := HNL.out; have := HSL.out; omega) HKP.out.2).mono ?_
      rintro _ z ⟨rfl, hkp, hsz, u0, u1, ds2, hd2⟩
      have HBZ : Hid (Below D w z) := HBu.out.1.trans (keeps_low (keeps_trans HKP.out.1 hkp) (Nat.le_trans (by rw [HD.out]; exact Nat.le_refl _) HBu.out.2))
      obtain ⟨A2, c2, hv2, hrow2, _, _⟩ := Rg.row_own fitsO hd2.2.2.1
      have hin2 := hd2.2.2.2.1
      subst hv2
      obtain ⟨e0, _, _, _, _, _⟩ := dro_cells hd2
      have HROW2 := Lib.hid hrow2
      have HIN2 := Lib.hid hin2
      clear hkp hsz hd2 hrow2 hin2
      go_wp2_with fail
      go_ret
      show ReadRet w R _ _
      rw [HRE.out]
      refine ⟨by rw [HD.out]; exact HBZ.out, ?_⟩
      show if (0 : Int) = 0 then _ else _
      rw [if_pos rfl]
      exact ⟨A2, c2, ds2, congrArg (fun x => Ending.returned (Value.slice A2 x c2)) HIN2.out.1, HROW2.out, HIN2.out⟩
theorem parseIn_long (s : List UInt8) (w : World) (hs : 65536 < s.length) :
    Calls Tryd.prog 20 #[.string ⟨s.toArray⟩] w fun e w' => e = pan 4 ∧ w = w' := by
  have dl : decide ((s.length : Int) ≤ 65536) = false := decide_eq_false (by omega)
  clear hs
  go_enter Tryd.func20, Tryd.ntmps20
  go_wp2_with fail
  refine (require_no _).mono ?_
  rintro _ z ⟨rfl, rfl⟩
  go_wp2_with fail
  exact ⟨rfl, rfl, rfl⟩
set_option maxHeartbeats 400000 in
theorem parseIn_open (s : List UInt8) (w : World) (hs : s.length ≤ 65536) (h0 : s ≠ []) (h1 : Lib.hasSuffix s [10] = false) :
    Calls Tryd.prog 20 #[.string ⟨s.toArray⟩] w fun e w' => e = pan 2 ∧ w = w' := by
  have dl : decide ((s.length : Int) ≤ 65536) = true := decide_eq_true (by omega)
  have hne : (s == []) = false := beq_eq_false_iff_ne.2 h0
  have HSF := Lib.hid h1
  have HSL := Lib.hid hs
  clear h1 h0 hs
  go_enter Tryd.func20, Tryd.ntmps20
  go_wp2_with fail
  refine (require_yes _).mono ?_
  rintro _ z ⟨rfl, rfl⟩
  go_wp2_with fail
  refine (Tryd.strings_HasSuffix ⟨s.toArray⟩ ⟨#[10]⟩ _ (by show s.length ≤ _; have := HSL.out; omega)).mono ?_
  rintro _ z ⟨rfl, hz⟩
  obtain rfl := hz.symm
  clear hz
  rw [show Lib.hasSuffix (⟨s.toArray⟩ : ByteArray).data.toList (⟨#[10]⟩ : ByteArray).data.toList = false from HSF.out]
  go_wp2_with fail
  refine (require_no _).mono ?_
  rintro _ z ⟨rfl, rfl⟩
  go_wp2_with fail
  exact ⟨rfl, rfl, rfl⟩
/-- What parse does of any text. -/
theorem parseIn_any (s : List UInt8) (w : World) (hw : MaxOk w) :
    Calls Tryd.prog 20 #[.string ⟨s.toArray⟩] w fun e w' => if 65536 < s.length then e = pan 4 ∧ w = w' else if endB s = true then ReadRet w (readL 0 (linesL s) [] []) e w' else e = pan 2 ∧ w = w' := by
  by_cases hl : 65536 < s.length
  · exact (parseIn_long s w hl).mono fun _ _ h => by rw [if_pos hl]; exact h
  · have hs : s.length ≤ 65536 := by omega
    by_cases h0 : s = []
    · exact (parseIn_none s w hw hs h0).mono fun _ _ h => by rw [if_neg hl, if_pos (by rw [h0]; rfl)]; exact h
    · have hen : endB s = Lib.hasSuffix s [10] := by
        unfold endB
        rw [suffix_end, List.isEmpty_eq_false_iff.2 h0, Bool.false_or]
      cases h1 : Lib.hasSuffix s [10]
      · exact (parseIn_open s w hs h0 h1).mono fun _ _ h => by rw [if_neg hl, if_neg (by rw [hen, h1]; decide)]; exact h
      · exact (parseIn_some s w hw hs h0 h1).mono fun _ _ h => by rw [if_neg hl, if_pos (by rw [hen, h1])]; exact h
end Go.Proofs.YtmhobdlhmkbkdaaDoor

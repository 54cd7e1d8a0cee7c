/- A lock read out of a text, panics and all: the program's read, walked. -/
import Derived.Test.YtojhapnodjabdaaGreatDoorCm
import Derived.Test.YtojhapnodjabdaaGreatDoorCn
namespace Go.Proofs.YtojhapnodjabdaaGreatDoor
open Go.RowKit Lk At Sz
attribute [local go_sem ↓] Go.wp_at_zero Go.wp_at_succ
/-- How read leaves. -/
def Lk.ReadE (w : World) (s : List UInt8) (e : Ending) (w' : World) : Prop := Below w.heap.size w w' ∧ ((∃ C n c l, e = .returned (.slice C n c) ∧ l.length = n ∧ ERow w' C l ∧ readL s = (0, 0, l)) ∨ (∃ k, e = pan k ∧ readL s = (0, k, []) ∧ k ≠ 0) ∨ (∃ (i : Nat) (k : Int), e = panAt i k ∧ readL s = (i, k, []) ∧ k ≠ 0))
theorem Lk.suffix_end (s : List UInt8) : Lib.hasSuffix s [10] = (!s.isEmpty && endB s) := by
  unfold Lib.hasSuffix
  rcases List.eq_nil_or_concat s with rfl | ⟨a, b, rfl⟩
  · rfl
  · rw [List.concat_eq_append]
    have h1 : (a ++ [b]).isEmpty = false := by simp
    have h2 : endB (a ++ [b]) = (b == 10) := by unfold endB; rw [h1]; simp
    rw [h1, h2]
    cases hb : b == 10
    · cases h : List.isSuffixOf [10] (a ++ [b])
      · rfl
      · obtain ⟨x, hx⟩ := List.isSuffixOf_iff_suffix.1 h
        have := (List.append_inj' hx rfl).2
        have : b = 10 := by simpa using this.symm
        rw [this] at hb; cases hb
    · have : b = 10 := by simpa using hb
      subst this
      exact List.isSuffixOf_iff_suffix.2 ⟨a, rfl⟩
theorem Lk.lines_no2 {hd : List (List UInt8)} {j : Nat} (hj : j < hd.length) (ho : ∀ i, i < j → formE hd i = 0) (h : entOf hd[j] = none) : linesE hd = (j, 2, []) := by
  have hb : formE hd j = 2 := by unfold formE; rw [List.getElem?_eq_getElem hj]; dsimp only; rw [h]; rfl
  have h1 := first_bad (formE hd) hd.length 0 j hj (fun i hi => by rw [Nat.zero_add]; exact ho i hi) (by rw [Nat.zero_add, hb]; decide)
  rw [Nat.zero_add, hb] at h1
  unfold linesE
  rw [h1, if_neg (show ¬ (2 : Int) = 0 by decide)]
theorem Lk.form_yes {hd : List (List UInt8)} {j : Nat} (hj : j < hd.length) {e : Ent} (h : entOf hd[j] = some e) : formE hd j = 0 := by
  unfold formE; rw [List.getElem?_eq_getElem hj]; dsimp only; rw [h]; rfl
theorem Lk.lines_all {hd : List (List UInt8)} {l : List Ent} (ho : ∀ i, i < hd.length → formE hd i = 0) (h : hd.filterMap entOf = l) : linesE hd = if (checkL l).2 = 0 then (0, 0, l) else ((checkL l).1, (checkL l).2, []) := by
  have h1 := first_ok (formE hd) hd.length 0 (fun i hi => by rw [Nat.zero_add]; exact ho i hi)
  unfold linesE
  rw [h1, if_pos rfl, h]
theorem Lk.fm_take {hd : List (List UInt8)} {j : Nat} (hj : j < hd.length) {e : Ent} (h : entOf hd[j] = some e) : (hd.take (j + 1)).filterMap entOf = (hd.take j).filterMap entOf ++ [e] := by
  rw [List.take_succ_eq_append_getElem hj, List.filterMap_append]
  simp [h]
theorem Lk.entOf_le {s : List UInt8} {e : Ent} (h : entOf s = some e) : e.1.length ≤ s.length ∧ e.2.length ≤ s.length := by
  unfold entOf at h
  split at h
  · obtain rfl := Option.some.inj h
    exact cut_lens s
  · cases h
/-- How far the lines are read. -/
def Lk.RdSt (hd : List (List UInt8)) (j : Nat) (l : List Ent) : Prop := (hd.take j).filterMap entOf = l ∧ (∀ i, i < j → formE hd i = 0) ∧ l.length ≤ j ∧ ∀ e ∈ l, e.1.length ≤ 100000 ∧ e.2.length ≤ 100000
theorem Lk.rd_start (hd : List (List UInt8)) : RdSt hd 0 [] := ⟨rfl, fun i hi => absurd hi (Nat.not_lt_zero _), Nat.le_refl _, fun e he => absurd he (by simp)⟩
theorem Lk.rd_step {hd : List (List UInt8)} {j : Nat} {l : List Ent} (h : RdSt hd j l) (hj : j < hd.length) (hl : hd[j].length ≤ 100000) {e : Ent} (he : entOf hd[j] = some e) : RdSt hd (j + 1) (l ++ [e]) := by
  obtain ⟨h1, h2, h3, h4⟩ := h
  refine ⟨by rw [fm_take hj he, h1], fun i hi => ?_, by rw [List.length_append, List.length_singleton]; omega, fun x hx => ?_⟩
  · rcases Nat.lt_or_ge i j with h | h
    · exact h2 i h
    · obtain rfl : i = j := by omega
      exact form_yes hj he
  · rcases List.mem_append.1 hx with hx | hx
    · exact h4 x hx
    · rw [List.mem_singleton.1 hx]
      have := entOf_le he; omega
theorem Lk.okL_end {l : List Ent} {n : Nat} (hn : l.length = n) : (checkL l).2 = 0 ∧ okL n (firstE (errAt l) n 0) = .returned (.tuple #[]) ∨ (∃ k, k ≠ 0 ∧ checkL l = (0, k) ∧ okL n (firstE (errAt l) n 0) = pan k) ∨ (∃ (i : Nat) (k : Int), k ≠ 0 ∧ checkL l = (i, k) ∧ okL n (firstE (errAt l) n 0) = panAt i k) := by
  obtain ⟨h1, h2⟩ := check_of hn
  by_cases h : 64 < n
  · exact Or.inr (Or.inl ⟨4, by decide, h1 h, if_pos h⟩)
  · have e := h2 h
    obtain ⟨⟨i, k⟩, hR⟩ : ∃ R, firstE (errAt l) n 0 = R := ⟨_, rfl⟩
    rw [hR] at e ⊢
    have e2 : okL n (i, k) = okAt i k := if_neg h
    rw [e, e2]
    by_cases hk : k = 0
    · subst hk; exact Or.inl ⟨rfl, rfl⟩
    · exact Or.inr (Or.inr ⟨i, k, hk, rfl, okAt_ne hk⟩)
set_option maxRecDepth 100000 in
set_option maxHeartbeats 3200000 in
theorem lockread_any (s : List UInt8) (w : World) (hw : WOk w) (hs : s.length ≤ 100000) :
    Calls Tryz.prog 39 #[.string ⟨s.toArray⟩] w (ReadE w s) := by
  by_cases h65 : 65536 < s.length
  · have hx := read_long h65
    have d0 : decide ((s.length : Int) ≤ 65536) = false := decide_eq_false (by omega)
    have HX := Lib.hid hx
    clear hx h65
    go_enter Tryz.func39, Tryz.ntmps39
    go_wp2_with fail
    refine (require_no _).mono ?_
    rintro _ z ⟨rfl, rfl⟩
    go_wp2_with fail
    exact ⟨rfl, Below.refl _ _, Or.inr (Or.inl ⟨4, rfl, HX.out, by decide⟩)⟩
  · have d0 : decide ((s.length : Int) ≤ 65536) = true := decide_eq_true (by omega)
    have hle : s.length ≤ 65536 := by omega
    have HSF : Hid (∀ W : World, Calls Tryz.prog 53 #[.string ⟨s.toArray⟩, .string ⟨#[10]⟩] W fun e w' => e = .returned (.bool (!s.isEmpty && endB s)) ∧ W = w') := fun W =>
      (Tryz.strings_HasSuffix ⟨s.toArray⟩ ⟨#[10]⟩ W (by show s.toArray.size ≤ _; rw [List.size_toArray]; omega)).mono fun e w' ⟨h1, h2⟩ => ⟨by rw [h1]; show Ending.returned (.bool (Lib.hasSuffix s [10])) = _; rw [suffix_end], h2.symm⟩
    clear h65
    cases hse : (!s.isEmpty && endB s)
    · have HX : Hid (readL s = (0, 2, [])) := read_form hle (by
        rw [Bool.and_eq_false_iff] at hse
        rcases hse with h | h
        · exact Or.inl (by simpa using h)
        · exact Or.inr h)
      rw [hse] at HSF
      clear hse
      go_enter Tryz.func39, Tryz.ntmps39
      go_wp2_with fail
      refine (require_yes _).mono ?_
      rintro _ z ⟨rfl, rfl⟩
      go_wp2_with fail
      refine (HSF.out _).mono ?_
      rintro _ z ⟨rfl, rfl⟩
      go_wp2_with fail
      refine (require_no _).mono ?_
      rintro _ z ⟨rfl, rfl⟩
      go_wp2_with fail
      exact ⟨rfl, Below.refl _ _, Or.inr (Or.inl ⟨2, rfl, HX.out, by decide⟩)⟩
    · rw [hse] at HSF
      rw [Bool.and_eq_true] at hse
      obtain ⟨hd, last, hL, hs2, hno, h10, hLd⟩ := Lk.shape (s := s) (by simpa using hse.1) hse.2
      have hr := read_shape hle (by simpa using hse.1) hse.2 hL
      have hcnt := count_join hd hno
      have hlines : (joinL hd).length ≤ s.length := by rw [hs2]; simp
      have hll : (last ++ [10]).length ≤ s.length := by rw [hs2]; simp
      have hcl := fun W : World => cutLast_any (joinL hd) last W h10 (end_join hd) (by rw [← hs2]; omega)
      rw [← hs2] at hcl
      obtain ⟨F, hF⟩ : ∃ F, joinL hd = F := ⟨_, rfl⟩
      obtain ⟨B, hB⟩ : ∃ B, last ++ [10] = B := ⟨_, rfl⟩
      rw [hF] at hr hcnt hlines hcl hLd
      rw [hB] at hr hcl hll
      have HCL := Lib.hid hcl
      have HF1 : Hid (F.length ≤ 65536) := Nat.le_trans hlines hle
      have HCN : Hid (∀ W : World, Calls Tryz.prog 55 #[.string ⟨F.toArray⟩, .string ⟨#[10]⟩] W fun e w' => e = .returned (.int .i64 hd.length) ∧ W = w') := fun W =>
        (Tryz.strings_Count_one ⟨F.toArray⟩ 10 W).mono fun e w' ⟨h1, h2⟩ => ⟨by rw [h1]; show Ending.returned (.int .i64 (Lib.countByte F 10 : Nat)) = _; rw [hcnt], h2.symm⟩
      have HR := Lib.hid hr
      have HLD := Lib.hid hLd
      have HW := Lib.hid hw
      obtain ⟨G, hG⟩ : ∃ G, sumLine F = G := ⟨_, rfl⟩
      have HSL : Hid (∀ W : World, Below w.heap.size w W → Calls Tryz.prog 34 #[.string ⟨F.toArray⟩] W fun e w' => e = .returned (.string ⟨G.toArray⟩) ∧ Below W.heap.size W w') := fun W hb => by
        have := sumLine_any F W (wok_below HW.out hb) (by have := HF1.out; omega)
        rwa [hG] at this
      rw [hG] at HR
      clear hr hcl hlines hll hcnt hLd hw hno h10 hs2 hL hse hF hB hG
      go_enter Tryz.func39, Tryz.ntmps39
      go_wp2_with fail
      refine (require_yes _).mono ?_
      rintro _ z ⟨rfl, rfl⟩
      go_wp2_with fail
      refine (HSF.out _).mono ?_
      rintro _ z ⟨rfl, rfl⟩
      go_wp2_with fail
      refine (require_yes _).mono ?_
      rintro _ z ⟨rfl, rfl⟩
      go_wp2_with fail
      refine (HCL.out _).mono ?_
      rintro _ z1 ⟨rfl, hb1⟩
      have HB1 := Lib.hid hb1
      clear hb1 HSF HCL d0
      go_wp2_with fail
      refine (HSL.out _ HB1.out).mono ?_
      rintro _ z2 ⟨rfl, hb2⟩
      have HB2 := Lib.hid (HB1.out.trans (hb2.mono HB1.out.size))
      clear hb2 HSL HB1
      by_cases heq : B = G
      · have e1 : (B == G) = true := by simpa using heq
        have HRR : Hid (readL s = linesE hd) := by show _ = _; rw [HR.out, if_pos heq]
        clear heq HR
        go_wp2_with fail
        refine (HCN.out _).mono ?_
        rintro _ z ⟨rfl, rfl⟩
        go_wp2_with fail
        refine (requireAt_yes _).mono ?_
        rintro _ z ⟨rfl, rfl⟩
        clear e1 HCN
        go_wp2_with fail
        refine (linesOf_any F _ (maxOk_below HW.out.1 HB2.out) (by have := HF1.out; omega)).mono ?_
        rintro _ z3 ⟨A, n, c, rfl, hn, hnl, hrow, hb3⟩
        rw [HLD.out] at hn hrow
        have HLE : Hid (∀ x ∈ hd, x.length ≤ 65536) := fun x hx => Nat.le_trans (line_le (s := F) (by rw [HLD.out]; exact hx)) HF1.out
        have HB3 := Lib.hid (HB2.out.trans (hb3.mono HB2.out.size))
        have HROW := Lib.hid hrow
        have HN := Lib.hid hn
        have hn6 : n ≤ 65536 := Nat.le_trans hnl HF1.out
        clear hn hrow hb3 hnl HB2
        go_wp2_with fail
        go_loopw [5, 30] (fun v i wr => ∃ (k : Nat) (l : List Ent), k ≤ n ∧ i = .int .i64 k ∧ Hid (RdSt hd k l) ∧ Hid (Rg.Own encE 2 wr z3.heap.size 59 v l) ∧ Hid (Below z3.heap.size z3 wr ∧ z3.heap.size ≤ wr.heap.size)) (fun _ i _ => n - (intOf i).toNat)
        case atStart => exact ⟨0, [], Nat.zero_le _, rfl, rd_start hd, Rg.own_nil _ _ _, Below.refl _ _, Nat.le_refl _⟩
        case round =>
          obtain ⟨k, l, hk, rfl, HST, HO, HB⟩ := hrel
          by_cases hlt : k < n
          · have hkl : k < hd.length := by rw [HN.out]; exact hlt
            obtain ⟨ad, rfl, _, c0⟩ := txt_at (Rg.row_below HROW.out HB.out.1) k hkl
            have hle1 := HLE.out _ (List.getElem_mem hkl)
            have HNO : Hid (entOf hd[k] = none → linesE hd = (k, 2, [])) := fun h => lines_no2 hkl HST.out.2.1 h
            have HYE : Hid (∀ e, entOf hd[k] = some e → RdSt hd (k + 1) (l ++ [e])) := fun e h => rd_step HST.out hkl (by omega) h
            obtain ⟨x, hx⟩ : ∃ x, hd[k] = x := ⟨_, rfl⟩
            rw [hx] at c0 hle1 HNO HYE
            have HWB : Hid (Below w.heap.size w wr) := HB3.out.trans (HB.out.1.mono HB3.out.size)
            have HEO := Lib.hid (entryOf_any x k wr (maxOk_below HW.out.1 HWB.out) (by omega))
            clear hx hle1
            go_wp2_with fail
            refine HEO.out.mono ?_
            rintro _ z4 ⟨rfl, hb4⟩
            have HB4 := Lib.hid hb4
            have HWZ := Lib.hid (HWB.out.trans (hb4.mono HWB.out.size))
            clear hb4 HEO
            cases he : entOf x with
            | none =>
              have HRN : Hid (readL s = (k, 2, [])) := HRR.out.trans (HNO.out he)
              have hen : entR x k = panAt k 2 := by unfold entR; rw [he]
              rw [hen]
              clear he hen
              go_wp2_with fail
              exact ⟨rfl, HWZ.out, Or.inr (Or.inr ⟨k, 2, rfl, HRN.out, by decide⟩)⟩
            | some e =>
              obtain ⟨nm, v⟩ := e
              have HST2 := Lib.hid (HYE.out _ he)
              have hen : entR x k = .returned (.agg #[.string ⟨nm.toArray⟩, .string ⟨v.toArray⟩]) := by unfold entR; rw [he]
              rw [hen]
              have HSZ : Hid (l.length + 1 ≤ 1000000) := by have := HST.out.2.2.1; show _ ≤ _; omega
              clear he hen
              go_wp2_with (at_builtin; refine Rg.wpList_app sliceE rfl (.tmp 35) (.tmp 39) rfl z3.heap.size _ l [(nm, v)] rfl (Rg.own_below HO.out (HB4.out.trans ((Below.refl _ _).alloc HB4.out.size _))) _ _ rfl (Rg.news_new z4 _ [((nm, v) : Ent)] _ (by rfl)) (Nat.zero_lt_succ _) HSZ.out ?b2 ?_)
              case b2 => have := HB.out.2; have := HB4.out.size; simp; omega
              intro v5 W5 ho5 hg5 hz5
              have HB5 := app_done4 HB HB4.out HO hg5
              have HO5 := Lib.hid ho5
              clear ho5 hg5 hz5 HO HB
              go_wp2_with fail
              go_roundw
              case rel => exact ⟨k + 1, _, by omega, by go_num, HST2, HO5, HB5⟩
              case measure => simp [intOf]; omega
          · obtain rfl : k = n := by omega
            obtain ⟨h1, h2, h3, h4⟩ := HST.out
            rw [List.take_of_length_le (by rw [HN.out]; exact Nat.le_refl _)] at h1
            have hla := lines_all (fun i hi => h2 i (by rw [← HN.out]; exact hi)) h1
            have HLA := Lib.hid hla
            obtain ⟨C, d, rfl, hrow, _, _⟩ := Rg.row_own fitsE HO.out
            have HCR := Lib.hid hrow
            have HWB : Hid (Below w.heap.size w wr) := HB3.out.trans (HB.out.1.mono HB3.out.size)
            have HRQ := Lib.hid (requireLock_any C l.length d l wr (maxOk_below HW.out.1 HWB.out) rfl hrow (fun e he => by have := h4 e he; unfold maxLen; omega))
            have HOK := Lib.hid (okL_end (l := l) rfl)
            clear h1 h2 h3 h4 hla hrow HO HB
            go_wp2_with fail
            refine HRQ.out.mono ?_
            rintro _ z4 ⟨rfl, hb4⟩
            have HWZ := Lib.hid (HWB.out.trans (hb4.mono HWB.out.size))
            have HCR2 := Lib.hid (Rg.row_below HCR.out hb4)
            clear hb4 HRQ
            rcases HOK.out with ⟨k0, e0⟩ | ⟨m, m0, k0, e0⟩ | ⟨i, m, m0, k0, e0⟩
            · rw [e0]
              have HRN : Hid (readL s = (0, 0, l)) := by show _ = _; rw [HRR.out, HLA.out, if_pos k0]
              clear e0 k0
              go_wp2_with fail
              go_ret
              exact ⟨HWZ.out, Or.inl ⟨C, _, d, l, rfl, rfl, HCR2.out, HRN.out⟩⟩
            · rw [e0]
              have HRN : Hid (readL s = (0, m, [])) := by show _ = _; rw [HRR.out, HLA.out, k0, if_neg m0]
              have HM0 := Lib.hid m0
              clear e0 k0 m0
              go_wp2_with fail
              exact ⟨rfl, HWZ.out, Or.inr (Or.inl ⟨m, rfl, HRN.out, HM0.out⟩)⟩
            · rw [e0]
              have HRN : Hid (readL s = (i, m, [])) := by show _ = _; rw [HRR.out, HLA.out, k0, if_neg m0]
              have HM0 := Lib.hid m0
              clear e0 k0 m0
              go_wp2_with fail
              exact ⟨rfl, HWZ.out, Or.inr (Or.inr ⟨i, m, rfl, HRN.out, HM0.out⟩)⟩
      · have e1 : (B == G) = false := beq_eq_false_iff_ne.2 heq
        have HRN : Hid (readL s = (hd.length, 9, [])) := by show _ = _; rw [HR.out, if_neg heq]
        clear heq HR
        go_wp2_with fail
        refine (HCN.out _).mono ?_
        rintro _ z ⟨rfl, rfl⟩
        go_wp2_with fail
        refine (requireAt_no _).mono ?_
        rintro _ z ⟨rfl, rfl⟩
        go_wp2_with fail
        exact ⟨rfl, HB2.out, Or.inr (Or.inr ⟨hd.length, 9, rfl, HRN.out, by decide⟩)⟩
end Go.Proofs.YtojhapnodjabdaaGreatDoor

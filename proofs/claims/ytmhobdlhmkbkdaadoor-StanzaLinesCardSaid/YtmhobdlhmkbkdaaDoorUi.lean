/- The reference's reading of a text as stanzas: walked. -/
import Derived.Test.YtmhobdlhmkbkdaaDoorUh
namespace Go.Proofs.YtmhobdlhmkbkdaaDoor
open Go.RowKit Go.Maps Sz
attribute [local go_sem ↓] Go.wp_at_zero Go.wp_at_succ
theorem Sz.neOF : 33 ≠ 46 := by decide
abbrev Sz.RD := Sz.RdO 33 46
set_option maxRecDepth 100000 in
set_option maxHeartbeats 6400000 in
theorem refParseStanzas_any (s : List UInt8) (w : World) :
    Calls Tryd.prog 9 #[.string ⟨s.toArray⟩] w (Sz.PRet w (parseS s)) := by
  obtain ⟨X, hX⟩ : ∃ X, parseS s = X := ⟨_, rfl⟩
  rw [hX]
  unfold parseS at hX
  by_cases hl : 65536 < s.length
  · rw [if_pos hl] at hX
    have HX : Hid (X = (4, 0, [])) := hX.symm
    have d0 : decide ((65536 : Int) < (s.length : Int)) = true := decide_eq_true (by omega)
    clear hX
    go_enter Tryd.func9, Tryd.ntmps9
    go_wp2_with fail
    exact bodyPost_ret (v := .tuple #[.slice none 0 0, .int .i64 0, .int .i64 4]) (by simp [results, Tryd.results9, go_sem]) rfl (by rw [HX.out]; exact ⟨none, 0, rfl, Gr.row_nil _ _, Below.refl _ _⟩)
  rw [if_neg hl] at hX
  have d0 : decide ((65536 : Int) < (s.length : Int)) = false := decide_eq_false (by omega)
  have hsl : s.length ≤ 65536 := by omega
  have HSL := Lib.hid hsl
  have HRW := Lib.hid (refRows_any s w (by omega))
  cases he : endB s
  · rw [if_neg (by rw [he]; decide)] at hX
    have HX : Hid (X = (2, 0, [])) := hX.symm
    have HE := Lib.hid he
    clear hX he hl hsl
    go_enter Tryd.func9, Tryd.ntmps9
    go_wp2_with fail
    refine HRW.out.mono ?_
    rintro e u ⟨hb, hsz, hr⟩
    rw [HE.out, if_neg (by decide)] at hr
    subst hr
    have HB := Lib.hid hb
    clear hb hsz HRW
    go_wp2_with fail
    exact bodyPost_ret (v := .tuple #[.slice none 0 0, .int .i64 0, .int .i64 2]) (by simp [results, Tryd.results9, go_sem]) rfl (by rw [HX.out]; exact ⟨none, 0, rfl, Gr.row_nil _ _, HB.out⟩)
  rw [if_pos he] at hX
  have HX := Lib.hid hX
  have HE := Lib.hid he
  have HN0 : Hid (X.1 = 0 → X.2.1 = 0) := fun h => by
    have h2 : parseS s = (0, X.2.1, X.2.2) := by unfold parseS; rw [if_neg hl, if_pos he, hX, ← h]
    exact (parse_text h2).1
  have HBADL : Hid (X.1 ≠ 0 → X.2.2 = []) := readL_bad _ _ _ _ X.1 X.2.1 X.2.2 hX
  clear hX he hl hsl
  go_enter Tryd.func9, Tryd.ntmps9
  go_wp2_with fail
  refine HRW.out.mono ?_
  rintro e u ⟨hb, hsz, hr⟩
  rw [HE.out, if_pos rfl] at hr
  obtain ⟨A, n, c, rfl, hn, hns, hrow⟩ := hr
  have HB := Lib.hid hb
  have HN := Lib.hid hn
  have HROW := Lib.hid hrow
  have hns2 : n ≤ 65536 := Nat.le_trans hns HSL.out
  have HLS : Hid (∀ l ∈ linesL s, l.length ≤ 100000) := fun l hl => Nat.le_trans (line_le hl) (Nat.le_trans HSL.out (by decide))
  clear hb hn hrow hns d0 HRW
  have HSZ := Lib.hid hsz
  clear hsz
  go_wp2_with fail
  go_loopw [7, 8, 9] (fun vo vn i wr => ∃ (k : Nat) (acc : List (List Fld)) (last : List Fld) (ds : List Desc), k ≤ n ∧ i = .int .i64 k ∧ Hid (RD wr u.heap.size vo vn ds acc last) ∧ Hid (readL k ((linesL s).drop k) acc last = X) ∧ Hid (Below u.heap.size u wr) ∧ Hid (ds.length + last.length ≤ k)) (fun _ _ i _ => n - (intOf i).toNat)
  case atStart => exact ⟨0, [], [], [], Nat.zero_le _, rfl, rdo_new _ _, HX.out, Below.refl _ _, Nat.le_refl _⟩
  case round =>
    obtain ⟨k, acc, last, ds, hk, rfl, HR, HH, HW, HLE⟩ := hrel
    obtain ⟨A1, c1, hv1, hr1, _, _⟩ := Rg.row_own fitsF HR.out.2.2.2.1
    obtain ⟨q, hq⟩ : ∃ q, last.length = q := ⟨_, rfl⟩
    rw [hq] at hv1
    subst hv1
    have HQ := Lib.hid hq
    have HR1 := Lib.hid hr1
    have HUS : Hid (u.heap.size ≤ wr.heap.size) := HW.out.size
    have hqk : q ≤ 65536 := by rw [← hq]; have := HLE.out; omega
    clear hq hr1
    by_cases hlt : k < n
    · have hlr : k < (linesL s).length := by rw [HN.out]; exact hlt
      obtain ⟨ad, rfl, _, c0⟩ := txt_at (Rg.row_below HROW.out HW.out) k hlr
      have hd : (linesL s).drop k = (linesL s)[k] :: (linesL s).drop (k + 1) := List.drop_eq_getElem_cons hlr
      have hll := HLS.out _ (List.getElem_mem hlr)
      have hh := HH.out
      rw [hd, readL_cons] at hh
      have hrl : ((linesL s).drop (k + 1)).length = n - (k + 1) := by rw [List.length_drop, HN.out]
      obtain ⟨ln, hln⟩ : ∃ x, (linesL s)[k] = x := ⟨_, rfl⟩
      obtain ⟨rest, hrest⟩ : ∃ x, (linesL s).drop (k + 1) = x := ⟨_, rfl⟩
      rw [hln] at c0 hh hll
      rw [hrest] at hh hrl
      have HRS := Lib.hid hrest
      have HLL := Lib.hid hll
      have HRL := Lib.hid hrl
      clear hd hln hrest hll hrl
      by_cases hle : ln = []
      · subst hle
        rw [if_pos (show ([] : List UInt8).isEmpty = true from rfl)] at hh
        by_cases hq0 : q = 0
        · have HE2 : Hid (X = (2, (k : Int), [])) := by
            show _ = _
            rw [← hh, if_pos]
            have : last = [] := List.length_eq_zero_iff.1 (HQ.out.trans hq0)
            rw [this]; rfl
          subst hq0
          clear hh
          go_wp2_with fail
          exact bodyPost_ret (v := .tuple #[.slice none 0 0, .int .i64 k, .int .i64 2]) (by simp [results, Tryd.results9, go_sem]) rfl (by show PRet w X _ _; rw [HE2.out]; exact ⟨none, 0, rfl, Gr.row_nil _ _, HB.out.trans (HW.out.mono HSZ.out)⟩)
        by_cases hk1 : k = n - 1
        · have HE2 : Hid (X = (2, (k : Int), [])) := by
            show _ = _
            rw [← hh, if_pos]
            have : rest = [] := List.length_eq_zero_iff.1 (by rw [HRL.out]; omega)
            rw [this]; simp
          have e1 : (k : Int) = (n : Int) - 1 := by omega
          have dq : decide (q = 0) = false := decide_eq_false hq0
          have iw : IntKind.i64.wrap ((n : Int) - 1) = (n : Int) - 1 := IntWalk.i64_in _ (by omega)
          have dk : ((k : Int) == (n : Int) - 1) = true := by rw [beq_iff_eq]; exact e1
          have dqi : ((q : Int) == 0) = false := beq_eq_false_iff_ne.2 (by omega)
          clear hh hk1 e1
          go_wp2_with fail
          exact bodyPost_ret (v := .tuple #[.slice none 0 0, .int .i64 k, .int .i64 2]) (by simp [results, Tryd.results9, go_sem]) rfl (by show PRet w X _ _; rw [HE2.out]; exact ⟨none, 0, rfl, Gr.row_nil _ _, HB.out.trans (HW.out.mono HSZ.out)⟩)
        have HE2 : Hid (readL (k + 1) rest (acc ++ [last]) [] = X) := by
          show _ = _
          rw [← hh, if_neg]
          cases last with
          | nil => exact absurd HQ.out.symm (by simpa using hq0)
          | cons f l => cases rest with
            | nil => have := HRL.out; simp at this; omega
            | cons r rs => simp
        have dq : decide (q = 0) = false := decide_eq_false hq0
        have iw : IntKind.i64.wrap ((n : Int) - 1) = (n : Int) - 1 := IntWalk.i64_in _ (by omega)
        have dk : ((k : Int) == (n : Int) - 1) = false := beq_eq_false_iff_ne.2 (by omega)
        have dqi : ((q : Int) == 0) = false := beq_eq_false_iff_ne.2 (by omega)
        have HDL : Hid (ds.length + 1 ≤ 1000000) := by have := HLE.out; show _ ≤ _; omega
        clear hh hk1
        go_wp2_with (at_builtin; refine Rg.wpList_app_at fitsO sliceRE rfl (.tmp 46) (.tmp 48) rfl u.heap.size _ ds [(A1, q, c1)] rfl (Rg.own_below HR.out.1 ((Below.refl _ _).alloc (Nat.le_refl _) _)) _ _ rfl (Rg.news_new wr _ [(A1, q, c1)] _ (by rfl)) (Nat.zero_lt_succ _) HDL.out ?b2 ?_)
        case b2 => have := HUS.out; simp; omega
        intro g cap W5 ho5 hg5 hl5
        have hal : Below wr.heap.size wr (wr.alloc (.cells #[.slice A1 q c1] 33)) := (Below.refl _ _).alloc (Nat.le_refl _) _
        have HR5 := Lib.hid (rdo_end neOF (rdo_below HR.out hal) HQ.out ho5 hg5 (by simpa using hl5))
        have HW5 : Hid (Below u.heap.size u W5) := (HW.out.trans (hal.mono HUS.out)).trans (Rg.grown_below (Rg.own_below HR.out.1 hal) (Nat.le_trans HUS.out hal.size) hg5)
        have HL5 : Hid ((ds ++ [(A1, q, c1)]).length + ([] : List Fld).length ≤ k + 1) := by
          have h1 := HLE.out; have h2 := HQ.out
          show _ ≤ _
          simp only [List.length_append, List.length_cons, List.length_nil]; omega
        clear ho5 hg5 hl5 hal
        go_wp2_with fail
        go_roundw
        case rel => exact ⟨k + 1, acc ++ [last], [], _, by omega, by go_num, HR5, by show readL _ _ _ _ = _; rw [HRS.out]; exact HE2.out, HW5, HL5⟩
        case measure => simp [intOf]; omega
      rw [if_neg (by simpa using hle)] at hh
      have hne : (ln == []) = false := beq_eq_false_iff_ne.2 hle
      have hfl := field_line ln (k : Int) 0
      have HF := Lib.hid (refField_any ln wr HLL.out)
      obtain ⟨F, hF⟩ : ∃ F, fieldP ln 0 = F := ⟨_, rfl⟩
      rw [hF] at hfl HF
      cases F with
      | none =>
        have HE2 : Hid (X = (2, (k : Int), [])) := by
          show _ = _
          rw [← hh]
          rw [hfl]; rfl
        clear hh hfl hF
        go_wp2_with fail
        refine HF.out.mono ?_
        rintro e z ⟨hb, he⟩
        have he2 : e = .returned (.tuple #[.agg #[.string ⟨#[]⟩, .string ⟨#[]⟩, .int .i64 0], .bool false]) := he
        subst he2
        have HZ : Hid (Below u.heap.size u (z.alloc (.cells #[.string ⟨#[]⟩, .string ⟨#[]⟩, .int .i64 0] 46))) := (HW.out.trans (hb.mono HUS.out)).alloc (Nat.le_trans HUS.out hb.size) _
        clear he hb HF
        go_wp2_with fail
        exact bodyPost_ret (v := .tuple #[.slice none 0 0, .int .i64 k, .int .i64 2]) (by simp [results, Tryd.results9, go_sem]) rfl (by show PRet w X _ _; rw [HE2.out]; exact ⟨none, 0, rfl, Gr.row_nil _ _, HB.out.trans (HZ.out.mono HSZ.out)⟩)
      | some f =>
        obtain ⟨fk, fv, f0⟩ := f
        have hh2 : (if hasK last fk then ((6 : Int), (k : Int), ([] : List (List Fld))) else readL (k + 1) rest acc (last ++ [⟨fk, fv, k⟩])) = X := by
          rw [← hh]
          rw [hfl]; rfl
        clear hh hfl hF
        go_wp2_with fail
        refine HF.out.mono ?_
        rintro e z ⟨hb, he⟩
        have he2 : e = .returned (.tuple #[.agg #[.string ⟨fk.toArray⟩, .string ⟨fv.toArray⟩, .int .i64 0], .bool true]) := he
        subst he2
        obtain ⟨V0, hV0⟩ : ∃ V, z.alloc (.cells #[.string ⟨fk.toArray⟩, .string ⟨fv.toArray⟩, .int .i64 0] 46) = V := ⟨_, rfl⟩
        have HT0 : Hid (Tri z.heap.size fk fv 0 46 (V0.setCell ⟨z.heap.size, 2, none⟩ (.int .i64 0))) := tri_line (tri_new hV0)
        have HZV : Hid (Below z.heap.size z (V0.setCell ⟨z.heap.size, 2, none⟩ (.int .i64 0))) := (alloc_low hV0).setCell (Nat.le_refl _) _
        have HWV : Hid (Below wr.heap.size wr (V0.setCell ⟨z.heap.size, 2, none⟩ (.int .i64 0))) := hb.trans (HZV.out.mono hb.size)
        have HZS : Hid (wr.heap.size ≤ z.heap.size) := hb.size
        obtain ⟨v0, v1, v2, _⟩ := tri_cells (tri_new hV0)
        have hg := refGet_any A1 q c1 last fk (V0.setCell ⟨z.heap.size, 2, none⟩ (.int .i64 0)) HQ.out (Rg.row_below HR1.out HWV.out) (by omega)
        have hhas := getF_has last fk
        obtain ⟨G, hG⟩ : ∃ G, getF last fk = G := ⟨_, rfl⟩
        rw [hG] at hg hhas
        obtain ⟨g0, hg0⟩ : ∃ g : Fld, G.getD ⟨[], [], 0⟩ = g := ⟨_, rfl⟩
        have HGT : Hid (Calls Tryd.prog 16 #[.slice A1 q c1, .string ⟨fk.toArray⟩] (V0.setCell ⟨z.heap.size, 2, none⟩ (.int .i64 0)) fun e w' => e = .returned (.tuple #[.agg #[.string ⟨g0.key.toArray⟩, .string ⟨g0.val.toArray⟩, .int .i64 g0.line], .bool G.isSome]) ∧ Below (V0.setCell ⟨z.heap.size, 2, none⟩ (.int .i64 0)).heap.size (V0.setCell ⟨z.heap.size, 2, none⟩ (.int .i64 0)) w') := hg.mono fun _ _ h => by
          obtain ⟨h1, h2⟩ := h
          rw [hg0] at h1
          exact ⟨h1, h2⟩
        clear hg hG hg0
        clear he hb HF
        go_wp2_with fail
        clear hV0 v0 v1 v2
        generalize V0.setCell ⟨z.heap.size, 2, none⟩ (.int .i64 0) = V at *
        refine HGT.out.mono ?_
        rintro _ z2 ⟨rfl, hb2⟩
        obtain ⟨V2, hV2⟩ : ∃ V, z2.alloc (.cells #[.string ⟨g0.key.toArray⟩, .string ⟨g0.val.toArray⟩, .int .i64 g0.line] 46) = V := ⟨_, rfl⟩
        have hal2 : Below V.heap.size V V2 := hb2.trans ((alloc_low hV2).mono hb2.size)
        have HT2 : Hid (Tri z.heap.size fk fv 0 46 V2) := tri_below HT0.out hal2
        have HW2 : Hid (Below wr.heap.size wr V2) := HWV.out.trans (hal2.mono HWV.out.size)
        clear hb2 hal2 HGT
        cases hhk : hasK last fk
        · rw [hhk] at hh2 hhas
          rw [hhas]
          have HE2 : Hid (readL (k + 1) rest acc (last ++ [⟨fk, fv, k⟩]) = X) := hh2
          clear hh2 hhk hhas
          obtain ⟨v0, v1, v2, f0, f1, f2⟩ := tri_cells HT2.out
          obtain ⟨V3, hV3⟩ : ∃ V, V2.setCell ⟨z.heap.size, 2, none⟩ (.int .i64 k) = V := ⟨_, rfl⟩
          have HT3 : Hid (Tri z.heap.size fk fv k 46 V3) := by show Tri _ _ _ _ _ _; rw [← hV3]; exact tri_line HT2.out
          have HW3 : Hid (Below wr.heap.size wr V3) := by show Below _ _ _; rw [← hV3]; exact HW2.out.setCell HZS.out _
          have HW4 : Hid (Below wr.heap.size wr (V3.alloc (.cells #[.string ⟨fk.toArray⟩, .string ⟨fv.toArray⟩, .int .i64 k] 46))) := HW3.out.alloc HW3.out.size _
          have HB4 : Hid (u.heap.size ≤ (V3.alloc (.cells #[.string ⟨fk.toArray⟩, .string ⟨fv.toArray⟩, .int .i64 k] 46)).heap.size) := Nat.le_trans HUS.out HW4.out.size
          have HDL : Hid (last.length + 1 ≤ 1000000) := by have := HQ.out; show _ ≤ _; omega
          obtain ⟨t0, t1, t2, _⟩ := tri_cells HT3.out
          go_wp2_with (at_builtin; refine Rg.wpList_app_at fitsF sliceRF rfl (.tmp 72) (.tmp 74) rfl u.heap.size _ last [⟨fk, fv, k⟩] rfl (Rg.own_below HR.out.2.2.2.1 HW4.out) _ _ rfl (Rg.news_new V3 _ [(⟨fk, fv, (k : Int)⟩ : Fld)] _ (by rfl)) (Nat.zero_lt_succ _) HDL.out HB4.out ?_)
          intro g cap W5 ho5 hg5 hl5
          have HR5 := Lib.hid (rdo_add neOF (rdo_below HR.out HW4.out) ho5 hg5 (by simpa using hl5))
          have HW5 : Hid (Below u.heap.size u W5) := (HW.out.trans (HW4.out.mono HUS.out)).trans (Rg.grown_below (Rg.own_below HR.out.2.2.2.1 HW4.out) HB4.out hg5)
          have HL5 : Hid (ds.length + (last ++ [⟨fk, fv, k⟩] : List Fld).length ≤ k + 1) := by
            have h1 := HLE.out
            show _ ≤ _
            simp only [List.length_append, List.length_cons, List.length_nil]; omega
          clear ho5 hg5 hl5 t0 t1 t2 v0 v1 v2 f0 f1 f2 hV3 hV2
          go_wp2_with fail
          go_roundw
          case rel => exact ⟨k + 1, acc, last ++ [⟨fk, fv, k⟩], ds, by omega, by go_num, HR5, by show readL _ _ _ _ = _; rw [HRS.out]; exact HE2.out, HW5, HL5⟩
          case measure => simp [intOf]; omega
        · rw [hhk, if_pos rfl] at hh2
          rw [hhk] at hhas
          rw [hhas]
          have HE2 : Hid (X = (6, (k : Int), [])) := hh2.symm
          have HZ : Hid (Below u.heap.size u V2) := HW.out.trans (HW2.out.mono HUS.out)
          clear hh2 hhk hhas
          go_wp2_with fail
          clear hV2
          exact bodyPost_ret (v := .tuple #[.slice none 0 0, .int .i64 k, .int .i64 6]) (by simp [results, Tryd.results9, go_sem]) rfl (by show PRet w X _ _; rw [HE2.out]; exact ⟨none, 0, rfl, Gr.row_nil _ _, HB.out.trans (HZ.out.mono HSZ.out)⟩)
    · obtain rfl : k = n := by omega
      have HE2 : Hid (X = (0, 0, if last.isEmpty then acc else acc ++ [last])) := by
        show _ = _
        rw [← HH.out, List.drop_eq_nil_of_le (by rw [HN.out]; exact Nat.le_refl _), readL_nil]
      by_cases hq0 : q = 0
      · have hl0 : last = [] := List.length_eq_zero_iff.1 (HQ.out.trans hq0)
        have HE3 : Hid (X = (0, 0, acc)) := by show _ = _; rw [HE2.out, hl0]; rfl
        obtain ⟨C, d, hv, hrow2, _, _⟩ := Rg.row_own fitsO HR.out.1
        have HROW2 := Lib.hid hrow2
        have HDA := Lib.hid (rdo_len HR.out)
        subst hv hq0
        clear hl0 hrow2
        go_wp2_with fail
        exact bodyPost_ret (v := .tuple #[.slice C ds.length d, .int .i64 0, .int .i64 0]) (by simp [results, Tryd.results9, go_sem]) rfl (by show PRet w X _ _; rw [HE3.out]; exact ⟨C, d, congrArg (fun x => Ending.returned (.tuple #[Value.slice C x d, .int .i64 0, .int .i64 0])) HDA.out, ⟨ds, HROW2.out, HR.out.2.1⟩, HB.out.trans (HW.out.mono HSZ.out)⟩)
      have hl0 : last.isEmpty = false := by
        cases last with
        | nil => exact absurd HQ.out.symm (by simpa using hq0)
        | cons f l => rfl
      have HE3 : Hid (X = (0, 0, acc ++ [last])) := by show _ = _; rw [HE2.out, hl0]; rfl
      have dq : decide (0 < q) = true := decide_eq_true (by omega)
      have HDL : Hid (ds.length + 1 ≤ 1000000) := by have := HLE.out; show _ ≤ _; omega
      clear hl0
      go_wp2_with (at_builtin; refine Rg.wpList_app_at fitsO sliceRE rfl (.tmp 79) (.tmp 81) rfl u.heap.size _ ds [(A1, q, c1)] rfl (Rg.own_below HR.out.1 ((Below.refl _ _).alloc (Nat.le_refl _) _)) _ _ rfl (Rg.news_new wr _ [(A1, q, c1)] _ (by rfl)) (Nat.zero_lt_succ _) HDL.out ?b2 ?_)
      case b2 => have := HUS.out; simp; omega
      intro g cap W5 ho5 hg5 hl5
      have hal : Below wr.heap.size wr (wr.alloc (.cells #[.slice A1 q c1] 33)) := (Below.refl _ _).alloc (Nat.le_refl _) _
      have HR5 := Lib.hid (rdo_end neOF (rdo_below HR.out hal) HQ.out ho5 hg5 (by simpa using hl5))
      have HW5 : Hid (Below u.heap.size u W5) := (HW.out.trans (hal.mono HUS.out)).trans (Rg.grown_below (Rg.own_below HR.out.1 hal) (Nat.le_trans HUS.out hal.size) hg5)
      obtain ⟨C, d, hv, hrow2, _, _⟩ := Rg.row_own fitsO HR5.out.1
      have HROW2 := Lib.hid hrow2
      have HDA := Lib.hid (rdo_len HR5.out)
      obtain ⟨rfl, _, rfl⟩ := Value.slice.inj hv
      clear ho5 hg5 hl5 hal hrow2 hv
      go_wp2_with fail
      exact bodyPost_ret (v := .tuple #[.slice (some ⟨g, 0, none⟩) (ds.length + 1) cap, .int .i64 0, .int .i64 0]) (by simp [results, Tryd.results9, go_sem]) rfl (by show PRet w X _ _; rw [HE3.out]; exact ⟨_, cap, congrArg (fun x => Ending.returned (.tuple #[Value.slice (some ⟨g, 0, none⟩) x cap, .int .i64 0, .int .i64 0])) (by have := HDA.out; simpa using this), ⟨_, HROW2.out, HR5.out.2.1⟩, HB.out.trans (HW5.out.mono HSZ.out)⟩)
end Go.Proofs.YtmhobdlhmkbkdaaDoor

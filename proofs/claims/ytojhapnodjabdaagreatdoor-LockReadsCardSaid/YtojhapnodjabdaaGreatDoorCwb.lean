/- The reference's Read of a lock: walked. -/
import Derived.Test.YtojhapnodjabdaaGreatDoorCwa
namespace Go.Proofs.YtojhapnodjabdaaGreatDoor
open Go.RowKit Lk At Sz
attribute [local go_sem ↓] Go.wp_at_zero Go.wp_at_succ
theorem Lk.line_le2 {hd : List (List UInt8)} {x : List UInt8} (h : x ∈ hd) : x.length ≤ (joinL hd).length := by
  induction hd with
  | nil => cases h
  | cons a hd ih =>
    rw [joinL_cons]
    rcases List.mem_cons.1 h with rfl | h
    · rw [List.length_append, List.length_append]; omega
    · have := ih h; rw [List.length_append, List.length_append]; omega
/-- Cells of a block behind all that an append may touch. -/
theorem Lk.kept_far {wr y W5 : World} {o : Obj} {B : Nat} {T : TypeId} {v x1 x2 : Value} {l : List Ent} {ae : Addr} (h : ∀ u, Below y.heap.size y u → u.cell? ae = some x1 ∧ u.cell? ⟨ae.block, ae.off + 1, none⟩ = some x2) (hl : ae.block < y.heap.size) (hf : wr.heap.size ≤ ae.block) (hO : Rg.Own encE 2 wr B T v l) (hg : (y.drew.alloc o).grownBy W5 v.ownBlock) : W5.cell? ae = some x1 ∧ W5.cell? ⟨ae.block, ae.off + 1, none⟩ = some x2 := by
  obtain ⟨h1, h2⟩ := h _ ((Below.refl _ _).drew.alloc (Nat.le_refl _) o)
  have hlt : ae.block < (y.drew.alloc o).heap.size := Nat.lt_of_lt_of_le hl ((Below.refl _ _).drew.alloc (Nat.le_refl _) o : Below y.heap.size y _).size
  have hne : some ae.block ≠ v.ownBlock := fun e => by
    have := (Rg.own_lt hO ae.block e.symm).2; omega
  exact ⟨(hg.cell_far _ hlt hne).trans h1, (hg.cell_far _ (by exact hlt) (by exact hne)).trans h2⟩
set_option maxRecDepth 100000 in
set_option maxHeartbeats 6400000 in
theorem refReadLock_any (s : List UInt8) (w : World) (hs : s.length ≤ 9000) :
    Calls Tryz.prog 21 #[.string ⟨s.toArray⟩] w (ReadR w s) := by
  have d0 : decide ((65536 : Int) < (s.length : Int)) = false := decide_eq_false (by omega)
  have HRW := Lib.hid (refRows_any s w (by omega))
  cases hend : endB s
  · have HX : Hid (readL s = (0, 2, [])) := read_form (by omega) (Or.inr hend)
    have HEN := Lib.hid hend
    clear hend
    go_enter Tryz.func21, Tryz.ntmps21
    go_wp2_with fail
    refine HRW.out.mono ?_
    rintro e z ⟨hb, _, hc⟩
    rw [if_neg (by rw [HEN.out]; decide)] at hc
    subst hc
    have HB := Lib.hid hb
    clear hb HRW
    go_wp2_with fail
    exact bodyPost_ret (v := .tuple #[.slice none 0 0, .int .i64 0, .int .i64 2]) (by simp [results, Tryz.results21, go_sem]) rfl (readR_of HX.out HB.out rfl (Rg.row_nil _ _))
  · have HEN := Lib.hid hend
    by_cases h0 : s = []
    · have HX : Hid (readL s = (0, 2, [])) := read_form (by omega) (Or.inl (by rw [h0]; rfl))
      have e0 : s.isEmpty = true := by rw [h0]; rfl
      have e1 : (s == []) = true := by rw [h0]; rfl
      clear hend h0
      go_enter Tryz.func21, Tryz.ntmps21
      go_wp2_with fail
      refine HRW.out.mono ?_
      rintro e z ⟨hb, _, hc⟩
      rw [if_pos HEN.out] at hc
      obtain ⟨A, n, c, rfl, hn, _, hrow⟩ := hc
      have HB := Lib.hid hb
      clear hb HRW hn hrow
      go_wp2_with fail
      exact bodyPost_ret (v := .tuple #[.slice none 0 0, .int .i64 0, .int .i64 2]) (by simp [results, Tryz.results21, go_sem]) rfl (readR_of HX.out HB.out rfl (Rg.row_nil _ _))
    · have hie : s.isEmpty = false := by rw [List.isEmpty_eq_false_iff]; exact h0
      have hbe : (s == []) = false := beq_eq_false_iff_ne.2 h0
      obtain ⟨hd, last, hL, hs2, hno, h10, hLd⟩ := Lk.shape (s := s) hie hend
      have hr := read_shape (by omega) hie hend hL
      have hLL : Hid (∀ x ∈ hd, x.length ≤ 9000) := fun x hx => by have := line_le2 hx; have := congrArg List.length hs2; simp at this; omega
      have hcnt : s.length = (joinL hd).length + last.length + 1 := by have := congrArg List.length hs2; simp at this; omega
      have hx1 : (⟨s.toArray⟩ : ByteArray).extract 0 (joinL hd).length = ⟨(joinL hd).toArray⟩ := by
        rw [hs2, ByteArray.extract_mk, List.drop_zero, Nat.sub_zero, List.append_assoc, List.take_left]
      obtain ⟨F, hF⟩ : ∃ F, joinL hd = F := ⟨_, rfl⟩
      rw [hF] at hr hcnt hx1
      have hFl : F.length ≤ 1000000 := by omega
      have HSU : Hid (∀ W : World, Calls Tryz.prog 24 #[.string ⟨F.toArray⟩] W fun e w' => e = .returned (.int .u32 (sumL F : Nat)) ∧ W = w') := fun W => refSum_any F W hFl
      have HHX : Hid (∀ W : World, Calls Tryz.prog 35 #[.int .u32 (sumL F : Nat)] W fun e w' => e = .returned (.string ⟨(hexj 8 (sumL F)).toArray⟩) ∧ W = w') := fun W => refHex_any _ W (sumL_lt F)
      have hsl : sumLine F = [115, 117, 109, 32] ++ hexj 8 (sumL F) ++ [10] := rfl
      obtain ⟨x, hx⟩ : ∃ x, sumL F = x := ⟨_, rfl⟩
      rw [hx] at HSU HHX hsl
      obtain ⟨hh, hhh⟩ : ∃ h, hexj 8 x = h := ⟨_, rfl⟩
      have hhl : hh.length = 8 := by rw [← hhh]; exact hexj_len 8 x
      rw [hhh] at HHX hsl
      obtain ⟨G, hG⟩ : ∃ G, [115, 117, 109, 32] ++ hh = G := ⟨_, rfl⟩
      have rG := cat_to hG (by rw [← hG]; simp; omega)
      rw [hsl, hG] at hr
      have HCMP : Hid ((last = G → readL s = linesE hd) ∧ (last ≠ G → readL s = (hd.length, 9, []))) := by
        refine ⟨fun h => ?_, fun h => ?_⟩
        · rw [hr, h, if_pos rfl]
        · rw [hr, if_neg (fun e => h (List.append_cancel_right e))]
      have HLB : Hid (linesL s = hd ++ [last]) := hL
      obtain ⟨f, hf⟩ : ∃ f, F.length = f := ⟨_, rfl⟩
      rw [hf] at hx1 hcnt
      obtain ⟨n, hn'⟩ : ∃ n, hd.length = n := ⟨_, rfl⟩
      have HN := Lib.hid hn'
      rw [hn'] at HCMP
      obtain ⟨a, ha⟩ : ∃ a, a = f + 1 := ⟨_, rfl⟩
      have hsub : (s.length : Int) - (last.length : Int) = (a : Int) := by omega
      have hsub2 : (a : Int) - 1 = (f : Int) := by omega
      have wa : IntKind.i64.wrap (a : Int) = (a : Int) := IntWalk.i64_in _ (by omega)
      have wf : IntKind.i64.wrap (f : Int) = (f : Int) := IntWalk.i64_in _ (by omega)
      have f0 : (0 : Int) ≤ (f : Int) := by omega
      have f1 : (f : Int) ≤ (s.length : Int) := by omega
      have hn9 : n ≤ 9000 := by
        have := joinL_len hd
        rw [hF, hf, hn'] at this; omega
      clear hr hL hs2 hno h10 hLd hend h0 hF hx hhh hG hsl hf hn' hcnt ha
      go_enter Tryz.func21, Tryz.ntmps21
      go_wp2_with fail
      refine HRW.out.mono ?_
      rintro e z ⟨hb, _, hc⟩
      rw [if_pos HEN.out] at hc
      obtain ⟨A, m, c, rfl, hn, _, hrow⟩ := hc
      rw [HLB.out] at hn hrow
      rw [List.length_append] at hn
      obtain rfl : m = n + 1 := by rw [← hn, HN.out]; rfl
      have HB := Lib.hid hb
      have HROW := Lib.hid hrow
      obtain ⟨ad, rfl, hadl, c0⟩ := txt_at hrow n (by rw [List.length_append, HN.out]; simp)
      have hgl : (hd ++ [last])[n]'(by rw [List.length_append, HN.out]; simp) = last := by
        rw [List.getElem_append_right (by rw [HN.out]; exact Nat.le_refl _)]; simp
      rw [hgl] at c0
      clear hb HRW hn hrow hgl
      have w0 : IntKind.i64.wrap (n : Int) = (n : Int) := IntWalk.i64_in _ (by omega)
      have n0 : (0 : Int) ≤ (n : Int) := by omega
      have n1 : (n : Int) < (n : Int) + 1 := by omega
      have HRG := Lib.hid rG
      have HC0 : Hid (∀ u, Below z.heap.size z u → u.cell? (ad.add n) = some (.string ⟨last.toArray⟩)) := fun u hb => (hb.cell (by rw [Rs.add_block]; exact hadl)).trans c0
      clear rG
      go_wp2_with fail
      clear hsub hsub2 wa wf f0 f1 hx1 d0
      by_cases hq : last = G
      · have HRR := Lib.hid (HCMP.out.1 hq)
        have e1 : (last == G) = true := by simpa using hq
        clear hq
        have rG := HRG.out
        go_region_held3 (fun w' => w'.cell? (ad.add n) = some (.string ⟨last.toArray⟩)) (exact HC0.out _ (Below.refl _ _).drew)
          (first
            | (go_at_call 35; refine (HHX.out _).mono ?_; rintro _ y ⟨rfl, rfl⟩)
            | (go_at_call 24; refine (HSU.out _).mono ?_; rintro _ y ⟨rfl, rfl⟩))
        clear rG c0
        go_wp2_with fail
        clear e1 w0 n0 n1
        go_loopw [9, 10] (fun v i wr => ∃ (k : Nat) (l : List Ent), k ≤ n ∧ i = .int .i64 k ∧ Hid (RdSt hd k l) ∧ Hid (Rg.Own encE 2 wr z.heap.size 61 v l) ∧ Hid (Below z.heap.size z wr ∧ z.heap.size ≤ wr.heap.size)) (fun _ i _ => n - (intOf i).toNat)
        case atStart => exact ⟨0, [], Nat.zero_le _, rfl, rd_start hd, Rg.own_nil _ _ _, (Below.refl _ _).drew, Nat.le_refl _⟩
        case round =>
          obtain ⟨k, l, hk, rfl, HST, HO, HBB⟩ := hrel
          by_cases hlt : k < n
          · have hkl : k < hd.length := by rw [HN.out]; exact hlt
            obtain ⟨ad', e', _, c0⟩ := txt_at (Rg.row_below HROW.out HBB.out.1) k (by rw [List.length_append, HN.out]; simp; omega)
            cases e'
            rw [List.getElem_append_left hkl] at c0
            have hle1 := hLL.out _ (List.getElem_mem hkl)
            have HNO : Hid (entOf hd[k] = none → linesE hd = (k, 2, [])) := fun h => lines_no2 hkl HST.out.2.1 h
            have HYE : Hid (∀ e, entOf hd[k] = some e → RdSt hd (k + 1) (l ++ [e])) := fun e h => rd_step HST.out hkl (by omega) h
            obtain ⟨x, hx⟩ : ∃ x, hd[k] = x := ⟨_, rfl⟩
            rw [hx] at c0 hle1 HNO HYE
            have HWB : Hid (Below w.heap.size w wr) := HB.out.trans (HBB.out.1.mono HB.out.size)
            have HEO := Lib.hid (refWords_any x wr (by omega))
            obtain ⟨sy, sn⟩ := sp_ent x
            have HSY := Lib.hid sy
            have HSN := Lib.hid sn
            have hk1 : (k : Int) < (n : Int) + 1 := by omega
            clear hx hle1 sy sn
            go_wp2_with fail
            refine HEO.out.mono ?_
            rintro ee y ⟨hb4, hcs⟩
            have HB4 := Lib.hid hb4
            have HWZ := Lib.hid (HWB.out.trans (hb4.mono HWB.out.size))
            clear hb4 HEO c0
            cases he : entOf x with
            | none =>
              have HRN : Hid (readL s = (k, 2, [])) := HRR.out.trans (HNO.out he)
              have hno := HSN.out he
              clear he
              rcases hcs with ⟨ha, A2, n2, c2, rfl, hn2, _, _⟩ | ⟨ha, rfl⟩
              · have h2 : n2 ≠ 2 := by
                  rcases hno with h | h
                  · rw [ha] at h; cases h
                  · rw [← hn2]; exact h
                have e2 : ((n2 : Int) != 2) = true := bne_iff_ne.2 (by omega)
                clear ha hn2 hno h2
                go_wp2_with fail
                exact bodyPost_ret (v := .tuple #[.slice none 0 0, .int .i64 k, .int .i64 2]) (by simp [results, Tryz.results21, go_sem]) rfl (readR_of HRN.out HWZ.out rfl (Rg.row_nil _ _))
              · clear ha hno
                go_wp2_with fail
                exact bodyPost_ret (v := .tuple #[.slice none 0 0, .int .i64 k, .int .i64 2]) (by simp [results, Tryz.results21, go_sem]) rfl (readR_of HRN.out HWZ.out rfl (Rg.row_nil _ _))
            | some e =>
              obtain ⟨nm, v⟩ := e
              have HST2 := Lib.hid (HYE.out _ he)
              obtain ⟨hs1, hs2⟩ := HSY.out _ he
              dsimp only at hs1
              clear he
              rcases hcs with ⟨ha, A2, n2, c2, rfl, hn2, hrow2, hfr⟩ | ⟨ha, _⟩
              · rw [hs1] at hn2 hrow2
                obtain rfl : n2 = 2 := hn2.symm
                obtain ⟨ae, rfl, hael, g0⟩ := txt_at hrow2 0 (Nat.zero_lt_succ _)
                obtain ⟨ae', e', _, g1⟩ := txt_at hrow2 1 (Nat.succ_lt_succ (Nat.zero_lt_succ _))
                cases e'
                have hfr2 := hfr ae rfl
                rw [Rg.add_zero] at g0
                have ea : ae.add 1 = ⟨ae.block, ae.off + 1, none⟩ := rfl
                rw [ea] at g1
                dsimp only [List.getElem_cons_zero, List.getElem_cons_succ] at g0 g1
                have H3 : Hid (∀ u, Below y.heap.size y u → u.cell? ae = some (.string ⟨nm.toArray⟩) ∧ u.cell? ⟨ae.block, ae.off + 1, none⟩ = some (.string ⟨v.toArray⟩)) := fun u hb => ⟨(hb.cell hael).trans g0, (hb.cell (by exact hael)).trans g1⟩
                have HAE := Lib.hid hael
                have HFR := Lib.hid hfr2
                have HSZ : Hid (l.length + 1 ≤ 1000000) := by have := HST.out.2.2.1; show _ ≤ _; omega
                have hb2 : z.heap.size ≤ (y.drew.alloc (.cells #[.string ⟨nm.toArray⟩, .string ⟨v.toArray⟩] 61)).heap.size := Nat.le_trans HBB.out.2 (Nat.le_trans HB4.out.size ((Below.refl _ _).alloc (Nat.le_refl _) _ : Below y.drew.heap.size y.drew _).size)
                have HB2 := Lib.hid hb2
                clear ha hs1 hs2 hn2 hrow2 hfr hfr2 hael hb2 ea
                go_wp2_with fail
                go_region_held3 (fun w' => w'.cell? ae = some (.string ⟨nm.toArray⟩) ∧ w'.cell? ⟨ae.block, ae.off + 1, none⟩ = some (.string ⟨v.toArray⟩))
                  (first
                    | exact H3.out _ (Below.refl _ _).drew
                    | exact H3.out _ ((Below.refl _ _).drew.alloc (Nat.le_refl _) _)
                    | exact kept_far H3.out HAE.out HFR.out HO.out hg5)
                  ((refine Rg.step_app sliceR (by rfl) (.tmp 74) (.tmp 82) (by rfl) z.heap.size u9 l [((nm, v) : Ent)] (by rfl) (Rg.own_below HO.out (HB4.out.drew.alloc HB4.out.size _)) _ _ (by rfl) (Rg.news_new y.drew _ [((nm, v) : Ent)] _ (by rfl)) (Nat.zero_lt_succ _) HSZ.out HB2.out ?_; intro v5 W5 ho5 hg5 hz5; have HB5 := app_done4 HBB HB4.out.drew HO hg5))
                have HO5 := Lib.hid ho5
                clear ho5 hg5 hz5 g0 g1
                go_wp2_with fail
                go_roundw
                case rel => exact ⟨k + 1, _, by omega, by go_num, HST2, HO5, HB5⟩
                case measure => simp [intOf]; omega
              · rw [ha] at hs2; cases hs2
          · obtain rfl : k = n := by omega
            obtain ⟨h1, h2, h3, h4⟩ := HST.out
            rw [List.take_of_length_le (by rw [HN.out]; exact Nat.le_refl _)] at h1
            have hla := lines_all (fun i hi => h2 i (by rw [← HN.out]; exact hi)) h1
            have HLA := Lib.hid hla
            obtain ⟨C, d, rfl, hrow, _, _⟩ := Rg.row_own fitsE HO.out
            have HCR := Lib.hid hrow
            have HWB : Hid (Below w.heap.size w wr) := HB.out.trans (HBB.out.1.mono HB.out.size)
            have HRQ := Lib.hid (refCheckLock_any C l.length d l wr rfl hrow (fun e he => by have := h4 e he; unfold maxLen; omega))
            obtain ⟨X, hX⟩ : ∃ X, checkL l = X := ⟨_, rfl⟩
            have HX := Lib.hid hX
            rw [hX] at HRQ HLA
            obtain ⟨i, e⟩ := X
            dsimp only at HRQ HLA
            clear h1 h2 h3 h4 hla hrow HO HBB hX
            go_wp2_with fail
            refine HRQ.out.mono ?_
            rintro _ y ⟨rfl, hb4⟩
            have HWZ := Lib.hid (HWB.out.trans (hb4.mono HWB.out.size))
            have HCR2 := Lib.hid (Rg.row_below HCR.out hb4)
            clear hb4 HRQ
            by_cases h0 : e = 0
            · have HRN : Hid (readL s = (0, 0, l)) := by show _ = _; rw [HRR.out, HLA.out, if_pos h0]
              subst h0
              go_wp2_with fail
              exact bodyPost_ret (v := .tuple #[.slice C l.length d, .int .i64 0, .int .i64 0]) (by simp [results, Tryz.results21, go_sem]) rfl (readR_of HRN.out HWZ.out rfl HCR2.out)
            · have HRN : Hid (readL s = (i, e, [])) := by show _ = _; rw [HRR.out, HLA.out, if_neg h0]
              have e0 : (e != 0) = true := bne_iff_ne.2 h0
              clear h0
              go_wp2_with fail
              exact bodyPost_ret (v := .tuple #[.slice none 0 0, .int .i64 i, .int .i64 e]) (by simp [results, Tryz.results21, go_sem]) rfl (readR_of HRN.out HWZ.out rfl (Rg.row_nil _ _))
      · have HRR := Lib.hid (HCMP.out.2 hq)
        have e1 : (last == G) = false := beq_eq_false_iff_ne.2 hq
        clear hq
        have rG := HRG.out
        go_region_held3 (fun w' => w'.cell? (ad.add n) = some (.string ⟨last.toArray⟩)) (exact HC0.out _ (Below.refl _ _).drew)
          (first
            | (go_at_call 35; refine (HHX.out _).mono ?_; rintro _ y ⟨rfl, rfl⟩)
            | (go_at_call 24; refine (HSU.out _).mono ?_; rintro _ y ⟨rfl, rfl⟩))
        clear rG c0
        go_wp2_with fail
        exact bodyPost_ret (v := .tuple #[.slice none 0 0, .int .i64 n, .int .i64 9]) (by simp [results, Tryz.results21, go_sem]) rfl (readR_of HRR.out HB.out.drew rfl (Rg.row_nil _ _))
end Go.Proofs.YtojhapnodjabdaaGreatDoor

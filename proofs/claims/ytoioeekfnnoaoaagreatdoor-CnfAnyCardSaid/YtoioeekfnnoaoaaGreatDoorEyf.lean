/- A clause's line, read: clauseOf, walked. -/
import Derived.Test.YtoioeekfnnoaoaaGreatDoorEye
namespace Go.Proofs.YtoioeekfnnoaoaaGreatDoor.Cl
open Go.RowKit Up Sz
/-- How a clause's line is read. -/
def ClauseE (w : World) (s : List UInt8) (line : Int) (e : Ending) (w' : World) : Prop := (∃ c C cap, clauseP s = some c ∧ e = .returned (.slice C c.length cap) ∧ Rg.Own encI 1 w' w.heap.size 3 (.slice C c.length cap) c) ∨ (clauseP s = none ∧ e = cPan line 2)
attribute [local go_sem ↓] Go.wp_at_zero Go.wp_at_succ
set_option maxRecDepth 100000 in
set_option maxHeartbeats 3200000 in
theorem clauseOf_any (s : List UInt8) (hs : s.length ≤ 900000) (line : Int) (w : World) (hq : QC w) :
    Calls Tryz.prog 67 #[.string ⟨s.toArray⟩, .int .i64 line] w fun e w' => ClauseE w s line e w' ∧ Below w.heap.size w w' := by
  have HS := Lib.hid (cSplit_any s [32] w hq.1 hs (by decide))
  have hpl := split_piece s
  have hne := sp_some s
  have HQ := Lib.hid (fun u (h : Below w.heap.size w u) => qc_stays _ _ hq h)
  have hcl : clauseP s = if (Lib.split s [32]).getLastD [] == [48] then (Lib.split s [32]).dropLast.mapM litP else none := rfl
  obtain ⟨t, ht⟩ : ∃ t, Lib.split s [32] = t := ⟨_, rfl⟩
  rw [ht] at HS hpl hne hcl
  obtain ⟨R, hR⟩ : ∃ R, clauseP s = R := ⟨_, rfl⟩
  rw [hR] at hcl
  have HCL := Lib.hid hcl
  have HPL : Hid (∀ p ∈ t, p.length ≤ 900000) := fun p h => Nat.le_trans (hpl p h) hs
  have HPOS : Hid (0 < t.length) := List.length_pos_iff.2 hne
  have HYES : Hid (∀ c C cap (w' : World), R = some c → Rg.Own encI 1 w' w.heap.size 3 (.slice C c.length cap) c → ClauseE w s line (.returned (.slice C c.length cap)) w') := fun c C cap w' h1 h2 => .inl ⟨c, C, cap, hR.trans h1, rfl, h2⟩
  have HNO : Hid (∀ w' : World, R = none → ClauseE w s line (cPan line 2) w') := fun w' h => .inr ⟨hR.trans h, rfl⟩
  clear ht hR hcl hpl hne hq
  go_enter Tryz.func67, Tryz.ntmps67
  go_wp2_with fail
  refine HS.out.mono ?_
  rintro _ w1 ⟨A, n, rfl, hn, hn2, hrow, hb⟩
  have HN := Lib.hid hn
  have HROW := Lib.hid hrow
  have HB1 := Lib.hid hb
  clear hn hrow hb HS
  have hn9 : n ≤ 900001 := by omega
  obtain ⟨p, hp⟩ : ∃ p, n = p + 1 := ⟨n - 1, by have := HPOS.out; have := HN.out; omega⟩
  have hpl : p < t.length := by rw [HN.out]; omega
  obtain ⟨ad, z, rfl, hz, hzb, hzc⟩ := trow_at HROW.out p hpl
  have HP := Lib.hid hp
  have w1p : IntKind.i64.wrap ((n : Int) - 1) = (p : Int) := (IntWalk.i64_in _ (by omega)).trans (by omega)
  have p0 : (0 : Int) ≤ (p : Int) := by omega
  have p1 : (p : Int) < (n : Int) := by omega
  have p2 : (p : Int) ≤ (n : Int) := by omega
  have HLD : Hid (t.getLastD [] = z) := by
    show _ = _
    rw [List.getLastD_eq_getLast?, List.getLast?_eq_getElem?, HN.out, HP.out, show p + 1 - 1 = p by omega, List.getElem?_eq_getElem hpl, hz]; rfl
  have hpn : p ≤ 900000 := by omega
  clear hp hz hzb hpl hn2
  cases hz0 : z == ([48] : List UInt8)
  · have HF : Hid (R = none) := by show _ = _; rw [HCL.out, HLD.out, hz0]; rfl
    go_wp2_with fail
    refine (cReq_no _).mono ?_
    rintro _ z ⟨rfl, rfl⟩
    go_wp2_with fail
    exact ⟨rfl, HNO.out _ HF.out, HB1.out⟩
  have HM : Hid (R = (t.take p).mapM litP) := by
    show _ = _
    rw [HCL.out, HLD.out, hz0, if_pos rfl, take_dropLast (HN.out.trans HP.out)]
  go_wp2_with fail
  refine (cReq_yes _).mono ?_
  rintro _ z ⟨rfl, rfl⟩
  clear hz0 hzc HCL HLD
  go_wp2_with fail
  go_loopw [7, 27] (fun v i wr => ∃ (k : Nat) (out : List Int), k ≤ p ∧ i = .int .i64 k ∧ Hid (CSt t k out) ∧ Hid (Rg.Own encI 1 wr w1.heap.size 3 v out) ∧ Hid (Below w1.heap.size w1 wr ∧ w1.heap.size ≤ wr.heap.size)) (fun _ i _ => p - (intOf i).toNat)
  case atStart => exact ⟨0, [], Nat.zero_le _, rfl, ⟨rfl, rfl⟩, Rg.own_nil _ _ _, Below.refl _ _, Nat.le_refl _⟩
  case round =>
    obtain ⟨k, out, hk, rfl, HST, HO, HB⟩ := hrel
    by_cases hlt : k < p
    · have hkt : k < t.length := by have := HN.out; have := HP.out; omega
      have hkt2 : k < (t.take p).length := by rw [List.length_take]; omega
      obtain ⟨ad2, u, had, hu, hub, huc⟩ := trow_at (Rg.row_below HROW.out HB.out.1) k hkt
      obtain rfl := Option.some.inj had
      have HUL : Hid (u.length ≤ 1000000) := by have := HPL.out u (by rw [← hu]; exact List.getElem_mem _); show _ ≤ _; omega
      have hmore : ∀ x, litP u = some x → CSt t (k + 1) (out ++ [x]) := fun x h => cst_more HST.out hkt (by rw [hu]; exact h)
      have hnone : litP u = none → R = none := fun h => HM.out.trans (mapM_none hkt2 (by rw [List.getElem_take, hu]; exact h))
      have k0 : (0 : Int) ≤ (k : Int) := by omega
      have k1 : (k : Int) < (p : Int) := by omega
      have HNU := Lib.hid (numberOf_any u line HUL.out wr (HQ.out wr (HB1.out.trans (HB.out.1.mono HB1.out.size))))
      obtain ⟨nu, hnu⟩ : ∃ x, numW u = x := ⟨_, rfl⟩
      have hlit := numW_lit (s := u)
      rw [hnu] at hlit
      clear had hu hub hkt hkt2
      cases nu with
      | none =>
        have HF := Lib.hid (hnone hlit)
        rw [numE_none hnu] at HNU
        clear hmore hnone hnu hlit
        go_wp2_with fail
        refine HNU.out.mono ?_
        first | rintro _ w2 rfl hb2 | rintro _ w2 ⟨rfl, hb2⟩
        have HB2 := Lib.hid (HB1.out.trans ((HB.out.1.trans (hb2.mono HB.out.2)).mono HB1.out.size))
        clear hb2
        go_wp2_with fail
        exact ⟨rfl, HNO.out _ HF.out, HB2.out⟩
      | some x =>
        rw [numE_some hnu] at HNU
        by_cases hx : x = 0
        · have HF := Lib.hid (hnone (by rw [hlit]; show (if x = 0 then none else some x) = none; rw [if_pos hx]))
          have d : (x != 0) = false := by simpa using hx
          clear hmore hnone hnu hlit hx
          go_wp2_with fail
          refine HNU.out.mono ?_
          first | rintro _ w2 rfl hb2 | rintro _ w2 ⟨rfl, hb2⟩
          have HB2 := Lib.hid (HB1.out.trans ((HB.out.1.trans (hb2.mono HB.out.2)).mono HB1.out.size))
          clear hb2
          go_wp2_with fail
          refine (cReq_no _).mono ?_
          rintro _ z ⟨rfl, rfl⟩
          go_wp2_with fail
          exact ⟨rfl, HNO.out _ HF.out, HB2.out⟩
        · have HST2 := Lib.hid (hmore x (by rw [hlit]; show (if x = 0 then none else some x) = some x; rw [if_neg hx]))
          have d : (x != 0) = true := by simpa using hx
          clear hmore hnone hnu hlit hx
          go_wp2_with fail
          refine HNU.out.mono ?_
          first | rintro _ w2 rfl hb2 | rintro _ w2 ⟨rfl, hb2⟩
          have HBZ : Hid (Below w1.heap.size w1 w2 ∧ w1.heap.size ≤ w2.heap.size) := ⟨HB.out.1.trans (hb2.mono HB.out.2), Nat.le_trans HB.out.2 hb2.size⟩
          have HO2 := Lib.hid (Rg.own_below HO.out hb2)
          clear hb2 HB HO
          go_wp2_with fail
          refine (cReq_yes _).mono ?_
          rintro _ z ⟨rfl, rfl⟩
          clear d
          go_wp2_with (at_builtin; refine Rg.wpList_app sliceC rfl (.tmp 38) (.tmp 40) rfl w1.heap.size _ out [x] rfl (Rg.own_below HO2.out ((Below.refl _ _).alloc (Nat.le_refl _) _)) _ _ rfl (Rg.news_new w2 _ _ _ (by rfl)) (Nat.zero_lt_succ _) ?s1 ?b1 ?_)
          case s1 => rw [HST.out.2]; show _ + 1 ≤ _; omega
          case b1 => have := HBZ.out.2; simp; omega
          intro v5 W5 ho5 hg5 hz5
          have HB5 := app_done HBZ (Below.refl _ _) HO2 hg5
          have HO5 := Lib.hid ho5
          clear ho5 hg5 hz5 HO2 HBZ
          go_wp2_with fail
          go_roundw
          case rel => exact ⟨k + 1, out ++ [x], by omega, by go_num, HST2.out, HO5.out, HB5.out⟩
          case measure => simp [intOf]; omega
    · obtain rfl : k = p := by omega
      have HF : Hid (R = some out) := HM.out.trans HST.out.1
      obtain ⟨C, cap, rfl, _, _, _⟩ := Rg.row_own fitsI HO.out
      have HY := Lib.hid (HYES.out out C cap wr HF.out (Rg.own_weak HB1.out.size HO.out))
      have HBF := Lib.hid (HB1.out.trans (HB.out.1.mono HB1.out.size))
      go_wp2_with fail
      go_ret
      exact ⟨HY.out, HBF.out⟩
end Go.Proofs.YtoioeekfnnoaoaaGreatDoor.Cl

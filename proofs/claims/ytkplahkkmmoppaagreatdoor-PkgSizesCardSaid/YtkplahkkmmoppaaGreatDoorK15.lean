/- Part 15 of what the laws lean on. -/
import Derived.Test.YtkplahkkmmoppaaGreatDoorK14
set_option maxRecDepth 100000
set_option maxHeartbeats 1600000
namespace Go.Proofs.YtkplahkkmmoppaaGreatDoor
open Go.RowKit Rs At Pg
namespace Pg
theorem cell_six {w W1 u : World} {a b c d e f : Value} {T : TypeId} (h1 : w.alloc (.cells #[a, b, c, d, e, f] T) = W1) (hb : Below W1.heap.size W1 u) :
  u.cell? ⟨w.heap.size, 0, none⟩ = some a ∧ u.cell? ⟨w.heap.size, 1, none⟩ = some b ∧ u.cell? ⟨w.heap.size, 2, none⟩ = some c ∧ u.cell? ⟨w.heap.size, 3, none⟩ = some d ∧ u.cell? ⟨w.heap.size, 4, none⟩ = some e ∧ u.cell? ⟨w.heap.size, 5, none⟩ = some f := by
 subst h1
 have h : u.heap[w.heap.size]? = some (.cells #[a, b, c, d, e, f] T (0, 0)) := (hb.block _ (by simp)).trans (heap_alloc_new w _)
 refine ⟨?_, ?_, ?_, ?_, ?_, ?_⟩ <;> simp [World.cell?, h]
def DFew (t : List (List Atm)) : Prop := ∀ l ∈ t, l.length ≤ 1000000 ∧ AFew l
theorem dfew_at {t : List (List Atm)} (h : DFew t) (k : Nat) (hk : k < t.length) : t[k].length ≤ 1000000 ∧ AFew t[k] := h _ (List.getElem_mem hk)
def PFew (p : Pk) : Prop := p.name.length ≤ maxLen ∧ p.deps.length ≤ 1000000 ∧ DFew p.deps ∧ p.confl.length ≤ 1000000 ∧ AFew p.confl ∧ p.prov.length ≤ 1000000 ∧ GFew p.prov ∧ p.wt < Wm.W
theorem depsE_cons (d : List Atm) (l : List (List Atm)) : depsE (d :: l) = if 1 ≤ d.length ∧ d.length ≤ 8 then (if atomsE d = 0 then depsE l else atomsE d) else 4 := rfl
theorem givesE_cons (g : Gv) (l : List Gv) : givesE (g :: l) = if giveE g = 0 then givesE l else giveE g := rfl
end Pg
attribute [local go_sem ↓] Go.wp_at_zero Go.wp_at_succ
theorem requirePkg_any (p : Pk) (D C G : Option Addr) (dn dc cn cc gn gc : Nat) (w : World) (hw : MaxOk w) (hd : Pg.DRow w D p.deps) (hdn : p.deps.length = dn) (hc : ARow w C p.confl) (hcn : p.confl.length = cn) (hg : GRow w G p.prov) (hgn : p.prov.length = gn) (hf : PFew p) :
  Calls Tryz.prog 40 #[.agg #[.string ⟨p.name.toArray⟩, .string ⟨p.ver.toArray⟩, .slice D dn dc, .slice C cn cc, .slice G gn gc, .float .f64 p.wt]] w fun e w' => e = okOr' (checkP p) ∧ Below w.heap.size w w' := by
 obtain ⟨nm, v, deps, confl, prov, wt⟩ := p
 dsimp only at hd hdn hc hcn hg hgn ⊢
 obtain ⟨f1, f2, f3, f4, f5, f6, f7, f8⟩ := hf
 dsimp only at f1 f2 f3 f4 f5 f6 f7 f8
 obtain ⟨R, hR⟩ : ∃ R, checkP ⟨nm, v, deps, confl, prov, wt⟩ = R := ⟨_, rfl⟩
 rw [hR]
 unfold checkP at hR
 dsimp only at hR
 obtain ⟨x1, hx1⟩ : ∃ x, verE v = x := ⟨_, rfl⟩
 obtain ⟨x2, hx2⟩ : ∃ x, depsE deps = x := ⟨_, rfl⟩
 obtain ⟨x3, hx3⟩ : ∃ x, atomsE confl = x := ⟨_, rfl⟩
 obtain ⟨x4, hx4⟩ : ∃ x, givesE prov = x := ⟨_, rfl⟩
 obtain ⟨x5, hx5⟩ : ∃ x, chkW wt = x := ⟨_, rfl⟩
 rw [hx1, hx2, hx3, hx4, hx5, hdn, hcn, hgn] at hR
 have hdl : dn ≤ 1000000 := by omega
 have hcl : cn ≤ 1000000 := by omega
 have hgl : gn ≤ 1000000 := by omega
 obtain ⟨W1, hW1⟩ : ∃ W, w.alloc (.cells #[.string ⟨nm.toArray⟩, .string ⟨v.toArray⟩, .slice D dn dc, .slice C cn cc, .slice G gn gc, .float .f64 wt] 34) = W := ⟨_, rfl⟩
 have HB1 : Hid (Below w.heap.size w W1) := alloc_low hW1
 have HW1 := Lib.hid hW1
 have HM := Lib.hid (maxOk_below hw HB1.out)
 have HD := Lib.hid hd
 have HDN := Lib.hid hdn
 have HC := Lib.hid hc
 have HCN := Lib.hid hcn
 have HG := Lib.hid hg
 have HGN := Lib.hid hgn
 have HF3 := Lib.hid f3
 have HF5 := Lib.hid f5
 have HF7 := Lib.hid f7
 have HF8 := Lib.hid f8
 have HX2 := Lib.hid hx2
 have HX3 := Lib.hid hx3
 have HX4 := Lib.hid hx4
 have HX5 := Lib.hid hx5
 have HN := Lib.hid (nameA_any nm W1 f1)
 have HV := Lib.hid (requireCanonical_any v W1 HM.out)
 rw [hx1] at HV
 have hR' := Lib.hid hR
 clear hw hd hdn hc hcn hg hgn f1 f2 f3 f4 f5 f6 f7 f8 hx1 hx2 hx3 hx4 hx5 hR
 obtain ⟨c0, c1, c2, c3, c4, c5⟩ := cell_six hW1 (Below.refl _ _)
 clear c2 c3 c4 c5
 go_enter Tryz.func40, Tryz.ntmps40
 go_wp2_with fail
 clear hW1
 refine HN.out.mono ?_
 rintro _ z ⟨rfl, rfl⟩
 have hR := hR'.out
 cases hnb : nameB nm
 ·rw [hnb, if_pos rfl] at hR
  have HE := Lib.hid hR
  clear hnb hR
  go_wp2_with fail
  refine (require_no _).mono ?_
  rintro _ z ⟨rfl, rfl⟩
  go_wp2_with fail
  exact ⟨rfl, by rw [← HE.out]; rfl, HB1.out⟩
 rw [hnb, if_neg (by decide)] at hR
 clear hnb hR' HN
 have hR' := Lib.hid hR
 clear hR
 go_wp2_with fail
 refine (require_yes _).mono ?_
 rintro _ z ⟨rfl, rfl⟩
 go_wp2_with fail
 refine HV.out.mono ?_
 clear HV
 rintro _ u ⟨rfl, hb⟩
 have HU := Lib.hid hb
 have HUW : Hid (Below w.heap.size w u) := HB1.out.trans (hb.mono HB1.out.size)
 clear hb c0 c1
 by_cases h1 : x1 = 0
 case neg =>
  have hR := hR'.out
  rw [if_pos h1] at hR
  have HE := Lib.hid hR
  have HK : Hid (okOr' x1 = pan x1) := okOr_ne h1
  clear hR h1
  rw [HK.out]
  go_wp2_with fail
  exact ⟨rfl, by rw [← HE.out, HK.out], HUW.out⟩
 have hR := hR'.out
 subst h1
 rw [if_neg (by simp)] at hR
 clear hR'
 have hR' := Lib.hid hR
 clear hR
 rw [okOr_zero]
 obtain ⟨c0, c1, c2, c3, c4, c5⟩ := cell_six HW1.out HU.out
 clear c0 c1 c3 c4 c5
 by_cases hl1 : dn ≤ 16
 case neg =>
  have hR := hR'.out
  rw [if_pos (by omega)] at hR
  have HE := Lib.hid hR
  have d1 : decide ((dn : Int) ≤ 16) = false := decide_eq_false (by omega)
  clear hR
  go_wp2_with fail
  refine (require_no _).mono ?_
  rintro _ z ⟨rfl, rfl⟩
  go_wp2_with fail
  exact ⟨rfl, by rw [← HE.out]; rfl, HUW.out⟩
 have hR := hR'.out
 rw [if_neg (by omega)] at hR
 clear hR'
 have hR' := Lib.hid hR
 have d1 : decide ((dn : Int) ≤ 16) = true := decide_eq_true (by omega)
 clear hR
 go_wp2_with fail
 refine (require_yes _).mono ?_
 rintro _ z ⟨rfl, rfl⟩
 go_wp2_with fail
 go_loopw [21] (fun i wr => ∃ k : Nat, k ≤ dn ∧ i = .int .i64 k ∧ Hid (depsE (deps.drop k) = x2) ∧ Hid (Below W1.heap.size W1 wr)) (fun i _ => dn - (intOf i).toNat)
 case atStart => exact ⟨0, Nat.zero_le _, rfl, HX2.out, HU.out⟩
 case round =>
  clear c2 HU HUW
  obtain ⟨k, hk, rfl, HH, HW⟩ := hrel
  have HWW : Hid (Below w.heap.size w wr) := HB1.out.trans (HW.out.mono HB1.out.size)
  by_cases hlt : k < dn
  ·have hkr : k < deps.length := by rw [HDN.out]; exact hlt
   obtain ⟨ad, B, m, d, rfl, hm, hs, hc⟩ := drowD_at HD.out k hkr
   have c0 := hc _ HWW.out
   have hdr : deps.drop k = deps[k] :: deps.drop (k + 1) := List.drop_eq_getElem_cons hkr
   obtain ⟨f1, f2⟩ := dfew_at HF3.out k hkr
   have hh := HH.out
   rw [hdr, depsE_cons] at hh
   obtain ⟨l, hl⟩ : ∃ l, deps[k] = l := ⟨_, rfl⟩
   rw [hl] at hm hs f1 f2 hh
   rw [hm] at hh
   have HS := Lib.hid hs
   have HM' := Lib.hid hm
   have HF1 := Lib.hid f1
   have HF2 := Lib.hid f2
   clear hc hdr hl f1 f2 hs hm
   by_cases hb1 : 1 ≤ m
   case neg =>
    rw [if_neg (by omega)] at hh
    have hR := hR'.out
    rw [← hh, if_pos (by decide)] at hR
    have HE := Lib.hid hR
    have d2 : decide (1 ≤ (m : Int)) = false := decide_eq_false (by omega)
    clear hR hh
    go_wp2_with fail
    refine (require_no _).mono ?_
    rintro _ z ⟨rfl, rfl⟩
    go_wp2_with fail
    exact ⟨rfl, by rw [← HE.out]; rfl, HWW.out⟩
   have d2 : decide (1 ≤ (m : Int)) = true := decide_eq_true (by omega)
   by_cases hb2 : m ≤ 8
   case neg =>
    rw [if_neg (by omega)] at hh
    have hR := hR'.out
    rw [← hh, if_pos (by decide)] at hR
    have HE := Lib.hid hR
    have d3 : decide ((m : Int) ≤ 8) = false := decide_eq_false (by omega)
    clear hR hh
    go_wp2_with fail
    refine (require_no _).mono ?_
    rintro _ z ⟨rfl, rfl⟩
    go_wp2_with fail
    exact ⟨rfl, by rw [← HE.out]; rfl, HWW.out⟩
   have d3 : decide ((m : Int) ≤ 8) = true := decide_eq_true (by omega)
   rw [if_pos (by omega)] at hh
   obtain ⟨y, hy⟩ : ∃ y, atomsE l = y := ⟨_, rfl⟩
   have HA := Lib.hid (requireAtoms_any B m d l wr (maxOk_below HM.out HW.out) HM'.out (arow_below HS.out HWW.out) (by rw [← HM'.out]; exact HF1.out) HF2.out)
   rw [hy] at HA hh
   have hh' := Lib.hid hh
   clear hh hy
   go_wp2_with fail
   refine (require_yes _).mono ?_
   rintro _ z ⟨rfl, rfl⟩
   go_wp2_with fail
   refine HA.out.mono ?_
   rintro _ u2 ⟨rfl, hb⟩
   have HU := Lib.hid (HW.out.trans (hb.mono HW.out.size))
   have HUW : Hid (Below w.heap.size w u2) := HB1.out.trans (HU.out.mono HB1.out.size)
   clear hb c0 HA
   by_cases h0 : y = 0
   ·subst h0
    have HE : Hid (depsE (deps.drop (k + 1)) = x2) := by have := hh'.out; rw [if_pos rfl] at this; exact this
    rw [okOr_zero]
    go_wp2_with fail
    go_roundw
    case rel => exact ⟨k + 1, by omega, by go_num, HE, HU.out⟩
    case measure => simp [intOf]; omega
   ·have hh := hh'.out
    rw [if_neg h0] at hh
    have hR := hR'.out
    rw [← hh, if_pos h0] at hR
    have HE := Lib.hid hR
    have HK : Hid (okOr' y = pan y) := okOr_ne h0
    clear hR h0 hh
    rw [HK.out]
    go_wp2_with fail
    exact ⟨rfl, by rw [← HE.out, HK.out], HUW.out⟩
  ·obtain rfl : k = dn := by omega
   have h2 : 0 = x2 := by rw [← HH.out, List.drop_eq_nil_of_le (by rw [HDN.out]; exact Nat.le_refl _)]; rfl
   have hR := hR'.out
   rw [← h2, if_neg (by simp)] at hR
   clear hR' HH HX2 h2
   have hR' := Lib.hid hR
   clear hR
   obtain ⟨c0, c1, c2, c3, c4, c5⟩ := cell_six HW1.out HW.out
   clear c0 c1 c2 c4 c5
   by_cases hl2 : cn ≤ 16
   case neg =>
    have hR := hR'.out
    rw [if_pos (by omega)] at hR
    have HE := Lib.hid hR
    have d2 : decide ((cn : Int) ≤ 16) = false := decide_eq_false (by omega)
    clear hR
    go_wp2_with fail
    refine (require_no _).mono ?_
    rintro _ z ⟨rfl, rfl⟩
    go_wp2_with fail
    exact ⟨rfl, by rw [← HE.out]; rfl, HWW.out⟩
   have hR := hR'.out
   rw [if_neg (by omega)] at hR
   clear hR'
   have hR' := Lib.hid hR
   have d2 : decide ((cn : Int) ≤ 16) = true := decide_eq_true (by omega)
   clear hR
   have HA := Lib.hid (requireAtoms_any C cn cc confl wr (maxOk_below HM.out HW.out) HCN.out (arow_below HC.out HWW.out) hcl HF5.out)
   rw [HX3.out] at HA
   go_wp2_with fail
   refine (require_yes _).mono ?_
   rintro _ z ⟨rfl, rfl⟩
   go_wp2_with fail
   refine HA.out.mono ?_
   rintro _ u2 ⟨rfl, hb⟩
   have HU := Lib.hid (HW.out.trans (hb.mono HW.out.size))
   have HUW : Hid (Below w.heap.size w u2) := HB1.out.trans (HU.out.mono HB1.out.size)
   clear hb c3 HA HW HWW
   by_cases h3 : x3 = 0
   case neg =>
    have hR := hR'.out
    rw [if_pos h3] at hR
    have HE := Lib.hid hR
    have HK : Hid (okOr' x3 = pan x3) := okOr_ne h3
    clear hR h3
    rw [HK.out]
    go_wp2_with fail
    exact ⟨rfl, by rw [← HE.out, HK.out], HUW.out⟩
   have hR := hR'.out
   rw [if_neg (by simp [h3])] at hR
   rw [h3, okOr_zero]
   clear hR' h3
   have hR' := Lib.hid hR
   clear hR
   obtain ⟨c0, c1, c2, c3, c4, c5⟩ := cell_six HW1.out HU.out
   clear c0 c1 c2 c3 c5
   by_cases hl3 : gn ≤ 16
   case neg =>
    have hR := hR'.out
    rw [if_pos (by omega)] at hR
    have HE := Lib.hid hR
    have d3 : decide ((gn : Int) ≤ 16) = false := decide_eq_false (by omega)
    clear hR
    go_wp2_with fail
    refine (require_no _).mono ?_
    rintro _ z ⟨rfl, rfl⟩
    go_wp2_with fail
    exact ⟨rfl, by rw [← HE.out]; rfl, HUW.out⟩
   have hR := hR'.out
   rw [if_neg (by omega)] at hR
   clear hR'
   have hR' := Lib.hid hR
   have d3 : decide ((gn : Int) ≤ 16) = true := decide_eq_true (by omega)
   clear hR
   go_wp2_with fail
   refine (require_yes _).mono ?_
   rintro _ z ⟨rfl, rfl⟩
   go_wp2_with fail
   go_loopw [53] (fun i wr => ∃ k : Nat, k ≤ gn ∧ i = .int .i64 k ∧ Hid (givesE (prov.drop k) = x4) ∧ Hid (Below W1.heap.size W1 wr)) (fun i _ => gn - (intOf i).toNat)
   case atStart => exact ⟨0, Nat.zero_le _, rfl, HX4.out, HU.out⟩
   case round =>
    clear c4 HU HUW
    obtain ⟨k, hk, rfl, HH, HW⟩ := hrel
    have HWW : Hid (Below w.heap.size w wr) := HB1.out.trans (HW.out.mono HB1.out.size)
    by_cases hlt : k < gn
    ·have hkr : k < prov.length := by rw [HGN.out]; exact hlt
     obtain ⟨ad, rfl, hc⟩ := grow_at HG.out k hkr
     obtain ⟨c0, c1⟩ := hc _ HWW.out
     have hdr : prov.drop k = prov[k] :: prov.drop (k + 1) := List.drop_eq_getElem_cons hkr
     obtain ⟨f1, f2⟩ := gfew_at HF7.out k hkr
     have hh := HH.out
     rw [hdr, givesE_cons] at hh
     obtain ⟨a, ha⟩ : ∃ a, prov[k] = a := ⟨_, rfl⟩
     rw [ha] at c0 c1 f1 hh
     obtain ⟨gnm, gv⟩ := a
     dsimp only at c0 c1 f1
     obtain ⟨V, hV⟩ : ∃ V, wr.alloc (.cells #[.string ⟨gnm.toArray⟩, .string ⟨gv.toArray⟩] 72) = V := ⟨_, rfl⟩
     have HBV : Hid (Below W1.heap.size W1 V) := HW.out.trans ((alloc_low hV).mono HW.out.size)
     obtain ⟨v0, v1⟩ := cell_pair hV (Below.refl _ _)
     have HA := Lib.hid (requireGive_any ⟨gnm, gv⟩ V (maxOk_below HM.out HBV.out) f1)
     obtain ⟨y, hy⟩ : ∃ y, giveE ⟨gnm, gv⟩ = y := ⟨_, rfl⟩
     rw [hy] at HA hh
     have hh' := Lib.hid hh
     clear hc hdr ha f1 f2 hh hy
     go_wp2_with fail
     clear hV
     refine HA.out.mono ?_
     rintro _ u2 ⟨rfl, hb⟩
     have HU := Lib.hid (HBV.out.trans (hb.mono HBV.out.size))
     have HUW : Hid (Below w.heap.size w u2) := HB1.out.trans (HU.out.mono HB1.out.size)
     clear hb c0 c1 v0 v1 HA
     by_cases h0 : y = 0
     ·subst h0
      have HE : Hid (givesE (prov.drop (k + 1)) = x4) := by have := hh'.out; rw [if_pos rfl] at this; exact this
      rw [okOr_zero]
      go_wp2_with fail
      go_roundw
      case rel => exact ⟨k + 1, by omega, by go_num, HE, HU.out⟩
      case measure => simp [intOf]; omega
     ·have hh := hh'.out
      rw [if_neg h0] at hh
      have hR := hR'.out
      rw [← hh, if_pos h0] at hR
      have HE := Lib.hid hR
      have HK : Hid (okOr' y = pan y) := okOr_ne h0
      clear hR h0 hh
      rw [HK.out]
      go_wp2_with fail
      exact ⟨rfl, by rw [← HE.out, HK.out], HUW.out⟩
    ·obtain rfl : k = gn := by omega
     have h2 : 0 = x4 := by rw [← HH.out, List.drop_eq_nil_of_le (by rw [HGN.out]; exact Nat.le_refl _)]; rfl
     have hR := hR'.out
     rw [← h2, if_neg (by simp)] at hR
     clear hR' HH HX4 h2
     have HR := Lib.hid hR
     clear hR
     obtain ⟨c0, c1, c2, c3, c4, c5⟩ := cell_six HW1.out HW.out
     clear c0 c1 c2 c3 c4
     have HA := Lib.hid (check_w wt HF8.out wr)
     rw [HX5.out, HR.out] at HA
     clear HX5 HR
     go_wp2_with fail
     refine HA.out.mono ?_
     rintro _ u2 ⟨rfl, rfl⟩
     go_wp2_with fail
     refine (requireOK_any R _).mono ?_
     rintro _ u2 ⟨rfl, rfl⟩
     by_cases h0 : R = 0
     ·subst h0
      rw [okOr_zero]
      go_wp2_with fail
      go_end0
      exact ⟨rfl, HWW.out⟩
     ·have HK : Hid (okOr' R = pan R) := okOr_ne h0
      clear h0
      rw [HK.out]
      go_wp2_with fail
      exact ⟨rfl, by rw [HK.out], HWW.out⟩
end Go.Proofs.YtkplahkkmmoppaaGreatDoor
namespace Go.Proofs.YtkplahkkmmoppaaGreatDoor
open Go.RowKit Rs At Pg
theorem pCheck_panic (p : Addr) (x : Int) (n : Int) (w : World) (hc : w.cell? p = some (.int .i64 x)) (hz : w.frozen? p = false) :
  CallsD Tryz.prog 38 #[.pointer (some p)] (.panicking [{ v := .iface 36 (.int .i64 n), recovered := false }]) w fun e u' w' =>
   e = .returned (.tuple #[]) ∧ u' = .panicking [{ v := .iface 36 (.int .i64 n), recovered := true }] ∧ w' = w.setCell p (.int .i64 n) := by
 refine callsD_of_wpS Tryz.func38 rfl fun c₀ cs hu => ?_
 apply wpS_region
 simp [wpOpsS, go_sem, recoverD, hu, Tryz.ntmps38]
 refine (raised_err n _).mono ?_
 rintro e w' ⟨rfl, rfl⟩
 simp [go_sem, hc, hz, bodyPostS, results, Tryz.results38]
theorem pCheck_idle (p : Addr) (x : Int) (w : World) (hc : w.cell? p = some (.int .i64 x)) (hz : w.frozen? p = false) :
  CallsD Tryz.prog 38 #[.pointer (some p)] .returning w fun e u' w' => e = .returned (.tuple #[]) ∧ u' = .returning ∧ w' = w.setCell p (.int .i64 0) := by
 refine callsD_of_wpS Tryz.func38 rfl fun c₀ cs hu => ?_
 apply wpS_region
 simp [wpOpsS, go_sem, recoverD, hu, Tryz.ntmps38]
 refine (raised_nil _).mono ?_
 rintro e w' ⟨rfl, rfl⟩
 cases c₀
 simp_all [go_sem, bodyPostS, results, Tryz.results38]
attribute [local go_sem ↓] Go.wp_at_zero Go.wp_at_succ
theorem pkgCheck_any (p : Pk) (D C G : Option Addr) (dn dc cn cc gn gc : Nat) (w : World) (hw : MaxOk w) (hd : Pg.DRow w D p.deps) (hdn : p.deps.length = dn) (hc : ARow w C p.confl) (hcn : p.confl.length = cn) (hg : GRow w G p.prov) (hgn : p.prov.length = gn) (hf : PFew p) :
  Calls Tryz.prog 12 #[.agg #[.string ⟨p.name.toArray⟩, .string ⟨p.ver.toArray⟩, .slice D dn dc, .slice C cn cc, .slice G gn gc, .float .f64 p.wt]] w fun e w' => e = .returned (.int .i64 (checkP p)) ∧ Below w.heap.size w w' := by
 have hmf : ∀ (fn : Fn) (first cap : Array Value) (w : World), (Instr.makeFunc fn first cap).run Tryz.prog w = .ok (.func fn first cap) w := fun _ _ _ _ => rfl
 obtain ⟨K, hK⟩ : ∃ K, checkP p = K := ⟨_, rfl⟩
 rw [hK]
 obtain ⟨W1, hW1⟩ : ∃ W, w.alloc (.cells #[.string ⟨p.name.toArray⟩, .string ⟨p.ver.toArray⟩, .slice D dn dc, .slice C cn cc, .slice G gn gc, .float .f64 p.wt] 34) = W := ⟨_, rfl⟩
 have HW1 := Lib.hid (alloc_low hW1)
 have hs1 : W1.heap.size = w.heap.size + 1 := by rw [← hW1]; simp
 obtain ⟨W2, hW2⟩ : ∃ W, W1.alloc (.cells #[.int .i64 0] 36) = W := ⟨_, rfl⟩
 have HW2 := Lib.hid (alloc_low hW2)
 have HB2 : Hid (Below w.heap.size w W2) := HW1.out.trans (HW2.out.mono HW1.out.size)
 have HR := Lib.hid (requirePkg_any p D C G dn dc cn cc gn gc W2 (maxOk_below hw HB2.out) (drowD_below hd HB2.out) hdn (arow_below hc HB2.out) hcn (Rg.row_below hg HB2.out) hgn hf)
 rw [hK] at HR
 obtain ⟨k0, k1, k2, k3, k4, k5⟩ := cell_six hW1 HW2.out
 have HE2 := Lib.hid hW2
 clear hw hd hdn hc hcn hg hgn hf hK
 go_enter_defers Tryz.func12, Tryz.ntmps12
 go_wp2_with fail
 have HS1 := Lib.hid hs1
 clear hW1 hW2 hs1
 refine HR.out.mono ?_
 rintro _ w1 ⟨rfl, hb⟩
 have hb1 : Below (W1.heap.size + 1) (W1.alloc (.cells #[.int .i64 0] 36)) w1 := by have h := hb; rw [← HE2.out] at h; simpa using h
 obtain ⟨hcell, hfro⟩ := cell_int W1 w1 _ _ hb1
 have HBW : Hid (Below w.heap.size w w1) := HB2.out.trans (hb.mono HB2.out.size)
 rw [HS1.out] at hcell hfro
 clear hb hb1 k0 k1 k2 k3 k4 k5 HR
 by_cases hk : K = 0
 ·subst hk
  rw [okOr_zero]
  go_wp2_with fail
  refine leaves_cons (f := 38) (args := #[.pointer (some ⟨w.heap.size + 1, 0, none⟩)]) (by simp) (by simp [go_sem]) ?_
  refine (pCheck_idle ⟨w.heap.size + 1, 0, none⟩ 0 _ ?_ ?_).mono ?_
  ·simp [go_sem, hcell]
  ·simp [go_sem, hfro]
  rintro e u' w3 ⟨rfl, rfl, rfl⟩
  simp [Leaves, settle, results, Tryz.results12, go_sem, hcell]
  exact (HBW.out.setCell (Nat.le_succ _) _).setCell (Nat.le_succ _) _
 ·rw [okOr_ne hk]
  go_wp2_with fail
  refine leaves_cons (f := 38) (args := #[.pointer (some ⟨w.heap.size + 1, 0, none⟩)]) (by simp) (by simp [go_sem]) ?_
  refine (pCheck_panic ⟨w.heap.size + 1, 0, none⟩ 0 _ _ ?_ ?_).mono ?_
  ·simp [go_sem, hcell]
  ·simp [go_sem, hfro]
  rintro e u' w3 ⟨rfl, rfl, rfl⟩
  simp [Leaves, settle, results, Tryz.results12, go_sem, hcell]
  exact HBW.out.setCell (Nat.le_succ _) _
end Go.Proofs.YtkplahkkmmoppaaGreatDoor
namespace Go.Proofs.YtkplahkkmmoppaaGreatDoor.Sz
structure Fld where
 key : List UInt8
 val : List UInt8
 line : Int
 deriving DecidableEq
def valC (c : UInt8) : Bool := decide (32 ≤ c.toNat) && decide (c.toNat ≤ 126)
def keyB (s : List UInt8) : Bool := s.all Vm.ltr && (!s.isEmpty && decide (s.length ≤ 16))
def valB (s : List UInt8) : Bool := s.all valC
def mark : List UInt8 := [58, 32]
def fieldP (s : List UInt8) (n : Int) : Option Fld :=
 if 0 ≤ Lib.index s mark ∧ keyB (s.take (Lib.index s mark).toNat) = true ∧ valB (s.drop ((Lib.index s mark).toNat + 2)) = true then
  some ⟨s.take (Lib.index s mark).toNat, s.drop ((Lib.index s mark).toNat + 2), n⟩ else none
def hasK (l : List Fld) (k : List UInt8) : Bool := l.any (fun f => f.key == k)
def readL : Nat → List (List UInt8) → List (List Fld) → List Fld → Int × Int × List (List Fld)
 | _, [], acc, last => (0, 0, if last.isEmpty then acc else acc ++ [last])
 | n, s :: ls, acc, last =>
  if s.isEmpty then (if last.isEmpty || ls.isEmpty then (2, n, []) else readL (n + 1) ls (acc ++ [last]) [])
  else match fieldP s n with
   | none => (2, n, [])
   | some f => if hasK last f.key then (6, n, []) else readL (n + 1) ls acc (last ++ [f])
def linesL (s : List UInt8) : List (List UInt8) := (Lib.split s [10]).dropLast
def endB (s : List UInt8) : Bool := s.isEmpty || s.getLast? == some 10
def parseS (s : List UInt8) : Int × Int × List (List Fld) :=
 if 65536 < s.length then (4, 0, []) else if endB s then readL 0 (linesL s) [] [] else (2, 0, [])
def fieldT (f : Fld) : List UInt8 := f.key ++ mark ++ f.val ++ [10]
def stanzaT (l : List Fld) : List UInt8 := l.flatMap fieldT
def textS : List (List Fld) → List UInt8
 | [] => []
 | [l] => stanzaT l
 | l :: m :: r => stanzaT l ++ [10] ++ textS (m :: r)
def joinL (ls : List (List UInt8)) : List UInt8 := ls.flatMap (fun s => s ++ [10])
theorem field_back {s : List UInt8} {n : Int} {f : Fld} (h : fieldP s n = some f) : f.key ++ mark ++ f.val = s ∧ f.line = n ∧ keyB f.key = true ∧ valB f.val = true := by
 unfold fieldP at h
 split at h
 ·rename_i hc
  obtain ⟨h0, h1, h2⟩ := hc
  cases h
  refine ⟨?_, rfl, h1, h2⟩
  dsimp only
  obtain ⟨i, hi⟩ : ∃ i : Nat, Lib.index s mark = i := ⟨(Lib.index s mark).toNat, by omega⟩
  rw [hi]
  have ho : Lib.occAt s mark i = true := by
   rcases Lib.index_spec s mark with ⟨h1, _⟩ | ⟨j, h1, _, h3, _⟩
   ·omega
   ·have : j = i := by omega
    exact this ▸ h3
  unfold Lib.occAt at ho
  obtain ⟨t, ht⟩ := List.isPrefixOf_iff_prefix.1 ho
  show s.take i ++ mark ++ s.drop (i + 2) = s
  have e : s.drop (i + 2) = t := by rw [← List.drop_drop, ← ht]; rfl
  rw [e, List.append_assoc, ht, List.take_append_drop]
 ·cases h
theorem stanzaT_snoc (l : List Fld) (f : Fld) : stanzaT (l ++ [f]) = stanzaT l ++ fieldT f := by
 unfold stanzaT; rw [List.flatMap_append]; simp
theorem textS_snoc : ∀ (acc : List (List Fld)) (l : List Fld), textS (acc ++ [l]) = (if acc.isEmpty then [] else textS acc ++ [10]) ++ stanzaT l
 | [], l => rfl
 | [a], l => by show stanzaT a ++ [10] ++ stanzaT l = _; rfl
 | a :: b :: r, l => by
  have ih := textS_snoc (b :: r) l
  show stanzaT a ++ [10] ++ textS (b :: r ++ [l]) = _
  rw [ih]
  show _ = (stanzaT a ++ [10] ++ textS (b :: r) ++ [10]) ++ stanzaT l
  simp
theorem joinL_cons (s : List UInt8) (ls : List (List UInt8)) : joinL (s :: ls) = s ++ [10] ++ joinL ls := by unfold joinL; rw [List.flatMap_cons]
theorem read_back : ∀ (ls : List (List UInt8)) (n : Nat) (acc : List (List Fld)) (last : List Fld) (r : List (List Fld)) (k : Int), readL n ls acc last = (0, k, r) →
  k = 0 ∧ textS r = textS (acc ++ [last]) ++ joinL ls ∨ (k = 0 ∧ ls = [] ∧ last = [] ∧ r = acc)
 | [], n, acc, last, r, k, h => by
  unfold readL at h
  cases last with
  | nil => right; injection h with _ h; injection h with h1 h2; exact ⟨h1.symm, rfl, rfl, h2.symm⟩
  | cons f l => left; injection h with _ h; injection h with h1 h2; subst h2; exact ⟨h1.symm, by simp [joinL]⟩
 | s :: ls, n, acc, last, r, k, h => by
  unfold readL at h
  split at h
  ·rename_i hs
   have hs0 : s = [] := by simpa using hs
   subst hs0
   split at h
   ·injection h with h _; cases h
   ·rename_i hl
    have hl1 : last ≠ [] := fun e => hl (by simp [e])
    have hl2 : ls ≠ [] := fun e => hl (by simp [e])
    rcases read_back ls (n + 1) (acc ++ [last]) [] r k h with ⟨hk, ht⟩ | ⟨_, h2, _, _⟩
    ·left
     refine ⟨hk, ?_⟩
     rw [ht, textS_snoc (acc ++ [last]) [], joinL_cons]
     simp [stanzaT]
    ·exact absurd h2 hl2
  ·rename_i hs
   cases hf : fieldP s n with
   | none => rw [hf] at h; injection h with h _; cases h
   | some f =>
    rw [hf] at h
    dsimp only at h
    split at h
    ·injection h with h _; cases h
    ·obtain ⟨h1, _, _, _⟩ := field_back hf
     rcases read_back ls (n + 1) acc (last ++ [f]) r k h with ⟨hk, ht⟩ | ⟨_, _, h3, _⟩
     ·left
      refine ⟨hk, ?_⟩
      rw [ht, textS_snoc, textS_snoc, stanzaT_snoc, joinL_cons]
      unfold fieldT
      rw [h1]
      simp
     ·exact absurd h3 (by simp)
theorem ten_hit (a r : List UInt8) (h : (10 : UInt8) ∉ a) : Lib.split (a ++ 10 :: r) [10] = a :: Lib.split r [10] := by
 have hi : Lib.index (a ++ 10 :: r) [10] = a.length := by
  refine Lib.index_first (by simp) ?_ fun j hj => ?_
  ·unfold Lib.occAt; rw [List.drop_left]; rfl
  ·cases ho : Lib.occAt (a ++ 10 :: r) [10] j with
   | false => rfl
   | true =>
    have h2 := Lib.occAt_head (c := 10) (t := []) rfl ho
    rw [List.getElem?_append_left hj] at h2
    exact absurd (List.mem_of_getElem? h2) h
 rw [At.split_hit (by simp) hi, List.take_left]
 have e : (a ++ 10 :: r).drop (a.length + ([10] : List UInt8).length) = r := by
  rw [← List.drop_drop, List.drop_left]; rfl
 rw [e]
theorem split_some (s : List UInt8) : Lib.split s [10] ≠ [] := by
 unfold Lib.split
 cases Lib.count s [10] with
 | zero => unfold Lib.splitK; simp
 | succ k => unfold Lib.splitK; split <;> simp
theorem lines_hit (a r : List UInt8) (h : (10 : UInt8) ∉ a) : linesL (a ++ 10 :: r) = a :: linesL r := by
 unfold linesL
 rw [ten_hit a r h, List.dropLast_cons_of_ne_nil (split_some r)]
theorem ten_cut (s : List UInt8) : ((10 : UInt8) ∉ s) ∨ ∃ a r, s = a ++ 10 :: r ∧ (10 : UInt8) ∉ a := by
 induction s with
 | nil => left; simp
 | cons b l ih =>
  by_cases hb : b = 10
  ·right; exact ⟨[], l, by rw [hb]; rfl, by simp⟩
  ·rcases ih with h | ⟨a, r, e, h⟩
   ·left; intro hm; rcases List.mem_cons.1 hm with e | e
    ·exact hb e.symm
    ·exact h e
   ·right
    refine ⟨b :: a, r, by rw [e]; rfl, fun hm => ?_⟩
    rcases List.mem_cons.1 hm with e | e
    ·exact hb e.symm
    ·exact h e
theorem lines_back : ∀ (k : Nat) (s : List UInt8), s.length ≤ k → endB s = true → joinL (linesL s) = s
 | 0, s, hk, _ => by
  have : s = [] := List.length_eq_zero_iff.1 (by omega)
  subst this; rfl
 | k + 1, s, hk, he => by
  rcases ten_cut s with h | ⟨a, r, e, h⟩
  ·unfold endB at he
   rw [Bool.or_eq_true] at he
   rcases he with he | he
   ·have : s = [] := by simpa using he
    subst this; rfl
   ·exact absurd (List.mem_of_getLast? (by simpa using he)) h
  ·subst e
   rw [lines_hit a r h, joinL_cons]
   have hr : endB r = true := by
    unfold endB at he ⊢
    cases r with
    | nil => rfl
    | cons b l =>
     rw [Bool.or_eq_true] at he ⊢
     rcases he with he | he
     ·simp at he
     ·right
      rw [List.getLast?_append] at he
      have e2 : (10 :: b :: l).getLast? = (b :: l).getLast? := by rw [List.getLast?_cons_cons]
      rw [e2] at he
      obtain ⟨x, hx⟩ : ∃ x, (b :: l).getLast? = some x := ⟨_, List.getLast?_eq_some_getLast (by simp)⟩
      rw [hx] at he ⊢
      exact he
   rw [lines_back k r (by simp at hk; omega) hr]
   simp
theorem parse_text {s : List UInt8} {k : Int} {r : List (List Fld)} (h : parseS s = (0, k, r)) : k = 0 ∧ textS r = s := by
 unfold parseS at h
 split at h
 ·injection h with h _; cases h
 ·split at h
  ·rename_i he
   rcases read_back _ _ _ _ _ _ h with ⟨h1, h2⟩ | ⟨h1, h2, _, h4⟩
   ·refine ⟨h1, ?_⟩
    rw [h2, lines_back s.length s (Nat.le_refl _) he]; rfl
   ·refine ⟨h1, ?_⟩
    rw [h4, ← lines_back s.length s (Nat.le_refl _) he, h2]; rfl
  ·injection h with h _; cases h
end Go.Proofs.YtkplahkkmmoppaaGreatDoor.Sz
namespace Go.Proofs.YtkplahkkmmoppaaGreatDoor
open Go.RowKit
abbrev panAt (k n : Int) : Ending := .panicked [{ v := .iface 164 (.agg #[.int .i64 k, .int .i64 n]), recovered := false }]
theorem requireAt_yes {k n : Int} (w : World) : Calls Tryz.prog 109 #[.bool true, .int .i64 k, .int .i64 n] w fun e w' => e = .returned (.tuple #[]) ∧ w = w' := by
 go_enter Tryz.func109, Tryz.ntmps109
 go_wp2_with fail
 go_end0
 exact ⟨rfl, rfl⟩
theorem requireAt_no {k n : Int} (w : World) : Calls Tryz.prog 109 #[.bool false, .int .i64 k, .int .i64 n] w fun e w' => e = panAt k n ∧ w = w' := by
 go_enter Tryz.func109, Tryz.ntmps109
 go_wp2_with fail
 exact ⟨rfl, rfl, rfl⟩
theorem raisedAt_placed (k n : Int) {o : Int} (w : World) :
  Calls Tryz.prog 60 #[.iface 164 (.agg #[.int .i64 k, .int .i64 n]), .int .i64 o] w fun e w' => e = .returned (.tuple #[.int .i64 k, .int .i64 n]) ∧ Below w.heap.size w w' := by
 have hta : ∀ W : World, (Instr.typeAssert (.iface 164 (.agg #[.int .i64 k, .int .i64 n])) 20 36 true).run Tryz.prog W = .ok (.tuple #[.int .i64 0, .bool false]) W := fun _ => by kernel_rfl
 have htb : ∀ W : World, (Instr.typeAssert (.iface 164 (.agg #[.int .i64 k, .int .i64 n])) 20 164 true).run Tryz.prog W = .ok (.tuple #[.agg #[.int .i64 k, .int .i64 n], .bool true]) W := fun _ => by kernel_rfl
 go_enter Tryz.func60, Tryz.ntmps60
 go_wp2_with fail
 go_quiet (fail)
 go_wp2_with fail
 go_ret2
 refine ⟨rfl, below_drewN ?_ _⟩
 first
  | exact (Below.refl _ _).alloc (Nat.le_refl _) _
  | exact ((Below.refl _ _).alloc (Nat.le_refl _) _).setCell (Nat.le_refl _) _
  | exact Below.setCell (Below.setCell ((Below.refl _ _).alloc (Nat.le_refl _) _) (by simp) _) (by simp) _
  | trace_state
theorem all_snocZ (l : List UInt8) (p : UInt8 → Bool) (k : Nat) (h : k < l.length) : (l.take (k + 1)).all p = ((l.take k).all p && p l[k]) := by
 rw [List.take_succ_eq_append_getElem h, List.all_append]; simp only [List.all_cons, List.all_nil, Bool.and_true]
theorem all_falseZ (l : List UInt8) (p : UInt8 → Bool) (k : Nat) (h : k < l.length) (hp : p l[k] = false) : l.all p = false := by
 rw [Bool.eq_false_iff]; intro ha; rw [List.all_eq_true] at ha; have := ha _ (List.getElem_mem h); simp [hp] at this
theorem sLetter_any (c : UInt8) (w : World) :
  Calls Tryz.prog 219 #[.int .u8 c.toNat] w fun e w' => e = .returned (.bool (Vm.ltr c)) ∧ w = w' := by
 unfold Vm.ltr
 by_cases h1 : 97 ≤ c.toNat <;> by_cases h2 : c.toNat ≤ 122 <;> by_cases h3 : 65 ≤ c.toNat <;> by_cases h4 : c.toNat ≤ 90
 all_goals
  go_enter Tryz.func219, Tryz.ntmps219
  go_wp2
 all_goals
  go_ret
  exact ⟨by first | (simp [h1, h2, h3, h4]; done) | (simp [h1, h2, h3, h4]; omega), rfl⟩
theorem isKey_any (l : List UInt8) (w : World) (hm : l.length ≤ 1000000) :
  Calls Tryz.prog 182 #[.string ⟨l.toArray⟩] w fun e w' => e = .returned (.bool (Sz.keyB l)) ∧ w = w' := by
 obtain ⟨R, hR⟩ : ∃ R, Sz.keyB l = R := ⟨_, rfl⟩
 rw [hR]
 have HF : Hid (l.all Vm.ltr = false → R = false) := fun h => by rw [← hR]; unfold Sz.keyB; rw [h]; rfl
 have HT : Hid (l.all Vm.ltr = true → R = (!l.isEmpty && decide (l.length ≤ 16))) := fun h => by rw [← hR]; unfold Sz.keyB; rw [h]; rfl
 clear hR
 go_enter Tryz.func182, Tryz.ntmps182
 go_wp2_with fail
 go_loop [6] (fun i => ∃ k : Nat, k ≤ l.length ∧ i = .int .i64 k ∧ Hid ((l.take k).all Vm.ltr = true)) (fun i => l.length - (intOf i).toNat)
 case atStart => exact ⟨0, Nat.zero_le _, rfl, rfl⟩
 case round =>
  obtain ⟨k, hk, rfl, HK⟩ := hrel
  by_cases hlt : k < l.length
  ·obtain ⟨c, hc, hc'⟩ := byte_at l k hlt
   have HS := Lib.hid (all_snocZ l Vm.ltr k hlt)
   rw [hc'] at HS
   cases h1 : Vm.ltr c
   ·have HR : Hid (R = false) := HF.out (all_falseZ l Vm.ltr k hlt (by rw [hc']; exact h1))
    have HL := Lib.hid h1
    clear h1 hc' HS
    go_wp2_with fail
    refine (sLetter_any c _).mono ?_
    rintro _ z ⟨rfl, rfl⟩
    rw [HL.out]
    go_wp2_with fail
    go_ret
    exact ⟨by rw [HR.out]; rfl, rfl⟩
   ·have HY : Hid ((l.take (k + 1)).all Vm.ltr = true) := by show _ = _; rw [HS.out, HK.out, h1]; rfl
    have HL := Lib.hid h1
    clear h1 hc' HS
    go_wp2_with fail
    refine (sLetter_any c _).mono ?_
    rintro _ z ⟨rfl, rfl⟩
    rw [HL.out]
    go_wp2_with fail
    go_round
    case rel => exact ⟨k + 1, by omega, by go_num, HY⟩
    case measure => simp [intOf]; omega
  ·obtain rfl : k = l.length := by omega
   have HR : Hid (R = (!l.isEmpty && decide (l.length ≤ 16))) := HT.out (by have := HK.out; rwa [List.take_length] at this)
   cases he : l.isEmpty
   ·by_cases h16 : l.length ≤ 16
    ·have d0 : decide ((l.length : Int) ≤ 16) = true := decide_eq_true (by omega)
     have HRR : Hid (R = true) := by show _ = _; rw [HR.out, he, decide_eq_true h16]; rfl
     clear h16 HF HT HR
     go_wp2_with fail
     go_ret
     exact ⟨by rw [HRR.out]; rfl, rfl⟩
    ·have d0 : decide ((l.length : Int) ≤ 16) = false := decide_eq_false (by omega)
     have HRR : Hid (R = false) := by show _ = _; rw [HR.out, decide_eq_false h16, Bool.and_false]
     clear h16 HF HT HR
     go_wp2_with fail
     go_ret
     exact ⟨by rw [HRR.out]; rfl, rfl⟩
   ·have HRR : Hid (R = false) := by show _ = _; rw [HR.out, he]; rfl
    clear HF HT HR
    go_wp2_with fail
    go_ret
    exact ⟨by rw [HRR.out]; rfl, rfl⟩
theorem val_cases (c : UInt8) : (Sz.valC c = true ∧ decide ((c.toNat : Int) < 32) = false ∧ decide ((126 : Int) < (c.toNat : Int)) = false) ∨ (Sz.valC c = false ∧ decide ((c.toNat : Int) < 32) = true) ∨ (Sz.valC c = false ∧ decide ((c.toNat : Int) < 32) = false ∧ decide ((126 : Int) < (c.toNat : Int)) = true) := by
 unfold Sz.valC
 by_cases h1 : 32 ≤ c.toNat
 ·by_cases h2 : c.toNat ≤ 126
  ·left; exact ⟨by rw [decide_eq_true h1, decide_eq_true h2]; rfl, decide_eq_false (by omega), decide_eq_false (by omega)⟩
  ·right; right; exact ⟨by rw [decide_eq_false h2, Bool.and_false], decide_eq_false (by omega), decide_eq_true (by omega)⟩
 ·right; left; exact ⟨by rw [decide_eq_false h1]; rfl, decide_eq_true (by omega)⟩
theorem isValue_any (l : List UInt8) (w : World) (hm : l.length ≤ 1000000) :
  Calls Tryz.prog 183 #[.string ⟨l.toArray⟩] w fun e w' => e = .returned (.bool (Sz.valB l)) ∧ w = w' := by
 obtain ⟨R, hR⟩ : ∃ R, Sz.valB l = R := ⟨_, rfl⟩
 rw [hR]
 have HF : Hid (l.all Sz.valC = false → R = false) := fun h => by rw [← hR]; exact h
 have HT : Hid (l.all Sz.valC = true → R = true) := fun h => by rw [← hR]; exact h
 clear hR
 go_enter Tryz.func183, Tryz.ntmps183
 go_wp2_with fail
 go_loop [6] (fun i => ∃ k : Nat, k ≤ l.length ∧ i = .int .i64 k ∧ Hid ((l.take k).all Sz.valC = true)) (fun i => l.length - (intOf i).toNat)
 case atStart => exact ⟨0, Nat.zero_le _, rfl, rfl⟩
 case round =>
  obtain ⟨k, hk, rfl, HK⟩ := hrel
  by_cases hlt : k < l.length
  ·obtain ⟨c, hc, hc'⟩ := byte_at l k hlt
   have HS := Lib.hid (all_snocZ l Sz.valC k hlt)
   rw [hc'] at HS
   rcases val_cases c with ⟨h1, d1, d2⟩ | ⟨h1, d1⟩ | ⟨h1, d1, d2⟩
   ·have HY : Hid ((l.take (k + 1)).all Sz.valC = true) := by show _ = _; rw [HS.out, HK.out, h1]; rfl
    clear h1 hc' HS
    go_wp2_with fail
    go_round
    case rel => exact ⟨k + 1, by omega, by go_num, HY⟩
    case measure => simp [intOf]; omega
   all_goals
    have HR : Hid (R = false) := HF.out (all_falseZ l Sz.valC k hlt (by rw [hc']; exact h1))
    clear h1 hc' HS
    go_wp2_with fail
    go_ret
    exact ⟨by rw [HR.out]; rfl, rfl⟩
  ·obtain rfl : k = l.length := by omega
   have HR : Hid (R = true) := HT.out (by have := HK.out; rwa [List.take_length] at this)
   clear HF HT
   go_wp2_with fail
   go_ret
   exact ⟨by rw [HR.out]; rfl, rfl⟩
end Go.Proofs.YtkplahkkmmoppaaGreatDoor
namespace Go.Proofs.YtkplahkkmmoppaaGreatDoor.Wm
theorem tb_hi {x i j : Nat} (h : x < 2 ^ i) (hj : i ≤ j) : x.testBit j = false := Nat.testBit_lt_two_pow (Nat.lt_of_lt_of_le h (Nat.pow_le_pow_right (by decide) hj))
theorem word_or (n : Bool) {r : Nat} (h : r < 9223372036854775808) : word n r = (if n then 2 ^ 63 else 0) ||| r := by
 unfold word
 cases n
 ·simp
 ·rw [if_pos rfl, if_pos rfl, show (9223372036854775808 : Nat) = 2 ^ 63 from rfl]
  exact Nat.two_pow_add_eq_or_of_lt (i := 63) h 1 |>.symm ▸ by simp
theorem tb_word (n : Bool) {r : Nat} (h : r < 9223372036854775808) (i : Nat) : (word n r).testBit i = if i = 63 then n else r.testBit i := by
 rw [word_or n h, Nat.testBit_or]
 by_cases hi : i = 63
 ·subst hi
  rw [if_pos rfl, tb_hi (i := 63) h (Nat.le_refl _)]
  cases n
  ·simp
  ·rw [if_pos rfl, Nat.testBit_two_pow_self]; rfl
 ·rw [if_neg hi]
  cases n
  ·simp
  ·rw [if_pos rfl, Nat.testBit_two_pow_of_ne (Ne.symm hi), Bool.false_or]
theorem word_of (b : Nat) (hb : b < W) : b = word (neg b) (rung b) := by
 unfold word neg rung W at *
 split
 ·rename_i h; have := of_decide_eq_true h; omega
 ·rename_i h; have : ¬ 9223372036854775808 ≤ b := fun hh => h (decide_eq_true hh); omega
theorem fields (p f i : Nat) (hf : f < 2 ^ 52) : (p * 4503599627370496 + f).testBit i = if i < 52 then f.testBit i else p.testBit (i - 52) := by
 rw [show p * 4503599627370496 + f = 2 ^ 52 * p + f from by omega]
 exact Nat.testBit_two_pow_mul_add p hf i
theorem and_sign (n : Bool) {r : Nat} (h : r < 9223372036854775808) : word n r &&& 9223372036854775808 = if n then 9223372036854775808 else 0 := by
 refine Nat.eq_of_testBit_eq fun i => ?_
 rw [Nat.testBit_and, tb_word n h, show (9223372036854775808 : Nat) = 2 ^ 63 from rfl]
 by_cases hi : i = 63
 ·subst hi
  rw [if_pos rfl, Nat.testBit_two_pow_self]
  cases n
  ·simp
  ·rw [if_pos rfl, Nat.testBit_two_pow_self]; rfl
 ·rw [if_neg hi, Nat.testBit_two_pow_of_ne (Ne.symm hi), Bool.and_false]
  cases n
  ·simp
  ·rw [if_pos rfl, Nat.testBit_two_pow_of_ne (Ne.symm hi)]
theorem andNot_sign (n : Bool) {r : Nat} (h : r < 9223372036854775808) : word n r &&& 9223372036854775807 = r := by
 rw [show (9223372036854775807 : Nat) = 2 ^ 63 - 1 from rfl, Nat.and_two_pow_sub_one_eq_mod]
 have := (rung_word n h).1
 unfold rung at this; exact this
theorem or_sign {r : Nat} (h : r < 9223372036854775808) : r ||| 9223372036854775808 = 9223372036854775808 + r := by
 have := word_or true h
 rw [if_pos rfl] at this
 rw [Nat.or_comm, show (9223372036854775808 : Nat) = 2 ^ 63 from rfl, ← this]; rfl
theorem or_max (n : Bool) {r : Nat} (h : r < 9223372036854775808) : word n r ||| 9223372036854775807 = word n 9223372036854775807 := by
 refine Nat.eq_of_testBit_eq fun i => ?_
 rw [Nat.testBit_or, tb_word n h, tb_word n (by decide), show (9223372036854775807 : Nat) = 2 ^ 63 - 1 from rfl, Nat.testBit_two_pow_sub_one]
 by_cases hi : i = 63
 ·simp [hi]
 ·simp only [if_neg hi]
  by_cases h2 : i < 63
  ·simp [h2]
  ·rw [tb_hi (i := 63) h (by omega)]; simp [h2]
theorem xor_max {b : Nat} (hb : b < W) : 18446744073709551615 ^^^ b = 18446744073709551615 - b := by
 refine Nat.eq_of_testBit_eq fun i => ?_
 rw [Nat.testBit_xor, show 18446744073709551615 - b = 2 ^ 64 - (b + 1) from by unfold W at hb; omega, Nat.testBit_two_pow_sub_succ hb, show (18446744073709551615 : Nat) = 2 ^ 64 - 1 from rfl, Nat.testBit_two_pow_sub_one]
 by_cases h2 : i < 64
 ·simp [h2]
 ·rw [tb_hi (i := 64) hb (by omega)]; simp [h2]
theorem clear_exp (n : Bool) {r : Nat} (h : r < 9223372036854775808) : word n r &&& 9227875636482146303 = word n (r % 4503599627370496) := by
 have hr : r = (r / 4503599627370496) * 4503599627370496 + r % 4503599627370496 := by omega
 refine Nat.eq_of_testBit_eq fun i => ?_
 rw [Nat.testBit_and, tb_word n h, tb_word n (by omega), show (9227875636482146303 : Nat) = word true (2 ^ 52 - 1) from rfl, tb_word true (by decide), Nat.testBit_two_pow_sub_one, hr, fields _ _ _ (Nat.mod_lt _ (by decide)), ← hr]
 by_cases hi : i = 63
 ·simp [hi]
 ·simp only [if_neg hi]
  by_cases h2 : i < 52
  ·simp [h2]
  ·rw [tb_hi (i := 52) (x := r % 4503599627370496) (Nat.mod_lt _ (by decide)) (by omega)]; simp [h2]
theorem set_exp (n : Bool) {q f : Nat} (hq : q < 2048) (hf : f < 4503599627370496) : word n f ||| q * 4503599627370496 = word n (q * 4503599627370496 + f) := by
 refine Nat.eq_of_testBit_eq fun i => ?_
 rw [Nat.testBit_or, tb_word n (by omega), tb_word n (by omega), fields q f i hf]
 have e := fields q 0 i (by decide)
 rw [Nat.add_zero] at e
 rw [e]
 by_cases hi : i = 63
 ·subst hi
  simp only [if_true]
  rw [if_neg (by decide), tb_hi (i := 11) hq (by decide)]; simp
 ·simp only [if_neg hi]
  by_cases h2 : i < 52
  ·simp [h2]
  ·rw [tb_hi (i := 52) hf (by omega)]; simp [h2]
theorem sgnB (b : Nat) (hb : b < W) : bits .and .u64 (b : Int) 9223372036854775808 = if neg b then 9223372036854775808 else 0 := by
 have h := u64_and_nat b 9223372036854775808 hb (by decide)
 have e := and_sign (neg b) (rung_lt b)
 rw [← word_of b hb] at e
 rw [e] at h
 refine h.trans ?_
 cases neg b <;> rfl
theorem absB (b : Nat) (hb : b < W) : bits .andNot .u64 (b : Int) 9223372036854775808 = (rung b : Int) := by
 have h := u64_andNot_nat b 9223372036854775808 hb (by decide)
 have e := andNot_sign (neg b) (rung_lt b)
 rw [← word_of b hb] at e
 refine h.trans ?_
 rw [show (18446744073709551615 - 9223372036854775808 : Nat) = 9223372036854775807 from rfl, e]
theorem maxB (b : Nat) (hb : b < W) : bits .or .u64 (b : Int) 9223372036854775807 = (word (neg b) 9223372036854775807 : Nat) := by
 have h := u64_or_nat b 9223372036854775807 hb (by decide)
 have e := or_max (neg b) (rung_lt b)
 rw [← word_of b hb] at e
 exact h.trans (by rw [e])
theorem signB (r : Nat) (h : r < 9223372036854775808) : bits .or .u64 (r : Int) 9223372036854775808 = (9223372036854775808 + r : Nat) := by
 have h1 := u64_or_nat r 9223372036854775808 (by omega) (by decide)
 exact h1.trans (by rw [or_sign h])
theorem xorB (b : Nat) (hb : b < W) : bits .xor .u64 18446744073709551615 (b : Int) = (18446744073709551615 - b : Nat) := by
 have h1 := u64_xor_nat 18446744073709551615 b (by decide) hb
 exact h1.trans (by rw [xor_max hb])
theorem clearB (n : Bool) (r : Nat) (h : r < 9223372036854775808) : bits .andNot .u64 (word n r : Nat) 9218868437227405312 = (word n (r % 4503599627370496) : Nat) := by
 have h1 := u64_andNot_nat (word n r) 9218868437227405312 (rung_word n h).2.2 (by decide)
 refine h1.trans ?_
 rw [show (18446744073709551615 - 9218868437227405312 : Nat) = 9227875636482146303 from rfl, clear_exp n h]
theorem setB (n : Bool) (q f : Nat) (hq : q < 2048) (hf : f < 4503599627370496) : bits .or .u64 (word n f : Nat) ((q * 4503599627370496 : Nat) : Int) = (word n (q * 4503599627370496 + f) : Nat) := by
 have h1 := u64_or_nat (word n f) (q * 4503599627370496) (rung_word n (by omega)).2.2 (by omega)
 exact h1.trans (by rw [set_exp n hq hf])
theorem word_div (n : Bool) {r : Nat} (h : r < 9223372036854775808) : word n r / 4503599627370496 = (if n then 2048 else 0) + r / 4503599627370496 ∧ r / 4503599627370496 < 2048 := by
 unfold word; cases n <;> simp <;> omega
theorem expB (n : Bool) (r : Nat) (h : r < 9223372036854775808) : bits .and .u64 ((word n r : Int) / 4503599627370496) 2047 = ((r / 4503599627370496 : Nat) : Int) := by
 obtain ⟨d1, d2⟩ := word_div n h
 have h1 := u64_and_nat (word n r / 4503599627370496) 2047 (by rw [d1]; cases n <;> simp <;> omega) (by decide)
 have e : ((word n r : Int) / 4503599627370496) = ((word n r / 4503599627370496 : Nat) : Int) := by omega
 rw [e]
 refine h1.trans ?_
 rw [show (2047 : Nat) = 2 ^ 11 - 1 from rfl, Nat.and_two_pow_sub_one_eq_mod, d1]
 congr 1
 cases n <;> simp <;> omega
theorem expI (n : Bool) (r : Nat) (h : r < 9223372036854775808) : bits .and .i64 ((word n r : Int) / 4503599627370496) 2047 = ((r / 4503599627370496 : Nat) : Int) := by
 obtain ⟨d1, d2⟩ := word_div n h
 have e : ((word n r : Int) / 4503599627370496) = ((word n r / 4503599627370496 : Nat) : Int) := by omega
 have hlt : word n r / 4503599627370496 < 4096 := by rw [d1]; cases n <;> simp <;> omega
 have h1 := bits_mask .i64 63 (by decide) (fun m h0 h1 => by rw [IntKind.wrap_i64]; omega) 11 (by decide) ((word n r / 4503599627370496 : Nat) : Int) (by omega) (by omega)
 rw [e]
 refine (show bits .and .i64 ((word n r / 4503599627370496 : Nat) : Int) 2047 = _ from h1).trans ?_
 rw [d1]
 cases n <;> simp <;> omega
def placeN (b : Nat) : Nat := if nan b then (if neg b then 0 else 18446744073709551615) else (if neg b then 18446744073709551615 - b else 9223372036854775808 + b)
theorem neg_rung {b : Nat} (hb : b < W) (h : neg b = false) : rung b = b ∧ b < 9223372036854775808 := by
 unfold neg rung W at *
 have := of_decide_eq_false h; omega
end Go.Proofs.YtkplahkkmmoppaaGreatDoor.Wm
namespace Go.Proofs.YtkplahkkmmoppaaGreatDoor
open Go.RowKit
theorem abs_any (b : Nat) (hb : b < Wm.W) (w : World) :
  Calls Tryz.prog 260 #[.float .f64 b] w fun e w' => e = .returned (.float .f64 (Wm.rung b)) ∧ w = w' := by
 have hfb := tb_run
 have hfb2 := fb_run
 have e := Wm.absB b hb
 go_enter Tryz.func260, Tryz.ntmps260
 go_wp2_with fail
 go_ret
 exact ⟨rfl, rfl⟩
theorem place_w (b : Nat) (hb : b < Wm.W) (w : World) :
  Calls Tryz.prog 145 #[.float .f64 b] w fun e w' => e = .returned (.int .u64 (Wm.placeN b)) ∧ w = w' := by
 have hfb := tb_run
 have hs : IntKind.u64.signed = false := rfl
 have hm : IntKind.u64.max = 18446744073709551615 := rfl
 have e1 := Wm.sgnB b hb
 have e2 := Wm.maxB b hb
 have e3 := Wm.xorB b hb
 go_enter Tryz.func145, Tryz.ntmps145
 go_wp2_with fail
 refine (isNaN_any b hb _).mono ?_
 rintro e w' ⟨rfl, rfl⟩
 cases hn : Wm.nan b
 ·cases hg : Wm.neg b
  ·have e4 := Wm.signB b (Wm.neg_rung hb hg).2
   rw [hg] at e1
   clear e2 e3
   go_wp2_with fail
   go_ret
   exact ⟨by rw [Wm.placeN, hn, hg]; rfl, rfl⟩
  ·rw [hg] at e1
   clear e2
   go_wp2_with fail
   go_ret
   exact ⟨by rw [Wm.placeN, hn, hg]; rfl, rfl⟩
 ·cases hg : Wm.neg b
  ·have e2' : bits .or .u64 (b : Int) 9223372036854775807 = 9223372036854775807 := by rw [e2, hg]; rfl
   have e5 : bits .and .u64 9223372036854775807 9223372036854775808 = 0 := by kernel_rfl
   have e6 : bits .or .u64 9223372036854775807 9223372036854775808 = 18446744073709551615 := by kernel_rfl
   clear e1 e2 e3
   go_wp2_with fail
   go_ret
   exact ⟨by rw [Wm.placeN, hn, hg]; rfl, rfl⟩
  ·have e2' : bits .or .u64 (b : Int) 9223372036854775807 = 18446744073709551615 := by rw [e2, hg]; rfl
   have e5 : bits .and .u64 18446744073709551615 9223372036854775808 = 9223372036854775808 := by kernel_rfl
   have e6 : bits .xor .u64 18446744073709551615 18446744073709551615 = 0 := by kernel_rfl
   clear e1 e2 e3
   go_wp2_with fail
   go_ret
   exact ⟨by rw [Wm.placeN, hn, hg]; rfl, rfl⟩
theorem isNaNU_any (x : Nat) (w : World) :
  Calls Tryz.prog 193 #[.int .u64 x] w fun e w' => e = .returned (.bool false) ∧ w = w' := by
 go_enter Tryz.func193, Tryz.ntmps193
 go_wp2_with fail
 go_ret
 exact ⟨by first | rfl | simp, rfl⟩
theorem cmpU_any (x y : Nat) (w : World) :
  Calls Tryz.prog 144 #[.int .u64 x, .int .u64 y] w fun e w' => e = .returned (.int .i64 (Vm.sgn x y)) ∧ w = w' := by
 obtain ⟨v, hv, hc⟩ : ∃ v : Int, Hid (Vm.sgn x y = v) ∧ ((x < y ∧ v = -1) ∨ (y < x ∧ v = 1) ∨ (x = y ∧ v = 0)) := by
  refine ⟨_, Lib.hid rfl, ?_⟩
  unfold Vm.sgn
  by_cases h1 : (x : Int) < y
  ·left; exact ⟨by omega, by rw [if_pos h1]⟩
  ·by_cases h2 : (y : Int) < x
   ·right; left; exact ⟨by omega, by rw [if_neg h1, if_pos h2]⟩
   ·right; right; exact ⟨by omega, by rw [if_neg h1, if_neg h2]⟩
 rcases hc with ⟨h1, rfl⟩ | ⟨h1, rfl⟩ | ⟨rfl, rfl⟩
 all_goals
  go_enter Tryz.func144, Tryz.ntmps144
  go_wp2_with fail
  refine (isNaNU_any _ _).mono ?_
  rintro e w' ⟨rfl, rfl⟩
  go_wp2_with fail
  refine (isNaNU_any _ _).mono ?_
  rintro e w' ⟨rfl, rfl⟩
  go_wp2_with fail
  go_ret
  exact ⟨by rw [hv.out]; rfl, rfl⟩
theorem compare_w (a b : Nat) (ha : a < Wm.W) (hb : b < Wm.W) (w : World) :
  Calls Tryz.prog 99 #[.float .f64 a, .float .f64 b] w fun e w' => e = .returned (.int .i64 (Vm.sgn (Wm.placeN a) (Wm.placeN b))) ∧ w = w' := by
 go_enter Tryz.func99, Tryz.ntmps99
 go_wp2_with fail
 refine (place_w a ha _).mono ?_
 rintro e w' ⟨rfl, rfl⟩
 go_wp2_with fail
 refine (place_w b hb _).mono ?_
 rintro e w' ⟨rfl, rfl⟩
 go_wp2_with fail
 refine (cmpU_any _ _ _).mono ?_
 rintro e w' ⟨rfl, rfl⟩
 go_wp2_with fail
 go_ret
 exact ⟨rfl, rfl⟩
theorem same_w (a b : Nat) (ha : a < Wm.W) (hb : b < Wm.W) (w : World) :
  Calls Tryz.prog 50 #[.float .f64 a, .float .f64 b] w fun e w' => e = .returned (.bool (Vm.sgn (Wm.placeN a) (Wm.placeN b) == 0)) ∧ w = w' := by
 go_enter Tryz.func50, Tryz.ntmps50
 go_wp2_with fail
 refine (compare_w a b ha hb _).mono ?_
 rintro e w' ⟨rfl, rfl⟩
 go_wp2_with fail
 go_ret
 exact ⟨rfl, rfl⟩
theorem sgn_eq (a b : Int) : (a < b ∧ Vm.sgn a b = -1) ∨ (b < a ∧ Vm.sgn a b = 1) ∨ (a = b ∧ Vm.sgn a b = 0) := by
 unfold Vm.sgn
 by_cases h1 : a < b
 ·left; exact ⟨h1, by rw [if_pos h1]⟩
 ·by_cases h2 : b < a
  ·right; left; exact ⟨h2, by rw [if_neg h1, if_pos h2]⟩
  ·right; right; exact ⟨by omega, by rw [if_neg h1, if_neg h2]⟩
theorem sk_zero : Wm.sk 0 = 0 := rfl
theorem nan_zero : Wm.nan 0 = false := rfl
theorem lt_zero (b : Nat) (hb : b < Wm.W) : (FloatKind.f64.format.order b 0 == some .lt) = (!Wm.nan b && decide (Wm.sk b < 0)) := by
 rw [Wm.ord_lt b 0 hb (by decide), nan_zero, sk_zero]; simp
def Fin (r : Nat) : Prop := 0 < r ∧ r < 9218868437227405312
theorem fin_word {r : Nat} (h : Fin r) (n : Bool) : Wm.word n r < Wm.W ∧ Wm.nan (Wm.word n r) = false ∧ Wm.sk (Wm.word n r) ≠ 0 ∧ Wm.sk (Wm.word n r) < 9218868437227405312 ∧ -9218868437227405312 < Wm.sk (Wm.word n r) := by
 obtain ⟨h1, h2⟩ := h
 obtain ⟨a1, a2, a3⟩ := Wm.rung_word n (r := r) (by omega)
 refine ⟨a3, ?_, ?_⟩
 ·unfold Wm.nan; rw [a1]; exact decide_eq_false (by omega)
 ·unfold Wm.sk; rw [a1, a2]; cases n <;> simp <;> omega
theorem mIsNaN_any (b : Nat) (hb : b < Wm.W) (w : World) :
  Calls Tryz.prog 229 #[.float .f64 b] w fun e w' => e = .returned (.bool (Wm.nan b)) ∧ w = w' := by
 have H := Wm.ord_self b hb
 go_enter Tryz.func229, Tryz.ntmps229
 go_wp2_with fail
 go_ret
 exact ⟨rfl, rfl⟩
theorem fin_pos {r : Nat} (h : Fin r) : r < Wm.W ∧ Wm.nan r = false ∧ Wm.sk r = r := by
 obtain ⟨h1, h2⟩ := h
 obtain ⟨a1, a2, a3⟩ := Wm.rung_word false (r := r) (by omega)
 refine ⟨a3, ?_, ?_⟩
 ·unfold Wm.nan; rw [show Wm.rung r = r from a1]; exact decide_eq_false (by omega)
 ·unfold Wm.sk; rw [show Wm.neg r = false from a2, show Wm.rung r = r from a1]; rfl
theorem abs_word (n : Bool) {r : Nat} (h : Fin r) (w : World) :
  Calls Tryz.prog 260 #[.float .f64 (Wm.word n r)] w fun e w' => e = .returned (.float .f64 r) ∧ w = w' := by
 have h2 := h.2
 obtain ⟨a1, a2, a3⟩ := Wm.rung_word n (r := r) (by omega)
 have := abs_any (Wm.word n r) a3 w
 rwa [a1] at this
theorem isInf_no (n : Bool) (r : Nat) (h : Fin r) (w : World) :
  Calls Tryz.prog 228 #[.float .f64 (Wm.word n r), .int .i64 0] w fun e w' => e = .returned (.bool false) ∧ w = w' := by
 obtain ⟨g1, g2, g3⟩ := fin_pos h
 have h2 := h.2
 have o1 := Wm.ord_gt r 9218868437227405311 g1 (by decide)
 rw [g2, g3, show Wm.sk 9218868437227405311 = 9218868437227405311 from rfl, decide_eq_false (by omega)] at o1
 simp only [Bool.and_false] at o1
 clear g1 g2 g3 h2
 go_enter Tryz.func228, Tryz.ntmps228
 go_wp2_with fail
 refine (abs_word n h _).mono ?_
 rintro e w' ⟨rfl, rfl⟩
 go_wp2_with fail
 go_ret
 exact ⟨rfl, rfl⟩
theorem run_mul (x y r : Nat) (h : Ieee.double.mul x y = some r) (W : World) : (binOp .mul 25 (.float .f64 x) (.float .f64 y)).run Tryz.prog W = .ok (.float .f64 r) W :=
 run_float_arith W .mul _ .f64 x y r h
def nrmX (r : Nat) : Int := if r < 4503599627370496 then -52 else 0
theorem normalize_any (n : Bool) (r : Nat) (h : Fin r) (w : World) :
  Calls Tryz.prog 230 #[.float .f64 (Wm.word n r)] w fun e w' => e = .returned (.tuple #[.float .f64 (Wm.word n (Wm.nrm r)), .int .i64 (nrmX r)]) ∧ w = w' := by
 obtain ⟨g1, g2, g3⟩ := fin_pos h
 have o1 := Wm.ord_lt r 4503599627370496 g1 (by decide)
 rw [g2, g3, show Wm.nan 4503599627370496 = false from rfl, show Wm.sk 4503599627370496 = 4503599627370496 from rfl] at o1
 clear g1 g2 g3
 by_cases hr : r < 4503599627370496
 ·rw [decide_eq_true (by omega)] at o1
  simp only [Bool.not_false, Bool.and_true] at o1
  have hm := run_mul _ _ _ (Wm.mul_nrm n h.1 hr)
  have HX : Hid (nrmX r = -52) := by show _ = _; rw [nrmX, if_pos hr]
  clear hr
  go_enter Tryz.func230, Tryz.ntmps230
  go_wp2_with fail
  refine (abs_word n h _).mono ?_
  rintro e w' ⟨rfl, rfl⟩
  go_wp2_with fail
  go_ret2
  exact ⟨by rw [HX.out]; rfl, rfl⟩
 ·rw [decide_eq_false (by omega)] at o1
  simp only [Bool.not_false, Bool.and_false] at o1
  have HX : Hid (nrmX r = 0 ∧ Wm.nrm r = r) := by show _ ∧ _; rw [nrmX, if_neg hr, Wm.nrm, if_neg hr]; exact ⟨rfl, rfl⟩
  clear hr
  go_enter Tryz.func230, Tryz.ntmps230
  go_wp2_with fail
  refine (abs_word n h _).mono ?_
  rintro e w' ⟨rfl, rfl⟩
  go_wp2_with fail
  go_ret2
  exact ⟨by rw [HX.out.1, HX.out.2]; rfl, rfl⟩
end Go.Proofs.YtkplahkkmmoppaaGreatDoor

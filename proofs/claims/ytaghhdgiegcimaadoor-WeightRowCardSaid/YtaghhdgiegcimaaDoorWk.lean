/- The program's parseProduct. -/
import Derived.Test.YtaghhdgiegcimaaDoorWj
namespace Go.Proofs.YtaghhdgiegcimaaDoor
open Go.RowKit

namespace Wm
theorem bitLen_log {k : Nat} (h : 0 < k) (h2 : k < 2 ^ 53) : Lib.bitLen k = k.log2 + 1 := by
  obtain ⟨b1, b2, b3⟩ := Lib.bitLenAux_bounds 64 k (by omega) (by omega)
  unfold Lib.bitLen
  generalize Lib.bitLenAux 64 k = m at *
  have := log2_eq (l := m - 1) b2 (by rwa [show m - 1 + 1 = m from by omega])
  omega
/-- Which numbers a product may be made of. -/
def rangeOk (F P : Int) : Bool := decide (-9007199254740992 < F) && (decide (F < 9007199254740992) && (decide (-1074 ≤ P) && decide (P ≤ 1024 - ((F.natAbs.log2 + 1 : Nat) : Int))))
theorem rangeOk_lo {F P : Int} (h : F ≤ -9007199254740992) : rangeOk F P = false := by
  have : ¬ -9007199254740992 < F := by omega
  simp [rangeOk, this]
theorem rangeOk_hi {F P : Int} (h : 9007199254740992 ≤ F) : rangeOk F P = false := by
  have : ¬ F < 9007199254740992 := by omega
  simp [rangeOk, this]
theorem rangeOk_mid {F P : Int} (h : -9007199254740992 < F) (h2 : F < 9007199254740992) : rangeOk F P = (decide (-1074 ≤ P) && decide (P ≤ 1024 - ((F.natAbs.log2 + 1 : Nat) : Int))) := by
  simp [rangeOk, h, h2]
/-- The product's word. -/
def prodVal (F P : Int) : Nat := word (decide (F < 0)) (rungOf F.natAbs P)
end Wm
def formOk (l : List UInt8) : Bool := Vm.has 112 l && (Wm.decB (Vm.fst 112 l) && (Wm.decB (Vm.snd 112 l) && lastOdd (Vm.fst 112 l)))
def prodErr (l : List UInt8) : Int := if formOk l then (if Wm.rangeOk (Wm.nmb (Vm.fst 112 l)) (Wm.nmb (Vm.snd 112 l)) then 0 else 8) else 2
def prodOf (l : List UInt8) : Nat := if prodErr l = 0 then Wm.prodVal (Wm.nmb (Vm.fst 112 l)) (Wm.nmb (Vm.snd 112 l)) else 0
def prodEnd (l : List UInt8) : Ending := if prodErr l = 0 then .returned (.float .f64 (prodOf l)) else pan (prodErr l)
theorem odd_ne (l : List UInt8) (hd : Wm.decB l = true) (ho : lastOdd l = true) : Wm.nmb l % 2 = 1 ∨ Wm.nmb l = -9223372036854775808 := by
  obtain ⟨⟨h1, h2, _⟩, _⟩ := (Wm.decB_iff l).1 hd
  have hm : Wm.mgn l = l ∨ Wm.mgn l = l.drop 1 := by unfold Wm.mgn; split <;> simp
  have hlast : l.getLast? = (Wm.mgn l).getLast? := by
    rcases hm with h | h
    · rw [h]
    · rw [h] at h1 ⊢
      cases l with
      | nil => rfl
      | cons c t =>
        cases t with
        | nil => exact absurd rfl h1
        | cons d t => rfl
  have e := Wm.num_last (Wm.mgn l) h1
  unfold lastOdd at ho
  rw [hlast, List.getLast?_eq_some_getLast h1] at ho
  have hdig : Vm.dig ((Wm.mgn l).getLast h1) = true := by rw [List.all_eq_true] at h2; exact h2 _ (List.getLast_mem h1)
  rw [Wm.dig_iff] at hdig
  have ho' : ((((Wm.mgn l).getLast h1).toNat : Int) - 48) % 2 = 1 := by simpa using ho
  unfold Wm.nmb
  split <;> split <;> omega
theorem nmb_bounds (l : List UInt8) : -9223372036854775808 ≤ Wm.nmb l ∧ Wm.nmb l ≤ 9223372036854775807 := by
  unfold Wm.nmb; split <;> split <;> omega
theorem fst_snd (l : List UInt8) (c : UInt8) : (Vm.fst c l).length ≤ l.length ∧ (Vm.snd c l).length ≤ l.length := ⟨fst_le l c, snd_le c l⟩
set_option maxHeartbeats 4000000 in
theorem parseProduct_any (l : List UInt8) (hl : l.length ≤ 200) (w : World) (hk : KOk w) :
    Calls Tryd.prog 91 #[.string ⟨l.toArray⟩] w fun e w' => e = prodEnd l ∧ Below w.heap.size w w' := by
  have HE : Hid (prodEnd l = if prodErr l = 0 then .returned (.float .f64 (prodOf l)) else pan (prodErr l)) := rfl
  have HO : Hid (prodOf l = if prodErr l = 0 then Wm.prodVal (Wm.nmb (Vm.fst 112 l)) (Wm.nmb (Vm.snd 112 l)) else 0) := rfl
  have HR : Hid (prodErr l = if formOk l then (if Wm.rangeOk (Wm.nmb (Vm.fst 112 l)) (Wm.nmb (Vm.snd 112 l)) then 0 else 8) else 2) := rfl
  have HF : Hid (formOk l = (Vm.has 112 l && (Wm.decB (Vm.fst 112 l) && (Wm.decB (Vm.snd 112 l) && lastOdd (Vm.fst 112 l))))) := rfl
  have hbad : formOk l = false → prodEnd l = pan 2 := fun h => by rw [HE.out, HR.out, h]; rfl
  have HB := Lib.hid hbad
  clear hbad
  obtain ⟨la, lb⟩ := fst_snd l 112
  cases hh : Vm.has 112 l
  · have HV : Hid (prodEnd l = pan 2) := HB.out (by rw [HF.out, hh]; rfl)
    go_enter Tryd.func91, Tryd.ntmps91
    go_wp2_with fail
    refine (cut_no l 112 _ hk.1 (by omega) hh).mono ?_
    rintro e w1 ⟨g1, g2⟩; subst g1
    have HD : Hid (Below w.heap.size w w1) := by obtain ⟨n, rfl⟩ := g2; exact below_drewN (Below.refl _ _) n
    clear g2 hh
    go_wp2_with fail
    refine (require_no _).mono ?_
    rintro e w2 ⟨g1, g2⟩; subst g2; subst g1
    go_wp2_with fail
    exact ⟨rfl, HV.out.symm, HD.out⟩
  · have hcut := fun W h => cut_yes l 112 W h (by omega) hh
    rw [hh] at HF
    generalize Vm.fst 112 l = bf at *
    generalize Vm.snd 112 l = af at *
    clear hh
    go_enter Tryd.func91, Tryd.ntmps91
    go_wp2_with fail
    refine (hcut _ hk.1).mono ?_
    rintro e w1 ⟨g1, g2⟩; subst g1
    have HD : Hid (Below w.heap.size w w1) := by obtain ⟨n, rfl⟩ := g2; exact below_drewN (Below.refl _ _) n
    have hk1 := kOk_below hk HD.out
    clear g2 hk hcut
    go_wp2_with fail
    refine (isDecimal_any bf (by omega) _).mono ?_
    rintro e w2 ⟨g1, g2⟩; subst g1
    have HD2 := Lib.hid (HD.out.trans (g2.mono HD.out.size))
    have hk2 := kOk_below hk1 g2
    clear g2 hk1 HD
    cases hd1 : Wm.decB bf
    · have HV : Hid (prodEnd l = pan 2) := HB.out (by rw [HF.out, hd1]; rfl)
      clear hd1
      go_wp2_with fail
      refine (require_no _).mono ?_
      rintro e w3 ⟨g1, g2⟩; subst g2; subst g1
      go_wp2_with fail
      exact ⟨rfl, HV.out.symm, HD2.out⟩
    · go_wp2_with fail
      refine (isDecimal_any af (by omega) _).mono ?_
      rintro e w3 ⟨g1, g2⟩; subst g1
      have HD3 := Lib.hid (HD2.out.trans (g2.mono HD2.out.size))
      have hk3 := kOk_below hk2 g2
      clear g2 hk2 HD2
      cases hd2 : Wm.decB af
      · have HV : Hid (prodEnd l = pan 2) := HB.out (by rw [HF.out, hd1, hd2]; rfl)
        clear hd1 hd2
        go_wp2_with fail
        refine (require_no _).mono ?_
        rintro e w4 ⟨g1, g2⟩; subst g2; subst g1
        go_wp2_with fail
        exact ⟨rfl, HV.out.symm, HD3.out⟩
      · have hp1 := ((Wm.decB_iff bf).1 hd1).1
        have hp2 := ((Wm.decB_iff af).1 hd2).1
        have hne : bf ≠ [] := fun h => hp1.1 (by rw [h]; rfl)
        have HP1 := Lib.hid hp1
        have HP2 := Lib.hid hp2
        have HNE := Lib.hid hne
        clear hp1 hp2 hne
        go_wp2_with fail
        refine (isOdd_any bf HNE.out (by omega) _).mono ?_
        rintro e w4 ⟨g1, g2⟩; subst g2; subst g1
        cases ho : lastOdd bf
        · have HV : Hid (prodEnd l = pan 2) := HB.out (by rw [HF.out, hd1, hd2, ho]; rfl)
          clear hd1 hd2 ho
          go_wp2_with fail
          refine (require_no _).mono ?_
          rintro e w4 ⟨g1, g2⟩; subst g2; subst g1
          go_wp2_with fail
          exact ⟨rfl, HV.out.symm, HD3.out⟩
        · have HFO : Hid (formOk l = true) := by show _ = _; rw [HF.out, hd1, hd2, ho]; rfl
          rw [HFO.out] at HR
          have HOD := Lib.hid (odd_ne bf hd1 ho)
          clear hd1 hd2 ho HF HB
          go_wp2_with fail
          refine (require_yes _).mono ?_
          rintro e w4 ⟨g1, g2⟩; subst g2; subst g1
          go_wp2_with fail
          refine (number_any bf (by omega) HP1.out _ hk3).mono ?_
          rintro e w4 ⟨g1, g2⟩; subst g1
          have HD4 := Lib.hid (HD3.out.trans (g2.mono HD3.out.size))
          have hk4 := kOk_below hk3 g2
          clear g2 hk3 HD3
          go_wp2_with fail
          refine (number_any af (by omega) HP2.out _ hk4).mono ?_
          rintro e w5 ⟨g1, g2⟩; subst g1
          have HD5 := Lib.hid (HD4.out.trans (g2.mono HD4.out.size))
          clear g2 hk4 HD4 HP1 HP2 HNE
          have hF := nmb_bounds bf
          have hP := nmb_bounds af
          generalize Wm.nmb bf = F at *
          generalize Wm.nmb af = P at *
          have HRF : Hid (prodErr l = if Wm.rangeOk F P then 0 else 8) := by show _ = _; rw [HR.out]; rfl
          have HBR : Hid (Wm.rangeOk F P = false → prodEnd l = pan 8) := by
            show _ → _
            intro h
            rw [HE.out, HRF.out, h]; rfl
          clear HR
          by_cases c1 : F ≤ -9007199254740992
          · have HV : Hid (prodEnd l = pan 8) := HBR.out (Wm.rangeOk_lo c1)
            go_wp2_with fail
            refine (require_no _).mono ?_
            rintro e w6 ⟨g1, g2⟩; subst g2; subst g1
            go_wp2_with fail
            exact ⟨rfl, HV.out.symm, HD5.out⟩
          by_cases c2 : 9007199254740992 ≤ F
          · have HV : Hid (prodEnd l = pan 8) := HBR.out (Wm.rangeOk_hi c2)
            go_wp2_with fail
            rw [show decide (F < 9007199254740992) = false from decide_eq_false (by omega)]
            refine (require_no _).mono ?_
            rintro e w6 ⟨g1, g2⟩; subst g2; subst g1
            go_wp2_with fail
            exact ⟨rfl, HV.out.symm, HD5.out⟩
          have hodd : F % 2 = 1 := by rcases HOD.out with h | h <;> omega
          have hk0 : 0 < F.natAbs := by omega
          have hk53 : F.natAbs < 2 ^ 53 := by omega
          have HBL := Lib.hid (Wm.bitLen_log hk0 hk53)
          have hlg := Wm.log2_lt53 hk0 hk53
          have hmax : max F (-F) = ((F.natAbs : Nat) : Int) := by omega
          have HR2 : Hid (Wm.rangeOk F P = (decide (-1074 ≤ P) && decide (P ≤ 1024 - ((F.natAbs.log2 + 1 : Nat) : Int)))) := Wm.rangeOk_mid (by omega) (by omega)
          clear HOD
          have c1' : -9007199254740992 < F := by omega
          have c2' : F < 9007199254740992 := by omega
          clear c1 c2
          go_wp2_with fail
          refine (require_yes _).mono ?_
          rintro e w6 ⟨g1, g2⟩; subst g2; subst g1
          go_wp2_with fail
          refine (Tryd.bits_Len64 _ _ (by omega) (by omega)).mono ?_
          rintro e w6 ⟨g1, g2⟩; subst g2; subst g1
          rw [show ((F.natAbs : Nat) : Int).toNat = F.natAbs from rfl, HBL.out]
          clear hmax
          by_cases p1 : P < -1074
          · have HV : Hid (prodEnd l = pan 8) := HBR.out (by rw [HR2.out, decide_eq_false (by omega)]; rfl)
            go_wp2_with fail
            refine (require_no _).mono ?_
            rintro e w7 ⟨g1, g2⟩; subst g2; subst g1
            go_wp2_with fail
            exact ⟨rfl, HV.out.symm, HD5.out⟩
          by_cases p2 : 1024 - ((F.natAbs.log2 + 1 : Nat) : Int) < P
          · have HV : Hid (prodEnd l = pan 8) := HBR.out (by rw [HR2.out, decide_eq_false (show ¬ P ≤ 1024 - ((F.natAbs.log2 + 1 : Nat) : Int) by omega), Bool.and_false])
            go_wp2_with fail
            rw [show decide (P ≤ 1024 - ((F.natAbs.log2 : Int) + 1)) = false from decide_eq_false (by omega)]
            refine (require_no _).mono ?_
            rintro e w7 ⟨g1, g2⟩; subst g2; subst g1
            go_wp2_with fail
            exact ⟨rfl, HV.out.symm, HD5.out⟩
          have HZ : Hid (prodErr l = 0) := by show _ = _; rw [HRF.out, HR2.out, decide_eq_true (show -1074 ≤ P by omega), decide_eq_true (show P ≤ 1024 - ((F.natAbs.log2 + 1 : Nat) : Int) by omega)]; rfl
          have HV : Hid (prodEnd l = .returned (.float .f64 (Wm.prodVal F P))) := by show _ = _; rw [HE.out, HO.out, if_pos HZ.out, if_pos HZ.out]
          have hcv : FloatKind.f64.nearest F = Wm.word (decide (F < 0)) (Wm.rungOf F.natAbs 0) := Wm.ofInt_eq F (by omega) hk53
          have hr0 := Wm.rung0 hk0 hk53
          have hrl := Wm.rungOf_lt (e := 0) hk0 hk53 (by omega)
          have hx := Wm.ldx_exact (decide (F < 0)) hk0 hk53 (show -1074 ≤ P by omega) (by omega)
          have hfin : Fin (Wm.rungOf F.natAbs 0) := hrl
          go_wp2_with fail
          rw [show decide (P ≤ 1024 - ((F.natAbs.log2 : Int) + 1)) = true from decide_eq_true (by omega)]
          refine (require_yes _).mono ?_
          rintro e w7 ⟨g1, g2⟩; subst g2; subst g1
          go_wp2_with fail
          rw [show floatOfInt .f64 F = Wm.word (decide (F < 0)) (Wm.rungOf F.natAbs 0) from hcv]
          refine (ldexp_any (decide (F < 0)) (Wm.rungOf F.natAbs 0) P hfin hr0.2.2 (by omega) _).mono ?_
          rintro e w8 ⟨g1, g2⟩; subst g2; subst g1
          rw [hx]
          go_wp2_with fail
          go_ret
          exact ⟨by rw [HV.out]; rfl, HD5.out⟩
end Go.Proofs.YtaghhdgiegcimaaDoor

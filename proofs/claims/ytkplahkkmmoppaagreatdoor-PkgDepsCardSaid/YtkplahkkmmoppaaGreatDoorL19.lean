/- Part 19 of what the laws lean on. -/
import Derived.Test.YtkplahkkmmoppaaGreatDoorL18
set_option maxRecDepth 100000
set_option maxHeartbeats 4000000
namespace Go.Proofs.YtkplahkkmmoppaaGreatDoor
open Go.RowKit
namespace Wm
theorem bitLen_log {k : Nat} (h : 0 < k) (h2 : k < 2 ^ 53) : Lib.bitLen k=k.log2 + 1:=by
 obtain ⟨b1,b2,b3⟩:=Lib.bitLenAux_bounds 64 k (by omega) (by omega)
 unfold Lib.bitLen
 generalize Lib.bitLenAux 64 k=m at *
 have:=log2_eq (l:=m - 1) b2 (by rwa [show m - 1 + 1=m from by omega])
 omega
def rangeOk (F P : Int) : Bool:=decide (-9007199254740992 < F) && (decide (F < 9007199254740992) && (decide (-1074≤P) && decide (P≤1024 - ((F.natAbs.log2 + 1 : Nat) : Int))))
theorem rangeOk_lo {F P : Int} (h : F ≤ -9007199254740992) : rangeOk F P=false:=by
 have : ¬ -9007199254740992 < F:=by omega
 simp [rangeOk,this]
theorem rangeOk_hi {F P : Int} (h : 9007199254740992≤F) : rangeOk F P=false:=by
 have : ¬ F < 9007199254740992:=by omega
 simp [rangeOk,this]
theorem rangeOk_mid {F P : Int} (h : -9007199254740992 < F) (h2 : F < 9007199254740992) : rangeOk F P=(decide (-1074≤P) && decide (P≤1024 - ((F.natAbs.log2 + 1 : Nat) : Int))):=by
 simp [rangeOk,h,h2]
def prodVal (F P : Int) : Nat:=word (decide (F < 0)) (rungOf F.natAbs P)
end Wm
def formOk (l : List UInt8) : Bool:=Vm.has 112 l && (Wm.decB (Vm.fst 112 l) && (Wm.decB (Vm.snd 112 l) && lastOdd (Vm.fst 112 l)))
def prodErr (l : List UInt8) : Int:=if formOk l then (if Wm.rangeOk (Wm.nmb (Vm.fst 112 l)) (Wm.nmb (Vm.snd 112 l)) then 0 else 8) else 2
def prodOf (l : List UInt8) : Nat:=if prodErr l=0 then Wm.prodVal (Wm.nmb (Vm.fst 112 l)) (Wm.nmb (Vm.snd 112 l)) else 0
def prodEnd (l : List UInt8) : Ending:=if prodErr l=0 then .returned (.float .f64 (prodOf l)) else pan (prodErr l)
theorem odd_ne (l : List UInt8) (hd : Wm.decB l=true) (ho : lastOdd l=true) : Wm.nmb l % 2=1 ∨ Wm.nmb l = -9223372036854775808:=by
 obtain ⟨⟨h1,h2,_⟩,_⟩:=(Wm.decB_iff l).1 hd
 have hm : Wm.mgn l=l ∨ Wm.mgn l=l.drop 1:=by unfold Wm.mgn;split <;> simp
 have hlast : l.getLast? = (Wm.mgn l).getLast?:=by
  rcases hm with h | h
  ·rw [h]
  ·rw [h] at h1 ⊢
   cases l with
   | nil=>rfl
   | cons c t =>
    cases t with
    | nil=>exact absurd rfl h1
    | cons d t=>rfl
 have e:=Wm.num_last (Wm.mgn l) h1
 unfold lastOdd at ho
 rw [hlast,List.getLast?_eq_some_getLast h1] at ho
 have hdig : Vm.dig ((Wm.mgn l).getLast h1)=true:=by rw [List.all_eq_true] at h2;exact h2 _ (List.getLast_mem h1)
 rw [Wm.dig_iff] at hdig
 have ho' : ((((Wm.mgn l).getLast h1).toNat : Int) - 48) % 2=1:=by simpa using ho
 unfold Wm.nmb
 split <;> split <;> omega
theorem nmb_bounds (l : List UInt8) : -9223372036854775808≤Wm.nmb l∧Wm.nmb l≤9223372036854775807:=by
 unfold Wm.nmb;split <;> split <;> omega
theorem fst_snd (l : List UInt8) (c : UInt8) : (Vm.fst c l).length≤l.length∧(Vm.snd c l).length≤l.length:=⟨fst_le l c,snd_le c l⟩
theorem parseProduct_any (l : List UInt8) (hl : l.length≤1000) (w : World) (hk : KOk w) :
  Calls Tryz.prog 272 #[.string ⟨l.toArray⟩] w fun e w'=>e=prodEnd l∧Below w.heap.size w w':=by
 have HE : Hid (prodEnd l=if prodErr l=0 then .returned (.float .f64 (prodOf l)) else pan (prodErr l)):=rfl
 have HO : Hid (prodOf l=if prodErr l=0 then Wm.prodVal (Wm.nmb (Vm.fst 112 l)) (Wm.nmb (Vm.snd 112 l)) else 0):=rfl
 have HR : Hid (prodErr l=if formOk l then (if Wm.rangeOk (Wm.nmb (Vm.fst 112 l)) (Wm.nmb (Vm.snd 112 l)) then 0 else 8) else 2):=rfl
 have HF : Hid (formOk l=(Vm.has 112 l && (Wm.decB (Vm.fst 112 l) && (Wm.decB (Vm.snd 112 l) && lastOdd (Vm.fst 112 l))))):=rfl
 have hbad : formOk l=false → prodEnd l=pan 2:=fun h=>by rw [HE.out,HR.out,h];rfl
 have HB:=Lib.hid hbad
 clear hbad
 obtain ⟨la,lb⟩:=fst_snd l 112
 cases hh : Vm.has 112 l
 ·have HV : Hid (prodEnd l=pan 2):=HB.out (by rw [HF.out,hh];rfl)
  go_enter Tryz.func272,Tryz.ntmps272
  go_wp2_with fail
  refine (cut_no l 112 _ hk.1 (by omega) hh).mono ?_
  rintro e w1 ⟨g1,g2⟩;subst g1
  have HD : Hid (Below w.heap.size w w1):=by obtain ⟨n,rfl⟩:=g2;exact below_drewN (Below.refl _ _) n
  clear g2 hh
  go_wp2_with fail
  refine (require_no _).mono ?_
  rintro e w2 ⟨g1,g2⟩;subst g2;subst g1
  go_wp2_with fail
  exact ⟨rfl,HV.out.symm,HD.out⟩
 ·have hcut:=fun W h=>cut_yes l 112 W h (by omega) hh
  rw [hh] at HF
  generalize Vm.fst 112 l=bf at *
  generalize Vm.snd 112 l=af at *
  clear hh
  go_enter Tryz.func272,Tryz.ntmps272
  go_wp2_with fail
  refine (hcut _ hk.1).mono ?_
  rintro e w1 ⟨g1,g2⟩;subst g1
  have HD : Hid (Below w.heap.size w w1):=by obtain ⟨n,rfl⟩:=g2;exact below_drewN (Below.refl _ _) n
  have hk1:=kOk_below hk HD.out
  clear g2 hk hcut
  go_wp2_with fail
  refine (isDecimal_any bf (by omega) _).mono ?_
  rintro e w2 ⟨g1,g2⟩;subst g1
  have HD2:=Lib.hid (HD.out.trans (g2.mono HD.out.size))
  have hk2:=kOk_below hk1 g2
  clear g2 hk1 HD
  cases hd1 : Wm.decB bf
  ·have HV : Hid (prodEnd l=pan 2):=HB.out (by rw [HF.out,hd1];rfl)
   clear hd1
   go_wp2_with fail
   refine (require_no _).mono ?_
   rintro e w3 ⟨g1,g2⟩;subst g2;subst g1
   go_wp2_with fail
   exact ⟨rfl,HV.out.symm,HD2.out⟩
  ·go_wp2_with fail
   refine (isDecimal_any af (by omega) _).mono ?_
   rintro e w3 ⟨g1,g2⟩;subst g1
   have HD3:=Lib.hid (HD2.out.trans (g2.mono HD2.out.size))
   have hk3:=kOk_below hk2 g2
   clear g2 hk2 HD2
   cases hd2 : Wm.decB af
   ·have HV : Hid (prodEnd l=pan 2):=HB.out (by rw [HF.out,hd1,hd2];rfl)
    clear hd1 hd2
    go_wp2_with fail
    refine (require_no _).mono ?_
    rintro e w4 ⟨g1,g2⟩;subst g2;subst g1
    go_wp2_with fail
    exact ⟨rfl,HV.out.symm,HD3.out⟩
   ·have hp1:=((Wm.decB_iff bf).1 hd1).1
    have hp2:=((Wm.decB_iff af).1 hd2).1
    have hne : bf ≠ []:=fun h=>hp1.1 (by rw [h];rfl)
    have HP1:=Lib.hid hp1
    have HP2:=Lib.hid hp2
    have HNE:=Lib.hid hne
    clear hp1 hp2 hne
    go_wp2_with fail
    refine (isOdd_any bf HNE.out (by omega) _).mono ?_
    rintro e w4 ⟨g1,g2⟩;subst g2;subst g1
    cases ho : lastOdd bf
    ·have HV : Hid (prodEnd l=pan 2):=HB.out (by rw [HF.out,hd1,hd2,ho];rfl)
     clear hd1 hd2 ho
     go_wp2_with fail
     refine (require_no _).mono ?_
     rintro e w4 ⟨g1,g2⟩;subst g2;subst g1
     go_wp2_with fail
     exact ⟨rfl,HV.out.symm,HD3.out⟩
    ·have HFO : Hid (formOk l=true):=by show _=_;rw [HF.out,hd1,hd2,ho];rfl
     rw [HFO.out] at HR
     have HOD:=Lib.hid (odd_ne bf hd1 ho)
     clear hd1 hd2 ho HF HB
     go_wp2_with fail
     refine (require_yes _).mono ?_
     rintro e w4 ⟨g1,g2⟩;subst g2;subst g1
     go_wp2_with fail
     refine (number_any bf (by omega) HP1.out _ hk3).mono ?_
     rintro e w4 ⟨g1,g2⟩;subst g1
     have HD4:=Lib.hid (HD3.out.trans (g2.mono HD3.out.size))
     have hk4:=kOk_below hk3 g2
     clear g2 hk3 HD3
     go_wp2_with fail
     refine (number_any af (by omega) HP2.out _ hk4).mono ?_
     rintro e w5 ⟨g1,g2⟩;subst g1
     have HD5:=Lib.hid (HD4.out.trans (g2.mono HD4.out.size))
     clear g2 hk4 HD4 HP1 HP2 HNE
     have hF:=nmb_bounds bf
     have hP:=nmb_bounds af
     generalize Wm.nmb bf=F at *
     generalize Wm.nmb af=P at *
     have HRF : Hid (prodErr l=if Wm.rangeOk F P then 0 else 8):=by show _=_;rw [HR.out];rfl
     have HBR : Hid (Wm.rangeOk F P=false → prodEnd l=pan 8):=by
      show _ → _
      intro h
      rw [HE.out,HRF.out,h];rfl
     clear HR
     by_cases c1 : F ≤ -9007199254740992
     ·have HV : Hid (prodEnd l=pan 8):=HBR.out (Wm.rangeOk_lo c1)
      go_wp2_with fail
      refine (require_no _).mono ?_
      rintro e w6 ⟨g1,g2⟩;subst g2;subst g1
      go_wp2_with fail
      exact ⟨rfl,HV.out.symm,HD5.out⟩
     by_cases c2 : 9007199254740992≤F
     ·have HV : Hid (prodEnd l=pan 8):=HBR.out (Wm.rangeOk_hi c2)
      go_wp2_with fail
      rw [show decide (F < 9007199254740992)=false from decide_eq_false (by omega)]
      refine (require_no _).mono ?_
      rintro e w6 ⟨g1,g2⟩;subst g2;subst g1
      go_wp2_with fail
      exact ⟨rfl,HV.out.symm,HD5.out⟩
     have hodd : F % 2=1:=by rcases HOD.out with h | h <;> omega
     have hk0 : 0 < F.natAbs:=by omega
     have hk53 : F.natAbs < 2 ^ 53:=by omega
     have HBL:=Lib.hid (Wm.bitLen_log hk0 hk53)
     have hlg:=Wm.log2_lt53 hk0 hk53
     have hmax : max F (-F)=((F.natAbs : Nat) : Int):=by omega
     have HR2 : Hid (Wm.rangeOk F P=(decide (-1074≤P) && decide (P≤1024 - ((F.natAbs.log2 + 1 : Nat) : Int)))):=Wm.rangeOk_mid (by omega) (by omega)
     clear HOD
     have c1' : -9007199254740992 < F:=by omega
     have c2' : F < 9007199254740992:=by omega
     clear c1 c2
     go_wp2_with fail
     refine (require_yes _).mono ?_
     rintro e w6 ⟨g1,g2⟩;subst g2;subst g1
     go_wp2_with fail
     refine (Tryz.bits_Len64 _ _ (by omega) (by omega)).mono ?_
     rintro e w6 ⟨g1,g2⟩;subst g2;subst g1
     rw [show ((F.natAbs : Nat) : Int).toNat=F.natAbs from rfl,HBL.out]
     clear hmax
     by_cases p1 : P < -1074
     ·have HV : Hid (prodEnd l=pan 8):=HBR.out (by rw [HR2.out,decide_eq_false (by omega)];rfl)
      go_wp2_with fail
      refine (require_no _).mono ?_
      rintro e w7 ⟨g1,g2⟩;subst g2;subst g1
      go_wp2_with fail
      exact ⟨rfl,HV.out.symm,HD5.out⟩
     by_cases p2 : 1024 - ((F.natAbs.log2 + 1 : Nat) : Int) < P
     ·have HV : Hid (prodEnd l=pan 8):=HBR.out (by rw [HR2.out,decide_eq_false (show ¬ P≤1024 - ((F.natAbs.log2 + 1 : Nat) : Int) by omega),Bool.and_false])
      go_wp2_with fail
      rw [show decide (P≤1024 - ((F.natAbs.log2 : Int) + 1))=false from decide_eq_false (by omega)]
      refine (require_no _).mono ?_
      rintro e w7 ⟨g1,g2⟩;subst g2;subst g1
      go_wp2_with fail
      exact ⟨rfl,HV.out.symm,HD5.out⟩
     have HZ : Hid (prodErr l=0):=by show _=_;rw [HRF.out,HR2.out,decide_eq_true (show -1074≤P by omega),decide_eq_true (show P≤1024 - ((F.natAbs.log2 + 1 : Nat) : Int) by omega)];rfl
     have HV : Hid (prodEnd l = .returned (.float .f64 (Wm.prodVal F P))):=by show _=_;rw [HE.out,HO.out,if_pos HZ.out,if_pos HZ.out]
     have hcv : FloatKind.f64.nearest F=Wm.word (decide (F < 0)) (Wm.rungOf F.natAbs 0):=Wm.ofInt_eq F (by omega) hk53
     have hr0:=Wm.rung0 hk0 hk53
     have hrl:=Wm.rungOf_lt (e:=0) hk0 hk53 (by omega)
     have hx:=Wm.ldx_exact (decide (F < 0)) hk0 hk53 (show -1074≤P by omega) (by omega)
     have hfin : Fin (Wm.rungOf F.natAbs 0):=hrl
     go_wp2_with fail
     rw [show decide (P≤1024 - ((F.natAbs.log2 : Int) + 1))=true from decide_eq_true (by omega)]
     refine (require_yes _).mono ?_
     rintro e w7 ⟨g1,g2⟩;subst g2;subst g1
     go_wp2_with fail
     rw [show floatOfInt .f64 F=Wm.word (decide (F < 0)) (Wm.rungOf F.natAbs 0) from hcv]
     refine (ldexp_any (decide (F < 0)) (Wm.rungOf F.natAbs 0) P hfin hr0.2.2 (by omega) _).mono ?_
     rintro e w8 ⟨g1,g2⟩;subst g2;subst g1
     rw [hx]
     go_wp2_with fail
     go_ret
     exact ⟨by rw [HV.out];rfl,HD5.out⟩
end Go.Proofs.YtkplahkkmmoppaaGreatDoor
namespace Go.Proofs.YtkplahkkmmoppaaGreatDoor
open Go.RowKit
def litW (l : List UInt8) : Option Nat :=
 if l = [105,110,102] then some 9218868437227405312 else if l = [45,105,110,102] then some 18442240474082181120
 else if l = [110,97,110] then some 9221120237041090561 else if l = [48] then some 0 else if l = [45,48] then some 9223372036854775808 else none
def errW (l : List UInt8) : Int:=if (litW l).isSome then 0 else prodErr l
def valW (l : List UInt8) : Nat:=(litW l).getD (prodOf l)
theorem lit_cases (l : List UInt8) : l = [105,110,102] ∨ l = [45,105,110,102] ∨ l = [110,97,110] ∨ l = [48] ∨ l = [45,48] ∨
  ((l == [105,110,102])=false∧(l == [45,105,110,102])=false∧(l == [110,97,110])=false∧(l == [48])=false∧(l == [45,48])=false∧errW l=prodErr l∧valW l=prodOf l):=by
 by_cases h1 : l = [105,110,102]
 ·exact Or.inl h1
 by_cases h2 : l = [45,105,110,102]
 ·exact Or.inr (Or.inl h2)
 by_cases h3 : l = [110,97,110]
 ·exact Or.inr (Or.inr (Or.inl h3))
 by_cases h4 : l = [48]
 ·exact Or.inr (Or.inr (Or.inr (Or.inl h4)))
 by_cases h5 : l = [45,48]
 ·exact Or.inr (Or.inr (Or.inr (Or.inr (Or.inl h5))))
 have hl : litW l=none:=by unfold litW;rw [if_neg h1,if_neg h2,if_neg h3,if_neg h4,if_neg h5]
 refine Or.inr (Or.inr (Or.inr (Or.inr (Or.inr ⟨?_,?_,?_,?_,?_,?_,?_⟩))))
 ·exact beq_eq_false_iff_ne.2 h1
 ·exact beq_eq_false_iff_ne.2 h2
 ·exact beq_eq_false_iff_ne.2 h3
 ·exact beq_eq_false_iff_ne.2 h4
 ·exact beq_eq_false_iff_ne.2 h5
 ·unfold errW;rw [hl];rfl
 ·unfold valW;rw [hl];rfl
def parseEnd (l : List UInt8) : Ending:=if errW l=0 then .returned (.float .f64 (valW l)) else pan (errW l)
theorem parseW_any (l : List UInt8) (hl : l.length≤1000) (w : World) (hk : KOk w) :
  Calls Tryz.prog 241 #[.string ⟨l.toArray⟩] w fun e w'=>e=parseEnd l∧Below w.heap.size w w':=by
 rcases lit_cases l with rfl | rfl | rfl | rfl | rfl | ⟨h1,h2,h3,h4,h5,he,hv⟩
 ·go_enter Tryz.func241,Tryz.ntmps241
  go_wp2_with fail
  refine (inf_any _ _).mono ?_
  rintro e w1 ⟨g1,g2⟩;subst g2;subst g1
  go_wp2_with fail
  go_ret
  exact ⟨rfl,Below.refl _ _⟩
 ·go_enter Tryz.func241,Tryz.ntmps241
  go_wp2_with fail
  refine (inf_any _ _).mono ?_
  rintro e w1 ⟨g1,g2⟩;subst g2;subst g1
  go_wp2_with fail
  go_ret
  exact ⟨rfl,Below.refl _ _⟩
 ·go_enter Tryz.func241,Tryz.ntmps241
  go_wp2_with fail
  refine (nan_any _).mono ?_
  rintro e w1 ⟨g1,g2⟩;subst g2;subst g1
  go_wp2_with fail
  go_ret
  exact ⟨rfl,Below.refl _ _⟩
 ·go_enter Tryz.func241,Tryz.ntmps241
  go_wp2_with fail
  go_ret
  exact ⟨rfl,Below.refl _ _⟩
 ·go_enter Tryz.func241,Tryz.ntmps241
  go_wp2_with fail
  refine (copysign_any _ _ (by decide) (by decide) _).mono ?_
  rintro e w1 ⟨g1,g2⟩;subst g2;subst g1
  go_wp2_with fail
  go_ret
  exact ⟨rfl,Below.refl _ _⟩
 ·have HV : Hid (parseEnd l=prodEnd l):=by show _=_;unfold parseEnd prodEnd;rw [he,hv]
  clear he hv
  go_enter Tryz.func241,Tryz.ntmps241
  go_wp2_with fail
  refine (parseProduct_any l hl _ hk).mono ?_
  rintro e w1 ⟨g1,g2⟩;subst g1
  by_cases h0 : prodErr l=0
  ·have e1 : prodEnd l = .returned (.float .f64 (prodOf l)):=if_pos h0
   rw [e1] at HV
   rw [e1]
   clear e1 h0
   go_wp2_with fail
   go_ret
   exact ⟨HV.out.symm,g2⟩
  ·have e1 : prodEnd l=pan (prodErr l):=if_neg h0
   rw [e1] at HV
   rw [e1]
   clear e1 h0
   go_wp2_with fail
   exact ⟨rfl,HV.out.symm,g2⟩
theorem parseW_yes (l : List UInt8) (hl : l.length≤1000) (w : World) (hk : KOk w) (h : errW l=0) :
  Calls Tryz.prog 241 #[.string ⟨l.toArray⟩] w fun e w'=>e = .returned (.float .f64 (valW l))∧Below w.heap.size w w':=by
 have:=parseW_any l hl w hk
 unfold parseEnd at this
 rwa [if_pos h] at this
theorem parseW_no (l : List UInt8) (hl : l.length≤1000) (w : World) (hk : KOk w) (h : errW l ≠ 0) :
  Calls Tryz.prog 241 #[.string ⟨l.toArray⟩] w fun e w'=>e=pan (errW l)∧Below w.heap.size w w':=by
 have:=parseW_any l hl w hk
 unfold parseEnd at this
 rwa [if_neg h] at this
theorem parse1_panic (p : Addr) (x : Int) (n : Int) (w : World) (hc : w.cell? p=some (.int .i64 x)) (hz : w.frozen? p=false) :
  CallsD Tryz.prog 240 #[.pointer (some p)] (.panicking [{ v:=.iface 36 (.int .i64 n),recovered:=false }]) w fun e u' w' =>
   e = .returned (.tuple #[])∧u' = .panicking [{ v:=.iface 36 (.int .i64 n),recovered:=true }]∧w'=w.setCell p (.int .i64 n):=by
 refine callsD_of_wpS Tryz.func240 rfl fun c₀ cs hu=>?_
 apply wpS_region
 simp [wpOpsS,go_sem,recoverD,hu,Tryz.ntmps240]
 refine (raised_err n _).mono ?_
 rintro e w' ⟨rfl,rfl⟩
 simp [go_sem,hc,hz,bodyPostS,results,Tryz.results240]
theorem parse1_idle (p : Addr) (x : Int) (w : World) (hc : w.cell? p=some (.int .i64 x)) (hz : w.frozen? p=false) :
  CallsD Tryz.prog 240 #[.pointer (some p)] .returning w fun e u' w'=>e = .returned (.tuple #[])∧u' = .returning∧w'=w.setCell p (.int .i64 0):=by
 refine callsD_of_wpS Tryz.func240 rfl fun c₀ cs hu=>?_
 apply wpS_region
 simp [wpOpsS,go_sem,recoverD,hu,Tryz.ntmps240]
 refine (raised_nil _).mono ?_
 rintro e w' ⟨rfl,rfl⟩
 cases c₀
 simp_all [go_sem,bodyPostS,results,Tryz.results240]
def outW (l : List UInt8) : Nat:=if errW l=0 then valW l else 0
theorem parse_w (l : List UInt8) (hl : l.length≤1000) (w : World) (hw : KOk w) :
  Calls Tryz.prog 206 #[.string ⟨l.toArray⟩] w fun e w'=>e = .returned (.tuple #[.float .f64 (outW l),.int .i64 (errW l)])∧Below w.heap.size w w':=by
 have hmf : ∀ (fn : Fn) (first cap : Array Value) (w : World),(Instr.makeFunc fn first cap).run Tryz.prog w = .ok (.func fn first cap) w:=fun _ _ _ _=>rfl
 have hM : KOk (w.alloc (.cells #[.int .i64 0] 36)):=kOk_below hw ((Below.refl _ _).alloc (Nat.le_refl _) _)
 have HM:=Lib.hid hM
 clear hw hM
 by_cases h : errW l=0
 ·have H:=Lib.hid h
  have HC : Hid (outW l=valW l):=by show _=_;rw [outW,if_pos h]
  clear h
  go_enter_defers Tryz.func206,Tryz.ntmps206
  go_wp2_with fail
  refine (parseW_yes l hl _ HM.out H.out).mono ?_
  rintro e w2 ⟨rfl,hb⟩
  have hb2 : Below (w.heap.size + 1) (w.alloc (.cells #[.int .i64 0] 36)) w2:=by simpa using hb
  obtain ⟨hcell,hfro⟩:=cell_int w w2 _ _ hb2
  have HB2:=Lib.hid hb2
  clear hb hb2
  go_wp2_with fail
  refine leaves_cons (f:=240) (args:=#[.pointer (some ⟨w.heap.size,0,none⟩)]) (by simp) (by simp [go_sem]) ?_
  refine (parse1_idle ⟨w.heap.size,0,none⟩ 0 _ ?_ ?_).mono ?_
  ·simp [go_sem,hcell]
  ·simp [go_sem,hfro]
  rintro e u' w3 ⟨rfl,rfl,rfl⟩
  simp [Leaves,settle,results,Tryz.results206,go_sem,hcell]
  exact ⟨⟨by rw [HC.out],H.out.symm⟩,((below_new HB2.out).setCell (Nat.le_refl _) _).setCell (Nat.le_refl _) _⟩
 ·have H:=Lib.hid h
  have HC : Hid (outW l=0):=by show _=_;rw [outW,if_neg h]
  clear h
  go_enter_defers Tryz.func206,Tryz.ntmps206
  go_wp2_with fail
  refine (parseW_no l hl _ HM.out H.out).mono ?_
  rintro e w1 ⟨rfl,hb⟩
  have hb1 : Below (w.heap.size + 1) (w.alloc (.cells #[.int .i64 0] 36)) w1:=by simpa using hb
  obtain ⟨hcell,hfro⟩:=cell_int w w1 _ _ hb1
  have HB:=Lib.hid hb1
  clear hb hb1
  go_wp2_with fail
  refine leaves_cons (f:=240) (args:=#[.pointer (some ⟨w.heap.size,0,none⟩)]) (by simp) (by simp [go_sem]) ?_
  refine (parse1_panic ⟨w.heap.size,0,none⟩ 0 _ _ ?_ ?_).mono ?_
  ·simp [go_sem,hcell]
  ·simp [go_sem,hfro]
  rintro e u' w2 ⟨rfl,rfl,rfl⟩
  simp [Leaves,settle,results,Tryz.results206,go_sem,hcell]
  exact ⟨by rw [HC.out],(below_new HB.out).setCell (Nat.le_refl _) _⟩
end Go.Proofs.YtkplahkkmmoppaaGreatDoor
namespace Go.Proofs.YtkplahkkmmoppaaGreatDoor
open Go.RowKit Rs At Pg
def Pg.okAt (i e : Int) : Ending:=if e=0 then .returned (.tuple #[]) else panAt i e
theorem Pg.okAt_zero (i : Int) : okAt i 0 = .returned (.tuple #[]):=rfl
theorem Pg.okAt_ne {i e : Int} (h : e ≠ 0) : okAt i e=panAt i e:=if_neg h
attribute [local go_sem ↓] Go.wp_at_zero Go.wp_at_succ
theorem valueRequire_any (t : List UInt8) (i : Int) (b : Bool) (e : Int) (w : World) :
  Calls Tryz.prog 202 #[.agg #[.string ⟨t.toArray⟩,.int .i64 i],.bool b,.int .i64 e] w fun r w'=>r=(if b then .returned (.tuple #[]) else panAt i e)∧Below w.heap.size w w':=by
 obtain ⟨V,hV⟩ : ∃ V,w.alloc (.cells #[.string ⟨t.toArray⟩,.int .i64 i] 170)=V:=⟨_,rfl⟩
 have HB : Hid (Below w.heap.size w V):=alloc_low hV
 obtain ⟨c0,c1⟩:=cell_pair hV (Below.refl _ _)
 cases b
 ·go_enter Tryz.func202,Tryz.ntmps202
  go_wp2_with fail
  refine (requireAt_no _).mono ?_
  rintro _ u ⟨rfl,rfl⟩
  go_wp2_with fail
  exact ⟨rfl,rfl,HB.out⟩
 ·go_enter Tryz.func202,Tryz.ntmps202
  go_wp2_with fail
  refine (requireAt_yes _).mono ?_
  rintro _ u ⟨rfl,rfl⟩
  go_wp2_with fail
  go_end0
  exact ⟨rfl,HB.out⟩
theorem valueOK_any (t : List UInt8) (i e : Int) (w : World) :
  Calls Tryz.prog 203 #[.agg #[.string ⟨t.toArray⟩,.int .i64 i],.int .i64 e] w fun r w'=>r=okAt i e∧Below w.heap.size w w':=by
 obtain ⟨V,hV⟩ : ∃ V,w.alloc (.cells #[.string ⟨t.toArray⟩,.int .i64 i] 170)=V:=⟨_,rfl⟩
 have HB : Hid (Below w.heap.size w V):=alloc_low hV
 obtain ⟨c0,c1⟩:=cell_pair hV (Below.refl _ _)
 by_cases h0 : e=0
 ·subst h0
  rw [okAt_zero]
  go_enter Tryz.func203,Tryz.ntmps203
  go_wp2_with fail
  refine (valueRequire_any t i true 0 _).mono ?_
  rintro _ u ⟨rfl,hb⟩
  have HU : Hid (Below w.heap.size w u):=HB.out.trans (hb.mono HB.out.size)
  clear hb
  go_wp2_with fail
  go_end0
  exact ⟨rfl,HU.out⟩
 ·have d : (e == 0)=false:=beq_eq_false_iff_ne.2 h0
  rw [okAt_ne h0]
  clear h0
  go_enter Tryz.func203,Tryz.ntmps203
  go_wp2_with fail
  refine (valueRequire_any t i false e _).mono ?_
  rintro _ u ⟨rfl,hb⟩
  have HU : Hid (Below w.heap.size w u):=HB.out.trans (hb.mono HB.out.size)
  clear hb
  go_wp2_with fail
  exact ⟨rfl,rfl,HU.out⟩
theorem valueVersion_any (t : List UInt8) (i : Int) (w : World) (hw : MaxOk w) :
  Calls Tryz.prog 156 #[.agg #[.string ⟨t.toArray⟩,.int .i64 i]] w fun r w'=>r=(if Vm.check t=0 then .returned (.string ⟨(canonOf t).toArray⟩) else panAt i (Vm.check t))∧Below w.heap.size w w':=by
 obtain ⟨V,hV⟩ : ∃ V,w.alloc (.cells #[.string ⟨t.toArray⟩,.int .i64 i] 170)=V:=⟨_,rfl⟩
 have HB : Hid (Below w.heap.size w V):=alloc_low hV
 obtain ⟨c0,c1⟩:=cell_pair hV (Below.refl _ _)
 have HC:=Lib.hid (canon_any t V (maxOk_below hw HB.out))
 obtain ⟨x,hx⟩ : ∃ x,canonOf t=x:=⟨_,rfl⟩
 obtain ⟨k,hk⟩ : ∃ k,Vm.check t=k:=⟨_,rfl⟩
 rw [hx,hk] at HC
 rw [hx,hk]
 have HV:=Lib.hid hV
 clear hx hk hw
 go_enter Tryz.func156,Tryz.ntmps156
 go_wp2_with fail
 clear hV
 refine HC.out.mono ?_
 rintro _ u ⟨rfl,hb⟩
 have HU : Hid (Below w.heap.size w u):=HB.out.trans (hb.mono HB.out.size)
 clear c0 c1
 obtain ⟨c0,c1⟩:=cell_pair HV.out hb
 clear hb HC
 go_wp2_with fail
 refine (valueOK_any t i k _).mono ?_
 rintro _ u2 ⟨rfl,hb⟩
 have HU2 : Hid (Below w.heap.size w u2):=HU.out.trans (hb.mono HU.out.size)
 clear hb c0 c1
 by_cases h0 : k=0
 ·subst h0
  rw [okAt_zero]
  go_wp2_with fail
  go_ret
  exact ⟨rfl,HU2.out⟩
 ·rw [okAt_ne h0]
  have H0:=Lib.hid h0
  clear h0
  go_wp2_with fail
  exact ⟨rfl,by first | exact (if_neg H0.out).symm | rfl | rw [if_neg H0.out],HU2.out⟩
theorem valueName_any (t : List UInt8) (i : Int) (w : World) (ht : t.length≤281474976710656) :
  Calls Tryz.prog 155 #[.agg #[.string ⟨t.toArray⟩,.int .i64 i]] w fun r w'=>r=(if nameB t=true then .returned (.string ⟨t.toArray⟩) else panAt i 3)∧Below w.heap.size w w':=by
 obtain ⟨b,hb⟩ : ∃ b,w.heap.size=b:=⟨_,rfl⟩
 obtain ⟨V,hV⟩ : ∃ V,w.alloc (.cells #[.string ⟨t.toArray⟩,.int .i64 i] 170)=V:=⟨_,rfl⟩
 have HB : Hid (Below w.heap.size w V):=alloc_low hV
 have HP:=Lib.hid (fun W (h : Below V.heap.size V W)=>cell_pair hV h)
 rw [hb] at HP
 obtain ⟨c0,c1⟩:=HP.out _ (Below.refl _ _)
 have HN:=Lib.hid (fun W=>nameA_any t W (Nat.le_trans ht (by decide)))
 obtain ⟨x,hx⟩ : ∃ x,nameB t=x:=⟨_,rfl⟩
 rw [hx] at HN
 rw [hx]
 have HL : Hid (t.length≤281474976710656):=ht
 clear hx ht
 go_enter Tryz.func155,Tryz.ntmps155
 go_wp2_with fail
 have HS1 : Hid (Below V.heap.size V V.drew):=(Below.refl _ _).drew
 clear hb hV
 cases x
 ·clear c0 c1
  obtain ⟨c0,c1⟩:=HP.out _ HS1.out
  go_region_with (first
    | (go_at_call 90;refine (HN.out _).mono ?_;rintro _ u2 ⟨rfl,rfl⟩)
    | (go_at_call 202;refine (valueRequire_any t i false 3 _).mono ?_;rintro _ u3 ⟨rfl,hs⟩;have HS3:=Lib.hid hs;clear hs;refine ends_at (P:=Tryz.prog) (a:={ tmps:=#[],defers:=[] }) (w:=w) ?_))
  all_goals exact ⟨rfl,rfl,HB.out.trans ((HS1.out.trans (HS3.out.mono HS1.out.size)).mono HB.out.size)⟩
 ·go_region_held3 (fun w'=>w'.cell? ⟨b,0,none⟩=some (.string ⟨t.toArray⟩)∧w'.cell? ⟨b,1,none⟩=some (.int .i64 i))
   (first
    | exact HP.out _ HS1.out
    | exact HP.out _ (HS1.out.trans (HS3.out.mono HS1.out.size)))
   (first
    | (go_at_call 90;refine (HN.out _).mono ?_;rintro _ u2 ⟨rfl,rfl⟩)
    | (go_at_call 202;refine (valueRequire_any t i true 3 _).mono ?_;rintro _ u3 ⟨rfl,hs⟩;have HS3:=Lib.hid hs;clear hs))
  have HS4 : Hid (Below V.heap.size V u3):=HS1.out.trans (HS3.out.mono HS1.out.size)
  clear c0 c1 HS3
  obtain ⟨c0,c1⟩:=HP.out _ HS4.out
  go_wp2_with fail
  refine (clone_any t _ HL.out).mono ?_
  rintro _ u5 ⟨rfl,hb5⟩
  have HS5 : Hid (Below w.heap.size w u5):=HB.out.trans ((HS4.out.trans (hb5.mono HS4.out.size)).mono HB.out.size)
  clear hb5
  go_wp2_with fail
  go_ret
  exact ⟨rfl,HS5.out⟩
end Go.Proofs.YtkplahkkmmoppaaGreatDoor
namespace Go.Proofs.YtkplahkkmmoppaaGreatDoor
open Go.RowKit
attribute [local go_sem ↓] Go.wp_at_zero Go.wp_at_succ
theorem cell_three {w W1 u : World} {a b c : Value} {T : TypeId} (h1 : w.alloc (.cells #[a,b,c] T)=W1) (hb : Below W1.heap.size W1 u) :
  u.cell? ⟨w.heap.size,0,none⟩=some a∧u.cell? ⟨w.heap.size,1,none⟩=some b∧u.cell? ⟨w.heap.size,2,none⟩=some c∧u.frozen? ⟨w.heap.size,0,none⟩=false∧u.frozen? ⟨w.heap.size,1,none⟩=false∧u.frozen? ⟨w.heap.size,2,none⟩=false:=by
 subst h1
 have h : u.heap[w.heap.size]? = some (.cells #[a,b,c] T (0,0)):=(hb.block _ (by simp)).trans (heap_alloc_new w _)
 refine ⟨?_,?_,?_,?_,?_,?_⟩ <;> simp [World.cell?,World.frozen?,h]
def FC (b : Nat) (key val : List UInt8) (line : Int) (u : World) : Prop :=
 u.cell? ⟨b,0,none⟩=some (.string ⟨key.toArray⟩)∧u.cell? ⟨b,1,none⟩=some (.string ⟨val.toArray⟩)∧u.cell? ⟨b,2,none⟩=some (.int .i64 line) ∧
 u.cell? ⟨b + 1,0,none⟩=some (.string ⟨#[]⟩)∧u.cell? ⟨b + 1,1,none⟩=some (.string ⟨#[]⟩)∧u.cell? ⟨b + 1,2,none⟩=some (.int .i64 0)∧u.frozen? ⟨b + 1,0,none⟩=false∧u.frozen? ⟨b + 1,1,none⟩=false∧u.frozen? ⟨b + 1,2,none⟩=false
theorem fc_of {w W1 W2 u : World} {key val : List UInt8} {line : Int} (h1 : w.alloc (.cells #[.string ⟨key.toArray⟩,.string ⟨val.toArray⟩,.int .i64 line] 82)=W1) (h2 : W1.alloc (.cells #[.string ⟨#[]⟩,.string ⟨#[]⟩,.int .i64 0] 82)=W2) (hb : Below W2.heap.size W2 u) : FC w.heap.size key val line u:=by
 have hs1 : W1.heap.size=w.heap.size + 1:=by rw [← h1];simp
 have hb1 : Below W1.heap.size W1 u:=(alloc_low h2).trans (hb.mono (alloc_low h2).size)
 obtain ⟨a0,a1,a2,_⟩:=cell_three h1 hb1
 have h:=cell_three h2 hb
 rw [hs1] at h
 exact ⟨a0,a1,a2,h⟩
theorem fc3 {b : Nat} {key val : List UInt8} {line : Int} {u : World} (h : FC b key val line u) : u.cell? ⟨b,0,none⟩=some (.string ⟨key.toArray⟩)∧u.cell? ⟨b,1,none⟩=some (.string ⟨val.toArray⟩)∧u.cell? ⟨b,2,none⟩=some (.int .i64 line):=⟨h.1,h.2.1,h.2.2.1⟩
theorem fc_set {b : Nat} {key val : List UInt8} {line : Int} {u : World} (h : FC b key val line u) (x y z : Value) :
  (((u.setCell ⟨b + 1,0,none⟩ x).setCell ⟨b + 1,1,none⟩ y).setCell ⟨b + 1,2,none⟩ z).cell? ⟨b,0,none⟩=some (.string ⟨key.toArray⟩)∧(((u.setCell ⟨b + 1,0,none⟩ x).setCell ⟨b + 1,1,none⟩ y).setCell ⟨b + 1,2,none⟩ z).cell? ⟨b,1,none⟩=some (.string ⟨val.toArray⟩)∧(((u.setCell ⟨b + 1,0,none⟩ x).setCell ⟨b + 1,1,none⟩ y).setCell ⟨b + 1,2,none⟩ z).cell? ⟨b,2,none⟩=some (.int .i64 line):=by
 have far : ∀ j,(((u.setCell ⟨b + 1,0,none⟩ x).setCell ⟨b + 1,1,none⟩ y).setCell ⟨b + 1,2,none⟩ z).cell? ⟨b,j,none⟩=u.cell? ⟨b,j,none⟩:=fun j=>by
  rw [World.cell?_setCell_far _ _ _ _ (by show b + 1 ≠ b;omega),World.cell?_setCell_far _ _ _ _ (by show b + 1 ≠ b;omega),World.cell?_setCell_far _ _ _ _ (by show b + 1 ≠ b;omega)]
 exact ⟨(far 0).trans h.1,(far 1).trans h.2.1,(far 2).trans h.2.2.1⟩
theorem fc_get {b : Nat} {key val : List UInt8} {line : Int} {u : World} (h : FC b key val line u) (x y z : Value) :
  (((u.setCell ⟨b + 1,0,none⟩ x).setCell ⟨b + 1,1,none⟩ y).setCell ⟨b + 1,2,none⟩ z).cell? ⟨b + 1,0,none⟩=some x∧(((u.setCell ⟨b + 1,0,none⟩ x).setCell ⟨b + 1,1,none⟩ y).setCell ⟨b + 1,2,none⟩ z).cell? ⟨b + 1,1,none⟩=some y∧(((u.setCell ⟨b + 1,0,none⟩ x).setCell ⟨b + 1,1,none⟩ y).setCell ⟨b + 1,2,none⟩ z).cell? ⟨b + 1,2,none⟩=some z:=by
 obtain ⟨_,_,_,b0,b1,b2,_⟩:=h
 refine ⟨?_,?_,?_⟩ <;> simp [go_sem,b0,b1,b2]
theorem fClone_any (key val : List UInt8) (line : Int) (w : World) (hk : key.length≤140737488355328) (hv : val.length≤140737488355328) :
  Calls Tryz.prog 184 #[.agg #[.string ⟨key.toArray⟩,.string ⟨val.toArray⟩,.int .i64 line]] w fun e w'=>e = .returned (.agg #[.string ⟨key.toArray⟩,.string ⟨val.toArray⟩,.int .i64 line])∧Below w.heap.size w w':=by
 obtain ⟨W1,hW1⟩ : ∃ W,w.alloc (.cells #[.string ⟨key.toArray⟩,.string ⟨val.toArray⟩,.int .i64 line] 82)=W:=⟨_,rfl⟩
 obtain ⟨W2,hW2⟩ : ∃ W,W1.alloc (.cells #[.string ⟨#[]⟩,.string ⟨#[]⟩,.int .i64 0] 82)=W:=⟨_,rfl⟩
 have HFC : Hid (∀ u,Below W2.heap.size W2 u → FC w.heap.size key val line u):=fun u hb=>fc_of hW1 hW2 hb
 have hs1 : W1.heap.size=w.heap.size + 1:=by rw [← hW1];simp
 have HBW : Hid (Below w.heap.size w W2):=(alloc_low hW1).trans ((alloc_low hW2).mono (alloc_low hW1).size)
 have HK:=Lib.hid hk
 have HV:=Lib.hid hv
 clear hk hv
 go_enter Tryz.func184,Tryz.ntmps184
 go_wp2_with fail
 have HB1 : Hid (Below W2.heap.size W2 W2.drew):=(Below.refl _ _).drew
 obtain ⟨a0,a1,a2,b0,b1,b2,f0,f1,f2⟩:=HFC.out _ HB1.out
 clear hW1 hW2
 clear b0 b1 b2 f0 f1 f2
 go_region_held3 (fun w'=>w'.cell? ⟨w.heap.size,0,none⟩=some (.string ⟨key.toArray⟩)∧w'.cell? ⟨w.heap.size,1,none⟩=some (.string ⟨val.toArray⟩)∧w'.cell? ⟨w.heap.size,2,none⟩=some (.int .i64 line))
  (first
   | exact fc3 (HFC.out _ HB1.out)
   | exact fc3 (HFC.out _ HB2.out)
   | exact fc3 (HFC.out _ HB3.out)
   | exact fc_set (HFC.out _ HB3.out) _ _ _)
  (first
   | (go_at_call 53;refine (clone_any val _ (by have:=HV.out;omega)).mono ?_;rintro _ u3 ⟨rfl,hb3⟩;have HB3:=Lib.hid (HB2.out.trans (hb3.mono HB2.out.size));clear hb3;obtain ⟨_,_,_,b0,b1,b2,f0,f1,f2⟩:=HFC.out _ HB3.out)
   | (go_at_call 53;refine (clone_any key _ (by have:=HK.out;omega)).mono ?_;rintro _ u2 ⟨rfl,hb2⟩;have HB2:=Lib.hid (HB1.out.trans (hb2.mono HB1.out.size));clear hb2))
 have HBV : Hid (Below w.heap.size w (((u3.setCell ⟨w.heap.size + 1,0,none⟩ (.string ⟨key.toArray⟩)).setCell ⟨w.heap.size + 1,1,none⟩ (.string ⟨val.toArray⟩)).setCell ⟨w.heap.size + 1,2,none⟩ (.int .i64 line))) :=
  (((HBW.out.trans (HB3.out.mono HBW.out.size)).setCell (Nat.le_succ _) _).setCell (Nat.le_succ _) _).setCell (Nat.le_succ _) _
 have g:=fc_get (HFC.out _ HB3.out) (.string ⟨key.toArray⟩) (.string ⟨val.toArray⟩) (.int .i64 line)
 go_wp2_with fail
 generalize ((u3.setCell ⟨w.heap.size + 1,0,none⟩ (.string ⟨key.toArray⟩)).setCell ⟨w.heap.size + 1,1,none⟩ (.string ⟨val.toArray⟩)).setCell ⟨w.heap.size + 1,2,none⟩ (.int .i64 line)=V at *
 obtain ⟨g0,g1,g2⟩:=g
 refine bodyPost_ret (v:=.agg #[.string ⟨key.toArray⟩,.string ⟨val.toArray⟩,.int .i64 line]) ?_ rfl ⟨rfl,HBV.out⟩
 simp [results,Tryz.results184,go_sem,g0,g1,g2]
def FieldRet (w : World) (n : Int) (R : Option Sz.Fld) (e : Ending) (w' : World) : Prop :=
 Below w.heap.size w w'∧match R with
  | some f=>e = .returned (.agg #[.string ⟨f.key.toArray⟩,.string ⟨f.val.toArray⟩,.int .i64 n])
  | none=>e=panAt n 2
theorem cutMark_any (s : List UInt8) (w : World) (hm : MaxOk w) (hl : s.length≤1000000) :
  Calls Tryz.prog 181 #[.string ⟨s.toArray⟩,.string ⟨#[58,32]⟩] w fun e w'=>e = .returned (.tuple #[.string ⟨(Lib.cut s Sz.mark).1.toArray⟩,.string ⟨(Lib.cut s Sz.mark).2.1.toArray⟩,.bool (Lib.cut s Sz.mark).2.2])∧Below w.heap.size w w':=by
 obtain ⟨m,hm⟩:=hm
 exact (Tryz.strings_Cut ⟨s.toArray⟩ ⟨#[58,32]⟩ m w (by show s.length < _;omega) hm).mono fun e w' ⟨h1,n,h2⟩=>⟨h1,h2 ▸ below_drewN (Below.refl _ _) n⟩
theorem field_cut (s : List UInt8) (n : Int) : Sz.fieldP s n=if (Lib.cut s Sz.mark).2.2 && (Sz.keyB (Lib.cut s Sz.mark).1 && Sz.valB (Lib.cut s Sz.mark).2.1) then some ⟨(Lib.cut s Sz.mark).1,(Lib.cut s Sz.mark).2.1,n⟩ else none:=by
 unfold Sz.fieldP Lib.cut
 by_cases h : 0≤Lib.index s Sz.mark
 ·rw [if_pos h]
  show (if _∧_∧_ then _ else _)=if (true && _)=true then _ else _
  rw [Bool.true_and]
  show _=if (Sz.keyB (s.take (Lib.index s Sz.mark).toNat) && Sz.valB (s.drop ((Lib.index s Sz.mark).toNat + 2)))=true then some (⟨s.take (Lib.index s Sz.mark).toNat,s.drop ((Lib.index s Sz.mark).toNat + 2),n⟩ : Sz.Fld) else none
  by_cases h1 : Sz.keyB (s.take (Lib.index s Sz.mark).toNat)=true
  ·by_cases h2 : Sz.valB (s.drop ((Lib.index s Sz.mark).toNat + 2))=true
   ·rw [if_pos ⟨h,h1,h2⟩,if_pos (by rw [h1,h2];rfl)]
   ·rw [if_neg (fun hh=>h2 hh.2.2),if_neg (by rw [h1,Bool.true_and];exact h2)]
  ·rw [if_neg (fun hh=>h1 hh.2.1),if_neg (by rw [Bool.and_eq_true];exact fun hh=>h1 hh.1)]
 ·rw [if_neg (fun hh=>h hh.1),if_neg h];rfl
theorem cut_le (s : List UInt8) : (Lib.cut s Sz.mark).1.length≤s.length∧(Lib.cut s Sz.mark).2.1.length≤s.length:=by
 unfold Lib.cut
 split
 ·show (s.take (Lib.index s Sz.mark).toNat).length≤s.length∧(s.drop ((Lib.index s Sz.mark).toNat + Sz.mark.length)).length≤s.length
  rw [List.length_take,List.length_drop];omega
 ·exact ⟨Nat.le_refl _,Nat.zero_le _⟩
theorem fieldOf_any (s : List UInt8) (n : Int) (w : World) (hw : MaxOk w) (hs : s.length≤1000000) :
  Calls Tryz.prog 134 #[.string ⟨s.toArray⟩,.int .i64 n] w (FieldRet w n (Sz.fieldP s n)):=by
 obtain ⟨R,hR⟩ : ∃ R,Sz.fieldP s n=R:=⟨_,rfl⟩
 rw [hR]
 rw [field_cut] at hR
 obtain ⟨W1,hW1⟩ : ∃ W,w.alloc (.cells #[.string ⟨#[]⟩,.string ⟨#[]⟩,.int .i64 0] 82)=W:=⟨_,rfl⟩
 have HC3 : Hid (∀ u,Below W1.heap.size W1 u → u.cell? ⟨w.heap.size,0,none⟩=some (.string ⟨#[]⟩)∧u.cell? ⟨w.heap.size,1,none⟩=some (.string ⟨#[]⟩)∧u.cell? ⟨w.heap.size,2,none⟩=some (.int .i64 0)∧u.frozen? ⟨w.heap.size,0,none⟩=false∧u.frozen? ⟨w.heap.size,1,none⟩=false∧u.frozen? ⟨w.heap.size,2,none⟩=false):=fun u hb=>cell_three hW1 hb
 have HBW : Hid (Below w.heap.size w W1):=alloc_low hW1
 have hcut:=cutMark_any s W1 (maxOk_below hw HBW.out) hs
 obtain ⟨hl1,hl2⟩:=cut_le s
 obtain ⟨c,hc⟩ : ∃ c,Lib.cut s Sz.mark=c:=⟨_,rfl⟩
 obtain ⟨k,v,f⟩:=c
 rw [hc] at hR hcut hl1 hl2
 dsimp only at hR hcut hl1 hl2
 have HCUT:=Lib.hid hcut
 have HL1 : Hid (k.length≤1000000):=Nat.le_trans hl1 hs
 have HL2 : Hid (v.length≤1000000):=Nat.le_trans hl2 hs
 clear hcut hc hl1 hl2 hs hw
 cases f
 ·have HR : Hid (R=none):=hR.symm
  clear hR
  go_enter Tryz.func134,Tryz.ntmps134
  go_wp2_with fail
  clear hW1
  refine HCUT.out.mono ?_
  rintro _ u ⟨rfl,hb⟩
  have HB : Hid (Below w.heap.size w u):=HBW.out.trans (hb.mono HBW.out.size)
  clear hb
  go_wp2_with fail
  refine (requireAt_no _).mono ?_
  rintro _ z ⟨rfl,rfl⟩
  go_wp2_with fail
  exact ⟨rfl,by show FieldRet w n R _ _;rw [HR.out];exact ⟨HB.out,rfl⟩⟩
 ·cases hk : Sz.keyB k
  ·have HR : Hid (R=none):=by rw [hk] at hR;exact hR.symm
   have HK:=Lib.hid hk
   clear hR hk
   go_enter Tryz.func134,Tryz.ntmps134
   go_wp2_with fail
   clear hW1
   refine HCUT.out.mono ?_
   rintro _ u ⟨rfl,hb⟩
   have HB : Hid (Below w.heap.size w u):=HBW.out.trans (hb.mono HBW.out.size)
   clear hb
   go_wp2_with fail
   refine (isKey_any k _ HL1.out).mono ?_
   rintro _ z ⟨rfl,rfl⟩
   rw [HK.out]
   go_wp2_with fail
   refine (requireAt_no _).mono ?_
   rintro _ z ⟨rfl,rfl⟩
   go_wp2_with fail
   exact ⟨rfl,by show FieldRet w n R _ _;rw [HR.out];exact ⟨HB.out,rfl⟩⟩
  ·have HK:=Lib.hid hk
   cases hv : Sz.valB v
   ·have HR : Hid (R=none):=by rw [hk,hv] at hR;exact hR.symm
    have HV:=Lib.hid hv
    clear hR hk hv
    go_enter Tryz.func134,Tryz.ntmps134
    go_wp2_with fail
    clear hW1
    refine HCUT.out.mono ?_
    rintro _ u ⟨rfl,hb⟩
    have HB : Hid (Below w.heap.size w u):=HBW.out.trans (hb.mono HBW.out.size)
    clear hb
    go_wp2_with fail
    refine (isKey_any k _ HL1.out).mono ?_
    rintro _ z ⟨rfl,rfl⟩
    rw [HK.out]
    go_wp2_with fail
    refine (isValue_any v _ HL2.out).mono ?_
    rintro _ z ⟨rfl,rfl⟩
    rw [HV.out]
    go_wp2_with fail
    refine (requireAt_no _).mono ?_
    rintro _ z ⟨rfl,rfl⟩
    go_wp2_with fail
    exact ⟨rfl,by show FieldRet w n R _ _;rw [HR.out];exact ⟨HB.out,rfl⟩⟩
   ·have HR : Hid (R=some ⟨k,v,n⟩):=by rw [hk,hv] at hR;exact hR.symm
    have HV:=Lib.hid hv
    clear hR hk hv
    go_enter Tryz.func134,Tryz.ntmps134
    go_wp2_with fail
    clear hW1
    refine HCUT.out.mono ?_
    rintro _ u ⟨rfl,hb⟩
    have HB:=Lib.hid hb
    clear hb
    go_wp2_with fail
    refine (isKey_any k _ HL1.out).mono ?_
    rintro _ z ⟨rfl,rfl⟩
    rw [HK.out]
    go_wp2_with fail
    refine (isValue_any v _ HL2.out).mono ?_
    rintro _ z ⟨rfl,rfl⟩
    rw [HV.out]
    go_wp2_with fail
    refine (requireAt_yes _).mono ?_
    rintro _ z ⟨rfl,rfl⟩
    go_wp2_with fail
    refine (fClone_any k v n _ (Nat.le_trans HL1.out (by decide)) (Nat.le_trans HL2.out (by decide))).mono ?_
    rintro _ u3 ⟨rfl,hb3⟩
    have HB3 : Hid (Below W1.heap.size W1 u3):=HB.out.trans (hb3.mono HB.out.size)
    clear hb3
    obtain ⟨b0,b1,b2,f0,f1,f2⟩:=HC3.out u3 HB3.out
    have HBV : Hid (Below w.heap.size w (((u3.setCell ⟨w.heap.size,0,none⟩ (.string ⟨k.toArray⟩)).setCell ⟨w.heap.size,1,none⟩ (.string ⟨v.toArray⟩)).setCell ⟨w.heap.size,2,none⟩ (.int .i64 n))) :=
     (((HBW.out.trans (HB3.out.mono HBW.out.size)).setCell (Nat.le_refl _) _).setCell (Nat.le_refl _) _).setCell (Nat.le_refl _) _
    have g0 : (((u3.setCell ⟨w.heap.size,0,none⟩ (.string ⟨k.toArray⟩)).setCell ⟨w.heap.size,1,none⟩ (.string ⟨v.toArray⟩)).setCell ⟨w.heap.size,2,none⟩ (.int .i64 n)).cell? ⟨w.heap.size,0,none⟩=some (.string ⟨k.toArray⟩):=by simp [go_sem,b0]
    have g1 : (((u3.setCell ⟨w.heap.size,0,none⟩ (.string ⟨k.toArray⟩)).setCell ⟨w.heap.size,1,none⟩ (.string ⟨v.toArray⟩)).setCell ⟨w.heap.size,2,none⟩ (.int .i64 n)).cell? ⟨w.heap.size,1,none⟩=some (.string ⟨v.toArray⟩):=by simp [go_sem,b1]
    have g2 : (((u3.setCell ⟨w.heap.size,0,none⟩ (.string ⟨k.toArray⟩)).setCell ⟨w.heap.size,1,none⟩ (.string ⟨v.toArray⟩)).setCell ⟨w.heap.size,2,none⟩ (.int .i64 n)).cell? ⟨w.heap.size,2,none⟩=some (.int .i64 n):=by simp [go_sem,b2]
    go_wp2_with fail
    generalize ((u3.setCell ⟨w.heap.size,0,none⟩ (.string ⟨k.toArray⟩)).setCell ⟨w.heap.size,1,none⟩ (.string ⟨v.toArray⟩)).setCell ⟨w.heap.size,2,none⟩ (.int .i64 n)=V at *
    refine bodyPost_ret (v:=.agg #[.string ⟨k.toArray⟩,.string ⟨v.toArray⟩,.int .i64 n]) ?_ rfl ?_
    ·simp [results,Tryz.results134,go_sem,g0,g1,g2]
    ·rw [HR.out];exact ⟨HBV.out,rfl⟩
end Go.Proofs.YtkplahkkmmoppaaGreatDoor
namespace Go.Proofs.YtkplahkkmmoppaaGreatDoor.Sz
open Go.RowKit
attribute [local go_sem ↓] Go.wp_at_zero Go.wp_at_succ
theorem row_newT (w : World) (T : TypeId) (l : List (List UInt8)) (cs : Array Value) (h : cs.toList=Rg.flat encT l) : Rg.Row encT 1 (w.alloc (.cells cs T)) (some ⟨w.heap.size,0,none⟩) l:=fun _=>by
 refine ⟨_,rfl,by simp,fun i hi j v hv=>?_⟩
 have hj : j < 1:=(List.getElem?_eq_some_iff.1 hv).1
 rw [← Rg.add_j]
 exact Rg.news_new w T l cs h _ _ ((Rg.flat_get fitsT l i hi j hj).trans hv)
theorem txt_at {w : World} {A : Option Addr} {l : List (List UInt8)} (h : Rg.Row encT 1 w A l) (k : Nat) (hk : k < l.length) : ∃ ad,A=some ad∧ad.block < w.heap.size∧w.cell? (ad.add k)=some (.string ⟨l[k].toArray⟩):=by
 obtain ⟨ad,x,e,hx,hlt,hc⟩:=Rg.row_at h k hk
 refine ⟨ad,e,hlt,?_⟩
 have:=hc 0 _ rfl
 rw [if_pos rfl,Nat.mul_one] at this
 rw [hx]
 exact this
theorem flatT (l : List (List UInt8)) : Rg.flat encT l=l.map fun t=>Value.string ⟨t.toArray⟩:=by
 induction l with
 | nil=>rfl
 | cons a l ih=>show encT a ++ Rg.flat encT l=_;rw [ih];rfl
theorem piece_le (sep : List UInt8) : ∀ (k : Nat) (s : List UInt8),∀ p ∈ Lib.splitK sep 0 k s,p.length≤s.length
 | 0,s,p,hp=>by
  unfold Lib.splitK at hp
  rw [List.mem_singleton.1 hp];exact Nat.le_refl _
 | k + 1,s,p,hp=>by
  unfold Lib.splitK at hp
  split at hp
  ·rw [List.mem_singleton.1 hp];exact Nat.le_refl _
  ·rcases List.mem_cons.1 hp with e | hp
   ·rw [e];simp;omega
   ·have:=piece_le sep k _ p hp
    simp at this;omega
theorem split_any (s sep : List UInt8) (w : World) (hm : MaxOk w) (hl : s.length≤900000) (h1 : 1≤sep.length) :
  Calls Tryz.prog 180 #[.string ⟨s.toArray⟩,.string ⟨sep.toArray⟩] w fun e w'=>∃ A n,e = .returned (.slice A n n)∧(Lib.split s sep).length=n∧n≤s.length + 1∧Rg.Row encT 1 w' A (Lib.split s sep)∧Below w.heap.size w w':=by
 obtain ⟨m,hm⟩:=hm
 refine (Tryz.strings_Split ⟨s.toArray⟩ ⟨sep.toArray⟩ m w (by show s.length < _;omega) hm h1).mono ?_
 rintro e w' ⟨rfl,rfl⟩
 have hd : (Lib.splitB ⟨sep.toArray⟩ 0 (Lib.countB ⟨s.toArray⟩ ⟨sep.toArray⟩) ⟨s.toArray⟩).map (·.data.toList)=Lib.split s sep:=Lib.splitB_data _ _ _ _
 have hn:=Lib.splitB_all ⟨sep.toArray⟩ h1 0 (Lib.countB ⟨s.toArray⟩ ⟨sep.toArray⟩) ⟨s.toArray⟩ rfl
 have hc:=Lib.countB_le ⟨sep.toArray⟩ h1 s.length ⟨s.toArray⟩ (Nat.le_refl _)
 refine ⟨_,_,rfl,by rw [← hd,List.length_map,hn],Nat.succ_le_succ hc,row_newT w _ _ _ ?_,(Below.refl _ _).alloc (Nat.le_refl _) _⟩
 rw [flatT,← hd,List.map_map]
 rfl
theorem row_front {w : World} {A : Option Addr} {l : List (List UInt8)} (h : Rg.Row encT 1 w A l) : Rg.Row encT 1 w A l.dropLast:=fun h0=>by
 rw [List.length_dropLast] at h0
 obtain ⟨a,e,hl,hc⟩:=h (by omega)
 refine ⟨a,e,hl,fun i hi=>?_⟩
 rw [List.getElem_dropLast]
 exact hc i (by rw [List.length_dropLast] at hi;omega)
theorem line_le {s p : List UInt8} (h : p ∈ linesL s) : p.length≤s.length:=piece_le [10] _ _ p (List.dropLast_subset _ h)
theorem linesOf_any (s : List UInt8) (w : World) (hw : MaxOk w) (hs : s.length≤100000) :
  Calls Tryz.prog 131 #[.string ⟨s.toArray⟩] w fun e w'=>∃ A n c,e = .returned (.slice A n c)∧(linesL s).length=n∧n≤s.length∧Rg.Row encT 1 w' A (linesL s)∧Below w.heap.size w w':=by
 have hc:=split_any s [10] w hw (by omega) (by decide)
 have hns:=split_some s
 have HL : Hid ((linesL s).length=(Lib.split s [10]).length - 1):=by show _=_;unfold linesL;rw [List.length_dropLast]
 have HF : Hid (∀ (u : World) (A : Option Addr),Rg.Row encT 1 u A (Lib.split s [10]) → Rg.Row encT 1 u A (linesL s)):=fun u A h=>row_front h
 have HC:=Lib.hid hc
 have HNS : Hid (1≤(Lib.split s [10]).length):=List.length_pos_iff.2 hns
 clear hc hns
 go_enter Tryz.func131,Tryz.ntmps131
 go_wp2_with fail
 refine HC.out.mono ?_
 rintro _ u ⟨A,n,rfl,hn,hnl,hrow,hb⟩
 have h1 : 1≤n:=by rw [← hn];exact HNS.out
 have HN:=Lib.hid hn
 have HROW:=Lib.hid (HF.out _ _ hrow)
 have HB:=Lib.hid hb
 clear hn hrow hb
 have i0 : (0 : Int)≤(n : Int) - 1:=by omega
 have i1 : (n : Int) - 1≤(n : Int):=by omega
 have i2 : ((n : Int) - 1).toNat=n - 1:=by omega
 go_wp2_with fail
 go_ret
 exact ⟨A,_,_,rfl,by rw [HL.out,HN.out],by omega,HROW.out,HB.out⟩
end Go.Proofs.YtkplahkkmmoppaaGreatDoor.Sz
namespace Go.Proofs.YtkplahkkmmoppaaGreatDoor.Sz
open Go.RowKit Go.Maps
attribute [local go_sem ↓] Go.wp_at_zero Go.wp_at_succ
def encF (f : Fld) : List Value:=[.string ⟨f.key.toArray⟩,.string ⟨f.val.toArray⟩,.int .i64 f.line]
theorem fitsF : Rg.Fits encF 3:=⟨fun _=>rfl,fun x u hu=>by
 simp only [encF,List.mem_cons,List.not_mem_nil,or_false] at hu
 rcases hu with rfl | rfl | rfl <;> rfl⟩
theorem sliceF : Rg.SliceT Tryz.prog encF 3 42 82:=⟨fitsF,by decide,by kernel_rfl,Rg.info_of (z:=.agg #[.string ByteArray.empty,.string ByteArray.empty,.int .i64 0]) (b:=40) (by kernel_rfl) (by rfl) (by decide)⟩
theorem sliceE : Rg.SliceT Tryz.prog encO 1 79 42:=⟨fitsO,by decide,by kernel_rfl,Rg.info_of (z:=.slice none 0 0) (b:=24) (by kernel_rfl) (by rfl) (by decide)⟩
theorem keyLaw : Keyed Tryz.prog 9:=string_keyed Tryz.underlying9
theorem zeroU (w : World) : (zeroValue 241).run Tryz.prog w = .ok (.agg #[]) w:=by kernel_rfl
def KSet (w : World) (b : Nat) (ks : List (List UInt8)) : Prop:=∃ (n : Nat) (D : DataW Unit),w.ownsMap Tryz.prog 9 unitElem b n D∧n≤ks.length∧∀ k : List UInt8,k.length≤1000000 → Maps.has D (.string k)=ks.contains k
theorem kset_made (w : World) : KSet (w.alloc (.map #[] 0)) w.heap.size []:=⟨0,_,World.ownsMap_made w _ _ _,Nat.le_refl _,fun _k _=>rfl⟩
theorem keyOf_txt {k : List UInt8} (hk : k.length≤140737488355328) : keyOf Tryz.prog 9 (.string ⟨k.toArray⟩)=some (.string k):=by
 have:=WideMaps.keyOf_string_mk (P:=Tryz.prog) (k:=9) Tryz.underlying9 (s:=⟨k.toArray⟩) (by show k.toArray.size≤_;rw [List.size_toArray];unfold maxLen;omega)
 exact this
theorem kset_look {w : World} {b : Nat} {ks : List (List UInt8)} (h : KSet w b ks) {k : List UInt8} (hk : k.length≤1000000) :
  (Instr.lookup 195 (.map (some b)) (.string ⟨k.toArray⟩) true).run Tryz.prog w = .ok (.tuple #[.agg #[],.bool (ks.contains k)]) w:=by
 obtain ⟨n,D,hown,_,hh⟩:=h
 obtain ⟨v,ps,hrun,hv⟩:=hown.look_ok keyLaw Tryz.underlying195 (zeroU w) unitElem_mk (keyOf_txt (Nat.le_trans hk (by decide)))
 obtain ⟨rfl,_⟩:=unitElem_inv hv
 rw [hrun,hh k hk]
theorem kset_put {w : World} {b : Nat} {ks : List (List UInt8)} (h : KSet w b ks) {k : List UInt8} (hk : k.length≤1000000) (hl : ks.length≤1000000) :
  ∃ w',(Instr.mapUpdate 195 (.map (some b)) (.string ⟨k.toArray⟩) (.agg #[])).run Tryz.prog w = .ok () w'∧KSet w' b (ks ++ [k])∧w.mapTurned w' b:=by
 obtain ⟨n,D,hown,hn,hh⟩:=h
 obtain ⟨w',hrun,hown',ht⟩:=hown.store keyLaw Tryz.underlying195 (by unfold maxLen;omega) (keyOf_txt (Nat.le_trans hk (by decide))) (val:=.agg #[]) unitElem_mk
 refine ⟨w',hrun,⟨n + 1,_,hown',by rw [List.length_append];simp;omega,fun x hx=>?_⟩,ht⟩
 by_cases e : x=k
 ·subst e
  rw [Maps.has_put_same hown.isMap (by trivial)]
  simp
 ·rw [Maps.has_put_other (by intro h;exact e (Lit.string.inj h)),hh x hx]
  simp [e]
theorem kset_below {w w' : World} {b B : Nat} {ks : List (List UInt8)} (h : KSet w b ks) (hb : Below B w w') (hlt : b < B) : KSet w' b ks:=by
 obtain ⟨n,D,⟨es,clock,hh,r⟩,h2⟩:=h
 exact ⟨n,D,⟨es,clock,(hb.block b hlt).trans hh,r⟩,h2⟩
theorem kset_kept {w w' : World} {b : Nat} {ks : List (List UInt8)} (h : KSet w b ks) (hb : w'.heap[b]? = w.heap[b]?) : KSet w' b ks:=by
 obtain ⟨n,D,⟨es,clock,hh,r⟩,h2⟩:=h
 exact ⟨n,D,⟨es,clock,hb.trans hh,r⟩,h2⟩
end Go.Proofs.YtkplahkkmmoppaaGreatDoor.Sz

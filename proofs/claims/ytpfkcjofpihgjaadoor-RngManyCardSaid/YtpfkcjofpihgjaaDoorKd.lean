/- What each statement of the ranges looks at first. -/
import Derived.Test.YtpfkcjofpihgjaaDoorQr
namespace Go.Proofs.YtpfkcjofpihgjaaDoor
open Go.RowKit Rs

instance pDec : DecidableEq (Rm.P Cut) := fun a b => decidable_of_iff (a.lo = b.lo ∧ a.hi = b.hi) ⟨fun h => by cases a; cases b; simp_all, fun h => by rw [h]; exact ⟨rfl, rfl⟩⟩
def kA : List (Rm.P Cut) := [{ lo := .pos [49, 46, 48] false, hi := .top }]
def kB : List (Rm.P Cut) := [{ lo := .bot, hi := .pos [50] false }]
def kC : List (Rm.P Cut) := [{ lo := .pos [49, 46, 48] false, hi := .pos [50] false }]
def kN : List (Rm.P Cut) := [{ lo := .bot, hi := .pos [49, 46, 48] false }, { lo := .pos [50] false, hi := .top }]
def kM : List (Rm.P Cut) := [{ lo := .pos [49] true, hi := .pos [51] false }]
def kK : List (Rm.P Cut) := [{ lo := .bot, hi := .pos [53] false }, { lo := .pos [53] true, hi := .top }]
theorem kf1 : ofR [62, 61] [48, 49, 46, 48] = kA ∧ ofE [62, 61] [48, 49, 46, 48] = 0 := by decide +kernel
theorem kf2 : ofR [60] [50] = kB ∧ ofE [60] [50] = 0 := by decide +kernel
theorem kf3 : ofR [126] [50] = [] ∧ ofE [126] [50] = 2 := by decide +kernel
theorem kf4 : ofR [61] [120] = [] ∧ ofE [61] [120] = 5 := by decide +kernel
theorem kf5 : andR kA kB = kC := by decide +kernel
theorem kf6 : notR kC = kN := by decide +kernel
theorem kf7 : nrmR [⟨[50], [51], true, false⟩, ⟨[49], [50], false, false⟩] = kM ∧ normE 0 [⟨[50], [51], true, false⟩, ⟨[49], [50], false, false⟩] = 0 := by decide +kernel
theorem kf8 : nrmR [⟨[50], [50], true, false⟩] = [] ∧ normE 0 [⟨[50], [50], true, false⟩] = 7 := by decide +kernel
theorem kf9 : ofR [33, 61] [53] = kK ∧ ofE [33, 61] [53] = 0 := by decide +kernel
theorem kf10 : orR kC kN = allR := by decide +kernel
theorem kf11 : andR kC kN = [] := by decide +kernel
theorem kgA : Rs.Good kA := kf1.1 ▸ ofR_good _ _
theorem kgB : Rs.Good kB := kf2.1 ▸ ofR_good _ _
theorem kgC : Rs.Good kC := kf5 ▸ goodA kgA kgB
theorem kgN : Rs.Good kN := kf6 ▸ goodN kgC
theorem kgK : Rs.Good kK := kf9.1 ▸ ofR_good _ _
set_option maxRecDepth 100000 in
set_option maxHeartbeats 8000000 in
theorem known3_any (w : World) (hw : MaxOk w) :
    Calls Tryd.prog 5 #[] w fun e w' => e = .returned (.bool true) ∧ Below w.heap.size w w' := by
  have HS0 : Hid (St w w []) := ⟨hw, Below.refl _ _, fun x hx => (by cases hx)⟩
  clear hw
  go_enter Tryd.func5, Tryd.ntmps5
  go_wp2_with fail
  refine (s_of HS0.out [62, 61] [48, 49, 46, 48] kA 0 kf1.1 kf1.2).mono ?_
  rintro _ u1 ⟨C1, n1, d1, rfl, hs⟩
  have HS1 := Lib.hid hs
  clear hs HS0
  go_wp2_with fail
  refine (s_of HS1.out [60] [50] kB 0 kf2.1 kf2.2).mono ?_
  rintro _ u2 ⟨C2, n2, d2, rfl, hs⟩
  have HS2 := Lib.hid hs
  clear hs HS1
  go_wp2_with fail
  refine (s_of HS2.out [126] [50] [] 2 kf3.1 kf3.2).mono ?_
  rintro _ u3 ⟨C3, n3, d3, rfl, hs⟩
  have HS3 := Lib.hid hs
  clear hs HS2
  go_wp2_with fail
  refine (s_of HS3.out [61] [120] [] 5 kf4.1 kf4.2).mono ?_
  rintro _ u4 ⟨C4, n4, d4, rfl, hs⟩
  have HS4 := Lib.hid hs
  clear hs HS3
  go_wp2_with fail
  refine (s_and HS4.out 3 2 rfl rfl kgA kgB _ _ kC kf5).mono ?_
  rintro _ u5 ⟨C5, n5, d5, rfl, hs⟩
  have HS5 := Lib.hid hs
  clear hs HS4
  go_wp2_with fail
  refine (s_not HS5.out 0 rfl kgC _ kN kf6).mono ?_
  rintro _ u6 ⟨C6, n6, d6, rfl, hs⟩
  have HS6 := Lib.hid hs
  clear hs HS5
  go_wp2_with fail
  refine (s_norm (st_lit HS6.out _ [⟨[50], [51], true, false⟩, ⟨[49], [50], false, false⟩] _ (by rfl) (by rfl)) 0 rfl (by decide) _ kM 0 kf7.1 kf7.2).mono ?_
  rintro _ u7 ⟨C7, n7, d7, rfl, hs⟩
  have HS7 := Lib.hid hs
  clear hs HS6
  go_wp2_with fail
  refine (s_norm (st_lit HS7.out _ [⟨[50], [50], true, false⟩] _ (by rfl) (by rfl)) 0 rfl (by decide) _ [] 7 kf8.1 kf8.2).mono ?_
  rintro _ u8 ⟨C8, n8, d8, rfl, hs⟩
  have HS8 := Lib.hid hs
  clear hs HS7
  go_wp2_with fail
  refine (s_of HS8.out [33, 61] [53] kK 0 kf9.1 kf9.2).mono ?_
  rintro _ u9 ⟨C9, n9, d9, rfl, hs⟩
  have HS9 := Lib.hid hs
  clear hs HS8
  obtain rfl : n9 = 2 := (st_row HS9.out 0 rfl).2.symm
  go_wp2_with fail
  refine (s_ofr HS9.out 6 rfl (by have := (st_row HS9.out 6 rfl).2; simp [kC] at this; omega) _).mono ?_
  rintro _ u10 ⟨C10, n10, d10, rfl, hs⟩
  have HS10 := Lib.hid hs
  clear hs HS9
  go_wp2_with fail
  refine (s_sameRange (st_lit HS10.out _ [⟨[49, 46, 48], [50], true, false⟩] _ (by rfl) (by rfl)) 1 0 rfl rfl (by have := (st_row HS10.out 0 rfl).2; simp [kC] at this; omega) (by decide) _ _ true (by decide +kernel)).mono ?_
  rintro _ u11 ⟨rfl, hs⟩
  have HS11 := Lib.hid hs
  clear hs HS10
  go_wp2_with fail
  refine (s_ofr HS11.out 7 rfl (by have := (st_row HS11.out 7 rfl).2; simp [kN] at this; omega) _).mono ?_
  rintro _ u12 ⟨C12, n12, d12, rfl, hs⟩
  have HS12 := Lib.hid hs
  clear hs HS11
  go_wp2_with fail
  refine (s_sameRange (st_lit HS12.out _ [⟨[], [49, 46, 48], false, false⟩, ⟨[50], [], true, false⟩] _ (by rfl) (by rfl)) 1 0 rfl rfl (by have := (st_row HS12.out 0 rfl).2; simp [kN] at this; omega) (by decide) _ _ true (by decide +kernel)).mono ?_
  rintro _ u13 ⟨rfl, hs⟩
  have HS13 := Lib.hid hs
  clear hs HS12
  go_wp2_with fail
  refine (s_ofr HS13.out 7 rfl (by have := (st_row HS13.out 7 rfl).2; simp [kM] at this; omega) _).mono ?_
  rintro _ u14 ⟨C14, n14, d14, rfl, hs⟩
  have HS14 := Lib.hid hs
  clear hs HS13
  go_wp2_with fail
  refine (s_sameRange (st_lit HS14.out _ [⟨[49], [51], false, false⟩] _ (by rfl) (by rfl)) 1 0 rfl rfl (by have := (st_row HS14.out 0 rfl).2; simp [kM] at this; omega) (by decide) _ _ true (by decide +kernel)).mono ?_
  rintro _ u15 ⟨rfl, hs⟩
  have HS15 := Lib.hid hs
  clear hs HS14
  go_wp2_with fail
  refine (s_has HS15.out 12 rfl kgC _ [49, 46, 53] (by decide +kernel) true (by decide +kernel)).mono ?_
  rintro _ u16 ⟨rfl, hs⟩
  have HS16 := Lib.hid hs
  clear hs HS15
  go_wp2_with fail
  refine (s_has HS16.out 12 rfl kgC _ [50] (by decide +kernel) false (by decide +kernel)).mono ?_
  rintro _ u17 ⟨rfl, hs⟩
  have HS17 := Lib.hid hs
  clear hs HS16
  go_wp2_with fail
  refine (s_has HS17.out 11 rfl kgN _ [50] (by decide +kernel) true (by decide +kernel)).mono ?_
  rintro _ u18 ⟨rfl, hs⟩
  have HS18 := Lib.hid hs
  clear hs HS17
  go_wp2_with fail
  refine (s_has HS18.out 6 rfl kgK _ [53, 46, 48, 126, 48] (by decide +kernel) true (by decide +kernel)).mono ?_
  rintro _ u19 ⟨rfl, hs⟩
  have HS19 := Lib.hid hs
  clear hs HS18
  go_wp2_with fail
  refine (s_has HS19.out 6 rfl kgK _ [53] (by decide +kernel) false (by decide +kernel)).mono ?_
  rintro _ u20 ⟨rfl, hs⟩
  have HS20 := Lib.hid hs
  clear hs HS19
  go_wp2_with fail
  refine (s_check HS20.out 6 rfl (by decide) _ 0 (by decide +kernel)).mono ?_
  rintro _ u21 ⟨rfl, hs⟩
  have HS21 := Lib.hid hs
  clear hs HS20
  go_wp2_with fail
  refine (s_or HS21.out 12 11 rfl rfl kgC kgN _ _ allR kf10).mono ?_
  rintro _ u22 ⟨C22, n22, d22, rfl, hs⟩
  have HS22 := Lib.hid hs
  clear hs HS21
  go_wp2_with fail
  refine (s_all HS22.out allR rfl).mono ?_
  rintro _ u23 ⟨C23, n23, d23, rfl, hs⟩
  have HS23 := Lib.hid hs
  clear hs HS22
  go_wp2_with fail
  refine (s_same HS23.out 1 0 rfl rfl (by have := (st_row HS23.out 1 rfl).2; have e : (allR.map spOf).length = 1 := rfl; omega) (by have := (st_row HS23.out 0 rfl).2; have e : (allR.map spOf).length = 1 := rfl; omega) _ _ true (by decide +kernel)).mono ?_
  rintro _ u24 ⟨rfl, hs⟩
  have HS24 := Lib.hid hs
  clear hs HS23
  go_wp2_with fail
  refine (s_and HS24.out 14 13 rfl rfl kgC kgN _ _ [] kf11).mono ?_
  rintro _ u25 ⟨C25, n25, d25, rfl, hs⟩
  have HS25 := Lib.hid hs
  clear hs HS24
  obtain rfl : n25 = 0 := (st_row HS25.out 0 rfl).2.symm
  go_wp2_with fail
  refine (s_all HS25.out allR rfl).mono ?_
  rintro _ u26 ⟨C26, n26, d26, rfl, hs⟩
  have HS26 := Lib.hid hs
  clear hs HS25
  go_wp2_with fail
  refine (s_has HS26.out 0 rfl goodAll _ [48] (by decide +kernel) true (by decide +kernel)).mono ?_
  rintro _ u27 ⟨rfl, hs⟩
  have HS27 := Lib.hid hs
  clear hs HS26
  go_wp2_with fail
  go_ret
  exact ⟨rfl, HS27.out.2.1⟩
theorem s_known3 {w0 u : World} {L : List Ent} (h : St w0 u L) : Calls Tryd.prog 5 #[] u (BoolRet w0 L true) :=
  (known3_any u (st_max h)).mono fun _ _ hr => ⟨hr.1, st_step h hr.2⟩
end Go.Proofs.YtpfkcjofpihgjaaDoor

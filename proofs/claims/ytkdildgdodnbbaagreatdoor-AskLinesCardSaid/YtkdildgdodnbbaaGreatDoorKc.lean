/- The reference's functions of ranges over a law's state. -/
import Derived.Test.YtkdildgdodnbbaaGreatDoorQr
import Derived.Test.YtkdildgdodnbbaaGreatDoorJi
namespace Go.Proofs.YtkdildgdodnbbaaGreatDoor
open Go.RowKit Rs
theorem refOf_all (s v : List UInt8) (w : World) : Calls Tryz.prog 68 #[.string ⟨s.toArray⟩, .string ⟨v.toArray⟩] w (OfRet w ((ofR s v).map spOf) (ofE s v)) := by
  unfold ofR ofE
  cases hs : sgnOf s with
  | none => exact refOf_no s v w (sgnOf_none hs)
  | some i =>
    obtain ⟨hi, rfl⟩ := sgnOf_some hs
    by_cases hv : Vm.check v = 0
    · simp only [hv, if_true]
      match i, hi with
      | 0, _ => exact refOf_good0 v w hv
      | 1, _ => exact refOf_good1 v w hv
      | 2, _ => exact refOf_good2 v w hv
      | 3, _ => exact refOf_good3 v w hv
      | 4, _ => exact refOf_good4 v w hv
      | 5, _ => exact refOf_good5 v w hv
    · simp only [hv, if_false]
      match i, hi with
      | 0, _ => exact refOf_bad0 v w hv
      | 1, _ => exact refOf_bad1 v w hv
      | 2, _ => exact refOf_bad2 v w hv
      | 3, _ => exact refOf_bad3 v w hv
      | 4, _ => exact refOf_bad4 v w hv
      | 5, _ => exact refOf_bad5 v w hv
section
variable {w0 u u' : World} {L : List Ent} {A B : Option Addr} {n m : Nat}
theorem s_refOf (h : St w0 u L) (s v : List UInt8) (R : List (Rm.P Cut)) (k : Int) (hR : ofR s v = R) (hk : ofE s v = k) : Calls Tryz.prog 68 #[.string ⟨s.toArray⟩, .string ⟨v.toArray⟩] u (RowErr w0 L (R.map spOf) k) := by
  subst hR hk
  exact (refOf_all s v u).mono fun _ _ => ret_err h
theorem s_refAnd (h : St w0 u L) (i j : Nat) {a b : List (Rm.P Cut)} (hi : L[i]? = some ⟨A, n, a.map spOf⟩) (hj : L[j]? = some ⟨B, m, b.map spOf⟩) (ga : Rs.Good a) (gb : Rs.Good b) (ca cb : Nat) (R : List (Rm.P Cut)) (hR : andR a b = R) :
    Calls Tryz.prog 69 #[.slice A n ca, .slice B m cb] u (RowRet w0 L (R.map spOf)) := by
  subst hR
  obtain ⟨x1, x2⟩ := good_len ga (st_row h i hi).2
  obtain ⟨y1, y2⟩ := good_len gb (st_row h j hj).2
  exact (refAnd_any A B n m ca cb a b u x1 y1 (st_row h i hi).1 (st_row h j hj).1 ga.2.1 gb.2.1 ⟨x2, y2⟩).mono fun _ _ => ret_row h
theorem s_refOr (h : St w0 u L) (i j : Nat) {a b : List (Rm.P Cut)} (hi : L[i]? = some ⟨A, n, a.map spOf⟩) (hj : L[j]? = some ⟨B, m, b.map spOf⟩) (ga : Rs.Good a) (gb : Rs.Good b) (ca cb : Nat) (R : List (Rm.P Cut)) (hR : orR a b = R) :
    Calls Tryz.prog 70 #[.slice A n ca, .slice B m cb] u (RowRet w0 L (R.map spOf)) := by
  subst hR
  obtain ⟨x1, x2⟩ := good_len ga (st_row h i hi).2
  obtain ⟨y1, y2⟩ := good_len gb (st_row h j hj).2
  exact (refOr_any A B n m ca cb a b u x1 y1 (st_row h i hi).1 (st_row h j hj).1 ga.2.1 gb.2.1 ⟨by omega, by omega⟩).mono fun _ _ => ret_row h
theorem s_checkRange (h : St w0 u L) (i : Nat) {l : List Sp} (hi : L[i]? = some ⟨A, n, l⟩) (hn : n ≤ 1000) (ca : Nat) (k : Int) (hk : checkR l = k) :
    Calls Tryz.prog 44 #[.slice A n ca] u (IntRet w0 L k) :=
  (checkRange_any A n ca l u (st_row h i hi).2 (st_row h i hi).1 hn).mono fun _ _ => ret_int h hk
end
end Go.Proofs.YtkdildgdodnbbaaGreatDoor

/- The program's parse: pieces of a text. -/
import Derived.Test.YtaghhdgiegcimaaDoorWi
namespace Go.Proofs.YtaghhdgiegcimaaDoor
open Go.RowKit

def lastOdd (l : List UInt8) : Bool := (((l.getLast?.getD 0).toNat : Int) - 48) % 2 == 1
set_option maxHeartbeats 800000 in
theorem isOdd_any (l : List UInt8) (h : l ≠ []) (hl : l.length ≤ 200) (w : World) :
    Calls Tryd.prog 115 #[.string ⟨l.toArray⟩] w fun e w' => e = .returned (.bool (lastOdd l)) ∧ w = w' := by
  have hpos : 0 < l.length := List.length_pos_iff.2 h
  obtain ⟨c, hc, hc'⟩ := byte_at l (l.length - 1) (by omega)
  have HL : Hid (lastOdd l = (((c.toNat : Int) - 48) % 2 == 1)) := by
    show _ = _
    rw [lastOdd, List.getLast?_eq_some_getLast h, List.getLast_eq_getElem, hc']; rfl
  clear hc'
  go_enter Tryd.func115, Tryd.ntmps115
  go_wp2_with fail
  go_ret
  exact ⟨by rw [HL.out]; rfl, rfl⟩
set_option maxHeartbeats 800000 in
theorem isDecimal_any (l : List UInt8) (hl : l.length ≤ 200) (w : World) :
    Calls Tryd.prog 114 #[.string ⟨l.toArray⟩] w fun e w' => e = .returned (.bool (Wm.decB l)) ∧ Below w.heap.size w w' := by
  have HB : Hid (Wm.decB l = if (Wm.mgn l).isEmpty || (Wm.mgn l).head? == some 48 then l == [48] else (Vm.undigs (Wm.mgn l)).isEmpty) := rfl
  have hd := Wm.mgn_le l
  go_enter Tryd.func114, Tryd.ntmps114
  go_wp2_with fail
  refine (Tryd.strings_TrimPrefix _ _ _).mono ?_
  rintro e w' ⟨g1, g2⟩; subst g1 g2
  rw [show Lib.trimPrefix (ByteArray.data ⟨l.toArray⟩).toList (ByteArray.data ⟨#[45]⟩).toList = Wm.mgn l from Wm.mgn_eq l]
  generalize Wm.mgn l = d at *
  by_cases h0 : d = []
  · subst h0
    have HV : Hid (Wm.decB l = (l == [48])) := by show _ = _; rw [HB.out]; rfl
    clear HB
    go_wp2_with fail
    go_ret
    exact ⟨by rw [HV.out]; rfl, Below.refl _ _⟩
  · have hpos : 0 < d.length := List.length_pos_iff.2 h0
    have he : d.isEmpty = false := by cases d <;> simp at *
    obtain ⟨c, hc, hc'⟩ := byte_at d 0 hpos
    have hh : (d.head? == some 48) = ((c.toNat : Int) == 48) := by
      cases d with
      | nil => exact absurd rfl h0
      | cons x t =>
        have : x = c := hc'
        subst this
        rw [Bool.eq_iff_iff]
        simp only [List.head?_cons, beq_iff_eq, Option.some.injEq]
        exact ⟨fun h => by rw [h]; rfl, fun h => UInt8.toNat.inj (show x.toNat = 48 by omega)⟩
    rw [he, hh, Bool.false_or] at HB
    clear hc' hh h0
    cases h48 : ((c.toNat : Int) == 48)
    · have HV : Hid (Wm.decB l = (Vm.undigs d).isEmpty) := by show _ = _; rw [HB.out, h48]; rfl
      clear HB
      go_wp2_with fail
      refine (trimDigits_any d _).mono ?_
      rintro e w1 ⟨g1, g2⟩; subst g1
      obtain ⟨u, hu⟩ : ∃ u, Vm.undigs d = u := ⟨_, rfl⟩
      rw [hu] at HV
      rw [hu]
      have HD := Lib.hid g2
      clear hu g2
      go_wp2_with fail
      go_ret
      exact ⟨by rw [HV.out]; rfl, HD.out⟩
    · have HV : Hid (Wm.decB l = (l == [48])) := by show _ = _; rw [HB.out, h48]; rfl
      clear HB
      go_wp2_with fail
      go_ret
      exact ⟨by rw [HV.out]; rfl, Below.refl _ _⟩
set_option maxHeartbeats 800000 in
theorem number_any (l : List UInt8) (hl : l.length ≤ 200) (hp : Wm.plain (Wm.mgn l)) (w : World) (hk : KOk w) :
    Calls Tryd.prog 116 #[.string ⟨l.toArray⟩] w fun e w' => e = .returned (.int .i64 (Wm.nmb l)) ∧ Below w.heap.size w w' := by
  obtain ⟨tp, p, hv⟩ := hk.2.2.2
  have hpn := Wm.parse_nmb l hp
  generalize Wm.nmb l = v at *
  rcases hpn with h1 | ⟨h1, h2⟩
  · go_enter Tryd.func116, Tryd.ntmps116
    go_wp2_with fail
    refine (Tryd.strconv_ParseInt_10_at64_ok ⟨l.toArray⟩ (by show l.toArray.size ≤ _; simp; omega) v h1 _).mono ?_
    rintro e w1 ⟨g1, g2⟩; subst g1
    go_wp2_with fail
    go_ret
    refine ⟨rfl, ?_⟩
    rcases g2 with rfl | ⟨t, rfl⟩
    · exact Below.refl _ _
    · exact Lib.bytesWorld_below _ _ _
  · go_enter Tryd.func116, Tryd.ntmps116
    go_wp2_with fail
    refine (Tryd.strconv_ParseInt_10_at64_range_var ⟨l.toArray⟩ (by show l.toArray.size ≤ _; simp; omega) h1 tp p _ hv).mono ?_
    rintro e w1 ⟨N, g1, g2, g3, g4⟩; subst g1
    rw [show Lib.intSat 64 (ByteArray.data ⟨l.toArray⟩).toList = v from h2]
    go_wp2_with fail
    go_ret
    exact ⟨rfl, g4⟩
end Go.Proofs.YtaghhdgiegcimaaDoor

/- What is written of a list of entries; Get, Same: the program's, walked. -/
import Derived.Test.YtojhapnodjabdaaGreatDoorCi
import Derived.Test.YtojhapnodjabdaaGreatDoorCk
import Derived.Test.YtojhapnodjabdaaGreatDoorShelfW
import Derived.Laws.StructEq
import Derived.BigQuiet
namespace Go.Proofs.YtojhapnodjabdaaGreatDoor
open Go.RowKit Lk At
attribute [local go_sem ↓] Go.wp_at_zero Go.wp_at_succ
/-- What the builder in block w.heap.size holds, and that all that was there is as it was. -/
def Lk.Bld (w : World) (t : List UInt8) (u : World) : Prop := Lib.IsBuilderF 82 5 w.heap.size w.heap.size (Lib.byteCells t) u ∧ Below w.heap.size w u
theorem Lk.bld_new {w W1 : World} (h : w.alloc (.cells #[.pointer none, .slice none 0 0] 82) = W1) : Bld w [] W1 := by
  subst h
  exact ⟨Lib.IsBuilderF.of (Lib.fresh_isBuilder _ _ w), (Below.refl _ _).alloc (Nat.le_refl _) _⟩
theorem Lk.byteCells_app (t s : List UInt8) : Lib.byteCells t ++ Lib.strCells ⟨s.toArray⟩ = Lib.byteCells (t ++ s) := by
  unfold Lib.byteCells Lib.strCells
  simp
theorem Lk.bld_at {u u' : World} {B b : Nat} {p : Value} {bs : List Value} (h : Lib.BuilderAtF 82 5 B b p bs u) (hb : Below u.heap.size u u') : Lib.BuilderAtF 82 5 B b p bs u' := by
  have hlt := h.lt
  obtain ⟨hB, v, hk, hown, hne⟩ := h
  refine ⟨hB, v, (hb.block _ hlt).trans hk, hown.kept (row := none) ⟨hb.os, hb.tape, hb.output, hb.size, fun k hk _ => hb.block k hk⟩ ?_, hne⟩
  cases v.ownBlock with
  | none => exact Or.inl rfl
  | some x => exact Or.inr (by simp)
theorem Lk.bld_below {w u u' : World} {t : List UInt8} (h : Bld w t u) (hb : Below u.heap.size u u') : Bld w t u' :=
  ⟨h.1.elim (fun x => .inl (bld_at x hb)) (fun x => .inr (bld_at x hb)), h.2.trans (hb.mono h.2.size)⟩
theorem Lk.bld_write {w u : World} {t : List UInt8} (h : Bld w t u) (s : List UInt8) (hl : t.length + s.length ≤ 10000000) :
    Calls Tryz.prog 48 #[.pointer (some ⟨w.heap.size, 0, none⟩), .string ⟨s.toArray⟩] u fun e u' => e = .returned (.tuple #[.int .i64 s.length, .nilIface]) ∧ Bld w (t ++ s) u' := by
  refine (Tryz.Builder_WriteString_kc w.heap.size w.heap.size (Lib.byteCells t) ⟨s.toArray⟩ u h.1 (by
    have : (Lib.byteCells t).length = t.length := by unfold Lib.byteCells; simp
    rw [this]; show t.length + s.toArray.size ≤ _; rw [List.size_toArray]; omega) h.2.size).mono ?_
  rintro e u' ⟨rfl, ⟨hb, hB, _⟩, _⟩
  refine ⟨by show _ = Ending.returned (.tuple #[.int .i64 s.toArray.size, .nilIface]); rfl, ?_, h.2.trans hB⟩
  rw [← byteCells_app]
  exact .inr hb
theorem Lk.bld_string {w u : World} {t : List UInt8} (h : Bld w t u) :
    Calls Tryz.prog 49 #[.pointer (some ⟨w.heap.size, 0, none⟩)] u fun e u' => e = .returned (.string ⟨t.toArray⟩) ∧ Bld w t u' := by
  refine (Tryz.Builder_String_any_k w.heap.size w.heap.size t u h.1 h.2.size).mono ?_
  rintro e u' ⟨rfl, hb, hB, _⟩
  exact ⟨rfl, hb, h.2.trans hB⟩
set_option maxRecDepth 100000 in
set_option maxHeartbeats 1600000 in
theorem entryLines_any (A : Option Addr) (n c : Nat) (l : List Ent) (w : World) (hn : l.length = n) (hr : ERow w A l) (ht : (entsT l).length ≤ 1000000) (hl : n ≤ 1000000) :
    Calls Tryz.prog 33 #[.slice A n c] w fun e w' => e = .returned (.string ⟨(entsT l).toArray⟩) ∧ Below w.heap.size w w' := by
  obtain ⟨W1, hW1⟩ : ∃ W, w.alloc (.cells #[.pointer none, .slice none 0 0] 82) = W := ⟨_, rfl⟩
  have HB0 : Hid (Bld w [] W1) := bld_new hW1
  have HN := Lib.hid hn
  have HR := Lib.hid hr
  have HT := Lib.hid ht
  clear hn hr ht
  go_enter Tryz.func33, Tryz.ntmps33
  go_wp2_with fail
  clear hW1
  go_loopw [8] (fun i wr => ∃ k : Nat, k ≤ n ∧ i = .int .i64 k ∧ Hid (Bld w (entsT (l.take k)) wr)) (fun i _ => n - (intOf i).toNat)
  case atStart => exact ⟨0, Nat.zero_le _, rfl, HB0.out⟩
  case round =>
    obtain ⟨k, hk, rfl, HW⟩ := hrel
    by_cases hlt : k < n
    · have hkl : k < l.length := by rw [HN.out]; exact hlt
      obtain ⟨ad, rfl, hc⟩ := erow_at HR.out k hkl
      obtain ⟨c0, c1⟩ := hc _ HW.out.2
      have htk := entsT_take l k hkl
      have hle := entsT_le l (k + 1)
      obtain ⟨E, hE⟩ : ∃ E, l[k] = E := ⟨_, rfl⟩
      rw [hE] at c0 c1 htk
      obtain ⟨nm, v⟩ := E
      dsimp only at c0 c1 htk
      obtain ⟨ln, hln⟩ : ∃ x, nm ++ [32] ++ v ++ [10] = x := ⟨_, rfl⟩
      have hcat := bcat4 nm [32] v [10]
      rw [hln] at htk hcat
      obtain ⟨S, hS⟩ : ∃ S, entsT (l.take k) = S := ⟨_, rfl⟩
      rw [hS] at htk HW
      have hSL : S.length + ln.length ≤ 1000000 := by
        rw [htk, List.length_append] at hle
        exact Nat.le_trans hle HT.out
      have hnl : nm.length + v.length ≤ 1000000 := by
        have := congrArg List.length hln
        simp only [List.length_append, List.length_cons, List.length_nil] at this
        omega
      have HTK := Lib.hid htk
      obtain ⟨V, hV⟩ : ∃ V, wr.alloc (.cells #[.string ⟨nm.toArray⟩, .string ⟨v.toArray⟩] 59) = V := ⟨_, rfl⟩
      have HBV : Hid (Bld w S V) := bld_below HW.out (alloc_low hV)
      have x1 := Lib.hid (bld_write HBV.out ln (by omega))
      have g0 := (cell_two hV (Below.refl _ _)).1
      have g1 := (cell_two hV (Below.refl _ _)).2.1
      clear hc hE hln htk hle hS
      go_wp2_with fail
      clear hV c0 c1 g0 g1 hcat
      refine x1.out.mono ?_
      rintro _ y1 ⟨rfl, hb⟩
      have HY := Lib.hid hb
      clear hb x1
      go_wp2_with fail
      go_roundw
      case rel => exact ⟨k + 1, by omega, by go_num, by show Bld w _ _; rw [HTK.out]; exact HY.out⟩
      case measure => simp [intOf]; omega
    · obtain rfl : k = n := by omega
      have HE : Hid (Bld w (entsT l) wr) := by
        have h := HW.out
        rw [List.take_of_length_le (by rw [HN.out]; exact Nat.le_refl _)] at h
        exact h
      go_wp2_with fail
      refine (bld_string HE.out).mono ?_
      rintro _ y ⟨rfl, hb⟩
      have HY := Lib.hid hb
      clear hb
      go_wp2_with fail
      go_ret
      exact ⟨rfl, HY.out.2⟩
/-! Get, Same. -/
def Lk.ESm (l : List Ent) : Prop := ∀ e ∈ l, e.1.length ≤ 1000000 ∧ e.2.length ≤ 1000000
theorem Lk.esm_few {l : List Ent} (h : ESm l) : EFew l := fun e he => by have := h e he; unfold maxLen; omega
theorem Lk.esm_at {l : List Ent} (h : ESm l) (k : Nat) (hk : k < l.length) : l[k].1.length ≤ 1000000 ∧ l[k].2.length ≤ 1000000 := h _ (List.getElem_mem hk)
/-- What Get hands back. -/
def Lk.getE (l : List Ent) (nm : List UInt8) : List UInt8 × Bool := match l.find? (fun e => e.1 == nm) with
  | some e => (e.2, true)
  | none => ([], false)
def Lk.getFrom : List Ent → List UInt8 → List UInt8 × Bool
  | [], _ => ([], false)
  | e :: l, nm => if e.1 = nm then (e.2, true) else getFrom l nm
theorem Lk.getFrom_eq : ∀ (l : List Ent) (nm : List UInt8), getE l nm = getFrom l nm
  | [], _ => rfl
  | e :: l, nm => by
    have ih := getFrom_eq l nm
    unfold getE at ih ⊢
    unfold getFrom
    rw [List.find?_cons]
    by_cases h : e.1 = nm
    · rw [if_pos h, show (e.1 == nm) = true by simpa using h]
    · rw [if_neg h, show (e.1 == nm) = false by simpa using h]; exact ih
theorem Lk.getE_at {l : List Ent} {nm : List UInt8} {k : Nat} {R : List UInt8 × Bool} (hk : k < l.length) (h : getFrom (l.drop k) nm = R) : (l[k].1 = nm → R = (l[k].2, true)) ∧ (l[k].1 ≠ nm → getFrom (l.drop (k + 1)) nm = R) := by
  rw [List.drop_eq_getElem_cons hk] at h
  unfold getFrom at h
  exact ⟨fun e => by rw [if_pos e] at h; exact h.symm, fun e => by rw [if_neg e] at h; exact h⟩
set_option maxRecDepth 100000 in
set_option maxHeartbeats 1600000 in
theorem lockGet_any (A : Option Addr) (n c : Nat) (l : List Ent) (nm : List UInt8) (w : World) (hn : l.length = n) (hr : ERow w A l) (hf : ESm l) (hl : n ≤ 1000000) :
    Calls Tryz.prog 15 #[.slice A n c, .string ⟨nm.toArray⟩] w fun e w' => e = .returned (.tuple #[.string ⟨(getE l nm).1.toArray⟩, .bool (getE l nm).2]) ∧ Below w.heap.size w w' := by
  obtain ⟨R, hR⟩ : ∃ R, getE l nm = R := ⟨_, rfl⟩
  have HI0 : Hid (getFrom (l.drop 0) nm = R) := by show _ = _; rw [List.drop_zero, ← getFrom_eq]; exact hR
  rw [hR]
  have HN := Lib.hid hn
  have HR := Lib.hid hr
  have HF := Lib.hid hf
  clear hR hn hr hf
  go_enter Tryz.func15, Tryz.ntmps15
  go_wp2_with fail
  go_loopw [10] (fun i wr => ∃ k : Nat, k ≤ n ∧ i = .int .i64 k ∧ Hid (getFrom (l.drop k) nm = R) ∧ Hid (Below w.heap.size w wr)) (fun i _ => n - (intOf i).toNat)
  case atStart => exact ⟨0, Nat.zero_le _, rfl, HI0.out, Below.refl _ _⟩
  case round =>
    obtain ⟨k, hk, rfl, HI, HB⟩ := hrel
    by_cases hlt : k < n
    · have hkl : k < l.length := by rw [HN.out]; exact hlt
      obtain ⟨ad, rfl, hc⟩ := erow_at HR.out k hkl
      obtain ⟨c0, c1⟩ := hc _ HB.out
      obtain ⟨s1, s2⟩ := getE_at hkl HI.out
      have hm := (esm_at HF.out k hkl).2
      obtain ⟨E, hE⟩ : ∃ E, l[k] = E := ⟨_, rfl⟩
      rw [hE] at c0 c1 s1 s2 hm
      obtain ⟨x, v⟩ := E
      dsimp only at c0 c1 s1 s2 hm
      have S1 := Lib.hid s1
      have S2 := Lib.hid s2
      have HM := Lib.hid hm
      obtain ⟨V, hV⟩ : ∃ V, wr.alloc (.cells #[.string ⟨x.toArray⟩, .string ⟨v.toArray⟩] 59) = V := ⟨_, rfl⟩
      have HBV : Hid (Below w.heap.size w V) := HB.out.trans ((alloc_low hV).mono HB.out.size)
      have g0 := (cell_two hV (Below.refl _ _)).1
      have g1 := (cell_two hV (Below.refl _ _)).2.1
      clear hc hE s1 s2 hm HI
      by_cases hq : x = nm
      · have HRR := Lib.hid (S1.out hq)
        have e1 : (x == nm) = true := by simpa using hq
        clear hq
        go_wp2_with fail
        clear hV c0 c1 g0 g1
        refine (clone_any v _ (by have := HM.out; omega)).mono ?_
        rintro _ z ⟨rfl, hb⟩
        have HZ := Lib.hid (HBV.out.trans (hb.mono HBV.out.size))
        clear hb
        go_wp2_with fail
        go_ret2
        exact ⟨by rw [HRR.out]; rfl, HZ.out⟩
      · have HRR := Lib.hid (S2.out hq)
        have e1 : (x == nm) = false := beq_eq_false_iff_ne.2 hq
        clear hq
        go_wp2_with fail
        go_roundw
        case rel => exact ⟨k + 1, by omega, by go_num, HRR, HBV⟩
        case measure => simp [intOf]; omega
    · obtain rfl : k = n := by omega
      have HRR : Hid (R = ([], false)) := by
        have := HI.out
        rw [List.drop_of_length_le (by rw [HN.out]; exact Nat.le_refl _)] at this
        exact this.symm
      go_wp2_with fail
      go_ret2
      exact ⟨by rw [HRR.out]; rfl, HB.out⟩
end Go.Proofs.YtojhapnodjabdaaGreatDoor

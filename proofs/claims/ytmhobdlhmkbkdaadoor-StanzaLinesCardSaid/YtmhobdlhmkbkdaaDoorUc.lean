/- The order of fields by a list of keys: walked. -/
import Derived.Test.YtmhobdlhmkbkdaaDoorUb
import Derived.Test.YtmhobdlhmkbkdaaDoorSn
namespace Go.Proofs.YtmhobdlhmkbkdaaDoor
open Go.RowKit Go.Maps Sz
attribute [local go_sem ↓] Go.wp_at_zero Go.wp_at_succ
def Sz.ShortT (l : List (List UInt8)) : Prop := ∀ k ∈ l, k.length ≤ 140737488355328
set_option maxRecDepth 100000 in
set_option maxHeartbeats 1600000 in
theorem firstPlaces_any (A : Option Addr) (n c : Nat) (l : List (List UInt8)) (w : World) (hn : l.length = n) (hr : Rg.Row encT 1 w A l) (hl : n ≤ 100000) (hs : ShortT l) :
    Calls Tryd.prog 39 #[.slice A n c] w fun e w' => e = .returned (.map (some w.heap.size)) ∧ KMap w' w.heap.size l ∧ w.heap.size < w'.heap.size ∧ Below w.heap.size w w' := by
  obtain ⟨W1, hW1⟩ : ∃ W, w.alloc (.map #[] 0) = W := ⟨_, rfl⟩
  have HBW : Hid (Below w.heap.size w W1) := alloc_low hW1
  have HK0 : Hid (KMap W1 w.heap.size []) := by show KMap _ _ _; rw [← hW1]; exact kmap_made w
  have HSZ : Hid (w.heap.size < W1.heap.size) := by show _ < _; rw [← hW1]; simp
  have hmk : (Instr.makeMap 85 none).run Tryd.prog w = .ok (.map (some w.heap.size)) W1 := by rw [← hW1]; rfl
  have HR := Lib.hid hr
  have HN := Lib.hid hn
  have HS := Lib.hid hs
  clear hr hn hs
  go_enter Tryd.func39, Tryd.ntmps39
  go_wp2_with fail
  clear hW1 hmk
  go_loopw [11] (fun i wr => ∃ k : Nat, k ≤ n ∧ i = .int .i64 k ∧ Hid (Below w.heap.size w wr ∧ w.heap.size < wr.heap.size) ∧ Hid (KMap wr w.heap.size (l.take k))) (fun i _ => n - (intOf i).toNat)
  case atStart => exact ⟨0, Nat.zero_le _, rfl, ⟨HBW.out, HSZ.out⟩, HK0.out⟩
  case round =>
    obtain ⟨k, hk, rfl, HW, HH⟩ := hrel
    by_cases hlt : k < n
    · have hlr : k < l.length := by rw [HN.out]; exact hlt
      obtain ⟨ad, rfl, _, c0⟩ := txt_at (Rg.row_below HR.out HW.out.1) k hlr
      have ht : l.take (k + 1) = l.take k ++ [l[k]] := List.take_succ_eq_append_getElem hlr
      have hsx : l[k].length ≤ 140737488355328 := HS.out _ (List.getElem_mem hlr)
      obtain ⟨x, hx⟩ : ∃ x, l[k] = x := ⟨_, rfl⟩
      rw [hx] at c0 ht hsx
      have hlk := kmap_look HH.out hsx
      have hlen : (l.take k).length = k := by rw [List.length_take]; omega
      cases hp : placeOf (l.take k) x with
      | some p =>
        rw [hp] at hlk
        have HE : Hid (KMap wr w.heap.size (l.take (k + 1))) := by show KMap _ _ _; rw [ht]; exact kmap_skip HH.out hp
        have HK := Lib.hid hk
        clear ht hx hp hlen hsx
        dsimp only [Option.getD, Option.isSome] at hlk
        go_wp2_with fail
        go_roundw
        case rel => exact ⟨k + 1, by omega, by go_num, HW, HE⟩
        case measure => simp [intOf]; omega
      | none =>
        rw [hp] at hlk
        obtain ⟨w2, hrun, hk2, hturn⟩ := kmap_put HH.out hsx (by omega) hp
        rw [hlen] at hrun
        rw [← ht] at hk2
        have HE := Lib.hid hk2
        have HW2 : Hid (Below w.heap.size w w2 ∧ w.heap.size < w2.heap.size) := by
          have hg := hturn.grown
          exact ⟨HW.out.1.grown hg (Nat.le_of_lt HW.out.2) (fun j hj => by have := Option.some.inj hj; omega), Nat.lt_of_lt_of_le HW.out.2 hg.size⟩
        clear ht hx hp hlen hsx hk2 hturn
        dsimp only [Option.getD, Option.isSome] at hlk
        go_wp2_with fail
        go_roundw
        case rel => exact ⟨k + 1, by omega, by go_num, HW2, HE⟩
        case measure => simp [intOf]; omega
    · obtain rfl : k = n := by omega
      have HE : Hid (KMap wr w.heap.size l) := by
        have h := HH.out
        rw [List.take_of_length_le (by rw [HN.out]; exact Nat.le_refl _)] at h
        exact h
      go_wp2_with fail
      go_ret
      exact ⟨rfl, HE.out, HW.out.2, HW.out.1⟩
theorem Sz.ordP_nil (ks : List (List UInt8)) (i : Nat) (x : Int) : ordP ks i x [] = (0, 0) := rfl
theorem Sz.ordP_cons (ks : List (List UInt8)) (i : Nat) (x : Int) (f : Fld) (l : List Fld) : ordP ks i x (f :: l) = match placeOf ks f.key with
    | none => ((i : Int), 10)
    | some p => if x < p then ordP ks (i + 1) p l else ((i : Int), 7) := by rw [ordP]; rfl
def Sz.OrdRet (w : World) (X : Int × Int) (e : Ending) (w' : World) : Prop := Below w.heap.size w w' ∧ if X.2 = 0 then e = .returned (.tuple #[]) else e = panAt X.1 X.2
set_option maxRecDepth 100000 in
set_option maxHeartbeats 1600000 in
theorem requireOrder_any (A : Option Addr) (n c : Nat) (l : List Fld) (B : Option Addr) (m d : Nat) (ks : List (List UInt8)) (w : World) (hn : l.length = n) (hr : Rg.Row encF 3 w A l) (hl : n ≤ 100000) (hs : Short l) (hm : ks.length = m) (hk : Rg.Row encT 1 w B ks) (hml : m ≤ 100000) (hks : ShortT ks) :
    Calls Tryd.prog 28 #[.slice A n c, .slice B m d] w (Sz.OrdRet w (ordP ks 0 (-1) l)) := by
  obtain ⟨R, hR⟩ : ∃ R, ordP ks 0 (-1) l = R := ⟨_, rfl⟩
  rw [hR]
  have HG := Lib.hid hR
  have HFP := Lib.hid (firstPlaces_any B m d ks w hm hk hml hks)
  have HR := Lib.hid hr
  have HN := Lib.hid hn
  have HS := Lib.hid hs
  have HM : Hid (ks.length ≤ 100000) := by show _ ≤ _; rw [hm]; exact hml
  clear hR hr hn hs hm hk hks hml
  go_enter Tryd.func28, Tryd.ntmps28
  go_wp2_with fail
  refine HFP.out.mono ?_
  rintro _ u ⟨rfl, hmp, hsz, hb⟩
  have HMP := Lib.hid hmp
  have HSZ := Lib.hid hsz
  have HB := Lib.hid hb
  clear hmp hsz hb HFP
  go_wp2_with fail
  go_loopw [5, 14] (fun v i wr => ∃ (k : Nat) (x : Int), k ≤ n ∧ i = .int .i64 k ∧ v = .int .i64 x ∧ -1 ≤ x ∧ x ≤ 1000000 ∧ Hid (Below u.heap.size u wr) ∧ Hid (ordP ks k x (l.drop k) = R)) (fun _ i _ => n - (intOf i).toNat)
  case atStart => exact ⟨0, -1, Nat.zero_le _, rfl, rfl, by decide, by decide, Below.refl _ _, HG.out⟩
  case round =>
    obtain ⟨k, x, hk, rfl, rfl, hx0, hx1, HW, HH⟩ := hrel
    by_cases hlt : k < n
    · have hlr : k < l.length := by rw [HN.out]; exact hlt
      obtain ⟨ad, rfl, _, c0, c1, c2⟩ := field_at (Rg.row_below HR.out (HB.out.trans (HW.out.mono HB.out.size))) k hlr
      have hd : l.drop k = l[k] :: l.drop (k + 1) := List.drop_eq_getElem_cons hlr
      obtain ⟨s1, _⟩ := short_at HS.out k hlr
      have hh := HH.out
      rw [hd, ordP_cons] at hh
      obtain ⟨f, hf⟩ : ∃ f, l[k] = f := ⟨_, rfl⟩
      rw [hf] at c0 c1 c2 hh s1
      obtain ⟨fk, fv, fl⟩ := f
      dsimp only at c0 c1 c2 hh s1
      obtain ⟨V, hV⟩ : ∃ V, wr.alloc (.cells #[.string ⟨fk.toArray⟩, .string ⟨fv.toArray⟩, .int .i64 fl] 43) = V := ⟨_, rfl⟩
      have HV1 : Hid (Below u.heap.size u V) := HW.out.trans ((alloc_low hV).mono HW.out.size)
      obtain ⟨v0, v1, v2, _⟩ := cell_three hV (Below.refl _ _)
      have hlk := kmap_look (kmap_below HMP.out HV1.out HSZ.out) s1
      have HRV : Hid (Below w.heap.size w V) := HB.out.trans (HV1.out.mono HB.out.size)
      clear hd hf s1
      cases hp : placeOf ks fk with
      | none =>
        rw [hp] at hlk hh
        dsimp only [Option.getD, Option.isSome] at hlk hh
        have HE : Hid (R = ((k : Int), 10)) := hh.symm
        clear hh hp
        go_wp2_with fail
        clear hV
        refine (requireAt_no _).mono ?_
        rintro _ z ⟨rfl, rfl⟩
        go_wp2_with fail
        exact ⟨rfl, by show OrdRet w R _ _; rw [HE.out]; exact ⟨HRV.out, rfl⟩⟩
      | some p =>
        have hpl := place_lt hp
        have hm1 : p ≤ 100000 := Nat.le_trans (Nat.le_of_lt hpl) HM.out
        rw [hp] at hlk hh
        dsimp only [Option.getD, Option.isSome] at hlk hh
        clear hp hpl
        by_cases hgt : x < p
        · have d0 : decide (x < (p : Int)) = true := decide_eq_true hgt
          have HE : Hid (ordP ks (k + 1) p (l.drop (k + 1)) = R) := by rw [if_pos hgt] at hh; exact hh
          clear hh
          go_wp2_with fail
          clear hV
          refine (requireAt_yes _).mono ?_
          rintro _ z ⟨rfl, rfl⟩
          go_wp2_with fail
          refine (requireAt_yes _).mono ?_
          rintro _ z ⟨rfl, rfl⟩
          go_wp2_with fail
          go_roundw
          case rel => exact ⟨k + 1, p, by omega, by go_num, rfl, by omega, by omega, HV1, HE⟩
          case measure => simp [intOf]; omega
        · have d0 : decide (x < (p : Int)) = false := decide_eq_false hgt
          have HE : Hid (R = ((k : Int), 7)) := by rw [if_neg hgt] at hh; exact hh.symm
          clear hh
          go_wp2_with fail
          clear hV
          refine (requireAt_yes _).mono ?_
          rintro _ z ⟨rfl, rfl⟩
          go_wp2_with fail
          refine (requireAt_no _).mono ?_
          rintro _ z ⟨rfl, rfl⟩
          go_wp2_with fail
          exact ⟨rfl, by show OrdRet w R _ _; rw [HE.out]; exact ⟨HRV.out, rfl⟩⟩
    · obtain rfl : k = n := by omega
      have HE : Hid (R = (0, 0)) := by show _ = _; rw [← HH.out, List.drop_eq_nil_of_le (by rw [HN.out]; exact Nat.le_refl _)]; rfl
      go_wp2_with fail
      go_end0
      show OrdRet w R _ _
      rw [HE.out]
      exact ⟨HB.out.trans (HW.out.mono HB.out.size), rfl⟩
end Go.Proofs.YtmhobdlhmkbkdaaDoor

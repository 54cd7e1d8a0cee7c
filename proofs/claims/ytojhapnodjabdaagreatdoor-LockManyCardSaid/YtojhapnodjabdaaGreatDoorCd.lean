/- Names, the reference's versions, errors with a place: walked. -/
import Derived.Test.YtojhapnodjabdaaGreatDoorCb
import Derived.Test.YtojhapnodjabdaaGreatDoorQd
import Derived.Test.YtojhapnodjabdaaGreatDoorBr
namespace Go.Proofs.YtojhapnodjabdaaGreatDoor
open Go.RowKit
attribute [local go_sem ↓] Go.wp_at_zero Go.wp_at_succ
/-- How a panic with an error number and a line leaves a function. -/
abbrev panAt (k n : Int) : Ending := .panicked [{ v := .iface 75 (.agg #[.int .i64 k, .int .i64 n]), recovered := false }]
set_option maxHeartbeats 400000 in
theorem requireAt_yes {k n : Int} (w : World) : Calls Tryz.prog 45 #[.bool true, .int .i64 k, .int .i64 n] w fun e w' => e = .returned (.tuple #[]) ∧ w = w' := by
  go_enter Tryz.func45, Tryz.ntmps45
  go_wp2_with fail
  go_end0
  exact ⟨rfl, rfl⟩
set_option maxHeartbeats 400000 in
theorem requireAt_no {k n : Int} (w : World) : Calls Tryz.prog 45 #[.bool false, .int .i64 k, .int .i64 n] w fun e w' => e = panAt k n ∧ w = w' := by
  go_enter Tryz.func45, Tryz.ntmps45
  go_wp2_with fail
  exact ⟨rfl, rfl, rfl⟩
set_option maxRecDepth 100000 in
set_option maxHeartbeats 400000 in
theorem raisedAt_placed (k n : Int) {o : Int} (w : World) :
    Calls Tryz.prog 27 #[.iface 75 (.agg #[.int .i64 k, .int .i64 n]), .int .i64 o] w fun e w' => e = .returned (.tuple #[.int .i64 k, .int .i64 n]) ∧ Below w.heap.size w w' := by
  have hta : ∀ W : World, (Instr.typeAssert (.iface 75 (.agg #[.int .i64 k, .int .i64 n])) 20 28 true).run Tryz.prog W = .ok (.tuple #[.int .i64 0, .bool false]) W := fun _ => by kernel_rfl
  have htb : ∀ W : World, (Instr.typeAssert (.iface 75 (.agg #[.int .i64 k, .int .i64 n])) 20 75 true).run Tryz.prog W = .ok (.tuple #[.agg #[.int .i64 k, .int .i64 n], .bool true]) W := fun _ => by kernel_rfl
  go_enter Tryz.func27, Tryz.ntmps27
  go_wp2_with fail
  go_quiet (fail)
  go_wp2_with fail
  go_ret2
  refine ⟨rfl, below_drewN ?_ _⟩
  first
    | exact (Below.refl _ _).alloc (Nat.le_refl _) _
    | exact ((Below.refl _ _).alloc (Nat.le_refl _) _).setCell (Nat.le_refl _) _
    | exact Below.setCell (Below.setCell ((Below.refl _ _).alloc (Nat.le_refl _) _) (by simp) _) (by simp) _
    | trace_state
end Go.Proofs.YtojhapnodjabdaaGreatDoor
namespace Go.Proofs.YtojhapnodjabdaaGreatDoor.Sz
open Go.RowKit
theorem row_newT (w : World) (T : TypeId) (l : List (List UInt8)) (cs : Array Value) (h : cs.toList = Rg.flat encT l) : Rg.Row encT 1 (w.alloc (.cells cs T)) (some ⟨w.heap.size, 0, none⟩) l := fun _ => by
  refine ⟨_, rfl, by simp, fun i hi j v hv => ?_⟩
  have hj : j < 1 := (List.getElem?_eq_some_iff.1 hv).1
  rw [← Rg.add_j]
  exact Rg.news_new w T l cs h _ _ ((Rg.flat_get fitsT l i hi j hj).trans hv)
theorem txt_at {w : World} {A : Option Addr} {l : List (List UInt8)} (h : Rg.Row encT 1 w A l) (k : Nat) (hk : k < l.length) : ∃ ad, A = some ad ∧ ad.block < w.heap.size ∧ w.cell? (ad.add k) = some (.string ⟨l[k].toArray⟩) := by
  obtain ⟨ad, x, e, hx, hlt, hc⟩ := Rg.row_at h k hk
  refine ⟨ad, e, hlt, ?_⟩
  have := hc 0 _ rfl
  rw [if_pos rfl, Nat.mul_one] at this
  rw [hx]
  exact this
theorem flatT (l : List (List UInt8)) : Rg.flat encT l = l.map fun t => Value.string ⟨t.toArray⟩ := by
  induction l with
  | nil => rfl
  | cons a l ih => show encT a ++ Rg.flat encT l = _; rw [ih]; rfl
/-- The front of a row. -/
theorem row_front {w : World} {A : Option Addr} {l : List (List UInt8)} (h : Rg.Row encT 1 w A l) : Rg.Row encT 1 w A l.dropLast := fun h0 => by
  rw [List.length_dropLast] at h0
  obtain ⟨a, e, hl, hc⟩ := h (by omega)
  refine ⟨a, e, hl, fun i hi => ?_⟩
  rw [List.getElem_dropLast]
  exact hc i (by rw [List.length_dropLast] at hi; omega)
end Go.Proofs.YtojhapnodjabdaaGreatDoor.Sz
namespace Go.Proofs.YtojhapnodjabdaaGreatDoor
open Go.RowKit
attribute [local go_sem ↓] Go.wp_at_zero Go.wp_at_succ
set_option maxHeartbeats 400000 in
theorem isLetA_any (c : UInt8) (w : World) :
    Calls Tryz.prog 80 #[.int .u8 c.toNat] w fun e w' => e = .returned (.bool (At.low c)) ∧ w = w' := by
  unfold At.low
  by_cases h1 : 97 ≤ c.toNat <;> by_cases h2 : c.toNat ≤ 122
  all_goals
    go_enter Tryz.func80, Tryz.ntmps80
    go_wp2
  all_goals
    go_ret
    exact ⟨by first | (simp [h1, h2]; done) | (simp [h1, h2]; omega), rfl⟩
set_option maxHeartbeats 400000 in
theorem isDigA_any (c : UInt8) (w : World) :
    Calls Tryz.prog 81 #[.int .u8 c.toNat] w fun e w' => e = .returned (.bool (Vm.dig c)) ∧ w = w' := by
  unfold Vm.dig
  by_cases h1 : 48 ≤ c.toNat <;> by_cases h2 : c.toNat ≤ 57
  all_goals
    go_enter Tryz.func81, Tryz.ntmps81
    go_wp2
  all_goals
    go_ret
    exact ⟨by first | (simp [h1, h2]; done) | (simp [h1, h2]; omega), rfl⟩
end Go.Proofs.YtojhapnodjabdaaGreatDoor
namespace Go.Proofs.YtojhapnodjabdaaGreatDoor.At
theorem all_snoc {l : List UInt8} {k : Nat} {c : UInt8} {f : UInt8 → Bool} (hk : k < l.length) (hc : l[k] = c) : (l.take (k + 1)).all f = ((l.take k).all f && f c) := by
  rw [List.take_succ_eq_append_getElem hk, hc]; simp
theorem all_no {l : List UInt8} {k : Nat} {c : UInt8} {f : UInt8 → Bool} (hk : k < l.length) (hc : l[k] = c) (hf : f c = false) : l.all f = false := by
  cases h : l.all f with
  | false => rfl
  | true => have := List.all_eq_true.1 h c (hc ▸ List.getElem_mem hk); rw [hf] at this; cases this
end Go.Proofs.YtojhapnodjabdaaGreatDoor.At
namespace Go.Proofs.YtojhapnodjabdaaGreatDoor
open Go.RowKit At
attribute [local go_sem ↓] Go.wp_at_zero Go.wp_at_succ
set_option maxRecDepth 100000 in
set_option maxHeartbeats 1600000 in
theorem nameA_any (l : List UInt8) (w : World) (hm : l.length ≤ maxLen) :
    Calls Tryz.prog 59 #[.string ⟨l.toArray⟩] w fun e w' => e = .returned (.bool (At.nameB l)) ∧ w = w' := by
  unfold maxLen at hm
  obtain ⟨R, hR⟩ : ∃ R, At.nameB l = R := ⟨_, rfl⟩
  rw [hR]
  cases l with
  | nil =>
    obtain rfl : R = false := hR.symm
    go_enter Tryz.func59, Tryz.ntmps59
    go_wp2_with fail
    go_ret
    exact ⟨rfl, rfl⟩
  | cons c0 t =>
    have hne : (c0 :: t).isEmpty = false := rfl
    have hpos : 0 < (c0 :: t).length := by simp
    obtain ⟨l, hl⟩ : ∃ l, c0 :: t = l := ⟨_, rfl⟩
    have H24 : Hid (24 < l.length → R = false) := fun h => by rw [← hR, hl]; exact At.name_no24 h
    have HC : Hid (l.length ≤ 24 → R = (At.low c0 && l.all At.nameC)) := fun h => by rw [← hR, ← hl]; exact At.name_cons (by rw [hl]; exact h)
    have hpl : 0 < l.length := by rw [← hl]; exact hpos
    obtain ⟨cb, hcb, hcb'⟩ := byte_at l 0 hpl
    have h0 : cb = c0 := by rw [← hcb']; simp [← hl]
    subst h0
    rw [hl] at hne hm ⊢
    clear hR hcb' hpos hl
    by_cases h24 : 24 < l.length
    · obtain rfl : R = false := H24.out h24
      have d0 : decide ((24 : Int) < (l.length : Int)) = true := decide_eq_true (by omega)
      go_enter Tryz.func59, Tryz.ntmps59
      go_wp2_with fail
      go_ret
      exact ⟨rfl, rfl⟩
    · have HR := Lib.hid (HC.out (by omega))
      have d0 : decide ((24 : Int) < (l.length : Int)) = false := decide_eq_false (by omega)
      clear HC H24
      go_enter Tryz.func59, Tryz.ntmps59
      go_wp2_with fail
      refine (isLetA_any cb _).mono ?_
      rintro e w' ⟨rfl, rfl⟩
      cases hlow : At.low cb
      · have HRF : Hid (R = false) := by show _ = _; rw [HR.out, hlow]; rfl
        clear hlow HR
        go_wp2_with fail
        go_ret
        exact ⟨by rw [HRF.out]; rfl, rfl⟩
      · have HRA : Hid (R = l.all At.nameC) := by show _ = _; rw [HR.out, hlow]; rfl
        clear hlow HR
        go_wp2_with fail
        go_loop [19] (fun i => ∃ k : Nat, k ≤ l.length ∧ i = .int .i64 k ∧ Hid ((l.take k).all At.nameC = true)) (fun i => l.length - (intOf i).toNat)
        case atStart => exact ⟨0, Nat.zero_le _, rfl, rfl⟩
        case round =>
          obtain ⟨k, hk, rfl, HK⟩ := hrel
          by_cases hlt : k < l.length
          · obtain ⟨c, hc, hc'⟩ := byte_at l k hlt
            have HS := Lib.hid (At.all_snoc (f := At.nameC) hlt hc')
            have HN : Hid (At.nameC c = false → R = false) := fun h => by rw [HRA.out]; exact At.all_no hlt hc' h
            have HY : Hid (At.nameC c = true → (l.take (k + 1)).all At.nameC = true) := fun h => by rw [HS.out, HK.out, h]; rfl
            clear hc' HS HK
            go_wp2_with fail
            refine (isLetA_any c _).mono ?_
            rintro e w' ⟨rfl, rfl⟩
            cases h1 : At.low c
            · have H1 := Lib.hid h1
              clear h1
              go_wp2_with fail
              refine (isDigA_any c _).mono ?_
              rintro e w' ⟨rfl, rfl⟩
              cases h2 : Vm.dig c
              · have HE := Lib.hid (At.nameC_else H1.out h2)
                clear h2
                by_cases h3 : c.toNat = 45
                · have n1 : ((c.toNat : Int) != 45) = false := by simp [h3]
                  have e3 : c = 45 := by rw [← UInt8.toNat_inj]; exact h3
                  have HY2 := Lib.hid (HY.out (by rw [HE.out, e3]; rfl))
                  clear h3 e3
                  go_wp2_with fail
                  go_round
                  case rel => exact ⟨k + 1, by omega, by go_num, HY2⟩
                  case measure => simp [intOf]; omega
                · have n1 : ((c.toNat : Int) != 45) = true := by simp; omega
                  have HN2 := Lib.hid (HN.out (by rw [HE.out]; rw [beq_eq_false_iff_ne]; intro e; exact h3 (by rw [e]; rfl)))
                  clear h3
                  go_wp2_with fail
                  go_ret
                  exact ⟨by rw [HN2.out]; rfl, rfl⟩
              · have HY2 := Lib.hid (HY.out (At.nameC_dig h2))
                clear h2
                go_wp2_with fail
                go_round
                case rel => exact ⟨k + 1, by omega, by go_num, HY2⟩
                case measure => simp [intOf]; omega
            · have HY2 := Lib.hid (HY.out (At.nameC_low h1))
              clear h1
              go_wp2_with fail
              go_round
              case rel => exact ⟨k + 1, by omega, by go_num, HY2⟩
              case measure => simp [intOf]; omega
          · have HT : Hid (R = true) := by show _ = _; rw [HRA.out]; have := HK.out; rwa [List.take_of_length_le (by omega)] at this
            go_wp2_with fail
            go_ret
            exact ⟨by rw [HT.out]; rfl, rfl⟩
end Go.Proofs.YtojhapnodjabdaaGreatDoor
namespace Go.Proofs.YtojhapnodjabdaaGreatDoor
open Go.RowKit At
attribute [local go_sem ↓] Go.wp_at_zero Go.wp_at_succ
theorem low_facts (c : UInt8) : (At.low c = true → decide ((c.toNat : Int) < 97) = false ∧ decide ((122 : Int) < (c.toNat : Int)) = false ∧ decide ((97 : Int) ≤ (c.toNat : Int)) = true ∧ decide ((c.toNat : Int) ≤ 122) = true) := fun h => by
  unfold At.low at h
  rw [Bool.and_eq_true, decide_eq_true_eq, decide_eq_true_eq] at h
  exact ⟨decide_eq_false (by omega), decide_eq_false (by omega), decide_eq_true (by omega), decide_eq_true (by omega)⟩
theorem low_not (c : UInt8) (h : At.low c = false) : (c.toNat < 97) ∨ (¬ c.toNat < 97 ∧ 122 < c.toNat) := by
  unfold At.low at h
  rw [Bool.and_eq_false_iff, decide_eq_false_iff_not, decide_eq_false_iff_not] at h
  omega
set_option maxRecDepth 100000 in
set_option maxHeartbeats 1600000 in
theorem refName_any (l : List UInt8) (w : World) (hm : l.length ≤ maxLen) :
    Calls Tryz.prog 29 #[.string ⟨l.toArray⟩] w fun e w' => e = .returned (.bool (nameB l)) ∧ w = w' := by
  obtain ⟨R, hR⟩ : ∃ R, nameB l = R := ⟨_, rfl⟩
  rw [hR]
  cases l with
  | nil =>
    obtain rfl : R = false := hR.symm
    go_enter Tryz.func29, Tryz.ntmps29
    go_wp2_with fail
    go_ret
    exact ⟨rfl, rfl⟩
  | cons c0 t =>
    have hpos : 0 < (c0 :: t).length := by simp
    obtain ⟨l, hl⟩ : ∃ l, c0 :: t = l := ⟨_, rfl⟩
    have H24 : Hid (24 < l.length → R = false) := fun h => by rw [← hR, hl]; exact At.name_no24 h
    have HC : Hid (l.length ≤ 24 → R = (At.low c0 && l.all At.nameC)) := fun h => by rw [← hR, ← hl]; exact At.name_cons (by rw [hl]; exact h)
    have hpl : 0 < l.length := by rw [← hl]; exact hpos
    obtain ⟨cb, hcb, hcb'⟩ := byte_at l 0 hpl
    have h0 : cb = c0 := by rw [← hcb']; simp [← hl]
    subst h0
    rw [hl] at hm ⊢
    have n0 : decide ((l.length : Int) < 1) = false := decide_eq_false (by omega)
    clear hR hcb' hpos hl
    by_cases h24 : 24 < l.length
    · obtain rfl : R = false := H24.out h24
      have d0 : decide ((24 : Int) < (l.length : Int)) = true := decide_eq_true (by omega)
      go_enter Tryz.func29, Tryz.ntmps29
      go_wp2_with fail
      go_ret
      exact ⟨rfl, rfl⟩
    · have HR := Lib.hid (HC.out (by omega))
      have d0 : decide ((24 : Int) < (l.length : Int)) = false := decide_eq_false (by omega)
      have HL24 : Hid (l.length ≤ 24) := by show _ ≤ _; omega
      clear HC H24
      cases hlow : At.low cb
      · have HRF : Hid (R = false) := by show _ = _; rw [HR.out, hlow]; rfl
        rcases low_not cb hlow with h1 | ⟨h1, h2⟩
        · have a1 : decide ((cb.toNat : Int) < 97) = true := decide_eq_true (by omega)
          clear hlow HR h1
          go_enter Tryz.func29, Tryz.ntmps29
          go_wp2_with fail
          go_ret
          exact ⟨by rw [HRF.out]; rfl, rfl⟩
        · have a1 : decide ((cb.toNat : Int) < 97) = false := decide_eq_false (by omega)
          have a2 : decide ((122 : Int) < (cb.toNat : Int)) = true := decide_eq_true (by omega)
          clear hlow HR h1 h2
          go_enter Tryz.func29, Tryz.ntmps29
          go_wp2_with fail
          go_ret
          exact ⟨by rw [HRF.out]; rfl, rfl⟩
      · have HRA : Hid (R = l.all At.nameC) := by show _ = _; rw [HR.out, hlow]; rfl
        obtain ⟨a1, a2, _, _⟩ := low_facts cb hlow
        clear hlow HR
        go_enter Tryz.func29, Tryz.ntmps29
        go_wp2_with fail
        go_loop [3, 4] (fun i _ => ∃ k : Nat, k ≤ l.length ∧ i = .int .i64 k ∧ Hid ((l.take k).all At.nameC = true)) (fun i _ => l.length - (intOf i).toNat)
        case atStart => exact ⟨0, Nat.zero_le _, rfl, rfl⟩
        case round =>
          obtain ⟨k, hk, rfl, HK⟩ := hrel
          by_cases hlt : k < l.length
          · obtain ⟨c, hc, hc'⟩ := byte_at l k hlt
            have HS := Lib.hid (At.all_snoc (f := At.nameC) hlt hc')
            have HN : Hid (At.nameC c = false → R = false) := fun h => by rw [HRA.out]; exact At.all_no hlt hc' h
            have HY : Hid (At.nameC c = true → (l.take (k + 1)).all At.nameC = true) := fun h => by rw [HS.out, HK.out, h]; rfl
            clear hc' HS HK a1 a2
            cases h1 : At.low c
            · have H1 := Lib.hid h1
              have ht : ∃ b1 b2 : Bool, decide ((97 : Int) ≤ (c.toNat : Int)) = b1 ∧ decide ((c.toNat : Int) ≤ 122) = b2 ∧ (b1 && b2) = false := by
                refine ⟨_, _, rfl, rfl, ?_⟩
                rcases low_not c h1 with h | ⟨_, h⟩
                · rw [decide_eq_false (by omega)]; rfl
                · rw [decide_eq_false (p := (c.toNat : Int) ≤ 122) (by omega), Bool.and_false]
              rcases low_not c h1 with h | ⟨g, h⟩
              · have b1 : decide ((97 : Int) ≤ (c.toNat : Int)) = false := decide_eq_false (by omega)
                clear h h1 ht
                go_wp2_with fail
                refine (refDigit_any c _).mono ?_
                rintro e w' ⟨rfl, rfl⟩
                cases h2 : Vm.dig c
                · have HE := Lib.hid (At.nameC_else H1.out h2)
                  clear h2
                  by_cases h3 : c.toNat = 45
                  · have n1 : ((c.toNat : Int) != 45) = false := by simp [h3]
                    have e3 : c = 45 := by rw [← UInt8.toNat_inj]; exact h3
                    have HY2 := Lib.hid (HY.out (by rw [HE.out, e3]; rfl))
                    clear h3 e3
                    go_wp2_with fail
                    go_round
                    case rel => exact ⟨k + 1, by omega, by go_num, HY2⟩
                    case measure => simp [intOf]; omega
                  · have n1 : ((c.toNat : Int) != 45) = true := by simp; omega
                    have HN2 := Lib.hid (HN.out (by rw [HE.out]; rw [beq_eq_false_iff_ne]; intro e; exact h3 (by rw [e]; rfl)))
                    clear h3
                    go_wp2_with fail
                    go_ret
                    exact ⟨by rw [HN2.out]; rfl, rfl⟩
                · have HY2 := Lib.hid (HY.out (At.nameC_dig h2))
                  clear h2
                  go_wp2_with fail
                  go_round
                  case rel => exact ⟨k + 1, by omega, by go_num, HY2⟩
                  case measure => simp [intOf]; omega
              · have b1 : decide ((97 : Int) ≤ (c.toNat : Int)) = true := decide_eq_true (by omega)
                have b2 : decide ((c.toNat : Int) ≤ 122) = false := decide_eq_false (by omega)
                clear g h h1 ht
                go_wp2_with fail
                refine (refDigit_any c _).mono ?_
                rintro e w' ⟨rfl, rfl⟩
                cases h2 : Vm.dig c
                · have HE := Lib.hid (At.nameC_else H1.out h2)
                  clear h2
                  by_cases h3 : c.toNat = 45
                  · have n1 : ((c.toNat : Int) != 45) = false := by simp [h3]
                    have e3 : c = 45 := by rw [← UInt8.toNat_inj]; exact h3
                    have HY2 := Lib.hid (HY.out (by rw [HE.out, e3]; rfl))
                    clear h3 e3
                    go_wp2_with fail
                    go_round
                    case rel => exact ⟨k + 1, by omega, by go_num, HY2⟩
                    case measure => simp [intOf]; omega
                  · have n1 : ((c.toNat : Int) != 45) = true := by simp; omega
                    have HN2 := Lib.hid (HN.out (by rw [HE.out]; rw [beq_eq_false_iff_ne]; intro e; exact h3 (by rw [e]; rfl)))
                    clear h3
                    go_wp2_with fail
                    go_ret
                    exact ⟨by rw [HN2.out]; rfl, rfl⟩
                · have HY2 := Lib.hid (HY.out (At.nameC_dig h2))
                  clear h2
                  go_wp2_with fail
                  go_round
                  case rel => exact ⟨k + 1, by omega, by go_num, HY2⟩
                  case measure => simp [intOf]; omega
            · obtain ⟨_, _, b1, b2⟩ := low_facts c h1
              have HY2 := Lib.hid (HY.out (At.nameC_low h1))
              clear h1
              go_wp2_with fail
              go_round
              case rel => exact ⟨k + 1, by omega, by go_num, HY2⟩
              case measure => simp [intOf]; omega
          · obtain rfl : k = l.length := by omega
            have HRT : Hid (R = true) := by show _ = _; rw [HRA.out]; have h := HK.out; rwa [List.take_length] at h
            go_wp2_with fail
            go_ret
            exact ⟨by rw [HRT.out]; rfl, rfl⟩
end Go.Proofs.YtojhapnodjabdaaGreatDoor
namespace Go.Proofs.YtojhapnodjabdaaGreatDoor
open Go.RowKit At Lk
attribute [local go_sem ↓] Go.wp_at_zero Go.wp_at_succ
theorem refVersion_any (v : List UInt8) (w : World) : Calls Tryz.prog 30 #[.string ⟨v.toArray⟩] w fun e w' => e = .returned (.int .i64 (verE v)) ∧ Below w.heap.size w w' := by
  have HC := Lib.hid (refCanon_any v w)
  obtain ⟨R, hR⟩ : ∃ R, verE v = R := ⟨_, rfl⟩
  rw [hR]
  unfold verE at hR
  have hcn : Vm.check v = 0 → canonOf v = Vm.canon v := fun h => by rw [canonOf, if_pos h]
  obtain ⟨k, hk⟩ : ∃ k, Vm.check v = k := ⟨_, rfl⟩
  rw [hk] at HC hR hcn
  by_cases h0 : k = 0
  · rw [if_pos h0, ← hcn h0] at hR
    subst h0
    obtain ⟨x, hx⟩ : ∃ x, canonOf v = x := ⟨_, rfl⟩
    rw [hx] at HC hR
    clear hx hcn hk
    by_cases hv : x = v
    · rw [if_pos hv] at hR
      subst hR
      have e : (x == v) = true := by simpa using hv
      clear hv
      go_enter Tryz.func30, Tryz.ntmps30
      go_wp2_with fail
      refine HC.out.mono ?_
      rintro _ u ⟨rfl, hb⟩
      have HB := Lib.hid hb
      clear hb
      go_wp2_with fail
      go_ret
      exact ⟨rfl, HB.out⟩
    · rw [if_neg hv] at hR
      subst hR
      have e : (x == v) = false := beq_eq_false_iff_ne.2 hv
      clear hv
      go_enter Tryz.func30, Tryz.ntmps30
      go_wp2_with fail
      refine HC.out.mono ?_
      rintro _ u ⟨rfl, hb⟩
      have HB := Lib.hid hb
      clear hb
      go_wp2_with fail
      go_ret
      exact ⟨rfl, HB.out⟩
  · rw [if_neg h0] at hR
    subst hR
    clear hcn hk
    go_enter Tryz.func30, Tryz.ntmps30
    go_wp2_with fail
    refine HC.out.mono ?_
    rintro _ u ⟨rfl, hb⟩
    have HB := Lib.hid hb
    clear hb
    go_wp2_with fail
    go_ret
    exact ⟨rfl, HB.out⟩
end Go.Proofs.YtojhapnodjabdaaGreatDoor

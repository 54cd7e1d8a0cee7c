/- The leaves of the reader of stanzas, walked: what is raised with a line, which byte may stand where. -/
import Derived.Test.YtmhobdlhmkbkdaaDoorSa
import Derived.Test.YtmhobdlhmkbkdaaDoorBr
namespace Go.Proofs.YtmhobdlhmkbkdaaDoor
open Go.RowKit
/-- How a panic with an error number and a line leaves a function. -/
abbrev panAt (k n : Int) : Ending := .panicked [{ v := .iface 73 (.agg #[.int .i64 k, .int .i64 n]), recovered := false }]
set_option maxHeartbeats 400000 in
theorem requireAt_yes {k n : Int} (w : World) : Calls Tryd.prog 33 #[.bool true, .int .i64 k, .int .i64 n] w fun e w' => e = .returned (.tuple #[]) ∧ w = w' := by
  go_enter Tryd.func33, Tryd.ntmps33
  go_wp2_with fail
  go_end0
  exact ⟨rfl, rfl⟩
set_option maxHeartbeats 400000 in
theorem requireAt_no {k n : Int} (w : World) : Calls Tryd.prog 33 #[.bool false, .int .i64 k, .int .i64 n] w fun e w' => e = panAt k n ∧ w = w' := by
  go_enter Tryd.func33, Tryd.ntmps33
  go_wp2_with fail
  exact ⟨rfl, rfl, rfl⟩
set_option maxRecDepth 100000 in
set_option maxHeartbeats 400000 in
theorem raisedAt_placed (k n : Int) {o : Int} (w : World) :
    Calls Tryd.prog 19 #[.iface 73 (.agg #[.int .i64 k, .int .i64 n]), .int .i64 o] w fun e w' => e = .returned (.tuple #[.int .i64 k, .int .i64 n]) ∧ Below w.heap.size w w' := by
  have hta : ∀ W : World, (Instr.typeAssert (.iface 73 (.agg #[.int .i64 k, .int .i64 n])) 20 24 true).run Tryd.prog W = .ok (.tuple #[.int .i64 0, .bool false]) W := fun _ => by kernel_rfl
  have htb : ∀ W : World, (Instr.typeAssert (.iface 73 (.agg #[.int .i64 k, .int .i64 n])) 20 73 true).run Tryd.prog W = .ok (.tuple #[.agg #[.int .i64 k, .int .i64 n], .bool true]) W := fun _ => by kernel_rfl
  go_enter Tryd.func19, Tryd.ntmps19
  go_wp2_with fail
  go_quiet (fail)
  go_wp2_with fail
  go_ret2
  refine ⟨rfl, below_drewN ?_ _⟩
  first
    | exact (Below.refl _ _).alloc (Nat.le_refl _) _
    | exact ((Below.refl _ _).alloc (Nat.le_refl _) _).setCell (Nat.le_refl _) _
    | exact Below.setCell (Below.setCell ((Below.refl _ _).alloc (Nat.le_refl _) _) (by simp) _) (by simp) _
    | trace_state
/-! Letters, keys, values. -/
theorem all_snocZ (l : List UInt8) (p : UInt8 → Bool) (k : Nat) (h : k < l.length) : (l.take (k + 1)).all p = ((l.take k).all p && p l[k]) := by
  rw [List.take_succ_eq_append_getElem h, List.all_append]; simp only [List.all_cons, List.all_nil, Bool.and_true]
theorem all_falseZ (l : List UInt8) (p : UInt8 → Bool) (k : Nat) (h : k < l.length) (hp : p l[k] = false) : l.all p = false := by
  rw [Bool.eq_false_iff]; intro ha; rw [List.all_eq_true] at ha; have := ha _ (List.getElem_mem h); simp [hp] at this
set_option maxHeartbeats 400000 in
theorem sLetter_any (c : UInt8) (w : World) :
    Calls Tryd.prog 50 #[.int .u8 c.toNat] w fun e w' => e = .returned (.bool (Vm.ltr c)) ∧ w = w' := by
  unfold Vm.ltr
  by_cases h1 : 97 ≤ c.toNat <;> by_cases h2 : c.toNat ≤ 122 <;> by_cases h3 : 65 ≤ c.toNat <;> by_cases h4 : c.toNat ≤ 90
  all_goals
    go_enter Tryd.func50, Tryd.ntmps50
    go_wp2
  all_goals
    go_ret
    exact ⟨by first | (simp [h1, h2, h3, h4]; done) | (simp [h1, h2, h3, h4]; omega), rfl⟩
set_option maxRecDepth 100000 in
set_option maxHeartbeats 800000 in
theorem isKey_any (l : List UInt8) (w : World) (hm : l.length ≤ 1000000) :
    Calls Tryd.prog 44 #[.string ⟨l.toArray⟩] w fun e w' => e = .returned (.bool (Sz.keyB l)) ∧ w = w' := by
  obtain ⟨R, hR⟩ : ∃ R, Sz.keyB l = R := ⟨_, rfl⟩
  rw [hR]
  have HF : Hid (l.all Vm.ltr = false → R = false) := fun h => by rw [← hR]; unfold Sz.keyB; rw [h]; rfl
  have HT : Hid (l.all Vm.ltr = true → R = (!l.isEmpty && decide (l.length ≤ 16))) := fun h => by rw [← hR]; unfold Sz.keyB; rw [h]; rfl
  clear hR
  go_enter Tryd.func44, Tryd.ntmps44
  go_wp2_with fail
  go_loop [6] (fun i => ∃ k : Nat, k ≤ l.length ∧ i = .int .i64 k ∧ Hid ((l.take k).all Vm.ltr = true)) (fun i => l.length - (intOf i).toNat)
  case atStart => exact ⟨0, Nat.zero_le _, rfl, rfl⟩
  case round =>
    obtain ⟨k, hk, rfl, HK⟩ := hrel
    by_cases hlt : k < l.length
    · obtain ⟨c, hc, hc'⟩ := byte_at l k hlt
      have HS := Lib.hid (all_snocZ l Vm.ltr k hlt)
      rw [hc'] at HS
      cases h1 : Vm.ltr c
      · have HR : Hid (R = false) := HF.out (all_falseZ l Vm.ltr k hlt (by rw [hc']; exact h1))
        have HL := Lib.hid h1
        clear h1 hc' HS
        go_wp2_with fail
        refine (sLetter_any c _).mono ?_
        rintro _ z ⟨rfl, rfl⟩
        rw [HL.out]
        go_wp2_with fail
        go_ret
        exact ⟨by rw [HR.out]; rfl, rfl⟩
      · have HY : Hid ((l.take (k + 1)).all Vm.ltr = true) := by show _ = _; rw [HS.out, HK.out, h1]; rfl
        have HL := Lib.hid h1
        clear h1 hc' HS
        go_wp2_with fail
        refine (sLetter_any c _).mono ?_
        rintro _ z ⟨rfl, rfl⟩
        rw [HL.out]
        go_wp2_with fail
        go_round
        case rel => exact ⟨k + 1, by omega, by go_num, HY⟩
        case measure => simp [intOf]; omega
    · obtain rfl : k = l.length := by omega
      have HR : Hid (R = (!l.isEmpty && decide (l.length ≤ 16))) := HT.out (by have := HK.out; rwa [List.take_length] at this)
      cases he : l.isEmpty
      · by_cases h16 : l.length ≤ 16
        · have d0 : decide ((l.length : Int) ≤ 16) = true := decide_eq_true (by omega)
          have HRR : Hid (R = true) := by show _ = _; rw [HR.out, he, decide_eq_true h16]; rfl
          clear h16 HF HT HR
          go_wp2_with fail
          go_ret
          exact ⟨by rw [HRR.out]; rfl, rfl⟩
        · have d0 : decide ((l.length : Int) ≤ 16) = false := decide_eq_false (by omega)
          have HRR : Hid (R = false) := by show _ = _; rw [HR.out, decide_eq_false h16, Bool.and_false]
          clear h16 HF HT HR
          go_wp2_with fail
          go_ret
          exact ⟨by rw [HRR.out]; rfl, rfl⟩
      · have HRR : Hid (R = false) := by show _ = _; rw [HR.out, he]; rfl
        clear HF HT HR
        go_wp2_with fail
        go_ret
        exact ⟨by rw [HRR.out]; rfl, rfl⟩
theorem val_cases (c : UInt8) : (Sz.valC c = true ∧ decide ((c.toNat : Int) < 32) = false ∧ decide ((126 : Int) < (c.toNat : Int)) = false) ∨ (Sz.valC c = false ∧ decide ((c.toNat : Int) < 32) = true) ∨ (Sz.valC c = false ∧ decide ((c.toNat : Int) < 32) = false ∧ decide ((126 : Int) < (c.toNat : Int)) = true) := by
  unfold Sz.valC
  by_cases h1 : 32 ≤ c.toNat
  · by_cases h2 : c.toNat ≤ 126
    · left; exact ⟨by rw [decide_eq_true h1, decide_eq_true h2]; rfl, decide_eq_false (by omega), decide_eq_false (by omega)⟩
    · right; right; exact ⟨by rw [decide_eq_false h2, Bool.and_false], decide_eq_false (by omega), decide_eq_true (by omega)⟩
  · right; left; exact ⟨by rw [decide_eq_false h1]; rfl, decide_eq_true (by omega)⟩
set_option maxRecDepth 100000 in
set_option maxHeartbeats 800000 in
theorem isValue_any (l : List UInt8) (w : World) (hm : l.length ≤ 1000000) :
    Calls Tryd.prog 45 #[.string ⟨l.toArray⟩] w fun e w' => e = .returned (.bool (Sz.valB l)) ∧ w = w' := by
  obtain ⟨R, hR⟩ : ∃ R, Sz.valB l = R := ⟨_, rfl⟩
  rw [hR]
  have HF : Hid (l.all Sz.valC = false → R = false) := fun h => by rw [← hR]; exact h
  have HT : Hid (l.all Sz.valC = true → R = true) := fun h => by rw [← hR]; exact h
  clear hR
  go_enter Tryd.func45, Tryd.ntmps45
  go_wp2_with fail
  go_loop [6] (fun i => ∃ k : Nat, k ≤ l.length ∧ i = .int .i64 k ∧ Hid ((l.take k).all Sz.valC = true)) (fun i => l.length - (intOf i).toNat)
  case atStart => exact ⟨0, Nat.zero_le _, rfl, rfl⟩
  case round =>
    obtain ⟨k, hk, rfl, HK⟩ := hrel
    by_cases hlt : k < l.length
    · obtain ⟨c, hc, hc'⟩ := byte_at l k hlt
      have HS := Lib.hid (all_snocZ l Sz.valC k hlt)
      rw [hc'] at HS
      rcases val_cases c with ⟨h1, d1, d2⟩ | ⟨h1, d1⟩ | ⟨h1, d1, d2⟩
      · have HY : Hid ((l.take (k + 1)).all Sz.valC = true) := by show _ = _; rw [HS.out, HK.out, h1]; rfl
        clear h1 hc' HS
        go_wp2_with fail
        go_round
        case rel => exact ⟨k + 1, by omega, by go_num, HY⟩
        case measure => simp [intOf]; omega
      all_goals
        have HR : Hid (R = false) := HF.out (all_falseZ l Sz.valC k hlt (by rw [hc']; exact h1))
        clear h1 hc' HS
        go_wp2_with fail
        go_ret
        exact ⟨by rw [HR.out]; rfl, rfl⟩
    · obtain rfl : k = l.length := by omega
      have HR : Hid (R = true) := HT.out (by have := HK.out; rwa [List.take_length] at this)
      clear HF HT
      go_wp2_with fail
      go_ret
      exact ⟨by rw [HR.out]; rfl, rfl⟩
end Go.Proofs.YtmhobdlhmkbkdaaDoor

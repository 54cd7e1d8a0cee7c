/- The reference's reading of a line as a field: walked. -/
import Derived.Test.YtmhobdlhmkbkdaaDoorUf
import Derived.StillTailTactics
namespace Go.Proofs.YtmhobdlhmkbkdaaDoor
open Go.RowKit Go.Maps Sz
attribute [local go_sem ↓] Go.wp_at_zero Go.wp_at_succ
set_option maxHeartbeats 400000 in
theorem Sz.refLetter_any (c : UInt8) (w : World) :
    Calls Tryd.prog 37 #[.int .u8 c.toNat] w fun e w' => e = .returned (.bool (Vm.ltr c)) ∧ w = w' := by
  unfold Vm.ltr
  by_cases h1 : 97 ≤ c.toNat <;> by_cases h2 : c.toNat ≤ 122 <;> by_cases h3 : 65 ≤ c.toNat <;> by_cases h4 : c.toNat ≤ 90
  all_goals
    go_enter Tryd.func37, Tryd.ntmps37
    go_wp2
  all_goals
    go_ret
    exact ⟨by first | (simp [h1, h2, h3, h4]; done) | (simp [h1, h2, h3, h4]; omega), rfl⟩
def Sz.fpart (s : List UInt8) (k : Nat) : Prop := 1 ≤ k ∧ k ≤ 16 ∧ s[k]? = some 58 ∧ s[k + 1]? = some 32
/-- What the reading of a line hands back: the field, its line not yet known. -/
def Sz.RFieldRet (w : World) (R : Option Fld) (e : Ending) (w' : World) : Prop := Below w.heap.size w w' ∧ match R with
  | some f => e = .returned (.tuple #[.agg #[.string ⟨f.key.toArray⟩, .string ⟨f.val.toArray⟩, .int .i64 0], .bool true])
  | none => e = .returned (.tuple #[.agg #[.string ⟨#[]⟩, .string ⟨#[]⟩, .int .i64 0], .bool false])
/-- A line told as a field without its number. -/
theorem Sz.field_line (s : List UInt8) (n m : Int) : fieldP s n = (fieldP s m).map (fun f => ⟨f.key, f.val, n⟩) := by
  unfold fieldP
  split <;> rfl
theorem Sz.u8_ne {b : UInt8} {k : Nat} (hk : k < 256) (h : b ≠ UInt8.ofNat k) : ((b.toNat : Int) != k) = true := by
  rw [bne_iff_ne]; intro e
  refine h (UInt8.toNat_inj.1 ?_)
  rw [UInt8.toNat_ofNat']
  have : b.toNat = k := by omega
  rw [this, Nat.mod_eq_of_lt hk]
theorem Sz.u8_eq {b : UInt8} {k : Nat} (hk : k < 256) (h : b = UInt8.ofNat k) : ((b.toNat : Int) != k) = false := by
  have : b.toNat = k := by rw [h, UInt8.toNat_ofNat', Nat.mod_eq_of_lt hk]
  rw [this]; simp
set_option maxRecDepth 100000 in
set_option maxHeartbeats 3200000 in
theorem refField_any (s : List UInt8) (w : World) (hs : s.length ≤ 100000) :
    Calls Tryd.prog 22 #[.string ⟨s.toArray⟩] w (Sz.RFieldRet w (fieldP s 0)) := by
  obtain ⟨R, hR⟩ : ∃ R, fieldP s 0 = R := ⟨_, rfl⟩
  rw [hR]
  rw [field_scan] at hR
  obtain ⟨W1, hW1⟩ : ∃ W, w.alloc (.cells #[.string ⟨#[]⟩, .string ⟨#[]⟩, .int .i64 0] 46) = W := ⟨_, rfl⟩
  have HBW : Hid (Below w.heap.size w W1) := alloc_low hW1
  have HC3 : Hid (∀ u, Below W1.heap.size W1 u → u.cell? ⟨w.heap.size, 0, none⟩ = some (.string ⟨#[]⟩) ∧ u.cell? ⟨w.heap.size, 1, none⟩ = some (.string ⟨#[]⟩) ∧ u.cell? ⟨w.heap.size, 2, none⟩ = some (.int .i64 0) ∧ u.frozen? ⟨w.heap.size, 0, none⟩ = false ∧ u.frozen? ⟨w.heap.size, 1, none⟩ = false ∧ u.frozen? ⟨w.heap.size, 2, none⟩ = false) := fun u hb => cell_three hW1 hb
  obtain ⟨b0, b1, b2, f0, f1, f2⟩ := HC3.out _ (Below.refl _ _)
  have HR := Lib.hid hR
  clear hR
  go_enter Tryd.func22, Tryd.ntmps22
  go_wp2_with fail
  go_loop [4] (fun i => ∃ k : Nat, k ≤ s.length ∧ i = .int .i64 k ∧ Hid ((s.take k).all Vm.ltr = true)) (fun i => s.length - (intOf i).toNat)
  case atStart => exact ⟨0, Nat.zero_le _, rfl, rfl⟩
  case round =>
    obtain ⟨k, hk, rfl, HA⟩ := hrel
    by_cases hlt : k < s.length
    · obtain ⟨b, hb, hbl⟩ := byte_at s k hlt
      cases hl : Vm.ltr b
      · have HK : Hid (kLen s = k) := kLen_step hlt HA.out (by rw [hbl]; exact hl)
        have hr := HR.out
        rw [HK.out] at hr
        go_wp2_with fail
        refine (refLetter_any b _).mono ?_
        rintro _ z ⟨rfl, rfl⟩
        rw [hl]
        clear hl
        by_cases k0 : k = 0
        · have HE : Hid (R = none) := by show _ = _; rw [← hr, if_neg (by omega)]
          subst k0
          clear hr
          go_wp2_with fail
          clear hW1
          have HBV : Hid (Below w.heap.size w (((W1.setCell ⟨w.heap.size, 0, none⟩ (.string ⟨#[]⟩)).setCell ⟨w.heap.size, 1, none⟩ (.string ⟨#[]⟩)).setCell ⟨w.heap.size, 2, none⟩ (.int .i64 0))) := ((HBW.out.setCell (Nat.le_refl _) _).setCell (Nat.le_refl _) _).setCell (Nat.le_refl _) _
          have g0 : (((W1.setCell ⟨w.heap.size, 0, none⟩ (.string ⟨#[]⟩)).setCell ⟨w.heap.size, 1, none⟩ (.string ⟨#[]⟩)).setCell ⟨w.heap.size, 2, none⟩ (.int .i64 0)).cell? ⟨w.heap.size, 0, none⟩ = some (.string ⟨#[]⟩) := by simp [go_sem, b0]
          have g1 : (((W1.setCell ⟨w.heap.size, 0, none⟩ (.string ⟨#[]⟩)).setCell ⟨w.heap.size, 1, none⟩ (.string ⟨#[]⟩)).setCell ⟨w.heap.size, 2, none⟩ (.int .i64 0)).cell? ⟨w.heap.size, 1, none⟩ = some (.string ⟨#[]⟩) := by simp [go_sem, b1]
          have g2 : (((W1.setCell ⟨w.heap.size, 0, none⟩ (.string ⟨#[]⟩)).setCell ⟨w.heap.size, 1, none⟩ (.string ⟨#[]⟩)).setCell ⟨w.heap.size, 2, none⟩ (.int .i64 0)).cell? ⟨w.heap.size, 2, none⟩ = some (.int .i64 0) := by simp [go_sem, b2]
          generalize (((W1.setCell ⟨w.heap.size, 0, none⟩ (.string ⟨#[]⟩)).setCell ⟨w.heap.size, 1, none⟩ (.string ⟨#[]⟩)).setCell ⟨w.heap.size, 2, none⟩ (.int .i64 0)) = V at *
          refine bodyPost_ret (v := .tuple #[.agg #[.string ⟨#[]⟩, .string ⟨#[]⟩, .int .i64 0], .bool false]) ?_ rfl ?_
          · simp [results, Tryd.results22, go_sem, g0, g1, g2]
          · show RFieldRet w R _ _
            rw [HE.out]; exact ⟨HBV.out, rfl⟩
        have q1 : decide ((k : Int) < 1) = false := decide_eq_false (by omega)
        by_cases k16 : 16 < k
        · have HE : Hid (R = none) := by show _ = _; rw [← hr, if_neg (by omega)]
          clear hr
          go_wp2_with fail
          clear hW1
          have HBV : Hid (Below w.heap.size w (((W1.setCell ⟨w.heap.size, 0, none⟩ (.string ⟨#[]⟩)).setCell ⟨w.heap.size, 1, none⟩ (.string ⟨#[]⟩)).setCell ⟨w.heap.size, 2, none⟩ (.int .i64 0))) := ((HBW.out.setCell (Nat.le_refl _) _).setCell (Nat.le_refl _) _).setCell (Nat.le_refl _) _
          have g0 : (((W1.setCell ⟨w.heap.size, 0, none⟩ (.string ⟨#[]⟩)).setCell ⟨w.heap.size, 1, none⟩ (.string ⟨#[]⟩)).setCell ⟨w.heap.size, 2, none⟩ (.int .i64 0)).cell? ⟨w.heap.size, 0, none⟩ = some (.string ⟨#[]⟩) := by simp [go_sem, b0]
          have g1 : (((W1.setCell ⟨w.heap.size, 0, none⟩ (.string ⟨#[]⟩)).setCell ⟨w.heap.size, 1, none⟩ (.string ⟨#[]⟩)).setCell ⟨w.heap.size, 2, none⟩ (.int .i64 0)).cell? ⟨w.heap.size, 1, none⟩ = some (.string ⟨#[]⟩) := by simp [go_sem, b1]
          have g2 : (((W1.setCell ⟨w.heap.size, 0, none⟩ (.string ⟨#[]⟩)).setCell ⟨w.heap.size, 1, none⟩ (.string ⟨#[]⟩)).setCell ⟨w.heap.size, 2, none⟩ (.int .i64 0)).cell? ⟨w.heap.size, 2, none⟩ = some (.int .i64 0) := by simp [go_sem, b2]
          generalize (((W1.setCell ⟨w.heap.size, 0, none⟩ (.string ⟨#[]⟩)).setCell ⟨w.heap.size, 1, none⟩ (.string ⟨#[]⟩)).setCell ⟨w.heap.size, 2, none⟩ (.int .i64 0)) = V at *
          refine bodyPost_ret (v := .tuple #[.agg #[.string ⟨#[]⟩, .string ⟨#[]⟩, .int .i64 0], .bool false]) ?_ rfl ?_
          · simp [results, Tryd.results22, go_sem, g0, g1, g2]
          · show RFieldRet w R _ _
            rw [HE.out]; exact ⟨HBV.out, rfl⟩
        have q2 : decide ((16 : Int) < (k : Int)) = false := decide_eq_false (by omega)
        by_cases kl : s.length < k + 2
        · have HE : Hid (R = none) := by
            show _ = _; rw [← hr, if_neg]
            rintro ⟨_, _, _, h5, _⟩
            have := (List.getElem?_eq_some_iff.1 h5).1
            omega
          clear hr
          go_wp2_with fail
          clear hW1
          have HBV : Hid (Below w.heap.size w (((W1.setCell ⟨w.heap.size, 0, none⟩ (.string ⟨#[]⟩)).setCell ⟨w.heap.size, 1, none⟩ (.string ⟨#[]⟩)).setCell ⟨w.heap.size, 2, none⟩ (.int .i64 0))) := ((HBW.out.setCell (Nat.le_refl _) _).setCell (Nat.le_refl _) _).setCell (Nat.le_refl _) _
          have g0 : (((W1.setCell ⟨w.heap.size, 0, none⟩ (.string ⟨#[]⟩)).setCell ⟨w.heap.size, 1, none⟩ (.string ⟨#[]⟩)).setCell ⟨w.heap.size, 2, none⟩ (.int .i64 0)).cell? ⟨w.heap.size, 0, none⟩ = some (.string ⟨#[]⟩) := by simp [go_sem, b0]
          have g1 : (((W1.setCell ⟨w.heap.size, 0, none⟩ (.string ⟨#[]⟩)).setCell ⟨w.heap.size, 1, none⟩ (.string ⟨#[]⟩)).setCell ⟨w.heap.size, 2, none⟩ (.int .i64 0)).cell? ⟨w.heap.size, 1, none⟩ = some (.string ⟨#[]⟩) := by simp [go_sem, b1]
          have g2 : (((W1.setCell ⟨w.heap.size, 0, none⟩ (.string ⟨#[]⟩)).setCell ⟨w.heap.size, 1, none⟩ (.string ⟨#[]⟩)).setCell ⟨w.heap.size, 2, none⟩ (.int .i64 0)).cell? ⟨w.heap.size, 2, none⟩ = some (.int .i64 0) := by simp [go_sem, b2]
          generalize (((W1.setCell ⟨w.heap.size, 0, none⟩ (.string ⟨#[]⟩)).setCell ⟨w.heap.size, 1, none⟩ (.string ⟨#[]⟩)).setCell ⟨w.heap.size, 2, none⟩ (.int .i64 0)) = V at *
          refine bodyPost_ret (v := .tuple #[.agg #[.string ⟨#[]⟩, .string ⟨#[]⟩, .int .i64 0], .bool false]) ?_ rfl ?_
          · simp [results, Tryd.results22, go_sem, g0, g1, g2]
          · show RFieldRet w R _ _
            rw [HE.out]; exact ⟨HBV.out, rfl⟩
        have q3 : decide ((s.length : Int) < (k : Int) + 2) = false := decide_eq_false (by omega)
        have hk1 : k + 1 < s.length := by omega
        have h58 : s[k]? = some b := by rw [List.getElem?_eq_getElem hlt, hbl]
        by_cases hb58 : b = 58
        case neg =>
          have HE : Hid (R = none) := by
            show _ = _; rw [← hr, if_neg]
            rintro ⟨_, _, h4, _⟩
            rw [h58] at h4; exact hb58 (Option.some.inj h4)
          have d1 : ((b.toNat : Int) != 58) = true := u8_ne (b := b) (k := 58) (by decide) hb58
          clear hr
          go_wp2_with fail
          clear hW1
          have HBV : Hid (Below w.heap.size w (((W1.setCell ⟨w.heap.size, 0, none⟩ (.string ⟨#[]⟩)).setCell ⟨w.heap.size, 1, none⟩ (.string ⟨#[]⟩)).setCell ⟨w.heap.size, 2, none⟩ (.int .i64 0))) := ((HBW.out.setCell (Nat.le_refl _) _).setCell (Nat.le_refl _) _).setCell (Nat.le_refl _) _
          have g0 : (((W1.setCell ⟨w.heap.size, 0, none⟩ (.string ⟨#[]⟩)).setCell ⟨w.heap.size, 1, none⟩ (.string ⟨#[]⟩)).setCell ⟨w.heap.size, 2, none⟩ (.int .i64 0)).cell? ⟨w.heap.size, 0, none⟩ = some (.string ⟨#[]⟩) := by simp [go_sem, b0]
          have g1 : (((W1.setCell ⟨w.heap.size, 0, none⟩ (.string ⟨#[]⟩)).setCell ⟨w.heap.size, 1, none⟩ (.string ⟨#[]⟩)).setCell ⟨w.heap.size, 2, none⟩ (.int .i64 0)).cell? ⟨w.heap.size, 1, none⟩ = some (.string ⟨#[]⟩) := by simp [go_sem, b1]
          have g2 : (((W1.setCell ⟨w.heap.size, 0, none⟩ (.string ⟨#[]⟩)).setCell ⟨w.heap.size, 1, none⟩ (.string ⟨#[]⟩)).setCell ⟨w.heap.size, 2, none⟩ (.int .i64 0)).cell? ⟨w.heap.size, 2, none⟩ = some (.int .i64 0) := by simp [go_sem, b2]
          generalize (((W1.setCell ⟨w.heap.size, 0, none⟩ (.string ⟨#[]⟩)).setCell ⟨w.heap.size, 1, none⟩ (.string ⟨#[]⟩)).setCell ⟨w.heap.size, 2, none⟩ (.int .i64 0)) = V at *
          refine bodyPost_ret (v := .tuple #[.agg #[.string ⟨#[]⟩, .string ⟨#[]⟩, .int .i64 0], .bool false]) ?_ rfl ?_
          · simp [results, Tryd.results22, go_sem, g0, g1, g2]
          · show RFieldRet w R _ _
            rw [HE.out]; exact ⟨HBV.out, rfl⟩
        have d1 : ((b.toNat : Int) != 58) = false := u8_eq (b := b) (k := 58) (by decide) hb58
        obtain ⟨e, he, hel⟩ := byte_at s (k + 1) hk1
        have h32 : s[k + 1]? = some e := by rw [List.getElem?_eq_getElem hk1, hel]
        by_cases hb32 : e = 32
        case neg =>
          have HE : Hid (R = none) := by
            show _ = _; rw [← hr, if_neg]
            rintro ⟨_, _, _, h5, _⟩
            rw [h32] at h5; exact hb32 (Option.some.inj h5)
          have d2 : ((e.toNat : Int) != 32) = true := u8_ne (b := e) (k := 32) (by decide) hb32
          clear hr
          go_wp2_with fail
          clear hW1
          have HBV : Hid (Below w.heap.size w (((W1.setCell ⟨w.heap.size, 0, none⟩ (.string ⟨#[]⟩)).setCell ⟨w.heap.size, 1, none⟩ (.string ⟨#[]⟩)).setCell ⟨w.heap.size, 2, none⟩ (.int .i64 0))) := ((HBW.out.setCell (Nat.le_refl _) _).setCell (Nat.le_refl _) _).setCell (Nat.le_refl _) _
          have g0 : (((W1.setCell ⟨w.heap.size, 0, none⟩ (.string ⟨#[]⟩)).setCell ⟨w.heap.size, 1, none⟩ (.string ⟨#[]⟩)).setCell ⟨w.heap.size, 2, none⟩ (.int .i64 0)).cell? ⟨w.heap.size, 0, none⟩ = some (.string ⟨#[]⟩) := by simp [go_sem, b0]
          have g1 : (((W1.setCell ⟨w.heap.size, 0, none⟩ (.string ⟨#[]⟩)).setCell ⟨w.heap.size, 1, none⟩ (.string ⟨#[]⟩)).setCell ⟨w.heap.size, 2, none⟩ (.int .i64 0)).cell? ⟨w.heap.size, 1, none⟩ = some (.string ⟨#[]⟩) := by simp [go_sem, b1]
          have g2 : (((W1.setCell ⟨w.heap.size, 0, none⟩ (.string ⟨#[]⟩)).setCell ⟨w.heap.size, 1, none⟩ (.string ⟨#[]⟩)).setCell ⟨w.heap.size, 2, none⟩ (.int .i64 0)).cell? ⟨w.heap.size, 2, none⟩ = some (.int .i64 0) := by simp [go_sem, b2]
          generalize (((W1.setCell ⟨w.heap.size, 0, none⟩ (.string ⟨#[]⟩)).setCell ⟨w.heap.size, 1, none⟩ (.string ⟨#[]⟩)).setCell ⟨w.heap.size, 2, none⟩ (.int .i64 0)) = V at *
          refine bodyPost_ret (v := .tuple #[.agg #[.string ⟨#[]⟩, .string ⟨#[]⟩, .int .i64 0], .bool false]) ?_ rfl ?_
          · simp [results, Tryd.results22, go_sem, g0, g1, g2]
          · show RFieldRet w R _ _
            rw [HE.out]; exact ⟨HBV.out, rfl⟩
        have d2 : ((e.toNat : Int) != 32) = false := u8_eq (b := e) (k := 32) (by decide) hb32
        have HR2 : Hid (R = if valB (s.drop (k + 2)) = true then some ⟨s.take k, s.drop (k + 2), 0⟩ else none) := by
          show _ = _
          rw [← hr]
          by_cases hv : valB (s.drop (k + 2)) = true
          · rw [if_pos ⟨by omega, by omega, by rw [h58, hb58], by rw [h32, hb32], hv⟩, if_pos hv]
          · rw [if_neg (fun h => hv h.2.2.2.2), if_neg hv]
        clear hr
        go_wp2_with fail
        clear h58 h32 hb58 hb32 d1 d2 q1 q2 q3 hb he hbl hel
        go_loop [5] (fun i => ∃ q : Nat, q ≤ s.length ∧ k + 2 ≤ q ∧ i = .int .i64 q ∧ Hid (((s.drop (k + 2)).take (q - (k + 2))).all valC = true)) (fun i => s.length - (intOf i).toNat)
        case atStart => exact ⟨k + 2, by omega, Nat.le_refl _, by go_num, by show _ = _; rw [Nat.sub_self]; rfl⟩
        case round =>
          obtain ⟨q, hq, hq2, rfl, HV⟩ := hrel
          by_cases hlt2 : q < s.length
          · obtain ⟨b, hb, hbl⟩ := byte_at s q hlt2
            have hdl : q - (k + 2) < (s.drop (k + 2)).length := by rw [List.length_drop]; omega
            have hde : (s.drop (k + 2))[q - (k + 2)] = b := by rw [List.getElem_drop, ← hbl]; congr 1; omega
            have hsn := all_snocZ (s.drop (k + 2)) valC (q - (k + 2)) hdl
            rw [hde] at hsn
            have hvc : valC b = (decide (32 ≤ b.toNat) && decide (b.toNat ≤ 126)) := rfl
            by_cases h1 : b.toNat < 32
            · have d1 : decide ((b.toNat : Int) < 32) = true := decide_eq_true (by omega)
              have hvf : valC b = false := by rw [hvc, decide_eq_false (by omega)]; rfl
              have HE : Hid (R = none) := by
                show _ = _; rw [HR2.out, if_neg]
                rw [Bool.not_eq_true]
                exact all_falseZ _ _ _ hdl (by rw [hde]; exact hvf)
              clear hsn hdl hde hvc hbl hvf
              go_wp2_with fail
              clear hW1
              have HBV : Hid (Below w.heap.size w (((W1.setCell ⟨w.heap.size, 0, none⟩ (.string ⟨#[]⟩)).setCell ⟨w.heap.size, 1, none⟩ (.string ⟨#[]⟩)).setCell ⟨w.heap.size, 2, none⟩ (.int .i64 0))) := ((HBW.out.setCell (Nat.le_refl _) _).setCell (Nat.le_refl _) _).setCell (Nat.le_refl _) _
              have g0 : (((W1.setCell ⟨w.heap.size, 0, none⟩ (.string ⟨#[]⟩)).setCell ⟨w.heap.size, 1, none⟩ (.string ⟨#[]⟩)).setCell ⟨w.heap.size, 2, none⟩ (.int .i64 0)).cell? ⟨w.heap.size, 0, none⟩ = some (.string ⟨#[]⟩) := by simp [go_sem, b0]
              have g1 : (((W1.setCell ⟨w.heap.size, 0, none⟩ (.string ⟨#[]⟩)).setCell ⟨w.heap.size, 1, none⟩ (.string ⟨#[]⟩)).setCell ⟨w.heap.size, 2, none⟩ (.int .i64 0)).cell? ⟨w.heap.size, 1, none⟩ = some (.string ⟨#[]⟩) := by simp [go_sem, b1]
              have g2 : (((W1.setCell ⟨w.heap.size, 0, none⟩ (.string ⟨#[]⟩)).setCell ⟨w.heap.size, 1, none⟩ (.string ⟨#[]⟩)).setCell ⟨w.heap.size, 2, none⟩ (.int .i64 0)).cell? ⟨w.heap.size, 2, none⟩ = some (.int .i64 0) := by simp [go_sem, b2]
              generalize (((W1.setCell ⟨w.heap.size, 0, none⟩ (.string ⟨#[]⟩)).setCell ⟨w.heap.size, 1, none⟩ (.string ⟨#[]⟩)).setCell ⟨w.heap.size, 2, none⟩ (.int .i64 0)) = V at *
              refine bodyPost_ret (v := .tuple #[.agg #[.string ⟨#[]⟩, .string ⟨#[]⟩, .int .i64 0], .bool false]) ?_ rfl ?_
              · simp [results, Tryd.results22, go_sem, g0, g1, g2]
              · show RFieldRet w R _ _
                rw [HE.out]; exact ⟨HBV.out, rfl⟩
            by_cases h2 : 126 < b.toNat
            · have d1 : decide ((b.toNat : Int) < 32) = false := decide_eq_false (by omega)
              have d2 : decide ((126 : Int) < (b.toNat : Int)) = true := decide_eq_true (by omega)
              have hvf : valC b = false := by rw [hvc, decide_eq_false (p := b.toNat ≤ 126) (by omega), Bool.and_false]
              have HE : Hid (R = none) := by
                show _ = _; rw [HR2.out, if_neg]
                rw [Bool.not_eq_true]
                exact all_falseZ _ _ _ hdl (by rw [hde]; exact hvf)
              clear hsn hdl hde hvc hbl hvf
              go_wp2_with fail
              clear hW1
              have HBV : Hid (Below w.heap.size w (((W1.setCell ⟨w.heap.size, 0, none⟩ (.string ⟨#[]⟩)).setCell ⟨w.heap.size, 1, none⟩ (.string ⟨#[]⟩)).setCell ⟨w.heap.size, 2, none⟩ (.int .i64 0))) := ((HBW.out.setCell (Nat.le_refl _) _).setCell (Nat.le_refl _) _).setCell (Nat.le_refl _) _
              have g0 : (((W1.setCell ⟨w.heap.size, 0, none⟩ (.string ⟨#[]⟩)).setCell ⟨w.heap.size, 1, none⟩ (.string ⟨#[]⟩)).setCell ⟨w.heap.size, 2, none⟩ (.int .i64 0)).cell? ⟨w.heap.size, 0, none⟩ = some (.string ⟨#[]⟩) := by simp [go_sem, b0]
              have g1 : (((W1.setCell ⟨w.heap.size, 0, none⟩ (.string ⟨#[]⟩)).setCell ⟨w.heap.size, 1, none⟩ (.string ⟨#[]⟩)).setCell ⟨w.heap.size, 2, none⟩ (.int .i64 0)).cell? ⟨w.heap.size, 1, none⟩ = some (.string ⟨#[]⟩) := by simp [go_sem, b1]
              have g2 : (((W1.setCell ⟨w.heap.size, 0, none⟩ (.string ⟨#[]⟩)).setCell ⟨w.heap.size, 1, none⟩ (.string ⟨#[]⟩)).setCell ⟨w.heap.size, 2, none⟩ (.int .i64 0)).cell? ⟨w.heap.size, 2, none⟩ = some (.int .i64 0) := by simp [go_sem, b2]
              generalize (((W1.setCell ⟨w.heap.size, 0, none⟩ (.string ⟨#[]⟩)).setCell ⟨w.heap.size, 1, none⟩ (.string ⟨#[]⟩)).setCell ⟨w.heap.size, 2, none⟩ (.int .i64 0)) = V at *
              refine bodyPost_ret (v := .tuple #[.agg #[.string ⟨#[]⟩, .string ⟨#[]⟩, .int .i64 0], .bool false]) ?_ rfl ?_
              · simp [results, Tryd.results22, go_sem, g0, g1, g2]
              · show RFieldRet w R _ _
                rw [HE.out]; exact ⟨HBV.out, rfl⟩
            have d1 : decide ((b.toNat : Int) < 32) = false := decide_eq_false (by omega)
            have d2 : decide ((126 : Int) < (b.toNat : Int)) = false := decide_eq_false (by omega)
            have hvt : valC b = true := by rw [hvc, decide_eq_true (by omega), decide_eq_true (by omega)]; rfl
            have HV2 : Hid (((s.drop (k + 2)).take (q + 1 - (k + 2))).all valC = true) := by
              show _ = _
              rw [show q + 1 - (k + 2) = q - (k + 2) + 1 by omega, hsn, HV.out, hvt]; rfl
            clear hsn hdl hde hvc hbl hvt h1 h2
            go_wp2_with fail
            go_round
            case rel => exact ⟨q + 1, by omega, by omega, by go_num, HV2⟩
            case measure => simp [intOf]; omega
          · obtain rfl : q = s.length := by omega
            have HE : Hid (R = some ⟨s.take k, s.drop (k + 2), 0⟩) := by
              show _ = _
              rw [HR2.out, if_pos]
              have h := HV.out
              rw [List.take_of_length_le (by rw [List.length_drop]; omega)] at h
              exact h
            have hx1 := extract_to s k
            have hx2 := extract_from s (k + 2)
            obtain ⟨ka, hka⟩ : ∃ x, s.take k = x := ⟨_, rfl⟩
            obtain ⟨va, hva⟩ : ∃ x, s.drop (k + 2) = x := ⟨_, rfl⟩
            rw [hka] at hx1 HE
            rw [hva] at hx2 HE
            clear hka hva
            have iw : IntKind.i64.wrap ((k : Int) + 2) = (k : Int) + 2 := IntWalk.i64_in _ (by omega)
            have i0 : (0 : Int) ≤ (k : Int) + 2 := by omega
            have i1 : (k : Int) + 2 ≤ (s.length : Int) := by omega
            have i2 : ((k : Int) + 2).toNat = k + 2 := by omega
            have hn2 : k + 2 ≤ s.length := by omega
            go_wp2_with fail
            clear hW1 b0 b1 b2 f0 f1 f2
            go_still_tail 8, (by kernel_rfl)
            change wpList _ _ _ _ _ W1.drew
            have HB2 : Hid (Below W1.heap.size W1 W1.drew) := (Below.refl _ _).drew
            obtain ⟨b0, b1, b2, f0, f1, f2⟩ := HC3.out _ HB2.out
            generalize W1.drew = w2 at *
            have HBV : Hid (Below w.heap.size w (((w2.setCell ⟨w.heap.size, 0, none⟩ (.string ⟨ka.toArray⟩)).setCell ⟨w.heap.size, 1, none⟩ (.string ⟨va.toArray⟩)).setCell ⟨w.heap.size, 2, none⟩ (.int .i64 0))) := (((HBW.out.trans (HB2.out.mono HBW.out.size)).setCell (Nat.le_refl _) _).setCell (Nat.le_refl _) _).setCell (Nat.le_refl _) _
            have g0 : (((w2.setCell ⟨w.heap.size, 0, none⟩ (.string ⟨ka.toArray⟩)).setCell ⟨w.heap.size, 1, none⟩ (.string ⟨va.toArray⟩)).setCell ⟨w.heap.size, 2, none⟩ (.int .i64 0)).cell? ⟨w.heap.size, 0, none⟩ = some (.string ⟨ka.toArray⟩) := by simp [go_sem, b0]
            have g1 : (((w2.setCell ⟨w.heap.size, 0, none⟩ (.string ⟨ka.toArray⟩)).setCell ⟨w.heap.size, 1, none⟩ (.string ⟨va.toArray⟩)).setCell ⟨w.heap.size, 2, none⟩ (.int .i64 0)).cell? ⟨w.heap.size, 1, none⟩ = some (.string ⟨va.toArray⟩) := by simp [go_sem, b1]
            have g2 : (((w2.setCell ⟨w.heap.size, 0, none⟩ (.string ⟨ka.toArray⟩)).setCell ⟨w.heap.size, 1, none⟩ (.string ⟨va.toArray⟩)).setCell ⟨w.heap.size, 2, none⟩ (.int .i64 0)).cell? ⟨w.heap.size, 2, none⟩ = some (.int .i64 0) := by simp [go_sem, b2]
            go_wp2_with fail
            generalize (((w2.setCell ⟨w.heap.size, 0, none⟩ (.string ⟨ka.toArray⟩)).setCell ⟨w.heap.size, 1, none⟩ (.string ⟨va.toArray⟩)).setCell ⟨w.heap.size, 2, none⟩ (.int .i64 0)) = V at *
            refine bodyPost_ret (v := .tuple #[.agg #[.string ⟨ka.toArray⟩, .string ⟨va.toArray⟩, .int .i64 0], .bool true]) ?_ rfl ?_
            · simp [results, Tryd.results22, go_sem, g0, g1, g2]
            · show RFieldRet w R _ _
              rw [HE.out]; exact ⟨HBV.out, rfl⟩
      · have hl1 : (s.take (k + 1)).all Vm.ltr = true := by rw [all_snocZ s Vm.ltr k hlt, HA.out, hbl, hl]; rfl
        have HA1 := Lib.hid hl1
        clear hl1
        go_wp2_with fail
        refine (refLetter_any b _).mono ?_
        rintro _ z ⟨rfl, rfl⟩
        rw [hl]
        clear hl hbl
        go_wp2_with fail
        go_round
        case rel => exact ⟨k + 1, by omega, by go_num, HA1⟩
        case measure => simp [intOf]; omega
    · obtain rfl : k = s.length := by omega
      have HK : Hid (kLen s = s.length) := kLen_all HA.out
      have hr := HR.out
      rw [HK.out] at hr
      have HE : Hid (R = none) := by
        show _ = _; rw [← hr, if_neg]
        rintro ⟨_, _, h4, _⟩
        rw [List.getElem?_eq_none (Nat.le_refl _)] at h4; cases h4
      clear hr
      have q3 : decide ((s.length : Int) < (s.length : Int) + 2) = true := decide_eq_true (by omega)
      by_cases k0 : s.length < 1
      · have q1 : decide ((s.length : Int) < 1) = true := decide_eq_true (by omega)
        go_wp2_with fail
        clear hW1
        have HBV : Hid (Below w.heap.size w (((W1.setCell ⟨w.heap.size, 0, none⟩ (.string ⟨#[]⟩)).setCell ⟨w.heap.size, 1, none⟩ (.string ⟨#[]⟩)).setCell ⟨w.heap.size, 2, none⟩ (.int .i64 0))) := ((HBW.out.setCell (Nat.le_refl _) _).setCell (Nat.le_refl _) _).setCell (Nat.le_refl _) _
        have g0 : (((W1.setCell ⟨w.heap.size, 0, none⟩ (.string ⟨#[]⟩)).setCell ⟨w.heap.size, 1, none⟩ (.string ⟨#[]⟩)).setCell ⟨w.heap.size, 2, none⟩ (.int .i64 0)).cell? ⟨w.heap.size, 0, none⟩ = some (.string ⟨#[]⟩) := by simp [go_sem, b0]
        have g1 : (((W1.setCell ⟨w.heap.size, 0, none⟩ (.string ⟨#[]⟩)).setCell ⟨w.heap.size, 1, none⟩ (.string ⟨#[]⟩)).setCell ⟨w.heap.size, 2, none⟩ (.int .i64 0)).cell? ⟨w.heap.size, 1, none⟩ = some (.string ⟨#[]⟩) := by simp [go_sem, b1]
        have g2 : (((W1.setCell ⟨w.heap.size, 0, none⟩ (.string ⟨#[]⟩)).setCell ⟨w.heap.size, 1, none⟩ (.string ⟨#[]⟩)).setCell ⟨w.heap.size, 2, none⟩ (.int .i64 0)).cell? ⟨w.heap.size, 2, none⟩ = some (.int .i64 0) := by simp [go_sem, b2]
        generalize (((W1.setCell ⟨w.heap.size, 0, none⟩ (.string ⟨#[]⟩)).setCell ⟨w.heap.size, 1, none⟩ (.string ⟨#[]⟩)).setCell ⟨w.heap.size, 2, none⟩ (.int .i64 0)) = V at *
        refine bodyPost_ret (v := .tuple #[.agg #[.string ⟨#[]⟩, .string ⟨#[]⟩, .int .i64 0], .bool false]) ?_ rfl ?_
        · simp [results, Tryd.results22, go_sem, g0, g1, g2]
        · show RFieldRet w R _ _
          rw [HE.out]; exact ⟨HBV.out, rfl⟩
      have q1 : decide ((s.length : Int) < 1) = false := decide_eq_false (by omega)
      by_cases k16 : 16 < s.length
      · have q2 : decide ((16 : Int) < (s.length : Int)) = true := decide_eq_true (by omega)
        go_wp2_with fail
        clear hW1
        have HBV : Hid (Below w.heap.size w (((W1.setCell ⟨w.heap.size, 0, none⟩ (.string ⟨#[]⟩)).setCell ⟨w.heap.size, 1, none⟩ (.string ⟨#[]⟩)).setCell ⟨w.heap.size, 2, none⟩ (.int .i64 0))) := ((HBW.out.setCell (Nat.le_refl _) _).setCell (Nat.le_refl _) _).setCell (Nat.le_refl _) _
        have g0 : (((W1.setCell ⟨w.heap.size, 0, none⟩ (.string ⟨#[]⟩)).setCell ⟨w.heap.size, 1, none⟩ (.string ⟨#[]⟩)).setCell ⟨w.heap.size, 2, none⟩ (.int .i64 0)).cell? ⟨w.heap.size, 0, none⟩ = some (.string ⟨#[]⟩) := by simp [go_sem, b0]
        have g1 : (((W1.setCell ⟨w.heap.size, 0, none⟩ (.string ⟨#[]⟩)).setCell ⟨w.heap.size, 1, none⟩ (.string ⟨#[]⟩)).setCell ⟨w.heap.size, 2, none⟩ (.int .i64 0)).cell? ⟨w.heap.size, 1, none⟩ = some (.string ⟨#[]⟩) := by simp [go_sem, b1]
        have g2 : (((W1.setCell ⟨w.heap.size, 0, none⟩ (.string ⟨#[]⟩)).setCell ⟨w.heap.size, 1, none⟩ (.string ⟨#[]⟩)).setCell ⟨w.heap.size, 2, none⟩ (.int .i64 0)).cell? ⟨w.heap.size, 2, none⟩ = some (.int .i64 0) := by simp [go_sem, b2]
        generalize (((W1.setCell ⟨w.heap.size, 0, none⟩ (.string ⟨#[]⟩)).setCell ⟨w.heap.size, 1, none⟩ (.string ⟨#[]⟩)).setCell ⟨w.heap.size, 2, none⟩ (.int .i64 0)) = V at *
        refine bodyPost_ret (v := .tuple #[.agg #[.string ⟨#[]⟩, .string ⟨#[]⟩, .int .i64 0], .bool false]) ?_ rfl ?_
        · simp [results, Tryd.results22, go_sem, g0, g1, g2]
        · show RFieldRet w R _ _
          rw [HE.out]; exact ⟨HBV.out, rfl⟩
      have q2 : decide ((16 : Int) < (s.length : Int)) = false := decide_eq_false (by omega)
      go_wp2_with fail
      clear hW1
      have HBV : Hid (Below w.heap.size w (((W1.setCell ⟨w.heap.size, 0, none⟩ (.string ⟨#[]⟩)).setCell ⟨w.heap.size, 1, none⟩ (.string ⟨#[]⟩)).setCell ⟨w.heap.size, 2, none⟩ (.int .i64 0))) := ((HBW.out.setCell (Nat.le_refl _) _).setCell (Nat.le_refl _) _).setCell (Nat.le_refl _) _
      have g0 : (((W1.setCell ⟨w.heap.size, 0, none⟩ (.string ⟨#[]⟩)).setCell ⟨w.heap.size, 1, none⟩ (.string ⟨#[]⟩)).setCell ⟨w.heap.size, 2, none⟩ (.int .i64 0)).cell? ⟨w.heap.size, 0, none⟩ = some (.string ⟨#[]⟩) := by simp [go_sem, b0]
      have g1 : (((W1.setCell ⟨w.heap.size, 0, none⟩ (.string ⟨#[]⟩)).setCell ⟨w.heap.size, 1, none⟩ (.string ⟨#[]⟩)).setCell ⟨w.heap.size, 2, none⟩ (.int .i64 0)).cell? ⟨w.heap.size, 1, none⟩ = some (.string ⟨#[]⟩) := by simp [go_sem, b1]
      have g2 : (((W1.setCell ⟨w.heap.size, 0, none⟩ (.string ⟨#[]⟩)).setCell ⟨w.heap.size, 1, none⟩ (.string ⟨#[]⟩)).setCell ⟨w.heap.size, 2, none⟩ (.int .i64 0)).cell? ⟨w.heap.size, 2, none⟩ = some (.int .i64 0) := by simp [go_sem, b2]
      generalize (((W1.setCell ⟨w.heap.size, 0, none⟩ (.string ⟨#[]⟩)).setCell ⟨w.heap.size, 1, none⟩ (.string ⟨#[]⟩)).setCell ⟨w.heap.size, 2, none⟩ (.int .i64 0)) = V at *
      refine bodyPost_ret (v := .tuple #[.agg #[.string ⟨#[]⟩, .string ⟨#[]⟩, .int .i64 0], .bool false]) ?_ rfl ?_
      · simp [results, Tryd.results22, go_sem, g0, g1, g2]
      · show RFieldRet w R _ _
        rw [HE.out]; exact ⟨HBV.out, rfl⟩
end Go.Proofs.YtmhobdlhmkbkdaaDoor

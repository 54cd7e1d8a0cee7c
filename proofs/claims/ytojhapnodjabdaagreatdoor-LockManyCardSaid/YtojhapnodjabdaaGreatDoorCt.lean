/- The sums of any two texts of one length that differ in one byte: the law walked. -/
import Derived.Test.YtojhapnodjabdaaGreatDoorCs
namespace Go.Proofs.YtojhapnodjabdaaGreatDoor
open Go.RowKit Lk At
theorem Lk.bytes_of (s : List UInt8) (u : World) : ∃ V c Z n fr, (convert 9 53 (.string ⟨s.toArray⟩)).run Tryz.prog u = .ok (.slice (some ⟨u.heap.size, 0, none⟩) s.length c) V ∧ Below u.heap.size u V ∧ Buf u.heap.size (s ++ List.replicate Z 0) 5 (n, fr) V ∧ s.length ≤ n := by
  have h := run_bytes_of_string (P := Tryz.prog) u 9 53 5 ⟨s.toArray⟩ Tryz.underlying9 Tryz.underlying53 Tryz.underlying5
  obtain ⟨c, hc⟩ : ∃ c, grownCap u (⟨s.toArray⟩ : ByteArray).size 0 5 = c := ⟨_, rfl⟩
  rw [hc] at h
  refine ⟨_, c, c - s.length, (bytesRow ⟨s.toArray⟩ c).size, (bytesRow ⟨s.toArray⟩ c).size + 1, h, (Below.refl _ _).drew.alloc (Nat.le_refl _) _, ?_, ?_⟩
  · have e : bytesRow ⟨s.toArray⟩ c = cellsB (s ++ List.replicate (c - s.length) 0) := by
      unfold bytesRow cellsB
      show Array.map _ s.toArray ++ Array.replicate (c - s.toArray.size) _ = _
      rw [List.size_toArray, List.map_append, List.map_replicate]
      simp
    rw [e]
    exact heap_alloc_new u.drew _
  · show s.length ≤ (bytesRow ⟨s.toArray⟩ c).size
    unfold bytesRow
    show s.length ≤ (Array.map _ s.toArray ++ Array.replicate _ _).size
    simp
theorem Lk.pad_at (s : List UInt8) (Z k : Nat) (hk : k < s.length) : ∃ h : k < (s ++ List.replicate Z 0).length, (s ++ List.replicate Z (0 : UInt8))[k] = s[k] := ⟨by rw [List.length_append]; omega, List.getElem_append_left hk⟩
/-- A byte of what was a text is turned, and it is a text again. -/
theorem Lk.turn_back {b : Nat} {s : List UInt8} {Z : Nat} {fr : Nat × Nat} {V : World} (h : Buf b (s ++ List.replicate Z 0) 5 fr V) (k : Nat) (hk : k < s.length) (c : UInt8) (cap : Nat) :
    (convert 53 9 (.slice (some ⟨b, 0, none⟩) s.length cap)).run Tryz.prog (V.setCell ⟨b, k, none⟩ (.int .u8 (c.toNat : Int))) = .ok (.string ⟨(s.set k c).toArray⟩) (V.setCell ⟨b, k, none⟩ (.int .u8 (c.toNat : Int))) := by
  have h2 := buf_set h k c
  refine conv_from _ h2 0 cap s.length (s.set k c) (by rw [List.length_set]) fun j hj => ?_
  rw [Nat.zero_add, List.set_append, if_pos hk, List.getElem?_append_left hj, List.getElem?_eq_getElem hj]
theorem Lk.rem_nat (a n k : Nat) (h : a % n = k) : (a : Int) % (n : Int) = (k : Int) ∧ (a : Int).tmod (n : Int) = (k : Int) := by
  subst h
  exact ⟨rfl, rfl⟩
attribute [local go_sem ↓] Go.wp_at_zero Go.wp_at_succ
set_option maxRecDepth 100000 in
set_option maxHeartbeats 3200000 in
theorem lockSums_any (s : List UInt8) (p : Nat) (b : UInt8) (w : World) (hw : WOk w) (hp : p < 65536) :
    Calls Tryz.prog 6 #[.string ⟨s.toArray⟩, .int .u16 p, .int .u8 (b.toNat : Int)] w fun e w' => e = .returned (.bool true) ∧ Below w.heap.size w w' := by
  have HK := Lib.hid (known8_any w hw)
  clear hw
  by_cases hl : 2000 < s.length
  · have d0 : decide ((2000 : Int) < (s.length : Int)) = true := decide_eq_true (by omega)
    go_enter Tryz.func6, Tryz.ntmps6
    go_wp2_with fail
    refine HK.out.mono ?_
    rintro _ z ⟨rfl, hb⟩
    have HB := Lib.hid hb
    clear hb HK
    go_wp2_with fail
    go_ret
    exact ⟨rfl, HB.out⟩
  · have d0 : decide ((2000 : Int) < (s.length : Int)) = false := decide_eq_false (by omega)
    have hls : s.length ≤ 1000000 := by omega
    have HLS := Lib.hid hls
    have HC1 : Hid (∀ W : World, Calls Tryz.prog 23 #[.string ⟨s.toArray⟩] W fun e w' => e = .returned (.int .u32 (sumL s : Nat)) ∧ W = w') := fun W => lockSum_any s W HLS.out
    have HC2 : Hid (∀ W : World, Calls Tryz.prog 24 #[.string ⟨s.toArray⟩] W fun e w' => e = .returned (.int .u32 (sumL s : Nat)) ∧ W = w') := fun W => refSum_any s W HLS.out
    by_cases hn : s.length = 0
    · obtain rfl : s = [] := List.length_eq_zero_iff.1 hn
      have hs0 : sumL [] = 0 := by decide
      rw [hs0] at HC1 HC2
      go_enter Tryz.func6, Tryz.ntmps6
      go_wp2_with fail
      refine HK.out.mono ?_
      rintro _ z ⟨rfl, hb⟩
      have HB := Lib.hid hb
      clear hb HK
      go_wp2_with fail
      refine (HC1.out _).mono ?_
      rintro _ z1 ⟨rfl, rfl⟩
      go_wp2_with fail
      refine (HC2.out _).mono ?_
      rintro _ z1 ⟨rfl, rfl⟩
      go_wp2_with fail
      refine (HC1.out _).mono ?_
      rintro _ z1 ⟨rfl, rfl⟩
      go_wp2_with fail
      go_ret
      exact ⟨rfl, HB.out⟩
    · obtain ⟨k, hk⟩ : ∃ k, p % s.length = k := ⟨_, rfl⟩
      have hks : k < s.length := by rw [← hk]; exact Nat.mod_lt _ (by omega)
      obtain ⟨r1, r2⟩ := rem_nat p s.length k hk
      have k0 : (0 : Int) ≤ (k : Int) := by omega
      have k1 : (k : Int) < (s.length : Int) := by omega
      have wp : IntKind.i64.wrap (p : Int) = (p : Int) := IntWalk.i64_in _ (by omega)
      have wk : IntKind.i64.wrap (k : Int) = (k : Int) := IntWalk.i64_in _ (by omega)
      have nz : ((s.length : Int) == 0) = false := beq_eq_false_iff_ne.2 (by omega)
      have HKS := Lib.hid hks
      obtain ⟨x, hx⟩ : ∃ x, sumL s = x := ⟨_, rfl⟩
      have HNE : Hid (∀ (h : k < s.length), s[k] ≠ b → ((sumL (s.set k b) : Nat) : Int) ≠ (x : Int)) := fun h hne e => sum_one s k b h hne (by rw [hx]; exact Int.ofNat.inj e)
      rw [hx] at HC1 HC2
      clear hk hx hn
      go_enter Tryz.func6, Tryz.ntmps6
      go_wp2_with fail
      refine HK.out.mono ?_
      rintro _ z ⟨rfl, hb⟩
      have HB := Lib.hid hb
      clear hb HK
      obtain ⟨V, c, Z, n, fr, hcv, hbv, hbuf, hln⟩ := bytes_of s z
      have HV := Lib.hid (HB.out.trans (hbv.mono HB.out.size))
      obtain ⟨hkz, hgz⟩ := pad_at s Z k hks
      have c0 := buf_cell hbuf k hkz
      have f0 := buf_free hbuf k (Or.inl (by show k < n; omega))
      rw [hgz] at c0
      have htb := turn_back hbuf k hks b c
      have HZS : Hid (w.heap.size ≤ z.heap.size) := HB.out.size
      obtain ⟨y, hy⟩ : ∃ y, s[k]'hks = y := ⟨_, rfl⟩
      have HNE2 : Hid (y ≠ b → ((sumL (s.set k b) : Nat) : Int) ≠ (x : Int)) := fun h => HNE.out hks (by rw [hy]; exact h)
      rw [hy] at c0
      have hcs : (s.set k b).length ≤ 1000000 := by rw [List.length_set]; exact hls
      obtain ⟨S, hS⟩ : ∃ S, s.set k b = S := ⟨_, rfl⟩
      rw [hS] at htb HNE2 hcs
      clear hy hS hgz hbuf hbv hln HNE
      by_cases hq : y = b
      · have e1 : ((y.toNat : Int) == (b.toNat : Int)) = true := by rw [hq]; simp
        clear hq
        go_wp2_with fail
        refine (HC1.out _).mono ?_
        rintro _ z1 ⟨rfl, rfl⟩
        go_wp2_with fail
        refine (HC2.out _).mono ?_
        rintro _ z1 ⟨rfl, rfl⟩
        go_wp2_with fail
        go_ret
        exact ⟨rfl, HV.out⟩
      · have e1 : ((y.toNat : Int) == (b.toNat : Int)) = false := by
          refine beq_eq_false_iff_ne.2 fun e => hq (UInt8.toNat_inj.1 (by omega))
        have HNE3 := Lib.hid (HNE2.out hq)
        clear hq
        go_wp2_with fail
        refine (HC1.out _).mono ?_
        rintro _ z1 ⟨rfl, rfl⟩
        go_wp2_with fail
        refine (HC2.out _).mono ?_
        rintro _ z1 ⟨rfl, rfl⟩
        go_wp2_with fail
        refine (lockSum_any S _ hcs).mono ?_
        rintro _ z1 ⟨rfl, rfl⟩
        go_wp2_with fail
        refine (HC1.out _).mono ?_
        rintro _ z1 ⟨rfl, rfl⟩
        have e2 : (((sumL S : Nat) : Int) != (x : Int)) = true := bne_iff_ne.2 HNE3.out
        go_wp2_with fail
        go_ret
        exact ⟨by rfl, HV.out.setCell HZS.out _⟩
end Go.Proofs.YtojhapnodjabdaaGreatDoor

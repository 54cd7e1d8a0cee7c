/- With any one byte turned what was written is no lock: the law walked. -/
import Derived.Test.YtojhapnodjabdaaGreatDoorCr
import Derived.Test.YtojhapnodjabdaaGreatDoorCt
namespace Go.Proofs.YtojhapnodjabdaaGreatDoor
open Go.RowKit Lk At
attribute [local go_sem ↓] Go.wp_at_zero Go.wp_at_succ
theorem Lk.few_of {l : List Ent} (h : ∀ e ∈ l, e.1.length ≤ 100 ∧ e.2.length ≤ 100) : EFew l := fun e he => by have := h e he; unfold maxLen; omega
theorem Lk.esm_of {l : List Ent} (h : ∀ e ∈ l, e.1.length ≤ 100 ∧ e.2.length ≤ 100) : ESm l := fun e he => by have := h e he; omega
set_option maxRecDepth 100000 in
set_option maxHeartbeats 3200000 in
theorem lockTurned_any (A : Option Addr) (n c : Nat) (l : List Ent) (p : Nat) (b : UInt8) (w : World) (hw : WOk w) (hn : l.length = n) (hr : ERow w A l) (hp : p < 65536) :
    Calls Tryz.prog 5 #[.slice A n c, .int .u16 p, .int .u8 (b.toNat : Int)] w fun e w' => e = .returned (.bool true) ∧ Below w.heap.size w w' := by
  have HK := Lib.hid (known8_any w hw)
  have HW := Lib.hid hw
  have HN := Lib.hid hn
  have HR := Lib.hid hr
  clear hw hn hr
  go_enter Tryz.func5, Tryz.ntmps5
  go_wp2_with fail
  refine HK.out.mono ?_
  rintro _ z ⟨rfl, hb⟩
  have HB := Lib.hid hb
  clear hb HK
  go_wp2_with fail
  refine (few8_any A n c l z HN.out (Rg.row_below HR.out HB.out)).mono ?_
  rintro e u ⟨r, rfl, hb, hq⟩
  have HU := Lib.hid (HB.out.trans (hb.mono HB.out.size))
  have HQ := Lib.hid hq
  clear hb hq HB
  cases r
  · go_wp2_with fail
    go_ret
    exact ⟨rfl, HU.out⟩
  · obtain ⟨n80, hf⟩ := HQ.out rfl
    have HF := Lib.hid hf
    clear hf HQ
    go_wp2_with fail
    refine (to8_any A n c l u HN.out (Rg.row_below HR.out HU.out) (by omega)).mono ?_
    rintro _ u1 ⟨C, d, rfl, hrow, hb⟩
    have HU1 := Lib.hid (HU.out.trans (hb.mono HU.out.size))
    have HROW := Lib.hid hrow
    clear hb hrow HU
    go_wp2_with fail
    refine (lockWrite_any C n d l u1 (wok_below HW.out HU1.out) HN.out HROW.out (few_of HF.out)).mono ?_
    rintro _ u2 ⟨rfl, hb⟩
    have HU2 := Lib.hid (HU1.out.trans (hb.mono HU1.out.size))
    clear hb HROW HU1
    obtain ⟨X, hX⟩ : ∃ X, (checkL l).2 = X := ⟨_, rfl⟩
    have HXX := Lib.hid hX
    by_cases h0 : X = 0
    · have hwt : wrT l = writeT l := by unfold wrT; rw [hX, if_pos h0]
      have htl := (write_len (l := l) (by rw [hX]; exact h0)).2
      have ht0 : 13 ≤ (writeT l).length := by unfold writeT; rw [List.length_append, sumLine_len]; omega
      have HTU : Hid (∀ (k : Nat) (hk : k < (writeT l).length), (writeT l)[k] ≠ b → (readL ((writeT l).set k b)).2.1 ≠ 0) := fun k hk h => turned l k b hk h
      obtain ⟨s, hs⟩ : ∃ s, writeT l = s := ⟨_, rfl⟩
      rw [hwt, hX, h0, hs]
      rw [hs] at htl ht0
      have HTS : Hid (∀ (k : Nat) (hk : k < s.length), s[k] ≠ b → (readL (s.set k b)).2.1 ≠ 0) := by
        show ∀ (k : Nat) (hk : k < s.length), s[k] ≠ b → (readL (s.set k b)).2.1 ≠ 0
        rw [← hs]; exact HTU.out
      obtain ⟨k, hk⟩ : ∃ k, p % s.length = k := ⟨_, rfl⟩
      have hks : k < s.length := by rw [← hk]; exact Nat.mod_lt _ (by omega)
      obtain ⟨r1, r2⟩ := rem_nat p s.length k hk
      have k0 : (0 : Int) ≤ (k : Int) := by omega
      have k1 : (k : Int) < (s.length : Int) := by omega
      have wp : IntKind.i64.wrap (p : Int) = (p : Int) := IntWalk.i64_in _ (by omega)
      have wk : IntKind.i64.wrap (k : Int) = (k : Int) := IntWalk.i64_in _ (by omega)
      have nz : ((s.length : Int) == 0) = false := beq_eq_false_iff_ne.2 (by omega)
      obtain ⟨V, cc, Z, m, fr, hcv, hbv, hbuf, hln⟩ := bytes_of s u2
      have HV := Lib.hid (HU2.out.trans (hbv.mono HU2.out.size))
      obtain ⟨hkz, hgz⟩ := pad_at s Z k hks
      have c0 := buf_cell hbuf k hkz
      have f0 := buf_free hbuf k (Or.inl (by show k < m; omega))
      rw [hgz] at c0
      have htb := turn_back hbuf k hks b cc
      have HZS : Hid (w.heap.size ≤ u2.heap.size) := HU2.out.size
      obtain ⟨y, hy⟩ : ∃ y, s[k]'hks = y := ⟨_, rfl⟩
      have HNE : Hid (y ≠ b → (readL (s.set k b)).2.1 ≠ 0) := fun h => HTS.out k hks (by rw [hy]; exact h)
      rw [hy] at c0
      have hcs : (s.set k b).length ≤ 100000 := by rw [List.length_set]; omega
      obtain ⟨S, hS⟩ : ∃ S, s.set k b = S := ⟨_, rfl⟩
      rw [hS] at htb HNE hcs
      clear hX h0 hwt HTU HTS hs hk hy hS hgz hbuf hbv hln
      by_cases hq : y = b
      · have e1 : ((y.toNat : Int) == (b.toNat : Int)) = true := by rw [hq]; simp
        clear hq
        go_wp2_with fail
        go_ret
        exact ⟨rfl, HV.out⟩
      · have e1 : ((y.toNat : Int) == (b.toNat : Int)) = false := by
          refine beq_eq_false_iff_ne.2 fun e => hq (UInt8.toNat_inj.1 (by omega))
        have HNE3 := Lib.hid (HNE.out hq)
        clear hq
        go_wp2_with fail
        have HVS : Hid (Below w.heap.size w (V.setCell ⟨u2.heap.size, k, none⟩ (.int .u8 (b.toNat : Int)))) := HV.out.setCell HZS.out _
        refine (lockRead_any S _ (wok_below HW.out HVS.out) hcs).mono ?_
        rintro e x ⟨hb, A1, n1, c1, rfl, _, _⟩
        have HX := Lib.hid (HVS.out.trans (hb.mono HVS.out.size))
        obtain ⟨f, hf⟩ : ∃ f, (readL S).2.1 = f := ⟨_, rfl⟩
        rw [hf] at HNE3 ⊢
        have e2 : (f != 0) = true := bne_iff_ne.2 HNE3.out
        clear hb hf
        go_wp2_with fail
        go_ret
        exact ⟨rfl, HX.out⟩
    · rw [hX]
      have e1 : (X != 0) = true := bne_iff_ne.2 h0
      have hwt : wrT l = [] := by unfold wrT; rw [hX, if_neg h0]
      rw [hwt]
      clear hX h0 hwt
      go_wp2_with fail
      refine (refWriteLock_any A n c l u2 HN.out (Rg.row_below HR.out HU2.out) (few_of HF.out)).mono ?_
      rintro _ u3 ⟨rfl, hb⟩
      have HU3 := Lib.hid (HU2.out.trans (hb.mono HU2.out.size))
      rw [HXX.out]
      clear hb
      go_wp2_with fail
      go_ret
      exact ⟨rfl, HU3.out⟩
end Go.Proofs.YtojhapnodjabdaaGreatDoor

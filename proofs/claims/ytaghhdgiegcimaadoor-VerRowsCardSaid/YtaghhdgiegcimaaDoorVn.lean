/- The reference's CheckVer, Epoch, canon, Canon. -/
import Derived.Test.YtaghhdgiegcimaaDoorVl
namespace Go.Proofs.YtaghhdgiegcimaaDoor
open Go.RowKit

def RefCheckRet (l : List UInt8) (e : Ending) (w w' : World) : Prop := e = .returned (.int .i64 (Vm.check l)) ∧ w = w'
set_option maxHeartbeats 400000 in
theorem checkVer_any (l : List UInt8) (w : World) :
    Calls Tryd.prog 17 #[.string ⟨l.toArray⟩] w fun e w' => e = .returned (.int .i64 (Vm.check l)) ∧ w = w' := by
  have hnot : ∀ (x : Bool) (w : World), (Op.unary .not (.bool x)).run Tryd.prog w = .ok (.bool (!x)) w := fun _ _ => rfl
  by_cases h40 : 40 < l.length
  · have HC : Hid (Vm.check l = 4) := by show _ = _; rw [Vm.check, if_pos h40]
    go_enter Tryd.func17, Tryd.ntmps17
    go_wp2_with fail
    go_ret
    exact ⟨by rw [HC.out]; rfl, rfl⟩
  · cases hv : Vm.verOk l
    · have HC : Hid (Vm.check l = 5) := by show _ = _; rw [Vm.check, if_neg h40, hv]; rfl
      have HV := Lib.hid hv
      clear hv
      go_enter Tryd.func17, Tryd.ntmps17
      go_wp2_with fail
      refine (parts_any l _ (by omega)).mono ?_
      rintro e w1 hp
      unfold PartsRet at hp
      rw [HV.out] at hp
      obtain ⟨a, b, c, rfl, rfl⟩ := hp
      go_wp2_with fail
      go_ret
      exact ⟨by rw [HC.out]; rfl, rfl⟩
    · have HC : Hid (Vm.check l = 0) := by show _ = _; rw [Vm.check, if_neg h40, hv]; rfl
      have HV := Lib.hid hv
      clear hv
      go_enter Tryd.func17, Tryd.ntmps17
      go_wp2_with fail
      refine (parts_any l _ (by omega)).mono ?_
      rintro e w1 hp
      unfold PartsRet at hp
      rw [HV.out] at hp
      obtain ⟨rfl, rfl⟩ := hp
      go_wp2_with fail
      go_ret
      exact ⟨by rw [HC.out]; rfl, rfl⟩
theorem parts_yes (l : List UInt8) (w : World) (h : Vm.check l = 0) :
    Calls Tryd.prog 48 #[.string ⟨l.toArray⟩] w fun e w' => e = .returned (.tuple #[.string ⟨(epR l).toArray⟩, .string ⟨(Vm.pt l).toArray⟩, .string ⟨(rvR l).toArray⟩, .bool true]) ∧ w = w' := by
  have hv := verOk_of h
  have h2 : Vm.verOk l = true := by unfold Vm.verOk; rw [hv.2.1, hv.2.2.1, hv.2.2.2]; rfl
  have := parts_any l w hv.1
  unfold PartsRet at this
  rw [h2] at this
  exact this

theorem num_take (l : List UInt8) (k : Nat) (h : k < l.length) : Vm.num (l.take (k + 1)) = 10 * Vm.num (l.take k) + (l[k].toNat - 48) := by
  unfold Vm.num
  rw [List.take_succ_eq_append_getElem h, List.foldl_append]; rfl
theorem num_bound (l : List UInt8) (h : l.all Vm.dig = true) : Vm.num l < 10 ^ l.length := by
  have key : ∀ (l : List UInt8) (a : Nat), l.all Vm.dig = true → l.foldl (fun n c => 10 * n + (c.toNat - 48)) a < (a + 1) * 10 ^ l.length := by
    intro l
    induction l with
    | nil => intro a _; simp
    | cons c r ih =>
      intro a h
      simp only [List.all_cons, Bool.and_eq_true] at h
      have h1 := ih (10 * a + (c.toNat - 48)) h.2
      have h2 : c.toNat - 48 ≤ 9 := by have := h.1; unfold Vm.dig at this; simp at this; omega
      simp only [List.foldl_cons, List.length_cons]
      refine Nat.lt_of_lt_of_le h1 ?_
      rw [Nat.pow_succ, Nat.mul_comm (10 ^ r.length) 10, ← Nat.mul_assoc]
      exact Nat.mul_le_mul_right _ (by omega)
  have := key l 0 h
  simpa [Vm.num] using this
theorem epR_dig {l : List UInt8} (h : Vm.check l = 0) : (epR l).all Vm.dig = true ∧ (epR l).length ≤ 6 ∧ Vm.num (epR l) = Vm.num (Vm.ep l) := by
  have hv := (verOk_of h).2.1
  unfold epR Vm.ep at *
  cases h1 : Vm.has 58 l
  · simp [Vm.num]
  · rw [h1] at hv
    simp only [if_true] at *
    unfold Vm.epOk at hv
    simp only [Bool.and_eq_true, decide_eq_true_eq] at hv
    exact ⟨hv.2.2, hv.2.1, trivial⟩
theorem dig_bd {c : UInt8} (h : Vm.dig c = true) : 48 ≤ c.toNat ∧ c.toNat ≤ 57 := by unfold Vm.dig at h; simpa using h
theorem pow_le {n : Nat} (h : n ≤ 6) : 10 ^ n ≤ 1000000 := by
  have : (10 : Nat) ^ n ≤ 10 ^ 6 := Nat.pow_le_pow_right (by decide) h
  simpa using this
set_option maxHeartbeats 400000 in
theorem refEpoch_any (l : List UInt8) (w : World) (h : Vm.check l = 0) :
    Calls Tryd.prog 19 #[.string ⟨l.toArray⟩] w fun e w' => e = .returned (.int .i64 (Vm.num (Vm.ep l))) ∧ w = w' := by
  have hd := epR_dig h
  have H := Lib.hid h
  clear h
  obtain ⟨e, he⟩ : ∃ e, epR l = e := ⟨_, rfl⟩
  rw [he] at hd
  have HA := Lib.hid hd.1
  have HL := hd.2.1
  have HN := Lib.hid hd.2.2
  clear hd
  go_enter Tryd.func19, Tryd.ntmps19
  go_wp2_with fail
  refine (parts_yes l _ H.out).mono ?_
  rintro _ w1 ⟨rfl, rfl⟩
  rw [he]
  clear he
  go_wp2_with fail
  go_loop [7, 8] (fun n i => ∃ k : Nat, k ≤ e.length ∧ i = .int .i64 k ∧ n = .int .i64 (Vm.num (e.take k))) (fun _ i => e.length - (intOf i).toNat)
  case atStart => exact ⟨0, Nat.zero_le _, rfl, rfl⟩
  case round =>
    obtain ⟨k, hk, rfl, rfl⟩ := hrel
    by_cases hlt : k < e.length
    · obtain ⟨c, hc, hc'⟩ := byte_at e k hlt
      have HS := Lib.hid (num_take e k hlt)
      rw [hc'] at HS
      have hb : Vm.num (e.take k) < 1000000 := by
        have h1 := num_bound (e.take k) (by
          have := HA.out
          rw [List.all_eq_true] at this ⊢
          exact fun x hx => this x (List.mem_of_mem_take hx))
        refine Nat.lt_of_lt_of_le h1 (pow_le ?_)
        rw [List.length_take]; omega
      have hdc : Vm.dig c = true := by
        have := HA.out
        rw [List.all_eq_true] at this
        rw [← hc']; exact this _ (List.getElem_mem hlt)
      have HD := Lib.hid hdc
      obtain ⟨m, hm⟩ : ∃ m, Vm.num (e.take k) = m := ⟨_, rfl⟩
      rw [hm] at HS hb
      rw [hm]
      clear hc' hdc hm
      go_wp2_with fail
      go_round
      case rel =>
        refine ⟨k + 1, by omega, by go_num, congrArg (Value.int .i64) ?_⟩
        rw [HS.out]
        have := dig_bd HD.out
        omega
      case measure => simp [intOf]; omega
    · obtain rfl : k = e.length := by omega
      go_wp2_with fail
      go_ret
      refine ⟨?_, rfl⟩
      show Ending.returned (.int .i64 (Vm.num e : Int)) = _
      rw [HN.out]

theorem runT (l : List UInt8) (w : World) (hm : l.length ≤ 1000) :
    Calls Tryd.prog 80 #[.string ⟨l.toArray⟩, .bool true] w fun e w' => e = .returned (.tuple #[.string ⟨(Vm.digs l).toArray⟩, .string ⟨(Vm.undigs l).toArray⟩]) ∧ Below w.heap.size w w' := by
  have := run_any l true w hm; rw [(run_true l).1, (run_true l).2] at this; exact this
theorem runF (l : List UInt8) (w : World) (hm : l.length ≤ 1000) :
    Calls Tryd.prog 80 #[.string ⟨l.toArray⟩, .bool false] w fun e w' => e = .returned (.tuple #[.string ⟨(Vm.oths l).toArray⟩, .string ⟨(Vm.unoths l).toArray⟩]) ∧ Below w.heap.size w w' := by
  have := run_any l false w hm; rw [(run_false l).1, (run_false l).2] at this; exact this
/-- It ends here, or a digit begins it. -/
def HdD (l : List UInt8) : Prop := l = [] ∨ Vm.digs l ≠ []
theorem hdD_unoths (l : List UInt8) : HdD (Vm.unoths l) := by
  unfold HdD Vm.unoths Vm.digs
  induction l with
  | nil => left; rfl
  | cons c r ih =>
    cases hd : Vm.dig c
    · simp [hd]; simpa using ih
    · right; simp [hd]
theorem hdO_undigs (l : List UInt8) : Vm.undigs l = [] ∨ Vm.oths (Vm.undigs l) ≠ [] := by
  unfold Vm.undigs Vm.oths
  induction l with
  | nil => left; rfl
  | cons c r ih =>
    cases hd : Vm.dig c
    · right; simp [hd]
    · simp [hd]; simpa using ih
theorem hdD_part {l : List UInt8} (h : Vm.partOk l = true) : HdD l := by
  right
  match l, partOk_ne h, h with
  | c :: r, _, h =>
    rw [partOk_cons _ (by simp)] at h
    simp only [Bool.and_eq_true, List.getElem_cons_zero] at h
    simp [Vm.digs, h.1]
theorem undigs_lt {l : List UInt8} (h : Vm.digs l ≠ []) : (Vm.undigs l).length < l.length := by
  have h1 : Vm.digs l ++ Vm.undigs l = l := List.takeWhile_append_dropWhile
  have := congrArg List.length h1; rw [List.length_append] at this
  have := List.length_pos_iff.2 h; omega
theorem unoths_lt {l : List UInt8} (h : Vm.oths l ≠ []) : (Vm.unoths l).length < l.length := by
  have h1 : Vm.oths l ++ Vm.unoths l = l := List.takeWhile_append_dropWhile
  have := congrArg List.length h1; rw [List.length_append] at this
  have := List.length_pos_iff.2 h; omega
/-- The reference's loop: what is gathered, what is left, which kind of run comes next. -/
def CanSt (l y c : List UInt8) (b : Bool) : Prop := y.length + 2 * c.length ≤ 2 * l.length ∧
  (if b then HdD c ∧ ∃ m, c.length ≤ m ∧ Vm.canonP 41 l = y ++ Vm.canonP m c else (c = [] ∨ Vm.oths c ≠ []) ∧ ∃ m, (Vm.unoths c).length ≤ m ∧ Vm.canonP 41 l = y ++ (Vm.oths c ++ Vm.canonP m (Vm.unoths c)))
theorem canSt_start (l : List UInt8) (hl : l.length ≤ 41) (h : HdD l) : CanSt l [] l true := ⟨by simp, h, 41, hl, rfl⟩
theorem canSt_end {l y : List UInt8} {b : Bool} (h : CanSt l y [] b) : Vm.canonP 41 l = y := by
  obtain ⟨_, h⟩ := h
  cases b
  · obtain ⟨_, m, _, h⟩ := h
    rw [h, show Vm.unoths [] = [] from rfl, show Vm.oths [] = [] from rfl, canonP_end _ _ rfl]; simp
  · obtain ⟨_, m, _, h⟩ := h
    rw [h, canonP_end _ _ rfl]; simp
theorem canSt_digs {l y c : List UInt8} (h : CanSt l y c true) (hc : c.isEmpty = false) : CanSt l (y ++ bareR (Vm.digs c)) (Vm.undigs c) false ∧ (Vm.undigs c).length < c.length ∧ (bareR (Vm.digs c)).length ≤ 2 * l.length := by
  obtain ⟨hl, hd, m, hm, h⟩ := h
  have hne : Vm.digs c ≠ [] := by
    rcases hd with hd | hd
    · subst hd; cases hc
    · exact hd
  have hlt := undigs_lt hne
  have h1 : Vm.digs c ++ Vm.undigs c = c := List.takeWhile_append_dropWhile
  have h2 := congrArg List.length h1
  rw [List.length_append] at h2
  have h3 := bare_le (Vm.digs c)
  have h4 := List.length_pos_iff.2 hne
  rw [bareR_eq _ hne]
  refine ⟨⟨by rw [List.length_append]; omega, hdO_undigs c, ?_⟩, hlt, by omega⟩
  obtain ⟨m', rfl⟩ : ∃ m', m = m' + 1 := ⟨m - 1, by omega⟩
  have h5 := tail2_lt c hc
  refine ⟨m', by show (Vm.tail2 c).length ≤ m'; omega, ?_⟩
  rw [h, canonP_step m' c hc]
  simp only [List.append_assoc]; rfl
theorem canSt_oths {l y c : List UInt8} (h : CanSt l y c false) (hc : c.isEmpty = false) : CanSt l (y ++ Vm.oths c) (Vm.unoths c) true ∧ (Vm.unoths c).length < c.length ∧ (Vm.oths c).length ≤ 2 * l.length := by
  obtain ⟨hl, hd, m, hm, h⟩ := h
  have hne : Vm.oths c ≠ [] := by
    rcases hd with hd | hd
    · subst hd; cases hc
    · exact hd
  have hlt := unoths_lt hne
  have h1 : Vm.oths c ++ Vm.unoths c = c := List.takeWhile_append_dropWhile
  have h2 := congrArg List.length h1
  rw [List.length_append] at h2
  refine ⟨⟨by rw [List.length_append]; omega, hdD_unoths c, m, hm, ?_⟩, hlt, by omega⟩
  rw [h]; simp only [List.append_assoc]
set_option maxHeartbeats 800000 in
theorem refCanonP_any (l : List UInt8) (w : World) (hl : l.length ≤ 41) (h : Vm.partOk l = true) :
    Calls Tryd.prog 49 #[.string ⟨l.toArray⟩] w fun e w' => e = .returned (.string ⟨(Vm.canonP 41 l).toArray⟩) ∧ Below w.heap.size w w' := by
  have hnot : ∀ (x : Bool) (w : World), (Op.unary .not (.bool x)).run Tryd.prog w = .ok (.bool (!x)) w := fun _ _ => rfl
  have HS0 := Lib.hid (canSt_start l hl (hdD_part h))
  clear h
  go_enter Tryd.func49, Tryd.ntmps49
  go_wp2_with fail
  go_loopw [0, 3, 4] (fun s o d wr => ∃ (y c : List UInt8) (b : Bool), c.length ≤ 41 ∧ y.length ≤ 200 ∧ s = .string ⟨c.toArray⟩ ∧ o = .string ⟨y.toArray⟩ ∧ d = .bool b ∧ Hid (CanSt l y c b) ∧ Below w.heap.size w wr) (fun s _ _ _ => strLen s)
  case atStart => exact ⟨[], l, true, hl, by simp, rfl, rfl, rfl, HS0, Below.refl _ _⟩
  case round =>
    obtain ⟨y, c, b, hc, hy, rfl, rfl, rfl, HS, hbel⟩ := hrel
    cases he : c.isEmpty
    · cases b
      · obtain ⟨g1, g2, g3⟩ := canSt_oths HS.out he
        have HS1 := Lib.hid g1
        have HLT := Lib.hid g2
        have hyl := g1.1
        rw [List.length_append] at hyl
        clear g1 g2 HS
        go_wp2_with fail
        refine (runF c _ (by omega)).mono ?_
        rintro e w1 ⟨rfl, hb⟩
        have hbel1 : Below w.heap.size w w1 := hbel.trans (hb.mono hbel.size)
        clear hb hbel
        obtain ⟨z, hz⟩ : ∃ z, Vm.oths c = z := ⟨_, rfl⟩
        rw [hz] at HS1 g3 hyl
        rw [hz]
        clear hz
        go_wp2_with fail
        go_roundw
        case rel => exact ⟨y ++ z, Vm.unoths c, true, by omega, by rw [List.length_append]; omega, rfl, by rw [ByteArray.mk_append_mk], rfl, HS1, hbel1⟩
        case measure => have := HLT.out; simpa [strLen] using this
      · obtain ⟨g1, g2, g3⟩ := canSt_digs HS.out he
        have HS1 := Lib.hid g1
        have HLT := Lib.hid g2
        have hyl := g1.1
        rw [List.length_append] at hyl
        have hdl := digs_le c
        clear g1 g2 HS
        go_wp2_with fail
        refine (runT c _ (by omega)).mono ?_
        rintro e w1 ⟨rfl, hb⟩
        have hbel1 : Below w.heap.size w w1 := hbel.trans (hb.mono hbel.size)
        clear hb hbel
        go_wp2_with fail
        refine (refBare_any _ _ (by omega)).mono ?_
        rintro e w2 ⟨rfl, rfl⟩
        obtain ⟨z, hz⟩ : ∃ z, bareR (Vm.digs c) = z := ⟨_, rfl⟩
        rw [hz] at HS1 g3 hyl
        rw [hz]
        clear hz
        go_wp2_with fail
        go_roundw
        case rel => exact ⟨y ++ z, Vm.undigs c, false, by omega, by rw [List.length_append]; omega, rfl, by rw [ByteArray.mk_append_mk], rfl, HS1, hbel1⟩
        case measure => have := HLT.out; simpa [strLen] using this
    · have hc0 : c = [] := by simpa using he
      subst hc0
      have HB := Lib.hid (canSt_end HS.out)
      clear HS
      go_wp2_with fail
      go_ret
      exact ⟨by rw [HB.out]; rfl, hbel⟩

theorem canonP48 : Vm.canonP 41 [48] = [48] := by decide
theorem canonE_no {l : List UInt8} (h : Vm.check l = 0) (h0 : (epR l).isEmpty = true) : Vm.canonE l = [] := by
  have hv := (verOk_of h).2.1
  unfold Vm.canonE
  unfold epR Vm.ep at *
  cases h1 : Vm.has 58 l
  · rfl
  · rw [h1] at h0 hv
    simp only [if_true] at h0 hv
    have : Vm.fst 58 l = [] := by simpa using h0
    rw [this] at hv; cases hv
theorem canonE_yes {l : List UInt8} (h0 : (epR l).isEmpty = false) : Vm.canonE l = (if Vm.bare (epR l) == [48] then [] else Vm.bare (epR l) ++ [58]) ∧ bareR (epR l) = Vm.bare (epR l) ∧ (epR l).length ≤ l.length := by
  refine ⟨?_, bareR_eq _ (by intro h; rw [h] at h0; cases h0), ?_⟩
  · unfold Vm.canonE
    unfold epR Vm.ep at *
    cases h1 : Vm.has 58 l
    · rw [h1] at h0; cases h0
    · rfl
  · unfold epR; split
    · exact fst_le _ _
    · simp
theorem canonR_no {l : List UInt8} (h : Vm.check l = 0) (h0 : (rvR l).isEmpty = true) : Vm.canonR l = [] := by
  have hv := (verOk_of h).2.2.2
  unfold Vm.canonR
  unfold rvR Vm.rv at *
  cases h1 : Vm.has 45 (Vm.rest l)
  · have e : (if false = true then Vm.snd 45 (Vm.rest l) else [48]) = [48] := rfl
    rw [e, canonP48]; rfl
  · rw [h1] at h0 hv
    simp only [if_true] at h0 hv
    have : Vm.snd 45 (Vm.rest l) = [] := by simpa using h0
    rw [this] at hv; cases hv
theorem canonR_yes {l : List UInt8} (h : Vm.check l = 0) (h0 : (rvR l).isEmpty = false) : Vm.canonR l = (if Vm.canonP 41 (rvR l) == [48] then [] else 45 :: Vm.canonP 41 (rvR l)) ∧ Vm.partOk (rvR l) = true ∧ (rvR l).length ≤ 41 := by
  have hv := (verOk_of h).2.2.2
  have hl := (verOk_of h).1
  have hr := rv_le l
  have e : rvR l = Vm.rv l := by
    unfold rvR Vm.rv at *
    cases h1 : Vm.has 45 (Vm.rest l)
    · rw [h1] at h0; cases h0
    · rfl
  rw [e]
  exact ⟨rfl, hv, by omega⟩
theorem canonE_le (l : List UInt8) (h : l.length ≤ 40) : (Vm.canonE l).length ≤ 50 := by
  unfold Vm.canonE
  have h1 := bare_le (Vm.ep l)
  have h2 := ep_le l
  split
  · simp
  · simp; omega
set_option maxHeartbeats 1000000 in
theorem refCanon_any (l : List UInt8) (w : World) :
    Calls Tryd.prog 16 #[.string ⟨l.toArray⟩] w fun e w' => e = .returned (.tuple #[.string ⟨(canonOf l).toArray⟩, .int .i64 (Vm.check l)]) ∧ Below w.heap.size w w' := by
  by_cases hck : Vm.check l = 0
  · have HC : Hid (canonOf l = Vm.canonE l ++ Vm.canonP 41 (Vm.pt l) ++ Vm.canonR l) := by show _ = _; rw [canonOf, if_pos hck]; rfl
    have HK := Lib.hid hck
    have hv := verOk_of hck
    have hl := hv.1
    have lp := pt_le l
    have hEl := canonE_le l hl
    have hPl := canonP_le 41 (Vm.pt l)
    have HVP := Lib.hid hv.2.2.1
    have HA1 : Hid ((epR l).isEmpty = true → Vm.canonE l = []) := canonE_no hck
    have HA2 : Hid ((epR l).isEmpty = false → Vm.canonE l = (if Vm.bare (epR l) == [48] then [] else Vm.bare (epR l) ++ [58]) ∧ bareR (epR l) = Vm.bare (epR l) ∧ (epR l).length ≤ l.length) := canonE_yes
    have HB1 : Hid ((rvR l).isEmpty = true → Vm.canonR l = []) := canonR_no hck
    have HB2 : Hid ((rvR l).isEmpty = false → Vm.canonR l = (if Vm.canonP 41 (rvR l) == [48] then [] else 45 :: Vm.canonP 41 (rvR l)) ∧ Vm.partOk (rvR l) = true ∧ (rvR l).length ≤ 41) := canonR_yes hck
    obtain ⟨e, he⟩ : ∃ e, epR l = e := ⟨_, rfl⟩
    obtain ⟨r, hr⟩ : ∃ r, rvR l = r := ⟨_, rfl⟩
    rw [he] at HA1 HA2
    rw [hr] at HB1 HB2
    obtain ⟨x, hx⟩ : ∃ x, Vm.canonP 41 (Vm.pt l) = x := ⟨_, rfl⟩
    rw [hx] at HC hPl
    have HX := Lib.hid hx
    have HEq := Lib.hid he
    have HRq := Lib.hid hr
    clear hv hck hx he hr
    go_enter Tryd.func16, Tryd.ntmps16
    go_wp2_with fail
    refine (checkVer_any l _).mono ?_
    rintro _ w1 ⟨rfl, rfl⟩
    rw [HK.out]
    go_wp2_with fail
    refine (parts_yes l _ HK.out).mono ?_
    rintro _ w1 ⟨rfl, rfl⟩
    rw [HEq.out, HRq.out]
    go_wp2_with fail
    refine (refCanonP_any _ _ (by omega) HVP.out).mono ?_
    rintro _ w1 ⟨rfl, hb1⟩
    rw [HX.out]
    cases hr0 : r.isEmpty
    · obtain ⟨q1, q2, q3⟩ := HB2.out hr0
      have lc := canonP_le 41 r
      have HQ2 := Lib.hid q2
      obtain ⟨y, hy⟩ : ∃ y, Vm.canonP 41 r = y := ⟨_, rfl⟩
      rw [hy] at q1 lc
      have HY := Lib.hid hy
      cases hz2 : y == [48]
      · have HRF : Hid (Vm.canonR l = 45 :: y) := by show _ = _; rw [q1, hz2]; rfl
        clear hy q1 q2
        cases he0 : e.isEmpty
        · obtain ⟨p1, p2, p3⟩ := HA2.out he0
          obtain ⟨b, hb⟩ : ∃ b, Vm.bare e = b := ⟨_, rfl⟩
          have lb := bare_le e
          rw [hb] at p1 p2 lb
          have HBR := Lib.hid p2
          cases hz : b == [48]
          · obtain ⟨X, hX⟩ : ∃ X, b ++ [58] ++ x = X := ⟨_, rfl⟩
            have hXl : X.length ≤ 200 := by rw [← hX]; simp; omega
            have hap0 : (⟨b.toArray⟩ : ByteArray) ++ ⟨#[58]⟩ ++ ⟨x.toArray⟩ = ⟨X.toArray⟩ := by
              show ByteArray.mk b.toArray ++ ByteArray.mk [58].toArray ++ ByteArray.mk x.toArray = _
              rw [ByteArray.mk_append_mk, ByteArray.mk_append_mk, hX]
            have HXE : Hid (Vm.canonE l ++ x = X) := by show _ = _; rw [p1, hz, ← hX]; rfl
            clear hb p1 p2 hX
            obtain ⟨Z, hZ⟩ : ∃ Z, X ++ [45] ++ y = Z := ⟨_, rfl⟩
            have hap : (⟨X.toArray⟩ : ByteArray) ++ ⟨#[45]⟩ ++ ⟨y.toArray⟩ = ⟨Z.toArray⟩ := by
              show ByteArray.mk (X).toArray ++ ByteArray.mk [45].toArray ++ ByteArray.mk y.toArray = _
              rw [ByteArray.mk_append_mk, ByteArray.mk_append_mk, hZ]
            have HF : Hid (canonOf l = Z) := by show _ = _; rw [HC.out, HRF.out, HXE.out, ← hZ]; simp
            clear hZ
            go_wp2_with fail
            refine (refBare_any e _ (by omega)).mono ?_
            rintro _ w2 ⟨rfl, rfl⟩
            rw [HBR.out]
            go_wp2_with fail
            refine (refBare_any e _ (by omega)).mono ?_
            rintro _ w2 ⟨rfl, rfl⟩
            rw [HBR.out]
            go_wp2_with fail
            refine (refCanonP_any r _ q3 HQ2.out).mono ?_
            rintro _ w2 ⟨rfl, hb2⟩
            rw [HY.out]
            have hb4 : Below w.heap.size w w2 := hb1.trans (hb2.mono hb1.size)
            clear hb1 hb2
            go_wp2_with fail
            refine (refCanonP_any r _ q3 HQ2.out).mono ?_
            rintro _ w3 ⟨rfl, hb2⟩
            rw [HY.out]
            have hb5 : Below w.heap.size w w3 := hb4.trans (hb2.mono hb4.size)
            clear hb4 hb2
            go_wp2_with fail
            go_ret2
            exact ⟨by rw [HF.out, HK.out]; rfl, hb5⟩
          · have HXE : Hid (Vm.canonE l ++ x = x) := by show _ = _; rw [p1, hz]; rfl
            clear hb p1 p2
            obtain ⟨Z, hZ⟩ : ∃ Z, x ++ [45] ++ y = Z := ⟨_, rfl⟩
            have hap : (⟨x.toArray⟩ : ByteArray) ++ ⟨#[45]⟩ ++ ⟨y.toArray⟩ = ⟨Z.toArray⟩ := by
              show ByteArray.mk (x).toArray ++ ByteArray.mk [45].toArray ++ ByteArray.mk y.toArray = _
              rw [ByteArray.mk_append_mk, ByteArray.mk_append_mk, hZ]
            have HF : Hid (canonOf l = Z) := by show _ = _; rw [HC.out, HRF.out, HXE.out, ← hZ]; simp
            clear hZ
            go_wp2_with fail
            refine (refBare_any e _ (by omega)).mono ?_
            rintro _ w2 ⟨rfl, rfl⟩
            rw [HBR.out]
            go_wp2_with fail
            refine (refCanonP_any r _ q3 HQ2.out).mono ?_
            rintro _ w2 ⟨rfl, hb2⟩
            rw [HY.out]
            have hb4 : Below w.heap.size w w2 := hb1.trans (hb2.mono hb1.size)
            clear hb1 hb2
            go_wp2_with fail
            refine (refCanonP_any r _ q3 HQ2.out).mono ?_
            rintro _ w3 ⟨rfl, hb2⟩
            rw [HY.out]
            have hb5 : Below w.heap.size w w3 := hb4.trans (hb2.mono hb4.size)
            clear hb4 hb2
            go_wp2_with fail
            go_ret2
            exact ⟨by rw [HF.out, HK.out]; rfl, hb5⟩
        · have HXE : Hid (Vm.canonE l ++ x = x) := by show _ = _; rw [HA1.out he0]; rfl
          obtain ⟨Z, hZ⟩ : ∃ Z, x ++ [45] ++ y = Z := ⟨_, rfl⟩
          have hap : (⟨x.toArray⟩ : ByteArray) ++ ⟨#[45]⟩ ++ ⟨y.toArray⟩ = ⟨Z.toArray⟩ := by
            show ByteArray.mk (x).toArray ++ ByteArray.mk [45].toArray ++ ByteArray.mk y.toArray = _
            rw [ByteArray.mk_append_mk, ByteArray.mk_append_mk, hZ]
          have HF : Hid (canonOf l = Z) := by show _ = _; rw [HC.out, HRF.out, HXE.out, ← hZ]; simp
          clear hZ
          go_wp2_with fail
          refine (refCanonP_any r _ q3 HQ2.out).mono ?_
          rintro _ w2 ⟨rfl, hb2⟩
          rw [HY.out]
          have hb4 : Below w.heap.size w w2 := hb1.trans (hb2.mono hb1.size)
          clear hb1 hb2
          go_wp2_with fail
          refine (refCanonP_any r _ q3 HQ2.out).mono ?_
          rintro _ w3 ⟨rfl, hb2⟩
          rw [HY.out]
          have hb5 : Below w.heap.size w w3 := hb4.trans (hb2.mono hb4.size)
          clear hb4 hb2
          go_wp2_with fail
          go_ret2
          exact ⟨by rw [HF.out, HK.out]; rfl, hb5⟩
      · have HRF : Hid (Vm.canonR l = []) := by show _ = _; rw [q1, hz2]; rfl
        clear hy q1 q2
        cases he0 : e.isEmpty
        · obtain ⟨p1, p2, p3⟩ := HA2.out he0
          obtain ⟨b, hb⟩ : ∃ b, Vm.bare e = b := ⟨_, rfl⟩
          have lb := bare_le e
          rw [hb] at p1 p2 lb
          have HBR := Lib.hid p2
          cases hz : b == [48]
          · obtain ⟨X, hX⟩ : ∃ X, b ++ [58] ++ x = X := ⟨_, rfl⟩
            have hXl : X.length ≤ 200 := by rw [← hX]; simp; omega
            have hap0 : (⟨b.toArray⟩ : ByteArray) ++ ⟨#[58]⟩ ++ ⟨x.toArray⟩ = ⟨X.toArray⟩ := by
              show ByteArray.mk b.toArray ++ ByteArray.mk [58].toArray ++ ByteArray.mk x.toArray = _
              rw [ByteArray.mk_append_mk, ByteArray.mk_append_mk, hX]
            have HXE : Hid (Vm.canonE l ++ x = X) := by show _ = _; rw [p1, hz, ← hX]; rfl
            clear hb p1 p2 hX
            have HF : Hid (canonOf l = X) := by show _ = _; rw [HC.out, HRF.out, HXE.out]; simp
            go_wp2_with fail
            refine (refBare_any e _ (by omega)).mono ?_
            rintro _ w2 ⟨rfl, rfl⟩
            rw [HBR.out]
            go_wp2_with fail
            refine (refBare_any e _ (by omega)).mono ?_
            rintro _ w2 ⟨rfl, rfl⟩
            rw [HBR.out]
            go_wp2_with fail
            refine (refCanonP_any r _ q3 HQ2.out).mono ?_
            rintro _ w2 ⟨rfl, hb2⟩
            rw [HY.out]
            have hb4 : Below w.heap.size w w2 := hb1.trans (hb2.mono hb1.size)
            clear hb1 hb2
            go_wp2_with fail
            go_ret2
            exact ⟨by rw [HF.out, HK.out]; rfl, hb4⟩
          · have HXE : Hid (Vm.canonE l ++ x = x) := by show _ = _; rw [p1, hz]; rfl
            clear hb p1 p2
            have HF : Hid (canonOf l = x) := by show _ = _; rw [HC.out, HRF.out, HXE.out]; simp
            go_wp2_with fail
            refine (refBare_any e _ (by omega)).mono ?_
            rintro _ w2 ⟨rfl, rfl⟩
            rw [HBR.out]
            go_wp2_with fail
            refine (refCanonP_any r _ q3 HQ2.out).mono ?_
            rintro _ w2 ⟨rfl, hb2⟩
            rw [HY.out]
            have hb4 : Below w.heap.size w w2 := hb1.trans (hb2.mono hb1.size)
            clear hb1 hb2
            go_wp2_with fail
            go_ret2
            exact ⟨by rw [HF.out, HK.out]; rfl, hb4⟩
        · have HXE : Hid (Vm.canonE l ++ x = x) := by show _ = _; rw [HA1.out he0]; rfl
          have HF : Hid (canonOf l = x) := by show _ = _; rw [HC.out, HRF.out, HXE.out]; simp
          go_wp2_with fail
          refine (refCanonP_any r _ q3 HQ2.out).mono ?_
          rintro _ w2 ⟨rfl, hb2⟩
          rw [HY.out]
          have hb4 : Below w.heap.size w w2 := hb1.trans (hb2.mono hb1.size)
          clear hb1 hb2
          go_wp2_with fail
          go_ret2
          exact ⟨by rw [HF.out, HK.out]; rfl, hb4⟩
    · have HRF : Hid (Vm.canonR l = []) := HB1.out hr0
      cases he0 : e.isEmpty
      · obtain ⟨p1, p2, p3⟩ := HA2.out he0
        obtain ⟨b, hb⟩ : ∃ b, Vm.bare e = b := ⟨_, rfl⟩
        have lb := bare_le e
        rw [hb] at p1 p2 lb
        have HBR := Lib.hid p2
        cases hz : b == [48]
        · obtain ⟨X, hX⟩ : ∃ X, b ++ [58] ++ x = X := ⟨_, rfl⟩
          have hXl : X.length ≤ 200 := by rw [← hX]; simp; omega
          have hap0 : (⟨b.toArray⟩ : ByteArray) ++ ⟨#[58]⟩ ++ ⟨x.toArray⟩ = ⟨X.toArray⟩ := by
            show ByteArray.mk b.toArray ++ ByteArray.mk [58].toArray ++ ByteArray.mk x.toArray = _
            rw [ByteArray.mk_append_mk, ByteArray.mk_append_mk, hX]
          have HXE : Hid (Vm.canonE l ++ x = X) := by show _ = _; rw [p1, hz, ← hX]; rfl
          clear hb p1 p2 hX
          have HF : Hid (canonOf l = X) := by show _ = _; rw [HC.out, HRF.out, HXE.out]; simp
          go_wp2_with fail
          refine (refBare_any e _ (by omega)).mono ?_
          rintro _ w2 ⟨rfl, rfl⟩
          rw [HBR.out]
          go_wp2_with fail
          refine (refBare_any e _ (by omega)).mono ?_
          rintro _ w2 ⟨rfl, rfl⟩
          rw [HBR.out]
          go_wp2_with fail
          go_ret2
          exact ⟨by rw [HF.out, HK.out]; rfl, hb1⟩
        · have HXE : Hid (Vm.canonE l ++ x = x) := by show _ = _; rw [p1, hz]; rfl
          clear hb p1 p2
          have HF : Hid (canonOf l = x) := by show _ = _; rw [HC.out, HRF.out, HXE.out]; simp
          go_wp2_with fail
          refine (refBare_any e _ (by omega)).mono ?_
          rintro _ w2 ⟨rfl, rfl⟩
          rw [HBR.out]
          go_wp2_with fail
          go_ret2
          exact ⟨by rw [HF.out, HK.out]; rfl, hb1⟩
      · have HXE : Hid (Vm.canonE l ++ x = x) := by show _ = _; rw [HA1.out he0]; rfl
        have HF : Hid (canonOf l = x) := by show _ = _; rw [HC.out, HRF.out, HXE.out]; simp
        go_wp2_with fail
        go_ret2
        exact ⟨by rw [HF.out, HK.out]; rfl, hb1⟩
  · have HC : Hid (canonOf l = []) := by show _ = _; rw [canonOf, if_neg hck]
    have hne : (Vm.check l != 0) = true := by simpa using hck
    go_enter Tryd.func16, Tryd.ntmps16
    go_wp2_with fail
    refine (checkVer_any l _).mono ?_
    rintro _ w1 ⟨rfl, rfl⟩
    obtain ⟨c, hc⟩ : ∃ c, Vm.check l = c := ⟨_, rfl⟩
    rw [hc] at hne
    rw [hc]
    clear hck
    go_wp2_with fail
    go_ret2
    exact ⟨by rw [HC.out, hc]; rfl, Below.refl _ _⟩
end Go.Proofs.YtaghhdgiegcimaaDoor

/- The reference's Decimal: digits that spell the number. -/
import Derived.Test.YtkbahnimnhafiaaDoorQe
namespace Go.Proofs.YtkbahnimnhafiaaDoor
open Go.RowKit

/-- The digit of a number below ten. -/
def dg (n : Nat) : UInt8 := UInt8.ofNat (48 + n % 10)
theorem dg_nat (n : Nat) : (dg n).toNat = 48 + n % 10 := by
  unfold dg
  rw [UInt8.toNat_ofNat']
  omega
theorem dg_dig (n : Nat) : Vm.dig (dg n) = true := by
  unfold Vm.dig; rw [dg_nat]; simp; omega
theorem num_dg (n : Nat) (d : List UInt8) : Vm.num (dg n :: d) = n % 10 * 10 ^ d.length + Vm.num d := by
  rw [Vm.num_cons, dg_nat, show 48 + n % 10 - 48 = n % 10 from by omega]
theorem conv_one (w : World) (T : TypeId) (x : Int) (n : Nat) (hx : x = ((n % 10 : Nat) : Int)) : (convert 53 9 (.slice (some ⟨w.heap.size, 0, none⟩) 1 1)).run Tryd.prog (w.alloc (.cells #[.int .u8 (48 + x)] T)) = .ok (.string ⟨[dg n].toArray⟩) (w.alloc (.cells #[.int .u8 (48 + x)] T)) :=
  run_convert_bytes_back (P := Tryd.prog) _ _ _ _ _ 1 [dg n] Tryd.underlying53 Tryd.underlying5 Tryd.underlying9 (fun j hj => by
    match j, hj with
    | 0, _ =>
      have h2 : ([dg n][0].toNat : Int) = 48 + x := by show ((dg n).toNat : Int) = _; rw [dg_nat, hx]; omega
      rw [h2]
      simp [Addr.add])
/-- The digits d end the number n, of which m is still to be told. -/
def DecSt (n m : Nat) (d : List UInt8) : Prop := m ≤ n ∧ d ≠ [] ∧ d.all Vm.dig = true ∧ m / 10 * 10 ^ d.length + Vm.num d = n ∧ (d.length = 1 ∨ 10 ^ (d.length - 1) ≤ n)
theorem decSt_start (n : Nat) : DecSt n n [dg n] := by
  refine ⟨Nat.le_refl _, by simp, by simp [dg_dig], ?_, Or.inl rfl⟩
  rw [num_dg]; simp [Vm.num]; omega
theorem decSt_next {n m : Nat} {d : List UInt8} (h : DecSt n m d) (hm : 10 ≤ m) : DecSt n (m / 10) (dg (m / 10) :: d) := by
  obtain ⟨h0, h1, h2, h3, _⟩ := h
  have e : 10 ^ (d.length + 1) = 10 * 10 ^ d.length := by rw [Nat.pow_succ, Nat.mul_comm]
  refine ⟨by omega, by simp, by simp only [List.all_cons, dg_dig, h2, Bool.and_true], ?_, Or.inr ?_⟩
  · rw [num_dg, List.length_cons, e]
    have : m / 10 / 10 * (10 * 10 ^ d.length) + m / 10 % 10 * 10 ^ d.length = m / 10 * 10 ^ d.length := by
      rw [← Nat.mul_assoc, ← Nat.add_mul]; congr 1; omega
    omega
  · rw [List.length_cons, Nat.add_sub_cancel]
    have : 1 * 10 ^ d.length ≤ m / 10 * 10 ^ d.length := Nat.mul_le_mul_right _ (by omega)
    omega
theorem decSt_len {n m : Nat} {d : List UInt8} (h : DecSt n m d) (hn : n < 4294967296) : d.length ≤ 10 := by
  obtain ⟨_, _, _, _, h4⟩ := h
  rcases h4 with h4 | h4
  · omega
  · by_cases h5 : d.length ≤ 10
    · exact h5
    · have : 10 ^ 10 ≤ 10 ^ (d.length - 1) := Nat.pow_le_pow_right (by decide) (by omega)
      omega
/-- How Decimal ends. -/
def DecRet (n : Nat) (w : World) (e : Ending) (w' : World) : Prop := ∃ d : List UInt8, e = .returned (.string ⟨d.toArray⟩) ∧ d ≠ [] ∧ d.all Vm.dig = true ∧ Vm.num d = n ∧ d.length ≤ 10 ∧ Below w.heap.size w w'
set_option maxHeartbeats 800000 in
theorem decimal_any (n : Nat) (hn : n < 4294967296) (w : World) :
    Calls Tryd.prog 15 #[.int .u64 n] w (DecRet n w) := by
  have hn0 : (0 : Int) ≤ (n : Int) := by omega
  have HN := Lib.hid hn
  clear hn
  go_enter Tryd.func15, Tryd.ntmps15
  have hcv := conv_one w 5 ((n : Int) % 10) n (by omega)
  go_wp2_with fail
  have HS0 := Lib.hid (decSt_start n)
  have hb0 : Below w.heap.size w (w.alloc (.cells #[.int .u8 (48 + (n : Int) % 10)] 5)) := (Below.refl _ _).alloc (Nat.le_refl _) _
  have HB0 := Lib.hid hb0
  clear hcv hb0
  go_loopw [0, 3] (fun x s wr => ∃ (m : Nat) (d : List UInt8), x = .int .u64 m ∧ s = .string ⟨d.toArray⟩ ∧ d.length ≤ 10 ∧ Hid (DecSt n m d) ∧ Hid (Below w.heap.size w wr)) (fun x _ _ => (intOf x).toNat)
  case atStart => exact ⟨n, [dg n], rfl, rfl, by simp, HS0, HB0⟩
  case round =>
    clear HS0 HB0 hn0
    obtain ⟨m, d, rfl, rfl, hd, HS, HB⟩ := hrel
    have hm0 : (0 : Int) ≤ (m : Int) := by omega
    by_cases h10 : 10 ≤ m
    · have g1 : (10 : Int) ≤ (m : Int) := by omega
      have HS1 := Lib.hid (decSt_next HS.out h10)
      have hl1 := decSt_len HS1.out HN.out
      have hdv : (m : Int) / 10 = ((m / 10 : Nat) : Int) := by omega
      have hcv := conv_one wr 5 (((m / 10 : Nat) : Int) % 10) (m / 10) (by omega)
      have hcv' : (convert 53 9 (.slice (some ⟨wr.heap.size, 0, none⟩) 1 1)).run Tryd.prog (wr.alloc (.cells #[.int .u8 (48 + (m : Int) / 10 % 10)] 5)) = .ok (.string ⟨[dg (m / 10)].toArray⟩) (wr.alloc (.cells #[.int .u8 (48 + (m : Int) / 10 % 10)] 5)) := by rw [hdv]; exact hcv
      have HDV := Lib.hid hdv
      clear hcv hdv
      obtain ⟨c, hc⟩ : ∃ c, dg (m / 10) = c := ⟨_, rfl⟩
      rw [hc] at hcv' HS1 hl1
      have hwr : IntKind.u64.wrap ((m : Int) / 10) = (m : Int) / 10 := IntWalk.u64_in _ (by have := HS.out.1; have := HN.out; omega)
      have hq0 : (0 : Int) ≤ (m : Int) / 10 := by omega
      clear hc HS
      go_wp2_with fail
      go_roundw
      case rel => exact ⟨m / 10, c :: d, by rw [HDV.out], congrArg Value.string (ByteArray.mk_append_mk [c] d), hl1, HS1, HB.out.alloc HB.out.size _⟩
      case measure => simp [intOf]; omega
    · go_wp2_with fail
      go_ret
      have hm1 : m / 10 = 0 := by omega
      have h := HS.out
      have h3 := h.2.2.2.1
      rw [hm1, Nat.zero_mul, Nat.zero_add] at h3
      exact ⟨d, rfl, h.2.1, h.2.2.1, h3, hd, HB.out⟩

/-! Versions made of digits, a mark and digits. -/
theorem digs_pieces (e p r : List UInt8) (he : e.all Vm.dig = true) (hp : p.all Vm.ok1 = true) (hr : r.all Vm.ok1 = true) (h6 : e.length ≤ 6) (hl : e.length + p.length + r.length ≤ 38) (hp2 : Vm.partOk p = true) (hr2 : r = [] ∨ Vm.partOk r = true) : Vm.check (Vm.glue e p r) = 0 := by
  obtain ⟨g1, g2, g3⟩ := Vm.glue_pieces e p r he hp hr
  refine Vm.of_ver ?_ ?_ ?_ ?_
  · unfold Vm.glue
    simp only [List.length_append]
    split <;> split <;> simp <;> omega
  · rw [g1]
    cases e with
    | nil => rfl
    | cons c t => exact (Vm.epOk_iff _).2 ⟨by simp, h6, he⟩
  · rw [g2]; exact hp2
  · rw [g3]
    rcases hr2 with rfl | hr2
    · decide
    · have : r.isEmpty = false := by simpa using (Vm.gp_of hr2).1
      rw [this]; exact hr2
theorem part_digs {d : List UInt8} (h0 : d ≠ []) (h : d.all Vm.dig = true) : Vm.partOk d = true := by
  refine (Vm.partOk_iff _).2 ⟨h0, ⟨fun c hc => ?_, fun c hc => ?_⟩, Vm.dig_ok h⟩
  · rw [List.all_eq_true] at h; exact h c (List.mem_of_head? hc)
  · rw [List.all_eq_true] at h; exact h c (List.mem_of_getLast? hc)
/-- A digit, others, digits. -/
theorem part_mark {c : UInt8} {m d : List UInt8} (hc : Vm.dig c = true) (hm : m.all Vm.ok1 = true) (h0 : d ≠ []) (h : d.all Vm.dig = true) : Vm.partOk (c :: (m ++ d)) = true := by
  refine (Vm.partOk_iff _).2 ⟨by simp, ⟨fun x hx => ?_, fun x hx => ?_⟩, ?_⟩
  · simp at hx; subst hx; exact hc
  · rw [show c :: (m ++ d) = (c :: m) ++ d from rfl, Vm.last_app h0] at hx
    rw [List.all_eq_true] at h; exact h x (List.mem_of_getLast? hx)
  · simp only [List.all_cons, List.all_append, Vm.ok1, hc, Bool.true_or, Bool.true_and, Bool.and_eq_true]
    exact ⟨hm, Vm.dig_ok h⟩
theorem runs_digs {d : List UInt8} (h : d.all Vm.dig = true) : Vm.digs d = d ∧ Vm.undigs d = [] := by
  have := Vm.digs_app (b := []) h (by intro c hc; cases hc)
  rwa [List.append_nil] at this
theorem cmpP_digs (n : Nat) (a b : List UInt8) (ha : a.all Vm.dig = true) (hb : b.all Vm.dig = true) : Vm.cmpP (n + 1) a b = Vm.sgn (Vm.num a) (Vm.num b) := by
  rw [Vm.cmpP_eq, (runs_digs ha).1, (runs_digs hb).1, Vm.cmpD_num a b ha hb]
  unfold Vm.tail2
  rw [(runs_digs ha).2, (runs_digs hb).2]
  have h1 : Vm.cmpO (Vm.oths []) (Vm.oths []) = 0 := by decide
  have h2 : Vm.cmpP n (Vm.unoths []) (Vm.unoths []) = 0 := by cases n <;> rfl
  rw [h1, h2]
  show Vm.both _ 0 = _
  exact both_zero _
theorem runs_mark {c : UInt8} {m d : List UInt8} (hc : Vm.dig c = true) (hm : m.all (fun x => !Vm.dig x) = true) (h : d.all Vm.dig = true) (h0 : m = [] → d = []) :
    Vm.digs (c :: (m ++ d)) = [c] ∧ Vm.oths (Vm.undigs (c :: (m ++ d))) = m ∧ Vm.tail2 (c :: (m ++ d)) = d := by
  have hN : Vm.HdN (m ++ d) := by
    cases m with
    | nil => rw [h0 rfl]; intro x hx; cases hx
    | cons x t =>
      intro y hy
      simp at hy; subst hy
      simp only [List.all_cons, Bool.and_eq_true] at hm
      simpa using hm.1
  have hY : Vm.HdY d := fun x hx => by rw [List.all_eq_true] at h; exact h x (List.mem_of_head? hx)
  obtain ⟨g1, g2⟩ := Vm.digs_app (a := [c]) (b := m ++ d) (by simp [hc]) hN
  obtain ⟨g3, g4⟩ := Vm.oths_app hm hY
  have e : c :: (m ++ d) = [c] ++ (m ++ d) := rfl
  unfold Vm.tail2
  rw [e, g1, g2, g3, g4]
  exact ⟨rfl, rfl, rfl⟩
theorem cmpP_mark (n : Nat) {c : UInt8} {m k d e : List UInt8} (hc : Vm.dig c = true) (hm : m.all (fun x => !Vm.dig x) = true) (hk : k.all (fun x => !Vm.dig x) = true) (hd : d.all Vm.dig = true) (he : e.all Vm.dig = true) (h0 : m = [] → d = []) (h1 : k = [] → e = []) :
    Vm.cmpP (n + 1) (c :: (m ++ d)) (c :: (k ++ e)) = Vm.both (Vm.cmpO m k) (Vm.cmpP n d e) := by
  obtain ⟨g1, g2, g3⟩ := runs_mark hc hm hd h0
  obtain ⟨f1, f2, f3⟩ := runs_mark hc hk he h1
  rw [Vm.cmpP_eq, g1, g2, g3, f1, f2, f3, (Vm.cmpD_eq [c] [c]).2 rfl]; rfl
theorem cmpV_glue (e p r f q s : List UInt8) (he : e.all Vm.dig = true) (hp : p.all Vm.ok1 = true) (hr : r.all Vm.ok1 = true) (hf : f.all Vm.dig = true) (hq : q.all Vm.ok1 = true) (hs : s.all Vm.ok1 = true) :
    Vm.cmpV (Vm.glue e p r) (Vm.glue f q s) = Vm.both (Vm.cmpD (if e.isEmpty then [48] else e) (if f.isEmpty then [48] else f)) (Vm.both (Vm.cmpP 41 p q) (Vm.cmpP 41 (if r.isEmpty then [48] else r) (if s.isEmpty then [48] else s))) := by
  obtain ⟨g1, g2, g3⟩ := Vm.glue_pieces e p r he hp hr
  obtain ⟨f1, f2, f3⟩ := Vm.glue_pieces f q s hf hq hs
  unfold Vm.cmpV
  rw [g1, g2, g3, f1, f2, f3]
theorem both_zero_left (x : Int) : Vm.both 0 x = x := rfl
theorem cmpP48 : Vm.cmpP 41 [48] [48] = 0 := by decide
theorem zeros_num (k : Nat) (d : List UInt8) : Vm.num (List.replicate k 48 ++ d) = Vm.num d := by
  induction k with
  | zero => rfl
  | succ k ih => rw [List.replicate_succ, List.cons_append, Vm.num_cons, ih]; simp
end Go.Proofs.YtkbahnimnhafiaaDoor

/- The first number that is not 0; two runs of digits, two other runs compared. -/
import Derived.Test.YtaghhdgiegcimaaDoorVe
namespace Go.Proofs.YtaghhdgiegcimaaDoor
open Go.RowKit

/-- The first number that is not 0; 0: none. -/
def orL : List Int → Int
  | [] => 0
  | x :: r => Vm.both x (orL r)
theorem orL_drop (zs : List Int) (k : Nat) (h : k < zs.length) : orL (zs.drop k) = Vm.both zs[k] (orL (zs.drop (k + 1))) := by
  rw [List.drop_eq_getElem_cons h]; rfl
set_option maxHeartbeats 400000 in
theorem cmpOr_any (zs : List Int) (b cap : Nat) (w : World) (hm : zs.length ≤ 100) (hc : ∀ (k : Nat) (h : k < zs.length), w.cell? ⟨b, k, none⟩ = some (.int .i64 zs[k])) :
    Calls Tryd.prog 83 #[.slice (some ⟨b, 0, none⟩) zs.length cap] w fun e w' => e = .returned (.int .i64 (orL zs)) ∧ w = w' := by
  have HC := Lib.hid hc
  clear hc
  go_enter Tryd.func83, Tryd.ntmps83
  go_wp2_with fail
  go_loop [8] (fun i => ∃ k : Nat, k ≤ zs.length ∧ i = .int .i64 k ∧ Hid (orL zs = orL (zs.drop k))) (fun i => zs.length - (intOf i).toNat)
  case atStart => exact ⟨0, Nat.zero_le _, rfl, rfl⟩
  case round =>
    obtain ⟨k, hk, rfl, HE⟩ := hrel
    by_cases hlt : k < zs.length
    · have hcell := HC.out k hlt
      have HD := Lib.hid (orL_drop zs k hlt)
      obtain ⟨x, hx⟩ : ∃ x, zs[k] = x := ⟨_, rfl⟩
      rw [hx] at hcell HD
      clear hx
      cases h0 : x == 0
      · have n1 : (x != 0) = true := by rw [bne, h0]; rfl
        have HB : Hid (orL zs = x) := by show _ = _; rw [HE.out, HD.out, Vm.both, h0]; rfl
        clear h0
        go_wp2_with fail
        go_ret
        exact ⟨by rw [HB.out]; rfl, rfl⟩
      · have n1 : (x != 0) = false := by rw [bne, h0]; rfl
        have HB : Hid (orL zs = orL (zs.drop (k + 1))) := by show _ = _; rw [HE.out, HD.out, Vm.both, h0]; rfl
        clear h0
        go_wp2_with fail
        go_round
        case rel => exact ⟨k + 1, by omega, by go_num, HB⟩
        case measure => simp [intOf]; omega
    · obtain rfl : k = zs.length := by omega
      have HB : Hid (orL zs = 0) := by show _ = _; rw [HE.out, List.drop_length]; rfl
      go_wp2_with fail
      go_ret
      exact ⟨by rw [HB.out]; rfl, rfl⟩

theorem both_zero (y : Int) : Vm.both y 0 = y := by unfold Vm.both; split <;> simp_all
theorem cells2 (w : World) (p q : Int) (k : Nat) (h : k < [p, q].length) : (w.alloc (.cells #[.int .i64 p, .int .i64 q] 3)).cell? ⟨w.heap.size, k, none⟩ = some (.int .i64 [p, q][k]) := by
  rw [World.cell?_alloc_mark]
  match k, h with
  | 0, _ => rfl
  | 1, _ => rfl
theorem compareI_any (x y : Int) (w : World) :
    Calls Tryd.prog 107 #[.int .i64 x, .int .i64 y] w fun e w' => e = .returned (.int .i64 (Vm.sgn x y)) ∧ w = w' :=
  (Tryd.cmp_Compare_int x y w).mono fun _ _ h => ⟨by rw [h.1]; rfl, h.2.symm⟩
theorem compareS_any (a b : List UInt8) (w : World) :
    Calls Tryd.prog 108 #[.string ⟨a.toArray⟩, .string ⟨b.toArray⟩] w fun e w' => e = .returned (.int .i64 (Lib.compareBytes a b)) ∧ w = w' :=
  (Tryd.strings_Compare ⟨a.toArray⟩ ⟨b.toArray⟩ w).mono fun _ _ h => ⟨h.1, h.2.symm⟩
set_option maxHeartbeats 400000 in
theorem compareDigits_any (a b : List UInt8) (w : World) :
    Calls Tryd.prog 84 #[.string ⟨a.toArray⟩, .string ⟨b.toArray⟩] w fun e w' => e = .returned (.int .i64 (Vm.cmpD a b)) ∧ Below w.heap.size w w' := by
  have HX : Hid (Vm.cmpD a b = Vm.both (Vm.sgn (Vm.bare a).length (Vm.bare b).length) (Lib.compareBytes (Vm.bare a) (Vm.bare b))) := rfl
  go_enter Tryd.func84, Tryd.ntmps84
  go_wp2_with fail
  refine (bare_any a _).mono ?_
  rintro e w' ⟨rfl, rfl⟩
  go_wp2_with fail
  refine (bare_any b _).mono ?_
  rintro e w' ⟨rfl, rfl⟩
  obtain ⟨x, hx⟩ : ∃ x, Vm.bare a = x := ⟨_, rfl⟩
  obtain ⟨y, hy⟩ : ∃ y, Vm.bare b = y := ⟨_, rfl⟩
  rw [hx, hy] at HX
  rw [hx, hy]
  clear hx hy
  go_wp2_with fail
  refine (compareI_any _ _ _).mono ?_
  rintro e w' ⟨rfl, rfl⟩
  go_wp2_with fail
  refine (compareS_any _ _ _).mono ?_
  rintro e w' ⟨rfl, rfl⟩
  go_wp2_with fail
  obtain ⟨p, hp⟩ : ∃ p, Vm.sgn (x.length : Int) (y.length : Int) = p := ⟨_, rfl⟩
  obtain ⟨q, hq⟩ : ∃ q, Lib.compareBytes x y = q := ⟨_, rfl⟩
  rw [hp, hq] at HX
  rw [hp, hq]
  clear hp hq
  refine (cmpOr_any [p, q] _ _ _ (by simp) (cells2 w p q)).mono ?_
  rintro e w' ⟨rfl, rfl⟩
  go_wp2_with fail
  go_ret
  refine ⟨?_, (Below.refl _ _).alloc (Nat.le_refl _) _⟩
  show Ending.returned (.int .i64 (orL [p, q])) = _
  rw [HX.out, orL, orL, orL, both_zero]

theorem cmpOF_step (a b : List UInt8) (M k : Nat) (h : k < M) : Vm.cmpOF a b (M - k) k = Vm.both (Vm.sgn (Vm.mark a k) (Vm.mark b k)) (Vm.cmpOF a b (M - (k + 1)) (k + 1)) := by
  have : M - k = (M - (k + 1)) + 1 := by omega
  rw [this]; rfl
set_option maxHeartbeats 400000 in
theorem compareOthers_any (a b : List UInt8) (w : World) (ha : a.length ≤ 1000) (hb : b.length ≤ 1000) :
    Calls Tryd.prog 109 #[.string ⟨a.toArray⟩, .string ⟨b.toArray⟩] w fun e w' => e = .returned (.int .i64 (Vm.cmpO a b)) ∧ w = w' := by
  obtain ⟨M, hM, hM2⟩ : ∃ M : Nat, max (a.length : Int) (b.length : Int) = M ∧ max a.length b.length = M := ⟨max a.length b.length, by omega, rfl⟩
  have hM3 : M ≤ 1000 := by omega
  have HX : Hid (Vm.cmpO a b = Vm.cmpOF a b M 0) := by show _ = _; rw [← hM2]; rfl
  clear hM2
  go_enter Tryd.func109, Tryd.ntmps109
  go_wp2_with fail
  clear hM
  go_loop [12] (fun i => ∃ k : Nat, k ≤ M ∧ i = .int .i64 k ∧ Hid (Vm.cmpO a b = Vm.cmpOF a b (M - k) k)) (fun i => M - (intOf i).toNat)
  case atStart => exact ⟨0, Nat.zero_le _, rfl, HX⟩
  case round =>
    obtain ⟨k, hk, rfl, HE⟩ := hrel
    by_cases hlt : k < M
    · have HS := Lib.hid (cmpOF_step a b M k hlt)
      go_wp2_with fail
      refine (rank_any a k _).mono ?_
      rintro e w' ⟨rfl, rfl⟩
      go_wp2_with fail
      refine (rank_any b k _).mono ?_
      rintro e w' ⟨rfl, rfl⟩
      obtain ⟨x, hx⟩ : ∃ x, Vm.mark a k = x := ⟨_, rfl⟩
      obtain ⟨y, hy⟩ : ∃ y, Vm.mark b k = y := ⟨_, rfl⟩
      rw [hx, hy] at HS
      rw [hx, hy]
      clear hx hy
      go_wp2_with fail
      refine (compareI_any _ _ _).mono ?_
      rintro e w' ⟨rfl, rfl⟩
      obtain ⟨c, hc⟩ : ∃ c, Vm.sgn x y = c := ⟨_, rfl⟩
      rw [hc] at HS
      rw [hc]
      clear hc
      cases h0 : c == 0
      · have n1 : (c != 0) = true := by rw [bne, h0]; rfl
        have HB : Hid (Vm.cmpO a b = c) := by show _ = _; rw [HE.out, HS.out, Vm.both, h0]; rfl
        clear h0
        go_wp2_with fail
        go_ret
        exact ⟨by rw [HB.out]; rfl, rfl⟩
      · have n1 : (c != 0) = false := by rw [bne, h0]; rfl
        have HB : Hid (Vm.cmpO a b = Vm.cmpOF a b (M - (k + 1)) (k + 1)) := by show _ = _; rw [HE.out, HS.out, Vm.both, h0]; rfl
        clear h0
        go_wp2_with fail
        go_round
        case rel => exact ⟨k + 1, by omega, by go_num, HB⟩
        case measure => simp [intOf]; omega
    · obtain rfl : k = M := by omega
      have HB : Hid (Vm.cmpO a b = 0) := by show _ = _; rw [HE.out, Nat.sub_self]; rfl
      go_wp2_with fail
      go_ret
      exact ⟨by rw [HB.out]; rfl, rfl⟩

theorem tail2_le (l : List UInt8) : (Vm.tail2 l).length ≤ l.length := Nat.le_trans (unoths_le _) (undigs_le _)
theorem tail2_lt (l : List UInt8) (h : l.isEmpty = false) : (Vm.tail2 l).length < l.length := by
  match l, h with
  | c :: r, _ =>
    unfold Vm.tail2
    cases hd : Vm.dig c
    · have h1 : Vm.undigs (c :: r) = c :: r := by simp [Vm.undigs, hd]
      rw [h1]
      have h2 : Vm.unoths (c :: r) = Vm.unoths r := by simp [Vm.unoths, hd]
      rw [h2]
      have := unoths_le r
      simp; omega
    · have h1 : Vm.undigs (c :: r) = Vm.undigs r := by simp [Vm.undigs, hd]
      rw [h1]
      have := unoths_le (Vm.undigs r)
      have := undigs_le r
      simp; omega
theorem ascii_undigs {l : List UInt8} (h : ascii l) : ascii (Vm.undigs l) := by
  intro j b hb
  have h1 := List.mem_of_getElem? hb
  have h2 : b ∈ l := by rw [← (List.takeWhile_append_dropWhile : Vm.digs l ++ Vm.undigs l = l)]; exact List.mem_append_right _ h1
  obtain ⟨i, hi⟩ := List.getElem?_of_mem h2
  exact h i b hi
theorem ascii_unoths {l : List UInt8} (h : ascii l) : ascii (Vm.unoths l) := by
  intro j b hb
  have h1 := List.mem_of_getElem? hb
  have h2 : b ∈ l := by rw [← (List.takeWhile_append_dropWhile : Vm.oths l ++ Vm.unoths l = l)]; exact List.mem_append_right _ h1
  obtain ⟨i, hi⟩ := List.getElem?_of_mem h2
  exact h i b hi
theorem cmpP_step (n : Nat) (a b : List UInt8) (h : (a.isEmpty && b.isEmpty) = false) :
    Vm.cmpP (n + 1) a b = Vm.both (Vm.cmpD (Vm.digs a) (Vm.digs b)) (Vm.both (Vm.cmpO (Vm.oths (Vm.undigs a)) (Vm.oths (Vm.undigs b))) (Vm.cmpP n (Vm.tail2 a) (Vm.tail2 b))) := by
  rw [Vm.cmpP, h]; rfl
theorem cmpP_end (n : Nat) (a b : List UInt8) (h : (a.isEmpty && b.isEmpty) = true) : Vm.cmpP n a b = 0 := by
  cases n with
  | zero => rfl
  | succ n => rw [Vm.cmpP, h]; rfl
set_option maxHeartbeats 400000 in
theorem compareParts_any (n : Nat) (a b : List UInt8) (w : World) (hn : n ≤ 1000) (ha : a.length ≤ n) (hb : b.length ≤ n) (hasa : ascii a) (hasb : ascii b) :
    Calls Tryd.prog 85 #[.string ⟨a.toArray⟩, .string ⟨b.toArray⟩] w fun e w' => e = .returned (.int .i64 (Vm.cmpP n a b)) ∧ Below w.heap.size w w' := by
  have HX : Hid (ascii a ∧ ascii b) := ⟨hasa, hasb⟩
  clear hasa hasb
  go_enter Tryd.func85, Tryd.ntmps85
  go_wp2_with fail
  go_loopw [0, 1] (fun p q wr => ∃ (m : Nat) (c d : List UInt8), m ≤ n ∧ c.length ≤ m ∧ d.length ≤ m ∧ p = .string ⟨c.toArray⟩ ∧ q = .string ⟨d.toArray⟩ ∧ Hid (ascii c ∧ ascii d) ∧ Hid (Vm.cmpP n a b = Vm.cmpP m c d) ∧ Below w.heap.size w wr) (fun p q _ => strLen p + strLen q)
  case atStart => exact ⟨n, a, b, Nat.le_refl _, ha, hb, rfl, rfl, HX, rfl, Below.refl _ _⟩
  case round =>
    obtain ⟨m, c, d, hm, hc, hd, rfl, rfl, HA, HE, hbel⟩ := hrel
    by_cases hemp : (c.isEmpty && d.isEmpty) = true
    · have HB : Hid (Vm.cmpP n a b = 0) := by show _ = _; rw [HE.out]; exact cmpP_end _ _ _ hemp
      have h1 : c.isEmpty = true := by cases hc : c.isEmpty <;> simp_all
      have h2 : d.isEmpty = true := by cases hd : d.isEmpty <;> simp_all
      clear hemp
      go_wp2_with fail
      go_ret
      exact ⟨by rw [HB.out]; rfl, hbel⟩
    · have hemp' : (c.isEmpty && d.isEmpty) = false := by simpa using hemp
      clear hemp
      have hmpos : 0 < m := by
        rcases Nat.eq_zero_or_pos m with h | h
        · subst h
          have h1 : c = [] := List.eq_nil_of_length_eq_zero (by omega)
          have h2 : d = [] := List.eq_nil_of_length_eq_zero (by omega)
          subst h1 h2; simp at hemp'
        · exact h
      obtain ⟨m', rfl⟩ : ∃ m', m = m' + 1 := ⟨m - 1, by omega⟩
      have HS := Lib.hid (cmpP_step m' c d hemp')
      have l1 := undigs_le c
      have l2 := undigs_le d
      have l3 := oths_le (Vm.undigs c)
      have l4 := oths_le (Vm.undigs d)
      have l5 : (Vm.tail2 c).length ≤ m' := by
        cases he : c.isEmpty
        · have := tail2_lt c he; omega
        · have : c = [] := by simpa using he
          subst this; show 0 ≤ m'; omega
      have l6 : (Vm.tail2 d).length ≤ m' := by
        cases he : d.isEmpty
        · have := tail2_lt d he; omega
        · have : d = [] := by simpa using he
          subst this; show 0 ≤ m'; omega
      have l7 : (Vm.tail2 c).length + (Vm.tail2 d).length < c.length + d.length := by
        have h1 := tail2_le c
        have h2 := tail2_le d
        cases he : c.isEmpty
        · have := tail2_lt c he; omega
        · cases he2 : d.isEmpty
          · have := tail2_lt d he2; omega
          · rw [he, he2] at hemp'; cases hemp'
      have HL5 := Lib.hid l5
      have HL6 := Lib.hid l6
      have HL7 := Lib.hid l7
      have HM := Lib.hid hemp'
      clear l5 l6 l7 hemp' hmpos
      cases hc0 : c.isEmpty
      all_goals
        try (have hd0 : d.isEmpty = false := by have := HM.out; rw [hc0] at this; simpa using this)
        go_wp2_with fail
        refine (cutDigits_any c _ (by omega)).mono ?_
        rintro e w1 ⟨rfl, hb1⟩
        go_wp2_with fail
        refine (cutDigits_any d _ (by omega)).mono ?_
        rintro e w2 ⟨rfl, hb2⟩
        have hbel2 : Below w.heap.size w w2 := (hbel.trans (hb1.mono hbel.size)).trans (hb2.mono (Nat.le_trans hbel.size hb1.size))
        clear hb1 hb2
        go_wp2_with fail
        refine (compareDigits_any _ _ _).mono ?_
        rintro e w3 ⟨rfl, hb3⟩
        have hbel3 : Below w.heap.size w w3 := hbel2.trans (hb3.mono hbel2.size)
        clear hb3 hbel2
        obtain ⟨x, hx⟩ : ∃ x, Vm.cmpD (Vm.digs c) (Vm.digs d) = x := ⟨_, rfl⟩
        rw [hx] at HS
        rw [hx]
        clear hx
        cases h0 : x == 0
        · have n1 : (x != 0) = true := by rw [bne, h0]; rfl
          have HB : Hid (Vm.cmpP n a b = x) := by show _ = _; rw [HE.out, HS.out, Vm.both, h0]; rfl
          clear h0
          go_wp2_with fail
          go_ret
          exact ⟨by rw [HB.out]; rfl, hbel3⟩
        · have n1 : (x != 0) = false := by rw [bne, h0]; rfl
          have HB : Hid (Vm.cmpP n a b = Vm.both (Vm.cmpO (Vm.oths (Vm.undigs c)) (Vm.oths (Vm.undigs d))) (Vm.cmpP m' (Vm.tail2 c) (Vm.tail2 d))) := by show _ = _; rw [HE.out, HS.out, Vm.both, h0]; rfl
          clear h0
          go_wp2_with fail
          refine (cutOthers_any _ _ (by omega) (ascii_undigs HA.out.1)).mono ?_
          rintro e w4 ⟨rfl, hb4⟩
          go_wp2_with fail
          refine (cutOthers_any _ _ (by omega) (ascii_undigs HA.out.2)).mono ?_
          rintro e w5 ⟨rfl, hb5⟩
          have hbel5 : Below w.heap.size w w5 := (hbel3.trans (hb4.mono hbel3.size)).trans (hb5.mono (Nat.le_trans hbel3.size hb4.size))
          clear hb4 hb5 hbel3
          go_wp2_with fail
          refine (compareOthers_any _ _ _ (by omega) (by omega)).mono ?_
          rintro e w6 ⟨rfl, rfl⟩
          obtain ⟨y, hy⟩ : ∃ y, Vm.cmpO (Vm.oths (Vm.undigs c)) (Vm.oths (Vm.undigs d)) = y := ⟨_, rfl⟩
          rw [hy] at HB
          rw [hy]
          clear hy
          cases h0 : y == 0
          · have n1 : (y != 0) = true := by rw [bne, h0]; rfl
            have HC : Hid (Vm.cmpP n a b = y) := by show _ = _; rw [HB.out, Vm.both, h0]; rfl
            clear h0
            go_wp2_with fail
            go_ret
            exact ⟨by rw [HC.out]; rfl, hbel5⟩
          · have n1 : (y != 0) = false := by rw [bne, h0]; rfl
            have HC : Hid (Vm.cmpP n a b = Vm.cmpP m' (Vm.tail2 c) (Vm.tail2 d)) := by show _ = _; rw [HB.out, Vm.both, h0]; rfl
            clear h0
            go_wp2_with fail
            go_roundw
            case rel => exact ⟨m', Vm.tail2 c, Vm.tail2 d, by omega, HL5.out, HL6.out, rfl, rfl, ⟨ascii_unoths (ascii_undigs HA.out.1), ascii_unoths (ascii_undigs HA.out.2)⟩, HC, hbel5⟩
            case measure => have := HL7.out; simpa [strLen, Vm.tail2] using this
end Go.Proofs.YtaghhdgiegcimaaDoor

/- Asks read out of a text: the program's kindOf, askOf, Lines, read, Parse, walked. Asks read out of a text, as the reference does: walked. What each statement of the asks looks at first: walked. -/
import Derived.Test.YtkdildgdodnbbaaGreatDoorFc
import Derived.Test.YtkdildgdodnbbaaGreatDoorFb
import Derived.Test.YtkdildgdodnbbaaGreatDoorUr
namespace Go.Proofs.YtkdildgdodnbbaaGreatDoor
open Go.RowKit Rs At Pg Ak Sz
attribute [local go_sem ↓] Go.wp_at_zero Go.wp_at_succ
theorem Ak.kind_no {s : List UInt8} (h : ∀ j : Nat, 1 ≤ j → j < 5 → s ≠ wordQ (j : Int)) : kindQ s = 0 := by
  unfold kindQ
  rw [if_neg (show ¬ s = [105, 110, 115, 116, 97, 108, 108] from h 1 (by decide) (by decide)), if_neg (show ¬ s = [114, 101, 109, 111, 118, 101] from h 2 (by decide) (by decide)), if_neg (show ¬ s = [117, 112, 103, 114, 97, 100, 101] from h 3 (by decide) (by decide)), if_neg (show ¬ s = [112, 105, 110] from h 4 (by decide) (by decide))]
theorem Ak.kind_yes {s : List UInt8} {k : Nat} (h1 : 1 ≤ k) (h4 : k ≤ 4) (h : wordQ (k : Int) = s) : kindQ s = (k : Int) := by
  rw [← h]; exact (word_kind (k : Int) (by omega)).1
theorem Ak.word_ix (W : World) :
    (Instr.index 104 (.agg #[.string ⟨#[]⟩, .string ⟨#[105, 110, 115, 116, 97, 108, 108]⟩, .string ⟨#[114, 101, 109, 111, 118, 101]⟩, .string ⟨#[117, 112, 103, 114, 97, 100, 101]⟩, .string ⟨#[112, 105, 110]⟩]) (.int .i64 0)).run Tryz.prog W = .ok (.string ⟨#[]⟩) W ∧
    (Instr.index 104 (.agg #[.string ⟨#[]⟩, .string ⟨#[105, 110, 115, 116, 97, 108, 108]⟩, .string ⟨#[114, 101, 109, 111, 118, 101]⟩, .string ⟨#[117, 112, 103, 114, 97, 100, 101]⟩, .string ⟨#[112, 105, 110]⟩]) (.int .i64 1)).run Tryz.prog W = .ok (.string ⟨#[105, 110, 115, 116, 97, 108, 108]⟩) W ∧
    (Instr.index 104 (.agg #[.string ⟨#[]⟩, .string ⟨#[105, 110, 115, 116, 97, 108, 108]⟩, .string ⟨#[114, 101, 109, 111, 118, 101]⟩, .string ⟨#[117, 112, 103, 114, 97, 100, 101]⟩, .string ⟨#[112, 105, 110]⟩]) (.int .i64 2)).run Tryz.prog W = .ok (.string ⟨#[114, 101, 109, 111, 118, 101]⟩) W ∧
    (Instr.index 104 (.agg #[.string ⟨#[]⟩, .string ⟨#[105, 110, 115, 116, 97, 108, 108]⟩, .string ⟨#[114, 101, 109, 111, 118, 101]⟩, .string ⟨#[117, 112, 103, 114, 97, 100, 101]⟩, .string ⟨#[112, 105, 110]⟩]) (.int .i64 3)).run Tryz.prog W = .ok (.string ⟨#[117, 112, 103, 114, 97, 100, 101]⟩) W ∧
    (Instr.index 104 (.agg #[.string ⟨#[]⟩, .string ⟨#[105, 110, 115, 116, 97, 108, 108]⟩, .string ⟨#[114, 101, 109, 111, 118, 101]⟩, .string ⟨#[117, 112, 103, 114, 97, 100, 101]⟩, .string ⟨#[112, 105, 110]⟩]) (.int .i64 4)).run Tryz.prog W = .ok (.string ⟨#[112, 105, 110]⟩) W :=
  ⟨by kernel_rfl, by kernel_rfl, by kernel_rfl, by kernel_rfl, by kernel_rfl⟩
set_option maxRecDepth 100000 in
set_option maxHeartbeats 1600000 in
theorem kindOf_any (s : List UInt8) (w : World) (hw : Wrd w) :
    Calls Tryz.prog 86 #[.string ⟨s.toArray⟩] w fun e w' => e = .returned (.tuple #[.int .i64 (kindQ s), .bool (decide (kindQ s ≠ 0))]) ∧ w = w' := by
  obtain ⟨R, hR⟩ : ∃ R, kindQ s = R := ⟨_, rfl⟩
  rw [hR]
  have HR := Lib.hid hR
  obtain ⟨g0, g1, g2, g3, g4⟩ := hw
  clear hR
  go_enter Tryz.func86, Tryz.ntmps86
  go_wp2_with fail
  clear g0 g1 g2 g3 g4
  go_loop [7] (fun i => ∃ k : Nat, k ≤ 5 ∧ i = .int .i64 k ∧ Hid (∀ j : Nat, 1 ≤ j → j < k → s ≠ wordQ (j : Int))) (fun i => 5 - (intOf i).toNat)
  case atStart => exact ⟨0, by decide, rfl, fun j h1 h2 => absurd h2 (Nat.not_lt_zero _)⟩
  case round =>
    obtain ⟨k, hk, rfl, HI⟩ := hrel
    by_cases hlt : k < 5
    · have h5 : k = 0 ∨ k = 1 ∨ k = 2 ∨ k = 3 ∨ k = 4 := by omega
      clear hlt hk
      rcases h5 with rfl | rfl | rfl | rfl | rfl
      · have HK := Lib.hid (isKind_any 0 w)
        have x0 := fun W => (word_ix W).1
        have HI2 : Hid (∀ j : Nat, 1 ≤ j → j < 1 → s ≠ wordQ (j : Int)) := fun j h1 h2 => absurd h2 (by omega)
        go_wp2_with fail
        refine HK.out.mono ?_
        rintro _ z ⟨rfl, rfl⟩
        go_wp2_with fail
        go_round
        case rel => exact ⟨1, by decide, by go_num, HI2⟩
        case measure => simp [intOf]
      · have HK := Lib.hid (isKind_any 1 w)
        have x0 := fun W => (word_ix W).2.1
        cases e : ([105, 110, 115, 116, 97, 108, 108] == s)
        · have HI2 : Hid (∀ j : Nat, 1 ≤ j → j < 2 → s ≠ wordQ (j : Int)) := fun j h1 h2 => by
            by_cases hj : j < 1
            · exact HI.out j h1 hj
            · obtain rfl : j = 1 := by omega
              intro h; rw [h] at e; exact absurd e (by decide)
          go_wp2_with fail
          refine HK.out.mono ?_
          rintro _ z ⟨rfl, rfl⟩
          go_wp2_with fail
          go_round
          case rel => exact ⟨2, by decide, by go_num, HI2⟩
          case measure => simp [intOf]
        · have HRR : Hid (R = 1) := by show _ = _; rw [← HR.out]; exact kind_yes (k := 1) (by decide) (by decide) (show [105, 110, 115, 116, 97, 108, 108] = s by simpa using e)
          go_wp2_with fail
          refine HK.out.mono ?_
          rintro _ z ⟨rfl, rfl⟩
          go_wp2_with fail
          go_ret2
          exact ⟨by rw [HRR.out]; rfl, rfl⟩
      · have HK := Lib.hid (isKind_any 2 w)
        have x0 := fun W => (word_ix W).2.2.1
        cases e : ([114, 101, 109, 111, 118, 101] == s)
        · have HI2 : Hid (∀ j : Nat, 1 ≤ j → j < 3 → s ≠ wordQ (j : Int)) := fun j h1 h2 => by
            by_cases hj : j < 2
            · exact HI.out j h1 hj
            · obtain rfl : j = 2 := by omega
              intro h; rw [h] at e; exact absurd e (by decide)
          go_wp2_with fail
          refine HK.out.mono ?_
          rintro _ z ⟨rfl, rfl⟩
          go_wp2_with fail
          go_round
          case rel => exact ⟨3, by decide, by go_num, HI2⟩
          case measure => simp [intOf]
        · have HRR : Hid (R = 2) := by show _ = _; rw [← HR.out]; exact kind_yes (k := 2) (by decide) (by decide) (show [114, 101, 109, 111, 118, 101] = s by simpa using e)
          go_wp2_with fail
          refine HK.out.mono ?_
          rintro _ z ⟨rfl, rfl⟩
          go_wp2_with fail
          go_ret2
          exact ⟨by rw [HRR.out]; rfl, rfl⟩
      · have HK := Lib.hid (isKind_any 3 w)
        have x0 := fun W => (word_ix W).2.2.2.1
        cases e : ([117, 112, 103, 114, 97, 100, 101] == s)
        · have HI2 : Hid (∀ j : Nat, 1 ≤ j → j < 4 → s ≠ wordQ (j : Int)) := fun j h1 h2 => by
            by_cases hj : j < 3
            · exact HI.out j h1 hj
            · obtain rfl : j = 3 := by omega
              intro h; rw [h] at e; exact absurd e (by decide)
          go_wp2_with fail
          refine HK.out.mono ?_
          rintro _ z ⟨rfl, rfl⟩
          go_wp2_with fail
          go_round
          case rel => exact ⟨4, by decide, by go_num, HI2⟩
          case measure => simp [intOf]
        · have HRR : Hid (R = 3) := by show _ = _; rw [← HR.out]; exact kind_yes (k := 3) (by decide) (by decide) (show [117, 112, 103, 114, 97, 100, 101] = s by simpa using e)
          go_wp2_with fail
          refine HK.out.mono ?_
          rintro _ z ⟨rfl, rfl⟩
          go_wp2_with fail
          go_ret2
          exact ⟨by rw [HRR.out]; rfl, rfl⟩
      · have HK := Lib.hid (isKind_any 4 w)
        have x0 := fun W => (word_ix W).2.2.2.2
        cases e : ([112, 105, 110] == s)
        · have HI2 : Hid (∀ j : Nat, 1 ≤ j → j < 5 → s ≠ wordQ (j : Int)) := fun j h1 h2 => by
            by_cases hj : j < 4
            · exact HI.out j h1 hj
            · obtain rfl : j = 4 := by omega
              intro h; rw [h] at e; exact absurd e (by decide)
          go_wp2_with fail
          refine HK.out.mono ?_
          rintro _ z ⟨rfl, rfl⟩
          go_wp2_with fail
          go_round
          case rel => exact ⟨5, by decide, by go_num, HI2⟩
          case measure => simp [intOf]
        · have HRR : Hid (R = 4) := by show _ = _; rw [← HR.out]; exact kind_yes (k := 4) (by decide) (by decide) (show [112, 105, 110] = s by simpa using e)
          go_wp2_with fail
          refine HK.out.mono ?_
          rintro _ z ⟨rfl, rfl⟩
          go_wp2_with fail
          go_ret2
          exact ⟨by rw [HRR.out]; rfl, rfl⟩
    · obtain rfl : k = 5 := by omega
      have HRR : Hid (R = 0) := by show _ = _; rw [← HR.out]; exact kind_no HI.out
      go_wp2_with fail
      go_ret2
      exact ⟨by rw [HRR.out]; rfl, rfl⟩

/-! One line. -/
def Ak.AskRet (w : World) (i : Nat) (R : Int × Rq) (e : Ending) (w' : World) : Prop := Below w.heap.size w w' ∧ if R.1 = 0 then ∃ C m d, e = .returned (.agg #[.int .i64 R.2.kind, .string ⟨R.2.atm.name.toArray⟩, .slice C m d]) ∧ R.2.atm.rng.length = m ∧ SRow w' C R.2.atm.rng else e = panAt i R.1
theorem Ak.askRet_bad {w u : World} {i : Nat} {k : Int} {a : Rq} (hk : k ≠ 0) (hb : Below w.heap.size w u) : AskRet w i (k, a) (panAt i k) u := ⟨hb, by show if k = 0 then _ else _; rw [if_neg hk]⟩
/-- The result's cells, as they are at first. -/
def Ak.Q0 (b : Nat) (u : World) : Prop := u.heap[b]? = some (.cells #[.int .i64 0, .string ⟨#[]⟩, .slice none 0 0] 34 (0, 0))
theorem Ak.q0_of {w W1 u : World} (h : w.alloc (.cells #[.int .i64 0, .string ⟨#[]⟩, .slice none 0 0] 34) = W1) (hb : Below W1.heap.size W1 u) : Q0 w.heap.size u := (hb.block _ (by rw [← h]; simp)).trans (by rw [← h]; exact heap_alloc_new w _)
theorem Ak.q0_cells {b : Nat} {u : World} (h : Q0 b u) : u.cell? ⟨b, 0, none⟩ = some (.int .i64 0) ∧ u.cell? ⟨b, 1, none⟩ = some (.string ⟨#[]⟩) ∧ u.cell? ⟨b, 2, none⟩ = some (.slice none 0 0) ∧ u.frozen? ⟨b, 0, none⟩ = false ∧ u.frozen? ⟨b, 1, none⟩ = false ∧ u.frozen? ⟨b, 2, none⟩ = false := by
  unfold Q0 at h
  refine ⟨?_, ?_, ?_, ?_, ?_, ?_⟩ <;> simp [World.cell?, World.frozen?, h]
theorem Ak.q0_nob {b : Nat} {u : World} (h : Q0 b u) : ∀ j x, u.cell? ⟨b, j, none⟩ = some x → NoB x := fun j x hx y e => by
  unfold Q0 at h
  simp only [World.cell?, h] at hx
  subst e
  match j, hx with
  | 0, hx | 1, hx | 2, hx => simp at hx
  | j + 3, hx => simp at hx
/-- The result stored. -/
abbrev Ak.stQ (u : World) (b : Nat) (k : Int) (nm : List UInt8) (C : Option Addr) (m d : Nat) : World := ((u.setCell ⟨b, 0, none⟩ (.int .i64 k)).setCell ⟨b, 1, none⟩ (.string ⟨nm.toArray⟩)).setCell ⟨b, 2, none⟩ (.slice C m d)
theorem Ak.stQ_get {u : World} {b : Nat} {k : Int} {nm : List UInt8} {C : Option Addr} {m d : Nat} (h : Q0 b u) : (stQ u b k nm C m d).cell? ⟨b, 0, none⟩ = some (.int .i64 k) ∧ (stQ u b k nm C m d).cell? ⟨b, 1, none⟩ = some (.string ⟨nm.toArray⟩) ∧ (stQ u b k nm C m d).cell? ⟨b, 2, none⟩ = some (.slice C m d) := by
  obtain ⟨h0, h1, h2, _⟩ := q0_cells h
  refine ⟨?_, ?_, ?_⟩ <;> simp [stQ, go_sem, h0, h1, h2]
theorem Ak.stQ_row {u : World} {b : Nat} {k : Int} {nm : List UInt8} {C : Option Addr} {m d : Nat} {l : List Sp} (h : Q0 b u) (hr : SRow u C l) : SRow (stQ u b k nm C m d) C l := by
  have hne : 0 < l.length → ∀ a, C = some a → a.block ≠ b := fun h0 a ha e => srow_nob hr (q0_nob h) h0 a ha (by rw [e])
  exact srow_far (srow_far (srow_far hr hne) hne) hne
theorem Ak.askRet_ok {w u : World} {i : Nat} {k : Int} {nm : List UInt8} {C : Option Addr} {m d : Nat} {l : List Sp} (hb : Below w.heap.size w u) (h : Q0 w.heap.size u) (hm : l.length = m) (hr : SRow u C l) : AskRet w i (0, ⟨k, nm, l⟩) (.returned (.agg #[.int .i64 k, .string ⟨nm.toArray⟩, .slice C m d])) (stQ u w.heap.size k nm C m d) := by
  refine ⟨((hb.setCell (Nat.le_refl _) _).setCell (Nat.le_refl _) _).setCell (Nat.le_refl _) _, ?_⟩
  rw [if_pos rfl]
  exact ⟨C, m, d, rfl, hm, stQ_row h hr⟩
theorem Ak.res_ask {u : World} {b : Nat} {k : Int} {nm : List UInt8} {C : Option Addr} {m d : Nat} {tmps : Array Value} (h : Q0 b u) (ht : tmps.getD 4 undef = .pointer (some ⟨b, 0, none⟩)) :
    (results Tryz.f63 tmps).run Tryz.prog (stQ u b k nm C m d) = .ok (.agg #[.int .i64 k, .string ⟨nm.toArray⟩, .slice C m d]) (stQ u b k nm C m d) := by
  obtain ⟨g0, g1, g2⟩ := stQ_get (k := k) (nm := nm) (C := C) (m := m) (d := d) h
  have hr : Tryz.f63.results = #[.cell 4 34] := Tryz.results63
  simp only [results, hr]
  generalize stQ u b k nm C m d = V at *
  simp only [Array.getD_eq_getD_getElem?] at ht ⊢
  simp [go_sem, ht, g0, g1, g2]
theorem Ak.askP_of {s f r : List UInt8} {h : Bool} {K : Int} {X : Int × Rq} {Y : Int × Atm} (h1 : Vm.fst 32 s = f) (h2 : Vm.snd 32 s = r) (h3 : Vm.has 32 s = h) (h4 : kindQ f = K) (h5 : parseA r = Y) (hX : askP s = X) : (h = false → X = (2, ⟨0, zeroA⟩)) ∧ (K = 0 → X = (2, ⟨0, zeroA⟩)) ∧ (h = true → K ≠ 0 → (Y.1 ≠ 0 → X = (Y.1, ⟨0, zeroA⟩)) ∧ (Y.1 = 0 → (checkQ ⟨K, Y.2⟩ ≠ 0 → X = (checkQ ⟨K, Y.2⟩, ⟨0, zeroA⟩)) ∧ (checkQ ⟨K, Y.2⟩ = 0 → X = (0, ⟨K, Y.2⟩)))) := by
  unfold askP at hX
  rw [h1, h2, h3, h4, h5] at hX
  refine ⟨fun e => ?_, fun e => ?_, fun e1 e2 => ⟨fun e3 => ?_, fun e3 => ⟨fun e4 => ?_, fun e4 => ?_⟩⟩⟩
  · rw [if_neg (fun q => by rw [e] at q; exact absurd q.1 (by decide))] at hX; exact hX.symm
  · rw [if_neg (fun q => q.2 e)] at hX; exact hX.symm
  · rw [if_pos ⟨e1, e2⟩, if_neg e3] at hX; exact hX.symm
  · rw [if_pos ⟨e1, e2⟩, if_pos e3, if_neg e4] at hX; exact hX.symm
  · rw [if_pos ⟨e1, e2⟩, if_pos e3, if_pos e4] at hX; exact hX.symm
set_option maxRecDepth 100000 in
set_option maxHeartbeats 3200000 in
theorem askOf_any (s : List UInt8) (i : Nat) (w : World) (hw : QOk w) (hs : s.length ≤ 4000) :
    Calls Tryz.prog 63 #[.string ⟨s.toArray⟩, .int .i64 i] w (AskRet w i (askP s)) := by
  obtain ⟨X, hX⟩ : ∃ X, askP s = X := ⟨_, rfl⟩
  rw [hX]
  obtain ⟨W1, hW1⟩ : ∃ W, w.alloc (.cells #[.int .i64 0, .string ⟨#[]⟩, .slice none 0 0] 34) = W := ⟨_, rfl⟩
  have HBW : Hid (Below w.heap.size w W1) := alloc_low hW1
  have HQ0 : Hid (∀ u, Below W1.heap.size W1 u → Q0 w.heap.size u) := fun u hb => q0_of hW1 hb
  have HOK : Hid (∀ u, Below W1.heap.size W1 u → QOk u) := fun u hb => qok_below hw (HBW.out.trans (hb.mono HBW.out.size))
  have hsl : (Vm.snd 32 s).length ≤ 4000 := by unfold Vm.snd; rw [List.length_drop]; have := (List.dropWhile_sublist (· != (32 : UInt8)) (l := s)).length_le; omega
  have HC := Lib.hid (cut_all 32 s W1 (HOK.out _ (Below.refl _ _)).1 (by omega))
  obtain ⟨f, hf⟩ : ∃ f, Vm.fst 32 s = f := ⟨_, rfl⟩
  obtain ⟨r, hr⟩ : ∃ r, Vm.snd 32 s = r := ⟨_, rfl⟩
  obtain ⟨h, hh⟩ : ∃ h, Vm.has 32 s = h := ⟨_, rfl⟩
  obtain ⟨K, hK⟩ : ∃ K, kindQ f = K := ⟨_, rfl⟩
  obtain ⟨Y, hY⟩ : ∃ Y, parseA r = Y := ⟨_, rfl⟩
  have HYE : Hid (parseA (Vm.snd 32 s) = Y) := by show _ = _; rw [hr]; exact hY
  obtain ⟨x1, x2, x3⟩ := askP_of hf hr hh hK hY hX
  have X1 := Lib.hid x1
  have X2 := Lib.hid x2
  have X3 := Lib.hid x3
  have HKD : Hid (∀ u, Below W1.heap.size W1 u → Calls Tryz.prog 86 #[.string ⟨f.toArray⟩] u fun e w' => e = .returned (.tuple #[.int .i64 K, .bool (decide (K ≠ 0))]) ∧ u = w') := fun u hb => by
    rw [← hK]; exact kindOf_any f u (HOK.out u hb).2
  have HPA : Hid (∀ u, Below W1.heap.size W1 u → Calls Tryz.prog 87 #[.string ⟨r.toArray⟩] u (ParseRet u Y)) := fun u hb => by
    rw [← hY, ← hr]; exact atomParse_any _ u (HOK.out u hb).1 hsl
  rw [hf, hr, hh] at HC
  clear x1 x2 x3 hX hK hY hf hh hr hsl hs hw
  cases h
  · have HX : Hid (X = (2, ⟨0, zeroA⟩)) := X1.out rfl
    clear X1 X2 X3
    go_enter Tryz.func63, Tryz.ntmps63
    go_wp2_with fail
    clear hW1
    refine HC.out.mono ?_
    rintro _ z1 ⟨rfl, hb⟩
    have HB := Lib.hid hb
    clear hb HC
    go_wp2_with fail
    refine (HKD.out _ HB.out).mono ?_
    rintro _ z ⟨rfl, rfl⟩
    go_wp2_with fail
    refine (requireAt_no _).mono ?_
    rintro _ z ⟨rfl, rfl⟩
    go_wp2_with fail
    refine ⟨rfl, ?_⟩
    rw [HX.out]
    exact askRet_bad (by decide) (HBW.out.trans (HB.out.mono HBW.out.size))
  by_cases hk0 : K = 0
  · have HX : Hid (X = (2, ⟨0, zeroA⟩)) := X2.out hk0
    have d0 : decide (K ≠ 0) = false := decide_eq_false (fun q => q hk0)
    rw [d0] at HKD
    clear X1 X2 X3 d0 hk0
    go_enter Tryz.func63, Tryz.ntmps63
    go_wp2_with fail
    clear hW1
    refine HC.out.mono ?_
    rintro _ z1 ⟨rfl, hb⟩
    have HB := Lib.hid hb
    clear hb HC
    go_wp2_with fail
    refine (HKD.out _ HB.out).mono ?_
    rintro _ z ⟨rfl, rfl⟩
    go_wp2_with fail
    refine (requireAt_no _).mono ?_
    rintro _ z ⟨rfl, rfl⟩
    go_wp2_with fail
    refine ⟨rfl, ?_⟩
    rw [HX.out]
    exact askRet_bad (by decide) (HBW.out.trans (HB.out.mono HBW.out.size))
  obtain ⟨k, nm, l⟩ := Y
  have d0 : decide (K ≠ 0) = true := decide_eq_true hk0
  rw [d0] at HKD
  obtain ⟨y1, y2⟩ := X3.out rfl hk0
  have Y1 := Lib.hid y1
  have Y2 := Lib.hid y2
  dsimp only at Y1 Y2
  clear X1 X2 X3 d0 hk0 y1 y2
  go_enter Tryz.func63, Tryz.ntmps63
  go_wp2_with fail
  clear hW1
  refine HC.out.mono ?_
  rintro _ z1 ⟨rfl, hb⟩
  have HB := Lib.hid hb
  clear hb HC
  go_wp2_with fail
  refine (HKD.out _ HB.out).mono ?_
  rintro _ z ⟨rfl, rfl⟩
  go_wp2_with fail
  refine (requireAt_yes _).mono ?_
  rintro _ z ⟨rfl, rfl⟩
  go_wp2_with fail
  refine (HPA.out _ HB.out).mono ?_
  rintro _ u ⟨C, m, d, rfl, hm, hr, hb⟩
  dsimp only at hm hr
  have HU := Lib.hid (HB.out.trans (hb.mono HB.out.size))
  have HM := Lib.hid hm
  have HR := Lib.hid hr
  clear hb hm hr HPA HKD HB
  dsimp only
  by_cases h0 : k = 0
  case neg =>
    have HX := Lib.hid (Y1.out h0)
    have HK0 := Lib.hid h0
    have e0 : (k == 0) = false := beq_eq_false_iff_ne.2 h0
    clear Y1 Y2 h0
    go_wp2_with fail
    refine (requireAt_no _).mono ?_
    rintro _ z ⟨rfl, rfl⟩
    go_wp2_with fail
    refine ⟨rfl, ?_⟩
    rw [HX.out]
    exact askRet_bad HK0.out ((HBW.out.trans (HU.out.mono HBW.out.size)).alloc (Nat.le_trans HBW.out.size HU.out.size) _)
  subst h0
  have Z := Lib.hid (Y2.out rfl)
  clear Y1 Y2
  obtain ⟨G, hG⟩ : ∃ G, u.alloc (.cells #[.string ⟨nm.toArray⟩, .slice C m d] 32) = G := ⟨_, rfl⟩
  obtain ⟨G2, hG2⟩ : ∃ W, G.alloc (.cells #[.int .i64 K, .string ⟨nm.toArray⟩, .slice C m d] 34) = W := ⟨_, rfl⟩
  have HUG : Hid (Below u.heap.size u G) := alloc_low hG
  have HUG2 : Hid (Below u.heap.size u G2) := HUG.out.trans ((alloc_low hG2).mono HUG.out.size)
  have HWG2 : Hid (Below W1.heap.size W1 G2) := HU.out.trans (HUG2.out.mono HU.out.size)
  have k0 := (cell_two hG (Below.refl _ _)).1
  have k1 := (cell_two hG (Below.refl _ _)).2.1
  have HQB : Hid (∀ v, Below G2.heap.size G2 v → QBk G.heap.size K nm C m d v) := fun v hb => qbk_of hG2 hb
  have hca := parse_check HYE.out
  have hcp := check_parts hca
  have hn1 := name_len hcp.1
  have hn2 := good_n hcp.2.1
  dsimp only at hn1 hn2
  have hRQ := requireAsk_any K nm C m d l i G2 (HOK.out _ HWG2.out).1 (by show nm.length ≤ _; unfold maxLen; omega) HM.out (srow_below HR.out HUG2.out) (by rw [← HM.out]; exact Nat.le_trans hn2 (by decide))
  have HRQ := Lib.hid hRQ
  have HWU := Lib.hid (HBW.out.trans (HU.out.mono HBW.out.size))
  clear hca hcp hn1 hn2 hRQ HYE
  go_wp2_with fail
  refine (requireAt_yes _).mono ?_
  rintro _ z ⟨rfl, rfl⟩
  obtain ⟨q0, q1, q2⟩ := HQB.out _ (Below.refl _ _)
  go_wp2_with fail
  clear hG hG2 k0 k1
  refine HRQ.out.mono ?_
  rintro _ v ⟨rfl, hb⟩
  have HGV := Lib.hid hb
  have HV : Hid (Below W1.heap.size W1 v) := HWG2.out.trans (hb.mono HWG2.out.size)
  have HWV := Lib.hid (HBW.out.trans (HV.out.mono HBW.out.size))
  clear hb HRQ q0 q1 q2
  obtain ⟨cq, hcq⟩ : ∃ x, checkQ ⟨K, nm, l⟩ = x := ⟨_, rfl⟩
  obtain ⟨z1', z2'⟩ := Z.out
  rw [hcq] at z1' z2' ⊢
  by_cases hq : cq = 0
  case neg =>
    rw [okAt_ne hq]
    have HX := Lib.hid (z1' hq)
    have HQN := Lib.hid hq
    clear hcq z1' z2' hq Z
    go_wp2_with fail
    refine ⟨rfl, ?_⟩
    rw [HX.out]
    exact askRet_bad HQN.out HWV.out
  subst hq
  rw [okAt_zero]
  have HX := Lib.hid (z2' rfl)
  clear hcq z1' z2' Z
  obtain ⟨q0, q1, q2⟩ := HQB.out _ HGV.out
  obtain ⟨p0, p1, p2, f0, f1, f2⟩ := q0_cells (HQ0.out _ HV.out)
  have HRV : Hid (SRow v C l) := srow_below HR.out (HUG2.out.trans (HGV.out.mono HUG2.out.size))
  have t : AskRet w i (0, ⟨K, nm, l⟩) (.returned (.agg #[.int .i64 K, .string ⟨nm.toArray⟩, .slice C m d])) (stQ v w.heap.size K nm C m d) := askRet_ok HWV.out (HQ0.out _ HV.out) HM.out HRV.out
  have HT := Lib.hid t
  clear t
  go_wp2_with fail
  refine bodyPost_ret (res_ask (HQ0.out _ HV.out) rfl) rfl ?_
  rw [HX.out]
  exact HT.out
/-! The lines of a text. -/
theorem Ak.row_front {w : World} {A : Option Addr} {l : List (List UInt8)} (h : Rg.Row encT 1 w A l) : Rg.Row encT 1 w A l.dropLast := fun h0 => by
  rw [List.length_dropLast] at h0
  obtain ⟨a, e, hl, hc⟩ := h (by omega)
  refine ⟨a, e, hl, fun i hi => ?_⟩
  rw [List.getElem_dropLast]
  exact hc i (by rw [List.length_dropLast] at hi; omega)
theorem Ak.split_n (s sep : List UInt8) (w : World) (hm : MaxOk w) (hl : s.length ≤ 900000) (h1 : 1 ≤ sep.length) :
    Calls Tryz.prog 84 #[.string ⟨s.toArray⟩, .string ⟨sep.toArray⟩] w fun e w' => ∃ A n, e = .returned (.slice A n n) ∧ (Lib.split s sep).length = n ∧ n ≤ s.length + 1 ∧ Rg.Row encT 1 w' A (Lib.split s sep) ∧ Below w.heap.size w w' := by
  obtain ⟨m, hm⟩ := hm
  refine (Tryz.strings_Split ⟨s.toArray⟩ ⟨sep.toArray⟩ m w (by show s.length < _; omega) hm h1).mono ?_
  rintro e w' ⟨rfl, rfl⟩
  have hd : (Lib.splitB ⟨sep.toArray⟩ 0 (Lib.countB ⟨s.toArray⟩ ⟨sep.toArray⟩) ⟨s.toArray⟩).map (·.data.toList) = Lib.split s sep := Lib.splitB_data _ _ _ _
  have hn := Lib.splitB_all ⟨sep.toArray⟩ h1 0 (Lib.countB ⟨s.toArray⟩ ⟨sep.toArray⟩) ⟨s.toArray⟩ rfl
  have hc := Lib.countB_le ⟨sep.toArray⟩ h1 s.length ⟨s.toArray⟩ (Nat.le_refl _)
  refine ⟨_, _, rfl, by rw [← hd, List.length_map, hn], Nat.succ_le_succ hc, row_newT w _ _ _ ?_, (Below.refl _ _).alloc (Nat.le_refl _) _⟩
  rw [flatT, ← hd, List.map_map]
  rfl
theorem Ak.line_short {s p : List UInt8} (h : p ∈ linesL s) : p.length ≤ s.length := piece_le [10] _ _ p (List.dropLast_subset _ h)
set_option maxRecDepth 100000 in
set_option maxHeartbeats 800000 in
theorem Ak.lines_any (s : List UInt8) (w : World) (hw : MaxOk w) (hs : s.length ≤ 100000) :
    Calls Tryz.prog 62 #[.string ⟨s.toArray⟩] w fun e w' => ∃ A n c, e = .returned (.slice A n c) ∧ (linesL s).length = n ∧ n ≤ s.length ∧ Rg.Row encT 1 w' A (linesL s) ∧ Below w.heap.size w w' := by
  have hc := Ak.split_n s [10] w hw (by omega) (by decide)
  have hns := split_some s
  have HL : Hid ((linesL s).length = (Lib.split s [10]).length - 1) := by show _ = _; unfold linesL; rw [List.length_dropLast]
  have HF : Hid (∀ (u : World) (A : Option Addr), Rg.Row encT 1 u A (Lib.split s [10]) → Rg.Row encT 1 u A (linesL s)) := fun u A h => Ak.row_front h
  have HC := Lib.hid hc
  have HNS : Hid (1 ≤ (Lib.split s [10]).length) := List.length_pos_iff.2 hns
  clear hc hns
  go_enter Tryz.func62, Tryz.ntmps62
  go_wp2_with fail
  refine HC.out.mono ?_
  rintro _ u hh
  obtain ⟨A, n, rfl, hn, hnl, hrow, hb⟩ := hh
  have h1 : 1 ≤ n := by rw [← hn]; exact HNS.out
  have HN := Lib.hid hn
  have HROW := Lib.hid (HF.out _ _ hrow)
  have HB := Lib.hid hb
  clear hn hrow hb
  have i0 : (0 : Int) ≤ (n : Int) - 1 := by omega
  have i1 : (n : Int) - 1 ≤ (n : Int) := by omega
  have i2 : ((n : Int) - 1).toNat = n - 1 := by omega
  go_wp2_with fail
  go_ret
  exact ⟨A, _, _, rfl, by rw [HL.out, HN.out], by omega, HROW.out, HB.out⟩
/-! All lines. -/
theorem Ak.suffix_end (s : List UInt8) (h : s ≠ []) : Lib.hasSuffix s [10] = endB s := by
  unfold Lib.hasSuffix
  rcases List.eq_nil_or_concat s with rfl | ⟨a, b, rfl⟩
  · exact absurd rfl h
  · rw [List.concat_eq_append]
    have h1 : (a ++ [b]).isEmpty = false := by simp
    have h2 : endB (a ++ [b]) = (b == 10) := by unfold endB; rw [h1]; simp
    rw [h2]
    cases hb : b == 10
    · cases h : List.isSuffixOf [10] (a ++ [b])
      · rfl
      · obtain ⟨x, hx⟩ := List.isSuffixOf_iff_suffix.1 h
        have := (List.append_inj' hx rfl).2
        have : b = 10 := by simpa using this.symm
        rw [this] at hb; cases hb
    · have : b = 10 := by simpa using hb
      subst this
      exact List.isSuffixOf_iff_suffix.2 ⟨a, rfl⟩
/-- How read leaves. -/
def Ak.ReadE (w : World) (s : List UInt8) (e : Ending) (w' : World) : Prop := Below w.heap.size w w' ∧ ((∃ C n c l, e = .returned (.slice C n c) ∧ l.length = n ∧ QRow w' C l ∧ readQ s = (0, 0, l)) ∨ (∃ k, e = pan k ∧ readQ s = (0, k, []) ∧ k ≠ 0) ∨ (∃ (i : Nat) (k : Int), e = panAt i k ∧ readQ s = (i, k, []) ∧ k ≠ 0))
/-- How far the lines are read. -/
def Ak.RdSt (hd : List (List UInt8)) (j : Nat) (l : List Rq) : Prop := (hd.take j).map (fun x => (askP x).2) = l ∧ ∀ i, i < j → errP hd i = 0
theorem Ak.rd_start (hd : List (List UInt8)) : RdSt hd 0 [] := ⟨rfl, fun _i hi => absurd hi (Nat.not_lt_zero _)⟩
theorem Ak.rd_step {hd : List (List UInt8)} {j : Nat} {l : List Rq} (h : RdSt hd j l) (hj : j < hd.length) {a : Rq} (he : askP hd[j] = (0, a)) : RdSt hd (j + 1) (l ++ [a]) := by
  obtain ⟨h1, h2⟩ := h
  refine ⟨by rw [List.take_succ_eq_append_getElem hj, List.map_append, h1]; show _ ++ [(askP hd[j]).2] = _; rw [he], fun i hi => ?_⟩
  rcases Nat.lt_or_ge i j with h | h
  · exact h2 i h
  · obtain rfl : i = j := by omega
    unfold errP
    rw [List.getElem?_eq_getElem hj]
    show (askP hd[i]).1 = 0
    rw [he]
theorem Ak.rd_len {hd : List (List UInt8)} {j : Nat} {l : List Rq} (h : RdSt hd j l) : l.length ≤ j := by
  rw [← h.1, List.length_map, List.length_take]; omega
theorem Ak.rd_bad {s : List UInt8} {hd : List (List UInt8)} {j : Nat} {l : List Rq} {k : Int} {a : Rq} (h : RdSt hd j l) (hj : j < hd.length) (hL : linesL s = hd) (hs : s.length ≤ 65536) (he : endB s = true) (h32 : hd.length ≤ 32) (h0 : askP hd[j] = (k, a)) (hk : k ≠ 0) : readQ s = (j, k, []) := by
  have hb : errP hd j = k := by unfold errP; rw [List.getElem?_eq_getElem hj]; show (askP hd[j]).1 = k; rw [h0]
  have h1 := firstQ_bad (errP hd) hd.length 0 j hj (fun i hi => by rw [Nat.zero_add]; exact h.2 i hi) (by rw [Nat.zero_add, hb]; exact hk)
  rw [Nat.zero_add, hb] at h1
  unfold readQ
  rw [if_neg (by omega), if_pos he, hL, if_neg (by omega), h1, if_neg hk]
theorem Ak.rd_all {s : List UInt8} {hd : List (List UInt8)} {l : List Rq} (h : RdSt hd hd.length l) (hL : linesL s = hd) (hs : s.length ≤ 65536) (he : endB s = true) (h32 : hd.length ≤ 32) : readQ s = (0, 0, l) := by
  have h1 := firstQ_ok (errP hd) hd.length 0 (fun i hi => by rw [Nat.zero_add]; exact h.2 i hi)
  have h2 := h.1
  rw [List.take_length] at h2
  unfold readQ
  rw [if_neg (by omega), if_pos he, hL, if_neg (by omega), h1, if_pos rfl, h2]
set_option maxRecDepth 100000 in
set_option maxHeartbeats 3200000 in
theorem askread_any (s : List UInt8) (w : World) (hw : QOk w) (hs : s.length ≤ 65536) (hln : ∀ x ∈ linesL s, x.length ≤ 4000) :
    Calls Tryz.prog 37 #[.string ⟨s.toArray⟩] w (ReadE w s) := by
  have d0 : decide ((s.length : Int) ≤ 65536) = true := decide_eq_true (by omega)
  have HSF : Hid (s ≠ [] → ∀ W : World, Calls Tryz.prog 61 #[.string ⟨s.toArray⟩, .string ⟨#[10]⟩] W fun e w' => e = .returned (.bool (endB s)) ∧ W = w') := fun h W =>
    (Tryz.strings_HasSuffix ⟨s.toArray⟩ ⟨#[10]⟩ W (by show s.toArray.size ≤ _; rw [List.size_toArray]; omega)).mono fun e w' ⟨h1, h2⟩ => ⟨by rw [h1]; show Ending.returned (.bool (Lib.hasSuffix s [10])) = _; rw [Ak.suffix_end s h], h2.symm⟩
  by_cases hse : endB s = true
  case neg =>
    have hne : (s == []) = false := beq_eq_false_iff_ne.2 fun e => hse (by rw [e]; rfl)
    have HX : Hid (readQ s = (0, 2, [])) := by show _ = _; unfold readQ; rw [if_neg (by omega), if_neg hse]
    have HS2 := Lib.hid (HSF.out (fun e => hse (by rw [e]; rfl)))
    rw [show endB s = false by simpa using hse] at HS2
    clear hse HSF hw hln
    go_enter Tryz.func37, Tryz.ntmps37
    go_wp2_with fail
    refine (require_yes _).mono ?_
    rintro _ z ⟨rfl, rfl⟩
    go_wp2_with fail
    refine (HS2.out _).mono ?_
    rintro _ z ⟨rfl, rfl⟩
    go_wp2_with fail
    refine (require_no _).mono ?_
    rintro _ z ⟨rfl, rfl⟩
    go_wp2_with fail
    exact ⟨rfl, Below.refl _ _, Or.inr (Or.inl ⟨2, rfl, HX.out, by decide⟩)⟩
  have HLI := Lib.hid (Ak.lines_any s w hw.1 (by omega))
  have HLN := Lib.hid hln
  have HW := Lib.hid hw
  have HSE := Lib.hid hse
  have HSL := Lib.hid hs
  obtain ⟨hd, hhd⟩ : ∃ hd, linesL s = hd := ⟨_, rfl⟩
  have HHD := Lib.hid hhd
  rw [hhd] at HLI HLN
  have HS2 := Lib.hid fun (h : s ≠ []) => by have := HSF.out h; rw [hse] at this; exact this
  clear hhd hse hw hln hs HSF
  go_enter Tryz.func37, Tryz.ntmps37
  go_wp2_with fail
  refine (require_yes _).mono ?_
  rintro _ z ⟨rfl, rfl⟩
  cases hb : (s == [])
  case' false =>
    have HS3 := Lib.hid (HS2.out (by simpa using hb))
    clear HS2
    go_wp2_with fail
    refine (HS3.out _).mono ?_
    rintro _ z ⟨rfl, rfl⟩
    go_wp2_with fail
    refine (require_yes _).mono ?_
    rintro _ z ⟨rfl, rfl⟩
    clear HS3 hb d0
    go_wp2_with fail
  case' true =>
    clear HS2
    go_wp2_with fail
    refine (require_yes _).mono ?_
    rintro _ z ⟨rfl, rfl⟩
    clear hb d0
    go_wp2_with fail
  all_goals
    refine HLI.out.mono ?_
    rintro _ u hh
    obtain ⟨A, n, c, rfl, hn, hnl, hrow, hb⟩ := hh
    have HN := Lib.hid hn
    have HROW := Lib.hid hrow
    have HB := Lib.hid hb
    clear hn hnl hrow hb HLI
    by_cases h32 : n ≤ 32
    case neg =>
      have d1 : decide ((n : Int) ≤ 32) = false := decide_eq_false (by omega)
      have HX : Hid (readQ s = (0, 4, [])) := by
        show _ = _
        unfold readQ
        rw [if_neg (by have := HSL.out; omega), if_pos HSE.out, HHD.out, if_pos (by rw [HN.out]; omega)]
      clear h32
      go_wp2_with fail
      refine (require_no _).mono ?_
      rintro _ z ⟨rfl, rfl⟩
      go_wp2_with fail
      exact ⟨rfl, HB.out, Or.inr (Or.inl ⟨4, rfl, HX.out, by decide⟩)⟩
    have d1 : decide ((n : Int) ≤ 32) = true := decide_eq_true (by omega)
    go_wp2_with fail
    refine (require_yes _).mono ?_
    rintro _ z ⟨rfl, rfl⟩
    clear d1
    go_wp2_with fail
    go_loopw [4, 26] (fun v i wr => ∃ (k : Nat) (acc : List Rq) (ds : List QD), k ≤ n ∧ i = .int .i64 k ∧ Hid (RdSt hd k acc) ∧ Hid (QOwn wr u.heap.size 34 v ds acc) ∧ Hid (Below u.heap.size u wr)) (fun _ i _ => n - (intOf i).toNat)
    case atStart => exact ⟨0, [], [], Nat.zero_le _, rfl, rd_start hd, qown_nil _ _ _, Below.refl _ _⟩
    case round =>
      obtain ⟨k, acc, ds, hk, rfl, HST, HO, HBR⟩ := hrel
      by_cases hlt : k < n
      · have hkl : k < hd.length := by rw [HN.out]; exact hlt
        obtain ⟨ad, rfl, _, c0⟩ := txt_at (Rg.row_below HROW.out HBR.out) k hkl
        have hl := HLN.out _ (List.getElem_mem hkl)
        have HBAD : Hid (∀ (q : Int) (a : Rq), askP hd[k] = (q, a) → q ≠ 0 → readQ s = (k, q, [])) := fun q a h1 h2 => rd_bad HST.out hkl HHD.out HSL.out HSE.out (by rw [HN.out]; exact h32) h1 h2
        have HOKK : Hid (∀ a : Rq, askP hd[k] = (0, a) → RdSt hd (k + 1) (acc ++ [a])) := fun a h => rd_step HST.out hkl h
        have HSZ : Hid (ds.length + 1 ≤ 1000000) := by
          have h1 := HO.out.2.1.1
          have h2 := rd_len HST.out
          show _ ≤ _
          omega
        obtain ⟨x, hx⟩ : ∃ x, hd[k] = x := ⟨_, rfl⟩
        rw [hx] at c0 hl HBAD HOKK
        have HWR : Hid (Below w.heap.size w wr) := HB.out.trans (HBR.out.mono HB.out.size)
        have HAO := Lib.hid (askOf_any x k wr (qok_below HW.out HWR.out) hl)
        obtain ⟨X, hX⟩ : ∃ X, askP x = X := ⟨_, rfl⟩
        rw [hX] at HAO HBAD HOKK
        obtain ⟨q, a⟩ := X
        clear hx hl hX
        go_wp2_with fail
        refine HAO.out.mono ?_
        rintro e y hret
        by_cases hq : q = 0
        case neg =>
          obtain ⟨hb, he⟩ := hret
          rw [if_neg hq] at he
          subst he
          have HX := Lib.hid (HBAD.out q a rfl hq)
          have HY := Lib.hid (HWR.out.trans (hb.mono HWR.out.size))
          have HQ := Lib.hid hq
          clear hb hq HAO
          go_wp2_with fail
          exact ⟨rfl, HY.out, Or.inr (Or.inr ⟨k, q, rfl, HX.out, HQ.out⟩)⟩
        subst hq
        obtain ⟨hb, he⟩ := hret
        rw [if_pos rfl] at he
        obtain ⟨C, m, d, rfl, hm, hr⟩ := he
        have HY := Lib.hid hb
        have HM := Lib.hid hm
        have HR := Lib.hid hr
        have HST2 := Lib.hid (HOKK.out a rfl)
        clear hb hm hr HAO
        dsimp only
        go_wp2_with (at_builtin; refine Pg.wpList_app_pure sliceQ zeroQ_nob encQ_nob rfl (.tmp 31) (.tmp 35) rfl u.heap.size _ ds [(a.kind, a.atm.name, C, m, d)] rfl (qown_below HO.out (HY.out.alloc HY.out.size _)).1 (qown_below HO.out (HY.out.alloc HY.out.size _)).2.2 _ _ rfl (Rg.news_new y _ _ _ (by rfl)) (Nat.zero_lt_succ _) HSZ.out ?b2 ?_)
        case b2 => have := HBR.out.size; have := HY.out.size; simp; omega
        intro v5 W5 ho5 hp5 hg5 hz5
        have hal : Below wr.heap.size wr (y.alloc (.cells #[.int .i64 a.kind, .string ⟨a.atm.name.toArray⟩, .slice C m d] 34)) := HY.out.alloc HY.out.size _
        have HO5 := Lib.hid (qown_add (qown_below HO.out hal) (srow_below HR.out ((Below.refl _ _).alloc (Nat.le_refl _) _)) HM.out ho5 hp5 hg5)
        have HB5 : Hid (Below u.heap.size u W5) := (HBR.out.trans (hal.mono HBR.out.size)).trans (Rg.grown_below (qown_below HO.out hal).1 (Nat.le_trans HBR.out.size hal.size) hg5)
        clear ho5 hp5 hg5 hz5 hal HO HBR
        go_wp2_with fail
        go_roundw
        case rel => exact ⟨k + 1, _, _, by omega, by go_num, HST2, HO5, HB5⟩
        case measure => simp [intOf]; omega
      · obtain rfl : k = n := by omega
        have HX : Hid (readQ s = (0, 0, acc)) := rd_all (by rw [HN.out]; exact HST.out) HHD.out HSL.out HSE.out (by rw [HN.out]; exact h32)
        obtain ⟨C, d, rfl, hrw, _⟩ := qown_row HO.out
        have HRW := Lib.hid hrw
        have HWR : Hid (Below w.heap.size w wr) := HB.out.trans (HBR.out.mono HB.out.size)
        clear hrw HO
        go_wp2_with fail
        go_ret
        exact ⟨HWR.out, Or.inl ⟨C, _, d, acc, rfl, rfl, HRW.out, HX.out⟩⟩
/-- What Parse hands back. -/
def Ak.ParR (w : World) (s : List UInt8) (e : Ending) (w' : World) : Prop := Below w.heap.size w w' ∧ ∃ A n c, e = .returned (.tuple #[.slice A n c, .int .i64 (readQ s).1, .int .i64 (readQ s).2.1]) ∧ (readQ s).2.2.length = n ∧ QRow w' A (readQ s).2.2
theorem Ak.parR_of {w w' : World} {s : List UInt8} {i : Nat} {k : Int} {l : List Rq} {A : Option Addr} {n c : Nat} (h : readQ s = (i, k, l)) (hb : Below w.heap.size w w') (hn : l.length = n) (hr : QRow w' A l) : ParR w s (.returned (.tuple #[.slice A n c, .int .i64 i, .int .i64 k])) w' := by
  refine ⟨hb, A, n, c, ?_, ?_, ?_⟩ <;> rw [h]
  · exact hn
  · exact hr
set_option maxRecDepth 100000 in
set_option maxHeartbeats 3200000 in
theorem askParse_any (s : List UInt8) (w : World) (hw : QOk w) (hs : s.length ≤ 65536) (hln : ∀ x ∈ linesL s, x.length ≤ 4000) :
    Calls Tryz.prog 16 #[.string ⟨s.toArray⟩] w (ParR w s) := by
  have hmf : ∀ (fn : Fn) (first cap : Array Value) (w : World), (Instr.makeFunc fn first cap).run Tryz.prog w = .ok (.func fn first cap) w := fun _ _ _ _ => rfl
  obtain ⟨W1, hW1⟩ : ∃ W, w.alloc (.cells #[.int .i64 0] 3) = W := ⟨_, rfl⟩
  obtain ⟨W2, hW2⟩ : ∃ W, W1.alloc (.cells #[.int .i64 0] 27) = W := ⟨_, rfl⟩
  have HPC : Hid (∀ u, Below W2.heap.size W2 u → P2 w.heap.size u) := fun u hb => p2_of hW1 hW2 hb
  have hs1 : W1.heap.size = w.heap.size + 1 := by rw [← hW1]; simp
  have HBW : Hid (Below w.heap.size w W2) := (alloc_low hW1).trans ((alloc_low hW2).mono (alloc_low hW1).size)
  have HQ := Lib.hid (askread_any s W2 (qok_below hw HBW.out) hs hln)
  clear hw hs hln
  go_enter_defers Tryz.func16, Tryz.ntmps16
  go_wp2_with fail
  clear hW1 hW2
  refine HQ.out.mono ?_
  rintro e z1 ⟨hb, hcs⟩
  have HB := Lib.hid hb
  clear hb HQ
  rcases hcs with ⟨C, n, c, l, rfl, hn, hrow, hrd⟩ | ⟨k, rfl, hrd, hk⟩ | ⟨i, k, rfl, hrd, hk⟩
  · obtain ⟨c0, f0, c1, f1⟩ := p2_cells (HPC.out _ HB.out)
    obtain ⟨d0, g0, d1, g1⟩ := p2_after (HPC.out _ HB.out) (.int .i64 0)
    have HP2 := Lib.hid (p2_again (HPC.out _ HB.out))
    have HBV : Hid (Below w.heap.size w ((z1.setCell ⟨w.heap.size, 0, none⟩ (.int .i64 0)).setCell ⟨w.heap.size + 1, 0, none⟩ (.int .i64 0))) := ((HBW.out.trans (HB.out.mono HBW.out.size)).setCell (Nat.le_refl _) _).setCell (Nat.le_succ _) _
    have HRR := Lib.hid hrd
    have HN := Lib.hid hn
    have HROW := Lib.hid hrow
    clear hn hrow hrd
    have HR2 : Hid (QRow ((z1.setCell ⟨w.heap.size, 0, none⟩ (.int .i64 0)).setCell ⟨w.heap.size + 1, 0, none⟩ (.int .i64 0)) C l) := qrow_p2 HROW.out (HPC.out _ HB.out) _
    go_wp2_with fail
    generalize (z1.setCell ⟨w.heap.size, 0, none⟩ (.int .i64 0)).setCell ⟨w.heap.size + 1, 0, none⟩ (.int .i64 0) = V at *
    obtain ⟨k0, m0, k1, m1⟩ := p2_cells HP2.out
    obtain ⟨l0, o0, l1, o1⟩ := p2_after HP2.out (.int .i64 0)
    obtain ⟨q0, q1⟩ := p2_both HP2.out (.int .i64 0) (.int .i64 0)
    refine leaves_cons (f := 36) (args := #[.pointer (some ⟨w.heap.size, 0, none⟩), .pointer (some ⟨w.heap.size + 1, 0, none⟩)]) (by simp) (by simp [go_sem]) ?_
    refine (qParse_idle ⟨w.heap.size, 0, none⟩ ⟨w.heap.size + 1, 0, none⟩ 0 0 _ k0 m0 l1 o1).mono ?_
    rintro e u' w3 ⟨rfl, rfl, rfl⟩
    simp [Leaves, settle, results, Tryz.results16, go_sem, q0, q1]
    exact parR_of HRR.out ((HBV.out.setCell (Nat.le_refl _) _).setCell (Nat.le_succ _) _) HN.out (qrow_p2 HR2.out HP2.out _)
  · have HRR := Lib.hid hrd
    clear hrd hk
    obtain ⟨c0, f0, c1, f1⟩ := p2_cells (HPC.out _ HB.out)
    obtain ⟨d0, g0, d1, g1⟩ := p2_after (HPC.out _ HB.out) (.int .i64 0)
    obtain ⟨q0, q1⟩ := p2_both (HPC.out _ HB.out) (.int .i64 0) (.int .i64 k)
    go_wp2_with fail
    refine leaves_cons (f := 36) (args := #[.pointer (some ⟨w.heap.size, 0, none⟩), .pointer (some ⟨w.heap.size + 1, 0, none⟩)]) (by simp) (by simp [go_sem]) ?_
    refine (qParse_panic ⟨w.heap.size, 0, none⟩ ⟨w.heap.size + 1, 0, none⟩ 0 0 k _ c0 f0 d1 g1).mono ?_
    rintro e u' w3 ⟨rfl, rfl, rfl⟩
    simp [Leaves, settle, results, Tryz.results16, go_sem, q0, q1]
    exact parR_of HRR.out (((HBW.out.trans (HB.out.mono HBW.out.size)).setCell (Nat.le_refl _) _).setCell (Nat.le_succ _) _) rfl (qrow_nil _)
  · have HRR := Lib.hid hrd
    clear hrd hk
    go_wp2_with fail
    refine leaves_cons (f := 36) (args := #[.pointer (some ⟨w.heap.size, 0, none⟩), .pointer (some ⟨w.heap.size + 1, 0, none⟩)]) (by simp) (by simp [go_sem]) ?_
    refine (qParse_placed ⟨w.heap.size, 0, none⟩ ⟨w.heap.size + 1, 0, none⟩ 0 0 i k _ (fun u hb => (p2_cells (HPC.out _ (HB.out.trans (hb.mono HB.out.size)))).1) (fun u hb => (p2_cells (HPC.out _ (HB.out.trans (hb.mono HB.out.size)))).2.1) (fun u hb => (p2_after (HPC.out _ (HB.out.trans (hb.mono HB.out.size))) _).2.2.1) (fun u hb => (p2_after (HPC.out _ (HB.out.trans (hb.mono HB.out.size))) _).2.2.2)).mono ?_
    rintro e u' w3 ⟨rfl, rfl, u, hb, rfl⟩
    have HBU := Lib.hid (HB.out.trans (hb.mono HB.out.size))
    obtain ⟨q0, q1⟩ := p2_both (HPC.out _ HBU.out) (.int .i64 i) (.int .i64 k)
    simp [Leaves, settle, results, Tryz.results16, go_sem, q0, q1]
    exact parR_of HRR.out (((HBW.out.trans (HBU.out.mono HBW.out.size)).setCell (Nat.le_refl _) _).setCell (Nat.le_succ _) _) rfl (qrow_nil _)
end Go.Proofs.YtkdildgdodnbbaaGreatDoor
namespace Go.Proofs.YtkdildgdodnbbaaGreatDoor.Ak
open Go.RowKit Rs At Pg Sz
/-- A local ask, its kind told. -/
def QZ (b : Nat) (K : Int) (u : World) : Prop := u.heap[b]? = some (.cells #[.int .i64 K, .string ⟨#[]⟩, .slice none 0 0] 40 (0, 0))
theorem qz_of {w W1 u : World} (h : w.alloc (.cells #[.int .i64 0, .string ⟨#[]⟩, .slice none 0 0] 40) = W1) (hb : Below W1.heap.size W1 u) : QZ w.heap.size 0 u := (hb.block _ (by rw [← h]; simp)).trans (by rw [← h]; exact heap_alloc_new w _)
theorem qz_new (w : World) (K : Int) : QZ w.heap.size K (w.alloc (.cells #[.int .i64 K, .string ⟨#[]⟩, .slice none 0 0] 40)) := heap_alloc_new w _
theorem qz_lt {b : Nat} {K : Int} {u : World} (h : QZ b K u) : b < u.heap.size := (Array.getElem?_eq_some_iff.1 h).1
theorem qz_below {b : Nat} {K : Int} {u z : World} (h : QZ b K u) (hl : b < u.heap.size) (hb : Below u.heap.size u z) : QZ b K z := (hb.block _ hl).trans h
theorem qz_set {b : Nat} {K : Int} {u : World} (h : QZ b 0 u) : QZ b K (u.setCell ⟨b, 0, none⟩ (.int .i64 K)) := by
  unfold QZ at h ⊢
  simp [World.setCell, Array.getElem?_modify, h]
theorem qz_cells {b : Nat} {K : Int} {u : World} (h : QZ b K u) : u.cell? ⟨b, 0, none⟩ = some (.int .i64 K) ∧ u.cell? ⟨b, 1, none⟩ = some (.string ⟨#[]⟩) ∧ u.cell? ⟨b, 2, none⟩ = some (.slice none 0 0) ∧ u.frozen? ⟨b, 0, none⟩ = false ∧ u.frozen? ⟨b, 1, none⟩ = false ∧ u.frozen? ⟨b, 2, none⟩ = false := by
  unfold QZ at h
  refine ⟨?_, ?_, ?_, ?_, ?_, ?_⟩ <;> simp [World.cell?, World.frozen?, h]
theorem qz_nob {b : Nat} {K : Int} {u : World} (h : QZ b K u) : ∀ j x, u.cell? ⟨b, j, none⟩ = some x → NoB x := fun j x hx y e => by
  unfold QZ at h
  simp only [World.cell?, h] at hx
  subst e
  match j, hx with
  | 0, hx | 1, hx | 2, hx => simp at hx
  | j + 3, hx => simp at hx
theorem qz_store {b : Nat} {K : Int} {nm : List UInt8} {C : Option Addr} {m d : Nat} {u : World} (h : QZ b K u) : QBk b K nm C m d ((u.setCell ⟨b, 1, none⟩ (.string ⟨nm.toArray⟩)).setCell ⟨b, 2, none⟩ (.slice C m d)) := by
  obtain ⟨h0, h1, h2, _⟩ := qz_cells h
  refine ⟨?_, ?_, ?_⟩ <;> simp [go_sem, h0, h1, h2]
theorem qz_row {b : Nat} {K : Int} {nm : List UInt8} {C : Option Addr} {m d : Nat} {u : World} {l : List Sp} (h : QZ b K u) (hr : SRow u C l) : SRow ((u.setCell ⟨b, 1, none⟩ (.string ⟨nm.toArray⟩)).setCell ⟨b, 2, none⟩ (.slice C m d)) C l := by
  have hne : 0 < l.length → ∀ a, C = some a → a.block ≠ b := fun h0 a ha e => srow_nob hr (qz_nob h) h0 a ha (by rw [e])
  exact srow_far (srow_far hr hne) hne
/-- The words, or none of them. -/
theorem word_cases (f : List UInt8) : f = [105, 110, 115, 116, 97, 108, 108] ∨ f = [114, 101, 109, 111, 118, 101] ∨ f = [117, 112, 103, 114, 97, 100, 101] ∨ f = [112, 105, 110] ∨ (kindQ f = 0 ∧ f ≠ [105, 110, 115, 116, 97, 108, 108] ∧ f ≠ [114, 101, 109, 111, 118, 101] ∧ f ≠ [117, 112, 103, 114, 97, 100, 101] ∧ f ≠ [112, 105, 110]) := by
  by_cases h1 : f = [105, 110, 115, 116, 97, 108, 108]
  · exact Or.inl h1
  by_cases h2 : f = [114, 101, 109, 111, 118, 101]
  · exact Or.inr (Or.inl h2)
  by_cases h3 : f = [117, 112, 103, 114, 97, 100, 101]
  · exact Or.inr (Or.inr (Or.inl h3))
  by_cases h4 : f = [112, 105, 110]
  · exact Or.inr (Or.inr (Or.inr (Or.inl h4)))
  refine Or.inr (Or.inr (Or.inr (Or.inr ⟨?_, h1, h2, h3, h4⟩)))
  unfold kindQ
  rw [if_neg h1, if_neg h2, if_neg h3, if_neg h4]
end Go.Proofs.YtkdildgdodnbbaaGreatDoor.Ak
namespace Go.Proofs.YtkdildgdodnbbaaGreatDoor
open Go.RowKit Rs At Pg Ak Sz
attribute [local go_sem ↓] Go.wp_at_zero Go.wp_at_succ
set_option maxRecDepth 100000 in
set_option maxHeartbeats 6400000 in
theorem refParseAsks_any (s : List UInt8) (w : World) (hw : MaxOk w) (hs : s.length ≤ 65536) (hln : ∀ x ∈ linesL s, x.length ≤ 4000) :
    Calls Tryz.prog 18 #[.string ⟨s.toArray⟩] w (ParR w s) := by
  have d0 : decide ((65536 : Int) < (s.length : Int)) = false := decide_eq_false (by omega)
  have HLI := Lib.hid (refRows_any s w (by omega))
  by_cases hse : endB s = true
  case neg =>
    have HX : Hid (readQ s = (0, 2, [])) := by show _ = _; unfold readQ; rw [if_neg (by omega), if_neg hse]
    have HSE := Lib.hid hse
    clear hse hw hln
    go_enter Tryz.func18, Tryz.ntmps18
    go_wp2_with fail
    refine HLI.out.mono ?_
    rintro e u ⟨hb, _, he⟩
    rw [if_neg HSE.out] at he
    subst he
    have HB := Lib.hid hb
    clear hb
    go_wp2_with fail
    go_ret3
    exact parR_of HX.out HB.out rfl (qrow_nil _)
  have HLN := Lib.hid hln
  have HW := Lib.hid hw
  have HSE := Lib.hid hse
  have HSL := Lib.hid hs
  obtain ⟨hd, hhd⟩ : ∃ hd, linesL s = hd := ⟨_, rfl⟩
  have HHD := Lib.hid hhd
  have HLI2 : Hid (Calls Tryz.prog 39 #[.string ⟨s.toArray⟩] w fun e w' => Below w.heap.size w w' ∧ ∃ A n c, e = .returned (.tuple #[.slice A n c, .bool true]) ∧ hd.length = n ∧ Rg.Row encT 1 w' A hd) := HLI.out.mono fun e w' h => by
    obtain ⟨hb, _, he⟩ := h
    rw [if_pos hse, hhd] at he
    obtain ⟨A, n, c, h1, h2, _, h4⟩ := he
    exact ⟨hb, A, n, c, h1, h2, h4⟩
  rw [hhd] at HLN
  clear hhd hse hw hln hs HLI
  go_enter Tryz.func18, Tryz.ntmps18
  go_wp2_with fail
  refine HLI2.out.mono ?_
  rintro e u0 hh
  obtain ⟨hb, A, n, c, rfl, hn, hrow⟩ := hh
  have HN := Lib.hid hn
  have HROW := Lib.hid hrow
  have HB := Lib.hid hb
  clear hn hrow hb HLI2 d0
  by_cases h32 : 32 < n
  · have d1 : decide ((32 : Int) < (n : Int)) = true := decide_eq_true (by omega)
    have HX : Hid (readQ s = (0, 4, [])) := by
      show _ = _
      unfold readQ
      rw [if_neg (by have := HSL.out; omega), if_pos HSE.out, HHD.out, if_pos (by rw [HN.out]; omega)]
    clear h32
    go_wp2_with fail
    go_ret3
    exact parR_of HX.out HB.out rfl (qrow_nil _)
  have h32' : n ≤ 32 := by omega
  have d1 : decide ((32 : Int) < (n : Int)) = false := decide_eq_false (by omega)
  clear h32
  go_wp2_with fail
  clear d1
  go_loopw [7, 8] (fun v i wr => ∃ (k : Nat) (acc : List Rq) (ds : List QD), k ≤ n ∧ i = .int .i64 k ∧ Hid (RdSt hd k acc) ∧ Hid (QOwn wr u0.heap.size 40 v ds acc) ∧ Hid (Below u0.heap.size u0 wr)) (fun _ i _ => n - (intOf i).toNat)
  case atStart => exact ⟨0, [], [], Nat.zero_le _, rfl, rd_start hd, qown_nil _ _ _, Below.refl _ _⟩
  case round =>
    obtain ⟨k, acc, ds, hk, rfl, HST, HO, HBR⟩ := hrel
    by_cases hlt : k < n
    · have hkl : k < hd.length := by rw [HN.out]; exact hlt
      obtain ⟨ad, rfl, hadl, c0⟩ := txt_at (Rg.row_below HROW.out HBR.out) k hkl
      have hl := HLN.out _ (List.getElem_mem hkl)
      have HBAD : Hid (∀ (q : Int) (a : Rq), askP hd[k] = (q, a) → q ≠ 0 → readQ s = (k, q, [])) := fun q a h1 h2 => rd_bad HST.out hkl HHD.out HSL.out HSE.out (by rw [HN.out]; exact h32') h1 h2
      have HOKK : Hid (∀ a : Rq, askP hd[k] = (0, a) → RdSt hd (k + 1) (acc ++ [a])) := fun a h => rd_step HST.out hkl h
      have HSZ : Hid (ds.length + 1 ≤ 1000000) := by
        have h1 := HO.out.2.1.1
        have h2 := rd_len HST.out
        show _ ≤ _
        omega
      obtain ⟨x, hx⟩ : ∃ x, hd[k] = x := ⟨_, rfl⟩
      rw [hx] at c0 hl HBAD HOKK
      have HTX : Hid (∀ u, Below wr.heap.size wr u → u.cell? (ad.add k) = some (.string ⟨x.toArray⟩)) := fun u hb => (hb.cell (by rw [Rs.add_block]; exact hadl)).trans c0
      have HWR : Hid (Below w.heap.size w wr) := HB.out.trans (HBR.out.mono HB.out.size)
      have HVL : Hid (∀ K : Int, Below wr.heap.size wr (wr.alloc (.cells #[.int .i64 K, .string ⟨#[]⟩, .slice none 0 0] 40))) := fun K => (Below.refl _ _).alloc (Nat.le_refl _) _
      have HVZ : Hid (∀ K : Int, QZ wr.heap.size K (wr.alloc (.cells #[.int .i64 K, .string ⟨#[]⟩, .slice none 0 0] 40))) := fun K => qz_new wr K
      have c1 := HTX.out _ (HVL.out 0)
      have hsl : (Vm.snd 32 x).length ≤ 4000 := by unfold Vm.snd; rw [List.length_drop]; have := (List.dropWhile_sublist (· != (32 : UInt8)) (l := x)).length_le; omega
      obtain ⟨X, hX⟩ : ∃ X, askP x = X := ⟨_, rfl⟩
      obtain ⟨f, hfe⟩ : ∃ f, Vm.fst 32 x = f := ⟨_, rfl⟩
      obtain ⟨r, hr⟩ : ∃ r, Vm.snd 32 x = r := ⟨_, rfl⟩
      obtain ⟨h, hh⟩ : ∃ h, Vm.has 32 x = h := ⟨_, rfl⟩
      obtain ⟨Y, hY⟩ : ∃ Y, parseA r = Y := ⟨_, rfl⟩
      obtain ⟨x1, x2, x3⟩ := askP_of hfe hr hh rfl hY hX
      have X1 := Lib.hid x1
      have X2 := Lib.hid x2
      have X3 := Lib.hid x3
      have HYE := Lib.hid hY
      rw [hX] at HBAD HOKK
      have HRL : Hid (r.length ≤ 4000) := by rw [← hr]; exact hsl
      have hxl := hl
      clear x1 x2 x3 hX hY hx hl hsl
      have k0 : (0 : Int) ≤ (k : Int) := by omega
      have k1 : (k : Int) < (n : Int) := by omega
      cases h
      · have HX := Lib.hid (HBAD.out _ _ (X1.out rfl) (by decide))
        have HPL := Lib.hid (place_no x 32 wr hxl hh)
        have HWV := Lib.hid (HWR.out.trans ((HVL.out 0).mono HWR.out.size))
        clear X1 X2 X3 hh hfe hr
        go_wp2_with fail
        refine HPL.out.mono ?_
        rintro _ z ⟨rfl, rfl⟩
        go_wp2_with fail
        go_ret3
        exact parR_of HX.out HWV.out rfl (qrow_nil _)
      · have HPL := Lib.hid (place_yes x 32 wr hxl hh)
        obtain ⟨hflt, hya, hyb⟩ := cut_texts x 32 hh
        rw [hfe] at HPL hflt hya hyb
        rw [hr] at hyb
        have HFX := Lib.hid hfe
        clear hh hfe hr
        obtain ⟨q, nm, l⟩ := Y
        dsimp only at X3
        rcases word_cases f with hf | hf | hf | hf | ⟨hk0, n1, n2, n3, n4⟩
        · have hkq : kindQ f = 1 := by rw [hf]; decide
          rw [hkq] at X3
          obtain ⟨y1, y2⟩ := X3.out rfl (by decide)
          have e1 : (f == [105, 110, 115, 116, 97, 108, 108]) = true := by rw [hf]; decide
          clear hf hkq
          have Y1 := Lib.hid y1
          have Y2 := Lib.hid y2
          have HQZ := Lib.hid (HVZ.out 1)
          have HWG := Lib.hid (HVL.out 1)
          have c2 := HTX.out _ HWG.out
          clear X1 X2 X3 y1 y2
          go_wp2_with fail
          refine HPL.out.mono ?_
          rintro _ z ⟨rfl, rfl⟩
          go_wp2_with fail
          clear c0 c1 c2 hya
          (try clear e1)
          (try clear e2)
          (try clear e3)
          (try clear e4)
          obtain ⟨G, hG⟩ : ∃ G, wr.alloc (.cells #[.int .i64 1, .string ⟨#[]⟩, .slice none 0 0] 40) = G := ⟨_, rfl⟩
          rw [hG] at HQZ HWG ⊢
          clear hG
          obtain ⟨g0, g1, g2, gf0, gf1, gf2⟩ := qz_cells HQZ.out
          have c0' := (HTX.out _ HWG.out)
          have HPG := Lib.hid (refParseAtom_any r G (maxOk_below HW.out (HWR.out.trans (HWG.out.mono HWR.out.size))) HRL.out)
          rw [HYE.out] at HPG
          refine HPG.out.mono ?_
          rintro _ u ⟨C, m, d, rfl, hm, hr, hb⟩
          dsimp only at hm hr
          have HGU := Lib.hid hb
          have HM := Lib.hid hm
          have HR := Lib.hid hr
          clear hb hm hr HPG c0' g0 g1 g2 gf0 gf1 gf2
          dsimp only
          by_cases hq0 : q = 0
          case neg =>
            have HX := Lib.hid (HBAD.out _ _ (Y1.out hq0) hq0)
            have HQ0 := Lib.hid hq0
            have dq : (q != 0) = true := by simpa using hq0
            have HWU := Lib.hid (HWR.out.trans ((HWG.out.trans (HGU.out.mono HWG.out.size)).mono HWR.out.size))
            clear hq0
            go_wp2_with fail
            go_ret3
            exact parR_of HX.out (HWU.out.alloc HWU.out.size _) rfl (qrow_nil _)
          subst hq0
          obtain ⟨yn, yy⟩ := Y2.out rfl
          have YN := Lib.hid yn
          have YY := Lib.hid yy
          clear yn yy Y1 Y2
          obtain ⟨H, hH⟩ : ∃ H, u.alloc (.cells #[.string ⟨nm.toArray⟩, .slice C m d] 38) = H := ⟨_, rfl⟩
          have HUH : Hid (Below u.heap.size u H) := alloc_low hH
          have HGH : Hid (Below G.heap.size G H) := HGU.out.trans (HUH.out.mono HGU.out.size)
          have hs0 := (cell_two hH (Below.refl _ _)).1
          have hs1 := (cell_two hH (Below.refl _ _)).2.1
          have HQH : Hid (QZ wr.heap.size 1 H) := qz_below HQZ.out (qz_lt HQZ.out) HGH.out
          obtain ⟨g0, g1, g2, gf0, gf1, gf2⟩ := qz_cells HQH.out
          have HB2 : Hid (QBk wr.heap.size 1 nm C m d ((H.setCell ⟨wr.heap.size, 1, none⟩ (.string ⟨nm.toArray⟩)).setCell ⟨wr.heap.size, 2, none⟩ (.slice C m d))) := qz_store HQH.out
          have HRH : Hid (SRow ((H.setCell ⟨wr.heap.size, 1, none⟩ (.string ⟨nm.toArray⟩)).setCell ⟨wr.heap.size, 2, none⟩ (.slice C m d)) C l) := qz_row HQH.out (srow_below HR.out HUH.out)
          have HWH : Hid (Below wr.heap.size wr ((H.setCell ⟨wr.heap.size, 1, none⟩ (.string ⟨nm.toArray⟩)).setCell ⟨wr.heap.size, 2, none⟩ (.slice C m d))) := ((HWG.out.trans (HGH.out.mono HWG.out.size)).setCell (Nat.le_refl _) _).setCell (Nat.le_refl _) _
          have hblt : wr.heap.size < H.heap.size := qz_lt HQH.out
          go_wp2_with fail
          clear hH hs0 hs1 g0 g1 g2 gf0 gf1 gf2
          obtain ⟨J, hJ⟩ : ∃ J, (H.setCell ⟨wr.heap.size, 1, none⟩ (.string ⟨nm.toArray⟩)).setCell ⟨wr.heap.size, 2, none⟩ (.slice C m d) = J := ⟨_, rfl⟩
          have hsz : H.heap.size = J.heap.size := by rw [← hJ]; simp [World.setCell]
          rw [hJ] at HB2 HRH HWH ⊢
          have HLT : Hid (wr.heap.size < J.heap.size) := by rw [← hsz]; exact hblt
          clear hJ hsz hblt
          obtain ⟨b0, b1, b2⟩ := HB2.out
          have hca := parse_check HYE.out
          have hcp := check_parts hca
          have hn1 := name_len hcp.1
          have hn2 := good_n hcp.2.1
          dsimp only at hn1 hn2
          have HCK := Lib.hid (refCheckAsk_any 1 nm C m d l J (maxOk_below HW.out (HWR.out.trans (HWH.out.mono HWR.out.size))) (by show nm.length ≤ _; unfold maxLen; omega) HM.out HRH.out (by rw [← HM.out]; exact Nat.le_trans hn2 (by decide)))
          obtain ⟨cq, hcq⟩ : ∃ cq, checkQ ⟨1, nm, l⟩ = cq := ⟨_, rfl⟩
          rw [hcq] at HCK YN YY
          clear hca hcp hn1 hn2 hcq
          go_wp2_with fail
          refine HCK.out.mono ?_
          rintro _ y ⟨rfl, hb⟩
          have HJY := Lib.hid hb
          have HWY := Lib.hid (HWH.out.trans (hb.mono HWH.out.size))
          clear hb HCK b0 b1 b2
          by_cases hc0 : cq = 0
          case neg =>
            have HX := Lib.hid (HBAD.out _ _ (YN.out hc0) hc0)
            have dq : (cq != 0) = true := by simpa using hc0
            have HWU := Lib.hid (HWR.out.trans (HWY.out.mono HWR.out.size))
            clear hc0
            go_wp2_with fail
            go_ret3
            exact parR_of HX.out HWU.out rfl (qrow_nil _)
          subst hc0
          have HST2 := Lib.hid (HOKK.out _ (YY.out rfl))
          obtain ⟨b0, b1, b2⟩ := HB2.out
          have b0 := (HJY.out.cell (p := ⟨wr.heap.size, 0, none⟩) HLT.out).trans b0
          have b1 := (HJY.out.cell (p := ⟨wr.heap.size, 1, none⟩) HLT.out).trans b1
          have b2 := (HJY.out.cell (p := ⟨wr.heap.size, 2, none⟩) HLT.out).trans b2
          have HRY : Hid (SRow y C l) := srow_below HRH.out HJY.out
          clear YN YY HB2
          go_wp2_with (at_builtin; refine Pg.wpList_app_pure sliceRQ zeroRQ_nob encQ_nob rfl (.tmp 85) (.tmp 87) rfl u0.heap.size _ ds [((1 : Int), nm, C, m, d)] rfl (qown_below HO.out (HWY.out.alloc HWY.out.size _)).1 (qown_below HO.out (HWY.out.alloc HWY.out.size _)).2.2 _ _ rfl (Rg.news_new y _ _ _ (by rfl)) (Nat.zero_lt_succ _) HSZ.out ?b2 ?_)
          case b2 => have := HBR.out.size; have := HWY.out.size; simp; omega
          intro v5 W5 ho5 hp5 hg5 hz5
          have hal : Below wr.heap.size wr (y.alloc (.cells #[.int .i64 1, .string ⟨nm.toArray⟩, .slice C m d] 40)) := HWY.out.alloc HWY.out.size _
          have HO5 := Lib.hid (qown_add (a := ⟨1, nm, l⟩) (qown_below HO.out hal) (srow_below HRY.out ((Below.refl _ _).alloc (Nat.le_refl _) _)) HM.out ho5 hp5 hg5)
          have HB5 : Hid (Below u0.heap.size u0 W5) := (HBR.out.trans (hal.mono HBR.out.size)).trans (Rg.grown_below (qown_below HO.out hal).1 (Nat.le_trans HBR.out.size hal.size) hg5)
          clear ho5 hp5 hg5 hz5 hal HO HBR b0 b1 b2
          go_wp2_with fail
          go_roundw
          case rel => exact ⟨k + 1, _, _, by omega, by go_num, HST2, HO5, HB5⟩
          case measure => simp [intOf]; omega
        · have hkq : kindQ f = 2 := by rw [hf]; decide
          rw [hkq] at X3
          obtain ⟨y1, y2⟩ := X3.out rfl (by decide)
          have e1 : (f == [105, 110, 115, 116, 97, 108, 108]) = false := by rw [hf]; decide
          have e2 : (f == [114, 101, 109, 111, 118, 101]) = true := by rw [hf]; decide
          clear hf hkq
          have Y1 := Lib.hid y1
          have Y2 := Lib.hid y2
          have HQZ := Lib.hid (HVZ.out 2)
          have HWG := Lib.hid (HVL.out 2)
          have c2 := HTX.out _ HWG.out
          clear X1 X2 X3 y1 y2
          go_wp2_with fail
          refine HPL.out.mono ?_
          rintro _ z ⟨rfl, rfl⟩
          go_wp2_with fail
          clear c0 c1 c2 hya
          (try clear e1)
          (try clear e2)
          (try clear e3)
          (try clear e4)
          obtain ⟨G, hG⟩ : ∃ G, wr.alloc (.cells #[.int .i64 2, .string ⟨#[]⟩, .slice none 0 0] 40) = G := ⟨_, rfl⟩
          rw [hG] at HQZ HWG ⊢
          clear hG
          obtain ⟨g0, g1, g2, gf0, gf1, gf2⟩ := qz_cells HQZ.out
          have c0' := (HTX.out _ HWG.out)
          have HPG := Lib.hid (refParseAtom_any r G (maxOk_below HW.out (HWR.out.trans (HWG.out.mono HWR.out.size))) HRL.out)
          rw [HYE.out] at HPG
          refine HPG.out.mono ?_
          rintro _ u ⟨C, m, d, rfl, hm, hr, hb⟩
          dsimp only at hm hr
          have HGU := Lib.hid hb
          have HM := Lib.hid hm
          have HR := Lib.hid hr
          clear hb hm hr HPG c0' g0 g1 g2 gf0 gf1 gf2
          dsimp only
          by_cases hq0 : q = 0
          case neg =>
            have HX := Lib.hid (HBAD.out _ _ (Y1.out hq0) hq0)
            have HQ0 := Lib.hid hq0
            have dq : (q != 0) = true := by simpa using hq0
            have HWU := Lib.hid (HWR.out.trans ((HWG.out.trans (HGU.out.mono HWG.out.size)).mono HWR.out.size))
            clear hq0
            go_wp2_with fail
            go_ret3
            exact parR_of HX.out (HWU.out.alloc HWU.out.size _) rfl (qrow_nil _)
          subst hq0
          obtain ⟨yn, yy⟩ := Y2.out rfl
          have YN := Lib.hid yn
          have YY := Lib.hid yy
          clear yn yy Y1 Y2
          obtain ⟨H, hH⟩ : ∃ H, u.alloc (.cells #[.string ⟨nm.toArray⟩, .slice C m d] 38) = H := ⟨_, rfl⟩
          have HUH : Hid (Below u.heap.size u H) := alloc_low hH
          have HGH : Hid (Below G.heap.size G H) := HGU.out.trans (HUH.out.mono HGU.out.size)
          have hs0 := (cell_two hH (Below.refl _ _)).1
          have hs1 := (cell_two hH (Below.refl _ _)).2.1
          have HQH : Hid (QZ wr.heap.size 2 H) := qz_below HQZ.out (qz_lt HQZ.out) HGH.out
          obtain ⟨g0, g1, g2, gf0, gf1, gf2⟩ := qz_cells HQH.out
          have HB2 : Hid (QBk wr.heap.size 2 nm C m d ((H.setCell ⟨wr.heap.size, 1, none⟩ (.string ⟨nm.toArray⟩)).setCell ⟨wr.heap.size, 2, none⟩ (.slice C m d))) := qz_store HQH.out
          have HRH : Hid (SRow ((H.setCell ⟨wr.heap.size, 1, none⟩ (.string ⟨nm.toArray⟩)).setCell ⟨wr.heap.size, 2, none⟩ (.slice C m d)) C l) := qz_row HQH.out (srow_below HR.out HUH.out)
          have HWH : Hid (Below wr.heap.size wr ((H.setCell ⟨wr.heap.size, 1, none⟩ (.string ⟨nm.toArray⟩)).setCell ⟨wr.heap.size, 2, none⟩ (.slice C m d))) := ((HWG.out.trans (HGH.out.mono HWG.out.size)).setCell (Nat.le_refl _) _).setCell (Nat.le_refl _) _
          have hblt : wr.heap.size < H.heap.size := qz_lt HQH.out
          go_wp2_with fail
          clear hH hs0 hs1 g0 g1 g2 gf0 gf1 gf2
          obtain ⟨J, hJ⟩ : ∃ J, (H.setCell ⟨wr.heap.size, 1, none⟩ (.string ⟨nm.toArray⟩)).setCell ⟨wr.heap.size, 2, none⟩ (.slice C m d) = J := ⟨_, rfl⟩
          have hsz : H.heap.size = J.heap.size := by rw [← hJ]; simp [World.setCell]
          rw [hJ] at HB2 HRH HWH ⊢
          have HLT : Hid (wr.heap.size < J.heap.size) := by rw [← hsz]; exact hblt
          clear hJ hsz hblt
          obtain ⟨b0, b1, b2⟩ := HB2.out
          have hca := parse_check HYE.out
          have hcp := check_parts hca
          have hn1 := name_len hcp.1
          have hn2 := good_n hcp.2.1
          dsimp only at hn1 hn2
          have HCK := Lib.hid (refCheckAsk_any 2 nm C m d l J (maxOk_below HW.out (HWR.out.trans (HWH.out.mono HWR.out.size))) (by show nm.length ≤ _; unfold maxLen; omega) HM.out HRH.out (by rw [← HM.out]; exact Nat.le_trans hn2 (by decide)))
          obtain ⟨cq, hcq⟩ : ∃ cq, checkQ ⟨2, nm, l⟩ = cq := ⟨_, rfl⟩
          rw [hcq] at HCK YN YY
          clear hca hcp hn1 hn2 hcq
          go_wp2_with fail
          refine HCK.out.mono ?_
          rintro _ y ⟨rfl, hb⟩
          have HJY := Lib.hid hb
          have HWY := Lib.hid (HWH.out.trans (hb.mono HWH.out.size))
          clear hb HCK b0 b1 b2
          by_cases hc0 : cq = 0
          case neg =>
            have HX := Lib.hid (HBAD.out _ _ (YN.out hc0) hc0)
            have dq : (cq != 0) = true := by simpa using hc0
            have HWU := Lib.hid (HWR.out.trans (HWY.out.mono HWR.out.size))
            clear hc0
            go_wp2_with fail
            go_ret3
            exact parR_of HX.out HWU.out rfl (qrow_nil _)
          subst hc0
          have HST2 := Lib.hid (HOKK.out _ (YY.out rfl))
          obtain ⟨b0, b1, b2⟩ := HB2.out
          have b0 := (HJY.out.cell (p := ⟨wr.heap.size, 0, none⟩) HLT.out).trans b0
          have b1 := (HJY.out.cell (p := ⟨wr.heap.size, 1, none⟩) HLT.out).trans b1
          have b2 := (HJY.out.cell (p := ⟨wr.heap.size, 2, none⟩) HLT.out).trans b2
          have HRY : Hid (SRow y C l) := srow_below HRH.out HJY.out
          clear YN YY HB2
          go_wp2_with (at_builtin; refine Pg.wpList_app_pure sliceRQ zeroRQ_nob encQ_nob rfl (.tmp 85) (.tmp 87) rfl u0.heap.size _ ds [((2 : Int), nm, C, m, d)] rfl (qown_below HO.out (HWY.out.alloc HWY.out.size _)).1 (qown_below HO.out (HWY.out.alloc HWY.out.size _)).2.2 _ _ rfl (Rg.news_new y _ _ _ (by rfl)) (Nat.zero_lt_succ _) HSZ.out ?b2 ?_)
          case b2 => have := HBR.out.size; have := HWY.out.size; simp; omega
          intro v5 W5 ho5 hp5 hg5 hz5
          have hal : Below wr.heap.size wr (y.alloc (.cells #[.int .i64 2, .string ⟨nm.toArray⟩, .slice C m d] 40)) := HWY.out.alloc HWY.out.size _
          have HO5 := Lib.hid (qown_add (a := ⟨2, nm, l⟩) (qown_below HO.out hal) (srow_below HRY.out ((Below.refl _ _).alloc (Nat.le_refl _) _)) HM.out ho5 hp5 hg5)
          have HB5 : Hid (Below u0.heap.size u0 W5) := (HBR.out.trans (hal.mono HBR.out.size)).trans (Rg.grown_below (qown_below HO.out hal).1 (Nat.le_trans HBR.out.size hal.size) hg5)
          clear ho5 hp5 hg5 hz5 hal HO HBR b0 b1 b2
          go_wp2_with fail
          go_roundw
          case rel => exact ⟨k + 1, _, _, by omega, by go_num, HST2, HO5, HB5⟩
          case measure => simp [intOf]; omega
        · have hkq : kindQ f = 3 := by rw [hf]; decide
          rw [hkq] at X3
          obtain ⟨y1, y2⟩ := X3.out rfl (by decide)
          have e1 : (f == [105, 110, 115, 116, 97, 108, 108]) = false := by rw [hf]; decide
          have e2 : (f == [114, 101, 109, 111, 118, 101]) = false := by rw [hf]; decide
          have e3 : (f == [117, 112, 103, 114, 97, 100, 101]) = true := by rw [hf]; decide
          clear hf hkq
          have Y1 := Lib.hid y1
          have Y2 := Lib.hid y2
          have HQZ := Lib.hid (HVZ.out 3)
          have HWG := Lib.hid (HVL.out 3)
          have c2 := HTX.out _ HWG.out
          clear X1 X2 X3 y1 y2
          go_wp2_with fail
          refine HPL.out.mono ?_
          rintro _ z ⟨rfl, rfl⟩
          go_wp2_with fail
          clear c0 c1 c2 hya
          (try clear e1)
          (try clear e2)
          (try clear e3)
          (try clear e4)
          obtain ⟨G, hG⟩ : ∃ G, wr.alloc (.cells #[.int .i64 3, .string ⟨#[]⟩, .slice none 0 0] 40) = G := ⟨_, rfl⟩
          rw [hG] at HQZ HWG ⊢
          clear hG
          obtain ⟨g0, g1, g2, gf0, gf1, gf2⟩ := qz_cells HQZ.out
          have c0' := (HTX.out _ HWG.out)
          have HPG := Lib.hid (refParseAtom_any r G (maxOk_below HW.out (HWR.out.trans (HWG.out.mono HWR.out.size))) HRL.out)
          rw [HYE.out] at HPG
          refine HPG.out.mono ?_
          rintro _ u ⟨C, m, d, rfl, hm, hr, hb⟩
          dsimp only at hm hr
          have HGU := Lib.hid hb
          have HM := Lib.hid hm
          have HR := Lib.hid hr
          clear hb hm hr HPG c0' g0 g1 g2 gf0 gf1 gf2
          dsimp only
          by_cases hq0 : q = 0
          case neg =>
            have HX := Lib.hid (HBAD.out _ _ (Y1.out hq0) hq0)
            have HQ0 := Lib.hid hq0
            have dq : (q != 0) = true := by simpa using hq0
            have HWU := Lib.hid (HWR.out.trans ((HWG.out.trans (HGU.out.mono HWG.out.size)).mono HWR.out.size))
            clear hq0
            go_wp2_with fail
            go_ret3
            exact parR_of HX.out (HWU.out.alloc HWU.out.size _) rfl (qrow_nil _)
          subst hq0
          obtain ⟨yn, yy⟩ := Y2.out rfl
          have YN := Lib.hid yn
          have YY := Lib.hid yy
          clear yn yy Y1 Y2
          obtain ⟨H, hH⟩ : ∃ H, u.alloc (.cells #[.string ⟨nm.toArray⟩, .slice C m d] 38) = H := ⟨_, rfl⟩
          have HUH : Hid (Below u.heap.size u H) := alloc_low hH
          have HGH : Hid (Below G.heap.size G H) := HGU.out.trans (HUH.out.mono HGU.out.size)
          have hs0 := (cell_two hH (Below.refl _ _)).1
          have hs1 := (cell_two hH (Below.refl _ _)).2.1
          have HQH : Hid (QZ wr.heap.size 3 H) := qz_below HQZ.out (qz_lt HQZ.out) HGH.out
          obtain ⟨g0, g1, g2, gf0, gf1, gf2⟩ := qz_cells HQH.out
          have HB2 : Hid (QBk wr.heap.size 3 nm C m d ((H.setCell ⟨wr.heap.size, 1, none⟩ (.string ⟨nm.toArray⟩)).setCell ⟨wr.heap.size, 2, none⟩ (.slice C m d))) := qz_store HQH.out
          have HRH : Hid (SRow ((H.setCell ⟨wr.heap.size, 1, none⟩ (.string ⟨nm.toArray⟩)).setCell ⟨wr.heap.size, 2, none⟩ (.slice C m d)) C l) := qz_row HQH.out (srow_below HR.out HUH.out)
          have HWH : Hid (Below wr.heap.size wr ((H.setCell ⟨wr.heap.size, 1, none⟩ (.string ⟨nm.toArray⟩)).setCell ⟨wr.heap.size, 2, none⟩ (.slice C m d))) := ((HWG.out.trans (HGH.out.mono HWG.out.size)).setCell (Nat.le_refl _) _).setCell (Nat.le_refl _) _
          have hblt : wr.heap.size < H.heap.size := qz_lt HQH.out
          go_wp2_with fail
          clear hH hs0 hs1 g0 g1 g2 gf0 gf1 gf2
          obtain ⟨J, hJ⟩ : ∃ J, (H.setCell ⟨wr.heap.size, 1, none⟩ (.string ⟨nm.toArray⟩)).setCell ⟨wr.heap.size, 2, none⟩ (.slice C m d) = J := ⟨_, rfl⟩
          have hsz : H.heap.size = J.heap.size := by rw [← hJ]; simp [World.setCell]
          rw [hJ] at HB2 HRH HWH ⊢
          have HLT : Hid (wr.heap.size < J.heap.size) := by rw [← hsz]; exact hblt
          clear hJ hsz hblt
          obtain ⟨b0, b1, b2⟩ := HB2.out
          have hca := parse_check HYE.out
          have hcp := check_parts hca
          have hn1 := name_len hcp.1
          have hn2 := good_n hcp.2.1
          dsimp only at hn1 hn2
          have HCK := Lib.hid (refCheckAsk_any 3 nm C m d l J (maxOk_below HW.out (HWR.out.trans (HWH.out.mono HWR.out.size))) (by show nm.length ≤ _; unfold maxLen; omega) HM.out HRH.out (by rw [← HM.out]; exact Nat.le_trans hn2 (by decide)))
          obtain ⟨cq, hcq⟩ : ∃ cq, checkQ ⟨3, nm, l⟩ = cq := ⟨_, rfl⟩
          rw [hcq] at HCK YN YY
          clear hca hcp hn1 hn2 hcq
          go_wp2_with fail
          refine HCK.out.mono ?_
          rintro _ y ⟨rfl, hb⟩
          have HJY := Lib.hid hb
          have HWY := Lib.hid (HWH.out.trans (hb.mono HWH.out.size))
          clear hb HCK b0 b1 b2
          by_cases hc0 : cq = 0
          case neg =>
            have HX := Lib.hid (HBAD.out _ _ (YN.out hc0) hc0)
            have dq : (cq != 0) = true := by simpa using hc0
            have HWU := Lib.hid (HWR.out.trans (HWY.out.mono HWR.out.size))
            clear hc0
            go_wp2_with fail
            go_ret3
            exact parR_of HX.out HWU.out rfl (qrow_nil _)
          subst hc0
          have HST2 := Lib.hid (HOKK.out _ (YY.out rfl))
          obtain ⟨b0, b1, b2⟩ := HB2.out
          have b0 := (HJY.out.cell (p := ⟨wr.heap.size, 0, none⟩) HLT.out).trans b0
          have b1 := (HJY.out.cell (p := ⟨wr.heap.size, 1, none⟩) HLT.out).trans b1
          have b2 := (HJY.out.cell (p := ⟨wr.heap.size, 2, none⟩) HLT.out).trans b2
          have HRY : Hid (SRow y C l) := srow_below HRH.out HJY.out
          clear YN YY HB2
          go_wp2_with (at_builtin; refine Pg.wpList_app_pure sliceRQ zeroRQ_nob encQ_nob rfl (.tmp 85) (.tmp 87) rfl u0.heap.size _ ds [((3 : Int), nm, C, m, d)] rfl (qown_below HO.out (HWY.out.alloc HWY.out.size _)).1 (qown_below HO.out (HWY.out.alloc HWY.out.size _)).2.2 _ _ rfl (Rg.news_new y _ _ _ (by rfl)) (Nat.zero_lt_succ _) HSZ.out ?b2 ?_)
          case b2 => have := HBR.out.size; have := HWY.out.size; simp; omega
          intro v5 W5 ho5 hp5 hg5 hz5
          have hal : Below wr.heap.size wr (y.alloc (.cells #[.int .i64 3, .string ⟨nm.toArray⟩, .slice C m d] 40)) := HWY.out.alloc HWY.out.size _
          have HO5 := Lib.hid (qown_add (a := ⟨3, nm, l⟩) (qown_below HO.out hal) (srow_below HRY.out ((Below.refl _ _).alloc (Nat.le_refl _) _)) HM.out ho5 hp5 hg5)
          have HB5 : Hid (Below u0.heap.size u0 W5) := (HBR.out.trans (hal.mono HBR.out.size)).trans (Rg.grown_below (qown_below HO.out hal).1 (Nat.le_trans HBR.out.size hal.size) hg5)
          clear ho5 hp5 hg5 hz5 hal HO HBR b0 b1 b2
          go_wp2_with fail
          go_roundw
          case rel => exact ⟨k + 1, _, _, by omega, by go_num, HST2, HO5, HB5⟩
          case measure => simp [intOf]; omega
        · have hkq : kindQ f = 4 := by rw [hf]; decide
          rw [hkq] at X3
          obtain ⟨y1, y2⟩ := X3.out rfl (by decide)
          have e1 : (f == [105, 110, 115, 116, 97, 108, 108]) = false := by rw [hf]; decide
          have e2 : (f == [114, 101, 109, 111, 118, 101]) = false := by rw [hf]; decide
          have e3 : (f == [117, 112, 103, 114, 97, 100, 101]) = false := by rw [hf]; decide
          have e4 : (f == [112, 105, 110]) = true := by rw [hf]; decide
          clear hf hkq
          have Y1 := Lib.hid y1
          have Y2 := Lib.hid y2
          have HQZ := Lib.hid (HVZ.out 4)
          have HWG := Lib.hid (HVL.out 4)
          have c2 := HTX.out _ HWG.out
          clear X1 X2 X3 y1 y2
          go_wp2_with fail
          refine HPL.out.mono ?_
          rintro _ z ⟨rfl, rfl⟩
          go_wp2_with fail
          clear c0 c1 c2 hya
          (try clear e1)
          (try clear e2)
          (try clear e3)
          (try clear e4)
          obtain ⟨G, hG⟩ : ∃ G, wr.alloc (.cells #[.int .i64 4, .string ⟨#[]⟩, .slice none 0 0] 40) = G := ⟨_, rfl⟩
          rw [hG] at HQZ HWG ⊢
          clear hG
          obtain ⟨g0, g1, g2, gf0, gf1, gf2⟩ := qz_cells HQZ.out
          have c0' := (HTX.out _ HWG.out)
          have HPG := Lib.hid (refParseAtom_any r G (maxOk_below HW.out (HWR.out.trans (HWG.out.mono HWR.out.size))) HRL.out)
          rw [HYE.out] at HPG
          refine HPG.out.mono ?_
          rintro _ u ⟨C, m, d, rfl, hm, hr, hb⟩
          dsimp only at hm hr
          have HGU := Lib.hid hb
          have HM := Lib.hid hm
          have HR := Lib.hid hr
          clear hb hm hr HPG c0' g0 g1 g2 gf0 gf1 gf2
          dsimp only
          by_cases hq0 : q = 0
          case neg =>
            have HX := Lib.hid (HBAD.out _ _ (Y1.out hq0) hq0)
            have HQ0 := Lib.hid hq0
            have dq : (q != 0) = true := by simpa using hq0
            have HWU := Lib.hid (HWR.out.trans ((HWG.out.trans (HGU.out.mono HWG.out.size)).mono HWR.out.size))
            clear hq0
            go_wp2_with fail
            go_ret3
            exact parR_of HX.out (HWU.out.alloc HWU.out.size _) rfl (qrow_nil _)
          subst hq0
          obtain ⟨yn, yy⟩ := Y2.out rfl
          have YN := Lib.hid yn
          have YY := Lib.hid yy
          clear yn yy Y1 Y2
          obtain ⟨H, hH⟩ : ∃ H, u.alloc (.cells #[.string ⟨nm.toArray⟩, .slice C m d] 38) = H := ⟨_, rfl⟩
          have HUH : Hid (Below u.heap.size u H) := alloc_low hH
          have HGH : Hid (Below G.heap.size G H) := HGU.out.trans (HUH.out.mono HGU.out.size)
          have hs0 := (cell_two hH (Below.refl _ _)).1
          have hs1 := (cell_two hH (Below.refl _ _)).2.1
          have HQH : Hid (QZ wr.heap.size 4 H) := qz_below HQZ.out (qz_lt HQZ.out) HGH.out
          obtain ⟨g0, g1, g2, gf0, gf1, gf2⟩ := qz_cells HQH.out
          have HB2 : Hid (QBk wr.heap.size 4 nm C m d ((H.setCell ⟨wr.heap.size, 1, none⟩ (.string ⟨nm.toArray⟩)).setCell ⟨wr.heap.size, 2, none⟩ (.slice C m d))) := qz_store HQH.out
          have HRH : Hid (SRow ((H.setCell ⟨wr.heap.size, 1, none⟩ (.string ⟨nm.toArray⟩)).setCell ⟨wr.heap.size, 2, none⟩ (.slice C m d)) C l) := qz_row HQH.out (srow_below HR.out HUH.out)
          have HWH : Hid (Below wr.heap.size wr ((H.setCell ⟨wr.heap.size, 1, none⟩ (.string ⟨nm.toArray⟩)).setCell ⟨wr.heap.size, 2, none⟩ (.slice C m d))) := ((HWG.out.trans (HGH.out.mono HWG.out.size)).setCell (Nat.le_refl _) _).setCell (Nat.le_refl _) _
          have hblt : wr.heap.size < H.heap.size := qz_lt HQH.out
          go_wp2_with fail
          clear hH hs0 hs1 g0 g1 g2 gf0 gf1 gf2
          obtain ⟨J, hJ⟩ : ∃ J, (H.setCell ⟨wr.heap.size, 1, none⟩ (.string ⟨nm.toArray⟩)).setCell ⟨wr.heap.size, 2, none⟩ (.slice C m d) = J := ⟨_, rfl⟩
          have hsz : H.heap.size = J.heap.size := by rw [← hJ]; simp [World.setCell]
          rw [hJ] at HB2 HRH HWH ⊢
          have HLT : Hid (wr.heap.size < J.heap.size) := by rw [← hsz]; exact hblt
          clear hJ hsz hblt
          obtain ⟨b0, b1, b2⟩ := HB2.out
          have hca := parse_check HYE.out
          have hcp := check_parts hca
          have hn1 := name_len hcp.1
          have hn2 := good_n hcp.2.1
          dsimp only at hn1 hn2
          have HCK := Lib.hid (refCheckAsk_any 4 nm C m d l J (maxOk_below HW.out (HWR.out.trans (HWH.out.mono HWR.out.size))) (by show nm.length ≤ _; unfold maxLen; omega) HM.out HRH.out (by rw [← HM.out]; exact Nat.le_trans hn2 (by decide)))
          obtain ⟨cq, hcq⟩ : ∃ cq, checkQ ⟨4, nm, l⟩ = cq := ⟨_, rfl⟩
          rw [hcq] at HCK YN YY
          clear hca hcp hn1 hn2 hcq
          go_wp2_with fail
          refine HCK.out.mono ?_
          rintro _ y ⟨rfl, hb⟩
          have HJY := Lib.hid hb
          have HWY := Lib.hid (HWH.out.trans (hb.mono HWH.out.size))
          clear hb HCK b0 b1 b2
          by_cases hc0 : cq = 0
          case neg =>
            have HX := Lib.hid (HBAD.out _ _ (YN.out hc0) hc0)
            have dq : (cq != 0) = true := by simpa using hc0
            have HWU := Lib.hid (HWR.out.trans (HWY.out.mono HWR.out.size))
            clear hc0
            go_wp2_with fail
            go_ret3
            exact parR_of HX.out HWU.out rfl (qrow_nil _)
          subst hc0
          have HST2 := Lib.hid (HOKK.out _ (YY.out rfl))
          obtain ⟨b0, b1, b2⟩ := HB2.out
          have b0 := (HJY.out.cell (p := ⟨wr.heap.size, 0, none⟩) HLT.out).trans b0
          have b1 := (HJY.out.cell (p := ⟨wr.heap.size, 1, none⟩) HLT.out).trans b1
          have b2 := (HJY.out.cell (p := ⟨wr.heap.size, 2, none⟩) HLT.out).trans b2
          have HRY : Hid (SRow y C l) := srow_below HRH.out HJY.out
          clear YN YY HB2
          go_wp2_with (at_builtin; refine Pg.wpList_app_pure sliceRQ zeroRQ_nob encQ_nob rfl (.tmp 85) (.tmp 87) rfl u0.heap.size _ ds [((4 : Int), nm, C, m, d)] rfl (qown_below HO.out (HWY.out.alloc HWY.out.size _)).1 (qown_below HO.out (HWY.out.alloc HWY.out.size _)).2.2 _ _ rfl (Rg.news_new y _ _ _ (by rfl)) (Nat.zero_lt_succ _) HSZ.out ?b2 ?_)
          case b2 => have := HBR.out.size; have := HWY.out.size; simp; omega
          intro v5 W5 ho5 hp5 hg5 hz5
          have hal : Below wr.heap.size wr (y.alloc (.cells #[.int .i64 4, .string ⟨nm.toArray⟩, .slice C m d] 40)) := HWY.out.alloc HWY.out.size _
          have HO5 := Lib.hid (qown_add (a := ⟨4, nm, l⟩) (qown_below HO.out hal) (srow_below HRY.out ((Below.refl _ _).alloc (Nat.le_refl _) _)) HM.out ho5 hp5 hg5)
          have HB5 : Hid (Below u0.heap.size u0 W5) := (HBR.out.trans (hal.mono HBR.out.size)).trans (Rg.grown_below (qown_below HO.out hal).1 (Nat.le_trans HBR.out.size hal.size) hg5)
          clear ho5 hp5 hg5 hz5 hal HO HBR b0 b1 b2
          go_wp2_with fail
          go_roundw
          case rel => exact ⟨k + 1, _, _, by omega, by go_num, HST2, HO5, HB5⟩
          case measure => simp [intOf]; omega
        · have HX := Lib.hid (HBAD.out _ _ (X2.out hk0) (by decide))
          have e1 : (f == [105, 110, 115, 116, 97, 108, 108]) = false := beq_eq_false_iff_ne.2 n1
          have e2 : (f == [114, 101, 109, 111, 118, 101]) = false := beq_eq_false_iff_ne.2 n2
          have e3 : (f == [117, 112, 103, 114, 97, 100, 101]) = false := beq_eq_false_iff_ne.2 n3
          have e4 : (f == [112, 105, 110]) = false := beq_eq_false_iff_ne.2 n4
          have HWV := Lib.hid (HWR.out.trans ((HVL.out 0).mono HWR.out.size))
          clear X1 X2 X3 hk0 n1 n2 n3 n4
          go_wp2_with fail
          refine HPL.out.mono ?_
          rintro _ z ⟨rfl, rfl⟩
          go_wp2_with fail
          go_ret3
          exact parR_of HX.out HWV.out rfl (qrow_nil _)
    · obtain rfl : k = n := by omega
      have HX : Hid (readQ s = (0, 0, acc)) := rd_all (by rw [HN.out]; exact HST.out) HHD.out HSL.out HSE.out (by rw [HN.out]; exact h32')
      obtain ⟨C, d, rfl, hrw, _⟩ := qown_row HO.out
      have HRW := Lib.hid hrw
      have HWR : Hid (Below w.heap.size w wr) := HB.out.trans (HBR.out.mono HB.out.size)
      clear hrw HO
      go_wp2_with fail
      go_ret3
      exact parR_of HX.out HWR.out rfl HRW.out
end Go.Proofs.YtkdildgdodnbbaaGreatDoor
namespace Go.Proofs.YtkdildgdodnbbaaGreatDoor.Ak
open Go.RowKit Rs At Pg Sz
theorem parR_get {w w' : World} {s : List UInt8} {e : Ending} {i : Nat} {k : Int} {l : List Rq} (h : ParR w s e w') (hr : readQ s = (i, k, l)) : Below w.heap.size w w' ∧ ∃ A n c, e = .returned (.tuple #[.slice A n c, .int .i64 i, .int .i64 k]) ∧ l.length = n ∧ QRow w' A l := by
  obtain ⟨hb, A, n, c, he, hn, hrow⟩ := h
  rw [hr] at he hn hrow
  exact ⟨hb, A, n, c, he, hn, hrow⟩
theorem few_ok {l : List Rq} (h : ∀ a ∈ l, checkQ a = 0) : ∀ a ∈ l, a.atm.name.length ≤ 24 ∧ a.atm.rng.length ≤ 64 := fun a ha => by
  have hp := check_parts (check_atm (h a ha))
  exact ⟨name_len hp.1, good_n hp.2.1⟩
theorem qfew_ok {l : List Rq} (h : ∀ a ∈ l, checkQ a = 0) : QFew l := fun a ha => by
  have := few_ok h a ha
  unfold maxLen; omega
theorem lines_le {s : List UInt8} (h : s.length ≤ 4000) : ∀ x ∈ linesL s, x.length ≤ 4000 := fun _x hx => Nat.le_trans (line_short hx) h
/-! install a (>= 01), remove b, upgrade c, pin d (< 2). -/
def ks : List UInt8 := [105, 110, 115, 116, 97, 108, 108, 32, 97, 32, 40, 62, 61, 32, 48, 49, 41, 10, 114, 101, 109, 111, 118, 101, 32, 98, 10, 117, 112, 103, 114, 97, 100, 101, 32, 99, 10, 112, 105, 110, 32, 100, 32, 40, 60, 32, 50, 41, 10]
def kl : List Rq := (readQ ks).2.2
theorem k9_read : readQ ks = (0, 0, kl) := Prod.ext (by decide +kernel) (Prod.ext (by decide +kernel) rfl)
theorem k9_len : kl.length = 4 := by decide +kernel
theorem k9_ck : checkQs kl = (0, 0) := by decide +kernel
theorem k9_txt : txtR kl = [105, 110, 115, 116, 97, 108, 108, 32, 97, 32, 40, 62, 61, 32, 49, 41, 10, 114, 101, 109, 111, 118, 101, 32, 98, 10, 117, 112, 103, 114, 97, 100, 101, 32, 99, 10, 112, 105, 110, 32, 100, 32, 40, 60, 32, 50, 41, 10] := by decide +kernel
theorem k9_b1 : readQ [114, 101, 109, 111, 118, 101, 32, 98, 10, 114, 101, 109, 111, 118, 101, 32, 98, 32, 40, 61, 32, 49, 41, 10] = (1, 1, []) := by decide +kernel
theorem k9_b2 : readQ [100, 114, 111, 112, 32, 98, 10] = (0, 2, []) := by decide +kernel
theorem k9_b3 : readQ [105, 110, 115, 116, 97, 108, 108, 32, 66, 10] = (0, 3, []) := by decide +kernel
theorem k9_b4 : readQ [105, 110, 115, 116, 97, 108, 108, 32, 97] = (0, 2, []) := by decide +kernel
theorem k9_c0 : checkQ ⟨0, ⟨[], []⟩⟩ = 1 := by decide +kernel
theorem k9_all : ∀ a ∈ kl, checkQ a = 0 := fun a ha => readQ_check (s := ks) a ha
theorem k9_ne : decide (kl = []) = false := decide_eq_false fun h => by have := k9_len; rw [h] at this; cases this
end Go.Proofs.YtkdildgdodnbbaaGreatDoor.Ak
namespace Go.Proofs.YtkdildgdodnbbaaGreatDoor
open Go.RowKit Rs At Pg Ak Sz
attribute [local go_sem ↓] Go.wp_at_zero Go.wp_at_succ
set_option maxRecDepth 100000 in
set_option maxHeartbeats 6400000 in
theorem known9_any (w : World) (hw : QOk w) : Calls Tryz.prog 7 #[] w fun e w' => e = .returned (.bool true) ∧ Below w.heap.size w w' := by
  have HP := Lib.hid (askParse_any ks w hw (by decide) (lines_le (by decide)))
  obtain ⟨T, hT⟩ : ∃ T, txtR kl = T := ⟨_, rfl⟩
  have hTe : (T == [105, 110, 115, 116, 97, 108, 108, 32, 97, 32, 40, 62, 61, 32, 49, 41, 10, 114, 101, 109, 111, 118, 101, 32, 98, 10, 117, 112, 103, 114, 97, 100, 101, 32, 99, 10, 112, 105, 110, 32, 100, 32, 40, 60, 32, 50, 41, 10]) = true := by rw [← hT, k9_txt]; exact beq_self_eq_true _
  have HT := Lib.hid hT
  have HTE := Lib.hid hTe
  have HW := Lib.hid hw
  clear hw hT hTe
  go_enter Tryz.func7, Tryz.ntmps7
  go_wp2_with fail
  refine HP.out.mono ?_
  rintro e u1 h
  obtain ⟨hb, A, n, c, rfl, hn, hr⟩ := parR_get h k9_read
  obtain rfl : n = 4 := by rw [← hn]; exact k9_len
  have HC1 := Lib.hid hb
  have HR1 := Lib.hid hr
  clear h hb hn hr HP
  go_wp2_with fail
  refine (askText_any A 4 c kl u1 (qok_below HW.out HC1.out) k9_len HR1.out (qfew_ok k9_all)).mono ?_
  rintro _ u2 ⟨rfl, hb⟩
  rw [HT.out, k9_ck]
  have HC2 := Lib.hid (HC1.out.trans (hb.mono HC1.out.size))
  have HR2 := Lib.hid (qrow_below HR1.out hb)
  clear hb HR1 HC1
  go_wp2_with fail
  refine (askParse_any _ u2 (qok_below HW.out HC2.out) (by decide) (lines_le (by decide))).mono ?_
  rintro e u3 h
  obtain ⟨hb, A3, n3, c3, rfl, _, _⟩ := parR_get h k9_b1
  have HC3 := Lib.hid (HC2.out.trans (hb.mono HC2.out.size))
  have HR3 := Lib.hid (qrow_below HR2.out hb)
  clear h hb HR2 HC2
  go_wp2_with fail
  refine (askParse_any _ u3 (qok_below HW.out HC3.out) (by decide) (lines_le (by decide))).mono ?_
  rintro e u4 h
  obtain ⟨hb, A4, n4, c4, rfl, _, _⟩ := parR_get h k9_b2
  have HC4 := Lib.hid (HC3.out.trans (hb.mono HC3.out.size))
  have HR4 := Lib.hid (qrow_below HR3.out hb)
  clear h hb HR3 HC3
  go_wp2_with fail
  refine (askParse_any _ u4 (qok_below HW.out HC4.out) (by decide) (lines_le (by decide))).mono ?_
  rintro e u5 h
  obtain ⟨hb, A5, n5, c5, rfl, _, _⟩ := parR_get h k9_b3
  have HC5 := Lib.hid (HC4.out.trans (hb.mono HC4.out.size))
  have HR5 := Lib.hid (qrow_below HR4.out hb)
  clear h hb HR4 HC4
  go_wp2_with fail
  refine (askParse_any _ u5 (qok_below HW.out HC5.out) (by decide) (lines_le (by decide))).mono ?_
  rintro e u6 h
  obtain ⟨hb, A6, n6, c6, rfl, _, _⟩ := parR_get h k9_b4
  have HC6 := Lib.hid (HC5.out.trans (hb.mono HC5.out.size))
  have HR6 := Lib.hid (qrow_below HR5.out hb)
  clear h hb HR5 HC5
  have hTE := HTE.out
  go_wp2_with fail
  clear hTE
  refine (askSame_any A A 4 4 c c kl kl u6 k9_len k9_len HR6.out HR6.out (by decide) (qfew_ok k9_all) (qfew_ok k9_all)).mono ?_
  rintro _ u7 ⟨rfl, hb⟩
  rw [decide_eq_true (rfl : kl = kl)]
  have HC7 := Lib.hid (HC6.out.trans (hb.mono HC6.out.size))
  have HR7 := Lib.hid (qrow_below HR6.out hb)
  clear hb HR6 HC6
  go_wp2_with fail
  refine (askSame_any A none 4 0 c 0 kl [] u7 k9_len rfl HR7.out (qrow_nil _) (by decide) (qfew_ok k9_all) (fun a ha => absurd ha (by simp))).mono ?_
  rintro _ u8 ⟨rfl, hb⟩
  rw [k9_ne]
  have HC8 := Lib.hid (HC7.out.trans (hb.mono HC7.out.size))
  clear hb HR7 HC7
  go_wp2_with fail
  refine (askCheck_any 0 [] none 0 0 [] u8 (qok_below HW.out HC8.out).1 (by decide) rfl (srow_zero _) (by decide)).mono ?_
  rintro _ u9 ⟨rfl, hb⟩
  rw [k9_c0]
  have HC9 := Lib.hid (HC8.out.trans (hb.mono HC8.out.size))
  clear hb HC8
  go_wp2_with fail
  go_ret
  exact ⟨rfl, HC9.out⟩
end Go.Proofs.YtkdildgdodnbbaaGreatDoor

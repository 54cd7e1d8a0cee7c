/- An atom that came in: its name, its row of Spans. -/
import Derived.Test.YtkdildgdodnbbaaGreatDoorRows
import Derived.Test.YtkdildgdodnbbaaGreatDoorQi
import Derived.Test.YtkdildgdodnbbaaGreatDoorNa
import Derived.ChangeSame
namespace Go.Proofs.YtkdildgdodnbbaaGreatDoor
open Go.RowKit Go.ChangeShapes Go.WideShapes Go.Joins Rs
theorem open_spansC {H : Type} {enc : TypeId × Value → H} {P : Program} {W : World} {t e ts tb : TypeId} {n0 n1 n2 n3 : Field} {fuel : Nat} {cs : List Value} {x : DataW H × List MemPlace}
    (ht : P.underlying t = some (.slice e)) (he : P.underlying e = some (.struct #[n0, n1, n2, n3])) (h0 : n0.type = ts ∧ n0.offset = 0) (h1 : n1.type = ts ∧ n1.offset = 1) (h2 : n2.type = tb ∧ n2.offset = 2) (h3 : n3.type = tb ∧ n3.offset = 3)
    (hs : P.underlying ts = some .string) (hb : P.underlying tb = some .bool) (cts : P.cellsOf ts = 1) (cb : P.cellsOf tb = 1) (ce : P.cellsOf e = 4)
    (h : DataW.trod enc P W 0 (fun _ => true) true fuel t cs = some x) :
    ∃ (A : Option Addr) (c : Nat) (l : List Sp), cs = [.slice A l.length c] ∧ SRow W A l ∧ l.length ≤ maxLen ∧ ∀ s ∈ l, s.lo.length ≤ maxLen ∧ s.hi.length ≤ maxLen := by
  rcases Go.Deep.open_slice ht h with ⟨hcs, _⟩ | ⟨a, len, cap, m, n, D, Pl, hcs, _, hl, hmx, hmm, _, hi⟩
  · exact ⟨none, 0, [], hcs, fun h => absurd h (by simp), by simp, by simp⟩
  · simp only [if_true] at hmm
    have each : ∀ i, i < len → ∃ s : Sp, SpAt W (a.add (i * 4)) s ∧ s.lo.length ≤ maxLen ∧ s.hi.length ≤ maxLen := fun i hil => by
      obtain ⟨cs', hc, ht'⟩ := hi i (by omega)
      rw [ce] at hc
      obtain ⟨y0, y1, y2, y3, m', _, hcl, g0, g1, g2, g3⟩ := trod_struct4 he ht'
      rw [ce] at hcl
      rw [h0.1, h0.2, cts, one_of hcl (by omega)] at g0
      rw [h1.1, h1.2, cts, one_of hcl (by omega)] at g1
      rw [h2.1, h2.2, cb, one_of hcl (by omega)] at g2
      rw [h3.1, h3.2, cb, one_of hcl (by omega)] at g3
      obtain ⟨s0, e0, _, m0⟩ := DataW.trod_string hs g0
      obtain ⟨s1, e1, _, m1⟩ := DataW.trod_string hs g1
      obtain ⟨b2, e2, _⟩ := DataW.trod_bool hb g2
      obtain ⟨b3, e3, _⟩ := DataW.trod_bool hb g3
      obtain ⟨_, hcl2, hat⟩ := World.cells?_some hc
      refine ⟨⟨s0.data.toList, s1.data.toList, b2, b3⟩, ⟨?_, ?_, ?_, ?_⟩, ?_, ?_⟩
      · exact (hat 0 (by omega)).trans ((List.getElem?_eq_getElem (by omega)).trans (congrArg some (List.cons.inj e0).1))
      · exact (hat 1 (by omega)).trans ((List.getElem?_eq_getElem (by omega)).trans (congrArg some (List.cons.inj e1).1))
      · exact (hat 2 (by omega)).trans ((List.getElem?_eq_getElem (by omega)).trans (congrArg some (List.cons.inj e2).1))
      · exact (hat 3 (by omega)).trans ((List.getElem?_eq_getElem (by omega)).trans (congrArg some (List.cons.inj e3).1))
      · show s0.data.toList.length ≤ maxLen
        rw [Array.length_toList]; exact m0
      · show s1.data.toList.length ≤ maxLen
        rw [Array.length_toList]; exact m1
    obtain ⟨f, hf2⟩ := Go.Deep.choose_lt each
    have hlen : ((List.range len).map f).length = len := by simp
    refine ⟨some a, cap, (List.range len).map f, by rw [hlen]; exact hcs, fun h => ?_, by rw [hlen]; omega, fun s hs => ?_⟩
    · rw [hlen] at h
      refine ⟨a, rfl, ?_, fun i hi2 => ?_⟩
      · have := cell_in (hf2 0 h).1.1
        rwa [add_block, add_block] at this
      · rw [hlen] at hi2
        have := (hf2 i hi2).1
        simpa using this
    · obtain ⟨i, hi2, rfl⟩ := List.mem_map.1 hs
      exact (hf2 i (List.mem_range.1 hi2)).2
theorem open_atom {H : Type} {enc : TypeId × Value → H} {P : Program} {W : World} {b0 : Nat} {ta t e ts tb : TypeId} {f0 f1 n0 n1 n2 n3 : Field} {v : Value} {d : DataW H} {ps : List MemPlace}
    (hat : P.underlying ta = some (.struct #[f0, f1])) (hf0 : f0.type = ts ∧ f0.offset = 0) (hf1 : f1.type = t ∧ f1.offset = 1) (cta : P.cellsOf ta = 2) (ct : P.cellsOf t = 1)
    (ht : P.underlying t = some (.slice e)) (he : P.underlying e = some (.struct #[n0, n1, n2, n3])) (h0 : n0.type = ts ∧ n0.offset = 0) (h1 : n1.type = ts ∧ n1.offset = 1) (h2 : n2.type = tb ∧ n2.offset = 2) (h3 : n3.type = tb ∧ n3.offset = 3)
    (hs : P.underlying ts = some .string) (hb : P.underlying tb = some .bool) (cts : P.cellsOf ts = 1) (cb : P.cellsOf tb = 1) (ce : P.cellsOf e = 4)
    (hval : Value.okWide P W .any b0 ta v) (h : DataW.Trod enc P W 0 (fun _ => true) true ta v d ps) :
    ∃ (s : ByteArray) (A : Option Addr) (c : Nat) (l : List Sp), v = .agg #[.string s, .slice A l.length c] ∧ s.data.toList.length ≤ maxLen ∧ SRow W A l ∧ l.length ≤ maxLen ∧ ∀ s ∈ l, s.lo.length ≤ maxLen ∧ s.hi.length ≤ maxLen := by
  obtain ⟨cs, rfl, hsz⟩ := okWide_struct hat hval
  obtain ⟨fuel, hf⟩ := h
  rw [cta] at hsz
  obtain ⟨c0, c1, rfl⟩ : ∃ c0 c1, cs = #[c0, c1] := by
    obtain ⟨l⟩ := cs
    match l, hsz with
    | [a, b], _ => exact ⟨a, b, rfl⟩
  obtain ⟨y0, y1, n, _, _, g0, g1⟩ := trod_struct2 hat hf
  rw [hf0.1, hf0.2, cts] at g0
  rw [hf1.1, hf1.2, ct] at g1
  obtain ⟨s, e0, _, m0⟩ := DataW.trod_string hs g0
  obtain ⟨A, c, l, e1, hr, hm, hw⟩ := open_spansC ht he h0 h1 h2 h3 hs hb cts cb ce g1
  have q0 : c0 = .string s := by simpa [Value.cells] using e0
  have q1 : c1 = .slice A l.length c := by simpa [Value.cells] using e1
  exact ⟨s, A, c, l, by rw [q0, q1], by rw [Array.length_toList]; exact m0, hr, hm, hw⟩
end Go.Proofs.YtkdildgdodnbbaaGreatDoor

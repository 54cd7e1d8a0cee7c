/- Norm: walked. -/
import Derived.Test.YtoioeekfnnoaoaaGreatDoorEyb
import Derived.Test.YtoioeekfnnoaoaaGreatDoorEl
namespace Go.Proofs.YtoioeekfnnoaoaaGreatDoor.Cl
open Go.RowKit Up
/-- Side by side in a row in order: the same variable, or another. -/
theorem side_same {l : List Int} (hs : Srt l) {i : Nat} (h : i + 1 < l.length) (e : l[i].natAbs = l[i + 1].natAbs) : l[i + 1] = -l[i] := by
  have := List.pairwise_iff_getElem.1 hs i (i + 1) (by omega) h (by omega)
  unfold Ahead at this
  omega
/-- A literal's variable, as a number of its own. -/
def vrI (x : Int) : Int := x.natAbs
attribute [local go_sem ↓] Go.wp_at_zero Go.wp_at_succ
set_option maxRecDepth 100000 in
set_option maxHeartbeats 3200000 in
theorem norm_any (A : Option Addr) (m c : Nat) (l : List Int) (w : World) (hm : l.length = m) (hr : IRow w A l) (h1 : m ≤ 1000) (h2 : ∀ x ∈ l, x ≠ 0 ∧ x.natAbs ≤ 100000) :
    Calls Tryz.prog 25 #[.slice A m c] w (NormP w l) := by
  have HR := Lib.hid hr
  have HM := Lib.hid hm
  have H2 := Lib.hid h2
  have HSL : Hid (([] : List Int).length + l.length ≤ 1000000) := by show 0 + _ ≤ _; omega
  have HNIL : Hid (Rg.Own encI 1 w w.heap.size 3 (.slice none 0 0) ([] : List Int)) := Rg.own_nil _ _ _
  have HFIN : Hid (∀ (D : Option Addr) (cap : Nat) (out : List Int) (ok : Bool) (u : World), IsNorm l out ok → IRow u D out → Below w.heap.size w u → out.length ≤ l.length → NormP w l (.returned (.tuple #[.slice D out.length cap, .bool ok])) u) := fun D cap out ok u a b d e => ⟨D, cap, out, ok, rfl, a, b, d, e⟩
  clear hr hm h2
  go_enter Tryz.func25, Tryz.ntmps25
  go_wp2_with (at_builtin; refine Rg.wpList_appS sliceC rfl (.const (.slice none 0 0)) (.tmp 6) rfl w.heap.size _ [] l rfl HNIL.out A m c HM.out rfl HR.out HSL.out (Nat.le_refl _) ?_)
  intro v1 w1 ho1 hg1 hz1
  have hb1 : Below w.heap.size w w1 := (Below.refl _ _).grown hg1 (Nat.le_refl _) (fun k hk => by cases hk)
  have HB1 := Lib.hid hb1
  obtain ⟨D, cap, rfl, hrow1, hcap, _⟩ := Rg.row_own fitsI ho1
  have HO1 := Lib.hid (orow_own ho1)
  rw [HM.out] at hcap ⊢
  have HCAP := Lib.hid hcap
  have HSZ1 : Hid (w.heap.size ≤ w1.heap.size) := hz1
  have HS := Lib.hid (sort_any (B := w.heap.size) D m cap l w1 HM.out h1 (fun x hx => (H2.out x hx).2) HO1.out)
  clear ho1 hg1 hz1 hb1 hrow1 hcap HNIL
  go_wp2_with fail
  refine HS.out.mono ?_
  rintro _ w2 ⟨rfl, l', hp, hso, ho2, hb2⟩
  have HB2 : Hid (Below w.heap.size w w2) := HB1.out.trans hb2
  have HSZ2 : Hid (w.heap.size ≤ w2.heap.size) := Nat.le_trans HSZ1.out hb2.size
  have hlen : l'.length = m := hp.length_eq.trans HM.out
  obtain ⟨hsrt, hmem⟩ := compact_srt hso
  have HC := Lib.hid (compact_any (B := w.heap.size) D m cap l' w2 hlen h1 HCAP.out ho2)
  have hle := Lib.compact_length_le l'
  obtain ⟨out, hout⟩ : ∃ out, Lib.compact l' = out := ⟨_, rfl⟩
  rw [hout] at HC hsrt hmem hle
  have HSRT := Lib.hid hsrt
  have HMEM : Hid (∀ x, x ∈ out ↔ x ∈ l) := fun x => (hmem x).trans hp.mem_iff
  have HLE : Hid (out.length ≤ l.length) := by show _ ≤ _; rw [HM.out, ← hlen]; exact hle
  clear hp hso ho2 hb2 hlen hsrt hmem hle hout HS
  go_wp2_with fail
  refine HC.out.mono ?_
  rintro _ w3 ⟨rfl, ho3, hb3⟩
  have HB3 : Hid (Below w.heap.size w w3) := HB2.out.trans hb3
  have HRO := Lib.hid (orow_row ho3)
  obtain ⟨q, hq⟩ : ∃ q, out.length = q := ⟨_, rfl⟩
  have HQ := Lib.hid hq
  have hq1 : q ≤ 1000 := by have := HLE.out; have := HM.out; omega
  rw [hq]
  clear ho3 hb3 HC hq
  go_wp2_with fail
  go_loopw [5] (fun i wr => ∃ k : Nat, 1 ≤ k ∧ (k ≤ q ∨ k = 1) ∧ i = .int .i64 k ∧ Hid (∀ j (h : j + 1 < out.length), j + 1 < k → out[j + 1] ≠ -out[j]) ∧ Hid (Below w3.heap.size w3 wr)) (fun i _ => q + 1 - (intOf i).toNat)
  case atStart => exact ⟨1, Nat.le_refl _, .inr rfl, rfl, (fun j _ h => absurd h (by omega)), Below.refl _ _⟩
  case round =>
    obtain ⟨k, hk1, hk2, rfl, HN, HB⟩ := hrel
    by_cases hlt : k < q
    · have d : decide ((k : Int) < (q : Int)) = true := decide_eq_true (by omega)
      obtain ⟨p, rfl⟩ : ∃ p, k = p + 1 := ⟨k - 1, by omega⟩
      have hp1 : p + 1 < out.length := by rw [HQ.out]; exact hlt
      have hp0 : p < out.length := by omega
      obtain ⟨ad, x, rfl, hx, hs, hc⟩ := irow_at (irow_below HRO.out HB.out) p hp0
      obtain ⟨ae, y, had, hy, ht, he⟩ := irow_at (irow_below HRO.out HB.out) (p + 1) hp1
      obtain rfl := Option.some.inj had
      have he2 : wr.cell? ⟨ad.block, ad.off + (p + 1), none⟩ = some (.int .i64 y) := by
        rw [← he]; congr 1
      have hxm : x ∈ l := (HMEM.out x).1 (by rw [← hx]; exact List.getElem_mem _)
      have hym : y ∈ l := (HMEM.out y).1 (by rw [← hy]; exact List.getElem_mem _)
      have hxi : In64 x := by have := (H2.out x hxm).2; unfold In64; omega
      have hyi : In64 y := by have := (H2.out y hym).2; unfold In64; omega
      have HXI := Lib.hid hxi
      have HYI := Lib.hid hyi
      have HVV : Hid (∀ (t : Int) (ht : In64 t) (u : World), Calls Tryz.prog 56 #[.int .i64 t] u fun e w' => e = .returned (.int .u64 (vrI t)) ∧ u = w') := fun t ht u => variable_any t ht u
      have hsame : x.natAbs = y.natAbs → IsNorm l [] false := fun e => srt_bad HMEM.out hp1 (side_same HSRT.out hp1 (by rw [hx, hy]; exact e))
      have hdiff : x.natAbs ≠ y.natAbs → ∀ j (h : j + 1 < out.length), j + 1 < p + 1 + 1 → out[j + 1] ≠ -out[j] := fun e j h hj => by
        by_cases hjp : j = p
        · subst hjp
          rw [hx, hy]; intro h3; exact e (by rw [h3]; omega)
        · exact HN.out j h (by omega)
      have w1p : IntKind.i64.wrap (((p + 1 : Nat) : Int) - 1) = (p : Int) := (IntWalk.i64_in _ (by omega)).trans (by omega)
      have w1q : ((p + 1 : Nat) : Int) - 1 = (p : Int) := by omega
      have w1r : IntKind.i64.wrap (p : Int) = (p : Int) := IntWalk.i64_in _ (by omega)
      have p0 : (0 : Int) ≤ (p : Int) := by omega
      have p4 : (0 : Int) ≤ (p : Int) + 1 := by omega
      have p5 : (p : Int) + 1 < (q : Int) := by omega
      have p1 : (p : Int) < (q : Int) := by omega
      have p2 : (0 : Int) ≤ ((p + 1 : Nat) : Int) := by omega
      have p3 : ((p + 1 : Nat) : Int) < (q : Int) := by omega
      have HSA := Lib.hid hsame
      have HDI := Lib.hid hdiff
      clear hx hy hs ht hxm hym hxi hyi hsame hdiff had
      by_cases hab : x.natAbs = y.natAbs
      · have dd : (vrI x == vrI y) = true := by unfold vrI; rw [hab]; exact beq_self_eq_true _
        have HSB := Lib.hid (HSA.out hab)
        clear HSA HDI hab
        go_wp2_with fail
        go_quiet (first | (refine (HVV.out _ (by first | exact HXI.out | exact HYI.out) _).mono ?_; rintro _ z ⟨rfl, rfl⟩; exact ⟨rfl, _, rfl⟩) | fail)
        go_wp2_with fail
        go_ret2
        exact HFIN.out none 0 [] false _ HSB.out (irow_nil _ _) (below_drewN (HB3.out.trans (HB.out.mono HB3.out.size)) _) (Nat.zero_le _)
      · have dd : (vrI x == vrI y) = false := by unfold vrI; rw [beq_eq_false_iff_ne]; omega
        have HD2 := Lib.hid (HDI.out hab)
        clear HSA HDI hab
        go_wp2_with fail
        go_quiet (first | (refine (HVV.out _ (by first | exact HXI.out | exact HYI.out) _).mono ?_; rintro _ z ⟨rfl, rfl⟩; exact ⟨rfl, _, rfl⟩) | fail)
        go_wp2_with fail
        go_roundw
        case rel => exact ⟨p + 1 + 1, by omega, .inl (by omega), by go_num, HD2.out, below_drewN HB.out _⟩
        case measure => simp [intOf]; omega
    · have d : decide ((k : Int) < (q : Int)) = false := decide_eq_false (by omega)
      have hdone : IsNorm l out true := srt_done HSRT.out HMEM.out (fun h0 => (H2.out 0 h0).1 rfl) fun j h => HN.out j h (by have := HQ.out; omega)
      have HF := Lib.hid (HFIN.out D cap out true wr hdone (irow_below HRO.out HB.out) (HB3.out.trans (HB.out.mono HB3.out.size)) HLE.out)
      rw [HQ.out] at HF
      clear hdone
      go_wp2_with fail
      go_ret2
      exact HF.out
theorem normC_any (Q : World → Prop) : NormC Q := fun A m c l w hm hr h1 h2 _ => norm_any A m c l w hm hr h1 h2
end Go.Proofs.YtoioeekfnnoaoaaGreatDoor.Cl

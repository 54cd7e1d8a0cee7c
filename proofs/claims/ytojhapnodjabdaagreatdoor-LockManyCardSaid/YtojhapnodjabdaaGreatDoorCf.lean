/- Entries in memory; what is asked of an entry, of a list of them: walked. -/
import Derived.Test.YtojhapnodjabdaaGreatDoorCd
namespace Go.Proofs.YtojhapnodjabdaaGreatDoor.Lk
open Go.RowKit At
/-- An entry as it lies in two cells. -/
def encE (e : Ent) : List Value := [.string ⟨e.1.toArray⟩, .string ⟨e.2.toArray⟩]
theorem fitsE : Rg.Fits encE 2 := ⟨fun _ => rfl, fun x u hu => by
  simp only [encE, List.mem_cons, List.not_mem_nil, or_false] at hu
  rcases hu with rfl | rfl <;> rfl⟩
theorem sliceE : Rg.SliceT Tryz.prog encE 2 26 59 := ⟨fitsE, by decide, by kernel_rfl, Rg.info_of (z := .agg #[.string ByteArray.empty, .string ByteArray.empty]) (b := 32) (by kernel_rfl) (by rfl) (by decide)⟩
theorem sliceR : Rg.SliceT Tryz.prog encE 2 22 61 := ⟨fitsE, by decide, by kernel_rfl, Rg.info_of (z := .agg #[.string ByteArray.empty, .string ByteArray.empty]) (b := 32) (by kernel_rfl) (by rfl) (by decide)⟩
abbrev ERow (w : World) (A : Option Addr) (l : List Ent) : Prop := Rg.Row encE 2 w A l
theorem erow_at {w : World} {A : Option Addr} {l : List Ent} (h : ERow w A l) (k : Nat) (hk : k < l.length) : ∃ ad, A = some ad ∧ ∀ u, Below w.heap.size w u → u.cell? (ad.add (k * 2)) = some (.string ⟨l[k].1.toArray⟩) ∧ u.cell? ⟨(ad.add (k * 2)).block, (ad.add (k * 2)).off + 1, none⟩ = some (.string ⟨l[k].2.toArray⟩) := by
  obtain ⟨ad, e, _, _⟩ := h (by omega)
  refine ⟨ad, e, fun u hb => ?_⟩
  obtain ⟨ad', x, e', hx, _, hc⟩ := Rg.row_at (Rg.row_below h hb) k hk
  rw [e] at e'; cases e'
  subst hx
  exact ⟨hc 0 _ rfl, hc 1 _ rfl⟩
/-- How a function leaves that asks something of entry i. -/
def okAt (i : Nat) (k : Int) : Ending := if k = 0 then .returned (.tuple #[]) else panAt i k
theorem okAt_zero (i : Nat) : okAt i 0 = .returned (.tuple #[]) := rfl
theorem okAt_ne {i : Nat} {k : Int} (h : k ≠ 0) : okAt i k = panAt i k := if_neg h
def EFew (l : List Ent) : Prop := ∀ e ∈ l, e.1.length ≤ maxLen ∧ e.2.length ≤ maxLen
theorem efew_at {l : List Ent} (h : EFew l) (k : Nat) (hk : k < l.length) : l[k].1.length ≤ maxLen ∧ l[k].2.length ≤ maxLen := h _ (List.getElem_mem hk)
theorem first_at {l : List Ent} {j k : Nat} {R : Nat × Int} (hk : k < l.length) (h : firstE (errAt l) (j + 1) k = R) :
    (entE l[k] ≠ 0 → R = (k, entE l[k])) ∧ (entE l[k] = 0 → k = 0 → firstE (errAt l) j (k + 1) = R) ∧
    (entE l[k] = 0 → ∀ (p : Nat) (hp : p < l.length), p + 1 = k → (l[p].1 = l[k].1 → R = (k, 6)) ∧ (l[p].1 ≠ l[k].1 → lessB l[p].1 l[k].1 = true → firstE (errAt l) j (k + 1) = R) ∧ (l[p].1 ≠ l[k].1 → lessB l[p].1 l[k].1 = false → R = (k, 7))) := by
  unfold firstE at h
  have e : errAt l k = if k = 0 then entE l[k] else nextE (l.getD (k - 1) ([], [])) l[k] := by
    unfold errAt; rw [List.getElem?_eq_getElem hk]
  rw [e] at h
  refine ⟨fun h1 => ?_, fun h1 h2 => ?_, fun h1 p hp hpk => ?_⟩
  · have e2 : (if k = 0 then entE l[k] else nextE (l.getD (k - 1) ([], [])) l[k]) = entE l[k] := by
      split
      · rfl
      · unfold nextE; rw [if_neg h1]
    rw [e2, if_neg h1] at h
    exact h.symm
  · rw [if_pos h2, if_pos h1] at h
    exact h
  · have e3 : l.getD (k - 1) ([], []) = l[p] := by
      rw [← hpk, Nat.add_sub_cancel, List.getD_eq_getElem?_getD, List.getElem?_eq_getElem hp]; rfl
    rw [if_neg (show ¬ k = 0 by omega), e3] at h
    unfold nextE at h
    rw [if_pos h1] at h
    refine ⟨fun h2 => ?_, fun h2 h3 => ?_, fun h2 h3 => ?_⟩
    · rw [if_pos h2, if_neg (by decide)] at h; exact h.symm
    · rw [if_neg h2, if_pos h3, if_pos rfl] at h; exact h
    · rw [if_neg h2, h3, if_neg (by decide), if_neg (by decide)] at h; exact h.symm
end Go.Proofs.YtojhapnodjabdaaGreatDoor.Lk
namespace Go.Proofs.YtojhapnodjabdaaGreatDoor
open Go.RowKit At Lk
attribute [local go_sem ↓] Go.wp_at_zero Go.wp_at_succ
set_option maxHeartbeats 800000 in
theorem requireEntry_any (nm v : List UInt8) (i : Nat) (w : World) (hw : MaxOk w) (hm : nm.length ≤ maxLen) :
    Calls Tryz.prog 44 #[.agg #[.string ⟨nm.toArray⟩, .string ⟨v.toArray⟩], .int .i64 i] w fun e w' => e = okAt i (entE (nm, v)) ∧ Below w.heap.size w w' := by
  obtain ⟨R, hR⟩ : ∃ R, entE (nm, v) = R := ⟨_, rfl⟩
  rw [hR]
  unfold entE verE at hR
  dsimp only at hR
  obtain ⟨W1, hW1⟩ : ∃ W, w.alloc (.cells #[.string ⟨nm.toArray⟩, .string ⟨v.toArray⟩] 59) = W := ⟨_, rfl⟩
  have HB1 : Hid (Below w.heap.size w W1) := alloc_low hW1
  have HW1 := Lib.hid hW1
  have c0 := (cell_two hW1 (Below.refl _ _)).1
  have c1 := (cell_two hW1 (Below.refl _ _)).2.1
  have HN := Lib.hid (nameA_any nm W1 hm)
  have HC := Lib.hid (canon_any v W1 (maxOk_below hw HB1.out))
  obtain ⟨x, hx⟩ : ∃ x, canonOf v = x := ⟨_, rfl⟩
  obtain ⟨k, hk⟩ : ∃ k, Vm.check v = k := ⟨_, rfl⟩
  rw [hx, hk] at HC
  rw [hk] at hR
  have HX : Hid (k = 0 → Vm.canon v = x) := fun h => by rw [← hx]; unfold canonOf; rw [if_pos (hk.trans h)]
  clear hx hk hw hm
  cases hnb : nameB nm
  · rw [hnb] at hR HN
    rw [if_neg (by decide)] at hR
    subst hR
    clear hnb HC
    go_enter Tryz.func44, Tryz.ntmps44
    go_wp2_with fail
    clear hW1 c0 c1
    refine HN.out.mono ?_
    rintro _ z ⟨rfl, rfl⟩
    go_wp2_with fail
    refine (requireAt_no _).mono ?_
    rintro _ z ⟨rfl, rfl⟩
    go_wp2_with fail
    exact ⟨rfl, rfl, HB1.out⟩
  rw [hnb] at hR HN
  rw [if_pos rfl] at hR
  clear hnb
  by_cases h0 : k = 0
  · subst h0
    rw [if_pos rfl, HX.out rfl] at hR
    have hne : ∀ b : Bool, (x == v) = b → R = if b then 0 else 5 := fun b hb => by
      rw [← hR]
      cases b
      · rw [if_neg (by simpa using hb)]; rfl
      · rw [if_pos (by simpa using hb)]; rfl
    have HNE := Lib.hid hne
    clear hne hR HX
    go_enter Tryz.func44, Tryz.ntmps44
    go_wp2_with fail
    clear hW1
    refine HN.out.mono ?_
    rintro _ z ⟨rfl, rfl⟩
    go_wp2_with fail
    refine (requireAt_yes _).mono ?_
    rintro _ z ⟨rfl, rfl⟩
    go_wp2_with fail
    refine HC.out.mono ?_
    rintro _ u ⟨rfl, hb⟩
    clear c0 c1
    have HB : Hid (Below w.heap.size w u) := HB1.out.trans (hb.mono HB1.out.size)
    have c1 := (cell_two HW1.out hb).2.1
    clear hb
    go_wp2_with fail
    refine (requireAt_yes _).mono ?_
    rintro _ z ⟨rfl, rfl⟩
    cases e : x == v
    · have HR := Lib.hid (HNE.out _ e)
      go_wp2_with fail
      refine (requireAt_no _).mono ?_
      rintro _ z ⟨rfl, rfl⟩
      go_wp2_with fail
      exact ⟨rfl, by rw [HR.out]; rfl, HB.out⟩
    · have HR := Lib.hid (HNE.out _ e)
      go_wp2_with fail
      refine (requireAt_yes _).mono ?_
      rintro _ z ⟨rfl, rfl⟩
      go_wp2_with fail
      go_end0
      exact ⟨by rw [HR.out]; rfl, HB.out⟩
  · rw [if_neg h0] at hR
    subst hR
    have HK : Hid (okAt i k = panAt i k) := okAt_ne h0
    have d : (k == 0) = false := beq_eq_false_iff_ne.2 h0
    clear h0 HX
    go_enter Tryz.func44, Tryz.ntmps44
    go_wp2_with fail
    clear hW1
    refine HN.out.mono ?_
    rintro _ z ⟨rfl, rfl⟩
    go_wp2_with fail
    refine (requireAt_yes _).mono ?_
    rintro _ z ⟨rfl, rfl⟩
    go_wp2_with fail
    refine HC.out.mono ?_
    rintro _ u ⟨rfl, hb⟩
    have HB : Hid (Below w.heap.size w u) := HB1.out.trans (hb.mono HB1.out.size)
    clear hb c0 c1
    go_wp2_with fail
    refine (requireAt_no _).mono ?_
    rintro _ z ⟨rfl, rfl⟩
    go_wp2_with fail
    exact ⟨rfl, by rw [HK.out], HB.out⟩
end Go.Proofs.YtojhapnodjabdaaGreatDoor

/- A map from keys to their first places, of one's own: made, looked at, added to. -/
import Derived.Test.YtmhobdlhmkbkdaaDoorSm
import Derived.Test.YtmhobdlhmkbkdaaDoorSf
namespace Go.Proofs.YtmhobdlhmkbkdaaDoor.Sz
open Go.RowKit Go.Maps
theorem zeroI (w : World) : (zeroValue 3).run Tryd.prog w = .ok (.int .i64 0) w := by kernel_rfl
def KMap (w : World) (b : Nat) (ks : List (List UInt8)) : Prop := ∃ (n : Nat) (D : DataW Unit), w.ownsMap Tryd.prog 9 (plainElem Tryd.prog 3) b n D ∧ n ≤ ks.length ∧ ∀ k : List UInt8, k.length ≤ 140737488355328 → Maps.has D (.string k) = (placeOf ks k).isSome ∧ ∀ p : Nat, placeOf ks k = some p → D.atKey (.string k) (.lit (.int .i64 0)) = .lit (.int .i64 p)
theorem place_snoc (ks : List (List UInt8)) (x k : List UInt8) : placeOf (ks ++ [x]) k = match placeOf ks k with | some p => some p | none => if x = k then some ks.length else none := by
  unfold placeOf
  rw [List.findIdx?_append]
  cases h : ks.findIdx? (· == k) with
  | some p => simp
  | none => by_cases e : x = k <;> simp [e, List.findIdx?_cons]
theorem place_lt {ks : List (List UInt8)} {k : List UInt8} {p : Nat} (h : placeOf ks k = some p) : p < ks.length := by
  unfold placeOf at h
  obtain ⟨h1, _⟩ := List.findIdx?_eq_some_iff_getElem.1 h
  exact h1
theorem kmap_made (w : World) : KMap (w.alloc (.map #[] 0)) w.heap.size [] := ⟨0, _, World.ownsMap_made w _ _ _, Nat.le_refl _, fun _k _ => ⟨rfl, fun p h => by cases h⟩⟩
theorem kmap_look {w : World} {b : Nat} {ks : List (List UInt8)} (h : KMap w b ks) {k : List UInt8} (hk : k.length ≤ 140737488355328) :
    (Instr.lookup 85 (.map (some b)) (.string ⟨k.toArray⟩) true).run Tryd.prog w = .ok (.tuple #[.int .i64 ((placeOf ks k).getD 0 : Nat), .bool (placeOf ks k).isSome]) w := by
  obtain ⟨n, D, hown, _, hh⟩ := h
  obtain ⟨v, ps, hrun, hv⟩ := hown.look_ok keyLaw Tryd.underlying85 (zeroI w) (plainElem_int Tryd.underlying3 (by decide)) (keyOf_txt hk)
  obtain ⟨c, rfl, hc, _⟩ := plainElem_int_inv Tryd.underlying3 hv
  obtain ⟨h1, h2⟩ := hh k hk
  have hc1 : D.atKey (.string k) (.lit (.int .i64 0)) = .lit (.int .i64 c) := congrArg Prod.fst hc
  rw [hrun, h1]
  cases hp : placeOf ks k with
  | some p =>
    rw [h2 p hp] at hc1
    have e := (Lit.int.inj (DataW.lit.inj hc1)).2
    rw [← e]; rfl
  | none =>
    rw [hp] at h1
    rw [Maps.atKey_of_not_has h1] at hc1
    have e := (Lit.int.inj (DataW.lit.inj hc1)).2
    rw [← e]; rfl
theorem kmap_put {w : World} {b : Nat} {ks : List (List UInt8)} (h : KMap w b ks) {k : List UInt8} (hk : k.length ≤ 140737488355328) (hl : ks.length ≤ 1000000) (hn : placeOf ks k = none) :
    ∃ w', (Instr.mapUpdate 85 (.map (some b)) (.string ⟨k.toArray⟩) (.int .i64 ks.length)).run Tryd.prog w = .ok () w' ∧ KMap w' b (ks ++ [k]) ∧ w.mapTurned w' b := by
  obtain ⟨n, D, hown, hn2, hh⟩ := h
  obtain ⟨w', hrun, hown', ht⟩ := hown.store keyLaw Tryd.underlying85 (by unfold maxLen; omega) (keyOf_txt hk) (val := .int .i64 ks.length) (plainElem_int Tryd.underlying3 (by
    have h1 : IntKind.i64.min = -9223372036854775808 := rfl
    have h2 : IntKind.i64.max = 9223372036854775807 := rfl
    unfold Lit.wf
    rw [Bool.and_eq_true, decide_eq_true_eq, decide_eq_true_eq, h1, h2]; omega))
  refine ⟨w', hrun, ⟨n + 1, _, hown', by rw [List.length_append]; simp; omega, fun x hx => ?_⟩, ht⟩
  rw [place_snoc]
  by_cases e : x = k
  · subst e
    rw [Maps.has_put_same hown.isMap (by trivial), hn, if_pos rfl]
    refine ⟨rfl, fun p hp => ?_⟩
    rw [Maps.atKey_put_same hown.isMap (by trivial), Option.some.inj hp]
  · rw [Maps.has_put_other (by intro h; exact e (Lit.string.inj h)), (hh x hx).1]
    have ek : ¬ k = x := fun h => e h.symm
    rw [if_neg ek]
    refine ⟨by cases placeOf ks x <;> rfl, fun p hp => ?_⟩
    rw [Maps.atKey_put_other (by intro h; exact e (Lit.string.inj h))]
    refine (hh x hx).2 p ?_
    cases hq : placeOf ks x with
    | none => rw [hq] at hp; exact hp
    | some q => rw [hq] at hp; exact hp
theorem kmap_skip {w : World} {b : Nat} {ks : List (List UInt8)} (h : KMap w b ks) {k : List UInt8} {q : Nat} (hn : placeOf ks k = some q) : KMap w b (ks ++ [k]) := by
  obtain ⟨n, D, hown, hn2, hh⟩ := h
  refine ⟨n, D, hown, by rw [List.length_append]; simp; omega, fun x hx => ?_⟩
  obtain ⟨h1, h2⟩ := hh x hx
  rw [place_snoc, h1]
  cases hp : placeOf ks x with
  | some p => exact ⟨rfl, fun p' hp' => h2 p' (by rw [hp]; exact hp')⟩
  | none =>
    have ek : ¬ k = x := fun e => by subst e; rw [hn] at hp; cases hp
    dsimp only
    rw [if_neg ek]
    exact ⟨rfl, fun p' hp' => by cases hp'⟩
theorem kmap_below {w w' : World} {b B : Nat} {ks : List (List UInt8)} (h : KMap w b ks) (hb : Below B w w') (hlt : b < B) : KMap w' b ks := by
  obtain ⟨n, D, ⟨es, clock, hh, r⟩, h2⟩ := h
  exact ⟨n, D, ⟨es, clock, (hb.block b hlt).trans hh, r⟩, h2⟩
theorem kmap_kept {w w' : World} {b : Nat} {ks : List (List UInt8)} (h : KMap w b ks) (hb : w'.heap[b]? = w.heap[b]?) : KMap w' b ks := by
  obtain ⟨n, D, ⟨es, clock, hh, r⟩, h2⟩ := h
  exact ⟨n, D, ⟨es, clock, hb.trans hh, r⟩, h2⟩
end Go.Proofs.YtmhobdlhmkbkdaaDoor.Sz

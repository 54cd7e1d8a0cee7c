/- The reader's own memory: stanzas that have ended, the last one, the set of its keys. -/
import Derived.Test.YtmhobdlhmkbkdaaDoorSe
import Derived.Maps.Own
import Derived.Maps.OwnSet
namespace Go.Proofs.YtmhobdlhmkbkdaaDoor.Sz
open Go.RowKit Go.Maps
attribute [local go_sem ↓] Go.wp_at_zero Go.wp_at_succ

def encF (f : Fld) : List Value := [.string ⟨f.key.toArray⟩, .string ⟨f.val.toArray⟩, .int .i64 f.line]
theorem fitsF : Rg.Fits encF 3 := ⟨fun _ => rfl, fun x u hu => by
  simp only [encF, List.mem_cons, List.not_mem_nil, or_false] at hu
  rcases hu with rfl | rfl | rfl <;> rfl⟩
theorem sliceF : Rg.SliceT Tryd.prog encF 3 38 43 := ⟨fitsF, by decide, by kernel_rfl, Rg.info_of (z := .agg #[.string ByteArray.empty, .string ByteArray.empty, .int .i64 0]) (b := 40) (by kernel_rfl) (by rfl) (by decide)⟩
theorem sliceE : Rg.SliceT Tryd.prog encO 1 23 38 := ⟨fitsO, by decide, by kernel_rfl, Rg.info_of (z := .slice none 0 0) (b := 24) (by kernel_rfl) (by rfl) (by decide)⟩
/-! A set of keys in a map. -/
theorem keyLaw : Keyed Tryd.prog 9 := string_keyed Tryd.underlying9
theorem zeroU (w : World) : (zeroValue 91).run Tryd.prog w = .ok (.agg #[]) w := by kernel_rfl
def KSet (w : World) (b : Nat) (ks : List (List UInt8)) : Prop := ∃ (n : Nat) (D : DataW Unit), w.ownsMap Tryd.prog 9 unitElem b n D ∧ n ≤ ks.length ∧ ∀ k : List UInt8, k.length ≤ 1000000 → Maps.has D (.string k) = ks.contains k
theorem kset_made (w : World) : KSet (w.alloc (.map #[] 0)) w.heap.size [] := ⟨0, _, World.ownsMap_made w _ _ _, Nat.le_refl _, fun _k _ => rfl⟩
theorem keyOf_txt {k : List UInt8} (hk : k.length ≤ 140737488355328) : keyOf Tryd.prog 9 (.string ⟨k.toArray⟩) = some (.string k) := by
  have := WideMaps.keyOf_string_mk (P := Tryd.prog) (k := 9) Tryd.underlying9 (s := ⟨k.toArray⟩) (by show k.toArray.size ≤ _; rw [List.size_toArray]; unfold maxLen; omega)
  exact this
theorem kset_look {w : World} {b : Nat} {ks : List (List UInt8)} (h : KSet w b ks) {k : List UInt8} (hk : k.length ≤ 1000000) :
    (Instr.lookup 76 (.map (some b)) (.string ⟨k.toArray⟩) true).run Tryd.prog w = .ok (.tuple #[.agg #[], .bool (ks.contains k)]) w := by
  obtain ⟨n, D, hown, _, hh⟩ := h
  obtain ⟨v, ps, hrun, hv⟩ := hown.look_ok keyLaw Tryd.underlying76 (zeroU w) unitElem_mk (keyOf_txt (Nat.le_trans hk (by decide)))
  obtain ⟨rfl, _⟩ := unitElem_inv hv
  rw [hrun, hh k hk]
theorem kset_put {w : World} {b : Nat} {ks : List (List UInt8)} (h : KSet w b ks) {k : List UInt8} (hk : k.length ≤ 1000000) (hl : ks.length ≤ 1000000) :
    ∃ w', (Instr.mapUpdate 76 (.map (some b)) (.string ⟨k.toArray⟩) (.agg #[])).run Tryd.prog w = .ok () w' ∧ KSet w' b (ks ++ [k]) ∧ w.mapTurned w' b := by
  obtain ⟨n, D, hown, hn, hh⟩ := h
  obtain ⟨w', hrun, hown', ht⟩ := hown.store keyLaw Tryd.underlying76 (by unfold maxLen; omega) (keyOf_txt (Nat.le_trans hk (by decide))) (val := .agg #[]) unitElem_mk
  refine ⟨w', hrun, ⟨n + 1, _, hown', by rw [List.length_append]; simp; omega, fun x hx => ?_⟩, ht⟩
  by_cases e : x = k
  · subst e
    rw [Maps.has_put_same hown.isMap (by trivial)]
    simp
  · rw [Maps.has_put_other (by intro h; exact e (Lit.string.inj h)), hh x hx]
    simp [e]
theorem kset_below {w w' : World} {b B : Nat} {ks : List (List UInt8)} (h : KSet w b ks) (hb : Below B w w') (hlt : b < B) : KSet w' b ks := by
  obtain ⟨n, D, ⟨es, clock, hh, r⟩, h2⟩ := h
  exact ⟨n, D, ⟨es, clock, (hb.block b hlt).trans hh, r⟩, h2⟩
theorem kset_kept {w w' : World} {b : Nat} {ks : List (List UInt8)} (h : KSet w b ks) (hb : w'.heap[b]? = w.heap[b]?) : KSet w' b ks := by
  obtain ⟨n, D, ⟨es, clock, hh, r⟩, h2⟩ := h
  exact ⟨n, D, ⟨es, clock, hb.trans hh, r⟩, h2⟩
end Go.Proofs.YtmhobdlhmkbkdaaDoor.Sz

/- text: the canonical form of a version's pieces. -/
import Derived.Test.YtaghhdgiegcimaaDoorVh
namespace Go.Proofs.YtaghhdgiegcimaaDoor
open Go.RowKit

theorem canonP_le (n : Nat) : ∀ l : List UInt8, (Vm.canonP n l).length ≤ 2 * l.length := by
  induction n with
  | zero => intro l; simp [Vm.canonP]
  | succ n ih =>
    intro l
    cases h : l.isEmpty
    · rw [canonP_step n l h]
      have h1 := runs_length l
      have h2 := bare_le (Vm.digs l)
      have h3 := ih (Vm.tail2 l)
      have h4 := tail2_lt l h
      simp only [List.length_append]
      omega
    · rw [canonP_end _ l h]; simp
/-- The canonical form out of the pieces. -/
def textOf (e p q : List UInt8) : List UInt8 := (if Vm.bare e == [48] then [] else Vm.bare e ++ [58]) ++ Vm.canonP 41 p ++ (if Vm.canonP 41 q == [48] then [] else 45 :: Vm.canonP 41 q)
theorem canonP_ne (l : List UInt8) (h : l ≠ []) : Vm.canonP 41 l ≠ [] := by
  rw [canonP_step 40 l (by simpa using h)]
  have : Vm.bare (Vm.digs l) ≠ [] := by
    unfold Vm.bare; split
    · simp
    · rename_i h; simpa using h
  simp [this]
theorem own_cells_at {w : World} {B : Nat} {ad : Addr} {n c : Nat} {l : List UInt8} (h : Own w B (.slice (some ad) n c) l) : ∀ j u, (Lib.strCells ⟨l.toArray⟩)[j]? = some u → w.cell? (ad.add j) = some u := by
  have h0 := h
  obtain ⟨h1, h2⟩ := h
  rcases h2 with ⟨h2, _⟩ | ⟨g, cap, cur, h2, _⟩
  · cases h2
  · obtain rfl : ad = ⟨g, 0, none⟩ := by injection h2 with h2; exact Option.some.inj h2
    exact World.ownsRow.cells h0 rfl
theorem cell_new1 (w : World) (x : Value) (T : TypeId) (b : UInt8) (hx : x = .int .u8 b.toNat) : ∀ j u, (Lib.strCells ⟨[b].toArray⟩)[j]? = some u → (w.alloc (.cells #[x] T)).cell? ((⟨w.heap.size, 0, none⟩ : Addr).add j) = some u := by
  subst hx
  intro j u h
  match j, h with
  | 0, h =>
    simp [Lib.strCells] at h
    subst h
    simp [Addr.add]
set_option maxHeartbeats 1000000 in
theorem text_any (e p q : List UInt8) (w : World) (he : e.length ≤ 41) (hp : p.length ≤ 41) (hq : q.length ≤ 41) (hp0 : p ≠ []) (hq0 : q ≠ []) (hap : ascii p) (haq : ascii q) :
    Calls Tryd.prog 47 #[.agg #[.string ⟨e.toArray⟩, .string ⟨p.toArray⟩, .string ⟨q.toArray⟩]] w fun r w' => r = .returned (.string ⟨(textOf e p q).toArray⟩) ∧ Below w.heap.size w w' := by
  have HT : Hid (textOf e p q = (if Vm.bare e == [48] then [] else Vm.bare e ++ [58]) ++ Vm.canonP 41 p ++ (if Vm.canonP 41 q == [48] then [] else 45 :: Vm.canonP 41 q)) := rfl
  have HAP := Lib.hid hap
  have HAQ := Lib.hid haq
  have HLB := Lib.hid (bare_le e)
  have HLP := Lib.hid (canonP_le 41 p)
  have HLQ := Lib.hid (canonP_le 41 q)
  have HNQ := Lib.hid (canonP_ne q hq0)
  have HNP := Lib.hid (canonP_ne p hp0)
  clear hap haq hp0 hq0
  go_enter Tryd.func47, Tryd.ntmps47
  go_wp2_with fail
  refine (bare_any e _).mono ?_
  rintro _ _ ⟨rfl, rfl⟩
  obtain ⟨b, hb⟩ : ∃ b, Vm.bare e = b := ⟨_, rfl⟩
  rw [hb] at HT HLB
  rw [hb]
  clear hb
  obtain ⟨W, hW⟩ : ∃ W, w.alloc (.cells #[.string ⟨e.toArray⟩, .string ⟨p.toArray⟩, .string ⟨q.toArray⟩] 67) = W := ⟨_, rfl⟩
  have hbel : Below w.heap.size w W := by rw [← hW]; exact (Below.refl _ _).alloc (Nat.le_refl _) _
  have hsz : w.heap.size + 1 = W.heap.size := by rw [← hW]; simp
  have hblk : Blk W w.heap.size e p q := by rw [← hW]; exact heap_alloc_new w _
  rw [hW]
  clear hW
  have HBL := Lib.hid hblk
  clear hblk
  have HSZ : w.heap.size + 1 ≤ W.heap.size := by omega
  clear hsz
  cases hz : b == [48]
  · have HZ := Lib.hid hz
    clear hz
    have hne : (b == [48]) = false := HZ.out
    go_wp2_with (at_builtin; refine append_str rfl _ _ rfl (w.heap.size + 1) _ [] b rfl (own_nil _ _) rfl ?c1 HSZ ?_)
    case c1 => have := HLB.out; simp; omega
    intro v0 W0 ho0 hg0
    have HO0 : Hid (Own W0 (w.heap.size + 1) v0 b) := ho0
    have hb0 := grown_below (own_nil W (w.heap.size + 1)) HSZ hg0
    have HBL0 : Hid (Blk W0 w.heap.size e p q) := by show Blk _ _ _ _ _; unfold Blk; rw [hb0.block _ (Nat.lt_succ_self _)]; exact HBL.out
    have hbel0 : Below w.heap.size w W0 := hbel.trans (hb0.mono (Nat.le_succ _))
    have HSZ0 : w.heap.size + 1 ≤ W0.heap.size := Nat.le_trans HSZ hb0.size
    clear hb0 ho0 hg0 HBL hbel HSZ
    go_wp2_with (at_builtin; refine append_bytes rfl _ _ rfl (w.heap.size + 1) _ b [58] rfl (own_alloc HO0.out _) ⟨W0.heap.size, 0, none⟩ _ rfl (cell_new1 W0 _ _ 58 rfl) ?c2 ?c3 ?_)
    case c2 => have := HLB.out; simp; omega
    case c3 => simp; omega
    intro v5 W5 ho5 hg5
    have HO : Hid (Own W5 (w.heap.size + 1) v5 (b ++ [58])) := ho5
    have hb5 := grown_below (own_alloc HO0.out _) (by simp; omega) hg5
    have HBL : Hid (Blk W5 w.heap.size e p q) := by show Blk _ _ _ _ _; unfold Blk; rw [hb5.block _ (Nat.lt_succ_self _), Below.heap_alloc _ _ _ (by omega)]; exact HBL0.out
    have hbel : Below w.heap.size w W5 := (hbel0.alloc (by omega) _).trans (hb5.mono (Nat.le_succ _))
    have HSZ : w.heap.size + 1 ≤ W5.heap.size := Nat.le_trans (by simp; omega) hb5.size
    clear hb5 ho5 hg5 HBL0 hbel0 HSZ0 HO0
    obtain ⟨hc0, hc1, hc2, hf0, hf1, hf2⟩ := blk_cells HBL.out
    go_wp2_with fail
    refine (appendPart_any 41 (w.heap.size + 1) _ (b ++ [58]) p _ (by omega) (by omega) (by have := HLB.out; simp; omega) HAP.out HSZ HO.out).mono ?_
    rintro r1 W1 ⟨v1, g1, ho1, hb1⟩
    subst g1
    have HO1 := Lib.hid ho1
    have HBL1 : Hid (Blk W1 w.heap.size e p q) := by show Blk _ _ _ _ _; unfold Blk; rw [hb1.block _ (Nat.lt_succ_self _)]; exact HBL.out
    have hbel1 : Below w.heap.size w W1 := hbel.trans (hb1.mono (Nat.le_succ _))
    have HSZ1 : w.heap.size + 1 ≤ W1.heap.size := Nat.le_trans HSZ hb1.size
    clear hb1 ho1 HO HBL HSZ hbel hc0 hc1 hc2 hf0 hf1 hf2
    obtain ⟨hc0, hc1, hc2, hf0, hf1, hf2⟩ := blk_cells HBL1.out
    go_wp2_with fail
    refine (appendPart_any 41 W1.heap.size _ [] q _ (by omega) (by omega) (by simp) HAQ.out (Nat.le_refl _) (own_nil _ _)).mono ?_
    rintro r2 W2 ⟨v2, g2, ho2, hb2⟩
    subst g2
    have HO2 : Hid (Own W2 W1.heap.size v2 (Vm.canonP 41 q)) := ho2
    have HO1' := Lib.hid (own_below HO1.out hb2)
    have HLT : Hid (∀ k, v1.ownBlock = some k → k < W1.heap.size) := fun k hk => (own_lt HO1.out k hk).2
    have HGE : Hid (∀ k, v2.ownBlock = some k → W1.heap.size ≤ k) := fun k hk => (own_lt ho2 k hk).1
    have hbel2 : Below w.heap.size w W2 := hbel1.trans (hb2.mono (Nat.le_trans (Nat.le_succ _) HSZ1))
    have HSZ2 : w.heap.size + 1 ≤ W2.heap.size := Nat.le_trans HSZ1 hb2.size
    clear hb2 ho2 HO1 HBL1 HSZ1 hbel1 hc0 hc1 hc2 hf0 hf1 hf2
    obtain ⟨y, hy⟩ : ∃ y, Vm.canonP 41 q = y := ⟨_, rfl⟩
    rw [hy] at HO2 HT HLQ HNQ
    obtain ⟨x, hx⟩ : ∃ x, Vm.canonP 41 p = x := ⟨_, rfl⟩
    rw [hx] at HO1' HT HLP HNP
    clear hy hx
    obtain ⟨X, hX⟩ : ∃ X, (b ++ [58] ++ x) = X := ⟨_, rfl⟩
    have HXL : X.length ≤ 300 := by rw [← hX]; have := HLP.out; have := HLB.out; simp; omega
    have HTX : Hid (textOf e p q = X ++ (if y == [48] then [] else 45 :: y)) := by show _ = _; rw [HT.out, HZ.out, ← hX]; rfl
    have HO1 : Hid (Own W2 (w.heap.size + 1) v1 X) := by show Own _ _ _ _; rw [← hX]; exact HO1'.out
    clear hX HT HZ HO1' HLP HNP HLB
    have hcv := own_string HO2.out
    obtain ⟨ad2, cp2, rfl, hbk2, -⟩ := own_cells HO2.out HNQ.out
    have HK2 := Lib.hid hbk2
    clear hbk2
    cases hz2 : y == [48]
    · have HT2 : Hid (textOf e p q = X ++ (45 :: y)) := by show _ = _; rw [HTX.out, hz2]; rfl
      have HNE : Hid ((Value.slice (some ad2) y.length cp2).ownBlock = none ∨ (Value.slice (some ad2) y.length cp2).ownBlock ≠ v1.ownBlock) := by
        refine Or.inr fun h => ?_
        have h1 := HGE.out ad2.block HK2.out
        have h2 := HLT.out ad2.block (h ▸ HK2.out)
        omega
      have HB0 : Hid (Below w.heap.size w W2) := hbel2
      go_wp2_with (at_builtin; refine append_bytes rfl _ _ rfl (w.heap.size + 1) _ X [45] rfl (own_alloc HO1.out _) ⟨W2.heap.size, 0, none⟩ _ rfl (cell_new1 W2 _ _ 45 rfl) ?c2 ?c3 ?_)
      case c2 => simp; omega
      case c3 => simp; omega
      intro v3 W3 ho3 hg3
      have HO3 := Lib.hid ho3
      have HO2' := Lib.hid (own_kept (own_alloc HO2.out _) hg3 HNE.out)
      have hbel3 : Below w.heap.size w W3 := (hbel2.alloc (by omega) _).trans ((grown_below (own_alloc HO1.out _) (by simp; omega) hg3).mono (Nat.le_succ _))
      have HSZ3 : w.heap.size + 1 ≤ W3.heap.size := Nat.le_trans (by simp; omega) hg3.size
      clear ho3 hg3 HO2 HO1 hcv hbel2 HSZ2 HB0
      go_wp2_with (at_builtin; refine append_bytes rfl _ _ rfl (w.heap.size + 1) _ (X ++ [45]) y rfl HO3.out ad2 _ rfl (own_cells_at HO2'.out) ?c4 HSZ3 ?_)
      case c4 => have := HLQ.out; simp; omega
      intro v4 W4 ho4 hg4
      have hbel4 : Below w.heap.size w W4 := hbel3.trans ((grown_below HO3.out HSZ3 hg4).mono (Nat.le_succ _))
      have hcv4 := own_string ho4
      clear ho4 hg4 HO3 HO2' hbel3 HSZ3
      go_wp2_with fail
      go_ret
      exact ⟨by rw [HT2.out]; simp, hbel4⟩
    · have HT2 : Hid (textOf e p q = X) := by show _ = _; rw [HTX.out, hz2]; simp
      have hcv1 := own_string HO1.out
      go_wp2_with fail
      go_ret
      exact ⟨by rw [HT2.out]; rfl, hbel2⟩
  · have HZ := Lib.hid hz
    clear hz
    have hne : (b == [48]) = true := HZ.out
    have HO : Hid (Own W (w.heap.size + 1) (.slice none 0 0) []) := own_nil _ _
    obtain ⟨hc0, hc1, hc2, hf0, hf1, hf2⟩ := blk_cells HBL.out
    go_wp2_with fail
    refine (appendPart_any 41 (w.heap.size + 1) _ [] p _ (by omega) (by omega) (by simp) HAP.out HSZ HO.out).mono ?_
    rintro r1 W1 ⟨v1, g1, ho1, hb1⟩
    subst g1
    have HO1 := Lib.hid ho1
    have HBL1 : Hid (Blk W1 w.heap.size e p q) := by show Blk _ _ _ _ _; unfold Blk; rw [hb1.block _ (Nat.lt_succ_self _)]; exact HBL.out
    have hbel1 : Below w.heap.size w W1 := hbel.trans (hb1.mono (Nat.le_succ _))
    have HSZ1 : w.heap.size + 1 ≤ W1.heap.size := Nat.le_trans HSZ hb1.size
    clear hb1 ho1 HO HBL HSZ hbel hc0 hc1 hc2 hf0 hf1 hf2
    obtain ⟨hc0, hc1, hc2, hf0, hf1, hf2⟩ := blk_cells HBL1.out
    go_wp2_with fail
    refine (appendPart_any 41 W1.heap.size _ [] q _ (by omega) (by omega) (by simp) HAQ.out (Nat.le_refl _) (own_nil _ _)).mono ?_
    rintro r2 W2 ⟨v2, g2, ho2, hb2⟩
    subst g2
    have HO2 : Hid (Own W2 W1.heap.size v2 (Vm.canonP 41 q)) := ho2
    have HO1' := Lib.hid (own_below HO1.out hb2)
    have HLT : Hid (∀ k, v1.ownBlock = some k → k < W1.heap.size) := fun k hk => (own_lt HO1.out k hk).2
    have HGE : Hid (∀ k, v2.ownBlock = some k → W1.heap.size ≤ k) := fun k hk => (own_lt ho2 k hk).1
    have hbel2 : Below w.heap.size w W2 := hbel1.trans (hb2.mono (Nat.le_trans (Nat.le_succ _) HSZ1))
    have HSZ2 : w.heap.size + 1 ≤ W2.heap.size := Nat.le_trans HSZ1 hb2.size
    clear hb2 ho2 HO1 HBL1 HSZ1 hbel1 hc0 hc1 hc2 hf0 hf1 hf2
    obtain ⟨y, hy⟩ : ∃ y, Vm.canonP 41 q = y := ⟨_, rfl⟩
    rw [hy] at HO2 HT HLQ HNQ
    obtain ⟨x, hx⟩ : ∃ x, Vm.canonP 41 p = x := ⟨_, rfl⟩
    rw [hx] at HO1' HT HLP HNP
    clear hy hx
    obtain ⟨X, hX⟩ : ∃ X, ([] ++ x) = X := ⟨_, rfl⟩
    have HXL : X.length ≤ 300 := by rw [← hX]; have := HLP.out; have := HLB.out; simp; omega
    have HTX : Hid (textOf e p q = X ++ (if y == [48] then [] else 45 :: y)) := by show _ = _; rw [HT.out, HZ.out, ← hX]; rfl
    have HO1 : Hid (Own W2 (w.heap.size + 1) v1 X) := by show Own _ _ _ _; rw [← hX]; exact HO1'.out
    clear hX HT HZ HO1' HLP HNP HLB
    have hcv := own_string HO2.out
    obtain ⟨ad2, cp2, rfl, hbk2, -⟩ := own_cells HO2.out HNQ.out
    have HK2 := Lib.hid hbk2
    clear hbk2
    cases hz2 : y == [48]
    · have HT2 : Hid (textOf e p q = X ++ (45 :: y)) := by show _ = _; rw [HTX.out, hz2]; rfl
      have HNE : Hid ((Value.slice (some ad2) y.length cp2).ownBlock = none ∨ (Value.slice (some ad2) y.length cp2).ownBlock ≠ v1.ownBlock) := by
        refine Or.inr fun h => ?_
        have h1 := HGE.out ad2.block HK2.out
        have h2 := HLT.out ad2.block (h ▸ HK2.out)
        omega
      have HB0 : Hid (Below w.heap.size w W2) := hbel2
      go_wp2_with (at_builtin; refine append_bytes rfl _ _ rfl (w.heap.size + 1) _ X [45] rfl (own_alloc HO1.out _) ⟨W2.heap.size, 0, none⟩ _ rfl (cell_new1 W2 _ _ 45 rfl) ?c2 ?c3 ?_)
      case c2 => simp; omega
      case c3 => simp; omega
      intro v3 W3 ho3 hg3
      have HO3 := Lib.hid ho3
      have HO2' := Lib.hid (own_kept (own_alloc HO2.out _) hg3 HNE.out)
      have hbel3 : Below w.heap.size w W3 := (hbel2.alloc (by omega) _).trans ((grown_below (own_alloc HO1.out _) (by simp; omega) hg3).mono (Nat.le_succ _))
      have HSZ3 : w.heap.size + 1 ≤ W3.heap.size := Nat.le_trans (by simp; omega) hg3.size
      clear ho3 hg3 HO2 HO1 hcv hbel2 HSZ2 HB0
      go_wp2_with (at_builtin; refine append_bytes rfl _ _ rfl (w.heap.size + 1) _ (X ++ [45]) y rfl HO3.out ad2 _ rfl (own_cells_at HO2'.out) ?c4 HSZ3 ?_)
      case c4 => have := HLQ.out; simp; omega
      intro v4 W4 ho4 hg4
      have hbel4 : Below w.heap.size w W4 := hbel3.trans ((grown_below HO3.out HSZ3 hg4).mono (Nat.le_succ _))
      have hcv4 := own_string ho4
      clear ho4 hg4 HO3 HO2' hbel3 HSZ3
      go_wp2_with fail
      go_ret
      exact ⟨by rw [HT2.out]; simp, hbel4⟩
    · have HT2 : Hid (textOf e p q = X) := by show _ = _; rw [HTX.out, hz2]; simp
      have hcv1 := own_string HO1.out
      go_wp2_with fail
      go_ret
      exact ⟨by rw [HT2.out]; rfl, hbel2⟩
end Go.Proofs.YtaghhdgiegcimaaDoor

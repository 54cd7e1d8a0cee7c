/- Bytes that a conversion has laid, appended to: rows whose frozen stretch lies behind all cells; AppendInt at them: walked. -/
import Derived.Test.YtoioeekfnnoaoaaGreatDoorEyc
import Derived.Test.YtoioeekfnnoaoaaGreatDoorEyd
import Derived.Test.YtoioeekfnnoaoaaGreatDoorShelfF
import Derived.Lib.AppendStr
import Derived.Lib.BufferRead
import Derived.Lib.AppendIntMem
import Derived.Lib.ItoaMem
import Derived.Lib.Slices
namespace Go.Proofs.YtoioeekfnnoaoaaGreatDoor.Cl
open Go.RowKit Go.Sort
/-- Cells stored into a row whose frozen stretch, if it has one, begins behind all its cells. -/
theorem storeT (P : Program) (g o : Nat) (t : TypeId) (fz : Nat × Nat) : ∀ (vs : List Value) (i : Nat) (cur : Array Value) (w : World), w.heap[g]? = some (.cells cur t fz) → (fz.2 = 0 ∨ cur.size ≤ fz.1) → o + i + vs.length ≤ cur.size → (∀ v ∈ vs, v.oneCell' = true) →
    (storeCells ⟨g, o, none⟩ vs i).run P w = .ok () (w.setRow g (cur.toList.take (o + i) ++ vs ++ cur.toList.drop (o + i + vs.length)).toArray)
  | [], i, cur, w, hg, _, _, _ => by
    have e : cur.toList.take (o + i) ++ [] ++ cur.toList.drop (o + i + ([] : List Value).length) = cur.toList := by simp
    rw [e, Array.toArray_toList, setRow_self w g cur t fz hg]
    rfl
  | v :: r, i, cur, w, hg, hz, hl, h1 => by
    rw [List.length_cons] at hl
    have hi : o + i < cur.size := by omega
    have ha : (⟨g, o, none⟩ : Addr).add i = ⟨g, o + i, none⟩ := by unfold Addr.add; split <;> simp_all
    have hc : w.cell? ⟨g, o + i, none⟩ = some cur[o + i] := by simp [World.cell?, hg, hi]
    have hf : w.frozen? ⟨g, o + i, none⟩ = false := by
      obtain ⟨a, b⟩ := fz
      simp only [World.frozen?, hg, Bool.and_eq_false_iff, decide_eq_false_iff_not]
      dsimp only at hz
      omega
    have hst : (store ((⟨g, o, none⟩ : Addr).add i) v).run P w = .ok () (w.setRow g (cur.setIfInBounds (o + i) v)) := by
      rw [ha, run_store P w _ v _ (h1 v (by simp)), hc]
      simp [hf, setCell_eq_setRow w g (o + i) cur t fz v hg]
    have ih := storeT P g o t fz r (i + 1) (cur.setIfInBounds (o + i) v) (w.setRow g (cur.setIfInBounds (o + i) v)) (setRow_heap w g cur _ t _ hg) (by simpa using hz) (by simp; omega) (fun x hx => h1 x (by simp [hx]))
    simp only [storeCells, Sem.run_bind, hst, Result.andThen_ok, ih, setRow_setRow]
    congr 3
    have e := list_seg_step cur.toList (o + i) v r (by simp at hl ⊢; omega)
    simpa [Array.toList_setIfInBounds, Nat.add_assoc] using e
theorem infoB : (Tryz.prog.info? 5).map (fun i => (i.zero, i.size, i.bytes)) = some (some (.int .u8 0), 1, 1) := by kernel_rfl
/-- The slice v, made from block B on, holds the bytes l, and may be appended to. -/
def TOwn (w : World) (B : Nat) (v : Value) (l : List UInt8) : Prop := ∃ g cap cur fz, v = .slice (some ⟨g, 0, none⟩) l.length cap ∧ B ≤ g ∧ w.heap[g]? = some (.cells cur 5 fz) ∧ (fz.2 = 0 ∨ cur.size ≤ fz.1) ∧ l.length ≤ cap ∧ cap ≤ maxLen ∧ cur.size = cap ∧ cur.toList.take l.length = Lib.byteCells l
theorem tOwn_below {w w' : World} {B : Nat} {v : Value} {l : List UInt8} (h : TOwn w B v l) (hb : Below w.heap.size w w') : TOwn w' B v l := by
  obtain ⟨g, cap, cur, fz, h1, h2, h3, h4⟩ := h
  exact ⟨g, cap, cur, fz, h1, h2, by rw [hb.block g (Array.getElem?_eq_some_iff.1 h3).1]; exact h3, h4⟩
theorem tOwn_bytes (w : World) (l : List UInt8) (hl : l.length ≤ 1000000) : TOwn (Lib.bytesWorld w 5 ⟨l.toArray⟩) w.heap.size (.slice (some ⟨w.heap.size, 0, none⟩) l.length (grownCap w l.length 0 5)) l := by
  have hs : (⟨l.toArray⟩ : ByteArray).size = l.length := by simp [ByteArray.size]
  have hge := grownCap_ge w l.length 0 5
  refine ⟨w.heap.size, grownCap w l.length 0 5, Lib.bytesCells w 5 ⟨l.toArray⟩, _, rfl, Nat.le_refl _, Lib.bytesWorld_at_new w _ _, .inr (Nat.le_refl _), hge, grownCap_le_maxLen w l.length 0 _ (by unfold maxLen; omega), ?_, ?_⟩
  · unfold Lib.bytesCells; rw [hs]; simp; omega
  · unfold Lib.bytesCells
    simp [Lib.byteCells]
theorem tOwn_string {w : World} {B : Nat} {v : Value} {l : List UInt8} (h : TOwn w B v l) : (convert 69 9 v).run Tryz.prog w = .ok (.string ⟨l.toArray⟩) w := by
  obtain ⟨g, cap, cur, fz, rfl, h2, h3, h4, h5, h6, h7, h8⟩ := h
  exact run_convert_bytes_back w _ _ _ _ cap l Tryz.underlying69 Tryz.underlying5 Tryz.underlying9 (Lib.bytes_of_row h3 h8)
/-- What a row is when it has room: stored in place. -/
theorem tOwn_room {w : World} {B g cap : Nat} {cur : Array Value} {fz : Nat × Nat} {l m : List UInt8} (hB : B ≤ g) (hg : w.heap[g]? = some (.cells cur 5 fz)) (hz : fz.2 = 0 ∨ cur.size ≤ fz.1) (hr : l.length + m.length ≤ cap) (hc : cap ≤ maxLen) (hs : cur.size = cap) (ht : cur.toList.take l.length = Lib.byteCells l) :
    TOwn (w.setRow g (cur.toList.take l.length ++ Lib.byteCells m ++ cur.toList.drop (l.length + m.length)).toArray) B (.slice (some ⟨g, 0, none⟩) (l.length + m.length) cap) (l ++ m) ∧ Below B w (w.setRow g (cur.toList.take l.length ++ Lib.byteCells m ++ cur.toList.drop (l.length + m.length)).toArray) := by
  have hsz : (cur.toList.take l.length ++ Lib.byteCells m ++ cur.toList.drop (l.length + m.length)).toArray.size = cap := by
    simp only [List.size_toArray, List.length_append, List.length_take, List.length_drop, Array.length_toList, Lib.byteCells_length]
    omega
  refine ⟨⟨g, cap, _, fz, by rw [List.length_append], hB, setRow_heap w g cur _ _ _ hg, ?_, by rw [List.length_append]; exact hr, hc, hsz, ?_⟩, ⟨rfl, rfl, rfl, by simp, fun k hk => setRow_other w g k _ (fun e => by omega)⟩⟩
  · rcases hz with h | h
    · exact .inl h
    · exact .inr (by rw [hsz]; omega)
  · have e : Lib.byteCells (l ++ m) = Lib.byteCells l ++ Lib.byteCells m := by simp [Lib.byteCells]
    rw [ht, e, List.length_append]
    have e2 : (Lib.byteCells l ++ Lib.byteCells m).length = l.length + m.length := by rw [List.length_append, Lib.byteCells_length, Lib.byteCells_length]
    rw [← e2]
    exact List.take_left
theorem tOwn_new {w : World} {B cap : Nat} {l m : List UInt8} {z : Value} (hB : B ≤ w.heap.size) (hr : l.length + m.length ≤ cap) (hc : cap ≤ maxLen) (hz : z.cells.size = 1) :
    TOwn (w.drew.alloc (.cells ((Lib.byteCells l).toArray ++ (Lib.byteCells m).toArray ++ Builtin.zeroCells z.cells (cap - (l.length + m.length))) 5)) B (.slice (some ⟨w.heap.size, 0, none⟩) (l.length + m.length) cap) (l ++ m) ∧ Below B w (w.drew.alloc (.cells ((Lib.byteCells l).toArray ++ (Lib.byteCells m).toArray ++ Builtin.zeroCells z.cells (cap - (l.length + m.length))) 5)) := by
  refine ⟨⟨w.heap.size, cap, _, (0, 0), by rw [List.length_append], hB, heap_alloc_new w.drew _, .inl rfl, by rw [List.length_append]; exact hr, hc, ?_, ?_⟩, ((Below.refl B w).drew).alloc hB _⟩
  · simp only [Array.size_append, List.size_toArray, Lib.byteCells_length, size_zeroCells, hz]
    omega
  · have e : Lib.byteCells (l ++ m) = Lib.byteCells l ++ Lib.byteCells m := by simp [Lib.byteCells]
    have e2 : (Lib.byteCells l ++ Lib.byteCells m).length = l.length + m.length := by rw [List.length_append, Lib.byteCells_length, Lib.byteCells_length]
    rw [e, List.length_append, ← e2]
    simp only [Array.toList_append]
    exact List.take_left
/-- append(v, m...), m a string. -/
theorem appT_str (ty : TypeId) {w : World} {B : Nat} {v : Value} {l : List UInt8} (h : TOwn w B v l) (m : List UInt8) (hl : l.length + m.length ≤ 1000000) (hB : B ≤ w.heap.size) :
    ∃ v' w', (Builtin.append_ #[69, 9] ty #[v, .string ⟨m.toArray⟩]).run Tryz.prog w = .ok v' w' ∧ TOwn w' B v' (l ++ m) ∧ Below B w w' := by
  obtain ⟨i0, hi, hz0, hz1, hz2⟩ := info_parts infoB
  have hsm : (⟨m.toArray⟩ : ByteArray).size = m.length := by simp [ByteArray.size]
  obtain ⟨g, cap, cur, fz, rfl, h2, h3, h4, h5, h6, h7, h8⟩ := h
  by_cases hr : l.length + m.length ≤ cap
  · obtain ⟨t1, t2⟩ := tOwn_room (m := m) h2 h3 h4 hr h6 h7 h8
    refine ⟨_, _, ?_, t1, t2⟩
    have hf := Lib.run_firstCells_string (P := Tryz.prog) w 1 ⟨m.toArray⟩
    have hst := storeT Tryz.prog g l.length 5 fz (Lib.byteCells m) 0 cur w h3 h4 (by rw [Lib.byteCells_length]; omega) (fun u hu => by simp only [Lib.byteCells, List.mem_map] at hu; obtain ⟨b, _, rfl⟩ := hu; rfl)
    simp only [Nat.add_zero, Lib.byteCells_length] at hst
    rw [Lib.strCells_toArray] at hf
    simp [Builtin.append_, run_underlying Tryz.underlying69, run_underlying Tryz.underlying9, sizeOf, typeInfo, hi, hz1, Builtin.lenOf, hsm, hr, hf, Addr.add_lit, hst]
    rw [hsm] at hf
    simp [hf, Addr.add_lit, hst]
  · have hge := grownCap_ge w (l.length + m.length) cap 5
    obtain ⟨t1, t2⟩ := tOwn_new (w := w) (l := l) (m := m) (z := .int .u8 0) hB hge (grownCap_le_maxLen w (l.length + m.length) cap 5 (by unfold maxLen; omega)) rfl
    refine ⟨_, _, ?_, t1, t2⟩
    have := Lib.run_append_grow_string (P := Tryz.prog) w 69 9 ty 5 i0 (.int .u8 0) Tryz.underlying69 Tryz.underlying9 hi hz0 ⟨g, 0, none⟩ l.length cap (Lib.byteCells l) (by rw [hz1, Lib.byteCells_length, Nat.mul_one]) (fun j u hu => by
      have hj : j < l.length := by have := (List.getElem?_eq_some_iff.1 hu).1; rwa [Lib.byteCells_length] at this
      have := Lib.bytes_of_row h3 h8 j hj
      rw [this, ← hu]; simp [Lib.byteCells, hj]) ⟨m.toArray⟩ (by rw [hsm]; omega) (by rw [hsm]; omega) (by rw [hsm, hz2]; exact growslice_fits (by omega) (by omega))
    rw [hsm, Lib.strCells_toArray] at this
    exact this
/-- append(v, m...), m bytes in memory. -/
theorem appT_row (ty : TypeId) {w : World} {B : Nat} {v : Value} {l : List UInt8} (h : TOwn w B v l) (a : Addr) (c : Nat) (m : List UInt8) (hm : ∀ j u, (Lib.byteCells m)[j]? = some u → w.cell? (a.add j) = some u) (hl : l.length + m.length ≤ 1000000) (hB : B ≤ w.heap.size) :
    ∃ v' w', (Builtin.append_ #[69, 69] ty #[v, .slice (some a) m.length c]).run Tryz.prog w = .ok v' w' ∧ TOwn w' B v' (l ++ m) ∧ Below B w w' := by
  obtain ⟨i0, hi, hz0, hz1, hz2⟩ := info_parts infoB
  obtain ⟨g, cap, cur, fz, rfl, h2, h3, h4, h5, h6, h7, h8⟩ := h
  by_cases hr : l.length + m.length ≤ cap
  · obtain ⟨t1, t2⟩ := tOwn_room (m := m) h2 h3 h4 hr h6 h7 h8
    refine ⟨_, _, ?_, t1, t2⟩
    have hf := run_firstCells_some (P := Tryz.prog) w i0.size m.length a m.length c (Lib.byteCells m) (by rw [hz1, Lib.byteCells_length, Nat.mul_one]) hm
    have hst := storeT Tryz.prog g l.length 5 fz (Lib.byteCells m) 0 cur w h3 h4 (by rw [Lib.byteCells_length]; omega) (fun u hu => by simp only [Lib.byteCells, List.mem_map] at hu; obtain ⟨b, _, rfl⟩ := hu; rfl)
    simp only [Nat.add_zero, Lib.byteCells_length] at hst
    rw [hz1] at hf
    simp [Builtin.append_, run_underlying Tryz.underlying69, sizeOf, typeInfo, hi, hz1, Builtin.lenOf, hr, hf, Addr.add_lit, hst]
  · have hge := grownCap_ge w (l.length + m.length) cap 5
    obtain ⟨t1, t2⟩ := tOwn_new (w := w) (l := l) (m := m) (z := .int .u8 0) hB hge (grownCap_le_maxLen w (l.length + m.length) cap 5 (by unfold maxLen; omega)) rfl
    refine ⟨_, _, ?_, t1, t2⟩
    exact run_append_grow (P := Tryz.prog) w 69 ty 5 i0 (.int .u8 0) Tryz.underlying69 hi hz0 ⟨g, 0, none⟩ l.length cap (Lib.byteCells l) (by rw [hz1, Lib.byteCells_length, Nat.mul_one]) (fun j u hu => by
      have hj : j < l.length := by have := (List.getElem?_eq_some_iff.1 hu).1; rwa [Lib.byteCells_length] at this
      have := Lib.bytes_of_row h3 h8 j hj
      rw [this, ← hu]; simp [Lib.byteCells, hj]) a m.length c (Lib.byteCells m) (by rw [hz1, Lib.byteCells_length, Nat.mul_one]) hm (by omega) (by omega) (by rw [hz2]; exact growslice_fits (by omega) (by omega))
theorem wpT_str {ops : Array Oper} {rest : List Oper} {o : Oper} {a : Act} {Q : Exit → Act → World → Prop} {w : World} (hgd : o.guard = none) (sl x : Operand)
    (ho : o.op = .call { callee := .builtin .append, args := #[sl, x], argTypes := #[69, 9] })
    (B : Nat) (v : Value) (l m : List UInt8) (hs : a.eval sl = v) (hown : TOwn w B v l) (hx : a.eval x = .string ⟨m.toArray⟩) (hsz : l.length + m.length ≤ 1000000) (hB : B ≤ w.heap.size)
    (h : ∀ v' w', TOwn w' B v' (l ++ m) → Below B w w' → wpList Tryz.prog ops Q rest (a.put o.dst v') w') : wpList Tryz.prog ops Q (o :: rest) a w := by
  refine wpList_plain hgd fun K hK => ?_
  obtain ⟨v', w', hr, h2, h3⟩ := appT_str o.type hown m hsz hB
  unfold Oper.wp execOp
  simp only [ho, resolve, invoke, builtin, Sem.run_bind, Sem.run_pure, Result.andThen_ok, List.map_toArray, List.map_cons, List.map_nil, hs, hx, hr]
  exact hK _ _ (h v' w' h2 h3)
theorem wpT_row {ops : Array Oper} {rest : List Oper} {o : Oper} {a : Act} {Q : Exit → Act → World → Prop} {w : World} (hgd : o.guard = none) (sl x : Operand)
    (ho : o.op = .call { callee := .builtin .append, args := #[sl, x], argTypes := #[69, 69] })
    (B : Nat) (v : Value) (l m : List UInt8) (hs : a.eval sl = v) (hown : TOwn w B v l) (ad : Addr) (n c : Nat) (hn : m.length = n) (hx : a.eval x = .slice (some ad) n c) (hm : ∀ j u, (Lib.byteCells m)[j]? = some u → w.cell? (ad.add j) = some u) (hsz : l.length + m.length ≤ 1000000) (hB : B ≤ w.heap.size)
    (h : ∀ v' w', TOwn w' B v' (l ++ m) → Below B w w' → wpList Tryz.prog ops Q rest (a.put o.dst v') w') : wpList Tryz.prog ops Q (o :: rest) a w := by
  subst hn
  refine wpList_plain hgd fun K hK => ?_
  obtain ⟨v', w', hr, h2, h3⟩ := appT_row o.type hown ad c m hm hsz hB
  unfold Oper.wp execOp
  simp only [ho, resolve, invoke, builtin, Sem.run_bind, Sem.run_pure, Result.andThen_ok, List.map_toArray, List.map_cons, List.map_nil, hs, hx, hr]
  exact hK _ _ (h v' w' h2 h3)
end Go.Proofs.YtoioeekfnnoaoaaGreatDoor.Cl

/- Rows whose elements have rows of their own, as they grow: what a slice's own block may hold; an append that keeps that. -/
import Derived.Test.YtkdildgdodnbbaaGreatDoorTa
namespace Go.Proofs.YtkdildgdodnbbaaGreatDoor
open Go.RowKit Rs At
namespace Pg
/-- Every cell of a slice's own block is of a kind. -/
def Pure (κ : Value → Prop) (w : World) (v : Value) : Prop := ∀ g, v.ownBlock = some g → ∀ j u, w.cell? ⟨g, j, none⟩ = some u → κ u
/-- No bool; a slice. -/
def NoB (u : Value) : Prop := ∀ b, u ≠ .bool b
def IsSl (u : Value) : Prop := ∃ A n c, u = .slice A n c
theorem pure_nil (κ : Value → Prop) (w : World) : Pure κ w (.slice none 0 0) := fun g h => by cases h
theorem pure_below {α : Type} {enc : α → List Value} {K B : Nat} {T : TypeId} {κ : Value → Prop} {w w' : World} {v : Value} {l : List α} (h : Pure κ w v) (ho : Rg.Own enc K w B T v l) (hb : Below w.heap.size w w') : Pure κ w' v := fun g hg j u hu => by
  have hlt := (Rg.own_lt ho g hg).2
  rw [World.cell?_of_block (hb.block _ hlt)] at hu
  exact h g hg j u hu
theorem zero_kind {κ : Value → Prop} {z : Array Value} (hz : ∀ u ∈ z, κ u) (n : Nat) : ∀ u ∈ Builtin.zeroCells z n, κ u := fun u hu => by
  unfold Builtin.zeroCells at hu
  rw [Array.mem_map] at hu
  obtain ⟨i, hi, rfl⟩ := hu
  have h0 : 0 < z.size := by
    rcases Nat.eq_zero_or_pos z.size with h | h
    · rw [h] at hi; simp at hi
    · exact h
  have hm : i % z.size < z.size := Nat.mod_lt _ h0
  rw [getElem!_pos z (i % z.size) hm]
  exact hz _ (Array.getElem_mem hm)
theorem new_kind {κ : Value → Prop} {w : World} {cs : Array Value} {e : TypeId} {n c : Nat} (hc : ∀ u ∈ cs, κ u) : Pure κ (w.drew.alloc (.cells cs e)) (.slice (some ⟨w.heap.size, 0, none⟩) n c) := fun g hg j u hu => by
  cases hg
  rw [cell_of_row (w.drew.alloc (.cells cs e)) w.heap.size j cs e (0, 0) (heap_alloc_new w.drew _)] at hu
  exact hc u (Array.mem_of_getElem? hu)
/-- Behind an append of cells of that kind. -/
theorem pure_run {P : Program} {κ : Value → Prop} {w w' : World} {v v' : Value} (t ty : TypeId) (base : Nat) (e : TypeId) (i : TypeInfo) (z : Value) (size bytes : Nat) (ht : P.underlying t = some (.slice e)) (hi : P.info? e = some i) (hz : i.zero = some z)
    (hsize : i.size = size) (hby : i.bytes = bytes) (n : Nat) (xs : List Value) (hown : w.ownsRow base e size v n xs)
    (ad : Addr) (m c : Nat) (news : List Value) (hl : news.length = m * size) (hnews : ∀ j u, news[j]? = some u → w.cell? (ad.add j) = some u) (h1 : ∀ u ∈ news, u.oneCell' = true)
    (hm : 0 < m) (h63 : n + m ≤ maxLen) (hbytes : (n + m) * bytes ≤ 140737488355328)
    (hr : (Builtin.append_ #[t, t] ty #[v, .slice (some ad) m c]).run P w = .ok v' w') (hp : Pure κ w v) (hn : ∀ u ∈ news, κ u) (hzc : ∀ u ∈ z.cells, κ u) : Pure κ w' v' := by
  subst hsize
  subst hby
  have hsmall : n + m ≤ 9223372036854775807 := by simp only [maxLen] at h63; omega
  rcases hown.2 with ⟨rfl, rfl⟩ | ⟨g, cap, cur, rfl, hbg, hg, hnc, hcm, hcs, htake⟩
  · rw [run_append_nil (P := P) w t ty e i z ht hi hz ad m c news hl hnews hm (by omega) (by have hb := hbytes; simp only [Nat.zero_add] at hb; omega)] at hr
    cases hr
    exact new_kind fun u hu => by
      rcases Array.mem_append.1 hu with hu | hu
      · exact hn u (by simpa using hu)
      · exact zero_kind hzc _ u hu
  · have hcur : ∀ u ∈ cur.toList, κ u := fun u hu => by
      obtain ⟨j, hj⟩ := List.mem_iff_getElem?.1 hu
      refine hp g rfl j u ?_
      rw [cell_of_row w g j cur e (0, 0) hg]
      simpa using hj
    have hxs : ∀ u ∈ xs, κ u := fun u hu => hcur u (List.mem_of_mem_take (by rw [htake]; exact hu))
    by_cases hroom : n + m ≤ cap
    · have hfit : n * i.size + news.length ≤ cur.size := by rw [hl, hcs, ← Nat.add_mul]; exact Nat.mul_le_mul_right _ hroom
      rw [run_append_room (P := P) w t ty e i ht hi g n cap cur hg ad m c news hl hnews h1 hroom hfit] at hr
      cases hr
      intro g' hg' j u hu
      cases hg'
      rw [cell_of_row _ g j _ e (0, 0) (setRow_heap w g cur _ e _ hg)] at hu
      have hm2 := Array.mem_of_getElem? hu
      rw [List.mem_toArray, List.mem_append, List.mem_append] at hm2
      rcases hm2 with (h2 | h2) | h2
      · exact hcur u (List.mem_of_mem_take h2)
      · exact hn u h2
      · exact hcur u (List.mem_of_mem_drop h2)
    · have holds : ∀ j u, xs[j]? = some u → w.cell? ((⟨g, 0, none⟩ : Addr).add j) = some u := hown.cells (g := g) rfl
      rw [run_append_grow (P := P) w t ty e i z ht hi hz ⟨g, 0, none⟩ n cap xs hown.1 holds ad m c news hl hnews (by omega) (by omega) (growslice_fits (by omega) hbytes)] at hr
      cases hr
      exact new_kind fun u hu => by
        rcases Array.mem_append.1 hu with hu | hu
        · rcases Array.mem_append.1 hu with hu | hu
          · exact hxs u (by simpa using hu)
          · exact hn u (by simpa using hu)
        · exact zero_kind hzc _ u hu
/-- All blocks but one are as they were. -/
def But (r : Option Nat) (w u : World) : Prop := w.heap.size ≤ u.heap.size ∧ ∀ k, k < w.heap.size → r ≠ some k → u.heap[k]? = w.heap[k]?
theorem but_below {r : Option Nat} {w u : World} (h : Below w.heap.size w u) : But r w u := ⟨h.size, fun k hk _ => h.block k hk⟩
theorem but_grown {r : Option Nat} {w u : World} (h : w.grownBy u r) : But r w u := ⟨h.size, fun k hk hr => h.block k hk (fun e => hr e.symm)⟩
theorem but_set (w : World) (p : Addr) (x : Value) : But (some p.block) w (w.setCell p x) := ⟨by simp [World.setCell], fun k _ hr => Below.heap_setCell _ _ _ _ (fun e => hr (by rw [e]))⟩
theorem but_trans {r : Option Nat} {w u x : World} (h : But r w u) (k : But r u x) : But r w x := ⟨Nat.le_trans h.1 k.1, fun i hi hr => (k.2 i (Nat.lt_of_lt_of_le hi h.1) hr).trans (h.2 i hi hr)⟩
theorem row_but {α : Type} {enc : α → List Value} {K : Nat} {r : Option Nat} {w u : World} {A : Option Addr} {l : List α} (h : Rg.Row enc K w A l) (hb : But r w u) (hne : 0 < l.length → ∀ a, A = some a → r ≠ some a.block) : Rg.Row enc K u A l := fun h0 => by
  obtain ⟨a, e, hl, hc⟩ := h h0
  refine ⟨a, e, Nat.lt_of_lt_of_le hl hb.1, fun i hi j v hv => ?_⟩
  have h1 := hc i hi j v hv
  rw [World.cell?_of_block]
  · exact h1
  · have : (if j = 0 then a.add (i * K) else (⟨(a.add (i * K)).block, (a.add (i * K)).off + j, none⟩ : Addr)).block = a.block := by split <;> simp [add_block]
    rw [this]
    exact hb.2 _ hl (hne h0 a e)
theorem srow_but {r : Option Nat} {w u : World} {A : Option Addr} {l : List Sp} (h : SRow w A l) (hb : But r w u) (hne : 0 < l.length → ∀ a, A = some a → r ≠ some a.block) : SRow u A l := fun h0 => by
  obtain ⟨a, e, hl, hc⟩ := h h0
  have hk := hb.2 _ hl (hne h0 a e)
  refine ⟨a, e, Nat.lt_of_lt_of_le hl hb.1, fun i hi => ?_⟩
  obtain ⟨c0, c1, c2, c3⟩ := hc i hi
  refine ⟨?_, ?_, ?_, ?_⟩
  · rw [World.cell?_of_block (by simpa [add_block] using hk)]; exact c0
  · rw [World.cell?_of_block (by simpa [add_block] using hk)]; exact c1
  · rw [World.cell?_of_block (by simpa [add_block] using hk)]; exact c2
  · rw [World.cell?_of_block (by simpa [add_block] using hk)]; exact c3
/-- A block without bools holds no spans; one of slices no texts. -/
theorem srow_nob {w : World} {g : Nat} {A : Option Addr} {l : List Sp} (h : SRow w A l) (hg : ∀ j u, w.cell? ⟨g, j, none⟩ = some u → NoB u) : 0 < l.length → ∀ a, A = some a → some g ≠ some a.block := fun h0 a ha hb => by
  obtain ⟨a', e, _, hc⟩ := h h0
  rw [ha] at e; cases e
  obtain ⟨_, _, _, c3⟩ := hc 0 h0
  have e3 : (a.add (0 * 4)).add 3 = ⟨g, a.off + 3, none⟩ := by rw [Option.some.inj hb]; simp [Addr.add]
  rw [e3] at c3
  exact hg _ _ c3 _ rfl
theorem spot_none {w : World} {a : Addr} {v : Value} (h : w.cell? a = some v) : a = ⟨a.block, a.off, none⟩ := by
  obtain ⟨b, o, s⟩ := a
  unfold World.cell? at h
  split at h
  · split at h
    · cases h
    · rename_i h2
      cases s with
      | none => rfl
      | some x => exact absurd rfl h2
  · cases h
theorem srow_sl {w : World} {g : Nat} {A : Option Addr} {l : List Sp} (h : SRow w A l) (hg : ∀ j u, w.cell? ⟨g, j, none⟩ = some u → IsSl u) : 0 < l.length → ∀ a, A = some a → some g ≠ some a.block :=
  srow_nob h fun j u hu b e => by obtain ⟨_, _, _, q⟩ := hg j u hu; rw [e] at q; cases q
theorem row_sl {α : Type} {enc : α → List Value} {K : Nat} {w : World} {g : Nat} {A : Option Addr} {l : List α} (h : Rg.Row enc K w A l) (he : ∀ x, ∃ t, (enc x)[0]? = some (.string t)) (hg : ∀ j u, w.cell? ⟨g, j, none⟩ = some u → IsSl u) : 0 < l.length → ∀ a, A = some a → some g ≠ some a.block := fun h0 a ha hb => by
  obtain ⟨a', e, _, hc⟩ := h h0
  rw [ha] at e; cases e
  obtain ⟨t, ht⟩ := he l[0]
  have h1 := hc 0 h0 0 _ ht
  rw [if_pos rfl, Nat.zero_mul, Rg.add_zero] at h1
  rw [spot_none h1, ← Option.some.inj hb] at h1
  obtain ⟨_, _, _, q⟩ := hg _ _ h1
  cases q
theorem sl_nob {u : Value} (h : IsSl u) : NoB u := fun b e => by obtain ⟨_, _, _, q⟩ := h; rw [e] at q; cases q
end Pg
open Pg
/-- An append whose new slice's own block is of a kind. -/
theorem Pg.wpList_app_pure {α : Type} {P : Program} {enc : α → List Value} {K : Nat} {ST T : TypeId} {w : World} {κ : Value → Prop} (hT : Rg.SliceT P enc K ST T) (hk : ∀ i, P.info? T = some i → ∀ z, i.zero = some z → ∀ u ∈ z.cells, κ u) (hke : ∀ x, ∀ u ∈ enc x, κ u)
    {ops : Array Oper} {rest : List Oper} {o : Oper} {a : Act} {Q : Exit → Act → World → Prop} (hgd : o.guard = none) (sl x : Operand)
    (ho : o.op = .call { callee := .builtin .append, args := #[sl, x], argTypes := #[ST, ST] })
    (B : Nat) (v : Value) (l m : List α) (hs : a.eval sl = v) (hown : Rg.Own enc K w B T v l) (hp : Pure κ w v) (ad : Addr) (c : Nat) (hx : a.eval x = .slice (some ad) m.length c)
    (hnews : ∀ j u, (Rg.flat enc m)[j]? = some u → w.cell? (ad.add j) = some u) (hm : 0 < m.length) (hsz : l.length + m.length ≤ 1000000) (hB : B ≤ w.heap.size)
    (h : ∀ v' w', Rg.Own enc K w' B T v' (l ++ m) → Pure κ w' v' → w.grownBy w' v.ownBlock → w.heap.size ≤ w'.heap.size → wpList P ops Q rest (a.put o.dst v') w') : wpList P ops Q (o :: rest) a w := by
  obtain ⟨i, z, hi, hz0, hz1, hz2, hb⟩ := hT.info
  have hbytes : (l.length + m.length) * i.bytes ≤ 140737488355328 := by
    have : (l.length + m.length) * i.bytes ≤ 1000000 * 1000 := Nat.mul_le_mul hsz hb
    omega
  have h63 : l.length + m.length ≤ maxLen := by unfold maxLen; omega
  refine wpList_plain hgd fun _ hK => ?_
  obtain ⟨g, cap, w', hr, h2, h3, _, _⟩ := run_append_lies (P := P) w ST o.type B T i z K i.bytes hT.under hi hz0 hz2 rfl hz1 hT.pos v l.length (Rg.flat enc l) hown ad m.length c (Rg.flat enc m) (Rg.flat_len hT.fits m) hnews (Rg.flat_ones hT.fits m) hm h63 hbytes hB _ rfl
  have h6 := pure_run ST o.type B T i z K i.bytes hT.under hi hz0 hz2 rfl l.length (Rg.flat enc l) hown ad m.length c (Rg.flat enc m) (Rg.flat_len hT.fits m) hnews (Rg.flat_ones hT.fits m) hm h63 hbytes hr hp (fun u hu => by
    obtain ⟨y, _, hy⟩ := List.mem_flatMap.1 hu
    exact hke y u hy) (hk i hi z hz0)
  unfold Oper.wp execOp
  simp only [ho, resolve, invoke, builtin, Sem.run_bind, Sem.run_pure, Result.andThen_ok, List.map_toArray, List.map_cons, List.map_nil, hs, hx, hr]
  refine hK _ _ (h _ w' ?_ h6 h3 h3.size)
  unfold Rg.Own
  rw [Rg.flat_app, List.length_append]
  exact h2
namespace Pg
/-- At a step of a region that draws its order: an append, the new slice's own block of a kind. -/
theorem step_app_pure {α : Type} {P : Program} {enc : α → List Value} {K : Nat} {ST T : TypeId} {w : World} {κ : Value → Prop} (hT : Rg.SliceT P enc K ST T) (hk : ∀ i, P.info? T = some i → ∀ z, i.zero = some z → ∀ u ∈ z.cells, κ u) (hke : ∀ x, ∀ u ∈ enc x, κ u)
    {ops : Array Oper} {o : Oper} {a : Act} {G : Act → World → Prop} {Q : Exit → Act → World → Prop} {E : Prop} (hgd : o.guard = none) (sl x : Operand)
    (ho : o.op = .call { callee := .builtin .append, args := #[sl, x], argTypes := #[ST, ST] })
    (B : Nat) (v : Value) (l m : List α) (hs : a.eval sl = v) (hown : Rg.Own enc K w B T v l) (hp : Pure κ w v) (ad : Addr) (c : Nat) (hx : a.eval x = .slice (some ad) m.length c)
    (hnews : ∀ j u, (Rg.flat enc m)[j]? = some u → w.cell? (ad.add j) = some u) (hm : 0 < m.length) (hsz : l.length + m.length ≤ 1000000) (hB : B ≤ w.heap.size)
    (h : ∀ v' w', Rg.Own enc K w' B T v' (l ++ m) → Pure κ w' v' → w.grownBy w' v.ownBlock → w.heap.size ≤ w'.heap.size → G (a.put o.dst v') w') : if Region.wanted o (yielded ops a.tmps) = true then Oper.wp P o a w G Q else E := by
  obtain ⟨i, z, hi, hz0, hz1, hz2, hb⟩ := hT.info
  have hbytes : (l.length + m.length) * i.bytes ≤ 140737488355328 := by
    have : (l.length + m.length) * i.bytes ≤ 1000000 * 1000 := Nat.mul_le_mul hsz hb
    omega
  have h63 : l.length + m.length ≤ maxLen := by unfold maxLen; omega
  have hw : Region.wanted o (yielded ops a.tmps) = true := by simp [Region.wanted, hgd]
  rw [if_pos hw]
  obtain ⟨g, cap, w', hr, h2, h3, _, _⟩ := run_append_lies (P := P) w ST o.type B T i z K i.bytes hT.under hi hz0 hz2 rfl hz1 hT.pos v l.length (Rg.flat enc l) hown ad m.length c (Rg.flat enc m) (Rg.flat_len hT.fits m) hnews (Rg.flat_ones hT.fits m) hm h63 hbytes hB _ rfl
  have h6 := pure_run ST o.type B T i z K i.bytes hT.under hi hz0 hz2 rfl l.length (Rg.flat enc l) hown ad m.length c (Rg.flat enc m) (Rg.flat_len hT.fits m) hnews (Rg.flat_ones hT.fits m) hm h63 hbytes hr hp (fun u hu => by
    obtain ⟨y, _, hy⟩ := List.mem_flatMap.1 hu
    exact hke y u hy) (hk i hi z hz0)
  unfold Oper.wp execOp
  simp only [ho, resolve, invoke, builtin, Sem.run_bind, Sem.run_pure, Result.andThen_ok, List.map_toArray, List.map_cons, List.map_nil, hs, hx, hr]
  refine h _ w' ?_ h6 h3 h3.size
  unfold Rg.Own
  rw [Rg.flat_app, List.length_append]
  exact h2
end Pg
theorem Pg.zero_is {κ : Value → Prop} {P : Program} {T : TypeId} {z0 : Value} (h : (P.info? T).map (·.zero) = some (some z0)) (hk : ∀ u ∈ z0.cells, κ u) : ∀ i, P.info? T = some i → ∀ z, i.zero = some z → ∀ u ∈ z.cells, κ u := fun i hi z hz u hu => by
  rw [hi] at h
  simp only [Option.map_some, Option.some.injEq] at h
  rw [h] at hz
  cases hz
  exact hk u hu
end Go.Proofs.YtkdildgdodnbbaaGreatDoor

/- append of whatever many onto a row of one's own, a store into it; the loops of the reference's joined, as lists. The reference's joined, walked. -/
import Derived.Test.YtkdildgdodnbbaaGreatDoorQp
import Derived.Laws.OwnMore
import Derived.Deep.Upon
import Derived.Maps.AppendAt
namespace Go.Proofs.YtkdildgdodnbbaaGreatDoor.Rg
open Go.RowKit Go.ChangeShapes Go.WideShapes

section
variable {α : Type} {P : Program} {enc : α → List Value} {K : Nat} {ST T : TypeId} {w : World}
theorem grown_refl (w : World) (r : Option Nat) : w.grownBy w r := ⟨rfl, rfl, rfl, Nat.le_refl _, fun _ _ _ => rfl⟩
theorem run_appS (hT : SliceT P enc K ST T) (ty : TypeId) (B : Nat) (v : Value) (l m : List α) (hown : Own enc K w B T v l) (A : Option Addr) (c : Nat) (hrow : Row enc K w A m)
    (hsz : l.length + m.length ≤ 1000000) (hB : B ≤ w.heap.size) :
    ∃ v' w', (Builtin.append_ #[ST, ST] ty #[v, .slice A m.length c]).run P w = .ok v' w' ∧ Own enc K w' B T v' (l ++ m) ∧ w.grownBy w' v.ownBlock ∧ w.heap.size ≤ w'.heap.size := by
  obtain ⟨i, z, hi, hz0, hz1, hz2, hb⟩ := hT.info
  cases m with
  | nil =>
    obtain ⟨A0, c0, rfl, _, hle, _⟩ := row_own hT.fits hown
    refine ⟨.slice A0 l.length c0, w, ?_, by rw [List.append_nil]; exact hown, grown_refl w _, Nat.le_refl _⟩
    refine run_append_nothing w ST ST ty T i hT.under hi A0 l.length c0 hle _ ?_
    cases A with
    | none => exact Src.ofNil w hT.under c
    | some a => exact Src.ofSlice w hT.under a 0 c [] (by simp) (fun j u h => by simp at h) (fun u h => by cases h)
  | cons x m =>
    obtain ⟨a, rfl, _, hc⟩ := hrow (by simp)
    obtain ⟨v', w', h1, h2, h3, _⟩ := run_append_own_at w B ST ty T i z K i.bytes hT.under hi hz0 hz2 rfl hz1 hT.pos v l.length (flat enc l) hown a (x :: m).length c (flat enc (x :: m))
      (flat_len hT.fits _) (row_news hT.fits hc) (flat_ones hT.fits _) (by unfold maxLen; omega) (by
        have : (l.length + (x :: m).length) * i.bytes ≤ 1000000 * 1000 := Nat.mul_le_mul hsz hb
        omega) hB
    refine ⟨v', w', h1, ?_, h3, h3.size⟩
    unfold Own
    rw [flat_app, List.length_append]
    exact h2
/-- At a plain list of operations: from a row that may be empty. -/
theorem wpList_appS (hT : SliceT P enc K ST T) {ops : Array Oper} {rest : List Oper} {o : Oper} {a : Act} {Q : Exit → Act → World → Prop} (hgd : o.guard = none) (sl x : Operand)
    (ho : o.op = .call { callee := .builtin .append, args := #[sl, x], argTypes := #[ST, ST] })
    (B : Nat) (v : Value) (l m : List α) (hs : a.eval sl = v) (hown : Own enc K w B T v l) (A : Option Addr) (n c : Nat) (hn : m.length = n) (hx : a.eval x = .slice A n c)
    (hrow : Row enc K w A m) (hsz : l.length + m.length ≤ 1000000) (hB : B ≤ w.heap.size)
    (h : ∀ v' w', Own enc K w' B T v' (l ++ m) → w.grownBy w' v.ownBlock → w.heap.size ≤ w'.heap.size → wpList P ops Q rest (a.put o.dst v') w') : wpList P ops Q (o :: rest) a w := by
  subst hn
  refine wpList_plain hgd fun _ hK => ?_
  obtain ⟨v', w', hr, h2, h3, h4⟩ := run_appS hT o.type B v l m hown A c hrow hsz hB
  unfold Oper.wp execOp
  simp only [ho, resolve, invoke, builtin, Sem.run_bind, Sem.run_pure, Result.andThen_ok, List.map_toArray, List.map_cons, List.map_nil, hs, hx, hr]
  exact hK _ _ (h v' w' h2 h3 h4)
theorem flat_set (hf : Fits enc K) : ∀ (l : List α) (i j : Nat) (hi : i < l.length) (x : α) (u : Value), j < K → enc x = (enc l[i]).set j u → flat enc (l.set i x) = (flat enc l).set (i * K + j) u
  | [], _, _, hi, _, _, _, _ => absurd hi (by simp)
  | s :: l, 0, j, _, x, u, hj, hx => by
    show enc x ++ flat enc l = (enc s ++ flat enc l).set (0 * K + j) u
    rw [Nat.zero_mul, Nat.zero_add, List.set_append, if_pos (by rw [hf.len]; exact hj), hx]; rfl
  | s :: l, i + 1, j, hi, x, u, hj, hx => by
    show enc s ++ flat enc (l.set i x) = (enc s ++ flat enc l).set ((i + 1) * K + j) u
    rw [List.set_append, if_neg (by rw [hf.len, Nat.add_mul]; omega), hf.len, show (i + 1) * K + j - K = i * K + j from by rw [Nat.add_mul]; omega, flat_set hf l i j (by simpa using hi) x u hj hx]
/-- A store into a row of one's own. -/
theorem own_store (hf : Fits enc K) {B g n cap : Nat} {l : List α} (h : Own enc K w B T (.slice (some ⟨g, 0, none⟩) n cap) l) (hn : l.length = n) (i j : Nat) (hi : i < l.length) (hj : j < K) (x : α) (u : Value) (hx : enc x = (enc l[i]).set j u) :
    Own enc K (w.setCell ⟨g, i * K + j, none⟩ u) B T (.slice (some ⟨g, 0, none⟩) n cap) (l.set i x) ∧ w.grownBy (w.setCell ⟨g, i * K + j, none⟩ u) (some g) := by
  subst hn
  have := World.ownsRow.stored (w := w) h (i * K + j) u
  refine ⟨?_, this.2⟩
  unfold Own
  rw [List.length_set, flat_set hf l i j hi x u hj hx]
  exact this.1
theorem own_form {B n cap : Nat} {A : Option Addr} {l : List α} (h : Own enc K w B T (.slice A n cap) l) (hl : 0 < l.length) : ∃ g, A = some ⟨g, 0, none⟩ ∧ B ≤ g ∧ g < w.heap.size ∧ (∀ j, w.frozen? ⟨g, j, none⟩ = false) := by
  rcases h.2 with ⟨_, h1⟩ | ⟨g, cp, cur, e, hb, hg, _⟩
  · omega
  · cases e
    refine ⟨g, rfl, hb, (Array.getElem?_eq_some_iff.1 hg).1, fun j => frozen_of_row w g j cur T hg⟩
theorem row_take {A : Option Addr} {l : List α} (h : Row enc K w A l) (k : Nat) : Row enc K w A (l.take k) := fun h0 => by
  rw [List.length_take] at h0
  obtain ⟨a, e, hb, hc⟩ := h (by omega)
  refine ⟨a, e, hb, fun i hi => ?_⟩
  rw [List.length_take] at hi
  rw [List.getElem_take]
  exact hc i (by omega)
theorem own_made (w : World) (_hf : Fits enc K) {B : Nat} (hB : B ≤ w.heap.size) : Own enc K (w.alloc (.cells #[] T)) B T (.slice (some ⟨w.heap.size, 0, none⟩) 0 0) ([] : List α) :=
  World.ownsRow_made w #[] 0 hB (by unfold maxLen; omega) (by simp)
end
end Go.Proofs.YtkdildgdodnbbaaGreatDoor.Rg
namespace Go.Proofs.YtkdildgdodnbbaaGreatDoor.Rm
section
variable {K : Type} (L : Line K)
theorem ins_cut (x : P K) (l : List (P K)) (k : Nat) (hk : k ≤ l.length) (h1 : ∀ y ∈ l.take k, (!lt L x.lo y.lo) = true) (h2 : ∀ h : k < l.length, (!lt L x.lo (l[k]'h).lo) = false) : ins L x l = l.take k ++ x :: l.drop k := by
  unfold ins
  have ht : l.takeWhile (fun y => !lt L x.lo y.lo) = l.take k := by
    conv => lhs; rw [← List.take_append_drop k l]
    rw [List.takeWhile_append_of_pos h1]
    by_cases h : k < l.length
    · rw [List.drop_eq_getElem_cons h, List.takeWhile_cons, h2 h]; simp
    · rw [List.drop_eq_nil_of_le (by omega)]; simp
  have hd : l.dropWhile (fun y => !lt L x.lo y.lo) = l.drop k := by
    have e := List.takeWhile_append_dropWhile (p := fun y => !lt L x.lo y.lo) (l := l)
    rw [ht] at e
    conv at e => rhs; rw [← List.take_append_drop k l]
    exact List.append_cancel_left e
  rw [ht, hd]
theorem srt_snoc (l : List (P K)) (k : Nat) (h : k < l.length) : srt L (l.take (k + 1)) = ins L l[k] (srt L (l.take k)) := by
  rw [List.take_succ_eq_append_getElem h]; unfold srt; rw [List.foldl_append]; rfl
/-- One step of the joining, at the end of what is joined already. -/
def mgS (out : List (P K)) (x : P K) : List (P K) :=
  if h : 0 < out.length then
    if L.le x.lo (out[out.length - 1]'(by omega)).hi then out.set (out.length - 1) { lo := (out[out.length - 1]'(by omega)).lo, hi := up L (out[out.length - 1]'(by omega)).hi x.hi } else out ++ [x]
  else [x]
theorem mgS_snoc (pre : List (P K)) (c x : P K) : mgS L (pre ++ [c]) x = pre ++ (if L.le x.lo c.hi then [{ lo := c.lo, hi := up L c.hi x.hi }] else [c, x]) := by
  have e : (pre ++ [c]).length - 1 = pre.length := by simp
  unfold mgS
  rw [dif_pos (by simp)]
  simp only [e]
  have hg : (pre ++ [c])[pre.length]'(by simp) = c := by simp
  rw [hg]
  split
  · rw [List.set_append, if_neg (by omega), Nat.sub_self]; rfl
  · simp
theorem mgS_mrg : ∀ (t pre : List (P K)) (c : P K), t.foldl (mgS L) (pre ++ [c]) = pre ++ mrg L c t
  | [], pre, c => rfl
  | x :: t, pre, c => by
    rw [List.foldl_cons, mgS_snoc]
    show _ = pre ++ (if L.le x.lo c.hi then mrg L { c with hi := up L c.hi x.hi } t else c :: mrg L x t)
    split
    · exact mgS_mrg t pre _
    · rw [show pre ++ [c, x] = (pre ++ [c]) ++ [x] from by simp, mgS_mrg t (pre ++ [c]) x]; simp
def mgd (l : List (P K)) : List (P K) := l.foldl (mgS L) []
theorem mgd_snoc (l : List (P K)) (k : Nat) (h : k < l.length) : mgd L (l.take (k + 1)) = mgS L (mgd L (l.take k)) l[k] := by
  rw [List.take_succ_eq_append_getElem h]; unfold mgd; rw [List.foldl_append]; rfl
theorem joinK_mgd (l : List (P K)) : joinK L l = mgd L (srt L l) := by
  unfold joinK mgd
  cases srt L l with
  | nil => rfl
  | cons a t => rw [List.foldl_cons, show mgS L [] a = [] ++ [a] from by unfold mgS; rw [dif_neg (by simp)]; rfl, mgS_mrg]; rfl
theorem mgS_len (out : List (P K)) (x : P K) : (mgS L out x).length ≤ out.length + 1 := by
  unfold mgS; split
  · split <;> simp
  · simp
theorem mgd_len (l : List (P K)) : ∀ k, k ≤ l.length → (mgd L (l.take k)).length ≤ k
  | 0, _ => by simp [mgd]
  | k + 1, h => by
    rw [mgd_snoc L l k h]
    have := mgS_len L (mgd L (l.take k)) l[k]
    have := mgd_len l k (by omega)
    omega
end
end Go.Proofs.YtkdildgdodnbbaaGreatDoor.Rm
namespace Go.Proofs.YtkdildgdodnbbaaGreatDoor
open Rs
theorem ok2_mgS {out : List (Rm.P Cut)} {x : Rm.P Cut} (h : ∀ p ∈ out, Ok2 p) (hx : Ok2 x) : ∀ p ∈ Rm.mgS Ln out x, Ok2 p := by
  intro p hp
  unfold Rm.mgS at hp
  split at hp
  · rename_i h0
    have hl := h _ (List.getElem_mem (show out.length - 1 < out.length by omega))
    split at hp
    · rcases List.mem_or_eq_of_mem_set hp with hp | rfl
      · exact h p hp
      · refine ⟨hl.1, ?_⟩
        show HiOk (Rm.up Ln _ _)
        unfold Rm.up
        split
        · exact hx.2
        · exact hl.2
    · rcases List.mem_append.1 hp with hp | hp
      · exact h p hp
      · cases List.mem_singleton.1 hp; exact hx
  · cases List.mem_singleton.1 hp; exact hx
theorem ok2_mgd {l : List (Rm.P Cut)} (h : ∀ p ∈ l, Ok2 p) : ∀ k, k ≤ l.length → ∀ p ∈ Rm.mgd Ln (l.take k), Ok2 p
  | 0, _ => fun p hp => by simp [Rm.mgd] at hp
  | k + 1, hk => by
    rw [Rm.mgd_snoc Ln l k hk]
    exact ok2_mgS (ok2_mgd h k (by omega)) (h _ (List.getElem_mem _))
theorem ok2_srt {l : List (Rm.P Cut)} (h : ∀ p ∈ l, Ok2 p) : ∀ p ∈ Rm.srt Ln l, Ok2 p := fun p hp => h p ((Rm.mem_srt Ln l p).1 hp)
end Go.Proofs.YtkdildgdodnbbaaGreatDoor
namespace Go.Proofs.YtkdildgdodnbbaaGreatDoor.Rg
section
variable {α : Type} {enc : α → List Value} {K : Nat} {w : World}
theorem row_drop {A A' : Option Addr} {l : List α} (h : Row enc K w A l) (k : Nat) (hA : k < l.length → A' = A.map (fun a => a.add (k * K))) : Row enc K w A' (l.drop k) := fun h0 => by
  rw [List.length_drop] at h0
  obtain ⟨a, rfl, hb, hc⟩ := h (by omega)
  refine ⟨a.add (k * K), hA (by omega), by rw [Rs.add_block]; exact hb, fun i hi => ?_⟩
  rw [List.length_drop] at hi
  rw [List.getElem_drop, Go.Deep.add_add, ← Nat.add_mul]
  exact hc (k + i) (by omega)
theorem own_weak {B B' : Nat} {T : TypeId} {v : Value} {l : List α} (hB : B ≤ B') (h : Own enc K w B' T v l) : Own enc K w B T v l := by
  refine ⟨h.1, ?_⟩
  rcases h.2 with h2 | ⟨g, cap, cur, e, hb, h3⟩
  · exact Or.inl h2
  · exact Or.inr ⟨g, cap, cur, e, Nat.le_trans hB hb, h3⟩
end
end Go.Proofs.YtkdildgdodnbbaaGreatDoor.Rg
namespace Go.Proofs.YtkdildgdodnbbaaGreatDoor
open Go.RowKit Rs
attribute [local go_sem ↓] Go.wp_at_zero Go.wp_at_succ

theorem rrow_of {w : World} {B n : Nat} {v : Value} {l : List Sp} (h : ROwn w B v l) (hn : l.length = n) : ∃ C d, v = .slice C n d ∧ SRow w C l ∧ Rg.Row spC 4 w C l ∧ n ≤ d ∧ d ≤ maxLen ∧ ∀ a, C = some a → B ≤ a.block := by
  subst hn
  obtain ⟨C, d, hv, hr⟩ := srow_own (T := 90) h
  obtain ⟨C2, d2, hv2, h2, h3, h4⟩ := Rg.row_own fitsS h
  rw [hv] at hv2
  cases hv2
  exact ⟨C, d, hv, hr, h2, h3, h4, fun a ha => by subst ha; exact (Rg.own_lt h a.block (by rw [hv]; rfl)).1⟩
theorem lowerP_any (p q : Rm.P Cut) (b : Bool) (w : World) (hp : Ok2 p) (hq : Ok2 q) (hb : Rm.lt Ln p.lo q.lo = b) :
    Calls Tryz.prog 89 #[.agg #[.string ⟨(spOf p).lo.toArray⟩, .string ⟨(spOf p).hi.toArray⟩, .bool (spOf p).li, .bool (spOf p).hn], .agg #[.string ⟨(spOf q).lo.toArray⟩, .string ⟨(spOf q).hi.toArray⟩, .bool (spOf q).li, .bool (spOf q).hn]] w fun e w' => e = .returned (.bool b) ∧ Below w.heap.size w w' := by
  have := lower_any (spOf p).lo (spOf p).hi (spOf p).li (spOf p).hn (spOf q).lo (spOf q).hi (spOf q).li (spOf q).hn w (fun h => (Rs.bound_own (spOf_bounds hp).1 h).1) (fun h => (Rs.bound_own (spOf_bounds hq).1 h).1)
  rw [show lowerS (Sp.mk (spOf p).lo (spOf p).hi (spOf p).li (spOf p).hn) (Sp.mk (spOf q).lo (spOf q).hi (spOf q).li (spOf q).hn) = b from (lowerS_lt hp hq).trans hb] at this
  exact this
theorem beyondP_any (p q : Rm.P Cut) (b : Bool) (w : World) (hp : Ok2 p) (hq : Ok2 q) (hb : Rm.lt Ln q.hi p.hi = b) :
    Calls Tryz.prog 90 #[.agg #[.string ⟨(spOf p).lo.toArray⟩, .string ⟨(spOf p).hi.toArray⟩, .bool (spOf p).li, .bool (spOf p).hn], .agg #[.string ⟨(spOf q).lo.toArray⟩, .string ⟨(spOf q).hi.toArray⟩, .bool (spOf q).li, .bool (spOf q).hn]] w fun e w' => e = .returned (.bool b) ∧ Below w.heap.size w w' := by
  have := beyond_any (spOf p).lo (spOf p).hi (spOf p).li (spOf p).hn (spOf q).lo (spOf q).hi (spOf q).li (spOf q).hn w (fun h => (Rs.bound_own (spOf_bounds hp).2.1 h).1) (fun h => (Rs.bound_own (spOf_bounds hq).2.1 h).1)
  rw [show beyondS (Sp.mk (spOf p).lo (spOf p).hi (spOf p).li (spOf p).hn) (Sp.mk (spOf q).lo (spOf q).hi (spOf q).li (spOf q).hn) = b from (beyondS_lt hp hq).trans hb] at this
  exact this
theorem touchP_any (p q : Rm.P Cut) (b : Bool) (w : World) (hp : Ok2 p) (hq : Ok2 q) (hb : Ln.le q.lo p.hi = b) :
    Calls Tryz.prog 111 #[.agg #[.string ⟨(spOf p).lo.toArray⟩, .string ⟨(spOf p).hi.toArray⟩, .bool (spOf p).li, .bool (spOf p).hn], .agg #[.string ⟨(spOf q).lo.toArray⟩, .string ⟨(spOf q).hi.toArray⟩, .bool (spOf q).li, .bool (spOf q).hn]] w fun e w' => e = .returned (.bool b) ∧ Below w.heap.size w w' := by
  have := touch_any (spOf p).lo (spOf p).hi (spOf p).li (spOf p).hn (spOf q).lo (spOf q).hi (spOf q).li (spOf q).hn w (fun h => (Rs.bound_own (spOf_bounds hp).2.1 h).1) (fun h => (Rs.bound_own (spOf_bounds hq).1 h).1)
  rw [show touchS (Sp.mk (spOf p).lo (spOf p).hi (spOf p).li (spOf p).hn) (Sp.mk (spOf q).lo (spOf q).hi (spOf q).li (spOf q).hn) = b from (touchS_le hp hq).trans hb] at this
  exact this
theorem spC_spOf (p : Rm.P Cut) : Rs.spC (spOf p) = [.string ⟨(spOf p).lo.toArray⟩, .string ⟨(spOf p).hi.toArray⟩, .bool (spOf p).li, .bool (spOf p).hn] := rfl
theorem rX_run (V : Option Addr) (k vc m : Nat) (h : m ≤ k) (h2 : k ≤ vc) (_hv : vc ≤ maxLen) : ∀ W : World, (Instr.sliceAt 36 (.slice V k vc) none (some (.int .i64 m)) none).run Tryz.prog W = .ok (.slice V m vc) W := by
  intro W
  have i0 : (0 : Int) ≤ (m : Int) := by omega
  have i1 : (m : Int) ≤ (k : Int) := by omega
  have i2 : (m : Int) ≤ (vc : Int) := by omega
  go_simp
theorem rY_run (V : Option Addr) (k vc m : Nat) (h : m ≤ k) (h2 : k ≤ vc) (_hv : vc ≤ maxLen) : ∃ Y, ((if vc = m then V else V.map (fun x => x.add (m * 4))) = Y) ∧ ∀ W : World, (Instr.sliceAt 36 (.slice V k vc) (some (.int .i64 m)) none none).run Tryz.prog W = .ok (.slice Y (k - m) (vc - m)) W := by
  refine ⟨_, rfl, fun W => ?_⟩
  have i0 : (0 : Int) ≤ (m : Int) := by omega
  have i1 : (m : Int) ≤ (k : Int) := by omega
  have i2 : (m : Int) ≤ (vc : Int) := by omega
  go_simp
end Go.Proofs.YtkdildgdodnbbaaGreatDoor

/- closePieces: what follows piece by piece; one piece is all there is up to 1000 clauses: walked. -/
import Derived.Test.YtjkmdghlhodhiaaOya
import Derived.Test.YtjkmdghlhodhiaaOxh
import Derived.Shelf.Abstract
import Derived.Shelf.RegionOpen
import Derived.RegionIn
namespace Go.Proofs.Ytjkmdghlhodhiaa.Up
open Go.RowKit Cl
/-- Between two rounds. -/
def PcSt (w : World) (n : Int) (pv : Value) (l : List (List Int)) (s : List Int) (bad : Bool) (pre : List Unit) (W : World) : Prop :=
  ((W.cell? ⟨w.heap.size, 0, none⟩ = some (.int .i64 n) ∧ w.heap.size + 1 + 1 + 1 + 1 + 1 ≤ W.heap.size) ∧ ∃ v q, W.cell? ⟨w.heap.size + 1, 0, none⟩ = some v ∧ W.frozen? ⟨w.heap.size + 1, 0, none⟩ = false ∧ W.cell? ⟨w.heap.size + 1 + 1, 0, none⟩ = some (.bool q) ∧ W.frozen? ⟨w.heap.size + 1 + 1, 0, none⟩ = false ∧
    ((pre = [] ∧ v = pv ∧ q = false) ∨ (pre = [()] ∧ q = bad ∧ ∃ out, IsClose l s out bad ∧ Rg.Own encI 1 W (w.heap.size + 1 + 1 + 1 + 1 + 1) 3 v out))) ∧ Below w.heap.size w W
theorem pcSt_own (w : World) (n : Int) (pv : Value) (l : List (List Int)) (s : List Int) (bad : Bool) (B : Nat) (hB : w.heap.size ≤ B) : OwnFrom B (PcSt w n pv l s bad) := by
  refine OwnFrom.and (Own.from (fun pre A C row hs hg hr => ?_) B) (ownFrom_below (Nat.le_refl _) hB)
  obtain ⟨⟨h1, h0⟩, v, q, h2, h3, h4, h5, h6⟩ := hs
  refine ⟨⟨cell_kept h1 hg hr, Nat.le_trans h0 hg.size⟩, v, q, cell_kept h2 hg hr, (frozen_kept h2 hg hr).trans h3, cell_kept h4 hg hr, (frozen_kept h4 hg hr).trans h5, ?_⟩
  rcases h6 with h6 | ⟨e, e2, out, hc, ho⟩
  · exact .inl h6
  · refine .inr ⟨e, e2, out, hc, World.ownsRow.kept ho hg ?_⟩
    rcases ho.2 with ⟨hn, _⟩ | ⟨g, cap, cur, rfl, _, hgg, _⟩
    · exact .inl (by rw [hn]; rfl)
    · refine .inr fun e => ?_
      obtain ⟨o, ho, hc⟩ := hr g e.symm
      rw [hgg] at ho; cases ho; cases hc
theorem cell_lt {W : World} {b : Nat} {v : Value} (h : W.cell? ⟨b, 0, none⟩ = some v) : b < W.heap.size := by
  rcases Nat.lt_or_ge b W.heap.size with h1 | h1
  · exact h1
  · have : W.heap[b]? = none := Array.getElem?_eq_none h1
    simp [World.cell?, this] at h
theorem five_cells {w W1 W2 W3 W4 W5 : World} {a b c d e : Value} {t1 t2 t3 t4 t5 : TypeId} (h1 : w.alloc (.cells #[a] t1) = W1) (h2 : W1.alloc (.cells #[b] t2) = W2) (h3 : W2.alloc (.cells #[c] t3) = W3) (h4 : W3.alloc (.cells #[d] t4) = W4) (h5 : W4.alloc (.cells #[e] t5) = W5) :
    W5.heap.size = w.heap.size + 1 + 1 + 1 + 1 + 1 ∧ Below w.heap.size w W5 ∧ W5.cell? ⟨w.heap.size, 0, none⟩ = some a ∧ (W5.cell? ⟨w.heap.size + 1, 0, none⟩ = some b ∧ W5.frozen? ⟨w.heap.size + 1, 0, none⟩ = false) ∧ (W5.cell? ⟨w.heap.size + 1 + 1, 0, none⟩ = some c ∧ W5.frozen? ⟨w.heap.size + 1 + 1, 0, none⟩ = false) ∧
    W5.cell? ⟨w.heap.size + 1 + 1 + 1, 0, none⟩ = some d ∧ W5.cell? ⟨w.heap.size + 1 + 1 + 1 + 1, 0, none⟩ = some e := by
  have s1 : W1.heap.size = w.heap.size + 1 := by rw [← h1]; simp
  have s2 : W2.heap.size = w.heap.size + 1 + 1 := by rw [← h2]; simp [s1]
  have s3 : W3.heap.size = w.heap.size + 1 + 1 + 1 := by rw [← h3]; simp [s2]
  have s4 : W4.heap.size = w.heap.size + 1 + 1 + 1 + 1 := by rw [← h4]; simp [s3]
  have s5 : W5.heap.size = w.heap.size + 1 + 1 + 1 + 1 + 1 := by rw [← h5]; simp [s4]
  have b5 := alloc_low h5
  have b4 := (alloc_low h4).trans (b5.mono (alloc_low h4).size)
  have b3 := (alloc_low h3).trans (b4.mono (alloc_low h3).size)
  have b2 := (alloc_low h2).trans (b3.mono (alloc_low h2).size)
  have b1 := (alloc_low h1).trans (b2.mono (alloc_low h1).size)
  have x1 := cell_int w _ t1 a (Below.refl _ _)
  have x2 := cell_int W1 _ t2 b (Below.refl _ _)
  have x3 := cell_int W2 _ t3 c (Below.refl _ _)
  have x4 := cell_int W3 _ t4 d (Below.refl _ _)
  have x5 := cell_int W4 _ t5 e (Below.refl _ _)
  rw [h1] at x1
  rw [h2, s1] at x2
  rw [h3, s2] at x3
  rw [h4, s3] at x4
  rw [h5, s4] at x5
  refine ⟨s5, b1, ?_, ⟨?_, ?_⟩, ⟨?_, ?_⟩, ?_, x5.1⟩
  · exact (b2.cell (p := ⟨w.heap.size, 0, none⟩) (by show w.heap.size < _; omega)).trans x1.1
  · exact (b3.cell (p := ⟨w.heap.size + 1, 0, none⟩) (by show w.heap.size + 1 < _; omega)).trans x2.1
  · exact (b3.frozen (p := ⟨w.heap.size + 1, 0, none⟩) (by show w.heap.size + 1 < _; omega)).trans x2.2
  · exact (b4.cell (p := ⟨w.heap.size + 1 + 1, 0, none⟩) (by show w.heap.size + 1 + 1 < _; omega)).trans x3.1
  · exact (b4.frozen (p := ⟨w.heap.size + 1 + 1, 0, none⟩) (by show w.heap.size + 1 + 1 < _; omega)).trans x3.2
  · exact (b5.cell (p := ⟨w.heap.size + 1 + 1 + 1, 0, none⟩) (by show w.heap.size + 1 + 1 + 1 < _; omega)).trans x4.1
/-- A round's end. -/
theorem pc_turn {w W W' : World} {n : Int} {pv : Value} {l : List (List Int)} {s out : List Int} {bad : Bool} {C : Option Addr} {q : Nat} {x y : Value} (hB : Below w.heap.size w W) (hz : w.heap.size + 1 + 1 + 1 + 1 + 1 ≤ W.heap.size)
    (h0 : W.cell? ⟨w.heap.size, 0, none⟩ = some (.int .i64 n)) (e1 : W'.cell? ⟨w.heap.size + 1, 0, none⟩ = some x) (e2 : W'.frozen? ⟨w.heap.size + 1, 0, none⟩ = false) (e3 : W'.cell? ⟨w.heap.size + 1 + 1, 0, none⟩ = some y) (e4 : W'.frozen? ⟨w.heap.size + 1 + 1, 0, none⟩ = false)
    (hb : Below W.heap.size W W') (hc : IsClose l s out bad) (ho : Rg.Own encI 1 W' W.heap.size 3 (.slice C out.length q) out) (B : Nat) :
    KeepsFrom B W ((W'.setCell ⟨w.heap.size + 1, 0, none⟩ (.slice C out.length q)).setCell ⟨w.heap.size + 1 + 1, 0, none⟩ (.bool bad)) ∧
    KpC (w.heap.size + 1 + 1 + 1) (w.heap.size + 1 + 1 + 1 + 1) W ((W'.setCell ⟨w.heap.size + 1, 0, none⟩ (.slice C out.length q)).setCell ⟨w.heap.size + 1 + 1, 0, none⟩ (.bool bad)) ∧
    PcSt w n pv l s bad [()] ((W'.setCell ⟨w.heap.size + 1, 0, none⟩ (.slice C out.length q)).setCell ⟨w.heap.size + 1 + 1, 0, none⟩ (.bool bad)) := by
  have far : ∀ (b : Nat) (u : World) (v v2 : Value), b ≠ w.heap.size + 1 → b ≠ w.heap.size + 1 + 1 → ((u.setCell ⟨w.heap.size + 1, 0, none⟩ v).setCell ⟨w.heap.size + 1 + 1, 0, none⟩ v2).cell? ⟨b, 0, none⟩ = u.cell? ⟨b, 0, none⟩ := fun b u v v2 n1 n2 => by
    rw [World.cell?_setCell_far _ _ _ _ (by show w.heap.size + 1 + 1 ≠ b; omega), World.cell?_setCell_far _ _ _ _ (by show w.heap.size + 1 ≠ b; omega)]
  refine ⟨?_, ⟨?_, ?_⟩, ⟨?_, .slice C out.length q, bad, ?_, ?_, ?_, ?_, ?_⟩, ?_⟩
  · exact (KeepsFrom.trans ⟨hb.size, fun k o _ hk _ => (hb.block k (Array.getElem?_eq_some_iff.1 hk).1).trans hk⟩ ((KeepsOthers.setCell _ _ _).from _)).trans ((KeepsOthers.setCell _ _ _).from _)
  · rw [far _ _ _ _ (by omega) (by omega)]; exact hb.cell (p := ⟨_, 0, none⟩) (by show w.heap.size + 1 + 1 + 1 < _; omega)
  · rw [far _ _ _ _ (by omega) (by omega)]; exact hb.cell (p := ⟨_, 0, none⟩) (by show w.heap.size + 1 + 1 + 1 + 1 < _; omega)
  · refine ⟨?_, by simp [World.setCell]; have := hb.size; omega⟩
    rw [far _ _ _ _ (by omega) (by omega)]; exact (hb.cell (p := ⟨_, 0, none⟩) (by show w.heap.size < _; omega)).trans h0
  · rw [World.cell?_setCell_far _ _ _ _ (by show w.heap.size + 1 + 1 ≠ w.heap.size + 1; omega)]
    exact World.cell?_setCell_same' _ _ _ (by rw [e1]; rfl)
  · simp [go_sem, e2]
  · exact World.cell?_setCell_same' _ _ _ (by rw [World.cell?_setCell_far _ _ _ _ (by show w.heap.size + 1 ≠ w.heap.size + 1 + 1; omega), e3]; rfl)
  · simp [go_sem, e4]
  · refine .inr ⟨rfl, rfl, out, hc, Rg.own_weak hz ?_⟩
    have hset : ∀ (u : World) (b : Nat) (v2 : Value), b < W.heap.size → Rg.Own encI 1 u W.heap.size 3 (.slice C out.length q) out → Rg.Own encI 1 (u.setCell ⟨b, 0, none⟩ v2) W.heap.size 3 (.slice C out.length q) out := fun u b v2 hlt h => World.ownsRow.kept h (set_grown u _ _) (by
      by_cases e : (Value.slice C out.length q).ownBlock = none
      · exact .inl e
      · refine .inr fun e2 => ?_
        have h1 := (Rg.own_lt h _ e2).1
        have h1 : W.heap.size ≤ b := h1
        omega)
    exact hset _ _ _ (by omega) (hset _ _ _ (by omega) ho)
  · exact ((hB.trans (hb.mono hB.size)).setCell (by show w.heap.size ≤ w.heap.size + 1; omega) _).setCell (by show w.heap.size ≤ w.heap.size + 1 + 1; omega) _
/-- What is behind the loop is there behind the return. -/
theorem pc_row {w W V : World} {D : Nat} {v : Value} {out : List Int} (ho : Rg.Own encI 1 W (w.heap.size + 1 + 1 + 1 + 1 + 1) 3 v out) (hK : W.heap[D]? = some (.deferred (some []))) (hV : ∀ k, w.heap.size + 1 + 1 + 1 + 1 + 1 ≤ k → k ≠ D → V.heap[k]? = W.heap[k]?) :
    Rg.Own encI 1 V (w.heap.size + 1 + 1 + 1 + 1 + 1) 3 v out := by
  unfold Rg.Own World.ownsRow at ho ⊢
  refine ⟨ho.1, ?_⟩
  rcases ho.2 with h | ⟨g, cap, cur, e, hb, hg, rest⟩
  · exact .inl h
  · refine .inr ⟨g, cap, cur, e, hb, (hV g hb fun e => ?_).trans hg, rest⟩
    rw [e, hK] at hg; cases hg
theorem pc_back {w W : World} {D : Nat} {x y : Value} {u v : Value} (hK : W.heap[D]? = some (.deferred (some []))) (hD : w.heap.size + 1 + 1 + 1 + 1 + 1 ≤ D) (hb : Below w.heap.size w W) (e1 : W.cell? ⟨w.heap.size + 1, 0, none⟩ = some u) (e3 : W.cell? ⟨w.heap.size + 1 + 1, 0, none⟩ = some v)
    {V : World} (hV : ((W.setCell ⟨w.heap.size + 1, 0, none⟩ x).setCell ⟨w.heap.size + 1 + 1, 0, none⟩ y).drew = V) :
    V.heap[D]? = some (.deferred (some [])) ∧ (V.putObj D (.deferred none)).cell? ⟨w.heap.size + 1, 0, none⟩ = some x ∧ (V.putObj D (.deferred none)).cell? ⟨w.heap.size + 1 + 1, 0, none⟩ = some y ∧ Below w.heap.size w (V.putObj D (.deferred none)) ∧
    ∀ k, w.heap.size + 1 + 1 + 1 + 1 + 1 ≤ k → k ≠ D → (V.putObj D (.deferred none)).heap[k]? = W.heap[k]? := by
  have h0 : V.heap[D]? = some (.deferred (some [])) := by
    rw [← hV]
    exact (KeepsOthers.setCell _ _ _).same D _ ((KeepsOthers.setCell _ _ _).same D _ hK rfl) rfl
  have hput : ∀ k, k ≠ D → (V.putObj D (.deferred none)).heap[k]? = V.heap[k]? := fun k hk => World.putObj_heap_other hk
  have hcp : ∀ k, k ≠ D → (V.putObj D (.deferred none)).cell? ⟨k, 0, none⟩ = V.cell? ⟨k, 0, none⟩ := fun k hk => World.cell?_of_block (hput k hk)
  have c1 : V.cell? ⟨w.heap.size + 1, 0, none⟩ = some x := by
    rw [← hV]
    show ((W.setCell ⟨w.heap.size + 1, 0, none⟩ x).setCell ⟨w.heap.size + 1 + 1, 0, none⟩ y).cell? _ = _
    rw [World.cell?_setCell_far _ _ _ _ (by show w.heap.size + 1 + 1 ≠ w.heap.size + 1; omega)]
    exact World.cell?_setCell_same' _ _ _ (by rw [e1]; rfl)
  have c2 : V.cell? ⟨w.heap.size + 1 + 1, 0, none⟩ = some y := by
    rw [← hV]
    exact World.cell?_setCell_same' _ _ _ (by rw [World.cell?_setCell_far _ _ _ _ (by show w.heap.size + 1 ≠ w.heap.size + 1 + 1; omega), e3]; rfl)
  refine ⟨h0, (hcp _ (by omega)).trans c1, (hcp _ (by omega)).trans c2, ?_, fun k hk hkD => (hput k hkD).trans ?_⟩
  · refine Below.trans ?_ (belowK_b (w := w) (Nat.le_refl _) V D _ _ (by omega) h0 rfl rfl)
    rw [← hV]
    exact ((hb.setCell (by show w.heap.size ≤ w.heap.size + 1; omega) _).setCell (by show w.heap.size ≤ w.heap.size + 1 + 1; omega) _).drew
  · rw [← hV]
    show ((W.setCell ⟨w.heap.size + 1, 0, none⟩ x).setCell ⟨w.heap.size + 1 + 1, 0, none⟩ y).heap[k]? = _
    rw [Below.heap_setCell _ _ _ _ (by show k ≠ w.heap.size + 1 + 1; omega), Below.heap_setCell _ _ _ _ (by show k ≠ w.heap.size + 1; omega)]
/-- What closePieces returns. -/
def PieceRet (w : World) (l : List (List Int)) (s : List Int) (e : Ending) (w' : World) : Prop := ∃ C q out bad, e = .returned (.tuple #[.slice C out.length q, .bool bad]) ∧ IRow w' C out ∧ IsClose l s out bad ∧ Below w.heap.size w w' ∧ w.heap.size ≤ w'.heap.size
theorem close_none {s : List Int} (hu : Up s) (hn : ¬ Contra [] s) : IsClose [] s s false := .inr ⟨rfl, hn, hu, fun x => ⟨fun h => .lit h, fun h => by
  cases h with
  | lit h => exact h
  | cl hc => exact absurd hc (by simp)⟩⟩
end Go.Proofs.Ytjkmdghlhodhiaa.Up
namespace Go.Proofs.Ytjkmdghlhodhiaa
open Go.RowKit Cl Up
attribute [local go_sem ↓] Go.wp_at_zero Go.wp_at_succ
attribute [local go_sem] Oper.semAt_some
set_option maxRecDepth 100000 in
set_option maxHeartbeats 3200000 in
theorem pieces_any (n : Nat) (A B : Option Addr) (ll kk c d : Nat) (l : List (List Int)) (s : List Int) (w : World) (hl : l.length = ll) (hg : CRow w A l) (hcap : ll ≤ c) (hk : s.length = kk) (hs : IRow w B s) (hn : n ≤ 256) (hln : ∀ c ∈ l, ∀ x ∈ c, LitOf n x) (hsn : ∀ x ∈ s, LitOf n x) (hl1 : ll ≤ 1000) (hk1 : kk ≤ 1000) (hlc : ∀ c ∈ l, c.length ≤ 256) (hu : Up s) (hnc : ¬ Contra [] s) :
    Calls Try.prog 49 #[.int .i64 n, .slice A ll c, .slice B kk d] w (PieceRet w l s) := by
  have HC := Lib.hid fun (u : World) (hb : Below w.heap.size w u) => pClose_any n A B ll kk ll d l s u hl (crow_below hg hb) hk (irow_below hs hb) hn hln hsn hl1 hk1 hlc
  have hA : 0 < ll → ∃ ad, A = some ad := fun h => by
    obtain ⟨ad, _, _, _, _, e, _⟩ := crow_at hg 0 (by omega)
    exact ⟨ad, e⟩
  have hll : ll ≤ 131072 := by omega
  have HEMP : Hid (ll = 0 → IsClose l s s false) := fun e => by
    have : l = [] := List.length_eq_zero_iff.1 (hl.trans e)
    rw [this]; exact close_none hu hnc
  have HS := Lib.hid hs
  have HK := Lib.hid hk
  clear hl hg hs hln hsn hl1 hk1 hlc hu hnc hk hn
  refine (callsIn_wide (n := 3)).1 ?_
  refine callsIn_of_wp_marks Try.func49 rfl trivial ?_ rfl
  simp only [Try.ntmps49, List.size_toArray, List.length_cons, List.length_nil, Nat.reduceAdd, Nat.reduceSub, Array.replicate_succ, Array.replicate_zero, List.push_toArray, List.append_toArray, List.nil_append, List.cons_append]
  gi_wp2_with (refine ⟨trivial, ?_⟩; gi_at_call 58; refine (callsIn_wide.2 (chunk_any A ll c _)).mono ?_; rintro e u ⟨rfl, rfl⟩)
  obtain ⟨W1, hW1⟩ : ∃ W, w.alloc (.cells #[.int .i64 (n : Int)] 3) = W := ⟨_, rfl⟩
  obtain ⟨W2, hW2⟩ : ∃ W, W1.alloc (.cells #[.slice B kk d] 23) = W := ⟨_, rfl⟩
  obtain ⟨W3, hW3⟩ : ∃ W, W2.alloc (.cells #[.bool false] 4) = W := ⟨_, rfl⟩
  obtain ⟨W4, hW4⟩ : ∃ W, W3.alloc (.cells #[.slice A ll c] 29) = W := ⟨_, rfl⟩
  obtain ⟨W5, hW5⟩ : ∃ W, W4.alloc (.cells #[.int .i64 131072] 3) = W := ⟨_, rfl⟩
  obtain ⟨z5, hb5, c0, ⟨c1, f1⟩, ⟨c2, f2⟩, c3, c4⟩ := five_cells hW1 hW2 hW3 hW4 hW5
  rw [hW1, hW2, hW3, hW4, hW5]
  clear hW1 hW2 hW3 hW4 hW5
  refine wpIn_rangeFunc_ownG (α := Unit) rfl (by omega) (gf := 62) (lb := #[.pointer (some ⟨w.heap.size + 1 + 1 + 1, 0, none⟩), .pointer (some ⟨w.heap.size + 1 + 1 + 1 + 1, 0, none⟩)]) rfl trivial (Go.Proofs.enters_of Try.func62 (by kernel_rfl) rfl)
    (chunk_seq (3 - 1) (by omega) (w.heap.size + 1 + 1 + 1) (w.heap.size + 1 + 1 + 1 + 1) A ll c W5 (by omega) (by omega) c3 c4 hll hcap hA)
    (fun h k => ⟨k.1.trans h.1, k.2.trans h.2⟩) (fun W q o o' hq hW hc hw => ?kb) (Below.refl _ _) (fun _ => rfl)
    (PcSt w n (.slice B kk d) l s false) (fun e pre W => e = .exit 0 ∧ PcSt w n (.slice B kk d) l s true pre W) (pcSt_own _ _ _ _ _ _ _ (by omega)) (fun e => ?ix)
    ⟨⟨⟨c0, by omega⟩, _, _, c1, f1, c2, f2, .inl ⟨rfl, rfl, rfl⟩⟩, hb5⟩
    (fun _ => { tmps := #[.int .i64 n, .slice A ll c, .slice B kk d, .pointer (some ⟨w.heap.size, 0, none⟩), undef, undef, .pointer (some ⟨w.heap.size + 1, 0, none⟩), .pointer (some ⟨w.heap.size + 1 + 1, 0, none⟩), .slice A ll ll, .slice B kk d, .slice A ll c, .func (.func 62) #[] #[.pointer (some ⟨w.heap.size + 1 + 1 + 1, 0, none⟩), .pointer (some ⟨w.heap.size + 1 + 1 + 1 + 1, 0, none⟩)], .slice A ll ll, undef, undef, undef, undef, undef, undef, undef, undef, undef, undef], defers := [] })
    ?assign ?body ?done ?stop
  case kb =>
    have h := belowK_b (w := W5) (Nat.le_refl _) W q o o' hq hW hc hw
    exact ⟨h.cell (p := ⟨_, 0, none⟩) (by show w.heap.size + 1 + 1 + 1 < _; omega), h.cell (p := ⟨_, 0, none⟩) (by show w.heap.size + 1 + 1 + 1 + 1 < _; omega)⟩
  case ix => exact OwnFrom.and (ownFrom_pure _ _) (pcSt_own _ _ _ _ _ _ _ (by omega))
  case assign =>
    intro l x W K hK
    gi_wp2
    exact hK
  case body =>
    rintro lp pre x W ⟨⟨⟨h0, hz⟩, v, q, h1, g1, h2, g2, h3⟩, hb⟩ hlen
    have hp : pre = [] := List.length_eq_zero_iff.1 (by omega)
    subst hp
    rcases h3 with ⟨_, rfl, rfl⟩ | ⟨h3, _⟩
    case inr => cases h3
    have HB := Lib.hid hb
    have HCW := Lib.hid (HC.out W hb)
    have HWS : Hid (w.heap.size ≤ W.heap.size) := hb.size
    clear hb HC
    gi_wp2_with (refine ⟨trivial, ?_⟩; gi_at_call 48; refine (CallsIn.inRound lp (callsIn_wide.2 HCW.out)).mono ?_; rintro e W' ⟨v, out, bad, rfl, hcl, ho, hb2, hz2⟩; obtain ⟨Cv, qv, rfl, hrow, _, _⟩ := Rg.row_own fitsI ho; have e1 : W'.cell? ⟨w.heap.size + 1, 0, none⟩ = some (.slice B kk d) := (hb2.cell (p := ⟨w.heap.size + 1, 0, none⟩) (cell_lt h1)).trans h1; have e2 := (hb2.frozen (p := ⟨w.heap.size + 1, 0, none⟩) (cell_lt h1)).trans g1; have e3 := (hb2.cell (p := ⟨w.heap.size + 1 + 1, 0, none⟩) (cell_lt h2)).trans h2; have e4 := (hb2.frozen (p := ⟨w.heap.size + 1 + 1, 0, none⟩) (cell_lt h2)).trans g2; cases bad)
    all_goals obtain ⟨k1, k2, k3⟩ := pc_turn (pv := .slice B kk d) HB.out hz h0 e1 e2 e3 e4 hb2 hcl ho W5.heap.size
    · exact ⟨k1, k2, k3⟩
    · exact ⟨k1, rfl, k3⟩
  case done =>
    rintro D xs W hD rfl ⟨⟨⟨h0, hz⟩, v, q, h1, g1, h2, g2, h3⟩, hb⟩ hK
    obtain ⟨C, cq, out, rfl, hrow, hcl⟩ : ∃ C cq out, v = .slice C out.length cq ∧ (∀ V, Below w.heap.size w V → (∀ k, w.heap.size + 1 + 1 + 1 + 1 + 1 ≤ k → k ≠ D → V.heap[k]? = W.heap[k]?) → IRow V C out) ∧ IsClose l s out q := by
      rcases h3 with ⟨e, rfl, rfl⟩ | ⟨_, rfl, out, hc, ho⟩
      · have e0 : ll = 0 := by
          by_cases h : 0 < ll
          · rw [if_pos h] at e; cases e
          · omega
        exact ⟨B, d, s, by rw [HK.out], fun V hv _ => irow_below HS.out hv, HEMP.out e0⟩
      · obtain ⟨C, cq, rfl, hr, _, _⟩ := Rg.row_own fitsI ho
        refine ⟨C, cq, out, rfl, fun V _ hv => ?_, hc⟩
        obtain ⟨C2, cq2, e2, hr2, _, _⟩ := Rg.row_own fitsI (pc_row ho hK hv)
        cases e2
        exact hr2
    have HCL := Lib.hid hcl
    have HRW := Lib.hid hrow
    have HB := Lib.hid hb
    clear h3 hcl hrow hb HC HEMP hA
    have hmx : Try.prog.follows .mixedOrders = true := by kernel_rfl
    gi_wp2
    gi_region_o
    obtain ⟨V, hV⟩ : ∃ V, ((W.setCell ⟨w.heap.size + 1, 0, none⟩ (.slice C out.length cq)).setCell ⟨w.heap.size + 1 + 1, 0, none⟩ (.bool q)).drew = V := ⟨_, rfl⟩
    obtain ⟨hKV, v1, v2, hbV, hkV⟩ := pc_back hK (by omega) HB.out h1 h2 hV
    rw [hV]
    gi_wp2
    refine ⟨by simp, .inl ⟨_, _, rfl, run_takeDeferred hKV, ?_⟩⟩
    generalize V.putObj D (.deferred none) = Z at *
    refine ⟨.tuple #[.slice C out.length cq, .bool q], ?_, C, cq, out, q, rfl, HRW.out Z hbV hkV, HCL.out, hbV, hbV.size⟩
    simp [results, Try.f49, go_sem, v1, v2]
  case stop =>
    rintro D e pre W hD ⟨hz, rfl⟩ ⟨rfl, ⟨⟨h0, hzz⟩, v, q, h1, g1, h2, g2, h3⟩, hb⟩ hK
    obtain ⟨C, cq, out, rfl, hrow, hcl⟩ : ∃ C cq out, v = .slice C out.length cq ∧ (∀ V, Below w.heap.size w V → (∀ k, w.heap.size + 1 + 1 + 1 + 1 + 1 ≤ k → k ≠ D → V.heap[k]? = W.heap[k]?) → IRow V C out) ∧ IsClose l s out q := by
      rcases h3 with ⟨e, _⟩ | ⟨_, rfl, out, hc, ho⟩
      · cases e
      · obtain ⟨C, cq, rfl, hr, _, _⟩ := Rg.row_own fitsI ho
        refine ⟨C, cq, out, rfl, fun V _ hv => ?_, hc⟩
        obtain ⟨C2, cq2, e2, hr2, _, _⟩ := Rg.row_own fitsI (pc_row ho hK hv)
        cases e2
        exact hr2
    have HCL := Lib.hid hcl
    have HRW := Lib.hid hrow
    have HB := Lib.hid hb
    clear h3 hcl hrow hb HC HEMP hA
    have hmx : Try.prog.follows .mixedOrders = true := by kernel_rfl
    gi_wp2
    gi_region_o
    obtain ⟨V, hV⟩ : ∃ V, ((W.setCell ⟨w.heap.size + 1, 0, none⟩ (.slice C out.length cq)).setCell ⟨w.heap.size + 1 + 1, 0, none⟩ (.bool q)).drew = V := ⟨_, rfl⟩
    obtain ⟨hKV, v1, v2, hbV, hkV⟩ := pc_back hK (by omega) HB.out h1 h2 hV
    rw [hV]
    gi_wp2
    refine ⟨by simp, .inl ⟨_, _, rfl, run_takeDeferred hKV, ?_⟩⟩
    generalize V.putObj D (.deferred none) = Z at *
    refine ⟨.tuple #[.slice C out.length cq, .bool q], ?_, C, cq, out, q, rfl, HRW.out Z hbV hkV, HCL.out, hbV, hbV.size⟩
    simp [results, Try.f49, go_sem, v1, v2]
end Go.Proofs.Ytjkmdghlhodhiaa

/- The reference's contraries, Units, Follows; the laws' own: few clauses of few variables, literals of these: walked. -/
import Derived.Test.YtjkmdghlhodhiaaOe
namespace Go.Proofs.Ytjkmdghlhodhiaa.Up
open Go.RowKit Cl
theorem app_doneI {α : Type} {enc : α → List Value} {K : Nat} {T : TypeId} {v : Value} {l : List α} {w wr W5 : World} {o : Obj} (hB : Hid (Below w.heap.size w wr ∧ w.heap.size ≤ wr.heap.size)) (hO : Hid (Rg.Own enc K wr w.heap.size T v l)) (hg : (wr.alloc o).grownBy W5 v.ownBlock) :
    Hid (Below w.heap.size w W5 ∧ w.heap.size ≤ W5.heap.size) := by
  have h1 : Below w.heap.size w (wr.alloc o) := hB.out.1.alloc hB.out.2 _
  have e : (wr.alloc o).heap.size = wr.heap.size + 1 := by simp
  have h2 : w.heap.size ≤ (wr.alloc o).heap.size := by have := hB.out.2; omega
  exact ⟨h1.trans (Rg.grown_below (Rg.own_below hO.out ((Below.refl _ _).alloc (Nat.le_refl _) _)) h2 hg), Nat.le_trans h2 hg.size⟩
def IRet (w : World) (t : List Int) (e : Ending) (w' : World) : Prop := ∃ v, e = .returned v ∧ Rg.Own encI 1 w' w.heap.size 3 v t ∧ Below w.heap.size w w' ∧ w.heap.size ≤ w'.heap.size
def unitsL (l : List (List Int)) : List Int := l.flatMap fun c => if c.length = 1 then c else []
theorem unitsL_le (l : List (List Int)) : (unitsL l).length ≤ l.length := by
  induction l with
  | nil => exact Nat.le_refl _
  | cons c l ih =>
    unfold unitsL at ih ⊢
    rw [List.flatMap_cons, List.length_append, List.length_cons]
    split
    · rename_i h; omega
    · show 0 + _ ≤ _; omega
theorem unitsL_more {l : List (List Int)} {j : Nat} {c : List Int} (hj : j < l.length) (hc : l[j] = c) : unitsL (l.take (j + 1)) = unitsL (l.take j) ++ (if c.length = 1 then c else []) := by
  unfold unitsL
  rw [List.take_succ_eq_append_getElem hj, hc, List.flatMap_append]; simp
end Go.Proofs.Ytjkmdghlhodhiaa.Up
namespace Go.Proofs.Ytjkmdghlhodhiaa
open Go.RowKit Cl Up
attribute [local go_sem ↓] Go.wp_at_zero Go.wp_at_succ
set_option maxRecDepth 100000 in
set_option maxHeartbeats 1600000 in
theorem refContra_any (A : Option Addr) (k d : Nat) (l : List Int) (w : World) (hk : l.length = k) (hl : IRow w A l) (hk2 : k ≤ 500000) (hb : ∀ x ∈ l, x.natAbs ≤ 2199023255552) :
    Calls Try.prog 36 #[.slice A k d] w (IRet w (neg l)) := by
  have HK := Lib.hid hk
  have HL := Lib.hid hl
  have HBD := Lib.hid hb
  clear hk hl hb
  go_enter Try.func36, Try.ntmps36
  go_wp2_with fail
  go_loopw [3, 4] (fun v i wr => ∃ (j : Nat) (S : List Int), j ≤ k ∧ i = .int .i64 j ∧ Hid (S = neg (l.take j)) ∧ Hid (Rg.Own encI 1 wr w.heap.size 3 v S) ∧ Hid (Below w.heap.size w wr ∧ w.heap.size ≤ wr.heap.size)) (fun _ i _ => k - (intOf i).toNat)
  case atStart => exact ⟨0, [], Nat.zero_le _, rfl, rfl, Rg.own_nil _ _ _, Below.refl _ _, Nat.le_refl _⟩
  case round =>
    obtain ⟨j, S, hj, rfl, HS, HO, HB⟩ := hrel
    by_cases hlt : j < k
    · have hjl : j < l.length := by rw [HK.out]; exact hlt
      obtain ⟨ad, x, rfl, hx, hxb, hc⟩ := irow_at (irow_below HL.out HB.out.1) j hjl
      have hbx := HBD.out x (hx ▸ List.getElem_mem hjl)
      have j0 : (0 : Int) ≤ (j : Int) := by omega
      have j1 : (j : Int) < (k : Int) := by omega
      have w1 : IntKind.i64.wrap (0 - x) = -x := (IntWalk.i64_in _ (by omega)).trans (by omega)
      have w2 : IntKind.i64.wrap (-x) = -x := IntWalk.i64_in _ (by omega)
      have HS2 : Hid (S ++ [-x] = neg (l.take (j + 1))) := by
        show _ = _
        rw [List.take_succ_eq_append_getElem hjl, hx, HS.out]; unfold neg; rw [List.map_append]; rfl
      have HSL : Hid (S.length + 1 ≤ 1000000) := by show _ ≤ _; rw [HS.out]; unfold neg; rw [List.length_map, List.length_take]; omega
      clear hx hxb hbx hjl
      go_wp2_with (at_builtin; refine Rg.wpList_app sliceI rfl (.tmp 11) (.tmp 17) rfl w.heap.size _ S [-x] rfl (Rg.own_below HO.out ((Below.refl _ _).alloc (Nat.le_refl _) _)) _ _ rfl (Rg.news_new wr _ _ _ (by rfl)) (Nat.zero_lt_succ _) HSL.out ?b1 ?_)
      case b1 => have := HB.out.2; simp; omega
      intro v5 W5 ho5 hg5 hz5
      have HB5 := app_doneI HB HO hg5
      have HO5 := Lib.hid ho5
      clear ho5 hg5 hz5 HO HB HSL hc
      go_wp2_with fail
      go_roundw
      case rel => exact ⟨j + 1, S ++ [-x], by omega, by go_num, HS2.out, HO5.out, HB5.out⟩
      case measure => simp [intOf]; omega
    · have HE : Hid (S = neg l) := by
        show _ = _
        rw [HS.out, List.take_of_length_le (by rw [HK.out]; omega)]
      go_wp2_with fail
      go_ret
      exact ⟨_, rfl, by rw [← HE.out]; exact HO.out, HB.out.1, HB.out.2⟩
def Up.FolRet (w : World) (l : List (List Int)) (c : List Int) (e : Ending) (w' : World) : Prop := ∃ b : Bool, e = .returned (.bool b) ∧ (b = true ↔ Fol l c) ∧ Below w.heap.size w w' ∧ w.heap.size ≤ w'.heap.size
theorem Up.neg_len (l : List Int) : (neg l).length = l.length := List.length_map ..
set_option maxRecDepth 100000 in
set_option maxHeartbeats 1600000 in
theorem refFollows_any (n : Nat) (A B : Option Addr) (ll kk c d : Nat) (l : List (List Int)) (s : List Int) (w : World) (hl : l.length = ll) (hg : GRow w A l) (hk : s.length = kk) (hs : IRow w B s) (hn : n ≤ 10000) (hln : ∀ c ∈ l, ∀ x ∈ c, LitOf n x) (hsn : ∀ x ∈ s, LitOf n x) (hl1 : ll ≤ 1000000) (hk1 : kk ≤ 500000) (hlc : ∀ c ∈ l, c.length ≤ 1000000) :
    Calls Try.prog 18 #[.int .i64 n, .slice A ll c, .slice B kk d] w (FolRet w l s) := by
  have HC := Lib.hid (refContra_any B kk d s w hk hs hk1 (fun x hx => by have := (hsn x hx).2; omega))
  have HX := Lib.hid fun (u : World) (C : Option Addr) (q : Nat) (hu : Below w.heap.size w u) (hr : IRow u C (neg s)) => refClose_any n A C ll kk c q l (neg s) u hl (Gr.row_below hg hu) ((neg_len s).trans hk) hr hn hln (fun x hx => by
    obtain ⟨y, hy, rfl⟩ := List.mem_map.1 hx
    exact lit_neg (hsn y hy)) hl1 (by omega) hlc
  have HK := Lib.hid hk
  clear hl hg hk hs hln hsn hlc
  go_enter Try.func18, Try.ntmps18
  go_wp2_with (go_at_call 36; refine HC.out.mono ?_)
  rintro _ w1 ⟨v, rfl, ho, hb, hz⟩
  obtain ⟨C, q, rfl, hrow, _, _⟩ := Rg.row_own fitsI ho
  rw [neg_len, HK.out]
  have HQ := Lib.hid (HX.out w1 C q hb hrow)
  have HB := Lib.hid (And.intro hb hz)
  clear ho hb hz hrow HX HC
  go_wp2_with (go_at_call 35; refine HQ.out.mono ?_)
  rintro _ w2 ⟨v2, out, bad, rfl, hcl, _, hb2, hz2⟩
  have HCL := Lib.hid (close_true hcl)
  have HB2 : Hid (Below w.heap.size w w2 ∧ w.heap.size ≤ w2.heap.size) := ⟨HB.out.1.trans (hb2.mono HB.out.2), Nat.le_trans HB.out.2 hz2⟩
  clear hcl hb2 hz2 HB HQ
  go_wp2_with fail
  go_ret
  exact ⟨bad, rfl, HCL.out, HB2.out.1, HB2.out.2⟩
end Go.Proofs.Ytjkmdghlhodhiaa

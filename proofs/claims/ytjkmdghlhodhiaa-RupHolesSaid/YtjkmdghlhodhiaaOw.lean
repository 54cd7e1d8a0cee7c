/- Two in one place: proved in two steps, and not with one clause left out: the law walked over what the program must answer. -/
import Derived.Test.YtjkmdghlhodhiaaOq
import Derived.Deep.DrawnRows
import Derived.Deep.RegionLaw
namespace Go.Proofs.Ytjkmdghlhodhiaa.Up
open Go.RowKit Cl
section
variable {α : Type} {enc : α → List Value} {K : Nat} {P : Program} {ST T : TypeId} {w : World}
/-- An append in a region that draws, of a row that may be empty. -/
theorem step_appR (hT : Rg.SliceT P enc K ST T) {ops : Array Oper} {o : Oper} {a : Act} {G : Act → World → Prop} {Q : Exit → Act → World → Prop} {E : Prop} (hgd : o.guard = none) (sl x : Operand)
    (ho : o.op = .call { callee := .builtin .append, args := #[sl, x], argTypes := #[ST, ST] })
    (B : Nat) (v : Value) (l m : List α) (hs : a.eval sl = v) (A : Option Addr) (n c : Nat) (hx : a.eval x = .slice A n c) (hn : m.length = n) (hown : Rg.Own enc K w B T v l)
    (hrow : Rg.Row enc K w A m) (hsz : l.length + m.length ≤ 1000000) (hB : B ≤ w.heap.size)
    (h : ∀ v' w', Rg.Own enc K w' B T v' (l ++ m) → w.grownBy w' v.ownBlock → w.heap.size ≤ w'.heap.size → G (a.put o.dst v') w') : if Region.wanted o (yielded ops a.tmps) = true then Oper.wp P o a w G Q else E := by
  subst hn
  have hw : Region.wanted o (yielded ops a.tmps) = true := by simp [Region.wanted, hgd]
  rw [if_pos hw]
  obtain ⟨v', w', hr, h2, h3, h4⟩ := Rg.run_appS hT o.type B v l m hown A c hrow hsz hB
  unfold Oper.wp execOp
  simp only [ho, resolve, invoke, builtin, Sem.run_bind, Sem.run_pure, Result.andThen_ok, List.map_toArray, List.map_cons, List.map_nil, hs, hx, hr]
  exact h v' w' h2 h3 h4
end
theorem cX_run (V : Option Addr) (k vc m : Nat) (h : m ≤ k) (h2 : k ≤ vc) (_hv : vc ≤ maxLen) : ∀ W : World, (Instr.sliceAt 29 (.slice V k vc) none (some (.int .i64 m)) none).run Try.prog W = .ok (.slice V m vc) W := by
  intro W
  have i0 : (0 : Int) ≤ (m : Int) := by omega
  have i1 : (m : Int) ≤ (k : Int) := by omega
  have i2 : (m : Int) ≤ (vc : Int) := by omega
  go_simp
theorem cY_run (V : Option Addr) (k vc m : Nat) (h : m ≤ k) (h2 : k ≤ vc) (_hv : vc ≤ maxLen) : ∃ Y, ((if vc = m then V else V.map (fun x => x.add (m * 1))) = Y) ∧ ∀ W : World, (Instr.sliceAt 29 (.slice V k vc) (some (.int .i64 m)) none none).run Try.prog W = .ok (.slice Y (k - m) (vc - m)) W := by
  refine ⟨_, rfl, fun W => ?_⟩
  have i0 : (0 : Int) ≤ (m : Int) := by omega
  have i1 : (m : Int) ≤ (k : Int) := by omega
  have i2 : (m : Int) ≤ (vc : Int) := by omega
  go_simp
/-- A row without one of its places. -/
theorem in_less {w : World} {ds : List Desc} {t : List (List Int)} (h : Gr.In encI 1 w ds t) (k : Nat) : Gr.In encI 1 w (ds.take k ++ ds.drop (k + 1)) (t.take k ++ t.drop (k + 1)) := by
  have hl : ds.length = t.length := h.1
  refine ⟨by simp only [List.length_append, List.length_take, List.length_drop]; omega, fun i d l h1 h2 => ?_⟩
  by_cases hi : i < k ∧ i < ds.length
  · rw [List.getElem?_append_left (by rw [List.length_take]; omega), List.getElem?_take_of_lt hi.1] at h1 h2
    exact h.2 i d l h1 h2
  · rw [List.getElem?_append_right (by rw [List.length_take]; omega), List.length_take, List.getElem?_drop] at h1 h2
    rw [← hl] at h2
    exact h.2 _ d l h1 h2
def ex3 : List (List Int) := [[1], [2], [-1, -2]]
theorem ex3_ok : (checkAll 2 ex3).2 = 0 := by decide
theorem ex3_all {l : List (List Int)} {s : List Int} (h : ∀ c ∈ ex3, c ∈ l) : Contra l s := by
  have h1 : Der l s 1 := .cl (h [1] (by simp [ex3])) (by simp) fun y hy hne => absurd (by simpa using hy) hne
  have h2 : Der l s 2 := .cl (h [2] (by simp [ex3])) (by simp) fun y hy hne => absurd (by simpa using hy) hne
  refine .inr ⟨[-1, -2], h _ (by simp [ex3]), fun y hy => ?_⟩
  rcases List.mem_cons.1 hy with rfl | hy
  · exact h1
  · rw [List.mem_singleton.1 hy]; exact h2
theorem ex3_t0 (p : List (List Int)) : Taken 2 ex3 p 0 := fun q hq h => absurd h (by omega)
theorem ex3_p1 : proofP 2 ex3 [[-2], []] = (0, 0) :=
  proof_ok ex3_ok (taken_more (c := []) (taken_more (c := [-2]) (ex3_t0 _) (by simp) rfl (by decide) (ex3_all fun c hc => List.mem_append_left _ hc)) (by simp) rfl (by decide) (ex3_all fun c hc => List.mem_append_left _ hc))
theorem ex3_e1 : endsB 2 ex3 [[]] [] = true := by
  unfold endsB
  rw [proof_ok ex3_ok (taken_more (c := []) (ex3_t0 _) (by simp) rfl (by decide) (ex3_all fun c hc => List.mem_append_left _ hc))]
  decide
theorem less_e {l : List (List Int)} (ha : (checkAll 2 l).2 = 0) (h : ¬ Fol l []) : endsB 2 l [[]] [] = false := by
  unfold endsB
  rw [proof_not (c := []) (j := 0) ha (fun q hq h => absurd h (by omega)) (by simp) rfl (by decide) (by simpa using h)]
  rfl
def lessL (k : Nat) : List (List Int) := ex3.take k ++ ex3.drop (k + 1)
theorem less_no : ∀ k, k < 3 → endsB 2 (lessL k) [[]] [] = false
  | 0, _ => less_e (by decide) (closed_all (T := fun y => y = 2 ∨ y = -1) (fun x hx => by simp [neg] at hx) (fun x h h2 => by have h : x = 2 ∨ x = -1 := h; have h2 : -x = 2 ∨ -x = -1 := h2; omega) (fun c hc => by
      have hc : c = [2] ∨ c = [-1, -2] := by simpa [lessL, ex3] using hc
      rcases hc with rfl | rfl
      · exact .inl ⟨2, by simp, .inl rfl⟩
      · exact .inl ⟨-1, by simp, .inr rfl⟩)).2
  | 1, _ => less_e (by decide) (closed_all (T := fun y => y = 1 ∨ y = -2) (fun x hx => by simp [neg] at hx) (fun x h h2 => by have h : x = 1 ∨ x = -2 := h; have h2 : -x = 1 ∨ -x = -2 := h2; omega) (fun c hc => by
      have hc : c = [1] ∨ c = [-1, -2] := by simpa [lessL, ex3] using hc
      rcases hc with rfl | rfl
      · exact .inl ⟨1, by simp, .inl rfl⟩
      · exact .inl ⟨-2, by simp, .inr rfl⟩)).2
  | 2, _ => less_e (by decide) (closed_all (T := fun y => y = 1 ∨ y = 2) (fun x hx => by simp [neg] at hx) (fun x h h2 => by have h : x = 1 ∨ x = 2 := h; have h2 : -x = 1 ∨ -x = 2 := h2; omega) (fun c hc => by
      have hc : c = [1] ∨ c = [2] := by simpa [lessL, ex3] using hc
      rcases hc with rfl | rfl
      · exact .inl ⟨1, by simp, .inl rfl⟩
      · exact .inl ⟨2, by simp, .inr rfl⟩)).2
  | k + 3, h => absurd h (by omega)
end Go.Proofs.Ytjkmdghlhodhiaa.Up
namespace Go.Proofs.Ytjkmdghlhodhiaa
open Go.RowKit Cl Up
attribute [local go_sem ↓] Go.wp_at_zero Go.wp_at_succ
set_option maxRecDepth 100000 in
set_option maxHeartbeats 12800000 in
theorem rupHoles_any (HKN : KnownC16) (HCK : RupCheckC) (HEN : RupEndsC) (s : Nat) (w : World) (hs : s ≤ 255) :
    Calls Try.prog 7 #[.int .u8 s] w fun e w' => e = .returned (.bool true) ∧ Below w.heap.size w w' := by
  have HK0 := Lib.hid (HKN w)
  have HENC := Lib.hid HEN
  have HCKC := Lib.hid HCK
  clear HKN HEN HCK
  go_enter Try.func7, Try.ntmps7
  go_wp2_with (go_at_call 8; refine HK0.out.mono ?_)
  rintro _ u0 ⟨rfl, hb, _⟩
  have HB0 : Hid (Below w.heap.size w u0 ∧ w.heap.size ≤ u0.heap.size) := ⟨hb, hb.size⟩
  clear hb HK0
  obtain ⟨b1, hb1⟩ : ∃ b, u0.heap.size = b := ⟨_, rfl⟩
  obtain ⟨W1, hW1⟩ : ∃ W, u0.alloc (.cells #[.int .i64 1] 3) = W := ⟨_, rfl⟩
  have HRW1 : Hid (IRow W1 (some ⟨b1, 0, none⟩) [1]) := by show IRow _ _ _; rw [← hW1, ← hb1]; exact irow_new _ _ _ _ rfl
  have HBW1 : Hid (Below u0.heap.size u0 W1 ∧ u0.heap.size ≤ W1.heap.size) := by rw [← hW1]; exact ⟨(Below.refl _ _).alloc (Nat.le_refl _) _, by simp⟩
  obtain ⟨b2, hb2⟩ : ∃ b, W1.heap.size = b := ⟨_, rfl⟩
  obtain ⟨W2, hW2⟩ : ∃ W, W1.alloc (.cells #[.int .i64 2] 3) = W := ⟨_, rfl⟩
  have HRW2 : Hid (IRow W2 (some ⟨b2, 0, none⟩) [2]) := by show IRow _ _ _; rw [← hW2, ← hb2]; exact irow_new _ _ _ _ rfl
  have HBW2 : Hid (Below W1.heap.size W1 W2 ∧ W1.heap.size ≤ W2.heap.size) := by rw [← hW2]; exact ⟨(Below.refl _ _).alloc (Nat.le_refl _) _, by simp⟩
  obtain ⟨b3, hb3⟩ : ∃ b, W2.heap.size = b := ⟨_, rfl⟩
  obtain ⟨W3, hW3⟩ : ∃ W, W2.alloc (.cells #[.int .i64 (-1), .int .i64 (-2)] 3) = W := ⟨_, rfl⟩
  have HRW3 : Hid (IRow W3 (some ⟨b3, 0, none⟩) [-1, -2]) := by show IRow _ _ _; rw [← hW3, ← hb3]; exact irow_new _ _ _ _ rfl
  have HBW3 : Hid (Below W2.heap.size W2 W3 ∧ W2.heap.size ≤ W3.heap.size) := by rw [← hW3]; exact ⟨(Below.refl _ _).alloc (Nat.le_refl _) _, by simp⟩
  obtain ⟨b4, hb4⟩ : ∃ b, W3.heap.size = b := ⟨_, rfl⟩
  obtain ⟨W4, hW4⟩ : ∃ W, W3.alloc (.cells #[.slice (some ⟨b1, 0, none⟩) 1 1, .slice (some ⟨b2, 0, none⟩) 1 1, .slice (some ⟨b3, 0, none⟩) 2 2] 47) = W := ⟨_, rfl⟩
  have HDW4 : Hid (Rg.Row encO 1 W4 (some ⟨b4, 0, none⟩) [(some ⟨b1, 0, none⟩, 1, 1), (some ⟨b2, 0, none⟩, 1, 1), (some ⟨b3, 0, none⟩, 2, 2)]) := by show Rg.Row _ _ _ _ _; rw [← hW4, ← hb4]; exact drow_new _ _ _ _ rfl
  have HBW4 : Hid (Below W3.heap.size W3 W4 ∧ W3.heap.size ≤ W4.heap.size) := by rw [← hW4]; exact ⟨(Below.refl _ _).alloc (Nat.le_refl _) _, by simp⟩
  have HI4 : Hid (Gr.In encI 1 W4 [(some ⟨b1, 0, none⟩, 1, 1), (some ⟨b2, 0, none⟩, 1, 1), (some ⟨b3, 0, none⟩, 2, 2)] ex3) := ⟨rfl, in_cons rfl (irow_below HRW1.out (below2 (below2 HBW2.out HBW3.out) HBW4.out).1) (in_cons rfl (irow_below HRW2.out (below2 HBW3.out HBW4.out).1) (in_cons rfl (irow_below HRW3.out HBW4.out.1) (in_nil _)))⟩
  have HC4 : Hid (Caps [(some ⟨b1, 0, none⟩, 1, 1), (some ⟨b2, 0, none⟩, 1, 1), (some ⟨b3, 0, none⟩, 2, 2)]) := caps_cons (Nat.le_refl _) (caps_cons (Nat.le_refl _) (caps_cons (Nat.le_refl _) caps_nil))
  have HG4 : Hid (CRow W4 (some ⟨b4, 0, none⟩) ex3) := ⟨_, HDW4.out, HI4.out, HC4.out⟩
  obtain ⟨b5, hb5⟩ : ∃ b, W4.heap.size = b := ⟨_, rfl⟩
  obtain ⟨W5, hW5⟩ : ∃ W, W4.alloc (.cells #[.int .i64 (-2)] 3) = W := ⟨_, rfl⟩
  have HRW5 : Hid (IRow W5 (some ⟨b5, 0, none⟩) [-2]) := by show IRow _ _ _; rw [← hW5, ← hb5]; exact irow_new _ _ _ _ rfl
  have HBW5 : Hid (Below W4.heap.size W4 W5 ∧ W4.heap.size ≤ W5.heap.size) := by rw [← hW5]; exact ⟨(Below.refl _ _).alloc (Nat.le_refl _) _, by simp⟩
  obtain ⟨b6, hb6⟩ : ∃ b, W5.heap.size = b := ⟨_, rfl⟩
  obtain ⟨W6, hW6⟩ : ∃ W, W5.alloc (.cells #[.slice (some ⟨b5, 0, none⟩) 1 1, .slice none 0 0] 47) = W := ⟨_, rfl⟩
  have HDW6 : Hid (Rg.Row encO 1 W6 (some ⟨b6, 0, none⟩) [(some ⟨b5, 0, none⟩, 1, 1), (none, 0, 0)]) := by show Rg.Row _ _ _ _ _; rw [← hW6, ← hb6]; exact drow_new _ _ _ _ rfl
  have HBW6 : Hid (Below W5.heap.size W5 W6 ∧ W5.heap.size ≤ W6.heap.size) := by rw [← hW6]; exact ⟨(Below.refl _ _).alloc (Nat.le_refl _) _, by simp⟩
  have HGW6 : Hid (CRow W6 (some ⟨b6, 0, none⟩) [[-2], []]) := crow_of HDW6.out rfl (in_cons rfl (irow_below HRW5.out HBW6.out.1) (in_cons rfl (irow_nil _ _) (in_nil _))) (by repeat' first | exact caps_nil | refine caps_cons (Nat.le_refl _) ?_)
  have HB46 := Lib.hid (below2 HBW5.out HBW6.out)
  have HQ1 := Lib.hid (HCKC.out 2 _ _ 3 2 3 2 ex3 [[-2], []] W6 rfl (crow_below HG4.out HB46.out.1) rfl HGW6.out (by decide) (by decide) (by decide) (by decide))
  rw [ex3_p1] at HQ1
  go_wp2_with (go_at_call 10; refine HQ1.out.mono ?_)
  first | rintro _ u7 rfl hb | rintro _ u7 ⟨rfl, hb⟩
  have HB47 : Hid (Below W4.heap.size W4 u7 ∧ W4.heap.size ≤ u7.heap.size) := below2 HB46.out ⟨hb, hb.size⟩
  have HB7 : Hid (Below w.heap.size w u7 ∧ w.heap.size ≤ u7.heap.size) := below2 (below2 (below2 (below2 (below2 HB0.out HBW1.out) HBW2.out) HBW3.out) HBW4.out) HB47.out
  have HG7 := Lib.hid (crow_below HG4.out HB47.out.1)
  have HD7 := Lib.hid (Rg.row_below HDW4.out HB47.out.1)
  have HI7 := Lib.hid (Gr.in_below HI4.out HB47.out.1)
  clear hb HQ1 hW1 hb1 hW2 hb2 hW3 hb3 hW4 hb4 hW5 hb5 hW6 hb6 HRW1 HRW2 HRW3 HRW5 HDW4 HDW6 HGW6 HI4 HG4 HB46 HBW1 HBW2 HBW3 HBW4 HBW5 HBW6 HB47 HB0
  obtain ⟨k, hk⟩ : ∃ k, s % 3 = k := ⟨_, rfl⟩
  have hk3 : k < 3 := by omega
  have er : (s : Int) % 3 = (k : Int) := by omega
  have er2 : Int.tmod (s : Int) 3 = (k : Int) := by rw [Int.tmod_eq_emod_of_nonneg (by omega)]; exact er
  have wk : IntKind.i64.wrap (k : Int) = (k : Int) := IntWalk.i64_in _ (by omega)
  have wk2 : IntKind.u8.wrap (k : Int) = (k : Int) := by rw [IntKind.wrap_u8]; omega
  have wk1 : IntKind.i64.wrap ((k : Int) + 1) = (k : Int) + 1 := IntWalk.i64_in _ (by omega)
  have k0 : (0 : Int) ≤ (k : Int) := by omega
  have k1 : (k : Int) ≤ 3 := by omega
  have k2 : (0 : Int) ≤ (k : Int) + 1 := by omega
  have k3 : (k : Int) + 1 ≤ 3 := by omega
  clear hk
  have rx := cX_run (some ⟨b4, 0, none⟩) 3 3 k (by omega) (by omega) (by decide)
  obtain ⟨Y, hY, ry⟩ := cY_run (some ⟨b4, 0, none⟩) 3 3 (k + 1) (by omega) (by omega) (by decide)
  obtain ⟨ds, hds⟩ : ∃ ds : List Desc, [(some ⟨b1, 0, none⟩, 1, 1), (some ⟨b2, 0, none⟩, 1, 1), (some ⟨b3, 0, none⟩, 2, 2)] = ds := ⟨_, rfl⟩
  have hdl : ds.length = 3 := by rw [← hds]; rfl
  rw [hds] at HD7 HI7 HC4
  have HRT := Lib.hid fun (u : World) (h : Below u7.heap.size u7 u) => Rg.row_below (Rg.row_take HD7.out k) h
  have HRR : Hid (∀ u, Below u7.heap.size u7 u → Rg.Row encO 1 u Y (ds.drop (k + 1))) := fun u h => Rg.row_below (Rg.row_drop HD7.out (k + 1) (A' := Y) (fun h => by
    rw [← hY, if_neg (by omega)])) h
  have HTL : Hid ((ds.take k).length = k) := by show _ = _; rw [List.length_take]; omega
  have HRL : Hid ((ds.drop (k + 1)).length = 2 - k) := by show _ = _; rw [List.length_drop, hdl]; omega
  obtain ⟨dT, hdT⟩ : ∃ x, ds.take k = x := ⟨_, rfl⟩
  obtain ⟨dR, hdR⟩ : ∃ x, ds.drop (k + 1) = x := ⟨_, rfl⟩
  have HIL := Lib.hid (in_less HI7.out k)
  have HCL : Hid (Caps (ds.take k ++ ds.drop (k + 1))) := caps_less HC4.out k
  rw [hdT] at HRT HTL HIL HCL
  rw [hdR] at HRR HRL HIL HCL
  have HSZ : Hid (dT.length + dR.length ≤ 1000000) := by show _ ≤ _; rw [HTL.out, HRL.out]; omega
  have HSZ0 : Hid (([] : List Desc).length + dT.length ≤ 1000000) := by show 0 + _ ≤ _; rw [HTL.out]; omega
  have HAL : Hid (Rg.Own encO 1 (u7.alloc (.cells #[] 47)) u7.heap.size 47 (.slice (some ⟨u7.heap.size, 0, none⟩) 0 0) []) := Rg.own_made u7 fitsO (Nat.le_refl _)
  have HBA : Hid (Below u7.heap.size u7 (u7.alloc (.cells #[] 47))) := (Below.refl _ _).alloc (Nat.le_refl _) _
  clear hdT hdR hds hdl hY HD7 HI7 HC4
  have e1 : (((k + 1 : Nat) : Int)) = (k : Int) + 1 := by omega
  rw [e1] at ry
  go_wp2_with fail
  go_region_law (first
    | (refine step_appR sliceCC (by rfl) (.tmp 24) (.tmp 27) (by rfl) u7.heap.size _ [] dT (by rfl) _ _ _ (by rfl) HTL.out (by first | exact HAL.out | exact Rg.own_below HAL.out ((Below.refl _ _).drew)) (HRT.out _ (by first | exact HBA.out | exact HBA.out.drew)) HSZ0.out (by simp) ?_; intro v5 W5 ho5 hg5 hz5; have HO5 := Lib.hid (show Rg.Own encO 1 W5 u7.heap.size 47 v5 dT by simpa using ho5); have HB5 : Hid (Below u7.heap.size u7 W5) := (by first | exact HBA.out.trans (Rg.grown_below HAL.out (by simp) hg5) | exact HBA.out.drew.trans (Rg.grown_below (Rg.own_below HAL.out ((Below.refl _ _).drew)) (by simp) hg5)))
    | (refine step_appR sliceCC (by rfl) (.tmp 28) (.tmp 32) (by rfl) u7.heap.size v5 dT dR (by rfl) _ _ _ (by rfl) HRL.out (by first | exact HO5.out | exact Rg.own_below HO5.out ((Below.refl _ _).drew)) (HRR.out _ (by first | exact HB5.out | exact HB5.out.drew)) HSZ.out (by first | exact HB5.out.size | exact HB5.out.drew.size) ?_; intro v6 W6 ho6 hg6 hz6; have HB6 : Hid (Below u7.heap.size u7 W6) := (by first | exact HB5.out.trans (Rg.grown_below HO5.out HB5.out.size hg6) | exact HB5.out.drew.trans (Rg.grown_below (Rg.own_below HO5.out ((Below.refl _ _).drew)) HB5.out.drew.size hg6))))
  all_goals
    clear ho5 hg5 hz5 HO5 hg6 hz6 HAL HBA
    obtain ⟨C, c6, rfl, hr6, _⟩ := Rg.row_own fitsO ho6
    have hl6 : (dT ++ dR).length = 2 := by rw [List.length_append, HTL.out, HRL.out]; omega
    rw [hl6]
    have HG6 : Hid (CRow W6 C (lessL k)) := ⟨_, hr6, Gr.in_below HIL.out HB6.out, HCL.out⟩
    have HW6 : Hid (Below w.heap.size w W6 ∧ w.heap.size ≤ W6.heap.size) := below2 HB7.out ⟨HB6.out, HB6.out.size⟩
    have HL6 := Lib.hid (crow_below HG7.out HB6.out)
    have HNO := Lib.hid (less_no k hk3)
    clear ho6 hr6 hl6 HIL HCL HRT HRR HTL HRL HSZ HSZ0 HB5 HB6 HG7 HB7
    obtain ⟨b8, hb8⟩ : ∃ b, W6.heap.size = b := ⟨_, rfl⟩
    obtain ⟨W8, hW8⟩ : ∃ W, W6.alloc (.cells #[.slice none 0 0] 47) = W := ⟨_, rfl⟩
    have HDW8 : Hid (Rg.Row encO 1 W8 (some ⟨b8, 0, none⟩) [(none, 0, 0)]) := by show Rg.Row _ _ _ _ _; rw [← hW8, ← hb8]; exact drow_new _ _ _ _ rfl
    have HBW8 : Hid (Below W6.heap.size W6 W8 ∧ W6.heap.size ≤ W8.heap.size) := by rw [← hW8]; exact ⟨(Below.refl _ _).alloc (Nat.le_refl _) _, by simp⟩
    have HGW8 : Hid (CRow W8 (some ⟨b8, 0, none⟩) [[]]) := crow_of HDW8.out rfl (in_cons rfl (irow_nil _ _) (in_nil _)) (by repeat' first | exact caps_nil | refine caps_cons (Nat.le_refl _) ?_)
    have HE8 := Lib.hid (HENC.out 2 _ _ none 3 1 0 3 1 0 ex3 [[]] [] W8 rfl (crow_below HL6.out HBW8.out.1) rfl HGW8.out (by decide) rfl (irow_nil _ _) (by decide) (by decide) (by decide) (by decide) (by decide))
    rw [ex3_e1] at HE8
    go_wp2_with (go_at_call 13; refine HE8.out.mono ?_)
    first | rintro _ u9 rfl hb | rintro _ u9 ⟨rfl, hb⟩
    have HB9 : Hid (Below W6.heap.size W6 u9 ∧ W6.heap.size ≤ u9.heap.size) := below2 HBW8.out ⟨hb, hb.size⟩
    clear hb HE8 hb8 hW8 HDW8 HGW8 HBW8
    obtain ⟨b10, hb10⟩ : ∃ b, u9.heap.size = b := ⟨_, rfl⟩
    obtain ⟨W10, hW10⟩ : ∃ W, u9.alloc (.cells #[.slice none 0 0] 47) = W := ⟨_, rfl⟩
    have HDW10 : Hid (Rg.Row encO 1 W10 (some ⟨b10, 0, none⟩) [(none, 0, 0)]) := by show Rg.Row _ _ _ _ _; rw [← hW10, ← hb10]; exact drow_new _ _ _ _ rfl
    have HBW10 : Hid (Below u9.heap.size u9 W10 ∧ u9.heap.size ≤ W10.heap.size) := by rw [← hW10]; exact ⟨(Below.refl _ _).alloc (Nat.le_refl _) _, by simp⟩
    have HGW10 : Hid (CRow W10 (some ⟨b10, 0, none⟩) [[]]) := crow_of HDW10.out rfl (in_cons rfl (irow_nil _ _) (in_nil _)) (by repeat' first | exact caps_nil | refine caps_cons (Nat.le_refl _) ?_)
    have HB10 := Lib.hid (below2 HB9.out HBW10.out)
    have HLL : Hid ((lessL k).length = 2 ∧ ∀ c ∈ lessL k, c.length ≤ 1000) := by
      obtain rfl | rfl | rfl : k = 0 ∨ k = 1 ∨ k = 2 := by omega
      all_goals exact ⟨by decide, by decide⟩
    have HE10 := Lib.hid (HENC.out 2 _ _ none 2 1 0 c6 1 0 (lessL k) [[]] [] W10 HLL.out.1 (crow_below HG6.out HB10.out.1) rfl HGW10.out (by decide) rfl (irow_nil _ _) (by decide) (by decide) (by decide) HLL.out.2 (by decide))
    rw [HNO.out] at HE10
    go_wp2_with (go_at_call 13; refine HE10.out.mono ?_)
    first | rintro _ u11 rfl hb | rintro _ u11 ⟨rfl, hb⟩
    have HB11 := Lib.hid (below2 HW6.out (below2 HB10.out ⟨hb, hb.size⟩))
    clear hb HE10
    go_wp2_with fail
    go_ret
    exact ⟨rfl, HB11.out.1⟩
end Go.Proofs.Ytjkmdghlhodhiaa

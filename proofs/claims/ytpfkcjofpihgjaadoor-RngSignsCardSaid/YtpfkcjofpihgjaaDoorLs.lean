/- The law RngSigns, walked. -/
import Derived.Test.YtpfkcjofpihgjaaDoorKd
import Derived.Deep.RegionHeld3
namespace Go.Proofs.YtpfkcjofpihgjaaDoor
open Go.RowKit Rs
attribute [local go_sem ↓] Go.wp_at_zero Go.wp_at_succ

theorem ofR_sgn {v : List UInt8} (i : Nat) (hi : i < 6) (hv : Vm.check v = 0) : ofR (sgnT i) v = signR (Vm.canon v) i ∧ ofE (sgnT i) v = 0 := by
  have hs : sgnOf (sgnT i) = some i := by
    match i, hi with
    | 0, _ => rfl
    | 1, _ => rfl
    | 2, _ => rfl
    | 3, _ => rfl
    | 4, _ => rfl
    | 5, _ => rfl
  unfold ofR ofE
  rw [hs]
  exact ⟨if_pos hv, hv⟩
/-! The three tables of the law. -/
def wantV (x : Int) : Array Value := #[.bool (x == 0), .bool (x != 0), .bool (decide (x < 0)), .bool (decide (x ≤ 0)), .bool (decide (0 < x)), .bool (decide (0 ≤ x))]
theorem want_at (x : Int) (i : Nat) (hi : i < 6) : (wantV x)[i]? = some (.bool (wantR x i)) := by
  have e1 : (x == 0) = decide (x = 0) := by rw [Bool.eq_iff_iff]; simp
  have e2 : (x != 0) = !decide (x = 0) := by rw [Bool.eq_iff_iff]; simp
  match i, hi with
  | 0, _ => show some (Value.bool (x == 0)) = _; rw [e1]; rfl
  | 1, _ => show some (Value.bool (x != 0)) = _; rw [e2]; rfl
  | 2, _ => rfl
  | 3, _ => rfl
  | 4, _ => rfl
  | 5, _ => rfl
def signV : Array Value := #[.string ⟨#[61]⟩, .string ⟨#[33, 61]⟩, .string ⟨#[60]⟩, .string ⟨#[60, 61]⟩, .string ⟨#[62]⟩, .string ⟨#[62, 61]⟩]
def otherV : Array Value := #[.int .i64 1, .int .i64 0, .int .i64 5, .int .i64 4, .int .i64 3, .int .i64 2]
def SgT (u W : World) (x : Int) : Prop := u.heap.size + 3 ≤ W.heap.size ∧ W.heap[u.heap.size]? = some (.cells (wantV x) 4 (0, 0)) ∧ W.heap[u.heap.size + 1]? = some (.cells signV 9 (0, 0)) ∧ W.heap[u.heap.size + 2]? = some (.cells otherV 3 (0, 0))
theorem sgT_step {u W W' : World} {x : Int} (h : SgT u W x) (hb : Below W.heap.size W W') : SgT u W' x := by
  obtain ⟨h0, h1, h2, h3⟩ := h
  exact ⟨Nat.le_trans h0 hb.size, (hb.block _ (by omega)).trans h1, (hb.block _ (by omega)).trans h2, (hb.block _ (by omega)).trans h3⟩
theorem sgT_new (u : World) (x : Int) : SgT u (((u.alloc (.cells (wantV x) 4)).alloc (.cells signV 9)).alloc (.cells otherV 3)) x := by
  have e : ∀ (v : World) (o : Obj), (v.alloc o).heap.size = v.heap.size + 1 := fun _ _ => by simp
  refine ⟨by rw [e, e, e]; omega, ?_, ?_, ?_⟩
  · rw [Below.heap_alloc _ _ _ (by rw [e, e]; omega), Below.heap_alloc _ _ _ (by rw [e]; omega)]; exact heap_alloc_new u _
  · rw [Below.heap_alloc _ _ _ (by rw [e, e]; omega)]
    have := heap_alloc_new (u.alloc (.cells (wantV x) 4)) (.cells signV 9)
    rwa [e] at this
  · have := heap_alloc_new ((u.alloc (.cells (wantV x) 4)).alloc (.cells signV 9)) (.cells otherV 3)
    rwa [e, e] at this
theorem sgT_below (u : World) (a b c : Obj) : Below u.heap.size u (((u.alloc a).alloc b).alloc c) := by
  have e : ∀ (v : World) (o : Obj), (v.alloc o).heap.size = v.heap.size + 1 := fun _ _ => by simp
  exact (((Below.refl _ _).alloc (Nat.le_refl _) _).alloc (by rw [e]; omega) _).alloc (by rw [e, e]; omega) _
theorem sg_want {u wr W : World} {x : Int} {i : Nat} {b : Bool} (h : SgT u wr x) (hi : i < 6) (hb : wantR x i = b) (hs : Below wr.heap.size wr W) : W.cell? ⟨u.heap.size, i, none⟩ = some (.bool b) := by
  subst hb
  have h1 := (sgT_step h hs).2.1
  simp only [World.cell?, h1]
  exact want_at x i hi
theorem sg_sign {u wr W : World} {x : Int} {i : Nat} {s : List UInt8} (h : SgT u wr x) (hi : i < 6) (hb : sgnT i = s) (hs : Below wr.heap.size wr W) : W.cell? ⟨u.heap.size + 1, i, none⟩ = some (.string ⟨s.toArray⟩) := by
  subst hb
  have h1 := (sgT_step h hs).2.2.1
  simp only [World.cell?, h1]
  match i, hi with
  | 0, _ => rfl
  | 1, _ => rfl
  | 2, _ => rfl
  | 3, _ => rfl
  | 4, _ => rfl
  | 5, _ => rfl
theorem sg_other {u wr W : World} {x : Int} {i j : Nat} (h : SgT u wr x) (hi : i < 6) (hb : otherR i = j) (hs : Below wr.heap.size wr W) : W.cell? ⟨u.heap.size + 2, i, none⟩ = some (.int .i64 j) := by
  subst hb
  have h1 := (sgT_step h hs).2.2.2
  simp only [World.cell?, h1]
  match i, hi with
  | 0, _ => rfl
  | 1, _ => rfl
  | 2, _ => rfl
  | 3, _ => rfl
  | 4, _ => rfl
  | 5, _ => rfl
theorem other_lt (i : Nat) : otherR i < 6 := by unfold otherR; split <;> omega
set_option maxRecDepth 100000 in
set_option maxHeartbeats 16000000 in
theorem rngSigns_any (a b : List UInt8) (w : World) (hw : MaxOk w) :
    Calls Tryd.prog 3 #[.string ⟨a.toArray⟩, .string ⟨b.toArray⟩] w fun e w' => e = .returned (.bool true) ∧ Below w.heap.size w w' := by
  have HS0 : Hid (St w w []) := ⟨hw, Below.refl _ _, fun x hx => (by cases hx)⟩
  clear hw
  go_enter Tryd.func3, Tryd.ntmps3
  go_wp2_with fail
  refine (s_known3 HS0.out).mono ?_
  rintro _ u1 ⟨rfl, hs⟩
  have HS1 := Lib.hid hs
  clear hs HS0
  obtain ⟨ca, hca⟩ : ∃ c, Vm.check a = c := ⟨_, rfl⟩
  obtain ⟨cb, hcb⟩ : ∃ c, Vm.check b = c := ⟨_, rfl⟩
  have HCA := Lib.hid hca
  have HCB := Lib.hid hcb
  clear hca hcb
  go_wp2_with fail
  refine (s_checkVer HS1.out a ca HCA.out).mono ?_
  rintro _ u2 ⟨rfl, hs⟩
  have HS2 := Lib.hid hs
  clear hs HS1
  by_cases ga : ca = 0
  case neg =>
    have gea : (ca != 0) = true := by simpa using ga
    clear ga
    go_wp2_with fail
    go_ret
    exact ⟨rfl, HS2.out.2.1⟩
  subst ga
  go_wp2_with fail
  refine (s_checkVer HS2.out b cb HCB.out).mono ?_
  rintro _ u3 ⟨rfl, hs⟩
  have HS3 := Lib.hid hs
  clear hs HS2
  by_cases gb : cb = 0
  case neg =>
    have geb : (cb != 0) = true := by simpa using gb
    clear gb
    go_wp2_with fail
    go_ret
    exact ⟨rfl, HS3.out.2.1⟩
  subst gb
  obtain ⟨x, hx⟩ : ∃ c, Vm.cmpV a b = c := ⟨_, rfl⟩
  have HXC := Lib.hid hx
  clear hx
  go_wp2_with fail
  refine (compare_at a b x _ (st_max HS3.out) HCA.out HCB.out HXC.out).mono ?_
  rintro _ U4 ⟨rfl, hb⟩
  have HS4 := Lib.hid (st_step HS3.out hb)
  clear hb HS3
  go_wp2_with fail
  go_loopw [9] (fun s wr => ∃ i : Nat, i ≤ 6 ∧ s = .int .i64 i ∧ Hid (MaxOk wr ∧ Below w.heap.size w wr ∧ SgT U4 wr x)) (fun s _ => 6 - (intOf s).toNat)
  case atStart => exact ⟨0, by decide, rfl, maxOk_below (st_max HS4.out) (sgT_below U4 _ _ _), HS4.out.2.1.trans ((sgT_below U4 _ _ _).mono HS4.out.2.1.size), sgT_new U4 x⟩
  case round =>
    obtain ⟨i, hi, rfl, HW⟩ := hrel
    by_cases hlt : i < 6
    · obtain ⟨bb, hbb⟩ : ∃ c, wantR x i = c := ⟨_, rfl⟩
      obtain ⟨s, hs⟩ : ∃ c, sgnT i = c := ⟨_, rfl⟩
      obtain ⟨j, hj⟩ : ∃ c, otherR i = c := ⟨_, rfl⟩
      have hj6 : j < 6 := by rw [← hj]; exact other_lt i
      obtain ⟨s2, hs2⟩ : ∃ c, sgnT j = c := ⟨_, rfl⟩
      have HBB := Lib.hid hbb
      have HSI := Lib.hid hs
      have HJ := Lib.hid hj
      have HSJ := Lib.hid hs2
      obtain ⟨X, hX⟩ : ∃ c, signR (Vm.canon b) i = c := ⟨_, rfl⟩
      obtain ⟨Y, hY⟩ : ∃ c, signR (Vm.canon b) j = c := ⟨_, rfl⟩
      have HOX : Hid (ofR s b = X ∧ ofE s b = 0) := by show _ ∧ _; rw [← hs, ← hX]; exact ofR_sgn i hlt HCB.out
      have HOY : Hid (ofR s2 b = Y ∧ ofE s2 b = 0) := by show _ ∧ _; rw [← hs2, ← hY]; exact ofR_sgn j hj6 HCB.out
      have HGx : Hid (Rs.Good X) := by show Rs.Good X; rw [← hX]; exact good_sign (own_canon HCB.out) i hlt
      have HGy : Hid (Rs.Good Y) := by show Rs.Good Y; rw [← hY]; exact good_sign (own_canon HCB.out) j hj6
      have HNS : Hid (notR X = Y) := by show _ = _; rw [← hX, ← hY, ← hj]; exact not_sign _ i hlt
      have HOS : Hid (orR X Y = allR) := by show _ = _; rw [← hX, ← hY, ← hj]; exact or_sign (own_canon HCB.out) i hlt
      have HHA : Hid (hasR X a = bb) := by show _ = _; rw [← hX, ← hbb, ← HXC.out]; exact has_sign HCB.out i hlt
      clear hbb hs hj hs2 hX hY
      have HR0 : Hid (St wr wr []) := ⟨HW.out.1, Below.refl _ _, fun x hx => (by cases hx)⟩
      have c1 := sg_sign HW.out.2.2 hlt HSI.out (Below.refl _ _)
      have i0 : (0 : Int) ≤ (i : Int) := by omega
      have i6 : (i : Int) < 6 := by omega
      have j0 : (0 : Int) ≤ (j : Int) := by omega
      have j6 : (j : Int) < 6 := by omega
      go_wp2_with fail
      refine (s_of HR0.out s b X 0 HOX.out.1 HOX.out.2).mono ?_
      rintro _ r1 ⟨C1, n1, d1, rfl, hs⟩
      have HR1 := Lib.hid hs
      clear hs c1 HR0
      have c2 := sg_other HW.out.2.2 hlt HJ.out HR1.out.2.1
      have c3 := sg_sign HW.out.2.2 hj6 HSJ.out HR1.out.2.1
      go_wp2_with fail
      refine (s_of HR1.out s2 b Y 0 HOY.out.1 HOY.out.2).mono ?_
      rintro _ r2 ⟨C2, n2, d2, rfl, hs⟩
      have HR2 : Hid (St wr r2.drew _) := st_step hs ((Below.refl _ _).drew)
      clear hs c2 c3 HR1
      go_wp2_with fail
      go_region_held3 (fun w' => w'.cell? ⟨U4.heap.size, i, none⟩ = some (.bool bb))
        (first
          | exact sg_want HW.out.2.2 hlt HBB.out HR2.out.2.1
          | exact sg_want HW.out.2.2 hlt HBB.out HR3.out.2.1
          | exact sg_want HW.out.2.2 hlt HBB.out HR4.out.2.1
          | exact sg_want HW.out.2.2 hlt HBB.out HR5.out.2.1
          | exact sg_want HW.out.2.2 hlt HBB.out HR6.out.2.1
          | exact sg_want HW.out.2.2 hlt HBB.out HR7.out.2.1
          | exact sg_want HW.out.2.2 hlt HBB.out HR8.out.2.1
          | exact sg_want HW.out.2.2 hlt HBB.out HR9.out.2.1)
        (first
          | (go_at_call 9; refine (s_checkG HR2.out 1 rfl HGx.out _).mono ?_; rintro _ r3 ⟨rfl, hs⟩; have HR3 := Lib.hid hs; clear hs)
          | (go_at_call 10; refine (s_has HR3.out 1 rfl HGx.out _ a HCA.out bb HHA.out).mono ?_; rintro _ r4 ⟨rfl, hs⟩; have HR4 := Lib.hid hs; clear hs)
          | (go_at_call 12; refine (s_not HR4.out 1 rfl HGx.out _ _ rfl).mono ?_; rintro _ r5 ⟨C5, n5, d5, rfl, hs⟩; have HR5 := Lib.hid hs; clear hs)
          | (go_at_call 11; refine (s_sameG HR8.out 1 0 rfl rfl (goodO HGx.out HGy.out) goodAll _ _ HOS.out).mono ?_; rintro _ r9 ⟨rfl, hs⟩; have HR9 := Lib.hid hs; clear hs)
          | (go_at_call 11; refine (s_sameG HR5.out 0 1 rfl rfl (goodN HGx.out) HGy.out _ _ HNS.out).mono ?_; rintro _ r6 ⟨rfl, hs⟩; have HR6 := Lib.hid hs; clear hs)
          | (go_at_call 13; refine (s_or HR6.out 2 1 rfl rfl HGx.out HGy.out _ _ _ rfl).mono ?_; rintro _ r7 ⟨C7, n7, d7, rfl, hs⟩; have HR7 := Lib.hid hs; clear hs)
          | (go_at_call 14; refine (s_all HR7.out _ rfl).mono ?_; rintro _ r8 ⟨C8, n8, d8, rfl, hs⟩; have HR8 := Lib.hid hs; clear hs))
      have HW9 : Hid (MaxOk r9 ∧ Below w.heap.size w r9 ∧ SgT U4 r9 x) := ⟨st_max HR9.out, HW.out.2.1.trans (HR9.out.2.1.mono HW.out.2.1.size), sgT_step HW.out.2.2 HR9.out.2.1⟩
      clear HR2 HR3 HR4 HR5 HR6 HR7 HR8 HR9
      go_wp2_with fail
      go_roundw
      case rel => exact ⟨i + 1, by omega, by go_num, HW9⟩
      case measure => simp [intOf]; omega
    · go_wp2_with fail
      go_ret
      exact ⟨rfl, HW.out.2.1⟩
end Go.Proofs.YtpfkcjofpihgjaaDoor

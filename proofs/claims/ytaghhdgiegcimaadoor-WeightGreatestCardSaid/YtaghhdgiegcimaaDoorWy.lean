/- WeightGreatest and WeightSums: floats gathered from their bits. -/
import Derived.Test.YtaghhdgiegcimaaDoorWv
import Derived.OwnWalk
namespace Go.Proofs.YtaghhdgiegcimaaDoor
open Go.RowKit

/-- A slice that reads as these unsigned numbers. -/
def URow (w : World) (A : Option Addr) (ns : List Nat) : Prop := 0 < ns.length → ∃ ad, A = some ad ∧ ad.block < w.heap.size ∧ ∀ j (h : j < ns.length), w.cell? (ad.add j) = some (.int .u64 ns[j])
/-- The slice v, made from block B on, holds the floats bs. -/
def FOwn (w : World) (B : Nat) (v : Value) (bs : List Nat) : Prop := w.ownsRow B 39 1 v bs.length (bs.map (fun b => Value.float .f64 b))
theorem fOwn_nil (w : World) (B : Nat) : FOwn w B (.slice none 0 0) [] := World.ownsRow_nil w B _ 1
theorem infoFloat : (Tryd.prog.info? 39).map (fun i => (i.zero, i.size, i.bytes)) = some (some (.float .f64 0), 1, 8) := by kernel_rfl
theorem append_float {ops : Array Oper} {rest : List Oper} {o : Oper} {a : Act} {Q : Exit → Act → World → Prop} {w : World} (hgd : o.guard = none) (sl x : Operand)
    (ho : o.op = .call { callee := .builtin .append, args := #[sl, x], argTypes := #[54, 54] })
    (B : Nat) (v : Value) (l m : List Nat) (hs : a.eval sl = v) (hown : FOwn w B v l) (ad : Addr) (c : Nat) (hx : a.eval x = .slice (some ad) m.length c)
    (hnews : ∀ j u, (m.map (fun b => Value.float .f64 b))[j]? = some u → w.cell? (ad.add j) = some u) (hsz : l.length + m.length ≤ 10000) (hB : B ≤ w.heap.size)
    (h : ∀ v' w', FOwn w' B v' (l ++ m) → w.grownBy w' v.ownBlock → wpList Tryd.prog ops Q rest (a.put o.dst v') w') : wpList Tryd.prog ops Q (o :: rest) a w := by
  obtain ⟨i0, hi, hz0, hz1, hz2⟩ := info_parts infoFloat
  refine wpList_append_own w hgd sl x _ ho B _ i0 (.float .f64 0) 1 8 Tryd.underlying54 hi hz0 hz1 hz2 rfl (by decide) v _ _ hs hown ad m.length c (m.map (fun b => Value.float .f64 b)) hx (by simp) hnews (fun u hu => by simp only [List.mem_map] at hu; obtain ⟨b, _, rfl⟩ := hu; rfl) (by unfold maxLen; omega) (by omega) hB ?_
  intro v' w' h1 h2 _
  refine h v' w' ?_ h2
  unfold FOwn
  rw [List.map_append, List.length_append]
  exact h1
theorem fOwn_alloc {w : World} {B : Nat} {v : Value} {l : List Nat} (h : FOwn w B v l) (o : Obj) : FOwn (w.alloc o) B v l := World.ownsRow.alloc h o
theorem fGrown_below {w w' : World} {B : Nat} {v : Value} {l : List Nat} (h : FOwn w B v l) (hB : B ≤ w.heap.size) (hg : w.grownBy w' v.ownBlock) : Below B w w' :=
  (Below.refl B w).grown hg hB (fun k hk => (World.ownsRow.lt h k hk).1)
theorem cell_newF (w : World) (T : TypeId) (b : Nat) : ∀ j u, (([b] : List Nat).map (fun b => Value.float .f64 b))[j]? = some u → (w.alloc (.cells #[.float .f64 b] T)).cell? ((⟨w.heap.size, 0, none⟩ : Addr).add j) = some u := by
  intro j u h
  match j, h with
  | 0, h =>
    simp at h
    subst h
    simp [Addr.add]
theorem fOwn_row {w : World} {B : Nat} {v : Value} {l : List Nat} (h : FOwn w B v l) : ∃ A c, v = .slice A l.length c ∧ FRow w A l := by
  have h0 := h
  obtain ⟨h1, h2⟩ := h
  rcases h2 with ⟨rfl, h2⟩ | ⟨g, cap, cur, rfl, e2, e3, e4, e5, e6, e7⟩
  · have : l = [] := List.eq_nil_of_length_eq_zero h2
    subst this
    exact ⟨none, 0, rfl, fun h => by simp at h⟩
  · refine ⟨some ⟨g, 0, none⟩, cap, rfl, fun _ => ⟨_, rfl, fun j hj => ?_⟩⟩
    exact World.ownsRow.cells h0 rfl j _ (by simp [hj])
theorem uRow_below {w w' : World} {A : Option Addr} {ns : List Nat} (h : URow w A ns) (hb : Below w.heap.size w w') : URow w' A ns := fun h0 => by
  obtain ⟨ad, e, hl, hc⟩ := h h0
  refine ⟨ad, e, Nat.lt_of_lt_of_le hl hb.size, fun j hj => ?_⟩
  rw [hb.cell (by rw [show (ad.add j).block = ad.block from by unfold Addr.add; split <;> rfl]; exact hl)]
  exact hc j hj
theorem uRow_at {w : World} {A : Option Addr} {ns : List Nat} (h : URow w A ns) (k : Nat) (hk : k < ns.length) : ∃ ad n, A = some ad ∧ ns[k] = n ∧ w.cell? (ad.add k) = some (.int .u64 n) := by
  obtain ⟨ad, e, _, hc⟩ := h (by omega)
  exact ⟨ad, _, e, rfl, hc k hk⟩
def Pl (bs : List Nat) (i : Nat) : Nat := Wm.placeN (bs.getD i 0)
def GInv (bs : List Nat) (i b : Nat) : Prop := (∀ j, j < i → Pl bs j ≤ Pl bs b) ∧ (∀ j, j < b → Pl bs j < Pl bs b) ∧ (b < i ∨ (i = 0 ∧ b = 0))
theorem gInv_all (bs : List Nat) : ∀ (n i b : Nat), GInv bs i b → GInv bs (i + n) (greatF bs n i b)
  | 0, i, b, h => h
  | n + 1, i, b, h => by
    rw [show i + (n + 1) = (i + 1) + n from by omega]
    unfold greatF
    refine gInv_all bs n (i + 1) _ ?_
    obtain ⟨h1, h2, h3⟩ := h
    have s := sgn_eq (Wm.placeN (bs.getD i 0)) (Wm.placeN (bs.getD b 0))
    unfold cmpW
    have e1 : Wm.placeN (bs.getD i 0) = Pl bs i := rfl
    have e2 : Wm.placeN (bs.getD b 0) = Pl bs b := rfl
    rw [e1, e2] at s ⊢
    split
    · refine ⟨fun j hj => ?_, fun j hj => ?_, Or.inl (by omega)⟩
      · rcases Nat.lt_or_eq_of_le (Nat.le_of_lt_succ hj) with h4 | rfl
        · have := h1 j h4; omega
        · exact Nat.le_refl _
      · have := h1 j hj; omega
    · refine ⟨fun j hj => ?_, h2, Or.inl (by omega)⟩
      rcases Nat.lt_or_eq_of_le (Nat.le_of_lt_succ hj) with h4 | rfl
      · exact h1 j h4
      · omega
theorem great_ok (bs : List Nat) (h : 0 < bs.length) : ∃ g y, great bs = g ∧ g < bs.length ∧ bs[g]? = some y ∧ ∀ i x, bs[i]? = some x → cmpW x y ≤ 0 ∧ (i < g → cmpW x y ≠ 0) := by
  have hi := gInv_all bs bs.length 0 0 ⟨fun j hj => by omega, fun j hj => by omega, Or.inr ⟨rfl, rfl⟩⟩
  rw [Nat.zero_add] at hi
  obtain ⟨h1, h2, h3⟩ := hi
  have hg : great bs < bs.length := by unfold great; omega
  refine ⟨great bs, bs[great bs], rfl, hg, List.getElem?_eq_getElem hg, fun i x hx => ?_⟩
  obtain ⟨hil, hxe⟩ := List.getElem?_eq_some_iff.1 hx
  have s := sgn_eq (Wm.placeN x) (Wm.placeN bs[great bs])
  have e1 : Pl bs i = Wm.placeN x := by unfold Pl; rw [show bs.getD i 0 = x from by simp [List.getD, hil, hxe]]
  have e2 : Pl bs (great bs) = Wm.placeN bs[great bs] := by unfold Pl; rw [show bs.getD (great bs) 0 = bs[great bs] from by simp [List.getD, hg]]
  have a1 := h1 i hil
  have a2 := h2 i
  rw [show greatF bs bs.length 0 0 = great bs from rfl] at a1 a2
  rw [e1, e2] at a1 a2
  unfold cmpW
  omega
set_option maxHeartbeats 2000000 in
theorem weightGreatest_any (A : Option Addr) (c : Nat) (ns : List Nat) (w : World) (h : URow w A ns) (hn : ∀ n ∈ ns, n < Wm.W) (hk : KOk w) :
    Calls Tryd.prog 12 #[.slice A ns.length c] w fun e w' => e = .returned (.bool true) ∧ Below w.heap.size w w' := by
  have HR := Lib.hid h
  have HN := Lib.hid hn
  have hfb := fb_run
  clear h hn
  go_enter Tryd.func12, Tryd.ntmps12
  go_wp2_with fail
  refine (known_any w hk).mono ?_
  rintro e w1 ⟨rfl, h1⟩
  have HD := Lib.hid h1
  clear h1 hk
  by_cases hl : 60 < ns.length
  · go_wp2_with fail
    go_ret
    exact ⟨rfl, HD.out⟩
  go_wp2_with fail
  go_loopw [3, 4] (fun f i wr => ∃ (k : Nat), k ≤ ns.length ∧ i = .int .i64 k ∧ Hid (FOwn wr w.heap.size f (ns.take k)) ∧ Hid (Below w.heap.size w wr)) (fun _ i _ => ns.length - (intOf i).toNat)
  case atStart => exact ⟨0, by omega, rfl, fOwn_nil _ _, HD⟩
  case round =>
    obtain ⟨k, hk, rfl, HF, HB⟩ := hrel
    by_cases hlt : k < ns.length
    · have hR := uRow_below HR.out HB.out
      obtain ⟨ad, n, rfl, hn, hc⟩ := uRow_at hR k hlt
      clear hR
      have hsz : w.heap.size ≤ wr.heap.size := HB.out.size
      have HT := Lib.hid (take_snoc hlt hn)
      clear hn
      go_wp2_with (at_builtin; refine append_float rfl _ _ rfl w.heap.size _ (ns.take k) [n] rfl (fOwn_alloc HF.out _) ⟨wr.heap.size, 0, none⟩ _ rfl (cell_newF wr _ n) ?c1 ?c2 ?_)
      case c1 => simp; omega
      case c2 => simp; omega
      intro v5 W5 ho5 hg5
      have HB5 := Lib.hid ((HB.out.alloc hsz (.cells #[.float .f64 n] 39)).trans (fGrown_below (fOwn_alloc HF.out _) (by simp; omega) hg5))
      have HF5 : Hid (FOwn W5 w.heap.size v5 (ns.take (k + 1))) := by show FOwn _ _ _ _; rw [HT.out]; exact ho5
      clear ho5 hg5 HF HB
      go_wp2_with fail
      go_roundw
      case rel => exact ⟨k + 1, by omega, by go_num, HF5, HB5⟩
      case measure => simp [intOf]; omega
    · obtain rfl : k = ns.length := by omega
      have HF1 : Hid (FOwn wr w.heap.size u3 ns) := by show FOwn _ _ _ _; have := HF.out; rwa [List.take_length] at this
      clear HF hlt
      obtain ⟨A2, c2, rfl, hrow⟩ := fOwn_row HF1.out
      have HRW := Lib.hid hrow
      clear hrow
      go_wp2_with fail
      refine (greatest_w A2 c2 ns _ HRW.out (by omega) HN.out).mono ?_
      rintro e w3 ⟨g1, g2⟩; subst g2; subst g1
      by_cases h0 : ns = []
      · subst h0
        go_wp2_with fail
        go_ret
        exact ⟨rfl, HB.out⟩
      have hpos : 0 < ns.length := List.length_pos_iff.2 h0
      obtain ⟨g, y, hg, hgl, hy, hall⟩ := great_ok ns hpos
      rw [hg, decide_eq_true hpos]
      have HA := Lib.hid hall
      have HY := Lib.hid hy
      have hng : ¬ ns.length ≤ g := by omega
      have hg0 : ¬ (g : Int) < 0 := by omega
      clear hg h0 hall hy
      go_wp2_with fail
      clear hfb HD
      go_loopw [7] (fun i wq => ∃ (k : Nat), k ≤ ns.length ∧ i = .int .i64 k ∧ ∃ m, wq = wr.drewN m) (fun i _ => ns.length - (intOf i).toNat)
      case atStart => exact ⟨0, by omega, rfl, 0, rfl⟩
      case round =>
        obtain ⟨k, hk2, rfl, m, rfl⟩ := hrel
        by_cases hlt2 : k < ns.length
        · obtain ⟨ad, x, hA, hx, hcx⟩ := fRow_at HRW.out k hlt2
          obtain ⟨ad2, y2, hA2, hy2, hcy⟩ := fRow_at HRW.out g hgl
          obtain rfl : ad = ad2 := by rw [hA] at hA2; exact Option.some.inj hA2
          obtain rfl : y = y2 := by have := HY.out; rw [List.getElem?_eq_getElem hgl, hy2] at this; exact (Option.some.inj this).symm
          subst hA
          have hxw : x < Wm.W := by rw [← hx]; exact HN.out _ (List.getElem_mem hlt2)
          have hyw : y < Wm.W := by rw [← hy2]; exact HN.out _ (List.getElem_mem hgl)
          have hb := HA.out k x (by rw [List.getElem?_eq_getElem hlt2, hx])
          have HX := Lib.hid hxw
          have HYW := Lib.hid hyw
          clear hx hy2 hxw hyw hA2
          have hw1 : IntKind.i64.wrap (k : Int) = k := IntWalk.i64_in _ (by omega)
          have hw2 : IntKind.i64.wrap (g : Int) = g := IntWalk.i64_in _ (by omega)
          go_wp2_with fail
          go_region_held3 (fun w' => w'.cell? (ad.add k) = some (.float .f64 x) ∧ w'.cell? (ad.add g) = some (.float .f64 y) ∧ Dr wr w')
            (first
              | exact ⟨hcx, hcy, m + 1, rfl⟩
              | assumption)
            (first
              | (go_at_call 24; refine (compareC x y HX.out HYW.out _).mono ?_; rintro _ w1 ⟨rfl, rfl⟩))
          rename_i HS2
          clear HS2
          generalize cmpW x y = v at *
          obtain ⟨hv1, hv2⟩ := hb
          by_cases hv : v = 0
          · subst hv
            have hge : ¬ k < g := fun h => hv2 h rfl
            clear hv1 hv2
            go_wp2_with fail
            go_roundw
            case rel => exact ⟨k + 1, by omega, by go_num, m + 1, rfl⟩
            case measure => simp [intOf]; omega
          · have hv0 : (v == 0) = false := beq_eq_false_iff_ne.2 hv
            clear hv2
            go_wp2_with fail
            go_roundw
            case rel => exact ⟨k + 1, by omega, by go_num, m + 1, rfl⟩
            case measure => simp [intOf]; omega
        · obtain rfl : k = ns.length := by omega
          go_wp2_with fail
          go_ret
          exact ⟨rfl, below_drewN HB.out m⟩
end Go.Proofs.YtaghhdgiegcimaaDoor

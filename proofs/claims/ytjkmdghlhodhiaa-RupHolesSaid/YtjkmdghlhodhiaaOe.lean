/- The reference's Close: walked. -/
import Derived.Test.YtjkmdghlhodhiaaOd
namespace Go.Proofs.Ytjkmdghlhodhiaa.Up
open Go.RowKit Cl
theorem count_range : ∀ (k : Nat) (m : List Int), m.length = k → ((List.range k).filter (fun i => m.getD i 0 == 0)).length = zer m
  | 0, m, h => by rw [List.length_eq_zero_iff.1 h]; rfl
  | k + 1, m, h => by
    have hne : m ≠ [] := fun e => by rw [e] at h; simp at h
    obtain ⟨t, a, rfl⟩ : ∃ t a, m = t ++ [a] := ⟨m.dropLast, m.getLast hne, (List.dropLast_concat_getLast hne).symm⟩
    have ht : t.length = k := by simpa using h
    have ih := count_range k t ht
    have e1 : (List.range k).filter (fun i => (t ++ [a]).getD i 0 == 0) = (List.range k).filter (fun i => t.getD i 0 == 0) := by
      refine List.filter_congr fun i hi => ?_
      have : i < t.length := by rw [ht]; exact List.mem_range.1 hi
      rw [List.getD_eq_getElem?_getD, List.getElem?_append_left this, ← List.getD_eq_getElem?_getD]
    have e2 : (t ++ [a]).getD k 0 = a := by rw [List.getD_eq_getElem?_getD, ← ht, List.getElem?_concat_length]; rfl
    rw [List.range_succ, List.filter_append, e1, List.length_append, ih]
    unfold zer
    rw [List.count_append]
    congr 1
    rw [List.filter_cons, e2, List.count_cons]
    cases a == 0 <;> rfl
open Classical in
/-- How many noughts a block holds. -/
noncomputable def zW (b N : Nat) (u : World) : Nat := ((List.range N).filter (fun i => decide (u.cell? ⟨b, i, none⟩ = some (.int .i64 0)))).length
theorem add_b (b k : Nat) : (⟨b, 0, none⟩ : Addr).add k = ⟨b, k, none⟩ := by
  unfold Addr.add
  split
  · rename_i h0; rw [h0]
  · show (⟨b, 0 + k, none⟩ : Addr) = _; rw [Nat.zero_add]
theorem zW_own {u : World} {B b N c : Nat} {m : List Int} (h : Rg.Own encI 1 u B 3 (.slice (some ⟨b, 0, none⟩) N c) m) (hN : m.length = N) : zW b N u = zer m := by
  rw [← count_range N m hN]
  unfold zW
  refine congrArg _ (List.filter_congr fun i hi => ?_)
  have hi' : i < m.length := by rw [hN]; exact List.mem_range.1 hi
  obtain ⟨A', c', e, hrow, _⟩ := Rg.row_own fitsI h
  obtain ⟨ad, x, had, hx, _, hc⟩ := irow_at hrow i hi'
  have e2 : A' = some ⟨b, 0, none⟩ := by cases e; rfl
  obtain rfl := Option.some.inj (e2.symm.trans had)
  rw [add_b] at hc
  rw [hc, getD_at hi', hx]
  by_cases h0 : x = 0
  · subst h0; simp
  · have : ¬ (some (Value.int .i64 x) = some (Value.int .i64 0)) := fun e => h0 (by injection e with e; injection e)
    exact (decide_eq_false_iff_not.2 this).trans (beq_eq_false_iff_ne.2 h0).symm
def boolN : Value → Nat
  | .bool true => 1
  | _ => 0
def CloseRet (w : World) (l : List (List Int)) (s : List Int) (e : Ending) (w' : World) : Prop := ∃ v out bad, e = .returned (.tuple #[v, .bool bad]) ∧ IsClose l s out bad ∧ Rg.Own encI 1 w' w.heap.size 3 v out ∧ Below w.heap.size w w' ∧ w.heap.size ≤ w'.heap.size
theorem close_bad {w w' : World} {l : List (List Int)} {s : List Int} (h : Contra l s) (hb : Below w.heap.size w w') (hs : w.heap.size ≤ w'.heap.size) : CloseRet w l s (.returned (.tuple #[.slice none 0 0, .bool true])) w' :=
  ⟨_, [], true, rfl, .inl ⟨rfl, rfl, h⟩, Rg.own_nil _ _ _, hb, hs⟩
theorem base_more {n : Nat} {m s : List Int} {j : Nat} {x : Int} (hm : MOk n m) (hj : j < s.length) (hx : s[j] = x) (hl : LitOf n x) (hb : ∀ y ∈ s.take j, valL m y = 1) (hv : valL m x ≠ -1) : ∀ y ∈ s.take (j + 1), valL (setL m x) y = 1 := fun y hy => by
  rw [val_set hm hl]
  rcases (mem_take_more hj hx).1 hy with hy | rfl
  · by_cases e : y = x
    · rw [if_pos e]
    · rw [if_neg e]
      by_cases e2 : y = -x
      · have h1 := hb y hy
        rw [e2, val_neg m hl.1] at h1
        exact absurd (show valL m x = -1 by omega) hv
      · rw [if_neg e2]; exact hb y hy
  · rw [if_pos rfl]
theorem base_keep {n : Nat} {m s : List Int} {u : Int} (hm : MOk n m) (hl : LitOf n u) (hb : ∀ y ∈ s, valL m y = 1) (hv : valL m u = 0) : ∀ y ∈ s, valL (setL m u) y = 1 := fun y hy => by
  rw [val_set hm hl]
  by_cases e : y = u
  · rw [if_pos e]
  · rw [if_neg e]
    by_cases e2 : y = -u
    · have h1 := hb y hy
      rw [e2, val_neg m hl.1, hv] at h1
      exact absurd h1 (by decide)
    · rw [if_neg e2]; exact hb y hy
/-- The truths in memory: a row of one's own, and what keeps it. -/
def MRow (w u : World) (b N : Nat) (m : List Int) : Prop := Rg.Own encI 1 u w.heap.size 3 (.slice (some ⟨b, 0, none⟩) N N) m ∧ Below w.heap.size w u ∧ w.heap.size ≤ u.heap.size
theorem mrow_row {w u : World} {b N : Nat} {m : List Int} (h : MRow w u b N m) : IRow u (some ⟨b, 0, none⟩) m := by
  obtain ⟨A', c', e, hrow, _⟩ := Rg.row_own fitsI h.1
  have e2 : A' = some ⟨b, 0, none⟩ := by cases e; rfl
  rw [e2] at hrow; exact hrow
theorem mrow_set {w u u' : World} {b N : Nat} {m m' : List Int} (h : MRow w u b N m) (ho : Rg.Own encI 1 u' w.heap.size 3 (.slice (some ⟨b, 0, none⟩) N N) m') (hg : u.grownBy u' (Value.slice (some ⟨b, 0, none⟩) N N).ownBlock) : MRow w u' b N m' :=
  ⟨ho, h.2.1.trans (Rg.grown_below h.1 h.2.2 hg), Nat.le_trans h.2.2 hg.size⟩
end Go.Proofs.Ytjkmdghlhodhiaa.Up
namespace Go.Proofs.Ytjkmdghlhodhiaa
open Go.RowKit Cl Up
attribute [local go_sem ↓] Go.wp_at_zero Go.wp_at_succ
set_option maxRecDepth 100000 in
set_option maxHeartbeats 6400000 in
theorem refClose_any (n : Nat) (A B : Option Addr) (ll kk c d : Nat) (l : List (List Int)) (s : List Int) (w : World) (hl : l.length = ll) (hg : GRow w A l) (hk : s.length = kk) (hs : IRow w B s) (hn : n ≤ 10000) (hln : ∀ c ∈ l, ∀ x ∈ c, LitOf n x) (hsn : ∀ x ∈ s, LitOf n x) (hl1 : ll ≤ 1000000) (hk1 : kk ≤ 1000000) (hlc : ∀ c ∈ l, c.length ≤ 1000000) :
    Calls Try.prog 35 #[.int .i64 n, .slice A ll c, .slice B kk d] w (CloseRet w l s) := by
  have HL := Lib.hid hl
  have HG := Lib.hid hg
  have HK := Lib.hid hk
  have HS := Lib.hid hs
  have HLN := Lib.hid hln
  have HSN := Lib.hid hsn
  have HLC := Lib.hid hlc
  obtain ⟨N, hN⟩ : ∃ N, N = n + 1 := ⟨_, rfl⟩
  obtain ⟨w1, hmk, hown, hgr⟩ := mk_row N w w.heap.size (Nat.le_refl _) (by omega)
  have wN : IntKind.i64.wrap ((n : Int) + 1) = (N : Int) := (IntWalk.i64_in _ (by omega)).trans (by omega)
  have HM1 : Hid (MRow w w1 w.heap.size N (List.replicate N 0)) := ⟨hown, (Below.refl _ _).trans (Rg.grown_below (Rg.own_nil (enc := encI) (K := 1) w w.heap.size 3) (Nat.le_refl _) hgr), hgr.size⟩
  have HN := Lib.hid hN
  obtain ⟨b, hb⟩ : ∃ b, w.heap.size = b := ⟨_, rfl⟩
  have HB := Lib.hid hb
  rw [hb] at hmk HM1
  have hN1 : N ≤ 10001 := by omega
  clear hl hg hk hs hln hsn hlc hown hgr hN hb
  go_enter Try.func35, Try.ntmps35
  go_wp2_with fail
  clear hmk wN
  go_loopw [9] (fun i wr => ∃ (j : Nat) (m : List Int), j ≤ kk ∧ i = .int .i64 j ∧ Hid (MOk n m) ∧ Hid (Sound l s m) ∧ Hid (∀ y ∈ s.take j, valL m y = 1) ∧ Hid (MRow w wr b N m)) (fun i _ => kk - (intOf i).toNat)
  case atStart => exact ⟨0, _, Nat.zero_le _, rfl, by show MOk _ _; rw [HN.out]; exact mok_new n, by show Sound _ _ _; rw [HN.out]; exact sound_new l s n, fun y h => absurd h (by simp), HM1⟩
  case round =>
    obtain ⟨j, m, hj, rfl, HMO, HSO, HBA, HMR⟩ := hrel
    by_cases hlt : j < kk
    · have hjl : j < s.length := by rw [HK.out]; exact hlt
      obtain ⟨ad, x, rfl, hx, hxb, hc⟩ := irow_at (irow_below HS.out HMR.out.2.1) j hjl
      have hxl := HSN.out x (hx ▸ List.getElem_mem hjl)
      have hml : m.length = N := HMO.out.len.trans HN.out.symm
      have j0 : (0 : Int) ≤ (j : Int) := by omega
      have j1 : (j : Int) < (kk : Int) := by omega
      have HC := Lib.hid (refVal_any _ n N N m x wr hml (mrow_row HMR.out) HMO.out hxl (by omega))
      have HD := Lib.hid (refSet_any w.heap.size n N N _ m x wr hml HMR.out.1 HMO.out hxl (by omega))
      have hvt := val_tri HMO.out x
      obtain ⟨v, hv⟩ : ∃ v, valL m x = v := ⟨_, rfl⟩
      rw [hv] at hvt HC
      by_cases v1 : v = -1
      · subst v1
        have HBAD : Hid (Contra l s) := .inl ⟨x, .lit (hx ▸ List.getElem_mem hjl), sound_neg HSO.out hxl.1 hv⟩
        clear hx hxb hxl hvt hv hjl hml HD
        go_wp2_with (go_at_call 50; refine HC.out.mono ?_)
        rintro _ w2 ⟨rfl, rfl⟩
        go_wp2_with fail
        go_ret2
        exact close_bad HBAD.out HMR.out.2.1 HMR.out.2.2
      · have hv0 : decide (v < 0) = false := decide_eq_false (by omega)
        have HMO2 := Lib.hid (mok_set HMO.out hxl)
        have HSO2 := Lib.hid (sound_set HMO.out HSO.out hxl (.lit (hx ▸ List.getElem_mem hjl)))
        have HBA2 := Lib.hid (base_more HMO.out hjl hx hxl HBA.out (by rw [hv]; exact v1))
        clear hx hxb hxl hvt hv hjl v1 hml
        go_wp2_with (go_at_call 50; refine HC.out.mono ?_)
        rintro _ w2 ⟨rfl, rfl⟩
        go_wp2_with (go_at_call 51; refine HD.out.mono ?_)
        rintro _ w3 ⟨rfl, ho3, hg3⟩
        have HMR3 := Lib.hid (mrow_set HMR.out ho3 hg3)
        clear ho3 hg3
        go_wp2_with fail
        go_roundw
        case rel => exact ⟨j + 1, _, by omega, by go_num, HMO2, HSO2, HBA2, HMR3⟩
        case measure => simp [intOf]; omega
    · have HBA2 : Hid (∀ y ∈ s, valL m y = 1) := fun y hy => HBA.out y (by rw [List.take_of_length_le (by rw [HK.out]; omega)]; exact hy)
      go_wp2_with fail
      clear HBA
      have HSO_ := HSO
      clear HSO
      go_loopw [10, 11, 12, 13] (fun ag _ _ _ wr => ∃ (g : Bool) (m : List Int), ag = .bool g ∧ Hid (MOk n m) ∧ Hid (Sound l s m) ∧ Hid (∀ y ∈ s, valL m y = 1) ∧ Hid (g = false → ∀ c ∈ l, UnitR c m 0 false) ∧ Hid (MRow w wr b N m)) (fun ag _ _ _ wr => 2 * zW b N wr + boolN ag)
      case atStart => exact ⟨true, m, rfl, HMO, HSO_, HBA2, (fun e => (by cases e)), HMR⟩
      case round =>
        clear HMO HSO_ HBA2 HMR
        obtain ⟨g, m, rfl, HMO, HSO, HBA, HCL, HMR⟩ := hrel
        obtain ⟨z1, hz1⟩ : ∃ z1, z1 = wr := ⟨_, rfl⟩
        subst hz1
        cases g
        · have HCC := Lib.hid (HCL.out rfl)
          clear HCL
          go_wp2_with fail
          have HDONE := Lib.hid (ref_done HMO.out HSO.out HSN.out HLN.out HBA.out HCC.out)
          have HROW := Lib.hid (mrow_row HMR.out)
          have hml : m.length = N := HMO.out.len.trans HN.out.symm
          have HML := Lib.hid hml
          have HTRI := Lib.hid HMO.out.tri
          have HBZ : Hid (Below w.heap.size w z1 ∧ w.heap.size ≤ z1.heap.size) := HMR.out.2
          clear HSO HBA HCC HMR hml
          go_loopw [14, 15] (fun v i w3 => ∃ (k p : Nat), k ≤ N ∧ k = p + 1 ∧ i = .int .i64 k ∧ Hid (Rg.Own encI 1 w3 z1.heap.size 3 v (outK m p)) ∧ Hid ((outK m p).length ≤ p) ∧ Hid (Below z1.heap.size z1 w3 ∧ z1.heap.size ≤ w3.heap.size)) (fun _ i _ => N - (intOf i).toNat)
          case atStart => exact ⟨1, 0, by have := HN.out; omega, rfl, rfl, Rg.own_nil _ _ _, Nat.le_refl _, Below.refl _ _, Nat.le_refl _⟩
          case round =>
            obtain ⟨k, p, hk, hkp, rfl, HO, HOL, HB⟩ := hrel
            have HKP := Lib.hid hkp
            by_cases hlt : k < N
            · have hkl : k < m.length := by rw [HML.out]; exact hlt
              obtain ⟨ad, x, had, hx, hxb, hc⟩ := irow_at (irow_below HROW.out HB.out.1) k hkl
              obtain rfl := Option.some.inj had
              rw [add_b] at hc
              have hxt := HTRI.out k
              rw [getD_at hkl, hx] at hxt
              have hout : outK m (p + 1) = outK m p ++ (if x = 0 then [] else [(k : Int) * x]) := by
                rw [outK, ← hkp, getD_at hkl, hx]
              have k0 : (0 : Int) ≤ (k : Int) := by omega
              have k1 : (k : Int) < (N : Int) := by omega
              have k2 : (k : Int) ≤ (n : Int) := by have := HN.out; omega
              cases hx0 : x == 0
              · have hx1 : (x != 0) = true := by show (!(x == 0)) = true; rw [hx0]; rfl
                have hxn : x ≠ 0 := by simpa using hx0
                rw [if_neg hxn] at hout
                obtain ⟨y, hy⟩ : ∃ y, (k : Int) * x = y := ⟨_, rfl⟩
                rw [hy] at hout
                have hyb : -10001 ≤ y ∧ y ≤ 10001 := by
                  rcases hxt with h | h | h
                  · rw [h] at hy; omega
                  · exact absurd h hxn
                  · rw [h] at hy; omega
                have wy : IntKind.i64.wrap ((k : Int) * x) = y := (IntWalk.i64_in _ (by rw [hy]; omega)).trans hy
                have HOUT := Lib.hid hout
                clear hout had hx hxb hxt hy hyb hxn hkl hkp
                go_wp2_with (at_builtin; refine Rg.wpList_app sliceI rfl (.tmp 70) (.tmp 77) rfl z1.heap.size _ (outK m p) [y] rfl (Rg.own_below HO.out ((Below.refl _ _).alloc (Nat.le_refl _) _)) _ _ rfl (Rg.news_new wr _ _ _ (by rfl)) (Nat.zero_lt_succ _) ?s1 ?b1 ?_)
                case s1 => have := HOL.out; have := HKP.out; show _ + 1 ≤ _; omega
                case b1 => have := HB.out.2; simp; omega
                intro v5 W5 ho5 hg5 hz5
                rw [← HOUT.out] at ho5
                have HO5 := Lib.hid ho5
                have HB5 : Hid (Below z1.heap.size z1 W5 ∧ z1.heap.size ≤ W5.heap.size) := by
                  have e : (wr.alloc (.cells #[.int .i64 y] 3)).heap.size = wr.heap.size + 1 := by simp
                  have h0 : Below z1.heap.size z1 (wr.alloc (.cells #[.int .i64 y] 3)) := HB.out.1.alloc HB.out.2 _
                  refine ⟨h0.trans (Rg.grown_below (Rg.own_below HO.out ((Below.refl _ _).alloc (Nat.le_refl _) _)) ?_ hg5), ?_⟩
                  · rw [e]; have := HB.out.2; omega
                  · have := hg5.size; have := HB.out.2; rw [e] at *; omega
                have HL5 : Hid ((outK m (p + 1)).length ≤ p + 1) := by
                  show _ ≤ _
                  rw [HOUT.out, List.length_append]; have := HOL.out; show _ + 1 ≤ _; omega
                clear ho5 hg5 hz5 HO HB HOL hc
                go_wp2_with fail
                go_roundw
                case rel => exact ⟨k + 1, p + 1, by omega, by have := HKP.out; omega, by go_num, HO5.out, HL5.out, HB5.out⟩
                case measure => simp [intOf]; omega
              · have hx1 : (x != 0) = false := by show (!(x == 0)) = false; rw [hx0]; rfl
                have hxz : x = 0 := by simpa using hx0
                rw [if_pos hxz, List.append_nil] at hout
                have ho5 := HO.out
                rw [← hout] at ho5
                have HO5 := Lib.hid ho5
                clear ho5
                have HL5 : Hid ((outK m (p + 1)).length ≤ p + 1) := by
                  show _ ≤ _
                  rw [hout]; have := HOL.out; omega
                clear hout had hx hxb hxt hxz hkl hkp HO HOL
                go_wp2_with fail
                go_roundw
                case rel => exact ⟨k + 1, p + 1, by omega, by have := HKP.out; omega, by go_num, HO5.out, HL5.out, HB.out⟩
                case measure => simp [intOf]; omega
            · have hpn : p = n := by have := HN.out; omega
              have k2 : ¬ (k : Int) ≤ (n : Int) := by have := HN.out; omega
              clear hkp
              subst hpn
              go_wp2_with fail
              go_ret2
              exact ⟨_, outK m p, false, rfl, HDONE.out, Rg.own_weak HBZ.out.2 HO.out, HBZ.out.1.trans (HB.out.1.mono HBZ.out.2), Nat.le_trans HBZ.out.2 HB.out.2⟩
        · clear HCL
          have HZ1 : Hid (zW b N z1 = zer m) := zW_own HMR.out.1 (HMO.out.len.trans HN.out.symm)
          go_wp2_with fail
          go_loopw [10, 11, 12, 13] (fun ag i _ _ w3 => ∃ (g : Bool) (j : Nat) (q : List Int), j ≤ ll ∧ ag = .bool g ∧ i = .int .i64 j ∧ Hid (MOk n q) ∧ Hid (Sound l s q) ∧ Hid (∀ y ∈ s, valL q y = 1) ∧ Hid (g = false → q = m ∧ ∀ c ∈ l.take j, UnitR c q 0 false) ∧ Hid (g = true → zer q < zer m) ∧ Hid (MRow w w3 b N q)) (fun _ i _ _ _ => ll - (intOf i).toNat)
          case atStart => exact ⟨false, 0, m, Nat.zero_le _, rfl, rfl, HMO, HSO, HBA, fun _ => ⟨rfl, fun c h => absurd h (by simp)⟩, (fun e => (by cases e)), HMR⟩
          case round =>
            clear HMR HMO HSO HBA
            obtain ⟨g, j, q, hj, rfl, rfl, HMO, HSO, HBA, HCL, HZQ, HMR⟩ := hrel
            by_cases hlt : j < ll
            · have hjl : j < l.length := by rw [HL.out]; exact hlt
              obtain ⟨ad, C, k, cc, x, rfl, hbx, hc, hx, hxl, hxr⟩ := grow_at (Gr.row_below HG.out HMR.out.2.1) j hjl
              have hmem : x ∈ l := hx ▸ List.getElem_mem hjl
              have hk : k ≤ 1000000 := by rw [← hxl]; exact HLC.out x hmem
              have hql : q.length = N := HMO.out.len.trans HN.out.symm
              have j0 : (0 : Int) ≤ (j : Int) := by omega
              have j1 : (j : Int) < (ll : Int) := by omega
              have HU := Lib.hid (refUnit_any C _ k cc n N N x q wr hxl hxr hql (mrow_row HMR.out) HMO.out (HLN.out x hmem) (by omega) hk)
              have HDER := Lib.hid (fun u (h : UnitR x q u false) (h0 : u ≠ 0) => unit_der HSO.out hmem (HLN.out x hmem) h h0)
              have HBAD := Lib.hid (fun u (h : UnitR x q u true) => unit_bad HSO.out hmem (HLN.out x hmem) h)
              have HSET := Lib.hid (fun u (hu : LitOf n u) => refSet_any w.heap.size n N N _ q u wr hql HMR.out.1 HMO.out hu (by omega))
              have HSAME : Hid (UnitR x q 0 false → g = false → q = m ∧ ∀ c ∈ l.take (j + 1), UnitR c q 0 false) := fun h e => by
                refine ⟨(HCL.out e).1, fun c hcm => ?_⟩
                rw [List.take_succ_eq_append_getElem hjl, hx] at hcm
                rcases List.mem_append.1 hcm with hcm | hcm
                · exact (HCL.out e).2 c hcm
                · rw [List.mem_singleton.1 hcm]; exact h
              clear hbx hx hxl hxr hjl hmem hk hql
              go_wp2_with (go_at_call 52; refine HU.out.mono ?_)
              rintro _ w2 ⟨u, bb, rfl, hu, rfl⟩
              have HUU := Lib.hid hu
              clear hu
              cases bb
              · cases hu0 : u == 0
                · have hu1 : (u != 0) = true := by show (!(u == 0)) = true; rw [hu0]; rfl
                  have hune : u ≠ 0 := by simpa using hu0
                  obtain ⟨d1, d2, d3⟩ := HDER.out u HUU.out hune
                  have HS := Lib.hid (HSET.out u d1)
                  have HMO2 := Lib.hid (mok_set HMO.out d1)
                  have HSO2 := Lib.hid (sound_set HMO.out HSO.out d1 d3)
                  have HBA2 := Lib.hid (base_keep HMO.out d1 HBA.out d2)
                  have HZ2 : Hid (true = true → zer (setL q u) < zer m) := fun _ => by
                    have h1 := zer_set HMO.out d1 d2
                    cases g
                    · rw [← (HCL.out rfl).1]; omega
                    · have := HZQ.out rfl; omega
                  clear hune d1 d2 d3 HDER HBAD HSET HSAME HCL HZQ HSO HBA hc
                  go_wp2_with fail
                  go_wp2_with (go_at_call 51; refine HS.out.mono ?_)
                  rintro _ w4 ⟨rfl, ho4, hg4⟩
                  have HMR4 := Lib.hid (mrow_set HMR.out ho4 hg4)
                  clear ho4 hg4 HS HMR
                  go_wp2_with fail
                  go_roundw
                  case rel => exact ⟨true, j + 1, _, by omega, rfl, by go_num, HMO2, HSO2, HBA2, (fun e => (by cases e)), (fun _ => HZ2.out trivial), HMR4⟩
                  case measure => simp [intOf]; omega
                · obtain rfl : u = 0 := by simpa using hu0
                  have HCL2 := Lib.hid (HSAME.out HUU.out)
                  clear HDER HBAD HSET HSAME HCL hc hu0
                  go_wp2_with fail
                  go_roundw
                  case rel => exact ⟨g, j + 1, q, by omega, rfl, by go_num, HMO, HSO, HBA, HCL2.out, HZQ, HMR⟩
                  case measure => simp [intOf]; omega
              · have HBB := Lib.hid (HBAD.out u HUU.out)
                clear HDER HBAD HSET HSAME HCL hc
                go_wp2_with fail
                go_ret2
                exact close_bad HBB.out HMR.out.2.1 HMR.out.2.2
            · have HCC : Hid (g = false → ∀ c ∈ l, UnitR c q 0 false) := fun e c hcm => (HCL.out e).2 c (by rw [List.take_of_length_le (by rw [HL.out]; omega)]; exact hcm)
              have HZ2 : Hid (zW b N wr = zer q) := zW_own (by have := HMR.out.1; exact this) (HMO.out.len.trans HN.out.symm)
              have HZ3 : Hid (2 * zW b N wr + (if g then 1 else 0) < 2 * zW b N z1 + 1) := by
                show _ < _
                rw [HZ2.out, HZ1.out]
                cases g
                · rw [(HCL.out rfl).1]; simp
                · have := HZQ.out rfl; simp; omega
              clear HCL HZQ HZ1 HZ2
              go_wp2_with fail
              go_roundw
              case rel => exact ⟨g, q, rfl, HMO, HSO, HBA, HCC, HMR⟩
              case measure =>
                have := HZ3.out
                cases g <;> simpa [boolN] using this
end Go.Proofs.Ytjkmdghlhodhiaa

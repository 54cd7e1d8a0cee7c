/- All that follows: walked. -/
import Derived.Test.YtjkmdghlhodhiaaOxe
namespace Go.Proofs.Ytjkmdghlhodhiaa.Up
open Go.RowKit Cl
/-- What is left of each clause, and where. -/
structure OpR (w : World) (B2 : Nat) (u : World) (l : List (List Int)) (m : List Int) (A : Option Addr) (ll cc : Nat) (ds : List Desc) (rs : List (List Int)) : Prop where
  own : Rg.Own encO 1 u B2 47 (.slice A ll cc) ds
  lend : ds.length = ll
  lenr : rs.length = ll
  lenl : l.length = ll
  at' : ∀ (i : Nat) (d : Desc) (r c : List Int), ds[i]? = some d → rs[i]? = some r → l[i]? = some c → d.2.1 = r.length ∧ d.2.1 ≤ d.2.2 ∧ IRow w d.1 r ∧ RSt c r m
theorem opr_new {w _u u' : World} {B2 : Nat} {l : List (List Int)} {m : List Int} {A : Option Addr} {cc : Nat} {ds : List Desc} (ho : Rg.Own encO 1 u' B2 47 (.slice A ds.length cc) ds) (hi : Gr.In encI 1 w ds l) (hc : Caps ds) : OpR w B2 u' l m A l.length cc ds l := by
  refine ⟨by rw [← hi.1]; exact ho, hi.1, rfl, rfl, fun i d r c h1 h2 h3 => ?_⟩
  obtain ⟨h4, h5⟩ := hi.2 i d r h1 h2
  refine ⟨h4, hc d (List.mem_of_getElem? h1), h5, ?_⟩
  rw [h2] at h3
  obtain rfl := Option.some.inj h3
  exact rst_self _ _
theorem opr_below {w u u' : World} {B2 : Nat} {l : List (List Int)} {m : List Int} {A : Option Addr} {ll cc : Nat} {ds : List Desc} {rs : List (List Int)} (h : OpR w B2 u l m A ll cc ds rs) (hb : Below u.heap.size u u') : OpR w B2 u' l m A ll cc ds rs :=
  ⟨Rg.own_below h.own hb, h.lend, h.lenr, h.lenl, h.at'⟩
/-- A literal more is there: its cell lies in another block. -/
theorem opr_more {n : Nat} {w u u' : World} {B2 b : Nat} {l : List (List Int)} {m : List Int} {A : Option Addr} {ll cc : Nat} {ds : List Desc} {rs : List (List Int)} (h : OpR w B2 u l m A ll cc ds rs) (hg : u.grownBy u' (some b)) (hb : b < B2) (hm : MOk n m) {x : Int} (hx : LitOf n x) (hv : valL m x ≠ -1) (hl : ∀ c ∈ l, ∀ y ∈ c, LitOf n y) : OpR w B2 u' l (setL m x) A ll cc ds rs := by
  refine ⟨World.ownsRow.kept h.own hg ?_, h.lend, h.lenr, h.lenl, fun i d r c h1 h2 h3 => ?_⟩
  · by_cases e : (Value.slice A ll cc).ownBlock = none
    · exact .inl e
    · refine .inr fun e2 => ?_
      have := (Rg.own_lt h.own b e2).1
      omega
  · obtain ⟨q1, q2, q3, q4⟩ := h.at' i d r c h1 h2 h3
    exact ⟨q1, q2, q3, rst_mono q4 hm hx hv (hl c (List.mem_of_getElem? h3))⟩
theorem opr_at {w u : World} {B2 : Nat} {l : List (List Int)} {m : List Int} {A : Option Addr} {ll cc : Nat} {ds : List Desc} {rs : List (List Int)} (h : OpR w B2 u l m A ll cc ds rs) (j : Nat) (hj : j < ll) : ∃ g C q c x r, A = some ⟨g, 0, none⟩ ∧ B2 ≤ g ∧ u.cell? ⟨g, j, none⟩ = some (.slice C q c) ∧ u.frozen? ⟨g, j, none⟩ = false ∧ l[j]? = some x ∧ r.length = q ∧ q ≤ c ∧ IRow w C r ∧ RSt x r m ∧
    (∀ (C' : Option Addr) (q' c' : Nat) (r' : List Int), r'.length = q' → q' ≤ c' → IRow w C' r' → RSt x r' m → OpR w B2 (u.setCell ⟨g, j, none⟩ (.slice C' q' c')) l m A ll cc (ds.set j (C', q', c')) (rs.set j r') ∧ u.grownBy (u.setCell ⟨g, j, none⟩ (.slice C' q' c')) (some g)) := by
  obtain ⟨ho, h1, h2, h3, h4⟩ := h
  obtain ⟨g, rfl, hg, _, hfr⟩ := Rg.own_form ho (by omega)
  obtain ⟨A', c', e, hrow, _, _⟩ := Rg.row_own fitsO ho
  have e2 : A' = some ⟨g, 0, none⟩ := by cases e; rfl
  obtain ⟨ad, d, had, hd, _, hc⟩ := Rg.row_at hrow j (by omega)
  obtain rfl := Option.some.inj (e2.symm.trans had)
  have hc0 := hc 0 _ rfl
  rw [if_pos rfl, Nat.mul_one, add_b] at hc0
  have e3 : ds[j]? = some d := by rw [List.getElem?_eq_getElem (by omega), hd]
  have e4 : rs[j]? = some rs[j] := List.getElem?_eq_getElem (by omega)
  have e5 : l[j]? = some l[j] := List.getElem?_eq_getElem (by omega)
  obtain ⟨q1, q2, q3, q4⟩ := h4 j d _ _ e3 e4 e5
  refine ⟨g, d.1, d.2.1, d.2.2, _, _, rfl, hg, hc0, hfr j, e5, q1.symm, q2, q3, q4, fun C' q' c2 r' k1 k2 k3 k4 => ?_⟩
  have hst := Rg.own_store fitsO ho h1 j 0 (by omega) (by decide) (C', q', c2) (.slice C' q' c2) rfl
  rw [Nat.mul_one, Nat.add_zero] at hst
  refine ⟨⟨hst.1, by rw [List.length_set]; exact h1, by rw [List.length_set]; exact h2, h3, fun i d2 r2 c3 f1 f2 f3 => ?_⟩, hst.2⟩
  by_cases hij : j = i
  · subst hij
    rw [List.getElem?_set_self (by omega)] at f1 f2
    obtain rfl := Option.some.inj f1
    obtain rfl := Option.some.inj f2
    obtain rfl := Option.some.inj (e5.symm.trans f3)
    exact ⟨k1.symm, k2, k3, k4⟩
  · rw [List.getElem?_set_ne hij] at f1 f2
    exact h4 i d2 r2 c3 f1 f2 f3
/-- The truths stay when another block is written. -/
theorem mrow_far {w u u' : World} {b N g : Nat} {m : List Int} (h : MRow w u b N m) (hg : u.grownBy u' (some g)) (hB : w.heap.size ≤ g) (hne : g ≠ b) : MRow w u' b N m :=
  ⟨World.ownsRow.kept h.1 hg (.inr fun e => hne (Option.some.inj e).symm), h.2.1.trans ((Below.refl _ _).grown hg h.2.2 fun k hk => by cases hk; exact hB), Nat.le_trans h.2.2 hg.size⟩
theorem mrow_below {w u u' : World} {b N : Nat} {m : List Int} (h : MRow w u b N m) (hb : Below u.heap.size u u') : MRow w u' b N m := ⟨Rg.own_below h.1 hb, h.2.1.trans (hb.mono h.2.2), Nat.le_trans h.2.2 hb.size⟩
theorem setL_same {n : Nat} {m : List Int} {x : Int} (hm : MOk n m) (hx : LitOf n x) (hv : valL m x = 1) : setL m x = m := by
  obtain ⟨h0, h1, h2⟩ := hx
  have hl := hm.len
  have key : ∀ (p : Nat) (v : Int), p < m.length → m.getD p 0 = v → m.set p v = m := fun p v hp h => by
    rw [List.getD_eq_getElem?_getD, List.getElem?_eq_getElem hp] at h
    have h : m[p] = v := h
    rw [← h]; exact List.set_getElem_self hp
  unfold valL at hv
  unfold setL
  rcases Int.lt_or_gt_of_ne h0 with h | h
  · rw [if_pos h] at hv ⊢
    exact key _ _ (by omega) (by omega)
  · rw [if_neg (by omega)] at hv ⊢
    exact key _ _ (by omega) hv
theorem zer_kL {n : Nat} {m : List Int} (hm : MOk n m) : zer (kL m) = zer m := by
  rw [← count_range (kL m).length (kL m) rfl, ← count_range m.length m rfl, kL_len]
  refine congrArg _ (List.filter_congr fun i _ => ?_)
  rw [kL_getD]
  rcases Nat.eq_zero_or_pos i with rfl | h
  · rw [hm.zero]; rfl
  · by_cases h0 : m.getD i 0 = 0
    · rw [h0, Int.mul_zero]
    · have h1 : (i : Int) * m.getD i 0 ≠ 0 := fun e => by
        rcases Int.mul_eq_zero.1 e with e | e
        · omega
        · exact h0 e
      rw [beq_eq_false_iff_ne.2 h0, beq_eq_false_iff_ne.2 h1]
theorem zW_k {n : Nat} {w u : World} {b N : Nat} {m : List Int} (h : MRow w u b N (kL m)) (hm : MOk n m) (hN : m.length = N) : zW b N u = zer m := (zW_own h.1 ((kL_len m).trans hN)).trans (zer_kL hm)
/-- What follow leaves. -/
def FollowRet (w : World) (n b N : Nat) (l : List (List Int)) (s : List Int) (e : Ending) (w' : World) : Prop :=
  (e = conPan ∧ Contra l s ∧ Below w.heap.size w w' ∧ w.heap.size ≤ w'.heap.size) ∨ (∃ m, e = .returned (.tuple #[]) ∧ MOk n m ∧ Sound l s m ∧ (∀ y ∈ s, valL m y = 1) ∧ (∀ c ∈ l, UnitR c m 0 false) ∧ MRow w w' b N (kL m))
end Go.Proofs.Ytjkmdghlhodhiaa.Up
namespace Go.Proofs.Ytjkmdghlhodhiaa
open Go.RowKit Cl Up
attribute [local go_sem ↓] Go.wp_at_zero Go.wp_at_succ
set_option maxRecDepth 100000 in
set_option maxHeartbeats 12800000 in
theorem pFollow_any (n b N : Nat) (A : Option Addr) (ll c : Nat) (l : List (List Int)) (s m0 : List Int) (w u0 : World) (hN : m0.length = N) (hr : MRow w u0 b N (kL m0)) (hb0 : w.heap.size ≤ b) (hm : MOk n m0) (hso : Sound l s m0) (hba : ∀ y ∈ s, valL m0 y = 1) (hl : l.length = ll) (hg : CRow w A l) (hln : ∀ c ∈ l, ∀ x ∈ c, LitOf n x) (hlc : ∀ c ∈ l, c.length ≤ 1000) (hn : n ≤ 10000) (hl2 : ll ≤ 100000) :
    Calls Try.prog 56 #[.slice (some ⟨b, 0, none⟩) N N, .slice A ll c] u0 (FollowRet w n b N l s) := by
  obtain ⟨ds0, g1, g2, g3⟩ := hg
  have hdl : ds0.length = ll := g2.1.trans hl
  have HCLONE := Lib.hid (pClone_any A ll c ds0 u0 hdl (Rg.row_below g1 hr.2.1) (by omega))
  have HIN := Lib.hid g2
  have HCAPS := Lib.hid g3
  have HDL := Lib.hid hdl
  have HN : Hid (N = n + 1) := hN.symm.trans hm.len
  have HMR := Lib.hid hr
  have HMO := Lib.hid hm
  have HSO := Lib.hid hso
  have HBA := Lib.hid hba
  have HL := Lib.hid hl
  have HLN := Lib.hid hln
  have HLC := Lib.hid hlc
  have HB0 := Lib.hid hb0
  have HBU : Hid (b < u0.heap.size) := (Rg.own_lt hr.1 b rfl).2
  obtain ⟨B2, hB2⟩ : ∃ B2, u0.heap.size = B2 := ⟨_, rfl⟩
  have HB2 := Lib.hid hB2
  clear hN hr hb0 hm hso hba hl hln hlc hdl g1 g2 g3
  go_enter Try.func56, Try.ntmps56
  go_wp2_with (go_at_call 59; refine HCLONE.out.mono ?_)
  rintro _ u1 ⟨v', rfl, ho, hb⟩
  rw [hB2] at ho
  obtain ⟨O, oc, rfl, _⟩ := Rg.row_own fitsO ho
  have HOP : Hid (∃ ds rs, OpR w B2 u1 l m0 O ll oc ds rs) := ⟨ds0, l, by rw [← HL.out]; exact opr_new (_u := u1) ho HIN.out HCAPS.out⟩
  have HMR1 := Lib.hid (mrow_below HMR.out hb)
  have HLT : Hid (b < B2) := by show b < B2; rw [← hB2]; exact HBU.out
  rw [HDL.out]
  clear ho hb HMR HCLONE HIN HCAPS hB2 HBU HDL
  go_wp2_with fail
  go_loopw [5] (fun ag wr => ∃ (g : Bool) (m : List Int), ag = .bool g ∧ Hid (MOk n m) ∧ Hid (Sound l s m) ∧ Hid (∀ y ∈ s, valL m y = 1) ∧ Hid (g = false → ∀ c ∈ l, UnitR c m 0 false) ∧ Hid (MRow w wr b N (kL m)) ∧ Hid (∃ ds rs, OpR w B2 wr l m O ll oc ds rs)) (fun ag wr => 2 * zW b N wr + boolN ag)
  case atStart => exact ⟨true, m0, rfl, HMO, HSO, HBA, (fun e => (by cases e)), HMR1, HOP⟩
  case round =>
    clear HMO HSO HBA HMR1 HOP
    obtain ⟨g, m, rfl, HMO, HSO, HBA, HCL, HMR, HOP⟩ := hrel
    obtain ⟨z1, hz1⟩ : ∃ z1, z1 = wr := ⟨_, rfl⟩
    subst hz1
    cases g
    · have HCC := Lib.hid (HCL.out rfl)
      clear HCL HOP
      go_wp2_with fail
      go_end0
      exact .inr ⟨m, rfl, HMO.out, HSO.out, HBA.out, HCC.out, HMR.out⟩
    · clear HCL
      have HZ1 : Hid (zW b N z1 = zer m) := zW_k HMR.out HMO.out (HMO.out.len.trans HN.out.symm)
      go_wp2_with fail
      go_loopw [5, 13] (fun ag i w3 => ∃ (g : Bool) (j : Nat) (q : List Int), j ≤ ll ∧ ag = .bool g ∧ i = .int .i64 j ∧ Hid (MOk n q) ∧ Hid (Sound l s q) ∧ Hid (∀ y ∈ s, valL q y = 1) ∧ Hid (g = false → q = m ∧ ∀ c ∈ l.take j, UnitR c q 0 false) ∧ Hid (g = true → zer q < zer m) ∧ Hid (MRow w w3 b N (kL q)) ∧ Hid (∃ ds rs, OpR w B2 w3 l q O ll oc ds rs)) (fun _ i _ => ll - (intOf i).toNat)
      case atStart => exact ⟨false, 0, m, Nat.zero_le _, rfl, rfl, HMO, HSO, HBA, fun _ => ⟨rfl, fun c h => absurd h (by simp)⟩, (fun e => (by cases e)), HMR, HOP⟩
      case round =>
        clear HMR HMO HSO HBA HOP
        obtain ⟨g, j, q, hj, rfl, rfl, HMO, HSO, HBA, HCL, HZQ, HMR, HOP⟩ := hrel
        by_cases hlt : j < ll
        · obtain ⟨ds, rs, hop⟩ := HOP.out
          obtain ⟨gb, C, k, cc, x, r, hO, hgB, hcell, hfz, hx, hrl, hkc, hrr, hst, _⟩ := opr_at hop j hlt
          obtain rfl := hO
          have HOPP := Lib.hid hop
          have hmem : x ∈ l := List.mem_of_getElem? hx
          have hkl : k ≤ 1000000 := by
            rw [← hrl]
            exact Nat.le_trans hst.len (Nat.le_trans (HLC.out x hmem) (by decide))
          have hql : q.length = N := HMO.out.len.trans HN.out.symm
          have j0 : (0 : Int) ≤ (j : Int) := by omega
          have j1 : (j : Int) < (ll : Int) := by omega
          have HREM := Lib.hid (pRem_any _ C n N N k cc q r w wr HMR.out.2.1 hql (mrow_row HMR.out) HMO.out hrl hkc hrr (fun y hy => HLN.out x hmem y (hst.sub y hy)) (by omega) hkl)
          have HST := Lib.hid hst
          have HMEM := Lib.hid hmem
          have HGB := Lib.hid hgB
          have HXJ := Lib.hid hx
          clear hop hrr hst hrl hkc hmem hql hkl hx hgB
          go_wp2_with fail
          refine HREM.out.mono ?_
          rintro _ w2 ⟨v2, r2, rfl, ⟨C2, q2, rfl, hq2, hr2⟩, hrem, hb2⟩
          have HRR := Lib.hid (rem_trans HST.out hrem)
          have HR2 := Lib.hid hr2
          have HOP2 := Lib.hid (opr_below HOPP.out hb2)
          have HMR2 := Lib.hid (mrow_below HMR.out hb2)
          obtain ⟨gb', _, _, _, x', _, hO', _, hcell2, hfz2, hx', _, _, _, _, hset⟩ := opr_at HOP2.out j hlt
          obtain rfl : gb = gb' := by injection hO' with e; injection e
          obtain rfl : x = x' := Option.some.inj (HXJ.out.symm.trans hx')
          obtain ⟨hop3, hg3⟩ := hset C2 _ q2 r2 rfl hq2 hr2 HRR.out.st
          have HOP3 : Hid (∃ ds rs, OpR w B2 (w2.setCell ⟨gb, j, none⟩ (.slice C2 r2.length q2)) l q (some ⟨gb, 0, none⟩) ll oc ds rs) := ⟨_, _, hop3⟩
          have HMR3 := Lib.hid (mrow_far HMR2.out hg3 (by have := HGB.out; have := HB0.out; have := HLT.out; omega) (by have := HGB.out; have := HLT.out; omega))
          have hcell3 : (w2.setCell ⟨gb, j, none⟩ (.slice C2 r2.length q2)).cell? ⟨gb, j, none⟩ = some (.slice C2 r2.length q2) := by simp [go_sem, hcell2]
          obtain ⟨L, hL⟩ : ∃ L, r2.length = L := ⟨_, rfl⟩
          rw [hL] at HOP3 HMR3 hcell3 ⊢
          have hql : q.length = N := HMO.out.len.trans HN.out.symm
          have HFO := Lib.hid (pForced_any w.heap.size n N N _ C2 L q2 q r2 (w2.setCell ⟨gb, j, none⟩ (.slice C2 L q2)) hql HMR3.out.1 HMO.out hL (irow_below HR2.out HMR3.out.2.1) (fun y hy => HLN.out x HMEM.out y (HRR.out.st.sub y hy)) (by omega))
          have HU := Lib.hid (rem_unit HMO.out (HLN.out x HMEM.out) HRR.out)
          have HSAME : Hid (UnitR x q 0 false → g = false → q = m ∧ ∀ c ∈ l.take (j + 1), UnitR c q 0 false) := fun h e => by
            refine ⟨(HCL.out e).1, fun c hcm => ?_⟩
            obtain ⟨hjl, hjx⟩ := List.getElem?_eq_some_iff.1 HXJ.out
            rw [List.take_succ_eq_append_getElem hjl, hjx] at hcm
            rcases List.mem_append.1 hcm with hcm | hcm
            · exact (HCL.out e).2 c hcm
            · rw [List.mem_singleton.1 hcm]; exact h
          have HBAD := Lib.hid (fun u (h : UnitR x q u true) => unit_bad HSO.out HMEM.out (HLN.out x HMEM.out) h)
          have HLL := Lib.hid hL
          clear hop3 hg3 hset hrem hb2 hq2 hr2 hO' hx' hL hcell hql
          go_wp2_with fail
          refine HFO.out.mono ?_
          obtain ⟨w3, hw3⟩ : ∃ w3, w2.setCell ⟨gb, j, none⟩ (.slice C2 L q2) = w3 := ⟨_, rfl⟩
          rw [hw3] at HMR3 HOP3 ⊢
          clear hcell3 hcell2 hfz2 hw3 HFO
          rintro e w4 hz
          rcases hz with ⟨hr0, rfl, rfl⟩ | ⟨y, hy, ha⟩ | ⟨h2, rfl, rfl⟩
          · have HBB : Hid (Contra l s) := by
              rcases HU.out with ⟨_, _, h⟩ | ⟨z, h, _⟩ | ⟨h, _⟩
              · exact HBAD.out _ h
              · rw [hr0] at h; cases h
              · rw [hr0] at h; simp at h
            clear hr0
            go_wp2_with fail
            exact ⟨rfl, .inl ⟨rfl, HBB.out, HMR3.out.2.1, HMR3.out.2.2⟩⟩
          · have HY : Hid (y ∈ x ∧ (∀ z ∈ x, z ≠ y → valL q z = -1) ∧ LitOf n y) := by
              rcases HU.out with ⟨_, h, _⟩ | ⟨z, h, h1⟩ | ⟨h, _⟩
              · rw [h] at hy; cases hy
              · rw [hy] at h
                injection h with h _
                rw [h]; exact h1
              · rw [hy] at h; simp at h
            clear hy HU
            rcases ha with ⟨e1, rfl, rfl⟩ | ⟨bb, e1, e2, rfl, ho4, hg4⟩ | ⟨bb, e1, e2, rfl, ho4, hg4⟩
            · have HBB : Hid (Contra l s) := HBAD.out _ (one_fails HY.out.2.1 e1)
              clear e1
              go_wp2_with fail
              exact ⟨rfl, .inl ⟨rfl, HBB.out, HMR3.out.2.1, HMR3.out.2.2⟩⟩
            · subst e2
              obtain ⟨d1, d2, d3⟩ := unit_der HSO.out HMEM.out (HLN.out x HMEM.out) (one_new HY.out.2.2.1 HY.out.1 HY.out.2.1 e1) HY.out.2.2.1
              have HMR4 := Lib.hid (mrow_set HMR3.out ho4 hg4)
              have HOP4 : Hid (∃ ds rs, OpR w B2 w4 l (setL q y) (some ⟨gb, 0, none⟩) ll oc ds rs) := by
                obtain ⟨ds, rs, h⟩ := HOP3.out
                exact ⟨ds, rs, opr_more h hg4 HLT.out HMO.out d1 (by rw [d2]; decide) HLN.out⟩
              have HMO2 := Lib.hid (mok_set HMO.out d1)
              have HSO2 := Lib.hid (sound_set HMO.out HSO.out d1 d3)
              have HBA2 := Lib.hid (base_keep HMO.out d1 HBA.out d2)
              have HZ2 : Hid (true = true → zer (setL q y) < zer m) := fun _ => by
                have h1 := zer_set HMO.out d1 d2
                cases g
                · rw [← (HCL.out rfl).1]; omega
                · have := HZQ.out rfl; omega
              clear e1 d1 d2 d3 ho4 hg4 HOP3 HMR3 HCL HZQ HSAME HBAD
              go_wp2_with fail
              go_roundw
              case rel => exact ⟨true, j + 1, _, by omega, rfl, by go_num, HMO2, HSO2, HBA2, (fun e => (by cases e)), (fun _ => HZ2.out trivial), HMR4, HOP4⟩
              case measure => simp [intOf]; omega
            · subst e2
              have hsm := setL_same HMO.out HY.out.2.2 e1
              have HMR4 := Lib.hid (mrow_set HMR3.out ho4 hg4)
              have HOP4 : Hid (∃ ds rs, OpR w B2 w4 l (setL q y) (some ⟨gb, 0, none⟩) ll oc ds rs) := by
                obtain ⟨ds, rs, h⟩ := HOP3.out
                exact ⟨ds, rs, opr_more h hg4 HLT.out HMO.out HY.out.2.2 (by rw [e1]; decide) HLN.out⟩
              rw [hsm] at HMR4 HOP4
              have HCL2 := Lib.hid (HSAME.out (one_there HY.out.1 e1))
              clear e1 hsm ho4 hg4 HOP3 HMR3 HCL HSAME HBAD
              go_wp2_with fail
              go_roundw
              case rel => exact ⟨g, j + 1, q, by omega, rfl, by go_num, HMO, HSO, HBA, HCL2.out, HZQ, HMR4, HOP4⟩
              case measure => simp [intOf]; omega
          · have HCL2 : Hid (g = false → q = m ∧ ∀ c ∈ l.take (j + 1), UnitR c q 0 false) := by
              rcases HU.out with ⟨_, h, _⟩ | ⟨z, h, h1⟩ | ⟨_, h⟩
              · rw [h] at h2; simp at h2
              · rw [h] at h2; simp at h2
              · exact HSAME.out h
            clear h2 HU HCL HSAME HBAD
            go_wp2_with fail
            go_roundw
            case rel => exact ⟨g, j + 1, q, by omega, rfl, by go_num, HMO, HSO, HBA, HCL2.out, HZQ, HMR3, HOP3⟩
            case measure => simp [intOf]; omega
        · have HCC : Hid (g = false → ∀ c ∈ l, UnitR c q 0 false) := fun e c hcm => (HCL.out e).2 c (by rw [List.take_of_length_le (by rw [HL.out]; omega)]; exact hcm)
          have HZ2 : Hid (zW b N wr = zer q) := zW_k HMR.out HMO.out (HMO.out.len.trans HN.out.symm)
          have HZ3 : Hid (2 * zW b N wr + (if g then 1 else 0) < 2 * zW b N z1 + 1) := by
            show _ < _
            rw [HZ2.out, HZ1.out]
            cases g
            · rw [(HCL.out rfl).1]; simp
            · have := HZQ.out rfl; simp; omega
          clear HCL HZQ HZ1 HZ2
          go_wp2_with fail
          go_roundw
          case rel => exact ⟨g, q, rfl, HMO, HSO, HBA, HCC, HMR, HOP⟩
          case measure =>
            have := HZ3.out
            cases g <;> simpa [boolN] using this
end Go.Proofs.Ytjkmdghlhodhiaa

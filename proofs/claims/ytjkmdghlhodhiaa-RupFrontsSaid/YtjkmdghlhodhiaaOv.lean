/- Fronts of proofs: the law walked over what the program must answer. -/
import Derived.Test.YtjkmdghlhodhiaaOw
import Derived.Test.YtjkmdghlhodhiaaOu
import Derived.Test.YtjkmdghlhodhiaaOy
namespace Go.Proofs.Ytjkmdghlhodhiaa.Up
open Go.RowKit Cl
/-- A copy of a grid, as a slice of so many. -/
def GRetN (w : World) (t : List (List Int)) (m : Nat) (e : Ending) (w' : World) : Prop := ∃ C d, e = .returned (.slice C m d) ∧ CRow w' C t ∧ Below w.heap.size w w'
theorem gret_n {w : World} {T : TypeId} {t : List (List Int)} {m : Nat} {e : Ending} {w' : World} (hm : t.length = m) (h : GRetC w T t e w') : GRetN w t m e w' := by
  obtain ⟨v, rfl, ho, hb, _⟩ := h
  obtain ⟨C, d, rfl, hr⟩ := cown_row ho
  exact ⟨C, d, by rw [hm], hr, hb⟩
theorem in_take {w : World} {ds : List Desc} {t : List (List Int)} (h : Gr.In encI 1 w ds t) (k : Nat) : Gr.In encI 1 w (ds.take k) (t.take k) := by
  refine ⟨by rw [List.length_take, List.length_take, h.1], fun i d l h1 h2 => ?_⟩
  rw [List.getElem?_take] at h1 h2
  by_cases hi : i < k
  · rw [if_pos hi] at h1 h2; exact h.2 i d l h1 h2
  · rw [if_neg hi] at h1; cases h1
theorem grow_take {w : World} {A : Option Addr} {t : List (List Int)} (h : GRow w A t) (k : Nat) : GRow w A (t.take k) := by
  obtain ⟨ds, h1, h2⟩ := h
  exact ⟨_, Rg.row_take h1 k, in_take h2 k⟩
theorem in_app {w : World} {ds es : List Desc} {t s : List (List Int)} (h1 : Gr.In encI 1 w ds t) (h2 : Gr.In encI 1 w es s) : Gr.In encI 1 w (ds ++ es) (t ++ s) := by
  refine ⟨by rw [List.length_append, List.length_append, h1.1, h2.1], fun i d l e1 e2 => ?_⟩
  have hl := h1.1
  by_cases hi : i < ds.length
  · rw [List.getElem?_append_left (by omega)] at e1 e2
    exact h1.2 i d l e1 e2
  · rw [List.getElem?_append_right (by omega)] at e1 e2
    rw [← hl] at e2
    exact h2.2 _ d l e1 e2
theorem in_one {w : World} {C : Option Addr} {k c : Nat} {x : List Int} (hk : x.length = k) (h : IRow w C x) : Gr.In encI 1 w [(C, k, c)] [x] := ⟨rfl, in_cons hk.symm h (in_nil _)⟩
/-- What a front of a taken proof with one more step says. -/
theorem front_more {N : Nat} {l p : List (List Int)} {c : List Int} {k : Nat} (h : (proofP N l p).2 = 0) (hk : k ≤ p.length) (hc : checkC N c = 0) :
    proofP N l (p.take k) = (0, 0) ∧ (Fol (l ++ p.take k) c → proofP N l (p.take k ++ [c]) = (0, 0)) ∧ (¬ Fol (l ++ p.take k) c → proofP N l (p.take k ++ [c]) = (k, 13)) := by
  obtain ⟨ha, ht, _⟩ := proof_taken h
  have hlt : (p.take k).length = k := by rw [List.length_take]; omega
  have h1 : Taken N l (p.take k ++ [c]) k := fun q hq hlk => by
    have hqp : q < p.length := by omega
    have := ht q hqp hqp
    rw [List.getElem_append_left (by omega), List.getElem_take, List.take_append_of_le_length (by omega), List.take_take, Nat.min_eq_left (by omega)]
    exact this
  have htk : (p.take k ++ [c]).take k = p.take k := by rw [List.take_append_of_le_length (by omega), List.take_take, Nat.min_self]
  have hx : (p.take k ++ [c])[k]'(by rw [List.length_append, hlt]; simp) = c := by rw [List.getElem_append_right (by omega)]; simp [hlt]
  refine ⟨proof_ok ha (taken_front ht), fun hf => ?_, fun hf => ?_⟩
  · refine proof_ok ha ?_
    have := taken_more (c := c) h1 (by rw [List.length_append, hlt]; simp) hx hc (by rw [htk]; exact hf)
    rw [List.length_append, hlt]; exact this
  · exact proof_not (c := c) ha h1 (by rw [List.length_append, hlt]; simp) hx hc (by rw [htk]; exact hf)
theorem gX_run (V : Option Addr) (k vc m : Nat) (h : m ≤ k) (h2 : k ≤ vc) (_hv : vc ≤ maxLen) : ∀ W : World, (Instr.sliceAt 22 (.slice V k vc) none (some (.int .i64 m)) none).run Try.prog W = .ok (.slice V m vc) W := by
  intro W
  have i0 : (0 : Int) ≤ (m : Int) := by omega
  have i1 : (m : Int) ≤ (k : Int) := by omega
  have i2 : (m : Int) ≤ (vc : Int) := by omega
  go_simp
end Go.Proofs.Ytjkmdghlhodhiaa.Up
namespace Go.Proofs.Ytjkmdghlhodhiaa
open Go.RowKit Cl Up
attribute [local go_sem ↓] Go.wp_at_zero Go.wp_at_succ
set_option maxRecDepth 100000 in
set_option maxHeartbeats 12800000 in
theorem rupFronts_any (HKN : KnownC16) (HCK : RupCheckC) (n : Int) (A B E : Option Addr) (ll kk ee c d f s : Nat) (l p : List (List Int)) (x : List Int) (w : World) (hl : l.length = ll) (hg : GRow w A l) (hk : p.length = kk) (hp : GRow w B p) (hd : kk ≤ d) (hd2 : d ≤ maxLen) (he : x.length = ee) (hx : IRow w E x) (hpc : ∀ c ∈ p, c.length ≤ 17592186044416) (hs : s ≤ 255) :
    Calls Try.prog 5 #[.int .i64 n, .slice A ll c, .slice B kk d, .int .u8 s, .slice E ee f] w fun e w' => e = .returned (.bool true) ∧ Below w.heap.size w w' := by
  have HK0 := Lib.hid (HKN w)
  have HS1 := Lib.hid fun (u : World) (hb : Below w.heap.size w u) => small15_any n 30 A ll c l u hl (Gr.row_below hg hb)
  have HL1 := Lib.hid fun (k : Nat) (u : World) (hk2 : k ≤ 2199023255552) (hb : Below w.heap.size w u) => lits15_any k E ee f x u he (irow_below hx hb) hk2
  obtain ⟨sb, hsb⟩ : ∃ b, smallB n 30 l = b := ⟨_, rfl⟩
  simp only [hsb] at HS1
  have HSB := Lib.hid hsb
  have HL := Lib.hid hl
  have HG := Lib.hid hg
  have HK := Lib.hid hk
  have HP := Lib.hid hp
  have HE := Lib.hid he
  have HX := Lib.hid hx
  have HD := Lib.hid hd
  have HD2 := Lib.hid hd2
  have HPC := Lib.hid hpc
  have HCKC := Lib.hid HCK
  clear hsb hl hg hk hp hpc he hx hd hd2 HKN HCK
  go_enter Try.func5, Try.ntmps5
  go_wp2_with (go_at_call 8; refine HK0.out.mono ?_)
  rintro _ u0 ⟨rfl, hb, _⟩
  have HB0 := Lib.hid hb
  have HS2 := Lib.hid (HS1.out u0 hb)
  clear hb HK0 HS1
  go_wp2_with (go_at_call 15; refine HS2.out.mono ?_)
  rintro _ u1 ⟨rfl, hb⟩
  have HB1 := Lib.hid (HB0.out.trans (hb.mono HB0.out.size))
  clear hb HS2 HB0
  cases sb
  · go_wp2_with fail
    go_ret
    exact ⟨rfl, HB1.out⟩
  obtain ⟨n0, n1, n2, hll, hok, hlits, hlens⟩ := small_of HSB.out
  obtain ⟨N, rfl⟩ : ∃ N : Nat, n = (N : Int) := ⟨n.toNat, by omega⟩
  have HLITS : Hid (∀ c ∈ l, ∀ x ∈ c, LitOf N x) := hlits
  have HLENS := Lib.hid hlens
  have hN : N ≤ 30 := by omega
  have hll2 : ll ≤ 120 := by rw [← HL.out]; exact hll
  clear n0 n1 n2 hll hok hlits hlens
  by_cases e1 : 30 < kk
  · have d1 : decide ((30 : Int) < (kk : Int)) = true := decide_eq_true (by omega)
    go_wp2_with fail
    go_ret
    exact ⟨rfl, HB1.out⟩
  have d1 : decide ((30 : Int) < (kk : Int)) = false := decide_eq_false (by omega)
  have hk30 : kk ≤ 30 := by omega
  by_cases e2 : 30 < ee
  · have d2 : decide ((30 : Int) < (ee : Int)) = true := decide_eq_true (by omega)
    go_wp2_with fail
    go_ret
    exact ⟨rfl, HB1.out⟩
  have d2 : decide ((30 : Int) < (ee : Int)) = false := decide_eq_false (by omega)
  have he30 : ee ≤ 30 := by omega
  have HL2 := Lib.hid (HL1.out N u1 (by omega) HB1.out)
  obtain ⟨lb, hlb⟩ : ∃ b, litsB N x = b := ⟨_, rfl⟩
  rw [hlb] at HL2
  have HLB := Lib.hid hlb
  clear e1 e2 hlb HL1
  go_wp2_with (go_at_call 22; refine HL2.out.mono ?_)
  rintro _ u2 ⟨rfl, rfl⟩
  cases lb
  · go_wp2_with fail
    go_ret
    exact ⟨rfl, HB1.out⟩
  have HXL : Hid (∀ z ∈ x, LitOf N z) := (lits_nat HLB.out).2
  have HCX : Hid (checkC N x = 0) := check_of (by omega) (by omega) (by rw [HE.out]; omega) HXL.out
  have HTO := Lib.hid fun (u : World) (hb : Below w.heap.size w u) => (to13c_any A ll c l u HL.out (Gr.row_below HG.out hb) (by omega) (fun x hx => by have := HLENS.out x hx; omega)).mono (fun _ _ h => gret_n HL.out h)
  have HTP := Lib.hid fun (u : World) (hb : Below w.heap.size w u) => (to13c_any B kk d p u HK.out (Gr.row_below HP.out hb) (by omega) HPC.out).mono (fun _ _ h => gret_n HK.out h)
  have HT1 := Lib.hid (HTO.out u1 HB1.out)
  clear HL2 HLB d1 d2
  go_wp2_with (go_at_call 11; refine HT1.out.mono ?_)
  rintro _ u3 ⟨C3, d3, rfl, hr3, hb3⟩
  have HG3 := Lib.hid hr3
  have HB3 := Lib.hid (HB1.out.trans (hb3.mono HB1.out.size))
  have HT2 := Lib.hid (HTP.out u3 HB3.out)
  clear hb3 hr3 HT1
  go_wp2_with (go_at_call 11; refine HT2.out.mono ?_)
  rintro _ u4 ⟨C4, d4, rfl, hr4, hb4⟩
  have HB4 := Lib.hid (HB3.out.trans (hb4.mono HB3.out.size))
  have HQ4 := Lib.hid (HCKC.out N C3 C4 ll kk d3 d4 l p u4 HL.out (crow_below HG3.out hb4) HK.out hr4 (by omega) (by omega) (fun y hy => by have := HLENS.out y hy; omega) HPC.out)
  obtain ⟨q, hq⟩ : ∃ q, proofP N l p = q := ⟨_, rfl⟩
  rw [hq] at HQ4
  have HQ := Lib.hid hq
  clear hb4 hr4 HT2 HG3 hq
  cases hq2 : q.2 == 0
  case false =>
    have hq3 : (q.2 != 0) = true := by show (!(q.2 == 0)) = true; rw [hq2]; rfl
    go_wp2_with (go_at_call 10; refine HQ4.out.mono ?_)
    rintro _ u5 ⟨rfl, hb5⟩
    have HB5 := Lib.hid (HB4.out.trans (hb5.mono HB4.out.size))
    clear hb5
    go_wp2_with fail
    go_ret
    exact ⟨rfl, HB5.out⟩
  have hq3 : (q.2 != 0) = false := by show (!(q.2 == 0)) = false; rw [hq2]; rfl
  have HTR := Lib.hid (true_all (N := N) (l := l) (p := p) (by rw [HQ.out]; simpa using hq2))
  have HPL : Hid (∀ c ∈ p, c.length ≤ 1000 ∧ ∀ x ∈ c, LitOf N x) := fun c hc => by have := check_ok (HTR.out.1 c hc); exact ⟨by have := this.2.2.1; omega, this.2.2.2⟩
  obtain ⟨k, hkm⟩ : ∃ k, s % (kk + 1) = k := ⟨_, rfl⟩
  have hkk : k ≤ kk := by rw [← hkm]; have := Nat.mod_lt s (show 0 < kk + 1 by omega); omega
  have HFM := Lib.hid (front_more (N := N) (l := l) (p := p) (c := x) (k := k) (by rw [HQ.out]; simpa using hq2) (by rw [HK.out]; exact hkk) HCX.out)
  have er : (s : Int) % ((kk : Int) + 1) = (k : Int) := by rw [← hkm]; norm_cast
  have er2 : Int.tmod (s : Int) ((kk : Int) + 1) = (k : Int) := by rw [Int.tmod_eq_emod_of_nonneg (by omega)]; exact er
  have ws : IntKind.i64.wrap (s : Int) = (s : Int) := IntWalk.i64_in _ (by omega)
  have wkk : IntKind.i64.wrap ((kk : Int) + 1) = (kk : Int) + 1 := IntWalk.i64_in _ (by omega)
  have wk : IntKind.i64.wrap (k : Int) = (k : Int) := IntWalk.i64_in _ (by omega)
  have k0 : (0 : Int) ≤ (k : Int) := by omega
  have k1 : (k : Int) ≤ (kk : Int) := by omega
  have kn : ¬ ((kk : Int) + 1 = 0) := by omega
  go_wp2_with (go_at_call 10; refine HQ4.out.mono ?_)
  rintro _ u5 ⟨rfl, hb5⟩
  have HB5 := Lib.hid (HB4.out.trans (hb5.mono HB4.out.size))
  clear hb5 HQ4 hkm
  have rx := gX_run B kk d k hkk HD.out HD2.out
  obtain ⟨pk, hpk⟩ : ∃ r, p.take k = r := ⟨_, rfl⟩
  have hpkl : pk.length = k := by rw [← hpk, List.length_take, HK.out]; omega
  have HPKL := Lib.hid hpkl
  have HPKC : Hid (∀ c ∈ pk, c.length ≤ 1000 ∧ ∀ x ∈ c, LitOf N x) := fun c hc => HPL.out c (List.mem_of_mem_take (by rw [hpk]; exact hc))
  have HGK : Hid (GRow w B pk) := by show GRow _ _ _; rw [← hpk]; exact grow_take HP.out k
  have HTK := Lib.hid fun (u : World) (hb : Below w.heap.size w u) => (to13c_any B k d pk u hpkl (Gr.row_below HGK.out hb) (by omega) (fun x hx => by have := (HPKC.out x hx).1; omega)).mono (fun _ _ h => gret_n hpkl h)
  rw [hpk] at HFM
  have HC1 := Lib.hid fun (u : World) (C D : Option Addr) (d3 d4 : Nat) (h1 : CRow u C l) (h2 : CRow u D pk) => HCKC.out N C D ll k d3 d4 l pk u HL.out h1 HPKL.out h2 (by omega) (by omega) (fun y hy => by have := HLENS.out y hy; omega) (fun y hy => by have := (HPKC.out y hy).1; omega)
  simp only [HFM.out.1] at HC1
  clear hpk hpkl
  go_wp2_with fail
  go_region_law (first
    | (have hz := HB7.out; clear hz; go_simp; go_at_call 10; refine (HC1.out _ _ _ _ _ (crow_below HRY.out (by exact Below.refl _ _)) HRZ.out).mono ?_; rintro _ u8 ⟨rfl, hb8⟩; have HB8 := Lib.hid (HB7.out.trans (hb8.mono HB7.out.size)))
    | (have hz := HB6.out; clear hz; go_simp; go_at_call 11; refine (HTK.out _ (by first | exact HB6.out | exact HB6.out.drew)).mono ?_; rintro _ u7 ⟨C7, d7, rfl, hr7, hb7⟩; have HB7 := Lib.hid (show Below w.heap.size w u7 from (by first | exact HB6.out.trans (hb7.mono HB6.out.size) | exact HB6.out.drew.trans (hb7.mono HB6.out.drew.size))); have HRZ := Lib.hid hr7; have HRY := Lib.hid (crow_below HR6.out (by first | exact hb7 | exact ((Below.refl _ _).drew).trans hb7)))
    | (go_simp; go_at_call 11; refine (HTO.out _ (by first | exact HB5.out | exact HB5.out.drew)).mono ?_; rintro _ u6 ⟨C6, d6, rfl, hr6, hb6⟩; have HB6 := Lib.hid (show Below w.heap.size w u6 from (by first | exact HB5.out.trans (hb6.mono HB5.out.size) | exact HB5.out.drew.trans (hb6.mono HB5.out.drew.size))); have HR6 := Lib.hid hr6))
  all_goals
    have HU8 : Hid (Below w.heap.size w u8 ∧ w.heap.size ≤ u8.heap.size) := ⟨HB8.out, HB8.out.size⟩
    clear HB1 HB3 HB4 HB5 HB6 HB7 HB8 hr6 hb6 hr7 hb7 hb8 HR6 HRY HRZ HTP HTK HC1
    obtain ⟨dl, hdl, hil⟩ := HG.out
    obtain ⟨dk, hdk, hik⟩ := HGK.out
    have HDLL : Hid (dl.length = ll) := hil.1.trans HL.out
    have HDKL : Hid (dk.length = k) := hik.1.trans HPKL.out
    have HRDL := Lib.hid fun (u : World) (h : Below w.heap.size w u) => Rg.row_below hdl h
    have HRDK := Lib.hid fun (u : World) (h : Below w.heap.size w u) => Rg.row_below hdk h
    have HIAL := Lib.hid (in_app hil hik)
    have HIK := Lib.hid hik
    have HZ1 : Hid (([] : List Desc).length + dl.length ≤ 1000000) := by show 0 + _ ≤ _; rw [HDLL.out]; omega
    have HZ2 : Hid (dl.length + dk.length ≤ 1000000) := by show _ ≤ _; rw [HDLL.out, HDKL.out]; omega
    have HZ3 : Hid (([] : List Desc).length + dk.length ≤ 1000000) := by show 0 + _ ≤ _; rw [HDKL.out]; omega
    have HZ4 : Hid (dk.length + ([(E, ee, f)] : List Desc).length ≤ 1000000) := by show _ + 1 ≤ _; rw [HDKL.out]; omega
    clear hdl hil hdk hik
    go_wp2_with fail
    go_region_law (first
      | (refine step_appO sliceIJ (by rfl) (.tmp 69) (.tmp 70) (by rfl) u8.heap.size _ [] dl (by rfl) _ _ _ (by rfl) HDLL.out (.inl ⟨rfl, _, rfl⟩) (HRDL.out _ (by repeat' first | with_reducible exact HU8.out.1 | apply Below.drew | refine bal ?_ (Nat.le_refl _))) HZ1.out (by simp) ?_; intro v9 W9 ho9 hb9)
      | (refine step_appO sliceIJ (by rfl) (.tmp 71) (.tmp 74) (by rfl) u8.heap.size v9 dl dk (by rfl) _ _ _ (by rfl) HDKL.out (by first | exact ho9 | exact own0_below ho9 ((Below.refl _ _).drew)) (HRDK.out _ (by repeat' first | with_reducible exact HU8.out.1 | apply Below.drew | refine bal ?_ (Nat.le_refl _) | refine Below.trans ?_ (hb9.mono HU8.out.2))) HZ2.out (by have hsz9 := hb9.size; simp at hsz9; omega) ?_; intro v10 W10 ho10 hb10))
    all_goals
      have HW10 : Hid (Below w.heap.size w W10) := by
        show Below _ _ _
        exact (Below.trans (by repeat' first | with_reducible exact HU8.out.1 | apply Below.drew | refine bal ?_ (Nat.le_refl _)) (hb9.mono HU8.out.2)).trans (hb10.mono HU8.out.2)
      have HU10 : Hid (Below w.heap.size w W10 ∧ w.heap.size ≤ W10.heap.size) := ⟨HW10.out, HW10.out.size⟩
      obtain ⟨D, dd, rfl, hr10⟩ := own0_row fitsO ho10 (n := ll + k) (by rw [List.length_append, HDLL.out, HDKL.out])
      have HGA : Hid (GRow W10 D (l ++ pk)) := ⟨_, hr10, Gr.in_below HIAL.out HW10.out⟩
      clear hr10 ho9 hb9 ho10 hb10 HW10 HU8 HRDL HDLL HZ1 HZ2 HIAL
      have HFE1 : Hid (∀ Z cur : World, Below (Z.alloc (.cells #[.slice E ee f] 23)).heap.size (Z.alloc (.cells #[.slice E ee f] 23)) cur → Rg.Row encO 1 cur (some ⟨Z.heap.size, 0, none⟩) [(E, ee, f)]) := fun Z cur h => Rg.row_below (drow_new Z _ [(E, ee, f)] _ rfl) h
      have HFE2 : Hid (∀ (Z : World) (o : Obj) (cur : World), Below ((Z.alloc o).alloc (.cells #[.slice E ee f] 23)).heap.size ((Z.alloc o).alloc (.cells #[.slice E ee f] 23)) cur → Rg.Row encO 1 cur (some ⟨Z.heap.size + 1, 0, none⟩) [(E, ee, f)]) := fun Z o cur h => by
        have h1 := Rg.row_below (drow_new (Z.alloc o) 23 [(E, ee, f)] #[.slice E ee f] rfl) h
        have e : (Z.alloc o).heap.size = Z.heap.size + 1 := by simp
        rw [e] at h1; exact h1
      obtain ⟨r, hr⟩ : ∃ r, proofP N l (pk ++ [x]) = r := ⟨_, rfl⟩
      have HRR := Lib.hid hr
      have HLQ : Hid ((pk ++ [x]).length = k + 1) := by show _ = _; rw [List.length_append, HPKL.out]; rfl
      have HCQ : Hid (∀ c ∈ pk ++ [x], c.length ≤ 1000) := fun c hc => by
        rcases List.mem_append.1 hc with hc | hc
        · exact (HPKC.out c hc).1
        · rw [List.mem_singleton.1 hc, HE.out]; omega
      have HC2 := Lib.hid fun (u : World) (C D : Option Addr) (d3 d4 : Nat) (h1 : CRow u C l) (h2 : CRow u D (pk ++ [x])) => HCKC.out N C D ll (k + 1) d3 d4 l (pk ++ [x]) u HL.out h1 HLQ.out h2 (by omega) (by omega) (fun y hy => by have := HLENS.out y hy; omega) (fun y hy => by have := HCQ.out y hy; omega)
      simp only [hr] at HC2
      have HTQ := Lib.hid fun (u : World) (C : Option Addr) (d : Nat) (h1 : GRow u C (pk ++ [x])) => (to13c_any C (k + 1) d (pk ++ [x]) u HLQ.out h1 (by omega) (fun y hy => by have := HCQ.out y hy; omega)).mono (fun _ _ h => gret_n HLQ.out h)
      clear hr
      go_wp2_with fail
      go_region_law (first
        | (have hz := hb14; clear hz; go_simp; go_at_call 10; refine (HC2.out _ _ _ _ _ (crow_below HRY.out (by repeat' first | with_reducible exact Below.refl _ _ | apply Below.drew | refine below_to ?_ hb14 (Nat.le_refl _) | with_reducible exact hby13)) HRZ.out).mono ?_; rintro _ u15 ⟨rfl, hb15⟩)
        | (have hz := hb13; clear hz; go_simp; go_at_call 11; refine (HTQ.out _ _ _ (HGQ.out _ (by repeat' first | with_reducible exact Below.refl _ _ | apply Below.drew))).mono ?_; rintro _ u14 ⟨C14, d14, rfl, hr14, hb14⟩; have HRZ := Lib.hid hr14)
        | (have hz := hb12; clear hz; refine step_appO sliceIJ (by rfl) (.tmp 84) (.tmp 86) (by rfl) _ v12 dk [(E, ee, f)] (by rfl) _ _ _ (by rfl) rfl (own0_below ho12 (by repeat' first | with_reducible exact Below.refl _ _ | with_reducible exact HU10.out.1 | apply Below.drew | refine bal ?_ (Nat.le_refl _) | refine below_to ?_ hb12 (Nat.le_refl _) | refine below_to ?_ hb11 (Nat.le_refl _))) (by first | exact HFE1.out _ _ (by repeat' first | with_reducible exact Below.refl _ _ | with_reducible exact HU10.out.1 | apply Below.drew | refine bal ?_ (Nat.le_refl _) | refine below_to ?_ hb12 (Nat.le_refl _) | refine below_to ?_ hb11 (Nat.le_refl _)) | exact HFE2.out _ _ _ (by repeat' first | with_reducible exact Below.refl _ _ | with_reducible exact HU10.out.1 | apply Below.drew | refine bal ?_ (Nat.le_refl _) | refine below_to ?_ hb12 (Nat.le_refl _) | refine below_to ?_ hb11 (Nat.le_refl _))) HZ4.out (size_to hb12 (by repeat' first | with_reducible exact Below.refl _ _ | with_reducible exact HU10.out.1 | apply Below.drew | refine bal ?_ (Nat.le_refl _) | refine below_to ?_ hb12 (Nat.le_refl _) | refine below_to ?_ hb11 (Nat.le_refl _))) ?_; intro v13 W13 ho13 hb13; have hby13 := keepQ (y := u11) (by repeat' first | with_reducible exact Below.refl _ _ | with_reducible exact HU10.out.1 | apply Below.drew | refine bal ?_ (Nat.le_refl _) | refine below_to ?_ hb12 (Nat.le_refl _) | refine below_to ?_ hb11 (Nat.le_refl _)) hb12 (by repeat' first | with_reducible exact Below.refl _ _ | with_reducible exact HU10.out.1 | apply Below.drew | refine bal ?_ (Nat.le_refl _) | refine below_to ?_ hb12 (Nat.le_refl _) | refine below_to ?_ hb11 (Nat.le_refl _)) hb13; obtain ⟨C13, d13, rfl, hr13⟩ := own0_row fitsO ho13 (n := k + 1) (by rw [List.length_append, HDKL.out]; rfl); have HW13 := Lib.hid (below_to HYW.out hby13 (Nat.le_refl _)); have HGQ := Lib.hid (fun (X : World) (h : Below W13.heap.size W13 X) => (⟨_, Rg.row_below hr13 h, Gr.in_below (in_app (Gr.in_below HIK.out HW13.out) (in_one HE.out (irow_below HX.out HW13.out))) h⟩ : GRow X C13 (pk ++ [x]))))
        | (have hz := hb11; clear hz; refine step_appO sliceIJ (by rfl) (.tmp 80) (.tmp 83) (by rfl) _ _ [] dk (by rfl) _ _ _ (by rfl) HDKL.out (.inl ⟨rfl, _, rfl⟩) (HRDK.out _ (by repeat' first | with_reducible exact Below.refl _ _ | with_reducible exact HU10.out.1 | apply Below.drew | refine bal ?_ (Nat.le_refl _) | refine below_to ?_ hb12 (Nat.le_refl _) | refine below_to ?_ hb11 (Nat.le_refl _))) HZ3.out (Nat.le_refl _) ?_; intro v12 W12 ho12 hb12)
        | (go_simp; go_at_call 11; refine (HTO.out _ (by repeat' first | with_reducible exact Below.refl _ _ | with_reducible exact HU10.out.1 | apply Below.drew | refine bal ?_ (Nat.le_refl _) | refine below_to ?_ hb12 (Nat.le_refl _) | refine below_to ?_ hb11 (Nat.le_refl _))).mono ?_; rintro _ u11 ⟨C11, d11, rfl, hr11, hb11⟩; have HRY := Lib.hid hr11; have HYW := Lib.hid (show Below w.heap.size w u11 from (by repeat' first | with_reducible exact Below.refl _ _ | with_reducible exact HU10.out.1 | apply Below.drew | refine bal ?_ (Nat.le_refl _) | refine below_to ?_ hb12 (Nat.le_refl _) | refine below_to ?_ hb11 (Nat.le_refl _)))))
      all_goals
        have HW15 : Hid (Below w.heap.size w u15) := by
          show Below _ _ _
          repeat' first | with_reducible exact HYW.out | apply Below.drew | refine bal ?_ (Nat.le_refl _) | refine below_to ?_ hb15 (Nat.le_refl _) | refine below_to ?_ hb14 (Nat.le_refl _) | refine below_to ?_ hby13 (Nat.le_refl _)
        have HA15 : Hid (Below W10.heap.size W10 u15) := by
          show Below _ _ _
          repeat' first | with_reducible exact Below.refl _ _ | apply Below.drew | refine bal ?_ (Nat.le_refl _) | refine below_to ?_ hb15 (Nat.le_refl _) | refine below_to ?_ hb14 (Nat.le_refl _) | refine below_to ?_ hby13 (Nat.le_refl _) | refine below_to ?_ hb11 (Nat.le_refl _)
        have HQF := Lib.hid (refFollows_any N D E (ll + k) ee dd f (l ++ pk) x u15 (by rw [List.length_append, HL.out, HPKL.out]) (Gr.row_below HGA.out HA15.out) HE.out (irow_below HX.out HW15.out) (by omega) (fun y hy => by
          rcases List.mem_append.1 hy with hy | hy
          · exact HLITS.out y hy
          · exact (HPKC.out y hy).2) HXL.out (by omega) (by omega) (fun y hy => by
          rcases List.mem_append.1 hy with hy | hy
          · have := HLENS.out y hy; omega
          · have := (HPKC.out y hy).1; omega))
        clear hb11 hb12 hb13 hb14 hb15 hby13 ho12 ho13 hr13 hr14 hr11 HRY HRZ HYW HW13 HGQ HFE1 HFE2 HC2 HTQ HGA HA15 HTO HRDK
        go_wp2_with (go_at_call 18; refine HQF.out.mono ?_)
        rintro _ u16 ⟨b, rfl, hf, hb16, hz16⟩
        have HW16 := Lib.hid (HW15.out.trans (hb16.mono HW15.out.size))
        cases b
        case true =>
          obtain rfl : r = (0, 0) := HRR.out.symm.trans (HFM.out.2.1 (hf.1 rfl))
          clear hf hb16 hz16
          go_wp2_with fail
          go_ret
          exact ⟨by simp, HW16.out⟩
        case false =>
          obtain rfl : r = (k, 13) := HRR.out.symm.trans (HFM.out.2.2 fun h => absurd (hf.2 h) (by decide))
          clear hf hb16 hz16
          go_wp2_with fail
          go_ret
          exact ⟨by simp, HW16.out⟩
end Go.Proofs.Ytjkmdghlhodhiaa

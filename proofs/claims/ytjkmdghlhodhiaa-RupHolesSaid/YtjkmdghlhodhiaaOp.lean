/- What the laws of proofs ask of the program; any clauses, any steps: the law walked. -/
import Derived.Test.YtjkmdghlhodhiaaOj
import Derived.Test.YtjkmdghlhodhiaaOl
namespace Go.Proofs.Ytjkmdghlhodhiaa.Up
open Go.RowKit Cl
def RupCheckC : Prop := ∀ (n : Int) (A B : Option Addr) (ll kk c d : Nat) (l p : List (List Int)) (w : World), l.length = ll → CRow w A l → p.length = kk → CRow w B p → ll ≤ 400 → kk ≤ 400 → (∀ c ∈ l, c.length ≤ 1000) → (∀ c ∈ p, c.length ≤ 17592186044416) →
  Calls Try.prog 10 #[.int .i64 n, .slice A ll c, .slice B kk d] w fun e w' => e = .returned (.tuple #[.int .i64 ((proofP n l p).1 : Int), .int .i64 (proofP n l p).2]) ∧ Below w.heap.size w w'
def RupEndsC : Prop := ∀ (n : Int) (A B E : Option Addr) (ll kk ee c d f : Nat) (l p : List (List Int)) (x : List Int) (w : World), l.length = ll → CRow w A l → p.length = kk → CRow w B p → kk ≤ d → x.length = ee → IRow w E x → ll ≤ 400 → kk ≤ 400 → ee ≤ 1000 → (∀ c ∈ l, c.length ≤ 1000) → (∀ c ∈ p, c.length ≤ 1000) →
  Calls Try.prog 13 #[.int .i64 n, .slice A ll c, .slice B kk d, .slice E ee f] w fun e w' => e = .returned (.bool (endsB n l p x)) ∧ Below w.heap.size w w'
def RupFollowsC : Prop := ∀ (n : Nat) (A B : Option Addr) (ll kk c d : Nat) (l : List (List Int)) (s : List Int) (w : World), l.length = ll → CRow w A l → ll ≤ c → s.length = kk → IRow w B s → n ≤ 256 → (∀ c ∈ l, ∀ x ∈ c, LitOf n x) → (∀ x ∈ s, LitOf n x) → ll ≤ 1000 → kk ≤ 256 → (∀ c ∈ l, c.length ≤ 256) →
  Calls Try.prog 17 #[.int .i64 n, .slice A ll c, .slice B kk d] w (FolRet w l s)
def KnownC16 : Prop := ∀ w : World, Calls Try.prog 8 #[] w fun e w' => e = .returned (.bool true) ∧ Below w.heap.size w w' ∧ w.heap.size ≤ w'.heap.size
theorem fewG_of {t : List (List Int)} (h : fewG t = true) : t.length ≤ 200 ∧ ∀ c ∈ t, c.length ≤ 300 := by
  unfold fewG at h
  rw [Bool.and_eq_true, decide_eq_true_iff, List.all_eq_true] at h
  exact ⟨h.1, fun c hc => of_decide_eq_true (h.2 c hc)⟩
theorem fol_one {l : List (List Int)} {c : List Int} {a b : Bool} (h1 : a = true ↔ Fol l c) (h2 : b = true ↔ Fol l c) : a = b := by
  rw [Bool.eq_iff_iff, h1, h2]
end Go.Proofs.Ytjkmdghlhodhiaa.Up
namespace Go.Proofs.Ytjkmdghlhodhiaa
open Go.RowKit Cl Up
attribute [local go_sem ↓] Go.wp_at_zero Go.wp_at_succ
set_option maxRecDepth 100000 in
set_option maxHeartbeats 12800000 in
theorem rupAny_any (HKN : KnownC16) (HCK : RupCheckC) (HEN : RupEndsC) (HFO : RupFollowsC) (n : Int) (A B E : Option Addr) (ll kk ee c d f : Nat) (l p : List (List Int)) (x : List Int) (w : World) (hl : l.length = ll) (hg : GRow w A l) (hk : p.length = kk) (hp : GRow w B p) (he : x.length = ee) (hx : IRow w E x) :
    Calls Try.prog 3 #[.int .i64 n, .slice A ll c, .slice B kk d, .slice E ee f] w fun e w' => e = .returned (.bool true) ∧ Below w.heap.size w w' := by
  have HK0 := Lib.hid (HKN w)
  have HF1 := Lib.hid fun (u : World) (hb : Below w.heap.size w u) => few13_any A ll c l u hl (Gr.row_below hg hb)
  have HF2 := Lib.hid fun (u : World) (hb : Below w.heap.size w u) => few13_any B kk d p u hk (Gr.row_below hp hb)
  obtain ⟨fa, hfa⟩ : ∃ b, fewG l = b := ⟨_, rfl⟩
  obtain ⟨fb, hfb⟩ : ∃ b, fewG p = b := ⟨_, rfl⟩
  simp only [hfa] at HF1
  simp only [hfb] at HF2
  have HFA := Lib.hid hfa
  have HFB := Lib.hid hfb
  have HL := Lib.hid hl
  have HG := Lib.hid hg
  have HK := Lib.hid hk
  have HP := Lib.hid hp
  have HE := Lib.hid he
  have HX := Lib.hid hx
  have HCKC := Lib.hid HCK
  have HENC := Lib.hid HEN
  have HFOC := Lib.hid HFO
  clear hfa hfb hl hg hk hp he hx HKN HCK HEN HFO
  go_enter Try.func3, Try.ntmps3
  go_wp2_with (go_at_call 8; refine HK0.out.mono ?_)
  rintro _ u0 ⟨rfl, hb, _⟩
  have HB0 := Lib.hid hb
  have HS1 := Lib.hid (HF1.out u0 hb)
  have HS2 := Lib.hid (HF2.out u0 hb)
  clear hb HK0 HF1 HF2
  cases d40 : decide ((40 : Int) < n)
  case true =>
    go_wp2_with fail
    go_ret
    exact ⟨rfl, HB0.out⟩
  have hn40 : n ≤ 40 := by have := of_decide_eq_false d40; omega
  go_wp2_with (go_at_call 9; refine HS1.out.mono ?_)
  rintro _ u1 ⟨rfl, rfl⟩
  cases fa
  case false =>
    go_wp2_with fail
    go_ret
    exact ⟨rfl, HB0.out⟩
  go_wp2_with (go_at_call 9; refine HS2.out.mono ?_)
  rintro _ u1 ⟨rfl, rfl⟩
  cases fb
  case false =>
    go_wp2_with fail
    go_ret
    exact ⟨rfl, HB0.out⟩
  obtain ⟨_, hlc⟩ := fewG_of HFA.out
  obtain ⟨_, hpc⟩ := fewG_of HFB.out
  have HLC := Lib.hid hlc
  have HPC := Lib.hid hpc
  clear hlc hpc HS1 HS2
  by_cases e1 : 300 < ee
  · have d1 : decide ((300 : Int) < (ee : Int)) = true := decide_eq_true (by omega)
    go_wp2_with fail
    go_ret
    exact ⟨rfl, HB0.out⟩
  have d1 : decide ((300 : Int) < (ee : Int)) = false := decide_eq_false (by omega)
  by_cases e2 : 60 < ll
  · have d2 : decide ((60 : Int) < (ll : Int)) = true := decide_eq_true (by omega)
    go_wp2_with fail
    go_ret
    exact ⟨rfl, HB0.out⟩
  have d2 : decide ((60 : Int) < (ll : Int)) = false := decide_eq_false (by omega)
  by_cases e3 : 40 < kk
  · have d3 : decide ((40 : Int) < (kk : Int)) = true := decide_eq_true (by omega)
    go_wp2_with fail
    go_ret
    exact ⟨rfl, HB0.out⟩
  have d3 : decide ((40 : Int) < (kk : Int)) = false := decide_eq_false (by omega)
  have hl60 : ll ≤ 60 := by omega
  have hk40 : kk ≤ 40 := by omega
  have he300 : ee ≤ 300 := by omega
  have HTO := Lib.hid fun (u : World) (hb : Below w.heap.size w u) => to13c_any A ll c l u HL.out (Gr.row_below HG.out hb) (by omega) (fun y hy => by have := HLC.out y hy; omega)
  have HTP := Lib.hid fun (u : World) (hb : Below w.heap.size w u) => to13c_any B kk d p u HK.out (Gr.row_below HP.out hb) (by omega) (fun y hy => by have := HPC.out y hy; omega)
  have HT1 := Lib.hid (HTO.out u0 HB0.out)
  clear e1 e2 e3
  go_wp2_with (go_at_call 11; refine HT1.out.mono ?_)
  rintro _ u3 ⟨v3, rfl, ho3, hb3, hz3⟩
  obtain ⟨C3, d3', rfl, hr3⟩ := cown_row ho3
  rw [HL.out]
  have HG3 := Lib.hid hr3
  have HB3 := Lib.hid (HB0.out.trans (hb3.mono HB0.out.size))
  have HT2 := Lib.hid (HTP.out u3 HB3.out)
  clear ho3 hb3 hz3 hr3 HT1 d1 d2 d3 d40
  go_wp2_with (go_at_call 11; refine HT2.out.mono ?_)
  rintro _ u4 ⟨v4, rfl, ho4, hb4, hz4⟩
  obtain ⟨C4, d4, rfl, hr4⟩ := cown_row ho4
  rw [HK.out]
  have HB4 := Lib.hid (HB3.out.trans (hb4.mono HB3.out.size))
  have HQ4 := Lib.hid (HCKC.out n C3 C4 ll kk d3' d4 l p u4 HL.out (crow_below HG3.out hb4) HK.out hr4 (by omega) (by omega) (fun y hy => by have := HLC.out y hy; omega) (fun y hy => by have := HPC.out y hy; omega))
  obtain ⟨q, hq⟩ : ∃ q, proofP n l p = q := ⟨_, rfl⟩
  rw [hq] at HQ4
  clear ho4 hb4 hz4 hr4 HT2
  go_wp2_with (go_at_call 10; refine HQ4.out.mono ?_)
  rintro _ u5 ⟨rfl, hb5⟩
  have HB5 := Lib.hid (HB4.out.trans (hb5.mono HB4.out.size))
  have HQ5 := Lib.hid (refProof_any n A B ll kk c d l p u5 HL.out (Gr.row_below HG.out HB5.out) HK.out (Gr.row_below HP.out HB5.out) (by omega) (by omega) (fun y hy => by have := HLC.out y hy; omega) (fun y hy => by have := HPC.out y hy; omega))
  rw [hq] at HQ5
  clear hb5 HQ4 hq
  go_wp2_with (go_at_call 12; refine HQ5.out.mono ?_)
  rintro _ u6 ⟨rfl, hb6⟩
  have HB6 := Lib.hid (HB5.out.trans (hb6.mono HB5.out.size))
  have HT6 := Lib.hid (HTO.out u6 HB6.out)
  clear hb6 HQ5
  have t1 : ((q.1 : Int) != (q.1 : Int)) = false := by simp
  have t2 : (q.2 != q.2) = false := by simp
  go_wp2_with (go_at_call 11; refine HT6.out.mono ?_)
  rintro _ u7 ⟨v7, rfl, ho7, hb7, hz7⟩
  obtain ⟨C7, d7, rfl, hr7⟩ := cown_row ho7
  rw [HL.out]
  have HG7 := Lib.hid hr7
  have HB7 := Lib.hid (HB6.out.trans (hb7.mono HB6.out.size))
  have HT7 := Lib.hid (HTP.out u7 HB7.out)
  clear ho7 hb7 hz7 hr7 HT6
  go_wp2_with (go_at_call 11; refine HT7.out.mono ?_)
  rintro _ u8 ⟨v8, rfl, ho8, hb8, hz8⟩
  obtain ⟨C8, d8, rfl, hr8⟩ := cown_row ho8
  rw [HK.out]
  have HB8 := Lib.hid (HB7.out.trans (hb8.mono HB7.out.size))
  have HQ8 := Lib.hid (HENC.out n C7 C8 E ll kk ee d7 d8 f l p x u8 HL.out (crow_below HG7.out hb8) HK.out hr8 (HK.out ▸ cown_cap ho8) HE.out (irow_below HX.out HB8.out) (by omega) (by omega) (by omega) (fun y hy => by have := HLC.out y hy; omega) (fun y hy => by have := HPC.out y hy; omega))
  obtain ⟨eb, heb⟩ : ∃ b, endsB n l p x = b := ⟨_, rfl⟩
  rw [heb] at HQ8
  clear ho8 hb8 hz8 hr8 HT7
  go_wp2_with (go_at_call 13; refine HQ8.out.mono ?_)
  rintro _ u9 ⟨rfl, hb9⟩
  have HB9 := Lib.hid (HB8.out.trans (hb9.mono HB8.out.size))
  have HQ9 := Lib.hid (refEnds_any n A B E ll kk ee c d f l p x u9 HL.out (Gr.row_below HG.out HB9.out) HK.out (Gr.row_below HP.out HB9.out) HE.out (irow_below HX.out HB9.out) (by omega) (by omega) (fun y hy => by have := HLC.out y hy; omega) (fun y hy => by have := HPC.out y hy; omega))
  rw [heb] at HQ9
  clear hb9 HQ8 heb
  have t3 : (eb != eb) = false := by simp
  go_wp2_with (go_at_call 14; refine HQ9.out.mono ?_)
  rintro _ u10 ⟨rfl, hb10⟩
  have HB10 := Lib.hid (HB9.out.trans (hb10.mono HB9.out.size))
  have HS3 := Lib.hid (small15_any n 40 A ll c l u10 HL.out (Gr.row_below HG.out HB10.out))
  obtain ⟨sb, hsb⟩ : ∃ b, smallB n 40 l = b := ⟨_, rfl⟩
  rw [hsb] at HS3
  have HSB := Lib.hid hsb
  clear hb10 HQ9 hsb
  go_wp2_with (go_at_call 15; refine HS3.out.mono ?_)
  rintro _ u11 ⟨rfl, hb11⟩
  have HB11 := Lib.hid (HB10.out.trans (hb11.mono HB10.out.size))
  clear hb11 HS3
  cases sb
  case false =>
    go_wp2_with fail
    go_ret
    exact ⟨rfl, HB11.out⟩
  obtain ⟨n0, n1, n2, hll, hok, hlits, hlens⟩ := small_of HSB.out
  obtain ⟨N, rfl⟩ : ∃ N : Nat, n = (N : Int) := ⟨n.toNat, by omega⟩
  have HLITS : Hid (∀ c ∈ l, ∀ x ∈ c, LitOf N x) := hlits
  have HLENS := Lib.hid hlens
  have hN : N ≤ 40 := by omega
  have HCC := Lib.hid (refCheckClause_any N E ee f x u11 HE.out (irow_below HX.out HB11.out))
  obtain ⟨y, hy⟩ : ∃ y, checkC N x = y := ⟨_, rfl⟩
  rw [hy] at HCC
  have HY := Lib.hid hy
  clear n0 n1 n2 hll hok hlits hlens hy
  cases hyz : y == 0
  case false =>
    have hy1 : (y != 0) = true := by show (!(y == 0)) = true; rw [hyz]; rfl
    go_wp2_with (go_at_call 16; refine HCC.out.mono ?_)
    rintro _ u12 ⟨rfl, hb12⟩
    have HB12 := Lib.hid (HB11.out.trans (hb12.mono HB11.out.size))
    clear hb12
    go_wp2_with fail
    go_ret
    exact ⟨rfl, HB12.out⟩
  have hy1 : (y != 0) = false := by show (!(y == 0)) = false; rw [hyz]; rfl
  have HEE : Hid (ee ≤ 256) := by show _ ≤ _; rw [← HE.out]; exact (check_ok (HY.out.trans (by simpa using hyz))).2.2.1
  have HXL : Hid (∀ z ∈ x, LitOf N z) := (check_ok (HY.out.trans (by simpa using hyz))).2.2.2
  go_wp2_with (go_at_call 16; refine HCC.out.mono ?_)
  rintro _ u12 ⟨rfl, hb12⟩
  have HB12 := Lib.hid (HB11.out.trans (hb12.mono HB11.out.size))
  have HT12 := Lib.hid (HTO.out u12 HB12.out)
  clear hb12 HCC
  go_wp2_with (go_at_call 11; refine HT12.out.mono ?_)
  rintro _ u13 ⟨v13, rfl, ho13, hb13, hz13⟩
  obtain ⟨C13, d13, rfl, hr13⟩ := cown_row ho13
  rw [HL.out]
  have HB13 := Lib.hid (HB12.out.trans (hb13.mono HB12.out.size))
  have HQ13 := Lib.hid (HFOC.out N C13 E ll ee d13 f l x u13 HL.out hr13 (HL.out ▸ cown_cap ho13) HE.out (irow_below HX.out HB13.out) (by omega) HLITS.out HXL.out (by omega) HEE.out HLENS.out)
  clear ho13 hb13 hz13 hr13 HT12
  go_wp2_with (go_at_call 17; refine HQ13.out.mono ?_)
  rintro _ u14 ⟨b1, rfl, hf1, hb14, hz14⟩
  have HB14 := Lib.hid (HB13.out.trans (hb14.mono HB13.out.size))
  have HF14 := Lib.hid hf1
  have HQ14 := Lib.hid (refFollows_any N A E ll ee c f l x u14 HL.out (Gr.row_below HG.out HB14.out) HE.out (irow_below HX.out HB14.out) (by omega) HLITS.out HXL.out (by omega) (by omega) (fun y hy => by have := HLENS.out y hy; omega))
  clear hf1 hb14 hz14 HQ13
  go_wp2_with (go_at_call 18; refine HQ14.out.mono ?_)
  rintro _ u15 ⟨b2, rfl, hf2, hb15, hz15⟩
  obtain rfl : b1 = b2 := fol_one HF14.out hf2
  have HB15 := Lib.hid (HB14.out.trans (hb15.mono HB14.out.size))
  clear hf2 hb15 hz15 HQ14
  go_wp2_with fail
  go_ret
  exact ⟨by simp, HB15.out⟩
end Go.Proofs.Ytjkmdghlhodhiaa

/- rup: the negations of a clause's literals; whether all is against itself, piece by piece; Follows: walked. -/
import Derived.Test.YtjkmdghlhodhiaaOyb
import Derived.Test.YtjkmdghlhodhiaaOf
import Derived.Test.YtjkmdghlhodhiaaEw
namespace Go.Proofs.Ytjkmdghlhodhiaa.Up
open Go.RowKit Cl
theorem lits_len {n : Nat} {a : List Int} (hu : Up a) (h : ∀ x ∈ a, LitOf n x) : a.length ≤ n := by
  have := up_len (n := n) a 0 (Nat.zero_le _) hu fun x hx => by obtain ⟨h1, h2, h3⟩ := h x hx; omega
  omega
/-- Between two passes over the pieces. -/
def Pass (n : Nat) (l : List (List Int)) (s out : List Int) (bf : Int) : Bool → Prop
  | true => Contra l s
  | false => (Up out ∧ (∀ x ∈ out, LitOf n x) ∧ ¬ Contra [] out) ∧ (∀ x ∈ s, x ∈ out) ∧ (∀ x ∈ out, Der l s x) ∧ (bf = -1 ∨ ¬ Contra l s)
theorem pass_first {n : Nat} {l : List (List Int)} {s out : List Int} {bad : Bool} (h : IsClose [] s out bad) (hs : ∀ x ∈ s, LitOf n x) : Pass n l s out (-1) bad := by
  rcases h with ⟨rfl, _, h⟩ | ⟨rfl, h1, h2, h3⟩
  · exact contra_mono (fun _ h => absurd h (by simp)) (fun x hx => .lit hx) h
  · refine ⟨⟨h2, fun x hx => der_lit (fun _ h => absurd h (by simp)) hs ((h3 x).1 hx), fun h => h1 (contra_mono (fun _ h => h) (fun x hx => (h3 x).1 hx) h)⟩, fun x hx => (h3 x).2 (.lit hx), fun x hx => der_mono (fun _ h => absurd h (by simp)) (fun y hy => .lit hy) ((h3 x).1 hx), .inl rfl⟩
theorem pass_next {n : Nat} {l : List (List Int)} {s out out' : List Int} {bf b2 : Int} {bad : Bool} (hl : ∀ c ∈ l, ∀ x ∈ c, LitOf n x) (hp : Pass n l s out bf false) (h : IsClose l out out' bad) : Pass n l s out' b2 bad := by
  obtain ⟨⟨hu, hln, hn⟩, hs, hd, _⟩ := hp
  rcases h with ⟨rfl, _, h⟩ | ⟨rfl, h1, h2, h3⟩
  · exact contra_mono (fun _ h => h) hd h
  · exact ⟨⟨h2, fun x hx => der_lit hl hln ((h3 x).1 hx), fun h => h1 (contra_mono (fun _ h => absurd h (by simp)) (fun x hx => (h3 x).1 hx) h)⟩, fun x hx => (h3 x).2 (.lit (hs x hx)),
      fun x hx => der_mono (fun _ h => h) hd ((h3 x).1 hx), .inr fun h => h1 (contra_mono (fun _ h => h) (fun x hx => .lit (hs x hx)) h)⟩
def conM : Value → Value → Nat
  | .bool true, _ => 0
  | _, i => (300 - intOf i).toNat
def ConRet (w : World) (l : List (List Int)) (s : List Int) (e : Ending) (w' : World) : Prop := ∃ b : Bool, e = .returned (.bool b) ∧ (b = true ↔ Contra l s) ∧ Below w.heap.size w w' ∧ w.heap.size ≤ w'.heap.size
end Go.Proofs.Ytjkmdghlhodhiaa.Up
namespace Go.Proofs.Ytjkmdghlhodhiaa
open Go.RowKit Cl Up
attribute [local go_sem ↓] Go.wp_at_zero Go.wp_at_succ
set_option maxRecDepth 100000 in
set_option maxHeartbeats 1600000 in
theorem negs_any (A : Option Addr) (k d : Nat) (l : List Int) (w : World) (hk : l.length = k) (hl : IRow w A l) (hk2 : k ≤ 500000) (hb : ∀ x ∈ l, x.natAbs ≤ 2199023255552) :
    Calls Try.prog 34 #[.slice A k d] w (IRet w (neg l)) := by
  have HK := Lib.hid hk
  have HL := Lib.hid hl
  have HBD := Lib.hid hb
  clear hk hl hb
  go_enter Try.func34, Try.ntmps34
  go_wp2_with fail
  go_loopw [3, 8] (fun v i wr => ∃ (j : Nat) (S : List Int), j ≤ k ∧ i = .int .i64 j ∧ Hid (S = neg (l.take j)) ∧ Hid (Rg.Own encI 1 wr w.heap.size 3 v S) ∧ Hid (Below w.heap.size w wr ∧ w.heap.size ≤ wr.heap.size)) (fun _ i _ => k - (intOf i).toNat)
  case atStart => exact ⟨0, [], Nat.zero_le _, rfl, rfl, Rg.own_nil _ _ _, Below.refl _ _, Nat.le_refl _⟩
  case round =>
    obtain ⟨j, S, hj, rfl, HS, HO, HB⟩ := hrel
    by_cases hlt : j < k
    · have hjl : j < l.length := by rw [HK.out]; exact hlt
      obtain ⟨ad, x, rfl, hx, hxb, hc⟩ := irow_at (irow_below HL.out HB.out.1) j hjl
      have hbx := HBD.out x (hx ▸ List.getElem_mem hjl)
      have j0 : (0 : Int) ≤ (j : Int) := by omega
      have j1 : (j : Int) < (k : Int) := by omega
      have w1 : IntKind.i64.wrap (0 - x) = -x := (IntWalk.i64_in _ (by omega)).trans (by omega)
      have w2 : IntKind.i64.wrap (-x) = -x := IntWalk.i64_in _ (by omega)
      have HS2 : Hid (S ++ [-x] = neg (l.take (j + 1))) := by
        show _ = _
        rw [List.take_succ_eq_append_getElem hjl, hx, HS.out]; unfold neg; rw [List.map_append]; rfl
      have HSL : Hid (S.length + 1 ≤ 1000000) := by show _ ≤ _; rw [HS.out]; unfold neg; rw [List.length_map, List.length_take]; omega
      clear hx hxb hbx hjl
      go_wp2_with (at_builtin; refine Rg.wpList_app sliceI rfl (.tmp 12) (.tmp 15) rfl w.heap.size _ S [-x] rfl (Rg.own_below HO.out ((Below.refl _ _).alloc (Nat.le_refl _) _)) _ _ rfl (Rg.news_new wr _ _ _ (by rfl)) (Nat.zero_lt_succ _) HSL.out ?b1 ?_)
      case b1 => have := HB.out.2; simp; omega
      intro v5 W5 ho5 hg5 hz5
      have HB5 := app_doneI HB HO hg5
      have HO5 := Lib.hid ho5
      clear ho5 hg5 hz5 HO HB HSL hc
      go_wp2_with fail
      go_roundw
      case rel => exact ⟨j + 1, S ++ [-x], by omega, by go_num, HS2.out, HO5.out, HB5.out⟩
      case measure => simp [intOf]; omega
    · have HE : Hid (S = neg l) := by
        show _ = _
        rw [HS.out, List.take_of_length_le (by rw [HK.out]; omega)]
      go_wp2_with fail
      go_ret
      exact ⟨_, rfl, by rw [← HE.out]; exact HO.out, HB.out.1, HB.out.2⟩
set_option maxRecDepth 100000 in
set_option maxHeartbeats 3200000 in
theorem contradicts_any (n : Nat) (A B : Option Addr) (ll kk c d : Nat) (l : List (List Int)) (s : List Int) (w : World) (hl : l.length = ll) (hg : CRow w A l) (hcap : ll ≤ c) (hk : s.length = kk) (hs : IRow w B s) (hn : n ≤ 256) (hln : ∀ c ∈ l, ∀ x ∈ c, LitOf n x) (hsn : ∀ x ∈ s, LitOf n x) (hl1 : ll ≤ 1000) (hk1 : kk ≤ 1000) (hlc : ∀ c ∈ l, c.length ≤ 256) :
    Calls Try.prog 33 #[.int .i64 n, .slice A ll c, .slice B kk d] w (ConRet w l s) := by
  have HC := Lib.hid (pClose_any n none B 0 kk 0 d [] s w rfl (crow_nil _ _) hk hs hn (fun _ h => absurd h (by simp)) hsn (by decide) hk1 (fun _ h => absurd h (by simp)))
  have HP := Lib.hid fun (u : World) (C : Option Addr) (q : Nat) (out : List Int) (bf : Int) (hu : Below w.heap.size w u) (hr : IRow u C out) (hp : Pass n l s out bf false) =>
    pieces_any n A C ll out.length c q l out u hl (crow_below hg hu) hcap rfl hr hn hln hp.1.2.1 hl1 (by have := lits_len hp.1.1 hp.1.2.1; omega) hlc hp.1.1 hp.1.2.2
  have HLN := Lib.hid hln
  have HSN := Lib.hid hsn
  clear hl hg hcap hk hs hln hsn hl1 hk1 hlc
  go_enter Try.func33, Try.ntmps33
  go_wp2_with (go_at_call 48; refine HC.out.mono ?_)
  rintro _ u ⟨v, out, bad, rfl, hcl, ho, hb, hz⟩
  obtain ⟨C, q, rfl, hrow, _, _⟩ := Rg.row_own fitsI ho
  have HPS : Hid (Pass n l s out (-1) bad) := pass_first hcl HSN.out
  have HRW := Lib.hid hrow
  have HB : Hid (Below w.heap.size w u ∧ w.heap.size ≤ u.heap.size) := ⟨hb, hz⟩
  clear hcl ho hrow hb hz HC
  go_wp2_with fail
  go_loopw [7, 8, 9] (fun v x i wr => ∃ (C : Option Addr) (q : Nat) (out : List Int) (bad : Bool) (bf : Int), v = .slice C out.length q ∧ x = .bool bad ∧ i = .int .i64 bf ∧ -1 ≤ bf ∧ Hid (Pass n l s out bf bad) ∧ Hid (IRow wr C out) ∧ Hid (Below w.heap.size w wr ∧ w.heap.size ≤ wr.heap.size))
    (fun _ x i _ => conM x i)
  case atStart => exact ⟨C, q, out, bad, -1, rfl, rfl, rfl, by decide, HPS.out, HRW.out, HB.out⟩
  case round =>
    clear HPS HRW HB
    obtain ⟨C, q, out, bad, bf, rfl, rfl, rfl, hbf, HPS, HRW, HB⟩ := hrel
    cases bad
    case true =>
      go_wp2_with fail
      go_ret
      exact ⟨true, rfl, ⟨fun _ => HPS.out, fun _ => rfl⟩, HB.out.1, HB.out.2⟩
    case false =>
      have hlen : out.length ≤ n := lits_len HPS.out.1.1 HPS.out.1.2.1
      have HLE := Lib.hid hlen
      have HQ := Lib.hid (HP.out _ C q out bf HB.out.1 HRW.out HPS.out)
      obtain ⟨m, hm⟩ : ∃ m, out.length = m := ⟨_, rfl⟩
      rw [hm] at HQ HLE ⊢
      cases hd : decide (bf < (m : Int))
      · have HNO : Hid (¬ Contra l s) := by
          rcases HPS.out.2.2.2 with h | h
          · have := of_decide_eq_false hd; omega
          · exact h
        clear hlen hm
        go_wp2_with fail
        go_ret
        exact ⟨false, rfl, ⟨fun h => absurd h (by decide), fun h => absurd h HNO.out⟩, HB.out.1, HB.out.2⟩
      · have hdm : bf < (m : Int) := of_decide_eq_true hd
        have HD := Lib.hid hdm
        clear hlen hm hdm
        go_wp2_with (go_at_call 49; refine HQ.out.mono ?_)
        rintro _ u2 ⟨C2, q2, out2, bad2, rfl, hr2, hcl2, hb2, hz2⟩
        have HP2 : Hid (Pass n l s out2 (m : Int) bad2) := pass_next HLN.out HPS.out hcl2
        have HR2 := Lib.hid hr2
        have HB2 : Hid (Below w.heap.size w u2 ∧ w.heap.size ≤ u2.heap.size) := ⟨HB.out.1.trans (hb2.mono HB.out.2), Nat.le_trans HB.out.2 hz2⟩
        clear hr2 hcl2 hb2 hz2 HQ HPS HRW HB
        go_wp2_with fail
        go_roundw
        case rel => exact ⟨C2, q2, out2, bad2, m, rfl, rfl, rfl, by omega, HP2.out, HR2.out, HB2.out⟩
        case measure =>
          have h1 := HD.out
          have h2 := HLE.out
          cases bad2
          · show (300 - (m : Int)).toNat < (300 - bf).toNat; omega
          · show 0 < (300 - bf).toNat; omega
set_option maxRecDepth 100000 in
set_option maxHeartbeats 1600000 in
theorem rupFollows_any (n : Nat) (A B : Option Addr) (ll kk c d : Nat) (l : List (List Int)) (s : List Int) (w : World) (hl : l.length = ll) (hg : CRow w A l) (hcap : ll ≤ c) (hk : s.length = kk) (hs : IRow w B s) (hn : n ≤ 256) (hln : ∀ c ∈ l, ∀ x ∈ c, LitOf n x) (hsn : ∀ x ∈ s, LitOf n x) (hl1 : ll ≤ 1000) (hk1 : kk ≤ 256) (hlc : ∀ c ∈ l, c.length ≤ 256) :
    Calls Try.prog 17 #[.int .i64 n, .slice A ll c, .slice B kk d] w (FolRet w l s) := by
  have HCH := Lib.hid (pCheck_any n B kk d s w hk hs)
  have h0 : checkC n s = 0 := by
    unfold checkC
    have h1 : nBad (n : Int) = false := by unfold nBad; rw [decide_eq_false (by omega), decide_eq_false (by omega)]; rfl
    rw [h1, if_neg (by decide), if_neg (by omega), if_neg]
    rw [List.any_eq_true]
    rintro ⟨x, hx, hb⟩
    obtain ⟨h2, h3, h4⟩ := hsn x hx
    simp [litBad] at hb
    omega
  rw [h0] at HCH
  have HN := Lib.hid fun (u : World) (hb : Below w.heap.size w u) => negs_any B kk d s u hk (irow_below hs hb) (by omega) (fun x hx => by have := (hsn x hx).2; omega)
  have HX := Lib.hid fun (u : World) (C : Option Addr) (q : Nat) (hu : Below w.heap.size w u) (hr : IRow u C (neg s)) => contradicts_any n A C ll kk c q l (neg s) u hl (crow_below hg hu) hcap ((neg_len s).trans hk) hr hn hln (fun x hx => by
    obtain ⟨y, hy, rfl⟩ := List.mem_map.1 hx
    exact lit_neg (hsn y hy)) hl1 (by omega) hlc
  have HK := Lib.hid hk
  clear hl hg hcap hk hs hln hsn hl1 hk1 hlc h0
  go_enter Try.func17, Try.ntmps17
  go_wp2_with (go_at_call 32; refine HCH.out.mono ?_)
  rintro _ u ⟨rfl, hb⟩
  have HB := Lib.hid hb
  have HN1 := Lib.hid (HN.out u hb)
  clear hb HN HCH
  go_wp2_with (go_at_call 34; refine HN1.out.mono ?_)
  rintro _ w1 ⟨v, rfl, ho, hb1, hz1⟩
  obtain ⟨C, q, rfl, hrow, _, _⟩ := Rg.row_own fitsI ho
  rw [neg_len, HK.out]
  have HB1 := Lib.hid (And.intro (HB.out.trans (hb1.mono HB.out.size)) (Nat.le_trans HB.out.size hz1))
  have HQ := Lib.hid (HX.out w1 C q HB1.out.1 hrow)
  clear ho hb1 hz1 hrow HX HN1 HB
  go_wp2_with (go_at_call 33; refine HQ.out.mono ?_)
  rintro _ w2 ⟨b, rfl, hbc, hb2, hz2⟩
  have HBC := Lib.hid hbc
  have HB2 : Hid (Below w.heap.size w w2 ∧ w.heap.size ≤ w2.heap.size) := ⟨HB1.out.1.trans (hb2.mono HB1.out.2), Nat.le_trans HB1.out.2 hz2⟩
  clear hbc hb2 hz2 HQ HB1
  go_wp2_with fail
  go_ret
  exact ⟨b, rfl, HBC.out, HB2.out.1, HB2.out.2⟩
end Go.Proofs.Ytjkmdghlhodhiaa

/- The reference's Norm at any length. -/
import Derived.Test.YtbehmagjkdljfaaGreatDoorTg
namespace Go.Proofs.YtbehmagjkdljfaaGreatDoor
open Go.RowKit Rs
attribute [local go_sem ↓] Go.wp_at_zero Go.wp_at_succ
set_option maxRecDepth 100000 in
set_option maxHeartbeats 1600000 in
theorem refNormL_any (A : Option Addr) (n c : Nat) (l : List Sp) (w : World) (hn : l.length = n) (hr : SRow w A l) (hl : n ≤ maxLen) :
    Calls Tryz.prog 23 #[.slice A n c] w (OfRet w (if normE 0 l = 0 then (Rm.joinK Ln (l.map Sp.piece)).map spOf else []) (normE 0 l)) := by
  unfold maxLen at hl
  have HR := Lib.hid hr
  have HN := Lib.hid hn
  obtain ⟨E, hE⟩ : ∃ E, normE 0 l = E := ⟨_, rfl⟩
  rw [hE]
  have HE := Lib.hid hE
  obtain ⟨R, hR⟩ : ∃ R, (if E = 0 then (Rm.joinK Ln (l.map Sp.piece)).map spOf else []) = R := ⟨_, rfl⟩
  rw [hR]
  have HRR := Lib.hid hR
  have HR0 : Hid (E ≠ 0 → R = []) := fun h => by rw [← HRR.out, if_neg h]
  clear hn hr hE hR
  go_enter Tryz.func23, Tryz.ntmps23
  go_wp2_with fail
  go_loopw [4] (fun i wr => ∃ k : Nat, k ≤ n ∧ i = .int .i64 k ∧ Hid (NSt l k) ∧ Hid (Below w.heap.size w wr)) (fun i _ => n - (intOf i).toNat)
  case atStart => exact ⟨0, Nat.zero_le _, rfl, nst_start l, Below.refl _ _⟩
  case round =>
    obtain ⟨k, hk, rfl, HS, HB⟩ := hrel
    by_cases hlt : k < n
    · have hlr : k < l.length := by rw [HN.out]; exact hlt
      obtain ⟨ad, lo, hi, li, hh, rfl, hs, _, c0, c1, c2, c3⟩ := srow_at (srow_below HR.out HB.out) k hlr
      obtain ⟨st1, st2, st3⟩ := nst_step HS.out hlr
      rw [hs] at st2 st3
      have ST1 := Lib.hid st1
      have ST2 := Lib.hid st2
      have ST3 := Lib.hid st3
      clear hs st1 st2 st3
      by_cases h64 : 64 ≤ k
      · have hEk : Hid (E = 4) := by show _ = _; rw [← HE.out]; exact ST1.out h64
        have hRk : Hid (R = []) := HR0.out (by rw [hEk.out]; decide)
        have hd : decide ((64 : Int) ≤ (k : Int)) = true := decide_eq_true (by omega)
        clear h64
        go_wp2_with fail
        rw [hEk.out, hRk.out]
        exact bodyPost_ret (v := .tuple #[.slice none 0 0, .int .i64 4]) (by simp [results, Tryz.results23, go_sem]) rfl ⟨⟨none, 0, rfl, fun h => absurd h (by simp), Nat.le_refl _⟩, HB.out⟩
      have hd : decide ((64 : Int) ≤ (k : Int)) = false := decide_eq_false (by omega)
      obtain ⟨e, he⟩ : ∃ e, span lo hi li hh = e := ⟨_, rfl⟩
      have HSP := Lib.hid he
      clear he
      go_wp2_with fail
      refine (spanAt_any lo hi li hh e _ HSP.out).mono ?_
      rintro _ w1 ⟨rfl, hb⟩
      have HB1 := Lib.hid (HB.out.trans (hb.mono HB.out.size))
      clear hb c0 c1 c2 c3 hd
      by_cases hsp : e = 0
      · subst hsp
        have NS := Lib.hid (ST3.out h64 HSP.out)
        clear h64 ST1 ST2 ST3
        go_wp2_with fail
        go_roundw
        case rel => exact ⟨k + 1, by omega, by go_num, NS, HB1⟩
        case measure => simp [intOf]; omega
      · have hEk : Hid (E = e) := by show _ = _; rw [← HE.out, ← HSP.out]; exact ST2.out h64 (by show span _ _ _ _ ≠ 0; rw [HSP.out]; exact hsp)
        have hRk : Hid (R = []) := HR0.out (by rw [hEk.out]; exact hsp)
        have hne : (e != 0) = true := by simpa using hsp
        clear h64 hsp
        go_wp2_with fail
        rw [hEk.out, hRk.out]
        exact bodyPost_ret (v := .tuple #[.slice none 0 0, .int .i64 e]) (by simp [results, Tryz.results23, go_sem]) rfl ⟨⟨none, 0, rfl, fun h => absurd h (by simp), Nat.le_refl _⟩, HB1.out⟩
    · have hE0 : E = 0 := by
        rw [← HE.out, HS.out.1, List.drop_eq_nil_of_le (by rw [HN.out]; omega)]; rfl
      have hall : ∀ s ∈ l, s.err = 0 := fun s hs => HS.out.2.1 s (by rw [List.take_of_length_le (by rw [HN.out]; omega)]; exact hs)
      have hl64 : l.length ≤ 64 := (normE_ok l 0 (by omega) (by rw [HE.out]; exact hE0)).2 |> fun h => by omega
      have hmap : (l.map Sp.piece).map spOf = l := by
        rw [List.map_map]; conv => rhs; rw [← List.map_id l]
        exact List.map_congr_left fun s hs => (piece_spOf (hall s hs)).1
      have hok : Hid (∀ p ∈ l.map Sp.piece, Ok2 p) := fun p hp => by
        obtain ⟨s, hs, rfl⟩ := List.mem_map.1 hp
        exact (piece_spOf (hall s hs)).2.1
      have hgood := good_join hall hl64
      have hRJ : Hid (((Rm.joinK Ln (l.map Sp.piece)).take 64).map spOf = R) := by
        show _ = _
        rw [← HRR.out, if_pos hE0, take_few hgood.2.2]
      have HROW : Hid (SRow wr A ((l.map Sp.piece).map spOf)) := by show SRow _ _ _; rw [hmap]; exact srow_below HR.out HB.out
      have HLN : Hid ((l.map Sp.piece).length = n) := by show _ = _; rw [List.length_map]; exact HN.out
      have HE0 := Lib.hid hE0
      have hn64 : n ≤ 64 := by rw [← HN.out]; exact hl64
      clear hall hl64 hmap hgood hE0 HR0
      go_wp2_with fail
      refine (joinedR_any A n c (l.map Sp.piece) R _ HLN.out HROW.out hok.out (by omega) hRJ.out).mono ?_
      rintro _ w1 ⟨⟨C, d, rfl, hc, hle, _⟩, hb⟩
      have HC := Lib.hid hc
      have HLE := Lib.hid hle
      have HB1 := Lib.hid (HB.out.trans (hb.mono HB.out.size))
      clear hc hle hb
      go_wp2_with fail
      rw [HE0.out]
      exact bodyPost_ret (v := .tuple #[.slice C R.length d, .int .i64 0]) (by simp [results, Tryz.results23, go_sem]) rfl ⟨⟨C, d, rfl, HC.out, HLE.out⟩, HB1.out⟩
theorem s_refNormL {w0 u : World} {L : List Ent} {A : Option Addr} {n : Nat} (h : St w0 u L) (i : Nat) {l : List Sp} (hi : L[i]? = some ⟨A, n, l⟩) (hn : n ≤ maxLen) (c : Nat) (R : List (Rm.P Cut)) (k : Int) (hR : nrmR l = R) (hk : normE 0 l = k) : Calls Tryz.prog 23 #[.slice A n c] u (RowErr w0 L (R.map spOf) k) := by
  subst hR hk
  rw [nrmR_map]
  exact (refNormL_any A n c l u (st_row h i hi).2 (st_row h i hi).1 hn).mono fun _ _ => ret_err h
end Go.Proofs.YtbehmagjkdljfaaGreatDoor

/- Of any repo its names, which are called so, which meet an atom, which is of a name and a version: for every input the law RepoFinds returns true and leaves its arguments as they were. The listed variables of Go's library read as its own text lays them, and nothing else is asked. -/
import Derived.Test.YtgnaiidgjmicaaaGreatDoorCards
import Derived.Test.YtgnaiidgjmicaaaGreatDoorTie
import Derived.Test.YtgnaiidgjmicaaaGreatDoorM34
import Derived.Lay
import Derived.SevenTiedAt
import Derived.HandedShaped
namespace Go.Proofs.YtgnaiidgjmicaaaGreatDoor.repoFinds
open Go.ChangeShapes Go.WideShapes Go.ChangeAt Go.RowKit
open Go.ChangeMaps (open_string shut_string)
theorem own : ownKnob Tryz.prog.godebug = none := by kernel_rfl
theorem down {H : Type} {enc : TypeId × Value -> H} {a : Assume} {C : Checked} {os : Os} {f : FuncId} {fn : Func} {s : ChangeSpec} {conds : List PathCond} {b1 b2 b3 b4 : Bool} {X : World -> Prop} (hX : ∀ w w' : World, w.heap = w'.heap -> X w -> X w')
  (own : ownKnob C.prog.godebug = none) (started : os.Started) (noInit : C.prog.inits.idxOf? f = none) (hfn : C.prog.funcs[f]? = some fn)
  (start : ∃ (w : World) (tape : Tape) (i : Input), w.os = os /\ (w.forCall tape i).Shaped C.prog /\ i.vars = [] /\ Input.okWide C.prog (w.forCall tape i) .any w.heap.size f i /\
   ((s.pre enc C.prog fn conds b1 (w.forCall tape i).memory i.args /\ X (w.forCall tape i).memory) /\ sizedMet enc C.prog fn (OpenSpec.ofChange s) b1 (w.forCall tape i).memory i.args) /\ a.holds C.prog (lone (Frame.enter C.prog f i.args .normal) [] (w.forCall tape i)))
  (go : ∀ (W : World) (base : Nat) (args : Array Value) (ds gs : List (DataW H)) (before : List MemPlace), (∀ (j : Nat) t v, fn.params[j]? = some t -> args[j]? = some v -> Value.okWide C.prog W .any base t v) ->
   DataW.Whole enc C.prog fn.params.toList s.vars b1 W args.toList ds gs before -> X W -> W.ShapedOpen C.prog ->
   (DataW.weightsEach C.prog (fn.params.toList ++ s.plain.varTypes C.prog) (ds ++ gs)).all (. <= reachBytes) = true ->
   Calls C.prog f args W fun e W' => ∃ v, e = .returned v /\ s.post enc C.prog fn b1 b2 b3 b4 W args v W') :
  ReturnsInHanded a C os f .any (fun w args => (s.pre enc C.prog fn conds b1 w args /\ X w) /\ sizedMet enc C.prog fn (OpenSpec.ofChange s) b1 w args) (s.post enc C.prog fn b1 b2 b3 b4) :=
 returnsInHanded_of_calls own started noInit start fun w tape i _ hsh _ hok hpre _ => by
  obtain ⟨_, _, _, g, hg, _, _, _, _, hval⟩ := hok
  cases Option.some.inj (hg.symm.trans hfn)
  obtain ⟨⟨⟨ds, gs, before, hw, _⟩, hx⟩, hz⟩ := hpre
  refine (go (w.forCall tape i) w.heap.size i.args ds gs before hval (DataW.Whole.of_heap (by rfl) hw) (hX _ _ (by rfl) hx) hsh (hz.weights hw)).mono ?_
  rintro e W' ⟨v, rfl, hp⟩
  exact ChangeSpec.post_blind hp
theorem pkT : Pg.PkT Tryz.prog 60 126 57 58 56 55 25 23 132 9 4 :=
 ⟨⟨⟨Tryz.underlying23, Tryz.underlying9, Tryz.underlying4, by kernel_rfl, by kernel_rfl, by kernel_rfl, by kernel_rfl, _, _, _, _, Tryz.underlying132, ⟨rfl, rfl⟩, ⟨rfl, rfl⟩, ⟨rfl, rfl⟩, ⟨rfl, rfl⟩⟩, by kernel_rfl, _, _, Tryz.underlying25, ⟨rfl, rfl⟩, ⟨rfl, rfl⟩⟩, Tryz.underlying56, by kernel_rfl, Tryz.underlying55, by kernel_rfl, Tryz.underlying57, by kernel_rfl, by kernel_rfl, Tryz.underlying58, by kernel_rfl, by kernel_rfl, ⟨_, _, Tryz.underlying126, ⟨rfl, rfl⟩, ⟨rfl, rfl⟩⟩, _, _, _, _, _, _, Tryz.underlying60, ⟨rfl, rfl⟩, ⟨rfl, rfl⟩, ⟨rfl, rfl⟩, ⟨rfl, rfl⟩, ⟨rfl, rfl⟩, ⟨rfl, rfl⟩⟩
set_option maxRecDepth 100000 in
theorem lifted (os : Os) (started : os.Started) (H : Type) (enc : TypeId × Value -> H) :
  ReturnsInHanded {} Tryz.checked os 3 .any (fun w args => (Rows.repoFindsSpec.pre enc Tryz.prog Tryz.f3 Rows.repoFindsRow.domain false w args /\ laidMetH Tryz.prog Rows.repoFindsRow.laid w) /\ sizedMet enc Tryz.prog Tryz.f3 (OpenSpec.ofChange Rows.repoFindsSpec) false w args)
   (Rows.repoFindsSpec.post enc Tryz.prog Tryz.f3 false true false false) := by
 refine down (C := Tryz.checked) (X := fun w => laidMetH Tryz.prog Rows.repoFindsRow.laid w) (fun _ _ hh h => h.of_heap hh) own started (by kernel_rfl) Tryz.func3
  (ChangeSpec.witness_shaped (enc := enc) (C := Tryz.checked) (os := os) (X := fun w _ => laidMetH Tryz.prog Rows.repoFindsRow.laid w) false (World.laidAll Tryz.prog os Rows.repoFindsRow.laid) #[.slice none 0 0, .string ByteArray.empty, .string ByteArray.empty, .agg #[.string ByteArray.empty, .slice none 0 0]] 8 (World.laidAll_os _ _ _)
   (World.shaped_of_ZipB (by kernel_rfl) (by kernel_rfl)) (by kernel_rfl) (by kernel_rfl) (by kernel_rfl)
   (by rw [MakeChecks.laidMetH_plain _ _ _ (by kernel_rfl)]; exact laidMet_laidAll _ (by kernel_rfl) (by kernel_rfl))) ?_
 intro W base args ds gs before ab hW ac aj aq
 have ad : laidMet Tryz.prog Rows.repoFindsRow.laid W := by rw [<- MakeChecks.laidMetH_plain _ _ _ (by kernel_rfl)]; exact ac
 clear ac
 have aa : ∀ (j : Nat) t v, Tryz.f3.params[j]? = some t -> args[j]? = some v -> Value.okWide Tryz.prog W .any base t v := ab
 have ae := hW
 obtain ⟨p, q, ah, hV, rfl, _, _⟩ := hW
 have hA : DataW.TrodAll enc Tryz.prog W 0 (fun _ => true) true Tryz.f3.params.toList args.toList ds p := ah
 rw [Tryz.params3] at hA aa
 obtain ⟨v0, ar, d0, au, p0, q0, ai, rfl, rfl, h0, r0⟩ := trodAll_cons hA
 obtain ⟨v1, av, d1, aw, p1, q1, rfl, rfl, rfl, h1, r1⟩ := trodAll_cons r0
 obtain ⟨v2, ax, d2, ay, p2, q2, rfl, rfl, rfl, h2, r2⟩ := trodAll_cons r1
 obtain ⟨v3, az, d3, aA, p3, q3, rfl, rfl, rfl, h3, r3⟩ := trodAll_cons r2
 obtain ⟨rfl, rfl, rfl⟩ := trodAll_nil r3
 obtain rfl : args = #[v0, v1, v2, v3] := by cases args; simp_all
 obtain ⟨rfl, rfl⟩ := trodVars_none hV
 have af := h0
 obtain ⟨A0, c0, l0, rfl, ak, aB, al⟩ := Rp.rz Tryz.underlying22 pkT (aa 0 22 v0 rfl rfl) h0
 obtain ⟨s1, rfl, rfl, rfl, w1⟩ := open_string Tryz.underlying9 (aa 1 9 v1 rfl rfl) h1
 obtain ⟨s2, rfl, rfl, rfl, w2⟩ := open_string Tryz.underlying9 (aa 2 9 v2 rfl rfl) h2
 have ag := h3
 obtain ⟨s3, A3, c3, l3, rfl, am, an, ao, ap⟩ := abR Tryz.underlying25 ⟨rfl, rfl⟩ ⟨rfl, rfl⟩ (by kernel_rfl) (by kernel_rfl) Tryz.underlying23 Tryz.underlying132 ⟨rfl, rfl⟩ ⟨rfl, rfl⟩ ⟨rfl, rfl⟩ ⟨rfl, rfl⟩ Tryz.underlying9 Tryz.underlying4 (by kernel_rfl) (by kernel_rfl) (by kernel_rfl) (aa 3 25 v3 rfl rfl) h3
 have hm : MaxOk W := cell_of_shapedOpen_int (P := Tryz.prog) (g := 0) (t := 3) (zero := #[.int .i64 0]) aj (of_decide_eq_true (by kernel_rfl)) (by kernel_rfl) rfl (by kernel_rfl) (by kernel_rfl) Tryz.underlying3
 have hk : KOk W := abQ hm ad
 clear ah ab ad
 simp only [List.append_nil] at ae
 refine (nj A0 l0.length c0 l0 s1.data.toList s2.data.toList s3.data.toList A3 l3.length c3 l3 W hk rfl ak al am rfl an ao ap).mono fun e W' ⟨he, hb⟩ => ?_
 subst he
 refine ⟨_, rfl, _, _, _, [], (p0 ++ ([] ++ ([] ++ (p3 ++ [])))), [], ae, ?_, ?_, ?_, Below.frame hb _, fun h => by cases h⟩
 ·exact trodAll_mk1 (shut_bool Tryz.underlying4 _)
 ·exact (trodAll_cons_mk (Below.trod (show laidOutB Tryz.prog = true by kernel_rfl) (by kernel_rfl) (of_decide_eq_true (by kernel_rfl)) af hb (fun x hx => ae.lt x (by simp [hx]))) (trodAll_cons_mk (shut_string Tryz.underlying9 w1) (trodAll_cons_mk (shut_string Tryz.underlying9 w2) (trodAll_cons_mk (Below.trod (show laidOutB Tryz.prog = true by kernel_rfl) (by kernel_rfl) (of_decide_eq_true (by kernel_rfl)) ag hb (fun x hx => ae.lt x (by simp [hx]))) trodAll_mk0))))
 ·rfl
theorem vB {a b : Bool} (h : a = true) (k : b = true) : (a && b) = true := by rw [h, k]; rfl
set_option maxHeartbeats 4000000 in
theorem closed : joinedFacts Tryz.prog 3 Tryz.f3 Rows.repoFindsSpec Rows.repoFindsRow = true := by
 unfold joinedFacts
 repeat' with_reducible refine vB ?_ ?_
 all_goals as_aux_lemma => kernel_rfl
theorem holds : Rows.RepoFindsSaid :=
 OpenClaim.holds_of_wide 3 Tryz.f3 rfl rfl rfl rfl rfl rfl rfl ⟨rfl, rfl, rfl, rfl, rfl⟩ rfl rfl rfl rfl rfl (by kernel_rfl) Tryz.func3 closed
  (of_decide_eq_true (by kernel_rfl)) (by unfold Func.isWrapper; first | (rw [if_pos (by decide +kernel)]; kernel_rfl) | (rw [if_neg (by decide +kernel)]; exact ⟨rfl, rfl⟩))
  (fun os started H enc _ => lifted os started H enc)
theorem proved : Rows.RepoFindsCardSaid :=
 Claim7.holds_tied_plain_at .later [] [.data, .data, .data, .data, .sentinel, .sentinel, .pinned] true (true, "311e6a08e69ab666c6ef23e57109686a8b66a3a4c0e30cc657bad280bc239ed0") true
  holds (fun _ h => by cases h) (by as_aux_lemma => kernel_rfl) (fun _ h => by cases h) repoFinds_row_tie rfl ⟨rfl, rfl⟩ (by as_aux_lemma => kernel_rfl) rfl
  (fun f fn hf hfn => by
   obtain rfl : f = 3 := Option.some.inj ((show Tryz.prog.funcNamed "manciple/manciplelaw7.RepoFinds" = some 3 by as_aux_lemma => kernel_rfl).symm.trans hf) |>.symm
   obtain rfl : fn = Tryz.f3 := (Option.some.inj (Tryz.func3.symm.trans hfn)).symm
   exact ⟨by as_aux_lemma => kernel_rfl, fun j t ht => by
    rw [Tryz.params3] at ht
    have hmem : t ∈ [22, 9, 9, 25] := by simpa using Array.mem_of_getElem? ht
    have aa : ([22, 9, 9, 25].all fun u => !Tryz.prog.wantsStandIn u) = true := by as_aux_lemma => kernel_rfl
    exact (show Tryz.prog.wantsStandIn t = false by simpa using List.all_eq_true.1 aa t hmem)⟩)
  (by as_aux_lemma => kernel_rfl)
end Go.Proofs.YtgnaiidgjmicaaaGreatDoor.repoFinds

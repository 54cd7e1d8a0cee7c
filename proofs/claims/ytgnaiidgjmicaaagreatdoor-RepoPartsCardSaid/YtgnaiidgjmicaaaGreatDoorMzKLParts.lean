/- Each package of a repo is called by one of its names, and those that are called so are all, each once: for every input the law RepoParts returns true and leaves its arguments as they were. The listed variables of Go's library read as its own text lays them, and nothing else is asked. -/
import Derived.Test.YtgnaiidgjmicaaaGreatDoorCards
import Derived.Test.YtgnaiidgjmicaaaGreatDoorTie
import Derived.Test.YtgnaiidgjmicaaaGreatDoorM35
import Derived.Lay
import Derived.SevenTiedAt
import Derived.HandedShaped
namespace Go.Proofs.YtgnaiidgjmicaaaGreatDoor.repoParts
open Go.ChangeShapes Go.WideShapes Go.ChangeAt Go.RowKit
open Go.ChangeMaps (open_string shut_string)
theorem own : ownKnob Tryz.prog.godebug = none := by kernel_rfl
theorem down {H : Type} {enc : TypeId × Value -> H} {a : Assume} {C : Checked} {os : Os} {f : FuncId} {fn : Func} {s : ChangeSpec} {conds : List PathCond} {b1 b2 b3 b4 : Bool} {X : World -> Prop} (hX : ∀ w w' : World, w.heap = w'.heap -> X w -> X w')
  (own : ownKnob C.prog.godebug = none) (started : os.Started) (noInit : C.prog.inits.idxOf? f = none) (hfn : C.prog.funcs[f]? = some fn)
  (start : ∃ (w : World) (tape : Tape) (i : Input), w.os = os /\ (w.forCall tape i).Shaped C.prog /\ i.vars = [] /\ Input.okWide C.prog (w.forCall tape i) .any w.heap.size f i /\
   ((s.pre enc C.prog fn conds b1 (w.forCall tape i).memory i.args /\ X (w.forCall tape i).memory) /\ sizedMet enc C.prog fn (OpenSpec.ofChange s) b1 (w.forCall tape i).memory i.args) /\ a.holds C.prog (lone (Frame.enter C.prog f i.args .normal) [] (w.forCall tape i)))
  (go : ∀ (W : World) (base : Nat) (args : Array Value) (ds gs : List (DataW H)) (before : List MemPlace), (∀ (j : Nat) t v, fn.params[j]? = some t -> args[j]? = some v -> Value.okWide C.prog W .any base t v) ->
   DataW.Whole enc C.prog fn.params.toList s.vars b1 W args.toList ds gs before -> X W -> W.ShapedOpen C.prog ->
   (DataW.weightsEach C.prog (fn.params.toList ++ s.plain.varTypes C.prog) (ds ++ gs)).all (. <= reachBytes) = true ->
   Calls C.prog f args W fun e W' => ∃ v, e = .returned v /\ s.post enc C.prog fn b1 b2 b3 b4 W args v W') :
  ReturnsInHanded a C os f .any (fun w args => (s.pre enc C.prog fn conds b1 w args /\ X w) /\ sizedMet enc C.prog fn (OpenSpec.ofChange s) b1 w args) (s.post enc C.prog fn b1 b2 b3 b4) :=
 returnsInHanded_of_calls own started noInit start fun w tape i _ hsh _ hok hpre _ => by
  obtain ⟨_, _, _, g, hg, _, _, _, _, hval⟩ := hok
  cases Option.some.inj (hg.symm.trans hfn)
  obtain ⟨⟨⟨ds, gs, before, hw, _⟩, hx⟩, hz⟩ := hpre
  refine (go (w.forCall tape i) w.heap.size i.args ds gs before hval (DataW.Whole.of_heap (by rfl) hw) (hX _ _ (by rfl) hx) hsh (hz.weights hw)).mono ?_
  rintro e W' ⟨v, rfl, hp⟩
  exact ChangeSpec.post_blind hp
theorem pkT : Pg.PkT Tryz.prog 60 126 57 58 56 55 25 23 132 9 4 :=
 ⟨⟨⟨Tryz.underlying23, Tryz.underlying9, Tryz.underlying4, by kernel_rfl, by kernel_rfl, by kernel_rfl, by kernel_rfl, _, _, _, _, Tryz.underlying132, ⟨rfl, rfl⟩, ⟨rfl, rfl⟩, ⟨rfl, rfl⟩, ⟨rfl, rfl⟩⟩, by kernel_rfl, _, _, Tryz.underlying25, ⟨rfl, rfl⟩, ⟨rfl, rfl⟩⟩, Tryz.underlying56, by kernel_rfl, Tryz.underlying55, by kernel_rfl, Tryz.underlying57, by kernel_rfl, by kernel_rfl, Tryz.underlying58, by kernel_rfl, by kernel_rfl, ⟨_, _, Tryz.underlying126, ⟨rfl, rfl⟩, ⟨rfl, rfl⟩⟩, _, _, _, _, _, _, Tryz.underlying60, ⟨rfl, rfl⟩, ⟨rfl, rfl⟩, ⟨rfl, rfl⟩, ⟨rfl, rfl⟩, ⟨rfl, rfl⟩, ⟨rfl, rfl⟩⟩
set_option maxRecDepth 100000 in
theorem lifted (os : Os) (started : os.Started) (H : Type) (enc : TypeId × Value -> H) :
  ReturnsInHanded {} Tryz.checked os 4 .any (fun w args => (Rows.repoPartsSpec.pre enc Tryz.prog Tryz.f4 Rows.repoPartsRow.domain false w args /\ laidMetH Tryz.prog Rows.repoPartsRow.laid w) /\ sizedMet enc Tryz.prog Tryz.f4 (OpenSpec.ofChange Rows.repoPartsSpec) false w args)
   (Rows.repoPartsSpec.post enc Tryz.prog Tryz.f4 false true false false) := by
 refine down (C := Tryz.checked) (X := fun w => laidMetH Tryz.prog Rows.repoPartsRow.laid w) (fun _ _ hh h => h.of_heap hh) own started (by kernel_rfl) Tryz.func4
  (ChangeSpec.witness_shaped (enc := enc) (C := Tryz.checked) (os := os) (X := fun w _ => laidMetH Tryz.prog Rows.repoPartsRow.laid w) false (World.laidAll Tryz.prog os Rows.repoPartsRow.laid) #[.slice none 0 0] 8 (World.laidAll_os _ _ _)
   (World.shaped_of_ZipB (by kernel_rfl) (by kernel_rfl)) (by kernel_rfl) (by kernel_rfl) (by kernel_rfl)
   (by rw [MakeChecks.laidMetH_plain _ _ _ (by kernel_rfl)]; exact laidMet_laidAll _ (by kernel_rfl) (by kernel_rfl))) ?_
 intro W base args ds gs before aa hW ab ai al
 have ac : laidMet Tryz.prog Rows.repoPartsRow.laid W := by rw [<- MakeChecks.laidMetH_plain _ _ _ (by kernel_rfl)]; exact ab
 clear ab
 have ad : ∀ (j : Nat) t v, Tryz.f4.params[j]? = some t -> args[j]? = some v -> Value.okWide Tryz.prog W .any base t v := aa
 have ae := hW
 obtain ⟨p, q, ag, hV, rfl, _, _⟩ := hW
 have hA : DataW.TrodAll enc Tryz.prog W 0 (fun _ => true) true Tryz.f4.params.toList args.toList ds p := ag
 rw [Tryz.params4] at hA ad
 obtain ⟨v0, am, d0, an, p0, q0, ah, rfl, rfl, h0, r0⟩ := trodAll_cons hA
 obtain ⟨rfl, rfl, rfl⟩ := trodAll_nil r0
 obtain rfl : args = #[v0] := by cases args; simp_all
 obtain ⟨rfl, rfl⟩ := trodVars_none hV
 have af := h0
 obtain ⟨A0, c0, l0, rfl, aj, ao, ak⟩ := Rp.rz Tryz.underlying22 pkT (ad 0 22 v0 rfl rfl) h0
 have hm : MaxOk W := cell_of_shapedOpen_int (P := Tryz.prog) (g := 0) (t := 3) (zero := #[.int .i64 0]) ai (of_decide_eq_true (by kernel_rfl)) (by kernel_rfl) rfl (by kernel_rfl) (by kernel_rfl) Tryz.underlying3
 have hk : KOk W := abQ hm ac
 clear ag aa ac
 simp only [List.append_nil] at ae
 refine (nn A0 l0.length c0 l0 W hk rfl aj ak).mono fun e W' ⟨he, hb⟩ => ?_
 subst he
 refine ⟨_, rfl, _, _, _, [], (p0 ++ []), [], ae, ?_, ?_, ?_, Below.frame hb _, fun h => by cases h⟩
 ·exact trodAll_mk1 (shut_bool Tryz.underlying4 _)
 ·exact (trodAll_cons_mk (Below.trod (show laidOutB Tryz.prog = true by kernel_rfl) (by kernel_rfl) (of_decide_eq_true (by kernel_rfl)) af hb (fun x hx => ae.lt x (by simp [hx]))) trodAll_mk0)
 ·rfl
theorem vB {a b : Bool} (h : a = true) (k : b = true) : (a && b) = true := by rw [h, k]; rfl
set_option maxHeartbeats 4000000 in
theorem closed : joinedFacts Tryz.prog 4 Tryz.f4 Rows.repoPartsSpec Rows.repoPartsRow = true := by
 unfold joinedFacts
 repeat' with_reducible refine vB ?_ ?_
 all_goals as_aux_lemma => kernel_rfl
theorem holds : Rows.RepoPartsSaid :=
 OpenClaim.holds_of_wide 4 Tryz.f4 rfl rfl rfl rfl rfl rfl rfl ⟨rfl, rfl, rfl, rfl, rfl⟩ rfl rfl rfl rfl rfl (by kernel_rfl) Tryz.func4 closed
  (of_decide_eq_true (by kernel_rfl)) (by unfold Func.isWrapper; first | (rw [if_pos (by decide +kernel)]; kernel_rfl) | (rw [if_neg (by decide +kernel)]; exact ⟨rfl, rfl⟩))
  (fun os started H enc _ => lifted os started H enc)
theorem proved : Rows.RepoPartsCardSaid :=
 Claim7.holds_tied_plain_at .later [] [.data, .data, .data, .data, .sentinel, .sentinel, .pinned] true (true, "311e6a08e69ab666c6ef23e57109686a8b66a3a4c0e30cc657bad280bc239ed0") true
  holds (fun _ h => by cases h) (by as_aux_lemma => kernel_rfl) (fun _ h => by cases h) repoParts_row_tie rfl ⟨rfl, rfl⟩ (by as_aux_lemma => kernel_rfl) rfl
  (fun f fn hf hfn => by
   obtain rfl : f = 4 := Option.some.inj ((show Tryz.prog.funcNamed "manciple/manciplelaw7.RepoParts" = some 4 by as_aux_lemma => kernel_rfl).symm.trans hf) |>.symm
   obtain rfl : fn = Tryz.f4 := (Option.some.inj (Tryz.func4.symm.trans hfn)).symm
   exact ⟨by as_aux_lemma => kernel_rfl, fun j t ht => by
    rw [Tryz.params4] at ht
    have hmem : t ∈ [22] := by simpa using Array.mem_of_getElem? ht
    have aa : ([22].all fun u => !Tryz.prog.wantsStandIn u) = true := by as_aux_lemma => kernel_rfl
    exact (show Tryz.prog.wantsStandIn t = false by simpa using List.all_eq_true.1 aa t hmem)⟩)
  (by as_aux_lemma => kernel_rfl)
end Go.Proofs.YtgnaiidgjmicaaaGreatDoor.repoParts

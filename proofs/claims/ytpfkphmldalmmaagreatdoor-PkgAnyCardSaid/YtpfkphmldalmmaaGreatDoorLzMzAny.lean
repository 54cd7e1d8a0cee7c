/- Of any two packages: whether they may be, whether alike; in fields and back: for every input the law PkgAny returns true and leaves its arguments as they were. The listed variables of Go's library read as its own text lays them, and nothing else is asked. -/
import Derived.Test.YtpfkphmldalmmaaGreatDoorCards
import Derived.Test.YtpfkphmldalmmaaGreatDoorTie
import Derived.Test.YtpfkphmldalmmaaGreatDoorL38
import Derived.Lay
import Derived.SevenTiedAt
import Derived.HandedShaped
namespace Go.Proofs.YtpfkphmldalmmaaGreatDoor.pkgAny
open Go.ChangeShapes Go.WideShapes Go.ChangeAt Go.RowKit
open Go.ChangeMaps (open_string shut_string)
theorem own : ownKnob Tryz.prog.godebug = none := by kernel_rfl
theorem down {H : Type} {enc : TypeId × Value -> H} {a : Assume} {C : Checked} {os : Os} {f : FuncId} {fn : Func} {s : ChangeSpec} {conds : List PathCond} {b1 b2 b3 b4 : Bool} {X : World -> Prop} (hX : ∀ w w' : World, w.heap = w'.heap -> X w -> X w')
  (own : ownKnob C.prog.godebug = none) (started : os.Started) (noInit : C.prog.inits.idxOf? f = none) (hfn : C.prog.funcs[f]? = some fn)
  (start : ∃ (w : World) (tape : Tape) (i : Input), w.os = os /\ (w.forCall tape i).Shaped C.prog /\ i.vars = [] /\ Input.okWide C.prog (w.forCall tape i) .any w.heap.size f i /\
   ((s.pre enc C.prog fn conds b1 (w.forCall tape i).memory i.args /\ X (w.forCall tape i).memory) /\ sizedMet enc C.prog fn (OpenSpec.ofChange s) b1 (w.forCall tape i).memory i.args) /\ a.holds C.prog (lone (Frame.enter C.prog f i.args .normal) [] (w.forCall tape i)))
  (go : ∀ (W : World) (base : Nat) (args : Array Value) (ds gs : List (DataW H)) (before : List MemPlace), (∀ (j : Nat) t v, fn.params[j]? = some t -> args[j]? = some v -> Value.okWide C.prog W .any base t v) ->
   DataW.Whole enc C.prog fn.params.toList s.vars b1 W args.toList ds gs before -> X W -> W.ShapedOpen C.prog ->
   (DataW.weightsEach C.prog (fn.params.toList ++ s.plain.varTypes C.prog) (ds ++ gs)).all (. <= reachBytes) = true ->
   Calls C.prog f args W fun e W' => ∃ v, e = .returned v /\ s.post enc C.prog fn b1 b2 b3 b4 W args v W') :
  ReturnsInHanded a C os f .any (fun w args => (s.pre enc C.prog fn conds b1 w args /\ X w) /\ sizedMet enc C.prog fn (OpenSpec.ofChange s) b1 w args) (s.post enc C.prog fn b1 b2 b3 b4) :=
 returnsInHanded_of_calls own started noInit start fun w tape i _ hsh _ hok hpre _ => by
  obtain ⟨_, _, _, g, hg, _, _, _, _, hval⟩ := hok
  cases Option.some.inj (hg.symm.trans hfn)
  obtain ⟨⟨⟨ds, gs, before, hw, _⟩, hx⟩, hz⟩ := hpre
  refine (go (w.forCall tape i) w.heap.size i.args ds gs before hval (DataW.Whole.of_heap (by rfl) hw) (hX _ _ (by rfl) hx) hsh (hz.weights hw)).mono ?_
  rintro e W' ⟨v, rfl, hp⟩
  exact ChangeSpec.post_blind hp
theorem pkT : Pg.PkT Tryz.prog 27 68 24 25 23 22 117 115 200 9 4 :=
 ⟨⟨⟨Tryz.underlying115, Tryz.underlying9, Tryz.underlying4, by kernel_rfl, by kernel_rfl, by kernel_rfl, by kernel_rfl, _, _, _, _, Tryz.underlying200, ⟨rfl, rfl⟩, ⟨rfl, rfl⟩, ⟨rfl, rfl⟩, ⟨rfl, rfl⟩⟩, by kernel_rfl, _, _, Tryz.underlying117, ⟨rfl, rfl⟩, ⟨rfl, rfl⟩⟩, Tryz.underlying23, by kernel_rfl, Tryz.underlying22, by kernel_rfl, Tryz.underlying24, by kernel_rfl, by kernel_rfl, Tryz.underlying25, by kernel_rfl, by kernel_rfl, ⟨_, _, Tryz.underlying68, ⟨rfl, rfl⟩, ⟨rfl, rfl⟩⟩, _, _, _, _, _, _, Tryz.underlying27, ⟨rfl, rfl⟩, ⟨rfl, rfl⟩, ⟨rfl, rfl⟩, ⟨rfl, rfl⟩, ⟨rfl, rfl⟩, ⟨rfl, rfl⟩⟩
set_option maxRecDepth 100000 in
theorem lifted (os : Os) (started : os.Started) (H : Type) (enc : TypeId × Value -> H) :
  ReturnsInHanded {} Tryz.checked os 3 .any (fun w args => (Rows.pkgAnySpec.pre enc Tryz.prog Tryz.f3 Rows.pkgAnyRow.domain false w args /\ laidMetH Tryz.prog Rows.pkgAnyRow.laid w) /\ sizedMet enc Tryz.prog Tryz.f3 (OpenSpec.ofChange Rows.pkgAnySpec) false w args)
   (Rows.pkgAnySpec.post enc Tryz.prog Tryz.f3 false true false false) := by
 refine down (C := Tryz.checked) (X := fun w => laidMetH Tryz.prog Rows.pkgAnyRow.laid w) (fun _ _ hh h => h.of_heap hh) own started (by kernel_rfl) Tryz.func3
  (ChangeSpec.witness_shaped (enc := enc) (C := Tryz.checked) (os := os) (X := fun w _ => laidMetH Tryz.prog Rows.pkgAnyRow.laid w) false (World.laidAll Tryz.prog os Rows.pkgAnyRow.laid) #[.agg #[.string ByteArray.empty, .string ByteArray.empty, .slice none 0 0, .slice none 0 0, .slice none 0 0, .float .f64 0], .agg #[.string ByteArray.empty, .string ByteArray.empty, .slice none 0 0, .slice none 0 0, .slice none 0 0, .float .f64 0]] 8 (World.laidAll_os _ _ _)
   (World.shaped_of_ZipB (by kernel_rfl) (by kernel_rfl)) (by kernel_rfl) (by kernel_rfl) (by kernel_rfl)
   (by rw [MakeChecks.laidMetH_plain _ _ _ (by kernel_rfl)]; exact laidMet_laidAll _ (by kernel_rfl) (by kernel_rfl))) ?_
 intro W base args ds gs before aa hW ab aj aA
 have ad : laidMet Tryz.prog Rows.pkgAnyRow.laid W := by rw [<- MakeChecks.laidMetH_plain _ _ _ (by kernel_rfl)]; exact ab
 clear ab
 have ac : ∀ (j : Nat) t v, Tryz.f3.params[j]? = some t -> args[j]? = some v -> Value.okWide Tryz.prog W .any base t v := aa
 have ae := hW
 obtain ⟨p, q, ah, hV, rfl, _, _⟩ := hW
 have hA : DataW.TrodAll enc Tryz.prog W 0 (fun _ => true) true Tryz.f3.params.toList args.toList ds p := ah
 rw [Tryz.params3] at hA ac
 obtain ⟨v0, aB, d0, aC, p0, q0, ai, rfl, rfl, h0, r0⟩ := trodAll_cons hA
 obtain ⟨v1, aD, d1, aE, p1, q1, rfl, rfl, rfl, h1, r1⟩ := trodAll_cons r0
 obtain ⟨rfl, rfl, rfl⟩ := trodAll_nil r1
 obtain rfl : args = #[v0, v1] := by cases args; simp_all
 obtain ⟨rfl, rfl⟩ := trodVars_none hV
 have af := h0
 obtain ⟨P0, D0, C0, G0, ak, al, am, rfl, an, ao, ap, aq⟩ := Pg.tZ pkT (ac 0 27 v0 rfl rfl) h0
 have ag := h1
 obtain ⟨P1, D1, C1, G1, ar, au, av, rfl, aw, ax, ay, az⟩ := Pg.tZ pkT (ac 1 27 v1 rfl rfl) h1
 have hm : MaxOk W := cell_of_shapedOpen_int (P := Tryz.prog) (g := 2) (t := 3) (zero := #[.int .i64 0]) aj (of_decide_eq_true (by kernel_rfl)) (by kernel_rfl) rfl (by kernel_rfl) (by kernel_rfl) Tryz.underlying3
 have hk : KOk W := aeL hm ad
 clear ah aa ad
 simp only [List.append_nil] at ae
 refine (rK P0 P1 D0 C0 G0 P0.deps.length ak P0.confl.length al P0.prov.length am D1 C1 G1 P1.deps.length ar P1.confl.length au P1.prov.length av W hk an rfl ao rfl ap rfl aq aw rfl ax rfl ay rfl az).mono fun e W' ⟨he, hb⟩ => ?_
 subst he
 refine ⟨_, rfl, _, _, _, [], (p0 ++ (p1 ++ [])), [], ae, ?_, ?_, ?_, Below.frame hb _, fun h => by cases h⟩
 ·exact trodAll_mk1 (shut_bool Tryz.underlying4 _)
 ·exact (trodAll_cons_mk (Below.trod (show laidOutB Tryz.prog = true by kernel_rfl) (by kernel_rfl) (of_decide_eq_true (by kernel_rfl)) af hb (fun x hx => ae.lt x (by simp [hx]))) (trodAll_cons_mk (Below.trod (show laidOutB Tryz.prog = true by kernel_rfl) (by kernel_rfl) (of_decide_eq_true (by kernel_rfl)) ag hb (fun x hx => ae.lt x (by simp [hx]))) trodAll_mk0))
 ·rfl
theorem aeM {a b : Bool} (h : a = true) (k : b = true) : (a && b) = true := by rw [h, k]; rfl
set_option maxHeartbeats 4000000 in
theorem closed : joinedFacts Tryz.prog 3 Tryz.f3 Rows.pkgAnySpec Rows.pkgAnyRow = true := by
 unfold joinedFacts
 repeat' with_reducible refine aeM ?_ ?_
 all_goals as_aux_lemma => kernel_rfl
theorem holds : Rows.PkgAnySaid :=
 OpenClaim.holds_of_wide 3 Tryz.f3 rfl rfl rfl rfl rfl rfl rfl ⟨rfl, rfl, rfl, rfl, rfl⟩ rfl rfl rfl rfl rfl (by kernel_rfl) Tryz.func3 closed
  (of_decide_eq_true (by kernel_rfl)) (by unfold Func.isWrapper; first | (rw [if_pos (by decide +kernel)]; kernel_rfl) | (rw [if_neg (by decide +kernel)]; exact ⟨rfl, rfl⟩))
  (fun os started H enc _ => lifted os started H enc)
theorem proved : Rows.PkgAnyCardSaid :=
 Claim7.holds_tied_plain_at .later [] [.data, .data, .data, .data, .sentinel, .sentinel, .pinned] true (true, "dc8822d66790f2e06cf0c08932ee1fa18cb229abaf8b0db9c62da1a6e3ce53a7") true
  holds (fun _ h => by cases h) (by kernel_rfl) (fun _ h => by cases h) pkgAny_row_tie rfl ⟨rfl, rfl⟩ (by kernel_rfl) rfl
  (fun f fn hf hfn => by
   obtain rfl : f = 3 := Option.some.inj ((show Tryz.prog.funcNamed "manciple/manciplelaw6.PkgAny" = some 3 by kernel_rfl).symm.trans hf) |>.symm
   obtain rfl : fn = Tryz.f3 := (Option.some.inj (Tryz.func3.symm.trans hfn)).symm
   exact ⟨by kernel_rfl, fun j t ht => by
    rw [Tryz.params3] at ht
    have hmem : t ∈ [27, 27] := by simpa using Array.mem_of_getElem? ht
    have aa : ([27, 27].all fun u => !Tryz.prog.wantsStandIn u) = true := by kernel_rfl
    exact (show Tryz.prog.wantsStandIn t = false by simpa using List.all_eq_true.1 aa t hmem)⟩)
  (by kernel_rfl)
end Go.Proofs.YtpfkphmldalmmaaGreatDoor.pkgAny

/- Part 7 of what the laws lean on. -/
import Derived.Test.YtgnaiidgjmicaaaGreatDoorL06
set_option maxRecDepth 100000
set_option maxHeartbeats 3200000
namespace Go.Proofs.YtgnaiidgjmicaaaGreatDoor
section
open Go.RowKit
attribute [local go_sem ↓] Go.wp_at_zero Go.wp_at_succ
section
variable {P:Program} {ops:Array Oper} {md:Region.Mode} {Q:Exit->Act->World->Prop} {S:World->Prop} {fuel:Nat} {listed:Array Bool} {a:Act} {w:World}
theorem mvG (hS:S w)(i:Nat){oi:Oper}{v:Value}(h:wpAnyH P md ops Q S fuel (listed.setIfInBounds i true) (a.put oi.dst v) w)
  (hi:ops[i]?=some oi:=by rfl) (hs:Region.noSelect ops=true:=by kernel_rfl) (hf:Region.free md ops listed i=true:=by kernel_rfl) (hr:(Region.ready md ops listed).contains i=true:=by kernel_rfl) (hQ:∀ c a w,Q (.panic c) (a.put oi.dst v) w->Q (.panic c) a w:=by exact fun _ _ _ h=>h) (hw:Region.wanted oi (yielded ops a.tmps)=true:=by rfl)
  (hy:∀ w,S w->(execOp a.eval oi).run P w=.ok (.value v) w:=by (intro w aa;(try dsimp only at aa);go_simp;(try with_reducible rfl))):wpAnyH P md ops Q S (fuel+1) listed a w:=wpAnyH_take hi hs hf hr hQ (Or.inl ⟨hw,hy⟩) hS h
theorem mwG (hS:S w)(i:Nat){oi:Oper}(h:wpAnyH P md ops Q S fuel (listed.setIfInBounds i true) (a.put oi.dst undef) w)
  (hi:ops[i]?=some oi:=by rfl) (hs:Region.noSelect ops=true:=by kernel_rfl) (hf:Region.free md ops listed i=true:=by kernel_rfl) (hr:(Region.ready md ops listed).contains i=true:=by kernel_rfl) (hQ:∀ c a w,Q (.panic c) (a.put oi.dst undef) w->Q (.panic c) a w:=by exact fun _ _ _ h=>h) (hw:Region.wanted oi (yielded ops a.tmps)=false:=by rfl):wpAnyH P md ops Q S (fuel+1) listed a w:=wpAnyH_take hi hs hf hr hQ (Or.inr ⟨hw,rfl⟩) hS h
end
def SpBlk (w:World) (b:Nat):Prop:=∃ x0 x1 x2 x3,w.heap[b]?=some (.cells #[x0,x1,x2,x3] 145 (0,0))
def stS (w:World) (b:Nat) (v u:List UInt8) (p q:Bool):World:=(((w.setCell ⟨b,0,none⟩ (.string ⟨v.toArray⟩)).setCell ⟨b,1,none⟩ (.string ⟨u.toArray⟩)).setCell ⟨b,2,none⟩ (.bool p)).setCell ⟨b,3,none⟩ (.bool q)
theorem fE {w:World}{b:Nat}(h:SpBlk w b)(v u:List UInt8)(p q:Bool):(stS w b v u p q).heap[b]?=some (.cells #[.string ⟨v.toArray⟩,.string ⟨u.toArray⟩,.bool p,.bool q] 145 (0,0)):=by
 obtain⟨x0,x1,x2,x3,h⟩:=h
 simp[stS,World.setCell,Array.getElem?_modify,h]
def valAt (w:World) (b j:Nat):Value:=(w.cell? ⟨b,j,none⟩).getD undef
theorem wZ {w:World}{b:Nat}(h:SpBlk w b):w.cell? ⟨b,0,none⟩=some (valAt w b 0)/\w.cell? ⟨b,1,none⟩=some (valAt w b 1)/\w.cell? ⟨b,2,none⟩=some (valAt w b 2)/\w.cell? ⟨b,3,none⟩=some (valAt w b 3) /\
  w.frozen? ⟨b,0,none⟩=false/\w.frozen? ⟨b,1,none⟩=false/\w.frozen? ⟨b,2,none⟩=false/\w.frozen? ⟨b,3,none⟩=false:=by
 obtain⟨x0,x1,x2,x3,h⟩:=h
 refine⟨?_,?_,?_,?_,?_,?_,?_,?_⟩ <;> simp[valAt,World.cell?,World.frozen?,h]
def SpK (w:World) (v:List UInt8) (x:Int) (u:List UInt8) (y:Int) (w':World):Prop :=
 w'.cell? ⟨w.heap.size,0,none⟩=some (.string ⟨v.toArray⟩)/\w'.cell? ⟨w.heap.size,1,none⟩=some (.int .i64 x)/\w'.cell? ⟨w.heap.size+1,0,none⟩=some (.string ⟨u.toArray⟩)/\w'.cell? ⟨w.heap.size+1,1,none⟩=some (.int .i64 y) /\
 w'.cell? ⟨w.heap.size+2,0,none⟩=some (valAt w' (w.heap.size+2) 0)/\w'.cell? ⟨w.heap.size+2,1,none⟩=some (valAt w' (w.heap.size+2) 1)/\w'.cell? ⟨w.heap.size+2,2,none⟩=some (valAt w' (w.heap.size+2) 2)/\w'.cell? ⟨w.heap.size+2,3,none⟩=some (valAt w' (w.heap.size+2) 3)/\w'.frozen? ⟨w.heap.size+2,0,none⟩=false/\w'.frozen? ⟨w.heap.size+2,1,none⟩=false/\w'.frozen? ⟨w.heap.size+2,2,none⟩=false/\w'.frozen? ⟨w.heap.size+2,3,none⟩=false/\SpBlk w' (w.heap.size+2)/\w.heap.size+2<w'.heap.size/\Below w.heap.size w w'
theorem oG {w w':World}{v u:List UInt8}{x y:Int}(h0:w'.cell? ⟨w.heap.size,0,none⟩=some (.string ⟨v.toArray⟩))(h1:w'.cell? ⟨w.heap.size,1,none⟩=some (.int .i64 x))(h2:w'.cell? ⟨w.heap.size+1,0,none⟩=some (.string ⟨u.toArray⟩))(h3:w'.cell? ⟨w.heap.size+1,1,none⟩=some (.int .i64 y))(hb:SpBlk w' (w.heap.size+2))(hs:w.heap.size+2<w'.heap.size)(hl:Below w.heap.size w w'):SpK w v x u y w' :=
 have ⟨a0,a1,a2,a3,b0,b1,b2,b3⟩:=wZ hb
 ⟨h0,h1,h2,h3,a0,a1,a2,a3,b0,b1,b2,b3,hb,hs,hl⟩
theorem bl {w u1 u2:World}{v u:List UInt8}{x y:Int}(hb:Below u1.heap.size u1 u2)(h:SpK w v x u y u1):SpK w v x u y u2:=by
 obtain⟨h0,h1,h2,h3,_,_,_,_,_,_,_,_,⟨x0,x1,x2,x3,h5⟩,h6,h7⟩:=h
 refine oG ?_ ?_ ?_ ?_ ⟨x0,x1,x2,x3,(hb.block _ h6).trans h5⟩ (Nat.lt_of_lt_of_le h6 hb.size) (h7.trans (hb.mono (by omega)))
 ·rw[hb.cell (by simp;omega)];exact h0
 ·rw[hb.cell (by simp;omega)];exact h1
 ·rw[hb.cell (by simp;omega)];exact h2
 ·rw[hb.cell (by simp;omega)];exact h3
theorem cU {w u1:World}{v u:List UInt8}{x y:Int}(v' u':List UInt8)(p q:Bool)(h:SpK w v x u y u1):SpK w v x u y (stS u1 (w.heap.size+2) v' u' p q):=by
 obtain⟨h0,h1,h2,h3,_,_,_,_,_,_,_,_,h5,h6,h7⟩:=h
 have far:∀ a:Addr,a.block≠w.heap.size+2->(stS u1 (w.heap.size+2) v' u' p q).cell? a=u1.cell? a:=fun a ha=>by
  unfold stS
  have e:∀ (z:World) (j:Nat) (val:Value),(z.setCell ⟨w.heap.size+2,j,none⟩ val).cell? a=z.cell? a:=fun z j val=>World.cell?_setCell_far z ⟨w.heap.size+2,j,none⟩ a val (fun e=>ha e.symm)
  rw[e,e,e,e]
 refine oG ?_ ?_ ?_ ?_ ⟨_,_,_,_,fE h5 v' u' p q⟩ (by simp[stS];exact h6) ((((h7.setCell (by simp) _).setCell (by simp) _).setCell (by simp) _).setCell (by simp) _)
 ·rw[far _ (by simp)];exact h0
 ·rw[far _ (by simp)];exact h1
 ·rw[far _ (by simp)];exact h2
 ·rw[far _ (by simp)];exact h3
theorem sR (v:List UInt8)(x:Int)(u:List UInt8)(y:Int)(w:World)(hv:v.length<=281474976710656)(hu:u.length<=281474976710656) :
  Calls Tryz.prog 333 #[.agg #[.string ⟨v.toArray⟩,.int .i64 x],.agg #[.string ⟨u.toArray⟩,.int .i64 y]] w fun e w'=>e=.returned (.agg #[.string ⟨v.toArray⟩,.string ⟨u.toArray⟩,.bool (!v.isEmpty&&x == -1),.bool (!u.isEmpty&&y==1)])/\Below w.heap.size w w':=by
 obtain⟨p,hp⟩:=ex (!v.isEmpty&&x == -1)
 obtain⟨q,hq⟩:=ex (!u.isEmpty&&y==1)
 rw[hp,hq]
 have HV:=zh hv
 have HU:=zh hu
 obtain⟨W,hW⟩:=ex (((w.alloc (.cells #[.string ⟨v.toArray⟩,.int .i64 x] 221)).alloc (.cells #[.string ⟨u.toArray⟩,.int .i64 y] 221)).alloc (.cells #[.string ⟨#[]⟩,.string ⟨#[]⟩,.bool false,.bool false] 145))
 have hK:SpK w v x u y W:=by
  rw[<-hW]
  refine oG ?_ ?_ ?_ ?_ ⟨.string ⟨#[]⟩,.string ⟨#[]⟩,.bool false,.bool false,?_⟩ (by simp) ?_
  ·simp[go_sem]
  ·simp[go_sem]
  ·simp[go_sem]
  ·simp[go_sem]
  ·have:=heap_alloc_new ((w.alloc (.cells #[.string ⟨v.toArray⟩,.int .i64 x] 221)).alloc (.cells #[.string ⟨u.toArray⟩,.int .i64 y] 221)) (.cells #[.string ⟨#[]⟩,.string ⟨#[]⟩,.bool false,.bool false] 145)
   simpa using this
  ·exact (((Below.refl _ _).alloc (Nat.le_refl _) _).alloc (by simp) _).alloc (by simp;omega) _
 have HK:=zh hK
 clear hK hv hu
 cases ac:v.isEmpty <;> cases ad:u.isEmpty
 all_goals
  rw[ac] at hp
  rw[ad] at hq
 ·rw[Bool.not_false,Bool.true_and] at hp hq
  go_enter Tryz.func333,Tryz.ntmps333
  go_wp2_with fail
  clear hW
  refine wp_region_held_drew (S:=(fun w'=>w'.cell? ⟨w.heap.size,0,none⟩=some (.string ⟨v.toArray⟩)/\w'.cell? ⟨w.heap.size,1,none⟩=some (.int .i64 x)/\w'.cell? ⟨w.heap.size+1,0,none⟩=some (.string ⟨u.toArray⟩)/\w'.cell? ⟨w.heap.size+1,1,none⟩=some (.int .i64 y)/\w'.cell? ⟨w.heap.size+1+1,0,none⟩=some (valAt w' (w.heap.size+2) 0)/\w'.cell? ⟨w.heap.size+1+1,1,none⟩=some (valAt w' (w.heap.size+2) 1)/\w'.cell? ⟨w.heap.size+1+1,2,none⟩=some (valAt w' (w.heap.size+2) 2)/\w'.cell? ⟨w.heap.size+1+1,3,none⟩=some (valAt w' (w.heap.size+2) 3)/\w'.frozen? ⟨w.heap.size+1+1,0,none⟩=false/\w'.frozen? ⟨w.heap.size+1+1,1,none⟩=false/\w'.frozen? ⟨w.heap.size+1+1,2,none⟩=false/\w'.frozen? ⟨w.heap.size+1+1,3,none⟩=false/\SpBlk w' (w.heap.size+2)/\w.heap.size+2<w'.heap.size/\Below w.heap.size w w')) (by kernel_rfl) ?_ (fun hHeld=>?_)
  ·exact bl (Below.refl _ _).drew HK.out
  refine mvG (by assumption) 0 ?_
  (try simp only[Act.put,List.getElem_toArray,List.getElem_cons_zero,List.setIfInBounds_toArray,List.set_cons_zero,List.set_cons_succ])
  refine mvG (by assumption) 1 ?_
  (try simp only[Act.put,actS])
  refine mvG (by assumption) 3 ?_
  (try simp only[Act.put,actS])
  refine mvG (by assumption) 4 ?_
  (try simp only[Act.put,actS])
  refine mvG (by assumption) 6 ?_
  (try simp only[Act.put,actS])
  refine mvG (by assumption) 7 ?_
  (try simp only[Act.put,actS])
  refine mvG (by assumption) 8 ?_
  (try simp only[Act.put,actS])
  refine mvG (by assumption) 14 ?_
  (try simp only[Act.put,actS])
  refine mvG (by assumption) 15 ?_
  (try simp only[Act.put,actS])
  refine mvG (by assumption) 16 ?_
  (try simp only[Act.put,actS])
  refine wpAnyH_ready (rs:=[2]) (by kernel_rfl) (by simp) ?_
  refine AllReadyH.cons rfl (fun K hK=>?_) AllReadyH.nil
  go_simp
  (refine (aQ v _ HV.out).mono ?_;rintro _ w1 ⟨rfl,hb⟩)
  refine hK.out _ _ ?_ (fun hHeld=>?_)
  ·exact bl hb (by assumption)
  clear hK K
  (try simp only[Act.put,actS])
  refine wpAnyH_ready (rs:=[5]) (by kernel_rfl) (by simp) ?_
  refine AllReadyH.cons rfl (fun K hK=>?_) AllReadyH.nil
  go_simp
  (refine (aQ u _ HU.out).mono ?_;rintro _ w1 ⟨rfl,hb⟩)
  refine hK.out _ _ ?_ (fun hHeld=>?_)
  ·exact bl hb (by assumption)
  clear hK K
  (try simp only[Act.put,actS])
  refine mvG (by assumption) 9 ?_
  (try simp only[Act.put,actS])
  refine mvG (by assumption) 10 ?_
  (try simp only[Act.put,actS])
  refine mvG (by assumption) 11 ?_
  (try simp only[Act.put,actS])
  refine mvG (by assumption) 12 ?_
  (try simp only[Act.put,actS])
  refine mvG (by assumption) 13 ?_
  (try simp only[Act.put,actS])
  refine mvG (by assumption) 17 ?_
  (try simp only[Act.put,actS])
  refine mvG (by assumption) 18 ?_
  (try simp only[Act.put,actS])
  refine mvG (by assumption) 19 ?_
  (try simp only[Act.put,actS])
  refine mvG (by assumption) 20 ?_
  (try simp only[Act.put,actS])
  refine mvG (by assumption) 21 ?_
  (try simp only[Act.put,actS])
  refine mvG (by assumption) 22 ?_
  (try simp only[Act.put,actS])
  have ab:Hid (SpK w v x u y w1):=hHeld
  refine wpAnyH_ready (rs:=[23]) (by kernel_rfl) (by simp) ?_
  refine AllReadyH.cons rfl (fun K hK=>?_) AllReadyH.nil
  go_simp
  refine hK.out _ _ ?_ (fun hHeld=>?_)
  ·exact cU v u p q ab.out
  clear hK K
  (try simp only[Act.put,actS])
  refine wpAnyH_done (by kernel_rfl) ?_ _
  have hB:SpBlk w1 (w.heap.size+2):=ab.out.2.2.2.2.2.2.2.2.2.2.2.2.1
  have aa:Below w.heap.size w (stS w1 (w.heap.size+2) v u p q):=(cU v u p q ab.out).2.2.2.2.2.2.2.2.2.2.2.2.2.2
  have hf:=fE hB v u p q
  show Exit.then _ _ Exit.normal _ (stS w1 (w.heap.size+2) v u p q)
  clear hHeld
  generalize stS w1 (w.heap.size+2) v u p q=Wf at *
  have r0:Wf.cell? ⟨w.heap.size+1+1,0,none⟩=some (.string ⟨v.toArray⟩):=by show Wf.cell? ⟨w.heap.size+2,0,none⟩=_;simp[World.cell?,hf]
  have r1:Wf.cell? ⟨w.heap.size+1+1,1,none⟩=some (.string ⟨u.toArray⟩):=by show Wf.cell? ⟨w.heap.size+2,1,none⟩=_;simp[World.cell?,hf]
  have r2:Wf.cell? ⟨w.heap.size+1+1,2,none⟩=some (.bool p):=by show Wf.cell? ⟨w.heap.size+2,2,none⟩=_;simp[World.cell?,hf]
  have r3:Wf.cell? ⟨w.heap.size+1+1,3,none⟩=some (.bool q):=by show Wf.cell? ⟨w.heap.size+2,3,none⟩=_;simp[World.cell?,hf]
  have HB:=zh aa
  clear hf hB aa ab
  go_wp2_with fail
  exact bodyPost_ret (v:=.agg #[.string ⟨v.toArray⟩,.string ⟨u.toArray⟩,.bool p,.bool q]) (by simp[results,Tryz.results333,go_sem,r0,r1,r2,r3]) rfl ⟨rfl,HB.out⟩
 ·rw[Bool.not_false,Bool.true_and] at hp
  obtain rfl:q=false:=hq.symm
  clear hq
  go_enter Tryz.func333,Tryz.ntmps333
  go_wp2_with fail
  clear hW
  refine wp_region_held_drew (S:=(fun w'=>w'.cell? ⟨w.heap.size,0,none⟩=some (.string ⟨v.toArray⟩)/\w'.cell? ⟨w.heap.size,1,none⟩=some (.int .i64 x)/\w'.cell? ⟨w.heap.size+1,0,none⟩=some (.string ⟨u.toArray⟩)/\w'.cell? ⟨w.heap.size+1,1,none⟩=some (.int .i64 y)/\w'.cell? ⟨w.heap.size+1+1,0,none⟩=some (valAt w' (w.heap.size+2) 0)/\w'.cell? ⟨w.heap.size+1+1,1,none⟩=some (valAt w' (w.heap.size+2) 1)/\w'.cell? ⟨w.heap.size+1+1,2,none⟩=some (valAt w' (w.heap.size+2) 2)/\w'.cell? ⟨w.heap.size+1+1,3,none⟩=some (valAt w' (w.heap.size+2) 3)/\w'.frozen? ⟨w.heap.size+1+1,0,none⟩=false/\w'.frozen? ⟨w.heap.size+1+1,1,none⟩=false/\w'.frozen? ⟨w.heap.size+1+1,2,none⟩=false/\w'.frozen? ⟨w.heap.size+1+1,3,none⟩=false/\SpBlk w' (w.heap.size+2)/\w.heap.size+2<w'.heap.size/\Below w.heap.size w w')) (by kernel_rfl) ?_ (fun hHeld=>?_)
  ·exact bl (Below.refl _ _).drew HK.out
  refine mvG (by assumption) 0 ?_
  (try simp only[Act.put,List.getElem_toArray,List.getElem_cons_zero,List.setIfInBounds_toArray,List.set_cons_zero,List.set_cons_succ])
  refine mvG (by assumption) 1 ?_
  (try simp only[Act.put,actS])
  refine mvG (by assumption) 3 ?_
  (try simp only[Act.put,actS])
  refine mvG (by assumption) 4 ?_
  (try simp only[Act.put,actS])
  refine mvG (by assumption) 6 ?_
  (try simp only[Act.put,actS])
  refine mvG (by assumption) 7 ?_
  (try simp only[Act.put,actS])
  refine mvG (by assumption) 8 ?_
  (try simp only[Act.put,actS])
  refine mvG (by assumption) 14 ?_
  (try simp only[Act.put,actS])
  refine mvG (by assumption) 15 ?_
  (try simp only[Act.put,actS])
  refine mvG (by assumption) 16 ?_
  (try simp only[Act.put,actS])
  refine wpAnyH_ready (rs:=[2]) (by kernel_rfl) (by simp) ?_
  refine AllReadyH.cons rfl (fun K hK=>?_) AllReadyH.nil
  go_simp
  (refine (aQ v _ HV.out).mono ?_;rintro _ w1 ⟨rfl,hb⟩)
  refine hK.out _ _ ?_ (fun hHeld=>?_)
  ·exact bl hb (by assumption)
  clear hK K
  (try simp only[Act.put,actS])
  refine wpAnyH_ready (rs:=[5]) (by kernel_rfl) (by simp) ?_
  refine AllReadyH.cons rfl (fun K hK=>?_) AllReadyH.nil
  go_simp
  (refine (aQ u _ HU.out).mono ?_;rintro _ w1 ⟨rfl,hb⟩)
  refine hK.out _ _ ?_ (fun hHeld=>?_)
  ·exact bl hb (by assumption)
  clear hK K
  (try simp only[Act.put,actS])
  refine mvG (by assumption) 9 ?_
  (try simp only[Act.put,actS])
  refine mvG (by assumption) 10 ?_
  (try simp only[Act.put,actS])
  refine mvG (by assumption) 11 ?_
  (try simp only[Act.put,actS])
  refine mvG (by assumption) 12 ?_
  (try simp only[Act.put,actS])
  refine mvG (by assumption) 13 ?_
  (try simp only[Act.put,actS])
  refine mvG (by assumption) 17 ?_
  (try simp only[Act.put,actS])
  refine mwG (by assumption) 18 ?_
  (try simp only[Act.put,actS])
  refine mwG (by assumption) 19 ?_
  (try simp only[Act.put,actS])
  refine mwG (by assumption) 20 ?_
  (try simp only[Act.put,actS])
  refine mvG (by assumption) 21 ?_
  (try simp only[Act.put,actS])
  refine mvG (by assumption) 22 ?_
  (try simp only[Act.put,actS])
  have ab:Hid (SpK w v x u y w1):=hHeld
  refine wpAnyH_ready (rs:=[23]) (by kernel_rfl) (by simp) ?_
  refine AllReadyH.cons rfl (fun K hK=>?_) AllReadyH.nil
  go_simp
  refine hK.out _ _ ?_ (fun hHeld=>?_)
  ·exact cU v u p false ab.out
  clear hK K
  (try simp only[Act.put,actS])
  refine wpAnyH_done (by kernel_rfl) ?_ _
  have hB:SpBlk w1 (w.heap.size+2):=ab.out.2.2.2.2.2.2.2.2.2.2.2.2.1
  have aa:Below w.heap.size w (stS w1 (w.heap.size+2) v u p false):=(cU v u p false ab.out).2.2.2.2.2.2.2.2.2.2.2.2.2.2
  have hf:=fE hB v u p false
  show Exit.then _ _ Exit.normal _ (stS w1 (w.heap.size+2) v u p false)
  clear hHeld
  generalize stS w1 (w.heap.size+2) v u p false=Wf at *
  have r0:Wf.cell? ⟨w.heap.size+1+1,0,none⟩=some (.string ⟨v.toArray⟩):=by show Wf.cell? ⟨w.heap.size+2,0,none⟩=_;simp[World.cell?,hf]
  have r1:Wf.cell? ⟨w.heap.size+1+1,1,none⟩=some (.string ⟨u.toArray⟩):=by show Wf.cell? ⟨w.heap.size+2,1,none⟩=_;simp[World.cell?,hf]
  have r2:Wf.cell? ⟨w.heap.size+1+1,2,none⟩=some (.bool p):=by show Wf.cell? ⟨w.heap.size+2,2,none⟩=_;simp[World.cell?,hf]
  have r3:Wf.cell? ⟨w.heap.size+1+1,3,none⟩=some (.bool false):=by show Wf.cell? ⟨w.heap.size+2,3,none⟩=_;simp[World.cell?,hf]
  have HB:=zh aa
  clear hf hB aa ab
  go_wp2_with fail
  exact bodyPost_ret (v:=.agg #[.string ⟨v.toArray⟩,.string ⟨u.toArray⟩,.bool p,.bool false]) (by simp[results,Tryz.results333,go_sem,r0,r1,r2,r3]) rfl ⟨rfl,HB.out⟩
 ·rw[Bool.not_false,Bool.true_and] at hq
  obtain rfl:p=false:=hp.symm
  clear hp
  go_enter Tryz.func333,Tryz.ntmps333
  go_wp2_with fail
  clear hW
  refine wp_region_held_drew (S:=(fun w'=>w'.cell? ⟨w.heap.size,0,none⟩=some (.string ⟨v.toArray⟩)/\w'.cell? ⟨w.heap.size,1,none⟩=some (.int .i64 x)/\w'.cell? ⟨w.heap.size+1,0,none⟩=some (.string ⟨u.toArray⟩)/\w'.cell? ⟨w.heap.size+1,1,none⟩=some (.int .i64 y)/\w'.cell? ⟨w.heap.size+1+1,0,none⟩=some (valAt w' (w.heap.size+2) 0)/\w'.cell? ⟨w.heap.size+1+1,1,none⟩=some (valAt w' (w.heap.size+2) 1)/\w'.cell? ⟨w.heap.size+1+1,2,none⟩=some (valAt w' (w.heap.size+2) 2)/\w'.cell? ⟨w.heap.size+1+1,3,none⟩=some (valAt w' (w.heap.size+2) 3)/\w'.frozen? ⟨w.heap.size+1+1,0,none⟩=false/\w'.frozen? ⟨w.heap.size+1+1,1,none⟩=false/\w'.frozen? ⟨w.heap.size+1+1,2,none⟩=false/\w'.frozen? ⟨w.heap.size+1+1,3,none⟩=false/\SpBlk w' (w.heap.size+2)/\w.heap.size+2<w'.heap.size/\Below w.heap.size w w')) (by kernel_rfl) ?_ (fun hHeld=>?_)
  ·exact bl (Below.refl _ _).drew HK.out
  refine mvG (by assumption) 0 ?_
  (try simp only[Act.put,List.getElem_toArray,List.getElem_cons_zero,List.setIfInBounds_toArray,List.set_cons_zero,List.set_cons_succ])
  refine mvG (by assumption) 1 ?_
  (try simp only[Act.put,actS])
  refine mvG (by assumption) 3 ?_
  (try simp only[Act.put,actS])
  refine mvG (by assumption) 4 ?_
  (try simp only[Act.put,actS])
  refine mvG (by assumption) 6 ?_
  (try simp only[Act.put,actS])
  refine mvG (by assumption) 7 ?_
  (try simp only[Act.put,actS])
  refine mvG (by assumption) 8 ?_
  (try simp only[Act.put,actS])
  refine mvG (by assumption) 14 ?_
  (try simp only[Act.put,actS])
  refine mvG (by assumption) 15 ?_
  (try simp only[Act.put,actS])
  refine mvG (by assumption) 16 ?_
  (try simp only[Act.put,actS])
  refine wpAnyH_ready (rs:=[2]) (by kernel_rfl) (by simp) ?_
  refine AllReadyH.cons rfl (fun K hK=>?_) AllReadyH.nil
  go_simp
  (refine (aQ v _ HV.out).mono ?_;rintro _ w1 ⟨rfl,hb⟩)
  refine hK.out _ _ ?_ (fun hHeld=>?_)
  ·exact bl hb (by assumption)
  clear hK K
  (try simp only[Act.put,actS])
  refine wpAnyH_ready (rs:=[5]) (by kernel_rfl) (by simp) ?_
  refine AllReadyH.cons rfl (fun K hK=>?_) AllReadyH.nil
  go_simp
  (refine (aQ u _ HU.out).mono ?_;rintro _ w1 ⟨rfl,hb⟩)
  refine hK.out _ _ ?_ (fun hHeld=>?_)
  ·exact bl hb (by assumption)
  clear hK K
  (try simp only[Act.put,actS])
  refine mvG (by assumption) 9 ?_
  (try simp only[Act.put,actS])
  refine mwG (by assumption) 10 ?_
  (try simp only[Act.put,actS])
  refine mwG (by assumption) 11 ?_
  (try simp only[Act.put,actS])
  refine mwG (by assumption) 12 ?_
  (try simp only[Act.put,actS])
  refine mvG (by assumption) 13 ?_
  (try simp only[Act.put,actS])
  refine mvG (by assumption) 17 ?_
  (try simp only[Act.put,actS])
  refine mvG (by assumption) 18 ?_
  (try simp only[Act.put,actS])
  refine mvG (by assumption) 19 ?_
  (try simp only[Act.put,actS])
  refine mvG (by assumption) 20 ?_
  (try simp only[Act.put,actS])
  refine mvG (by assumption) 21 ?_
  (try simp only[Act.put,actS])
  refine mvG (by assumption) 22 ?_
  (try simp only[Act.put,actS])
  have ab:Hid (SpK w v x u y w1):=hHeld
  refine wpAnyH_ready (rs:=[23]) (by kernel_rfl) (by simp) ?_
  refine AllReadyH.cons rfl (fun K hK=>?_) AllReadyH.nil
  go_simp
  refine hK.out _ _ ?_ (fun hHeld=>?_)
  ·exact cU v u false q ab.out
  clear hK K
  (try simp only[Act.put,actS])
  refine wpAnyH_done (by kernel_rfl) ?_ _
  have hB:SpBlk w1 (w.heap.size+2):=ab.out.2.2.2.2.2.2.2.2.2.2.2.2.1
  have aa:Below w.heap.size w (stS w1 (w.heap.size+2) v u false q):=(cU v u false q ab.out).2.2.2.2.2.2.2.2.2.2.2.2.2.2
  have hf:=fE hB v u false q
  show Exit.then _ _ Exit.normal _ (stS w1 (w.heap.size+2) v u false q)
  clear hHeld
  generalize stS w1 (w.heap.size+2) v u false q=Wf at *
  have r0:Wf.cell? ⟨w.heap.size+1+1,0,none⟩=some (.string ⟨v.toArray⟩):=by show Wf.cell? ⟨w.heap.size+2,0,none⟩=_;simp[World.cell?,hf]
  have r1:Wf.cell? ⟨w.heap.size+1+1,1,none⟩=some (.string ⟨u.toArray⟩):=by show Wf.cell? ⟨w.heap.size+2,1,none⟩=_;simp[World.cell?,hf]
  have r2:Wf.cell? ⟨w.heap.size+1+1,2,none⟩=some (.bool false):=by show Wf.cell? ⟨w.heap.size+2,2,none⟩=_;simp[World.cell?,hf]
  have r3:Wf.cell? ⟨w.heap.size+1+1,3,none⟩=some (.bool q):=by show Wf.cell? ⟨w.heap.size+2,3,none⟩=_;simp[World.cell?,hf]
  have HB:=zh aa
  clear hf hB aa ab
  go_wp2_with fail
  exact bodyPost_ret (v:=.agg #[.string ⟨v.toArray⟩,.string ⟨u.toArray⟩,.bool false,.bool q]) (by simp[results,Tryz.results333,go_sem,r0,r1,r2,r3]) rfl ⟨rfl,HB.out⟩
 ·obtain rfl:p=false:=hp.symm
  obtain rfl:q=false:=hq.symm
  clear hp hq
  go_enter Tryz.func333,Tryz.ntmps333
  go_wp2_with fail
  clear hW
  refine wp_region_held_drew (S:=(fun w'=>w'.cell? ⟨w.heap.size,0,none⟩=some (.string ⟨v.toArray⟩)/\w'.cell? ⟨w.heap.size,1,none⟩=some (.int .i64 x)/\w'.cell? ⟨w.heap.size+1,0,none⟩=some (.string ⟨u.toArray⟩)/\w'.cell? ⟨w.heap.size+1,1,none⟩=some (.int .i64 y)/\w'.cell? ⟨w.heap.size+1+1,0,none⟩=some (valAt w' (w.heap.size+2) 0)/\w'.cell? ⟨w.heap.size+1+1,1,none⟩=some (valAt w' (w.heap.size+2) 1)/\w'.cell? ⟨w.heap.size+1+1,2,none⟩=some (valAt w' (w.heap.size+2) 2)/\w'.cell? ⟨w.heap.size+1+1,3,none⟩=some (valAt w' (w.heap.size+2) 3)/\w'.frozen? ⟨w.heap.size+1+1,0,none⟩=false/\w'.frozen? ⟨w.heap.size+1+1,1,none⟩=false/\w'.frozen? ⟨w.heap.size+1+1,2,none⟩=false/\w'.frozen? ⟨w.heap.size+1+1,3,none⟩=false/\SpBlk w' (w.heap.size+2)/\w.heap.size+2<w'.heap.size/\Below w.heap.size w w')) (by kernel_rfl) ?_ (fun hHeld=>?_)
  ·exact bl (Below.refl _ _).drew HK.out
  refine mvG (by assumption) 0 ?_
  (try simp only[Act.put,List.getElem_toArray,List.getElem_cons_zero,List.setIfInBounds_toArray,List.set_cons_zero,List.set_cons_succ])
  refine mvG (by assumption) 1 ?_
  (try simp only[Act.put,actS])
  refine mvG (by assumption) 3 ?_
  (try simp only[Act.put,actS])
  refine mvG (by assumption) 4 ?_
  (try simp only[Act.put,actS])
  refine mvG (by assumption) 6 ?_
  (try simp only[Act.put,actS])
  refine mvG (by assumption) 7 ?_
  (try simp only[Act.put,actS])
  refine mvG (by assumption) 8 ?_
  (try simp only[Act.put,actS])
  refine mvG (by assumption) 14 ?_
  (try simp only[Act.put,actS])
  refine mvG (by assumption) 15 ?_
  (try simp only[Act.put,actS])
  refine mvG (by assumption) 16 ?_
  (try simp only[Act.put,actS])
  refine wpAnyH_ready (rs:=[2]) (by kernel_rfl) (by simp) ?_
  refine AllReadyH.cons rfl (fun K hK=>?_) AllReadyH.nil
  go_simp
  (refine (aQ v _ HV.out).mono ?_;rintro _ w1 ⟨rfl,hb⟩)
  refine hK.out _ _ ?_ (fun hHeld=>?_)
  ·exact bl hb (by assumption)
  clear hK K
  (try simp only[Act.put,actS])
  refine wpAnyH_ready (rs:=[5]) (by kernel_rfl) (by simp) ?_
  refine AllReadyH.cons rfl (fun K hK=>?_) AllReadyH.nil
  go_simp
  (refine (aQ u _ HU.out).mono ?_;rintro _ w1 ⟨rfl,hb⟩)
  refine hK.out _ _ ?_ (fun hHeld=>?_)
  ·exact bl hb (by assumption)
  clear hK K
  (try simp only[Act.put,actS])
  refine mvG (by assumption) 9 ?_
  (try simp only[Act.put,actS])
  refine mwG (by assumption) 10 ?_
  (try simp only[Act.put,actS])
  refine mwG (by assumption) 11 ?_
  (try simp only[Act.put,actS])
  refine mwG (by assumption) 12 ?_
  (try simp only[Act.put,actS])
  refine mvG (by assumption) 13 ?_
  (try simp only[Act.put,actS])
  refine mvG (by assumption) 17 ?_
  (try simp only[Act.put,actS])
  refine mwG (by assumption) 18 ?_
  (try simp only[Act.put,actS])
  refine mwG (by assumption) 19 ?_
  (try simp only[Act.put,actS])
  refine mwG (by assumption) 20 ?_
  (try simp only[Act.put,actS])
  refine mvG (by assumption) 21 ?_
  (try simp only[Act.put,actS])
  refine mvG (by assumption) 22 ?_
  (try simp only[Act.put,actS])
  have ab:Hid (SpK w v x u y w1):=hHeld
  refine wpAnyH_ready (rs:=[23]) (by kernel_rfl) (by simp) ?_
  refine AllReadyH.cons rfl (fun K hK=>?_) AllReadyH.nil
  go_simp
  refine hK.out _ _ ?_ (fun hHeld=>?_)
  ·exact cU v u false false ab.out
  clear hK K
  (try simp only[Act.put,actS])
  refine wpAnyH_done (by kernel_rfl) ?_ _
  have hB:SpBlk w1 (w.heap.size+2):=ab.out.2.2.2.2.2.2.2.2.2.2.2.2.1
  have aa:Below w.heap.size w (stS w1 (w.heap.size+2) v u false false):=(cU v u false false ab.out).2.2.2.2.2.2.2.2.2.2.2.2.2.2
  have hf:=fE hB v u false false
  show Exit.then _ _ Exit.normal _ (stS w1 (w.heap.size+2) v u false false)
  clear hHeld
  generalize stS w1 (w.heap.size+2) v u false false=Wf at *
  have r0:Wf.cell? ⟨w.heap.size+1+1,0,none⟩=some (.string ⟨v.toArray⟩):=by show Wf.cell? ⟨w.heap.size+2,0,none⟩=_;simp[World.cell?,hf]
  have r1:Wf.cell? ⟨w.heap.size+1+1,1,none⟩=some (.string ⟨u.toArray⟩):=by show Wf.cell? ⟨w.heap.size+2,1,none⟩=_;simp[World.cell?,hf]
  have r2:Wf.cell? ⟨w.heap.size+1+1,2,none⟩=some (.bool false):=by show Wf.cell? ⟨w.heap.size+2,2,none⟩=_;simp[World.cell?,hf]
  have r3:Wf.cell? ⟨w.heap.size+1+1,3,none⟩=some (.bool false):=by show Wf.cell? ⟨w.heap.size+2,3,none⟩=_;simp[World.cell?,hf]
  have HB:=zh aa
  clear hf hB aa ab
  go_wp2_with fail
  exact bodyPost_ret (v:=.agg #[.string ⟨v.toArray⟩,.string ⟨u.toArray⟩,.bool false,.bool false]) (by simp[results,Tryz.results333,go_sem,r0,r1,r2,r3]) rfl ⟨rfl,HB.out⟩
end
section
open Go.RowKit
attribute [local go_sem ↓] Go.wp_at_zero Go.wp_at_succ
theorem i7 {p:Rm.P Rs.Cut}(h:Rs.Ok2 p):(!(Rs.txt p.lo).isEmpty&&sideI p.lo == -1)=Rs.loI p.lo/\(!(Rs.txt p.hi).isEmpty&&sideI p.hi==1)=Rs.aft p.hi:=by
 obtain⟨lo,hi⟩:=p
 obtain⟨h1,h2⟩:=h
 constructor
 ·cases lo with
  | bot=>rfl
  | top=>exact h1.elim
  | pos v a=>show (!v.isEmpty&&(if a then (1:Int) else -1) == -1) = !a;rw[Rs.az h1];cases a <;> rfl
 ·cases hi with
  | bot=>exact h2.elim
  | top=>rfl
  | pos v a=>show (!v.isEmpty&&(if a then (1:Int) else -1)==1)=a;rw[Rs.az h2];cases a <;> rfl
theorem aai {v:List UInt8}(h:Rs.Own v):v.length<=40:=(Vm.cx h.1).1
theorem uB {c:Rs.Cut}(h:Rs.LoOk c\/Rs.HiOk c):(Rs.txt c).length<=281474976710656:=by
 cases c with
 | bot=>simp[Rs.txt]
 | top=>simp[Rs.txt]
 | pos v a =>
  have:Rs.Own v:=by rcases h with h | h <;> exact h
  have:=aai this
  show v.length<=_;omega
theorem rI:∀ (rs:List (Rm.P Rs.Cut)) (k:Nat) (h:k<rs.length),(Rm.cuts rs)[k*2]?=some rs[k].lo/\(Rm.cuts rs)[k*2+1]?=some rs[k].hi
 | [],k,h=>absurd h (by simp)
 | p :: rs,0,_=>⟨rfl,rfl⟩
 | p :: rs,k+1,h=>by
  have:=rI rs k (by simpa using h)
  rw[Rm.dD,show (k+1)*2=k*2+1+1 from by omega]
  exact this
def RangeRet (w:World) (l:List Rs.Sp) (e:Ending) (w':World):Prop:=∃ v,e=.returned v/\POwn w' w.heap.size v l/\Below w.heap.size w w'
theorem sS (rs:List (Rm.P Rs.Cut))(k:Nat)(h:k<rs.length):(rs.take (k+1)).map Rs.spOf=(rs.take k).map Rs.spOf++[Rs.spOf rs[k]]:=by
 rw[List.take_succ_eq_append_getElem h,List.map_append];rfl
theorem newsS (w:World)(s:Rs.Sp)(T:TypeId):∀ j u,(Rg.flat Rs.spC [s])[j]?=some u->(w.alloc (.cells #[.string ⟨s.lo.toArray⟩,.string ⟨s.hi.toArray⟩,.bool s.li,.bool s.hn] T)).cell? ((⟨w.heap.size,0,none⟩:Addr).add j)=some u :=
 Rg.aw w T _ _ (by rfl)
theorem qG (p:Rm.P Rs.Cut)(w:World)(h:Rs.Ok2 p) :
  Calls Tryz.prog 333 #[.agg #[.string ⟨(Rs.txt p.lo).toArray⟩,.int .i64 (sideI p.lo)],.agg #[.string ⟨(Rs.txt p.hi).toArray⟩,.int .i64 (sideI p.hi)]] w fun e w'=>e=.returned (.agg #[.string ⟨(Rs.spOf p).lo.toArray⟩,.string ⟨(Rs.spOf p).hi.toArray⟩,.bool (Rs.spOf p).li,.bool (Rs.spOf p).hn])/\Below w.heap.size w w':=by
 have:=sR (Rs.txt p.lo) (sideI p.lo) (Rs.txt p.hi) (sideI p.hi) w (uB (Or.inl h.1)) (uB (Or.inr h.2))
 rw[(i7 h).1,(i7 h).2] at this
 exact this
theorem qH (A:Option Addr)(n c:Nat)(rs:List (Rm.P Rs.Cut))(w:World)(hn:(Rm.cuts rs).length=n)(hr:CRow w A (Rm.cuts rs))(ho:∀ p∈rs,Rs.Ok2 p)(hl:rs.length<=1000) :
  Calls Tryz.prog 321 #[.slice A n c] w (RangeRet w ((rs.take 64).map Rs.spOf)):=by
 have HR:=zh hr
 have HO:=zh ho
 have n1:n<=rs.length*2:=by rw[<-hn,Rm.ct];exact Nat.le_refl _
 have n2:rs.length*2<=n:=by rw[<-hn,Rm.ct];exact Nat.le_refl _
 obtain⟨R,hR⟩:=ex ((rs.take 64).map Rs.spOf)
 rw[hR]
 have ai:=zh hR
 clear hr ho hn hR
 go_enter Tryz.func321,Tryz.ntmps321
 go_wp2_with fail
 go_loopw [3,4] (fun v i wr=>∃ k j:Nat,k<=rs.length/\k<=64/\j<=k*2/\k*2<=j/\i=.int .i64 j/\Hid (POwn wr w.heap.size v ((rs.take k).map Rs.spOf))/\Hid (Below w.heap.size w wr/\w.heap.size<=wr.heap.size)) (fun _ i _=>n-(intOf i).toNat)
 case atStart=>exact⟨0,0,Nat.zero_le _,Nat.zero_le _,Nat.le_refl _,Nat.le_refl _,rfl,Rg.an _ _ _,Below.refl _ _,Nat.le_refl _⟩
 case round =>
  obtain⟨k,j,hk,az,j1,j2,rfl,HP,HB⟩:=hrel
  obtain⟨C,cc,hv,_,_,_⟩:=Rg.au fitsS HP.out
  rw[show ((rs.take k).map Rs.spOf).length=k from by rw[List.length_map,List.length_take];omega] at hv
  subst hv
  by_cases ab:k<rs.length
  ·by_cases ap:k<64
   ·have ac:=rI rs k ab
    have aj:j<(Rm.cuts rs).length:=by rw[Rm.ct];omega
    have aa:j+1<(Rm.cuts rs).length:=by rw[Rm.ct];omega
    have ae:j=k*2:=by omega
    obtain⟨ad,x,rfl,hx,aA,af⟩:=Rg.bz (Rg.ag HR.out HB.out.1) j aj
    obtain⟨aB,y,al,hy,_,ah⟩:=Rg.bz (Rg.ag HR.out HB.out.1) (j+1) aa
    obtain rfl:=Option.some.inj al
    have ex:x=rs[k].lo:=by
     have:=ac.1;rw[<-ae,List.getElem?_eq_getElem aj,hx] at this;exact Option.some.inj this
    have ey:y=rs[k].hi:=by
     have:=ac.2;rw[<-ae,List.getElem?_eq_getElem aa,hy] at this;exact Option.some.inj this
    rw[ex] at af
    rw[ey] at ah
    have ak:=HO.out _ (List.getElem_mem ab)
    have HT:=zh (sS rs k ab)
    generalize rs[k]=p at *
    obtain⟨c0,c1⟩:=cutAt af
    obtain⟨d0,d1⟩:=cutAt ah
    clear ac hx hy ex ey af ah al ae
    have HK:=zh ak
    clear ak
    have aq:Stable (fun u=>True/\POwn u w.heap.size (.slice C k cc) ((rs.take k).map Rs.spOf)):=gh (fun _ _ _ _=>trivial) (fun _ _ h hb=>Rg.own_below h hb)
    have HI:Hid (Kp (fun u=>True/\POwn u w.heap.size (.slice C k cc) ((rs.take k).map Rs.spOf)) wr wr.drew):=⟨⟨trivial,Rg.own_below HP.out (Below.refl _ _).drew⟩,Nat.le_refl _,(Below.refl _ _).drew⟩
    have ar:((rs.take k).map Rs.spOf).length+1<=1000000:=by rw[List.length_map,List.length_take];omega
    have s1:IntKind.i64.wrap ((j:Int)+1)=(j:Int)+1:=IntWalk.i64_in _ (by omega)
    have s2:(0:Int)<=(j:Int)+1:=by omega
    have s3:((j:Int)+1).toNat=j+1:=by omega
    have s4:(j:Int)+1<(n:Int):=by omega
    have s5:(j:Int)<(n:Int):=by omega
    have s6:(0:Int)<=(j:Int):=by omega
    go_wp2_with fail
    go_region_law (first
     | (go_simp;go_at_call 333;refine (qG p _ HK.out).mono ?_;rintro _ w4 ⟨rfl,hb⟩;have ay:=b9 aq hb (by assumption);clear hb)
     | (refine Rg.bT sliceS (by rfl) (.tmp 16) (.tmp 27) (by rfl) w.heap.size (.slice C k cc) ((rs.take k).map Rs.spOf) [Rs.spOf p] (by rfl) (lG (by assumption)) _ _ (by rfl) (newsS _ _ _) (Nat.zero_lt_succ _) ar (jv (by assumption) HB.out.2) ?_;intro v5 W5 am ao ax;have av:=oE HB (by assumption) ao))
    all_goals
     have aw:Hid (POwn W5 w.heap.size v5 ((rs.take (k+1)).map Rs.spOf)):=by show POwn _ _ _ _;rw[HT.out];exact am
     clear am ao ax s1 s3
     go_wp2_with fail
     go_roundw
     case rel=>exact⟨k+1,j+2,by omega,by omega,by omega,by omega,by go_num,aw,av⟩
     case measure=>simp[intOf];omega
   ·obtain rfl:k=64:=by omega
    have s4:(j:Int)<(n:Int):=by omega
    have HF:Hid (POwn wr w.heap.size (.slice C 64 cc) R):=by show POwn _ _ _ _;rw[<-ai.out];exact HP.out
    go_wp2_with fail
    go_ret
    exact⟨_,rfl,HF.out,HB.out.1⟩
  ·have s4:¬ (j:Int)<(n:Int):=by omega
   have HF:Hid (POwn wr w.heap.size (.slice C k cc) R):=by
    show POwn _ _ _ _
    have:=HP.out
    rw[<-ai.out]
    rw[List.take_of_length_le (by omega)] at this ⊢
    exact this
   clear HP
   go_wp2_with fail
   go_ret
   exact⟨.slice C k cc,rfl,HF.out,HB.out.1⟩
end
section
open Go.RowKit Rs
attribute [local go_sem ↓] Go.wp_at_zero Go.wp_at_succ
theorem ib {r:List (Rm.P Cut)}(h:Rs.Good r):cutsS (r.map spOf)=Rm.cuts r/\(∀ c∈Rm.cuts r,CutG c):=by
 constructor
 ·rw[sN,List.map_map]
  congr 1
  conv=>rhs;rw[<-List.map_id r]
  exact List.map_congr_left fun p hp=>j5 (h.2.1 p hp)
 ·intro c hc
  obtain⟨p,hp,hm⟩:=List.mem_flatMap.1 hc
  have:=h.2.1 p hp
  simp only[List.mem_cons,List.not_mem_nil,or_false] at hm
  rcases hm with rfl | rfl
  ·exact lE this.1
  ·exact lF this.2
theorem oH {w:World}{C:Option Addr}{l:List Sp}(h:SRow w C l){b j:Nat}(v:Value)(hb:∀ a,C=some a->a.block≠b):SRow (w.setCell ⟨b,j,none⟩ v) C l:=fun h0=>by
 obtain⟨a,e,hl,hc⟩:=h h0
 have hne:=hb a e
 have far:∀ p:Addr,p.block=a.block->(w.setCell ⟨b,j,none⟩ v).cell? p=w.cell? p:=fun p hp=>World.cell?_setCell_far w ⟨b,j,none⟩ p v (fun e=>hne (by rw[<-hp,<-e]))
 refine⟨a,e,by simpa using hl,fun i hi=>?_⟩
 obtain⟨s0,s1,s2,s3⟩:=hc i hi
 refine⟨?_,?_,?_,?_⟩
 ·rw[far _ (by rw[add_block,add_block])];exact s0
 ·rw[far _ (by rw[add_block,add_block])];exact s1
 ·rw[far _ (by rw[add_block,add_block])];exact s2
 ·rw[far _ (by rw[add_block,add_block])];exact s3
def CutsOf (w':World) (r:List (Rm.P Cut)) (A:Option Addr) (c:Nat):Prop:=CRow w' A (Rm.cuts r)/\(Rm.cuts r).length<=c/\c<=maxLen
theorem eS (A:Option Addr)(n c:Nat)(r:List (Rm.P Cut))(w:World)(hn:(r.map spOf).length=n)(hr:SRow w A (r.map spOf))(hg:Rs.Good r) :
  Calls Tryz.prog 323 #[.slice A n c] w fun e w'=>(∃ B d,e=.returned (.slice B (Rm.cuts r).length d)/\CutsOf w' r B d)/\Below w.heap.size w w':=by
 subst hn
 refine (sO A c _ w hr (by rw[List.length_map];have:=hg.2.2;omega)).mono ?_
 rintro e w' ⟨v,rfl,ho,hb⟩
 rw[(ib hg).1] at ho
 obtain⟨B,d,rfl,h1,h2,h3⟩:=Rg.au fitsC ho
 exact⟨⟨B,d,rfl,h1,h2,h3⟩,hb⟩
theorem ic {w w':World}{r:List (Rm.P Cut)}{A:Option Addr}{c:Nat}(h:CutsOf w r A c)(hb:Below w.heap.size w w'):CutsOf w' r A c:=⟨Rg.ag h.1 hb,h.2⟩
theorem ie (f:FuncId)(op:Bool->Bool->Bool)(hop:∀ x y W,Calls Tryz.prog f #[.bool x,.bool y] W fun e w'=>e=.returned (.bool (op x y))/\W=w')(hcf:∀ (args:Array Value) (W:World),(callFunc f args).run Tryz.prog W=.ok (.enter f args) W)(h0:op false false=false)
  (A B:Option Addr) (ca cb:Nat) (a b r:List (Rm.P Cut)) (w:World) (hw:MaxOk w) (ha:CutsOf w a A ca) (hb:CutsOf w b B cb) (ga:Rs.Good a) (gb:Rs.Good b) (hr:Rm.comb Ln op (Rm.cuts a) (Rm.cuts b) false false=Rm.cuts r) :
  Calls Tryz.prog 322 #[.slice A (Rm.cuts a).length ca,.slice B (Rm.cuts b).length cb,.func (.func f) #[] #[]] w fun e w'=>(∃ C d,e=.returned (.slice C (Rm.cuts r).length d)/\CutsOf w' r C d)/\Below w.heap.size w w':=by
 have la:(Rm.cuts a).length<=10000:=by rw[Rm.ct];have:=ga.2.2;omega
 have lb:(Rm.cuts b).length<=10000:=by rw[Rm.ct];have:=gb.2.2;omega
 refine (qF f op hop hcf h0 A B ca cb _ _ w hw ha.1 hb.1 (ib ga).2 (ib gb).2 la lb ha.2.1 hb.2.1 ha.2.2 hb.2.2).mono ?_
 rintro e w' ⟨v,rfl,ho,aa⟩
 rw[hr] at ho
 obtain⟨C,d,rfl,h1,h2,h3⟩:=Rg.au fitsC ho
 exact⟨⟨C,d,rfl,h1,h2,h3⟩,aa⟩
def SpansRet (w:World) (l:List Sp) (e:Ending) (w':World):Prop:=(∃ C d,e=.returned (.slice C l.length d)/\SRow w' C l/\l.length<=d/\∀ a,C=some a->w.heap.size<=a.block)/\Below w.heap.size w w'
theorem y8 {w:World}{B:Nat}{v:Value}{l:List Sp}(h:POwn w B v l):∃ C d,v=.slice C l.length d/\SRow w C l/\l.length<=d/\∀ a,C=some a->B<=a.block:=by
 obtain⟨C,d,hv,hr⟩:=wL (T:=145) h
 obtain⟨C2,d2,aa,_,h3,_⟩:=Rg.au fitsS h
 rw[hv] at aa
 cases aa
 exact⟨C,d,hv,hr,h3,fun a ha=>by subst ha;exact (Rg.aT h a.block (by rw[hv];rfl)).1⟩
theorem gi (A:Option Addr)(c:Nat)(r:List (Rm.P Cut))(w:World)(hr:CutsOf w r A c)(ho:∀ p∈r,Ok2 p)(hl:r.length<=1000)(R:List Sp)(hR:(r.take 64).map spOf=R) :
  Calls Tryz.prog 321 #[.slice A (Rm.cuts r).length c] w (SpansRet w R):=by
 subst hR
 refine (qH A _ c r w rfl hr.1 ho hl).mono ?_
 rintro e w' ⟨v,rfl,hp,hb⟩
 obtain⟨C,d,rfl,h1,h2⟩:=y8 hp
 exact⟨⟨C,d,rfl,h1,h2⟩,hb⟩
theorem y9 (A B:Option Addr)(n m ca cb:Nat)(a b:List (Rm.P Cut))(w:World)(hw:MaxOk w)(hn:(a.map spOf).length=n)(hm:(b.map spOf).length=m)(ha:SRow w A (a.map spOf))(hb:SRow w B (b.map spOf))(ga:Rs.Good a)(gb:Rs.Good b) :
  Calls Tryz.prog 326 #[.slice A n ca,.slice B m cb] w (SpansRet w ((andR a b).map spOf)):=by
 have HM:=zh hw
 have HA:=zh ha
 have HB:=zh hb
 have HG:=zh ga
 have HH:=zh gb
 have HN:=zh hn
 have ai:=zh hm
 have hl:(Rm.andK Ln a b).length<=1000:=by have:=Rm.wo Ln a b;have:=ga.2.2;have:=gb.2.2;omega
 have HL:=zh hl
 clear hw ha hb ga gb hn hm hl
 obtain⟨R,hR⟩:=ex ((andR a b).map spOf)
 rw[hR]
 have HR:=zh hR
 clear hR
 go_enter Tryz.func326,Tryz.ntmps326
 go_wp2_with fail
 refine (eS A n ca a _ HN.out HA.out HG.out).mono ?_
 rintro _ w1 ⟨⟨C,d,rfl,hc⟩,af⟩
 have HC:=zh hc
 have ac:=zh af
 clear hc af
 go_wp2_with fail
 refine (eS B m cb b _ ai.out (aL HB.out ac.out) HH.out).mono ?_
 rintro _ w2 ⟨⟨D,f,rfl,hd⟩,aa⟩
 have HD:=zh hd
 have aj:=zh (ic HC.out aa)
 have ad:=zh (bt ac.out aa)
 clear hd aa
 go_wp2_with fail
 refine (ie 338 (fun x y=>x&&y) wU (fun _ _=>by kernel_rfl) rfl C D d f a b (Rm.andK Ln a b) _ (ab HM.out ad.out) aj.out HD.out HG.out HH.out (Rm.wz Ln HG.out.1 HH.out.1)).mono ?_
 rintro _ w3 ⟨⟨E,g,rfl,he⟩,ag⟩
 have HE:=zh he
 have ae:=zh (bt ad.out ag)
 clear he ag
 go_wp2_with fail
 refine (gi E g (Rm.andK Ln a b) _ HE.out (rD HG.out.2.1 HH.out.2.1) HL.out R HR.out).mono ?_
 rintro _ w4 ⟨⟨F,i,rfl,hf⟩,ah⟩
 have HF:=zh hf
 have ak:=zh (bt ae.out ah)
 clear hf ah
 go_wp2_with fail
 go_ret
 exact⟨⟨F,i,rfl,HF.out.1,HF.out.2.1,fun a ha=>Nat.le_trans ae.out.size (HF.out.2.2 a ha)⟩,ak.out⟩
theorem aaj (A B:Option Addr)(n m ca cb:Nat)(a b:List (Rm.P Cut))(w:World)(hw:MaxOk w)(hn:(a.map spOf).length=n)(hm:(b.map spOf).length=m)(ha:SRow w A (a.map spOf))(hb:SRow w B (b.map spOf))(ga:Rs.Good a)(gb:Rs.Good b) :
  Calls Tryz.prog 311 #[.slice A n ca,.slice B m cb] w (SpansRet w ((orR a b).map spOf)):=by
 have HM:=zh hw
 have HA:=zh ha
 have HB:=zh hb
 have HG:=zh ga
 have HH:=zh gb
 have HN:=zh hn
 have ai:=zh hm
 have hl:(Rm.orK Ln a b).length<=1000:=by have:=lenO ga.1 gb.1;have:=ga.2.2;have:=gb.2.2;omega
 have HL:=zh hl
 clear hw ha hb ga gb hn hm hl
 obtain⟨R,hR⟩:=ex ((orR a b).map spOf)
 rw[hR]
 have HR:=zh hR
 clear hR
 go_enter Tryz.func311,Tryz.ntmps311
 go_wp2_with fail
 refine (eS A n ca a _ HN.out HA.out HG.out).mono ?_
 rintro _ w1 ⟨⟨C,d,rfl,hc⟩,af⟩
 have HC:=zh hc
 have ac:=zh af
 clear hc af
 go_wp2_with fail
 refine (eS B m cb b _ ai.out (aL HB.out ac.out) HH.out).mono ?_
 rintro _ w2 ⟨⟨D,f,rfl,hd⟩,aa⟩
 have HD:=zh hd
 have aj:=zh (ic HC.out aa)
 have ad:=zh (bt ac.out aa)
 clear hd aa
 go_wp2_with fail
 refine (ie 324 (fun x y=>x||y) sL (fun _ _=>by kernel_rfl) rfl C D d f a b (Rm.orK Ln a b) _ (ab HM.out ad.out) aj.out HD.out HG.out HH.out (Rm.yQ Ln HG.out.1 HH.out.1)).mono ?_
 rintro _ w3 ⟨⟨E,g,rfl,he⟩,ag⟩
 have HE:=zh he
 have ae:=zh (bt ad.out ag)
 clear he ag
 go_wp2_with fail
 refine (gi E g (Rm.orK Ln a b) _ HE.out (t9 HG.out.2.1 HH.out.2.1) HL.out R HR.out).mono ?_
 rintro _ w4 ⟨⟨F,i,rfl,hf⟩,ah⟩
 have HF:=zh hf
 have ak:=zh (bt ae.out ah)
 clear hf ah
 go_wp2_with fail
 go_ret
 exact⟨⟨F,i,rfl,HF.out.1,HF.out.2.1,fun a ha=>Nat.le_trans ae.out.size (HF.out.2.2 a ha)⟩,ak.out⟩
theorem rJ (w:World):Calls Tryz.prog 136 #[] w (SpansRet w (allR.map spOf)):=by
 go_enter Tryz.func136,Tryz.ntmps136
 go_wp2_with fail
 go_ret
 refine⟨⟨some ⟨w.heap.size,0,none⟩,1,rfl,fun _=>⟨_,rfl,by simp,fun i hi=>?_⟩,Nat.le_refl _,fun a ha=>by cases ha;exact Nat.le_refl _⟩,(Below.refl _ _).alloc (Nat.le_refl _) _⟩
 have aa:i<1:=hi
 obtain rfl:i=0:=by omega
 have e:∀ j,((⟨w.heap.size,0,none⟩:Addr).add (0*4)).add j=⟨w.heap.size,j,none⟩:=fun j=>by
  rw[Nat.zero_mul,Rg.add_zero];unfold Addr.add;split <;> simp_all
 refine⟨?_,?_,?_,?_⟩ <;> (rw[e,World.cell?_alloc_mark];rfl)
end
end Go.Proofs.YtgnaiidgjmicaaaGreatDoor

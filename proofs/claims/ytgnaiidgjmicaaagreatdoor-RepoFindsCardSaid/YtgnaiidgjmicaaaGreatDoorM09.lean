/- Part 9 of what the laws lean on. -/
import Derived.Test.YtgnaiidgjmicaaaGreatDoorM08
set_option maxRecDepth 100000
set_option maxHeartbeats 3200000
namespace Go.Proofs.YtgnaiidgjmicaaaGreatDoor
section
open Go.RowKit
attribute [local go_sem ↓] Go.wp_at_zero Go.wp_at_succ
section
variable {P:Program} {ops:Array Oper} {md:Region.Mode} {Q:Exit->Act->World->Prop} {S:World->Prop} {fuel:Nat} {listed:Array Bool} {a:Act} {w:World}
theorem mvG (hS:S w)(i:Nat){oi:Oper}{v:Value}(h:wpAnyH P md ops Q S fuel (listed.setIfInBounds i true) (a.put oi.dst v) w)
  (hi:ops[i]?=some oi:=by rfl) (hs:Region.noSelect ops=true:=by kernel_rfl) (hf:Region.free md ops listed i=true:=by kernel_rfl) (hr:(Region.ready md ops listed).contains i=true:=by kernel_rfl) (hQ:∀ c a w,Q (.panic c) (a.put oi.dst v) w->Q (.panic c) a w:=by exact fun _ _ _ h=>h) (hw:Region.wanted oi (yielded ops a.tmps)=true:=by rfl)
  (hy:∀ w,S w->(execOp a.eval oi).run P w=.ok (.value v) w:=by (intro w aa;(try dsimp only at aa);go_simp;(try with_reducible rfl))):wpAnyH P md ops Q S (fuel+1) listed a w:=wpAnyH_take hi hs hf hr hQ (Or.inl ⟨hw,hy⟩) hS h
theorem mwG (hS:S w)(i:Nat){oi:Oper}(h:wpAnyH P md ops Q S fuel (listed.setIfInBounds i true) (a.put oi.dst undef) w)
  (hi:ops[i]?=some oi:=by rfl) (hs:Region.noSelect ops=true:=by kernel_rfl) (hf:Region.free md ops listed i=true:=by kernel_rfl) (hr:(Region.ready md ops listed).contains i=true:=by kernel_rfl) (hQ:∀ c a w,Q (.panic c) (a.put oi.dst undef) w->Q (.panic c) a w:=by exact fun _ _ _ h=>h) (hw:Region.wanted oi (yielded ops a.tmps)=false:=by rfl):wpAnyH P md ops Q S (fuel+1) listed a w:=wpAnyH_take hi hs hf hr hQ (Or.inr ⟨hw,rfl⟩) hS h
end
def SpBlk (w:World) (b:Nat):Prop:=∃ x0 x1 x2 x3,w.heap[b]?=some (.cells #[x0,x1,x2,x3] 145 (0,0))
def stS (w:World) (b:Nat) (v u:List UInt8) (p q:Bool):World:=(((w.setCell ⟨b,0,none⟩ (.string ⟨v.toArray⟩)).setCell ⟨b,1,none⟩ (.string ⟨u.toArray⟩)).setCell ⟨b,2,none⟩ (.bool p)).setCell ⟨b,3,none⟩ (.bool q)
theorem i9 {w:World}{b:Nat}(h:SpBlk w b)(v u:List UInt8)(p q:Bool):(stS w b v u p q).heap[b]?=some (.cells #[.string ⟨v.toArray⟩,.string ⟨u.toArray⟩,.bool p,.bool q] 145 (0,0)):=by
 obtain⟨x0,x1,x2,x3,h⟩:=h
 simp[stS,World.setCell,Array.getElem?_modify,h]
def valAt (w:World) (b j:Nat):Value:=(w.cell? ⟨b,j,none⟩).getD undef
theorem acw {w:World}{b:Nat}(h:SpBlk w b):w.cell? ⟨b,0,none⟩=some (valAt w b 0)/\w.cell? ⟨b,1,none⟩=some (valAt w b 1)/\w.cell? ⟨b,2,none⟩=some (valAt w b 2)/\w.cell? ⟨b,3,none⟩=some (valAt w b 3) /\
  w.frozen? ⟨b,0,none⟩=false/\w.frozen? ⟨b,1,none⟩=false/\w.frozen? ⟨b,2,none⟩=false/\w.frozen? ⟨b,3,none⟩=false:=by
 obtain⟨x0,x1,x2,x3,h⟩:=h
 refine⟨?_,?_,?_,?_,?_,?_,?_,?_⟩ <;> simp[valAt,World.cell?,World.frozen?,h]
def SpK (w:World) (v:List UInt8) (x:Int) (u:List UInt8) (y:Int) (w':World):Prop :=
 w'.cell? ⟨w.heap.size,0,none⟩=some (.string ⟨v.toArray⟩)/\w'.cell? ⟨w.heap.size,1,none⟩=some (.int .i64 x)/\w'.cell? ⟨w.heap.size+1,0,none⟩=some (.string ⟨u.toArray⟩)/\w'.cell? ⟨w.heap.size+1,1,none⟩=some (.int .i64 y) /\
 w'.cell? ⟨w.heap.size+2,0,none⟩=some (valAt w' (w.heap.size+2) 0)/\w'.cell? ⟨w.heap.size+2,1,none⟩=some (valAt w' (w.heap.size+2) 1)/\w'.cell? ⟨w.heap.size+2,2,none⟩=some (valAt w' (w.heap.size+2) 2)/\w'.cell? ⟨w.heap.size+2,3,none⟩=some (valAt w' (w.heap.size+2) 3)/\w'.frozen? ⟨w.heap.size+2,0,none⟩=false/\w'.frozen? ⟨w.heap.size+2,1,none⟩=false/\w'.frozen? ⟨w.heap.size+2,2,none⟩=false/\w'.frozen? ⟨w.heap.size+2,3,none⟩=false/\SpBlk w' (w.heap.size+2)/\w.heap.size+2<w'.heap.size/\Below w.heap.size w w'
theorem tu {w w':World}{v u:List UInt8}{x y:Int}(h0:w'.cell? ⟨w.heap.size,0,none⟩=some (.string ⟨v.toArray⟩))(h1:w'.cell? ⟨w.heap.size,1,none⟩=some (.int .i64 x))(h2:w'.cell? ⟨w.heap.size+1,0,none⟩=some (.string ⟨u.toArray⟩))(h3:w'.cell? ⟨w.heap.size+1,1,none⟩=some (.int .i64 y))(hb:SpBlk w' (w.heap.size+2))(hs:w.heap.size+2<w'.heap.size)(hl:Below w.heap.size w w'):SpK w v x u y w' :=
 have ⟨a0,a1,a2,a3,b0,b1,b2,b3⟩:=acw hb
 ⟨h0,h1,h2,h3,a0,a1,a2,a3,b0,b1,b2,b3,hb,hs,hl⟩
theorem bS {w u1 u2:World}{v u:List UInt8}{x y:Int}(hb:Below u1.heap.size u1 u2)(h:SpK w v x u y u1):SpK w v x u y u2:=by
 obtain⟨h0,h1,h2,h3,_,_,_,_,_,_,_,_,⟨x0,x1,x2,x3,h5⟩,h6,h7⟩:=h
 refine tu ?_ ?_ ?_ ?_ ⟨x0,x1,x2,x3,(hb.block _ h6).trans h5⟩ (Nat.lt_of_lt_of_le h6 hb.size) (h7.trans (hb.mono (by omega)))
 ·rw[hb.cell (by simp;omega)];exact h0
 ·rw[hb.cell (by simp;omega)];exact h1
 ·rw[hb.cell (by simp;omega)];exact h2
 ·rw[hb.cell (by simp;omega)];exact h3
theorem eh {w u1:World}{v u:List UInt8}{x y:Int}(v' u':List UInt8)(p q:Bool)(h:SpK w v x u y u1):SpK w v x u y (stS u1 (w.heap.size+2) v' u' p q):=by
 obtain⟨h0,h1,h2,h3,_,_,_,_,_,_,_,_,h5,h6,h7⟩:=h
 have far:∀ a:Addr,a.block≠w.heap.size+2->(stS u1 (w.heap.size+2) v' u' p q).cell? a=u1.cell? a:=fun a ha=>by
  unfold stS
  have e:∀ (z:World) (j:Nat) (val:Value),(z.setCell ⟨w.heap.size+2,j,none⟩ val).cell? a=z.cell? a:=fun z j val=>World.cell?_setCell_far z ⟨w.heap.size+2,j,none⟩ a val (fun e=>ha e.symm)
  rw[e,e,e,e]
 refine tu ?_ ?_ ?_ ?_ ⟨_,_,_,_,i9 h5 v' u' p q⟩ (by simp[stS];exact h6) ((((h7.setCell (by simp) _).setCell (by simp) _).setCell (by simp) _).setCell (by simp) _)
 ·rw[far _ (by simp)];exact h0
 ·rw[far _ (by simp)];exact h1
 ·rw[far _ (by simp)];exact h2
 ·rw[far _ (by simp)];exact h3
theorem y8 (v:List UInt8)(x:Int)(u:List UInt8)(y:Int)(w:World)(hv:v.length<=281474976710656)(hu:u.length<=281474976710656) :
  Calls Tryz.prog 333 #[.agg #[.string ⟨v.toArray⟩,.int .i64 x],.agg #[.string ⟨u.toArray⟩,.int .i64 y]] w fun e w'=>e=.returned (.agg #[.string ⟨v.toArray⟩,.string ⟨u.toArray⟩,.bool (!v.isEmpty&&x == -1),.bool (!u.isEmpty&&y==1)])/\Below w.heap.size w w':=by
 obtain⟨p,hp⟩:=ex (!v.isEmpty&&x == -1)
 obtain⟨q,hq⟩:=ex (!u.isEmpty&&y==1)
 rw[hp,hq]
 have HV:=zh hv
 have HU:=zh hu
 obtain⟨W,hW⟩:=ex (((w.alloc (.cells #[.string ⟨v.toArray⟩,.int .i64 x] 221)).alloc (.cells #[.string ⟨u.toArray⟩,.int .i64 y] 221)).alloc (.cells #[.string ⟨#[]⟩,.string ⟨#[]⟩,.bool false,.bool false] 145))
 have hK:SpK w v x u y W:=by
  rw[<-hW]
  refine tu ?_ ?_ ?_ ?_ ⟨.string ⟨#[]⟩,.string ⟨#[]⟩,.bool false,.bool false,?_⟩ (by simp) ?_
  ·simp[go_sem]
  ·simp[go_sem]
  ·simp[go_sem]
  ·simp[go_sem]
  ·have:=heap_alloc_new ((w.alloc (.cells #[.string ⟨v.toArray⟩,.int .i64 x] 221)).alloc (.cells #[.string ⟨u.toArray⟩,.int .i64 y] 221)) (.cells #[.string ⟨#[]⟩,.string ⟨#[]⟩,.bool false,.bool false] 145)
   simpa using this
  ·exact (((Below.refl _ _).alloc (Nat.le_refl _) _).alloc (by simp) _).alloc (by simp;omega) _
 have HK:=zh hK
 clear hK hv hu
 cases ac:v.isEmpty <;> cases ad:u.isEmpty
 all_goals
  rw[ac] at hp
  rw[ad] at hq
 ·rw[Bool.not_false,Bool.true_and] at hp hq
  go_enter Tryz.func333,Tryz.ntmps333
  go_wp2_with fail
  clear hW
  refine wp_region_held_drew (S:=(fun w'=>w'.cell? ⟨w.heap.size,0,none⟩=some (.string ⟨v.toArray⟩)/\w'.cell? ⟨w.heap.size,1,none⟩=some (.int .i64 x)/\w'.cell? ⟨w.heap.size+1,0,none⟩=some (.string ⟨u.toArray⟩)/\w'.cell? ⟨w.heap.size+1,1,none⟩=some (.int .i64 y)/\w'.cell? ⟨w.heap.size+1+1,0,none⟩=some (valAt w' (w.heap.size+2) 0)/\w'.cell? ⟨w.heap.size+1+1,1,none⟩=some (valAt w' (w.heap.size+2) 1)/\w'.cell? ⟨w.heap.size+1+1,2,none⟩=some (valAt w' (w.heap.size+2) 2)/\w'.cell? ⟨w.heap.size+1+1,3,none⟩=some (valAt w' (w.heap.size+2) 3)/\w'.frozen? ⟨w.heap.size+1+1,0,none⟩=false/\w'.frozen? ⟨w.heap.size+1+1,1,none⟩=false/\w'.frozen? ⟨w.heap.size+1+1,2,none⟩=false/\w'.frozen? ⟨w.heap.size+1+1,3,none⟩=false/\SpBlk w' (w.heap.size+2)/\w.heap.size+2<w'.heap.size/\Below w.heap.size w w')) (by kernel_rfl) ?_ (fun hHeld=>?_)
  ·exact bS (Below.refl _ _).drew HK.out
  refine mvG (by assumption) 0 ?_
  (try simp only[Act.put,List.getElem_toArray,List.getElem_cons_zero,List.setIfInBounds_toArray,List.set_cons_zero,List.set_cons_succ])
  refine mvG (by assumption) 1 ?_
  (try simp only[Act.put,actS])
  refine mvG (by assumption) 3 ?_
  (try simp only[Act.put,actS])
  refine mvG (by assumption) 4 ?_
  (try simp only[Act.put,actS])
  refine mvG (by assumption) 6 ?_
  (try simp only[Act.put,actS])
  refine mvG (by assumption) 7 ?_
  (try simp only[Act.put,actS])
  refine mvG (by assumption) 8 ?_
  (try simp only[Act.put,actS])
  refine mvG (by assumption) 14 ?_
  (try simp only[Act.put,actS])
  refine mvG (by assumption) 15 ?_
  (try simp only[Act.put,actS])
  refine mvG (by assumption) 16 ?_
  (try simp only[Act.put,actS])
  refine wpAnyH_ready (rs:=[2]) (by kernel_rfl) (by simp) ?_
  refine AllReadyH.cons rfl (fun K hK=>?_) AllReadyH.nil
  go_simp
  (refine (a6 v _ HV.out).mono ?_;rintro _ w1 ⟨rfl,hb⟩)
  refine hK.out _ _ ?_ (fun hHeld=>?_)
  ·exact bS hb (by assumption)
  clear hK K
  (try simp only[Act.put,actS])
  refine wpAnyH_ready (rs:=[5]) (by kernel_rfl) (by simp) ?_
  refine AllReadyH.cons rfl (fun K hK=>?_) AllReadyH.nil
  go_simp
  (refine (a6 u _ HU.out).mono ?_;rintro _ w1 ⟨rfl,hb⟩)
  refine hK.out _ _ ?_ (fun hHeld=>?_)
  ·exact bS hb (by assumption)
  clear hK K
  (try simp only[Act.put,actS])
  refine mvG (by assumption) 9 ?_
  (try simp only[Act.put,actS])
  refine mvG (by assumption) 10 ?_
  (try simp only[Act.put,actS])
  refine mvG (by assumption) 11 ?_
  (try simp only[Act.put,actS])
  refine mvG (by assumption) 12 ?_
  (try simp only[Act.put,actS])
  refine mvG (by assumption) 13 ?_
  (try simp only[Act.put,actS])
  refine mvG (by assumption) 17 ?_
  (try simp only[Act.put,actS])
  refine mvG (by assumption) 18 ?_
  (try simp only[Act.put,actS])
  refine mvG (by assumption) 19 ?_
  (try simp only[Act.put,actS])
  refine mvG (by assumption) 20 ?_
  (try simp only[Act.put,actS])
  refine mvG (by assumption) 21 ?_
  (try simp only[Act.put,actS])
  refine mvG (by assumption) 22 ?_
  (try simp only[Act.put,actS])
  have ab:Hid (SpK w v x u y w1):=hHeld
  refine wpAnyH_ready (rs:=[23]) (by kernel_rfl) (by simp) ?_
  refine AllReadyH.cons rfl (fun K hK=>?_) AllReadyH.nil
  go_simp
  refine hK.out _ _ ?_ (fun hHeld=>?_)
  ·exact eh v u p q ab.out
  clear hK K
  (try simp only[Act.put,actS])
  refine wpAnyH_done (by kernel_rfl) ?_ _
  have hB:SpBlk w1 (w.heap.size+2):=ab.out.2.2.2.2.2.2.2.2.2.2.2.2.1
  have aa:Below w.heap.size w (stS w1 (w.heap.size+2) v u p q):=(eh v u p q ab.out).2.2.2.2.2.2.2.2.2.2.2.2.2.2
  have hf:=i9 hB v u p q
  show Exit.then _ _ Exit.normal _ (stS w1 (w.heap.size+2) v u p q)
  clear hHeld
  generalize stS w1 (w.heap.size+2) v u p q=Wf at *
  have r0:Wf.cell? ⟨w.heap.size+1+1,0,none⟩=some (.string ⟨v.toArray⟩):=by show Wf.cell? ⟨w.heap.size+2,0,none⟩=_;simp[World.cell?,hf]
  have r1:Wf.cell? ⟨w.heap.size+1+1,1,none⟩=some (.string ⟨u.toArray⟩):=by show Wf.cell? ⟨w.heap.size+2,1,none⟩=_;simp[World.cell?,hf]
  have r2:Wf.cell? ⟨w.heap.size+1+1,2,none⟩=some (.bool p):=by show Wf.cell? ⟨w.heap.size+2,2,none⟩=_;simp[World.cell?,hf]
  have r3:Wf.cell? ⟨w.heap.size+1+1,3,none⟩=some (.bool q):=by show Wf.cell? ⟨w.heap.size+2,3,none⟩=_;simp[World.cell?,hf]
  have HB:=zh aa
  clear hf hB aa ab
  go_wp2_with fail
  exact bodyPost_ret (v:=.agg #[.string ⟨v.toArray⟩,.string ⟨u.toArray⟩,.bool p,.bool q]) (by simp[results,Tryz.results333,go_sem,r0,r1,r2,r3]) rfl ⟨rfl,HB.out⟩
 ·rw[Bool.not_false,Bool.true_and] at hp
  obtain rfl:q=false:=hq.symm
  clear hq
  go_enter Tryz.func333,Tryz.ntmps333
  go_wp2_with fail
  clear hW
  refine wp_region_held_drew (S:=(fun w'=>w'.cell? ⟨w.heap.size,0,none⟩=some (.string ⟨v.toArray⟩)/\w'.cell? ⟨w.heap.size,1,none⟩=some (.int .i64 x)/\w'.cell? ⟨w.heap.size+1,0,none⟩=some (.string ⟨u.toArray⟩)/\w'.cell? ⟨w.heap.size+1,1,none⟩=some (.int .i64 y)/\w'.cell? ⟨w.heap.size+1+1,0,none⟩=some (valAt w' (w.heap.size+2) 0)/\w'.cell? ⟨w.heap.size+1+1,1,none⟩=some (valAt w' (w.heap.size+2) 1)/\w'.cell? ⟨w.heap.size+1+1,2,none⟩=some (valAt w' (w.heap.size+2) 2)/\w'.cell? ⟨w.heap.size+1+1,3,none⟩=some (valAt w' (w.heap.size+2) 3)/\w'.frozen? ⟨w.heap.size+1+1,0,none⟩=false/\w'.frozen? ⟨w.heap.size+1+1,1,none⟩=false/\w'.frozen? ⟨w.heap.size+1+1,2,none⟩=false/\w'.frozen? ⟨w.heap.size+1+1,3,none⟩=false/\SpBlk w' (w.heap.size+2)/\w.heap.size+2<w'.heap.size/\Below w.heap.size w w')) (by kernel_rfl) ?_ (fun hHeld=>?_)
  ·exact bS (Below.refl _ _).drew HK.out
  refine mvG (by assumption) 0 ?_
  (try simp only[Act.put,List.getElem_toArray,List.getElem_cons_zero,List.setIfInBounds_toArray,List.set_cons_zero,List.set_cons_succ])
  refine mvG (by assumption) 1 ?_
  (try simp only[Act.put,actS])
  refine mvG (by assumption) 3 ?_
  (try simp only[Act.put,actS])
  refine mvG (by assumption) 4 ?_
  (try simp only[Act.put,actS])
  refine mvG (by assumption) 6 ?_
  (try simp only[Act.put,actS])
  refine mvG (by assumption) 7 ?_
  (try simp only[Act.put,actS])
  refine mvG (by assumption) 8 ?_
  (try simp only[Act.put,actS])
  refine mvG (by assumption) 14 ?_
  (try simp only[Act.put,actS])
  refine mvG (by assumption) 15 ?_
  (try simp only[Act.put,actS])
  refine mvG (by assumption) 16 ?_
  (try simp only[Act.put,actS])
  refine wpAnyH_ready (rs:=[2]) (by kernel_rfl) (by simp) ?_
  refine AllReadyH.cons rfl (fun K hK=>?_) AllReadyH.nil
  go_simp
  (refine (a6 v _ HV.out).mono ?_;rintro _ w1 ⟨rfl,hb⟩)
  refine hK.out _ _ ?_ (fun hHeld=>?_)
  ·exact bS hb (by assumption)
  clear hK K
  (try simp only[Act.put,actS])
  refine wpAnyH_ready (rs:=[5]) (by kernel_rfl) (by simp) ?_
  refine AllReadyH.cons rfl (fun K hK=>?_) AllReadyH.nil
  go_simp
  (refine (a6 u _ HU.out).mono ?_;rintro _ w1 ⟨rfl,hb⟩)
  refine hK.out _ _ ?_ (fun hHeld=>?_)
  ·exact bS hb (by assumption)
  clear hK K
  (try simp only[Act.put,actS])
  refine mvG (by assumption) 9 ?_
  (try simp only[Act.put,actS])
  refine mvG (by assumption) 10 ?_
  (try simp only[Act.put,actS])
  refine mvG (by assumption) 11 ?_
  (try simp only[Act.put,actS])
  refine mvG (by assumption) 12 ?_
  (try simp only[Act.put,actS])
  refine mvG (by assumption) 13 ?_
  (try simp only[Act.put,actS])
  refine mvG (by assumption) 17 ?_
  (try simp only[Act.put,actS])
  refine mwG (by assumption) 18 ?_
  (try simp only[Act.put,actS])
  refine mwG (by assumption) 19 ?_
  (try simp only[Act.put,actS])
  refine mwG (by assumption) 20 ?_
  (try simp only[Act.put,actS])
  refine mvG (by assumption) 21 ?_
  (try simp only[Act.put,actS])
  refine mvG (by assumption) 22 ?_
  (try simp only[Act.put,actS])
  have ab:Hid (SpK w v x u y w1):=hHeld
  refine wpAnyH_ready (rs:=[23]) (by kernel_rfl) (by simp) ?_
  refine AllReadyH.cons rfl (fun K hK=>?_) AllReadyH.nil
  go_simp
  refine hK.out _ _ ?_ (fun hHeld=>?_)
  ·exact eh v u p false ab.out
  clear hK K
  (try simp only[Act.put,actS])
  refine wpAnyH_done (by kernel_rfl) ?_ _
  have hB:SpBlk w1 (w.heap.size+2):=ab.out.2.2.2.2.2.2.2.2.2.2.2.2.1
  have aa:Below w.heap.size w (stS w1 (w.heap.size+2) v u p false):=(eh v u p false ab.out).2.2.2.2.2.2.2.2.2.2.2.2.2.2
  have hf:=i9 hB v u p false
  show Exit.then _ _ Exit.normal _ (stS w1 (w.heap.size+2) v u p false)
  clear hHeld
  generalize stS w1 (w.heap.size+2) v u p false=Wf at *
  have r0:Wf.cell? ⟨w.heap.size+1+1,0,none⟩=some (.string ⟨v.toArray⟩):=by show Wf.cell? ⟨w.heap.size+2,0,none⟩=_;simp[World.cell?,hf]
  have r1:Wf.cell? ⟨w.heap.size+1+1,1,none⟩=some (.string ⟨u.toArray⟩):=by show Wf.cell? ⟨w.heap.size+2,1,none⟩=_;simp[World.cell?,hf]
  have r2:Wf.cell? ⟨w.heap.size+1+1,2,none⟩=some (.bool p):=by show Wf.cell? ⟨w.heap.size+2,2,none⟩=_;simp[World.cell?,hf]
  have r3:Wf.cell? ⟨w.heap.size+1+1,3,none⟩=some (.bool false):=by show Wf.cell? ⟨w.heap.size+2,3,none⟩=_;simp[World.cell?,hf]
  have HB:=zh aa
  clear hf hB aa ab
  go_wp2_with fail
  exact bodyPost_ret (v:=.agg #[.string ⟨v.toArray⟩,.string ⟨u.toArray⟩,.bool p,.bool false]) (by simp[results,Tryz.results333,go_sem,r0,r1,r2,r3]) rfl ⟨rfl,HB.out⟩
 ·rw[Bool.not_false,Bool.true_and] at hq
  obtain rfl:p=false:=hp.symm
  clear hp
  go_enter Tryz.func333,Tryz.ntmps333
  go_wp2_with fail
  clear hW
  refine wp_region_held_drew (S:=(fun w'=>w'.cell? ⟨w.heap.size,0,none⟩=some (.string ⟨v.toArray⟩)/\w'.cell? ⟨w.heap.size,1,none⟩=some (.int .i64 x)/\w'.cell? ⟨w.heap.size+1,0,none⟩=some (.string ⟨u.toArray⟩)/\w'.cell? ⟨w.heap.size+1,1,none⟩=some (.int .i64 y)/\w'.cell? ⟨w.heap.size+1+1,0,none⟩=some (valAt w' (w.heap.size+2) 0)/\w'.cell? ⟨w.heap.size+1+1,1,none⟩=some (valAt w' (w.heap.size+2) 1)/\w'.cell? ⟨w.heap.size+1+1,2,none⟩=some (valAt w' (w.heap.size+2) 2)/\w'.cell? ⟨w.heap.size+1+1,3,none⟩=some (valAt w' (w.heap.size+2) 3)/\w'.frozen? ⟨w.heap.size+1+1,0,none⟩=false/\w'.frozen? ⟨w.heap.size+1+1,1,none⟩=false/\w'.frozen? ⟨w.heap.size+1+1,2,none⟩=false/\w'.frozen? ⟨w.heap.size+1+1,3,none⟩=false/\SpBlk w' (w.heap.size+2)/\w.heap.size+2<w'.heap.size/\Below w.heap.size w w')) (by kernel_rfl) ?_ (fun hHeld=>?_)
  ·exact bS (Below.refl _ _).drew HK.out
  refine mvG (by assumption) 0 ?_
  (try simp only[Act.put,List.getElem_toArray,List.getElem_cons_zero,List.setIfInBounds_toArray,List.set_cons_zero,List.set_cons_succ])
  refine mvG (by assumption) 1 ?_
  (try simp only[Act.put,actS])
  refine mvG (by assumption) 3 ?_
  (try simp only[Act.put,actS])
  refine mvG (by assumption) 4 ?_
  (try simp only[Act.put,actS])
  refine mvG (by assumption) 6 ?_
  (try simp only[Act.put,actS])
  refine mvG (by assumption) 7 ?_
  (try simp only[Act.put,actS])
  refine mvG (by assumption) 8 ?_
  (try simp only[Act.put,actS])
  refine mvG (by assumption) 14 ?_
  (try simp only[Act.put,actS])
  refine mvG (by assumption) 15 ?_
  (try simp only[Act.put,actS])
  refine mvG (by assumption) 16 ?_
  (try simp only[Act.put,actS])
  refine wpAnyH_ready (rs:=[2]) (by kernel_rfl) (by simp) ?_
  refine AllReadyH.cons rfl (fun K hK=>?_) AllReadyH.nil
  go_simp
  (refine (a6 v _ HV.out).mono ?_;rintro _ w1 ⟨rfl,hb⟩)
  refine hK.out _ _ ?_ (fun hHeld=>?_)
  ·exact bS hb (by assumption)
  clear hK K
  (try simp only[Act.put,actS])
  refine wpAnyH_ready (rs:=[5]) (by kernel_rfl) (by simp) ?_
  refine AllReadyH.cons rfl (fun K hK=>?_) AllReadyH.nil
  go_simp
  (refine (a6 u _ HU.out).mono ?_;rintro _ w1 ⟨rfl,hb⟩)
  refine hK.out _ _ ?_ (fun hHeld=>?_)
  ·exact bS hb (by assumption)
  clear hK K
  (try simp only[Act.put,actS])
  refine mvG (by assumption) 9 ?_
  (try simp only[Act.put,actS])
  refine mwG (by assumption) 10 ?_
  (try simp only[Act.put,actS])
  refine mwG (by assumption) 11 ?_
  (try simp only[Act.put,actS])
  refine mwG (by assumption) 12 ?_
  (try simp only[Act.put,actS])
  refine mvG (by assumption) 13 ?_
  (try simp only[Act.put,actS])
  refine mvG (by assumption) 17 ?_
  (try simp only[Act.put,actS])
  refine mvG (by assumption) 18 ?_
  (try simp only[Act.put,actS])
  refine mvG (by assumption) 19 ?_
  (try simp only[Act.put,actS])
  refine mvG (by assumption) 20 ?_
  (try simp only[Act.put,actS])
  refine mvG (by assumption) 21 ?_
  (try simp only[Act.put,actS])
  refine mvG (by assumption) 22 ?_
  (try simp only[Act.put,actS])
  have ab:Hid (SpK w v x u y w1):=hHeld
  refine wpAnyH_ready (rs:=[23]) (by kernel_rfl) (by simp) ?_
  refine AllReadyH.cons rfl (fun K hK=>?_) AllReadyH.nil
  go_simp
  refine hK.out _ _ ?_ (fun hHeld=>?_)
  ·exact eh v u false q ab.out
  clear hK K
  (try simp only[Act.put,actS])
  refine wpAnyH_done (by kernel_rfl) ?_ _
  have hB:SpBlk w1 (w.heap.size+2):=ab.out.2.2.2.2.2.2.2.2.2.2.2.2.1
  have aa:Below w.heap.size w (stS w1 (w.heap.size+2) v u false q):=(eh v u false q ab.out).2.2.2.2.2.2.2.2.2.2.2.2.2.2
  have hf:=i9 hB v u false q
  show Exit.then _ _ Exit.normal _ (stS w1 (w.heap.size+2) v u false q)
  clear hHeld
  generalize stS w1 (w.heap.size+2) v u false q=Wf at *
  have r0:Wf.cell? ⟨w.heap.size+1+1,0,none⟩=some (.string ⟨v.toArray⟩):=by show Wf.cell? ⟨w.heap.size+2,0,none⟩=_;simp[World.cell?,hf]
  have r1:Wf.cell? ⟨w.heap.size+1+1,1,none⟩=some (.string ⟨u.toArray⟩):=by show Wf.cell? ⟨w.heap.size+2,1,none⟩=_;simp[World.cell?,hf]
  have r2:Wf.cell? ⟨w.heap.size+1+1,2,none⟩=some (.bool false):=by show Wf.cell? ⟨w.heap.size+2,2,none⟩=_;simp[World.cell?,hf]
  have r3:Wf.cell? ⟨w.heap.size+1+1,3,none⟩=some (.bool q):=by show Wf.cell? ⟨w.heap.size+2,3,none⟩=_;simp[World.cell?,hf]
  have HB:=zh aa
  clear hf hB aa ab
  go_wp2_with fail
  exact bodyPost_ret (v:=.agg #[.string ⟨v.toArray⟩,.string ⟨u.toArray⟩,.bool false,.bool q]) (by simp[results,Tryz.results333,go_sem,r0,r1,r2,r3]) rfl ⟨rfl,HB.out⟩
 ·obtain rfl:p=false:=hp.symm
  obtain rfl:q=false:=hq.symm
  clear hp hq
  go_enter Tryz.func333,Tryz.ntmps333
  go_wp2_with fail
  clear hW
  refine wp_region_held_drew (S:=(fun w'=>w'.cell? ⟨w.heap.size,0,none⟩=some (.string ⟨v.toArray⟩)/\w'.cell? ⟨w.heap.size,1,none⟩=some (.int .i64 x)/\w'.cell? ⟨w.heap.size+1,0,none⟩=some (.string ⟨u.toArray⟩)/\w'.cell? ⟨w.heap.size+1,1,none⟩=some (.int .i64 y)/\w'.cell? ⟨w.heap.size+1+1,0,none⟩=some (valAt w' (w.heap.size+2) 0)/\w'.cell? ⟨w.heap.size+1+1,1,none⟩=some (valAt w' (w.heap.size+2) 1)/\w'.cell? ⟨w.heap.size+1+1,2,none⟩=some (valAt w' (w.heap.size+2) 2)/\w'.cell? ⟨w.heap.size+1+1,3,none⟩=some (valAt w' (w.heap.size+2) 3)/\w'.frozen? ⟨w.heap.size+1+1,0,none⟩=false/\w'.frozen? ⟨w.heap.size+1+1,1,none⟩=false/\w'.frozen? ⟨w.heap.size+1+1,2,none⟩=false/\w'.frozen? ⟨w.heap.size+1+1,3,none⟩=false/\SpBlk w' (w.heap.size+2)/\w.heap.size+2<w'.heap.size/\Below w.heap.size w w')) (by kernel_rfl) ?_ (fun hHeld=>?_)
  ·exact bS (Below.refl _ _).drew HK.out
  refine mvG (by assumption) 0 ?_
  (try simp only[Act.put,List.getElem_toArray,List.getElem_cons_zero,List.setIfInBounds_toArray,List.set_cons_zero,List.set_cons_succ])
  refine mvG (by assumption) 1 ?_
  (try simp only[Act.put,actS])
  refine mvG (by assumption) 3 ?_
  (try simp only[Act.put,actS])
  refine mvG (by assumption) 4 ?_
  (try simp only[Act.put,actS])
  refine mvG (by assumption) 6 ?_
  (try simp only[Act.put,actS])
  refine mvG (by assumption) 7 ?_
  (try simp only[Act.put,actS])
  refine mvG (by assumption) 8 ?_
  (try simp only[Act.put,actS])
  refine mvG (by assumption) 14 ?_
  (try simp only[Act.put,actS])
  refine mvG (by assumption) 15 ?_
  (try simp only[Act.put,actS])
  refine mvG (by assumption) 16 ?_
  (try simp only[Act.put,actS])
  refine wpAnyH_ready (rs:=[2]) (by kernel_rfl) (by simp) ?_
  refine AllReadyH.cons rfl (fun K hK=>?_) AllReadyH.nil
  go_simp
  (refine (a6 v _ HV.out).mono ?_;rintro _ w1 ⟨rfl,hb⟩)
  refine hK.out _ _ ?_ (fun hHeld=>?_)
  ·exact bS hb (by assumption)
  clear hK K
  (try simp only[Act.put,actS])
  refine wpAnyH_ready (rs:=[5]) (by kernel_rfl) (by simp) ?_
  refine AllReadyH.cons rfl (fun K hK=>?_) AllReadyH.nil
  go_simp
  (refine (a6 u _ HU.out).mono ?_;rintro _ w1 ⟨rfl,hb⟩)
  refine hK.out _ _ ?_ (fun hHeld=>?_)
  ·exact bS hb (by assumption)
  clear hK K
  (try simp only[Act.put,actS])
  refine mvG (by assumption) 9 ?_
  (try simp only[Act.put,actS])
  refine mwG (by assumption) 10 ?_
  (try simp only[Act.put,actS])
  refine mwG (by assumption) 11 ?_
  (try simp only[Act.put,actS])
  refine mwG (by assumption) 12 ?_
  (try simp only[Act.put,actS])
  refine mvG (by assumption) 13 ?_
  (try simp only[Act.put,actS])
  refine mvG (by assumption) 17 ?_
  (try simp only[Act.put,actS])
  refine mwG (by assumption) 18 ?_
  (try simp only[Act.put,actS])
  refine mwG (by assumption) 19 ?_
  (try simp only[Act.put,actS])
  refine mwG (by assumption) 20 ?_
  (try simp only[Act.put,actS])
  refine mvG (by assumption) 21 ?_
  (try simp only[Act.put,actS])
  refine mvG (by assumption) 22 ?_
  (try simp only[Act.put,actS])
  have ab:Hid (SpK w v x u y w1):=hHeld
  refine wpAnyH_ready (rs:=[23]) (by kernel_rfl) (by simp) ?_
  refine AllReadyH.cons rfl (fun K hK=>?_) AllReadyH.nil
  go_simp
  refine hK.out _ _ ?_ (fun hHeld=>?_)
  ·exact eh v u false false ab.out
  clear hK K
  (try simp only[Act.put,actS])
  refine wpAnyH_done (by kernel_rfl) ?_ _
  have hB:SpBlk w1 (w.heap.size+2):=ab.out.2.2.2.2.2.2.2.2.2.2.2.2.1
  have aa:Below w.heap.size w (stS w1 (w.heap.size+2) v u false false):=(eh v u false false ab.out).2.2.2.2.2.2.2.2.2.2.2.2.2.2
  have hf:=i9 hB v u false false
  show Exit.then _ _ Exit.normal _ (stS w1 (w.heap.size+2) v u false false)
  clear hHeld
  generalize stS w1 (w.heap.size+2) v u false false=Wf at *
  have r0:Wf.cell? ⟨w.heap.size+1+1,0,none⟩=some (.string ⟨v.toArray⟩):=by show Wf.cell? ⟨w.heap.size+2,0,none⟩=_;simp[World.cell?,hf]
  have r1:Wf.cell? ⟨w.heap.size+1+1,1,none⟩=some (.string ⟨u.toArray⟩):=by show Wf.cell? ⟨w.heap.size+2,1,none⟩=_;simp[World.cell?,hf]
  have r2:Wf.cell? ⟨w.heap.size+1+1,2,none⟩=some (.bool false):=by show Wf.cell? ⟨w.heap.size+2,2,none⟩=_;simp[World.cell?,hf]
  have r3:Wf.cell? ⟨w.heap.size+1+1,3,none⟩=some (.bool false):=by show Wf.cell? ⟨w.heap.size+2,3,none⟩=_;simp[World.cell?,hf]
  have HB:=zh aa
  clear hf hB aa ab
  go_wp2_with fail
  exact bodyPost_ret (v:=.agg #[.string ⟨v.toArray⟩,.string ⟨u.toArray⟩,.bool false,.bool false]) (by simp[results,Tryz.results333,go_sem,r0,r1,r2,r3]) rfl ⟨rfl,HB.out⟩
end
end Go.Proofs.YtgnaiidgjmicaaaGreatDoor

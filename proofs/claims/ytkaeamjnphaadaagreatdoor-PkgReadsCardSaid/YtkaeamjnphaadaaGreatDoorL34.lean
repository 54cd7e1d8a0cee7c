/- Part 34 of what the laws lean on. -/
import Derived.Test.YtkaeamjnphaadaaGreatDoorL33
set_option maxRecDepth 100000
set_option maxHeartbeats 6400000
namespace Go.Proofs.YtkaeamjnphaadaaGreatDoor
section
open Go.RowKit Rs At Pg
def Pg.Nil0 (p:Pk) (D:Option Addr) (dc:Nat) (G:Option Addr) (gc:Nat):Prop:=(p.deps=[]->D=none/\dc=0)/\(p.prov=[]->G=none/\gc=0)
def Pg.FillRet (B:Nat) (w:World) (R:Except Int Pk) (e:Ending) (w':World):Prop:=Below w.heap.size w w'/\match R with
 | .ok p=>∃ D dc C cc G gc,e=.returned (.tuple #[.agg (pCells p D C G dc cc gc),.int .i64 0])/\PRows B w' p D C G/\Nil0 p D dc G gc
 | .error k=>k≠0/\∃ p D C G dc cc gc,e=.returned (.tuple #[.agg (pCells p D C G dc cc gc),.int .i64 k])
theorem Pg.kq {W:World}{b b2:Nat}{T T':TypeId}{cs zs:Array Value}(h:W.heap[b]?=some (.cells cs T (0,0)))(hz:W.heap[b2]?=some (.cells zs T' (0,0)))(hne:b≠b2)(i:Nat)(x:Value):(W.setCell ⟨b,i,none⟩ x).heap[b]?=some (.cells (cs.setIfInBounds i x) T (0,0))/\(W.setCell ⟨b,i,none⟩ x).heap[b2]?=some (.cells zs T' (0,0)) :=
 ⟨aA h,((aN W ⟨b,i,none⟩ x).2 b2 (block_lt hz) (by simpa using hne)).trans hz⟩
theorem Pg.au {u:World}{b:Nat}{T:TypeId}{x0 x1 x2 x3 x4 x5:Value}(h:u.heap[b]?=some (.cells #[x0,x1,x2,x3,x4,x5] T (0,0))):(u.cell? ⟨b,0,none⟩=some x0/\u.frozen? ⟨b,0,none⟩=false)/\(u.cell? ⟨b,1,none⟩=some x1/\u.frozen? ⟨b,1,none⟩=false)/\(u.cell? ⟨b,2,none⟩=some x2/\u.frozen? ⟨b,2,none⟩=false)/\(u.cell? ⟨b,3,none⟩=some x3/\u.frozen? ⟨b,3,none⟩=false)/\(u.cell? ⟨b,4,none⟩=some x4/\u.frozen? ⟨b,4,none⟩=false)/\(u.cell? ⟨b,5,none⟩=some x5/\u.frozen? ⟨b,5,none⟩=false):=by
 obtain⟨c0,c1,c2,c3,c4,c5⟩:=aL h
 exact⟨⟨c0,ay h 0⟩,⟨c1,ay h 1⟩,⟨c2,ay h 2⟩,⟨c3,ay h 3⟩,⟨c4,ay h 4⟩,c5,ay h 5⟩
theorem Pg.eL {u:World}{b:Nat}{T:TypeId}{x0 x1 x2:Value}(h:u.heap[b]?=some (.cells #[x0,x1,x2] T (0,0))):u.cell? ⟨b,0,none⟩=some x0/\u.cell? ⟨b,1,none⟩=some x1:=by
 refine⟨?_,?_⟩ <;> simp[World.cell?,h]
theorem Pg.bq {u:World}{b:Nat}(h:u.heap[b]?=some (.cells zeroC 42 (0,0)))(p:Pk)(D C G:Option Addr)(dc cc gc:Nat)(k:Int){tmps:Array Value}(ht:tmps.getD 4 undef=.pointer (some ⟨b,0,none⟩))(h5:tmps.getD 5 undef=.int .i64 k) :
  (results Tryz.f24 tmps).run Tryz.prog (stP u b p D C G dc cc gc)=.ok (.tuple #[.agg (pCells p D C G dc cc gc),.int .i64 k]) (stP u b p D C G dc cc gc):=by
 obtain⟨g0,g1,g2,g3,g4,g5⟩:=aL (fu h p D C G dc cc gc)
 rw[results_cell_tmp Tryz.results24,ht,h5]
 generalize stP u b p D C G dc cc gc=V at *
 simp[go_sem,g0,g1,g2,g3,g4,g5]
attribute [local go_sem ↓] Go.wp_at_zero Go.wp_at_succ
attribute [local go_sem] Pg.a8
theorem uh (key t:List UInt8)(i:Int)(p:Pk)(D C G:Option Addr)(dc cc gc B:Nat)(w:World)(hw:MaxOk w)(hp:PRows B w p D C G)(hB:B<=w.heap.size)(ht:t.length<=1000)(h0:Nil0 p D dc G gc)(hkey:key=kPkg) :
  Calls Tryz.prog 24 #[.agg #[.string ⟨p.name.toArray⟩,.string ⟨p.ver.toArray⟩,.slice D p.deps.length dc,.slice C p.confl.length cc,.slice G p.prov.length gc,.float .f64 p.wt],.agg #[.string ⟨key.toArray⟩,.string ⟨t.toArray⟩,.int .i64 i]] w (FillRet B w (takeR p key t)):=by
 obtain⟨R,hR⟩:=ex (takeR p key t)
 rw[hR]
 unfold takeR at hR
 obtain⟨W1,ac⟩:=ex (w.alloc (.cells #[.string ⟨p.name.toArray⟩,.string ⟨p.ver.toArray⟩,.slice D p.deps.length dc,.slice C p.confl.length cc,.slice G p.prov.length gc,.float .f64 p.wt] 42))
 obtain⟨W2,ad⟩:=ex (W1.alloc (.cells #[.string ⟨key.toArray⟩,.string ⟨t.toArray⟩,.int .i64 i] 25))
 obtain⟨W3,ae⟩:=ex (W2.alloc (.cells zeroC 42))
 have am:Below w.heap.size w W1:=ag ac
 have af:Below W1.heap.size W1 W2:=ag ad
 have ai:Below W2.heap.size W2 W3:=ag ae
 have aa:Below W1.heap.size W1 W3:=bt af ai
 have HB:Hid (Below w.heap.size w W3):=bt am aa
 have ap:Hid (∀ u,Below W3.heap.size W3 u->Below w.heap.size w u):=fun u h=>bt HB.out h
 obtain⟨b,hb⟩:=ex w.heap.size
 obtain⟨b1,an⟩:=ex W1.heap.size
 obtain⟨b2,ao⟩:=ex W2.heap.size
 have HH:Hid (∀ u,Below W3.heap.size W3 u->u.heap[b]?=some (.cells (pCells p D C G dc cc gc) 42 (0,0))/\u.heap[b1]?=some (.cells #[.string ⟨key.toArray⟩,.string ⟨t.toArray⟩,.int .i64 i] 25 (0,0))/\u.heap[b2]?=some (.cells zeroC 42 (0,0))):=fun u h=>by
  rw[<-hb,<-an,<-ao]
  have h2:=bt ai h
  have h1:=bt af h2
  exact⟨(h1.block _ (by rw[<-ac];simp)).trans (by rw[<-ac];exact heap_alloc_new w _),(h2.block _ (by rw[<-ad];simp)).trans (by rw[<-ad];exact heap_alloc_new W1 _),(h.block _ (by rw[<-ae];simp)).trans (by rw[<-ae];exact heap_alloc_new W2 _)⟩
 have aj:Hid (b<b1/\b1<b2/\b2<W3.heap.size/\b<=b2):=by
  show _/\_
  rw[<-hb,<-an,<-ao,<-ae,<-ad,<-ac]
  refine⟨by simp,by simp,by simp,by simp;omega⟩
 have HM:Hid (MaxOk W3):=ah hw HB.out
 have HT:=zh ht
 have ak:=zh hb
 have aq:=zh hp
 have aw:=zh hB
 have ar:=zh h0
 obtain⟨⟨c0,y0⟩,⟨c1,y1⟩,⟨c2,y2⟩,⟨c3,y3⟩,⟨c4,y4⟩,c5,y5⟩:=au (HH.out W3 (Below.refl _ _)).1
 obtain⟨f0,f1⟩:=eL (HH.out W3 (Below.refl _ _)).2.1
 obtain⟨⟨k0,z0⟩,⟨k1,z1⟩,⟨k2,z2⟩,⟨k3,z3⟩,⟨k4,z4⟩,k5,z5⟩:=au (HH.out W3 (Below.refl _ _)).2.2
 clear am af ai aa hp hw ht h0
 subst hkey
 rw[if_pos rfl] at hR
 have d0:(kPkg==[80,97,99,107,97,103,101])=true:=by decide
 have HC:=zh (ee t W3 (Nat.le_trans HT.out (by decide)))
 obtain⟨y,hy⟩:=ex (nameB t)
 rw[hy] at HC hR
 have HR:=zh hR
 clear hR hy
 go_enter Tryz.func24,Tryz.ntmps24
 go_wp2_with fail
 refine HC.out.mono ?_
 rintro _ _ ⟨rfl,rfl⟩
 clear HC
 cases y
 ·have HF:Hid (R=.error 3):=HR.out.symm
  have al:=zh (HH.out W3 (Below.refl _ _)).2.2
  go_wp2_with fail
  (try simp only[Exit.inBlock,Exit.then])
  refine bodyPost_ret (bq al.out p D C G dc cc gc _ rfl rfl) rfl ?_
  refine⟨aI HB.out (by have:=aj.out;have:=ak.out;omega) _ _ _ _ _ _ _,?_⟩
  rw[HF.out]
  exact⟨by decide,_,_,_,_,_,_,_,rfl⟩
 ·have HF:Hid (R=.ok { p with name:=t }):=HR.out.symm
  obtain⟨V,hV⟩:=ex ((W3).setCell ⟨b,0,none⟩ (.string ⟨t.toArray⟩))
  obtain⟨g1,g2⟩:=kq (HH.out _ (Below.refl _ _)).1 (HH.out _ (Below.refl _ _)).2.2 (by have:=aj.out;omega) 0 (.string ⟨t.toArray⟩)
  rw[hV] at g1 g2
  have av:Hid (Below w.heap.size w V):=by rw[<-hV];exact (ap.out _ (Below.refl _ _)).setCell (p:=⟨b,0,none⟩) (Nat.le_of_eq ak.out) _
  have ax:Hid (But (some b) W3 V):=by rw[<-hV];exact aN _ ⟨b,0,none⟩ _
  have ay:=zh g1
  have al:=zh g2
  obtain⟨⟨e0,_⟩,⟨e1,_⟩,⟨e2,_⟩,⟨e3,_⟩,⟨e4,_⟩,e5,_⟩:=au g1
  obtain⟨⟨l0,m0⟩,⟨l1,m1⟩,⟨l2,m2⟩,⟨l3,m3⟩,⟨l4,m4⟩,l5,m5⟩:=au g2
  clear g1 g2
  go_wp2_with fail
  (try simp only[Exit.inBlock,Exit.then])
  refine bodyPost_ret (bq al.out { p with name:=t } D C G dc cc gc 0 rfl rfl) rfl ?_
  have ab:Below w.heap.size w (stP V b2 { p with name:=t } D C G dc cc gc):=aI av.out (by have:=aj.out;have:=ak.out;omega) _ _ _ _ _ _ _
  refine⟨ab,?_⟩
  rw[HF.out]
  exact⟨D,dc,_,_,G,gc,rfl,cq aq.out ab,ar.out⟩
theorem vL (key t:List UInt8)(i:Int)(p:Pk)(D C G:Option Addr)(dc cc gc B:Nat)(w:World)(hw:MaxOk w)(hp:PRows B w p D C G)(hB:B<=w.heap.size)(ht:t.length<=1000)(h0:Nil0 p D dc G gc)(hkey:key=kVer) :
  Calls Tryz.prog 24 #[.agg #[.string ⟨p.name.toArray⟩,.string ⟨p.ver.toArray⟩,.slice D p.deps.length dc,.slice C p.confl.length cc,.slice G p.prov.length gc,.float .f64 p.wt],.agg #[.string ⟨key.toArray⟩,.string ⟨t.toArray⟩,.int .i64 i]] w (FillRet B w (takeR p key t)):=by
 obtain⟨R,hR⟩:=ex (takeR p key t)
 rw[hR]
 unfold takeR at hR
 obtain⟨W1,ac⟩:=ex (w.alloc (.cells #[.string ⟨p.name.toArray⟩,.string ⟨p.ver.toArray⟩,.slice D p.deps.length dc,.slice C p.confl.length cc,.slice G p.prov.length gc,.float .f64 p.wt] 42))
 obtain⟨W2,ad⟩:=ex (W1.alloc (.cells #[.string ⟨key.toArray⟩,.string ⟨t.toArray⟩,.int .i64 i] 25))
 obtain⟨W3,ae⟩:=ex (W2.alloc (.cells zeroC 42))
 have an:Below w.heap.size w W1:=ag ac
 have af:Below W1.heap.size W1 W2:=ag ad
 have ai:Below W2.heap.size W2 W3:=ag ae
 have aa:Below W1.heap.size W1 W3:=bt af ai
 have HB:Hid (Below w.heap.size w W3):=bt an aa
 have ao:Hid (∀ u,Below W3.heap.size W3 u->Below w.heap.size w u):=fun u h=>bt HB.out h
 obtain⟨b,hb⟩:=ex w.heap.size
 obtain⟨b1,ap⟩:=ex W1.heap.size
 obtain⟨b2,aq⟩:=ex W2.heap.size
 have HH:Hid (∀ u,Below W3.heap.size W3 u->u.heap[b]?=some (.cells (pCells p D C G dc cc gc) 42 (0,0))/\u.heap[b1]?=some (.cells #[.string ⟨key.toArray⟩,.string ⟨t.toArray⟩,.int .i64 i] 25 (0,0))/\u.heap[b2]?=some (.cells zeroC 42 (0,0))):=fun u h=>by
  rw[<-hb,<-ap,<-aq]
  have h2:=bt ai h
  have h1:=bt af h2
  exact⟨(h1.block _ (by rw[<-ac];simp)).trans (by rw[<-ac];exact heap_alloc_new w _),(h2.block _ (by rw[<-ad];simp)).trans (by rw[<-ad];exact heap_alloc_new W1 _),(h.block _ (by rw[<-ae];simp)).trans (by rw[<-ae];exact heap_alloc_new W2 _)⟩
 have aj:Hid (b<b1/\b1<b2/\b2<W3.heap.size/\b<=b2):=by
  show _/\_
  rw[<-hb,<-ap,<-aq,<-ae,<-ad,<-ac]
  refine⟨by simp,by simp,by simp,by simp;omega⟩
 have HM:Hid (MaxOk W3):=ah hw HB.out
 have HT:=zh ht
 have ak:=zh hb
 have av:=zh hp
 have ay:=zh hB
 have aw:=zh h0
 obtain⟨⟨c0,y0⟩,⟨c1,y1⟩,⟨c2,y2⟩,⟨c3,y3⟩,⟨c4,y4⟩,c5,y5⟩:=au (HH.out W3 (Below.refl _ _)).1
 obtain⟨f0,f1⟩:=eL (HH.out W3 (Below.refl _ _)).2.1
 obtain⟨⟨k0,z0⟩,⟨k1,z1⟩,⟨k2,z2⟩,⟨k3,z3⟩,⟨k4,z4⟩,k5,z5⟩:=au (HH.out W3 (Below.refl _ _)).2.2
 clear an af ai aa hp hw ht h0
 subst hkey
 rw[if_neg (by decide)] at hR
 have d0:(kVer==[80,97,99,107,97,103,101])=false:=by decide
 rw[if_pos rfl] at hR
 have d1:(kVer==[86,101,114,115,105,111,110])=true:=by decide
 have HC:=zh (cT t W3)
 obtain⟨y,hy⟩:=ex (Vm.check t)
 obtain⟨cv,am⟩:=ex (canonOf t)
 rw[hy,am] at HC
 rw[hy,am] at hR
 have HR:=zh hR
 clear hR hy am
 go_enter Tryz.func24,Tryz.ntmps24
 go_wp2_with fail
 refine HC.out.mono ?_
 rintro _ u ⟨rfl,ar⟩
 have HU:=zh ar
 clear ar HC
 clear c0 y0 c1 y1 c2 y2 c3 y3 c4 y4 c5 y5 f0 f1 k0 z0 k1 z1 k2 z2 k3 z3 k4 z4 k5 z5
 obtain⟨⟨c0,y0⟩,⟨c1,y1⟩,⟨c2,y2⟩,⟨c3,y3⟩,⟨c4,y4⟩,c5,y5⟩:=au (HH.out u HU.out).1
 obtain⟨f0,f1⟩:=eL (HH.out u HU.out).2.1
 obtain⟨⟨k0,z0⟩,⟨k1,z1⟩,⟨k2,z2⟩,⟨k3,z3⟩,⟨k4,z4⟩,k5,z5⟩:=au (HH.out u HU.out).2.2
 by_cases hy:y=0
 case neg =>
  have HF:Hid (R=.error y):=by show _=_;rw[<-HR.out,if_neg hy]
  have dy:decide (y=0)=false:=decide_eq_false hy
  have al:=zh (HH.out u HU.out).2.2
  go_wp2_with fail
  (try simp only[Exit.inBlock,Exit.then])
  refine bodyPost_ret (bq al.out p D C G dc cc gc _ rfl rfl) rfl ?_
  refine⟨aI (ao.out u HU.out) (by have:=aj.out;have:=ak.out;omega) _ _ _ _ _ _ _,?_⟩
  rw[HF.out]
  exact⟨hy,_,_,_,_,_,_,_,rfl⟩
 subst hy
 have HF:Hid (R=.ok { p with ver:=cv }):=by show _=_;rw[<-HR.out,if_pos rfl]
 obtain⟨V,hV⟩:=ex ((u).setCell ⟨b,1,none⟩ (.string ⟨cv.toArray⟩))
 obtain⟨g1,g2⟩:=kq (HH.out _ HU.out).1 (HH.out _ HU.out).2.2 (by have:=aj.out;omega) 1 (.string ⟨cv.toArray⟩)
 rw[hV] at g1 g2
 have ax:Hid (Below w.heap.size w V):=by rw[<-hV];exact (ao.out _ HU.out).setCell (p:=⟨b,1,none⟩) (Nat.le_of_eq ak.out) _
 have az:Hid (But (some b) u V):=by rw[<-hV];exact aN _ ⟨b,1,none⟩ _
 have aA:=zh g1
 have al:=zh g2
 obtain⟨⟨e0,_⟩,⟨e1,_⟩,⟨e2,_⟩,⟨e3,_⟩,⟨e4,_⟩,e5,_⟩:=au g1
 obtain⟨⟨l0,m0⟩,⟨l1,m1⟩,⟨l2,m2⟩,⟨l3,m3⟩,⟨l4,m4⟩,l5,m5⟩:=au g2
 clear g1 g2
 go_wp2_with fail
 (try simp only[Exit.inBlock,Exit.then])
 refine bodyPost_ret (bq al.out { p with ver:=cv } D C G dc cc gc 0 rfl rfl) rfl ?_
 have ab:Below w.heap.size w (stP V b2 { p with ver:=cv } D C G dc cc gc):=aI ax.out (by have:=aj.out;have:=ak.out;omega) _ _ _ _ _ _ _
 refine⟨ab,?_⟩
 rw[HF.out]
 exact⟨D,dc,_,_,G,gc,rfl,cq av.out ab,aw.out⟩
theorem vM (key t:List UInt8)(i:Int)(p:Pk)(D C G:Option Addr)(dc cc gc B:Nat)(w:World)(hw:MaxOk w)(hp:PRows B w p D C G)(hB:B<=w.heap.size)(ht:t.length<=1000)(h0:Nil0 p D dc G gc)(hkey:key=kCon) :
  Calls Tryz.prog 24 #[.agg #[.string ⟨p.name.toArray⟩,.string ⟨p.ver.toArray⟩,.slice D p.deps.length dc,.slice C p.confl.length cc,.slice G p.prov.length gc,.float .f64 p.wt],.agg #[.string ⟨key.toArray⟩,.string ⟨t.toArray⟩,.int .i64 i]] w (FillRet B w (takeR p key t)):=by
 obtain⟨R,hR⟩:=ex (takeR p key t)
 rw[hR]
 unfold takeR at hR
 obtain⟨W1,af⟩:=ex (w.alloc (.cells #[.string ⟨p.name.toArray⟩,.string ⟨p.ver.toArray⟩,.slice D p.deps.length dc,.slice C p.confl.length cc,.slice G p.prov.length gc,.float .f64 p.wt] 42))
 obtain⟨W2,ai⟩:=ex (W1.alloc (.cells #[.string ⟨key.toArray⟩,.string ⟨t.toArray⟩,.int .i64 i] 25))
 obtain⟨W3,aj⟩:=ex (W2.alloc (.cells zeroC 42))
 have ap:Below w.heap.size w W1:=ag af
 have ak:Below W1.heap.size W1 W2:=ag ai
 have al:Below W2.heap.size W2 W3:=ag aj
 have ab:Below W1.heap.size W1 W3:=bt ak al
 have HB:Hid (Below w.heap.size w W3):=bt ap ab
 have aq:Hid (∀ u,Below W3.heap.size W3 u->Below w.heap.size w u):=fun u h=>bt HB.out h
 obtain⟨b,hb⟩:=ex w.heap.size
 obtain⟨b1,ax⟩:=ex W1.heap.size
 obtain⟨b2,ay⟩:=ex W2.heap.size
 have HH:Hid (∀ u,Below W3.heap.size W3 u->u.heap[b]?=some (.cells (pCells p D C G dc cc gc) 42 (0,0))/\u.heap[b1]?=some (.cells #[.string ⟨key.toArray⟩,.string ⟨t.toArray⟩,.int .i64 i] 25 (0,0))/\u.heap[b2]?=some (.cells zeroC 42 (0,0))):=fun u h=>by
  rw[<-hb,<-ax,<-ay]
  have h2:=bt al h
  have h1:=bt ak h2
  exact⟨(h1.block _ (by rw[<-af];simp)).trans (by rw[<-af];exact heap_alloc_new w _),(h2.block _ (by rw[<-ai];simp)).trans (by rw[<-ai];exact heap_alloc_new W1 _),(h.block _ (by rw[<-aj];simp)).trans (by rw[<-aj];exact heap_alloc_new W2 _)⟩
 have ac:Hid (b<b1/\b1<b2/\b2<W3.heap.size/\b<=b2):=by
  show _/\_
  rw[<-hb,<-ax,<-ay,<-aj,<-ai,<-af]
  refine⟨by simp,by simp,by simp,by simp;omega⟩
 have HM:Hid (MaxOk W3):=ah hw HB.out
 have HT:=zh ht
 have am:=zh hb
 have aA:=zh hp
 have aB:=zh hB
 have aC:=zh h0
 obtain⟨⟨c0,y0⟩,⟨c1,y1⟩,⟨c2,y2⟩,⟨c3,y3⟩,⟨c4,y4⟩,c5,y5⟩:=au (HH.out W3 (Below.refl _ _)).1
 obtain⟨f0,f1⟩:=eL (HH.out W3 (Below.refl _ _)).2.1
 obtain⟨⟨k0,z0⟩,⟨k1,z1⟩,⟨k2,z2⟩,⟨k3,z3⟩,⟨k4,z4⟩,k5,z5⟩:=au (HH.out W3 (Below.refl _ _)).2.2
 clear ap ak al ab hp hw ht h0
 subst hkey
 rw[if_neg (by decide)] at hR
 have d0:(kCon==[80,97,99,107,97,103,101])=false:=by decide
 rw[if_neg (by decide)] at hR
 have d1:(kCon==[86,101,114,115,105,111,110])=false:=by decide
 rw[if_neg (by decide)] at hR
 have d2:(kCon==[68,101,112,101,110,100,115])=false:=by decide
 rw[if_pos rfl] at hR
 have d3:(kCon==[67,111,110,102,108,105,99,116,115])=true:=by decide
 have HC:Hid (Calls Tryz.prog 59 #[.string ⟨t.toArray⟩,.string ⟨#[59,32]⟩,.int .i64 16] W3 (Pg.ListRet ARow W3 (partsR atomR semi 16 t))):=kB t semi 16 W3 HM.out HT.out (by decide) (by decide) (by decide)
 obtain⟨E,hE⟩:=ex (partsR atomR semi 16 t)
 rw[hE] at HC hR
 have HR:=zh hR
 clear hR hE
 go_enter Tryz.func24,Tryz.ntmps24
 go_wp2_with fail
 refine HC.out.mono ?_
 rintro r u ⟨az,hr⟩
 have HU:=zh az
 clear az HC
 clear c0 y0 c1 y1 c2 y2 c3 y3 c4 y4 c5 y5 f0 f1 k0 z0 k1 z1 k2 z2 k3 z3 k4 z4 k5 z5
 obtain⟨⟨c0,y0⟩,⟨c1,y1⟩,⟨c2,y2⟩,⟨c3,y3⟩,⟨c4,y4⟩,c5,y5⟩:=au (HH.out u HU.out).1
 obtain⟨f0,f1⟩:=eL (HH.out u HU.out).2.1
 obtain⟨⟨k0,z0⟩,⟨k1,z1⟩,⟨k2,z2⟩,⟨k3,z3⟩,⟨k4,z4⟩,k5,z5⟩:=au (HH.out u HU.out).2.2
 cases E with
 | error y =>
  have HF:Hid (R=.error y):=HR.out.symm
  obtain⟨rfl,hy⟩:=hr
  have dy:decide (y=0)=false:=decide_eq_false hy
  have ae:=zh (HH.out u HU.out).2.2
  go_wp2_with fail
  (try simp only[Exit.inBlock,Exit.then])
  refine bodyPost_ret (bq ae.out p D C G dc cc gc _ rfl rfl) rfl ?_
  refine⟨aI (aq.out u HU.out) (by have:=ac.out;have:=am.out;omega) _ _ _ _ _ _ _,?_⟩
  rw[HF.out]
  exact⟨hy,_,_,_,_,_,_,_,rfl⟩
 | ok l =>
  have HF:Hid (R=.ok { p with confl:=l }):=HR.out.symm
  obtain⟨A,n,c,rfl,hn,ad,hf⟩:=hr
  subst hn
  have aD:=zh ad
  have an:Hid (AFr W3.heap.size A):=hf
  clear ad hf
  obtain⟨V,hV⟩:=ex ((u).setCell ⟨b,3,none⟩ (.slice A l.length c))
  obtain⟨g1,g2⟩:=kq (HH.out _ HU.out).1 (HH.out _ HU.out).2.2 (by have:=ac.out;omega) 3 (.slice A l.length c)
  rw[hV] at g1 g2
  have aE:Hid (Below w.heap.size w V):=by rw[<-hV];exact (aq.out _ HU.out).setCell (p:=⟨b,3,none⟩) (Nat.le_of_eq am.out) _
  have aF:Hid (But (some b) u V):=by rw[<-hV];exact aN _ ⟨b,3,none⟩ _
  have aH:=zh g1
  have ae:=zh g2
  obtain⟨⟨e0,_⟩,⟨e1,_⟩,⟨e2,_⟩,⟨e3,_⟩,⟨e4,_⟩,e5,_⟩:=au g1
  obtain⟨⟨l0,m0⟩,⟨l1,m1⟩,⟨l2,m2⟩,⟨l3,m3⟩,⟨l4,m4⟩,l5,m5⟩:=au g2
  clear g1 g2
  go_wp2_with fail
  (try simp only[Exit.inBlock,Exit.then])
  have ar:ARow V A l:=fq aD.out aF.out (fM an.out (by have:=ac.out;omega)) (fun g hg=>by cases hg;exact dS (HH.out u HU.out).1)
  have av:ARow (stP V b2 { p with confl:=l } D A G dc c gc) A l:=fq ar (cE V b2 { p with confl:=l } D A G dc c gc) (fM an.out (by have:=ac.out;omega)) (fun g hg=>by cases hg;exact cP ae.out)
  have aa:Below w.heap.size w (stP V b2 { p with confl:=l } D A G dc c gc):=aI aE.out (by have:=ac.out;have:=am.out;omega) { p with confl:=l } D A G dc c gc
  have aw:AFr B A:=fun a ha=>Nat.le_trans (Nat.le_trans aB.out HB.out.size) (an.out a ha)
  have ao:=cq aA.out aa
  have aG:=zh (show Pg.FillRet B w R (.returned (.tuple #[.agg (pCells { p with confl:=l } D A G dc c gc),.int .i64 0])) (stP V b2 { p with confl:=l } D A G dc c gc) from ⟨aa,by rw[HF.out];exact⟨D,dc,A,c,G,gc,rfl,⟨ao.1,⟨av,aw⟩,ao.2.2⟩,aC.out⟩⟩)
  clear ar av aa aw ao
  refine bodyPost_ret (bq ae.out { p with confl:=l } D A G dc c gc 0 ?q1 ?q2) ?q3 ?_
  case q3=>rfl
  case q1=>rfl
  case q2=>rfl
  exact aG.out
theorem Pg.aa2 (t:List UInt8):refOut t<Wm.W:=by
 unfold refOut
 split
 ·decide +kernel
 ·exact pS t
theorem vN (key t:List UInt8)(i:Int)(p:Pk)(D C G:Option Addr)(dc cc gc B:Nat)(w:World)(hw:MaxOk w)(hp:PRows B w p D C G)(hB:B<=w.heap.size)(ht:t.length<=1000)(h0:Nil0 p D dc G gc)(hkey:key=kWei) :
  Calls Tryz.prog 24 #[.agg #[.string ⟨p.name.toArray⟩,.string ⟨p.ver.toArray⟩,.slice D p.deps.length dc,.slice C p.confl.length cc,.slice G p.prov.length gc,.float .f64 p.wt],.agg #[.string ⟨key.toArray⟩,.string ⟨t.toArray⟩,.int .i64 i]] w (FillRet B w (takeR p key t)):=by
 obtain⟨R,hR⟩:=ex (takeR p key t)
 rw[hR]
 unfold takeR at hR
 obtain⟨W1,af⟩:=ex (w.alloc (.cells #[.string ⟨p.name.toArray⟩,.string ⟨p.ver.toArray⟩,.slice D p.deps.length dc,.slice C p.confl.length cc,.slice G p.prov.length gc,.float .f64 p.wt] 42))
 obtain⟨W2,ai⟩:=ex (W1.alloc (.cells #[.string ⟨key.toArray⟩,.string ⟨t.toArray⟩,.int .i64 i] 25))
 obtain⟨W3,aj⟩:=ex (W2.alloc (.cells zeroC 42))
 have aq:Below w.heap.size w W1:=ag af
 have ak:Below W1.heap.size W1 W2:=ag ai
 have al:Below W2.heap.size W2 W3:=ag aj
 have aa:Below W1.heap.size W1 W3:=bt ak al
 have HB:Hid (Below w.heap.size w W3):=bt aq aa
 have am:Hid (∀ u,Below W3.heap.size W3 u->Below w.heap.size w u):=fun u h=>bt HB.out h
 obtain⟨b,hb⟩:=ex w.heap.size
 obtain⟨b1,aw⟩:=ex W1.heap.size
 obtain⟨b2,ax⟩:=ex W2.heap.size
 have HH:Hid (∀ u,Below W3.heap.size W3 u->u.heap[b]?=some (.cells (pCells p D C G dc cc gc) 42 (0,0))/\u.heap[b1]?=some (.cells #[.string ⟨key.toArray⟩,.string ⟨t.toArray⟩,.int .i64 i] 25 (0,0))/\u.heap[b2]?=some (.cells zeroC 42 (0,0))):=fun u h=>by
  rw[<-hb,<-aw,<-ax]
  have h2:=bt al h
  have h1:=bt ak h2
  exact⟨(h1.block _ (by rw[<-af];simp)).trans (by rw[<-af];exact heap_alloc_new w _),(h2.block _ (by rw[<-ai];simp)).trans (by rw[<-ai];exact heap_alloc_new W1 _),(h.block _ (by rw[<-aj];simp)).trans (by rw[<-aj];exact heap_alloc_new W2 _)⟩
 have ad:Hid (b<b1/\b1<b2/\b2<W3.heap.size/\b<=b2):=by
  show _/\_
  rw[<-hb,<-aw,<-ax,<-aj,<-ai,<-af]
  refine⟨by simp,by simp,by simp,by simp;omega⟩
 have HM:Hid (MaxOk W3):=ah hw HB.out
 have HT:=zh ht
 have ae:=zh hb
 have ay:=zh hp
 have aB:=zh hB
 have az:=zh h0
 obtain⟨⟨c0,y0⟩,⟨c1,y1⟩,⟨c2,y2⟩,⟨c3,y3⟩,⟨c4,y4⟩,c5,y5⟩:=au (HH.out W3 (Below.refl _ _)).1
 obtain⟨f0,f1⟩:=eL (HH.out W3 (Below.refl _ _)).2.1
 obtain⟨⟨k0,z0⟩,⟨k1,z1⟩,⟨k2,z2⟩,⟨k3,z3⟩,⟨k4,z4⟩,k5,z5⟩:=au (HH.out W3 (Below.refl _ _)).2.2
 clear aq ak al aa hp hw ht h0
 subst hkey
 rw[if_neg (by decide)] at hR
 have d0:(kWei==[80,97,99,107,97,103,101])=false:=by decide
 rw[if_neg (by decide)] at hR
 have d1:(kWei==[86,101,114,115,105,111,110])=false:=by decide
 rw[if_neg (by decide)] at hR
 have d2:(kWei==[68,101,112,101,110,100,115])=false:=by decide
 rw[if_neg (by decide)] at hR
 have d3:(kWei==[67,111,110,102,108,105,99,116,115])=false:=by decide
 rw[if_neg (by decide)] at hR
 have d4:(kWei==[80,114,111,118,105,100,101,115])=false:=by decide
 rw[if_pos rfl] at hR
 have d5:(kWei==[87,101,105,103,104,116])=true:=by decide
 unfold wtR at hR
 have ar:refEnd t=.returned (.tuple #[.float .f64 (refOut t),.int .i64 (errW t)]):=rfl
 have HC:=zh (tU t HT.out W3)
 have an:chkW (refOut t)=chkW (outW t)/\(chkW (outW t)=0->refOut t=outW t):=by
  unfold refOut
  split
  ·next e=>subst e;exact⟨by decide +kernel,fun h=>absurd h (by decide +kernel)⟩
  ·exact⟨rfl,fun _=>rfl⟩
 have av:Hid (refOut t<Wm.W):=aa2 t
 rw[ar] at HC
 obtain⟨k,hk⟩:=ex (errW t)
 obtain⟨x,hx⟩:=ex (refOut t)
 obtain⟨x2,ap⟩:=ex (outW t)
 rw[hk,ap] at hR
 rw[hk,hx] at HC
 rw[hx,ap] at an
 rw[hx] at av
 have HR:=zh hR
 have HK:=zh an
 clear hR hk hx ap ar an
 go_enter Tryz.func24,Tryz.ntmps24
 go_wp2_with fail
 refine HC.out.mono ?_
 rintro _ _ ⟨rfl,rfl⟩
 clear HC
 have HU:Hid (Below W3.heap.size W3 W3):=Below.refl _ _
 by_cases hy:k=0
 case neg =>
  have HF:Hid (R=.error k):=by show _=_;rw[<-HR.out,if_neg hy]
  have dy:decide (k=0)=false:=decide_eq_false hy
  obtain⟨y,rfl⟩:=ex k
  have ab:=zh (HH.out W3 HU.out).2.2
  go_wp2_with fail
  (try simp only[Exit.inBlock,Exit.then])
  refine bodyPost_ret (bq ab.out p D C G dc cc gc _ rfl rfl) rfl ?_
  refine⟨aI (am.out W3 HU.out) (by have:=ad.out;have:=ae.out;omega) _ _ _ _ _ _ _,?_⟩
  rw[HF.out]
  exact⟨hy,_,_,_,_,_,_,_,rfl⟩
 subst hy
 have ao:=zh (rr x av.out W3)
 obtain⟨q,hq⟩:=ex (chkW x)
 rw[hq] at ao
 have HQ:=zh hq
 clear hq
 go_wp2_with fail
 refine ao.out.mono ?_
 rintro _ _ ⟨rfl,rfl⟩
 clear ao
 by_cases hy:q=0
 case neg =>
  have HF:Hid (R=.error q):=by show _=_;rw[<-HR.out,if_pos trivial,<-HK.out.1,HQ.out,if_neg hy]
  have dy:decide (q=0)=false:=decide_eq_false hy
  have ab:=zh (HH.out W3 HU.out).2.2
  go_wp2_with fail
  (try simp only[Exit.inBlock,Exit.then])
  refine bodyPost_ret (bq ab.out p D C G dc cc gc _ rfl rfl) rfl ?_
  refine⟨aI (am.out W3 HU.out) (by have:=ad.out;have:=ae.out;omega) _ _ _ _ _ _ _,?_⟩
  rw[HF.out]
  exact⟨hy,_,_,_,_,_,_,_,rfl⟩
 subst hy
 have HF:Hid (R=.ok { p with wt:=x }):=by
  have h1:chkW x2=0:=HK.out.1.symm.trans HQ.out
  show _=_
  rw[<-HR.out,if_pos trivial,if_pos h1,HK.out.2 h1]
 obtain⟨V,hV⟩:=ex ((W3).setCell ⟨b,5,none⟩ (.float .f64 x))
 obtain⟨g1,g2⟩:=kq (HH.out _ HU.out).1 (HH.out _ HU.out).2.2 (by have:=ad.out;omega) 5 (.float .f64 x)
 rw[hV] at g1 g2
 have aA:Hid (Below w.heap.size w V):=by rw[<-hV];exact (am.out _ HU.out).setCell (p:=⟨b,5,none⟩) (Nat.le_of_eq ae.out) _
 have aC:Hid (But (some b) W3 V):=by rw[<-hV];exact aN _ ⟨b,5,none⟩ _
 have aD:=zh g1
 have ab:=zh g2
 obtain⟨⟨e0,_⟩,⟨e1,_⟩,⟨e2,_⟩,⟨e3,_⟩,⟨e4,_⟩,e5,_⟩:=au g1
 obtain⟨⟨l0,m0⟩,⟨l1,m1⟩,⟨l2,m2⟩,⟨l3,m3⟩,⟨l4,m4⟩,l5,m5⟩:=au g2
 clear g1 g2
 go_wp2_with fail
 (try simp only[Exit.inBlock,Exit.then])
 refine bodyPost_ret (bq ab.out { p with wt:=x } D C G dc cc gc 0 rfl rfl) rfl ?_
 have ac:Below w.heap.size w (stP V b2 { p with wt:=x } D C G dc cc gc):=aI aA.out (by have:=ad.out;have:=ae.out;omega) _ _ _ _ _ _ _
 refine⟨ac,?_⟩
 rw[HF.out]
 exact⟨D,dc,_,_,G,gc,rfl,cq ay.out ac,az.out⟩
end
section
open Go.RowKit Rs At Pg
namespace Pg
theorem fO {s m:List UInt8}(hm:m≠[]):1<=(Lib.split s m).length:=by
 unfold Lib.split
 rw[(eZ hm _ _ s rfl).2];omega
theorem qQ {β:Type}{rd:List UInt8->Except Int β}{Q:β->Prop}(hr:∀ t x,rd t=.ok x->Q x):∀ (l:List (List UInt8)) (acc r:List β),rdL rd acc l=.ok r->(∀ x∈acc,Q x)->∀ x∈r,Q x
 | [],acc,r,h,ha=>by cases h;exact ha
 | t :: l,acc,r,h,ha=>by
  cases ht:rd t with
  | error e=>rw[cm ht] at h;cases h
  | ok x =>
   rw[eh ht] at h
   refine qQ hr l _ r h fun y hy=>?_
   rcases List.mem_append.1 hy with hy | hy
   ·exact ha y hy
   ·rw[List.mem_singleton.1 hy];exact hr t x ht
theorem fa {β:Type}{rd:List UInt8->Except Int β}{Q:β->Prop}(hr:∀ t x,rd t=.ok x->Q x){sep t:List UInt8}(hs:sep≠[]){most:Nat}{r:List β}(h:partsR rd sep most t=.ok r):1<=r.length/\r.length<=most/\∀ x∈r,Q x:=by
 unfold partsR at h
 split at h
 ·rename_i hl
  have h1:=wY _ _ _ h
  have h2:=fO (s:=t) hs
  rw[List.length_nil,Nat.zero_add] at h1
  exact⟨by omega,by omega,qQ hr _ _ _ h (by simp)⟩
 ·cases h
theorem qR {t:List UInt8}{a:Atm}(h:atomR t=.ok a):checkA a=0:=by
 unfold atomR at h
 split at h
 ·rename_i h0
  cases h
  exact vl (s:=t) (Prod.ext h0 rfl)
 ·cases h
theorem lR:∀ {l:List Atm},(∀ a∈l,checkA a=0)->atomsE l=0
 | [],_=>rfl
 | a :: l,h=>by
  unfold atomsE
  rw[if_pos (h a (by simp))]
  exact lR fun x hx=>h x (by simp[hx])
theorem qS:∀ {l:List Gv},(∀ a∈l,giveE a=0)->givesE l=0
 | [],_=>rfl
 | a :: l,h=>by
  unfold givesE
  rw[if_pos (h a (by simp))]
  exact qS fun x hx=>h x (by simp[hx])
theorem ui:∀ {l:List (List Atm)},(∀ d∈l,1<=d.length/\d.length<=8/\atomsE d=0)->depsE l=0
 | [],_=>rfl
 | a :: l,h=>by
  obtain⟨h1,h2,h3⟩:=h a (by simp)
  unfold depsE
  rw[if_pos ⟨h1,h2⟩,if_pos h3]
  exact ui fun x hx=>h x (by simp[hx])
theorem acX {t:List UInt8}{d:List Atm}(h:depR t=.ok d):1<=d.length/\d.length<=8/\atomsE d=0:=by
 obtain⟨h1,h2,h3⟩:=fa (Q:=fun a=>checkA a=0) (fun _ _=>qR) (by decide) h
 exact⟨h1,h2,lR h3⟩
theorem lS {v:List UInt8}(h:Vm.check v=0):verE (canonOf v)=0:=by
 rw[canonOf,if_pos h]
 unfold verE
 rw[if_pos (Vm.mr h),if_pos (Vm.mu h)]
theorem aez {t:List UInt8}{g:Gv}(h:gvR t=.ok g):giveE g=0:=by
 unfold gvR at h
 split at h
 ·rename_i h1
  split at h
  ·split at h
   ·rename_i h3
    cases h
    unfold giveE
    rw[if_pos h1]
    split
    ·rfl
    ·exact lS h3
   ·cases h
  ·cases h
   unfold giveE
   rw[if_pos h1,if_pos rfl]
 ·cases h
theorem aeA {t:List UInt8}{b:Nat}(h:wtR t=.ok b):chkW b=0:=by
 unfold wtR at h
 split at h
 ·split at h
  ·rename_i h1;cases h;exact h1
  ·cases h
 ·cases h
def PInv (q:Pk):Prop:=q.deps.length<=16/\depsE q.deps=0/\q.confl.length<=16/\atomsE q.confl=0/\q.prov.length<=16/\givesE q.prov=0/\chkW q.wt=0
theorem aa3:PInv zeroP:=by unfold PInv;decide +kernel
theorem acY {p q:Pk}{k v:List UInt8}(h:takeR p k v=.ok q)(hp:PInv p):PInv q/\(nameB q.name=true\/(k≠kPkg/\q.name=p.name))/\(verE q.ver=0\/(k≠kVer/\q.ver=p.ver)):=by
 obtain⟨p1,p2,p3,p4,p5,p6,p7⟩:=hp
 unfold takeR at h
 by_cases k1:k=kPkg
 ·rw[if_pos k1] at h
  split at h
  ·rename_i h1;cases h
   exact⟨⟨p1,p2,p3,p4,p5,p6,p7⟩,Or.inl h1,Or.inr ⟨by rw[k1];decide,rfl⟩⟩
  ·cases h
 rw[if_neg k1] at h
 by_cases k2:k=kVer
 ·rw[if_pos k2] at h
  split at h
  ·rename_i h1;cases h
   exact⟨⟨p1,p2,p3,p4,p5,p6,p7⟩,Or.inr ⟨k1,rfl⟩,Or.inl (lS h1)⟩
  ·cases h
 rw[if_neg k2] at h
 by_cases k3:k=kDep
 ·rw[if_pos k3] at h
  split at h
  ·rename_i l h1;cases h
   obtain⟨_,h2,h3⟩:=fa (fun _ _=>acX) (by decide) h1
   exact⟨⟨h2,ui h3,p3,p4,p5,p6,p7⟩,Or.inr ⟨k1,rfl⟩,Or.inr ⟨k2,rfl⟩⟩
  ·cases h
 rw[if_neg k3] at h
 by_cases k4:k=kCon
 ·rw[if_pos k4] at h
  split at h
  ·rename_i l h1;cases h
   obtain⟨_,h2,h3⟩:=fa (fun _ _=>qR) (by decide) h1
   exact⟨⟨p1,p2,h2,lR h3,p5,p6,p7⟩,Or.inr ⟨k1,rfl⟩,Or.inr ⟨k2,rfl⟩⟩
  ·cases h
 rw[if_neg k4] at h
 by_cases k5:k=kPro
 ·rw[if_pos k5] at h
  split at h
  ·rename_i l h1;cases h
   obtain⟨_,h2,h3⟩:=fa (fun _ _=>aez) (by decide) h1
   exact⟨⟨p1,p2,p3,p4,h2,qS h3,p7⟩,Or.inr ⟨k1,rfl⟩,Or.inr ⟨k2,rfl⟩⟩
  ·cases h
 rw[if_neg k5] at h
 by_cases k6:k=kWei
 ·rw[if_pos k6] at h
  split at h
  ·rename_i l h1;cases h
   exact⟨⟨p1,p2,p3,p4,p5,p6,aeA h1⟩,Or.inr ⟨k1,rfl⟩,Or.inr ⟨k2,rfl⟩⟩
  ·cases h
 rw[if_neg k6] at h
 cases h
 exact⟨⟨p1,p2,p3,p4,p5,p6,p7⟩,Or.inr ⟨k1,rfl⟩,Or.inr ⟨k2,rfl⟩⟩
theorem qT (f:Sz.Fld)(l:List Sz.Fld)(k:List UInt8):Sz.hasK (f :: l) k=(f.key==k||Sz.hasK l k):=rfl
theorem qU:∀ (l:List Sz.Fld) (i:Nat) (p q:Pk),readR i p l=.ok q->PInv p->PInv q/\(nameB p.name=true\/Sz.hasK l kPkg=true->nameB q.name=true)/\(verE p.ver=0\/Sz.hasK l kVer=true->verE q.ver=0)
 | [],i,p,q,h,hp=>by
  cases h
  exact⟨hp,fun h=>h.resolve_right (by decide),fun h=>h.resolve_right (by decide)⟩
 | f :: l,i,p,q,h,hp=>by
  cases ht:takeR p f.key f.val with
  | error e=>rw[ei ht] at h;cases h
  | ok r =>
   rw[im ht] at h
   obtain⟨t1,t2,t3⟩:=acY ht hp
   obtain⟨r1,r2,r3⟩:=qU l _ _ _ h t1
   refine⟨r1,fun hh=>r2 ?_,fun hh=>r3 ?_⟩
   ·rcases t2 with t2 | ⟨t2,t4⟩
    ·exact Or.inl t2
    ·rw[t4]
     refine hh.imp id fun hh=>?_
     rw[qT,beq_eq_false_iff_ne.2 t2,Bool.false_or] at hh
     exact hh
   ·rcases t3 with t3 | ⟨t3,t4⟩
    ·exact Or.inl t3
    ·rw[t4]
     refine hh.imp id fun hh=>?_
     rw[qT,beq_eq_false_iff_ne.2 t3,Bool.false_or] at hh
     exact hh
theorem aa4 {s:List Sz.Fld}{p:Pk}(h:readP s=.ok p):checkP p=0:=by
 unfold readP at h
 split at h
 ·split at h
  ·rename_i hk
   rw[Sz.tL,Sz.tL,Bool.and_eq_true] at hk
   obtain⟨⟨q1,q2,q3,q4,q5,q6,q7⟩,h1,h2⟩:=qU s 0 zeroP p h aa3
   have n:=h1 (Or.inr hk.1)
   have v:=h2 (Or.inr hk.2)
   unfold checkP
   rw[if_neg (by rw[n];decide),if_neg (by rw[v];decide),if_neg (by omega),if_neg (by rw[q2];decide),if_neg (by omega),if_neg (by rw[q4];decide),if_neg (by omega),if_neg (by rw[q6];decide),q7]
  ·cases h
 ·cases h
end Pg
end
section
open Go.RowKit At
theorem Pg.aa5 (t:List UInt8):(∃ r,Lib.split t isT=(Lib.cut t isT).1 :: r)/\(Lib.cut t isT).2.2=decide (1<(Lib.split t isT).length)/\((Lib.cut t isT).2.2=true->(Lib.cut t isT).1.length+3<=t.length/\(Lib.cut t isT).2.1=t.drop ((Lib.cut t isT).1.length+3)):=by
 rcases Lib.index_spec t isT with⟨h,_⟩ | ⟨i,h,hi,_,_⟩
 ·have hc:Lib.cut t isT=(t,[],false):=by unfold Lib.cut;rw[if_neg (by omega)]
  rw[hc,om h]
  exact⟨⟨[],rfl⟩,rfl,fun e=>by cases e⟩
 ·have hr:=Lib.index_room t isT (by omega)
  have hl:isT.length=3:=rfl
  have hc:Lib.cut t isT=(t.take i,t.drop (i+3),true):=by unfold Lib.cut;rw[if_pos (by omega),h,hl];rfl
  have hs:=lg (by decide) h
  have hp:=fO (s:=t.drop (i+isT.length)) (m:=isT) (by decide)
  have h3:(t.take i).length=i:=by rw[List.length_take];omega
  rw[hc,hs]
  refine⟨⟨_,rfl⟩,?_,fun _=>?_⟩
  ·rw[List.length_cons]
   exact (decide_eq_true (by omega)).symm
  ·show (t.take i).length+3<=_/\t.drop (i+3)=t.drop ((t.take i).length+3)
   rw[h3]
   exact⟨by omega,rfl⟩
theorem Pg.aa6 {t:List UInt8}{n:Nat}(h:(Lib.split t isT).length=n):0<n:=by
 have:=fO (s:=t) (m:=isT) (by decide)
 omega
end
end Go.Proofs.YtkaeamjnphaadaaGreatDoor

/- Part 36 of what the laws lean on. -/
import Derived.Test.YtkaeamjnphaadaaGreatDoorL35
set_option maxRecDepth 100000
set_option maxHeartbeats 6400000
namespace Go.Proofs.YtkaeamjnphaadaaGreatDoor
section
open Go.RowKit Rs At Pg
namespace Pg
theorem qV (ks:List (List UInt8)):∀ (l:List Sz.Fld) (i:Nat) (last:Int),(Sz.ordP ks i last l).2=0->(∀ f∈l,∃ p:Nat,Sz.placeOf ks f.key=some p/\last<p)/\l.Pairwise (fun f g=>f.key≠g.key)
 | [],_,_,_=>⟨fun f h=>(by cases h),List.Pairwise.nil⟩
 | f :: l,i,last,h=>by
  rw[Sz.ordP] at h
  split at h
  ·exact absurd h (show (10:Int)≠0 by decide)
  ·rename_i p hp
   split at h
   ·rename_i aa
    obtain⟨h1,h2⟩:=qV ks l _ _ h
    refine⟨fun g hg=>?_,List.Pairwise.cons (fun g hg e=>?_) h2⟩
    ·rcases List.mem_cons.1 hg with rfl | hg
     ·exact⟨p,hp,aa⟩
     ·obtain⟨q,hq,ab⟩:=h1 g hg
      exact⟨q,hq,by omega⟩
    ·obtain⟨q,hq,ab⟩:=h1 g hg
     rw[<-e,hp] at hq
     cases hq
     omega
   ·exact absurd h (show (7:Int)≠0 by decide)
theorem aeB {k:List UInt8}{p:Nat}(h:Sz.placeOf keys6 k=some p):k=kPkg\/k=kVer\/k=kDep\/k=kCon\/k=kPro\/k=kWei:=by
 have h1:(keys6.any (. == k))=true:=by
  rw[<-List.findIdx?_isSome]
  show (Sz.placeOf keys6 k).isSome=true
  rw[h];rfl
 obtain⟨x,hx,he⟩:=List.any_eq_true.1 h1
 have aa:x=k:=by simpa using he
 subst aa
 simpa [keys6] using hx
theorem aa7 {p q:Pk}{k v:List UInt8}(h:takeR p k v=.ok q)(hk:k≠kDep):q.deps=p.deps:=by
 unfold takeR at h
 repeat' split at h
 all_goals first | (cases h;rfl) | (cases h;done) | (exact absurd (by assumption) hk)
theorem aa8 {p q:Pk}{k v:List UInt8}(h:takeR p k v=.ok q)(hk:k≠kPro):q.prov=p.prov:=by
 unfold takeR at h
 repeat' split at h
 all_goals first | (cases h;rfl) | (cases h;done) | (exact absurd (by assumption) hk)
def Later (l:List Sz.Fld) (q:Pk):Prop:=(∀ f∈l,f.key=kDep->q.deps=[])/\∀ f∈l,f.key=kPro->q.prov=[]
theorem later_next {f:Sz.Fld}{l:List Sz.Fld}{q q':Pk}(h:Later (f :: l) q)(hp:(f :: l).Pairwise (fun f g=>f.key≠g.key))(ht:takeR q f.key f.val=.ok q'):Later l q':=by
 have ab:=(List.pairwise_cons.1 hp).1
 refine⟨fun g hg e=>?_,fun g hg e=>?_⟩
 ·have aa:f.key≠kDep:=fun e2=>ab g hg (e2.trans e.symm)
  rw[aa7 ht aa]
  exact h.1 g (List.mem_cons_of_mem _ hg) e
 ·have aa:f.key≠kPro:=fun e2=>ab g hg (e2.trans e.symm)
  rw[aa8 ht aa]
  exact h.2 g (List.mem_cons_of_mem _ hg) e
theorem uj {u:World}{b:Nat}{T:TypeId}{x0 x1 x2 x3 x4 x5:Value}(h:u.heap[b]?=some (.cells #[x0,x1,x2,x3,x4,x5] T (0,0)))(p:Pk)(D C G:Option Addr)(dc cc gc:Nat):(stP u b p D C G dc cc gc).heap[b]?=some (.cells (pCells p D C G dc cc gc) T (0,0)):=by
 unfold stP
 exact (aA (aA (aA (aA (aA (aA h)))))).trans rfl
theorem aa9:Nil0 zeroP none 0 none 0:=⟨fun _=>⟨rfl,rfl⟩,fun _=>⟨rfl,rfl⟩⟩
end Pg
theorem Pg.qW {u:World}{b:Nat}(h:u.heap[b]?=some (.cells zeroC 42 (0,0)))(p:Pk)(D C G:Option Addr)(dc cc gc:Nat)(i k:Int){tmps:Array Value}(ht:tmps.getD 2 undef=.pointer (some ⟨b,0,none⟩))(h3:tmps.getD 3 undef=.int .i64 i)(h4:tmps.getD 4 undef=.int .i64 k) :
  (results Tryz.f7 tmps).run Tryz.prog (stP u b p D C G dc cc gc)=.ok (.tuple #[.agg (pCells p D C G dc cc gc),.int .i64 i,.int .i64 k]) (stP u b p D C G dc cc gc):=by
 obtain⟨g0,g1,g2,g3,g4,g5⟩:=aL (fu h p D C G dc cc gc)
 have hr:Tryz.f7.results=#[.cell 2 42,.tmp 3,.tmp 4]:=Tryz.results7
 simp only[results,hr]
 generalize stP u b p D C G dc cc gc=V at *
 simp only[Array.getD_eq_getD_getElem?] at ht h3 h4 ⊢
 simp[go_sem,ht,h3,h4,g0,g1,g2,g3,g4,g5]
abbrev Pg.sixZ (u:World) (b:Nat):World:=(((((u.setCell ⟨b,0,none⟩ (.string ⟨#[]⟩)).setCell ⟨b,1,none⟩ (.string ⟨#[]⟩)).setCell ⟨b,2,none⟩ (.slice none 0 0)).setCell ⟨b,3,none⟩ (.slice none 0 0)).setCell ⟨b,4,none⟩ (.slice none 0 0)).setCell ⟨b,5,none⟩ (.float .f64 0)
theorem Pg.aba {u:World}{b:Nat}{T:TypeId}(h:u.heap[b]?=some (.cells zeroC T (0,0))):(sixZ u b).heap[b]?=some (.cells zeroC T (0,0)):=fu (p:=zeroP) (D:=none) (C:=none) (G:=none) (dc:=0) (cc:=0) (gc:=0) h
theorem Pg.o7 {B:Nat}{w u:World}{b:Nat}(h:Below B w u)(hb:B<=b):Below B w (sixZ u b):=aI h hb zeroP none none none 0 0 0
theorem Pg.acZ (u:World)(b:Nat):But (some b) u (sixZ u b):=cE u b zeroP none none none 0 0 0
theorem Pg.iX {u:World}{b:Nat}(h:u.heap[b]?=some (.cells zeroC 42 (0,0)))(i k:Int){tmps:Array Value}(ht:tmps.getD 2 undef=.pointer (some ⟨b,0,none⟩))(h3:tmps.getD 3 undef=.int .i64 i)(h4:tmps.getD 4 undef=.int .i64 k) :
  (results Tryz.f7 tmps).run Tryz.prog (sixZ u b)=.ok (.tuple #[.agg zeroC,.int .i64 i,.int .i64 k]) (sixZ u b):=qW h zeroP none none none 0 0 0 i k ht h3 h4
theorem Pg.kr {w u:World}{b:Nat}{X:Int × Int × Pk}{i k:Int}(hb:Below w.heap.size w u)(hl:w.heap.size=b)(hX:X=(k,i,zeroP)):FromRet w X (.returned (.tuple #[.agg zeroC,.int .i64 i,.int .i64 k])) (sixZ u b):=by
 subst hX
 exact⟨o7 hb (Nat.le_of_eq hl),none,0,none,0,none,0,rfl,iW _ _⟩
attribute [local go_sem ↓] Go.wp_at_zero Go.wp_at_succ
attribute [local go_sem] Pg.a8
theorem vR (key t:List UInt8)(i:Int)(p:Pk)(D C G:Option Addr)(dc cc gc B:Nat)(w:World)(hw:MaxOk w)(hp:PRows B w p D C G)(hB:B<=w.heap.size)(ht:t.length<=1000)(h0:Nil0 p D dc G gc)(hkey:key=kPkg\/key=kVer\/key=kDep\/key=kCon\/key=kPro\/key=kWei)(hd:key=kDep->p.deps=[])(hg:key=kPro->p.prov=[]) :
  Calls Tryz.prog 24 #[.agg #[.string ⟨p.name.toArray⟩,.string ⟨p.ver.toArray⟩,.slice D p.deps.length dc,.slice C p.confl.length cc,.slice G p.prov.length gc,.float .f64 p.wt],.agg #[.string ⟨key.toArray⟩,.string ⟨t.toArray⟩,.int .i64 i]] w (FillRet B w (takeR p key t)):=by
 rcases hkey with h | h | h | h | h | h
 ·exact uh key t i p D C G dc cc gc B w hw hp hB ht h0 h
 ·exact vL key t i p D C G dc cc gc B w hw hp hB ht h0 h
 ·exact vQ key t i p D C G dc cc gc B w hw hp hB ht h0 h (hd h)
 ·exact vM key t i p D C G dc cc gc B w hw hp hB ht h0 h
 ·exact vO key t i p D C G dc cc gc B w hw hp hB ht h0 h (hg h)
 ·exact vN key t i p D C G dc cc gc B w hw hp hB ht h0 h
theorem vS (A:Option Addr)(n c:Nat)(l:List Sz.Fld)(w:World)(hw:MaxOk w)(hn:l.length=n)(hr:Rg.Row Sz.encF 3 w A l)(hl:n<=1000)(hv:∀ f∈l,f.val.length<=1000) :
  Calls Tryz.prog 7 #[.slice A n c] w (Pg.FromRet w (fromP l)):=by
 obtain⟨X,hX⟩:=ex (fromP l)
 rw[hX]
 unfold fromP at hX
 obtain⟨R,hR⟩:=ex (readP l)
 rw[hR] at hX
 unfold readP at hR
 obtain⟨⟨oi,oe⟩,hO⟩:∃ O,Sz.ordP keys6 0 (-1) l=O:=⟨_,rfl⟩
 rw[hO] at hR
 have bc:Hid (oe=0->(∀ f∈l,∃ p:Nat,Sz.placeOf keys6 f.key=some p/\(-1:Int)<p)/\l.Pairwise (fun f g=>f.key≠g.key)):=fun h=>qV keys6 l 0 (-1) (by rw[hO];exact h)
 obtain⟨W1,aL⟩:=ex (w.alloc (.cells zeroC 42))
 have HB:Hid (Below w.heap.size w W1):=ag aL
 have az:Hid (∀ u,Below W1.heap.size W1 u->Below w.heap.size w u):=fun u h=>bt HB.out h
 obtain⟨b,hb⟩:=ex w.heap.size
 have HZ:Hid (∀ u,Below W1.heap.size W1 u->u.heap[b]?=some (.cells zeroC 42 (0,0))):=fun u h=>by
  rw[<-hb]
  exact (h.block _ (by rw[<-aL];simp)).trans (by rw[<-aL];exact heap_alloc_new w _)
 have am:=zh hb
 have bG:Hid (W1.heap.size=b+1):=by show _=_;rw[<-aL,<-hb];simp
 have bd:Hid (∀ u,Calls Tryz.prog 22 #[] u fun e w'=>e=.returned (.slice (some ⟨u.heap.size,0,none⟩) 6 6)/\Rg.Row encT 1 w' (some ⟨u.heap.size,0,none⟩) keys6/\Below u.heap.size u w'):=vP
 have aP:Hid (∀ u,Below w.heap.size w u->Rg.Row Sz.encF 3 u A l):=fun u h=>Rg.ai hr h
 have be:Hid (∀ u K,Below w.heap.size w u->Rg.Row encT 1 u K keys6->Calls Tryz.prog 21 #[.slice A n c,.slice K 6 6] u fun e w'=>e=.returned (.tuple #[.int .i64 oi,.int .i64 oe])/\Below u.heap.size u w'):=fun u K h hk=>by
  have h1:=tV A n c l K 6 6 keys6 u hn (aP.out u h) (by omega) rfl hk (by decide)
  rw[hO] at h1
  exact h1
 have bf:Hid (∀ u key,Below w.heap.size w u->Calls Tryz.prog 23 #[.slice A n c,.string ⟨key.toArray⟩] u (Sz.GotRet u (Sz.getF l key))):=fun u key h=>yC A n c l key u hn (aP.out u h) (by omega)
 have bI:Hid (∀ u,Below w.heap.size w u->MaxOk u):=fun u h=>ah hw h
 have HN:=zh hn
 have aQ:=zh hX
 have aX:=zh hR
 have HV:=zh hv
 clear hw hn hr hv hX hR hO
 go_enter Tryz.func7,Tryz.ntmps7
 go_wp2_with fail
 clear aL
 refine (bd.out _).mono ?_
 rintro _ u1 ⟨rfl,bu,a9⟩
 have bg:=zh bu
 have bh:=zh a9
 have bi:=zh (az.out _ a9)
 clear bu a9
 go_wp2_with fail
 refine (be.out _ _ bi.out bg.out).mono ?_
 rintro _ u2 ⟨rfl,bv⟩
 have aY:Hid (Below W1.heap.size W1 u2):=bt bh.out bv
 have bj:=zh (az.out _ aY.out)
 clear bv bg bi bh be bd
 by_cases ho:oe=0
 case neg =>
  have HX:Hid (X=(oe,oi,zeroP)):=by show _=_;rw[<-aQ.out,<-aX.out,if_neg ho]
  have d0:(oe != 0)=true:=by simpa using ho
  have ax:=zh (HZ.out _ aY.out)
  obtain⟨⟨k0,z0⟩,⟨k1,z1⟩,⟨k2,z2⟩,⟨k3,z3⟩,⟨k4,z4⟩,k5,z5⟩:=au ax.out
  clear ho
  go_wp2_with fail
  (try simp only[Exit.inBlock,Exit.then])
  refine bodyPost_ret (iX (ax.out) oi oe ?q1 ?q2 ?q3) ?q4 ?_
  case q4=>rfl
  case q1=>rfl
  case q2=>rfl
  case q3=>rfl
  exact kr bj.out am.out HX.out
 subst ho
 obtain⟨bw,an⟩:=bc.out rfl
 have bJ:=zh bw
 have bK:=zh an
 have av:Hid ((if (Sz.getF l kPkg).isSome&&(Sz.getF l kVer).isSome then readR 0 zeroP l else .error (0,10))=R):=by show _=_;rw[<-aX.out,if_pos rfl]
 clear bw an bc aX
 have aZ:=zh (bf.out u2 kPkg bj.out)
 obtain⟨f1,bx⟩:=ex (Sz.getF l kPkg)
 rw[bx] at aZ av
 obtain⟨f2,ba⟩:=ex (Sz.getF l kVer)
 rw[ba] at av
 have bk:=zh ba
 clear bx ba
 go_wp2_with fail
 refine aZ.out.mono ?_
 rintro _ u3 ⟨rfl,ar⟩
 obtain⟨⟨x0,x1,x2⟩,hx⟩:∃ x,f1.getD ⟨[],[],0⟩=x:=⟨_,rfl⟩
 rw[hx]
 dsimp only
 obtain⟨a,ha⟩:=ex f1.isSome
 rw[ha] at av ⊢
 have ab:Hid (Below W1.heap.size W1 u3):=bt aY.out ar
 obtain⟨V3,bz⟩:=ex (u3.alloc (.cells #[.string ⟨x0.toArray⟩,.string ⟨x1.toArray⟩,.int .i64 x2] 25))
 have aA:Hid (Below W1.heap.size W1 V3):=ab.out.trans ((ag bz).mono ab.out.size)
 have a0:=zh (bf.out V3 kVer (az.out _ aA.out))
 rw[bk.out] at a0
 clear ar hx ha aZ ab
 go_wp2_with fail
 refine a0.out.mono ?_
 clear bz
 rintro _ u4 ⟨rfl,bA⟩
 obtain⟨⟨x3,x4,x5⟩,hx⟩:∃ x,f2.getD ⟨[],[],0⟩=x:=⟨_,rfl⟩
 rw[hx]
 dsimp only
 obtain⟨a2,ha⟩:=ex f2.isSome
 rw[ha] at av ⊢
 have a1:Hid (Below W1.heap.size W1 u4):=bt aA.out bA
 obtain⟨V4,bB⟩:=ex (u4.alloc (.cells #[.string ⟨x3.toArray⟩,.string ⟨x4.toArray⟩,.int .i64 x5] 25))
 have ak:Hid (Below W1.heap.size W1 V4):=a1.out.trans ((ag bB).mono a1.out.size)
 have bl:=zh (az.out _ ak.out)
 clear bA hx ha a0 a1 bk
 by_cases aB:(a&&a2)=true
 case neg =>
  have HX:Hid (X=(10,0,zeroP)):=by show _=_;rw[<-aQ.out,<-av.out,if_neg aB]
  have ax:=zh (HZ.out _ ak.out)
  obtain⟨⟨k0,z0⟩,⟨k1,z1⟩,⟨k2,z2⟩,⟨k3,z3⟩,⟨k4,z4⟩,k5,z5⟩:=au ax.out
  have bL:=zh aB
  clear aB
  cases a
  ·go_wp2_with fail
   (try simp only[Exit.inBlock,Exit.then])
   refine bodyPost_ret (iX (ax.out) 0 10 ?q1 ?q2 ?q3) ?q4 ?_
   case q4=>rfl
   case q1=>rfl
   case q2=>rfl
   case q3=>rfl
   exact kr bl.out am.out HX.out
  ·cases a2
   ·go_wp2_with fail
    (try simp only[Exit.inBlock,Exit.then])
    refine bodyPost_ret (iX (ax.out) 0 10 ?q1 ?q2 ?q3) ?q4 ?_
    case q4=>rfl
    case q1=>rfl
    case q2=>rfl
    case q3=>rfl
    exact kr bl.out am.out HX.out
   ·exact absurd rfl bL.out
 obtain⟨rfl,rfl⟩:a=true/\a2=true:=by simpa using aB
 have bM:Hid (readR 0 zeroP l=R):=av.out
 clear aB av
 obtain⟨V5,aV⟩:=ex (V4.alloc (.cells zeroC 42))
 have aC:Hid (Below W1.heap.size W1 V5):=ak.out.trans ((ag aV).mono ak.out.size)
 obtain⟨bp,aW⟩:=ex V4.heap.size
 obtain⟨V6,aM⟩:=ex (sixZ V5 bp)
 have bm:Hid (V5.heap[bp]?=some (.cells zeroC 42 (0,0))):=by show _=_;rw[<-aV,<-aW];exact heap_alloc_new V4 _
 have al:Hid (b<bp/\bp<V5.heap.size):=by
  have h1:=ak.out.size
  rw[bG.out,aW] at h1
  exact⟨by omega,by rw[<-aV,<-aW];simp⟩
 have bN:=zh (az.out _ aC.out)
 obtain⟨B,hB⟩:=ex V5.heap.size
 rw[hB] at al
 have bn:Hid (But (some bp) V5 V6):=by rw[<-aM];exact acZ V5 bp
 have bO:Hid (B<=V6.heap.size):=Nat.le_trans (Nat.le_of_eq hB.symm) bn.out.1
 have bP:Hid (V6.heap[bp]?=some (.cells (pCells zeroP none none none 0 0 0) 42 (0,0))):=by rw[<-aM];exact aba bm.out
 have bQ:Hid (V6.heap[b]?=some (.cells zeroC 42 (0,0))):=(bn.out.2 b (by have:=al.out;omega) (by have:=al.out;simp;omega)).trans (HZ.out _ aC.out)
 have bR:Hid (Below w.heap.size w V6):=by rw[<-aM];exact o7 bN.out (by have:=al.out;have:=am.out;omega)
 unfold sixZ at aM
 obtain⟨⟨k0,z0⟩,⟨k1,z1⟩,⟨k2,z2⟩,⟨k3,z3⟩,⟨k4,z4⟩,k5,z5⟩:=au bm.out
 go_wp2_with fail
 clear k0 z0 k1 z1 k2 z2 k3 z3 k4 z4 k5 z5
 clear bB aV aM aW hB
 go_loopw [6,12] (fun e i wr=>∃ (k:Nat) (q:Pk) (D C G:Option Addr) (dc cc gc:Nat),k<=n/\e=.int .i64 0/\i=.int .i64 k/\Hid (wr.heap[bp]?=some (.cells (pCells q D C G dc cc gc) 42 (0,0)))/\Hid (PRows B wr q D C G)/\Hid (Nil0 q D dc G gc)/\Hid (wr.heap[b]?=some (.cells zeroC 42 (0,0)))/\Hid (Below w.heap.size w wr)/\Hid (B<=wr.heap.size)/\Hid (readR k q (l.drop k)=R)/\Hid (Later (l.drop k) q)) (fun _ i _=>n-(intOf i).toNat)
 case atStart=>exact⟨0,zeroP,none,none,none,0,0,0,Nat.zero_le _,rfl,rfl,bP.out,iW B V6,aa9,bQ.out,bR.out,bO.out,by show readR 0 zeroP (l.drop 0)=R;rw[List.drop_zero];exact bM.out,⟨fun _ _ _=>rfl,fun _ _ _=>rfl⟩⟩
 case round =>
  obtain⟨k,q,D,C,G,dc,cc,gc,hk,rfl,rfl,bb,bC,bY,aN,HW,bD,bE,bZ⟩:=hrel
  by_cases bo:k<n
  ·have bq:=zh bo
   have aD:k<l.length:=by rw[HN.out];exact bo
   obtain⟨ad,rfl,b0,c0,c1,c2⟩:=Sz.bS (aP.out wr HW.out) k aD
   have hd:l.drop k=l[k] :: l.drop (k+1):=List.drop_eq_getElem_cons aD
   have aw:=bE.out
   have aq:=bZ.out
   have an:(l.drop k).Pairwise (fun f g=>f.key≠g.key):=bK.out.sublist (List.drop_sublist k l)
   rw[hd] at aw aq an
   have aR:=HV.out _ (List.getElem_mem aD)
   obtain⟨pl,ap,-⟩:=bJ.out _ (List.getElem_mem aD)
   obtain⟨f,hf⟩:=ex (l[k])
   have ao:Hid (∀ u,Below w.heap.size w u->u.cell? (ad.add (k*3))=some (.string ⟨f.key.toArray⟩)/\u.cell? ⟨(ad.add (k*3)).block,(ad.add (k*3)).off+1,none⟩=some (.string ⟨f.val.toArray⟩)/\u.cell? ⟨(ad.add (k*3)).block,(ad.add (k*3)).off+2,none⟩=some (.int .i64 f.line)):=fun u hb=>by
    obtain⟨b1,e2,_,g0,g1,g2⟩:=Sz.bS (aP.out u hb) k aD
    cases e2
    rw[hf] at g0 g1 g2
    exact⟨g0,g1,g2⟩
   rw[hf] at aw aq an aR ap
   obtain⟨fk,fv,fl⟩:=f
   dsimp only at aw aq an aR ap ao
   have br:=aeB ap
   have aE:Hid (Below w.heap.size w wr.drew):=HW.out.drew
   have aF:=zh (vR fk fv fl q D C G dc cc gc B wr.drew (bI.out _ aE.out) (cq bC.out (Below.refl _ _).drew) bD.out aR bY.out br (aq.1 ⟨fk,fv,fl⟩ (List.mem_cons_self ..)) (aq.2 ⟨fk,fv,fl⟩ (List.mem_cons_self ..)))
   obtain⟨T,hT⟩:=ex (takeR q fk fv)
   rw[hT] at aF
   have ay:Hid (∀ u,Below wr.heap.size wr u->u.heap[bp]?=some (.cells (pCells q D C G dc cc gc) 42 (0,0))):=fun u h=>a6 bb.out h (block_lt bb.out)
   have aS:Hid (∀ u,Below wr.heap.size wr u->u.heap[b]?=some (.cells zeroC 42 (0,0))):=fun u h=>a6 aN.out h (block_lt aN.out)
   have a3:Hid (Below wr.heap.size wr wr.drew):=(Below.refl _ _).drew
   clear c0 c1 c2 hd br ap hf aR b0
   obtain⟨⟨c0,y0⟩,⟨c1,y1⟩,⟨c2,y2⟩,⟨c3,y3⟩,⟨c4,y4⟩,c5,y5⟩:=au (ay.out _ a3.out)
   cases T with
   | error y =>
    have a4:Hid (R=.error (k,y)):=by show _=_;rw[<-aw];exact ei hT
    have HX:Hid (X=(y,(k:Int),zeroP)):=by show _=_;rw[<-aQ.out,a4.out]
    clear aw aq an hT
    go_wp2_with fail
    refine e9 (fun ops hops=>?_)
    have aa:=zh hops
    have ac:=zh (kp hops (by kernel_rfl))
    have aG:=mj hops (n:=11) (by rfl)
    clear hops
    refine wp_region_held_drew (S:=fun u=>u.cell? (ad.add (k*3))=some (.string ⟨fk.toArray⟩)/\u.cell? ⟨(ad.add (k*3)).block,(ad.add (k*3)).off+1,none⟩=some (.string ⟨fv.toArray⟩)/\u.cell? ⟨(ad.add (k*3)).block,(ad.add (k*3)).off+2,none⟩=some (.int .i64 fl)) (by kernel_rfl) ?_ (fun hH0=>?_)
    ·exact ao.out _ aE.out
    rw[aG]
    clear aG
    refine mv (by assumption) aa.out ac.out 1 ?_
    try simp only[Act.put,mvS]
    refine mv (by assumption) aa.out ac.out 2 ?_
    try simp only[Act.put,mvS]
    refine mv (by assumption) aa.out ac.out 3 ?_
    try simp only[Act.put,mvS]
    refine mv (by assumption) aa.out ac.out 4 ?_
    try simp only[Act.put,mvS]
    refine aT aa.out 0 rfl (by kernel_rfl) (by rfl) (fun K hK=>?_)
    go_simp
    refine hK.out _ _ ?_ (fun hH1=>?_)
    ·exact ao.out _ aE.out
    clear hK K hH0
    try simp only[Act.put,mvS]
    refine aT aa.out 5 rfl (by kernel_rfl) (by rfl) (fun K hK=>?_)
    go_simp
    go_at_call 24
    refine aF.out.mono ?_
    rintro e z ⟨ar,hy,p2,D2,C2,G2,ae,af,aj,rfl⟩
    have ab:Hid (Below wr.heap.size wr z):=bt a3.out ar
    have aH:Hid (Below w.heap.size w z):=bt HW.out ab.out
    have HY:=zh hy
    clear ar hy aF
    clear c0 y0 c1 y1 c2 y2 c3 y3 c4 y4 c5 y5
    obtain⟨⟨c0,y0⟩,⟨c1,y1⟩,⟨c2,y2⟩,⟨c3,y3⟩,⟨c4,y4⟩,c5,y5⟩:=au (ay.out _ ab.out)
    obtain⟨V,hV⟩:=ex (stP z bp p2 D2 C2 G2 ae af aj)
    have aJ:Hid (Below w.heap.size w V):=by rw[<-hV];exact aI aH.out (by have:=al.out;have:=am.out;omega) p2 D2 C2 G2 ae af aj
    have bs:Hid (V.heap[bp]?=some (.cells (pCells p2 D2 C2 G2 ae af aj) 42 (0,0))):=by rw[<-hV];exact uj (ay.out _ ab.out) p2 D2 C2 G2 ae af aj
    have aK:Hid (But (some bp) z V):=by rw[<-hV];exact cE z bp p2 D2 C2 G2 ae af aj
    have aU:Hid (V.heap[b]?=some (.cells zeroC 42 (0,0))):=(aK.out.2 b (block_lt (aS.out _ ab.out)) (by have:=al.out;simp;omega)).trans (aS.out _ ab.out)
    unfold stP at hV
    refine hK.out _ _ ?_ (fun hH2=>?_)
    ·exact ao.out _ aH.out
    clear hK K hH1
    try simp only[Act.put,mvS]
    refine mv (by assumption) aa.out ac.out 6 ?_
    try simp only[Act.put,mvS]
    refine mv (by assumption) aa.out ac.out 7 ?_
    try simp only[Act.put,mvS]
    refine mv (by assumption) aa.out ac.out 8 ?_
    try simp only[Act.put,mvS]
    refine aT aa.out 9 rfl (by kernel_rfl) (by rfl) (fun K hK=>?_)
    go_simp
    refine hK.out _ _ ?_ (fun hH3=>?_)
    ·exact ao.out _ aJ.out
    clear hK K hH2 hV
    try simp only[Act.put,mvS]
    refine mv (by assumption) aa.out ac.out 10 ?_
    try simp only[Act.put,mvS]
    refine jy aa.out (by kernel_rfl) ?_
    clear hH3
    clear c0 y0 c1 y1 c2 y2 c3 y3 c4 y4 c5 y5
    have d9:(y != 0)=true:=by simpa using HY.out
    obtain⟨⟨k0,z0⟩,⟨k1,z1⟩,⟨k2,z2⟩,⟨k3,z3⟩,⟨k4,z4⟩,k5,z5⟩:=au aU.out
    go_wp2_with fail
    (try simp only[Exit.inBlock,Exit.then])
    refine bodyPost_ret (iX (aU.out) k y ?q1 ?q2 ?q3) ?q4 ?_
    case q4=>rfl
    case q1=>rfl
    case q2=>rfl
    case q3=>rfl
    exact kr aJ.out am.out HX.out
   | ok q2 =>
    have a5:Hid (readR (k+1) q2 (l.drop (k+1))=R):=by show _=_;rw[<-aw];exact (im hT).symm
    have a7:=zh (later_next aq an hT)
    clear aw aq an hT
    go_wp2_with fail
    refine e9 (fun ops hops=>?_)
    have aa:=zh hops
    have ac:=zh (kp hops (by kernel_rfl))
    have aG:=mj hops (n:=11) (by rfl)
    clear hops
    refine wp_region_held_drew (S:=fun u=>u.cell? (ad.add (k*3))=some (.string ⟨fk.toArray⟩)/\u.cell? ⟨(ad.add (k*3)).block,(ad.add (k*3)).off+1,none⟩=some (.string ⟨fv.toArray⟩)/\u.cell? ⟨(ad.add (k*3)).block,(ad.add (k*3)).off+2,none⟩=some (.int .i64 fl)) (by kernel_rfl) ?_ (fun hH0=>?_)
    ·exact ao.out _ aE.out
    rw[aG]
    clear aG
    refine mv (by assumption) aa.out ac.out 1 ?_
    try simp only[Act.put,mvS]
    refine mv (by assumption) aa.out ac.out 2 ?_
    try simp only[Act.put,mvS]
    refine mv (by assumption) aa.out ac.out 3 ?_
    try simp only[Act.put,mvS]
    refine mv (by assumption) aa.out ac.out 4 ?_
    try simp only[Act.put,mvS]
    refine aT aa.out 0 rfl (by kernel_rfl) (by rfl) (fun K hK=>?_)
    go_simp
    refine hK.out _ _ ?_ (fun hH1=>?_)
    ·exact ao.out _ aE.out
    clear hK K hH0
    try simp only[Act.put,mvS]
    refine aT aa.out 5 rfl (by kernel_rfl) (by rfl) (fun K hK=>?_)
    go_simp
    go_at_call 24
    refine aF.out.mono ?_
    rintro e z ⟨ar,D2,ae,C2,af,G2,aj,rfl,aO,bF⟩
    have ab:Hid (Below wr.heap.size wr z):=bt a3.out ar
    have aH:Hid (Below w.heap.size w z):=bt HW.out ab.out
    have bT:=zh aO
    have bU:=zh bF
    clear ar aO bF aF
    clear c0 y0 c1 y1 c2 y2 c3 y3 c4 y4 c5 y5
    obtain⟨⟨c0,y0⟩,⟨c1,y1⟩,⟨c2,y2⟩,⟨c3,y3⟩,⟨c4,y4⟩,c5,y5⟩:=au (ay.out _ ab.out)
    obtain⟨V,hV⟩:=ex (stP z bp q2 D2 C2 G2 ae af aj)
    have aJ:Hid (Below w.heap.size w V):=by rw[<-hV];exact aI aH.out (by have:=al.out;have:=am.out;omega) q2 D2 C2 G2 ae af aj
    have bs:Hid (V.heap[bp]?=some (.cells (pCells q2 D2 C2 G2 ae af aj) 42 (0,0))):=by rw[<-hV];exact uj (ay.out _ ab.out) q2 D2 C2 G2 ae af aj
    have aK:Hid (But (some bp) z V):=by rw[<-hV];exact cE z bp q2 D2 C2 G2 ae af aj
    have aU:Hid (V.heap[b]?=some (.cells zeroC 42 (0,0))):=(aK.out.2 b (block_lt (aS.out _ ab.out)) (by have:=al.out;simp;omega)).trans (aS.out _ ab.out)
    unfold stP at hV
    refine hK.out _ _ ?_ (fun hH2=>?_)
    ·exact ao.out _ aH.out
    clear hK K hH1
    try simp only[Act.put,mvS]
    refine mv (by assumption) aa.out ac.out 6 ?_
    try simp only[Act.put,mvS]
    refine mv (by assumption) aa.out ac.out 7 ?_
    try simp only[Act.put,mvS]
    refine mv (by assumption) aa.out ac.out 8 ?_
    try simp only[Act.put,mvS]
    refine aT aa.out 9 rfl (by kernel_rfl) (by rfl) (fun K hK=>?_)
    go_simp
    refine hK.out _ _ ?_ (fun hH3=>?_)
    ·exact ao.out _ aJ.out
    clear hK K hH2 hV
    try simp only[Act.put,mvS]
    refine mv (by assumption) aa.out ac.out 10 ?_
    try simp only[Act.put,mvS]
    refine jy aa.out (by kernel_rfl) ?_
    clear hH3
    clear c0 y0 c1 y1 c2 y2 c3 y3 c4 y4 c5 y5
    have bV:Hid (PRows B V q2 D2 C2 G2):=bH bT.out aK.out al.out.2 (dS (ay.out _ ab.out))
    have bW:Hid (B<=V.heap.size):=Nat.le_trans bD.out (Nat.le_trans ab.out.size aK.out.1)
    go_wp2_with fail
    go_roundw
    case rel=>exact⟨k+1,q2,D2,C2,G2,ae,af,aj,(by have:=bq.out;omega),rfl,by go_num,bs.out,bV.out,bU.out,aU.out,aJ.out,bW.out,a5.out,a7.out⟩
    case measure=>have:=bq.out;simp[intOf];omega
  ·obtain rfl:k=n:=by omega
   have a4:Hid (R=.ok q):=by show _=_;rw[<-bE.out,List.drop_eq_nil_of_le (by rw[HN.out];exact Nat.le_refl _)];rfl
   have HX:Hid (X=(0,0,q)):=by show _=_;rw[<-aQ.out,a4.out]
   obtain⟨⟨c0,y0⟩,⟨c1,y1⟩,⟨c2,y2⟩,⟨c3,y3⟩,⟨c4,y4⟩,c5,y5⟩:=au bb.out
   obtain⟨⟨k0,z0⟩,⟨k1,z1⟩,⟨k2,z2⟩,⟨k3,z3⟩,⟨k4,z4⟩,k5,z5⟩:=au aN.out
   go_wp2_with fail
   (try simp only[Exit.inBlock,Exit.then])
   refine bodyPost_ret (qW aN.out q D C G dc cc gc 0 0 ?q1 ?q2 ?q3) ?q4 ?_
   case q4=>rfl
   case q1=>rfl
   case q2=>rfl
   case q3=>rfl
   have a8:Below w.heap.size w (stP wr b q D C G dc cc gc):=aI HW.out (Nat.le_of_eq am.out) q D C G dc cc gc
   have bX:PRows w.heap.size (stP wr b q D C G dc cc gc) q D C G:=gm (bH bC.out (cE wr b q D C G dc cc gc) (by have:=al.out;omega) (cP aN.out)) (by have:=al.out;have:=am.out;omega)
   rw[HX.out]
   exact⟨a8,D,dc,C,cc,G,gc,rfl,bX⟩
end
section
open Go.RowKit Rs At Pg
attribute [local go_sem ↓] Go.wp_at_zero Go.wp_at_succ
theorem ir (A B:Option Addr)(n c m d:Nat)(l r:List Atm)(w:World)(hn:l.length=n)(hm:r.length=m)(hr:ARow w A l)(hq:ARow w B r)(hl:n<=100000)(hml:m<=100000)(hf:AFew l)(hg:AFew r) :
  Calls Tryz.prog 25 #[.slice A n c,.slice B m d] w fun e w'=>e=.returned (.bool (decide (l=r)))/\Below w.heap.size w w':=by
 obtain⟨R,hR⟩:=ex (decide (l=r))
 rw[hR]
 have HN:=zh hn
 have HM:=zh hm
 have HR:=zh hr
 have HQ:=zh hq
 have HF:=zh hf
 have HG:=zh hg
 clear hn hm hr hq hf hg
 by_cases ao:n=m
 ·subst ao
  have ap:Hid ((∀ k,k<=l.length->l.take k=r.take k->∀ (h1:k<l.length) (h2:k<r.length),l[k]≠r[k]->R=false)/\(l.take n=r.take n->R=true)):=by
   refine⟨fun k _ _ h1 h2 hne=>?_,fun h=>?_⟩
   ·rw[<-hR];refine decide_eq_false fun e=>?_
    subst e;exact hne rfl
   ·rw[<-hR];refine decide_eq_true ?_
    rwa [List.take_of_length_le (by rw[HN.out];exact Nat.le_refl _),List.take_of_length_le (by rw[HM.out];exact Nat.le_refl _)] at h
  clear hR
  go_enter Tryz.func25,Tryz.ntmps25
  go_wp2_with fail
  go_loopw [5] (fun i wr=>∃ k:Nat,k<=n/\i=.int .i64 k/\Hid (l.take k=r.take k)/\Hid (Below w.heap.size w wr)) (fun i _=>n-(intOf i).toNat)
  case atStart=>exact⟨0,Nat.zero_le _,rfl,rfl,Below.refl _ _⟩
  case round =>
   obtain⟨k,hk,rfl,HH,HW⟩:=hrel
   by_cases aq:k<n
   ·have h1:k<l.length:=by rw[HN.out];exact aq
    have h2:k<r.length:=by rw[HM.out];exact aq
    obtain⟨ad,C,i,x,rfl,hi,ai,ab⟩:=dz HR.out k h1
    obtain⟨ae,E,j,y,rfl,hj,aj,ac⟩:=dz HQ.out k h2
    have af:=fm HF.out k h1
    have ag:=fm HG.out k h2
    have ah:=ap.out.1 k (by omega) HH.out h1 h2
    have aa:l[k]=r[k]->l.take (k+1)=r.take (k+1):=fun h=>by rw[List.take_succ_eq_append_getElem h1,List.take_succ_eq_append_getElem h2,HH.out,h]
    obtain⟨a,ha⟩:=ex (l[k])
    obtain⟨b,hb⟩:=ex (r[k])
    rw[ha] at hi ai ab af ah aa
    rw[hb] at hj aj ac ag ah aa
    obtain⟨na,ra⟩:=a
    obtain⟨nb,rb⟩:=b
    dsimp only at hi ai ab af hj aj ac ag
    have ar:Hid (∀ W,Below w.heap.size w W->W.cell? (ad.add (k*2))=some (.string ⟨na.toArray⟩)/\W.cell? ⟨(ad.add (k*2)).block,(ad.add (k*2)).off+1,none⟩=some (.slice C i x)/\W.cell? (ae.add (k*2))=some (.string ⟨nb.toArray⟩)/\W.cell? ⟨(ae.add (k*2)).block,(ae.add (k*2)).off+1,none⟩=some (.slice E j y)):=fun W h=>⟨(ab _ h).1,(ab _ h).2,(ac _ h).1,(ac _ h).2⟩
    have HT:Hid (∀ W,Below w.heap.size w W->_):=fun W h=>oy na nb C E i j x y ra rb W hi hj (ak ai h) (ak aj h) (by rw[<-hi];exact af.2) (by rw[<-hj];exact ag.2)
    have aw:=zh ah
    have al:=zh aa
    have am:Hid (Below w.heap.size w wr.drew):=HW.out.drew
    clear ha hb hi ai ab af hj aj ac ag ah aa
    obtain⟨q,hq⟩:=ex (decide ((⟨na,ra⟩:Atm)=⟨nb,rb⟩))
    rw[hq] at HT
    have au:=zh hq
    clear hq
    go_wp2_with fail
    go_region_held3 (fun u=>u.cell? (ad.add (k*2))=some (.string ⟨na.toArray⟩)/\u.cell? ⟨(ad.add (k*2)).block,(ad.add (k*2)).off+1,none⟩=some (.slice C i x)/\u.cell? (ae.add (k*2))=some (.string ⟨nb.toArray⟩)/\u.cell? ⟨(ae.add (k*2)).block,(ae.add (k*2)).off+1,none⟩=some (.slice E j y))
     (first
      | with_reducible exact ar.out _ am.out
      | with_reducible exact ar.out _ an.out)
     ((go_at_call 62;refine (HT.out _ am.out).mono ?_;rintro _ u2 ⟨rfl,av⟩;have an:Hid (Below w.heap.size w u2):=bt am.out av;clear av))
    cases q
    ·have HX:Hid (R=false):=aw.out (of_decide_eq_false au.out)
     go_wp2_with fail
     go_ret
     exact⟨by rw[HX.out];rfl,an.out⟩
    ·have ax:=zh (al.out (of_decide_eq_true au.out))
     go_wp2_with fail
     go_roundw
     case rel=>exact⟨k+1,by omega,by go_num,ax,an⟩
     case measure=>simp[intOf];omega
   ·obtain rfl:k=n:=by omega
    have HX:Hid (R=true):=ap.out.2 HH.out
    go_wp2_with fail
    go_ret
    exact⟨by rw[HX.out];rfl,HW.out⟩
 ·have HX:Hid (R=false):=by
   show _=_
   rw[<-hR];refine decide_eq_false fun e=>ao ?_
   rw[<-HN.out,<-HM.out,e]
  have hp:(n:Int)≠(m:Int):=by omega
  clear hR
  go_enter Tryz.func25,Tryz.ntmps25
  go_wp2_with fail
  go_ret
  exact⟨by rw[HX.out];rfl,Below.refl _ _⟩
end
section
open Go.RowKit Rs At Pg
theorem giveRT:GiveT 79:=⟨by kernel_rfl,by kernel_rfl,by kernel_rfl,by kernel_rfl⟩
attribute [local go_sem ↓] Go.wp_at_zero Go.wp_at_succ
theorem pU (p q:Pk)(D C G D' C' G':Option Addr)(dn dc cn cc gn gc dn' dc' cn' cc' gn' gc':Nat)(w:World)(hd:Pg.DRow w D p.deps)(hdn:p.deps.length=dn)(hc:ARow w C p.confl)(hcn:p.confl.length=cn)(hg:GRow w G p.prov)(hgn:p.prov.length=gn)(hf:PFew p)(hd':Pg.DRow w D' q.deps)(hdn':q.deps.length=dn')(hc':ARow w C' q.confl)(hcn':q.confl.length=cn')(hg':GRow w G' q.prov)(hgn':q.prov.length=gn')(hf':PFew q)(hs:dn<=100000/\cn<=100000/\gn<=100000/\cn'<=100000/\(∀ d∈p.deps,d.length<=100000)/\∀ d∈q.deps,d.length<=100000) :
  Calls Tryz.prog 8 #[.agg #[.string ⟨p.name.toArray⟩,.string ⟨p.ver.toArray⟩,.slice D dn dc,.slice C cn cc,.slice G gn gc,.float .f64 p.wt],.agg #[.string ⟨q.name.toArray⟩,.string ⟨q.ver.toArray⟩,.slice D' dn' dc',.slice C' cn' cc',.slice G' gn' gc',.float .f64 q.wt]] w fun e w'=>e=.returned (.bool (samP p q))/\Below w.heap.size w w':=by
 obtain⟨nm,v,deps,confl,prov,wt⟩:=p
 obtain⟨al,v',ab,ah,aa,au⟩:=q
 obtain⟨R,hR⟩:=ex (samP ⟨nm,v,deps,confl,prov,wt⟩ ⟨al,v',ab,ah,aa,au⟩)
 rw[hR]
 unfold samP at hR
 dsimp only at hd hdn hc hcn hg hgn hd' hdn' hc' hcn' hg' hgn' hR hs ⊢
 obtain⟨-,f2,f3,f4,f5,f6,-,f8⟩:=hf
 obtain⟨-,-,aW,-,aX,-,-,aY⟩:=hf'
 dsimp only at f2 f3 f4 f5 f6 f8 aW aX aY
 obtain⟨s1,s2,s3,s4,s5,s6⟩:=hs
 obtain⟨W1,aZ⟩:=ex (w.alloc (.cells #[.string ⟨nm.toArray⟩,.string ⟨v.toArray⟩,.slice D dn dc,.slice C cn cc,.slice G gn gc,.float .f64 wt] 42))
 obtain⟨W2,a0⟩:=ex (W1.alloc (.cells #[.string ⟨al.toArray⟩,.string ⟨v'.toArray⟩,.slice D' dn' dc',.slice C' cn' cc',.slice G' gn' gc',.float .f64 au] 42))
 have a2:Below w.heap.size w W1:=ag aZ
 have aE:Below W1.heap.size W1 W2:=ag a0
 have HB:Hid (Below w.heap.size w W2):=bt a2 aE
 have af:Hid (∀ u,Below W2.heap.size W2 u->Below w.heap.size w u):=fun u h=>bt HB.out h
 obtain⟨b,hb⟩:=ex w.heap.size
 obtain⟨b1,a8⟩:=ex W1.heap.size
 have ap:Hid (∀ u,Below W2.heap.size W2 u->(u.cell? ⟨b,0,none⟩=some (.string ⟨nm.toArray⟩)/\u.cell? ⟨b,1,none⟩=some (.string ⟨v.toArray⟩)/\u.cell? ⟨b,2,none⟩=some (.slice D dn dc)/\u.cell? ⟨b,3,none⟩=some (.slice C cn cc)/\u.cell? ⟨b,4,none⟩=some (.slice G gn gc)/\u.cell? ⟨b,5,none⟩=some (.float .f64 wt))/\u.cell? ⟨b1,0,none⟩=some (.string ⟨al.toArray⟩)/\u.cell? ⟨b1,1,none⟩=some (.string ⟨v'.toArray⟩)/\u.cell? ⟨b1,2,none⟩=some (.slice D' dn' dc')/\u.cell? ⟨b1,3,none⟩=some (.slice C' cn' cc')/\u.cell? ⟨b1,4,none⟩=some (.slice G' gn' gc')/\u.cell? ⟨b1,5,none⟩=some (.float .f64 au)):=fun u h=>by
  rw[<-hb,<-a8]
  exact⟨aH aZ (bt aE h),aH a0 h⟩
 have HD:=zh (fun u (h:Below W2.heap.size W2 u)=>And.intro (drowD_below hd (af.out u h)) (drowD_below hd' (af.out u h)))
 have HG:=zh (fun u (h:Below W2.heap.size W2 u)=>And.intro (Rg.ai hg (af.out u h)) (Rg.ai hg' (af.out u h)))
 have HC:=zh (fun u (h:Below W2.heap.size W2 u)=>ir C C' cn cc cn' cc' confl ah u hcn hcn' (aw hc (af.out u h)) (aw hc' (af.out u h)) s2 s4 f5 aX)
 have HW:=zh (fun u=>oH wt au f8 aY u)
 have aF:=zh hdn
 have am:=zh hdn'
 have aG:=zh hgn
 have an:=zh hgn'
 have ba:=zh f3
 have aI:=zh aW
 have bb:=zh s5
 have bc:=zh s6
 obtain⟨x4,a9⟩:=ex (decide (confl=ah))
 obtain⟨x6,a1⟩:=ex (cmpW wt au)
 have ax:Vm.sgn (Wm.placeN wt) (Wm.placeN au)=x6:=a1
 rw[a9] at HC hR
 rw[a1] at HW
 rw[ax] at hR
 have HR:=zh hR
 clear hd hdn hc hcn hg hgn hd' hdn' hc' hcn' hg' hgn' f2 f3 f4 f5 f6 f8 aW aX aY s2 s4 s5 s6 a9 a1 ax hR a2 aE
 obtain⟨⟨c0,c1,c2,c3,c4,c5⟩,k0,k1,k2,k3,k4,k5⟩:=ap.out _ (Below.refl _ _)
 by_cases e1:nm=al
 case neg =>
  have d1:(nm != al)=true:=by simp[e1]
  have a3:(nm==al)=false:=beq_eq_false_iff_ne.2 e1
  have HX:Hid (R=false):=by show _=_;rw[<-HR.out,decide_eq_false e1];rfl
  clear e1
  go_enter Tryz.func8,Tryz.ntmps8
  go_wp2_with fail
  go_ret
  exact⟨by rw[HX.out];rfl,af.out _ (Below.refl _ _)⟩
 have d1:(nm != al)=false:=by simp[e1]
 have a3:(nm==al)=true:=beq_iff_eq.2 e1
 by_cases e2:v=v'
 case neg =>
  have d2:(v != v')=true:=by simp[e2]
  have a4:(v==v')=false:=beq_eq_false_iff_ne.2 e2
  have HX:Hid (R=false):=by show _=_;rw[<-HR.out,decide_eq_false e2,Bool.false_and,Bool.and_false]
  clear e1 e2
  go_enter Tryz.func8,Tryz.ntmps8
  go_wp2_with fail
  go_ret
  exact⟨by rw[HX.out];rfl,af.out _ (Below.refl _ _)⟩
 have d2:(v != v')=false:=by simp[e2]
 have a4:(v==v')=true:=beq_iff_eq.2 e2
 by_cases e3:dn=dn'
 case neg =>
  have d3:((dn:Int) != (dn':Int))=true:=by simp;omega
  have HX:Hid (R=false):=by
   show _=_
   rw[<-HR.out,decide_eq_false (p:=deps=ab) (fun e=>e3 (by rw[<-aF.out,<-am.out,e])),Bool.false_and,Bool.and_false,Bool.and_false]
  clear e1 e2 e3
  go_enter Tryz.func8,Tryz.ntmps8
  go_wp2_with fail
  go_ret
  exact⟨by rw[HX.out];rfl,af.out _ (Below.refl _ _)⟩
 have d3:((dn:Int) != (dn':Int))=false:=by rw[e3];simp
 have aJ:=zh e3
 have ay:Hid ((decide (deps=ab)&&(x4&&(decide (prov=aa)&&(x6==0))))=R):=by show _=_;rw[<-HR.out,decide_eq_true e1,decide_eq_true e2,Bool.true_and,Bool.true_and]
 clear e1 e2 e3 HR
 go_enter Tryz.func8,Tryz.ntmps8
 go_wp2_with fail
 clear aZ a0 hb a8
 refine (HC.out _ (Below.refl _ _)).mono ?_
 rintro _ u1 ⟨rfl,hb⟩
 have aq:=zh hb
 clear hb
 clear c0 c1 c2 c3 c4 c5 k0 k1 k2 k3 k4 k5
 obtain⟨⟨c0,c1,c2,c3,c4,c5⟩,k0,k1,k2,k3,k4,k5⟩:=ap.out _ aq.out
 cases x4
 case false =>
  have HX:Hid (R=false):=by show _=_;rw[<-ay.out,Bool.false_and,Bool.and_false]
  go_wp2_with fail
  go_ret
  exact⟨by rw[HX.out];rfl,af.out _ aq.out⟩
 by_cases e5:gn=gn'
 case neg =>
  have d5:((gn:Int) != (gn':Int))=true:=by simp;omega
  have HX:Hid (R=false):=by
   show _=_
   rw[<-ay.out,decide_eq_false (p:=prov=aa) (fun e=>e5 (by rw[<-aG.out,<-an.out,e])),Bool.false_and,Bool.and_false,Bool.and_false]
  clear e5
  go_wp2_with fail
  go_ret
  exact⟨by rw[HX.out];rfl,af.out _ aq.out⟩
 have d5:((gn:Int) != (gn':Int))=false:=by rw[e5];simp
 have aK:=zh e5
 clear e5
 go_wp2_with fail
 refine (HW.out _).mono ?_
 rintro _ u2 ⟨rfl,rfl⟩
 by_cases e6:x6=0
 case neg =>
  have d6:(x6 != 0)=true:=by simpa using e6
  have HX:Hid (R=false):=by
   show _=_
   rw[<-ay.out,show (x6==0)=false from beq_eq_false_iff_ne.2 e6,Bool.and_false,Bool.and_false,Bool.and_false]
  go_wp2_with fail
  go_ret
  exact⟨by rw[HX.out];rfl,af.out _ aq.out⟩
 have d6:(x6 != 0)=false:=by simp[e6]
 have aL:Hid ((decide (deps=ab)&&decide (prov=aa))=R):=by show _=_;rw[<-ay.out,e6];simp
 clear e6 ay
 go_wp2_with fail
 clear d1 a3 d2 a4 d3 d5 d6
 clear c0 c1 c2 c3 c4 c5 k0 k1 k2 k3 k4 k5
 go_loopw [5] (fun i wr=>∃ k:Nat,k<=dn/\i=.int .i64 k/\Hid (deps.take k=ab.take k)/\Hid (Below W2.heap.size W2 wr)) (fun i _=>dn-(intOf i).toNat)
 case atStart=>exact⟨0,Nat.zero_le _,rfl,rfl,aq.out⟩
 case round =>
  clear aq
  obtain⟨k,hk,rfl,HT,az⟩:=hrel
  obtain⟨⟨c0,c1,c2,c3,c4,c5⟩,k0,k1,k2,k3,k4,k5⟩:=ap.out _ az.out
  by_cases aM:k<dn
  ·have h1:k<deps.length:=by rw[aF.out];exact aM
   have h2:k<ab.length:=by have:=aJ.out;have:=am.out;omega
   obtain⟨ad,A1,n1,m1,rfl,aC,ak,aA⟩:=dM (HD.out _ (Below.refl _ _)).1 k h1
   obtain⟨ae,A2,n2,m2,rfl,aD,ar,aB⟩:=dM (HD.out _ (Below.refl _ _)).2 k h2
   have aN:=js ba.out k h1
   have aO:=js aI.out k h2
   have aP:=bb.out _ (List.getElem_mem h1)
   have aQ:=bc.out _ (List.getElem_mem h2)
   have ac:deps[k]=ab[k]->deps.take (k+1)=ab.take (k+1):=fun h=>by rw[List.take_succ_eq_append_getElem h1,List.take_succ_eq_append_getElem h2,HT.out,h]
   have aj:deps[k]≠ab[k]->R=false:=fun h=>by
    rw[<-aL.out,decide_eq_false (p:=deps=ab) (fun e=>h (by subst e;rfl))];rfl
   obtain⟨l,hl⟩:=ex (deps[k])
   obtain⟨r,hr⟩:=ex (ab[k])
   rw[hl] at aC ak aN aP ac aj
   rw[hr] at aD ar aO aQ ac aj
   have aR:Hid (∀ u,Below W2.heap.size W2 u->u.cell? ⟨b,2,none⟩=some (.slice (some ad) dn dc)/\u.cell? ⟨b1,2,none⟩=some (.slice (some ae) dn' dc')/\u.cell? (ad.add k)=some (.slice A1 n1 m1)/\u.cell? (ae.add k)=some (.slice A2 n2 m2)):=fun u h=>⟨(ap.out u h).1.2.2.1,(ap.out u h).2.2.2.1,aA u h,aB u h⟩
   have a5:Hid (∀ u,Below W2.heap.size W2 u->_):=fun u h=>ir A1 A2 n1 m1 n2 m2 l r u aC aD (aw ak h) (aw ar h) (by rw[<-aC];exact aP) (by rw[<-aD];exact aQ) aN.2 aO.2
   obtain⟨x,hx⟩:=ex (decide (l=r))
   rw[hx] at a5
   have a6:=zh hx
   have ao:=zh ac
   have aS:=zh aj
   have bd:(k:Int)<(dn':Int):=by have:=aJ.out;omega
   have aT:Hid (Below W2.heap.size W2 wr.drew):=az.out.drew
   have be:=aR.out _ az.out
   clear hl hr aC ak aA aD ar aB aN aO aP aQ ac aj hx be
   go_wp2_with fail
   go_region_held3 (fun u=>u.cell? ⟨b,2,none⟩=some (.slice (some ad) dn dc)/\u.cell? ⟨b1,2,none⟩=some (.slice (some ae) dn' dc')/\u.cell? (ad.add k)=some (.slice A1 n1 m1)/\u.cell? (ae.add k)=some (.slice A2 n2 m2))
    (first
     | with_reducible exact aR.out _ aT.out
     | with_reducible exact aR.out _ aU.out)
    ((go_at_call 25;refine (a5.out _ aT.out).mono ?_;rintro _ z1 ⟨rfl,hb⟩;have aU:=zh (bt aT.out hb);clear hb))
   cases x
   ·have HX:=zh (aS.out (of_decide_eq_false a6.out))
    go_wp2_with fail
    go_ret
    exact⟨by rw[HX.out];rfl,af.out _ aU.out⟩
   ·have aV:=zh (ao.out (of_decide_eq_true a6.out))
    go_wp2_with fail
    go_roundw
    case rel=>exact⟨k+1,by omega,by go_num,aV,aU⟩
    case measure=>simp[intOf];omega
  ·obtain rfl:k=dn:=by omega
   have a7:Hid (decide (prov=aa)=R):=by
    show _=_
    have h:=HT.out
    rw[List.take_of_length_le (by rw[aF.out];exact Nat.le_refl _),List.take_of_length_le (by rw[am.out,aJ.out];exact Nat.le_refl _)] at h
    rw[<-aL.out,decide_eq_true h,Bool.true_and]
   clear aL HT
   go_wp2_with fail
   clear c0 c1 c2 c3 c4 c5 k0 k1 k2 k3 k4 k5
   go_loopw [6] (fun i ws=>∃ j:Nat,j<=gn/\i=.int .i64 j/\Hid (prov.take j=aa.take j)/\Hid (Below W2.heap.size W2 ws)) (fun i _=>gn-(intOf i).toNat)
   case atStart=>exact⟨0,Nat.zero_le _,rfl,rfl,az.out⟩
   case round =>
    clear az
    obtain⟨j,hj,rfl,HT,av⟩:=hrel
    obtain⟨⟨c0,c1,c2,c3,c4,c5⟩,k0,k1,k2,k3,k4,k5⟩:=ap.out _ av.out
    by_cases aM:j<gn
    ·have h1:j<prov.length:=by rw[aG.out];exact aM
     have h2:j<aa.length:=by have:=aK.out;have:=an.out;omega
     obtain⟨ad,rfl,aA⟩:=dQ (HG.out _ (Below.refl _ _)).1 j h1
     obtain⟨ae,rfl,aB⟩:=dQ (HG.out _ (Below.refl _ _)).2 j h2
     have ac:prov[j]=aa[j]->prov.take (j+1)=aa.take (j+1):=fun h=>by rw[List.take_succ_eq_append_getElem h1,List.take_succ_eq_append_getElem h2,HT.out,h]
     have aj:prov[j]≠aa[j]->R=false:=fun h=>by
      rw[<-a7.out,decide_eq_false (p:=prov=aa) (fun e=>h (by subst e;rfl))]
     obtain⟨y0,y1⟩:=aA _ av.out
     obtain⟨z0,z1⟩:=aB _ av.out
     generalize prov[j]=a at y0 y1 ac aj
     generalize aa[j]=a' at z0 z1 ac aj
     have ak:=ub giveRT a a'
     have ar:∀ (x y:Operand) (W:World),(eqGuard .neq 79 x y (.agg #[.string ⟨a.name.toArray⟩,.string ⟨a.ver.toArray⟩]) (.agg #[.string ⟨a'.name.toArray⟩,.string ⟨a'.ver.toArray⟩])).run Tryz.prog W=.ok () W:=fun x y W=>uc giveRT .neq x y _ _ W
     have bd:(j:Int)<(gn':Int):=by have:=aK.out;omega
     have ao:=zh ac
     have aS:=zh aj
     clear aA aB h1 h2 ac aj
     by_cases hq:a=a'
     ·rw[decide_eq_true hq] at ak
      have aV:=zh (ao.out hq)
      clear hq HT
      go_wp2_with fail
      go_quiet (fail)
      clear ak ar y0 y1 z0 z1
      go_wp2_with fail
      go_roundw
      case rel=>exact⟨j+1,by omega,by go_num,aV,below_drewN av.out _⟩
      case measure=>simp[intOf];omega
     ·rw[decide_eq_false hq] at ak
      have HX:=zh (aS.out hq)
      clear hq HT
      go_wp2_with fail
      go_quiet (fail)
      clear ak ar y0 y1 z0 z1
      go_wp2_with fail
      go_ret
      exact⟨by rw[HX.out];rfl,af.out _ (below_drewN av.out _)⟩
    ·obtain rfl:j=gn:=by omega
     have HX:Hid (R=true):=by
      show _=_
      have h:=HT.out
      rw[List.take_of_length_le (by rw[aG.out];exact Nat.le_refl _),List.take_of_length_le (by rw[an.out,aK.out];exact Nat.le_refl _)] at h
      rw[<-a7.out,decide_eq_true h]
     go_wp2_with fail
     go_ret
     exact⟨by rw[HX.out];rfl,af.out _ av.out⟩
end
section
open Go.RowKit Rs At Pg
namespace Pg
theorem ac0 (p:Pk):samP p p=true:=by
 unfold samP
 simp only[decide_true,Bool.true_and]
 have:Vm.sgn (Wm.placeN p.wt) (Wm.placeN p.wt)=0:=by unfold Vm.sgn;simp
 rw[this];rfl
end Pg
end
end Go.Proofs.YtkaeamjnphaadaaGreatDoor

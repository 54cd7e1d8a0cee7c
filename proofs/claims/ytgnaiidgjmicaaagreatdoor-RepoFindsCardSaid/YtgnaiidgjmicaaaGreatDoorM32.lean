/- Part 32 of what the laws lean on. -/
import Derived.Test.YtgnaiidgjmicaaaGreatDoorM31
import Derived.Stop.LaidErr
import Derived.LaidMore
set_option maxRecDepth 100000
set_option maxHeartbeats 12800000
namespace Go.Proofs.YtgnaiidgjmicaaaGreatDoor
section
open Go.RowKit Rs At Pg Rp
attribute [local go_sem ↓] Go.wp_at_zero Go.wp_at_succ
attribute [local go_sem] Pg.av
namespace Rp
theorem adP {w:World}(hk:KOk w):Calls Tryz.prog 30 #[.string ⟨small7.toArray⟩] w fun e w'=>∃ ad c,e=.returned (.tuple #[.slice (some ad) 3 c,.int .i64 0,.int .i64 0])/\RRow w' (some ad) r7/\Below w.heap.size w w' :=
 (fM small7 w hk (vs k7d.1)).mono fun e w' ⟨A,c,he,hr,hb⟩=>by
  rw[k7a] at he hr
  obtain⟨ad,_,_,_,_,_,_,rfl,_⟩:=aY hr 0 (by decide)
  exact⟨ad,c,he,hr,hb⟩
theorem afX {w:World}(hk:KOk w):Calls Tryz.prog 30 #[.string ⟨#[80,97,99,107,97,103,101,58,32,97,10,86,101,114,115,105,111,110,58,32,49,10,10,80,97,99,107,97,103,101,58,32,97,10,86,101,114,115,105,111,110,58,32,48,49,45,48,10]⟩] w fun e w'=>∃ A c,e=.returned (.tuple #[.slice A 0 c,.int .i64 3,.int .i64 6])/\Below w.heap.size w w' :=
 (fM two7 w hk (vs k7d.2.1)).mono fun e w' ⟨A,c,he,hr,hb⟩=>by
  rw[k7b] at he
  exact⟨A,c,he,hb⟩
theorem afY {w:World}(hk:KOk w):Calls Tryz.prog 30 #[.string ⟨#[80,97,99,107,97,103,101,58,32,97,10,86,101,114,115,105,111,110,58,32,49,10,68,101,112,101,110,100,115,58,32,66,10]⟩] w fun e w'=>∃ A c,e=.returned (.tuple #[.slice A 0 c,.int .i64 2,.int .i64 3])/\Below w.heap.size w w' :=
 (fM bad7 w hk (vs k7d.2.2)).mono fun e w' ⟨A,c,he,hr,hb⟩=>by
  rw[k7c] at he
  exact⟨A,c,he,hb⟩
theorem few7:RFew r7:=all7 fun _ h hw=>abk h hw
theorem ver7:∀ p∈r7,Vm.check p.ver=0:=all7 fun _ h _=>eL h
theorem name7:∀ p∈r7,p.name.length<=1000000:=all7 fun _ h hw=>Nat.le_trans (fF h hw).1 (by decide)
theorem may7:∀ p∈r7,Vm.check p.ver=0/\(∀ g∈p.prov,g.ver=[]\/Vm.check g.ver=0)/\p.prov.length<=1000000:=all7 fun p h hw=>⟨eL h,(iT h).2,Nat.le_trans (fF h hw).2.2.2.2.2.2.2.2.1 (by decide)⟩
theorem adQ {w:World}(hk:KOk w)(A:Option Addr)(c:Nat)(hr:RRow w A r7):Calls Tryz.prog 32 #[.slice A 3 c] w fun e w'=>e=.returned (.tuple #[.string ⟨#[80,97,99,107,97,103,101,58,32,97,112,112,10,86,101,114,115,105,111,110,58,32,49,10,10,80,97,99,107,97,103,101,58,32,97,112,112,10,86,101,114,115,105,111,110,58,32,50,10,68,101,112,101,110,100,115,58,32,108,105,98,32,40,62,61,32,50,41,10,10,80,97,99,107,97,103,101,58,32,108,105,98,10,86,101,114,115,105,111,110,58,32,49,10]⟩,.int .i64 0])/\Below w.heap.size w w' :=
 (sb A 3 c r7 w hk rfl hr few7 (fun _=>⟨all7 fun p h hw=>fF h hw,k7m⟩)).mono fun e w' ⟨he,hb⟩=>by
  rw[k7e] at he
  exact⟨he,hb⟩
theorem yx {w:World}(hw:MaxOk w)(A:Option Addr)(c:Nat)(hr:RRow w A r7)(nm v:List UInt8){i:Int}{b:Bool}(h:findR nm v r7=(i,b)):Calls Tryz.prog 14 #[.slice A 3 c,.string ⟨nm.toArray⟩,.string ⟨v.toArray⟩] w fun e w'=>e=.returned (.tuple #[.int .i64 i,.bool b])/\Below w.heap.size w w' :=
 (ll A 3 c r7 nm v w hw rfl hr (by decide) ver7).mono fun e w' ⟨he,hb⟩=>by
  rw[h] at he
  exact⟨he,hb⟩
theorem adR {w:World}(hw:MaxOk w)(A:Option Addr)(c:Nat)(hr:RRow w A [p72,p71]):Calls Tryz.prog 33 #[.slice A 2 c] w fun e w'=>e=.returned (.tuple #[.int .i64 1,.int .i64 7])/\Below w.heap.size w w' :=
 (r8 A 2 c [p72,p71] w hw rfl hr (fun p hp=>by
  refine few7 p ?_
  rcases List.mem_cons.1 hp with rfl | hp
  ·exact List.mem_cons_of_mem _ List.mem_cons_self
  ·rw[List.mem_singleton.1 hp];exact List.mem_cons_self)).mono fun e w' ⟨he,hb⟩=>by
  rw[k7g.1] at he
  exact⟨he,hb⟩
theorem adS {w:World}(A:Option Addr)(c:Nat)(hr:RRow w A r7):Calls Tryz.prog 17 #[.slice A 3 c] w fun e w'=>∃ B d,e=.returned (.slice B 2 d)/\Rg.Row encT 1 w' B [[97,112,112],[108,105,98]]/\Below w.heap.size w w' :=
 (fN A 3 c r7 w rfl hr (by decide) name7).mono fun e w' ⟨B,d,he,hn,hb⟩=>by
  rw[k7h] at he hn
  exact⟨B,d,he,hn,hb⟩
theorem ew {w w':World}{X:List Int}{e:Ending}(h:NumRet w X e w'):∃ B d,e=.returned (.slice B X.length d)/\IRow w' B X/\Below w.heap.size w w':=by
 obtain⟨v,he,ho,hb⟩:=h
 obtain⟨B,d,hv,hr,_,_⟩:=Rg.aF fitsI ho
 exact⟨B,d,by rw[he,hv],hr,hb⟩
theorem adT {w:World}(A:Option Addr)(c:Nat)(hr:RRow w A r7):Calls Tryz.prog 20 #[.slice A 3 c,.string ⟨[97,112,112].toArray⟩] w fun e w'=>∃ B d,e=.returned (.slice B 2 d)/\IRow w' B [0,1]/\Below w.heap.size w w' :=
 (dX A 3 c r7 [97,112,112] w rfl hr (by decide)).mono fun e w' h=>by
  rw[k7i] at h
  exact ew h
theorem zR {w:World}(hw:MaxOk w)(A:Option Addr)(c:Nat)(hr:RRow w A r7)(B:Option Addr)(d:Nat)(hq:SRow w B sp7):Calls Tryz.prog 22 #[.slice A 3 c,.agg #[.string ⟨[108,105,98].toArray⟩,.slice B 1 d]] w fun e w'=>∃ F f,e=.returned (.slice F 0 f)/\Below w.heap.size w w' :=
 (iJ A 3 c r7 [108,105,98] B 1 d sp7 w hw rfl hr (by decide) may7 rfl hq (by decide) k7n).mono fun e w' h=>by
  rw[show numF (fun p=>metP p ⟨[108,105,98],sp7⟩) 0 r7=[] from k7j] at h
  obtain⟨F,f,he,_,hb⟩:=ew h
  exact⟨F,f,he,hb⟩
theorem afk {w:World}(A:Option Addr)(c:Nat)(hr:RRow w A r7):Calls Tryz.prog 34 #[.slice A 3 c,.slice A 3 c] w fun e w'=>e=.returned (.bool true)/\Below w.heap.size w w' :=
 (vf A A 3 3 c c r7 r7 w rfl rfl hr hr (by decide) few7 few7).mono fun e w' ⟨he,hb⟩=>by
  rw[k7k] at he
  exact⟨he,hb⟩
theorem adU {w:World}(A B:Option Addr)(c d:Nat)(hr:Rg.Row encT 1 w A [[97,112,112],[108,105,98]])(hq:Rg.Row encT 1 w B [[97,112,112],[108,105,98]]):Calls Tryz.prog 16 #[.slice A 2 c,.slice B 2 d] w fun e w'=>e=.returned (.bool true)/\Below w.heap.size w w' :=
 (lz A B 2 2 c d _ _ w rfl rfl hr hq (by decide)).mono fun e w' ⟨he,hb⟩=>⟨by rw[he];simp,hb⟩
theorem afl {w:World}(A B:Option Addr)(c d:Nat)(hr:IRow w A [0,1])(hq:IRow w B [0,1]):Calls Tryz.prog 19 #[.slice A 2 c,.slice B 2 d] w fun e w'=>e=.returned (.bool true)/\Below w.heap.size w w' :=
 (iU A B 2 2 c d _ _ w rfl rfl hr hq (by decide)).mono fun e w' ⟨he,hb⟩=>⟨by rw[he];simp,hb⟩
end Rp
theorem oV (w:World)(hk:KOk w):Calls Tryz.prog 7 #[] w fun e w'=>e=.returned (.bool true)/\Below w.heap.size w w':=by
 have HK:=zh hk
 clear hk
 go_enter Tryz.func7,Tryz.ntmps7
 go_wp2_with fail
 refine (vt _).mono ?_
 rintro _ z ⟨rfl,rfl⟩
 go_wp2_with fail
 refine (adP HK.out).mono ?_
 rintro _ u1 ⟨ad,c,rfl,hr,hb⟩
 have ah:=zh hb
 have al:=zh hr
 clear hb hr
 go_wp2_with fail
 refine (afX (aH HK.out ah.out)).mono ?_
 rintro _ u2 ⟨A2,e2,rfl,hb⟩
 have aG:=zh hb
 clear hb
 go_wp2_with fail
 refine (afY (aH (aH HK.out ah.out) aG.out)).mono ?_
 rintro _ u3 ⟨A3,e3,rfl,hb⟩
 have af:Hid (Below u1.heap.size u1 u3):=bt aG.out hb
 clear hb
 obtain⟨ax,D0,d0,C0,c0,G0,g0,ea,aQ,aR,aS,az⟩:=aY al.out 0 (by decide)
 obtain rfl:ad=ax:=Option.some.inj ea
 obtain⟨ax,D1,d1,C1,c1,G1,g1,eb,aA,aT,aU,aV⟩:=aY al.out 1 (by decide)
 obtain rfl:ad=ax:=Option.some.inj eb
 obtain⟨ae,DA,n1,a1,rfl,bh,aW,aB⟩:=dB aA 0 (by decide)
 obtain rfl:(1:Nat)=n1:=bh
 obtain⟨ak,CA,n2,cA,rfl,bi,aX,aC⟩:=dm aW 0 (by decide)
 obtain rfl:(1:Nat)=n2:=bi
 rw[Nat.zero_mul,Rg.add_zero] at az aC
 rw[Rg.add_zero] at aB
 have a3:Hid (∀ u,Below u1.heap.size u1 u->u.cell? ad=some (.string ⟨#[97,112,112]⟩)/\u.cell? ⟨ad.block,ad.off+1,none⟩=some (.string ⟨#[49]⟩)/\u.cell? ⟨ad.block,ad.off+2,none⟩=some (.slice D0 0 d0)/\u.cell? ⟨ad.block,ad.off+3,none⟩=some (.slice C0 0 c0)/\u.cell? ⟨ad.block,ad.off+4,none⟩=some (.slice G0 0 g0)/\u.cell? ⟨ad.block,ad.off+5,none⟩=some (.float .f64 0)):=az
 have am:Hid (∀ u,Below u1.heap.size u1 u->u.cell? ⟨ad.block,ad.off+6,none⟩=some (.string ⟨#[97,112,112]⟩)/\u.cell? ⟨ad.block,ad.off+6+1,none⟩=some (.string ⟨#[50]⟩)/\u.cell? ⟨ad.block,ad.off+6+2,none⟩=some (.slice (some ae) 1 d1)/\u.cell? ⟨ad.block,ad.off+6+3,none⟩=some (.slice C1 0 c1)/\u.cell? ⟨ad.block,ad.off+6+4,none⟩=some (.slice G1 0 g1)/\u.cell? ⟨ad.block,ad.off+6+5,none⟩=some (.float .f64 0)):=aV
 have aI:Hid (∀ u,Below u1.heap.size u1 u->u.cell? ae=some (.slice (some ak) 1 a1)):=aB
 have a4:Hid (∀ u,Below u1.heap.size u1 u->u.cell? ak=some (.string ⟨#[108,105,98]⟩)/\u.cell? ⟨ak.block,ak.off+1,none⟩=some (.slice CA 1 cA)):=aC
 have a5:Hid (SRow u1 CA sp7):=aX
 have an:Hid (Pg.DRow u1 D0 []/\ARow u1 C0 []/\GRow u1 G0 []):=⟨aQ,aR,aS⟩
 have ap:Hid (Pg.DRow u1 (some ae) [[at7]]/\ARow u1 C1 []/\GRow u1 G1 []):=⟨aA,aT,aU⟩
 clear az aV aB aC aX aQ aR aS aA aT aU aW ea eb
 have ag:Hid (∀ u,Below u1.heap.size u1 u->KOk u):=fun u h=>aH (aH HK.out ah.out) h
 have ab:Hid (∀ u,Below u1.heap.size u1 u->RRow u (some ad) r7):=fun u h=>bb al.out h
 have y1:=(am.out _ af.out).2.2.1
 have y2:=aI.out _ af.out
 go_wp2_with fail
 clear y1 y2
 refine (adQ (ag.out _ af.out) (some ad) c (ab.out _ af.out)).mono ?_
 rintro _ u4 ⟨rfl,hb⟩
 have aq:Hid (Below u1.heap.size u1 u4):=bt af.out hb
 clear hb
 go_wp2_with fail
 refine (yx (ag.out _ aq.out).1 (some ad) c (ab.out _ aq.out) [97,112,112] [48,50] k7f.1).mono ?_
 rintro _ u5 ⟨rfl,hb⟩
 have ar:Hid (Below u1.heap.size u1 u5):=bt aq.out hb
 clear hb
 go_wp2_with fail
 refine (yx (ag.out _ ar.out).1 (some ad) c (ab.out _ ar.out) [108,105,98] [50] k7f.2).mono ?_
 rintro _ u6 ⟨rfl,hb⟩
 have a6:Hid (Below u1.heap.size u1 u6):=bt ar.out hb
 clear hb
 go_wp2_with fail
 have au:Hid (Below u1.heap.size u1 u6.drew):=a6.out.drew
 obtain⟨b7,aZ⟩:=ex u6.heap.size
 obtain⟨W7,aD⟩:=ex (u6.drew.alloc (.cells #[.string ⟨#[97,112,112]⟩,.string ⟨#[50]⟩,.slice (some ae) 1 d1,.slice C1 0 c1,.slice G1 0 g1,.float .f64 0,.string ⟨#[97,112,112]⟩,.string ⟨#[49]⟩,.slice D0 0 d0,.slice C0 0 c0,.slice G0 0 g0,.float .f64 0] 68))
 have aa:Hid (Below u1.heap.size u1 W7):=by
  show Below _ _ _
  rw[<-aD]
  exact au.out.alloc au.out.size _
 have a7:Hid (RRow W7 (some ⟨b7,0,none⟩) [p72,p71]):=by
  refine⟨[⟨[97,112,112],[50],(some ae,1,d1),(C1,0,c1),(G1,0,g1),0⟩,⟨[97,112,112],[49],(D0,0,d0),(C0,0,c0),(G0,0,g0),0⟩],?_,rfl,fun i d p e1 e2=>?_⟩
  ·rw[<-aD]
   exact Rg.lQ fitsP u6.drew 68 _ _ rfl aZ
  ·match i with
   | 0=>cases e1;cases e2;exact⟨rfl,rfl,rfl,rfl,rfl,rfl,aJ ap.out.1 aa.out,ay ap.out.2.1 aa.out,Rg.aj ap.out.2.2 aa.out⟩
   | 1=>cases e1;cases e2;exact⟨rfl,rfl,rfl,rfl,rfl,rfl,aJ an.out.1 aa.out,ay an.out.2.1 aa.out,Rg.aj an.out.2.2 aa.out⟩
   | i+2=>simp at e1
 have a8:=zh (adR (ag.out _ aa.out).1 (some ⟨b7,0,none⟩) 2 a7.out)
 have av:Hid (∀ u,Below u1.heap.size u1 u->(u.cell? ad=some (.string ⟨#[97,112,112]⟩)/\u.cell? ⟨ad.block,ad.off+1,none⟩=some (.string ⟨#[49]⟩)/\u.cell? ⟨ad.block,ad.off+2,none⟩=some (.slice D0 0 d0)/\u.cell? ⟨ad.block,ad.off+3,none⟩=some (.slice C0 0 c0)/\u.cell? ⟨ad.block,ad.off+4,none⟩=some (.slice G0 0 g0)/\u.cell? ⟨ad.block,ad.off+5,none⟩=some (.float .f64 0))/\(u.cell? ⟨ad.block,ad.off+6,none⟩=some (.string ⟨#[97,112,112]⟩)/\u.cell? ⟨ad.block,ad.off+6+1,none⟩=some (.string ⟨#[50]⟩)/\u.cell? ⟨ad.block,ad.off+6+2,none⟩=some (.slice (some ae) 1 d1)/\u.cell? ⟨ad.block,ad.off+6+3,none⟩=some (.slice C1 0 c1)/\u.cell? ⟨ad.block,ad.off+6+4,none⟩=some (.slice G1 0 g1)/\u.cell? ⟨ad.block,ad.off+6+5,none⟩=some (.float .f64 0))):=fun u h=>⟨a3.out u h,am.out u h⟩
 go_region_held3 (fun u=>(u.cell? ad=some (.string ⟨#[97,112,112]⟩)/\u.cell? ⟨ad.block,ad.off+1,none⟩=some (.string ⟨#[49]⟩)/\u.cell? ⟨ad.block,ad.off+2,none⟩=some (.slice D0 0 d0)/\u.cell? ⟨ad.block,ad.off+3,none⟩=some (.slice C0 0 c0)/\u.cell? ⟨ad.block,ad.off+4,none⟩=some (.slice G0 0 g0)/\u.cell? ⟨ad.block,ad.off+5,none⟩=some (.float .f64 0))/\(u.cell? ⟨ad.block,ad.off+6,none⟩=some (.string ⟨#[97,112,112]⟩)/\u.cell? ⟨ad.block,ad.off+6+1,none⟩=some (.string ⟨#[50]⟩)/\u.cell? ⟨ad.block,ad.off+6+2,none⟩=some (.slice (some ae) 1 d1)/\u.cell? ⟨ad.block,ad.off+6+3,none⟩=some (.slice C1 0 c1)/\u.cell? ⟨ad.block,ad.off+6+4,none⟩=some (.slice G1 0 g1)/\u.cell? ⟨ad.block,ad.off+6+5,none⟩=some (.float .f64 0)))
  (first
   | with_reducible exact av.out _ au.out
   | with_reducible exact av.out _ aa.out
   | with_reducible exact av.out _ aw.out)
  ((go_at_call 33;refine a8.out.mono ?_;rintro _ u8 ⟨rfl,hb⟩;have aw:=zh (bt aa.out hb);clear hb))
 go_wp2_with fail
 clear aD aZ
 refine (adS (some ad) c (ab.out _ aw.out)).mono ?_
 rintro _ u9 ⟨N9,n9,rfl,hn,hb⟩
 have a9:Hid (Below u1.heap.size u1 u9):=bt aw.out hb
 obtain⟨Wa,aE⟩:=ex (u9.alloc (.cells #[.string ⟨#[97,112,112]⟩,.string ⟨#[108,105,98]⟩] 9))
 obtain⟨ba,a0⟩:=ex u9.heap.size
 have aK:Hid (Below u9.heap.size u9 Wa):=ai aE
 have bc:Hid (Below u1.heap.size u1 Wa):=bt a9.out aK.out
 have aL:=zh (adU N9 (some ⟨ba,0,none⟩) n9 2 (Rg.aj hn aK.out) (by rw[<-aE];exact Rg.lQ fitsT u9 _ _ _ rfl a0))
 clear hn hb
 go_wp2_with fail
 clear aE a0
 refine aL.out.mono ?_
 rintro _ ub ⟨rfl,hb⟩
 have aM:Hid (Below u1.heap.size u1 ub):=bt bc.out hb
 clear hb aL
 go_wp2_with fail
 refine (adT (some ad) c (ab.out _ aM.out)).mono ?_
 rintro _ uc ⟨Nc,nc,rfl,hn,hb⟩
 have be:Hid (Below u1.heap.size u1 uc):=bt aM.out hb
 obtain⟨Wd,aF⟩:=ex (uc.alloc (.cells #[.int .i64 0,.int .i64 1] 3))
 obtain⟨bd,a2⟩:=ex uc.heap.size
 have aN:Hid (Below uc.heap.size uc Wd):=ai aF
 have bf:Hid (Below u1.heap.size u1 Wd):=bt be.out aN.out
 have aO:=zh (afl Nc (some ⟨bd,0,none⟩) nc 2 (eN hn aN.out) (by rw[<-aF];exact Rg.lQ fitsI uc _ _ _ rfl a2))
 clear hn hb
 go_wp2_with fail
 clear aF a2
 refine aO.out.mono ?_
 rintro _ ue ⟨rfl,hb⟩
 have ac:Hid (Below u1.heap.size u1 ue):=bt bf.out hb
 clear hb aO
 have y1:=(am.out _ ac.out).2.2.1
 have y2:=aI.out _ ac.out
 obtain⟨y3,y4⟩:=a4.out _ ac.out
 go_wp2_with fail
 refine (zR (ag.out _ ac.out).1 (some ad) c (ab.out _ ac.out) CA cA (ao a5.out ac.out)).mono ?_
 rintro _ uf ⟨F,ff,rfl,hb⟩
 have aP:Hid (Below u1.heap.size u1 uf):=bt ac.out hb
 clear hb y1 y2 y3 y4
 go_wp2_with fail
 refine (afk (some ad) c (ab.out _ aP.out)).mono ?_
 rintro _ ug ⟨rfl,hb⟩
 have bg:Hid (Below u1.heap.size u1 ug):=bt aP.out hb
 clear hb
 go_wp2_with fail
 go_ret
 exact⟨rfl,bt ah.out bg.out⟩
end
section
open Go.RowKit Rs At Pg
attribute [local go_sem ↓] Go.wp_at_zero Go.wp_at_succ
theorem jr (v:List UInt8)(w:World):Calls Tryz.prog 74 #[.string ⟨v.toArray⟩] w fun e w'=>e=.returned (.int .i64 (verE v))/\Below w.heap.size w w':=by
 have HC:=zh (eF v w)
 obtain⟨R,hR⟩:=ex (verE v)
 rw[hR]
 unfold verE at hR
 have aa:Vm.check v=0->canonOf v=Vm.canon v:=fun h=>by rw[canonOf,if_pos h]
 obtain⟨k,hk⟩:=ex (Vm.check v)
 rw[hk] at HC hR aa
 by_cases h0:k=0
 ·rw[if_pos h0,<-aa h0] at hR
  subst h0
  obtain⟨x,hx⟩:=ex (canonOf v)
  rw[hx] at HC hR
  clear hx aa hk
  by_cases hv:x=v
  ·rw[if_pos hv] at hR
   subst hR
   have e:(x==v)=true:=by simpa using hv
   clear hv
   go_enter Tryz.func74,Tryz.ntmps74
   go_wp2_with fail
   refine HC.out.mono ?_
   rintro _ u ⟨rfl,hb⟩
   have HB:=zh hb
   clear hb
   go_wp2_with fail
   go_ret
   exact⟨rfl,HB.out⟩
  ·rw[if_neg hv] at hR
   subst hR
   have e:(x==v)=false:=beq_eq_false_iff_ne.2 hv
   clear hv
   go_enter Tryz.func74,Tryz.ntmps74
   go_wp2_with fail
   refine HC.out.mono ?_
   rintro _ u ⟨rfl,hb⟩
   have HB:=zh hb
   clear hb
   go_wp2_with fail
   go_ret
   exact⟨rfl,HB.out⟩
 ·rw[if_neg h0] at hR
  subst hR
  clear aa hk
  go_enter Tryz.func74,Tryz.ntmps74
  go_wp2_with fail
  refine HC.out.mono ?_
  rintro _ u ⟨rfl,hb⟩
  have HB:=zh hb
  clear hb
  go_wp2_with fail
  go_ret
  exact⟨rfl,HB.out⟩
def Pg.AWd (l:List Atm):Prop:=∀ a∈l,a.name.length<=maxLen/\a.rng.length<=9223372036854775807
theorem kg (A:Option Addr)(n c:Nat)(l:List Atm)(w:World)(hw:MaxOk w)(hn:l.length=n)(hr:ARow w A l)(hl:n<=9223372036854775807)(hf:AWd l) :
  Calls Tryz.prog 75 #[.slice A n c] w fun e w'=>e=.returned (.int .i64 (atomsE l))/\Below w.heap.size w w':=by
 obtain⟨R,hR⟩:=ex (atomsE l)
 rw[hR]
 have HX:=zh hR
 have HR:=zh hr
 have HN:=zh hn
 have HF:=zh hf
 have HM:=zh hw
 clear hr hn hf hw hR
 go_enter Tryz.func75,Tryz.ntmps75
 go_wp2_with fail
 go_loopw [3] (fun i wr=>∃ k:Nat,k<=n/\i=.int .i64 k/\Hid (atomsE (l.drop k)=R)/\Hid (Below w.heap.size w wr)) (fun i _=>n-(intOf i).toNat)
 case atStart=>exact⟨0,Nat.zero_le _,rfl,HX,Below.refl _ _⟩
 case round =>
  obtain⟨k,hk,rfl,HH,HB⟩:=hrel
  by_cases af:k<n
  ·have ab:k<l.length:=by rw[HN.out];exact af
   obtain⟨ad,C,m,d,rfl,hm,hs,hc⟩:=dm HR.out k ab
   obtain⟨c0,c1⟩:=hc _ HB.out
   have aa:=HF.out _ (List.getElem_mem ab)
   obtain⟨a,ha⟩:=ex (l[k])
   have h1:=HH.out
   rw[List.drop_eq_getElem_cons ab,ha] at h1
   unfold atomsE at h1
   rw[ha] at hm hs c0 aa
   obtain⟨nm,r⟩:=a
   dsimp only at hm hs c0 aa
   obtain⟨x,hx⟩:=ex (checkA ⟨nm,r⟩)
   have ht:=fQ nm C m d r wr (ag HM.out HB.out) aa.1 hm (ao hs HB.out) (by rw[<-hm];exact aa.2)
   rw[hx] at ht h1
   have HT:=zh ht
   have H1:=zh h1
   clear hc ha hm hs aa h1 ht hx HH
   go_wp2_with fail
   refine HT.out.mono ?_
   rintro _ u2 ⟨rfl,ae⟩
   have ac:Hid (Below w.heap.size w u2):=bt HB.out ae
   clear ae HT c0 c1
   by_cases h0:x=0
   ·have H2:Hid (atomsE (l.drop (k+1))=R):=by have h:=H1.out;rw[if_pos h0] at h;exact h
    subst h0
    clear H1
    go_wp2_with fail
    go_roundw
    case rel=>exact⟨k+1,by omega,by go_num,H2,ac⟩
    case measure=>simp[intOf];omega
   ·have H2:Hid (x=R):=by have h:=H1.out;rw[if_neg h0] at h;exact h
    clear H1
    go_wp2_with fail
    go_ret
    exact⟨by rw[H2.out];rfl,ac.out⟩
  ·obtain rfl:k=n:=by omega
   have H2:Hid (R=0):=by
    show _=_
    rw[<-HH.out,List.drop_eq_nil_of_le (by rw[HN.out];exact Nat.le_refl _)];rfl
   go_wp2_with fail
   go_ret
   exact⟨by rw[H2.out];rfl,HB.out⟩
end
section
open Go.RowKit Rs At Pg Rp
attribute [local go_sem ↓] Go.wp_at_zero Go.wp_at_succ
attribute [local go_sem] Pg.av
theorem sf (nm vr nm2 vr2:List UInt8)(D C G D2 C2 G2:Option Addr)(dn dc cn cc gn gc dn2 dc2 cn2 cc2 gn2 gc2 wt wt2:Nat)(w:World)(h1:Vm.check vr=0)(h2:Vm.check vr2=0) :
  Calls Tryz.prog 36 #[.agg #[.string ⟨nm.toArray⟩,.string ⟨vr.toArray⟩,.slice D dn dc,.slice C cn cc,.slice G gn gc,.float .f64 wt],.agg #[.string ⟨nm2.toArray⟩,.string ⟨vr2.toArray⟩,.slice D2 dn2 dc2,.slice C2 cn2 cc2,.slice G2 gn2 gc2,.float .f64 wt2]] w fun e w'=>e=.returned (.int .i64 (Vm.both (Lib.compareBytes nm nm2) (Vm.cmpV vr vr2)))/\Below w.heap.size w w':=by
 obtain⟨V,hV⟩:=ex (w.alloc (.cells #[.string ⟨nm.toArray⟩,.string ⟨vr.toArray⟩,.slice D dn dc,.slice C cn cc,.slice G gn gc,.float .f64 wt] 60))
 obtain⟨U,hU⟩:=ex (V.alloc (.cells #[.string ⟨nm2.toArray⟩,.string ⟨vr2.toArray⟩,.slice D2 dn2 dc2,.slice C2 cn2 cc2,.slice G2 gn2 gc2,.float .f64 wt2] 60))
 have HB:Hid (Below w.heap.size w U):=(ai hV).trans ((ai hU).mono (ai hV).size)
 obtain⟨c0,c1,-,-,-,-⟩:=aw hV (ai hU)
 obtain⟨k0,k1,-,-,-,-⟩:=aw hU (Below.refl _ _)
 have HC:=zh (eU vr vr2 U h1 h2)
 have hr:=Vm.eR nm nm2
 have hl:=eT nm nm2
 obtain⟨x,hx⟩:=ex (Lib.compareBytes nm nm2)
 obtain⟨y,hy⟩:=ex (Vm.cmpV vr vr2)
 have hz:=Vm.ez nm nm2
 rw[hx] at hr hl hz ⊢
 rw[hy] at HC ⊢
 clear h1 h2 hx hy
 by_cases aa:x<0
 ·have ab:Op.bytesLess nm nm2=true:=by rw[hl];exact decide_eq_true aa
  have HX:Hid (Vm.both x y = -1):=by
   obtain rfl:x = -1:=by omega
   rfl
  clear aa hl hr hz HC
  go_enter Tryz.func36,Tryz.ntmps36
  go_wp2_with fail
  go_ret
  exact⟨by rw[HX.out];rfl,HB.out⟩
 have ab:Op.bytesLess nm nm2=false:=by rw[hl];exact decide_eq_false aa
 by_cases he:nm=nm2
 ·have d1:(nm==nm2)=true:=beq_iff_eq.2 he
  have HX:Hid (Vm.both x y=y):=by
   obtain rfl:x=0:=hz.2 he
   rfl
  clear aa hl hr hz he
  go_enter Tryz.func36,Tryz.ntmps36
  go_wp2_with fail
  clear hV hU
  refine HC.out.mono ?_
  rintro _ u ⟨rfl,hb⟩
  have HU:Hid (Below w.heap.size w u):=bt HB.out hb
  clear hb
  go_wp2_with fail
  go_ret
  exact⟨by rw[HX.out];rfl,HU.out⟩
 ·have d1:(nm==nm2)=false:=beq_eq_false_iff_ne.2 he
  have HX:Hid (Vm.both x y=1):=by
   have:x≠0:=fun e=>he (hz.1 e)
   obtain rfl:x=1:=by omega
   rfl
  clear aa hl hr hz he HC
  go_enter Tryz.func36,Tryz.ntmps36
  go_wp2_with fail
  go_ret
  exact⟨by rw[HX.out];rfl,HB.out⟩
end
section
open Go.RowKit Rs At Pg
attribute [local go_sem ↓] Go.wp_at_zero Go.wp_at_succ
def Pg.PWd (p:Pk):Prop:=p.name.length<=maxLen/\p.deps.length<=9223372036854775807/\(∀ d∈p.deps,d.length<=9223372036854775807/\AWd d)/\p.confl.length<=9223372036854775807/\AWd p.confl/\p.prov.length<=9223372036854775807/\GFew p.prov/\p.wt<Wm.W
theorem nh (p:Pk)(D C G:Option Addr)(dn dc cn cc gn gc:Nat)(w:World)(hw:MaxOk w)(hd:Pg.DRow w D p.deps)(hdn:p.deps.length=dn)(hc:ARow w C p.confl)(hcn:p.confl.length=cn)(hg:GRow w G p.prov)(hgn:p.prov.length=gn)(hf:PWd p) :
  Calls Tryz.prog 35 #[.agg #[.string ⟨p.name.toArray⟩,.string ⟨p.ver.toArray⟩,.slice D dn dc,.slice C cn cc,.slice G gn gc,.float .f64 p.wt]] w fun e w'=>e=.returned (.int .i64 (checkP p))/\Below w.heap.size w w':=by
 obtain⟨nm,v,deps,confl,prov,wt⟩:=p
 dsimp only at hd hdn hc hcn hg hgn ⊢
 obtain⟨f1,f2,f3,f4,f5,f6,f7,f8⟩:=hf
 dsimp only at f1 f2 f3 f4 f5 f6 f7 f8
 obtain⟨R,hR⟩:=ex (checkP ⟨nm,v,deps,confl,prov,wt⟩)
 rw[hR]
 unfold checkP at hR
 dsimp only at hR
 obtain⟨x1,aH⟩:=ex (verE v)
 obtain⟨x2,aI⟩:=ex (depsE deps)
 obtain⟨x3,aK⟩:=ex (atomsE confl)
 obtain⟨x4,aL⟩:=ex (givesE prov)
 obtain⟨x5,aM⟩:=ex (chkW wt)
 rw[aH,aI,aK,aL,aM,hdn,hcn,hgn] at hR
 have a4:dn<=9223372036854775807:=by omega
 have aU:cn<=9223372036854775807:=by omega
 have a5:gn<=9223372036854775807:=by omega
 obtain⟨W1,aN⟩:=ex (w.alloc (.cells #[.string ⟨nm.toArray⟩,.string ⟨v.toArray⟩,.slice D dn dc,.slice C cn cc,.slice G gn gc,.float .f64 wt] 60))
 have af:Hid (Below w.heap.size w W1):=ai aN
 obtain⟨b,hb⟩:=ex w.heap.size
 have HY:=zh (fun W (h:Below W1.heap.size W1 W)=>aw aN h)
 rw[hb] at HY
 have HM:=zh (ag hw af.out)
 have HD:=zh (aJ hd af.out)
 have aO:=zh hdn
 have HC:=zh (ay hc af.out)
 have aV:=zh hcn
 have HG:Hid (GRow W1 G prov):=Rg.aj hg af.out
 have aP:=zh hgn
 have aW:=zh f3
 have aX:=zh f5
 have aY:=zh f7
 have aZ:=zh f8
 have aQ:=zh aI
 have a0:=zh aK
 have aR:=zh aL
 have a1:=zh aM
 have HN:=zh (iQ nm W1 f1)
 have HV:=zh (jr v W1)
 rw[aH] at HV
 have HR:=zh hR
 have a6:Hid (Below b w W1):=by show Below _ _ _;rw[<-hb];exact af.out
 have ab:Hid (∀ u,Below W1.heap.size W1 u->Below w.heap.size w u):=fun u h=>bt af.out h
 clear hw hd hdn hc hcn hg hgn f1 f2 f3 f4 f5 f6 f7 f8 aH aI aK aL aM hR
 obtain⟨c0,c1,c2,c3,c4,c5⟩:=HY.out _ (Below.refl _ _)
 go_enter Tryz.func35,Tryz.ntmps35
 go_wp2_with fail
 clear aN hb
 refine HN.out.mono ?_
 rintro _ z ⟨rfl,rfl⟩
 cases ao:nameB nm
 ·have HE:Hid (R=3):=by have h:=HR.out;rw[ao,if_pos rfl] at h;exact h.symm
  clear ao
  go_wp2_with fail
  go_ret
  exact⟨by rw[HE.out];rfl,ab.out _ (Below.refl _ _)⟩
 have h:=HR.out
 rw[ao,if_neg (by decide)] at h
 have ap:=zh h
 clear h
 clear ao HR HN
 go_wp2_with fail
 refine HV.out.mono ?_
 rintro _ u ⟨rfl,hb⟩
 have HU:=zh hb
 clear hb c0 c1 c2 c3 c4 c5 HV
 obtain⟨c0,c1,c2,c3,c4,c5⟩:=HY.out _ HU.out
 by_cases h1:x1=0
 case neg =>
  have HE:Hid (R=x1):=by have h:=ap.out;rw[if_pos h1] at h;exact h.symm
  clear ap
  go_wp2_with fail
  go_ret
  exact⟨by rw[HE.out];rfl,ab.out _ HU.out⟩
 subst h1
 have h:=ap.out
 rw[if_neg (by simp)] at h
 have aq:=zh h
 clear h
 clear ap
 by_cases ar:16<dn
 ·have HE:Hid (R=4):=by have h:=aq.out;rw[if_pos ar] at h;exact h.symm
  have p1:(16:Int)<(dn:Int):=by omega
  clear aq ar
  go_wp2_with fail
  go_ret
  exact⟨by rw[HE.out];rfl,ab.out _ HU.out⟩
 have p1:¬ (16:Int)<(dn:Int):=by omega
 have h:=aq.out
 rw[if_neg ar] at h
 have ak:=zh h
 clear h
 clear aq ar
 go_wp2_with fail
 clear c0 c1 c2 c3 c4 c5 p1
 go_loopw [3,4] (fun e i wr=>∃ k:Nat,k<=dn/\e=.int .i64 0/\i=.int .i64 k/\Hid (depsE (deps.drop k)=x2)/\Hid (Below W1.heap.size W1 wr)) (fun _ i _=>dn-(intOf i).toNat)
 case atStart=>exact⟨0,Nat.zero_le _,rfl,rfl,aQ.out,HU.out⟩
 case round =>
  clear HU
  obtain⟨k,hk,rfl,rfl,HH,HW⟩:=hrel
  obtain⟨c0,c1,c2,c3,c4,c5⟩:=HY.out _ HW.out
  by_cases aF:k<dn
  ·have ae:k<deps.length:=by rw[aO.out];exact aF
   obtain⟨ad,B,m,d,rfl,hm,hs,hc⟩:=dB HD.out k ae
   have q0:=hc _ HW.out
   have al:deps.drop k=deps[k] :: deps.drop (k+1):=List.drop_eq_getElem_cons ae
   obtain⟨f1,f2⟩:=aW.out _ (List.getElem_mem ae)
   have hh:=HH.out
   rw[al,oh] at hh
   obtain⟨l,hl⟩:=ex (deps[k])
   rw[hl] at hm hs f1 f2 hh
   rw[hm] at hh
   have HS:=zh hs
   have aS:=zh hm
   have a2:=zh f1
   have a3:=zh f2
   have aa:=zh hh
   clear hc al hl f1 f2 hs hm HH hh
   by_cases aG:m<1
   ·have HE:Hid (R=4):=by
     have hh:=aa.out
     rw[if_neg (by omega)] at hh
     have h:=ak.out
     rw[<-hh,if_pos (by decide)] at h;exact h.symm
    have p2:(m:Int)<1:=by omega
    clear aG aa
    go_wp2_with fail
    go_ret
    exact⟨by rw[HE.out];rfl,ab.out _ HW.out⟩
   have p2:¬ (m:Int)<1:=by omega
   by_cases aT:8<m
   ·have HE:Hid (R=4):=by
     have hh:=aa.out
     rw[if_neg (by omega)] at hh
     have h:=ak.out
     rw[<-hh,if_pos (by decide)] at h;exact h.symm
    have p3:(8:Int)<(m:Int):=by omega
    clear aG aT aa
    go_wp2_with fail
    go_ret
    exact⟨by rw[HE.out];rfl,ab.out _ HW.out⟩
   have p3:¬ (8:Int)<(m:Int):=by omega
   obtain⟨y,hy⟩:=ex (atomsE l)
   have HA:=zh (kg B m d l wr (ag HM.out HW.out) aS.out (ay HS.out HW.out) (by rw[<-aS.out];exact a2.out) a3.out)
   have ac:Hid ((if y=0 then depsE (deps.drop (k+1)) else y)=x2):=by
    have hh:=aa.out
    rw[if_pos (by omega),hy] at hh;exact hh
   rw[hy] at HA
   clear hy aa aG aT
   go_wp2_with fail
   refine HA.out.mono ?_
   rintro _ u2 ⟨rfl,hb⟩
   have HU:=zh (bt HW.out hb)
   clear hb c0 c1 c2 c3 c4 c5 q0 HA p2 p3
   by_cases h0:y=0
   ·subst h0
    have HE:Hid (depsE (deps.drop (k+1))=x2):=by have:=ac.out;rw[if_pos rfl] at this;exact this
    clear ac
    go_wp2_with fail
    go_roundw
    case rel=>exact⟨k+1,by omega,rfl,by go_num,HE,HU⟩
    case measure=>simp[intOf];omega
   ·have HE:Hid (R=y):=by
     have hh:=ac.out
     rw[if_neg h0] at hh
     have h:=ak.out
     rw[<-hh,if_pos h0] at h;exact h.symm
    clear ac
    go_wp2_with fail
    go_ret
    exact⟨by rw[HE.out];rfl,ab.out _ HU.out⟩
  ·obtain rfl:k=dn:=by omega
   have h2:0=x2:=by rw[<-HH.out,List.drop_eq_nil_of_le (by rw[aO.out];exact Nat.le_refl _)];rfl
   have h:=ak.out
   rw[<-h2,if_neg (by simp)] at h
   have au:=zh h
   clear h h2
   clear ak HH aQ
   by_cases av:16<cn
   ·have HE:Hid (R=4):=by have h:=au.out;rw[if_pos av] at h;exact h.symm
    have p1:(16:Int)<(cn:Int):=by omega
    clear au av
    go_wp2_with fail
    go_ret
    exact⟨by rw[HE.out];rfl,ab.out _ HW.out⟩
   have p1:¬ (16:Int)<(cn:Int):=by omega
   have h:=au.out
   rw[if_neg av] at h
   have ax:=zh h
   clear h
   have HA:=zh (kg C cn cc confl wr (ag HM.out HW.out) aV.out (ay HC.out HW.out) aU aX.out)
   rw[a0.out] at HA
   clear au av
   go_wp2_with fail
   refine HA.out.mono ?_
   rintro _ u2 ⟨rfl,hb⟩
   have HU:=zh (bt HW.out hb)
   clear hb c0 c1 c2 c3 c4 c5 HA p1 HW
   obtain⟨c0,c1,c2,c3,c4,c5⟩:=HY.out _ HU.out
   by_cases h3:x3=0
   case neg =>
    have HE:Hid (R=x3):=by have h:=ax.out;rw[if_pos h3] at h;exact h.symm
    clear ax
    go_wp2_with fail
    go_ret
    exact⟨by rw[HE.out];rfl,ab.out _ HU.out⟩
   have h:=ax.out
   rw[if_neg (by simp[h3])] at h
   have az:=zh h
   clear h
   subst h3
   clear ax
   by_cases aA:16<gn
   ·have HE:Hid (R=4):=by have h:=az.out;rw[if_pos aA] at h;exact h.symm
    have p1:(16:Int)<(gn:Int):=by omega
    clear az aA
    go_wp2_with fail
    go_ret
    exact⟨by rw[HE.out];rfl,ab.out _ HU.out⟩
   have p1:¬ (16:Int)<(gn:Int):=by omega
   have h:=az.out
   rw[if_neg aA] at h
   have aB:=zh h
   clear h
   clear az aA
   go_wp2_with fail
   clear c0 c1 c2 c3 c4 c5 p1
   go_loopw [3,5] (fun e i ws=>∃ j:Nat,j<=gn/\e=.int .i64 0/\i=.int .i64 j/\Hid (givesE (prov.drop j)=x4)/\Hid (Below W1.heap.size W1 ws)) (fun _ i _=>gn-(intOf i).toNat)
   case atStart=>exact⟨0,Nat.zero_le _,rfl,rfl,aR.out,HU.out⟩
   case round =>
    clear HU
    obtain⟨k,hk,rfl,rfl,HH,HW⟩:=hrel
    obtain⟨c0,c1,c2,c3,c4,c5⟩:=HY.out _ HW.out
    by_cases aF:k<gn
    ·have ae:k<prov.length:=by rw[aP.out];exact aF
     obtain⟨ad,rfl,hc⟩:=dJ HG.out k ae
     obtain⟨q0,q1⟩:=hc _ HW.out
     have al:prov.drop k=prov[k] :: prov.drop (k+1):=List.drop_eq_getElem_cons ae
     obtain⟨f1,f2⟩:=xM aY.out k ae
     have hh:=HH.out
     rw[al,ml] at hh
     obtain⟨a,ha⟩:=ex (prov[k])
     rw[ha] at q0 q1 f1 hh
     obtain⟨aE,gv⟩:=a
     dsimp only at q0 q1 f1
     have am:=zh (iQ aE wr f1)
     have aC:=zh (jr gv wr)
     have aa:=zh hh
     clear hc al ha f1 f2 hh HH
     obtain⟨bn,an⟩:=ex (nameB aE)
     rw[an] at am
     cases bn
     ·have HE:Hid (R=3):=by
       have hh:=aa.out
       rw[show giveE ⟨aE,gv⟩=3 from by unfold giveE;rw[an,if_neg (by decide)],if_neg (by decide)] at hh
       have h:=aB.out
       rw[<-hh,if_pos (by decide)] at h;exact h.symm
      clear an aa
      go_wp2_with fail
      refine am.out.mono ?_
      rintro _ z ⟨rfl,rfl⟩
      go_wp2_with fail
      go_ret
      exact⟨by rw[HE.out];rfl,ab.out _ HW.out⟩
     have aD:Hid (giveE ⟨aE,gv⟩=if gv=[] then 0 else verE gv):=by show giveE _=_;unfold giveE;rw[an,if_pos rfl]
     clear an
     by_cases ah:gv=[]
     ·have HE:Hid (givesE (prov.drop (k+1))=x4):=by
       have hh:=aa.out
       rw[aD.out,if_pos ah,if_pos rfl] at hh;exact hh
      subst ah
      clear aa aD aC
      go_wp2_with fail
      refine am.out.mono ?_
      rintro _ z ⟨rfl,rfl⟩
      go_wp2_with fail
      go_roundw
      case rel=>exact⟨k+1,by omega,rfl,by go_num,HE,HW⟩
      case measure=>simp[intOf];omega
     have e0:(gv==[])=false:=beq_eq_false_iff_ne.2 ah
     have e1:gv.isEmpty=false:=by cases gv with
      | nil=>exact absurd rfl ah
      | cons _ _=>rfl
     obtain⟨y,hy⟩:=ex (verE gv)
     have ac:Hid ((if y=0 then givesE (prov.drop (k+1)) else y)=x4):=by
      have hh:=aa.out
      rw[aD.out,if_neg ah,hy] at hh;exact hh
     rw[hy] at aC
     clear hy aa aD ah
     go_wp2_with fail
     refine am.out.mono ?_
     rintro _ z ⟨rfl,rfl⟩
     go_wp2_with fail
     refine aC.out.mono ?_
     rintro _ u2 ⟨rfl,hb⟩
     have HU:=zh (bt HW.out hb)
     clear hb c0 c1 c2 c3 c4 c5 q0 q1 aC am
     by_cases h0:y=0
     ·subst h0
      have HE:Hid (givesE (prov.drop (k+1))=x4):=by have:=ac.out;rw[if_pos rfl] at this;exact this
      clear ac
      go_wp2_with fail
      go_roundw
      case rel=>exact⟨k+1,by omega,rfl,by go_num,HE,HU⟩
      case measure=>simp[intOf];omega
     ·have HE:Hid (R=y):=by
       have hh:=ac.out
       rw[if_neg h0] at hh
       have h:=aB.out
       rw[<-hh,if_pos h0] at h;exact h.symm
      clear ac
      go_wp2_with fail
      go_ret
      exact⟨by rw[HE.out];rfl,ab.out _ HU.out⟩
    ·obtain rfl:k=gn:=by omega
     have HE:Hid (x5=R):=by
      have h2:0=x4:=by rw[<-HH.out,List.drop_eq_nil_of_le (by rw[aP.out];exact Nat.le_refl _)];rfl
      have h:=aB.out
      rw[<-h2,if_neg (by simp)] at h;exact h
     have HA:=zh (rN wt aZ.out wr)
     rw[a1.out,HE.out] at HA
     clear aB HH aR HE
     go_wp2_with fail
     refine HA.out.mono ?_
     rintro _ u2 ⟨rfl,rfl⟩
     go_wp2_with fail
     go_ret
     exact⟨rfl,ab.out _ HW.out⟩
end
section
open Go.RowKit Rs At Pg Rp
attribute [local go_sem ↓] Go.wp_at_zero Go.wp_at_succ
attribute [local go_sem] Pg.av
theorem Rp.afm {l:List Pk}{n:Nat}(hn:l.length=n):(64<n->chkR l=(0,4))/\(¬ 64<n->chkR l=chkF 0 none l):=by
 subst hn
 exact⟨fun h=>if_pos h,fun h=>if_neg h⟩
theorem abP {u:World}(hw:MaxOk u)(p:Pk)(D C G:Option Addr)(dc cc gc:Nat)(hd:Pg.DRow u D p.deps)(hc:ARow u C p.confl)(hg:GRow u G p.prov)(hf:PWd p){k:Int}(hk:checkP p=k){nm vr:List UInt8}{dn cn gn wt:Nat}(e0:p.name=nm)(e1:p.ver=vr)(e2:p.deps.length=dn)(e3:p.confl.length=cn)(e4:p.prov.length=gn)(e5:p.wt=wt) :
  Calls Tryz.prog 35 #[.agg #[.string ⟨nm.toArray⟩,.string ⟨vr.toArray⟩,.slice D dn dc,.slice C cn cc,.slice G gn gc,.float .f64 wt]] u fun e w'=>e=.returned (.int .i64 k)/\Below u.heap.size u w':=by
 subst e0 e1 e5 hk
 exact nh p D C G dn dc cn cc gn gc u hw hd e2 hc e3 hg e4 hf
theorem fR (A:Option Addr)(n c:Nat)(l:List Pk)(w:World)(hw:MaxOk w)(hn:l.length=n)(hr:RRow w A l)(hf:∀ p∈l,PWd p) :
  Calls Tryz.prog 8 #[.slice A n c] w fun e w'=>e=.returned (.tuple #[.int .i64 (chkR l).1,.int .i64 (chkR l).2])/\Below w.heap.size w w':=by
 have HM:=zh (fun u (h:Below w.heap.size w u)=>ag hw h)
 have HN:=zh hn
 have HR:=zh hr
 have HF:=zh hf
 obtain⟨R,hR⟩:=ex (chkR l)
 obtain⟨q1,q2⟩:=afm hn
 rw[hR] at q1 q2 ⊢
 clear hw hn hr hf hR
 by_cases ak:64<n
 ·have d:decide (64<(n:Int))=true:=decide_eq_true (by omega)
  have HE:=zh (q1 ak)
  clear ak q1 q2
  go_enter Tryz.func8,Tryz.ntmps8
  go_wp2_with fail
  go_ret2
  exact⟨by rw[HE.out];rfl,Below.refl _ _⟩
 have a9:n<=64:=by omega
 have d:decide (64<(n:Int))=false:=decide_eq_false (by omega)
 have ba:=zh (q2 ak).symm
 clear ak q1 q2
 go_enter Tryz.func8,Tryz.ntmps8
 go_wp2_with fail
 clear d
 go_loopw [4] (fun i wr=>∃ k:Nat,k<=n/\i=.int .i64 k/\Hid (chkF k (prevP l k) (l.drop k)=R)/\Hid (∀ p∈l.take k,checkP p=0)/\Hid (Below w.heap.size w wr)) (fun i _=>n-(intOf i).toNat)
 case atStart=>exact⟨0,Nat.zero_le _,rfl,ba.out,fun p h=>(by cases h),Below.refl _ _⟩
 case round =>
  obtain⟨k,hk,rfl,HI,HO,HB⟩:=hrel
  by_cases aU:k<n
  ·have ac:=zh aU
   have al:k<l.length:=by rw[HN.out];exact aU
   obtain⟨s1,s2,s3⟩:=abm al HI.out
   obtain⟨ad,D,dc,C,cc,G,gc,rfl,hd,hc,hg,aa⟩:=aY HR.out k al
   have aG:=HF.out _ (List.getElem_mem al)
   have aH:∀ p∈l.take (k+1),p∈l.take k\/p=l[k]:=fun p hp=>by
    rw[List.take_succ_eq_append_getElem al] at hp
    rcases List.mem_append.1 hp with h | h
    ·exact Or.inl h
    ·exact Or.inr (List.mem_singleton.1 h)
   obtain⟨q,hq⟩:=ex (l[k])
   rw[hq] at hd hc hg aa aG s1 s2 s3 aH
   obtain⟨af,ap⟩:=ex q.name
   obtain⟨ae,aq⟩:=ex q.ver
   obtain⟨ar,aP⟩:=ex q.deps.length
   obtain⟨au,aQ⟩:=ex q.confl.length
   obtain⟨av,aR⟩:=ex q.prov.length
   obtain⟨aw,aS⟩:=ex q.wt
   rw[ap,aq,aP,aQ,aR,aS] at aa
   have bb:=zh aa
   obtain⟨c0,c1,c2,c3,c4,c5⟩:=aa _ HB.out
   obtain⟨x,hx⟩:=ex (checkP q)
   have HC:=zh (abP (HM.out wr HB.out) q D C G dc cc gc (aJ hd HB.out) (ay hc HB.out) (Rg.aj hg HB.out) aG hx ap aq aP aQ aR aS)
   rw[hx] at s1 s2 s3
   have aI:=zh s1
   have aK:=zh s2
   have am:=zh s3
   have HX:=zh hx
   have H0:=zh ap
   have H1:=zh aq
   have bc:=zh aH
   clear hq hd hc hg aa aG s1 s2 s3 aH ap aq aP aQ aR aS hx
   go_wp2_with fail
   clear c0 c1 c2 c3 c4 c5
   refine HC.out.mono ?_
   rintro _ u ⟨rfl,hb⟩
   have HU:Hid (Below w.heap.size w u):=bt HB.out hb
   clear hb HC HB
   by_cases aV:x=0
   ·subst aV
    have aW:Hid (∀ p∈l.take (k+1),checkP p=0):=fun p hp=>by
     rcases bc.out p hp with h | rfl
     ·exact HO.out p h
     ·exact HX.out
    by_cases an:k=0
    ·have bd:=zh (aK.out rfl an)
     have d0:(k:Int)=0:=by omega
     have bl:=zh an
     clear aI am an
     go_wp2_with fail
     go_roundw
     case rel=>exact⟨k+1,(by have:=ac.out;omega),by go_num,bd.out,aW.out,HU.out⟩
     case measure=>have:=ac.out;simp[intOf];omega
    ·obtain⟨p,hp⟩:∃ p,p+1=k:=⟨k-1,by omega⟩
     have aX:p<l.length:=by have:=ac.out;have:=HN.out;omega
     obtain⟨t1,t2,t3⟩:=am.out rfl p aX hp
     have ao:Vm.check l[p].ver=0:=eL (HO.out _ (List.mem_take_iff_getElem.2 ⟨p,by have:=HN.out;have:=ac.out;omega,rfl⟩))
     obtain⟨bm,D2,ax,C2,az,G2,aA,e',_,_,_,aa⟩:=aY HR.out p aX
     cases e'
     obtain⟨P,hP⟩:=ex (l[p])
     rw[hP] at t1 t2 t3 ao aa
     obtain⟨ah,aT⟩:=ex P.name
     obtain⟨ai,aB⟩:=ex P.ver
     obtain⟨aC,a5⟩:=ex P.deps.length
     obtain⟨aD,a6⟩:=ex P.confl.length
     obtain⟨aE,a7⟩:=ex P.prov.length
     obtain⟨aF,a8⟩:=ex P.wt
     have aZ:cmpP P q=Vm.both (Lib.compareBytes ah af) (Vm.cmpV ai ae):=by unfold cmpP;rw[aT,aB,H0.out,H1.out]
     obtain⟨y,hy⟩:=ex (Vm.both (Lib.compareBytes ah af) (Vm.cmpV ai ae))
     rw[aZ,hy] at t1 t2 t3
     rw[aT,aB,a5,a6,a7,a8] at aa
     have a0:Vm.check ae=0:=by rw[<-H1.out];exact eL HX.out
     rw[aB] at ao
     have aL:Hid (∀ v,Below u.heap.size u v->(v.cell? (ad.add (p*6))=some (.string ⟨ah.toArray⟩)/\v.cell? ⟨(ad.add (p*6)).block,(ad.add (p*6)).off+1,none⟩=some (.string ⟨ai.toArray⟩)/\v.cell? ⟨(ad.add (p*6)).block,(ad.add (p*6)).off+2,none⟩=some (.slice D2 aC ax)/\v.cell? ⟨(ad.add (p*6)).block,(ad.add (p*6)).off+3,none⟩=some (.slice C2 aD az)/\v.cell? ⟨(ad.add (p*6)).block,(ad.add (p*6)).off+4,none⟩=some (.slice G2 aE aA)/\v.cell? ⟨(ad.add (p*6)).block,(ad.add (p*6)).off+5,none⟩=some (.float .f64 aF))/\(v.cell? (ad.add (k*6))=some (.string ⟨af.toArray⟩)/\v.cell? ⟨(ad.add (k*6)).block,(ad.add (k*6)).off+1,none⟩=some (.string ⟨ae.toArray⟩)/\v.cell? ⟨(ad.add (k*6)).block,(ad.add (k*6)).off+2,none⟩=some (.slice D ar dc)/\v.cell? ⟨(ad.add (k*6)).block,(ad.add (k*6)).off+3,none⟩=some (.slice C au cc)/\v.cell? ⟨(ad.add (k*6)).block,(ad.add (k*6)).off+4,none⟩=some (.slice G av gc)/\v.cell? ⟨(ad.add (k*6)).block,(ad.add (k*6)).off+5,none⟩=some (.float .f64 aw))):=fun v h=>⟨aa v (bt HU.out h),bb.out v (bt HU.out h)⟩
     have FC:Hid (∀ v,Calls Tryz.prog 36 #[.agg #[.string ⟨ah.toArray⟩,.string ⟨ai.toArray⟩,.slice D2 aC ax,.slice C2 aD az,.slice G2 aE aA,.float .f64 aF],.agg #[.string ⟨af.toArray⟩,.string ⟨ae.toArray⟩,.slice D ar dc,.slice C au cc,.slice G av gc,.float .f64 aw]] v fun e w'=>e=.returned (.int .i64 y)/\Below v.heap.size v w'):=fun v=>by
      rw[<-hy]
      exact sf ah ai af ae D2 C2 G2 D C G aC ax aD az aE aA ar dc au cc av gc aF aw v ao a0
     have a1:(k:Int)-1=(p:Int):=by omega
     have be:IntKind.i64.wrap ((k:Int)-1)=(p:Int):=by rw[a1];exact IntWalk.i64_in _ (by omega)
     have bf:(p:Int)<(n:Int):=by have:=ac.out;omega
     have bg:(0:Int)<=(p:Int):=by omega
     have bh:IntKind.i64.wrap (p:Int)=(p:Int):=IntWalk.i64_in _ (by omega)
     have aM:¬ ((k:Int)=0):=by omega
     have a2:Hid (Below u.heap.size u u.drew):=(Below.refl _ _).drew
     have bi:=zh t1
     have bj:=zh t2
     have bk:=zh t3
     clear t1 t2 t3 ao a0 aa hP aT aB a5 a6 a7 a8 aZ hy hp an aI aK am
     go_wp2_with fail
     go_region_held3 (fun v=>(v.cell? (ad.add (p*6))=some (.string ⟨ah.toArray⟩)/\v.cell? ⟨(ad.add (p*6)).block,(ad.add (p*6)).off+1,none⟩=some (.string ⟨ai.toArray⟩)/\v.cell? ⟨(ad.add (p*6)).block,(ad.add (p*6)).off+2,none⟩=some (.slice D2 aC ax)/\v.cell? ⟨(ad.add (p*6)).block,(ad.add (p*6)).off+3,none⟩=some (.slice C2 aD az)/\v.cell? ⟨(ad.add (p*6)).block,(ad.add (p*6)).off+4,none⟩=some (.slice G2 aE aA)/\v.cell? ⟨(ad.add (p*6)).block,(ad.add (p*6)).off+5,none⟩=some (.float .f64 aF))/\(v.cell? (ad.add (k*6))=some (.string ⟨af.toArray⟩)/\v.cell? ⟨(ad.add (k*6)).block,(ad.add (k*6)).off+1,none⟩=some (.string ⟨ae.toArray⟩)/\v.cell? ⟨(ad.add (k*6)).block,(ad.add (k*6)).off+2,none⟩=some (.slice D ar dc)/\v.cell? ⟨(ad.add (k*6)).block,(ad.add (k*6)).off+3,none⟩=some (.slice C au cc)/\v.cell? ⟨(ad.add (k*6)).block,(ad.add (k*6)).off+4,none⟩=some (.slice G av gc)/\v.cell? ⟨(ad.add (k*6)).block,(ad.add (k*6)).off+5,none⟩=some (.float .f64 aw)))
      (first
       | with_reducible exact aL.out _ a2.out
       | with_reducible exact aL.out _ a3.out)
      ((go_at_call 36;refine (FC.out _).mono ?_;rintro _ u2 ⟨rfl,hb⟩;have a3:=zh (bt a2.out hb);clear hb))
     have aN:Hid (Below w.heap.size w u2):=bt HU.out a3.out
     clear a1 be bh bf bg FC aL
     by_cases a4:y=0
     ·have ab:=zh (bi.out a4)
      clear aM
      go_wp2_with fail
      go_ret2
      exact⟨by rw[ab.out];rfl,aN.out⟩
     ·have HY:=zh a4
      by_cases aO:0<y
      ·have ab:=zh (bj.out HY.out aO)
       have d3:decide (0<y)=true:=decide_eq_true aO
       clear aM
       go_wp2_with fail
       go_ret2
       exact⟨by rw[ab.out];rfl,aN.out⟩
      ·have ab:=zh (bk.out HY.out (by omega))
       have d3:decide (0<y)=false:=decide_eq_false aO
       clear aM
       go_wp2_with fail
       go_roundw
       case rel=>exact⟨k+1,(by have:=ac.out;omega),by go_num,ab.out,aW.out,aN.out⟩
       case measure=>have:=ac.out;simp[intOf];omega
   ·have ab:=zh (aI.out aV)
    clear aK am
    go_wp2_with fail
    go_ret2
    exact⟨by rw[ab.out];rfl,HU.out⟩
  ·obtain rfl:k=n:=by omega
   have hI:=HI.out
   rw[List.drop_eq_nil_of_le (by rw[HN.out];exact Nat.le_refl _)] at hI
   have ab:Hid (R=(0,0)):=hI.symm
   clear hI
   go_wp2_with fail
   go_ret2
   exact⟨by rw[ab.out];rfl,HB.out⟩
end
section
open Go.RowKit Rs At Pg Rp
attribute [local go_sem ↓] Go.wp_at_zero Go.wp_at_succ
attribute [local go_sem] Pg.av
namespace Rp
theorem js:maxLen<=9223372036854775807:=by decide
theorem vu {p:Pk}(h:PWide p):PWd p :=
 have wd:∀ {l:List Atm},(∀ a∈l,AWide a)->AWd l:=fun h a ha=>⟨(h a ha).1,Nat.le_trans (h a ha).2.1 js⟩
 ⟨h.1,Nat.le_trans h.2.2.1 js,fun d hd=>⟨Nat.le_trans (h.2.2.2.1 d hd).1 js,wd (h.2.2.2.1 d hd).2⟩,Nat.le_trans h.2.2.2.2.1 js,wd h.2.2.2.2.2.1,Nat.le_trans h.2.2.2.2.2.2.1 js,h.2.2.2.2.2.2.2.1,h.2.2.2.2.2.2.2.2⟩
end Rp
end
section
open Go.RowKit Go.ChangeShapes
theorem errStar:"*errors.errorString" = "*"++"errors.errorString" := by decide
theorem errRow (u:TypeId)(h:Tryz.prog.typeName? 3 u=some "*errors.errorString"):u=370 :=
 typeName_ptr_named (nm := "errors.errorString") (by rw[<-errStar]; kernel_rfl) (by kernel_rfl) (by decide) u (by rw[<-errStar]; exact h)
theorem abQ {W:World}(hm:MaxOk W)(h:laidMet Tryz.prog [("math/bits.deBruijn32tab", Rows.laid_math_bits_deBruijn32tab), ("math/bits.deBruijn64tab", Rows.laid_math_bits_deBruijn64tab), ("internal/strconv.uint64pow10", Rows.laid_internal_strconv_uint64pow10), ("unicode/utf8.acceptRanges", Rows.laid_unicode_utf8_acceptRanges), ("strconv.ErrRange", Rows.laid_strconv_ErrRange), ("strconv.ErrSyntax", Rows.laid_strconv_ErrSyntax), ("unicode/utf8.first", Rows.laid_unicode_utf8_first)] W):KOk W := by
 refine⟨hm,?_,?_,?_⟩
 ·exact Lib.tabIs_of_head (k:=.u64) (zs:=Lib.pow10Tab) (n:=20) (g:=3) (t:=330) (by kernel_rfl) (by kernel_rfl) (show Tryz.prog.underlying _=some (.array 20 63) by kernel_rfl) Tryz.underlying63 (by kernel_rfl) (by kernel_rfl) h.tail.tail
 ·exact Lib.tabIs_of_head (k:=.u8) (zs:=Lib.deBruijn64tab.map Int.ofNat) (n:=64) (g:=2) (t:=298) (by kernel_rfl) (by kernel_rfl) (show Tryz.prog.underlying _=some (.array 64 5) by kernel_rfl) Tryz.underlying5 (by kernel_rfl) (by kernel_rfl) h.tail
 ·obtain⟨a,s,hv,_⟩:=laid_sentinel h.tail.tail.tail.tail (g:=8) (ti:=175) (tp:=370) (te:=372) (ts:=9) (by kernel_rfl) (by kernel_rfl) Tryz.underlying175 errRow Tryz.underlying370 Tryz.underlying372 rfl rfl Tryz.underlying9 (by kernel_rfl) (by kernel_rfl)
  exact⟨_,_,hv⟩
end
section
open Go.RowKit Go.ChangeShapes Go.WideShapes Go.Joins Rs At Pg Rp
namespace Rp
instance:Inhabited PD:=⟨⟨[],[],(none,0,0),(none,0,0),(none,0,0),0⟩⟩
instance:Inhabited Pk:=⟨⟨[],[],[],[],[],0⟩⟩
theorem rz {H:Type}{enc:TypeId × Value->H}{P:Program}{W:World}{ta t e ts tb:TypeId}{b0:Nat}{tps tp tg tgl tf tl tt:TypeId}{v:Value}{d:DataW H}{ps:List MemPlace}(hsl:P.underlying tps=some (.slice tp))(hT:PkT P tp tg tgl tf tl tt ta t e ts tb)(hval:Value.okWide P W .any b0 tps v)(h:DataW.Trod enc P W 0 (fun _=>true) true tps v d ps) :
  ∃ (A:Option Addr) (c:Nat) (l:List Pk),v=.slice A l.length c/\RRow W A l/\l.length<=maxLen/\∀ p∈l,PWide p:=by
 obtain⟨hA,h2,h3,h4,h5,h6,h7,h8,h9,aj,ai,⟨f0,f1,hg,ak,al⟩,k0,k1,k2,k3,k4,k5,hp,p0,p1,p2,p3,p4,p5⟩:=hT
 have hs:=hA.1.2.1
 have af:=hA.1.2.2.2.1
 obtain⟨a0,l0,c0,rfl⟩:=okWide_slice hsl hval
 obtain⟨fuel,hf⟩:=h
 rcases Go.Deep.open_slice hsl hf with⟨hcs,_⟩ | ⟨a,len,cap,m,n,D,Pl,hcs,_,hlc,hmx,hmm,_,hi⟩
 ·simp[Value.cells] at hcs
  obtain⟨rfl,rfl,rfl⟩:=hcs
  exact⟨none,0,[],rfl,⟨[],fun h=>absurd h (by decide),rfl,fun i d a h=>by simp at h⟩,Nat.zero_le _,fun a ha=>by cases ha⟩
 ·simp[Value.cells] at hcs
  obtain⟨rfl,rfl,rfl⟩:=hcs
  simp only[if_true] at hmm
  have each:∀ i,i<l0->∃ y:PD × Pk,Rg.At encP W (a.add (i*6)) y.1/\(a.add (i*6)).block<W.heap.size/\POne W y.1 y.2/\PWide y.2:=fun i ah=>by
   obtain⟨aA,hc,am⟩:=hi i (by omega)
   rw[ai] at hc
   obtain⟨xs,n',_,_,hl,hlen,ab⟩:=DataW.trod_struct hp am
   rw[ai] at hl
   match xs,hlen with
   | [y0,y1,y2,y3,y4,y5],_ =>
    have g0:=ab 0 k0 rfl
    have g1:=ab 1 k1 rfl
    have g2:=ab 2 k2 rfl
    have g3:=ab 3 k3 rfl
    have g4:=ab 4 k4 rfl
    have g5:=ab 5 k5 rfl
    rw[p0.1,p0.2,af,take1 hl (by omega)] at g0
    rw[p1.1,p1.2,af,take1 hl (by omega)] at g1
    rw[p2.1,p2.2,h5,take1 hl (by omega)] at g2
    rw[p3.1,p3.2,h3,take1 hl (by omega)] at g3
    rw[p4.1,p4.2,h7,take1 hl (by omega)] at g4
    rw[p5.1,p5.2,aj,take1 hl (by omega)] at g5
    obtain⟨s0,e0,_,m0⟩:=DataW.trod_string hs g0
    obtain⟨s1,e1,_,m1⟩:=DataW.trod_string hs g1
    obtain⟨D2,dc,l2,e2,an,ao,ap⟩:=zI hA h2 h3 h4 g2
    obtain⟨C2,cc,l3,e3,aq,ar,au⟩:=mB hA h2 g3
    obtain⟨G2,gc,l4,e4,av,aw,ax⟩:=wV hg ak al h8 hs af h6 g4
    obtain⟨f,e5,ay⟩:=zJ h9 g5
    obtain⟨_,az,aa⟩:=World.cells?_some hc
    have c0:=(aa 0 (by omega)).trans ((List.getElem?_eq_getElem (by omega)).trans (congrArg some (List.cons.inj e0).1))
    have c1:=(aa 1 (by omega)).trans ((List.getElem?_eq_getElem (by omega)).trans (congrArg some (List.cons.inj e1).1))
    have c2:=(aa 2 (by omega)).trans ((List.getElem?_eq_getElem (by omega)).trans (congrArg some (List.cons.inj e2).1))
    have c3:=(aa 3 (by omega)).trans ((List.getElem?_eq_getElem (by omega)).trans (congrArg some (List.cons.inj e3).1))
    have c4:=(aa 4 (by omega)).trans ((List.getElem?_eq_getElem (by omega)).trans (congrArg some (List.cons.inj e4).1))
    have c5:=(aa 5 (by omega)).trans ((List.getElem?_eq_getElem (by omega)).trans (congrArg some (List.cons.inj e5).1))
    have ci:=cj c0
    rw[Rs.add_block] at ci
    refine⟨(⟨s0.data.toList,s1.data.toList,(D2,l2.length,dc),(C2,l3.length,cc),(G2,l4.length,gc),f⟩,⟨s0.data.toList,s1.data.toList,l2,l3,l4,f⟩),fun j u hu=>?_,ci,⟨rfl,rfl,rfl,rfl,rfl,rfl,an,aq,av⟩,by show s0.data.toList.length<=maxLen;rw[Array.length_toList];exact m0,by show s1.data.toList.length<=maxLen;rw[Array.length_toList];exact m1,ao,ap,ar,au,aw,ax,ay⟩
    match j with
    | 0=>cases hu;rw[if_pos rfl];exact c0
    | 1=>cases hu;exact c1
    | 2=>cases hu;exact c2
    | 3=>cases hu;exact c3
    | 4=>cases hu;exact c4
    | 5=>cases hu;exact c5
    | j+6=>simp[encP] at hu
  obtain⟨f,ad⟩:=Go.Deep.choose_lt each
  have ac:((List.range l0).map fun i=>(f i).1).length=l0:=by simp
  have ag:((List.range l0).map fun i=>(f i).2).length=l0:=by simp
  refine⟨some a,c0,(List.range l0).map fun i=>(f i).2,by rw[ag],⟨(List.range l0).map fun i=>(f i).1,fun h0=>?_,by rw[ac,ag],fun i d b h1 h2=>?_⟩,by rw[ag];omega,fun b hb=>?_⟩
  ·rw[ac] at h0
   refine⟨a,rfl,?_,fun i ae=>?_⟩
   ·have:=(ad 0 h0).2.1
    rwa [Rs.add_block] at this
   ·rw[ac] at ae
    have:=(ad i ae).1
    simpa using this
  ·have ah:i<l0:=by have:=(List.getElem?_eq_some_iff.1 h1).1;rwa [ac] at this
   obtain⟨_,_,g1,_⟩:=ad i ah
   rw[List.getElem?_map,List.getElem?_range ah] at h1 h2
   cases h1;cases h2
   exact g1
  ·obtain⟨i,ae,rfl⟩:=List.mem_map.1 hb
   exact (ad i (List.mem_range.1 ae)).2.2.2
end Rp
end
end Go.Proofs.YtgnaiidgjmicaaaGreatDoor

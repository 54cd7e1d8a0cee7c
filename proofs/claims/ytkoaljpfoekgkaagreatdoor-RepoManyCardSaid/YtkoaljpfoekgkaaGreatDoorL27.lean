/- Part 27 of what the laws lean on. -/
import Derived.Test.YtkoaljpfoekgkaaGreatDoorL26
import Derived.Stop.LaidErr
import Derived.LaidMore
set_option maxRecDepth 100000
set_option maxHeartbeats 12800000
namespace Go.Proofs.YtkoaljpfoekgkaaGreatDoor
section
open Go.RowKit Rs At Pg Rp
attribute [local go_sem ↓] Go.wp_at_zero Go.wp_at_succ
attribute [local go_sem] Pg.aA
namespace Rp
theorem aa9 {w:World}(hk:KOk w):Calls Tryz.prog 9 #[.string ⟨small7.toArray⟩] w fun e w'=>∃ ad c,e=.returned (.tuple #[.slice (some ad) 3 c,.int .i64 0,.int .i64 0])/\RRow w' (some ad) r7/\Below w.heap.size w w' :=
 (cY small7 w hk (r5 k7d.1)).mono fun e w' ⟨A,c,he,hr,hb⟩=>by
  rw[k7a] at he hr
  obtain⟨ad,_,_,_,_,_,_,rfl,_⟩:=bq hr 0 (by decide)
  exact⟨ad,c,he,hr,hb⟩
theorem adi {w:World}(hk:KOk w):Calls Tryz.prog 9 #[.string ⟨#[80,97,99,107,97,103,101,58,32,97,10,86,101,114,115,105,111,110,58,32,49,10,10,80,97,99,107,97,103,101,58,32,97,10,86,101,114,115,105,111,110,58,32,48,49,45,48,10]⟩] w fun e w'=>∃ A c,e=.returned (.tuple #[.slice A 0 c,.int .i64 3,.int .i64 6])/\Below w.heap.size w w' :=
 (cY two7 w hk (r5 k7d.2.1)).mono fun e w' ⟨A,c,he,hr,hb⟩=>by
  rw[k7b] at he
  exact⟨A,c,he,hb⟩
theorem adj {w:World}(hk:KOk w):Calls Tryz.prog 9 #[.string ⟨#[80,97,99,107,97,103,101,58,32,97,10,86,101,114,115,105,111,110,58,32,49,10,68,101,112,101,110,100,115,58,32,66,10]⟩] w fun e w'=>∃ A c,e=.returned (.tuple #[.slice A 0 c,.int .i64 2,.int .i64 3])/\Below w.heap.size w w' :=
 (cY bad7 w hk (r5 k7d.2.2)).mono fun e w' ⟨A,c,he,hr,hb⟩=>by
  rw[k7c] at he
  exact⟨A,c,he,hb⟩
theorem few7:RFew r7:=all7 fun _ h hw=>oo h hw
theorem ver7:∀ p∈r7,Vm.check p.ver=0:=all7 fun _ h _=>fi h
theorem name7:∀ p∈r7,p.name.length<=1000000:=all7 fun p h hw=>Nat.le_trans (fT h hw).1 (by decide)
theorem may7:∀ p∈r7,Vm.check p.ver=0/\(∀ g∈p.prov,g.ver=[]\/Vm.check g.ver=0)/\p.prov.length<=1000000:=all7 fun p h hw=>⟨fi h,(gj h).2,Nat.le_trans (fT h hw).2.2.2.2.2.2.2.2.1 (by decide)⟩
theorem aba {w:World}(hk:KOk w)(A:Option Addr)(c:Nat)(hr:RRow w A r7):Calls Tryz.prog 12 #[.slice A 3 c] w fun e w'=>e=.returned (.tuple #[.string ⟨#[80,97,99,107,97,103,101,58,32,97,112,112,10,86,101,114,115,105,111,110,58,32,49,10,10,80,97,99,107,97,103,101,58,32,97,112,112,10,86,101,114,115,105,111,110,58,32,50,10,68,101,112,101,110,100,115,58,32,108,105,98,32,40,62,61,32,50,41,10,10,80,97,99,107,97,103,101,58,32,108,105,98,10,86,101,114,115,105,111,110,58,32,49,10]⟩,.int .i64 0])/\Below w.heap.size w w' :=
 (iQ A 3 c r7 w hk rfl hr few7 (fun _=>⟨all7 fun p h hw=>fT h hw,k7m⟩)).mono fun e w' ⟨he,hb⟩=>by
  rw[k7e] at he
  exact⟨he,hb⟩
theorem vk {w:World}(hw:MaxOk w)(A:Option Addr)(c:Nat)(hr:RRow w A r7)(nm v:List UInt8){i:Int}{b:Bool}(h:findR nm v r7=(i,b)):Calls Tryz.prog 10 #[.slice A 3 c,.string ⟨nm.toArray⟩,.string ⟨v.toArray⟩] w fun e w'=>e=.returned (.tuple #[.int .i64 i,.bool b])/\Below w.heap.size w w' :=
 (rK A 3 c r7 nm v w hw rfl hr (by decide) ver7).mono fun e w' ⟨he,hb⟩=>by
  rw[h] at he
  exact⟨he,hb⟩
theorem abb {w:World}(hw:MaxOk w)(A:Option Addr)(c:Nat)(hr:RRow w A [p72,p71]):Calls Tryz.prog 11 #[.slice A 2 c] w fun e w'=>e=.returned (.tuple #[.int .i64 1,.int .i64 7])/\Below w.heap.size w w' :=
 (iP A 2 c [p72,p71] w hw rfl hr (fun p hp=>by
  refine few7 p ?_
  rcases List.mem_cons.1 hp with rfl | hp
  ·exact List.mem_cons_of_mem _ List.mem_cons_self
  ·rw[List.mem_singleton.1 hp];exact List.mem_cons_self)).mono fun e w' ⟨he,hb⟩=>by
  rw[k7g.1] at he
  exact⟨he,hb⟩
theorem abc {w:World}(A:Option Addr)(c:Nat)(hr:RRow w A r7):Calls Tryz.prog 14 #[.slice A 3 c] w fun e w'=>∃ B d,e=.returned (.slice B 2 d)/\Rg.Row encT 1 w' B [[97,112,112],[108,105,98]]/\Below w.heap.size w w' :=
 (iS A 3 c r7 w rfl hr (by decide) name7).mono fun e w' ⟨B,d,he,hn,hb⟩=>by
  rw[k7h] at he hn
  exact⟨B,d,he,hn,hb⟩
theorem nt {w w':World}{X:List Int}{e:Ending}(h:NumRet w X e w'):∃ B d,e=.returned (.slice B X.length d)/\IRow w' B X/\Below w.heap.size w w':=by
 obtain⟨v,he,ho,hb⟩:=h
 obtain⟨B,d,hv,hr,_,_⟩:=Rg.az fitsI ho
 exact⟨B,d,by rw[he,hv],hr,hb⟩
theorem abd {w:World}(A:Option Addr)(c:Nat)(hr:RRow w A r7):Calls Tryz.prog 24 #[.slice A 3 c,.string ⟨[97,112,112].toArray⟩] w fun e w'=>∃ B d,e=.returned (.slice B 2 d)/\IRow w' B [0,1]/\Below w.heap.size w w' :=
 (po A 3 c r7 [97,112,112] w rfl hr (by decide)).mono fun e w' h=>by
  rw[k7i] at h
  exact nt h
theorem wJ {w:World}(hw:MaxOk w)(A:Option Addr)(c:Nat)(hr:RRow w A r7)(B:Option Addr)(d:Nat)(hq:SRow w B sp7):Calls Tryz.prog 15 #[.slice A 3 c,.agg #[.string ⟨[108,105,98].toArray⟩,.slice B 1 d]] w fun e w'=>∃ F f,e=.returned (.slice F 0 f)/\Below w.heap.size w w' :=
 (fW A 3 c r7 [108,105,98] B 1 d sp7 w hw rfl hr (by decide) may7 rfl hq (by decide) k7n).mono fun e w' h=>by
  rw[show numF (fun p=>metP p ⟨[108,105,98],sp7⟩) 0 r7=[] from k7j] at h
  obtain⟨F,f,he,_,hb⟩:=nt h
  exact⟨F,f,he,hb⟩
theorem acG {w:World}(A:Option Addr)(c:Nat)(hr:RRow w A r7):Calls Tryz.prog 13 #[.slice A 3 c,.slice A 3 c] w fun e w'=>e=.returned (.bool true)/\Below w.heap.size w w' :=
 (jC A A 3 3 c c r7 r7 w rfl rfl hr hr (by decide) few7 few7).mono fun e w' ⟨he,hb⟩=>by
  rw[k7k] at he
  exact⟨he,hb⟩
theorem abe {w:World}(A B:Option Addr)(c d:Nat)(hr:Rg.Row encT 1 w A [[97,112,112],[108,105,98]])(hq:Rg.Row encT 1 w B [[97,112,112],[108,105,98]]):Calls Tryz.prog 23 #[.slice A 2 c,.slice B 2 d] w fun e w'=>e=.returned (.bool true)/\Below w.heap.size w w' :=
 (r6 A B 2 2 c d _ _ w rfl rfl hr hq (by decide)).mono fun e w' ⟨he,hb⟩=>⟨by rw[he];simp,hb⟩
theorem acH {w:World}(A B:Option Addr)(c d:Nat)(hr:IRow w A [0,1])(hq:IRow w B [0,1]):Calls Tryz.prog 21 #[.slice A 2 c,.slice B 2 d] w fun e w'=>e=.returned (.bool true)/\Below w.heap.size w w' :=
 (tV A B 2 2 c d _ _ w rfl rfl hr hq (by decide)).mono fun e w' ⟨he,hb⟩=>⟨by rw[he];simp,hb⟩
end Rp
theorem wK (w:World)(hk:KOk w):Calls Tryz.prog 7 #[] w fun e w'=>e=.returned (.bool true)/\Below w.heap.size w w':=by
 have HK:=zh hk
 clear hk
 go_enter Tryz.func7,Tryz.ntmps7
 go_wp2_with fail
 refine (r8 _).mono ?_
 rintro _ z ⟨rfl,rfl⟩
 go_wp2_with fail
 refine (aa9 HK.out).mono ?_
 rintro _ u1 ⟨ad,c,rfl,hr,hb⟩
 have ak:=zh hb
 have am:=zh hr
 clear hb hr
 go_wp2_with fail
 refine (adi (av HK.out ak.out)).mono ?_
 rintro _ u2 ⟨A2,e2,rfl,hb⟩
 have aH:=zh hb
 clear hb
 go_wp2_with fail
 refine (adj (av (av HK.out ak.out) aH.out)).mono ?_
 rintro _ u3 ⟨A3,e3,rfl,hb⟩
 have ag:Hid (Below u1.heap.size u1 u3):=bt aH.out hb
 clear hb
 obtain⟨ay,D0,d0,C0,c0,G0,g0,ea,aP,aQ,aR,az⟩:=bq am.out 0 (by decide)
 obtain rfl:ad=ay:=Option.some.inj ea
 obtain⟨ay,D1,d1,C1,c1,G1,g1,eb,aA,aS,aT,aU⟩:=bq am.out 1 (by decide)
 obtain rfl:ad=ay:=Option.some.inj eb
 obtain⟨af,DA,n1,a1,rfl,bg,aV,aC⟩:=fa aA 0 (by decide)
 obtain rfl:(1:Nat)=n1:=bg
 obtain⟨al,CA,n2,cA,rfl,bh,aW,aD⟩:=dH aV 0 (by decide)
 obtain rfl:(1:Nat)=n2:=bh
 rw[Nat.zero_mul,Rg.add_zero] at az aD
 rw[Rg.add_zero] at aC
 have a2:Hid (∀ u,Below u1.heap.size u1 u->u.cell? ad=some (.string ⟨#[97,112,112]⟩)/\u.cell? ⟨ad.block,ad.off+1,none⟩=some (.string ⟨#[49]⟩)/\u.cell? ⟨ad.block,ad.off+2,none⟩=some (.slice D0 0 d0)/\u.cell? ⟨ad.block,ad.off+3,none⟩=some (.slice C0 0 c0)/\u.cell? ⟨ad.block,ad.off+4,none⟩=some (.slice G0 0 g0)/\u.cell? ⟨ad.block,ad.off+5,none⟩=some (.float .f64 0)):=az
 have an:Hid (∀ u,Below u1.heap.size u1 u->u.cell? ⟨ad.block,ad.off+6,none⟩=some (.string ⟨#[97,112,112]⟩)/\u.cell? ⟨ad.block,ad.off+6+1,none⟩=some (.string ⟨#[50]⟩)/\u.cell? ⟨ad.block,ad.off+6+2,none⟩=some (.slice (some af) 1 d1)/\u.cell? ⟨ad.block,ad.off+6+3,none⟩=some (.slice C1 0 c1)/\u.cell? ⟨ad.block,ad.off+6+4,none⟩=some (.slice G1 0 g1)/\u.cell? ⟨ad.block,ad.off+6+5,none⟩=some (.float .f64 0)):=aU
 have aI:Hid (∀ u,Below u1.heap.size u1 u->u.cell? af=some (.slice (some al) 1 a1)):=aC
 have a3:Hid (∀ u,Below u1.heap.size u1 u->u.cell? al=some (.string ⟨#[108,105,98]⟩)/\u.cell? ⟨al.block,al.off+1,none⟩=some (.slice CA 1 cA)):=aD
 have a4:Hid (SRow u1 CA sp7):=aW
 have ao:Hid (Pg.DRow u1 D0 []/\ARow u1 C0 []/\GRow u1 G0 []):=⟨aP,aQ,aR⟩
 have ap:Hid (Pg.DRow u1 (some af) [[at7]]/\ARow u1 C1 []/\GRow u1 G1 []):=⟨aA,aS,aT⟩
 clear az aU aC aD aW aP aQ aR aA aS aT aV ea eb
 have ai:Hid (∀ u,Below u1.heap.size u1 u->KOk u):=fun u h=>av (av HK.out ak.out) h
 have ac:Hid (∀ u,Below u1.heap.size u1 u->RRow u (some ad) r7):=fun u h=>bc am.out h
 have y1:=(an.out _ ag.out).2.2.1
 have y2:=aI.out _ ag.out
 go_wp2_with fail
 clear y1 y2
 refine (aba (ai.out _ ag.out) (some ad) c (ac.out _ ag.out)).mono ?_
 rintro _ u4 ⟨rfl,hb⟩
 have aq:Hid (Below u1.heap.size u1 u4):=bt ag.out hb
 clear hb
 go_wp2_with fail
 refine (vk (ai.out _ aq.out).1 (some ad) c (ac.out _ aq.out) [97,112,112] [48,50] k7f.1).mono ?_
 rintro _ u5 ⟨rfl,hb⟩
 have ar:Hid (Below u1.heap.size u1 u5):=bt aq.out hb
 clear hb
 go_wp2_with fail
 refine (vk (ai.out _ ar.out).1 (some ad) c (ac.out _ ar.out) [108,105,98] [50] k7f.2).mono ?_
 rintro _ u6 ⟨rfl,hb⟩
 have a5:Hid (Below u1.heap.size u1 u6):=bt ar.out hb
 clear hb
 go_wp2_with fail
 have au:Hid (Below u1.heap.size u1 u6.drew):=a5.out.drew
 obtain⟨b7,aY⟩:=ex u6.heap.size
 obtain⟨W7,aE⟩:=ex (u6.drew.alloc (.cells #[.string ⟨#[97,112,112]⟩,.string ⟨#[50]⟩,.slice (some af) 1 d1,.slice C1 0 c1,.slice G1 0 g1,.float .f64 0,.string ⟨#[97,112,112]⟩,.string ⟨#[49]⟩,.slice D0 0 d0,.slice C0 0 c0,.slice G0 0 g0,.float .f64 0] 39))
 have aa:Hid (Below u1.heap.size u1 W7):=by
  show Below _ _ _
  rw[<-aE]
  exact au.out.alloc au.out.size _
 have a6:Hid (RRow W7 (some ⟨b7,0,none⟩) [p72,p71]):=by
  refine⟨[⟨[97,112,112],[50],(some af,1,d1),(C1,0,c1),(G1,0,g1),0⟩,⟨[97,112,112],[49],(D0,0,d0),(C0,0,c0),(G0,0,g0),0⟩],?_,rfl,fun i d p e1 e2=>?_⟩
  ·rw[<-aE]
   exact Rg.jW fitsP u6.drew 39 _ _ rfl aY
  ·match i with
   | 0=>cases e1;cases e2;exact⟨rfl,rfl,rfl,rfl,rfl,rfl,aX ap.out.1 aa.out,aB ap.out.2.1 aa.out,Rg.ah ap.out.2.2 aa.out⟩
   | 1=>cases e1;cases e2;exact⟨rfl,rfl,rfl,rfl,rfl,rfl,aX ao.out.1 aa.out,aB ao.out.2.1 aa.out,Rg.ah ao.out.2.2 aa.out⟩
   | i+2=>simp at e1
 have a7:=zh (abb (ai.out _ aa.out).1 (some ⟨b7,0,none⟩) 2 a6.out)
 have aw:Hid (∀ u,Below u1.heap.size u1 u->(u.cell? ad=some (.string ⟨#[97,112,112]⟩)/\u.cell? ⟨ad.block,ad.off+1,none⟩=some (.string ⟨#[49]⟩)/\u.cell? ⟨ad.block,ad.off+2,none⟩=some (.slice D0 0 d0)/\u.cell? ⟨ad.block,ad.off+3,none⟩=some (.slice C0 0 c0)/\u.cell? ⟨ad.block,ad.off+4,none⟩=some (.slice G0 0 g0)/\u.cell? ⟨ad.block,ad.off+5,none⟩=some (.float .f64 0))/\(u.cell? ⟨ad.block,ad.off+6,none⟩=some (.string ⟨#[97,112,112]⟩)/\u.cell? ⟨ad.block,ad.off+6+1,none⟩=some (.string ⟨#[50]⟩)/\u.cell? ⟨ad.block,ad.off+6+2,none⟩=some (.slice (some af) 1 d1)/\u.cell? ⟨ad.block,ad.off+6+3,none⟩=some (.slice C1 0 c1)/\u.cell? ⟨ad.block,ad.off+6+4,none⟩=some (.slice G1 0 g1)/\u.cell? ⟨ad.block,ad.off+6+5,none⟩=some (.float .f64 0))):=fun u h=>⟨a2.out u h,an.out u h⟩
 go_region_held3 (fun u=>(u.cell? ad=some (.string ⟨#[97,112,112]⟩)/\u.cell? ⟨ad.block,ad.off+1,none⟩=some (.string ⟨#[49]⟩)/\u.cell? ⟨ad.block,ad.off+2,none⟩=some (.slice D0 0 d0)/\u.cell? ⟨ad.block,ad.off+3,none⟩=some (.slice C0 0 c0)/\u.cell? ⟨ad.block,ad.off+4,none⟩=some (.slice G0 0 g0)/\u.cell? ⟨ad.block,ad.off+5,none⟩=some (.float .f64 0))/\(u.cell? ⟨ad.block,ad.off+6,none⟩=some (.string ⟨#[97,112,112]⟩)/\u.cell? ⟨ad.block,ad.off+6+1,none⟩=some (.string ⟨#[50]⟩)/\u.cell? ⟨ad.block,ad.off+6+2,none⟩=some (.slice (some af) 1 d1)/\u.cell? ⟨ad.block,ad.off+6+3,none⟩=some (.slice C1 0 c1)/\u.cell? ⟨ad.block,ad.off+6+4,none⟩=some (.slice G1 0 g1)/\u.cell? ⟨ad.block,ad.off+6+5,none⟩=some (.float .f64 0)))
  (first
   | with_reducible exact aw.out _ au.out
   | with_reducible exact aw.out _ aa.out
   | with_reducible exact aw.out _ ax.out)
  ((go_at_call 11;refine a7.out.mono ?_;rintro _ u8 ⟨rfl,hb⟩;have ax:=zh (bt aa.out hb);clear hb))
 go_wp2_with fail
 clear aE aY
 refine (abc (some ad) c (ac.out _ ax.out)).mono ?_
 rintro _ u9 ⟨N9,n9,rfl,hn,hb⟩
 have a8:Hid (Below u1.heap.size u1 u9):=bt ax.out hb
 obtain⟨Wa,aF⟩:=ex (u9.alloc (.cells #[.string ⟨#[97,112,112]⟩,.string ⟨#[108,105,98]⟩] 9))
 obtain⟨ba,aZ⟩:=ex u9.heap.size
 have aJ:Hid (Below u9.heap.size u9 Wa):=ab aF
 have a9:Hid (Below u1.heap.size u1 Wa):=bt a8.out aJ.out
 have aK:=zh (abe N9 (some ⟨ba,0,none⟩) n9 2 (Rg.ah hn aJ.out) (by rw[<-aF];exact Rg.jW fitsT u9 _ _ _ rfl aZ))
 clear hn hb
 go_wp2_with fail
 clear aF aZ
 refine aK.out.mono ?_
 rintro _ ub ⟨rfl,hb⟩
 have aL:Hid (Below u1.heap.size u1 ub):=bt a9.out hb
 clear hb aK
 go_wp2_with fail
 refine (abd (some ad) c (ac.out _ aL.out)).mono ?_
 rintro _ uc ⟨Nc,nc,rfl,hn,hb⟩
 have bb:Hid (Below u1.heap.size u1 uc):=bt aL.out hb
 obtain⟨Wd,aG⟩:=ex (uc.alloc (.cells #[.int .i64 0,.int .i64 1] 3))
 obtain⟨bd,a0⟩:=ex uc.heap.size
 have aM:Hid (Below uc.heap.size uc Wd):=ab aG
 have be:Hid (Below u1.heap.size u1 Wd):=bt bb.out aM.out
 have aN:=zh (acH Nc (some ⟨bd,0,none⟩) nc 2 (iE hn aM.out) (by rw[<-aG];exact Rg.jW fitsI uc _ _ _ rfl a0))
 clear hn hb
 go_wp2_with fail
 clear aG a0
 refine aN.out.mono ?_
 rintro _ ue ⟨rfl,hb⟩
 have ae:Hid (Below u1.heap.size u1 ue):=bt be.out hb
 clear hb aN
 have y1:=(an.out _ ae.out).2.2.1
 have y2:=aI.out _ ae.out
 obtain⟨y3,y4⟩:=a3.out _ ae.out
 go_wp2_with fail
 refine (wJ (ai.out _ ae.out).1 (some ad) c (ac.out _ ae.out) CA cA (aj a4.out ae.out)).mono ?_
 rintro _ uf ⟨F,ff,rfl,hb⟩
 have aO:Hid (Below u1.heap.size u1 uf):=bt ae.out hb
 clear hb y1 y2 y3 y4
 go_wp2_with fail
 refine (acG (some ad) c (ac.out _ aO.out)).mono ?_
 rintro _ ug ⟨rfl,hb⟩
 have bf:Hid (Below u1.heap.size u1 ug):=bt aO.out hb
 clear hb
 go_wp2_with fail
 go_ret
 exact⟨rfl,bt ak.out bf.out⟩
end
namespace Sz
def lineF (f:Fld):List UInt8:=f.key++mark++f.val
theorem r9 {k:List UInt8}(h:keyB k=true):k.all Vm.ltr=true:=by
 unfold keyB at h;rw[Bool.and_eq_true] at h;exact h.1
theorem abf {k:List UInt8}(h:keyB k=true):1<=k.length/\k.length<=16:=by
 unfold keyB at h
 rw[Bool.and_eq_true,Bool.and_eq_true,decide_eq_true_eq] at h
 refine⟨?_,h.2.2⟩
 cases k with
 | nil=>simp at h
 | cons a l=>simp
theorem tW (f:Fld)(n:Int)(hk:keyB f.key=true)(hv:valB f.val=true):fieldP (lineF f) n=some ⟨f.key,f.val,n⟩:=by
 have e:lineF f=f.key++(58 :: 32 :: f.val):=by unfold lineF mark;rw[List.append_assoc];rfl
 obtain⟨h1,h2⟩:=abf hk
 have aa:(lineF f)[f.key.length]?=some 58:=by rw[e,List.getElem?_append_right (Nat.le_refl _),Nat.sub_self];rfl
 have ab:(lineF f)[f.key.length+1]?=some 32:=by rw[e,List.getElem?_append_right (by omega),Nat.add_sub_cancel_left];rfl
 have ac:kLen (lineF f)=f.key.length:=rm _ _ 58 (by rw[e,List.take_left];exact r9 hk) aa (by decide)
 have hd:(lineF f).drop (f.key.length+2)=f.val:=by rw[e,<-List.drop_drop,List.drop_left];rfl
 rw[wi,ac,hd,if_pos ⟨h1,h2,aa,ab,hv⟩,e,List.take_left]
theorem wL (f:Fld):lineF f≠[]:=by unfold lineF mark;simp
theorem yW (f:Fld)(hk:keyB f.key=true)(hv:valB f.val=true):(10:UInt8) ∉ lineF f:=by
 unfold lineF mark
 intro h
 rcases List.mem_append.1 h with h | h
 ·rcases List.mem_append.1 h with h | h
  ·have:=List.all_eq_true.1 (r9 hk) 10 h
   exact absurd this (by decide)
  ·exact absurd h (by decide)
 ·unfold valB at hv
  have:=List.all_eq_true.1 hv 10 h
  exact absurd this (by decide)
def GoodL:Nat->List Fld->List Fld->Prop
 | _,_,[]=>True
 | n,last,f :: l=>keyB f.key=true/\valB f.val=true/\f.line=n/\hasK last f.key=false/\GoodL (n+1) (last++[f]) l
theorem gl:∀ (l:List Fld) (n:Nat) (rest:List (List UInt8)) (acc:List (List Fld)) (last:List Fld),GoodL n last l->readL n (l.map lineF++rest) acc last=readL (n+l.length) rest acc (last++l)
 | [],n,rest,acc,last,_=>by rw[List.append_nil];rfl
 | f :: l,n,rest,acc,last,h=>by
  obtain⟨h1,h2,h3,h4,h5⟩:=h
  rw[List.map_cons,List.cons_append,eB,if_neg (by simpa using wL f),tW f n h1 h2]
  have hf:(⟨f.key,f.val,(n:Int)⟩:Fld)=f:=by rw[<-h3]
  rw[hf]
  dsimp only
  rw[h4,if_neg (by decide),gl l (n+1) rest acc (last++[f]) h5,List.append_assoc]
  congr 1
  rw[List.length_cons];omega
def linesG:List (List Fld)->List (List UInt8)
 | []=>[]
 | l :: r=>l.map lineF++(if r.isEmpty then [] else [] :: linesG r)
def GoodG:Nat->List (List Fld)->Prop
 | _,[]=>True
 | n,l :: r=>l≠[]/\GoodL n [] l/\GoodG (n+l.length+1) r
theorem kt {l:List Fld}{r:List (List Fld)}(h:l≠[]):linesG (l :: r)≠[]:=by
 cases l with
 | nil=>exact absurd rfl h
 | cons f l=>unfold linesG;simp
theorem oH:∀ (G:List (List Fld)) (z:List Fld) (n:Nat) (rest:List (List UInt8)) (acc:List (List Fld)),GoodG n (G++[z])->readL n (linesG (G++[z])++rest) acc []=readL (n+(linesG (G++[z])).length) rest (acc++G) z
 | [],z,n,rest,acc,h=>by
  obtain⟨_,h2,_⟩:=h
  have e:linesG ([]++[z])=z.map lineF:=by show z.map lineF++[]=_;rw[List.append_nil]
  rw[e,gl z n rest acc [] h2,List.length_map,List.append_nil];rfl
 | l :: G,z,n,rest,acc,h=>by
  obtain⟨h1,h2,h3⟩:=h
  have e:linesG (l :: (G++[z]))=l.map lineF++([] :: linesG (G++[z])):=by
   show l.map lineF++(if (G++[z]).isEmpty then [] else [] :: linesG (G++[z]))=_
   rw[if_neg (by simp)]
  have hs:linesG (G++[z])≠[]:=by
   cases G with
   | nil=>exact kt (by obtain⟨hz,_⟩:=h3;exact hz)
   | cons m G=>exact kt (by obtain⟨hz,_⟩:=h3;exact hz)
  rw[List.cons_append,e,List.append_assoc,gl l n _ acc [] h2,List.nil_append,List.cons_append,eB,if_pos (show ([]:List UInt8).isEmpty=true from rfl),if_neg]
  ·rw[oH G z (n+l.length+1) rest (acc++[l]) h3,List.append_assoc]
   congr 1
   simp only[List.length_append,List.length_map,List.length_cons];omega
  ·cases l with
   | nil=>exact absurd rfl h1
   | cons f l =>
    cases hx:linesG (G++[z]) with
    | nil=>exact absurd hx hs
    | cons a b=>simp
theorem jH (l:List Fld):stanzaT l=joinL (l.map lineF):=by
 induction l with
 | nil=>rfl
 | cons f l ih =>
  show fieldT f++stanzaT l=_
  rw[List.map_cons,cm,ih];rfl
theorem yX (a b:List (List UInt8)):joinL (a++b)=joinL a++joinL b:=by unfold joinL;rw[List.flatMap_append]
theorem iF:∀ G:List (List Fld),textS G=joinL (linesG G)
 | []=>rfl
 | [l]=>by show stanzaT l=joinL (l.map lineF++[]);rw[List.append_nil,jH]
 | l :: m :: r=>by
  show stanzaT l++[10]++textS (m :: r)=joinL (l.map lineF++([] :: linesG (m :: r)))
  rw[iF (m :: r),yX,cm,jH]
  simp
theorem oI:∀ (l:List Fld) (n:Nat) (last:List Fld),GoodL n last l->∀ s∈l.map lineF,(10:UInt8) ∉ s
 | [],_,_,_,s,hs=>by cases hs
 | f :: l,n,last,h,s,hs=>by
  obtain⟨h1,h2,_,_,h5⟩:=h
  rw[List.map_cons] at hs
  rcases List.mem_cons.1 hs with rfl | hs
  ·exact yW f h1 h2
  ·exact oI l _ _ h5 s hs
theorem oJ:∀ (G:List (List Fld)) (n:Nat),GoodG n G->∀ s∈linesG G,(10:UInt8) ∉ s
 | [],_,_,s,hs=>by cases hs
 | l :: r,n,h,s,hs=>by
  obtain⟨_,h2,h3⟩:=h
  unfold linesG at hs
  rcases List.mem_append.1 hs with hs | hs
  ·exact oI l _ _ h2 s hs
  ·split at hs
   ·cases hs
   ·rcases List.mem_cons.1 hs with rfl | hs
    ·simp
    ·exact oJ r _ h3 s hs
theorem mA {G:List (List Fld)}(h:GoodG 0 G)(hl:(textS G).length<=65536):parseS (textS G)=(0,0,G):=by
 unfold parseS
 have he:endB (textS G)=true:=by rw[iF];exact qY _
 rw[if_neg (by omega),if_pos he,iF,lV _ (oJ G 0 h)]
 rcases List.eq_nil_or_concat G with rfl | ⟨g,z,rfl⟩
 ·rfl
 ·rw[List.concat_eq_append] at h ⊢
  have:=oH g z 0 [] [] h
  rw[List.append_nil] at this
  rw[this,jw]
  have hz:z≠[]:=by
   clear this hl he
   have:∀ (g:List (List Fld)) (n:Nat),GoodG n (g++[z])->z≠[]:=by
    intro g
    induction g with
    | nil=>exact fun n h=>h.1
    | cons a g ih=>exact fun n h=>ih _ h.2.2
   exact this g 0 h
  cases z with
  | nil=>exact absurd rfl hz
  | cons f z=>rfl
end Sz
section
open Go.RowKit Rs At Pg
namespace Pg
theorem abg (p:Pk):samP p p=true:=by
 unfold samP
 simp only[decide_true,Bool.true_and]
 have:Vm.sgn (Wm.placeN p.wt) (Wm.placeN p.wt)=0:=by unfold Vm.sgn;simp
 rw[this];rfl
end Pg
end
namespace Rp
open Go.RowKit Rs At Pg
theorem sa {p:Pk}:∀ {l:List Pk},(∀ q∈l,cmpP q p<0)->ins p l=some (l++[p])
 | [],_=>rfl
 | q :: l,h=>by
  unfold ins
  rw[if_pos (h q List.mem_cons_self),sa fun x hx=>h x (List.mem_cons_of_mem _ hx)]
  rfl
def insAll:List Pk->List Pk->Option (List Pk)
 | acc,[]=>some acc
 | acc,p :: l=>match ins p acc with
  | none=>none
  | some r=>insAll r l
abbrev NV:=List UInt8 × List UInt8
def plainP (p:NV):Pk:=⟨p.1,p.2,[],[],[],0⟩
def stz (n:Nat) (p:NV):List Sz.Fld:=[⟨kPkg,p.1,(n:Int)⟩,⟨kVer,p.2,((n+1:Nat):Int)⟩]
def grid:Nat->List NV->List (List Sz.Fld)
 | _,[]=>[]
 | n,p :: l=>stz n p :: grid (n+3) l
def Okk (p:NV):Prop:=Sz.valB p.1=true/\Sz.valB p.2=true/\nameB p.1=true/\Vm.check p.2=0/\canonOf p.2=p.2
theorem abh (n:Nat)(p:NV)(h:Okk p):fromP (stz n p)=(0,0,plainP p):=by
 obtain⟨_,_,h3,h4,h5⟩:=h
 have e1:Sz.ordP keys6 0 (-1) (stz n p)=(0,0):=by
  unfold stz Sz.ordP
  rw[show Sz.placeOf keys6 kPkg=some 0 by decide]
  dsimp only
  rw[if_pos (by decide)]
  unfold Sz.ordP
  rw[show Sz.placeOf keys6 kVer=some 1 by decide]
  dsimp only
  rw[if_pos (by decide)]
  rfl
 have e2:((Sz.getF (stz n p) kPkg).isSome&&(Sz.getF (stz n p) kVer).isSome)=true:=by
  unfold stz Sz.getF
  simp[kPkg,kVer]
 have t1:takeR zeroP kPkg p.1=.ok { zeroP with name:=p.1 }:=by
  unfold takeR;rw[if_pos rfl,if_pos h3]
 have t2:takeR { zeroP with name:=p.1 } kVer p.2=.ok (plainP p):=by
  unfold takeR
  rw[if_neg (by decide),if_pos rfl,if_pos h4,h5]
  rfl
 unfold fromP readP
 rw[e1]
 dsimp only
 rw[if_pos rfl,e2,if_pos rfl]
 unfold stz
 rw[dK t1,dK t2]
 rfl
theorem sb:∀ (l:List NV) (n:Nat),(grid n l).length=l.length
 | [],_=>rfl
 | _ :: l,n=>by unfold grid;rw[List.length_cons,List.length_cons,sb l]
theorem jI:∀ (l:List NV) (n:Nat),(∀ p∈l,Okk p)->Sz.GoodG n (grid n l)
 | [],_,_=>trivial
 | p :: l,n,h=>by
  obtain⟨h1,h2,_⟩:=h p List.mem_cons_self
  refine⟨by unfold stz;simp,⟨by show Sz.keyB kPkg=true;decide,h1,rfl,rfl,by show Sz.keyB kVer=true;decide,h2,rfl,by simp[Sz.hasK,kPkg,kVer],trivial⟩,?_⟩
  exact jI l (n+3) fun q hq=>h q (List.mem_cons_of_mem _ hq)
theorem oK:∀ (l:List NV) (n:Nat) (acc r:List Pk),(∀ p∈l,Okk p)->insAll acc (l.map plainP)=some r->takeL (grid n l) acc=(0,0,r)
 | [],_,acc,r,_,h=>by cases h;rfl
 | p :: l,n,acc,r,ho,h=>by
  unfold grid takeL
  rw[abh n p (ho p List.mem_cons_self)]
  dsimp only
  rw[if_neg (by decide)]
  rw[List.map_cons,insAll] at h
  cases hi:ins (plainP p) acc with
  | none=>rw[hi] at h;cases h
  | some s =>
   rw[hi] at h
   exact oK l (n+3) s r (fun q hq=>ho q (List.mem_cons_of_mem _ hq)) h
theorem sc {l:List NV}{r:List Pk}(ho:∀ p∈l,Okk p)(hl:l.length<=64)(ht:(Sz.textS (grid 0 l)).length<=65536)(h:insAll [] (l.map plainP)=some r):parseR (Sz.textS (grid 0 l))=(0,0,r):=by
 unfold parseR
 rw[Sz.mA (jI l 0 ho) ht]
 dsimp only
 rw[if_neg (by decide),if_neg (by rw[sb];omega)]
 exact oK l 0 [] r ho h
def oneT (p:NV):List UInt8:=kPkg++[58,32]++p.1++[10]++(kVer++[58,32]++p.2++[10])
theorem iG (n:Nat)(p:NV):Sz.stanzaT (stz n p)=oneT p:=by
 unfold Sz.stanzaT stz oneT Sz.fieldT Sz.mark
 simp
theorem abi (p:NV):toPk (plainP p)=[⟨kPkg,p.1,0⟩,⟨kVer,p.2,0⟩]:=by
 have h0:Wm.textW 0=[48]:=by decide +kernel
 unfold toPk to3 to2 to1 to0 plainP
 simp[h0]
theorem vl (p:NV):Sz.stanzaT (toPk (plainP p))=oneT p:=by
 rw[abi]
 unfold Sz.stanzaT oneT Sz.fieldT Sz.mark
 simp
theorem oL:∀ (l:List NV) (n:Nat),Sz.textS (grid n l)=Sz.textS ((l.map plainP).map toPk)
 | [],_=>rfl
 | [p],n=>by
  show Sz.stanzaT (stz n p)=Sz.stanzaT (toPk (plainP p))
  rw[iG,vl]
 | p :: q :: l,n=>by
  show Sz.stanzaT (stz n p)++[10]++Sz.textS (grid (n+3) (q :: l))=Sz.stanzaT (toPk (plainP p))++[10]++Sz.textS (((q :: l).map plainP).map toPk)
  rw[iG,vl,oL (q :: l) (n+3)]
theorem jQ:∀ (l:List NV) (n k:Nat),(∀ p∈l,p.1.length+p.2.length<=k)->(Sz.textS (grid n l)).length<=l.length*(k+21)
 | [],_,_,_=>by simp[grid,Sz.textS]
 | [p],n,k,h=>by
  show (Sz.stanzaT (stz n p)).length<=_
  rw[iG]
  have:=h p List.mem_cons_self
  simp[oneT,kPkg,kVer]
  omega
 | p :: q :: l,n,k,h=>by
  show (Sz.stanzaT (stz n p)++[10]++Sz.textS (grid (n+3) (q :: l))).length<=_
  have h1:=jQ (q :: l) (n+3) k fun x hx=>h x (List.mem_cons_of_mem _ hx)
  have h2:=h p List.mem_cons_self
  rw[iG]
  simp only[List.length_append,List.length_cons,List.length_nil] at h1 ⊢
  have h3:(oneT p).length=p.1.length+p.2.length+20:=by simp[oneT,kPkg,kVer];omega
  rw[h3]
  have h4:(l.length+1+1)*(k+21)=(l.length+1)*(k+21)+(k+21):=by rw[Nat.add_mul];omega
  omega
theorem jJ:∀ (l:List Pk) (i:Nat) (o:Option Pk),(∀ p∈l,checkP p=0)->(∀ q,o=some q->Ord (q :: l))->Ord l->chkF i o l=(0,0)
 | [],_,_,_,_,_=>rfl
 | p :: l,i,none,h,_,ho=>by
  unfold chkF
  rw[if_neg (fun e=>e (h p List.mem_cons_self))]
  exact jJ l (i+1) (some p) (fun q hq=>h q (List.mem_cons_of_mem _ hq)) (fun q hq=>by cases hq;exact ho) (iB ho)
 | p :: l,i,some q,h,hq,ho=>by
  have h1:=kU (hq q rfl) p List.mem_cons_self
  unfold chkF
  rw[if_neg (fun e=>e (h p List.mem_cons_self))]
  dsimp only
  rw[if_neg (by omega),if_neg (by omega)]
  exact jJ l (i+1) (some p) (fun q hq=>h q (List.mem_cons_of_mem _ hq)) (fun q hq=>by cases hq;exact ho) (iB ho)
theorem se {l:List Pk}(h:∀ p∈l,checkP p=0)(ho:Ord l)(hl:l.length<=64):chkR l=(0,0):=by
 unfold chkR
 rw[if_neg (by omega)]
 exact jJ l 0 none h (fun q e=>by cases e) ho
theorem oM:∀ l:List Pk,samL l l=true
 | []=>rfl
 | p :: l=>by rw[samL,abg,oM l];rfl
theorem iT:∀ (l acc:List Pk),Ord (acc++l)->insAll acc l=some (acc++l)
 | [],acc,_=>by rw[List.append_nil];rfl
 | p :: l,acc,h=>by
  have h1:ins p acc=some (acc++[p]):=sa fun q hq=>by
   obtain⟨i,hi,rfl⟩:=List.mem_iff_getElem.1 hq
   have h2:=h i acc.length (by rw[List.length_append];omega) (by rw[List.length_append,List.length_cons];omega) hi
   have e:(acc++p :: l)[acc.length]'(by rw[List.length_append,List.length_cons];omega)=p:=by
    rw[List.getElem_append_right (Nat.le_refl _)]
    simp
   rw[e,List.getElem_append_left hi] at h2
   exact h2
  rw[insAll,h1]
  dsimp only
  rw[iT l (acc++[p]) (by rw[List.append_assoc];exact h),List.append_assoc]
  rfl
def mN (i:Nat):NV:=([112,UInt8.ofNat (97+i / 26),UInt8.ofNat (97+i % 26)],[49])
def many (k:Nat):List NV:=(List.range k).map mN
def pks (k:Nat):List Pk:=(many k).map plainP
theorem cQ (k:Nat):(pks k).length=k:=by unfold pks many;simp
theorem sf (k i:Nat)(h:i<(pks k).length):(pks k)[i]=plainP (mN i):=by unfold pks many;simp
theorem adv:∀ i,i<70->∀ j,j<70->i<j->cmpP (plainP (mN i)) (plainP (mN j))<0:=by decide +kernel
theorem adw:∀ i,i<70->Sz.valB (mN i).1=true/\Sz.valB (mN i).2=true/\nameB (mN i).1=true/\Vm.check (mN i).2=0/\canonOf (mN i).2=(mN i).2:=by decide +kernel
theorem si:∀ i,i<70->checkP (plainP (mN i))=0:=by decide +kernel
theorem nu {k:Nat}(hk:k<=70):Ord (pks k):=fun i j hi hj hij=>by
 rw[sf,sf]
 rw[cQ] at hi hj
 exact adv i (by omega) j (by omega) hij
theorem nv {k:Nat}(hk:k<=70){p:Pk}(h:p∈pks k):∃ i,i<70/\p=plainP (mN i):=by
 obtain⟨i,hi,rfl⟩:=List.mem_iff_getElem.1 h
 rw[cQ] at hi
 exact⟨i,by omega,sf k i _⟩
theorem jZ {k:Nat}(hk:k<=70):∀ p∈pks k,checkP p=0:=fun p hp=>by
 obtain⟨i,hi,rfl⟩:=nv hk hp
 exact si i hi
theorem sj:(0:Nat)<Wm.W:=by decide +kernel
theorem j3 {k:Nat}(hk:k<=70):RFew (pks k):=fun p hp=>by
 obtain⟨i,hi,rfl⟩:=nv hk hp
 exact oo (si i hi) sj
theorem nw {k:Nat}(hk:k<=70):∀ p∈pks k,PTxt p:=fun p hp=>by
 obtain⟨i,hi,rfl⟩:=nv hk hp
 exact fT (si i hi) sj
theorem so {k:Nat}(hk:k<=70):∀ p∈many k,Okk p:=fun p hp=>by
 unfold many at hp
 obtain⟨i,hi,rfl⟩:=List.mem_map.1 hp
 exact adw i (by have:=List.mem_range.1 hi;omega)
theorem iH (k:Nat):(many k).length=k:=by unfold many;simp
theorem sq (k:Nat):textR (pks k)=Sz.textS (grid 0 (many k)):=(oL (many k) 0).symm
theorem iI {k:Nat}(hk:k<=70):(Sz.textS (grid 0 (many k))).length<=65536:=by
 have:=jQ (many k) 0 10 (fun p hp=>by
  unfold many at hp
  obtain⟨i,hi,rfl⟩:=List.mem_map.1 hp
  simp[mN])
 rw[iH] at this
 omega
theorem yY {k:Nat}(hk:k<=70):printR (pks k)=if 64<k then ([],4) else (Sz.textS (grid 0 (many k)),0):=by
 unfold printR
 by_cases h:64<k
 ·have:chkR (pks k)=(0,4):=by unfold chkR;rw[cQ,if_pos h]
  rw[this,if_pos h]
  rfl
 ·rw[se (jZ hk) (nu hk) (by rw[cQ];omega),if_neg h,sq]
  dsimp only
  rw[if_neg (by decide),if_neg (by have:=iI hk;omega)]
theorem yZ {k:Nat}(hk:k<=70):chkR (pks k)=if 64<k then (0,4) else (0,0):=by
 by_cases h:64<k
 ·rw[if_pos h];unfold chkR;rw[cQ,if_pos h]
 ·rw[if_neg h];exact se (jZ hk) (nu hk) (by rw[cQ];omega)
theorem y6 {k:Nat}(hk:k<=64):parseR (Sz.textS (grid 0 (many k)))=(0,0,pks k) :=
 sc (so (by omega)) (by rw[iH];exact hk) (iI (by omega)) (iT (pks k) [] (nu (by omega)))
theorem sr:∀ (l:List NV) (n:Nat) (s:List Sz.Fld),s∈grid n l->∃ m,∃ p∈l,s=stz m p
 | [],_,s,h=>by cases h
 | p :: l,n,s,h=>by
  rcases List.mem_cons.1 h with rfl | h
  ·exact⟨n,p,List.mem_cons_self,rfl⟩
  ·obtain⟨m,q,hq,e⟩:=sr l (n+3) s h
   exact⟨m,q,List.mem_cons_of_mem _ hq,e⟩
theorem y7 {l:List NV}(h:∀ p∈l,Okk p)(hs:∀ p∈l,p.1.length<=1000/\p.2.length<=1000)(ht:(Sz.textS (grid 0 l)).length<=65536):Fits1 (Sz.parseS (Sz.textS (grid 0 l))).2.2:=by
 rw[Sz.mA (jI l 0 h) ht]
 intro s aa
 obtain⟨m,p,hp,rfl⟩:=sr l 0 s aa
 obtain⟨a,b⟩:=hs p hp
 refine⟨by simp[stz],fun f hf=>?_,fun f hf=>?_⟩
 ·simp only[stz,List.mem_cons,List.not_mem_nil,or_false] at hf
  rcases hf with rfl | rfl
  ·exact⟨by show kPkg.length<=_;decide,by show p.1.length<=_;omega⟩
  ·exact⟨by show kVer.length<=_;decide,by show p.2.length<=_;omega⟩
 ·simp only[stz,List.mem_cons,List.not_mem_nil,or_false] at hf
  rcases hf with rfl | rfl
  ·exact fj a
  ·exact fj b
theorem y8 {k:Nat}(hk:k<=64):Fits1 (Sz.parseS (Sz.textS (grid 0 (many k)))).2.2:=y7 (so (by omega)) (fun p hp=>by
 unfold many at hp
 obtain⟨i,hi,rfl⟩:=List.mem_map.1 hp
 simp[mN]) (iI (by omega))
theorem y9:∀ k,k<70->(namesR (pks k)).length=k:=by decide +kernel
theorem abj:∀ k,k<70->(numF (fun p=>metP p ⟨[112,97,97],allS⟩) 0 (pks k)).length=min k 1:=by decide +kernel
theorem acI:checkR allS=0:=by decide +kernel
end Rp
section
open Go.RowKit Rs At Pg Rp
attribute [local go_sem ↓] Go.wp_at_zero Go.wp_at_succ
attribute [local go_sem] Pg.aA
namespace Rp
theorem acJ {a b c:List UInt8}(h:a++b=c)(hl:c.length<=100000):∀ W:World,(Op.stringOp .add ⟨a.toArray⟩ ⟨b.toArray⟩).run Tryz.prog W=.ok (.string ⟨c.toArray⟩) W:=fun W=>by
 subst h
 rw[List.length_append] at hl
 rw[run_string_add_sum W ⟨a.toArray⟩ ⟨b.toArray⟩ (by show a.toArray.size+b.toArray.size<=_;rw[List.size_toArray,List.size_toArray];omega),ByteArray.mk_append_mk]
theorem abk {x y:Nat}(hx:x<256)(hy:y<256){u U:World}(hU:u.alloc (.cells #[.int .u8 x,.int .u8 y] 5)=U) :
  (convert 22 9 (.slice (some ⟨u.heap.size,0,none⟩) 2 2)).run Tryz.prog U=.ok (.string ⟨[UInt8.ofNat x,UInt8.ofNat y].toArray⟩) U:=by
 refine run_convert_bytes_back (P:=Tryz.prog) _ _ _ _ _ 2 [UInt8.ofNat x,UInt8.ofNat y] Tryz.underlying22 Tryz.underlying5 Tryz.underlying9 fun j hj=>?_
 have e1:((UInt8.ofNat x).toNat:Int)=(x:Int):=by rw[UInt8.toNat_ofNat'];omega
 have e2:((UInt8.ofNat y).toNat:Int)=(y:Int):=by rw[UInt8.toNat_ofNat'];omega
 have h:U.heap[u.heap.size]?=some (.cells #[.int .u8 x,.int .u8 y] 5 (0,0)):=by rw[<-hU];exact heap_alloc_new u _
 match j,hj with
 | 0,_ =>
  show U.cell? ⟨u.heap.size,0,none⟩=some (.int .u8 ((UInt8.ofNat x).toNat:Int))
  rw[e1,cell_of_row U u.heap.size 0 _ _ (0,0) h];rfl
 | 1,_ =>
  show U.cell? ⟨u.heap.size,1,none⟩=some (.int .u8 ((UInt8.ofNat y).toNat:Int))
  rw[e2,cell_of_row U u.heap.size 1 _ _ (0,0) h];rfl
def nvD (p:NV):PD:=⟨p.1,p.2,(none,0,0),(none,0,0),(none,0,0),0⟩
theorem adk {w:World}{B:Nat}{T:TypeId}{v:Value}{l:List NV}(h:Rg.Own encP 6 w B T v (l.map nvD)):∃ A c,v=.slice A l.length c/\RRow w A (l.map plainP):=by
 obtain⟨A,c,hv,hr,_,_⟩:=Rg.az fitsP h
 rw[List.length_map] at hv
 refine⟨A,c,hv,l.map nvD,hr,by simp,fun i d p e1 e2=>?_⟩
 rw[List.getElem?_map] at e1 e2
 cases hq:l[i]? with
 | none=>rw[hq] at e1;cases e1
 | some q =>
  rw[hq] at e1 e2
  cases e1;cases e2
  exact⟨rfl,rfl,rfl,rfl,rfl,rfl,⟨[],fun h=>absurd h (by decide),rfl,fun i d l e=>by simp at e⟩,⟨[],fun h=>absurd h (by decide),rfl,fun i d l e=>by simp at e⟩,fun h=>absurd (show 0<0 from h) (Nat.lt_irrefl 0)⟩
end Rp
theorem mB (p:Nat)(w:World)(hk:KOk w)(_hp:p<256) :
  Calls Tryz.prog 4 #[.int .u8 p] w fun e w'=>e=.returned (.bool true)/\Below w.heap.size w w':=by
 have aB:=zh (wK w hk)
 have HK:=zh hk
 obtain⟨n,hn⟩:=ex (p % 70)
 have n70:n<70:=by omega
 have r1:(p:Int) % 70=(n:Int):=by omega
 have r2:(p:Int).tmod 70=(n:Int):=by rw[Int.tmod_eq_emod_of_nonneg (Int.natCast_nonneg _)];exact r1
 have w8:IntKind.u8.wrap (n:Int)=(n:Int):=by rw[IntKind.wrap_u8];omega
 have aM:IntKind.i64.wrap (n:Int)=(n:Int):=IntWalk.i64_in _ (by omega)
 clear hk hn
 go_enter Tryz.func4,Tryz.ntmps4
 go_wp2_with fail
 refine aB.out.mono ?_
 rintro _ z ⟨rfl,hb⟩
 have HB:=zh hb
 clear hb aB
 go_wp2_with fail
 clear r1 r2 w8 aM
 go_loopw [4,5] (fun v i wr=>∃ k:Nat,k<=n/\i=.int .i64 k/\Hid (Rg.Own encP 6 wr z.heap.size 39 v ((many k).map nvD))/\Hid (Below z.heap.size z wr/\z.heap.size<=wr.heap.size)) (fun _ i _=>n-(intOf i).toNat)
 case atStart=>exact⟨0,Nat.zero_le _,rfl,Rg.ao _ _ _,Below.refl _ _,Nat.le_refl _⟩
 case round =>
  obtain⟨k,hk,rfl,HO,ai⟩:=hrel
  by_cases aZ:k<n
  ·have a0:k<70:=by omega
   have an:(many (k+1)).map nvD=(many k).map nvD++[nvD (mN k)]:=by unfold many;rw[List.range_succ,List.map_append,List.map_append];rfl
   have ar:((many k).map nvD).length+1<=1000000:=by rw[List.length_map,iH];omega
   obtain⟨X,hX⟩:=ex (97+k / 26)
   obtain⟨Y,hY⟩:=ex (97+k % 26)
   have aC:nvD (mN k)=⟨[112,UInt8.ofNat X,UInt8.ofNat Y],[49],(none,0,0),(none,0,0),(none,0,0),0⟩:=by unfold mN nvD;rw[hX,hY]
   obtain⟨qa,aW⟩:=ex (k / 26)
   obtain⟨qb,aX⟩:=ex (k % 26)
   have d1:(k:Int) / 26=(qa:Int):=by omega
   have d2:(k:Int).tdiv 26=(qa:Int):=by rw[Int.tdiv_eq_ediv_of_nonneg (Int.natCast_nonneg _)];exact d1
   have d3:(k:Int) % 26=(qb:Int):=by omega
   have d4:(k:Int).tmod 26=(qb:Int):=by rw[Int.tmod_eq_emod_of_nonneg (Int.natCast_nonneg _)];exact d3
   have s1:(97:Int)+(qa:Int)=(X:Int):=by omega
   have s2:(97:Int)+(qb:Int)=(Y:Int):=by omega
   have aj:X<256:=by omega
   have ak:Y<256:=by omega
   have wa:IntKind.i64.wrap (qa:Int)=(qa:Int):=IntWalk.i64_in _ (by omega)
   have wb:IntKind.i64.wrap (qb:Int)=(qb:Int):=IntWalk.i64_in _ (by omega)
   have wX:IntKind.i64.wrap (X:Int)=(X:Int):=IntWalk.i64_in _ (by omega)
   have wY:IntKind.i64.wrap (Y:Int)=(Y:Int):=IntWalk.i64_in _ (by omega)
   have vX:IntKind.u8.wrap (X:Int)=(X:Int):=by rw[IntKind.wrap_u8];omega
   have vY:IntKind.u8.wrap (Y:Int)=(Y:Int):=by rw[IntKind.wrap_u8];omega
   obtain⟨U1,aA⟩:=ex (wr.alloc (.cells #[.int .u8 X,.int .u8 Y] 5))
   have ac:Hid (Below wr.heap.size wr U1):=ab aA
   have aD:=abk aj ak aA
   obtain⟨P,hP⟩:=ex ([UInt8.ofNat X,UInt8.ofNat Y])
   obtain⟨Q,hQ⟩:=ex ([112]++P)
   have rQ:=acJ hQ (by rw[<-hQ,<-hP];simp)
   have aE:nvD (mN k)=⟨Q,[49],(none,0,0),(none,0,0),(none,0,0),0⟩:=by rw[aC,<-hQ,<-hP];rfl
   rw[hP] at aD
   rw[aE] at an
   obtain⟨pre,am⟩:=ex ((many k).map nvD)
   rw[am] at an ar HO
   have aN:=zh an
   have aO:=zh ar
   clear hX hY aC aW aX hP hQ aE am an ar aj ak
   have au:=zh (Rg.own_below HO.out ac.out)
   have aw:Hid (Below z.heap.size z U1/\z.heap.size<=U1.heap.size):=⟨ai.out.1.trans (ac.out.mono ai.out.2),Nat.le_trans ai.out.2 ac.out.size⟩
   clear HO ai
   go_wp2_with (at_builtin;refine Rg.aL sliceP rfl (.tmp 23) (.tmp 36) rfl z.heap.size _ pre [(⟨Q,[49],(none,0,0),(none,0,0),(none,0,0),0⟩:PD)] rfl (Rg.own_below au.out ((Below.refl _ _).alloc (Nat.le_refl _) _)) _ _ rfl (Rg.ax U1 _ _ _ (by rfl)) (Nat.zero_lt_succ _) aO.out ?b1 ?_)
   case b1=>have:=aw.out.2;simp;omega
   intro v5 W5 aJ aK aY
   have aP:=ee aw au aK
   have aQ:Hid (Rg.Own encP 6 W5 z.heap.size 39 v5 ((many (k+1)).map nvD)):=by show Rg.Own _ _ _ _ _ _ _;rw[aN.out];exact aJ
   clear aJ aK aY au aw aA aD
   go_wp2_with fail
   go_roundw
   case rel=>exact⟨k+1,by omega,by go_num,aQ.out,aP.out⟩
   case measure=>simp[intOf];omega
  ·obtain rfl:k=n:=by omega
   obtain⟨A,c,hA,ag⟩:=adk HO.out
   rw[iH] at hA
   subst hA
   have ad:Hid (RRow wr A (pks k)):=ag
   have al:Hid ((pks k).length=k):=cQ k
   have ah:Hid (Below w.heap.size w wr):=HB.out.trans (ai.out.1.mono HB.out.size)
   have af:=zh (iP A k c (pks k) wr (aa HK.out.1 ah.out) (cQ k) ag (j3 (by omega)))
   have ae:Hid (∀ u,Below wr.heap.size wr u->Calls Tryz.prog 12 #[.slice A k c] u fun e w'=>e=.returned (.tuple #[.string ⟨(printR (pks k)).1.toArray⟩,.int .i64 (printR (pks k)).2])/\Below u.heap.size u w'):=fun u h=>iQ A k c (pks k) u (av (av HK.out ah.out) h) (cQ k) (bc ad.out h) (j3 (by omega)) (fun _=>⟨nw (by omega),by rw[sq];have:=iI (k:=k) (by omega);omega⟩)
   rw[yZ (by omega)] at af
   rw[yY (by omega)] at ae
   clear ag HO ai
   by_cases ap:64<k
   ·rw[if_pos ap] at af ae
    have d0:decide ((64:Int)<(k:Int))=true:=decide_eq_true (by omega)
    clear ap
    go_wp2_with fail
    refine af.out.mono ?_
    rintro _ u1 ⟨rfl,hb⟩
    have ac:=zh hb
    clear hb af
    go_wp2_with fail
    refine (ae.out _ ac.out).mono ?_
    rintro _ u2 ⟨rfl,hb⟩
    have aq:=zh (bt ac.out hb)
    clear hb ae
    dsimp only
    go_wp2_with fail
    go_ret
    exact⟨rfl,bt ah.out aq.out⟩
   ·rw[if_neg ap] at af ae
    have d0:decide ((64:Int)<(k:Int))=false:=decide_eq_false (by omega)
    have aF:k<=64:=by omega
    have aG:=zh (y8 aF)
    have ay:=zh (y6 aF)
    obtain⟨T,hT⟩:=ex (Sz.textS (grid 0 (many k)))
    rw[hT] at ae aG ay
    clear hT ap
    go_wp2_with fail
    refine af.out.mono ?_
    rintro _ u1 ⟨rfl,hb⟩
    have ac:=zh hb
    clear hb af
    go_wp2_with fail
    refine (ae.out _ ac.out).mono ?_
    rintro _ u2 ⟨rfl,hb⟩
    have aq:=zh (bt ac.out hb)
    have aR:Hid (Below w.heap.size w u2):=bt ah.out aq.out
    clear hb ae
    dsimp only
    go_wp2_with fail
    refine (cY T u2 (av HK.out aR.out) aG.out).mono ?_
    rintro _ u3 ⟨E,d,he,hr,hb⟩
    rw[ay.out,al.out] at he
    rw[ay.out] at hr
    subst he
    have aH:=zh (bt aq.out hb)
    have aS:=zh hr
    clear hb hr
    dsimp only
    go_wp2_with fail
    refine (jC E A k k d c (pks k) (pks k) u3 al.out al.out aS.out (bc ad.out aH.out) (by omega) (j3 (by omega)) (j3 (by omega))).mono ?_
    rintro _ u4 ⟨rfl,hb⟩
    have aI:=zh (bt aH.out hb)
    rw[oM]
    clear hb
    go_wp2_with fail
    refine (iS A k c (pks k) u4 al.out (bc ad.out aI.out) (by omega) (fun p hp=>Nat.le_trans (nw (k:=k) (by omega) p hp).1 (by decide))).mono ?_
    rintro _ u5 ⟨F,f,rfl,_,hb⟩
    have aT:=zh (bt aI.out hb)
    rw[y9 k n70]
    clear hb
    have e1:((k:Int)==(k:Int))=true:=by simp
    go_wp2_with fail
    refine (adf _).mono ?_
    rintro _ u6 ⟨C,cc,rfl,hs,hb⟩
    have az:=zh (bt aT.out hb)
    have aU:=zh hs
    clear hb hs e1
    go_wp2_with fail
    refine (fW A k c (pks k) [112,97,97] C 1 cc allS u6 (aa HK.out.1 (bt ah.out az.out)) al.out (bc ad.out az.out) (by omega) (fun p hp=>⟨fi (jZ (k:=k) (by omega) p hp),(gj (jZ (k:=k) (by omega) p hp)).2,Nat.le_trans (nw (k:=k) (by omega) p hp).2.2.2.2.2.2.2.2.1 (by decide)⟩) rfl aU.out (by decide) acI).mono ?_
    rintro _ u7 h7
    obtain⟨H,h,rfl,_,hb⟩:=nt h7
    have aV:=zh (bt az.out hb)
    clear h7 hb
    rw[abj k n70]
    obtain⟨m,hm⟩:=ex (min k 1)
    have a1:min (k:Int) 1=(m:Int):=by omega
    rw[hm]
    have e2:((m:Int)==(m:Int))=true:=by simp
    go_wp2_with fail
    go_ret
    exact⟨rfl,bt ah.out aV.out⟩
end
section
open Go.RowKit Go.ChangeShapes
theorem errStar:"*errors.errorString" = "*"++"errors.errorString" := by decide
theorem errRow (u:TypeId)(h:Tryz.prog.typeName? 3 u=some "*errors.errorString"):u=326 :=
 typeName_ptr_named (nm := "errors.errorString") (by rw[<-errStar]; kernel_rfl) (by kernel_rfl) (by decide) u (by rw[<-errStar]; exact h)
theorem adl {W:World}(hm:MaxOk W)(h:laidMet Tryz.prog [("math/bits.deBruijn32tab", Rows.laid_math_bits_deBruijn32tab), ("math/bits.deBruijn64tab", Rows.laid_math_bits_deBruijn64tab), ("internal/strconv.uint64pow10", Rows.laid_internal_strconv_uint64pow10), ("unicode/utf8.acceptRanges", Rows.laid_unicode_utf8_acceptRanges), ("strconv.ErrRange", Rows.laid_strconv_ErrRange), ("strconv.ErrSyntax", Rows.laid_strconv_ErrSyntax), ("unicode/utf8.first", Rows.laid_unicode_utf8_first)] W):KOk W := by
 refine⟨hm,?_,?_,?_⟩
 ·exact Lib.tabIs_of_head (k:=.u64) (zs:=Lib.pow10Tab) (n:=20) (g:=3) (t:=286) (by kernel_rfl) (by kernel_rfl) (show Tryz.prog.underlying _=some (.array 20 26) by kernel_rfl) Tryz.underlying26 (by kernel_rfl) (by kernel_rfl) h.tail.tail
 ·exact Lib.tabIs_of_head (k:=.u8) (zs:=Lib.deBruijn64tab.map Int.ofNat) (n:=64) (g:=2) (t:=253) (by kernel_rfl) (by kernel_rfl) (show Tryz.prog.underlying _=some (.array 64 5) by kernel_rfl) Tryz.underlying5 (by kernel_rfl) (by kernel_rfl) h.tail
 ·obtain⟨a,s,hv,_⟩:=laid_sentinel h.tail.tail.tail.tail (g:=8) (ti:=119) (tp:=326) (te:=328) (ts:=9) (by kernel_rfl) (by kernel_rfl) Tryz.underlying119 errRow Tryz.underlying326 Tryz.underlying328 rfl rfl Tryz.underlying9 (by kernel_rfl) (by kernel_rfl)
  exact⟨_,_,hv⟩
end
end Go.Proofs.YtkoaljpfoekgkaaGreatDoor

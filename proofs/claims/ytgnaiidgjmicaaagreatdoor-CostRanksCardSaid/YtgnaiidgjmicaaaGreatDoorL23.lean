/- Part 23 of what the laws lean on. -/
import Derived.Test.YtgnaiidgjmicaaaGreatDoorL22
import Derived.Stop.LaidErr
import Derived.LaidMore
set_option maxRecDepth 100000
set_option maxHeartbeats 12800000
namespace Go.Proofs.YtgnaiidgjmicaaaGreatDoor
namespace Rp
open Go.RowKit Rs At Pg
def sp7:List Sp:=[⟨[50],[],true,false⟩]
def at7:Atm:=⟨[108,105,98],sp7⟩
def p71:Pk:=⟨[97,112,112],[49],[],[],[],0⟩
def p72:Pk:=⟨[97,112,112],[50],[[at7]],[],[],0⟩
def p73:Pk:=⟨[108,105,98],[49],[],[],[],0⟩
def r7:List Pk:=[p71,p72,p73]
def small7:List UInt8:=[80,97,99,107,97,103,101,58,32,97,112,112,10,86,101,114,115,105,111,110,58,32,50,10,68,101,112,101,110,100,115,58,32,108,105,98,32,40,62,61,32,50,41,10,10,80,97,99,107,97,103,101,58,32,97,112,112,10,86,101,114,115,105,111,110,58,32,49,10,10,80,97,99,107,97,103,101,58,32,108,105,98,10,86,101,114,115,105,111,110,58,32,49,10]
def two7:List UInt8:=[80,97,99,107,97,103,101,58,32,97,10,86,101,114,115,105,111,110,58,32,49,10,10,80,97,99,107,97,103,101,58,32,97,10,86,101,114,115,105,111,110,58,32,48,49,45,48,10]
def bad7:List UInt8:=[80,97,99,107,97,103,101,58,32,97,10,86,101,114,115,105,111,110,58,32,49,10,68,101,112,101,110,100,115,58,32,66,10]
theorem k7a:parseR small7=(0,0,r7):=by decide +kernel
def fitB (G:List (List Sz.Fld)):Bool:=G.all fun s=>decide (s.length<=1000)&&s.all fun f=>decide (f.key.length<=1000)&&decide (f.val.length<=1000)
theorem aaE {G:List (List Sz.Fld)}(h:fitB G=true):Fits1 G:=fun s hs=>by
 have h1:=List.all_eq_true.1 h s hs
 rw[Bool.and_eq_true,decide_eq_true_eq] at h1
 have h2:∀ f∈s,f.key.length<=1000/\f.val.length<=1000:=fun f hf=>by
  have h3:=List.all_eq_true.1 h1.2 f hf
  rwa [Bool.and_eq_true,decide_eq_true_eq,decide_eq_true_eq] at h3
 exact⟨h1.1,fun f hf=>by have:=h2 f hf;omega,fun f hf=>pD (h2 f hf).2⟩
theorem k7d:fitB (Sz.parseS small7).2.2=true/\fitB (Sz.parseS two7).2.2=true/\fitB (Sz.parseS bad7).2.2=true:=by decide +kernel
theorem k7l:checkP p71=0/\checkP p72=0/\checkP p73=0:=by decide +kernel
theorem all7 {P:Pk->Prop}(h:∀ p,checkP p=0->p.wt<Wm.W->P p):∀ p∈r7,P p:=fun p hp=>by
 have hw:(0:Nat)<Wm.W:=by decide +kernel
 rcases List.mem_cons.1 hp with rfl | hp
 ·exact h _ k7l.1 hw
 ·rcases List.mem_cons.1 hp with rfl | hp
  ·exact h _ k7l.2.1 hw
  ·rw[List.mem_singleton.1 hp];exact h _ k7l.2.2 hw
end Rp
section
open Go.RowKit Rs At Pg Rp
attribute [local go_sem ↓] Go.wp_at_zero Go.wp_at_succ
attribute [local go_sem] Pg.aj
theorem Rp.c8 {w:World}{A:Option Addr}{l:List Int}(h:IRow w A l)(k:Nat)(hk:k<l.length):∃ ad x,A=some ad/\l[k]=x/\ad.block<w.heap.size/\w.cell? (ad.add k)=some (.int .i64 x):=by
 obtain⟨ad,x,h1,h2,h3,h4⟩:=Rg.bz h k hk
 refine⟨ad,x,h1,h2,h3,?_⟩
 have:=h4 0 (.int .i64 x) rfl
 rwa [if_pos rfl,Nat.mul_one] at this
theorem Rp.gH {w w':World}{A:Option Addr}{l:List Int}(h:IRow w A l)(hb:Below w.heap.size w w'):IRow w' A l:=Rg.ag h hb
theorem dB (A B:Option Addr)(n m c d:Nat)(l k:List Int)(w:World)(hn:l.length=n)(hm:k.length=m)(hr:IRow w A l)(hq:IRow w B k)(hl:n<=1000000) :
  Calls Tryz.prog 19 #[.slice A n c,.slice B m d] w fun e w'=>e=.returned (.bool (decide (l=k)))/\Below w.heap.size w w':=by
 obtain⟨X,hX⟩:=ex (decide (l=k))
 rw[hX]
 have HX:=zh hX
 have HR:=zh hr
 have HQ:=zh hq
 have HN:=zh hn
 have HM:=zh hm
 clear hX hr hq hn hm
 by_cases hlen:n=m
 ·have hd:((n:Int) != m)=false:=by rw[hlen];simp
  have HL:=zh hlen
  clear hlen
  go_enter Tryz.func19,Tryz.ntmps19
  go_wp2_with fail
  clear hd
  go_loopw [5] (fun i wr=>∃ j:Nat,j<=n/\i=.int .i64 j/\Hid (l.take j=k.take j)/\Hid (Below w.heap.size w wr)) (fun i _=>n-(intOf i).toNat)
  case atStart=>exact⟨0,Nat.zero_le _,rfl,rfl,Below.refl _ _⟩
  case round =>
   obtain⟨j,hj,rfl,HT,HW⟩:=hrel
   by_cases ag:j<n
   ·have ab:j<m:=by have:=HL.out;omega
    have h1:j<l.length:=by rw[HN.out];exact ag
    have h2:j<k.length:=by rw[HM.out];exact ab
    obtain⟨ad,x,rfl,hx,hs,hc⟩:=c8 (gH HR.out HW.out) j h1
    obtain⟨ae,y,rfl,hy,ht,he⟩:=c8 (gH HQ.out HW.out) j h2
    have ac:Hid (x=y->l.take (j+1)=k.take (j+1)):=fun q=>by
     rw[List.take_succ_eq_append_getElem h1,List.take_succ_eq_append_getElem h2,HT.out,hx,hy,q]
    have af:Hid (x≠y->X=false):=fun q=>by
     rw[<-HX.out];exact decide_eq_false fun h=>q (by subst h;exact hx.symm.trans hy)
    have j0:(0:Int)<=(j:Int):=by omega
    have j1:(j:Int)<(n:Int):=by omega
    have j2:(j:Int)<(m:Int):=by omega
    clear hx hy hs ht h1 h2
    cases aa:x==y
    ·have ah:(x != y)=true:=by show (!(x==y))=true;rw[aa];rfl
     have HF:Hid (X=false):=af.out fun q=>by rw[q] at aa;simp at aa
     clear ac af
     go_wp2_with fail
     first | (go_quiet (fail)) | fail
     go_wp2_with fail
     go_ret
     exact⟨by rw[HF.out];rfl,below_drewN HW.out _⟩
    ·have ah:(x != y)=false:=by show (!(x==y))=false;rw[aa];rfl
     have ai:Hid (l.take (j+1)=k.take (j+1)):=ac.out (by simpa using aa)
     clear ac af
     go_wp2_with fail
     first | (go_quiet (fail)) | fail
     go_wp2_with fail
     go_roundw
     case rel=>exact⟨j+1,by omega,by go_num,ai,below_drewN HW.out _⟩
     case measure=>simp[intOf];omega
   ·have HF:Hid (X=true):=by
     show _=_
     rw[<-HX.out]
     refine decide_eq_true ?_
     have:=HT.out
     rwa [List.take_of_length_le (by rw[HN.out];omega),List.take_of_length_le (by rw[HM.out];have:=HL.out;omega)] at this
    go_wp2_with fail
    go_ret
    exact⟨by rw[HF.out];rfl,HW.out⟩
 ·have hd:((n:Int) != m)=true:=by
   show (!((n:Int)==m))=true
   have:((n:Int)==m)=false:=by simp;omega
   rw[this];rfl
  have HF:Hid (X=false):=by
   show _=_
   rw[<-HX.out]
   exact decide_eq_false fun h=>hlen (by rw[<-HN.out,<-HM.out,h])
  clear hlen
  go_enter Tryz.func19,Tryz.ntmps19
  go_wp2_with fail
  go_ret
  exact⟨by rw[HF.out];rfl,Below.refl _ _⟩
end
section
open Go.RowKit Rs At Pg Rp
attribute [local go_sem ↓] Go.wp_at_zero Go.wp_at_succ
theorem pY (w:World):Calls Tryz.prog 31 #[] w fun e w'=>e=.returned (.string ⟨Rp.small7.toArray⟩)/\w=w':=by
 go_enter Tryz.func31,Tryz.ntmps31
 go_wp2_with fail
 go_ret
 exact⟨rfl,rfl⟩
end
section
open Go.RowKit Rs At Pg Rp
attribute [local go_sem ↓] Go.wp_at_zero Go.wp_at_succ
attribute [local go_sem] Pg.aj
namespace Rp
theorem yt {w:World}(hk:KOk w):Calls Tryz.prog 30 #[.string ⟨small7.toArray⟩] w fun e w'=>∃ ad c,e=.returned (.tuple #[.slice (some ad) 3 c,.int .i64 0,.int .i64 0])/\RRow w' (some ad) r7/\Below w.heap.size w w' :=
 (nK small7 w hk (aaE k7d.1)).mono fun e w' ⟨A,c,he,hr,hb⟩=>by
  rw[k7a] at he hr
  obtain⟨ad,_,_,_,_,_,_,rfl,_⟩:=bB hr 0 (by decide)
  exact⟨ad,c,he,hr,hb⟩
theorem ver7:∀ p∈r7,Vm.check p.ver=0:=all7 fun _ h _=>pC h
theorem name7:∀ p∈r7,p.name.length<=1000000:=all7 fun _ h hw=>Nat.le_trans (vu h hw).1 (by decide)
theorem fR {w w':World}{X:List Int}{e:Ending}(h:NumRet w X e w'):∃ B d,e=.returned (.slice B X.length d)/\IRow w' B X/\Below w.heap.size w w':=by
 obtain⟨v,he,ho,hb⟩:=h
 obtain⟨B,d,hv,hr,_,_⟩:=Rg.au fitsI ho
 exact⟨B,d,by rw[he,hv],hr,hb⟩
end Rp
end
section
open Go.RowKit Rs At Pg Rp Ck Lk
namespace Ck
def e12:List LEnt:=[([97,112,112],[49]),([111,108,100],[49])]
theorem vY:ranksL r7=[1,0,0]:=by decide +kernel
theorem aaO:costOf r7 e12 [0]=[0,1,0,1,1]:=by decide +kernel
theorem aaP:costOf r7 e12 [1,2]=[0,1,1,0,0]:=by decide +kernel
theorem yu:bestG (costOf r7 e12) 0 0 [] [[0],[1],[1,2],[1]]=1:=by decide +kernel
theorem aaQ:∀ p q rest,r7=p :: q :: rest->ranksL [{ p with wt:=4611686018427387904 },q]=[0,1]:=by
 intro p q rest h
 have h1:r7.head? = some p:=by rw[h];rfl
 have h2:r7.tail.head? = some q:=by rw[h];rfl
 have e1:r7.head?.map (fun p=>{ p with wt:=4611686018427387904 })=some { p with wt:=4611686018427387904 }:=by rw[h1];rfl
 have:ranksL ((r7.head?.map (fun p=>{ p with wt:=4611686018427387904 })).toList++r7.tail.head?.toList)=[0,1]:=by decide +kernel
 rw[e1,h2] at this
 exact this
theorem l8:cmpL [0,1,0,1,1] [0,1,1,0,0] = -1/\cmpL [0,1,0,1,1] [0,1,0,1,1]=0/\cmpL [1] [1,0] = -1:=by decide +kernel
end Ck
end
section
open Go.RowKit Rs At Pg Rp Ck Lk
attribute [local go_sem ↓] Go.wp_at_zero Go.wp_at_succ
attribute [local go_sem] Pg.aj
namespace Ck
theorem fine7:Fine r7:=fun p hp=>⟨(by decide +kernel:∀ p∈r7,p.wt<Wm.W) p hp,ver7 p hp⟩
theorem vZ:∀ s∈([[0],[1],[1,2],[1]]:List (List Int)),s.length<=100000:=fun s h=>by
 simp only[List.mem_cons,List.not_mem_nil,or_false] at h
 rcases h with rfl | rfl | rfl | rfl <;> exact Nat.le_of_ble_eq_true rfl
theorem esm12:ESm e12:=by unfold ESm;decide
theorem yv {α:Type}{enc:α->List Value}{K:Nat}(hf:Rg.Fits enc K){w:World}{b:Nat}{T:TypeId}{l:List α}{cs:Array Value}(h:w.heap[b]?=some (.cells cs T (0,0)))(e:cs.toList=Rg.flat enc l):Rg.Row enc K w (some ⟨b,0,none⟩) l:=fun _=>by
 refine⟨_,rfl,block_lt h,fun i hi j v hv=>?_⟩
 have hj:j<K:=by rw[<-hf.len l[i]];exact (List.getElem?_eq_some_iff.1 hv).1
 rw[<-Rg.eM]
 exact World.news_of_block h _ _ (by rw[e,Rg.flat_get hf l i hi j hj];exact hv)
theorem yw (A K S:Option Addr)(c kc sc:Nat)(w:World)(hw:MaxOk w)(hr:RRow w A r7)(hE:ERow w K e12)(hS:SetsRow w S [[0],[1],[1,2],[1]]) :
  Calls Tryz.prog 29 #[.slice A 3 c,.slice K 2 kc,.slice S 4 sc] w fun e w'=>e=.returned (.tuple #[.int .i64 1,.bool true])/\Below w.heap.size w w' :=
 (eJ A K S 3 c 2 kc 4 sc r7 e12 [[0],[1],[1,2],[1]] w hw rfl hr (by decide) fine7 name7 rfl hE (by decide) esm12 rfl hS (by decide) vZ).mono fun e w' ⟨h1,h2⟩=>⟨by rw[h1,yu];rfl,h2⟩
theorem yx (A K:Option Addr)(c kc:Nat)(w:World)(hw:MaxOk w)(hr:RRow w A r7)(hE:ERow w K e12) :
  Calls Tryz.prog 29 #[.slice A 3 c,.slice K 2 kc,.slice none 0 0] w fun e w'=>e=.returned (.tuple #[.int .i64 0,.bool false])/\Below w.heap.size w w' :=
 (eJ A K none 3 c 2 kc 0 0 r7 e12 [] w hw rfl hr (by decide) fine7 name7 rfl hE (by decide) esm12 rfl ⟨[],Rg.bu _ _,rfl,fun i d s e1 _=>by simp at e1⟩ (by decide) (fun s h=>by cases h)).mono fun e w' ⟨h1,h2⟩=>⟨by rw[h1];rfl,h2⟩
theorem v7 (A:Option Addr)(c:Nat)(w:World)(hw:MaxOk w)(hr:RRow w A r7) :
  Calls Tryz.prog 27 #[.slice A 3 c] w fun e w'=>∃ B d,e=.returned (.slice B 3 d)/\IRow w' B [1,0,0]/\Below w.heap.size w w' :=
 (ee A 3 c r7 w hw rfl hr (by decide) fine7).mono fun e w' h=>by rw[vY] at h;exact fR h
def r12w:List Pk:=[{ p71 with wt:=4611686018427387904 },p72]
theorem fine12:Fine r12w:=fun p hp=>by
 rcases List.mem_cons.1 hp with rfl | hp
 ·exact⟨by decide +kernel,ver7 p71 (by unfold r7;exact List.mem_cons_self)⟩
 ·rw[List.mem_singleton.1 hp]
  exact fine7 p72 (by unfold r7;exact List.mem_cons_of_mem _ List.mem_cons_self)
theorem tR (A:Option Addr)(c:Nat)(w:World)(hw:MaxOk w)(hr:RRow w A r12w) :
  Calls Tryz.prog 27 #[.slice A 2 c] w fun e w'=>∃ B d,e=.returned (.slice B 2 d)/\IRow w' B [0,1]/\Below w.heap.size w w' :=
 (ee A 2 c r12w w hw rfl hr (by decide) fine12).mono fun e w' h=>by rw[show ranksL r12w=[0,1] from aaQ p71 p72 [p73] rfl] at h;exact fR h
theorem gI (A B:Option Addr)(n c d:Nat)(l:List Int)(w:World)(hn:l.length=n)(hr:IRow w A l)(hq:IRow w B l)(hl:n<=1000000) :
  Calls Tryz.prog 19 #[.slice A n c,.slice B n d] w fun e w'=>e=.returned (.bool true)/\Below w.heap.size w w' :=
 (dB A B n n c d l l w hn hn hr hq hl).mono fun e w' ⟨h1,h2⟩=>⟨by rw[h1,decide_eq_true rfl],h2⟩
end Ck
theorem jm (w:World)(hk:KOk w):Calls Tryz.prog 25 #[] w fun e w'=>e=.returned (.bool true)/\Below w.heap.size w w':=by
 have HK:=zh hk
 clear hk
 go_enter Tryz.func25,Tryz.ntmps25
 go_wp2_with fail
 refine (pY _).mono ?_
 rintro _ z ⟨rfl,rfl⟩
 go_wp2_with fail
 refine (yt HK.out).mono ?_
 rintro _ u1 ⟨ad,c,rfl,hr,hb⟩
 have b0:=zh hb
 have aq:Hid (∀ u,Below u1.heap.size u1 u->RRow u (some ad) r7):=fun u h=>aU hr h
 have ar:Hid (∀ u,Below u1.heap.size u1 u->MaxOk u):=fun u h=>ab (ab HK.out.1 hb) h
 obtain⟨aZ,D0,d0,C0,c0,G0,g0,ea,bw,bx,bz,a0⟩:=bB hr 0 (by decide)
 obtain rfl:ad=aZ:=Option.some.inj ea
 obtain⟨aZ,D1,d1,C1,c1,G1,g1,eb,bA,bC,bD,bE⟩:=bB hr 1 (by decide)
 obtain rfl:ad=aZ:=Option.some.inj eb
 rw[Nat.zero_mul,Rg.add_zero] at a0
 have be:Hid (∀ u,Below u1.heap.size u1 u->u.cell? ad=some (.string ⟨#[97,112,112]⟩)/\u.cell? ⟨ad.block,ad.off+1,none⟩=some (.string ⟨#[49]⟩)/\u.cell? ⟨ad.block,ad.off+2,none⟩=some (.slice D0 0 d0)/\u.cell? ⟨ad.block,ad.off+3,none⟩=some (.slice C0 0 c0)/\u.cell? ⟨ad.block,ad.off+4,none⟩=some (.slice G0 0 g0)/\u.cell? ⟨ad.block,ad.off+5,none⟩=some (.float .f64 0)):=a0
 have bf:Hid (∀ u,Below u1.heap.size u1 u->u.cell? ⟨ad.block,ad.off+6,none⟩=some (.string ⟨#[97,112,112]⟩)/\u.cell? ⟨ad.block,ad.off+6+1,none⟩=some (.string ⟨#[50]⟩)/\u.cell? ⟨ad.block,ad.off+6+2,none⟩=some (.slice D1 1 d1)/\u.cell? ⟨ad.block,ad.off+6+3,none⟩=some (.slice C1 0 c1)/\u.cell? ⟨ad.block,ad.off+6+4,none⟩=some (.slice G1 0 g1)/\u.cell? ⟨ad.block,ad.off+6+5,none⟩=some (.float .f64 0)):=bE
 have au:Hid (Pg.DRow u1 D0 []/\ARow u1 C0 []/\GRow u1 G0 []):=⟨bw,bx,bz⟩
 have av:Hid (Pg.DRow u1 D1 [[at7]]/\ARow u1 C1 []/\GRow u1 G1 []):=⟨bA,bC,bD⟩
 clear hr hb ea eb a0 bE bw bx bz bA bC bD
 dsimp only
 obtain⟨b4,bF⟩:=ex u1.heap.size
 obtain⟨W4,a1⟩:=ex (u1.alloc (.cells #[.string ⟨#[97,112,112]⟩,.string ⟨#[49]⟩,.string ⟨#[111,108,100]⟩,.string ⟨#[49]⟩] 107))
 have aw:Hid (Below u1.heap.size u1 W4):=aa a1
 have HE:Hid (∀ u,Below W4.heap.size W4 u->ERow u (some ⟨b4,0,none⟩) e12):=fun u h=>Rg.ag (by rw[<-a1];exact Rg.aG fitsE _ _ _ _ rfl bF) h
 obtain⟨b5,bG⟩:=ex W4.heap.size
 obtain⟨W5,a2⟩:=ex (W4.alloc (.cells #[.int .i64 0] 3))
 have af:Hid (Below W4.heap.size W4 W5):=aa a2
 have aF:Hid (Below u1.heap.size u1 W5):=bt aw.out af.out
 have aI:=zh (k9 (some ad) (some ⟨b4,0,none⟩) (some ⟨b5,0,none⟩) 3 c 2 2 1 1 r7 e12 [0] W5 (ar.out _ aF.out) rfl (aq.out _ aF.out) (by decide) fine7 name7 rfl (HE.out _ af.out) (by decide) esm12 rfl (by rw[<-a2];exact Rg.aG fitsI _ _ _ _ rfl bG) (by decide))
 rw[aaO] at aI
 go_wp2_with fail
 clear a1 a2 bF bG
 refine aI.out.mono ?_
 rintro _ u5 h5
 obtain⟨A5,a5,rfl,bH,bI⟩:=fR h5
 have bg:Hid (∀ u,Below u5.heap.size u5 u->IRow u A5 [0,1,0,1,1]):=fun u h=>Rg.ag bH h
 have aj:Hid (Below W4.heap.size W4 u5):=bt af.out bI
 clear h5 bH bI aI aF af
 obtain⟨b6,bJ⟩:=ex u5.heap.size
 obtain⟨W6,a3⟩:=ex (u5.alloc (.cells #[.int .i64 1,.int .i64 2] 3))
 have aK:Hid (Below u5.heap.size u5 W6):=aa a3
 have ax:Hid (Below W4.heap.size W4 W6):=bt aj.out aK.out
 have aL:=zh (k9 (some ad) (some ⟨b4,0,none⟩) (some ⟨b6,0,none⟩) 3 c 2 2 2 2 r7 e12 [1,2] W6 (ar.out _ (bt aw.out ax.out)) rfl (aq.out _ (bt aw.out ax.out)) (by decide) fine7 name7 rfl (HE.out _ ax.out) (by decide) esm12 rfl (by rw[<-a3];exact Rg.aG fitsI _ _ _ _ rfl bJ) (by decide))
 rw[aaP] at aL
 go_wp2_with fail
 clear a3 bJ
 refine aL.out.mono ?_
 rintro _ u6 h6
 obtain⟨A6,a6,rfl,bK,bL⟩:=fR h6
 have bh:Hid (∀ u,Below u6.heap.size u6 u->IRow u A6 [0,1,1,0,0]):=fun u h=>Rg.ag bK h
 have ak:Hid (Below u5.heap.size u5 u6):=bt aK.out bL
 have al:Hid (Below W4.heap.size W4 u6):=bt aj.out ak.out
 have ah:Hid (Below u1.heap.size u1 u6):=bt aw.out al.out
 clear h6 bK bL aL aK ax
 have aM:Hid (Below u6.heap.size u6 u6.drew):=(Below.refl _ _).drew
 obtain⟨x0,x1,x2,x3,x4,x5⟩:=be.out _ (bt ah.out aM.out)
 obtain⟨y0,y1,y2,y3,y4,y5⟩:=bf.out _ (bt ah.out aM.out)
 go_upto_region 7 with (fail)
 go_cut [7] (fun v wx=>Hid (∃ b7,v=.slice (some ⟨b7,0,none⟩) 2 2/\u6.heap.size<=b7/\wx.heap[b7]?=some (.cells #[.string ⟨#[97,112,112]⟩,.string ⟨#[49]⟩,.slice D0 0 d0,.slice C0 0 c0,.slice G0 0 g0,.float .f64 0,.string ⟨#[97,112,112]⟩,.string ⟨#[50]⟩,.slice D1 1 d1,.slice C1 0 c1,.slice G1 0 g1,.float .f64 0] 68 (0,0))/\Below u6.heap.size u6 wx))
 case first =>
  go_region_law fail
  all_goals
   go_wp2_with fail
   go_meet
   case rel=>exact⟨u6.heap.size,rfl,Nat.le_refl _,heap_alloc_new _ _,(Below.refl _ _).drew.alloc (Nat.le_refl _) _⟩
 case rest =>
  clear x0 x1 x2 x3 x4 x5 y0 y1 y2 y3 y4 y5
  obtain⟨b7,rfl,bM,aA,bN⟩:=hcut
  have z5:wc.cell? ⟨b7,5,none⟩=some (.float .f64 0):=by rw[cell_of_row wc b7 5 _ _ (0,0) aA];rfl
  have zf:wc.frozen? ⟨b7,5,none⟩=false:=by simp[World.frozen?,aA]
  obtain⟨W8,a4⟩:=ex (wc.setCell ⟨b7,5,none⟩ (.float .f64 4611686018427387904))
  have bi:W8.heap[b7]?=some (.cells #[.string ⟨#[97,112,112]⟩,.string ⟨#[49]⟩,.slice D0 0 d0,.slice C0 0 c0,.slice G0 0 g0,.float .f64 4611686018427387904,.string ⟨#[97,112,112]⟩,.string ⟨#[50]⟩,.slice D1 1 d1,.slice C1 0 c1,.slice G1 0 g1,.float .f64 0] 68 (0,0)):=by rw[<-a4,aJ aA];rfl
  have am:Hid (Below u6.heap.size u6 W8):=by
   show Below _ _ _
   rw[<-a4]
   exact bN.setCell bM _
  have ae:Hid (Below u1.heap.size u1 W8):=bt ah.out am.out
  have bj:Hid (Below W4.heap.size W4 W8):=bt al.out am.out
  have bk:Hid (Below u5.heap.size u5 W8):=bt ak.out am.out
  have bl:RRow W8 (some ⟨b7,0,none⟩) r12w:=by
   refine⟨[⟨[97,112,112],[49],(D0,0,d0),(C0,0,c0),(G0,0,g0),4611686018427387904⟩,⟨[97,112,112],[50],(D1,1,d1),(C1,0,c1),(G1,0,g1),0⟩],yv fitsP bi rfl,rfl,fun i d p e1 e2=>?_⟩
   match i with
   | 0=>cases e1;cases e2;exact⟨rfl,rfl,rfl,rfl,rfl,rfl,fp au.out.1 ae.out,bX au.out.2.1 ae.out,Rg.ag au.out.2.2 ae.out⟩
   | 1=>cases e1;cases e2;exact⟨rfl,rfl,rfl,rfl,rfl,rfl,fp av.out.1 ae.out,bX av.out.2.1 ae.out,Rg.ag av.out.2.2 ae.out⟩
   | i+2=>simp at e1
  have ac:Hid (∀ u,Below W8.heap.size W8 u->MaxOk u/\RRow u (some ad) r7/\RRow u (some ⟨b7,0,none⟩) r12w/\ERow u (some ⟨b4,0,none⟩) e12/\IRow u A5 [0,1,0,1,1]/\IRow u A6 [0,1,1,0,0]):=fun u h =>
   ⟨ar.out u (bt ae.out h),aq.out u (bt ae.out h),aU bl h,HE.out u (bt bj.out h),bg.out u (bt bk.out h),bh.out u (bt am.out h)⟩
  have b1:Hid (Below w.heap.size w W8):=bt b0.out ae.out
  go_upto_region 9 with (fail)
  clear a4 z5 zf aA bi bM bN bl am ae bj bk ar aq HE bg bh be bf au av aM
  obtain⟨V1,aB⟩:=ex (W8.alloc (.cells #[.int .i64 0] 3))
  obtain⟨V2,aC⟩:=ex (V1.alloc (.cells #[.int .i64 1] 3))
  obtain⟨V3,aD⟩:=ex (V2.alloc (.cells #[.int .i64 1,.int .i64 2] 3))
  obtain⟨V4,aE⟩:=ex (V3.alloc (.cells #[.int .i64 1] 3))
  obtain⟨v1,bO⟩:=ex W8.heap.size
  obtain⟨v2,bP⟩:=ex V1.heap.size
  obtain⟨v3,bQ⟩:=ex V2.heap.size
  obtain⟨v4,bR⟩:=ex V3.heap.size
  obtain⟨v5,bS⟩:=ex V4.heap.size
  obtain⟨V5,a7⟩:=ex (V4.alloc (.cells #[.slice (some ⟨v1,0,none⟩) 1 1,.slice (some ⟨v2,0,none⟩) 1 1,.slice (some ⟨v3,0,none⟩) 2 2,.slice (some ⟨v4,0,none⟩) 1 1] 44))
  have aN:Below V4.heap.size V4 V5:=aa a7
  have aO:Below V3.heap.size V3 V5:=(aa aE).trans (aN.mono (aa aE).size)
  have aP:Below V2.heap.size V2 V5:=(aa aD).trans (aO.mono (aa aD).size)
  have aQ:Below V1.heap.size V1 V5:=(aa aC).trans (aP.mono (aa aC).size)
  have ay:Hid (Below W8.heap.size W8 V5):=(aa aB).trans (aQ.mono (aa aB).size)
  have bm:Hid (SetsRow V5 (some ⟨v5,0,none⟩) [[0],[1],[1,2],[1]]):=by
   refine⟨[(some ⟨v1,0,none⟩,1,1),(some ⟨v2,0,none⟩,1,1),(some ⟨v3,0,none⟩,2,2),(some ⟨v4,0,none⟩,1,1)],by rw[<-a7];exact Rg.aG fitsO _ _ _ _ rfl bS,rfl,fun i d s e1 e2=>?_⟩
   match i with
   | 0=>cases e1;cases e2;exact⟨rfl,Rg.ag (by rw[<-aB];exact Rg.aG fitsI _ _ _ _ rfl bO) aQ⟩
   | 1=>cases e1;cases e2;exact⟨rfl,Rg.ag (by rw[<-aC];exact Rg.aG fitsI _ _ _ _ rfl bP) aP⟩
   | 2=>cases e1;cases e2;exact⟨rfl,Rg.ag (by rw[<-aD];exact Rg.aG fitsI _ _ _ _ rfl bQ) aO⟩
   | 3=>cases e1;cases e2;exact⟨rfl,Rg.ag (by rw[<-aE];exact Rg.aG fitsI _ _ _ _ rfl bR) aN⟩
   | i+4=>simp at e1
  have bn:=zh (yw (some ad) (some ⟨b4,0,none⟩) (some ⟨v5,0,none⟩) c 2 4 V5 (ac.out _ ay.out).1 (ac.out _ ay.out).2.1 (ac.out _ ay.out).2.2.2.1 bm.out)
  clear aN aO aP aQ bm
  go_wp2_with fail
  clear aB aC aD aE a7 bO bP bQ bR bS
  refine bn.out.mono ?_
  rintro _ u9 ⟨rfl,hb⟩
  have az:Hid (Below W8.heap.size W8 u9):=bt ay.out hb
  clear hb bn
  dsimp only
  go_wp2_with fail
  refine (yx (some ad) (some ⟨b4,0,none⟩) c 2 u9 (ac.out _ az.out).1 (ac.out _ az.out).2.1 (ac.out _ az.out).2.2.2.1).mono ?_
  rintro _ ua ⟨rfl,hb⟩
  have aR:Hid (Below W8.heap.size W8 ua):=bt az.out hb
  clear hb
  dsimp only
  go_wp2_with fail
  refine (v7 (some ad) c ua (ac.out _ aR.out).1 (ac.out _ aR.out).2.1).mono ?_
  rintro _ ub ⟨B1,e1,rfl,ap,hb⟩
  have b2:Hid (Below W8.heap.size W8 ub):=bt aR.out hb
  have b3:Hid (∀ u,Below ub.heap.size ub u->IRow u B1 [1,0,0]):=fun u h=>Rg.ag ap h
  clear hb ap
  obtain⟨X1,a8⟩:=ex (ub.alloc (.cells #[.int .i64 1,.int .i64 0,.int .i64 0] 3))
  obtain⟨x1,bT⟩:=ex ub.heap.size
  have aS:Hid (Below ub.heap.size ub X1):=aa a8
  have bo:Hid (IRow X1 (some ⟨x1,0,none⟩) [1,0,0]):=by show IRow _ _ _;rw[<-a8];exact Rg.aG fitsI _ _ _ _ rfl bT
  have aT:Hid (Below W8.heap.size W8 X1):=bt b2.out aS.out
  go_wp2_with fail
  refine (gI B1 (some ⟨x1,0,none⟩) 3 e1 3 [1,0,0] X1 rfl (b3.out _ aS.out) bo.out (by decide)).mono ?_
  rintro _ uc ⟨rfl,hb⟩
  have aV:Hid (Below W8.heap.size W8 uc):=bt aT.out hb
  clear hb a8 bT bo aS
  go_wp2_with fail
  refine (tR (some ⟨b7,0,none⟩) 2 uc (ac.out _ aV.out).1 (ac.out _ aV.out).2.2.1).mono ?_
  rintro _ ud ⟨B2,e2,rfl,ap,hb⟩
  have b8:Hid (Below W8.heap.size W8 ud):=bt aV.out hb
  have b9:Hid (∀ u,Below ud.heap.size ud u->IRow u B2 [0,1]):=fun u h=>Rg.ag ap h
  clear hb ap
  obtain⟨X2,a9⟩:=ex (ud.alloc (.cells #[.int .i64 0,.int .i64 1] 3))
  obtain⟨x2,bU⟩:=ex ud.heap.size
  have aW:Hid (Below ud.heap.size ud X2):=aa a9
  have bp:Hid (IRow X2 (some ⟨x2,0,none⟩) [0,1]):=by show IRow _ _ _;rw[<-a9];exact Rg.aG fitsI _ _ _ _ rfl bU
  have aX:Hid (Below W8.heap.size W8 X2):=bt b8.out aW.out
  go_wp2_with fail
  refine (gI B2 (some ⟨x2,0,none⟩) 2 e2 2 [0,1] X2 rfl (b9.out _ aW.out) bp.out (by decide)).mono ?_
  rintro _ ue ⟨rfl,hb⟩
  have ca:Hid (Below W8.heap.size W8 ue):=bt aX.out hb
  clear hb a9 bU bp aW
  obtain⟨X3,ba⟩:=ex (ue.alloc (.cells #[.int .i64 0,.int .i64 1,.int .i64 0,.int .i64 1,.int .i64 1] 3))
  obtain⟨x3,bV⟩:=ex ue.heap.size
  have bq:Hid (Below ue.heap.size ue X3):=aa ba
  have br:Hid (IRow X3 (some ⟨x3,0,none⟩) [0,1,0,1,1]):=by show IRow _ _ _;rw[<-ba];exact Rg.aG fitsI _ _ _ _ rfl bV
  have an:Hid (Below W8.heap.size W8 X3):=bt ca.out bq.out
  go_wp2_with fail
  refine (gI A5 (some ⟨x3,0,none⟩) 5 a5 5 [0,1,0,1,1] X3 rfl (ac.out _ an.out).2.2.2.2.1 br.out (by decide)).mono ?_
  rintro _ uf ⟨rfl,hb⟩
  have cb:Hid (Below W8.heap.size W8 uf):=bt an.out hb
  clear hb ba bV br bq
  obtain⟨X4,bb⟩:=ex (uf.alloc (.cells #[.int .i64 0,.int .i64 1,.int .i64 1,.int .i64 0,.int .i64 0] 3))
  obtain⟨x4,bW⟩:=ex uf.heap.size
  have bs:Hid (Below uf.heap.size uf X4):=aa bb
  have bu:Hid (IRow X4 (some ⟨x4,0,none⟩) [0,1,1,0,0]):=by show IRow _ _ _;rw[<-bb];exact Rg.aG fitsI _ _ _ _ rfl bW
  have ao:Hid (Below W8.heap.size W8 X4):=bt cb.out bs.out
  go_wp2_with fail
  refine (gI A6 (some ⟨x4,0,none⟩) 5 a6 5 [0,1,1,0,0] X4 rfl (ac.out _ ao.out).2.2.2.2.2 bu.out (by decide)).mono ?_
  rintro _ ug ⟨rfl,hb⟩
  have ai:Hid (Below W8.heap.size W8 ug):=bt ao.out hb
  clear hb bb bW bu bs
  have q1:cmpL [0,1,0,1,1] [0,1,1,0,0] = -1:=l8.1
  have q2:cmpL [0,1,0,1,1] [0,1,0,1,1]=0:=l8.2.1
  have q3:cmpL [1] [1,0] = -1:=l8.2.2
  have Q1:=zh q1
  have Q2:=zh q2
  have Q3:=zh q3
  clear q1 q2 q3
  go_wp2_with fail
  refine (aH A5 A6 5 5 a5 a6 _ _ ug rfl rfl (ac.out _ ai.out).2.2.2.2.1 (ac.out _ ai.out).2.2.2.2.2 (by decide)).mono ?_
  rintro _ uh ⟨rfl,rfl⟩
  rw[Q1.out]
  go_wp2_with fail
  refine (aH A5 A5 5 5 a5 a5 _ _ ug rfl rfl (ac.out _ ai.out).2.2.2.2.1 (ac.out _ ai.out).2.2.2.2.1 (by decide)).mono ?_
  rintro _ uh ⟨rfl,rfl⟩
  rw[Q2.out]
  obtain⟨X5,bc⟩:=ex (ug.alloc (.cells #[.int .i64 1] 3))
  obtain⟨x5,bY⟩:=ex ug.heap.size
  have cc:Hid (Below ug.heap.size ug X5):=aa bc
  have cd:Hid (IRow X5 (some ⟨x5,0,none⟩) [1]):=by show IRow _ _ _;rw[<-bc];exact Rg.aG fitsI _ _ _ _ rfl bY
  obtain⟨X6,bd⟩:=ex (X5.alloc (.cells #[.int .i64 1,.int .i64 0] 3))
  obtain⟨x6,bZ⟩:=ex X5.heap.size
  have bv:Hid (Below X5.heap.size X5 X6):=aa bd
  have ce:Hid (IRow X6 (some ⟨x6,0,none⟩) [1,0]):=by show IRow _ _ _;rw[<-bd];exact Rg.aG fitsI _ _ _ _ rfl bZ
  have aY:Hid (Below W8.heap.size W8 X6):=ai.out.trans ((bt cc.out bv.out).mono ai.out.size)
  go_wp2_with fail
  refine (aH (some ⟨x5,0,none⟩) (some ⟨x6,0,none⟩) 1 2 1 2 [1] [1,0] X6 rfl rfl (Rg.ag cd.out bv.out) ce.out (by decide)).mono ?_
  rintro _ uh ⟨rfl,rfl⟩
  rw[Q3.out]
  clear bc bd bY bZ
  go_wp2_with fail
  go_ret
  exact⟨rfl,bt b1.out aY.out⟩
end
section
open Go.RowKit Go.ChangeShapes
theorem errStar:"*errors.errorString" = "*"++"errors.errorString" := by decide
theorem errRow (u:TypeId)(h:Tryz.prog.typeName? 3 u=some "*errors.errorString"):u=370 :=
 typeName_ptr_named (nm := "errors.errorString") (by rw[<-errStar]; kernel_rfl) (by kernel_rfl) (by decide) u (by rw[<-errStar]; exact h)
theorem v9 {W:World}(hm:MaxOk W)(h:laidMet Tryz.prog [("math/bits.deBruijn32tab", Rows.laid_math_bits_deBruijn32tab), ("math/bits.deBruijn64tab", Rows.laid_math_bits_deBruijn64tab), ("internal/strconv.uint64pow10", Rows.laid_internal_strconv_uint64pow10), ("unicode/utf8.acceptRanges", Rows.laid_unicode_utf8_acceptRanges), ("strconv.ErrRange", Rows.laid_strconv_ErrRange), ("strconv.ErrSyntax", Rows.laid_strconv_ErrSyntax), ("unicode/utf8.first", Rows.laid_unicode_utf8_first)] W):KOk W := by
 refine⟨hm,?_,?_,?_⟩
 ·exact Lib.tabIs_of_head (k:=.u64) (zs:=Lib.pow10Tab) (n:=20) (g:=3) (t:=330) (by kernel_rfl) (by kernel_rfl) (show Tryz.prog.underlying _=some (.array 20 63) by kernel_rfl) Tryz.underlying63 (by kernel_rfl) (by kernel_rfl) h.tail.tail
 ·exact Lib.tabIs_of_head (k:=.u8) (zs:=Lib.deBruijn64tab.map Int.ofNat) (n:=64) (g:=2) (t:=298) (by kernel_rfl) (by kernel_rfl) (show Tryz.prog.underlying _=some (.array 64 5) by kernel_rfl) Tryz.underlying5 (by kernel_rfl) (by kernel_rfl) h.tail
 ·obtain⟨a,s,hv,_⟩:=laid_sentinel h.tail.tail.tail.tail (g:=8) (ti:=175) (tp:=370) (te:=372) (ts:=9) (by kernel_rfl) (by kernel_rfl) Tryz.underlying175 errRow Tryz.underlying370 Tryz.underlying372 rfl rfl Tryz.underlying9 (by kernel_rfl) (by kernel_rfl)
  exact⟨_,_,hv⟩
end
end Go.Proofs.YtgnaiidgjmicaaaGreatDoor

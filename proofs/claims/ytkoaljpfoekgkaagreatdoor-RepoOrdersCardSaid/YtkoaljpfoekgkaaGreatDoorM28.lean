/- Part 28 of what the laws lean on. -/
import Derived.Test.YtkoaljpfoekgkaaGreatDoorM27
import Derived.Stop.LaidErr
import Derived.LaidMore
set_option maxRecDepth 100000
set_option maxHeartbeats 12800000
namespace Go.Proofs.YtkoaljpfoekgkaaGreatDoor
section
open Go.RowKit Rs At Pg Rp
attribute [local go_sem ↓] Go.wp_at_zero Go.wp_at_succ
attribute [local go_sem] Pg.av
theorem Rp.vn {w:World}{A:Option Addr}{l:List Int}(h:IRow w A l)(k:Nat)(hk:k<l.length):∃ ad x,A=some ad/\l[k]=x/\ad.block<w.heap.size/\w.cell? (ad.add k)=some (.int .i64 x):=by
 obtain⟨ad,x,h1,h2,h3,h4⟩:=Rg.bO h k hk
 refine⟨ad,x,h1,h2,h3,?_⟩
 have:=h4 0 (.int .i64 x) rfl
 rwa [if_pos rfl,Nat.mul_one] at this
theorem Rp.iJ {w w':World}{A:Option Addr}{l:List Int}(h:IRow w A l)(hb:Below w.heap.size w w'):IRow w' A l:=Rg.ah h hb
theorem tZ (A B:Option Addr)(n m c d:Nat)(l k:List Int)(w:World)(hn:l.length=n)(hm:k.length=m)(hr:IRow w A l)(hq:IRow w B k)(hl:n<=1000000) :
  Calls Tryz.prog 21 #[.slice A n c,.slice B m d] w fun e w'=>e=.returned (.bool (decide (l=k)))/\Below w.heap.size w w':=by
 obtain⟨X,hX⟩:=ex (decide (l=k))
 rw[hX]
 have HX:=zh hX
 have HR:=zh hr
 have HQ:=zh hq
 have HN:=zh hn
 have HM:=zh hm
 clear hX hr hq hn hm
 by_cases hlen:n=m
 ·have hd:((n:Int) != m)=false:=by rw[hlen];simp
  have HL:=zh hlen
  clear hlen
  go_enter Tryz.func21,Tryz.ntmps21
  go_wp2_with fail
  clear hd
  go_loopw [5] (fun i wr=>∃ j:Nat,j<=n/\i=.int .i64 j/\Hid (l.take j=k.take j)/\Hid (Below w.heap.size w wr)) (fun i _=>n-(intOf i).toNat)
  case atStart=>exact⟨0,Nat.zero_le _,rfl,rfl,Below.refl _ _⟩
  case round =>
   obtain⟨j,hj,rfl,HT,HW⟩:=hrel
   by_cases ag:j<n
   ·have ab:j<m:=by have:=HL.out;omega
    have h1:j<l.length:=by rw[HN.out];exact ag
    have h2:j<k.length:=by rw[HM.out];exact ab
    obtain⟨ad,x,rfl,hx,hs,hc⟩:=vn (iJ HR.out HW.out) j h1
    obtain⟨ae,y,rfl,hy,ht,he⟩:=vn (iJ HQ.out HW.out) j h2
    have ac:Hid (x=y->l.take (j+1)=k.take (j+1)):=fun q=>by
     rw[List.take_succ_eq_append_getElem h1,List.take_succ_eq_append_getElem h2,HT.out,hx,hy,q]
    have af:Hid (x≠y->X=false):=fun q=>by
     rw[<-HX.out];exact decide_eq_false fun h=>q (by subst h;exact hx.symm.trans hy)
    have j0:(0:Int)<=(j:Int):=by omega
    have j1:(j:Int)<(n:Int):=by omega
    have j2:(j:Int)<(m:Int):=by omega
    clear hx hy hs ht h1 h2
    cases aa:x==y
    ·have ah:(x != y)=true:=by show (!(x==y))=true;rw[aa];rfl
     have HF:Hid (X=false):=af.out fun q=>by rw[q] at aa;simp at aa
     clear ac af
     go_wp2_with fail
     first | (go_quiet (fail)) | fail
     go_wp2_with fail
     go_ret
     exact⟨by rw[HF.out];rfl,below_drewN HW.out _⟩
    ·have ah:(x != y)=false:=by show (!(x==y))=false;rw[aa];rfl
     have ai:Hid (l.take (j+1)=k.take (j+1)):=ac.out (by simpa using aa)
     clear ac af
     go_wp2_with fail
     first | (go_quiet (fail)) | fail
     go_wp2_with fail
     go_roundw
     case rel=>exact⟨j+1,by omega,by go_num,ai,below_drewN HW.out _⟩
     case measure=>simp[intOf];omega
   ·have HF:Hid (X=true):=by
     show _=_
     rw[<-HX.out]
     refine decide_eq_true ?_
     have:=HT.out
     rwa [List.take_of_length_le (by rw[HN.out];omega),List.take_of_length_le (by rw[HM.out];have:=HL.out;omega)] at this
    go_wp2_with fail
    go_ret
    exact⟨by rw[HF.out];rfl,HW.out⟩
 ·have hd:((n:Int) != m)=true:=by
   show (!((n:Int)==m))=true
   have:((n:Int)==m)=false:=by simp;omega
   rw[this];rfl
  have HF:Hid (X=false):=by
   show _=_
   rw[<-HX.out]
   exact decide_eq_false fun h=>hlen (by rw[<-HN.out,<-HM.out,h])
  clear hlen
  go_enter Tryz.func21,Tryz.ntmps21
  go_wp2_with fail
  go_ret
  exact⟨by rw[HF.out];rfl,Below.refl _ _⟩
end
section
open Go.RowKit Rs At Pg Rp
attribute [local go_sem ↓] Go.wp_at_zero Go.wp_at_succ
theorem Rp.vo {w:World}{A:Option Addr}{l:List (List UInt8)}(h:Rg.Row encT 1 w A l)(k:Nat)(hk:k<l.length):∃ ad x,A=some ad/\l[k]=x/\ad.block<w.heap.size/\w.cell? (ad.add k)=some (.string ⟨x.toArray⟩):=by
 obtain⟨ad,e,hl,hc⟩:=Sz.cU h k hk
 exact⟨ad,_,e,rfl,hl,hc⟩
theorem ss (A B:Option Addr)(n m c d:Nat)(l k:List (List UInt8))(w:World)(hn:l.length=n)(hm:k.length=m)(hr:Rg.Row encT 1 w A l)(hq:Rg.Row encT 1 w B k)(hl:n<=1000000) :
  Calls Tryz.prog 23 #[.slice A n c,.slice B m d] w fun e w'=>e=.returned (.bool (decide (l=k)))/\Below w.heap.size w w':=by
 obtain⟨X,hX⟩:=ex (decide (l=k))
 rw[hX]
 have HX:=zh hX
 have HR:=zh hr
 have HQ:=zh hq
 have HN:=zh hn
 have HM:=zh hm
 clear hX hr hq hn hm
 by_cases hlen:n=m
 ·have hd:((n:Int) != m)=false:=by rw[hlen];simp
  have HL:=zh hlen
  clear hlen
  go_enter Tryz.func23,Tryz.ntmps23
  go_wp2_with fail
  clear hd
  go_loopw [5] (fun i wr=>∃ j:Nat,j<=n/\i=.int .i64 j/\Hid (l.take j=k.take j)/\Hid (Below w.heap.size w wr)) (fun i _=>n-(intOf i).toNat)
  case atStart=>exact⟨0,Nat.zero_le _,rfl,rfl,Below.refl _ _⟩
  case round =>
   obtain⟨j,hj,rfl,HT,HW⟩:=hrel
   by_cases ag:j<n
   ·have ab:j<m:=by have:=HL.out;omega
    have h1:j<l.length:=by rw[HN.out];exact ag
    have h2:j<k.length:=by rw[HM.out];exact ab
    obtain⟨ad,x,rfl,hx,hs,hc⟩:=vo (Rg.ah HR.out HW.out) j h1
    obtain⟨ae,y,rfl,hy,ht,he⟩:=vo (Rg.ah HQ.out HW.out) j h2
    have ac:Hid (x=y->l.take (j+1)=k.take (j+1)):=fun q=>by
     rw[List.take_succ_eq_append_getElem h1,List.take_succ_eq_append_getElem h2,HT.out,hx,hy,q]
    have af:Hid (x≠y->X=false):=fun q=>by
     rw[<-HX.out];exact decide_eq_false fun h=>q (by subst h;exact hx.symm.trans hy)
    have j0:(0:Int)<=(j:Int):=by omega
    have j1:(j:Int)<(n:Int):=by omega
    have j2:(j:Int)<(m:Int):=by omega
    clear hx hy hs ht h1 h2
    cases aa:x==y
    ·have ai:(x != y)=true:=by show (!(x==y))=true;rw[aa];rfl
     have HF:Hid (X=false):=af.out fun q=>by rw[q] at aa;simp at aa
     clear ac af
     go_wp2_with fail
     first | (go_quiet (fail)) | fail
     go_wp2_with fail
     go_ret
     exact⟨by rw[HF.out];rfl,below_drewN HW.out _⟩
    ·have ai:(x != y)=false:=by show (!(x==y))=false;rw[aa];rfl
     have aj:Hid (l.take (j+1)=k.take (j+1)):=ac.out (by simpa using aa)
     clear ac af
     go_wp2_with fail
     first | (go_quiet (fail)) | fail
     go_wp2_with fail
     go_roundw
     case rel=>exact⟨j+1,by omega,by go_num,aj,below_drewN HW.out _⟩
     case measure=>simp[intOf];omega
   ·have HF:Hid (X=true):=by
     show _=_
     rw[<-HX.out]
     refine decide_eq_true ?_
     have:=HT.out
     rwa [List.take_of_length_le (by rw[HN.out];omega),List.take_of_length_le (by rw[HM.out];have:=HL.out;omega)] at this
    go_wp2_with fail
    go_ret
    exact⟨by rw[HF.out];rfl,HW.out⟩
 ·have hd:((n:Int) != m)=true:=by
   show (!((n:Int)==m))=true
   have:((n:Int)==m)=false:=by simp;omega
   rw[this];rfl
  have HF:Hid (X=false):=by
   show _=_
   rw[<-HX.out]
   exact decide_eq_false fun h=>hlen (by rw[<-HN.out,<-HM.out,h])
  clear hlen
  go_enter Tryz.func23,Tryz.ntmps23
  go_wp2_with fail
  go_ret
  exact⟨by rw[HF.out];rfl,Below.refl _ _⟩
theorem su (w:World):Calls Tryz.prog 22 #[] w fun e w'=>e=.returned (.string ⟨Rp.small7.toArray⟩)/\w=w':=by
 go_enter Tryz.func22,Tryz.ntmps22
 go_wp2_with fail
 go_ret
 exact⟨rfl,rfl⟩
end
section
open Go.RowKit Rs At Pg Rp
attribute [local go_sem ↓] Go.wp_at_zero Go.wp_at_succ
attribute [local go_sem] Pg.av
namespace Rp
theorem abp {w:World}(hk:KOk w):Calls Tryz.prog 9 #[.string ⟨small7.toArray⟩] w fun e w'=>∃ ad c,e=.returned (.tuple #[.slice (some ad) 3 c,.int .i64 0,.int .i64 0])/\RRow w' (some ad) r7/\Below w.heap.size w w' :=
 (cY small7 w hk (sf k7d.1)).mono fun e w' ⟨A,c,he,hr,hb⟩=>by
  rw[k7a] at he hr
  obtain⟨ad,_,_,_,_,_,_,rfl,_⟩:=bn hr 0 (by decide)
  exact⟨ad,c,he,hr,hb⟩
theorem adE {w:World}(hk:KOk w):Calls Tryz.prog 9 #[.string ⟨#[80,97,99,107,97,103,101,58,32,97,10,86,101,114,115,105,111,110,58,32,49,10,10,80,97,99,107,97,103,101,58,32,97,10,86,101,114,115,105,111,110,58,32,48,49,45,48,10]⟩] w fun e w'=>∃ A c,e=.returned (.tuple #[.slice A 0 c,.int .i64 3,.int .i64 6])/\Below w.heap.size w w' :=
 (cY two7 w hk (sf k7d.2.1)).mono fun e w' ⟨A,c,he,hr,hb⟩=>by
  rw[k7b] at he
  exact⟨A,c,he,hb⟩
theorem adF {w:World}(hk:KOk w):Calls Tryz.prog 9 #[.string ⟨#[80,97,99,107,97,103,101,58,32,97,10,86,101,114,115,105,111,110,58,32,49,10,68,101,112,101,110,100,115,58,32,66,10]⟩] w fun e w'=>∃ A c,e=.returned (.tuple #[.slice A 0 c,.int .i64 2,.int .i64 3])/\Below w.heap.size w w' :=
 (cY bad7 w hk (sf k7d.2.2)).mono fun e w' ⟨A,c,he,hr,hb⟩=>by
  rw[k7c] at he
  exact⟨A,c,he,hb⟩
theorem few7:RFew r7:=all7 fun _ h hw=>yz h hw
theorem ver7:∀ p∈r7,Vm.check p.ver=0:=all7 fun _ h _=>fp h
theorem name7:∀ p∈r7,p.name.length<=1000000:=all7 fun _ h hw=>Nat.le_trans (jw h hw).1 (by decide)
theorem may7:∀ p∈r7,Vm.check p.ver=0/\(∀ g∈p.prov,g.ver=[]\/Vm.check g.ver=0)/\p.prov.length<=1000000:=all7 fun p h hw=>⟨fp h,(kn h).2,Nat.le_trans (jw h hw).2.2.2.2.2.2.2.2.1 (by decide)⟩
theorem abq {w:World}(hk:KOk w)(A:Option Addr)(c:Nat)(hr:RRow w A r7):Calls Tryz.prog 12 #[.slice A 3 c] w fun e w'=>e=.returned (.tuple #[.string ⟨#[80,97,99,107,97,103,101,58,32,97,112,112,10,86,101,114,115,105,111,110,58,32,49,10,10,80,97,99,107,97,103,101,58,32,97,112,112,10,86,101,114,115,105,111,110,58,32,50,10,68,101,112,101,110,100,115,58,32,108,105,98,32,40,62,61,32,50,41,10,10,80,97,99,107,97,103,101,58,32,108,105,98,10,86,101,114,115,105,111,110,58,32,49,10]⟩,.int .i64 0])/\Below w.heap.size w w' :=
 (pA A 3 c r7 w hk rfl hr few7 (fun _=>⟨all7 fun p h hw=>jw h hw,k7m⟩)).mono fun e w' ⟨he,hb⟩=>by
  rw[k7e] at he
  exact⟨he,hb⟩
theorem vp {w:World}(hw:MaxOk w)(A:Option Addr)(c:Nat)(hr:RRow w A r7)(nm v:List UInt8){i:Int}{b:Bool}(h:findR nm v r7=(i,b)):Calls Tryz.prog 10 #[.slice A 3 c,.string ⟨nm.toArray⟩,.string ⟨v.toArray⟩] w fun e w'=>e=.returned (.tuple #[.int .i64 i,.bool b])/\Below w.heap.size w w' :=
 (jF A 3 c r7 nm v w hw rfl hr (by decide) ver7).mono fun e w' ⟨he,hb⟩=>by
  rw[h] at he
  exact⟨he,hb⟩
theorem abr {w:World}(hw:MaxOk w)(A:Option Addr)(c:Nat)(hr:RRow w A [p72,p71]):Calls Tryz.prog 11 #[.slice A 2 c] w fun e w'=>e=.returned (.tuple #[.int .i64 1,.int .i64 7])/\Below w.heap.size w w' :=
 (pw A 2 c [p72,p71] w hw rfl hr (fun p hp=>by
  refine few7 p ?_
  rcases List.mem_cons.1 hp with rfl | hp
  ·exact List.mem_cons_of_mem _ List.mem_cons_self
  ·rw[List.mem_singleton.1 hp];exact List.mem_cons_self)).mono fun e w' ⟨he,hb⟩=>by
  rw[k7g.1] at he
  exact⟨he,hb⟩
theorem abt {w:World}(A:Option Addr)(c:Nat)(hr:RRow w A r7):Calls Tryz.prog 14 #[.slice A 3 c] w fun e w'=>∃ B d,e=.returned (.slice B 2 d)/\Rg.Row encT 1 w' B [[97,112,112],[108,105,98]]/\Below w.heap.size w w' :=
 (pD A 3 c r7 w rfl hr (by decide) name7).mono fun e w' ⟨B,d,he,hn,hb⟩=>by
  rw[k7h] at he hn
  exact⟨B,d,he,hn,hb⟩
theorem vq {w w':World}{X:List Int}{e:Ending}(h:NumRet w X e w'):∃ B d,e=.returned (.slice B X.length d)/\IRow w' B X/\Below w.heap.size w w':=by
 obtain⟨v,he,ho,hb⟩:=h
 obtain⟨B,d,hv,hr,_,_⟩:=Rg.aA fitsI ho
 exact⟨B,d,by rw[he,hv],hr,hb⟩
theorem abu {w:World}(A:Option Addr)(c:Nat)(hr:RRow w A r7):Calls Tryz.prog 24 #[.slice A 3 c,.string ⟨[97,112,112].toArray⟩] w fun e w'=>∃ B d,e=.returned (.slice B 2 d)/\IRow w' B [0,1]/\Below w.heap.size w w' :=
 (px A 3 c r7 [97,112,112] w rfl hr (by decide)).mono fun e w' h=>by
  rw[k7i] at h
  exact vq h
theorem wU {w:World}(hw:MaxOk w)(A:Option Addr)(c:Nat)(hr:RRow w A r7)(B:Option Addr)(d:Nat)(hq:SRow w B sp7):Calls Tryz.prog 15 #[.slice A 3 c,.agg #[.string ⟨[108,105,98].toArray⟩,.slice B 1 d]] w fun e w'=>∃ F f,e=.returned (.slice F 0 f)/\Below w.heap.size w w' :=
 (mz A 3 c r7 [108,105,98] B 1 d sp7 w hw rfl hr (by decide) may7 rfl hq (by decide) k7n).mono fun e w' h=>by
  rw[show numF (fun p=>metP p ⟨[108,105,98],sp7⟩) 0 r7=[] from k7j] at h
  obtain⟨F,f,he,_,hb⟩:=vq h
  exact⟨F,f,he,hb⟩
theorem acT {w:World}(A:Option Addr)(c:Nat)(hr:RRow w A r7):Calls Tryz.prog 13 #[.slice A 3 c,.slice A 3 c] w fun e w'=>e=.returned (.bool true)/\Below w.heap.size w w' :=
 (rW A A 3 3 c c r7 r7 w rfl rfl hr hr (by decide) few7 few7).mono fun e w' ⟨he,hb⟩=>by
  rw[k7k] at he
  exact⟨he,hb⟩
theorem abv {w:World}(A B:Option Addr)(c d:Nat)(hr:Rg.Row encT 1 w A [[97,112,112],[108,105,98]])(hq:Rg.Row encT 1 w B [[97,112,112],[108,105,98]]):Calls Tryz.prog 23 #[.slice A 2 c,.slice B 2 d] w fun e w'=>e=.returned (.bool true)/\Below w.heap.size w w' :=
 (ss A B 2 2 c d _ _ w rfl rfl hr hq (by decide)).mono fun e w' ⟨he,hb⟩=>⟨by rw[he];simp,hb⟩
theorem acU {w:World}(A B:Option Addr)(c d:Nat)(hr:IRow w A [0,1])(hq:IRow w B [0,1]):Calls Tryz.prog 21 #[.slice A 2 c,.slice B 2 d] w fun e w'=>e=.returned (.bool true)/\Below w.heap.size w w' :=
 (tZ A B 2 2 c d _ _ w rfl rfl hr hq (by decide)).mono fun e w' ⟨he,hb⟩=>⟨by rw[he];simp,hb⟩
end Rp
theorem wV (w:World)(hk:KOk w):Calls Tryz.prog 7 #[] w fun e w'=>e=.returned (.bool true)/\Below w.heap.size w w':=by
 have HK:=zh hk
 clear hk
 go_enter Tryz.func7,Tryz.ntmps7
 go_wp2_with fail
 refine (su _).mono ?_
 rintro _ z ⟨rfl,rfl⟩
 go_wp2_with fail
 refine (abp HK.out).mono ?_
 rintro _ u1 ⟨ad,c,rfl,hr,hb⟩
 have ak:=zh hb
 have am:=zh hr
 clear hb hr
 go_wp2_with fail
 refine (adE (az HK.out ak.out)).mono ?_
 rintro _ u2 ⟨A2,e2,rfl,hb⟩
 have aH:=zh hb
 clear hb
 go_wp2_with fail
 refine (adF (az (az HK.out ak.out) aH.out)).mono ?_
 rintro _ u3 ⟨A3,e3,rfl,hb⟩
 have ag:Hid (Below u1.heap.size u1 u3):=bt aH.out hb
 clear hb
 obtain⟨ax,D0,d0,C0,c0,G0,g0,ea,aP,aQ,aR,ay⟩:=bn am.out 0 (by decide)
 obtain rfl:ad=ax:=Option.some.inj ea
 obtain⟨ax,D1,d1,C1,c1,G1,g1,eb,aA,aS,aT,aU⟩:=bn am.out 1 (by decide)
 obtain rfl:ad=ax:=Option.some.inj eb
 obtain⟨af,DA,n1,a1,rfl,bf,aV,aC⟩:=fh aA 0 (by decide)
 obtain rfl:(1:Nat)=n1:=bf
 obtain⟨al,CA,n2,cA,rfl,bg,aW,aD⟩:=dJ aV 0 (by decide)
 obtain rfl:(1:Nat)=n2:=bg
 rw[Nat.zero_mul,Rg.add_zero] at ay aD
 rw[Rg.add_zero] at aC
 have a2:Hid (∀ u,Below u1.heap.size u1 u->u.cell? ad=some (.string ⟨#[97,112,112]⟩)/\u.cell? ⟨ad.block,ad.off+1,none⟩=some (.string ⟨#[49]⟩)/\u.cell? ⟨ad.block,ad.off+2,none⟩=some (.slice D0 0 d0)/\u.cell? ⟨ad.block,ad.off+3,none⟩=some (.slice C0 0 c0)/\u.cell? ⟨ad.block,ad.off+4,none⟩=some (.slice G0 0 g0)/\u.cell? ⟨ad.block,ad.off+5,none⟩=some (.float .f64 0)):=ay
 have an:Hid (∀ u,Below u1.heap.size u1 u->u.cell? ⟨ad.block,ad.off+6,none⟩=some (.string ⟨#[97,112,112]⟩)/\u.cell? ⟨ad.block,ad.off+6+1,none⟩=some (.string ⟨#[50]⟩)/\u.cell? ⟨ad.block,ad.off+6+2,none⟩=some (.slice (some af) 1 d1)/\u.cell? ⟨ad.block,ad.off+6+3,none⟩=some (.slice C1 0 c1)/\u.cell? ⟨ad.block,ad.off+6+4,none⟩=some (.slice G1 0 g1)/\u.cell? ⟨ad.block,ad.off+6+5,none⟩=some (.float .f64 0)):=aU
 have aI:Hid (∀ u,Below u1.heap.size u1 u->u.cell? af=some (.slice (some al) 1 a1)):=aC
 have a3:Hid (∀ u,Below u1.heap.size u1 u->u.cell? al=some (.string ⟨#[108,105,98]⟩)/\u.cell? ⟨al.block,al.off+1,none⟩=some (.slice CA 1 cA)):=aD
 have a4:Hid (SRow u1 CA sp7):=aW
 have ao:Hid (Pg.DRow u1 D0 []/\ARow u1 C0 []/\GRow u1 G0 []):=⟨aP,aQ,aR⟩
 have ap:Hid (Pg.DRow u1 (some af) [[at7]]/\ARow u1 C1 []/\GRow u1 G1 []):=⟨aA,aS,aT⟩
 clear ay aU aC aD aW aP aQ aR aA aS aT aV ea eb
 have ai:Hid (∀ u,Below u1.heap.size u1 u->KOk u):=fun u h=>az (az HK.out ak.out) h
 have ac:Hid (∀ u,Below u1.heap.size u1 u->RRow u (some ad) r7):=fun u h=>bH am.out h
 have y1:=(an.out _ ag.out).2.2.1
 have y2:=aI.out _ ag.out
 go_wp2_with fail
 clear y1 y2
 refine (abq (ai.out _ ag.out) (some ad) c (ac.out _ ag.out)).mono ?_
 rintro _ u4 ⟨rfl,hb⟩
 have aq:Hid (Below u1.heap.size u1 u4):=bt ag.out hb
 clear hb
 go_wp2_with fail
 refine (vp (ai.out _ aq.out).1 (some ad) c (ac.out _ aq.out) [97,112,112] [48,50] k7f.1).mono ?_
 rintro _ u5 ⟨rfl,hb⟩
 have ar:Hid (Below u1.heap.size u1 u5):=bt aq.out hb
 clear hb
 go_wp2_with fail
 refine (vp (ai.out _ ar.out).1 (some ad) c (ac.out _ ar.out) [108,105,98] [50] k7f.2).mono ?_
 rintro _ u6 ⟨rfl,hb⟩
 have a5:Hid (Below u1.heap.size u1 u6):=bt ar.out hb
 clear hb
 go_wp2_with fail
 have au:Hid (Below u1.heap.size u1 u6.drew):=a5.out.drew
 obtain⟨b7,aY⟩:=ex u6.heap.size
 obtain⟨W7,aE⟩:=ex (u6.drew.alloc (.cells #[.string ⟨#[97,112,112]⟩,.string ⟨#[50]⟩,.slice (some af) 1 d1,.slice C1 0 c1,.slice G1 0 g1,.float .f64 0,.string ⟨#[97,112,112]⟩,.string ⟨#[49]⟩,.slice D0 0 d0,.slice C0 0 c0,.slice G0 0 g0,.float .f64 0] 39))
 have aa:Hid (Below u1.heap.size u1 W7):=by
  show Below _ _ _
  rw[<-aE]
  exact au.out.alloc au.out.size _
 have a6:Hid (RRow W7 (some ⟨b7,0,none⟩) [p72,p71]):=by
  refine⟨[⟨[97,112,112],[50],(some af,1,d1),(C1,0,c1),(G1,0,g1),0⟩,⟨[97,112,112],[49],(D0,0,d0),(C0,0,c0),(G0,0,g0),0⟩],?_,rfl,fun i d p e1 e2=>?_⟩
  ·rw[<-aE]
   exact Rg.jV fitsP u6.drew 39 _ _ rfl aY
  ·match i with
   | 0=>cases e1;cases e2;exact⟨rfl,rfl,rfl,rfl,rfl,rfl,aX ap.out.1 aa.out,aB ap.out.2.1 aa.out,Rg.ah ap.out.2.2 aa.out⟩
   | 1=>cases e1;cases e2;exact⟨rfl,rfl,rfl,rfl,rfl,rfl,aX ao.out.1 aa.out,aB ao.out.2.1 aa.out,Rg.ah ao.out.2.2 aa.out⟩
   | i+2=>simp at e1
 have a7:=zh (abr (ai.out _ aa.out).1 (some ⟨b7,0,none⟩) 2 a6.out)
 have av:Hid (∀ u,Below u1.heap.size u1 u->(u.cell? ad=some (.string ⟨#[97,112,112]⟩)/\u.cell? ⟨ad.block,ad.off+1,none⟩=some (.string ⟨#[49]⟩)/\u.cell? ⟨ad.block,ad.off+2,none⟩=some (.slice D0 0 d0)/\u.cell? ⟨ad.block,ad.off+3,none⟩=some (.slice C0 0 c0)/\u.cell? ⟨ad.block,ad.off+4,none⟩=some (.slice G0 0 g0)/\u.cell? ⟨ad.block,ad.off+5,none⟩=some (.float .f64 0))/\(u.cell? ⟨ad.block,ad.off+6,none⟩=some (.string ⟨#[97,112,112]⟩)/\u.cell? ⟨ad.block,ad.off+6+1,none⟩=some (.string ⟨#[50]⟩)/\u.cell? ⟨ad.block,ad.off+6+2,none⟩=some (.slice (some af) 1 d1)/\u.cell? ⟨ad.block,ad.off+6+3,none⟩=some (.slice C1 0 c1)/\u.cell? ⟨ad.block,ad.off+6+4,none⟩=some (.slice G1 0 g1)/\u.cell? ⟨ad.block,ad.off+6+5,none⟩=some (.float .f64 0))):=fun u h=>⟨a2.out u h,an.out u h⟩
 go_region_held3 (fun u=>(u.cell? ad=some (.string ⟨#[97,112,112]⟩)/\u.cell? ⟨ad.block,ad.off+1,none⟩=some (.string ⟨#[49]⟩)/\u.cell? ⟨ad.block,ad.off+2,none⟩=some (.slice D0 0 d0)/\u.cell? ⟨ad.block,ad.off+3,none⟩=some (.slice C0 0 c0)/\u.cell? ⟨ad.block,ad.off+4,none⟩=some (.slice G0 0 g0)/\u.cell? ⟨ad.block,ad.off+5,none⟩=some (.float .f64 0))/\(u.cell? ⟨ad.block,ad.off+6,none⟩=some (.string ⟨#[97,112,112]⟩)/\u.cell? ⟨ad.block,ad.off+6+1,none⟩=some (.string ⟨#[50]⟩)/\u.cell? ⟨ad.block,ad.off+6+2,none⟩=some (.slice (some af) 1 d1)/\u.cell? ⟨ad.block,ad.off+6+3,none⟩=some (.slice C1 0 c1)/\u.cell? ⟨ad.block,ad.off+6+4,none⟩=some (.slice G1 0 g1)/\u.cell? ⟨ad.block,ad.off+6+5,none⟩=some (.float .f64 0)))
  (first
   | with_reducible exact av.out _ au.out
   | with_reducible exact av.out _ aa.out
   | with_reducible exact av.out _ aw.out)
  ((go_at_call 11;refine a7.out.mono ?_;rintro _ u8 ⟨rfl,hb⟩;have aw:=zh (bt aa.out hb);clear hb))
 go_wp2_with fail
 clear aE aY
 refine (abt (some ad) c (ac.out _ aw.out)).mono ?_
 rintro _ u9 ⟨N9,n9,rfl,hn,hb⟩
 have a8:Hid (Below u1.heap.size u1 u9):=bt aw.out hb
 obtain⟨Wa,aF⟩:=ex (u9.alloc (.cells #[.string ⟨#[97,112,112]⟩,.string ⟨#[108,105,98]⟩] 9))
 obtain⟨ba,aZ⟩:=ex u9.heap.size
 have aJ:Hid (Below u9.heap.size u9 Wa):=ab aF
 have a9:Hid (Below u1.heap.size u1 Wa):=bt a8.out aJ.out
 have aK:=zh (abv N9 (some ⟨ba,0,none⟩) n9 2 (Rg.ah hn aJ.out) (by rw[<-aF];exact Rg.jV fitsT u9 _ _ _ rfl aZ))
 clear hn hb
 go_wp2_with fail
 clear aF aZ
 refine aK.out.mono ?_
 rintro _ ub ⟨rfl,hb⟩
 have aL:Hid (Below u1.heap.size u1 ub):=bt a9.out hb
 clear hb aK
 go_wp2_with fail
 refine (abu (some ad) c (ac.out _ aL.out)).mono ?_
 rintro _ uc ⟨Nc,nc,rfl,hn,hb⟩
 have bb:Hid (Below u1.heap.size u1 uc):=bt aL.out hb
 obtain⟨Wd,aG⟩:=ex (uc.alloc (.cells #[.int .i64 0,.int .i64 1] 3))
 obtain⟨bd,a0⟩:=ex uc.heap.size
 have aM:Hid (Below uc.heap.size uc Wd):=ab aG
 have bc:Hid (Below u1.heap.size u1 Wd):=bt bb.out aM.out
 have aN:=zh (acU Nc (some ⟨bd,0,none⟩) nc 2 (iJ hn aM.out) (by rw[<-aG];exact Rg.jV fitsI uc _ _ _ rfl a0))
 clear hn hb
 go_wp2_with fail
 clear aG a0
 refine aN.out.mono ?_
 rintro _ ue ⟨rfl,hb⟩
 have ae:Hid (Below u1.heap.size u1 ue):=bt bc.out hb
 clear hb aN
 have y1:=(an.out _ ae.out).2.2.1
 have y2:=aI.out _ ae.out
 obtain⟨y3,y4⟩:=a3.out _ ae.out
 go_wp2_with fail
 refine (wU (ai.out _ ae.out).1 (some ad) c (ac.out _ ae.out) CA cA (aj a4.out ae.out)).mono ?_
 rintro _ uf ⟨F,ff,rfl,hb⟩
 have aO:Hid (Below u1.heap.size u1 uf):=bt ae.out hb
 clear hb y1 y2 y3 y4
 go_wp2_with fail
 refine (acT (some ad) c (ac.out _ aO.out)).mono ?_
 rintro _ ug ⟨rfl,hb⟩
 have be:Hid (Below u1.heap.size u1 ug):=bt aO.out hb
 clear hb
 go_wp2_with fail
 go_ret
 exact⟨rfl,bt ak.out be.out⟩
end
section
open Go.RowKit Rs At Pg Rp
attribute [local go_sem ↓] Go.wp_at_zero Go.wp_at_succ
attribute [local go_sem] Pg.av
namespace Rp
theorem dQ {a b c:List UInt8}(h:a++b=c)(hl:c.length<=100000):∀ W:World,(Op.stringOp .add ⟨a.toArray⟩ ⟨b.toArray⟩).run Tryz.prog W=.ok (.string ⟨c.toArray⟩) W:=fun W=>by
 subst h
 rw[List.length_append] at hl
 rw[run_string_add_sum W ⟨a.toArray⟩ ⟨b.toArray⟩ (by show a.toArray.size+b.toArray.size<=_;rw[List.size_toArray,List.size_toArray];omega),ByteArray.mk_append_mk]
end Rp
end
section
open Go.RowKit Rs At Pg Rp
attribute [local go_sem ↓] Go.wp_at_zero Go.wp_at_succ
attribute [local go_sem] Pg.av
namespace Rp
def encU8 (b:UInt8):List Value:=[.int .u8 b.toNat]
theorem acV {w:World}{A:Option Addr}{l:List UInt8}(h:Rg.Row encU8 1 w A l)(k:Nat)(hk:k<l.length):∃ ad,A=some ad/\∀ u,Below w.heap.size w u->u.cell? (ad.add k)=some (.int .u8 l[k].toNat):=by
 obtain⟨ad,x,e,hx,hl,hc⟩:=Rg.bO h k hk
 subst hx
 have c0:=hc 0 _ rfl
 rw[if_pos rfl,Nat.mul_one] at c0
 exact⟨ad,e,fun u hb=>(hb.cell (da c0)).trans c0⟩
def hasC (L:List Nat):List Value:=(List.range 64).map fun k=>Value.bool (inL L k)
def HasB (b:Nat) (L:List Nat) (w:World):Prop:=w.heap[b]?=some (.cells (hasC L).toArray 24 (0,0))
theorem sw {b:Nat}{L:List Nat}{w:World}(h:HasB b L w){k:Nat}(hk:k<64):w.cell? ⟨b,k,none⟩=some (.bool (inL L k))/\w.frozen? ⟨b,k,none⟩=false:=by
 have h':w.heap[b]?=some (.cells (hasC L).toArray 24 (0,0)):=h
 refine⟨?_,by simp[World.frozen?,h']⟩
 rw[cell_of_row w b k _ _ (0,0) h]
 simp[hasC,hk]
theorem acW {b:Nat}{L:List Nat}{w:World}(h:HasB b L w){k:Nat}(_hk:k<64):HasB b (L++[k]) (w.setCell ⟨b,k,none⟩ (.bool true)):=by
 unfold HasB
 rw[bo h]
 congr 2
 have e:(hasC L).toArray.setIfInBounds k (.bool true)=(hasC (L++[k])).toArray:=by
  rw[List.setIfInBounds_toArray]
  congr 1
  apply List.ext_getElem
  ·simp[hasC]
  ·intro i h1 h2
   have hi:i<64:=by simpa [hasC] using h2
   rw[List.getElem_set]
   by_cases aa:k=i
   ·subst aa
    rw[if_pos rfl]
    simp[hasC,inL]
   ·rw[if_neg aa]
    simp only[hasC,List.getElem_map,List.getElem_range,inL]
    congr 1
    have:(i∈L++[k])↔i∈L:=by
     rw[List.mem_append,List.mem_singleton]
     exact⟨fun h=>h.elim id (fun e=>absurd e.symm aa),Or.inl⟩
    simp only[this]
 rw[e]
theorem iK {b:Nat}{L:List Nat}{w u:World}(h:HasB b L w)(hb:Below w.heap.size w u):HasB b L u:=(hb.block b (block_lt h)).trans h
theorem acX {w W:World}(h:w.alloc (.cells (#[.bool false,.bool false,.bool false,.bool false,.bool false,.bool false,.bool false,.bool false,.bool false,.bool false,.bool false,.bool false,.bool false,.bool false,.bool false,.bool false,.bool false,.bool false,.bool false,.bool false,.bool false,.bool false,.bool false,.bool false,.bool false,.bool false,.bool false,.bool false,.bool false,.bool false,.bool false,.bool false,.bool false,.bool false,.bool false,.bool false,.bool false,.bool false,.bool false,.bool false,.bool false,.bool false,.bool false,.bool false,.bool false,.bool false,.bool false,.bool false,.bool false,.bool false,.bool false,.bool false,.bool false,.bool false,.bool false,.bool false,.bool false,.bool false,.bool false,.bool false,.bool false,.bool false,.bool false,.bool false]:Array Value) 24)=W):HasB w.heap.size [] W:=by
 unfold HasB
 rw[<-h,show (hasC []).toArray=(#[.bool false,.bool false,.bool false,.bool false,.bool false,.bool false,.bool false,.bool false,.bool false,.bool false,.bool false,.bool false,.bool false,.bool false,.bool false,.bool false,.bool false,.bool false,.bool false,.bool false,.bool false,.bool false,.bool false,.bool false,.bool false,.bool false,.bool false,.bool false,.bool false,.bool false,.bool false,.bool false,.bool false,.bool false,.bool false,.bool false,.bool false,.bool false,.bool false,.bool false,.bool false,.bool false,.bool false,.bool false,.bool false,.bool false,.bool false,.bool false,.bool false,.bool false,.bool false,.bool false,.bool false,.bool false,.bool false,.bool false,.bool false,.bool false,.bool false,.bool false,.bool false,.bool false,.bool false,.bool false]:Array Value) from by rfl]
 exact heap_alloc_new w _
def One7 (b x:Nat) (W:World):Prop:=W.cell? ⟨b,0,none⟩=some (.int .u8 x)
theorem eO {b x:Nat}(hx:x<256)(W:World)(h0:W.cell? ⟨b,0,none⟩=some (.int .u8 x)):(convert 22 9 (.slice (some ⟨b,0,none⟩) 1 1)).run Tryz.prog W=.ok (.string ⟨[UInt8.ofNat x].toArray⟩) W:=by
 refine run_convert_bytes_back (P:=Tryz.prog) _ _ _ _ _ 1 [UInt8.ofNat x] Tryz.underlying22 Tryz.underlying5 Tryz.underlying9 fun j hj=>?_
 have e1:((UInt8.ofNat x).toNat:Int)=(x:Int):=by rw[UInt8.toNat_ofNat'];omega
 match j,hj with
 | 0,_ =>
  show W.cell? ⟨b,0,none⟩=some (.int .u8 ((UInt8.ofNat x).toNat:Int))
  rw[e1];exact h0
theorem dR (x:Nat)(u:World):One7 u.heap.size x (u.alloc (.cells #[.int .u8 x] 5)).drew:=by
 have h:(u.alloc (.cells #[.int .u8 x] 5)).drew.heap[u.heap.size]?=some (.cells #[.int .u8 x] 5 (0,0)):=heap_alloc_new u _
 unfold One7
 simp only[World.cell?,h]
 rfl
theorem ei (x:Nat)(u:World):One7 u.heap.size x (u.alloc (.cells #[.int .u8 x] 5)):=dR x u
theorem mF {b x:Nat}{u v:World}(h:One7 b x u)(hb:Below u.heap.size u v):One7 b x v:=by
 have hl:=World.block_lt_of_cell? u _ h
 exact (hb.cell hl).trans h
end Rp
theorem j3 (A:Option Addr)(n c:Nat)(ls:List UInt8)(w:World)(hk:KOk w)(hn:ls.length=n)(hr:Rg.Row encU8 1 w A ls) :
  Calls Tryz.prog 3 #[.slice A n c] w fun e w'=>e=.returned (.bool true)/\Below w.heap.size w w':=by
 have a2:=zh (wV w hk)
 have HK:=zh hk
 have HN:=zh hn
 have HR:=zh hr
 clear hk hn hr
 go_enter Tryz.func3,Tryz.ntmps3
 go_wp2_with fail
 refine a2.out.mono ?_
 rintro _ z ⟨rfl,hb⟩
 have HB:=zh hb
 clear hb a2
 by_cases a3:40<n
 ·have d0:decide ((40:Int)<(n:Int))=true:=decide_eq_true (by omega)
  clear a3
  go_wp2_with fail
  go_ret
  exact⟨rfl,HB.out⟩
 have d0:decide ((40:Int)<(n:Int))=false:=decide_eq_false (by omega)
 have bu:n<=40:=by omega
 obtain⟨V,hV⟩:=ex (z.alloc (.cells (#[.bool false,.bool false,.bool false,.bool false,.bool false,.bool false,.bool false,.bool false,.bool false,.bool false,.bool false,.bool false,.bool false,.bool false,.bool false,.bool false,.bool false,.bool false,.bool false,.bool false,.bool false,.bool false,.bool false,.bool false,.bool false,.bool false,.bool false,.bool false,.bool false,.bool false,.bool false,.bool false,.bool false,.bool false,.bool false,.bool false,.bool false,.bool false,.bool false,.bool false,.bool false,.bool false,.bool false,.bool false,.bool false,.bool false,.bool false,.bool false,.bool false,.bool false,.bool false,.bool false,.bool false,.bool false,.bool false,.bool false,.bool false,.bool false,.bool false,.bool false,.bool false,.bool false,.bool false,.bool false]:Array Value) 24))
 have HV:Hid (Below z.heap.size z V):=ab hV
 obtain⟨b3,bk⟩:=ex z.heap.size
 have bv:Hid (HasB b3 [] V):=by rw[<-bk];exact acX hV
 have bw:Hid (z.heap.size<=b3):=by show _<=_;omega
 clear a3
 go_wp2_with fail
 clear hV bk d0
 go_loopw [4,5,6] (fun s m i wr=>∃ (k:Nat) (L:List Nat),k<=n/\i=.int .i64 k/\s=.string ⟨(oT L).toArray⟩/\m=.int .i64 (L.length:Nat)/\Hid (Seen L)/\Hid (L.length<=k)/\Hid (HasB b3 L wr)/\Hid (Below z.heap.size z wr)) (fun _ _ i _=>n-(intOf i).toNat)
 case atStart=>exact⟨0,[],Nat.zero_le _,rfl,rfl,rfl,abm,Nat.le_refl _,bv.out,HV.out⟩
 case round =>
  obtain⟨i,L,hi,rfl,rfl,rfl,HS,HL,HH,HZ⟩:=hrel
  by_cases al:i<n
  ·have HI:=zh al
   have aK:i<ls.length:=by rw[HN.out];exact al
   obtain⟨ad,rfl,hc⟩:=acV HR.out i aK
   have c0:=hc wr (bt HB.out HZ.out)
   obtain⟨x,hx⟩:=ex (ls[i].toNat)
   have aQ:x<256:=by rw[<-hx];exact ls[i].toNat_lt
   rw[hx] at c0
   obtain⟨k,a0⟩:=ex (x % 64)
   have ap:k<64:=by omega
   have r1:(x:Int) % 64=(k:Int):=by omega
   have r2:(x:Int).tmod 64=(k:Int):=by rw[Int.tmod_eq_emod_of_nonneg (Int.natCast_nonneg _)];exact r1
   have w8:IntKind.u8.wrap (k:Int)=(k:Int):=by rw[IntKind.wrap_u8];omega
   have bD:IntKind.i64.wrap (k:Int)=(k:Int):=IntWalk.i64_in _ (by omega)
   have k0:(0:Int)<=(k:Int):=by omega
   have k1:(k:Int)<64:=by omega
   obtain⟨h0,h1⟩:=sw HH.out ap
   cases af:inL L k with
   | true =>
    rw[af] at h0
    have aC:Hid (L.length<=i+1):=Nat.le_succ_of_le HL.out
    clear hc hx aQ a0 aK af
    go_wp2_with fail
    go_roundw
    case rel=>exact⟨i+1,L,by omega,by go_num,rfl,rfl,HS.out,aC.out,HH.out,HZ.out⟩
    case measure=>simp[intOf];omega
   | false =>
    rw[af] at h0
    have an:k ∉ L:=of_decide_eq_false af
    have aR:=zh (abn HS.out ap an)
    have aC:Hid ((L++[k]).length<=i+1):=by show _<=_;rw[List.length_append];exact Nat.succ_le_succ HL.out
    obtain⟨W1,aO⟩:=ex (wr.setCell ⟨b3,k,none⟩ (.bool true))
    have aL:Hid (HasB b3 (L++[k]) W1):=by rw[<-aO];exact acW HH.out ap
    have aq:Hid (Below z.heap.size z W1):=by show Below _ _ _;rw[<-aO];exact HZ.out.setCell bw.out _
    obtain⟨B,hB⟩:=ex (if L=[] then [] else oT L++[10])
    have ac:oT (L++[k])=B++oneT (oN k):=by
     rw[<-hB]
     by_cases ao:L=[]
     ·subst ao;rw[if_pos rfl];exact ady k
     ·rw[if_neg ao];exact adz ao k
    rw[wS] at ac
    have aS:=sq aR.out.1
    have a4:(L++[k]).length<=40:=by have:=aC.out;omega
    obtain⟨T,hT⟩:=ex (oT (L++[k]))
    rw[hT] at ac aS
    have aD:T.length<=1000:=by omega
    obtain⟨X,hX⟩:=ex (97+k / 8)
    have ae:X<256:=by omega
    obtain⟨qa,aP⟩:=ex (k / 8)
    obtain⟨qb,aA⟩:=ex (k % 8)
    obtain⟨y3,aB⟩:=ex (qb*3)
    have d1:(k:Int) / 8=(qa:Int):=by omega
    have d2:(k:Int).tdiv 8=(qa:Int):=by rw[Int.tdiv_eq_ediv_of_nonneg (Int.natCast_nonneg _)];exact d1
    have d3:(k:Int) % 8=(qb:Int):=by omega
    have d4:(k:Int).tmod 8=(qb:Int):=by rw[Int.tmod_eq_emod_of_nonneg (Int.natCast_nonneg _)];exact d3
    have d5:(qb:Int)*3=(y3:Int):=by omega
    have s1:(97:Int)+(qa:Int)=(X:Int):=by omega
    have wa:IntKind.i64.wrap (qa:Int)=(qa:Int):=IntWalk.i64_in _ (by omega)
    have wb:IntKind.i64.wrap (qb:Int)=(qb:Int):=IntWalk.i64_in _ (by omega)
    have wy:IntKind.i64.wrap (y3:Int)=(y3:Int):=IntWalk.i64_in _ (by omega)
    have wu:IntKind.u64.wrap (y3:Int)=(y3:Int):=by rw[IntKind.wrap_u64];omega
    have wX:IntKind.i64.wrap (X:Int)=(X:Int):=IntWalk.i64_in _ (by omega)
    have vX:IntKind.u8.wrap (X:Int)=(X:Int):=by rw[IntKind.wrap_u8];omega
    have am:Hid (∀ W:World,Calls Tryz.prog 8 #[.int .u64 y3] W fun e w'=>e=.returned (.string ⟨(Sz.decT y3).toArray⟩)/\Below W.heap.size W w'):=fun W=>Sz.so y3 (by omega) W
    have ar:oV k=Sz.decT y3:=by unfold oV;rw[aA,aB]
    rw[ar,hX] at ac
    obtain⟨D,hD⟩:=ex (Sz.decT y3)
    rw[hD] at am ac
    have aw:=fun u:World=>eO ae _ (ei X u)
    have ax:=fun u:World=>eO ae _ (dR X u)
    have ah:Hid (∀ (b:Nat) {u v:World},One7 b X u->Below u.heap.size u v->(convert 22 9 (.slice (some ⟨b,0,none⟩) 1 1)).run Tryz.prog v=.ok (.string ⟨[UInt8.ofNat X].toArray⟩) v):=fun _ _ _ h hb=>eO ae _ (mF h hb)
    obtain⟨P,hP⟩:=ex ([UInt8.ofNat X])
    rw[hP] at aw ax ah ac
    obtain⟨C1,aG⟩:=ex (B++[80,97,99,107,97,103,101,58,32])
    obtain⟨C2,aH⟩:=ex (C1++P)
    obtain⟨C3,aI⟩:=ex (C2++[10,86,101,114,115,105,111,110,58,32])
    obtain⟨C4,aJ⟩:=ex (C3++D)
    rw[aG,aH,aI,aJ] at ac
    have l5:T.length=C4.length+1:=by rw[ac,List.length_append];rfl
    have l4:C3.length<=C4.length:=by rw[<-aJ,List.length_append];omega
    have l3:C2.length<=C3.length:=by rw[<-aI,List.length_append];omega
    have l2:C1.length<=C2.length:=by rw[<-aH,List.length_append];omega
    have l1:B.length<=C1.length:=by rw[<-aG,List.length_append];omega
    have q1:=dQ aG (by omega)
    have q2:=dQ aH (by omega)
    have q3:=dQ aI (by omega)
    have q4:=dQ aJ (by omega)
    have q5:=dQ ac.symm (by omega)
    have au:Hid (Below W1.heap.size W1 (W1.alloc (.cells #[.int .u8 X] 5)).drew):=((Below.refl _ _).alloc (Nat.le_refl _) _).drew
    have a5:=zh hT
    obtain⟨m,hm⟩:=ex L.length
    have aT:(L++[k]).length=m+1:=by rw[List.length_append,hm];rfl
    have wm:IntKind.i64.wrap ((m:Int)+1)=((m+1:Nat):Int):=by rw[IntKind.wrap_i64];omega
    have aM:=zh aT
    have a6:m<=40:=by omega
    rw[hm]
    by_cases ao:L=[]
    ·subst ao
     have bx:B=[]:=by rw[<-hB,if_pos rfl]
     subst bx
     obtain rfl:m=0:=hm.symm
     rw[adB]
     have ai:Hid (∀ u,Below W1.heap.size W1 u->HasB b3 ([]++[k]) u/\Below z.heap.size z u):=fun u h=>⟨iK aL.out h,bt aq.out h⟩
     clear hc hx aQ a0 aK af an hB ac aS a4 aD hT hX aP aA aB ar hD hP aG aH aI aJ l1 l2 l3 l4 l5 ae hm aT HH HZ HS HL a6
     go_wp2_with fail
     clear aO h0 h1
     go_region_law (first
      | (go_simp;go_at_call 8;refine (am.out _).mono ?_;rintro _ y ⟨rfl,ag⟩;have HY:Hid (Below W1.heap.size W1 y):=(by first | exact bt au.out ag | exact (Below.refl _ _).drew.trans ag);(first | have aj:=ah.out W1.heap.size (dR X W1) ag | have aj:=ah.out W1.heap.size (ei X W1) ag | skip)))
     all_goals
      clear aw ax q1 q2 q3 q4 q5 ah am au
      go_wp2_with fail
      go_roundw
      case rel=>exact⟨i+1,[]++[k],by omega,by go_num,by rw[a5.out],by first | (rw[aM.out];done) | (rw[aM.out];rfl),aR.out,aC.out,(ai.out _ (by first | exact HY.out | exact HY.out.alloc HY.out.size _)).1,(ai.out _ (by first | exact HY.out | exact HY.out.alloc HY.out.size _)).2⟩
      case measure=>simp[intOf];omega
    ·have a7:0<m:=by rw[<-hm];exact List.length_pos_iff.2 ao
     have dm:decide (0<m)=true:=decide_eq_true a7
     rw[if_neg ao] at hB
     obtain⟨T0,bm⟩:=ex (oT L)
     rw[bm] at hB ⊢
     have q0:=dQ hB (by omega)
     have ai:Hid (∀ u,Below W1.heap.size W1 u->HasB b3 (L++[k]) u/\Below z.heap.size z u):=fun u h=>⟨iK aL.out h,bt aq.out h⟩
     clear hc hx aQ a0 aK af an hB ac aS a4 aD hT hX aP aA aB ar hD hP aG aH aI aJ l1 l2 l3 l4 l5 ae hm aT HH HZ HS HL a6 bm ao a7
     go_wp2_with fail
     clear aO h0 h1
     go_region_law (first
      | (go_simp;go_at_call 8;refine (am.out _).mono ?_;rintro _ y ⟨rfl,ag⟩;have HY:Hid (Below W1.heap.size W1 y):=(by first | exact bt au.out ag | exact (Below.refl _ _).drew.trans ag);(first | have aj:=ah.out W1.heap.size (dR X W1) ag | have aj:=ah.out W1.heap.size (ei X W1) ag | skip)))
     all_goals
      clear q0 aw ax q1 q2 q3 q4 q5 ah am au
      go_wp2_with fail
      go_roundw
      case rel=>exact⟨i+1,L++[k],by omega,by go_num,by rw[a5.out],by first | (rw[aM.out];done) | (rw[aM.out];rfl),aR.out,aC.out,(ai.out _ (by first | exact HY.out | exact HY.out.alloc HY.out.size _)).1,(ai.out _ (by first | exact HY.out | exact HY.out.alloc HY.out.size _)).2⟩
      case measure=>simp[intOf];omega
  ·obtain rfl:i=n:=by omega
   have aU:L.length<=40:=by have:=HL.out;omega
   have aN:=zh (abo HS.out (by omega))
   have a8:=zh (acR HS.out (by omega))
   have ay:=zh HS.out.2.2
   have a9:Hid (∀ p∈oS L,Vm.check p.ver=0):=adC
   have ba:Hid (∀ k,k<64->findR (oN k).1 (48 :: oV k) (oS L)=if k∈L then ((below L k:Int),true) else (0,false)):=fun k hk=>acS L hk
   have bb:Hid (∀ k,k<64->k∈L->∃ h:below L k<(oS L).length,(oS L)[below L k]=oP k):=fun k hk hm=>adS L hk hm
   have aV:Hid (below L 64=(oS L).length):=zm L
   obtain⟨m,hm⟩:=ex L.length
   obtain⟨T,hT⟩:=ex (oT L)
   obtain⟨S,hS⟩:=ex (oS L)
   rw[hT] at aN a8 ⊢
   rw[hS] at aN ay a9 ba bb aV
   rw[hm] at ay aU ⊢
   have bc:S.length=m:=ay.out
   rw[bc] at aV
   have aE:Hid (Below w.heap.size w wr):=bt HB.out HZ.out
   clear al hT hS hm bc
   go_wp2_with fail
   refine (cY T wr (az HK.out aE.out) a8.out).mono ?_
   rintro _ u3 ⟨E,d,he,hr,hb⟩
   rw[aN.out,ay.out] at he
   rw[aN.out] at hr
   subst he
   have bd:Hid (Below wr.heap.size wr u3):=hb
   have be:Hid (RRow u3 E S):=hr
   have bz:Hid (HasB b3 L u3):=iK HH.out hb
   have e1:((m:Int)==(m:Int))=true:=by simp
   clear hb hr
   dsimp only
   go_wp2_with fail
   clear e1
   go_loopw [11,12] (fun at' i wr=>∃ k:Nat,k<=64/\i=.int .i64 k/\at'=.int .i64 (below L k:Nat)/\Hid (HasB b3 L wr)/\Hid (Below u3.heap.size u3 wr)) (fun _ i _=>64-(intOf i).toNat)
   case atStart=>exact⟨0,Nat.zero_le _,rfl,rfl,bz.out,Below.refl _ _⟩
   case round =>
    obtain⟨k,hk,rfl,rfl,aL,aq⟩:=hrel
    by_cases al:k<64
    ·have aF:=zh (wT L k)
     have aW:=ba.out k al
     have aX:=bb.out k al
     have aY:=kW k al
     obtain⟨X,hX⟩:=ex (97+k / 8)
     have ae:X<256:=by omega
     obtain⟨qa,aP⟩:=ex (k / 8)
     obtain⟨qb,aA⟩:=ex (k % 8)
     obtain⟨y3,aB⟩:=ex (qb*3)
     have d1:(k:Int) / 8=(qa:Int):=by omega
     have d2:(k:Int).tdiv 8=(qa:Int):=by rw[Int.tdiv_eq_ediv_of_nonneg (Int.natCast_nonneg _)];exact d1
     have d3:(k:Int) % 8=(qb:Int):=by omega
     have d4:(k:Int).tmod 8=(qb:Int):=by rw[Int.tmod_eq_emod_of_nonneg (Int.natCast_nonneg _)];exact d3
     have d5:(qb:Int)*3=(y3:Int):=by omega
     have s1:(97:Int)+(qa:Int)=(X:Int):=by omega
     have wa:IntKind.i64.wrap (qa:Int)=(qa:Int):=IntWalk.i64_in _ (by omega)
     have wb:IntKind.i64.wrap (qb:Int)=(qb:Int):=IntWalk.i64_in _ (by omega)
     have wy:IntKind.i64.wrap (y3:Int)=(y3:Int):=IntWalk.i64_in _ (by omega)
     have wu:IntKind.u64.wrap (y3:Int)=(y3:Int):=by rw[IntKind.wrap_u64];omega
     have wX:IntKind.i64.wrap (X:Int)=(X:Int):=IntWalk.i64_in _ (by omega)
     have vX:IntKind.u8.wrap (X:Int)=(X:Int):=by rw[IntKind.wrap_u8];omega
     have am:Hid (∀ W:World,Calls Tryz.prog 8 #[.int .u64 y3] W fun e w'=>e=.returned (.string ⟨(Sz.decT y3).toArray⟩)/\Below W.heap.size W w'):=fun W=>Sz.so y3 (by omega) W
     have ar:oV k=Sz.decT y3:=by unfold oV;rw[aA,aB]
     obtain⟨D,hD⟩:=ex (Sz.decT y3)
     have aw:=fun u:World=>eO ae _ (ei X u)
     have ax:=fun u:World=>eO ae _ (dR X u)
     have ah:Hid (∀ (b:Nat) {u v:World},One7 b X u->Below u.heap.size u v->(convert 22 9 (.slice (some ⟨b,0,none⟩) 1 1)).run Tryz.prog v=.ok (.string ⟨[UInt8.ofNat X].toArray⟩) v):=fun _ _ _ h hb=>eO ae _ (mF h hb)
     obtain⟨P,hP⟩:=ex ([UInt8.ofNat X])
     have an:oN k=(P,D):=by unfold oN;rw[hX,hP,ar,hD]
     have bf:oV k=D:=by rw[ar,hD]
     have bg:oP k=plainP (P,D):=by unfold oP;rw[an]
     rw[an,bf] at aW
     rw[an] at aY
     rw[bg] at aX
     rw[hP] at aw ax ah
     rw[hD] at am
     have q0:=dQ (a:=[48]) (b:=D) (c:=48 :: D) rfl (by have:=aY.2;rw[List.length_cons];show D.length+1<=_;simp only at this;omega)
     have aZ:Hid (∀ u,Below wr.heap.size wr u->Calls Tryz.prog 10 #[.slice E m d,.string ⟨P.toArray⟩,.string ⟨(48 :: D).toArray⟩] u fun e w'=>e=.returned (.tuple #[.int .i64 (findR P (48 :: D) S).1,.bool (findR P (48 :: D) S).2])/\Below u.heap.size u w'):=fun u h=>by
      have h3:=bt aq.out h
      exact jF E m d S P (48 :: D) u (aa HK.out.1 (aE.out.trans ((bt bd.out h3).mono aE.out.size))) ay.out (bH be.out h3) (by omega) a9.out
     have au:Hid (Below wr.heap.size wr (wr.alloc (.cells #[.int .u8 X] 5)).drew):=((Below.refl _ _).alloc (Nat.le_refl _) _).drew
     have bh:Hid (∀ u,Below wr.heap.size wr u->HasB b3 L u/\RRow u E S/\Below u3.heap.size u3 u):=fun u h=>⟨iK aL.out h,bH be.out (bt aq.out h),bt aq.out h⟩
     rw[aW] at aZ
     have av:=zh aX
     clear hX aP aA aB ar hD hP an bf bg aW aX aY ae
     go_wp2_with fail
     go_region_law (first
      | (go_simp;go_at_call 8;refine (am.out _).mono ?_;rintro _ y ⟨rfl,ag⟩;have HY:Hid (Below wr.heap.size wr y):=(by first | exact bt au.out ag | exact (Below.refl _ _).drew.trans ag);(first | have aj:=ah.out wr.heap.size (dR X wr) ag | have aj:=ah.out wr.heap.size (ei X wr) ag | skip)))
     all_goals
      clear aw ax ah am au
      go_wp2_with fail
      refine (aZ.out _ (by first | exact HY.out | exact HY.out.alloc HY.out.size _)).mono ?_
      rintro _ u4 ⟨rfl,hb⟩
      have bA:Hid (Below wr.heap.size wr u4):=(by first | exact bt HY.out hb | exact (HY.out.alloc HY.out.size _).trans (hb.mono (HY.out.alloc HY.out.size _).size))
      obtain⟨a1,bo,bp⟩:=bh.out u4 bA.out
      obtain⟨h0,h1⟩:=sw a1 al
      have k0:(0:Int)<=(k:Int):=by omega
      have k1:(k:Int)<64:=by omega
      have bB:=zh bo
      have bi:=zh a1
      have bj:=zh bp
      clear hb a1 bo bp aZ bh HY
      by_cases af:k∈L
      ·rw[if_pos af] at aF ⊢
       rw[show inL L k=true from decide_eq_true af] at h0
       obtain⟨bq,br⟩:=av.out af
       obtain⟨ad,xD,bE,xC,bF,xG,bG,rfl,-,-,-,ak⟩:=bn bB.out (below L k) bq
       rw[br] at ak
       obtain⟨bl,bs⟩:=ex (below L k)
       have bC:bl<m:=by have:=ay.out;omega
       obtain⟨c0,c1,-⟩:=ak u4 (Below.refl _ _)
       rw[show (plainP (P,D)).name=P from rfl] at c0
       rw[show (plainP (P,D)).ver=D from rfl] at c1
       rw[bs] at c0 c1 aF ⊢
       have e2:((bl:Int) != (bl:Int))=false:=by simp
       clear br bs ak bq av q0 af
       dsimp only
       go_wp2_with fail
       go_roundw
       case rel=>exact⟨k+1,by omega,by go_num,by rw[aF.out];go_num,bi.out,bj.out⟩
       case measure=>simp[intOf];omega
      ·rw[if_neg af] at aF ⊢
       rw[show inL L k=false from decide_eq_false af] at h0
       clear av q0 af
       dsimp only
       go_wp2_with fail
       go_roundw
       case rel=>exact⟨k+1,by omega,by go_num,by rw[aF.out];rfl,bi.out,bj.out⟩
       case measure=>simp[intOf];omega
    ·obtain rfl:k=64:=by omega
     rw[aV.out]
     have e1:((m:Int)==(m:Int))=true:=by simp
     clear al hk
     go_wp2_with fail
     go_ret
     exact⟨rfl,aE.out.trans ((bt bd.out aq.out).mono aE.out.size)⟩
end
namespace Rp
open Go.ChangeShapes Go.WideShapes Go.RowKit Rs At Pg
theorem ua {H:Type}{enc:TypeId × Value->H}{P:Program}{W:World}{b0:Nat}{t e:TypeId}{v:Value}{d:DataW H}{ps:List MemPlace}
  (ht:P.underlying t=some (.slice e)) (hs:P.underlying e=some (.int .u8)) (ce:P.cellsOf e=1)
  (hval:Value.okWide P W .any b0 t v) (h:DataW.Trod enc P W 0 (fun _=>true) true t v d ps) :
  ∃ (A:Option Addr) (c:Nat) (l:List UInt8),v=.slice A l.length c/\Rg.Row encU8 1 W A l:=by
 obtain⟨a0,l0,k0,rfl⟩:=okWide_slice ht hval
 obtain⟨fuel,hf⟩:=h
 rcases Go.Deep.open_slice ht hf with⟨hcs,_⟩ | ⟨a,len,cap,m,n,D,Pl,hcs,_,hl,_,hmm,hx,hi⟩
 ·simp[Value.cells] at hcs
  obtain⟨rfl,rfl,rfl⟩:=hcs
  exact⟨none,0,[],rfl,fun h=>absurd h (by simp)⟩
 ·simp[Value.cells] at hcs
  obtain⟨rfl,rfl,rfl⟩:=hcs
  simp only[if_true] at hmm
  have each:∀ i,i<l0->∃ s:UInt8,Rg.At encU8 W (a.add (i*1)) s/\(a.add (i*1)).block<W.heap.size:=fun i hil=>by
   obtain⟨ab,hc,ac⟩:=hi i (by omega)
   rw[ce] at hc
   obtain⟨x,e0,_,wx⟩:=DataW.trod_int hs ac
   obtain⟨_,ad,ae⟩:=World.cells?_some hc
   have c0:=(ae 0 (by omega)).trans (show ab[0]?=some (.int .u8 x) by rw[e0];rfl)
   have ci:=da c0
   rw[Rs.add_block] at ci
   have af:0<=x/\x<=255:=by have h:(decide ((0:Int)<=x)&&decide (x<=255))=true:=wx;simpa using h
   refine⟨UInt8.ofNat x.toNat,fun j u hu=>?_,ci⟩
   match j with
   | 0 =>
    have e:((UInt8.ofNat x.toNat).toNat:Int)=x:=by rw[UInt8.toNat_ofNat'];omega
    cases hu;rw[if_pos rfl]
    show _=some (Value.int .u8 ((UInt8.ofNat x.toNat).toNat:Int))
    rw[e];exact c0
   | j+1=>simp[encU8] at hu
  obtain⟨f,aa⟩:=Go.Deep.choose_lt each
  have hlen:((List.range l0).map f).length=l0:=by simp
  refine⟨some a,k0,(List.range l0).map f,by rw[hlen],fun h=>?_⟩
  rw[hlen] at h
  refine⟨a,rfl,?_,fun i hi2=>?_⟩
  ·have:=(aa 0 h).2
   rwa [Rs.add_block] at this
  ·rw[hlen] at hi2
   have:=(aa i hi2).1
   simpa using this
end Rp
section
open Go.RowKit Go.ChangeShapes
theorem errStar:"*errors.errorString" = "*"++"errors.errorString" := by decide
theorem errRow (u:TypeId)(h:Tryz.prog.typeName? 3 u=some "*errors.errorString"):u=326 :=
 typeName_ptr_named (nm := "errors.errorString") (by rw[<-errStar]; kernel_rfl) (by kernel_rfl) (by decide) u (by rw[<-errStar]; exact h)
theorem adG {W:World}(hm:MaxOk W)(h:laidMet Tryz.prog [("math/bits.deBruijn32tab", Rows.laid_math_bits_deBruijn32tab), ("math/bits.deBruijn64tab", Rows.laid_math_bits_deBruijn64tab), ("internal/strconv.uint64pow10", Rows.laid_internal_strconv_uint64pow10), ("unicode/utf8.acceptRanges", Rows.laid_unicode_utf8_acceptRanges), ("strconv.ErrRange", Rows.laid_strconv_ErrRange), ("strconv.ErrSyntax", Rows.laid_strconv_ErrSyntax), ("unicode/utf8.first", Rows.laid_unicode_utf8_first)] W):KOk W := by
 refine⟨hm,?_,?_,?_⟩
 ·exact Lib.tabIs_of_head (k:=.u64) (zs:=Lib.pow10Tab) (n:=20) (g:=3) (t:=286) (by kernel_rfl) (by kernel_rfl) (show Tryz.prog.underlying _=some (.array 20 26) by kernel_rfl) Tryz.underlying26 (by kernel_rfl) (by kernel_rfl) h.tail.tail
 ·exact Lib.tabIs_of_head (k:=.u8) (zs:=Lib.deBruijn64tab.map Int.ofNat) (n:=64) (g:=2) (t:=253) (by kernel_rfl) (by kernel_rfl) (show Tryz.prog.underlying _=some (.array 64 5) by kernel_rfl) Tryz.underlying5 (by kernel_rfl) (by kernel_rfl) h.tail
 ·obtain⟨a,s,hv,_⟩:=laid_sentinel h.tail.tail.tail.tail (g:=8) (ti:=119) (tp:=326) (te:=328) (ts:=9) (by kernel_rfl) (by kernel_rfl) Tryz.underlying119 errRow Tryz.underlying326 Tryz.underlying328 rfl rfl Tryz.underlying9 (by kernel_rfl) (by kernel_rfl)
  exact⟨_,_,hv⟩
end
end Go.Proofs.YtkoaljpfoekgkaaGreatDoor

/- Part 10 of what the laws lean on. -/
import Derived.Test.YtgnaiidgjmicaaaGreatDoorM09
set_option maxRecDepth 100000
set_option maxHeartbeats 1600000
namespace Go.Proofs.YtgnaiidgjmicaaaGreatDoor
section
open Go.RowKit
attribute [local go_sem ↓] Go.wp_at_zero Go.wp_at_succ
theorem me {p:Rm.P Rs.Cut}(h:Rs.Ok2 p):(!(Rs.txt p.lo).isEmpty&&sideI p.lo == -1)=Rs.loI p.lo/\(!(Rs.txt p.hi).isEmpty&&sideI p.hi==1)=Rs.aft p.hi:=by
 obtain⟨lo,hi⟩:=p
 obtain⟨h1,h2⟩:=h
 constructor
 ·cases lo with
  | bot=>rfl
  | top=>exact h1.elim
  | pos v a=>show (!v.isEmpty&&(if a then (1:Int) else -1) == -1) = !a;rw[Rs.aT h1];cases a <;> rfl
 ·cases hi with
  | bot=>exact h2.elim
  | top=>rfl
  | pos v a=>show (!v.isEmpty&&(if a then (1:Int) else -1)==1)=a;rw[Rs.aT h2];cases a <;> rfl
theorem afx {v:List UInt8}(h:Rs.Own v):v.length<=40:=(Vm.cI h.1).1
theorem aax {c:Rs.Cut}(h:Rs.LoOk c\/Rs.HiOk c):(Rs.txt c).length<=281474976710656:=by
 cases c with
 | bot=>simp[Rs.txt]
 | top=>simp[Rs.txt]
 | pos v a =>
  have:Rs.Own v:=by rcases h with h | h <;> exact h
  have:=afx this
  show v.length<=_;omega
theorem xu:∀ (rs:List (Rm.P Rs.Cut)) (k:Nat) (h:k<rs.length),(Rm.cuts rs)[k*2]?=some rs[k].lo/\(Rm.cuts rs)[k*2+1]?=some rs[k].hi
 | [],k,h=>absurd h (by simp)
 | p :: rs,0,_=>⟨rfl,rfl⟩
 | p :: rs,k+1,h=>by
  have:=xu rs k (by simpa using h)
  rw[Rm.fo,show (k+1)*2=k*2+1+1 from by omega]
  exact this
def RangeRet (w:World) (l:List Rs.Sp) (e:Ending) (w':World):Prop:=∃ v,e=.returned v/\POwn w' w.heap.size v l/\Below w.heap.size w w'
theorem y9 (rs:List (Rm.P Rs.Cut))(k:Nat)(h:k<rs.length):(rs.take (k+1)).map Rs.spOf=(rs.take k).map Rs.spOf++[Rs.spOf rs[k]]:=by
 rw[List.take_succ_eq_append_getElem h,List.map_append];rfl
theorem newsS (w:World)(s:Rs.Sp)(T:TypeId):∀ j u,(Rg.flat Rs.spC [s])[j]?=some u->(w.alloc (.cells #[.string ⟨s.lo.toArray⟩,.string ⟨s.hi.toArray⟩,.bool s.li,.bool s.hn] T)).cell? ((⟨w.heap.size,0,none⟩:Addr).add j)=some u :=
 Rg.az w T _ _ (by rfl)
theorem we (p:Rm.P Rs.Cut)(w:World)(h:Rs.Ok2 p) :
  Calls Tryz.prog 333 #[.agg #[.string ⟨(Rs.txt p.lo).toArray⟩,.int .i64 (sideI p.lo)],.agg #[.string ⟨(Rs.txt p.hi).toArray⟩,.int .i64 (sideI p.hi)]] w fun e w'=>e=.returned (.agg #[.string ⟨(Rs.spOf p).lo.toArray⟩,.string ⟨(Rs.spOf p).hi.toArray⟩,.bool (Rs.spOf p).li,.bool (Rs.spOf p).hn])/\Below w.heap.size w w':=by
 have:=y8 (Rs.txt p.lo) (sideI p.lo) (Rs.txt p.hi) (sideI p.hi) w (aax (Or.inl h.1)) (aax (Or.inr h.2))
 rw[(me h).1,(me h).2] at this
 exact this
theorem wg (A:Option Addr)(n c:Nat)(rs:List (Rm.P Rs.Cut))(w:World)(hn:(Rm.cuts rs).length=n)(hr:CRow w A (Rm.cuts rs))(ho:∀ p∈rs,Rs.Ok2 p)(hl:rs.length<=1000) :
  Calls Tryz.prog 321 #[.slice A n c] w (RangeRet w ((rs.take 64).map Rs.spOf)):=by
 have HR:=zh hr
 have HO:=zh ho
 have n1:n<=rs.length*2:=by rw[<-hn,Rm.du];exact Nat.le_refl _
 have n2:rs.length*2<=n:=by rw[<-hn,Rm.du];exact Nat.le_refl _
 obtain⟨R,hR⟩:=ex ((rs.take 64).map Rs.spOf)
 rw[hR]
 have ah:=zh hR
 clear hr ho hn hR
 go_enter Tryz.func321,Tryz.ntmps321
 go_wp2_with fail
 go_loopw [3,4] (fun v i wr=>∃ k j:Nat,k<=rs.length/\k<=64/\j<=k*2/\k*2<=j/\i=.int .i64 j/\Hid (POwn wr w.heap.size v ((rs.take k).map Rs.spOf))/\Hid (Below w.heap.size w wr/\w.heap.size<=wr.heap.size)) (fun _ i _=>n-(intOf i).toNat)
 case atStart=>exact⟨0,0,Nat.zero_le _,Nat.zero_le _,Nat.le_refl _,Nat.le_refl _,rfl,Rg.aB _ _ _,Below.refl _ _,Nat.le_refl _⟩
 case round =>
  obtain⟨k,j,hk,ax,j1,j2,rfl,HP,HB⟩:=hrel
  obtain⟨C,cc,hv,_,_,_⟩:=Rg.aF fitsS HP.out
  rw[show ((rs.take k).map Rs.spOf).length=k from by rw[List.length_map,List.length_take];omega] at hv
  subst hv
  by_cases ab:k<rs.length
  ·by_cases ao:k<64
   ·have ac:=xu rs k ab
    have ai:j<(Rm.cuts rs).length:=by rw[Rm.du];omega
    have aa:j+1<(Rm.cuts rs).length:=by rw[Rm.du];omega
    have ae:j=k*2:=by omega
    obtain⟨ad,x,rfl,hx,ay,af⟩:=Rg.cK (Rg.aj HR.out HB.out.1) j ai
    obtain⟨az,y,al,hy,_,ag⟩:=Rg.cK (Rg.aj HR.out HB.out.1) (j+1) aa
    obtain rfl:=Option.some.inj al
    have ex:x=rs[k].lo:=by
     have:=ac.1;rw[<-ae,List.getElem?_eq_getElem ai,hx] at this;exact Option.some.inj this
    have ey:y=rs[k].hi:=by
     have:=ac.2;rw[<-ae,List.getElem?_eq_getElem aa,hy] at this;exact Option.some.inj this
    rw[ex] at af
    rw[ey] at ag
    have ak:=HO.out _ (List.getElem_mem ab)
    have HT:=zh (y9 rs k ab)
    generalize rs[k]=p at *
    obtain⟨c0,c1⟩:=cutAt af
    obtain⟨d0,d1⟩:=cutAt ag
    clear ac hx hy ex ey af ag al ae
    have HK:=zh ak
    clear ak
    have ap:Stable (fun u=>True/\POwn u w.heap.size (.slice C k cc) ((rs.take k).map Rs.spOf)):=jI (fun _ _ _ _=>trivial) (fun _ _ h hb=>Rg.own_below h hb)
    have HI:Hid (Kp (fun u=>True/\POwn u w.heap.size (.slice C k cc) ((rs.take k).map Rs.spOf)) wr wr.drew):=⟨⟨trivial,Rg.own_below HP.out (Below.refl _ _).drew⟩,Nat.le_refl _,(Below.refl _ _).drew⟩
    have aq:((rs.take k).map Rs.spOf).length+1<=1000000:=by rw[List.length_map,List.length_take];omega
    have s1:IntKind.i64.wrap ((j:Int)+1)=(j:Int)+1:=IntWalk.i64_in _ (by omega)
    have s2:(0:Int)<=(j:Int)+1:=by omega
    have s3:((j:Int)+1).toNat=j+1:=by omega
    have s4:(j:Int)+1<(n:Int):=by omega
    have s5:(j:Int)<(n:Int):=by omega
    have s6:(0:Int)<=(j:Int):=by omega
    go_wp2_with fail
    go_region_law (first
     | (go_simp;go_at_call 333;refine (we p _ HK.out).mono ?_;rintro _ w4 ⟨rfl,hb⟩;have aw:=bg ap hb (by assumption);clear hb)
     | (refine Rg.cH sliceS (by rfl) (.tmp 16) (.tmp 27) (by rfl) w.heap.size (.slice C k cc) ((rs.take k).map Rs.spOf) [Rs.spOf p] (by rfl) (pq (by assumption)) _ _ (by rfl) (newsS _ _ _) (Nat.zero_lt_succ _) aq (mL (by assumption) HB.out.2) ?_;intro v5 W5 am an av;have ar:=tq HB (by assumption) an))
    all_goals
     have au:Hid (POwn W5 w.heap.size v5 ((rs.take (k+1)).map Rs.spOf)):=by show POwn _ _ _ _;rw[HT.out];exact am
     clear am an av s1 s3
     go_wp2_with fail
     go_roundw
     case rel=>exact⟨k+1,j+2,by omega,by omega,by omega,by omega,by go_num,au,ar⟩
     case measure=>simp[intOf];omega
   ·obtain rfl:k=64:=by omega
    have s4:(j:Int)<(n:Int):=by omega
    have HF:Hid (POwn wr w.heap.size (.slice C 64 cc) R):=by show POwn _ _ _ _;rw[<-ah.out];exact HP.out
    go_wp2_with fail
    go_ret
    exact⟨_,rfl,HF.out,HB.out.1⟩
  ·have s4:¬ (j:Int)<(n:Int):=by omega
   have HF:Hid (POwn wr w.heap.size (.slice C k cc) R):=by
    show POwn _ _ _ _
    have:=HP.out
    rw[<-ah.out]
    rw[List.take_of_length_le (by omega)] at this ⊢
    exact this
   clear HP
   go_wp2_with fail
   go_ret
   exact⟨.slice C k cc,rfl,HF.out,HB.out.1⟩
end
section
open Go.RowKit Rs
attribute [local go_sem ↓] Go.wp_at_zero Go.wp_at_succ
theorem kH {r:List (Rm.P Cut)}(h:Rs.Good r):cutsS (r.map spOf)=Rm.cuts r/\(∀ c∈Rm.cuts r,CutG c):=by
 constructor
 ·rw[yY,List.map_map]
  congr 1
  conv=>rhs;rw[<-List.map_id r]
  exact List.map_congr_left fun p hp=>jA (h.2.1 p hp)
 ·intro c hc
  obtain⟨p,hp,hm⟩:=List.mem_flatMap.1 hc
  have:=h.2.1 p hp
  simp only[List.mem_cons,List.not_mem_nil,or_false] at hm
  rcases hm with rfl | rfl
  ·exact pk this.1
  ·exact po this.2
theorem tv {w:World}{C:Option Addr}{l:List Sp}(h:SRow w C l){b j:Nat}(v:Value)(hb:∀ a,C=some a->a.block≠b):SRow (w.setCell ⟨b,j,none⟩ v) C l:=fun h0=>by
 obtain⟨a,e,hl,hc⟩:=h h0
 have hne:=hb a e
 have far:∀ p:Addr,p.block=a.block->(w.setCell ⟨b,j,none⟩ v).cell? p=w.cell? p:=fun p hp=>World.cell?_setCell_far w ⟨b,j,none⟩ p v (fun e=>hne (by rw[<-hp,<-e]))
 refine⟨a,e,by simpa using hl,fun i hi=>?_⟩
 obtain⟨s0,s1,s2,s3⟩:=hc i hi
 refine⟨?_,?_,?_,?_⟩
 ·rw[far _ (by rw[add_block,add_block])];exact s0
 ·rw[far _ (by rw[add_block,add_block])];exact s1
 ·rw[far _ (by rw[add_block,add_block])];exact s2
 ·rw[far _ (by rw[add_block,add_block])];exact s3
def CutsOf (w':World) (r:List (Rm.P Cut)) (A:Option Addr) (c:Nat):Prop:=CRow w' A (Rm.cuts r)/\(Rm.cuts r).length<=c/\c<=maxLen
theorem ij (A:Option Addr)(n c:Nat)(r:List (Rm.P Cut))(w:World)(hn:(r.map spOf).length=n)(hr:SRow w A (r.map spOf))(hg:Rs.Good r) :
  Calls Tryz.prog 323 #[.slice A n c] w fun e w'=>(∃ B d,e=.returned (.slice B (Rm.cuts r).length d)/\CutsOf w' r B d)/\Below w.heap.size w w':=by
 subst hn
 refine (yZ A c _ w hr (by rw[List.length_map];have:=hg.2.2;omega)).mono ?_
 rintro e w' ⟨v,rfl,ho,hb⟩
 rw[(kH hg).1] at ho
 obtain⟨B,d,rfl,h1,h2,h3⟩:=Rg.aF fitsC ho
 exact⟨⟨B,d,rfl,h1,h2,h3⟩,hb⟩
theorem kI {w w':World}{r:List (Rm.P Cut)}{A:Option Addr}{c:Nat}(h:CutsOf w r A c)(hb:Below w.heap.size w w'):CutsOf w' r A c:=⟨Rg.aj h.1 hb,h.2⟩
theorem kJ (f:FuncId)(op:Bool->Bool->Bool)(hop:∀ x y W,Calls Tryz.prog f #[.bool x,.bool y] W fun e w'=>e=.returned (.bool (op x y))/\W=w')(hcf:∀ (args:Array Value) (W:World),(callFunc f args).run Tryz.prog W=.ok (.enter f args) W)(h0:op false false=false)
  (A B:Option Addr) (ca cb:Nat) (a b r:List (Rm.P Cut)) (w:World) (hw:MaxOk w) (ha:CutsOf w a A ca) (hb:CutsOf w b B cb) (ga:Rs.Good a) (gb:Rs.Good b) (hr:Rm.comb Ln op (Rm.cuts a) (Rm.cuts b) false false=Rm.cuts r) :
  Calls Tryz.prog 322 #[.slice A (Rm.cuts a).length ca,.slice B (Rm.cuts b).length cb,.func (.func f) #[] #[]] w fun e w'=>(∃ C d,e=.returned (.slice C (Rm.cuts r).length d)/\CutsOf w' r C d)/\Below w.heap.size w w':=by
 have la:(Rm.cuts a).length<=10000:=by rw[Rm.du];have:=ga.2.2;omega
 have lb:(Rm.cuts b).length<=10000:=by rw[Rm.du];have:=gb.2.2;omega
 refine (wb f op hop hcf h0 A B ca cb _ _ w hw ha.1 hb.1 (kH ga).2 (kH gb).2 la lb ha.2.1 hb.2.1 ha.2.2 hb.2.2).mono ?_
 rintro e w' ⟨v,rfl,ho,aa⟩
 rw[hr] at ho
 obtain⟨C,d,rfl,h1,h2,h3⟩:=Rg.aF fitsC ho
 exact⟨⟨C,d,rfl,h1,h2,h3⟩,aa⟩
def SpansRet (w:World) (l:List Sp) (e:Ending) (w':World):Prop:=(∃ C d,e=.returned (.slice C l.length d)/\SRow w' C l/\l.length<=d/\∀ a,C=some a->w.heap.size<=a.block)/\Below w.heap.size w w'
theorem xv {w:World}{B:Nat}{v:Value}{l:List Sp}(h:POwn w B v l):∃ C d,v=.slice C l.length d/\SRow w C l/\l.length<=d/\∀ a,C=some a->B<=a.block:=by
 obtain⟨C,d,hv,hr⟩:=aci (T:=145) h
 obtain⟨C2,d2,aa,_,h3,_⟩:=Rg.aF fitsS h
 rw[hv] at aa
 cases aa
 exact⟨C,d,hv,hr,h3,fun a ha=>by subst ha;exact (Rg.bw h a.block (by rw[hv];rfl)).1⟩
theorem jJ (A:Option Addr)(c:Nat)(r:List (Rm.P Cut))(w:World)(hr:CutsOf w r A c)(ho:∀ p∈r,Ok2 p)(hl:r.length<=1000)(R:List Sp)(hR:(r.take 64).map spOf=R) :
  Calls Tryz.prog 321 #[.slice A (Rm.cuts r).length c] w (SpansRet w R):=by
 subst hR
 refine (wg A _ c r w rfl hr.1 ho hl).mono ?_
 rintro e w' ⟨v,rfl,hp,hb⟩
 obtain⟨C,d,rfl,h1,h2⟩:=xv hp
 exact⟨⟨C,d,rfl,h1,h2⟩,hb⟩
theorem aep (A B:Option Addr)(n m ca cb:Nat)(a b:List (Rm.P Cut))(w:World)(hw:MaxOk w)(hn:(a.map spOf).length=n)(hm:(b.map spOf).length=m)(ha:SRow w A (a.map spOf))(hb:SRow w B (b.map spOf))(ga:Rs.Good a)(gb:Rs.Good b) :
  Calls Tryz.prog 326 #[.slice A n ca,.slice B m cb] w (SpansRet w ((andR a b).map spOf)):=by
 have HM:=zh hw
 have HA:=zh ha
 have HB:=zh hb
 have HG:=zh ga
 have HH:=zh gb
 have HN:=zh hn
 have ai:=zh hm
 have hl:(Rm.andK Ln a b).length<=1000:=by have:=Rm.ab2 Ln a b;have:=ga.2.2;have:=gb.2.2;omega
 have HL:=zh hl
 clear hw ha hb ga gb hn hm hl
 obtain⟨R,hR⟩:=ex ((andR a b).map spOf)
 rw[hR]
 have HR:=zh hR
 clear hR
 go_enter Tryz.func326,Tryz.ntmps326
 go_wp2_with fail
 refine (ij A n ca a _ HN.out HA.out HG.out).mono ?_
 rintro _ w1 ⟨⟨C,d,rfl,hc⟩,ae⟩
 have HC:=zh hc
 have ab:=zh ae
 clear hc ae
 go_wp2_with fail
 refine (ij B m cb b _ ai.out (ao HB.out ab.out) HH.out).mono ?_
 rintro _ w2 ⟨⟨D,f,rfl,hd⟩,aa⟩
 have HD:=zh hd
 have aj:=zh (kI HC.out aa)
 have ac:=zh (bt ab.out aa)
 clear hd aa
 go_wp2_with fail
 refine (kJ 338 (fun x y=>x&&y) acq (fun _ _=>by kernel_rfl) rfl C D d f a b (Rm.andK Ln a b) _ (ag HM.out ac.out) aj.out HD.out HG.out HH.out (Rm.ab4 Ln HG.out.1 HH.out.1)).mono ?_
 rintro _ w3 ⟨⟨E,g,rfl,he⟩,af⟩
 have HE:=zh he
 have ad:=zh (bt ac.out af)
 clear he af
 go_wp2_with fail
 refine (jJ E g (Rm.andK Ln a b) _ HE.out (xm HG.out.2.1 HH.out.2.1) HL.out R HR.out).mono ?_
 rintro _ w4 ⟨⟨F,i,rfl,hf⟩,ah⟩
 have HF:=zh hf
 have ak:=zh (bt ad.out ah)
 clear hf ah
 go_wp2_with fail
 go_ret
 exact⟨⟨F,i,rfl,HF.out.1,HF.out.2.1,fun a ha=>Nat.le_trans ad.out.size (HF.out.2.2 a ha)⟩,ak.out⟩
theorem afy (A B:Option Addr)(n m ca cb:Nat)(a b:List (Rm.P Cut))(w:World)(hw:MaxOk w)(hn:(a.map spOf).length=n)(hm:(b.map spOf).length=m)(ha:SRow w A (a.map spOf))(hb:SRow w B (b.map spOf))(ga:Rs.Good a)(gb:Rs.Good b) :
  Calls Tryz.prog 311 #[.slice A n ca,.slice B m cb] w (SpansRet w ((orR a b).map spOf)):=by
 have HM:=zh hw
 have HA:=zh ha
 have HB:=zh hb
 have HG:=zh ga
 have HH:=zh gb
 have HN:=zh hn
 have ai:=zh hm
 have hl:(Rm.orK Ln a b).length<=1000:=by have:=lenO ga.1 gb.1;have:=ga.2.2;have:=gb.2.2;omega
 have HL:=zh hl
 clear hw ha hb ga gb hn hm hl
 obtain⟨R,hR⟩:=ex ((orR a b).map spOf)
 rw[hR]
 have HR:=zh hR
 clear hR
 go_enter Tryz.func311,Tryz.ntmps311
 go_wp2_with fail
 refine (ij A n ca a _ HN.out HA.out HG.out).mono ?_
 rintro _ w1 ⟨⟨C,d,rfl,hc⟩,ae⟩
 have HC:=zh hc
 have ab:=zh ae
 clear hc ae
 go_wp2_with fail
 refine (ij B m cb b _ ai.out (ao HB.out ab.out) HH.out).mono ?_
 rintro _ w2 ⟨⟨D,f,rfl,hd⟩,aa⟩
 have HD:=zh hd
 have aj:=zh (kI HC.out aa)
 have ac:=zh (bt ab.out aa)
 clear hd aa
 go_wp2_with fail
 refine (kJ 324 (fun x y=>x||y) yV (fun _ _=>by kernel_rfl) rfl C D d f a b (Rm.orK Ln a b) _ (ag HM.out ac.out) aj.out HD.out HG.out HH.out (Rm.aed Ln HG.out.1 HH.out.1)).mono ?_
 rintro _ w3 ⟨⟨E,g,rfl,he⟩,af⟩
 have HE:=zh he
 have ad:=zh (bt ac.out af)
 clear he af
 go_wp2_with fail
 refine (jJ E g (Rm.orK Ln a b) _ HE.out (aad HG.out.2.1 HH.out.2.1) HL.out R HR.out).mono ?_
 rintro _ w4 ⟨⟨F,i,rfl,hf⟩,ah⟩
 have HF:=zh hf
 have ak:=zh (bt ad.out ah)
 clear hf ah
 go_wp2_with fail
 go_ret
 exact⟨⟨F,i,rfl,HF.out.1,HF.out.2.1,fun a ha=>Nat.le_trans ad.out.size (HF.out.2.2 a ha)⟩,ak.out⟩
theorem xw (w:World):Calls Tryz.prog 136 #[] w (SpansRet w (allR.map spOf)):=by
 go_enter Tryz.func136,Tryz.ntmps136
 go_wp2_with fail
 go_ret
 refine⟨⟨some ⟨w.heap.size,0,none⟩,1,rfl,fun _=>⟨_,rfl,by simp,fun i hi=>?_⟩,Nat.le_refl _,fun a ha=>by cases ha;exact Nat.le_refl _⟩,(Below.refl _ _).alloc (Nat.le_refl _) _⟩
 have aa:i<1:=hi
 obtain rfl:i=0:=by omega
 have e:∀ j,((⟨w.heap.size,0,none⟩:Addr).add (0*4)).add j=⟨w.heap.size,j,none⟩:=fun j=>by
  rw[Nat.zero_mul,Rg.add_zero];unfold Addr.add;split <;> simp_all
 refine⟨?_,?_,?_,?_⟩ <;> (rw[e,World.cell?_alloc_mark];rfl)
end
section
open Go.RowKit Rs
attribute [local go_sem ↓] Go.wp_at_zero Go.wp_at_succ
def inLo (c:Cut) (v:List UInt8):Bool:=match c with | .pos w a=>decide (0<Vm.cmpV v w)||(decide (Vm.cmpV v w=0)&&!a) | _=>true
def inHi (c:Cut) (v:List UInt8):Bool:=match c with | .pos w a=>decide (Vm.cmpV v w<0)||(decide (Vm.cmpV v w=0)&&a) | _=>true
theorem aay {v:List UInt8}(h:Vm.check v=0):v.isEmpty=false:=by
 cases v with
 | nil=>revert h;decide
 | cons a l=>rfl
theorem acx {lo:List UInt8}(li:Bool){v:List UInt8}(hv:Vm.check v=0):decide (cmpVS lo (sLo lo li) v (-1)<=0)=inLo (loC lo li) v:=by
 unfold cmpVS sLo loC endI
 rw[aay hv]
 cases lo.isEmpty
 ·have r:=Vm.cu lo v
  have a:=Vm.eQ.1 lo v
  show decide (Vm.both (Vm.cmpV lo v) (Vm.sgn (if (false||li)=true then -1 else 1) (-1))<=0)=(decide (0<Vm.cmpV v lo)||(decide (Vm.cmpV v lo=0)&&!(!li)))
  rcases (show Vm.cmpV lo v = -1\/Vm.cmpV lo v=0\/Vm.cmpV lo v=1 by omega) with h | h | h <;> rw[h] at a ⊢ <;> rw[a] <;> cases li <;> rfl
 ·rfl
theorem acy {hi:List UInt8}(hn:Bool){v:List UInt8}(hv:Vm.check v=0):decide (cmpVS v 1 hi (sHi hi hn)<=0)=inHi (hiC hi hn) v:=by
 unfold cmpVS sHi hiC endI
 rw[aay hv]
 cases hi.isEmpty
 ·have r:=Vm.cu v hi
  show decide (Vm.both (Vm.cmpV v hi) (Vm.sgn 1 (if (false||hn)=true then 1 else -1))<=0)=(decide (Vm.cmpV v hi<0)||(decide (Vm.cmpV v hi=0)&&hn))
  rcases (show Vm.cmpV v hi = -1\/Vm.cmpV v hi=0\/Vm.cmpV v hi=1 by omega) with h | h | h <;> rw[h] <;> cases hn <;> rfl
 ·rfl
theorem acz (lo hi:List UInt8)(li hn:Bool)(v:List UInt8)(w:World)(hw:MaxOk w)(h1:Rs.bound lo=0)(h2:Rs.bound hi=0)(hv:Vm.check v=0) :
  Calls Tryz.prog 133 #[.agg #[.string ⟨lo.toArray⟩,.string ⟨hi.toArray⟩,.bool li,.bool hn],.string ⟨v.toArray⟩] w fun e w'=>e=.returned (.bool (inS (toP lo hi li hn) v))/\Below w.heap.size w w':=by
 have HM:=zh hw
 have aa:Stable (fun u=>Box u w.heap.size lo hi li hn):=dI _ _ _ _ _
 have HI:Hid (Kp (fun u=>Box u w.heap.size lo hi li hn) w (w.alloc (.cells #[.string ⟨lo.toArray⟩,.string ⟨hi.toArray⟩,.bool li,.bool hn] 145))):=⟨ck ..,by simp,(Below.refl _ _).alloc (Nat.le_refl _) _⟩
 have K1:Hid (lo.isEmpty=false->Vm.check lo=0):=fun h=>(Rs.aV h1 h).1
 have K2:Hid (hi.isEmpty=false->Vm.check hi=0):=fun h=>(Rs.aV h2 h).1
 have KV:Hid (v.isEmpty=false->Vm.check v=0):=fun _=>hv
 have HL:=zh (acx (lo:=lo) li hv)
 have HH:=zh (acy (hi:=hi) hn hv)
 obtain⟨R,hR⟩:=ex (inS (toP lo hi li hn) v)
 rw[hR]
 have HR:Hid (R=(inLo (loC lo li) v&&inHi (hiC hi hn) v)):=hR.symm
 clear hw h1 h2 hv hR
 obtain⟨B1,ae⟩:=ex (inLo (loC lo li) v)
 rw[ae] at HL HR
 clear ae
 go_enter Tryz.func133,Tryz.ntmps133
 go_wp2_with fail
 refine (bQ _ _ _ _ _).mono ?_
 rintro _ w1 ⟨rfl,hb⟩
 have ac:=bg aa hb HI
 clear hb HI
 go_wp2_with fail
 refine (aO _ _ _ _ _ (nO HM ac) K1.out KV.out).mono ?_
 rintro _ w2 ⟨rfl,hb⟩
 have ab:=bg aa hb ac
 clear hb ac
 obtain⟨⟨c0,c1,c2,c3,_⟩,_⟩:=ab.out
 have hl:=HL.out
 cases B1
 ·go_wp2_with fail
  go_ret
  exact⟨by rw[HR.out];rfl,bD ab⟩
 ·go_wp2_with fail
  refine (c9 _ _ _ _ _).mono ?_
  rintro _ w3 ⟨rfl,hb⟩
  have ad:=bg aa hb ab
  clear hb ab c0 c1 c2 c3
  go_wp2_with fail
  refine (aO _ _ _ _ _ (nO HM ad) KV.out K2.out).mono ?_
  rintro _ w4 ⟨rfl,hb⟩
  have af:=bg aa hb ad
  have hh:=HH.out
  clear hb ad hl
  go_wp2_with fail
  go_ret
  exact⟨by rw[HR.out];rfl,bD af⟩
end
section
open Go.RowKit Rs
attribute [local go_sem ↓] Go.wp_at_zero Go.wp_at_succ
theorem acA (lo hi:List UInt8)(li hn:Bool)(b:Nat)(v:List UInt8)(w:World)(hw:MaxOk w)(h1:Rs.bound lo=0)(h2:Rs.bound hi=0)(hv:Vm.check v=0)(hc:w.cell? ⟨b,0,none⟩=some (.string ⟨v.toArray⟩))(hb:b<w.heap.size) :
  Calls Tryz.prog 132 #[.agg #[.string ⟨lo.toArray⟩,.string ⟨hi.toArray⟩,.bool li,.bool hn],.pointer (some ⟨b,0,none⟩)] w fun e w'=>e=.returned (.bool (inS (toP lo hi li hn) v))/\Below w.heap.size w w':=by
 have HM:Hid (MaxOk (w.alloc (.cells #[.string ⟨lo.toArray⟩,.string ⟨hi.toArray⟩,.bool li,.bool hn] 145))):=ag hw ((Below.refl _ _).alloc (Nat.le_refl _) _)
 have H1:=zh h1
 have H2:=zh h2
 have HV:=zh hv
 have aa:b≠w.heap.size:=by omega
 clear hw h1 h2 hv
 go_enter Tryz.func132,Tryz.ntmps132
 go_wp2_with fail
 refine (acz lo hi li hn v _ HM.out H1.out H2.out HV.out).mono ?_
 rintro _ w1 ⟨rfl,hb⟩
 have HB:Hid (Below w.heap.size w w1):=((Below.refl _ _).alloc (Nat.le_refl _) _).trans (hb.mono (by simp))
 clear hb
 go_wp2_with fail
 go_ret
 exact⟨rfl,HB.out⟩
def IdxRet (w:World) (b:Bool) (e:Ending) (w':World):Prop:=(∃ n:Int,e=.returned (.int .i64 n)/\decide (0<=n)=b)/\Below w.heap.size w w'
theorem mf {p:Rm.P Cut}(h:Ok2 p):Rs.bound (spOf p).lo=0/\Rs.bound (spOf p).hi=0/\toP (spOf p).lo (spOf p).hi (spOf p).li (spOf p).hn=p :=
 ⟨gX (Or.inl h.1),gX (Or.inr h.2),jA h⟩
theorem qv {w:World}{A:Option Addr}{r:List (Rm.P Cut)}(h:SRow w A (r.map spOf))(k:Nat)(hk:k<r.length):∃ ad,A=some ad/\ad.block<w.heap.size/\At4 w (ad.add (k*4)) (spOf r[k]).lo (spOf r[k]).hi (spOf r[k]).li (spOf r[k]).hn:=by
 obtain⟨ad,e,hl,hc⟩:=h (by rw[List.length_map];omega)
 have:=hc k (by rw[List.length_map];exact hk)
 rw[List.getElem_map] at this
 exact⟨ad,e,hl,aas this⟩
theorem tA (r:List (Rm.P Cut))(k:Nat)(h:k<r.length)(f:Rm.P Cut->Bool):(r.take (k+1)).any f=((r.take k).any f||f r[k]):=by
 rw[List.take_succ_eq_append_getElem h,List.any_append];simp
theorem xx {r:List (Rm.P Cut)}{k:Nat}(h:k<r.length){f:Rm.P Cut->Bool}(hf:f r[k]=true):r.any f=true:=List.any_eq_true.2 ⟨_,List.getElem_mem h,hf⟩
theorem aaz (A:Option Addr)(n c:Nat)(r:List (Rm.P Cut))(b:Nat)(v:List UInt8)(w:World)(hw:MaxOk w)(hn:r.length=n)(hr:SRow w A (r.map spOf))(ho:∀ p∈r,Ok2 p)(hl:n<=10000)(hv:Vm.check v=0)(hc:w.cell? ⟨b,0,none⟩=some (.string ⟨v.toArray⟩))(hb:b<w.heap.size) :
  Calls Tryz.prog 167 #[.slice A n c,.func (.func 132) #[] #[.pointer (some ⟨b,0,none⟩)]] w (IdxRet w (hasR r v)):=by
 have HM:=zh hw
 have HR:=zh hr
 have HO:=zh ho
 have HV:=zh hv
 have HC:=zh hc
 have HN:=zh hn
 obtain⟨X,hX⟩:=ex (hasR r v)
 rw[hX]
 have HX:Hid (X=r.any (fun p=>inS p v)):=hX.symm
 clear hw hr ho hv hc hn hX
 go_enter Tryz.func167,Tryz.ntmps167
 go_wp2_with fail
 go_loopw [8] (fun i wr=>∃ k:Nat,k<=n/\i=.int .i64 k/\Hid ((r.take k).any (fun p=>inS p v)=false)/\Hid (Below w.heap.size w wr/\w.heap.size<=wr.heap.size)) (fun i _=>n-(intOf i).toNat)
 case atStart=>exact⟨0,Nat.zero_le _,rfl,rfl,Below.refl _ _,Nat.le_refl _⟩
 case round =>
  obtain⟨k,hk,rfl,HA,HB⟩:=hrel
  by_cases ah:k<n
  ·have aa:k<r.length:=by rw[HN.out];exact ah
   obtain⟨ad,rfl,_,c0,c1,c2,c3⟩:=qv (ao HR.out HB.out.1) k aa
   have HS:=zh (tA r k aa (fun p=>inS p v))
   have HY:Hid (inS r[k] v=true->X=true):=fun h=>by rw[HX.out];exact xx aa h
   obtain⟨b1,b2,b3⟩:=mf (HO.out _ (List.getElem_mem aa))
   generalize r[k]=p at *
   have ae:∀ W:World,Below wr.heap.size wr W->Calls Tryz.prog 132 #[.agg #[.string ⟨(spOf p).lo.toArray⟩,.string ⟨(spOf p).hi.toArray⟩,.bool (spOf p).li,.bool (spOf p).hn],.pointer (some ⟨b,0,none⟩)] W fun e w'=>e=.returned (.bool (inS p v))/\Below W.heap.size W w':=fun W hW=>by
    have ab:Below w.heap.size w W:=HB.out.1.trans (hW.mono HB.out.2)
    have:=acA (spOf p).lo (spOf p).hi (spOf p).li (spOf p).hn b v W (ag HM.out ab) b1 b2 HV.out (by rw[ab.cell (by exact hb)];exact HC.out) (Nat.lt_of_lt_of_le hb ab.size)
    rw[b3] at this
    exact this
   have ai:=zh ae
   clear ae b1 b2 b3
   go_wp2_with fail
   refine (ai.out _ (Below.refl _ _)).mono ?_
   rintro _ w1 ⟨rfl,ac⟩
   have af:Hid (Below w.heap.size w w1/\w.heap.size<=w1.heap.size):=⟨HB.out.1.trans (ac.mono HB.out.2),Nat.le_trans HB.out.2 ac.size⟩
   clear ac c0 c1 c2 c3
   cases hp:inS p v
   ·have aj:Hid ((r.take (k+1)).any (fun p=>inS p v)=false):=by show _=_;rw[HS.out,HA.out];exact hp
    clear hp
    go_wp2_with fail
    go_roundw
    case rel=>exact⟨k+1,by omega,by go_num,aj,af⟩
    case measure=>simp[intOf];omega
   ·have ak:Hid (X=true):=HY.out hp
    clear hp
    go_wp2_with fail
    go_ret
    exact⟨⟨k,rfl,by rw[ak.out];exact decide_eq_true (by omega)⟩,af.out.1⟩
  ·have al:Hid (X=false):=by
    show _=_
    have:=HA.out
    rw[List.take_of_length_le (by rw[HN.out];omega)] at this
    rw[HX.out];exact this
   go_wp2_with fail
   go_ret
   exact⟨⟨-1,rfl,by rw[al.out];rfl⟩,HB.out.1⟩
end
section
open Go.RowKit Rs
attribute [local go_sem ↓] Go.wp_at_zero Go.wp_at_succ
theorem rC (A:Option Addr)(n c:Nat)(r:List (Rm.P Cut))(b:Nat)(v:List UInt8)(w:World)(hw:MaxOk w)(hn:r.length=n)(hr:SRow w A (r.map spOf))(ho:∀ p∈r,Ok2 p)(hl:n<=10000)(hv:Vm.check v=0)(hc:w.cell? ⟨b,0,none⟩=some (.string ⟨v.toArray⟩))(hb:b<w.heap.size) :
  Calls Tryz.prog 131 #[.slice A n c,.func (.func 132) #[] #[.pointer (some ⟨b,0,none⟩)]] w fun e w'=>e=.returned (.bool (hasR r v))/\Below w.heap.size w w':=by
 have HC:=zh (aaz A n c r b v w hw hn hr ho hl hv hc hb)
 obtain⟨X,hX⟩:=ex (hasR r v)
 rw[hX] at HC ⊢
 clear hw hn hr ho hl hv hc hb hX
 go_enter Tryz.func131,Tryz.ntmps131
 go_wp2_with fail
 refine HC.out.mono ?_
 rintro _ w1 ⟨⟨m,rfl,hm⟩,hb⟩
 have HB:=zh hb
 clear hb
 cases X
 all_goals
  go_wp2_with fail
  go_ret
  exact⟨rfl,HB.out⟩
theorem aeq (A:Option Addr)(n c:Nat)(r:List (Rm.P Cut))(v:List UInt8)(w:World)(hw:MaxOk w)(hn:(r.map spOf).length=n)(hr:SRow w A (r.map spOf))(ho:∀ p∈r,Ok2 p)(hl:n<=10000)(hv:Vm.check v=0) :
  Calls Tryz.prog 91 #[.slice A n c,.string ⟨v.toArray⟩] w fun e w'=>e=.returned (.bool (hasR r v))/\Below w.heap.size w w':=by
 have ac:∀ (fn:Fn) (first cap:Array Value) (w:World),(Instr.makeFunc fn first cap).run Tryz.prog w=.ok (.func fn first cap) w:=fun _ _ _ _=>rfl
 have aa:Below w.heap.size w (w.alloc (.cells #[.string ⟨v.toArray⟩] 9)):=(Below.refl _ _).alloc (Nat.le_refl _) _
 have HC:=zh (rC A n c r w.heap.size v (w.alloc (.cells #[.string ⟨v.toArray⟩] 9)) (ag hw aa) (by rw[<-hn,List.length_map]) (ao hr aa) ho hl hv (by simp[go_sem]) (by simp))
 have ab:=zh aa
 clear hw hn hr ho hl hv aa
 go_enter Tryz.func91,Tryz.ntmps91
 go_wp2_with fail
 refine HC.out.mono ?_
 rintro _ w1 ⟨rfl,hb⟩
 have HB:Hid (Below w.heap.size w w1):=ab.out.trans (hb.mono (by simp))
 clear hb
 go_wp2_with fail
 go_ret
 exact⟨rfl,HB.out⟩
end
section
open Go.RowKit Rs
attribute [local go_sem ↓] Go.wp_at_zero Go.wp_at_succ
theorem alloc5 (w:World)(a b c d e:Obj):(((((w.alloc a).alloc b).alloc c).alloc d).alloc e).heap[w.heap.size+1+1+1+1]?=some e:=by
 have h:=heap_alloc_new ((((w.alloc a).alloc b).alloc c).alloc d) e
 rw[show ((((w.alloc a).alloc b).alloc c).alloc d).heap.size=w.heap.size+1+1+1+1 from by simp] at h
 exact h
def encX (x:List UInt8 × Int):List Value:=[.string ⟨x.1.toArray⟩,.int .i64 x.2]
def XRet (w:World) (l:List (List UInt8 × Int)) (e:Ending) (w':World):Prop:=∃ M,e=.returned (.slice (some ⟨M,0,none⟩) l.length l.length)/\w'.heap[M]?=some (.cells (l.flatMap encX).toArray 221 (0,0))/\Below w.heap.size w w'
def sgnT:Nat->List UInt8
 | 0=>[61]
 | 1=>[33,61]
 | 2=>[60]
 | 3=>[60,61]
 | 4=>[62]
 | _=>[62,61]
def sgnL (v:List UInt8):Nat->List (List UInt8 × Int)
 | 0=>[(v,-1),(v,1)]
 | 1=>[([],-1),(v,-1),(v,1),([],1)]
 | 2=>[([],-1),(v,-1)]
 | 3=>[([],-1),(v,1)]
 | 4=>[(v,1),([],1)]
 | _=>[(v,-1),([],1)]
theorem acB (v:List UInt8)(w:World):Calls Tryz.prog 337 #[.string ⟨#[61]⟩,.string ⟨v.toArray⟩] w (XRet w (sgnL v 0)):=by
 go_enter Tryz.func337,Tryz.ntmps337
 go_wp2_with fail
 go_ret
 refine⟨_,rfl,?_,((((Below.refl _ _).alloc (Nat.le_refl _) _).alloc (by simp) _).alloc (by simp;omega) _).alloc (by simp;omega) _ |>.alloc (by simp;omega) _⟩
 exact alloc5 _ _ _ _ _ _
theorem acC (v:List UInt8)(w:World):Calls Tryz.prog 337 #[.string ⟨#[33,61]⟩,.string ⟨v.toArray⟩] w (XRet w (sgnL v 1)):=by
 go_enter Tryz.func337,Tryz.ntmps337
 go_wp2_with fail
 go_ret
 refine⟨_,rfl,?_,((((Below.refl _ _).alloc (Nat.le_refl _) _).alloc (by simp) _).alloc (by simp;omega) _).alloc (by simp;omega) _ |>.alloc (by simp;omega) _⟩
 exact alloc5 _ _ _ _ _ _
theorem acD (v:List UInt8)(w:World):Calls Tryz.prog 337 #[.string ⟨#[60]⟩,.string ⟨v.toArray⟩] w (XRet w (sgnL v 2)):=by
 go_enter Tryz.func337,Tryz.ntmps337
 go_wp2_with fail
 go_ret
 refine⟨_,rfl,?_,((((Below.refl _ _).alloc (Nat.le_refl _) _).alloc (by simp) _).alloc (by simp;omega) _).alloc (by simp;omega) _ |>.alloc (by simp;omega) _⟩
 exact alloc5 _ _ _ _ _ _
theorem acE (v:List UInt8)(w:World):Calls Tryz.prog 337 #[.string ⟨#[60,61]⟩,.string ⟨v.toArray⟩] w (XRet w (sgnL v 3)):=by
 go_enter Tryz.func337,Tryz.ntmps337
 go_wp2_with fail
 go_ret
 refine⟨_,rfl,?_,((((Below.refl _ _).alloc (Nat.le_refl _) _).alloc (by simp) _).alloc (by simp;omega) _).alloc (by simp;omega) _ |>.alloc (by simp;omega) _⟩
 exact alloc5 _ _ _ _ _ _
theorem acF (v:List UInt8)(w:World):Calls Tryz.prog 337 #[.string ⟨#[62]⟩,.string ⟨v.toArray⟩] w (XRet w (sgnL v 4)):=by
 go_enter Tryz.func337,Tryz.ntmps337
 go_wp2_with fail
 go_ret
 refine⟨_,rfl,?_,((((Below.refl _ _).alloc (Nat.le_refl _) _).alloc (by simp) _).alloc (by simp;omega) _).alloc (by simp;omega) _ |>.alloc (by simp;omega) _⟩
 exact alloc5 _ _ _ _ _ _
theorem acG (v:List UInt8)(w:World):Calls Tryz.prog 337 #[.string ⟨#[62,61]⟩,.string ⟨v.toArray⟩] w (XRet w (sgnL v 5)):=by
 go_enter Tryz.func337,Tryz.ntmps337
 go_wp2_with fail
 go_ret
 refine⟨_,rfl,?_,((((Below.refl _ _).alloc (Nat.le_refl _) _).alloc (by simp) _).alloc (by simp;omega) _).alloc (by simp;omega) _ |>.alloc (by simp;omega) _⟩
 exact alloc5 _ _ _ _ _ _
def NoSign (s:List UInt8):Prop:=∀ i,i<6->s≠sgnT i
theorem aaA (s v:List UInt8)(w:World)(h:NoSign s):Calls Tryz.prog 337 #[.string ⟨s.toArray⟩,.string ⟨v.toArray⟩] w fun e w'=>e=pan 2/\Below w.heap.size w w':=by
 have g0:(s==[61])=false:=beq_eq_false_iff_ne.2 (h 0 (by decide))
 have g1:(s==[33,61])=false:=beq_eq_false_iff_ne.2 (h 1 (by decide))
 have g2:(s==[60])=false:=beq_eq_false_iff_ne.2 (h 2 (by decide))
 have g3:(s==[60,61])=false:=beq_eq_false_iff_ne.2 (h 3 (by decide))
 have g4:(s==[62])=false:=beq_eq_false_iff_ne.2 (h 4 (by decide))
 have g5:(s==[62,61])=false:=beq_eq_false_iff_ne.2 (h 5 (by decide))
 clear h
 go_enter Tryz.func337,Tryz.ntmps337
 go_wp2_with fail
 exact⟨rfl,rfl,(((Below.refl _ _).alloc (Nat.le_refl _) _).alloc (by simp) _).alloc (by simp;omega) _ |>.alloc (by simp;omega) _⟩
end
section
open Go.RowKit Rs
attribute [local go_sem ↓] Go.wp_at_zero Go.wp_at_succ
theorem gI (p:Addr)(x:Int)(n:Int)(w:World)(hc:w.cell? p=some (.int .i64 x))(hz:w.frozen? p=false) :
  CallsD Tryz.prog 299 #[.pointer (some p)] (.panicking [{ v:=.iface 77 (.int .i64 n),recovered:=false }]) w fun e u' w' =>
   e=.returned (.tuple #[])/\u'=.panicking [{ v:=.iface 77 (.int .i64 n),recovered:=true }]/\w'=w.setCell p (.int .i64 n):=by
 refine callsD_of_wpS Tryz.func299 rfl fun c₀ cs hu=>?_
 apply wpS_region
 simp[wpOpsS,go_sem,recoverD,hu,Tryz.ntmps299]
 refine (bU n _).mono ?_
 rintro e w' ⟨rfl,rfl⟩
 simp[go_sem,hc,hz,bodyPostS,results,Tryz.results299]
theorem wh (p:Addr)(x:Int)(w:World)(hc:w.cell? p=some (.int .i64 x))(hz:w.frozen? p=false) :
  CallsD Tryz.prog 299 #[.pointer (some p)] .returning w fun e u' w'=>e=.returned (.tuple #[])/\u'=.returning/\w'=w.setCell p (.int .i64 0):=by
 refine callsD_of_wpS Tryz.func299 rfl fun c₀ cs hu=>?_
 apply wpS_region
 simp[wpOpsS,go_sem,recoverD,hu,Tryz.ntmps299]
 refine (bT _).mono ?_
 rintro e w' ⟨rfl,rfl⟩
 cases c₀
 simp_all [go_sem,bodyPostS,results,Tryz.results299]
theorem qw (p:Addr)(x:Int)(n:Int)(w:World)(hc:w.cell? p=some (.int .i64 x))(hz:w.frozen? p=false) :
  CallsD Tryz.prog 336 #[.pointer (some p)] (.panicking [{ v:=.iface 77 (.int .i64 n),recovered:=false }]) w fun e u' w' =>
   e=.returned (.tuple #[])/\u'=.panicking [{ v:=.iface 77 (.int .i64 n),recovered:=true }]/\w'=w.setCell p (.int .i64 n):=by
 refine callsD_of_wpS Tryz.func336 rfl fun c₀ cs hu=>?_
 apply wpS_region
 simp[wpOpsS,go_sem,recoverD,hu,Tryz.ntmps336]
 refine (bU n _).mono ?_
 rintro e w' ⟨rfl,rfl⟩
 simp[go_sem,hc,hz,bodyPostS,results,Tryz.results336]
theorem acH (p:Addr)(x:Int)(w:World)(hc:w.cell? p=some (.int .i64 x))(hz:w.frozen? p=false) :
  CallsD Tryz.prog 336 #[.pointer (some p)] .returning w fun e u' w'=>e=.returned (.tuple #[])/\u'=.returning/\w'=w.setCell p (.int .i64 0):=by
 refine callsD_of_wpS Tryz.func336 rfl fun c₀ cs hu=>?_
 apply wpS_region
 simp[wpOpsS,go_sem,recoverD,hu,Tryz.ntmps336]
 refine (bT _).mono ?_
 rintro e w' ⟨rfl,rfl⟩
 cases c₀
 simp_all [go_sem,bodyPostS,results,Tryz.results336]
theorem aaB {α:Type}{enc:α->List Value}{K:Nat}(hf:Rg.Fits enc K){w:World}{M:Nat}{T:TypeId}{l:List α}(h:w.heap[M]?=some (.cells (Rg.flat enc l).toArray T (0,0))):Rg.Row enc K w (some ⟨M,0,none⟩) l:=by
 intro _
 refine⟨_,rfl,(Array.getElem?_eq_some_iff.1 h).1,fun i hi j v hv=>?_⟩
 have hj:j<K:=by rw[<-hf.len l[i]];exact (List.getElem?_eq_some_iff.1 hv).1
 rw[<-Rg.lF]
 exact World.news_of_block h _ _ (by simpa using (Rg.flat_get hf l i hi j hj).trans hv)
theorem acI (c:List UInt8)(i:Nat):(sgnL c i).flatMap encX=Rg.flat encC (Rm.cuts (signR c i))/\(sgnL c i).length=(Rm.cuts (signR c i)).length:=by
 match i with
 | 0=>exact⟨rfl,rfl⟩
 | 1=>exact⟨rfl,rfl⟩
 | 2=>exact⟨rfl,rfl⟩
 | 3=>exact⟨rfl,rfl⟩
 | 4=>exact⟨rfl,rfl⟩
 | _+5=>exact⟨rfl,rfl⟩
theorem aer (c:List UInt8)(i:Nat):(sgnL c i).length<=4:=by
 match i with
 | 0=>exact Nat.le_of_ble_eq_true rfl
 | 1=>exact Nat.le_of_ble_eq_true rfl
 | 2=>exact Nat.le_of_ble_eq_true rfl
 | 3=>exact Nat.le_of_ble_eq_true rfl
 | 4=>exact Nat.le_of_ble_eq_true rfl
 | _+5=>exact Nat.le_of_ble_eq_true rfl
theorem za (i:Nat)(hi:i<6)(v:List UInt8)(w:World):Calls Tryz.prog 337 #[.string ⟨(sgnT i).toArray⟩,.string ⟨v.toArray⟩] w (XRet w (sgnL v i)):=by
 match i,hi with
 | 0,_=>exact acB v w
 | 1,_=>exact acC v w
 | 2,_=>exact acD v w
 | 3,_=>exact acE v w
 | 4,_=>exact acF v w
 | 5,_=>exact acG v w
theorem mg (i:Nat)(hi:i<6)(c:List UInt8)(w:World):Calls Tryz.prog 337 #[.string ⟨(sgnT i).toArray⟩,.string ⟨c.toArray⟩] w fun e w'=>(∃ B d,e=.returned (.slice B (Rm.cuts (signR c i)).length d)/\CutsOf w' (signR c i) B d)/\Below w.heap.size w w':=by
 refine (za i hi c w).mono ?_
 rintro e w' ⟨M,rfl,h,hb⟩
 have:=aer c i
 obtain⟨e1,e2⟩:=acI c i
 rw[e1] at h
 refine⟨⟨_,_,by rw[<-e2],aaB fitsC h,by rw[<-e2];exact Nat.le_refl _,by unfold maxLen;omega⟩,hb⟩
def OfRet (w:World) (R:List Sp) (k:Int) (e:Ending) (w':World):Prop:=(∃ C d,e=.returned (.tuple #[.slice C R.length d,.int .i64 k])/\SRow w' C R/\R.length<=d)/\Below w.heap.size w w'
theorem aaC (s v:List UInt8)(w:World)(hw:MaxOk w)(h:NoSign s):Calls Tryz.prog 325 #[.string ⟨s.toArray⟩,.string ⟨v.toArray⟩] w (OfRet w [] 2):=by
 have ah:∀ (fn:Fn) (first cap:Array Value) (w:World),(Instr.makeFunc fn first cap).run Tryz.prog w=.ok (.func fn first cap) w:=fun _ _ _ _=>rfl
 have hM:MaxOk (w.alloc (.cells #[.int .i64 0] 77)):=ag hw ((Below.refl _ _).alloc (Nat.le_refl _) _)
 have HM:=zh hM
 have H:=zh h
 clear hw hM h
 go_enter_defers Tryz.func325,Tryz.ntmps325
 go_wp2_with fail
 refine (cQ v _ HM.out).mono ?_
 rintro _ w1 ⟨rfl,hb⟩
 have ae:Below (w.heap.size+1) (w.alloc (.cells #[.int .i64 0] 77)) w1:=by simpa using hb
 have ab:=zh ae
 clear hb ae
 go_wp2_with fail
 refine (aaA s (canonOf v) _ H.out).mono ?_
 rintro _ w2 ⟨rfl,hb⟩
 have ac:Below (w.heap.size+1) (w.alloc (.cells #[.int .i64 0] 77)) w2:=ab.out.trans (hb.mono (by have:=ab.out.size;simpa using this))
 obtain⟨aa,ad⟩:=bj w w2 _ _ ac
 have af:=zh ac
 clear hb ac ab
 go_wp2_with fail
 refine leaves_cons (f:=336) (args:=#[.pointer (some ⟨w.heap.size,0,none⟩)]) (by simp) (by simp[go_sem]) ?_
 refine (qw ⟨w.heap.size,0,none⟩ 0 _ _ ?_ ?_).mono ?_
 ·simp[go_sem,aa]
 ·simp[go_sem,ad]
 rintro e u' w4 ⟨rfl,rfl,rfl⟩
 simp[Leaves,settle,results,Tryz.results325,go_sem,aa]
 exact⟨⟨none,0,rfl,fun h=>absurd h (by simp),Nat.le_refl _⟩,(bl af.out).setCell (Nat.le_refl _) _⟩
theorem acJ (i:Nat)(hi:i<6)(v:List UInt8)(w:World)(hw:MaxOk w)(h:Vm.check v≠0):Calls Tryz.prog 325 #[.string ⟨(sgnT i).toArray⟩,.string ⟨v.toArray⟩] w (OfRet w [] (Vm.check v)):=by
 have ak:∀ (fn:Fn) (first cap:Array Value) (w:World),(Instr.makeFunc fn first cap).run Tryz.prog w=.ok (.func fn first cap) w:=fun _ _ _ _=>rfl
 have hM:MaxOk (w.alloc (.cells #[.int .i64 0] 77)):=ag hw ((Below.refl _ _).alloc (Nat.le_refl _) _)
 have HM:=zh hM
 have ah:(Vm.check v==0)=false:=beq_eq_false_iff_ne.2 h
 obtain⟨k,hk⟩:=ex (Vm.check v)
 rw[hk] at ah
 have hc:∀ W:World,MaxOk W->Calls Tryz.prog 215 #[.string ⟨v.toArray⟩] W fun e w'=>e=.returned (.tuple #[.string ⟨(canonOf v).toArray⟩,.int .i64 k])/\Below W.heap.size W w':=fun W hW=>by rw[<-hk];exact cQ v W hW
 rw[hk]
 have HC:=zh hc
 have HI:=zh hi
 obtain⟨S,hS⟩:=ex (sgnT i)
 obtain⟨c,af⟩:=ex (canonOf v)
 have ai:Hid (∀ W:World,Calls Tryz.prog 337 #[.string ⟨S.toArray⟩,.string ⟨c.toArray⟩] W fun e w'=>(∃ B d,e=.returned (.slice B (Rm.cuts (signR c i)).length d)/\CutsOf w' (signR c i) B d)/\Below W.heap.size W w'):=by
  show ∀ W:World,_
  intro W
  rw[<-hS];exact mg i hi c W
 rw[af] at HC
 rw[hS]
 clear hw hM h hk hc hi hS af
 go_enter_defers Tryz.func325,Tryz.ntmps325
 go_wp2_with fail
 refine (HC.out _ HM.out).mono ?_
 rintro _ w1 ⟨rfl,hb⟩
 have ae:Below (w.heap.size+1) (w.alloc (.cells #[.int .i64 0] 77)) w1:=by simpa using hb
 have ab:=zh ae
 clear hb ae
 go_wp2_with fail
 refine (ai.out _).mono ?_
 rintro _ w2 ⟨⟨B,d,rfl,_⟩,hb⟩
 have ac:Below (w.heap.size+1) (w.alloc (.cells #[.int .i64 0] 77)) w2:=ab.out.trans (hb.mono (by have:=ab.out.size;simpa using this))
 obtain⟨aa,ad⟩:=bj w w2 _ _ ac
 have aj:=zh ac
 clear hb ac ab
 go_wp2_with fail
 refine (au _).mono ?_
 rintro _ w3 ⟨rfl,rfl⟩
 go_wp2_with fail
 refine leaves_cons (f:=336) (args:=#[.pointer (some ⟨w.heap.size,0,none⟩)]) (by simp) (by simp[go_sem]) ?_
 refine (qw ⟨w.heap.size,0,none⟩ 0 _ _ ?_ ?_).mono ?_
 ·simp[go_sem,aa]
 ·simp[go_sem,ad]
 rintro e u' w4 ⟨rfl,rfl,rfl⟩
 simp[Leaves,settle,results,Tryz.results325,go_sem,aa]
 exact⟨⟨none,0,rfl,fun h=>absurd h (by simp),Nat.le_refl _⟩,(bl aj.out).setCell (Nat.le_refl _) _⟩
theorem aes (i:Nat)(hi:i<6)(v:List UInt8)(w:World)(hw:MaxOk w)(h:Vm.check v=0):Calls Tryz.prog 325 #[.string ⟨(sgnT i).toArray⟩,.string ⟨v.toArray⟩] w (OfRet w ((signR (Vm.canon v) i).map spOf) 0):=by
 have aq:∀ (fn:Fn) (first cap:Array Value) (w:World),(Instr.makeFunc fn first cap).run Tryz.prog w=.ok (.func fn first cap) w:=fun _ _ _ _=>rfl
 have hM:MaxOk (w.alloc (.cells #[.int .i64 0] 77)):=ag hw ((Below.refl _ _).alloc (Nat.le_refl _) _)
 have HM:=zh hM
 obtain⟨R,hR⟩:=ex ((signR (Vm.canon v) i).map spOf)
 rw[hR]
 have hg:Rs.Good (signR (Vm.canon v) i):=qk (qh h) i hi
 have ac:((signR (Vm.canon v) i).take 64).map spOf=R:=by rw[ace hg.2.2];exact hR
 obtain⟨S,hS⟩:=ex (sgnT i)
 obtain⟨c,ah⟩:=ex (Vm.canon v)
 have hc:∀ W:World,MaxOk W->Calls Tryz.prog 215 #[.string ⟨v.toArray⟩] W fun e w'=>e=.returned (.tuple #[.string ⟨c.toArray⟩,.int .i64 0])/\Below W.heap.size W w':=fun W hW=>by
  have:=cQ v W hW
  rw[canonOf,if_pos h,h,ah] at this
  exact this
 rw[ah] at hg ac
 have HC:=zh hc
 have HG:=zh hg
 have HR:=zh ac
 have an:Hid (∀ W:World,Calls Tryz.prog 337 #[.string ⟨S.toArray⟩,.string ⟨c.toArray⟩] W fun e w'=>(∃ B d,e=.returned (.slice B (Rm.cuts (signR c i)).length d)/\CutsOf w' (signR c i) B d)/\Below W.heap.size W w'):=by
  show ∀ W:World,_
  intro W
  rw[<-hS];exact mg i hi c W
 rw[hS]
 clear hw hM h hc hi hS ah hg hR ac
 go_enter_defers Tryz.func325,Tryz.ntmps325
 go_wp2_with fail
 refine (HC.out _ HM.out).mono ?_
 rintro _ w1 ⟨rfl,hb⟩
 have aj:Below (w.heap.size+1) (w.alloc (.cells #[.int .i64 0] 77)) w1:=by simpa using hb
 have ad:=zh aj
 clear hb aj
 go_wp2_with fail
 refine (an.out _).mono ?_
 rintro _ w2 ⟨⟨B,d,rfl,am⟩,hb⟩
 have ao:=zh am
 have ab:Hid (Below (w.heap.size+1) (w.alloc (.cells #[.int .i64 0] 77)) w2):=ad.out.trans (hb.mono (by have:=ad.out.size;simpa using this))
 clear hb am ad
 go_wp2_with fail
 refine (ak _).mono ?_
 rintro _ w3 ⟨rfl,rfl⟩
 go_wp2_with fail
 refine (jJ B d (signR c i) _ ao.out HG.out.2.1 (by have:=HG.out.2.2;omega) R HR.out).mono ?_
 rintro _ w3 ⟨⟨C,e,rfl,hf⟩,hb⟩
 have HF:=zh hf
 have ae:Below (w.heap.size+1) (w.alloc (.cells #[.int .i64 0] 77)) w3:=ab.out.trans (hb.mono (by have:=ab.out.size;simpa using this))
 obtain⟨aa,ai⟩:=bj w w3 _ _ ae
 have ap:=zh ae
 have af:w.heap.size<w2.heap.size:=by have:=ab.out.size;simp at this;omega
 clear hb hf ae ab
 go_wp2_with fail
 refine leaves_cons (f:=336) (args:=#[.pointer (some ⟨w.heap.size,0,none⟩)]) (by simp) (by simp[go_sem]) ?_
 refine (acH ⟨w.heap.size,0,none⟩ 0 _ ?_ ?_).mono ?_
 ·simp[go_sem,aa]
 ·simp[go_sem,ai]
 rintro e u' w4 ⟨rfl,rfl,rfl⟩
 simp[Leaves,settle,results,Tryz.results325,go_sem,aa]
 have al:∀ a,C=some a->a.block≠w.heap.size:=fun a ha=>by have:=HF.out.2.2 a ha;have:=af;omega
 exact⟨⟨_,_,rfl,tv (tv HF.out.1 _ al) _ al,HF.out.2.1⟩,((bl ap.out).setCell (Nat.le_refl _) _).setCell (Nat.le_refl _) _⟩
end
end Go.Proofs.YtgnaiidgjmicaaaGreatDoor

/- Part 24 of what the laws lean on. -/
import Derived.Test.YtgnaiidgjmicaaaGreatDoorL23
set_option maxRecDepth 100000
set_option maxHeartbeats 12800000
namespace Go.Proofs.YtgnaiidgjmicaaaGreatDoor
namespace Vm
theorem wa {a b:Int}(h:a<b):sgn a b = -1:=by unfold sgn;rw[if_pos h]
theorem wb {a b:Int}(h:b<a):sgn a b=1:=by unfold sgn;rw[if_neg (by omega),if_pos h]
end Vm
namespace Rp
open Go.RowKit Rs At Pg
abbrev NV:=List UInt8 × List UInt8
def plainP (p:NV):Pk:=⟨p.1,p.2,[],[],[],0⟩
end Rp
namespace Sz
open Go.RowKit
def dg (n:Nat):UInt8:=UInt8.ofNat (48+n % 10)
theorem aaF (n:Nat):(dg n).toNat=48+n % 10:=by
 unfold dg
 rw[UInt8.toNat_ofNat']
 omega
theorem pZ (w:World)(T:TypeId)(x:Int)(n:Nat)(hx:x=((n % 10:Nat):Int)):(convert 61 9 (.slice (some ⟨w.heap.size,0,none⟩) 1 1)).run Tryz.prog (w.alloc (.cells #[.int .u8 (48+x)] T))=.ok (.string ⟨[dg n].toArray⟩) (w.alloc (.cells #[.int .u8 (48+x)] T)) :=
 run_convert_bytes_back (P:=Tryz.prog) _ _ _ _ _ 1 [dg n] Tryz.underlying61 Tryz.underlying5 Tryz.underlying9 (fun j hj=>by
  match j,hj with
  | 0,_ =>
   have h2:([dg n][0].toNat:Int)=48+x:=by show ((dg n).toNat:Int)=_;rw[aaF,hx];omega
   rw[h2]
   simp[Addr.add])
def decF:Nat->Nat->List UInt8
 | 0,n=>[dg n]
 | k+1,n=>if n<10 then [dg n] else decF k (n / 10)++[dg n]
theorem we (k n:Nat):decF (k+1) n=if n<10 then [dg n] else decF k (n / 10)++[dg n]:=rfl
def decT (n:Nat):List UInt8:=decF 20 n
def DcSt (n m:Nat) (d:List UInt8):Prop:=∃ k,d.length+k=21/\m<10 ^ k/\decT n=if m<10 then d else decF (k-1) (m / 10)++d
theorem tS {n:Nat}(hn:n<10000000000000000000):DcSt n n [dg n] :=
 ⟨20,rfl,by
  have:(10:Nat) ^ 20=100000000000000000000:=by decide
  omega,rfl⟩
theorem wg {n m:Nat}{d:List UInt8}(h:DcSt n m d)(hm:10<=m):DcSt n (m / 10) (dg (m / 10) :: d)/\d.length<20:=by
 obtain⟨k,hk,hp,he⟩:=h
 rw[if_neg (by omega)] at he
 match k,hk,hp,he with
 | 0,_,hp,_=>simp at hp;omega
 | 1,_,hp,_=>simp at hp;omega
 | k+2,hk,hp,he =>
  refine⟨⟨k+1,by rw[List.length_cons];omega,?_,?_⟩,by omega⟩
  ·rw[Nat.pow_succ] at hp;omega
  ·rw[he]
   show decF (k+1) (m / 10)++d=if m / 10<10 then dg (m / 10) :: d else decF k (m / 10 / 10)++dg (m / 10) :: d
   rw[we]
   by_cases h:m / 10<10
   ·rw[if_pos h,if_pos h];rfl
   ·rw[if_neg h,if_neg h,List.append_assoc];rfl
theorem yz (n:Nat)(hn:n<10000000000000000000)(w:World) :
  Calls Tryz.prog 26 #[.int .u64 n] w fun e w'=>e=.returned (.string ⟨(decT n).toArray⟩)/\Below w.heap.size w w':=by
 have ai:(0:Int)<=(n:Int):=by omega
 have HN:=zh hn
 clear hn
 obtain⟨R,hR⟩:=ex (decT n)
 have HR:=zh hR
 rw[hR]
 clear hR
 go_enter Tryz.func26,Tryz.ntmps26
 have aa:=pZ w 5 ((n:Int) % 10) n (by omega)
 go_wp2_with fail
 have ad:=zh (tS HN.out)
 have ae:Below w.heap.size w (w.alloc (.cells #[.int .u8 (48+(n:Int) % 10)] 5)):=(Below.refl _ _).alloc (Nat.le_refl _) _
 have af:=zh ae
 clear aa ae
 go_loopw [0,3] (fun x s wr=>∃ (m:Nat) (d:List UInt8),m<=n/\x=.int .u64 m/\s=.string ⟨d.toArray⟩/\d.length<=20/\Hid (DcSt n m d)/\Hid (Below w.heap.size w wr)) (fun x _ _=>(intOf x).toNat)
 case atStart=>exact⟨n,[dg n],Nat.le_refl _,rfl,rfl,by simp,ad,af⟩
 case round =>
  clear ad af ai
  obtain⟨m,d,ao,rfl,rfl,hd,HS,HB⟩:=hrel
  have al:(0:Int)<=(m:Int):=by omega
  by_cases aj:10<=m
  ·have g1:(10:Int)<=(m:Int):=by omega
   obtain⟨ah,ap⟩:=wg HS.out aj
   have ag:=zh ah
   have ab:(m:Int) / 10=((m / 10:Nat):Int):=by omega
   have aa:=pZ wr 5 (((m / 10:Nat):Int) % 10) (m / 10) (by omega)
   have ac:(convert 61 9 (.slice (some ⟨wr.heap.size,0,none⟩) 1 1)).run Tryz.prog (wr.alloc (.cells #[.int .u8 (48+(m:Int) / 10 % 10)] 5))=.ok (.string ⟨[dg (m / 10)].toArray⟩) (wr.alloc (.cells #[.int .u8 (48+(m:Int) / 10 % 10)] 5)):=by rw[ab];exact aa
   have ak:=zh ab
   clear aa ab ah
   obtain⟨c,hc⟩:=ex (dg (m / 10))
   rw[hc] at ac ag
   have am:IntKind.u64.wrap ((m:Int) / 10)=(m:Int) / 10:=IntWalk.u64_in _ (by have:=HN.out;omega)
   have an:(0:Int)<=(m:Int) / 10:=by omega
   clear hc HS
   go_wp2_with fail
   go_roundw
   case rel=>exact⟨m / 10,c :: d,by omega,by rw[ak.out],congrArg Value.string (ByteArray.mk_append_mk [c] d),by rw[List.length_cons];omega,ag,HB.out.alloc HB.out.size _⟩
   case measure=>simp[intOf];omega
  ·have HD:Hid (R=d):=by
    obtain⟨k,_,_,he⟩:=HS.out
    rw[if_pos (by omega)] at he
    show _=_
    rw[<-HR.out,he]
   go_wp2_with fail
   go_ret
   rw[HD.out]
   exact⟨rfl,HB.out⟩
end Sz
section
open Rs At Pg Rp Ck
namespace Ck
def rkW (k:Nat):Nat:=if k=0 then 13830554455654793216 else if k=1 then 0 else if k=2 then 4607182418800017408 else 4611686018427387904
def rkP (f:Nat->Nat) (i:Nat):Pk:={ plainP ([97],Sz.decT i) with wt:=rkW (f i) }
def rkL (f:Nat->Nat) (n:Nat):List Pk:=(List.range n).map (rkP f)
def beats (f:Nat->Nat) (i k:Nat):Bool:=decide (f i<f k)||(decide (f k=f i)&&decide (i<k))
def cntN (g:Nat->Bool):Nat->Nat
 | 0=>0
 | n+1=>cntN g n+if g n=true then 1 else 0
theorem su (g:Nat->Bool):∀ n,cntN g n<=n
 | 0=>Nat.le_refl _
 | n+1=>by have:=su g n;unfold cntN;split <;> omega
theorem sw (h:Pk->Bool)(g:Nat->Pk):∀ n,cnt h ((List.range n).map g)=cntN (fun i=>h (g i)) n
 | 0=>rfl
 | n+1=>by rw[List.range_succ,List.map_append,List.map_singleton,jL,sw h g n];rfl
theorem p8 {g h:Nat->Bool}:∀ n,(∀ i,i<n->g i=h i)->cntN g n=cntN h n
 | 0,_=>rfl
 | n+1,e=>by unfold cntN;rw[p8 n (fun i hi=>e i (by omega)),e n (by omega)]
theorem rk_w:∀ a,a<4->∀ b,b<4->cmpW (rkW a) (rkW b)=Vm.sgn a b:=by decide +kernel
theorem aaR:∀ a,a<4->rkW a<Wm.W:=by decide +kernel
theorem rk_v:∀ k,k<40->∀ i,i<40->Vm.cmpV (Sz.decT k) (Sz.decT i)=Vm.sgn k i:=by decide +kernel
theorem rk_c:∀ k,k<40->Vm.check (Sz.decT k)=0:=by decide +kernel
theorem yA {f:Nat->Nat}(hf:∀ i,f i<4){i k:Nat}(hi:i<40)(hk:k<40):ahead (rkP f i) (rkP f k)=beats f i k:=by
 unfold ahead cmpR beats
 show (decide (([97]:List UInt8)=[97])&&decide (0<orL [cmpW (rkW (f k)) (rkW (f i)),Vm.cmpV (Sz.decT k) (Sz.decT i)]))=_
 rw[decide_eq_true rfl,Bool.true_and,rk_w _ (hf k) _ (hf i),rk_v k hk i hi]
 by_cases h1:f i<f k
 ·rw[Vm.wb (a:=(f k:Int)) (b:=(f i:Int)) (by omega),decide_eq_true h1,Bool.true_or];rfl
 ·by_cases h2:f k=f i
  ·rw[h2,(Vm.cu _ _).2 rfl,decide_eq_false (Nat.lt_irrefl _),decide_eq_true rfl,Bool.false_or,Bool.true_and]
   by_cases h3:i<k
   ·rw[Vm.wb (a:=(k:Int)) (b:=(i:Int)) (by omega),decide_eq_true h3];rfl
   ·rw[decide_eq_false h3]
    by_cases h4:k=i
    ·rw[h4,(Vm.cu _ _).2 rfl];rfl
    ·rw[Vm.wa (a:=(k:Int)) (b:=(i:Int)) (by omega)];rfl
  ·rw[Vm.wa (a:=(f k:Int)) (b:=(f i:Int)) (by omega),decide_eq_false h1,decide_eq_false h2];rfl
theorem z8 (f:Nat->Nat)(n:Nat):(rkL f n).length=n:=by unfold rkL;simp
theorem yB {f:Nat->Nat}(hf:∀ i,f i<4){n:Nat}(hn:n<=40):ranksL (rkL f n)=(List.range n).map fun i=>(cntN (beats f i) n:Int):=by
 unfold ranksL
 conv=>lhs;arg 2;unfold rkL
 rw[List.map_map]
 apply List.map_congr_left
 intro i hi
 have aa:=List.mem_range.1 hi
 show ((rankP (rkL f n) (rkP f i):Nat):Int)=_
 unfold rankP rkL
 rw[sw,p8 n (fun k hk=>yA hf (by omega) (by omega))]
theorem z9 {f:Nat->Nat}(hf:∀ i,f i<4){n:Nat}(hn:n<=40):Fine (rkL f n):=fun p hp=>by
 unfold rkL at hp
 obtain⟨i,hi,rfl⟩:=List.mem_map.1 hp
 have:=List.mem_range.1 hi
 exact⟨aaR _ (hf i),rk_c i (by omega)⟩
end Ck
end
section
open Go.RowKit Rs At Pg Rp
attribute [local go_sem ↓] Go.wp_at_zero Go.wp_at_succ
attribute [local go_sem] Pg.aj
namespace Rp
def encU8 (b:UInt8):List Value:=[.int .u8 b.toNat]
theorem l9 {w:World}{A:Option Addr}{l:List UInt8}(h:Rg.Row encU8 1 w A l)(k:Nat)(hk:k<l.length):∃ ad,A=some ad/\∀ u,Below w.heap.size w u->u.cell? (ad.add k)=some (.int .u8 l[k].toNat):=by
 obtain⟨ad,x,e,hx,hl,hc⟩:=Rg.bz h k hk
 subst hx
 have c0:=hc 0 _ rfl
 rw[if_pos rfl,Nat.mul_one] at c0
 exact⟨ad,e,fun u hb=>(hb.cell (bH c0)).trans c0⟩
end Rp
end
section
open Go.RowKit Rs At Pg Rp Ck
attribute [local go_sem ↓] Go.wp_at_zero Go.wp_at_succ
attribute [local go_sem] Pg.aj
namespace Ck
def fL (ls:List UInt8) (i:Nat):Nat:=(ls.getD i 0).toNat % 4
theorem aaS (ls:List UInt8)(i:Nat):fL ls i<4:=Nat.mod_lt _ (by decide)
theorem aaT {ls:List UInt8}{i:Nat}(h:i<ls.length):fL ls i=ls[i].toNat % 4:=by
 unfold fL;rw[List.getD_eq_getElem?_getD,List.getElem?_eq_getElem h];rfl
theorem aaG:∀ y,y<4->FloatKind.f64.format.sub (floatOfInt FloatKind.f64 ((y:Nat):Int)) 4607182418800017408=some (rkW y):=by decide +kernel
def rkD (f:Nat->Nat) (i:Nat):PD:=⟨[97],Sz.decT i,(none,0,0),(none,0,0),(none,0,0),rkW (f i)⟩
theorem aaH {w:World}{B:Nat}{T:TypeId}{v:Value}{f:Nat->Nat}{n:Nat}(h:Rg.Own encP 6 w B T v ((List.range n).map (rkD f))):∃ A c,v=.slice A n c/\RRow w A (rkL f n):=by
 obtain⟨A,c,hv,hr,_,_⟩:=Rg.au fitsP h
 rw[List.length_map,List.length_range] at hv
 refine⟨A,c,hv,(List.range n).map (rkD f),hr,by unfold rkL;simp,fun i d p e1 e2=>?_⟩
 unfold rkL at e2
 rw[List.getElem?_map] at e1 e2
 cases hq:(List.range n)[i]? with
 | none=>rw[hq] at e1;cases e1
 | some q =>
  rw[hq] at e1 e2
  cases e1;cases e2
  exact⟨rfl,rfl,rfl,rfl,rfl,rfl,⟨[],fun h=>absurd h (by decide),rfl,fun i d l e=>by simp at e⟩,⟨[],fun h=>absurd h (by decide),rfl,fun i d l e=>by simp at e⟩,fun h=>absurd (show 0<0 from h) (Nat.lt_irrefl 0)⟩
end Ck
theorem jN (A:Option Addr)(n c:Nat)(ls:List UInt8)(w:World)(hk:KOk w)(hn:ls.length=n)(hr:Rg.Row encU8 1 w A ls) :
  Calls Tryz.prog 5 #[.slice A n c] w fun e w'=>e=.returned (.bool true)/\Below w.heap.size w w':=by
 have aQ:=zh (jm w hk)
 have HK:=zh hk
 have HN:=zh hn
 have HR:=zh hr
 clear hk hn hr
 go_enter Tryz.func5,Tryz.ntmps5
 go_wp2_with fail
 refine aQ.out.mono ?_
 rintro _ u1 ⟨rfl,hb⟩
 have ao:Hid (Below w.heap.size w u1):=hb
 clear hb aQ
 by_cases ap:40<n
 ·have d0:decide ((40:Int)<(n:Int))=true:=decide_eq_true (by omega)
  have d1:decide (40<n)=true:=decide_eq_true ap
  clear ap
  go_wp2_with fail
  go_ret
  exact⟨rfl,ao.out⟩
 have d0:decide ((40:Int)<(n:Int))=false:=decide_eq_false (by omega)
 have d1:decide (40<n)=false:=decide_eq_false ap
 have af:n<=40:=by omega
 obtain⟨f,hf⟩:=ex (fL ls)
 have ak:Hid (∀ i,f i<4):=fun i=>by rw[<-hf];exact aaS ls i
 have av:Hid (∀ i (h:i<ls.length),ls[i].toNat % 4=f i):=fun i h=>by rw[<-hf];exact (aaT h).symm
 clear hf ap
 go_wp2_with fail
 clear d0 d1
 go_loopw [3,4] (fun v i wr=>∃ k:Nat,k<=n/\i=.int .i64 k/\Hid (Rg.Own encP 6 wr u1.heap.size 68 v ((List.range k).map (rkD f)))/\Hid (Below u1.heap.size u1 wr/\u1.heap.size<=wr.heap.size)) (fun _ i _=>n-(intOf i).toNat)
 case atStart=>exact⟨0,Nat.zero_le _,rfl,Rg.an _ _ _,Below.refl _ _,Nat.le_refl _⟩
 case round =>
  obtain⟨k,hk,rfl,HO,HB⟩:=hrel
  by_cases a6:k<n
  ·have ax:k<ls.length:=by rw[HN.out];exact a6
   obtain⟨ad,rfl,hc⟩:=l9 HR.out k ax
   have HC:Hid (∀ u,Below u1.heap.size u1 u->u.cell? (ad.add k)=some (.int .u8 ls[k].toNat)):=fun u h=>hc u (bt ao.out h)
   have ay:=av.out k ax
   obtain⟨x,hx⟩:=ex (ls[k].toNat)
   have a7:x<256:=by rw[<-hx];exact ls[k].toNat_lt
   rw[hx] at ay HC
   obtain⟨y,hy⟩:=ex (f k)
   have aR:y<4:=by rw[<-hy];exact ak.out k
   rw[hy] at ay
   have r1:(x:Int) % 4=(y:Int):=by omega
   have r2:(x:Int).tmod 4=(y:Int):=by rw[Int.tmod_eq_emod_of_nonneg (Int.natCast_nonneg _)];exact r1
   have w8:IntKind.u8.wrap (y:Int)=(y:Int):=by rw[IntKind.wrap_u8];omega
   have wu:IntKind.u64.wrap (k:Int)=(k:Int):=by rw[IntKind.wrap_u64];omega
   have k0:(0:Int)<=(k:Int):=by omega
   have k1:(k:Int)<(n:Int):=by omega
   have az:Hid (∀ u,Calls Tryz.prog 26 #[.int .u64 k] u fun e w'=>e=.returned (.string ⟨(Sz.decT k).toArray⟩)/\Below u.heap.size u w'):=fun u=>Sz.yz k (by omega) u
   obtain⟨V,hV⟩:=ex (Sz.decT k)
   rw[hV] at az
   have aA:(List.range (k+1)).map (rkD f)=(List.range k).map (rkD f)++[⟨[97],V,(none,0,0),(none,0,0),(none,0,0),rkW y⟩]:=by
    rw[List.range_succ,List.map_append];unfold rkD;simp only[List.map_cons,List.map_nil,hV,hy]
   have aB:((List.range k).map (rkD f)).length+1<=1000000:=by rw[List.length_map,List.length_range];omega
   obtain⟨pre,al⟩:=ex ((List.range k).map (rkD f))
   rw[al] at aA aB HO
   have aS:=zh aA
   have aT:=zh aB
   have aC:Hid (Below u1.heap.size u1 wr.drew):=HB.out.1.drew
   have c0:=HC.out _ aC.out
   have a8:∀ W,(binOp .sub 58 (.float .f64 (floatOfInt FloatKind.f64 ((y:Nat):Int))) (.float .f64 4607182418800017408)).run Tryz.prog W=.ok (.float .f64 (rkW y)) W:=fun W=>run_float_arith W .sub _ .f64 _ _ _ (aaG y aR)
   clear hc ax hx a7 ay hy hV aA aB al aR
   go_wp2_with fail
   go_region_law (first
    | (refine Rg.bT sliceP (by rfl) (.tmp 20) (.tmp 32) (by rfl) u1.heap.size _ pre [(⟨[97],V,(none,0,0),(none,0,0),(none,0,0),rkW y⟩:PD)] (by rfl) (by first | exact Rg.own_below HO.out (ac.trans ((Below.refl _ _).alloc (Nat.le_refl _) _)) | exact Rg.own_below HO.out (((Below.refl _ _).drew.trans ac).trans (((Below.refl _ _).alloc (Nat.le_refl _) _).mono ac.size))) _ _ (by rfl) (Rg.aw _ _ _ _ (by rfl)) (Nat.zero_lt_succ _) aT.out (by first | exact Nat.le_trans HY.out.size (by simp) | skip) ?_;intro v5 W5 a0 a1 bk)
    | (go_simp;go_at_call 26;refine (az.out _).mono ?_;rintro _ yy ⟨rfl,ac⟩;have HY:Hid (Below u1.heap.size u1 yy):=(by first | exact HB.out.1.trans (ac.mono HB.out.2) | exact aC.out.trans (ac.mono HB.out.2));have c1:=HC.out _ HY.out;have aU:=zh (Rg.own_below HO.out (show Below wr.heap.size wr yy from (by first | exact ac | exact (Below.refl _ _).drew.trans ac)))))
   all_goals
    have a9:=fc (zh ⟨HY.out,HY.out.size⟩) aU a1
    have ba:Hid (Rg.Own encP 6 W5 u1.heap.size 68 v5 ((List.range (k+1)).map (rkD f))):=by show Rg.Own _ _ _ _ _ _ _;rw[aS.out];exact a0
    clear a0 a1 bk aU HO HB aC az HC aS aT c0 c1 ac
    go_wp2_with fail
    go_roundw
    case rel=>exact⟨k+1,by omega,by go_num,ba.out,a9.out⟩
    case measure=>simp[intOf];omega
  ·obtain rfl:k=n:=by omega
   obtain⟨A',c',rfl,am⟩:=aaH HO.out
   have hlen:=z8 f k
   have aV:Hid (Below w.heap.size w wr):=ao.out.trans (HB.out.1.mono ao.out.size)
   have aD:=zh (ee A' k c' (rkL f k) wr (ab HK.out.1 aV.out) hlen am (Nat.le_trans af (by decide)) (z9 ak.out af))
   rw[yB ak.out af] at aD
   have aW:Hid (((List.range k).map fun i=>(cntN (beats f i) k:Int)).length=k):=by show _=_;simp
   have bb:((k:Int) != (k:Int))=false:=by simp
   clear hlen am HO HB
   go_wp2_with fail
   refine aD.out.mono ?_
   rintro _ y2 h2
   obtain⟨R,rc,rfl,a2,hb⟩:=fR h2
   rw[aW.out]
   have aE:Hid (Below w.heap.size w y2):=bt aV.out hb
   have bc:=zh a2
   clear h2 a2 hb aD
   go_wp2_with fail
   clear bb
   go_loopw [6,7,8] (fun iv _ _ wr=>∃ i:Nat,i<=k/\iv=.int .i64 i/\Hid (Below y2.heap.size y2 wr)) (fun iv _ _ _=>k-(intOf iv).toNat)
   case atStart=>exact⟨0,Nat.zero_le _,rfl,Below.refl _ _⟩
   case round =>
    obtain⟨i,hi,rfl,a3⟩:=hrel
    by_cases aX:i<k
    ·have aF:i<ls.length:=by rw[HN.out];exact aX
     obtain⟨bl,aM,a4⟩:=l9 HR.out i aF
     have aY:Hid (∀ u,Below y2.heap.size y2 u->u.cell? (bl.add i)=some (.int .u8 ls[i].toNat)):=fun u h=>a4 u (bt aE.out h)
     have ag:=av.out i aF
     obtain⟨xi,aN⟩:=ex (ls[i].toNat)
     have aG:xi<256:=by rw[<-aN];exact ls[i].toNat_lt
     rw[aN] at ag aY
     obtain⟨yi,ar⟩:=ex (f i)
     have aH:yi<4:=by rw[<-ar];exact ak.out i
     rw[ar] at ag
     have r1:(xi:Int) % 4=(yi:Int):=by omega
     have r2:(xi:Int).tmod 4=(yi:Int):=by rw[Int.tmod_eq_emod_of_nonneg (Int.natCast_nonneg _)];exact r1
     have w8:IntKind.u8.wrap (yi:Int)=(yi:Int):=by rw[IntKind.wrap_u8];omega
     have bd:=zh ar
     have be:=zh r1
     have bf:=zh r2
     have bg:=zh w8
     subst aM
     clear a4 aF aN aG ag ar aH r1 r2 w8
     go_wp2_with fail
     obtain⟨z1,bm⟩:∃ z1,z1=wr:=⟨_,rfl⟩
     subst bm
     go_loopw [7,8] (fun nv kv wr=>∃ j:Nat,j<=k/\kv=.int .i64 j/\nv=.int .i64 (cntN (beats f i) j:Nat)/\Hid (Below z1.heap.size z1 wr)) (fun _ kv _=>k-(intOf kv).toNat)
     case atStart=>exact⟨0,Nat.zero_le _,rfl,rfl,Below.refl _ _⟩
     case round =>
      obtain⟨j,hj,rfl,rfl,HZ⟩:=hrel
      have aq:Hid (Below y2.heap.size y2 wr):=bt a3.out HZ.out
      have r1:=be.out
      have r2:=bf.out
      have w8:=bg.out
      have i0:(0:Int)<=(i:Int):=by omega
      have i1:(i:Int)<(k:Int):=by omega
      have ci:=aY.out _ aq.out
      by_cases bh:j<k
      ·have aI:j<ls.length:=by rw[HN.out];exact bh
       obtain⟨bp,aO,a5⟩:=l9 HR.out j aI
       cases aO
       have cj:=a5 wr (bt aE.out aq.out)
       have ah:=av.out j aI
       obtain⟨xj,aP⟩:=ex (ls[j].toNat)
       have aJ:xj<256:=by rw[<-aP];exact ls[j].toNat_lt
       rw[aP] at ah cj
       obtain⟨yj,au⟩:=ex (f j)
       have aK:yj<4:=by rw[<-au];exact ak.out j
       rw[au] at ah
       have s1:(xj:Int) % 4=(yj:Int):=by omega
       have s2:(xj:Int).tmod 4=(yj:Int):=by rw[Int.tmod_eq_emod_of_nonneg (Int.natCast_nonneg _)];exact s1
       have v8:IntKind.u8.wrap (yj:Int)=(yj:Int):=by rw[IntKind.wrap_u8];omega
       have j0:(0:Int)<=(j:Int):=by omega
       have j1:(j:Int)<(k:Int):=by omega
       have aZ:beats f i j=(decide (yi<yj)||(decide (yj=yi)&&decide (i<j))):=by unfold beats;rw[au,bd.out]
       have bi:=su (beats f i) j
       obtain⟨nn,aj⟩:=ex (cntN (beats f i) j)
       have aL:cntN (beats f i) (j+1)=nn+if beats f i j=true then 1 else 0:=by rw[<-aj];rfl
       rw[aj] at bi ⊢
       rw[aZ] at aL
       have aa:=zh aL
       clear a5 aI aP aJ ah au aK aZ aL aj
       by_cases c1:yi<yj
       ·have e1:decide ((yi:Int)<(yj:Int))=true:=decide_eq_true (by omega)
        have e2:decide (yi<yj)=true:=decide_eq_true c1
        have ai:Hid (cntN (beats f i) (j+1)=nn+1):=by show _=_;rw[aa.out,e2];rfl
        clear c1 aa
        go_wp2_with fail
        first | (go_quiet (fail)) | fail
        go_wp2_with fail
        go_roundw
        case rel=>exact⟨j+1,by omega,by go_num,by rw[ai.out];go_num,below_drewN HZ.out _⟩
        case measure=>simp[intOf];omega
       ·have e1:decide ((yi:Int)<(yj:Int))=false:=decide_eq_false (by omega)
        have e2:decide (yi<yj)=false:=decide_eq_false c1
        by_cases c2:yj=yi
        ·subst c2
         have e3:((yj:Int)==(yj:Int))=true:=by simp
         by_cases c3:i<j
         ·have e4:decide ((i:Int)<(j:Int))=true:=decide_eq_true (by omega)
          have e5:decide (i<j)=true:=decide_eq_true c3
          have ai:Hid (cntN (beats f i) (j+1)=nn+1):=by show _=_;rw[aa.out,e2,e5];simp
          clear c1 c3 aa
          go_wp2_with fail
          first | (go_quiet (fail)) | fail
          go_wp2_with fail
          go_roundw
          case rel=>exact⟨j+1,by omega,by go_num,by rw[ai.out];go_num,below_drewN HZ.out _⟩
          case measure=>simp[intOf];omega
         ·have e4:decide ((i:Int)<(j:Int))=false:=decide_eq_false (by omega)
          have e5:decide (i<j)=false:=decide_eq_false c3
          have ai:Hid (cntN (beats f i) (j+1)=nn):=by show _=_;rw[aa.out,e2,e5];simp
          clear c1 c3 aa
          go_wp2_with fail
          first | (go_quiet (fail)) | fail
          go_wp2_with fail
          go_roundw
          case rel=>exact⟨j+1,by omega,by go_num,by rw[ai.out],below_drewN HZ.out _⟩
          case measure=>simp[intOf];omega
        ·have e3:((yj:Int)==(yi:Int))=false:=beq_eq_false_iff_ne.2 (by omega)
         have e4:decide (yj=yi)=false:=decide_eq_false c2
         have ai:Hid (cntN (beats f i) (j+1)=nn):=by show _=_;rw[aa.out,e2,e4];simp
         clear c1 aa
         go_wp2_with fail
         first | (go_quiet (fail)) | fail
         go_wp2_with fail
         go_roundw
         case rel=>exact⟨j+1,by omega,by go_num,by rw[ai.out],below_drewN HZ.out _⟩
         case measure=>simp[intOf];omega
      ·obtain rfl:j=k:=by omega
       obtain⟨ae,v,rfl,hv,-,bn⟩:=Rp.c8 (gH bc.out aq.out) i (by rw[aW.out];exact aX)
       have bj:v=((cntN (beats f i) j:Nat):Int):=by rw[<-hv];simp
       subst bj
       obtain⟨nn,aj⟩:=ex (cntN (beats f i) j)
       rw[aj] at bn ⊢
       have bo:((nn:Int) != (nn:Int))=false:=by simp
       clear hv aj
       go_wp2_with fail
       go_roundw
       case rel=>exact⟨i+1,by omega,by go_num,aq.out⟩
       case measure=>simp[intOf];omega
    ·obtain rfl:i=k:=by omega
     go_wp2_with fail
     go_ret
     exact⟨rfl,bt aE.out a3.out⟩
end
namespace Rp
open Go.ChangeShapes Go.WideShapes Go.RowKit Rs At Pg
theorem rl {H:Type}{enc:TypeId × Value->H}{P:Program}{W:World}{b0:Nat}{t e:TypeId}{v:Value}{d:DataW H}{ps:List MemPlace}
  (ht:P.underlying t=some (.slice e)) (hs:P.underlying e=some (.int .u8)) (ce:P.cellsOf e=1)
  (hval:Value.okWide P W .any b0 t v) (h:DataW.Trod enc P W 0 (fun _=>true) true t v d ps) :
  ∃ (A:Option Addr) (c:Nat) (l:List UInt8),v=.slice A l.length c/\Rg.Row encU8 1 W A l:=by
 obtain⟨a0,l0,k0,rfl⟩:=okWide_slice ht hval
 obtain⟨fuel,hf⟩:=h
 rcases Go.Deep.open_slice ht hf with⟨hcs,_⟩ | ⟨a,len,cap,m,n,D,Pl,hcs,_,hl,_,hmm,hx,hi⟩
 ·simp[Value.cells] at hcs
  obtain⟨rfl,rfl,rfl⟩:=hcs
  exact⟨none,0,[],rfl,fun h=>absurd h (by simp)⟩
 ·simp[Value.cells] at hcs
  obtain⟨rfl,rfl,rfl⟩:=hcs
  simp only[if_true] at hmm
  have each:∀ i,i<l0->∃ s:UInt8,Rg.At encU8 W (a.add (i*1)) s/\(a.add (i*1)).block<W.heap.size:=fun i hil=>by
   obtain⟨ab,hc,ac⟩:=hi i (by omega)
   rw[ce] at hc
   obtain⟨x,e0,_,wx⟩:=DataW.trod_int hs ac
   obtain⟨_,ad,ae⟩:=World.cells?_some hc
   have c0:=(ae 0 (by omega)).trans (show ab[0]?=some (.int .u8 x) by rw[e0];rfl)
   have ci:=bH c0
   rw[Rs.add_block] at ci
   have af:0<=x/\x<=255:=by have h:(decide ((0:Int)<=x)&&decide (x<=255))=true:=wx;simpa using h
   refine⟨UInt8.ofNat x.toNat,fun j u hu=>?_,ci⟩
   match j with
   | 0 =>
    have e:((UInt8.ofNat x.toNat).toNat:Int)=x:=by rw[UInt8.toNat_ofNat'];omega
    cases hu;rw[if_pos rfl]
    show _=some (Value.int .u8 ((UInt8.ofNat x.toNat).toNat:Int))
    rw[e];exact c0
   | j+1=>simp[encU8] at hu
  obtain⟨f,aa⟩:=Go.Deep.choose_lt each
  have hlen:((List.range l0).map f).length=l0:=by simp
  refine⟨some a,k0,(List.range l0).map f,by rw[hlen],fun h=>?_⟩
  rw[hlen] at h
  refine⟨a,rfl,?_,fun i hi2=>?_⟩
  ·have:=(aa 0 h).2
   rwa [Rs.add_block] at this
  ·rw[hlen] at hi2
   have:=(aa i hi2).1
   simpa using this
end Rp
end Go.Proofs.YtgnaiidgjmicaaaGreatDoor

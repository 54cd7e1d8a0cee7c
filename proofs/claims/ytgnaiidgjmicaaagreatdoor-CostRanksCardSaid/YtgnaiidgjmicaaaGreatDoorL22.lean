/- Part 22 of what the laws lean on. -/
import Derived.Test.YtgnaiidgjmicaaaGreatDoorL21
set_option maxRecDepth 100000
set_option maxHeartbeats 6400000
namespace Go.Proofs.YtgnaiidgjmicaaaGreatDoor
section
open Go.RowKit Rs At Pg Rp Ck Lk
attribute [local go_sem ↓] Go.wp_at_zero Go.wp_at_succ
attribute [local go_sem] Pg.aj
namespace Ck
def SetsRow (w:World) (A:Option Addr) (sets:List (List Int)):Prop:=∃ ds:List Desc,Rg.Row encO 1 w A ds/\ds.length=sets.length/\∀ (i:Nat) (d:Desc) (s:List Int),ds[i]?=some d->sets[i]?=some s->d.2.1=s.length/\IRow w d.1 s
theorem tM {w u:World}{A:Option Addr}{sets:List (List Int)}(h:SetsRow w A sets)(hb:Below w.heap.size w u):SetsRow u A sets:=by
 obtain⟨ds,h1,h2,h3⟩:=h
 exact⟨ds,Rg.ag h1 hb,h2,fun i d s e1 e2=>⟨(h3 i d s e1 e2).1,Rg.ag (h3 i d s e1 e2).2 hb⟩⟩
theorem zW {w:World}{A:Option Addr}{sets:List (List Int)}(h:SetsRow w A sets)(k:Nat)(hk:k<sets.length):∃ ad S sc,A=some ad/\IRow w S (sets[k]'hk)/\∀ u,Below w.heap.size w u->u.cell? (ad.add k)=some (.slice S (sets[k]'hk).length sc):=by
 obtain⟨ds,h1,h2,h3⟩:=h
 have aa:k<ds.length:=by omega
 obtain⟨ad,x,e,hx,hl,hc⟩:=Rg.bz h1 k aa
 subst hx
 have c0:=hc 0 _ rfl
 rw[if_pos rfl,Nat.mul_one] at c0
 obtain⟨e1,e2⟩:=h3 k _ _ (List.getElem?_eq_getElem aa) (List.getElem?_eq_getElem hk)
 rw[e1] at c0
 exact⟨ad,_,_,e,e2,fun u hb=>(hb.cell (bH c0)).trans c0⟩
def bestG (f:List Int->List Int):Nat->Nat->List Int->List (List Int)->Nat
 | _,b,_,[]=>b
 | i,b,ls,s :: r=>if i=0\/cmpL (f s) ls<0 then bestG f (i+1) i (f s) r else bestG f (i+1) b ls r
end Ck
theorem eJ (A K S:Option Addr)(n c kn kc m sc:Nat)(l:List Pk)(es:List LEnt)(sets:List (List Int))(w:World)(hw:MaxOk w)(hn:l.length=n)(hr:RRow w A l)(hl:n<=100000)(hf:Fine l)(hs:∀ p∈l,p.name.length<=1000000)
  (hen:es.length=kn) (hE:ERow w K es) (hel:kn<=100000) (hes:ESm es) (hm:sets.length=m) (hS:SetsRow w S sets) (hml:m<=100000) (hsh:∀ s∈sets,s.length<=100000) :
  Calls Tryz.prog 29 #[.slice A n c,.slice K kn kc,.slice S m sc] w fun e w'=>e=.returned (.tuple #[.int .i64 (bestG (costOf l es) 0 0 [] sets),.bool (decide (0<m))])/\Below w.heap.size w w':=by
 have aq:=zh (jk A K n c kn kc l es w hw hn hr hl hf hs hen hE hel hes)
 have ar:Hid (∀ u,Below w.heap.size w u->∀ R rc T tc,IRow u R (ranksL l)->Ck.TRow u T (titlesL l es)->∀ S s sc,s.length<=100000->IRow u S s->Calls Tryz.prog 61 #[.agg #[.slice A n c,.slice K kn kc,.slice R (ranksL l).length rc,.slice T (titlesL l es).length tc],.slice S s.length sc] u (NumRet u (costOf l es s))):=fun u h R rc T tc hR hT S s sc ai hS=>by
  have e:(ranksL l).length=n:=(ng l).trans hn
  rw[e]
  exact pS A K R T S n c kn kc rc _ tc _ sc l es (ranksL l) (titlesL l es) s u hn (aU hr h) hl hs hen (Rg.ag hE h) hel hes e hR (jl (by omega)) rfl hT (Nat.le_trans (gG l es) (by omega)) (iJ es hs) rfl hS ai
 have av:Hid (∀ s,(costOf l es s).length<=1000000):=fun s=>by
  show _<=_
  unfold costOf costL costA costC
  have:=gF (ranksF l (ranksL l) s []) (titlesL l es)
  have:=gG l es
  simp only[List.length_append,List.length_map]
  omega
 have HS:=zh hS
 have HM:=zh hm
 have aD:=zh hsh
 obtain⟨f,aA⟩:=ex (costOf l es)
 rw[aA] at ar av ⊢
 obtain⟨X,hX⟩:=ex (bestG f 0 0 [] sets)
 rw[hX]
 have HX:=zh hX
 obtain⟨bm,aj⟩:=ex (decide (0<m))
 rw[aj]
 have aE:=zh aj
 clear aj
 clear hw hn hr hf hs hen hE hes hm hS hsh aA hX
 go_enter Tryz.func29,Tryz.ntmps29
 go_wp2_with fail
 refine aq.out.mono ?_
 rintro _ u ⟨R,rc,T,tc,rfl,hR,hT,hb⟩
 obtain⟨V,hV⟩:=ex (u.alloc (.cells #[.slice A n c,.slice K kn kc,.slice R (ranksL l).length rc,.slice T (titlesL l es).length tc] 112))
 have ak:Hid (Below u.heap.size u V):=aa hV
 have al:Hid (Below w.heap.size w V):=bt hb ak.out
 have aw:=zh (jM hV)
 have HR:=zh (Rg.ag hR ak.out)
 have HT:=zh (Rg.ag hT ak.out)
 clear hR hT hb aq
 go_wp2_with fail
 clear hV
 obtain⟨b8,aB⟩:=ex u.heap.size
 rw[aB] at aw ⊢
 clear aB
 go_wp2_with fail
 go_loopw [9,10,19] (fun bv lv i wr=>∃ (k af:Nat) (ls:List Int) (L:Option Addr) (lc:Nat),k<=m/\i=.int .i64 k/\bv=.int .i64 af/\lv=.slice L ls.length lc/\Hid (IRow wr L ls)/\Hid (ls.length<=1000000)/\Hid (bestG f k af ls (sets.drop k)=X)/\Hid (Below V.heap.size V wr)) (fun _ _ i _=>m-(intOf i).toNat)
 case atStart=>exact⟨0,0,[],none,0,Nat.zero_le _,rfl,rfl,rfl,Rg.bu _ _,Nat.zero_le _,HX.out,Below.refl _ _⟩
 case round =>
  obtain⟨k,af,ls,L,lc,hk,rfl,rfl,rfl,HL,aJ,HB,ac⟩:=hrel
  by_cases ax:k<m
  ·have ah:k<sets.length:=by rw[HM.out];exact ax
   obtain⟨ad,SA,aK,rfl,ap,hc⟩:=zW (tM HS.out al.out) k ah
   have c0:=hc wr ac.out
   obtain⟨s0,s1,s2,s3,-⟩:=bc (a9 aw.out ac.out)
   have h1:=HB.out
   rw[List.drop_eq_getElem_cons ah,bestG] at h1
   have ai:=aD.out _ (List.getElem_mem ah)
   obtain⟨s,aC⟩:=ex (sets[k]'ah)
   rw[aC] at ap c0 h1 ai
   have HC:=zh (ar.out wr (bt al.out ac.out) R rc T tc (Rg.ag HR.out ac.out) (Rg.ag HT.out ac.out) SA s aK ai (Rg.ag ap ac.out))
   have H1:=zh h1
   have ay:=av.out s
   clear hc aC ai ap h1 ah HB
   go_wp2_with fail
   refine HC.out.mono ?_
   rintro _ u2 ⟨v,rfl,ho,hb⟩
   obtain⟨N,nc,rfl,hN,-,-⟩:=Rg.au fitsI ho
   have HN:=zh hN
   have az:Hid (IRow u2 L ls):=Rg.ag HL.out hb
   have am:Hid (Below V.heap.size V u2):=bt ac.out hb
   have ab:=zh ay
   obtain⟨q,hq⟩:=ex (f s)
   rw[hq] at HN ab H1 ⊢
   clear ho hN hb ay hq HC c0 s0 s1 s2 s3 HL
   have ae:Hid (k+1<=m):=ax
   by_cases aF:k=0
   ·subst aF
    have H2:Hid (bestG f (0+1) 0 q (sets.drop (0+1))=X):=by
     have:=H1.out
     rwa [if_pos (Or.inl rfl)] at this
    clear H1
    go_wp2_with fail
    go_roundw
    case rel=>exact⟨1,0,q,N,nc,ae.out,by first | rfl | go_num,rfl,rfl,HN.out,ab.out,H2.out,am.out⟩
    case measure=>have:=ae.out;simp[intOf];omega
   ·have e0:((k:Int)==0)=false:=by rw[beq_eq_false_iff_ne];omega
    have aL:¬ (k:Int)=0:=by omega
    have an:=zh (aH N L q.length ls.length nc lc q ls u2 rfl rfl HN.out az.out ab.out)
    obtain⟨x,hx⟩:=ex (cmpL q ls)
    rw[hx] at an H1
    by_cases ao:x<0
    ·have d0:decide (x<0)=true:=decide_eq_true ao
     have H2:Hid (bestG f (k+1) k q (sets.drop (k+1))=X):=by
      have:=H1.out
      rwa [if_pos (Or.inr ao)] at this
     clear H1 hx
     go_wp2_with fail
     refine an.out.mono ?_
     rintro _ w9 ⟨rfl,rfl⟩
     go_wp2_with fail
     go_roundw
     case rel=>exact⟨k+1,k,q,N,nc,ae.out,by go_num,rfl,rfl,HN.out,ab.out,H2.out,am.out⟩
     case measure=>have:=ae.out;simp[intOf];omega
    ·have d0:decide (x<0)=false:=decide_eq_false ao
     have H2:Hid (bestG f (k+1) af ls (sets.drop (k+1))=X):=by
      have:=H1.out
      rwa [if_neg (by omega)] at this
     clear H1 hx
     go_wp2_with fail
     refine an.out.mono ?_
     rintro _ w9 ⟨rfl,rfl⟩
     go_wp2_with fail
     go_roundw
     case rel=>exact⟨k+1,af,ls,L,lc,ae.out,by go_num,rfl,rfl,az.out,aJ.out,H2.out,am.out⟩
     case measure=>have:=ae.out;simp[intOf];omega
  ·obtain rfl:k=m:=by omega
   have aG:Hid (af=X):=by
    have:=HB.out
    rwa [show sets.drop k=[] from List.drop_eq_nil_of_le (by rw[HM.out];exact Nat.le_refl _),bestG] at this
   have aj:=aE.out
   have aI:decide ((0:Int)<(k:Int))=bm:=by rw[<-aj];simp
   have HF:Hid (Below w.heap.size w wr):=bt al.out ac.out
   clear HB HL
   go_wp2_with fail
   go_ret2
   exact⟨by rw[aG.out];rfl,HF.out⟩
end
section
open Go.RowKit Rs At Pg Rp
attribute [local go_sem ↓] Go.wp_at_zero Go.wp_at_succ
attribute [local go_sem] Pg.aj
def Rp.SeaRet (w:World) (p:Pk) (l:List Pk) (e:Ending) (w':World):Prop:=∃ (i:Nat) (b:Bool),e=.returned (.tuple #[.int .i64 i,.bool b])/\Rp.Place p l i/\(b=true↔∃ h:i<l.length,cmpP l[i] p=0)/\Below w.heap.size w w'
theorem Rp.zX {p:Pk}{l:List Pk}{n i:Nat}(hn:l.length=n)(h1:∀ (t:Nat) (h:t<l.length),t+1=i->cmpP l[t] p<0)(h2:∀ h:i<l.length,0<=cmpP l[i] p)(hi:i<=n):Rp.Place p l i:=⟨by omega,h1,fun h=>by have:=h2 h;omega⟩
theorem tN (A:Option Addr)(n c:Nat)(l:List Pk)(p:Pk)(yD yC yG:Option Addr)(ydn ydc ycn ycc ygn ygc:Nat)(ynm yvr:List UInt8)(ywt:Nat)(w:World)(hw:MaxOk w)(hn:l.length=n)(hr:RRow w A l)(hl:n<=100000)(ho:∀ q∈l,Vm.check q.ver=0)(hpv:Vm.check p.ver=0)(e0:p.name=ynm)(e1:p.ver=yvr) :
  Calls Tryz.prog 106 #[.slice A n c,.agg #[.string ⟨ynm.toArray⟩,.string ⟨yvr.toArray⟩,.slice yD ydn ydc,.slice yC ycn ycc,.slice yG ygn ygc,.float .f64 ywt],.func (.func 107) #[] #[]] w (SeaRet w p l):=by
 obtain⟨bx,aK⟩:=ex w.heap.size
 obtain⟨V,hV⟩:=ex (w.alloc (.cells #[.string ⟨ynm.toArray⟩,.string ⟨yvr.toArray⟩,.slice yD ydn ydc,.slice yC ycn ycc,.slice yG ygn ygc,.float .f64 ywt] 68))
 have aM:Hid (Below w.heap.size w V):=aa hV
 have ay:Hid (∀ u,Below V.heap.size V u->Below w.heap.size w u):=fun u h=>bt aM.out h
 have HX:Hid (∀ u,Below V.heap.size V u->u.cell? ⟨bx,0,none⟩=some (.string ⟨ynm.toArray⟩)/\u.cell? ⟨bx,1,none⟩=some (.string ⟨yvr.toArray⟩)/\u.cell? ⟨bx,2,none⟩=some (.slice yD ydn ydc)/\u.cell? ⟨bx,3,none⟩=some (.slice yC ycn ycc)/\u.cell? ⟨bx,4,none⟩=some (.slice yG ygn ygc)/\u.cell? ⟨bx,5,none⟩=some (.float .f64 ywt)):=fun u h=>by
  rw[<-aK]
  exact cF hV h
 have HM:=zh (fun u (h:Below w.heap.size w u)=>ab hw h)
 have HN:=zh hn
 have HR:=zh hr
 have HO:=zh ho
 have HC:Hid (∀ (q:Pk) (D C G:Option Addr) (dn dc cn cc gn gc:Nat) (nm vr:List UInt8) (wt:Nat),Vm.check q.ver=0->q.name=nm->q.ver=vr->∀ y,cmpP q p=y->∀ u,Below V.heap.size V u->Calls Tryz.prog 107 #[.agg #[.string ⟨nm.toArray⟩,.string ⟨vr.toArray⟩,.slice D dn dc,.slice C cn cc,.slice G gn gc,.float .f64 wt],.agg #[.string ⟨ynm.toArray⟩,.string ⟨yvr.toArray⟩,.slice yD ydn ydc,.slice yC ycn ycc,.slice yG ygn ygc,.float .f64 ywt]] u fun e w'=>e=.returned (.int .i64 y)/\Below u.heap.size u w'):=fun q D C G dn dc cn cc gn gc nm vr wt hq a0 a1 y hy u hu=>by
  subst hy a0 a1 e0 e1
  exact kU _ _ _ _ D C G yD yC yG dn dc cn cc gn gc ydn ydc ycn ycc ygn ygc wt ywt u (HM.out u (ay.out u hu)) hq hpv
 have aP:=zh (fun u (h:Below V.heap.size V u)=>(HX.out u h))
 clear hw hn hr ho hpv e0 e1
 go_enter Tryz.func106,Tryz.ntmps106
 go_wp2_with fail
 clear hV aK
 go_loopw [9,10] (fun a b wr=>∃ i j:Nat,i<=j/\j<=n/\a=.int .i64 i/\b=.int .i64 j/\Hid (∀ (t:Nat) (h:t<l.length),t+1=i->cmpP l[t] p<0)/\Hid (∀ h:j<l.length,0<=cmpP l[j] p)/\Hid (Below V.heap.size V wr)) (fun a b _=>(intOf b).toNat-(intOf a).toNat)
 case atStart=>exact⟨0,n,Nat.zero_le _,Nat.le_refl _,rfl,rfl,fun t h e=>by omega,fun h=>by have:=HN.out;omega,Below.refl _ _⟩
 case round =>
  obtain⟨i,j,aL,az,rfl,rfl,H1,H2,HB⟩:=hrel
  by_cases aw:i<j
  ·have aG:=zh aw
   obtain⟨s,hs⟩:=ex (i+j)
   obtain⟨k,hk⟩:=ex (s / 2)
   have af:k<l.length:=by rw[HN.out];omega
   have aH:i<=k:=by omega
   have aI:k<j:=by omega
   have w1:IntKind.i64.wrap ((i:Int)+(j:Int))=(s:Int):=by rw[IntKind.wrap_i64];omega
   have w2:IntKind.u64.wrap (s:Int)=(s:Int):=by rw[IntKind.wrap_u64];omega
   have w3:(s:Int) / 2=(k:Int):=by omega
   have w4:IntKind.i64.wrap (k:Int)=(k:Int):=by rw[IntKind.wrap_i64];omega
   have w5:IntKind.i64.wrap ((k:Int)+1)=((k+1:Nat):Int):=by rw[IntKind.wrap_i64];omega
   have aN:(k:Int)<(n:Int):=by have:=HN.out;omega
   have aO:(0:Int)<=(k:Int):=by omega
   have aC:=zh aH
   have aA:=zh aI
   have aJ:=zh az
   obtain⟨ad,xD,ah,xC,ai,xG,aj,rfl,-,-,-,ac⟩:=bB HR.out k af
   have aq:=HO.out _ (List.getElem_mem af)
   have aD:∀ (t:Nat) (h:t<l.length),t+1=k+1->cmpP l[t] p=cmpP l[k] p:=fun t h e=>by
    have:t=k:=by omega
    subst this;rfl
   obtain⟨q,hq⟩:=ex (l[k])
   rw[hq] at ac aq aD
   obtain⟨ak,h0⟩:=ex q.name
   obtain⟨al,h1⟩:=ex q.ver
   obtain⟨am,h2⟩:=ex q.deps.length
   obtain⟨an,h3⟩:=ex q.confl.length
   obtain⟨ao,h4⟩:=ex q.prov.length
   obtain⟨ap,h5⟩:=ex q.wt
   rw[h0,h1,h2,h3,h4,h5] at ac
   obtain⟨y,hy⟩:=ex (cmpP q p)
   have HF:=zh (HC.out q xD xC xG am ah an ai ao aj ak al ap aq h0 h1 y hy)
   have ar:Hid (∀ u,Below V.heap.size V u->(u.cell? ⟨bx,0,none⟩=some (.string ⟨ynm.toArray⟩)/\u.cell? ⟨bx,1,none⟩=some (.string ⟨yvr.toArray⟩)/\u.cell? ⟨bx,2,none⟩=some (.slice yD ydn ydc)/\u.cell? ⟨bx,3,none⟩=some (.slice yC ycn ycc)/\u.cell? ⟨bx,4,none⟩=some (.slice yG ygn ygc)/\u.cell? ⟨bx,5,none⟩=some (.float .f64 ywt))/\(u.cell? (ad.add (k*6))=some (.string ⟨ak.toArray⟩)/\u.cell? ⟨(ad.add (k*6)).block,(ad.add (k*6)).off+1,none⟩=some (.string ⟨al.toArray⟩)/\u.cell? ⟨(ad.add (k*6)).block,(ad.add (k*6)).off+2,none⟩=some (.slice xD am ah)/\u.cell? ⟨(ad.add (k*6)).block,(ad.add (k*6)).off+3,none⟩=some (.slice xC an ai)/\u.cell? ⟨(ad.add (k*6)).block,(ad.add (k*6)).off+4,none⟩=some (.slice xG ao aj)/\u.cell? ⟨(ad.add (k*6)).block,(ad.add (k*6)).off+5,none⟩=some (.float .f64 ap))):=fun u h=>⟨HX.out u h,ac u (ay.out u h)⟩
   have aE:Hid (y<0->∀ (t:Nat) (h:t<l.length),t+1=k+1->cmpP l[t] p<0):=fun aw t h e=>by rw[aD t h e,hy];exact aw
   have aF:Hid (¬ y<0->∀ h:k<l.length,0<=cmpP l[k] p):=fun aw h=>by rw[hq,hy];omega
   have ae:Hid (Below V.heap.size V wr.drew):=HB.out.drew
   clear ac aq aD hq h0 h1 h2 h3 h4 h5 hy af aH aI hs hk aw aL az
   by_cases ax:y<0
   ·have d1:decide (y<0)=true:=decide_eq_true ax
    have HQ:=zh (aE.out ax)
    have d0:decide (i<j)=true:=decide_eq_true aG.out
    clear aE aF ax
    go_wp2_with fail
    go_region_held3 (fun u=>(u.cell? ⟨bx,0,none⟩=some (.string ⟨ynm.toArray⟩)/\u.cell? ⟨bx,1,none⟩=some (.string ⟨yvr.toArray⟩)/\u.cell? ⟨bx,2,none⟩=some (.slice yD ydn ydc)/\u.cell? ⟨bx,3,none⟩=some (.slice yC ycn ycc)/\u.cell? ⟨bx,4,none⟩=some (.slice yG ygn ygc)/\u.cell? ⟨bx,5,none⟩=some (.float .f64 ywt))/\(u.cell? (ad.add (k*6))=some (.string ⟨ak.toArray⟩)/\u.cell? ⟨(ad.add (k*6)).block,(ad.add (k*6)).off+1,none⟩=some (.string ⟨al.toArray⟩)/\u.cell? ⟨(ad.add (k*6)).block,(ad.add (k*6)).off+2,none⟩=some (.slice xD am ah)/\u.cell? ⟨(ad.add (k*6)).block,(ad.add (k*6)).off+3,none⟩=some (.slice xC an ai)/\u.cell? ⟨(ad.add (k*6)).block,(ad.add (k*6)).off+4,none⟩=some (.slice xG ao aj)/\u.cell? ⟨(ad.add (k*6)).block,(ad.add (k*6)).off+5,none⟩=some (.float .f64 ap)))
     (first
      | with_reducible exact ar.out _ ae.out
      | with_reducible exact ar.out _ ag.out)
     ((go_at_call 107;refine (HF.out _ ae.out).mono ?_;rintro _ u2 ⟨rfl,hb⟩;have ag:=zh (bt ae.out hb);clear hb))
    have HE:=ag
    clear d1
    go_wp2_with fail
    go_roundw
    case rel=>exact⟨k+1,j,(by have:=aA.out;omega),aJ.out,rfl,rfl,HQ.out,H2.out,HE.out⟩
    case measure=>have:=aC.out;have:=aA.out;simp[intOf];omega
   ·have d1:decide (y<0)=false:=decide_eq_false ax
    have HQ:=zh (aF.out ax)
    have d0:decide (i<j)=true:=decide_eq_true aG.out
    clear aE aF ax
    go_wp2_with fail
    go_region_held3 (fun u=>(u.cell? ⟨bx,0,none⟩=some (.string ⟨ynm.toArray⟩)/\u.cell? ⟨bx,1,none⟩=some (.string ⟨yvr.toArray⟩)/\u.cell? ⟨bx,2,none⟩=some (.slice yD ydn ydc)/\u.cell? ⟨bx,3,none⟩=some (.slice yC ycn ycc)/\u.cell? ⟨bx,4,none⟩=some (.slice yG ygn ygc)/\u.cell? ⟨bx,5,none⟩=some (.float .f64 ywt))/\(u.cell? (ad.add (k*6))=some (.string ⟨ak.toArray⟩)/\u.cell? ⟨(ad.add (k*6)).block,(ad.add (k*6)).off+1,none⟩=some (.string ⟨al.toArray⟩)/\u.cell? ⟨(ad.add (k*6)).block,(ad.add (k*6)).off+2,none⟩=some (.slice xD am ah)/\u.cell? ⟨(ad.add (k*6)).block,(ad.add (k*6)).off+3,none⟩=some (.slice xC an ai)/\u.cell? ⟨(ad.add (k*6)).block,(ad.add (k*6)).off+4,none⟩=some (.slice xG ao aj)/\u.cell? ⟨(ad.add (k*6)).block,(ad.add (k*6)).off+5,none⟩=some (.float .f64 ap)))
     (first
      | with_reducible exact ar.out _ ae.out
      | with_reducible exact ar.out _ ag.out)
     ((go_at_call 107;refine (HF.out _ ae.out).mono ?_;rintro _ u2 ⟨rfl,hb⟩;have ag:=zh (bt ae.out hb);clear hb))
    have HE:=ag
    clear d1
    go_wp2_with fail
    go_roundw
    case rel=>exact⟨i,k,aC.out,(by have:=aA.out;have:=aJ.out;omega),rfl,rfl,H1.out,HQ.out,HE.out⟩
    case measure=>have:=aC.out;have:=aA.out;simp[intOf];omega
  ·obtain rfl:i=j:=by omega
   have aB:Hid (Rp.Place p l i):=zX HN.out H1.out H2.out az
   clear H1 H2 aw aL
   by_cases au:i<n
   ·have aQ:=zh au
    have af:i<l.length:=by rw[HN.out];exact au
    have aN:(i:Int)<(n:Int):=by omega
    have aO:(0:Int)<=(i:Int):=by omega
    have w4:IntKind.i64.wrap (i:Int)=(i:Int):=by rw[IntKind.wrap_i64];omega
    obtain⟨ad,xD,ah,xC,ai,xG,aj,rfl,-,-,-,ac⟩:=bB HR.out i af
    have aq:=HO.out _ (List.getElem_mem af)
    obtain⟨q,hq⟩:=ex (l[i])
    rw[hq] at ac aq
    obtain⟨ak,h0⟩:=ex q.name
    obtain⟨al,h1⟩:=ex q.ver
    obtain⟨am,h2⟩:=ex q.deps.length
    obtain⟨an,h3⟩:=ex q.confl.length
    obtain⟨ao,h4⟩:=ex q.prov.length
    obtain⟨ap,h5⟩:=ex q.wt
    rw[h0,h1,h2,h3,h4,h5] at ac
    obtain⟨y,hy⟩:=ex (cmpP q p)
    have HF:=zh (HC.out q xD xC xG am ah an ai ao aj ak al ap aq h0 h1 y hy)
    have ar:Hid (∀ u,Below V.heap.size V u->(u.cell? ⟨bx,0,none⟩=some (.string ⟨ynm.toArray⟩)/\u.cell? ⟨bx,1,none⟩=some (.string ⟨yvr.toArray⟩)/\u.cell? ⟨bx,2,none⟩=some (.slice yD ydn ydc)/\u.cell? ⟨bx,3,none⟩=some (.slice yC ycn ycc)/\u.cell? ⟨bx,4,none⟩=some (.slice yG ygn ygc)/\u.cell? ⟨bx,5,none⟩=some (.float .f64 ywt))/\(u.cell? (ad.add (i*6))=some (.string ⟨ak.toArray⟩)/\u.cell? ⟨(ad.add (i*6)).block,(ad.add (i*6)).off+1,none⟩=some (.string ⟨al.toArray⟩)/\u.cell? ⟨(ad.add (i*6)).block,(ad.add (i*6)).off+2,none⟩=some (.slice xD am ah)/\u.cell? ⟨(ad.add (i*6)).block,(ad.add (i*6)).off+3,none⟩=some (.slice xC an ai)/\u.cell? ⟨(ad.add (i*6)).block,(ad.add (i*6)).off+4,none⟩=some (.slice xG ao aj)/\u.cell? ⟨(ad.add (i*6)).block,(ad.add (i*6)).off+5,none⟩=some (.float .f64 ap))):=fun u h=>⟨HX.out u h,ac u (ay.out u h)⟩
    obtain⟨z,hz⟩:=ex (y==0)
    have av:Hid (∀ u,Below V.heap.size V u->SeaRet w p l (.returned (.tuple #[.int .i64 i,.bool z])) u):=fun u h=>⟨i,z,rfl,aB.out,by
     rw[<-hz,beq_iff_eq]
     exact⟨fun e=>⟨af,by rw[hq,hy];exact e⟩,fun⟨_,e⟩=>by rw[hq,hy] at e;exact e⟩,ay.out u h⟩
    have ae:Hid (Below V.heap.size V wr.drew):=HB.out.drew
    have d0:decide (i<n)=true:=decide_eq_true au
    have d2:decide (i<i)=false:=decide_eq_false (Nat.lt_irrefl _)
    clear ac aq hq h0 h1 h2 h3 h4 h5 hy af au az aB
    go_wp2_with fail
    go_region_held3 (fun u=>(u.cell? ⟨bx,0,none⟩=some (.string ⟨ynm.toArray⟩)/\u.cell? ⟨bx,1,none⟩=some (.string ⟨yvr.toArray⟩)/\u.cell? ⟨bx,2,none⟩=some (.slice yD ydn ydc)/\u.cell? ⟨bx,3,none⟩=some (.slice yC ycn ycc)/\u.cell? ⟨bx,4,none⟩=some (.slice yG ygn ygc)/\u.cell? ⟨bx,5,none⟩=some (.float .f64 ywt))/\(u.cell? (ad.add (i*6))=some (.string ⟨ak.toArray⟩)/\u.cell? ⟨(ad.add (i*6)).block,(ad.add (i*6)).off+1,none⟩=some (.string ⟨al.toArray⟩)/\u.cell? ⟨(ad.add (i*6)).block,(ad.add (i*6)).off+2,none⟩=some (.slice xD am ah)/\u.cell? ⟨(ad.add (i*6)).block,(ad.add (i*6)).off+3,none⟩=some (.slice xC an ai)/\u.cell? ⟨(ad.add (i*6)).block,(ad.add (i*6)).off+4,none⟩=some (.slice xG ao aj)/\u.cell? ⟨(ad.add (i*6)).block,(ad.add (i*6)).off+5,none⟩=some (.float .f64 ap)))
     (first
      | with_reducible exact ar.out _ ae.out
      | with_reducible exact ar.out _ ag.out)
     ((go_at_call 107;refine (HF.out _ ae.out).mono ?_;rintro _ u2 ⟨rfl,hb⟩;have ag:=zh (bt ae.out hb);clear hb))
    go_wp2_with fail
    go_ret2
    exact av.out _ ag.out
   ·have av:Hid (∀ u,Below V.heap.size V u->SeaRet w p l (.returned (.tuple #[.int .i64 i,.bool false])) u):=fun u h=>⟨i,false,rfl,aB.out,⟨fun e=>(by cases e),fun⟨h,_⟩=>absurd (by rw[HN.out] at h;exact h) au⟩,ay.out u h⟩
    have d0:decide (i<n)=false:=decide_eq_false au
    have d2:decide (i<i)=false:=decide_eq_false (Nat.lt_irrefl _)
    clear au az aB
    go_wp2_with fail
    go_quiet (fail)
    go_wp2_with fail
    go_ret2
    exact av.out _ (Sz.vE HB.out _)
def Rp.PkgOfRet (w:World) (X:Int × Int × Pk) (s:List Sz.Fld) (e:Ending) (w':World):Prop:=Below w.heap.size w w'/\(if X.1=0 then ∃ D dc C cc G gc B,e=.returned (.agg (pCells X.2.2 D C G dc cc gc))/\w.heap.size<=B/\PRows B w' X.2.2 D C G else e=panAt (lineAt s X.2.1) X.1)
theorem Rp.vW {u:World}{b:Nat}(h:u.heap[b]?=some (.cells zeroC 68 (0,0)))(p:Pk)(D C G:Option Addr)(dc cc gc:Nat){tmps:Array Value}(ht:tmps.getD 2 undef=.pointer (some ⟨b,0,none⟩)) :
  (results Tryz.f105 tmps).run Tryz.prog (stP u b p D C G dc cc gc)=.ok (.agg (pCells p D C G dc cc gc)) (stP u b p D C G dc cc gc):=by
 obtain⟨g0,g1,g2,g3,g4,g5⟩:=bO (jJ h p D C G dc cc gc)
 have hr:Tryz.f105.results=#[.cell 2 68]:=Tryz.results105
 simp only[results,hr]
 generalize stP u b p D C G dc cc gc=V at *
 simp only[Array.getD_eq_getD_getElem?] at ht ⊢
 simp[go_sem,ht,g0,g1,g2,g3,g4,g5]
theorem nI (A:Option Addr)(n c:Nat)(l:List Sz.Fld)(w:World)(hk:KOk w)(hn:l.length=n)(hr:Rg.Row Sz.encF 3 w A l)(hl:n<=1000)(hs:Sz.Short l)(hv:∀ f∈l,ValFit f.key f.val)(h0:l≠[]) :
  Calls Tryz.prog 105 #[.slice A n c] w (PkgOfRet w (fromP l) l):=by
 obtain⟨X,hX⟩:=ex (fromP l)
 rw[hX]
 obtain⟨k,i,p⟩:=X
 obtain⟨l1,l2,_⟩:=zS hX h0
 obtain⟨j,rfl⟩:∃ j:Nat,i=j:=⟨i.toNat,by omega⟩
 have am:j<l.length:=by omega
 have au:lineAt l (j:Int)=l[j].line:=by unfold lineAt;rw[Int.toNat_natCast,List.getElem?_eq_getElem am]
 obtain⟨W0,af⟩:=ex (w.alloc (.cells zeroC 68))
 have aj:Hid (Below w.heap.size w W0):=aa af
 have HZ:Hid (∀ u,Below W0.heap.size W0 u->u.heap[w.heap.size]?=some (.cells zeroC 68 (0,0))):=fun u h=>(h.block _ (by rw[<-af];simp)).trans (by rw[<-af];exact heap_alloc_new w _)
 have aC:Hid (W0.heap.size=w.heap.size+1):=by show _=_;rw[<-af];simp
 have HC:=zh (q9 A n c l W0 (aY hk aj.out) hn (Rg.ag hr aj.out) hl hs hv)
 rw[hX] at HC
 obtain⟨L,hL⟩:=ex (l[j].line)
 have HL:Hid (lineAt l (j:Int)=L):=by show _=_;rw[au,hL]
 have aD:=zh hr
 have HN:=zh hn
 obtain⟨ad,hA,-,-,-,al⟩:=Sz.eI hr j am
 rw[hL] at al
 have aE:Hid (∀ u,Below w.heap.size w u->u.cell? ⟨(ad.add (j*3)).block,(ad.add (j*3)).off+2,none⟩=some (.int .i64 L)):=fun u h=>(h.cell (p:=⟨(ad.add (j*3)).block,(ad.add (j*3)).off+2,none⟩) (bH al)).trans al
 have aH:(0:Int)<=(j:Int):=by omega
 have aI:(j:Int)<(n:Int):=by omega
 subst hA
 clear hk hn hr hl hs hv h0 hX l1 l2 am au hL al
 go_enter Tryz.func105,Tryz.ntmps105
 go_wp2_with fail
 clear af
 refine HC.out.mono ?_
 rintro e z1 ⟨hb,D,dc,C,cc,G,gc,rfl,ab⟩
 have HB:=zh hb
 have HR:=zh ab
 dsimp only
 clear hb ab HC
 obtain⟨nm,vr,ah,ac,ai,wt⟩:=p
 obtain⟨dn,az⟩:=ex ah.length
 obtain⟨cn,aA⟩:=ex ac.length
 obtain⟨gn,aB⟩:=ex ai.length
 obtain⟨b2,aG⟩:=ex z1.heap.size
 obtain⟨V,hV⟩:=ex (z1.alloc (.cells #[.string ⟨nm.toArray⟩,.string ⟨vr.toArray⟩,.slice D dn dc,.slice C cn cc,.slice G gn gc,.float .f64 wt] 68))
 have HV:Hid (Below z1.heap.size z1 V):=aa hV
 have av:Hid (Below W0.heap.size W0 V):=bt HB.out HV.out
 have an:Hid (Below w.heap.size w V):=bt aj.out av.out
 obtain⟨y0,y1,y2,y3,y4,y5⟩:=cF hV (Below.refl _ _)
 have aJ:=aE.out V an.out
 rw[aG] at y0 y1 y2 y3 y4 y5
 have aF:=zh (jj HR.out HV.out)
 simp only[pCells,az,aA,aB]
 by_cases ak:k=0
 case neg =>
  have d0:(k==0)=false:=by simpa using ak
  have HK:=zh ak
  clear ak
  go_wp2_with fail
  clear hV
  refine (ao _).mono ?_
  rintro _ z ⟨rfl,rfl⟩
  go_wp2_with fail
  refine⟨rfl,an.out,?_⟩
  rw[if_neg HK.out,HL.out]
 subst ak
 have hz:=HZ.out V av.out
 obtain⟨k0,k1,k2,k3,k4,k5⟩:=bO hz
 have z0:=aK hz 0
 have aL:=aK hz 1
 have z2:=aK hz 2
 have z3:=aK hz 3
 have z4:=aK hz 4
 have z5:=aK hz 5
 have aw:=zh hz
 clear hz
 go_wp2_with fail
 clear hV
 refine (ax _).mono ?_
 rintro _ z ⟨rfl,rfl⟩
 go_wp2_with fail
 (try simp only[Exit.inBlock,Exit.then])
 subst az aA aB
 obtain⟨P,hP⟩:∃ P:Pk,(⟨nm,vr,ah,ac,ai,wt⟩:Pk)=P:=⟨_,rfl⟩
 have ap:=fP V w.heap.size P D C G dc cc gc
 have aq:=iF an.out (Nat.le_refl _) P D C G dc cc gc
 have ar:=fun tmps h=>vW (tmps:=tmps) aw.out P D C G dc cc gc h
 have ay:=ba aF.out ap (by rw[aC.out];omega) (gC aw.out)
 rw[hP] at ay ⊢
 have ae:PkgOfRet w (0,(j:Int),P) l (.returned (.agg (pCells P D C G dc cc gc))) (stP V w.heap.size P D C G dc cc gc):=by
  refine⟨aq,?_⟩
  rw[if_pos rfl]
  exact⟨D,dc,C,cc,G,gc,W0.heap.size,rfl,aj.out.size,ay⟩
 subst hP
 exact bodyPost_ret (ar _ rfl) rfl ae
theorem tO (A:Option Addr)(n c b1 i B:Nat)(ds:List PD)(l:List Pk)(d:PD)(p:Pk)(w:World)(ho:Rp.POwn w B 68 (.slice A n c) ds l)(hn:l.length=n)(hi:i<=n)(hd:PFar (Value.slice A n c).ownBlock w d p)(TX:TypeId)(hx:w.heap[b1]?=some (.cells (encP d).toArray TX (0,0)))(hne:(Value.slice A n c).ownBlock≠some b1)(hl:n<=100000)(hB:B<=w.heap.size) :
  Calls Tryz.prog 108 #[.slice A n c,.int .i64 i,.slice (some ⟨b1,0,none⟩) 1 1] w fun e w'=>∃ A' c' ds',e=.returned (.slice A' (n+1) c')/\Rp.POwn w' B 68 (.slice A' (n+1) c') ds' (l.take i++p :: l.drop i)/\Below B w w':=by
 have ac:ds.length=n:=ho.2.2.1.trans hn
 have hlen:(l.take i++p :: l.drop i).length=n+1:=by simp only[List.length_append,List.length_take,List.length_cons,List.length_drop,hn];omega
 have fin:∀ e w',InsRet w B 68 (.slice A n c) (ds.take i++d :: ds.drop i) e w'->∃ A' c' ds',e=.returned (.slice A' (n+1) c')/\Rp.POwn w' B 68 (.slice A' (n+1) c') ds' (l.take i++p :: l.drop i)/\Below B w w':=fun e w' ⟨v',he,h1,h2,h3,h4⟩=>by
  have hp:=yo ho hd (by omega) h1 h2 h3 h4
  obtain⟨A',c',hv,_,_⟩:=gD hp
  rw[hlen] at hv
  subst hv
  exact⟨A',c',_,he,hp,Rg.ak ho.1 hB h4⟩
 obtain⟨A0,c0,ai,_,ag,ae⟩:=Rg.au fitsP ho.1
 obtain⟨_,_,rfl⟩:A=A0/\n=ds.length/\c=c0:=by injection ai with a b c;exact⟨a,b,c⟩
 rw[ac] at ag
 have aa:∀ j u,(encP d)[j]?=some u->w.cell? ⟨b1,j,none⟩=some u:=fun j u h=>by rw[cell_of_row w b1 j _ _ (0,0) hx];simpa using h
 by_cases ah:i=n
 ·subst ah
  exact (tB A i c b1 B ds d w ho.1 ac ho.2.1 aa hl hB ag ae).mono fin
 ·have af:i<n:=by omega
  obtain⟨g,rfl,hg,_,_⟩:=Rg.oo ho.1 (by omega)
  have ad:b1≠g:=fun e=>hne (by rw[e];rfl)
  by_cases ab:n+1<=c
  ·exact (pP g n c b1 i B ds d w ho.1 ac af ab ho.2.1 TX hx ad hl).mono fin
  ·exact (ra g n c b1 i B ds d w ho.1 ac af (by omega) TX hx hl).mono fin
def Rp.PsRet (w:World) (R:Int × Int × List Pk) (e:Ending) (w':World):Prop:=Below w.heap.size w w'/\(if R.1=0 then ∃ A c,e=.returned (.slice A R.2.2.length c)/\RRow w' A R.2.2 else (e=panAt R.2.1 R.1\/(e=pan R.1/\R.2.1=0)))
def Rp.Fits1 (G:List (List Sz.Fld)):Prop:=∀ s∈G,s.length<=1000/\Sz.Short s/\∀ f∈s,ValFit f.key f.val
theorem Rp.zY {s:List Sz.Fld}{G:List (List Sz.Fld)}{acc:List Pk}{R:Int × Int × List Pk}(h:takeL (s :: G) acc=R):((fromP s).1≠0->R=((fromP s).1,lineAt s (fromP s).2.1,[]))/\((fromP s).1=0->(ins (fromP s).2.2 acc=none->R=(6,lineAt s 0,[]))/\∀ r,ins (fromP s).2.2 acc=some r->takeL G r=R):=by
 unfold takeL at h
 refine⟨fun hc=>by rw[if_pos hc] at h;exact h.symm,fun hc=>⟨fun hi=>?_,fun r hi=>?_⟩⟩
 ·rw[if_neg (fun e=>e hc),hi] at h;exact h.symm
 ·rw[if_neg (fun e=>e hc),hi] at h;exact h
def Rp.PLoop (z:World) (G:List (List Sz.Fld)) (R:Int × Int × List Pk) (k:Nat) (v:Value) (u:World) (ds:List PD) (acc:List Pk):Prop:=takeL (G.drop k) acc=R/\Rp.POwn u z.heap.size 68 v ds acc/\Ord acc/\(∀ p∈acc,checkP p=0)/\acc.length<=k/\Below z.heap.size z u
theorem Rp.zZ {acc:List Pk}(h:∀ p∈acc,checkP p=0):∀ p∈acc,Vm.check p.ver=0:=fun p hp=>pC (h p hp)
theorem tP (t:List UInt8)(w:World)(hk:KOk w)(hf:Fits1 (Sz.parseS t).2.2) :
  Calls Tryz.prog 64 #[.string ⟨t.toArray⟩] w (PsRet w (parseR t)):=by
 obtain⟨R,hR⟩:=ex (parseR t)
 rw[hR]
 unfold parseR at hR
 have aN:=lW t
 have HC:=zh (kL t w hk.1)
 obtain⟨X,hX⟩:=ex (Sz.parseS t)
 rw[hX] at HC hR hf aN
 obtain⟨k0,ln,G⟩:=X
 dsimp only at hR hf aN
 have HK:=zh hk
 have HF:=zh hf
 have bJ:=zh aN
 have aO:=zh hR
 clear hk hf aN hR hX
 go_enter Tryz.func64,Tryz.ntmps64
 go_wp2_with fail
 refine HC.out.mono ?_
 rintro _ z ⟨A,c,rfl,hg,hb⟩
 have HG:=zh hg
 have HB:=zh hb
 dsimp only
 clear hg hb HC
 obtain⟨n,hn⟩:=ex G.length
 rw[hn]
 have HN:=zh hn
 clear hn
 by_cases ay:k0=0
 case neg =>
  have d0:(k0==0)=false:=by simpa using ay
  have az:Hid (R=(k0,ln,[])):=by show _=_;rw[<-aO.out,if_pos ay]
  have bK:=zh ay
  clear ay aO
  go_wp2_with fail
  refine (ao _).mono ?_
  rintro _ u ⟨rfl,rfl⟩
  go_wp2_with fail
  exact⟨rfl,HB.out,by rw[az.out,if_neg bK.out];exact Or.inl rfl⟩
 subst ay
 have aP:Hid ((if 64<G.length then ((4:Int),(0:Int),([]:List Pk)) else takeL G [])=R):=by show _=_;rw[<-aO.out,if_neg (show ¬ ((0:Int)≠0) by decide)]
 clear aO
 go_wp2_with fail
 refine (ax _).mono ?_
 rintro _ u ⟨rfl,rfl⟩
 by_cases aQ:64<n
 ·have d0:decide ((n:Int)<=64)=false:=decide_eq_false (by omega)
  have az:Hid (R=(4,0,[])):=by show _=_;rw[<-aP.out,if_pos (by rw[HN.out];exact aQ)]
  clear aP aQ
  go_wp2_with fail
  refine (ai _).mono ?_
  rintro _ u ⟨rfl,rfl⟩
  go_wp2_with fail
  exact⟨rfl,HB.out,by rw[az.out,if_neg (by decide)];exact Or.inr ⟨rfl,rfl⟩⟩
 have d0:decide ((n:Int)<=64)=true:=decide_eq_true (by omega)
 have bL:n<=64:=by omega
 have az:Hid (takeL (G.drop 0) []=R):=by show _=_;rw[List.drop_zero,<-aP.out,if_neg (by rw[HN.out];exact aQ)]
 clear aP aQ
 go_wp2_with fail
 refine (ah _).mono ?_
 rintro _ u ⟨rfl,rfl⟩
 clear d0
 go_wp2_with fail
 go_loopw [6,29] (fun v i wr=>∃ (k:Nat) (ds:List PD) (acc:List Pk),k<=n/\i=.int .i64 k/\Hid (PLoop z G R k v wr ds acc)) (fun _ i _=>n-(intOf i).toNat)
 case atStart=>exact⟨0,[],[],Nat.zero_le _,rfl,az.out,yn _ _ _,fun i j hi=>by simp at hi,fun p hp=>(by cases hp),Nat.le_refl _,Below.refl _ _⟩
 case round =>
  obtain⟨k,ds,acc,hk,rfl,HL⟩:=hrel
  by_cases a7:k<n
  ·have aA:k<G.length:=by rw[HN.out];exact a7
   obtain⟨l1,l2,l3,l4,l5,l6⟩:=HL.out
   rw[List.drop_eq_getElem_cons aA] at l1
   obtain⟨ad,C,bz,cc,rfl,aZ,an,ap⟩:=Sz.zO (Gr.ag HG.out l6) k aA
   have aj:=HF.out _ (List.getElem_mem aA)
   have al:=bJ.out _ (List.getElem_mem aA)
   have bM:=ap _ (Below.refl _ _)
   obtain⟨s,hs⟩:=ex (G[k])
   rw[hs] at l1 aZ an aj al
   obtain⟨t1,t2⟩:=zY l1
   have a8:=zh (nI C bz cc s wr (aY (aY HK.out HB.out) l6) aZ an (by rw[<-aZ];exact aj.1) aj.2.1 aj.2.2 al)
   have ar:∀ i p,fromP s=(0,i,p)->checkP p=0:=fun i p h=>yl h
   have au:0<s.length:=List.length_pos_iff.2 al
   have a9:lineAt s 0=s[0].line:=by unfold lineAt;rw[show (0:Int).toNat=0 from rfl,List.getElem?_eq_getElem au]
   obtain⟨sd,bV,-,-,-,ac⟩:=Sz.eI an 0 au
   obtain⟨L0,bA⟩:=ex (s[0].line)
   rw[bA] at a9 ac
   rw[a9] at t2
   rw[Nat.zero_mul,Rg.add_zero] at ac
   obtain⟨X,hX⟩:=ex (fromP s)
   rw[hX] at a8 t1 t2 ar
   obtain⟨k1,i1,p⟩:=X
   dsimp only at t1 t2
   have bn:=zh t1
   have bo:=zh t2
   have aB:=zh ar
   have aR:=zh l2
   have aC:=zh l3
   have aD:=zh l4
   have bp:=zh l5
   have aS:=zh l6
   have aE:Hid (∀ u,Below wr.heap.size wr u->u.cell? ⟨sd.block,sd.off+2,none⟩=some (.int .i64 L0)):=fun u h=>(h.cell (p:=⟨sd.block,sd.off+2,none⟩) (bH ac)).trans ac
   have b0:(0:Int)<(bz:Int):=by omega
   subst bV
   have ba:=zh a7
   clear t1 t2 ar l1 l2 l3 l4 l5 l6 HL aj al an ap aA hs aZ hX a9 bA ac au a7 hk
   go_wp2_with fail
   clear bM
   refine a8.out.mono ?_
   rintro e z1 ⟨bB,af⟩
   have bq:=zh bB
   clear bB a8
   dsimp only at af
   by_cases aF:k1=0
   case neg =>
    obtain rfl:e=panAt (lineAt s i1) k1:=by rw[if_neg aF] at af;exact af
    have bb:=zh (bn.out aF)
    have bN:=zh aF
    clear af aF
    go_wp2_with fail
    exact⟨rfl,HB.out.trans ((bt aS.out bq.out).mono HB.out.size),by rw[bb.out,if_neg bN.out];exact Or.inl rfl⟩
   subst aF
   rw[if_pos rfl] at af
   obtain⟨D,dc,C2,av,G2,aw,B1,rfl,bC,aq⟩:=af
   have ak:=aB.out _ _ rfl
   obtain⟨u1,u2⟩:=bo.out rfl
   have bc:=zh u1
   have bd:=zh u2
   have bO:Hid (Vm.check p.ver=0):=pC ak
   have be:=zh ak
   have aG:=zh aq
   have bf:=zh bC
   obtain⟨A3,c3,a6,_,_⟩:=gD aR.out
   obtain⟨n3,bm⟩:=ex acc.length
   rw[bm] at a6
   subst a6
   have bg:=zh bm
   have bP:n3<=64:=by have:=bp.out;have:=ba.out;omega
   clear u1 u2 ak aq bC aB bn bo bm
   obtain⟨nm,h0⟩:=ex p.name
   obtain⟨vr,h1⟩:=ex p.ver
   obtain⟨dn,h2⟩:=ex p.deps.length
   obtain⟨cn,h3⟩:=ex p.confl.length
   obtain⟨gn,h4⟩:=ex p.prov.length
   obtain⟨wt,h5⟩:=ex p.wt
   simp only[pCells,h0,h1,h2,h3,h4,h5]
   obtain⟨V,hV⟩:=ex (z1.alloc (.cells #[.string ⟨nm.toArray⟩,.string ⟨vr.toArray⟩,.slice D dn dc,.slice C2 cn av,.slice G2 gn aw,.float .f64 wt] 68))
   have HV:Hid (Below z1.heap.size z1 V):=aa hV
   have bh:Hid (Below wr.heap.size wr V):=bt bq.out HV.out
   have bQ:Hid (Below z.heap.size z V):=bt aS.out bh.out
   have bR:=zh (kX aR.out bh.out)
   have aH:Hid (RRow V A3 acc):=by
    obtain⟨A4,c4,bW,bX,_⟩:=gD bR.out
    injection bW with e1 _ _
    subst e1
    exact bX
   have aI:=zh (tN A3 n3 c3 acc p D C2 G2 dn dc cn av gn aw nm vr wt V (ab (ab HK.out.1 HB.out) bQ.out) bg.out aH.out (by omega) (zZ aD.out) bO.out h0 h1)
   obtain⟨bv,bY⟩:=ex z1.heap.size
   have br:Hid (∀ u',Below V.heap.size V u'->u'.cell? ⟨bv,0,none⟩=some (.string ⟨nm.toArray⟩)/\u'.cell? ⟨bv,1,none⟩=some (.string ⟨vr.toArray⟩)/\u'.cell? ⟨bv,2,none⟩=some (.slice D dn dc)/\u'.cell? ⟨bv,3,none⟩=some (.slice C2 cn av)/\u'.cell? ⟨bv,4,none⟩=some (.slice G2 gn aw)/\u'.cell? ⟨bv,5,none⟩=some (.float .f64 wt)):=fun u' h=>by
    rw[<-bY]
    exact cF hV h
   obtain⟨g0,g1,g2,g3,g4,g5⟩:=br.out V (Below.refl _ _)
   have HH:Hid (p.name=nm/\p.ver=vr/\p.deps.length=dn/\p.confl.length=cn/\p.prov.length=gn/\p.wt=wt):=⟨h0,h1,h2,h3,h4,h5⟩
   clear h0 h1 h2 h3 h4 h5
   go_wp2_with fail
   clear hV g0 g1 g2 g3 g4 g5
   refine aI.out.mono ?_
   rintro _ u ⟨i,b,rfl,bD,bE,bF⟩
   have bs:=zh bD
   have aU:=zh bE
   have aV:=zh bF
   clear bD bE bF aI
   have aW:Hid (Below wr.heap.size wr u):=bt bh.out aV.out
   have b1:=aE.out u aW.out
   have aX:Hid (ins p acc=if ∃ h:i<acc.length,cmpP acc[i] p=0 then none else some (acc.take i++p :: acc.drop i)):=m7 aC.out bs.out
   cases b with
   | true =>
    have bb:Hid (R=(6,L0,[])):=bc.out (by rw[aX.out,if_pos (aU.out.1 rfl)])
    clear bc bd aX aU
    go_wp2_with fail
    refine (ao _).mono ?_
    rintro _ u' ⟨rfl,rfl⟩
    go_wp2_with fail
    exact⟨rfl,HB.out.trans ((bt aS.out aW.out).mono HB.out.size),by rw[bb.out,if_neg (show ¬ (6:Int)=0 by decide)];exact Or.inl rfl⟩
   | false =>
    have am:Hid (ins p acc=some (acc.take i++p :: acc.drop i)):=by
     show _=_
     rw[aX.out,if_neg (fun h=>by have:=aU.out.2 h;cases this)]
    have bS:=zh (bd.out _ am.out)
    have aJ:=zh (si aC.out am.out)
    have aK:Hid (∀ q∈acc.take i++p :: acc.drop i,checkP q=0):=fun q hq=>by
     rcases (lV am.out q).1 hq with h | h
     ·rw[h];exact be.out
     ·exact aD.out q h
    have bi:Hid ((acc.take i++p :: acc.drop i).length<=k+1):=by show _<=_;rw[sf am.out];exact Nat.succ_le_succ bp.out
    have bT:Hid (i<=n3):=by show _<=_;rw[<-bg.out];exact bs.out.1
    obtain⟨U,hU⟩:=ex (u.alloc (.cells #[.string ⟨nm.toArray⟩,.string ⟨vr.toArray⟩,.slice D dn dc,.slice C2 cn av,.slice G2 gn aw,.float .f64 wt] 68))
    have bu:Hid (Below u.heap.size u U):=aa hU
    have aL:Hid (Below wr.heap.size wr U):=bt aW.out bu.out
    have bw:Hid (Below z.heap.size z U):=bt aS.out aL.out
    obtain⟨g0,g1,g2,g3,g4,g5⟩:=br.out u aV.out
    have bx:Hid (∀ g,(Value.slice A3 n3 c3).ownBlock=some g->g<wr.heap.size):=fun g hg=>(Rg.aT aR.out.1 g hg).2
    have bj:Hid (PFar (Value.slice A3 n3 c3).ownBlock U ⟨nm,vr,(D,dn,dc),(C2,cn,av),(G2,gn,aw),wt⟩ p):=by
     obtain⟨a0,a1,a2,a3,a4,a5⟩:=HH.out
     subst a0 a1 a2 a3 a4 a5
     exact kW (vM aG.out (fun g hg=>Nat.lt_of_lt_of_le (bx.out g hg) bf.out) dc av aw) ((bt HV.out aV.out).trans (bu.out.mono (bt HV.out aV.out).size))
    have ae:=zh (tO A3 n3 c3 u.heap.size i z.heap.size ds acc ⟨nm,vr,(D,dn,dc),(C2,cn,av),(G2,gn,aw),wt⟩ p U (kX aR.out aL.out) bg.out bT.out bj.out 68 (by rw[<-hU];exact heap_alloc_new u _) (fun e=>by have:=bx.out _ e;have:=aW.out.size;omega) (by omega) bw.out.size)
    clear bc bd aX aU
    go_wp2_with fail
    refine (ax _).mono ?_
    rintro _ u' ⟨rfl,rfl⟩
    go_wp2_with fail
    clear hU g0 g1 g2 g3 g4 g5
    refine ae.out.mono ?_
    rintro _ x ⟨A5,c5,bZ,rfl,aM,bG⟩
    have bk:=zh aM
    have bU:Hid (Below z.heap.size z x):=bw.out.trans bG
    clear aM bG ae
    go_wp2_with fail
    go_roundw
    case rel=>exact⟨k+1,bZ,acc.take i++p :: acc.drop i,(by have:=ba.out;omega),by go_num,bS.out,bk.out,aJ.out,aK.out,bi.out,bU.out⟩
    case measure=>have:=ba.out;simp[intOf];omega
  ·obtain rfl:k=n:=by omega
   obtain⟨l1,l2,l3,l4,l5,l6⟩:=HL.out
   rw[List.drop_eq_nil_of_le (by rw[HN.out];exact Nat.le_refl _)] at l1
   obtain⟨A3,c3,a6,bI,_⟩:=gD l2
   have bl:Hid (PsRet w R (.returned (.slice A3 acc.length c3)) wr):=⟨bt HB.out l6,by
    rw[<-l1]
    exact⟨A3,c3,rfl,bI⟩⟩
   clear l1 l2 l3 l4 l5 l6 HL bI
   subst a6
   go_wp2_with fail
   go_ret
   exact bl.out
end
section
open Go.RowKit Rs At Pg Rp
namespace Rp
theorem iV {α:Type}{enc:α->List Value}{K:Nat}{w:World}{A:Option Addr}{l:List α}{b:Nat}{x:Int}{T:TypeId}(h:Rg.Row enc K w A l)(hb:w.heap[b]?=some (.cells #[.int .i64 x] T (0,0)))(he:∀ y,∃ v,(enc y)[0]?=some v/\∀ z,v≠.int .i64 z):0<l.length->∀ a,A=some a->some b≠some a.block:=fun h0 a ha e=>by
 obtain⟨a',e',_,hc⟩:=h h0
 rw[ha] at e';cases e'
 obtain⟨v,hv,hn⟩:=he l[0]
 have h1:=hc 0 h0 0 _ hv
 rw[if_pos rfl,Nat.zero_mul,Rg.add_zero] at h1
 exact hn x (Sz.cG hb (Option.some.inj e).symm h1)
theorem ys {w:World}{b:Nat}{x:Int}{T:TypeId}(hb:w.heap[b]?=some (.cells #[.int .i64 x] T (0,0))):∀ g,some b=some g->∀ j y,w.cell? ⟨g,j,none⟩=some y->NoB y:=fun g hg j y hy z e=>by
 cases hg
 have:=Sz.cG hb rfl hy
 rw[e] at this;cases this
theorem pU {w:World}{A:Option Addr}{l:List Atm}{b:Nat}{x:Int}{T:TypeId}(h:ARow w A l)(hb:w.heap[b]?=some (.cells #[.int .i64 x] T (0,0)))(v:Value):ARow (w.setCell ⟨b,0,none⟩ v) A l:=by
 obtain⟨ds,h1,h2⟩:=h
 exact⟨ds,cf h1 (aO w ⟨b,0,none⟩ v) (iV h1 hb fun y=>⟨_,rfl,fun z e=>by cases e⟩),lT h2 (aO w ⟨b,0,none⟩ v) (ys hb)⟩
theorem pV {w:World}{A:Option Addr}{l:List Pk}{b:Nat}{x:Int}{T:TypeId}(h:RRow w A l)(hb:w.heap[b]?=some (.cells #[.int .i64 x] T (0,0)))(v:Value):RRow (w.setCell ⟨b,0,none⟩ v) A l:=by
 obtain⟨ds,h1,h2,h3⟩:=h
 refine⟨ds,cf h1 (aO w ⟨b,0,none⟩ v) (iV h1 hb fun y=>⟨_,rfl,fun z e=>by cases e⟩),h2,fun i d p e1 e2=>?_⟩
 obtain⟨q0,q1,q2,q3,q4,q5,⟨xs,x1,x2⟩,q7,q8⟩:=h3 i d p e1 e2
 exact⟨q0,q1,q2,q3,q4,q5,⟨xs,cf x1 (aO w ⟨b,0,none⟩ v) (iV x1 hb fun y=>⟨_,rfl,fun z e=>by cases e⟩),x2.1,fun k e m f1 f2=>⟨(x2.2 k e m f1 f2).1,pU (x2.2 k e m f1 f2).2 hb v⟩⟩,pU q7 hb v,cf q8 (aO w ⟨b,0,none⟩ v) (iV q8 hb fun y=>⟨_,rfl,fun z e=>by cases e⟩)⟩
theorem sr {w:World}{A:Option Addr}{l:List Pk}{b:Nat}(h:RRow w A l)(hp:Sz.P2 b w)(x y:Value):RRow ((w.setCell ⟨b,0,none⟩ x).setCell ⟨b+1,0,none⟩ y) A l :=
 pV (pV h hp.1 x) ((Below.heap_setCell w ⟨b,0,none⟩ x (b+1) (by show b+1≠b;omega)).trans hp.2) y
def PrsRet (w:World) (X:Int × Int × List Pk) (e:Ending) (w':World):Prop:=∃ A c,e=.returned (.tuple #[.slice A X.2.2.length c,.int .i64 X.2.1,.int .i64 X.1])/\RRow w' A X.2.2/\Below w.heap.size w w'
theorem vX (w:World)(A:Option Addr):RRow w A []:=⟨[],fun h=>absurd h (by decide),rfl,fun i d p e1 e2=>by simp at e1⟩
theorem ss {w u:World}{X:Int × Int × List Pk}{k n:Int}(hX:X=(k,n,[]))(hb:Below w.heap.size w u)(x y:Value):PrsRet w X (.returned (.tuple #[.slice none 0 0,.int .i64 n,.int .i64 k])) ((u.setCell ⟨w.heap.size,0,none⟩ x).setCell ⟨w.heap.size+1,0,none⟩ y):=by
 subst hX
 exact⟨none,0,rfl,vX _ _,(hb.setCell (Nat.le_refl _) _).setCell (Nat.le_succ _) _⟩
theorem nh:∀ (G:List (List Sz.Fld)) (acc:List Pk),(takeL G acc).1≠0->(takeL G acc).2.2=[]
 | [],acc,h=>absurd rfl h
 | s :: G,acc,h=>by
  unfold takeL at h ⊢
  split
  ·rfl
  ·rename_i hc
   rw[if_neg hc] at h
   cases hi:ins (fromP s).2.2 acc with
   | none=>rfl
   | some r=>rw[hi] at h;exact nh G r h
theorem pW:∀ (G:List (List Sz.Fld)) (acc:List Pk),(takeL G acc).1=0->(takeL G acc).2.1=0
 | [],acc,h=>rfl
 | s :: G,acc,h=>by
  unfold takeL at h ⊢
  split at h
  ·rename_i hc;exact absurd h hc
  ·rename_i hc
   rw[if_neg hc]
   cases hi:ins (fromP s).2.2 acc with
   | none=>rw[hi] at h;exact absurd h (show (6:Int)≠0 by decide)
   | some r=>rw[hi] at h;exact pW G r h
theorem tQ {t:List UInt8}{X:Int × Int × List Pk}(h:parseR t=X):(X.1≠0->X.2.2=[])/\(X.1=0->X.2.1=0):=by
 subst h
 unfold parseR
 split
 ·rename_i hc;exact⟨fun _=>rfl,fun h=>absurd h hc⟩
 ·split
  ·exact⟨fun _=>rfl,fun h=>absurd h (show (4:Int)≠0 by decide)⟩
  ·exact⟨nh _ _,pW _ _⟩
end Rp
theorem pX (p q:Addr)(x y n:Int)(w:World)(hc:w.cell? p=some (.int .i64 x))(hz:w.frozen? p=false)(hc2:(w.setCell p (.int .i64 0)).cell? q=some (.int .i64 y))(hz2:(w.setCell p (.int .i64 0)).frozen? q=false) :
  CallsD Tryz.prog 62 #[.pointer (some p),.pointer (some q)] (.panicking [{ v:=.iface 77 (.int .i64 n),recovered:=false }]) w fun e u' w' =>
   e=.returned (.tuple #[])/\u'=.panicking [{ v:=.iface 77 (.int .i64 n),recovered:=true }]/\w'=(w.setCell p (.int .i64 0)).setCell q (.int .i64 n):=by
 refine callsD_of_wpS Tryz.func62 rfl fun c₀ cs hu=>?_
 apply wpS_region
 simp[wpOpsS,go_sem,recoverD,hu,Tryz.ntmps62]
 refine (ev n _).mono ?_
 rintro e w' ⟨rfl,rfl⟩
 simp[go_sem,hc,hz,hc2,hz2,bodyPostS,results,Tryz.results62]
theorem nJ (p q:Addr)(x y k n:Int)(w:World)(hc:∀ u,Below w.heap.size w u->u.cell? p=some (.int .i64 x))(hz:∀ u,Below w.heap.size w u->u.frozen? p=false)(hc2:∀ u,Below w.heap.size w u->(u.setCell p (.int .i64 k)).cell? q=some (.int .i64 y))(hz2:∀ u,Below w.heap.size w u->(u.setCell p (.int .i64 k)).frozen? q=false) :
  CallsD Tryz.prog 62 #[.pointer (some p),.pointer (some q)] (.panicking [{ v:=.iface 158 (.agg #[.int .i64 k,.int .i64 n]),recovered:=false }]) w fun e u' w' =>
   e=.returned (.tuple #[])/\u'=.panicking [{ v:=.iface 158 (.agg #[.int .i64 k,.int .i64 n]),recovered:=true }]/\∃ u,Below w.heap.size w u/\w'=(u.setCell p (.int .i64 k)).setCell q (.int .i64 n):=by
 refine callsD_of_wpS Tryz.func62 rfl fun c₀ cs hu=>?_
 apply wpS_region
 simp[wpOpsS,go_sem,recoverD,hu,Tryz.ntmps62]
 refine (ck k n _).mono ?_
 rintro e w' ⟨rfl,hb⟩
 simp[go_sem,hc _ hb,hz _ hb,hc2 _ hb,hz2 _ hb,bodyPostS,results,Tryz.results62]
 exact⟨w',hb,rfl⟩
theorem rj (p q:Addr)(x y:Int)(w:World)(hc:w.cell? p=some (.int .i64 x))(hz:w.frozen? p=false)(hc2:(w.setCell p (.int .i64 0)).cell? q=some (.int .i64 y))(hz2:(w.setCell p (.int .i64 0)).frozen? q=false) :
  CallsD Tryz.prog 62 #[.pointer (some p),.pointer (some q)] .returning w fun e u' w'=>e=.returned (.tuple #[])/\u'=.returning/\w'=(w.setCell p (.int .i64 0)).setCell q (.int .i64 0):=by
 refine callsD_of_wpS Tryz.func62 rfl fun c₀ cs hu=>?_
 apply wpS_region
 simp[wpOpsS,go_sem,recoverD,hu,Tryz.ntmps62]
 refine (cy _).mono ?_
 rintro e w' ⟨rfl,rfl⟩
 cases c₀
 simp_all [go_sem,bodyPostS,results,Tryz.results62]
open Sz in
theorem nK (t:List UInt8)(w:World)(hk:KOk w)(hf:Fits1 (Sz.parseS t).2.2) :
  Calls Tryz.prog 30 #[.string ⟨t.toArray⟩] w (PrsRet w (parseR t)):=by
 have am:∀ (fn:Fn) (first cap:Array Value) (w:World),(Instr.makeFunc fn first cap).run Tryz.prog w=.ok (.func fn first cap) w:=fun _ _ _ _=>rfl
 obtain⟨X,hX⟩:=ex (parseR t)
 rw[hX]
 obtain⟨b1,b2⟩:=tQ hX
 obtain⟨W1,ac⟩:=ex (w.alloc (.cells #[.int .i64 0] 3))
 obtain⟨W2,ah⟩:=ex (W1.alloc (.cells #[.int .i64 0] 77))
 have ab:Hid (∀ u,Below W2.heap.size W2 u->P2 w.heap.size u):=fun u hb=>nO ac ah hb
 have an:W1.heap.size=w.heap.size+1:=by rw[<-ac];simp
 have ad:Hid (Below w.heap.size w W2):=(aa ac).trans ((aa ah).mono (aa ac).size)
 have af:=zh (tP t W2 (aY hk ad.out) hf)
 rw[hX] at af
 obtain⟨k,n,r⟩:=X
 have ag:=zh b1
 have aj:=zh b2
 clear hk hf hX b1 b2
 go_enter_defers Tryz.func30,Tryz.ntmps30
 go_wp2_with fail
 clear ac ah
 refine af.out.mono ?_
 rintro e z1 ⟨hb,hr⟩
 have HB:=zh hb
 dsimp only at hr
 clear hb af
 by_cases hk:k=0
 ·subst hk
  obtain⟨A,c,rfl,h1⟩:∃ A c,e=.returned (.slice A r.length c)/\RRow z1 A r:=by rw[if_pos rfl] at hr;exact hr
  obtain rfl:n=0:=aj.out rfl
  have HR:=zh (sr h1 (ab.out _ HB.out) (.int .i64 0) (.int .i64 0))
  obtain⟨c0,f0,c1,f1⟩:=aC (ab.out _ HB.out)
  obtain⟨d0,g0,d1,g1⟩:=aD (ab.out _ HB.out) (.int .i64 0)
  have ae:=zh (gr (ab.out _ HB.out))
  have ak:Hid (Below w.heap.size w ((z1.setCell ⟨w.heap.size,0,none⟩ (.int .i64 0)).setCell ⟨w.heap.size+1,0,none⟩ (.int .i64 0))):=((bt ad.out HB.out).setCell (Nat.le_refl _) _).setCell (Nat.le_succ _) _
  clear hr h1
  go_wp2_with fail
  generalize (z1.setCell ⟨w.heap.size,0,none⟩ (.int .i64 0)).setCell ⟨w.heap.size+1,0,none⟩ (.int .i64 0)=V at *
  obtain⟨k0,m0,k1,m1⟩:=aC ae.out
  obtain⟨l0,o0,l1,o1⟩:=aD ae.out (.int .i64 0)
  obtain⟨q0,q1⟩:=bL ae.out (.int .i64 0) (.int .i64 0)
  have al:=zh (sr HR.out ae.out (.int .i64 0) (.int .i64 0))
  refine leaves_cons (f:=62) (args:=#[.pointer (some ⟨w.heap.size,0,none⟩),.pointer (some ⟨w.heap.size+1,0,none⟩)]) (by simp) (by simp[go_sem]) ?_
  refine (rj ⟨w.heap.size,0,none⟩ ⟨w.heap.size+1,0,none⟩ 0 0 _ k0 m0 l1 o1).mono ?_
  rintro e u' w3 ⟨rfl,rfl,rfl⟩
  simp[Leaves,settle,results,Tryz.results30,go_sem,q0,q1]
  exact⟨A,c,rfl,al.out,(ak.out.setCell (Nat.le_refl _) _).setCell (Nat.le_succ _) _⟩
 ·rw[if_neg hk] at hr
  obtain rfl:r=[]:=ag.out hk
  clear hk
  rcases hr with rfl | ⟨rfl,rfl⟩
  ·go_wp2_with fail
   refine leaves_cons (f:=62) (args:=#[.pointer (some ⟨w.heap.size,0,none⟩),.pointer (some ⟨w.heap.size+1,0,none⟩)]) (by simp) (by simp[go_sem]) ?_
   refine (nJ ⟨w.heap.size,0,none⟩ ⟨w.heap.size+1,0,none⟩ 0 0 n k _ (fun u hb=>(aC (ab.out _ (bt HB.out hb))).1) (fun u hb=>(aC (ab.out _ (bt HB.out hb))).2.1) (fun u hb=>(aD (ab.out _ (bt HB.out hb)) _).2.2.1) (fun u hb=>(aD (ab.out _ (bt HB.out hb)) _).2.2.2)).mono ?_
   rintro e u' w3 ⟨rfl,rfl,u,hb,rfl⟩
   have ai:=zh (bt HB.out hb)
   obtain⟨q0,q1⟩:=bL (ab.out _ ai.out) (.int .i64 n) (.int .i64 k)
   simp[Leaves,settle,results,Tryz.results30,go_sem,q0,q1]
   exact ss rfl (bt ad.out ai.out) _ _
  ·obtain⟨c0,f0,c1,f1⟩:=aC (ab.out _ HB.out)
   obtain⟨d0,g0,d1,g1⟩:=aD (ab.out _ HB.out) (.int .i64 0)
   obtain⟨q0,q1⟩:=bL (ab.out _ HB.out) (.int .i64 0) (.int .i64 k)
   go_wp2_with fail
   refine leaves_cons (f:=62) (args:=#[.pointer (some ⟨w.heap.size,0,none⟩),.pointer (some ⟨w.heap.size+1,0,none⟩)]) (by simp) (by simp[go_sem]) ?_
   refine (pX ⟨w.heap.size,0,none⟩ ⟨w.heap.size+1,0,none⟩ 0 0 k _ c0 f0 d1 g1).mono ?_
   rintro e u' w3 ⟨rfl,rfl,rfl⟩
   simp[Leaves,settle,results,Tryz.results30,go_sem,q0,q1]
   exact ss rfl (bt ad.out HB.out) _ _
end
end Go.Proofs.YtgnaiidgjmicaaaGreatDoor

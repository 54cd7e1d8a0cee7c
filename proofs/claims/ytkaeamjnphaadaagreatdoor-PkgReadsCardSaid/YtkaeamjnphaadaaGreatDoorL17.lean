/- Part 17 of what the laws lean on. -/
import Derived.Test.YtkaeamjnphaadaaGreatDoorL16
set_option maxRecDepth 100000
set_option maxHeartbeats 6400000
namespace Go.Proofs.YtkaeamjnphaadaaGreatDoor
namespace Rm
section
variable {K:Type} (L:Line K)
theorem wG (x:P K)(l:List (P K))(k:Nat)(hk:k<=l.length)(h1:∀ y∈l.take k,(!lt L x.lo y.lo)=true)(h2:∀ h:k<l.length,(!lt L x.lo (l[k]'h).lo)=false):ins L x l=l.take k++x :: l.drop k:=by
 unfold ins
 have ht:l.takeWhile (fun y => !lt L x.lo y.lo)=l.take k:=by
  conv=>lhs;rw[<-List.take_append_drop k l]
  rw[List.takeWhile_append_of_pos h1]
  by_cases h:k<l.length
  ·rw[List.drop_eq_getElem_cons h,List.takeWhile_cons,h2 h];simp
  ·rw[List.drop_eq_nil_of_le (by omega)];simp
 have hd:l.dropWhile (fun y => !lt L x.lo y.lo)=l.drop k:=by
  have e:=List.takeWhile_append_dropWhile (p:=fun y => !lt L x.lo y.lo) (l:=l)
  rw[ht] at e
  conv at e=>rhs;rw[<-List.take_append_drop k l]
  exact List.append_cancel_left e
 rw[ht,hd]
theorem acd (l:List (P K))(k:Nat)(h:k<l.length):srt L (l.take (k+1))=ins L l[k] (srt L (l.take k)):=by
 rw[List.take_succ_eq_append_getElem h];unfold srt;rw[List.foldl_append];rfl
def mgS (out:List (P K)) (x:P K):List (P K) :=
 if h:0<out.length then
  if L.le x.lo (out[out.length-1]'(by omega)).hi then out.set (out.length-1) { lo:=(out[out.length-1]'(by omega)).lo,hi:=up L (out[out.length-1]'(by omega)).hi x.hi } else out++[x]
 else [x]
theorem ace (pre:List (P K))(c x:P K):mgS L (pre++[c]) x=pre++(if L.le x.lo c.hi then [{ lo:=c.lo,hi:=up L c.hi x.hi }] else [c,x]):=by
 have e:(pre++[c]).length-1=pre.length:=by simp
 unfold mgS
 rw[dif_pos (by simp)]
 simp only[e]
 have hg:(pre++[c])[pre.length]'(by simp)=c:=by simp
 rw[hg]
 split
 ·rw[List.set_append,if_neg (by omega),Nat.sub_self];rfl
 ·simp
theorem pH:∀ (t pre:List (P K)) (c:P K),t.foldl (mgS L) (pre++[c])=pre++mrg L c t
 | [],pre,c=>rfl
 | x :: t,pre,c=>by
  rw[List.foldl_cons,ace]
  show _=pre++(if L.le x.lo c.hi then mrg L { c with hi:=up L c.hi x.hi } t else c :: mrg L x t)
  split
  ·exact pH t pre _
  ·rw[show pre++[c,x]=(pre++[c])++[x] from by simp,pH t (pre++[c]) x];simp
def mgd (l:List (P K)):List (P K):=l.foldl (mgS L) []
theorem m9 (l:List (P K))(k:Nat)(h:k<l.length):mgd L (l.take (k+1))=mgS L (mgd L (l.take k)) l[k]:=by
 rw[List.take_succ_eq_append_getElem h];unfold mgd;rw[List.foldl_append];rfl
theorem zT (l:List (P K)):joinK L l=mgd L (srt L l):=by
 unfold joinK mgd
 cases srt L l with
 | nil=>rfl
 | cons a t=>rw[List.foldl_cons,show mgS L [] a=[]++[a] from by unfold mgS;rw[dif_neg (by simp)];rfl,pH];rfl
theorem adJ (out:List (P K))(x:P K):(mgS L out x).length<=out.length+1:=by
 unfold mgS;split
 ·split <;> simp
 ·simp
theorem wH (l:List (P K)):∀ k,k<=l.length->(mgd L (l.take k)).length<=k
 | 0,_=>by simp[mgd]
 | k+1,h=>by
  rw[m9 L l k h]
  have:=adJ L (mgd L (l.take k)) l[k]
  have:=wH l k (by omega)
  omega
end
end Rm
section
open Rs
theorem adK {out:List (Rm.P Cut)}{x:Rm.P Cut}(h:∀ p∈out,Ok2 p)(hx:Ok2 x):∀ p∈Rm.mgS Ln out x,Ok2 p:=by
 intro p hp
 unfold Rm.mgS at hp
 split at hp
 ·rename_i h0
  have hl:=h _ (List.getElem_mem (show out.length-1<out.length by omega))
  split at hp
  ·rcases List.mem_or_eq_of_mem_set hp with hp | rfl
   ·exact h p hp
   ·refine⟨hl.1,?_⟩
    show HiOk (Rm.up Ln _ _)
    unfold Rm.up
    split
    ·exact hx.2
    ·exact hl.2
  ·rcases List.mem_append.1 hp with hp | hp
   ·exact h p hp
   ·cases List.mem_singleton.1 hp;exact hx
 ·cases List.mem_singleton.1 hp;exact hx
theorem wI {l:List (Rm.P Cut)}(h:∀ p∈l,Ok2 p):∀ k,k<=l.length->∀ p∈Rm.mgd Ln (l.take k),Ok2 p
 | 0,_=>fun p hp=>by simp[Rm.mgd] at hp
 | k+1,hk=>by
  rw[Rm.m9 Ln l k hk]
  exact adK (wI h k (by omega)) (h _ (List.getElem_mem _))
theorem adL {l:List (Rm.P Cut)}(h:∀ p∈l,Ok2 p):∀ p∈Rm.srt Ln l,Ok2 p:=fun p hp=>h p ((Rm.jd Ln l p).1 hp)
end
section
open Go.RowKit Rs
attribute [local go_sem ↓] Go.wp_at_zero Go.wp_at_succ
theorem eE {w:World}{B n:Nat}{v:Value}{l:List Sp}(h:ROwn w B v l)(hn:l.length=n):∃ C d,v=.slice C n d/\SRow w C l/\Rg.Row spC 4 w C l/\n<=d/\d<=maxLen/\∀ a,C=some a->B<=a.block:=by
 subst hn
 obtain⟨C,d,hv,hr⟩:=mU (T:=230) h
 obtain⟨C2,d2,aa,h2,h3,h4⟩:=Rg.aE fitsS h
 rw[hv] at aa
 cases aa
 exact⟨C,d,hv,hr,h2,h3,h4,fun a ha=>by subst ha;exact (Rg.bz h a.block (by rw[hv];rfl)).1⟩
theorem gh (p q:Rm.P Cut)(b:Bool)(w:World)(hp:Ok2 p)(hq:Ok2 q)(hb:Rm.lt Ln p.lo q.lo=b) :
  Calls Tryz.prog 186 #[.agg #[.string ⟨(spOf p).lo.toArray⟩,.string ⟨(spOf p).hi.toArray⟩,.bool (spOf p).li,.bool (spOf p).hn],.agg #[.string ⟨(spOf q).lo.toArray⟩,.string ⟨(spOf q).hi.toArray⟩,.bool (spOf q).li,.bool (spOf q).hn]] w fun e w'=>e=.returned (.bool b)/\Below w.heap.size w w':=by
 have:=zR (spOf p).lo (spOf p).hi (spOf p).li (spOf p).hn (spOf q).lo (spOf q).hi (spOf q).li (spOf q).hn w (fun h=>(Rs.aK (cN hp).1 h).1) (fun h=>(Rs.aK (cN hq).1 h).1)
 rw[show lowerS (Sp.mk (spOf p).lo (spOf p).hi (spOf p).li (spOf p).hn) (Sp.mk (spOf q).lo (spOf q).hi (spOf q).li (spOf q).hn)=b from (zP hp hq).trans hb] at this
 exact this
theorem dx (p q:Rm.P Cut)(b:Bool)(w:World)(hp:Ok2 p)(hq:Ok2 q)(hb:Rm.lt Ln q.hi p.hi=b) :
  Calls Tryz.prog 187 #[.agg #[.string ⟨(spOf p).lo.toArray⟩,.string ⟨(spOf p).hi.toArray⟩,.bool (spOf p).li,.bool (spOf p).hn],.agg #[.string ⟨(spOf q).lo.toArray⟩,.string ⟨(spOf q).hi.toArray⟩,.bool (spOf q).li,.bool (spOf q).hn]] w fun e w'=>e=.returned (.bool b)/\Below w.heap.size w w':=by
 have:=xY (spOf p).lo (spOf p).hi (spOf p).li (spOf p).hn (spOf q).lo (spOf q).hi (spOf q).li (spOf q).hn w (fun h=>(Rs.aK (cN hp).2.1 h).1) (fun h=>(Rs.aK (cN hq).2.1 h).1)
 rw[show beyondS (Sp.mk (spOf p).lo (spOf p).hi (spOf p).li (spOf p).hn) (Sp.mk (spOf q).lo (spOf q).hi (spOf q).li (spOf q).hn)=b from (xX hp hq).trans hb] at this
 exact this
theorem j7 (p q:Rm.P Cut)(b:Bool)(w:World)(hp:Ok2 p)(hq:Ok2 q)(hb:Ln.le q.lo p.hi=b) :
  Calls Tryz.prog 223 #[.agg #[.string ⟨(spOf p).lo.toArray⟩,.string ⟨(spOf p).hi.toArray⟩,.bool (spOf p).li,.bool (spOf p).hn],.agg #[.string ⟨(spOf q).lo.toArray⟩,.string ⟨(spOf q).hi.toArray⟩,.bool (spOf q).li,.bool (spOf q).hn]] w fun e w'=>e=.returned (.bool b)/\Below w.heap.size w w':=by
 have:=zS (spOf p).lo (spOf p).hi (spOf p).li (spOf p).hn (spOf q).lo (spOf q).hi (spOf q).li (spOf q).hn w (fun h=>(Rs.aK (cN hp).2.1 h).1) (fun h=>(Rs.aK (cN hq).1 h).1)
 rw[show touchS (Sp.mk (spOf p).lo (spOf p).hi (spOf p).li (spOf p).hn) (Sp.mk (spOf q).lo (spOf q).hi (spOf q).li (spOf q).hn)=b from (zQ hp hq).trans hb] at this
 exact this
theorem s9 (V:Option Addr)(k vc m:Nat)(h:m<=k)(h2:k<=vc)(_hv:vc<=maxLen):∀ W:World,(Instr.sliceAt 130 (.slice V k vc) none (some (.int .i64 m)) none).run Tryz.prog W=.ok (.slice V m vc) W:=by
 intro W
 have i0:(0:Int)<=(m:Int):=by omega
 have i1:(m:Int)<=(k:Int):=by omega
 have i2:(m:Int)<=(vc:Int):=by omega
 go_simp
theorem zU (V:Option Addr)(k vc m:Nat)(h:m<=k)(h2:k<=vc)(_hv:vc<=maxLen):∃ Y,((if vc=m then V else V.map (fun x=>x.add (m*4)))=Y)/\∀ W:World,(Instr.sliceAt 130 (.slice V k vc) (some (.int .i64 m)) none none).run Tryz.prog W=.ok (.slice Y (k-m) (vc-m)) W:=by
 refine⟨_,rfl,fun W=>?_⟩
 have i0:(0:Int)<=(m:Int):=by omega
 have i1:(m:Int)<=(k:Int):=by omega
 have i2:(m:Int)<=(vc:Int):=by omega
 go_simp
end
section
open Go.RowKit Rs
attribute [local go_sem ↓] Go.wp_at_zero Go.wp_at_succ
theorem zV {w:World}{B n cap:Nat}{cd:Addr}{l:List Sp}(h:ROwn w B (.slice (some cd) n cap) l)(hn:l.length=n)(i j:Nat)(hi:i<l.length)(hj:j<4)(x s:Sp)(u:Value)(hs:l[i]=s)(hx:Rs.spC x=(Rs.spC s).set j u) :
  ROwn (w.setCell ⟨(cd.add (i*4)).block,(cd.add (i*4)).off+j,none⟩ u) B (.slice (some cd) n cap) (l.set i x)/\w.frozen? ⟨(cd.add (i*4)).block,(cd.add (i*4)).off+j,none⟩=false/\B<=cd.block:=by
 obtain⟨g,e,hb,_,hf⟩:=Rg.abx h (by omega)
 cases e
 have ea:(⟨((⟨g,0,none⟩:Addr).add (i*4)).block,((⟨g,0,none⟩:Addr).add (i*4)).off+j,none⟩:Addr)=⟨g,i*4+j,none⟩:=by
  unfold Addr.add
  split
  ·rename_i h0;rw[h0]
  ·show (⟨g,0+i*4+j,none⟩:Addr)=_;rw[Nat.zero_add]
 rw[ea]
 exact⟨(Rg.y6 fitsS h hn i j hi hj x u (by rw[hs];exact hx)).1,hf _,hb⟩
theorem qv {w:World}{C:Option Addr}{l:List Sp}(h:SRow w C l)(k:Nat):SRow w C (l.take k):=fun h0=>by
 rw[List.length_take] at h0
 obtain⟨a,e,hb,hc⟩:=h (by omega)
 refine⟨a,e,hb,fun i hi=>?_⟩
 rw[List.length_take] at hi
 rw[List.getElem_take]
 exact hc i (by omega)
theorem adM {O:List (Rm.P Cut)}{x:Rm.P Cut}(h:O.length=0):Rm.mgS Ln O x=[x]:=by unfold Rm.mgS;rw[dif_neg (by omega)]
theorem aeO {O:List (Rm.P Cut)}{x q:Rm.P Cut}{p:Nat}(hp:p-1<O.length)(hp2:O.length=p)(hq:O[p-1]=q)(h:Ln.le x.lo q.hi=false):Rm.mgS Ln O x=O++[x]:=by
 unfold Rm.mgS
 rw[dif_pos (by omega)]
 have e:O.length-1=p-1:=by omega
 simp only[e,hq,h];rfl
theorem aeP {O:List (Rm.P Cut)}{x q:Rm.P Cut}{p:Nat}(hp:p-1<O.length)(hp2:O.length=p)(hq:O[p-1]=q)(h:Ln.le x.lo q.hi=true)(h2:Rm.lt Ln q.hi x.hi=true):Rm.mgS Ln O x=O.set (p-1) { lo:=q.lo,hi:=x.hi }:=by
 unfold Rm.mgS
 rw[dif_pos (by omega)]
 have e:O.length-1=p-1:=by omega
 simp only[e,hq,h,Rm.up,h2];rfl
theorem acf {O:List (Rm.P Cut)}{x q:Rm.P Cut}{p:Nat}(hp:p-1<O.length)(hp2:O.length=p)(hq:O[p-1]=q)(h:Ln.le x.lo q.hi=true)(h2:Rm.lt Ln q.hi x.hi=false):Rm.mgS Ln O x=O:=by
 unfold Rm.mgS
 rw[dif_pos (by omega)]
 have e:O.length-1=p-1:=by omega
 have e2:Rm.mgS Ln O x=Rm.mgS Ln O x:=rfl
 simp only[e,hq,h,Rm.up,h2]
 show O.set (p-1) { lo:=q.lo,hi:=q.hi }=O
 rw[show ({ lo:=q.lo,hi:=q.hi }:Rm.P Cut)=O[p-1] from hq.symm,List.set_getElem_self]
theorem xZ (A:Option Addr)(n c:Nat)(r:List (Rm.P Cut))(w:World)(hn:r.length=n)(hr:SRow w A (r.map spOf))(ho:∀ p∈r,Ok2 p)(hl:n<=10000) :
  Calls Tryz.prog 189 #[.slice A n c] w (SpansRet w (((Rm.joinK Ln r).take 64).map spOf)):=by
 have HR:=zh hr
 have a7:=zh ho
 have HN:=zh hn
 obtain⟨R,hR⟩:=ex (((Rm.joinK Ln r).take 64).map spOf)
 rw[hR]
 have bs:=zh hR
 clear hn hr ho hR
 go_enter Tryz.func189,Tryz.ntmps189
 go_wp2_with fail
 go_loopw [3,4] (fun v i wr=>∃ k:Nat,k<=n/\i=.int .i64 k/\Hid (ROwn wr w.heap.size v ((Rm.srt Ln (r.take k)).map spOf))/\Hid (Below w.heap.size w wr/\w.heap.size<=wr.heap.size)) (fun _ i _=>n-(intOf i).toNat)
 case atStart=>exact⟨0,Nat.zero_le _,rfl,Rg.az _ _ _,Below.refl _ _,Nat.le_refl _⟩
 case round =>
  obtain⟨k,hk,rfl,HO,HB⟩:=hrel
  by_cases bC:k<n
  ·have aS:k<r.length:=by rw[HN.out];exact bC
   obtain⟨x,hx⟩:=ex (r[k])
   have HX:=zh hx
   have a8:=Rm.acd Ln r k aS
   rw[hx] at a8
   obtain⟨S,hS⟩:=ex (Rm.srt Ln (r.take k))
   have ab:=HO.out
   rw[hS] at a8 ab
   have aF:S.length=k:=by rw[<-hS,Rm.o9,List.length_take];omega
   have a9:=zh a8
   have aN:Hid (∀ p∈S,Ok2 p):=fun p hp=>a7.out p (List.mem_of_mem_take ((Rm.jd Ln _ p).1 (by rw[hS];exact hp)))
   have aE:Hid (Ok2 x):=by rw[<-hx];exact a7.out _ (List.getElem_mem aS)
   obtain⟨V,vc,rfl,af,a0,hle,a1,_⟩:=eE ab (show (S.map spOf).length=k by rw[List.length_map];exact aF)
   have aG:=zh af
   have aO:=zh a0
   have am:=zh aF
   clear hx a8 ab hS aF af a0 HO
   go_wp2_with fail
   go_loopw [5] (fun j wq=>∃ m:Nat,m<=k/\j=.int .i64 m/\Hid (∀ y∈S.take m,(!Rm.lt Ln x.lo y.lo)=true)/\Hid (Below wr.heap.size wr wq)) (fun j _=>k-(intOf j).toNat)
   case atStart=>exact⟨0,Nat.zero_le _,rfl,fun y hy=>by simp at hy,Below.refl _ _⟩
   case round =>
    obtain⟨m,hm,rfl,HA,HW⟩:=hrel
    by_cases bD:m<k
    ·have bi:m<S.length:=by rw[am.out];exact bD
     obtain⟨ad,rfl,bK,c0,c1,c2,c3⟩:=bO (ak (ak HR.out HB.out.1) (HW.out.mono (Nat.le_refl _))) k aS
     obtain⟨bd,rfl,bf,d0,d1,d2,d3⟩:=bO (ak aG.out HW.out) m bi
     rw[HX.out] at c0 c1 c2 c3
     obtain⟨y,hy⟩:=ex (S[m])
     rw[hy] at d0 d1 d2 d3
     have HY:=zh hy
     have bu:Hid (Ok2 y):=by rw[<-hy];exact aN.out _ (List.getElem_mem bi)
     obtain⟨b,hb⟩:=ex (Rm.lt Ln x.lo y.lo)
     have ba:=zh hb
     have an:(ad.add (k*4)).block<wr.heap.size:=by rw[add_block];exact bK
     have ap:(bd.add (m*4)).block<wr.heap.size:=by rw[add_block];exact bf
     clear hy hb
     cases b
     ·have bE:Hid (∀ y∈S.take (m+1),(!Rm.lt Ln x.lo y.lo)=true):=fun z hz=>by
       rw[List.take_succ_eq_append_getElem bi,HY.out] at hz
       rcases List.mem_append.1 hz with hz | hz
       ·exact HA.out z hz
       ·rw[List.mem_singleton.1 hz,ba.out];rfl
      go_wp2_with fail
      go_region_held3 (fun w'=>w'.cell? (ad.add (k*4))=some (.string ⟨(spOf x).lo.toArray⟩)/\w'.cell? ⟨(ad.add (k*4)).block,(ad.add (k*4)).off+1,none⟩=some (.string ⟨(spOf x).hi.toArray⟩)/\w'.cell? ⟨(ad.add (k*4)).block,(ad.add (k*4)).off+2,none⟩=some (.bool (spOf x).li)/\w'.cell? ⟨(ad.add (k*4)).block,(ad.add (k*4)).off+3,none⟩=some (.bool (spOf x).hn) /\
        w'.cell? (bd.add (m*4))=some (.string ⟨(spOf y).lo.toArray⟩)/\w'.cell? ⟨(bd.add (m*4)).block,(bd.add (m*4)).off+1,none⟩=some (.string ⟨(spOf y).hi.toArray⟩)/\w'.cell? ⟨(bd.add (m*4)).block,(bd.add (m*4)).off+2,none⟩=some (.bool (spOf y).li)/\w'.cell? ⟨(bd.add (m*4)).block,(bd.add (m*4)).off+3,none⟩=some (.bool (spOf y).hn)/\wr.heap.size<=w'.heap.size/\Below wr.heap.size wr w')
       (first
        | exact⟨c0,c1,c2,c3,d0,d1,d2,d3,Nat.le_refl _,(Below.refl _ _).drew⟩
        | assumption
        | (refine keepRR an ap ?_ hb;assumption))
       (first
        | (go_at_call 186;refine (gh x y _ _ aE.out bu.out ba.out).mono ?_;rintro _ w4 ⟨rfl,hb⟩))
      rename_i al
      obtain⟨_,_,_,_,_,_,_,_,z1,z2⟩:=al
      have aa:Hid (Below _ _ w4):=bt HW.out z2
      clear z1 z2 c0 c1 c2 c3 d0 d1 d2 d3
      go_wp2_with fail
      go_roundw
      case rel=>exact⟨m+1,by omega,by go_num,bE,aa⟩
      case measure=>simp[intOf];omega
     ·have aq:Hid (Rm.srt Ln (r.take (k+1))=S.take m++x :: S.drop m):=a9.out.trans (Rm.wG Ln x S m (by omega) HA.out (fun _=>by rw[HY.out,ba.out];rfl))
      go_wp2_with fail
      go_region_held3 (fun w'=>w'.cell? (ad.add (k*4))=some (.string ⟨(spOf x).lo.toArray⟩)/\w'.cell? ⟨(ad.add (k*4)).block,(ad.add (k*4)).off+1,none⟩=some (.string ⟨(spOf x).hi.toArray⟩)/\w'.cell? ⟨(ad.add (k*4)).block,(ad.add (k*4)).off+2,none⟩=some (.bool (spOf x).li)/\w'.cell? ⟨(ad.add (k*4)).block,(ad.add (k*4)).off+3,none⟩=some (.bool (spOf x).hn) /\
        w'.cell? (bd.add (m*4))=some (.string ⟨(spOf y).lo.toArray⟩)/\w'.cell? ⟨(bd.add (m*4)).block,(bd.add (m*4)).off+1,none⟩=some (.string ⟨(spOf y).hi.toArray⟩)/\w'.cell? ⟨(bd.add (m*4)).block,(bd.add (m*4)).off+2,none⟩=some (.bool (spOf y).li)/\w'.cell? ⟨(bd.add (m*4)).block,(bd.add (m*4)).off+3,none⟩=some (.bool (spOf y).hn)/\wr.heap.size<=w'.heap.size/\Below wr.heap.size wr w')
       (first
        | exact⟨c0,c1,c2,c3,d0,d1,d2,d3,Nat.le_refl _,(Below.refl _ _).drew⟩
        | assumption
        | (refine keepRR an ap ?_ hb;assumption))
       (first
        | (go_at_call 186;refine (gh x y _ _ aE.out bu.out ba.out).mono ?_;rintro _ w4 ⟨rfl,hb⟩))
      rename_i al
      obtain⟨_,_,_,_,_,_,_,_,z1,z2⟩:=al
      have aa:Hid (Below _ _ w4):=bt HW.out z2
      clear z1 z2 c0 c1 c2 c3 d0 d1 d2 d3
      have aT:Hid (SRow w4 (some ad) (r.map spOf)):=ak (ak HR.out HB.out.1) aa.out
      have bj:=aT
      have aU:Hid ((Rm.srt Ln (r.take (k+1))).map spOf=([]++(S.take m).map spOf++[spOf x])++(S.drop m).map spOf):=by
       show _=_
       rw[aq.out];simp
      have RX:Hid (Rg.Row spC 4 w4 (some bd) ((S.take m).map spOf)):=by
       have:=Rg.jN (Rg.ai aO.out aa.out) m
       rw[<-List.map_take] at this;exact this
      have rx:=s9 (some bd) k vc m (by omega) hle a1
      obtain⟨Y,hY,ry⟩:=zU (some bd) k vc m (by omega) hle a1
      have RY:Hid (Rg.Row spC 4 w4 Y ((S.drop m).map spOf)):=by
       have:=Rg.sf (Rg.ai aO.out aa.out) m (A':=Y) (fun h=>by
        rw[List.length_map,am.out] at h
        rw[<-hY,if_neg (by omega)])
       rw[<-List.map_drop] at this;exact this
      have aH:Hid (ROwn (w4.alloc (.cells #[] 230)) w4.heap.size (.slice (some ⟨w4.heap.size,0,none⟩) 0 0) []):=Rg.mS w4 fitsS (Nat.le_refl _)
      have ar:Hid (((S.take m).map spOf).length=m):=by
       show _=_
       rw[List.length_map,List.length_take,am.out];omega
      have aI:Hid (((S.drop m).map spOf).length=k-m):=by
       show _=_
       have:=am.out
       rw[List.length_map,List.length_drop];omega
      have aB:Hid (Below w.heap.size w w4/\w.heap.size<=w4.heap.size):=⟨HB.out.1.trans (aa.out.mono HB.out.2),Nat.le_trans HB.out.2 aa.out.size⟩
      obtain⟨L1,aK⟩:=ex ((S.take m).map spOf)
      obtain⟨L2,aL⟩:=ex ((S.drop m).map spOf)
      rw[aK,aL] at aU
      rw[aK] at RX ar
      rw[aL] at RY aI
      clear aK aL hY aa HW aO aG aq aT a9 aN
      go_wp2_with (at_builtin;refine Rg.dv sliceR rfl (.tmp 34) (.tmp 37) rfl w4.heap.size _ [] L1 rfl aH.out (some bd) m vc ar.out rfl ?r1 ?s1 ?b1 ?_)
      case r1=>exact Rg.ai RX.out ((Below.refl _ _).alloc (Nat.le_refl _) _)
      case s1=>rw[ar.out];show 0+m<=_;omega
      case b1=>simp
      intro v5 W5 a2 a3 bo
      have ah:=zh a2
      have au:Hid (Below w4.heap.size w4 W5):=((Below.refl _ _).alloc (Nat.le_refl _) _).trans (Rg.ao aH.out (by simp) a3)
      clear a2 a3 bo aH
      obtain⟨bL,a4,bp,c0,c1,c2,c3⟩:=bO (ak bj.out au.out) k aS
      obtain rfl:=Option.some.inj a4
      clear a4
      rw[HX.out] at c0 c1 c2 c3
      go_wp2_with (at_builtin;refine Rg.aC sliceR rfl (.tmp 39) (.tmp 44) rfl w4.heap.size v5 ([]++L1) [spOf x] rfl (Rg.own_below ah.out ((Below.refl _ _).alloc (Nat.le_refl _) _)) _ _ rfl (Rg.av W5 _ _ _ (by rfl)) (Nat.zero_lt_succ _) ?s2 ?b2 ?_)
      case s2=>rw[List.nil_append,ar.out];show m+1<=_;omega
      case b2=>have:=au.out.size;simp;omega
      intro v6 W6 ay aA aM
      have ac:=zh ay
      have aw:Hid (Below w4.heap.size w4 W6):=by
       have h1:=au.out.size
       exact (au.out.alloc h1 _).trans (Rg.ao (Rg.own_below ah.out ((Below.refl _ _).alloc (Nat.le_refl _) _)) (by simp;omega) aA)
      clear ay aA aM ah au c0 c1 c2 c3
      go_wp2_with (at_builtin;refine Rg.dv sliceR rfl (.tmp 46) (.tmp 49) rfl w4.heap.size v6 ([]++L1++[spOf x]) L2 rfl ac.out Y (k-m) (vc-m) aI.out rfl ?r3 ?s3 ?b3 ?_)
      case r3=>exact Rg.ai RY.out aw.out
      case s3=>rw[aI.out,List.nil_append,List.length_append,ar.out];show m+1+_<=_;omega
      case b3=>exact aw.out.size
      intro v7 W7 a5 a6 bq
      have aJ:Hid (Below w4.heap.size w4 W7):=aw.out.trans (Rg.ao ac.out aw.out.size a6)
      have aV:Hid (ROwn W7 w.heap.size v7 ((Rm.srt Ln (r.take (k+1))).map spOf)):=by
       show ROwn _ _ _ _
       rw[aU.out];refine Rg.si aB.out.2 ?_;simpa using a5
      have bk:Hid (Below w.heap.size w W7/\w.heap.size<=W7.heap.size):=⟨aB.out.1.trans (aJ.out.mono aB.out.2),Nat.le_trans aB.out.2 aJ.out.size⟩
      clear a5 a6 bq ac aw aJ RX RY
      go_wp2_with fail
      go_roundw
      case rel=>exact⟨k+1,by omega,by go_num,aV,bk⟩
      case measure=>simp[intOf];omega
    ·obtain rfl:m=k:=by omega
     have aq:Hid (Rm.srt Ln (r.take (m+1))=S.take m++x :: S.drop m):=a9.out.trans (Rm.wG Ln x S m (by rw[am.out];exact Nat.le_refl _) HA.out (fun h=>absurd h (by rw[am.out];omega)))
     go_wp2_with fail
     go_quiet (fail)
     have aa:=zh (below_drewN HW.out nq)
     generalize wr.drewN nq=w4 at *
     have aT:Hid (SRow w4 (A) (r.map spOf)):=ak (ak HR.out HB.out.1) aa.out
     have bj:=aT
     have aU:Hid ((Rm.srt Ln (r.take (m+1))).map spOf=([]++(S.take m).map spOf++[spOf x])++(S.drop m).map spOf):=by
      show _=_
      rw[aq.out];simp
     have RX:Hid (Rg.Row spC 4 w4 (V) ((S.take m).map spOf)):=by
      have:=Rg.jN (Rg.ai aO.out aa.out) m
      rw[<-List.map_take] at this;exact this
     have rx:=s9 (V) m vc m (by omega) hle a1
     obtain⟨Y,hY,ry⟩:=zU (V) m vc m (by omega) hle a1
     have RY:Hid (Rg.Row spC 4 w4 Y ((S.drop m).map spOf)):=by
      have:=Rg.sf (Rg.ai aO.out aa.out) m (A':=Y) (fun h=>by
       rw[List.length_map,am.out] at h
       rw[<-hY,if_neg (by omega)])
      rw[<-List.map_drop] at this;exact this
     have aH:Hid (ROwn (w4.alloc (.cells #[] 230)) w4.heap.size (.slice (some ⟨w4.heap.size,0,none⟩) 0 0) []):=Rg.mS w4 fitsS (Nat.le_refl _)
     have ar:Hid (((S.take m).map spOf).length=m):=by
      show _=_
      rw[List.length_map,List.length_take,am.out];omega
     have aI:Hid (((S.drop m).map spOf).length=0):=by
      show _=_
      have:=am.out
      rw[List.length_map,List.length_drop];omega
     have aB:Hid (Below w.heap.size w w4/\w.heap.size<=w4.heap.size):=⟨HB.out.1.trans (aa.out.mono HB.out.2),Nat.le_trans HB.out.2 aa.out.size⟩
     obtain⟨L1,aK⟩:=ex ((S.take m).map spOf)
     obtain⟨L2,aL⟩:=ex ((S.drop m).map spOf)
     rw[aK,aL] at aU
     rw[aK] at RX ar
     rw[aL] at RY aI
     clear aK aL hY aa HW aO aG aq aT a9 aN
     go_wp2_with (at_builtin;refine Rg.dv sliceR rfl (.tmp 34) (.tmp 37) rfl w4.heap.size _ [] L1 rfl aH.out (V) m vc ar.out rfl ?r1 ?s1 ?b1 ?_)
     case r1=>exact Rg.ai RX.out ((Below.refl _ _).alloc (Nat.le_refl _) _)
     case s1=>rw[ar.out];show 0+m<=_;omega
     case b1=>simp
     intro v5 W5 a2 a3 bo
     have ah:=zh a2
     have au:Hid (Below w4.heap.size w4 W5):=((Below.refl _ _).alloc (Nat.le_refl _) _).trans (Rg.ao aH.out (by simp) a3)
     clear a2 a3 bo aH
     obtain⟨bL,rfl,bp,c0,c1,c2,c3⟩:=bO (ak bj.out au.out) m aS
     rw[HX.out] at c0 c1 c2 c3
     go_wp2_with (at_builtin;refine Rg.aC sliceR rfl (.tmp 39) (.tmp 44) rfl w4.heap.size v5 ([]++L1) [spOf x] rfl (Rg.own_below ah.out ((Below.refl _ _).alloc (Nat.le_refl _) _)) _ _ rfl (Rg.av W5 _ _ _ (by rfl)) (Nat.zero_lt_succ _) ?s2 ?b2 ?_)
     case s2=>rw[List.nil_append,ar.out];show m+1<=_;omega
     case b2=>have:=au.out.size;simp;omega
     intro v6 W6 ay aA aM
     have ac:=zh ay
     have aw:Hid (Below w4.heap.size w4 W6):=by
      have h1:=au.out.size
      exact (au.out.alloc h1 _).trans (Rg.ao (Rg.own_below ah.out ((Below.refl _ _).alloc (Nat.le_refl _) _)) (by simp;omega) aA)
     clear ay aA aM ah au c0 c1 c2 c3
     go_wp2_with (at_builtin;refine Rg.dv sliceR rfl (.tmp 46) (.tmp 49) rfl w4.heap.size v6 ([]++L1++[spOf x]) L2 rfl ac.out Y 0 (vc-m) aI.out rfl ?r3 ?s3 ?b3 ?_)
     case r3=>exact Rg.ai RY.out aw.out
     case s3=>rw[aI.out,List.nil_append,List.length_append,ar.out];show m+1+_<=_;omega
     case b3=>exact aw.out.size
     intro v7 W7 a5 a6 bq
     have aJ:Hid (Below w4.heap.size w4 W7):=aw.out.trans (Rg.ao ac.out aw.out.size a6)
     have aV:Hid (ROwn W7 w.heap.size v7 ((Rm.srt Ln (r.take (m+1))).map spOf)):=by
      show ROwn _ _ _ _
      rw[aU.out];refine Rg.si aB.out.2 ?_;simpa using a5
     have bk:Hid (Below w.heap.size w W7/\w.heap.size<=W7.heap.size):=⟨aB.out.1.trans (aJ.out.mono aB.out.2),Nat.le_trans aB.out.2 aJ.out.size⟩
     clear a5 a6 bq ac aw aJ RX RY
     go_wp2_with fail
     go_roundw
     case rel=>exact⟨m+1,by omega,by go_num,aV,bk⟩
     case measure=>simp[intOf];omega
  ·obtain rfl:n=k:=by omega
   have ab:ROwn wr w.heap.size u3 ((Rm.srt Ln r).map spOf):=by
    have:=HO.out
    rwa [List.take_of_length_le (by rw[HN.out];exact Nat.le_refl _)] at this
   obtain⟨S,hS⟩:=ex (Rm.srt Ln r)
   have aF:S.length=n:=by rw[<-hS,Rm.o9];exact HN.out
   have aN:Hid (∀ p∈S,Ok2 p):=by rw[<-hS];exact adL a7.out
   have HJ:Hid (((Rm.mgd Ln S).take 64).map spOf=R):=by show _=_;rw[<-hS,<-Rm.zT];exact bs.out
   rw[hS] at ab
   obtain⟨V,vc,rfl,af,_,hle,a1,_⟩:=eE ab (show (S.map spOf).length=n by rw[List.length_map];exact aF)
   have aG:=zh af
   have am:=zh aF
   clear ab hS aF af HO HR a7 HN bs
   obtain⟨wA,bM⟩:∃ z,z=wr:=⟨_,rfl⟩
   subst bM
   go_wp2_with fail
   go_loopw [7,8] (fun v i wq=>∃ k:Nat,k<=n/\i=.int .i64 k/\Hid (ROwn wq wA.heap.size v ((Rm.mgd Ln (S.take k)).map spOf))/\Hid (Below wA.heap.size wA wq)) (fun _ i _=>n-(intOf i).toNat)
   case atStart=>exact⟨0,Nat.zero_le _,rfl,Rg.az _ _ _,Below.refl _ _⟩
   case round =>
    obtain⟨k,hk,rfl,HO,HW⟩:=hrel
    by_cases bF:k<n
    ·have aW:k<S.length:=by rw[am.out];exact bF
     obtain⟨x,hx⟩:=ex (S[k])
     have aE:Hid (Ok2 x):=by rw[<-hx];exact aN.out _ (List.getElem_mem aW)
     have bb:=Rm.m9 Ln S k aW
     have bG:=Rm.wH Ln S k (by omega)
     have bl:=wI aN.out k (by omega)
     have ab:=HO.out
     obtain⟨O,hO⟩:=ex (Rm.mgd Ln (S.take k))
     rw[hO] at bb bG bl ab
     rw[hx] at bb
     have ae:=zh bb
     have bH:=zh bl
     have HX:=zh hx
     clear hx bb bl hO HO
     by_cases h0:O.length=0
     ·obtain⟨C,cc,rfl,_,_,bg,br,_⟩:=eE ab (show (O.map spOf).length=0 by rw[List.length_map];exact h0)
      have ax:Hid (Rm.mgd Ln (S.take (k+1))=O++[x]):=by
       show _=_
       rw[ae.out,adM h0,List.length_eq_zero_iff.1 h0];rfl
      have aD:=zh ab
      clear ab h0
      go_wp2_with fail
      go_quiet (fail)
      have aa:=zh (below_drewN HW.out nq)
      have aj:=zh (Rg.own_below aD.out (below_drewN (Below.refl _ _) nq))
      generalize wr.drewN nq=w4 at *
      obtain⟨bd,rfl,bf,c0,c1,c2,c3⟩:=bO (ak aG.out aa.out) k aW
      rw[HX.out] at c0 c1 c2 c3
      clear aD ae
      go_wp2_with (at_builtin;refine Rg.aC sliceR rfl (.tmp 103) (.tmp 108) rfl wA.heap.size _ (O.map spOf) [spOf x] rfl (Rg.own_below aj.out ((Below.refl _ _).alloc (Nat.le_refl _) _)) _ _ rfl (Rg.av w4 _ _ _ (by rfl)) (Nat.zero_lt_succ _) ?s2 ?b2 ?_)
      case s2=>rw[List.length_map];show _+1<=_;omega
      case b2=>have:=aa.out.size;simp;omega
      intro v6 W6 ay aA aM
      have ac:Hid (ROwn W6 wA.heap.size v6 ((Rm.mgd Ln (S.take (k+1))).map spOf)):=by
       show ROwn _ _ _ _
       rw[ax.out];simpa using ay
      have aP:Hid (Below wA.heap.size wA W6):=by
       have h1:=aa.out.size
       exact (aa.out.alloc h1 _).trans (Rg.ao (Rg.own_below aj.out ((Below.refl _ _).alloc (Nat.le_refl _) _)) (by simp;omega) aA)
      clear ay aA aM aj aa ax
      go_wp2_with fail
      go_roundw
      case rel=>exact⟨k+1,by omega,by go_num,ac,aP⟩
      case measure=>simp[intOf];omega
     ·obtain⟨p,hp⟩:=ex O.length
      have bN:1<=p:=by omega
      obtain⟨C,cc,rfl,ag,_,bg,br,_⟩:=eE ab (show (O.map spOf).length=p by rw[List.length_map];exact hp)
      have aQ:p-1<O.length:=by omega
      obtain⟨q,hq⟩:=ex (O[p-1])
      have aX:Hid (Ok2 q):=by rw[<-hq];exact bH.out _ (List.getElem_mem aQ)
      obtain⟨cd,rfl,bh,d0,d1,d2,d3⟩:=bO ag (p-1) aQ
      rw[hq] at d0 d1 d2 d3
      have HQ:=zh hq
      obtain⟨bd,rfl,bf,c0,c1,c2,c3⟩:=bO (ak aG.out HW.out) k aW
      rw[HX.out] at c0 c1 c2 c3
      have aD:=zh ab
      have aR:=zh hp
      have g1:(0:Int)<=(p:Int)-1:=by omega
      have g6:(1:Int)<=(p:Int):=by omega
      have g2:(p:Int)-1<(p:Int):=by omega
      have g3:((p:Int)-1).toNat=p-1:=by omega
      have g5:IntKind.i64.wrap ((p:Int)-1)=(p:Int)-1:=IntWalk.i64_in _ (by omega)
      have g7:decide ((0:Int)<(p:Int))=true:=decide_eq_true (by omega)
      have g8:(0:Int)<(p:Int):=by omega
      have g9:decide (0<p)=true:=decide_eq_true (by omega)
      have bP:0<p:=by omega
      have an:(cd.add ((p-1)*4)).block<wr.heap.size:=by rw[add_block];exact bh
      have ap:(bd.add (k*4)).block<wr.heap.size:=by rw[add_block];exact bf
      obtain⟨b,hb⟩:=ex (Ln.le x.lo q.hi)
      have HT:=zh hb
      clear hb hq ab ag h0
      cases b
      ·have ax:Hid (Rm.mgd Ln (S.take (k+1))=O++[x]):=ae.out.trans (aeO aQ aR.out HQ.out HT.out)
       clear ae
       go_wp2_with fail
       go_region_held3 (fun w'=>w'.cell? (cd.add ((p-1)*4))=some (.string ⟨(spOf q).lo.toArray⟩)/\w'.cell? ⟨(cd.add ((p-1)*4)).block,(cd.add ((p-1)*4)).off+1,none⟩=some (.string ⟨(spOf q).hi.toArray⟩)/\w'.cell? ⟨(cd.add ((p-1)*4)).block,(cd.add ((p-1)*4)).off+2,none⟩=some (.bool (spOf q).li)/\w'.cell? ⟨(cd.add ((p-1)*4)).block,(cd.add ((p-1)*4)).off+3,none⟩=some (.bool (spOf q).hn) /\
               w'.cell? (bd.add (k*4))=some (.string ⟨(spOf x).lo.toArray⟩)/\w'.cell? ⟨(bd.add (k*4)).block,(bd.add (k*4)).off+1,none⟩=some (.string ⟨(spOf x).hi.toArray⟩)/\w'.cell? ⟨(bd.add (k*4)).block,(bd.add (k*4)).off+2,none⟩=some (.bool (spOf x).li)/\w'.cell? ⟨(bd.add (k*4)).block,(bd.add (k*4)).off+3,none⟩=some (.bool (spOf x).hn)/\wr.heap.size<=w'.heap.size/\Below wr.heap.size wr w')
        (first
         | exact⟨d0,d1,d2,d3,c0,c1,c2,c3,Nat.le_refl _,(Below.refl _ _).drew⟩
         | assumption
         | (refine keepRR an ap ?_ hb;assumption))
        (first
         | (go_at_call 223;refine (j7 q x _ _ aX.out aE.out HT.out).mono ?_;rintro _ w4 ⟨rfl,hb⟩))
       rename_i al
       obtain⟨d0,d1,d2,d3,c0,c1,c2,c3,z1,z2⟩:=al
       have aa:Hid (Below _ _ w4):=bt HW.out z2
       have aj:=zh (Rg.own_below aD.out z2)
       clear z1 z2 aD HW d0 d1 d2 d3
       go_wp2_with (at_builtin;refine Rg.aC sliceR rfl (.tmp 103) (.tmp 108) rfl wA.heap.size _ (O.map spOf) [spOf x] rfl (Rg.own_below aj.out ((Below.refl _ _).alloc (Nat.le_refl _) _)) _ _ rfl (Rg.av w4 _ _ _ (by rfl)) (Nat.zero_lt_succ _) ?s2 ?b2 ?_)
       case s2=>rw[List.length_map];show _+1<=_;omega
       case b2=>have:=aa.out.size;simp;omega
       intro v6 W6 ay aA aM
       have ac:Hid (ROwn W6 wA.heap.size v6 ((Rm.mgd Ln (S.take (k+1))).map spOf)):=by
        show ROwn _ _ _ _
        rw[ax.out];simpa using ay
       have aP:Hid (Below wA.heap.size wA W6):=by
        have h1:=aa.out.size
        exact (aa.out.alloc h1 _).trans (Rg.ao (Rg.own_below aj.out ((Below.refl _ _).alloc (Nat.le_refl _) _)) (by simp;omega) aA)
       clear ay aA aM aj aa ax
       go_wp2_with fail
       go_roundw
       case rel=>exact⟨k+1,by omega,by go_num,ac,aP⟩
       case measure=>simp[intOf];omega
      ·cases hd:Rm.lt Ln q.hi x.hi
       all_goals
        have HD:=zh hd
        clear hd
       ·have ax:Hid (Rm.mgd Ln (S.take (k+1))=O):=ae.out.trans (acf aQ aR.out HQ.out HT.out HD.out)
        clear ae
        go_wp2_with fail
        go_region_held3 (fun w'=>w'.cell? (cd.add ((p-1)*4))=some (.string ⟨(spOf q).lo.toArray⟩)/\w'.cell? ⟨(cd.add ((p-1)*4)).block,(cd.add ((p-1)*4)).off+1,none⟩=some (.string ⟨(spOf q).hi.toArray⟩)/\w'.cell? ⟨(cd.add ((p-1)*4)).block,(cd.add ((p-1)*4)).off+2,none⟩=some (.bool (spOf q).li)/\w'.cell? ⟨(cd.add ((p-1)*4)).block,(cd.add ((p-1)*4)).off+3,none⟩=some (.bool (spOf q).hn) /\
                w'.cell? (bd.add (k*4))=some (.string ⟨(spOf x).lo.toArray⟩)/\w'.cell? ⟨(bd.add (k*4)).block,(bd.add (k*4)).off+1,none⟩=some (.string ⟨(spOf x).hi.toArray⟩)/\w'.cell? ⟨(bd.add (k*4)).block,(bd.add (k*4)).off+2,none⟩=some (.bool (spOf x).li)/\w'.cell? ⟨(bd.add (k*4)).block,(bd.add (k*4)).off+3,none⟩=some (.bool (spOf x).hn)/\wr.heap.size<=w'.heap.size/\Below wr.heap.size wr w')
         (first
          | exact⟨d0,d1,d2,d3,c0,c1,c2,c3,Nat.le_refl _,(Below.refl _ _).drew⟩
          | assumption
          | (refine keepRR an ap ?_ hb;assumption))
         (first
          | (go_at_call 223;refine (j7 q x _ _ aX.out aE.out HT.out).mono ?_;rintro _ w4 ⟨rfl,hb⟩))
        rename_i al
        obtain⟨d0,d1,d2,d3,c0,c1,c2,c3,z1,z2⟩:=al
        have aa:Hid (Below _ _ w4):=bt HW.out z2
        have aj:=zh (Rg.own_below aD.out z2)
        replace an:=Nat.lt_of_lt_of_le an z1
        replace ap:=Nat.lt_of_lt_of_le ap z1
        clear z1 z2 aD HW
        go_wp2_with fail
        go_region_held3 (fun w'=>w'.cell? (cd.add ((p-1)*4))=some (.string ⟨(spOf q).lo.toArray⟩)/\w'.cell? ⟨(cd.add ((p-1)*4)).block,(cd.add ((p-1)*4)).off+1,none⟩=some (.string ⟨(spOf q).hi.toArray⟩)/\w'.cell? ⟨(cd.add ((p-1)*4)).block,(cd.add ((p-1)*4)).off+2,none⟩=some (.bool (spOf q).li)/\w'.cell? ⟨(cd.add ((p-1)*4)).block,(cd.add ((p-1)*4)).off+3,none⟩=some (.bool (spOf q).hn) /\
                w'.cell? (bd.add (k*4))=some (.string ⟨(spOf x).lo.toArray⟩)/\w'.cell? ⟨(bd.add (k*4)).block,(bd.add (k*4)).off+1,none⟩=some (.string ⟨(spOf x).hi.toArray⟩)/\w'.cell? ⟨(bd.add (k*4)).block,(bd.add (k*4)).off+2,none⟩=some (.bool (spOf x).li)/\w'.cell? ⟨(bd.add (k*4)).block,(bd.add (k*4)).off+3,none⟩=some (.bool (spOf x).hn)/\w4.heap.size<=w'.heap.size/\Below w4.heap.size w4 w')
         (first
          | exact⟨d0,d1,d2,d3,c0,c1,c2,c3,Nat.le_refl _,(Below.refl _ _).drew⟩
          | assumption
          | (refine keepRR an ap ?_ hb;assumption))
         (first
          | (go_at_call 187;refine (dx x q _ _ aE.out aX.out HD.out).mono ?_;rintro _ w5 ⟨rfl,hb⟩))
        rename_i al
        obtain⟨d0,d1,d2,d3,c0,c1,c2,c3,z1,z2⟩:=al
        have bc:Hid (Below _ _ w5):=bt aa.out z2
        have ah:=zh (Rg.own_below aj.out z2)
        clear z1 z2 aj aa
        have ac:Hid (ROwn w5 wA.heap.size (.slice (some cd) p cc) ((Rm.mgd Ln (S.take (k+1))).map spOf)):=by
         show ROwn _ _ _ _
         rw[ax.out];exact ah.out
        clear ah ax
        go_wp2_with fail
        go_roundw
        case rel=>exact⟨k+1,by omega,by go_num,ac,bc⟩
        case measure=>simp[intOf];omega
       ·have ax:Hid (Rm.mgd Ln (S.take (k+1))=O.set (p-1) { lo:=q.lo,hi:=x.hi }):=ae.out.trans (aeP aQ aR.out HQ.out HT.out HD.out)
        clear ae
        go_wp2_with fail
        go_region_held3 (fun w'=>w'.cell? (cd.add ((p-1)*4))=some (.string ⟨(spOf q).lo.toArray⟩)/\w'.cell? ⟨(cd.add ((p-1)*4)).block,(cd.add ((p-1)*4)).off+1,none⟩=some (.string ⟨(spOf q).hi.toArray⟩)/\w'.cell? ⟨(cd.add ((p-1)*4)).block,(cd.add ((p-1)*4)).off+2,none⟩=some (.bool (spOf q).li)/\w'.cell? ⟨(cd.add ((p-1)*4)).block,(cd.add ((p-1)*4)).off+3,none⟩=some (.bool (spOf q).hn) /\
                w'.cell? (bd.add (k*4))=some (.string ⟨(spOf x).lo.toArray⟩)/\w'.cell? ⟨(bd.add (k*4)).block,(bd.add (k*4)).off+1,none⟩=some (.string ⟨(spOf x).hi.toArray⟩)/\w'.cell? ⟨(bd.add (k*4)).block,(bd.add (k*4)).off+2,none⟩=some (.bool (spOf x).li)/\w'.cell? ⟨(bd.add (k*4)).block,(bd.add (k*4)).off+3,none⟩=some (.bool (spOf x).hn)/\wr.heap.size<=w'.heap.size/\Below wr.heap.size wr w')
         (first
          | exact⟨d0,d1,d2,d3,c0,c1,c2,c3,Nat.le_refl _,(Below.refl _ _).drew⟩
          | assumption
          | (refine keepRR an ap ?_ hb;assumption))
         (first
          | (go_at_call 223;refine (j7 q x _ _ aX.out aE.out HT.out).mono ?_;rintro _ w4 ⟨rfl,hb⟩))
        rename_i al
        obtain⟨d0,d1,d2,d3,c0,c1,c2,c3,z1,z2⟩:=al
        have aa:Hid (Below _ _ w4):=bt HW.out z2
        have aj:=zh (Rg.own_below aD.out z2)
        replace an:=Nat.lt_of_lt_of_le an z1
        replace ap:=Nat.lt_of_lt_of_le ap z1
        clear z1 z2 aD HW
        go_wp2_with fail
        go_region_held3 (fun w'=>w'.cell? (cd.add ((p-1)*4))=some (.string ⟨(spOf q).lo.toArray⟩)/\w'.cell? ⟨(cd.add ((p-1)*4)).block,(cd.add ((p-1)*4)).off+1,none⟩=some (.string ⟨(spOf q).hi.toArray⟩)/\w'.cell? ⟨(cd.add ((p-1)*4)).block,(cd.add ((p-1)*4)).off+2,none⟩=some (.bool (spOf q).li)/\w'.cell? ⟨(cd.add ((p-1)*4)).block,(cd.add ((p-1)*4)).off+3,none⟩=some (.bool (spOf q).hn) /\
                w'.cell? (bd.add (k*4))=some (.string ⟨(spOf x).lo.toArray⟩)/\w'.cell? ⟨(bd.add (k*4)).block,(bd.add (k*4)).off+1,none⟩=some (.string ⟨(spOf x).hi.toArray⟩)/\w'.cell? ⟨(bd.add (k*4)).block,(bd.add (k*4)).off+2,none⟩=some (.bool (spOf x).li)/\w'.cell? ⟨(bd.add (k*4)).block,(bd.add (k*4)).off+3,none⟩=some (.bool (spOf x).hn)/\w4.heap.size<=w'.heap.size/\Below w4.heap.size w4 w')
         (first
          | exact⟨d0,d1,d2,d3,c0,c1,c2,c3,Nat.le_refl _,(Below.refl _ _).drew⟩
          | assumption
          | (refine keepRR an ap ?_ hb;assumption))
         (first
          | (go_at_call 187;refine (dx x q _ _ aE.out aX.out HD.out).mono ?_;rintro _ w5 ⟨rfl,hb⟩))
        rename_i al
        obtain⟨d0,d1,d2,d3,c0,c1,c2,c3,z1,z2⟩:=al
        have bc:Hid (Below _ _ w5):=bt aa.out z2
        have ah:=zh (Rg.own_below aj.out z2)
        clear z1 z2 aj aa
        have bm:p-1<(O.map spOf).length:=by rw[List.length_map];exact aQ
        have bn:(O.map spOf)[p-1]=spOf q:=by rw[List.getElem_map,HQ.out]
        obtain⟨o1,f1,b1⟩:=zV ah.out (by rw[List.length_map];exact aR.out) (p-1) 1 bm (by omega) { spOf q with hi:=(spOf x).hi } (spOf q) (.string ⟨(spOf x).hi.toArray⟩) bn rfl
        have ac:=zh o1
        have bv:=zh b1
        have aP:=zh (bc.out.setCell (show wA.heap.size<=(⟨(cd.add ((p-1)*4)).block,(cd.add ((p-1)*4)).off+1,none⟩:Addr).block by show _<=(cd.add _).block;rw[add_block];exact b1) (.string ⟨(spOf x).hi.toArray⟩))
        have bQ:bd.block<wA.heap.size:=by
         obtain⟨_,e,h,_⟩:=bO aG.out k aW
         cases e;exact h
        have bI:=zh bn
        clear o1 b1 bn d0 d2 c0 c2
        go_upto_region 19 with fail
        have bR:(w5.setCell ⟨(cd.add ((p-1)*4)).block,(cd.add ((p-1)*4)).off+1,none⟩ (.string ⟨(spOf x).hi.toArray⟩)).cell? ⟨(bd.add (k*4)).block,(bd.add (k*4)).off+3,none⟩=some (.bool (spOf x).hn):=by
         rw[World.cell?_setCell_far _ _ _ _ (by show (cd.add _).block≠(bd.add _).block;rw[add_block,add_block];have:=bv.out;omega)];exact c3
        generalize w5.setCell ⟨(cd.add ((p-1)*4)).block,(cd.add ((p-1)*4)).off+1,none⟩ (.string ⟨(spOf x).hi.toArray⟩)=W6 at *
        obtain⟨_,_,e6,bB,_⟩:=eE ac.out (show _=p by rw[List.length_set,List.length_map];exact aR.out)
        cases e6
        obtain⟨bS,bT,bU,bV,bX,a4,_,_,e0,e1,e2,e3⟩:=bW bB (p-1) (by rw[List.length_set];exact bm)
        obtain rfl:=Option.some.inj a4
        obtain⟨o2,f2,_⟩:=zV ac.out (by rw[List.length_set,List.length_map];exact aR.out) (p-1) 3 (by rw[List.length_set];exact bm) (by omega) (spOf { lo:=q.lo,hi:=x.hi }) { spOf q with hi:=(spOf x).hi } (.bool (spOf x).hn) (List.getElem_set_self _) rfl
        have aV:Hid (ROwn (W6.setCell ⟨(cd.add ((p-1)*4)).block,(cd.add ((p-1)*4)).off+3,none⟩ (.bool (spOf x).hn)) wA.heap.size (.slice (some cd) p cc) ((Rm.mgd Ln (S.take (k+1))).map spOf)):=by
         show ROwn _ _ _ _
         rw[List.set_set] at o2
         rw[ax.out,List.map_set];exact o2
        have bJ:=zh (aP.out.setCell (show wA.heap.size<=(⟨(cd.add ((p-1)*4)).block,(cd.add ((p-1)*4)).off+3,none⟩:Addr).block by show _<=(cd.add _).block;rw[add_block];exact bv.out) (.bool (spOf x).hn))
        clear o2 bB a4 e0 e1 e2 ac aP ax f1 c1 c3 d1 d3 ah bc bI
        go_wp2_with fail
        go_roundw
        case rel=>exact⟨k+1,by omega,by go_num,aV,bJ⟩
        case measure=>simp[intOf];omega
    ·obtain rfl:n=k:=by omega
     have ab:ROwn wr wA.heap.size u7 ((Rm.mgd Ln S).map spOf):=by
      have:=HO.out
      rwa [List.take_of_length_le (by rw[am.out];exact Nat.le_refl _)] at this
     have bw:=zh (HB.out.1.trans (HW.out.mono HB.out.2))
     obtain⟨O,hO⟩:=ex (Rm.mgd Ln S)
     have hj:=HJ.out
     rw[hO] at hj ab
     obtain⟨p,hp⟩:=ex O.length
     obtain⟨C,cc,rfl,ag,_,bg,br,bh⟩:=eE ab (show (O.map spOf).length=p by rw[List.length_map];exact hp)
     have bx:Hid (∀ a,C=some a->w.heap.size<=a.block):=fun a ha=>Nat.le_trans HB.out.2 (bh a ha)
     have be:=zh hj
     have bz:=zh ag
     have HP:=zh hp
     clear hO hj ab ag bh HO HW HB HJ hp
     by_cases bA:64<p
     ·have aY:R.length=64:=by rw[<-be.out,List.length_map,List.length_take,HP.out];omega
      have aZ:=zh aY
      have rx:∀ W:World,(Instr.sliceAt 130 (.slice C p cc) none (some (.int .i64 64)) none).run Tryz.prog W=.ok (.slice C 64 cc) W:=s9 C p cc 64 (by omega) bg br
      have g0:decide ((64:Int)<(p:Int))=true:=decide_eq_true (by omega)
      have g1:decide (64<p)=true:=decide_eq_true bA
      clear aY
      go_wp2_with fail
      go_ret
      refine⟨⟨C,cc,by rw[aZ.out];rfl,?_,by rw[aZ.out];omega,bx.out⟩,bw.out⟩
      rw[<-be.out,List.map_take]
      exact qv bz.out 64
     ·have aY:R.length=p:=by rw[<-be.out,List.length_map,List.length_take,HP.out];omega
      have aZ:=zh aY
      have g0:decide ((64:Int)<(p:Int))=false:=decide_eq_false (by omega)
      have g1:decide (64<p)=false:=decide_eq_false bA
      clear aY
      go_wp2_with fail
      go_ret
      refine⟨⟨C,cc,by rw[aZ.out];rfl,?_,by rw[aZ.out];exact bg,bx.out⟩,bw.out⟩
      rw[<-be.out,List.map_take]
      exact qv bz.out 64
end
end Go.Proofs.YtkaeamjnphaadaaGreatDoor

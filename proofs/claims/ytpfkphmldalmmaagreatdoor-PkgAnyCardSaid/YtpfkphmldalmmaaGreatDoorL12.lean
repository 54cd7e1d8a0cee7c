/- Part 12 of what the laws lean on. -/
import Derived.Test.YtpfkphmldalmmaaGreatDoorL11
set_option maxRecDepth 100000
set_option maxHeartbeats 3200000
namespace Go.Proofs.YtpfkphmldalmmaaGreatDoor
section
open Go.RowKit Rs
attribute [local go_sem ↓] Go.wp_at_zero Go.wp_at_succ
theorem abK {s:Sp}(he:s.err=0):Rs.Good [s.piece]:=⟨(bG he).2.2,fun p hp=>by rw[List.mem_singleton.1 hp];exact (bG he).2.1,by show 1<=64;omega⟩
theorem pB {w u u':World}{T:TypeId}(h:Hid (Below (w.heap.size+1) (w.alloc (.cells #[.int .i64 0] T)) u))(hb:Below u.heap.size u u'):Hid (Below (w.heap.size+1) (w.alloc (.cells #[.int .i64 0] T)) u') :=
 h.out.trans (hb.mono (by have:=h.out.size;simpa using this))
end
section
open Go.RowKit Rs
attribute [local go_sem ↓] Go.wp_at_zero Go.wp_at_succ
def prevS (l:List Sp) (k:Nat):Option Sp:=if k=0 then none else l[k-1]?
def CkSt (l:List Sp) (k:Nat):Prop:=checkR l=checkF k (prevS l k) (l.drop k)/\(∀ s,prevS l k=some s->s.err=0)/\k<=64
theorem nS (l:List Sp):CkSt l 0:=⟨rfl,fun s hs=>(by cases hs),by decide⟩
theorem vq (i:Nat)(o:Option Sp)(s:Sp)(t:List Sp):checkF i o (s :: t)=if 64<=i then 4 else if s.err≠0 then s.err else match o with | none=>checkF (i+1) (some s) t | some p=>if behind p s then checkF (i+1) (some s) t else 7:=rfl
theorem sN {p s:Sp}(hp:p.err=0)(hs:s.err=0):afterI p.hi p.hn s.lo s.li=if behind p s then 0 else 7:=by
 obtain⟨e1,o1,_⟩:=bG hp
 obtain⟨e2,o2,_⟩:=bG hs
 have:=p9 o1 o2
 rw[e1,e2] at this
 rw[this];rfl
theorem qk {l:List Sp}{k:Nat}(h:CkSt l k)(hk:k<l.length):(64<=k->checkR l=4)/\(¬ 64<=k->l[k].err≠0->checkR l=l[k].err)/\(k=0->l[k].err=0->CkSt l 1) /\
  (¬ 64<=k->∀ p,0<k->l[k-1]?=some p->l[k].err=0->p.err=0/\(behind p l[k]=true->CkSt l (k+1))/\(behind p l[k]=false->checkR l=7)):=by
 obtain⟨h1,h2,h3⟩:=h
 rw[List.drop_eq_getElem_cons hk,vq] at h1
 have aa:prevS l (k+1)=some l[k]:=by unfold prevS;rw[if_neg (by omega),Nat.add_sub_cancel,List.getElem?_eq_getElem hk]
 refine⟨fun h=>?_,fun h he=>?_,fun h he=>?_,fun h p h0 hp he=>⟨?_,fun hb=>?_,fun hb=>?_⟩⟩
 ·rw[if_pos h] at h1;exact h1
 ·rw[if_neg h,if_pos he] at h1;exact h1
 ·subst h
  rw[if_neg (by omega),if_neg (by rw[he];simp)] at h1
  exact⟨by rw[aa];exact h1,fun s hs=>by rw[aa] at hs;cases hs;exact he,by omega⟩
 ·refine h2 p ?_;unfold prevS;rw[if_neg (by omega)];exact hp
 ·have e:prevS l k=some p:=by unfold prevS;rw[if_neg (by omega)];exact hp
  rw[if_neg h,if_neg (by rw[he];simp),e] at h1
  replace h1:checkR l=if behind p l[k]=true then checkF (k+1) (some l[k]) (l.drop (k+1)) else 7:=h1
  rw[if_pos hb] at h1
  exact⟨by rw[aa];exact h1,fun s hs=>by rw[aa] at hs;cases hs;exact he,by omega⟩
 ·have e:prevS l k=some p:=by unfold prevS;rw[if_neg (by omega)];exact hp
  rw[if_neg h,if_neg (by rw[he];simp),e] at h1
  replace h1:checkR l=if behind p l[k]=true then checkF (k+1) (some l[k]) (l.drop (k+1)) else 7:=h1
  rw[if_neg (by rw[hb];simp)] at h1
  exact h1
theorem keepCk {w1 u u':World}{b:Nat}{q:Addr}{x0 x1 x2 x3 y0 y1 y2 y3:Value}(hb1:b<w1.heap.size)(hq1:q.block<w1.heap.size)
  (h:u.cell? ⟨b,0,none⟩=some x0/\u.cell? ⟨b,1,none⟩=some x1/\u.cell? ⟨b,2,none⟩=some x2/\u.cell? ⟨b,3,none⟩=some x3/\u.cell? q=some y0/\u.cell? ⟨q.block,q.off+1,none⟩=some y1/\u.cell? ⟨q.block,q.off+2,none⟩=some y2/\u.cell? ⟨q.block,q.off+3,none⟩=some y3/\w1.heap.size<=u.heap.size/\Below w1.heap.size w1 u) (hb:Below u.heap.size u u') :
  u'.cell? ⟨b,0,none⟩=some x0/\u'.cell? ⟨b,1,none⟩=some x1/\u'.cell? ⟨b,2,none⟩=some x2/\u'.cell? ⟨b,3,none⟩=some x3/\u'.cell? q=some y0/\u'.cell? ⟨q.block,q.off+1,none⟩=some y1/\u'.cell? ⟨q.block,q.off+2,none⟩=some y2/\u'.cell? ⟨q.block,q.off+3,none⟩=some y3/\w1.heap.size<=u'.heap.size/\Below w1.heap.size w1 u':=by
 obtain⟨h0,h1,h2,h3,h4,h5,h6,h7,h8,h9⟩:=h
 have e:∀ a:Addr,a.block<w1.heap.size->u'.cell? a=u.cell? a:=fun a ha=>hb.cell (by omega)
 refine⟨?_,?_,?_,?_,?_,?_,?_,?_,Nat.le_trans h8 hb.size,h9.trans (hb.mono h8)⟩
 ·rw[e _ hb1];exact h0
 ·rw[e _ hb1];exact h1
 ·rw[e _ hb1];exact h2
 ·rw[e _ hb1];exact h3
 ·rw[e _ hq1];exact h4
 ·rw[e ⟨q.block,q.off+1,none⟩ hq1];exact h5
 ·rw[e ⟨q.block,q.off+2,none⟩ hq1];exact h6
 ·rw[e ⟨q.block,q.off+3,none⟩ hq1];exact h7
theorem xX (A:Option Addr)(n c:Nat)(l:List Sp)(w:World)(hw:MaxOk w)(hn:l.length=n)(hr:SRow w A l)(hl:n<=1000) :
  Calls Tryz.prog 190 #[.slice A n c] w fun e w'=>e=.returned (.int .i64 (checkR l))/\Below w.heap.size w w':=by
 have aQ:∀ (fn:Fn) (first cap:Array Value) (w:World),(Instr.makeFunc fn first cap).run Tryz.prog w=.ok (.func fn first cap) w:=fun _ _ _ _=>rfl
 have HM:Hid (MaxOk (w.alloc (.cells #[.int .i64 0] 36))):=ah hw ((Below.refl _ _).alloc (Nat.le_refl _) _)
 have HR:Hid (SRow (w.alloc (.cells #[.int .i64 0] 36)) A l):=an hr ((Below.refl _ _).alloc (Nat.le_refl _) _)
 have HN:=zh hn
 obtain⟨E,hE⟩:=ex (checkR l)
 rw[hE]
 have HE:=zh hE
 clear hw hn hr hE
 go_enter_defers Tryz.func190,Tryz.ntmps190
 go_wp2_with fail
 go_loopw [8] (fun i wr=>∃ k:Nat,k<=n/\i=.int .i64 k/\Hid (CkSt l k)/\Hid (Below (w.heap.size+1) (w.alloc (.cells #[.int .i64 0] 36)) wr)) (fun i _=>n-(intOf i).toNat)
 case atStart=>exact⟨0,Nat.zero_le _,rfl,nS l,Below.refl _ _⟩
 case round =>
  obtain⟨k,hk,rfl,HS,HB⟩:=hrel
  by_cases aL:k<n
  ·have az:k<l.length:=by rw[HN.out];exact aL
   obtain⟨ad,lo,hi,li,hh,rfl,hs,aP,c0,c1,c2,c3⟩:=bB (an HR.out (by simpa using HB.out)) k az
   obtain⟨st1,st2,ax,ay⟩:=qk HS.out az
   rw[hs] at st2 ax ay
   have ao:=zh st1
   have ap:=zh st2
   have aq:=zh ax
   have ar:=zh ay
   have aA:=zh (d9 wr lo hi li hh 113)
   have aB:Hid (MaxOk (wr.alloc (.cells #[.string ⟨lo.toArray⟩,.string ⟨hi.toArray⟩,.bool li,.bool hh] 113))):=ah HM.out ((by simpa using HB.out:Below _ _ wr).alloc (by have:=HB.out.size;simpa using this) _)
   clear hs st1 st2 ax ay
   go_wp2_with fail
   refine (nQ k lo hi li hh _ (by omega) aB.out).mono ?_
   rintro _ w1 ⟨rfl,hb⟩
   have au:=zh (dp aA.out hb)
   have av:Below wr.heap.size wr w1:=((Below.refl _ _).alloc (Nat.le_refl _) _).trans (hb.mono (by simp))
   have aM:=zh av
   have ae:=pB HB av
   clear hb av c0 c1 c2 c3 aA aB
   by_cases af:64<=k
   ·rw[if_pos af,aT (by decide)]
    have ak:Hid (E=4):=by show _=_;rw[<-HE.out];exact ao.out af
    obtain⟨aa,ac⟩:=bw w w1 _ _ ae.out
    clear af
    go_wp2_with fail
    refine leaves_cons (f:=224) (args:=#[.pointer (some ⟨w.heap.size,0,none⟩)]) (by simp) (by simp[go_sem]) ?_
    refine (gy ⟨w.heap.size,0,none⟩ 0 _ _ ?_ ?_).mono ?_
    ·simp[go_sem,aa]
    ·simp[go_sem,ac]
    rintro e u' w9 ⟨rfl,rfl,rfl⟩
    simp[Leaves,settle,results,Tryz.results190,go_sem,aa]
    exact⟨ak.out.symm,(bo ae.out).setCell (Nat.le_refl _) _⟩
   rw[if_neg af]
   by_cases ag:span lo hi li hh=0
   ·rw[ag,aW]
    have al:(Sp.mk lo hi li hh).err=0:=ag
    by_cases aC:k=0
    ·have NS:Hid (CkSt l 1):=aq.out aC al
     subst aC
     clear ag al af ao ap aq ar
     go_wp2_with fail
     go_roundw
     case rel=>exact⟨1,by omega,rfl,NS,ae⟩
     case measure=>simp[intOf];omega
    ·have aD:k-1<l.length:=by omega
     have aE:l[k-1]?=some l[k-1]:=List.getElem?_eq_getElem aD
     obtain⟨pe,sy,sn⟩:=ar.out af _ (by omega) aE al
     obtain⟨aR,ai,phi,aj,ph,aH,aI,_,d0,d1,d2,d3⟩:=bB (an HR.out (by simpa using ae.out)) (k-1) aD
     obtain rfl:=Option.some.inj aH
     rw[aI] at pe sy sn
     have aF:=sN pe al
     have ab:afterI phi ph lo li=if behind ⟨ai,phi,aj,ph⟩ ⟨lo,hi,li,hh⟩ then 0 else 7:=aF
     have B1:=zh (cz ag).1
     have B2:=zh (cz (lo:=ai) (hi:=phi) (li:=aj) (hn:=ph) pe).2.1
     obtain⟨bh,aJ⟩:=ex (behind (Sp.mk ai phi aj ph) ⟨lo,hi,li,hh⟩)
     rw[aJ] at sy sn ab
     have SY:=zh sy
     have SN:=zh sn
     obtain⟨k0,k1,k2,k3,k4⟩:=au.out
     have g1:(0:Int)<=(k:Int)-1:=by omega
     have g6:(1:Int)<=(k:Int):=by omega
     have g7:((k-1:Nat):Int)=(k:Int)-1:=by omega
     clear g7
     have g2:(k:Int)-1<(n:Int):=by omega
     have g3:((k:Int)-1).toNat=k-1:=by omega
     have g4:(0:Int)<(k:Int):=by omega
     have g5:IntKind.i64.wrap ((k:Int)-1)=(k:Int)-1:=IntWalk.i64_in _ (by omega)
     clear ag al af ao ap aq ar pe sy sn aI aE aJ aH aF
     have aN:(ad.add ((k-1)*4)).block<w1.heap.size:=by rw[add_block];exact Nat.lt_of_lt_of_le aP aM.out.size
     have aG:Hid (MaxOk w1):=ah HM.out (by simpa using ae.out)
     cases bh
     ·rw[if_neg Bool.false_ne_true] at ab
      have aw:=zh ab
      have ak:Hid (E=7):=by show _=_;rw[<-HE.out];exact SN.out rfl
      clear ab
      go_wp2_with fail
      first
      | go_region_with (first
        | (go_at_call 226;refine (gx lo hi li hh ai phi aj ph _ (ah aG.out (Below.refl _ _).drew) B1.out B2.out).mono ?_;rintro _ w4 ⟨rfl,hb⟩;rw[aw.out,aT (by decide)];have am:=pB ae (drewb hb);clear hb;refine ec (P:=Tryz.prog) (a:={ tmps:=#[],defers:=[] }) (w:=w) ?_))
      | fail
      all_goals
       obtain⟨aa,ac⟩:=bw w w4 _ _ am.out
       refine leaves_cons (f:=224) (args:=#[.pointer (some ⟨w.heap.size,0,none⟩)]) (by simp) (by simp[go_sem]) ?_
       refine (gy ⟨w.heap.size,0,none⟩ 0 _ _ ?_ ?_).mono ?_
       ·simp[go_sem,aa]
       ·simp[go_sem,ac]
       rintro e u' w9 ⟨rfl,rfl,rfl⟩
       simp[Leaves,settle,results,Tryz.results190,go_sem,aa]
       exact⟨ak.out.symm,(bo am.out).setCell (Nat.le_refl _) _⟩
     ·rw[if_pos rfl] at ab
      have aw:=zh ab
      have NS:Hid (CkSt l (k+1)):=SY.out rfl
      clear ab
      go_wp2_with fail
      go_region_held3 (fun w'=>w'.cell? ⟨wr.heap.size,0,none⟩=some (.string ⟨lo.toArray⟩)/\w'.cell? ⟨wr.heap.size,1,none⟩=some (.string ⟨hi.toArray⟩)/\w'.cell? ⟨wr.heap.size,2,none⟩=some (.bool li)/\w'.cell? ⟨wr.heap.size,3,none⟩=some (.bool hh) /\
        w'.cell? (ad.add ((k-1)*4))=some (.string ⟨ai.toArray⟩)/\w'.cell? ⟨(ad.add ((k-1)*4)).block,(ad.add ((k-1)*4)).off+1,none⟩=some (.string ⟨phi.toArray⟩)/\w'.cell? ⟨(ad.add ((k-1)*4)).block,(ad.add ((k-1)*4)).off+2,none⟩=some (.bool aj)/\w'.cell? ⟨(ad.add ((k-1)*4)).block,(ad.add ((k-1)*4)).off+3,none⟩=some (.bool ph)/\w1.heap.size<=w'.heap.size/\Below w1.heap.size w1 w')
       (first
        | exact⟨k0,k1,k2,k3,d0,d1,d2,d3,Nat.le_refl _,(Below.refl _ _).drew⟩
        | assumption
        | (refine keepCk k4 aN ?_ hb;assumption))
       (first
        | (go_at_call 226;refine (gx lo hi li hh ai phi aj ph _ ?_ B1.out B2.out).mono ?_;(go_split_ands;exact ah aG.out (by assumption));rintro _ w4 ⟨rfl,hb⟩;rw[aw.out,aW]))
      rename_i aK
      have am:=pB ae aK.2.2.2.2.2.2.2.2.2
      clear aK k0 k1 k2 k3 d0 d1 d2 d3 g3 g5
      go_wp2_with fail
      go_roundw
      case rel=>exact⟨k+1,by omega,by go_num,NS,am⟩
      case measure=>simp[intOf];omega
   ·have ak:Hid (E=span lo hi li hh):=by show _=_;rw[<-HE.out];exact ap.out af ag
    rw[aT ag]
    obtain⟨aa,ac⟩:=bw w w1 _ _ ae.out
    clear af ag
    go_wp2_with fail
    refine leaves_cons (f:=224) (args:=#[.pointer (some ⟨w.heap.size,0,none⟩)]) (by simp) (by simp[go_sem]) ?_
    refine (gy ⟨w.heap.size,0,none⟩ 0 _ _ ?_ ?_).mono ?_
    ·simp[go_sem,aa]
    ·simp[go_sem,ac]
    rintro e u' w9 ⟨rfl,rfl,rfl⟩
    simp[Leaves,settle,results,Tryz.results190,go_sem,aa]
    exact⟨ak.out.symm,(bo ae.out).setCell (Nat.le_refl _) _⟩
  ·have aO:Hid (E=0):=by
    show _=_
    rw[<-HE.out,HS.out.1,List.drop_eq_nil_of_le (by rw[HN.out];omega)];rfl
   obtain⟨aa,ac⟩:=bw w wr _ _ HB.out
   go_wp2_with fail
   refine leaves_cons (f:=224) (args:=#[.pointer (some ⟨w.heap.size,0,none⟩)]) (by simp) (by simp[go_sem]) ?_
   refine (vp ⟨w.heap.size,0,none⟩ 0 _ ?_ ?_).mono ?_
   ·simp[go_sem,aa]
   ·simp[go_sem,ac]
   rintro e u' w4 ⟨rfl,rfl,rfl⟩
   simp[Leaves,settle,results,Tryz.results190,go_sem,aa]
   exact⟨aO.out.symm,((bo HB.out).setCell (Nat.le_refl _) _).setCell (Nat.le_refl _) _⟩
end
section
open Go.RowKit Rs
attribute [local go_sem ↓] Go.wp_at_zero Go.wp_at_succ
theorem ef {w u:World}{p:Addr}{lo hi:List UInt8}{li hn:Bool}(hp:p.block<w.heap.size)(h:At4 w p lo hi li hn)(hb:Below w.heap.size w u):At4 u p lo hi li hn:=by
 obtain⟨h0,h1,h2,h3⟩:=h
 refine⟨?_,?_,?_,?_⟩
 ·rw[hb.cell hp];exact h0
 ·rw[hb.cell (by simpa using hp)];exact h1
 ·rw[hb.cell (by simpa using hp)];exact h2
 ·rw[hb.cell (by simpa using hp)];exact h3
theorem dr {α:Type}{enc:α->List Value}{K:Nat}{T:TypeId}{v:Value}{l:List α}{w wr W5:World}{o:Obj}(hB:Hid (Below w.heap.size w wr/\w.heap.size<=wr.heap.size))(hO:Hid (Rg.Own enc K wr w.heap.size T v l))(hg:(wr.drew.alloc o).grownBy W5 v.ownBlock) :
  Hid (Below w.heap.size w W5/\w.heap.size<=W5.heap.size):=by
 have hs:w.heap.size<=wr.drew.heap.size:=hB.out.2
 have h1:Below w.heap.size w (wr.drew.alloc o):=(hB.out.1.drew).alloc hs _
 have h2:w.heap.size<=(wr.drew.alloc o).heap.size:=by
  have e:(wr.drew.alloc o).heap.size=wr.drew.heap.size+1:=by simp
  omega
 exact⟨h1.trans (Rg.aw (Rg.own_below hO.out ((Below.refl _ _).drew.alloc (Nat.le_refl _) _)) h2 hg),Nat.le_trans h2 hg.size⟩
theorem eR {w wr:World}{o:Obj}(hB:Hid (Below w.heap.size w wr/\w.heap.size<=wr.heap.size)):w.heap.size<=(wr.drew.alloc o).heap.size:=by
 have hs:w.heap.size<=wr.drew.heap.size:=hB.out.2
 have e:(wr.drew.alloc o).heap.size=wr.drew.heap.size+1:=by simp
 omega
theorem abL {w:World}{B n:Nat}{v:Value}{l:List Sp}(h:ROwn w B v l)(hn:l.length=n):∃ C d,v=.slice C n d/\SRow w C l/\n<=d/\∀ a,C=some a->B<=a.block:=by
 subst hn
 obtain⟨C,d,hv,hr⟩:=so (T:=200) h
 obtain⟨C2,d2,aa,_,h3,_⟩:=Rg.aE fitsS h
 rw[hv] at aa
 cases aa
 exact⟨C,d,hv,hr,h3,fun a ha=>by subst ha;exact (Rg.bD h a.block (by rw[hv];rfl)).1⟩
theorem adh (A:Option Addr)(c:Nat)(l:List Sp)(w:World)(hr:SRow w A l)(hl:l.length<=1000) :
  Calls Tryz.prog 105 #[.slice A l.length c] w (SpansRet w l):=by
 have HR:=zh hr
 clear hr
 go_enter Tryz.func105,Tryz.ntmps105
 go_wp2_with fail
 go_loopw [3,4] (fun v i wr=>∃ k:Nat,k<=l.length/\i=.int .i64 k/\Hid (POwn wr w.heap.size v (l.take k))/\Hid (Below w.heap.size w wr/\w.heap.size<=wr.heap.size)) (fun _ i _=>l.length-(intOf i).toNat)
 case atStart=>exact⟨0,Nat.zero_le _,rfl,Rg.aD _ _ _,Below.refl _ _,Nat.le_refl _⟩
 case round =>
  obtain⟨k,hk,rfl,HO,HB⟩:=hrel
  by_cases ac:k<l.length
  ·obtain⟨ad,lo,hi,li,hn,rfl,hs,af,h4⟩:=bB HR.out k ac
   have ai:(l.take k).length+1<=1000000:=by rw[List.length_take];omega
   have HT:Hid (l.take (k+1)=l.take k++[⟨lo,hi,li,hn⟩]):=by show _=_;rw[List.take_succ_eq_append_getElem ac,hs]
   have aa:Hid ((ad.add (k*4)).block<w.heap.size):=by show _<_;rw[add_block];exact af
   have H4:=zh h4
   have HD:Hid (Below w.heap.size w wr.drew):=HB.out.1.drew
   have HS:Hid (w.heap.size<=wr.drew.heap.size):=HB.out.2
   obtain⟨c0,c1,c2,c3⟩:=ef aa.out h4 HB.out.1
   have k0:(0:Int)<=(k:Int):=by omega
   have k1:(k:Int)<(l.length:Int):=by omega
   clear hs h4 af
   go_wp2_with fail
   go_region_held3 (fun w'=>w'.cell? (ad.add (k*4))=some (.string ⟨lo.toArray⟩)/\w'.cell? ⟨(ad.add (k*4)).block,(ad.add (k*4)).off+1,none⟩=some (.string ⟨hi.toArray⟩)/\w'.cell? ⟨(ad.add (k*4)).block,(ad.add (k*4)).off+2,none⟩=some (.bool li)/\w'.cell? ⟨(ad.add (k*4)).block,(ad.add (k*4)).off+3,none⟩=some (.bool hn))
    (first
     | exact ef aa.out H4.out HD.out
     | exact ef aa.out H4.out (HD.out.alloc HS.out _)
     | exact ef aa.out H4.out ae.out.1)
    ((refine Rg.bz sliceS (by rfl) (.tmp 11) (.tmp 33) (by rfl) w.heap.size u3 (l.take k) [⟨lo,hi,li,hn⟩] (by rfl) (Rg.own_below HO.out ((Below.refl _ _).drew.alloc (Nat.le_refl _) _)) _ _ (by rfl) (newsS _ ⟨lo,hi,li,hn⟩ _) (Nat.zero_lt_succ _) ai (eR HB) ?_;intro v5 W5 ag ah aj;have ae:=dr HB HO ah))
   have ab:Hid (POwn W5 w.heap.size v5 (l.take (k+1))):=by show POwn _ _ _ _;rw[HT.out];exact ag
   clear ag ah aj c0 c1 c2 c3 HD HS
   go_wp2_with fail
   go_roundw
   case rel=>exact⟨k+1,by omega,by go_num,ab,ae⟩
   case measure=>simp[intOf];omega
  ·obtain rfl:k=l.length:=by omega
   have ab:POwn wr w.heap.size u3 l:=by have:=HO.out;rwa [List.take_length] at this
   clear HO
   obtain⟨C,d,rfl,h1,h2,h3⟩:=wJ ab
   have H1:=zh h1
   have H2:=zh h2
   have H3:=zh h3
   clear h1 h2 h3 ab
   go_wp2_with fail
   go_ret
   exact⟨⟨C,d,rfl,H1.out,H2.out,H3.out⟩,HB.out.1⟩
theorem adi (A:Option Addr)(c:Nat)(l:List Sp)(w:World)(hr:SRow w A l)(hl:l.length<=1000) :
  Calls Tryz.prog 142 #[.slice A l.length c] w (SpansRet w l):=by
 have HR:=zh hr
 clear hr
 go_enter Tryz.func142,Tryz.ntmps142
 go_wp2_with fail
 go_loopw [3,4] (fun v i wr=>∃ k:Nat,k<=l.length/\i=.int .i64 k/\Hid (ROwn wr w.heap.size v (l.take k))/\Hid (Below w.heap.size w wr/\w.heap.size<=wr.heap.size)) (fun _ i _=>l.length-(intOf i).toNat)
 case atStart=>exact⟨0,Nat.zero_le _,rfl,Rg.aD _ _ _,Below.refl _ _,Nat.le_refl _⟩
 case round =>
  obtain⟨k,hk,rfl,HO,HB⟩:=hrel
  by_cases ac:k<l.length
  ·obtain⟨ad,lo,hi,li,hn,rfl,hs,af,h4⟩:=bB HR.out k ac
   have ai:(l.take k).length+1<=1000000:=by rw[List.length_take];omega
   have HT:Hid (l.take (k+1)=l.take k++[⟨lo,hi,li,hn⟩]):=by show _=_;rw[List.take_succ_eq_append_getElem ac,hs]
   have aa:Hid ((ad.add (k*4)).block<w.heap.size):=by show _<_;rw[add_block];exact af
   have H4:=zh h4
   have HD:Hid (Below w.heap.size w wr.drew):=HB.out.1.drew
   have HS:Hid (w.heap.size<=wr.drew.heap.size):=HB.out.2
   obtain⟨c0,c1,c2,c3⟩:=ef aa.out h4 HB.out.1
   have k0:(0:Int)<=(k:Int):=by omega
   have k1:(k:Int)<(l.length:Int):=by omega
   clear hs h4 af
   go_wp2_with fail
   go_region_held3 (fun w'=>w'.cell? (ad.add (k*4))=some (.string ⟨lo.toArray⟩)/\w'.cell? ⟨(ad.add (k*4)).block,(ad.add (k*4)).off+1,none⟩=some (.string ⟨hi.toArray⟩)/\w'.cell? ⟨(ad.add (k*4)).block,(ad.add (k*4)).off+2,none⟩=some (.bool li)/\w'.cell? ⟨(ad.add (k*4)).block,(ad.add (k*4)).off+3,none⟩=some (.bool hn))
    (first
     | exact ef aa.out H4.out HD.out
     | exact ef aa.out H4.out (HD.out.alloc HS.out _)
     | exact ef aa.out H4.out ae.out.1)
    ((refine Rg.bz sliceR (by rfl) (.tmp 11) (.tmp 33) (by rfl) w.heap.size u3 (l.take k) [⟨lo,hi,li,hn⟩] (by rfl) (Rg.own_below HO.out ((Below.refl _ _).drew.alloc (Nat.le_refl _) _)) _ _ (by rfl) (newsS _ ⟨lo,hi,li,hn⟩ _) (Nat.zero_lt_succ _) ai (eR HB) ?_;intro v5 W5 ag ah aj;have ae:=dr HB HO ah))
   have ab:Hid (ROwn W5 w.heap.size v5 (l.take (k+1))):=by show ROwn _ _ _ _;rw[HT.out];exact ag
   clear ag ah aj c0 c1 c2 c3 HD HS
   go_wp2_with fail
   go_roundw
   case rel=>exact⟨k+1,by omega,by go_num,ab,ae⟩
   case measure=>simp[intOf];omega
  ·obtain rfl:k=l.length:=by omega
   have ab:ROwn wr w.heap.size u3 l:=by have:=HO.out;rwa [List.take_length] at this
   clear HO
   obtain⟨C,d,rfl,h1,h2,h3⟩:=abL ab rfl
   have H1:=zh h1
   have H2:=zh h2
   have H3:=zh h3
   clear h1 h2 h3 ab
   go_wp2_with fail
   go_ret
   exact⟨⟨C,d,rfl,H1.out,H2.out,H3.out⟩,HB.out.1⟩
end
section
open Go.RowKit Rs
structure Ent where
 A:Option Addr
 n:Nat
 l:List Sp
def St (w0 u:World) (L:List Ent):Prop:=MaxOk w0/\Below w0.heap.size w0 u/\∀ x∈L,SRow u x.A x.l/\x.l.length=x.n
section
variable {w0 u u':World} {L:List Ent}
theorem fc (h:St w0 u L):MaxOk u:=ah h.1 h.2.1
theorem cZ (h:St w0 u L)(hb:Below u.heap.size u u'):St w0 u' L:=⟨h.1,h.2.1.trans (hb.mono h.2.1.size),fun x hx=>⟨an (h.2.2 x hx).1 hb,(h.2.2 x hx).2⟩⟩
theorem nT {C:Option Addr}{n:Nat}{l:List Sp}(h:St w0 u L)(hb:Below u.heap.size u u')(hr:SRow u' C l)(hn:l.length=n):St w0 u' (⟨C,n,l⟩ :: L):=by
 obtain⟨h1,h2,h3⟩:=cZ h hb
 refine⟨h1,h2,fun x hx=>?_⟩
 rcases List.mem_cons.1 hx with rfl | hx
 ·exact⟨hr,hn⟩
 ·exact h3 x hx
theorem aH {A:Option Addr}{n:Nat}{l:List Sp}(h:St w0 u L)(i:Nat)(hi:L[i]?=some ⟨A,n,l⟩):SRow u A l/\l.length=n:=h.2.2 _ (List.mem_of_getElem? hi)
theorem sO (h:St w0 u L)(o:Obj):St w0 (u.alloc o) L:=cZ h ((Below.refl _ _).alloc (Nat.le_refl _) _)
def RowRet (w0:World) (L:List Ent) (l:List Sp) (e:Ending) (u':World):Prop:=∃ C n d,e=.returned (.slice C n d)/\St w0 u' (⟨C,n,l⟩ :: L)
def RowErr (w0:World) (L:List Ent) (l:List Sp) (k:Int) (e:Ending) (u':World):Prop:=∃ C n d,e=.returned (.tuple #[.slice C n d,.int .i64 k])/\St w0 u' (⟨C,n,l⟩ :: L)
def BoolRet (w0:World) (L:List Ent) (b:Bool) (e:Ending) (u':World):Prop:=e=.returned (.bool b)/\St w0 u' L
theorem lP (h:St w0 u L){l:List Sp}{e:Ending}(hr:SpansRet u l e u'):RowRet w0 L l e u':=by
 obtain⟨⟨C,d,rfl,h1,_,_⟩,hb⟩:=hr
 exact⟨C,_,d,rfl,nT h hb h1 rfl⟩
theorem adj (h:St w0 u L){l:List Sp}{k:Int}{e:Ending}(hr:OfRet u l k e u'):RowErr w0 L l k e u':=by
 obtain⟨⟨C,d,rfl,h1,_⟩,hb⟩:=hr
 exact⟨C,_,d,rfl,nT h hb h1 rfl⟩
theorem mO (h:St w0 u L){b c:Bool}(hbc:b=c){e:Ending}(hr:e=.returned (.bool b)/\Below u.heap.size u u'):BoolRet w0 L c e u':=⟨by rw[hr.1,hbc],cZ h hr.2⟩
theorem abM {a:List (Rm.P Cut)}{n:Nat}(ga:Rs.Good a)(h:(a.map spOf).length=n):a.length=n/\n<=64:=by
 rw[List.length_map] at h;exact⟨h,h ▸ ga.2.2⟩
def sgnOf (s:List UInt8):Option Nat:=if s=sgnT 0 then some 0 else if s=sgnT 1 then some 1 else if s=sgnT 2 then some 2 else if s=sgnT 3 then some 3 else if s=sgnT 4 then some 4 else if s=sgnT 5 then some 5 else none
def ofE (s v:List UInt8):Int:=match sgnOf s with | none=>2 | some _=>Vm.check v
def ofR (s v:List UInt8):List (Rm.P Cut):=match sgnOf s with | none=>[] | some i=>if Vm.check v=0 then signR (Vm.canon v) i else []
theorem nU {s:List UInt8}{i:Nat}(h:sgnOf s=some i):i<6/\s=sgnT i:=by
 unfold sgnOf at h
 split at h
 ·cases h;exact⟨by decide,by assumption⟩
 split at h
 ·cases h;exact⟨by decide,by assumption⟩
 split at h
 ·cases h;exact⟨by decide,by assumption⟩
 split at h
 ·cases h;exact⟨by decide,by assumption⟩
 split at h
 ·cases h;exact⟨by decide,by assumption⟩
 split at h
 ·cases h;exact⟨by decide,by assumption⟩
 cases h
theorem xY {s:List UInt8}(h:sgnOf s=none):NoSign s:=fun i hi e=>by
 subst e
 match i,hi with
 | 0,_=>cases h
 | 1,_=>cases h
 | 2,_=>cases h
 | 3,_=>cases h
 | 4,_=>cases h
 | 5,_=>cases h
theorem sP (s v:List UInt8):Rs.Good (ofR s v):=by
 unfold ofR
 split
 ·exact⟨trivial,fun p hp=>(by cases hp),by decide⟩
 ·rename_i i hs
  split
  ·exact ck (p8 (by assumption)) i (nU hs).1
  ·exact⟨trivial,fun p hp=>(by cases hp),by decide⟩
theorem sQ (s v:List UInt8)(w:World)(hw:MaxOk w):Calls Tryz.prog 268 #[.string ⟨s.toArray⟩,.string ⟨v.toArray⟩] w (OfRet w ((ofR s v).map spOf) (ofE s v)):=by
 unfold ofR ofE
 cases hs:sgnOf s with
 | none=>exact zz s v w hw (xY hs)
 | some i =>
  obtain⟨hi,rfl⟩:=nU hs
  by_cases hv:Vm.check v=0
  ·simp only[hv,if_true];exact adg i hi v w hw hv
  ·simp only[hv,if_false];exact abJ i hi v w hw hv
theorem s_of (h:St w0 u L)(s v:List UInt8)(R:List (Rm.P Cut))(k:Int)(hR:ofR s v=R)(hk:ofE s v=k):Calls Tryz.prog 268 #[.string ⟨s.toArray⟩,.string ⟨v.toArray⟩] u (RowErr w0 L (R.map spOf) k):=by
 subst hR hk
 exact (sQ s v u (fc h)).mono fun _ _=>adj h
variable {A B:Option Addr} {n m:Nat}
theorem aeN (h:St w0 u L)(i j:Nat){a b:List (Rm.P Cut)}(hi:L[i]?=some ⟨A,n,a.map spOf⟩)(hj:L[j]?=some ⟨B,m,b.map spOf⟩)(ga:Rs.Good a)(gb:Rs.Good b)(ca cb:Nat)(R:List (Rm.P Cut))(hR:andR a b=R) :
  Calls Tryz.prog 269 #[.slice A n ca,.slice B m cb] u (RowRet w0 L (R.map spOf)):=by
 subst hR
 exact (adb A B n m ca cb a b u (fc h) (aH h i hi).2 (aH h j hj).2 (aH h i hi).1 (aH h j hj).1 ga gb).mono fun _ _=>lP h
theorem s_or (h:St w0 u L)(i j:Nat){a b:List (Rm.P Cut)}(hi:L[i]?=some ⟨A,n,a.map spOf⟩)(hj:L[j]?=some ⟨B,m,b.map spOf⟩)(ga:Rs.Good a)(gb:Rs.Good b)(ca cb:Nat)(R:List (Rm.P Cut))(hR:orR a b=R) :
  Calls Tryz.prog 238 #[.slice A n ca,.slice B m cb] u (RowRet w0 L (R.map spOf)):=by
 subst hR
 exact (aem A B n m ca cb a b u (fc h) (aH h i hi).2 (aH h j hj).2 (aH h i hi).1 (aH h j hj).1 ga gb).mono fun _ _=>lP h
theorem xZ (h:St w0 u L)(R:List (Rm.P Cut))(hR:allR=R):Calls Tryz.prog 21 #[] u (RowRet w0 L (R.map spOf)):=by
 subst hR
 exact (pA u).mono fun _ _=>lP h
theorem aeO (h:St w0 u L)(i:Nat){a:List (Rm.P Cut)}(hi:L[i]?=some ⟨A,n,a.map spOf⟩)(ga:Rs.Good a)(ca:Nat)(v:List UInt8)(hv:Vm.check v=0)(b:Bool)(hb:hasR a v=b) :
  Calls Tryz.prog 57 #[.slice A n ca,.string ⟨v.toArray⟩] u (BoolRet w0 L b) :=
 (adf A n ca a v u (fc h) (aH h i hi).2 (aH h i hi).1 ga.2.1 (by have:=(abM ga (aH h i hi).2).2;omega) hv).mono fun _ _=>mO h hb
theorem zA (h:St w0 u L)(i j:Nat){l k:List Sp}(hi:L[i]?=some ⟨A,n,l⟩)(hj:L[j]?=some ⟨B,m,k⟩)(hn:n<=1000)(hm:m<=1000)(ca cb:Nat)(b:Bool)(hb:decide (l=k)=b) :
  Calls Tryz.prog 74 #[.slice A n ca,.slice B m cb] u (BoolRet w0 L b):=by
 obtain⟨h1,rfl⟩:=aH h i hi
 obtain⟨h2,rfl⟩:=aH h j hj
 exact (sJ A ca l B cb k u h1 h2 (by omega) (by omega)).mono fun _ _=>mO h hb
theorem vs (h:St w0 u L)(i j:Nat){l k:List Sp}(hi:L[i]?=some ⟨A,n,l⟩)(hj:L[j]?=some ⟨B,m,k⟩)(hn:n<=1000)(hm:m<=1000)(ca cb:Nat)(b:Bool)(hb:decide (l=k)=b) :
  Calls Tryz.prog 119 #[.slice A n ca,.slice B m cb] u (BoolRet w0 L b):=by
 obtain⟨h1,rfl⟩:=aH h i hi
 obtain⟨h2,rfl⟩:=aH h j hj
 exact (j6 A ca l B cb k u h1 h2 (by omega) (by omega)).mono fun _ _=>mO h hb
theorem aeP (h:St w0 u L)(i:Nat){l:List Sp}(hi:L[i]?=some ⟨A,n,l⟩)(hn:n<=maxLen)(hs:∀ s∈l,s.lo.length<=maxLen/\s.hi.length<=maxLen)(ca:Nat)(b:Bool)(hb:fewL l=b) :
  Calls Tryz.prog 104 #[.slice A n ca] u (BoolRet w0 L b):=by
 obtain⟨h1,rfl⟩:=aH h i hi
 exact (ada A ca l u h1 hn hs).mono fun _ _ hr=>⟨by rw[hr.1,hb],hr.2 ▸ h⟩
def Wide (l:List Sp):Prop:=∀ s∈l,s.lo.length<=maxLen/\s.hi.length<=maxLen
theorem adk {l:List Sp}(h:fewL l=true):l.length<=80:=by
 unfold fewL at h
 split at h
 ·cases h
 ·omega
end
end
namespace At
theorem nV {s m:List UInt8}(h:Lib.index s m = -1):Lib.split s m=[s]:=by
 unfold Lib.split;rw[Lib.count_miss h];rfl
theorem kN {s m:List UInt8}{i:Nat}(hm:m≠[])(h:Lib.index s m=i):Lib.split s m=s.take i :: Lib.split (s.drop (i+m.length)) m:=by
 unfold Lib.split
 rw[Lib.count_hit hm h,Nat.add_comm 1]
 show (if (Lib.index s m == -1)=true then _ else _)=_
 rw[if_neg (by rw[h];simp),h]
 rfl
end At
end Go.Proofs.YtpfkphmldalmmaaGreatDoor

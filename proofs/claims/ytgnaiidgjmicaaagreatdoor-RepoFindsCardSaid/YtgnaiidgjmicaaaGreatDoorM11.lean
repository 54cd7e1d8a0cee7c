/- Part 11 of what the laws lean on. -/
import Derived.Test.YtgnaiidgjmicaaaGreatDoorM10
set_option maxRecDepth 100000
set_option maxHeartbeats 3200000
namespace Go.Proofs.YtgnaiidgjmicaaaGreatDoor
section
open Go.RowKit Rs
attribute [local go_sem ↓] Go.wp_at_zero Go.wp_at_succ
theorem pr {w u u':World}{T:TypeId}(h:Hid (Below (w.heap.size+1) (w.alloc (.cells #[.int .i64 0] T)) u))(hb:Below u.heap.size u u'):Hid (Below (w.heap.size+1) (w.alloc (.cells #[.int .i64 0] T)) u') :=
 h.out.trans (hb.mono (by have:=h.out.size;simpa using this))
end
section
open Go.RowKit Rs
attribute [local go_sem ↓] Go.wp_at_zero Go.wp_at_succ
def prevS (l:List Sp) (k:Nat):Option Sp:=if k=0 then none else l[k-1]?
def CkSt (l:List Sp) (k:Nat):Prop:=checkR l=checkF k (prevS l k) (l.drop k)/\(∀ s,prevS l k=some s->s.err=0)/\k<=64
theorem nP (l:List Sp):CkSt l 0:=⟨rfl,fun s hs=>(by cases hs),by decide⟩
theorem wi (i:Nat)(o:Option Sp)(s:Sp)(t:List Sp):checkF i o (s :: t)=if 64<=i then 4 else if s.err≠0 then s.err else match o with | none=>checkF (i+1) (some s) t | some p=>if behind p s then checkF (i+1) (some s) t else 7:=rfl
theorem tB {p s:Sp}(hp:p.err=0)(hs:s.err=0):afterI p.hi p.hn s.lo s.li=if behind p s then 0 else 7:=by
 obtain⟨e1,o1,_⟩:=cW hp
 obtain⟨e2,o2,_⟩:=cW hs
 have:=qi o1 o2
 rw[e1,e2] at this
 rw[this];rfl
theorem qx {l:List Sp}{k:Nat}(h:CkSt l k)(hk:k<l.length):(64<=k->checkR l=4)/\(¬ 64<=k->l[k].err≠0->checkR l=l[k].err)/\(k=0->l[k].err=0->CkSt l 1) /\
  (¬ 64<=k->∀ p,0<k->l[k-1]?=some p->l[k].err=0->p.err=0/\(behind p l[k]=true->CkSt l (k+1))/\(behind p l[k]=false->checkR l=7)):=by
 obtain⟨h1,h2,h3⟩:=h
 rw[List.drop_eq_getElem_cons hk,wi] at h1
 have aa:prevS l (k+1)=some l[k]:=by unfold prevS;rw[if_neg (by omega),Nat.add_sub_cancel,List.getElem?_eq_getElem hk]
 refine⟨fun h=>?_,fun h he=>?_,fun h he=>?_,fun h p h0 hp he=>⟨?_,fun hb=>?_,fun hb=>?_⟩⟩
 ·rw[if_pos h] at h1;exact h1
 ·rw[if_neg h,if_pos he] at h1;exact h1
 ·subst h
  rw[if_neg (by omega),if_neg (by rw[he];simp)] at h1
  exact⟨by rw[aa];exact h1,fun s hs=>by rw[aa] at hs;cases hs;exact he,by omega⟩
 ·refine h2 p ?_;unfold prevS;rw[if_neg (by omega)];exact hp
 ·have e:prevS l k=some p:=by unfold prevS;rw[if_neg (by omega)];exact hp
  rw[if_neg h,if_neg (by rw[he];simp),e] at h1
  replace h1:checkR l=if behind p l[k]=true then checkF (k+1) (some l[k]) (l.drop (k+1)) else 7:=h1
  rw[if_pos hb] at h1
  exact⟨by rw[aa];exact h1,fun s hs=>by rw[aa] at hs;cases hs;exact he,by omega⟩
 ·have e:prevS l k=some p:=by unfold prevS;rw[if_neg (by omega)];exact hp
  rw[if_neg h,if_neg (by rw[he];simp),e] at h1
  replace h1:checkR l=if behind p l[k]=true then checkF (k+1) (some l[k]) (l.drop (k+1)) else 7:=h1
  rw[if_neg (by rw[hb];simp)] at h1
  exact h1
theorem keepCk {w1 u u':World}{b:Nat}{q:Addr}{x0 x1 x2 x3 y0 y1 y2 y3:Value}(hb1:b<w1.heap.size)(hq1:q.block<w1.heap.size)
  (h:u.cell? ⟨b,0,none⟩=some x0/\u.cell? ⟨b,1,none⟩=some x1/\u.cell? ⟨b,2,none⟩=some x2/\u.cell? ⟨b,3,none⟩=some x3/\u.cell? q=some y0/\u.cell? ⟨q.block,q.off+1,none⟩=some y1/\u.cell? ⟨q.block,q.off+2,none⟩=some y2/\u.cell? ⟨q.block,q.off+3,none⟩=some y3/\w1.heap.size<=u.heap.size/\Below w1.heap.size w1 u) (hb:Below u.heap.size u u') :
  u'.cell? ⟨b,0,none⟩=some x0/\u'.cell? ⟨b,1,none⟩=some x1/\u'.cell? ⟨b,2,none⟩=some x2/\u'.cell? ⟨b,3,none⟩=some x3/\u'.cell? q=some y0/\u'.cell? ⟨q.block,q.off+1,none⟩=some y1/\u'.cell? ⟨q.block,q.off+2,none⟩=some y2/\u'.cell? ⟨q.block,q.off+3,none⟩=some y3/\w1.heap.size<=u'.heap.size/\Below w1.heap.size w1 u':=by
 obtain⟨h0,h1,h2,h3,h4,h5,h6,h7,h8,h9⟩:=h
 have e:∀ a:Addr,a.block<w1.heap.size->u'.cell? a=u.cell? a:=fun a ha=>hb.cell (by omega)
 refine⟨?_,?_,?_,?_,?_,?_,?_,?_,Nat.le_trans h8 hb.size,h9.trans (hb.mono h8)⟩
 ·rw[e _ hb1];exact h0
 ·rw[e _ hb1];exact h1
 ·rw[e _ hb1];exact h2
 ·rw[e _ hb1];exact h3
 ·rw[e _ hq1];exact h4
 ·rw[e ⟨q.block,q.off+1,none⟩ hq1];exact h5
 ·rw[e ⟨q.block,q.off+2,none⟩ hq1];exact h6
 ·rw[e ⟨q.block,q.off+3,none⟩ hq1];exact h7
theorem zb (A:Option Addr)(n c:Nat)(l:List Sp)(w:World)(hw:MaxOk w)(hn:l.length=n)(hr:SRow w A l)(hl:n<=1000) :
  Calls Tryz.prog 278 #[.slice A n c] w fun e w'=>e=.returned (.int .i64 (checkR l))/\Below w.heap.size w w':=by
 have aQ:∀ (fn:Fn) (first cap:Array Value) (w:World),(Instr.makeFunc fn first cap).run Tryz.prog w=.ok (.func fn first cap) w:=fun _ _ _ _=>rfl
 have HM:Hid (MaxOk (w.alloc (.cells #[.int .i64 0] 77))):=ag hw ((Below.refl _ _).alloc (Nat.le_refl _) _)
 have HR:Hid (SRow (w.alloc (.cells #[.int .i64 0] 77)) A l):=ao hr ((Below.refl _ _).alloc (Nat.le_refl _) _)
 have HN:=zh hn
 obtain⟨E,hE⟩:=ex (checkR l)
 rw[hE]
 have HE:=zh hE
 clear hw hn hr hE
 go_enter_defers Tryz.func278,Tryz.ntmps278
 go_wp2_with fail
 go_loopw [8] (fun i wr=>∃ k:Nat,k<=n/\i=.int .i64 k/\Hid (CkSt l k)/\Hid (Below (w.heap.size+1) (w.alloc (.cells #[.int .i64 0] 77)) wr)) (fun i _=>n-(intOf i).toNat)
 case atStart=>exact⟨0,Nat.zero_le _,rfl,nP l,Below.refl _ _⟩
 case round =>
  obtain⟨k,hk,rfl,HS,HB⟩:=hrel
  by_cases aL:k<n
  ·have az:k<l.length:=by rw[HN.out];exact aL
   obtain⟨ad,lo,hi,li,hh,rfl,hs,aP,c0,c1,c2,c3⟩:=bM (ao HR.out (by simpa using HB.out)) k az
   obtain⟨st1,st2,ax,ay⟩:=qx HS.out az
   rw[hs] at st2 ax ay
   have an:=zh st1
   have ap:=zh st2
   have aq:=zh ax
   have ar:=zh ay
   have aA:=zh (ck wr lo hi li hh 145)
   have aB:Hid (MaxOk (wr.alloc (.cells #[.string ⟨lo.toArray⟩,.string ⟨hi.toArray⟩,.bool li,.bool hh] 145))):=ag HM.out ((by simpa using HB.out:Below _ _ wr).alloc (by have:=HB.out.size;simpa using this) _)
   clear hs st1 st2 ax ay
   go_wp2_with fail
   refine (nN k lo hi li hh _ (by omega) aB.out).mono ?_
   rintro _ w1 ⟨rfl,hb⟩
   have au:=zh (dx aA.out hb)
   have av:Below wr.heap.size wr w1:=((Below.refl _ _).alloc (Nat.le_refl _) _).trans (hb.mono (by simp))
   have aM:=zh av
   have ae:=pr HB av
   clear hb av c0 c1 c2 c3 aA aB
   by_cases af:64<=k
   ·rw[if_pos af,a7 (by decide)]
    have ak:Hid (E=4):=by show _=_;rw[<-HE.out];exact an.out af
    obtain⟨aa,ac⟩:=bj w w1 _ _ ae.out
    clear af
    go_wp2_with fail
    refine leaves_cons (f:=299) (args:=#[.pointer (some ⟨w.heap.size,0,none⟩)]) (by simp) (by simp[go_sem]) ?_
    refine (gI ⟨w.heap.size,0,none⟩ 0 _ _ ?_ ?_).mono ?_
    ·simp[go_sem,aa]
    ·simp[go_sem,ac]
    rintro e u' w9 ⟨rfl,rfl,rfl⟩
    simp[Leaves,settle,results,Tryz.results278,go_sem,aa]
    exact⟨ak.out.symm,(bl ae.out).setCell (Nat.le_refl _) _⟩
   rw[if_neg af]
   by_cases ah:span lo hi li hh=0
   ·rw[ah,a8]
    have al:(Sp.mk lo hi li hh).err=0:=ah
    by_cases aC:k=0
    ·have NS:Hid (CkSt l 1):=aq.out aC al
     subst aC
     clear ah al af an ap aq ar
     go_wp2_with fail
     go_roundw
     case rel=>exact⟨1,by omega,rfl,NS,ae⟩
     case measure=>simp[intOf];omega
    ·have aD:k-1<l.length:=by omega
     have aE:l[k-1]?=some l[k-1]:=List.getElem?_eq_getElem aD
     obtain⟨pe,sy,sn⟩:=ar.out af _ (by omega) aE al
     obtain⟨aR,ai,phi,aj,ph,aH,aI,_,d0,d1,d2,d3⟩:=bM (ao HR.out (by simpa using ae.out)) (k-1) aD
     obtain rfl:=Option.some.inj aH
     rw[aI] at pe sy sn
     have aF:=tB pe al
     have ab:afterI phi ph lo li=if behind ⟨ai,phi,aj,ph⟩ ⟨lo,hi,li,hh⟩ then 0 else 7:=aF
     have B1:=zh (dh ah).1
     have B2:=zh (dh (lo:=ai) (hi:=phi) (li:=aj) (hn:=ph) pe).2.1
     obtain⟨bh,aJ⟩:=ex (behind (Sp.mk ai phi aj ph) ⟨lo,hi,li,hh⟩)
     rw[aJ] at sy sn ab
     have SY:=zh sy
     have SN:=zh sn
     obtain⟨k0,k1,k2,k3,k4⟩:=au.out
     have g1:(0:Int)<=(k:Int)-1:=by omega
     have g6:(1:Int)<=(k:Int):=by omega
     have g7:((k-1:Nat):Int)=(k:Int)-1:=by omega
     clear g7
     have g2:(k:Int)-1<(n:Int):=by omega
     have g3:((k:Int)-1).toNat=k-1:=by omega
     have g4:(0:Int)<(k:Int):=by omega
     have g5:IntKind.i64.wrap ((k:Int)-1)=(k:Int)-1:=IntWalk.i64_in _ (by omega)
     clear ah al af an ap aq ar pe sy sn aI aE aJ aH aF
     have aN:(ad.add ((k-1)*4)).block<w1.heap.size:=by rw[add_block];exact Nat.lt_of_lt_of_le aP aM.out.size
     have aG:Hid (MaxOk w1):=ag HM.out (by simpa using ae.out)
     cases bh
     ·rw[if_neg Bool.false_ne_true] at ab
      have aw:=zh ab
      have ak:Hid (E=7):=by show _=_;rw[<-HE.out];exact SN.out rfl
      clear ab
      go_wp2_with fail
      first
      | go_region_with (first
        | (go_at_call 301;refine (gH lo hi li hh ai phi aj ph _ (ag aG.out (Below.refl _ _).drew) B1.out B2.out).mono ?_;rintro _ w4 ⟨rfl,hb⟩;rw[aw.out,a7 (by decide)];have am:=pr ae (drewb hb);clear hb;refine eg (P:=Tryz.prog) (a:={ tmps:=#[],defers:=[] }) (w:=w) ?_))
      | fail
      all_goals
       obtain⟨aa,ac⟩:=bj w w4 _ _ am.out
       refine leaves_cons (f:=299) (args:=#[.pointer (some ⟨w.heap.size,0,none⟩)]) (by simp) (by simp[go_sem]) ?_
       refine (gI ⟨w.heap.size,0,none⟩ 0 _ _ ?_ ?_).mono ?_
       ·simp[go_sem,aa]
       ·simp[go_sem,ac]
       rintro e u' w9 ⟨rfl,rfl,rfl⟩
       simp[Leaves,settle,results,Tryz.results278,go_sem,aa]
       exact⟨ak.out.symm,(bl am.out).setCell (Nat.le_refl _) _⟩
     ·rw[if_pos rfl] at ab
      have aw:=zh ab
      have NS:Hid (CkSt l (k+1)):=SY.out rfl
      clear ab
      go_wp2_with fail
      go_region_held3 (fun w'=>w'.cell? ⟨wr.heap.size,0,none⟩=some (.string ⟨lo.toArray⟩)/\w'.cell? ⟨wr.heap.size,1,none⟩=some (.string ⟨hi.toArray⟩)/\w'.cell? ⟨wr.heap.size,2,none⟩=some (.bool li)/\w'.cell? ⟨wr.heap.size,3,none⟩=some (.bool hh) /\
        w'.cell? (ad.add ((k-1)*4))=some (.string ⟨ai.toArray⟩)/\w'.cell? ⟨(ad.add ((k-1)*4)).block,(ad.add ((k-1)*4)).off+1,none⟩=some (.string ⟨phi.toArray⟩)/\w'.cell? ⟨(ad.add ((k-1)*4)).block,(ad.add ((k-1)*4)).off+2,none⟩=some (.bool aj)/\w'.cell? ⟨(ad.add ((k-1)*4)).block,(ad.add ((k-1)*4)).off+3,none⟩=some (.bool ph)/\w1.heap.size<=w'.heap.size/\Below w1.heap.size w1 w')
       (first
        | exact⟨k0,k1,k2,k3,d0,d1,d2,d3,Nat.le_refl _,(Below.refl _ _).drew⟩
        | assumption
        | (refine keepCk k4 aN ?_ hb;assumption))
       (first
        | (go_at_call 301;refine (gH lo hi li hh ai phi aj ph _ ?_ B1.out B2.out).mono ?_;(go_split_ands;exact ag aG.out (by assumption));rintro _ w4 ⟨rfl,hb⟩;rw[aw.out,a8]))
      rename_i aK
      have am:=pr ae aK.2.2.2.2.2.2.2.2.2
      clear aK k0 k1 k2 k3 d0 d1 d2 d3 g3 g5
      go_wp2_with fail
      go_roundw
      case rel=>exact⟨k+1,by omega,by go_num,NS,am⟩
      case measure=>simp[intOf];omega
   ·have ak:Hid (E=span lo hi li hh):=by show _=_;rw[<-HE.out];exact ap.out af ah
    rw[a7 ah]
    obtain⟨aa,ac⟩:=bj w w1 _ _ ae.out
    clear af ah
    go_wp2_with fail
    refine leaves_cons (f:=299) (args:=#[.pointer (some ⟨w.heap.size,0,none⟩)]) (by simp) (by simp[go_sem]) ?_
    refine (gI ⟨w.heap.size,0,none⟩ 0 _ _ ?_ ?_).mono ?_
    ·simp[go_sem,aa]
    ·simp[go_sem,ac]
    rintro e u' w9 ⟨rfl,rfl,rfl⟩
    simp[Leaves,settle,results,Tryz.results278,go_sem,aa]
    exact⟨ak.out.symm,(bl ae.out).setCell (Nat.le_refl _) _⟩
  ·have aO:Hid (E=0):=by
    show _=_
    rw[<-HE.out,HS.out.1,List.drop_eq_nil_of_le (by rw[HN.out];omega)];rfl
   obtain⟨aa,ac⟩:=bj w wr _ _ HB.out
   go_wp2_with fail
   refine leaves_cons (f:=299) (args:=#[.pointer (some ⟨w.heap.size,0,none⟩)]) (by simp) (by simp[go_sem]) ?_
   refine (wh ⟨w.heap.size,0,none⟩ 0 _ ?_ ?_).mono ?_
   ·simp[go_sem,aa]
   ·simp[go_sem,ac]
   rintro e u' w4 ⟨rfl,rfl,rfl⟩
   simp[Leaves,settle,results,Tryz.results278,go_sem,aa]
   exact⟨aO.out.symm,((bl HB.out).setCell (Nat.le_refl _) _).setCell (Nat.le_refl _) _⟩
end
section
open Go.RowKit Rs
attribute [local go_sem ↓] Go.wp_at_zero Go.wp_at_succ
theorem lI {w u:World}{p:Addr}{lo hi:List UInt8}{li hn:Bool}(hp:p.block<w.heap.size)(h:At4 w p lo hi li hn)(hb:Below w.heap.size w u):At4 u p lo hi li hn:=by
 obtain⟨h0,h1,h2,h3⟩:=h
 refine⟨?_,?_,?_,?_⟩
 ·rw[hb.cell hp];exact h0
 ·rw[hb.cell (by simpa using hp)];exact h1
 ·rw[hb.cell (by simpa using hp)];exact h2
 ·rw[hb.cell (by simpa using hp)];exact h3
theorem ej {α:Type}{enc:α->List Value}{K:Nat}{T:TypeId}{v:Value}{l:List α}{w wr W5:World}{o:Obj}(hB:Hid (Below w.heap.size w wr/\w.heap.size<=wr.heap.size))(hO:Hid (Rg.Own enc K wr w.heap.size T v l))(hg:(wr.drew.alloc o).grownBy W5 v.ownBlock) :
  Hid (Below w.heap.size w W5/\w.heap.size<=W5.heap.size):=by
 have hs:w.heap.size<=wr.drew.heap.size:=hB.out.2
 have h1:Below w.heap.size w (wr.drew.alloc o):=(hB.out.1.drew).alloc hs _
 have h2:w.heap.size<=(wr.drew.alloc o).heap.size:=by
  have e:(wr.drew.alloc o).heap.size=wr.drew.heap.size+1:=by simp
  omega
 exact⟨h1.trans (Rg.aA (Rg.own_below hO.out ((Below.refl _ _).drew.alloc (Nat.le_refl _) _)) h2 hg),Nat.le_trans h2 hg.size⟩
theorem gm {w wr:World}{o:Obj}(hB:Hid (Below w.heap.size w wr/\w.heap.size<=wr.heap.size)):w.heap.size<=(wr.drew.alloc o).heap.size:=by
 have hs:w.heap.size<=wr.drew.heap.size:=hB.out.2
 have e:(wr.drew.alloc o).heap.size=wr.drew.heap.size+1:=by simp
 omega
theorem aet (A:Option Addr)(c:Nat)(l:List Sp)(w:World)(hr:SRow w A l)(hl:l.length<=1000) :
  Calls Tryz.prog 55 #[.slice A l.length c] w (SpansRet w l):=by
 have HR:=zh hr
 clear hr
 go_enter Tryz.func55,Tryz.ntmps55
 go_wp2_with fail
 go_loopw [3,4] (fun v i wr=>∃ k:Nat,k<=l.length/\i=.int .i64 k/\Hid (POwn wr w.heap.size v (l.take k))/\Hid (Below w.heap.size w wr/\w.heap.size<=wr.heap.size)) (fun _ i _=>l.length-(intOf i).toNat)
 case atStart=>exact⟨0,Nat.zero_le _,rfl,Rg.aB _ _ _,Below.refl _ _,Nat.le_refl _⟩
 case round =>
  obtain⟨k,hk,rfl,HO,HB⟩:=hrel
  by_cases ac:k<l.length
  ·obtain⟨ad,lo,hi,li,hn,rfl,hs,af,h4⟩:=bM HR.out k ac
   have ai:(l.take k).length+1<=1000000:=by rw[List.length_take];omega
   have HT:Hid (l.take (k+1)=l.take k++[⟨lo,hi,li,hn⟩]):=by show _=_;rw[List.take_succ_eq_append_getElem ac,hs]
   have aa:Hid ((ad.add (k*4)).block<w.heap.size):=by show _<_;rw[add_block];exact af
   have H4:=zh h4
   have HD:Hid (Below w.heap.size w wr.drew):=HB.out.1.drew
   have HS:Hid (w.heap.size<=wr.drew.heap.size):=HB.out.2
   obtain⟨c0,c1,c2,c3⟩:=lI aa.out h4 HB.out.1
   have k0:(0:Int)<=(k:Int):=by omega
   have k1:(k:Int)<(l.length:Int):=by omega
   clear hs h4 af
   go_wp2_with fail
   go_region_held3 (fun w'=>w'.cell? (ad.add (k*4))=some (.string ⟨lo.toArray⟩)/\w'.cell? ⟨(ad.add (k*4)).block,(ad.add (k*4)).off+1,none⟩=some (.string ⟨hi.toArray⟩)/\w'.cell? ⟨(ad.add (k*4)).block,(ad.add (k*4)).off+2,none⟩=some (.bool li)/\w'.cell? ⟨(ad.add (k*4)).block,(ad.add (k*4)).off+3,none⟩=some (.bool hn))
    (first
     | exact lI aa.out H4.out HD.out
     | exact lI aa.out H4.out (HD.out.alloc HS.out _)
     | exact lI aa.out H4.out ae.out.1)
    ((refine Rg.cH sliceS (by rfl) (.tmp 11) (.tmp 33) (by rfl) w.heap.size u3 (l.take k) [⟨lo,hi,li,hn⟩] (by rfl) (Rg.own_below HO.out ((Below.refl _ _).drew.alloc (Nat.le_refl _) _)) _ _ (by rfl) (newsS _ ⟨lo,hi,li,hn⟩ _) (Nat.zero_lt_succ _) ai (gm HB) ?_;intro v5 W5 ag ah aj;have ae:=ej HB HO ah))
   have ab:Hid (POwn W5 w.heap.size v5 (l.take (k+1))):=by show POwn _ _ _ _;rw[HT.out];exact ag
   clear ag ah aj c0 c1 c2 c3 HD HS
   go_wp2_with fail
   go_roundw
   case rel=>exact⟨k+1,by omega,by go_num,ab,ae⟩
   case measure=>simp[intOf];omega
  ·obtain rfl:k=l.length:=by omega
   have ab:POwn wr w.heap.size u3 l:=by have:=HO.out;rwa [List.take_length] at this
   clear HO
   obtain⟨C,d,rfl,h1,h2,h3⟩:=xv ab
   have H1:=zh h1
   have H2:=zh h2
   have H3:=zh h3
   clear h1 h2 h3 ab
   go_wp2_with fail
   go_ret
   exact⟨⟨C,d,rfl,H1.out,H2.out,H3.out⟩,HB.out.1⟩
end
section
open Go.RowKit Rs
structure Ent where
 A:Option Addr
 n:Nat
 l:List Sp
def St (w0 u:World) (L:List Ent):Prop:=MaxOk w0/\Below w0.heap.size w0 u/\∀ x∈L,SRow u x.A x.l/\x.l.length=x.n
section
variable {w0 u u':World} {L:List Ent}
theorem fq (h:St w0 u L):MaxOk u:=ag h.1 h.2.1
theorem dj (h:St w0 u L)(hb:Below u.heap.size u u'):St w0 u' L:=⟨h.1,h.2.1.trans (hb.mono h.2.1.size),fun x hx=>⟨ao (h.2.2 x hx).1 hb,(h.2.2 x hx).2⟩⟩
theorem nQ {C:Option Addr}{n:Nat}{l:List Sp}(h:St w0 u L)(hb:Below u.heap.size u u')(hr:SRow u' C l)(hn:l.length=n):St w0 u' (⟨C,n,l⟩ :: L):=by
 obtain⟨h1,h2,h3⟩:=dj h hb
 refine⟨h1,h2,fun x hx=>?_⟩
 rcases List.mem_cons.1 hx with rfl | hx
 ·exact⟨hr,hn⟩
 ·exact h3 x hx
theorem aI {A:Option Addr}{n:Nat}{l:List Sp}(h:St w0 u L)(i:Nat)(hi:L[i]?=some ⟨A,n,l⟩):SRow u A l/\l.length=n:=h.2.2 _ (List.mem_of_getElem? hi)
theorem tC (h:St w0 u L)(o:Obj):St w0 (u.alloc o) L:=dj h ((Below.refl _ _).alloc (Nat.le_refl _) _)
def RowRet (w0:World) (L:List Ent) (l:List Sp) (e:Ending) (u':World):Prop:=∃ C n d,e=.returned (.slice C n d)/\St w0 u' (⟨C,n,l⟩ :: L)
def RowErr (w0:World) (L:List Ent) (l:List Sp) (k:Int) (e:Ending) (u':World):Prop:=∃ C n d,e=.returned (.tuple #[.slice C n d,.int .i64 k])/\St w0 u' (⟨C,n,l⟩ :: L)
def BoolRet (w0:World) (L:List Ent) (b:Bool) (e:Ending) (u':World):Prop:=e=.returned (.bool b)/\St w0 u' L
theorem lJ (h:St w0 u L){l:List Sp}{e:Ending}(hr:SpansRet u l e u'):RowRet w0 L l e u':=by
 obtain⟨⟨C,d,rfl,h1,_,_⟩,hb⟩:=hr
 exact⟨C,_,d,rfl,nQ h hb h1 rfl⟩
theorem aeu (h:St w0 u L){l:List Sp}{k:Int}{e:Ending}(hr:OfRet u l k e u'):RowErr w0 L l k e u':=by
 obtain⟨⟨C,d,rfl,h1,_⟩,hb⟩:=hr
 exact⟨C,_,d,rfl,nQ h hb h1 rfl⟩
theorem jK (h:St w0 u L){b c:Bool}(hbc:b=c){e:Ending}(hr:e=.returned (.bool b)/\Below u.heap.size u u'):BoolRet w0 L c e u':=⟨by rw[hr.1,hbc],dj h hr.2⟩
theorem mM {a:List (Rm.P Cut)}{n:Nat}(ga:Rs.Good a)(h:(a.map spOf).length=n):a.length=n/\n<=64:=by
 rw[List.length_map] at h;exact⟨h,h ▸ ga.2.2⟩
def sgnOf (s:List UInt8):Option Nat:=if s=sgnT 0 then some 0 else if s=sgnT 1 then some 1 else if s=sgnT 2 then some 2 else if s=sgnT 3 then some 3 else if s=sgnT 4 then some 4 else if s=sgnT 5 then some 5 else none
def ofE (s v:List UInt8):Int:=match sgnOf s with | none=>2 | some _=>Vm.check v
def ofR (s v:List UInt8):List (Rm.P Cut):=match sgnOf s with | none=>[] | some i=>if Vm.check v=0 then signR (Vm.canon v) i else []
theorem nR {s:List UInt8}{i:Nat}(h:sgnOf s=some i):i<6/\s=sgnT i:=by
 unfold sgnOf at h
 split at h
 ·cases h;exact⟨by decide,by assumption⟩
 split at h
 ·cases h;exact⟨by decide,by assumption⟩
 split at h
 ·cases h;exact⟨by decide,by assumption⟩
 split at h
 ·cases h;exact⟨by decide,by assumption⟩
 split at h
 ·cases h;exact⟨by decide,by assumption⟩
 split at h
 ·cases h;exact⟨by decide,by assumption⟩
 cases h
theorem zc {s:List UInt8}(h:sgnOf s=none):NoSign s:=fun i hi e=>by
 subst e
 match i,hi with
 | 0,_=>cases h
 | 1,_=>cases h
 | 2,_=>cases h
 | 3,_=>cases h
 | 4,_=>cases h
 | 5,_=>cases h
theorem tD (s v:List UInt8):Rs.Good (ofR s v):=by
 unfold ofR
 split
 ·exact⟨trivial,fun p hp=>(by cases hp),by decide⟩
 ·rename_i i hs
  split
  ·exact qk (qh (by assumption)) i (nR hs).1
  ·exact⟨trivial,fun p hp=>(by cases hp),by decide⟩
theorem tE (s v:List UInt8)(w:World)(hw:MaxOk w):Calls Tryz.prog 325 #[.string ⟨s.toArray⟩,.string ⟨v.toArray⟩] w (OfRet w ((ofR s v).map spOf) (ofE s v)):=by
 unfold ofR ofE
 cases hs:sgnOf s with
 | none=>exact aaC s v w hw (zc hs)
 | some i =>
  obtain⟨hi,rfl⟩:=nR hs
  by_cases hv:Vm.check v=0
  ·simp only[hv,if_true];exact aes i hi v w hw hv
  ·simp only[hv,if_false];exact acJ i hi v w hw hv
theorem s_of (h:St w0 u L)(s v:List UInt8)(R:List (Rm.P Cut))(k:Int)(hR:ofR s v=R)(hk:ofE s v=k):Calls Tryz.prog 325 #[.string ⟨s.toArray⟩,.string ⟨v.toArray⟩] u (RowErr w0 L (R.map spOf) k):=by
 subst hR hk
 exact (tE s v u (fq h)).mono fun _ _=>aeu h
variable {A B:Option Addr} {n m:Nat}
theorem af1 (h:St w0 u L)(i j:Nat){a b:List (Rm.P Cut)}(hi:L[i]?=some ⟨A,n,a.map spOf⟩)(hj:L[j]?=some ⟨B,m,b.map spOf⟩)(ga:Rs.Good a)(gb:Rs.Good b)(ca cb:Nat)(R:List (Rm.P Cut))(hR:andR a b=R) :
  Calls Tryz.prog 326 #[.slice A n ca,.slice B m cb] u (RowRet w0 L (R.map spOf)):=by
 subst hR
 exact (aep A B n m ca cb a b u (fq h) (aI h i hi).2 (aI h j hj).2 (aI h i hi).1 (aI h j hj).1 ga gb).mono fun _ _=>lJ h
theorem s_or (h:St w0 u L)(i j:Nat){a b:List (Rm.P Cut)}(hi:L[i]?=some ⟨A,n,a.map spOf⟩)(hj:L[j]?=some ⟨B,m,b.map spOf⟩)(ga:Rs.Good a)(gb:Rs.Good b)(ca cb:Nat)(R:List (Rm.P Cut))(hR:orR a b=R) :
  Calls Tryz.prog 311 #[.slice A n ca,.slice B m cb] u (RowRet w0 L (R.map spOf)):=by
 subst hR
 exact (afy A B n m ca cb a b u (fq h) (aI h i hi).2 (aI h j hj).2 (aI h i hi).1 (aI h j hj).1 ga gb).mono fun _ _=>lJ h
theorem zd (h:St w0 u L)(R:List (Rm.P Cut))(hR:allR=R):Calls Tryz.prog 136 #[] u (RowRet w0 L (R.map spOf)):=by
 subst hR
 exact (xw u).mono fun _ _=>lJ h
theorem af2 (h:St w0 u L)(i:Nat){a:List (Rm.P Cut)}(hi:L[i]?=some ⟨A,n,a.map spOf⟩)(ga:Rs.Good a)(ca:Nat)(v:List UInt8)(hv:Vm.check v=0)(b:Bool)(hb:hasR a v=b) :
  Calls Tryz.prog 91 #[.slice A n ca,.string ⟨v.toArray⟩] u (BoolRet w0 L b) :=
 (aeq A n ca a v u (fq h) (aI h i hi).2 (aI h i hi).1 ga.2.1 (by have:=(mM ga (aI h i hi).2).2;omega) hv).mono fun _ _=>jK h hb
theorem aaD (h:St w0 u L)(i j:Nat){l k:List Sp}(hi:L[i]?=some ⟨A,n,l⟩)(hj:L[j]?=some ⟨B,m,k⟩)(hn:n<=1000)(hm:m<=1000)(ca cb:Nat)(b:Bool)(hb:decide (l=k)=b) :
  Calls Tryz.prog 135 #[.slice A n ca,.slice B m cb] u (BoolRet w0 L b):=by
 obtain⟨h1,rfl⟩:=aI h i hi
 obtain⟨h2,rfl⟩:=aI h j hj
 exact (tn A ca l B cb k u h1 h2 (by omega) (by omega)).mono fun _ _=>jK h hb
theorem af3 (h:St w0 u L)(i:Nat){l:List Sp}(hi:L[i]?=some ⟨A,n,l⟩)(hn:n<=maxLen)(hs:∀ s∈l,s.lo.length<=maxLen/\s.hi.length<=maxLen)(ca:Nat)(b:Bool)(hb:fewL l=b) :
  Calls Tryz.prog 39 #[.slice A n ca] u (BoolRet w0 L b):=by
 obtain⟨h1,rfl⟩:=aI h i hi
 exact (aeo A ca l u h1 hn hs).mono fun _ _ hr=>⟨by rw[hr.1,hb],hr.2 ▸ h⟩
def Wide (l:List Sp):Prop:=∀ s∈l,s.lo.length<=maxLen/\s.hi.length<=maxLen
theorem xy {l:List Sp}(h:fewL l=true):l.length<=80:=by
 unfold fewL at h
 split at h
 ·cases h
 ·omega
end
end
namespace At
theorem aaE {s m:List UInt8}{i:Nat}(hm:m≠[])(h:Lib.index s m=i):Lib.split s m=s.take i :: Lib.split (s.drop (i+m.length)) m:=by
 unfold Lib.split
 rw[Lib.count_hit hm h,Nat.add_comm 1]
 show (if (Lib.index s m == -1)=true then _ else _)=_
 rw[if_neg (by rw[h];simp),h]
 rfl
end At
namespace At
open Rs Rm
def low (c:UInt8):Bool:=decide (97<=c.toNat)&&decide (c.toNat<=122)
def nameC (c:UInt8):Bool:=low c||(Vm.dig c||c==45)
def nameB (s:List UInt8):Bool := !s.isEmpty&&(decide (s.length<=24)&&(low (s.getD 0 0)&&s.all nameC))
abbrev Cond:=List UInt8 × List UInt8
def conds (s:Sp):List Cond :=
 if s.lo=s.hi/\s.lo≠[] then [([61],s.lo)]
 else (if s.lo=[] then [] else [(if s.li then [62,61] else [62],s.lo)])++(if s.hi=[] then [] else [(if s.hn then [60,61] else [60],s.hi)])
def termOf (r:List Sp):List (List Cond):=r.map conds
def vers (t:List (List Cond)):Nat:=(t.map List.length).sum
def condT (c:Cond):List UInt8:=c.1++32 :: c.2
def altT (l:List Cond):List UInt8:=Lib.join (l.map condT) [32,38,32]
def noneT:List UInt8:=[110,111,110,101]
def termT (t:List (List Cond)):List UInt8:=if t=[] then noneT else Lib.join (t.map altT) [32,124,32]
def allS:List Sp:=[⟨[],[],false,false⟩]
structure Atm where
 name:List UInt8
 rng:List Sp
 deriving DecidableEq
def checkA (a:Atm):Int:=if nameB a.name then (if checkR a.rng=0 then (if 16<vers (termOf a.rng) then 4 else 0) else checkR a.rng) else 3
def textA (a:Atm):List UInt8:=if a.rng=allS then a.name else a.name++32 :: 40 :: (termT (termOf a.rng)++[41])
def wordC (c:UInt8):Bool := !(c==32||(c==40||c==41))
def wordB (s:List UInt8):Bool := !s.isEmpty&&s.all wordC
def signB (s:List UInt8):Bool:=(sgnOf s).isSome
def condP (s:List UInt8):Option Cond:=if signB (Vm.fst 32 s)&&(Vm.has 32 s&&wordB (Vm.snd 32 s)) then some (Vm.fst 32 s,Vm.snd 32 s) else none
def altP (s:List UInt8):Option (List Cond):=(Lib.split s [32,38,32]).mapM condP
def termP (s:List UInt8):Option (List (List Cond)):=if s=noneT then some [] else (Lib.split s [32,124,32]).mapM altP
def bodyP (s:List UInt8):Option (List UInt8):=if 2<=s.length/\s.getD 0 0=40/\s.getD (s.length-1) 0=41 then some ((s.drop 1).take (s.length-2)) else none
def hAlt:List (P Cut)->List Cond->Int × List (P Cut)
 | r,[]=>(0,r)
 | r,c :: l=>if ofE c.1 c.2=0 then hAlt (andR r (ofR c.1 c.2)) l else (ofE c.1 c.2,[])
def hTerm:List (P Cut)->List (List Cond)->Int × List (P Cut)
 | r,[]=>(0,r)
 | r,a :: t=>if (hAlt allR a).1=0 then hTerm (orR r (hAlt allR a).2) t else ((hAlt allR a).1,[])
def zeroA:Atm:=⟨[],[]⟩
def readA (name:List UInt8) (t:List (List Cond)):Int × Atm :=
 if nameB name then (if vers t<=16 then (if (hTerm [] t).1=0 then (if checkA ⟨name,(hTerm [] t).2.map spOf⟩=0 then (0,⟨name,(hTerm [] t).2.map spOf⟩) else (checkA ⟨name,(hTerm [] t).2.map spOf⟩,zeroA)) else ((hTerm [] t).1,zeroA)) else (4,zeroA)) else (3,zeroA)
def parseA (s:List UInt8):Int × Atm :=
 if wordB (Vm.fst 32 s) then
  (
   if Vm.has 32 s then
    (
     match (bodyP (Vm.snd 32 s)).bind termP with
     | none=>(2,zeroA)
     | some t=>readA (Vm.fst 32 s) t)
   else readA s [[]])
 else (2,zeroA)
theorem tF {c:UInt8}{p:List UInt8}(h:c ∉ p):Vm.fst c p=p/\Vm.has c p=false:=by
 constructor
 ·unfold Vm.fst
  have hp:∀ x∈p,(x != c)=true:=fun x hx=>by simp;exact fun e=>h (e ▸ hx)
  have:=List.takeWhile_append_of_pos (l₂:=[]) hp
  simpa using this
 ·unfold Vm.has;simpa using h
end At
namespace At
open Rs Rm
def CondOk (c:Cond):Prop:=∃ i,i<6/\c.1=sgnT i/\Rs.Own c.2
theorem ze {s:Sp}(h:s.err=0):(s.lo≠[]->Rs.Own s.lo)/\(s.hi≠[]->Rs.Own s.hi)/\(s.lo=[]->s.li=false)/\(s.hi=[]->s.hn=false):=by
 obtain⟨h1,h2,h3,h4⟩:=dh h
 have ne:∀ v:List UInt8,v≠[]->v.isEmpty=false:=fun v hv=>by cases v with
  | nil=>exact absurd rfl hv
  | cons _ _=>rfl
 exact⟨fun e=>aV h1 (ne _ e),fun e=>aV h2 (ne _ e),fun e=>h3 (by rw[e];rfl),fun e=>h4 (by rw[e];rfl)⟩
theorem tG {s:Sp}(h:s.err=0):∀ c∈conds s,CondOk c:=by
 obtain⟨b1,b2,_,_⟩:=ze h
 intro c hc
 unfold conds at hc
 split at hc
 ·rename_i h1
  rw[List.mem_singleton.1 hc]
  exact⟨0,by decide,rfl,b1 h1.2⟩
 ·rcases List.mem_append.1 hc with hc | hc
  ·split at hc
   ·cases hc
   ·rename_i h1
    rw[List.mem_singleton.1 hc]
    cases s.li
    ·exact⟨4,by decide,rfl,b1 h1⟩
    ·exact⟨5,by decide,rfl,b1 h1⟩
  ·split at hc
   ·cases hc
   ·rename_i h1
    rw[List.mem_singleton.1 hc]
    cases s.hn
    ·exact⟨2,by decide,rfl,b2 h1⟩
    ·exact⟨3,by decide,rfl,b2 h1⟩
theorem mh {l:List Sp}(h:checkR l=0):Rs.Good (l.map Sp.piece)/\(l.map Sp.piece).map spOf=l/\∀ s∈l,s.err=0:=by
 obtain⟨h1,h2⟩:=cX h
 refine⟨h1,h2,fun s hs=>?_⟩
 rw[<-h2] at hs
 obtain⟨p,hp,rfl⟩:=List.mem_map.1 hs
 rw[acb (h1.2.1 p hp),if_pos (fS Ln h1.1 p hp)]
end At
section
open Go.RowKit Rs
theorem nS (c:UInt8)(w:World) :
  Calls Tryz.prog 213 #[.int .u8 c.toNat] w fun e w'=>e=.returned (.bool (At.low c))/\w=w':=by
 unfold At.low
 by_cases h1:97<=c.toNat <;> by_cases h2:c.toNat<=122
 all_goals
  go_enter Tryz.func213,Tryz.ntmps213
  go_wp2
 all_goals
  go_ret
  exact⟨by first | (simp[h1,h2];done) | (simp[h1,h2];omega),rfl⟩
theorem zf (c:UInt8)(w:World) :
  Calls Tryz.prog 214 #[.int .u8 c.toNat] w fun e w'=>e=.returned (.bool (Vm.dig c))/\w=w':=by
 unfold Vm.dig
 by_cases h1:48<=c.toNat <;> by_cases h2:c.toNat<=57
 all_goals
  go_enter Tryz.func214,Tryz.ntmps214
  go_wp2
 all_goals
  go_ret
  exact⟨by first | (simp[h1,h2];done) | (simp[h1,h2];omega),rfl⟩
theorem zg (s:List UInt8)(b:Bool)(w:World)(hs:s.length<=10) :
  Calls Tryz.prog 255 #[.string ⟨s.toArray⟩,.bool b] w fun e w'=>e=.returned (.string ⟨(if b then s++[61] else s).toArray⟩)/\w=w':=by
 cases b
 all_goals
  go_enter Tryz.func255,Tryz.ntmps255
  go_wp2
  go_ret
  exact⟨by first | rfl | (simp;done) | (simp only[if_true];exact congrArg (fun x=>Ending.returned (Value.string x)) (ByteArray.mk_append_mk s [61])),rfl⟩
namespace At
theorem kK {l:List UInt8}(h:24<l.length):nameB l=false:=by
 unfold nameB
 rw[decide_eq_false (show ¬ l.length<=24 by omega)];simp
theorem qy {c:UInt8}{l:List UInt8}(h:(c :: l).length<=24):nameB (c :: l)=(low c&&(c :: l).all nameC):=by
 unfold nameB
 rw[decide_eq_true h];rfl
theorem dZ {l:List UInt8}{k:Nat}{c:UInt8}{f:UInt8->Bool}(hk:k<l.length)(hc:l[k]=c):(l.take (k+1)).all f=((l.take k).all f&&f c):=by
 rw[List.take_succ_eq_append_getElem hk,hc];simp
theorem ja {l:List UInt8}{k:Nat}{c:UInt8}{f:UInt8->Bool}(hk:k<l.length)(hc:l[k]=c)(hf:f c=false):l.all f=false:=by
 cases h:l.all f with
 | false=>rfl
 | true=>have:=List.all_eq_true.1 h c (hc ▸ List.getElem_mem hk);rw[hf] at this;cases this
theorem qz {c:UInt8}(h:low c=true):nameC c=true:=by unfold nameC;rw[h];rfl
theorem kL {c:UInt8}(h:Vm.dig c=true):nameC c=true:=by unfold nameC;rw[h];simp
theorem jL {c:UInt8}(h:low c=false)(h2:Vm.dig c=false):nameC c=(c==45):=by unfold nameC;rw[h,h2];rfl
end At
theorem ft (l:List UInt8)(w:World)(hm:l.length<=maxLen) :
  Calls Tryz.prog 183 #[.string ⟨l.toArray⟩] w fun e w'=>e=.returned (.bool (At.nameB l))/\w=w':=by
 unfold maxLen at hm
 obtain⟨R,hR⟩:=ex (At.nameB l)
 rw[hR]
 cases l with
 | nil =>
  obtain rfl:R=false:=hR.symm
  go_enter Tryz.func183,Tryz.ntmps183
  go_wp2_with fail
  go_ret
  exact⟨rfl,rfl⟩
 | cons c0 t =>
  have ai:(c0 :: t).isEmpty=false:=rfl
  have ab:0<(c0 :: t).length:=by simp
  obtain⟨l,hl⟩:=ex (c0 :: t)
  have ag:Hid (24<l.length->R=false):=fun h=>by rw[<-hR,hl];exact At.kK h
  have HC:Hid (l.length<=24->R=(At.low c0&&l.all At.nameC)):=fun h=>by rw[<-hR,<-hl];exact At.qy (by rw[hl];exact h)
  have aj:0<l.length:=by rw[<-hl];exact ab
  obtain⟨cb,an,ad⟩:=byte_at l 0 aj
  have h0:cb=c0:=by rw[<-ad];simp[<-hl]
  subst h0
  rw[hl] at ai hm ⊢
  clear hR ad ab hl
  by_cases ak:24<l.length
  ·obtain rfl:R=false:=ag.out ak
   have d0:decide ((24:Int)<(l.length:Int))=true:=decide_eq_true (by omega)
   go_enter Tryz.func183,Tryz.ntmps183
   go_wp2_with fail
   go_ret
   exact⟨rfl,rfl⟩
  ·have HR:=zh (HC.out (by omega))
   have d0:decide ((24:Int)<(l.length:Int))=false:=decide_eq_false (by omega)
   clear HC ag
   go_enter Tryz.func183,Tryz.ntmps183
   go_wp2_with fail
   refine (nS cb _).mono ?_
   rintro e w' ⟨rfl,rfl⟩
   cases aa:At.low cb
   ·have al:Hid (R=false):=by show _=_;rw[HR.out,aa];rfl
    clear aa HR
    go_wp2_with fail
    go_ret
    exact⟨by rw[al.out];rfl,rfl⟩
   ·have ah:Hid (R=l.all At.nameC):=by show _=_;rw[HR.out,aa];rfl
    clear aa HR
    go_wp2_with fail
    go_loop [19] (fun i=>∃ k:Nat,k<=l.length/\i=.int .i64 k/\Hid ((l.take k).all At.nameC=true)) (fun i=>l.length-(intOf i).toNat)
    case atStart=>exact⟨0,Nat.zero_le _,rfl,rfl⟩
    case round =>
     obtain⟨k,hk,rfl,HK⟩:=hrel
     by_cases ae:k<l.length
     ·obtain⟨c,hc,af⟩:=byte_at l k ae
      have HS:=zh (At.dZ (f:=At.nameC) ae af)
      have HN:Hid (At.nameC c=false->R=false):=fun h=>by rw[ah.out];exact At.ja ae af h
      have HY:Hid (At.nameC c=true->(l.take (k+1)).all At.nameC=true):=fun h=>by rw[HS.out,HK.out,h];rfl
      clear af HS HK
      go_wp2_with fail
      refine (nS c _).mono ?_
      rintro e w' ⟨rfl,rfl⟩
      cases h1:At.low c
      ·have H1:=zh h1
       clear h1
       go_wp2_with fail
       refine (zf c _).mono ?_
       rintro e w' ⟨rfl,rfl⟩
       cases h2:Vm.dig c
       ·have HE:=zh (At.jL H1.out h2)
        clear h2
        by_cases h3:c.toNat=45
        ·have n1:((c.toNat:Int) != 45)=false:=by simp[h3]
         have e3:c=45:=by rw[<-UInt8.toNat_inj];exact h3
         have ac:=zh (HY.out (by rw[HE.out,e3];rfl))
         clear h3 e3
         go_wp2_with fail
         go_round
         case rel=>exact⟨k+1,by omega,by go_num,ac⟩
         case measure=>simp[intOf];omega
        ·have n1:((c.toNat:Int) != 45)=true:=by simp;omega
         have am:=zh (HN.out (by rw[HE.out];rw[beq_eq_false_iff_ne];intro e;exact h3 (by rw[e];rfl)))
         clear h3
         go_wp2_with fail
         go_ret
         exact⟨by rw[am.out];rfl,rfl⟩
       ·have ac:=zh (HY.out (At.kL h2))
        clear h2
        go_wp2_with fail
        go_round
        case rel=>exact⟨k+1,by omega,by go_num,ac⟩
        case measure=>simp[intOf];omega
      ·have ac:=zh (HY.out (At.qz h1))
       clear h1
       go_wp2_with fail
       go_round
       case rel=>exact⟨k+1,by omega,by go_num,ac⟩
       case measure=>simp[intOf];omega
     ·have HT:Hid (R=true):=by show _=_;rw[ah.out];have:=HK.out;rwa [List.take_of_length_le (by omega)] at this
      go_wp2_with fail
      go_ret
      exact⟨by rw[HT.out];rfl,rfl⟩
end
section
open Go.RowKit Rs At
attribute [local go_sem ↓] Go.wp_at_zero Go.wp_at_succ
def encD (c:Cond):List Value:=[.string ⟨c.1.toArray⟩,.string ⟨c.2.toArray⟩]
theorem fitsD:Rg.Fits encD 2:=⟨fun _=>rfl,fun x u hu=>by
 simp only[encD,List.mem_cons,List.not_mem_nil,or_false] at hu
 rcases hu with rfl | rfl <;> rfl⟩
theorem sliceD:Rg.SliceT Tryz.prog encD 2 261 296:=⟨fitsD,by decide,by kernel_rfl,Rg.b8 (z:=.agg #[.string ByteArray.empty,.string ByteArray.empty]) (b:=32) (by kernel_rfl) (by rfl) (by decide)⟩
theorem sliceO:Rg.SliceT Tryz.prog encO 1 241 261:=⟨fitsO,by decide,by kernel_rfl,Rg.b8 (z:=.slice none 0 0) (b:=24) (by kernel_rfl) (by rfl) (by decide)⟩
abbrev DRow (w:World) (A:Option Addr) (l:List Cond):Prop:=Rg.Row encD 2 w A l
abbrev DOwn (w:World) (B:Nat) (v:Value) (l:List Cond):Prop:=Rg.Own encD 2 w B 296 v l
def TIn (w:World) (ds:List Desc) (t:List (List Cond)):Prop:=ds.length=t.length/\∀ (i:Nat) (d:Desc) (l:List Cond),ds[i]?=some d->t[i]?=some l->d.2.1=l.length/\DRow w d.1 l
def TFree (v:Value) (ds:List Desc) (t:List (List Cond)):Prop:=∀ (i:Nat) (d:Desc) (l:List Cond),ds[i]?=some d->t[i]?=some l->0<l.length->∀ a,d.1=some a->v.ownBlock≠some a.block
def TRow (w:World) (A:Option Addr) (t:List (List Cond)):Prop:=∃ ds,Rg.Row encO 1 w A ds/\TIn w ds t
def TOwn (w:World) (B:Nat) (v:Value) (t:List (List Cond)):Prop:=∃ ds,Rg.Own encO 1 w B 261 v ds/\TIn w ds t/\TFree v ds t
theorem kM {w w':World}{ds:List Desc}{t:List (List Cond)}(h:TIn w ds t)(hb:Below w.heap.size w w'):TIn w' ds t:=⟨h.1,fun i d l h1 h2=>⟨(h.2 i d l h1 h2).1,Rg.aj (h.2 i d l h1 h2).2 hb⟩⟩
theorem jM {w w':World}{A:Option Addr}{t:List (List Cond)}(h:TRow w A t)(hb:Below w.heap.size w w'):TRow w' A t:=by
 obtain⟨ds,h1,h2⟩:=h;exact⟨ds,Rg.aj h1 hb,kM h2 hb⟩
theorem nT {w w':World}{B:Nat}{v:Value}{t:List (List Cond)}(h:TOwn w B v t)(hb:Below w.heap.size w w'):TOwn w' B v t:=by
 obtain⟨ds,h1,h2,h3⟩:=h;exact⟨ds,Rg.own_below h1 hb,kM h2 hb,h3⟩
theorem tH (w:World)(B:Nat):TOwn w B (.slice none 0 0) []:=⟨[],Rg.aB _ _ _,⟨rfl,fun i d l h=>by simp at h⟩,fun i d l h=>by simp at h⟩
theorem mi {ops:Array Oper}{rest:List Oper}{o:Oper}{a:Act}{Q:Exit->Act->World->Prop}{u:World}{Tc:TypeId}(hgd:o.guard=none)(sl x:Operand)
  (ho:o.op=.call { callee:=.builtin .append,args:=#[sl,x],argTypes:=#[241,241] })
  (B:Nat) (v:Value) (t:List (List Cond)) (l:List Cond) (C:Option Addr) (n c:Nat) (hs:a.eval sl=v) (hx:a.eval x=.slice (some ⟨u.heap.size,0,none⟩) 1 1) (hT:TOwn u B v t) (hn:l.length=n) (hrow:DRow u C l)
  (hfresh:0<l.length->∀ a,C=some a->v.ownBlock≠some a.block) (hsz:t.length+1<=1000000) (hB:B<=u.heap.size)
  (h:∀ v' w',TOwn w' B v' (t++[l])->Below B u w'->u.heap.size<=w'.heap.size->wpList Tryz.prog ops Q rest (a.put o.dst v') w'):wpList Tryz.prog ops Q (o :: rest) a (u.alloc (.cells #[.slice C n c] Tc)):=by
 obtain⟨ds,h1,h2,h3⟩:=hT
 obtain⟨i,z,hi,ak,al,am,hb⟩:=sliceO.info
 have aa:Below u.heap.size u (u.alloc (.cells #[.slice C n c] Tc)):=(Below.refl _ _).alloc (Nat.le_refl _) _
 have ab:=Rg.own_below h1 aa
 have af:ds.length+1<=1000000:=by rw[h2.1];exact hsz
 refine wpList_append_lies _ hgd sl x 241 ho B 261 i z 1 i.bytes sliceO.under hi ak am rfl al sliceO.pos v ds.length (Rg.flat encO ds) hs ab ⟨u.heap.size,0,none⟩ 1 1 (Rg.flat encO [(C,n,c)]) hx rfl (Rg.az u Tc [(C,n,c)] _ (by rfl)) (Rg.bF fitsO _) (by decide) (by unfold maxLen;omega) (by
  have:(ds.length+1)*i.bytes<=1000000*1000:=Nat.mul_le_mul af hb
  omega) (Nat.le_trans hB aa.size) _ rfl ?_
 intro g cap w' g1 g2 g3 g4
 have ag:(u.alloc (.cells #[.slice C n c] Tc)).heap.size=u.heap.size+1:=by simp
 have ah:Rg.Own encO 1 w' B 261 (.slice (some ⟨g,0,none⟩) (ds.length+1) cap) (ds++[(C,n,c)]):=by
  unfold Rg.Own
  rw[Rg.cG,List.length_append]
  exact g1
 have ai:=kM h2 aa
 have keep:∀ (j:Nat) (d:Desc) (m:List Cond),ds[j]?=some d->t[j]?=some m->DRow w' d.1 m:=fun j d m e1 e2=>ee (ai.2 j d m e1 e2).2 g2 (h3 j d m e1 e2)
 have ac:∀ (b:Nat),b<u.heap.size->v.ownBlock≠some b->(some g:Option Nat)≠some b:=fun b hb hv e=>by
  rcases g3 with g3 | g3
  ·exact hv (by rw[g3,e])
  ·have:=Option.some.inj e;omega
 refine h _ w' ⟨ds++[(C,n,c)],ah,⟨by rw[List.length_append,List.length_append,h2.1];rfl,fun j d m e1 e2=>?_⟩,fun j d m e1 e2 hm ad had=>?_⟩ ?_ (by have:=g2.size;omega)
 ·rcases aU e1 with⟨q1,q2⟩ | ⟨q1,q2⟩
  ·rcases aU e2 with⟨_,p2⟩ | ⟨p1,_⟩
   ·exact⟨(h2.2 j d m q2 p2).1,keep j d m q2 p2⟩
   ·have:=h2.1;omega
  ·rcases aU e2 with⟨p1,_⟩ | ⟨_,p2⟩
   ·have:=h2.1;omega
   ·subst q2 p2
    exact⟨hn.symm,ee (Rg.aj hrow aa) g2 hfresh⟩
 ·rcases aU e1 with⟨q1,q2⟩ | ⟨q1,q2⟩
  ·rcases aU e2 with⟨_,p2⟩ | ⟨p1,_⟩
   ·obtain⟨a2,ea,ae,_⟩:=(h2.2 j d m q2 p2).2 hm
    rw[had] at ea
    cases ea
    exact ac _ ae (h3 j d m q2 p2 hm ad had)
   ·have:=h2.1;omega
  ·rcases aU e2 with⟨p1,_⟩ | ⟨_,p2⟩
   ·have:=h2.1;omega
   ·subst q2 p2
    obtain⟨a2,ea,ae,_⟩:=hrow hm
    rw[show C=some ad from had] at ea
    cases ea
    exact ac _ ae (hfresh hm ad had)
 ·exact (aa.mono hB).trans (Rg.aA ab (Nat.le_trans hB aa.size) g2)
def CondsRet (w:World) (l:List Cond) (e:Ending) (w':World):Prop:=∃ C n c,e=.returned (.slice C n c)/\l.length=n/\DRow w' C l/\(∀ a,C=some a->w.heap.size<=a.block)/\Below w.heap.size w w'
def TermRet (w:World) (t:List (List Cond)) (e:Ending) (w':World):Prop:=∃ C n c,e=.returned (.slice C n c)/\t.length=n/\TRow w' C t/\Below w.heap.size w w'
theorem gJ {w:World}{B:Nat}{v:Value}{l:List Cond}(h:DOwn w B v l):∃ C d,v=.slice C l.length d/\DRow w C l/\∀ a,C=some a->B<=a.block:=by
 obtain⟨C,d,hv,hr,_,_⟩:=Rg.aF fitsD h
 exact⟨C,d,hv,hr,fun a ha=>by subst ha;exact (Rg.bw h a.block (by rw[hv];rfl)).1⟩
theorem tI {w:World}{B:Nat}{v:Value}{t:List (List Cond)}(h:TOwn w B v t):∃ C d,v=.slice C t.length d/\TRow w C t:=by
 obtain⟨ds,h1,h2,_⟩:=h
 obtain⟨C,d,hv,hr,_,_⟩:=Rg.aF fitsO h1
 rw[h2.1] at hv
 exact⟨C,d,hv,ds,hr,h2⟩
theorem pw {w:World}{A:Option Addr}{t:List (List Cond)}(h:TRow w A t)(k:Nat)(hk:k<t.length):∃ ad C n c,A=some ad/\ad.block<w.heap.size/\w.cell? (ad.add k)=some (.slice C n c)/\t[k].length=n/\DRow w C t[k]:=by
 obtain⟨ds,h1,h2,h3⟩:=h
 have aa:k<ds.length:=by omega
 obtain⟨ad,x,e,hx,ab,hc⟩:=Rg.cK h1 k aa
 obtain⟨q1,q2⟩:=h3 k x t[k] (by rw[List.getElem?_eq_getElem aa,hx]) (List.getElem?_eq_getElem hk)
 refine⟨ad,x.1,x.2.1,x.2.2,e,ab,?_,q1.symm,q2⟩
 have:=hc 0 _ rfl
 rw[if_pos rfl,Nat.mul_one] at this
 exact this
theorem xz {w:World}{A:Option Addr}{l:List Cond}(h:DRow w A l)(k:Nat)(hk:k<l.length):∃ ad,A=some ad/\ad.block<w.heap.size/\w.cell? (ad.add (k*2))=some (.string ⟨l[k].1.toArray⟩)/\w.cell? ⟨(ad.add (k*2)).block,(ad.add (k*2)).off+1,none⟩=some (.string ⟨l[k].2.toArray⟩):=by
 obtain⟨ad,x,e,hx,aa,hc⟩:=Rg.cK h k hk
 subst hx
 exact⟨ad,e,aa,hc 0 _ rfl,hc 1 _ rfl⟩
end
end Go.Proofs.YtgnaiidgjmicaaaGreatDoor

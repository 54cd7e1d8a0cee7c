/- Part 23 of what the laws lean on. -/
import Derived.Test.YtgnaiidgjmicaaaGreatDoorM22
set_option maxRecDepth 100000
set_option maxHeartbeats 3200000
namespace Go.Proofs.YtgnaiidgjmicaaaGreatDoor
section
open Go.RowKit Rs At Pg
namespace Pg
theorem jV {p:Pk}(h:checkP p=0):nameB p.name=true/\verE p.ver=0/\p.deps.length<=16/\depsE p.deps=0/\p.confl.length<=16/\atomsE p.confl=0/\p.prov.length<=16/\givesE p.prov=0/\chkW p.wt=0:=by
 unfold checkP at h
 by_cases h1:nameB p.name=false
 ·rw[if_pos h1] at h;cases h
 rw[if_neg h1] at h
 by_cases h2:verE p.ver≠0
 ·rw[if_pos h2] at h;exact absurd h h2
 rw[if_neg h2] at h
 by_cases h3:16<p.deps.length
 ·rw[if_pos h3] at h;cases h
 rw[if_neg h3] at h
 by_cases h4:depsE p.deps≠0
 ·rw[if_pos h4] at h;exact absurd h h4
 rw[if_neg h4] at h
 by_cases h5:16<p.confl.length
 ·rw[if_pos h5] at h;cases h
 rw[if_neg h5] at h
 by_cases h6:atomsE p.confl≠0
 ·rw[if_pos h6] at h;exact absurd h h6
 rw[if_neg h6] at h
 by_cases h7:16<p.prov.length
 ·rw[if_pos h7] at h;cases h
 rw[if_neg h7] at h
 by_cases h8:givesE p.prov≠0
 ·rw[if_pos h8] at h;exact absurd h h8
 rw[if_neg h8] at h
 refine⟨?_,Decidable.not_not.1 h2,by omega,Decidable.not_not.1 h4,by omega,Decidable.not_not.1 h6,by omega,Decidable.not_not.1 h8,h⟩
 cases hb:nameB p.name
 ·exact absurd hb h1
 ·rfl
theorem fZ:∀ {l:List Atm},atomsE l=0->∀ a∈l,checkA a=0
 | [],_,a,ha=>by cases ha
 | b :: l,h,a,ha=>by
  unfold atomsE at h
  by_cases h1:checkA b=0
  ·rw[if_pos h1] at h
   rcases List.mem_cons.1 ha with rfl | ha
   ·exact h1
   ·exact fZ h a ha
  ·rw[if_neg h1] at h;exact absurd h h1
theorem eK:∀ {l:List Gv},givesE l=0->∀ a∈l,giveE a=0
 | [],_,a,ha=>by cases ha
 | b :: l,h,a,ha=>by
  unfold givesE at h
  by_cases h1:giveE b=0
  ·rw[if_pos h1] at h
   rcases List.mem_cons.1 ha with rfl | ha
   ·exact h1
   ·exact eK h a ha
  ·rw[if_neg h1] at h;exact absurd h h1
theorem iE:∀ {l:List (List Atm)},depsE l=0->∀ d∈l,1<=d.length/\d.length<=8/\atomsE d=0
 | [],_,a,ha=>by cases ha
 | b :: l,h,a,ha=>by
  unfold depsE at h
  by_cases h1:1<=b.length/\b.length<=8
  ·rw[if_pos h1] at h
   by_cases h2:atomsE b=0
   ·rw[if_pos h2] at h
    rcases List.mem_cons.1 ha with rfl | ha
    ·exact⟨h1.1,h1.2,h2⟩
    ·exact iE h a ha
   ·rw[if_neg h2] at h;exact absurd h h2
  ·rw[if_neg h1] at h;cases h
theorem gf {v:List UInt8}(h:verE v=0):Vm.check v=0/\Vm.canon v=v:=by
 unfold verE at h
 split at h
 ·rename_i h1
  split at h
  ·rename_i h2;exact⟨h1,h2⟩
  ·cases h
 ·rename_i h1;exact absurd h h1
theorem mu {g:Gv}(h:giveE g=0):nameB g.name=true/\(g.ver=[]\/verE g.ver=0):=by
 unfold giveE at h
 split at h
 ·rename_i h1
  split at h
  ·rename_i h2;exact⟨h1,Or.inl h2⟩
  ·exact⟨h1,Or.inr h⟩
 ·cases h
theorem xZ {B:Nat}:∀ (l:List (List UInt8)),(∀ x∈l,x.length<=B)->Lib.lens l<=l.length*B
 | [],_=>by simp[Lib.lens]
 | x :: l,h=>by
  have h1:=xZ l (fun y hy=>h y (List.mem_cons_of_mem _ hy))
  have h2:=h x (List.mem_cons_self ..)
  have e:Lib.lens (x :: l)=x.length+Lib.lens l:=by simp[Lib.lens]
  rw[e,List.length_cons,Nat.add_mul]
  omega
theorem join_le {B:Nat}(l:List (List UInt8))(sep:List UInt8)(h:∀ x∈l,x.length<=B):(Lib.join l sep).length<=l.length*(B+sep.length):=by
 cases l with
 | nil=>simp[Lib.join_nil]
 | cons x r =>
  rw[Lib.join_length]
  have h1:=xZ (x :: r) h
  have h2:sep.length*r.length<=(r.length+1)*sep.length:=by rw[Nat.mul_comm];exact Nat.mul_le_mul_right _ (Nat.le_succ _)
  rw[List.length_cons] at h1 ⊢
  rw[Nat.mul_add]
  omega
theorem x7 {l:List Atm}(h:atomsE l=0):ATxt l:=fun a ha=>by
 obtain⟨h1,h2,_⟩:=fh (fZ h a ha)
 exact⟨Nat.le_trans (eV h1) (by decide),oc h2,h2⟩
theorem x8 {l:List Atm}(h:atomsE l=0):AFew l:=fun a ha=>by
 obtain⟨h1,h2,_⟩:=fh (fZ h a ha)
 exact⟨Nat.le_trans (eV h1) (by decide),Nat.le_trans (oc h2) (by decide)⟩
theorem uF {l:List Atm}(h:atomsE l=0):∀ x∈l.map textA,x.length<=1000:=fun x hx=>by
 obtain⟨a,ha,rfl⟩:=List.mem_map.1 hx
 exact aeB (fZ h a ha)
theorem x9 {d:List Atm}(h:atomsE d=0)(hl:d.length<=8):(depT d).length<=8032:=by
 have h1:=join_le (d.map textA) orT (uF h)
 rw[List.length_map] at h1
 have h2:d.length*(1000+orT.length)<=8*1004:=Nat.mul_le_mul_right _ hl
 exact Nat.le_trans h1 h2
theorem adh {p:Pk}(h:depsE p.deps=0)(hl:p.deps.length<=16):(depsT p).length<=128544:=by
 have h1:=join_le (B:=8032) (p.deps.map depT) semi (fun x hx=>by
  obtain⟨d,hd,rfl⟩:=List.mem_map.1 hx
  obtain⟨_,q1,q2⟩:=iE h d hd
  exact x9 q2 q1)
 rw[List.length_map] at h1
 have h2:p.deps.length*(8032+semi.length)<=16*8034:=Nat.mul_le_mul_right _ hl
 exact Nat.le_trans h1 h2
theorem abj {p:Pk}(h:atomsE p.confl=0)(hl:p.confl.length<=16):(conflT p).length<=16032:=by
 have h1:=join_le (p.confl.map textA) semi (uF h)
 rw[List.length_map] at h1
 have h2:p.confl.length*(1000+semi.length)<=16*1002:=Nat.mul_le_mul_right _ hl
 exact Nat.le_trans h1 h2
theorem pJ {g:Gv}(h:giveE g=0):g.name.length<=24/\g.ver.length<=40/\(gvT g).length<=67:=by
 obtain⟨h1,h2⟩:=mu h
 have hn:=eV h1
 have hv:g.ver.length<=40:=by
  rcases h2 with h2 | h2
  ·rw[h2];exact Nat.zero_le _
  ·exact (Vm.cI (gf h2).1).1
 refine⟨hn,hv,?_⟩
 unfold gvT
 split
 ·omega
 ·simp only[List.length_append,List.length_cons,List.length_nil];omega
theorem aeY {l:List Gv}(h:givesE l=0):GTxt l:=fun g hg=>by
 obtain⟨h1,h2,_⟩:=pJ (eK h g hg)
 exact⟨by omega,by omega⟩
theorem adi {p:Pk}(h:givesE p.prov=0)(hl:p.prov.length<=16):(provT p).length<=1104:=by
 have h1:=join_le (B:=67) (p.prov.map gvT) semi (fun x hx=>by
  obtain⟨d,hd,rfl⟩:=List.mem_map.1 hx
  exact (pJ (eK h d hd)).2.2)
 rw[List.length_map] at h1
 have h2:p.prov.length*(67+semi.length)<=16*69:=Nat.mul_le_mul_right _ hl
 exact Nat.le_trans h1 h2
theorem fF {p:Pk}(h:checkP p=0)(hw:p.wt<Wm.W):PTxt p:=by
 obtain⟨h1,h2,h3,h4,h5,h6,h7,h8,h9⟩:=jV h
 have hv:=(Vm.cI (gf h2).1).1
 have hn:=eV h1
 refine⟨by omega,by omega,by omega,fun d hd=>?_,Nat.le_trans (adh h4 h3) (by decide),by omega,x7 h6,Nat.le_trans (abj h6 h5) (by decide),by omega,aeY h8,Nat.le_trans (adi h8 h7) (by decide),hw⟩
 obtain⟨_,q1,q2⟩:=iE h4 d hd
 exact⟨by omega,x7 q2,Nat.le_trans (x9 q2 q1) (by decide)⟩
theorem abk {p:Pk}(h:checkP p=0)(hw:p.wt<Wm.W):PFew p:=by
 obtain⟨h1,h2,h3,h4,h5,h6,h7,h8,h9⟩:=jV h
 have hn:=eV h1
 refine⟨Nat.le_trans hn (by decide),by omega,fun d hd=>?_,by omega,x8 h6,by omega,fun g hg=>?_,hw⟩
 ·obtain⟨_,q1,q2⟩:=iE h4 d hd
  exact⟨by omega,x8 q2⟩
 ·obtain⟨q1,q2,_⟩:=pJ (eK h8 g hg)
  exact⟨Nat.le_trans q1 (by decide),Nat.le_trans q2 (by decide)⟩
theorem iT {p:Pk}(h:checkP p=0):Vm.check p.ver=0/\∀ g∈p.prov,g.ver=[]\/Vm.check g.ver=0:=by
 obtain⟨h1,h2,h3,h4,h5,h6,h7,h8,h9⟩:=jV h
 refine⟨(gf h2).1,fun g hg=>?_⟩
 obtain⟨_,q⟩:=mu (eK h8 g hg)
 exact q.imp id fun q=>(gf q).1
end Pg
end
namespace Rp
open Go.RowKit Rs At Pg
structure PD where
 nm:List UInt8
 vr:List UInt8
 D:Desc
 C:Desc
 G:Desc
 wt:Nat
def encP (d:PD):List Value:=[.string ⟨d.nm.toArray⟩,.string ⟨d.vr.toArray⟩,.slice d.D.1 d.D.2.1 d.D.2.2,.slice d.C.1 d.C.2.1 d.C.2.2,.slice d.G.1 d.G.2.1 d.G.2.2,.float .f64 d.wt]
theorem fitsP:Rg.Fits encP 6:=⟨fun _=>rfl,fun x u hu=>by
 simp only[encP,List.mem_cons,List.not_mem_nil,or_false] at hu
 rcases hu with rfl | rfl | rfl | rfl | rfl | rfl <;> rfl⟩
def POne (w:World) (d:PD) (p:Pk):Prop:=d.nm=p.name/\d.vr=p.ver/\d.D.2.1=p.deps.length/\d.C.2.1=p.confl.length/\d.G.2.1=p.prov.length/\d.wt=p.wt/\Pg.DRow w d.D.1 p.deps/\ARow w d.C.1 p.confl/\GRow w d.G.1 p.prov
def PIn (w:World) (ds:List PD) (l:List Pk):Prop:=ds.length=l.length/\∀ (i:Nat) (d:PD) (p:Pk),ds[i]?=some d->l[i]?=some p->POne w d p
def RRow (w:World) (A:Option Addr) (l:List Pk):Prop:=∃ ds,Rg.Row encP 6 w A ds/\PIn w ds l
theorem zA {w w':World}{d:PD}{p:Pk}(h:POne w d p)(hb:Below w.heap.size w w'):POne w' d p:=by
 obtain⟨h1,h2,h3,h4,h5,h6,h7,h8,h9⟩:=h
 exact⟨h1,h2,h3,h4,h5,h6,aJ h7 hb,ay h8 hb,Rg.aj h9 hb⟩
theorem abl {w w':World}{ds:List PD}{l:List Pk}(h:PIn w ds l)(hb:Below w.heap.size w w'):PIn w' ds l:=⟨h.1,fun i d p h1 h2=>zA (h.2 i d p h1 h2) hb⟩
theorem bb {w w':World}{A:Option Addr}{l:List Pk}(h:RRow w A l)(hb:Below w.heap.size w w'):RRow w' A l:=by
 obtain⟨ds,h1,h2⟩:=h
 exact⟨ds,Rg.aj h1 hb,abl h2 hb⟩
theorem aY {w:World}{A:Option Addr}{l:List Pk}(h:RRow w A l)(k:Nat)(hk:k<l.length):∃ ad D dc C cc G gc,A=some ad/\Pg.DRow w D l[k].deps/\ARow w C l[k].confl/\GRow w G l[k].prov/\∀ u,Below w.heap.size w u->u.cell? (ad.add (k*6))=some (.string ⟨l[k].name.toArray⟩)/\u.cell? ⟨(ad.add (k*6)).block,(ad.add (k*6)).off+1,none⟩=some (.string ⟨l[k].ver.toArray⟩)/\u.cell? ⟨(ad.add (k*6)).block,(ad.add (k*6)).off+2,none⟩=some (.slice D l[k].deps.length dc)/\u.cell? ⟨(ad.add (k*6)).block,(ad.add (k*6)).off+3,none⟩=some (.slice C l[k].confl.length cc)/\u.cell? ⟨(ad.add (k*6)).block,(ad.add (k*6)).off+4,none⟩=some (.slice G l[k].prov.length gc)/\u.cell? ⟨(ad.add (k*6)).block,(ad.add (k*6)).off+5,none⟩=some (.float .f64 l[k].wt):=by
 obtain⟨ds,h1,h2,h3⟩:=h
 have aa:k<ds.length:=by omega
 obtain⟨ad,e,_,_⟩:=h1 (by omega)
 obtain⟨q0,q1,q2,q3,q4,q5,q6,q7,q8⟩:=h3 k ds[k] l[k] (List.getElem?_eq_getElem aa) (List.getElem?_eq_getElem hk)
 refine⟨ad,ds[k].D.1,ds[k].D.2.2,ds[k].C.1,ds[k].C.2.2,ds[k].G.1,ds[k].G.2.2,e,q6,q7,q8,fun u hb=>?_⟩
 obtain⟨ab,x,e',hx,_,hc⟩:=Rg.cK (Rg.aj h1 hb) k aa
 rw[e] at e';cases e'
 subst hx
 rw[<-q0,<-q1,<-q2,<-q3,<-q4,<-q5]
 exact⟨hc 0 _ rfl,hc 1 _ rfl,hc 2 _ rfl,hc 3 _ rfl,hc 4 _ rfl,hc 5 _ rfl⟩
def RFew (l:List Pk):Prop:=∀ p∈l,PFew p
theorem pK {l:List Pk}(h:RFew l)(k:Nat)(hk:k<l.length):PFew l[k]:=h _ (List.getElem_mem hk)
def cmpP (p q:Pk):Int:=Vm.both (Lib.compareBytes p.name q.name) (Vm.cmpV p.ver q.ver)
def chkF:Nat->Option Pk->List Pk->Int × Int
 | _,_,[]=>(0,0)
 | i,o,p :: l=>if checkP p≠0 then (i,checkP p) else match o with
  | none=>chkF (i+1) (some p) l
  | some q=>if cmpP q p=0 then (i,6) else if 0<cmpP q p then (i,7) else chkF (i+1) (some p) l
def chkR (l:List Pk):Int × Int:=if 64<l.length then (0,4) else chkF 0 none l
def prevP (l:List Pk) (k:Nat):Option Pk:=if k=0 then none else l[k-1]?
theorem qU {l:List Pk}{k:Nat}(hk:k<l.length):prevP l (k+1)=some l[k]:=by
 unfold prevP
 rw[if_neg (by omega),Nat.add_sub_cancel,List.getElem?_eq_getElem hk]
theorem abm {l:List Pk}{k:Nat}{R:Int × Int}(hk:k<l.length)(h:chkF k (prevP l k) (l.drop k)=R) :
  (checkP l[k]≠0->R=((k:Int),checkP l[k]))/\(checkP l[k]=0->k=0->chkF (k+1) (prevP l (k+1)) (l.drop (k+1))=R) /\
  (checkP l[k]=0->∀ (p:Nat) (hp:p<l.length),p+1=k->(cmpP l[p] l[k]=0->R=((k:Int),6))/\(cmpP l[p] l[k]≠0->0<cmpP l[p] l[k]->R=((k:Int),7))/\(cmpP l[p] l[k]≠0->¬ 0<cmpP l[p] l[k]->chkF (k+1) (prevP l (k+1)) (l.drop (k+1))=R)):=by
 rw[List.drop_eq_getElem_cons hk] at h
 rw[qU hk]
 unfold chkF at h
 by_cases hc:checkP l[k]=0
 ·rw[if_neg (fun e=>e hc)] at h
  refine⟨fun e=>absurd hc e,fun _ h0=>?_,fun _ p hp hpk=>?_⟩
  ·unfold prevP at h
   rw[if_pos h0] at h
   exact h
  ·have e:prevP l k=some l[p]:=by rw[<-hpk];exact qU hp
   rw[e] at h
   dsimp only at h
   refine⟨fun h0=>?_,fun h0 h1=>?_,fun h0 h1=>?_⟩
   ·rw[if_pos h0] at h;exact h.symm
   ·rw[if_neg h0,if_pos h1] at h;exact h.symm
   ·rw[if_neg h0,if_neg h1] at h;exact h
 ·rw[if_pos hc] at h
  exact⟨fun _=>h.symm,fun e=>absurd e hc,fun e=>absurd e hc⟩
def okRp (i:Int) (k:Int):Ending:=if k=0 then .returned (.tuple #[]) else panAt i k
def okR (n:Nat) (R:Int × Int):Ending:=if 64<n then pan 4 else okRp R.1 R.2
theorem eL {p:Pk}(h:checkP p=0):Vm.check p.ver=0:=(iT h).1
end Rp
section
open Go.RowKit Rs At Pg
namespace Pg
theorem abn {s m:List UInt8}(hm:m≠[]):1<=(Lib.split s m).length:=by
 unfold Lib.split
 rw[(eJ hm _ _ s rfl).2];omega
theorem qV {β:Type}{rd:List UInt8->Except Int β}{Q:β->Prop}(hr:∀ t x,rd t=.ok x->Q x):∀ (l:List (List UInt8)) (acc r:List β),rdL rd acc l=.ok r->(∀ x∈acc,Q x)->∀ x∈r,Q x
 | [],acc,r,h,ha=>by cases h;exact ha
 | t :: l,acc,r,h,ha=>by
  cases ht:rd t with
  | error e=>rw[eu ht] at h;cases h
  | ok x =>
   rw[jk ht] at h
   refine qV hr l _ r h fun y hy=>?_
   rcases List.mem_append.1 hy with hy | hy
   ·exact ha y hy
   ·rw[List.mem_singleton.1 hy];exact hr t x ht
theorem eM {β:Type}{rd:List UInt8->Except Int β}{Q:β->Prop}(hr:∀ t x,rd t=.ok x->Q x){sep t:List UInt8}(hs:sep≠[]){most:Nat}{r:List β}(h:partsR rd sep most t=.ok r):1<=r.length/\r.length<=most/\∀ x∈r,Q x:=by
 unfold partsR at h
 split at h
 ·rename_i hl
  have h1:=xV _ _ _ h
  have h2:=abn (s:=t) hs
  rw[List.length_nil,Nat.zero_add] at h1
  exact⟨by omega,by omega,qV hr _ _ _ h (by simp)⟩
 ·cases h
theorem qW {t:List UInt8}{a:Atm}(h:atomR t=.ok a):checkA a=0:=by
 unfold atomR at h
 split at h
 ·rename_i h0
  cases h
  exact wz (s:=t) (Prod.ext h0 rfl)
 ·cases h
theorem k7:∀ {l:List Atm},(∀ a∈l,checkA a=0)->atomsE l=0
 | [],_=>rfl
 | a :: l,h=>by
  unfold atomsE
  rw[if_pos (h a (by simp))]
  exact k7 fun x hx=>h x (by simp[hx])
theorem qX:∀ {l:List Gv},(∀ a∈l,giveE a=0)->givesE l=0
 | [],_=>rfl
 | a :: l,h=>by
  unfold givesE
  rw[if_pos (h a (by simp))]
  exact qX fun x hx=>h x (by simp[hx])
theorem uG:∀ {l:List (List Atm)},(∀ d∈l,1<=d.length/\d.length<=8/\atomsE d=0)->depsE l=0
 | [],_=>rfl
 | a :: l,h=>by
  obtain⟨h1,h2,h3⟩:=h a (by simp)
  unfold depsE
  rw[if_pos ⟨h1,h2⟩,if_pos h3]
  exact uG fun x hx=>h x (by simp[hx])
theorem adj {t:List UInt8}{d:List Atm}(h:depR t=.ok d):1<=d.length/\d.length<=8/\atomsE d=0:=by
 obtain⟨h1,h2,h3⟩:=eM (Q:=fun a=>checkA a=0) (fun _ _=>qW) (by decide) h
 exact⟨h1,h2,k7 h3⟩
theorem k8 {v:List UInt8}(h:Vm.check v=0):verE (canonOf v)=0:=by
 rw[canonOf,if_pos h]
 unfold verE
 rw[if_pos (Vm.lZ h),if_pos (Vm.l8 h)]
theorem aeZ {t:List UInt8}{g:Gv}(h:gvR t=.ok g):giveE g=0:=by
 unfold gvR at h
 split at h
 ·rename_i h1
  split at h
  ·split at h
   ·rename_i h3
    cases h
    unfold giveE
    rw[if_pos h1]
    split
    ·rfl
    ·exact k8 h3
   ·cases h
  ·cases h
   unfold giveE
   rw[if_pos h1,if_pos rfl]
 ·cases h
theorem ae0 {t:List UInt8}{b:Nat}(h:wtR t=.ok b):chkW b=0:=by
 unfold wtR at h
 split at h
 ·split at h
  ·rename_i h1;cases h;exact h1
  ·cases h
 ·cases h
def PInv (q:Pk):Prop:=q.deps.length<=16/\depsE q.deps=0/\q.confl.length<=16/\atomsE q.confl=0/\q.prov.length<=16/\givesE q.prov=0/\chkW q.wt=0
theorem abo:PInv zeroP:=by unfold PInv;decide +kernel
theorem adk {p q:Pk}{k v:List UInt8}(h:takeR p k v=.ok q)(hp:PInv p):PInv q/\(nameB q.name=true\/(k≠kPkg/\q.name=p.name))/\(verE q.ver=0\/(k≠kVer/\q.ver=p.ver)):=by
 obtain⟨p1,p2,p3,p4,p5,p6,p7⟩:=hp
 unfold takeR at h
 by_cases k1:k=kPkg
 ·rw[if_pos k1] at h
  split at h
  ·rename_i h1;cases h
   exact⟨⟨p1,p2,p3,p4,p5,p6,p7⟩,Or.inl h1,Or.inr ⟨by rw[k1];decide,rfl⟩⟩
  ·cases h
 rw[if_neg k1] at h
 by_cases k2:k=kVer
 ·rw[if_pos k2] at h
  split at h
  ·rename_i h1;cases h
   exact⟨⟨p1,p2,p3,p4,p5,p6,p7⟩,Or.inr ⟨k1,rfl⟩,Or.inl (k8 h1)⟩
  ·cases h
 rw[if_neg k2] at h
 by_cases k3:k=kDep
 ·rw[if_pos k3] at h
  split at h
  ·rename_i l h1;cases h
   obtain⟨_,h2,h3⟩:=eM (fun _ _=>adj) (by decide) h1
   exact⟨⟨h2,uG h3,p3,p4,p5,p6,p7⟩,Or.inr ⟨k1,rfl⟩,Or.inr ⟨k2,rfl⟩⟩
  ·cases h
 rw[if_neg k3] at h
 by_cases k4:k=kCon
 ·rw[if_pos k4] at h
  split at h
  ·rename_i l h1;cases h
   obtain⟨_,h2,h3⟩:=eM (fun _ _=>qW) (by decide) h1
   exact⟨⟨p1,p2,h2,k7 h3,p5,p6,p7⟩,Or.inr ⟨k1,rfl⟩,Or.inr ⟨k2,rfl⟩⟩
  ·cases h
 rw[if_neg k4] at h
 by_cases k5:k=kPro
 ·rw[if_pos k5] at h
  split at h
  ·rename_i l h1;cases h
   obtain⟨_,h2,h3⟩:=eM (fun _ _=>aeZ) (by decide) h1
   exact⟨⟨p1,p2,p3,p4,h2,qX h3,p7⟩,Or.inr ⟨k1,rfl⟩,Or.inr ⟨k2,rfl⟩⟩
  ·cases h
 rw[if_neg k5] at h
 by_cases k6:k=kWei
 ·rw[if_pos k6] at h
  split at h
  ·rename_i l h1;cases h
   exact⟨⟨p1,p2,p3,p4,p5,p6,ae0 h1⟩,Or.inr ⟨k1,rfl⟩,Or.inr ⟨k2,rfl⟩⟩
  ·cases h
 rw[if_neg k6] at h
 cases h
 exact⟨⟨p1,p2,p3,p4,p5,p6,p7⟩,Or.inr ⟨k1,rfl⟩,Or.inr ⟨k2,rfl⟩⟩
theorem qY (f:Sz.Fld)(l:List Sz.Fld)(k:List UInt8):Sz.hasK (f :: l) k=(f.key==k||Sz.hasK l k):=rfl
theorem qZ:∀ (l:List Sz.Fld) (i:Nat) (p q:Pk),readR i p l=.ok q->PInv p->PInv q/\(nameB p.name=true\/Sz.hasK l kPkg=true->nameB q.name=true)/\(verE p.ver=0\/Sz.hasK l kVer=true->verE q.ver=0)
 | [],i,p,q,h,hp=>by
  cases h
  exact⟨hp,fun h=>h.resolve_right (by decide),fun h=>h.resolve_right (by decide)⟩
 | f :: l,i,p,q,h,hp=>by
  cases ht:takeR p f.key f.val with
  | error e=>rw[fj ht] at h;cases h
  | ok r =>
   rw[jU ht] at h
   obtain⟨t1,t2,t3⟩:=adk ht hp
   obtain⟨r1,r2,r3⟩:=qZ l _ _ _ h t1
   refine⟨r1,fun hh=>r2 ?_,fun hh=>r3 ?_⟩
   ·rcases t2 with t2 | ⟨t2,t4⟩
    ·exact Or.inl t2
    ·rw[t4]
     refine hh.imp id fun hh=>?_
     rw[qY,beq_eq_false_iff_ne.2 t2,Bool.false_or] at hh
     exact hh
   ·rcases t3 with t3 | ⟨t3,t4⟩
    ·exact Or.inl t3
    ·rw[t4]
     refine hh.imp id fun hh=>?_
     rw[qY,beq_eq_false_iff_ne.2 t3,Bool.false_or] at hh
     exact hh
theorem abp {s:List Sz.Fld}{p:Pk}(h:readP s=.ok p):checkP p=0:=by
 unfold readP at h
 split at h
 ·split at h
  ·rename_i hk
   rw[Sz.uw,Sz.uw,Bool.and_eq_true] at hk
   obtain⟨⟨q1,q2,q3,q4,q5,q6,q7⟩,h1,h2⟩:=qZ s 0 zeroP p h abo
   have n:=h1 (Or.inr hk.1)
   have v:=h2 (Or.inr hk.2)
   unfold checkP
   rw[if_neg (by rw[n];decide),if_neg (by rw[v];decide),if_neg (by omega),if_neg (by rw[q2];decide),if_neg (by omega),if_neg (by rw[q4];decide),if_neg (by omega),if_neg (by rw[q6];decide),q7]
  ·cases h
 ·cases h
theorem adl {s:List Sz.Fld}{i:Int}{p:Pk}(h:fromP s=(0,i,p)):checkP p=0:=by
 unfold fromP at h
 cases hr:readP s with
 | ok q=>rw[hr] at h;cases h;exact abp hr
 | error x =>
  rw[hr] at h
  have:=adg hr
  obtain⟨j,e⟩:=x
  simp only[Prod.mk.injEq] at h
  exact absurd h.1 this
end Pg
end
namespace Rp
open Go.RowKit Rs At Pg
theorem cT:Vm.Cmp3 cmpP:=(Vm.kk.pull Pk.name).both (Vm.eQ.pull Pk.ver)
theorem fK {a b c:Pk}(h1:cmpP a b<0)(h2:cmpP b c<=0):cmpP a c<0:=by
 rcases Int.lt_or_le (cmpP a c) 0 with h | h
 ·exact h
 ·have e1:=cT.1 a c
  have e2:=cT.1 a b
  have:=cT.2 b c a h2 (by omega)
  omega
def ins (p:Pk):List Pk->Option (List Pk)
 | []=>some [p]
 | q :: l=>if cmpP q p<0 then (ins p l).map (q :: ·) else if cmpP q p=0 then none else some (p :: q :: l)
def Ord (l:List Pk):Prop:=∀ (i j:Nat) (hi:i<l.length) (hj:j<l.length),i<j->cmpP l[i] l[j]<0
def Place (p:Pk) (l:List Pk) (i:Nat):Prop:=i<=l.length/\(∀ (j:Nat) (h:j<l.length),j+1=i->cmpP l[j] p<0)/\∀ h:i<l.length,¬ cmpP l[i] p<0
theorem uH {q:Pk}{l:List Pk}(h:Ord (q :: l)):Ord l:=fun i j hi hj hij=>by
 have:=h (i+1) (j+1) (Nat.succ_lt_succ hi) (Nat.succ_lt_succ hj) (Nat.succ_lt_succ hij)
 simpa using this
theorem re {p:Pk}:∀ {l:List Pk} {i:Nat},Ord l->Place p l i->ins p l=if ∃ h:i<l.length,cmpP l[i] p=0 then none else some (l.take i++p :: l.drop i)
 | [],i,_,h=>by
  have:i=0:=by have:=h.1;simpa using this
  subst this
  simp[ins]
 | q :: l,0,ho,h=>by
  have h2:=h.2.2 (by simp)
  have h3:¬ cmpP q p<0:=by simpa using h2
  unfold ins
  rw[if_neg h3]
  by_cases he:cmpP q p=0
  ·rw[if_pos he,if_pos ⟨by simp,by simpa using he⟩]
  ·rw[if_neg he,if_neg (fun⟨_,e⟩=>he (by simpa using e))]
   rfl
 | q :: l,i+1,ho,h=>by
  have hq:cmpP q p<0:=by
   have hi:=h.1
   rw[List.length_cons] at hi
   have h1:=h.2.1 i (by rw[List.length_cons];omega) rfl
   by_cases h0:i=0
   ·subst h0;simpa using h1
   ·have h2:=ho 0 i (by simp) (by rw[List.length_cons];omega) (by omega)
    exact fK (by simpa using h2) (Int.le_of_lt h1)
  have hp:Place p l i:=⟨by have:=h.1;rw[List.length_cons] at this;omega,fun j hj e=>by
   have:=h.2.1 (j+1) (by rw[List.length_cons];omega) (by omega)
   simpa using this,fun hi=>by
   have:=h.2.2 (by rw[List.length_cons];omega)
   simpa using this⟩
  unfold ins
  rw[if_pos hq,re (uH ho) hp]
  by_cases he:∃ h:i<l.length,cmpP l[i] p=0
  ·rw[if_pos he,if_pos (by obtain⟨a,b⟩:=he;exact⟨by rw[List.length_cons];omega,by simpa using b⟩)]
   rfl
  ·rw[if_neg he,if_neg (fun⟨a,b⟩=>he ⟨by rw[List.length_cons] at a;omega,by simpa using b⟩)]
   rfl
theorem pL {p:Pk}:∀ {l r:List Pk},ins p l=some r->∀ x,x∈r↔x=p\/x∈l
 | [],r,h,x=>by cases h;simp
 | q :: l,r,h,x=>by
  unfold ins at h
  split at h
  ·cases hi:ins p l with
   | none=>rw[hi] at h;cases h
   | some s =>
    rw[hi] at h
    cases h
    have:=pL hi x
    simp only[List.mem_cons,this]
    constructor
    ·rintro (h | h | h)
     ·exact Or.inr (Or.inl h)
     ·exact Or.inl h
     ·exact Or.inr (Or.inr h)
    ·rintro (h | h | h)
     ·exact Or.inr (Or.inl h)
     ·exact Or.inl h
     ·exact Or.inr (Or.inr h)
  ·split at h
   ·cases h
   ·cases h;simp
theorem yk {p:Pk}:∀ {l r:List Pk},ins p l=some r->r.length=l.length+1
 | [],r,h=>by cases h;rfl
 | q :: l,r,h=>by
  unfold ins at h
  split at h
  ·cases hi:ins p l with
   | none=>rw[hi] at h;cases h
   | some s=>rw[hi] at h;cases h;simp[yk hi]
  ·split at h
   ·cases h
   ·cases h;simp
theorem m6 {q:Pk}{l:List Pk}(h:Ord l)(hq:∀ x∈l,cmpP q x<0):Ord (q :: l):=fun i j hi hj hij=>by
 cases j with
 | zero=>omega
 | succ j =>
  rw[List.length_cons] at hj
  cases i with
  | zero=>simpa using hq _ (List.getElem_mem (by omega))
  | succ i=>simpa using h i j (by rw[List.length_cons] at hi;omega) (by omega) (by omega)
theorem uI {q:Pk}{l:List Pk}(h:Ord (q :: l)):∀ x∈l,cmpP q x<0:=fun x hx=>by
 obtain⟨i,hi,rfl⟩:=List.mem_iff_getElem.1 hx
 exact h 0 (i+1) (by simp) (by rw[List.length_cons];omega) (by omega)
theorem yl {p:Pk}:∀ {l r:List Pk},Ord l->ins p l=some r->Ord r
 | [],r,_,h=>by
  cases h
  intro i j hi hj hij
  simp at hi hj
  omega
 | q :: l,r,ho,h=>by
  unfold ins at h
  split at h
  ·rename_i hq
   cases hi:ins p l with
   | none=>rw[hi] at h;cases h
   | some s =>
    rw[hi] at h
    cases h
    exact m6 (yl (uH ho) hi) fun x hx=>by
     rcases (pL hi x).1 hx with rfl | hx
     ·exact hq
     ·exact uI ho x hx
  ·rename_i hq
   split at h
   ·cases h
   ·rename_i hz
    cases h
    have hpq:cmpP p q<0:=by have:=cT.1 q p;omega
    exact m6 ho fun x hx=>by
     rcases List.mem_cons.1 hx with rfl | hx
     ·exact hpq
     ·exact fK hpq (Int.le_of_lt (uI ho x hx))
def lineAt (s:List Sz.Fld) (i:Int):Int:=match s[i.toNat]? with
 | some f=>f.line
 | none=>0
def takeL:List (List Sz.Fld)->List Pk->Int × Int × List Pk
 | [],acc=>(0,0,acc)
 | s :: l,acc=>if (fromP s).1≠0 then ((fromP s).1,lineAt s (fromP s).2.1,[]) else match ins (fromP s).2.2 acc with
  | none=>(6,lineAt s 0,[])
  | some r=>takeL l r
def parseR (t:List UInt8):Int × Int × List Pk :=
 if (Sz.parseS t).1≠0 then ((Sz.parseS t).1,(Sz.parseS t).2.1,[]) else if 64<(Sz.parseS t).2.2.length then (4,0,[]) else takeL (Sz.parseS t).2.2 []
theorem ym (ks:List (List UInt8)):∀ (l:List Sz.Fld) (i:Nat) (last:Int),(Sz.ordP ks i last l).2≠0->(i:Int)<=(Sz.ordP ks i last l).1/\(Sz.ordP ks i last l).1<i+l.length
 | [],i,last,h=>by exact absurd rfl h
 | f :: l,i,last,h=>by
  unfold Sz.ordP at h ⊢
  split
  ·simp;omega
  ·split
   ·rename_i h1 h2
    rw[h1] at h
    dsimp only at h
    rw[if_pos h2] at h
    have:=ym ks l (i+1) _ h
    simp only[List.length_cons]
    omega
   ·simp;omega
theorem uJ:∀ (l:List Sz.Fld) (i:Nat) (p:Pk) (j e:Int),readR i p l=.error (j,e)->(i:Int)<=j/\j<i+l.length/\e≠0
 | [],i,p,j,e,h=>by cases h
 | f :: l,i,p,j,e,h=>by
  cases ht:takeR p f.key f.val with
  | ok q =>
   rw[jU ht] at h
   have:=uJ l (i+1) q j e h
   simp only[List.length_cons]
   omega
  | error x =>
   rw[fj ht] at h
   cases h
   exact⟨Int.le_refl _,by simp only[List.length_cons];omega,uB ht⟩
theorem ae1 {s:List Sz.Fld}{k i:Int}{p:Pk}(h:fromP s=(k,i,p))(h0:s≠[]):0<=i/\i<s.length/\(k≠0->p=zeroP):=by
 have hl:0<s.length:=List.length_pos_iff.2 h0
 unfold fromP at h
 cases hr:readP s with
 | ok q=>rw[hr] at h;cases h;exact⟨Int.le_refl _,by omega,fun e=>absurd rfl e⟩
 | error x =>
  obtain⟨j,e⟩:=x
  rw[hr] at h
  cases h
  unfold readP at hr
  split at hr
  ·split at hr
   ·have:=uJ _ _ _ _ _ hr
    exact⟨by omega,by omega,fun _=>rfl⟩
   ·cases hr;exact⟨Int.le_refl _,by omega,fun _=>rfl⟩
  ·rename_i hc
   have:=ym keys6 s 0 (-1) hc
   injection hr with hr
   rw[hr] at this
   exact⟨by simpa using this.1,by simpa using this.2,fun _=>rfl⟩
theorem eY:∀ (ls:List (List UInt8)) (n:Nat) (acc:List (List Sz.Fld)) (last:List Sz.Fld) (k m:Int) (r:List (List Sz.Fld)),Sz.readL n ls acc last=(k,m,r)->(∀ s∈acc,s≠[])->∀ s∈r,s≠[]
 | [],n,acc,last,k,m,r,h,ha=>by
  rw[Sz.qQ] at h
  cases h
  split
  ·exact ha
  ·rename_i hl
   intro s hs
   rcases List.mem_append.1 hs with hs | hs
   ·exact ha s hs
   ·rw[List.mem_singleton.1 hs];intro e;rw[e] at hl;exact hl rfl
 | x :: ls,n,acc,last,k,m,r,h,ha=>by
  rw[Sz.oC] at h
  split at h
  ·split at h
   ·cases h;intro s hs;cases hs
   ·rename_i hc
    refine eY ls _ _ _ k m r h fun s hs=>?_
    rcases List.mem_append.1 hs with hs | hs
    ·exact ha s hs
    ·rw[List.mem_singleton.1 hs];intro e;rw[e] at hc;exact hc rfl
  ·cases hf:Sz.fieldP x n with
   | none=>rw[hf] at h;cases h;intro s hs;cases hs
   | some f =>
    rw[hf] at h
    dsimp only at h
    split at h
    ·cases h;intro s hs;cases hs
    ·exact eY ls _ _ _ k m r h ha
theorem pM (t:List UInt8):∀ s∈(Sz.parseS t).2.2,s≠[]:=by
 obtain⟨X,hX⟩:=ex (Sz.parseS t)
 rw[hX]
 obtain⟨k,m,r⟩:=X
 unfold Sz.parseS at hX
 split at hX
 ·cases hX;intro s hs;cases hs
 ·split at hX
  ·exact eY _ _ _ _ k m r hX (fun s hs=>by cases hs)
  ·cases hX;intro s hs;cases hs
end Rp
section
open Go.RowKit Rs At Pg
theorem Pg.adm {w W1 u:World}{T:TypeId}{a b:Value}(h1:w.alloc (.cells #[a,b] T)=W1)(hb:Below W1.heap.size W1 u):∀ j,2<=j->u.cell? ⟨w.heap.size,j,none⟩=none:=fun j hj=>by
 have e1:u.heap[w.heap.size]?=some (.cells #[a,b] T (0,0)):=(hb.block _ (by rw[<-h1];simp)).trans (by rw[<-h1];exact heap_alloc_new w _)
 simp[World.cell?,e1];omega
def Pg.AtomRet (w:World) (i:Int) (R:Except Int Atm) (e:Ending) (w':World):Prop:=Below w.heap.size w w'/\match R with
 | .ok a=>∃ C m d,e=.returned (.agg #[.string ⟨a.name.toArray⟩,.slice C m d])/\a.rng.length=m/\SRow w' C a.rng
 | .error k=>e=panAt i k
theorem Pg.abq {u:World}{b:Nat}{n:List UInt8}{C:Option Addr}{m d:Nat}{x y:Value}{tmps:Array Value}(k0:u.cell? ⟨b,0,none⟩=some x)(k1:u.cell? ⟨b,1,none⟩=some y)(h:tmps.getD 2 undef=.pointer (some ⟨b,0,none⟩)) :
  (results Tryz.f246 tmps).run Tryz.prog (stA u b n C m d)=.ok (.agg #[.string ⟨n.toArray⟩,.slice C m d]) (stA u b n C m d):=by
 have g0:(stA u b n C m d).cell? ⟨b,0,none⟩=some (.string ⟨n.toArray⟩):=by simp[stA,go_sem,k0]
 have g1:(stA u b n C m d).cell? ⟨b,1,none⟩=some (.slice C m d):=by simp[stA,go_sem,k1]
 have hr:Tryz.f246.results=#[.cell 2 51]:=Tryz.results246
 simp only[results,hr]
 generalize stA u b n C m d=V at *
 simp only[Array.getD_eq_getD_getElem?] at h ⊢
 simp[go_sem,h,g0,g1]
attribute [local go_sem ↓] Go.wp_at_zero Go.wp_at_succ
theorem rU (t:List UInt8)(i:Int)(w:World)(hw:MaxOk w)(ht:t.length<=1000) :
  Calls Tryz.prog 246 #[.agg #[.string ⟨t.toArray⟩,.int .i64 i]] w (Pg.AtomRet w i (atomR t)):=by
 obtain⟨E,hE⟩:=ex (atomR t)
 rw[hE]
 unfold atomR at hE
 obtain⟨V,hV⟩:=ex (w.alloc (.cells #[.string ⟨t.toArray⟩,.int .i64 i] 256))
 obtain⟨U,hU⟩:=ex (V.alloc (.cells #[.string ⟨#[]⟩,.slice none 0 0] 51))
 have ab:Hid (Below w.heap.size w V):=ai hV
 have ac:Hid (Below V.heap.size V U):=ai hU
 have HB:Hid (Below w.heap.size w U):=bt ab.out ac.out
 have HP:=zh (fun W (h:Below U.heap.size U W)=>aD hV (bt ac.out h))
 have HG:=zh (fun W (h:Below U.heap.size U W)=>cY hU h)
 have HN:=zh (fun W (h:Below U.heap.size U W)=>adm hU h)
 have HC:=zh (rI t U (ag hw HB.out) (Nat.le_trans ht (by decide)))
 have ad:Hid (w.heap.size<=V.heap.size):=ab.out.size
 obtain⟨c0,c1⟩:=HP.out _ (Below.refl _ _)
 obtain⟨X,hX⟩:=ex (parseA t)
 rw[hX] at hE HC
 obtain⟨k,nm,l⟩:=X
 dsimp only at hE
 have HE:=zh hE
 clear hE hw ht hX
 go_enter Tryz.func246,Tryz.ntmps246
 go_wp2_with fail
 clear hV hU
 refine HC.out.mono ?_
 rintro _ u ⟨C,m,d,rfl,hm,hr,hb⟩
 have al:=zh hb
 have HM:=zh hm
 have HR:=zh hr
 dsimp only
 clear hb hm hr HC c0 c1
 obtain⟨G,hG⟩:=ex (u.alloc (.cells #[.string ⟨nm.toArray⟩,.slice C m d] 51))
 have ae:Hid (Below u.heap.size u G):=ai hG
 have af:Hid (Below U.heap.size U G):=bt al.out ae.out
 have HQ:=zh (fun W (h:Below G.heap.size G W)=>aD hG h)
 obtain⟨c0,c1⟩:=HP.out _ af.out
 go_wp2_with fail
 clear hG
 refine (dU t i k _).mono ?_
 rintro _ u2 ⟨rfl,hb⟩
 have ah:=zh hb
 have aa:Hid (Below U.heap.size U u2):=bt af.out hb
 clear hb c0 c1
 by_cases h0:k=0
 case neg =>
  rw[ji h0]
  have HF:Hid (E=.error k):=by show _=_;rw[<-HE.out,if_neg h0]
  clear h0
  go_wp2_with fail
  refine⟨rfl,bt HB.out aa.out,?_⟩
  rw[HF.out]
 subst h0
 rw[fB]
 have HF:Hid (E=.ok ⟨nm,l⟩):=by show _=_;rw[<-HE.out];rfl
 obtain⟨p0,p1⟩:=HQ.out _ ah.out
 obtain⟨k0,k1,z0,z1⟩:=HG.out _ aa.out
 have aj:Hid (SRow u2 C l):=ao HR.out (bt ae.out ah.out)
 have ak:=zh (fA aj.out (HN.out _ aa.out))
 go_wp2_with fail
 (try simp only[Exit.inBlock,Exit.then])
 refine bodyPost_ret (abq k0 k1 rfl) rfl ?_
 refine⟨((bt HB.out aa.out).setCell ad.out _).setCell ad.out _,?_⟩
 rw[HF.out]
 exact⟨C,m,d,rfl,HM.out,dA (dA aj.out ak.out) ak.out⟩
theorem jW (s sep:List UInt8)(n:Nat)(w:World)(hm:MaxOk w)(hl:s.length<=900000)(h1:1<=sep.length)(hn:1<=n)(hn2:n<=1000) :
  Calls Tryz.prog 274 #[.string ⟨s.toArray⟩,.string ⟨sep.toArray⟩,.int .i64 n] w fun e w'=>∃ A m c,e=.returned (.slice A m c)/\(Lib.splitN s sep n).length=m/\m<=1000/\Rg.Row encT 1 w' A (Lib.splitN s sep n)/\Below w.heap.size w w':=by
 obtain⟨m,hm⟩:=hm
 refine (Tryz.strings_SplitN ⟨s.toArray⟩ ⟨sep.toArray⟩ n m w (by show s.length<_;omega) hm h1 hn (by omega)).mono ?_
 rintro e w' ⟨rfl,rfl⟩
 have hd:(Lib.splitB ⟨sep.toArray⟩ 0 (min n (s.length+1)-1) ⟨s.toArray⟩).map (·.data.toList)=Lib.splitN s sep n:=Lib.splitB_data _ _ _ _
 have hlen:=Lib.splitB_length_le ⟨sep.toArray⟩ 0 (min n (s.length+1)-1) ⟨s.toArray⟩
 obtain⟨ps,ab⟩:=ex (Lib.splitB ⟨sep.toArray⟩ 0 (min n (s.length+1)-1) ⟨s.toArray⟩)
 have aa:(⟨s.toArray⟩:ByteArray).size=s.length:=by show s.toArray.size=_;simp
 rw[aa]
 rw[ab] at hd hlen ⊢
 rw[<-hd]
 refine⟨_,_,_,rfl,by rw[List.length_map],by omega,fun _=>⟨_,rfl,by simp,fun i hi j v hv=>?_⟩,(Below.refl _ _).alloc (Nat.le_refl _) _⟩
 have hj:j=0:=by have h:=(List.getElem?_eq_some_iff.1 hv).1;simp only[encT,List.length_cons,List.length_nil] at h;omega
 subst hj
 rw[List.length_map] at hi
 rw[if_pos rfl,Nat.mul_one]
 have ha:(⟨w.heap.size,0,none⟩:Addr).add i=⟨w.heap.size,i,none⟩:=by unfold Addr.add;split <;> simp_all
 rw[ha,cell_of_row _ w.heap.size i _ _ (0,0) (heap_alloc_new w _)]
 rw[List.getElem_map] at hv
 unfold Lib.cellsOf
 rw[List.getElem?_toArray,List.getElem?_append_left (by rw[List.length_map];exact hi),List.getElem?_map,List.getElem?_eq_getElem hi]
 exact hv
theorem Pg.sliceA:Rg.SliceT Tryz.prog encA 2 65 51:=⟨fitsA,by decide,by kernel_rfl,Rg.b8 (z:=.agg #[.string ByteArray.empty,.slice none 0 0]) (b:=40) (by kernel_rfl) (by rfl) (by decide)⟩
theorem Pg.rf:∀ i,Tryz.prog.info? 51=some i->∀ z,i.zero=some z->∀ u∈z.cells,NoB u:=lP (z0:=.agg #[.string ByteArray.empty,.slice none 0 0]) (by kernel_rfl) (fun u hu b e=>by subst e;simp[Value.cells] at hu)
theorem Pg.uK:∀ x:AtD,∀ u∈encA x,NoB u:=fun x u hu b e=>by subst e;simp[encA] at hu
def Pg.AOwn (w:World) (B:Nat) (T:TypeId) (v:Value) (ds:List AtD) (l:List Atm):Prop:=Rg.Own encA 2 w B T v ds/\AIn w ds l/\Pure NoB w v
theorem Pg.uL (w:World)(B:Nat)(T:TypeId):AOwn w B T (.slice none 0 0) [] []:=⟨Rg.aB _ _ _,⟨rfl,fun i d a h=>by simp at h⟩,pure_nil _ _⟩
theorem Pg.cC {w w':World}{B:Nat}{T:TypeId}{v:Value}{ds:List AtD}{l:List Atm}(h:AOwn w B T v ds l)(hb:Below w.heap.size w w'):AOwn w' B T v ds l:=⟨Rg.own_below h.1 hb,qL h.2.1 hb,c8 h.2.2 h.1 hb⟩
theorem Pg.adn {w:World}{ds:List AtD}{l:List Atm}{d:AtD}{a:Atm}(h:AIn w ds l)(h1:d.1=a.name)(h2:d.2.2.1=a.rng.length)(h3:SRow w d.2.1 a.rng):AIn w (ds++[d]) (l++[a]):=by
 refine⟨by rw[List.length_append,List.length_append,h.1];rfl,fun i x y e1 e2=>?_⟩
 rcases aU e1 with⟨q1,q2⟩ | ⟨q1,q2⟩
 ·rcases aU e2 with⟨_,p2⟩ | ⟨p1,_⟩
  ·exact h.2 i x y q2 p2
  ·have:=h.1;omega
 ·rcases aU e2 with⟨p1,_⟩ | ⟨_,p2⟩
  ·have:=h.1;omega
  ·subst q2 p2;exact⟨h1,h2,h3⟩
theorem Pg.uM {w w':World}{B:Nat}{T:TypeId}{v v':Value}{ds:List AtD}{l:List Atm}{C:Option Addr}{m c:Nat}{a:Atm}(h:AOwn w B T v ds l)(hr:SRow w C a.rng)(hm:a.rng.length=m)(ho:Rg.Own encA 2 w' B T v' (ds++[(a.name,C,m,c)]))(hp:Pure NoB w' v')(hg:w.grownBy w' v.ownBlock):AOwn w' B T v' (ds++[(a.name,C,m,c)]) (l++[a]):=by
 have hb:But v.ownBlock w w':=dD hg
 refine⟨ho,adn (pI h.2.1 hb h.2.2) rfl hm.symm (uz hr hb fun h0 q hq e=>?_),hp⟩
 cases hv:v.ownBlock with
 | none=>rw[hv] at e;cases e
 | some g=>rw[hv] at e;exact m4 hr (h.2.2 g hv) h0 q hq e
theorem Pg.uN {w:World}{B:Nat}{T:TypeId}{v:Value}{ds:List AtD}{l:List Atm}(h:AOwn w B T v ds l):∃ A c,v=.slice A l.length c/\ARow w A l/\∀ a,A=some a->B<=a.block:=by
 obtain⟨A,c,hv,hr,_,_⟩:=Rg.aF fitsA h.1
 rw[h.2.1.1] at hv
 exact⟨A,c,hv,⟨ds,hr,h.2.1⟩,fun a ha=>by subst ha;exact (Rg.bw h.1 a.block (by rw[hv];rfl)).1⟩
def Pg.Fit (sep t:List UInt8):Prop:=t.length<=200000/\∀ p∈Lib.split t sep,p.length<=1000
theorem Pg.k9 {sep t:List UInt8}(h:t.length<=1000):Fit sep t:=⟨by omega,fun p hp=>Nat.le_trans (c6 sep _ t p hp) h⟩
def Pg.ValFit (key t:List UInt8):Prop:=(key=kDep->t.length<=200000/\∀ p∈Lib.split t semi,Fit orT p)/\(key=kCon->Fit semi t)/\(key=kPro->Fit semi t)/\(key≠kDep->key≠kCon->key≠kPro->t.length<=1000)
theorem Pg.uO {key t:List UInt8}(h:t.length<=1000):ValFit key t:=⟨fun _=>⟨by omega,fun p hp=>k9 (Nat.le_trans (c6 semi _ t p hp) h)⟩,fun _=>k9 h,fun _=>k9 h,fun _ _ _=>h⟩
def Pg.PartsRet {β:Type} (M:World->Option Addr->List β->Prop) (w:World) (i:Int) (R:Except Int (List β)) (e:Ending) (w':World):Prop:=Below w.heap.size w w'/\match R with
 | .ok l=>∃ A n c,e=.returned (.slice A n c)/\l.length=n/\M w' A l/\∀ a,A=some a->w.heap.size<=a.block
 | .error k=>e=panAt i k
theorem jl (t sep:List UInt8)(i:Int)(most:Nat)(w:World)(hw:MaxOk w)(ht:Fit sep t)(h1:1<=sep.length)(hmo:most<=100) :
  Calls Tryz.prog 245 #[.agg #[.string ⟨t.toArray⟩,.int .i64 i],.string ⟨sep.toArray⟩,.int .i64 most,.func (.func 246) #[] #[]] w (Pg.PartsRet ARow w i (partsR atomR sep most t)):=by
 obtain⟨R,hR⟩:=ex (partsR atomR sep most t)
 rw[hR]
 unfold partsR at hR
 obtain⟨V,hV⟩:=ex (w.alloc (.cells #[.string ⟨t.toArray⟩,.int .i64 i] 256))
 have HB:Hid (Below w.heap.size w V):=ai hV
 have HP:=zh (fun W (h:Below V.heap.size V W)=>aD hV h)
 have HM:=zh (fun W (h:Below V.heap.size V W)=>ag (ag hw HB.out) h)
 have HC:Hid (Calls Tryz.prog 274 #[.string ⟨t.toArray⟩,.string ⟨sep.toArray⟩,.int .i64 ((most:Int)+1)] V fun e w'=>∃ A m c,e=.returned (.slice A m c)/\(Lib.splitN t sep (most+1)).length=m/\m<=1000/\Rg.Row encT 1 w' A (Lib.splitN t sep (most+1))/\Below V.heap.size V w') :=
  jW t sep (most+1) V (HM.out _ (Below.refl _ _)) (Nat.le_trans ht.1 (by decide)) h1 (by omega) (by omega)
 have ar:∀ p∈Lib.split t sep,p.length<=1000:=ht.2
 obtain⟨f1,f2⟩:=jT (s:=t) (sep:=sep) (fun e=>by rw[e] at h1;simp at h1) most
 obtain⟨ps,aF⟩:=ex (Lib.split t sep)
 obtain⟨qs,aG⟩:=ex (Lib.splitN t sep (most+1))
 rw[aF] at hR f1 f2 ar
 rw[aG] at f1 f2 HC
 have iw:IntKind.i64.wrap ((most:Int)+1)=(most:Int)+1:=IntWalk.i64_in _ (by omega)
 obtain⟨c0,c1⟩:=HP.out _ (Below.refl _ _)
 have HR:=zh hR
 have au:=zh f1
 have aB:=zh f2
 have aL:=zh ar
 clear hw hR ar f1 f2 aF aG
 go_enter Tryz.func245,Tryz.ntmps245
 go_wp2_with fail
 clear hV
 refine HC.out.mono ?_
 rintro _ z1 ⟨A,n,c,rfl,hn,aU,am,aH⟩
 have HN:=zh hn
 have ac:=zh am
 have an:=zh aH
 clear hn am aH HC c0 c1 iw
 obtain⟨c0,c1⟩:=HP.out _ an.out
 by_cases ae:n<=most
 case neg =>
  have av:Hid (R=.error 4):=by
   show _=_
   rw[<-HR.out,if_neg]
   intro hh
   have:=au.out hh
   rw[this] at HN
   have:=HN.out
   omega
  have d0:decide (n<=most)=false:=decide_eq_false ae
  clear ae
  go_wp2_with fail
  refine (aW t i false 4 _).mono ?_
  rintro _ u ⟨rfl,hb⟩
  have HU:Hid (Below w.heap.size w u):=HB.out.trans ((bt an.out hb).mono HB.out.size)
  clear hb
  go_wp2_with fail
  exact⟨rfl,HU.out,by rw[av.out]⟩
 have aM:qs=ps:=by
  rcases Nat.lt_or_ge most ps.length with h | h
  ·have:=aB.out h
   have:=HN.out
   omega
  ·exact au.out h
 subst aM
 have av:Hid (rdL atomR [] qs=R):=by
  show _=_
  rw[<-HR.out,if_pos (by rw[HN.out];exact ae)]
 have d0:decide (n<=most)=true:=decide_eq_true ae
 clear ae au aB HR
 go_wp2_with fail
 refine (aW t i true 4 _).mono ?_
 rintro _ z2 ⟨rfl,hb⟩
 have aw:Hid (Below V.heap.size V z2):=bt an.out hb
 have af:=zh (Rg.aj ac.out hb)
 clear hb ac d0 c0 c1 an
 go_wp2_with fail
 go_loopw [10,27] (fun v i wr=>∃ (k:Nat) (acc:List Atm) (ds:List AtD),k<=n/\i=.int .i64 k/\Hid (AOwn wr z2.heap.size 51 v ds acc)/\Hid (Below z2.heap.size z2 wr/\z2.heap.size<=wr.heap.size)/\Hid (acc.length=k)/\Hid (rdL atomR acc (qs.drop k)=R)) (fun _ i _=>n-(intOf i).toNat)
 case atStart=>exact⟨0,[],[],Nat.zero_le _,rfl,uL _ _ _,⟨Below.refl _ _,Nat.le_refl _⟩,rfl,by show rdL _ _ (qs.drop 0)=R;rw[List.drop_zero,av.out]⟩
 case round =>
  obtain⟨k,acc,ds,hk,rfl,HO,ab,HA,HE⟩:=hrel
  have ah:Hid (Below V.heap.size V wr):=aw.out.trans (ab.out.1.mono aw.out.size)
  by_cases aC:k<n
  ·have aE:=zh aC
   have ax:k<qs.length:=by rw[HN.out];exact aC
   obtain⟨ad,rfl,_,q0⟩:=dP (Rg.aj af.out ab.out.1) k ax
   have ap:=aL.out _ (List.getElem_mem ax)
   have he:=HE.out
   rw[List.drop_eq_getElem_cons ax] at he
   obtain⟨p,hp⟩:=ex (qs[k])
   rw[hp] at ap he q0
   have aN:Hid (ds.length+1<=1000000):=by have h1:=HA.out;have h2:=HO.out.2.1.1;show _<=_;omega
   have aq:=zh (rU p i wr (HM.out _ ah.out) ap)
   obtain⟨c0,c1⟩:=HP.out _ ah.out
   obtain⟨E,hE⟩:=ex (atomR p)
   rw[hE] at aq
   cases E with
   | error e =>
    have ak:Hid (R=.error e):=by show _=_;rw[<-he];exact eu hE
    clear he hp ap hE
    go_wp2_with fail
    refine aq.out.mono ?_
    rintro e z3 ⟨hb,rfl⟩
    have aa:Hid (Below w.heap.size w z3):=HB.out.trans ((bt ah.out hb).mono HB.out.size)
    clear hb
    go_wp2_with fail
    exact⟨rfl,aa.out,by rw[ak.out]⟩
   | ok a =>
    have aO:Hid (rdL atomR (acc++[a]) (qs.drop (k+1))=R):=by show _=_;rw[<-he];exact (jk hE).symm
    clear he hp ap hE
    go_wp2_with fail
    refine aq.out.mono ?_
    rintro e z3 ⟨hb,C,m,d,rfl,hm,hr⟩
    have aa:=zh hb
    have aP:=zh hm
    have ak:=zh hr
    clear hb hm hr c0 c1 q0 aq
    go_wp2_with (at_builtin;refine Pg.dq sliceA rf uK rfl (.tmp 31) (.tmp 38) rfl z2.heap.size _ ds [(a.name,C,m,d)] rfl (cC HO.out (aa.out.alloc aa.out.size _)).1 (cC HO.out (aa.out.alloc aa.out.size _)).2.2 _ _ rfl (Rg.az z3 _ _ _ (by rfl)) (Nat.zero_lt_succ _) aN.out ?b2 ?_)
    case b2=>have:=ab.out.2;have:=aa.out.size;simp;omega
    intro v5 W5 aI aJ ay aT
    have al:Below wr.heap.size wr (z3.alloc (.cells #[.string ⟨a.name.toArray⟩,.slice C m d] 51)):=aa.out.alloc aa.out.size _
    have aQ:=zh (uM (cC HO.out al) (ao ak.out ((Below.refl _ _).alloc (Nat.le_refl _) _)) aP.out aI aJ ay)
    have aR:Hid (Below z2.heap.size z2 W5/\z2.heap.size<=W5.heap.size):=by
     have h2:=ab.out.1.trans ((al.mono ab.out.2).trans (Rg.aA (cC HO.out al).1 (Nat.le_trans ab.out.2 al.size) ay))
     exact⟨h2,h2.size⟩
    clear aI aJ ay aT al HO aa ab ah
    go_wp2_with fail
    go_roundw
    case rel=>exact⟨k+1,acc++[a],_,(by have:=aE.out;omega),by go_num,aQ,aR,by show (acc++[a]).length=_;rw[List.length_append,HA.out];rfl,aO⟩
    case measure=>have:=aE.out;simp[intOf];omega
  ·obtain rfl:k=n:=by omega
   have ak:Hid (R=.ok acc):=by show _=_;rw[<-HE.out,List.drop_eq_nil_of_le (by rw[HN.out];exact Nat.le_refl _)];rfl
   obtain⟨C,d,rfl,aK,hf⟩:=uN HO.out
   have aS:=zh aK
   have HF:=zh hf
   clear aK hf
   go_wp2_with fail
   go_ret
   refine⟨bt HB.out ah.out,?_⟩
   rw[ak.out]
   exact⟨C,_,d,rfl,rfl,aS.out,fun a ha=>Nat.le_trans (Nat.le_trans HB.out.size aw.out.size) (HF.out a ha)⟩
end
end Go.Proofs.YtgnaiidgjmicaaaGreatDoor

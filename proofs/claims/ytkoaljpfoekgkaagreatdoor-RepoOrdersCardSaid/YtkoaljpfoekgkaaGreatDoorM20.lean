/- Part 20 of what the laws lean on. -/
import Derived.Test.YtkoaljpfoekgkaaGreatDoorM19
namespace Go.Proofs.YtkoaljpfoekgkaaGreatDoor
section
open Go.RowKit Rs At Pg
namespace Pg
theorem ix {p:Pk}(h:checkP p=0):nameB p.name=true/\verE p.ver=0/\p.deps.length<=16/\depsE p.deps=0/\p.confl.length<=16/\atomsE p.confl=0/\p.prov.length<=16/\givesE p.prov=0/\chkW p.wt=0:=by
 unfold checkP at h
 by_cases h1:nameB p.name=false
 ·rw[if_pos h1] at h;cases h
 rw[if_neg h1] at h
 by_cases h2:verE p.ver≠0
 ·rw[if_pos h2] at h;exact absurd h h2
 rw[if_neg h2] at h
 by_cases h3:16<p.deps.length
 ·rw[if_pos h3] at h;cases h
 rw[if_neg h3] at h
 by_cases h4:depsE p.deps≠0
 ·rw[if_pos h4] at h;exact absurd h h4
 rw[if_neg h4] at h
 by_cases h5:16<p.confl.length
 ·rw[if_pos h5] at h;cases h
 rw[if_neg h5] at h
 by_cases h6:atomsE p.confl≠0
 ·rw[if_pos h6] at h;exact absurd h h6
 rw[if_neg h6] at h
 by_cases h7:16<p.prov.length
 ·rw[if_pos h7] at h;cases h
 rw[if_neg h7] at h
 by_cases h8:givesE p.prov≠0
 ·rw[if_pos h8] at h;exact absurd h h8
 rw[if_neg h8] at h
 refine⟨?_,Decidable.not_not.1 h2,by omega,Decidable.not_not.1 h4,by omega,Decidable.not_not.1 h6,by omega,Decidable.not_not.1 h8,h⟩
 cases hb:nameB p.name
 ·exact absurd hb h1
 ·rfl
theorem eG:∀ {l:List Atm},atomsE l=0->∀ a∈l,checkA a=0
 | [],_,a,ha=>by cases ha
 | b :: l,h,a,ha=>by
  unfold atomsE at h
  by_cases h1:checkA b=0
  ·rw[if_pos h1] at h
   rcases List.mem_cons.1 ha with rfl | ha
   ·exact h1
   ·exact eG h a ha
  ·rw[if_neg h1] at h;exact absurd h h1
theorem dz:∀ {l:List Gv},givesE l=0->∀ a∈l,giveE a=0
 | [],_,a,ha=>by cases ha
 | b :: l,h,a,ha=>by
  unfold givesE at h
  by_cases h1:giveE b=0
  ·rw[if_pos h1] at h
   rcases List.mem_cons.1 ha with rfl | ha
   ·exact h1
   ·exact dz h a ha
  ·rw[if_neg h1] at h;exact absurd h h1
theorem fW:∀ {l:List (List Atm)},depsE l=0->∀ d∈l,1<=d.length/\d.length<=8/\atomsE d=0
 | [],_,a,ha=>by cases ha
 | b :: l,h,a,ha=>by
  unfold depsE at h
  by_cases h1:1<=b.length/\b.length<=8
  ·rw[if_pos h1] at h
   by_cases h2:atomsE b=0
   ·rw[if_pos h2] at h
    rcases List.mem_cons.1 ha with rfl | ha
    ·exact⟨h1.1,h1.2,h2⟩
    ·exact fW h a ha
   ·rw[if_neg h2] at h;exact absurd h h2
  ·rw[if_neg h1] at h;cases h
theorem eH {v:List UInt8}(h:verE v=0):Vm.check v=0/\Vm.canon v=v:=by
 unfold verE at h
 split at h
 ·rename_i h1
  split at h
  ·rename_i h2;exact⟨h1,h2⟩
  ·cases h
 ·rename_i h1;exact absurd h h1
theorem km {g:Gv}(h:giveE g=0):nameB g.name=true/\(g.ver=[]\/verE g.ver=0):=by
 unfold giveE at h
 split at h
 ·rename_i h1
  split at h
  ·rename_i h2;exact⟨h1,Or.inl h2⟩
  ·exact⟨h1,Or.inr h⟩
 ·cases h
theorem uW {B:Nat}:∀ (l:List (List UInt8)),(∀ x∈l,x.length<=B)->Lib.lens l<=l.length*B
 | [],_=>by simp[Lib.lens]
 | x :: l,h=>by
  have h1:=uW l (fun y hy=>h y (List.mem_cons_of_mem _ hy))
  have h2:=h x (List.mem_cons_self ..)
  have e:Lib.lens (x :: l)=x.length+Lib.lens l:=by simp[Lib.lens]
  rw[e,List.length_cons,Nat.add_mul]
  omega
theorem join_le {B:Nat}(l:List (List UInt8))(sep:List UInt8)(h:∀ x∈l,x.length<=B):(Lib.join l sep).length<=l.length*(B+sep.length):=by
 cases l with
 | nil=>simp[Lib.join_nil]
 | cons x r =>
  rw[Lib.join_length]
  have h1:=uW (x :: r) h
  have h2:sep.length*r.length<=(r.length+1)*sep.length:=by rw[Nat.mul_comm];exact Nat.mul_le_mul_right _ (Nat.le_succ _)
  rw[List.length_cons] at h1 ⊢
  rw[Nat.mul_add]
  omega
theorem uX {l:List Atm}(h:atomsE l=0):ATxt l:=fun a ha=>by
 obtain⟨h1,h2,_⟩:=gl (eG h a ha)
 exact⟨Nat.le_trans (dI h1) (by decide),qS h2,h2⟩
theorem uY {l:List Atm}(h:atomsE l=0):AFew l:=fun a ha=>by
 obtain⟨h1,h2,_⟩:=gl (eG h a ha)
 exact⟨Nat.le_trans (dI h1) (by decide),Nat.le_trans (qS h2) (by decide)⟩
theorem rJ {l:List Atm}(h:atomsE l=0):∀ x∈l.map textA,x.length<=1000:=fun x hx=>by
 obtain⟨a,ha,rfl⟩:=List.mem_map.1 hx
 exact jO (eG h a ha)
theorem uZ {d:List Atm}(h:atomsE d=0)(hl:d.length<=8):(depT d).length<=8032:=by
 have h1:=join_le (d.map textA) orT (rJ h)
 rw[List.length_map] at h1
 have h2:d.length*(1000+orT.length)<=8*1004:=Nat.mul_le_mul_right _ hl
 exact Nat.le_trans h1 h2
theorem aaM {p:Pk}(h:depsE p.deps=0)(hl:p.deps.length<=16):(depsT p).length<=128544:=by
 have h1:=join_le (B:=8032) (p.deps.map depT) semi (fun x hx=>by
  obtain⟨d,hd,rfl⟩:=List.mem_map.1 hx
  obtain⟨_,q1,q2⟩:=fW h d hd
  exact uZ q2 q1)
 rw[List.length_map] at h1
 have h2:p.deps.length*(8032+semi.length)<=16*8034:=Nat.mul_le_mul_right _ hl
 exact Nat.le_trans h1 h2
theorem yy {p:Pk}(h:atomsE p.confl=0)(hl:p.confl.length<=16):(conflT p).length<=16032:=by
 have h1:=join_le (p.confl.map textA) semi (rJ h)
 rw[List.length_map] at h1
 have h2:p.confl.length*(1000+semi.length)<=16*1002:=Nat.mul_le_mul_right _ hl
 exact Nat.le_trans h1 h2
theorem ng {g:Gv}(h:giveE g=0):g.name.length<=24/\g.ver.length<=40/\(gvT g).length<=67:=by
 obtain⟨h1,h2⟩:=km h
 have hn:=dI h1
 have hv:g.ver.length<=40:=by
  rcases h2 with h2 | h2
  ·rw[h2];exact Nat.zero_le _
  ·exact (Vm.cG (eH h2).1).1
 refine⟨hn,hv,?_⟩
 unfold gvT
 split
 ·omega
 ·simp only[List.length_append,List.length_cons,List.length_nil];omega
theorem acy {l:List Gv}(h:givesE l=0):GTxt l:=fun g hg=>by
 obtain⟨h1,h2,_⟩:=ng (dz h g hg)
 exact⟨by omega,by omega⟩
theorem aaN {p:Pk}(h:givesE p.prov=0)(hl:p.prov.length<=16):(provT p).length<=1104:=by
 have h1:=join_le (B:=67) (p.prov.map gvT) semi (fun x hx=>by
  obtain⟨d,hd,rfl⟩:=List.mem_map.1 hx
  exact (ng (dz h d hd)).2.2)
 rw[List.length_map] at h1
 have h2:p.prov.length*(67+semi.length)<=16*69:=Nat.mul_le_mul_right _ hl
 exact Nat.le_trans h1 h2
theorem jw {p:Pk}(h:checkP p=0)(hw:p.wt<Wm.W):PTxt p:=by
 obtain⟨h1,h2,h3,h4,h5,h6,h7,h8,h9⟩:=ix h
 have hv:=(Vm.cG (eH h2).1).1
 have hn:=dI h1
 refine⟨by omega,by omega,by omega,fun d hd=>?_,Nat.le_trans (aaM h4 h3) (by decide),by omega,uX h6,Nat.le_trans (yy h6 h5) (by decide),by omega,acy h8,Nat.le_trans (aaN h8 h7) (by decide),hw⟩
 obtain⟨_,q1,q2⟩:=fW h4 d hd
 exact⟨by omega,uX q2,Nat.le_trans (uZ q2 q1) (by decide)⟩
theorem yz {p:Pk}(h:checkP p=0)(hw:p.wt<Wm.W):PFew p:=by
 obtain⟨h1,h2,h3,h4,h5,h6,h7,h8,h9⟩:=ix h
 have hn:=dI h1
 refine⟨Nat.le_trans hn (by decide),by omega,fun d hd=>?_,by omega,uY h6,by omega,fun g hg=>?_,hw⟩
 ·obtain⟨_,q1,q2⟩:=fW h4 d hd
  exact⟨by omega,uY q2⟩
 ·obtain⟨q1,q2,_⟩:=ng (dz h8 g hg)
  exact⟨Nat.le_trans q1 (by decide),Nat.le_trans q2 (by decide)⟩
theorem kn {p:Pk}(h:checkP p=0):Vm.check p.ver=0/\∀ g∈p.prov,g.ver=[]\/Vm.check g.ver=0:=by
 obtain⟨h1,h2,h3,h4,h5,h6,h7,h8,h9⟩:=ix h
 refine⟨(eH h2).1,fun g hg=>?_⟩
 obtain⟨_,q⟩:=km (dz h8 g hg)
 exact q.imp id fun q=>(eH q).1
end Pg
end
namespace Rp
open Go.RowKit Rs At Pg
structure PD where
 nm:List UInt8
 vr:List UInt8
 D:Desc
 C:Desc
 G:Desc
 wt:Nat
def encP (d:PD):List Value:=[.string ⟨d.nm.toArray⟩,.string ⟨d.vr.toArray⟩,.slice d.D.1 d.D.2.1 d.D.2.2,.slice d.C.1 d.C.2.1 d.C.2.2,.slice d.G.1 d.G.2.1 d.G.2.2,.float .f64 d.wt]
theorem fitsP:Rg.Fits encP 6:=⟨fun _=>rfl,fun x u hu=>by
 simp only[encP,List.mem_cons,List.not_mem_nil,or_false] at hu
 rcases hu with rfl | rfl | rfl | rfl | rfl | rfl <;> rfl⟩
def POne (w:World) (d:PD) (p:Pk):Prop:=d.nm=p.name/\d.vr=p.ver/\d.D.2.1=p.deps.length/\d.C.2.1=p.confl.length/\d.G.2.1=p.prov.length/\d.wt=p.wt/\Pg.DRow w d.D.1 p.deps/\ARow w d.C.1 p.confl/\GRow w d.G.1 p.prov
def PIn (w:World) (ds:List PD) (l:List Pk):Prop:=ds.length=l.length/\∀ (i:Nat) (d:PD) (p:Pk),ds[i]?=some d->l[i]?=some p->POne w d p
def RRow (w:World) (A:Option Addr) (l:List Pk):Prop:=∃ ds,Rg.Row encP 6 w A ds/\PIn w ds l
theorem wz {w w':World}{d:PD}{p:Pk}(h:POne w d p)(hb:Below w.heap.size w w'):POne w' d p:=by
 obtain⟨h1,h2,h3,h4,h5,h6,h7,h8,h9⟩:=h
 exact⟨h1,h2,h3,h4,h5,h6,aX h7 hb,aB h8 hb,Rg.ah h9 hb⟩
theorem yA {w w':World}{ds:List PD}{l:List Pk}(h:PIn w ds l)(hb:Below w.heap.size w w'):PIn w' ds l:=⟨h.1,fun i d p h1 h2=>wz (h.2 i d p h1 h2) hb⟩
theorem bH {w w':World}{A:Option Addr}{l:List Pk}(h:RRow w A l)(hb:Below w.heap.size w w'):RRow w' A l:=by
 obtain⟨ds,h1,h2⟩:=h
 exact⟨ds,Rg.ah h1 hb,yA h2 hb⟩
theorem bn {w:World}{A:Option Addr}{l:List Pk}(h:RRow w A l)(k:Nat)(hk:k<l.length):∃ ad D dc C cc G gc,A=some ad/\Pg.DRow w D l[k].deps/\ARow w C l[k].confl/\GRow w G l[k].prov/\∀ u,Below w.heap.size w u->u.cell? (ad.add (k*6))=some (.string ⟨l[k].name.toArray⟩)/\u.cell? ⟨(ad.add (k*6)).block,(ad.add (k*6)).off+1,none⟩=some (.string ⟨l[k].ver.toArray⟩)/\u.cell? ⟨(ad.add (k*6)).block,(ad.add (k*6)).off+2,none⟩=some (.slice D l[k].deps.length dc)/\u.cell? ⟨(ad.add (k*6)).block,(ad.add (k*6)).off+3,none⟩=some (.slice C l[k].confl.length cc)/\u.cell? ⟨(ad.add (k*6)).block,(ad.add (k*6)).off+4,none⟩=some (.slice G l[k].prov.length gc)/\u.cell? ⟨(ad.add (k*6)).block,(ad.add (k*6)).off+5,none⟩=some (.float .f64 l[k].wt):=by
 obtain⟨ds,h1,h2,h3⟩:=h
 have aa:k<ds.length:=by omega
 obtain⟨ad,e,_,_⟩:=h1 (by omega)
 obtain⟨q0,q1,q2,q3,q4,q5,q6,q7,q8⟩:=h3 k ds[k] l[k] (List.getElem?_eq_getElem aa) (List.getElem?_eq_getElem hk)
 refine⟨ad,ds[k].D.1,ds[k].D.2.2,ds[k].C.1,ds[k].C.2.2,ds[k].G.1,ds[k].G.2.2,e,q6,q7,q8,fun u hb=>?_⟩
 obtain⟨ab,x,e',hx,_,hc⟩:=Rg.bO (Rg.ah h1 hb) k aa
 rw[e] at e';cases e'
 subst hx
 rw[<-q0,<-q1,<-q2,<-q3,<-q4,<-q5]
 exact⟨hc 0 _ rfl,hc 1 _ rfl,hc 2 _ rfl,hc 3 _ rfl,hc 4 _ rfl,hc 5 _ rfl⟩
def RFew (l:List Pk):Prop:=∀ p∈l,PFew p
theorem nh {l:List Pk}(h:RFew l)(k:Nat)(hk:k<l.length):PFew l[k]:=h _ (List.getElem_mem hk)
def cmpP (p q:Pk):Int:=Vm.both (Lib.compareBytes p.name q.name) (Vm.cmpV p.ver q.ver)
def chkF:Nat->Option Pk->List Pk->Int × Int
 | _,_,[]=>(0,0)
 | i,o,p :: l=>if checkP p≠0 then (i,checkP p) else match o with
  | none=>chkF (i+1) (some p) l
  | some q=>if cmpP q p=0 then (i,6) else if 0<cmpP q p then (i,7) else chkF (i+1) (some p) l
def chkR (l:List Pk):Int × Int:=if 64<l.length then (0,4) else chkF 0 none l
def prevP (l:List Pk) (k:Nat):Option Pk:=if k=0 then none else l[k-1]?
theorem om {l:List Pk}{k:Nat}(hk:k<l.length):prevP l (k+1)=some l[k]:=by
 unfold prevP
 rw[if_neg (by omega),Nat.add_sub_cancel,List.getElem?_eq_getElem hk]
theorem ads {l:List Pk}{k:Nat}{R:Int × Int}(hk:k<l.length)(h:chkF k (prevP l k) (l.drop k)=R) :
  (checkP l[k]≠0->R=((k:Int),checkP l[k]))/\(checkP l[k]=0->k=0->chkF (k+1) (prevP l (k+1)) (l.drop (k+1))=R) /\
  (checkP l[k]=0->∀ (p:Nat) (hp:p<l.length),p+1=k->(cmpP l[p] l[k]=0->R=((k:Int),6))/\(cmpP l[p] l[k]≠0->0<cmpP l[p] l[k]->R=((k:Int),7))/\(cmpP l[p] l[k]≠0->¬ 0<cmpP l[p] l[k]->chkF (k+1) (prevP l (k+1)) (l.drop (k+1))=R)):=by
 rw[List.drop_eq_getElem_cons hk] at h
 rw[om hk]
 unfold chkF at h
 by_cases hc:checkP l[k]=0
 ·rw[if_neg (fun e=>e hc)] at h
  refine⟨fun e=>absurd hc e,fun _ h0=>?_,fun _ p hp hpk=>?_⟩
  ·unfold prevP at h
   rw[if_pos h0] at h
   exact h
  ·have e:prevP l k=some l[p]:=by rw[<-hpk];exact om hp
   rw[e] at h
   dsimp only at h
   refine⟨fun h0=>?_,fun h0 h1=>?_,fun h0 h1=>?_⟩
   ·rw[if_pos h0] at h;exact h.symm
   ·rw[if_neg h0,if_pos h1] at h;exact h.symm
   ·rw[if_neg h0,if_neg h1] at h;exact h
 ·rw[if_pos hc] at h
  exact⟨fun _=>h.symm,fun e=>absurd e hc,fun e=>absurd e hc⟩
def okRp (i:Int) (k:Int):Ending:=if k=0 then .returned (.tuple #[]) else panAt i k
def okR (n:Nat) (R:Int × Int):Ending:=if 64<n then pan 4 else okRp R.1 R.2
theorem fp {p:Pk}(h:checkP p=0):Vm.check p.ver=0:=(kn h).1
end Rp
section
open Go.RowKit Rs At Pg
namespace Pg
theorem yB {s m:List UInt8}(hm:m≠[]):1<=(Lib.split s m).length:=by
 unfold Lib.split
 rw[(dy hm _ _ s rfl).2];omega
theorem oo {β:Type}{rd:List UInt8->Except Int β}{Q:β->Prop}(hr:∀ t x,rd t=.ok x->Q x):∀ (l:List (List UInt8)) (acc r:List β),rdL rd acc l=.ok r->(∀ x∈acc,Q x)->∀ x∈r,Q x
 | [],acc,r,h,ha=>by cases h;exact ha
 | t :: l,acc,r,h,ha=>by
  cases ht:rd t with
  | error e=>rw[dp ht] at h;cases h
  | ok x =>
   rw[gO ht] at h
   refine oo hr l _ r h fun y hy=>?_
   rcases List.mem_append.1 hy with hy | hy
   ·exact ha y hy
   ·rw[List.mem_singleton.1 hy];exact hr t x ht
theorem dA {β:Type}{rd:List UInt8->Except Int β}{Q:β->Prop}(hr:∀ t x,rd t=.ok x->Q x){sep t:List UInt8}(hs:sep≠[]){most:Nat}{r:List β}(h:partsR rd sep most t=.ok r):1<=r.length/\r.length<=most/\∀ x∈r,Q x:=by
 unfold partsR at h
 split at h
 ·rename_i hl
  have h1:=uS _ _ _ h
  have h2:=yB (s:=t) hs
  rw[List.length_nil,Nat.zero_add] at h1
  exact⟨by omega,by omega,oo hr _ _ _ h (by simp)⟩
 ·cases h
theorem oq {t:List UInt8}{a:Atm}(h:atomR t=.ok a):checkA a=0:=by
 unfold atomR at h
 split at h
 ·rename_i h0
  cases h
  exact tr (s:=t) (Prod.ext h0 rfl)
 ·cases h
theorem jx:∀ {l:List Atm},(∀ a∈l,checkA a=0)->atomsE l=0
 | [],_=>rfl
 | a :: l,h=>by
  unfold atomsE
  rw[if_pos (h a (by simp))]
  exact jx fun x hx=>h x (by simp[hx])
theorem ot:∀ {l:List Gv},(∀ a∈l,giveE a=0)->givesE l=0
 | [],_=>rfl
 | a :: l,h=>by
  unfold givesE
  rw[if_pos (h a (by simp))]
  exact ot fun x hx=>h x (by simp[hx])
theorem rK:∀ {l:List (List Atm)},(∀ d∈l,1<=d.length/\d.length<=8/\atomsE d=0)->depsE l=0
 | [],_=>rfl
 | a :: l,h=>by
  obtain⟨h1,h2,h3⟩:=h a (by simp)
  unfold depsE
  rw[if_pos ⟨h1,h2⟩,if_pos h3]
  exact rK fun x hx=>h x (by simp[hx])
theorem aaO {t:List UInt8}{d:List Atm}(h:depR t=.ok d):1<=d.length/\d.length<=8/\atomsE d=0:=by
 obtain⟨h1,h2,h3⟩:=dA (Q:=fun a=>checkA a=0) (fun _ _=>oq) (by decide) h
 exact⟨h1,h2,jx h3⟩
theorem jy {v:List UInt8}(h:Vm.check v=0):verE (canonOf v)=0:=by
 rw[canonOf,if_pos h]
 unfold verE
 rw[if_pos (Vm.j6 h),if_pos (Vm.j7 h)]
theorem acz {t:List UInt8}{g:Gv}(h:gvR t=.ok g):giveE g=0:=by
 unfold gvR at h
 split at h
 ·rename_i h1
  split at h
  ·split at h
   ·rename_i h3
    cases h
    unfold giveE
    rw[if_pos h1]
    split
    ·rfl
    ·exact jy h3
   ·cases h
  ·cases h
   unfold giveE
   rw[if_pos h1,if_pos rfl]
 ·cases h
theorem acA {t:List UInt8}{b:Nat}(h:wtR t=.ok b):chkW b=0:=by
 unfold wtR at h
 split at h
 ·split at h
  ·rename_i h1;cases h;exact h1
  ·cases h
 ·cases h
def PInv (q:Pk):Prop:=q.deps.length<=16/\depsE q.deps=0/\q.confl.length<=16/\atomsE q.confl=0/\q.prov.length<=16/\givesE q.prov=0/\chkW q.wt=0
theorem yE:PInv zeroP:=by unfold PInv;decide +kernel
theorem aaP {p q:Pk}{k v:List UInt8}(h:takeR p k v=.ok q)(hp:PInv p):PInv q/\(nameB q.name=true\/(k≠kPkg/\q.name=p.name))/\(verE q.ver=0\/(k≠kVer/\q.ver=p.ver)):=by
 obtain⟨p1,p2,p3,p4,p5,p6,p7⟩:=hp
 unfold takeR at h
 by_cases k1:k=kPkg
 ·rw[if_pos k1] at h
  split at h
  ·rename_i h1;cases h
   exact⟨⟨p1,p2,p3,p4,p5,p6,p7⟩,Or.inl h1,Or.inr ⟨by rw[k1];decide,rfl⟩⟩
  ·cases h
 rw[if_neg k1] at h
 by_cases k2:k=kVer
 ·rw[if_pos k2] at h
  split at h
  ·rename_i h1;cases h
   exact⟨⟨p1,p2,p3,p4,p5,p6,p7⟩,Or.inr ⟨k1,rfl⟩,Or.inl (jy h1)⟩
  ·cases h
 rw[if_neg k2] at h
 by_cases k3:k=kDep
 ·rw[if_pos k3] at h
  split at h
  ·rename_i l h1;cases h
   obtain⟨_,h2,h3⟩:=dA (fun _ _=>aaO) (by decide) h1
   exact⟨⟨h2,rK h3,p3,p4,p5,p6,p7⟩,Or.inr ⟨k1,rfl⟩,Or.inr ⟨k2,rfl⟩⟩
  ·cases h
 rw[if_neg k3] at h
 by_cases k4:k=kCon
 ·rw[if_pos k4] at h
  split at h
  ·rename_i l h1;cases h
   obtain⟨_,h2,h3⟩:=dA (fun _ _=>oq) (by decide) h1
   exact⟨⟨p1,p2,h2,jx h3,p5,p6,p7⟩,Or.inr ⟨k1,rfl⟩,Or.inr ⟨k2,rfl⟩⟩
  ·cases h
 rw[if_neg k4] at h
 by_cases k5:k=kPro
 ·rw[if_pos k5] at h
  split at h
  ·rename_i l h1;cases h
   obtain⟨_,h2,h3⟩:=dA (fun _ _=>acz) (by decide) h1
   exact⟨⟨p1,p2,p3,p4,h2,ot h3,p7⟩,Or.inr ⟨k1,rfl⟩,Or.inr ⟨k2,rfl⟩⟩
  ·cases h
 rw[if_neg k5] at h
 by_cases k6:k=kWei
 ·rw[if_pos k6] at h
  split at h
  ·rename_i l h1;cases h
   exact⟨⟨p1,p2,p3,p4,p5,p6,acA h1⟩,Or.inr ⟨k1,rfl⟩,Or.inr ⟨k2,rfl⟩⟩
  ·cases h
 rw[if_neg k6] at h
 cases h
 exact⟨⟨p1,p2,p3,p4,p5,p6,p7⟩,Or.inr ⟨k1,rfl⟩,Or.inr ⟨k2,rfl⟩⟩
theorem ou (f:Sz.Fld)(l:List Sz.Fld)(k:List UInt8):Sz.hasK (f :: l) k=(f.key==k||Sz.hasK l k):=rfl
theorem ov:∀ (l:List Sz.Fld) (i:Nat) (p q:Pk),readR i p l=.ok q->PInv p->PInv q/\(nameB p.name=true\/Sz.hasK l kPkg=true->nameB q.name=true)/\(verE p.ver=0\/Sz.hasK l kVer=true->verE q.ver=0)
 | [],i,p,q,h,hp=>by
  cases h
  exact⟨hp,fun h=>h.resolve_right (by decide),fun h=>h.resolve_right (by decide)⟩
 | f :: l,i,p,q,h,hp=>by
  cases ht:takeR p f.key f.val with
  | error e=>rw[dV ht] at h;cases h
  | ok r =>
   rw[dM ht] at h
   obtain⟨t1,t2,t3⟩:=aaP ht hp
   obtain⟨r1,r2,r3⟩:=ov l _ _ _ h t1
   refine⟨r1,fun hh=>r2 ?_,fun hh=>r3 ?_⟩
   ·rcases t2 with t2 | ⟨t2,t4⟩
    ·exact Or.inl t2
    ·rw[t4]
     refine hh.imp id fun hh=>?_
     rw[ou,beq_eq_false_iff_ne.2 t2,Bool.false_or] at hh
     exact hh
   ·rcases t3 with t3 | ⟨t3,t4⟩
    ·exact Or.inl t3
    ·rw[t4]
     refine hh.imp id fun hh=>?_
     rw[ou,beq_eq_false_iff_ne.2 t3,Bool.false_or] at hh
     exact hh
theorem yF {s:List Sz.Fld}{p:Pk}(h:readP s=.ok p):checkP p=0:=by
 unfold readP at h
 split at h
 ·split at h
  ·rename_i hk
   rw[Sz.rz,Sz.rz,Bool.and_eq_true] at hk
   obtain⟨⟨q1,q2,q3,q4,q5,q6,q7⟩,h1,h2⟩:=ov s 0 zeroP p h yE
   have n:=h1 (Or.inr hk.1)
   have v:=h2 (Or.inr hk.2)
   unfold checkP
   rw[if_neg (by rw[n];decide),if_neg (by rw[v];decide),if_neg (by omega),if_neg (by rw[q2];decide),if_neg (by omega),if_neg (by rw[q4];decide),if_neg (by omega),if_neg (by rw[q6];decide),q7]
  ·cases h
 ·cases h
theorem aaQ {s:List Sz.Fld}{i:Int}{p:Pk}(h:fromP s=(0,i,p)):checkP p=0:=by
 unfold fromP at h
 cases hr:readP s with
 | ok q=>rw[hr] at h;cases h;exact yF hr
 | error x =>
  rw[hr] at h
  have:=aaL hr
  obtain⟨j,e⟩:=x
  simp only[Prod.mk.injEq] at h
  exact absurd h.1 this
end Pg
end
namespace Rp
open Go.RowKit Rs At Pg
theorem bu:Vm.Cmp3 cmpP:=(Vm.pL.pull Pk.name).both (Vm.dD.pull Pk.ver)
theorem iR {a b c:Pk}(h1:cmpP a b<0)(h2:cmpP b c<=0):cmpP a c<0:=by
 rcases Int.lt_or_le (cmpP a c) 0 with h | h
 ·exact h
 ·have e1:=bu.1 a c
  have e2:=bu.1 a b
  have:=bu.2 b c a h2 (by omega)
  omega
def ins (p:Pk):List Pk->Option (List Pk)
 | []=>some [p]
 | q :: l=>if cmpP q p<0 then (ins p l).map (q :: ·) else if cmpP q p=0 then none else some (p :: q :: l)
def Ord (l:List Pk):Prop:=∀ (i j:Nat) (hi:i<l.length) (hj:j<l.length),i<j->cmpP l[i] l[j]<0
def Place (p:Pk) (l:List Pk) (i:Nat):Prop:=i<=l.length/\(∀ (j:Nat) (h:j<l.length),j+1=i->cmpP l[j] p<0)/\∀ h:i<l.length,¬ cmpP l[i] p<0
theorem iy {q:Pk}{l:List Pk}(h:Ord (q :: l)):Ord l:=fun i j hi hj hij=>by
 have:=h (i+1) (j+1) (Nat.succ_lt_succ hi) (Nat.succ_lt_succ hj) (Nat.succ_lt_succ hij)
 simpa using this
theorem ow {p:Pk}:∀ {l:List Pk} {i:Nat},Ord l->Place p l i->ins p l=if ∃ h:i<l.length,cmpP l[i] p=0 then none else some (l.take i++p :: l.drop i)
 | [],i,_,h=>by
  have:i=0:=by have:=h.1;simpa using this
  subst this
  simp[ins]
 | q :: l,0,ho,h=>by
  have h2:=h.2.2 (by simp)
  have h3:¬ cmpP q p<0:=by simpa using h2
  unfold ins
  rw[if_neg h3]
  by_cases he:cmpP q p=0
  ·rw[if_pos he,if_pos ⟨by simp,by simpa using he⟩]
  ·rw[if_neg he,if_neg (fun⟨_,e⟩=>he (by simpa using e))]
   rfl
 | q :: l,i+1,ho,h=>by
  have hq:cmpP q p<0:=by
   have hi:=h.1
   rw[List.length_cons] at hi
   have h1:=h.2.1 i (by rw[List.length_cons];omega) rfl
   by_cases h0:i=0
   ·subst h0;simpa using h1
   ·have h2:=ho 0 i (by simp) (by rw[List.length_cons];omega) (by omega)
    exact iR (by simpa using h2) (Int.le_of_lt h1)
  have hp:Place p l i:=⟨by have:=h.1;rw[List.length_cons] at this;omega,fun j hj e=>by
   have:=h.2.1 (j+1) (by rw[List.length_cons];omega) (by omega)
   simpa using this,fun hi=>by
   have:=h.2.2 (by rw[List.length_cons];omega)
   simpa using this⟩
  unfold ins
  rw[if_pos hq,ow (iy ho) hp]
  by_cases he:∃ h:i<l.length,cmpP l[i] p=0
  ·rw[if_pos he,if_pos (by obtain⟨a,b⟩:=he;exact⟨by rw[List.length_cons];omega,by simpa using b⟩)]
   rfl
  ·rw[if_neg he,if_neg (fun⟨a,b⟩=>he ⟨by rw[List.length_cons] at a;omega,by simpa using b⟩)]
   rfl
theorem jU {p:Pk}:∀ {l r:List Pk},ins p l=some r->∀ x,x∈r↔x=p\/x∈l
 | [],r,h,x=>by cases h;simp
 | q :: l,r,h,x=>by
  unfold ins at h
  split at h
  ·cases hi:ins p l with
   | none=>rw[hi] at h;cases h
   | some s =>
    rw[hi] at h
    cases h
    have:=jU hi x
    simp only[List.mem_cons,this]
    constructor
    ·rintro (h | h | h)
     ·exact Or.inr (Or.inl h)
     ·exact Or.inl h
     ·exact Or.inr (Or.inr h)
    ·rintro (h | h | h)
     ·exact Or.inr (Or.inl h)
     ·exact Or.inl h
     ·exact Or.inr (Or.inr h)
  ·split at h
   ·cases h
   ·cases h;simp
theorem ni {p:Pk}:∀ {l r:List Pk},ins p l=some r->r.length=l.length+1
 | [],r,h=>by cases h;rfl
 | q :: l,r,h=>by
  unfold ins at h
  split at h
  ·cases hi:ins p l with
   | none=>rw[hi] at h;cases h
   | some s=>rw[hi] at h;cases h;simp[ni hi]
  ·split at h
   ·cases h
   ·cases h;simp
theorem rL {q:Pk}{l:List Pk}(h:Ord l)(hq:∀ x∈l,cmpP q x<0):Ord (q :: l):=fun i j hi hj hij=>by
 cases j with
 | zero=>omega
 | succ j =>
  rw[List.length_cons] at hj
  cases i with
  | zero=>simpa using hq _ (List.getElem_mem (by omega))
  | succ i=>simpa using h i j (by rw[List.length_cons] at hi;omega) (by omega) (by omega)
theorem iz {q:Pk}{l:List Pk}(h:Ord (q :: l)):∀ x∈l,cmpP q x<0:=fun x hx=>by
 obtain⟨i,hi,rfl⟩:=List.mem_iff_getElem.1 hx
 exact h 0 (i+1) (by simp) (by rw[List.length_cons];omega) (by omega)
theorem nj {p:Pk}:∀ {l r:List Pk},Ord l->ins p l=some r->Ord r
 | [],r,_,h=>by
  cases h
  intro i j hi hj hij
  simp at hi hj
  omega
 | q :: l,r,ho,h=>by
  unfold ins at h
  split at h
  ·rename_i hq
   cases hi:ins p l with
   | none=>rw[hi] at h;cases h
   | some s =>
    rw[hi] at h
    cases h
    exact rL (nj (iy ho) hi) fun x hx=>by
     rcases (jU hi x).1 hx with rfl | hx
     ·exact hq
     ·exact iz ho x hx
  ·rename_i hq
   split at h
   ·cases h
   ·rename_i hz
    cases h
    have hpq:cmpP p q<0:=by have:=bu.1 q p;omega
    exact rL ho fun x hx=>by
     rcases List.mem_cons.1 hx with rfl | hx
     ·exact hpq
     ·exact iR hpq (Int.le_of_lt (iz ho x hx))
def lineAt (s:List Sz.Fld) (i:Int):Int:=match s[i.toNat]? with
 | some f=>f.line
 | none=>0
def takeL:List (List Sz.Fld)->List Pk->Int × Int × List Pk
 | [],acc=>(0,0,acc)
 | s :: l,acc=>if (fromP s).1≠0 then ((fromP s).1,lineAt s (fromP s).2.1,[]) else match ins (fromP s).2.2 acc with
  | none=>(6,lineAt s 0,[])
  | some r=>takeL l r
def parseR (t:List UInt8):Int × Int × List Pk :=
 if (Sz.parseS t).1≠0 then ((Sz.parseS t).1,(Sz.parseS t).2.1,[]) else if 64<(Sz.parseS t).2.2.length then (4,0,[]) else takeL (Sz.parseS t).2.2 []
theorem va (ks:List (List UInt8)):∀ (l:List Sz.Fld) (i:Nat) (last:Int),(Sz.ordP ks i last l).2≠0->(i:Int)<=(Sz.ordP ks i last l).1/\(Sz.ordP ks i last l).1<i+l.length
 | [],i,last,h=>by exact absurd rfl h
 | f :: l,i,last,h=>by
  unfold Sz.ordP at h ⊢
  split
  ·simp;omega
  ·split
   ·rename_i h1 h2
    rw[h1] at h
    dsimp only at h
    rw[if_pos h2] at h
    have:=va ks l (i+1) _ h
    simp only[List.length_cons]
    omega
   ·simp;omega
theorem rM:∀ (l:List Sz.Fld) (i:Nat) (p:Pk) (j e:Int),readR i p l=.error (j,e)->(i:Int)<=j/\j<i+l.length/\e≠0
 | [],i,p,j,e,h=>by cases h
 | f :: l,i,p,j,e,h=>by
  cases ht:takeR p f.key f.val with
  | ok q =>
   rw[dM ht] at h
   have:=rM l (i+1) q j e h
   simp only[List.length_cons]
   omega
  | error x =>
   rw[dV ht] at h
   cases h
   exact⟨Int.le_refl _,by simp only[List.length_cons];omega,rF ht⟩
theorem acB {s:List Sz.Fld}{k i:Int}{p:Pk}(h:fromP s=(k,i,p))(h0:s≠[]):0<=i/\i<s.length/\(k≠0->p=zeroP):=by
 have hl:0<s.length:=List.length_pos_iff.2 h0
 unfold fromP at h
 cases hr:readP s with
 | ok q=>rw[hr] at h;cases h;exact⟨Int.le_refl _,by omega,fun e=>absurd rfl e⟩
 | error x =>
  obtain⟨j,e⟩:=x
  rw[hr] at h
  cases h
  unfold readP at hr
  split at hr
  ·split at hr
   ·have:=rM _ _ _ _ _ hr
    exact⟨by omega,by omega,fun _=>rfl⟩
   ·cases hr;exact⟨Int.le_refl _,by omega,fun _=>rfl⟩
  ·rename_i hc
   have:=va keys6 s 0 (-1) hc
   injection hr with hr
   rw[hr] at this
   exact⟨by simpa using this.1,by simpa using this.2,fun _=>rfl⟩
theorem dN:∀ (ls:List (List UInt8)) (n:Nat) (acc:List (List Sz.Fld)) (last:List Sz.Fld) (k m:Int) (r:List (List Sz.Fld)),Sz.readL n ls acc last=(k,m,r)->(∀ s∈acc,s≠[])->∀ s∈r,s≠[]
 | [],n,acc,last,k,m,r,h,ha=>by
  rw[Sz.ju] at h
  cases h
  split
  ·exact ha
  ·rename_i hl
   intro s hs
   rcases List.mem_append.1 hs with hs | hs
   ·exact ha s hs
   ·rw[List.mem_singleton.1 hs];intro e;rw[e] at hl;exact hl rfl
 | x :: ls,n,acc,last,k,m,r,h,ha=>by
  rw[Sz.eF] at h
  split at h
  ·split at h
   ·cases h;intro s hs;cases hs
   ·rename_i hc
    refine dN ls _ _ _ k m r h fun s hs=>?_
    rcases List.mem_append.1 hs with hs | hs
    ·exact ha s hs
    ·rw[List.mem_singleton.1 hs];intro e;rw[e] at hc;exact hc rfl
  ·cases hf:Sz.fieldP x n with
   | none=>rw[hf] at h;cases h;intro s hs;cases hs
   | some f =>
    rw[hf] at h
    dsimp only at h
    split at h
    ·cases h;intro s hs;cases hs
    ·exact dN ls _ _ _ k m r h ha
theorem nk (t:List UInt8):∀ s∈(Sz.parseS t).2.2,s≠[]:=by
 obtain⟨X,hX⟩:=ex (Sz.parseS t)
 rw[hX]
 obtain⟨k,m,r⟩:=X
 unfold Sz.parseS at hX
 split at hX
 ·cases hX;intro s hs;cases hs
 ·split at hX
  ·exact dN _ _ _ _ k m r hX (fun s hs=>by cases hs)
  ·cases hX;intro s hs;cases hs
end Rp
namespace Sz
def lineF (f:Fld):List UInt8:=f.key++mark++f.val
theorem rN {k:List UInt8}(h:keyB k=true):k.all Vm.ltr=true:=by
 unfold keyB at h;rw[Bool.and_eq_true] at h;exact h.1
theorem aaR {k:List UInt8}(h:keyB k=true):1<=k.length/\k.length<=16:=by
 unfold keyB at h
 rw[Bool.and_eq_true,Bool.and_eq_true,decide_eq_true_eq] at h
 refine⟨?_,h.2.2⟩
 cases k with
 | nil=>simp at h
 | cons a l=>simp
theorem tN (f:Fld)(n:Int)(hk:keyB f.key=true)(hv:valB f.val=true):fieldP (lineF f) n=some ⟨f.key,f.val,n⟩:=by
 have e:lineF f=f.key++(58 :: 32 :: f.val):=by unfold lineF mark;rw[List.append_assoc];rfl
 obtain⟨h1,h2⟩:=aaR hk
 have aa:(lineF f)[f.key.length]?=some 58:=by rw[e,List.getElem?_append_right (Nat.le_refl _),Nat.sub_self];rfl
 have ab:(lineF f)[f.key.length+1]?=some 32:=by rw[e,List.getElem?_append_right (by omega),Nat.add_sub_cancel_left];rfl
 have ac:kLen (lineF f)=f.key.length:=ry _ _ 58 (by rw[e,List.take_left];exact rN hk) aa (by decide)
 have hd:(lineF f).drop (f.key.length+2)=f.val:=by rw[e,<-List.drop_drop,List.drop_left];rfl
 rw[wv,ac,hd,if_pos ⟨h1,h2,aa,ab,hv⟩,e,List.take_left]
theorem wA (f:Fld):lineF f≠[]:=by unfold lineF mark;simp
theorem yH (f:Fld)(hk:keyB f.key=true)(hv:valB f.val=true):(10:UInt8) ∉ lineF f:=by
 unfold lineF mark
 intro h
 rcases List.mem_append.1 h with h | h
 ·rcases List.mem_append.1 h with h | h
  ·have:=List.all_eq_true.1 (rN hk) 10 h
   exact absurd this (by decide)
  ·exact absurd h (by decide)
 ·unfold valB at hv
  have:=List.all_eq_true.1 hv 10 h
  exact absurd this (by decide)
def GoodL:Nat->List Fld->List Fld->Prop
 | _,_,[]=>True
 | n,last,f :: l=>keyB f.key=true/\valB f.val=true/\f.line=n/\hasK last f.key=false/\GoodL (n+1) (last++[f]) l
theorem gp:∀ (l:List Fld) (n:Nat) (rest:List (List UInt8)) (acc:List (List Fld)) (last:List Fld),GoodL n last l->readL n (l.map lineF++rest) acc last=readL (n+l.length) rest acc (last++l)
 | [],n,rest,acc,last,_=>by rw[List.append_nil];rfl
 | f :: l,n,rest,acc,last,h=>by
  obtain⟨h1,h2,h3,h4,h5⟩:=h
  rw[List.map_cons,List.cons_append,eF,if_neg (by simpa using wA f),tN f n h1 h2]
  have hf:(⟨f.key,f.val,(n:Int)⟩:Fld)=f:=by rw[<-h3]
  rw[hf]
  dsimp only
  rw[h4,if_neg (by decide),gp l (n+1) rest acc (last++[f]) h5,List.append_assoc]
  congr 1
  rw[List.length_cons];omega
def linesG:List (List Fld)->List (List UInt8)
 | []=>[]
 | l :: r=>l.map lineF++(if r.isEmpty then [] else [] :: linesG r)
def GoodG:Nat->List (List Fld)->Prop
 | _,[]=>True
 | n,l :: r=>l≠[]/\GoodL n [] l/\GoodG (n+l.length+1) r
theorem ko {l:List Fld}{r:List (List Fld)}(h:l≠[]):linesG (l :: r)≠[]:=by
 cases l with
 | nil=>exact absurd rfl h
 | cons f l=>unfold linesG;simp
theorem ox:∀ (G:List (List Fld)) (z:List Fld) (n:Nat) (rest:List (List UInt8)) (acc:List (List Fld)),GoodG n (G++[z])->readL n (linesG (G++[z])++rest) acc []=readL (n+(linesG (G++[z])).length) rest (acc++G) z
 | [],z,n,rest,acc,h=>by
  obtain⟨_,h2,_⟩:=h
  have e:linesG ([]++[z])=z.map lineF:=by show z.map lineF++[]=_;rw[List.append_nil]
  rw[e,gp z n rest acc [] h2,List.length_map,List.append_nil];rfl
 | l :: G,z,n,rest,acc,h=>by
  obtain⟨h1,h2,h3⟩:=h
  have e:linesG (l :: (G++[z]))=l.map lineF++([] :: linesG (G++[z])):=by
   show l.map lineF++(if (G++[z]).isEmpty then [] else [] :: linesG (G++[z]))=_
   rw[if_neg (by simp)]
  have hs:linesG (G++[z])≠[]:=by
   cases G with
   | nil=>exact ko (by obtain⟨hz,_⟩:=h3;exact hz)
   | cons m G=>exact ko (by obtain⟨hz,_⟩:=h3;exact hz)
  rw[List.cons_append,e,List.append_assoc,gp l n _ acc [] h2,List.nil_append,List.cons_append,eF,if_pos (show ([]:List UInt8).isEmpty=true from rfl),if_neg]
  ·rw[ox G z (n+l.length+1) rest (acc++[l]) h3,List.append_assoc]
   congr 1
   simp only[List.length_append,List.length_map,List.length_cons];omega
  ·cases l with
   | nil=>exact absurd rfl h1
   | cons f l =>
    cases hx:linesG (G++[z]) with
    | nil=>exact absurd hx hs
    | cons a b=>simp
theorem jz (l:List Fld):stanzaT l=joinL (l.map lineF):=by
 induction l with
 | nil=>rfl
 | cons f l ih =>
  show fieldT f++stanzaT l=_
  rw[List.map_cons,ct,ih];rfl
theorem yI (a b:List (List UInt8)):joinL (a++b)=joinL a++joinL b:=by unfold joinL;rw[List.flatMap_append]
theorem iA:∀ G:List (List Fld),textS G=joinL (linesG G)
 | []=>rfl
 | [l]=>by show stanzaT l=joinL (l.map lineF++[]);rw[List.append_nil,jz]
 | l :: m :: r=>by
  show stanzaT l++[10]++textS (m :: r)=joinL (l.map lineF++([] :: linesG (m :: r)))
  rw[iA (m :: r),yI,ct,jz]
  simp
theorem oy:∀ (l:List Fld) (n:Nat) (last:List Fld),GoodL n last l->∀ s∈l.map lineF,(10:UInt8) ∉ s
 | [],_,_,_,s,hs=>by cases hs
 | f :: l,n,last,h,s,hs=>by
  obtain⟨h1,h2,_,_,h5⟩:=h
  rw[List.map_cons] at hs
  rcases List.mem_cons.1 hs with rfl | hs
  ·exact yH f h1 h2
  ·exact oy l _ _ h5 s hs
theorem oz:∀ (G:List (List Fld)) (n:Nat),GoodG n G->∀ s∈linesG G,(10:UInt8) ∉ s
 | [],_,_,s,hs=>by cases hs
 | l :: r,n,h,s,hs=>by
  obtain⟨_,h2,h3⟩:=h
  unfold linesG at hs
  rcases List.mem_append.1 hs with hs | hs
  ·exact oy l _ _ h2 s hs
  ·split at hs
   ·cases hs
   ·rcases List.mem_cons.1 hs with rfl | hs
    ·simp
    ·exact oz r _ h3 s hs
theorem mm {G:List (List Fld)}(h:GoodG 0 G)(hl:(textS G).length<=65536):parseS (textS G)=(0,0,G):=by
 unfold parseS
 have he:endB (textS G)=true:=by rw[iA];exact ri _
 rw[if_neg (by omega),if_pos he,iA,lW _ (oz G 0 h)]
 rcases List.eq_nil_or_concat G with rfl | ⟨g,z,rfl⟩
 ·rfl
 ·rw[List.concat_eq_append] at h ⊢
  have:=ox g z 0 [] [] h
  rw[List.append_nil] at this
  rw[this,ju]
  have hz:z≠[]:=by
   clear this hl he
   have:∀ (g:List (List Fld)) (n:Nat),GoodG n (g++[z])->z≠[]:=by
    intro g
    induction g with
    | nil=>exact fun n h=>h.1
    | cons a g ih=>exact fun n h=>ih _ h.2.2
   exact this g 0 h
  cases z with
  | nil=>exact absurd rfl hz
  | cons f z=>rfl
end Sz
namespace Rp
open Go.RowKit Rs At Pg
theorem rO {p:Pk}:∀ {l:List Pk},ins p l=none->∃ q∈l,cmpP q p=0
 | [],h=>by cases h
 | q :: l,h=>by
  unfold ins at h
  split at h
  ·cases hi:ins p l with
   | none =>
    obtain⟨x,hx,he⟩:=rO hi
    exact⟨x,List.mem_cons_of_mem _ hx,he⟩
   | some s=>rw[hi] at h;cases h
  ·split at h
   ·exact⟨q,List.mem_cons_self,by assumption⟩
   ·cases h
theorem oA (p:Pk):cmpP p p=0:=by have:=bu.1 p p;omega
theorem mn:∀ {l m:List Pk},Ord l->Ord m->(∀ x,x∈l↔x∈m)->l=m
 | [],[],_,_,_=>rfl
 | [],q :: m,_,_,h=>by have:=(h q).2 List.mem_cons_self;cases this
 | p :: l,[],_,_,h=>by have:=(h p).1 List.mem_cons_self;cases this
 | p :: l,q :: m,hl,hm,h=>by
  have hp:=iz hl
  have hq:=iz hm
  have e:p=q:=by
   rcases List.mem_cons.1 ((h p).1 List.mem_cons_self) with e | e
   ·exact e
   ·rcases List.mem_cons.1 ((h q).2 List.mem_cons_self) with e2 | e2
    ·exact e2.symm
    ·have a1:=hq p e
     have a2:=hp q e2
     have:=bu.1 p q
     omega
  subst e
  have:l=m:=mn (iy hl) (iy hm) fun x=>by
   constructor
   ·intro hx
    rcases List.mem_cons.1 ((h x).1 (List.mem_cons_of_mem _ hx)) with e | e
    ·subst e;have:=hp x hx;have:=oA x;omega
    ·exact e
   ·intro hx
    rcases List.mem_cons.1 ((h x).2 (List.mem_cons_of_mem _ hx)) with e | e
    ·subst e;have:=hq x hx;have:=oA x;omega
    ·exact e
  rw[this]
def insAll:List Pk->List Pk->Option (List Pk)
 | acc,[]=>some acc
 | acc,p :: l=>match ins p acc with
  | none=>none
  | some r=>insAll r l
abbrev NV:=List UInt8 × List UInt8
def plainP (p:NV):Pk:=⟨p.1,p.2,[],[],[],0⟩
def stz (n:Nat) (p:NV):List Sz.Fld:=[⟨kPkg,p.1,(n:Int)⟩,⟨kVer,p.2,((n+1:Nat):Int)⟩]
def grid:Nat->List NV->List (List Sz.Fld)
 | _,[]=>[]
 | n,p :: l=>stz n p :: grid (n+3) l
def Okk (p:NV):Prop:=Sz.valB p.1=true/\Sz.valB p.2=true/\nameB p.1=true/\Vm.check p.2=0/\canonOf p.2=p.2
theorem aaS (n:Nat)(p:NV)(h:Okk p):fromP (stz n p)=(0,0,plainP p):=by
 obtain⟨_,_,h3,h4,h5⟩:=h
 have e1:Sz.ordP keys6 0 (-1) (stz n p)=(0,0):=by
  unfold stz Sz.ordP
  rw[show Sz.placeOf keys6 kPkg=some 0 by decide]
  dsimp only
  rw[if_pos (by decide)]
  unfold Sz.ordP
  rw[show Sz.placeOf keys6 kVer=some 1 by decide]
  dsimp only
  rw[if_pos (by decide)]
  rfl
 have e2:((Sz.getF (stz n p) kPkg).isSome&&(Sz.getF (stz n p) kVer).isSome)=true:=by
  unfold stz Sz.getF
  simp[kPkg,kVer]
 have t1:takeR zeroP kPkg p.1=.ok { zeroP with name:=p.1 }:=by
  unfold takeR;rw[if_pos rfl,if_pos h3]
 have t2:takeR { zeroP with name:=p.1 } kVer p.2=.ok (plainP p):=by
  unfold takeR
  rw[if_neg (by decide),if_pos rfl,if_pos h4,h5]
  rfl
 unfold fromP readP
 rw[e1]
 dsimp only
 rw[if_pos rfl,e2,if_pos rfl]
 unfold stz
 rw[dM t1,dM t2]
 rfl
theorem kR:∀ (l:List NV) (n:Nat),(grid n l).length=l.length
 | [],_=>rfl
 | _ :: l,n=>by unfold grid;rw[List.length_cons,List.length_cons,kR l]
theorem jA:∀ (l:List NV) (n:Nat),(∀ p∈l,Okk p)->Sz.GoodG n (grid n l)
 | [],_,_=>trivial
 | p :: l,n,h=>by
  obtain⟨h1,h2,_⟩:=h p List.mem_cons_self
  refine⟨by unfold stz;simp,⟨by show Sz.keyB kPkg=true;decide,h1,rfl,rfl,by show Sz.keyB kVer=true;decide,h2,rfl,by simp[Sz.hasK,kPkg,kVer],trivial⟩,?_⟩
  exact jA l (n+3) fun q hq=>h q (List.mem_cons_of_mem _ hq)
theorem oB:∀ (l:List NV) (n:Nat) (acc r:List Pk),(∀ p∈l,Okk p)->insAll acc (l.map plainP)=some r->takeL (grid n l) acc=(0,0,r)
 | [],_,acc,r,_,h=>by cases h;rfl
 | p :: l,n,acc,r,ho,h=>by
  unfold grid takeL
  rw[aaS n p (ho p List.mem_cons_self)]
  dsimp only
  rw[if_neg (by decide)]
  rw[List.map_cons,insAll] at h
  cases hi:ins (plainP p) acc with
  | none=>rw[hi] at h;cases h
  | some s =>
   rw[hi] at h
   exact oB l (n+3) s r (fun q hq=>ho q (List.mem_cons_of_mem _ hq)) h
theorem rP {l:List NV}{r:List Pk}(ho:∀ p∈l,Okk p)(hl:l.length<=64)(ht:(Sz.textS (grid 0 l)).length<=65536)(h:insAll [] (l.map plainP)=some r):parseR (Sz.textS (grid 0 l))=(0,0,r):=by
 unfold parseR
 rw[Sz.mm (jA l 0 ho) ht]
 dsimp only
 rw[if_neg (by decide),if_neg (by rw[kR];omega)]
 exact oB l 0 [] r ho h
def oneT (p:NV):List UInt8:=kPkg++[58,32]++p.1++[10]++(kVer++[58,32]++p.2++[10])
theorem iB (n:Nat)(p:NV):Sz.stanzaT (stz n p)=oneT p:=by
 unfold Sz.stanzaT stz oneT Sz.fieldT Sz.mark
 simp
theorem jO:∀ (l:List NV) (n k:Nat),(∀ p∈l,p.1.length+p.2.length<=k)->(Sz.textS (grid n l)).length<=l.length*(k+21)
 | [],_,_,_=>by simp[grid,Sz.textS]
 | [p],n,k,h=>by
  show (Sz.stanzaT (stz n p)).length<=_
  rw[iB]
  have:=h p List.mem_cons_self
  simp[oneT,kPkg,kVer]
  omega
 | p :: q :: l,n,k,h=>by
  show (Sz.stanzaT (stz n p)++[10]++Sz.textS (grid (n+3) (q :: l))).length<=_
  have h1:=jO (q :: l) (n+3) k fun x hx=>h x (List.mem_cons_of_mem _ hx)
  have h2:=h p List.mem_cons_self
  rw[iB]
  simp only[List.length_append,List.length_cons,List.length_nil] at h1 ⊢
  have h3:(oneT p).length=p.1.length+p.2.length+20:=by simp[oneT,kPkg,kVer];omega
  rw[h3]
  have h4:(l.length+1+1)*(k+21)=(l.length+1)*(k+21)+(k+21):=by rw[Nat.add_mul];omega
  omega
end Rp
end Go.Proofs.YtkoaljpfoekgkaaGreatDoor

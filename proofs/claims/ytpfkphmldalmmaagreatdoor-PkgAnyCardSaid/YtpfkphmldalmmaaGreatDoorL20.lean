/- Part 20 of what the laws lean on. -/
import Derived.Test.YtpfkphmldalmmaaGreatDoorL19
set_option maxRecDepth 100000
set_option maxHeartbeats 1600000
namespace Go.Proofs.YtpfkphmldalmmaaGreatDoor
namespace Pg
open Go.RowKit Rs At
structure Gv where
 name:List UInt8
 ver:List UInt8
 deriving DecidableEq
structure Pk where
 name:List UInt8
 ver:List UInt8
 deps:List (List Atm)
 confl:List Atm
 prov:List Gv
 wt:Nat
 deriving DecidableEq
def verE (v:List UInt8):Int:=if Vm.check v=0 then (if Vm.canon v=v then 0 else 5) else Vm.check v
def atomsE:List Atm->Int
 | []=>0
 | a :: l=>if checkA a=0 then atomsE l else checkA a
def giveE (g:Gv):Int:=if nameB g.name then (if g.ver=[] then 0 else verE g.ver) else 3
def givesE:List Gv->Int
 | []=>0
 | g :: l=>if giveE g=0 then givesE l else giveE g
def depsE:List (List Atm)->Int
 | []=>0
 | d :: l=>if 1<=d.length/\d.length<=8 then (if atomsE d=0 then depsE l else atomsE d) else 4
def checkP (p:Pk):Int :=
 if nameB p.name=false then 3
 else if verE p.ver≠0 then verE p.ver
 else if 16<p.deps.length then 4
 else if depsE p.deps≠0 then depsE p.deps
 else if 16<p.confl.length then 4
 else if atomsE p.confl≠0 then atomsE p.confl
 else if 16<p.prov.length then 4
 else if givesE p.prov≠0 then givesE p.prov
 else chkW p.wt
abbrev AtD:=List UInt8 × Desc
def encA (d:AtD):List Value:=[.string ⟨d.1.toArray⟩,.slice d.2.1 d.2.2.1 d.2.2.2]
def encG (g:Gv):List Value:=[.string ⟨g.name.toArray⟩,.string ⟨g.ver.toArray⟩]
theorem fitsA:Rg.Fits encA 2:=⟨fun _=>rfl,fun x u hu=>by
 simp only[encA,List.mem_cons,List.not_mem_nil,or_false] at hu
 rcases hu with rfl | rfl <;> rfl⟩
theorem fitsG:Rg.Fits encG 2:=⟨fun _=>rfl,fun x u hu=>by
 simp only[encG,List.mem_cons,List.not_mem_nil,or_false] at hu
 rcases hu with rfl | rfl <;> rfl⟩
def AIn (w:World) (ds:List AtD) (l:List Atm):Prop:=ds.length=l.length/\∀ (i:Nat) (d:AtD) (a:Atm),ds[i]?=some d->l[i]?=some a->d.1=a.name/\d.2.2.1=a.rng.length/\SRow w d.2.1 a.rng
def ARow (w:World) (A:Option Addr) (l:List Atm):Prop:=∃ ds,Rg.Row encA 2 w A ds/\AIn w ds l
def DIn (w:World) (ds:List Desc) (t:List (List Atm)):Prop:=ds.length=t.length/\∀ (i:Nat) (d:Desc) (l:List Atm),ds[i]?=some d->t[i]?=some l->d.2.1=l.length/\ARow w d.1 l
def DRow (w:World) (A:Option Addr) (t:List (List Atm)):Prop:=∃ ds,Rg.Row encO 1 w A ds/\DIn w ds t
abbrev GRow (w:World) (A:Option Addr) (l:List Gv):Prop:=Rg.Row encG 2 w A l
theorem qC {w w':World}{ds:List AtD}{l:List Atm}(h:AIn w ds l)(hb:Below w.heap.size w w'):AIn w' ds l :=
 ⟨h.1,fun i d a h1 h2=>⟨(h.2 i d a h1 h2).1,(h.2 i d a h1 h2).2.1,an (h.2 i d a h1 h2).2.2 hb⟩⟩
theorem au {w w':World}{A:Option Addr}{l:List Atm}(h:ARow w A l)(hb:Below w.heap.size w w'):ARow w' A l:=by
 obtain⟨ds,h1,h2⟩:=h;exact⟨ds,Rg.ak h1 hb,qC h2 hb⟩
theorem kZ {w w':World}{ds:List Desc}{t:List (List Atm)}(h:DIn w ds t)(hb:Below w.heap.size w w'):DIn w' ds t :=
 ⟨h.1,fun i d l h1 h2=>⟨(h.2 i d l h1 h2).1,au (h.2 i d l h1 h2).2 hb⟩⟩
theorem drowD_below {w w':World}{A:Option Addr}{t:List (List Atm)}(h:DRow w A t)(hb:Below w.heap.size w w'):DRow w' A t:=by
 obtain⟨ds,h1,h2⟩:=h;exact⟨ds,Rg.ak h1 hb,kZ h2 hb⟩
theorem bM {w:World}{A:Option Addr}{l:List Atm}(h:ARow w A l)(k:Nat)(hk:k<l.length):∃ ad C n c,A=some ad/\l[k].rng.length=n/\SRow w C l[k].rng/\∀ u,Below w.heap.size w u->u.cell? (ad.add (k*2))=some (.string ⟨l[k].name.toArray⟩)/\u.cell? ⟨(ad.add (k*2)).block,(ad.add (k*2)).off+1,none⟩=some (.slice C n c):=by
 obtain⟨ds,h1,h2,h3⟩:=h
 have aa:k<ds.length:=by omega
 obtain⟨ad,e,_,_⟩:=h1 (by omega)
 obtain⟨q0,q1,q2⟩:=h3 k ds[k] l[k] (List.getElem?_eq_getElem aa) (List.getElem?_eq_getElem hk)
 refine⟨ad,ds[k].2.1,ds[k].2.2.1,ds[k].2.2.2,e,q1.symm,q2,fun u hb=>?_⟩
 obtain⟨ab,x,e',hx,_,hc⟩:=Rg.cW (Rg.ak h1 hb) k aa
 rw[e] at e';cases e'
 subst hx
 exact⟨by rw[<-q0];exact hc 0 _ rfl,hc 1 _ rfl⟩
theorem bT {w:World}{A:Option Addr}{t:List (List Atm)}(h:DRow w A t)(k:Nat)(hk:k<t.length):∃ ad C n c,A=some ad/\t[k].length=n/\ARow w C t[k]/\∀ u,Below w.heap.size w u->u.cell? (ad.add k)=some (.slice C n c):=by
 obtain⟨ds,h1,h2,h3⟩:=h
 have aa:k<ds.length:=by omega
 obtain⟨ad,e,_,_⟩:=h1 (by omega)
 obtain⟨q1,q2⟩:=h3 k ds[k] t[k] (List.getElem?_eq_getElem aa) (List.getElem?_eq_getElem hk)
 refine⟨ad,ds[k].1,ds[k].2.1,ds[k].2.2,e,q1.symm,q2,fun u hb=>?_⟩
 obtain⟨ab,x,e',hx,_,hc⟩:=Rg.cW (Rg.ak h1 hb) k aa
 rw[e] at e';cases e'
 have:=hc 0 _ rfl
 rw[if_pos rfl,Nat.mul_one] at this
 rw[hx];exact this
theorem b8 {w:World}{A:Option Addr}{l:List Gv}(h:GRow w A l)(k:Nat)(hk:k<l.length):∃ ad,A=some ad/\∀ u,Below w.heap.size w u->u.cell? (ad.add (k*2))=some (.string ⟨l[k].name.toArray⟩)/\u.cell? ⟨(ad.add (k*2)).block,(ad.add (k*2)).off+1,none⟩=some (.string ⟨l[k].ver.toArray⟩):=by
 obtain⟨ad,e,_,_⟩:=h (by omega)
 refine⟨ad,e,fun u hb=>?_⟩
 obtain⟨aa,x,e',hx,_,hc⟩:=Rg.cW (Rg.ak h hb) k hk
 rw[e] at e';cases e'
 subst hx
 exact⟨hc 0 _ rfl,hc 1 _ rfl⟩
def AFew (l:List Atm):Prop:=∀ a∈l,a.name.length<=maxLen/\a.rng.length<=1000
def GFew (l:List Gv):Prop:=∀ g∈l,g.name.length<=maxLen/\g.ver.length<=maxLen
theorem ei {l:List Atm}(h:AFew l)(k:Nat)(hk:k<l.length):l[k].name.length<=maxLen/\l[k].rng.length<=1000:=h _ (List.getElem_mem hk)
theorem wU {l:List Gv}(h:GFew l)(k:Nat)(hk:k<l.length):l[k].name.length<=maxLen/\l[k].ver.length<=maxLen:=h _ (List.getElem_mem hk)
end Pg
section
open Go.RowKit Rs At Pg
attribute [local go_sem ↓] Go.wp_at_zero Go.wp_at_succ
theorem cj (k:Int)(w:World):Calls Tryz.prog 68 #[.int .i64 k] w fun e w'=>e=br k/\w=w':=by
 by_cases hk:k=0
 ·subst hk
  go_enter Tryz.func68,Tryz.ntmps68
  go_wp2_with fail
  refine (aj _).mono ?_
  rintro _ z ⟨rfl,rfl⟩
  go_wp2_with fail
  go_end0
  exact⟨rfl,rfl⟩
 ·have d:(k==0)=false:=beq_eq_false_iff_ne.2 hk
  have HK:Hid (br k=pan k):=aT hk
  clear hk
  go_enter Tryz.func68,Tryz.ntmps68
  go_wp2_with fail
  refine (ao _).mono ?_
  rintro _ z ⟨rfl,rfl⟩
  go_wp2_with fail
  exact⟨rfl,by rw[HK.out],rfl⟩
theorem eH (v:List UInt8)(w:World)(hw:MaxOk w):Calls Tryz.prog 65 #[.string ⟨v.toArray⟩] w fun e w'=>e=br (verE v)/\Below w.heap.size w w':=by
 obtain⟨R,hR⟩:=ex (verE v)
 rw[hR]
 unfold verE at hR
 have HC:=zh (cH v w hw)
 obtain⟨x,hx⟩:=ex (canonOf v)
 obtain⟨k,hk⟩:=ex (Vm.check v)
 rw[hx,hk] at HC
 rw[hk] at hR
 have HX:Hid (k=0->Vm.canon v=x):=fun h=>by rw[<-hx];unfold canonOf;rw[if_pos (hk.trans h)]
 clear hx hk hw
 by_cases h0:k=0
 ·subst h0
  rw[if_pos rfl,HX.out rfl] at hR
  by_cases hv:x=v
  ·rw[if_pos hv] at hR
   subst hR
   have e:(x==v)=true:=by simpa using hv
   clear hv
   go_enter Tryz.func65,Tryz.ntmps65
   go_wp2_with fail
   refine HC.out.mono ?_
   rintro _ u ⟨rfl,hb⟩
   have HB:=zh hb
   clear hb
   go_wp2_with fail
   refine (cj 0 _).mono ?_
   rintro _ z ⟨rfl,rfl⟩
   rw[aW]
   go_wp2_with fail
   refine (aj _).mono ?_
   rintro _ z ⟨rfl,rfl⟩
   go_wp2_with fail
   go_end0
   exact⟨rfl,HB.out⟩
  ·rw[if_neg hv] at hR
   subst hR
   have e:(x==v)=false:=beq_eq_false_iff_ne.2 hv
   clear hv
   go_enter Tryz.func65,Tryz.ntmps65
   go_wp2_with fail
   refine HC.out.mono ?_
   rintro _ u ⟨rfl,hb⟩
   have HB:=zh hb
   clear hb
   go_wp2_with fail
   refine (cj 0 _).mono ?_
   rintro _ z ⟨rfl,rfl⟩
   rw[aW]
   go_wp2_with fail
   refine (ao _).mono ?_
   rintro _ z ⟨rfl,rfl⟩
   go_wp2_with fail
   exact⟨rfl,rfl,HB.out⟩
 ·rw[if_neg h0] at hR
  subst hR
  have HK:Hid (br k=pan k):=aT h0
  clear h0
  go_enter Tryz.func65,Tryz.ntmps65
  go_wp2_with fail
  refine HC.out.mono ?_
  rintro _ u ⟨rfl,hb⟩
  have HB:=zh hb
  clear hb
  go_wp2_with fail
  refine (cj k _).mono ?_
  rintro _ z ⟨rfl,rfl⟩
  rw[HK.out]
  go_wp2_with fail
  exact⟨rfl,by rw[HK.out],HB.out⟩
theorem Pg.aB {w W1 u:World}{a b:Value}{T:TypeId}(h1:w.alloc (.cells #[a,b] T)=W1)(hb:Below W1.heap.size W1 u):u.cell? ⟨w.heap.size,0,none⟩=some a/\u.cell? ⟨w.heap.size,1,none⟩=some b :=
 ⟨(cP h1 hb).1,(cP h1 hb).2.1⟩
theorem oy (g:Gv)(w:World)(hw:MaxOk w)(hm:g.name.length<=maxLen):Calls Tryz.prog 67 #[.agg #[.string ⟨g.name.toArray⟩,.string ⟨g.ver.toArray⟩]] w fun e w'=>e=br (giveE g)/\Below w.heap.size w w':=by
 obtain⟨nm,v⟩:=g
 dsimp only at hm ⊢
 obtain⟨R,hR⟩:=ex (giveE ⟨nm,v⟩)
 rw[hR]
 unfold giveE at hR
 dsimp only at hR
 obtain⟨W1,ac⟩:=ex (w.alloc (.cells #[.string ⟨nm.toArray⟩,.string ⟨v.toArray⟩] 58))
 have aa:Hid (Below w.heap.size w W1):=ai ac
 obtain⟨c0,c1⟩:=aB ac (Below.refl _ _)
 have HN:=zh (fe nm W1 hm)
 have HV:=zh (eH v W1 (ah hw aa.out))
 clear hw hm
 cases ab:nameB nm
 ·rw[ab] at hR HN
  rw[if_neg (by decide)] at hR
  subst hR
  clear HV ab
  go_enter Tryz.func67,Tryz.ntmps67
  go_wp2_with fail
  refine HN.out.mono ?_
  rintro _ z ⟨rfl,rfl⟩
  go_wp2_with fail
  refine (ao _).mono ?_
  rintro _ z ⟨rfl,rfl⟩
  go_wp2_with fail
  exact⟨rfl,rfl,aa.out⟩
 ·rw[ab] at hR HN
  rw[if_pos rfl] at hR
  clear ab
  by_cases hv:v=[]
  ·rw[if_pos hv] at hR
   subst hR
   have e:(v==[])=true:=by rw[hv];rfl
   clear hv HV
   go_enter Tryz.func67,Tryz.ntmps67
   go_wp2_with fail
   refine HN.out.mono ?_
   rintro _ z ⟨rfl,rfl⟩
   go_wp2_with fail
   refine (aj _).mono ?_
   rintro _ z ⟨rfl,rfl⟩
   go_wp2_with fail
   go_end0
   exact⟨rfl,aa.out⟩
  ·rw[if_neg hv] at hR
   rw[hR] at HV
   have e:(v==[])=false:=beq_eq_false_iff_ne.2 hv
   clear hv hR
   by_cases h0:R=0
   ·subst h0
    go_enter Tryz.func67,Tryz.ntmps67
    go_wp2_with fail
    refine HN.out.mono ?_
    rintro _ z ⟨rfl,rfl⟩
    go_wp2_with fail
    refine (aj _).mono ?_
    rintro _ z ⟨rfl,rfl⟩
    go_wp2_with fail
    refine HV.out.mono ?_
    rintro _ u ⟨rfl,hb⟩
    have HB:=zh (bt aa.out hb)
    clear hb
    rw[aW]
    go_wp2_with fail
    go_end0
    exact⟨rfl,HB.out⟩
   ·have HK:Hid (br R=pan R):=aT h0
    clear h0
    go_enter Tryz.func67,Tryz.ntmps67
    go_wp2_with fail
    refine HN.out.mono ?_
    rintro _ z ⟨rfl,rfl⟩
    go_wp2_with fail
    refine (aj _).mono ?_
    rintro _ z ⟨rfl,rfl⟩
    go_wp2_with fail
    refine HV.out.mono ?_
    rintro _ u ⟨rfl,hb⟩
    have HB:=zh (bt aa.out hb)
    clear hb
    rw[HK.out]
    go_wp2_with fail
    exact⟨rfl,by rw[HK.out],HB.out⟩
theorem Pg.vB (a:Atm)(l:List Atm):atomsE (a :: l)=if checkA a=0 then atomsE l else checkA a:=rfl
theorem gF (A:Option Addr)(n c:Nat)(l:List Atm)(w:World)(hw:MaxOk w)(hn:l.length=n)(hr:ARow w A l)(hl:n<=1000000)(hf:AFew l) :
  Calls Tryz.prog 66 #[.slice A n c] w fun e w'=>e=br (atomsE l)/\Below w.heap.size w w':=by
 obtain⟨R,hR⟩:=ex (atomsE l)
 rw[hR]
 have HM:=zh hw
 have HN:=zh hn
 have HR:=zh hr
 have HF:=zh hf
 have HG:=zh hR
 clear hw hn hr hf hR
 go_enter Tryz.func66,Tryz.ntmps66
 go_wp2_with fail
 go_loopw [6] (fun i wr=>∃ k:Nat,k<=n/\i=.int .i64 k/\Hid (atomsE (l.drop k)=R)/\Hid (Below w.heap.size w wr)) (fun i _=>n-(intOf i).toNat)
 case atStart=>exact⟨0,Nat.zero_le _,rfl,HG.out,Below.refl _ _⟩
 case round =>
  obtain⟨k,hk,rfl,HH,HW⟩:=hrel
  by_cases ae:k<n
  ·have ab:k<l.length:=by rw[HN.out];exact ae
   obtain⟨ad,C,m,d,rfl,hm,hs,hc⟩:=bM HR.out k ab
   obtain⟨c0,c1⟩:=hc _ HW.out
   have hd:l.drop k=l[k] :: l.drop (k+1):=List.drop_eq_getElem_cons ab
   obtain⟨f1,f2⟩:=ei HF.out k ab
   have hh:=HH.out
   rw[hd,vB] at hh
   obtain⟨a,ha⟩:=ex (l[k])
   rw[ha] at c0 hm hs f1 f2 hh
   obtain⟨nm,rg⟩:=a
   dsimp only at c0 hm hs f1 f2
   obtain⟨V,hV⟩:=ex (wr.alloc (.cells #[.string ⟨nm.toArray⟩,.slice C m d] 66))
   have aa:Hid (Below w.heap.size w V):=HW.out.trans ((ai hV).mono HW.out.size)
   obtain⟨v0,v1⟩:=aB hV (Below.refl _ _)
   have ac:=zh (rj nm C m d rg V (ah HM.out aa.out) f1 hm (an hs aa.out) (by rw[<-hm];exact f2))
   obtain⟨x,hx⟩:=ex (checkA ⟨nm,rg⟩)
   rw[hx] at hh ac
   clear hc hd ha hs f1 f2 hx hm
   by_cases h0:x=0
   ·subst h0
    have HE:Hid (atomsE (l.drop (k+1))=R):=by rw[if_pos rfl] at hh;exact hh
    clear hh
    go_wp2_with fail
    clear hV
    refine ac.out.mono ?_
    rintro _ u ⟨rfl,hb⟩
    have HB:=zh (bt aa.out hb)
    clear hb
    go_wp2_with fail
    refine (cj 0 _).mono ?_
    rintro _ z ⟨rfl,rfl⟩
    rw[aW]
    go_wp2_with fail
    go_roundw
    case rel=>exact⟨k+1,by omega,by go_num,HE,HB.out⟩
    case measure=>simp[intOf];omega
   ·have HE:Hid (x=R):=by rw[if_neg h0] at hh;exact hh
    have HK:Hid (br x=pan x):=aT h0
    clear hh h0
    go_wp2_with fail
    clear hV
    refine ac.out.mono ?_
    rintro _ u ⟨rfl,hb⟩
    have HB:=zh (bt aa.out hb)
    clear hb
    go_wp2_with fail
    refine (cj x _).mono ?_
    rintro _ z ⟨rfl,rfl⟩
    rw[HK.out]
    go_wp2_with fail
    exact⟨rfl,by rw[<-HE.out,HK.out],HB.out⟩
  ·obtain rfl:k=n:=by omega
   have HE:Hid (R=0):=by show _=_;rw[<-HH.out,List.drop_eq_nil_of_le (by rw[HN.out];exact Nat.le_refl _)];rfl
   go_wp2_with fail
   go_end0
   exact⟨by rw[HE.out];rfl,HW.out⟩
end
section
open Go.RowKit Rs At Pg
namespace Pg
theorem az {w W1 u:World}{a b c d e f:Value}{T:TypeId}(h1:w.alloc (.cells #[a,b,c,d,e,f] T)=W1)(hb:Below W1.heap.size W1 u) :
  u.cell? ⟨w.heap.size,0,none⟩=some a/\u.cell? ⟨w.heap.size,1,none⟩=some b/\u.cell? ⟨w.heap.size,2,none⟩=some c/\u.cell? ⟨w.heap.size,3,none⟩=some d/\u.cell? ⟨w.heap.size,4,none⟩=some e/\u.cell? ⟨w.heap.size,5,none⟩=some f:=by
 subst h1
 have h:u.heap[w.heap.size]?=some (.cells #[a,b,c,d,e,f] T (0,0)):=(hb.block _ (by simp)).trans (heap_alloc_new w _)
 refine⟨?_,?_,?_,?_,?_,?_⟩ <;> simp[World.cell?,h]
def DFew (t:List (List Atm)):Prop:=∀ l∈t,l.length<=1000000/\AFew l
theorem fT {t:List (List Atm)}(h:DFew t)(k:Nat)(hk:k<t.length):t[k].length<=1000000/\AFew t[k]:=h _ (List.getElem_mem hk)
def PFew (p:Pk):Prop:=p.name.length<=maxLen/\p.deps.length<=1000000/\DFew p.deps/\p.confl.length<=1000000/\AFew p.confl/\p.prov.length<=1000000/\GFew p.prov/\p.wt<Wm.W
theorem oz (d:List Atm)(l:List (List Atm)):depsE (d :: l)=if 1<=d.length/\d.length<=8 then (if atomsE d=0 then depsE l else atomsE d) else 4:=rfl
theorem mw (g:Gv)(l:List Gv):givesE (g :: l)=if giveE g=0 then givesE l else giveE g:=rfl
end Pg
attribute [local go_sem ↓] Go.wp_at_zero Go.wp_at_succ
theorem pK (p:Pk)(D C G:Option Addr)(dn dc cn cc gn gc:Nat)(w:World)(hw:MaxOk w)(hd:Pg.DRow w D p.deps)(hdn:p.deps.length=dn)(hc:ARow w C p.confl)(hcn:p.confl.length=cn)(hg:GRow w G p.prov)(hgn:p.prov.length=gn)(hf:PFew p) :
  Calls Tryz.prog 26 #[.agg #[.string ⟨p.name.toArray⟩,.string ⟨p.ver.toArray⟩,.slice D dn dc,.slice C cn cc,.slice G gn gc,.float .f64 p.wt]] w fun e w'=>e=br (checkP p)/\Below w.heap.size w w':=by
 obtain⟨nm,v,deps,confl,prov,wt⟩:=p
 dsimp only at hd hdn hc hcn hg hgn ⊢
 obtain⟨f1,f2,f3,f4,f5,f6,f7,f8⟩:=hf
 dsimp only at f1 f2 f3 f4 f5 f6 f7 f8
 obtain⟨R,hR⟩:=ex (checkP ⟨nm,v,deps,confl,prov,wt⟩)
 rw[hR]
 unfold checkP at hR
 dsimp only at hR
 obtain⟨x1,aq⟩:=ex (verE v)
 obtain⟨x2,ar⟩:=ex (depsE deps)
 obtain⟨x3,av⟩:=ex (atomsE confl)
 obtain⟨x4,aw⟩:=ex (givesE prov)
 obtain⟨x5,ax⟩:=ex (chkW wt)
 rw[aq,ar,av,aw,ax,hdn,hcn,hgn] at hR
 have aR:dn<=1000000:=by omega
 have aI:cn<=1000000:=by omega
 have aS:gn<=1000000:=by omega
 obtain⟨W1,an⟩:=ex (w.alloc (.cells #[.string ⟨nm.toArray⟩,.string ⟨v.toArray⟩,.slice D dn dc,.slice C cn cc,.slice G gn gc,.float .f64 wt] 34))
 have ae:Hid (Below w.heap.size w W1):=ai an
 have al:=zh an
 have HM:=zh (ah hw ae.out)
 have HD:=zh hd
 have aA:=zh hdn
 have HC:=zh hc
 have aJ:=zh hcn
 have HG:=zh hg
 have aC:=zh hgn
 have aK:=zh f3
 have aL:=zh f5
 have aM:=zh f7
 have aN:=zh f8
 have aD:=zh ar
 have aO:=zh av
 have aE:=zh aw
 have aF:=zh ax
 have HN:=zh (fe nm W1 f1)
 have HV:=zh (eH v W1 HM.out)
 rw[aq] at HV
 have aa:=zh hR
 clear hw hd hdn hc hcn hg hgn f1 f2 f3 f4 f5 f6 f7 f8 aq ar av aw ax hR
 obtain⟨c0,c1,c2,c3,c4,c5⟩:=az an (Below.refl _ _)
 clear c2 c3 c4 c5
 go_enter Tryz.func26,Tryz.ntmps26
 go_wp2_with fail
 clear an
 refine HN.out.mono ?_
 rintro _ z ⟨rfl,rfl⟩
 have hR:=aa.out
 cases am:nameB nm
 ·rw[am,if_pos rfl] at hR
  have HE:=zh hR
  clear am hR
  go_wp2_with fail
  refine (ao _).mono ?_
  rintro _ z ⟨rfl,rfl⟩
  go_wp2_with fail
  exact⟨rfl,by rw[<-HE.out];rfl,ae.out⟩
 rw[am,if_neg (by decide)] at hR
 clear am aa HN
 have aa:=zh hR
 clear hR
 go_wp2_with fail
 refine (aj _).mono ?_
 rintro _ z ⟨rfl,rfl⟩
 go_wp2_with fail
 refine HV.out.mono ?_
 clear HV
 rintro _ u ⟨rfl,hb⟩
 have HU:=zh hb
 have ab:Hid (Below w.heap.size w u):=bt ae.out hb
 clear hb c0 c1
 by_cases h1:x1=0
 case neg =>
  have hR:=aa.out
  rw[if_pos h1] at hR
  have HE:=zh hR
  have HK:Hid (br x1=pan x1):=aT h1
  clear hR h1
  rw[HK.out]
  go_wp2_with fail
  exact⟨rfl,by rw[<-HE.out,HK.out],ab.out⟩
 have hR:=aa.out
 subst h1
 rw[if_neg (by simp)] at hR
 clear aa
 have aa:=zh hR
 clear hR
 rw[aW]
 obtain⟨c0,c1,c2,c3,c4,c5⟩:=az al.out HU.out
 clear c0 c1 c3 c4 c5
 by_cases aU:dn<=16
 case neg =>
  have hR:=aa.out
  rw[if_pos (by omega)] at hR
  have HE:=zh hR
  have d1:decide ((dn:Int)<=16)=false:=decide_eq_false (by omega)
  clear hR
  go_wp2_with fail
  refine (ao _).mono ?_
  rintro _ z ⟨rfl,rfl⟩
  go_wp2_with fail
  exact⟨rfl,by rw[<-HE.out];rfl,ab.out⟩
 have hR:=aa.out
 rw[if_neg (by omega)] at hR
 clear aa
 have aa:=zh hR
 have d1:decide ((dn:Int)<=16)=true:=decide_eq_true (by omega)
 clear hR
 go_wp2_with fail
 refine (aj _).mono ?_
 rintro _ z ⟨rfl,rfl⟩
 go_wp2_with fail
 go_loopw [21] (fun i wr=>∃ k:Nat,k<=dn/\i=.int .i64 k/\Hid (depsE (deps.drop k)=x2)/\Hid (Below W1.heap.size W1 wr)) (fun i _=>dn-(intOf i).toNat)
 case atStart=>exact⟨0,Nat.zero_le _,rfl,aD.out,HU.out⟩
 case round =>
  clear c2 HU ab
  obtain⟨k,hk,rfl,HH,HW⟩:=hrel
  have ac:Hid (Below w.heap.size w wr):=bt ae.out HW.out
  by_cases ap:k<dn
  ·have af:k<deps.length:=by rw[aA.out];exact ap
   obtain⟨ad,B,m,d,rfl,hm,hs,hc⟩:=bT HD.out k af
   have c0:=hc _ ac.out
   have ag:deps.drop k=deps[k] :: deps.drop (k+1):=List.drop_eq_getElem_cons af
   obtain⟨f1,f2⟩:=fT aK.out k af
   have hh:=HH.out
   rw[ag,oz] at hh
   obtain⟨l,hl⟩:=ex (deps[k])
   rw[hl] at hm hs f1 f2 hh
   rw[hm] at hh
   have HS:=zh hs
   have aG:=zh hm
   have aP:=zh f1
   have aQ:=zh f2
   clear hc ag hl f1 f2 hs hm
   by_cases aV:1<=m
   case neg =>
    rw[if_neg (by omega)] at hh
    have hR:=aa.out
    rw[<-hh,if_pos (by decide)] at hR
    have HE:=zh hR
    have d2:decide (1<=(m:Int))=false:=decide_eq_false (by omega)
    clear hR hh
    go_wp2_with fail
    refine (ao _).mono ?_
    rintro _ z ⟨rfl,rfl⟩
    go_wp2_with fail
    exact⟨rfl,by rw[<-HE.out];rfl,ac.out⟩
   have d2:decide (1<=(m:Int))=true:=decide_eq_true (by omega)
   by_cases aX:m<=8
   case neg =>
    rw[if_neg (by omega)] at hh
    have hR:=aa.out
    rw[<-hh,if_pos (by decide)] at hR
    have HE:=zh hR
    have d3:decide ((m:Int)<=8)=false:=decide_eq_false (by omega)
    clear hR hh
    go_wp2_with fail
    refine (ao _).mono ?_
    rintro _ z ⟨rfl,rfl⟩
    go_wp2_with fail
    exact⟨rfl,by rw[<-HE.out];rfl,ac.out⟩
   have d3:decide ((m:Int)<=8)=true:=decide_eq_true (by omega)
   rw[if_pos (by omega)] at hh
   obtain⟨y,hy⟩:=ex (atomsE l)
   have HA:=zh (gF B m d l wr (ah HM.out HW.out) aG.out (au HS.out ac.out) (by rw[<-aG.out];exact aP.out) aQ.out)
   rw[hy] at HA hh
   have ak:=zh hh
   clear hh hy
   go_wp2_with fail
   refine (aj _).mono ?_
   rintro _ z ⟨rfl,rfl⟩
   go_wp2_with fail
   refine HA.out.mono ?_
   rintro _ u2 ⟨rfl,hb⟩
   have HU:=zh (bt HW.out hb)
   have ab:Hid (Below w.heap.size w u2):=bt ae.out HU.out
   clear hb c0 HA
   by_cases h0:y=0
   ·subst h0
    have HE:Hid (depsE (deps.drop (k+1))=x2):=by have:=ak.out;rw[if_pos rfl] at this;exact this
    rw[aW]
    go_wp2_with fail
    go_roundw
    case rel=>exact⟨k+1,by omega,by go_num,HE,HU.out⟩
    case measure=>simp[intOf];omega
   ·have hh:=ak.out
    rw[if_neg h0] at hh
    have hR:=aa.out
    rw[<-hh,if_pos h0] at hR
    have HE:=zh hR
    have HK:Hid (br y=pan y):=aT h0
    clear hR h0 hh
    rw[HK.out]
    go_wp2_with fail
    exact⟨rfl,by rw[<-HE.out,HK.out],ab.out⟩
  ·obtain rfl:k=dn:=by omega
   have h2:0=x2:=by rw[<-HH.out,List.drop_eq_nil_of_le (by rw[aA.out];exact Nat.le_refl _)];rfl
   have hR:=aa.out
   rw[<-h2,if_neg (by simp)] at hR
   clear aa HH aD h2
   have aa:=zh hR
   clear hR
   obtain⟨c0,c1,c2,c3,c4,c5⟩:=az al.out HW.out
   clear c0 c1 c2 c4 c5
   by_cases aY:cn<=16
   case neg =>
    have hR:=aa.out
    rw[if_pos (by omega)] at hR
    have HE:=zh hR
    have d2:decide ((cn:Int)<=16)=false:=decide_eq_false (by omega)
    clear hR
    go_wp2_with fail
    refine (ao _).mono ?_
    rintro _ z ⟨rfl,rfl⟩
    go_wp2_with fail
    exact⟨rfl,by rw[<-HE.out];rfl,ac.out⟩
   have hR:=aa.out
   rw[if_neg (by omega)] at hR
   clear aa
   have aa:=zh hR
   have d2:decide ((cn:Int)<=16)=true:=decide_eq_true (by omega)
   clear hR
   have HA:=zh (gF C cn cc confl wr (ah HM.out HW.out) aJ.out (au HC.out ac.out) aI aL.out)
   rw[aO.out] at HA
   go_wp2_with fail
   refine (aj _).mono ?_
   rintro _ z ⟨rfl,rfl⟩
   go_wp2_with fail
   refine HA.out.mono ?_
   rintro _ u2 ⟨rfl,hb⟩
   have HU:=zh (bt HW.out hb)
   have ab:Hid (Below w.heap.size w u2):=bt ae.out HU.out
   clear hb c3 HA HW ac
   by_cases h3:x3=0
   case neg =>
    have hR:=aa.out
    rw[if_pos h3] at hR
    have HE:=zh hR
    have HK:Hid (br x3=pan x3):=aT h3
    clear hR h3
    rw[HK.out]
    go_wp2_with fail
    exact⟨rfl,by rw[<-HE.out,HK.out],ab.out⟩
   have hR:=aa.out
   rw[if_neg (by simp[h3])] at hR
   rw[h3,aW]
   clear aa h3
   have aa:=zh hR
   clear hR
   obtain⟨c0,c1,c2,c3,c4,c5⟩:=az al.out HU.out
   clear c0 c1 c2 c3 c5
   by_cases aZ:gn<=16
   case neg =>
    have hR:=aa.out
    rw[if_pos (by omega)] at hR
    have HE:=zh hR
    have d3:decide ((gn:Int)<=16)=false:=decide_eq_false (by omega)
    clear hR
    go_wp2_with fail
    refine (ao _).mono ?_
    rintro _ z ⟨rfl,rfl⟩
    go_wp2_with fail
    exact⟨rfl,by rw[<-HE.out];rfl,ab.out⟩
   have hR:=aa.out
   rw[if_neg (by omega)] at hR
   clear aa
   have aa:=zh hR
   have d3:decide ((gn:Int)<=16)=true:=decide_eq_true (by omega)
   clear hR
   go_wp2_with fail
   refine (aj _).mono ?_
   rintro _ z ⟨rfl,rfl⟩
   go_wp2_with fail
   go_loopw [53] (fun i wr=>∃ k:Nat,k<=gn/\i=.int .i64 k/\Hid (givesE (prov.drop k)=x4)/\Hid (Below W1.heap.size W1 wr)) (fun i _=>gn-(intOf i).toNat)
   case atStart=>exact⟨0,Nat.zero_le _,rfl,aE.out,HU.out⟩
   case round =>
    clear c4 HU ab
    obtain⟨k,hk,rfl,HH,HW⟩:=hrel
    have ac:Hid (Below w.heap.size w wr):=bt ae.out HW.out
    by_cases ap:k<gn
    ·have af:k<prov.length:=by rw[aC.out];exact ap
     obtain⟨ad,rfl,hc⟩:=b8 HG.out k af
     obtain⟨c0,c1⟩:=hc _ ac.out
     have ag:prov.drop k=prov[k] :: prov.drop (k+1):=List.drop_eq_getElem_cons af
     obtain⟨f1,f2⟩:=wU aM.out k af
     have hh:=HH.out
     rw[ag,mw] at hh
     obtain⟨a,ha⟩:=ex (prov[k])
     rw[ha] at c0 c1 f1 hh
     obtain⟨ay,gv⟩:=a
     dsimp only at c0 c1 f1
     obtain⟨V,hV⟩:=ex (wr.alloc (.cells #[.string ⟨ay.toArray⟩,.string ⟨gv.toArray⟩] 58))
     have aH:Hid (Below W1.heap.size W1 V):=HW.out.trans ((ai hV).mono HW.out.size)
     obtain⟨v0,v1⟩:=aB hV (Below.refl _ _)
     have HA:=zh (oy ⟨ay,gv⟩ V (ah HM.out aH.out) f1)
     obtain⟨y,hy⟩:=ex (giveE ⟨ay,gv⟩)
     rw[hy] at HA hh
     have ak:=zh hh
     clear hc ag ha f1 f2 hh hy
     go_wp2_with fail
     clear hV
     refine HA.out.mono ?_
     rintro _ u2 ⟨rfl,hb⟩
     have HU:=zh (bt aH.out hb)
     have ab:Hid (Below w.heap.size w u2):=bt ae.out HU.out
     clear hb c0 c1 v0 v1 HA
     by_cases h0:y=0
     ·subst h0
      have HE:Hid (givesE (prov.drop (k+1))=x4):=by have:=ak.out;rw[if_pos rfl] at this;exact this
      rw[aW]
      go_wp2_with fail
      go_roundw
      case rel=>exact⟨k+1,by omega,by go_num,HE,HU.out⟩
      case measure=>simp[intOf];omega
     ·have hh:=ak.out
      rw[if_neg h0] at hh
      have hR:=aa.out
      rw[<-hh,if_pos h0] at hR
      have HE:=zh hR
      have HK:Hid (br y=pan y):=aT h0
      clear hR h0 hh
      rw[HK.out]
      go_wp2_with fail
      exact⟨rfl,by rw[<-HE.out,HK.out],ab.out⟩
    ·obtain rfl:k=gn:=by omega
     have h2:0=x4:=by rw[<-HH.out,List.drop_eq_nil_of_le (by rw[aC.out];exact Nat.le_refl _)];rfl
     have hR:=aa.out
     rw[<-h2,if_neg (by simp)] at hR
     clear aa HH aE h2
     have HR:=zh hR
     clear hR
     obtain⟨c0,c1,c2,c3,c4,c5⟩:=az al.out HW.out
     clear c0 c1 c2 c3 c4
     have HA:=zh (wT wt aN.out wr)
     rw[aF.out,HR.out] at HA
     clear aF HR
     go_wp2_with fail
     refine HA.out.mono ?_
     rintro _ u2 ⟨rfl,rfl⟩
     go_wp2_with fail
     refine (cj R _).mono ?_
     rintro _ u2 ⟨rfl,rfl⟩
     by_cases h0:R=0
     ·subst h0
      rw[aW]
      go_wp2_with fail
      go_end0
      exact⟨rfl,ac.out⟩
     ·have HK:Hid (br R=pan R):=aT h0
      clear h0
      rw[HK.out]
      go_wp2_with fail
      exact⟨rfl,by rw[HK.out],ac.out⟩
end
section
open Go.RowKit Rs At Pg
theorem tG (p:Addr)(x:Int)(n:Int)(w:World)(hc:w.cell? p=some (.int .i64 x))(hz:w.frozen? p=false) :
  CallsD Tryz.prog 24 #[.pointer (some p)] (.panicking [{ v:=.iface 36 (.int .i64 n),recovered:=false }]) w fun e u' w' =>
   e=.returned (.tuple #[])/\u'=.panicking [{ v:=.iface 36 (.int .i64 n),recovered:=true }]/\w'=w.setCell p (.int .i64 n):=by
 refine callsD_of_wpS Tryz.func24 rfl fun c₀ cs hu=>?_
 apply wpS_region
 simp[wpOpsS,go_sem,recoverD,hu,Tryz.ntmps24]
 refine (cO n _).mono ?_
 rintro e w' ⟨rfl,rfl⟩
 simp[go_sem,hc,hz,bodyPostS,results,Tryz.results24]
theorem vC (p:Addr)(x:Int)(w:World)(hc:w.cell? p=some (.int .i64 x))(hz:w.frozen? p=false) :
  CallsD Tryz.prog 24 #[.pointer (some p)] .returning w fun e u' w'=>e=.returned (.tuple #[])/\u'=.returning/\w'=w.setCell p (.int .i64 0):=by
 refine callsD_of_wpS Tryz.func24 rfl fun c₀ cs hu=>?_
 apply wpS_region
 simp[wpOpsS,go_sem,recoverD,hu,Tryz.ntmps24]
 refine (cN _).mono ?_
 rintro e w' ⟨rfl,rfl⟩
 cases c₀
 simp_all [go_sem,bodyPostS,results,Tryz.results24]
attribute [local go_sem ↓] Go.wp_at_zero Go.wp_at_succ
theorem tH (p:Pk)(D C G:Option Addr)(dn dc cn cc gn gc:Nat)(w:World)(hw:MaxOk w)(hd:Pg.DRow w D p.deps)(hdn:p.deps.length=dn)(hc:ARow w C p.confl)(hcn:p.confl.length=cn)(hg:GRow w G p.prov)(hgn:p.prov.length=gn)(hf:PFew p) :
  Calls Tryz.prog 7 #[.agg #[.string ⟨p.name.toArray⟩,.string ⟨p.ver.toArray⟩,.slice D dn dc,.slice C cn cc,.slice G gn gc,.float .f64 p.wt]] w fun e w'=>e=.returned (.int .i64 (checkP p))/\Below w.heap.size w w':=by
 have ap:∀ (fn:Fn) (first cap:Array Value) (w:World),(Instr.makeFunc fn first cap).run Tryz.prog w=.ok (.func fn first cap) w:=fun _ _ _ _=>rfl
 obtain⟨K,hK⟩:=ex (checkP p)
 rw[hK]
 obtain⟨W1,ad⟩:=ex (w.alloc (.cells #[.string ⟨p.name.toArray⟩,.string ⟨p.ver.toArray⟩,.slice D dn dc,.slice C cn cc,.slice G gn gc,.float .f64 p.wt] 34))
 have am:=zh (ai ad)
 have af:W1.heap.size=w.heap.size+1:=by rw[<-ad];simp
 obtain⟨W2,ae⟩:=ex (W1.alloc (.cells #[.int .i64 0] 36))
 have ag:=zh (ai ae)
 have ac:Hid (Below w.heap.size w W2):=bt am.out ag.out
 have HR:=zh (pK p D C G dn dc cn cc gn gc W2 (ah hw ac.out) (drowD_below hd ac.out) hdn (au hc ac.out) hcn (Rg.ak hg ac.out) hgn hf)
 rw[hK] at HR
 obtain⟨k0,k1,k2,k3,k4,k5⟩:=az ad ag.out
 have an:=zh ae
 clear hw hd hdn hc hcn hg hgn hf hK
 go_enter_defers Tryz.func7,Tryz.ntmps7
 go_wp2_with fail
 have ao:=zh af
 clear ad ae af
 refine HR.out.mono ?_
 rintro _ w1 ⟨rfl,hb⟩
 have aj:Below (W1.heap.size+1) (W1.alloc (.cells #[.int .i64 0] 36)) w1:=by have h:=hb;rw[<-an.out] at h;simpa using h
 obtain⟨aa,ab⟩:=bw W1 w1 _ _ aj
 have al:Hid (Below w.heap.size w w1):=bt ac.out hb
 rw[ao.out] at aa ab
 clear hb aj k0 k1 k2 k3 k4 k5 HR
 by_cases hk:K=0
 ·subst hk
  rw[aW]
  go_wp2_with fail
  refine leaves_cons (f:=24) (args:=#[.pointer (some ⟨w.heap.size+1,0,none⟩)]) (by simp) (by simp[go_sem]) ?_
  refine (vC ⟨w.heap.size+1,0,none⟩ 0 _ ?_ ?_).mono ?_
  ·simp[go_sem,aa]
  ·simp[go_sem,ab]
  rintro e u' w3 ⟨rfl,rfl,rfl⟩
  simp[Leaves,settle,results,Tryz.results7,go_sem,aa]
  exact (al.out.setCell (Nat.le_succ _) _).setCell (Nat.le_succ _) _
 ·rw[aT hk]
  go_wp2_with fail
  refine leaves_cons (f:=24) (args:=#[.pointer (some ⟨w.heap.size+1,0,none⟩)]) (by simp) (by simp[go_sem]) ?_
  refine (tG ⟨w.heap.size+1,0,none⟩ 0 _ _ ?_ ?_).mono ?_
  ·simp[go_sem,aa]
  ·simp[go_sem,ab]
  rintro e u' w3 ⟨rfl,rfl,rfl⟩
  simp[Leaves,settle,results,Tryz.results7,go_sem,aa]
  exact al.out.setCell (Nat.le_succ _) _
end
namespace Sz
structure Fld where
 key:List UInt8
 val:List UInt8
 line:Int
 deriving DecidableEq
def valC (c:UInt8):Bool:=decide (32<=c.toNat)&&decide (c.toNat<=126)
def keyB (s:List UInt8):Bool:=s.all Vm.ltr&&(!s.isEmpty&&decide (s.length<=16))
def valB (s:List UInt8):Bool:=s.all valC
def mark:List UInt8:=[58,32]
def fieldP (s:List UInt8) (n:Int):Option Fld :=
 if 0<=Lib.index s mark/\keyB (s.take (Lib.index s mark).toNat)=true/\valB (s.drop ((Lib.index s mark).toNat+2))=true then
  some ⟨s.take (Lib.index s mark).toNat,s.drop ((Lib.index s mark).toNat+2),n⟩ else none
def hasK (l:List Fld) (k:List UInt8):Bool:=l.any (fun f=>f.key==k)
def readL:Nat->List (List UInt8)->List (List Fld)->List Fld->Int × Int × List (List Fld)
 | _,[],acc,last=>(0,0,if last.isEmpty then acc else acc++[last])
 | n,s :: ls,acc,last =>
  if s.isEmpty then (if last.isEmpty||ls.isEmpty then (2,n,[]) else readL (n+1) ls (acc++[last]) [])
  else match fieldP s n with
   | none=>(2,n,[])
   | some f=>if hasK last f.key then (6,n,[]) else readL (n+1) ls acc (last++[f])
def linesL (s:List UInt8):List (List UInt8):=(Lib.split s [10]).dropLast
def endB (s:List UInt8):Bool:=s.isEmpty||s.getLast? == some 10
def parseS (s:List UInt8):Int × Int × List (List Fld) :=
 if 65536<s.length then (4,0,[]) else if endB s then readL 0 (linesL s) [] [] else (2,0,[])
def fieldT (f:Fld):List UInt8:=f.key++mark++f.val++[10]
def stanzaT (l:List Fld):List UInt8:=l.flatMap fieldT
def textS:List (List Fld)->List UInt8
 | []=>[]
 | [l]=>stanzaT l
 | l :: m :: r=>stanzaT l++[10]++textS (m :: r)
def joinL (ls:List (List UInt8)):List UInt8:=ls.flatMap (fun s=>s++[10])
theorem jI {s:List UInt8}{n:Int}{f:Fld}(h:fieldP s n=some f):f.key++mark++f.val=s/\f.line=n/\keyB f.key=true/\valB f.val=true:=by
 unfold fieldP at h
 split at h
 ·rename_i hc
  obtain⟨h0,h1,h2⟩:=hc
  cases h
  refine⟨?_,rfl,h1,h2⟩
  dsimp only
  obtain⟨i,hi⟩:∃ i:Nat,Lib.index s mark=i:=⟨(Lib.index s mark).toNat,by omega⟩
  rw[hi]
  have ho:Lib.occAt s mark i=true:=by
   rcases Lib.index_spec s mark with⟨h1,_⟩ | ⟨j,h1,_,h3,_⟩
   ·omega
   ·have:j=i:=by omega
    exact this ▸ h3
  unfold Lib.occAt at ho
  obtain⟨t,ht⟩:=List.isPrefixOf_iff_prefix.1 ho
  show s.take i++mark++s.drop (i+2)=s
  have e:s.drop (i+2)=t:=by rw[<-List.drop_drop,<-ht];rfl
  rw[e,List.append_assoc,ht,List.take_append_drop]
 ·cases h
theorem k6 (l:List Fld)(f:Fld):stanzaT (l++[f])=stanzaT l++fieldT f:=by
 unfold stanzaT;rw[List.flatMap_append];simp
theorem dA:∀ (acc:List (List Fld)) (l:List Fld),textS (acc++[l])=(if acc.isEmpty then [] else textS acc++[10])++stanzaT l
 | [],l=>rfl
 | [a],l=>by show stanzaT a++[10]++stanzaT l=_;rfl
 | a :: b :: r,l=>by
  have ih:=dA (b :: r) l
  show stanzaT a++[10]++textS (b :: r++[l])=_
  rw[ih]
  show _=(stanzaT a++[10]++textS (b :: r)++[10])++stanzaT l
  simp
theorem jJ (s:List UInt8)(ls:List (List UInt8)):joinL (s :: ls)=s++[10]++joinL ls:=by unfold joinL;rw[List.flatMap_cons]
theorem k7:∀ (ls:List (List UInt8)) (n:Nat) (acc:List (List Fld)) (last:List Fld) (r:List (List Fld)) (k:Int),readL n ls acc last=(0,k,r) ->
  k=0/\textS r=textS (acc++[last])++joinL ls\/(k=0/\ls=[]/\last=[]/\r=acc)
 | [],n,acc,last,r,k,h=>by
  unfold readL at h
  cases last with
  | nil=>right;injection h with _ h;injection h with h1 h2;exact⟨h1.symm,rfl,rfl,h2.symm⟩
  | cons f l=>left;injection h with _ h;injection h with h1 h2;subst h2;exact⟨h1.symm,by simp[joinL]⟩
 | s :: ls,n,acc,last,r,k,h=>by
  unfold readL at h
  split at h
  ·rename_i hs
   have hs0:s=[]:=by simpa using hs
   subst hs0
   split at h
   ·injection h with h _;cases h
   ·rename_i hl
    have ab:last≠[]:=fun e=>hl (by simp[e])
    have aa:ls≠[]:=fun e=>hl (by simp[e])
    rcases k7 ls (n+1) (acc++[last]) [] r k h with⟨hk,ht⟩ | ⟨_,h2,_,_⟩
    ·left
     refine⟨hk,?_⟩
     rw[ht,dA (acc++[last]) [],jJ]
     simp[stanzaT]
    ·exact absurd h2 aa
  ·rename_i hs
   cases hf:fieldP s n with
   | none=>rw[hf] at h;injection h with h _;cases h
   | some f =>
    rw[hf] at h
    dsimp only at h
    split at h
    ·injection h with h _;cases h
    ·obtain⟨h1,_,_,_⟩:=jI hf
     rcases k7 ls (n+1) acc (last++[f]) r k h with⟨hk,ht⟩ | ⟨_,_,h3,_⟩
     ·left
      refine⟨hk,?_⟩
      rw[ht,dA,dA,k6,jJ]
      unfold fieldT
      rw[h1]
      simp
     ·exact absurd h3 (by simp)
theorem ady (a r:List UInt8)(h:(10:UInt8) ∉ a):Lib.split (a++10 :: r) [10]=a :: Lib.split r [10]:=by
 have hi:Lib.index (a++10 :: r) [10]=a.length:=by
  refine Lib.index_first (by simp) ?_ fun j hj=>?_
  ·unfold Lib.occAt;rw[List.drop_left];rfl
  ·cases ho:Lib.occAt (a++10 :: r) [10] j with
   | false=>rfl
   | true =>
    have h2:=Lib.occAt_head (c:=10) (t:=[]) rfl ho
    rw[List.getElem?_append_left hj] at h2
    exact absurd (List.mem_of_getElem? h2) h
 rw[At.kN (by simp) hi,List.take_left]
 have e:(a++10 :: r).drop (a.length+([10]:List UInt8).length)=r:=by
  rw[<-List.drop_drop,List.drop_left];rfl
 rw[e]
theorem oA (s:List UInt8):Lib.split s [10]≠[]:=by
 unfold Lib.split
 cases Lib.count s [10] with
 | zero=>unfold Lib.splitK;simp
 | succ k=>unfold Lib.splitK;split <;> simp
theorem zX (a r:List UInt8)(h:(10:UInt8) ∉ a):linesL (a++10 :: r)=a :: linesL r:=by
 unfold linesL
 rw[ady a r h,List.dropLast_cons_of_ne_nil (oA r)]
theorem adz (s:List UInt8):((10:UInt8) ∉ s)\/∃ a r,s=a++10 :: r/\(10:UInt8) ∉ a:=by
 induction s with
 | nil=>left;simp
 | cons b l ih =>
  by_cases hb:b=10
  ·right;exact⟨[],l,by rw[hb];rfl,by simp⟩
  ·rcases ih with h | ⟨a,r,e,h⟩
   ·left;intro hm;rcases List.mem_cons.1 hm with e | e
    ·exact hb e.symm
    ·exact h e
   ·right
    refine⟨b :: a,r,by rw[e];rfl,fun hm=>?_⟩
    rcases List.mem_cons.1 hm with e | e
    ·exact hb e.symm
    ·exact h e
theorem jK:∀ (k:Nat) (s:List UInt8),s.length<=k->endB s=true->joinL (linesL s)=s
 | 0,s,hk,_=>by
  have:s=[]:=List.length_eq_zero_iff.1 (by omega)
  subst this;rfl
 | k+1,s,hk,he=>by
  rcases adz s with h | ⟨a,r,e,h⟩
  ·unfold endB at he
   rw[Bool.or_eq_true] at he
   rcases he with he | he
   ·have:s=[]:=by simpa using he
    subst this;rfl
   ·exact absurd (List.mem_of_getLast? (by simpa using he)) h
  ·subst e
   rw[zX a r h,jJ]
   have hr:endB r=true:=by
    unfold endB at he ⊢
    cases r with
    | nil=>rfl
    | cons b l =>
     rw[Bool.or_eq_true] at he ⊢
     rcases he with he | he
     ·simp at he
     ·right
      rw[List.getLast?_append] at he
      have e2:(10 :: b :: l).getLast? = (b :: l).getLast?:=by rw[List.getLast?_cons_cons]
      rw[e2] at he
      obtain⟨x,hx⟩:∃ x,(b :: l).getLast? = some x:=⟨_,List.getLast?_eq_some_getLast (by simp)⟩
      rw[hx] at he ⊢
      exact he
   rw[jK k r (by simp at hk;omega) hr]
   simp
theorem eE {s:List UInt8}{k:Int}{r:List (List Fld)}(h:parseS s=(0,k,r)):k=0/\textS r=s:=by
 unfold parseS at h
 split at h
 ·injection h with h _;cases h
 ·split at h
  ·rename_i he
   rcases k7 _ _ _ _ _ _ h with⟨h1,h2⟩ | ⟨h1,h2,_,h4⟩
   ·refine⟨h1,?_⟩
    rw[h2,jK s.length s (Nat.le_refl _) he];rfl
   ·refine⟨h1,?_⟩
    rw[h4,<-jK s.length s (Nat.le_refl _) he,h2];rfl
  ·injection h with h _;cases h
end Sz
end Go.Proofs.YtpfkphmldalmmaaGreatDoor

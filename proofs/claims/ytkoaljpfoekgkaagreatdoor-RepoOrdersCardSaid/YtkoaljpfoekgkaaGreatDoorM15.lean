/- Part 15 of what the laws lean on. -/
import Derived.Test.YtkoaljpfoekgkaaGreatDoorM14
import Derived.Lib.AppendIntMem
import Derived.Lib.ItoaLen
set_option maxRecDepth 100000
set_option maxHeartbeats 2000000
namespace Go.Proofs.YtkoaljpfoekgkaaGreatDoor
section
open Go.RowKit Rs At Pg
def Pg.hasL (l:List Sp) (v:List UInt8):Bool:=hasR (l.map Sp.piece) v
def Pg.givM (g:Gv) (a:Atm):Bool:=decide (g.name=a.name)&&(if g.ver=[] then decide (a.rng=allR.map spOf) else hasL a.rng g.ver)
def Pg.metP (p:Pk) (a:Atm):Bool:=(decide (p.name=a.name)&&hasL a.rng p.ver)||p.prov.any (fun g=>givM g a)
attribute [local go_sem ↓] Go.wp_at_zero Go.wp_at_succ
theorem o5 (g:Gv)(nm:List UInt8)(A:Option Addr)(n c:Nat)(l:List Sp)(w:World)(hw:MaxOk w)(hn:l.length=n)(hr:SRow w A l)(hl:n<=64)(hk:checkR l=0)(hv:g.ver=[]\/Vm.check g.ver=0) :
  Calls Tryz.prog 76 #[.agg #[.string ⟨g.name.toArray⟩,.string ⟨g.ver.toArray⟩],.agg #[.string ⟨nm.toArray⟩,.slice A n c]] w fun e w'=>e=.returned (.bool (givM g ⟨nm,l⟩))/\Below w.heap.size w w':=by
 obtain⟨gn,gv⟩:=g
 dsimp only at hv ⊢
 obtain⟨R,hR⟩:=ex (givM ⟨gn,gv⟩ ⟨nm,l⟩)
 rw[hR]
 unfold givM at hR
 dsimp only at hR
 obtain⟨V,hV⟩:=ex (w.alloc (.cells #[.string ⟨gn.toArray⟩,.string ⟨gv.toArray⟩] 128))
 obtain⟨b,hb⟩:=ex V.heap.size
 obtain⟨U,hU⟩:=ex (V.alloc (.cells #[.string ⟨nm.toArray⟩,.slice A n c] 54))
 have ac:Hid (Bx2 b nm A n c U):=by rw[<-hU,<-hb];exact dG V nm A n c _
 have ag:Hid (Below V.heap.size V U):=ab hU
 have ae:b<U.heap.size:=by rw[<-hU,<-hb];simp
 have HB:Hid (Below w.heap.size w U):=(ab hV).trans (ag.out.mono (ab hV).size)
 have ah:Hid (MaxOk U):=aa hw HB.out
 have ai:Hid (SRow U A l):=aj hr HB.out
 have HN:=zh hn
 have HK:=zh hk
 have HR:=zh hR
 obtain⟨c0,c1⟩:=ao hV ag.out
 obtain⟨k0,k1⟩:=ac.out
 clear hw hn hr hk hR
 by_cases e1:gn=nm
 case neg =>
  have d1:(gn != nm)=true:=by simp[e1]
  have d0:(gn==nm)=false:=beq_eq_false_iff_ne.2 e1
  have HF:Hid (R=false):=by show _=_;rw[<-HR.out,decide_eq_false e1,Bool.false_and]
  clear e1
  go_enter Tryz.func76,Tryz.ntmps76
  go_wp2_with fail
  go_ret
  exact⟨by rw[HF.out];rfl,HB.out⟩
 have d1:(gn != nm)=false:=by simp[e1]
 have d0:(gn==nm)=true:=beq_iff_eq.2 e1
 by_cases e2:gv=[]
 ·have e:(gv==[])=true:=by rw[e2];rfl
  obtain⟨sm,af⟩:=ex (decide (l=allR.map spOf))
  have ap:=zh af
  have HF:Hid (sm=R):=by show _=_;rw[<-HR.out,decide_eq_true e1,if_pos e2,Bool.true_and];exact af.symm
  clear e1 e2 af hv
  go_enter Tryz.func76,Tryz.ntmps76
  go_wp2_with fail
  clear hb hV hU c0 c1
  have ak:Hid (St U U.drew [⟨A,n,l⟩]):=⟨ah.out,(Below.refl _ _).drew,fun x hx=>by rw[List.mem_singleton.1 hx];exact⟨aj ai.out (Below.refl _ _).drew,HN.out⟩⟩
  go_region_held3 (fun w'=>w'.cell? ⟨b,0,none⟩=some (.string ⟨nm.toArray⟩)/\w'.cell? ⟨b,1,none⟩=some (.slice A n c))
   (first
    | exact aK ac.out ae ak.out.2.1
    | exact aK ac.out ae ad.out.2.1
    | exact aK ac.out ae am.out.2.1)
   (first
    | (go_at_call 16;refine (vQ ak.out allR rfl).mono ?_;rintro _ u2 ⟨C,m2,d,rfl,hs⟩;have ad:=zh hs;have al:m2=1:=(aL hs 0 rfl).2.symm;have aq:=zh al;clear hs al)
    | (go_at_call 105;refine (xI ad.out 1 0 rfl rfl (by omega) (by rw[aq.out];decide) _ _ sm ap.out).mono ?_;rintro _ u3 ⟨rfl,hs⟩;have am:=zh hs;clear hs))
  go_wp2_with fail
  go_ret
  exact⟨by rw[<-HF.out];rfl,HB.out.trans (am.out.2.1.mono HB.out.size)⟩
 ·have e:(gv==[])=false:=beq_eq_false_iff_ne.2 e2
  have an:Vm.check gv=0:=hv.resolve_left e2
  have HF:Hid (hasR (l.map Sp.piece) gv=R):=by show _=_;rw[<-HR.out,decide_eq_true e1,if_neg e2,Bool.true_and];rfl
  have HS:Hid (St U U [⟨A,n,l⟩]):=⟨ah.out,Below.refl _ _,fun x hx=>by rw[List.mem_singleton.1 hx];exact⟨ai.out,HN.out⟩⟩
  have HH:=zh (xU HS.out 0 rfl HK.out c gv an R HF.out)
  clear e1 e2 hv an
  go_enter Tryz.func76,Tryz.ntmps76
  go_wp2_with fail
  clear hb hV hU c0 c1
  refine HH.out.mono ?_
  rintro _ u2 ⟨rfl,hs⟩
  have ad:=zh hs.2.1
  clear hs
  go_wp2_with fail
  go_ret
  exact⟨rfl,bt HB.out ad.out⟩
theorem wh (g:Gv)(b:Nat)(nm:List UInt8)(A:Option Addr)(n c:Nat)(l:List Sp)(w:World)(hw:MaxOk w)(hn:l.length=n)(hr:SRow w A l)(hl:n<=64)(hk:checkR l=0)(hv:g.ver=[]\/Vm.check g.ver=0)(hx:Bx2 b nm A n c w)(hb:b<w.heap.size) :
  Calls Tryz.prog 75 #[.agg #[.string ⟨g.name.toArray⟩,.string ⟨g.ver.toArray⟩],.pointer (some ⟨b,0,none⟩)] w fun e w'=>e=.returned (.bool (givM g ⟨nm,l⟩))/\Below w.heap.size w w':=by
 obtain⟨V,hV⟩:=ex (w.alloc (.cells #[.string ⟨g.name.toArray⟩,.string ⟨g.ver.toArray⟩] 128))
 have HB:Hid (Below w.heap.size w V):=ab hV
 have HG:=zh (o5 g nm A n c l V (aa hw HB.out) hn (aj hr HB.out) hl hk hv)
 obtain⟨c0,c1⟩:=ao hV (Below.refl _ _)
 obtain⟨k0,k1⟩:=aK hx hb HB.out
 clear hw hn hr hl hk hv hx hb
 go_enter Tryz.func75,Tryz.ntmps75
 go_wp2_with fail
 refine HG.out.mono ?_
 rintro _ u ⟨rfl,hb⟩
 have HU:Hid (Below w.heap.size w u):=bt HB.out hb
 clear hb
 go_wp2_with fail
 go_ret
 exact⟨rfl,HU.out⟩
theorem tF (A:Option Addr)(n c:Nat)(l:List Gv)(b:Nat)(nm:List UInt8)(B:Option Addr)(m d:Nat)(r:List Sp)(w:World)(hw:MaxOk w)(hn:l.length=n)(hr:GRow w A l)(hl:n<=1000000)(ho:∀ g∈l,g.ver=[]\/Vm.check g.ver=0)(hm:r.length=m)(hq:SRow w B r)(hm2:m<=64)(hk:checkR r=0)(hx:Bx2 b nm B m d w)(hb:b<w.heap.size) :
  Calls Tryz.prog 110 #[.slice A n c,.func (.func 75) #[] #[.pointer (some ⟨b,0,none⟩)]] w (IdxRet w (l.any fun g=>givM g ⟨nm,r⟩)):=by
 have HR:=zh hr
 have HN:=zh hn
 have HO:=zh ho
 have HC:=zh (fun (g:Gv) (hv:g.ver=[]\/Vm.check g.ver=0) (W:World) (h:Below w.heap.size w W)=>wh g b nm B m d r W (aa hw h) hm (aj hq h) hm2 hk hv (aK hx hb h) (Nat.lt_of_lt_of_le hb h.size))
 obtain⟨X,hX⟩:=ex (l.any fun g=>givM g ⟨nm,r⟩)
 rw[hX]
 obtain⟨f,hf⟩:∃ f:Gv->Bool,(fun g=>givM g ⟨nm,r⟩)=f:=⟨_,rfl⟩
 rw[hf] at hX
 have HF:Hid (∀ g,givM g ⟨nm,r⟩=f g):=fun g=>by rw[<-hf]
 have HX:Hid (X=l.any f):=hX.symm
 clear hw hr hn ho hm hq hm2 hk hx hb hX hf
 go_enter Tryz.func110,Tryz.ntmps110
 go_wp2_with fail
 go_loopw [8] (fun i wr=>∃ k:Nat,k<=n/\i=.int .i64 k/\Hid ((l.take k).any f=false)/\Hid (Below w.heap.size w wr)) (fun i _=>n-(intOf i).toNat)
 case atStart=>exact⟨0,Nat.zero_le _,rfl,rfl,Below.refl _ _⟩
 case round =>
  obtain⟨k,hk,rfl,HA,HB⟩:=hrel
  by_cases ah:k<n
  ·have ab:k<l.length:=by rw[HN.out];exact ah
   obtain⟨ad,rfl,hc⟩:=gJ HR.out k ab
   obtain⟨c0,c1⟩:=hc _ HB.out
   have HS:Hid ((l.take (k+1)).any f=((l.take k).any f||f l[k])):=by show _=_;rw[List.take_succ_eq_append_getElem ab,List.any_append];simp
   have HY:Hid (f l[k]=true->X=true):=fun h=>by rw[HX.out];exact List.any_eq_true.2 ⟨_,List.getElem_mem ab,h⟩
   have ac:=HO.out _ (List.getElem_mem ab)
   generalize l[k]=g at c0 c1 HS HY ac
   have HG:=HC.out g ac wr HB.out
   rw[HF.out] at HG
   have ae:=zh HG
   clear HG hc ab ac
   go_wp2_with fail
   refine ae.out.mono ?_
   rintro _ w1 ⟨rfl,ag⟩
   have af:Hid (Below w.heap.size w w1):=bt HB.out ag
   clear ag c0 c1 ae
   cases hp:f g
   ·have ai:Hid ((l.take (k+1)).any f=false):=by show _=_;rw[HS.out,HA.out];exact hp
    clear hp
    go_wp2_with fail
    go_roundw
    case rel=>exact⟨k+1,by omega,by go_num,ai.out,af.out⟩
    case measure=>simp[intOf];omega
   ·have ak:Hid (X=true):=HY.out hp
    clear hp
    go_wp2_with fail
    go_ret
    exact⟨⟨k,rfl,by rw[ak.out];exact decide_eq_true (by omega)⟩,af.out⟩
  ·have al:Hid (X=false):=by
    show _=_
    have:=HA.out
    rw[List.take_of_length_le (by rw[HN.out];omega)] at this
    rw[HX.out];exact this
   go_wp2_with fail
   go_ret
   exact⟨⟨-1,rfl,by rw[al.out];rfl⟩,HB.out⟩
theorem tG (A:Option Addr)(n c:Nat)(l:List Gv)(b:Nat)(nm:List UInt8)(B:Option Addr)(m d:Nat)(r:List Sp)(w:World)(hw:MaxOk w)(hn:l.length=n)(hr:GRow w A l)(hl:n<=1000000)(ho:∀ g∈l,g.ver=[]\/Vm.check g.ver=0)(hm:r.length=m)(hq:SRow w B r)(hm2:m<=64)(hk:checkR r=0)(hx:Bx2 b nm B m d w)(hb:b<w.heap.size) :
  Calls Tryz.prog 74 #[.slice A n c,.func (.func 75) #[] #[.pointer (some ⟨b,0,none⟩)]] w fun e w'=>e=.returned (.bool (l.any fun g=>givM g ⟨nm,r⟩))/\Below w.heap.size w w':=by
 have HC:=zh (tF A n c l b nm B m d r w hw hn hr hl ho hm hq hm2 hk hx hb)
 obtain⟨X,hX⟩:=ex (l.any fun g=>givM g ⟨nm,r⟩)
 rw[hX] at HC ⊢
 clear hw hn hr hl ho hm hq hm2 hk hx hb hX
 go_enter Tryz.func74,Tryz.ntmps74
 go_wp2_with fail
 refine HC.out.mono ?_
 rintro _ w1 ⟨⟨m,rfl,hm⟩,hb⟩
 have HB:=zh hb
 clear hb
 cases X
 all_goals
  go_wp2_with fail
  go_ret
  exact⟨rfl,HB.out⟩
theorem rh (p:Pk)(D C G:Option Addr)(dn dc cn cc gn gc:Nat)(nm:List UInt8)(B:Option Addr)(m d:Nat)(r:List Sp)(w:World)(hw:MaxOk w)(hg:GRow w G p.prov)(hgn:p.prov.length=gn)(hgl:gn<=1000000)(ho:∀ g∈p.prov,g.ver=[]\/Vm.check g.ver=0)(hv:Vm.check p.ver=0)(hm:r.length=m)(hq:SRow w B r)(hm2:m<=64)(hk:checkR r=0) :
  Calls Tryz.prog 45 #[.agg #[.string ⟨p.name.toArray⟩,.string ⟨p.ver.toArray⟩,.slice D dn dc,.slice C cn cc,.slice G gn gc,.float .f64 p.wt],.agg #[.string ⟨nm.toArray⟩,.slice B m d]] w fun e w'=>e=.returned (.bool (metP p ⟨nm,r⟩))/\Below w.heap.size w w':=by
 have ao:∀ (fn:Fn) (first cap:Array Value) (w:World),(Instr.makeFunc fn first cap).run Tryz.prog w=.ok (.func fn first cap) w:=fun _ _ _ _=>rfl
 obtain⟨pn,pv,ag,ac,prov,wt⟩:=p
 dsimp only at hg hgn ho hv ⊢
 obtain⟨R,hR⟩:=ex (metP ⟨pn,pv,ag,ac,prov,wt⟩ ⟨nm,r⟩)
 rw[hR]
 unfold metP at hR
 dsimp only at hR
 obtain⟨V,hV⟩:=ex (w.alloc (.cells #[.string ⟨pn.toArray⟩,.string ⟨pv.toArray⟩,.slice D dn dc,.slice C cn cc,.slice G gn gc,.float .f64 wt] 39))
 obtain⟨b,hb⟩:=ex V.heap.size
 obtain⟨U,hU⟩:=ex (V.alloc (.cells #[.string ⟨nm.toArray⟩,.slice B m d] 54))
 have HV:=zh hV
 have af:Hid (Bx2 b nm B m d U):=by rw[<-hU,<-hb];exact dG V nm B m d _
 have ae:Hid (Below V.heap.size V U):=ab hU
 have ai:b<U.heap.size:=by rw[<-hU,<-hb];simp
 have HB:Hid (Below w.heap.size w U):=(ab hV).trans (ae.out.mono (ab hV).size)
 have HC:=zh (fun (W:World) (h:Below U.heap.size U W)=>tG G gn gc prov b nm B m d r W (aa hw (bt HB.out h)) hgn (Rg.ah hg (bt HB.out h)) hgl ho hm (aj hq (bt HB.out h)) hm2 hk (aK af.out ai h) (Nat.lt_of_lt_of_le ai h.size))
 obtain⟨y,hy⟩:=ex (prov.any fun g=>givM g ⟨nm,r⟩)
 rw[hy] at HC hR
 obtain⟨x,hx⟩:=ex (hasL r pv)
 rw[hx] at hR
 have HS:Hid (St U U [⟨B,m,r⟩]):=⟨aa hw HB.out,Below.refl _ _,fun x hx=>by rw[List.mem_singleton.1 hx];exact⟨aj hq HB.out,hm⟩⟩
 have HH:=zh (xU HS.out 0 rfl hk d pv hv x hx)
 have HR:=zh hR
 clear hw hg hgn hgl ho hv hm hq hm2 hk hR hy hx
 by_cases e1:pn=nm
 case neg =>
  have d0:(pn==nm)=false:=beq_eq_false_iff_ne.2 e1
  have HF:Hid (y=R):=by show _=_;rw[<-HR.out,decide_eq_false e1,Bool.false_and,Bool.false_or]
  obtain⟨c0,-,-,-,c4,-⟩:=ak HV.out ae.out
  obtain⟨k0,k1⟩:=af.out
  clear e1
  go_enter Tryz.func45,Tryz.ntmps45
  go_wp2_with fail
  refine (HC.out _ (Below.refl _ _)).mono ?_
  rintro _ u ⟨rfl,ad⟩
  have HU:Hid (Below w.heap.size w u):=bt HB.out ad
  clear ad
  go_wp2_with fail
  go_ret
  exact⟨by rw[<-HF.out];rfl,HU.out⟩
 have d0:(pn==nm)=true:=beq_iff_eq.2 e1
 have al:Hid ((x||y)=R):=by show _=_;rw[<-HR.out,decide_eq_true e1,Bool.true_and]
 obtain⟨c0,c1,-,-,-,-⟩:=ak HV.out ae.out
 obtain⟨k0,k1⟩:=af.out
 clear e1 HR
 go_enter Tryz.func45,Tryz.ntmps45
 go_wp2_with fail
 clear hV hU c0 c1 k0 k1
 refine HH.out.mono ?_
 rintro _ u ⟨rfl,hs⟩
 have HU:=zh hs.2.1
 have am:Hid (Below w.heap.size w u):=bt HB.out HU.out
 clear hs
 cases x
 case true =>
  have HF:Hid (true=R):=al.out
  go_wp2_with fail
  go_ret
  exact⟨by rw[<-HF.out];rfl,am.out⟩
 have HF:Hid (y=R):=al.out
 obtain⟨-,-,-,-,c4,-⟩:=ak HV.out (bt ae.out HU.out)
 go_wp2_with fail
 refine (HC.out _ HU.out).mono ?_
 rintro _ u2 ⟨rfl,ad⟩
 have an:Hid (Below w.heap.size w u2):=bt am.out ad
 clear ad
 go_wp2_with fail
 go_ret
 exact⟨by rw[<-HF.out];rfl,an.out⟩
end
namespace Sz
structure Fld where
 key:List UInt8
 val:List UInt8
 line:Int
 deriving DecidableEq
def valC (c:UInt8):Bool:=decide (32<=c.toNat)&&decide (c.toNat<=126)
def keyB (s:List UInt8):Bool:=s.all Vm.ltr&&(!s.isEmpty&&decide (s.length<=16))
def valB (s:List UInt8):Bool:=s.all valC
def mark:List UInt8:=[58,32]
def fieldP (s:List UInt8) (n:Int):Option Fld :=
 if 0<=Lib.index s mark/\keyB (s.take (Lib.index s mark).toNat)=true/\valB (s.drop ((Lib.index s mark).toNat+2))=true then
  some ⟨s.take (Lib.index s mark).toNat,s.drop ((Lib.index s mark).toNat+2),n⟩ else none
def hasK (l:List Fld) (k:List UInt8):Bool:=l.any (fun f=>f.key==k)
def readL:Nat->List (List UInt8)->List (List Fld)->List Fld->Int × Int × List (List Fld)
 | _,[],acc,last=>(0,0,if last.isEmpty then acc else acc++[last])
 | n,s :: ls,acc,last =>
  if s.isEmpty then (if last.isEmpty||ls.isEmpty then (2,n,[]) else readL (n+1) ls (acc++[last]) [])
  else match fieldP s n with
   | none=>(2,n,[])
   | some f=>if hasK last f.key then (6,n,[]) else readL (n+1) ls acc (last++[f])
def linesL (s:List UInt8):List (List UInt8):=(Lib.split s [10]).dropLast
def endB (s:List UInt8):Bool:=s.isEmpty||s.getLast? == some 10
def parseS (s:List UInt8):Int × Int × List (List Fld) :=
 if 65536<s.length then (4,0,[]) else if endB s then readL 0 (linesL s) [] [] else (2,0,[])
def fieldT (f:Fld):List UInt8:=f.key++mark++f.val++[10]
def stanzaT (l:List Fld):List UInt8:=l.flatMap fieldT
def textS:List (List Fld)->List UInt8
 | []=>[]
 | [l]=>stanzaT l
 | l :: m :: r=>stanzaT l++[10]++textS (m :: r)
def joinL (ls:List (List UInt8)):List UInt8:=ls.flatMap (fun s=>s++[10])
theorem ir {s:List UInt8}{n:Int}{f:Fld}(h:fieldP s n=some f):f.key++mark++f.val=s/\f.line=n/\keyB f.key=true/\valB f.val=true:=by
 unfold fieldP at h
 split at h
 ·rename_i hc
  obtain⟨h0,h1,h2⟩:=hc
  cases h
  refine⟨?_,rfl,h1,h2⟩
  dsimp only
  obtain⟨i,hi⟩:∃ i:Nat,Lib.index s mark=i:=⟨(Lib.index s mark).toNat,by omega⟩
  rw[hi]
  have ho:Lib.occAt s mark i=true:=by
   rcases Lib.index_spec s mark with⟨h1,_⟩ | ⟨j,h1,_,h3,_⟩
   ·omega
   ·have:j=i:=by omega
    exact this ▸ h3
  unfold Lib.occAt at ho
  obtain⟨t,ht⟩:=List.isPrefixOf_iff_prefix.1 ho
  show s.take i++mark++s.drop (i+2)=s
  have e:s.drop (i+2)=t:=by rw[<-List.drop_drop,<-ht];rfl
  rw[e,List.append_assoc,ht,List.take_append_drop]
 ·cases h
theorem jn (l:List Fld)(f:Fld):stanzaT (l++[f])=stanzaT l++fieldT f:=by
 unfold stanzaT;rw[List.flatMap_append];simp
theorem bF:∀ (acc:List (List Fld)) (l:List Fld),textS (acc++[l])=(if acc.isEmpty then [] else textS acc++[10])++stanzaT l
 | [],l=>rfl
 | [a],l=>by show stanzaT a++[10]++stanzaT l=_;rfl
 | a :: b :: r,l=>by
  have ih:=bF (b :: r) l
  show stanzaT a++[10]++textS (b :: r++[l])=_
  rw[ih]
  show _=(stanzaT a++[10]++textS (b :: r)++[10])++stanzaT l
  simp
theorem ct (s:List UInt8)(ls:List (List UInt8)):joinL (s :: ls)=s++[10]++joinL ls:=by unfold joinL;rw[List.flatMap_cons]
theorem jo:∀ (ls:List (List UInt8)) (n:Nat) (acc:List (List Fld)) (last:List Fld) (r:List (List Fld)) (k:Int),readL n ls acc last=(0,k,r) ->
  k=0/\textS r=textS (acc++[last])++joinL ls\/(k=0/\ls=[]/\last=[]/\r=acc)
 | [],n,acc,last,r,k,h=>by
  unfold readL at h
  cases last with
  | nil=>right;injection h with _ h;injection h with h1 h2;exact⟨h1.symm,rfl,rfl,h2.symm⟩
  | cons f l=>left;injection h with _ h;injection h with h1 h2;subst h2;exact⟨h1.symm,by simp[joinL]⟩
 | s :: ls,n,acc,last,r,k,h=>by
  unfold readL at h
  split at h
  ·rename_i hs
   have hs0:s=[]:=by simpa using hs
   subst hs0
   split at h
   ·injection h with h _;cases h
   ·rename_i hl
    have ab:last≠[]:=fun e=>hl (by simp[e])
    have aa:ls≠[]:=fun e=>hl (by simp[e])
    rcases jo ls (n+1) (acc++[last]) [] r k h with⟨hk,ht⟩ | ⟨_,h2,_,_⟩
    ·left
     refine⟨hk,?_⟩
     rw[ht,bF (acc++[last]) [],ct]
     simp[stanzaT]
    ·exact absurd h2 aa
  ·rename_i hs
   cases hf:fieldP s n with
   | none=>rw[hf] at h;injection h with h _;cases h
   | some f =>
    rw[hf] at h
    dsimp only at h
    split at h
    ·injection h with h _;cases h
    ·obtain⟨h1,_,_,_⟩:=ir hf
     rcases jo ls (n+1) acc (last++[f]) r k h with⟨hk,ht⟩ | ⟨_,_,h3,_⟩
     ·left
      refine⟨hk,?_⟩
      rw[ht,bF,bF,jn,ct]
      unfold fieldT
      rw[h1]
      simp
     ·exact absurd h3 (by simp)
theorem ach (a r:List UInt8)(h:(10:UInt8) ∉ a):Lib.split (a++10 :: r) [10]=a :: Lib.split r [10]:=by
 have hi:Lib.index (a++10 :: r) [10]=a.length:=by
  refine Lib.index_first (by simp) ?_ fun j hj=>?_
  ·unfold Lib.occAt;rw[List.drop_left];rfl
  ·cases ho:Lib.occAt (a++10 :: r) [10] j with
   | false=>rfl
   | true =>
    have h2:=Lib.occAt_head (c:=10) (t:=[]) rfl ho
    rw[List.getElem?_append_left hj] at h2
    exact absurd (List.mem_of_getElem? h2) h
 rw[At.xJ (by simp) hi,List.take_left]
 have e:(a++10 :: r).drop (a.length+([10]:List UInt8).length)=r:=by
  rw[<-List.drop_drop,List.drop_left];rfl
 rw[e]
theorem lV (s:List UInt8):Lib.split s [10]≠[]:=by
 unfold Lib.split
 cases Lib.count s [10] with
 | zero=>unfold Lib.splitK;simp
 | succ k=>unfold Lib.splitK;split <;> simp
theorem oa (a r:List UInt8)(h:(10:UInt8) ∉ a):linesL (a++10 :: r)=a :: linesL r:=by
 unfold linesL
 rw[ach a r h,List.dropLast_cons_of_ne_nil (lV r)]
theorem aci (s:List UInt8):((10:UInt8) ∉ s)\/∃ a r,s=a++10 :: r/\(10:UInt8) ∉ a:=by
 induction s with
 | nil=>left;simp
 | cons b l ih =>
  by_cases hb:b=10
  ·right;exact⟨[],l,by rw[hb];rfl,by simp⟩
  ·rcases ih with h | ⟨a,r,e,h⟩
   ·left;intro hm;rcases List.mem_cons.1 hm with e | e
    ·exact hb e.symm
    ·exact h e
   ·right
    refine⟨b :: a,r,by rw[e];rfl,fun hm=>?_⟩
    rcases List.mem_cons.1 hm with e | e
    ·exact hb e.symm
    ·exact h e
theorem iu:∀ (k:Nat) (s:List UInt8),s.length<=k->endB s=true->joinL (linesL s)=s
 | 0,s,hk,_=>by
  have:s=[]:=List.length_eq_zero_iff.1 (by omega)
  subst this;rfl
 | k+1,s,hk,he=>by
  rcases aci s with h | ⟨a,r,e,h⟩
  ·unfold endB at he
   rw[Bool.or_eq_true] at he
   rcases he with he | he
   ·have:s=[]:=by simpa using he
    subst this;rfl
   ·exact absurd (List.mem_of_getLast? (by simpa using he)) h
  ·subst e
   rw[oa a r h,ct]
   have hr:endB r=true:=by
    unfold endB at he ⊢
    cases r with
    | nil=>rfl
    | cons b l =>
     rw[Bool.or_eq_true] at he ⊢
     rcases he with he | he
     ·simp at he
     ·right
      rw[List.getLast?_append] at he
      have e2:(10 :: b :: l).getLast? = (b :: l).getLast?:=by rw[List.getLast?_cons_cons]
      rw[e2] at he
      obtain⟨x,hx⟩:∃ x,(b :: l).getLast? = some x:=⟨_,List.getLast?_eq_some_getLast (by simp)⟩
      rw[hx] at he ⊢
      exact he
   rw[iu k r (by simp at hk;omega) hr]
   simp
theorem lW:∀ ls:List (List UInt8),(∀ s∈ls,(10:UInt8) ∉ s)->linesL (joinL ls)=ls
 | [],_=>rfl
 | s :: ls,h=>by
  rw[ct,List.append_assoc]
  show linesL (s++10 :: joinL ls)=_
  rw[oa s _ (h s (by simp)),lW ls (fun x hx=>h x (by simp[hx]))]
theorem ri:∀ ls:List (List UInt8),endB (joinL ls)=true
 | []=>rfl
 | s :: ls=>by
  have ih:=ri ls
  rw[ct]
  unfold endB at ih ⊢
  rw[Bool.or_eq_true]
  right
  cases hj:joinL ls with
  | nil=>rw[List.append_nil,List.getLast?_append];rfl
  | cons b l =>
   rw[hj] at ih
   rw[Bool.or_eq_true] at ih
   rcases ih with ih | ih
   ·simp at ih
   ·rw[List.getLast?_append]
    obtain⟨x,hx⟩:∃ x,(b :: l).getLast? = some x:=⟨_,List.getLast?_eq_some_getLast (by simp)⟩
    rw[hx] at ih ⊢
    exact ih
theorem wi {s:List UInt8}{k:Int}{r:List (List Fld)}(h:parseS s=(0,k,r)):k=0/\textS r=s:=by
 unfold parseS at h
 split at h
 ·injection h with h _;cases h
 ·split at h
  ·rename_i he
   rcases jo _ _ _ _ _ _ h with⟨h1,h2⟩ | ⟨h1,h2,_,h4⟩
   ·refine⟨h1,?_⟩
    rw[h2,iu s.length s (Nat.le_refl _) he];rfl
   ·refine⟨h1,?_⟩
    rw[h4,<-iu s.length s (Nat.le_refl _) he,h2];rfl
  ·injection h with h _;cases h
end Sz
section
open Go.RowKit
abbrev panAt (k n:Int):Ending:=.panicked [{ v:=.iface 98 (.agg #[.int .i64 k,.int .i64 n]),recovered:=false }]
theorem ax {k n:Int}(w:World):Calls Tryz.prog 53 #[.bool true,.int .i64 k,.int .i64 n] w fun e w'=>e=.returned (.tuple #[])/\w=w':=by
 go_enter Tryz.func53,Tryz.ntmps53
 go_wp2_with fail
 go_end0
 exact⟨rfl,rfl⟩
theorem an {k n:Int}(w:World):Calls Tryz.prog 53 #[.bool false,.int .i64 k,.int .i64 n] w fun e w'=>e=panAt k n/\w=w':=by
 go_enter Tryz.func53,Tryz.ntmps53
 go_wp2_with fail
 exact⟨rfl,rfl,rfl⟩
theorem bq (k n:Int){o:Int}(w:World) :
  Calls Tryz.prog 26 #[.iface 98 (.agg #[.int .i64 k,.int .i64 n]),.int .i64 o] w fun e w'=>e=.returned (.tuple #[.int .i64 k,.int .i64 n])/\Below w.heap.size w w':=by
 have aa:∀ W:World,(Instr.typeAssert (.iface 98 (.agg #[.int .i64 k,.int .i64 n])) 20 29 true).run Tryz.prog W=.ok (.tuple #[.int .i64 0,.bool false]) W:=fun _=>by kernel_rfl
 have ab:∀ W:World,(Instr.typeAssert (.iface 98 (.agg #[.int .i64 k,.int .i64 n])) 20 98 true).run Tryz.prog W=.ok (.tuple #[.agg #[.int .i64 k,.int .i64 n],.bool true]) W:=fun _=>by kernel_rfl
 go_enter Tryz.func26,Tryz.ntmps26
 go_wp2_with fail
 go_quiet (fail)
 go_wp2_with fail
 go_ret2
 refine⟨rfl,below_drewN ?_ _⟩
 first
  | exact (Below.refl _ _).alloc (Nat.le_refl _) _
  | exact ((Below.refl _ _).alloc (Nat.le_refl _) _).setCell (Nat.le_refl _) _
  | exact Below.setCell (Below.setCell ((Below.refl _ _).alloc (Nat.le_refl _) _) (by simp) _) (by simp) _
  | trace_state
theorem ob (l:List UInt8)(p:UInt8->Bool)(k:Nat)(h:k<l.length):(l.take (k+1)).all p=((l.take k).all p&&p l[k]):=by
 rw[List.take_succ_eq_append_getElem h,List.all_append];simp only[List.all_cons,List.all_nil,Bool.and_true]
theorem lX (l:List UInt8)(p:UInt8->Bool)(k:Nat)(h:k<l.length)(hp:p l[k]=false):l.all p=false:=by
 rw[Bool.eq_false_iff];intro ha;rw[List.all_eq_true] at ha;have:=ha _ (List.getElem_mem h);simp[hp] at this
theorem kh (c:UInt8)(w:World) :
  Calls Tryz.prog 178 #[.int .u8 c.toNat] w fun e w'=>e=.returned (.bool (Vm.ltr c))/\w=w':=by
 unfold Vm.ltr
 by_cases h1:97<=c.toNat <;> by_cases h2:c.toNat<=122 <;> by_cases h3:65<=c.toNat <;> by_cases h4:c.toNat<=90
 all_goals
  go_enter Tryz.func178,Tryz.ntmps178
  go_wp2
 all_goals
  go_ret
  exact⟨by first | (simp[h1,h2,h3,h4];done) | (simp[h1,h2,h3,h4];omega),rfl⟩
theorem jq (l:List UInt8)(w:World)(hm:l.length<=1000000) :
  Calls Tryz.prog 150 #[.string ⟨l.toArray⟩] w fun e w'=>e=.returned (.bool (Sz.keyB l))/\w=w':=by
 obtain⟨R,hR⟩:=ex (Sz.keyB l)
 rw[hR]
 have HF:Hid (l.all Vm.ltr=false->R=false):=fun h=>by rw[<-hR];unfold Sz.keyB;rw[h];rfl
 have HT:Hid (l.all Vm.ltr=true->R=(!l.isEmpty&&decide (l.length<=16))):=fun h=>by rw[<-hR];unfold Sz.keyB;rw[h];rfl
 clear hR
 go_enter Tryz.func150,Tryz.ntmps150
 go_wp2_with fail
 go_loop [6] (fun i=>∃ k:Nat,k<=l.length/\i=.int .i64 k/\Hid ((l.take k).all Vm.ltr=true)) (fun i=>l.length-(intOf i).toNat)
 case atStart=>exact⟨0,Nat.zero_le _,rfl,rfl⟩
 case round =>
  obtain⟨k,hk,rfl,HK⟩:=hrel
  by_cases ad:k<l.length
  ·obtain⟨c,hc,ac⟩:=byte_at l k ad
   have HS:=zh (ob l Vm.ltr k ad)
   rw[ac] at HS
   cases h1:Vm.ltr c
   ·have HR:Hid (R=false):=HF.out (lX l Vm.ltr k ad (by rw[ac];exact h1))
    have HL:=zh h1
    clear h1 ac HS
    go_wp2_with fail
    refine (kh c _).mono ?_
    rintro _ z ⟨rfl,rfl⟩
    rw[HL.out]
    go_wp2_with fail
    go_ret
    exact⟨by rw[HR.out];rfl,rfl⟩
   ·have HY:Hid ((l.take (k+1)).all Vm.ltr=true):=by show _=_;rw[HS.out,HK.out,h1];rfl
    have HL:=zh h1
    clear h1 ac HS
    go_wp2_with fail
    refine (kh c _).mono ?_
    rintro _ z ⟨rfl,rfl⟩
    rw[HL.out]
    go_wp2_with fail
    go_round
    case rel=>exact⟨k+1,by omega,by go_num,HY⟩
    case measure=>simp[intOf];omega
  ·obtain rfl:k=l.length:=by omega
   have HR:Hid (R=(!l.isEmpty&&decide (l.length<=16))):=HT.out (by have:=HK.out;rwa [List.take_length] at this)
   cases he:l.isEmpty
   ·by_cases ab:l.length<=16
    ·have d0:decide ((l.length:Int)<=16)=true:=decide_eq_true (by omega)
     have aa:Hid (R=true):=by show _=_;rw[HR.out,he,decide_eq_true ab];rfl
     clear ab HF HT HR
     go_wp2_with fail
     go_ret
     exact⟨by rw[aa.out];rfl,rfl⟩
    ·have d0:decide ((l.length:Int)<=16)=false:=decide_eq_false (by omega)
     have aa:Hid (R=false):=by show _=_;rw[HR.out,decide_eq_false ab,Bool.and_false]
     clear ab HF HT HR
     go_wp2_with fail
     go_ret
     exact⟨by rw[aa.out];rfl,rfl⟩
   ·have aa:Hid (R=false):=by show _=_;rw[HR.out,he];rfl
    clear HF HT HR
    go_wp2_with fail
    go_ret
    exact⟨by rw[aa.out];rfl,rfl⟩
theorem ye (c:UInt8):(Sz.valC c=true/\decide ((c.toNat:Int)<32)=false/\decide ((126:Int)<(c.toNat:Int))=false)\/(Sz.valC c=false/\decide ((c.toNat:Int)<32)=true)\/(Sz.valC c=false/\decide ((c.toNat:Int)<32)=false/\decide ((126:Int)<(c.toNat:Int))=true):=by
 unfold Sz.valC
 by_cases h1:32<=c.toNat
 ·by_cases h2:c.toNat<=126
  ·left;exact⟨by rw[decide_eq_true h1,decide_eq_true h2];rfl,decide_eq_false (by omega),decide_eq_false (by omega)⟩
  ·right;right;exact⟨by rw[decide_eq_false h2,Bool.and_false],decide_eq_false (by omega),decide_eq_true (by omega)⟩
 ·right;left;exact⟨by rw[decide_eq_false h1];rfl,decide_eq_true (by omega)⟩
theorem ki (l:List UInt8)(w:World)(hm:l.length<=1000000) :
  Calls Tryz.prog 151 #[.string ⟨l.toArray⟩] w fun e w'=>e=.returned (.bool (Sz.valB l))/\w=w':=by
 obtain⟨R,hR⟩:=ex (Sz.valB l)
 rw[hR]
 have HF:Hid (l.all Sz.valC=false->R=false):=fun h=>by rw[<-hR];exact h
 have HT:Hid (l.all Sz.valC=true->R=true):=fun h=>by rw[<-hR];exact h
 clear hR
 go_enter Tryz.func151,Tryz.ntmps151
 go_wp2_with fail
 go_loop [6] (fun i=>∃ k:Nat,k<=l.length/\i=.int .i64 k/\Hid ((l.take k).all Sz.valC=true)) (fun i=>l.length-(intOf i).toNat)
 case atStart=>exact⟨0,Nat.zero_le _,rfl,rfl⟩
 case round =>
  obtain⟨k,hk,rfl,HK⟩:=hrel
  by_cases ab:k<l.length
  ·obtain⟨c,hc,aa⟩:=byte_at l k ab
   have HS:=zh (ob l Sz.valC k ab)
   rw[aa] at HS
   rcases ye c with⟨h1,d1,d2⟩ | ⟨h1,d1⟩ | ⟨h1,d1,d2⟩
   ·have HY:Hid ((l.take (k+1)).all Sz.valC=true):=by show _=_;rw[HS.out,HK.out,h1];rfl
    clear h1 aa HS
    go_wp2_with fail
    go_round
    case rel=>exact⟨k+1,by omega,by go_num,HY⟩
    case measure=>simp[intOf];omega
   all_goals
    have HR:Hid (R=false):=HF.out (lX l Sz.valC k ab (by rw[aa];exact h1))
    clear h1 aa HS
    go_wp2_with fail
    go_ret
    exact⟨by rw[HR.out];rfl,rfl⟩
  ·obtain rfl:k=l.length:=by omega
   have HR:Hid (R=true):=HT.out (by have:=HK.out;rwa [List.take_length] at this)
   clear HF HT
   go_wp2_with fail
   go_ret
   exact⟨by rw[HR.out];rfl,rfl⟩
theorem m7:Wm.sk 0=0:=rfl
theorem kL:Wm.nan 0=false:=rfl
theorem acj (b:Nat)(hb:b<Wm.W):(FloatKind.f64.format.order b 0==some .lt)=(!Wm.nan b&&decide (Wm.sk b<0)):=by
 rw[Wm.qY b 0 hb (by decide),kL,m7];simp
def Fin (r:Nat):Prop:=0<r/\r<9218868437227405312
theorem bm {r:Nat}(h:Fin r)(n:Bool):Wm.word n r<Wm.W/\Wm.nan (Wm.word n r)=false/\Wm.sk (Wm.word n r)≠0/\Wm.sk (Wm.word n r)<9218868437227405312/\-9218868437227405312<Wm.sk (Wm.word n r):=by
 obtain⟨h1,h2⟩:=h
 obtain⟨a1,a2,a3⟩:=Wm.bg n (r:=r) (by omega)
 refine⟨a3,?_,?_⟩
 ·unfold Wm.nan;rw[a1];exact decide_eq_false (by omega)
 ·unfold Wm.sk;rw[a1,a2];cases n <;> simp <;> omega
theorem lY (b:Nat)(hb:b<Wm.W)(w:World) :
  Calls Tryz.prog 234 #[.float .f64 b] w fun e w'=>e=.returned (.bool (Wm.nan b))/\w=w':=by
 have H:=Wm.qZ b hb
 go_enter Tryz.func234,Tryz.ntmps234
 go_wp2_with fail
 go_ret
 exact⟨rfl,rfl⟩
theorem fin_pos {r:Nat}(h:Fin r):r<Wm.W/\Wm.nan r=false/\Wm.sk r=r:=by
 obtain⟨h1,h2⟩:=h
 obtain⟨a1,a2,a3⟩:=Wm.bg false (r:=r) (by omega)
 refine⟨a3,?_,?_⟩
 ·unfold Wm.nan;rw[show Wm.rung r=r from a1];exact decide_eq_false (by omega)
 ·unfold Wm.sk;rw[show Wm.neg r=false from a2,show Wm.rung r=r from a1];rfl
theorem kM (n:Bool){r:Nat}(h:Fin r)(w:World) :
  Calls Tryz.prog 254 #[.float .f64 (Wm.word n r)] w fun e w'=>e=.returned (.float .f64 r)/\w=w':=by
 have h2:=h.2
 obtain⟨a1,a2,a3⟩:=Wm.bg n (r:=r) (by omega)
 have:=acg (Wm.word n r) a3 w
 rwa [a1] at this
theorem rj (n:Bool)(r:Nat)(h:Fin r)(w:World) :
  Calls Tryz.prog 233 #[.float .f64 (Wm.word n r),.int .i64 0] w fun e w'=>e=.returned (.bool false)/\w=w':=by
 obtain⟨g1,g2,g3⟩:=fin_pos h
 have h2:=h.2
 have o1:=Wm.ya r 9218868437227405311 g1 (by decide)
 rw[g2,g3,show Wm.sk 9218868437227405311=9218868437227405311 from rfl,decide_eq_false (by omega)] at o1
 simp only[Bool.and_false] at o1
 clear g1 g2 g3 h2
 go_enter Tryz.func233,Tryz.ntmps233
 go_wp2_with fail
 refine (kM n h _).mono ?_
 rintro e w' ⟨rfl,rfl⟩
 go_wp2_with fail
 go_ret
 exact⟨rfl,rfl⟩
theorem m8 (x y r:Nat)(h:Ieee.double.mul x y=some r)(W:World):(binOp .mul 37 (.float .f64 x) (.float .f64 y)).run Tryz.prog W=.ok (.float .f64 r) W :=
 run_float_arith W .mul _ .f64 x y r h
def nrmX (r:Nat):Int:=if r<4503599627370496 then -52 else 0
theorem iL (n:Bool)(r:Nat)(h:Fin r)(w:World) :
  Calls Tryz.prog 235 #[.float .f64 (Wm.word n r)] w fun e w'=>e=.returned (.tuple #[.float .f64 (Wm.word n (Wm.nrm r)),.int .i64 (nrmX r)])/\w=w':=by
 obtain⟨g1,g2,g3⟩:=fin_pos h
 have o1:=Wm.qY r 4503599627370496 g1 (by decide)
 rw[g2,g3,show Wm.nan 4503599627370496=false from rfl,show Wm.sk 4503599627370496=4503599627370496 from rfl] at o1
 clear g1 g2 g3
 by_cases hr:r<4503599627370496
 ·rw[decide_eq_true (by omega)] at o1
  simp only[Bool.not_false,Bool.and_true] at o1
  have hm:=m8 _ _ _ (Wm.ab8 n h.1 hr)
  have HX:Hid (nrmX r = -52):=by show _=_;rw[nrmX,if_pos hr]
  clear hr
  go_enter Tryz.func235,Tryz.ntmps235
  go_wp2_with fail
  refine (kM n h _).mono ?_
  rintro e w' ⟨rfl,rfl⟩
  go_wp2_with fail
  go_ret2
  exact⟨by rw[HX.out];rfl,rfl⟩
 ·rw[decide_eq_false (by omega)] at o1
  simp only[Bool.not_false,Bool.and_false] at o1
  have HX:Hid (nrmX r=0/\Wm.nrm r=r):=by show _/\_;rw[nrmX,if_neg hr,Wm.nrm,if_neg hr];exact⟨rfl,rfl⟩
  clear hr
  go_enter Tryz.func235,Tryz.ntmps235
  go_wp2_with fail
  refine (kM n h _).mono ?_
  rintro e w' ⟨rfl,rfl⟩
  go_wp2_with fail
  go_ret2
  exact⟨by rw[HX.out.1,HX.out.2];rfl,rfl⟩
theorem uM (n:Bool){r:Nat}(h:Fin r):(FloatKind.f64.format.order (Wm.word n r) 0==some .eq)=false:=by
 obtain⟨g1,g2,g3,_⟩:=bm h n
 rw[Wm.ade _ 0 g1 (by decide),g2,kL,m7,decide_eq_false g3];rfl
theorem aaG (n:Bool)(r:Nat)(h:Fin r)(w:World) :
  Calls Tryz.prog 209 #[.float .f64 (Wm.word n r)] w fun e w'=>e=.returned (.tuple #[.float .f64 (Wm.word n (4602678819172646912+Wm.fOf r)),.int .i64 (Wm.xOf r)])/\w=w':=by
 have o1:=uM n h
 obtain⟨n1,n2⟩:=Wm.x8 h.1 h.2
 have ab:=cV
 have aa:=gI
 have e1:=Wm.expB n (Wm.nrm r) (by omega)
 have e2:=Wm.clearB n (Wm.nrm r) (by omega)
 have e3:bits .or .u64 (Wm.word n (Wm.nrm r % 4503599627370496):Nat) 4602678819172646912=(Wm.word n (4602678819172646912+Wm.nrm r % 4503599627370496):Nat):=Wm.setB n 1022 (Wm.nrm r % 4503599627370496) (by decide) (by omega)
 have hq:Wm.nrm r / 4503599627370496<2048:=by omega
 have HX:Hid (Wm.xOf r=nrmX r+((Wm.nrm r / 4503599627370496:Nat)-1023+1)):=by
  show _=_
  unfold Wm.xOf nrmX
  split <;> omega
 have HF:Hid (Wm.fOf r=Wm.nrm r % 4503599627370496):=rfl
 have ac:nrmX r = -52\/nrmX r=0:=by unfold nrmX;split <;> simp
 clear n1 n2
 generalize Wm.nrm r / 4503599627370496=q at *
 go_enter Tryz.func209,Tryz.ntmps209
 go_wp2_with fail
 refine (rj n r h _).mono ?_
 rintro e w' ⟨rfl,rfl⟩
 go_wp2_with fail
 refine (lY _ (bm h n).1 _).mono ?_
 rintro e w' ⟨rfl,rfl⟩
 rw[(bm h n).2.1]
 go_wp2_with fail
 refine (iL n r h _).mono ?_
 rintro e w' ⟨rfl,rfl⟩
 go_wp2_with fail
 go_ret2
 exact⟨by rw[HX.out,HF.out];rfl,rfl⟩
theorem yf (n:Bool)(r:Nat)(h:Fin r)(w:World) :
  Calls Tryz.prog 170 #[.float .f64 (Wm.word n r)] w fun e w'=>e=.returned (.tuple #[.float .f64 (Wm.word n (4602678819172646912+Wm.fOf r)),.int .i64 (Wm.xOf r)])/\w=w':=by
 go_enter Tryz.func170,Tryz.ntmps170
 go_wp2_with fail
 refine (aaG n r h _).mono ?_
 rintro e w' ⟨rfl,rfl⟩
 go_wp2_with fail
 go_ret2
 exact⟨rfl,rfl⟩
theorem jr (b c:Nat)(hb:b<Wm.W)(hc:c<Wm.W)(w:World) :
  Calls Tryz.prog 237 #[.float .f64 b,.float .f64 c] w fun e w'=>e=.returned (.float .f64 (Wm.word (Wm.neg c) (Wm.rung b)))/\w=w':=by
 have ab:=cV
 have aa:=gI
 have e1:=Wm.absB b hb
 have e2:=Wm.sgnB c hc
 have e3:=Wm.signB (Wm.rung b) (Wm.gF b)
 have e4:bits .or .u64 (Wm.rung b:Int) 0=(Wm.rung b:Int):=by
  have h:=u64_or_nat (Wm.rung b) 0 (by have:=Wm.gF b;omega) (by decide)
  rw[Nat.or_zero] at h
  exact h
 have HW:Hid (∀ g r,Wm.word g r=if g then 9223372036854775808+r else r):=fun _ _=>rfl
 cases hg:Wm.neg c
 all_goals
  rw[hg] at e2
  go_enter Tryz.func237,Tryz.ntmps237
  go_wp2_with fail
  go_ret
  exact⟨by rw[HW.out];rfl,rfl⟩
theorem aaH (n:Bool)(r:Nat)(e:Int)(h:Fin r)(hr:4503599627370496<=r)(he:-100000<=e/\e<=100000)(w:World) :
  Calls Tryz.prog 211 #[.float .f64 (Wm.word n r),.int .i64 e] w fun e' w'=>e'=.returned (.float .f64 (Wm.ldx n r e))/\w=w':=by
 have o1:=uM n h
 have h2:=h.2
 have ad:=cV
 have ac:=gI
 have e1:=Wm.expI n r (by omega)
 have e2:=Wm.clearB n r (by omega)
 have hq:r / 4503599627370496<2048:=by omega
 have aa:Wm.nrm r=r/\nrmX r=0:=by unfold Wm.nrm nrmX;rw[if_neg (by omega),if_neg (by omega)];exact⟨rfl,rfl⟩
 have HL:Hid (Wm.ldx n r e=if Wm.ldE r e < -1075 then Wm.word n 0 else if 1023<Wm.ldE r e then Wm.word n 9218868437227405312
  else if Wm.ldE r e < -1022 then Wm.deno n ((Wm.ldE r e+1076).toNat*4503599627370496+r % 4503599627370496)
  else Wm.word n ((Wm.ldE r e+1023).toNat*4503599627370496+r % 4503599627370496)):=rfl
 have HE:Hid (Wm.ldE r e=(r / 4503599627370496:Nat)-1023+e):=rfl
 have ab:r % 4503599627370496<4503599627370496:=by omega
 have ae:0<=(Wm.word n r:Int) / 4503599627370496:=by omega
 have af:(Wm.word n r:Int) / 4503599627370496<=4095:=by have:=(bm h n).1;unfold Wm.W at this;omega
 go_enter Tryz.func211,Tryz.ntmps211
 go_wp2_with fail
 refine (rj n r h _).mono ?_
 rintro e' w' ⟨rfl,rfl⟩
 go_wp2_with fail
 refine (lY _ (bm h n).1 _).mono ?_
 rintro e' w' ⟨rfl,rfl⟩
 rw[(bm h n).2.1]
 go_wp2_with fail
 refine (iL n r h _).mono ?_
 rintro e' w' ⟨rfl,rfl⟩
 rw[aa.1,aa.2]
 clear aa hr h2
 generalize r / 4503599627370496=q at *
 by_cases c1:(q:Int)-1023+e < -1075
 ·have HV:Hid (Wm.ldx n r e=Wm.word n 0):=by show _=_;rw[HL.out,if_pos (by rw[HE.out];exact c1)]
  clear HL HE
  go_wp2_with fail
  refine (jr 0 (Wm.word n r) (by decide) (bm h n).1 _).mono ?_
  rintro e' w' ⟨rfl,rfl⟩
  rw[(Wm.bg n (r:=r) (by have:=h.2;omega)).2.1]
  go_wp2_with fail
  go_ret
  exact⟨by rw[HV.out];rfl,rfl⟩
 ·by_cases c2:1023<(q:Int)-1023+e
  ·have HV:Hid (Wm.ldx n r e=Wm.word n 9218868437227405312):=by show _=_;rw[HL.out,if_neg (by rw[HE.out];exact c1),if_pos (by rw[HE.out];exact c2)]
   clear HL HE
   have o2:=acj _ (bm h n).1
   rw[(bm h n).2.1] at o2
   have hs:decide (Wm.sk (Wm.word n r)<0)=n:=by
    obtain⟨a1,a2,a3⟩:=Wm.bg n (r:=r) (by have:=h.2;omega)
    have:=h.1
    unfold Wm.sk;rw[a1,a2];cases n <;> simp <;> omega
   rw[hs] at o2
   clear hs
   cases n
   all_goals
    simp only[Bool.not_false,Bool.true_and] at o2
    go_wp2_with fail
    refine (m3 _ _).mono ?_
    rintro e' w' ⟨rfl,rfl⟩
    go_wp2_with fail
    go_ret
    exact⟨by rw[HV.out];rfl,rfl⟩
  ·by_cases c3:(q:Int)-1023+e < -1022
   ·have HV:Hid (Wm.ldx n r e=Wm.deno n ((Wm.ldE r e+1076).toNat*4503599627370496+r % 4503599627370496)):=by show _=_;rw[HL.out,if_neg (by rw[HE.out];exact c1),if_neg (by rw[HE.out];exact c2),if_pos (by rw[HE.out];exact c3)]
    clear HL
    obtain⟨p,hp⟩:∃ p:Nat,(q:Int)-1023+e+1076=p:=⟨((q:Int)-1023+e+1076).toNat,by omega⟩
    have HP:Hid ((Wm.ldE r e+1076).toNat=p):=by show _=_;rw[HE.out];omega
    rw[HP.out] at HV
    have e3:bits .or .u64 (Wm.word n (r % 4503599627370496):Nat) ((e+((q:Int)-1023)+53+1023)*4503599627370496)=(Wm.word n (p*4503599627370496+r % 4503599627370496):Nat):=by
     rw[show (e+((q:Int)-1023)+53+1023)*4503599627370496=((p*4503599627370496:Nat):Int) from by omega]
     exact Wm.setB n p _ (by omega) ab
    have hm:=m8 _ _ _ (Wm.aaA n (r:=p*4503599627370496+r % 4503599627370496) (by omega)).1
    clear HP HE hp
    go_wp2_with fail
    go_ret
    exact⟨by rw[HV.out];rfl,rfl⟩
   ·have HV:Hid (Wm.ldx n r e=Wm.word n ((Wm.ldE r e+1023).toNat*4503599627370496+r % 4503599627370496)):=by show _=_;rw[HL.out,if_neg (by rw[HE.out];exact c1),if_neg (by rw[HE.out];exact c2),if_neg (by rw[HE.out];exact c3)]
    clear HL
    obtain⟨p,hp⟩:∃ p:Nat,(q:Int)-1023+e+1023=p:=⟨((q:Int)-1023+e+1023).toNat,by omega⟩
    have HP:Hid ((Wm.ldE r e+1023).toNat=p):=by show _=_;rw[HE.out];omega
    rw[HP.out] at HV
    have e3:bits .or .u64 (Wm.word n (r % 4503599627370496):Nat) ((e+((q:Int)-1023)+1023)*4503599627370496)=(Wm.word n (p*4503599627370496+r % 4503599627370496):Nat):=by
     rw[show (e+((q:Int)-1023)+1023)*4503599627370496=((p*4503599627370496:Nat):Int) from by omega]
     exact Wm.setB n p _ (by omega) ab
    have hm:=m8 _ _ _ (Wm.mul_one n (r:=p*4503599627370496+r % 4503599627370496) (by omega) (by omega))
    clear HP HE hp
    go_wp2_with fail
    go_ret
    exact⟨by rw[HV.out];rfl,rfl⟩
theorem oc (n:Bool)(r:Nat)(e:Int)(h:Fin r)(hr:4503599627370496<=r)(he:-100000<=e/\e<=100000)(w:World) :
  Calls Tryz.prog 171 #[.float .f64 (Wm.word n r),.int .i64 e] w fun e' w'=>e'=.returned (.float .f64 (Wm.ldx n r e))/\w=w':=by
 go_enter Tryz.func171,Tryz.ntmps171
 go_wp2_with fail
 refine (aaH n r e h hr he _).mono ?_
 rintro e' w' ⟨rfl,rfl⟩
 go_wp2_with fail
 go_ret
 exact⟨rfl,rfl⟩
end
namespace Wm
open Go.Lib
theorem aaI (l:List UInt8)(c:UInt8):Vm.num (l++[c])=10*Vm.num l+(c.toNat-48):=by
 unfold Vm.num;rw[List.foldl_append];rfl
theorem m9 (c:UInt8):Vm.dig c=true↔48<=c.toNat/\c.toNat<=57:=by unfold Vm.dig;simp
def plain (l:List UInt8):Prop:=l≠[]/\l.all Vm.dig=true/\(l.head? = some 48->l=[48])
theorem aaJ (l:List UInt8)(h:l≠[]):Vm.num l % 2=((l.getLast h).toNat-48) % 2:=by
 obtain⟨m,c,rfl⟩:∃ m c,l=m++[c]:=⟨l.dropLast,l.getLast h,(List.dropLast_concat_getLast h).symm⟩
 rw[aaI,List.getLast_concat];omega
theorem gL:∀ (l:List UInt8) (acc:Nat),l.all Vm.dig=true->acc<=18446744073709551615 ->
  parseUintM 18446744073709551615 acc l=if l.foldl (fun n c=>10*n+(c.toNat-48)) acc<=18446744073709551615 then .ok (l.foldl (fun n c=>10*n+(c.toNat-48)) acc) else .range
 | [],acc,_,h=>by simp[parseUintM,h]
 | c :: l,acc,h,ha=>by
  simp only[List.all_cons,Bool.and_eq_true] at h
  have hc:=(m9 c).1 h.1
  have mono:∀ (l:List UInt8) (a:Nat),a<=l.foldl (fun n c=>10*n+(c.toNat-48)) a:=fun l=>by
   induction l with
   | nil=>intro a;exact Nat.le_refl _
   | cons c l ih=>intro a;rw[List.foldl_cons];exact Nat.le_trans (by omega) (ih _)
  have hm:=mono l (10*acc+(c.toNat-48))
  rw[List.foldl_cons]
  unfold parseUintM
  rw[if_pos hc,show acc*10+(c.toNat-48)=10*acc+(c.toNat-48) from by omega]
  by_cases c1:10*acc+(c.toNat-48)<=18446744073709551615
  ·rw[if_neg (by omega),if_neg (by omega)]
   exact gL l _ h.2 c1
  ·rw[if_neg (show ¬ l.foldl (fun n c=>10*n+(c.toNat-48)) (10*acc+(c.toNat-48))<=18446744073709551615 by omega)]
   split
   ·rfl
   ·rw[if_pos (by omega)]
def sgnd (l:List UInt8):Bool:=l.head? == some 45
def mgn (l:List UInt8):List UInt8:=if sgnd l then l.drop 1 else l
def decOk (l:List UInt8):Prop:=plain (mgn l)/\(mgn l=[48]->sgnd l=false)
def nmb (l:List UInt8):Int :=
 if sgnd l then (if Vm.num (mgn l)<=9223372036854775808 then -(Vm.num (mgn l):Int) else -9223372036854775808)
 else (if Vm.num (mgn l)<9223372036854775808 then (Vm.num (mgn l):Int) else 9223372036854775807)
theorem yg (l:List UInt8)(h:plain (mgn l)):parseIntB 64 l=.ok (nmb l)\/(parseIntB 64 l=.range/\intSat 64 l=nmb l):=by
 obtain⟨h1,h2,_⟩:=h
 have hu:=gL (mgn l) 0 h2 (by omega)
 have hB:parseUintB 64 (mgn l)=if Vm.num (mgn l)<=18446744073709551615 then .ok (Vm.num (mgn l)) else .range:=by
  unfold parseUintB;rw[if_neg h1];exact hu
 clear hu
 unfold nmb
 cases l with
 | nil=>exact absurd rfl h1
 | cons c r =>
  have aa:(45:UInt8).toNat=45:=rfl
  by_cases hc:c=45
  ·have hs:sgnd (c :: r)=true:=by unfold sgnd;rw[hc];rfl
   have hm:mgn (c :: r)=r:=by unfold mgn;rw[hs];rfl
   rw[hm] at hB ⊢
   rw[hs]
   unfold parseIntB intSat
   subst hc
   simp only[aa,or_true,if_true,hB]
   by_cases g1:Vm.num r<=18446744073709551615
   ·simp only[if_pos g1]
    by_cases g2:Vm.num r<=9223372036854775808
    ·left
     rw[if_neg (by simp),if_neg (by simp;omega)]
     simp[g2]
    ·right
     rw[if_neg (by simp),if_pos (by simp;omega)]
     simp[g2]
   ·right
    simp only[if_neg g1]
    simp;omega
  ·have hs:sgnd (c :: r)=false:=by unfold sgnd;simp[hc]
   have hm:mgn (c :: r)=c :: r:=by unfold mgn;rw[hs];rfl
   rw[hm] at hB h2 ⊢
   rw[hs]
   have hd:Vm.dig c=true:=by simp only[List.all_cons,Bool.and_eq_true] at h2;exact h2.1
   rw[m9] at hd
   unfold parseIntB intSat
   simp only[List.head?_cons,Option.map_some,Option.some.injEq]
   rw[if_neg (show ¬ (c.toNat=43\/c.toNat=45) by omega),hB,if_neg (show ¬ c.toNat=45 by omega)]
   by_cases g1:Vm.num (c :: r)<=18446744073709551615
   ·simp only[if_pos g1]
    by_cases g2:Vm.num (c :: r)<9223372036854775808
    ·left
     rw[if_neg (by simp;omega),if_neg (by simp;omega),if_neg (show ¬ c.toNat=45 by omega)]
     simp[g2]
    ·right
     rw[if_pos (by simp;omega)]
     simp[g2]
   ·right
    simp only[if_neg g1]
    simp;omega
theorem adh (l:List UInt8):Lib.trimPrefix l [45]=mgn l:=by
 unfold Lib.trimPrefix mgn sgnd Lib.hasPrefix
 cases l with
 | nil=>rfl
 | cons c t =>
  by_cases hc:c=45
  ·subst hc;rfl
  ·have h1:(List.isPrefixOf [45] (c :: t))=false:=by simp[List.isPrefixOf];exact fun h=>hc h.symm
   rw[h1];simp[hc]
theorem adi (l:List UInt8):(mgn l).length<=l.length:=by
 unfold mgn;split
 ·rw[List.length_drop];omega
 ·exact Nat.le_refl _
def decB (l:List UInt8):Bool:=if (mgn l).isEmpty||(mgn l).head? == some 48 then l==[48] else (Vm.undigs (mgn l)).isEmpty
theorem lZ (l:List UInt8):(Vm.undigs l).isEmpty=true↔l.all Vm.dig=true:=by
 unfold Vm.undigs
 induction l with
 | nil=>simp
 | cons c t ih =>
  rw[List.dropWhile_cons,List.all_cons]
  cases hc:Vm.dig c
  ·simp
  ·simp only[if_true,Bool.true_and];exact ih
theorem kN (l:List UInt8):decB l=true↔decOk l:=by
 unfold decB decOk plain
 constructor
 ·intro h
  split at h
  ·have:l=[48]:=by simpa using h
   subst this
   refine⟨⟨by decide,by decide,fun _=>rfl⟩,fun _=>rfl⟩
  ·rename_i h2
   simp only[Bool.or_eq_true,List.isEmpty_iff,beq_iff_eq,not_or] at h2
   refine⟨⟨h2.1,(lZ _).1 h,fun h3=>absurd h3 h2.2⟩,fun h3=>absurd (by rw[h3];rfl) h2.2⟩
 ·rintro⟨⟨h1,h2,h3⟩,h4⟩
  split
  ·rename_i h5
   simp only[Bool.or_eq_true,List.isEmpty_iff,beq_iff_eq] at h5
   rcases h5 with h5 | h5
   ·exact absurd h5 h1
   ·have h6:=h3 h5
    have h7:=h4 h6
    have:mgn l=l:=by unfold mgn;rw[h7];rfl
    rw[this] at h6
    rw[h6];rfl
  ·exact (lZ _).2 h2
end Wm
section
open Go.RowKit
namespace Wm
theorem adj {x:Nat}(h0:0<x)(h:x<18446744073709551616):Lib.ctz 64 x=tz x:=by
 obtain⟨m,e,_⟩:=Lib.ctzFrom_spec 64 x h0 h
 have:Lib.ctz 64 x=Lib.ctzFrom 64 x:=by unfold Lib.ctz;rw[if_neg (by omega)]
 rw[this]
 generalize Lib.ctzFrom 64 x=t at *
 rw[e,Nat.mul_comm,gH (by omega),jm (by omega)];omega
theorem abB {m i:Nat}(h0:0<m)(h:m<2 ^ i):tz m<i:=by
 have e:=(eN m m (Nat.le_refl _) h0).2
 have hp:=xY h0
 rcases Nat.lt_or_ge (tz m) i with h1 | h1
 ·exact h1
 ·have:2 ^ i<=2 ^ tz m:=Nat.pow_le_pow_right (by decide) h1
  have:1*2 ^ tz m<=od m*2 ^ tz m:=Nat.mul_le_mul_right _ hp
  omega
theorem adk {m:Nat}(h0:0<m)(h:m<2 ^ 53):tz (18446744073709551616-m)=tz m:=by
 obtain⟨ho,e⟩:=eN m m (Nat.le_refl _) h0
 have ht:=abB h0 h
 have hle:=abA m
 generalize od m=k at *
 generalize tz m=t at *
 have e2:18446744073709551616-m=(2 ^ (64-t)-k)*2 ^ t:=by
  rw[Nat.sub_mul,<-Nat.pow_add,show 64-t+t=64 from by omega,<-e]
 have h2:2 ^ (64-t)=2*2 ^ (63-t):=by rw[show 64-t=(63-t)+1 from by omega,Nat.pow_succ];omega
 have h4:k<2 ^ (64-t):=by
  have h5:k*2 ^ t<2 ^ (64-t)*2 ^ t:=by
   rw[<-Nat.pow_add,show 64-t+t=64 from by omega,<-e];omega
  exact Nat.lt_of_mul_lt_mul_right h5
 rw[e2,gH (by omega),jm (by omega)];omega
def sg (n:Bool) (k:Nat):Int:=(if n then -1 else 1)*(k:Int)
def textF (n:Bool) (r:Nat):List UInt8:=Lib.itoa (sg n (kOf r))++112 :: Lib.itoa (eOf r)
def signed (n:Bool) (l:List UInt8):List UInt8:=if n then 45 :: l else l
def textW (b:Nat):List UInt8 :=
 if nan b then [110,97,110] else if rung b=9218868437227405312 then signed (neg b) [105,110,102] else if rung b=0 then signed (neg b) [48] else textF (neg b) (rung b)
end Wm
def KOk (w:World):Prop := MaxOk w/\Lib.TabIs Tryz.prog w "internal/strconv.uint64pow10" .u64 Lib.pow10Tab/\Lib.TabIs Tryz.prog w "math/bits.deBruijn64tab" .u8 (Lib.deBruijn64tab.map Int.ofNat)/\∃ tp p, w.var? Tryz.prog "strconv.ErrRange" = some #[.iface tp p]
theorem rk {w:World}{n:String}{g:Nat}{cs:Array Value}(hg:Tryz.prog.globalNamed n=some g)(h:w.var? Tryz.prog n=some cs):g<w.heap.size:=by
 unfold World.var? at h
 simp only[hg,Option.bind_some] at h
 rcases Nat.lt_or_ge g w.heap.size with h1 | h1
 ·exact h1
 ·simp[Array.getElem?_eq_none h1] at h
theorem az {w w':World}(h:KOk w)(hb:Below w.heap.size w w'):KOk w':=by
 obtain⟨h1,h2,h3,tp,p,h4⟩:=h
 have g2:Tryz.prog.globalNamed "internal/strconv.uint64pow10" = some 3 := by kernel_rfl
 have g3:Tryz.prog.globalNamed "math/bits.deBruijn64tab" = some 2 := by kernel_rfl
 have g4:Tryz.prog.globalNamed "strconv.ErrRange" = some 8 := by kernel_rfl
 exact⟨aa h1 hb,var?_below hb g2 (rk g2 h2) h2,var?_below hb g3 (rk g3 h3) h3,tp,p,var?_below hb g4 (rk g4 h4) h4⟩
theorem ack {w:World}(h:KOk w):TabAt 2 Lib.deBruijn64tab w:=by
 intro j hj
 have := Lib.TabIs.cell h.2.2.1 (show Tryz.prog.globalNamed "math/bits.deBruijn64tab" = some 2 by kernel_rfl) j (by simpa using hj)
 rw[this]
 simp[List.getD,hj]
theorem tH (n:Bool)(r:Nat)(h:Fin r)(w:World)(hk:KOk w) :
  Calls Tryz.prog 139 #[.float .f64 (Wm.word n r)] w fun e w'=>e=.returned (.string ⟨(Wm.textF n r).toArray⟩)/\Below w.heap.size w w':=by
 have hf:=Wm.adb r
 obtain⟨x1,x2⟩:=Wm.ab9 h.1
 have ae:=Wm.ada n (Wm.fOf r) hf
 have ab:=Wm.v8 n (Wm.fOf r) hf
 obtain⟨M,hM⟩:=ex (4503599627370496+Wm.fOf r)
 rw[hM] at x1 x2 ab
 obtain⟨F,hF⟩:∃ F:Int,(if n then -1 else 1)*(M:Int)=F:=⟨_,rfl⟩
 rw[hF] at ab
 have ah:∀ W:World,(convert 37 2 (.float .f64 (Wm.word n (4841369599423283200+Wm.fOf r)))).run Tryz.prog W=.ok (.int .i64 F) W :=
  fun W=>run_convert_float_int W 37 2 .f64 .i64 _ _ (by kernel_rfl) Tryz.underlying2 ab
 have ac:0<M:=by omega
 have af:M<2 ^ 53:=by omega
 have ao:-9007199254740992<=F/\F<=9007199254740992:=by rw[<-hF];cases n <;> simp <;> omega
 obtain⟨U,hU⟩:∃ U:Nat,IntKind.u64.wrap F=(U:Int)/\0<U/\U<18446744073709551616/\Wm.tz U=Wm.tz M:=by
  rw[<-hF]
  cases n
  ·refine⟨M,?_,ac,by omega,rfl⟩
   rw[IntKind.wrap_u64];simp;omega
  ·refine⟨18446744073709551616-M,?_,by omega,by omega,Wm.adk ac af⟩
   rw[IntKind.wrap_u64];simp;omega
 have aa:=Wm.adj hU.2.1 hU.2.2.1
 rw[hU.2.2.2] at aa
 have hz:=Wm.abB ac af
 have ai:=hU.1
 have ag:Fin (4602678819172646912+Wm.fOf r):=⟨by omega,by omega⟩
 clear ab
 go_enter Tryz.func139,Tryz.ntmps139
 go_wp2_with fail
 refine (yf n r h _).mono ?_
 rintro e' w' ⟨rfl,rfl⟩
 go_wp2_with fail
 refine (oc n (4602678819172646912+Wm.fOf r) 53 ag (by omega) (by omega) _).mono ?_
 rintro e' w' ⟨rfl,rfl⟩
 rw[ae]
 clear ae hf hM ag
 go_wp2_with fail
 refine (Tryz.bits_TrailingZeros64 U hU.2.2.1 _ (fun _=>ack hk)).mono ?_
 rintro e' w' ⟨rfl,rfl⟩
 rw[aa]
 clear aa hU ah ai
 have HD:F / 2 ^ Wm.tz M=Wm.sg n (Wm.kOf r):=by
  have e:=(Wm.eN M M (Nat.le_refl _) ac).2
  rw[x1] at e
  rw[<-hF]
  have e3:(if n then -1 else 1)*(M:Int)=Wm.sg n (Wm.kOf r)*(2:Int) ^ Wm.tz M:=by
   unfold Wm.sg
   conv=>lhs;rw[e]
   rw[Int.natCast_mul,Int.mul_assoc,Int.natCast_pow];rfl
  rw[e3,Int.mul_ediv_cancel _ (Int.ne_of_gt (Int.pow_pos (by decide)))]
 have aj:=(Wm.aaz h.1 h.2).2.1
 have ap:-9007199254740992<=Wm.sg n (Wm.kOf r)/\Wm.sg n (Wm.kOf r)<=9007199254740992:=by unfold Wm.sg;cases n <;> simp <;> omega
 have aq:-2000<=Wm.xOf r/\Wm.xOf r<=2000:=by
  have:=h.2
  have:=(Wm.x8 h.1 h.2).2
  unfold Wm.xOf;split <;> omega
 have HT:Hid (Wm.textF n r=Lib.itoa (Wm.sg n (Wm.kOf r))++112 :: Lib.itoa (Wm.eOf r)):=rfl
 have ar:Wm.xOf r+((Wm.tz M:Int)-53)=Wm.eOf r:=by omega
 clear x1 x2 hF aj
 generalize Wm.tz M=z at *
 go_wp2_with fail
 refine (Tryz.strconv_FormatInt_10 _ (by omega) (by omega) _ hk.2.1).mono ?_
 rintro e' w1 ⟨g1,k1,am,g2⟩;subst g1
 have ad:=zh (g2 ▸ Lib.below_grow _ _ (Nat.le_refl _) k1 am:Below w'.heap.size w' w1)
 have ak:=az hk ad.out
 clear g2 hk
 have au:=Lib.itoa_length_le (Wm.sg n (Wm.kOf r)) (by omega) (by omega)
 have av:=Lib.itoa_length_le (Wm.eOf r) (by omega) (by omega)
 go_wp2_with fail
 refine (Tryz.strconv_Itoa _ (by omega) (by omega) _ ak.2.1).mono ?_
 rintro e' w2 ⟨g1,k2,an,g2⟩;subst g1
 have al:=zh (ad.out.trans ((g2 ▸ Lib.below_grow _ _ (Nat.le_refl _) k2 an:Below w1.heap.size w1 w2).mono ad.out.size))
 clear g2
 go_wp2_with fail
 go_ret
 refine⟨?_,al.out⟩
 rw[HT.out]
 show Ending.returned (.string ((ByteArray.mk _++ByteArray.mk #[112])++ByteArray.mk _))=_
 rw[show (#[112]:Array UInt8)=([112]:List UInt8).toArray from rfl,ByteArray.mk_append_mk,ByteArray.mk_append_mk,List.append_assoc]
 rfl
end
end Go.Proofs.YtkoaljpfoekgkaaGreatDoor

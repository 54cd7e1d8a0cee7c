/- Part 21 of what the laws lean on. -/
import Derived.Test.YtgnaiidgjmicaaaGreatDoorL20
set_option maxRecDepth 100000
set_option maxHeartbeats 6400000
namespace Go.Proofs.YtgnaiidgjmicaaaGreatDoor
namespace Lk
open Go.RowKit At Rs
abbrev LEnt:=List UInt8 × List UInt8
def encE (e:LEnt):List Value:=[.string ⟨e.1.toArray⟩,.string ⟨e.2.toArray⟩]
theorem fitsE:Rg.Fits encE 2:=⟨fun _=>rfl,fun x u hu=>by
 simp only[encE,List.mem_cons,List.not_mem_nil,or_false] at hu
 rcases hu with rfl | rfl <;> rfl⟩
abbrev ERow (w:World) (A:Option Addr) (l:List LEnt):Prop:=Rg.Row encE 2 w A l
theorem sq {w:World}{A:Option Addr}{l:List LEnt}(h:ERow w A l)(k:Nat)(hk:k<l.length):∃ ad,A=some ad/\∀ u,Below w.heap.size w u->u.cell? (ad.add (k*2))=some (.string ⟨l[k].1.toArray⟩)/\u.cell? ⟨(ad.add (k*2)).block,(ad.add (k*2)).off+1,none⟩=some (.string ⟨l[k].2.toArray⟩):=by
 obtain⟨ad,e,_,_⟩:=h (by omega)
 refine⟨ad,e,fun u hb=>?_⟩
 obtain⟨aa,x,e',hx,_,hc⟩:=Rg.bz (Rg.ag h hb) k hk
 rw[e] at e';cases e'
 subst hx
 exact⟨hc 0 _ rfl,hc 1 _ rfl⟩
end Lk
section
open Go.RowKit Lk At Rs
attribute [local go_sem ↓] Go.wp_at_zero Go.wp_at_succ
def Lk.ESm (l:List LEnt):Prop:=∀ e∈l,e.1.length<=1000000/\e.2.length<=1000000
theorem Lk.vS {l:List LEnt}(h:ESm l)(k:Nat)(hk:k<l.length):l[k].1.length<=1000000/\l[k].2.length<=1000000:=h _ (List.getElem_mem hk)
def Lk.getE (l:List LEnt) (nm:List UInt8):List UInt8 × Bool:=match l.find? (fun e=>e.1==nm) with
 | some e=>(e.2,true)
 | none=>([],false)
def Lk.getFrom:List LEnt->List UInt8->List UInt8 × Bool
 | [],_=>([],false)
 | e :: l,nm=>if e.1=nm then (e.2,true) else getFrom l nm
theorem Lk.k7:∀ (l:List LEnt) (nm:List UInt8),getE l nm=getFrom l nm
 | [],_=>rfl
 | e :: l,nm=>by
  have ih:=k7 l nm
  unfold getE at ih ⊢
  unfold getFrom
  rw[List.find?_cons]
  by_cases h:e.1=nm
  ·rw[if_pos h,show (e.1==nm)=true by simpa using h]
  ·rw[if_neg h,show (e.1==nm)=false by simpa using h];exact ih
theorem Lk.zV {l:List LEnt}{nm:List UInt8}{k:Nat}{R:List UInt8 × Bool}(hk:k<l.length)(h:getFrom (l.drop k) nm=R):(l[k].1=nm->R=(l[k].2,true))/\(l[k].1≠nm->getFrom (l.drop (k+1)) nm=R):=by
 rw[List.drop_eq_getElem_cons hk] at h
 unfold getFrom at h
 exact⟨fun e=>by rw[if_pos e] at h;exact h.symm,fun e=>by rw[if_neg e] at h;exact h⟩
theorem re (A:Option Addr)(n c:Nat)(l:List LEnt)(nm:List UInt8)(w:World)(hn:l.length=n)(hr:ERow w A l)(hf:ESm l)(hl:n<=1000000) :
  Calls Tryz.prog 100 #[.slice A n c,.string ⟨nm.toArray⟩] w fun e w'=>e=.returned (.tuple #[.string ⟨(getE l nm).1.toArray⟩,.bool (getE l nm).2])/\Below w.heap.size w w':=by
 obtain⟨R,hR⟩:=ex (getE l nm)
 have af:Hid (getFrom (l.drop 0) nm=R):=by show _=_;rw[List.drop_zero,<-k7];exact hR
 rw[hR]
 have HN:=zh hn
 have HR:=zh hr
 have HF:=zh hf
 clear hR hn hr hf
 go_enter Tryz.func100,Tryz.ntmps100
 go_wp2_with fail
 go_loopw [10] (fun i wr=>∃ k:Nat,k<=n/\i=.int .i64 k/\Hid (getFrom (l.drop k) nm=R)/\Hid (Below w.heap.size w wr)) (fun i _=>n-(intOf i).toNat)
 case atStart=>exact⟨0,Nat.zero_le _,rfl,af.out,Below.refl _ _⟩
 case round =>
  obtain⟨k,hk,rfl,HI,HB⟩:=hrel
  by_cases ag:k<n
  ·have ac:k<l.length:=by rw[HN.out];exact ag
   obtain⟨ad,rfl,hc⟩:=sq HR.out k ac
   obtain⟨c0,c1⟩:=hc _ HB.out
   obtain⟨s1,s2⟩:=zV ac HI.out
   have hm:=(vS HF.out k ac).2
   obtain⟨E,hE⟩:=ex (l[k])
   rw[hE] at c0 c1 s1 s2 hm
   obtain⟨x,v⟩:=E
   dsimp only at c0 c1 s1 s2 hm
   have S1:=zh s1
   have S2:=zh s2
   have HM:=zh hm
   obtain⟨V,hV⟩:=ex (wr.alloc (.cells #[.string ⟨x.toArray⟩,.string ⟨v.toArray⟩] 107))
   have ae:Hid (Below w.heap.size w V):=HB.out.trans ((aa hV).mono HB.out.size)
   have g0:=(bF hV (Below.refl _ _)).1
   have g1:=(bF hV (Below.refl _ _)).2.1
   clear hc hE s1 s2 hm HI
   by_cases hq:x=nm
   ·have ab:=zh (S1.out hq)
    have e1:(x==nm)=true:=by simpa using hq
    clear hq
    go_wp2_with fail
    clear hV c0 c1 g0 g1
    refine (aQ v _ (by have:=HM.out;omega)).mono ?_
    rintro _ z ⟨rfl,hb⟩
    have HZ:=zh (bt ae.out hb)
    clear hb
    go_wp2_with fail
    go_ret2
    exact⟨by rw[ab.out];rfl,HZ.out⟩
   ·have ab:=zh (S2.out hq)
    have e1:(x==nm)=false:=beq_eq_false_iff_ne.2 hq
    clear hq
    go_wp2_with fail
    go_roundw
    case rel=>exact⟨k+1,by omega,by go_num,ab,ae⟩
    case measure=>simp[intOf];omega
  ·obtain rfl:k=n:=by omega
   have ab:Hid (R=([],false)):=by
    have:=HI.out
    rw[List.drop_of_length_le (by rw[HN.out];exact Nat.le_refl _)] at this
    exact this.symm
   go_wp2_with fail
   go_ret2
   exact⟨by rw[ab.out];rfl,HB.out⟩
end
section
open Go.RowKit Rs At Pg Rp Ck Lk
attribute [local go_sem ↓] Go.wp_at_zero Go.wp_at_succ
attribute [local go_sem] Pg.aj
namespace Ck
abbrev Ti:=List UInt8 × Bool × Int
def encTi (t:Ti):List Value:=[.string ⟨t.1.toArray⟩,.bool t.2.1,.int .i64 t.2.2]
theorem fitsTi:Rg.Fits encTi 3:=⟨fun _=>rfl,fun x u hu=>by
 simp only[encTi,List.mem_cons,List.not_mem_nil,or_false] at hu
 rcases hu with rfl | rfl | rfl <;> rfl⟩
abbrev TRow (w:World) (A:Option Addr) (l:List Ti):Prop:=Rg.Row encTi 3 w A l
theorem fH {w:World}{A:Option Addr}{l:List Ti}(h:TRow w A l)(k:Nat)(hk:k<l.length):∃ ad,A=some ad/\∀ u,Below w.heap.size w u->u.cell? (ad.add (k*3))=some (.string ⟨(l[k]'hk).1.toArray⟩)/\u.cell? ⟨(ad.add (k*3)).block,(ad.add (k*3)).off+1,none⟩=some (.bool (l[k]'hk).2.1)/\u.cell? ⟨(ad.add (k*3)).block,(ad.add (k*3)).off+2,none⟩=some (.int .i64 (l[k]'hk).2.2):=by
 obtain⟨ad,e,_,_⟩:=h (by omega)
 refine⟨ad,e,fun u hb=>?_⟩
 obtain⟨aa,x,e',hx,_,hc⟩:=Rg.bz (Rg.ag h hb) k hk
 rw[e] at e';cases e'
 subst hx
 exact⟨hc 0 _ rfl,hc 1 _ rfl,hc 2 _ rfl⟩
theorem nd {w V u:World}{T:TypeId}{a b c:Value}(hV:w.alloc (.cells #[a,b,c] T)=V)(h:Below V.heap.size V u) :
  u.cell? ⟨w.heap.size,0,none⟩=some a/\u.cell? ⟨w.heap.size,1,none⟩=some b/\u.cell? ⟨w.heap.size,2,none⟩=some c:=by
 have h0:V.heap[w.heap.size]?=some (.cells #[a,b,c] T (0,0)):=by rw[<-hV];exact heap_alloc_new w _
 have h1:=(h.block w.heap.size (block_lt h0)).trans h0
 refine⟨?_,?_,?_⟩
 ·rw[cell_of_row u w.heap.size 0 _ _ (0,0) h1];rfl
 ·rw[cell_of_row u w.heap.size 1 _ _ (0,0) h1];rfl
 ·rw[cell_of_row u w.heap.size 2 _ _ (0,0) h1];rfl
def one (b:Bool):Int:=if b then 1 else 0
def costA (rs:Asc) (es:List LEnt):List Int:=es.map fun e=>one (!(getA rs e.1).isSome)
def costB (rs:Asc):List Ti->List Int
 | []=>[]
 | t :: l=>(if t.2.1 then [] else [one (getA rs t.1).isSome])++costB rs l
def costC (rs:Asc) (ts:List Ti):List Int:=ts.map fun t=>(getA rs t.1).getD t.2.2
def costL (rs:Asc) (es:List LEnt) (ts:List Ti):List Int:=costA rs es++costB rs ts++costC rs ts
theorem k8 (rs:Asc)(t:Ti):∀ l:List Ti,costB rs (l++[t])=costB rs l++(if t.2.1 then [] else [one (getA rs t.1).isSome])
 | []=>by simp[costB]
 | a :: l=>by rw[List.cons_append,costB,k8 rs t l,costB,List.append_assoc]
theorem gF (rs:Asc):∀ l:List Ti,(costB rs l).length<=l.length
 | []=>Nat.le_refl _
 | a :: l=>by
  have:=gF rs l
  rw[costB,List.length_append,List.length_cons]
  split
  ·simp only[List.length_nil];omega
  ·simp only[List.length_cons,List.length_nil];omega
theorem tE (rs:Asc)(es:List LEnt)(k:Nat)(hk:k<es.length):costA rs (es.take (k+1))=costA rs (es.take k)++[one (!(getA rs (es[k]'hk).1).isSome)]:=by
 unfold costA
 rw[List.take_succ_eq_append_getElem hk,List.map_append];rfl
theorem tF (rs:Asc)(ts:List Ti)(k:Nat)(hk:k<ts.length):costB rs (ts.take (k+1))=costB rs (ts.take k)++(if (ts[k]'hk).2.1 then [] else [one (getA rs (ts[k]'hk).1).isSome]):=by
 rw[List.take_succ_eq_append_getElem hk,k8]
theorem tG (rs:Asc)(ts:List Ti)(k:Nat)(hk:k<ts.length):costC rs (ts.take (k+1))=costC rs (ts.take k)++[(getA rs (ts[k]'hk).1).getD (ts[k]'hk).2.2]:=by
 unfold costC
 rw[List.take_succ_eq_append_getElem hk,List.map_append];rfl
end Ck
theorem nf (b:Bool)(w:World):Calls Tryz.prog 102 #[.bool b] w fun e w'=>e=.returned (.int .i64 (one b))/\w=w':=by
 cases b
 ·go_enter Tryz.func102,Tryz.ntmps102
  go_wp2_with fail
  go_ret
  exact⟨rfl,rfl⟩
 ·go_enter Tryz.func102,Tryz.ntmps102
  go_wp2_with fail
  go_ret
  exact⟨rfl,rfl⟩
end
section
open Go.RowKit Rs At Pg Rp Ck Lk
attribute [local go_sem ↓] Go.wp_at_zero Go.wp_at_succ
attribute [local go_sem] Pg.aj
theorem Ck.fg {α:Type}{enc:α->List Value}{K B:Nat}{T:TypeId}{v:Value}{l:List α}{w wr W5:World}{o:Obj}(hB:Hid (Below B w wr/\B<=wr.heap.size))(hO:Hid (Rg.Own enc K wr B T v l))(hg:(wr.alloc o).grownBy W5 v.ownBlock) :
  Hid (Below B w W5/\B<=W5.heap.size):=by
 have h1:Below B w (wr.alloc o):=hB.out.1.alloc hB.out.2 _
 have e:(wr.alloc o).heap.size=wr.heap.size+1:=by simp
 have h2:B<=(wr.alloc o).heap.size:=by have:=hB.out.2;omega
 exact⟨h1.trans (Rg.ak (Rg.own_below hO.out ((Below.refl _ _).alloc (Nat.le_refl _) _)) h2 hg),Nat.le_trans h2 hg.size⟩
theorem pS (A K R T S:Option Addr)(n c kn kc rc tn tc m sc:Nat)(l:List Pk)(es:List LEnt)(rk:List Int)(ts:List Ti)(set:List Int)(w:World)(hn:l.length=n)(hr:RRow w A l)(hl:n<=100000)(hs:∀ p∈l,p.name.length<=1000000)
  (hen:es.length=kn) (hE:ERow w K es) (hel:kn<=100000) (hes:ESm es)
  (hrn:rk.length=n) (hR:IRow w R rk) (hrk:∀ x∈rk,0<=x/\x<=1000000)
  (htn:ts.length=tn) (hT:Ck.TRow w T ts) (htl:tn<=100000) (hts:∀ t∈ts,t.1.length<=1000000)
  (hm:set.length=m) (hS:IRow w S set) (hml:m<=100000) :
  Calls Tryz.prog 61 #[.agg #[.slice A n c,.slice K kn kc,.slice R n rc,.slice T tn tc],.slice S m sc] w (NumRet w (costL (ranksF l rk set []) es ts)):=by
 obtain⟨V,hV⟩:=ex (w.alloc (.cells #[.slice A n c,.slice K kn kc,.slice R n rc,.slice T tn tc] 112))
 have HV:Hid (Below w.heap.size w V):=aa hV
 have az:=zh (fun u (h:Below V.heap.size V u)=>pR hV h)
 obtain⟨b0,aQ⟩:=ex w.heap.size
 have aC:=zh (rb A K R T S n c kn kc rc tn tc m sc l rk set V hn (aU hr HV.out) hl hs hrn (Rg.ag hR HV.out) hrk hm (Rg.ag hS HV.out) hml)
 have HE:Hid (ERow V K es):=Rg.ag hE HV.out
 have HT:Hid (Ck.TRow V T ts):=Rg.ag hT HV.out
 have aD:=zh hen
 have aA:=zh htn
 have aK:=zh hes
 have aL:=zh hts
 obtain⟨X,hX⟩:=ex (costL (ranksF l rk set []) es ts)
 obtain⟨rs,aR⟩:=ex (ranksF l rk set [])
 rw[hX]
 rw[aR] at hX aC
 unfold costL at hX
 have HX:=zh hX
 have aM:=zh (show w.heap.size<=V.heap.size from HV.out.size)
 rw[aQ] at az
 obtain⟨k0,k1,k2,k3⟩:=az.out V (Below.refl _ _)
 clear hn hr hs hen hE hes hrn hR hrk htn hT hts hm hS hX aR
 go_enter Tryz.func61,Tryz.ntmps61
 go_wp2_with fail
 clear hV aQ
 refine aC.out.mono ?_
 rintro _ w2 ⟨b,rfl,aS,aX,aY,aJ⟩
 obtain⟨B,hB⟩:=ex w2.heap.size
 have aN:Hid (Below V.heap.size V w2):=aJ
 have aO:Hid (V.heap.size<=B):=by show _<=_;rw[<-hB];exact aJ.size
 have aE:Hid (∀ u,Below B w2 u->IMap u b rs):=fun u h=>tD aS h (by omega)
 have ay:Hid (∀ u,Below B w2 u->Below V.heap.size V u):=fun u h=>aN.out.trans (h.mono aO.out)
 have aT:Hid (B<=w2.heap.size):=by show _<=_;omega
 clear aS aX aY aJ aC k0 k1 k2 k3
 obtain⟨-,q1,-,-⟩:=az.out w2 aN.out
 go_wp2_with fail
 clear q1 hB
 go_loopw [6,25] (fun v i wr=>∃ k:Nat,k<=kn/\i=.int .i64 k/\Hid (Rg.Own Rp.encI 1 wr B 3 v (costA rs (es.take k)))/\Hid (Below B w2 wr/\B<=wr.heap.size)) (fun _ i _=>kn-(intOf i).toNat)
 case atStart=>exact⟨0,Nat.zero_le _,rfl,Rg.an _ _ _,Below.refl _ _,aT.out⟩
 case round =>
  obtain⟨k,hk,rfl,HO,HB⟩:=hrel
  by_cases aq:k<kn
  ·have af:k<es.length:=by rw[aD.out];exact aq
   obtain⟨ad,rfl,hc⟩:=sq HE.out k af
   obtain⟨c0,c1⟩:=hc wr (ay.out _ HB.out.1)
   have ah:=tE rs es k af
   have ar:(costA rs (es.take k)).length<=k:=by unfold costA;rw[List.length_map,List.length_take];omega
   have aj:=(vS aK.out k af).1
   obtain⟨E,hE⟩:=ex (es[k]'af)
   rw[hE] at c0 c1 ah aj
   obtain⟨x,v⟩:=E
   dsimp only at c0 c1 ah aj
   obtain⟨U,hU⟩:=ex (wr.alloc (.cells #[.string ⟨x.toArray⟩,.string ⟨v.toArray⟩] 107))
   have g0:=(bF hU (Below.refl _ _)).1
   have HU:Hid (Below wr.heap.size wr U):=aa hU
   have ac:Hid (Below B w2 U/\B<=U.heap.size):=⟨HB.out.1.trans (HU.out.mono HB.out.2),Nat.le_trans HB.out.2 HU.out.size⟩
   have ae:=zh (Rg.own_below HO.out HU.out)
   have ai:=ff (aE.out U ac.out.1) (k:=x) (by omega)
   obtain⟨g,hg⟩:=ex ((getA rs x).isSome)
   obtain⟨gv,aB⟩:=ex ((getA rs x).getD 0)
   rw[hg,aB] at ai
   rw[hg] at ah
   obtain⟨out,ho⟩:=ex (costA rs (es.take k))
   rw[ho] at ae ah ar
   have ao:=zh ah
   have ap:Hid (out.length+1<=1000000):=by show _<=_;omega
   clear hc ah ar aj hE af hg aB ho HO HB
   go_wp2_with fail
   clear hU c0 c1 g0 ai
   refine (nf _ _).mono ?_
   rintro _ w3 ⟨rfl,rfl⟩
   obtain⟨y,hy⟩:=ex (one (!g))
   rw[hy] at ao
   go_wp2_with (at_builtin;refine Rg.bb sliceI rfl (.tmp 36) (.tmp 40) rfl B _ out [y] rfl (Rg.own_below ae.out ((Below.refl _ _).alloc (Nat.le_refl _) _)) _ _ rfl (Rg.aw U _ _ _ (by rfl)) (Nat.zero_lt_succ _) ap.out ?b1 ?_)
   case b1=>have:=ac.out.2;simp;omega
   intro v5 W5 al am ax
   have au:=fg ac ae am
   have av:Hid (Rg.Own Rp.encI 1 W5 B 3 v5 (costA rs (es.take (k+1)))):=by show Rg.Own _ _ _ _ _ _ _;rw[ao.out];exact al
   clear al am ax ae ac ap hy
   go_wp2_with fail
   go_roundw
   case rel=>exact⟨k+1,by omega,by go_num,av.out,au.out⟩
   case measure=>simp[intOf];omega
  ·obtain rfl:k=kn:=by omega
   have aF:Hid (Rg.Own Rp.encI 1 wr B 3 u6 (costA rs es++costB rs (ts.take 0))):=by
    have:=HO.out
    rw[List.take_of_length_le (by rw[aD.out];exact Nat.le_refl _)] at this
    show Rg.Own _ _ _ _ _ _ _
    rw[List.take_zero,costB,List.append_nil];exact this
   have aG:Hid ((costA rs es).length<=100000):=by show _<=_;unfold costA;rw[List.length_map,aD.out];exact hel
   obtain⟨-,-,-,q3⟩:=az.out wr (ay.out _ HB.out.1)
   have aH:=zh HB.out
   clear hk aq HO HB HE aK
   go_wp2_with fail
   clear q3
   go_loopw [6,46] (fun v i wr=>∃ k:Nat,k<=tn/\i=.int .i64 k/\Hid (Rg.Own Rp.encI 1 wr B 3 v (costA rs es++costB rs (ts.take k)))/\Hid (Below B w2 wr/\B<=wr.heap.size)) (fun _ i _=>tn-(intOf i).toNat)
   case atStart=>exact⟨0,Nat.zero_le _,rfl,aF.out,aH.out⟩
   case round =>
    obtain⟨k,hk,rfl,HO,HB⟩:=hrel
    by_cases aq:k<tn
    ·have af:k<ts.length:=by rw[aA.out];exact aq
     obtain⟨ad,rfl,hc⟩:=Ck.fH HT.out k af
     obtain⟨c0,c1,c2⟩:=hc wr (ay.out _ HB.out.1)
     have ah:=tF rs ts k af
     have ar:=gF rs (ts.take k)
     rw[List.length_take] at ar
     have aj:=aL.out _ (List.getElem_mem af)
     obtain⟨E,hE⟩:=ex (ts[k]'af)
     rw[hE] at c0 c1 c2 ah aj
     obtain⟨x,ins,pk⟩:=E
     dsimp only at c0 c1 c2 ah aj
     obtain⟨U,hU⟩:=ex (wr.alloc (.cells #[.string ⟨x.toArray⟩,.bool ins,.int .i64 pk] 153))
     obtain⟨g0,g1,-⟩:=nd hU (Below.refl _ _)
     have HU:Hid (Below wr.heap.size wr U):=aa hU
     have ac:Hid (Below B w2 U/\B<=U.heap.size):=⟨HB.out.1.trans (HU.out.mono HB.out.2),Nat.le_trans HB.out.2 HU.out.size⟩
     have ae:=zh (Rg.own_below HO.out HU.out)
     have ai:=ff (aE.out U ac.out.1) (k:=x) (by omega)
     obtain⟨g,hg⟩:=ex ((getA rs x).isSome)
     obtain⟨gv,aB⟩:=ex ((getA rs x).getD 0)
     rw[hg,aB] at ai
     rw[hg] at ah
     have ab:costA rs es++costB rs (ts.take (k+1))=costA rs es++costB rs (ts.take k)++(if ins then [] else [one g]):=by rw[ah,List.append_assoc]
     have ak:(costA rs es++costB rs (ts.take k)).length<=200000:=by have:=aG.out;rw[List.length_append];omega
     obtain⟨out,ho⟩:=ex (costA rs es++costB rs (ts.take k))
     rw[ho] at ae ab ak
     have ap:Hid (out.length+1<=1000000):=by show _<=_;omega
     clear hc ah ar ak aj hE af hg aB ho HO HB
     cases ins with
     | true =>
      have ao:Hid (costA rs es++costB rs (ts.take (k+1))=out):=by show _=_;rw[ab];exact List.append_nil _
      have aV:Hid (Rg.Own Rp.encI 1 U B 3 u6 (costA rs es++costB rs (ts.take (k+1)))):=by show Rg.Own _ _ _ _ _ _ _;rw[ao.out];exact ae.out
      clear ab
      go_wp2_with fail
      go_roundw
      case rel=>exact⟨k+1,by omega,by go_num,aV.out,ac.out⟩
      case measure=>simp[intOf];omega
     | false =>
      obtain⟨y,hy⟩:=ex (one g)
      have ao:Hid (costA rs es++costB rs (ts.take (k+1))=out++[y]):=by show _=_;rw[ab,<-hy];rfl
      have aP:=zh (nf g)
      rw[hy] at aP
      clear ab
      go_wp2_with fail
      clear hU c0 c1 c2 g0 g1 ai
      refine (aP.out _).mono ?_
      rintro _ w3 ⟨rfl,rfl⟩
      go_wp2_with (at_builtin;refine Rg.bb sliceI rfl (.tmp 60) (.tmp 63) rfl B _ out [y] rfl (Rg.own_below ae.out ((Below.refl _ _).alloc (Nat.le_refl _) _)) _ _ rfl (Rg.aw U _ _ _ (by rfl)) (Nat.zero_lt_succ _) ap.out ?b1 ?_)
      case b1=>have:=ac.out.2;simp;omega
      intro v5 W5 al am ax
      have au:=fg ac ae am
      have av:Hid (Rg.Own Rp.encI 1 W5 B 3 v5 (costA rs es++costB rs (ts.take (k+1)))):=by show Rg.Own _ _ _ _ _ _ _;rw[ao.out];exact al
      clear al am ax ae ac ap hy
      go_wp2_with fail
      go_roundw
      case rel=>exact⟨k+1,by omega,by go_num,av.out,au.out⟩
      case measure=>simp[intOf];omega
    ·obtain rfl:k=tn:=by omega
     obtain⟨N,aZ⟩:∃ N,N=k:=⟨_,rfl⟩
     subst aZ
     have aF:Hid (Rg.Own Rp.encI 1 wr B 3 u6 (costA rs es++costB rs ts++costC rs (ts.take 0))):=by
      have:=HO.out
      rw[List.take_of_length_le (by rw[aA.out];exact Nat.le_refl _)] at this
      show Rg.Own _ _ _ _ _ _ _
      rw[List.take_zero,show costC rs []=[] from rfl,List.append_nil];exact this
     have aI:Hid ((costA rs es++costB rs ts).length<=200000):=by show _<=_;have:=aG.out;have:=gF rs ts;rw[aA.out] at this;rw[List.length_append];omega
     obtain⟨-,-,-,q3⟩:=az.out wr (ay.out _ HB.out.1)
     have aH:=zh HB.out
     clear hk aq HO HB aG
     go_wp2_with fail
     clear q3
     go_loopw [6,69] (fun v i wr=>∃ k:Nat,k<=N/\i=.int .i64 k/\Hid (Rg.Own Rp.encI 1 wr B 3 v (costA rs es++costB rs ts++costC rs (ts.take k)))/\Hid (Below B w2 wr/\B<=wr.heap.size)) (fun _ i _=>N-(intOf i).toNat)
     case atStart=>exact⟨0,Nat.zero_le _,rfl,aF.out,aH.out⟩
     case round =>
      obtain⟨k,hk,rfl,HO,HB⟩:=hrel
      by_cases aq:k<N
      ·have af:k<ts.length:=by rw[aA.out];exact aq
       obtain⟨ad,rfl,hc⟩:=Ck.fH HT.out k af
       obtain⟨c0,c1,c2⟩:=hc wr (ay.out _ HB.out.1)
       have ah:=tG rs ts k af
       have ar:(costC rs (ts.take k)).length<=k:=by unfold costC;rw[List.length_map,List.length_take];omega
       have aj:=aL.out _ (List.getElem_mem af)
       obtain⟨E,hE⟩:=ex (ts[k]'af)
       rw[hE] at c0 c1 c2 ah aj
       obtain⟨x,ins,pk⟩:=E
       dsimp only at c0 c1 c2 ah aj
       obtain⟨U,hU⟩:=ex (wr.alloc (.cells #[.string ⟨x.toArray⟩,.bool ins,.int .i64 pk] 153))
       obtain⟨g0,-,g2⟩:=nd hU (Below.refl _ _)
       have HU:Hid (Below wr.heap.size wr U):=aa hU
       have ac:Hid (Below B w2 U/\B<=U.heap.size):=⟨HB.out.1.trans (HU.out.mono HB.out.2),Nat.le_trans HB.out.2 HU.out.size⟩
       have ae:=zh (Rg.own_below HO.out HU.out)
       have ai:=ff (aE.out U ac.out.1) (k:=x) (by omega)
       have ab:costA rs es++costB rs ts++costC rs (ts.take (k+1))=costA rs es++costB rs ts++costC rs (ts.take k)++[(getA rs x).getD pk]:=by rw[ah,<-List.append_assoc]
       have ak:(costA rs es++costB rs ts++costC rs (ts.take k)).length<=300000:=by have:=aI.out;rw[List.length_append];omega
       obtain⟨out,ho⟩:=ex (costA rs es++costB rs ts++costC rs (ts.take k))
       rw[ho] at ae ab ak
       have ap:Hid (out.length+1<=1000000):=by show _<=_;omega
       clear hc ah ar ak aj hE af ho HO HB
       cases hp:getA rs x with
       | some y =>
        rw[hp] at ai ab
        have ao:Hid (costA rs es++costB rs ts++costC rs (ts.take (k+1))=out++[y]):=ab
        dsimp only[Option.getD,Option.isSome] at ai
        clear ab hp
        go_wp2_with (at_builtin;refine Rg.bb sliceI rfl (.tmp 81) (.tmp 83) rfl B _ out [y] rfl (Rg.own_below ae.out ((Below.refl _ _).alloc (Nat.le_refl _) _)) _ _ rfl (Rg.aw U _ _ _ (by rfl)) (Nat.zero_lt_succ _) ap.out ?b1 ?_)
        case b1=>have:=ac.out.2;simp;omega
        intro v5 W5 al am ax
        have au:=fg ac ae am
        have av:Hid (Rg.Own Rp.encI 1 W5 B 3 v5 (costA rs es++costB rs ts++costC rs (ts.take (k+1)))):=by show Rg.Own _ _ _ _ _ _ _;rw[ao.out];exact al
        clear al am ax ae ac ap hU c0 c1 c2 g0 g2 ai
        go_wp2_with fail
        go_roundw
        case rel=>exact⟨k+1,by omega,by go_num,av.out,au.out⟩
        case measure=>simp[intOf];omega
       | none =>
        rw[hp] at ai ab
        obtain⟨y,hy⟩:=ex pk
        subst hy
        have ao:Hid (costA rs es++costB rs ts++costC rs (ts.take (k+1))=out++[pk]):=ab
        dsimp only[Option.getD,Option.isSome] at ai
        clear ab hp
        go_wp2_with (at_builtin;refine Rg.bb sliceI rfl (.tmp 85) (.tmp 88) rfl B _ out [pk] rfl (Rg.own_below ae.out ((Below.refl _ _).alloc (Nat.le_refl _) _)) _ _ rfl (Rg.aw U _ _ _ (by rfl)) (Nat.zero_lt_succ _) ap.out ?b1 ?_)
        case b1=>have:=ac.out.2;simp;omega
        intro v5 W5 al am ax
        have au:=fg ac ae am
        have av:Hid (Rg.Own Rp.encI 1 W5 B 3 v5 (costA rs es++costB rs ts++costC rs (ts.take (k+1)))):=by show Rg.Own _ _ _ _ _ _ _;rw[ao.out];exact al
        clear al am ax ae ac ap hU c0 c1 c2 g0 g2 ai
        go_wp2_with fail
        go_roundw
        case rel=>exact⟨k+1,by omega,by go_num,av.out,au.out⟩
        case measure=>simp[intOf];omega
      ·obtain rfl:k=N:=by omega
       have HF:Hid (Rg.Own Rp.encI 1 wr w.heap.size 3 u6 X):=by
        have:=HO.out
        rw[List.take_of_length_le (by rw[aA.out];exact Nat.le_refl _),HX.out] at this
        exact World.ownsRow.mono this (Nat.le_trans aM.out aO.out)
       have aW:Hid (Below w.heap.size w wr):=HV.out.trans ((ay.out _ HB.out.1).mono aM.out)
       clear HO HB
       go_wp2_with fail
       go_ret
       exact⟨_,rfl,HF.out,aW.out⟩
end
section
open Go.RowKit Rs At Pg Rp
attribute [local go_sem ↓] Go.wp_at_zero Go.wp_at_succ
attribute [local go_sem] Pg.aj
def Rp.namesR (l:List Pk):List (List UInt8):=Lib.compact (l.map Pk.name)
def Rp.NamesRet (w:World) (X:List (List UInt8)) (e:Ending) (w':World):Prop:=∃ A c,e=.returned (.slice A X.length c)/\Rg.Row encT 1 w' A X/\Below w.heap.size w w'
theorem Rp.vT {B:Nat}{w0 w:World}{g:Nat}(h:Below B w0 w)(hg:B<=g)(q:Nat)(d:Array (List UInt8)):Below B w0 (Go.Sort.putRow Go.Proofs.encStr (Go.Sort.ahead w q) g 0 d) :=
 h.trans ⟨rfl,rfl,rfl,by simp[Go.Sort.ahead],fun k hk=>by
  simp only[Go.Sort.putRow,Go.Sort.mapBlock,Go.Sort.ahead,Array.getElem?_modify]
  rw[if_neg (by omega)]⟩
theorem Rp.tH (zs:List (List UInt8)):(Lib.compact zs).length<=zs.length:=by
 unfold Lib.compact Lib.compactUpTo
 rw[List.length_map]
 exact Nat.le_trans (List.length_filter_le _ _) (by rw[List.length_range];exact Nat.le_refl _)
theorem rf (v:Value)(B:Nat)(T:TypeId)(zs:List (List UInt8))(w:World)(ho:Rg.Own encT 1 w B T v zs)(hl:zs.length<=1000000) :
  Calls Tryz.prog 50 #[v] w fun e w'=>∃ A c,e=.returned (.slice A (Lib.compact zs).length c)/\Rg.Row encT 1 w' A (Lib.compact zs)/\Below B w w':=by
 obtain⟨A,c,rfl,hr,hc,ae⟩:=Rg.au fitsT ho
 by_cases h0:zs=[]
 ·subst h0
  refine (Tryz.slices_Compact_string_empty A c w).mono ?_
  rintro _ _ ⟨rfl,rfl⟩
  exact⟨A,c,rfl,fun h=>absurd h (by decide),Below.refl _ _⟩
 ·have aa:0<zs.length:=List.length_pos_iff.2 h0
  obtain⟨g,rfl,hg,_,ad⟩:=Rg.oo ho aa
  have ab:∀ j (h:j<zs.length),w.cell? ⟨g,j,none⟩=some (Go.Proofs.encStr zs[j]):=fun j h=>by
   obtain⟨a,e,_,hc⟩:=hr aa
   cases e
   have h1:=hc j h 0 _ rfl
   rw[if_pos rfl,Nat.mul_one] at h1
   have e:(⟨g,0,none⟩:Addr).add j=⟨g,j,none⟩:=by unfold Addr.add;split <;> simp_all
   rw[e] at h1
   exact h1
  have hH:Go.Sort.Holds Go.Proofs.encStr w g 0 zs.toArray:=fun j hj=>by
   have ac:j<zs.length:=by simpa using hj
   rw[Nat.zero_add]
   refine⟨?_,ad j⟩
   rw[getElem!_pos zs.toArray j hj]
   simpa using ab j ac
  refine (Tryz.slices_Compact_string g 0 c zs w hH (by omega) hc).mono ?_
  rintro _ _ ⟨rfl,q,rfl⟩
  refine⟨_,c,rfl,fun hp=>⟨⟨g,0,none⟩,rfl,?_,fun i hi j u hu=>?_⟩,vT (Below.refl _ _) hg q _⟩
  ·have:=(Rg.aT ho g rfl).2
   simpa [Go.Sort.ahead] using this
  ·have hj:j=0:=by have h:=(List.getElem?_eq_some_iff.1 hu).1;simp only[encT,List.length_cons,List.length_nil] at h;omega
   subst hj
   rw[if_pos rfl,Nat.mul_one]
   have e:(⟨g,0,none⟩:Addr).add i=⟨g,0+i,none⟩:=by unfold Addr.add;split <;> simp_all
   have hle:(Lib.compact zs).length<=zs.length:=tH zs
   have hs:(Lib.compact zs++List.replicate (zs.length-(Lib.compact zs).length) []).toArray.size=zs.toArray.size:=by simp;omega
   rw[e,Go.Sort.cell?_putRow Go.Proofs.encStr (Go.Sort.ahead w q) g 0 zs.toArray _ hH hs i (by simp;omega)]
   rw[getElem!_pos _ i (by simp;omega)]
   simp only[List.getElem_toArray]
   rw[List.getElem_append_left hi]
   exact hu
theorem nH (A:Option Addr)(n c:Nat)(l:List Pk)(w:World)(hn:l.length=n)(hr:RRow w A l)(hl:n<=100000)(hs:∀ p∈l,p.name.length<=1000000) :
  Calls Tryz.prog 17 #[.slice A n c] w (NamesRet w (namesR l)):=by
 obtain⟨X,hX⟩:=ex (namesR l)
 rw[hX]
 have HX:=zh hX
 have HR:=zh hr
 have HN:=zh hn
 have HS:=zh hs
 clear hr hn hX hs
 go_enter Tryz.func17,Tryz.ntmps17
 go_wp2_with fail
 go_loopw [3,8] (fun v i wr=>∃ k:Nat,k<=n/\i=.int .i64 k/\Hid (Rg.Own encT 1 wr w.heap.size 9 v ((l.take k).map Pk.name))/\Hid (Below w.heap.size w wr/\w.heap.size<=wr.heap.size)) (fun _ i _=>n-(intOf i).toNat)
 case atStart=>exact⟨0,Nat.zero_le _,rfl,Rg.an _ _ _,Below.refl _ _,Nat.le_refl _⟩
 case round =>
  obtain⟨k,hk,rfl,HO,HB⟩:=hrel
  by_cases aB:k<n
  ·have ae:k<l.length:=by rw[HN.out];exact aB
   obtain⟨ad,D,dc,C,cc,G,gc,rfl,pd,pc,pg,hc⟩:=bB HR.out k ae
   obtain⟨c0,c1,c2,c3,c4,c5⟩:=hc _ HB.out.1
   have ab:=HS.out _ (List.getElem_mem ae)
   have ac:(l.take (k+1)).map Pk.name=(l.take k).map Pk.name++[l[k].name]:=by rw[List.take_succ_eq_append_getElem ae,List.map_append];rfl
   obtain⟨a,ha⟩:=ex (l[k])
   rw[ha] at c0 c1 c2 c3 c4 c5 ab ac
   obtain⟨ak,ap⟩:=ex a.name
   obtain⟨aI,aq⟩:=ex a.ver
   obtain⟨aJ,ar⟩:=ex a.deps.length
   obtain⟨aK,au⟩:=ex a.confl.length
   obtain⟨aL,av⟩:=ex a.prov.length
   obtain⟨aM,ax⟩:=ex a.wt
   rw[ap] at c0 ab ac
   rw[aq] at c1
   rw[ar] at c2
   rw[au] at c3
   rw[av] at c4
   rw[ax] at c5
   obtain⟨l0,al⟩:=ex ((l.take k).map Pk.name)
   have aC:l0.length=k:=by rw[<-al,List.length_map,List.length_take];omega
   rw[al] at HO ac
   obtain⟨V,hV⟩:=ex (wr.alloc (.cells #[.string ⟨ak.toArray⟩,.string ⟨aI.toArray⟩,.slice D aJ dc,.slice C aK cc,.slice G aL gc,.float .f64 aM] 68))
   have HV:Hid (Below wr.heap.size wr V):=aa hV
   have ao:=zh (aQ ak V (by omega))
   obtain⟨g0,g1,g2,g3,g4,g5⟩:=cF hV (Below.refl _ _)
   have aD:=zh ac
   have aE:Hid (l0.length+1<=1000000):=by show _<=_;omega
   clear hc ae ha ap aq ar au av ax ab pd pc pg ac al aC
   go_wp2_with fail
   clear hV
   refine ao.out.mono ?_
   rintro _ w1 ⟨rfl,ay⟩
   have af:Hid (Below wr.heap.size wr w1):=bt HV.out ay
   have ag:Hid (Below w.heap.size w w1/\w.heap.size<=w1.heap.size):=⟨HB.out.1.trans (af.out.mono HB.out.2),Nat.le_trans HB.out.2 af.out.size⟩
   have ah:=zh (Rg.own_below HO.out af.out)
   clear ay c0 c1 c2 c3 c4 c5 g0 g1 g2 g3 g4 g5 HB HO HV ao
   go_wp2_with (at_builtin;refine Rg.bb sliceTx rfl (.tmp 12) (.tmp 16) rfl w.heap.size _ l0 [ak] rfl (Rg.own_below ah.out ((Below.refl _ _).alloc (Nat.le_refl _) _)) _ _ rfl (Rg.aw w1 _ _ _ (by rfl)) (Nat.zero_lt_succ _) aE.out ?b1 ?_)
   case b1=>have:=ag.out.2;simp;omega
   intro v5 W5 az aA aN
   have aF:=fc ag ah aA
   have aG:Hid (Rg.Own encT 1 W5 w.heap.size 9 v5 ((l.take (k+1)).map Pk.name)):=by show Rg.Own _ _ _ _ _ _ _;rw[aD.out];exact az
   clear az aA aN ah ag
   go_wp2_with fail
   go_roundw
   case rel=>exact⟨k+1,by omega,by go_num,aG.out,aF.out⟩
   case measure=>simp[intOf];omega
  ·obtain rfl:k=n:=by omega
   have hO:=HO.out
   rw[List.take_of_length_le (by rw[HN.out];exact Nat.le_refl _)] at hO
   have ai:=zh (rf _ w.heap.size _ _ wr hO (by rw[List.length_map,HN.out];omega))
   clear hO HO
   obtain⟨zs,am⟩:=ex (l.map Pk.name)
   have aH:Hid (Lib.compact zs=X):=by show _=_;rw[<-am];exact HX.out
   rw[am,aH.out] at ai
   clear am
   go_wp2_with fail
   refine ai.out.mono ?_
   rintro _ u ⟨A',c',rfl,hr,hb⟩
   have aj:Hid (NamesRet w X (.returned (.slice A' X.length c')) u):=⟨A',c',rfl,hr,HB.out.1.trans hb⟩
   clear hr hb ai
   go_wp2_with fail
   go_ret
   exact aj.out
end
section
open Go.RowKit Rs At Pg Rp Ck Lk
attribute [local go_sem ↓] Go.wp_at_zero Go.wp_at_succ
attribute [local go_sem] Pg.aj
namespace Ck
def tiOf (l:List Pk) (es:List LEnt) (nm:List UInt8):Ti:=(nm,(getE es nm).2,((numF (fun p=>decide (p.name=nm)) 0 l).length:Int))
def titlesL (l:List Pk) (es:List LEnt):List Ti:=(namesR l).map (tiOf l es)
theorem rh (l:List Pk)(es:List LEnt)(N:List (List UInt8))(k:Nat)(hk:k<N.length):(N.take (k+1)).map (tiOf l es)=(N.take k).map (tiOf l es)++[tiOf l es (N[k]'hk)]:=by
 rw[List.take_succ_eq_append_getElem hk,List.map_append];rfl
theorem sliceTi:Rg.SliceT Tryz.prog encTi 3 110 153:=⟨fitsTi,by decide,by kernel_rfl,Rg.bw (z:=.agg #[.string ByteArray.empty,.bool false,.int .i64 0]) (b:=32) (by kernel_rfl) (by rfl) (by decide)⟩
def ScaleRet (A K:Option Addr) (n c kn kc:Nat) (rk:List Int) (ts:List Ti) (w:World) (e:Ending) (w':World):Prop :=
 ∃ R rc T tc,e=.returned (.agg #[.slice A n c,.slice K kn kc,.slice R rk.length rc,.slice T ts.length tc])/\IRow w' R rk/\Ck.TRow w' T ts/\Below w.heap.size w w'
def SBlk (b:Nat) (x y z v:Value) (w:World):Prop:=w.heap[b]?=some (.cells #[x,y,z,v] 112 (0,0))
theorem bc {b:Nat}{x y z v:Value}{w:World}(h:SBlk b x y z v w):w.cell? ⟨b,0,none⟩=some x/\w.cell? ⟨b,1,none⟩=some y/\w.cell? ⟨b,2,none⟩=some z/\w.cell? ⟨b,3,none⟩=some v/\w.frozen? ⟨b,3,none⟩=false:=by
 have h':w.heap[b]?=some (.cells #[x,y,z,v] 112 (0,0)):=h
 refine⟨?_,?_,?_,?_,by simp[World.frozen?,h']⟩
 ·rw[cell_of_row w b 0 _ _ (0,0) h'];rfl
 ·rw[cell_of_row w b 1 _ _ (0,0) h'];rfl
 ·rw[cell_of_row w b 2 _ _ (0,0) h'];rfl
 ·rw[cell_of_row w b 3 _ _ (0,0) h'];rfl
theorem dA {b:Nat}{x y z v:Value}{w:World}(h:SBlk b x y z v w)(j:Nat):w.frozen? ⟨b,j,none⟩=false:=by
 have h':w.heap[b]?=some (.cells #[x,y,z,v] 112 (0,0)):=h
 simp[World.frozen?,h']
theorem pT {b:Nat}{x y z v u:Value}{w:World}(h:SBlk b x y z v w):SBlk b x y z u (w.setCell ⟨b,3,none⟩ u):=by
 unfold SBlk
 rw[aJ h];rfl
theorem a9 {b:Nat}{x y z v:Value}{w u:World}(h:SBlk b x y z v w)(hb:Below w.heap.size w u):SBlk b x y z v u:=(hb.block b (block_lt h)).trans h
theorem tI {b:Nat}{x y z v:Value}{w u:World}{row:Option Nat}(h:SBlk b x y z v w)(hg:w.grownBy u row)(hne:row≠some b):SBlk b x y z v u:=(hg.block b (block_lt h) (fun e=>hne e.symm)).trans h
theorem jM {w V:World}{x y z v:Value}(h:w.alloc (.cells #[x,y,z,v] 112)=V):SBlk w.heap.size x y z v V:=by
 unfold SBlk;rw[<-h];exact heap_alloc_new w _
theorem vU {b:Nat}{A K R T:Option Addr}{n c kn kc rn rc tn tc:Nat}{V:World}(h:SBlk b (.slice A n c) (.slice K kn kc) (.slice R rn rc) (.slice T tn tc) V){tmps:Array Value}(ht:tmps.getD 4 undef=.pointer (some ⟨b,0,none⟩)) :
  (results Tryz.f60 tmps).run Tryz.prog V=.ok (.agg #[.slice A n c,.slice K kn kc,.slice R rn rc,.slice T tn tc]) V:=by
 obtain⟨g0,g1,g2,g3,-⟩:=bc h
 have hr:Tryz.f60.results=#[.cell 4 112]:=Tryz.results60
 simp only[results,hr]
 simp only[Array.getD_eq_getD_getElem?] at ht ⊢
 simp[go_sem,ht,g0,g1,g2,g3]
theorem tJ {b:Nat}{w:World}{x y z v:Value}(h:SBlk b x y z v w)(hs:∀ s,x≠.string s/\y≠.string s/\z≠.string s/\v≠.string s){a:Addr}{s:ByteArray}(hc:w.cell? a=some (.string s)):a.block≠b:=fun e=>by
 have h':w.heap[a.block]?=some (.cells #[x,y,z,v] 112 (0,0)):=by rw[e];exact h
 obtain⟨h1,h2,h3,h4⟩:=hs s
 simp only[World.cell?,h'] at hc
 match ho:a.off,hc with
 | 0,hc=>simp_all
 | 1,hc=>simp_all
 | 2,hc=>simp_all
 | 3,hc=>simp_all
 | k+4,hc=>simp_all
theorem tK (w:World)(b:Nat)(x y z v:Value):w.grownBy ((((w.setCell ⟨b,0,none⟩ x).setCell ⟨b,1,none⟩ y).setCell ⟨b,2,none⟩ z).setCell ⟨b,3,none⟩ v) (some b) :=
 ⟨rfl,rfl,rfl,by simp[World.setCell],fun k _ hk=>by
  have hne:k≠b:=fun e=>hk (by rw[e])
  rw[Below.heap_setCell _ _ _ _ hne,Below.heap_setCell _ _ _ _ hne,Below.heap_setCell _ _ _ _ hne,Below.heap_setCell _ _ _ _ hne]⟩
theorem vV {b:Nat}{x y z v x' y' z' v':Value}{w:World}(h:SBlk b x y z v w):SBlk b x' y' z' v' ((((w.setCell ⟨b,0,none⟩ x').setCell ⟨b,1,none⟩ y').setCell ⟨b,2,none⟩ z').setCell ⟨b,3,none⟩ v'):=by
 unfold SBlk
 rw[aJ (aJ (aJ (aJ h)))];rfl
def SInv (b5 B:Nat) (x y z v:Value) (ts:List Ti) (F:Option Addr) (NS:List (List UInt8)) (w2 u:World):Prop :=
 SBlk b5 x y z v u/\Rg.Own encTi 3 u B 153 v ts/\Rg.Row encT 1 u F NS/\Below b5 w2 u/\B<=u.heap.size
theorem ef {b5 B:Nat}{x y z v:Value}{ts:List Ti}{F:Option Addr}{NS:List (List UInt8)}{w2 u u':World}(h:SInv b5 B x y z v ts F NS w2 u)(h5:b5<B)(hb:Below u.heap.size u u'):SInv b5 B x y z v ts F NS w2 u' :=
 ⟨a9 h.1 hb,Rg.own_below h.2.1 hb,Rg.ag h.2.2.1 hb,h.2.2.2.1.trans (hb.mono (by have:=h.2.2.2.2;omega)),Nat.le_trans h.2.2.2.2 hb.size⟩
theorem tL {b5 B:Nat}{x y z v v6:Value}{ts t2:List Ti}{F:Option Addr}{NS:List (List UInt8)}{w2 u u':World}(h:SInv b5 B x y z v ts F NS w2 u)(h5:b5<B)(hF:∀ a,F=some a->0<NS.length->a.block≠b5/\a.block<B)
  (hg:u.grownBy u' v.ownBlock) (ho:Rg.Own encTi 3 u' B 153 v6 t2):SBlk b5 x y z v u'/\SInv b5 B x y z v6 t2 F NS w2 (u'.setCell ⟨b5,3,none⟩ v6):=by
 obtain⟨h1,h2,h3,h4,h6⟩:=h
 have e1:SBlk b5 x y z v u':=tI h1 hg (fun e=>by have:=(Rg.aT h2 _ e).1;omega)
 have e3:Rg.Row encT 1 u' F NS:=bq h3 hg (fun h0 a ha e=>by have:=(Rg.aT h2 _ e).1;have:=(hF a ha h0).2;omega)
 refine⟨e1,pT e1,ownsRow_setCell_below ho h5 _,bq e3 (Sz.bD u' ⟨b5,3,none⟩ v6) (fun h0 a ha e=>(hF a ha h0).1 (Option.some.inj e).symm),?_,?_⟩
 ·exact (h4.grown hg (by omega) (fun j hj=>by have:=(Rg.aT h2 _ hj).1;omega)).setCell (Nat.le_refl _) _
 ·have:=hg.size
  simp only[World.setCell,Array.size_modify];omega
end Ck
theorem jk (A K:Option Addr)(n c kn kc:Nat)(l:List Pk)(es:List LEnt)(w:World)(hw:MaxOk w)(hn:l.length=n)(hr:RRow w A l)(hl:n<=100000)(hf:Fine l)(hs:∀ p∈l,p.name.length<=1000000)
  (hen:es.length=kn) (hE:ERow w K es) (hel:kn<=100000) (hes:ESm es) :
  Calls Tryz.prog 60 #[.slice A n c,.slice K kn kc] w (ScaleRet A K n c kn kc (ranksL l) (titlesL l es) w):=by
 obtain⟨V,hV⟩:=ex (w.alloc (.cells #[.slice none 0 0,.slice none 0 0,.slice none 0 0,.slice none 0 0] 112))
 have HV:Hid (Below w.heap.size w V):=aa hV
 have af:=zh (jM hV)
 obtain⟨b4,a0⟩:=ex w.heap.size
 rw[a0] at af
 have ax:Hid (w.heap.size<=b4):=by show _<=_;omega
 have aL:=zh (ee A n c l V (ab hw HV.out) hn (aU hr HV.out) hl hf)
 have aM:=zh (fun u (h:Below w.heap.size w u)=>nH A n c l u hn (aU hr h) hl hs)
 have a8:=zh (fun nm u (h:Below w.heap.size w u)=>nE A n c l nm u hn (aU hr h) hl)
 have ba:=zh (fun nm u (h:Below w.heap.size w u)=>re K kn kc es nm u hen (Rg.ag hE h) hes (by omega))
 have ap:Hid ((namesR l).length<=100000):=by
  show _<=_
  unfold namesR
  refine Nat.le_trans (Lib.compact_length_le _) ?_
  rw[List.length_map];omega
 clear hw hn hr hf hs hen hE hes
 go_enter Tryz.func60,Tryz.ntmps60
 go_wp2_with fail
 clear hV a0
 refine aL.out.mono ?_
 rintro _ w2 ⟨v,rfl,ho,hb⟩
 obtain⟨R,rc,rfl,hR,-,-⟩:=Rg.au fitsI ho
 obtain⟨W0,aH⟩:=ex (w2.alloc (.cells #[.slice A n c,.slice K kn kc,.slice R (ranksL l).length rc,.slice none 0 0] 112))
 have ay:=zh (jM aH)
 obtain⟨-,-,-,z3,z4⟩:=bc ay.out
 obtain⟨W3,aI⟩:=ex (W0.setCell ⟨w2.heap.size,3,none⟩ (.slice none 0 0))
 have aq:Hid (SBlk w2.heap.size (.slice A n c) (.slice K kn kc) (.slice R (ranksL l).length rc) (.slice none 0 0) W3):=by show SBlk _ _ _ _ _ _;rw[<-aI];exact pT ay.out
 have ar:Hid (Below w.heap.size w w2):=bt HV.out hb
 have ac:Hid (Below w2.heap.size w2 W3):=by show Below _ _ _;rw[<-aI];exact (aa aH).setCell (Nat.le_refl _) _
 have bb:Hid (Below w.heap.size w W3):=bt ar.out ac.out
 have aN:Hid (∀ u,Below w2.heap.size w2 u->IRow u R (ranksL l)):=fun u h=>Rg.ag hR h
 have bd:Hid (∀ a,R=some a->a.block≠b4):=fun a e=>by
  subst e
  have h1:=(Rg.aT ho a.block rfl).1
  have h2:=block_lt af.out
  omega
 have aO:Hid (Below V.heap.size V w2):=hb
 clear ho hb aL hR
 go_wp2_with fail
 clear aI aH ay z3 z4
 obtain⟨b5,ae⟩:=ex w2.heap.size
 have ai:Hid (w.heap.size<=b5):=by show _<=_;rw[<-ae];exact ar.out.size
 have aj:Hid (V.heap.size<=b5):=by show _<=_;rw[<-ae];exact aO.out.size
 rw[ae] at aq ac aN ⊢
 refine (aM.out _ bb.out).mono ?_
 rintro _ W4 ⟨F,f,rfl,hF,hb⟩
 obtain⟨NS,aJ⟩:=ex (namesR l)
 rw[aJ] at hF ap ⊢
 have ak:=zh (a9 aq.out hb)
 have HF:=zh hF
 have aP:Hid (b5<W4.heap.size):=block_lt ak.out
 have az:Hid (Below b5 w2 W4):=ac.out.trans (hb.mono (by have:=ac.out.size;have:=block_lt aq.out;omega))
 have be:Hid (titlesL l es=NS.map (tiOf l es)):=by show _=_;unfold titlesL;rw[aJ]
 clear aJ hb hF aM aq ac
 obtain⟨B,hB⟩:=ex W4.heap.size
 have aA:Hid (b5<B/\B<=W4.heap.size):=by have:=aP.out;exact⟨by omega,by omega⟩
 obtain⟨N,hN⟩:=ex NS.length
 have aQ:=zh hN
 have bf:Hid (∀ a,F=some a->0<NS.length->a.block≠b5/\a.block<B):=fun a e h0=>by
  obtain⟨ad,e2,h1,h2⟩:=cE HF.out 0 h0
  rw[e] at e2;cases e2
  rw[Rg.add_zero] at h2
  exact⟨tJ ak.out (fun s=>⟨by simp,by simp,by simp,by simp⟩) h2,by omega⟩
 rw[hN] at ap ⊢
 clear hN hB aP ae
 go_wp2_with fail
 go_loopw [18] (fun i wr=>∃ (k:Nat) (v:Value),k<=N/\i=.int .i64 k/\Hid (SInv b5 B (.slice A n c) (.slice K kn kc) (.slice R (ranksL l).length rc) v ((NS.take k).map (tiOf l es)) F NS w2 wr)) (fun i _=>N-(intOf i).toNat)
 case atStart=>exact⟨0,_,Nat.zero_le _,rfl,ak.out,Rg.an _ _ _,HF.out,az.out,aA.out.2⟩
 case round =>
  obtain⟨k,v,hk,rfl,HI⟩:=hrel
  by_cases aR:k<N
  ·have av:k<NS.length:=by rw[aQ.out];exact aR
   obtain⟨ad,rfl,-,c0⟩:=cE HI.out.2.2.1 k av
   have al:=rh l es NS k av
   have aS:((NS.take k).map (tiOf l es)).length<=k:=by rw[List.length_map,List.length_take];omega
   obtain⟨nm,a1⟩:=ex (NS[k]'av)
   rw[a1] at c0 al
   have aB:=fun u h=>a8.out nm u h
   have aC:=fun u h=>ba.out nm u h
   obtain⟨g,hg⟩:=ex ((getE es nm).2)
   obtain⟨gv,a2⟩:=ex ((getE es nm).1)
   obtain⟨q,hq⟩:=ex (numF (fun p=>decide (p.name=nm)) 0 l)
   have aV:tiOf l es nm=(nm,g,(q.length:Int)):=by unfold tiOf;rw[hg,hq]
   simp only[hg,a2] at aC
   simp only[hq] at aB
   rw[aV] at al
   obtain⟨ts,a3⟩:=ex ((NS.take k).map (tiOf l es))
   rw[a3] at al aS HI
   have bg:=zh al
   have bh:Hid (ts.length+1<=1000000):=by show _<=_;have:=ap.out;omega
   have aD:=zh aC
   have aE:=zh aB
   have am:Hid (Below w.heap.size w wr):=ar.out.trans (HI.out.2.2.2.1.mono ai.out)
   have ae:=aA.out.1
   have aW:=zh aR
   have bo:N<=100000:=ap.out
   clear al aS a1 hg a2 hq aV a3 aC aB av
   go_wp2_with fail
   refine (aD.out _ am.out).mono ?_
   rintro _ w5 ⟨rfl,hb⟩
   have aX:=zh (ef HI.out ae hb)
   have bi:Hid (Below w.heap.size w w5):=bt am.out hb
   clear hb HI c0
   dsimp only
   go_wp2_with fail
   have HD:Hid (Below w5.heap.size w5 w5.drew):=(Below.refl _ _).drew
   obtain⟨-,-,-,f3,f4⟩:=bc (a9 aX.out.1 HD.out)
   go_region_law (first
    | (go_simp;go_at_call 20;refine (aE.out _ (bt bi.out HD.out)).mono ?_;rintro _ y ⟨vn,rfl,bl,bm⟩;have HY:Hid (SInv b5 B (.slice A n c) (.slice K kn kc) (.slice R (ranksL l).length rc) v ts (some ad) NS w2 y):=(by exact ef aX.out ae (bt HD.out bm));obtain⟨Q,qc,rfl,-,-,-⟩:=Rg.au fitsI bl;obtain⟨-,-,-,y3,y4⟩:=bc HY.out.1;have y5:=(bc (a9 HY.out.1 ((Below.refl _ _).alloc (Nat.le_refl _) (.cells #[.string ⟨nm.toArray⟩,.bool g,.int .i64 (q.length:Nat)] 153)))).2.2.2.1)
    | (refine Rg.bT sliceTi (by rfl) (.tmp 29) (.tmp 37) (by rfl) B v ts [((nm,g,(q.length:Int)):Ti)] (by simp[Act.eval]) (Rg.own_below HY.out.2.1 ((Below.refl _ _).alloc (Nat.le_refl _) _)) _ _ (by simp[Act.eval];rfl) (Rg.aw _ _ _ _ (by rfl)) (Nat.zero_lt_succ _) bh.out (ef HY.out ae ((Below.refl _ _).alloc (Nat.le_refl _) _)).2.2.2.2 ?_;intro v6 W6 aK a4 bn;obtain⟨Q6,c6,a5,-,-,-⟩:=Rg.au fitsTi aK;obtain⟨n6,a6⟩:∃ x,(ts++[((nm,g,(q.length:Int)):Ti)]).length=x:=⟨_,rfl⟩;rw[a6] at a5;clear a6;subst a5;obtain⟨z1,z2⟩:=tL (ef HY.out ae ((Below.refl _ _).alloc (Nat.le_refl _) _)) ae bf.out a4 aK;obtain⟨-,-,-,x3,x4⟩:=bc z1;have aY:=zh z2))
   all_goals
    rw[<-bg.out] at aY
    clear aK a4 bn z1 z2 x3 x4
    go_wp2_with fail
    go_roundw
    case rel=>exact⟨k+1,_,Nat.succ_le_of_lt aW.out,by go_num,aY.out⟩
    case measure=>have:=aW.out;simp[intOf];omega
  ·obtain rfl:k=N:=by omega
   obtain⟨h1,h2,h3,h4,h5⟩:=HI.out
   rw[List.take_of_length_le (by rw[aQ.out];exact Nat.le_refl _)] at h2
   rw[<-be.out] at h2
   obtain⟨T,tc,rfl,hT,-,-⟩:=Rg.au fitsTi h2
   obtain⟨s0,s1,s2,s3,-⟩:=bc h1
   have ah:Hid (Below V.heap.size V wr):=aO.out.trans (h4.mono aj.out)
   obtain⟨r0,r1,r2,r3,-⟩:=bc (a9 af.out ah.out)
   have z0:=dA (a9 af.out ah.out) 0
   have z1:=dA (a9 af.out ah.out) 1
   have z2:=dA (a9 af.out ah.out) 2
   have z3:=dA (a9 af.out ah.out) 3
   have HT:=zh hT
   have bj:Hid (∀ a,T=some a->a.block≠b4):=fun a e=>by
    subst e
    have q1:=(Rg.aT h2 a.block rfl).1
    have q2:=block_lt af.out
    have q3:=aA.out.1
    have q4:=aj.out
    omega
   have bk:=zh (aN.out wr h4)
   have am:Hid (Below w.heap.size w wr):=ar.out.trans (h4.mono ai.out)
   have ak:=zh (a9 af.out ah.out)
   obtain⟨W8,a7⟩:=ex ((((wr.setCell ⟨b4,0,none⟩ (.slice A n c)).setCell ⟨b4,1,none⟩ (.slice K kn kc)).setCell ⟨b4,2,none⟩ (.slice R (ranksL l).length rc)).setCell ⟨b4,3,none⟩ (.slice T (titlesL l es).length tc))
   have aF:Hid (wr.grownBy W8 (some b4)):=by show World.grownBy _ _ _;rw[<-a7];exact tK _ _ _ _ _ _
   have aZ:Hid (SBlk b4 (.slice A n c) (.slice K kn kc) (.slice R (ranksL l).length rc) (.slice T (titlesL l es).length tc) W8):=by show SBlk _ _ _ _ _ _;rw[<-a7];exact vV ak.out
   obtain⟨t0,t1,t2,t3,-⟩:=bc aZ.out
   clear h1 h2 h3 h5 hT HI
   go_wp2_with fail
   have ao:ScaleRet A K n c kn kc (ranksL l) (titlesL l es) w (.returned (.agg #[.slice A n c,.slice K kn kc,.slice R (ranksL l).length rc,.slice T (titlesL l es).length tc])) W8:=⟨R,rc,T,tc,rfl,bq bk.out aF.out (fun _ a e h=>bd.out a e (Option.some.inj h).symm),bq HT.out aF.out (fun _ a e h=>bj.out a e (Option.some.inj h).symm),am.out.grown aF.out am.out.size (fun j hj=>by have:=Option.some.inj hj;have:=ax.out;omega)⟩
   have aG:=fun tmps h=>vU (tmps:=tmps) aZ.out h
   exact bodyPost_ret (aG _ rfl) rfl ao
end
section
open Go.RowKit Rs At Pg Rp Ck Lk
attribute [local go_sem ↓] Go.wp_at_zero Go.wp_at_succ
attribute [local go_sem] Pg.aj
namespace Ck
theorem ng (l:List Pk):(ranksL l).length=l.length:=List.length_map _
theorem jl {l:List Pk}(hl:l.length<=100000):∀ x∈ranksL l,0<=x/\x<=1000000:=fun x hx=>by
 obtain⟨p,_,rfl⟩:=List.mem_map.1 hx
 have:=pQ (Ck.ahead p) l
 have e:rankP l p=cnt (Ck.ahead p) l:=rfl
 omega
theorem ri {α:Type} [Inhabited α] [DecidableEq α] {zs:List α}{x:α}(h:x∈Lib.compact zs):x∈zs:=by
 unfold Lib.compact Lib.compactUpTo at h
 obtain⟨j,hj,rfl⟩:=List.mem_map.1 h
 have:=List.mem_range.1 (List.mem_filter.1 hj).1
 rw[getElem!_pos zs.toArray j (by simpa using this)]
 exact List.getElem_mem (l:=zs) (n:=j) this
theorem gG (l:List Pk)(es:List LEnt):(titlesL l es).length<=l.length:=by
 unfold titlesL namesR
 rw[List.length_map]
 refine Nat.le_trans (Lib.compact_length_le _) ?_
 rw[List.length_map];exact Nat.le_refl _
theorem iJ {l:List Pk}(es:List LEnt)(hs:∀ p∈l,p.name.length<=1000000):∀ t∈titlesL l es,t.1.length<=1000000:=fun t ht=>by
 obtain⟨nm,hnm,rfl⟩:=List.mem_map.1 ht
 obtain⟨p,hp,rfl⟩:=List.mem_map.1 (ri hnm)
 exact hs p hp
def costOf (l:List Pk) (es:List LEnt) (set:List Int):List Int:=costL (ranksF l (ranksL l) set []) es (titlesL l es)
end Ck
theorem k9 (A K S:Option Addr)(n c kn kc m sc:Nat)(l:List Pk)(es:List LEnt)(set:List Int)(w:World)(hw:MaxOk w)(hn:l.length=n)(hr:RRow w A l)(hl:n<=100000)(hf:Fine l)(hs:∀ p∈l,p.name.length<=1000000)
  (hen:es.length=kn) (hE:ERow w K es) (hel:kn<=100000) (hes:ESm es) (hm:set.length=m) (hS:IRow w S set) (hml:m<=100000) :
  Calls Tryz.prog 57 #[.slice A n c,.slice K kn kc,.slice S m sc] w (NumRet w (costOf l es set)):=by
 have aa:=zh (jk A K n c kn kc l es w hw hn hr hl hf hs hen hE hel hes)
 have ab:Hid (∀ u,Below w.heap.size w u->∀ R rc T tc,IRow u R (ranksL l)->Ck.TRow u T (titlesL l es)->Calls Tryz.prog 61 #[.agg #[.slice A n c,.slice K kn kc,.slice R (ranksL l).length rc,.slice T (titlesL l es).length tc],.slice S m sc] u (NumRet u (costOf l es set))):=fun u h R rc T tc hR hT=>by
  have e:(ranksL l).length=n:=(ng l).trans hn
  rw[e]
  exact pS A K R T S n c kn kc rc _ tc m sc l es (ranksL l) (titlesL l es) set u hn (aU hr h) hl hs hen (Rg.ag hE h) hel hes e hR (jl (by omega)) rfl hT (Nat.le_trans (gG l es) (by omega)) (iJ es hs) hm (Rg.ag hS h) hml
 clear hw hn hr hf hs hen hE hes hm hS
 go_enter Tryz.func57,Tryz.ntmps57
 go_wp2_with fail
 refine aa.out.mono ?_
 rintro _ u ⟨R,rc,T,tc,rfl,hR,hT,hb⟩
 have HC:=zh (ab.out u hb R rc T tc hR hT)
 have HB:=zh hb
 clear hR hT hb aa ab
 go_wp2_with fail
 refine HC.out.mono ?_
 rintro _ u2 ⟨v,rfl,ho,ac⟩
 have HO:=zh (World.ownsRow.mono ho HB.out.size)
 have ad:Hid (Below w.heap.size w u2):=bt HB.out ac
 clear ho ac HC
 go_wp2_with fail
 go_ret
 exact⟨_,rfl,HO.out,ad.out⟩
end
end Go.Proofs.YtgnaiidgjmicaaaGreatDoor

/- Part 20 of what the laws lean on. -/
import Derived.Test.YtgnaiidgjmicaaaGreatDoorL19
set_option maxRecDepth 100000
set_option maxHeartbeats 3200000
namespace Go.Proofs.YtgnaiidgjmicaaaGreatDoor
section
open Go.RowKit Rs At Pg Rp
attribute [local go_sem ↓] Go.wp_at_zero Go.wp_at_succ
theorem Rp.sliceP:Rg.SliceT Tryz.prog encP 6 34 68:=⟨fitsP,by decide,by kernel_rfl,Rg.bw (z:=.agg #[.string ByteArray.empty,.string ByteArray.empty,.slice none 0 0,.slice none 0 0,.slice none 0 0,.float .f64 0]) (b:=112) (by kernel_rfl) (by rfl) (by decide)⟩
theorem Rp.iI:∀ i,Tryz.prog.info? 68=some i->∀ z,i.zero=some z->∀ u∈z.cells,NoB u:=lS (z0:=.agg #[.string ByteArray.empty,.string ByteArray.empty,.slice none 0 0,.slice none 0 0,.slice none 0 0,.float .f64 0]) (by kernel_rfl) (fun u hu b e=>by subst e;simp[Value.cells] at hu)
theorem Rp.gE:∀ d:PD,∀ u∈encP d,NoB u:=fun d u hu b e=>by subst e;simp[encP] at hu
theorem Rp.underR:Tryz.prog.underlying 34=some (.slice 68):=by kernel_rfl
theorem Rp.underS:Tryz.prog.underlying 33=some (.slice 68):=by kernel_rfl
theorem Rp.sizeP:(Tryz.prog.info? 68).map (·.size)=some 6:=by kernel_rfl
theorem Rp.vN (V:Option Addr)(k vc m:Nat)(h:m<=vc)(_hv:vc<=maxLen):∀ W:World,(Instr.sliceAt 34 (.slice V k vc) none (some (.int .i64 m)) none).run Tryz.prog W=.ok (.slice V m vc) W:=by
 intro W
 have i0:(0:Int)<=(m:Int):=by omega
 have i2:(m:Int)<=(vc:Int):=by omega
 go_simp
theorem Rp.fQ (g k vc m:Nat)(h:m<=k)(h2:k<=vc)(_hv:vc<=maxLen)(hne:¬ vc=m):∀ W:World,(Instr.sliceAt 34 (.slice (some ⟨g,0,none⟩) k vc) (some (.int .i64 m)) none none).run Tryz.prog W=.ok (.slice (some ⟨g,m*6,none⟩) (k-m) (vc-m)) W:=by
 intro W
 have i0:(0:Int)<=(m:Int):=by omega
 have i1:(m:Int)<=(k:Int):=by omega
 have i2:(m:Int)<=(vc:Int):=by omega
 have e:(⟨g,0,none⟩:Addr).add (m*6)=⟨g,m*6,none⟩:=by unfold Addr.add;split <;> simp_all
 go_simp
theorem Rp.aaD (V:Option Addr)(k vc m:Nat)(h:m<=k)(h2:k<=vc)(_hv:vc<=maxLen):∃ Y,((if vc=m then V else V.map (fun x=>x.add (m*6)))=Y)/\∀ W:World,(Instr.sliceAt 34 (.slice V k vc) (some (.int .i64 m)) none none).run Tryz.prog W=.ok (.slice Y (k-m) (vc-m)) W:=by
 refine⟨_,rfl,fun W=>?_⟩
 have i0:(0:Int)<=(m:Int):=by omega
 have i1:(m:Int)<=(k:Int):=by omega
 have i2:(m:Int)<=(vc:Int):=by omega
 go_simp
theorem tB (A:Option Addr)(n c b1 B:Nat)(ds:List PD)(d:PD)(w:World)(ho:Rg.Own encP 6 w B 68 (.slice A n c) ds)(hn:ds.length=n)(hp:Pure NoB w (.slice A n c))(hx:∀ j u,(encP d)[j]?=some u->w.cell? ⟨b1,j,none⟩=some u)(hl:n<=100000)(hB:B<=w.heap.size)(hc:n<=c)(hcm:c<=maxLen) :
  Calls Tryz.prog 108 #[.slice A n c,.int .i64 n,.slice (some ⟨b1,0,none⟩) 1 1] w (InsRet w B 68 (.slice A n c) (ds.take n++d :: ds.drop n)):=by
 obtain⟨Y,-,rY⟩:=aaD A n c n (Nat.le_refl _) hc hcm
 have he:ds.take n++d :: ds.drop n=ds++[d]:=by rw[<-hn,List.take_length,List.drop_length]
 rw[he]
 have HO:=zh ho
 have HP:=zh hp
 have HX:Hid (∀ j u,(Rg.flat encP [d])[j]?=some u->w.cell? ((⟨b1,0,none⟩:Addr).add j)=some u):=fun j u h=>by
  rw[Rg.om] at h
  have e:(⟨b1,0,none⟩:Addr).add j=⟨b1,j,none⟩:=by unfold Addr.add;split <;> simp_all
  rw[e];exact hx j u h
 have HL:Hid (ds.length+1<=1000000):=by show _<=_;omega
 have HB:=zh hB
 clear ho hp hx hl hc hcm hn he hB
 have dn:((n:Int)==(n:Int))=true:=by simp
 go_enter Tryz.func108,Tryz.ntmps108
 go_wp2_with (at_builtin;refine lY sliceP underS iI gE rfl (.tmp 23) (.tmp 24) rfl B _ ds [d] rfl HO.out HP.out _ _ _ rfl rfl HX.out (Nat.zero_lt_succ _) HL.out HB.out ?_)
 intro v' w' h1 h2 h3 h4 h5
 obtain⟨A',n',c',rfl⟩:=h5
 have HR:Hid (InsRet w B 68 (.slice A n c) (ds++[d]) (.returned (.slice A' n' c')) w'):=⟨_,rfl,h1,h2,h4,h3⟩
 clear h1 h2 h3 h4
 go_wp2_with fail
 go_ret
 exact HR.out
theorem Rp.so {w u:World}{n c B i:Nat}{ds:List PD}{d:PD}{v:Value}{cur2:List Value}{H:Nat}(hu:u.heap[H]?=some (.cells cur2.toArray 68 (0,0)))(hB:B<=H)(hn:ds.length=n)(hi:i<=n)(hc:n+1<=c)(hcm:c<=maxLen)(hl:cur2.length=c*6)
  (ht:cur2.take (i*6+6+(n-i)*6)=Rg.flat encP (ds.take i)++encP d++Rg.flat encP (ds.drop i)) (hnb:∀ x∈cur2,NoB x) (hv:v.ownBlock=some H\/w.heap.size<=H) (hg:w.grownBy u v.ownBlock):InsRet w B 68 v (ds.take i++d :: ds.drop i) (.returned (.slice (some ⟨H,0,none⟩) (n+1) c)) u:=by
 have hlen:(ds.take i++d :: ds.drop i).length=n+1:=by simp only[List.length_append,List.length_take,List.length_cons,List.length_drop,hn];omega
 have ab:Rg.flat encP (ds.take i++d :: ds.drop i)=Rg.flat encP (ds.take i)++encP d++Rg.flat encP (ds.drop i):=by
  rw[Rg.bG,show d :: ds.drop i=[d]++ds.drop i from rfl,Rg.bG,Rg.om,List.append_assoc]
 refine⟨_,rfl,⟨Rg.aV fitsP _,Or.inr ⟨H,c,cur2.toArray,by rw[hlen],hB,hu,by rw[hlen];exact hc,hcm,by simpa using hl,?_⟩⟩,?_,?_,hg⟩
 ·rw[hlen,ab,<-ht,List.toList_toArray]
  congr 1
  omega
 ·intro g2 ac j u2 aa
  cases ac
  rw[cell_of_row u H j _ _ (0,0) hu] at aa
  exact hnb u2 (by simpa using Array.mem_of_getElem? aa)
 ·rcases hv with hv | hv
  ·exact Or.inl hv.symm
  ·exact Or.inr ⟨H,rfl,hv⟩
theorem Rp.m8 {w:World}{g n c B i:Nat}{ds:List PD}(ho:Rg.Own encP 6 w B 68 (.slice (some ⟨g,0,none⟩) n c) ds)(hn:ds.length=n)(hi:i<=n):∃ cur:List Value,w.heap[g]?=some (.cells cur.toArray 68 (0,0))/\B<=g/\n<=c/\c<=maxLen/\cur.length=c*6/\cur.take (i*6)=Rg.flat encP (ds.take i)/\(Rg.flat encP (ds.take i)).length=i*6/\(Rg.flat encP (ds.drop i)).length=(n-i)*6/\(∀ j u,(Rg.flat encP (ds.drop i))[j]?=some u->w.cell? ((⟨g,i*6,none⟩:Addr).add j)=some u)/\(∀ j u,(Rg.flat encP (ds.take i))[j]?=some u->w.cell? ((⟨g,0,none⟩:Addr).add j)=some u):=by
 obtain⟨hlen,hv⟩:=ho
 rcases hv with⟨e,_⟩ | ⟨g',cap,cur,e,hBg,hg,hnc,hcm,hcs,htk⟩
 ·cases e
 obtain⟨rfl,rfl⟩:g=g'/\c=cap:=by injection e with e1 _ e3;injection e1 with e1;injection e1 with e1;exact⟨e1,e3⟩
 clear e
 have hX:(Rg.flat encP (ds.take i)).length=i*6:=by rw[Rg.aV fitsP,List.length_take];congr 1;omega
 have hY:(Rg.flat encP (ds.drop i)).length=(n-i)*6:=by rw[Rg.aV fitsP,List.length_drop,hn]
 have ab:Rg.flat encP (ds.take i)++Rg.flat encP (ds.drop i)=Rg.flat encP ds:=by rw[<-Rg.bG,List.take_append_drop]
 rw[hn] at htk hnc
 have aa:∀ k u,(Rg.flat encP ds)[k]?=some u->w.cell? ⟨g,k,none⟩=some u:=fun k u h2=>by
  rw[cell_of_row w g _ cur _ (0,0) hg]
  rw[<-htk,List.getElem?_take] at h2
  split at h2
  ·simpa using h2
  ·cases h2
 refine⟨cur.toList,by simpa using hg,hBg,hnc,hcm,by rw[Array.length_toList,hcs],?_,hX,hY,fun j u h=>?_,fun j u h=>?_⟩
 ·have h1:(cur.toList.take (n*6)).take (i*6)=cur.toList.take (i*6):=by rw[List.take_take,Nat.min_eq_left (Nat.mul_le_mul_right _ hi)]
  rw[<-h1,htk,<-ab,List.take_append_of_le_length (by omega)]
  exact List.take_of_length_le (by omega)
 ·have e:(⟨g,i*6,none⟩:Addr).add j=⟨g,i*6+j,none⟩:=by unfold Addr.add;split <;> simp_all
  rw[e]
  exact aa _ u (by rw[<-ab,List.getElem?_append_right (by omega),hX,Nat.add_sub_cancel_left];exact h)
 ·have e:(⟨g,0,none⟩:Addr).add j=⟨g,j,none⟩:=by unfold Addr.add;split <;> simp_all
  rw[e]
  exact aa _ u (by rw[<-ab,List.getElem?_append_left (List.getElem?_eq_some_iff.1 h).1];exact h)
theorem Rp.jK (l:List PD):∀ x∈Rg.flat encP l,NoB x:=fun x hx=>by
 obtain⟨y,_,hy⟩:=List.mem_flatMap.1 hx
 exact gE y x hy
theorem Rp.fe {a b c:List Value}(ha:∀ x∈a,NoB x)(hb:∀ x∈b,NoB x)(hc:∀ x∈c,NoB x)(k m:Nat):∀ x∈a.take k++b++c.drop m,NoB x:=fun x hx=>by
 rw[List.mem_append,List.mem_append] at hx
 rcases hx with (h | h) | h
 ·exact ha x (List.mem_of_mem_take h)
 ·exact hb x h
 ·exact hc x (List.mem_of_mem_drop h)
theorem Rp.kY {w:World}{g:Nat}(cs:Array Value):w.grownBy (w.setRow g cs) (some g):=⟨rfl,rfl,rfl,by simp,fun k _ hk=>setRow_other w g k cs (fun e=>hk (by rw[e]))⟩
theorem Rp.tC {w u:World}{r:Option Nat}(h:w.drew.grownBy u r):w.grownBy u r:=⟨h.os,h.tape,h.output,h.size,h.block⟩
theorem Rp.vO {w u x:World}{r:Option Nat}(h:w.grownBy u r)(k:u.grownBy x r):w.grownBy x r:=⟨k.os.trans h.os,k.tape.trans h.tape,k.output.trans h.output,Nat.le_trans h.size k.size,fun i hi hr=>(k.block i (Nat.lt_of_lt_of_le hi h.size) hr).trans (h.block i hi hr)⟩
theorem pP (g n c b1 i B:Nat)(ds:List PD)(d:PD)(w:World)(ho:Rg.Own encP 6 w B 68 (.slice (some ⟨g,0,none⟩) n c) ds)(hn:ds.length=n)(hi:i<n)(hroom:n+1<=c)(hp:Pure NoB w (.slice (some ⟨g,0,none⟩) n c))(TX:TypeId)(hx:w.heap[b1]?=some (.cells (encP d).toArray TX (0,0)))(hne:b1≠g)(hl:n<=100000) :
  Calls Tryz.prog 108 #[.slice (some ⟨g,0,none⟩) n c,.int .i64 i,.slice (some ⟨b1,0,none⟩) 1 1] w (InsRet w B 68 (.slice (some ⟨g,0,none⟩) n c) (ds.take i++d :: ds.drop i)):=by
 obtain⟨cur,hg,aG,aU,aj,ak,aH,hX,hY,aB,_⟩:=m8 ho hn (Nat.le_of_lt hi)
 have al:(encP d).length=6:=rfl
 have aA:∀ v∈Rg.flat encP (ds.drop i),v.oneCell'=true:=Rg.bd fitsP _
 have aJ:∀ v∈encP d,v.oneCell'=true:=fitsP.2 d
 have ad:=jK (ds.drop i)
 have ae:∀ x∈cur,NoB x:=fun x hx2=>by
  obtain⟨k,hk⟩:=List.mem_iff_getElem?.1 hx2
  exact hp g rfl k x (by rw[cell_of_row w g k _ _ (0,0) hg];simpa using hk)
 obtain⟨i1,aV⟩:=ex (i+1)
 obtain⟨n1,aI⟩:=ex (n+1)
 have av:i*6+(encP d).length=i1*6:=by rw[al];omega
 obtain⟨Y,ax⟩:=ex (Rg.flat encP (ds.drop i))
 obtain⟨X,aq⟩:=ex (Rg.flat encP (ds.take i))
 obtain⟨m1,m2⟩:=vL X (encP d) Y cur (by rw[<-aq,hX,aH]) (by rw[<-aq,<-ax,hX,hY,al,ak];omega)
 rw[ax] at hY aB aA ad
 rw[aq] at hX
 rw[hX,av] at m1 m2
 obtain⟨aa,ar⟩:=ex (cur.take (i1*6)++Y++cur.drop (i1*6+Y.length))
 rw[ar] at m1 m2
 obtain⟨ac,ay⟩:=ex (aa.take (i*6)++encP d++aa.drop (i1*6))
 rw[ay] at m1 m2
 have aC:aa.length=c*6:=by
  rw[<-ar];simp only[List.length_append,List.length_take,List.length_drop,ak,hY];omega
 have af:∀ x∈aa,NoB x:=by rw[<-ar];exact fe ae ad ae _ _
 have am:∀ x∈ac,NoB x:=by rw[<-ay];exact fe af (gE d) af _ _
 have an:Hid (∀ u:World,w.grownBy u (some g)->u.heap[g]?=some (.cells ac.toArray 68 (0,0))->InsRet w B 68 (.slice (some ⟨g,0,none⟩) n c) (ds.take i++d :: ds.drop i) (.returned (.slice (some ⟨g,0,none⟩) n1 c)) u):=fun u hgr hu=>by
  rw[<-aI]
  refine so hu aG hn (Nat.le_of_lt hi) hroom aj (m2.trans ak) ?_ am (Or.inl rfl) hgr
  rw[aq,ax,<-m1,hY,<-av,al]
 have aK:∀ lb cb,(callFunc 144 #[.slice (some ⟨b1,0,none⟩) 1 1,.slice (some ⟨g,i1*6,none⟩) lb cb]).run Tryz.prog w=.ok (.value (.bool false)) w:=fun lb cb=>by
  have aL:w.shape? b1=some (TX,6):=by simp[World.shape?,hx,encP]
  have aM:w.shape? g=some (68,c*6):=by simp[World.shape?,hg,ak]
  rw[run_callFunc_extern Tryz.func144 (by kernel_rfl) (by kernel_rfl) (by kernel_rfl) (e:=Extern.SlicesOverlaps.overlaps #[33,33] #[4]) (by kernel_rfl),
   Lib.run_overlaps_apart w 33 4 68 underS 6 (fun w=>by kernel_rfl) ⟨b1,0,none⟩ ⟨g,i1*6,none⟩ 1 1 lb cb hne TX 68 6 (c*6) aL aM (by omega) (by simp[World.frozen?,hx]) (by simp[World.frozen?,hx])]
  rfl
 have aD:∀ j v,(encP d)[j]?=some v->w.cell? ((⟨b1,0,none⟩:Addr).add j)=some v:=fun j v h=>by
  have e:(⟨b1,0,none⟩:Addr).add j=⟨b1,j,none⟩:=by unfold Addr.add;split <;> simp_all
  rw[e,cell_of_row w b1 j _ _ (0,0) hx]
  simpa using h
 obtain⟨W1,az⟩:=ex (w.drew.setRow g aa.toArray)
 have aw:W1.heap[g]?=some (.cells aa.toArray 68 (0,0)):=by rw[<-az];exact setRow_heap w.drew g _ _ _ _ hg
 have ag:Hid (w.grownBy W1 (some g)):=by show World.grownBy _ _ _;rw[<-az];exact tC (kY _)
 have ah:∀ j v,(encP d)[j]?=some v->W1.cell? ((⟨b1,0,none⟩:Addr).add j)=some v:=fun j v h=>by
  have:=aD j v h
  rwa [<-World.cell?_of_block (w:=w) (w':=W1) (by rw[Rs.add_block];exact ag.out.block b1 (Array.getElem?_eq_some_iff.1 hx).1 (fun e=>hne (Option.some.inj e)))] at this
 obtain⟨W2,au⟩:=ex (W1.setRow g ac.toArray)
 have HR:Hid (InsRet w B 68 (.slice (some ⟨g,0,none⟩) n c) (ds.take i++d :: ds.drop i) (.returned (.slice (some ⟨g,0,none⟩) n1 c)) W2):=by
  refine an.out W2 ?_ ?_
  ·rw[<-au];exact vO ag.out (kY _)
  ·rw[<-au];exact setRow_heap W1 g _ _ _ _ aw
 have aW:IntKind.i64.wrap ((i:Int)+1)=(i1:Int):=by rw[IntKind.wrap_i64];omega
 have aX:IntKind.i64.wrap ((n:Int)+1)=(n1:Int):=by rw[IntKind.wrap_i64];omega
 have r0:=fQ g n c i (Nat.le_of_lt hi) (by omega) aj (by omega)
 have r1:=vN (some ⟨g,0,none⟩) n c n1 (by omega) aj
 have r2:=fQ g n1 c i1 (by omega) (by omega) aj (by omega)
 have r3:=fQ g n1 c i (by omega) (by omega) aj (by omega)
 have d1:((i:Int)==(n:Int))=false:=by simp;omega
 have d2:decide (c<n1)=false:=decide_eq_false (by omega)
 have aE:min (n1-i) (n1-i1)=n-i:=by omega
 have ai:min 1 (n1-i)=1:=by omega
 have ao:i1*6+Y.length<=cur.length:=by rw[hY,ak];omega
 have ab:i*6+(encP d).length<=aa.length:=by rw[aC,al];omega
 have aN:Hid (cur.take (i1*6)++Y++cur.drop (i1*6+Y.length)=aa):=ar
 have aO:Hid (aa.take (i*6)++encP d++aa.drop (i*6+(encP d).length)=ac):=by show _=_;rw[av];exact ay
 have aY:(Builtin.copy_ #[34,33] 3 #[.slice (some ⟨g,i*6,none⟩) (n1-i) (c-i),.slice (some ⟨b1,0,none⟩) 1 1]).run Tryz.prog W1=.ok (.int .i64 1) W2:=by
  have h:=dR (P:=Tryz.prog) W1 34 33 3 68 g (i*6) (n1-i) (c-i) ⟨b1,0,none⟩ 1 1 aa.toArray _ (encP d) 6 1 underR sizeP aw ai al ah (by simpa using ab) aJ
  rw[List.toList_toArray,aO.out,au] at h
  exact h
 have aP:=zh az
 have aZ:=zh au
 have aF:w.drew.heap[g]?=some (.cells cur.toArray 68 (0,0)):=hg
 have HG:=zh aF
 have a0:=zh aw
 have HY:=zh hY
 have ap:∀ j u,Y[j]?=some u->w.drew.cell? ((⟨g,i*6,none⟩:Addr).add j)=some u:=aB
 have aQ:=zh ap
 have aR:=zh aA
 have a1:=zh ah
 have aS:=zh aE
 have aT:=zh ai
 have HF:=zh ao
 have a2:=zh ab
 clear aF ap aE ai ao ab az au hg aw hY aB aA aD ah ar ay m1 m2 hX aH av ak aC af am ae ad ho hn hp hx hne hroom hi aV aI ax aq aU aj aG an ag hl
 go_enter Tryz.func108,Tryz.ntmps108
 go_wp2_with (simp only[aK])
 go_region_law (refine kV (by rfl) (.tmp 73) (.tmp 76) 34 34 (by rfl) 68 6 (n-i) underR sizeP g (i1*6) (n1-i1) (c-i1) ⟨g,i*6,none⟩ (n1-i) (c-i) (by simp[Act.eval,Act.put]) (by simp[Act.eval,Act.put]) cur _ HG.out Y aS.out HY.out aQ.out HF.out aR.out ?_;rw[aN.out,aP.out])
 go_wp2_with fail
 go_ret
 exact HR.out
theorem ra (g n c b1 i B:Nat)(ds:List PD)(d:PD)(w:World)(ho:Rg.Own encP 6 w B 68 (.slice (some ⟨g,0,none⟩) n c) ds)(hn:ds.length=n)(hi:i<n)(hroom:c<n+1)(TX:TypeId)(hx:w.heap[b1]?=some (.cells (encP d).toArray TX (0,0)))(hl:n<=100000) :
  Calls Tryz.prog 108 #[.slice (some ⟨g,0,none⟩) n c,.int .i64 i,.slice (some ⟨b1,0,none⟩) 1 1] w (InsRet w B 68 (.slice (some ⟨g,0,none⟩) n c) (ds.take i++d :: ds.drop i)):=by
 obtain⟨cur,hg,be,bf,aO,bg,bh,hX,hY,aP,aY⟩:=m8 ho hn (Nat.le_of_lt hi)
 have aS:g<w.heap.size:=(Array.getElem?_eq_some_iff.1 hg).1
 have aT:b1<w.heap.size:=(Array.getElem?_eq_some_iff.1 hx).1
 have aj:(encP d).length=6:=rfl
 have aF:∀ v∈Rg.flat encP (ds.drop i),v.oneCell'=true:=Rg.bd fitsP _
 have a2:∀ v∈encP d,v.oneCell'=true:=fitsP.2 d
 have ae:=jK (ds.drop i)
 have af:=jK (ds.take i)
 obtain⟨H,hH⟩:=ex w.heap.size
 obtain⟨i1,bi⟩:=ex (i+1)
 obtain⟨n1,aZ⟩:=ex (n+1)
 obtain⟨k,hk⟩:∃ k,i+k=n1:=⟨n1-i,by omega⟩
 have ay:i*6+(encP d).length=i1*6:=by rw[aj];omega
 obtain⟨i0,z,aB,aC,a0,a1,hb⟩:=Rp.sliceP.info
 have hold:(Builtin.firstCells i0.size i (.slice (some ⟨g,0,none⟩) i c)).run Tryz.prog w.drew=.ok (Rg.flat encP (ds.take i)).toArray w.drew:=by
  rw[a1]
  exact run_firstCells_some w.drew 6 i ⟨g,0,none⟩ i c _ hX aY
 have ak:∀ ty,(Builtin.append_ #[34,3] ty #[.slice (some ⟨g,0,none⟩) i c,.int .i64 k]).run Tryz.prog w=_:=fun ty =>
  Lib.run_append_grow_zeros w 34 3 ty 68 i0 z .i64 .i64 underR (by kernel_rfl) aB aC (some ⟨g,0,none⟩) i c _ hold k (by omega) (by omega) (by omega) (by omega) (by
   have:k*i0.bytes<=200000*1000:=Nat.mul_le_mul (by omega) hb
   omega) (growslice_fits (by omega) (by
   have:(i+k)*i0.bytes<=200000*1000:=Nat.mul_le_mul (by omega) hb
   omega))
 rw[hk] at ak
 obtain⟨G,hG⟩:=ex (grownCap w n1 c 68)
 have a3:n1<=G:=by rw[<-hG];exact grownCap_ge w _ _ _
 have az:G<=maxLen:=by rw[<-hG];exact grownCap_le_maxLen w _ _ _ (by unfold maxLen;omega)
 obtain⟨Y,aQ⟩:=ex (Rg.flat encP (ds.drop i))
 obtain⟨X,aR⟩:=ex (Rg.flat encP (ds.take i))
 obtain⟨Z,hZ⟩:=ex ((Builtin.zeroCells z.cells k++Builtin.zeroCells z.cells (G-n1)).toList)
 have aG:∀ m,(Builtin.zeroCells z.cells m).size=m*6:=fun m=>by simp[Builtin.zeroCells,a0]
 have aH:Z.length=(G-i)*6:=by rw[<-hZ,Array.length_toList,Array.size_append,aG,aG];omega
 have am:∀ x∈Z,NoB x:=fun x hx2=>by
  rw[<-hZ,Array.mem_toList_iff,Array.mem_append] at hx2
  rcases hx2 with h | h
  ·exact e9 (iI i0 aB z aC) _ x h
  ·exact e9 (iI i0 aB z aC) _ x h
 rw[aQ] at hY aP aF ae
 rw[aR] at hX af ak
 have an:X.toArray++Builtin.zeroCells z.cells k++Builtin.zeroCells z.cells (G-n1)=(X++Z).toArray:=by
  rw[<-hZ];simp
 rw[hG,an,hH] at ak
 obtain⟨W1,au⟩:=ex (w.drew.alloc (.cells (X++Z).toArray 68))
 rw[au] at ak
 obtain⟨m1,m2⟩:=zT X (encP d) Y Z (by rw[aj,hY,aH];omega)
 rw[hX,ay] at m1 m2
 obtain⟨ab,aD⟩:=ex (X++Z)
 have aI:ab.length=G*6:=by rw[<-aD,List.length_append,hX,aH];omega
 have ag:∀ x∈ab,NoB x:=fun x hx2=>by
  rw[<-aD,List.mem_append] at hx2
  exact hx2.elim (af x) (am x)
 rw[aD] at m1 m2 au
 obtain⟨aa,av⟩:=ex (ab.take (i*6)++encP d++ab.drop (i1*6))
 rw[av] at m1 m2
 obtain⟨ad,aw⟩:=ex (aa.take (i1*6)++Y++aa.drop (i1*6+Y.length))
 rw[aw] at m1 m2
 have aJ:aa.length=G*6:=by
  rw[<-av];simp only[List.length_append,List.length_take,List.length_drop,aI,aj];omega
 have aU:ad.length=G*6:=by
  rw[<-aw];simp only[List.length_append,List.length_take,List.length_drop,aJ,hY];omega
 have ah:∀ x∈aa,NoB x:=by rw[<-av];exact fe ag (gE d) ag _ _
 have ao:∀ x∈ad,NoB x:=by rw[<-aw];exact fe ah ae ah _ _
 have aA:W1.heap[H]?=some (.cells ab.toArray 68 (0,0)):=by rw[<-au,<-hH];exact heap_alloc_new w.drew _
 obtain⟨W2,ax⟩:=ex (W1.setRow H aa.toArray)
 have aK:W2.heap[H]?=some (.cells aa.toArray 68 (0,0)):=by rw[<-ax];exact setRow_heap W1 H _ _ _ _ aA
 obtain⟨W3,aE⟩:=ex (W2.drew.setRow H ad.toArray)
 have aV:W3.heap[H]?=some (.cells ad.toArray 68 (0,0)):=by rw[<-aE];exact setRow_heap W2.drew H _ _ _ _ aK
 have aL:Below w.heap.size w W1:=by rw[<-au];exact (Below.refl _ _).drew.alloc (Nat.le_refl _) _
 have aM:Below w.heap.size w W2:=by rw[<-ax];exact below_setRow aL (by omega) _
 have al:Below w.heap.size w W3:=by rw[<-aE];exact below_setRow aM.drew (by omega) _
 have HR:Hid (InsRet w B 68 (.slice (some ⟨g,0,none⟩) n c) (ds.take i++d :: ds.drop i) (.returned (.slice (some ⟨H,0,none⟩) n1 G)) W3):=by
  rw[<-aZ]
  refine so aV (by omega) hn (Nat.le_of_lt hi) (by omega) az aU ?_ ao (Or.inr (by omega)) ⟨al.os,al.tape,al.output,al.size,fun k hk _=>al.block k hk⟩
  rw[aR,aQ,<-m1,hY,<-ay,aj]
 have aN:∀ j v,(encP d)[j]?=some v->W1.cell? ((⟨b1,0,none⟩:Addr).add j)=some v:=fun j v h=>by
  have e:(⟨b1,0,none⟩:Addr).add j=⟨b1,j,none⟩:=by unfold Addr.add;split <;> simp_all
  rw[e,World.cell?_of_block (aL.block b1 aT),cell_of_row w b1 j _ _ (0,0) hx]
  simpa using h
 have ap:∀ j u,Y[j]?=some u->W2.cell? ((⟨g,i*6,none⟩:Addr).add j)=some u:=fun j u h=>by
  exact (World.cell?_of_block (w:=w) (w':=W2) (a:=(⟨g,i*6,none⟩:Addr).add j) (by rw[Rs.add_block];exact aM.block g aS)).trans (aP j u h)
 have bj:IntKind.i64.wrap ((i:Int)+1)=(i1:Int):=by rw[IntKind.wrap_i64];omega
 have bk:IntKind.i64.wrap ((n:Int)+1)=(n1:Int):=by rw[IntKind.wrap_i64];omega
 have bl:IntKind.i64.wrap ((n1:Int)-(i:Int))=(k:Int):=by rw[IntKind.wrap_i64];omega
 have r0:=fQ g n c i (Nat.le_of_lt hi) (by omega) aO (by omega)
 have r1:=vN (some ⟨g,0,none⟩) n c i (by omega) aO
 have r2:=fQ H n1 G i1 (by omega) (by omega) az (by omega)
 have r3:=fQ H n1 G i (by omega) (by omega) az (by omega)
 have d1:((i:Int)==(n:Int))=false:=by simp;omega
 have d2:decide (c<n1)=true:=decide_eq_true (by omega)
 have aW:min (n-i) (n1-i1)=n-i:=by omega
 have ai:min 1 (n1-i)=1:=by omega
 have aq:i1*6+Y.length<=aa.length:=by rw[hY,aJ];omega
 have ac:i*6+(encP d).length<=ab.length:=by rw[aI,aj];omega
 have a4:Hid (ab.take (i*6)++encP d++ab.drop (i*6+(encP d).length)=aa):=by show _=_;rw[ay];exact av
 have a5:Hid (aa.take (i1*6)++Y++aa.drop (i1*6+Y.length)=ad):=aw
 have bm:(Builtin.copy_ #[34,33] 3 #[.slice (some ⟨H,i*6,none⟩) (n1-i) (G-i),.slice (some ⟨b1,0,none⟩) 1 1]).run Tryz.prog W1=.ok (.int .i64 1) W2:=by
  have h:=dR (P:=Tryz.prog) W1 34 33 3 68 H (i*6) (n1-i) (G-i) ⟨b1,0,none⟩ 1 1 ab.toArray _ (encP d) 6 1 underR sizeP aA ai aj aN (by simpa using ac) a2
  rw[List.toList_toArray,a4.out,ax] at h
  exact h
 have bn:=zh ax
 have a6:=zh aE
 have bo:=zh aA
 have aX:W2.drew.heap[H]?=some (.cells aa.toArray 68 (0,0)):=aK
 have a7:=zh aX
 have HY:=zh hY
 have ar:∀ j u,Y[j]?=some u->W2.drew.cell? ((⟨g,i*6,none⟩:Addr).add j)=some u:=ap
 have a8:=zh ar
 have a9:=zh aF
 have bp:=zh aN
 have ba:=zh aW
 have bb:=zh ai
 have HF:=zh aq
 have bq:=zh ac
 have bc:=zh ak
 clear aX ar aW ai aq ac au ax aE hg aA aK aV hY aP ap aF aN aD av aw m1 m2 hX bh ay bg aI aJ aU ag ah ao af ae am ho hn hx hroom hi bi aZ aQ aR bf aO be aL aM al hold ak an hZ aH aG aB aC a0 a1 hb hG a3 az hk hH aS aT aY hl
 go_enter Tryz.func108,Tryz.ntmps108
 go_wp2_with (at_builtin;refine Lib.wpList_append_run _ rfl _ _ _ _ rfl _ _ rfl rfl _ _ (bc.out _) ?_)
 go_region_law (refine kV (by rfl) (.tmp 50) (.tmp 53) 34 34 (by rfl) 68 6 (n-i) underR sizeP H (i1*6) (n1-i1) (G-i1) ⟨g,i*6,none⟩ (n-i) (c-i) (by simp[Act.eval,Act.put]) (by simp[Act.eval,Act.put]) aa _ a7.out Y ba.out HY.out a8.out HF.out a9.out ?_;rw[a5.out,a6.out])
 go_wp2_with fail
 go_ret
 exact HR.out
end
section
open Go.RowKit Rs At Pg Rp
attribute [local go_sem ↓] Go.wp_at_zero Go.wp_at_succ
attribute [local go_sem] Pg.aj
namespace Ck
def cmpR (p q:Pk):Int:=orL [cmpW p.wt q.wt,Vm.cmpV p.ver q.ver]
def ahead (p q:Pk):Bool:=decide (q.name=p.name)&&decide (0<cmpR q p)
def cnt (f:Pk->Bool):List Pk->Nat
 | []=>0
 | q :: l=>(if f q=true then 1 else 0)+cnt f l
def rankP (l:List Pk) (p:Pk):Nat:=cnt (ahead p) l
def ranksL (l:List Pk):List Int:=l.map fun p=>(rankP l p:Int)
def Fine (l:List Pk):Prop:=∀ p∈l,p.wt<Wm.W/\Vm.check p.ver=0
theorem jL (f:Pk->Bool):∀ (a:List Pk) (q:Pk),cnt f (a++[q])=cnt f a+(if f q=true then 1 else 0)
 | [],q=>by simp[cnt]
 | p :: a,q=>by rw[List.cons_append,cnt,jL f a q,cnt,Nat.add_assoc]
theorem yp (f:Pk->Bool)(l:List Pk)(k:Nat)(hk:k<l.length):cnt f (l.take (k+1))=cnt f (l.take k)+(if f l[k]=true then 1 else 0):=by
 rw[List.take_succ_eq_append_getElem hk,jL]
theorem pQ (f:Pk->Bool):∀ l:List Pk,cnt f l<=l.length
 | []=>Nat.le_refl _
 | p :: l=>by rw[cnt,List.length_cons];have:=pQ f l;split <;> omega
def TwoI (b:Nat) (x y:Int) (W:World):Prop:=W.cell? ⟨b,0,none⟩=some (.int .i64 x)/\W.cell? ⟨b,1,none⟩=some (.int .i64 y)
theorem zU {b:Nat}{x y:Int}{W:World}(h:TwoI b x y W):∀ (k:Nat) (h:k < [x,y].length),W.cell? ⟨b,k,none⟩=some (.int .i64 [x,y][k])
 | 0,_=>h.1
 | 1,_=>h.2
theorem yq (x y:Int)(u:World):TwoI u.heap.size x y (u.alloc (.cells #[.int .i64 x,.int .i64 y] 3)):=by
 have h:(u.alloc (.cells #[.int .i64 x,.int .i64 y] 3)).heap[u.heap.size]?=some (.cells #[.int .i64 x,.int .i64 y] 3 (0,0)):=heap_alloc_new u _
 constructor <;> simp only[World.cell?,h] <;> rfl
end Ck
open Ck
theorem nF (A:Option Addr)(n c:Nat)(l:List Pk)(i k:Nat)(w:World)(hw:MaxOk w)(hn:l.length=n)(hr:RRow w A l)(hf:Fine l)(hi:i<l.length)(hk:k<l.length) :
  Calls Tryz.prog 98 #[.slice A n c,.int .i64 i,.int .i64 k] w fun e w'=>e=.returned (.bool (decide (0<cmpR l[i] l[k])))/\Below w.heap.size w w':=by
 obtain⟨ad,D1,d1,C1,c1,G1,g1,rfl,-,-,-,ac⟩:=bB hr i hi
 obtain⟨ae,D2,d2,C2,c2,G2,g2,e,-,-,-,af⟩:=bB hr k hk
 cases e
 obtain⟨w1,v1⟩:=hf _ (List.getElem_mem hi)
 obtain⟨w2,v2⟩:=hf _ (List.getElem_mem hk)
 have ak:i<n:=by omega
 have al:k<n:=by omega
 obtain⟨p,hp⟩:=ex (l[i])
 obtain⟨q,hq⟩:=ex (l[k])
 rw[hp] at ac w1 v1 ⊢
 rw[hq] at af w2 v2 ⊢
 obtain⟨X,hX⟩:=ex (cmpW p.wt q.wt)
 obtain⟨Y,hY⟩:=ex (Vm.cmpV p.ver q.ver)
 have ag:Hid (∀ u,Calls Tryz.prog 138 #[.float .f64 p.wt,.float .f64 q.wt] u fun e w'=>e=.returned (.int .i64 X)/\u=w'):=fun u=>qV p.wt q.wt X u w1 w2 hX
 have ah:Hid (∀ u,Below w.heap.size w u->Calls Tryz.prog 47 #[.string ⟨p.ver.toArray⟩,.string ⟨q.ver.toArray⟩] u fun e w'=>e=.returned (.int .i64 Y)/\Below u.heap.size u w'):=fun u h=>by
  have:=fo p.ver q.ver u (ab hw h) v1 v2
  rw[hY] at this;exact this
 have HR:Hid (cmpR p q=orL [X,Y]):=by show _=_;unfold cmpR;rw[hX,hY]
 obtain⟨R,hR⟩:=ex (orL [X,Y])
 have ai:Hid (∀ b u,TwoI b X Y u->Calls Tryz.prog 125 #[.slice (some ⟨b,0,none⟩) 2 2] u fun e w'=>e=.returned (.int .i64 R)/\u=w'):=fun b u h=>by
  have:=dF [X,Y] b 2 u (by show 2<=100;omega) (zU h)
  rw[hR] at this;exact this
 rw[hR] at HR
 obtain⟨a1,h1⟩:=ex p.wt
 obtain⟨a2,h2⟩:=ex q.wt
 obtain⟨a3,h3⟩:=ex p.ver
 obtain⟨a4,h4⟩:=ex q.ver
 have aa:Hid (∀ u,Below w.heap.size w u->u.cell? ⟨(ad.add (i*6)).block,(ad.add (i*6)).off+5,none⟩=some (.float .f64 a1)/\u.cell? ⟨(ad.add (k*6)).block,(ad.add (k*6)).off+5,none⟩=some (.float .f64 a2)/\u.cell? ⟨(ad.add (i*6)).block,(ad.add (i*6)).off+1,none⟩=some (.string ⟨a3.toArray⟩)/\u.cell? ⟨(ad.add (k*6)).block,(ad.add (k*6)).off+1,none⟩=some (.string ⟨a4.toArray⟩)):=fun u h=>by
  obtain⟨-,x1,-,-,-,x5⟩:=ac u h
  obtain⟨-,y1,-,-,-,y5⟩:=af u h
  rw[h1] at x5;rw[h2] at y5;rw[h3] at x1;rw[h4] at y1
  exact⟨x5,y5,x1,y1⟩
 rw[h1,h2] at ag
 rw[h3,h4] at ah
 clear hw hn hr hf hi hk ac af w1 v1 w2 v2 hp hq hX hY hR h1 h2 h3 h4
 rw[HR.out]
 go_enter Tryz.func98,Tryz.ntmps98
 go_wp2_with fail
 have HD:Hid (Below w.heap.size w w.drew):=(Below.refl _ _).drew
 obtain⟨k1,k2,k3,k4⟩:=aa.out _ HD.out
 go_region_law (first
  | (go_simp;go_at_call 138;refine (ag.out _).mono ?_;rintro _ y ⟨rfl,rfl⟩)
  | (go_simp;go_at_call 47;refine (ah.out _ (by first | exact HD.out)).mono ?_;rintro _ y ⟨rfl,aj⟩;have HY:Hid (Below w.heap.size w y):=bt HD.out aj;obtain⟨m1,m2,m3,m4⟩:=aa.out _ HY.out)
  | (go_simp;go_at_call 125;refine (ai.out _ _ (yq _ _ _)).mono ?_;rintro _ z ⟨rfl,rfl⟩))
 all_goals
  go_wp2_with fail
  go_ret
  exact⟨rfl,HY.out.alloc HY.out.size _⟩
end
section
open Go.RowKit Rs At Pg Rp Ck
attribute [local go_sem ↓] Go.wp_at_zero Go.wp_at_succ
attribute [local go_sem] Pg.aj
theorem vP (A:Option Addr)(n c:Nat)(l:List Pk)(j:Nat)(w:World)(hw:MaxOk w)(hn:l.length=n)(hr:RRow w A l)(hl:n<=100000)(hf:Fine l)(hj:j<l.length) :
  Calls Tryz.prog 58 #[.slice A n c,.int .i64 j] w fun e w'=>e=.returned (.int .i64 (rankP l l[j]))/\Below w.heap.size w w':=by
 have HR:=zh hr
 have HN:=zh hn
 have HJ:=zh hj
 have ap:j<n:=by omega
 obtain⟨ad,D1,d1,C1,c1,G1,g1,rfl,-,-,-,ai⟩:=bB hr j hj
 obtain⟨p,hp⟩:=ex (l[j]'hj)
 have am:Hid (∀ (k:Nat) (hk:k<l.length) (u:World),Below w.heap.size w u->Calls Tryz.prog 98 #[.slice (some ad) n c,.int .i64 k,.int .i64 j] u fun e w'=>e=.returned (.bool (decide (0<cmpR l[k] p)))/\Below u.heap.size u w'):=fun k hk u h=>by
  have:=nF (some ad) n c l k j u (ab hw h) hn (aU hr h) hf hk hj
  rw[hp] at this;exact this
 rw[hp] at ai ⊢
 obtain⟨pn,aj⟩:=ex p.name
 have ak:Hid (∀ u,Below w.heap.size w u->u.cell? (ad.add (j*6))=some (.string ⟨pn.toArray⟩)):=fun u h=>by
  have:=(ai u h).1
  rwa [aj] at this
 have HP:=zh aj
 clear hw hn hr hf hj hp ai aj
 go_enter Tryz.func58,Tryz.ntmps58
 go_wp2_with fail
 go_loopw [5,9] (fun v i wr=>∃ k:Nat,k<=n/\i=.int .i64 k/\v=.int .i64 (cnt (Ck.ahead p) (l.take k):Nat)/\Hid (Below w.heap.size w wr)) (fun _ i _=>n-(intOf i).toNat)
 case atStart=>exact⟨0,Nat.zero_le _,rfl,rfl,Below.refl _ _⟩
 case round =>
  obtain⟨k,hk,rfl,rfl,HB⟩:=hrel
  by_cases an:k<n
  ·have ac:k<l.length:=by rw[HN.out];exact an
   obtain⟨ae,D,dc,C,cc,G,gc,e,-,-,-,hc⟩:=bB HR.out k ac
   cases e
   have aa:=zh (yp (Ck.ahead p) l k ac)
   have hP:=fun u h=>am.out k ac u h
   have ag:=pQ (Ck.ahead p) (l.take k)
   rw[List.length_take] at ag
   obtain⟨q,hq⟩:=ex (l[k]'ac)
   rw[hq] at hc aa hP
   obtain⟨qn,af⟩:=ex q.name
   have ah:Hid (∀ u,Below w.heap.size w u->u.cell? (ad.add (k*6))=some (.string ⟨qn.toArray⟩)):=fun u h=>by
    have:=(hc u h).1
    rwa [af] at this
   obtain⟨m,hm⟩:=ex (cnt (Ck.ahead p) (l.take k))
   rw[hm] at aa ag ⊢
   have aq:m<=100000:=by omega
   have wm:IntKind.i64.wrap ((m:Int)+1)=((m+1:Nat):Int):=by rw[IntKind.wrap_i64];omega
   have HD:Hid (Below w.heap.size w wr.drew):=HB.out.drew
   have k1:=ak.out _ HD.out
   have j1:=ak.out _ HB.out
   have j2:=ah.out _ HB.out
   have k2:=ah.out _ HD.out
   obtain⟨b,hb⟩:=ex (decide (0<cmpR q p))
   rw[hb] at hP
   have al:Hid (∀ u,Below w.heap.size w u->Calls Tryz.prog 98 #[.slice (some ad) n c,.int .i64 k,.int .i64 j] u fun e w'=>e=.returned (.bool b)/\Below u.heap.size u w'):=hP
   cases hx:(qn==pn) with
   | false =>
    have HA:Hid (Ck.ahead p q=false):=by
     show _=_
     unfold Ck.ahead
     rw[af,HP.out,decide_eq_false (by rw[beq_eq_false_iff_ne] at hx;exact hx)]
     rfl
    rw[HA.out] at aa
    clear hc hP hq af hm hb ac al ag wm ah
    go_wp2_with fail
    go_quiet (fail)
    all_goals
     go_wp2_with fail
     go_roundw
     case rel=>exact⟨k+1,by omega,by go_num,by rw[aa.out];rfl,below_drewN HB.out _⟩
     case measure=>simp[intOf];omega
   | true =>
    have HA:Hid (Ck.ahead p q=b):=by
     show _=_
     unfold Ck.ahead
     rw[af,HP.out,decide_eq_true (by rw[beq_iff_eq] at hx;exact hx),hb]
     rfl
    rw[HA.out] at aa
    clear hc hP hq af hm hb ac ag ah
    go_wp2_with fail
    go_region_law (first
     | (go_simp;go_at_call 98;refine (al.out _ (by first | exact HD.out)).mono ?_;rintro _ y ⟨rfl,ao⟩;have HY:Hid (Below w.heap.size w y):=bt HD.out ao))
    all_goals
     cases b
     ·go_wp2_with fail
      go_roundw
      case rel=>exact⟨k+1,by omega,by go_num,by rw[aa.out];rfl,HY.out⟩
      case measure=>simp[intOf];omega
     ·go_wp2_with fail
      go_roundw
      case rel=>exact⟨k+1,by omega,by go_num,by rw[aa.out];rfl,HY.out⟩
      case measure=>simp[intOf];omega
  ·obtain rfl:k=n:=by omega
   rw[List.take_of_length_le (by rw[HN.out];exact Nat.le_refl _)]
   go_wp2_with fail
   go_ret
   exact⟨rfl,HB.out⟩
theorem ee (A:Option Addr)(n c:Nat)(l:List Pk)(w:World)(hw:MaxOk w)(hn:l.length=n)(hr:RRow w A l)(hl:n<=100000)(hf:Fine l) :
  Calls Tryz.prog 27 #[.slice A n c] w (NumRet w (ranksL l)):=by
 have ak:Hid (∀ (k:Nat) (hk:k<l.length) (u:World),Below w.heap.size w u->Calls Tryz.prog 58 #[.slice A n c,.int .i64 k] u fun e w'=>e=.returned (.int .i64 (rankP l l[k]))/\Below u.heap.size u w'):=fun k hk u h=>vP A n c l k u (ab hw h) hn (aU hr h) hl hf hk
 have HN:=zh hn
 clear hw hn hr hf
 go_enter Tryz.func27,Tryz.ntmps27
 go_wp2_with fail
 go_loopw [3,7] (fun v i wr=>∃ k:Nat,k<=n/\i=.int .i64 k/\Hid (Rg.Own Rp.encI 1 wr w.heap.size 3 v ((ranksL l).take k))/\Hid (Below w.heap.size w wr/\w.heap.size<=wr.heap.size)) (fun _ i _=>n-(intOf i).toNat)
 case atStart=>exact⟨0,Nat.zero_le _,rfl,Rg.an _ _ _,Below.refl _ _,Nat.le_refl _⟩
 case round =>
  obtain⟨k,hk,rfl,HO,HB⟩:=hrel
  by_cases al:k<n
  ·have ad:k<l.length:=by rw[HN.out];exact al
   have HC:=zh (ak.out k ad wr HB.out.1)
   have aa:(ranksL l).take (k+1)=(ranksL l).take k++[(rankP l l[k]:Int)]:=by
    rw[List.take_succ_eq_append_getElem (by unfold ranksL;rw[List.length_map];exact ad)]
    congr 2
    unfold ranksL
    rw[List.getElem_map]
   have ag:((ranksL l).take k).length<=k:=by rw[List.length_take];omega
   obtain⟨x,hx⟩:=ex (rankP l l[k])
   obtain⟨out,ho⟩:=ex ((ranksL l).take k)
   rw[hx] at HC aa
   rw[ho] at HO aa ag
   have am:=zh aa
   have ah:Hid (out.length+1<=1000000):=by show _<=_;omega
   clear hx ho aa ag ad
   go_wp2_with fail
   refine HC.out.mono ?_
   rintro _ w1 ⟨rfl,ac⟩
   have ae:Hid (Below w.heap.size w w1/\w.heap.size<=w1.heap.size):=⟨HB.out.1.trans (ac.mono HB.out.2),Nat.le_trans HB.out.2 ac.size⟩
   have af:=zh (Rg.own_below HO.out ac)
   clear ac HC HB HO
   go_wp2_with (at_builtin;refine Rg.bb sliceI rfl (.tmp 10) (.tmp 14) rfl w.heap.size _ out [(x:Int)] rfl (Rg.own_below af.out ((Below.refl _ _).alloc (Nat.le_refl _) _)) _ _ rfl (Rg.aw w1 _ _ _ (by rfl)) (Nat.zero_lt_succ _) ah.out ?b1 ?_)
   case b1=>have:=ae.out.2;simp;omega
   intro v5 W5 ai aj aq
   have ao:=fc ae af aj
   have ap:Hid (Rg.Own Rp.encI 1 W5 w.heap.size 3 v5 ((ranksL l).take (k+1))):=by show Rg.Own _ _ _ _ _ _ _;rw[am.out];exact ai
   clear ai aj aq af ae ah
   go_wp2_with fail
   go_roundw
   case rel=>exact⟨k+1,by omega,by go_num,ap.out,ao.out⟩
   case measure=>simp[intOf];omega
  ·obtain rfl:k=n:=by omega
   have HF:Hid (Rg.Own Rp.encI 1 wr w.heap.size 3 u3 (ranksL l)):=by
    have:=HO.out
    rwa [List.take_of_length_le (by unfold ranksL;rw[List.length_map,HN.out];exact Nat.le_refl _)] at this
   clear HO
   go_wp2_with fail
   go_ret
   exact⟨_,rfl,HF.out,HB.out.1⟩
end
section
open Go.RowKit Rs At Pg Rp Ck
attribute [local go_sem ↓] Go.wp_at_zero Go.wp_at_succ
attribute [local go_sem] Pg.aj
namespace Ck
def cmpL:List Int->List Int->Int
 | [],[]=>0
 | [],_ :: _ => -1
 | _ :: _,[]=>1
 | x :: a,y :: b=>if Vm.sgn x y=0 then cmpL a b else Vm.sgn x y
theorem c8 {w:World}{A:Option Addr}{l:List Int}(h:IRow w A l)(k:Nat)(hk:k<l.length):∃ ad,A=some ad/\∀ u,Below w.heap.size w u->u.cell? (ad.add k)=some (.int .i64 (l[k]'hk)):=by
 obtain⟨ad,x,e,hx,hl,hc⟩:=Rg.bz h k hk
 subst hx
 have c0:=hc 0 _ rfl
 rw[if_pos rfl,Nat.mul_one] at c0
 exact⟨ad,e,fun u hb=>(hb.cell (bH c0)).trans c0⟩
end Ck
theorem nG (A B:Option Addr)(n m c d:Nat)(l r:List Int)(w:World)(hn:l.length=n)(hm:r.length=m)(hA:IRow w A l)(hB:IRow w B r)(hl:n<=1000000) :
  Calls Tryz.prog 59 #[.slice A n c,.slice B m d] w fun e w'=>e=.returned (.int .i64 (cmpL l r))/\w=w':=by
 have HN:=zh hn
 have HM:=zh hm
 have HA:=zh hA
 have HB:=zh hB
 obtain⟨X,hX⟩:=ex (cmpL l r)
 rw[hX]
 have HX:=zh hX
 clear hn hm hA hB hX
 go_enter Tryz.func59,Tryz.ntmps59
 go_wp2_with fail
 go_loopw [11] (fun i wr=>∃ k:Nat,k<=n/\i=.int .i64 k/\w=wr/\Hid (k<=m)/\Hid (cmpL (l.drop k) (r.drop k)=X)) (fun i _=>n-(intOf i).toNat)
 case atStart=>exact⟨0,Nat.zero_le _,rfl,rfl,Nat.zero_le _,HX.out⟩
 case round =>
  obtain⟨k,hk,rfl,rfl,ao,HY⟩:=hrel
  by_cases aj:k<n
  ·have aa:k<l.length:=by rw[HN.out];exact aj
   obtain⟨ad,rfl,hc⟩:=c8 HA.out k aa
   have c0:=hc w (Below.refl _ _)
   have ab:=List.drop_eq_getElem_cons aa
   obtain⟨x,hx⟩:=ex (l[k]'aa)
   rw[hx] at c0 ab
   by_cases ag:k<m
   ·have ac:k<r.length:=by rw[HM.out];exact ag
    obtain⟨ae,rfl,hd⟩:=c8 HB.out k ac
    have e0:=hd w (Below.refl _ _)
    have ah:=List.drop_eq_getElem_cons ac
    obtain⟨y,hy⟩:=ex (r[k]'ac)
    rw[hy] at e0 ah
    have h1:=HY.out
    rw[ab,ah,cmpL] at h1
    obtain⟨s,hs⟩:=ex (Vm.sgn x y)
    have ai:Hid (Calls Tryz.prog 99 #[.int .i64 x,.int .i64 y] w fun e w'=>e=.returned (.int .i64 s)/\w=w'):=by
     have:=bI x y w
     rw[hs] at this;exact this
    rw[hs] at h1
    have ak:Hid (k+1<=m):=ag
    by_cases h0:s=0
    ·rw[if_pos h0] at h1
     have al:=zh h1
     subst h0
     clear hc hd ab ah hx hy hs h1 aa ac
     go_wp2_with fail
     refine ai.out.mono ?_
     rintro _ w1 ⟨rfl,rfl⟩
     go_wp2_with fail
     go_roundw
     case rel=>exact⟨k+1,by omega,by go_num,by first | rfl | trivial,ak.out,al.out⟩
     case measure=>simp[intOf];omega
    ·rw[if_neg h0] at h1
     have am:Hid (s=X):=h1
     have an:(s==0)=false:=by simpa using h0
     clear hc hd ab ah hx hy hs h1 aa ac
     go_wp2_with fail
     refine ai.out.mono ?_
     rintro _ w1 ⟨rfl,rfl⟩
     go_wp2_with fail
     go_ret
     exact⟨by rw[am.out];rfl,rfl⟩
   ·have h1:=HY.out
    rw[ab,show r.drop k=[] from List.drop_eq_nil_of_le (by rw[HM.out];omega),cmpL] at h1
    have af:Hid (1=X):=h1
    clear hc ab hx h1 aa
    go_wp2_with fail
    go_ret
    exact⟨by rw[<-af.out];rfl,rfl⟩
  ·obtain rfl:k=n:=by omega
   have h1:=HY.out
   rw[show l.drop k=[] from List.drop_eq_nil_of_le (by rw[HN.out];exact Nat.le_refl _)] at h1
   by_cases ag:k<m
   ·rw[List.drop_eq_getElem_cons (by rw[HM.out];exact ag),cmpL] at h1
    have af:Hid (-1=X):=h1
    clear h1
    go_wp2_with fail
    go_ret
    exact⟨by rw[<-af.out];rfl,rfl⟩
   ·rw[show r.drop k=[] from List.drop_eq_nil_of_le (by rw[HM.out];omega),cmpL] at h1
    have af:Hid (0=X):=h1
    clear h1
    go_wp2_with fail
    go_ret
    exact⟨by rw[<-af.out];rfl,rfl⟩
theorem aH (A B:Option Addr)(n m c d:Nat)(l r:List Int)(w:World)(hn:l.length=n)(hm:r.length=m)(hA:IRow w A l)(hB:IRow w B r)(hl:n<=1000000) :
  Calls Tryz.prog 28 #[.slice A n c,.slice B m d] w fun e w'=>e=.returned (.int .i64 (cmpL l r))/\w=w':=by
 have HC:=zh (nG A B n m c d l r w hn hm hA hB hl)
 clear hn hm hA hB
 go_enter Tryz.func28,Tryz.ntmps28
 go_wp2_with fail
 refine HC.out.mono ?_
 rintro _ w1 ⟨rfl,rfl⟩
 go_wp2_with fail
 go_ret
 exact⟨rfl,rfl⟩
end
section
open Go.RowKit Rs At Pg Rp Ck
attribute [local go_sem ↓] Go.wp_at_zero Go.wp_at_succ
attribute [local go_sem] Pg.aj
namespace Ck
open Go.Maps Sz
abbrev Asc:=List (List UInt8 × Int)
def getA:Asc->List UInt8->Option Int
 | [],_=>none
 | (a,x) :: l,k=>if a=k then some x else getA l k
theorem m9 (a:List UInt8)(x:Int)(k:List UInt8):∀ l:Asc,getA (l++[(a,x)]) k=match getA l k with | some y=>some y | none=>if a=k then some x else none
 | []=>rfl
 | (b,y) :: l=>by
  rw[List.cons_append,getA,getA]
  by_cases h:b=k
  ·rw[if_pos h,if_pos h]
  ·rw[if_neg h,if_neg h];exact m9 a x k l
def IMap (w:World) (b:Nat) (l:Asc):Prop:=∃ (n:Nat) (D:DataW Unit),w.ownsMap Tryz.prog 9 (plainElem Tryz.prog 3) b n D/\n<=l.length/\∀ k:List UInt8,k.length<=140737488355328->Maps.has D (.string k)=(getA l k).isSome/\∀ x:Int,getA l k=some x->D.atKey (.string k) (.lit (.int .i64 0))=.lit (.int .i64 x)
theorem vQ (w:World):IMap (w.alloc (.map #[] 0)) w.heap.size []:=⟨0,_,World.ownsMap_made w _ _ _,Nat.le_refl _,fun _k _=>⟨rfl,fun p h=>by cases h⟩⟩
theorem ff {w:World}{b:Nat}{l:Asc}(h:IMap w b l){k:List UInt8}(hk:k.length<=140737488355328) :
  (Instr.lookup 154 (.map (some b)) (.string ⟨k.toArray⟩) true).run Tryz.prog w=.ok (.tuple #[.int .i64 ((getA l k).getD 0),.bool (getA l k).isSome]) w:=by
 obtain⟨n,D,ab,_,hh⟩:=h
 obtain⟨v,ps,ac,hv⟩:=ab.look_ok keyLaw Tryz.underlying154 (zeroI w) (plainElem_int Tryz.underlying3 (by decide)) (cW hk)
 obtain⟨c,rfl,hc,_⟩:=plainElem_int_inv Tryz.underlying3 hv
 obtain⟨h1,h2⟩:=hh k hk
 have aa:D.atKey (.string k) (.lit (.int .i64 0))=.lit (.int .i64 c):=congrArg Prod.fst hc
 rw[ac,h1]
 cases hp:getA l k with
 | some p =>
  rw[h2 p hp] at aa
  have e:=(Lit.int.inj (DataW.lit.inj aa)).2
  rw[<-e];rfl
 | none =>
  rw[hp] at h1
  rw[Maps.atKey_of_not_has h1] at aa
  have e:=(Lit.int.inj (DataW.lit.inj aa)).2
  rw[<-e];rfl
theorem yr {w:World}{b:Nat}{l:Asc}(h:IMap w b l){k:List UInt8}(hk:k.length<=140737488355328)(hl:l.length<=1000000)(hn:getA l k=none){x:Int}(x0:0<=x)(x1:x<=1000000) :
  ∃ w',(Instr.mapUpdate 154 (.map (some b)) (.string ⟨k.toArray⟩) (.int .i64 x)).run Tryz.prog w=.ok () w'/\IMap w' b (l++[(k,x)])/\w.mapTurned w' b:=by
 obtain⟨n,D,aa,ad,hh⟩:=h
 obtain⟨w',ac,ab,ht⟩:=aa.store keyLaw Tryz.underlying154 (by unfold maxLen;omega) (cW hk) (val:=.int .i64 x) (plainElem_int Tryz.underlying3 (by
  have h1:IntKind.i64.min = -9223372036854775808:=rfl
  have h2:IntKind.i64.max=9223372036854775807:=rfl
  unfold Lit.wf
  rw[Bool.and_eq_true,decide_eq_true_eq,decide_eq_true_eq,h1,h2];omega))
 refine⟨w',ac,⟨n+1,_,ab,by rw[List.length_append];simp;omega,fun y hy=>?_⟩,ht⟩
 rw[m9]
 by_cases e:y=k
 ·subst e
  rw[Maps.has_put_same aa.isMap (by trivial),hn,if_pos rfl]
  refine⟨rfl,fun p hp=>?_⟩
  rw[Maps.atKey_put_same aa.isMap (by trivial),Option.some.inj hp]
 ·rw[Maps.has_put_other (by intro h;exact e (Lit.string.inj h)),(hh y hy).1]
  have ek:¬ k=y:=fun h=>e h.symm
  rw[if_neg ek]
  refine⟨by cases getA l y <;> rfl,fun p hp=>?_⟩
  rw[Maps.atKey_put_other (by intro h;exact e (Lit.string.inj h))]
  refine (hh y hy).2 p ?_
  cases hq:getA l y with
  | none=>rw[hq] at hp;exact hp
  | some q=>rw[hq] at hp;exact hp
theorem tD {w w':World}{b B:Nat}{l:Asc}(h:IMap w b l)(hb:Below B w w')(hlt:b<B):IMap w' b l:=by
 obtain⟨n,D,⟨es,clock,hh,r⟩,h2⟩:=h
 exact⟨n,D,⟨es,clock,(hb.block b hlt).trans hh,r⟩,h2⟩
def ranksF (l:List Pk) (rk:List Int):List Int->Asc->Asc
 | [],acc=>acc
 | x :: s,acc=>if h:0<=x/\x<l.length/\l.length=rk.length then (if (getA acc (l[x.toNat]'(by omega)).name).isSome then ranksF l rk s acc else ranksF l rk s (acc++[((l[x.toNat]'(by omega)).name,rk[x.toNat]'(by omega))])) else ranksF l rk s acc
theorem kZ {l:List Pk}{rk:List Int}{x:Int}{s:List Int}{acc:Asc}(h:x<0\/(l.length:Int)<=x):ranksF l rk (x :: s) acc=ranksF l rk s acc:=by
 rw[ranksF,dif_neg (by omega)]
theorem vR {l:List Pk}{rk:List Int}{k:Nat}(s:List Int)(acc:Asc)(h:k<l.length)(he:l.length=rk.length):ranksF l rk ((k:Int) :: s) acc=if (getA acc (l[k]'h).name).isSome then ranksF l rk s acc else ranksF l rk s (acc++[((l[k]'h).name,rk[k]'(he ▸ h))]):=by
 rw[ranksF,dif_pos ⟨by omega,by omega,he⟩]
 rfl
end Ck
end
section
open Go.RowKit Rs At Pg Rp Ck
attribute [local go_sem ↓] Go.wp_at_zero Go.wp_at_succ
attribute [local go_sem] Pg.aj
namespace Ck
theorem pR {w V u:World}{T:TypeId}{a b c d:Value}(hV:w.alloc (.cells #[a,b,c,d] T)=V)(h:Below V.heap.size V u) :
  u.cell? ⟨w.heap.size,0,none⟩=some a/\u.cell? ⟨w.heap.size,1,none⟩=some b/\u.cell? ⟨w.heap.size,2,none⟩=some c/\u.cell? ⟨w.heap.size,3,none⟩=some d:=by
 have h0:V.heap[w.heap.size]?=some (.cells #[a,b,c,d] T (0,0)):=by rw[<-hV];exact heap_alloc_new w _
 have h1:=(h.block w.heap.size (block_lt h0)).trans h0
 refine⟨?_,?_,?_,?_⟩
 ·rw[cell_of_row u w.heap.size 0 _ _ (0,0) h1];rfl
 ·rw[cell_of_row u w.heap.size 1 _ _ (0,0) h1];rfl
 ·rw[cell_of_row u w.heap.size 2 _ _ (0,0) h1];rfl
 ·rw[cell_of_row u w.heap.size 3 _ _ (0,0) h1];rfl
end Ck
theorem rb (A K R T S:Option Addr)(n c kn kc rc tn tc m sc:Nat)(l:List Pk)(rk set:List Int)(w:World)(hn:l.length=n)(hr:RRow w A l)(_:n<=100000)(hs:∀ p∈l,p.name.length<=1000000)
  (hrn:rk.length=n) (hR:IRow w R rk) (hrk:∀ x∈rk,0<=x/\x<=1000000) (hm:set.length=m) (hS:IRow w S set) (hml:m<=100000) :
  Calls Tryz.prog 101 #[.agg #[.slice A n c,.slice K kn kc,.slice R n rc,.slice T tn tc],.slice S m sc] w fun e w'=>∃ b,e=.returned (.map (some b))/\IMap w' b (ranksF l rk set [])/\w.heap.size<=b/\b<w'.heap.size/\Below w.heap.size w w':=by
 obtain⟨V,hV⟩:=ex (w.alloc (.cells #[.slice A n c,.slice K kn kc,.slice R n rc,.slice T tn tc] 112))
 have HV:Hid (Below w.heap.size w V):=aa hV
 have aq:=zh (fun u (h:Below V.heap.size V u)=>pR hV h)
 obtain⟨W1,ao⟩:=ex (V.alloc (.map #[] 0))
 have aA:Hid (Below V.heap.size V W1):=aa ao
 obtain⟨b0,aD⟩:=ex w.heap.size
 obtain⟨b,hb⟩:=ex V.heap.size
 have aF:Hid (IMap W1 b []):=by show IMap _ _ _;rw[<-ao,<-hb];exact vQ V
 have aG:Hid (b<W1.heap.size):=by show _<_;rw[<-ao,<-hb];simp
 have aH:(Instr.makeMap 154 none).run Tryz.prog V=.ok (.map (some b)) W1:=by rw[<-ao,<-hb];rfl
 have aI:Hid (w.heap.size<=b):=by show _<=_;rw[<-hb];exact HV.out.size
 obtain⟨X,hX⟩:=ex (ranksF l rk set [])
 rw[hX]
 have HX:=zh hX
 have HR:=zh (aU hr HV.out)
 have aJ:Hid (IRow V R rk):=Rg.ag hR HV.out
 have aK:Hid (IRow V S set):=Rg.ag hS HV.out
 have HN:=zh hn
 have aB:=zh hrn
 have HM:=zh hm
 have HS:=zh hs
 have aL:=zh hrk
 rw[aD] at aq
 rw[hb] at aq aA
 clear hn hr hs hrn hR hrk hm hS hX
 go_enter Tryz.func101,Tryz.ntmps101
 go_wp2_with fail
 clear ao aH hV aD
 go_loopw [14] (fun i wr=>∃ (k:Nat) (acc:Asc),k<=m/\i=.int .i64 k/\Hid (ranksF l rk (set.drop k) acc=X)/\Hid (acc.length<=k)/\Hid (IMap wr b acc)/\Hid (Below b V wr/\b<wr.heap.size)) (fun i _=>m-(intOf i).toNat)
 case atStart=>exact⟨0,[],Nat.zero_le _,rfl,HX.out,Nat.le_refl _,aF.out,aA.out,aG.out⟩
 case round =>
  obtain⟨k,acc,hk,rfl,HY,ax,al,HB⟩:=hrel
  by_cases aM:k<m
  ·have ae:k<set.length:=by rw[HM.out];exact aM
   have am:Hid (Below V.heap.size V wr):=by show Below _ _ _;rw[hb];exact HB.out.1
   obtain⟨aQ,rfl,hc⟩:=c8 aK.out k ae
   have c0:=hc wr am.out
   obtain⟨x0,-,x2,-⟩:=aq.out wr HB.out.1
   have aj:=List.drop_eq_getElem_cons ae
   obtain⟨x,hx⟩:=ex (set[k]'ae)
   rw[hx] at c0 aj
   have h1:=HY.out
   rw[aj] at h1
   have af:Hid (acc.length<=k+1):=Nat.le_succ_of_le ax.out
   by_cases ah:x<0
   ·rw[kZ (Or.inl ah)] at h1
    have ai:=zh h1
    have d0:decide (x<0)=true:=decide_eq_true ah
    clear hc aj hx h1 ae x0 x2
    go_wp2_with fail
    go_roundw
    case rel=>exact⟨k+1,acc,by omega,by go_num,ai.out,af.out,al.out,HB.out⟩
    case measure=>simp[intOf];omega
   ·obtain⟨j,rfl⟩:∃ j:Nat,x=j:=⟨x.toNat,by omega⟩
    have d0:decide ((j:Int)<0)=false:=decide_eq_false ah
    by_cases aP:n<=j
    ·rw[kZ (Or.inr (by rw[HN.out];omega))] at h1
     have ai:=zh h1
     clear hc aj hx h1 ae x2
     go_wp2_with fail
     go_roundw
     case rel=>exact⟨k+1,acc,by omega,by go_num,ai.out,af.out,al.out,HB.out⟩
     case measure=>simp[intOf];omega
    ·have aC:j<n:=by omega
     have ak:j<l.length:=by rw[HN.out];exact aC
     have an:j<rk.length:=by rw[aB.out];exact aC
     rw[vR _ _ ak (by rw[HN.out,aB.out])] at h1
     obtain⟨ad,D,dc,C,cc,G,gc,rfl,-,-,-,ab⟩:=bB HR.out j ak
     obtain⟨ar,rfl,ay⟩:=c8 aJ.out j an
     have r0:=ay wr am.out
     obtain⟨c1,-⟩:=ab wr am.out
     have au:=HS.out _ (List.getElem_mem ak)
     obtain⟨y0,y1⟩:=aL.out _ (List.getElem_mem an)
     obtain⟨nm,az⟩:=ex ((l[j]'ak).name)
     obtain⟨y,hy⟩:=ex (rk[j]'an)
     rw[az] at c1 au h1
     rw[hy] at r0 y0 y1 h1
     have ap:=ff al.out (k:=nm) (by omega)
     cases hp:getA acc nm with
     | some q =>
      rw[hp] at ap h1
      have ai:Hid (ranksF l rk (set.drop (k+1)) acc=X):=h1
      dsimp only[Option.getD,Option.isSome] at ap
      clear hc aj hx h1 ae x2 ab ay az hy hp ak an au y0 y1 r0
      go_wp2_with fail
      go_roundw
      case rel=>exact⟨k+1,acc,by omega,by go_num,ai.out,af.out,al.out,HB.out⟩
      case measure=>simp[intOf];omega
     | none =>
      obtain⟨w2,aO,aE,ac⟩:=yr al.out (k:=nm) (by omega) (by have:=ax.out;omega) hp y0 y1
      rw[hp] at ap h1
      have ai:Hid (ranksF l rk (set.drop (k+1)) (acc++[(nm,y)])=X):=h1
      have av:=zh aE
      have aw:Hid ((acc++[(nm,y)]).length<=k+1):=by show _<=_;rw[List.length_append];exact Nat.succ_le_succ ax.out
      have aN:Hid (Below b V w2/\b<w2.heap.size):=by
       have hg:=ac.grown
       exact⟨HB.out.1.grown hg (Nat.le_of_lt HB.out.2) (fun j hj=>by have:=Option.some.inj hj;omega),Nat.lt_of_lt_of_le HB.out.2 hg.size⟩
      dsimp only[Option.getD,Option.isSome] at ap
      clear hc aj hx h1 ae ab ay az hy hp ak an au y0 y1 aE ac
      go_wp2_with fail
      go_roundw
      case rel=>exact⟨k+1,acc++[(nm,y)],by omega,by go_num,ai.out,aw.out,av.out,aN.out⟩
      case measure=>simp[intOf];omega
  ·obtain rfl:k=m:=by omega
   have HF:Hid (IMap wr b X):=by
    show IMap _ _ _
    have h1:=HY.out
    rw[show set.drop k=[] from List.drop_eq_nil_of_le (by rw[HM.out];exact Nat.le_refl _),ranksF] at h1
    rw[<-h1];exact al.out
   have am:Hid (Below w.heap.size w wr):=HV.out.trans (by have:=HB.out.1;rw[<-hb] at this;exact this.mono HV.out.size)
   go_wp2_with fail
   go_ret
   exact⟨b,rfl,HF.out,aI.out,HB.out.2,am.out⟩
end
end Go.Proofs.YtgnaiidgjmicaaaGreatDoor

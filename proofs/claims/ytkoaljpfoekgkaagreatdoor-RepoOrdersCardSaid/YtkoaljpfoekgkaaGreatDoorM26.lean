/- Part 26 of what the laws lean on. -/
import Derived.Test.YtkoaljpfoekgkaaGreatDoorM25
set_option maxRecDepth 100000
set_option maxHeartbeats 6400000
namespace Go.Proofs.YtkoaljpfoekgkaaGreatDoor
section
open Go.RowKit Rs At Pg Rp
attribute [local go_sem ↓] Go.wp_at_zero Go.wp_at_succ
theorem Rp.sliceP:Rg.SliceT Tryz.prog encP 6 28 39:=⟨fitsP,by decide,by kernel_rfl,Rg.bL (z:=.agg #[.string ByteArray.empty,.string ByteArray.empty,.slice none 0 0,.slice none 0 0,.slice none 0 0,.float .f64 0]) (b:=112) (by kernel_rfl) (by rfl) (by decide)⟩
theorem Rp.jH:∀ i,Tryz.prog.info? 39=some i->∀ z,i.zero=some z->∀ u∈z.cells,NoB u:=jT (z0:=.agg #[.string ByteArray.empty,.string ByteArray.empty,.slice none 0 0,.slice none 0 0,.slice none 0 0,.float .f64 0]) (by kernel_rfl) (fun u hu b e=>by subst e;simp[Value.cells] at hu)
theorem Rp.iI:∀ d:PD,∀ u∈encP d,NoB u:=fun d u hu b e=>by subst e;simp[encP] at hu
theorem Rp.underR:Tryz.prog.underlying 28=some (.slice 39):=by kernel_rfl
theorem Rp.underS:Tryz.prog.underlying 27=some (.slice 39):=by kernel_rfl
theorem Rp.sizeP:(Tryz.prog.info? 39).map (·.size)=some 6:=by kernel_rfl
theorem Rp.y9 (V:Option Addr)(k vc m:Nat)(h:m<=vc)(_hv:vc<=maxLen):∀ W:World,(Instr.sliceAt 28 (.slice V k vc) none (some (.int .i64 m)) none).run Tryz.prog W=.ok (.slice V m vc) W:=by
 intro W
 have i0:(0:Int)<=(m:Int):=by omega
 have i2:(m:Int)<=(vc:Int):=by omega
 go_simp
theorem Rp.gR (g k vc m:Nat)(h:m<=k)(h2:k<=vc)(_hv:vc<=maxLen)(hne:¬ vc=m):∀ W:World,(Instr.sliceAt 28 (.slice (some ⟨g,0,none⟩) k vc) (some (.int .i64 m)) none none).run Tryz.prog W=.ok (.slice (some ⟨g,m*6,none⟩) (k-m) (vc-m)) W:=by
 intro W
 have i0:(0:Int)<=(m:Int):=by omega
 have i1:(m:Int)<=(k:Int):=by omega
 have i2:(m:Int)<=(vc:Int):=by omega
 have e:(⟨g,0,none⟩:Addr).add (m*6)=⟨g,m*6,none⟩:=by unfold Addr.add;split <;> simp_all
 go_simp
theorem Rp.adu (V:Option Addr)(k vc m:Nat)(h:m<=k)(h2:k<=vc)(_hv:vc<=maxLen):∃ Y,((if vc=m then V else V.map (fun x=>x.add (m*6)))=Y)/\∀ W:World,(Instr.sliceAt 28 (.slice V k vc) (some (.int .i64 m)) none none).run Tryz.prog W=.ok (.slice Y (k-m) (vc-m)) W:=by
 refine⟨_,rfl,fun W=>?_⟩
 have i0:(0:Int)<=(m:Int):=by omega
 have i1:(m:Int)<=(k:Int):=by omega
 have i2:(m:Int)<=(vc:Int):=by omega
 go_simp
theorem wJ (A:Option Addr)(n c b1 B:Nat)(ds:List PD)(d:PD)(w:World)(ho:Rg.Own encP 6 w B 39 (.slice A n c) ds)(hn:ds.length=n)(hp:Pure NoB w (.slice A n c))(hx:∀ j u,(encP d)[j]?=some u->w.cell? ⟨b1,j,none⟩=some u)(hl:n<=100000)(hB:B<=w.heap.size)(hc:n<=c)(hcm:c<=maxLen) :
  Calls Tryz.prog 57 #[.slice A n c,.int .i64 n,.slice (some ⟨b1,0,none⟩) 1 1] w (InsRet w B 39 (.slice A n c) (ds.take n++d :: ds.drop n)):=by
 obtain⟨Y,-,rY⟩:=adu A n c n (Nat.le_refl _) hc hcm
 have he:ds.take n++d :: ds.drop n=ds++[d]:=by rw[<-hn,List.take_length,List.drop_length]
 rw[he]
 have HO:=zh ho
 have HP:=zh hp
 have HX:Hid (∀ j u,(Rg.flat encP [d])[j]?=some u->w.cell? ((⟨b1,0,none⟩:Addr).add j)=some u):=fun j u h=>by
  rw[Rg.qf] at h
  have e:(⟨b1,0,none⟩:Addr).add j=⟨b1,j,none⟩:=by unfold Addr.add;split <;> simp_all
  rw[e];exact hx j u h
 have HL:Hid (ds.length+1<=1000000):=by show _<=_;omega
 have HB:=zh hB
 clear ho hp hx hl hc hcm hn he hB
 have dn:((n:Int)==(n:Int))=true:=by simp
 go_enter Tryz.func57,Tryz.ntmps57
 go_wp2_with (at_builtin;refine nu sliceP underS jH iI rfl (.tmp 23) (.tmp 24) rfl B _ ds [d] rfl HO.out HP.out _ _ _ rfl rfl HX.out (Nat.zero_lt_succ _) HL.out HB.out ?_)
 intro v' w' h1 h2 h3 h4 h5
 obtain⟨A',n',c',rfl⟩:=h5
 have HR:Hid (InsRet w B 39 (.slice A n c) (ds++[d]) (.returned (.slice A' n' c')) w'):=⟨_,rfl,h1,h2,h4,h3⟩
 clear h1 h2 h3 h4
 go_wp2_with fail
 go_ret
 exact HR.out
theorem Rp.vi {w u:World}{n c B i:Nat}{ds:List PD}{d:PD}{v:Value}{cur2:List Value}{H:Nat}(hu:u.heap[H]?=some (.cells cur2.toArray 39 (0,0)))(hB:B<=H)(hn:ds.length=n)(hi:i<=n)(hc:n+1<=c)(hcm:c<=maxLen)(hl:cur2.length=c*6)
  (ht:cur2.take (i*6+6+(n-i)*6)=Rg.flat encP (ds.take i)++encP d++Rg.flat encP (ds.drop i)) (hnb:∀ x∈cur2,NoB x) (hv:v.ownBlock=some H\/w.heap.size<=H) (hg:w.grownBy u v.ownBlock):InsRet w B 39 v (ds.take i++d :: ds.drop i) (.returned (.slice (some ⟨H,0,none⟩) (n+1) c)) u:=by
 have hlen:(ds.take i++d :: ds.drop i).length=n+1:=by simp only[List.length_append,List.length_take,List.length_cons,List.length_drop,hn];omega
 have ab:Rg.flat encP (ds.take i++d :: ds.drop i)=Rg.flat encP (ds.take i)++encP d++Rg.flat encP (ds.drop i):=by
  rw[Rg.cj,show d :: ds.drop i=[d]++ds.drop i from rfl,Rg.cj,Rg.qf,List.append_assoc]
 refine⟨_,rfl,⟨Rg.bM fitsP _,Or.inr ⟨H,c,cur2.toArray,by rw[hlen],hB,hu,by rw[hlen];exact hc,hcm,by simpa using hl,?_⟩⟩,?_,?_,hg⟩
 ·rw[hlen,ab,<-ht,List.toList_toArray]
  congr 1
  omega
 ·intro g2 ac j u2 aa
  cases ac
  rw[cell_of_row u H j _ _ (0,0) hu] at aa
  exact hnb u2 (by simpa using Array.mem_of_getElem? aa)
 ·rcases hv with hv | hv
  ·exact Or.inl hv.symm
  ·exact Or.inr ⟨H,rfl,hv⟩
theorem Rp.oI {w:World}{g n c B i:Nat}{ds:List PD}(ho:Rg.Own encP 6 w B 39 (.slice (some ⟨g,0,none⟩) n c) ds)(hn:ds.length=n)(hi:i<=n):∃ cur:List Value,w.heap[g]?=some (.cells cur.toArray 39 (0,0))/\B<=g/\n<=c/\c<=maxLen/\cur.length=c*6/\cur.take (i*6)=Rg.flat encP (ds.take i)/\(Rg.flat encP (ds.take i)).length=i*6/\(Rg.flat encP (ds.drop i)).length=(n-i)*6/\(∀ j u,(Rg.flat encP (ds.drop i))[j]?=some u->w.cell? ((⟨g,i*6,none⟩:Addr).add j)=some u)/\(∀ j u,(Rg.flat encP (ds.take i))[j]?=some u->w.cell? ((⟨g,0,none⟩:Addr).add j)=some u):=by
 obtain⟨hlen,hv⟩:=ho
 rcases hv with⟨e,_⟩ | ⟨g',cap,cur,e,hBg,hg,hnc,hcm,hcs,htk⟩
 ·cases e
 obtain⟨rfl,rfl⟩:g=g'/\c=cap:=by injection e with e1 _ e3;injection e1 with e1;injection e1 with e1;exact⟨e1,e3⟩
 clear e
 have hX:(Rg.flat encP (ds.take i)).length=i*6:=by rw[Rg.bM fitsP,List.length_take];congr 1;omega
 have hY:(Rg.flat encP (ds.drop i)).length=(n-i)*6:=by rw[Rg.bM fitsP,List.length_drop,hn]
 have ab:Rg.flat encP (ds.take i)++Rg.flat encP (ds.drop i)=Rg.flat encP ds:=by rw[<-Rg.cj,List.take_append_drop]
 rw[hn] at htk hnc
 have aa:∀ k u,(Rg.flat encP ds)[k]?=some u->w.cell? ⟨g,k,none⟩=some u:=fun k u h2=>by
  rw[cell_of_row w g _ cur _ (0,0) hg]
  rw[<-htk,List.getElem?_take] at h2
  split at h2
  ·simpa using h2
  ·cases h2
 refine⟨cur.toList,by simpa using hg,hBg,hnc,hcm,by rw[Array.length_toList,hcs],?_,hX,hY,fun j u h=>?_,fun j u h=>?_⟩
 ·have h1:(cur.toList.take (n*6)).take (i*6)=cur.toList.take (i*6):=by rw[List.take_take,Nat.min_eq_left (Nat.mul_le_mul_right _ hi)]
  rw[<-h1,htk,<-ab,List.take_append_of_le_length (by omega)]
  exact List.take_of_length_le (by omega)
 ·have e:(⟨g,i*6,none⟩:Addr).add j=⟨g,i*6+j,none⟩:=by unfold Addr.add;split <;> simp_all
  rw[e]
  exact aa _ u (by rw[<-ab,List.getElem?_append_right (by omega),hX,Nat.add_sub_cancel_left];exact h)
 ·have e:(⟨g,0,none⟩:Addr).add j=⟨g,j,none⟩:=by unfold Addr.add;split <;> simp_all
  rw[e]
  exact aa _ u (by rw[<-ab,List.getElem?_append_left (List.getElem?_eq_some_iff.1 h).1];exact h)
theorem Rp.kV (l:List PD):∀ x∈Rg.flat encP l,NoB x:=fun x hx=>by
 obtain⟨y,_,hy⟩:=List.mem_flatMap.1 hx
 exact iI y x hy
theorem Rp.gf {a b c:List Value}(ha:∀ x∈a,NoB x)(hb:∀ x∈b,NoB x)(hc:∀ x∈c,NoB x)(k m:Nat):∀ x∈a.take k++b++c.drop m,NoB x:=fun x hx=>by
 rw[List.mem_append,List.mem_append] at hx
 rcases hx with (h | h) | h
 ·exact ha x (List.mem_of_mem_take h)
 ·exact hb x h
 ·exact hc x (List.mem_of_mem_drop h)
theorem Rp.mD {w:World}{g:Nat}(cs:Array Value):w.grownBy (w.setRow g cs) (some g):=⟨rfl,rfl,rfl,by simp,fun k _ hk=>setRow_other w g k cs (fun e=>hk (by rw[e]))⟩
theorem Rp.wK {w u:World}{r:Option Nat}(h:w.drew.grownBy u r):w.grownBy u r:=⟨h.os,h.tape,h.output,h.size,h.block⟩
theorem Rp.za {w u x:World}{r:Option Nat}(h:w.grownBy u r)(k:u.grownBy x r):w.grownBy x r:=⟨k.os.trans h.os,k.tape.trans h.tape,k.output.trans h.output,Nat.le_trans h.size k.size,fun i hi hr=>(k.block i (Nat.lt_of_lt_of_le hi h.size) hr).trans (h.block i hi hr)⟩
theorem r9 (g n c b1 i B:Nat)(ds:List PD)(d:PD)(w:World)(ho:Rg.Own encP 6 w B 39 (.slice (some ⟨g,0,none⟩) n c) ds)(hn:ds.length=n)(hi:i<n)(hroom:n+1<=c)(hp:Pure NoB w (.slice (some ⟨g,0,none⟩) n c))(TX:TypeId)(hx:w.heap[b1]?=some (.cells (encP d).toArray TX (0,0)))(hne:b1≠g)(hl:n<=100000) :
  Calls Tryz.prog 57 #[.slice (some ⟨g,0,none⟩) n c,.int .i64 i,.slice (some ⟨b1,0,none⟩) 1 1] w (InsRet w B 39 (.slice (some ⟨g,0,none⟩) n c) (ds.take i++d :: ds.drop i)):=by
 obtain⟨cur,hg,aG,aU,aj,ak,aH,hX,hY,aB,_⟩:=oI ho hn (Nat.le_of_lt hi)
 have al:(encP d).length=6:=rfl
 have aA:∀ v∈Rg.flat encP (ds.drop i),v.oneCell'=true:=Rg.bJ fitsP _
 have aJ:∀ v∈encP d,v.oneCell'=true:=fitsP.2 d
 have ad:=kV (ds.drop i)
 have ae:∀ x∈cur,NoB x:=fun x hx2=>by
  obtain⟨k,hk⟩:=List.mem_iff_getElem?.1 hx2
  exact hp g rfl k x (by rw[cell_of_row w g k _ _ (0,0) hg];simpa using hk)
 obtain⟨i1,aV⟩:=ex (i+1)
 obtain⟨n1,aI⟩:=ex (n+1)
 have av:i*6+(encP d).length=i1*6:=by rw[al];omega
 obtain⟨Y,ax⟩:=ex (Rg.flat encP (ds.drop i))
 obtain⟨X,aq⟩:=ex (Rg.flat encP (ds.take i))
 obtain⟨m1,m2⟩:=y7 X (encP d) Y cur (by rw[<-aq,hX,aH]) (by rw[<-aq,<-ax,hX,hY,al,ak];omega)
 rw[ax] at hY aB aA ad
 rw[aq] at hX
 rw[hX,av] at m1 m2
 obtain⟨aa,ar⟩:=ex (cur.take (i1*6)++Y++cur.drop (i1*6+Y.length))
 rw[ar] at m1 m2
 obtain⟨ac,ay⟩:=ex (aa.take (i*6)++encP d++aa.drop (i1*6))
 rw[ay] at m1 m2
 have aC:aa.length=c*6:=by
  rw[<-ar];simp only[List.length_append,List.length_take,List.length_drop,ak,hY];omega
 have af:∀ x∈aa,NoB x:=by rw[<-ar];exact gf ae ad ae _ _
 have am:∀ x∈ac,NoB x:=by rw[<-ay];exact gf af (iI d) af _ _
 have an:Hid (∀ u:World,w.grownBy u (some g)->u.heap[g]?=some (.cells ac.toArray 39 (0,0))->InsRet w B 39 (.slice (some ⟨g,0,none⟩) n c) (ds.take i++d :: ds.drop i) (.returned (.slice (some ⟨g,0,none⟩) n1 c)) u):=fun u hgr hu=>by
  rw[<-aI]
  refine vi hu aG hn (Nat.le_of_lt hi) hroom aj (m2.trans ak) ?_ am (Or.inl rfl) hgr
  rw[aq,ax,<-m1,hY,<-av,al]
 have aK:∀ lb cb,(callFunc 87 #[.slice (some ⟨b1,0,none⟩) 1 1,.slice (some ⟨g,i1*6,none⟩) lb cb]).run Tryz.prog w=.ok (.value (.bool false)) w:=fun lb cb=>by
  have aL:w.shape? b1=some (TX,6):=by simp[World.shape?,hx,encP]
  have aM:w.shape? g=some (39,c*6):=by simp[World.shape?,hg,ak]
  rw[run_callFunc_extern Tryz.func87 (by kernel_rfl) (by kernel_rfl) (by kernel_rfl) (e:=Extern.SlicesOverlaps.overlaps #[27,27] #[4]) (by kernel_rfl),
   Lib.run_overlaps_apart w 27 4 39 underS 6 (fun w=>by kernel_rfl) ⟨b1,0,none⟩ ⟨g,i1*6,none⟩ 1 1 lb cb hne TX 39 6 (c*6) aL aM (by omega) (by simp[World.frozen?,hx]) (by simp[World.frozen?,hx])]
  rfl
 have aD:∀ j v,(encP d)[j]?=some v->w.cell? ((⟨b1,0,none⟩:Addr).add j)=some v:=fun j v h=>by
  have e:(⟨b1,0,none⟩:Addr).add j=⟨b1,j,none⟩:=by unfold Addr.add;split <;> simp_all
  rw[e,cell_of_row w b1 j _ _ (0,0) hx]
  simpa using h
 obtain⟨W1,az⟩:=ex (w.drew.setRow g aa.toArray)
 have aw:W1.heap[g]?=some (.cells aa.toArray 39 (0,0)):=by rw[<-az];exact setRow_heap w.drew g _ _ _ _ hg
 have ag:Hid (w.grownBy W1 (some g)):=by show World.grownBy _ _ _;rw[<-az];exact wK (mD _)
 have ah:∀ j v,(encP d)[j]?=some v->W1.cell? ((⟨b1,0,none⟩:Addr).add j)=some v:=fun j v h=>by
  have:=aD j v h
  rwa [<-World.cell?_of_block (w:=w) (w':=W1) (by rw[Rs.add_block];exact ag.out.block b1 (Array.getElem?_eq_some_iff.1 hx).1 (fun e=>hne (Option.some.inj e)))] at this
 obtain⟨W2,au⟩:=ex (W1.setRow g ac.toArray)
 have HR:Hid (InsRet w B 39 (.slice (some ⟨g,0,none⟩) n c) (ds.take i++d :: ds.drop i) (.returned (.slice (some ⟨g,0,none⟩) n1 c)) W2):=by
  refine an.out W2 ?_ ?_
  ·rw[<-au];exact za ag.out (mD _)
  ·rw[<-au];exact setRow_heap W1 g _ _ _ _ aw
 have aW:IntKind.i64.wrap ((i:Int)+1)=(i1:Int):=by rw[IntKind.wrap_i64];omega
 have aX:IntKind.i64.wrap ((n:Int)+1)=(n1:Int):=by rw[IntKind.wrap_i64];omega
 have r0:=gR g n c i (Nat.le_of_lt hi) (by omega) aj (by omega)
 have r1:=y9 (some ⟨g,0,none⟩) n c n1 (by omega) aj
 have r2:=gR g n1 c i1 (by omega) (by omega) aj (by omega)
 have r3:=gR g n1 c i (by omega) (by omega) aj (by omega)
 have d1:((i:Int)==(n:Int))=false:=by simp;omega
 have d2:decide (c<n1)=false:=decide_eq_false (by omega)
 have aE:min (n1-i) (n1-i1)=n-i:=by omega
 have ai:min 1 (n1-i)=1:=by omega
 have ao:i1*6+Y.length<=cur.length:=by rw[hY,ak];omega
 have ab:i*6+(encP d).length<=aa.length:=by rw[aC,al];omega
 have aN:Hid (cur.take (i1*6)++Y++cur.drop (i1*6+Y.length)=aa):=ar
 have aO:Hid (aa.take (i*6)++encP d++aa.drop (i*6+(encP d).length)=ac):=by show _=_;rw[av];exact ay
 have aY:(Builtin.copy_ #[28,27] 3 #[.slice (some ⟨g,i*6,none⟩) (n1-i) (c-i),.slice (some ⟨b1,0,none⟩) 1 1]).run Tryz.prog W1=.ok (.int .i64 1) W2:=by
  have h:=er (P:=Tryz.prog) W1 28 27 3 39 g (i*6) (n1-i) (c-i) ⟨b1,0,none⟩ 1 1 aa.toArray _ (encP d) 6 1 underR sizeP aw ai al ah (by simpa using ab) aJ
  rw[List.toList_toArray,aO.out,au] at h
  exact h
 have aP:=zh az
 have aZ:=zh au
 have aF:w.drew.heap[g]?=some (.cells cur.toArray 39 (0,0)):=hg
 have HG:=zh aF
 have a0:=zh aw
 have HY:=zh hY
 have ap:∀ j u,Y[j]?=some u->w.drew.cell? ((⟨g,i*6,none⟩:Addr).add j)=some u:=aB
 have aQ:=zh ap
 have aR:=zh aA
 have a1:=zh ah
 have aS:=zh aE
 have aT:=zh ai
 have HF:=zh ao
 have a2:=zh ab
 clear aF ap aE ai ao ab az au hg aw hY aB aA aD ah ar ay m1 m2 hX aH av ak aC af am ae ad ho hn hp hx hne hroom hi aV aI ax aq aU aj aG an ag hl
 go_enter Tryz.func57,Tryz.ntmps57
 go_wp2_with (simp only[aK])
 go_region_law (refine mA (by rfl) (.tmp 73) (.tmp 76) 28 28 (by rfl) 39 6 (n-i) underR sizeP g (i1*6) (n1-i1) (c-i1) ⟨g,i*6,none⟩ (n1-i) (c-i) (by simp[Act.eval,Act.put]) (by simp[Act.eval,Act.put]) cur _ HG.out Y aS.out HY.out aQ.out HF.out aR.out ?_;rw[aN.out,aP.out])
 go_wp2_with fail
 go_ret
 exact HR.out
theorem tW (g n c b1 i B:Nat)(ds:List PD)(d:PD)(w:World)(ho:Rg.Own encP 6 w B 39 (.slice (some ⟨g,0,none⟩) n c) ds)(hn:ds.length=n)(hi:i<n)(hroom:c<n+1)(TX:TypeId)(hx:w.heap[b1]?=some (.cells (encP d).toArray TX (0,0)))(hl:n<=100000) :
  Calls Tryz.prog 57 #[.slice (some ⟨g,0,none⟩) n c,.int .i64 i,.slice (some ⟨b1,0,none⟩) 1 1] w (InsRet w B 39 (.slice (some ⟨g,0,none⟩) n c) (ds.take i++d :: ds.drop i)):=by
 obtain⟨cur,hg,bd,be,aO,bf,bg,hX,hY,aP,aY⟩:=oI ho hn (Nat.le_of_lt hi)
 have aS:g<w.heap.size:=(Array.getElem?_eq_some_iff.1 hg).1
 have aT:b1<w.heap.size:=(Array.getElem?_eq_some_iff.1 hx).1
 have aj:(encP d).length=6:=rfl
 have aF:∀ v∈Rg.flat encP (ds.drop i),v.oneCell'=true:=Rg.bJ fitsP _
 have a2:∀ v∈encP d,v.oneCell'=true:=fitsP.2 d
 have ae:=kV (ds.drop i)
 have af:=kV (ds.take i)
 obtain⟨H,hH⟩:=ex w.heap.size
 obtain⟨i1,bh⟩:=ex (i+1)
 obtain⟨n1,aZ⟩:=ex (n+1)
 obtain⟨k,hk⟩:∃ k,i+k=n1:=⟨n1-i,by omega⟩
 have ay:i*6+(encP d).length=i1*6:=by rw[aj];omega
 obtain⟨i0,z,aB,aC,a0,a1,hb⟩:=Rp.sliceP.info
 have hold:(Builtin.firstCells i0.size i (.slice (some ⟨g,0,none⟩) i c)).run Tryz.prog w.drew=.ok (Rg.flat encP (ds.take i)).toArray w.drew:=by
  rw[a1]
  exact run_firstCells_some w.drew 6 i ⟨g,0,none⟩ i c _ hX aY
 have ak:∀ ty,(Builtin.append_ #[28,3] ty #[.slice (some ⟨g,0,none⟩) i c,.int .i64 k]).run Tryz.prog w=_:=fun ty =>
  Lib.run_append_grow_zeros w 28 3 ty 39 i0 z .i64 .i64 underR (by kernel_rfl) aB aC (some ⟨g,0,none⟩) i c _ hold k (by omega) (by omega) (by omega) (by omega) (by
   have:k*i0.bytes<=200000*1000:=Nat.mul_le_mul (by omega) hb
   omega) (growslice_fits (by omega) (by
   have:(i+k)*i0.bytes<=200000*1000:=Nat.mul_le_mul (by omega) hb
   omega))
 rw[hk] at ak
 obtain⟨G,hG⟩:=ex (grownCap w n1 c 39)
 have a3:n1<=G:=by rw[<-hG];exact grownCap_ge w _ _ _
 have az:G<=maxLen:=by rw[<-hG];exact grownCap_le_maxLen w _ _ _ (by unfold maxLen;omega)
 obtain⟨Y,aQ⟩:=ex (Rg.flat encP (ds.drop i))
 obtain⟨X,aR⟩:=ex (Rg.flat encP (ds.take i))
 obtain⟨Z,hZ⟩:=ex ((Builtin.zeroCells z.cells k++Builtin.zeroCells z.cells (G-n1)).toList)
 have aG:∀ m,(Builtin.zeroCells z.cells m).size=m*6:=fun m=>by simp[Builtin.zeroCells,a0]
 have aH:Z.length=(G-i)*6:=by rw[<-hZ,Array.length_toList,Array.size_append,aG,aG];omega
 have am:∀ x∈Z,NoB x:=fun x hx2=>by
  rw[<-hZ,Array.mem_toList_iff,Array.mem_append] at hx2
  rcases hx2 with h | h
  ·exact fU (jH i0 aB z aC) _ x h
  ·exact fU (jH i0 aB z aC) _ x h
 rw[aQ] at hY aP aF ae
 rw[aR] at hX af ak
 have an:X.toArray++Builtin.zeroCells z.cells k++Builtin.zeroCells z.cells (G-n1)=(X++Z).toArray:=by
  rw[<-hZ];simp
 rw[hG,an,hH] at ak
 obtain⟨W1,au⟩:=ex (w.drew.alloc (.cells (X++Z).toArray 39))
 rw[au] at ak
 obtain⟨m1,m2⟩:=acM X (encP d) Y Z (by rw[aj,hY,aH];omega)
 rw[hX,ay] at m1 m2
 obtain⟨ab,aD⟩:=ex (X++Z)
 have aI:ab.length=G*6:=by rw[<-aD,List.length_append,hX,aH];omega
 have ag:∀ x∈ab,NoB x:=fun x hx2=>by
  rw[<-aD,List.mem_append] at hx2
  exact hx2.elim (af x) (am x)
 rw[aD] at m1 m2 au
 obtain⟨aa,av⟩:=ex (ab.take (i*6)++encP d++ab.drop (i1*6))
 rw[av] at m1 m2
 obtain⟨ad,aw⟩:=ex (aa.take (i1*6)++Y++aa.drop (i1*6+Y.length))
 rw[aw] at m1 m2
 have aJ:aa.length=G*6:=by
  rw[<-av];simp only[List.length_append,List.length_take,List.length_drop,aI,aj];omega
 have aU:ad.length=G*6:=by
  rw[<-aw];simp only[List.length_append,List.length_take,List.length_drop,aJ,hY];omega
 have ah:∀ x∈aa,NoB x:=by rw[<-av];exact gf ag (iI d) ag _ _
 have ao:∀ x∈ad,NoB x:=by rw[<-aw];exact gf ah ae ah _ _
 have aA:W1.heap[H]?=some (.cells ab.toArray 39 (0,0)):=by rw[<-au,<-hH];exact heap_alloc_new w.drew _
 obtain⟨W2,ax⟩:=ex (W1.setRow H aa.toArray)
 have aK:W2.heap[H]?=some (.cells aa.toArray 39 (0,0)):=by rw[<-ax];exact setRow_heap W1 H _ _ _ _ aA
 obtain⟨W3,aE⟩:=ex (W2.drew.setRow H ad.toArray)
 have aV:W3.heap[H]?=some (.cells ad.toArray 39 (0,0)):=by rw[<-aE];exact setRow_heap W2.drew H _ _ _ _ aK
 have aL:Below w.heap.size w W1:=by rw[<-au];exact (Below.refl _ _).drew.alloc (Nat.le_refl _) _
 have aM:Below w.heap.size w W2:=by rw[<-ax];exact below_setRow aL (by omega) _
 have al:Below w.heap.size w W3:=by rw[<-aE];exact below_setRow aM.drew (by omega) _
 have HR:Hid (InsRet w B 39 (.slice (some ⟨g,0,none⟩) n c) (ds.take i++d :: ds.drop i) (.returned (.slice (some ⟨H,0,none⟩) n1 G)) W3):=by
  rw[<-aZ]
  refine vi aV (by omega) hn (Nat.le_of_lt hi) (by omega) az aU ?_ ao (Or.inr (by omega)) ⟨al.os,al.tape,al.output,al.size,fun k hk _=>al.block k hk⟩
  rw[aR,aQ,<-m1,hY,<-ay,aj]
 have aN:∀ j v,(encP d)[j]?=some v->W1.cell? ((⟨b1,0,none⟩:Addr).add j)=some v:=fun j v h=>by
  have e:(⟨b1,0,none⟩:Addr).add j=⟨b1,j,none⟩:=by unfold Addr.add;split <;> simp_all
  rw[e,World.cell?_of_block (aL.block b1 aT),cell_of_row w b1 j _ _ (0,0) hx]
  simpa using h
 have ap:∀ j u,Y[j]?=some u->W2.cell? ((⟨g,i*6,none⟩:Addr).add j)=some u:=fun j u h=>by
  exact (World.cell?_of_block (w:=w) (w':=W2) (a:=(⟨g,i*6,none⟩:Addr).add j) (by rw[Rs.add_block];exact aM.block g aS)).trans (aP j u h)
 have bi:IntKind.i64.wrap ((i:Int)+1)=(i1:Int):=by rw[IntKind.wrap_i64];omega
 have bj:IntKind.i64.wrap ((n:Int)+1)=(n1:Int):=by rw[IntKind.wrap_i64];omega
 have bk:IntKind.i64.wrap ((n1:Int)-(i:Int))=(k:Int):=by rw[IntKind.wrap_i64];omega
 have r0:=gR g n c i (Nat.le_of_lt hi) (by omega) aO (by omega)
 have r1:=y9 (some ⟨g,0,none⟩) n c i (by omega) aO
 have r2:=gR H n1 G i1 (by omega) (by omega) az (by omega)
 have r3:=gR H n1 G i (by omega) (by omega) az (by omega)
 have d1:((i:Int)==(n:Int))=false:=by simp;omega
 have d2:decide (c<n1)=true:=decide_eq_true (by omega)
 have aW:min (n-i) (n1-i1)=n-i:=by omega
 have ai:min 1 (n1-i)=1:=by omega
 have aq:i1*6+Y.length<=aa.length:=by rw[hY,aJ];omega
 have ac:i*6+(encP d).length<=ab.length:=by rw[aI,aj];omega
 have a4:Hid (ab.take (i*6)++encP d++ab.drop (i*6+(encP d).length)=aa):=by show _=_;rw[ay];exact av
 have a5:Hid (aa.take (i1*6)++Y++aa.drop (i1*6+Y.length)=ad):=aw
 have bl:(Builtin.copy_ #[28,27] 3 #[.slice (some ⟨H,i*6,none⟩) (n1-i) (G-i),.slice (some ⟨b1,0,none⟩) 1 1]).run Tryz.prog W1=.ok (.int .i64 1) W2:=by
  have h:=er (P:=Tryz.prog) W1 28 27 3 39 H (i*6) (n1-i) (G-i) ⟨b1,0,none⟩ 1 1 ab.toArray _ (encP d) 6 1 underR sizeP aA ai aj aN (by simpa using ac) a2
  rw[List.toList_toArray,a4.out,ax] at h
  exact h
 have bm:=zh ax
 have a6:=zh aE
 have bn:=zh aA
 have aX:W2.drew.heap[H]?=some (.cells aa.toArray 39 (0,0)):=aK
 have a7:=zh aX
 have HY:=zh hY
 have ar:∀ j u,Y[j]?=some u->W2.drew.cell? ((⟨g,i*6,none⟩:Addr).add j)=some u:=ap
 have a8:=zh ar
 have a9:=zh aF
 have bo:=zh aN
 have ba:=zh aW
 have bb:=zh ai
 have HF:=zh aq
 have bp:=zh ac
 have bc:=zh ak
 clear aX ar aW ai aq ac au ax aE hg aA aK aV hY aP ap aF aN aD av aw m1 m2 hX bg ay bf aI aJ aU ag ah ao af ae am ho hn hx hroom hi bh aZ aQ aR be aO bd aL aM al hold ak an hZ aH aG aB aC a0 a1 hb hG a3 az hk hH aS aT aY hl
 go_enter Tryz.func57,Tryz.ntmps57
 go_wp2_with (at_builtin;refine Lib.wpList_append_run _ rfl _ _ _ _ rfl _ _ rfl rfl _ _ (bc.out _) ?_)
 go_region_law (refine mA (by rfl) (.tmp 50) (.tmp 53) 28 28 (by rfl) 39 6 (n-i) underR sizeP H (i1*6) (n1-i1) (G-i1) ⟨g,i*6,none⟩ (n-i) (c-i) (by simp[Act.eval,Act.put]) (by simp[Act.eval,Act.put]) aa _ a7.out Y ba.out HY.out a8.out HF.out a9.out ?_;rw[a5.out,a6.out])
 go_wp2_with fail
 go_ret
 exact HR.out
end
section
open Go.RowKit Rs At Pg Rp
attribute [local go_sem ↓] Go.wp_at_zero Go.wp_at_succ
attribute [local go_sem] Pg.av
def Rp.SeaRet (w:World) (p:Pk) (l:List Pk) (e:Ending) (w':World):Prop:=∃ (i:Nat) (b:Bool),e=.returned (.tuple #[.int .i64 i,.bool b])/\Rp.Place p l i/\(b=true↔∃ h:i<l.length,cmpP l[i] p=0)/\Below w.heap.size w w'
theorem Rp.acN {p:Pk}{l:List Pk}{n i:Nat}(hn:l.length=n)(h1:∀ (t:Nat) (h:t<l.length),t+1=i->cmpP l[t] p<0)(h2:∀ h:i<l.length,0<=cmpP l[i] p)(hi:i<=n):Rp.Place p l i:=⟨by omega,h1,fun h=>by have:=h2 h;omega⟩
theorem wL (A:Option Addr)(n c:Nat)(l:List Pk)(p:Pk)(yD yC yG:Option Addr)(ydn ydc ycn ycc ygn ygc:Nat)(ynm yvr:List UInt8)(ywt:Nat)(w:World)(hw:MaxOk w)(hn:l.length=n)(hr:RRow w A l)(hl:n<=100000)(ho:∀ q∈l,Vm.check q.ver=0)(hpv:Vm.check p.ver=0)(e0:p.name=ynm)(e1:p.ver=yvr) :
  Calls Tryz.prog 55 #[.slice A n c,.agg #[.string ⟨ynm.toArray⟩,.string ⟨yvr.toArray⟩,.slice yD ydn ydc,.slice yC ycn ycc,.slice yG ygn ygc,.float .f64 ywt],.func (.func 56) #[] #[]] w (SeaRet w p l):=by
 obtain⟨bx,aL⟩:=ex w.heap.size
 obtain⟨V,hV⟩:=ex (w.alloc (.cells #[.string ⟨ynm.toArray⟩,.string ⟨yvr.toArray⟩,.slice yD ydn ydc,.slice yC ycn ycc,.slice yG ygn ygc,.float .f64 ywt] 39))
 have aN:Hid (Below w.heap.size w V):=ab hV
 have az:Hid (∀ u,Below V.heap.size V u->Below w.heap.size w u):=fun u h=>bt aN.out h
 have HX:Hid (∀ u,Below V.heap.size V u->u.cell? ⟨bx,0,none⟩=some (.string ⟨ynm.toArray⟩)/\u.cell? ⟨bx,1,none⟩=some (.string ⟨yvr.toArray⟩)/\u.cell? ⟨bx,2,none⟩=some (.slice yD ydn ydc)/\u.cell? ⟨bx,3,none⟩=some (.slice yC ycn ycc)/\u.cell? ⟨bx,4,none⟩=some (.slice yG ygn ygc)/\u.cell? ⟨bx,5,none⟩=some (.float .f64 ywt)):=fun u h=>by
  rw[<-aL]
  exact ak hV h
 have HM:=zh (fun u (h:Below w.heap.size w u)=>aa hw h)
 have HN:=zh hn
 have HR:=zh hr
 have HO:=zh ho
 have HC:Hid (∀ (q:Pk) (D C G:Option Addr) (dn dc cn cc gn gc:Nat) (nm vr:List UInt8) (wt:Nat),Vm.check q.ver=0->q.name=nm->q.ver=vr->∀ y,cmpP q p=y->∀ u,Below V.heap.size V u->Calls Tryz.prog 56 #[.agg #[.string ⟨nm.toArray⟩,.string ⟨vr.toArray⟩,.slice D dn dc,.slice C cn cc,.slice G gn gc,.float .f64 wt],.agg #[.string ⟨ynm.toArray⟩,.string ⟨yvr.toArray⟩,.slice yD ydn ydc,.slice yC ycn ycc,.slice yG ygn ygc,.float .f64 ywt]] u fun e w'=>e=.returned (.int .i64 y)/\Below u.heap.size u w'):=fun q D C G dn dc cn cc gn gc nm vr wt hq a0 a1 y hy u hu=>by
  subst hy a0 a1 e0 e1
  exact fX _ _ _ _ D C G yD yC yG dn dc cn cc gn gc ydn ydc ycn ycc ygn ygc wt ywt u (HM.out u (az.out u hu)) hq hpv
 have aQ:=zh (fun u (h:Below V.heap.size V u)=>(HX.out u h))
 clear hw hn hr ho hpv e0 e1
 go_enter Tryz.func55,Tryz.ntmps55
 go_wp2_with fail
 clear hV aL
 go_loopw [9,10] (fun a b wr=>∃ i j:Nat,i<=j/\j<=n/\a=.int .i64 i/\b=.int .i64 j/\Hid (∀ (t:Nat) (h:t<l.length),t+1=i->cmpP l[t] p<0)/\Hid (∀ h:j<l.length,0<=cmpP l[j] p)/\Hid (Below V.heap.size V wr)) (fun a b _=>(intOf b).toNat-(intOf a).toNat)
 case atStart=>exact⟨0,n,Nat.zero_le _,Nat.le_refl _,rfl,rfl,fun t h e=>by omega,fun h=>by have:=HN.out;omega,Below.refl _ _⟩
 case round =>
  obtain⟨i,j,aM,aA,rfl,rfl,H1,H2,HB⟩:=hrel
  by_cases ax:i<j
  ·have aH:=zh ax
   obtain⟨s,hs⟩:=ex (i+j)
   obtain⟨k,hk⟩:=ex (s / 2)
   have af:k<l.length:=by rw[HN.out];omega
   have aI:i<=k:=by omega
   have aJ:k<j:=by omega
   have w1:IntKind.i64.wrap ((i:Int)+(j:Int))=(s:Int):=by rw[IntKind.wrap_i64];omega
   have w2:IntKind.u64.wrap (s:Int)=(s:Int):=by rw[IntKind.wrap_u64];omega
   have w3:(s:Int) / 2=(k:Int):=by omega
   have w4:IntKind.i64.wrap (k:Int)=(k:Int):=by rw[IntKind.wrap_i64];omega
   have w5:IntKind.i64.wrap ((k:Int)+1)=((k+1:Nat):Int):=by rw[IntKind.wrap_i64];omega
   have aO:(k:Int)<(n:Int):=by have:=HN.out;omega
   have aP:(0:Int)<=(k:Int):=by omega
   have aD:=zh aI
   have aB:=zh aJ
   have aK:=zh aA
   obtain⟨ad,xD,ah,xC,ai,xG,aj,rfl,-,-,-,ac⟩:=bn HR.out k af
   have ar:=HO.out _ (List.getElem_mem af)
   have aE:∀ (t:Nat) (h:t<l.length),t+1=k+1->cmpP l[t] p=cmpP l[k] p:=fun t h e=>by
    have:t=k:=by omega
    subst this;rfl
   obtain⟨q,hq⟩:=ex (l[k])
   rw[hq] at ac ar aE
   obtain⟨al,h0⟩:=ex q.name
   obtain⟨am,h1⟩:=ex q.ver
   obtain⟨an,h2⟩:=ex q.deps.length
   obtain⟨ao,h3⟩:=ex q.confl.length
   obtain⟨ap,h4⟩:=ex q.prov.length
   obtain⟨aq,h5⟩:=ex q.wt
   rw[h0,h1,h2,h3,h4,h5] at ac
   obtain⟨y,hy⟩:=ex (cmpP q p)
   have HF:=zh (HC.out q xD xC xG an ah ao ai ap aj al am aq ar h0 h1 y hy)
   have au:Hid (∀ u,Below V.heap.size V u->(u.cell? ⟨bx,0,none⟩=some (.string ⟨ynm.toArray⟩)/\u.cell? ⟨bx,1,none⟩=some (.string ⟨yvr.toArray⟩)/\u.cell? ⟨bx,2,none⟩=some (.slice yD ydn ydc)/\u.cell? ⟨bx,3,none⟩=some (.slice yC ycn ycc)/\u.cell? ⟨bx,4,none⟩=some (.slice yG ygn ygc)/\u.cell? ⟨bx,5,none⟩=some (.float .f64 ywt))/\(u.cell? (ad.add (k*6))=some (.string ⟨al.toArray⟩)/\u.cell? ⟨(ad.add (k*6)).block,(ad.add (k*6)).off+1,none⟩=some (.string ⟨am.toArray⟩)/\u.cell? ⟨(ad.add (k*6)).block,(ad.add (k*6)).off+2,none⟩=some (.slice xD an ah)/\u.cell? ⟨(ad.add (k*6)).block,(ad.add (k*6)).off+3,none⟩=some (.slice xC ao ai)/\u.cell? ⟨(ad.add (k*6)).block,(ad.add (k*6)).off+4,none⟩=some (.slice xG ap aj)/\u.cell? ⟨(ad.add (k*6)).block,(ad.add (k*6)).off+5,none⟩=some (.float .f64 aq))):=fun u h=>⟨HX.out u h,ac u (az.out u h)⟩
   have aF:Hid (y<0->∀ (t:Nat) (h:t<l.length),t+1=k+1->cmpP l[t] p<0):=fun ax t h e=>by rw[aE t h e,hy];exact ax
   have aG:Hid (¬ y<0->∀ h:k<l.length,0<=cmpP l[k] p):=fun ax h=>by rw[hq,hy];omega
   have ae:Hid (Below V.heap.size V wr.drew):=HB.out.drew
   clear ac ar aE hq h0 h1 h2 h3 h4 h5 hy af aI aJ hs hk ax aM aA
   by_cases ay:y<0
   ·have d1:decide (y<0)=true:=decide_eq_true ay
    have HQ:=zh (aF.out ay)
    have d0:decide (i<j)=true:=decide_eq_true aH.out
    clear aF aG ay
    go_wp2_with fail
    go_region_held3 (fun u=>(u.cell? ⟨bx,0,none⟩=some (.string ⟨ynm.toArray⟩)/\u.cell? ⟨bx,1,none⟩=some (.string ⟨yvr.toArray⟩)/\u.cell? ⟨bx,2,none⟩=some (.slice yD ydn ydc)/\u.cell? ⟨bx,3,none⟩=some (.slice yC ycn ycc)/\u.cell? ⟨bx,4,none⟩=some (.slice yG ygn ygc)/\u.cell? ⟨bx,5,none⟩=some (.float .f64 ywt))/\(u.cell? (ad.add (k*6))=some (.string ⟨al.toArray⟩)/\u.cell? ⟨(ad.add (k*6)).block,(ad.add (k*6)).off+1,none⟩=some (.string ⟨am.toArray⟩)/\u.cell? ⟨(ad.add (k*6)).block,(ad.add (k*6)).off+2,none⟩=some (.slice xD an ah)/\u.cell? ⟨(ad.add (k*6)).block,(ad.add (k*6)).off+3,none⟩=some (.slice xC ao ai)/\u.cell? ⟨(ad.add (k*6)).block,(ad.add (k*6)).off+4,none⟩=some (.slice xG ap aj)/\u.cell? ⟨(ad.add (k*6)).block,(ad.add (k*6)).off+5,none⟩=some (.float .f64 aq)))
     (first
      | with_reducible exact au.out _ ae.out
      | with_reducible exact au.out _ ag.out)
     ((go_at_call 56;refine (HF.out _ ae.out).mono ?_;rintro _ u2 ⟨rfl,hb⟩;have ag:=zh (bt ae.out hb);clear hb))
    have HE:=ag
    clear d1
    go_wp2_with fail
    go_roundw
    case rel=>exact⟨k+1,j,(by have:=aB.out;omega),aK.out,rfl,rfl,HQ.out,H2.out,HE.out⟩
    case measure=>have:=aD.out;have:=aB.out;simp[intOf];omega
   ·have d1:decide (y<0)=false:=decide_eq_false ay
    have HQ:=zh (aG.out ay)
    have d0:decide (i<j)=true:=decide_eq_true aH.out
    clear aF aG ay
    go_wp2_with fail
    go_region_held3 (fun u=>(u.cell? ⟨bx,0,none⟩=some (.string ⟨ynm.toArray⟩)/\u.cell? ⟨bx,1,none⟩=some (.string ⟨yvr.toArray⟩)/\u.cell? ⟨bx,2,none⟩=some (.slice yD ydn ydc)/\u.cell? ⟨bx,3,none⟩=some (.slice yC ycn ycc)/\u.cell? ⟨bx,4,none⟩=some (.slice yG ygn ygc)/\u.cell? ⟨bx,5,none⟩=some (.float .f64 ywt))/\(u.cell? (ad.add (k*6))=some (.string ⟨al.toArray⟩)/\u.cell? ⟨(ad.add (k*6)).block,(ad.add (k*6)).off+1,none⟩=some (.string ⟨am.toArray⟩)/\u.cell? ⟨(ad.add (k*6)).block,(ad.add (k*6)).off+2,none⟩=some (.slice xD an ah)/\u.cell? ⟨(ad.add (k*6)).block,(ad.add (k*6)).off+3,none⟩=some (.slice xC ao ai)/\u.cell? ⟨(ad.add (k*6)).block,(ad.add (k*6)).off+4,none⟩=some (.slice xG ap aj)/\u.cell? ⟨(ad.add (k*6)).block,(ad.add (k*6)).off+5,none⟩=some (.float .f64 aq)))
     (first
      | with_reducible exact au.out _ ae.out
      | with_reducible exact au.out _ ag.out)
     ((go_at_call 56;refine (HF.out _ ae.out).mono ?_;rintro _ u2 ⟨rfl,hb⟩;have ag:=zh (bt ae.out hb);clear hb))
    have HE:=ag
    clear d1
    go_wp2_with fail
    go_roundw
    case rel=>exact⟨i,k,aD.out,(by have:=aB.out;have:=aK.out;omega),rfl,rfl,H1.out,HQ.out,HE.out⟩
    case measure=>have:=aD.out;have:=aB.out;simp[intOf];omega
  ·obtain rfl:i=j:=by omega
   have aC:Hid (Rp.Place p l i):=acN HN.out H1.out H2.out aA
   clear H1 H2 ax aM
   by_cases av:i<n
   ·have aR:=zh av
    have af:i<l.length:=by rw[HN.out];exact av
    have aO:(i:Int)<(n:Int):=by omega
    have aP:(0:Int)<=(i:Int):=by omega
    have w4:IntKind.i64.wrap (i:Int)=(i:Int):=by rw[IntKind.wrap_i64];omega
    obtain⟨ad,xD,ah,xC,ai,xG,aj,rfl,-,-,-,ac⟩:=bn HR.out i af
    have ar:=HO.out _ (List.getElem_mem af)
    obtain⟨q,hq⟩:=ex (l[i])
    rw[hq] at ac ar
    obtain⟨al,h0⟩:=ex q.name
    obtain⟨am,h1⟩:=ex q.ver
    obtain⟨an,h2⟩:=ex q.deps.length
    obtain⟨ao,h3⟩:=ex q.confl.length
    obtain⟨ap,h4⟩:=ex q.prov.length
    obtain⟨aq,h5⟩:=ex q.wt
    rw[h0,h1,h2,h3,h4,h5] at ac
    obtain⟨y,hy⟩:=ex (cmpP q p)
    have HF:=zh (HC.out q xD xC xG an ah ao ai ap aj al am aq ar h0 h1 y hy)
    have au:Hid (∀ u,Below V.heap.size V u->(u.cell? ⟨bx,0,none⟩=some (.string ⟨ynm.toArray⟩)/\u.cell? ⟨bx,1,none⟩=some (.string ⟨yvr.toArray⟩)/\u.cell? ⟨bx,2,none⟩=some (.slice yD ydn ydc)/\u.cell? ⟨bx,3,none⟩=some (.slice yC ycn ycc)/\u.cell? ⟨bx,4,none⟩=some (.slice yG ygn ygc)/\u.cell? ⟨bx,5,none⟩=some (.float .f64 ywt))/\(u.cell? (ad.add (i*6))=some (.string ⟨al.toArray⟩)/\u.cell? ⟨(ad.add (i*6)).block,(ad.add (i*6)).off+1,none⟩=some (.string ⟨am.toArray⟩)/\u.cell? ⟨(ad.add (i*6)).block,(ad.add (i*6)).off+2,none⟩=some (.slice xD an ah)/\u.cell? ⟨(ad.add (i*6)).block,(ad.add (i*6)).off+3,none⟩=some (.slice xC ao ai)/\u.cell? ⟨(ad.add (i*6)).block,(ad.add (i*6)).off+4,none⟩=some (.slice xG ap aj)/\u.cell? ⟨(ad.add (i*6)).block,(ad.add (i*6)).off+5,none⟩=some (.float .f64 aq))):=fun u h=>⟨HX.out u h,ac u (az.out u h)⟩
    obtain⟨z,hz⟩:=ex (y==0)
    have aw:Hid (∀ u,Below V.heap.size V u->SeaRet w p l (.returned (.tuple #[.int .i64 i,.bool z])) u):=fun u h=>⟨i,z,rfl,aC.out,by
     rw[<-hz,beq_iff_eq]
     exact⟨fun e=>⟨af,by rw[hq,hy];exact e⟩,fun⟨_,e⟩=>by rw[hq,hy] at e;exact e⟩,az.out u h⟩
    have ae:Hid (Below V.heap.size V wr.drew):=HB.out.drew
    have d0:decide (i<n)=true:=decide_eq_true av
    have d2:decide (i<i)=false:=decide_eq_false (Nat.lt_irrefl _)
    clear ac ar hq h0 h1 h2 h3 h4 h5 hy af av aA aC
    go_wp2_with fail
    go_region_held3 (fun u=>(u.cell? ⟨bx,0,none⟩=some (.string ⟨ynm.toArray⟩)/\u.cell? ⟨bx,1,none⟩=some (.string ⟨yvr.toArray⟩)/\u.cell? ⟨bx,2,none⟩=some (.slice yD ydn ydc)/\u.cell? ⟨bx,3,none⟩=some (.slice yC ycn ycc)/\u.cell? ⟨bx,4,none⟩=some (.slice yG ygn ygc)/\u.cell? ⟨bx,5,none⟩=some (.float .f64 ywt))/\(u.cell? (ad.add (i*6))=some (.string ⟨al.toArray⟩)/\u.cell? ⟨(ad.add (i*6)).block,(ad.add (i*6)).off+1,none⟩=some (.string ⟨am.toArray⟩)/\u.cell? ⟨(ad.add (i*6)).block,(ad.add (i*6)).off+2,none⟩=some (.slice xD an ah)/\u.cell? ⟨(ad.add (i*6)).block,(ad.add (i*6)).off+3,none⟩=some (.slice xC ao ai)/\u.cell? ⟨(ad.add (i*6)).block,(ad.add (i*6)).off+4,none⟩=some (.slice xG ap aj)/\u.cell? ⟨(ad.add (i*6)).block,(ad.add (i*6)).off+5,none⟩=some (.float .f64 aq)))
     (first
      | with_reducible exact au.out _ ae.out
      | with_reducible exact au.out _ ag.out)
     ((go_at_call 56;refine (HF.out _ ae.out).mono ?_;rintro _ u2 ⟨rfl,hb⟩;have ag:=zh (bt ae.out hb);clear hb))
    go_wp2_with fail
    go_ret2
    exact aw.out _ ag.out
   ·have aw:Hid (∀ u,Below V.heap.size V u->SeaRet w p l (.returned (.tuple #[.int .i64 i,.bool false])) u):=fun u h=>⟨i,false,rfl,aC.out,⟨fun e=>(by cases e),fun⟨h,_⟩=>absurd (by rw[HN.out] at h;exact h) av⟩,az.out u h⟩
    have d0:decide (i<n)=false:=decide_eq_false av
    have d2:decide (i<i)=false:=decide_eq_false (Nat.lt_irrefl _)
    clear av aA aC
    go_wp2_with fail
    go_quiet (fail)
    go_wp2_with fail
    go_ret2
    exact aw.out _ (Sz.yR HB.out _)
def Rp.PkgOfRet (w:World) (X:Int × Int × Pk) (s:List Sz.Fld) (e:Ending) (w':World):Prop:=Below w.heap.size w w'/\(if X.1=0 then ∃ D dc C cc G gc B,e=.returned (.agg (pCells X.2.2 D C G dc cc gc))/\w.heap.size<=B/\PRows B w' X.2.2 D C G else e=panAt (lineAt s X.2.1) X.1)
theorem Rp.zb {u:World}{b:Nat}(h:u.heap[b]?=some (.cells zeroC 39 (0,0)))(p:Pk)(D C G:Option Addr)(dc cc gc:Nat){tmps:Array Value}(ht:tmps.getD 2 undef=.pointer (some ⟨b,0,none⟩)) :
  (results Tryz.f54 tmps).run Tryz.prog (stP u b p D C G dc cc gc)=.ok (.agg (pCells p D C G dc cc gc)) (stP u b p D C G dc cc gc):=by
 obtain⟨g0,g1,g2,g3,g4,g5⟩:=b9 (kT h p D C G dc cc gc)
 have hr:Tryz.f54.results=#[.cell 2 39]:=Tryz.results54
 simp only[results,hr]
 generalize stP u b p D C G dc cc gc=V at *
 simp only[Array.getD_eq_getD_getElem?] at ht ⊢
 simp[go_sem,ht,g0,g1,g2,g3,g4,g5]
theorem pB (A:Option Addr)(n c:Nat)(l:List Sz.Fld)(w:World)(hk:KOk w)(hn:l.length=n)(hr:Rg.Row Sz.encF 3 w A l)(hl:n<=1000)(hs:Sz.Short l)(hv:∀ f∈l,ValFit f.key f.val)(h0:l≠[]) :
  Calls Tryz.prog 54 #[.slice A n c] w (PkgOfRet w (fromP l) l):=by
 obtain⟨X,hX⟩:=ex (fromP l)
 rw[hX]
 obtain⟨k,i,p⟩:=X
 obtain⟨l1,l2,_⟩:=acB hX h0
 obtain⟨j,rfl⟩:∃ j:Nat,i=j:=⟨i.toNat,by omega⟩
 have ao:j<l.length:=by omega
 have av:lineAt l (j:Int)=l[j].line:=by unfold lineAt;rw[Int.toNat_natCast,List.getElem?_eq_getElem ao]
 obtain⟨W0,af⟩:=ex (w.alloc (.cells zeroC 39))
 have aj:Hid (Below w.heap.size w W0):=ab af
 have HZ:Hid (∀ u,Below W0.heap.size W0 u->u.heap[w.heap.size]?=some (.cells zeroC 39 (0,0))):=fun u h=>(h.block _ (by rw[<-af];simp)).trans (by rw[<-af];exact heap_alloc_new w _)
 have aE:Hid (W0.heap.size=w.heap.size+1):=by show _=_;rw[<-af];simp
 have HC:=zh (tS A n c l W0 (az hk aj.out) hn (Rg.ah hr aj.out) hl hs hv)
 rw[hX] at HC
 obtain⟨L,hL⟩:=ex (l[j].line)
 have HL:Hid (lineAt l (j:Int)=L):=by show _=_;rw[av,hL]
 have aF:=zh hr
 have HN:=zh hn
 obtain⟨ad,hA,-,-,-,am⟩:=Sz.c8 hr j ao
 rw[hL] at am
 have aG:Hid (∀ u,Below w.heap.size w u->u.cell? ⟨(ad.add (j*3)).block,(ad.add (j*3)).off+2,none⟩=some (.int .i64 L)):=fun u h=>(h.cell (p:=⟨(ad.add (j*3)).block,(ad.add (j*3)).off+2,none⟩) (da am)).trans am
 have aJ:(0:Int)<=(j:Int):=by omega
 have aK:(j:Int)<(n:Int):=by omega
 subst hA
 clear hk hn hr hl hs hv h0 hX l1 l2 ao av hL am
 go_enter Tryz.func54,Tryz.ntmps54
 go_wp2_with fail
 clear af
 refine HC.out.mono ?_
 rintro e z1 ⟨hb,D,dc,C,cc,G,gc,rfl,aa⟩
 have HB:=zh hb
 have HR:=zh aa
 dsimp only
 clear hb aa HC
 obtain⟨nm,vr,ag,ac,ai,wt⟩:=p
 obtain⟨dn,aB⟩:=ex ag.length
 obtain⟨cn,aC⟩:=ex ac.length
 obtain⟨gn,aD⟩:=ex ai.length
 obtain⟨b2,aI⟩:=ex z1.heap.size
 obtain⟨V,hV⟩:=ex (z1.alloc (.cells #[.string ⟨nm.toArray⟩,.string ⟨vr.toArray⟩,.slice D dn dc,.slice C cn cc,.slice G gn gc,.float .f64 wt] 39))
 have HV:Hid (Below z1.heap.size z1 V):=ab hV
 have aw:Hid (Below W0.heap.size W0 V):=bt HB.out HV.out
 have ap:Hid (Below w.heap.size w V):=bt aj.out aw.out
 obtain⟨y0,y1,y2,y3,y4,y5⟩:=ak hV (Below.refl _ _)
 have aL:=aG.out V ap.out
 rw[aI] at y0 y1 y2 y3 y4 y5
 have aH:=zh (kq HR.out HV.out)
 simp only[pCells,aB,aC,aD]
 by_cases al:k=0
 case neg =>
  have d0:(k==0)=false:=by simpa using al
  have HK:=zh al
  clear al
  go_wp2_with fail
  clear hV
  refine (an _).mono ?_
  rintro _ z ⟨rfl,rfl⟩
  go_wp2_with fail
  refine⟨rfl,ap.out,?_⟩
  rw[if_neg HK.out,HL.out]
 subst al
 have hz:=HZ.out V aw.out
 obtain⟨k0,k1,k2,k3,k4,k5⟩:=b9 hz
 have z0:=aS hz 0
 have aM:=aS hz 1
 have z2:=aS hz 2
 have z3:=aS hz 3
 have z4:=aS hz 4
 have z5:=aS hz 5
 have ay:=zh hz
 clear hz
 go_wp2_with fail
 clear hV
 refine (ax _).mono ?_
 rintro _ z ⟨rfl,rfl⟩
 go_wp2_with fail
 (try simp only[Exit.inBlock,Exit.then])
 subst aB aC aD
 obtain⟨P,hP⟩:∃ P:Pk,(⟨nm,vr,ag,ac,ai,wt⟩:Pk)=P:=⟨_,rfl⟩
 have aq:=gQ V w.heap.size P D C G dc cc gc
 have ar:=jE ap.out (Nat.le_refl _) P D C G dc cc gc
 have au:=fun tmps h=>zb (tmps:=tmps) ay.out P D C G dc cc gc h
 have aA:=bj aH.out aq (by rw[aE.out];omega) (iF ay.out)
 rw[hP] at aA ⊢
 have ae:PkgOfRet w (0,(j:Int),P) l (.returned (.agg (pCells P D C G dc cc gc))) (stP V w.heap.size P D C G dc cc gc):=by
  refine⟨ar,?_⟩
  rw[if_pos rfl]
  exact⟨D,dc,C,cc,G,gc,W0.heap.size,rfl,aj.out.size,aA⟩
 subst hP
 exact bodyPost_ret (au _ rfl) rfl ae
end
end Go.Proofs.YtkoaljpfoekgkaaGreatDoor

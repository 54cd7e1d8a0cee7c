/- Part 27 of what the laws lean on. -/
import Derived.Test.YtgnaiidgjmicaaaGreatDoorM26
set_option maxRecDepth 100000
set_option maxHeartbeats 6400000
namespace Go.Proofs.YtgnaiidgjmicaaaGreatDoor
section
open Go.RowKit Rs At Pg Rp
attribute [local go_sem ↓] Go.wp_at_zero Go.wp_at_succ
theorem Rp.sliceP:Rg.SliceT Tryz.prog encP 6 34 68:=⟨fitsP,by decide,by kernel_rfl,Rg.b8 (z:=.agg #[.string ByteArray.empty,.string ByteArray.empty,.slice none 0 0,.slice none 0 0,.slice none 0 0,.float .f64 0]) (b:=112) (by kernel_rfl) (by rfl) (by decide)⟩
theorem Rp.iG:∀ i,Tryz.prog.info? 68=some i->∀ z,i.zero=some z->∀ u∈z.cells,NoB u:=lP (z0:=.agg #[.string ByteArray.empty,.string ByteArray.empty,.slice none 0 0,.slice none 0 0,.slice none 0 0,.float .f64 0]) (by kernel_rfl) (fun u hu b e=>by subst e;simp[Value.cells] at hu)
theorem Rp.gU:∀ d:PD,∀ u∈encP d,NoB u:=fun d u hu b e=>by subst e;simp[encP] at hu
theorem Rp.underR:Tryz.prog.underlying 34=some (.slice 68):=by kernel_rfl
theorem Rp.underS:Tryz.prog.underlying 33=some (.slice 68):=by kernel_rfl
theorem Rp.sizeP:(Tryz.prog.info? 68).map (·.size)=some 6:=by kernel_rfl
theorem Rp.abF (V:Option Addr)(k vc m:Nat)(h:m<=vc)(_hv:vc<=maxLen):∀ W:World,(Instr.sliceAt 34 (.slice V k vc) none (some (.int .i64 m)) none).run Tryz.prog W=.ok (.slice V m vc) W:=by
 intro W
 have i0:(0:Int)<=(m:Int):=by omega
 have i2:(m:Int)<=(vc:Int):=by omega
 go_simp
theorem Rp.jo (g k vc m:Nat)(h:m<=k)(h2:k<=vc)(_hv:vc<=maxLen)(hne:¬ vc=m):∀ W:World,(Instr.sliceAt 34 (.slice (some ⟨g,0,none⟩) k vc) (some (.int .i64 m)) none none).run Tryz.prog W=.ok (.slice (some ⟨g,m*6,none⟩) (k-m) (vc-m)) W:=by
 intro W
 have i0:(0:Int)<=(m:Int):=by omega
 have i1:(m:Int)<=(k:Int):=by omega
 have i2:(m:Int)<=(vc:Int):=by omega
 have e:(⟨g,0,none⟩:Addr).add (m*6)=⟨g,m*6,none⟩:=by unfold Addr.add;split <;> simp_all
 go_simp
theorem Rp.afV (V:Option Addr)(k vc m:Nat)(h:m<=k)(h2:k<=vc)(_hv:vc<=maxLen):∃ Y,((if vc=m then V else V.map (fun x=>x.add (m*6)))=Y)/\∀ W:World,(Instr.sliceAt 34 (.slice V k vc) (some (.int .i64 m)) none none).run Tryz.prog W=.ok (.slice Y (k-m) (vc-m)) W:=by
 refine⟨_,rfl,fun W=>?_⟩
 have i0:(0:Int)<=(m:Int):=by omega
 have i1:(m:Int)<=(k:Int):=by omega
 have i2:(m:Int)<=(vc:Int):=by omega
 go_simp
theorem zG (A:Option Addr)(n c b1 B:Nat)(ds:List PD)(d:PD)(w:World)(ho:Rg.Own encP 6 w B 68 (.slice A n c) ds)(hn:ds.length=n)(hp:Pure NoB w (.slice A n c))(hx:∀ j u,(encP d)[j]?=some u->w.cell? ⟨b1,j,none⟩=some u)(hl:n<=100000)(hB:B<=w.heap.size)(hc:n<=c)(hcm:c<=maxLen) :
  Calls Tryz.prog 108 #[.slice A n c,.int .i64 n,.slice (some ⟨b1,0,none⟩) 1 1] w (InsRet w B 68 (.slice A n c) (ds.take n++d :: ds.drop n)):=by
 obtain⟨Y,-,rY⟩:=afV A n c n (Nat.le_refl _) hc hcm
 have he:ds.take n++d :: ds.drop n=ds++[d]:=by rw[<-hn,List.take_length,List.drop_length]
 rw[he]
 have HO:=zh ho
 have HP:=zh hp
 have HX:Hid (∀ j u,(Rg.flat encP [d])[j]?=some u->w.cell? ((⟨b1,0,none⟩:Addr).add j)=some u):=fun j u h=>by
  rw[Rg.sO] at h
  have e:(⟨b1,0,none⟩:Addr).add j=⟨b1,j,none⟩:=by unfold Addr.add;split <;> simp_all
  rw[e];exact hx j u h
 have HL:Hid (ds.length+1<=1000000):=by show _<=_;omega
 have HB:=zh hB
 clear ho hp hx hl hc hcm hn he hB
 have dn:((n:Int)==(n:Int))=true:=by simp
 go_enter Tryz.func108,Tryz.ntmps108
 go_wp2_with (at_builtin;refine jn sliceP underS iG gU rfl (.tmp 23) (.tmp 24) rfl B _ ds [d] rfl HO.out HP.out _ _ _ rfl rfl HX.out (Nat.zero_lt_succ _) HL.out HB.out ?_)
 intro v' w' h1 h2 h3 h4 h5
 obtain⟨A',n',c',rfl⟩:=h5
 have HR:Hid (InsRet w B 68 (.slice A n c) (ds++[d]) (.returned (.slice A' n' c')) w'):=⟨_,rfl,h1,h2,h4,h3⟩
 clear h1 h2 h3 h4
 go_wp2_with fail
 go_ret
 exact HR.out
theorem Rp.yt {w u:World}{n c B i:Nat}{ds:List PD}{d:PD}{v:Value}{cur2:List Value}{H:Nat}(hu:u.heap[H]?=some (.cells cur2.toArray 68 (0,0)))(hB:B<=H)(hn:ds.length=n)(hi:i<=n)(hc:n+1<=c)(hcm:c<=maxLen)(hl:cur2.length=c*6)
  (ht:cur2.take (i*6+6+(n-i)*6)=Rg.flat encP (ds.take i)++encP d++Rg.flat encP (ds.drop i)) (hnb:∀ x∈cur2,NoB x) (hv:v.ownBlock=some H\/w.heap.size<=H) (hg:w.grownBy u v.ownBlock):InsRet w B 68 v (ds.take i++d :: ds.drop i) (.returned (.slice (some ⟨H,0,none⟩) (n+1) c)) u:=by
 have hlen:(ds.take i++d :: ds.drop i).length=n+1:=by simp only[List.length_append,List.length_take,List.length_cons,List.length_drop,hn];omega
 have ab:Rg.flat encP (ds.take i++d :: ds.drop i)=Rg.flat encP (ds.take i)++encP d++Rg.flat encP (ds.drop i):=by
  rw[Rg.cG,show d :: ds.drop i=[d]++ds.drop i from rfl,Rg.cG,Rg.sO,List.append_assoc]
 refine⟨_,rfl,⟨Rg.bH fitsP _,Or.inr ⟨H,c,cur2.toArray,by rw[hlen],hB,hu,by rw[hlen];exact hc,hcm,by simpa using hl,?_⟩⟩,?_,?_,hg⟩
 ·rw[hlen,ab,<-ht,List.toList_toArray]
  congr 1
  omega
 ·intro g2 ac j u2 aa
  cases ac
  rw[cell_of_row u H j _ _ (0,0) hu] at aa
  exact hnb u2 (by simpa using Array.mem_of_getElem? aa)
 ·rcases hv with hv | hv
  ·exact Or.inl hv.symm
  ·exact Or.inr ⟨H,rfl,hv⟩
theorem Rp.rq {w:World}{g n c B i:Nat}{ds:List PD}(ho:Rg.Own encP 6 w B 68 (.slice (some ⟨g,0,none⟩) n c) ds)(hn:ds.length=n)(hi:i<=n):∃ cur:List Value,w.heap[g]?=some (.cells cur.toArray 68 (0,0))/\B<=g/\n<=c/\c<=maxLen/\cur.length=c*6/\cur.take (i*6)=Rg.flat encP (ds.take i)/\(Rg.flat encP (ds.take i)).length=i*6/\(Rg.flat encP (ds.drop i)).length=(n-i)*6/\(∀ j u,(Rg.flat encP (ds.drop i))[j]?=some u->w.cell? ((⟨g,i*6,none⟩:Addr).add j)=some u)/\(∀ j u,(Rg.flat encP (ds.take i))[j]?=some u->w.cell? ((⟨g,0,none⟩:Addr).add j)=some u):=by
 obtain⟨hlen,hv⟩:=ho
 rcases hv with⟨e,_⟩ | ⟨g',cap,cur,e,hBg,hg,hnc,hcm,hcs,htk⟩
 ·cases e
 obtain⟨rfl,rfl⟩:g=g'/\c=cap:=by injection e with e1 _ e3;injection e1 with e1;injection e1 with e1;exact⟨e1,e3⟩
 clear e
 have hX:(Rg.flat encP (ds.take i)).length=i*6:=by rw[Rg.bH fitsP,List.length_take];congr 1;omega
 have hY:(Rg.flat encP (ds.drop i)).length=(n-i)*6:=by rw[Rg.bH fitsP,List.length_drop,hn]
 have ab:Rg.flat encP (ds.take i)++Rg.flat encP (ds.drop i)=Rg.flat encP ds:=by rw[<-Rg.cG,List.take_append_drop]
 rw[hn] at htk hnc
 have aa:∀ k u,(Rg.flat encP ds)[k]?=some u->w.cell? ⟨g,k,none⟩=some u:=fun k u h2=>by
  rw[cell_of_row w g _ cur _ (0,0) hg]
  rw[<-htk,List.getElem?_take] at h2
  split at h2
  ·simpa using h2
  ·cases h2
 refine⟨cur.toList,by simpa using hg,hBg,hnc,hcm,by rw[Array.length_toList,hcs],?_,hX,hY,fun j u h=>?_,fun j u h=>?_⟩
 ·have h1:(cur.toList.take (n*6)).take (i*6)=cur.toList.take (i*6):=by rw[List.take_take,Nat.min_eq_left (Nat.mul_le_mul_right _ hi)]
  rw[<-h1,htk,<-ab,List.take_append_of_le_length (by omega)]
  exact List.take_of_length_le (by omega)
 ·have e:(⟨g,i*6,none⟩:Addr).add j=⟨g,i*6+j,none⟩:=by unfold Addr.add;split <;> simp_all
  rw[e]
  exact aa _ u (by rw[<-ab,List.getElem?_append_right (by omega),hX,Nat.add_sub_cancel_left];exact h)
 ·have e:(⟨g,0,none⟩:Addr).add j=⟨g,j,none⟩:=by unfold Addr.add;split <;> simp_all
  rw[e]
  exact aa _ u (by rw[<-ab,List.getElem?_append_left (List.getElem?_eq_some_iff.1 h).1];exact h)
theorem Rp.m8 (l:List PD):∀ x∈Rg.flat encP l,NoB x:=fun x hx=>by
 obtain⟨y,_,hy⟩:=List.mem_flatMap.1 hx
 exact gU y x hy
theorem Rp.iH {a b c:List Value}(ha:∀ x∈a,NoB x)(hb:∀ x∈b,NoB x)(hc:∀ x∈c,NoB x)(k m:Nat):∀ x∈a.take k++b++c.drop m,NoB x:=fun x hx=>by
 rw[List.mem_append,List.mem_append] at hx
 rcases hx with (h | h) | h
 ·exact ha x (List.mem_of_mem_take h)
 ·exact hb x h
 ·exact hc x (List.mem_of_mem_drop h)
theorem Rp.oP {w:World}{g:Nat}(cs:Array Value):w.grownBy (w.setRow g cs) (some g):=⟨rfl,rfl,rfl,by simp,fun k _ hk=>setRow_other w g k cs (fun e=>hk (by rw[e]))⟩
theorem Rp.zH {w u:World}{r:Option Nat}(h:w.drew.grownBy u r):w.grownBy u r:=⟨h.os,h.tape,h.output,h.size,h.block⟩
theorem Rp.abG {w u x:World}{r:Option Nat}(h:w.grownBy u r)(k:u.grownBy x r):w.grownBy x r:=⟨k.os.trans h.os,k.tape.trans h.tape,k.output.trans h.output,Nat.le_trans h.size k.size,fun i hi hr=>(k.block i (Nat.lt_of_lt_of_le hi h.size) hr).trans (h.block i hi hr)⟩
theorem va (g n c b1 i B:Nat)(ds:List PD)(d:PD)(w:World)(ho:Rg.Own encP 6 w B 68 (.slice (some ⟨g,0,none⟩) n c) ds)(hn:ds.length=n)(hi:i<n)(hroom:n+1<=c)(hp:Pure NoB w (.slice (some ⟨g,0,none⟩) n c))(TX:TypeId)(hx:w.heap[b1]?=some (.cells (encP d).toArray TX (0,0)))(hne:b1≠g)(hl:n<=100000) :
  Calls Tryz.prog 108 #[.slice (some ⟨g,0,none⟩) n c,.int .i64 i,.slice (some ⟨b1,0,none⟩) 1 1] w (InsRet w B 68 (.slice (some ⟨g,0,none⟩) n c) (ds.take i++d :: ds.drop i)):=by
 obtain⟨cur,hg,aG,aU,aj,ak,aH,hX,hY,aB,_⟩:=rq ho hn (Nat.le_of_lt hi)
 have al:(encP d).length=6:=rfl
 have aA:∀ v∈Rg.flat encP (ds.drop i),v.oneCell'=true:=Rg.bF fitsP _
 have aJ:∀ v∈encP d,v.oneCell'=true:=fitsP.2 d
 have ad:=m8 (ds.drop i)
 have ae:∀ x∈cur,NoB x:=fun x hx2=>by
  obtain⟨k,hk⟩:=List.mem_iff_getElem?.1 hx2
  exact hp g rfl k x (by rw[cell_of_row w g k _ _ (0,0) hg];simpa using hk)
 obtain⟨i1,aV⟩:=ex (i+1)
 obtain⟨n1,aI⟩:=ex (n+1)
 have av:i*6+(encP d).length=i1*6:=by rw[al];omega
 obtain⟨Y,ax⟩:=ex (Rg.flat encP (ds.drop i))
 obtain⟨X,aq⟩:=ex (Rg.flat encP (ds.take i))
 obtain⟨m1,m2⟩:=abE X (encP d) Y cur (by rw[<-aq,hX,aH]) (by rw[<-aq,<-ax,hX,hY,al,ak];omega)
 rw[ax] at hY aB aA ad
 rw[aq] at hX
 rw[hX,av] at m1 m2
 obtain⟨aa,ar⟩:=ex (cur.take (i1*6)++Y++cur.drop (i1*6+Y.length))
 rw[ar] at m1 m2
 obtain⟨ac,ay⟩:=ex (aa.take (i*6)++encP d++aa.drop (i1*6))
 rw[ay] at m1 m2
 have aC:aa.length=c*6:=by
  rw[<-ar];simp only[List.length_append,List.length_take,List.length_drop,ak,hY];omega
 have af:∀ x∈aa,NoB x:=by rw[<-ar];exact iH ae ad ae _ _
 have am:∀ x∈ac,NoB x:=by rw[<-ay];exact iH af (gU d) af _ _
 have an:Hid (∀ u:World,w.grownBy u (some g)->u.heap[g]?=some (.cells ac.toArray 68 (0,0))->InsRet w B 68 (.slice (some ⟨g,0,none⟩) n c) (ds.take i++d :: ds.drop i) (.returned (.slice (some ⟨g,0,none⟩) n1 c)) u):=fun u hgr hu=>by
  rw[<-aI]
  refine yt hu aG hn (Nat.le_of_lt hi) hroom aj (m2.trans ak) ?_ am (Or.inl rfl) hgr
  rw[aq,ax,<-m1,hY,<-av,al]
 have aK:∀ lb cb,(callFunc 144 #[.slice (some ⟨b1,0,none⟩) 1 1,.slice (some ⟨g,i1*6,none⟩) lb cb]).run Tryz.prog w=.ok (.value (.bool false)) w:=fun lb cb=>by
  have aL:w.shape? b1=some (TX,6):=by simp[World.shape?,hx,encP]
  have aM:w.shape? g=some (68,c*6):=by simp[World.shape?,hg,ak]
  rw[run_callFunc_extern Tryz.func144 (by kernel_rfl) (by kernel_rfl) (by kernel_rfl) (e:=Extern.SlicesOverlaps.overlaps #[33,33] #[4]) (by kernel_rfl),
   Lib.run_overlaps_apart w 33 4 68 underS 6 (fun w=>by kernel_rfl) ⟨b1,0,none⟩ ⟨g,i1*6,none⟩ 1 1 lb cb hne TX 68 6 (c*6) aL aM (by omega) (by simp[World.frozen?,hx]) (by simp[World.frozen?,hx])]
  rfl
 have aD:∀ j v,(encP d)[j]?=some v->w.cell? ((⟨b1,0,none⟩:Addr).add j)=some v:=fun j v h=>by
  have e:(⟨b1,0,none⟩:Addr).add j=⟨b1,j,none⟩:=by unfold Addr.add;split <;> simp_all
  rw[e,cell_of_row w b1 j _ _ (0,0) hx]
  simpa using h
 obtain⟨W1,az⟩:=ex (w.drew.setRow g aa.toArray)
 have aw:W1.heap[g]?=some (.cells aa.toArray 68 (0,0)):=by rw[<-az];exact setRow_heap w.drew g _ _ _ _ hg
 have ag:Hid (w.grownBy W1 (some g)):=by show World.grownBy _ _ _;rw[<-az];exact zH (oP _)
 have ah:∀ j v,(encP d)[j]?=some v->W1.cell? ((⟨b1,0,none⟩:Addr).add j)=some v:=fun j v h=>by
  have:=aD j v h
  rwa [<-World.cell?_of_block (w:=w) (w':=W1) (by rw[Rs.add_block];exact ag.out.block b1 (Array.getElem?_eq_some_iff.1 hx).1 (fun e=>hne (Option.some.inj e)))] at this
 obtain⟨W2,au⟩:=ex (W1.setRow g ac.toArray)
 have HR:Hid (InsRet w B 68 (.slice (some ⟨g,0,none⟩) n c) (ds.take i++d :: ds.drop i) (.returned (.slice (some ⟨g,0,none⟩) n1 c)) W2):=by
  refine an.out W2 ?_ ?_
  ·rw[<-au];exact abG ag.out (oP _)
  ·rw[<-au];exact setRow_heap W1 g _ _ _ _ aw
 have aW:IntKind.i64.wrap ((i:Int)+1)=(i1:Int):=by rw[IntKind.wrap_i64];omega
 have aX:IntKind.i64.wrap ((n:Int)+1)=(n1:Int):=by rw[IntKind.wrap_i64];omega
 have r0:=jo g n c i (Nat.le_of_lt hi) (by omega) aj (by omega)
 have r1:=abF (some ⟨g,0,none⟩) n c n1 (by omega) aj
 have r2:=jo g n1 c i1 (by omega) (by omega) aj (by omega)
 have r3:=jo g n1 c i (by omega) (by omega) aj (by omega)
 have d1:((i:Int)==(n:Int))=false:=by simp;omega
 have d2:decide (c<n1)=false:=decide_eq_false (by omega)
 have aE:min (n1-i) (n1-i1)=n-i:=by omega
 have ai:min 1 (n1-i)=1:=by omega
 have ao:i1*6+Y.length<=cur.length:=by rw[hY,ak];omega
 have ab:i*6+(encP d).length<=aa.length:=by rw[aC,al];omega
 have aN:Hid (cur.take (i1*6)++Y++cur.drop (i1*6+Y.length)=aa):=ar
 have aO:Hid (aa.take (i*6)++encP d++aa.drop (i*6+(encP d).length)=ac):=by show _=_;rw[av];exact ay
 have aY:(Builtin.copy_ #[34,33] 3 #[.slice (some ⟨g,i*6,none⟩) (n1-i) (c-i),.slice (some ⟨b1,0,none⟩) 1 1]).run Tryz.prog W1=.ok (.int .i64 1) W2:=by
  have h:=fL (P:=Tryz.prog) W1 34 33 3 68 g (i*6) (n1-i) (c-i) ⟨b1,0,none⟩ 1 1 aa.toArray _ (encP d) 6 1 underR sizeP aw ai al ah (by simpa using ab) aJ
  rw[List.toList_toArray,aO.out,au] at h
  exact h
 have aP:=zh az
 have aZ:=zh au
 have aF:w.drew.heap[g]?=some (.cells cur.toArray 68 (0,0)):=hg
 have HG:=zh aF
 have a0:=zh aw
 have HY:=zh hY
 have ap:∀ j u,Y[j]?=some u->w.drew.cell? ((⟨g,i*6,none⟩:Addr).add j)=some u:=aB
 have aQ:=zh ap
 have aR:=zh aA
 have a1:=zh ah
 have aS:=zh aE
 have aT:=zh ai
 have HF:=zh ao
 have a2:=zh ab
 clear aF ap aE ai ao ab az au hg aw hY aB aA aD ah ar ay m1 m2 hX aH av ak aC af am ae ad ho hn hp hx hne hroom hi aV aI ax aq aU aj aG an ag hl
 go_enter Tryz.func108,Tryz.ntmps108
 go_wp2_with (simp only[aK])
 go_region_law (refine oO (by rfl) (.tmp 73) (.tmp 76) 34 34 (by rfl) 68 6 (n-i) underR sizeP g (i1*6) (n1-i1) (c-i1) ⟨g,i*6,none⟩ (n1-i) (c-i) (by simp[Act.eval,Act.put]) (by simp[Act.eval,Act.put]) cur _ HG.out Y aS.out HY.out aQ.out HF.out aR.out ?_;rw[aN.out,aP.out])
 go_wp2_with fail
 go_ret
 exact HR.out
theorem wU (g n c b1 i B:Nat)(ds:List PD)(d:PD)(w:World)(ho:Rg.Own encP 6 w B 68 (.slice (some ⟨g,0,none⟩) n c) ds)(hn:ds.length=n)(hi:i<n)(hroom:c<n+1)(TX:TypeId)(hx:w.heap[b1]?=some (.cells (encP d).toArray TX (0,0)))(hl:n<=100000) :
  Calls Tryz.prog 108 #[.slice (some ⟨g,0,none⟩) n c,.int .i64 i,.slice (some ⟨b1,0,none⟩) 1 1] w (InsRet w B 68 (.slice (some ⟨g,0,none⟩) n c) (ds.take i++d :: ds.drop i)):=by
 obtain⟨cur,hg,bd,be,aO,bf,bg,hX,hY,aP,aY⟩:=rq ho hn (Nat.le_of_lt hi)
 have aS:g<w.heap.size:=(Array.getElem?_eq_some_iff.1 hg).1
 have aT:b1<w.heap.size:=(Array.getElem?_eq_some_iff.1 hx).1
 have aj:(encP d).length=6:=rfl
 have aF:∀ v∈Rg.flat encP (ds.drop i),v.oneCell'=true:=Rg.bF fitsP _
 have a2:∀ v∈encP d,v.oneCell'=true:=fitsP.2 d
 have ae:=m8 (ds.drop i)
 have af:=m8 (ds.take i)
 obtain⟨H,hH⟩:=ex w.heap.size
 obtain⟨i1,bh⟩:=ex (i+1)
 obtain⟨n1,aZ⟩:=ex (n+1)
 obtain⟨k,hk⟩:∃ k,i+k=n1:=⟨n1-i,by omega⟩
 have ay:i*6+(encP d).length=i1*6:=by rw[aj];omega
 obtain⟨i0,z,aB,aC,a0,a1,hb⟩:=Rp.sliceP.info
 have hold:(Builtin.firstCells i0.size i (.slice (some ⟨g,0,none⟩) i c)).run Tryz.prog w.drew=.ok (Rg.flat encP (ds.take i)).toArray w.drew:=by
  rw[a1]
  exact run_firstCells_some w.drew 6 i ⟨g,0,none⟩ i c _ hX aY
 have ak:∀ ty,(Builtin.append_ #[34,3] ty #[.slice (some ⟨g,0,none⟩) i c,.int .i64 k]).run Tryz.prog w=_:=fun ty =>
  Lib.run_append_grow_zeros w 34 3 ty 68 i0 z .i64 .i64 underR (by kernel_rfl) aB aC (some ⟨g,0,none⟩) i c _ hold k (by omega) (by omega) (by omega) (by omega) (by
   have:k*i0.bytes<=200000*1000:=Nat.mul_le_mul (by omega) hb
   omega) (growslice_fits (by omega) (by
   have:(i+k)*i0.bytes<=200000*1000:=Nat.mul_le_mul (by omega) hb
   omega))
 rw[hk] at ak
 obtain⟨G,hG⟩:=ex (grownCap w n1 c 68)
 have a3:n1<=G:=by rw[<-hG];exact grownCap_ge w _ _ _
 have az:G<=maxLen:=by rw[<-hG];exact grownCap_le_maxLen w _ _ _ (by unfold maxLen;omega)
 obtain⟨Y,aQ⟩:=ex (Rg.flat encP (ds.drop i))
 obtain⟨X,aR⟩:=ex (Rg.flat encP (ds.take i))
 obtain⟨Z,hZ⟩:=ex ((Builtin.zeroCells z.cells k++Builtin.zeroCells z.cells (G-n1)).toList)
 have aG:∀ m,(Builtin.zeroCells z.cells m).size=m*6:=fun m=>by simp[Builtin.zeroCells,a0]
 have aH:Z.length=(G-i)*6:=by rw[<-hZ,Array.length_toList,Array.size_append,aG,aG];omega
 have am:∀ x∈Z,NoB x:=fun x hx2=>by
  rw[<-hZ,Array.mem_toList_iff,Array.mem_append] at hx2
  rcases hx2 with h | h
  ·exact iC (iG i0 aB z aC) _ x h
  ·exact iC (iG i0 aB z aC) _ x h
 rw[aQ] at hY aP aF ae
 rw[aR] at hX af ak
 have an:X.toArray++Builtin.zeroCells z.cells k++Builtin.zeroCells z.cells (G-n1)=(X++Z).toArray:=by
  rw[<-hZ];simp
 rw[hG,an,hH] at ak
 obtain⟨W1,au⟩:=ex (w.drew.alloc (.cells (X++Z).toArray 68))
 rw[au] at ak
 obtain⟨m1,m2⟩:=afa X (encP d) Y Z (by rw[aj,hY,aH];omega)
 rw[hX,ay] at m1 m2
 obtain⟨ab,aD⟩:=ex (X++Z)
 have aI:ab.length=G*6:=by rw[<-aD,List.length_append,hX,aH];omega
 have ag:∀ x∈ab,NoB x:=fun x hx2=>by
  rw[<-aD,List.mem_append] at hx2
  exact hx2.elim (af x) (am x)
 rw[aD] at m1 m2 au
 obtain⟨aa,av⟩:=ex (ab.take (i*6)++encP d++ab.drop (i1*6))
 rw[av] at m1 m2
 obtain⟨ad,aw⟩:=ex (aa.take (i1*6)++Y++aa.drop (i1*6+Y.length))
 rw[aw] at m1 m2
 have aJ:aa.length=G*6:=by
  rw[<-av];simp only[List.length_append,List.length_take,List.length_drop,aI,aj];omega
 have aU:ad.length=G*6:=by
  rw[<-aw];simp only[List.length_append,List.length_take,List.length_drop,aJ,hY];omega
 have ah:∀ x∈aa,NoB x:=by rw[<-av];exact iH ag (gU d) ag _ _
 have ao:∀ x∈ad,NoB x:=by rw[<-aw];exact iH ah ae ah _ _
 have aA:W1.heap[H]?=some (.cells ab.toArray 68 (0,0)):=by rw[<-au,<-hH];exact heap_alloc_new w.drew _
 obtain⟨W2,ax⟩:=ex (W1.setRow H aa.toArray)
 have aK:W2.heap[H]?=some (.cells aa.toArray 68 (0,0)):=by rw[<-ax];exact setRow_heap W1 H _ _ _ _ aA
 obtain⟨W3,aE⟩:=ex (W2.drew.setRow H ad.toArray)
 have aV:W3.heap[H]?=some (.cells ad.toArray 68 (0,0)):=by rw[<-aE];exact setRow_heap W2.drew H _ _ _ _ aK
 have aL:Below w.heap.size w W1:=by rw[<-au];exact (Below.refl _ _).drew.alloc (Nat.le_refl _) _
 have aM:Below w.heap.size w W2:=by rw[<-ax];exact below_setRow aL (by omega) _
 have al:Below w.heap.size w W3:=by rw[<-aE];exact below_setRow aM.drew (by omega) _
 have HR:Hid (InsRet w B 68 (.slice (some ⟨g,0,none⟩) n c) (ds.take i++d :: ds.drop i) (.returned (.slice (some ⟨H,0,none⟩) n1 G)) W3):=by
  rw[<-aZ]
  refine yt aV (by omega) hn (Nat.le_of_lt hi) (by omega) az aU ?_ ao (Or.inr (by omega)) ⟨al.os,al.tape,al.output,al.size,fun k hk _=>al.block k hk⟩
  rw[aR,aQ,<-m1,hY,<-ay,aj]
 have aN:∀ j v,(encP d)[j]?=some v->W1.cell? ((⟨b1,0,none⟩:Addr).add j)=some v:=fun j v h=>by
  have e:(⟨b1,0,none⟩:Addr).add j=⟨b1,j,none⟩:=by unfold Addr.add;split <;> simp_all
  rw[e,World.cell?_of_block (aL.block b1 aT),cell_of_row w b1 j _ _ (0,0) hx]
  simpa using h
 have ap:∀ j u,Y[j]?=some u->W2.cell? ((⟨g,i*6,none⟩:Addr).add j)=some u:=fun j u h=>by
  exact (World.cell?_of_block (w:=w) (w':=W2) (a:=(⟨g,i*6,none⟩:Addr).add j) (by rw[Rs.add_block];exact aM.block g aS)).trans (aP j u h)
 have bi:IntKind.i64.wrap ((i:Int)+1)=(i1:Int):=by rw[IntKind.wrap_i64];omega
 have bj:IntKind.i64.wrap ((n:Int)+1)=(n1:Int):=by rw[IntKind.wrap_i64];omega
 have bk:IntKind.i64.wrap ((n1:Int)-(i:Int))=(k:Int):=by rw[IntKind.wrap_i64];omega
 have r0:=jo g n c i (Nat.le_of_lt hi) (by omega) aO (by omega)
 have r1:=abF (some ⟨g,0,none⟩) n c i (by omega) aO
 have r2:=jo H n1 G i1 (by omega) (by omega) az (by omega)
 have r3:=jo H n1 G i (by omega) (by omega) az (by omega)
 have d1:((i:Int)==(n:Int))=false:=by simp;omega
 have d2:decide (c<n1)=true:=decide_eq_true (by omega)
 have aW:min (n-i) (n1-i1)=n-i:=by omega
 have ai:min 1 (n1-i)=1:=by omega
 have aq:i1*6+Y.length<=aa.length:=by rw[hY,aJ];omega
 have ac:i*6+(encP d).length<=ab.length:=by rw[aI,aj];omega
 have a4:Hid (ab.take (i*6)++encP d++ab.drop (i*6+(encP d).length)=aa):=by show _=_;rw[ay];exact av
 have a5:Hid (aa.take (i1*6)++Y++aa.drop (i1*6+Y.length)=ad):=aw
 have bl:(Builtin.copy_ #[34,33] 3 #[.slice (some ⟨H,i*6,none⟩) (n1-i) (G-i),.slice (some ⟨b1,0,none⟩) 1 1]).run Tryz.prog W1=.ok (.int .i64 1) W2:=by
  have h:=fL (P:=Tryz.prog) W1 34 33 3 68 H (i*6) (n1-i) (G-i) ⟨b1,0,none⟩ 1 1 ab.toArray _ (encP d) 6 1 underR sizeP aA ai aj aN (by simpa using ac) a2
  rw[List.toList_toArray,a4.out,ax] at h
  exact h
 have bm:=zh ax
 have a6:=zh aE
 have bn:=zh aA
 have aX:W2.drew.heap[H]?=some (.cells aa.toArray 68 (0,0)):=aK
 have a7:=zh aX
 have HY:=zh hY
 have ar:∀ j u,Y[j]?=some u->W2.drew.cell? ((⟨g,i*6,none⟩:Addr).add j)=some u:=ap
 have a8:=zh ar
 have a9:=zh aF
 have bo:=zh aN
 have ba:=zh aW
 have bb:=zh ai
 have HF:=zh aq
 have bp:=zh ac
 have bc:=zh ak
 clear aX ar aW ai aq ac au ax aE hg aA aK aV hY aP ap aF aN aD av aw m1 m2 hX bg ay bf aI aJ aU ag ah ao af ae am ho hn hx hroom hi bh aZ aQ aR be aO bd aL aM al hold ak an hZ aH aG aB aC a0 a1 hb hG a3 az hk hH aS aT aY hl
 go_enter Tryz.func108,Tryz.ntmps108
 go_wp2_with (at_builtin;refine Lib.wpList_append_run _ rfl _ _ _ _ rfl _ _ rfl rfl _ _ (bc.out _) ?_)
 go_region_law (refine oO (by rfl) (.tmp 50) (.tmp 53) 34 34 (by rfl) 68 6 (n-i) underR sizeP H (i1*6) (n1-i1) (G-i1) ⟨g,i*6,none⟩ (n-i) (c-i) (by simp[Act.eval,Act.put]) (by simp[Act.eval,Act.put]) aa _ a7.out Y ba.out HY.out a8.out HF.out a9.out ?_;rw[a5.out,a6.out])
 go_wp2_with fail
 go_ret
 exact HR.out
end
section
open Go.RowKit Go.ChangeShapes Go.WideShapes Go.Joins Rs
theorem mA {H:Type}{enc:TypeId × Value->H}{P:Program}{W:World}{t e ts tb:TypeId}{n0 n1 n2 n3:Field}{fuel:Nat}{cs:List Value}{x:DataW H × List MemPlace}
  (ht:P.underlying t=some (.slice e)) (he:P.underlying e=some (.struct #[n0,n1,n2,n3])) (h0:n0.type=ts/\n0.offset=0) (h1:n1.type=ts/\n1.offset=1) (h2:n2.type=tb/\n2.offset=2) (h3:n3.type=tb/\n3.offset=3)
  (hs:P.underlying ts=some .string) (hb:P.underlying tb=some .bool) (cts:P.cellsOf ts=1) (cb:P.cellsOf tb=1) (ce:P.cellsOf e=4)
  (h:DataW.trod enc P W 0 (fun _=>true) true fuel t cs=some x) :
  ∃ (A:Option Addr) (c:Nat) (l:List Sp),cs=[.slice A l.length c]/\SRow W A l/\l.length<=maxLen/\∀ s∈l,s.lo.length<=maxLen/\s.hi.length<=maxLen:=by
 rcases Go.Deep.open_slice ht h with⟨hcs,_⟩ | ⟨a,len,cap,m,n,D,Pl,hcs,_,hl,hmx,hmm,_,hi⟩
 ·exact⟨none,0,[],hcs,fun h=>absurd h (by simp),by simp,by simp⟩
 ·simp only[if_true] at hmm
  have each:∀ i,i<len->∃ s:Sp,SpAt W (a.add (i*4)) s/\s.lo.length<=maxLen/\s.hi.length<=maxLen:=fun i hil=>by
   obtain⟨ag,hc,ae⟩:=hi i (by omega)
   rw[ce] at hc
   obtain⟨y0,y1,y2,y3,m',_,aa,g0,g1,g2,g3⟩:=trod_struct4 he ae
   rw[ce] at aa
   rw[h0.1,h0.2,cts,nD aa (by omega)] at g0
   rw[h1.1,h1.2,cts,nD aa (by omega)] at g1
   rw[h2.1,h2.2,cb,nD aa (by omega)] at g2
   rw[h3.1,h3.2,cb,nD aa (by omega)] at g3
   obtain⟨s0,e0,_,m0⟩:=DataW.trod_string hs g0
   obtain⟨s1,e1,_,m1⟩:=DataW.trod_string hs g1
   obtain⟨b2,e2,_⟩:=DataW.trod_bool hb g2
   obtain⟨b3,e3,_⟩:=DataW.trod_bool hb g3
   obtain⟨_,af,ab⟩:=World.cells?_some hc
   refine⟨⟨s0.data.toList,s1.data.toList,b2,b3⟩,⟨?_,?_,?_,?_⟩,?_,?_⟩
   ·exact (ab 0 (by omega)).trans ((List.getElem?_eq_getElem (by omega)).trans (congrArg some (List.cons.inj e0).1))
   ·exact (ab 1 (by omega)).trans ((List.getElem?_eq_getElem (by omega)).trans (congrArg some (List.cons.inj e1).1))
   ·exact (ab 2 (by omega)).trans ((List.getElem?_eq_getElem (by omega)).trans (congrArg some (List.cons.inj e2).1))
   ·exact (ab 3 (by omega)).trans ((List.getElem?_eq_getElem (by omega)).trans (congrArg some (List.cons.inj e3).1))
   ·show s0.data.toList.length<=maxLen
    rw[Array.length_toList];exact m0
   ·show s1.data.toList.length<=maxLen
    rw[Array.length_toList];exact m1
  obtain⟨f,ad⟩:=Go.Deep.choose_lt each
  have hlen:((List.range len).map f).length=len:=by simp
  refine⟨some a,cap,(List.range len).map f,by rw[hlen];exact hcs,fun h=>?_,by rw[hlen];omega,fun s hs=>?_⟩
  ·rw[hlen] at h
   refine⟨a,rfl,?_,fun i ac=>?_⟩
   ·have:=cj (ad 0 h).1.1
    rwa [add_block,add_block] at this
   ·rw[hlen] at ac
    have:=(ad i ac).1
    simpa using this
  ·obtain⟨i,ac,rfl⟩:=List.mem_map.1 hs
   exact (ad i (List.mem_range.1 ac)).2
end
section
open Go.RowKit Go.ChangeShapes Go.WideShapes Go.Joins Rs At Pg
namespace Pg
def SpT (P:Program) (t e ts tb:TypeId):Prop:=P.underlying t=some (.slice e)/\P.underlying ts=some .string/\P.underlying tb=some .bool/\P.cellsOf ts=1/\P.cellsOf tb=1/\P.cellsOf e=4/\P.cellsOf t=1 /\
 ∃ n0 n1 n2 n3:Field,P.underlying e=some (.struct #[n0,n1,n2,n3])/\(n0.type=ts/\n0.offset=0)/\(n1.type=ts/\n1.offset=1)/\(n2.type=tb/\n2.offset=2)/\(n3.type=tb/\n3.offset=3)
def AtT (P:Program) (ta t e ts tb:TypeId):Prop:=SpT P t e ts tb/\P.cellsOf ta=2/\∃ f0 f1:Field,P.underlying ta=some (.struct #[f0,f1])/\(f0.type=ts/\f0.offset=0)/\(f1.type=t/\f1.offset=1)
def AWide (a:Atm):Prop:=a.name.length<=maxLen/\a.rng.length<=maxLen/\∀ s∈a.rng,s.lo.length<=maxLen/\s.hi.length<=maxLen
theorem take1 {α:Type}{cs:List α}{m n:Nat}(hl:cs.length=m)(hn:n<m):(cs.drop n).take 1=[cs[n]'(by omega)]:=by
 rw[List.drop_eq_getElem_cons (by omega)];rfl
instance:Inhabited Atm:=⟨⟨[],[]⟩⟩
instance:Inhabited Gv:=⟨⟨[],[]⟩⟩
section
variable {H:Type} {enc:TypeId × Value->H} {P:Program} {W:World} {ta t e ts tb:TypeId}
theorem mB {tl:TypeId}{fuel:Nat}{cs:List Value}{x:DataW H × List MemPlace}(hT:AtT P ta t e ts tb)(hl:P.underlying tl=some (.slice ta))(h:DataW.trod enc P W 0 (fun _=>true) true fuel tl cs=some x) :
  ∃ (A:Option Addr) (c:Nat) (l:List Atm),cs=[.slice A l.length c]/\ARow W A l/\l.length<=maxLen/\∀ a∈l,AWide a:=by
 obtain⟨⟨q1,q2,q3,q4,q5,q6,q7,n0,n1,n2,n3,q8,q9,ak,al,am⟩,ah,f0,f1,an,ai,aj⟩:=hT
 rcases Go.Deep.open_slice hl h with⟨hcs,_⟩ | ⟨a,len,cap,m,n,D,Pl,hcs,_,hlc,hmx,hmm,_,hi⟩
 ·exact⟨none,0,[],hcs,⟨[],fun h=>absurd h (by decide),rfl,fun i d a h=>by simp at h⟩,Nat.zero_le _,fun a ha=>by cases ha⟩
 ·simp only[if_true] at hmm
  have each:∀ i,i<len->∃ y:AtD × Atm,Rg.At encA W (a.add (i*2)) y.1/\(a.add (i*2)).block<W.heap.size/\y.1.1=y.2.name/\y.1.2.2.1=y.2.rng.length/\SRow W y.1.2.1 y.2.rng/\AWide y.2:=fun i af=>by
   obtain⟨aq,hc,ao⟩:=hi i (by omega)
   rw[ah] at hc
   obtain⟨y0,y1,m',_,ag,g0,g1⟩:=trod_struct2 an ao
   rw[ah] at ag
   rw[ai.1,ai.2,q4,take1 ag (by omega)] at g0
   rw[aj.1,aj.2,q7,take1 ag (by omega)] at g1
   obtain⟨s0,e0,_,m0⟩:=DataW.trod_string q2 g0
   obtain⟨C,c,r,e1,hr,hm,hw⟩:=mA q1 q8 q9 ak al am q2 q3 q4 q5 q6 g1
   obtain⟨_,ap,aa⟩:=World.cells?_some hc
   have c0:=(aa 0 (by omega)).trans ((List.getElem?_eq_getElem (by omega)).trans (congrArg some (List.cons.inj e0).1))
   have c1:=(aa 1 (by omega)).trans ((List.getElem?_eq_getElem (by omega)).trans (congrArg some (List.cons.inj e1).1))
   have ci:=cj c0
   rw[add_block] at ci
   refine⟨((s0.data.toList,C,r.length,c),⟨s0.data.toList,r⟩),fun j u hu=>?_,ci,rfl,rfl,hr,by show s0.data.toList.length<=maxLen;rw[Array.length_toList];exact m0,hm,hw⟩
   match j with
   | 0=>cases hu;rw[if_pos rfl];exact c0
   | 1=>cases hu;exact c1
   | j+2=>simp[encA] at hu
  obtain⟨f,ac⟩:=Go.Deep.choose_lt each
  have ab:((List.range len).map fun i=>(f i).1).length=len:=by simp
  have ae:((List.range len).map fun i=>(f i).2).length=len:=by simp
  refine⟨some a,cap,(List.range len).map fun i=>(f i).2,by rw[ae];exact hcs,⟨(List.range len).map fun i=>(f i).1,fun h0=>?_,by rw[ab,ae],fun i d b h1 h2=>?_⟩,by rw[ae];omega,fun b hb=>?_⟩
  ·rw[ab] at h0
   refine⟨a,rfl,?_,fun i ad=>?_⟩
   ·have:=(ac 0 h0).2.1
    rwa [add_block] at this
   ·rw[ab] at ad
    have:=(ac i ad).1
    simpa using this
  ·have af:i<len:=by have:=(List.getElem?_eq_some_iff.1 h1).1;rwa [ab] at this
   obtain⟨_,_,g1,g2,g3,_⟩:=ac i af
   rw[List.getElem?_map,List.getElem?_range af] at h1 h2
   cases h1;cases h2
   exact⟨g1,g2,g3⟩
  ·obtain⟨i,ad,rfl⟩:=List.mem_map.1 hb
   exact (ac i (List.mem_range.1 ad)).2.2.2.2.2
theorem zI {tt tl:TypeId}{fuel:Nat}{cs:List Value}{x:DataW H × List MemPlace}(hT:AtT P ta t e ts tb)(hl:P.underlying tl=some (.slice ta))(hc1:P.cellsOf tl=1)(hll:P.underlying tt=some (.slice tl))(h:DataW.trod enc P W 0 (fun _=>true) true fuel tt cs=some x) :
  ∃ (A:Option Addr) (c:Nat) (l:List (List Atm)),cs=[.slice A l.length c]/\Pg.DRow W A l/\l.length<=maxLen/\∀ d∈l,d.length<=maxLen/\∀ a∈d,AWide a:=by
 rcases Go.Deep.open_slice hll h with⟨hcs,_⟩ | ⟨a,len,cap,m,n,D,Pl,hcs,_,hlc,hmx,hmm,_,hi⟩
 ·exact⟨none,0,[],hcs,⟨[],fun h=>absurd h (by decide),rfl,fun i d a h=>by simp at h⟩,Nat.zero_le _,fun a ha=>by cases ha⟩
 ·simp only[if_true] at hmm
  have each:∀ i,i<len->∃ y:Desc × List Atm,Rg.At encO W (a.add (i*1)) y.1/\(a.add (i*1)).block<W.heap.size/\y.1.2.1=y.2.length/\ARow W y.1.1 y.2/\y.2.length<=maxLen/\∀ b∈y.2,AWide b:=fun i ae=>by
   obtain⟨ag,hc,ah⟩:=hi i (by omega)
   rw[hc1] at hc
   obtain⟨C,c,r,e1,hr,hm,hw⟩:=mB hT hl ah
   obtain⟨_,ai,af⟩:=World.cells?_some hc
   have c0:=(af 0 (by omega)).trans (show ag[0]?=some (.slice C r.length c) by rw[e1];rfl)
   have ci:=cj c0
   rw[add_block] at ci
   refine⟨((C,r.length,c),r),fun j u hu=>?_,ci,rfl,hr,hm,hw⟩
   match j with
   | 0=>cases hu;rw[if_pos rfl];exact c0
   | j+1=>simp[encO] at hu
  obtain⟨f,ab⟩:=Go.Deep.choose_lt each
  have aa:((List.range len).map fun i=>(f i).1).length=len:=by simp
  have ad:((List.range len).map fun i=>(f i).2).length=len:=by simp
  refine⟨some a,cap,(List.range len).map fun i=>(f i).2,by rw[ad];exact hcs,⟨(List.range len).map fun i=>(f i).1,fun h0=>?_,by rw[aa,ad],fun i d b h1 h2=>?_⟩,by rw[ad];omega,fun b hb=>?_⟩
  ·rw[aa] at h0
   refine⟨a,rfl,?_,fun i ac=>?_⟩
   ·have:=(ab 0 h0).2.1
    rwa [add_block] at this
   ·rw[aa] at ac
    have:=(ab i ac).1
    simpa using this
  ·have ae:i<len:=by have:=(List.getElem?_eq_some_iff.1 h1).1;rwa [aa] at this
   obtain⟨_,_,g1,g2,_⟩:=ab i ae
   rw[List.getElem?_map,List.getElem?_range ae] at h1 h2
   cases h1;cases h2
   exact⟨g1,g2⟩
  ·obtain⟨i,ac,rfl⟩:=List.mem_map.1 hb
   exact (ab i (List.mem_range.1 ac)).2.2.2.2
theorem wV {tg tl:TypeId}{f0 f1:Field}{fuel:Nat}{cs:List Value}{x:DataW H × List MemPlace}(hg:P.underlying tg=some (.struct #[f0,f1]))(hf0:f0.type=ts/\f0.offset=0)(hf1:f1.type=ts/\f1.offset=1)(cg:P.cellsOf tg=2)(hs:P.underlying ts=some .string)(cts:P.cellsOf ts=1)
  (hl:P.underlying tl=some (.slice tg)) (h:DataW.trod enc P W 0 (fun _=>true) true fuel tl cs=some x) :
  ∃ (A:Option Addr) (c:Nat) (l:List Gv),cs=[.slice A l.length c]/\GRow W A l/\l.length<=maxLen/\GFew l:=by
 rcases Go.Deep.open_slice hl h with⟨hcs,_⟩ | ⟨a,len,cap,m,n,D,Pl,hcs,_,hlc,hmx,hmm,_,hi⟩
 ·exact⟨none,0,[],hcs,fun h=>absurd h (by decide),Nat.zero_le _,fun a ha=>by cases ha⟩
 ·simp only[if_true] at hmm
  have each:∀ i,i<len->∃ y:Gv,Rg.At encG W (a.add (i*2)) y/\(a.add (i*2)).block<W.heap.size/\y.name.length<=maxLen/\y.ver.length<=maxLen:=fun i hil=>by
   obtain⟨ag,hc,ae⟩:=hi i (by omega)
   rw[cg] at hc
   obtain⟨y0,y1,m',_,ac,g0,g1⟩:=trod_struct2 hg ae
   rw[cg] at ac
   rw[hf0.1,hf0.2,cts,take1 ac (by omega)] at g0
   rw[hf1.1,hf1.2,cts,take1 ac (by omega)] at g1
   obtain⟨s0,e0,_,m0⟩:=DataW.trod_string hs g0
   obtain⟨s1,e1,_,m1⟩:=DataW.trod_string hs g1
   obtain⟨_,af,aa⟩:=World.cells?_some hc
   have c0:=(aa 0 (by omega)).trans ((List.getElem?_eq_getElem (by omega)).trans (congrArg some (List.cons.inj e0).1))
   have c1:=(aa 1 (by omega)).trans ((List.getElem?_eq_getElem (by omega)).trans (congrArg some (List.cons.inj e1).1))
   have ci:=cj c0
   rw[add_block] at ci
   refine⟨⟨s0.data.toList,s1.data.toList⟩,fun j u hu=>?_,ci,by show s0.data.toList.length<=maxLen;rw[Array.length_toList];exact m0,by show s1.data.toList.length<=maxLen;rw[Array.length_toList];exact m1⟩
   match j with
   | 0=>cases hu;rw[if_pos rfl];exact c0
   | 1=>cases hu;exact c1
   | j+2=>simp[encG] at hu
  obtain⟨f,ad⟩:=Go.Deep.choose_lt each
  have hlen:((List.range len).map f).length=len:=by simp
  refine⟨some a,cap,(List.range len).map f,by rw[hlen];exact hcs,fun h0=>?_,by rw[hlen];omega,fun s hs=>?_⟩
  ·rw[hlen] at h0
   refine⟨a,rfl,?_,fun i ab=>?_⟩
   ·have:=(ad 0 h0).2.1
    rwa [add_block] at this
   ·rw[hlen] at ab
    have:=(ad i ab).1
    simpa using this
  ·obtain⟨i,ab,rfl⟩:=List.mem_map.1 hs
   exact (ad i (List.mem_range.1 ab)).2.2
theorem zJ {tf:TypeId}{fuel:Nat}{cs:List Value}{x:DataW H × List MemPlace}(ht:P.underlying tf=some (.float .f64))(h:DataW.trod enc P W 0 (fun _=>true) true fuel tf cs=some x):∃ f,cs=[Value.float .f64 f]/\f<Wm.W:=by
 have h1:∃ f,cs=[Value.float .f64 f]/\(Lit.float .f64 f).wf=true:=by
  cases fuel with
  | zero=>simp[DataW.trod] at h
  | succ n =>
   unfold DataW.trod at h
   rw[ht] at h
   split at h <;> simp_all
 obtain⟨f,h2,h3⟩:=h1
 refine⟨f,h2,?_⟩
 have h4:decide (f<2 ^ 64)=true:=h3
 have:=of_decide_eq_true h4
 unfold Wm.W
 omega
def PWide (p:Pk):Prop:=p.name.length<=maxLen/\p.ver.length<=maxLen/\p.deps.length<=maxLen/\(∀ d∈p.deps,d.length<=maxLen/\∀ a∈d,AWide a)/\p.confl.length<=maxLen/\(∀ a∈p.confl,AWide a)/\p.prov.length<=maxLen/\GFew p.prov/\p.wt<Wm.W
def PkT (P:Program) (tp tg tgl tf tl tt ta t e ts tb:TypeId):Prop:=AtT P ta t e ts tb/\P.underlying tl=some (.slice ta)/\P.cellsOf tl=1/\P.underlying tt=some (.slice tl)/\P.cellsOf tt=1/\P.underlying tgl=some (.slice tg)/\P.cellsOf tgl=1/\P.cellsOf tg=2/\P.underlying tf=some (.float .f64)/\P.cellsOf tf=1/\P.cellsOf tp=6 /\
 (∃ f0 f1:Field,P.underlying tg=some (.struct #[f0,f1])/\(f0.type=ts/\f0.offset=0)/\(f1.type=ts/\f1.offset=1)) /\
 ∃ k0 k1 k2 k3 k4 k5:Field,P.underlying tp=some (.struct #[k0,k1,k2,k3,k4,k5])/\(k0.type=ts/\k0.offset=0)/\(k1.type=ts/\k1.offset=1)/\(k2.type=tt/\k2.offset=2)/\(k3.type=tl/\k3.offset=3)/\(k4.type=tgl/\k4.offset=4)/\(k5.type=tf/\k5.offset=5)
end
end Pg
end
section
open Go.RowKit Rs At Pg
def Pg.ASmall (l:List Atm):Prop:=∀ a∈l,a.rng.length<=1000
attribute [local go_sem ↓] Go.wp_at_zero Go.wp_at_succ
theorem oQ (A:Option Addr)(n c:Nat)(l:List Atm)(w:World)(hn:l.length=n)(hr:ARow w A l)(hl:n<=1000)(hf:Pg.ASmall l) :
  Calls Tryz.prog 82 #[.slice A n c] w fun e w'=>∃ C d,e=.returned (.slice C n d)/\ARow w' C l/\(∀ a,C=some a->w.heap.size<=a.block)/\Below w.heap.size w w':=by
 have HR:=zh hr
 have HN:=zh hn
 have HF:=zh hf
 clear hr hn hf
 go_enter Tryz.func82,Tryz.ntmps82
 go_wp2_with fail
 go_loopw [3,4] (fun v i wr=>∃ (k:Nat) (ds:List AtD),k<=n/\i=.int .i64 k/\Hid (AOwn wr w.heap.size 51 v ds (l.take k))/\Hid (Below w.heap.size w wr)) (fun _ i _=>n-(intOf i).toNat)
 case atStart=>exact⟨0,[],Nat.zero_le _,rfl,uL _ _ _,Below.refl _ _⟩
 case round =>
  obtain⟨k,ds,hk,rfl,HO,HB⟩:=hrel
  by_cases al:k<n
  ·have ae:k<l.length:=by rw[HN.out];exact al
   obtain⟨ad,C,m,d,rfl,hm,hs,hc⟩:=dm HR.out k ae
   obtain⟨c0,c1⟩:=hc _ HB.out
   have ac:=HF.out _ (List.getElem_mem ae)
   have af:l.take (k+1)=l.take k++[l[k]]:=by rw[List.take_succ_eq_append_getElem ae]
   have am:Hid (ds.length+1<=1000000):=by
    have h1:=HO.out.2.1.1
    rw[List.length_take] at h1
    show _<=_
    omega
   obtain⟨a,ha⟩:=ex (l[k])
   rw[ha] at hm hs c0 ac af
   obtain⟨nm,r⟩:=a
   dsimp only at hm hs c0 ac
   have an:=zh af
   have HT:=zh (xJ nm C m d r wr hm (ao hs HB.out) (by rw[<-hm];exact ac))
   have HM:=zh hm
   clear hc ha hm hs ac af
   go_wp2_with fail
   refine HT.out.mono ?_
   rintro _ u2 ⟨C2,d2,rfl,ai,hb⟩
   have aa:=zh hb
   have ap:=zh ai
   clear hb ai HT
   go_wp2_with (at_builtin;refine Pg.dq sliceA rf uK rfl (.tmp 11) (.tmp 17) rfl w.heap.size _ ds [(nm,C2,m,d2)] rfl (cC HO.out (aa.out.alloc aa.out.size _)).1 (cC HO.out (aa.out.alloc aa.out.size _)).2.2 _ _ rfl (Rg.az u2 _ _ _ (by rfl)) (Nat.zero_lt_succ _) am.out ?b2 ?_)
   case b2=>have:=HB.out.size;have:=aa.out.size;simp;omega
   intro v5 W5 aj ak ag aw
   have ab:Below wr.heap.size wr (u2.alloc (.cells #[.string ⟨nm.toArray⟩,.slice C2 m d2] 51)):=aa.out.alloc aa.out.size _
   have aq:Hid (AOwn W5 w.heap.size 51 v5 (ds++[(nm,C2,m,d2)]) (l.take (k+1))):=by
    show AOwn _ _ _ _ _ _
    rw[an.out]
    exact uM (a:=⟨nm,r⟩) (cC HO.out ab) (ao ap.out ((Below.refl _ _).alloc (Nat.le_refl _) _)) HM.out aj ak ag
   have ar:Hid (Below w.heap.size w W5):=(bt HB.out ab).trans (Rg.aA (cC HO.out ab).1 (Nat.le_trans HB.out.size ab.size) ag)
   clear aj ak ag aw ab HO aa HB
   go_wp2_with fail
   go_roundw
   case rel=>exact⟨k+1,_,by omega,by go_num,aq,ar⟩
   case measure=>simp[intOf];omega
  ·obtain rfl:k=n:=by omega
   obtain⟨C,d,hv,ah,hf⟩:=uN HO.out
   rw[List.take_of_length_le (by rw[HN.out];exact Nat.le_refl _)] at hv ah
   rw[HN.out] at hv
   subst hv
   have au:=zh ah
   have av:=zh hf
   clear ah hf HO
   go_wp2_with fail
   go_ret
   exact⟨C,d,rfl,au.out,av.out,HB.out⟩
def Pg.fewAs (l:List Atm):Bool:=decide (l.length<=30)&&l.all fewA
theorem Pg.m9 {α:Type}(p:α->Bool)(l:List α)(k:Nat)(hk:k<l.length){x:α}(hx:l[k]=x)(h:(l.take k).all p=true):(l.take (k+1)).all p=p x:=by
 rw[List.take_succ_eq_append_getElem hk,List.all_append,h,hx];simp
theorem Pg.ja {α:Type}{p:α->Bool}{l:List α}{k:Nat}(hk:k<l.length){x:α}(hx:l[k]=x)(h:p x=false):l.all p=false:=by
 rw[List.all_eq_false]
 exact⟨l[k],List.getElem_mem hk,by rw[hx,h];decide⟩
theorem kf (A:Option Addr)(n c:Nat)(l:List Atm)(w:World)(hw:MaxOk w)(hn:l.length=n)(hr:ARow w A l)(hl:n<=maxLen)(hf:∀ a∈l,AWide a) :
  Calls Tryz.prog 77 #[.slice A n c] w fun e w'=>e=.returned (.bool (Pg.fewAs l))/\Below w.heap.size w w':=by
 obtain⟨R,hR⟩:=ex (fewAs l)
 rw[hR]
 unfold fewAs at hR
 have HR:=zh hr
 have HN:=zh hn
 have HF:=zh hf
 have HM:=zh hw
 unfold maxLen at hl
 clear hr hn hf hw
 by_cases ai:30<n
 ·have HX:Hid (R=false):=by
   show _=_
   rw[<-hR,HN.out,decide_eq_false (by omega)];rfl
  have d0:decide ((30:Int)<(n:Int))=true:=decide_eq_true (by omega)
  have hp:(30:Int)<(n:Int):=by omega
  clear hR ai
  go_enter Tryz.func77,Tryz.ntmps77
  go_wp2_with fail
  go_ret
  exact⟨by rw[HX.out];rfl,Below.refl _ _⟩
 have HX:Hid (l.all fewA=R):=by
  show _=_
  rw[<-hR,HN.out,decide_eq_true (by omega)];rfl
 have hp:¬ (30:Int)<(n:Int):=by omega
 clear hR
 go_enter Tryz.func77,Tryz.ntmps77
 go_wp2_with fail
 go_loopw [3] (fun i wr=>∃ k:Nat,k<=n/\i=.int .i64 k/\Hid ((l.take k).all fewA=true)/\Hid (Below w.heap.size w wr)) (fun i _=>n-(intOf i).toNat)
 case atStart=>exact⟨0,Nat.zero_le _,rfl,rfl,Below.refl _ _⟩
 case round =>
  obtain⟨k,hk,rfl,HH,HB⟩:=hrel
  by_cases aj:k<n
  ·have ab:k<l.length:=by rw[HN.out];exact aj
   obtain⟨ad,C,m,d,rfl,hm,hs,hc⟩:=dm HR.out k ab
   obtain⟨c0,c1⟩:=hc _ HB.out
   have aa:=HF.out _ (List.getElem_mem ab)
   obtain⟨a,ha⟩:=ex (l[k])
   have h1:=m9 fewA l k ab ha HH.out
   have h2:fewA a=false->l.all fewA=false:=fun h=>ja ab ha h
   rw[ha] at hm hs c0 aa
   obtain⟨nm,r⟩:=a
   dsimp only at hm hs c0
   have ae:St wr wr [⟨C,m,r⟩]:=⟨ag HM.out HB.out,Below.refl _ _,fun x hx=>by rw[List.mem_singleton.1 hx];exact⟨ao hs HB.out,hm⟩⟩
   have HT:=zh (tR ae nm C m d r 0 rfl aa.1 (by rw[<-hm];exact aa.2.1) aa.2.2)
   have H1:=zh h1
   have H2:=zh h2
   clear hc ha hm hs aa h1 h2 ae
   obtain⟨x,hx⟩:=ex (fewA ⟨nm,r⟩)
   rw[hx] at HT H1 H2
   clear hx
   go_wp2_with fail
   refine HT.out.mono ?_
   rintro _ u2 ⟨rfl,ah⟩
   have af:Hid (Below w.heap.size w u2):=HB.out.trans (ah.2.1.mono HB.out.size)
   clear ah HT
   cases x
   ·have ac:Hid (R=false):=by show _=_;rw[<-HX.out,H2.out rfl]
    go_wp2_with fail
    go_ret
    exact⟨by rw[ac.out];rfl,af.out⟩
   ·have ak:Hid ((l.take (k+1)).all fewA=true):=H1.out
    clear H1 H2
    go_wp2_with fail
    go_roundw
    case rel=>exact⟨k+1,by omega,by go_num,ak,af⟩
    case measure=>simp[intOf];omega
  ·obtain rfl:k=n:=by omega
   have ac:Hid (R=true):=by
    show _=_
    rw[<-HX.out,<-HH.out,List.take_of_length_le (by rw[HN.out];exact Nat.le_refl _)]
   go_wp2_with fail
   go_ret
   exact⟨by rw[ac.out];rfl,HB.out⟩
end
section
open Go.RowKit Rs At Pg
attribute [local go_sem ↓] Go.wp_at_zero Go.wp_at_succ
def Pg.fewG (g:Gv):Bool:=decide (g.name.length<=100)&&decide (g.ver.length<=100)
def Pg.fewP (p:Pk):Bool:=decide (p.name.length<=100)&&(decide (p.ver.length<=100)&&(decide (p.deps.length<=30)&&(decide (p.prov.length<=30)&&(fewAs p.confl&&(p.deps.all fewAs&&p.prov.all fewG)))))
theorem adC (p:Pk)(D C G:Option Addr)(dn dc cn cc gn gc:Nat)(w:World)(hw:MaxOk w)(hd:Pg.DRow w D p.deps)(hdn:p.deps.length=dn)(hc:ARow w C p.confl)(hcn:p.confl.length=cn)(hg:GRow w G p.prov)(hgn:p.prov.length=gn)(hf:PWide p) :
  Calls Tryz.prog 37 #[.agg #[.string ⟨p.name.toArray⟩,.string ⟨p.ver.toArray⟩,.slice D dn dc,.slice C cn cc,.slice G gn gc,.float .f64 p.wt]] w fun e w'=>e=.returned (.bool (fewP p))/\Below w.heap.size w w':=by
 obtain⟨nm,vr,deps,confl,prov,wt⟩:=p
 obtain⟨f1,f2,f3,f4,f5,f6,f7,f8,_⟩:=hf
 dsimp only at hd hdn hc hcn hg hgn f1 f2 f3 f4 f5 f6 f7 f8 ⊢
 rw[hdn] at f3
 rw[hcn] at f5
 rw[hgn] at f7
 unfold maxLen at f1 f2 f3 f5 f7
 obtain⟨R,hR⟩:=ex (fewP ⟨nm,vr,deps,confl,prov,wt⟩)
 rw[hR]
 unfold fewP at hR
 dsimp only at hR
 rw[hdn,hgn] at hR
 obtain⟨b,hb⟩:=ex w.heap.size
 obtain⟨V,hV⟩:=ex (w.alloc (.cells #[.string ⟨nm.toArray⟩,.string ⟨vr.toArray⟩,.slice D dn dc,.slice C cn cc,.slice G gn gc,.float .f64 wt] 60))
 have HB:Hid (Below w.heap.size w V):=ai hV
 have HY:=zh (fun W (h:Below V.heap.size V W)=>aw hV h)
 rw[hb] at HY
 obtain⟨y0,y1,y2,y3,y4,y5⟩:=HY.out _ (Below.refl _ _)
 have HD:Hid (Pg.DRow V D deps):=aJ hd HB.out
 have HG:Hid (GRow V G prov):=Rg.aj hg HB.out
 have HM:Hid (MaxOk V):=ag hw HB.out
 have HA:=zh (kf C cn cc confl V HM.out hcn (ay hc HB.out) (by unfold maxLen;exact f5) f6)
 have aq:=zh hdn
 have ar:=zh hgn
 have aA:=zh f4
 have aB:=zh f8
 have HR:=zh hR
 have al:Hid (Below b w V):=by show Below _ _ _;rw[<-hb];exact HB.out
 clear hw hd hdn hc hcn hg hgn hR f4 f6 f8
 by_cases h0:100<nm.length
 ·have HX:Hid (R=false):=by
   show _=_
   rw[<-HR.out,decide_eq_false (p:=nm.length<=100) (by omega)];simp
  have p0:(100:Int)<(nm.length:Int):=by omega
  clear h0
  go_enter Tryz.func37,Tryz.ntmps37
  go_wp2_with fail
  go_ret
  exact⟨by rw[HX.out];rfl,al.out⟩
 have p0:¬ (100:Int)<(nm.length:Int):=by omega
 by_cases h1:100<vr.length
 ·have HX:Hid (R=false):=by
   show _=_
   rw[<-HR.out,decide_eq_false (p:=vr.length<=100) (by omega)];simp
  have p1:(100:Int)<(vr.length:Int):=by omega
  clear h1
  go_enter Tryz.func37,Tryz.ntmps37
  go_wp2_with fail
  go_ret
  exact⟨by rw[HX.out];rfl,al.out⟩
 have p1:¬ (100:Int)<(vr.length:Int):=by omega
 by_cases h2:30<dn
 ·have HX:Hid (R=false):=by
   show _=_
   rw[<-HR.out,decide_eq_false (p:=dn<=30) (by omega)];simp
  have p2:(30:Int)<(dn:Int):=by omega
  clear h2
  go_enter Tryz.func37,Tryz.ntmps37
  go_wp2_with fail
  go_ret
  exact⟨by rw[HX.out];rfl,al.out⟩
 have p2:¬ (30:Int)<(dn:Int):=by omega
 by_cases h3:30<gn
 ·have HX:Hid (R=false):=by
   show _=_
   rw[<-HR.out,decide_eq_false (p:=gn<=30) (by omega)];simp
  have p3:(30:Int)<(gn:Int):=by omega
  clear h3
  go_enter Tryz.func37,Tryz.ntmps37
  go_wp2_with fail
  go_ret
  exact⟨by rw[HX.out];rfl,al.out⟩
 have p3:¬ (30:Int)<(gn:Int):=by omega
 have HX:Hid ((fewAs confl&&(deps.all fewAs&&prov.all fewG))=R):=by
  show _=_
  rw[<-HR.out,decide_eq_true (p:=nm.length<=100) (by omega),decide_eq_true (p:=vr.length<=100) (by omega),decide_eq_true (p:=dn<=30) (by omega),decide_eq_true (p:=gn<=30) (by omega)];rfl
 obtain⟨x,hx⟩:=ex (fewAs confl)
 rw[hx] at HX HA
 have aC:dn<=30:=by omega
 have aD:gn<=30:=by omega
 clear hx h0 h1 h2 h3 HR
 go_enter Tryz.func37,Tryz.ntmps37
 go_wp2_with fail
 clear hV hb
 refine HA.out.mono ?_
 rintro _ u1 ⟨rfl,ax⟩
 have au:=zh ax
 clear ax HA y0 y1 y2 y3 y4 y5
 cases x
 ·have HF:Hid (R=false):=by show _=_;rw[<-HX.out];rfl
  go_wp2_with fail
  go_ret
  exact⟨by rw[HF.out];rfl,bt HB.out au.out⟩
 have am:Hid ((deps.all fewAs&&prov.all fewG)=R):=by show _=_;rw[<-HX.out];rfl
 clear HX
 go_wp2_with fail
 go_loopw [3] (fun i wr=>∃ k:Nat,k<=dn/\i=.int .i64 k/\Hid ((deps.take k).all fewAs=true)/\Hid (Below V.heap.size V wr)) (fun i _=>dn-(intOf i).toNat)
 case atStart=>exact⟨0,Nat.zero_le _,rfl,rfl,au.out⟩
 case round =>
  obtain⟨k,hk,rfl,HH,ae⟩:=hrel
  obtain⟨y0,y1,y2,y3,y4,y5⟩:=HY.out _ ae.out
  by_cases an:k<dn
  ·have aa:k<deps.length:=by rw[aq.out];exact an
   obtain⟨ad,C1,m,d,rfl,hm,hs,hc⟩:=dB HD.out k aa
   have q0:=hc _ ae.out
   have ab:=aA.out _ (List.getElem_mem aa)
   obtain⟨a,ha⟩:=ex (deps[k])
   have h1:=m9 fewAs deps k aa ha HH.out
   have h2:fewAs a=false->deps.all fewAs=false:=fun h=>ja aa ha h
   rw[ha] at hm hs ab
   have HT:=zh (kf C1 m d a wr (ag HM.out ae.out) hm (ay hs ae.out) (by rw[<-hm];exact ab.1) ab.2)
   have H1:=zh h1
   have H2:=zh h2
   clear hc ha hm hs ab h1 h2
   obtain⟨x,hx⟩:=ex (fewAs a)
   rw[hx] at HT H1 H2
   clear hx
   go_wp2_with fail
   refine HT.out.mono ?_
   rintro _ u2 ⟨rfl,az⟩
   have av:Hid (Below V.heap.size V u2):=bt ae.out az
   clear az HT y0 y1 y2 y3 y4 y5 q0
   cases x
   ·have ac:Hid (R=false):=by show _=_;rw[<-am.out,H2.out rfl];rfl
    go_wp2_with fail
    go_ret
    exact⟨by rw[ac.out];rfl,bt HB.out av.out⟩
   ·have ao:Hid ((deps.take (k+1)).all fewAs=true):=H1.out
    clear H1 H2
    go_wp2_with fail
    go_roundw
    case rel=>exact⟨k+1,by omega,by go_num,ao,av⟩
    case measure=>simp[intOf];omega
  ·obtain rfl:k=dn:=by omega
   have ap:Hid (prov.all fewG=R):=by
    have h:=HH.out
    rw[List.take_of_length_le (by rw[aq.out];exact Nat.le_refl _)] at h
    show _=_
    rw[<-am.out,h];rfl
   clear am HH
   go_wp2_with fail
   clear y0 y1 y2 y3 y4 y5
   go_loopw [4] (fun i ws=>∃ j:Nat,j<=gn/\i=.int .i64 j/\Hid ((prov.take j).all fewG=true)/\Hid (Below V.heap.size V ws)) (fun i _=>gn-(intOf i).toNat)
   case atStart=>exact⟨0,Nat.zero_le _,rfl,rfl,ae⟩
   case round =>
    obtain⟨j,hj,rfl,HH,af⟩:=hrel
    obtain⟨y0,y1,y2,y3,y4,y5⟩:=HY.out _ af.out
    by_cases an:j<gn
    ·have aa:j<prov.length:=by rw[ar.out];exact an
     obtain⟨ad,rfl,hc⟩:=dJ HG.out j aa
     obtain⟨q0,q1⟩:=hc _ af.out
     have ab:=aB.out _ (List.getElem_mem aa)
     obtain⟨a,ha⟩:=ex (prov[j])
     have h1:=m9 fewG prov j aa ha HH.out
     have h2:fewG a=false->prov.all fewG=false:=fun h=>ja aa ha h
     rw[ha] at q0 q1 ab
     obtain⟨ah,ak⟩:=a
     dsimp only at q0 q1 ab
     obtain⟨aE,aF⟩:=ab
     unfold maxLen at aE aF
     have H1:=zh h1
     have H2:=zh h2
     clear hc ha h1 h2
     by_cases g1:100<ah.length
     ·have ac:Hid (R=false):=by show _=_;rw[<-ap.out,H2.out (by unfold fewG;rw[decide_eq_false (p:=ah.length<=100) (by omega)];rfl)]
      have p0:(100:Int)<(ah.length:Int):=by omega
      clear g1
      go_wp2_with fail
      go_ret
      exact⟨by rw[ac.out];rfl,bt HB.out af.out⟩
     by_cases g2:100<ak.length
     ·have ac:Hid (R=false):=by show _=_;rw[<-ap.out,H2.out (by unfold fewG;rw[decide_eq_false (p:=ak.length<=100) (by omega),Bool.and_false])]
      have p0:¬ (100:Int)<(ah.length:Int):=by omega
      have p1:(100:Int)<(ak.length:Int):=by omega
      clear g1 g2
      go_wp2_with fail
      go_ret
      exact⟨by rw[ac.out];rfl,bt HB.out af.out⟩
     have ao:Hid ((prov.take (j+1)).all fewG=true):=by
      show _=_
      rw[H1.out];unfold fewG;rw[decide_eq_true (p:=ah.length<=100) (by omega),decide_eq_true (p:=ak.length<=100) (by omega)];rfl
     have p0:¬ (100:Int)<(ah.length:Int):=by omega
     have p1:¬ (100:Int)<(ak.length:Int):=by omega
     clear g1 g2 H1 H2
     go_wp2_with fail
     go_roundw
     case rel=>exact⟨j+1,by omega,by go_num,ao,af⟩
     case measure=>simp[intOf];omega
    ·obtain rfl:j=gn:=by omega
     have ac:Hid (R=true):=by
      have h:=HH.out
      rw[List.take_of_length_le (by rw[ar.out];exact Nat.le_refl _)] at h
      show _=_
      rw[<-ap.out,h]
     go_wp2_with fail
     go_ret
     exact⟨by rw[ac.out];rfl,bt HB.out af.out⟩
end
end Go.Proofs.YtgnaiidgjmicaaaGreatDoor

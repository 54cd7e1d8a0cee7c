/- Part 13 of what the laws lean on. -/
import Derived.Test.YtgnaiidgjmicaaaGreatDoorM12
set_option maxRecDepth 100000
set_option maxHeartbeats 3200000
namespace Go.Proofs.YtgnaiidgjmicaaaGreatDoor
section
open Go.RowKit Rs At
theorem tL (l:List (List UInt8)):(l.map fun t=>(⟨t.toArray⟩:ByteArray)).map (·.data.toList)=l:=by
 rw[List.map_map];conv=>rhs;rw[<-List.map_id l]
 rfl
theorem gK {w:World}{B:Nat}{v:Value}{l:List (List UInt8)}(sep:List UInt8)(h:Rg.Own encT 1 w B 9 v l)(hl:l.length<=100000)(hj:(Lib.join l sep).length<=1000000) :
  Calls Tryz.prog 190 #[v,.string ⟨sep.toArray⟩] w fun e w'=>e=.returned (.string ⟨(Lib.join l sep).toArray⟩)/\Below w.heap.size w w':=by
 obtain⟨A,c,hv,hr,hc,_⟩:=Rg.aF fitsT h
 by_cases h0:l=[]
 ·subst h0 hv
  exact (Tryz.strings_Join_none A c ⟨sep.toArray⟩ w).mono fun e w' hh=>⟨hh.1,hh.2 ▸ Below.refl _ _⟩
 ·have ac:0<l.length:=List.length_pos_iff.2 h0
  obtain⟨g,cap,ab,_,hg⟩:=World.ownsRow.form h ac
  have aa:∀ (j:Nat) (t:List UInt8),l[j]?=some t->w.cell? ⟨g,0+j,none⟩=some (.string ⟨t.toArray⟩):=fun j t ht=>by
   obtain⟨ag,ah⟩:=List.getElem?_eq_some_iff.1 ht
   have af:=World.ownsRow.cells h (g:=g) (by rw[ab];rfl) j (.string ⟨t.toArray⟩) (by
    have:=Rg.flat_get fitsT l j ag 0 (by decide)
    rw[Nat.mul_one,Nat.add_zero,ah] at this
    exact this)
   have e:(⟨g,0,none⟩:Addr).add j=⟨g,0+j,none⟩:=by unfold Addr.add;split <;> simp_all
   rwa [e] at af
  have hlen:(l.map fun t=>(⟨t.toArray⟩:ByteArray)).length=l.length:=List.length_map _
  have ad:l.length<=cap:=by rw[hv] at ab;cases ab;exact hc
  have:=Tryz.strings_Join g 0 cap (l.map fun t=>(⟨t.toArray⟩:ByteArray)) ⟨sep.toArray⟩ w (fun j x hx=>by
   rw[List.getElem?_map] at hx
   cases ae:l[j]? with
   | none=>rw[ae] at hx;cases hx
   | some t=>rw[ae] at hx;cases hx;exact aa j t ae) hg (by rw[hlen];omega) (by rw[hlen];exact ad) (by rw[tL];exact Nat.le_trans hj (by decide))
  rw[hlen,tL] at this
  rw[ab]
  exact this
theorem cat3 (a b c:List UInt8):(({ data:=a.toArray }:ByteArray)++{ data:=b.toArray }++{ data:=c.toArray })={ data:=(a++b++c).toArray }:=by
 rw[ByteArray.mk_append_mk,ByteArray.mk_append_mk]
theorem gL (m:List UInt8)(l:List (List UInt8))(b:Nat)(h:∀ t∈l,t.length<=b):(Lib.join l m).length<=l.length*(b+m.length):=by
 cases l with
 | nil=>rw[Lib.join_nil];simp
 | cons x r =>
  rw[Lib.join_length]
  have hb:∀ r:List (List UInt8),(∀ t∈r,t.length<=b)->Lib.lens r<=r.length*b:=fun r=>by
   induction r with
   | nil=>intro _;simp[Lib.lens]
   | cons y r ih =>
    intro h
    have h1:=h y (by simp)
    have h2:=ih (fun t ht=>h t (by simp[ht]))
    have e:Lib.lens (y :: r)=y.length+Lib.lens r:=by simp[Lib.lens]
    rw[e,List.length_cons,Nat.succ_mul];omega
  have h1:=hb (x :: r) h
  have h2:m.length*r.length<=m.length*(x :: r).length:=Nat.mul_le_mul_left _ (by simp)
  have e:(x :: r).length*(b+m.length)=(x :: r).length*b+m.length*(x :: r).length:=by rw[Nat.mul_add,Nat.mul_comm m.length]
  rw[e];omega
theorem el {α:Type}{enc:α->List Value}{K:Nat}{T:TypeId}{v:Value}{l:List α}{w wr wq W5:World}{o:Obj}(hB:Hid (Below w.heap.size w wr/\w.heap.size<=wr.heap.size))(hq:Below wr.heap.size wr wq)(hO:Hid (Rg.Own enc K wr w.heap.size T v l))(hg:(wq.alloc o).grownBy W5 v.ownBlock) :
  Hid (Below w.heap.size w W5/\w.heap.size<=W5.heap.size):=by
 have hs:w.heap.size<=wq.heap.size:=Nat.le_trans hB.out.2 hq.size
 have h1:Below w.heap.size w (wq.alloc o):=(hB.out.1.trans (hq.mono hB.out.2)).alloc hs _
 have e:(wq.alloc o).heap.size=wq.heap.size+1:=by simp
 have h2:w.heap.size<=(wq.alloc o).heap.size:=by omega
 exact⟨h1.trans (Rg.aA (Rg.own_below hO.out (hq.alloc hq.size _)) h2 hg),Nat.le_trans h2 hg.size⟩
def Short (l:List Cond):Prop:=∀ c∈l,c.1.length<=10/\c.2.length<=100
theorem zi {c:Cond}(h:c.1.length<=10/\c.2.length<=100):(condT c).length<=111:=by
 unfold condT;rw[List.length_append,List.length_cons];omega
theorem qB {l:List Cond}(h:Short l):(altT l).length<=l.length*114:=by
 have:=gL [32,38,32] (l.map condT) 111 (fun t ht=>by
  obtain⟨c,hc,rfl⟩:=List.mem_map.1 ht
  exact zi (h c hc))
 rw[List.length_map] at this
 exact this
theorem fx {α:Type}(f:α->List UInt8)(l:List α)(k:Nat)(hk:k<l.length)(c:α)(hc:l[k]=c):(l.take (k+1)).map f=(l.take k).map f++[f c]:=by
 rw[List.take_succ_eq_append_getElem hk,List.map_append,hc];rfl
theorem acO (sg ver:List UInt8):(({ data:=sg.toArray }:ByteArray)++{ data:=#[32] }++{ data:=ver.toArray })={ data:=(condT (sg,ver)).toArray }:=by
 have:=cat3 sg [32] ver
 rw[List.append_assoc] at this
 exact this
theorem newsC (w:World)(sg ver:List UInt8)(T:TypeId)(b:Nat)(hb:w.heap.size=b):∀ j u,(Rg.flat encT [condT (sg,ver)])[j]?=some u->(w.alloc (.cells #[.string (({ data:=sg.toArray }:ByteArray)++{ data:=#[32] }++{ data:=ver.toArray })] T)).cell? ((⟨b,0,none⟩:Addr).add j)=some u:=by
 subst hb;exact Rg.az w T _ _ (by rw[acO];rfl)
theorem wm (A:Option Addr)(n c:Nat)(l:List Cond)(w:World)(hn:l.length=n)(hr:DRow w A l)(hl:n<=100)(hs:Short l) :
  Calls Tryz.prog 219 #[.slice A n c] w fun e w'=>e=.returned (.string ⟨(altT l).toArray⟩)/\Below w.heap.size w w':=by
 have HR:=zh hr
 have HN:=zh hn
 have ae:=zh hs
 clear hr hn hs
 go_enter Tryz.func219,Tryz.ntmps219
 go_wp2_with fail
 go_loopw [3,8] (fun v i wr=>∃ k:Nat,k<=n/\i=.int .i64 k/\Hid (Rg.Own encT 1 wr w.heap.size 9 v ((l.take k).map condT))/\Hid (Below w.heap.size w wr/\w.heap.size<=wr.heap.size)) (fun _ i _=>n-(intOf i).toNat)
 case atStart=>exact⟨0,Nat.zero_le _,rfl,Rg.aB _ _ _,Below.refl _ _,Nat.le_refl _⟩
 case round =>
  obtain⟨k,hk,rfl,HO,HB⟩:=hrel
  by_cases ai:k<n
  ·have ab:k<l.length:=by rw[HN.out];exact ai
   obtain⟨ad,rfl,_,c0,c1⟩:=xz (Rg.aj HR.out HB.out.1) k ab
   obtain⟨sg,aa,hc⟩:∃ s v,l[k]=(s,v):=⟨_,_,rfl⟩
   have HS:=zh (fx condT l k ab _ hc)
   have af:=ae.out _ (List.getElem_mem ab)
   rw[hc] at c0 c1 af
   dsimp only at c0 c1
   obtain⟨b1,b2⟩:=af
   dsimp only at b1 b2
   obtain⟨tk,ac⟩:=ex ((l.take k).map condT)
   have ak:tk.length+1<=1000000:=by rw[<-ac,List.length_map,List.length_take];omega
   rw[ac] at HS HO
   clear hc ac
   go_wp2_with (at_builtin;refine Rg.aN sliceTx rfl (.tmp 12) (.tmp 19) rfl w.heap.size _ tk [condT (sg,aa)] rfl (Rg.own_below HO.out (((Below.refl _ _).alloc (Nat.le_refl _) _).alloc (by simp) _)) _ _ rfl (newsC (wr.alloc (.cells #[.string ⟨sg.toArray⟩,.string ⟨aa.toArray⟩] 296)) sg aa _ (wr.heap.size+1) (by simp)) (Nat.zero_lt_succ _) ak ?b2 ?_)
   case b2=>have:=HB.out.2;simp;omega
   intro v5 W5 ag ah ar
   have hq:Below wr.heap.size wr (wr.alloc (.cells #[.string ⟨sg.toArray⟩,.string ⟨aa.toArray⟩] 296)):=(Below.refl _ _).alloc (Nat.le_refl _) _
   have al:=el HB hq HO ah
   have am:Hid (Rg.Own encT 1 W5 w.heap.size 9 v5 ((l.take (k+1)).map condT)):=by show Rg.Own _ _ _ _ _ _ _;rw[HS.out];exact ag
   clear ag ah ar hq c0 c1 HO HB
   go_wp2_with fail
   go_roundw
   case rel=>exact⟨k+1,by omega,by go_num,am,al⟩
   case measure=>simp[intOf];omega
  ·obtain rfl:k=n:=by omega
   have an:Hid (Rg.Own encT 1 wr w.heap.size 9 u3 (l.map condT)):=by
    have:=HO.out
    rwa [List.take_of_length_le (by rw[HN.out];exact Nat.le_refl _)] at this
   have ao:Hid ((l.map condT).length<=100000):=by show _<=_;rw[List.length_map,HN.out];omega
   have ap:Hid ((Lib.join (l.map condT) [32,38,32]).length<=1000000):=by
    show _<=_
    have:=qB ae.out
    rw[HN.out] at this
    exact Nat.le_trans this (by omega)
   clear HO
   go_wp2_with fail
   refine (gK [32,38,32] an.out ao.out ap.out).mono ?_
   rintro _ u ⟨rfl,hb⟩
   have aq:Hid (Below w.heap.size w u):=HB.out.1.trans (hb.mono HB.out.2)
   clear hb
   go_wp2_with fail
   go_ret
   exact⟨rfl,aq.out⟩
end
section
open Go.RowKit Rs At
attribute [local go_sem ↓] Go.wp_at_zero Go.wp_at_succ
def ShortT (t:List (List Cond)):Prop:=∀ l∈t,l.length<=10/\Short l
theorem nX {t:List (List Cond)}(h:ShortT t)(hl:t.length<=100):(Lib.join (t.map altT) [32,124,32]).length<=120000:=by
 have:=gL [32,124,32] (t.map altT) 1140 (fun x hx=>by
  obtain⟨l,hl,rfl⟩:=List.mem_map.1 hx
  exact Nat.le_trans (qB (h l hl).2) (by have:=(h l hl).1;omega))
 rw[List.length_map] at this
 have e:[32,124,32].length=3:=rfl
 have h2:t.length*(1140+3)<=100*1143:=Nat.mul_le_mul hl (Nat.le_refl _)
 exact Nat.le_trans this (Nat.le_trans h2 (by decide))
theorem tM (A:Option Addr)(n c:Nat)(t:List (List Cond))(w:World)(hn:t.length=n)(hr:TRow w A t)(hl:n<=100)(hs:ShortT t) :
  Calls Tryz.prog 192 #[.slice A n c] w fun e w'=>e=.returned (.string ⟨(termT t).toArray⟩)/\Below w.heap.size w w':=by
 have HR:=zh hr
 have HN:=zh hn
 have ak:=zh hs
 obtain⟨R,hR⟩:=ex (termT t)
 rw[hR]
 by_cases h0:n=0
 ·subst h0
  have af:Hid (R=noneT):=by show _=_;rw[<-hR];unfold termT;rw[if_pos (List.length_eq_zero_iff.1 hn)]
  clear hr hn hs hR
  go_enter Tryz.func192,Tryz.ntmps192
  go_wp2_with fail
  go_ret
  exact⟨by rw[af.out];rfl,Below.refl _ _⟩
 ·have aD:((n:Int)==0)=false:=by simpa using h0
  have ao:(0:Int)<(n:Int):=by omega
  have af:Hid (Lib.join (t.map altT) [32,124,32]=R):=by
   show _=_;rw[<-hR];unfold termT;rw[if_neg (fun e=>h0 (by rw[<-hn,e];rfl))]
  clear hr hn hs hR h0
  go_enter Tryz.func192,Tryz.ntmps192
  go_wp2_with fail
  go_loopw [3,11] (fun v i wr=>∃ k:Nat,k<=n/\i=.int .i64 k/\Hid (Rg.Own encT 1 wr w.heap.size 9 v ((t.take k).map altT))/\Hid (Below w.heap.size w wr/\w.heap.size<=wr.heap.size)) (fun _ i _=>n-(intOf i).toNat)
  case atStart=>exact⟨0,Nat.zero_le _,rfl,Rg.aB _ _ _,Below.refl _ _,Nat.le_refl _⟩
  case round =>
   obtain⟨k,hk,rfl,HO,HB⟩:=hrel
   by_cases ap:k<n
   ·have ag:k<t.length:=by rw[HN.out];exact ap
    obtain⟨ad,C1,n1,d1,rfl,_,c0,ae,ab⟩:=pw (jM HR.out HB.out.1) k ag
    obtain⟨l,ai⟩:=ex (t[k])
    have HS:=zh (fx altT t k ag _ ai)
    have ac:=ak.out _ (List.getElem_mem ag)
    rw[ai] at ac ae ab
    have aq:n1<=100:=by rw[<-ae];exact Nat.le_trans ac.1 (by decide)
    obtain⟨tk,aj⟩:=ex ((t.take k).map altT)
    have al:tk.length+1<=1000000:=by rw[<-aj,List.length_map,List.length_take];omega
    rw[aj] at HS HO
    have ar:=zh al
    have au:=zh ac.2
    have HM:=zh ae
    have ah:=zh ab
    clear aj ai ac ae ab al
    go_wp2_with fail
    refine (wm C1 n1 d1 l _ HM.out ah.out aq au.out).mono ?_
    rintro _ u2 ⟨rfl,hb⟩
    have aa:=zh hb
    clear hb c0
    go_wp2_with (at_builtin;refine Rg.aN sliceTx rfl (.tmp 15) (.tmp 18) rfl w.heap.size _ tk [altT l] rfl (Rg.own_below HO.out (aa.out.alloc aa.out.size _)) _ _ rfl (Rg.az u2 _ _ _ (by rfl)) (Nat.zero_lt_succ _) ar.out ?b2 ?_)
    case b2=>have:=HB.out.2;have:=aa.out.size;simp;omega
    intro v5 W5 am an aC
    have av:=el HB aa.out HO an
    have aw:Hid (Rg.Own encT 1 W5 w.heap.size 9 v5 ((t.take (k+1)).map altT)):=by show Rg.Own _ _ _ _ _ _ _;rw[HS.out];exact am
    clear am an aC HO HB aa
    go_wp2_with fail
    go_roundw
    case rel=>exact⟨k+1,by omega,by go_num,aw,av⟩
    case measure=>simp[intOf];omega
   ·obtain rfl:k=n:=by omega
    have ax:Hid (Rg.Own encT 1 wr w.heap.size 9 u3 (t.map altT)):=by
     have:=HO.out
     rwa [List.take_of_length_le (by rw[HN.out];exact Nat.le_refl _)] at this
    have ay:Hid ((t.map altT).length<=100000):=by show _<=_;rw[List.length_map,HN.out];omega
    have aA:Hid ((Lib.join (t.map altT) [32,124,32]).length<=1000000):=Nat.le_trans (nX ak.out (by rw[HN.out];exact hl)) (by decide)
    clear HO
    go_wp2_with fail
    refine (gK [32,124,32] ax.out ay.out aA.out).mono ?_
    rintro _ u ⟨rfl,hb⟩
    rw[af.out]
    have aa:Hid (Below w.heap.size w u):=HB.out.1.trans (hb.mono HB.out.2)
    clear hb
    go_wp2_with fail
    go_ret
    exact⟨rfl,aa.out⟩
theorem xB {v:List UInt8}(h:Rs.Own v):v.length<=40:=(Vm.cI h.1).1
theorem wo {l:List Sp}(h:checkR l=0):ShortT (termOf l):=fun x hx=>by
 obtain⟨s,hs,rfl⟩:=List.mem_map.1 hx
 refine⟨Nat.le_trans (il s) (by decide),fun c hc=>?_⟩
 obtain⟨i,hi,he,ho⟩:=tG ((mh h).2.2 s hs) c hc
 have:=xB ho
 have hsg:(sgnT i).length<=10:=by
  match i,hi with
  | 0,_=>decide
  | 1,_=>decide
  | 2,_=>decide
  | 3,_=>decide
  | 4,_=>decide
  | 5,_=>decide
 rw[he];exact⟨hsg,by omega⟩
theorem jb (a b:ByteArray)(h:a.size+b.size<=1000000):∀ W:World,(Op.stringOp .add a b).run Tryz.prog W=.ok (.string (a++b)) W:=fun W=>run_string_add_sum W a b (by omega)
theorem acP (name T:List UInt8):(({ data:=name.toArray }:ByteArray)++{ data:=#[32,40] }++{ data:=T.toArray }++{ data:=#[41] })={ data:=(name++32 :: 40 :: (T++[41])).toArray }:=by
 have h:=cat3 name [32,40] T
 rw[h,ByteArray.mk_append_mk]
 simp
theorem tN (name:List UInt8)(A:Option Addr)(n c:Nat)(l:List Sp)(w:World)(hw:MaxOk w)(hm:name.length<=100)(hn:l.length=n)(hr:SRow w A l)(hl:n<=64)(hk:checkR l=0) :
  Calls Tryz.prog 152 #[.agg #[.string ⟨name.toArray⟩,.slice A n c]] w fun e w'=>e=.returned (.string ⟨(textA ⟨name,l⟩).toArray⟩)/\Below w.heap.size w w':=by
 obtain⟨R,hR⟩:=ex (textA ⟨name,l⟩)
 rw[hR]
 obtain⟨b,hb⟩:=ex w.heap.size
 obtain⟨W1,ai⟩:=ex (w.alloc (.cells #[.string ⟨name.toArray⟩,.slice A n c] 51))
 have aa:Hid (Bx2 b name A n c W1):=by rw[<-ai,<-hb];exact dk w name A n c _
 have ac:Hid (Below w.heap.size w W1):=by rw[<-ai];exact (Below.refl _ _).alloc (Nat.le_refl _) _
 have ab:b<W1.heap.size:=by rw[<-ai,<-hb];simp
 have aB:Hid (SRow W1 A l):=ao hr ac.out
 have HN:=zh hn
 obtain⟨sm,ad⟩:=ex (decide (l=allR.map spOf))
 have aC:=zh ad
 have aj:Hid (sm=true->R=name):=fun h=>by rw[<-hR];unfold textA;rw[if_pos (by rw[h] at ad;exact of_decide_eq_true ad)]
 have ak:Hid (sm=false->R=name++32 :: 40 :: (termT (termOf l)++[41])):=fun h=>by rw[<-hR];unfold textA;rw[if_neg (by rw[h] at ad;exact of_decide_eq_false ad)]
 have an:=zh (wo hk)
 have aD:(termT (termOf l)).length<=120000:=by
  unfold termT
  split
  ·decide
  ·exact nX an.out (by show (l.map conds).length<=100;rw[List.length_map];omega)
 obtain⟨k0,k1⟩:=aa.out
 have aE:Hid (MaxOk W1):=ag hw ac.out
 clear hr hn hR hk ad hw
 go_enter Tryz.func152,Tryz.ntmps152
 go_wp2_with fail
 clear hb ai
 have ap:Hid (St W1 W1.drew [⟨A,n,l⟩]):=⟨aE.out,(Below.refl _ _).drew,fun x hx=>by rw[List.mem_singleton.1 hx];exact⟨ao aB.out (Below.refl _ _).drew,HN.out⟩⟩
 go_region_held3 (fun w'=>w'.cell? ⟨b,0,none⟩=some (.string ⟨name.toArray⟩)/\w'.cell? ⟨b,1,none⟩=some (.slice A n c))
  (first
   | exact aR aa.out ab ap.out.2.1
   | exact aR aa.out ab ae.out.2.1
   | exact aR aa.out ab af.out.2.1)
  (first
   | (go_at_call 136;refine (zd ap.out allR rfl).mono ?_;rintro _ u2 ⟨C,m2,d,rfl,hs⟩;have ae:=zh hs;have aq:m2=1:=(aI hs 0 rfl).2.symm;have al:=zh aq;clear hs aq)
   | (go_at_call 135;refine (aaD ae.out 1 0 rfl rfl (by omega) (by rw[al.out];decide) _ _ sm aC.out).mono ?_;rintro _ u3 ⟨rfl,hs⟩;have af:=zh hs;clear hs))
 have ah:Hid (St W1 u3 [⟨A,n,l⟩]):=acM af.out
 have aF:=zh (aR aa.out ab ah.out.2.1)
 clear k0 k1
 obtain⟨k0,k1⟩:=aF.out
 cases sm
 ·have HT:=zh (ak.out rfl)
  obtain⟨T,hT⟩:=ex (termT (termOf l))
  rw[hT] at aD HT
  have aG:=zh hT
  have q1:=jb { data:=name.toArray } { data:=#[32,40] } (by show name.toArray.size+2<=_;rw[List.size_toArray];omega)
  have q2:=jb ({ data:=name.toArray }++{ data:=#[32,40] }) { data:=T.toArray } (by rw[ByteArray.size_append];show name.toArray.size+2+T.toArray.size<=_;rw[List.size_toArray,List.size_toArray];omega)
  have q3:=jb ({ data:=name.toArray }++{ data:=#[32,40] }++{ data:=T.toArray }) { data:=#[41] } (by rw[ByteArray.size_append,ByteArray.size_append];show name.toArray.size+2+T.toArray.size+1<=_;rw[List.size_toArray,List.size_toArray];omega)
  clear ak aj ae af al hT
  go_wp2_with fail
  have am:Hid (St W1 u3.drew [⟨A,n,l⟩]):=dj ah.out (Below.refl _ _).drew
  go_region_held3 (fun w'=>w'.cell? ⟨b,0,none⟩=some (.string ⟨name.toArray⟩)/\w'.cell? ⟨b,1,none⟩=some (.slice A n c))
   (first
    | exact aR aa.out ab am.out.2.1
    | exact aR aa.out ab ar.out.2.1
    | exact aR aa.out ab av.out.2.1)
   (first
    | (go_at_call 191;refine (jN A n c l _ HN.out (aI am.out 0 rfl).1 (by omega)).mono ?_;rintro _ u6 ⟨C6,n6,d6,rfl,aw,ax,ay⟩;have ar:=zh (dj am.out ay);have au:=zh aw;have aH:=zh ax;clear aw ax ay)
    | (go_at_call 192;refine (tM C6 n6 d6 (termOf l) _ au.out aH.out (by rw[<-au.out];show (l.map conds).length<=100;rw[List.length_map,HN.out];omega) an.out).mono ?_;rintro _ u7 ⟨rfl,az⟩;rw[aG.out];have av:=zh (dj ar.out az);clear az))
  go_wp2_with fail
  go_ret
  rw[HT.out]
  exact⟨congrArg (fun x=>Ending.returned (Value.string x)) (acP name T),ac.out.trans (av.out.2.1.mono ac.out.size)⟩
 ·have HT:=zh (aj.out rfl)
  clear ak aj ae af al
  go_wp2_with fail
  refine (a6 name _ (by omega)).mono ?_
  rintro _ u5 ⟨rfl,aA⟩
  have aJ:Hid (Below w.heap.size w u5):=ac.out.trans ((ah.out.2.1.trans (aA.mono ah.out.2.1.size)).mono ac.out.size)
  clear aA
  go_wp2_with fail
  go_ret
  rw[HT.out]
  exact⟨rfl,aJ.out⟩
end
section
open Go.RowKit Rs At
theorem px {l:List UInt8}{c:UInt8}(h:∀ b∈l,b.toNat<128)(hc:128<=c.toNat):Lib.indexByte l c = -1:=by
 induction l with
 | nil=>rfl
 | cons b l ih =>
  have hb:(b==c)=false:=by
   refine beq_eq_false_iff_ne.2 fun e=>?_
   have:=h b (by simp)
   rw[e] at this;omega
  rw[Lib.indexByte,hb,ih (fun x hx=>h x (by simp[hx]))]
  simp
def sp3:List UInt8:=[32,40,41]
theorem lK:∀ b∈sp3,b.toNat<128:=by decide
theorem afz:∀ i:Nat,∀ h:i<(⟨sp3.toArray⟩:ByteArray).size,((⟨sp3.toArray⟩:ByteArray)[i]'h).toNat<128/\((⟨sp3.toArray⟩:ByteArray)[i]'h).toNat≠65533:=by
 intro i h
 have:((⟨sp3.toArray⟩:ByteArray)[i]'h)∈sp3:=by
  have:((⟨sp3.toArray⟩:ByteArray)[i]'h)=sp3[i]'h:=rfl
  rw[this];exact List.getElem_mem _
 have:=lK _ this
 omega
theorem acQ:(⟨sp3.toArray⟩:ByteArray).size=3:=rfl
theorem aew:∀ b∈((⟨#[32,40,41]⟩:ByteArray).extract 2 3).data.toList,b.toNat<128:=fun b hb=>lK b (mem_extract (s:=⟨#[32,40,41]⟩) hb)
theorem aex:∀ b∈ByteArray.empty.data.toList,b.toNat<128:=fun b hb=>by simp at hb
theorem rE (w:World) :
  Calls Tryz.prog 233 #[.string ⟨#[32,40,41]⟩,.int .i32 65533] w fun e w'=>e=.returned (.int .i64 (-1))/\Below w.heap.size w w':=by
 go_enter Tryz.func233,Tryz.ntmps233
 go_wp2_with fail
 go_loopg [5,6] 3 (fun g _ _ wx=>∃ i:Nat,i+g=3/\wx=w.iter ⟨#[32,40,41]⟩ i)
 case atStart=>exact⟨0,by omega,rfl⟩
 case round =>
  obtain⟨i,ac,rfl⟩:=hrel
  cases gk with
  | zero =>
   obtain rfl:i=3:=by omega
   have aa:=fun ty=>run_next_end (P:=Tryz.prog) w ⟨#[32,40,41]⟩ 3 ty (by decide)
   go_wp2_with fail
   go_ret
   exact⟨rfl,(Below.refl _ _).alloc (Nat.le_refl _) _⟩
  | succ g =>
   have hi:i<(⟨sp3.toArray⟩:ByteArray).size:=by rw[acQ];omega
   obtain⟨x,hx⟩:∃ x:UInt8,(⟨sp3.toArray⟩:ByteArray)[i]'hi=x:=⟨_,rfl⟩
   obtain⟨h1,h2⟩:=afz i hi
   have aa:=fun ty=>run_next_ascii (P:=Tryz.prog) w ⟨sp3.toArray⟩ i ty hi h1
   rw[hx] at aa h1 h2
   rw[show (⟨sp3.toArray⟩:ByteArray)=⟨#[32,40,41]⟩ from rfl] at aa
   have ab:((x.toNat:Int)==65533)=false:=beq_eq_false_iff_ne.2 (by omega)
   clear hx
   go_wp2_with fail
   go_roundg g
   case measure=>omega
   case rel=>exact⟨i+1,by omega,rfl⟩
theorem py (r:Int)(w:World)(h0:128<=r)(hr:r≠65533) :
  Calls Tryz.prog 233 #[.string ⟨#[32,40,41]⟩,.int .i32 r] w fun e w'=>e=.returned (.int .i64 (-1))/\Below w.heap.size w w':=by
 have ap:(r==65533)=false:=beq_eq_false_iff_ne.2 hr
 have aq:¬ r<128:=by omega
 have ar:(0:Int)<=r:=by omega
 cases hv:Lib.validRune r
 ·go_enter Tryz.func233,Tryz.ntmps233
  go_wp2_with fail
  refine (Tryz.utf8_ValidRune r _).mono ?_
  rintro e w' ⟨rfl,hw⟩;rw[hw,hv]
  go_wp2_with fail
  go_ret
  exact⟨rfl,Below.refl _ _⟩
 ·obtain⟨f1,f2,f3⟩:=encode_facts r (by rw[validRune_eq];exact hv) h0
  obtain⟨rs,ad⟩:=ex (Utf8.encode r)
  rw[ad] at f1 f2 f3
  obtain⟨n,hn⟩:∃ n:Nat,rs.size=n:=⟨_,rfl⟩
  have ab:rs.size-1<rs.size:=by omega
  obtain⟨c,hc⟩:∃ c:UInt8,rs[rs.size-1]'ab=c:=⟨_,rfl⟩
  have aa:=f3 ab
  rw[hc] at aa
  obtain⟨L,hL⟩:=ex rs.data.toList
  obtain rfl:rs=⟨L.toArray⟩:=by rw[<-hL]
  have af:L.length=n:=by rw[<-hn];rfl
  obtain⟨k,rfl⟩:∃ k:Nat,n=k+1:=⟨n-1,by omega⟩
  have au:k<=3:=by omega
  have av:1<=k:=by omega
  have ag:k<L.length:=by omega
  obtain⟨d,hd,ai⟩:=byte_at L k ag
  obtain rfl:d=c:=by
   rw[<-ai,<-hc]
   show L[k]=L[L.toArray.size-1]
   congr 1
   simp;omega
  have aw:∀ w,(convert 21 9 (.int .i32 r)).run Tryz.prog w=.ok (.string ⟨L.toArray⟩) w:=fun w=>by rw[run_convert_int_string w _ _ _ _ (by rw[Tryz.underlying21];rfl) Tryz.underlying9,ad]
  have ax:((L.length:Int))-1=(k:Int):=by omega
  have ay:IntKind.i64.wrap (k:Int)=k:=wrap_small _ (by omega) (by omega)
  have aj:IntKind.i64.wrap ((k:Int)+1)=((k+1:Nat):Int):=by rw[show (k:Int)+1=((k+1:Nat):Int) by omega];exact wrap_small _ (by omega) (by omega)
  have HL:=zh af
  clear hc ab f3 f1 f2 hn hL ad af ai
  go_enter Tryz.func233,Tryz.ntmps233
  go_wp2_with fail
  refine (Tryz.utf8_ValidRune r _).mono ?_
  rintro e w' ⟨rfl,hw⟩;rw[hw,hv]
  go_wp2_with fail
  go_step3
  go_wp2_with fail
  go_loopw [9] (fun i wx=>i=.int .i64 k/\wx=w) (fun _ _=>0)
  case atStart=>exact⟨rfl,rfl⟩
  case round =>
   obtain⟨rfl,rfl⟩:=hrel
   by_cases az:k<3
   ·have ah:Hid (∀ t:ByteArray,(∀ b∈t.data.toList,b.toNat<128)->Lib.indexByte t.data.toList (d.toNat:Int).toNat.toUInt8 = -1):=fun t ht=>px ht (by simpa using aa)
    have HD:Hid (∃ h:k<(⟨L.toArray⟩:ByteArray).size,(⟨L.toArray⟩:ByteArray)[k]'h=d):=⟨ag,hd⟩
    obtain rfl | rfl:k=1\/k=2:=by omega
    ·obtain⟨y,hy⟩:∃ y:UInt8,(⟨#[32,40,41]⟩:ByteArray)[1]'(by decide)=y:=⟨_,rfl⟩
     have ac:y.toNat=40:=by rw[<-hy];rfl
     have ak:((y.toNat:Int) != (d.toNat:Int))=true:=bne_iff_ne.2 (by omega)
     clear ac
     have al:IntKind.i64.wrap 2=2:=by decide
     go_wp2_with fail
     go_step3
     go_wp2_with fail
     go_quiet (fail)
     go_wp2_with fail
     obtain⟨ae,ao⟩:=HD.out
     have am:1<L.length:=ae
     have an:(1:Int)<(L.length:Int):=by omega
     go_quiet (first |  (refine (Tryz.strings_IndexByte _ _ _).mono ?_;rintro e5 w5 ⟨rfl,h5⟩;rw[ah.out _ aew];exact⟨rfl,_,h5⟩) | fail)
     go_wp2_with fail
     rw[Exit.noGoto_ret]
     show Exit.noGoto (Exit.inBlock 0 _) Exit.ret _ _
     simp only[Exit.inBlock,Exit.then,Exit.noGoto_ret]
     go_ret
     exact⟨rfl,below_drewN (Below.refl _ _) _⟩
    ·obtain⟨y,hy⟩:∃ y:UInt8,(⟨#[32,40,41]⟩:ByteArray)[2]'(by decide)=y:=⟨_,rfl⟩
     have ac:y.toNat=41:=by rw[<-hy];rfl
     have ak:((y.toNat:Int) != (d.toNat:Int))=true:=bne_iff_ne.2 (by omega)
     clear ac
     have al:IntKind.i64.wrap 3=3:=by decide
     go_wp2_with fail
     go_step3
     go_wp2_with fail
     go_quiet (fail)
     go_wp2_with fail
     obtain⟨ae,ao⟩:=HD.out
     have am:2<L.length:=ae
     have an:(2:Int)<(L.length:Int):=by omega
     go_quiet (first |  (refine (Tryz.strings_IndexByte _ _ _).mono ?_;rintro e5 w5 ⟨rfl,h5⟩;rw[ah.out _ aex];exact⟨rfl,_,h5⟩) | fail)
     go_wp2_with fail
     rw[Exit.noGoto_ret]
     show Exit.noGoto (Exit.inBlock 0 _) Exit.ret _ _
     simp only[Exit.inBlock,Exit.then,Exit.noGoto_ret]
     go_ret
     exact⟨rfl,below_drewN (Below.refl _ _) _⟩
   ·obtain rfl:k=3:=by omega
    go_wp2_with fail
    rw[Exit.noGoto_ret]
    go_ret
    exact⟨rfl,Below.refl _ _⟩
theorem rF (r:Int)(w:World)(h0:128<=r) :
  Calls Tryz.prog 233 #[.string ⟨#[32,40,41]⟩,.int .i32 r] w fun e w'=>e=.returned (.int .i64 (-1))/\Below w.heap.size w w':=by
 by_cases h:r=65533
 ·subst h;exact rE w
 ·exact py r w h0 h
theorem wu (s:ByteArray)(pos j:Nat)(h1:pos<j)(h2:j<pos+(Utf8.decode s pos).2):128<=(s.get! j).toNat:=by
 have key:∀ k,j=pos+k->(s.get! (pos+k)).toNat / 64=2->128<=(s.get! j).toNat:=fun k e h=>by rw[e];omega
 simp only[Utf8.decode] at h2
 split at h2
 ·simp at h2;omega
 split at h2
 ·rename_i h
  simp at h
  split at h2
  ·simp at h2;exact key 1 (by omega) h.2.2
  ·simp at h2;omega
 split at h2
 ·rename_i h
  simp at h
  split at h2
  ·simp at h2
   rcases (show j=pos+1\/j=pos+2 by omega) with e | e
   ·exact key 1 e h.1.2.2
   ·exact key 2 e h.2.2
  ·simp at h2;omega
 split at h2
 ·rename_i h
  simp at h
  split at h2
  ·simp at h2
   rcases (show j=pos+1\/j=pos+2\/j=pos+3 by omega) with e | e | e
   ·exact key 1 e h.1.1.2.2
   ·exact key 2 e h.1.2.2
   ·exact key 3 e h.2.2
  ·simp at h2;omega
 ·simp at h2;omega
theorem qC (x:UInt8):Lib.indexByte (⟨#[32,40,41]⟩:ByteArray).data.toList x=Lib.indexByte sp3 x:=rfl
def It (w:World) (s:ByteArray) (i:Nat) (wx:World):Prop:=wx.heap[w.heap.size]?=some (.stringIter s i)/\Below w.heap.size w wx
theorem acR (w:World)(s:ByteArray):It w s 0 (w.iter s 0):=⟨World.iter_heap w s 0,(Below.refl _ _).alloc (Nat.le_refl _) _⟩
theorem acS {w wx wy:World}{s:ByteArray}{i:Nat}(h:It w s i wx)(hb:Below wx.heap.size wx wy):It w s i wy:=by
 have aa:w.heap.size<wx.heap.size:=by
  obtain⟨hh,_⟩:=Array.getElem?_eq_some_iff.1 h.1
  exact hh
 exact⟨by rw[hb.block _ aa];exact h.1,h.2.trans (hb.mono h.2.size)⟩
theorem aey {w wx:World}{s:ByteArray}{pos:Nat}(h:It w s pos wx)(hp:pos<s.size):∃ W,It w s (pos+(Utf8.decode s pos).2) W /\
  ∀ ty:TypeId,(Instr.next (.pointer (some ⟨w.heap.size,0,none⟩)) true ty).run Tryz.prog wx=.ok (.tuple #[.bool true,.int .i64 pos,.int .i32 (Utf8.decode s pos).1]) W:=by
 have aa:w.heap.size<wx.heap.size:=by
  obtain⟨hh,_⟩:=Array.getElem?_eq_some_iff.1 h.1
  exact hh
 refine⟨{ wx with heap:=wx.heap.setIfInBounds w.heap.size (.stringIter s (pos+(Utf8.decode s pos).2)) },⟨?_,h.2.trans ⟨rfl,rfl,rfl,?_,?_⟩⟩,fun ty=>?_⟩
 ·show (wx.heap.setIfInBounds _ _)[_]?=_
  rw[Array.getElem?_setIfInBounds_self_of_lt aa]
 ·show _<=(wx.heap.setIfInBounds _ _).size
  simp
 ·intro i hi
  show (wx.heap.setIfInBounds _ _)[i]?=_
  rw[Array.getElem?_setIfInBounds_ne (by omega)]
 ·simp only[Instr.next,getObj,setObj,Sem.run_bind,Sem.run,h.1,Result.andThen,hp,if_true]
  rfl
theorem afA {w wx:World}{s:ByteArray}{pos:Nat}(h:It w s pos wx)(hp:¬ pos<s.size)(ty:TypeId) :
  (Instr.next (.pointer (some ⟨w.heap.size,0,none⟩)) true ty).run Tryz.prog wx=.ok (.tuple #[.bool false]) wx:=by
 simp[Instr.next,getObj,Sem.run,h.1,hp]
theorem zj {s:List UInt8}{i k:Nat}(h:Lib.NoAny s sp3 i)(hx:∀ j b,i<=j->j<i+k->s[j]?=some b->128<=b.toNat):Lib.NoAny s sp3 (i+k):=by
 intro j b hj hb
 by_cases h1:j<i
 ·exact h j b h1 hb
 ·have h2:=hx j b (by omega) hj hb
  cases hc:sp3.contains b with
  | false=>rfl
  | true =>
   have:=lK b (by simpa using hc)
   omega
theorem nY (s:List UInt8)(w:World)(h8:s.length<=8) :
  Calls Tryz.prog 199 #[.string ⟨s.toArray⟩,.string ⟨#[32,40,41]⟩] w fun e w'=>e=.returned (.int .i64 (Lib.indexAny s sp3))/\Below w.heap.size w w':=by
 obtain⟨S,hS⟩:=ex (⟨s.toArray⟩:ByteArray)
 have hz:S.size=s.length:=by rw[<-hS];rfl
 have HD:Hid (∀ i (h:i<S.size),s[i]?=some (S[i]'h)):=by
  subst hS
  intro i h
  exact List.getElem?_eq_getElem (l:=s) h
 have HZ:=zh hz
 obtain⟨K,hK⟩:=ex (Lib.indexAny s sp3)
 rw[hS,hK]
 have HK:=zh hK
 have ai:decide ((8:Int)<(S.size:Int))=false:=decide_eq_false (by omega)
 clear hS hK hz
 go_enter Tryz.func199,Tryz.ntmps199
 go_wp2_with fail
 refine (Tryz.strings_shouldUseASCIISet _ _).mono ?_
 rintro e w' ⟨rfl,hw⟩;rw[hw,ai]
 go_wp2_with fail
 go_loopg [9,10] S.size (fun g _ _ wx=>∃ i:Nat,g=S.size-i/\Hid (It w S i wx)/\Hid (Lib.NoAny s sp3 i))
 case atStart=>exact⟨0,rfl,acR w S,Lib.NoAny.zero _ _⟩
 case round =>
  obtain⟨i,hg,HI,HN⟩:=hrel
  subst hg
  by_cases hi:i<S.size
  ·obtain⟨W,hW,ae⟩:=aey HI.out hi
   obtain⟨x,hx⟩:∃ x:UInt8,S[i]'hi=x:=⟨_,rfl⟩
   have ag:s[i]?=some x:=by rw[HD.out i hi,hx]
   by_cases ha:x.toNat<128
   ·rw[decode_ascii S i hi (by rw[hx];exact ha),hx] at hW ae
    dsimp only at hW ae
    have HW:=zh hW
    have HX:=zh ag
    have ac:Hid (i<S.size):=hi
    have aa:=Lib.contains_iff_indexByte sp3 x
    have ab:((x.toNat:Int)).toNat.toUInt8=x:=by simp
    clear hx ag hW hi
    cases ad:sp3.contains x
    ·rw[ad] at aa
     have al:¬ ((0:Int)<=Lib.indexByte sp3 x):=of_decide_eq_false aa.symm
     have ah:=zh (HN.out.succ HX.out ad)
     clear aa ad
     go_wp2_with fail
     refine (Tryz.strings_IndexRune_ascii _ _ _ (by omega) (by omega)).mono ?_
     rintro e w' ⟨rfl,hw⟩;rw[hw,ab,qC]
     go_wp2_with fail
     go_roundg (S.size-(i+1))
     case measure=>have:=ac.out;omega
     case rel=>exact⟨i+1,rfl,HW.out,ah.out⟩
    ·rw[ad] at aa
     have am:(0:Int)<=Lib.indexByte sp3 x:=of_decide_eq_true aa.symm
     have aj:Hid ((i:Int)=K):=by show _=_;rw[<-HK.out,Lib.indexAny_hit HN.out HX.out ad]
     clear aa ad
     go_wp2_with fail
     refine (Tryz.strings_IndexRune_ascii _ _ _ (by omega) (by omega)).mono ?_
     rintro e w' ⟨rfl,hw⟩;rw[hw,ab,qC]
     go_wp2_with fail
     go_ret
     exact⟨by first | rfl | (rw[<-aj.out];rfl),HW.out.2⟩
   ·obtain⟨hc,hk⟩:=decode_high S i hi (by rw[hx];omega)
    have af:Lib.NoAny s sp3 (i+(Utf8.decode S i).2):=zj HN.out (fun j b h1 h2 hb=>by
     have hj:j<S.size:=by rw[HZ.out];exact (List.getElem?_eq_some_iff.1 hb).1
     have e:=HD.out j hj
     rw[hb] at e
     cases e
     by_cases ak:j=i
     ·subst ak;rw[hx];omega
     ·have:=wu S i j (by omega) h2
      rw[show S.get! j=S[j] by simp[ByteArray.get!,getElem!_pos,hj];rfl] at this
      exact this)
    obtain⟨⟨c,k⟩,hd⟩:∃ p,Utf8.decode S i=p:=⟨_,rfl⟩
    rw[hd] at hW ae hc hk af
    dsimp only at hW ae hc hk af
    have HW:=zh hW
    have ah:=zh af
    have ac:Hid (i<S.size/\1<=k/\128<=c):=⟨hi,hk,hc⟩
    clear hx ag hW hi hd af hc hk ha
    go_wp2_with fail
    refine (rF _ _ (by have:=ac.out.2.2;omega)).mono ?_
    rintro e w' ⟨rfl,hb⟩
    have HB:=zh (acS HW.out hb)
    clear hb
    go_wp2_with fail
    go_roundg (S.size-(i+k))
    case measure=>have:=ac.out;omega
    case rel=>exact⟨i+k,rfl,HB.out,ah.out⟩
  ·have ae:=afA HI.out hi
   have ac:Hid (¬ i<S.size):=hi
   clear hi
   go_wp2_with fail
   go_ret
   exact⟨by rw[<-HK.out,Lib.indexAny_none (fun j b hj hb=>HN.out j b (by have:=ac.out;have:=HZ.out;omega) hb)];rfl,HI.out.2⟩
theorem aaJ:∀ (j:Nat) b,(⟨#[32,40,41]⟩:ByteArray).data.toList[j]?=some b->b.toNat<128:=fun _j b h=>lK b (List.mem_of_getElem? (l:=sp3) h)
theorem rG (s:List UInt8)(w:World)(hs:s.length<=1000000) :
  Calls Tryz.prog 199 #[.string ⟨s.toArray⟩,.string ⟨#[32,40,41]⟩] w fun e w'=>e=.returned (.int .i64 (Lib.indexAny s sp3))/\Below w.heap.size w w':=by
 by_cases h8:s.length<=8
 ·exact nY s w h8
 ·refine (Tryz.strings_IndexAny_long (fun _=>by kernel_rfl) ⟨s.toArray⟩ ⟨#[32,40,41]⟩ w (by decide) (by show 8<s.length;omega) (by show s.length<_;omega) (by decide) aaJ).mono ?_
  rintro e w' ⟨rfl,rfl⟩
  exact⟨rfl,((Below.refl _ _).alloc (Nat.le_refl _) _).alloc (by simp) _⟩
theorem gM (s:List UInt8)(w:World)(hs:s.length<=1000000) :
  Calls Tryz.prog 317 #[.string ⟨s.toArray⟩,.string ⟨#[32,40,41]⟩] w fun e w'=>e=.returned (.bool (s.any sp3.contains))/\Below w.heap.size w w':=by
 have aa:decide ((0:Int)<=Lib.indexAny s sp3)=s.any sp3.contains:=by
  induction s with
  | nil=>rfl
  | cons b l ih =>
   have hl:=ih (by simp at hs;omega)
   have hg:=Lib.indexAny_ge sp3 l
   rw[List.any_cons,<-hl,Lib.indexAny]
   cases hc:sp3.contains b
   ·simp only[Bool.false_eq_true,if_false,Bool.false_or,decide_eq_decide]
    split <;> simp_all <;> omega
   ·simp
 obtain⟨K,hK⟩:=ex (s.any sp3.contains)
 rw[hK] at aa ⊢
 have HA:=zh aa
 clear aa hK
 go_enter Tryz.func317,Tryz.ntmps317
 go_wp2_with fail
 refine (rG s _ hs).mono ?_
 rintro e w' ⟨rfl,hb⟩
 have HB:=zh hb
 clear hb
 go_wp2_with fail
 go_ret
 exact⟨by rw[<-HA.out];rfl,HB.out⟩
end
section
open Go.RowKit Rs At
theorem acT (s:List UInt8):wordB s=(!s.isEmpty&&!(s.any sp3.contains)):=by
 unfold wordB
 congr 1
 induction s with
 | nil=>rfl
 | cons b l ih =>
  rw[List.all_cons,List.any_cons,ih,Bool.not_or]
  congr 1
  unfold wordC sp3
  simp only[List.contains_cons,List.contains_nil,Bool.or_false]
theorem iq (s:List UInt8)(w:World)(hs:s.length<=1000000) :
  Calls Tryz.prog 308 #[.string ⟨s.toArray⟩] w fun e w'=>e=(if wordB s then .returned (.tuple #[]) else pan 2)/\Below w.heap.size w w':=by
 rw[acT]
 cases he:s.isEmpty
 ·cases ha:s.any sp3.contains
  ·go_enter Tryz.func308,Tryz.ntmps308
   go_wp2_with fail
   refine (gM s _ hs).mono ?_
   rintro _ u ⟨rfl,hb⟩
   rw[ha]
   go_wp2_with fail
   refine (ak _).mono ?_
   rintro _ u2 ⟨rfl,rfl⟩
   go_wp2_with fail
   go_end0
   exact⟨rfl,hb⟩
  ·go_enter Tryz.func308,Tryz.ntmps308
   go_wp2_with fail
   refine (gM s _ hs).mono ?_
   rintro _ u ⟨rfl,hb⟩
   rw[ha]
   go_wp2_with fail
   refine (au _).mono ?_
   rintro _ u2 ⟨rfl,rfl⟩
   go_wp2_with fail
   exact⟨rfl,rfl,hb⟩
 ·go_enter Tryz.func308,Tryz.ntmps308
  go_wp2_with fail
  refine (au _).mono ?_
  rintro _ u2 ⟨rfl,rfl⟩
  go_wp2_with fail
  exact⟨rfl,rfl,Below.refl _ _⟩
theorem acU (s:List UInt8):ofE s [48]=if signB s then 0 else 2:=by
 unfold ofE signB
 cases sgnOf s with
 | none=>rfl
 | some i=>show Vm.check [48]=0;decide
theorem ir (s:List UInt8)(w:World)(hw:MaxOk w) :
  Calls Tryz.prog 341 #[.string ⟨s.toArray⟩] w fun e w'=>e=(if signB s then .returned (.tuple #[]) else pan 2)/\Below w.heap.size w w':=by
 have hk:=acU s
 cases hb:signB s
 ·rw[hb] at hk
  have HK:Hid (ofE s [48]=2):=hk
  clear hk
  go_enter Tryz.func341,Tryz.ntmps341
  go_wp2_with fail
  refine (tE s [48] _ hw).mono ?_
  rintro _ u ⟨⟨C,d,rfl,_,_⟩,aa⟩
  rw[HK.out]
  go_wp2_with fail
  refine (au _).mono ?_
  rintro _ u2 ⟨rfl,rfl⟩
  go_wp2_with fail
  exact⟨rfl,rfl,aa⟩
 ·rw[hb] at hk
  have HK:Hid (ofE s [48]=0):=hk
  clear hk
  go_enter Tryz.func341,Tryz.ntmps341
  go_wp2_with fail
  refine (tE s [48] _ hw).mono ?_
  rintro _ u ⟨⟨C,d,rfl,_,_⟩,aa⟩
  rw[HK.out]
  go_wp2_with fail
  refine (ak _).mono ?_
  rintro _ u2 ⟨rfl,rfl⟩
  go_wp2_with fail
  go_end0
  exact⟨rfl,aa⟩
theorem xE (c:UInt8)(s:List UInt8)(w:World)(hm:MaxOk w)(hl:s.length<=1000000) :
  Calls Tryz.prog 122 #[.string ⟨s.toArray⟩,.string ⟨#[c]⟩] w fun e w'=>e=.returned (.tuple #[.string ⟨(Vm.fst c s).toArray⟩,.string ⟨(if Vm.has c s then Vm.snd c s else []).toArray⟩,.bool (Vm.has c s)])/\Below w.heap.size w w':=by
 obtain⟨m,hm⟩:=hm
 refine (Tryz.strings_Cut ⟨s.toArray⟩ ⟨#[c]⟩ m w (by show s.length<_;omega) hm).mono fun e w' ⟨h1,n,h2⟩=>⟨?_,h2 ▸ below_drewN (Below.refl _ _) n⟩
 rw[h1]
 have e:Lib.cut (⟨s.toArray⟩:ByteArray).data.toList (⟨#[c]⟩:ByteArray).data.toList=Lib.cut s [c]:=rfl
 rw[e,pf]
 cases h:Vm.has c s
 ·rw[(At.tF (c:=c) (p:=s) (fun hm=>by unfold Vm.has at h;rw[List.contains_iff_mem.2 hm] at h;cases h)).1];rfl
 ·rfl
theorem acV (s:List UInt8)(w:World)(hw:MaxOk w)(h:signB s=true):Calls Tryz.prog 341 #[.string ⟨s.toArray⟩] w fun e w'=>e=.returned (.tuple #[])/\Below w.heap.size w w':=by
 have:=ir s w hw;rw[h] at this;exact this
theorem aez (s:List UInt8)(w:World)(hw:MaxOk w)(h:signB s=false):Calls Tryz.prog 341 #[.string ⟨s.toArray⟩] w fun e w'=>e=pan 2/\Below w.heap.size w w':=by
 have:=ir s w hw;rw[h] at this;exact this
theorem tO (s:List UInt8)(w:World)(hs:s.length<=1000000)(h:wordB s=true):Calls Tryz.prog 308 #[.string ⟨s.toArray⟩] w fun e w'=>e=.returned (.tuple #[])/\Below w.heap.size w w':=by
 have:=iq s w hs;rw[h] at this;exact this
theorem xF (s:List UInt8)(w:World)(hs:s.length<=1000000)(h:wordB s=false):Calls Tryz.prog 308 #[.string ⟨s.toArray⟩] w fun e w'=>e=pan 2/\Below w.heap.size w w':=by
 have:=iq s w hs;rw[h] at this;exact this
def CondR (R:Option Cond) (e:Ending):Prop:=match R with | some c=>e=.returned (.agg #[.string ⟨c.1.toArray⟩,.string ⟨c.2.toArray⟩]) | none=>e=pan 2
def CondOk (w:World) (s:List UInt8) (e:Ending) (w':World):Prop:=CondR (condP s) e/\Below w.heap.size w w'
theorem fy (s:List UInt8)(w:World)(hw:MaxOk w)(hs:s.length<=1000000) :
  Calls Tryz.prog 330 #[.string ⟨s.toArray⟩] w (CondOk w s):=by
 obtain⟨R,hR⟩:=ex (condP s)
 obtain⟨W1,ao⟩:=ex (w.alloc (.cells #[.string ⟨#[]⟩,.string ⟨#[]⟩] 296))
 have ai:Hid (Below w.heap.size w W1):=by rw[<-ao];exact (Below.refl _ _).alloc (Nat.le_refl _) _
 have aj:Hid (MaxOk W1):=ag hw ai.out
 obtain⟨x,hx⟩:=ex (Vm.fst 32 s)
 obtain⟨y,hy⟩:=ex (if Vm.has 32 s then Vm.snd 32 s else [])
 obtain⟨b,hb⟩:=ex (Vm.has 32 s)
 have HR:Hid (R=if signB x&&wordB y then some (x,y) else none):=by
  show _=_
  rw[<-hR,<-hx,<-hy]
  unfold condP
  cases h:Vm.has 32 s
  ·simp[wordB]
  ·simp
 have HY:Hid (y.length<=1000000):=by
  show _<=_
  rw[<-hy]
  split
  ·
   (unfold Vm.snd;rw[List.length_drop];have:=(List.dropWhile_sublist (. != (32:UInt8)) (l:=s)).length_le;omega)
  ·simp
 unfold CondOk
 rw[hR]
 have ah:=xE 32 s W1 aj.out hs
 rw[hx,hy,hb] at ah
 have HC:=zh ah
 clear hR hx hy hb ah hw hs
 go_enter Tryz.func330,Tryz.ntmps330
 go_wp2_with fail
 refine HC.out.mono ?_
 rintro _ u1 ⟨rfl,af⟩
 have ak:Hid (Below w.heap.size w u1):=bt ai.out af
 have al:Hid (MaxOk u1):=ag aj.out af
 have ap:Hid (Below W1.heap.size W1 u1):=af
 clear af
 go_wp2_with fail
 cases aa:signB x
 ·have ac:Hid (R=none):=by show _=_;rw[HR.out,aa];rfl
  refine (aez x _ al.out aa).mono ?_
  clear aa
  rintro _ u2 ⟨rfl,ad⟩
  go_wp2_with fail
  exact⟨rfl,by show CondR R _;rw[ac.out];rfl,bt ak.out ad⟩
 ·refine (acV x _ al.out aa).mono ?_
  rintro _ u2 ⟨rfl,ad⟩
  have am:Hid (Below w.heap.size w u2):=bt ak.out ad
  have aq:Hid (Below W1.heap.size W1 u2):=bt ap.out ad
  have an:=zh aa
  clear ad aa
  go_wp2_with fail
  cases ab:wordB y
  ·have ac:Hid (R=none):=by show _=_;rw[HR.out,an.out,ab];rfl
   refine (xF y _ HY.out ab).mono ?_
   clear ab
   rintro _ u3 ⟨rfl,ae⟩
   go_wp2_with fail
   exact⟨rfl,by show CondR R _;rw[ac.out];rfl,bt am.out ae⟩
  ·have ac:Hid (R=some (x,y)):=by show _=_;rw[HR.out,an.out,ab];rfl
   refine (tO y _ HY.out ab).mono ?_
   clear ab
   rintro _ u3 ⟨rfl,ae⟩
   have ar:Hid (Below w.heap.size w u3):=bt am.out ae
   have au:Hid (Below W1.heap.size W1 u3):=bt aq.out ae
   obtain⟨q0,q1,z0,z1⟩:=cY ao au.out
   clear ae
   go_wp2_with fail
   have e0:((u3.setCell ⟨w.heap.size,0,none⟩ (.string ⟨x.toArray⟩)).setCell ⟨w.heap.size,1,none⟩ (.string ⟨y.toArray⟩)).cell? ⟨w.heap.size,0,none⟩=some (.string ⟨x.toArray⟩):=by simp[go_sem,q0]
   have e1:((u3.setCell ⟨w.heap.size,0,none⟩ (.string ⟨x.toArray⟩)).setCell ⟨w.heap.size,1,none⟩ (.string ⟨y.toArray⟩)).cell? ⟨w.heap.size,1,none⟩=some (.string ⟨y.toArray⟩):=by simp[go_sem,q1]
   refine bodyPost_ret (v:=.agg #[.string ⟨x.toArray⟩,.string ⟨y.toArray⟩]) (by simp[results,Tryz.results330,go_sem,e0,e1]) rfl ⟨?_,?_⟩
   ·show CondR R _;rw[ac.out];rfl
   ·exact (ar.out.setCell (Nat.le_refl _) _).setCell (Nat.le_refl _) _
end
end Go.Proofs.YtgnaiidgjmicaaaGreatDoor

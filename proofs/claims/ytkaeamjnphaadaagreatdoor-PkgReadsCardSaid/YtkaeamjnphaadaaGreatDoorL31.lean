/- Part 31 of what the laws lean on. -/
import Derived.Test.YtkaeamjnphaadaaGreatDoorL30
set_option maxRecDepth 100000
set_option maxHeartbeats 6400000
namespace Go.Proofs.YtkaeamjnphaadaaGreatDoor
section
open Go.RowKit Rs At Pg
attribute [local go_sem ↓] Go.wp_at_zero Go.wp_at_succ
theorem vG (A B:Option Addr)(n m c d:Nat)(l k:List Atm)(w:World)(hn:l.length=n)(hm:k.length=m)(hr:ARow w A l)(hq:ARow w B k)(hl:n<=1000000)(hf:AFew l)(hg:AFew k) :
  Calls Tryz.prog 48 #[.slice A n c,.slice B m d,.func (.func 49) #[] #[]] w fun e w'=>e=.returned (.bool (decide (l=k)))/\Below w.heap.size w w':=by
 obtain⟨X,hX⟩:=ex (decide (l=k))
 rw[hX]
 have HX:=zh hX
 have HR:=zh hr
 have HQ:=zh hq
 have HN:=zh hn
 have HM:=zh hm
 have HF:=zh hf
 have HG:=zh hg
 clear hX hr hq hn hm hf hg
 by_cases hlen:n=m
 ·have hd:((n:Int) != m)=false:=by rw[hlen];simp
  have HL:=zh hlen
  clear hlen
  go_enter Tryz.func48,Tryz.ntmps48
  go_wp2_with fail
  clear hd
  go_loopw [17] (fun i wr=>∃ j:Nat,j<=n/\i=.int .i64 j/\Hid (l.take j=k.take j)/\Hid (Below w.heap.size w wr)) (fun i _=>n-(intOf i).toNat)
  case atStart=>exact⟨0,Nat.zero_le _,rfl,rfl,Below.refl _ _⟩
  case round =>
   obtain⟨j,hj,rfl,HT,HW⟩:=hrel
   by_cases aj:j<n
   ·have ac:j<m:=by have:=HL.out;omega
    have h1:j<l.length:=by rw[HN.out];exact aj
    have h2:j<k.length:=by rw[HM.out];exact ac
    obtain⟨ad,C,x,cx,rfl,hx,hs,hc⟩:=dz HR.out j h1
    obtain⟨ae,C',y,cy,rfl,hy,ht,he⟩:=dz HQ.out j h2
    obtain⟨f1,f2⟩:=fm HF.out j h1
    obtain⟨g1,g2⟩:=fm HG.out j h2
    have aa:Hid (l[j]=k[j]->l.take (j+1)=k.take (j+1)):=fun q=>by
     rw[List.take_succ_eq_append_getElem h1,List.take_succ_eq_append_getElem h2,HT.out,q]
    have ab:Hid (l[j]≠k[j]->X=false):=fun q=>by
     rw[<-HX.out];exact decide_eq_false fun h=>q (by subst h;rfl)
    obtain⟨a,ha⟩:=ex (l[j])
    obtain⟨b,hb⟩:=ex (k[j])
    rw[ha] at hx hs f2
    rw[hb] at hy ht g2
    rw[ha,hb] at aa ab
    obtain⟨c0,c1⟩:=hc _ HW.out
    rw[ha] at c0
    obtain⟨na,ra⟩:=a
    obtain⟨nb,rb⟩:=b
    dsimp only at hx hs f2 hy ht g2 c0
    obtain⟨V,hV⟩:=ex (wr.alloc (.cells #[.string ⟨na.toArray⟩,.slice C x cx] 64))
    have af:Hid (Below w.heap.size w V):=HW.out.trans ((ag hV).mono HW.out.size)
    obtain⟨e0,e1⟩:=he _ af.out
    rw[hb] at e0
    dsimp only at e0
    obtain⟨U,hU⟩:=ex (V.alloc (.cells #[.string ⟨nb.toArray⟩,.slice C' y cy] 64))
    have ah:Hid (Below w.heap.size w U):=af.out.trans ((ag hU).mono af.out.size)
    obtain⟨u0,u1⟩:=aB hV (ag hU)
    obtain⟨u2,u3⟩:=aB hU (Below.refl _ _)
    have HS:=zh (ly na nb C C' x y cx cy ra rb U hx hy (ak hs ah.out) (ak ht ah.out) (by omega) (by omega))
    clear hc he ha hb hx hs f1 f2 hy ht g1 g2 h1 h2
    go_wp2_with fail
    clear hV hU
    refine HS.out.mono ?_
    rintro _ u ⟨rfl,hb⟩
    have HU:Hid (Below w.heap.size w u):=bt ah.out hb
    clear hb HS c0 c1 e0 e1 u0 u1 u2 u3
    by_cases hq:(⟨na,ra⟩:Atm)=⟨nb,rb⟩
    ·rw[decide_eq_true hq]
     have al:=zh (aa.out hq)
     clear aa ab hq
     go_wp2_with fail
     go_roundw
     case rel=>exact⟨j+1,by omega,by go_num,al.out,HU.out⟩
     case measure=>simp[intOf];omega
    ·rw[decide_eq_false hq]
     have ai:=zh (ab.out hq)
     clear aa ab hq
     go_wp2_with fail
     go_ret
     exact⟨by rw[ai.out];rfl,HU.out⟩
   ·obtain rfl:j=n:=by omega
    have am:Hid (X=true):=by
     show _=_
     have:=HT.out
     rw[List.take_of_length_le (by rw[HN.out];exact Nat.le_refl _),List.take_of_length_le (by rw[HM.out,HL.out];exact Nat.le_refl _)] at this
     rw[<-HX.out];exact decide_eq_true this
    clear HT
    go_wp2_with fail
    go_ret
    exact⟨by rw[am.out];rfl,HW.out⟩
 ·have hd:((n:Int) != m)=true:=by simp;omega
  have ai:Hid (X=false):=by show _=_;rw[<-HX.out];exact decide_eq_false fun h=>hlen (by rw[<-HN.out,<-HM.out,h])
  go_enter Tryz.func48,Tryz.ntmps48
  go_wp2_with fail
  go_ret
  exact⟨by rw[ai.out];rfl,Below.refl _ _⟩
theorem aaU (A B:Option Addr)(n m c d:Nat)(l k:List Atm)(w:World)(hn:l.length=n)(hm:k.length=m)(hr:ARow w A l)(hq:ARow w B k)(hl:n<=1000000)(hf:AFew l)(hg:AFew k) :
  Calls Tryz.prog 91 #[.slice A n c,.slice B m d,.func (.func 49) #[] #[]] w fun e w'=>e=.returned (.bool (decide (l=k)))/\Below w.heap.size w w':=by
 obtain⟨X,hX⟩:=ex (decide (l=k))
 rw[hX]
 have HX:=zh hX
 have HR:=zh hr
 have HQ:=zh hq
 have HN:=zh hn
 have HM:=zh hm
 have HF:=zh hf
 have HG:=zh hg
 clear hX hr hq hn hm hf hg
 by_cases hlen:n=m
 ·have hd:((n:Int) != m)=false:=by rw[hlen];simp
  have HL:=zh hlen
  clear hlen
  go_enter Tryz.func91,Tryz.ntmps91
  go_wp2_with fail
  clear hd
  go_loopw [17] (fun i wr=>∃ j:Nat,j<=n/\i=.int .i64 j/\Hid (l.take j=k.take j)/\Hid (Below w.heap.size w wr)) (fun i _=>n-(intOf i).toNat)
  case atStart=>exact⟨0,Nat.zero_le _,rfl,rfl,Below.refl _ _⟩
  case round =>
   obtain⟨j,hj,rfl,HT,HW⟩:=hrel
   by_cases aj:j<n
   ·have ac:j<m:=by have:=HL.out;omega
    have h1:j<l.length:=by rw[HN.out];exact aj
    have h2:j<k.length:=by rw[HM.out];exact ac
    obtain⟨ad,C,x,cx,rfl,hx,hs,hc⟩:=dz HR.out j h1
    obtain⟨ae,C',y,cy,rfl,hy,ht,he⟩:=dz HQ.out j h2
    obtain⟨f1,f2⟩:=fm HF.out j h1
    obtain⟨g1,g2⟩:=fm HG.out j h2
    have aa:Hid (l[j]=k[j]->l.take (j+1)=k.take (j+1)):=fun q=>by
     rw[List.take_succ_eq_append_getElem h1,List.take_succ_eq_append_getElem h2,HT.out,q]
    have ab:Hid (l[j]≠k[j]->X=false):=fun q=>by
     rw[<-HX.out];exact decide_eq_false fun h=>q (by subst h;rfl)
    obtain⟨a,ha⟩:=ex (l[j])
    obtain⟨b,hb⟩:=ex (k[j])
    rw[ha] at hx hs f2
    rw[hb] at hy ht g2
    rw[ha,hb] at aa ab
    obtain⟨c0,c1⟩:=hc _ HW.out
    rw[ha] at c0
    obtain⟨na,ra⟩:=a
    obtain⟨nb,rb⟩:=b
    dsimp only at hx hs f2 hy ht g2 c0
    obtain⟨V,hV⟩:=ex (wr.alloc (.cells #[.string ⟨na.toArray⟩,.slice C x cx] 64))
    have af:Hid (Below w.heap.size w V):=HW.out.trans ((ag hV).mono HW.out.size)
    obtain⟨e0,e1⟩:=he _ af.out
    rw[hb] at e0
    dsimp only at e0
    obtain⟨U,hU⟩:=ex (V.alloc (.cells #[.string ⟨nb.toArray⟩,.slice C' y cy] 64))
    have ah:Hid (Below w.heap.size w U):=af.out.trans ((ag hU).mono af.out.size)
    obtain⟨u0,u1⟩:=aB hV (ag hU)
    obtain⟨u2,u3⟩:=aB hU (Below.refl _ _)
    have HS:=zh (ly na nb C C' x y cx cy ra rb U hx hy (ak hs ah.out) (ak ht ah.out) (by omega) (by omega))
    clear hc he ha hb hx hs f1 f2 hy ht g1 g2 h1 h2
    go_wp2_with fail
    clear hV hU
    refine HS.out.mono ?_
    rintro _ u ⟨rfl,hb⟩
    have HU:Hid (Below w.heap.size w u):=bt ah.out hb
    clear hb HS c0 c1 e0 e1 u0 u1 u2 u3
    by_cases hq:(⟨na,ra⟩:Atm)=⟨nb,rb⟩
    ·rw[decide_eq_true hq]
     have al:=zh (aa.out hq)
     clear aa ab hq
     go_wp2_with fail
     go_roundw
     case rel=>exact⟨j+1,by omega,by go_num,al.out,HU.out⟩
     case measure=>simp[intOf];omega
    ·rw[decide_eq_false hq]
     have ai:=zh (ab.out hq)
     clear aa ab hq
     go_wp2_with fail
     go_ret
     exact⟨by rw[ai.out];rfl,HU.out⟩
   ·obtain rfl:j=n:=by omega
    have am:Hid (X=true):=by
     show _=_
     have:=HT.out
     rw[List.take_of_length_le (by rw[HN.out];exact Nat.le_refl _),List.take_of_length_le (by rw[HM.out,HL.out];exact Nat.le_refl _)] at this
     rw[<-HX.out];exact decide_eq_true this
    clear HT
    go_wp2_with fail
    go_ret
    exact⟨by rw[am.out];rfl,HW.out⟩
 ·have hd:((n:Int) != m)=true:=by simp;omega
  have ai:Hid (X=false):=by show _=_;rw[<-HX.out];exact decide_eq_false fun h=>hlen (by rw[<-HN.out,<-HM.out,h])
  go_enter Tryz.func91,Tryz.ntmps91
  go_wp2_with fail
  go_ret
  exact⟨by rw[ai.out];rfl,Below.refl _ _⟩
theorem vH (A B:Option Addr)(n m c d:Nat)(l k:List Atm)(w:World)(hn:l.length=n)(hm:k.length=m)(hr:ARow w A l)(hq:ARow w B k)(hl:n<=1000000)(hf:AFew l)(hg:AFew k) :
  Calls Tryz.prog 47 #[.slice A n c,.slice B m d] w fun e w'=>e=.returned (.bool (decide (l=k)))/\Below w.heap.size w w':=by
 have HS:=zh (aaU A B n m c d l k w hn hm hr hq hl hf hg)
 clear hn hm hr hq hl hf hg
 go_enter Tryz.func47,Tryz.ntmps47
 go_wp2_with fail
 refine HS.out.mono ?_
 rintro _ u ⟨rfl,hb⟩
 have HU:=zh hb
 clear hb
 go_wp2_with fail
 go_ret
 exact⟨rfl,HU.out⟩
theorem yI (A B:Option Addr)(n m c d:Nat)(l k:List (List Atm))(w:World)(hn:l.length=n)(hm:k.length=m)(hr:Pg.DRow w A l)(hq:Pg.DRow w B k)(hl:n<=1000000)(hf:DFew l)(hg:DFew k) :
  Calls Tryz.prog 46 #[.slice A n c,.slice B m d,.func (.func 47) #[] #[]] w fun e w'=>e=.returned (.bool (decide (l=k)))/\Below w.heap.size w w':=by
 obtain⟨X,hX⟩:=ex (decide (l=k))
 rw[hX]
 have HX:=zh hX
 have HR:=zh hr
 have HQ:=zh hq
 have HN:=zh hn
 have HM:=zh hm
 have HF:=zh hf
 have HG:=zh hg
 clear hX hr hq hn hm hf hg
 by_cases hlen:n=m
 ·have hd:((n:Int) != m)=false:=by rw[hlen];simp
  have HL:=zh hlen
  clear hlen
  go_enter Tryz.func46,Tryz.ntmps46
  go_wp2_with fail
  clear hd
  go_loopw [17] (fun i wr=>∃ j:Nat,j<=n/\i=.int .i64 j/\Hid (l.take j=k.take j)/\Hid (Below w.heap.size w wr)) (fun i _=>n-(intOf i).toNat)
  case atStart=>exact⟨0,Nat.zero_le _,rfl,rfl,Below.refl _ _⟩
  case round =>
   obtain⟨j,hj,rfl,HT,HW⟩:=hrel
   by_cases ag:j<n
   ·have aa:j<m:=by have:=HL.out;omega
    have h1:j<l.length:=by rw[HN.out];exact ag
    have h2:j<k.length:=by rw[HM.out];exact aa
    obtain⟨ad,C,x,cx,rfl,hx,hs,hc⟩:=dM HR.out j h1
    obtain⟨ae,C',y,cy,rfl,hy,ht,he⟩:=dM HQ.out j h2
    obtain⟨f1,f2⟩:=js HF.out j h1
    obtain⟨g1,g2⟩:=js HG.out j h2
    have ab:Hid (l[j]=k[j]->l.take (j+1)=k.take (j+1)):=fun q=>by
     rw[List.take_succ_eq_append_getElem h1,List.take_succ_eq_append_getElem h2,HT.out,q]
    have ac:Hid (l[j]≠k[j]->X=false):=fun q=>by
     rw[<-HX.out];exact decide_eq_false fun h=>q (by subst h;rfl)
    have c0:=hc _ HW.out
    have e0:=he _ HW.out
    have HS:=zh (vH C C' x y cx cy l[j] k[j] wr hx hy (aw hs HW.out) (aw ht HW.out) (by omega) f2 g2)
    obtain⟨P,hP⟩:=ex (decide (l[j]=k[j]))
    rw[hP] at HS
    have HP:=zh hP
    clear hc he hx hs f1 f2 hy ht g1 g2 hP
    go_wp2_with fail
    refine HS.out.mono ?_
    rintro _ u ⟨rfl,hb⟩
    have HU:Hid (Below w.heap.size w u):=bt HW.out hb
    clear hb HS c0 e0
    cases P
    ·have af:=zh (ac.out (of_decide_eq_false HP.out))
     clear ab ac HP
     go_wp2_with fail
     go_ret
     exact⟨by rw[af.out];rfl,HU.out⟩
    ·have ah:=zh (ab.out (of_decide_eq_true HP.out))
     clear ab ac HP
     go_wp2_with fail
     go_roundw
     case rel=>exact⟨j+1,by omega,by go_num,ah.out,HU.out⟩
     case measure=>simp[intOf];omega
   ·obtain rfl:j=n:=by omega
    have ai:Hid (X=true):=by
     show _=_
     have:=HT.out
     rw[List.take_of_length_le (by rw[HN.out];exact Nat.le_refl _),List.take_of_length_le (by rw[HM.out,HL.out];exact Nat.le_refl _)] at this
     rw[<-HX.out];exact decide_eq_true this
    clear HT
    go_wp2_with fail
    go_ret
    exact⟨by rw[ai.out];rfl,HW.out⟩
 ·have hd:((n:Int) != m)=true:=by simp;omega
  have af:Hid (X=false):=by show _=_;rw[<-HX.out];exact decide_eq_false fun h=>hlen (by rw[<-HN.out,<-HM.out,h])
  go_enter Tryz.func46,Tryz.ntmps46
  go_wp2_with fail
  go_ret
  exact⟨by rw[af.out];rfl,Below.refl _ _⟩
end
section
open Go.RowKit Rs At Pg
def GiveT (T:TypeId):Prop := (Tryz.prog.fieldsOf T).toList.map (fun f => (f.name == "_", f.type, f.offset))=[(false, 9, 0), (false, 9, 1)]/\Tryz.prog.underlying T=some (.struct (Tryz.prog.fieldsOf T))/\Tryz.prog.stoodInHeld T=false/\Tryz.prog.eqGuardType Tryz.prog.depth T=false
theorem giveT:GiveT 55:=⟨by kernel_rfl,by kernel_rfl,by kernel_rfl,by kernel_rfl⟩
theorem yJ {T:TypeId}(h:GiveT T)(a b:Gv)(w:World) :
  (Op.equalIn 10000 T (.agg #[.string ⟨a.name.toArray⟩,.string ⟨a.ver.toArray⟩]) (.agg #[.string ⟨b.name.toArray⟩,.string ⟨b.ver.toArray⟩])).run Tryz.prog w=.ok (decide (a=b)) w:=by
 obtain⟨nm,v⟩:=a
 obtain⟨aa,v'⟩:=b
 obtain⟨h1,h2,h3,h4⟩:=h
 rw[run_equalIn_struct w 9999 T _ _ h2 h3]
 generalize (Tryz.prog.fieldsOf T).toList=fs at *
 have hl:fs.length=2:=by have:=congrArg List.length h1;simpa using this
 match fs,hl with
 | [f0,f1],_ =>
  simp at h1
  obtain⟨⟨n0,t0,o0⟩,⟨n1,t1,o1⟩⟩:=h1
  simp only[Op.eqFields,n0,n1,t0,t1,o0,o1,ne_eq,not_false_eq_true,if_true]
  simp[go_sem]
  by_cases e0:nm=aa <;> by_cases e1:v=v' <;> simp[e0,e1]
theorem ub {T:TypeId}(h:GiveT T)(a b:Gv)(w:World) :
  (binOp .neq T (.agg #[.string ⟨a.name.toArray⟩,.string ⟨a.ver.toArray⟩]) (.agg #[.string ⟨b.name.toArray⟩,.string ⟨b.ver.toArray⟩])).run Tryz.prog w=.ok (.bool (!decide (a=b))) w:=by
 rw[run_neq_struct,yJ h];rfl
theorem uc {T:TypeId}(h:GiveT T)(op:BinOp)(x y:Operand)(xs ys:Array Value)(w:World):(eqGuard op T x y (.agg xs) (.agg ys)).run Tryz.prog w=.ok () w:=run_eqGuard_agg w op T x y xs ys h.2.2.2
attribute [local go_sem ↓] Go.wp_at_zero Go.wp_at_succ
theorem vI (A B:Option Addr)(n m c d:Nat)(l k:List Gv)(w:World)(hn:l.length=n)(hm:k.length=m)(hr:GRow w A l)(hq:GRow w B k)(hl:n<=1000000) :
  Calls Tryz.prog 50 #[.slice A n c,.slice B m d] w fun e w'=>e=.returned (.bool (decide (l=k)))/\Below w.heap.size w w':=by
 obtain⟨X,hX⟩:=ex (decide (l=k))
 rw[hX]
 have HX:=zh hX
 have HR:=zh hr
 have HQ:=zh hq
 have HN:=zh hn
 have HM:=zh hm
 clear hX hr hq hn hm
 by_cases hlen:n=m
 ·have hd:((n:Int) != m)=false:=by rw[hlen];simp
  have HL:=zh hlen
  clear hlen
  go_enter Tryz.func50,Tryz.ntmps50
  go_wp2_with fail
  clear hd
  go_loopw [13] (fun i wr=>∃ j:Nat,j<=n/\i=.int .i64 j/\Hid (l.take j=k.take j)/\∃ x,wr=w.drewN x) (fun i _=>n-(intOf i).toNat)
  case atStart=>exact⟨0,Nat.zero_le _,rfl,rfl,0,rfl⟩
  case round =>
   obtain⟨j,hj,rfl,HT,x,rfl⟩:=hrel
   by_cases ai:j<n
   ·have af:j<m:=by have:=HL.out;omega
    have h1:j<l.length:=by rw[HN.out];exact ai
    have h2:j<k.length:=by rw[HM.out];exact af
    obtain⟨ad,rfl,hc⟩:=dQ HR.out j h1
    obtain⟨ae,rfl,he⟩:=dQ HQ.out j h2
    have aa:Hid (l[j]=k[j]->l.take (j+1)=k.take (j+1)):=fun q=>by
     rw[List.take_succ_eq_append_getElem h1,List.take_succ_eq_append_getElem h2,HT.out,q]
    have ab:Hid (l[j]≠k[j]->X=false):=fun q=>by
     rw[<-HX.out];exact decide_eq_false fun h=>q (by subst h;rfl)
    obtain⟨c0,c1⟩:=hc _ (Below.refl _ _)
    obtain⟨e0,e1⟩:=he _ (Below.refl _ _)
    generalize l[j]=a at c0 c1 aa ab
    generalize k[j]=b at e0 e1 aa ab
    have ac:=ub giveT a b
    have ah:∀ (x y:Operand) (W:World),(eqGuard .neq 55 x y (.agg #[.string ⟨a.name.toArray⟩,.string ⟨a.ver.toArray⟩]) (.agg #[.string ⟨b.name.toArray⟩,.string ⟨b.ver.toArray⟩])).run Tryz.prog W=.ok () W:=fun x y W=>uc giveT .neq x y _ _ W
    clear hc he h1 h2
    by_cases hq:a=b
    ·rw[decide_eq_true hq] at ac
     have aj:=zh (aa.out hq)
     clear aa ab hq HT
     go_wp2_with fail
     go_quiet (fail)
     clear ac ah c0 c1 e0 e1
     go_wp2_with fail
     go_roundw
     case rel=>exact⟨j+1,by omega,by go_num,aj.out,_,rfl⟩
     case measure=>simp[intOf];omega
    ·rw[decide_eq_false hq] at ac
     have ag:=zh (ab.out hq)
     clear aa ab hq HT
     go_wp2_with fail
     go_quiet (fail)
     clear ac ah c0 c1 e0 e1
     go_wp2_with fail
     go_ret
     exact⟨by rw[ag.out];rfl,below_drewN (below_drewN (Below.refl _ _) _) _⟩
   ·obtain rfl:j=n:=by omega
    have ak:Hid (X=true):=by
     show _=_
     have:=HT.out
     rw[List.take_of_length_le (by rw[HN.out];exact Nat.le_refl _),List.take_of_length_le (by rw[HM.out,HL.out];exact Nat.le_refl _)] at this
     rw[<-HX.out];exact decide_eq_true this
    clear HT
    go_wp2_with fail
    go_ret
    exact⟨by rw[ak.out];rfl,below_drewN (Below.refl _ _) _⟩
 ·have hd:((n:Int) != m)=true:=by simp;omega
  have ag:Hid (X=false):=by show _=_;rw[<-HX.out];exact decide_eq_false fun h=>hlen (by rw[<-HN.out,<-HM.out,h])
  go_enter Tryz.func50,Tryz.ntmps50
  go_wp2_with fail
  go_ret
  exact⟨by rw[ag.out];rfl,Below.refl _ _⟩
def Pg.samP (p q:Pk):Bool:=decide (p.name=q.name)&&(decide (p.ver=q.ver)&&(decide (p.deps=q.deps)&&(decide (p.confl=q.confl)&&(decide (p.prov=q.prov)&&(Vm.sgn (Wm.placeN p.wt) (Wm.placeN q.wt)==0)))))
theorem vJ (p q:Pk)(D C G D' C' G':Option Addr)(dn dc cn cc gn gc dn' dc' cn' cc' gn' gc':Nat)(w:World)(hd:Pg.DRow w D p.deps)(hdn:p.deps.length=dn)(hc:ARow w C p.confl)(hcn:p.confl.length=cn)(hg:GRow w G p.prov)(hgn:p.prov.length=gn)(hf:PFew p)(hd':Pg.DRow w D' q.deps)(hdn':q.deps.length=dn')(hc':ARow w C' q.confl)(hcn':q.confl.length=cn')(hg':GRow w G' q.prov)(hgn':q.prov.length=gn')(hf':PFew q) :
  Calls Tryz.prog 17 #[.agg #[.string ⟨p.name.toArray⟩,.string ⟨p.ver.toArray⟩,.slice D dn dc,.slice C cn cc,.slice G gn gc,.float .f64 p.wt],.agg #[.string ⟨q.name.toArray⟩,.string ⟨q.ver.toArray⟩,.slice D' dn' dc',.slice C' cn' cc',.slice G' gn' gc',.float .f64 q.wt]] w fun e w'=>e=.returned (.bool (samP p q))/\Below w.heap.size w w':=by
 obtain⟨nm,v,deps,confl,prov,wt⟩:=p
 obtain⟨ak,v',ab,aa,ac,an⟩:=q
 obtain⟨R,hR⟩:=ex (samP ⟨nm,v,deps,confl,prov,wt⟩ ⟨ak,v',ab,aa,ac,an⟩)
 rw[hR]
 unfold samP at hR
 dsimp only at hd hdn hc hcn hg hgn hd' hdn' hc' hcn' hg' hgn' hR ⊢
 obtain⟨-,f2,f3,f4,f5,f6,-,f8⟩:=hf
 obtain⟨-,-,au,-,av,-,-,ax⟩:=hf'
 dsimp only at f2 f3 f4 f5 f6 f8 au av ax
 have ay:dn<=1000000:=by omega
 have az:cn<=1000000:=by omega
 have aA:gn<=1000000:=by omega
 obtain⟨V,hV⟩:=ex (w.alloc (.cells #[.string ⟨nm.toArray⟩,.string ⟨v.toArray⟩,.slice D dn dc,.slice C cn cc,.slice G gn gc,.float .f64 wt] 31))
 obtain⟨U,hU⟩:=ex (V.alloc (.cells #[.string ⟨ak.toArray⟩,.string ⟨v'.toArray⟩,.slice D' dn' dc',.slice C' cn' cc',.slice G' gn' gc',.float .f64 an] 31))
 have HV:=zh hV
 have HU:=zh hU
 have ah:Hid (Below V.heap.size V U):=ag hU
 have HB:Hid (Below w.heap.size w U):=(ag hV).trans (ah.out.mono (ag hV).size)
 have HD:=zh (fun W (hb:Below w.heap.size w W)=>yI D D' dn dn' dc dc' deps ab W hdn hdn' (drowD_below hd hb) (drowD_below hd' hb) ay f3 au)
 have HC:=zh (fun W (hb:Below w.heap.size w W)=>vG C C' cn cn' cc cc' confl aa W hcn hcn' (aw hc hb) (aw hc' hb) az f5 av)
 have HG:=zh (fun W (hb:Below w.heap.size w W)=>vI G G' gn gn' gc gc' prov ac W hgn hgn' (Rg.ai hg hb) (Rg.ai hg' hb) aA)
 have HW:=zh (fun W=>aeZ wt an f8 ax W)
 obtain⟨x3,aB⟩:=ex (decide (deps=ab))
 obtain⟨x4,aC⟩:=ex (decide (confl=aa))
 obtain⟨x5,aD⟩:=ex (decide (prov=ac))
 obtain⟨x6,aE⟩:=ex (Vm.sgn (Wm.placeN wt) (Wm.placeN an)==0)
 rw[aB] at HD hR
 rw[aC] at HC hR
 rw[aD] at HG hR
 rw[aE] at HW hR
 have HR:=zh hR
 clear hd hdn hc hcn hg hgn hd' hdn' hc' hcn' hg' hgn' f2 f3 f4 f5 f6 f8 au av ax ay az aA aB aC aD aE hR
 by_cases e1:nm=ak
 case neg =>
  have d1:(nm==ak)=false:=beq_eq_false_iff_ne.2 e1
  have HF:Hid (R=false):=by show _=_;rw[<-HR.out,decide_eq_false e1];rfl
  obtain⟨c0,-,-,-,-,-⟩:=aH hV ah.out
  obtain⟨e0,-,-,-,-,-⟩:=aH hU (Below.refl _ _)
  clear e1 HD HC HG HW HR
  go_enter Tryz.func17,Tryz.ntmps17
  go_wp2_with fail
  go_ret
  exact⟨by rw[HF.out];rfl,HB.out⟩
 have d1:(nm==ak)=true:=beq_iff_eq.2 e1
 by_cases e2:v=v'
 case neg =>
  have d2:(v==v')=false:=beq_eq_false_iff_ne.2 e2
  have HF:Hid (R=false):=by show _=_;rw[<-HR.out,decide_eq_false e2,Bool.false_and,Bool.and_false]
  obtain⟨c0,c1,-,-,-,-⟩:=aH hV ah.out
  obtain⟨k0,k1,-,-,-,-⟩:=aH hU (Below.refl _ _)
  clear e1 e2 HD HC HG HW HR
  go_enter Tryz.func17,Tryz.ntmps17
  go_wp2_with fail
  go_ret
  exact⟨by rw[HF.out];rfl,HB.out⟩
 have d2:(v==v')=true:=beq_iff_eq.2 e2
 have al:Hid ((x3&&(x4&&(x5&&x6)))=R):=by show _=_;rw[<-HR.out,decide_eq_true e1,decide_eq_true e2,Bool.true_and,Bool.true_and]
 obtain⟨c0,c1,c2,-,-,-⟩:=aH hV ah.out
 obtain⟨k0,k1,k2,-,-,-⟩:=aH hU (Below.refl _ _)
 clear e1 e2 HR
 go_enter Tryz.func17,Tryz.ntmps17
 go_wp2_with fail
 clear hV hU c0 c1 c2 k0 k1 k2 d1 d2
 refine (HD.out _ HB.out).mono ?_
 rintro _ u ⟨rfl,hb⟩
 have ao:=zh hb
 have am:Hid (Below w.heap.size w u):=bt HB.out hb
 have ap:Hid (Below V.heap.size V u):=bt ah.out hb
 clear hb HD
 cases x3
 case false =>
  have HF:Hid (R=false):=al.out.symm
  go_wp2_with fail
  go_ret
  exact⟨by rw[HF.out];rfl,am.out⟩
 obtain⟨-,-,-,c3,-,-⟩:=aH HV.out ap.out
 obtain⟨-,-,-,k3,-,-⟩:=aH HU.out ao.out
 go_wp2_with fail
 clear c3 k3
 refine (HC.out _ am.out).mono ?_
 rintro _ u2 ⟨rfl,hb⟩
 have ae:Hid (Below U.heap.size U u2):=bt ao.out hb
 have ad:Hid (Below w.heap.size w u2):=bt am.out hb
 have af:Hid (Below V.heap.size V u2):=bt ap.out hb
 clear hb HC ao am ap
 cases x4
 case false =>
  have HF:Hid (R=false):=al.out.symm
  go_wp2_with fail
  go_ret
  exact⟨by rw[HF.out];rfl,ad.out⟩
 obtain⟨-,-,-,-,c4,-⟩:=aH HV.out af.out
 obtain⟨-,-,-,-,k4,-⟩:=aH HU.out ae.out
 go_wp2_with fail
 clear c4 k4
 refine (HG.out _ ad.out).mono ?_
 rintro _ u3 ⟨rfl,hb⟩
 have aq:Hid (Below U.heap.size U u3):=bt ae.out hb
 have aj:Hid (Below w.heap.size w u3):=bt ad.out hb
 have ar:Hid (Below V.heap.size V u3):=bt af.out hb
 clear hb HG ae ad af
 cases x5
 case false =>
  have HF:Hid (R=false):=al.out.symm
  go_wp2_with fail
  go_ret
  exact⟨by rw[HF.out];rfl,aj.out⟩
 obtain⟨-,-,-,-,-,c5⟩:=aH HV.out ar.out
 obtain⟨-,-,-,-,-,k5⟩:=aH HU.out aq.out
 have HF:Hid (x6=R):=al.out
 go_wp2_with fail
 clear c5 k5
 refine (HW.out _).mono ?_
 rintro _ u4 ⟨rfl,rfl⟩
 go_wp2_with fail
 go_ret
 exact⟨by rw[HF.out];rfl,aj.out⟩
end
section
open Go.RowKit Rs At Pg
namespace Pg
def to0 (p:Pk):List Sz.Fld:=[⟨kPkg,p.name,0⟩,⟨kVer,p.ver,0⟩]
def depsT (p:Pk):List UInt8:=Lib.join (p.deps.map depT) semi
def conflT (p:Pk):List UInt8:=Lib.join (p.confl.map textA) semi
def provT (p:Pk):List UInt8:=Lib.join (p.prov.map gvT) semi
def to1 (p:Pk):List Sz.Fld:=if p.deps=[] then to0 p else to0 p++[⟨kDep,depsT p,0⟩]
def to2 (p:Pk):List Sz.Fld:=if p.confl=[] then to1 p else to1 p++[⟨kCon,conflT p,0⟩]
def to3 (p:Pk):List Sz.Fld:=if p.prov=[] then to2 p else to2 p++[⟨kPro,provT p,0⟩]
def toPk (p:Pk):List Sz.Fld:=if Wm.textW p.wt=[48] then to3 p else to3 p++[⟨kWei,Wm.textW p.wt,0⟩]
def PTxt (p:Pk):Prop:=p.name.length<=1000/\p.ver.length<=1000/\p.deps.length<=1000/\DTxt p.deps/\(depsT p).length<=1000000/\p.confl.length<=1000/\ATxt p.confl/\(conflT p).length<=1000000/\p.prov.length<=1000/\GTxt p.prov/\(provT p).length<=1000000/\p.wt<Wm.W
theorem aep (p:Pk):(to0 p).length=2:=rfl
theorem xd (p:Pk):(to1 p).length<=3:=by unfold to1;split <;> simp[to0]
theorem xe (p:Pk):(to2 p).length<=4:=by unfold to2;have:=xd p;split <;> simp <;> omega
theorem aeq (p:Pk):(to3 p).length<=5:=by unfold to3;have:=xe p;split <;> simp <;> omega
def d60:List Atm:=[⟨[108,105,98],[⟨[50],[],true,false⟩]⟩,⟨[97,108,116],allS⟩]
def d61:List Atm:=[⟨[120],allS⟩]
def p6:Pk:=⟨[97,112,112],[49,46,48],[d60,d61],[],[⟨[116,111,111,108],[]⟩,⟨[111,108,100],[49]⟩],4609434218613702656⟩
def f6:List Sz.Fld:=[⟨kPkg,[97,112,112],0⟩,⟨kVer,[49,46,48,48],1⟩,⟨kDep,[108,105,98,32,40,62,61,32,50,41,32,111,114,32,97,108,116,59,32,120],2⟩,⟨kPro,[116,111,111,108,59,32,111,108,100,32,61,32,48,49],3⟩,⟨kWei,[51,112,45,49],4⟩]
theorem k6a:Sz.parseS [80,97,99,107,97,103,101,58,32,97,112,112,10,86,101,114,115,105,111,110,58,32,49,46,48,48,10,68,101,112,101,110,100,115,58,32,108,105,98,32,40,62,61,32,50,41,32,111,114,32,97,108,116,59,32,120,10,80,114,111,118,105,100,101,115,58,32,116,111,111,108,59,32,111,108,100,32,61,32,48,49,10,87,101,105,103,104,116,58,32,51,112,45,49,10]=(0,0,[f6]):=by decide +kernel
theorem k6b:fromP f6=(0,0,p6):=by decide +kernel
theorem k6c:fromP [⟨kPkg,[97,112,112],0⟩]=(10,0,zeroP):=by decide +kernel
theorem k6d:fromP [⟨kPkg,[97],0⟩,⟨kVer,[49],0⟩,⟨kWei,[110,97,110],0⟩]=(8,2,zeroP):=by decide +kernel
theorem k6e:depT d60=[108,105,98,32,40,62,61,32,50,41,32,111,114,32,97,108,116]:=by decide +kernel
theorem k6f:Sz.textS [toPk p6]=[80,97,99,107,97,103,101,58,32,97,112,112,10,86,101,114,115,105,111,110,58,32,49,46,48,10,68,101,112,101,110,100,115,58,32,108,105,98,32,40,62,61,32,50,41,32,111,114,32,97,108,116,59,32,120,10,80,114,111,118,105,100,101,115,58,32,116,111,111,108,59,32,111,108,100,32,61,32,49,10,87,101,105,103,104,116,58,32,51,112,45,49,10]:=by decide +kernel
theorem k6g:metP p6 ⟨[111,108,100],allS⟩=true/\metP p6 ⟨[116,111,111,108],allS⟩=true/\metP p6 ⟨[116,111,111,108],[]⟩=false/\metP p6 ⟨[108,105,98],[⟨[50],[],true,false⟩]⟩=false:=by decide +kernel
theorem k6h:checkP p6=0/\samP p6 p6=true:=by decide +kernel
end Pg
end
section
open Go.RowKit Rs At Pg
namespace Pg
def ToSt (V:World) (v:Value) (fs:List Sz.Fld) (u:World):Prop:=Rg.Own Sz.encF 3 u V.heap.size 53 v fs/\Below V.heap.size V u
theorem kn {V u u2 W5:World}{v v5:Value}{fs:List Sz.Fld}{f:Sz.Fld}{o:Obj}(h:ToSt V v fs u)(hb:Below u.heap.size u u2)(ho:Rg.Own Sz.encF 3 W5 V.heap.size 53 v5 (fs++[f]))(hg:(u2.alloc o).grownBy W5 v.ownBlock):ToSt V v5 (fs++[f]) W5:=by
 have aa:Below u.heap.size u (u2.alloc o):=hb.alloc hb.size _
 have ab:V.heap.size<=u.heap.size:=h.2.size
 exact⟨ho,(h.2.trans (aa.mono ab)).trans (Rg.ao (Rg.own_below h.1 aa) (Nat.le_trans ab aa.size) hg)⟩
theorem aer {u:World}{f g:Sz.Fld}{B:Nat}{T:TypeId}(hB:B<=u.heap.size):Rg.Own Sz.encF 3 (u.alloc (.cells #[.string ⟨f.key.toArray⟩,.string ⟨f.val.toArray⟩,.int .i64 f.line,.string ⟨g.key.toArray⟩,.string ⟨g.val.toArray⟩,.int .i64 g.line] T)) B T (.slice (some ⟨u.heap.size,0,none⟩) 2 2) [f,g] :=
 ⟨rfl,.inr ⟨u.heap.size,2,_,rfl,hB,heap_alloc_new u _,Nat.le_refl _,by decide,rfl,rfl⟩⟩
end Pg
attribute [local go_sem ↓] Go.wp_at_zero Go.wp_at_succ
theorem aaV (p:Pk)(D C G:Option Addr)(dn dc cn cc gn gc:Nat)(w:World)(hk:KOk w)(hd:Pg.DRow w D p.deps)(hdn:p.deps.length=dn)(hc:ARow w C p.confl)(hcn:p.confl.length=cn)(hg:GRow w G p.prov)(hgn:p.prov.length=gn)(ht:PTxt p) :
  Calls Tryz.prog 14 #[.agg #[.string ⟨p.name.toArray⟩,.string ⟨p.ver.toArray⟩,.slice D dn dc,.slice C cn cc,.slice G gn gc,.float .f64 p.wt]] w fun e w'=>∃ A n c,e=.returned (.slice A n c)/\(toPk p).length=n/\Rg.Row Sz.encF 3 w' A (toPk p)/\Below w.heap.size w w':=by
 obtain⟨t1,t2,t3,t4,t5,t6,t7,t8,t9,aS,aT,aU⟩:=ht
 obtain⟨V,hV⟩:=ex (w.alloc (.cells #[.string ⟨p.name.toArray⟩,.string ⟨p.ver.toArray⟩,.slice D dn dc,.slice C cn cc,.slice G gn gc,.float .f64 p.wt] 31))
 have HB:Hid (Below w.heap.size w V):=ag hV
 obtain⟨b,hb⟩:=ex w.heap.size
 have ab:=zh (fun W (h:Below V.heap.size V W)=>aH hV h)
 rw[hb] at ab
 have HK:=zh (fun W (h:Below V.heap.size V W)=>aZ (aZ hk HB.out) h)
 have HM:=zh (fun W (h:Below V.heap.size V W)=>ah (ah hk.1 HB.out) h)
 have aM:Hid (∀ W,Below V.heap.size V W->Calls Tryz.prog 38 #[.slice D dn dc,.func (.func 12) #[] #[],.string ⟨#[59,32]⟩] W fun e w'=>e=.returned (.string ⟨(depsT p).toArray⟩)/\Below W.heap.size W w'):=fun W h=>tZ semi D dn dc p.deps W (HM.out W h) hdn (drowD_below (drowD_below hd HB.out) h) (by rw[<-hdn];exact t3) t4 t5
 have aN:Hid (∀ W,Below V.heap.size V W->Calls Tryz.prog 33 #[.slice C cn cc,.func (.func 34) #[] #[],.string ⟨#[59,32]⟩] W fun e w'=>e=.returned (.string ⟨(conflT p).toArray⟩)/\Below W.heap.size W w'):=fun W h=>kA semi C cn cc p.confl W (HM.out W h) hcn (aw (aw hc HB.out) h) (by rw[<-hcn];exact t6) t7 t8
 have aO:Hid (∀ W,Below V.heap.size V W->Calls Tryz.prog 39 #[.slice G gn gc,.func (.func 40) #[] #[],.string ⟨#[59,32]⟩] W fun e w'=>e=.returned (.string ⟨(provT p).toArray⟩)/\Below W.heap.size W w'):=fun W h=>rH semi G gn gc p.prov W (HM.out W h) hgn (Rg.ai (Rg.ai hg HB.out) h) (by rw[<-hgn];exact t9) aS aT
 have ay:Hid (∀ W,Below V.heap.size V W->Calls Tryz.prog 41 #[.float .f64 p.wt] W fun e w'=>e=.returned (.string ⟨(Wm.textW p.wt).toArray⟩)/\Below W.heap.size W w'):=fun W h=>ae3 p.wt aU W (HK.out W h)
 obtain⟨nm,ar⟩:=ex p.name
 obtain⟨vr,au⟩:=ex p.ver
 obtain⟨fw,ax⟩:=ex p.wt
 have HN:Hid (nm.length<=281474976710656/\vr.length<=281474976710656):=by rw[<-ar,<-au];exact⟨Nat.le_trans t1 (by decide),Nat.le_trans t2 (by decide)⟩
 have H0:Hid (to0 p=[⟨kPkg,nm,0⟩,⟨kVer,vr,0⟩]):=by rw[<-ar,<-au];rfl
 have az:Hid (dn=0↔p.deps=[]):=by rw[<-hdn];exact List.length_eq_zero_iff
 have aA:Hid (cn=0↔p.confl=[]):=by rw[<-hcn];exact List.length_eq_zero_iff
 have aB:Hid (gn=0↔p.prov=[]):=by rw[<-hgn];exact List.length_eq_zero_iff
 rw[ar,au,ax] at ab hV
 rw[ar,au,ax]
 rw[ax] at ay
 have aP:Hid (p.wt=fw):=ax
 obtain⟨y0,y1,y2,y3,y4,y5⟩:=ab.out _ (Below.refl _ _)
 have aQ:Hid (w.heap.size<=V.heap.size):=HB.out.size
 obtain⟨TD,aG⟩:=ex (depsT p)
 obtain⟨TC,aI⟩:=ex (conflT p)
 obtain⟨TG,aJ⟩:=ex (provT p)
 obtain⟨TW,aK⟩:=ex (Wm.textW fw)
 rw[aG] at aM
 rw[aI] at aN
 rw[aJ] at aO
 rw[aK] at ay
 have E1:Hid (to1 p=if dn=0 then to0 p else to0 p++[⟨kDep,TD,0⟩]):=by
  show _=_
  unfold to1;rw[aG]
  by_cases h:dn=0
  ·rw[if_pos h,if_pos (az.out.1 h)]
  ·rw[if_neg h,if_neg (fun e=>h (az.out.2 e))]
 have E2:Hid (to2 p=if cn=0 then to1 p else to1 p++[⟨kCon,TC,0⟩]):=by
  show _=_
  unfold to2;rw[aI]
  by_cases h:cn=0
  ·rw[if_pos h,if_pos (aA.out.1 h)]
  ·rw[if_neg h,if_neg (fun e=>h (aA.out.2 e))]
 have E3:Hid (to3 p=if gn=0 then to2 p else to2 p++[⟨kPro,TG,0⟩]):=by
  show _=_
  unfold to3;rw[aJ]
  by_cases h:gn=0
  ·rw[if_pos h,if_pos (aB.out.1 h)]
  ·rw[if_neg h,if_neg (fun e=>h (aB.out.2 e))]
 have E4:Hid (toPk p=if TW=[48] then to3 p else to3 p++[⟨kWei,TW,0⟩]):=by
  show _=_
  unfold toPk;rw[aP.out,aK]
 have aY:=zh hb
 clear hk hd hdn hc hcn hg hgn t1 t2 t3 t4 t5 t6 t7 t8 t9 aS aT aU ar au ax aG aI aJ aK az aA aB aP
 go_enter Tryz.func14,Tryz.ntmps14
 go_upto_region 1 with fail
 clear hV
 go_cut [3] (fun v wx=>Hid (ToSt V v (to0 p) wx))
 case first =>
  have aD:Hid (Below V.heap.size V V.drew):=(Below.refl _ _).drew
  go_region_held3 (fun w'=>w'.cell? ⟨b,0,none⟩=some (.string ⟨nm.toArray⟩)/\w'.cell? ⟨b,1,none⟩=some (.string ⟨vr.toArray⟩))
   (first
    | exact⟨(ab.out _ aD.out).1,(ab.out _ aD.out).2.1⟩
    | exact⟨(ab.out _ aF.out).1,(ab.out _ aF.out).2.1⟩
    | exact⟨(ab.out _ aj.out).1,(ab.out _ aj.out).2.1⟩
    | exact⟨(ab.out _ (aj.out.alloc aj.out.size _)).1,(ab.out _ (aj.out.alloc aj.out.size _)).2.1⟩)
   (first
    | (go_at_call 37;refine (aX vr _ HN.out.2).mono ?_;rintro _ u4 ⟨rfl,aV⟩;have aj:=zh (bt aF.out aV);clear aV)
    | (go_at_call 37;refine (aX nm _ HN.out.1).mono ?_;rintro _ u3 ⟨rfl,aW⟩;have aF:=zh (bt aD.out aW);clear aW))
  go_wp2_with fail
  go_meet
  case rel =>
   show ToSt _ _ _ _
   rw[H0.out]
   exact⟨aer aj.out.size,aj.out.alloc aj.out.size _⟩
 case rest =>
 have ak:Hid (ToSt V u3 (to0 p) wc):=hcut
 clear hcut y0 y1 y2 y3 y4 y5
 obtain⟨A0,c0,rfl,_,_,_⟩:=Rg.aE Sz.fitsF ak.out.1
 obtain⟨y0,y1,y2,y3,y4,y5⟩:=ab.out _ ak.out.2
 go_upto_if 17 with fail
 go_cut [3] (fun v wx=>Hid (ToSt V v (to1 p) wx))
 case first =>
  by_cases h0:dn=0
  ·have HF:Hid (to1 p=to0 p):=by show _=_;rw[E1.out,if_pos h0]
   subst h0
   go_wp2_with fail
   go_meet
   case rel=>show ToSt _ _ _ _;rw[HF.out];exact ak.out
  ·have HF:Hid (to1 p=to0 p++[⟨kDep,TD,0⟩]):=by show _=_;rw[E1.out,if_neg h0]
   have aq:0<dn:=by omega
   clear h0
   go_wp2_with fail
   refine (aM.out _ ak.out.2).mono ?_
   rintro _ u1 ⟨rfl,ac⟩
   have aa:=zh ac
   clear ac
   have ao:Hid ((to0 p).length+1<=1000000):=by have:=aep p;show _<=_;omega
   go_wp2_with (at_builtin;refine Rg.aC Sz.sliceF rfl (.tmp 18) (.tmp 23) rfl V.heap.size _ (to0 p) [⟨kDep,TD,0⟩] rfl (Rg.own_below ak.out.1 (aa.out.alloc aa.out.size _)) _ _ rfl (Rg.av u1 _ _ _ (by rfl)) (Nat.zero_lt_succ _) ao.out ?b2 ?_)
   case b2=>have:=ak.out.2.size;have:=aa.out.size;simp;omega
   intro v5 W5 ad ae ap
   have al:Hid (ToSt V v5 (to1 p) W5):=by show ToSt _ _ _ _;rw[HF.out];exact kn ak.out aa.out ad ae
   clear ad ae ap
   go_wp2_with fail
   go_meet
   case rel=>exact al
 case rest =>
 have am:Hid (ToSt V u3 (to1 p) wc):=hcut
 clear hcut ak y0 y1 y2 y3 y4 y5
 obtain⟨A1,c1,rfl,_,_,_⟩:=Rg.aE Sz.fitsF am.out.1
 obtain⟨y0,y1,y2,y3,y4,y5⟩:=ab.out _ am.out.2
 go_upto_if 28 with fail
 go_cut [3] (fun v wx=>Hid (ToSt V v (to2 p) wx))
 case first =>
  by_cases h0:cn=0
  ·have HF:Hid (to2 p=to1 p):=by show _=_;rw[E2.out,if_pos h0]
   subst h0
   go_wp2_with fail
   go_meet
   case rel=>show ToSt _ _ _ _;rw[HF.out];exact am.out
  ·have HF:Hid (to2 p=to1 p++[⟨kCon,TC,0⟩]):=by show _=_;rw[E2.out,if_neg h0]
   have aq:0<cn:=by omega
   clear h0
   go_wp2_with fail
   refine (aN.out _ am.out.2).mono ?_
   rintro _ u1 ⟨rfl,ac⟩
   have aa:=zh ac
   clear ac
   have ao:Hid ((to1 p).length+1<=1000000):=by have:=xd p;show _<=_;omega
   go_wp2_with (at_builtin;refine Rg.aC Sz.sliceF rfl (.tmp 29) (.tmp 34) rfl V.heap.size _ (to1 p) [⟨kCon,TC,0⟩] rfl (Rg.own_below am.out.1 (aa.out.alloc aa.out.size _)) _ _ rfl (Rg.av u1 _ _ _ (by rfl)) (Nat.zero_lt_succ _) ao.out ?b2 ?_)
   case b2=>have:=am.out.2.size;have:=aa.out.size;simp;omega
   intro v5 W5 ad ae ap
   have al:Hid (ToSt V v5 (to2 p) W5):=by show ToSt _ _ _ _;rw[HF.out];exact kn am.out aa.out ad ae
   clear ad ae ap
   go_wp2_with fail
   go_meet
   case rel=>exact al
 case rest =>
 have an:Hid (ToSt V u3 (to2 p) wc):=hcut
 clear hcut am y0 y1 y2 y3 y4 y5
 obtain⟨A2,c2,rfl,_,_,_⟩:=Rg.aE Sz.fitsF an.out.1
 obtain⟨y0,y1,y2,y3,y4,y5⟩:=ab.out _ an.out.2
 go_upto_if 39 with fail
 go_cut [3] (fun v wx=>Hid (ToSt V v (to3 p) wx))
 case first =>
  by_cases h0:gn=0
  ·have HF:Hid (to3 p=to2 p):=by show _=_;rw[E3.out,if_pos h0]
   subst h0
   go_wp2_with fail
   go_meet
   case rel=>show ToSt _ _ _ _;rw[HF.out];exact an.out
  ·have HF:Hid (to3 p=to2 p++[⟨kPro,TG,0⟩]):=by show _=_;rw[E3.out,if_neg h0]
   have aq:0<gn:=by omega
   clear h0
   go_wp2_with fail
   refine (aO.out _ an.out.2).mono ?_
   rintro _ u1 ⟨rfl,ac⟩
   have aa:=zh ac
   clear ac
   have ao:Hid ((to2 p).length+1<=1000000):=by have:=xe p;show _<=_;omega
   go_wp2_with (at_builtin;refine Rg.aC Sz.sliceF rfl (.tmp 40) (.tmp 45) rfl V.heap.size _ (to2 p) [⟨kPro,TG,0⟩] rfl (Rg.own_below an.out.1 (aa.out.alloc aa.out.size _)) _ _ rfl (Rg.av u1 _ _ _ (by rfl)) (Nat.zero_lt_succ _) ao.out ?b2 ?_)
   case b2=>have:=an.out.2.size;have:=aa.out.size;simp;omega
   intro v5 W5 ad ae ap
   have al:Hid (ToSt V v5 (to3 p) W5):=by show ToSt _ _ _ _;rw[HF.out];exact kn an.out aa.out ad ae
   clear ad ae ap
   go_wp2_with fail
   go_meet
   case rel=>exact al
 case rest =>
 have af:Hid (ToSt V u3 (to3 p) wc):=hcut
 clear hcut an y0 y1 y2 y3 y4 y5
 obtain⟨A3,c3,rfl,_,_,_⟩:=Rg.aE Sz.fitsF af.out.1
 obtain⟨y0,y1,y2,y3,y4,y5⟩:=ab.out _ af.out.2
 by_cases h0:TW=[48]
 ·have HF:Hid (toPk p=to3 p):=by show _=_;rw[E4.out,if_pos h0]
  have d0:(TW==[48])=true:=beq_iff_eq.2 h0
  have d1:(TW != [48])=false:=by rw[bne,d0];rfl
  clear h0
  go_wp2_with fail
  refine (ay.out _ af.out.2).mono ?_
  rintro _ u1 ⟨rfl,ac⟩
  have aR:Hid (ToSt V (.slice A3 (to3 p).length c3) (to3 p) u1):=⟨Rg.own_below af.out.1 ac,af.out.2.trans (ac.mono af.out.2.size)⟩
  clear ac
  go_wp2_with fail
  go_ret
  rw[HF.out]
  obtain⟨A4,c4,e4,aL,_,_⟩:=Rg.aE Sz.fitsF aR.out.1
  cases e4
  exact⟨_,_,_,rfl,rfl,aL,HB.out.trans (aR.out.2.mono aQ.out)⟩
 ·have HF:Hid (toPk p=to3 p++[⟨kWei,TW,0⟩]):=by show _=_;rw[E4.out,if_neg h0]
  have d0:(TW==[48])=false:=beq_eq_false_iff_ne.2 h0
  have d1:(TW != [48])=true:=by rw[bne,d0];rfl
  clear h0
  go_wp2_with fail
  refine (ay.out _ af.out.2).mono ?_
  rintro _ u1 ⟨rfl,ac⟩
  have aa:=zh ac
  clear ac
  have ao:Hid ((to3 p).length+1<=1000000):=by have:=aeq p;show _<=_;omega
  go_wp2_with (at_builtin;refine Rg.aC Sz.sliceF rfl (.tmp 52) (.tmp 55) rfl V.heap.size _ (to3 p) [⟨kWei,TW,0⟩] rfl (Rg.own_below af.out.1 (aa.out.alloc aa.out.size _)) _ _ rfl (Rg.av u1 _ _ _ (by rfl)) (Nat.zero_lt_succ _) ao.out ?b2 ?_)
  case b2=>have:=af.out.2.size;have:=aa.out.size;simp;omega
  intro v5 W5 ad ae ap
  have al:Hid (ToSt V v5 (toPk p) W5):=by show ToSt _ _ _ _;rw[HF.out];exact kn af.out aa.out ad ae
  clear ad ae ap
  go_wp2_with fail
  go_ret
  obtain⟨A4,c4,rfl,aL,_,_⟩:=Rg.aE Sz.fitsF al.out.1
  exact⟨_,_,_,rfl,rfl,aL,HB.out.trans (al.out.2.mono aQ.out)⟩
end
section
open Go.RowKit Rs At Pg
namespace Pg
theorem gp {p:Pk}(h:checkP p=0):nameB p.name=true/\verE p.ver=0/\p.deps.length<=16/\depsE p.deps=0/\p.confl.length<=16/\atomsE p.confl=0/\p.prov.length<=16/\givesE p.prov=0/\chkW p.wt=0:=by
 unfold checkP at h
 by_cases h1:nameB p.name=false
 ·rw[if_pos h1] at h;cases h
 rw[if_neg h1] at h
 by_cases h2:verE p.ver≠0
 ·rw[if_pos h2] at h;exact absurd h h2
 rw[if_neg h2] at h
 by_cases h3:16<p.deps.length
 ·rw[if_pos h3] at h;cases h
 rw[if_neg h3] at h
 by_cases h4:depsE p.deps≠0
 ·rw[if_pos h4] at h;exact absurd h h4
 rw[if_neg h4] at h
 by_cases h5:16<p.confl.length
 ·rw[if_pos h5] at h;cases h
 rw[if_neg h5] at h
 by_cases h6:atomsE p.confl≠0
 ·rw[if_pos h6] at h;exact absurd h h6
 rw[if_neg h6] at h
 by_cases h7:16<p.prov.length
 ·rw[if_pos h7] at h;cases h
 rw[if_neg h7] at h
 by_cases h8:givesE p.prov≠0
 ·rw[if_pos h8] at h;exact absurd h h8
 rw[if_neg h8] at h
 refine⟨?_,Decidable.not_not.1 h2,by omega,Decidable.not_not.1 h4,by omega,Decidable.not_not.1 h6,by omega,Decidable.not_not.1 h8,h⟩
 cases hb:nameB p.name
 ·exact absurd hb h1
 ·rfl
theorem dT:∀ {l:List Atm},atomsE l=0->∀ a∈l,checkA a=0
 | [],_,a,ha=>by cases ha
 | b :: l,h,a,ha=>by
  unfold atomsE at h
  by_cases h1:checkA b=0
  ·rw[if_pos h1] at h
   rcases List.mem_cons.1 ha with rfl | ha
   ·exact h1
   ·exact dT h a ha
  ·rw[if_neg h1] at h;exact absurd h h1
theorem dU:∀ {l:List Gv},givesE l=0->∀ a∈l,giveE a=0
 | [],_,a,ha=>by cases ha
 | b :: l,h,a,ha=>by
  unfold givesE at h
  by_cases h1:giveE b=0
  ·rw[if_pos h1] at h
   rcases List.mem_cons.1 ha with rfl | ha
   ·exact h1
   ·exact dU h a ha
  ·rw[if_neg h1] at h;exact absurd h h1
theorem eK:∀ {l:List (List Atm)},depsE l=0->∀ d∈l,1<=d.length/\d.length<=8/\atomsE d=0
 | [],_,a,ha=>by cases ha
 | b :: l,h,a,ha=>by
  unfold depsE at h
  by_cases h1:1<=b.length/\b.length<=8
  ·rw[if_pos h1] at h
   by_cases h2:atomsE b=0
   ·rw[if_pos h2] at h
    rcases List.mem_cons.1 ha with rfl | ha
    ·exact⟨h1.1,h1.2,h2⟩
    ·exact eK h a ha
   ·rw[if_neg h2] at h;exact absurd h h2
  ·rw[if_neg h1] at h;cases h
theorem gq {v:List UInt8}(h:verE v=0):Vm.check v=0/\Vm.canon v=v:=by
 unfold verE at h
 split at h
 ·rename_i h1
  split at h
  ·rename_i h2;exact⟨h1,h2⟩
  ·cases h
 ·rename_i h1;exact absurd h h1
theorem jb {g:Gv}(h:giveE g=0):nameB g.name=true/\(g.ver=[]\/verE g.ver=0):=by
 unfold giveE at h
 split at h
 ·rename_i h1
  split at h
  ·rename_i h2;exact⟨h1,Or.inl h2⟩
  ·exact⟨h1,Or.inr h⟩
 ·cases h
theorem xf {B:Nat}:∀ (l:List (List UInt8)),(∀ x∈l,x.length<=B)->Lib.lens l<=l.length*B
 | [],_=>by simp[Lib.lens]
 | x :: l,h=>by
  have h1:=xf l (fun y hy=>h y (List.mem_cons_of_mem _ hy))
  have h2:=h x (List.mem_cons_self ..)
  have e:Lib.lens (x :: l)=x.length+Lib.lens l:=by simp[Lib.lens]
  rw[e,List.length_cons,Nat.add_mul]
  omega
theorem join_le {B:Nat}(l:List (List UInt8))(sep:List UInt8)(h:∀ x∈l,x.length<=B):(Lib.join l sep).length<=l.length*(B+sep.length):=by
 cases l with
 | nil=>simp[Lib.join_nil]
 | cons x r =>
  rw[Lib.join_length]
  have h1:=xf (x :: r) h
  have h2:sep.length*r.length<=(r.length+1)*sep.length:=by rw[Nat.mul_comm];exact Nat.mul_le_mul_right _ (Nat.le_succ _)
  rw[List.length_cons] at h1 ⊢
  rw[Nat.mul_add]
  omega
theorem xg {l:List Atm}(h:atomsE l=0):ATxt l:=fun a ha=>by
 obtain⟨h1,h2,_⟩:=ef (dT h a ha)
 exact⟨Nat.le_trans (dp h1) (by decide),lA h2,h2⟩
theorem xh {l:List Atm}(h:atomsE l=0):AFew l:=fun a ha=>by
 obtain⟨h1,h2,_⟩:=ef (dT h a ha)
 exact⟨Nat.le_trans (dp h1) (by decide),Nat.le_trans (lA h2) (by decide)⟩
theorem ud {l:List Atm}(h:atomsE l=0):∀ x∈l.map textA,x.length<=1000:=fun x hx=>by
 obtain⟨a,ha,rfl⟩:=List.mem_map.1 hx
 exact adV (dT h a ha)
theorem xi {d:List Atm}(h:atomsE d=0)(hl:d.length<=8):(depT d).length<=8032:=by
 have h1:=join_le (d.map textA) orT (ud h)
 rw[List.length_map] at h1
 have h2:d.length*(1000+orT.length)<=8*1004:=Nat.mul_le_mul_right _ hl
 exact Nat.le_trans h1 h2
theorem acP {p:Pk}(h:depsE p.deps=0)(hl:p.deps.length<=16):(depsT p).length<=128544:=by
 have h1:=join_le (B:=8032) (p.deps.map depT) semi (fun x hx=>by
  obtain⟨d,hd,rfl⟩:=List.mem_map.1 hx
  obtain⟨_,q1,q2⟩:=eK h d hd
  exact xi q2 q1)
 rw[List.length_map] at h1
 have h2:p.deps.length*(8032+semi.length)<=16*8034:=Nat.mul_le_mul_right _ hl
 exact Nat.le_trans h1 h2
theorem aaW {p:Pk}(h:atomsE p.confl=0)(hl:p.confl.length<=16):(conflT p).length<=16032:=by
 have h1:=join_le (p.confl.map textA) semi (ud h)
 rw[List.length_map] at h1
 have h2:p.confl.length*(1000+semi.length)<=16*1002:=Nat.mul_le_mul_right _ hl
 exact Nat.le_trans h1 h2
theorem pT {g:Gv}(h:giveE g=0):g.name.length<=24/\g.ver.length<=40/\(gvT g).length<=67:=by
 obtain⟨h1,h2⟩:=jb h
 have hn:=dp h1
 have hv:g.ver.length<=40:=by
  rcases h2 with h2 | h2
  ·rw[h2];exact Nat.zero_le _
  ·exact (Vm.cQ (gq h2).1).1
 refine⟨hn,hv,?_⟩
 unfold gvT
 split
 ·omega
 ·simp only[List.length_append,List.length_cons,List.length_nil];omega
theorem aes {l:List Gv}(h:givesE l=0):GTxt l:=fun g hg=>by
 obtain⟨h1,h2,_⟩:=pT (dU h g hg)
 exact⟨by omega,by omega⟩
theorem acQ {p:Pk}(h:givesE p.prov=0)(hl:p.prov.length<=16):(provT p).length<=1104:=by
 have h1:=join_le (B:=67) (p.prov.map gvT) semi (fun x hx=>by
  obtain⟨d,hd,rfl⟩:=List.mem_map.1 hx
  exact (pT (dU h d hd)).2.2)
 rw[List.length_map] at h1
 have h2:p.prov.length*(67+semi.length)<=16*69:=Nat.mul_le_mul_right _ hl
 exact Nat.le_trans h1 h2
theorem aaX {p:Pk}(h:checkP p=0)(hw:p.wt<Wm.W):PTxt p:=by
 obtain⟨h1,h2,h3,h4,h5,h6,h7,h8,h9⟩:=gp h
 have hv:=(Vm.cQ (gq h2).1).1
 have hn:=dp h1
 refine⟨by omega,by omega,by omega,fun d hd=>?_,Nat.le_trans (acP h4 h3) (by decide),by omega,xg h6,Nat.le_trans (aaW h6 h5) (by decide),by omega,aes h8,Nat.le_trans (acQ h8 h7) (by decide),hw⟩
 obtain⟨_,q1,q2⟩:=eK h4 d hd
 exact⟨by omega,xg q2,Nat.le_trans (xi q2 q1) (by decide)⟩
theorem aaY {p:Pk}(h:checkP p=0)(hw:p.wt<Wm.W):PFew p:=by
 obtain⟨h1,h2,h3,h4,h5,h6,h7,h8,h9⟩:=gp h
 have hn:=dp h1
 refine⟨Nat.le_trans hn (by decide),by omega,fun d hd=>?_,by omega,xh h6,by omega,fun g hg=>?_,hw⟩
 ·obtain⟨_,q1,q2⟩:=eK h4 d hd
  exact⟨by omega,xh q2⟩
 ·obtain⟨q1,q2,_⟩:=pT (dU h8 g hg)
  exact⟨Nat.le_trans q1 (by decide),Nat.le_trans q2 (by decide)⟩
theorem vK {p:Pk}(h:checkP p=0):Vm.check p.ver=0/\∀ g∈p.prov,g.ver=[]\/Vm.check g.ver=0:=by
 obtain⟨h1,h2,h3,h4,h5,h6,h7,h8,h9⟩:=gp h
 refine⟨(gq h2).1,fun g hg=>?_⟩
 obtain⟨_,q⟩:=jb (dU h8 g hg)
 exact q.imp id fun q=>(gq q).1
end Pg
end
end Go.Proofs.YtkaeamjnphaadaaGreatDoor

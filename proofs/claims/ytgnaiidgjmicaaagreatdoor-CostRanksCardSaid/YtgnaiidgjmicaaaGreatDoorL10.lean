/- Part 10 of what the laws lean on. -/
import Derived.Test.YtgnaiidgjmicaaaGreatDoorL09
set_option maxRecDepth 100000
set_option maxHeartbeats 1600000
namespace Go.Proofs.YtgnaiidgjmicaaaGreatDoor
section
open Go.RowKit Rs At
theorem oP (m:List UInt8)(l:List (List UInt8))(b:Nat)(h:∀ t∈l,t.length<=b):(Lib.join l m).length<=l.length*(b+m.length):=by
 cases l with
 | nil=>rw[Lib.join_nil];simp
 | cons x r =>
  rw[Lib.join_length]
  have hb:∀ r:List (List UInt8),(∀ t∈r,t.length<=b)->Lib.lens r<=r.length*b:=fun r=>by
   induction r with
   | nil=>intro _;simp[Lib.lens]
   | cons y r ih =>
    intro h
    have h1:=h y (by simp)
    have h2:=ih (fun t ht=>h t (by simp[ht]))
    have e:Lib.lens (y :: r)=y.length+Lib.lens r:=by simp[Lib.lens]
    rw[e,List.length_cons,Nat.succ_mul];omega
  have h1:=hb (x :: r) h
  have h2:m.length*r.length<=m.length*(x :: r).length:=Nat.mul_le_mul_left _ (by simp)
  have e:(x :: r).length*(b+m.length)=(x :: r).length*b+m.length*(x :: r).length:=by rw[Nat.mul_add,Nat.mul_comm m.length]
  rw[e];omega
theorem uP {α:Type}{enc:α->List Value}{K:Nat}{T:TypeId}{v:Value}{l:List α}{w wr wq W5:World}{o:Obj}(hB:Hid (Below w.heap.size w wr/\w.heap.size<=wr.heap.size))(hq:Below wr.heap.size wr wq)(hO:Hid (Rg.Own enc K wr w.heap.size T v l))(hg:(wq.alloc o).grownBy W5 v.ownBlock) :
  Hid (Below w.heap.size w W5/\w.heap.size<=W5.heap.size):=by
 have hs:w.heap.size<=wq.heap.size:=Nat.le_trans hB.out.2 hq.size
 have h1:Below w.heap.size w (wq.alloc o):=(hB.out.1.trans (hq.mono hB.out.2)).alloc hs _
 have e:(wq.alloc o).heap.size=wq.heap.size+1:=by simp
 have h2:w.heap.size<=(wq.alloc o).heap.size:=by omega
 exact⟨h1.trans (Rg.ak (Rg.own_below hO.out (hq.alloc hq.size _)) h2 hg),Nat.le_trans h2 hg.size⟩
end
section
open Go.RowKit Rs At
attribute [local go_sem ↓] Go.wp_at_zero Go.wp_at_succ
theorem zg {v:List UInt8}(h:Rs.Own v):v.length<=40:=(Vm.cx h.1).1
end
section
open Go.RowKit Rs At
theorem lJ {l:List UInt8}{c:UInt8}(h:∀ b∈l,b.toNat<128)(hc:128<=c.toNat):Lib.indexByte l c = -1:=by
 induction l with
 | nil=>rfl
 | cons b l ih =>
  have hb:(b==c)=false:=by
   refine beq_eq_false_iff_ne.2 fun e=>?_
   have:=h b (by simp)
   rw[e] at this;omega
  rw[Lib.indexByte,hb,ih (fun x hx=>h x (by simp[hx]))]
  simp
def sp3:List UInt8:=[32,40,41]
theorem iQ:∀ b∈sp3,b.toNat<128:=by decide
theorem aal:∀ i:Nat,∀ h:i<(⟨sp3.toArray⟩:ByteArray).size,((⟨sp3.toArray⟩:ByteArray)[i]'h).toNat<128/\((⟨sp3.toArray⟩:ByteArray)[i]'h).toNat≠65533:=by
 intro i h
 have:((⟨sp3.toArray⟩:ByteArray)[i]'h)∈sp3:=by
  have:((⟨sp3.toArray⟩:ByteArray)[i]'h)=sp3[i]'h:=rfl
  rw[this];exact List.getElem_mem _
 have:=iQ _ this
 omega
theorem xq:(⟨sp3.toArray⟩:ByteArray).size=3:=rfl
theorem zi:∀ b∈((⟨#[32,40,41]⟩:ByteArray).extract 2 3).data.toList,b.toNat<128:=fun b hb=>iQ b (mem_extract (s:=⟨#[32,40,41]⟩) hb)
theorem zj:∀ b∈ByteArray.empty.data.toList,b.toNat<128:=fun b hb=>by simp at hb
theorem nk (w:World) :
  Calls Tryz.prog 233 #[.string ⟨#[32,40,41]⟩,.int .i32 65533] w fun e w'=>e=.returned (.int .i64 (-1))/\Below w.heap.size w w':=by
 go_enter Tryz.func233,Tryz.ntmps233
 go_wp2_with fail
 go_loopg [5,6] 3 (fun g _ _ wx=>∃ i:Nat,i+g=3/\wx=w.iter ⟨#[32,40,41]⟩ i)
 case atStart=>exact⟨0,by omega,rfl⟩
 case round =>
  obtain⟨i,ac,rfl⟩:=hrel
  cases gk with
  | zero =>
   obtain rfl:i=3:=by omega
   have aa:=fun ty=>run_next_end (P:=Tryz.prog) w ⟨#[32,40,41]⟩ 3 ty (by decide)
   go_wp2_with fail
   go_ret
   exact⟨rfl,(Below.refl _ _).alloc (Nat.le_refl _) _⟩
  | succ g =>
   have hi:i<(⟨sp3.toArray⟩:ByteArray).size:=by rw[xq];omega
   obtain⟨x,hx⟩:∃ x:UInt8,(⟨sp3.toArray⟩:ByteArray)[i]'hi=x:=⟨_,rfl⟩
   obtain⟨h1,h2⟩:=aal i hi
   have aa:=fun ty=>run_next_ascii (P:=Tryz.prog) w ⟨sp3.toArray⟩ i ty hi h1
   rw[hx] at aa h1 h2
   rw[show (⟨sp3.toArray⟩:ByteArray)=⟨#[32,40,41]⟩ from rfl] at aa
   have ab:((x.toNat:Int)==65533)=false:=beq_eq_false_iff_ne.2 (by omega)
   clear hx
   go_wp2_with fail
   go_roundg g
   case measure=>omega
   case rel=>exact⟨i+1,by omega,rfl⟩
theorem lK (r:Int)(w:World)(h0:128<=r)(hr:r≠65533) :
  Calls Tryz.prog 233 #[.string ⟨#[32,40,41]⟩,.int .i32 r] w fun e w'=>e=.returned (.int .i64 (-1))/\Below w.heap.size w w':=by
 have ap:(r==65533)=false:=beq_eq_false_iff_ne.2 hr
 have aq:¬ r<128:=by omega
 have ar:(0:Int)<=r:=by omega
 cases hv:Lib.validRune r
 ·go_enter Tryz.func233,Tryz.ntmps233
  go_wp2_with fail
  refine (Tryz.utf8_ValidRune r _).mono ?_
  rintro e w' ⟨rfl,hw⟩;rw[hw,hv]
  go_wp2_with fail
  go_ret
  exact⟨rfl,Below.refl _ _⟩
 ·obtain⟨f1,f2,f3⟩:=encode_facts r (by rw[validRune_eq];exact hv) h0
  obtain⟨rs,ad⟩:=ex (Utf8.encode r)
  rw[ad] at f1 f2 f3
  obtain⟨n,hn⟩:∃ n:Nat,rs.size=n:=⟨_,rfl⟩
  have ab:rs.size-1<rs.size:=by omega
  obtain⟨c,hc⟩:∃ c:UInt8,rs[rs.size-1]'ab=c:=⟨_,rfl⟩
  have aa:=f3 ab
  rw[hc] at aa
  obtain⟨L,hL⟩:=ex rs.data.toList
  obtain rfl:rs=⟨L.toArray⟩:=by rw[<-hL]
  have af:L.length=n:=by rw[<-hn];rfl
  obtain⟨k,rfl⟩:∃ k:Nat,n=k+1:=⟨n-1,by omega⟩
  have au:k<=3:=by omega
  have av:1<=k:=by omega
  have ag:k<L.length:=by omega
  obtain⟨d,hd,ai⟩:=byte_at L k ag
  obtain rfl:d=c:=by
   rw[<-ai,<-hc]
   show L[k]=L[L.toArray.size-1]
   congr 1
   simp;omega
  have aw:∀ w,(convert 21 9 (.int .i32 r)).run Tryz.prog w=.ok (.string ⟨L.toArray⟩) w:=fun w=>by rw[run_convert_int_string w _ _ _ _ (by rw[Tryz.underlying21];rfl) Tryz.underlying9,ad]
  have ax:((L.length:Int))-1=(k:Int):=by omega
  have ay:IntKind.i64.wrap (k:Int)=k:=wrap_small _ (by omega) (by omega)
  have aj:IntKind.i64.wrap ((k:Int)+1)=((k+1:Nat):Int):=by rw[show (k:Int)+1=((k+1:Nat):Int) by omega];exact wrap_small _ (by omega) (by omega)
  have HL:=zh af
  clear hc ab f3 f1 f2 hn hL ad af ai
  go_enter Tryz.func233,Tryz.ntmps233
  go_wp2_with fail
  refine (Tryz.utf8_ValidRune r _).mono ?_
  rintro e w' ⟨rfl,hw⟩;rw[hw,hv]
  go_wp2_with fail
  go_step3
  go_wp2_with fail
  go_loopw [9] (fun i wx=>i=.int .i64 k/\wx=w) (fun _ _=>0)
  case atStart=>exact⟨rfl,rfl⟩
  case round =>
   obtain⟨rfl,rfl⟩:=hrel
   by_cases az:k<3
   ·have ah:Hid (∀ t:ByteArray,(∀ b∈t.data.toList,b.toNat<128)->Lib.indexByte t.data.toList (d.toNat:Int).toNat.toUInt8 = -1):=fun t ht=>lJ ht (by simpa using aa)
    have HD:Hid (∃ h:k<(⟨L.toArray⟩:ByteArray).size,(⟨L.toArray⟩:ByteArray)[k]'h=d):=⟨ag,hd⟩
    obtain rfl | rfl:k=1\/k=2:=by omega
    ·obtain⟨y,hy⟩:∃ y:UInt8,(⟨#[32,40,41]⟩:ByteArray)[1]'(by decide)=y:=⟨_,rfl⟩
     have ac:y.toNat=40:=by rw[<-hy];rfl
     have ak:((y.toNat:Int) != (d.toNat:Int))=true:=bne_iff_ne.2 (by omega)
     clear ac
     have al:IntKind.i64.wrap 2=2:=by decide
     go_wp2_with fail
     go_step3
     go_wp2_with fail
     go_quiet (fail)
     go_wp2_with fail
     obtain⟨ae,ao⟩:=HD.out
     have am:1<L.length:=ae
     have an:(1:Int)<(L.length:Int):=by omega
     go_quiet (first |  (refine (Tryz.strings_IndexByte _ _ _).mono ?_;rintro e5 w5 ⟨rfl,h5⟩;rw[ah.out _ zi];exact⟨rfl,_,h5⟩) | fail)
     go_wp2_with fail
     rw[Exit.noGoto_ret]
     show Exit.noGoto (Exit.inBlock 0 _) Exit.ret _ _
     simp only[Exit.inBlock,Exit.then,Exit.noGoto_ret]
     go_ret
     exact⟨rfl,below_drewN (Below.refl _ _) _⟩
    ·obtain⟨y,hy⟩:∃ y:UInt8,(⟨#[32,40,41]⟩:ByteArray)[2]'(by decide)=y:=⟨_,rfl⟩
     have ac:y.toNat=41:=by rw[<-hy];rfl
     have ak:((y.toNat:Int) != (d.toNat:Int))=true:=bne_iff_ne.2 (by omega)
     clear ac
     have al:IntKind.i64.wrap 3=3:=by decide
     go_wp2_with fail
     go_step3
     go_wp2_with fail
     go_quiet (fail)
     go_wp2_with fail
     obtain⟨ae,ao⟩:=HD.out
     have am:2<L.length:=ae
     have an:(2:Int)<(L.length:Int):=by omega
     go_quiet (first |  (refine (Tryz.strings_IndexByte _ _ _).mono ?_;rintro e5 w5 ⟨rfl,h5⟩;rw[ah.out _ zj];exact⟨rfl,_,h5⟩) | fail)
     go_wp2_with fail
     rw[Exit.noGoto_ret]
     show Exit.noGoto (Exit.inBlock 0 _) Exit.ret _ _
     simp only[Exit.inBlock,Exit.then,Exit.noGoto_ret]
     go_ret
     exact⟨rfl,below_drewN (Below.refl _ _) _⟩
   ·obtain rfl:k=3:=by omega
    go_wp2_with fail
    rw[Exit.noGoto_ret]
    go_ret
    exact⟨rfl,Below.refl _ _⟩
theorem np (r:Int)(w:World)(h0:128<=r) :
  Calls Tryz.prog 233 #[.string ⟨#[32,40,41]⟩,.int .i32 r] w fun e w'=>e=.returned (.int .i64 (-1))/\Below w.heap.size w w':=by
 by_cases h:r=65533
 ·subst h;exact nk w
 ·exact lK r w h0 h
theorem qM (s:ByteArray)(pos j:Nat)(h1:pos<j)(h2:j<pos+(Utf8.decode s pos).2):128<=(s.get! j).toNat:=by
 have key:∀ k,j=pos+k->(s.get! (pos+k)).toNat / 64=2->128<=(s.get! j).toNat:=fun k e h=>by rw[e];omega
 simp only[Utf8.decode] at h2
 split at h2
 ·simp at h2;omega
 split at h2
 ·rename_i h
  simp at h
  split at h2
  ·simp at h2;exact key 1 (by omega) h.2.2
  ·simp at h2;omega
 split at h2
 ·rename_i h
  simp at h
  split at h2
  ·simp at h2
   rcases (show j=pos+1\/j=pos+2 by omega) with e | e
   ·exact key 1 e h.1.2.2
   ·exact key 2 e h.2.2
  ·simp at h2;omega
 split at h2
 ·rename_i h
  simp at h
  split at h2
  ·simp at h2
   rcases (show j=pos+1\/j=pos+2\/j=pos+3 by omega) with e | e | e
   ·exact key 1 e h.1.1.2.2
   ·exact key 2 e h.1.2.2
   ·exact key 3 e h.2.2
  ·simp at h2;omega
 ·simp at h2;omega
theorem mB (x:UInt8):Lib.indexByte (⟨#[32,40,41]⟩:ByteArray).data.toList x=Lib.indexByte sp3 x:=rfl
def It (w:World) (s:ByteArray) (i:Nat) (wx:World):Prop:=wx.heap[w.heap.size]?=some (.stringIter s i)/\Below w.heap.size w wx
theorem xr (w:World)(s:ByteArray):It w s 0 (w.iter s 0):=⟨World.iter_heap w s 0,(Below.refl _ _).alloc (Nat.le_refl _) _⟩
theorem xt {w wx wy:World}{s:ByteArray}{i:Nat}(h:It w s i wx)(hb:Below wx.heap.size wx wy):It w s i wy:=by
 have aa:w.heap.size<wx.heap.size:=by
  obtain⟨hh,_⟩:=Array.getElem?_eq_some_iff.1 h.1
  exact hh
 exact⟨by rw[hb.block _ aa];exact h.1,h.2.trans (hb.mono h.2.size)⟩
theorem zk {w wx:World}{s:ByteArray}{pos:Nat}(h:It w s pos wx)(hp:pos<s.size):∃ W,It w s (pos+(Utf8.decode s pos).2) W /\
  ∀ ty:TypeId,(Instr.next (.pointer (some ⟨w.heap.size,0,none⟩)) true ty).run Tryz.prog wx=.ok (.tuple #[.bool true,.int .i64 pos,.int .i32 (Utf8.decode s pos).1]) W:=by
 have aa:w.heap.size<wx.heap.size:=by
  obtain⟨hh,_⟩:=Array.getElem?_eq_some_iff.1 h.1
  exact hh
 refine⟨{ wx with heap:=wx.heap.setIfInBounds w.heap.size (.stringIter s (pos+(Utf8.decode s pos).2)) },⟨?_,h.2.trans ⟨rfl,rfl,rfl,?_,?_⟩⟩,fun ty=>?_⟩
 ·show (wx.heap.setIfInBounds _ _)[_]?=_
  rw[Array.getElem?_setIfInBounds_self_of_lt aa]
 ·show _<=(wx.heap.setIfInBounds _ _).size
  simp
 ·intro i hi
  show (wx.heap.setIfInBounds _ _)[i]?=_
  rw[Array.getElem?_setIfInBounds_ne (by omega)]
 ·simp only[Instr.next,getObj,setObj,Sem.run_bind,Sem.run,h.1,Result.andThen,hp,if_true]
  rfl
theorem aam {w wx:World}{s:ByteArray}{pos:Nat}(h:It w s pos wx)(hp:¬ pos<s.size)(ty:TypeId) :
  (Instr.next (.pointer (some ⟨w.heap.size,0,none⟩)) true ty).run Tryz.prog wx=.ok (.tuple #[.bool false]) wx:=by
 simp[Instr.next,getObj,Sem.run,h.1,hp]
theorem s9 {s:List UInt8}{i k:Nat}(h:Lib.NoAny s sp3 i)(hx:∀ j b,i<=j->j<i+k->s[j]?=some b->128<=b.toNat):Lib.NoAny s sp3 (i+k):=by
 intro j b hj hb
 by_cases h1:j<i
 ·exact h j b h1 hb
 ·have h2:=hx j b (by omega) hj hb
  cases hc:sp3.contains b with
  | false=>rfl
  | true =>
   have:=iQ b (by simpa using hc)
   omega
theorem kt (s:List UInt8)(w:World)(h8:s.length<=8) :
  Calls Tryz.prog 199 #[.string ⟨s.toArray⟩,.string ⟨#[32,40,41]⟩] w fun e w'=>e=.returned (.int .i64 (Lib.indexAny s sp3))/\Below w.heap.size w w':=by
 obtain⟨S,hS⟩:=ex (⟨s.toArray⟩:ByteArray)
 have hz:S.size=s.length:=by rw[<-hS];rfl
 have HD:Hid (∀ i (h:i<S.size),s[i]?=some (S[i]'h)):=by
  subst hS
  intro i h
  exact List.getElem?_eq_getElem (l:=s) h
 have HZ:=zh hz
 obtain⟨K,hK⟩:=ex (Lib.indexAny s sp3)
 rw[hS,hK]
 have HK:=zh hK
 have ai:decide ((8:Int)<(S.size:Int))=false:=decide_eq_false (by omega)
 clear hS hK hz
 go_enter Tryz.func199,Tryz.ntmps199
 go_wp2_with fail
 refine (Tryz.strings_shouldUseASCIISet _ _).mono ?_
 rintro e w' ⟨rfl,hw⟩;rw[hw,ai]
 go_wp2_with fail
 go_loopg [9,10] S.size (fun g _ _ wx=>∃ i:Nat,g=S.size-i/\Hid (It w S i wx)/\Hid (Lib.NoAny s sp3 i))
 case atStart=>exact⟨0,rfl,xr w S,Lib.NoAny.zero _ _⟩
 case round =>
  obtain⟨i,hg,HI,HN⟩:=hrel
  subst hg
  by_cases hi:i<S.size
  ·obtain⟨W,hW,ae⟩:=zk HI.out hi
   obtain⟨x,hx⟩:∃ x:UInt8,S[i]'hi=x:=⟨_,rfl⟩
   have ag:s[i]?=some x:=by rw[HD.out i hi,hx]
   by_cases ha:x.toNat<128
   ·rw[decode_ascii S i hi (by rw[hx];exact ha),hx] at hW ae
    dsimp only at hW ae
    have HW:=zh hW
    have HX:=zh ag
    have ac:Hid (i<S.size):=hi
    have aa:=Lib.contains_iff_indexByte sp3 x
    have ab:((x.toNat:Int)).toNat.toUInt8=x:=by simp
    clear hx ag hW hi
    cases ad:sp3.contains x
    ·rw[ad] at aa
     have al:¬ ((0:Int)<=Lib.indexByte sp3 x):=of_decide_eq_false aa.symm
     have ah:=zh (HN.out.succ HX.out ad)
     clear aa ad
     go_wp2_with fail
     refine (Tryz.strings_IndexRune_ascii _ _ _ (by omega) (by omega)).mono ?_
     rintro e w' ⟨rfl,hw⟩;rw[hw,ab,mB]
     go_wp2_with fail
     go_roundg (S.size-(i+1))
     case measure=>have:=ac.out;omega
     case rel=>exact⟨i+1,rfl,HW.out,ah.out⟩
    ·rw[ad] at aa
     have am:(0:Int)<=Lib.indexByte sp3 x:=of_decide_eq_true aa.symm
     have aj:Hid ((i:Int)=K):=by show _=_;rw[<-HK.out,Lib.indexAny_hit HN.out HX.out ad]
     clear aa ad
     go_wp2_with fail
     refine (Tryz.strings_IndexRune_ascii _ _ _ (by omega) (by omega)).mono ?_
     rintro e w' ⟨rfl,hw⟩;rw[hw,ab,mB]
     go_wp2_with fail
     go_ret
     exact⟨by first | rfl | (rw[<-aj.out];rfl),HW.out.2⟩
   ·obtain⟨hc,hk⟩:=decode_high S i hi (by rw[hx];omega)
    have af:Lib.NoAny s sp3 (i+(Utf8.decode S i).2):=s9 HN.out (fun j b h1 h2 hb=>by
     have hj:j<S.size:=by rw[HZ.out];exact (List.getElem?_eq_some_iff.1 hb).1
     have e:=HD.out j hj
     rw[hb] at e
     cases e
     by_cases ak:j=i
     ·subst ak;rw[hx];omega
     ·have:=qM S i j (by omega) h2
      rw[show S.get! j=S[j] by simp[ByteArray.get!,getElem!_pos,hj];rfl] at this
      exact this)
    obtain⟨⟨c,k⟩,hd⟩:∃ p,Utf8.decode S i=p:=⟨_,rfl⟩
    rw[hd] at hW ae hc hk af
    dsimp only at hW ae hc hk af
    have HW:=zh hW
    have ah:=zh af
    have ac:Hid (i<S.size/\1<=k/\128<=c):=⟨hi,hk,hc⟩
    clear hx ag hW hi hd af hc hk ha
    go_wp2_with fail
    refine (np _ _ (by have:=ac.out.2.2;omega)).mono ?_
    rintro e w' ⟨rfl,hb⟩
    have HB:=zh (xt HW.out hb)
    clear hb
    go_wp2_with fail
    go_roundg (S.size-(i+k))
    case measure=>have:=ac.out;omega
    case rel=>exact⟨i+k,rfl,HB.out,ah.out⟩
  ·have ae:=aam HI.out hi
   have ac:Hid (¬ i<S.size):=hi
   clear hi
   go_wp2_with fail
   go_ret
   exact⟨by rw[<-HK.out,Lib.indexAny_none (fun j b hj hb=>HN.out j b (by have:=ac.out;have:=HZ.out;omega) hb)];rfl,HI.out.2⟩
theorem uQ:∀ (j:Nat) b,(⟨#[32,40,41]⟩:ByteArray).data.toList[j]?=some b->b.toNat<128:=fun _j b h=>iQ b (List.mem_of_getElem? (l:=sp3) h)
theorem nq (s:List UInt8)(w:World)(hs:s.length<=1000000) :
  Calls Tryz.prog 199 #[.string ⟨s.toArray⟩,.string ⟨#[32,40,41]⟩] w fun e w'=>e=.returned (.int .i64 (Lib.indexAny s sp3))/\Below w.heap.size w w':=by
 by_cases h8:s.length<=8
 ·exact kt s w h8
 ·refine (Tryz.strings_IndexAny_long (fun _=>by kernel_rfl) ⟨s.toArray⟩ ⟨#[32,40,41]⟩ w (by decide) (by show 8<s.length;omega) (by show s.length<_;omega) (by decide) uQ).mono ?_
  rintro e w' ⟨rfl,rfl⟩
  exact⟨rfl,((Below.refl _ _).alloc (Nat.le_refl _) _).alloc (by simp) _⟩
theorem eF (s:List UInt8)(w:World)(hs:s.length<=1000000) :
  Calls Tryz.prog 317 #[.string ⟨s.toArray⟩,.string ⟨#[32,40,41]⟩] w fun e w'=>e=.returned (.bool (s.any sp3.contains))/\Below w.heap.size w w':=by
 have aa:decide ((0:Int)<=Lib.indexAny s sp3)=s.any sp3.contains:=by
  induction s with
  | nil=>rfl
  | cons b l ih =>
   have hl:=ih (by simp at hs;omega)
   have hg:=Lib.indexAny_ge sp3 l
   rw[List.any_cons,<-hl,Lib.indexAny]
   cases hc:sp3.contains b
   ·simp only[Bool.false_eq_true,if_false,Bool.false_or,decide_eq_decide]
    split <;> simp_all <;> omega
   ·simp
 obtain⟨K,hK⟩:=ex (s.any sp3.contains)
 rw[hK] at aa ⊢
 have HA:=zh aa
 clear aa hK
 go_enter Tryz.func317,Tryz.ntmps317
 go_wp2_with fail
 refine (nq s _ hs).mono ?_
 rintro e w' ⟨rfl,hb⟩
 have HB:=zh hb
 clear hb
 go_wp2_with fail
 go_ret
 exact⟨by rw[<-HA.out];rfl,HB.out⟩
end
section
open Go.RowKit Rs At
theorem xu (s:List UInt8):wordB s=(!s.isEmpty&&!(s.any sp3.contains)):=by
 unfold wordB
 congr 1
 induction s with
 | nil=>rfl
 | cons b l ih =>
  rw[List.all_cons,List.any_cons,ih,Bool.not_or]
  congr 1
  unfold wordC sp3
  simp only[List.contains_cons,List.contains_nil,Bool.or_false]
theorem eT (s:List UInt8)(w:World)(hs:s.length<=1000000) :
  Calls Tryz.prog 308 #[.string ⟨s.toArray⟩] w fun e w'=>e=(if wordB s then .returned (.tuple #[]) else pan 2)/\Below w.heap.size w w':=by
 rw[xu]
 cases he:s.isEmpty
 ·cases ha:s.any sp3.contains
  ·go_enter Tryz.func308,Tryz.ntmps308
   go_wp2_with fail
   refine (eF s _ hs).mono ?_
   rintro _ u ⟨rfl,hb⟩
   rw[ha]
   go_wp2_with fail
   refine (ah _).mono ?_
   rintro _ u2 ⟨rfl,rfl⟩
   go_wp2_with fail
   go_end0
   exact⟨rfl,hb⟩
  ·go_enter Tryz.func308,Tryz.ntmps308
   go_wp2_with fail
   refine (eF s _ hs).mono ?_
   rintro _ u ⟨rfl,hb⟩
   rw[ha]
   go_wp2_with fail
   refine (ai _).mono ?_
   rintro _ u2 ⟨rfl,rfl⟩
   go_wp2_with fail
   exact⟨rfl,rfl,hb⟩
 ·go_enter Tryz.func308,Tryz.ntmps308
  go_wp2_with fail
  refine (ai _).mono ?_
  rintro _ u2 ⟨rfl,rfl⟩
  go_wp2_with fail
  exact⟨rfl,rfl,Below.refl _ _⟩
theorem xv (s:List UInt8):ofE s [48]=if signB s then 0 else 2:=by
 unfold ofE signB
 cases sgnOf s with
 | none=>rfl
 | some i=>show Vm.check [48]=0;decide
theorem eU (s:List UInt8)(w:World)(hw:MaxOk w) :
  Calls Tryz.prog 341 #[.string ⟨s.toArray⟩] w fun e w'=>e=(if signB s then .returned (.tuple #[]) else pan 2)/\Below w.heap.size w w':=by
 have hk:=xv s
 cases hb:signB s
 ·rw[hb] at hk
  have HK:Hid (ofE s [48]=2):=hk
  clear hk
  go_enter Tryz.func341,Tryz.ntmps341
  go_wp2_with fail
  refine (oK s [48] _ hw).mono ?_
  rintro _ u ⟨⟨C,d,rfl,_,_⟩,aa⟩
  rw[HK.out]
  go_wp2_with fail
  refine (ai _).mono ?_
  rintro _ u2 ⟨rfl,rfl⟩
  go_wp2_with fail
  exact⟨rfl,rfl,aa⟩
 ·rw[hb] at hk
  have HK:Hid (ofE s [48]=0):=hk
  clear hk
  go_enter Tryz.func341,Tryz.ntmps341
  go_wp2_with fail
  refine (oK s [48] _ hw).mono ?_
  rintro _ u ⟨⟨C,d,rfl,_,_⟩,aa⟩
  rw[HK.out]
  go_wp2_with fail
  refine (ah _).mono ?_
  rintro _ u2 ⟨rfl,rfl⟩
  go_wp2_with fail
  go_end0
  exact⟨rfl,aa⟩
theorem rM (c:UInt8)(s:List UInt8)(w:World)(hm:MaxOk w)(hl:s.length<=1000000) :
  Calls Tryz.prog 122 #[.string ⟨s.toArray⟩,.string ⟨#[c]⟩] w fun e w'=>e=.returned (.tuple #[.string ⟨(Vm.fst c s).toArray⟩,.string ⟨(if Vm.has c s then Vm.snd c s else []).toArray⟩,.bool (Vm.has c s)])/\Below w.heap.size w w':=by
 obtain⟨m,hm⟩:=hm
 refine (Tryz.strings_Cut ⟨s.toArray⟩ ⟨#[c]⟩ m w (by show s.length<_;omega) hm).mono fun e w' ⟨h1,n,h2⟩=>⟨?_,h2 ▸ below_drewN (Below.refl _ _) n⟩
 rw[h1]
 have e:Lib.cut (⟨s.toArray⟩:ByteArray).data.toList (⟨#[c]⟩:ByteArray).data.toList=Lib.cut s [c]:=rfl
 rw[e,lB]
 cases h:Vm.has c s
 ·rw[(At.oL (c:=c) (p:=s) (fun hm=>by unfold Vm.has at h;rw[List.contains_iff_mem.2 hm] at h;cases h)).1];rfl
 ·rfl
theorem xw (s:List UInt8)(w:World)(hw:MaxOk w)(h:signB s=true):Calls Tryz.prog 341 #[.string ⟨s.toArray⟩] w fun e w'=>e=.returned (.tuple #[])/\Below w.heap.size w w':=by
 have:=eU s w hw;rw[h] at this;exact this
theorem zm (s:List UInt8)(w:World)(hw:MaxOk w)(h:signB s=false):Calls Tryz.prog 341 #[.string ⟨s.toArray⟩] w fun e w'=>e=pan 2/\Below w.heap.size w w':=by
 have:=eU s w hw;rw[h] at this;exact this
theorem oQ (s:List UInt8)(w:World)(hs:s.length<=1000000)(h:wordB s=true):Calls Tryz.prog 308 #[.string ⟨s.toArray⟩] w fun e w'=>e=.returned (.tuple #[])/\Below w.heap.size w w':=by
 have:=eT s w hs;rw[h] at this;exact this
theorem rN (s:List UInt8)(w:World)(hs:s.length<=1000000)(h:wordB s=false):Calls Tryz.prog 308 #[.string ⟨s.toArray⟩] w fun e w'=>e=pan 2/\Below w.heap.size w w':=by
 have:=eT s w hs;rw[h] at this;exact this
def CondR (R:Option Cond) (e:Ending):Prop:=match R with | some c=>e=.returned (.agg #[.string ⟨c.1.toArray⟩,.string ⟨c.2.toArray⟩]) | none=>e=pan 2
def CondOk (w:World) (s:List UInt8) (e:Ending) (w':World):Prop:=CondR (condP s) e/\Below w.heap.size w w'
theorem dJ (s:List UInt8)(w:World)(hw:MaxOk w)(hs:s.length<=1000000) :
  Calls Tryz.prog 330 #[.string ⟨s.toArray⟩] w (CondOk w s):=by
 obtain⟨R,hR⟩:=ex (condP s)
 obtain⟨W1,ao⟩:=ex (w.alloc (.cells #[.string ⟨#[]⟩,.string ⟨#[]⟩] 296))
 have ai:Hid (Below w.heap.size w W1):=by rw[<-ao];exact (Below.refl _ _).alloc (Nat.le_refl _) _
 have aj:Hid (MaxOk W1):=ab hw ai.out
 obtain⟨x,hx⟩:=ex (Vm.fst 32 s)
 obtain⟨y,hy⟩:=ex (if Vm.has 32 s then Vm.snd 32 s else [])
 obtain⟨b,hb⟩:=ex (Vm.has 32 s)
 have HR:Hid (R=if signB x&&wordB y then some (x,y) else none):=by
  show _=_
  rw[<-hR,<-hx,<-hy]
  unfold condP
  cases h:Vm.has 32 s
  ·simp[wordB]
  ·simp
 have HY:Hid (y.length<=1000000):=by
  show _<=_
  rw[<-hy]
  split
  ·
   (unfold Vm.snd;rw[List.length_drop];have:=(List.dropWhile_sublist (. != (32:UInt8)) (l:=s)).length_le;omega)
  ·simp
 unfold CondOk
 rw[hR]
 have ah:=rM 32 s W1 aj.out hs
 rw[hx,hy,hb] at ah
 have HC:=zh ah
 clear hR hx hy hb ah hw hs
 go_enter Tryz.func330,Tryz.ntmps330
 go_wp2_with fail
 refine HC.out.mono ?_
 rintro _ u1 ⟨rfl,ag⟩
 have ak:Hid (Below w.heap.size w u1):=bt ai.out ag
 have al:Hid (MaxOk u1):=ab aj.out ag
 have ap:Hid (Below W1.heap.size W1 u1):=ag
 clear ag
 go_wp2_with fail
 cases aa:signB x
 ·have ad:Hid (R=none):=by show _=_;rw[HR.out,aa];rfl
  refine (zm x _ al.out aa).mono ?_
  clear aa
  rintro _ u2 ⟨rfl,ae⟩
  go_wp2_with fail
  exact⟨rfl,by show CondR R _;rw[ad.out];rfl,bt ak.out ae⟩
 ·refine (xw x _ al.out aa).mono ?_
  rintro _ u2 ⟨rfl,ae⟩
  have am:Hid (Below w.heap.size w u2):=bt ak.out ae
  have aq:Hid (Below W1.heap.size W1 u2):=bt ap.out ae
  have an:=zh aa
  clear ae aa
  go_wp2_with fail
  cases ac:wordB y
  ·have ad:Hid (R=none):=by show _=_;rw[HR.out,an.out,ac];rfl
   refine (rN y _ HY.out ac).mono ?_
   clear ac
   rintro _ u3 ⟨rfl,af⟩
   go_wp2_with fail
   exact⟨rfl,by show CondR R _;rw[ad.out];rfl,bt am.out af⟩
  ·have ad:Hid (R=some (x,y)):=by show _=_;rw[HR.out,an.out,ac];rfl
   refine (oQ y _ HY.out ac).mono ?_
   clear ac
   rintro _ u3 ⟨rfl,af⟩
   have ar:Hid (Below w.heap.size w u3):=bt am.out af
   have au:Hid (Below W1.heap.size W1 u3):=bt aq.out af
   obtain⟨q0,q1,z0,z1⟩:=bF ao au.out
   clear af
   go_wp2_with fail
   have e0:((u3.setCell ⟨w.heap.size,0,none⟩ (.string ⟨x.toArray⟩)).setCell ⟨w.heap.size,1,none⟩ (.string ⟨y.toArray⟩)).cell? ⟨w.heap.size,0,none⟩=some (.string ⟨x.toArray⟩):=by simp[go_sem,q0]
   have e1:((u3.setCell ⟨w.heap.size,0,none⟩ (.string ⟨x.toArray⟩)).setCell ⟨w.heap.size,1,none⟩ (.string ⟨y.toArray⟩)).cell? ⟨w.heap.size,1,none⟩=some (.string ⟨y.toArray⟩):=by simp[go_sem,q1]
   refine bodyPost_ret (v:=.agg #[.string ⟨x.toArray⟩,.string ⟨y.toArray⟩]) (by simp[results,Tryz.results330,go_sem,e0,e1]) rfl ⟨?_,?_⟩
   ·show CondR R _;rw[ad.out];rfl
   ·exact (ar.out.setCell (Nat.le_refl _) _).setCell (Nat.le_refl _) _
end
end Go.Proofs.YtgnaiidgjmicaaaGreatDoor

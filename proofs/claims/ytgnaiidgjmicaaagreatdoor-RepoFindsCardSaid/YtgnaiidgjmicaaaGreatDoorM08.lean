/- Part 8 of what the laws lean on. -/
import Derived.Test.YtgnaiidgjmicaaaGreatDoorM07
import Derived.Deep.DeepCutAuto
set_option maxRecDepth 100000
set_option maxHeartbeats 3200000
namespace Go.Proofs.YtgnaiidgjmicaaaGreatDoor
section
open Go.RowKit
attribute [local go_sem ↓] Go.wp_at_zero Go.wp_at_succ
def encC (c:Rs.Cut):List Value:=[.string ⟨(Rs.txt c).toArray⟩,.int .i64 (sideI c)]
theorem fitsC:Rg.Fits encC 2:=⟨fun _=>rfl,fun x u hu=>by
 simp only[encC,List.mem_cons,List.not_mem_nil,or_false] at hu
 rcases hu with rfl | rfl <;> rfl⟩
theorem fitsS:Rg.Fits Rs.spC 4:=⟨fun _=>rfl,fun x u hu=>by
 simp only[Rs.spC,List.mem_cons,List.not_mem_nil,or_false] at hu
 rcases hu with rfl | rfl | rfl | rfl <;> rfl⟩
theorem sliceC:Rg.SliceT Tryz.prog encC 2 344 221:=⟨fitsC,by decide,by kernel_rfl,Rg.b8 (z:=.agg #[.string ByteArray.empty,.int .i64 0]) (b:=24) (by kernel_rfl) (by rfl) (by decide)⟩
theorem sliceS:Rg.SliceT Tryz.prog Rs.spC 4 49 145:=⟨fitsS,by decide,by kernel_rfl,Rg.b8 (z:=.agg #[.string ByteArray.empty,.string ByteArray.empty,.bool false,.bool false]) (b:=40) (by kernel_rfl) (by rfl) (by decide)⟩
abbrev COwn (w:World) (B:Nat) (v:Value) (l:List Rs.Cut):Prop:=Rg.Own encC 2 w B 221 v l
abbrev POwn (w:World) (B:Nat) (v:Value) (l:List Rs.Sp):Prop:=Rg.Own Rs.spC 4 w B 145 v l
def cutsS (l:List Rs.Sp):List Rs.Cut:=l.flatMap fun s=>[Rs.loC s.lo s.li,Rs.hiC s.hi s.hn]
theorem yX (l:List Rs.Sp)(k:Nat)(h:k<l.length)(lo hi:List UInt8)(li hn:Bool)(hs:l[k]=⟨lo,hi,li,hn⟩):cutsS (l.take (k+1))=cutsS (l.take k)++[Rs.loC lo li,Rs.hiC hi hn]:=by
 rw[List.take_succ_eq_append_getElem h,hs];unfold cutsS;rw[List.flatMap_append];rfl
theorem aau (l:List Rs.Sp):(cutsS l).length=l.length*2:=by
 induction l with
 | nil=>rfl
 | cons s l ih=>show (_ :: _ :: cutsS l).length=_;rw[List.length_cons,List.length_cons,ih,List.length_cons];omega
theorem yY (l:List Rs.Sp):cutsS l=Rm.cuts (l.map Rs.Sp.piece):=by
 induction l with
 | nil=>rfl
 | cons s l ih=>rw[List.map_cons,Rm.fo,<-ih];rfl
def CutsRet (w:World) (l:List Rs.Cut) (e:Ending) (w':World):Prop:=∃ v,e=.returned v/\COwn w' w.heap.size v l/\Below w.heap.size w w'
theorem news2 (w:World)(lo hi:List UInt8)(li hn:Bool)(T:TypeId):∀ j u,(Rg.flat encC [Rs.loC lo li,Rs.hiC hi hn])[j]?=some u->(w.alloc (.cells #[.string ⟨lo.toArray⟩,.int .i64 (sLo lo li),.string ⟨hi.toArray⟩,.int .i64 (sHi hi hn)] T)).cell? ((⟨w.heap.size,0,none⟩:Addr).add j)=some u :=
 Rg.az w T _ _ (by
  obtain⟨e1,e2⟩:=s9 lo li
  obtain⟨e3,e4⟩:=tc hi hn
  show [_,_,_,_]=[_,_,_,_]
  rw[e1,e2,e3,e4])
section
variable {α:Type} {enc:α->List Value} {K B:Nat} {T:TypeId} {v:Value} {l:List α} {A:World->Prop} {w wr u W5:World} {o:Obj}
theorem pq (hI:Hid (Kp (fun u=>A u/\Rg.Own enc K u B T v l) wr u)):Rg.Own enc K (u.alloc o) B T v l:=Rg.own_below hI.out.1.2 ((Below.refl _ _).alloc (Nat.le_refl _) _)
theorem mL (hI:Hid (Kp A wr u))(hB:B<=wr.heap.size):B<=(u.alloc o).heap.size:=by have:=hI.out.2.1;simp;omega
theorem tq (hB:Hid (Below w.heap.size w wr/\w.heap.size<=wr.heap.size))(hI:Hid (Kp (fun u=>A u/\Rg.Own enc K u w.heap.size T v l) wr u))(hg:(u.alloc o).grownBy W5 v.ownBlock):Hid (Below w.heap.size w W5/\w.heap.size<=W5.heap.size):=by
 have h1:Below w.heap.size w (u.alloc o):=(hB.out.1.trans (hI.out.2.2.mono hB.out.2)).alloc (Nat.le_trans hB.out.2 hI.out.2.1) _
 have h2:w.heap.size<=(u.alloc o).heap.size:=mL hI hB.out.2
 exact⟨h1.trans (Rg.aA (pq hI) h2 hg),Nat.le_trans h2 hg.size⟩
end
theorem yZ (A:Option Addr)(c:Nat)(l:List Rs.Sp)(w:World)(hr:Rs.SRow w A l)(hl:l.length<=1000) :
  Calls Tryz.prog 323 #[.slice A l.length c] w (CutsRet w (cutsS l)):=by
 have HR:=zh hr
 clear hr
 go_enter Tryz.func323,Tryz.ntmps323
 go_wp2_with fail
 go_loopw [3,8] (fun v i wr=>∃ k:Nat,k<=l.length/\i=.int .i64 k/\Hid (COwn wr w.heap.size v (cutsS (l.take k)))/\Hid (Below w.heap.size w wr/\w.heap.size<=wr.heap.size)) (fun _ i _=>l.length-(intOf i).toNat)
 case atStart=>exact⟨0,Nat.zero_le _,rfl,Rg.aB _ _ _,Below.refl _ _,Nat.le_refl _⟩
 case round =>
  obtain⟨k,hk,rfl,HO,HB⟩:=hrel
  by_cases ac:k<l.length
  ·obtain⟨ad,lo,hi,li,hn,rfl,hs,ak,c0,c1,c2,c3⟩:=bM (Rs.ao HR.out HB.out.1) k ac
   have ah:(cutsS (l.take k)).length+2<=1000000:=by rw[aau,List.length_take];omega
   have HT:=zh (yX l k ac lo hi li hn hs)
   clear hs
   have ae:Stable (fun u=>Box u wr.heap.size lo hi li hn/\COwn u w.heap.size u3 (cutsS (l.take k))):=jI (dI _ _ _ _ _) (fun _ _ h hb=>Rg.own_below h hb)
   have HI:Hid (Kp (fun u=>Box u wr.heap.size lo hi li hn/\COwn u w.heap.size u3 (cutsS (l.take k))) wr ((wr.alloc (.cells #[.string ⟨lo.toArray⟩,.string ⟨hi.toArray⟩,.bool li,.bool hn] 145)).drew)) :=
    ⟨⟨ck ..,Rg.own_below HO.out (((Below.refl _ _).alloc (Nat.le_refl _) _).drew)⟩,by simp,((Below.refl _ _).alloc (Nat.le_refl _) _).drew⟩
   go_wp2_with fail
   go_region_law (first
    | (go_simp;go_at_call 168;refine (bQ _ _ _ _ _).mono ?_;rintro _ w4 ⟨rfl,hb⟩;have aa:=bg ae hb (by assumption);clear hb;obtain⟨⟨⟨k0,k1,k2,k3,_⟩,_⟩,_⟩:=aa.out)
    | (go_simp;go_at_call 170;refine (c9 _ _ _ _ _).mono ?_;rintro _ w4 ⟨rfl,hb⟩;have aa:=bg ae hb (by assumption);clear hb;obtain⟨⟨⟨k0,k1,k2,k3,_⟩,_⟩,_⟩:=aa.out)
    | (refine Rg.cH sliceC (by rfl) (.tmp 12) (.tmp 17) (by rfl) w.heap.size u3 (cutsS (l.take k)) [Rs.loC lo li,Rs.hiC hi hn] (by rfl) (pq (by assumption)) _ _ (by rfl) (news2 _ lo hi li hn _) (Nat.zero_lt_succ _) ah (mL (by assumption) HB.out.2) ?_;intro v5 W5 af ag aj;have ai:=tq HB (by assumption) ag))
   all_goals
    have ab:Hid (COwn W5 w.heap.size v5 (cutsS (l.take (k+1)))):=by show COwn _ _ _ _;rw[HT.out];exact af
    clear af ag aj
    go_wp2_with fail
    go_roundw
    case rel=>exact⟨k+1,by omega,by go_num,ab,ai⟩
    case measure=>simp[intOf];omega
  ·obtain rfl:k=l.length:=by omega
   have ab:Hid (COwn wr w.heap.size u3 (cutsS l)):=by have:=HO.out;rwa [List.take_length] at this
   clear HO
   go_wp2_with fail
   go_ret
   exact⟨_,rfl,ab.out,HB.out.1⟩
end
section
open Go.RowKit
attribute [local go_sem ↓] Go.wp_at_zero Go.wp_at_succ
abbrev CRow (w:World) (A:Option Addr) (l:List Rs.Cut):Prop:=Rg.Row encC 2 w A l
def nextS:List Rs.Cut->List Rs.Cut->Rs.Cut × Nat × Nat
 | c :: _,[]=>(c,1,0)
 | [],d :: _=>(d,0,1)
 | c :: _,d :: _=>if Rm.lt Rs.Ln c d then (c,1,0) else if Rm.lt Rs.Ln d c then (d,0,1) else (c,1,1)
 | [],[]=>(.bot,0,0)
theorem cutAt {w:World}{p:Addr}{c:Rs.Cut}(h:Rg.At encC w p c):w.cell? p=some (.string ⟨(Rs.txt c).toArray⟩)/\w.cell? ⟨p.block,p.off+1,none⟩=some (.int .i64 (sideI c)):=⟨h 0 _ rfl,h 1 _ rfl⟩
theorem ig {w:World}{A:Option Addr}{c:Rs.Cut}{l:List Rs.Cut}(h:CRow w A (c :: l)):∃ ad,A=some ad/\ad.block<w.heap.size/\w.cell? ad=some (.string ⟨(Rs.txt c).toArray⟩)/\w.cell? ⟨ad.block,ad.off+1,none⟩=some (.int .i64 (sideI c)):=by
 obtain⟨ad,e,hl,hc⟩:=h (by simp)
 have:=cutAt (hc 0 (by simp))
 rw[Nat.zero_mul,Rg.add_zero] at this
 exact⟨ad,e,hl,this.1,this.2⟩
def NextRet (w:World) (x:Rs.Cut × Nat × Nat) (e:Ending) (w':World):Prop:=e=.returned (.tuple #[.agg #[.string ⟨(Rs.txt x.1).toArray⟩,.int .i64 (sideI x.1)],.int .i64 x.2.1,.int .i64 x.2.2])/\Below w.heap.size w w'
theorem aav (A B:Option Addr)(ca cb:Nat)(c:Rs.Cut)(a:List Rs.Cut)(w:World)(ha:CRow w A (c :: a))(hl:a.length<=10000) :
  Calls Tryz.prog 334 #[.slice A (a.length+1) ca,.slice B 0 cb] w (NextRet w (c,1,0)):=by
 obtain⟨ad,rfl,aa,c0,c1⟩:=ig ha
 clear ha
 go_enter Tryz.func334,Tryz.ntmps334
 go_wp2_with fail
 exact bodyPost_ret (v:=.tuple #[.agg #[.string ⟨(Rs.txt c).toArray⟩,.int .i64 (sideI c)],.int .i64 1,.int .i64 0]) (by simp[results,Tryz.results334,go_sem]) rfl ⟨rfl,(Below.refl _ _).alloc (Nat.le_refl _) _⟩
theorem y6 (A B:Option Addr)(ca cb:Nat)(d:Rs.Cut)(b:List Rs.Cut)(w:World)(hb:CRow w B (d :: b))(_hl:b.length<=10000) :
  Calls Tryz.prog 334 #[.slice A 0 ca,.slice B (b.length+1) cb] w (NextRet w (d,0,1)):=by
 obtain⟨ad,rfl,aa,c0,c1⟩:=ig hb
 clear hb
 go_enter Tryz.func334,Tryz.ntmps334
 go_wp2_with fail
 exact bodyPost_ret (v:=.tuple #[.agg #[.string ⟨(Rs.txt d).toArray⟩,.int .i64 (sideI d)],.int .i64 0,.int .i64 1]) (by simp[results,Tryz.results334,go_sem]) rfl ⟨rfl,(Below.refl _ _).alloc (Nat.le_refl _) _⟩
theorem keepN {w u u':World}{p q:Addr}{e f g h:Value}(hp:p.block<w.heap.size)(hq:q.block<w.heap.size)(hh:u.cell? p=some e/\u.cell? ⟨p.block,p.off+1,none⟩=some f/\u.cell? q=some g/\u.cell? ⟨q.block,q.off+1,none⟩=some h/\u.heap[w.heap.size]?=some (.cells #[.string ⟨#[]⟩,.int .i64 0] 221 (0,0))/\w.heap.size<u.heap.size/\Below w.heap.size w u)(hb:Below u.heap.size u u') :
  u'.cell? p=some e/\u'.cell? ⟨p.block,p.off+1,none⟩=some f/\u'.cell? q=some g/\u'.cell? ⟨q.block,q.off+1,none⟩=some h/\u'.heap[w.heap.size]?=some (.cells #[.string ⟨#[]⟩,.int .i64 0] 221 (0,0))/\w.heap.size<u'.heap.size/\Below w.heap.size w u':=by
 obtain⟨h0,h1,h2,h3,h4,h5,h6⟩:=hh
 refine⟨?_,?_,?_,?_,(hb.block _ h5).trans h4,Nat.lt_of_lt_of_le h5 hb.size,h6.trans (hb.mono (Nat.le_of_lt h5))⟩
 ·rw[hb.cell (by omega)];exact h0
 ·rw[hb.cell (by show p.block<_;omega)];exact h1
 ·rw[hb.cell (by omega)];exact h2
 ·rw[hb.cell (by show q.block<_;omega)];exact h3
theorem acs {c d:Rs.Cut}:(Rm.lt Rs.Ln c d=true/\ordI c d = -1)\/(Rm.lt Rs.Ln c d=false/\Rm.lt Rs.Ln d c=true/\ordI c d=1)\/(Rm.lt Rs.Ln c d=false/\Rm.lt Rs.Ln d c=false/\ordI c d=0):=by
 unfold ordI
 cases Rm.lt Rs.Ln c d <;> cases Rm.lt Rs.Ln d c <;> simp
theorem aaw (A B:Option Addr)(ca cb:Nat)(c d:Rs.Cut)(a b:List Rs.Cut)(w:World)(hw:MaxOk w)(ha:CRow w A (c :: a))(hb:CRow w B (d :: b))(gc:CutG c)(gd:CutG d)(hla:a.length<=10000)(hlb:b.length<=10000) :
  Calls Tryz.prog 334 #[.slice A (a.length+1) ca,.slice B (b.length+1) cb] w (NextRet w (nextS (c :: a) (d :: b))):=by
 have HM:=zh hw
 obtain⟨p,rfl,ae,c0,c1⟩:=ig ha
 obtain⟨q,rfl,af,d0,d1⟩:=ig hb
 have HC:=zh (kF gc gd)
 have H1:Hid ((Rs.txt c).isEmpty=false->Vm.check (Rs.txt c)=0):=fun h=>nM gc h
 have H2:Hid ((Rs.txt d).isEmpty=false->Vm.check (Rs.txt d)=0):=fun h=>nM gd h
 have hx:nextS (c :: a) (d :: b)=if Rm.lt Rs.Ln c d then (c,1,0) else if Rm.lt Rs.Ln d c then (d,0,1) else (c,1,1):=rfl
 obtain⟨W,hW⟩:=ex (w.alloc (.cells #[.string ⟨#[]⟩,.int .i64 0] 221))
 have ah:W.heap[w.heap.size]?=some (.cells #[.string ⟨#[]⟩,.int .i64 0] 221 (0,0)):=by rw[<-hW];exact heap_alloc_new w _
 have ai:w.heap.size<W.heap.size:=by rw[<-hW];simp
 have ab:Below w.heap.size w W:=by rw[<-hW];exact (Below.refl _ _).alloc (Nat.le_refl _) _
 have e0:W.cell? p=some (.string ⟨(Rs.txt c).toArray⟩):=by rw[ab.cell ae];exact c0
 have e1:W.cell? ⟨p.block,p.off+1,none⟩=some (.int .i64 (sideI c)):=by rw[ab.cell (by exact ae)];exact c1
 have f0:W.cell? q=some (.string ⟨(Rs.txt d).toArray⟩):=by rw[ab.cell af];exact d0
 have f1:W.cell? ⟨q.block,q.off+1,none⟩=some (.int .i64 (sideI d)):=by rw[ab.cell (by exact af)];exact d1
 clear c0 c1 d0 d1
 clear ha hb gc gd hw
 go_enter Tryz.func334,Tryz.ntmps334
 go_wp2_with fail
 have HW:=zh ah
 clear hW ah
 go_region_held3 (fun w'=>w'.cell? p=some (.string ⟨(Rs.txt c).toArray⟩)/\w'.cell? ⟨p.block,p.off+1,none⟩=some (.int .i64 (sideI c))/\w'.cell? q=some (.string ⟨(Rs.txt d).toArray⟩)/\w'.cell? ⟨q.block,q.off+1,none⟩=some (.int .i64 (sideI d))/\w'.heap[w.heap.size]?=some (.cells #[.string ⟨#[]⟩,.int .i64 0] 221 (0,0))/\w.heap.size<w'.heap.size/\Below w.heap.size w w')
  (first
   | exact⟨e0,e1,f0,f1,HW.out,ai,ab.drew⟩
   | assumption
   | (refine keepN ae af ?_ hb;assumption))
  (first
   | (go_at_call 169;refine (aO _ _ _ _ _ ?_ H1.out H2.out).mono ?_;(go_split_ands;exact ag HM.out (by assumption));rintro _ w1 ⟨rfl,hb⟩))
 rename_i w1 _ HS
 obtain⟨g0,g1,k0,k1,aa,aj,ad⟩:=HS
 have HB:=zh ad
 have r0:w1.cell? ⟨w.heap.size,0,none⟩=some (.string ⟨#[]⟩):=by simp[World.cell?,aa]
 have r1:w1.cell? ⟨w.heap.size,1,none⟩=some (.int .i64 0):=by simp[World.cell?,aa]
 have r2:w1.frozen? ⟨w.heap.size,0,none⟩=false:=by simp[World.frozen?,aa]
 have r3:w1.frozen? ⟨w.heap.size,1,none⟩=false:=by simp[World.frozen?,aa]
 clear aa e0 e1 f0 f1 HW ab ad
 rw[HC.out]
 have ac:=zh hx
 clear hx
 rcases (acs (c:=c) (d:=d)) with⟨l1,ho⟩ | ⟨l1,l2,ho⟩ | ⟨l1,l2,ho⟩
 ·have HX:Hid (nextS (c :: a) (d :: b)=(c,1,0)):=by show _=_;rw[ac.out,if_pos l1]
  clear l1 ac
  rw[ho]
  clear ho
  go_wp2_with fail
  exact bodyPost_ret (v:=.tuple #[.agg #[.string ⟨(Rs.txt c).toArray⟩,.int .i64 (sideI c)],.int .i64 1,.int .i64 0]) (by simp[results,Tryz.results334,go_sem,r0,r1]) rfl (by rw[HX.out];exact⟨rfl,(HB.out.setCell (Nat.le_refl _) _).setCell (Nat.le_refl _) _⟩)
 ·have HX:Hid (nextS (c :: a) (d :: b)=(d,0,1)):=by show _=_;rw[ac.out,l1,if_neg Bool.false_ne_true,if_pos l2]
  clear l1 l2 ac
  rw[ho]
  clear ho
  go_wp2_with fail
  exact bodyPost_ret (v:=.tuple #[.agg #[.string ⟨(Rs.txt d).toArray⟩,.int .i64 (sideI d)],.int .i64 0,.int .i64 1]) (by simp[results,Tryz.results334,go_sem,r0,r1]) rfl (by rw[HX.out];exact⟨rfl,(HB.out.setCell (Nat.le_refl _) _).setCell (Nat.le_refl _) _⟩)
 ·have HX:Hid (nextS (c :: a) (d :: b)=(c,1,1)):=by show _=_;rw[ac.out,l1,if_neg Bool.false_ne_true,l2,if_neg Bool.false_ne_true]
  clear l1 l2 ac
  rw[ho]
  clear ho
  go_wp2_with fail
  exact bodyPost_ret (v:=.tuple #[.agg #[.string ⟨(Rs.txt c).toArray⟩,.int .i64 (sideI c)],.int .i64 1,.int .i64 1]) (by simp[results,Tryz.results334,go_sem,r0,r1]) rfl (by rw[HX.out];exact⟨rfl,(HB.out.setCell (Nat.le_refl _) _).setCell (Nat.le_refl _) _⟩)
end
section
open Go.RowKit
attribute [local go_sem ↓] Go.wp_at_zero Go.wp_at_succ
theorem qu {w:World}{A:Option Addr}{l:List Rs.Cut}(h:CRow w A l)(i:Nat)(A':Option Addr)(hA:i<l.length->A'=A.map (·.add (i*2))):CRow w A' (l.drop i):=by
 intro h0
 rw[List.length_drop] at h0
 obtain⟨ad,e,hl,hc⟩:=h (by omega)
 refine⟨ad.add (i*2),by rw[hA (by omega),e];rfl,by rw[Rs.add_block];exact hl,fun j hj=>?_⟩
 rw[List.length_drop] at hj
 have:=hc (i+j) (by omega)
 rw[List.getElem_drop,Go.Deep.add_add,show i*2+j*2=(i+j)*2 from by omega]
 exact this
def CombSt (op:Bool->Bool->Bool) (a b:List Rs.Cut) (i k:Nat) (out:List Rs.Cut):Prop :=
 Rm.comb Rs.Ln op a b false false=out++Rm.comb Rs.Ln op (a.drop i) (b.drop k) (Rm.par i false) (Rm.par k false)/\Rm.par out.length false=op (Rm.par i false) (Rm.par k false)/\i<=a.length/\k<=b.length/\out.length<=i+k
theorem tr {op:Bool->Bool->Bool}(h:op false false=false)(a b:List Rs.Cut):CombSt op a b 0 0 []:=⟨rfl,h.symm,Nat.zero_le _,Nat.zero_le _,Nat.le_refl _⟩
theorem y7 {op:Bool->Bool->Bool}{a b out:List Rs.Cut}{i k:Nat}(h:CombSt op a b i k out)(hi:¬ i<a.length)(hk:¬ k<b.length):out=Rm.comb Rs.Ln op a b false false:=by
 rw[h.1,List.drop_eq_nil_of_le (by omega),List.drop_eq_nil_of_le (by omega)]
 unfold Rm.comb
 rw[List.append_nil]
theorem d7 (i:Nat):Rm.par (i+1) false = !Rm.par i false:=by show Rm.par i (!false)=_;rw[Rm.xg]
theorem acu {out:List Rs.Cut}{c:Rs.Cut}:Rm.par (out++[c]).length false = !Rm.par out.length false:=by rw[List.length_append];exact d7 _
theorem wa {op:Bool->Bool->Bool}{a b out:List Rs.Cut}{i k:Nat}(h:CombSt op a b i k out)(hik:i<a.length\/k<b.length) :
  ∃ c pa pb,nextS (a.drop i) (b.drop k)=(c,pa,pb)/\pa<=1/\pb<=1/\i+k<i+pa+(k+pb)/\i+pa<=a.length/\k+pb<=b.length /\
   ((op (Rm.par (i+pa) false) (Rm.par (k+pb) false) != Rm.par out.length false)=true->CombSt op a b (i+pa) (k+pb) (out++[c])) /\
   ((op (Rm.par (i+pa) false) (Rm.par (k+pb) false) != Rm.par out.length false)=false->CombSt op a b (i+pa) (k+pb) out):=by
 obtain⟨h1,h2,h3,h4,h5⟩:=h
 have one:∀ (c:Rs.Cut) (pa pb:Nat),pa<=1->pb<=1->0<pa+pb->i+pa<=a.length->k+pb<=b.length->nextS (a.drop i) (b.drop k)=(c,pa,pb) ->
   Rm.comb Rs.Ln op (a.drop i) (b.drop k) (Rm.par i false) (Rm.par k false)=(if op (Rm.par (i+pa) false) (Rm.par (k+pb) false) != op (Rm.par i false) (Rm.par k false) then [c] else [])++Rm.comb Rs.Ln op (a.drop (i+pa)) (b.drop (k+pb)) (Rm.par (i+pa) false) (Rm.par (k+pb) false) ->
   ∃ c pa pb,nextS (a.drop i) (b.drop k)=(c,pa,pb)/\pa<=1/\pb<=1/\i+k<i+pa+(k+pb)/\i+pa<=a.length/\k+pb<=b.length /\
    ((op (Rm.par (i+pa) false) (Rm.par (k+pb) false) != Rm.par out.length false)=true->CombSt op a b (i+pa) (k+pb) (out++[c])) /\
    ((op (Rm.par (i+pa) false) (Rm.par (k+pb) false) != Rm.par out.length false)=false->CombSt op a b (i+pa) (k+pb) out):=by
  intro c pa pb ha hb ac aa ab hn hc
  refine⟨c,pa,pb,hn,ha,hb,by omega,aa,ab,fun ht=>?_,fun ht=>?_⟩
  ·rw[h2] at ht
   rw[ht,if_pos rfl] at hc
   refine⟨by rw[h1,hc,List.append_assoc],?_,aa,ab,by rw[List.length_append,List.length_singleton];omega⟩
   rw[acu,h2]
   cases e1:op (Rm.par i false) (Rm.par k false) <;> cases e2:op (Rm.par (i+pa) false) (Rm.par (k+pb) false) <;> first | rfl | (rw[e1,e2] at ht;cases ht)
  ·rw[h2] at ht
   rw[ht,if_neg Bool.false_ne_true] at hc
   refine⟨by rw[h1,hc,List.nil_append],?_,aa,ab,by omega⟩
   rw[h2]
   have:op (Rm.par (i+pa) false) (Rm.par (k+pb) false)=op (Rm.par i false) (Rm.par k false):=by simpa using ht
   exact this.symm
 rcases Nat.lt_or_ge i a.length with hi | hi
 ·have ea:a.drop i=a[i] :: a.drop (i+1):=List.drop_eq_getElem_cons hi
  rcases Nat.lt_or_ge k b.length with hk | hk
  ·have eb:b.drop k=b[k] :: b.drop (k+1):=List.drop_eq_getElem_cons hk
   rw[ea,eb] at one ⊢
   cases l1:Rm.lt Rs.Ln a[i] b[k]
   ·cases l2:Rm.lt Rs.Ln b[k] a[i]
    ·refine one a[i] 1 1 (by omega) (by omega) (by omega) (by omega) (by omega) ?_ ?_
     ·unfold nextS;simp only[l1,l2,Bool.false_eq_true,if_false]
     ·rw[Rm.comb,if_neg (by rw[l1];simp),if_neg (by rw[l2];simp),d7,d7]
    ·refine one b[k] 0 1 (by omega) (by omega) (by omega) (by omega) (by omega) ?_ ?_
     ·unfold nextS;simp only[l1,l2,Bool.false_eq_true,if_false,if_true]
     ·rw[Rm.comb,if_neg (by rw[l1];simp),if_pos l2,d7];simp only[Nat.add_zero];rw[ea]
   ·refine one a[i] 1 0 (by omega) (by omega) (by omega) (by omega) (by omega) ?_ ?_
    ·unfold nextS;simp only[l1,if_true]
    ·rw[Rm.comb,if_pos l1,d7];simp only[Nat.add_zero];rw[eb]
  ·have eb:b.drop k=[]:=List.drop_eq_nil_of_le hk
   rw[ea,eb] at one ⊢
   refine one a[i] 1 0 (by omega) (by omega) (by omega) (by omega) (by omega) rfl ?_
   rw[Rm.comb,d7];simp only[Nat.add_zero];rw[eb]
 ·have ea:a.drop i=[]:=List.drop_eq_nil_of_le hi
  have hk:k<b.length:=by omega
  have eb:b.drop k=b[k] :: b.drop (k+1):=List.drop_eq_getElem_cons hk
  rw[ea,eb] at one ⊢
  refine one b[k] 0 1 (by omega) (by omega) (by omega) (by omega) (by omega) rfl ?_
  rw[Rm.comb,d7];simp only[Nat.add_zero];rw[ea]
end
section
open Go.RowKit
attribute [local go_sem ↓] Go.wp_at_zero Go.wp_at_succ
theorem acv (A B:Option Addr)(na ca nb cb:Nat)(a b:List Rs.Cut)(c:Rs.Cut)(pa pb:Nat)(w:World)(hw:MaxOk w)(ha:CRow w A a)(hb:CRow w B b)(ga:∀ c∈a,CutG c)(gb:∀ c∈b,CutG c)(hna:a.length=na)(hnb:b.length=nb)(hla:na<=10000)(hlb:nb<=10000)(hne:0<na\/0<nb)(hx:nextS a b=(c,pa,pb)) :
  Calls Tryz.prog 334 #[.slice A na ca,.slice B nb cb] w (NextRet w (c,pa,pb)):=by
 subst hna hnb
 rw[<-hx]
 cases a with
 | nil =>
  cases b with
  | nil=>simp at hne
  | cons d b=>exact y6 A B ca cb d b w hb (by simpa using Nat.le_of_succ_le hlb)
 | cons c a =>
  cases b with
  | nil=>exact aav A B ca cb c a w ha (by simpa using Nat.le_of_succ_le hla)
  | cons d b=>exact aaw A B ca cb c d a b w hw ha hb (ga c (List.mem_cons_self ..)) (gb d (List.mem_cons_self ..)) (by simpa using Nat.le_of_succ_le hla) (by simpa using Nat.le_of_succ_le hlb)
def CutR (wr:World) (c:Rs.Cut) (pa pb:Nat) (p x y:Value) (wx:World):Prop :=
 ∃ b,p=.pointer (some ⟨b,0,none⟩)/\x=.int .i64 pa/\y=.int .i64 pb/\wx.cell? ⟨b,0,none⟩=some (.string ⟨(Rs.txt c).toArray⟩)/\wx.cell? ⟨b,1,none⟩=some (.int .i64 (sideI c))/\Below wr.heap.size wr wx
theorem drewb {w w4:World}(hb:Below w.drew.heap.size w.drew w4):Below w.heap.size w w4:=(Below.refl _ _).drew.trans hb
theorem zcut {w w4:World}{T:TypeId}(hb:Below (w.alloc (.cells #[.string ⟨#[]⟩,.int .i64 0] T)).drew.heap.size (w.alloc (.cells #[.string ⟨#[]⟩,.int .i64 0] T)).drew w4) :
  w4.cell? ⟨w.heap.size,0,none⟩=some (.string ⟨#[]⟩)/\w4.cell? ⟨w.heap.size,1,none⟩=some (.int .i64 0)/\w4.frozen? ⟨w.heap.size,0,none⟩=false/\w4.frozen? ⟨w.heap.size,1,none⟩=false/\w.heap.size<w4.heap.size/\Below w.heap.size w w4:=by
 have h0:w4.heap[w.heap.size]?=some (.cells #[.string ⟨#[]⟩,.int .i64 0] T (0,0)):=(hb.block _ (by show _<(w.alloc _).heap.size;simp)).trans (heap_alloc_new w _)
 refine⟨?_,?_,?_,?_,?_,?_⟩
 ·simp[World.cell?,h0]
 ·simp[World.cell?,h0]
 ·simp[World.frozen?,h0]
 ·simp[World.frozen?,h0]
 ·have:=hb.size;have h1:(w.alloc (.cells #[.string ⟨#[]⟩,.int .i64 0] T)).drew.heap.size=w.heap.size+1:=by show (w.alloc _).heap.size=_;simp
  omega
 ·exact (((Below.refl _ _).alloc (Nat.le_refl _) _).drew).trans (hb.mono (by show _<=(w.alloc _).heap.size;simp))
theorem wb (f:FuncId)(op:Bool->Bool->Bool)(hop:∀ x y W,Calls Tryz.prog f #[.bool x,.bool y] W fun e w'=>e=.returned (.bool (op x y))/\W=w')(hcf:∀ (args:Array Value) (W:World),(callFunc f args).run Tryz.prog W=.ok (.enter f args) W)(h0:op false false=false)(A B:Option Addr)(ca cb:Nat)(a b:List Rs.Cut)(w:World)(hw:MaxOk w)(ha:CRow w A a)(hb:CRow w B b)(ga:∀ c∈a,CutG c)(gb:∀ c∈b,CutG c)(hla:a.length<=10000)(hlb:b.length<=10000)(hca:a.length<=ca)(hcb:b.length<=cb)(hma:ca<=maxLen)(hmb:cb<=maxLen) :
  Calls Tryz.prog 322 #[.slice A a.length ca,.slice B b.length cb,.func (.func f) #[] #[]] w (CutsRet w (Rm.comb Rs.Ln op a b false false)):=by
 unfold maxLen at hma hmb
 have HM:=zh hw
 have HA:=zh ha
 have HB:=zh hb
 have GA:=zh ga
 have GB:=zh gb
 have aq:=zh hop
 clear hw ha hb ga gb hop
 go_enter Tryz.func322,Tryz.ntmps322
 go_wp2_with fail
 go_loopw [7,8,9] (fun v x y wr=>∃ (i k:Nat) (out:List Rs.Cut),x=.int .i64 i/\y=.int .i64 k/\Hid (COwn wr w.heap.size v out)/\Hid (Below w.heap.size w wr/\w.heap.size<=wr.heap.size)/\Hid (CombSt op a b i k out)) (fun _ x y _=>(a.length-(intOf x).toNat)+(b.length-(intOf y).toNat))
 case atStart=>exact⟨0,0,[],rfl,rfl,Rg.aB _ _ _,⟨Below.refl _ _,Nat.le_refl _⟩,tr h0 a b⟩
 case round =>
  obtain⟨i,k,out,rfl,rfl,HO,aa,HS⟩:=hrel
  have aE:=HS.out.2.2.1
  have aG:=HS.out.2.2.2.1
  have aH:=HS.out.2.2.2.2
  by_cases ar:i<a.length\/k<b.length
  ·obtain⟨c,pa,pb,hn,aI,aJ,hm,aC,aD,st1,st2⟩:=wa HS.out ar
   have HN:=zh hn
   have au:=zh st1
   have av:=zh st2
   clear hn st1 st2
   obtain⟨C,cc,rfl,_,_,_⟩:=Rg.aF fitsC HO.out
   have i0:(0:Int)<=(i:Int):=by omega
   have i1:(i:Int)<=(a.length:Int):=by omega
   have i2:(i:Int)<=(ca:Int):=by omega
   have k0:(0:Int)<=(k:Int):=by omega
   have k1:(k:Int)<=(b.length:Int):=by omega
   have k2:(k:Int)<=(cb:Int):=by omega
   obtain⟨X,hX⟩:=ex (if ca=i then A else Option.map (fun x=>x.add (i*2)) A)
   obtain⟨Y,hY⟩:=ex (if cb=k then B else Option.map (fun x=>x.add (k*2)) B)
   have rX:∀ W:World,(Instr.sliceAt 344 (.slice A a.length ca) (some (.int .i64 i)) none none).run Tryz.prog W=.ok (.slice X (a.length-i) (ca-i)) W:=fun W=>by
    rw[<-hX]
    go_simp
   have rY:∀ W:World,(Instr.sliceAt 344 (.slice B b.length cb) (some (.int .i64 k)) none none).run Tryz.prog W=.ok (.slice Y (b.length-k) (cb-k)) W:=fun W=>by
    rw[<-hY]
    go_simp
   have ae:a.length-i<=10000:=by omega
   have af:b.length-k<=10000:=by omega
   have aw:0<a.length-i\/0<b.length-k:=by omega
   have ax:Hid (CRow wr (if ca=i then A else Option.map (fun x=>x.add (i*2)) A) (a.drop i)):=qu (Rg.aj HA.out aa.out.1) i _ (fun h=>if_neg (by omega))
   have ay:Hid (CRow wr (if cb=k then B else Option.map (fun x=>x.add (k*2)) B) (b.drop k)):=qu (Rg.aj HB.out aa.out.1) k _ (fun h=>if_neg (by omega))
   have hw:Hid (MaxOk wr):=ag HM.out aa.out.1
   have g1:Hid (∀ c∈a.drop i,CutG c):=fun c hc=>GA.out c (List.mem_of_mem_drop hc)
   have g2:Hid (∀ c∈b.drop k,CutG c):=fun c hc=>GB.out c (List.mem_of_mem_drop hc)
   have n1:Hid ((a.drop i).length=a.length-i):=List.length_drop ..
   have n2:Hid ((b.drop k).length=b.length-k):=List.length_drop ..
   have ab:∀ W':World,Below wr.heap.size wr W'->Calls Tryz.prog 334 #[.slice X (a.length-i) (ca-i),.slice Y (b.length-k) (cb-k)] W' (NextRet W' (c,pa,pb)):=fun W' hW' =>
    acv X Y (a.length-i) (ca-i) (b.length-k) (cb-k) (a.drop i) (b.drop k) c pa pb W' (ag hw.out hW') (hX ▸ Rg.aj ax.out hW') (hY ▸ Rg.aj ay.out hW') g1.out g2.out n1.out n2.out ae af aw HN.out
   have HC:=zh ab
   clear hX hY ab
   rcases (show (i<a.length)\/(¬ i<a.length/\k<b.length) by omega) with hi | ⟨hi,hk⟩
   all_goals
    go_upto_region 4 with fail
    go_cut [10,11,12] (fun p x y wx=>CutR wr c pa pb p x y wx)
    case first =>
     go_region_with (first
      | (go_at_call 334;refine (HC.out _ (Below.refl _ _).drew).mono ?_;rintro _ w4 ⟨rfl,hb⟩;have ac:=zh (drewb hb);clear hb)
      | (go_at_call 334;refine (HC.out _ (((Below.refl _ _).alloc (Nat.le_refl _) _).drew)).mono ?_;rintro _ w4 ⟨rfl,hb⟩;obtain⟨z0,z1,z2,z3,z4,z5⟩:=zcut hb;have ac:=zh z5;clear z5 hb))
     all_goals
      go_wp2_with fail
      go_meet
      first
      | exact⟨_,rfl,rfl,rfl,by simp[go_sem],by simp[go_sem],ac.out.alloc ac.out.size _⟩
      | exact⟨_,rfl,rfl,rfl,by simp[go_sem,z0],by simp[go_sem,z1],(ac.out.setCell (Nat.le_refl _) _).setCell (Nat.le_refl _) _⟩
    case rest =>
     obtain⟨b0,rfl,rfl,rfl,q0,q1,q2⟩:=hcut
     have HQ:=zh q2
     have al:∀ W:World,Calls Tryz.prog 335 #[.int .i64 ((i:Int)+pa)] W fun e w'=>e=.returned (.bool (Rm.par (i+pa) false))/\W=w':=fun W=>by rw[<-Int.natCast_add];exact jH _ _ (by omega)
     have am:∀ W:World,Calls Tryz.prog 335 #[.int .i64 ((k:Int)+pb)] W fun e w'=>e=.returned (.bool (Rm.par (k+pb) false))/\W=w':=fun W=>by rw[<-Int.natCast_add];exact jH _ _ (by omega)
     have H1:=zh al
     have H2:=zh am
     clear q2 al am rX rY
     go_wp2_with fail
     refine (H1.out _).mono ?_
     rintro _ w5 ⟨rfl,rfl⟩
     go_wp2_with fail
     refine (H2.out _).mono ?_
     rintro _ w5 ⟨rfl,rfl⟩
     go_wp2_with fail
     refine (aq.out _ _ _).mono ?_
     rintro _ w5 ⟨rfl,rfl⟩
     go_wp2_with fail
     refine (jH out.length _ (by omega)).mono ?_
     rintro _ w5 ⟨rfl,rfl⟩
     obtain⟨D,hD⟩:=ex (op (Rm.par (i+pa) false) (Rm.par (k+pb) false) != Rm.par out.length false)
     have HD:=zh hD
     have hE:(op (Rm.par (i+pa) false) (Rm.par (k+pb) false)==Rm.par out.length false) = !D:=by rw[<-hD];cases op (Rm.par (i+pa) false) (Rm.par (k+pb) false) <;> cases Rm.par out.length false <;> rfl
     have ad:Hid (COwn (wc.alloc (.cells #[.string ⟨(Rs.txt c).toArray⟩,.int .i64 (sideI c)] 221)) w.heap.size (.slice C out.length cc) out):=Rg.own_below HO.out (HQ.out.alloc HQ.out.size _)
     cases D
     ·have ah:Hid (CombSt op a b (i+pa) (k+pb) out):=av.out HD.out
      have ai:Hid (COwn wc w.heap.size (.slice C out.length cc) out):=Rg.own_below HO.out HQ.out
      have ak:Hid (Below w.heap.size w wc/\w.heap.size<=wc.heap.size):=⟨aa.out.1.trans (HQ.out.mono aa.out.2),Nat.le_trans aa.out.2 HQ.out.size⟩
      clear HO ad hcf
      go_wp2_with fail
      go_roundw
      case rel=>exact⟨i+pa,k+pb,out,by go_num,by go_num,ai,ak,ah⟩
      case measure=>simp[intOf];omega
     ·have ah:Hid (CombSt op a b (i+pa) (k+pb) (out++[c])):=au.out HD.out
      clear hcf
      go_wp2_with (at_builtin;refine Rg.aN sliceC rfl (.tmp 50) (.tmp 52) rfl w.heap.size (.slice C out.length cc) out [c] rfl ad.out _ _ rfl (Rg.az wc _ _ _ (by rfl)) (Nat.zero_lt_succ _) ?h1 ?h2 ?_)
      case h1=>show out.length+1<=_;omega
      case h2=>have:=aa.out.2;have:=HQ.out.size;simp;omega
      intro v5 W5 an ao ap
      have ai:=zh an
      have ak:Hid (Below w.heap.size w W5/\w.heap.size<=W5.heap.size):=by
       have h1:=aa.out.2
       have h2:=HQ.out.size
       have h3:w.heap.size<=(wc.alloc (.cells #[.string ⟨(Rs.txt c).toArray⟩,.int .i64 (sideI c)] 221)).heap.size:=by simp;omega
       exact⟨((aa.out.1.trans (HQ.out.mono h1)).alloc (by omega) _).trans (Rg.aA ad.out h3 ao),Nat.le_trans (by omega) ap⟩
      clear an ao ap HO ad
      go_wp2_with fail
      go_roundw
      case rel=>exact⟨i+pa,k+pb,out++[c],by go_num,by go_num,ai,ak,ah⟩
      case measure=>simp[intOf];omega
  ·have h1:¬ i<a.length:=by omega
   have h2:¬ k<b.length:=by omega
   have HF:Hid (COwn wr w.heap.size u7 (Rm.comb Rs.Ln op a b false false)):=by
    show COwn _ _ _ _
    rw[<-y7 HS.out h1 h2];exact HO.out
   clear HO hcf
   go_wp2_with fail
   go_ret
   exact⟨_,rfl,HF.out,aa.out.1⟩
end
end Go.Proofs.YtgnaiidgjmicaaaGreatDoor

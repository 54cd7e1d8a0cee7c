/- Part 7 of what the laws lean on. -/
import Derived.Test.YtgnaiidgjmicaaaGreatDoorM06
set_option maxRecDepth 100000
set_option maxHeartbeats 3200000
namespace Go.Proofs.YtgnaiidgjmicaaaGreatDoor
section
open Go.RowKit
theorem jH (n:Nat)(w:World)(hn:n<=1000000) :
  Calls Tryz.prog 335 #[.int .i64 n] w fun e w'=>e=.returned (.bool (Rm.par n false))/\w=w':=by
 rw[Rm.xh]
 by_cases h:n % 2=1
 all_goals
  have h2:((n:Int) % 2==1)=decide (n % 2=1):=by rw[Bool.eq_iff_iff];simp;omega
  have h0:(0:Int)<=n:=by omega
  go_enter Tryz.func335,Tryz.ntmps335
  go_wp2
  go_ret
  exact⟨by first | rfl | (rw[h2]) | simp[h],rfl⟩
theorem acq (a b:Bool)(w:World):Calls Tryz.prog 338 #[.bool a,.bool b] w fun e w'=>e=.returned (.bool (a&&b))/\w=w':=by
 cases a
 all_goals
  go_enter Tryz.func338,Tryz.ntmps338
  go_wp2
  go_ret
  exact⟨rfl,rfl⟩
theorem yV (a b:Bool)(w:World):Calls Tryz.prog 324 #[.bool a,.bool b] w fun e w'=>e=.returned (.bool (a||b))/\w=w':=by
 cases a
 all_goals
  go_enter Tryz.func324,Tryz.ntmps324
  go_wp2
  go_ret
  exact⟨rfl,rfl⟩
def sideI:Rs.Cut->Int
 | .bot => -1
 | .top=>1
 | .pos _ a=>if a then 1 else -1
def sLo (lo:List UInt8) (li:Bool):Int:=if lo.isEmpty||li then -1 else 1
def sHi (hi:List UInt8) (hn:Bool):Int:=if hi.isEmpty||hn then 1 else -1
theorem s9 (lo:List UInt8)(li:Bool):sLo lo li=sideI (Rs.loC lo li)/\Rs.txt (Rs.loC lo li)=lo:=by
 unfold sLo Rs.loC
 cases h:lo.isEmpty
 ·cases li <;> exact⟨rfl,rfl⟩
 ·rw[List.isEmpty_iff] at h;subst h;exact⟨rfl,rfl⟩
theorem tc (hi:List UInt8)(hn:Bool):sHi hi hn=sideI (Rs.hiC hi hn)/\Rs.txt (Rs.hiC hi hn)=hi:=by
 unfold sHi Rs.hiC
 cases h:hi.isEmpty
 ·cases hn <;> exact⟨rfl,rfl⟩
 ·rw[List.isEmpty_iff] at h;subst h;exact⟨rfl,rfl⟩
theorem bQ (lo hi:List UInt8)(li hn:Bool)(w:World) :
  Calls Tryz.prog 168 #[.agg #[.string ⟨lo.toArray⟩,.string ⟨hi.toArray⟩,.bool li,.bool hn]] w fun e w'=>e=.returned (.agg #[.string ⟨lo.toArray⟩,.int .i64 (sLo lo li)])/\Below w.heap.size w w':=by
 unfold sLo
 cases li <;> cases h:lo.isEmpty
 all_goals
  go_enter Tryz.func168,Tryz.ntmps168
  go_wp2
  first
  | exact bodyPost_ret (v:=.agg #[.string ⟨lo.toArray⟩,.int .i64 1]) (by simp[results,Tryz.results168,go_sem]) rfl ⟨rfl,((Below.refl _ _).alloc (Nat.le_refl _) _).alloc (by simp) _⟩
  | exact bodyPost_ret (v:=.agg #[.string ⟨lo.toArray⟩,.int .i64 (-1)]) (by simp[results,Tryz.results168,go_sem]) rfl ⟨rfl,((Below.refl _ _).alloc (Nat.le_refl _) _).alloc (by simp) _⟩
theorem c9 (lo hi:List UInt8)(li hn:Bool)(w:World) :
  Calls Tryz.prog 170 #[.agg #[.string ⟨lo.toArray⟩,.string ⟨hi.toArray⟩,.bool li,.bool hn]] w fun e w'=>e=.returned (.agg #[.string ⟨hi.toArray⟩,.int .i64 (sHi hi hn)])/\Below w.heap.size w w':=by
 unfold sHi
 cases hn <;> cases h:hi.isEmpty
 all_goals
  go_enter Tryz.func170,Tryz.ntmps170
  go_wp2
  first
  | exact bodyPost_ret (v:=.agg #[.string ⟨hi.toArray⟩,.int .i64 1]) (by simp[results,Tryz.results170,go_sem]) rfl ⟨rfl,((Below.refl _ _).alloc (Nat.le_refl _) _).alloc (by simp) _⟩
  | exact bodyPost_ret (v:=.agg #[.string ⟨hi.toArray⟩,.int .i64 (-1)]) (by simp[results,Tryz.results170,go_sem]) rfl ⟨rfl,((Below.refl _ _).alloc (Nat.le_refl _) _).alloc (by simp) _⟩
def endI (v:List UInt8) (x:Int):Int:=if v.isEmpty then x else 0
theorem xt (v:List UInt8)(x:Int)(w:World) :
  Calls Tryz.prog 201 #[.agg #[.string ⟨v.toArray⟩,.int .i64 x]] w fun e w'=>e=.returned (.int .i64 (endI v x))/\Below w.heap.size w w':=by
 unfold endI
 cases h:v.isEmpty
 all_goals
  go_enter Tryz.func201,Tryz.ntmps201
  go_wp2
  go_ret
  exact⟨rfl,(Below.refl _ _).alloc (Nat.le_refl _) _⟩
end
section
open Go.RowKit
def cmpVS (v:List UInt8) (x:Int) (u:List UInt8) (y:Int):Int:=if v.isEmpty||u.isEmpty then Vm.sgn (endI v x) (endI u y) else Vm.both (Vm.cmpV v u) (Vm.sgn x y)
theorem keepC {w u u':World}{N:Nat}{a b c d:Value}(h:u.cell? ⟨N,0,none⟩=some a/\u.cell? ⟨N,1,none⟩=some b/\u.cell? ⟨N+1,0,none⟩=some c/\u.cell? ⟨N+1,1,none⟩=some d/\N+2<=u.heap.size/\Below N w u)(hb:Below u.heap.size u u'):u'.cell? ⟨N,0,none⟩=some a/\u'.cell? ⟨N,1,none⟩=some b/\u'.cell? ⟨N+1,0,none⟩=some c/\u'.cell? ⟨N+1,1,none⟩=some d/\N+2<=u'.heap.size/\Below N w u':=by
 obtain⟨h0,h1,h2,h3,h6,h7⟩:=h
 refine⟨?_,?_,?_,?_,Nat.le_trans h6 hb.size,h7.trans (hb.mono (by omega))⟩
 ·rw[hb.cell (by simp;omega)];exact h0
 ·rw[hb.cell (by simp;omega)];exact h1
 ·rw[hb.cell (by simp;omega)];exact h2
 ·rw[hb.cell (by simp;omega)];exact h3
theorem or2 (x y:Int):orL [x,y]=Vm.both x y:=by rw[orL,orL,orL,g9]
theorem aO (v:List UInt8)(x:Int)(u:List UInt8)(y:Int)(w:World)(hw:MaxOk w)(h1:v.isEmpty=false->Vm.check v=0)(h2:u.isEmpty=false->Vm.check u=0) :
  Calls Tryz.prog 169 #[.agg #[.string ⟨v.toArray⟩,.int .i64 x],.agg #[.string ⟨u.toArray⟩,.int .i64 y]] w fun g w'=>g=.returned (.int .i64 (cmpVS v x u y))/\Below w.heap.size w w':=by
 have H1:=zh h1
 have H2:=zh h2
 have HM:=zh hw
 clear h1 h2 hw
 obtain⟨W,hW⟩:=ex ((w.alloc (.cells #[.string ⟨v.toArray⟩,.int .i64 x] 221)).alloc (.cells #[.string ⟨u.toArray⟩,.int .i64 y] 221))
 have aa:Below w.heap.size w W:=by rw[<-hW];exact ((Below.refl _ _).alloc (Nat.le_refl _) _).alloc (by simp) _
 have ab:w.heap.size+2<=W.heap.size:=by rw[<-hW];simp
 have ac:W.cell? ⟨w.heap.size,0,none⟩=some (.string ⟨v.toArray⟩):=by rw[<-hW];simp[go_sem]
 have ad:W.cell? ⟨w.heap.size,1,none⟩=some (.int .i64 x):=by rw[<-hW];simp[go_sem]
 have ae:W.cell? ⟨w.heap.size+1,0,none⟩=some (.string ⟨u.toArray⟩):=by rw[<-hW];simp[go_sem]
 have af:W.cell? ⟨w.heap.size+1,1,none⟩=some (.int .i64 y):=by rw[<-hW];simp[go_sem]
 by_cases he:v.isEmpty=false/\u.isEmpty=false
 ·obtain⟨e1,e2⟩:=he
  have HX:Hid (cmpVS v x u y=Vm.both (Vm.cmpV v u) (Vm.sgn x y)):=by show _=_;unfold cmpVS;rw[e1,e2];rfl
  have K1:=zh (H1.out e1)
  have K2:=zh (H2.out e2)
  go_enter Tryz.func169,Tryz.ntmps169
  go_wp2_with fail
  clear hW
  go_region_held3 (fun w'=>w'.cell? ⟨w.heap.size,0,none⟩=some (.string ⟨v.toArray⟩)/\w'.cell? ⟨w.heap.size,1,none⟩=some (.int .i64 x)/\w'.cell? ⟨w.heap.size+1,0,none⟩=some (.string ⟨u.toArray⟩)/\w'.cell? ⟨w.heap.size+1,1,none⟩=some (.int .i64 y)/\w.heap.size+2<=w'.heap.size/\Below w.heap.size w w')
   (first
    | exact⟨ac,ad,ae,af,ab,aa.drew⟩
    | assumption
    | (refine keepC ?_ hb;assumption)
    | (refine keepC ?_ ((Below.refl _ _).alloc (Nat.le_refl _) _);assumption))
   (first
    | (go_at_call 47;refine (iP v u _ ?_ K1.out K2.out).mono ?_;(go_split_ands;exact ag HM.out (by assumption));rintro _ w1 ⟨rfl,hb⟩)
    | (go_at_call 99;refine (dv x y _).mono ?_;rintro _ w1 ⟨rfl,rfl⟩)
    | (go_at_call 125;refine (gZ [_,_] _ _ _ (by simp) (cells2 _ _ _)).mono ?_;rintro _ w1 ⟨rfl,rfl⟩))
  rename_i HS
  have HB:=zh HS.2.2.2.2.2
  clear HS
  go_wp2_with fail
  go_ret
  refine⟨?_,HB.out⟩
  rw[HX.out]
  show Ending.returned (.int .i64 (orL [Vm.cmpV v u,Vm.sgn x y]))=_
  rw[or2]
 ·have HX:Hid (cmpVS v x u y=Vm.sgn (endI v x) (endI u y)):=by
   show _=_
   unfold cmpVS
   rw[if_pos (by cases h3:v.isEmpty <;> cases h4:u.isEmpty <;> first | rfl | exact absurd ⟨h3,h4⟩ he)]
  clear H1 H2
  cases e1:v.isEmpty
  ·have e2:u.isEmpty=true:=by cases h4:u.isEmpty <;> first | rfl | exact absurd ⟨e1,h4⟩ he
   clear he
   go_enter Tryz.func169,Tryz.ntmps169
   go_wp2_with fail
   clear hW
   go_region_held3 (fun w'=>w'.cell? ⟨w.heap.size,0,none⟩=some (.string ⟨v.toArray⟩)/\w'.cell? ⟨w.heap.size,1,none⟩=some (.int .i64 x)/\w'.cell? ⟨w.heap.size+1,0,none⟩=some (.string ⟨u.toArray⟩)/\w'.cell? ⟨w.heap.size+1,1,none⟩=some (.int .i64 y)/\w.heap.size+2<=w'.heap.size/\Below w.heap.size w w')
    (first
     | exact⟨ac,ad,ae,af,ab,aa.drew⟩
     | assumption
     | (refine keepC ?_ hb;assumption))
    (first
     | (go_at_call 201;refine (xt _ _ _).mono ?_;rintro _ w1 ⟨rfl,hb⟩)
     | (go_at_call 99;refine (dv _ _ _).mono ?_;rintro _ w1 ⟨rfl,rfl⟩))
   rename_i HS
   have HB:=zh HS.2.2.2.2.2
   clear HS
   go_wp2_with fail
   go_ret
   exact⟨by rw[HX.out];rfl,HB.out⟩
  ·clear he
   go_enter Tryz.func169,Tryz.ntmps169
   go_wp2_with fail
   clear hW
   go_region_held3 (fun w'=>w'.cell? ⟨w.heap.size,0,none⟩=some (.string ⟨v.toArray⟩)/\w'.cell? ⟨w.heap.size,1,none⟩=some (.int .i64 x)/\w'.cell? ⟨w.heap.size+1,0,none⟩=some (.string ⟨u.toArray⟩)/\w'.cell? ⟨w.heap.size+1,1,none⟩=some (.int .i64 y)/\w.heap.size+2<=w'.heap.size/\Below w.heap.size w w')
    (first
     | exact⟨ac,ad,ae,af,ab,aa.drew⟩
     | assumption
     | (refine keepC ?_ hb;assumption))
    (first
     | (go_at_call 201;refine (xt _ _ _).mono ?_;rintro _ w1 ⟨rfl,hb⟩)
     | (go_at_call 99;refine (dv _ _ _).mono ?_;rintro _ w1 ⟨rfl,rfl⟩))
   rename_i HS
   have HB:=zh HS.2.2.2.2.2
   clear HS
   go_wp2_with fail
   go_ret
   exact⟨by rw[HX.out];rfl,HB.out⟩
end
section
open Go.RowKit
attribute [local go_sem ↓] Go.wp_at_zero Go.wp_at_succ
def bB (k:Int):Ending:=if k=0 then .returned (.tuple #[]) else pan k
theorem a8:bB 0=.returned (.tuple #[]):=rfl
theorem a7 {k:Int}(h:k≠0):bB k=pan k:=if_neg h
theorem gG (v:List UInt8)(w:World)(hw:MaxOk w) :
  Calls Tryz.prog 315 #[.string ⟨v.toArray⟩] w fun e w'=>e=bB (Rs.bound v)/\Below w.heap.size w w':=by
 have HM:=zh hw
 clear hw
 cases hv:v.isEmpty
 ·by_cases hc:Vm.check v=0
  ·have HK:=zh hc
   have HX:Hid (canonOf v=Vm.canon v):=by show _=_;rw[canonOf,if_pos hc]
   have aa:Hid (Rs.bound v=if Vm.canon v==v then 0 else 5):=by show _=_;unfold Rs.bound;rw[hv,if_neg Bool.false_ne_true,if_pos hc]
   obtain⟨x,hx⟩:=ex (Vm.canon v)
   rw[hx] at HX aa
   clear hx hc
   cases he:v==x
   ·have HB:Hid (Rs.bound v=5):=by
     show _=_
     rw[aa.out,show (x==v)=false from by rw[BEq.comm];exact he];rfl
    clear aa
    go_enter Tryz.func315,Tryz.ntmps315
    go_wp2_with fail
    refine (cQ v _ HM.out).mono ?_
    rintro _ w1 ⟨rfl,hb⟩
    rw[HX.out,HK.out]
    have ab:=zh hb
    clear hb
    go_wp2_with fail
    refine (ak _).mono ?_
    rintro _ w2 ⟨rfl,rfl⟩
    go_wp2_with fail
    refine (au _).mono ?_
    rintro _ w2 ⟨rfl,rfl⟩
    go_wp2_with fail
    exact⟨rfl,by rw[HB.out];rfl,ab.out⟩
   ·have HB:Hid (Rs.bound v=0):=by
     show _=_
     rw[aa.out,show (x==v)=true from by rw[BEq.comm];exact he];rfl
    clear aa
    go_enter Tryz.func315,Tryz.ntmps315
    go_wp2_with fail
    refine (cQ v _ HM.out).mono ?_
    rintro _ w1 ⟨rfl,hb⟩
    rw[HX.out,HK.out]
    have ab:=zh hb
    clear hb
    go_wp2_with fail
    refine (ak _).mono ?_
    rintro _ w2 ⟨rfl,rfl⟩
    go_wp2_with fail
    refine (ak _).mono ?_
    rintro _ w2 ⟨rfl,rfl⟩
    go_wp2_with fail
    go_end0
    exact⟨by rw[HB.out];rfl,ab.out⟩
  ·have HB:Hid (Rs.bound v=Vm.check v):=by show _=_;unfold Rs.bound;rw[hv,if_neg Bool.false_ne_true,if_neg hc]
   obtain⟨k,hk⟩:=ex (Vm.check v)
   rw[hk] at HB hc
   have ac:(k==0)=false:=beq_eq_false_iff_ne.2 hc
   have HK:=zh hk
   have HC:=zh hc
   clear hk hc
   go_enter Tryz.func315,Tryz.ntmps315
   go_wp2_with fail
   refine (cQ v _ HM.out).mono ?_
   rintro _ w1 ⟨rfl,hb⟩
   rw[HK.out]
   have ab:=zh hb
   clear hb
   go_wp2_with fail
   refine (au _).mono ?_
   rintro _ w2 ⟨rfl,rfl⟩
   go_wp2_with fail
   exact⟨rfl,by rw[HB.out,a7 HC.out],ab.out⟩
 ·have HB:Hid (Rs.bound v=0):=by show _=_;unfold Rs.bound;rw[hv];rfl
  go_enter Tryz.func315,Tryz.ntmps315
  go_wp2_with fail
  refine bodyPost_ret (results_none rfl _ _ _) rfl ?_
  exact⟨by rw[HB.out];rfl,Below.refl _ _⟩
def CutG:Rs.Cut->Prop
 | .pos v _=>Rs.Own v
 | _=>True
theorem pk {c:Rs.Cut}(h:Rs.LoOk c):CutG c:=by cases c <;> first | trivial | exact h
theorem po {c:Rs.Cut}(h:Rs.HiOk c):CutG c:=by cases c <;> first | trivial | exact h
theorem nM {c:Rs.Cut}(h:CutG c)(h0:(Rs.txt c).isEmpty=false):Vm.check (Rs.txt c)=0:=by
 cases c with
 | bot=>cases h0
 | top=>cases h0
 | pos v a=>exact h.1
def ordI (c d:Rs.Cut):Int:=if Rm.lt Rs.Ln c d then -1 else if Rm.lt Rs.Ln d c then 1 else 0
theorem kF {c d:Rs.Cut}(hc:CutG c)(hd:CutG d):cmpVS (Rs.txt c) (sideI c) (Rs.txt d) (sideI d)=ordI c d:=by
 cases c with
 | bot =>
  cases d with
  | bot=>rfl
  | top=>rfl
  | pos u b=>show (if (true||u.isEmpty)=true then _ else _)=_;rw[Bool.true_or,if_pos rfl];show Vm.sgn (-1) (if u.isEmpty then _ else 0)=_;rw[Rs.aT hd];rfl
 | top =>
  cases d with
  | bot=>rfl
  | top=>rfl
  | pos u b=>show (if (true||u.isEmpty)=true then _ else _)=_;rw[Bool.true_or,if_pos rfl];show Vm.sgn 1 (if u.isEmpty then _ else 0)=_;rw[Rs.aT hd];rfl
 | pos v a =>
  cases d with
  | bot=>show (if (v.isEmpty||true)=true then _ else _)=_;rw[Bool.or_true,if_pos rfl];show Vm.sgn (if v.isEmpty then _ else 0) (-1)=_;rw[Rs.aT hc];rfl
  | top=>show (if (v.isEmpty||true)=true then _ else _)=_;rw[Bool.or_true,if_pos rfl];show Vm.sgn (if v.isEmpty then _ else 0) 1=_;rw[Rs.aT hc];rfl
  | pos u b =>
   show (if (v.isEmpty||u.isEmpty)=true then _ else Vm.both (Vm.cmpV v u) (Vm.sgn (sideI (.pos v a)) (sideI (.pos u b))))=ordI (.pos v a) (.pos u b)
   unfold ordI
   rw[Rs.yI hc hd,Rs.yI hd hc,Rs.aT hc,Rs.aT hd,Vm.eQ.1 v u,Bool.or_self,if_neg Bool.false_ne_true]
   have r:=Vm.cu v u
   rcases (show Vm.cmpV v u = -1\/Vm.cmpV v u=0\/Vm.cmpV v u=1 by omega) with h | h | h <;> rw[h] <;> cases a <;> cases b <;> rfl
theorem td {c d:Rs.Cut}:decide (ordI c d<0)=Rm.lt Rs.Ln c d:=by
 unfold ordI
 cases Rm.lt Rs.Ln c d
 ·cases Rm.lt Rs.Ln d c <;> rfl
 ·rfl
def Box (w:World) (b:Nat) (lo hi:List UInt8) (li hn:Bool):Prop:=w.cell? ⟨b,0,none⟩=some (.string ⟨lo.toArray⟩)/\w.cell? ⟨b,1,none⟩=some (.string ⟨hi.toArray⟩)/\w.cell? ⟨b,2,none⟩=some (.bool li)/\w.cell? ⟨b,3,none⟩=some (.bool hn)/\b<w.heap.size
theorem ck (w:World)(lo hi:List UInt8)(li hn:Bool)(T:TypeId):Box (w.alloc (.cells #[.string ⟨lo.toArray⟩,.string ⟨hi.toArray⟩,.bool li,.bool hn] T)) w.heap.size lo hi li hn:=by
 refine⟨?_,?_,?_,?_,by simp⟩ <;> simp[go_sem]
theorem dx {w w':World}{b:Nat}{lo hi:List UInt8}{li hn:Bool}(h:Box w b lo hi li hn)(hb:Below w.heap.size w w'):Box w' b lo hi li hn:=by
 obtain⟨h0,h1,h2,h3,h4⟩:=h
 refine⟨?_,?_,?_,?_,Nat.lt_of_lt_of_le h4 hb.size⟩
 ·rw[hb.cell (by simp;omega)];exact h0
 ·rw[hb.cell (by simp;omega)];exact h1
 ·rw[hb.cell (by simp;omega)];exact h2
 ·rw[hb.cell (by simp;omega)];exact h3
theorem keepBox {w u u':World}{B b:Nat}{lo hi:List UInt8}{li hn:Bool}(h:u.cell? ⟨b,0,none⟩=some (.string ⟨lo.toArray⟩)/\u.cell? ⟨b,1,none⟩=some (.string ⟨hi.toArray⟩)/\u.cell? ⟨b,2,none⟩=some (.bool li)/\u.cell? ⟨b,3,none⟩=some (.bool hn)/\b<u.heap.size/\B<=u.heap.size/\Below B w u)(hb:Below u.heap.size u u'):u'.cell? ⟨b,0,none⟩=some (.string ⟨lo.toArray⟩)/\u'.cell? ⟨b,1,none⟩=some (.string ⟨hi.toArray⟩)/\u'.cell? ⟨b,2,none⟩=some (.bool li)/\u'.cell? ⟨b,3,none⟩=some (.bool hn)/\b<u'.heap.size/\B<=u'.heap.size/\Below B w u':=by
 obtain⟨h0,h1,h2,h3,h4,h5,h6⟩:=h
 obtain⟨g0,g1,g2,g3,g4⟩:=dx ⟨h0,h1,h2,h3,h4⟩ hb
 exact⟨g0,g1,g2,g3,g4,Nat.le_trans h5 hb.size,h6.trans (hb.mono h5)⟩
theorem keepDrew {w u:World}{B b:Nat}{lo hi:List UInt8}{li hn:Bool}(h:Box u b lo hi li hn)(h5:B<=u.heap.size)(h6:Below B w u):u.drew.cell? ⟨b,0,none⟩=some (.string ⟨lo.toArray⟩)/\u.drew.cell? ⟨b,1,none⟩=some (.string ⟨hi.toArray⟩)/\u.drew.cell? ⟨b,2,none⟩=some (.bool li)/\u.drew.cell? ⟨b,3,none⟩=some (.bool hn)/\b<u.drew.heap.size/\B<=u.drew.heap.size/\Below B w u.drew:=by
 obtain⟨g0,g1,g2,g3,g4⟩:=h
 exact⟨g0,g1,g2,g3,g4,h5,h6.drew⟩
theorem eg {P:Program}{G:Prop}{a:Act}{w:World}(h:wpAny P .any #[] (fun _ _ _=>G) 0 #[] a w):G:=h.2
def Inv (w u:World) (b:Nat) (lo hi:List UInt8) (li hn:Bool):Prop:=Box u b lo hi li hn/\w.heap.size<=u.heap.size/\Below w.heap.size w u
theorem bR {w u u':World}{b:Nat}{lo hi:List UInt8}{li hn:Bool}(hb:Below u.heap.size u u')(h:Hid (Inv w u b lo hi li hn)):Hid (Inv w u' b lo hi li hn) :=
 ⟨dx h.out.1 hb,Nat.le_trans h.out.2.1 hb.size,h.out.2.2.trans (hb.mono h.out.2.1)⟩
theorem lH {w u:World}{b:Nat}{lo hi:List UInt8}{li hn:Bool}(hm:Hid (MaxOk w))(h:Hid (Inv w u b lo hi li hn)):MaxOk u:=ag hm.out h.out.2.2
theorem ie {w u:World}{b:Nat}{lo hi:List UInt8}{li hn:Bool}(h:Hid (Inv w u b lo hi li hn)):Below w.heap.size w u:=h.out.2.2
theorem nN (i:Nat)(lo hi:List UInt8)(li hn:Bool)(w:World)(hi0:i<=100000)(hw:MaxOk w) :
  Calls Tryz.prog 300 #[.int .i64 i,.agg #[.string ⟨lo.toArray⟩,.string ⟨hi.toArray⟩,.bool li,.bool hn]] w fun e w'=>e=bB (if 64<=i then 4 else Rs.span lo hi li hn)/\Below w.heap.size w w':=by
 have ai:∀ (x:Bool) (w:World),(Op.unary .not (.bool x)).run Tryz.prog w=.ok (.bool (!x)) w:=fun _ _=>rfl
 have HN:=zh (ck w lo hi li hn 145)
 have HB:=zh ((Below.refl w.heap.size w).alloc (Nat.le_refl _) (.cells #[.string ⟨lo.toArray⟩,.string ⟨hi.toArray⟩,.bool li,.bool hn] 145))
 have HM:=zh hw
 clear hw
 obtain⟨k,hk⟩:=ex (if 64<=i then 4 else Rs.span lo hi li hn)
 rw[hk]
 by_cases ad:64<=i
 ·have h1:decide ((i:Int)<64)=false:=decide_eq_false (by omega)
  have HX:Hid (k=4):=by show _=_;rw[<-hk,if_pos ad]
  clear hk
  go_enter Tryz.func300,Tryz.ntmps300
  go_wp2_with fail
  (with_reducible refine (au _).mono ?_)
  rintro _ w2 ⟨rfl,rfl⟩
  go_wp2_with fail
  exact⟨rfl,by rw[HX.out];rfl,HB.out⟩
 have h1:decide ((i:Int)<64)=true:=decide_eq_true (by omega)
 have HX:Hid (k=Rs.span lo hi li hn):=by show _=_;rw[<-hk,if_neg ad]
 clear ad hk
 go_enter Tryz.func300,Tryz.ntmps300
 go_wp2_with fail
 refine (ak _).mono ?_
 rintro _ w2 ⟨rfl,rfl⟩
 obtain⟨c0,c1,c2,c3,c4⟩:=HN.out
 obtain⟨W,hW⟩:=ex (w.alloc (.cells #[.string ⟨lo.toArray⟩,.string ⟨hi.toArray⟩,.bool li,.bool hn] 145))
 rw[hW] at HB c0 c1 c2 c3 c4 HN
 have af:MaxOk W:=by rw[<-hW];exact ag HM.out ((Below.refl _ _).alloc (Nat.le_refl _) _)
 rw[hW]
 have ae:=zh af
 clear hW af
 go_wp2_with fail
 refine (gG lo _ ae.out).mono ?_
 rintro _ w1 ⟨rfl,hb⟩
 obtain⟨m1,b1,d1⟩:MaxOk w1/\Box w1 w.heap.size lo hi li hn/\Below w.heap.size w w1:=⟨ag ae.out hb,dx HN.out hb,bt HB.out hb⟩
 clear hb c0 c1 c2 c3 c4 HN HB ae
 obtain⟨c0,c1,c2,c3,c4⟩:=b1
 have ac:=zh m1
 have ab:=zh d1
 have ah:Hid (Box w1 w.heap.size lo hi li hn):=⟨c0,c1,c2,c3,c4⟩
 clear m1 d1
 by_cases g1:Rs.bound lo=0
 ·rw[g1,a8]
  have G1:=zh g1
  clear g1
  go_wp2_with fail
  (with_reducible refine (gG hi _ ac.out).mono ?_)
  rintro _ w2 ⟨rfl,hb⟩
  obtain⟨m1,b1,d1⟩:MaxOk w2/\Box w2 w.heap.size lo hi li hn/\Below w.heap.size w w2:=⟨ag ac.out hb,dx ah.out hb,ab.out.trans (hb.mono (Nat.le_of_lt c4))⟩
  clear hb c0 c1 c2 c3 c4 ah ab ac
  have aj:Hid (Inv w w2.drew w.heap.size lo hi li hn):=⟨b1,Nat.le_of_lt b1.2.2.2.2,d1.drew⟩
  obtain⟨c0,c1,c2,c3,c4⟩:=b1
  have ac:=zh m1
  have ab:=zh d1
  clear m1 d1
  by_cases g2:Rs.bound hi=0
  ·rw[g2,a8]
   have G2:=zh g2
   clear g2
   by_cases q1:(lo.isEmpty&&li)=true
   ·obtain⟨e1,rfl⟩:lo.isEmpty=true/\li=true:=by simpa using q1
    have HY:Hid (Rs.span lo hi true hn=1):=by show _=_;unfold Rs.span;rw[if_neg (by simp[G1.out]),if_neg (by simp[G2.out]),e1];rfl
    clear q1
    go_wp2_with fail
    (with_reducible refine (au _).mono ?_)
    rintro _ w3 ⟨rfl,rfl⟩
    go_wp2_with fail
    exact⟨rfl,by rw[HX.out,HY.out];rfl,ab.out⟩
   by_cases q2:(hi.isEmpty&&hn)=true
   ·obtain⟨e2,rfl⟩:hi.isEmpty=true/\hn=true:=by simpa using q2
    have HY:Hid (Rs.span lo hi li true=1):=by show _=_;unfold Rs.span;rw[if_neg (by simp[G1.out]),if_neg (by simp[G2.out]),if_pos (by rw[e2];simp)]
    clear q2
    cases e1:lo.isEmpty
    ·clear q1
     go_wp2_with fail
     (with_reducible refine (ak _).mono ?_)
     rintro _ w3 ⟨rfl,rfl⟩
     go_wp2_with fail
     (with_reducible refine (au _).mono ?_)
     rintro _ w3 ⟨rfl,rfl⟩
     go_wp2_with fail
     exact⟨rfl,by rw[HX.out,HY.out];rfl,ab.out⟩
    ·obtain rfl:li=false:=by cases li <;> first | rfl | (rw[e1] at q1;exact absurd rfl q1)
     clear q1
     go_wp2_with fail
     (with_reducible refine (ak _).mono ?_)
     rintro _ w3 ⟨rfl,rfl⟩
     go_wp2_with fail
     (with_reducible refine (au _).mono ?_)
     rintro _ w3 ⟨rfl,rfl⟩
     go_wp2_with fail
     exact⟨rfl,by rw[HX.out,HY.out];rfl,ab.out⟩
   have p1:lo.isEmpty=true->li=false:=fun h=>by cases li <;> first | rfl | (rw[h] at q1;exact absurd rfl q1)
   have p2:hi.isEmpty=true->hn=false:=fun h=>by cases hn <;> first | rfl | (rw[h] at q2;exact absurd rfl q2)
   have K1:Hid (lo.isEmpty=false->Vm.check lo=0):=fun h=>(Rs.aV G1.out h).1
   have K2:Hid (hi.isEmpty=false->Vm.check hi=0):=fun h=>(Rs.aV G2.out h).1
   have HQ:Hid (decide (cmpVS lo (sLo lo li) hi (sHi hi hn)<0)=Rm.ok Rs.Ln (Rs.toP lo hi li hn)):=by
    have a1:=s9 lo li
    have a2:=tc hi hn
    have:=kF (pk (Rs.sE (i:=li) G1.out)) (po (Rs.sF (i:=hn) G2.out))
    rw[a1.2,a2.2,<-a1.1,<-a2.1] at this
    show _=_
    rw[this,td];rfl
   have HY:Hid (Rs.span lo hi li hn=if Rm.ok Rs.Ln (Rs.toP lo hi li hn) then 0 else 7):=Rs.o6 G1.out G2.out p1 p2
   obtain⟨B,hB⟩:=ex (Rm.ok Rs.Ln (Rs.toP lo hi li hn))
   rw[hB] at HQ HY
   have e1:lo.isEmpty=false\/(lo.isEmpty=true/\li=false):=by cases h:lo.isEmpty <;> simp;exact p1 h
   have e2:hi.isEmpty=false\/(hi.isEmpty=true/\hn=false):=by cases h:hi.isEmpty <;> simp;exact p2 h
   clear q1 q2 p1 p2 hB
   rcases e1 with e1 | ⟨e1,rfl⟩ <;> rcases e2 with e2 | ⟨e2,rfl⟩
   ·cases B
    ·go_wp2_with fail
     (with_reducible refine (ak _).mono ?_)
     rintro _ w3 ⟨rfl,rfl⟩
     go_wp2_with fail
     (with_reducible refine (ak _).mono ?_)
     rintro _ w3 ⟨rfl,rfl⟩
     go_wp2_with fail
     have hq:=HQ.out
     go_region_with (first
       | (go_at_call 168;refine (bQ _ _ _ _ _).mono ?_;rintro _ w4 ⟨rfl,hb⟩;have aa:=bR hb (by assumption);clear hb;obtain⟨⟨k0,k1,k2,k3,_⟩,_⟩:=aa.out)
       | (go_at_call 170;refine (c9 _ _ _ _ _).mono ?_;rintro _ w4 ⟨rfl,hb⟩;have aa:=bR hb (by assumption);clear hb;obtain⟨⟨k0,k1,k2,k3,_⟩,_⟩:=aa.out)
       | (go_at_call 169;refine (aO _ _ _ _ _ (lH HM (by assumption)) K1.out K2.out).mono ?_;rintro _ w4 ⟨rfl,hb⟩;have aa:=bR hb (by assumption);clear hb;obtain⟨⟨k0,k1,k2,k3,_⟩,_⟩:=aa.out)
       | (go_at_call 70;refine (au _).mono ?_;rintro _ w4 ⟨rfl,rfl⟩;refine eg (P:=Tryz.prog) (a:={ tmps:=#[],defers:=[] }) (w:=w) ?_))
     all_goals exact⟨rfl,by rw[HX.out,HY.out];rfl,ie (by assumption)⟩
    ·go_wp2_with fail
     (with_reducible refine (ak _).mono ?_)
     rintro _ w3 ⟨rfl,rfl⟩
     go_wp2_with fail
     (with_reducible refine (ak _).mono ?_)
     rintro _ w3 ⟨rfl,rfl⟩
     go_wp2_with fail
     have hq:=HQ.out
     show Code.wp Tryz.prog _ (bodyPost Tryz.prog Tryz.f300 (fun e w'=>e=bB k/\Below w.heap.size w w')) _ _
     go_region_held3 (fun w'=>w'.cell? ⟨w.heap.size,0,none⟩=some (.string ⟨lo.toArray⟩)/\w'.cell? ⟨w.heap.size,1,none⟩=some (.string ⟨hi.toArray⟩)/\w'.cell? ⟨w.heap.size,2,none⟩=some (.bool li)/\w'.cell? ⟨w.heap.size,3,none⟩=some (.bool hn)/\w.heap.size<w'.heap.size/\w.heap.size<=w'.heap.size/\Below w.heap.size w w')
      (first
       | exact keepDrew ⟨c0,c1,c2,c3,c4⟩ (Nat.le_of_lt c4) ab.out
       | assumption
       | (refine keepBox ?_ hb;assumption))
      (first
       | (go_at_call 168;refine (bQ _ _ _ _ _).mono ?_;rintro _ w1 ⟨rfl,hb⟩)
       | (go_at_call 170;refine (c9 _ _ _ _ _).mono ?_;rintro _ w1 ⟨rfl,hb⟩)
       | (go_at_call 169;refine (aO _ _ _ _ _ ?_ K1.out K2.out).mono ?_;(go_split_ands;exact ag HM.out (by assumption));rintro _ w1 ⟨rfl,hb⟩)
       | (go_at_call 70;refine (ak _).mono ?_;rintro _ w1 ⟨rfl,rfl⟩))
     rename_i HS
     go_end0
     exact⟨by rw[HX.out,HY.out];rfl,HS.2.2.2.2.2.2⟩
   ·cases B
    ·go_wp2_with fail
     (with_reducible refine (ak _).mono ?_)
     rintro _ w3 ⟨rfl,rfl⟩
     go_wp2_with fail
     (with_reducible refine (ak _).mono ?_)
     rintro _ w3 ⟨rfl,rfl⟩
     go_wp2_with fail
     have hq:=HQ.out
     go_region_with (first
       | (go_at_call 168;refine (bQ _ _ _ _ _).mono ?_;rintro _ w4 ⟨rfl,hb⟩;have aa:=bR hb (by assumption);clear hb;obtain⟨⟨k0,k1,k2,k3,_⟩,_⟩:=aa.out)
       | (go_at_call 170;refine (c9 _ _ _ _ _).mono ?_;rintro _ w4 ⟨rfl,hb⟩;have aa:=bR hb (by assumption);clear hb;obtain⟨⟨k0,k1,k2,k3,_⟩,_⟩:=aa.out)
       | (go_at_call 169;refine (aO _ _ _ _ _ (lH HM (by assumption)) K1.out K2.out).mono ?_;rintro _ w4 ⟨rfl,hb⟩;have aa:=bR hb (by assumption);clear hb;obtain⟨⟨k0,k1,k2,k3,_⟩,_⟩:=aa.out)
       | (go_at_call 70;refine (au _).mono ?_;rintro _ w4 ⟨rfl,rfl⟩;refine eg (P:=Tryz.prog) (a:={ tmps:=#[],defers:=[] }) (w:=w) ?_))
     all_goals exact⟨rfl,by rw[HX.out,HY.out];rfl,ie (by assumption)⟩
    ·go_wp2_with fail
     (with_reducible refine (ak _).mono ?_)
     rintro _ w3 ⟨rfl,rfl⟩
     go_wp2_with fail
     (with_reducible refine (ak _).mono ?_)
     rintro _ w3 ⟨rfl,rfl⟩
     go_wp2_with fail
     have hq:=HQ.out
     show Code.wp Tryz.prog _ (bodyPost Tryz.prog Tryz.f300 (fun e w'=>e=bB k/\Below w.heap.size w w')) _ _
     go_region_held3 (fun w'=>w'.cell? ⟨w.heap.size,0,none⟩=some (.string ⟨lo.toArray⟩)/\w'.cell? ⟨w.heap.size,1,none⟩=some (.string ⟨hi.toArray⟩)/\w'.cell? ⟨w.heap.size,2,none⟩=some (.bool li)/\w'.cell? ⟨w.heap.size,3,none⟩=some (.bool false)/\w.heap.size<w'.heap.size/\w.heap.size<=w'.heap.size/\Below w.heap.size w w')
      (first
       | exact keepDrew ⟨c0,c1,c2,c3,c4⟩ (Nat.le_of_lt c4) ab.out
       | assumption
       | (refine keepBox ?_ hb;assumption))
      (first
       | (go_at_call 168;refine (bQ _ _ _ _ _).mono ?_;rintro _ w1 ⟨rfl,hb⟩)
       | (go_at_call 170;refine (c9 _ _ _ _ _).mono ?_;rintro _ w1 ⟨rfl,hb⟩)
       | (go_at_call 169;refine (aO _ _ _ _ _ ?_ K1.out K2.out).mono ?_;(go_split_ands;exact ag HM.out (by assumption));rintro _ w1 ⟨rfl,hb⟩)
       | (go_at_call 70;refine (ak _).mono ?_;rintro _ w1 ⟨rfl,rfl⟩))
     rename_i HS
     go_end0
     exact⟨by rw[HX.out,HY.out];rfl,HS.2.2.2.2.2.2⟩
   ·cases B
    ·go_wp2_with fail
     (with_reducible refine (ak _).mono ?_)
     rintro _ w3 ⟨rfl,rfl⟩
     go_wp2_with fail
     (with_reducible refine (ak _).mono ?_)
     rintro _ w3 ⟨rfl,rfl⟩
     go_wp2_with fail
     have hq:=HQ.out
     go_region_with (first
       | (go_at_call 168;refine (bQ _ _ _ _ _).mono ?_;rintro _ w4 ⟨rfl,hb⟩;have aa:=bR hb (by assumption);clear hb;obtain⟨⟨k0,k1,k2,k3,_⟩,_⟩:=aa.out)
       | (go_at_call 170;refine (c9 _ _ _ _ _).mono ?_;rintro _ w4 ⟨rfl,hb⟩;have aa:=bR hb (by assumption);clear hb;obtain⟨⟨k0,k1,k2,k3,_⟩,_⟩:=aa.out)
       | (go_at_call 169;refine (aO _ _ _ _ _ (lH HM (by assumption)) K1.out K2.out).mono ?_;rintro _ w4 ⟨rfl,hb⟩;have aa:=bR hb (by assumption);clear hb;obtain⟨⟨k0,k1,k2,k3,_⟩,_⟩:=aa.out)
       | (go_at_call 70;refine (au _).mono ?_;rintro _ w4 ⟨rfl,rfl⟩;refine eg (P:=Tryz.prog) (a:={ tmps:=#[],defers:=[] }) (w:=w) ?_))
     all_goals exact⟨rfl,by rw[HX.out,HY.out];rfl,ie (by assumption)⟩
    ·go_wp2_with fail
     (with_reducible refine (ak _).mono ?_)
     rintro _ w3 ⟨rfl,rfl⟩
     go_wp2_with fail
     (with_reducible refine (ak _).mono ?_)
     rintro _ w3 ⟨rfl,rfl⟩
     go_wp2_with fail
     have hq:=HQ.out
     show Code.wp Tryz.prog _ (bodyPost Tryz.prog Tryz.f300 (fun e w'=>e=bB k/\Below w.heap.size w w')) _ _
     go_region_held3 (fun w'=>w'.cell? ⟨w.heap.size,0,none⟩=some (.string ⟨lo.toArray⟩)/\w'.cell? ⟨w.heap.size,1,none⟩=some (.string ⟨hi.toArray⟩)/\w'.cell? ⟨w.heap.size,2,none⟩=some (.bool false)/\w'.cell? ⟨w.heap.size,3,none⟩=some (.bool hn)/\w.heap.size<w'.heap.size/\w.heap.size<=w'.heap.size/\Below w.heap.size w w')
      (first
       | exact keepDrew ⟨c0,c1,c2,c3,c4⟩ (Nat.le_of_lt c4) ab.out
       | assumption
       | (refine keepBox ?_ hb;assumption))
      (first
       | (go_at_call 168;refine (bQ _ _ _ _ _).mono ?_;rintro _ w1 ⟨rfl,hb⟩)
       | (go_at_call 170;refine (c9 _ _ _ _ _).mono ?_;rintro _ w1 ⟨rfl,hb⟩)
       | (go_at_call 169;refine (aO _ _ _ _ _ ?_ K1.out K2.out).mono ?_;(go_split_ands;exact ag HM.out (by assumption));rintro _ w1 ⟨rfl,hb⟩)
       | (go_at_call 70;refine (ak _).mono ?_;rintro _ w1 ⟨rfl,rfl⟩))
     rename_i HS
     go_end0
     exact⟨by rw[HX.out,HY.out];rfl,HS.2.2.2.2.2.2⟩
   ·cases B
    ·go_wp2_with fail
     (with_reducible refine (ak _).mono ?_)
     rintro _ w3 ⟨rfl,rfl⟩
     go_wp2_with fail
     (with_reducible refine (ak _).mono ?_)
     rintro _ w3 ⟨rfl,rfl⟩
     go_wp2_with fail
     have hq:=HQ.out
     go_region_with (first
       | (go_at_call 168;refine (bQ _ _ _ _ _).mono ?_;rintro _ w4 ⟨rfl,hb⟩;have aa:=bR hb (by assumption);clear hb;obtain⟨⟨k0,k1,k2,k3,_⟩,_⟩:=aa.out)
       | (go_at_call 170;refine (c9 _ _ _ _ _).mono ?_;rintro _ w4 ⟨rfl,hb⟩;have aa:=bR hb (by assumption);clear hb;obtain⟨⟨k0,k1,k2,k3,_⟩,_⟩:=aa.out)
       | (go_at_call 169;refine (aO _ _ _ _ _ (lH HM (by assumption)) K1.out K2.out).mono ?_;rintro _ w4 ⟨rfl,hb⟩;have aa:=bR hb (by assumption);clear hb;obtain⟨⟨k0,k1,k2,k3,_⟩,_⟩:=aa.out)
       | (go_at_call 70;refine (au _).mono ?_;rintro _ w4 ⟨rfl,rfl⟩;refine eg (P:=Tryz.prog) (a:={ tmps:=#[],defers:=[] }) (w:=w) ?_))
     all_goals exact⟨rfl,by rw[HX.out,HY.out];rfl,ie (by assumption)⟩
    ·go_wp2_with fail
     (with_reducible refine (ak _).mono ?_)
     rintro _ w3 ⟨rfl,rfl⟩
     go_wp2_with fail
     (with_reducible refine (ak _).mono ?_)
     rintro _ w3 ⟨rfl,rfl⟩
     go_wp2_with fail
     have hq:=HQ.out
     show Code.wp Tryz.prog _ (bodyPost Tryz.prog Tryz.f300 (fun e w'=>e=bB k/\Below w.heap.size w w')) _ _
     go_region_held3 (fun w'=>w'.cell? ⟨w.heap.size,0,none⟩=some (.string ⟨lo.toArray⟩)/\w'.cell? ⟨w.heap.size,1,none⟩=some (.string ⟨hi.toArray⟩)/\w'.cell? ⟨w.heap.size,2,none⟩=some (.bool false)/\w'.cell? ⟨w.heap.size,3,none⟩=some (.bool false)/\w.heap.size<w'.heap.size/\w.heap.size<=w'.heap.size/\Below w.heap.size w w')
      (first
       | exact keepDrew ⟨c0,c1,c2,c3,c4⟩ (Nat.le_of_lt c4) ab.out
       | assumption
       | (refine keepBox ?_ hb;assumption))
      (first
       | (go_at_call 168;refine (bQ _ _ _ _ _).mono ?_;rintro _ w1 ⟨rfl,hb⟩)
       | (go_at_call 170;refine (c9 _ _ _ _ _).mono ?_;rintro _ w1 ⟨rfl,hb⟩)
       | (go_at_call 169;refine (aO _ _ _ _ _ ?_ K1.out K2.out).mono ?_;(go_split_ands;exact ag HM.out (by assumption));rintro _ w1 ⟨rfl,hb⟩)
       | (go_at_call 70;refine (ak _).mono ?_;rintro _ w1 ⟨rfl,rfl⟩))
     rename_i HS
     go_end0
     exact⟨by rw[HX.out,HY.out];rfl,HS.2.2.2.2.2.2⟩
  ·rw[a7 g2]
   have HY:Hid (Rs.span lo hi li hn=Rs.bound hi):=by show _=_;unfold Rs.span;rw[if_neg (by simp[G1.out]),if_pos g2]
   have G2:=zh g2
   clear g2
   go_wp2_with fail
   exact⟨rfl,by rw[HX.out,HY.out,a7 G2.out],ab.out⟩
 ·rw[a7 g1]
  have HY:Hid (Rs.span lo hi li hn=Rs.bound lo):=by show _=_;unfold Rs.span;rw[if_pos g1]
  have G1:=zh g1
  clear g1
  go_wp2_with fail
  exact⟨rfl,by rw[HX.out,HY.out,a7 G1.out],ab.out⟩
end
section
open Go.RowKit
attribute [local go_sem ↓] Go.wp_at_zero Go.wp_at_succ
def Stable (A:World->Prop):Prop:=∀ u u':World,A u->Below u.heap.size u u'->A u'
def Kp (A:World->Prop) (w u:World):Prop:=A u/\w.heap.size<=u.heap.size/\Below w.heap.size w u
theorem bg {A:World->Prop}{w u u':World}(hA:Stable A)(hb:Below u.heap.size u u')(h:Hid (Kp A w u)):Hid (Kp A w u') :=
 ⟨hA _ _ h.out.1 hb,Nat.le_trans h.out.2.1 hb.size,h.out.2.2.trans (hb.mono h.out.2.1)⟩
theorem nO {A:World->Prop}{w u:World}(hm:Hid (MaxOk w))(h:Hid (Kp A w u)):MaxOk u:=ag hm.out h.out.2.2
theorem bD {A:World->Prop}{w u:World}(h:Hid (Kp A w u)):Below w.heap.size w u:=h.out.2.2
theorem aen {A:World->Prop}{w u:World}(hA:Stable A)(h:Hid (Kp A w u)):Hid (Kp A w u.drew):=bg hA (Below.refl _ _).drew h
theorem dI (b:Nat)(lo hi:List UInt8)(li hn:Bool):Stable (fun u=>Box u b lo hi li hn):=fun _ _ h hb=>dx h hb
theorem jI {A B:World->Prop}(hA:Stable A)(hB:Stable B):Stable (fun u=>A u/\B u):=fun _ _ h hb=>⟨hA _ _ h.1 hb,hB _ _ h.2 hb⟩
def Box2 (w u:World) (lo hi:List UInt8) (li hn:Bool) (lo' hi':List UInt8) (li' hn':Bool):Prop:=Box u w.heap.size lo hi li hn/\Box u (w.heap.size+1) lo' hi' li' hn'
theorem v9 (w:World)(lo hi:List UInt8)(li hn:Bool)(lo' hi':List UInt8)(li' hn':Bool):Stable (fun u=>Box2 w u lo hi li hn lo' hi' li' hn'):=jI (dI _ _ _ _ _) (dI _ _ _ _ _)
theorem acr (w:World)(T:TypeId)(lo hi:List UInt8)(li hn:Bool)(lo' hi':List UInt8)(li' hn':Bool) :
  Hid (Kp (fun u=>Box2 w u lo hi li hn lo' hi' li' hn') w ((w.alloc (.cells #[.string ⟨lo.toArray⟩,.string ⟨hi.toArray⟩,.bool li,.bool hn] T)).alloc (.cells #[.string ⟨lo'.toArray⟩,.string ⟨hi'.toArray⟩,.bool li',.bool hn'] T))):=by
 refine⟨⟨dx (ck ..) ((Below.refl _ _).alloc (Nat.le_refl _) _),?_⟩,by simp;omega,((Below.refl _ _).alloc (Nat.le_refl _) _).alloc (by simp) _⟩
 have:=ck (w.alloc (.cells #[.string ⟨lo.toArray⟩,.string ⟨hi.toArray⟩,.bool li,.bool hn] T)) lo' hi' li' hn' T
 rw[show (w.alloc (.cells #[.string ⟨lo.toArray⟩,.string ⟨hi.toArray⟩,.bool li,.bool hn] T)).heap.size=w.heap.size+1 from by simp] at this
 exact this
def afterI (phi:List UInt8) (phn:Bool) (slo:List UInt8) (sli:Bool):Int:=if Rm.lt Rs.Ln (Rs.hiC phi phn) (Rs.loC slo sli) then 0 else 7
theorem gH (slo shi:List UInt8)(sli shn:Bool)(plo phi:List UInt8)(pli phn:Bool)(w:World)(hw:MaxOk w)(h1:Rs.bound slo=0)(h2:Rs.bound phi=0) :
  Calls Tryz.prog 301 #[.agg #[.string ⟨slo.toArray⟩,.string ⟨shi.toArray⟩,.bool sli,.bool shn],.agg #[.string ⟨plo.toArray⟩,.string ⟨phi.toArray⟩,.bool pli,.bool phn]] w fun e w'=>e=bB (afterI phi phn slo sli)/\Below w.heap.size w w':=by
 have HM:=zh hw
 have ab:Stable (fun u=>Box2 w u slo shi sli shn plo phi pli phn):=v9 w _ _ _ _ _ _ _ _
 have HI:=acr w 145 slo shi sli shn plo phi pli phn
 have K1:Hid (slo.isEmpty=false->Vm.check slo=0):=fun h=>(Rs.aV h1 h).1
 have K2:Hid (phi.isEmpty=false->Vm.check phi=0):=fun h=>(Rs.aV h2 h).1
 have HQ:Hid (decide (cmpVS phi (sHi phi phn) slo (sLo slo sli)<0)=Rm.lt Rs.Ln (Rs.hiC phi phn) (Rs.loC slo sli)):=by
  have a1:=s9 slo sli
  have a2:=tc phi phn
  have:=kF (po (Rs.sF (i:=phn) h2)) (pk (Rs.sE (i:=sli) h1))
  rw[a1.2,a2.2,<-a1.1,<-a2.1] at this
  show _=_
  rw[this,td]
 obtain⟨k,hk⟩:=ex (afterI phi phn slo sli)
 have HX:Hid (k=if Rm.lt Rs.Ln (Rs.hiC phi phn) (Rs.loC slo sli) then 0 else 7):=hk.symm
 rw[hk]
 obtain⟨B,hB⟩:=ex (Rm.lt Rs.Ln (Rs.hiC phi phn) (Rs.loC slo sli))
 rw[hB] at HQ HX
 clear hw h1 h2 hk hB
 obtain⟨W,hW⟩:=ex ((w.alloc (.cells #[.string ⟨slo.toArray⟩,.string ⟨shi.toArray⟩,.bool sli,.bool shn] 145)).alloc (.cells #[.string ⟨plo.toArray⟩,.string ⟨phi.toArray⟩,.bool pli,.bool phn] 145))
 rw[hW] at HI
 have ac:=aen ab HI
 obtain⟨⟨⟨c0,c1,c2,c3,_⟩,⟨d0,d1,d2,d3,_⟩⟩,_⟩:=HI.out
 cases B
 ·go_enter Tryz.func301,Tryz.ntmps301
  go_wp2_with fail
  clear hW
  have hq:=HQ.out
  go_region_with (first
    | (go_at_call 168;refine (bQ _ _ _ _ _).mono ?_;rintro _ w4 ⟨rfl,hb⟩;have aa:=bg ab hb (by assumption);clear hb;obtain⟨⟨⟨c0,c1,c2,c3,_⟩,⟨d0,d1,d2,d3,_⟩⟩,_⟩:=aa.out)
    | (go_at_call 170;refine (c9 _ _ _ _ _).mono ?_;rintro _ w4 ⟨rfl,hb⟩;have aa:=bg ab hb (by assumption);clear hb;obtain⟨⟨⟨c0,c1,c2,c3,_⟩,⟨d0,d1,d2,d3,_⟩⟩,_⟩:=aa.out)
    | (go_at_call 169;refine (aO _ _ _ _ _ (nO HM (by assumption)) K2.out K1.out).mono ?_;rintro _ w4 ⟨rfl,hb⟩;have aa:=bg ab hb (by assumption);clear hb)
    | (go_at_call 70;refine (au _).mono ?_;rintro _ w4 ⟨rfl,rfl⟩;refine eg (P:=Tryz.prog) (a:={ tmps:=#[],defers:=[] }) (w:=w) ?_))
  all_goals exact⟨rfl,by rw[HX.out];rfl,bD (by assumption)⟩
 ·go_enter Tryz.func301,Tryz.ntmps301
  go_wp2_with fail
  clear hW
  have hq:=HQ.out
  go_region_with (first
    | (go_at_call 168;refine (bQ _ _ _ _ _).mono ?_;rintro _ w4 ⟨rfl,hb⟩;have aa:=bg ab hb (by assumption);clear hb;obtain⟨⟨⟨c0,c1,c2,c3,_⟩,⟨d0,d1,d2,d3,_⟩⟩,_⟩:=aa.out)
    | (go_at_call 170;refine (c9 _ _ _ _ _).mono ?_;rintro _ w4 ⟨rfl,hb⟩;have aa:=bg ab hb (by assumption);clear hb;obtain⟨⟨⟨c0,c1,c2,c3,_⟩,⟨d0,d1,d2,d3,_⟩⟩,_⟩:=aa.out)
    | (go_at_call 169;refine (aO _ _ _ _ _ (nO HM (by assumption)) K2.out K1.out).mono ?_;rintro _ w4 ⟨rfl,hb⟩;have aa:=bg ab hb (by assumption);clear hb)
    | (go_at_call 70;refine (ak _).mono ?_;rintro _ w4 ⟨rfl,rfl⟩))
  all_goals
   go_end0
   exact⟨by rw[HX.out];rfl,bD (by assumption)⟩
end
section
open Go.RowKit
attribute [local go_sem ↓] Go.wp_at_zero Go.wp_at_succ
def At4 (w:World) (p:Addr) (lo hi:List UInt8) (li hn:Bool):Prop:=w.cell? p=some (.string ⟨lo.toArray⟩)/\w.cell? ⟨p.block,p.off+1,none⟩=some (.string ⟨hi.toArray⟩)/\w.cell? ⟨p.block,p.off+2,none⟩=some (.bool li)/\w.cell? ⟨p.block,p.off+3,none⟩=some (.bool hn)
theorem aas {w:World}{p:Addr}{m:Nat}{s:Rs.Sp}(h:Rs.SpAt w (p.add m) s):At4 w (p.add m) s.lo s.hi s.li s.hn:=by
 obtain⟨h0,h1,h2,h3⟩:=h
 rw[Go.Deep.add_add,Nat.add_zero] at h0
 exact⟨h0,h1,h2,h3⟩
theorem bM {w:World}{A:Option Addr}{l:List Rs.Sp}(h:Rs.SRow w A l)(k:Nat)(hk:k<l.length):∃ ad lo hi li hn,A=some ad/\l[k]=⟨lo,hi,li,hn⟩/\ad.block<w.heap.size/\At4 w (ad.add (k*4)) lo hi li hn:=by
 obtain⟨ad,e,hl,hc⟩:=h (by omega)
 exact⟨ad,_,_,_,_,e,rfl,hl,aas (hc k hk)⟩
def fewS (s:Rs.Sp):Bool := !(decide (100<s.lo.length)||decide (100<s.hi.length))
def fewL (l:List Rs.Sp):Bool:=if 80<l.length then false else l.all fewS
theorem aeo (A:Option Addr)(c:Nat)(l:List Rs.Sp)(w:World)(hr:Rs.SRow w A l)(hm:l.length<=maxLen)(hs:∀ s∈l,s.lo.length<=maxLen/\s.hi.length<=maxLen) :
  Calls Tryz.prog 39 #[.slice A l.length c] w fun e w'=>e=.returned (.bool (fewL l))/\w=w':=by
 unfold maxLen at hm hs
 have HR:=zh hr
 have HS:=zh hs
 clear hr hs
 by_cases ab:80<l.length
 ·have HX:Hid (fewL l=false):=by show _=_;unfold fewL;rw[if_pos ab]
  go_enter Tryz.func39,Tryz.ntmps39
  go_wp2_with fail
  go_ret
  exact⟨by rw[HX.out];rfl,rfl⟩
 ·have HX:Hid (fewL l=l.all fewS):=by show _=_;unfold fewL;rw[if_neg ab]
  go_enter Tryz.func39,Tryz.ntmps39
  go_wp2_with fail
  go_loop [3] (fun i=>∃ k:Nat,k<=l.length/\i=.int .i64 k/\Hid (l.all fewS=(l.drop k).all fewS)) (fun i=>l.length-(intOf i).toNat)
  case atStart=>exact⟨0,Nat.zero_le _,rfl,rfl⟩
  case round =>
   obtain⟨k,hk,rfl,HA⟩:=hrel
   by_cases aa:k<l.length
   ·obtain⟨ad,lo,hi,li,hn,rfl,hs,hl,c0,c1,c2,c3⟩:=bM HR.out k aa
    have ac:=HS.out _ (hs ▸ List.getElem_mem aa)
    have HE:Hid ((l.drop k).all fewS=(fewS ⟨lo,hi,li,hn⟩&&(l.drop (k+1)).all fewS)):=by show _=_;rw[List.drop_eq_getElem_cons aa,List.all_cons,hs]
    have ag:=zh hs
    obtain⟨m1,m2⟩:=ac
    clear hs
    by_cases g1:100<lo.length
    ·have ae:decide (100<(lo.length:Int))=true:=decide_eq_true (by omega)
     have HF:Hid (fewS ⟨lo,hi,li,hn⟩=false):=by show _=_;unfold fewS;rw[decide_eq_true g1];rfl
     go_wp2_with fail
     go_ret
     exact⟨by rw[HX.out,HA.out,HE.out,HF.out];rfl,rfl⟩
    ·have ae:decide (100<(lo.length:Int))=false:=decide_eq_false (by omega)
     by_cases g2:100<hi.length
     ·have af:decide (100<(hi.length:Int))=true:=decide_eq_true (by omega)
      have HF:Hid (fewS ⟨lo,hi,li,hn⟩=false):=by show _=_;unfold fewS;rw[decide_eq_true g2,Bool.or_true];rfl
      go_wp2_with fail
      go_ret
      exact⟨by rw[HX.out,HA.out,HE.out,HF.out];rfl,rfl⟩
     ·have af:decide (100<(hi.length:Int))=false:=decide_eq_false (by omega)
      have HF:Hid (fewS ⟨lo,hi,li,hn⟩=true):=by show _=_;unfold fewS;rw[decide_eq_false g1,decide_eq_false g2];rfl
      go_wp2_with fail
      go_round
      case rel=>exact⟨k+1,by omega,by go_num,by show _=_;rw[HA.out,HE.out,HF.out,Bool.true_and]⟩
      case measure=>simp[intOf];omega
   ·obtain rfl:k=l.length:=by omega
    have HF:Hid (l.all fewS=true):=by show _=_;rw[HA.out,List.drop_length];rfl
    go_wp2_with fail
    go_ret
    exact⟨by rw[HX.out,HF.out];rfl,rfl⟩
end
section
open Go.RowKit
def SpanT (T:TypeId):Prop := (Tryz.prog.fieldsOf T).toList.map (fun f => (f.name == "_", f.type, f.offset))=[(false, 9, 0), (false, 9, 1), (false, 4, 2), (false, 4, 3)]/\Tryz.prog.underlying T=some (.struct (Tryz.prog.fieldsOf T))/\Tryz.prog.stoodInHeld T=false/\Tryz.prog.eqGuardType Tryz.prog.depth T=false
theorem spanP:SpanT 145:=⟨by kernel_rfl,by kernel_rfl,by kernel_rfl,by kernel_rfl⟩
theorem yW {T:TypeId}(h:SpanT T)(lo hi:List UInt8)(li hn:Bool)(lo' hi':List UInt8)(li' hn':Bool)(w:World) :
  (Op.equalIn 10000 T (.agg #[.string ⟨lo.toArray⟩,.string ⟨hi.toArray⟩,.bool li,.bool hn]) (.agg #[.string ⟨lo'.toArray⟩,.string ⟨hi'.toArray⟩,.bool li',.bool hn'])).run Tryz.prog w=.ok (decide (Rs.Sp.mk lo hi li hn=⟨lo',hi',li',hn'⟩)) w:=by
 obtain⟨h1,h2,h3,h4⟩:=h
 rw[run_equalIn_struct w 9999 T _ _ h2 h3]
 generalize (Tryz.prog.fieldsOf T).toList=fs at *
 have hl:fs.length=4:=by have:=congrArg List.length h1;simpa using this
 match fs,hl with
 | [f0,f1,f2,f3],_ =>
  simp at h1
  obtain⟨⟨n0,t0,o0⟩,⟨n1,t1,o1⟩,⟨n2,t2,o2⟩,⟨n3,t3,o3⟩⟩:=h1
  simp only[Op.eqFields,n0,n1,n2,n3,t0,t1,t2,t3,o0,o1,o2,o3,ne_eq,not_false_eq_true,if_true]
  simp[go_sem]
  by_cases e0:lo=lo' <;> by_cases e1:hi=hi' <;> by_cases e2:li=li' <;> by_cases e3:hn=hn' <;> simp[e0,e1,e2,e3]
theorem tj {T:TypeId}(h:SpanT T)(lo hi:List UInt8)(li hn:Bool)(lo' hi':List UInt8)(li' hn':Bool)(w:World) :
  (binOp .neq T (.agg #[.string ⟨lo.toArray⟩,.string ⟨hi.toArray⟩,.bool li,.bool hn]) (.agg #[.string ⟨lo'.toArray⟩,.string ⟨hi'.toArray⟩,.bool li',.bool hn'])).run Tryz.prog w=.ok (.bool (!decide (Rs.Sp.mk lo hi li hn=⟨lo',hi',li',hn'⟩))) w:=by
 rw[run_neq_struct,yW h];rfl
theorem tm {T:TypeId}(h:SpanT T)(op:BinOp)(x y:Operand)(xs ys:Array Value)(w:World):(eqGuard op T x y (.agg xs) (.agg ys)).run Tryz.prog w=.ok () w:=run_eqGuard_agg w op T x y xs ys h.2.2.2
end
section
open Go.RowKit
attribute [local go_sem ↓] Go.wp_at_zero Go.wp_at_succ
theorem kG {l m:List Rs.Sp}{k:Nat}(hl:k<l.length)(hm:k<m.length)(h:l.take k=m.take k)(he:l[k]=m[k]):l.take (k+1)=m.take (k+1):=by
 rw[List.take_succ_eq_append_getElem hl,List.take_succ_eq_append_getElem hm,h,he]
theorem ad1 {l m:List Rs.Sp}{k:Nat}(hl:k<l.length)(hm:k<m.length)(he:l[k]≠m[k]):decide (l=m)=false :=
 decide_eq_false fun h=>he (by subst h;rfl)
theorem aat (A:Option Addr)(c:Nat)(l:List Rs.Sp)(B:Option Addr)(d:Nat)(m:List Rs.Sp)(w:World)(hr:Rs.SRow w A l)(hq:Rs.SRow w B m)(hl:l.length<=100000)(_hm:m.length<=100000) :
  Calls Tryz.prog 171 #[.slice A l.length c,.slice B m.length d] w fun e w'=>e=.returned (.bool (decide (l=m)))/\Below w.heap.size w w':=by
 have HR:=zh hr
 have HQ:=zh hq
 clear hr hq
 obtain⟨X,hX⟩:=ex (decide (l=m))
 rw[hX]
 have HX:=zh hX
 clear hX
 by_cases hlen:l.length=m.length
 ·have HL:=zh hlen
  have hd:((l.length:Int) != m.length)=false:=by rw[hlen];simp
  clear hlen
  go_enter Tryz.func171,Tryz.ntmps171
  go_wp2_with fail
  clear hd
  go_loopw [13] (fun i wr=>∃ k:Nat,k<=l.length/\i=.int .i64 k/\Hid (l.take k=m.take k)/\∃ n,wr=w.drewN n) (fun i _=>l.length-(intOf i).toNat)
  case atStart=>exact⟨0,Nat.zero_le _,rfl,rfl,0,rfl⟩
  case round =>
   obtain⟨k,hk,rfl,HT,n,rfl⟩:=hrel
   by_cases af:k<l.length
   ·have aa:k<m.length:=by have:=HL.out;omega
    obtain⟨ad,lo,hi,li,hn,rfl,hs,_,c0,c1,c2,c3⟩:=bM HR.out k af
    obtain⟨ae,ag,ah,ai,aj,rfl,ac,_,e0,e1,e2,e3⟩:=bM HQ.out k aa
    have ab:=tj spanP lo hi li hn ag ah ai aj
    have ak:∀ (x y:Operand) (W:World),(eqGuard .neq 145 x y (.agg #[.string ⟨lo.toArray⟩,.string ⟨hi.toArray⟩,.bool li,.bool hn]) (.agg #[.string ⟨ag.toArray⟩,.string ⟨ah.toArray⟩,.bool ai,.bool aj])).run Tryz.prog W=.ok () W:=fun x y W=>tm spanP .neq x y _ _ W
    by_cases he:(Rs.Sp.mk lo hi li hn)=⟨ag,ah,ai,aj⟩
    ·rw[decide_eq_true he] at ab
     have al:Hid (l.take (k+1)=m.take (k+1)):=kG af aa HT.out (by rw[hs,ac,he])
     clear hs ac he HT
     go_wp2_with fail
     go_quiet (fail)
     clear ab ak c0 c1 c2 c3 e0 e1 e2 e3
     go_wp2_with fail
     go_roundw
     case rel=>exact⟨k+1,by omega,by go_num,al,_,rfl⟩
     case measure=>simp[intOf];omega
    ·rw[decide_eq_false he] at ab
     have HF:Hid (X=false):=by show _=_;rw[<-HX.out];exact ad1 af aa (by rw[hs,ac];exact he)
     clear hs ac he HT
     go_wp2_with fail
     go_quiet (fail)
     clear ab ak c0 c1 c2 c3 e0 e1 e2 e3
     go_wp2_with fail
     go_ret
     exact⟨by rw[HF.out];rfl,below_drewN (below_drewN (Below.refl _ _) _) _⟩
   ·obtain rfl:k=l.length:=by omega
    have HF:Hid (X=true):=by
     show _=_
     have:=HT.out
     rw[List.take_length,HL.out,List.take_length] at this
     rw[<-HX.out];exact decide_eq_true this
    clear HT
    go_wp2_with fail
    go_ret
    exact⟨by rw[HF.out];rfl,below_drewN (Below.refl _ _) _⟩
 ·have hd:((l.length:Int) != m.length)=true:=by simp;omega
  have HF:Hid (X=false):=by show _=_;rw[<-HX.out];exact decide_eq_false fun h=>hlen (by rw[h])
  go_enter Tryz.func171,Tryz.ntmps171
  go_wp2_with fail
  go_ret
  exact⟨by rw[HF.out];rfl,Below.refl _ _⟩
theorem tn (A:Option Addr)(c:Nat)(l:List Rs.Sp)(B:Option Addr)(d:Nat)(m:List Rs.Sp)(w:World)(hr:Rs.SRow w A l)(hq:Rs.SRow w B m)(hl:l.length<=100000)(hm:m.length<=100000) :
  Calls Tryz.prog 135 #[.slice A l.length c,.slice B m.length d] w fun e w'=>e=.returned (.bool (decide (l=m)))/\Below w.heap.size w w':=by
 have HR:=zh hr
 have HQ:=zh hq
 clear hr hq
 go_enter Tryz.func135,Tryz.ntmps135
 go_wp2_with fail
 refine (aat A c l B d m _ HR.out HQ.out hl hm).mono ?_
 rintro _ w1 ⟨rfl,hb⟩
 have HB:=zh hb
 clear hb
 go_wp2_with fail
 go_ret
 exact⟨rfl,HB.out⟩
end
end Go.Proofs.YtgnaiidgjmicaaaGreatDoor

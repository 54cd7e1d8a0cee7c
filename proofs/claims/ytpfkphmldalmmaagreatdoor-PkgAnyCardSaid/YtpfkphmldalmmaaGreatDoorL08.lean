/- Part 8 of what the laws lean on. -/
import Derived.Test.YtpfkphmldalmmaaGreatDoorL07
set_option maxRecDepth 100000
set_option maxHeartbeats 3200000
namespace Go.Proofs.YtpfkphmldalmmaaGreatDoor
section
open Go.RowKit
theorem js (n:Nat)(w:World)(hn:n<=1000000) :
  Calls Tryz.prog 287 #[.int .i64 n] w fun e w'=>e=.returned (.bool (Rm.par n false))/\w=w':=by
 rw[Rm.wm]
 by_cases h:n % 2=1
 all_goals
  have h2:((n:Int) % 2==1)=decide (n % 2=1):=by rw[Bool.eq_iff_iff];simp;omega
  have h0:(0:Int)<=n:=by omega
  go_enter Tryz.func287,Tryz.ntmps287
  go_wp2
  go_ret
  exact⟨by first | rfl | (rw[h2]) | simp[h],rfl⟩
theorem abp (a b:Bool)(w:World):Calls Tryz.prog 290 #[.bool a,.bool b] w fun e w'=>e=.returned (.bool (a&&b))/\w=w':=by
 cases a
 all_goals
  go_enter Tryz.func290,Tryz.ntmps290
  go_wp2
  go_ret
  exact⟨rfl,rfl⟩
theorem xN (a b:Bool)(w:World):Calls Tryz.prog 267 #[.bool a,.bool b] w fun e w'=>e=.returned (.bool (a||b))/\w=w':=by
 cases a
 all_goals
  go_enter Tryz.func267,Tryz.ntmps267
  go_wp2
  go_ret
  exact⟨rfl,rfl⟩
def sideI:Rs.Cut->Int
 | .bot => -1
 | .top=>1
 | .pos _ a=>if a then 1 else -1
def sLo (lo:List UInt8) (li:Bool):Int:=if lo.isEmpty||li then -1 else 1
def sHi (hi:List UInt8) (hn:Bool):Int:=if hi.isEmpty||hn then 1 else -1
theorem sE (lo:List UInt8)(li:Bool):sLo lo li=sideI (Rs.loC lo li)/\Rs.txt (Rs.loC lo li)=lo:=by
 unfold sLo Rs.loC
 cases h:lo.isEmpty
 ·cases li <;> exact⟨rfl,rfl⟩
 ·rw[List.isEmpty_iff] at h;subst h;exact⟨rfl,rfl⟩
theorem sF (hi:List UInt8)(hn:Bool):sHi hi hn=sideI (Rs.hiC hi hn)/\Rs.txt (Rs.hiC hi hn)=hi:=by
 unfold sHi Rs.hiC
 cases h:hi.isEmpty
 ·cases hn <;> exact⟨rfl,rfl⟩
 ·rw[List.isEmpty_iff] at h;subst h;exact⟨rfl,rfl⟩
theorem bQ (lo hi:List UInt8)(li hn:Bool)(w:World) :
  Calls Tryz.prog 151 #[.agg #[.string ⟨lo.toArray⟩,.string ⟨hi.toArray⟩,.bool li,.bool hn]] w fun e w'=>e=.returned (.agg #[.string ⟨lo.toArray⟩,.int .i64 (sLo lo li)])/\Below w.heap.size w w':=by
 unfold sLo
 cases li <;> cases h:lo.isEmpty
 all_goals
  go_enter Tryz.func151,Tryz.ntmps151
  go_wp2
  first
  | exact bodyPost_ret (v:=.agg #[.string ⟨lo.toArray⟩,.int .i64 1]) (by simp[results,Tryz.results151,go_sem]) rfl ⟨rfl,((Below.refl _ _).alloc (Nat.le_refl _) _).alloc (by simp) _⟩
  | exact bodyPost_ret (v:=.agg #[.string ⟨lo.toArray⟩,.int .i64 (-1)]) (by simp[results,Tryz.results151,go_sem]) rfl ⟨rfl,((Below.refl _ _).alloc (Nat.le_refl _) _).alloc (by simp) _⟩
theorem cX (lo hi:List UInt8)(li hn:Bool)(w:World) :
  Calls Tryz.prog 153 #[.agg #[.string ⟨lo.toArray⟩,.string ⟨hi.toArray⟩,.bool li,.bool hn]] w fun e w'=>e=.returned (.agg #[.string ⟨hi.toArray⟩,.int .i64 (sHi hi hn)])/\Below w.heap.size w w':=by
 unfold sHi
 cases hn <;> cases h:hi.isEmpty
 all_goals
  go_enter Tryz.func153,Tryz.ntmps153
  go_wp2
  first
  | exact bodyPost_ret (v:=.agg #[.string ⟨hi.toArray⟩,.int .i64 1]) (by simp[results,Tryz.results153,go_sem]) rfl ⟨rfl,((Below.refl _ _).alloc (Nat.le_refl _) _).alloc (by simp) _⟩
  | exact bodyPost_ret (v:=.agg #[.string ⟨hi.toArray⟩,.int .i64 (-1)]) (by simp[results,Tryz.results153,go_sem]) rfl ⟨rfl,((Below.refl _ _).alloc (Nat.le_refl _) _).alloc (by simp) _⟩
def endI (v:List UInt8) (x:Int):Int:=if v.isEmpty then x else 0
theorem wH (v:List UInt8)(x:Int)(w:World) :
  Calls Tryz.prog 183 #[.agg #[.string ⟨v.toArray⟩,.int .i64 x]] w fun e w'=>e=.returned (.int .i64 (endI v x))/\Below w.heap.size w w':=by
 unfold endI
 cases h:v.isEmpty
 all_goals
  go_enter Tryz.func183,Tryz.ntmps183
  go_wp2
  go_ret
  exact⟨rfl,(Below.refl _ _).alloc (Nat.le_refl _) _⟩
end
section
open Go.RowKit
def cmpVS (v:List UInt8) (x:Int) (u:List UInt8) (y:Int):Int:=if v.isEmpty||u.isEmpty then Vm.sgn (endI v x) (endI u y) else Vm.both (Vm.cmpV v u) (Vm.sgn x y)
theorem keepC {w u u':World}{N:Nat}{a b c d:Value}(h:u.cell? ⟨N,0,none⟩=some a/\u.cell? ⟨N,1,none⟩=some b/\u.cell? ⟨N+1,0,none⟩=some c/\u.cell? ⟨N+1,1,none⟩=some d/\N+2<=u.heap.size/\Below N w u)(hb:Below u.heap.size u u'):u'.cell? ⟨N,0,none⟩=some a/\u'.cell? ⟨N,1,none⟩=some b/\u'.cell? ⟨N+1,0,none⟩=some c/\u'.cell? ⟨N+1,1,none⟩=some d/\N+2<=u'.heap.size/\Below N w u':=by
 obtain⟨h0,h1,h2,h3,h6,h7⟩:=h
 refine⟨?_,?_,?_,?_,Nat.le_trans h6 hb.size,h7.trans (hb.mono (by omega))⟩
 ·rw[hb.cell (by simp;omega)];exact h0
 ·rw[hb.cell (by simp;omega)];exact h1
 ·rw[hb.cell (by simp;omega)];exact h2
 ·rw[hb.cell (by simp;omega)];exact h3
theorem or2 (x y:Int):orL [x,y]=Vm.both x y:=by rw[orL,orL,orL,kv]
theorem aI (v:List UInt8)(x:Int)(u:List UInt8)(y:Int)(w:World)(hw:MaxOk w)(h1:v.isEmpty=false->Vm.check v=0)(h2:u.isEmpty=false->Vm.check u=0) :
  Calls Tryz.prog 152 #[.agg #[.string ⟨v.toArray⟩,.int .i64 x],.agg #[.string ⟨u.toArray⟩,.int .i64 y]] w fun g w'=>g=.returned (.int .i64 (cmpVS v x u y))/\Below w.heap.size w w':=by
 have H1:=zh h1
 have H2:=zh h2
 have HM:=zh hw
 clear h1 h2 hw
 obtain⟨W,hW⟩:=ex ((w.alloc (.cells #[.string ⟨v.toArray⟩,.int .i64 x] 213)).alloc (.cells #[.string ⟨u.toArray⟩,.int .i64 y] 213))
 have aa:Below w.heap.size w W:=by rw[<-hW];exact ((Below.refl _ _).alloc (Nat.le_refl _) _).alloc (by simp) _
 have ab:w.heap.size+2<=W.heap.size:=by rw[<-hW];simp
 have ac:W.cell? ⟨w.heap.size,0,none⟩=some (.string ⟨v.toArray⟩):=by rw[<-hW];simp[go_sem]
 have ad:W.cell? ⟨w.heap.size,1,none⟩=some (.int .i64 x):=by rw[<-hW];simp[go_sem]
 have ae:W.cell? ⟨w.heap.size+1,0,none⟩=some (.string ⟨u.toArray⟩):=by rw[<-hW];simp[go_sem]
 have af:W.cell? ⟨w.heap.size+1,1,none⟩=some (.int .i64 y):=by rw[<-hW];simp[go_sem]
 by_cases he:v.isEmpty=false/\u.isEmpty=false
 ·obtain⟨e1,e2⟩:=he
  have HX:Hid (cmpVS v x u y=Vm.both (Vm.cmpV v u) (Vm.sgn x y)):=by show _=_;unfold cmpVS;rw[e1,e2];rfl
  have K1:=zh (H1.out e1)
  have K2:=zh (H2.out e2)
  go_enter Tryz.func152,Tryz.ntmps152
  go_wp2_with fail
  clear hW
  go_region_held3 (fun w'=>w'.cell? ⟨w.heap.size,0,none⟩=some (.string ⟨v.toArray⟩)/\w'.cell? ⟨w.heap.size,1,none⟩=some (.int .i64 x)/\w'.cell? ⟨w.heap.size+1,0,none⟩=some (.string ⟨u.toArray⟩)/\w'.cell? ⟨w.heap.size+1,1,none⟩=some (.int .i64 y)/\w.heap.size+2<=w'.heap.size/\Below w.heap.size w w')
   (first
    | exact⟨ac,ad,ae,af,ab,aa.drew⟩
    | assumption
    | (refine keepC ?_ hb;assumption)
    | (refine keepC ?_ ((Below.refl _ _).alloc (Nat.le_refl _) _);assumption))
   (first
    | (go_at_call 185;refine (vh v u _ ?_ K1.out K2.out).mono ?_;(go_split_ands;exact ah HM.out (by assumption));rintro _ w1 ⟨rfl,hb⟩)
    | (go_at_call 182;refine (dk x y _).mono ?_;rintro _ w1 ⟨rfl,rfl⟩)
    | (go_at_call 184;refine (ku [_,_] _ _ _ (by simp) (cells2 _ _ _)).mono ?_;rintro _ w1 ⟨rfl,rfl⟩))
  rename_i HS
  have HB:=zh HS.2.2.2.2.2
  clear HS
  go_wp2_with fail
  go_ret
  refine⟨?_,HB.out⟩
  rw[HX.out]
  show Ending.returned (.int .i64 (orL [Vm.cmpV v u,Vm.sgn x y]))=_
  rw[or2]
 ·have HX:Hid (cmpVS v x u y=Vm.sgn (endI v x) (endI u y)):=by
   show _=_
   unfold cmpVS
   rw[if_pos (by cases h3:v.isEmpty <;> cases h4:u.isEmpty <;> first | rfl | exact absurd ⟨h3,h4⟩ he)]
  clear H1 H2
  cases e1:v.isEmpty
  ·have e2:u.isEmpty=true:=by cases h4:u.isEmpty <;> first | rfl | exact absurd ⟨e1,h4⟩ he
   clear he
   go_enter Tryz.func152,Tryz.ntmps152
   go_wp2_with fail
   clear hW
   go_region_held3 (fun w'=>w'.cell? ⟨w.heap.size,0,none⟩=some (.string ⟨v.toArray⟩)/\w'.cell? ⟨w.heap.size,1,none⟩=some (.int .i64 x)/\w'.cell? ⟨w.heap.size+1,0,none⟩=some (.string ⟨u.toArray⟩)/\w'.cell? ⟨w.heap.size+1,1,none⟩=some (.int .i64 y)/\w.heap.size+2<=w'.heap.size/\Below w.heap.size w w')
    (first
     | exact⟨ac,ad,ae,af,ab,aa.drew⟩
     | assumption
     | (refine keepC ?_ hb;assumption))
    (first
     | (go_at_call 183;refine (wH _ _ _).mono ?_;rintro _ w1 ⟨rfl,hb⟩)
     | (go_at_call 182;refine (dk _ _ _).mono ?_;rintro _ w1 ⟨rfl,rfl⟩))
   rename_i HS
   have HB:=zh HS.2.2.2.2.2
   clear HS
   go_wp2_with fail
   go_ret
   exact⟨by rw[HX.out];rfl,HB.out⟩
  ·clear he
   go_enter Tryz.func152,Tryz.ntmps152
   go_wp2_with fail
   clear hW
   go_region_held3 (fun w'=>w'.cell? ⟨w.heap.size,0,none⟩=some (.string ⟨v.toArray⟩)/\w'.cell? ⟨w.heap.size,1,none⟩=some (.int .i64 x)/\w'.cell? ⟨w.heap.size+1,0,none⟩=some (.string ⟨u.toArray⟩)/\w'.cell? ⟨w.heap.size+1,1,none⟩=some (.int .i64 y)/\w.heap.size+2<=w'.heap.size/\Below w.heap.size w w')
    (first
     | exact⟨ac,ad,ae,af,ab,aa.drew⟩
     | assumption
     | (refine keepC ?_ hb;assumption))
    (first
     | (go_at_call 183;refine (wH _ _ _).mono ?_;rintro _ w1 ⟨rfl,hb⟩)
     | (go_at_call 182;refine (dk _ _ _).mono ?_;rintro _ w1 ⟨rfl,rfl⟩))
   rename_i HS
   have HB:=zh HS.2.2.2.2.2
   clear HS
   go_wp2_with fail
   go_ret
   exact⟨by rw[HX.out];rfl,HB.out⟩
end
section
open Go.RowKit
attribute [local go_sem ↓] Go.wp_at_zero Go.wp_at_succ
def br (k:Int):Ending:=if k=0 then .returned (.tuple #[]) else pan k
theorem aW:br 0=.returned (.tuple #[]):=rfl
theorem aT {k:Int}(h:k≠0):br k=pan k:=if_neg h
theorem gw (v:List UInt8)(w:World)(hw:MaxOk w) :
  Calls Tryz.prog 257 #[.string ⟨v.toArray⟩] w fun e w'=>e=br (Rs.bound v)/\Below w.heap.size w w':=by
 have HM:=zh hw
 clear hw
 cases hv:v.isEmpty
 ·by_cases hc:Vm.check v=0
  ·have HK:=zh hc
   have HX:Hid (canonOf v=Vm.canon v):=by show _=_;rw[canonOf,if_pos hc]
   have aa:Hid (Rs.bound v=if Vm.canon v==v then 0 else 5):=by show _=_;unfold Rs.bound;rw[hv,if_neg Bool.false_ne_true,if_pos hc]
   obtain⟨x,hx⟩:=ex (Vm.canon v)
   rw[hx] at HX aa
   clear hx hc
   cases he:v==x
   ·have HB:Hid (Rs.bound v=5):=by
     show _=_
     rw[aa.out,show (x==v)=false from by rw[BEq.comm];exact he];rfl
    clear aa
    go_enter Tryz.func257,Tryz.ntmps257
    go_wp2_with fail
    refine (cH v _ HM.out).mono ?_
    rintro _ w1 ⟨rfl,hb⟩
    rw[HX.out,HK.out]
    have ab:=zh hb
    clear hb
    go_wp2_with fail
    refine (aj _).mono ?_
    rintro _ w2 ⟨rfl,rfl⟩
    go_wp2_with fail
    refine (ao _).mono ?_
    rintro _ w2 ⟨rfl,rfl⟩
    go_wp2_with fail
    exact⟨rfl,by rw[HB.out];rfl,ab.out⟩
   ·have HB:Hid (Rs.bound v=0):=by
     show _=_
     rw[aa.out,show (x==v)=true from by rw[BEq.comm];exact he];rfl
    clear aa
    go_enter Tryz.func257,Tryz.ntmps257
    go_wp2_with fail
    refine (cH v _ HM.out).mono ?_
    rintro _ w1 ⟨rfl,hb⟩
    rw[HX.out,HK.out]
    have ab:=zh hb
    clear hb
    go_wp2_with fail
    refine (aj _).mono ?_
    rintro _ w2 ⟨rfl,rfl⟩
    go_wp2_with fail
    refine (aj _).mono ?_
    rintro _ w2 ⟨rfl,rfl⟩
    go_wp2_with fail
    go_end0
    exact⟨by rw[HB.out];rfl,ab.out⟩
  ·have HB:Hid (Rs.bound v=Vm.check v):=by show _=_;unfold Rs.bound;rw[hv,if_neg Bool.false_ne_true,if_neg hc]
   obtain⟨k,hk⟩:=ex (Vm.check v)
   rw[hk] at HB hc
   have ac:(k==0)=false:=beq_eq_false_iff_ne.2 hc
   have HK:=zh hk
   have HC:=zh hc
   clear hk hc
   go_enter Tryz.func257,Tryz.ntmps257
   go_wp2_with fail
   refine (cH v _ HM.out).mono ?_
   rintro _ w1 ⟨rfl,hb⟩
   rw[HK.out]
   have ab:=zh hb
   clear hb
   go_wp2_with fail
   refine (ao _).mono ?_
   rintro _ w2 ⟨rfl,rfl⟩
   go_wp2_with fail
   exact⟨rfl,by rw[HB.out,aT HC.out],ab.out⟩
 ·have HB:Hid (Rs.bound v=0):=by show _=_;unfold Rs.bound;rw[hv];rfl
  go_enter Tryz.func257,Tryz.ntmps257
  go_wp2_with fail
  refine bodyPost_ret (results_none rfl _ _ _) rfl ?_
  exact⟨by rw[HB.out];rfl,Below.refl _ _⟩
def CutG:Rs.Cut->Prop
 | .pos v _=>Rs.Own v
 | _=>True
theorem px {c:Rs.Cut}(h:Rs.LoOk c):CutG c:=by cases c <;> first | trivial | exact h
theorem py {c:Rs.Cut}(h:Rs.HiOk c):CutG c:=by cases c <;> first | trivial | exact h
theorem nP {c:Rs.Cut}(h:CutG c)(h0:(Rs.txt c).isEmpty=false):Vm.check (Rs.txt c)=0:=by
 cases c with
 | bot=>cases h0
 | top=>cases h0
 | pos v a=>exact h.1
def ordI (c d:Rs.Cut):Int:=if Rm.lt Rs.Ln c d then -1 else if Rm.lt Rs.Ln d c then 1 else 0
theorem kI {c d:Rs.Cut}(hc:CutG c)(hd:CutG d):cmpVS (Rs.txt c) (sideI c) (Rs.txt d) (sideI d)=ordI c d:=by
 cases c with
 | bot =>
  cases d with
  | bot=>rfl
  | top=>rfl
  | pos u b=>show (if (true||u.isEmpty)=true then _ else _)=_;rw[Bool.true_or,if_pos rfl];show Vm.sgn (-1) (if u.isEmpty then _ else 0)=_;rw[Rs.aJ hd];rfl
 | top =>
  cases d with
  | bot=>rfl
  | top=>rfl
  | pos u b=>show (if (true||u.isEmpty)=true then _ else _)=_;rw[Bool.true_or,if_pos rfl];show Vm.sgn 1 (if u.isEmpty then _ else 0)=_;rw[Rs.aJ hd];rfl
 | pos v a =>
  cases d with
  | bot=>show (if (v.isEmpty||true)=true then _ else _)=_;rw[Bool.or_true,if_pos rfl];show Vm.sgn (if v.isEmpty then _ else 0) (-1)=_;rw[Rs.aJ hc];rfl
  | top=>show (if (v.isEmpty||true)=true then _ else _)=_;rw[Bool.or_true,if_pos rfl];show Vm.sgn (if v.isEmpty then _ else 0) 1=_;rw[Rs.aJ hc];rfl
  | pos u b =>
   show (if (v.isEmpty||u.isEmpty)=true then _ else Vm.both (Vm.cmpV v u) (Vm.sgn (sideI (.pos v a)) (sideI (.pos u b))))=ordI (.pos v a) (.pos u b)
   unfold ordI
   rw[Rs.rL hc hd,Rs.rL hd hc,Rs.aJ hc,Rs.aJ hd,Vm.eO.1 v u,Bool.or_self,if_neg Bool.false_ne_true]
   have r:=Vm.eu v u
   rcases (show Vm.cmpV v u = -1\/Vm.cmpV v u=0\/Vm.cmpV v u=1 by omega) with h | h | h <;> rw[h] <;> cases a <;> cases b <;> rfl
theorem sG {c d:Rs.Cut}:decide (ordI c d<0)=Rm.lt Rs.Ln c d:=by
 unfold ordI
 cases Rm.lt Rs.Ln c d
 ·cases Rm.lt Rs.Ln d c <;> rfl
 ·rfl
def Box (w:World) (b:Nat) (lo hi:List UInt8) (li hn:Bool):Prop:=w.cell? ⟨b,0,none⟩=some (.string ⟨lo.toArray⟩)/\w.cell? ⟨b,1,none⟩=some (.string ⟨hi.toArray⟩)/\w.cell? ⟨b,2,none⟩=some (.bool li)/\w.cell? ⟨b,3,none⟩=some (.bool hn)/\b<w.heap.size
theorem d9 (w:World)(lo hi:List UInt8)(li hn:Bool)(T:TypeId):Box (w.alloc (.cells #[.string ⟨lo.toArray⟩,.string ⟨hi.toArray⟩,.bool li,.bool hn] T)) w.heap.size lo hi li hn:=by
 refine⟨?_,?_,?_,?_,by simp⟩ <;> simp[go_sem]
theorem dp {w w':World}{b:Nat}{lo hi:List UInt8}{li hn:Bool}(h:Box w b lo hi li hn)(hb:Below w.heap.size w w'):Box w' b lo hi li hn:=by
 obtain⟨h0,h1,h2,h3,h4⟩:=h
 refine⟨?_,?_,?_,?_,Nat.lt_of_lt_of_le h4 hb.size⟩
 ·rw[hb.cell (by simp;omega)];exact h0
 ·rw[hb.cell (by simp;omega)];exact h1
 ·rw[hb.cell (by simp;omega)];exact h2
 ·rw[hb.cell (by simp;omega)];exact h3
theorem keepBox {w u u':World}{B b:Nat}{lo hi:List UInt8}{li hn:Bool}(h:u.cell? ⟨b,0,none⟩=some (.string ⟨lo.toArray⟩)/\u.cell? ⟨b,1,none⟩=some (.string ⟨hi.toArray⟩)/\u.cell? ⟨b,2,none⟩=some (.bool li)/\u.cell? ⟨b,3,none⟩=some (.bool hn)/\b<u.heap.size/\B<=u.heap.size/\Below B w u)(hb:Below u.heap.size u u'):u'.cell? ⟨b,0,none⟩=some (.string ⟨lo.toArray⟩)/\u'.cell? ⟨b,1,none⟩=some (.string ⟨hi.toArray⟩)/\u'.cell? ⟨b,2,none⟩=some (.bool li)/\u'.cell? ⟨b,3,none⟩=some (.bool hn)/\b<u'.heap.size/\B<=u'.heap.size/\Below B w u':=by
 obtain⟨h0,h1,h2,h3,h4,h5,h6⟩:=h
 obtain⟨g0,g1,g2,g3,g4⟩:=dp ⟨h0,h1,h2,h3,h4⟩ hb
 exact⟨g0,g1,g2,g3,g4,Nat.le_trans h5 hb.size,h6.trans (hb.mono h5)⟩
theorem keepDrew {w u:World}{B b:Nat}{lo hi:List UInt8}{li hn:Bool}(h:Box u b lo hi li hn)(h5:B<=u.heap.size)(h6:Below B w u):u.drew.cell? ⟨b,0,none⟩=some (.string ⟨lo.toArray⟩)/\u.drew.cell? ⟨b,1,none⟩=some (.string ⟨hi.toArray⟩)/\u.drew.cell? ⟨b,2,none⟩=some (.bool li)/\u.drew.cell? ⟨b,3,none⟩=some (.bool hn)/\b<u.drew.heap.size/\B<=u.drew.heap.size/\Below B w u.drew:=by
 obtain⟨g0,g1,g2,g3,g4⟩:=h
 exact⟨g0,g1,g2,g3,g4,h5,h6.drew⟩
theorem ec {P:Program}{G:Prop}{a:Act}{w:World}(h:wpAny P .any #[] (fun _ _ _=>G) 0 #[] a w):G:=h.2
def Inv (w u:World) (b:Nat) (lo hi:List UInt8) (li hn:Bool):Prop:=Box u b lo hi li hn/\w.heap.size<=u.heap.size/\Below w.heap.size w u
theorem bR {w u u':World}{b:Nat}{lo hi:List UInt8}{li hn:Bool}(hb:Below u.heap.size u u')(h:Hid (Inv w u b lo hi li hn)):Hid (Inv w u' b lo hi li hn) :=
 ⟨dp h.out.1 hb,Nat.le_trans h.out.2.1 hb.size,h.out.2.2.trans (hb.mono h.out.2.1)⟩
theorem lO {w u:World}{b:Nat}{lo hi:List UInt8}{li hn:Bool}(hm:Hid (MaxOk w))(h:Hid (Inv w u b lo hi li hn)):MaxOk u:=ah hm.out h.out.2.2
theorem gU {w u:World}{b:Nat}{lo hi:List UInt8}{li hn:Bool}(h:Hid (Inv w u b lo hi li hn)):Below w.heap.size w u:=h.out.2.2
theorem nQ (i:Nat)(lo hi:List UInt8)(li hn:Bool)(w:World)(hi0:i<=100000)(hw:MaxOk w) :
  Calls Tryz.prog 225 #[.int .i64 i,.agg #[.string ⟨lo.toArray⟩,.string ⟨hi.toArray⟩,.bool li,.bool hn]] w fun e w'=>e=br (if 64<=i then 4 else Rs.span lo hi li hn)/\Below w.heap.size w w':=by
 have ai:∀ (x:Bool) (w:World),(Op.unary .not (.bool x)).run Tryz.prog w=.ok (.bool (!x)) w:=fun _ _=>rfl
 have HN:=zh (d9 w lo hi li hn 113)
 have HB:=zh ((Below.refl w.heap.size w).alloc (Nat.le_refl _) (.cells #[.string ⟨lo.toArray⟩,.string ⟨hi.toArray⟩,.bool li,.bool hn] 113))
 have HM:=zh hw
 clear hw
 obtain⟨k,hk⟩:=ex (if 64<=i then 4 else Rs.span lo hi li hn)
 rw[hk]
 by_cases ad:64<=i
 ·have h1:decide ((i:Int)<64)=false:=decide_eq_false (by omega)
  have HX:Hid (k=4):=by show _=_;rw[<-hk,if_pos ad]
  clear hk
  go_enter Tryz.func225,Tryz.ntmps225
  go_wp2_with fail
  (with_reducible refine (ao _).mono ?_)
  rintro _ w2 ⟨rfl,rfl⟩
  go_wp2_with fail
  exact⟨rfl,by rw[HX.out];rfl,HB.out⟩
 have h1:decide ((i:Int)<64)=true:=decide_eq_true (by omega)
 have HX:Hid (k=Rs.span lo hi li hn):=by show _=_;rw[<-hk,if_neg ad]
 clear ad hk
 go_enter Tryz.func225,Tryz.ntmps225
 go_wp2_with fail
 refine (aj _).mono ?_
 rintro _ w2 ⟨rfl,rfl⟩
 obtain⟨c0,c1,c2,c3,c4⟩:=HN.out
 obtain⟨W,hW⟩:=ex (w.alloc (.cells #[.string ⟨lo.toArray⟩,.string ⟨hi.toArray⟩,.bool li,.bool hn] 113))
 rw[hW] at HB c0 c1 c2 c3 c4 HN
 have af:MaxOk W:=by rw[<-hW];exact ah HM.out ((Below.refl _ _).alloc (Nat.le_refl _) _)
 rw[hW]
 have ae:=zh af
 clear hW af
 go_wp2_with fail
 refine (gw lo _ ae.out).mono ?_
 rintro _ w1 ⟨rfl,hb⟩
 obtain⟨m1,b1,d1⟩:MaxOk w1/\Box w1 w.heap.size lo hi li hn/\Below w.heap.size w w1:=⟨ah ae.out hb,dp HN.out hb,bt HB.out hb⟩
 clear hb c0 c1 c2 c3 c4 HN HB ae
 obtain⟨c0,c1,c2,c3,c4⟩:=b1
 have ac:=zh m1
 have ab:=zh d1
 have ag:Hid (Box w1 w.heap.size lo hi li hn):=⟨c0,c1,c2,c3,c4⟩
 clear m1 d1
 by_cases g1:Rs.bound lo=0
 ·rw[g1,aW]
  have G1:=zh g1
  clear g1
  go_wp2_with fail
  (with_reducible refine (gw hi _ ac.out).mono ?_)
  rintro _ w2 ⟨rfl,hb⟩
  obtain⟨m1,b1,d1⟩:MaxOk w2/\Box w2 w.heap.size lo hi li hn/\Below w.heap.size w w2:=⟨ah ac.out hb,dp ag.out hb,ab.out.trans (hb.mono (Nat.le_of_lt c4))⟩
  clear hb c0 c1 c2 c3 c4 ag ab ac
  have ak:Hid (Inv w w2.drew w.heap.size lo hi li hn):=⟨b1,Nat.le_of_lt b1.2.2.2.2,d1.drew⟩
  obtain⟨c0,c1,c2,c3,c4⟩:=b1
  have ac:=zh m1
  have ab:=zh d1
  clear m1 d1
  by_cases g2:Rs.bound hi=0
  ·rw[g2,aW]
   have G2:=zh g2
   clear g2
   by_cases q1:(lo.isEmpty&&li)=true
   ·obtain⟨e1,rfl⟩:lo.isEmpty=true/\li=true:=by simpa using q1
    have HY:Hid (Rs.span lo hi true hn=1):=by show _=_;unfold Rs.span;rw[if_neg (by simp[G1.out]),if_neg (by simp[G2.out]),e1];rfl
    clear q1
    go_wp2_with fail
    (with_reducible refine (ao _).mono ?_)
    rintro _ w3 ⟨rfl,rfl⟩
    go_wp2_with fail
    exact⟨rfl,by rw[HX.out,HY.out];rfl,ab.out⟩
   by_cases q2:(hi.isEmpty&&hn)=true
   ·obtain⟨e2,rfl⟩:hi.isEmpty=true/\hn=true:=by simpa using q2
    have HY:Hid (Rs.span lo hi li true=1):=by show _=_;unfold Rs.span;rw[if_neg (by simp[G1.out]),if_neg (by simp[G2.out]),if_pos (by rw[e2];simp)]
    clear q2
    cases e1:lo.isEmpty
    ·clear q1
     go_wp2_with fail
     (with_reducible refine (aj _).mono ?_)
     rintro _ w3 ⟨rfl,rfl⟩
     go_wp2_with fail
     (with_reducible refine (ao _).mono ?_)
     rintro _ w3 ⟨rfl,rfl⟩
     go_wp2_with fail
     exact⟨rfl,by rw[HX.out,HY.out];rfl,ab.out⟩
    ·obtain rfl:li=false:=by cases li <;> first | rfl | (rw[e1] at q1;exact absurd rfl q1)
     clear q1
     go_wp2_with fail
     (with_reducible refine (aj _).mono ?_)
     rintro _ w3 ⟨rfl,rfl⟩
     go_wp2_with fail
     (with_reducible refine (ao _).mono ?_)
     rintro _ w3 ⟨rfl,rfl⟩
     go_wp2_with fail
     exact⟨rfl,by rw[HX.out,HY.out];rfl,ab.out⟩
   have p1:lo.isEmpty=true->li=false:=fun h=>by cases li <;> first | rfl | (rw[h] at q1;exact absurd rfl q1)
   have p2:hi.isEmpty=true->hn=false:=fun h=>by cases hn <;> first | rfl | (rw[h] at q2;exact absurd rfl q2)
   have K1:Hid (lo.isEmpty=false->Vm.check lo=0):=fun h=>(Rs.aN G1.out h).1
   have K2:Hid (hi.isEmpty=false->Vm.check hi=0):=fun h=>(Rs.aN G2.out h).1
   have HQ:Hid (decide (cmpVS lo (sLo lo li) hi (sHi hi hn)<0)=Rm.ok Rs.Ln (Rs.toP lo hi li hn)):=by
    have a1:=sE lo li
    have a2:=sF hi hn
    have:=kI (px (Rs.r6 (i:=li) G1.out)) (py (Rs.r7 (i:=hn) G2.out))
    rw[a1.2,a2.2,<-a1.1,<-a2.1] at this
    show _=_
    rw[this,sG];rfl
   have HY:Hid (Rs.span lo hi li hn=if Rm.ok Rs.Ln (Rs.toP lo hi li hn) then 0 else 7):=Rs.pj G1.out G2.out p1 p2
   obtain⟨B,hB⟩:=ex (Rm.ok Rs.Ln (Rs.toP lo hi li hn))
   rw[hB] at HQ HY
   have e1:lo.isEmpty=false\/(lo.isEmpty=true/\li=false):=by cases h:lo.isEmpty <;> simp;exact p1 h
   have e2:hi.isEmpty=false\/(hi.isEmpty=true/\hn=false):=by cases h:hi.isEmpty <;> simp;exact p2 h
   clear q1 q2 p1 p2 hB
   rcases e1 with e1 | ⟨e1,rfl⟩ <;> rcases e2 with e2 | ⟨e2,rfl⟩
   ·cases B
    ·go_wp2_with fail
     (with_reducible refine (aj _).mono ?_)
     rintro _ w3 ⟨rfl,rfl⟩
     go_wp2_with fail
     (with_reducible refine (aj _).mono ?_)
     rintro _ w3 ⟨rfl,rfl⟩
     go_wp2_with fail
     have hq:=HQ.out
     go_region_with (first
       | (go_at_call 151;refine (bQ _ _ _ _ _).mono ?_;rintro _ w4 ⟨rfl,hb⟩;have aa:=bR hb (by assumption);clear hb;obtain⟨⟨k0,k1,k2,k3,_⟩,_⟩:=aa.out)
       | (go_at_call 153;refine (cX _ _ _ _ _).mono ?_;rintro _ w4 ⟨rfl,hb⟩;have aa:=bR hb (by assumption);clear hb;obtain⟨⟨k0,k1,k2,k3,_⟩,_⟩:=aa.out)
       | (go_at_call 152;refine (aI _ _ _ _ _ (lO HM (by assumption)) K1.out K2.out).mono ?_;rintro _ w4 ⟨rfl,hb⟩;have aa:=bR hb (by assumption);clear hb;obtain⟨⟨k0,k1,k2,k3,_⟩,_⟩:=aa.out)
       | (go_at_call 63;refine (ao _).mono ?_;rintro _ w4 ⟨rfl,rfl⟩;refine ec (P:=Tryz.prog) (a:={ tmps:=#[],defers:=[] }) (w:=w) ?_))
     all_goals exact⟨rfl,by rw[HX.out,HY.out];rfl,gU (by assumption)⟩
    ·go_wp2_with fail
     (with_reducible refine (aj _).mono ?_)
     rintro _ w3 ⟨rfl,rfl⟩
     go_wp2_with fail
     (with_reducible refine (aj _).mono ?_)
     rintro _ w3 ⟨rfl,rfl⟩
     go_wp2_with fail
     have hq:=HQ.out
     show Code.wp Tryz.prog _ (bodyPost Tryz.prog Tryz.f225 (fun e w'=>e=br k/\Below w.heap.size w w')) _ _
     go_region_held3 (fun w'=>w'.cell? ⟨w.heap.size,0,none⟩=some (.string ⟨lo.toArray⟩)/\w'.cell? ⟨w.heap.size,1,none⟩=some (.string ⟨hi.toArray⟩)/\w'.cell? ⟨w.heap.size,2,none⟩=some (.bool li)/\w'.cell? ⟨w.heap.size,3,none⟩=some (.bool hn)/\w.heap.size<w'.heap.size/\w.heap.size<=w'.heap.size/\Below w.heap.size w w')
      (first
       | exact keepDrew ⟨c0,c1,c2,c3,c4⟩ (Nat.le_of_lt c4) ab.out
       | assumption
       | (refine keepBox ?_ hb;assumption))
      (first
       | (go_at_call 151;refine (bQ _ _ _ _ _).mono ?_;rintro _ w1 ⟨rfl,hb⟩)
       | (go_at_call 153;refine (cX _ _ _ _ _).mono ?_;rintro _ w1 ⟨rfl,hb⟩)
       | (go_at_call 152;refine (aI _ _ _ _ _ ?_ K1.out K2.out).mono ?_;(go_split_ands;exact ah HM.out (by assumption));rintro _ w1 ⟨rfl,hb⟩)
       | (go_at_call 63;refine (aj _).mono ?_;rintro _ w1 ⟨rfl,rfl⟩))
     rename_i HS
     go_end0
     exact⟨by rw[HX.out,HY.out];rfl,HS.2.2.2.2.2.2⟩
   ·cases B
    ·go_wp2_with fail
     (with_reducible refine (aj _).mono ?_)
     rintro _ w3 ⟨rfl,rfl⟩
     go_wp2_with fail
     (with_reducible refine (aj _).mono ?_)
     rintro _ w3 ⟨rfl,rfl⟩
     go_wp2_with fail
     have hq:=HQ.out
     go_region_with (first
       | (go_at_call 151;refine (bQ _ _ _ _ _).mono ?_;rintro _ w4 ⟨rfl,hb⟩;have aa:=bR hb (by assumption);clear hb;obtain⟨⟨k0,k1,k2,k3,_⟩,_⟩:=aa.out)
       | (go_at_call 153;refine (cX _ _ _ _ _).mono ?_;rintro _ w4 ⟨rfl,hb⟩;have aa:=bR hb (by assumption);clear hb;obtain⟨⟨k0,k1,k2,k3,_⟩,_⟩:=aa.out)
       | (go_at_call 152;refine (aI _ _ _ _ _ (lO HM (by assumption)) K1.out K2.out).mono ?_;rintro _ w4 ⟨rfl,hb⟩;have aa:=bR hb (by assumption);clear hb;obtain⟨⟨k0,k1,k2,k3,_⟩,_⟩:=aa.out)
       | (go_at_call 63;refine (ao _).mono ?_;rintro _ w4 ⟨rfl,rfl⟩;refine ec (P:=Tryz.prog) (a:={ tmps:=#[],defers:=[] }) (w:=w) ?_))
     all_goals exact⟨rfl,by rw[HX.out,HY.out];rfl,gU (by assumption)⟩
    ·go_wp2_with fail
     (with_reducible refine (aj _).mono ?_)
     rintro _ w3 ⟨rfl,rfl⟩
     go_wp2_with fail
     (with_reducible refine (aj _).mono ?_)
     rintro _ w3 ⟨rfl,rfl⟩
     go_wp2_with fail
     have hq:=HQ.out
     show Code.wp Tryz.prog _ (bodyPost Tryz.prog Tryz.f225 (fun e w'=>e=br k/\Below w.heap.size w w')) _ _
     go_region_held3 (fun w'=>w'.cell? ⟨w.heap.size,0,none⟩=some (.string ⟨lo.toArray⟩)/\w'.cell? ⟨w.heap.size,1,none⟩=some (.string ⟨hi.toArray⟩)/\w'.cell? ⟨w.heap.size,2,none⟩=some (.bool li)/\w'.cell? ⟨w.heap.size,3,none⟩=some (.bool false)/\w.heap.size<w'.heap.size/\w.heap.size<=w'.heap.size/\Below w.heap.size w w')
      (first
       | exact keepDrew ⟨c0,c1,c2,c3,c4⟩ (Nat.le_of_lt c4) ab.out
       | assumption
       | (refine keepBox ?_ hb;assumption))
      (first
       | (go_at_call 151;refine (bQ _ _ _ _ _).mono ?_;rintro _ w1 ⟨rfl,hb⟩)
       | (go_at_call 153;refine (cX _ _ _ _ _).mono ?_;rintro _ w1 ⟨rfl,hb⟩)
       | (go_at_call 152;refine (aI _ _ _ _ _ ?_ K1.out K2.out).mono ?_;(go_split_ands;exact ah HM.out (by assumption));rintro _ w1 ⟨rfl,hb⟩)
       | (go_at_call 63;refine (aj _).mono ?_;rintro _ w1 ⟨rfl,rfl⟩))
     rename_i HS
     go_end0
     exact⟨by rw[HX.out,HY.out];rfl,HS.2.2.2.2.2.2⟩
   ·cases B
    ·go_wp2_with fail
     (with_reducible refine (aj _).mono ?_)
     rintro _ w3 ⟨rfl,rfl⟩
     go_wp2_with fail
     (with_reducible refine (aj _).mono ?_)
     rintro _ w3 ⟨rfl,rfl⟩
     go_wp2_with fail
     have hq:=HQ.out
     go_region_with (first
       | (go_at_call 151;refine (bQ _ _ _ _ _).mono ?_;rintro _ w4 ⟨rfl,hb⟩;have aa:=bR hb (by assumption);clear hb;obtain⟨⟨k0,k1,k2,k3,_⟩,_⟩:=aa.out)
       | (go_at_call 153;refine (cX _ _ _ _ _).mono ?_;rintro _ w4 ⟨rfl,hb⟩;have aa:=bR hb (by assumption);clear hb;obtain⟨⟨k0,k1,k2,k3,_⟩,_⟩:=aa.out)
       | (go_at_call 152;refine (aI _ _ _ _ _ (lO HM (by assumption)) K1.out K2.out).mono ?_;rintro _ w4 ⟨rfl,hb⟩;have aa:=bR hb (by assumption);clear hb;obtain⟨⟨k0,k1,k2,k3,_⟩,_⟩:=aa.out)
       | (go_at_call 63;refine (ao _).mono ?_;rintro _ w4 ⟨rfl,rfl⟩;refine ec (P:=Tryz.prog) (a:={ tmps:=#[],defers:=[] }) (w:=w) ?_))
     all_goals exact⟨rfl,by rw[HX.out,HY.out];rfl,gU (by assumption)⟩
    ·go_wp2_with fail
     (with_reducible refine (aj _).mono ?_)
     rintro _ w3 ⟨rfl,rfl⟩
     go_wp2_with fail
     (with_reducible refine (aj _).mono ?_)
     rintro _ w3 ⟨rfl,rfl⟩
     go_wp2_with fail
     have hq:=HQ.out
     show Code.wp Tryz.prog _ (bodyPost Tryz.prog Tryz.f225 (fun e w'=>e=br k/\Below w.heap.size w w')) _ _
     go_region_held3 (fun w'=>w'.cell? ⟨w.heap.size,0,none⟩=some (.string ⟨lo.toArray⟩)/\w'.cell? ⟨w.heap.size,1,none⟩=some (.string ⟨hi.toArray⟩)/\w'.cell? ⟨w.heap.size,2,none⟩=some (.bool false)/\w'.cell? ⟨w.heap.size,3,none⟩=some (.bool hn)/\w.heap.size<w'.heap.size/\w.heap.size<=w'.heap.size/\Below w.heap.size w w')
      (first
       | exact keepDrew ⟨c0,c1,c2,c3,c4⟩ (Nat.le_of_lt c4) ab.out
       | assumption
       | (refine keepBox ?_ hb;assumption))
      (first
       | (go_at_call 151;refine (bQ _ _ _ _ _).mono ?_;rintro _ w1 ⟨rfl,hb⟩)
       | (go_at_call 153;refine (cX _ _ _ _ _).mono ?_;rintro _ w1 ⟨rfl,hb⟩)
       | (go_at_call 152;refine (aI _ _ _ _ _ ?_ K1.out K2.out).mono ?_;(go_split_ands;exact ah HM.out (by assumption));rintro _ w1 ⟨rfl,hb⟩)
       | (go_at_call 63;refine (aj _).mono ?_;rintro _ w1 ⟨rfl,rfl⟩))
     rename_i HS
     go_end0
     exact⟨by rw[HX.out,HY.out];rfl,HS.2.2.2.2.2.2⟩
   ·cases B
    ·go_wp2_with fail
     (with_reducible refine (aj _).mono ?_)
     rintro _ w3 ⟨rfl,rfl⟩
     go_wp2_with fail
     (with_reducible refine (aj _).mono ?_)
     rintro _ w3 ⟨rfl,rfl⟩
     go_wp2_with fail
     have hq:=HQ.out
     go_region_with (first
       | (go_at_call 151;refine (bQ _ _ _ _ _).mono ?_;rintro _ w4 ⟨rfl,hb⟩;have aa:=bR hb (by assumption);clear hb;obtain⟨⟨k0,k1,k2,k3,_⟩,_⟩:=aa.out)
       | (go_at_call 153;refine (cX _ _ _ _ _).mono ?_;rintro _ w4 ⟨rfl,hb⟩;have aa:=bR hb (by assumption);clear hb;obtain⟨⟨k0,k1,k2,k3,_⟩,_⟩:=aa.out)
       | (go_at_call 152;refine (aI _ _ _ _ _ (lO HM (by assumption)) K1.out K2.out).mono ?_;rintro _ w4 ⟨rfl,hb⟩;have aa:=bR hb (by assumption);clear hb;obtain⟨⟨k0,k1,k2,k3,_⟩,_⟩:=aa.out)
       | (go_at_call 63;refine (ao _).mono ?_;rintro _ w4 ⟨rfl,rfl⟩;refine ec (P:=Tryz.prog) (a:={ tmps:=#[],defers:=[] }) (w:=w) ?_))
     all_goals exact⟨rfl,by rw[HX.out,HY.out];rfl,gU (by assumption)⟩
    ·go_wp2_with fail
     (with_reducible refine (aj _).mono ?_)
     rintro _ w3 ⟨rfl,rfl⟩
     go_wp2_with fail
     (with_reducible refine (aj _).mono ?_)
     rintro _ w3 ⟨rfl,rfl⟩
     go_wp2_with fail
     have hq:=HQ.out
     show Code.wp Tryz.prog _ (bodyPost Tryz.prog Tryz.f225 (fun e w'=>e=br k/\Below w.heap.size w w')) _ _
     go_region_held3 (fun w'=>w'.cell? ⟨w.heap.size,0,none⟩=some (.string ⟨lo.toArray⟩)/\w'.cell? ⟨w.heap.size,1,none⟩=some (.string ⟨hi.toArray⟩)/\w'.cell? ⟨w.heap.size,2,none⟩=some (.bool false)/\w'.cell? ⟨w.heap.size,3,none⟩=some (.bool false)/\w.heap.size<w'.heap.size/\w.heap.size<=w'.heap.size/\Below w.heap.size w w')
      (first
       | exact keepDrew ⟨c0,c1,c2,c3,c4⟩ (Nat.le_of_lt c4) ab.out
       | assumption
       | (refine keepBox ?_ hb;assumption))
      (first
       | (go_at_call 151;refine (bQ _ _ _ _ _).mono ?_;rintro _ w1 ⟨rfl,hb⟩)
       | (go_at_call 153;refine (cX _ _ _ _ _).mono ?_;rintro _ w1 ⟨rfl,hb⟩)
       | (go_at_call 152;refine (aI _ _ _ _ _ ?_ K1.out K2.out).mono ?_;(go_split_ands;exact ah HM.out (by assumption));rintro _ w1 ⟨rfl,hb⟩)
       | (go_at_call 63;refine (aj _).mono ?_;rintro _ w1 ⟨rfl,rfl⟩))
     rename_i HS
     go_end0
     exact⟨by rw[HX.out,HY.out];rfl,HS.2.2.2.2.2.2⟩
  ·rw[aT g2]
   have HY:Hid (Rs.span lo hi li hn=Rs.bound hi):=by show _=_;unfold Rs.span;rw[if_neg (by simp[G1.out]),if_pos g2]
   have G2:=zh g2
   clear g2
   go_wp2_with fail
   exact⟨rfl,by rw[HX.out,HY.out,aT G2.out],ab.out⟩
 ·rw[aT g1]
  have HY:Hid (Rs.span lo hi li hn=Rs.bound lo):=by show _=_;unfold Rs.span;rw[if_pos g1]
  have G1:=zh g1
  clear g1
  go_wp2_with fail
  exact⟨rfl,by rw[HX.out,HY.out,aT G1.out],ab.out⟩
end
section
open Go.RowKit
attribute [local go_sem ↓] Go.wp_at_zero Go.wp_at_succ
def Stable (A:World->Prop):Prop:=∀ u u':World,A u->Below u.heap.size u u'->A u'
def Kp (A:World->Prop) (w u:World):Prop:=A u/\w.heap.size<=u.heap.size/\Below w.heap.size w u
theorem bq {A:World->Prop}{w u u':World}(hA:Stable A)(hb:Below u.heap.size u u')(h:Hid (Kp A w u)):Hid (Kp A w u') :=
 ⟨hA _ _ h.out.1 hb,Nat.le_trans h.out.2.1 hb.size,h.out.2.2.trans (hb.mono h.out.2.1)⟩
theorem nR {A:World->Prop}{w u:World}(hm:Hid (MaxOk w))(h:Hid (Kp A w u)):MaxOk u:=ah hm.out h.out.2.2
theorem dq {A:World->Prop}{w u:World}(h:Hid (Kp A w u)):Below w.heap.size w u:=h.out.2.2
theorem ac9 {A:World->Prop}{w u:World}(hA:Stable A)(h:Hid (Kp A w u)):Hid (Kp A w u.drew):=bq hA (Below.refl _ _).drew h
theorem eD (b:Nat)(lo hi:List UInt8)(li hn:Bool):Stable (fun u=>Box u b lo hi li hn):=fun _ _ h hb=>dp h hb
theorem jt {A B:World->Prop}(hA:Stable A)(hB:Stable B):Stable (fun u=>A u/\B u):=fun _ _ h hb=>⟨hA _ _ h.1 hb,hB _ _ h.2 hb⟩
def Box2 (w u:World) (lo hi:List UInt8) (li hn:Bool) (lo' hi':List UInt8) (li' hn':Bool):Prop:=Box u w.heap.size lo hi li hn/\Box u (w.heap.size+1) lo' hi' li' hn'
theorem vj (w:World)(lo hi:List UInt8)(li hn:Bool)(lo' hi':List UInt8)(li' hn':Bool):Stable (fun u=>Box2 w u lo hi li hn lo' hi' li' hn'):=jt (eD _ _ _ _ _) (eD _ _ _ _ _)
theorem abq (w:World)(T:TypeId)(lo hi:List UInt8)(li hn:Bool)(lo' hi':List UInt8)(li' hn':Bool) :
  Hid (Kp (fun u=>Box2 w u lo hi li hn lo' hi' li' hn') w ((w.alloc (.cells #[.string ⟨lo.toArray⟩,.string ⟨hi.toArray⟩,.bool li,.bool hn] T)).alloc (.cells #[.string ⟨lo'.toArray⟩,.string ⟨hi'.toArray⟩,.bool li',.bool hn'] T))):=by
 refine⟨⟨dp (d9 ..) ((Below.refl _ _).alloc (Nat.le_refl _) _),?_⟩,by simp;omega,((Below.refl _ _).alloc (Nat.le_refl _) _).alloc (by simp) _⟩
 have:=d9 (w.alloc (.cells #[.string ⟨lo.toArray⟩,.string ⟨hi.toArray⟩,.bool li,.bool hn] T)) lo' hi' li' hn' T
 rw[show (w.alloc (.cells #[.string ⟨lo.toArray⟩,.string ⟨hi.toArray⟩,.bool li,.bool hn] T)).heap.size=w.heap.size+1 from by simp] at this
 exact this
def afterI (phi:List UInt8) (phn:Bool) (slo:List UInt8) (sli:Bool):Int:=if Rm.lt Rs.Ln (Rs.hiC phi phn) (Rs.loC slo sli) then 0 else 7
theorem gx (slo shi:List UInt8)(sli shn:Bool)(plo phi:List UInt8)(pli phn:Bool)(w:World)(hw:MaxOk w)(h1:Rs.bound slo=0)(h2:Rs.bound phi=0) :
  Calls Tryz.prog 226 #[.agg #[.string ⟨slo.toArray⟩,.string ⟨shi.toArray⟩,.bool sli,.bool shn],.agg #[.string ⟨plo.toArray⟩,.string ⟨phi.toArray⟩,.bool pli,.bool phn]] w fun e w'=>e=br (afterI phi phn slo sli)/\Below w.heap.size w w':=by
 have HM:=zh hw
 have ab:Stable (fun u=>Box2 w u slo shi sli shn plo phi pli phn):=vj w _ _ _ _ _ _ _ _
 have HI:=abq w 113 slo shi sli shn plo phi pli phn
 have K1:Hid (slo.isEmpty=false->Vm.check slo=0):=fun h=>(Rs.aN h1 h).1
 have K2:Hid (phi.isEmpty=false->Vm.check phi=0):=fun h=>(Rs.aN h2 h).1
 have HQ:Hid (decide (cmpVS phi (sHi phi phn) slo (sLo slo sli)<0)=Rm.lt Rs.Ln (Rs.hiC phi phn) (Rs.loC slo sli)):=by
  have a1:=sE slo sli
  have a2:=sF phi phn
  have:=kI (py (Rs.r7 (i:=phn) h2)) (px (Rs.r6 (i:=sli) h1))
  rw[a1.2,a2.2,<-a1.1,<-a2.1] at this
  show _=_
  rw[this,sG]
 obtain⟨k,hk⟩:=ex (afterI phi phn slo sli)
 have HX:Hid (k=if Rm.lt Rs.Ln (Rs.hiC phi phn) (Rs.loC slo sli) then 0 else 7):=hk.symm
 rw[hk]
 obtain⟨B,hB⟩:=ex (Rm.lt Rs.Ln (Rs.hiC phi phn) (Rs.loC slo sli))
 rw[hB] at HQ HX
 clear hw h1 h2 hk hB
 obtain⟨W,hW⟩:=ex ((w.alloc (.cells #[.string ⟨slo.toArray⟩,.string ⟨shi.toArray⟩,.bool sli,.bool shn] 113)).alloc (.cells #[.string ⟨plo.toArray⟩,.string ⟨phi.toArray⟩,.bool pli,.bool phn] 113))
 rw[hW] at HI
 have ac:=ac9 ab HI
 obtain⟨⟨⟨c0,c1,c2,c3,_⟩,⟨d0,d1,d2,d3,_⟩⟩,_⟩:=HI.out
 cases B
 ·go_enter Tryz.func226,Tryz.ntmps226
  go_wp2_with fail
  clear hW
  have hq:=HQ.out
  go_region_with (first
    | (go_at_call 151;refine (bQ _ _ _ _ _).mono ?_;rintro _ w4 ⟨rfl,hb⟩;have aa:=bq ab hb (by assumption);clear hb;obtain⟨⟨⟨c0,c1,c2,c3,_⟩,⟨d0,d1,d2,d3,_⟩⟩,_⟩:=aa.out)
    | (go_at_call 153;refine (cX _ _ _ _ _).mono ?_;rintro _ w4 ⟨rfl,hb⟩;have aa:=bq ab hb (by assumption);clear hb;obtain⟨⟨⟨c0,c1,c2,c3,_⟩,⟨d0,d1,d2,d3,_⟩⟩,_⟩:=aa.out)
    | (go_at_call 152;refine (aI _ _ _ _ _ (nR HM (by assumption)) K2.out K1.out).mono ?_;rintro _ w4 ⟨rfl,hb⟩;have aa:=bq ab hb (by assumption);clear hb)
    | (go_at_call 63;refine (ao _).mono ?_;rintro _ w4 ⟨rfl,rfl⟩;refine ec (P:=Tryz.prog) (a:={ tmps:=#[],defers:=[] }) (w:=w) ?_))
  all_goals exact⟨rfl,by rw[HX.out];rfl,dq (by assumption)⟩
 ·go_enter Tryz.func226,Tryz.ntmps226
  go_wp2_with fail
  clear hW
  have hq:=HQ.out
  go_region_with (first
    | (go_at_call 151;refine (bQ _ _ _ _ _).mono ?_;rintro _ w4 ⟨rfl,hb⟩;have aa:=bq ab hb (by assumption);clear hb;obtain⟨⟨⟨c0,c1,c2,c3,_⟩,⟨d0,d1,d2,d3,_⟩⟩,_⟩:=aa.out)
    | (go_at_call 153;refine (cX _ _ _ _ _).mono ?_;rintro _ w4 ⟨rfl,hb⟩;have aa:=bq ab hb (by assumption);clear hb;obtain⟨⟨⟨c0,c1,c2,c3,_⟩,⟨d0,d1,d2,d3,_⟩⟩,_⟩:=aa.out)
    | (go_at_call 152;refine (aI _ _ _ _ _ (nR HM (by assumption)) K2.out K1.out).mono ?_;rintro _ w4 ⟨rfl,hb⟩;have aa:=bq ab hb (by assumption);clear hb)
    | (go_at_call 63;refine (aj _).mono ?_;rintro _ w4 ⟨rfl,rfl⟩))
  all_goals
   go_end0
   exact⟨by rw[HX.out];rfl,dq (by assumption)⟩
end
end Go.Proofs.YtpfkphmldalmmaaGreatDoor

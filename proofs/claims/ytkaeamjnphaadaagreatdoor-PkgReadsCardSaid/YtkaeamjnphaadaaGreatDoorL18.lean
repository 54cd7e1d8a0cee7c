/- Part 18 of what the laws lean on. -/
import Derived.Test.YtkaeamjnphaadaaGreatDoorL17
import Derived.StillTailTactics
set_option maxRecDepth 100000
set_option maxHeartbeats 12800000
namespace Go.Proofs.YtkaeamjnphaadaaGreatDoor
section
open Go.RowKit Rs
attribute [local go_sem ↓] Go.wp_at_zero Go.wp_at_succ
theorem tc {w:World}{A:Option Addr}{l:List Sp}(h:SRow w A l):Rg.Row spC 4 w A l:=fun h0=>by
 obtain⟨a,e,hb,hc⟩:=h h0
 refine⟨a,e,hb,fun i hi j v hv=>?_⟩
 obtain⟨s0,s1,s2,s3⟩:=sF (hc i hi)
 match j,hv with
 | 0,hv=>cases hv;exact s0
 | 1,hv=>cases hv;exact s1
 | 2,hv=>cases hv;exact s2
 | 3,hv=>cases hv;exact s3
 | j+4,hv=>cases hv
theorem mF (A:Option Addr)(n c:Nat)(r:List (Rm.P Cut))(R:List Sp)(w:World)(hn:r.length=n)(hr:SRow w A (r.map spOf))(ho:∀ p∈r,Ok2 p)(hl:n<=10000)(hR:((Rm.joinK Ln r).take 64).map spOf=R) :
  Calls Tryz.prog 189 #[.slice A n c] w (SpansRet w R):=by
 have:=xZ A n c r w hn hr ho hl;rw[hR] at this;exact this
theorem fi (w:World)(T:TypeId)(l:List Sp)(cs:Array Value)(h:cs.toList=Rg.flat spC l):SRow (w.alloc (.cells cs T)) (some ⟨w.heap.size,0,none⟩) l:=fun _=>by
 refine⟨_,rfl,by simp,fun i hi=>?_⟩
 have hn:=Rg.av w T l cs h
 have e:∀ j,j<4->(w.alloc (.cells cs T)).cell? (((⟨w.heap.size,0,none⟩:Addr).add (i*4)).add j)=(spC l[i])[j]?:=fun j hj=>by
  rw[Go.Deep.add_add]
  have hg:=Rg.flat_get fitsS l i hi j hj
  have hl:j<(spC l[i]).length:=hj
  rw[List.getElem?_eq_getElem hl] at hg ⊢
  exact hn _ _ hg
 exact⟨e 0 (by decide),e 1 (by decide),e 2 (by decide),e 3 (by decide)⟩
theorem zW (A B:Option Addr)(n m ca cb:Nat)(a b:List (Rm.P Cut))(w:World)(hn:a.length=n)(hm:b.length=m)(ha:SRow w A (a.map spOf))(hb:SRow w B (b.map spOf))(ga:∀ p∈a,Ok2 p)(gb:∀ p∈b,Ok2 p)(hl:n<=1000/\m<=1000) :
  Calls Tryz.prog 156 #[.slice A n ca,.slice B m cb] w (SpansRet w ((orR a b).map spOf)):=by
 obtain⟨aD,aE⟩:=hl
 have HA:=zh (tc ha)
 have af:=zh (tc hb)
 have av:Hid (∀ p∈a++b,Ok2 p):=fun p hp=>by
  rcases List.mem_append.1 hp with h | h
  ·exact ga p h
  ·exact gb p h
 have HN:Hid ((a.map spOf).length=n):=by show _=_;rw[List.length_map];exact hn
 have ab:Hid ((b.map spOf).length=m):=by show _=_;rw[List.length_map];exact hm
 have ag:Hid ((a++b).length=n+m):=by show _=_;rw[List.length_append,hn,hm]
 have aw:Hid (((a++b).map spOf).length=n+m):=by show _=_;rw[List.length_map];exact ag.out
 have ac:Hid ((a++b).map spOf=[]++a.map spOf++b.map spOf):=by show _=_;rw[List.map_append,List.nil_append]
 have ad:Hid (ROwn (w.alloc (.cells #[] 230)) w.heap.size (.slice (some ⟨w.heap.size,0,none⟩) 0 0) []):=Rg.mS w fitsS (Nat.le_refl _)
 clear ha hb ga gb hn hm
 obtain⟨R,hR⟩:=ex ((orR a b).map spOf)
 rw[hR]
 have HR:Hid (((Rm.joinK Ln (a++b)).take 64).map spOf=R):=hR
 clear hR
 obtain⟨la,ak⟩:=ex (a.map spOf)
 obtain⟨lb,al⟩:=ex (b.map spOf)
 rw[ak] at HA HN ac
 rw[al] at af ab ac
 clear ak al
 go_enter Tryz.func156,Tryz.ntmps156
 go_wp2_with (at_builtin;refine Rg.dv sliceR rfl (.tmp 5) (.tmp 6) rfl w.heap.size _ [] la rfl ad.out A n ca HN.out rfl ?r1 ?s1 ?b1 ?_)
 case r1=>exact Rg.ai HA.out ((Below.refl _ _).alloc (Nat.le_refl _) _)
 case s1=>rw[HN.out];show 0+_<=_;omega
 case b1=>simp
 intro v5 W5 am an aB
 have ae:=zh am
 have aa:Hid (Below w.heap.size w W5):=((Below.refl _ _).alloc (Nat.le_refl _) _).trans (Rg.ao ad.out (by simp) an)
 clear am an aB ad
 go_wp2_with (at_builtin;refine Rg.dv sliceR rfl (.tmp 7) (.tmp 8) rfl w.heap.size v5 ([]++la) lb rfl ae.out B m cb ab.out rfl ?r2 ?s2 ?b2 ?_)
 case r2=>exact Rg.ai af.out aa.out
 case s2=>rw[List.nil_append,HN.out,ab.out];omega
 case b2=>exact aa.out.size
 intro v6 W6 ap aq aC
 have ah:Hid (Below w.heap.size w W6):=aa.out.trans (Rg.ao ae.out aa.out.size aq)
 have aj:ROwn W6 w.heap.size v6 ((a++b).map spOf):=by rw[ac.out];simpa using ap
 obtain⟨C,d,rfl,ar,_,_,_,_⟩:=eE aj aw.out
 have ax:=zh ar
 clear ap aq aC ae aj ar
 go_wp2_with fail
 refine (mF C (n+m) d (a++b) R _ ag.out ax.out av.out (by omega) HR.out).mono ?_
 rintro _ w1 ⟨⟨D,e,rfl,hc,hle,au⟩,hb⟩
 have HC:=zh hc
 have ay:=zh hle
 have az:=zh au
 have aA:=zh (bt ah.out hb)
 clear hc hle hb au
 go_wp2_with fail
 go_ret
 exact⟨⟨D,e,rfl,HC.out,ay.out,fun a ha=>Nat.le_trans ah.out.size (az.out a ha)⟩,aA.out⟩
theorem acg (s v:List UInt8)(w:World)(h:NoSign s):Calls Tryz.prog 154 #[.string ⟨s.toArray⟩,.string ⟨v.toArray⟩] w (OfRet w [] 2):=by
 have g0:(s==[61])=false:=beq_eq_false_iff_ne.2 (h 0 (by decide))
 have g1:(s==[33,61])=false:=beq_eq_false_iff_ne.2 (h 1 (by decide))
 have g2:(s==[60])=false:=beq_eq_false_iff_ne.2 (h 2 (by decide))
 have g3:(s==[60,61])=false:=beq_eq_false_iff_ne.2 (h 3 (by decide))
 have g4:(s==[62])=false:=beq_eq_false_iff_ne.2 (h 4 (by decide))
 have g5:(s==[62,61])=false:=beq_eq_false_iff_ne.2 (h 5 (by decide))
 clear h
 go_enter Tryz.func154,Tryz.ntmps154
 go_wp2_with fail
 exact bodyPost_ret (v:=.tuple #[.slice none 0 0,.int .i64 2]) (by simp[results,Tryz.results154,go_sem]) rfl ⟨⟨none,0,rfl,fun h=>absurd h (by simp),Nat.le_refl _⟩,Below.refl _ _⟩
theorem aQ (v c:List UInt8)(k:Int)(w:World)(hc:canonOf v=c)(hk:Vm.check v=k) :
  Calls Tryz.prog 57 #[.string ⟨v.toArray⟩] w fun e w'=>e=.returned (.tuple #[.string ⟨c.toArray⟩,.int .i64 k])/\Below w.heap.size w w':=by
 have:=cT v w;rw[hc,hk] at this;exact this
theorem x7 (v:List UInt8)(w:World)(h:Vm.check v≠0):Calls Tryz.prog 154 #[.string ⟨#[61]⟩,.string ⟨v.toArray⟩] w (OfRet w [] (Vm.check v)):=by
 obtain⟨k,hk⟩:=ex (Vm.check v)
 obtain⟨c,hc⟩:=ex (canonOf v)
 have HC:=zh hc
 have HK:=zh hk
 rw[hk] at h ⊢
 have aa:(k != 0)=true:=by simpa using h
 clear hk hc h
 go_enter Tryz.func154,Tryz.ntmps154
 go_wp2_with fail
 refine (aQ v c k _ HC.out HK.out).mono ?_
 rintro _ w1 ⟨rfl,hb⟩
 have HB:=zh hb
 clear hb
 go_wp2_with fail
 exact bodyPost_ret (v:=.tuple #[.slice none 0 0,.int .i64 k]) (by simp[results,Tryz.results154,go_sem]) rfl ⟨⟨none,0,rfl,fun h=>absurd h (by simp),Nat.le_refl _⟩,HB.out⟩
theorem ve (v:List UInt8)(w:World)(h:Vm.check v=0):Calls Tryz.prog 154 #[.string ⟨#[61]⟩,.string ⟨v.toArray⟩] w (OfRet w ((signR (Vm.canon v) 0).map spOf) 0):=by
 obtain⟨c,hc⟩:=ex (Vm.canon v)
 have HC:Hid (canonOf v=c):=by show _=_;rw[canonOf,if_pos h,hc]
 have HK:=zh h
 rw[hc]
 clear h hc
 go_enter Tryz.func154,Tryz.ntmps154
 go_wp2_with fail
 refine (aQ v c 0 _ HC.out HK.out).mono ?_
 rintro _ w1 ⟨rfl,hb⟩
 have HB:=zh hb
 clear hb
 go_wp2_with fail
 exact bodyPost_ret (v:=.tuple #[.slice (some ⟨w1.heap.size,0,none⟩) 1 1,.int .i64 0]) (by simp[results,Tryz.results154,go_sem]) rfl ⟨⟨some ⟨w1.heap.size,0,none⟩,1,rfl,fi _ _ _ _ (by rfl),Nat.le_refl _⟩,HB.out.alloc HB.out.size _⟩
theorem x8 (v:List UInt8)(w:World)(h:Vm.check v≠0):Calls Tryz.prog 154 #[.string ⟨#[33,61]⟩,.string ⟨v.toArray⟩] w (OfRet w [] (Vm.check v)):=by
 obtain⟨k,hk⟩:=ex (Vm.check v)
 obtain⟨c,hc⟩:=ex (canonOf v)
 have HC:=zh hc
 have HK:=zh hk
 rw[hk] at h ⊢
 have aa:(k != 0)=true:=by simpa using h
 clear hk hc h
 go_enter Tryz.func154,Tryz.ntmps154
 go_wp2_with fail
 refine (aQ v c k _ HC.out HK.out).mono ?_
 rintro _ w1 ⟨rfl,hb⟩
 have HB:=zh hb
 clear hb
 go_wp2_with fail
 exact bodyPost_ret (v:=.tuple #[.slice none 0 0,.int .i64 k]) (by simp[results,Tryz.results154,go_sem]) rfl ⟨⟨none,0,rfl,fun h=>absurd h (by simp),Nat.le_refl _⟩,HB.out⟩
theorem vf (v:List UInt8)(w:World)(h:Vm.check v=0):Calls Tryz.prog 154 #[.string ⟨#[33,61]⟩,.string ⟨v.toArray⟩] w (OfRet w ((signR (Vm.canon v) 1).map spOf) 0):=by
 obtain⟨c,hc⟩:=ex (Vm.canon v)
 have HC:Hid (canonOf v=c):=by show _=_;rw[canonOf,if_pos h,hc]
 have HK:=zh h
 rw[hc]
 clear h hc
 go_enter Tryz.func154,Tryz.ntmps154
 go_wp2_with fail
 refine (aQ v c 0 _ HC.out HK.out).mono ?_
 rintro _ w1 ⟨rfl,hb⟩
 have HB:=zh hb
 clear hb
 go_wp2_with fail
 exact bodyPost_ret (v:=.tuple #[.slice (some ⟨w1.heap.size,0,none⟩) 2 2,.int .i64 0]) (by simp[results,Tryz.results154,go_sem]) rfl ⟨⟨some ⟨w1.heap.size,0,none⟩,2,rfl,fi _ _ _ _ (by rfl),Nat.le_refl _⟩,HB.out.alloc HB.out.size _⟩
theorem x9 (v:List UInt8)(w:World)(h:Vm.check v≠0):Calls Tryz.prog 154 #[.string ⟨#[60]⟩,.string ⟨v.toArray⟩] w (OfRet w [] (Vm.check v)):=by
 obtain⟨k,hk⟩:=ex (Vm.check v)
 obtain⟨c,hc⟩:=ex (canonOf v)
 have HC:=zh hc
 have HK:=zh hk
 rw[hk] at h ⊢
 have aa:(k != 0)=true:=by simpa using h
 clear hk hc h
 go_enter Tryz.func154,Tryz.ntmps154
 go_wp2_with fail
 refine (aQ v c k _ HC.out HK.out).mono ?_
 rintro _ w1 ⟨rfl,hb⟩
 have HB:=zh hb
 clear hb
 go_wp2_with fail
 exact bodyPost_ret (v:=.tuple #[.slice none 0 0,.int .i64 k]) (by simp[results,Tryz.results154,go_sem]) rfl ⟨⟨none,0,rfl,fun h=>absurd h (by simp),Nat.le_refl _⟩,HB.out⟩
theorem vg (v:List UInt8)(w:World)(h:Vm.check v=0):Calls Tryz.prog 154 #[.string ⟨#[60]⟩,.string ⟨v.toArray⟩] w (OfRet w ((signR (Vm.canon v) 2).map spOf) 0):=by
 obtain⟨c,hc⟩:=ex (Vm.canon v)
 have HC:Hid (canonOf v=c):=by show _=_;rw[canonOf,if_pos h,hc]
 have HK:=zh h
 rw[hc]
 clear h hc
 go_enter Tryz.func154,Tryz.ntmps154
 go_wp2_with fail
 refine (aQ v c 0 _ HC.out HK.out).mono ?_
 rintro _ w1 ⟨rfl,hb⟩
 have HB:=zh hb
 clear hb
 go_wp2_with fail
 exact bodyPost_ret (v:=.tuple #[.slice (some ⟨w1.heap.size,0,none⟩) 1 1,.int .i64 0]) (by simp[results,Tryz.results154,go_sem]) rfl ⟨⟨some ⟨w1.heap.size,0,none⟩,1,rfl,fi _ _ _ _ (by rfl),Nat.le_refl _⟩,HB.out.alloc HB.out.size _⟩
theorem ya (v:List UInt8)(w:World)(h:Vm.check v≠0):Calls Tryz.prog 154 #[.string ⟨#[60,61]⟩,.string ⟨v.toArray⟩] w (OfRet w [] (Vm.check v)):=by
 obtain⟨k,hk⟩:=ex (Vm.check v)
 obtain⟨c,hc⟩:=ex (canonOf v)
 have HC:=zh hc
 have HK:=zh hk
 rw[hk] at h ⊢
 have aa:(k != 0)=true:=by simpa using h
 clear hk hc h
 go_enter Tryz.func154,Tryz.ntmps154
 go_wp2_with fail
 refine (aQ v c k _ HC.out HK.out).mono ?_
 rintro _ w1 ⟨rfl,hb⟩
 have HB:=zh hb
 clear hb
 go_wp2_with fail
 exact bodyPost_ret (v:=.tuple #[.slice none 0 0,.int .i64 k]) (by simp[results,Tryz.results154,go_sem]) rfl ⟨⟨none,0,rfl,fun h=>absurd h (by simp),Nat.le_refl _⟩,HB.out⟩
theorem vh (v:List UInt8)(w:World)(h:Vm.check v=0):Calls Tryz.prog 154 #[.string ⟨#[60,61]⟩,.string ⟨v.toArray⟩] w (OfRet w ((signR (Vm.canon v) 3).map spOf) 0):=by
 obtain⟨c,hc⟩:=ex (Vm.canon v)
 have HC:Hid (canonOf v=c):=by show _=_;rw[canonOf,if_pos h,hc]
 have HK:=zh h
 rw[hc]
 clear h hc
 go_enter Tryz.func154,Tryz.ntmps154
 go_wp2_with fail
 refine (aQ v c 0 _ HC.out HK.out).mono ?_
 rintro _ w1 ⟨rfl,hb⟩
 have HB:=zh hb
 clear hb
 go_wp2_with fail
 exact bodyPost_ret (v:=.tuple #[.slice (some ⟨w1.heap.size,0,none⟩) 1 1,.int .i64 0]) (by simp[results,Tryz.results154,go_sem]) rfl ⟨⟨some ⟨w1.heap.size,0,none⟩,1,rfl,fi _ _ _ _ (by rfl),Nat.le_refl _⟩,HB.out.alloc HB.out.size _⟩
theorem yb (v:List UInt8)(w:World)(h:Vm.check v≠0):Calls Tryz.prog 154 #[.string ⟨#[62]⟩,.string ⟨v.toArray⟩] w (OfRet w [] (Vm.check v)):=by
 obtain⟨k,hk⟩:=ex (Vm.check v)
 obtain⟨c,hc⟩:=ex (canonOf v)
 have HC:=zh hc
 have HK:=zh hk
 rw[hk] at h ⊢
 have aa:(k != 0)=true:=by simpa using h
 clear hk hc h
 go_enter Tryz.func154,Tryz.ntmps154
 go_wp2_with fail
 refine (aQ v c k _ HC.out HK.out).mono ?_
 rintro _ w1 ⟨rfl,hb⟩
 have HB:=zh hb
 clear hb
 go_wp2_with fail
 exact bodyPost_ret (v:=.tuple #[.slice none 0 0,.int .i64 k]) (by simp[results,Tryz.results154,go_sem]) rfl ⟨⟨none,0,rfl,fun h=>absurd h (by simp),Nat.le_refl _⟩,HB.out⟩
theorem vi (v:List UInt8)(w:World)(h:Vm.check v=0):Calls Tryz.prog 154 #[.string ⟨#[62]⟩,.string ⟨v.toArray⟩] w (OfRet w ((signR (Vm.canon v) 4).map spOf) 0):=by
 obtain⟨c,hc⟩:=ex (Vm.canon v)
 have HC:Hid (canonOf v=c):=by show _=_;rw[canonOf,if_pos h,hc]
 have HK:=zh h
 rw[hc]
 clear h hc
 go_enter Tryz.func154,Tryz.ntmps154
 go_wp2_with fail
 refine (aQ v c 0 _ HC.out HK.out).mono ?_
 rintro _ w1 ⟨rfl,hb⟩
 have HB:=zh hb
 clear hb
 go_wp2_with fail
 exact bodyPost_ret (v:=.tuple #[.slice (some ⟨w1.heap.size,0,none⟩) 1 1,.int .i64 0]) (by simp[results,Tryz.results154,go_sem]) rfl ⟨⟨some ⟨w1.heap.size,0,none⟩,1,rfl,fi _ _ _ _ (by rfl),Nat.le_refl _⟩,HB.out.alloc HB.out.size _⟩
theorem yc (v:List UInt8)(w:World)(h:Vm.check v≠0):Calls Tryz.prog 154 #[.string ⟨#[62,61]⟩,.string ⟨v.toArray⟩] w (OfRet w [] (Vm.check v)):=by
 obtain⟨k,hk⟩:=ex (Vm.check v)
 obtain⟨c,hc⟩:=ex (canonOf v)
 have HC:=zh hc
 have HK:=zh hk
 rw[hk] at h ⊢
 have aa:(k != 0)=true:=by simpa using h
 clear hk hc h
 go_enter Tryz.func154,Tryz.ntmps154
 go_wp2_with fail
 refine (aQ v c k _ HC.out HK.out).mono ?_
 rintro _ w1 ⟨rfl,hb⟩
 have HB:=zh hb
 clear hb
 go_wp2_with fail
 exact bodyPost_ret (v:=.tuple #[.slice none 0 0,.int .i64 k]) (by simp[results,Tryz.results154,go_sem]) rfl ⟨⟨none,0,rfl,fun h=>absurd h (by simp),Nat.le_refl _⟩,HB.out⟩
theorem vj (v:List UInt8)(w:World)(h:Vm.check v=0):Calls Tryz.prog 154 #[.string ⟨#[62,61]⟩,.string ⟨v.toArray⟩] w (OfRet w ((signR (Vm.canon v) 5).map spOf) 0):=by
 obtain⟨c,hc⟩:=ex (Vm.canon v)
 have HC:Hid (canonOf v=c):=by show _=_;rw[canonOf,if_pos h,hc]
 have HK:=zh h
 rw[hc]
 clear h hc
 go_enter Tryz.func154,Tryz.ntmps154
 go_wp2_with fail
 refine (aQ v c 0 _ HC.out HK.out).mono ?_
 rintro _ w1 ⟨rfl,hb⟩
 have HB:=zh hb
 clear hb
 go_wp2_with fail
 exact bodyPost_ret (v:=.tuple #[.slice (some ⟨w1.heap.size,0,none⟩) 1 1,.int .i64 0]) (by simp[results,Tryz.results154,go_sem]) rfl ⟨⟨some ⟨w1.heap.size,0,none⟩,1,rfl,fi _ _ _ _ (by rfl),Nat.le_refl _⟩,HB.out.alloc HB.out.size _⟩
end
namespace Rm
section
variable {K:Type} (L:Line K)
theorem yd (a b:List (P K))(k:Nat)(h:k<a.length):pairs L (a.take (k+1)) b=pairs L (a.take k) b++(b.map (meet L a[k])).filter (ok L):=by
 unfold pairs
 rw[List.take_succ_eq_append_getElem h,List.flatMap_append];simp
theorem ach (x:P K)(b:List (P K))(j:Nat)(h:j<b.length):((b.take (j+1)).map (meet L x)).filter (ok L)=((b.take j).map (meet L x)).filter (ok L)++(if ok L (meet L x b[j]) then [meet L x b[j]] else []):=by
 rw[List.take_succ_eq_append_getElem h,List.map_append,List.filter_append]
 congr 1
 rw[List.map_singleton,List.filter_cons];split <;> simp
end
end Rm
section
open Go.RowKit Rs
attribute [local go_sem ↓] Go.wp_at_zero Go.wp_at_succ
def BxS (B:Nat) (T:TypeId) (s:Sp) (w:World):Prop:=w.heap[B]?=some (.cells #[.string ⟨s.lo.toArray⟩,.string ⟨s.hi.toArray⟩,.bool s.li,.bool s.hn] T (0,0))
section
variable {B:Nat} {T:TypeId} {s:Sp} {w w':World}
theorem aeQ (w:World)(T:TypeId)(s:Sp):BxS w.heap.size T s (w.alloc (.cells #[.string ⟨s.lo.toArray⟩,.string ⟨s.hi.toArray⟩,.bool s.li,.bool s.hn] T)):=heap_alloc_new w _
theorem bc (h:BxS B T s w):w.cell? ⟨B,0,none⟩=some (.string ⟨s.lo.toArray⟩)/\w.cell? ⟨B,1,none⟩=some (.string ⟨s.hi.toArray⟩)/\w.cell? ⟨B,2,none⟩=some (.bool s.li)/\w.cell? ⟨B,3,none⟩=some (.bool s.hn)/\∀ j,w.frozen? ⟨B,j,none⟩=false :=
 ⟨cell_of_row w B 0 _ T (0,0) h,cell_of_row w B 1 _ T (0,0) h,cell_of_row w B 2 _ T (0,0) h,cell_of_row w B 3 _ T (0,0) h,fun j=>frozen_of_row w B j _ T h⟩
theorem gZ (h:BxS B T s w)(hB:B<w.heap.size)(hb:Below w.heap.size w w'):BxS B T s w':=by unfold BxS;rw[hb.block B hB];exact h
theorem adN (h:BxS B T s w)(v:List UInt8):BxS B T { s with lo:=v } (w.setCell ⟨B,0,none⟩ (.string ⟨v.toArray⟩)):=by unfold BxS;rw[heap_setCell_same w B 0 _ T _ h];rfl
theorem wJ (h:BxS B T s w)(v:List UInt8):BxS B T { s with hi:=v } (w.setCell ⟨B,1,none⟩ (.string ⟨v.toArray⟩)):=by unfold BxS;rw[heap_setCell_same w B 1 _ T _ h];rfl
theorem adO (h:BxS B T s w)(v:Bool):BxS B T { s with li:=v } (w.setCell ⟨B,2,none⟩ (.bool v)):=by unfold BxS;rw[heap_setCell_same w B 2 _ T _ h];rfl
theorem wK (h:BxS B T s w)(v:Bool):BxS B T { s with hn:=v } (w.setCell ⟨B,3,none⟩ (.bool v)):=by unfold BxS;rw[heap_setCell_same w B 3 _ T _ h];rfl
end
theorem y_at {w W:World}{bd:Addr}{b:List (Rm.P Cut)}{j:Nat}(h:SRow w (some bd) (b.map spOf))(hj:j<b.length)(y:Rm.P Cut)(hy:b[j]=y)(hb:Below w.heap.size w W):At4 W (bd.add (j*4)) (spOf y).lo (spOf y).hi (spOf y).li (spOf y).hn:=by
 obtain⟨ad,e,_,hc⟩:=bO (ak h hb) j hj
 cases e;rw[hy] at hc;exact hc
theorem keepBX {W u u':World}{B:Nat}{T:TypeId}{s:Sp}{q:Addr}{x0 x1 x2 x3 y0 y1 y2 y3:Value}(hB:B<W.heap.size)(hq:q.block<W.heap.size)
  (h:u.cell? ⟨B,0,none⟩=some x0/\u.cell? ⟨B,1,none⟩=some x1/\u.cell? ⟨B,2,none⟩=some x2/\u.cell? ⟨B,3,none⟩=some x3/\u.cell? q=some y0/\u.cell? ⟨q.block,q.off+1,none⟩=some y1/\u.cell? ⟨q.block,q.off+2,none⟩=some y2/\u.cell? ⟨q.block,q.off+3,none⟩=some y3/\BxS B T s u/\W.heap.size<=u.heap.size/\Below W.heap.size W u) (hb:Below u.heap.size u u') :
  u'.cell? ⟨B,0,none⟩=some x0/\u'.cell? ⟨B,1,none⟩=some x1/\u'.cell? ⟨B,2,none⟩=some x2/\u'.cell? ⟨B,3,none⟩=some x3/\u'.cell? q=some y0/\u'.cell? ⟨q.block,q.off+1,none⟩=some y1/\u'.cell? ⟨q.block,q.off+2,none⟩=some y2/\u'.cell? ⟨q.block,q.off+3,none⟩=some y3/\BxS B T s u'/\W.heap.size<=u'.heap.size/\Below W.heap.size W u':=by
 obtain⟨h0,h1,h2,h3,h4,h5,h6,h7,aa,h8,h9⟩:=h
 have e:∀ a:Addr,a.block<W.heap.size->u'.cell? a=u.cell? a:=fun a ha=>hb.cell (by omega)
 refine⟨?_,?_,?_,?_,?_,?_,?_,?_,gZ aa (by omega) hb,Nat.le_trans h8 hb.size,h9.trans (hb.mono h8)⟩
 ·rw[e ⟨B,0,none⟩ hB];exact h0
 ·rw[e ⟨B,1,none⟩ hB];exact h1
 ·rw[e ⟨B,2,none⟩ hB];exact h2
 ·rw[e ⟨B,3,none⟩ hB];exact h3
 ·rw[e q hq];exact h4
 ·rw[e ⟨q.block,q.off+1,none⟩ hq];exact h5
 ·rw[e ⟨q.block,q.off+2,none⟩ hq];exact h6
 ·rw[e ⟨q.block,q.off+3,none⟩ hq];exact h7
theorem ye (A B:Option Addr)(n m ca cb:Nat)(a b:List (Rm.P Cut))(w:World)(hn:a.length=n)(hm:b.length=m)(ha:SRow w A (a.map spOf))(hb:SRow w B (b.map spOf))(ga:∀ p∈a,Ok2 p)(gb:∀ p∈b,Ok2 p)(hl:n<=64/\m<=64) :
  Calls Tryz.prog 155 #[.slice A n ca,.slice B m cb] w (SpansRet w ((andR a b).map spOf)):=by
 obtain⟨ba,bb⟩:=hl
 have HA:=zh ha
 have HB:=zh hb
 have GA:=zh ga
 have GB:=zh gb
 have HN:=zh hn
 have HM:=zh hm
 obtain⟨R,hR⟩:=ex ((andR a b).map spOf)
 rw[hR]
 have HR:Hid (((Rm.joinK Ln (Rm.pairs Ln a b)).take 64).map spOf=R):=hR
 clear ha hb ga gb hn hm hR
 go_enter Tryz.func155,Tryz.ntmps155
 go_wp2_with fail
 go_loopw [5,6] (fun v i wr=>∃ (k:Nat) (out:List (Rm.P Cut)),k<=n/\i=.int .i64 k/\Hid (out=Rm.pairs Ln (a.take k) b)/\out.length<=k*64/\Hid (∀ p∈out,Ok2 p)/\Hid (ROwn wr w.heap.size v (out.map spOf))/\Hid (Below w.heap.size w wr)) (fun _ i _=>n-(intOf i).toNat)
 case atStart=>exact⟨0,[],Nat.zero_le _,rfl,rfl,by simp,fun p hp=>(by cases hp),Rg.az _ _ _,Below.refl _ _⟩
 case round =>
  obtain⟨k,ag,hk,rfl,HE,aS,aP,HO,ax⟩:=hrel
  by_cases a3:k<n
  ·have aW:k<a.length:=by rw[HN.out];exact a3
   obtain⟨x,hx⟩:=ex (a[k])
   have aT:Hid (Ok2 x):=by rw[<-hx];exact GA.out _ (List.getElem_mem aW)
   have aX:=Rm.yd Ln a b k aW
   rw[hx,<-HE.out] at aX
   have a0:=zh aX
   have HX:=zh hx
   clear hx aX HE
   go_wp2_with fail
   go_loopw [5,7] (fun v i wr=>∃ (j:Nat) (out:List (Rm.P Cut)),j<=m/\i=.int .i64 j/\Hid (out=ag++((b.take j).map (Rm.meet Ln x)).filter (Rm.ok Ln))/\out.length<=k*64+j/\Hid (∀ p∈out,Ok2 p)/\Hid (ROwn wr w.heap.size v (out.map spOf))/\Hid (Below w.heap.size w wr)) (fun _ i _=>m-(intOf i).toNat)
   case atStart=>exact⟨0,ag,Nat.zero_le _,rfl,by show _=_;simp,by omega,aP,HO,ax⟩
   case round =>
    clear HO ax aP
    obtain⟨j,out,hj,rfl,HE,hlen,aJ,HO,ax⟩:=hrel
    by_cases a4:j<m
    ·have aF:j<b.length:=by rw[HM.out];exact a4
     obtain⟨y,hy⟩:=ex (b[j])
     have aG:Hid (Ok2 y):=by rw[<-hy];exact GB.out _ (List.getElem_mem aF)
     have aY:=Rm.ach Ln x b j aF
     rw[hy] at aY
     have aU:=zh aY
     obtain⟨ad,rfl,be,c0,c1,c2,c3⟩:=bO (ak HA.out ax.out) k aW
     obtain⟨bd,rfl,aZ,_⟩:=bO (ak HB.out ax.out) j aF
     rw[HX.out] at c0 c1 c2 c3
     have ah:=zh (ak HB.out ax.out)
     have ab:Hid (Below wr.heap.size wr (wr.alloc (.cells #[.string ⟨(spOf x).lo.toArray⟩,.string ⟨(spOf x).hi.toArray⟩,.bool (spOf x).li,.bool (spOf x).hn] 230))):=(Below.refl _ _).alloc (Nat.le_refl _) _
     have aa:=zh (aeQ wr 230 (spOf x))
     have ae:wr.heap.size<(wr.alloc (.cells #[.string ⟨(spOf x).lo.toArray⟩,.string ⟨(spOf x).hi.toArray⟩,.bool (spOf x).li,.bool (spOf x).hn] 230)).heap.size:=by simp
     have af:(bd.add (j*4)).block<(wr.alloc (.cells #[.string ⟨(spOf x).lo.toArray⟩,.string ⟨(spOf x).hi.toArray⟩,.bool (spOf x).li,.bool (spOf x).hn] 230)).heap.size:=by rw[add_block];simp;omega
     obtain⟨e0,e1,e2,e3⟩:=y_at ah.out aF y hy ab.out
     obtain⟨k0,k1,k2,k3,_⟩:=bc aa.out
     clear aY
     go_wp2_with fail
     generalize wr.alloc (.cells #[.string ⟨(spOf x).lo.toArray⟩,.string ⟨(spOf x).hi.toArray⟩,.bool (spOf x).li,.bool (spOf x).hn] 230)=W1 at *
     clear c0 c1 c2 c3
     cases a1:Rm.lt Ln x.lo y.lo
     all_goals
      have aV:=zh a1
      clear a1
     ·obtain⟨x1,aA⟩:∃ z:Rm.P Cut,z=x:=⟨_,rfl⟩
      have aq:Hid (x1.hi=x.hi):=by rw[aA];exact rfl
      have ay:Hid (x1.lo=if Rm.lt Ln x.lo y.lo then y.lo else x.lo):=by show _=_;rw[aA,aV.out];rfl
      have aj:Hid (Ok2 x1):=by rw[aA];exact aT.out
      go_wp2_with fail
      go_region_held3 (fun w'=>w'.cell? ⟨wr.heap.size,0,none⟩=some (.string ⟨(spOf x).lo.toArray⟩)/\w'.cell? ⟨wr.heap.size,1,none⟩=some (.string ⟨(spOf x).hi.toArray⟩)/\w'.cell? ⟨wr.heap.size,2,none⟩=some (.bool (spOf x).li)/\w'.cell? ⟨wr.heap.size,3,none⟩=some (.bool (spOf x).hn) /\
        w'.cell? (bd.add (j*4))=some (.string ⟨(spOf y).lo.toArray⟩)/\w'.cell? ⟨(bd.add (j*4)).block,(bd.add (j*4)).off+1,none⟩=some (.string ⟨(spOf y).hi.toArray⟩)/\w'.cell? ⟨(bd.add (j*4)).block,(bd.add (j*4)).off+2,none⟩=some (.bool (spOf y).li)/\w'.cell? ⟨(bd.add (j*4)).block,(bd.add (j*4)).off+3,none⟩=some (.bool (spOf y).hn)/\BxS wr.heap.size 230 (spOf x) w'/\W1.heap.size<=w'.heap.size/\Below W1.heap.size W1 w')
       (first
        | exact⟨k0,k1,k2,k3,e0,e1,e2,e3,aa.out,Nat.le_refl _,(Below.refl _ _).drew⟩
        | assumption
        | (refine keepBX ae af ?_ hb;assumption))
       (first
        | (go_at_call 186;refine (gh x y _ _ aT.out aG.out aV.out).mono ?_;rintro _ W4 ⟨rfl,hb⟩))
      rename_i aB
      obtain⟨k0,k1,k2,k3,e0,e1,e2,e3,ap,z1,z2⟩:=aB
      replace aa:=zh ap
      replace ae:=Nat.lt_of_lt_of_le ae z1
      replace af:=Nat.lt_of_lt_of_le af z1
      replace ab:Hid (Below wr.heap.size wr W4):=bt ab.out z2
      clear z1 z2 ap
      rw[<-aA] at k0 k1 k2 k3 aa
      clear aA
      cases aR:Rm.lt Ln y.hi x.hi
      all_goals
       have aH:=zh aR
       clear aR
      ·have aK:Hid (Rm.lt Ln y.hi x1.hi=false):=by show _=_;rw[aq.out];exact aH.out
       obtain⟨x2,am⟩:∃ z:Rm.P Cut,z=x1:=⟨_,rfl⟩
       have aL:Hid (x2=Rm.meet Ln x y):=by
        show _=_
        rw[am];unfold Rm.meet;rw[aH.out]
        show x1={ lo:=_,hi:=x.hi }
        rw[<-aq.out,<-ay.out]
       have ai:Hid (Ok2 x2):=by rw[am];exact aj.out
       go_wp2_with fail
       go_region_held3 (fun w'=>w'.cell? ⟨wr.heap.size,0,none⟩=some (.string ⟨(spOf x1).lo.toArray⟩)/\w'.cell? ⟨wr.heap.size,1,none⟩=some (.string ⟨(spOf x1).hi.toArray⟩)/\w'.cell? ⟨wr.heap.size,2,none⟩=some (.bool (spOf x1).li)/\w'.cell? ⟨wr.heap.size,3,none⟩=some (.bool (spOf x1).hn) /\
         w'.cell? (bd.add (j*4))=some (.string ⟨(spOf y).lo.toArray⟩)/\w'.cell? ⟨(bd.add (j*4)).block,(bd.add (j*4)).off+1,none⟩=some (.string ⟨(spOf y).hi.toArray⟩)/\w'.cell? ⟨(bd.add (j*4)).block,(bd.add (j*4)).off+2,none⟩=some (.bool (spOf y).li)/\w'.cell? ⟨(bd.add (j*4)).block,(bd.add (j*4)).off+3,none⟩=some (.bool (spOf y).hn)/\BxS wr.heap.size 230 (spOf x1) w'/\W4.heap.size<=w'.heap.size/\Below W4.heap.size W4 w')
        (first
         | exact⟨k0,k1,k2,k3,e0,e1,e2,e3,aa.out,Nat.le_refl _,(Below.refl _ _).drew⟩
         | assumption
         | (refine keepBX ae af ?_ hb;assumption))
        (first
         | (go_at_call 187;refine (dx x1 y _ _ aj.out aG.out aK.out).mono ?_;rintro _ w5 ⟨rfl,hb⟩))
       rename_i aB
       obtain⟨k0,k1,k2,k3,e0,e1,e2,e3,ap,z1,z2⟩:=aB
       replace aa:=zh ap
       replace ae:=Nat.lt_of_lt_of_le ae z1
       replace af:=Nat.lt_of_lt_of_le af z1
       replace ab:Hid (Below wr.heap.size wr w5):=bt ab.out z2
       clear z1 z2 ap
       rw[<-am] at k0 k1 k2 k3 aa
       clear am
       obtain⟨q,hq⟩:=ex (Rm.ok Ln x2)
       obtain⟨g,hg⟩:∃ g:Int,(if q then 0 else 7)=g:=⟨_,rfl⟩
       have aM:Hid (span (spOf x2).lo (spOf x2).hi (spOf x2).li (spOf x2).hn=g):=by
        show (spOf x2).err=g
        rw[gM ai.out,hq];exact hg
       have ar:=aU.out
       rw[<-aL.out,hq] at ar
       have au:=zh ar
       clear ar hq
       go_wp2_with fail
       refine (eU _ _ _ _ g _ aM.out).mono ?_
       rintro _ w8 ⟨rfl,hb⟩
       replace ab:Hid (Below wr.heap.size wr w8):=bt ab.out hb
       replace aa:=zh (gZ aa.out ae hb)
       clear hb ae af k0 k1 k2 k3 e0 e1 e2 e3
       have al:=zh (Rg.own_below HO.out ab.out)
       have ac:=zh (bt ax.out ab.out)
       obtain⟨k0,k1,k2,k3,_⟩:=bc aa.out
       cases q
       ·obtain rfl:(7:Int)=g:=hg
        have an:Hid (out=ag++((b.take (j+1)).map (Rm.meet Ln x)).filter (Rm.ok Ln)):=by show _=_;rw[au.out,HE.out];simp
        clear HE HO ab aa
        go_wp2_with fail
        go_roundw
        case rel=>exact⟨j+1,out,by omega,by go_num,an,by omega,aJ,al,ac⟩
        case measure=>simp[intOf];omega
       ·obtain rfl:(0:Int)=g:=hg
        have an:Hid (out++[x2]=ag++((b.take (j+1)).map (Rm.meet Ln x)).filter (Rm.ok Ln)):=by show _=_;rw[au.out,HE.out];simp
        have aw:Hid (∀ p∈out++[x2],Ok2 p):=fun p hp=>by
         rcases List.mem_append.1 hp with h | h
         ·exact aJ.out p h
         ·rw[List.mem_singleton.1 h];exact ai.out
        go_wp2_with (at_builtin;refine Rg.aC sliceR rfl (.tmp 64) (.tmp 66) rfl w.heap.size _ (out.map spOf) [spOf x2] rfl (Rg.own_below al.out ((Below.refl _ _).alloc (Nat.le_refl _) _)) _ _ rfl (Rg.av w8 _ _ _ (by rfl)) (Nat.zero_lt_succ _) ?s2 ?b2 ?_)
        case s2=>rw[List.length_map];show _+1<=_;omega
        case b2=>have:=ac.out.size;simp;omega
        intro v6 W6 aD aE aQ
        have aN:Hid (ROwn W6 w.heap.size v6 ((out++[x2]).map spOf)):=by
         show ROwn _ _ _ _
         rw[List.map_append];exact aD
        have aO:Hid (Below w.heap.size w W6):=by
         have h1:=ac.out.size
         exact (ac.out.alloc h1 _).trans (Rg.ao (Rg.own_below al.out ((Below.refl _ _).alloc (Nat.le_refl _) _)) (by simp;omega) aE)
        have aI:(out++[x2]).length<=k*64+(j+1):=by rw[List.length_append];show _+1<=_;omega
        generalize out++[x2]=out2 at *
        clear aD aE aQ HO al ac ab HE au k0 k1 k2 k3
        go_wp2_with fail
        go_roundw
        case rel=>exact⟨j+1,out2,by omega,by go_num,an,aI,aw,aN,aO⟩
        case measure=>simp[intOf];omega
      ·have aK:Hid (Rm.lt Ln y.hi x1.hi=true):=by show _=_;rw[aq.out];exact aH.out
       obtain⟨x2,am⟩:∃ z:Rm.P Cut,z={ lo:=x1.lo,hi:=y.hi }:=⟨_,rfl⟩
       have aL:Hid (x2=Rm.meet Ln x y):=by
        show _=_
        rw[am];unfold Rm.meet;rw[aH.out,ay.out];rfl
       have ai:Hid (Ok2 x2):=by rw[am];exact⟨aj.out.1,aG.out.2⟩
       go_wp2_with fail
       go_region_held3 (fun w'=>w'.cell? ⟨wr.heap.size,0,none⟩=some (.string ⟨(spOf x1).lo.toArray⟩)/\w'.cell? ⟨wr.heap.size,1,none⟩=some (.string ⟨(spOf x1).hi.toArray⟩)/\w'.cell? ⟨wr.heap.size,2,none⟩=some (.bool (spOf x1).li)/\w'.cell? ⟨wr.heap.size,3,none⟩=some (.bool (spOf x1).hn) /\
         w'.cell? (bd.add (j*4))=some (.string ⟨(spOf y).lo.toArray⟩)/\w'.cell? ⟨(bd.add (j*4)).block,(bd.add (j*4)).off+1,none⟩=some (.string ⟨(spOf y).hi.toArray⟩)/\w'.cell? ⟨(bd.add (j*4)).block,(bd.add (j*4)).off+2,none⟩=some (.bool (spOf y).li)/\w'.cell? ⟨(bd.add (j*4)).block,(bd.add (j*4)).off+3,none⟩=some (.bool (spOf y).hn)/\BxS wr.heap.size 230 (spOf x1) w'/\W4.heap.size<=w'.heap.size/\Below W4.heap.size W4 w')
        (first
         | exact⟨k0,k1,k2,k3,e0,e1,e2,e3,aa.out,Nat.le_refl _,(Below.refl _ _).drew⟩
         | assumption
         | (refine keepBX ae af ?_ hb;assumption))
        (first
         | (go_at_call 187;refine (dx x1 y _ _ aj.out aG.out aK.out).mono ?_;rintro _ w5 ⟨rfl,hb⟩))
       rename_i aB
       obtain⟨k0,k1,k2,k3,e0,e1,e2,e3,ap,z1,z2⟩:=aB
       replace aa:=zh ap
       replace ae:=Nat.lt_of_lt_of_le ae z1
       replace af:=Nat.lt_of_lt_of_le af z1
       replace ab:Hid (Below wr.heap.size wr w5):=bt ab.out z2
       clear z1 z2 ap
       have f1:=(bc aa.out).2.2.2.2 1
       go_upto_region 14 with fail
       replace aa:=zh (wJ aa.out (spOf y).hi)
       replace ab:=zh (ab.out.setCell (p:=⟨wr.heap.size,1,none⟩) (Nat.le_refl _) (.string ⟨(spOf y).hi.toArray⟩))
       replace ae:wr.heap.size<(w5.setCell ⟨wr.heap.size,1,none⟩ (.string ⟨(spOf y).hi.toArray⟩)).heap.size:=by simpa using ae
       replace af:(bd.add (j*4)).block<(w5.setCell ⟨wr.heap.size,1,none⟩ (.string ⟨(spOf y).hi.toArray⟩)).heap.size:=by simpa using af
       generalize w5.setCell ⟨wr.heap.size,1,none⟩ (.string ⟨(spOf y).hi.toArray⟩)=W6 at *
       clear k0 k1 k2 k3 e0 e1 e2 e3 f1
       obtain⟨k0,k1,k2,k3,kf⟩:=bc aa.out
       have f2:=kf 3
       obtain⟨e0,e1,e2,e3⟩:=y_at ah.out aF y hy ab.out
       clear kf
       go_upto_region 15 with fail
       replace aa:=zh (wK aa.out (spOf y).hn)
       replace ab:=zh (ab.out.setCell (p:=⟨wr.heap.size,3,none⟩) (Nat.le_refl _) (.bool (spOf y).hn))
       replace ae:wr.heap.size<(W6.setCell ⟨wr.heap.size,3,none⟩ (.bool (spOf y).hn)).heap.size:=by simpa using ae
       replace af:(bd.add (j*4)).block<(W6.setCell ⟨wr.heap.size,3,none⟩ (.bool (spOf y).hn)).heap.size:=by simpa using af
       generalize W6.setCell ⟨wr.heap.size,3,none⟩ (.bool (spOf y).hn)=W7 at *
       clear k0 k1 k2 k3 e0 e1 e2 e3 f2
       obtain⟨k0,k1,k2,k3,_⟩:=bc aa.out
       obtain⟨e0,e1,e2,e3⟩:=y_at ah.out aF y hy ab.out
       replace aa:Hid (BxS wr.heap.size 230 (spOf x2) W7):=by rw[am];exact aa.out
       clear k0 k1 k2 k3
       obtain⟨k0,k1,k2,k3,_⟩:=bc aa.out
       clear am
       obtain⟨q,hq⟩:=ex (Rm.ok Ln x2)
       obtain⟨g,hg⟩:∃ g:Int,(if q then 0 else 7)=g:=⟨_,rfl⟩
       have aM:Hid (span (spOf x2).lo (spOf x2).hi (spOf x2).li (spOf x2).hn=g):=by
        show (spOf x2).err=g
        rw[gM ai.out,hq];exact hg
       have ar:=aU.out
       rw[<-aL.out,hq] at ar
       have au:=zh ar
       clear ar hq
       go_wp2_with fail
       refine (eU _ _ _ _ g _ aM.out).mono ?_
       rintro _ w8 ⟨rfl,hb⟩
       replace ab:Hid (Below wr.heap.size wr w8):=bt ab.out hb
       replace aa:=zh (gZ aa.out ae hb)
       clear hb ae af k0 k1 k2 k3 e0 e1 e2 e3
       have al:=zh (Rg.own_below HO.out ab.out)
       have ac:=zh (bt ax.out ab.out)
       obtain⟨k0,k1,k2,k3,_⟩:=bc aa.out
       cases q
       ·obtain rfl:(7:Int)=g:=hg
        have an:Hid (out=ag++((b.take (j+1)).map (Rm.meet Ln x)).filter (Rm.ok Ln)):=by show _=_;rw[au.out,HE.out];simp
        clear HE HO ab aa
        go_wp2_with fail
        go_roundw
        case rel=>exact⟨j+1,out,by omega,by go_num,an,by omega,aJ,al,ac⟩
        case measure=>simp[intOf];omega
       ·obtain rfl:(0:Int)=g:=hg
        have an:Hid (out++[x2]=ag++((b.take (j+1)).map (Rm.meet Ln x)).filter (Rm.ok Ln)):=by show _=_;rw[au.out,HE.out];simp
        have aw:Hid (∀ p∈out++[x2],Ok2 p):=fun p hp=>by
         rcases List.mem_append.1 hp with h | h
         ·exact aJ.out p h
         ·rw[List.mem_singleton.1 h];exact ai.out
        go_wp2_with (at_builtin;refine Rg.aC sliceR rfl (.tmp 64) (.tmp 66) rfl w.heap.size _ (out.map spOf) [spOf x2] rfl (Rg.own_below al.out ((Below.refl _ _).alloc (Nat.le_refl _) _)) _ _ rfl (Rg.av w8 _ _ _ (by rfl)) (Nat.zero_lt_succ _) ?s2 ?b2 ?_)
        case s2=>rw[List.length_map];show _+1<=_;omega
        case b2=>have:=ac.out.size;simp;omega
        intro v6 W6 aD aE aQ
        have aN:Hid (ROwn W6 w.heap.size v6 ((out++[x2]).map spOf)):=by
         show ROwn _ _ _ _
         rw[List.map_append];exact aD
        have aO:Hid (Below w.heap.size w W6):=by
         have h1:=ac.out.size
         exact (ac.out.alloc h1 _).trans (Rg.ao (Rg.own_below al.out ((Below.refl _ _).alloc (Nat.le_refl _) _)) (by simp;omega) aE)
        have aI:(out++[x2]).length<=k*64+(j+1):=by rw[List.length_append];show _+1<=_;omega
        generalize out++[x2]=out2 at *
        clear aD aE aQ HO al ac ab HE au k0 k1 k2 k3
        go_wp2_with fail
        go_roundw
        case rel=>exact⟨j+1,out2,by omega,by go_num,an,aI,aw,aN,aO⟩
        case measure=>simp[intOf];omega
     ·obtain⟨x1,aA⟩:∃ z:Rm.P Cut,z={ lo:=y.lo,hi:=x.hi }:=⟨_,rfl⟩
      have aq:Hid (x1.hi=x.hi):=by rw[aA];exact rfl
      have ay:Hid (x1.lo=if Rm.lt Ln x.lo y.lo then y.lo else x.lo):=by show _=_;rw[aA,aV.out];rfl
      have aj:Hid (Ok2 x1):=by rw[aA];exact⟨aG.out.1,aT.out.2⟩
      go_wp2_with fail
      go_region_held3 (fun w'=>w'.cell? ⟨wr.heap.size,0,none⟩=some (.string ⟨(spOf x).lo.toArray⟩)/\w'.cell? ⟨wr.heap.size,1,none⟩=some (.string ⟨(spOf x).hi.toArray⟩)/\w'.cell? ⟨wr.heap.size,2,none⟩=some (.bool (spOf x).li)/\w'.cell? ⟨wr.heap.size,3,none⟩=some (.bool (spOf x).hn) /\
        w'.cell? (bd.add (j*4))=some (.string ⟨(spOf y).lo.toArray⟩)/\w'.cell? ⟨(bd.add (j*4)).block,(bd.add (j*4)).off+1,none⟩=some (.string ⟨(spOf y).hi.toArray⟩)/\w'.cell? ⟨(bd.add (j*4)).block,(bd.add (j*4)).off+2,none⟩=some (.bool (spOf y).li)/\w'.cell? ⟨(bd.add (j*4)).block,(bd.add (j*4)).off+3,none⟩=some (.bool (spOf y).hn)/\BxS wr.heap.size 230 (spOf x) w'/\W1.heap.size<=w'.heap.size/\Below W1.heap.size W1 w')
       (first
        | exact⟨k0,k1,k2,k3,e0,e1,e2,e3,aa.out,Nat.le_refl _,(Below.refl _ _).drew⟩
        | assumption
        | (refine keepBX ae af ?_ hb;assumption))
       (first
        | (go_at_call 186;refine (gh x y _ _ aT.out aG.out aV.out).mono ?_;rintro _ w2 ⟨rfl,hb⟩))
      rename_i aB
      obtain⟨k0,k1,k2,k3,e0,e1,e2,e3,ap,z1,z2⟩:=aB
      replace aa:=zh ap
      replace ae:=Nat.lt_of_lt_of_le ae z1
      replace af:=Nat.lt_of_lt_of_le af z1
      replace ab:Hid (Below wr.heap.size wr w2):=bt ab.out z2
      clear z1 z2 ap
      have f1:=(bc aa.out).2.2.2.2 0
      go_upto_region 11 with fail
      replace aa:=zh (adN aa.out (spOf y).lo)
      replace ab:=zh (ab.out.setCell (p:=⟨wr.heap.size,0,none⟩) (Nat.le_refl _) (.string ⟨(spOf y).lo.toArray⟩))
      replace ae:wr.heap.size<(w2.setCell ⟨wr.heap.size,0,none⟩ (.string ⟨(spOf y).lo.toArray⟩)).heap.size:=by simpa using ae
      replace af:(bd.add (j*4)).block<(w2.setCell ⟨wr.heap.size,0,none⟩ (.string ⟨(spOf y).lo.toArray⟩)).heap.size:=by simpa using af
      generalize w2.setCell ⟨wr.heap.size,0,none⟩ (.string ⟨(spOf y).lo.toArray⟩)=W3 at *
      clear k0 k1 k2 k3 e0 e1 e2 e3 f1
      obtain⟨k0,k1,k2,k3,kf⟩:=bc aa.out
      have f2:=kf 2
      obtain⟨e0,e1,e2,e3⟩:=y_at ah.out aF y hy ab.out
      clear kf
      go_upto_region 12 with fail
      replace aa:=zh (adO aa.out (spOf y).li)
      replace ab:=zh (ab.out.setCell (p:=⟨wr.heap.size,2,none⟩) (Nat.le_refl _) (.bool (spOf y).li))
      replace ae:wr.heap.size<(W3.setCell ⟨wr.heap.size,2,none⟩ (.bool (spOf y).li)).heap.size:=by simpa using ae
      replace af:(bd.add (j*4)).block<(W3.setCell ⟨wr.heap.size,2,none⟩ (.bool (spOf y).li)).heap.size:=by simpa using af
      generalize W3.setCell ⟨wr.heap.size,2,none⟩ (.bool (spOf y).li)=W4 at *
      clear k0 k1 k2 k3 e0 e1 e2 e3 f2
      obtain⟨k0,k1,k2,k3,_⟩:=bc aa.out
      obtain⟨e0,e1,e2,e3⟩:=y_at ah.out aF y hy ab.out
      replace aa:Hid (BxS wr.heap.size 230 (spOf x1) W4):=by rw[aA];exact aa.out
      clear k0 k1 k2 k3
      obtain⟨k0,k1,k2,k3,_⟩:=bc aa.out
      clear aA
      cases aR:Rm.lt Ln y.hi x.hi
      all_goals
       have aH:=zh aR
       clear aR
      ·have aK:Hid (Rm.lt Ln y.hi x1.hi=false):=by show _=_;rw[aq.out];exact aH.out
       obtain⟨x2,am⟩:∃ z:Rm.P Cut,z=x1:=⟨_,rfl⟩
       have aL:Hid (x2=Rm.meet Ln x y):=by
        show _=_
        rw[am];unfold Rm.meet;rw[aH.out]
        show x1={ lo:=_,hi:=x.hi }
        rw[<-aq.out,<-ay.out]
       have ai:Hid (Ok2 x2):=by rw[am];exact aj.out
       go_wp2_with fail
       go_region_held3 (fun w'=>w'.cell? ⟨wr.heap.size,0,none⟩=some (.string ⟨(spOf x1).lo.toArray⟩)/\w'.cell? ⟨wr.heap.size,1,none⟩=some (.string ⟨(spOf x1).hi.toArray⟩)/\w'.cell? ⟨wr.heap.size,2,none⟩=some (.bool (spOf x1).li)/\w'.cell? ⟨wr.heap.size,3,none⟩=some (.bool (spOf x1).hn) /\
         w'.cell? (bd.add (j*4))=some (.string ⟨(spOf y).lo.toArray⟩)/\w'.cell? ⟨(bd.add (j*4)).block,(bd.add (j*4)).off+1,none⟩=some (.string ⟨(spOf y).hi.toArray⟩)/\w'.cell? ⟨(bd.add (j*4)).block,(bd.add (j*4)).off+2,none⟩=some (.bool (spOf y).li)/\w'.cell? ⟨(bd.add (j*4)).block,(bd.add (j*4)).off+3,none⟩=some (.bool (spOf y).hn)/\BxS wr.heap.size 230 (spOf x1) w'/\W4.heap.size<=w'.heap.size/\Below W4.heap.size W4 w')
        (first
         | exact⟨k0,k1,k2,k3,e0,e1,e2,e3,aa.out,Nat.le_refl _,(Below.refl _ _).drew⟩
         | assumption
         | (refine keepBX ae af ?_ hb;assumption))
        (first
         | (go_at_call 187;refine (dx x1 y _ _ aj.out aG.out aK.out).mono ?_;rintro _ w5 ⟨rfl,hb⟩))
       rename_i aB
       obtain⟨k0,k1,k2,k3,e0,e1,e2,e3,ap,z1,z2⟩:=aB
       replace aa:=zh ap
       replace ae:=Nat.lt_of_lt_of_le ae z1
       replace af:=Nat.lt_of_lt_of_le af z1
       replace ab:Hid (Below wr.heap.size wr w5):=bt ab.out z2
       clear z1 z2 ap
       rw[<-am] at k0 k1 k2 k3 aa
       clear am
       obtain⟨q,hq⟩:=ex (Rm.ok Ln x2)
       obtain⟨g,hg⟩:∃ g:Int,(if q then 0 else 7)=g:=⟨_,rfl⟩
       have aM:Hid (span (spOf x2).lo (spOf x2).hi (spOf x2).li (spOf x2).hn=g):=by
        show (spOf x2).err=g
        rw[gM ai.out,hq];exact hg
       have ar:=aU.out
       rw[<-aL.out,hq] at ar
       have au:=zh ar
       clear ar hq
       go_wp2_with fail
       refine (eU _ _ _ _ g _ aM.out).mono ?_
       rintro _ w8 ⟨rfl,hb⟩
       replace ab:Hid (Below wr.heap.size wr w8):=bt ab.out hb
       replace aa:=zh (gZ aa.out ae hb)
       clear hb ae af k0 k1 k2 k3 e0 e1 e2 e3
       have al:=zh (Rg.own_below HO.out ab.out)
       have ac:=zh (bt ax.out ab.out)
       obtain⟨k0,k1,k2,k3,_⟩:=bc aa.out
       cases q
       ·obtain rfl:(7:Int)=g:=hg
        have an:Hid (out=ag++((b.take (j+1)).map (Rm.meet Ln x)).filter (Rm.ok Ln)):=by show _=_;rw[au.out,HE.out];simp
        clear HE HO ab aa
        go_wp2_with fail
        go_roundw
        case rel=>exact⟨j+1,out,by omega,by go_num,an,by omega,aJ,al,ac⟩
        case measure=>simp[intOf];omega
       ·obtain rfl:(0:Int)=g:=hg
        have an:Hid (out++[x2]=ag++((b.take (j+1)).map (Rm.meet Ln x)).filter (Rm.ok Ln)):=by show _=_;rw[au.out,HE.out];simp
        have aw:Hid (∀ p∈out++[x2],Ok2 p):=fun p hp=>by
         rcases List.mem_append.1 hp with h | h
         ·exact aJ.out p h
         ·rw[List.mem_singleton.1 h];exact ai.out
        go_wp2_with (at_builtin;refine Rg.aC sliceR rfl (.tmp 64) (.tmp 66) rfl w.heap.size _ (out.map spOf) [spOf x2] rfl (Rg.own_below al.out ((Below.refl _ _).alloc (Nat.le_refl _) _)) _ _ rfl (Rg.av w8 _ _ _ (by rfl)) (Nat.zero_lt_succ _) ?s2 ?b2 ?_)
        case s2=>rw[List.length_map];show _+1<=_;omega
        case b2=>have:=ac.out.size;simp;omega
        intro v6 W6 aD aE aQ
        have aN:Hid (ROwn W6 w.heap.size v6 ((out++[x2]).map spOf)):=by
         show ROwn _ _ _ _
         rw[List.map_append];exact aD
        have aO:Hid (Below w.heap.size w W6):=by
         have h1:=ac.out.size
         exact (ac.out.alloc h1 _).trans (Rg.ao (Rg.own_below al.out ((Below.refl _ _).alloc (Nat.le_refl _) _)) (by simp;omega) aE)
        have aI:(out++[x2]).length<=k*64+(j+1):=by rw[List.length_append];show _+1<=_;omega
        generalize out++[x2]=out2 at *
        clear aD aE aQ HO al ac ab HE au k0 k1 k2 k3
        go_wp2_with fail
        go_roundw
        case rel=>exact⟨j+1,out2,by omega,by go_num,an,aI,aw,aN,aO⟩
        case measure=>simp[intOf];omega
      ·have aK:Hid (Rm.lt Ln y.hi x1.hi=true):=by show _=_;rw[aq.out];exact aH.out
       obtain⟨x2,am⟩:∃ z:Rm.P Cut,z={ lo:=x1.lo,hi:=y.hi }:=⟨_,rfl⟩
       have aL:Hid (x2=Rm.meet Ln x y):=by
        show _=_
        rw[am];unfold Rm.meet;rw[aH.out,ay.out];rfl
       have ai:Hid (Ok2 x2):=by rw[am];exact⟨aj.out.1,aG.out.2⟩
       go_wp2_with fail
       go_region_held3 (fun w'=>w'.cell? ⟨wr.heap.size,0,none⟩=some (.string ⟨(spOf x1).lo.toArray⟩)/\w'.cell? ⟨wr.heap.size,1,none⟩=some (.string ⟨(spOf x1).hi.toArray⟩)/\w'.cell? ⟨wr.heap.size,2,none⟩=some (.bool (spOf x1).li)/\w'.cell? ⟨wr.heap.size,3,none⟩=some (.bool (spOf x1).hn) /\
         w'.cell? (bd.add (j*4))=some (.string ⟨(spOf y).lo.toArray⟩)/\w'.cell? ⟨(bd.add (j*4)).block,(bd.add (j*4)).off+1,none⟩=some (.string ⟨(spOf y).hi.toArray⟩)/\w'.cell? ⟨(bd.add (j*4)).block,(bd.add (j*4)).off+2,none⟩=some (.bool (spOf y).li)/\w'.cell? ⟨(bd.add (j*4)).block,(bd.add (j*4)).off+3,none⟩=some (.bool (spOf y).hn)/\BxS wr.heap.size 230 (spOf x1) w'/\W4.heap.size<=w'.heap.size/\Below W4.heap.size W4 w')
        (first
         | exact⟨k0,k1,k2,k3,e0,e1,e2,e3,aa.out,Nat.le_refl _,(Below.refl _ _).drew⟩
         | assumption
         | (refine keepBX ae af ?_ hb;assumption))
        (first
         | (go_at_call 187;refine (dx x1 y _ _ aj.out aG.out aK.out).mono ?_;rintro _ w5 ⟨rfl,hb⟩))
       rename_i aB
       obtain⟨k0,k1,k2,k3,e0,e1,e2,e3,ap,z1,z2⟩:=aB
       replace aa:=zh ap
       replace ae:=Nat.lt_of_lt_of_le ae z1
       replace af:=Nat.lt_of_lt_of_le af z1
       replace ab:Hid (Below wr.heap.size wr w5):=bt ab.out z2
       clear z1 z2 ap
       have f1:=(bc aa.out).2.2.2.2 1
       go_upto_region 14 with fail
       replace aa:=zh (wJ aa.out (spOf y).hi)
       replace ab:=zh (ab.out.setCell (p:=⟨wr.heap.size,1,none⟩) (Nat.le_refl _) (.string ⟨(spOf y).hi.toArray⟩))
       replace ae:wr.heap.size<(w5.setCell ⟨wr.heap.size,1,none⟩ (.string ⟨(spOf y).hi.toArray⟩)).heap.size:=by simpa using ae
       replace af:(bd.add (j*4)).block<(w5.setCell ⟨wr.heap.size,1,none⟩ (.string ⟨(spOf y).hi.toArray⟩)).heap.size:=by simpa using af
       generalize w5.setCell ⟨wr.heap.size,1,none⟩ (.string ⟨(spOf y).hi.toArray⟩)=W6 at *
       clear k0 k1 k2 k3 e0 e1 e2 e3 f1
       obtain⟨k0,k1,k2,k3,kf⟩:=bc aa.out
       have f2:=kf 3
       obtain⟨e0,e1,e2,e3⟩:=y_at ah.out aF y hy ab.out
       clear kf
       go_upto_region 15 with fail
       replace aa:=zh (wK aa.out (spOf y).hn)
       replace ab:=zh (ab.out.setCell (p:=⟨wr.heap.size,3,none⟩) (Nat.le_refl _) (.bool (spOf y).hn))
       replace ae:wr.heap.size<(W6.setCell ⟨wr.heap.size,3,none⟩ (.bool (spOf y).hn)).heap.size:=by simpa using ae
       replace af:(bd.add (j*4)).block<(W6.setCell ⟨wr.heap.size,3,none⟩ (.bool (spOf y).hn)).heap.size:=by simpa using af
       generalize W6.setCell ⟨wr.heap.size,3,none⟩ (.bool (spOf y).hn)=W7 at *
       clear k0 k1 k2 k3 e0 e1 e2 e3 f2
       obtain⟨k0,k1,k2,k3,_⟩:=bc aa.out
       obtain⟨e0,e1,e2,e3⟩:=y_at ah.out aF y hy ab.out
       replace aa:Hid (BxS wr.heap.size 230 (spOf x2) W7):=by rw[am];exact aa.out
       clear k0 k1 k2 k3
       obtain⟨k0,k1,k2,k3,_⟩:=bc aa.out
       clear am
       obtain⟨q,hq⟩:=ex (Rm.ok Ln x2)
       obtain⟨g,hg⟩:∃ g:Int,(if q then 0 else 7)=g:=⟨_,rfl⟩
       have aM:Hid (span (spOf x2).lo (spOf x2).hi (spOf x2).li (spOf x2).hn=g):=by
        show (spOf x2).err=g
        rw[gM ai.out,hq];exact hg
       have ar:=aU.out
       rw[<-aL.out,hq] at ar
       have au:=zh ar
       clear ar hq
       go_wp2_with fail
       refine (eU _ _ _ _ g _ aM.out).mono ?_
       rintro _ w8 ⟨rfl,hb⟩
       replace ab:Hid (Below wr.heap.size wr w8):=bt ab.out hb
       replace aa:=zh (gZ aa.out ae hb)
       clear hb ae af k0 k1 k2 k3 e0 e1 e2 e3
       have al:=zh (Rg.own_below HO.out ab.out)
       have ac:=zh (bt ax.out ab.out)
       obtain⟨k0,k1,k2,k3,_⟩:=bc aa.out
       cases q
       ·obtain rfl:(7:Int)=g:=hg
        have an:Hid (out=ag++((b.take (j+1)).map (Rm.meet Ln x)).filter (Rm.ok Ln)):=by show _=_;rw[au.out,HE.out];simp
        clear HE HO ab aa
        go_wp2_with fail
        go_roundw
        case rel=>exact⟨j+1,out,by omega,by go_num,an,by omega,aJ,al,ac⟩
        case measure=>simp[intOf];omega
       ·obtain rfl:(0:Int)=g:=hg
        have an:Hid (out++[x2]=ag++((b.take (j+1)).map (Rm.meet Ln x)).filter (Rm.ok Ln)):=by show _=_;rw[au.out,HE.out];simp
        have aw:Hid (∀ p∈out++[x2],Ok2 p):=fun p hp=>by
         rcases List.mem_append.1 hp with h | h
         ·exact aJ.out p h
         ·rw[List.mem_singleton.1 h];exact ai.out
        go_wp2_with (at_builtin;refine Rg.aC sliceR rfl (.tmp 64) (.tmp 66) rfl w.heap.size _ (out.map spOf) [spOf x2] rfl (Rg.own_below al.out ((Below.refl _ _).alloc (Nat.le_refl _) _)) _ _ rfl (Rg.av w8 _ _ _ (by rfl)) (Nat.zero_lt_succ _) ?s2 ?b2 ?_)
        case s2=>rw[List.length_map];show _+1<=_;omega
        case b2=>have:=ac.out.size;simp;omega
        intro v6 W6 aD aE aQ
        have aN:Hid (ROwn W6 w.heap.size v6 ((out++[x2]).map spOf)):=by
         show ROwn _ _ _ _
         rw[List.map_append];exact aD
        have aO:Hid (Below w.heap.size w W6):=by
         have h1:=ac.out.size
         exact (ac.out.alloc h1 _).trans (Rg.ao (Rg.own_below al.out ((Below.refl _ _).alloc (Nat.le_refl _) _)) (by simp;omega) aE)
        have aI:(out++[x2]).length<=k*64+(j+1):=by rw[List.length_append];show _+1<=_;omega
        generalize out++[x2]=out2 at *
        clear aD aE aQ HO al ac ab HE au k0 k1 k2 k3
        go_wp2_with fail
        go_roundw
        case rel=>exact⟨j+1,out2,by omega,by go_num,an,aI,aw,aN,aO⟩
        case measure=>simp[intOf];omega
    ·obtain rfl:m=j:=by omega
     have an:Hid (out=Rm.pairs Ln (a.take (k+1)) b):=by
      show _=_
      rw[a0.out,HE.out,List.take_of_length_le (by rw[HM.out];exact Nat.le_refl _)]
     have aI:out.length<=(k+1)*64:=by omega
     clear HE a0
     go_wp2_with fail
     go_roundw
     case rel=>exact⟨k+1,out,by omega,by go_num,an,aI,aJ,HO,ax⟩
     case measure=>simp[intOf];omega
  ·obtain rfl:n=k:=by omega
   have he:ag=Rm.pairs Ln a b:=by rw[HE.out,List.take_of_length_le (by rw[HN.out];exact Nat.le_refl _)]
   have a5:Hid (((Rm.joinK Ln ag).take 64).map spOf=R):=by rw[he];exact HR.out
   obtain⟨z,hz⟩:=ex ag.length
   have HZ:=zh hz
   rw[hz] at aS
   obtain⟨C,d,rfl,a2,_,_,_,_⟩:=eE HO.out (show (ag.map spOf).length=z by rw[List.length_map];exact hz)
   have a6:=zh a2
   clear he HE HR hz a2 HO
   go_wp2_with fail
   refine (mF C z d ag R _ HZ.out a6.out aP.out (by omega) a5.out).mono ?_
   rintro _ w1 ⟨⟨D,e,rfl,hc,hle,aZ⟩,hb⟩
   have HC:=zh hc
   have a7:=zh hle
   have a8:=zh aZ
   have a9:=zh (bt ax.out hb)
   clear hc hle hb aZ
   go_wp2_with fail
   go_ret
   exact⟨⟨D,e,rfl,HC.out,a7.out,fun a ha=>Nat.le_trans ax.out.size (a8.out a ha)⟩,a9.out⟩
end
section
open Go.RowKit Rs
theorem zX (s v:List UInt8)(w:World):Calls Tryz.prog 154 #[.string ⟨s.toArray⟩,.string ⟨v.toArray⟩] w (OfRet w ((ofR s v).map spOf) (ofE s v)):=by
 unfold ofR ofE
 cases hs:sgnOf s with
 | none=>exact acg s v w (jX hs)
 | some i =>
  obtain⟨hi,rfl⟩:=gg hs
  by_cases hv:Vm.check v=0
  ·simp only[hv,if_true]
   match i,hi with
   | 0,_=>exact ve v w hv
   | 1,_=>exact vf v w hv
   | 2,_=>exact vg v w hv
   | 3,_=>exact vh v w hv
   | 4,_=>exact vi v w hv
   | 5,_=>exact vj v w hv
  ·simp only[hv,if_false]
   match i,hi with
   | 0,_=>exact x7 v w hv
   | 1,_=>exact x8 v w hv
   | 2,_=>exact x9 v w hv
   | 3,_=>exact ya v w hv
   | 4,_=>exact yb v w hv
   | 5,_=>exact yc v w hv
section
variable {w0 u u':World} {L:List Ent} {A B:Option Addr} {n m:Nat}
theorem adP (h:St w0 u L)(s v:List UInt8)(R:List (Rm.P Cut))(k:Int)(hR:ofR s v=R)(hk:ofE s v=k):Calls Tryz.prog 154 #[.string ⟨s.toArray⟩,.string ⟨v.toArray⟩] u (RowErr w0 L (R.map spOf) k):=by
 subst hR hk
 exact (zX s v u).mono fun _ _=>wu h
theorem aci (h:St w0 u L)(i j:Nat){a b:List (Rm.P Cut)}(hi:L[i]?=some ⟨A,n,a.map spOf⟩)(hj:L[j]?=some ⟨B,m,b.map spOf⟩)(ga:Rs.Good a)(gb:Rs.Good b)(ca cb:Nat)(R:List (Rm.P Cut))(hR:andR a b=R) :
  Calls Tryz.prog 155 #[.slice A n ca,.slice B m cb] u (RowRet w0 L (R.map spOf)):=by
 subst hR
 obtain⟨x1,x2⟩:=gT ga (aF h i hi).2
 obtain⟨y1,y2⟩:=gT gb (aF h j hj).2
 exact (ye A B n m ca cb a b u x1 y1 (aF h i hi).1 (aF h j hj).1 ga.2.1 gb.2.1 ⟨x2,y2⟩).mono fun _ _=>gy h
theorem adQ (h:St w0 u L)(i j:Nat){a b:List (Rm.P Cut)}(hi:L[i]?=some ⟨A,n,a.map spOf⟩)(hj:L[j]?=some ⟨B,m,b.map spOf⟩)(ga:Rs.Good a)(gb:Rs.Good b)(ca cb:Nat)(R:List (Rm.P Cut))(hR:orR a b=R) :
  Calls Tryz.prog 156 #[.slice A n ca,.slice B m cb] u (RowRet w0 L (R.map spOf)):=by
 subst hR
 obtain⟨x1,x2⟩:=gT ga (aF h i hi).2
 obtain⟨y1,y2⟩:=gT gb (aF h j hj).2
 exact (zW A B n m ca cb a b u x1 y1 (aF h i hi).1 (aF h j hj).1 ga.2.1 gb.2.1 ⟨by omega,by omega⟩).mono fun _ _=>gy h
end
end
end Go.Proofs.YtkaeamjnphaadaaGreatDoor

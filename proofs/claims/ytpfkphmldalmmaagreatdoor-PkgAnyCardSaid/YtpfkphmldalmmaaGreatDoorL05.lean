/- Part 5 of what the laws lean on. -/
import Derived.Test.YtpfkphmldalmmaaGreatDoorL04
set_option maxHeartbeats 800000
namespace Go.Proofs.YtpfkphmldalmmaaGreatDoor
section
open Go.RowKit
theorem beq46 (c:UInt8):((c.toNat:Int)==46)=(c.toNat==46):=by rw[Bool.eq_iff_iff];simp;omega
theorem beq43 (c:UInt8):((c.toNat:Int)==43)=(c.toNat==43):=by rw[Bool.eq_iff_iff];simp;omega
theorem beq126 (c:UInt8):((c.toNat:Int)==126)=(c.toNat==126):=by rw[Bool.eq_iff_iff];simp;omega
theorem eY (c:UInt8)(w:World) :
  Calls Tryz.prog 219 #[.int .u8 c.toNat] w fun e w'=>e=.returned (.bool (Vm.dig c))/\w=w':=by
 unfold Vm.dig
 by_cases h1:48<=c.toNat <;> by_cases h2:c.toNat<=57
 all_goals
  go_enter Tryz.func219,Tryz.ntmps219
  go_wp2
 all_goals
  go_ret
  exact⟨by first | (simp[h1,h2];done) | (simp[h1,h2];omega),rfl⟩
theorem bJ (c:UInt8)(w:World) :
  Calls Tryz.prog 70 #[.int .u8 c.toNat] w fun e w'=>e=.returned (.bool (Vm.dig c))/\w=w':=by
 unfold Vm.dig
 by_cases h1:48<=c.toNat <;> by_cases h2:c.toNat<=57
 all_goals
  go_enter Tryz.func70,Tryz.ntmps70
  go_wp2
 all_goals
  go_ret
  exact⟨by first | (simp[h1,h2];done) | (simp[h1,h2];omega),rfl⟩
theorem kq (c:UInt8)(w:World) :
  Calls Tryz.prog 251 #[.int .u8 c.toNat] w fun e w'=>e=.returned (.bool (Vm.ltr c))/\w=w':=by
 unfold Vm.ltr
 by_cases h1:97<=c.toNat <;> by_cases h2:c.toNat<=122 <;> by_cases h3:65<=c.toNat <;> by_cases h4:c.toNat<=90
 all_goals
  go_enter Tryz.func251,Tryz.ntmps251
  go_wp2
 all_goals
  go_ret
  exact⟨by first | (simp[h1,h2,h3,h4];done) | (simp[h1,h2,h3,h4];omega),rfl⟩
theorem j5 (c:UInt8)(w:World) :
  Calls Tryz.prog 192 #[.int .u8 c.toNat] w fun e w'=>e=.returned (.bool (Vm.ltr c))/\w=w':=by
 unfold Vm.ltr
 by_cases h1:97<=c.toNat <;> by_cases h2:c.toNat<=122 <;> by_cases h3:65<=c.toNat <;> by_cases h4:c.toNat<=90
 all_goals
  go_enter Tryz.func192,Tryz.ntmps192
  go_wp2
 all_goals
  go_ret
  exact⟨by first | (simp[h1,h2,h3,h4];done) | (simp[h1,h2,h3,h4];omega),rfl⟩
theorem vc (c:UInt8)(w:World) :
  Calls Tryz.prog 220 #[.int .u8 c.toNat] w fun e w'=>e=.returned (.bool (Vm.oth c))/\w=w':=by
 go_enter Tryz.func220,Tryz.ntmps220
 go_wp2_with fail
 refine (kq c _).mono ?_
 rintro e w' ⟨rfl,rfl⟩
 cases hl:Vm.ltr c
 all_goals
  have HL:=zh hl
  clear hl
  go_wp2
 all_goals
  go_ret
  refine⟨?_,rfl⟩
  have hl:=HL.out
  clear HL
  unfold Vm.oth
  rw[hl]
  first | (simp[beq46,beq43,beq126];done) | (simp[beq46,beq43,beq126];omega) | (simp[beq46,beq43,beq126,Bool.or_assoc];done)
theorem qc (c:UInt8):wrap64 (c.toNat:Int)=c.toNat:=IntWalk.wrap64_in _ ⟨by omega,by have:=wC c;omega⟩
theorem sq (c:UInt8):wrap64 (256+(c.toNat:Int))=256+c.toNat:=IntWalk.wrap64_in _ ⟨by omega,by have:=wC c;omega⟩
theorem sr (l:List UInt8)(i:Nat)(h:l.length<=i):Vm.mark l i=0:=by simp[Vm.mark,h]
theorem wE (l:List UInt8)(i:Nat)(h:i<l.length):Vm.mark l i=Vm.markB l[i]:=by
 unfold Vm.mark Vm.markB
 rw[if_neg (by omega)]
 simp[h]
theorem ss (l:List UInt8)(i:Nat)(w:World) :
  Calls Tryz.prog 294 #[.string ⟨l.toArray⟩,.int .i64 i] w fun e w'=>e=.returned (.int .i64 (Vm.mark l i))/\w=w':=by
 by_cases h:i<l.length
 ·obtain⟨c,hc,aa⟩:=byte_at l i h
  have H:=zh (wE l i h)
  rw[aa] at H
  clear aa
  by_cases h1:c.toNat=126
  ·have h2:((c.toNat:Int)==126)=true:=by simp[h1]
   have H1:=zh h1
   clear h1
   go_enter Tryz.func294,Tryz.ntmps294
   go_wp2_with fail
   go_ret
   exact⟨by rw[H.out];simp[Vm.markB,H1.out],rfl⟩
  ·have h2:((c.toNat:Int)==126)=false:=by simp;omega
   go_enter Tryz.func294,Tryz.ntmps294
   go_wp2_with fail
   refine (kq c _).mono ?_
   rintro e w' ⟨rfl,rfl⟩
   cases hl:Vm.ltr c
   all_goals
    have HL:=zh hl
    clear hl
    go_wp2
   all_goals
    go_ret
    exact⟨by rw[H.out];simp[Vm.markB,HL.out,h1,qc,sq],rfl⟩
 ·have H:=zh (sr l i (by omega))
  go_enter Tryz.func294,Tryz.ntmps294
  go_wp2_with fail
  go_ret
  exact⟨by rw[H.out];rfl,rfl⟩
end
section
open Go.RowKit
theorem dR (l:List UInt8)(p:UInt8->Bool)(k:Nat)(h:k<l.length):(l.take (k+1)).all p=((l.take k).all p&&p l[k]):=by
 rw[List.take_succ_eq_append_getElem h,List.all_append];simp only[List.all_cons,List.all_nil,Bool.and_true]
theorem eA (l:List UInt8)(p:UInt8->Bool)(k:Nat)(h:k<l.length)(hp:p l[k]=false):l.all p=false:=by
 rw[Bool.eq_false_iff];intro ha;rw[List.all_eq_true] at ha;have:=ha _ (List.getElem_mem h);simp[hp] at this
theorem ix (l:List UInt8)(h:0<l.length):Vm.partOk l=(Vm.dig l[0]&&(Vm.dig (l[l.length-1]'(by omega))&&l.all Vm.ok1)):=by
 have hl:l.length-1<l.length:=by omega
 have he:l.isEmpty=false:=by cases l <;> simp at *
 simp[Vm.partOk,h,he,hl]
theorem gQ (l:List UInt8)(w:World)(hm:l.length<=100) :
  Calls Tryz.prog 187 #[.string ⟨l.toArray⟩] w fun e w'=>e=okOr (Vm.partOk l) 5/\w=w':=by
 by_cases h0:l=[]
 ·subst h0
  go_enter Tryz.func187,Tryz.ntmps187
  go_wp2_with fail
  refine (ao _).mono ?_
  rintro e w' ⟨rfl,rfl⟩
  go_wp2_with fail
  exact⟨rfl,rfl,rfl⟩
 ·have ac:0<l.length:=List.length_pos_iff.2 h0
  have ad:l.length-1<l.length:=by omega
  have he:l.isEmpty=false:=by cases l <;> simp at *
  obtain⟨c0,ap,ae⟩:=byte_at l 0 ac
  obtain⟨cn,aq,af⟩:=byte_at l (l.length-1) ad
  have H:=zh (ix l ac)
  rw[ae,af] at H
  clear ae af h0
  cases hd:Vm.dig c0
  all_goals
   have HD:=zh hd
   clear hd
   go_enter Tryz.func187,Tryz.ntmps187
   go_wp2_with fail
   refine (eY c0 _).mono ?_
   rintro e w' ⟨rfl,rfl⟩
   rw[HD.out]
   go_wp2_with fail
  ·refine (ao _).mono ?_
   rintro e w' ⟨rfl,rfl⟩
   go_wp2_with fail
   refine⟨rfl,?_,rfl⟩
   rw[H.out,HD.out];rfl
  ·refine (eY cn _).mono ?_
   rintro e w' ⟨rfl,rfl⟩
   cases ag:Vm.dig cn
   ·have ah:=zh ag
    clear ag
    go_wp2_with fail
    refine (ao _).mono ?_
    rintro e w' ⟨rfl,rfl⟩
    go_wp2_with fail
    refine⟨rfl,?_,rfl⟩
    rw[H.out,HD.out,ah.out];rfl
   ·have ah:=zh ag
    clear ag
    go_wp2_with fail
    refine (aj _).mono ?_
    rintro e w' ⟨rfl,rfl⟩
    go_wp2_with fail
    have HE:Hid (Vm.partOk l=l.all Vm.ok1):=by
     show Vm.partOk l=l.all Vm.ok1
     rw[H.out,HD.out,ah.out];rfl
    clear ap aq H HD ah
    go_loop [21] (fun i=>∃ k:Nat,k<=l.length/\i=.int .i64 k/\Hid ((l.take k).all Vm.ok1=true)) (fun i=>l.length-(intOf i).toNat)
    case atStart=>exact⟨0,Nat.zero_le _,rfl,rfl⟩
    case round =>
     obtain⟨k,hk,rfl,aa⟩:=hrel
     by_cases al:k<l.length
     ·obtain⟨c,hc,am⟩:=byte_at l k al
      have HS:=zh (dR l Vm.ok1 k al)
      rw[am] at HS
      have HF:Vm.ok1 c=false->l.all Vm.ok1=false:=fun h=>eA l _ k al (by rw[am];exact h)
      have an:=zh HF
      clear am HF
      go_wp2_with fail
      refine (eY c _).mono ?_
      rintro e w' ⟨rfl,rfl⟩
      cases ai:Vm.dig c
      ·have ak:=zh ai
       clear ai
       go_wp2_with fail
       refine (vc c _).mono ?_
       rintro e w' ⟨rfl,rfl⟩
       cases ho:Vm.oth c
       ·have HO:=zh ho
        clear ho
        go_wp2_with fail
        refine (ao _).mono ?_
        rintro e w' ⟨rfl,rfl⟩
        go_wp2_with fail
        refine⟨rfl,?_,rfl⟩
        rw[HE.out,an.out (by rw[Vm.ok1,ak.out,HO.out];rfl)];rfl
       ·have HO:=zh ho
        clear ho
        go_wp2_with fail
        refine (aj _).mono ?_
        rintro e w' ⟨rfl,rfl⟩
        go_wp2_with fail
        go_round
        case rel=>exact⟨k+1,by omega,by go_num,by show _=_;rw[HS.out,aa.out,Vm.ok1,ak.out,HO.out];rfl⟩
        case measure=>simp[intOf];omega
      ·have ak:=zh ai
       clear ai
       go_wp2_with fail
       refine (aj _).mono ?_
       rintro e w' ⟨rfl,rfl⟩
       go_wp2_with fail
       go_round
       case rel=>exact⟨k+1,by omega,by go_num,by show _=_;rw[HS.out,aa.out,Vm.ok1,ak.out];rfl⟩
       case measure=>simp[intOf];omega
     ·obtain rfl:k=l.length:=by omega
      have ab:l.all Vm.ok1=true:=by have:=aa.out;rwa [List.take_length] at this
      have HA:=zh ab
      clear aa ab
      go_wp2_with fail
      go_end0
      exact⟨by rw[HE.out,HA.out];rfl,rfl⟩
end
section
open Go.RowKit
def cs10:List UInt8:=[48,49,50,51,52,53,54,55,56,57]
theorem su (c:UInt8):cs10.contains c=Vm.dig c:=aei (fun c=>cs10.contains c) Vm.dig (by decide +kernel) c
theorem vd (l:List UInt8):Lib.trimLeftS l cs10=Vm.undigs l:=by
 unfold Lib.trimLeftS Vm.undigs
 congr 1;funext c;exact su c
theorem yU (l:List UInt8):l.take (l.length-(Vm.undigs l).length)=Vm.digs l:=by
 have h:Vm.digs l++Vm.undigs l=l:=List.takeWhile_append_dropWhile
 have h2:l.length-(Vm.undigs l).length=(Vm.digs l).length:=by
  have:=congrArg List.length h;rw[List.length_append] at this;omega
 rw[h2]
 exact mK h
theorem cF (l:List UInt8):(Vm.undigs l).length<=l.length:=by
 have h:Vm.digs l++Vm.undigs l=l:=List.takeWhile_append_dropWhile
 have:=congrArg List.length h;rw[List.length_append] at this;omega
theorem kr (l:List UInt8):(Vm.unoths l).length<=l.length:=by
 have h:Vm.oths l++Vm.unoths l=l:=List.takeWhile_append_dropWhile
 have:=congrArg List.length h;rw[List.length_append] at this;omega
theorem iK (l:List UInt8):(Vm.oths l).length<=l.length:=by
 have h:Vm.oths l++Vm.unoths l=l:=List.takeWhile_append_dropWhile
 have:=congrArg List.length h;rw[List.length_append] at this;omega
theorem pw (l:List UInt8):(Vm.digs l).length<=l.length:=by
 have h:Vm.digs l++Vm.undigs l=l:=List.takeWhile_append_dropWhile
 have:=congrArg List.length h;rw[List.length_append] at this;omega
theorem yV (l:List UInt8):l.take (Vm.oths l).length=Vm.oths l:=by
 have h:Vm.oths l++Vm.unoths l=l:=List.takeWhile_append_dropWhile
 exact mK h
theorem ve (l:List UInt8):l.drop (Vm.oths l).length=Vm.unoths l:=by
 have h:Vm.oths l++Vm.unoths l=l:=List.takeWhile_append_dropWhile
 exact sj h
theorem nH:∀ l:List UInt8,(Lib.indexAny l cs10 = -1/\Vm.oths l=l)\/Lib.indexAny l cs10=(Vm.oths l).length
 | []=>Or.inl ⟨rfl,rfl⟩
 | b :: l=>by
  have ih:=nH l
  have hg:=Lib.indexAny_ge cs10 l
  unfold Lib.indexAny Vm.oths
  rw[su,List.takeWhile_cons]
  cases hb:Vm.dig b
  ·simp only[Bool.false_eq_true,if_false,Bool.not_false,if_true]
   rcases ih with⟨h1,h2⟩ | h1
   ·left
    rw[h1]
    refine⟨rfl,?_⟩
    show b :: Vm.oths l=b :: l
    rw[h2]
   ·right
    rw[h1,if_neg (by simp)]
    show _=(((b :: Vm.oths l).length:Nat):Int)
    simp
  ·right;simp
def ascii (l:List UInt8):Prop:=∀ (j:Nat) b,l[j]?=some b->b.toNat<128
theorem nI:ascii cs10:=by
 intro j b h
 have:=List.mem_of_getElem? h
 simp[cs10] at this
 rcases this with rfl | rfl | rfl | rfl | rfl | rfl | rfl | rfl | rfl | rfl <;> decide
theorem iL (l:List UInt8)(w:World) :
  Calls Tryz.prog 221 #[.string ⟨l.toArray⟩,.string ⟨#[48,49,50,51,52,53,54,55,56,57]⟩] w fun e w'=>e=.returned (.string ⟨(Vm.undigs l).toArray⟩)/\Below w.heap.size w w' :=
 (Tryz.strings_TrimLeft_laid ⟨l.toArray⟩ ⟨cs10.toArray⟩ w (by decide) nI).mono fun _ _ h=>⟨by rw[h.1,<-vd],h.2⟩
theorem rf (l:List UInt8)(w:World) :
  Calls Tryz.prog 221 #[.string ⟨l.toArray⟩,.string ⟨#[48]⟩] w fun e w'=>e=.returned (.string ⟨(l.dropWhile (. == 48)).toArray⟩)/\w=w' :=
 (Tryz.strings_TrimLeft_one ⟨l.toArray⟩ 48 (by decide) w).mono fun _ _ h=>⟨h.1,h.2.symm⟩
theorem nJ (l:List UInt8)(w:World)(hl:l.length<=1000)(ha:ascii l) :
  Calls Tryz.prog 256 #[.string ⟨l.toArray⟩,.string ⟨#[48,49,50,51,52,53,54,55,56,57]⟩] w fun e w'=>e=.returned (.int .i64 (Lib.indexAny l cs10))/\Below w.heap.size w w' :=
 Tryz.strings_IndexAny_laid ⟨l.toArray⟩ ⟨cs10.toArray⟩ w (by show l.toArray.size<_;simp;omega) (by decide) ha nI
theorem jn (l:List UInt8)(w:World) :
  Calls Tryz.prog 188 #[.string ⟨l.toArray⟩] w fun e w'=>e=.returned (.string ⟨(Vm.bare l).toArray⟩)/\w=w':=by
 have H:Hid (Vm.bare l=if (l.dropWhile (. == 48)).isEmpty then [48] else l.dropWhile (. == 48)):=rfl
 go_enter Tryz.func188,Tryz.ntmps188
 go_wp2_with fail
 refine (rf l _).mono ?_
 rintro e w' ⟨rfl,rfl⟩
 generalize l.dropWhile (. == 48)=r at *
 cases hz:r.isEmpty
 all_goals
  go_wp2_with fail
 ·go_ret
  exact⟨by rw[H.out,hz];rfl,rfl⟩
 ·go_ret
  exact⟨by rw[H.out,hz];rfl,rfl⟩
theorem fu (l:List UInt8)(w:World)(hl:l.length<=1000) :
  Calls Tryz.prog 222 #[.string ⟨l.toArray⟩] w fun e w'=>e=.returned (.tuple #[.string ⟨(Vm.digs l).toArray⟩,.string ⟨(Vm.undigs l).toArray⟩])/\Below w.heap.size w w':=by
 have H:=zh (yU l)
 have hle:=cF l
 go_enter Tryz.func222,Tryz.ntmps222
 go_wp2_with fail
 refine (iL l _).mono ?_
 rintro e w' ⟨rfl,hb⟩
 obtain⟨r,hr⟩:=ex (Vm.undigs l)
 rw[hr] at H hle
 rw[hr]
 have HR:=zh hr
 clear hr
 go_wp2_with fail
 go_ret2
 refine⟨?_,hb⟩
 show Ending.returned (.tuple #[.string (ByteArray.extract ⟨l.toArray⟩ 0 (l.length-r.length)),.string ⟨r.toArray⟩])=_
 rw[ByteArray.extract_mk,List.drop_zero,Nat.sub_zero,H.out,HR.out]
theorem fx (l:List UInt8)(w:World)(hl:l.length<=1000)(ha:ascii l) :
  Calls Tryz.prog 223 #[.string ⟨l.toArray⟩] w fun e w'=>e=.returned (.tuple #[.string ⟨(Vm.oths l).toArray⟩,.string ⟨(Vm.unoths l).toArray⟩])/\Below w.heap.size w w':=by
 have HT:=zh (yV l)
 have HD:=zh (ve l)
 have hle:=iK l
 have hA:=zh ha
 clear ha
 go_enter Tryz.func223,Tryz.ntmps223
 go_wp2_with fail
 refine (nJ l _ hl hA.out).mono ?_
 rintro e w' ⟨rfl,hb⟩
 rcases nH l with⟨h1,h2⟩ | h1
 ·rw[h1]
  have H2:=zh h2
  clear h1 h2
  go_wp2_with fail
  go_quiet (fail)
  go_wp2_with fail
  go_ret2
  refine⟨?_,below_drewN hb _⟩
  have e1:Vm.unoths l=[]:=by rw[<-HD.out,H2.out,List.drop_length]
  show Ending.returned (.tuple #[.string (ByteArray.extract ⟨l.toArray⟩ 0 l.length),.string ⟨([]:List UInt8).toArray⟩])=_
  rw[ByteArray.extract_mk,List.drop_zero,Nat.sub_zero,List.take_length,e1,H2.out]
 ·rw[h1]
  clear h1
  go_wp2_with fail
  go_quiet (fail)
  go_wp2_with fail
  go_ret2
  refine⟨?_,below_drewN hb _⟩
  show Ending.returned (.tuple #[.string (ByteArray.extract ⟨l.toArray⟩ 0 (Vm.oths l).length),.string (ByteArray.extract ⟨l.toArray⟩ (Vm.oths l).length l.length)])=_
  rw[ByteArray.extract_mk,ByteArray.extract_mk,List.drop_zero,Nat.sub_zero,HT.out,HD.out,List.take_of_length_le (by rw[<-HD.out,List.length_drop];exact Nat.le_refl _)]
end
section
open Go.RowKit
theorem kt (l:List UInt8)(h:0<l.length):Vm.epOk l=(decide (l.length<=6)&&l.all Vm.dig):=by
 have he:l.isEmpty=false:=by cases l <;> simp at *
 simp[Vm.epOk,he]
theorem gr (l:List UInt8)(w:World)(hm:l.length<=100) :
  Calls Tryz.prog 186 #[.string ⟨l.toArray⟩] w fun e w'=>e=okOr (Vm.epOk l) 5/\w=w':=by
 by_cases h0:l=[]
 ·subst h0
  go_enter Tryz.func186,Tryz.ntmps186
  go_wp2_with fail
  refine (ao _).mono ?_
  rintro e w' ⟨rfl,rfl⟩
  go_wp2_with fail
  exact⟨rfl,rfl,rfl⟩
 ·have ad:0<l.length:=List.length_pos_iff.2 h0
  have he:l.isEmpty=false:=by cases l <;> simp at *
  have H:=zh (kt l ad)
  clear h0
  by_cases h6:l.length<=6
  ·have HE:Hid (Vm.epOk l=l.all Vm.dig):=by show _=_;rw[H.out];simp[h6]
   clear H
   go_enter Tryz.func186,Tryz.ntmps186
   go_wp2_with fail
   rw[show decide ((l.length:Int)<=6)=true from by simp;omega]
   refine (aj _).mono ?_
   rintro e w' ⟨rfl,rfl⟩
   go_wp2_with fail
   go_loop [13] (fun i=>∃ k:Nat,k<=l.length/\i=.int .i64 k/\Hid ((l.take k).all Vm.dig=true)) (fun i=>l.length-(intOf i).toNat)
   case atStart=>exact⟨0,Nat.zero_le _,rfl,rfl⟩
   case round =>
    obtain⟨k,hk,rfl,ab⟩:=hrel
    by_cases ae:k<l.length
    ·obtain⟨c,hc,ag⟩:=byte_at l k ae
     have HS:=zh (dR l Vm.dig k ae)
     rw[ag] at HS
     have HF:Vm.dig c=false->l.all Vm.dig=false:=fun h=>eA l _ k ae (by rw[ag];exact h)
     have ah:=zh HF
     clear ag HF
     go_wp2_with fail
     refine (eY c _).mono ?_
     rintro e w' ⟨rfl,rfl⟩
     cases ac:Vm.dig c
     ·have af:=zh ac
      clear ac
      go_wp2_with fail
      refine (ao _).mono ?_
      rintro e w' ⟨rfl,rfl⟩
      go_wp2_with fail
      refine⟨rfl,?_,rfl⟩
      rw[HE.out,ah.out af.out];rfl
     ·have af:=zh ac
      clear ac
      go_wp2_with fail
      refine (aj _).mono ?_
      rintro e w' ⟨rfl,rfl⟩
      go_wp2_with fail
      go_round
      case rel=>exact⟨k+1,by omega,by go_num,by show _=_;rw[HS.out,ab.out,af.out];rfl⟩
      case measure=>simp[intOf];omega
    ·obtain rfl:k=l.length:=by omega
     have aa:l.all Vm.dig=true:=by have:=ab.out;rwa [List.take_length] at this
     have HA:=zh aa
     clear ab aa
     go_wp2_with fail
     go_end0
     exact⟨by rw[HE.out,HA.out];rfl,rfl⟩
  ·go_enter Tryz.func186,Tryz.ntmps186
   go_wp2_with fail
   rw[show decide ((l.length:Int)<=6)=false from by simp;omega]
   refine (ao _).mono ?_
   rintro e w' ⟨rfl,rfl⟩
   go_wp2_with fail
   refine⟨rfl,?_,rfl⟩
   rw[H.out];simp[h6,okOr]
def place (l:List UInt8) (c:UInt8):Int:=if Vm.has c l then ((Vm.fst c l).length:Int) else -1
theorem qd (l:List UInt8)(c:UInt8)(w:World)(hm:l.length<=4000) :
  Calls Tryz.prog 159 #[.string ⟨l.toArray⟩,.int .u8 c.toNat] w fun e w'=>e=.returned (.int .i64 (place l c))/\w=w':=by
 go_enter Tryz.func159,Tryz.ntmps159
 go_wp2_with fail
 go_loop [5] (fun i=>∃ k:Nat,k<=(Vm.fst c l).length/\i=.int .i64 k) (fun i=>l.length-(intOf i).toNat)
 case atStart=>exact⟨0,Nat.zero_le _,rfl⟩
 case round =>
  obtain⟨k,hk,rfl⟩:=hrel
  have hle:=fb l c
  by_cases ab:k<l.length
  ·obtain⟨b,hc,ac⟩:=byte_at l k ab
   have HS:=zh (po (. != c) l k ab hk)
   rw[ac] at HS
   clear ac
   by_cases aa:b=c
   ·subst aa
    go_wp2_with fail
    go_ret
    refine⟨?_,rfl⟩
    have h1:¬ (k+1<=(Vm.fst b l).length):=fun h=>by have:=HS.out.2 h;simp at this
    have h2:k=(Vm.fst b l).length:=by omega
    show Ending.returned (.int .i64 (k:Int))=_
    rw[place,if_pos ((lL l b).2 (by omega)),<-h2]
   ·have ad:((b.toNat:Int)==(c.toNat:Int))=false:=by
     rw[beq_eq_false_iff_ne];intro h;exact aa (UInt8.toNat.inj (by omega))
    have h1:k+1<=(Vm.fst c l).length:=HS.out.1 (by simp[aa])
    go_wp2_with fail
    go_round
    case rel=>exact⟨k+1,h1,by go_num⟩
    case measure=>simp[intOf];omega
  ·go_wp2_with fail
   go_ret
   refine⟨?_,rfl⟩
   have:¬ Vm.has c l=true:=fun h=>by have:=(lL l c).1 h;omega
   show Ending.returned (.int .i64 (-1))=_
   rw[place,if_neg this]
end
section
open Go.RowKit
theorem cY (l:List UInt8)(w:World)(hm:l.length<=100) :
  Calls Tryz.prog 160 #[.string ⟨l.toArray⟩] w fun e w'=>e=.returned (.bool (Vm.partOk l))/\w=w':=by
 have am:∀ (x:Bool) (w:World),(Op.unary .not (.bool x)).run Tryz.prog w=.ok (.bool (!x)) w:=fun _ _=>rfl
 by_cases h0:l=[]
 ·subst h0
  go_enter Tryz.func160,Tryz.ntmps160
  go_wp2_with fail
  go_ret
  exact⟨rfl,rfl⟩
 ·have ac:0<l.length:=List.length_pos_iff.2 h0
  have ad:l.length-1<l.length:=by omega
  have he:l.isEmpty=false:=by cases l <;> simp at *
  obtain⟨c0,ao,ae⟩:=byte_at l 0 ac
  obtain⟨cn,ap,af⟩:=byte_at l (l.length-1) ad
  have H:=zh (ix l ac)
  rw[ae,af] at H
  clear ae af h0
  cases hd:Vm.dig c0
  all_goals
   have HD:=zh hd
   clear hd
   go_enter Tryz.func160,Tryz.ntmps160
   go_wp2_with fail
   refine (bJ c0 _).mono ?_
   rintro e w' ⟨rfl,rfl⟩
   rw[HD.out]
   go_wp2_with fail
  ·go_ret
   exact⟨by rw[H.out,HD.out];rfl,rfl⟩
  ·refine (bJ cn _).mono ?_
   rintro e w' ⟨rfl,rfl⟩
   cases ag:Vm.dig cn
   ·have ah:=zh ag
    clear ag
    go_wp2_with fail
    go_ret
    exact⟨by rw[H.out,HD.out,ah.out];rfl,rfl⟩
   ·have ah:=zh ag
    clear ag
    go_wp2_with fail
    have HE:Hid (Vm.partOk l=l.all Vm.ok1):=by
     show Vm.partOk l=l.all Vm.ok1
     rw[H.out,HD.out,ah.out];rfl
    clear ao ap H HD ah
    go_loop [3] (fun i=>∃ k:Nat,k<=l.length/\i=.int .i64 k/\Hid ((l.take k).all Vm.ok1=true)) (fun i=>l.length-(intOf i).toNat)
    case atStart=>exact⟨0,Nat.zero_le _,rfl,rfl⟩
    case round =>
     obtain⟨k,hk,rfl,aa⟩:=hrel
     by_cases ak:k<l.length
     ·obtain⟨c,hc,al⟩:=byte_at l k ak
      have HS:=zh (dR l Vm.ok1 k ak)
      rw[al] at HS
      have HF:Vm.ok1 c=false->l.all Vm.ok1=false:=fun h=>eA l _ k ak (by rw[al];exact h)
      have an:=zh HF
      clear al HF
      go_wp2_with fail
      refine (bJ c _).mono ?_
      rintro e w' ⟨rfl,rfl⟩
      cases ai:Vm.dig c
      ·have aj:=zh ai
       clear ai
       go_wp2_with fail
       refine (j5 c _).mono ?_
       rintro e w' ⟨rfl,rfl⟩
       cases ho:Vm.ltr c
       ·have HO:=zh ho
        clear ho
        by_cases b1:c.toNat=46
        ·have n1:((c.toNat:Int) != 46)=false:=by simp[b1]
         have HB:Hid (Vm.ok1 c=true):=by show _=_;simp[Vm.ok1,Vm.oth,b1]
         clear b1
         go_wp2_with fail
         go_round
         case rel=>exact⟨k+1,by omega,by go_num,by show _=_;rw[HS.out,aa.out,HB.out];rfl⟩
         case measure=>simp[intOf];omega
        ·by_cases b2:c.toNat=43
         ·have n1:((c.toNat:Int) != 46)=true:=by simp;omega
          have n2:((c.toNat:Int) != 43)=false:=by simp[b2]
          have HB:Hid (Vm.ok1 c=true):=by show _=_;simp[Vm.ok1,Vm.oth,b2]
          clear b1 b2
          go_wp2_with fail
          go_round
          case rel=>exact⟨k+1,by omega,by go_num,by show _=_;rw[HS.out,aa.out,HB.out];rfl⟩
          case measure=>simp[intOf];omega
         ·by_cases b3:c.toNat=126
          ·have n1:((c.toNat:Int) != 46)=true:=by simp;omega
           have n2:((c.toNat:Int) != 43)=true:=by simp;omega
           have n3:((c.toNat:Int) != 126)=false:=by simp[b3]
           have HB:Hid (Vm.ok1 c=true):=by show _=_;simp[Vm.ok1,Vm.oth,b3]
           clear b1 b2 b3
           go_wp2_with fail
           go_round
           case rel=>exact⟨k+1,by omega,by go_num,by show _=_;rw[HS.out,aa.out,HB.out];rfl⟩
           case measure=>simp[intOf];omega
          ·have n1:((c.toNat:Int) != 46)=true:=by simp;omega
           have n2:((c.toNat:Int) != 43)=true:=by simp;omega
           have n3:((c.toNat:Int) != 126)=true:=by simp;omega
           have HB:Hid (Vm.ok1 c=false):=by show _=_;simp[Vm.ok1,Vm.oth,b1,b2,b3,aj.out,HO.out]
           clear b1 b2 b3
           go_wp2_with fail
           go_ret
           exact⟨by rw[HE.out,an.out HB.out];rfl,rfl⟩
       ·have HO:=zh ho
        clear ho
        go_wp2_with fail
        go_round
        case rel=>exact⟨k+1,by omega,by go_num,by show _=_;rw[HS.out,aa.out,Vm.ok1,Vm.oth,aj.out,HO.out];rfl⟩
        case measure=>simp[intOf];omega
      ·have aj:=zh ai
       clear ai
       go_wp2_with fail
       go_round
       case rel=>exact⟨k+1,by omega,by go_num,by show _=_;rw[HS.out,aa.out,Vm.ok1,aj.out];rfl⟩
       case measure=>simp[intOf];omega
     ·obtain rfl:k=l.length:=by omega
      have ab:l.all Vm.ok1=true:=by have:=aa.out;rwa [List.take_length] at this
      have HA:=zh ab
      clear aa ab
      go_wp2_with fail
      go_ret
      exact⟨by rw[HE.out,HA.out];rfl,rfl⟩
def bareR:List UInt8->List UInt8
 | []=>[]
 | b :: r=>if r.isEmpty then b :: r else if b==48 then bareR r else b :: r
theorem jo:∀ l:List UInt8,l≠[]->bareR l=Vm.bare l
 | [],h=>absurd rfl h
 | [b],_=>by
  by_cases hb:b=48
  ·subst hb;rfl
  ·have:(b==48)=false:=by simp[hb]
   simp[bareR,Vm.bare,this]
 | b :: c :: r,_=>by
  have ih:=jo (c :: r) (by simp)
  rw[bareR]
  simp only[List.isEmpty_cons,Bool.false_eq_true,if_false]
  by_cases hb:b=48
  ·subst hb
   simp only[beq_self_eq_true,if_true]
   rw[ih];simp[Vm.bare]
  ·have:(b==48)=false:=by simp[hb]
   rw[this];simp[Vm.bare,this]
theorem xD (l:List UInt8)(h:1<l.length):bareR l=if (l[0]'(by omega)).toNat==48 then bareR (l.drop 1) else l:=by
 match l,h with
 | b :: c :: r,_ =>
  rw[bareR]
  have e:(b==48)=(b.toNat==48):=by
   rw[Bool.eq_iff_iff,beq_iff_eq,beq_iff_eq];exact⟨fun h=>by rw[h];rfl,fun h=>UInt8.toNat.inj (by rw[h];rfl)⟩
  simp[e]
theorem vf (l:List UInt8)(h:¬ 1<l.length):bareR l=l:=by
 match l,h with
 | [],_=>rfl
 | [b],_=>rfl
 | b :: c :: r,h=>simp at h
theorem a7 (l:List UInt8)(w:World)(hm:l.length<=1000) :
  Calls Tryz.prog 113 #[.string ⟨l.toArray⟩] w fun e w'=>e=.returned (.string ⟨(bareR l).toArray⟩)/\w=w':=by
 go_enter Tryz.func113,Tryz.ntmps113
 go_wp2_with fail
 go_loop [0] (fun s=>∃ m:List UInt8,m.length<=1000/\s=.string ⟨m.toArray⟩/\Hid (bareR l=bareR m)) (fun s=>strLen s)
 case atStart=>exact⟨l,hm,rfl,rfl⟩
 case round =>
  obtain⟨m,ac,rfl,HE⟩:=hrel
  by_cases h1:1<m.length
  ·obtain⟨c,hc,ab⟩:=byte_at m 0 (by omega)
   have HS:=zh (xD m h1)
   rw[ab] at HS
   clear ab
   by_cases aa:c.toNat=48
   ·have n1:((c.toNat:Int)==48)=true:=by simp[aa]
    have HB:Hid (bareR m=bareR (m.drop 1)):=by show _=_;rw[HS.out];simp[aa]
    clear aa HS
    go_wp2_with fail
    go_round
    case rel=>exact⟨m.drop 1,by simp;omega,by rw[extract_from],by show _=_;rw[HE.out,HB.out]⟩
    case measure=>rw[extract_from];simp[strLen];omega
   ·have n1:((c.toNat:Int)==48)=false:=by simp;omega
    have HB:Hid (bareR m=m):=by show _=_;rw[HS.out];simp[aa]
    clear aa HS
    go_wp2_with fail
    go_ret
    exact⟨by rw[HE.out,HB.out];rfl,rfl⟩
  ·have HB:=zh (vf m h1)
   go_wp2_with fail
   go_ret
   exact⟨by rw[HE.out,HB.out];rfl,rfl⟩
theorem sw (l:List UInt8):l.takeWhile (fun c=>Vm.dig c==true)=Vm.digs l/\l.dropWhile (fun c=>Vm.dig c==true)=Vm.undigs l:=by
 have:(fun c=>Vm.dig c==true)=Vm.dig:=by funext c;cases Vm.dig c <;> rfl
 rw[this];exact⟨rfl,rfl⟩
theorem qe (l:List UInt8):l.takeWhile (fun c=>Vm.dig c==false)=Vm.oths l/\l.dropWhile (fun c=>Vm.dig c==false)=Vm.unoths l:=by
 have:(fun c=>Vm.dig c==false)=fun c => !Vm.dig c:=by funext c;cases Vm.dig c <;> rfl
 rw[this];exact⟨rfl,rfl⟩
theorem wF (l:List UInt8)(b:Bool)(w:World)(hm:l.length<=1000) :
  Calls Tryz.prog 161 #[.string ⟨l.toArray⟩,.bool b] w fun e w'=>e=.returned (.tuple #[.string ⟨(l.takeWhile (fun c=>Vm.dig c==b)).toArray⟩,.string ⟨(l.dropWhile (fun c=>Vm.dig c==b)).toArray⟩])/\Below w.heap.size w w':=by
 have hle:=xB (fun c=>Vm.dig c==b) l
 have HT:=zh (lK (fun c=>Vm.dig c==b) l)
 have HD:=zh (pq (fun c=>Vm.dig c==b) l)
 have HS:=zh (po (fun c=>Vm.dig c==b) l)
 obtain⟨n,hn⟩:=ex ((l.takeWhile (fun c=>Vm.dig c==b)).length)
 have aa:Hid (l.take n=l.takeWhile (fun c=>Vm.dig c==b)):=by have:=HT.out;rwa [hn] at this
 have ab:Hid (l.drop n=l.dropWhile (fun c=>Vm.dig c==b)):=by have:=HD.out;rwa [hn] at this
 have ae:Hid (∀ (k:Nat) (h:k<l.length),k<=n->((Vm.dig l[k]==b)=true↔k+1<=n)):=by have:=HS.out;rwa [hn] at this
 rw[hn] at hle
 clear hn HT HD HS
 go_enter Tryz.func161,Tryz.ntmps161
 go_wp2_with fail
 go_loop [6] (fun i=>∃ k:Nat,k<=n/\i=.int .i64 k) (fun i=>l.length-(intOf i).toNat)
 case atStart=>exact⟨0,Nat.zero_le _,rfl⟩
 case round =>
  obtain⟨k,hk,rfl⟩:=hrel
  by_cases ac:k<l.length
  ·obtain⟨c,hc,ad⟩:=byte_at l k ac
   have HK:=zh (ae.out k ac hk)
   rw[ad] at HK
   clear ad
   cases hd:Vm.dig c==b
   ·have hz:¬ (k+1<=n):=fun h=>by have:=HK.out.2 h;rw[hd] at this;cases this
    obtain rfl:n=k:=by omega
    go_wp2_with fail
    refine (bJ c _).mono ?_
    rintro e w' ⟨rfl,rfl⟩
    go_wp2_with fail
    go_quiet (fail)
    go_wp2_with fail
    go_ret2
    refine⟨?_,below_drewN (Below.refl _ _) _⟩
    show Ending.returned (.tuple #[.string (ByteArray.extract ⟨l.toArray⟩ 0 n),.string (ByteArray.extract ⟨l.toArray⟩ n l.length)])=_
    rw[extract_from,jm,aa.out,ab.out]
   ·have hz:k+1<=n:=HK.out.1 hd
    go_wp2_with fail
    refine (bJ c _).mono ?_
    rintro e w' ⟨rfl,rfl⟩
    go_wp2_with fail
    go_round
    case rel=>exact⟨k+1,hz,by go_num⟩
    case measure=>simp[intOf];omega
  ·obtain rfl:n=l.length:=by omega
   obtain rfl:k=l.length:=by omega
   go_wp2_with fail
   go_quiet (fail)
   go_wp2_with fail
   go_ret2
   refine⟨?_,below_drewN (Below.refl _ _) _⟩
   show Ending.returned (.tuple #[.string (ByteArray.extract ⟨l.toArray⟩ 0 l.length),.string ⟨([]:List UInt8).toArray⟩])=_
   rw[jm,aa.out,<-ab.out,List.drop_length]
end
end Go.Proofs.YtpfkphmldalmmaaGreatDoor

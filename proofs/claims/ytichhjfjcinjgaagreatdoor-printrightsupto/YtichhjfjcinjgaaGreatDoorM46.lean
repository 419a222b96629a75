import Derived.Test.YtichhjfjcinjgaaGreatDoorM08
set_option maxHeartbeats 4000000
set_option maxRecDepth 100000
namespace Go.Proofs.YtichhjfjcinjgaaGreatDoor
open Go.RowKit
attribute [local go_sem ↓] Go.wp_at_zero Go.wp_at_succ
theorem Bd (W:World) (c:Nat) (hc:c<256) :
  Calls Tryz.prog 101 #[.int .u8 (c:Int)] W (wY W (lB c)):=by
 go_enter Tryz.func101,Tryz.ntmps101
 go_wp2
 all_goals (go_ret;refine mS _ ?_;simp[lB];omega)
theorem xf {s:ByteArray}{k:Nat} (h:k+2≤s.size) (a b:UInt8):((s.extract k (k+2)).toList==[a,b])=decide (aC s k=a.toNat∧aC s (k+1)=b.toNat):=by
 rw[ByteArray.toList_eq]
 have:=FZ h a b
 by_cases e:(s.extract k (k+2)).data.toList=[a,b]
 ·rw[decide_eq_true (this.1 e),e];simp
 ·rw[decide_eq_false (fun q=>e (this.2 q))]
  exact beq_eq_false_iff_ne.2 e
theorem AJ {s:ByteArray}{k:Nat} (h:k<s.size):s[k].toNat=aC s k:=by unfold aC;rw[dif_pos h]
theorem DZ (W:World) (s:ByteArray) (hs:s.size≤65536) (a:Nat) (ha:a≤s.size) :
  Calls Tryz.prog 61 #[.string s,.int .i64 (a:Int)] W fun e w=>e=.returned (.tuple #[.int .i64 ((bj s s.size a).1:Int),.bool (bj s s.size a).2])∧w=W:=by
 obtain ⟨R,hR⟩:∃R,bj s s.size a=R:=⟨_,rfl⟩
 have AU:=al hR
 rw[hR]
 clear hR
 go_enter Tryz.func61,Tryz.ntmps61
 go_wp2
 go_loopg [1,6,7] (s.size-a) (fun gk v1 _ _ wr=>∃(k:Nat),v1=.int .i64 (k:Int)∧gk=s.size-k∧k≤s.size∧wr=W∧Hid (bj s s.size k=R))
 case atStart=>exact ⟨a,rfl,rfl,ha,rfl,AU⟩
 case round =>
  clear AU
  obtain ⟨k,rfl,aU,hk,KJ,HR⟩:=hrel
  obtain rfl:W=wr:=KJ.symm
  have bz:=al aU
  clear aU KJ
  by_cases aM:k<s.size
  ·obtain ⟨x,hx⟩:∃x:Nat,s[k].toNat=x:=⟨_,rfl⟩
   have dO:aC s k=x:=(AJ aM).symm.trans hx
   have cZ:x<256:=by rw[←hx];exact s[k].toNat_lt
   have k0:(0:Int)≤(k:Int):=zH _
   have k1:(k:Int)<(s.size:Int):=by omega
   have mL:bj s s.size k=bj s (s.size-k-1+1) k:=eD s _ _ k (by omega) (by omega)
   have nT:=ab HR
   rw[mL,bj,if_pos aM,dO] at nT
   have KW:=Bd W x cZ
   by_cases h2:k+2≤s.size
   ·have e2:decide ((k:Int)+2≤(s.size:Int))=true:=decide_eq_true (by omega)
    have k2:(k:Int)+2≤(s.size:Int):=by omega
    have l2:=yQ h2
    go_wp2_with fail
    refine KW.mono ?_
    rintro e w' ⟨b,rfl,he,ey⟩
    obtain rfl:W=w':=he.symm
    clear he KW
    cases b with
    |true =>
     rw[if_pos (ey.1 rfl)] at nT
     have lG:Hid (bj s s.size (k+1)=R):=(eD s _ _ _ (by omega) (by omega)).trans nT
     go_wp2
     go_roundg (s.size-(k+1))
     case measure=>have:=ab bz;omega
     case rel=>exact ⟨k+1,by go_num,rfl,by omega,rfl,lG⟩
    |false =>
     rw[if_neg (fun q=>by have:=ey.2 q;cases this)] at nT
     have aW:=xf h2 47 47
     have bd:=xf h2 47 42
     obtain ⟨y,hy⟩:∃y,aC s (k+1)=y:=⟨_,rfl⟩
     rw[dO,hy] at aW bd
     rw[hy] at nT
     have Jw:(47:UInt8).toNat=47:=rfl
     have LU:(42:UInt8).toNat=42:=rfl
     rw[Jw] at aW bd
     rw[LU] at bd
     clear Jw LU l2
     by_cases c1:x=47∧y=47
     ·rw[decide_eq_true c1] at aW
      rw[if_pos ⟨h2,c1⟩] at nT
      have VX:=sq aM (dO.trans c1.1)
      have KO:=sr s k hk
      obtain ⟨N,hN⟩:∃N,iw s k=N:=⟨_,rfl⟩
      rw[hN] at nT VX KO
      have HN:=al hN
      have lG:Hid (bj s s.size N=R):=(eD s _ _ _ (by omega) (by omega)).trans nT
      clear nT hN bd ey mL c1
      go_wp2
      go_loopg [1] (s.size-k) (fun gk v1 wq=>∃(m:Nat),v1=.int .i64 (m:Int)∧gk=s.size-m∧k≤m∧m≤s.size∧wq=W∧Hid (iw s m=N))
      case atStart=>exact ⟨k,rfl,rfl,by omega,hk,rfl,HN⟩
      case round =>
       clear HN
       obtain ⟨m,rfl,gF,hkm,et,Q5,HN⟩:=hrel
       obtain rfl:W=wr:=Q5.symm
       have kq:=al gF
       clear gF Q5
       by_cases Ch:m<s.size
       ·obtain ⟨z,hz⟩:∃z:Nat,s[m].toNat=z:=⟨_,rfl⟩
        have Tz:aC s m=z:=(AJ Ch).symm.trans hz
        have m0:(0:Int)≤(m:Int):=zH _
        have m1:(m:Int)<(s.size:Int):=by omega
        have qm:decide ((m:Int)<(s.size:Int))=true:=decide_eq_true m1
        have hN:=ab HN
        by_cases KI:z=10
        ·have qz:((z:Int) != 10)=false:=by rw[KI];rfl
         rw[iw,dif_neg (fun q=>q.2 (Tz.trans KI))] at hN
         subst hN
         clear Tz
         go_wp2
         go_roundg (s.size-m)
         case measure=>have:=ab bz;omega
         case rel=>exact ⟨m,rfl,rfl,et,rfl,lG⟩
        ·have qz:((z:Int) != 10)=true:=by simp;omega
         rw[iw,dif_pos ⟨Ch,by rw[Tz];exact KI⟩] at hN
         have Jl:=al hN
         clear hN Tz KI
         go_wp2
         go_roundg (s.size-(m+1))
         case measure=>have:=ab kq;omega
         case rel=>exact ⟨m+1,by go_num,rfl,by omega,by omega,rfl,Jl⟩
       ·have qm:decide ((m:Int)<(s.size:Int))=false:=decide_eq_false (by omega)
        have hN:=ab HN
        rw[iw,dif_neg (fun q=>Ch q.1)] at hN
        subst hN
        go_wp2
        go_roundg (s.size-m)
        case measure=>have:=ab bz;omega
        case rel=>exact ⟨m,rfl,rfl,et,rfl,lG⟩
     ·rw[decide_eq_false c1] at aW
      rw[if_neg (fun q=>c1 q.2)] at nT
      by_cases c2:x=47∧y=42
      ·rw[decide_eq_true c2] at bd
       rw[if_pos ⟨h2,c2⟩] at nT
       have KT:=gV s (k+2)
       obtain ⟨N,hN⟩:∃N,dt s (k+2)=N:=⟨_,rfl⟩
       rw[hN] at nT KT
       have HN:=al hN
       have T1:=al nT
       clear nT hN ey mL c1 c2
       go_wp2
       go_loopg [7] (s.size-k) (fun gk v7 wq=>∃(m:Nat),v7=.int .i64 (m:Int)∧gk=s.size-m+2∧k+2≤m∧m≤s.size∧wq=W∧Hid (dt s m=N))
       case atStart=>exact ⟨k+2,by go_num,by omega,by omega,h2,rfl,HN⟩
       case round =>
        clear HN
        obtain ⟨m,rfl,gF,hkm,et,Q5,HN⟩:=hrel
        obtain rfl:W=wr:=Q5.symm
        have kq:=al gF
        clear gF Q5
        by_cases Ch:m+2≤s.size
        ·have m0:(0:Int)≤(m:Int):=zH _
         have m1:(m:Int)+2≤(s.size:Int):=by omega
         have qm:decide ((m:Int)+2≤(s.size:Int))=true:=decide_eq_true m1
         have fl:=xf Ch 42 47
         have Jw:(47:UInt8).toNat=47:=rfl
         have LU:(42:UInt8).toNat=42:=rfl
         rw[Jw,LU] at fl
         clear Jw LU
         have hN:=ab HN
         by_cases cs:aC s m=42∧aC s (m+1)=47
         ·rw[decide_eq_true cs] at fl
          have VK:((s.extract m (m+2)).toList != [42,47])=false:=by rw[bne,fl];rfl
          rw[dt,dif_neg (fun q=>q.2 cs)] at hN
          subst hN
          have nT:=ab T1
          rw[if_pos Ch] at nT
          have lG:Hid (bj s s.size (m+2)=R):=(eD s _ _ _ (by omega) (by omega)).trans nT
          have qg:decide ((s.size:Int)<(m:Int)+2)=false:=decide_eq_false (by omega)
          clear nT T1 cs
          go_wp2
          go_roundg (s.size-(m+2))
          case measure=>have:=ab bz;omega
          case rel=>exact ⟨m+2,by go_num,rfl,by omega,rfl,lG⟩
         ·rw[decide_eq_false cs] at fl
          have VK:((s.extract m (m+2)).toList != [42,47])=true:=by rw[bne,fl];rfl
          rw[dt,dif_pos ⟨Ch,cs⟩] at hN
          have Jl:=al hN
          clear hN cs
          go_wp2
          go_roundg (s.size-(m+1)+2)
          case measure=>have:=ab kq;omega
          case rel=>exact ⟨m+1,by go_num,rfl,by omega,by omega,rfl,Jl⟩
        ·have qm:decide ((m:Int)+2≤(s.size:Int))=false:=decide_eq_false (by omega)
         have qg:decide ((s.size:Int)<(m:Int)+2)=true:=decide_eq_true (by omega)
         have hN:=ab HN
         rw[dt,dif_neg (fun q=>Ch q.1)] at hN
         subst hN
         have nT:=ab T1
         rw[if_neg Ch] at nT
         subst nT
         clear T1 HR
         go_wp2
         go_ret2
         exact ⟨rfl,rfl⟩
      ·rw[decide_eq_false c2] at bd
       rw[if_neg (fun q=>c2 q.2)] at nT
       subst nT
       clear HR c1 c2 ey
       go_wp2
       go_ret2
       exact ⟨rfl,rfl⟩
   ·have e2:decide ((k:Int)+2≤(s.size:Int))=false:=decide_eq_false (by omega)
    go_wp2_with fail
    refine KW.mono ?_
    rintro e w' ⟨b,rfl,he,ey⟩
    obtain rfl:W=w':=he.symm
    clear he KW
    cases b with
    |true =>
     rw[if_pos (ey.1 rfl)] at nT
     have lG:Hid (bj s s.size (k+1)=R):=(eD s _ _ _ (by omega) (by omega)).trans nT
     go_wp2
     go_roundg (s.size-(k+1))
     case measure=>have:=ab bz;omega
     case rel=>exact ⟨k+1,by go_num,rfl,by omega,rfl,lG⟩
    |false =>
     rw[if_neg (fun q=>by have:=ey.2 q;cases this),if_neg (fun q=>h2 q.1),if_neg (fun q=>h2 q.1)] at nT
     subst nT
     clear HR ey
     go_wp2
     go_ret2
     exact ⟨rfl,rfl⟩
  ·obtain rfl:k=s.size:=by omega
   have nT:=ab HR
   have mL:bj s s.size s.size=(s.size,true):=by
    cases hz:s.size with
    |zero=>rfl
    |succ n=>rw[bj,if_neg (by omega)]
   rw[mL] at nT
   subst nT
   clear HR
   have qk:decide ((s.size:Int)<(s.size:Int))=false:=decide_eq_false (by omega)
   go_wp2
   go_ret2
   exact ⟨rfl,rfl⟩
theorem vS (W:World) (c:Nat) :
  Calls Tryz.prog 106 #[.int .u8 (c:Int)] W (wY W (jP c)):=by
 have Re:aI (⟨#[123,125,91,93,40,41,60,62,59,44,61,46,45]⟩:ByteArray)=[123,125,91,93,40,41,60,62,59,44,61,46,45]:=rfl
 go_enter Tryz.func106,Tryz.ntmps106
 go_wp2
 go_loopg [4] 13 (fun gk v4 wr=>∃(i:Nat),v4=.int .i64 (i:Int)∧gk=13-i∧i≤13∧wr=W∧Hid (∀x ∈ [123,125,91,93,40,41,60,62,59,44,61,46,45].take i,x≠c))
 case atStart=>exact ⟨0,rfl,rfl,by omega,rfl,fun x hx=>by simp at hx⟩
 case round =>
  obtain ⟨i,rfl,aU,hi,KJ,HA⟩:=hrel
  obtain rfl:W=wr:=KJ.symm
  have bz:=al aU
  clear aU KJ
  by_cases aM:i<13
  ·have kI:i<(⟨#[123,125,91,93,40,41,60,62,59,44,61,46,45]⟩:ByteArray).size:=aM
   obtain ⟨x,hx⟩:∃x:Nat,(⟨#[123,125,91,93,40,41,60,62,59,44,61,46,45]⟩:ByteArray)[i].toNat=x:=⟨_,rfl⟩
   have yx:[123,125,91,93,40,41,60,62,59,44,61,46,45][i]?=some x:=by rw[←Re,mw _ i kI];unfold aC;rw[dif_pos kI,hx]
   have i0:(0:Int)≤(i:Int):=zH _
   have i1:(i:Int)<13:=by omega
   have Hxl:=al yx
   clear yx Re
   by_cases e:x=c
   ·have q:((x:Int)==(c:Int))=true:=by rw[e];simp
    go_wp2
    go_ret
    refine mS true ⟨fun _=>?_,fun _=>rfl⟩
    rw[←e]
    exact List.mem_of_getElem? (ab Hxl)
   ·have q:((x:Int)==(c:Int))=false:=beq_eq_false_iff_ne.2 (by omega)
    have Qj:Hid (∀y ∈ [123,125,91,93,40,41,60,62,59,44,61,46,45].take (i+1),y≠c):=fun y hy=>by
     rw[List.take_add_one,ab Hxl] at hy
     rcases List.mem_append.1 hy with hy|hy
     ·exact ab HA y hy
     ·simp at hy;rw[hy];exact e
    clear e
    go_wp2
    go_roundg (13-(i+1))
    case measure=>have:=ab bz;omega
    case rel=>exact ⟨i+1,by go_num,rfl,by omega,rfl,Qj⟩
  ·obtain rfl:i=13:=by omega
   have hA:=ab HA
   have Hn:Hid (¬jP c):=fun h=>hA c h rfl
   clear hA HA
   go_wp2
   go_ret
   exact mS false ⟨fun h=>(by cases h),fun h=>absurd h (ab Hn)⟩
end Go.Proofs.YtichhjfjcinjgaaGreatDoor

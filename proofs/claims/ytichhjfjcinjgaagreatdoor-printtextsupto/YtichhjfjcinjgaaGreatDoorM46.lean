import Derived.Test.YtichhjfjcinjgaaGreatDoorM08
set_option maxHeartbeats 4000000
set_option maxRecDepth 100000
namespace Go.Proofs.YtichhjfjcinjgaaGreatDoor
open Go.RowKit
attribute [local go_sem ↓] Go.wp_at_zero Go.wp_at_succ
theorem A8 (W:World) (c:Nat) (hc:c<256) :
  Calls Tryz.prog 101 #[.int .u8 (c:Int)] W (wW W (lq c)):=by
 go_enter Tryz.func101,Tryz.ntmps101
 go_wp2
 all_goals (go_ret;refine mQ _ ?_;simp[lq];omega)
theorem xc {s:ByteArray}{k:Nat} (h:k+2≤s.size) (a b:UInt8):((s.extract k (k+2)).toList==[a,b])=decide (aD s k=a.toNat∧aD s (k+1)=b.toNat):=by
 rw[ByteArray.toList_eq]
 have:=FN h a b
 by_cases e:(s.extract k (k+2)).data.toList=[a,b]
 ·rw[decide_eq_true (this.1 e),e];simp
 ·rw[decide_eq_false (fun q=>e (this.2 q))]
  exact beq_eq_false_iff_ne.2 e
theorem AA {s:ByteArray}{k:Nat} (h:k<s.size):s[k].toNat=aD s k:=by unfold aD;rw[dif_pos h]
theorem DP (W:World) (s:ByteArray) (hs:s.size≤65536) (a:Nat) (ha:a≤s.size) :
  Calls Tryz.prog 61 #[.string s,.int .i64 (a:Int)] W fun e w=>e=.returned (.tuple #[.int .i64 ((bj s s.size a).1:Int),.bool (bj s s.size a).2])∧w=W:=by
 obtain ⟨R,hR⟩:∃R,bj s s.size a=R:=⟨_,rfl⟩
 have AM:=al hR
 rw[hR]
 clear hR
 go_enter Tryz.func61,Tryz.ntmps61
 go_wp2
 go_loopg [1,6,7] (s.size-a) (fun gk v1 _ _ wr=>∃(k:Nat),v1=.int .i64 (k:Int)∧gk=s.size-k∧k≤s.size∧wr=W∧Hid (bj s s.size k=R))
 case atStart=>exact ⟨a,rfl,rfl,ha,rfl,AM⟩
 case round =>
  clear AM
  obtain ⟨k,rfl,aU,hk,KA,HR⟩:=hrel
  obtain rfl:W=wr:=KA.symm
  have bz:=al aU
  clear aU KA
  by_cases aM:k<s.size
  ·obtain ⟨x,hx⟩:∃x:Nat,s[k].toNat=x:=⟨_,rfl⟩
   have dL:aD s k=x:=(AA aM).symm.trans hx
   have cY:x<256:=by rw[←hx];exact s[k].toNat_lt
   have k0:(0:Int)≤(k:Int):=zH _
   have k1:(k:Int)<(s.size:Int):=by omega
   have mI:bj s s.size k=bj s (s.size-k-1+1) k:=eA s _ _ k (by omega) (by omega)
   have nQ:=ab HR
   rw[mI,bj,if_pos aM,dL] at nQ
   have KN:=A8 W x cY
   by_cases h2:k+2≤s.size
   ·have e2:decide ((k:Int)+2≤(s.size:Int))=true:=decide_eq_true (by omega)
    have k2:(k:Int)+2≤(s.size:Int):=by omega
    have l2:=yL h2
    go_wp2_with fail
    refine KN.mono ?_
    rintro e w' ⟨b,rfl,he,et⟩
    obtain rfl:W=w':=he.symm
    clear he KN
    cases b with
    |true =>
     rw[if_pos (et.1 rfl)] at nQ
     have lE:Hid (bj s s.size (k+1)=R):=(eA s _ _ _ (by omega) (by omega)).trans nQ
     go_wp2
     go_roundg (s.size-(k+1))
     case measure=>have:=ab bz;omega
     case rel=>exact ⟨k+1,by go_num,rfl,by omega,rfl,lE⟩
    |false =>
     rw[if_neg (fun q=>by have:=et.2 q;cases this)] at nQ
     have aY:=xc h2 47 47
     have bd:=xc h2 47 42
     obtain ⟨y,hy⟩:∃y,aD s (k+1)=y:=⟨_,rfl⟩
     rw[dL,hy] at aY bd
     rw[hy] at nQ
     have Jm:(47:UInt8).toNat=47:=rfl
     have LK:(42:UInt8).toNat=42:=rfl
     rw[Jm] at aY bd
     rw[LK] at bd
     clear Jm LK l2
     by_cases c1:x=47∧y=47
     ·rw[decide_eq_true c1] at aY
      rw[if_pos ⟨h2,c1⟩] at nQ
      have VT:=sk aM (dL.trans c1.1)
      have KF:=sn s k hk
      obtain ⟨N,hN⟩:∃N,il s k=N:=⟨_,rfl⟩
      rw[hN] at nQ VT KF
      have HN:=al hN
      have lE:Hid (bj s s.size N=R):=(eA s _ _ _ (by omega) (by omega)).trans nQ
      clear nQ hN bd et mI c1
      go_wp2
      go_loopg [1] (s.size-k) (fun gk v1 wq=>∃(m:Nat),v1=.int .i64 (m:Int)∧gk=s.size-m∧k≤m∧m≤s.size∧wq=W∧Hid (il s m=N))
      case atStart=>exact ⟨k,rfl,rfl,by omega,hk,rfl,HN⟩
      case round =>
       clear HN
       obtain ⟨m,rfl,gD,hkm,ej,QR,HN⟩:=hrel
       obtain rfl:W=wr:=QR.symm
       have ki:=al gD
       clear gD QR
       by_cases B9:m<s.size
       ·obtain ⟨z,hz⟩:∃z:Nat,s[m].toNat=z:=⟨_,rfl⟩
        have Tq:aD s m=z:=(AA B9).symm.trans hz
        have m0:(0:Int)≤(m:Int):=zH _
        have m1:(m:Int)<(s.size:Int):=by omega
        have qm:decide ((m:Int)<(s.size:Int))=true:=decide_eq_true m1
        have hN:=ab HN
        by_cases Kz:z=10
        ·have qz:((z:Int) != 10)=false:=by rw[Kz];rfl
         rw[il,dif_neg (fun q=>q.2 (Tq.trans Kz))] at hN
         subst hN
         clear Tq
         go_wp2
         go_roundg (s.size-m)
         case measure=>have:=ab bz;omega
         case rel=>exact ⟨m,rfl,rfl,ej,rfl,lE⟩
        ·have qz:((z:Int) != 10)=true:=by simp;omega
         rw[il,dif_pos ⟨B9,by rw[Tq];exact Kz⟩] at hN
         have I8:=al hN
         clear hN Tq Kz
         go_wp2
         go_roundg (s.size-(m+1))
         case measure=>have:=ab ki;omega
         case rel=>exact ⟨m+1,by go_num,rfl,by omega,by omega,rfl,I8⟩
       ·have qm:decide ((m:Int)<(s.size:Int))=false:=decide_eq_false (by omega)
        have hN:=ab HN
        rw[il,dif_neg (fun q=>B9 q.1)] at hN
        subst hN
        go_wp2
        go_roundg (s.size-m)
        case measure=>have:=ab bz;omega
        case rel=>exact ⟨m,rfl,rfl,ej,rfl,lE⟩
     ·rw[decide_eq_false c1] at aY
      rw[if_neg (fun q=>c1 q.2)] at nQ
      by_cases c2:x=47∧y=42
      ·rw[decide_eq_true c2] at bd
       rw[if_pos ⟨h2,c2⟩] at nQ
       have KK:=gT s (k+2)
       obtain ⟨N,hN⟩:∃N,dq s (k+2)=N:=⟨_,rfl⟩
       rw[hN] at nQ KK
       have HN:=al hN
       have TV:=al nQ
       clear nQ hN et mI c1 c2
       go_wp2
       go_loopg [7] (s.size-k) (fun gk v7 wq=>∃(m:Nat),v7=.int .i64 (m:Int)∧gk=s.size-m+2∧k+2≤m∧m≤s.size∧wq=W∧Hid (dq s m=N))
       case atStart=>exact ⟨k+2,by go_num,by omega,by omega,h2,rfl,HN⟩
       case round =>
        clear HN
        obtain ⟨m,rfl,gD,hkm,ej,QR,HN⟩:=hrel
        obtain rfl:W=wr:=QR.symm
        have ki:=al gD
        clear gD QR
        by_cases B9:m+2≤s.size
        ·have m0:(0:Int)≤(m:Int):=zH _
         have m1:(m:Int)+2≤(s.size:Int):=by omega
         have qm:decide ((m:Int)+2≤(s.size:Int))=true:=decide_eq_true m1
         have ff:=xc B9 42 47
         have Jm:(47:UInt8).toNat=47:=rfl
         have LK:(42:UInt8).toNat=42:=rfl
         rw[Jm,LK] at ff
         clear Jm LK
         have hN:=ab HN
         by_cases cs:aD s m=42∧aD s (m+1)=47
         ·rw[decide_eq_true cs] at ff
          have VG:((s.extract m (m+2)).toList != [42,47])=false:=by rw[bne,ff];rfl
          rw[dq,dif_neg (fun q=>q.2 cs)] at hN
          subst hN
          have nQ:=ab TV
          rw[if_pos B9] at nQ
          have lE:Hid (bj s s.size (m+2)=R):=(eA s _ _ _ (by omega) (by omega)).trans nQ
          have qg:decide ((s.size:Int)<(m:Int)+2)=false:=decide_eq_false (by omega)
          clear nQ TV cs
          go_wp2
          go_roundg (s.size-(m+2))
          case measure=>have:=ab bz;omega
          case rel=>exact ⟨m+2,by go_num,rfl,by omega,rfl,lE⟩
         ·rw[decide_eq_false cs] at ff
          have VG:((s.extract m (m+2)).toList != [42,47])=true:=by rw[bne,ff];rfl
          rw[dq,dif_pos ⟨B9,cs⟩] at hN
          have I8:=al hN
          clear hN cs
          go_wp2
          go_roundg (s.size-(m+1)+2)
          case measure=>have:=ab ki;omega
          case rel=>exact ⟨m+1,by go_num,rfl,by omega,by omega,rfl,I8⟩
        ·have qm:decide ((m:Int)+2≤(s.size:Int))=false:=decide_eq_false (by omega)
         have qg:decide ((s.size:Int)<(m:Int)+2)=true:=decide_eq_true (by omega)
         have hN:=ab HN
         rw[dq,dif_neg (fun q=>B9 q.1)] at hN
         subst hN
         have nQ:=ab TV
         rw[if_neg B9] at nQ
         subst nQ
         clear TV HR
         go_wp2
         go_ret2
         exact ⟨rfl,rfl⟩
      ·rw[decide_eq_false c2] at bd
       rw[if_neg (fun q=>c2 q.2)] at nQ
       subst nQ
       clear HR c1 c2 et
       go_wp2
       go_ret2
       exact ⟨rfl,rfl⟩
   ·have e2:decide ((k:Int)+2≤(s.size:Int))=false:=decide_eq_false (by omega)
    go_wp2_with fail
    refine KN.mono ?_
    rintro e w' ⟨b,rfl,he,et⟩
    obtain rfl:W=w':=he.symm
    clear he KN
    cases b with
    |true =>
     rw[if_pos (et.1 rfl)] at nQ
     have lE:Hid (bj s s.size (k+1)=R):=(eA s _ _ _ (by omega) (by omega)).trans nQ
     go_wp2
     go_roundg (s.size-(k+1))
     case measure=>have:=ab bz;omega
     case rel=>exact ⟨k+1,by go_num,rfl,by omega,rfl,lE⟩
    |false =>
     rw[if_neg (fun q=>by have:=et.2 q;cases this),if_neg (fun q=>h2 q.1),if_neg (fun q=>h2 q.1)] at nQ
     subst nQ
     clear HR et
     go_wp2
     go_ret2
     exact ⟨rfl,rfl⟩
  ·obtain rfl:k=s.size:=by omega
   have nQ:=ab HR
   have mI:bj s s.size s.size=(s.size,true):=by
    cases hz:s.size with
    |zero=>rfl
    |succ n=>rw[bj,if_neg (by omega)]
   rw[mI] at nQ
   subst nQ
   clear HR
   have qk:decide ((s.size:Int)<(s.size:Int))=false:=decide_eq_false (by omega)
   go_wp2
   go_ret2
   exact ⟨rfl,rfl⟩
theorem vL (W:World) (c:Nat) :
  Calls Tryz.prog 106 #[.int .u8 (c:Int)] W (wW W (jL c)):=by
 have Q4:aI (⟨#[123,125,91,93,40,41,60,62,59,44,61,46,45]⟩:ByteArray)=[123,125,91,93,40,41,60,62,59,44,61,46,45]:=rfl
 go_enter Tryz.func106,Tryz.ntmps106
 go_wp2
 go_loopg [4] 13 (fun gk v4 wr=>∃(i:Nat),v4=.int .i64 (i:Int)∧gk=13-i∧i≤13∧wr=W∧Hid (∀x ∈ [123,125,91,93,40,41,60,62,59,44,61,46,45].take i,x≠c))
 case atStart=>exact ⟨0,rfl,rfl,by omega,rfl,fun x hx=>by simp at hx⟩
 case round =>
  obtain ⟨i,rfl,aU,hi,KA,HA⟩:=hrel
  obtain rfl:W=wr:=KA.symm
  have bz:=al aU
  clear aU KA
  by_cases aM:i<13
  ·have lz:i<(⟨#[123,125,91,93,40,41,60,62,59,44,61,46,45]⟩:ByteArray).size:=aM
   obtain ⟨x,hx⟩:∃x:Nat,(⟨#[123,125,91,93,40,41,60,62,59,44,61,46,45]⟩:ByteArray)[i].toNat=x:=⟨_,rfl⟩
   have yt:[123,125,91,93,40,41,60,62,59,44,61,46,45][i]?=some x:=by rw[←Q4,mu _ i lz];unfold aD;rw[dif_pos lz,hx]
   have i0:(0:Int)≤(i:Int):=zH _
   have i1:(i:Int)<13:=by omega
   have Z5:=al yt
   clear yt Q4
   by_cases e:x=c
   ·have q:((x:Int)==(c:Int))=true:=by rw[e];simp
    go_wp2
    go_ret
    refine mQ true ⟨fun _=>?_,fun _=>rfl⟩
    rw[←e]
    exact List.mem_of_getElem? (ab Z5)
   ·have q:((x:Int)==(c:Int))=false:=beq_eq_false_iff_ne.2 (by omega)
    have P9:Hid (∀y ∈ [123,125,91,93,40,41,60,62,59,44,61,46,45].take (i+1),y≠c):=fun y hy=>by
     rw[List.take_add_one,ab Z5] at hy
     rcases List.mem_append.1 hy with hy|hy
     ·exact ab HA y hy
     ·simp at hy;rw[hy];exact e
    clear e
    go_wp2
    go_roundg (13-(i+1))
    case measure=>have:=ab bz;omega
    case rel=>exact ⟨i+1,by go_num,rfl,by omega,rfl,P9⟩
  ·obtain rfl:i=13:=by omega
   have hA:=ab HA
   have Hn:Hid (¬jL c):=fun h=>hA c h rfl
   clear hA HA
   go_wp2
   go_ret
   exact mQ false ⟨fun h=>(by cases h),fun h=>absurd h (ab Hn)⟩
end Go.Proofs.YtichhjfjcinjgaaGreatDoor

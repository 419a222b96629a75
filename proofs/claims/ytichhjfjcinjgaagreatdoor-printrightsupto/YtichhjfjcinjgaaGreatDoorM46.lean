import Derived.Test.YtichhjfjcinjgaaGreatDoorM08
set_option maxHeartbeats 4000000
set_option maxRecDepth 100000
namespace Go.Proofs.YtichhjfjcinjgaaGreatDoor
open Go.RowKit
attribute [local go_sem ↓] Go.wp_at_zero Go.wp_at_succ
theorem BD (W:World) (c:Nat) (hc:c<256) :
  Calls Tryz.prog 101 #[.int .u8 (c:Int)] W (xD W (lS c)):=by
 go_enter Tryz.func101,Tryz.ntmps101
 go_wp2
 all_goals (go_ret;refine nw _ ?_;simp[lS];omega)
theorem xK {s:ByteArray}{k:Nat} (h:k+2≤s.size) (a b:UInt8):((s.extract k (k+2)).toList==[a,b])=decide (aD s k=a.toNat∧aD s (k+1)=b.toNat):=by
 rw[ByteArray.toList_eq]
 have:=Gv h a b
 by_cases e:(s.extract k (k+2)).data.toList=[a,b]
 ·rw[decide_eq_true (this.1 e),e];simp
 ·rw[decide_eq_false (fun q=>e (this.2 q))]
  exact beq_eq_false_iff_ne.2 e
theorem A8 {s:ByteArray}{k:Nat} (h:k<s.size):s[k].toNat=aD s k:=by unfold aD;rw[dif_pos h]
theorem Eu (W:World) (s:ByteArray) (hs:s.size≤65536) (a:Nat) (ha:a≤s.size) :
  Calls Tryz.prog 61 #[.string s,.int .i64 (a:Int)] W fun e w=>e=.returned (.tuple #[.int .i64 ((bj s s.size a).1:Int),.bool (bj s s.size a).2])∧w=W:=by
 obtain ⟨R,hR⟩:∃R,bj s s.size a=R:=⟨_,rfl⟩
 have Bj:=al hR
 rw[hR]
 clear hR
 go_enter Tryz.func61,Tryz.ntmps61
 go_wp2
 go_loopg [1,6,7] (s.size-a) (fun gk v1 _ _ wr=>∃(k:Nat),v1=.int .i64 (k:Int)∧gk=s.size-k∧k≤s.size∧wr=W∧Hid (bj s s.size k=R))
 case atStart=>exact ⟨a,rfl,rfl,ha,rfl,Bj⟩
 case round =>
  clear Bj
  obtain ⟨k,rfl,aW,hk,Lg,HR⟩:=hrel
  obtain rfl:W=wr:=Lg.symm
  have bz:=al aW
  clear aW Lg
  by_cases aM:k<s.size
  ·obtain ⟨x,hx⟩:∃x:Nat,s[k].toNat=x:=⟨_,rfl⟩
   have dP:aD s k=x:=(A8 aM).symm.trans hx
   have c8:x<256:=by rw[←hx];exact s[k].toNat_lt
   have k0:(0:Int)≤(k:Int):=zH _
   have k1:(k:Int)<(s.size:Int):=by omega
   have nk:bj s s.size k=bj s (s.size-k-1+1) k:=eG s _ _ k (by omega) (by omega)
   have oB:=ab HR
   rw[nk,bj,if_pos aM,dP] at oB
   have Lt:=BD W x c8
   by_cases h2:k+2≤s.size
   ·have e2:decide ((k:Int)+2≤(s.size:Int))=true:=decide_eq_true (by omega)
    have k2:(k:Int)+2≤(s.size:Int):=by omega
    have l2:=zR h2
    go_wp2_with fail
    refine Lt.mono ?_
    rintro e w' ⟨b,rfl,he,eA⟩
    obtain rfl:W=w':=he.symm
    clear he Lt
    cases b with
    |true =>
     rw[if_pos (eA.1 rfl)] at oB
     have lX:Hid (bj s s.size (k+1)=R):=(eG s _ _ _ (by omega) (by omega)).trans oB
     go_wp2
     go_roundg (s.size-(k+1))
     case measure=>have:=ab bz;omega
     case rel=>exact ⟨k+1,by go_num,rfl,by omega,rfl,lX⟩
    |false =>
     rw[if_neg (fun q=>by have:=eA.2 q;cases this)] at oB
     have aX:=xK h2 47 47
     have bd:=xK h2 47 42
     obtain ⟨y,hy⟩:∃y,aD s (k+1)=y:=⟨_,rfl⟩
     rw[dP,hy] at aX bd
     rw[hy] at oB
     have J4:(47:UInt8).toNat=47:=rfl
     have Mo:(42:UInt8).toNat=42:=rfl
     rw[J4] at aX bd
     rw[Mo] at bd
     clear J4 Mo l2
     by_cases c1:x=47∧y=47
     ·rw[decide_eq_true c1] at aX
      rw[if_pos ⟨h2,c1⟩] at oB
      have Wu:=sO aM (dP.trans c1.1)
      have Ll:=sP s k hk
      obtain ⟨N,hN⟩:∃N,iF s k=N:=⟨_,rfl⟩
      rw[hN] at oB Wu Ll
      have HN:=al hN
      have lX:Hid (bj s s.size N=R):=(eG s _ _ _ (by omega) (by omega)).trans oB
      clear oB hN bd eA nk c1
      go_wp2
      go_loopg [1] (s.size-k) (fun gk v1 wq=>∃(m:Nat),v1=.int .i64 (m:Int)∧gk=s.size-m∧k≤m∧m≤s.size∧wq=W∧Hid (iF s m=N))
      case atStart=>exact ⟨k,rfl,rfl,by omega,hk,rfl,HN⟩
      case round =>
       clear HN
       obtain ⟨m,rfl,gL,hkm,eo,Ru,HN⟩:=hrel
       obtain rfl:W=wr:=Ru.symm
       have kH:=al gL
       clear gL Ru
       by_cases CF:m<s.size
       ·obtain ⟨z,hz⟩:∃z:Nat,s[m].toNat=z:=⟨_,rfl⟩
        have TY:aD s m=z:=(A8 CF).symm.trans hz
        have m0:(0:Int)≤(m:Int):=zH _
        have m1:(m:Int)<(s.size:Int):=by omega
        have qm:decide ((m:Int)<(s.size:Int))=true:=decide_eq_true m1
        have hN:=ab HN
        by_cases Lf:z=10
        ·have qz:((z:Int) != 10)=false:=by rw[Lf];rfl
         rw[iF,dif_neg (fun q=>q.2 (TY.trans Lf))] at hN
         subst hN
         clear TY
         go_wp2
         go_roundg (s.size-m)
         case measure=>have:=ab bz;omega
         case rel=>exact ⟨m,rfl,rfl,eo,rfl,lX⟩
        ·have qz:((z:Int) != 10)=true:=by simp;omega
         rw[iF,dif_pos ⟨CF,by rw[TY];exact Lf⟩] at hN
         have JU:=al hN
         clear hN TY Lf
         go_wp2
         go_roundg (s.size-(m+1))
         case measure=>have:=ab kH;omega
         case rel=>exact ⟨m+1,by go_num,rfl,by omega,by omega,rfl,JU⟩
       ·have qm:decide ((m:Int)<(s.size:Int))=false:=decide_eq_false (by omega)
        have hN:=ab HN
        rw[iF,dif_neg (fun q=>CF q.1)] at hN
        subst hN
        go_wp2
        go_roundg (s.size-m)
        case measure=>have:=ab bz;omega
        case rel=>exact ⟨m,rfl,rfl,eo,rfl,lX⟩
     ·rw[decide_eq_false c1] at aX
      rw[if_neg (fun q=>c1 q.2)] at oB
      by_cases c2:x=47∧y=42
      ·rw[decide_eq_true c2] at bd
       rw[if_pos ⟨h2,c2⟩] at oB
       have Lq:=hZ s (k+2)
       obtain ⟨N,hN⟩:∃N,dv s (k+2)=N:=⟨_,rfl⟩
       rw[hN] at oB Lq
       have HN:=al hN
       have Ur:=al oB
       clear oB hN eA nk c1 c2
       go_wp2
       go_loopg [7] (s.size-k) (fun gk v7 wq=>∃(m:Nat),v7=.int .i64 (m:Int)∧gk=s.size-m+2∧k+2≤m∧m≤s.size∧wq=W∧Hid (dv s m=N))
       case atStart=>exact ⟨k+2,by go_num,by omega,by omega,h2,rfl,HN⟩
       case round =>
        clear HN
        obtain ⟨m,rfl,gL,hkm,eo,Ru,HN⟩:=hrel
        obtain rfl:W=wr:=Ru.symm
        have kH:=al gL
        clear gL Ru
        by_cases CF:m+2≤s.size
        ·have m0:(0:Int)≤(m:Int):=zH _
         have m1:(m:Int)+2≤(s.size:Int):=by omega
         have qm:decide ((m:Int)+2≤(s.size:Int))=true:=decide_eq_true m1
         have fv:=xK CF 42 47
         have J4:(47:UInt8).toNat=47:=rfl
         have Mo:(42:UInt8).toNat=42:=rfl
         rw[J4,Mo] at fv
         clear J4 Mo
         have hN:=ab HN
         by_cases cs:aD s m=42∧aD s (m+1)=47
         ·rw[decide_eq_true cs] at fv
          have Wg:((s.extract m (m+2)).toList != [42,47])=false:=by rw[bne,fv];rfl
          rw[dv,dif_neg (fun q=>q.2 cs)] at hN
          subst hN
          have oB:=ab Ur
          rw[if_pos CF] at oB
          have lX:Hid (bj s s.size (m+2)=R):=(eG s _ _ _ (by omega) (by omega)).trans oB
          have qg:decide ((s.size:Int)<(m:Int)+2)=false:=decide_eq_false (by omega)
          clear oB Ur cs
          go_wp2
          go_roundg (s.size-(m+2))
          case measure=>have:=ab bz;omega
          case rel=>exact ⟨m+2,by go_num,rfl,by omega,rfl,lX⟩
         ·rw[decide_eq_false cs] at fv
          have Wg:((s.extract m (m+2)).toList != [42,47])=true:=by rw[bne,fv];rfl
          rw[dv,dif_pos ⟨CF,cs⟩] at hN
          have JU:=al hN
          clear hN cs
          go_wp2
          go_roundg (s.size-(m+1)+2)
          case measure=>have:=ab kH;omega
          case rel=>exact ⟨m+1,by go_num,rfl,by omega,by omega,rfl,JU⟩
        ·have qm:decide ((m:Int)+2≤(s.size:Int))=false:=decide_eq_false (by omega)
         have qg:decide ((s.size:Int)<(m:Int)+2)=true:=decide_eq_true (by omega)
         have hN:=ab HN
         rw[dv,dif_neg (fun q=>CF q.1)] at hN
         subst hN
         have oB:=ab Ur
         rw[if_neg CF] at oB
         subst oB
         clear Ur HR
         go_wp2
         go_ret2
         exact ⟨rfl,rfl⟩
      ·rw[decide_eq_false c2] at bd
       rw[if_neg (fun q=>c2 q.2)] at oB
       subst oB
       clear HR c1 c2 eA
       go_wp2
       go_ret2
       exact ⟨rfl,rfl⟩
   ·have e2:decide ((k:Int)+2≤(s.size:Int))=false:=decide_eq_false (by omega)
    go_wp2_with fail
    refine Lt.mono ?_
    rintro e w' ⟨b,rfl,he,eA⟩
    obtain rfl:W=w':=he.symm
    clear he Lt
    cases b with
    |true =>
     rw[if_pos (eA.1 rfl)] at oB
     have lX:Hid (bj s s.size (k+1)=R):=(eG s _ _ _ (by omega) (by omega)).trans oB
     go_wp2
     go_roundg (s.size-(k+1))
     case measure=>have:=ab bz;omega
     case rel=>exact ⟨k+1,by go_num,rfl,by omega,rfl,lX⟩
    |false =>
     rw[if_neg (fun q=>by have:=eA.2 q;cases this),if_neg (fun q=>h2 q.1),if_neg (fun q=>h2 q.1)] at oB
     subst oB
     clear HR eA
     go_wp2
     go_ret2
     exact ⟨rfl,rfl⟩
  ·obtain rfl:k=s.size:=by omega
   have oB:=ab HR
   have nk:bj s s.size s.size=(s.size,true):=by
    cases hz:s.size with
    |zero=>rfl
    |succ n=>rw[bj,if_neg (by omega)]
   rw[nk] at oB
   subst oB
   clear HR
   have qk:decide ((s.size:Int)<(s.size:Int))=false:=decide_eq_false (by omega)
   go_wp2
   go_ret2
   exact ⟨rfl,rfl⟩
theorem wI (W:World) (c:Nat) :
  Calls Tryz.prog 106 #[.int .u8 (c:Int)] W (xD W (j5 c)):=by
 have RF:aI (⟨#[123,125,91,93,40,41,60,62,59,44,61,46,45]⟩:ByteArray)=[123,125,91,93,40,41,60,62,59,44,61,46,45]:=rfl
 go_enter Tryz.func106,Tryz.ntmps106
 go_wp2
 go_loopg [4] 13 (fun gk v4 wr=>∃(i:Nat),v4=.int .i64 (i:Int)∧gk=13-i∧i≤13∧wr=W∧Hid (∀x ∈ [123,125,91,93,40,41,60,62,59,44,61,46,45].take i,x≠c))
 case atStart=>exact ⟨0,rfl,rfl,by omega,rfl,fun x hx=>by simp at hx⟩
 case round =>
  obtain ⟨i,rfl,aW,hi,Lg,HA⟩:=hrel
  obtain rfl:W=wr:=Lg.symm
  have bz:=al aW
  clear aW Lg
  by_cases aM:i<13
  ·have kI:i<(⟨#[123,125,91,93,40,41,60,62,59,44,61,46,45]⟩:ByteArray).size:=aM
   obtain ⟨x,hx⟩:∃x:Nat,(⟨#[123,125,91,93,40,41,60,62,59,44,61,46,45]⟩:ByteArray)[i].toNat=x:=⟨_,rfl⟩
   have y7:[123,125,91,93,40,41,60,62,59,44,61,46,45][i]?=some x:=by rw[←RF,mM _ i kI];unfold aD;rw[dif_pos kI,hx]
   have i0:(0:Int)≤(i:Int):=zH _
   have i1:(i:Int)<13:=by omega
   have Hxl:=al y7
   clear y7 RF
   by_cases e:x=c
   ·have q:((x:Int)==(c:Int))=true:=by rw[e];simp
    go_wp2
    go_ret
    refine nw true ⟨fun _=>?_,fun _=>rfl⟩
    rw[←e]
    exact List.mem_of_getElem? (ab Hxl)
   ·have q:((x:Int)==(c:Int))=false:=beq_eq_false_iff_ne.2 (by omega)
    have QH:Hid (∀y ∈ [123,125,91,93,40,41,60,62,59,44,61,46,45].take (i+1),y≠c):=fun y hy=>by
     rw[List.take_add_one,ab Hxl] at hy
     rcases List.mem_append.1 hy with hy|hy
     ·exact ab HA y hy
     ·simp at hy;rw[hy];exact e
    clear e
    go_wp2
    go_roundg (13-(i+1))
    case measure=>have:=ab bz;omega
    case rel=>exact ⟨i+1,by go_num,rfl,by omega,rfl,QH⟩
  ·obtain rfl:i=13:=by omega
   have hA:=ab HA
   have Hn:Hid (¬j5 c):=fun h=>hA c h rfl
   clear hA HA
   go_wp2
   go_ret
   exact nw false ⟨fun h=>(by cases h),fun h=>absurd h (ab Hn)⟩
end Go.Proofs.YtichhjfjcinjgaaGreatDoor

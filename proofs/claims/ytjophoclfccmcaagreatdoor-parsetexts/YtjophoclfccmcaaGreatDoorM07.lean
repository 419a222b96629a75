import Derived.Test.YtjophoclfccmcaaGreatDoorM06
import Derived.Shelf.Pu.Clone
set_option maxHeartbeats 4000000
set_option maxRecDepth 100000
namespace Go.Proofs
open Go.Shelf
def Tryz.BS:Go.Shelf.Ren:=⟨fun|25=>48|n=>n,fun|9=>9|3=>3|4=>4|37=>94|0=>0|47=>125|5=>5|n=>n,fun|n=>n⟩
theorem Tryz.Nz:Go.Proofs.LaysPu.n25 Tryz.prog Tryz.BS:={
 mixed:=by kernel_rfl
 f25:=Tryz.func48.trans (congrArg some (by kernel_rfl))
 t0:=Tryz.underlying0
 a0:=Tryz.isAgg0
 z0:=Tryz.sizeOf0
 v0:=Tryz.zeroValue0
 i0:=by kernel_rfl
 t3:=Tryz.underlying3
 a3:=Tryz.isAgg3
 z3:=Tryz.sizeOf3
 v3:=Tryz.zeroValue3
 i3:=by kernel_rfl
 t4:=Tryz.underlying4
 a4:=Tryz.isAgg4
 z4:=Tryz.sizeOf4
 v4:=Tryz.zeroValue4
 i4:=by kernel_rfl
 t5:=Tryz.underlying5
 a5:=Tryz.isAgg5
 z5:=Tryz.sizeOf5
 v5:=Tryz.zeroValue5
 i5:=by kernel_rfl
 t9:=Tryz.underlying9
 a9:=Tryz.isAgg9
 z9:=Tryz.sizeOf9
 v9:=Tryz.zeroValue9
 i9:=by kernel_rfl
 t37:=Tryz.underlying94
 a37:=Tryz.isAgg94
 z37:=Tryz.sizeOf94
 v37:=Tryz.zeroValue94
 i37:=by kernel_rfl
 t47:=Tryz.underlying125
 a47:=Tryz.isAgg125
 z47:=Tryz.sizeOf125
 v47:=Tryz.zeroValue125
 i47:=by kernel_rfl }
end Go.Proofs
namespace Go.Proofs.YtjophoclfccmcaaGreatDoor
open Go.RowKit
attribute [local go_sem ↓] Go.wp_at_zero Go.wp_at_succ
theorem GG (W:World) (s:ByteArray) (h:s.size≤281474976710656):Calls Tryz.prog 48 #[.string s] W fun e w=>e=.returned (.string s)∧Below W.heap.size W w:=AnyPu.stringslite_Clone Tryz.Nz s W h
theorem Bc (W:World) (s:ByteArray) (h:s.size≤281474976710656):Calls Tryz.prog 25 #[.string s] W fun e w=>e=.returned (.string s)∧Below W.heap.size W w:=by
 go_enter Tryz.func25,Tryz.ntmps25
 go_wp2_with fail
 refine (GG W s h).mono ?_
 rintro e w ⟨rfl,hb⟩
 have Hb:=ab hb
 clear hb
 go_wp2
 go_ret
 exact ⟨rfl,aa Hb⟩
def zu (n0:Nat) (w:World) (e:Ending):List Tok ⊕ (Nat×Nat)→Prop
 |.inl ts=>∃v,e=.returned (.tuple #[v,.int .i64 0,.int .i64 0])∧w.ownsRow n0 38 3 v ts.length (eH ts)
 |.inr (k,c)=>c≠0∧e=.returned (.tuple #[.slice none 0 0,.int .i64 (k:Int),.int .i64 (c:Int)])
def SG (s:ByteArray) (W:World) (e:Ending) (w:World):Prop:=Below W.heap.size W w∧zu W.heap.size w e (kO s)
theorem AE {s:ByteArray} (h:65536<s.size):kO s=.inr (0,2):=by unfold kO;rw[if_pos h]
theorem De {s:ByteArray} (h:¬65536<s.size) (h2:0≤cG s 0):kO s=.inr ((cG s 0).toNat,44):=by unfold kO;rw[if_neg h,if_pos h2]
theorem H9 {s:ByteArray} (h:¬65536<s.size) (h2:¬0≤cG s 0):kO s=tk s 0 0:=by unfold kO;rw[if_neg h,if_neg h2]
theorem Ft {W:World} (hF:nD W) (hE:gW W) (hM:oJ W) (s:ByteArray):Calls Tryz.prog 15 #[.string s] W (SG s W):=by
 have eC:=zE W.heap.size W
 by_cases h0:65536<s.size
 ·have Hr:=ab (AE h0)
  have e0:=Rp (a:=s.size) (k:=65536) (by omega)
  clear h0
  go_enter Tryz.func15,Tryz.ntmps15
  go_wp2
  go_ret3
  exact ⟨eC,by rw[aa Hr];exact ⟨by decide,rfl⟩⟩
 ·have e0:=Rq (a:=s.size) (k:=65536) (by omega)
  have hs:s.size≤65536:=by omega
  have H0:=ab h0
  clear h0
  go_enter Tryz.func15,Tryz.ntmps15
  go_wp2_with fail
  refine (Db hF s (by omega)).mono ?_
  rintro e w1 ⟨rfl,bK⟩
  have kl:=ab bK
  clear bK eC
  by_cases h1:0≤cG s 0
  ·have Hr:=ab (De (aa H0) h1)
   obtain ⟨u,hu⟩:∃u:Nat,cG s 0=(u:Int):=⟨(cG s 0).toNat,by omega⟩
   rw[hu] at Hr ⊢
   have e1:decide (0≤(u:Int))=true:=by simp
   clear hu h1
   go_wp2
   go_ret3
   exact ⟨aa kl,by rw[aa Hr];exact ⟨by decide,rfl⟩⟩
  ·have Hr:=ab (H9 (aa H0) h1)
   obtain ⟨u,hu⟩:∃u,u=cG s 0:=⟨_,rfl⟩
   rw[←hu] at h1 ⊢
   have e1:decide (0≤u)=false:=by simp;omega
   have HE:=ab hE
   have HM:=ab hM
   clear hu h1 hE hM
   go_wp2_with fail
   refine (Bc w1 s (by omega)).mono ?_
   rintro e w2 ⟨rfl,bo⟩
   have qA:Hid (Below W.heap.size W w2):=(aa kl).trans (bo.mono (aa kl).size)
   clear bo
   go_wp2_with fail
   have hr:=QL (W0:=W) (W:=w2.alloc (.cells #[.string s,.int .i64 0,.slice none 0 0] 62)) (b:=w2.heap.size) (s:=s) (aa HE) (aa HM) ((aa qA).alloc (aa qA).size _) (aa qA).size (aF w2 _) hs
   have ET:=ab (zJ w2 (.cells #[.string s,.int .i64 0,.slice none 0 0] 62))
   have HB0:Hid (Below W.heap.size W (w2.alloc (.cells #[.string s,.int .i64 0,.slice none 0 0] 62))):=(aa qA).alloc (aa qA).size _
   have hle:=(aa qA).size
   have hb:∃b,w2.heap.size=b:=⟨_,rfl⟩
   obtain ⟨b,hb⟩:=hb
   rw[hb] at hr ET hle ⊢
   generalize w2.alloc (.cells #[.string s,.int .i64 0,.slice none 0 0] 62)=V at *
   clear hb qA
   refine hr.mono ?_
   rintro e w3 ⟨hx,hq⟩
   have ZV:Below W.heap.size W w3:=(aa HB0).trans (hx.below hle (aa HB0).size)
   have Ui:=ab ZV
   have hVs:V.heap.size=b+1:=aa ET
   cases ht:tk s 0 0 with
   |inl ts =>
    rw[ht] at hq
    obtain ⟨rfl,k,v',h1,h2⟩:=hq
    have c2:=h1.c2
    have cP:Hid (zu W.heap.size w3 (.returned (.tuple #[v',.int .i64 0,.int .i64 0])) (kO s)):=by
     show zu _ _ _ _
     rw[aa Hr,ht]
     exact ⟨v',rfl,Ip h2 (by omega)⟩
    obtain ⟨va,vc,rfl⟩:=qR h2
    clear h1 h2 hx ZV ht Hr hr
    go_wp2
    go_ret3
    exact ⟨aa Ui,aa cP⟩
   |inr p =>
    obtain ⟨k,c⟩:=p
    rw[ht] at hq
    obtain ⟨hc,rfl,v',h1⟩:=hq
    have c1:=h1.c1
    have cP:Hid (zu W.heap.size w3 (.returned (.tuple #[.slice none 0 0,.int .i64 (k:Int),.int .i64 (c:Int)])) (kO s)):=by
     show zu _ _ _ _
     rw[aa Hr,ht]
     exact ⟨hc,rfl⟩
    have q9:((c:Int) != 0)=true:=by simp;omega
    clear h1 hx ZV ht Hr hr hc
    go_wp2
    go_quiet (fail)
    go_wp2
    go_ret3
    exact ⟨below_drewN (aa Ui) _,aa cP⟩
def Bj (W:World) (p:Prop) (e:Ending) (w:World):Prop:=∃b:Bool,e=.returned (.bool b)∧w=W∧(b=true↔p)
theorem pA {W:World}{p:Prop} (b:Bool) (h:b=true↔p):Bj W p (.returned (.bool b)) W:=⟨b,rfl,rfl,h⟩
theorem jC (W:World) (c:Nat) (hc:c<256) :
  Calls Tryz.prog 45 #[.int .u8 (c:Int)] W (Bj W (isLet c)):=by
 go_enter Tryz.func45,Tryz.ntmps45
 go_wp2
 all_goals (go_ret;refine pA _ ?_;simp[isLet];omega)
theorem mN (W:World) (c:Nat) (hc:c<256) :
  Calls Tryz.prog 46 #[.int .u8 (c:Int),.int .u8 10] W (Bj W (dJ c)):=by
 go_enter Tryz.func46,Tryz.ntmps46
 go_wp2
 all_goals (go_ret;refine pA _ ?_;simp[dJ];omega)
theorem Fk (W:World) (c:Nat) (hc:c<256) :
  Calls Tryz.prog 51 #[.int .u8 (c:Int)] W (Bj W (nw c)):=by
 go_enter Tryz.func51,Tryz.ntmps51
 go_wp2
 all_goals (go_ret;refine pA _ ?_;simp[nw];omega)
theorem Bt {s:ByteArray}{k:Nat} (h:k+2≤s.size) (a b:UInt8):((s.extract k (k+2)).toList==[a,b])=decide (az s k=a.toNat∧az s (k+1)=b.toNat):=by
 rw[ByteArray.toList_eq]
 have:=L0 h a b
 by_cases e:(s.extract k (k+2)).data.toList=[a,b]
 ·rw[decide_eq_true (this.1 e),e];simp
 ·rw[decide_eq_false (fun q=>e (this.2 q))]
  exact beq_eq_false_iff_ne.2 e
theorem EC {s:ByteArray}{k:Nat} (h:k<s.size):s[k].toNat=az s k:=by unfold az;rw[dif_pos h]
theorem JC (W:World) (s:ByteArray) (hs:s.size≤65536) (a:Nat) (ha:a≤s.size) :
  Calls Tryz.prog 28 #[.string s,.int .i64 (a:Int)] W fun e w=>e=.returned (.tuple #[.int .i64 ((bw s s.size a).1:Int),.bool (bw s s.size a).2])∧w=W:=by
 obtain ⟨R,hR⟩:∃R,bw s s.size a=R:=⟨_,rfl⟩
 have zy:=ab hR
 rw[hR]
 clear hR
 go_enter Tryz.func28,Tryz.ntmps28
 go_wp2
 go_loopg [1,6,7] (s.size-a) (fun gk v1 _ _ wr=>∃(k:Nat),v1=.int .i64 (k:Int)∧gk=s.size-k∧k≤s.size∧wr=W∧Hid (bw s s.size k=R))
 case atStart=>exact ⟨a,rfl,rfl,ha,rfl,zy⟩
 case round =>
  clear zy
  obtain ⟨k,rfl,dY,hk,rl,HR⟩:=hrel
  obtain rfl:W=wr:=rl.symm
  have gF:=ab dY
  clear dY rl
  by_cases dr:k<s.size
  ·obtain ⟨x,hx⟩:∃x:Nat,s[k].toNat=x:=⟨_,rfl⟩
   have lq:az s k=x:=(EC dr).symm.trans hx
   have ew:x<256:=by rw[←hx];exact s[k].toNat_lt
   have k0:(0:Int)≤(k:Int):=zH _
   have k1:(k:Int)<(s.size:Int):=by omega
   have ID:bw s s.size k=bw s (s.size-k-1+1) k:=fw s _ _ k (by omega) (by omega)
   have qH:=aa HR
   rw[ID,bw,if_pos dr,lq] at qH
   have RU:=Fk W x ew
   by_cases h2:k+2≤s.size
   ·have e2:decide ((k:Int)+2≤(s.size:Int))=true:=decide_eq_true (by omega)
    have k2:(k:Int)+2≤(s.size:Int):=by omega
    have l2:=Dc h2
    go_wp2_with fail
    refine RU.mono ?_
    rintro e w' ⟨b,rfl,he,eQ⟩
    obtain rfl:W=w':=he.symm
    clear he RU
    cases b with
    |true =>
     rw[if_pos (eQ.1 rfl)] at qH
     have qB:Hid (bw s s.size (k+1)=R):=(fw s _ _ _ (by omega) (by omega)).trans qH
     go_wp2
     go_roundg (s.size-(k+1))
     case measure=>have:=aa gF;omega
     case rel=>exact ⟨k+1,by go_num,rfl,by omega,rfl,qB⟩
    |false =>
     rw[if_neg (fun q=>by have:=eQ.2 q;cases this)] at qH
     have bK:=Bt h2 47 47
     have bo:=Bt h2 47 42
     obtain ⟨y,hy⟩:∃y,az s (k+1)=y:=⟨_,rfl⟩
     rw[lq,hy] at bK bo
     rw[hy] at qH
     have PY:(47:UInt8).toNat=47:=rfl
     have Te:(42:UInt8).toNat=42:=rfl
     rw[PY] at bK bo
     rw[Te] at bo
     clear PY Te l2
     by_cases c1:x=47∧y=47
     ·rw[decide_eq_true c1] at bK
      rw[if_pos ⟨h2,c1⟩] at qH
      have IE:=xj dr (lq.trans c1.1)
      have abp:=xk s k hk
      obtain ⟨N,hN⟩:∃N,jI s k=N:=⟨_,rfl⟩
      rw[hN] at qH IE abp
      have HN:=ab hN
      have qB:Hid (bw s s.size N=R):=(fw s _ _ _ (by omega) (by omega)).trans qH
      clear qH hN bo eQ ID c1
      go_wp2
      go_loopg [1] (s.size-k) (fun gk v1 wq=>∃(m:Nat),v1=.int .i64 (m:Int)∧gk=s.size-m∧k≤m∧m≤s.size∧wq=W∧Hid (jI s m=N))
      case atStart=>exact ⟨k,rfl,rfl,by omega,hk,rfl,HN⟩
      case round =>
       clear HN
       obtain ⟨m,rfl,mC,hkm,rT,YO,HN⟩:=hrel
       obtain rfl:W=wr:=YO.symm
       have sZ:=ab mC
       clear mC YO
       by_cases D3:m<s.size
       ·obtain ⟨z,hz⟩:∃z:Nat,s[m].toNat=z:=⟨_,rfl⟩
        have hbz:az s m=z:=(EC D3).symm.trans hz
        have m0:(0:Int)≤(m:Int):=zH _
        have m1:(m:Int)<(s.size:Int):=by omega
        have qm:decide ((m:Int)<(s.size:Int))=true:=decide_eq_true m1
        have hN:=aa HN
        by_cases Rx:z=10
        ·have qz:((z:Int) != 10)=false:=by rw[Rx];rfl
         rw[jI,dif_neg (fun q=>q.2 (hbz.trans Rx))] at hN
         subst hN
         clear hbz
         go_wp2
         go_roundg (s.size-m)
         case measure=>have:=aa gF;omega
         case rel=>exact ⟨m,rfl,rfl,rT,rfl,qB⟩
        ·have qz:((z:Int) != 10)=true:=by simp;omega
         rw[jI,dif_pos ⟨D3,by rw[hbz];exact Rx⟩] at hN
         have Qk:=ab hN
         clear hN hbz Rx
         go_wp2
         go_roundg (s.size-(m+1))
         case measure=>have:=aa sZ;omega
         case rel=>exact ⟨m+1,by go_num,rfl,by omega,by omega,rfl,Qk⟩
       ·have qm:decide ((m:Int)<(s.size:Int))=false:=decide_eq_false (by omega)
        have hN:=aa HN
        rw[jI,dif_neg (fun q=>D3 q.1)] at hN
        subst hN
        go_wp2
        go_roundg (s.size-m)
        case measure=>have:=aa gF;omega
        case rel=>exact ⟨m,rfl,rfl,rT,rfl,qB⟩
     ·rw[decide_eq_false c1] at bK
      rw[if_neg (fun q=>c1 q.2)] at qH
      by_cases c2:x=47∧y=42
      ·rw[decide_eq_true c2] at bo
       rw[if_pos ⟨h2,c2⟩] at qH
       have RP:=jn s (k+2)
       obtain ⟨N,hN⟩:∃N,dW s (k+2)=N:=⟨_,rfl⟩
       rw[hN] at qH RP
       have HN:=ab hN
       have HRk:=ab qH
       clear qH hN eQ ID c1 c2
       go_wp2
       go_loopg [7] (s.size-k) (fun gk v7 wq=>∃(m:Nat),v7=.int .i64 (m:Int)∧gk=s.size-m+2∧k+2≤m∧m≤s.size∧wq=W∧Hid (dW s m=N))
       case atStart=>exact ⟨k+2,by go_num,by omega,by omega,h2,rfl,HN⟩
       case round =>
        clear HN
        obtain ⟨m,rfl,mC,hkm,rT,YO,HN⟩:=hrel
        obtain rfl:W=wr:=YO.symm
        have sZ:=ab mC
        clear mC YO
        by_cases D3:m+2≤s.size
        ·have m0:(0:Int)≤(m:Int):=zH _
         have m1:(m:Int)+2≤(s.size:Int):=by omega
         have qm:decide ((m:Int)+2≤(s.size:Int))=true:=decide_eq_true m1
         have sJ:=Bt D3 42 47
         have PY:(47:UInt8).toNat=47:=rfl
         have Te:(42:UInt8).toNat=42:=rfl
         rw[PY,Te] at sJ
         clear PY Te
         have hN:=aa HN
         by_cases cs:az s m=42∧az s (m+1)=47
         ·rw[decide_eq_true cs] at sJ
          have abm:((s.extract m (m+2)).toList != [42,47])=false:=by rw[bne,sJ];rfl
          rw[dW,dif_neg (fun q=>q.2 cs)] at hN
          subst hN
          have qH:=aa HRk
          rw[if_pos D3] at qH
          have qB:Hid (bw s s.size (m+2)=R):=(fw s _ _ _ (by omega) (by omega)).trans qH
          have qg:decide ((s.size:Int)<(m:Int)+2)=false:=decide_eq_false (by omega)
          clear qH HRk cs
          go_wp2
          go_roundg (s.size-(m+2))
          case measure=>have:=aa gF;omega
          case rel=>exact ⟨m+2,by go_num,rfl,by omega,rfl,qB⟩
         ·rw[decide_eq_false cs] at sJ
          have abm:((s.extract m (m+2)).toList != [42,47])=true:=by rw[bne,sJ];rfl
          rw[dW,dif_pos ⟨D3,cs⟩] at hN
          have Qk:=ab hN
          clear hN cs
          go_wp2
          go_roundg (s.size-(m+1)+2)
          case measure=>have:=aa sZ;omega
          case rel=>exact ⟨m+1,by go_num,rfl,by omega,by omega,rfl,Qk⟩
        ·have qm:decide ((m:Int)+2≤(s.size:Int))=false:=decide_eq_false (by omega)
         have qg:decide ((s.size:Int)<(m:Int)+2)=true:=decide_eq_true (by omega)
         have hN:=aa HN
         rw[dW,dif_neg (fun q=>D3 q.1)] at hN
         subst hN
         have qH:=aa HRk
         rw[if_neg D3] at qH
         subst qH
         clear HRk HR
         go_wp2
         go_ret2
         exact ⟨rfl,rfl⟩
      ·rw[decide_eq_false c2] at bo
       rw[if_neg (fun q=>c2 q.2)] at qH
       subst qH
       clear HR c1 c2 eQ
       go_wp2
       go_ret2
       exact ⟨rfl,rfl⟩
   ·have e2:decide ((k:Int)+2≤(s.size:Int))=false:=decide_eq_false (by omega)
    go_wp2_with fail
    refine RU.mono ?_
    rintro e w' ⟨b,rfl,he,eQ⟩
    obtain rfl:W=w':=he.symm
    clear he RU
    cases b with
    |true =>
     rw[if_pos (eQ.1 rfl)] at qH
     have qB:Hid (bw s s.size (k+1)=R):=(fw s _ _ _ (by omega) (by omega)).trans qH
     go_wp2
     go_roundg (s.size-(k+1))
     case measure=>have:=aa gF;omega
     case rel=>exact ⟨k+1,by go_num,rfl,by omega,rfl,qB⟩
    |false =>
     rw[if_neg (fun q=>by have:=eQ.2 q;cases this),if_neg (fun q=>h2 q.1),if_neg (fun q=>h2 q.1)] at qH
     subst qH
     clear HR eQ
     go_wp2
     go_ret2
     exact ⟨rfl,rfl⟩
  ·obtain rfl:k=s.size:=by omega
   have qH:=aa HR
   have ID:bw s s.size s.size=(s.size,true):=by
    cases hz:s.size with
    |zero=>rfl
    |succ n=>rw[bw,if_neg (by omega)]
   rw[ID] at qH
   subst qH
   clear HR
   have qk:decide ((s.size:Int)<(s.size:Int))=false:=decide_eq_false (by omega)
   go_wp2
   go_ret2
   exact ⟨rfl,rfl⟩
theorem Ay (W:World) (c:Nat) :
  Calls Tryz.prog 54 #[.int .u8 (c:Int)] W (Bj W (kW c)):=by
 have Y0:aG (⟨#[123,125,91,93,40,41,60,62,59,44,61,46,45]⟩:ByteArray)=[123,125,91,93,40,41,60,62,59,44,61,46,45]:=rfl
 go_enter Tryz.func54,Tryz.ntmps54
 go_wp2
 go_loopg [4] 13 (fun gk v4 wr=>∃(i:Nat),v4=.int .i64 (i:Int)∧gk=13-i∧i≤13∧wr=W∧Hid (∀x ∈ [123,125,91,93,40,41,60,62,59,44,61,46,45].take i,x≠c))
 case atStart=>exact ⟨0,rfl,rfl,by omega,rfl,fun x hx=>by simp at hx⟩
 case round =>
  obtain ⟨i,rfl,dY,hi,rl,HA⟩:=hrel
  obtain rfl:W=wr:=rl.symm
  have gF:=ab dY
  clear dY rl
  by_cases dr:i<13
  ·have cl:i<(⟨#[123,125,91,93,40,41,60,62,59,44,61,46,45]⟩:ByteArray).size:=dr
   obtain ⟨x,hx⟩:∃x:Nat,(⟨#[123,125,91,93,40,41,60,62,59,44,61,46,45]⟩:ByteArray)[i].toNat=x:=⟨_,rfl⟩
   have Tl:[123,125,91,93,40,41,60,62,59,44,61,46,45][i]?=some x:=by rw[←Y0,oN _ i cl];unfold az;rw[dif_pos cl,hx]
   have i0:(0:Int)≤(i:Int):=zH _
   have i1:(i:Int)<13:=by omega
   have Hxl:=ab Tl
   clear Tl Y0
   by_cases e:x=c
   ·have q:((x:Int)==(c:Int))=true:=by rw[e];simp
    go_wp2
    go_ret
    refine pA true ⟨fun _=>?_,fun _=>rfl⟩
    rw[←e]
    exact List.mem_of_getElem? (aa Hxl)
   ·have q:((x:Int)==(c:Int))=false:=beq_eq_false_iff_ne.2 (by omega)
    have CU:Hid (∀y ∈ [123,125,91,93,40,41,60,62,59,44,61,46,45].take (i+1),y≠c):=fun y hy=>by
     rw[List.take_add_one,aa Hxl] at hy
     rcases List.mem_append.1 hy with hy|hy
     ·exact aa HA y hy
     ·simp at hy;rw[hy];exact e
    clear e
    go_wp2
    go_roundg (13-(i+1))
    case measure=>have:=aa gF;omega
    case rel=>exact ⟨i+1,by go_num,rfl,by omega,rfl,CU⟩
  ·obtain rfl:i=13:=by omega
   have hA:=aa HA
   have Hn:Hid (¬kW c):=fun h=>hA c h rfl
   clear hA HA
   go_wp2
   go_ret
   exact pA false ⟨fun h=>(by cases h),fun h=>absurd h (aa Hn)⟩
end Go.Proofs.YtjophoclfccmcaaGreatDoor

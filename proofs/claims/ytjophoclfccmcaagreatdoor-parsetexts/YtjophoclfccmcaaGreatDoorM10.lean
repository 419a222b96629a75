import Derived.Test.YtjophoclfccmcaaGreatDoorM07
import Derived.Test.YtjophoclfccmcaaGreatDoorQX2
import Derived.Shelf.Vars
import Derived.Test.YtjophoclfccmcaaGreatDoorRows
import Derived.ProofKit
import Derived.OpenShut
import Derived.ShutString
import Derived.SizedLaws
import Derived.SliceStrings
import Derived.ArgAppend
import Derived.Deep.DeepAppendRoom
set_option maxHeartbeats 4000000
set_option maxRecDepth 100000
namespace Go.Proofs.YtjophoclfccmcaaGreatDoor
open Go.RowKit Go.Lib
attribute [local go_sem ↓] Go.wp_at_zero Go.wp_at_succ
theorem BF {s:ByteArray}{k x:Nat} (hb:az s k=x) (h0:¬x=0) (h1:¬x=10) (h2:¬x=92):dH s k=some (x,1):=by
 unfold dH
 rw[hb,if_neg (fun o=>o.elim h0 h1),if_neg h2]
theorem DE {s:ByteArray}{k x:Nat} (hb:az s k=x) (h:x=0∨x=10):dH s k=none:=by
 unfold dH
 rw[hb,if_pos h]
theorem DD {s:ByteArray}{k:Nat} (hb:az s k=92):dH s k=dZ ((aG s).drop k):=by
 unfold dH
 rw[hb,if_neg (by decide),if_pos rfl]
theorem Bytes.drew {base:Nat}{W:World}{v:Value}{l:List Nat} (h:Bytes base W v l) (n:Nat):Bytes base (W.drewN n) v l:=h
theorem nJ (W:World) (s:ByteArray) (CN:Nat) (ha:CN<s.size) (hs:s.size≤65536):Calls Tryz.prog 53 #[.string s,.int .i64 (CN:Int)] W (UQ W (eY s (az s CN) (CN+1))):=by
 obtain ⟨i0,hi,tZ,tY,jg⟩:=info_parts Tryz.infoByte
 have eC:=zE W.heap.size W
 obtain ⟨q,hq,lF,gq⟩:=cS s CN ha
 have P9:az s CN=q:=(eF s CN ha).trans gq
 rw[P9]
 have a0:(0:Int)≤(CN:Int):=zH _
 have a1:(CN:Int)<(s.size:Int):=by omega
 have Hy0:Hid (Bytes W.heap.size W (.slice none 0 0) []):=Bg _ _
 clear hq P9
 go_enter Tryz.func53,Tryz.ntmps53
 go_wp2
 go_loopg [7,8,9,10,11] (s.size-(CN+1)) (fun gk v7 v8 _ _ _ wr=>∃(k:Nat) (pre:List Nat) (va:Option Addr) (vn vc:Nat),v7=.slice va vn vc∧v8=.int .i64 (k:Int)∧gk=s.size-k∧k≤s.size∧pre.length≤k∧Hid (Bytes W.heap.size wr (.slice va vn vc) pre)∧Hid (eY s q (CN+1)=(eY s q k).map fun r=>(pre++r.1,r.2))∧Hid (Below W.heap.size W wr))
 case atStart=>exact ⟨CN+1,[],_,_,_,rfl,by go_num,rfl,by omega,by simp,Hy0,by show _=_;simp,eC⟩
 case round =>
  obtain ⟨k,pre,va,vn,vc,rfl,rfl,dY,hk,Vk,HY,Hu,HB⟩:=hrel
  have gF:=ab dY
  clear dY Hy0 gq
  by_cases dr:k<s.size
  ·obtain ⟨x,hx⟩:∃x:Nat,s[k].toNat=x:=⟨_,rfl⟩
   have lq:az s k=x:=(eF s k dr).trans hx
   have ew:x<256:=by rw[←lq];exact fJ s k
   have k0:(0:Int)≤(k:Int):=zH _
   have k1:(k:Int)<(s.size:Int):=by omega
   have Bk:=ab lq
   have sI:W.heap.size≤wr.heap.size:=(aa HB).size
   have O1:Hid (pre.length+1≤maxLen):=by show _≤_;unfold maxLen;omega
   have O2:Hid ((pre.length+1)*1≤140737488355328):=by show _≤_;omega
   clear lq
   by_cases yL:x=q
   ·have Hr:Hid (eY s q (CN+1)=some (pre,k+1)):=by
     show _=_
     rw[aa Hu,nM dr ((aa Bk).trans yL)]
     simp
    have fq:((x:Int) != (q:Int))=false:=by simp;omega
    have kn:decide (s.size≤k)=false:=by simp;omega
    clear Hu yL
    go_wp2
    go_ret2
    exact LY (n:=k+1) (aa HB) (aa Hr) (aa HY)
   ·have fq:((x:Int) != (q:Int))=true:=by simp;omega
    have eb:¬az s k=q:=by rw[aa Bk];exact yL
    by_cases c0:x=0∨x=10
    ·have Hr:Hid (eY s q (CN+1)=none):=by
      show _=_
      rw[aa Hu,se dr eb (DE (aa Bk) c0)]
      rfl
     clear Hu yL eb
     rcases c0 with c0|c0
     ·have f0:=ni (c:=x) (k:=0) (by omega)
      clear c0
      go_wp2
      go_ret2
      exact tg (aa HB) (aa Hr)
     ·have f0:=kJ (c:=x) (k:=0) (by omega)
      have f1:=ni (c:=x) (k:=10) (by omega)
      clear c0
      go_wp2
      go_ret2
      exact tg (aa HB) (aa Hr)
    ·obtain ⟨c0,c1⟩:=not_or.1 c0
     have f0:=kJ (c:=x) (k:=0) (by omega)
     have f1:=kJ (c:=x) (k:=10) (by omega)
     by_cases c2:x=92
     ·have f2:((x:Int) != 92)=false:=by simp;omega
      have hpe:=DD ((aa Bk).trans c2)
      have Hpe:=ab hpe
      have TU:=ab eb
      clear hpe eb yL c0 c1 c2
      go_wp2_with fail
      refine (C7 wr s k dr hs).mono ?_
      rintro e w2 ⟨bo,⟨ho,rfl⟩|⟨b,n,ho,rfl⟩⟩
      ·have Hr:Hid (eY s q (CN+1)=none):=by
        show _=_
        rw[aa Hu,se dr (aa TU) ((aa Hpe).trans ho)]
        rfl
       have iJ:Hid (Below W.heap.size W w2):=(aa HB).trans (bo.mono (aa HB).size)
       clear ho bo Hu
       go_wp2
       go_ret2
       exact tg (aa iJ) (aa Hr)
      ·obtain ⟨p1,p2,p3⟩:=jH ((aa Hpe).trans ho) dr
       have Hr:Hid (eY s q (CN+1)=(eY s q (k+n)).map fun r=>((pre++[b])++r.1,r.2)):=by
        show _=_
        rw[aa Hu,oM dr (aa TU) ((aa Hpe).trans ho),Option.map_map]
        congr 1
        funext r
        simp
       have iJ:Hid (Below W.heap.size W w2):=(aa HB).trans (bo.mono (aa HB).size)
       have HY2:Hid (Bytes W.heap.size w2 (.slice va vn vc) pre):=(aa HY).up bo
       have F7:W.heap.size≤w2.heap.size:=(aa iJ).size
       have n0:((n:Int)==0)=false:=by simp;omega
       clear ho bo Hu HY HB
       go_wp2_with (at_builtin;refine wpList_append_own_at _ rfl _ _ 94 rfl W.heap.size 5 i0 (.int .u8 0) 1 1 Tryz.underlying94 hi tZ tY jg rfl (by decide) _ _ _ rfl ((aa HY2).alloc _) ⟨w2.heap.size,0,none⟩ 1 1 [.int .u8 (b:Int)] rfl rfl (cN _ _ _) (by simp[Value.oneCell']) (aa O1) (aa O2) (by rw[zJ];omega) ?_;intro v4 w4 eX dE _ jP;have HP:Hid (SJ W.heap.size w2 (.slice va vn vc) pre [b] (.returned v4) w4):=yj (ys:=[b]) eX rfl rfl dE jP;clear eX dE jP)
       obtain ⟨v5,nA,B4,D6⟩:=aa HP
       obtain rfl:v4=v5:=by simpa using nA
       obtain ⟨va',vn',vc',rfl⟩:=B4.shape
       have Ui:Hid (Below W.heap.size W w4):=(aa iJ).trans (D6.below F7 (aa HY2).Cz)
       have HY3:=ab B4
       clear B4 D6 nA HP
       go_roundg (s.size-(k+n))
       case measure=>have:=aa gF;omega
       case rel=>exact ⟨k+n,pre++[b],_,_,_,rfl,by go_num,rfl,by omega,by simp only[zK,List.length_singleton];omega,HY3,Hr,Ui⟩
     ·have f2:((x:Int) != 92)=true:=by simp;omega
      have Hr:Hid (eY s q (CN+1)=(eY s q (k+1)).map fun r=>((pre++[x])++r.1,r.2)):=by
       show _=_
       rw[aa Hu,oM dr eb (BF (aa Bk) c0 c1 c2),Option.map_map]
       congr 1
       funext r
       simp
      clear Hu yL eb c0 c1 c2
      go_wp2_with (at_builtin;refine wpList_append_own_at _ rfl _ _ 94 rfl W.heap.size 5 i0 (.int .u8 0) 1 1 Tryz.underlying94 hi tZ tY jg rfl (by decide) _ _ _ rfl ((aa HY).alloc _) ⟨wr.heap.size,0,none⟩ 1 1 [.int .u8 (x:Int)] rfl rfl (cN _ _ _) (by simp[Value.oneCell']) (aa O1) (aa O2) (by rw[zJ];omega) ?_;intro v4 w4 eX dE _ jP;have HP:Hid (SJ W.heap.size wr (.slice va vn vc) pre [x] (.returned v4) w4):=yj (ys:=[x]) eX rfl rfl dE jP;clear eX dE jP)
      obtain ⟨v5,nA,B4,D6⟩:=aa HP
      obtain rfl:v4=v5:=by simpa using nA
      obtain ⟨va',vn',vc',rfl⟩:=B4.shape
      have Ui:Hid (Below W.heap.size W w4):=(aa HB).trans (D6.below sI (aa HY).Cz)
      have HY3:=ab B4
      clear B4 D6 nA HP
      go_roundg (s.size-(k+1))
      case measure=>have:=aa gF;omega
      case rel=>exact ⟨k+1,pre++[x],_,_,_,rfl,by go_num,rfl,by omega,by simp only[zK,List.length_singleton];omega,HY3,Hr,Ui⟩
  ·have Hr:Hid (eY s q (CN+1)=none):=by
    show _=_
    rw[aa Hu,nN dr]
    rfl
   obtain rfl:k=s.size:=by omega
   clear Hu
   go_wp2
   go_ret2
   exact tg (aa HB) (aa Hr)
theorem Ax (W:World) (s:ByteArray) (hs:s.size≤140737488351232) :
  Calls Tryz.prog 27 #[.string s] W fun e w=>e=.returned (.int .i64 (cG s 0))∧w=W:=by
 go_enter Tryz.func27,Tryz.ntmps27
 go_wp2
 go_loopg [3,4] s.size (fun gk v3 _ wr=>∃(k:Nat),v3=.int .i64 (k:Int)∧gk=s.size-k∧k≤s.size∧wr=W∧Hid (cG s 0=cG s k))
 case atStart=>exact ⟨0,rfl,rfl,by omega,rfl,rfl⟩
 case round =>
  obtain ⟨k,rfl,dY,hk,rfl,Hu⟩:=hrel
  have gF:=ab dY
  clear dY
  by_cases dr:k<s.size
  ·go_wp2_with fail
   refine (Gu wr s k dr hs).mono ?_
   rintro e w2 ⟨rfl,he⟩
   obtain rfl:wr=w2:=he.symm
   obtain ⟨q1,q2⟩:=Jh s k hk
   by_cases h0:iF s k=0
   ·have Hr:Hid (cG s 0=(k:Int)):=(aa Hu).trans (He dr h0)
    rw[h0]
    clear h0 q1 q2
    go_wp2
    go_ret
    exact ⟨by rw[aa Hr];rfl,rfl⟩
   ·have Hr:Hid (cG s 0=cG s (k+iF s k)):=(aa Hu).trans (Da dr h0)
    obtain ⟨n,hn⟩:∃n,n=iF s k:=⟨_,rfl⟩
    rw[←hn] at h0 q1 q2 Hr ⊢
    have n0:((n:Int)==0)=false:=by simp;omega
    clear hn
    go_wp2
    go_roundg (s.size-(k+n))
    case measure=>have:=aa gF;omega
    case rel=>exact ⟨k+n,by go_num,rfl,by omega,rfl,Hr⟩
  ·have Hr:Hid (cG s 0=-1):=(aa Hu).trans (G9 dr)
   obtain rfl:k=s.size:=by omega
   go_wp2
   go_ret
   exact ⟨by rw[aa Hr];rfl,rfl⟩
end Go.Proofs.YtjophoclfccmcaaGreatDoor
namespace Go.Proofs.YtjophoclfccmcaaGreatDoor
open Go.RowKit
attribute [local go_sem ↓] Go.wp_at_zero Go.wp_at_succ
theorem tM {s:ByteArray}{k:Nat} (hk:k<s.size) (h:isLet (az s k)∨dJ (az s k)):cX s k=cX s (k+1):=by rw[cX,dif_pos ⟨hk,h⟩]
theorem El {s:ByteArray}{k:Nat} (h:¬(isLet (az s k)∨dJ (az s k))):cX s k=k:=by rw[cX,dif_neg (fun q=>h q.2)]
theorem Gx {s:ByteArray}{k:Nat} (h:¬k<s.size):cX s k=k:=by rw[cX,dif_neg (fun q=>h q.1)]
theorem LS (W:World) (s:ByteArray) (a:Nat) (ha:a<s.size) (hs:s.size≤65536) :
  Calls Tryz.prog 29 #[.string s,.int .i64 (a:Int)] W fun e w=>e=.returned (.tuple #[.int .i64 ((cI s a).1:Int),.int .i64 ((cI s a).2.1:Int),.int .i64 ((cI s a).2.2:Int)])∧Below W.heap.size W w:=by
 obtain ⟨x0,hg⟩:∃x:Nat,s[a].toNat=x:=⟨_,rfl⟩
 have lq:az s a=x0:=(eF s a ha).trans hg
 have PZ:x0<256:=by rw[←lq];exact fJ s a
 have a0:(0:Int)≤(a:Int):=zH _
 have a1:(a:Int)<(s.size:Int):=by omega
 have oP:=zE W.heap.size W
 have Qe:=ab lq
 clear lq
 go_enter Tryz.func29,Tryz.ntmps29
 go_wp2
 go_loopg [8] (s.size-a) (fun gk v8 wr=>∃(m:Nat),v8=.int .i64 (m:Int)∧gk=s.size-m∧a≤m∧m≤s.size∧wr=W∧Hid (cX s a=cX s m))
 case atStart=>exact ⟨a,rfl,rfl,zD _,by omega,rfl,rfl⟩
 case round =>
  obtain ⟨m,rfl,dY,ham,rT,rl,HN⟩:=hrel
  obtain rfl:W=wr:=rl.symm
  have gF:=ab dY
  clear dY rl
  by_cases D3:m<s.size
  ·obtain ⟨x,hx⟩:∃x:Nat,s[m].toNat=x:=⟨_,rfl⟩
   have lq:az s m=x:=(eF s m D3).trans hx
   have ew:x<256:=by rw[←lq];exact fJ s m
   have k0:(0:Int)≤(m:Int):=zH _
   have k1:(m:Int)<(s.size:Int):=by omega
   have Bk:=ab lq
   clear lq
   go_wp2_with fail
   refine (jC W x ew).mono ?_
   rintro e w' ⟨b,rfl,he,eQ⟩
   obtain rfl:W=w':=he.symm
   clear he
   cases b with
   |true =>
    have Qk:Hid (cX s a=cX s (m+1)):=(aa HN).trans (tM D3 (.inl (by rw[aa Bk];exact eQ.1 rfl)))
    clear eQ HN
    go_wp2
    go_roundg (s.size-(m+1))
    case measure=>have:=aa gF;omega
    case rel=>exact ⟨m+1,by go_num,rfl,by omega,by omega,rfl,Qk⟩
   |false =>
    have n1:¬isLet x:=fun q=>by have:=eQ.2 q;cases this
    have M1:=ab n1
    clear eQ n1
    go_wp2_with fail
    refine (mN W x ew).mono ?_
    rintro e w' ⟨b,rfl,he,eQ⟩
    obtain rfl:W=w':=he.symm
    clear he
    cases b with
    |true =>
     have Qk:Hid (cX s a=cX s (m+1)):=(aa HN).trans (tM D3 (.inr (by rw[aa Bk];exact eQ.1 rfl)))
     clear eQ HN
     go_wp2
     go_roundg (s.size-(m+1))
     case measure=>have:=aa gF;omega
     case rel=>exact ⟨m+1,by go_num,rfl,by omega,by omega,rfl,Qk⟩
    |false =>
     have HE:Hid (cX s a=m):=(aa HN).trans (El (by rw[aa Bk];exact fun o=>o.elim (aa M1) (fun q=>by have:=eQ.2 q;cases this)))
     clear eQ HN M1 Bk
     go_wp2_with fail
     refine (jC W x0 PZ).mono ?_
     rintro e w' ⟨b,rfl,he,eQ⟩
     obtain rfl:W=w':=he.symm
     clear he
     cases b with
     |true =>
      have Ho:Hid (cI s a=(1,m,0)):=by show _=_;unfold cI;rw[aa Qe,if_pos (eQ.1 rfl),aa HE]
      clear eQ
      go_wp2
      go_ret3
      exact ⟨by rw[aa Ho];rfl,oP⟩
     |false =>
      have n1:¬isLet x0:=fun q=>by have:=eQ.2 q;cases this
      have N1:=ab n1
      clear eQ n1
      go_wp2_with fail
      refine (mN W x0 PZ).mono ?_
      rintro e w' ⟨b,rfl,he,eQ⟩
      obtain rfl:W=w':=he.symm
      clear he
      cases b with
      |true =>
       have hd:dJ x0:=eQ.1 rfl
       have ho:cI s a=if wv (aG (s.extract a m))=none then (0,0,41) else (2,m,0):=by unfold cI;rw[aa Qe,if_neg (aa N1),if_pos hd,aa HE]
       have Ho:=ab ho
       have m0:(0:Int)≤(m:Int):=zH _
       have m1:(a:Int)≤(m:Int):=by omega
       have m2:(m:Int)≤(s.size:Int):=by omega
       clear eQ hd ho
       go_wp2_with fail
       refine (nK W (s.extract a m) (by rw[ByteArray.size_extract];omega)).mono ?_
       rintro e w1 ⟨he,⟨u,rfl,hu⟩|⟨rfl,hu⟩⟩
       ·obtain rfl:W=w1:=he.symm
        have Hq:Hid (cI s a=(2,m,0)):=by show _=_;rw[aa Ho,hu];rfl
        clear hu he
        go_wp2
        go_ret3
        exact ⟨by rw[aa Hq];rfl,oP⟩
       ·obtain rfl:W=w1:=he.symm
        have Hq:Hid (cI s a=(0,0,41)):=by show _=_;rw[aa Ho,hu];rfl
        clear hu he
        go_wp2
        go_ret3
        exact ⟨by rw[aa Hq];rfl,oP⟩
      |false =>
       have n2:¬dJ x0:=fun q=>by have:=eQ.2 q;cases this
       have N2:=ab n2
       clear eQ n2
       by_cases hq:x0=39∨x0=34
       ·have ho:cI s a=match eY s x0 (a+1) with|none=>(0,0,42)|some (_,e)=>(3,e,0):=by unfold cI;rw[aa Qe,if_neg (aa N1),if_neg (aa N2),if_pos hq];cases eY s x0 (a+1)<;>rfl
        have Ho:=ab ho
        have yL:=nJ W s a ha hs
        rw[aa Qe] at yL
        have SL:=ab yL
        clear ho yL
        have Vj:((x0:Int)==34)=true∨(((x0:Int)==34)=false∧((x0:Int)==39)=true):=by
         rcases hq with rfl|rfl
         ·exact .inr ⟨rfl,rfl⟩
         ·exact .inl rfl
        rcases Vj with g1|⟨g1,g2⟩
        all_goals (
         clear hq
         go_wp2_with fail
         refine (aa SL).mono ?_
         rintro e w2 ⟨bo,⟨h1,rfl⟩|⟨l,z,v',h1,rfl,hv⟩⟩
         ·have Hq:Hid (cI s a=(0,0,42)):=by show _=_;rw[aa Ho,h1]
          have qA:=ab bo
          clear h1 bo
          go_wp2
          go_ret3
          exact ⟨by rw[aa Hq];rfl,aa qA⟩
         ·have Hq:Hid (cI s a=(3,z,0)):=by show _=_;rw[aa Ho,h1]
          have hz:=AA _ (a+1) l z (zD _) h1
          have z0:((z:Int)==0)=false:=beq_eq_false_iff_ne.2 (by omega)
          obtain ⟨va,vn,vc,rfl⟩:=hv.shape
          have qA:=ab bo
          clear h1 bo hz hv
          go_wp2
          go_ret3
          exact ⟨by rw[aa Hq];rfl,aa qA⟩)
       ·have g1:((x0:Int)==34)=false:=beq_eq_false_iff_ne.2 (by omega)
        have g2:((x0:Int)==39)=false:=beq_eq_false_iff_ne.2 (by omega)
        have ho:cI s a=if kW x0 then (4,a+1,0) else (0,0,40):=by unfold cI;rw[aa Qe,if_neg (aa N1),if_neg (aa N2),if_neg hq]
        have Ho:=ab ho
        clear ho hq
        go_wp2_with fail
        refine (Ay W x0).mono ?_
        rintro e w' ⟨b,rfl,he,eQ⟩
        obtain rfl:W=w':=he.symm
        clear he
        cases b with
        |true =>
         have Hq:Hid (cI s a=(4,a+1,0)):=by show _=_;rw[aa Ho,if_pos (eQ.1 rfl)]
         clear eQ
         go_wp2
         go_ret3
         exact ⟨by rw[aa Hq];first|rfl|go_num,oP⟩
        |false =>
         have Hq:Hid (cI s a=(0,0,40)):=by show _=_;rw[aa Ho,if_neg (fun q=>by have:=eQ.2 q;cases this)]
         clear eQ
         go_wp2
         go_ret3
         exact ⟨by rw[aa Hq];rfl,oP⟩
  ·have HE:Hid (cX s a=m):=(aa HN).trans (Gx D3)
   obtain rfl:m=s.size:=by omega
   have q0:decide ((s.size:Int)<(s.size:Int))=false:=by simp
   clear HN D3
   go_wp2_with fail
   refine (jC W x0 PZ).mono ?_
   rintro e w' ⟨b,rfl,he,eQ⟩
   obtain rfl:W=w':=he.symm
   clear he
   cases b with
   |true =>
    have Ho:Hid (cI s a=(1,s.size,0)):=by show _=_;unfold cI;rw[aa Qe,if_pos (eQ.1 rfl),aa HE]
    clear eQ
    go_wp2
    go_ret3
    exact ⟨by rw[aa Ho];rfl,oP⟩
   |false =>
    have n1:¬isLet x0:=fun q=>by have:=eQ.2 q;cases this
    have N1:=ab n1
    clear eQ n1
    go_wp2_with fail
    refine (mN W x0 PZ).mono ?_
    rintro e w' ⟨b,rfl,he,eQ⟩
    obtain rfl:W=w':=he.symm
    clear he
    cases b with
    |true =>
     have hd:dJ x0:=eQ.1 rfl
     have ho:cI s a=if wv (aG (s.extract a s.size))=none then (0,0,41) else (2,s.size,0):=by unfold cI;rw[aa Qe,if_neg (aa N1),if_pos hd,aa HE]
     have Ho:=ab ho
     have m0:(0:Int)≤(s.size:Int):=zH _
     have m1:(a:Int)≤(s.size:Int):=by omega
     have m2:(s.size:Int)≤(s.size:Int):=by omega
     clear eQ hd ho
     go_wp2_with fail
     refine (nK W (s.extract a s.size) (by rw[ByteArray.size_extract];omega)).mono ?_
     rintro e w1 ⟨he,⟨u,rfl,hu⟩|⟨rfl,hu⟩⟩
     ·obtain rfl:W=w1:=he.symm
      have Hq:Hid (cI s a=(2,s.size,0)):=by show _=_;rw[aa Ho,hu];rfl
      clear hu he
      go_wp2
      go_ret3
      exact ⟨by rw[aa Hq];rfl,oP⟩
     ·obtain rfl:W=w1:=he.symm
      have Hq:Hid (cI s a=(0,0,41)):=by show _=_;rw[aa Ho,hu];rfl
      clear hu he
      go_wp2
      go_ret3
      exact ⟨by rw[aa Hq];rfl,oP⟩
    |false =>
     have n2:¬dJ x0:=fun q=>by have:=eQ.2 q;cases this
     have N2:=ab n2
     clear eQ n2
     by_cases hq:x0=39∨x0=34
     ·have ho:cI s a=match eY s x0 (a+1) with|none=>(0,0,42)|some (_,e)=>(3,e,0):=by unfold cI;rw[aa Qe,if_neg (aa N1),if_neg (aa N2),if_pos hq];cases eY s x0 (a+1)<;>rfl
      have Ho:=ab ho
      have yL:=nJ W s a ha hs
      rw[aa Qe] at yL
      have SL:=ab yL
      clear ho yL
      have Vj:((x0:Int)==34)=true∨(((x0:Int)==34)=false∧((x0:Int)==39)=true):=by
       rcases hq with rfl|rfl
       ·exact .inr ⟨rfl,rfl⟩
       ·exact .inl rfl
      rcases Vj with g1|⟨g1,g2⟩
      all_goals (
       clear hq
       go_wp2_with fail
       refine (aa SL).mono ?_
       rintro e w2 ⟨bo,⟨h1,rfl⟩|⟨l,z,v',h1,rfl,hv⟩⟩
       ·have Hq:Hid (cI s a=(0,0,42)):=by show _=_;rw[aa Ho,h1]
        have qA:=ab bo
        clear h1 bo
        go_wp2
        go_ret3
        exact ⟨by rw[aa Hq];rfl,aa qA⟩
       ·have Hq:Hid (cI s a=(3,z,0)):=by show _=_;rw[aa Ho,h1]
        have hz:=AA _ (a+1) l z (zD _) h1
        have z0:((z:Int)==0)=false:=beq_eq_false_iff_ne.2 (by omega)
        obtain ⟨va,vn,vc,rfl⟩:=hv.shape
        have qA:=ab bo
        clear h1 bo hz hv
        go_wp2
        go_ret3
        exact ⟨by rw[aa Hq];rfl,aa qA⟩)
     ·have g1:((x0:Int)==34)=false:=beq_eq_false_iff_ne.2 (by omega)
      have g2:((x0:Int)==39)=false:=beq_eq_false_iff_ne.2 (by omega)
      have ho:cI s a=if kW x0 then (4,a+1,0) else (0,0,40):=by unfold cI;rw[aa Qe,if_neg (aa N1),if_neg (aa N2),if_neg hq]
      have Ho:=ab ho
      clear ho hq
      go_wp2_with fail
      refine (Ay W x0).mono ?_
      rintro e w' ⟨b,rfl,he,eQ⟩
      obtain rfl:W=w':=he.symm
      clear he
      cases b with
      |true =>
       have Hq:Hid (cI s a=(4,a+1,0)):=by show _=_;rw[aa Ho,if_pos (eQ.1 rfl)]
       clear eQ
       go_wp2
       go_ret3
       exact ⟨by rw[aa Hq];first|rfl|go_num,oP⟩
      |false =>
       have Hq:Hid (cI s a=(0,0,40)):=by show _=_;rw[aa Ho,if_neg (fun q=>by have:=eQ.2 q;cases this)]
       clear eQ
       go_wp2
       go_ret3
       exact ⟨by rw[aa Hq];rfl,oP⟩
theorem JM {s:ByteArray}{k p n:Nat} (h:bw s s.size k=(p,false)):tk s k n=.inr (p,43):=by
 unfold tk
 rw[jD,h,if_pos rfl]
theorem QA {s:ByteArray}{k n:Nat} (h:bw s s.size k=(s.size,true)):tk s k n=.inl [⟨5,s.size,⟨#[]⟩⟩]:=by
 unfold tk
 rw[jD,h,if_neg (by simp),if_pos rfl]
theorem Ma {s:ByteArray}{k p:Nat} (hk:p<s.size) (h:bw s s.size k=(p,true)):tk s k 16383=.inr (p,45):=by
 unfold tk
 rw[jD,h,if_neg (by simp),if_neg (by show ¬p=s.size;omega),if_pos rfl]
theorem Qz {s:ByteArray}{k p n c:Nat} (hk:p<s.size) (h:bw s s.size k=(p,true)) (hn:n<16383) (h1:(cI s p).2.2=c) (hc:c≠0):tk s k n=.inr (p,c):=by
 unfold tk
 rw[jD,h,if_neg (by simp),if_neg (by show ¬p=s.size;omega),if_neg (by omega)]
 show (if (cI s p).2.2=0 then _ else Sum.inr (p,(cI s p).2.2))=_
 rw[h1,if_neg hc]
theorem Qy {s:ByteArray}{k p n t e:Nat} (hk:p<s.size) (h:bw s s.size k=(p,true)) (hn:n<16383) (h1:cI s p=(t,e,0)):tk s k n=zg ⟨t,p,s.extract p e⟩ (tk s e (n+1)):=by
 have hle:=qX hk (by rw[h1])
 rw[h1] at hle
 unfold tk
 rw[jD,h,if_neg (by simp),if_neg (by show ¬p=s.size;omega),if_neg (by omega)]
 show (if (cI s p).2.2=0 then zg ⟨(cI s p).1,p,s.extract p (cI s p).2.1⟩ (jD s s.size (cI s p).2.1 (n+1)) else _)=_
 rw[h1,if_pos rfl]
 rw[AF s s.size (s.size+1) e (n+1) hle.2 (by have:=hle.1;simp at this;omega) (by omega)]
theorem C4 (W:World) (s:ByteArray):Calls Tryz.prog 16 #[.string s] W (SG s W):=by
 obtain ⟨i0,hi,tZ,tY,jg⟩:=info_parts Tryz.xu
 have eC:=zE W.heap.size W
 by_cases h0:65536<s.size
 ·have Hr:=ab (AE h0)
  have e0:=Rp (a:=s.size) (k:=65536) (by omega)
  clear h0
  go_enter Tryz.func16,Tryz.ntmps16
  go_wp2
  go_ret3
  exact ⟨eC,by rw[aa Hr];exact ⟨by decide,rfl⟩⟩
 ·have e0:=Rq (a:=s.size) (k:=65536) (by omega)
  have hs:s.size≤65536:=by omega
  have H0:=ab h0
  clear h0
  go_enter Tryz.func16,Tryz.ntmps16
  go_wp2_with fail
  refine (Ax W s (by omega)).mono ?_
  rintro e w1 ⟨rfl,he⟩
  obtain rfl:W=w1:=he.symm
  clear he
  by_cases h1:0≤cG s 0
  ·have Hr:=ab (De (aa H0) h1)
   obtain ⟨u,hu⟩:∃u:Nat,cG s 0=(u:Int):=⟨(cG s 0).toNat,by omega⟩
   rw[hu] at Hr ⊢
   have e1:decide (0≤(u:Int))=true:=by simp
   clear hu h1
   go_wp2
   go_ret3
   exact ⟨eC,by rw[aa Hr];exact ⟨by decide,rfl⟩⟩
  ·have Hr:=ab (H9 (aa H0) h1)
   obtain ⟨u,hu⟩:∃u,u=cG s 0:=⟨_,rfl⟩
   rw[←hu] at h1 ⊢
   have e1:decide (0≤u)=false:=by simp;omega
   have zy:Hid (W.ownsRow W.heap.size 38 3 (.slice none 0 0) 0 (eH [])):=⟨rfl,.inl ⟨rfl,rfl⟩⟩
   clear hu h1
   go_wp2
   go_loopg [6,7,8,9,10,11,12] s.size (fun gk v6 v7 _ _ _ _ _ wr=>∃(k n:Nat) (pre:List Tok) (va:Option Addr) (vc:Nat),v6=.slice va n vc∧v7=.int .i64 (k:Int)∧gk=s.size-k∧k≤s.size∧n=pre.length∧n≤16383∧Hid (wr.ownsRow W.heap.size 38 3 (.slice va n vc) n (eH pre))∧Hid (tk s 0 0=ju pre (tk s k n))∧Hid (Below W.heap.size W wr))
   case atStart=>exact ⟨0,0,[],none,0,rfl,rfl,rfl,by omega,rfl,by omega,zy,(ng _).symm,eC⟩
   case round =>
    obtain ⟨k,n,pre,va,vc,rfl,rfl,dY,hk,hn,Lz,HR,Hq,HB⟩:=hrel
    have gF:=ab dY
    have Hn:=ab hn
    have hWr:W.heap.size≤wr.heap.size:=(aa HB).size
    clear dY hn zy
    have hxp:=JC wr s hs k hk
    have Vk:=DF s s.size k hk
    obtain ⟨p,ok,hp⟩:∃p ok,bw s s.size k=(p,ok):=⟨_,_,rfl⟩
    rw[hp] at hxp
    have N4:k≤p:=by rw[hp] at Vk;exact Vk.1
    have xv:p≤s.size:=by rw[hp] at Vk;exact Vk.2
    have Hp:=ab hp
    have Hxp:=ab hxp
    clear hp hxp Vk
    go_wp2_with fail
    refine (aa Hxp).mono ?_
    rintro e w' ⟨rfl,he⟩
    obtain rfl:wr=w':=he.symm
    clear he Hxp
    cases ok with
    |false =>
     have cP:Hid (zu W.heap.size wr (.returned (.tuple #[.slice none 0 0,.int .i64 (p:Int),.int .i64 43])) (kO s)):=by
      show zu _ _ _ _
      rw[aa Hr,aa Hq,JM (aa Hp)]
      exact ⟨by decide,rfl⟩
     clear Hq Hr Hp
     go_wp2
     go_ret3
     exact ⟨aa HB,aa cP⟩
    |true =>
     by_cases rS:p=s.size
     ·subst rS
      have q1:((s.size:Int)==(s.size:Int))=true:=by simp
      have O1:Hid (n+1≤maxLen):=by show _≤_;unfold maxLen;omega
      have O2:Hid ((n+1)*32≤140737488355328):=by show _≤_;omega
      have Ht:Hid (kO s=.inl (pre++[⟨5,s.size,⟨#[]⟩⟩])):=by show _=_;rw[aa Hr,aa Hq,QA (aa Hp)];rfl
      clear Hq Hr Hp
      go_wp2_with (at_builtin;refine wpList_append_own_at _ rfl _ _ 36 rfl W.heap.size 38 i0 (.agg #[.int .i64 0,.int .i64 0,.string ⟨#[]⟩]) 3 32 Tryz.underlying36 hi tZ tY jg rfl (by decide) _ _ _ rfl ((aa HR).alloc _) ⟨wr.heap.size,0,none⟩ 1 1 [.int .i64 5,.int .i64 (s.size:Int),.string ⟨#[]⟩] rfl rfl (cN _ _ _) (by simp[Value.oneCell']) (aa O1) (aa O2) (by rw[zJ];omega) ?_;intro v4 w4 eX dE _ jP;have Hx4:Hid (Ext wr (.slice va n vc) w4 v4):=Ext.grown dE jP;have zT:=ab eX;clear eX dE jP)
      have HB4:Hid (Below W.heap.size W w4):=(aa HB).trans ((aa Hx4).below hWr (fun q e=>((aa HR).lt q e).1))
      obtain ⟨a4,c4,rfl⟩:=qR (aa zT)
      go_ret3
      refine ⟨aa HB4,?_⟩
      rw[aa Ht]
      refine ⟨_,rfl,?_⟩
      rw[mO,zK,←aa Hn]
      exact aa zT
     ·have q1:((p:Int)==(s.size:Int))=false:=beq_eq_false_iff_ne.2 (by omega)
      have N3:p<s.size:=by omega
      by_cases hn3:n=16383
      ·subst hn3
       have cP:Hid (zu W.heap.size wr (.returned (.tuple #[.slice none 0 0,.int .i64 (p:Int),.int .i64 45])) (kO s)):=by
        show zu _ _ _ _
        rw[aa Hr,aa Hq,Ma N3 (aa Hp)]
        exact ⟨by decide,rfl⟩
       clear Hq Hr Hp
       go_wp2
       go_ret3
       exact ⟨aa HB,aa cP⟩
      ·have Zp:n<16383:=by omega
       have q2:((n:Int)==16383)=false:=beq_eq_false_iff_ne.2 (by omega)
       have hxo:=LS wr s p N3 hs
       have hol:=fun h=>qX (s:=s) N3 h
       obtain ⟨t,en,er,ho⟩:∃t en er,cI s p=(t,en,er):=⟨_,_,_,rfl⟩
       rw[ho] at hxo hol
       have Ho:=ab ho
       have Hxo:=ab hxo
       have Hol:=ab hol
       clear ho hxo hol rS hn3
       go_wp2_with fail
       refine (aa Hxo).mono ?_
       rintro e w2 ⟨rfl,bo⟩
       have iJ:Hid (Below W.heap.size W w2):=(aa HB).trans (bo.mono hWr)
       have qB:Hid (w2.ownsRow W.heap.size 38 3 (.slice va n vc) n (eH pre)):=S' (aa HR) bo
       clear bo HB HR Hxo
       by_cases her:er=0
       ·subst her
        obtain ⟨l1,l2⟩:p<en∧en≤s.size:=aa Hol rfl
        have O1:Hid (n+1≤maxLen):=by show _≤_;unfold maxLen;omega
        have O2:Hid ((n+1)*32≤140737488355328):=by show _≤_;omega
        have Hq2:Hid (tk s 0 0=ju (pre++[⟨t,p,s.extract p en⟩]) (tk s en (n+1))):=by show _=_;rw[aa Hq,Qy N3 (aa Hp) Zp (aa Ho),Ee]
        have HR:=qB
        have p0:(0:Int)≤(p:Int):=zH _
        have p1:(p:Int)≤(en:Int):=by omega
        have p2:(en:Int)≤(s.size:Int):=by omega
        have hW2:W.heap.size≤w2.heap.size:=(aa iJ).size
        clear Hq Hp Ho Hol qB
        go_wp2_with (at_builtin;refine wpList_append_own_at _ rfl _ _ 36 rfl W.heap.size 38 i0 (.agg #[.int .i64 0,.int .i64 0,.string ⟨#[]⟩]) 3 32 Tryz.underlying36 hi tZ tY jg rfl (by decide) _ _ _ rfl ((aa HR).alloc _) ⟨w2.heap.size,0,none⟩ 1 1 [.int .i64 (t:Int),.int .i64 (p:Int),.string (s.extract p en)] rfl rfl (cN _ _ _) (by simp[Value.oneCell']) (aa O1) (aa O2) (by rw[zJ];omega) ?_;intro v4 w4 eX dE _ jP;have Hx4:Hid (Ext w2 (.slice va n vc) w4 v4):=Ext.grown dE jP;have zT:=ab eX;clear eX dE jP)
        have HB4:Hid (Below W.heap.size W w4):=(aa iJ).trans ((aa Hx4).below hW2 (fun q e=>((aa HR).lt q e).1))
        obtain ⟨a4,c4,rfl⟩:=qR (aa zT)
        have HR5:Hid (w4.ownsRow W.heap.size 38 3 (.slice a4 (n+1) c4) (n+1) (eH (pre++[⟨t,p,s.extract p en⟩]))):=by rw[mO];exact aa zT
        clear zT Hx4 HR
        go_roundg (s.size-en)
        case measure=>have:=aa gF;omega
        case rel=>exact ⟨en,n+1,_,a4,c4,rfl,rfl,rfl,l2,by rw[zK,←aa Hn];rfl,by omega,HR5,Hq2,HB4⟩
       ·have q3:((er:Int) != 0)=true:=by simp;omega
        have cP:Hid (zu W.heap.size w2 (.returned (.tuple #[.slice none 0 0,.int .i64 (p:Int),.int .i64 (er:Int)])) (kO s)):=by
         show zu _ _ _ _
         rw[aa Hr,aa Hq,Qz N3 (aa Hp) Zp (by rw[aa Ho]) her]
         exact ⟨her,rfl⟩
        clear Hq Hr Hp Ho Hol
        go_wp2
        go_ret3
        exact ⟨aa iJ,aa cP⟩
def ta (W:World) (v:Value) (ts:List Tok):Prop:=∃(a:Option Addr) (c:Nat),v=.slice a ts.length c∧ts.length≤c∧(0<ts.length→∃g,a=some ⟨g,0,none⟩∧g<W.heap.size∧∀i t,ts[i]?=some t→W.cell? ⟨g,i*3,none⟩=some (.int .i64 (t.kind:Int))∧W.cell? ⟨g,i*3+1,none⟩=some (.int .i64 (t.place:Int))∧W.cell? ⟨g,i*3+2,none⟩=some (.string t.text))
theorem yS (W:World):ta W (.slice none 0 0) []:=⟨none,0,rfl,zD _,fun h=>by simp at h⟩
theorem ta.up {W w:World}{v:Value}{ts:List Tok} (h:ta W v ts) (hb:Below W.heap.size W w):ta w v ts:=by
 obtain ⟨a,c,rfl,hc,h3⟩:=h
 refine ⟨a,c,rfl,hc,fun hp=>?_⟩
 obtain ⟨g,rfl,h4,h5⟩:=h3 hp
 exact ⟨g,rfl,Nat.lt_of_lt_of_le h4 hb.size,fun i t ht=>⟨(hb.cell (p:=⟨g,i*3,none⟩) h4).trans (h5 i t ht).1,(hb.cell (p:=⟨g,i*3+1,none⟩) h4).trans (h5 i t ht).2.1,(hb.cell (p:=⟨g,i*3+2,none⟩) h4).trans (h5 i t ht).2.2⟩⟩
theorem AH:∀(ts:List Tok) (i:Nat) (t:Tok),ts[i]?=some t→(eH ts)[i*3]?=some (.int .i64 (t.kind:Int))∧(eH ts)[i*3+1]?=some (.int .i64 (t.place:Int))∧(eH ts)[i*3+2]?=some (.string t.text)
 |[],i,t,h=>by simp at h
 |x::r,0,t,h=>by
  obtain rfl:x=t:=by simpa using h
  exact ⟨rfl,rfl,rfl⟩
 |x::r,i+1,t,h=>by
  have:=AH r i t (by simpa using h)
  rw[show (i+1)*3=i*3+3 by omega]
  exact this
theorem KI {W:World}{B:Nat}{v:Value}{ts:List Tok} (h:W.ownsRow B 38 3 v ts.length (eH ts)):ta W v ts:=by
 obtain ⟨h1,⟨rfl,h0⟩|⟨g,c,cur,rfl,h2,h3,h4,h5,h6,h7⟩⟩:=h
 ·obtain rfl:=List.eq_nil_of_length_eq_zero h0
  exact yS W
 ·refine ⟨_,c,rfl,h4,fun hp=>⟨g,rfl,(zA h3).1,fun i t ht=>?_⟩⟩
  have fp:∀(j:Nat) (u:Value),(eH ts)[j]?=some u→W.cell? ⟨g,j,none⟩=some u:=fun j u hj=>by
   rw[cell_of_row _ _ _ _ _ _ h3,←Array.getElem?_toList]
   rw[←h7,List.getElem?_take] at hj
   split at hj
   ·exact hj
   ·cases hj
  obtain ⟨e1,e2,e3⟩:=AH ts i t ht
  exact ⟨fp _ _ e1,fp _ _ e2,fp _ _ e3⟩
theorem SG.ret {s:ByteArray}{W w:World}{e:Ending} (h:SG s W e w):∃(v:Value) (k c:Nat) (ts:List Tok),e=.returned (.tuple #[v,.int .i64 (k:Int),.int .i64 (c:Int)])∧ta w v ts∧((c=0∧k=0∧kO s=.inl ts)∨(c≠0∧ts=[]∧v=.slice none 0 0∧kO s=.inr (k,c))):=by
 obtain ⟨_,h2⟩:=h
 cases ht:kO s with
 |inl ts =>
  rw[ht] at h2
  obtain ⟨v,rfl,h3⟩:=h2
  exact ⟨v,0,0,ts,rfl,KI h3,.inl ⟨rfl,rfl,rfl⟩⟩
 |inr p =>
  obtain ⟨k,c⟩:=p
  rw[ht] at h2
  obtain ⟨hc,rfl⟩:=h2
  exact ⟨_,k,c,[],rfl,yS w,.inr ⟨hc,rfl,rfl,rfl⟩⟩
theorem L6 (s:ByteArray):∀(f k n:Nat) (ts:List Tok),n≤16383→jD s f k n=.inl ts→n+ts.length≤16384:=by
 intro f
 induction f with
 |zero=>intro k n ts _ h;cases h
 |succ f ih =>
  intro k n ts hn h
  rw[jD] at h
  split at h
  ·cases h
  ·split at h
   ·have:=Sum.inl.inj h
    rw[←this]
    simp
    omega
   ·split at h
    ·cases h
    ·split at h
     ·cases hr:jD s f (cI s (bw s s.size k).1).2.1 (n+1) with
      |inl l =>
       rw[hr] at h
       have:=Sum.inl.inj h
       have h2:=ih _ _ l (by omega) hr
       rw[←this,List.length_cons]
       omega
      |inr e=>rw[hr] at h;cases h
     ·cases h
theorem Dd {s:ByteArray}{ts:List Tok} (h:kO s=.inl ts):ts.length≤16384:=by
 unfold kO at h
 split at h
 ·cases h
 ·split at h
  ·cases h
  ·have:=L6 s _ 0 0 ts (by omega) h
   omega
theorem RX {W:World} (h:W.ShapedOpen Tryz.prog):oJ W:=by
 obtain ⟨m,hm⟩:=cell_of_shapedOpen_int (P:=Tryz.prog) (g:=1) (t:=3) (zero:=#[.int .i64 0]) h (of_decide_eq_true (by kernel_rfl)) (by kernel_rfl) rfl (by kernel_rfl) (by kernel_rfl) Tryz.underlying3
 exact ⟨World.block_lt_of_cell? W _ hm,m,hm⟩
end Go.Proofs.YtjophoclfccmcaaGreatDoor
namespace Go.Proofs.YtjophoclfccmcaaGreatDoor
open Go.ChangeShapes Go.WideShapes Go.ChangeAt Go.RowKit
def EU (W:World) (v:Value) (l:List ByteArray):Prop:=∃a c,v=.slice a l.length c∧(l.length≤c∧c≤maxLen∧(a=none→c=0))∧(0<l.length→∃g off,a=some ⟨g,off,none⟩∧g<W.heap.size∧∀i s,l[i]?=some s→W.cell? ⟨g,off+i,none⟩=some (.string s))
theorem Oh (W:World):EU W (.slice none 0 0) []:=⟨none,0,rfl,⟨zD _,Nat.zero_le _,fun _=>rfl⟩,fun h=>by simp at h⟩
theorem EU.up {W w:World}{v:Value}{l:List ByteArray} (h:EU W v l) (hb:Below W.heap.size W w):EU w v l:=by
 obtain ⟨a,c,rfl,hm,h3⟩:=h
 refine ⟨a,c,rfl,hm,fun hp=>?_⟩
 obtain ⟨g,off,rfl,h4,h5⟩:=h3 hp
 exact ⟨g,off,rfl,Nat.lt_of_lt_of_le h4 hb.size,fun i k hk=>(hb.cell (p:=⟨g,off+i,none⟩) h4).trans (h5 i k hk)⟩
theorem GQ:Tryz.prog.cellsOf 9=1:=by kernel_rfl
theorem GU:1≤Tryz.prog.bytesOf 9:=of_decide_eq_true (by kernel_rfl)
theorem J7 {H:Type}{enc:TypeId×Value→H}{W:World}{base fuel len cap:Nat}{spare:Nat→Bool}{held:Bool}{a:Option Addr}{x:DataW H×List MemPlace}
  (hf:DataW.trod enc Tryz.prog W base spare held fuel 22 (Value.slice a len cap).cells.toList=some x) :
  ∃l,EU W (.slice a len cap) l∧(l.length=0∨∃e s,x.1=.slice e s∧l.length=e.length):=by
 rcases open_strings Tryz.underlying22 Tryz.underlying9 GQ hf with ⟨fk,rfl⟩|⟨y,n,c,zs,fk,_,hl,hm,hz,rfl,dK,hwf⟩
 ·simp[Value.cells] at fk
  obtain ⟨rfl,rfl,rfl⟩:=fk
  exact ⟨[],Oh _,.inl rfl⟩
 ·simp[Value.cells] at fk
  obtain ⟨rfl,rfl,rfl⟩:=fk
  have hlz:len≤zs.length:=by rw[hz];split<;>omega
  have hlen:(zs.take len).length=len:=by rw[List.length_take];omega
  refine ⟨zs.take len,⟨some y,cap,by rw[hlen],⟨by omega,by omega,nofun⟩,fun hp=>?_⟩,.inr ⟨_,_,rfl,by simp[strs]⟩⟩
  obtain ⟨b,off,spot⟩:=y
  have Y1:spot=none:=by simpa[Addr.add] using World.cell?_spot (dK 0 (by omega))
  subst Y1
  have hc:∀j,j<zs.length→W.cell? ⟨b,off+j,none⟩=some (.string (zs.getD j ByteArray.empty)):=fun j hj=>by rw[←Go.WideShapes.add_plain];exact dK j hj
  refine ⟨b,off,rfl,World.block_lt_of_cell? W _ (hc 0 (by omega)),fun i k hk=>?_⟩
  rw[List.getElem?_take] at hk
  split at hk
  ·have h1:=hc i (by omega)
   rw[List.getD_eq_getElem?_getD,hk] at h1
   exact h1
  ·cases hk
theorem FC {H:Type}{ts:List TypeId}{ds:List (DataW H)} (h:(DataW.weightsEach Tryz.prog ts ds).all (·≤reachBytes)=true) {j:Nat}{d:DataW H}{n:Nat} (ht:ts[j]?=some 22) (hd:ds[j]?=some d)
  (hl:n=0∨∃e s,d=.slice e s∧n=e.length):n≤140737488351232:=by
 rcases hl with h0|⟨e,s,rfl,hl⟩
 ·omega
 ·have h1:=sized_slice h ht hd Tryz.underlying22
  have h2:=Nat.mul_le_mul_left (e.length+s.length) GU
  rw[reachBytes] at h1
  omega
end Go.Proofs.YtjophoclfccmcaaGreatDoor
namespace Go.Proofs.YtjophoclfccmcaaGreatDoor
open Go.RowKit Go.Lib
end Go.Proofs.YtjophoclfccmcaaGreatDoor
namespace Go.Proofs.YtjophoclfccmcaaGreatDoor
open Go.RowKit
attribute [local go_sem ↓] Go.wp_at_zero Go.wp_at_succ
end Go.Proofs.YtjophoclfccmcaaGreatDoor
namespace Go.Proofs.YtjophoclfccmcaaGreatDoor
open Go.RowKit
structure Tk where
 kind:Int
 spot:Int
 text:ByteArray
def Tk.cells (t:Tk):List Value:=[.int .i64 t.kind,.int .i64 t.spot,.string t.text]
def eV:List Tk→List Value
 |[]=>[]
 |t::r=>.int .i64 t.kind::.int .i64 t.spot::.string t.text::eV r
theorem yI:∀l:List Tk,(eV l).length=l.length*3
 |[]=>rfl
 |t::r=>by
  have:=yI r
  simp only[eV,List.length_cons,this]
  omega
theorem yJ:∀a b:List Tk,eV (a++b)=eV a++eV b
 |[],b=>rfl
 |t::r,b=>by simp only[List.cons_append,eV,yJ r b]
theorem AS:∀(l:List Tk) (i:Nat) (t:Tk),l[i]?=some t→(eV l)[i*3]?=some (.int .i64 t.kind)∧(eV l)[i*3+1]?=some (.int .i64 t.spot)∧(eV l)[i*3+2]?=some (.string t.text)
 |[],i,t,h=>by simp at h
 |x::r,0,t,h=>by
  obtain rfl:x=t:=by simpa using h
  exact ⟨rfl,rfl,rfl⟩
 |x::r,i+1,t,h=>by
  have:=AS r i t (by simpa using h)
  rw[show (i+1)*3=i*3+3 by omega]
  exact this
theorem yH:∀(l:List Tk) (i:Nat) (t:Tk),eV (l.set i t)=(((eV l).set (i*3) (.int .i64 t.kind)).set (i*3+1) (.int .i64 t.spot)).set (i*3+2) (.string t.text)
 |[],i,t=>by simp[eV]
 |x::r,0,t=>rfl
 |x::r,i+1,t=>by
  rw[zN,show (i+1)*3=i*3+3 by omega]
  simp only[eV,yH r i t]
  rfl
def Tok.tk (t:Tok):Tk:=⟨(t.kind:Int),(t.place:Int),t.text⟩
theorem AG:∀ts:List Tok,eH ts=eV (ts.map Tok.tk)
 |[]=>rfl
 |t::r=>by
  have:=AG r
  simp only[List.map_cons,eV,←this]
  rfl
def fO (bs:Nat) (W:World) (v:Value) (l:List Tk):Prop:=W.ownsRow bs 38 3 v l.length (eV l)
theorem fO.cap {bs:Nat}{W:World}{a:Option Addr}{n c:Nat}{l:List Tk} (h:fO bs W (.slice a n c) l):n=l.length∧l.length≤c:=by
 rcases h.2 with ⟨e,h0⟩|⟨g,cap,_,e,_,_,h4,_⟩
 ·cases e
  exact ⟨h0.symm,by omega⟩
 ·cases e
  exact ⟨rfl,h4⟩
theorem fO.at' {bs:Nat}{W:World}{g n c:Nat}{l:List Tk} (h:fO bs W (.slice (some ⟨g,0,none⟩) n c) l) {j:Nat}{u:Value} (hj:(eV l)[j]?=some u):W.cell? ⟨g,j,none⟩=some u:=by
 obtain ⟨rfl,_⟩:=h.cap
 rw[World.ownsRow.cellAt h j (by rw[←yI];exact (zB hj).1),hj]
theorem fO.cell {bs:Nat}{W:World}{g n c:Nat}{l:List Tk} (h:fO bs W (.slice (some ⟨g,0,none⟩) n c) l) {i:Nat}{t:Tk} (hi:l[i]?=some t) :
  W.cell? ⟨g,i*3,none⟩=some (.int .i64 t.kind)∧W.cell? ⟨g,i*3+1,none⟩=some (.int .i64 t.spot)∧W.cell? ⟨g,i*3+2,none⟩=some (.string t.text):=by
 obtain ⟨a,b,c'⟩:=AS l i t hi
 exact ⟨h.at' a,h.at' b,h.at' c'⟩
theorem fO.frozenAt {bs:Nat}{W:World}{g n c:Nat}{l:List Tk} (h:fO bs W (.slice (some ⟨g,0,none⟩) n c) l) (j:Nat):W.frozen? ⟨g,j,none⟩=false:=by
 obtain ⟨rfl,_⟩:=h.cap
 exact World.ownsRow.frozenAt h j
theorem fO.lt {bs:Nat}{W:World}{g n c:Nat}{l:List Tk} (h:fO bs W (.slice (some ⟨g,0,none⟩) n c) l):bs≤g∧g<W.heap.size:=World.ownsRow.lt h g rfl
theorem fO.set {bs:Nat}{W:World}{g n c:Nat}{l:List Tk} (h:fO bs W (.slice (some ⟨g,0,none⟩) n c) l) (i:Nat) (t:Tk) :
  fO bs (((W.setCell ⟨g,i*3,none⟩ (.int .i64 t.kind)).setCell ⟨g,i*3+1,none⟩ (.int .i64 t.spot)).setCell ⟨g,i*3+2,none⟩ (.string t.text)) (.slice (some ⟨g,0,none⟩) n c) (l.set i t) ∧
   W.grownBy (((W.setCell ⟨g,i*3,none⟩ (.int .i64 t.kind)).setCell ⟨g,i*3+1,none⟩ (.int .i64 t.spot)).setCell ⟨g,i*3+2,none⟩ (.string t.text)) (some g):=by
 obtain ⟨rfl,_⟩:=h.cap
 obtain ⟨h1,g1⟩:=World.ownsRow.stored h (i*3) (.int .i64 t.kind)
 obtain ⟨h2,g2⟩:=World.ownsRow.stored h1 (i*3+1) (.int .i64 t.spot)
 obtain ⟨h3,g3⟩:=World.ownsRow.stored h2 (i*3+2) (.string t.text)
 refine ⟨?_,(g1.trans g2).trans g3⟩
 unfold fO
 rw[yH,List.length_set]
 exact h3
theorem fO.kept {bs:Nat}{W W':World}{v:Value}{l:List Tk} (h:fO bs W v l) {row:Option Nat} (hg:W.grownBy W' row) (eb:v.ownBlock=none∨v.ownBlock≠row):fO bs W' v l:=World.ownsRow.kept h hg eb
theorem FO {bs:Nat}{W w:World}{e size n:Nat}{v:Value}{xs:List Value} (h:W.ownsRow bs e size v n xs) (hb:Below W.heap.size W w):w.ownsRow bs e size v n xs:=by
 refine ⟨h.1,?_⟩
 rcases h.2 with h1|⟨g',cap,cur,e,bK,hc,rest⟩
 ·exact .inl h1
 ·refine .inr ⟨g',cap,cur,e,bK,?_,rest⟩
  rw[hb.block g' (zA hc).1]
  exact hc
theorem kq {W:World}{bs bs' e size n:Nat}{v:Value}{xs:List Value} (h:W.ownsRow bs e size v n xs) (hb:bs'≤bs):W.ownsRow bs' e size v n xs:=by
 refine ⟨h.1,?_⟩
 rcases h.2 with h1|⟨g',cap,cur,e,bK,rest⟩
 ·exact .inl h1
 ·exact .inr ⟨g',cap,cur,e,Nat.le_trans hb bK,rest⟩
theorem fO.up {bs:Nat}{W w:World}{v:Value}{l:List Tk} (h:fO bs W v l) (hb:Below W.heap.size W w):fO bs w v l:=FO h hb
theorem fO.mono {bs bs':Nat}{W:World}{v:Value}{l:List Tk} (h:fO bs W v l) (hb:bs'≤bs):fO bs' W v l:=kq h hb
section
variable {P : Program}
end
end Go.Proofs.YtjophoclfccmcaaGreatDoor

import Derived.Test.YtichhjfjcinjgaaGreatDoorM26
import Derived.Test.YtichhjfjcinjgaaGreatDoorM46
import Derived.Test.YtichhjfjcinjgaaGreatDoorQX2
import Derived.Shelf.Vars
set_option maxHeartbeats 4000000
set_option maxRecDepth 100000
namespace Go.Proofs.YtichhjfjcinjgaaGreatDoor
open Go.RowKit Go.Lib
attribute [local go_sem ↓] Go.wp_at_zero Go.wp_at_succ
theorem xr {s:ByteArray}{k x:Nat} (hb:aD s k=x) (h0:¬x=0) (h1:¬x=10) (h2:¬x=92):cU s k=some (x,1):=by
 unfold cU
 rw[hb,if_neg (fun o=>o.elim h0 h1),if_neg h2]
theorem zj {s:ByteArray}{k x:Nat} (hb:aD s k=x) (h:x=0∨x=10):cU s k=none:=by
 unfold cU
 rw[hb,if_pos h]
theorem zi {s:ByteArray}{k:Nat} (hb:aD s k=92):cU s k=dr ((aI s).drop k):=by
 unfold cU
 rw[hb,if_neg (by decide),if_pos rfl]
theorem Bytes.drew {base:Nat}{W:World}{v:Value}{l:List Nat} (h:Bytes base W v l) (n:Nat):Bytes base (W.drewN n) v l:=h
theorem pW (W:World) (s:ByteArray) (yy:Nat) (ha:yy<s.size) (hs:s.size≤65536):Calls Tryz.prog 105 #[.string s,.int .i64 (yy:Int)] W (UQ W (dW s (aD s yy) (yy+1))):=by
 obtain ⟨i0,hi,gf,fX,dY⟩:=info_parts Tryz.infoByte
 have bJ:=zE W.heap.size W
 obtain ⟨q,hq,kj,gq⟩:=cc s yy ha
 have RI:aD s yy=q:=(df s yy ha).trans gq
 rw[RI]
 have a0:(0:Int)≤(yy:Int):=zH _
 have a1:(yy:Int)<(s.size:Int):=by omega
 have I0:Hid (Bytes W.heap.size W (.slice none 0 0) []):=pO _ _
 clear hq RI
 go_enter Tryz.func105,Tryz.ntmps105
 go_wp2
 go_loopg [7,8,9,10,11] (s.size-(yy+1)) (fun gk v7 v8 _ _ _ wr=>∃(k:Nat) (pre:List Nat) (va:Option Addr) (vn vc:Nat),v7=.slice va vn vc∧v8=.int .i64 (k:Int)∧gk=s.size-k∧k≤s.size∧pre.length≤k∧Hid (Bytes W.heap.size wr (.slice va vn vc) pre)∧Hid (dW s q (yy+1)=(dW s q k).map fun r=>(pre++r.1,r.2))∧Hid (Below W.heap.size W wr))
 case atStart=>exact ⟨yy+1,[],_,_,_,rfl,by go_num,rfl,by omega,by simp,I0,by show _=_;simp,bJ⟩
 case round =>
  obtain ⟨k,pre,va,vn,vc,rfl,rfl,aU,hk,Ez,HY,Hu,HB⟩:=hrel
  have bz:=al aU
  clear aU I0 gq
  by_cases aM:k<s.size
  ·obtain ⟨x,hx⟩:∃x:Nat,s[k].toNat=x:=⟨_,rfl⟩
   have dL:aD s k=x:=(df s k aM).trans hx
   have cY:x<256:=by rw[←dL];exact du s k
   have k0:(0:Int)≤(k:Int):=zH _
   have k1:(k:Int)<(s.size:Int):=by omega
   have iX:=al dL
   have fB:W.heap.size≤wr.heap.size:=(ab HB).size
   have O1:Hid (pre.length+1≤maxLen):=by show _≤_;unfold maxLen;omega
   have O2:Hid ((pre.length+1)*1≤140737488355328):=by show _≤_;omega
   clear dL
   by_cases xJ:x=q
   ·have Hr:Hid (dW s q (yy+1)=some (pre,k+1)):=by
     show _=_
     rw[ab Hu,lQ aM ((ab iX).trans xJ)]
     simp
    have fq:((x:Int) != (q:Int))=false:=by simp;omega
    have kn:decide (s.size≤k)=false:=by simp;omega
    clear Hu xJ
    go_wp2
    go_ret2
    exact FK (n:=k+1) (ab HB) (ab Hr) (ab HY)
   ·have fq:((x:Int) != (q:Int))=true:=by simp;omega
    have iG:¬aD s k=q:=by rw[ab iX];exact xJ
    by_cases c0:x=0∨x=10
    ·have Hr:Hid (dW s q (yy+1)=none):=by
      show _=_
      rw[ab Hu,pj aM iG (zj (ab iX) c0)]
      rfl
     clear Hu xJ iG
     rcases c0 with c0|c0
     ·have f0:=lj (c:=x) (k:=0) (by omega)
      clear c0
      go_wp2
      go_ret2
      exact p9 (ab HB) (ab Hr)
     ·have f0:=fY (c:=x) (k:=0) (by omega)
      have f1:=lj (c:=x) (k:=10) (by omega)
      clear c0
      go_wp2
      go_ret2
      exact p9 (ab HB) (ab Hr)
    ·obtain ⟨c0,c1⟩:=not_or.1 c0
     have f0:=fY (c:=x) (k:=0) (by omega)
     have f1:=fY (c:=x) (k:=10) (by omega)
     by_cases c2:x=92
     ·have f2:((x:Int) != 92)=false:=by simp;omega
      have YY:=zi ((ab iX).trans c2)
      have Xf:=al YY
      have nk:=al iG
      clear YY iG xJ c0 c1 c2
      go_wp2_with fail
      refine (yF wr s k aM hs).mono ?_
      rintro e w2 ⟨bd,⟨ho,rfl⟩|⟨b,n,ho,rfl⟩⟩
      ·have Hr:Hid (dW s q (yy+1)=none):=by
        show _=_
        rw[ab Hu,pj aM (ab nk) ((ab Xf).trans ho)]
        rfl
       have cP:Hid (Below W.heap.size W w2):=(ab HB).trans (bd.mono (ab HB).size)
       clear ho bd Hu
       go_wp2
       go_ret2
       exact p9 (ab cP) (ab Hr)
      ·obtain ⟨p1,p2,p3⟩:=ik ((ab Xf).trans ho) aM
       have Hr:Hid (dW s q (yy+1)=(dW s q (k+n)).map fun r=>((pre++[b])++r.1,r.2)):=by
        show _=_
        rw[ab Hu,mq aM (ab nk) ((ab Xf).trans ho),Option.map_map]
        congr 1
        funext r
        simp
       have cP:Hid (Below W.heap.size W w2):=(ab HB).trans (bd.mono (ab HB).size)
       have JB:Hid (Bytes W.heap.size w2 (.slice va vn vc) pre):=(ab HY).up bd
       have VF:W.heap.size≤w2.heap.size:=(ab cP).size
       have n0:((n:Int)==0)=false:=by simp;omega
       clear ho bd Hu HY HB
       go_wp2_with (at_builtin;refine wpList_append_own_at _ rfl _ _ 58 rfl W.heap.size 5 i0 (.int .u8 0) 1 1 Tryz.underlying58 hi gf fX dY rfl (by decide) _ _ _ rfl ((ab JB).alloc _) ⟨w2.heap.size,0,none⟩ 1 1 [.int .u8 (b:Int)] rfl rfl (db _ _ _) (by simp[Value.oneCell']) (ab O1) (ab O2) (by rw[zJ];omega) ?_;intro v4 w4 bI ba _ cH;have HP:Hid (nL W.heap.size w2 (.slice va vn vc) pre [b] (.returned v4) w4):=eH (ys:=[b]) bI rfl rfl ba cH;clear bI ba cH)
       obtain ⟨v5,kG,eo,dR⟩:=ab HP
       obtain rfl:v4=v5:=by simpa using kG
       obtain ⟨AS,Bb,AR,rfl⟩:=eo.shape
       have dX:Hid (Below W.heap.size W w4):=(ab cP).trans (dR.below VF (ab JB).eF)
       have pU:=al eo
       clear eo dR kG HP
       go_roundg (s.size-(k+n))
       case measure=>have:=ab bz;omega
       case rel=>exact ⟨k+n,pre++[b],_,_,_,rfl,by go_num,rfl,by omega,by simp only[zK,List.length_singleton];omega,pU,Hr,dX⟩
     ·have f2:((x:Int) != 92)=true:=by simp;omega
      have Hr:Hid (dW s q (yy+1)=(dW s q (k+1)).map fun r=>((pre++[x])++r.1,r.2)):=by
       show _=_
       rw[ab Hu,mq aM iG (xr (ab iX) c0 c1 c2),Option.map_map]
       congr 1
       funext r
       simp
      clear Hu xJ iG c0 c1 c2
      go_wp2_with (at_builtin;refine wpList_append_own_at _ rfl _ _ 58 rfl W.heap.size 5 i0 (.int .u8 0) 1 1 Tryz.underlying58 hi gf fX dY rfl (by decide) _ _ _ rfl ((ab HY).alloc _) ⟨wr.heap.size,0,none⟩ 1 1 [.int .u8 (x:Int)] rfl rfl (db _ _ _) (by simp[Value.oneCell']) (ab O1) (ab O2) (by rw[zJ];omega) ?_;intro v4 w4 bI ba _ cH;have HP:Hid (nL W.heap.size wr (.slice va vn vc) pre [x] (.returned v4) w4):=eH (ys:=[x]) bI rfl rfl ba cH;clear bI ba cH)
      obtain ⟨v5,kG,eo,dR⟩:=ab HP
      obtain rfl:v4=v5:=by simpa using kG
      obtain ⟨AS,Bb,AR,rfl⟩:=eo.shape
      have dX:Hid (Below W.heap.size W w4):=(ab HB).trans (dR.below fB (ab HY).eF)
      have pU:=al eo
      clear eo dR kG HP
      go_roundg (s.size-(k+1))
      case measure=>have:=ab bz;omega
      case rel=>exact ⟨k+1,pre++[x],_,_,_,rfl,by go_num,rfl,by omega,by simp only[zK,List.length_singleton];omega,pU,Hr,dX⟩
  ·have Hr:Hid (dW s q (yy+1)=none):=by
    show _=_
    rw[ab Hu,lR aM]
    rfl
   obtain rfl:k=s.size:=by omega
   clear Hu
   go_wp2
   go_ret2
   exact p9 (ab HB) (ab Hr)
end Go.Proofs.YtichhjfjcinjgaaGreatDoor
namespace Go.Proofs.YtichhjfjcinjgaaGreatDoor
open Go.RowKit
attribute [local go_sem ↓] Go.wp_at_zero Go.wp_at_succ
theorem qC {s:ByteArray}{k:Nat} (hk:k<s.size) (h:isLet (aD s k)∨cX (aD s k)):cJ s k=cJ s (k+1):=by rw[cJ,dif_pos ⟨hk,h⟩]
theorem Av {s:ByteArray}{k:Nat} (h:¬(isLet (aD s k)∨cX (aD s k))):cJ s k=k:=by rw[cJ,dif_neg (fun q=>h q.2)]
theorem Cr {s:ByteArray}{k:Nat} (h:¬k<s.size):cJ s k=k:=by rw[cJ,dif_neg (fun q=>h q.1)]
theorem FE (W:World) (s:ByteArray) (a:Nat) (ha:a<s.size) (hs:s.size≤65536) :
  Calls Tryz.prog 62 #[.string s,.int .i64 (a:Int)] W fun e w=>e=.returned (.tuple #[.int .i64 ((cn s a).1:Int),.int .i64 ((cn s a).2.1:Int),.int .i64 ((cn s a).2.2:Int)])∧Below W.heap.size W w:=by
 obtain ⟨x0,hg⟩:∃x:Nat,s[a].toNat=x:=⟨_,rfl⟩
 have dL:aD s a=x0:=(df s a ha).trans hg
 have B0:x0<256:=by rw[←dL];exact du s a
 have a0:(0:Int)≤(a:Int):=zH _
 have a1:(a:Int)<(s.size:Int):=by omega
 have wu:=zE W.heap.size W
 have Jz:=al dL
 clear dL
 go_enter Tryz.func62,Tryz.ntmps62
 go_wp2
 go_loopg [8] (s.size-a) (fun gk v8 wr=>∃(m:Nat),v8=.int .i64 (m:Int)∧gk=s.size-m∧a≤m∧m≤s.size∧wr=W∧Hid (cJ s a=cJ s m))
 case atStart=>exact ⟨a,rfl,rfl,zD _,by omega,rfl,rfl⟩
 case round =>
  obtain ⟨m,rfl,aU,ham,ej,KA,HN⟩:=hrel
  obtain rfl:W=wr:=KA.symm
  have bz:=al aU
  clear aU KA
  by_cases B9:m<s.size
  ·obtain ⟨x,hx⟩:∃x:Nat,s[m].toNat=x:=⟨_,rfl⟩
   have dL:aD s m=x:=(df s m B9).trans hx
   have cY:x<256:=by rw[←dL];exact du s m
   have k0:(0:Int)≤(m:Int):=zH _
   have k1:(m:Int)<(s.size:Int):=by omega
   have iX:=al dL
   clear dL
   go_wp2_with fail
   refine (ib W x cY).mono ?_
   rintro e w' ⟨b,rfl,he,et⟩
   obtain rfl:W=w':=he.symm
   clear he
   cases b with
   |true =>
    have I8:Hid (cJ s a=cJ s (m+1)):=(ab HN).trans (qC B9 (.inl (by rw[ab iX];exact et.1 rfl)))
    clear et HN
    go_wp2
    go_roundg (s.size-(m+1))
    case measure=>have:=ab bz;omega
    case rel=>exact ⟨m+1,by go_num,rfl,by omega,by omega,rfl,I8⟩
   |false =>
    have n1:¬isLet x:=fun q=>by have:=et.2 q;cases this
    have M1:=al n1
    clear et n1
    go_wp2_with fail
    refine (kT W x cY).mono ?_
    rintro e w' ⟨b,rfl,he,et⟩
    obtain rfl:W=w':=he.symm
    clear he
    cases b with
    |true =>
     have I8:Hid (cJ s a=cJ s (m+1)):=(ab HN).trans (qC B9 (.inr (by rw[ab iX];exact et.1 rfl)))
     clear et HN
     go_wp2
     go_roundg (s.size-(m+1))
     case measure=>have:=ab bz;omega
     case rel=>exact ⟨m+1,by go_num,rfl,by omega,by omega,rfl,I8⟩
    |false =>
     have HE:Hid (cJ s a=m):=(ab HN).trans (Av (by rw[ab iX];exact fun o=>o.elim (ab M1) (fun q=>by have:=et.2 q;cases this)))
     clear et HN M1 iX
     go_wp2_with fail
     refine (ib W x0 B0).mono ?_
     rintro e w' ⟨b,rfl,he,et⟩
     obtain rfl:W=w':=he.symm
     clear he
     cases b with
     |true =>
      have Ho:Hid (cn s a=(1,m,0)):=by show _=_;unfold cn;rw[ab Jz,if_pos (et.1 rfl),ab HE]
      clear et
      go_wp2
      go_ret3
      exact ⟨by rw[ab Ho];rfl,wu⟩
     |false =>
      have n1:¬isLet x0:=fun q=>by have:=et.2 q;cases this
      have N1:=al n1
      clear et n1
      go_wp2_with fail
      refine (kT W x0 B0).mono ?_
      rintro e w' ⟨b,rfl,he,et⟩
      obtain rfl:W=w':=he.symm
      clear he
      cases b with
      |true =>
       have hd:cX x0:=et.1 rfl
       have ho:cn s a=if wv (aI (s.extract a m))=none then (0,0,41) else (2,m,0):=by unfold cn;rw[ab Jz,if_neg (ab N1),if_pos hd,ab HE]
       have Ho:=al ho
       have m0:(0:Int)≤(m:Int):=zH _
       have m1:(a:Int)≤(m:Int):=by omega
       have m2:(m:Int)≤(s.size:Int):=by omega
       clear et hd ho
       go_wp2_with fail
       refine (pX W (s.extract a m) (by rw[ByteArray.size_extract];omega)).mono ?_
       rintro e w1 ⟨he,⟨u,rfl,hu⟩|⟨rfl,hu⟩⟩
       ·obtain rfl:W=w1:=he.symm
        have Hq:Hid (cn s a=(2,m,0)):=by show _=_;rw[ab Ho,hu];rfl
        clear hu he
        go_wp2
        go_ret3
        exact ⟨by rw[ab Hq];rfl,wu⟩
       ·obtain rfl:W=w1:=he.symm
        have Hq:Hid (cn s a=(0,0,41)):=by show _=_;rw[ab Ho,hu];rfl
        clear hu he
        go_wp2
        go_ret3
        exact ⟨by rw[ab Hq];rfl,wu⟩
      |false =>
       have n2:¬cX x0:=fun q=>by have:=et.2 q;cases this
       have N2:=al n2
       clear et n2
       by_cases hq:x0=39∨x0=34
       ·have ho:cn s a=match dW s x0 (a+1) with|none=>(0,0,42)|some (_,e)=>(3,e,0):=by unfold cn;rw[ab Jz,if_neg (ab N1),if_neg (ab N2),if_pos hq];cases dW s x0 (a+1)<;>rfl
        have Ho:=al ho
        have xJ:=pW W s a ha hs
        rw[ab Jz] at xJ
        have PT:=al xJ
        clear ho xJ
        have nO:((x0:Int)==34)=true∨(((x0:Int)==34)=false∧((x0:Int)==39)=true):=by
         rcases hq with rfl|rfl
         ·exact .inr ⟨rfl,rfl⟩
         ·exact .inl rfl
        rcases nO with g1|⟨g1,g2⟩
        all_goals (
         clear hq
         go_wp2_with fail
         refine (ab PT).mono ?_
         rintro e w2 ⟨bd,⟨h1,rfl⟩|⟨l,z,v',h1,rfl,hv⟩⟩
         ·have Hq:Hid (cn s a=(0,0,42)):=by show _=_;rw[ab Ho,h1]
          have uV:=al bd
          clear h1 bd
          go_wp2
          go_ret3
          exact ⟨by rw[ab Hq];rfl,ab uV⟩
         ·have Hq:Hid (cn s a=(3,z,0)):=by show _=_;rw[ab Ho,h1]
          have hz:=CH _ (a+1) l z (zD _) h1
          have z0:((z:Int)==0)=false:=beq_eq_false_iff_ne.2 (by omega)
          obtain ⟨va,vn,vc,rfl⟩:=hv.shape
          have uV:=al bd
          clear h1 bd hz hv
          go_wp2
          go_ret3
          exact ⟨by rw[ab Hq];rfl,ab uV⟩)
       ·have g1:((x0:Int)==34)=false:=beq_eq_false_iff_ne.2 (by omega)
        have g2:((x0:Int)==39)=false:=beq_eq_false_iff_ne.2 (by omega)
        have ho:cn s a=if jL x0 then (4,a+1,0) else (0,0,40):=by unfold cn;rw[ab Jz,if_neg (ab N1),if_neg (ab N2),if_neg hq]
        have Ho:=al ho
        clear ho hq
        go_wp2_with fail
        refine (vL W x0).mono ?_
        rintro e w' ⟨b,rfl,he,et⟩
        obtain rfl:W=w':=he.symm
        clear he
        cases b with
        |true =>
         have Hq:Hid (cn s a=(4,a+1,0)):=by show _=_;rw[ab Ho,if_pos (et.1 rfl)]
         clear et
         go_wp2
         go_ret3
         exact ⟨by rw[ab Hq];first|rfl|go_num,wu⟩
        |false =>
         have Hq:Hid (cn s a=(0,0,40)):=by show _=_;rw[ab Ho,if_neg (fun q=>by have:=et.2 q;cases this)]
         clear et
         go_wp2
         go_ret3
         exact ⟨by rw[ab Hq];rfl,wu⟩
  ·have HE:Hid (cJ s a=m):=(ab HN).trans (Cr B9)
   obtain rfl:m=s.size:=by omega
   have q0:decide ((s.size:Int)<(s.size:Int))=false:=by simp
   clear HN B9
   go_wp2_with fail
   refine (ib W x0 B0).mono ?_
   rintro e w' ⟨b,rfl,he,et⟩
   obtain rfl:W=w':=he.symm
   clear he
   cases b with
   |true =>
    have Ho:Hid (cn s a=(1,s.size,0)):=by show _=_;unfold cn;rw[ab Jz,if_pos (et.1 rfl),ab HE]
    clear et
    go_wp2
    go_ret3
    exact ⟨by rw[ab Ho];rfl,wu⟩
   |false =>
    have n1:¬isLet x0:=fun q=>by have:=et.2 q;cases this
    have N1:=al n1
    clear et n1
    go_wp2_with fail
    refine (kT W x0 B0).mono ?_
    rintro e w' ⟨b,rfl,he,et⟩
    obtain rfl:W=w':=he.symm
    clear he
    cases b with
    |true =>
     have hd:cX x0:=et.1 rfl
     have ho:cn s a=if wv (aI (s.extract a s.size))=none then (0,0,41) else (2,s.size,0):=by unfold cn;rw[ab Jz,if_neg (ab N1),if_pos hd,ab HE]
     have Ho:=al ho
     have m0:(0:Int)≤(s.size:Int):=zH _
     have m1:(a:Int)≤(s.size:Int):=by omega
     have m2:(s.size:Int)≤(s.size:Int):=by omega
     clear et hd ho
     go_wp2_with fail
     refine (pX W (s.extract a s.size) (by rw[ByteArray.size_extract];omega)).mono ?_
     rintro e w1 ⟨he,⟨u,rfl,hu⟩|⟨rfl,hu⟩⟩
     ·obtain rfl:W=w1:=he.symm
      have Hq:Hid (cn s a=(2,s.size,0)):=by show _=_;rw[ab Ho,hu];rfl
      clear hu he
      go_wp2
      go_ret3
      exact ⟨by rw[ab Hq];rfl,wu⟩
     ·obtain rfl:W=w1:=he.symm
      have Hq:Hid (cn s a=(0,0,41)):=by show _=_;rw[ab Ho,hu];rfl
      clear hu he
      go_wp2
      go_ret3
      exact ⟨by rw[ab Hq];rfl,wu⟩
    |false =>
     have n2:¬cX x0:=fun q=>by have:=et.2 q;cases this
     have N2:=al n2
     clear et n2
     by_cases hq:x0=39∨x0=34
     ·have ho:cn s a=match dW s x0 (a+1) with|none=>(0,0,42)|some (_,e)=>(3,e,0):=by unfold cn;rw[ab Jz,if_neg (ab N1),if_neg (ab N2),if_pos hq];cases dW s x0 (a+1)<;>rfl
      have Ho:=al ho
      have xJ:=pW W s a ha hs
      rw[ab Jz] at xJ
      have PT:=al xJ
      clear ho xJ
      have nO:((x0:Int)==34)=true∨(((x0:Int)==34)=false∧((x0:Int)==39)=true):=by
       rcases hq with rfl|rfl
       ·exact .inr ⟨rfl,rfl⟩
       ·exact .inl rfl
      rcases nO with g1|⟨g1,g2⟩
      all_goals (
       clear hq
       go_wp2_with fail
       refine (ab PT).mono ?_
       rintro e w2 ⟨bd,⟨h1,rfl⟩|⟨l,z,v',h1,rfl,hv⟩⟩
       ·have Hq:Hid (cn s a=(0,0,42)):=by show _=_;rw[ab Ho,h1]
        have uV:=al bd
        clear h1 bd
        go_wp2
        go_ret3
        exact ⟨by rw[ab Hq];rfl,ab uV⟩
       ·have Hq:Hid (cn s a=(3,z,0)):=by show _=_;rw[ab Ho,h1]
        have hz:=CH _ (a+1) l z (zD _) h1
        have z0:((z:Int)==0)=false:=beq_eq_false_iff_ne.2 (by omega)
        obtain ⟨va,vn,vc,rfl⟩:=hv.shape
        have uV:=al bd
        clear h1 bd hz hv
        go_wp2
        go_ret3
        exact ⟨by rw[ab Hq];rfl,ab uV⟩)
     ·have g1:((x0:Int)==34)=false:=beq_eq_false_iff_ne.2 (by omega)
      have g2:((x0:Int)==39)=false:=beq_eq_false_iff_ne.2 (by omega)
      have ho:cn s a=if jL x0 then (4,a+1,0) else (0,0,40):=by unfold cn;rw[ab Jz,if_neg (ab N1),if_neg (ab N2),if_neg hq]
      have Ho:=al ho
      clear ho hq
      go_wp2_with fail
      refine (vL W x0).mono ?_
      rintro e w' ⟨b,rfl,he,et⟩
      obtain rfl:W=w':=he.symm
      clear he
      cases b with
      |true =>
       have Hq:Hid (cn s a=(4,a+1,0)):=by show _=_;rw[ab Ho,if_pos (et.1 rfl)]
       clear et
       go_wp2
       go_ret3
       exact ⟨by rw[ab Hq];first|rfl|go_num,wu⟩
      |false =>
       have Hq:Hid (cn s a=(0,0,40)):=by show _=_;rw[ab Ho,if_neg (fun q=>by have:=et.2 q;cases this)]
       clear et
       go_wp2
       go_ret3
       exact ⟨by rw[ab Hq];rfl,wu⟩
theorem DW {s:ByteArray}{k p n:Nat} (h:bj s s.size k=(p,false)):tk s k n=.inr (p,43):=by
 unfold tk
 rw[jB,h,if_pos rfl]
theorem JP {s:ByteArray}{k n:Nat} (h:bj s s.size k=(s.size,true)):tk s k n=.inl [⟨5,s.size,⟨#[]⟩⟩]:=by
 unfold tk
 rw[jB,h,if_neg (by simp),if_pos rfl]
theorem FT {s:ByteArray}{k p:Nat} (hk:p<s.size) (h:bj s s.size k=(p,true)):tk s k 16383=.inr (p,45):=by
 unfold tk
 rw[jB,h,if_neg (by simp),if_neg (by show ¬p=s.size;omega),if_pos rfl]
theorem JO {s:ByteArray}{k p n c:Nat} (hk:p<s.size) (h:bj s s.size k=(p,true)) (hn:n<16383) (h1:(cn s p).2.2=c) (hc:c≠0):tk s k n=.inr (p,c):=by
 unfold tk
 rw[jB,h,if_neg (by simp),if_neg (by show ¬p=s.size;omega),if_neg (by omega)]
 show (if (cn s p).2.2=0 then _ else Sum.inr (p,(cn s p).2.2))=_
 rw[h1,if_neg hc]
theorem JN {s:ByteArray}{k p n t e:Nat} (hk:p<s.size) (h:bj s s.size k=(p,true)) (hn:n<16383) (h1:cn s p=(t,e,0)):tk s k n=uF ⟨t,p,s.extract p e⟩ (tk s e (n+1)):=by
 have hle:=oc hk (by rw[h1])
 rw[h1] at hle
 unfold tk
 rw[jB,h,if_neg (by simp),if_neg (by show ¬p=s.size;omega),if_neg (by omega)]
 show (if (cn s p).2.2=0 then uF ⟨(cn s p).1,p,s.extract p (cn s p).2.1⟩ (jB s s.size (cn s p).2.1 (n+1)) else _)=_
 rw[h1,if_pos rfl]
 rw[vO s s.size (s.size+1) e (n+1) hle.2 (by have:=hle.1;simp at this;omega) (by omega)]
theorem yE (W:World) (s:ByteArray):Calls Tryz.prog 30 #[.string s] W (IU s W):=by
 obtain ⟨i0,hi,gf,fX,dY⟩:=info_parts Tryz.xG
 have bJ:=zE W.heap.size W
 by_cases h0:65536<s.size
 ·have Hr:=al (pn h0)
  have e0:=QJ (a:=s.size) (k:=65536) (by omega)
  clear h0
  go_enter Tryz.func30,Tryz.ntmps30
  go_wp2
  go_ret3
  exact ⟨bJ,by rw[ab Hr];exact ⟨by decide,rfl⟩⟩
 ·have e0:=QK (a:=s.size) (k:=65536) (by omega)
  have hs:s.size≤65536:=by omega
  have H0:=al h0
  clear h0
  go_enter Tryz.func30,Tryz.ntmps30
  go_wp2_with fail
  refine (DO W s (by omega)).mono ?_
  rintro e w1 ⟨rfl,he⟩
  obtain rfl:W=w1:=he.symm
  clear he
  by_cases h1:0≤cW s 0
  ·have Hr:=al (yM (ab H0) h1)
   obtain ⟨u,hu⟩:∃u:Nat,cW s 0=(u:Int):=⟨(cW s 0).toNat,by omega⟩
   rw[hu] at Hr ⊢
   have e1:decide (0≤(u:Int))=true:=by simp
   clear hu h1
   go_wp2
   go_ret3
   exact ⟨bJ,by rw[ab Hr];exact ⟨by decide,rfl⟩⟩
  ·have Hr:=al (CJ (ab H0) h1)
   obtain ⟨u,hu⟩:∃u,u=cW s 0:=⟨_,rfl⟩
   rw[←hu] at h1 ⊢
   have e1:decide (0≤u)=false:=by simp;omega
   have AM:Hid (W.ownsRow W.heap.size 107 3 (.slice none 0 0) 0 (dS [])):=⟨rfl,.inl ⟨rfl,rfl⟩⟩
   clear hu h1
   go_wp2
   go_loopg [6,7,8,9,10,11,12] s.size (fun gk v6 v7 _ _ _ _ _ wr=>∃(k n:Nat) (pre:List Tok) (va:Option Addr) (vc:Nat),v6=.slice va n vc∧v7=.int .i64 (k:Int)∧gk=s.size-k∧k≤s.size∧n=pre.length∧n≤16383∧Hid (wr.ownsRow W.heap.size 107 3 (.slice va n vc) n (dS pre))∧Hid (tk s 0 0=gY pre (tk s k n))∧Hid (Below W.heap.size W wr))
   case atStart=>exact ⟨0,0,[],none,0,rfl,rfl,rfl,by omega,rfl,by omega,AM,(lb _).symm,bJ⟩
   case round =>
    obtain ⟨k,n,pre,va,vc,rfl,rfl,aU,hk,hn,Dj,HR,Hq,HB⟩:=hrel
    have bz:=al aU
    have Hn:=al hn
    have Zx:W.heap.size≤wr.heap.size:=(ab HB).size
    clear aU hn AM
    have Vm:=DP wr s hs k hk
    have Ez:=zk s s.size k hk
    obtain ⟨p,ok,hp⟩:∃p ok,bj s s.size k=(p,ok):=⟨_,_,rfl⟩
    rw[hp] at Vm
    have pD:k≤p:=by rw[hp] at Ez;exact Ez.1
    have yu:p≤s.size:=by rw[hp] at Ez;exact Ez.2
    have Hp:=al hp
    have Z3:=al Vm
    clear hp Vm Ez
    go_wp2_with fail
    refine (ab Z3).mono ?_
    rintro e w' ⟨rfl,he⟩
    obtain rfl:wr=w':=he.symm
    clear he Z3
    cases ok with
    |false =>
     have pR:Hid (uI W.heap.size wr (.returned (.tuple #[.slice none 0 0,.int .i64 (p:Int),.int .i64 43])) (jA s)):=by
      show uI _ _ _ _
      rw[ab Hr,ab Hq,DW (ab Hp)]
      exact ⟨by decide,rfl⟩
     clear Hq Hr Hp
     go_wp2
     go_ret3
     exact ⟨ab HB,ab pR⟩
    |true =>
     by_cases oC:p=s.size
     ·subst oC
      have q1:((s.size:Int)==(s.size:Int))=true:=by simp
      have O1:Hid (n+1≤maxLen):=by show _≤_;unfold maxLen;omega
      have O2:Hid ((n+1)*32≤140737488355328):=by show _≤_;omega
      have Ht:Hid (jA s=.inl (pre++[⟨5,s.size,⟨#[]⟩⟩])):=by show _=_;rw[ab Hr,ab Hq,JP (ab Hp)];rfl
      clear Hq Hr Hp
      go_wp2_with (at_builtin;refine wpList_append_own_at _ rfl _ _ 51 rfl W.heap.size 107 i0 (.agg #[.int .i64 0,.int .i64 0,.string ⟨#[]⟩]) 3 32 Tryz.underlying51 hi gf fX dY rfl (by decide) _ _ _ rfl ((ab HR).alloc _) ⟨wr.heap.size,0,none⟩ 1 1 [.int .i64 5,.int .i64 (s.size:Int),.string ⟨#[]⟩] rfl rfl (db _ _ _) (by simp[Value.oneCell']) (ab O1) (ab O2) (by rw[zJ];omega) ?_;intro v4 w4 bI ba _ cH;have TM:Hid (Ext wr (.slice va n vc) w4 v4):=Ext.grown ba cH;have Lt:=al bI;clear bI ba cH)
      have CD:Hid (Below W.heap.size W w4):=(ab HB).trans ((ab TM).below Zx (fun q e=>((ab HR).lt q e).1))
      obtain ⟨a4,c4,rfl⟩:=nT (ab Lt)
      go_ret3
      refine ⟨ab CD,?_⟩
      rw[ab Ht]
      refine ⟨_,rfl,?_⟩
      rw[kU,zK,←ab Hn]
      exact ab Lt
     ·have q1:((p:Int)==(s.size:Int))=false:=beq_eq_false_iff_ne.2 (by omega)
      have GR:p<s.size:=by omega
      by_cases Pj:n=16383
      ·subst Pj
       have pR:Hid (uI W.heap.size wr (.returned (.tuple #[.slice none 0 0,.int .i64 (p:Int),.int .i64 45])) (jA s)):=by
        show uI _ _ _ _
        rw[ab Hr,ab Hq,FT GR (ab Hp)]
        exact ⟨by decide,rfl⟩
       clear Hq Hr Hp
       go_wp2
       go_ret3
       exact ⟨ab HB,ab pR⟩
      ·have EA:n<16383:=by omega
       have q2:((n:Int)==16383)=false:=beq_eq_false_iff_ne.2 (by omega)
       have Vn:=FE wr s p GR hs
       have Ft:=fun h=>oc (s:=s) GR h
       obtain ⟨t,en,er,ho⟩:∃t en er,cn s p=(t,en,er):=⟨_,_,_,rfl⟩
       rw[ho] at Vn Ft
       have Ho:=al ho
       have Z4:=al Vn
       have Xj:=al Ft
       clear ho Vn Ft oC Pj
       go_wp2_with fail
       refine (ab Z4).mono ?_
       rintro e w2 ⟨rfl,bd⟩
       have cP:Hid (Below W.heap.size W w2):=(ab HB).trans (bd.mono Zx)
       have lE:Hid (w2.ownsRow W.heap.size 107 3 (.slice va n vc) n (dS pre)):=LG (ab HR) bd
       clear bd HB HR Z4
       by_cases her:er=0
       ·subst her
        obtain ⟨l1,l2⟩:p<en∧en≤s.size:=ab Xj rfl
        have O1:Hid (n+1≤maxLen):=by show _≤_;unfold maxLen;omega
        have O2:Hid ((n+1)*32≤140737488355328):=by show _≤_;omega
        have DK:Hid (tk s 0 0=gY (pre++[⟨t,p,s.extract p en⟩]) (tk s en (n+1))):=by show _=_;rw[ab Hq,JN GR (ab Hp) EA (ab Ho),Ap]
        have HR:=lE
        have p0:(0:Int)≤(p:Int):=zH _
        have p1:(p:Int)≤(en:Int):=by omega
        have p2:(en:Int)≤(s.size:Int):=by omega
        have hW2:W.heap.size≤w2.heap.size:=(ab cP).size
        clear Hq Hp Ho Xj lE
        go_wp2_with (at_builtin;refine wpList_append_own_at _ rfl _ _ 51 rfl W.heap.size 107 i0 (.agg #[.int .i64 0,.int .i64 0,.string ⟨#[]⟩]) 3 32 Tryz.underlying51 hi gf fX dY rfl (by decide) _ _ _ rfl ((ab HR).alloc _) ⟨w2.heap.size,0,none⟩ 1 1 [.int .i64 (t:Int),.int .i64 (p:Int),.string (s.extract p en)] rfl rfl (db _ _ _) (by simp[Value.oneCell']) (ab O1) (ab O2) (by rw[zJ];omega) ?_;intro v4 w4 bI ba _ cH;have TM:Hid (Ext w2 (.slice va n vc) w4 v4):=Ext.grown ba cH;have Lt:=al bI;clear bI ba cH)
        have CD:Hid (Below W.heap.size W w4):=(ab cP).trans ((ab TM).below hW2 (fun q e=>((ab HR).lt q e).1))
        obtain ⟨a4,c4,rfl⟩:=nT (ab Lt)
        have HR5:Hid (w4.ownsRow W.heap.size 107 3 (.slice a4 (n+1) c4) (n+1) (dS (pre++[⟨t,p,s.extract p en⟩]))):=by rw[kU];exact ab Lt
        clear Lt TM HR
        go_roundg (s.size-en)
        case measure=>have:=ab bz;omega
        case rel=>exact ⟨en,n+1,_,a4,c4,rfl,rfl,rfl,l2,by rw[zK,←ab Hn];rfl,by omega,HR5,DK,CD⟩
       ·have q3:((er:Int) != 0)=true:=by simp;omega
        have pR:Hid (uI W.heap.size w2 (.returned (.tuple #[.slice none 0 0,.int .i64 (p:Int),.int .i64 (er:Int)])) (jA s)):=by
         show uI _ _ _ _
         rw[ab Hr,ab Hq,JO GR (ab Hp) EA (by rw[ab Ho]) her]
         exact ⟨her,rfl⟩
        clear Hq Hr Hp Ho Xj
        go_wp2
        go_ret3
        exact ⟨ab cP,ab pR⟩
def pS (W:World) (v:Value) (ts:List Tok):Prop:=∃(a:Option Addr) (c:Nat),v=.slice a ts.length c∧ts.length≤c∧(0<ts.length→∃g,a=some ⟨g,0,none⟩∧g<W.heap.size∧∀i t,ts[i]?=some t→W.cell? ⟨g,i*3,none⟩=some (.int .i64 (t.kind:Int))∧W.cell? ⟨g,i*3+1,none⟩=some (.int .i64 (t.place:Int))∧W.cell? ⟨g,i*3+2,none⟩=some (.string t.text))
theorem tY (W:World):pS W (.slice none 0 0) []:=⟨none,0,rfl,zD _,fun h=>by simp at h⟩
theorem pS.up {W w:World}{v:Value}{ts:List Tok} (h:pS W v ts) (hb:Below W.heap.size W w):pS w v ts:=by
 obtain ⟨a,c,rfl,hc,h3⟩:=h
 refine ⟨a,c,rfl,hc,fun hp=>?_⟩
 obtain ⟨g,rfl,h4,h5⟩:=h3 hp
 exact ⟨g,rfl,Nat.lt_of_lt_of_le h4 hb.size,fun i t ht=>⟨(hb.cell (p:=⟨g,i*3,none⟩) h4).trans (h5 i t ht).1,(hb.cell (p:=⟨g,i*3+1,none⟩) h4).trans (h5 i t ht).2.1,(hb.cell (p:=⟨g,i*3+2,none⟩) h4).trans (h5 i t ht).2.2⟩⟩
theorem vP:∀(ts:List Tok) (i:Nat) (t:Tok),ts[i]?=some t→(dS ts)[i*3]?=some (.int .i64 (t.kind:Int))∧(dS ts)[i*3+1]?=some (.int .i64 (t.place:Int))∧(dS ts)[i*3+2]?=some (.string t.text)
 |[],i,t,h=>by simp at h
 |x::r,0,t,h=>by
  obtain rfl:x=t:=by simpa using h
  exact ⟨rfl,rfl,rfl⟩
 |x::r,i+1,t,h=>by
  have:=vP r i t (by simpa using h)
  rw[show (i+1)*3=i*3+3 by omega]
  exact this
theorem EH {W:World}{B:Nat}{v:Value}{ts:List Tok} (h:W.ownsRow B 107 3 v ts.length (dS ts)):pS W v ts:=by
 obtain ⟨h1,⟨rfl,h0⟩|⟨g,c,cur,rfl,h2,h3,h4,h5,h6,h7⟩⟩:=h
 ·obtain rfl:=List.eq_nil_of_length_eq_zero h0
  exact tY W
 ·refine ⟨_,c,rfl,h4,fun hp=>⟨g,rfl,(zA h3).1,fun i t ht=>?_⟩⟩
  have o8:∀(j:Nat) (u:Value),(dS ts)[j]?=some u→W.cell? ⟨g,j,none⟩=some u:=fun j u hj=>by
   rw[cell_of_row _ _ _ _ _ _ h3,←Array.getElem?_toList]
   rw[←h7,List.getElem?_take] at hj
   split at hj
   ·exact hj
   ·cases hj
  obtain ⟨e1,e2,e3⟩:=vP ts i t ht
  exact ⟨o8 _ _ e1,o8 _ _ e2,o8 _ _ e3⟩
theorem IU.ret {s:ByteArray}{W w:World}{e:Ending} (h:IU s W e w):∃(v:Value) (k c:Nat) (ts:List Tok),e=.returned (.tuple #[v,.int .i64 (k:Int),.int .i64 (c:Int)])∧pS w v ts∧((c=0∧k=0∧jA s=.inl ts)∨(c≠0∧ts=[]∧v=.slice none 0 0∧jA s=.inr (k,c))):=by
 obtain ⟨_,h2⟩:=h
 cases ht:jA s with
 |inl ts =>
  rw[ht] at h2
  obtain ⟨v,rfl,h3⟩:=h2
  exact ⟨v,0,0,ts,rfl,EH h3,.inl ⟨rfl,rfl,rfl⟩⟩
 |inr p =>
  obtain ⟨k,c⟩:=p
  rw[ht] at h2
  obtain ⟨hc,rfl⟩:=h2
  exact ⟨_,k,c,[],rfl,tY w,.inr ⟨hc,rfl,rfl,rfl⟩⟩
theorem FQ (s:ByteArray):∀(f k n:Nat) (ts:List Tok),n≤16383→jB s f k n=.inl ts→n+ts.length≤16384:=by
 intro f
 induction f with
 |zero=>intro k n ts _ h;cases h
 |succ f ih =>
  intro k n ts hn h
  rw[jB] at h
  split at h
  ·cases h
  ·split at h
   ·have:=Sum.inl.inj h
    rw[←this]
    simp
    omega
   ·split at h
    ·cases h
    ·split at h
     ·cases hr:jB s f (cn s (bj s s.size k).1).2.1 (n+1) with
      |inl l =>
       rw[hr] at h
       have:=Sum.inl.inj h
       have h2:=ih _ _ l (by omega) hr
       rw[←this,List.length_cons]
       omega
      |inr e=>rw[hr] at h;cases h
     ·cases h
theorem FP {s:ByteArray}{ts:List Tok} (h:jA s=.inl ts):ts.length≤16384:=by
 unfold jA at h
 split at h
 ·cases h
 ·split at h
  ·cases h
  ·have:=FQ s _ 0 0 ts (by omega) h
   omega
end Go.Proofs.YtichhjfjcinjgaaGreatDoor

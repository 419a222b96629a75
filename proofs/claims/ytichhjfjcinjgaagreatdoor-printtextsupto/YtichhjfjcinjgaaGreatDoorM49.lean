import Derived.Test.YtichhjfjcinjgaaGreatDoorM26
import Derived.Test.YtichhjfjcinjgaaGreatDoorM46
import Derived.Test.YtichhjfjcinjgaaGreatDoorQX2
import Derived.Shelf.Vars
set_option maxHeartbeats 4000000
set_option maxRecDepth 100000
namespace Go.Proofs.YtichhjfjcinjgaaGreatDoor
open Go.RowKit Go.Lib
attribute [local go_sem ↓] Go.wp_at_zero Go.wp_at_succ
theorem xV {s:ByteArray}{k x:Nat} (hb:aD s k=x) (h0:¬x=0) (h1:¬x=10) (h2:¬x=92):cY s k=some (x,1):=by
 unfold cY
 rw[hb,if_neg (fun o=>o.elim h0 h1),if_neg h2]
theorem Aq {s:ByteArray}{k x:Nat} (hb:aD s k=x) (h:x=0∨x=10):cY s k=none:=by
 unfold cY
 rw[hb,if_pos h]
theorem Ap {s:ByteArray}{k:Nat} (hb:aD s k=92):cY s k=dw ((aI s).drop k):=by
 unfold cY
 rw[hb,if_neg (by decide),if_pos rfl]
theorem Bytes.drew {base:Nat}{W:World}{v:Value}{l:List Nat} (h:Bytes base W v l) (n:Nat):Bytes base (W.drewN n) v l:=h
theorem qD (W:World) (s:ByteArray) (ze:Nat) (ha:ze<s.size) (hs:s.size≤65536):Calls Tryz.prog 105 #[.string s,.int .i64 (ze:Int)] W (UQ W (ef s (aD s ze) (ze+1))):=by
 obtain ⟨i0,hi,fU,dS,da⟩:=info_parts Tryz.infoByte
 have bG:=zE W.heap.size W
 obtain ⟨q,hq,gT,gq⟩:=cj s ze ha
 have Sq:aD s ze=q:=(dr s ze ha).trans gq
 rw[Sq]
 have a0:(0:Int)≤(ze:Int):=zH _
 have a1:(ze:Int)<(s.size:Int):=by omega
 have JJ:Hid (Bytes W.heap.size W (.slice none 0 0) []):=qq _ _
 clear hq Sq
 go_enter Tryz.func105,Tryz.ntmps105
 go_wp2
 go_loopg [7,8,9,10,11] (s.size-(ze+1)) (fun gk v7 v8 _ _ _ wr=>∃(k:Nat) (pre:List Nat) (va:Option Addr) (vn vc:Nat),v7=.slice va vn vc∧v8=.int .i64 (k:Int)∧gk=s.size-k∧k≤s.size∧pre.length≤k∧Hid (Bytes W.heap.size wr (.slice va vn vc) pre)∧Hid (ef s q (ze+1)=(ef s q k).map fun r=>(pre++r.1,r.2))∧Hid (Below W.heap.size W wr))
 case atStart=>exact ⟨ze+1,[],_,_,_,rfl,by go_num,rfl,by omega,by simp,JJ,by show _=_;simp,bG⟩
 case round =>
  obtain ⟨k,pre,va,vn,vc,rfl,rfl,aW,hk,Fc,HY,Hu,HB⟩:=hrel
  have bz:=al aW
  clear aW JJ gq
  by_cases aM:k<s.size
  ·obtain ⟨x,hx⟩:∃x:Nat,s[k].toNat=x:=⟨_,rfl⟩
   have dP:aD s k=x:=(dr s k aM).trans hx
   have c8:x<256:=by rw[←dP];exact dy s k
   have k0:(0:Int)≤(k:Int):=zH _
   have k1:(k:Int)<(s.size:Int):=by omega
   have jo:=al dP
   have fJ:W.heap.size≤wr.heap.size:=(ab HB).size
   have O1:Hid (pre.length+1≤maxLen):=by show _≤_;unfold maxLen;omega
   have O2:Hid ((pre.length+1)*1≤140737488355328):=by show _≤_;omega
   clear dP
   by_cases ym:x=q
   ·have Hr:Hid (ef s q (ze+1)=some (pre,k+1)):=by
     show _=_
     rw[ab Hu,mh aM ((ab jo).trans ym)]
     simp
    have fq:((x:Int) != (q:Int))=false:=by simp;omega
    have kn:decide (s.size≤k)=false:=by simp;omega
    clear Hu ym
    go_wp2
    go_ret2
    exact Gs (n:=k+1) (ab HB) (ab Hr) (ab HY)
   ·have fq:((x:Int) != (q:Int))=true:=by simp;omega
    have iP:¬aD s k=q:=by rw[ab jo];exact ym
    by_cases c0:x=0∨x=10
    ·have Hr:Hid (ef s q (ze+1)=none):=by
      show _=_
      rw[ab Hu,pM aM iP (Aq (ab jo) c0)]
      rfl
     clear Hu ym iP
     rcases c0 with c0|c0
     ·have f0:=lL (c:=x) (k:=0) (by omega)
      clear c0
      go_wp2
      go_ret2
      exact qJ (ab HB) (ab Hr)
     ·have f0:=gw (c:=x) (k:=0) (by omega)
      have f1:=lL (c:=x) (k:=10) (by omega)
      clear c0
      go_wp2
      go_ret2
      exact qJ (ab HB) (ab Hr)
    ·obtain ⟨c0,c1⟩:=not_or.1 c0
     have f0:=gw (c:=x) (k:=0) (by omega)
     have f1:=gw (c:=x) (k:=10) (by omega)
     by_cases c2:x=92
     ·have f2:((x:Int) != 92)=false:=by simp;omega
      have Zw:=Ap ((ab jo).trans c2)
      have XN:=al Zw
      have nP:=al iP
      clear Zw iP ym c0 c1 c2
      go_wp2_with fail
      refine (zt wr s k aM hs).mono ?_
      rintro e w2 ⟨bd,⟨ho,rfl⟩|⟨b,n,ho,rfl⟩⟩
      ·have Hr:Hid (ef s q (ze+1)=none):=by
        show _=_
        rw[ab Hu,pM aM (ab nP) ((ab XN).trans ho)]
        rfl
       have cS:Hid (Below W.heap.size W w2):=(ab HB).trans (bd.mono (ab HB).size)
       clear ho bd Hu
       go_wp2
       go_ret2
       exact qJ (ab cS) (ab Hr)
      ·obtain ⟨p1,p2,p3⟩:=iE ((ab XN).trans ho) aM
       have Hr:Hid (ef s q (ze+1)=(ef s q (k+n)).map fun r=>((pre++[b])++r.1,r.2)):=by
        show _=_
        rw[ab Hu,mK aM (ab nP) ((ab XN).trans ho),Option.map_map]
        congr 1
        funext r
        simp
       have cS:Hid (Below W.heap.size W w2):=(ab HB).trans (bd.mono (ab HB).size)
       have Kk:Hid (Bytes W.heap.size w2 (.slice va vn vc) pre):=(ab HY).up bd
       have Wf:W.heap.size≤w2.heap.size:=(ab cS).size
       have n0:((n:Int)==0)=false:=by simp;omega
       clear ho bd Hu HY HB
       go_wp2_with (at_builtin;refine wpList_append_own_at _ rfl _ _ 58 rfl W.heap.size 5 i0 (.int .u8 0) 1 1 Tryz.underlying58 hi fU dS da rfl (by decide) _ _ _ rfl ((ab Kk).alloc _) ⟨w2.heap.size,0,none⟩ 1 1 [.int .u8 (b:Int)] rfl rfl (dq _ _ _) (by simp[Value.oneCell']) (ab O1) (ab O2) (by rw[zJ];omega) ?_;intro v4 w4 bK ba _ cK;have HP:Hid (ow W.heap.size w2 (.slice va vn vc) pre [b] (.returned v4) w4):=eN (ys:=[b]) bK rfl rfl ba cK;clear bK ba cK)
       obtain ⟨v5,kX,ey,dX⟩:=ab HP
       obtain rfl:v4=v5:=by simpa using kX
       obtain ⟨Bp,BH,Bo,rfl⟩:=ey.shape
       have eh:Hid (Below W.heap.size W w4):=(ab cS).trans (dX.below Wf (ab Kk).eL)
       have qB:=al ey
       clear ey dX kX HP
       go_roundg (s.size-(k+n))
       case measure=>have:=ab bz;omega
       case rel=>exact ⟨k+n,pre++[b],_,_,_,rfl,by go_num,rfl,by omega,by simp only[zK,List.length_singleton];omega,qB,Hr,eh⟩
     ·have f2:((x:Int) != 92)=true:=by simp;omega
      have Hr:Hid (ef s q (ze+1)=(ef s q (k+1)).map fun r=>((pre++[x])++r.1,r.2)):=by
       show _=_
       rw[ab Hu,mK aM iP (xV (ab jo) c0 c1 c2),Option.map_map]
       congr 1
       funext r
       simp
      clear Hu ym iP c0 c1 c2
      go_wp2_with (at_builtin;refine wpList_append_own_at _ rfl _ _ 58 rfl W.heap.size 5 i0 (.int .u8 0) 1 1 Tryz.underlying58 hi fU dS da rfl (by decide) _ _ _ rfl ((ab HY).alloc _) ⟨wr.heap.size,0,none⟩ 1 1 [.int .u8 (x:Int)] rfl rfl (dq _ _ _) (by simp[Value.oneCell']) (ab O1) (ab O2) (by rw[zJ];omega) ?_;intro v4 w4 bK ba _ cK;have HP:Hid (ow W.heap.size wr (.slice va vn vc) pre [x] (.returned v4) w4):=eN (ys:=[x]) bK rfl rfl ba cK;clear bK ba cK)
      obtain ⟨v5,kX,ey,dX⟩:=ab HP
      obtain rfl:v4=v5:=by simpa using kX
      obtain ⟨Bp,BH,Bo,rfl⟩:=ey.shape
      have eh:Hid (Below W.heap.size W w4):=(ab HB).trans (dX.below fJ (ab HY).eL)
      have qB:=al ey
      clear ey dX kX HP
      go_roundg (s.size-(k+1))
      case measure=>have:=ab bz;omega
      case rel=>exact ⟨k+1,pre++[x],_,_,_,rfl,by go_num,rfl,by omega,by simp only[zK,List.length_singleton];omega,qB,Hr,eh⟩
  ·have Hr:Hid (ef s q (ze+1)=none):=by
    show _=_
    rw[ab Hu,mj aM]
    rfl
   obtain rfl:k=s.size:=by omega
   clear Hu
   go_wp2
   go_ret2
   exact qJ (ab HB) (ab Hr)
end Go.Proofs.YtichhjfjcinjgaaGreatDoor
namespace Go.Proofs.YtichhjfjcinjgaaGreatDoor
open Go.RowKit
attribute [local go_sem ↓] Go.wp_at_zero Go.wp_at_succ
theorem qZ {s:ByteArray}{k:Nat} (hk:k<s.size) (h:isLet (aD s k)∨c7 (aD s k)):cM s k=cM s (k+1):=by rw[cM,dif_pos ⟨hk,h⟩]
theorem A3 {s:ByteArray}{k:Nat} (h:¬(isLet (aD s k)∨c7 (aD s k))):cM s k=k:=by rw[cM,dif_neg (fun q=>h q.2)]
theorem C0 {s:ByteArray}{k:Nat} (h:¬k<s.size):cM s k=k:=by rw[cM,dif_neg (fun q=>h q.1)]
theorem Gl (W:World) (s:ByteArray) (a:Nat) (ha:a<s.size) (hs:s.size≤65536) :
  Calls Tryz.prog 62 #[.string s,.int .i64 (a:Int)] W fun e w=>e=.returned (.tuple #[.int .i64 ((cw s a).1:Int),.int .i64 ((cw s a).2.1:Int),.int .i64 ((cw s a).2.2:Int)])∧Below W.heap.size W w:=by
 obtain ⟨x0,hg⟩:∃x:Nat,s[a].toNat=x:=⟨_,rfl⟩
 have dP:aD s a=x0:=(dr s a ha).trans hg
 have Cx:x0<256:=by rw[←dP];exact dy s a
 have a0:(0:Int)≤(a:Int):=zH _
 have a1:(a:Int)<(s.size:Int):=by omega
 have xg:=zE W.heap.size W
 have Ki:=al dP
 clear dP
 go_enter Tryz.func62,Tryz.ntmps62
 go_wp2
 go_loopg [8] (s.size-a) (fun gk v8 wr=>∃(m:Nat),v8=.int .i64 (m:Int)∧gk=s.size-m∧a≤m∧m≤s.size∧wr=W∧Hid (cM s a=cM s m))
 case atStart=>exact ⟨a,rfl,rfl,zD _,by omega,rfl,rfl⟩
 case round =>
  obtain ⟨m,rfl,aW,ham,eo,Lg,HN⟩:=hrel
  obtain rfl:W=wr:=Lg.symm
  have bz:=al aW
  clear aW Lg
  by_cases CF:m<s.size
  ·obtain ⟨x,hx⟩:∃x:Nat,s[m].toNat=x:=⟨_,rfl⟩
   have dP:aD s m=x:=(dr s m CF).trans hx
   have c8:x<256:=by rw[←dP];exact dy s m
   have k0:(0:Int)≤(m:Int):=zH _
   have k1:(m:Int)<(s.size:Int):=by omega
   have jo:=al dP
   clear dP
   go_wp2_with fail
   refine (iy W x c8).mono ?_
   rintro e w' ⟨b,rfl,he,eA⟩
   obtain rfl:W=w':=he.symm
   clear he
   cases b with
   |true =>
    have JU:Hid (cM s a=cM s (m+1)):=(ab HN).trans (qZ CF (.inl (by rw[ab jo];exact eA.1 rfl)))
    clear eA HN
    go_wp2
    go_roundg (s.size-(m+1))
    case measure=>have:=ab bz;omega
    case rel=>exact ⟨m+1,by go_num,rfl,by omega,by omega,rfl,JU⟩
   |false =>
    have n1:¬isLet x:=fun q=>by have:=eA.2 q;cases this
    have M1:=al n1
    clear eA n1
    go_wp2_with fail
    refine (lq W x c8).mono ?_
    rintro e w' ⟨b,rfl,he,eA⟩
    obtain rfl:W=w':=he.symm
    clear he
    cases b with
    |true =>
     have JU:Hid (cM s a=cM s (m+1)):=(ab HN).trans (qZ CF (.inr (by rw[ab jo];exact eA.1 rfl)))
     clear eA HN
     go_wp2
     go_roundg (s.size-(m+1))
     case measure=>have:=ab bz;omega
     case rel=>exact ⟨m+1,by go_num,rfl,by omega,by omega,rfl,JU⟩
    |false =>
     have HE:Hid (cM s a=m):=(ab HN).trans (A3 (by rw[ab jo];exact fun o=>o.elim (ab M1) (fun q=>by have:=eA.2 q;cases this)))
     clear eA HN M1 jo
     go_wp2_with fail
     refine (iy W x0 Cx).mono ?_
     rintro e w' ⟨b,rfl,he,eA⟩
     obtain rfl:W=w':=he.symm
     clear he
     cases b with
     |true =>
      have Ho:Hid (cw s a=(1,m,0)):=by show _=_;unfold cw;rw[ab Ki,if_pos (eA.1 rfl),ab HE]
      clear eA
      go_wp2
      go_ret3
      exact ⟨by rw[ab Ho];rfl,xg⟩
     |false =>
      have n1:¬isLet x0:=fun q=>by have:=eA.2 q;cases this
      have N1:=al n1
      clear eA n1
      go_wp2_with fail
      refine (lq W x0 Cx).mono ?_
      rintro e w' ⟨b,rfl,he,eA⟩
      obtain rfl:W=w':=he.symm
      clear he
      cases b with
      |true =>
       have hd:c7 x0:=eA.1 rfl
       have ho:cw s a=if wv (aI (s.extract a m))=none then (0,0,41) else (2,m,0):=by unfold cw;rw[ab Ki,if_neg (ab N1),if_pos hd,ab HE]
       have Ho:=al ho
       have m0:(0:Int)≤(m:Int):=zH _
       have m1:(a:Int)≤(m:Int):=by omega
       have m2:(m:Int)≤(s.size:Int):=by omega
       clear eA hd ho
       go_wp2_with fail
       refine (qE W (s.extract a m) (by rw[ByteArray.size_extract];omega)).mono ?_
       rintro e w1 ⟨he,⟨u,rfl,hu⟩|⟨rfl,hu⟩⟩
       ·obtain rfl:W=w1:=he.symm
        have Hq:Hid (cw s a=(2,m,0)):=by show _=_;rw[ab Ho,hu];rfl
        clear hu he
        go_wp2
        go_ret3
        exact ⟨by rw[ab Hq];rfl,xg⟩
       ·obtain rfl:W=w1:=he.symm
        have Hq:Hid (cw s a=(0,0,41)):=by show _=_;rw[ab Ho,hu];rfl
        clear hu he
        go_wp2
        go_ret3
        exact ⟨by rw[ab Hq];rfl,xg⟩
      |false =>
       have n2:¬c7 x0:=fun q=>by have:=eA.2 q;cases this
       have N2:=al n2
       clear eA n2
       by_cases hq:x0=39∨x0=34
       ·have ho:cw s a=match ef s x0 (a+1) with|none=>(0,0,42)|some (_,e)=>(3,e,0):=by unfold cw;rw[ab Ki,if_neg (ab N1),if_neg (ab N2),if_pos hq];cases ef s x0 (a+1)<;>rfl
        have Ho:=al ho
        have ym:=qD W s a ha hs
        rw[ab Ki] at ym
        have Qu:=al ym
        clear ho ym
        have oy:((x0:Int)==34)=true∨(((x0:Int)==34)=false∧((x0:Int)==39)=true):=by
         rcases hq with rfl|rfl
         ·exact .inr ⟨rfl,rfl⟩
         ·exact .inl rfl
        rcases oy with g1|⟨g1,g2⟩
        all_goals (
         clear hq
         go_wp2_with fail
         refine (ab Qu).mono ?_
         rintro e w2 ⟨bd,⟨h1,rfl⟩|⟨l,z,v',h1,rfl,hv⟩⟩
         ·have Hq:Hid (cw s a=(0,0,42)):=by show _=_;rw[ab Ho,h1]
          have vJ:=al bd
          clear h1 bd
          go_wp2
          go_ret3
          exact ⟨by rw[ab Hq];rfl,ab vJ⟩
         ·have Hq:Hid (cw s a=(3,z,0)):=by show _=_;rw[ab Ho,h1]
          have hz:=Dk _ (a+1) l z (zD _) h1
          have z0:((z:Int)==0)=false:=beq_eq_false_iff_ne.2 (by omega)
          obtain ⟨va,vn,vc,rfl⟩:=hv.shape
          have vJ:=al bd
          clear h1 bd hz hv
          go_wp2
          go_ret3
          exact ⟨by rw[ab Hq];rfl,ab vJ⟩)
       ·have g1:((x0:Int)==34)=false:=beq_eq_false_iff_ne.2 (by omega)
        have g2:((x0:Int)==39)=false:=beq_eq_false_iff_ne.2 (by omega)
        have ho:cw s a=if j5 x0 then (4,a+1,0) else (0,0,40):=by unfold cw;rw[ab Ki,if_neg (ab N1),if_neg (ab N2),if_neg hq]
        have Ho:=al ho
        clear ho hq
        go_wp2_with fail
        refine (wI W x0).mono ?_
        rintro e w' ⟨b,rfl,he,eA⟩
        obtain rfl:W=w':=he.symm
        clear he
        cases b with
        |true =>
         have Hq:Hid (cw s a=(4,a+1,0)):=by show _=_;rw[ab Ho,if_pos (eA.1 rfl)]
         clear eA
         go_wp2
         go_ret3
         exact ⟨by rw[ab Hq];first|rfl|go_num,xg⟩
        |false =>
         have Hq:Hid (cw s a=(0,0,40)):=by show _=_;rw[ab Ho,if_neg (fun q=>by have:=eA.2 q;cases this)]
         clear eA
         go_wp2
         go_ret3
         exact ⟨by rw[ab Hq];rfl,xg⟩
  ·have HE:Hid (cM s a=m):=(ab HN).trans (C0 CF)
   obtain rfl:m=s.size:=by omega
   have q0:decide ((s.size:Int)<(s.size:Int))=false:=by simp
   clear HN CF
   go_wp2_with fail
   refine (iy W x0 Cx).mono ?_
   rintro e w' ⟨b,rfl,he,eA⟩
   obtain rfl:W=w':=he.symm
   clear he
   cases b with
   |true =>
    have Ho:Hid (cw s a=(1,s.size,0)):=by show _=_;unfold cw;rw[ab Ki,if_pos (eA.1 rfl),ab HE]
    clear eA
    go_wp2
    go_ret3
    exact ⟨by rw[ab Ho];rfl,xg⟩
   |false =>
    have n1:¬isLet x0:=fun q=>by have:=eA.2 q;cases this
    have N1:=al n1
    clear eA n1
    go_wp2_with fail
    refine (lq W x0 Cx).mono ?_
    rintro e w' ⟨b,rfl,he,eA⟩
    obtain rfl:W=w':=he.symm
    clear he
    cases b with
    |true =>
     have hd:c7 x0:=eA.1 rfl
     have ho:cw s a=if wv (aI (s.extract a s.size))=none then (0,0,41) else (2,s.size,0):=by unfold cw;rw[ab Ki,if_neg (ab N1),if_pos hd,ab HE]
     have Ho:=al ho
     have m0:(0:Int)≤(s.size:Int):=zH _
     have m1:(a:Int)≤(s.size:Int):=by omega
     have m2:(s.size:Int)≤(s.size:Int):=by omega
     clear eA hd ho
     go_wp2_with fail
     refine (qE W (s.extract a s.size) (by rw[ByteArray.size_extract];omega)).mono ?_
     rintro e w1 ⟨he,⟨u,rfl,hu⟩|⟨rfl,hu⟩⟩
     ·obtain rfl:W=w1:=he.symm
      have Hq:Hid (cw s a=(2,s.size,0)):=by show _=_;rw[ab Ho,hu];rfl
      clear hu he
      go_wp2
      go_ret3
      exact ⟨by rw[ab Hq];rfl,xg⟩
     ·obtain rfl:W=w1:=he.symm
      have Hq:Hid (cw s a=(0,0,41)):=by show _=_;rw[ab Ho,hu];rfl
      clear hu he
      go_wp2
      go_ret3
      exact ⟨by rw[ab Hq];rfl,xg⟩
    |false =>
     have n2:¬c7 x0:=fun q=>by have:=eA.2 q;cases this
     have N2:=al n2
     clear eA n2
     by_cases hq:x0=39∨x0=34
     ·have ho:cw s a=match ef s x0 (a+1) with|none=>(0,0,42)|some (_,e)=>(3,e,0):=by unfold cw;rw[ab Ki,if_neg (ab N1),if_neg (ab N2),if_pos hq];cases ef s x0 (a+1)<;>rfl
      have Ho:=al ho
      have ym:=qD W s a ha hs
      rw[ab Ki] at ym
      have Qu:=al ym
      clear ho ym
      have oy:((x0:Int)==34)=true∨(((x0:Int)==34)=false∧((x0:Int)==39)=true):=by
       rcases hq with rfl|rfl
       ·exact .inr ⟨rfl,rfl⟩
       ·exact .inl rfl
      rcases oy with g1|⟨g1,g2⟩
      all_goals (
       clear hq
       go_wp2_with fail
       refine (ab Qu).mono ?_
       rintro e w2 ⟨bd,⟨h1,rfl⟩|⟨l,z,v',h1,rfl,hv⟩⟩
       ·have Hq:Hid (cw s a=(0,0,42)):=by show _=_;rw[ab Ho,h1]
        have vJ:=al bd
        clear h1 bd
        go_wp2
        go_ret3
        exact ⟨by rw[ab Hq];rfl,ab vJ⟩
       ·have Hq:Hid (cw s a=(3,z,0)):=by show _=_;rw[ab Ho,h1]
        have hz:=Dk _ (a+1) l z (zD _) h1
        have z0:((z:Int)==0)=false:=beq_eq_false_iff_ne.2 (by omega)
        obtain ⟨va,vn,vc,rfl⟩:=hv.shape
        have vJ:=al bd
        clear h1 bd hz hv
        go_wp2
        go_ret3
        exact ⟨by rw[ab Hq];rfl,ab vJ⟩)
     ·have g1:((x0:Int)==34)=false:=beq_eq_false_iff_ne.2 (by omega)
      have g2:((x0:Int)==39)=false:=beq_eq_false_iff_ne.2 (by omega)
      have ho:cw s a=if j5 x0 then (4,a+1,0) else (0,0,40):=by unfold cw;rw[ab Ki,if_neg (ab N1),if_neg (ab N2),if_neg hq]
      have Ho:=al ho
      clear ho hq
      go_wp2_with fail
      refine (wI W x0).mono ?_
      rintro e w' ⟨b,rfl,he,eA⟩
      obtain rfl:W=w':=he.symm
      clear he
      cases b with
      |true =>
       have Hq:Hid (cw s a=(4,a+1,0)):=by show _=_;rw[ab Ho,if_pos (eA.1 rfl)]
       clear eA
       go_wp2
       go_ret3
       exact ⟨by rw[ab Hq];first|rfl|go_num,xg⟩
      |false =>
       have Hq:Hid (cw s a=(0,0,40)):=by show _=_;rw[ab Ho,if_neg (fun q=>by have:=eA.2 q;cases this)]
       clear eA
       go_wp2
       go_ret3
       exact ⟨by rw[ab Hq];rfl,xg⟩
theorem EB {s:ByteArray}{k p n:Nat} (h:bj s s.size k=(p,false)):tk s k n=.inr (p,43):=by
 unfold tk
 rw[jR,h,if_pos rfl]
theorem KA {s:ByteArray}{k n:Nat} (h:bj s s.size k=(s.size,true)):tk s k n=.inl [⟨5,s.size,⟨#[]⟩⟩]:=by
 unfold tk
 rw[jR,h,if_neg (by simp),if_pos rfl]
theorem GA {s:ByteArray}{k p:Nat} (hk:p<s.size) (h:bj s s.size k=(p,true)):tk s k 16383=.inr (p,45):=by
 unfold tk
 rw[jR,h,if_neg (by simp),if_neg (by show ¬p=s.size;omega),if_pos rfl]
theorem Kz {s:ByteArray}{k p n c:Nat} (hk:p<s.size) (h:bj s s.size k=(p,true)) (hn:n<16383) (h1:(cw s p).2.2=c) (hc:c≠0):tk s k n=.inr (p,c):=by
 unfold tk
 rw[jR,h,if_neg (by simp),if_neg (by show ¬p=s.size;omega),if_neg (by omega)]
 show (if (cw s p).2.2=0 then _ else Sum.inr (p,(cw s p).2.2))=_
 rw[h1,if_neg hc]
theorem Ky {s:ByteArray}{k p n t e:Nat} (hk:p<s.size) (h:bj s s.size k=(p,true)) (hn:n<16383) (h1:cw s p=(t,e,0)):tk s k n=vp ⟨t,p,s.extract p e⟩ (tk s e (n+1)):=by
 have hle:=oO hk (by rw[h1])
 rw[h1] at hle
 unfold tk
 rw[jR,h,if_neg (by simp),if_neg (by show ¬p=s.size;omega),if_neg (by omega)]
 show (if (cw s p).2.2=0 then vp ⟨(cw s p).1,p,s.extract p (cw s p).2.1⟩ (jR s s.size (cw s p).2.1 (n+1)) else _)=_
 rw[h1,if_pos rfl]
 rw[wL s s.size (s.size+1) e (n+1) hle.2 (by have:=hle.1;simp at this;omega) (by omega)]
theorem zr (W:World) (s:ByteArray):Calls Tryz.prog 30 #[.string s] W (JB s W):=by
 obtain ⟨i0,hi,fU,dS,da⟩:=info_parts Tryz.yj
 have bG:=zE W.heap.size W
 by_cases h0:65536<s.size
 ·have Hr:=al (pN h0)
  have e0:=Rm (a:=s.size) (k:=65536) (by omega)
  clear h0
  go_enter Tryz.func30,Tryz.ntmps30
  go_wp2
  go_ret3
  exact ⟨bG,by rw[ab Hr];exact ⟨by decide,rfl⟩⟩
 ·have e0:=Rn (a:=s.size) (k:=65536) (by omega)
  have hs:s.size≤65536:=by omega
  have H0:=al h0
  clear h0
  go_enter Tryz.func30,Tryz.ntmps30
  go_wp2_with fail
  refine (Et W s (by omega)).mono ?_
  rintro e w1 ⟨rfl,he⟩
  obtain rfl:W=w1:=he.symm
  clear he
  by_cases h1:0≤cZ s 0
  ·have Hr:=al (zS (ab H0) h1)
   obtain ⟨u,hu⟩:∃u:Nat,cZ s 0=(u:Int):=⟨(cZ s 0).toNat,by omega⟩
   rw[hu] at Hr ⊢
   have e1:decide (0≤(u:Int))=true:=by simp
   clear hu h1
   go_wp2
   go_ret3
   exact ⟨bG,by rw[ab Hr];exact ⟨by decide,rfl⟩⟩
  ·have Hr:=al (Dm (ab H0) h1)
   obtain ⟨u,hu⟩:∃u,u=cZ s 0:=⟨_,rfl⟩
   rw[←hu] at h1 ⊢
   have e1:decide (0≤u)=false:=by simp;omega
   have Bj:Hid (W.ownsRow W.heap.size 107 3 (.slice none 0 0) 0 (dY [])):=⟨rfl,.inl ⟨rfl,rfl⟩⟩
   clear hu h1
   go_wp2
   go_loopg [6,7,8,9,10,11,12] s.size (fun gk v6 v7 _ _ _ _ _ wr=>∃(k n:Nat) (pre:List Tok) (va:Option Addr) (vc:Nat),v6=.slice va n vc∧v7=.int .i64 (k:Int)∧gk=s.size-k∧k≤s.size∧n=pre.length∧n≤16383∧Hid (wr.ownsRow W.heap.size 107 3 (.slice va n vc) n (dY pre))∧Hid (tk s 0 0=ij pre (tk s k n))∧Hid (Below W.heap.size W wr))
   case atStart=>exact ⟨0,0,[],none,0,rfl,rfl,rfl,by omega,rfl,by omega,Bj,(lI _).symm,bG⟩
   case round =>
    obtain ⟨k,n,pre,va,vc,rfl,rfl,aW,hk,hn,DV,HR,Hq,HB⟩:=hrel
    have bz:=al aW
    have Hn:=al hn
    have Z1:W.heap.size≤wr.heap.size:=(ab HB).size
    clear aW hn Bj
    have VU:=Eu wr s hs k hk
    have Fc:=Ar s s.size k hk
    obtain ⟨p,ok,hp⟩:∃p ok,bj s s.size k=(p,ok):=⟨_,_,rfl⟩
    rw[hp] at VU
    have pY:k≤p:=by rw[hp] at Fc;exact Fc.1
    have y9:p≤s.size:=by rw[hp] at Fc;exact Fc.2
    have Hp:=al hp
    have Hxp:=al VU
    clear hp VU Fc
    go_wp2_with fail
    refine (ab Hxp).mono ?_
    rintro e w' ⟨rfl,he⟩
    obtain rfl:wr=w':=he.symm
    clear he Hxp
    cases ok with
    |false =>
     have qx:Hid (vw W.heap.size wr (.returned (.tuple #[.slice none 0 0,.int .i64 (p:Int),.int .i64 43])) (jQ s)):=by
      show vw _ _ _ _
      rw[ab Hr,ab Hq,EB (ab Hp)]
      exact ⟨by decide,rfl⟩
     clear Hq Hr Hp
     go_wp2
     go_ret3
     exact ⟨ab HB,ab qx⟩
    |true =>
     by_cases oX:p=s.size
     ·subst oX
      have q1:((s.size:Int)==(s.size:Int))=true:=by simp
      have O1:Hid (n+1≤maxLen):=by show _≤_;unfold maxLen;omega
      have O2:Hid ((n+1)*32≤140737488355328):=by show _≤_;omega
      have Ht:Hid (jQ s=.inl (pre++[⟨5,s.size,⟨#[]⟩⟩])):=by show _=_;rw[ab Hr,ab Hq,KA (ab Hp)];rfl
      clear Hq Hr Hp
      go_wp2_with (at_builtin;refine wpList_append_own_at _ rfl _ _ 51 rfl W.heap.size 107 i0 (.agg #[.int .i64 0,.int .i64 0,.string ⟨#[]⟩]) 3 32 Tryz.underlying51 hi fU dS da rfl (by decide) _ _ _ rfl ((ab HR).alloc _) ⟨wr.heap.size,0,none⟩ 1 1 [.int .i64 5,.int .i64 (s.size:Int),.string ⟨#[]⟩] rfl rfl (dq _ _ _) (by simp[Value.oneCell']) (ab O1) (ab O2) (by rw[zJ];omega) ?_;intro v4 w4 bK ba _ cK;have Uh:Hid (Ext wr (.slice va n vc) w4 v4):=Ext.grown ba cK;have L8:=al bK;clear bK ba cK)
      have Dg:Hid (Below W.heap.size W w4):=(ab HB).trans ((ab Uh).below Z1 (fun q e=>((ab HR).lt q e).1))
      obtain ⟨a4,c4,rfl⟩:=oF (ab L8)
      go_ret3
      refine ⟨ab Dg,?_⟩
      rw[ab Ht]
      refine ⟨_,rfl,?_⟩
      rw[lz,zK,←ab Hn]
      exact ab L8
     ·have q1:((p:Int)==(s.size:Int))=false:=beq_eq_false_iff_ne.2 (by omega)
      have Iu:p<s.size:=by omega
      by_cases P1:n=16383
      ·subst P1
       have qx:Hid (vw W.heap.size wr (.returned (.tuple #[.slice none 0 0,.int .i64 (p:Int),.int .i64 45])) (jQ s)):=by
        show vw _ _ _ _
        rw[ab Hr,ab Hq,GA Iu (ab Hp)]
        exact ⟨by decide,rfl⟩
       clear Hq Hr Hp
       go_wp2
       go_ret3
       exact ⟨ab HB,ab qx⟩
      ·have Fe:n<16383:=by omega
       have q2:((n:Int)==16383)=false:=beq_eq_false_iff_ne.2 (by omega)
       have VV:=Gl wr s p Iu hs
       have Ga:=fun h=>oO (s:=s) Iu h
       obtain ⟨t,en,er,ho⟩:∃t en er,cw s p=(t,en,er):=⟨_,_,_,rfl⟩
       rw[ho] at VV Ga
       have Ho:=al ho
       have Hxo:=al VV
       have XR:=al Ga
       clear ho VV Ga oX P1
       go_wp2_with fail
       refine (ab Hxo).mono ?_
       rintro e w2 ⟨rfl,bd⟩
       have cS:Hid (Below W.heap.size W w2):=(ab HB).trans (bd.mono Z1)
       have lX:Hid (w2.ownsRow W.heap.size 107 3 (.slice va n vc) n (dY pre)):=Mk (ab HR) bd
       clear bd HB HR Hxo
       by_cases her:er=0
       ·subst her
        obtain ⟨l1,l2⟩:p<en∧en≤s.size:=ab XR rfl
        have O1:Hid (n+1≤maxLen):=by show _≤_;unfold maxLen;omega
        have O2:Hid ((n+1)*32≤140737488355328):=by show _≤_;omega
        have Eo:Hid (tk s 0 0=ij (pre++[⟨t,p,s.extract p en⟩]) (tk s en (n+1))):=by show _=_;rw[ab Hq,Ky Iu (ab Hp) Fe (ab Ho),AX]
        have HR:=lX
        have p0:(0:Int)≤(p:Int):=zH _
        have p1:(p:Int)≤(en:Int):=by omega
        have p2:(en:Int)≤(s.size:Int):=by omega
        have hW2:W.heap.size≤w2.heap.size:=(ab cS).size
        clear Hq Hp Ho XR lX
        go_wp2_with (at_builtin;refine wpList_append_own_at _ rfl _ _ 51 rfl W.heap.size 107 i0 (.agg #[.int .i64 0,.int .i64 0,.string ⟨#[]⟩]) 3 32 Tryz.underlying51 hi fU dS da rfl (by decide) _ _ _ rfl ((ab HR).alloc _) ⟨w2.heap.size,0,none⟩ 1 1 [.int .i64 (t:Int),.int .i64 (p:Int),.string (s.extract p en)] rfl rfl (dq _ _ _) (by simp[Value.oneCell']) (ab O1) (ab O2) (by rw[zJ];omega) ?_;intro v4 w4 bK ba _ cK;have Uh:Hid (Ext w2 (.slice va n vc) w4 v4):=Ext.grown ba cK;have L8:=al bK;clear bK ba cK)
        have Dg:Hid (Below W.heap.size W w4):=(ab cS).trans ((ab Uh).below hW2 (fun q e=>((ab HR).lt q e).1))
        obtain ⟨a4,c4,rfl⟩:=oF (ab L8)
        have HR5:Hid (w4.ownsRow W.heap.size 107 3 (.slice a4 (n+1) c4) (n+1) (dY (pre++[⟨t,p,s.extract p en⟩]))):=by rw[lz];exact ab L8
        clear L8 Uh HR
        go_roundg (s.size-en)
        case measure=>have:=ab bz;omega
        case rel=>exact ⟨en,n+1,_,a4,c4,rfl,rfl,rfl,l2,by rw[zK,←ab Hn];rfl,by omega,HR5,Eo,Dg⟩
       ·have q3:((er:Int) != 0)=true:=by simp;omega
        have qx:Hid (vw W.heap.size w2 (.returned (.tuple #[.slice none 0 0,.int .i64 (p:Int),.int .i64 (er:Int)])) (jQ s)):=by
         show vw _ _ _ _
         rw[ab Hr,ab Hq,Kz Iu (ab Hp) Fe (by rw[ab Ho]) her]
         exact ⟨her,rfl⟩
        clear Hq Hr Hp Ho XR
        go_wp2
        go_ret3
        exact ⟨ab cS,ab qx⟩
def qy (W:World) (v:Value) (ts:List Tok):Prop:=∃(a:Option Addr) (c:Nat),v=.slice a ts.length c∧ts.length≤c∧(0<ts.length→∃g,a=some ⟨g,0,none⟩∧g<W.heap.size∧∀i t,ts[i]?=some t→W.cell? ⟨g,i*3,none⟩=some (.int .i64 (t.kind:Int))∧W.cell? ⟨g,i*3+1,none⟩=some (.int .i64 (t.place:Int))∧W.cell? ⟨g,i*3+2,none⟩=some (.string t.text))
theorem uT (W:World):qy W (.slice none 0 0) []:=⟨none,0,rfl,zD _,fun h=>by simp at h⟩
theorem qy.up {W w:World}{v:Value}{ts:List Tok} (h:qy W v ts) (hb:Below W.heap.size W w):qy w v ts:=by
 obtain ⟨a,c,rfl,hc,h3⟩:=h
 refine ⟨a,c,rfl,hc,fun hp=>?_⟩
 obtain ⟨g,rfl,h4,h5⟩:=h3 hp
 exact ⟨g,rfl,Nat.lt_of_lt_of_le h4 hb.size,fun i t ht=>⟨(hb.cell (p:=⟨g,i*3,none⟩) h4).trans (h5 i t ht).1,(hb.cell (p:=⟨g,i*3+1,none⟩) h4).trans (h5 i t ht).2.1,(hb.cell (p:=⟨g,i*3+2,none⟩) h4).trans (h5 i t ht).2.2⟩⟩
theorem wM:∀(ts:List Tok) (i:Nat) (t:Tok),ts[i]?=some t→(dY ts)[i*3]?=some (.int .i64 (t.kind:Int))∧(dY ts)[i*3+1]?=some (.int .i64 (t.place:Int))∧(dY ts)[i*3+2]?=some (.string t.text)
 |[],i,t,h=>by simp at h
 |x::r,0,t,h=>by
  obtain rfl:x=t:=by simpa using h
  exact ⟨rfl,rfl,rfl⟩
 |x::r,i+1,t,h=>by
  have:=wM r i t (by simpa using h)
  rw[show (i+1)*3=i*3+3 by omega]
  exact this
theorem Fj {W:World}{B:Nat}{v:Value}{ts:List Tok} (h:W.ownsRow B 107 3 v ts.length (dY ts)):qy W v ts:=by
 obtain ⟨h1,⟨rfl,h0⟩|⟨g,c,cur,rfl,h2,h3,h4,h5,h6,h7⟩⟩:=h
 ·obtain rfl:=List.eq_nil_of_length_eq_zero h0
  exact uT W
 ·refine ⟨_,c,rfl,h4,fun hp=>⟨g,rfl,(zA h3).1,fun i t ht=>?_⟩⟩
  have pF:∀(j:Nat) (u:Value),(dY ts)[j]?=some u→W.cell? ⟨g,j,none⟩=some u:=fun j u hj=>by
   rw[cell_of_row _ _ _ _ _ _ h3,←Array.getElem?_toList]
   rw[←h7,List.getElem?_take] at hj
   split at hj
   ·exact hj
   ·cases hj
  obtain ⟨e1,e2,e3⟩:=wM ts i t ht
  exact ⟨pF _ _ e1,pF _ _ e2,pF _ _ e3⟩
theorem JB.ret {s:ByteArray}{W w:World}{e:Ending} (h:JB s W e w):∃(v:Value) (k c:Nat) (ts:List Tok),e=.returned (.tuple #[v,.int .i64 (k:Int),.int .i64 (c:Int)])∧qy w v ts∧((c=0∧k=0∧jQ s=.inl ts)∨(c≠0∧ts=[]∧v=.slice none 0 0∧jQ s=.inr (k,c))):=by
 obtain ⟨_,h2⟩:=h
 cases ht:jQ s with
 |inl ts =>
  rw[ht] at h2
  obtain ⟨v,rfl,h3⟩:=h2
  exact ⟨v,0,0,ts,rfl,Fj h3,.inl ⟨rfl,rfl,rfl⟩⟩
 |inr p =>
  obtain ⟨k,c⟩:=p
  rw[ht] at h2
  obtain ⟨hc,rfl⟩:=h2
  exact ⟨_,k,c,[],rfl,uT w,.inr ⟨hc,rfl,rfl,rfl⟩⟩
theorem Gy (s:ByteArray):∀(f k n:Nat) (ts:List Tok),n≤16383→jR s f k n=.inl ts→n+ts.length≤16384:=by
 intro f
 induction f with
 |zero=>intro k n ts _ h;cases h
 |succ f ih =>
  intro k n ts hn h
  rw[jR] at h
  split at h
  ·cases h
  ·split at h
   ·have:=Sum.inl.inj h
    rw[←this]
    simp
    omega
   ·split at h
    ·cases h
    ·split at h
     ·cases hr:jR s f (cw s (bj s s.size k).1).2.1 (n+1) with
      |inl l =>
       rw[hr] at h
       have:=Sum.inl.inj h
       have h2:=ih _ _ l (by omega) hr
       rw[←this,List.length_cons]
       omega
      |inr e=>rw[hr] at h;cases h
     ·cases h
theorem Gx {s:ByteArray}{ts:List Tok} (h:jQ s=.inl ts):ts.length≤16384:=by
 unfold jQ at h
 split at h
 ·cases h
 ·split at h
  ·cases h
  ·have:=Gy s _ 0 0 ts (by omega) h
   omega
end Go.Proofs.YtichhjfjcinjgaaGreatDoor

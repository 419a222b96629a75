import Derived.Test.YtichhjfjcinjgaaGreatDoorM26
import Derived.Test.YtichhjfjcinjgaaGreatDoorM46
import Derived.Test.YtichhjfjcinjgaaGreatDoorQX2
import Derived.Shelf.Vars
set_option maxHeartbeats 4000000
set_option maxRecDepth 100000
namespace Go.Proofs.YtichhjfjcinjgaaGreatDoor
open Go.RowKit Go.Lib
attribute [local go_sem ↓] Go.wp_at_zero Go.wp_at_succ
theorem xu {s:ByteArray}{k x:Nat} (hb:aC s k=x) (h0:¬x=0) (h1:¬x=10) (h2:¬x=92):cW s k=some (x,1):=by
 unfold cW
 rw[hb,if_neg (fun o=>o.elim h0 h1),if_neg h2]
theorem zz {s:ByteArray}{k x:Nat} (hb:aC s k=x) (h:x=0∨x=10):cW s k=none:=by
 unfold cW
 rw[hb,if_pos h]
theorem zy {s:ByteArray}{k:Nat} (hb:aC s k=92):cW s k=du ((aI s).drop k):=by
 unfold cW
 rw[hb,if_neg (by decide),if_pos rfl]
theorem Bytes.drew {base:Nat}{W:World}{v:Value}{l:List Nat} (h:Bytes base W v l) (n:Nat):Bytes base (W.drewN n) v l:=h
theorem pZ (W:World) (s:ByteArray) (yC:Nat) (ha:yC<s.size) (hs:s.size≤65536):Calls Tryz.prog 105 #[.string s,.int .i64 (yC:Int)] W (UQ W (ec s (aC s yC) (yC+1))):=by
 obtain ⟨i0,hi,gj,dR,c7⟩:=info_parts Tryz.infoByte
 have bG:=zE W.heap.size W
 obtain ⟨q,hq,jZ,gq⟩:=cd s yC ha
 have RW:aC s yC=q:=(dk s yC ha).trans gq
 rw[RW]
 have a0:(0:Int)≤(yC:Int):=zH _
 have a1:(yC:Int)<(s.size:Int):=by omega
 have Jb:Hid (Bytes W.heap.size W (.slice none 0 0) []):=pR _ _
 clear hq RW
 go_enter Tryz.func105,Tryz.ntmps105
 go_wp2
 go_loopg [7,8,9,10,11] (s.size-(yC+1)) (fun gk v7 v8 _ _ _ wr=>∃(k:Nat) (pre:List Nat) (va:Option Addr) (vn vc:Nat),v7=.slice va vn vc∧v8=.int .i64 (k:Int)∧gk=s.size-k∧k≤s.size∧pre.length≤k∧Hid (Bytes W.heap.size wr (.slice va vn vc) pre)∧Hid (ec s q (yC+1)=(ec s q k).map fun r=>(pre++r.1,r.2))∧Hid (Below W.heap.size W wr))
 case atStart=>exact ⟨yC+1,[],_,_,_,rfl,by go_num,rfl,by omega,by simp,Jb,by show _=_;simp,bG⟩
 case round =>
  obtain ⟨k,pre,va,vn,vc,rfl,rfl,aU,hk,EK,HY,Hu,HB⟩:=hrel
  have bz:=al aU
  clear aU Jb gq
  by_cases aM:k<s.size
  ·obtain ⟨x,hx⟩:∃x:Nat,s[k].toNat=x:=⟨_,rfl⟩
   have dO:aC s k=x:=(dk s k aM).trans hx
   have cZ:x<256:=by rw[←dO];exact dw s k
   have k0:(0:Int)≤(k:Int):=zH _
   have k1:(k:Int)<(s.size:Int):=by omega
   have jd:=al dO
   have fE:W.heap.size≤wr.heap.size:=(ab HB).size
   have O1:Hid (pre.length+1≤maxLen):=by show _≤_;unfold maxLen;omega
   have O2:Hid ((pre.length+1)*1≤140737488355328):=by show _≤_;omega
   clear dO
   by_cases xL:x=q
   ·have Hr:Hid (ec s q (yC+1)=some (pre,k+1)):=by
     show _=_
     rw[ab Hu,lS aM ((ab jd).trans xL)]
     simp
    have fq:((x:Int) != (q:Int))=false:=by simp;omega
    have kn:decide (s.size≤k)=false:=by simp;omega
    clear Hu xL
    go_wp2
    go_ret2
    exact FW (n:=k+1) (ab HB) (ab Hr) (ab HY)
   ·have fq:((x:Int) != (q:Int))=true:=by simp;omega
    have iI:¬aC s k=q:=by rw[ab jd];exact xL
    by_cases c0:x=0∨x=10
    ·have Hr:Hid (ec s q (yC+1)=none):=by
      show _=_
      rw[ab Hu,pr aM iI (zz (ab jd) c0)]
      rfl
     clear Hu xL iI
     rcases c0 with c0|c0
     ·have f0:=lp (c:=x) (k:=0) (by omega)
      clear c0
      go_wp2
      go_ret2
      exact qf (ab HB) (ab Hr)
     ·have f0:=fZ (c:=x) (k:=0) (by omega)
      have f1:=lp (c:=x) (k:=10) (by omega)
      clear c0
      go_wp2
      go_ret2
      exact qf (ab HB) (ab Hr)
    ·obtain ⟨c0,c1⟩:=not_or.1 c0
     have f0:=fZ (c:=x) (k:=0) (by omega)
     have f1:=fZ (c:=x) (k:=10) (by omega)
     by_cases c2:x=92
     ·have f2:((x:Int) != 92)=false:=by simp;omega
      have Y9:=zy ((ab jd).trans c2)
      have Xj:=al Y9
      have np:=al iI
      clear Y9 iI xL c0 c1 c2
      go_wp2_with fail
      refine (yK wr s k aM hs).mono ?_
      rintro e w2 ⟨bd,⟨ho,rfl⟩|⟨b,n,ho,rfl⟩⟩
      ·have Hr:Hid (ec s q (yC+1)=none):=by
        show _=_
        rw[ab Hu,pr aM (ab np) ((ab Xj).trans ho)]
        rfl
       have cR:Hid (Below W.heap.size W w2):=(ab HB).trans (bd.mono (ab HB).size)
       clear ho bd Hu
       go_wp2
       go_ret2
       exact qf (ab cR) (ab Hr)
      ·obtain ⟨p1,p2,p3⟩:=iv ((ab Xj).trans ho) aM
       have Hr:Hid (ec s q (yC+1)=(ec s q (k+n)).map fun r=>((pre++[b])++r.1,r.2)):=by
        show _=_
        rw[ab Hu,mu aM (ab np) ((ab Xj).trans ho),Option.map_map]
        congr 1
        funext r
        simp
       have cR:Hid (Below W.heap.size W w2):=(ab HB).trans (bd.mono (ab HB).size)
       have JK:Hid (Bytes W.heap.size w2 (.slice va vn vc) pre):=(ab HY).up bd
       have VJ:W.heap.size≤w2.heap.size:=(ab cR).size
       have n0:((n:Int)==0)=false:=by simp;omega
       clear ho bd Hu HY HB
       go_wp2_with (at_builtin;refine wpList_append_own_at _ rfl _ _ 58 rfl W.heap.size 5 i0 (.int .u8 0) 1 1 Tryz.underlying58 hi gj dR c7 rfl (by decide) _ _ _ rfl ((ab JK).alloc _) ⟨w2.heap.size,0,none⟩ 1 1 [.int .u8 (b:Int)] rfl rfl (dj _ _ _) (by simp[Value.oneCell']) (ab O1) (ab O2) (by rw[zJ];omega) ?_;intro v4 w4 bJ ba _ cJ;have HP:Hid (nO W.heap.size w2 (.slice va vn vc) pre [b] (.returned v4) w4):=eL (ys:=[b]) bJ rfl rfl ba cJ;clear bJ ba cJ)
       obtain ⟨v5,kH,eu,dV⟩:=ab HP
       obtain rfl:v4=v5:=by simpa using kH
       obtain ⟨A0,Bh,AZ,rfl⟩:=eu.shape
       have ed:Hid (Below W.heap.size W w4):=(ab cR).trans (dV.below VJ (ab JK).eJ)
       have pX:=al eu
       clear eu dV kH HP
       go_roundg (s.size-(k+n))
       case measure=>have:=ab bz;omega
       case rel=>exact ⟨k+n,pre++[b],_,_,_,rfl,by go_num,rfl,by omega,by simp only[zK,List.length_singleton];omega,pX,Hr,ed⟩
     ·have f2:((x:Int) != 92)=true:=by simp;omega
      have Hr:Hid (ec s q (yC+1)=(ec s q (k+1)).map fun r=>((pre++[x])++r.1,r.2)):=by
       show _=_
       rw[ab Hu,mu aM iI (xu (ab jd) c0 c1 c2),Option.map_map]
       congr 1
       funext r
       simp
      clear Hu xL iI c0 c1 c2
      go_wp2_with (at_builtin;refine wpList_append_own_at _ rfl _ _ 58 rfl W.heap.size 5 i0 (.int .u8 0) 1 1 Tryz.underlying58 hi gj dR c7 rfl (by decide) _ _ _ rfl ((ab HY).alloc _) ⟨wr.heap.size,0,none⟩ 1 1 [.int .u8 (x:Int)] rfl rfl (dj _ _ _) (by simp[Value.oneCell']) (ab O1) (ab O2) (by rw[zJ];omega) ?_;intro v4 w4 bJ ba _ cJ;have HP:Hid (nO W.heap.size wr (.slice va vn vc) pre [x] (.returned v4) w4):=eL (ys:=[x]) bJ rfl rfl ba cJ;clear bJ ba cJ)
      obtain ⟨v5,kH,eu,dV⟩:=ab HP
      obtain rfl:v4=v5:=by simpa using kH
      obtain ⟨A0,Bh,AZ,rfl⟩:=eu.shape
      have ed:Hid (Below W.heap.size W w4):=(ab HB).trans (dV.below fE (ab HY).eJ)
      have pX:=al eu
      clear eu dV kH HP
      go_roundg (s.size-(k+1))
      case measure=>have:=ab bz;omega
      case rel=>exact ⟨k+1,pre++[x],_,_,_,rfl,by go_num,rfl,by omega,by simp only[zK,List.length_singleton];omega,pX,Hr,ed⟩
  ·have Hr:Hid (ec s q (yC+1)=none):=by
    show _=_
    rw[ab Hu,lT aM]
    rfl
   obtain rfl:k=s.size:=by omega
   clear Hu
   go_wp2
   go_ret2
   exact qf (ab HB) (ab Hr)
end Go.Proofs.YtichhjfjcinjgaaGreatDoor
namespace Go.Proofs.YtichhjfjcinjgaaGreatDoor
open Go.RowKit
attribute [local go_sem ↓] Go.wp_at_zero Go.wp_at_succ
theorem qG {s:ByteArray}{k:Nat} (hk:k<s.size) (h:isLet (aC s k)∨cY (aC s k)):cL s k=cL s (k+1):=by rw[cL,dif_pos ⟨hk,h⟩]
theorem AE {s:ByteArray}{k:Nat} (h:¬(isLet (aC s k)∨cY (aC s k))):cL s k=k:=by rw[cL,dif_neg (fun q=>h q.2)]
theorem CA {s:ByteArray}{k:Nat} (h:¬k<s.size):cL s k=k:=by rw[cL,dif_neg (fun q=>h q.1)]
theorem FP (W:World) (s:ByteArray) (a:Nat) (ha:a<s.size) (hs:s.size≤65536) :
  Calls Tryz.prog 62 #[.string s,.int .i64 (a:Int)] W fun e w=>e=.returned (.tuple #[.int .i64 ((cq s a).1:Int),.int .i64 ((cq s a).2.1:Int),.int .i64 ((cq s a).2.2:Int)])∧Below W.heap.size W w:=by
 obtain ⟨x0,hg⟩:∃x:Nat,s[a].toNat=x:=⟨_,rfl⟩
 have dO:aC s a=x0:=(dk s a ha).trans hg
 have B9:x0<256:=by rw[←dO];exact dw s a
 have a0:(0:Int)≤(a:Int):=zH _
 have a1:(a:Int)<(s.size:Int):=by omega
 have wG:=zE W.heap.size W
 have JI:=al dO
 clear dO
 go_enter Tryz.func62,Tryz.ntmps62
 go_wp2
 go_loopg [8] (s.size-a) (fun gk v8 wr=>∃(m:Nat),v8=.int .i64 (m:Int)∧gk=s.size-m∧a≤m∧m≤s.size∧wr=W∧Hid (cL s a=cL s m))
 case atStart=>exact ⟨a,rfl,rfl,zD _,by omega,rfl,rfl⟩
 case round =>
  obtain ⟨m,rfl,aU,ham,et,KJ,HN⟩:=hrel
  obtain rfl:W=wr:=KJ.symm
  have bz:=al aU
  clear aU KJ
  by_cases Ch:m<s.size
  ·obtain ⟨x,hx⟩:∃x:Nat,s[m].toNat=x:=⟨_,rfl⟩
   have dO:aC s m=x:=(dk s m Ch).trans hx
   have cZ:x<256:=by rw[←dO];exact dw s m
   have k0:(0:Int)≤(m:Int):=zH _
   have k1:(m:Int)<(s.size:Int):=by omega
   have jd:=al dO
   clear dO
   go_wp2_with fail
   refine (ig W x cZ).mono ?_
   rintro e w' ⟨b,rfl,he,ey⟩
   obtain rfl:W=w':=he.symm
   clear he
   cases b with
   |true =>
    have Jl:Hid (cL s a=cL s (m+1)):=(ab HN).trans (qG Ch (.inl (by rw[ab jd];exact ey.1 rfl)))
    clear ey HN
    go_wp2
    go_roundg (s.size-(m+1))
    case measure=>have:=ab bz;omega
    case rel=>exact ⟨m+1,by go_num,rfl,by omega,by omega,rfl,Jl⟩
   |false =>
    have n1:¬isLet x:=fun q=>by have:=ey.2 q;cases this
    have M1:=al n1
    clear ey n1
    go_wp2_with fail
    refine (kU W x cZ).mono ?_
    rintro e w' ⟨b,rfl,he,ey⟩
    obtain rfl:W=w':=he.symm
    clear he
    cases b with
    |true =>
     have Jl:Hid (cL s a=cL s (m+1)):=(ab HN).trans (qG Ch (.inr (by rw[ab jd];exact ey.1 rfl)))
     clear ey HN
     go_wp2
     go_roundg (s.size-(m+1))
     case measure=>have:=ab bz;omega
     case rel=>exact ⟨m+1,by go_num,rfl,by omega,by omega,rfl,Jl⟩
    |false =>
     have HE:Hid (cL s a=m):=(ab HN).trans (AE (by rw[ab jd];exact fun o=>o.elim (ab M1) (fun q=>by have:=ey.2 q;cases this)))
     clear ey HN M1 jd
     go_wp2_with fail
     refine (ig W x0 B9).mono ?_
     rintro e w' ⟨b,rfl,he,ey⟩
     obtain rfl:W=w':=he.symm
     clear he
     cases b with
     |true =>
      have Ho:Hid (cq s a=(1,m,0)):=by show _=_;unfold cq;rw[ab JI,if_pos (ey.1 rfl),ab HE]
      clear ey
      go_wp2
      go_ret3
      exact ⟨by rw[ab Ho];rfl,wG⟩
     |false =>
      have n1:¬isLet x0:=fun q=>by have:=ey.2 q;cases this
      have N1:=al n1
      clear ey n1
      go_wp2_with fail
      refine (kU W x0 B9).mono ?_
      rintro e w' ⟨b,rfl,he,ey⟩
      obtain rfl:W=w':=he.symm
      clear he
      cases b with
      |true =>
       have hd:cY x0:=ey.1 rfl
       have ho:cq s a=if wv (aI (s.extract a m))=none then (0,0,41) else (2,m,0):=by unfold cq;rw[ab JI,if_neg (ab N1),if_pos hd,ab HE]
       have Ho:=al ho
       have m0:(0:Int)≤(m:Int):=zH _
       have m1:(a:Int)≤(m:Int):=by omega
       have m2:(m:Int)≤(s.size:Int):=by omega
       clear ey hd ho
       go_wp2_with fail
       refine (p7 W (s.extract a m) (by rw[ByteArray.size_extract];omega)).mono ?_
       rintro e w1 ⟨he,⟨u,rfl,hu⟩|⟨rfl,hu⟩⟩
       ·obtain rfl:W=w1:=he.symm
        have Hq:Hid (cq s a=(2,m,0)):=by show _=_;rw[ab Ho,hu];rfl
        clear hu he
        go_wp2
        go_ret3
        exact ⟨by rw[ab Hq];rfl,wG⟩
       ·obtain rfl:W=w1:=he.symm
        have Hq:Hid (cq s a=(0,0,41)):=by show _=_;rw[ab Ho,hu];rfl
        clear hu he
        go_wp2
        go_ret3
        exact ⟨by rw[ab Hq];rfl,wG⟩
      |false =>
       have n2:¬cY x0:=fun q=>by have:=ey.2 q;cases this
       have N2:=al n2
       clear ey n2
       by_cases hq:x0=39∨x0=34
       ·have ho:cq s a=match ec s x0 (a+1) with|none=>(0,0,42)|some (_,e)=>(3,e,0):=by unfold cq;rw[ab JI,if_neg (ab N1),if_neg (ab N2),if_pos hq];cases ec s x0 (a+1)<;>rfl
        have Ho:=al ho
        have xL:=pZ W s a ha hs
        rw[ab JI] at xL
        have P6:=al xL
        clear ho xL
        have nQ:((x0:Int)==34)=true∨(((x0:Int)==34)=false∧((x0:Int)==39)=true):=by
         rcases hq with rfl|rfl
         ·exact .inr ⟨rfl,rfl⟩
         ·exact .inl rfl
        rcases nQ with g1|⟨g1,g2⟩
        all_goals (
         clear hq
         go_wp2_with fail
         refine (ab P6).mono ?_
         rintro e w2 ⟨bd,⟨h1,rfl⟩|⟨l,z,v',h1,rfl,hv⟩⟩
         ·have Hq:Hid (cq s a=(0,0,42)):=by show _=_;rw[ab Ho,h1]
          have u9:=al bd
          clear h1 bd
          go_wp2
          go_ret3
          exact ⟨by rw[ab Hq];rfl,ab u9⟩
         ·have Hq:Hid (cq s a=(3,z,0)):=by show _=_;rw[ab Ho,h1]
          have hz:=CR _ (a+1) l z (zD _) h1
          have z0:((z:Int)==0)=false:=beq_eq_false_iff_ne.2 (by omega)
          obtain ⟨va,vn,vc,rfl⟩:=hv.shape
          have u9:=al bd
          clear h1 bd hz hv
          go_wp2
          go_ret3
          exact ⟨by rw[ab Hq];rfl,ab u9⟩)
       ·have g1:((x0:Int)==34)=false:=beq_eq_false_iff_ne.2 (by omega)
        have g2:((x0:Int)==39)=false:=beq_eq_false_iff_ne.2 (by omega)
        have ho:cq s a=if jP x0 then (4,a+1,0) else (0,0,40):=by unfold cq;rw[ab JI,if_neg (ab N1),if_neg (ab N2),if_neg hq]
        have Ho:=al ho
        clear ho hq
        go_wp2_with fail
        refine (vS W x0).mono ?_
        rintro e w' ⟨b,rfl,he,ey⟩
        obtain rfl:W=w':=he.symm
        clear he
        cases b with
        |true =>
         have Hq:Hid (cq s a=(4,a+1,0)):=by show _=_;rw[ab Ho,if_pos (ey.1 rfl)]
         clear ey
         go_wp2
         go_ret3
         exact ⟨by rw[ab Hq];first|rfl|go_num,wG⟩
        |false =>
         have Hq:Hid (cq s a=(0,0,40)):=by show _=_;rw[ab Ho,if_neg (fun q=>by have:=ey.2 q;cases this)]
         clear ey
         go_wp2
         go_ret3
         exact ⟨by rw[ab Hq];rfl,wG⟩
  ·have HE:Hid (cL s a=m):=(ab HN).trans (CA Ch)
   obtain rfl:m=s.size:=by omega
   have q0:decide ((s.size:Int)<(s.size:Int))=false:=by simp
   clear HN Ch
   go_wp2_with fail
   refine (ig W x0 B9).mono ?_
   rintro e w' ⟨b,rfl,he,ey⟩
   obtain rfl:W=w':=he.symm
   clear he
   cases b with
   |true =>
    have Ho:Hid (cq s a=(1,s.size,0)):=by show _=_;unfold cq;rw[ab JI,if_pos (ey.1 rfl),ab HE]
    clear ey
    go_wp2
    go_ret3
    exact ⟨by rw[ab Ho];rfl,wG⟩
   |false =>
    have n1:¬isLet x0:=fun q=>by have:=ey.2 q;cases this
    have N1:=al n1
    clear ey n1
    go_wp2_with fail
    refine (kU W x0 B9).mono ?_
    rintro e w' ⟨b,rfl,he,ey⟩
    obtain rfl:W=w':=he.symm
    clear he
    cases b with
    |true =>
     have hd:cY x0:=ey.1 rfl
     have ho:cq s a=if wv (aI (s.extract a s.size))=none then (0,0,41) else (2,s.size,0):=by unfold cq;rw[ab JI,if_neg (ab N1),if_pos hd,ab HE]
     have Ho:=al ho
     have m0:(0:Int)≤(s.size:Int):=zH _
     have m1:(a:Int)≤(s.size:Int):=by omega
     have m2:(s.size:Int)≤(s.size:Int):=by omega
     clear ey hd ho
     go_wp2_with fail
     refine (p7 W (s.extract a s.size) (by rw[ByteArray.size_extract];omega)).mono ?_
     rintro e w1 ⟨he,⟨u,rfl,hu⟩|⟨rfl,hu⟩⟩
     ·obtain rfl:W=w1:=he.symm
      have Hq:Hid (cq s a=(2,s.size,0)):=by show _=_;rw[ab Ho,hu];rfl
      clear hu he
      go_wp2
      go_ret3
      exact ⟨by rw[ab Hq];rfl,wG⟩
     ·obtain rfl:W=w1:=he.symm
      have Hq:Hid (cq s a=(0,0,41)):=by show _=_;rw[ab Ho,hu];rfl
      clear hu he
      go_wp2
      go_ret3
      exact ⟨by rw[ab Hq];rfl,wG⟩
    |false =>
     have n2:¬cY x0:=fun q=>by have:=ey.2 q;cases this
     have N2:=al n2
     clear ey n2
     by_cases hq:x0=39∨x0=34
     ·have ho:cq s a=match ec s x0 (a+1) with|none=>(0,0,42)|some (_,e)=>(3,e,0):=by unfold cq;rw[ab JI,if_neg (ab N1),if_neg (ab N2),if_pos hq];cases ec s x0 (a+1)<;>rfl
      have Ho:=al ho
      have xL:=pZ W s a ha hs
      rw[ab JI] at xL
      have P6:=al xL
      clear ho xL
      have nQ:((x0:Int)==34)=true∨(((x0:Int)==34)=false∧((x0:Int)==39)=true):=by
       rcases hq with rfl|rfl
       ·exact .inr ⟨rfl,rfl⟩
       ·exact .inl rfl
      rcases nQ with g1|⟨g1,g2⟩
      all_goals (
       clear hq
       go_wp2_with fail
       refine (ab P6).mono ?_
       rintro e w2 ⟨bd,⟨h1,rfl⟩|⟨l,z,v',h1,rfl,hv⟩⟩
       ·have Hq:Hid (cq s a=(0,0,42)):=by show _=_;rw[ab Ho,h1]
        have u9:=al bd
        clear h1 bd
        go_wp2
        go_ret3
        exact ⟨by rw[ab Hq];rfl,ab u9⟩
       ·have Hq:Hid (cq s a=(3,z,0)):=by show _=_;rw[ab Ho,h1]
        have hz:=CR _ (a+1) l z (zD _) h1
        have z0:((z:Int)==0)=false:=beq_eq_false_iff_ne.2 (by omega)
        obtain ⟨va,vn,vc,rfl⟩:=hv.shape
        have u9:=al bd
        clear h1 bd hz hv
        go_wp2
        go_ret3
        exact ⟨by rw[ab Hq];rfl,ab u9⟩)
     ·have g1:((x0:Int)==34)=false:=beq_eq_false_iff_ne.2 (by omega)
      have g2:((x0:Int)==39)=false:=beq_eq_false_iff_ne.2 (by omega)
      have ho:cq s a=if jP x0 then (4,a+1,0) else (0,0,40):=by unfold cq;rw[ab JI,if_neg (ab N1),if_neg (ab N2),if_neg hq]
      have Ho:=al ho
      clear ho hq
      go_wp2_with fail
      refine (vS W x0).mono ?_
      rintro e w' ⟨b,rfl,he,ey⟩
      obtain rfl:W=w':=he.symm
      clear he
      cases b with
      |true =>
       have Hq:Hid (cq s a=(4,a+1,0)):=by show _=_;rw[ab Ho,if_pos (ey.1 rfl)]
       clear ey
       go_wp2
       go_ret3
       exact ⟨by rw[ab Hq];first|rfl|go_num,wG⟩
      |false =>
       have Hq:Hid (cq s a=(0,0,40)):=by show _=_;rw[ab Ho,if_neg (fun q=>by have:=ey.2 q;cases this)]
       clear ey
       go_wp2
       go_ret3
       exact ⟨by rw[ab Hq];rfl,wG⟩
theorem D6 {s:ByteArray}{k p n:Nat} (h:bj s s.size k=(p,false)):tk s k n=.inr (p,43):=by
 unfold tk
 rw[jE,h,if_pos rfl]
theorem JY {s:ByteArray}{k n:Nat} (h:bj s s.size k=(s.size,true)):tk s k n=.inl [⟨5,s.size,⟨#[]⟩⟩]:=by
 unfold tk
 rw[jE,h,if_neg (by simp),if_pos rfl]
theorem F5 {s:ByteArray}{k p:Nat} (hk:p<s.size) (h:bj s s.size k=(p,true)):tk s k 16383=.inr (p,45):=by
 unfold tk
 rw[jE,h,if_neg (by simp),if_neg (by show ¬p=s.size;omega),if_pos rfl]
theorem JX {s:ByteArray}{k p n c:Nat} (hk:p<s.size) (h:bj s s.size k=(p,true)) (hn:n<16383) (h1:(cq s p).2.2=c) (hc:c≠0):tk s k n=.inr (p,c):=by
 unfold tk
 rw[jE,h,if_neg (by simp),if_neg (by show ¬p=s.size;omega),if_neg (by omega)]
 show (if (cq s p).2.2=0 then _ else Sum.inr (p,(cq s p).2.2))=_
 rw[h1,if_neg hc]
theorem JW {s:ByteArray}{k p n t e:Nat} (hk:p<s.size) (h:bj s s.size k=(p,true)) (hn:n<16383) (h1:cq s p=(t,e,0)):tk s k n=uI ⟨t,p,s.extract p e⟩ (tk s e (n+1)):=by
 have hle:=oq hk (by rw[h1])
 rw[h1] at hle
 unfold tk
 rw[jE,h,if_neg (by simp),if_neg (by show ¬p=s.size;omega),if_neg (by omega)]
 show (if (cq s p).2.2=0 then uI ⟨(cq s p).1,p,s.extract p (cq s p).2.1⟩ (jE s s.size (cq s p).2.1 (n+1)) else _)=_
 rw[h1,if_pos rfl]
 rw[vV s s.size (s.size+1) e (n+1) hle.2 (by have:=hle.1;simp at this;omega) (by omega)]
theorem yJ (W:World) (s:ByteArray):Calls Tryz.prog 30 #[.string s] W (I6 s W):=by
 obtain ⟨i0,hi,gj,dR,c7⟩:=info_parts Tryz.xI
 have bG:=zE W.heap.size W
 by_cases h0:65536<s.size
 ·have Hr:=al (pt h0)
  have e0:=QU (a:=s.size) (k:=65536) (by omega)
  clear h0
  go_enter Tryz.func30,Tryz.ntmps30
  go_wp2
  go_ret3
  exact ⟨bG,by rw[ab Hr];exact ⟨by decide,rfl⟩⟩
 ·have e0:=QV (a:=s.size) (k:=65536) (by omega)
  have hs:s.size≤65536:=by omega
  have H0:=al h0
  clear h0
  go_enter Tryz.func30,Tryz.ntmps30
  go_wp2_with fail
  refine (DY W s (by omega)).mono ?_
  rintro e w1 ⟨rfl,he⟩
  obtain rfl:W=w1:=he.symm
  clear he
  by_cases h1:0≤cX s 0
  ·have Hr:=al (yR (ab H0) h1)
   obtain ⟨u,hu⟩:∃u:Nat,cX s 0=(u:Int):=⟨(cX s 0).toNat,by omega⟩
   rw[hu] at Hr ⊢
   have e1:decide (0≤(u:Int))=true:=by simp
   clear hu h1
   go_wp2
   go_ret3
   exact ⟨bG,by rw[ab Hr];exact ⟨by decide,rfl⟩⟩
  ·have Hr:=al (CT (ab H0) h1)
   obtain ⟨u,hu⟩:∃u,u=cX s 0:=⟨_,rfl⟩
   rw[←hu] at h1 ⊢
   have e1:decide (0≤u)=false:=by simp;omega
   have AU:Hid (W.ownsRow W.heap.size 107 3 (.slice none 0 0) 0 (dW [])):=⟨rfl,.inl ⟨rfl,rfl⟩⟩
   clear hu h1
   go_wp2
   go_loopg [6,7,8,9,10,11,12] s.size (fun gk v6 v7 _ _ _ _ _ wr=>∃(k n:Nat) (pre:List Tok) (va:Option Addr) (vc:Nat),v6=.slice va n vc∧v7=.int .i64 (k:Int)∧gk=s.size-k∧k≤s.size∧n=pre.length∧n≤16383∧Hid (wr.ownsRow W.heap.size 107 3 (.slice va n vc) n (dW pre))∧Hid (tk s 0 0=hJ pre (tk s k n))∧Hid (Below W.heap.size W wr))
   case atStart=>exact ⟨0,0,[],none,0,rfl,rfl,rfl,by omega,rfl,by omega,AU,(lj _).symm,bG⟩
   case round =>
    obtain ⟨k,n,pre,va,vc,rfl,rfl,aU,hk,hn,Du,HR,Hq,HB⟩:=hrel
    have bz:=al aU
    have Hn:=al hn
    have ZD:W.heap.size≤wr.heap.size:=(ab HB).size
    clear aU hn AU
    have Vq:=DZ wr s hs k hk
    have EK:=zQ s s.size k hk
    obtain ⟨p,ok,hp⟩:∃p ok,bj s s.size k=(p,ok):=⟨_,_,rfl⟩
    rw[hp] at Vq
    have pH:k≤p:=by rw[hp] at EK;exact EK.1
    have yy:p≤s.size:=by rw[hp] at EK;exact EK.2
    have Hp:=al hp
    have Z9:=al Vq
    clear hp Vq EK
    go_wp2_with fail
    refine (ab Z9).mono ?_
    rintro e w' ⟨rfl,he⟩
    obtain rfl:wr=w':=he.symm
    clear he Z9
    cases ok with
    |false =>
     have pU:Hid (uL W.heap.size wr (.returned (.tuple #[.slice none 0 0,.int .i64 (p:Int),.int .i64 43])) (jD s)):=by
      show uL _ _ _ _
      rw[ab Hr,ab Hq,D6 (ab Hp)]
      exact ⟨by decide,rfl⟩
     clear Hq Hr Hp
     go_wp2
     go_ret3
     exact ⟨ab HB,ab pU⟩
    |true =>
     by_cases oF:p=s.size
     ·subst oF
      have q1:((s.size:Int)==(s.size:Int))=true:=by simp
      have O1:Hid (n+1≤maxLen):=by show _≤_;unfold maxLen;omega
      have O2:Hid ((n+1)*32≤140737488355328):=by show _≤_;omega
      have Ht:Hid (jD s=.inl (pre++[⟨5,s.size,⟨#[]⟩⟩])):=by show _=_;rw[ab Hr,ab Hq,JY (ab Hp)];rfl
      clear Hq Hr Hp
      go_wp2_with (at_builtin;refine wpList_append_own_at _ rfl _ _ 51 rfl W.heap.size 107 i0 (.agg #[.int .i64 0,.int .i64 0,.string ⟨#[]⟩]) 3 32 Tryz.underlying51 hi gj dR c7 rfl (by decide) _ _ _ rfl ((ab HR).alloc _) ⟨wr.heap.size,0,none⟩ 1 1 [.int .i64 5,.int .i64 (s.size:Int),.string ⟨#[]⟩] rfl rfl (dj _ _ _) (by simp[Value.oneCell']) (ab O1) (ab O2) (by rw[zJ];omega) ?_;intro v4 w4 bJ ba _ cJ;have TS:Hid (Ext wr (.slice va n vc) w4 v4):=Ext.grown ba cJ;have LF:=al bJ;clear bJ ba cJ)
      have CN:Hid (Below W.heap.size W w4):=(ab HB).trans ((ab TS).below ZD (fun q e=>((ab HR).lt q e).1))
      obtain ⟨a4,c4,rfl⟩:=nW (ab LF)
      go_ret3
      refine ⟨ab CN,?_⟩
      rw[ab Ht]
      refine ⟨_,rfl,?_⟩
      rw[kV,zK,←ab Hn]
      exact ab LF
     ·have q1:((p:Int)==(s.size:Int))=false:=beq_eq_false_iff_ne.2 (by omega)
      have G3:p<s.size:=by omega
      by_cases Pz:n=16383
      ·subst Pz
       have pU:Hid (uL W.heap.size wr (.returned (.tuple #[.slice none 0 0,.int .i64 (p:Int),.int .i64 45])) (jD s)):=by
        show uL _ _ _ _
        rw[ab Hr,ab Hq,F5 G3 (ab Hp)]
        exact ⟨by decide,rfl⟩
       clear Hq Hr Hp
       go_wp2
       go_ret3
       exact ⟨ab HB,ab pU⟩
      ·have EL:n<16383:=by omega
       have q2:((n:Int)==16383)=false:=beq_eq_false_iff_ne.2 (by omega)
       have Vr:=FP wr s p G3 hs
       have FE:=fun h=>oq (s:=s) G3 h
       obtain ⟨t,en,er,ho⟩:∃t en er,cq s p=(t,en,er):=⟨_,_,_,rfl⟩
       rw[ho] at Vr FE
       have Ho:=al ho
       have Z':=al Vr
       have Xn:=al FE
       clear ho Vr FE oF Pz
       go_wp2_with fail
       refine (ab Z').mono ?_
       rintro e w2 ⟨rfl,bd⟩
       have cR:Hid (Below W.heap.size W w2):=(ab HB).trans (bd.mono ZD)
       have lG:Hid (w2.ownsRow W.heap.size 107 3 (.slice va n vc) n (dW pre)):=LP (ab HR) bd
       clear bd HB HR Z'
       by_cases her:er=0
       ·subst her
        obtain ⟨l1,l2⟩:p<en∧en≤s.size:=ab Xn rfl
        have O1:Hid (n+1≤maxLen):=by show _≤_;unfold maxLen;omega
        have O2:Hid ((n+1)*32≤140737488355328):=by show _≤_;omega
        have DU:Hid (tk s 0 0=hJ (pre++[⟨t,p,s.extract p en⟩]) (tk s en (n+1))):=by show _=_;rw[ab Hq,JW G3 (ab Hp) EL (ab Ho),Ax]
        have HR:=lG
        have p0:(0:Int)≤(p:Int):=zH _
        have p1:(p:Int)≤(en:Int):=by omega
        have p2:(en:Int)≤(s.size:Int):=by omega
        have hW2:W.heap.size≤w2.heap.size:=(ab cR).size
        clear Hq Hp Ho Xn lG
        go_wp2_with (at_builtin;refine wpList_append_own_at _ rfl _ _ 51 rfl W.heap.size 107 i0 (.agg #[.int .i64 0,.int .i64 0,.string ⟨#[]⟩]) 3 32 Tryz.underlying51 hi gj dR c7 rfl (by decide) _ _ _ rfl ((ab HR).alloc _) ⟨w2.heap.size,0,none⟩ 1 1 [.int .i64 (t:Int),.int .i64 (p:Int),.string (s.extract p en)] rfl rfl (dj _ _ _) (by simp[Value.oneCell']) (ab O1) (ab O2) (by rw[zJ];omega) ?_;intro v4 w4 bJ ba _ cJ;have TS:Hid (Ext w2 (.slice va n vc) w4 v4):=Ext.grown ba cJ;have LF:=al bJ;clear bJ ba cJ)
        have CN:Hid (Below W.heap.size W w4):=(ab cR).trans ((ab TS).below hW2 (fun q e=>((ab HR).lt q e).1))
        obtain ⟨a4,c4,rfl⟩:=nW (ab LF)
        have HR5:Hid (w4.ownsRow W.heap.size 107 3 (.slice a4 (n+1) c4) (n+1) (dW (pre++[⟨t,p,s.extract p en⟩]))):=by rw[kV];exact ab LF
        clear LF TS HR
        go_roundg (s.size-en)
        case measure=>have:=ab bz;omega
        case rel=>exact ⟨en,n+1,_,a4,c4,rfl,rfl,rfl,l2,by rw[zK,←ab Hn];rfl,by omega,HR5,DU,CN⟩
       ·have q3:((er:Int) != 0)=true:=by simp;omega
        have pU:Hid (uL W.heap.size w2 (.returned (.tuple #[.slice none 0 0,.int .i64 (p:Int),.int .i64 (er:Int)])) (jD s)):=by
         show uL _ _ _ _
         rw[ab Hr,ab Hq,JX G3 (ab Hp) EL (by rw[ab Ho]) her]
         exact ⟨her,rfl⟩
        clear Hq Hr Hp Ho Xn
        go_wp2
        go_ret3
        exact ⟨ab cR,ab pU⟩
def pV (W:World) (v:Value) (ts:List Tok):Prop:=∃(a:Option Addr) (c:Nat),v=.slice a ts.length c∧ts.length≤c∧(0<ts.length→∃g,a=some ⟨g,0,none⟩∧g<W.heap.size∧∀i t,ts[i]?=some t→W.cell? ⟨g,i*3,none⟩=some (.int .i64 (t.kind:Int))∧W.cell? ⟨g,i*3+1,none⟩=some (.int .i64 (t.place:Int))∧W.cell? ⟨g,i*3+2,none⟩=some (.string t.text))
theorem uk (W:World):pV W (.slice none 0 0) []:=⟨none,0,rfl,zD _,fun h=>by simp at h⟩
theorem pV.up {W w:World}{v:Value}{ts:List Tok} (h:pV W v ts) (hb:Below W.heap.size W w):pV w v ts:=by
 obtain ⟨a,c,rfl,hc,h3⟩:=h
 refine ⟨a,c,rfl,hc,fun hp=>?_⟩
 obtain ⟨g,rfl,h4,h5⟩:=h3 hp
 exact ⟨g,rfl,Nat.lt_of_lt_of_le h4 hb.size,fun i t ht=>⟨(hb.cell (p:=⟨g,i*3,none⟩) h4).trans (h5 i t ht).1,(hb.cell (p:=⟨g,i*3+1,none⟩) h4).trans (h5 i t ht).2.1,(hb.cell (p:=⟨g,i*3+2,none⟩) h4).trans (h5 i t ht).2.2⟩⟩
theorem vW:∀(ts:List Tok) (i:Nat) (t:Tok),ts[i]?=some t→(dW ts)[i*3]?=some (.int .i64 (t.kind:Int))∧(dW ts)[i*3+1]?=some (.int .i64 (t.place:Int))∧(dW ts)[i*3+2]?=some (.string t.text)
 |[],i,t,h=>by simp at h
 |x::r,0,t,h=>by
  obtain rfl:x=t:=by simpa using h
  exact ⟨rfl,rfl,rfl⟩
 |x::r,i+1,t,h=>by
  have:=vW r i t (by simpa using h)
  rw[show (i+1)*3=i*3+3 by omega]
  exact this
theorem ES {W:World}{B:Nat}{v:Value}{ts:List Tok} (h:W.ownsRow B 107 3 v ts.length (dW ts)):pV W v ts:=by
 obtain ⟨h1,⟨rfl,h0⟩|⟨g,c,cur,rfl,h2,h3,h4,h5,h6,h7⟩⟩:=h
 ·obtain rfl:=List.eq_nil_of_length_eq_zero h0
  exact uk W
 ·refine ⟨_,c,rfl,h4,fun hp=>⟨g,rfl,(zA h3).1,fun i t ht=>?_⟩⟩
  have pd:∀(j:Nat) (u:Value),(dW ts)[j]?=some u→W.cell? ⟨g,j,none⟩=some u:=fun j u hj=>by
   rw[cell_of_row _ _ _ _ _ _ h3,←Array.getElem?_toList]
   rw[←h7,List.getElem?_take] at hj
   split at hj
   ·exact hj
   ·cases hj
  obtain ⟨e1,e2,e3⟩:=vW ts i t ht
  exact ⟨pd _ _ e1,pd _ _ e2,pd _ _ e3⟩
theorem I6.ret {s:ByteArray}{W w:World}{e:Ending} (h:I6 s W e w):∃(v:Value) (k c:Nat) (ts:List Tok),e=.returned (.tuple #[v,.int .i64 (k:Int),.int .i64 (c:Int)])∧pV w v ts∧((c=0∧k=0∧jD s=.inl ts)∨(c≠0∧ts=[]∧v=.slice none 0 0∧jD s=.inr (k,c))):=by
 obtain ⟨_,h2⟩:=h
 cases ht:jD s with
 |inl ts =>
  rw[ht] at h2
  obtain ⟨v,rfl,h3⟩:=h2
  exact ⟨v,0,0,ts,rfl,ES h3,.inl ⟨rfl,rfl,rfl⟩⟩
 |inr p =>
  obtain ⟨k,c⟩:=p
  rw[ht] at h2
  obtain ⟨hc,rfl⟩:=h2
  exact ⟨_,k,c,[],rfl,uk w,.inr ⟨hc,rfl,rfl,rfl⟩⟩
theorem F3 (s:ByteArray):∀(f k n:Nat) (ts:List Tok),n≤16383→jE s f k n=.inl ts→n+ts.length≤16384:=by
 intro f
 induction f with
 |zero=>intro k n ts _ h;cases h
 |succ f ih =>
  intro k n ts hn h
  rw[jE] at h
  split at h
  ·cases h
  ·split at h
   ·have:=Sum.inl.inj h
    rw[←this]
    simp
    omega
   ·split at h
    ·cases h
    ·split at h
     ·cases hr:jE s f (cq s (bj s s.size k).1).2.1 (n+1) with
      |inl l =>
       rw[hr] at h
       have:=Sum.inl.inj h
       have h2:=ih _ _ l (by omega) hr
       rw[←this,List.length_cons]
       omega
      |inr e=>rw[hr] at h;cases h
     ·cases h
theorem F2 {s:ByteArray}{ts:List Tok} (h:jD s=.inl ts):ts.length≤16384:=by
 unfold jD at h
 split at h
 ·cases h
 ·split at h
  ·cases h
  ·have:=F3 s _ 0 0 ts (by omega) h
   omega
end Go.Proofs.YtichhjfjcinjgaaGreatDoor

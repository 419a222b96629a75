import Derived.Test.YtichhjfjcinjgaaGreatDoorM16
set_option maxHeartbeats 4000000
set_option maxRecDepth 100000
namespace Go.Proofs.YtichhjfjcinjgaaGreatDoor
open Go.RowKit Go.Lib
attribute [local go_sem ↓] Go.wp_at_zero Go.wp_at_succ
theorem pO {l:List Nat} (h:ns l):aI (gE l)=l:=by
 unfold aI gE
 rw[List.map_map]
 conv=>rhs;rw[←List.map_id l]
 exact List.map_congr_left fun x hx=>Dl (h x hx)
def fj (x:Nat):List Nat:=[92,48+x / 64,48+x / 8 % 8,48+x % 8]
theorem oP {x:Nat} (h:x<256):ns (fj x):=by
 have key:∀k:Fin 256,(fj k.val).all (·<256)=true:=by decide +kernel
 intro y hy
 have:=List.all_eq_true.1 (key ⟨x,h⟩) y hy
 simpa using this
theorem pT (W:World) (x:Nat) (hx:x<256):Calls Tryz.prog 56 #[.int .u8 (x:Int)] W fun e w=>e=.returned (.string (gE (fj x)))∧Below W.heap.size W w:=by
 have q1:(x:Int).tdiv 64=(x:Int) / 64:=Int.tdiv_eq_ediv_of_nonneg (by omega)
 have q2:(x:Int).tdiv 8=(x:Int) / 8:=Int.tdiv_eq_ediv_of_nonneg (by omega)
 have q3:((x:Int) / 8).tmod 8=(x:Int) / 8 % 8:=Int.tmod_eq_emod_of_nonneg (by omega)
 have q4:(x:Int).tmod 8=(x:Int) % 8:=Int.tmod_eq_emod_of_nonneg (by omega)
 have hH:qA (W.alloc (.cells #[.int .u8 92,.int .u8 (48+(x:Int) / 64),.int .u8 (48+(x:Int) / 8 % 8),.int .u8 (48+(x:Int) % 8)] 5)) (.slice (some ⟨W.heap.size,0,none⟩) 4 4) (fj x) :=
  IQ (l:=fj x) (t:=5) (fr:=(0,0)) (by rw[aJ];simp[nb,fj]) 4 4 rfl (by decide)
 have l7:=k9 hH (oP hx)
 have HB:Hid (Below W.heap.size W (W.alloc (.cells #[.int .u8 92,.int .u8 (48+(x:Int) / 64),.int .u8 (48+(x:Int) / 8 % 8),.int .u8 (48+(x:Int) % 8)] 5))):=(zE _ _).alloc (zD _) _
 clear hH
 go_enter Tryz.func56,Tryz.ntmps56
 go_wp2
 go_ret
 exact ⟨rfl,ab HB⟩
theorem n8 {s:ByteArray}{k:Nat} (h:aD s k<128) (h2:aD s k<32∨aD s k=127∨aD s k=34∨aD s k=92):dh s k=0:=by unfold dh;rw[if_neg (by omega),if_pos h2]
theorem KR {s:ByteArray}{k:Nat} (hk:k<s.size) (h2:¬(aD s k<32∨aD s k=127∨aD s k=34∨aD s k=92)):dh s k=ec s k:=by
 unfold dh
 by_cases h:128≤aD s k
 ·rw[if_pos h]
 ·rw[if_neg h,if_neg h2,la hk (by omega)]
theorem mx {s:ByteArray}{k x:Nat} (hb:aD s k=x) (h:dh s k=0):qs s k=mU x∧qn s k=1:=by
 unfold qs qn
 rw[if_pos h,if_pos h,hb]
 exact ⟨rfl,rfl⟩
theorem KQ {s:ByteArray}{k n:Nat} (h:dh s k=n) (h0:¬n=0):qs s k=sub s k n∧qn s k=n:=by
 unfold qs qn
 rw[h,if_neg h0,if_neg h0]
 exact ⟨rfl,rfl⟩
theorem yE {x:Nat} (h:¬(x=92∨x=34)) (h1:¬x=10) (h2:¬x=13) (h3:¬x=9):mU x=fj x:=by unfold mU fj;rw[if_neg h,if_neg h1,if_neg h2,if_neg h3]
theorem QJ (l:List Nat):(⟨#[34]⟩:ByteArray)++gE l++⟨#[34]⟩=gE (34::l++[34]):=by
 have e:∀a b:ByteArray,aI (a++b)=aI a++aI b:=fun a b=>by unfold aI;simp
 unfold gE
 apply ByteArray.ext
 simp
theorem nU (W:World) (s:ByteArray) (hs:s.size≤1048576) :
  Calls Tryz.prog 27 #[.string s] W fun e w=>e=.returned (.string (gE (34::jY s 0++[34])))∧Below W.heap.size W w:=by
 obtain ⟨i0,hi,fU,dS,da⟩:=info_parts Tryz.infoByte
 have JJ:Hid (Bytes W.heap.size W (.slice none 0 0) []):=qq _ _
 have iR:Hid (Below W.heap.size W W):=zE _ _
 go_enter Tryz.func27,Tryz.ntmps27
 go_wp2
 go_loopg [3,4,5,6] s.size (fun gk v3 v4 _ _ wr=>∃(k:Nat) (pre:List Nat) (va:Option Addr) (vn vc:Nat),v3=.slice va vn vc∧v4=.int .i64 (k:Int)∧gk=s.size-k∧k≤s.size∧pre.length≤4*k∧Hid (Bytes W.heap.size wr (.slice va vn vc) pre)∧Hid (ns pre)∧Hid (jY s 0=pre++jY s k)∧Hid (Below W.heap.size W wr))
 case atStart=>exact ⟨0,[],_,_,_,rfl,rfl,rfl,by omega,by simp,JJ,fun x hx=>by simp at hx,rfl,iR⟩
 case round =>
  obtain ⟨k,pre,va,vn,vc,rfl,rfl,aW,hk,Fc,HY,JQ,Hq,HB⟩:=hrel
  have bz:=al aW
  clear aW JJ iR
  by_cases aM:k<s.size
  ·have fv:=pS aM
   have RM:=@B6 s k
   have Fa:=G3 s k
   have RQ:pre.length+(qs s k).length≤4*(k+qn s k):=by omega
   have cG:Hid (jY s 0=(pre++qs s k)++jY s (k+qn s k)):=by
    show jY s 0=(pre++qs s k)++jY s (k+qn s k)
    rw[ab Hq,fv,List.append_assoc]
   have fu:Hid (ns (pre++qs s k)):=(ab JQ).append Fa
   have vA:=al RQ
   have fJ:W.heap.size≤wr.heap.size:=(ab HB).size
   obtain ⟨x,hx⟩:∃x:Nat,s[k].toNat=x:=⟨_,rfl⟩
   have dP:aD s k=x:=(dr s k aM).trans hx
   have c8:x<256:=by rw[←dP];exact dy s k
   have k0:(0:Int)≤(k:Int):=zH _
   have k1:(k:Int)<(s.size:Int):=by omega
   have jo:=al dP
   clear fv RM Fa RQ Hq dP
   go_wp2_with fail
   refine (uY wr s k aM (by omega)).mono ?_
   rintro e w2 ⟨rfl,he⟩
   obtain rfl:wr=w2:=he.symm
   obtain ⟨n,hn⟩:∃n,n=ec s k:=⟨_,rfl⟩
   have Ll:=pw s k hk
   rw[←hn] at Ll ⊢
   obtain ⟨CE,Fe⟩:=Ll
   have Hn:=al hn
   clear hn hx he
   by_cases g0:x=92
   ·have nk:=n8 (s:=s) (k:=k) (by rw[ab jo];omega) (by rw[ab jo];omega)
    obtain ⟨gS,nG⟩:=mx (ab jo) nk
    have he:mU x=[92,x]:=by unfold mU;rw[if_pos (.inl g0)]
    rw[gS,nG,he] at cG vA
    rw[gS,he] at fu
    have o3:n=1:=by rw[ab Hn];exact la aM (by rw[ab jo];omega)
    rw[o3]
    have f0:=Fy (c:=x) (k:=92) (by omega)
    have O1:Hid (pre.length+2≤maxLen):=by show _≤_;unfold maxLen;omega
    have O2:Hid ((pre.length+2)*1≤140737488355328):=by show _≤_;omega
    clear nk gS nG he CE Fe o3 g0
    go_wp2_with (at_builtin;refine wpList_append_own_at _ rfl _ _ 58 rfl W.heap.size 5 i0 (.int .u8 0) 1 1 Tryz.underlying58 hi fU dS da rfl (by decide) _ _ _ rfl ((ab HY).alloc _) ⟨wr.heap.size,0,none⟩ 2 2 [.int .u8 92,.int .u8 (x:Int)] rfl rfl (dq _ _ _) (by simp[Value.oneCell']) (ab O1) (ab O2) (by rw[zJ];omega) ?_;intro v4 w4 bK ba _ cK;have HP:Hid (ow W.heap.size wr (.slice va vn vc) pre [92,x] (.returned v4) w4):=eN (ys:=[92,x]) bK rfl rfl ba cK;clear bK ba cK)
    obtain ⟨v5,kX,ey,dX⟩:=ab HP
    obtain rfl:v4=v5:=by simpa using kX
    obtain ⟨Bp,BH,Bo,rfl⟩:=ey.shape
    have eh:Hid (Below W.heap.size W w4):=(ab HB).trans (dX.below fJ (ab HY).eL)
    have qB:=al ey
    clear ey dX kX HP
    go_roundg (s.size-(k+1))
    case measure=>have:=ab bz;omega
    case rel=>exact ⟨k+1,pre++[92,x],_,_,_,rfl,by go_num,rfl,by omega,by have:=ab vA;simp only[zK];omega,qB,fu,cG,eh⟩
   ·have f0:=gw (c:=x) (k:=92) (by omega)
    by_cases g1:x=34
    ·have nk:=n8 (s:=s) (k:=k) (by rw[ab jo];omega) (by rw[ab jo];omega)
     obtain ⟨gS,nG⟩:=mx (ab jo) nk
     have he:mU x=[92,x]:=by unfold mU;rw[if_pos (.inr g1)]
     rw[gS,nG,he] at cG vA
     rw[gS,he] at fu
     have o3:n=1:=by rw[ab Hn];exact la aM (by rw[ab jo];omega)
     rw[o3]
     have f0:=Fy (c:=x) (k:=34) (by omega)
     have O1:Hid (pre.length+2≤maxLen):=by show _≤_;unfold maxLen;omega
     have O2:Hid ((pre.length+2)*1≤140737488355328):=by show _≤_;omega
     clear nk gS nG he CE Fe o3 g0 g1
     go_wp2_with (at_builtin;refine wpList_append_own_at _ rfl _ _ 58 rfl W.heap.size 5 i0 (.int .u8 0) 1 1 Tryz.underlying58 hi fU dS da rfl (by decide) _ _ _ rfl ((ab HY).alloc _) ⟨wr.heap.size,0,none⟩ 2 2 [.int .u8 92,.int .u8 (x:Int)] rfl rfl (dq _ _ _) (by simp[Value.oneCell']) (ab O1) (ab O2) (by rw[zJ];omega) ?_;intro v4 w4 bK ba _ cK;have HP:Hid (ow W.heap.size wr (.slice va vn vc) pre [92,x] (.returned v4) w4):=eN (ys:=[92,x]) bK rfl rfl ba cK;clear bK ba cK)
     obtain ⟨v5,kX,ey,dX⟩:=ab HP
     obtain rfl:v4=v5:=by simpa using kX
     obtain ⟨Bp,BH,Bo,rfl⟩:=ey.shape
     have eh:Hid (Below W.heap.size W w4):=(ab HB).trans (dX.below fJ (ab HY).eL)
     have qB:=al ey
     clear ey dX kX HP
     go_roundg (s.size-(k+1))
     case measure=>have:=ab bz;omega
     case rel=>exact ⟨k+1,pre++[92,x],_,_,_,rfl,by go_num,rfl,by omega,by have:=ab vA;simp only[zK];omega,qB,fu,cG,eh⟩
    ·have f1:=gw (c:=x) (k:=34) (by omega)
     have Fo:¬(x=92∨x=34):=fun q=>q.elim g0 g1
     by_cases g2:x=10
     ·have nk:=n8 (s:=s) (k:=k) (by rw[ab jo];omega) (by rw[ab jo];omega)
      obtain ⟨gS,nG⟩:=mx (ab jo) nk
      have he:mU x=[92,110]:=by unfold mU;rw[if_neg Fo];rw[if_pos g2]
      rw[gS,nG,he] at cG vA
      rw[gS,he] at fu
      have o3:n=1:=by rw[ab Hn];exact la aM (by rw[ab jo];omega)
      rw[o3]
      have f0:=Fy (c:=x) (k:=10) (by omega)
      have O1:Hid (pre.length+2≤maxLen):=by show _≤_;unfold maxLen;omega
      have O2:Hid ((pre.length+2)*1≤140737488355328):=by show _≤_;omega
      clear nk gS nG he CE Fe o3 g0 g1 Fo g2
      go_wp2_with (at_builtin;refine wpList_append_own_at _ rfl _ _ 58 rfl W.heap.size 5 i0 (.int .u8 0) 1 1 Tryz.underlying58 hi fU dS da rfl (by decide) _ _ _ rfl ((ab HY).alloc _) ⟨wr.heap.size,0,none⟩ 2 2 [.int .u8 92,.int .u8 110] rfl rfl (dq _ _ _) (by simp[Value.oneCell']) (ab O1) (ab O2) (by rw[zJ];omega) ?_;intro v4 w4 bK ba _ cK;have HP:Hid (ow W.heap.size wr (.slice va vn vc) pre [92,110] (.returned v4) w4):=eN (ys:=[92,110]) bK rfl rfl ba cK;clear bK ba cK)
      obtain ⟨v5,kX,ey,dX⟩:=ab HP
      obtain rfl:v4=v5:=by simpa using kX
      obtain ⟨Bp,BH,Bo,rfl⟩:=ey.shape
      have eh:Hid (Below W.heap.size W w4):=(ab HB).trans (dX.below fJ (ab HY).eL)
      have qB:=al ey
      clear ey dX kX HP
      go_roundg (s.size-(k+1))
      case measure=>have:=ab bz;omega
      case rel=>exact ⟨k+1,pre++[92,110],_,_,_,rfl,by go_num,rfl,by omega,by have:=ab vA;simp only[zK];omega,qB,fu,cG,eh⟩
     ·have f2:=gw (c:=x) (k:=10) (by omega)
      by_cases g3:x=13
      ·have nk:=n8 (s:=s) (k:=k) (by rw[ab jo];omega) (by rw[ab jo];omega)
       obtain ⟨gS,nG⟩:=mx (ab jo) nk
       have he:mU x=[92,114]:=by unfold mU;rw[if_neg Fo];rw[if_neg g2];rw[if_pos g3]
       rw[gS,nG,he] at cG vA
       rw[gS,he] at fu
       have o3:n=1:=by rw[ab Hn];exact la aM (by rw[ab jo];omega)
       rw[o3]
       have f0:=Fy (c:=x) (k:=13) (by omega)
       have O1:Hid (pre.length+2≤maxLen):=by show _≤_;unfold maxLen;omega
       have O2:Hid ((pre.length+2)*1≤140737488355328):=by show _≤_;omega
       clear nk gS nG he CE Fe o3 g0 g1 Fo g2 g3
       go_wp2_with (at_builtin;refine wpList_append_own_at _ rfl _ _ 58 rfl W.heap.size 5 i0 (.int .u8 0) 1 1 Tryz.underlying58 hi fU dS da rfl (by decide) _ _ _ rfl ((ab HY).alloc _) ⟨wr.heap.size,0,none⟩ 2 2 [.int .u8 92,.int .u8 114] rfl rfl (dq _ _ _) (by simp[Value.oneCell']) (ab O1) (ab O2) (by rw[zJ];omega) ?_;intro v4 w4 bK ba _ cK;have HP:Hid (ow W.heap.size wr (.slice va vn vc) pre [92,114] (.returned v4) w4):=eN (ys:=[92,114]) bK rfl rfl ba cK;clear bK ba cK)
       obtain ⟨v5,kX,ey,dX⟩:=ab HP
       obtain rfl:v4=v5:=by simpa using kX
       obtain ⟨Bp,BH,Bo,rfl⟩:=ey.shape
       have eh:Hid (Below W.heap.size W w4):=(ab HB).trans (dX.below fJ (ab HY).eL)
       have qB:=al ey
       clear ey dX kX HP
       go_roundg (s.size-(k+1))
       case measure=>have:=ab bz;omega
       case rel=>exact ⟨k+1,pre++[92,114],_,_,_,rfl,by go_num,rfl,by omega,by have:=ab vA;simp only[zK];omega,qB,fu,cG,eh⟩
      ·have f3:=gw (c:=x) (k:=13) (by omega)
       by_cases g4:x=9
       ·have nk:=n8 (s:=s) (k:=k) (by rw[ab jo];omega) (by rw[ab jo];omega)
        obtain ⟨gS,nG⟩:=mx (ab jo) nk
        have he:mU x=[92,116]:=by unfold mU;rw[if_neg Fo];rw[if_neg g2];rw[if_neg g3];rw[if_pos g4]
        rw[gS,nG,he] at cG vA
        rw[gS,he] at fu
        have o3:n=1:=by rw[ab Hn];exact la aM (by rw[ab jo];omega)
        rw[o3]
        have f0:=Fy (c:=x) (k:=9) (by omega)
        have O1:Hid (pre.length+2≤maxLen):=by show _≤_;unfold maxLen;omega
        have O2:Hid ((pre.length+2)*1≤140737488355328):=by show _≤_;omega
        clear nk gS nG he CE Fe o3 g0 g1 Fo g2 g3 g4
        go_wp2_with (at_builtin;refine wpList_append_own_at _ rfl _ _ 58 rfl W.heap.size 5 i0 (.int .u8 0) 1 1 Tryz.underlying58 hi fU dS da rfl (by decide) _ _ _ rfl ((ab HY).alloc _) ⟨wr.heap.size,0,none⟩ 2 2 [.int .u8 92,.int .u8 116] rfl rfl (dq _ _ _) (by simp[Value.oneCell']) (ab O1) (ab O2) (by rw[zJ];omega) ?_;intro v4 w4 bK ba _ cK;have HP:Hid (ow W.heap.size wr (.slice va vn vc) pre [92,116] (.returned v4) w4):=eN (ys:=[92,116]) bK rfl rfl ba cK;clear bK ba cK)
        obtain ⟨v5,kX,ey,dX⟩:=ab HP
        obtain rfl:v4=v5:=by simpa using kX
        obtain ⟨Bp,BH,Bo,rfl⟩:=ey.shape
        have eh:Hid (Below W.heap.size W w4):=(ab HB).trans (dX.below fJ (ab HY).eL)
        have qB:=al ey
        clear ey dX kX HP
        go_roundg (s.size-(k+1))
        case measure=>have:=ab bz;omega
        case rel=>exact ⟨k+1,pre++[92,116],_,_,_,rfl,by go_num,rfl,by omega,by have:=ab vA;simp only[zK];omega,qB,fu,cG,eh⟩
       ·have f4:=gw (c:=x) (k:=9) (by omega)
        by_cases g5:x<32
        ·have nk:dh s k=0:=n8 (by rw[ab jo];omega) (by rw[ab jo];exact .inl g5)
         obtain ⟨gS,nG⟩:=mx (ab jo) nk
         rw[yE Fo g2 g3 g4] at gS
         rw[gS,nG] at cG vA
         rw[gS] at fu
         have f5:=Nz (c:=x) (k:=32) (by omega)
         have DT:(gE (fj x)).size=4:=by rw[j3];rfl
         have ei:aI (gE (fj x))=fj x:=pO (oP c8)
         have O1:Hid (pre.length+(gE (fj x)).size≤maxLen):=by show _≤_;rw[DT];unfold maxLen;omega
         have O2:Hid (pre.length+(gE (fj x)).size≤140737488355328):=by show _≤_;rw[DT];omega
         have O':=al DT
         have Pa:=al ei
         clear nk gS nG DT ei g0 g1 Fo g2 g3 g4 g5
         go_wp2_with fail
         refine (pT wr x c8).mono ?_
         rintro e w3 ⟨rfl,cz⟩
         have cS:Hid (Below W.heap.size W w3):=(ab HB).trans (cz.mono (ab HB).size)
         have MV:Hid (Bytes W.heap.size w3 (.slice va vn vc) pre):=(ab HY).up cz
         replace fJ:W.heap.size≤w3.heap.size:=(ab cS).size
         clear cz HY HB
         have HY:=MV
         clear MV
         go_wp2_with (at_builtin;refine bX rfl _ _ 58 9 rfl W.heap.size 5 i0 Tryz.underlying58 Tryz.underlying9 hi fU dS da _ _ _ rfl (ab HY) (gE (fj x)) rfl (ab O1) (ab O2) fJ ?_;intro v4 w4 bK ba cK;have HP:Hid (ow W.heap.size w3 (.slice va vn vc) pre (fj x) (.returned v4) w4):=iD (ys:=fj x) bK (by rw[ab O'];rfl) ((eB _).trans (by rw[ab Pa])) ba cK;clear bK ba cK)
         obtain ⟨v5,kX,ey,dX⟩:=ab HP
         obtain rfl:v4=v5:=by simpa using kX
         obtain ⟨Bp,BH,Bo,rfl⟩:=ey.shape
         have eh:Hid (Below W.heap.size W w4):=(ab cS).trans (dX.below fJ (ab HY).eL)
         have qB:=al ey
         clear ey dX kX HP
         go_roundg (s.size-(k+1))
         case measure=>have:=ab bz;omega
         case rel=>exact ⟨k+1,pre++fj x,_,_,_,rfl,by go_num,rfl,by omega,by have:=ab vA;simp only[zK];omega,qB,fu,cG,eh⟩
        ·have f5:=ri (c:=x) (k:=32) (by omega)
         by_cases g6:x=127
         ·have nk:dh s k=0:=n8 (by rw[ab jo];omega) (by rw[ab jo];exact .inr (.inl g6))
          obtain ⟨gS,nG⟩:=mx (ab jo) nk
          rw[yE Fo g2 g3 g4] at gS
          rw[gS,nG] at cG vA
          rw[gS] at fu
          have f6:=Fy (c:=x) (k:=127) (by omega)
          have DT:(gE (fj x)).size=4:=by rw[j3];rfl
          have ei:aI (gE (fj x))=fj x:=pO (oP c8)
          have O1:Hid (pre.length+(gE (fj x)).size≤maxLen):=by show _≤_;rw[DT];unfold maxLen;omega
          have O2:Hid (pre.length+(gE (fj x)).size≤140737488355328):=by show _≤_;rw[DT];omega
          have O':=al DT
          have Pa:=al ei
          clear nk gS nG DT ei g0 g1 Fo g2 g3 g4 g5 g6
          go_wp2_with fail
          refine (pT wr x c8).mono ?_
          rintro e w3 ⟨rfl,cz⟩
          have cS:Hid (Below W.heap.size W w3):=(ab HB).trans (cz.mono (ab HB).size)
          have MV:Hid (Bytes W.heap.size w3 (.slice va vn vc) pre):=(ab HY).up cz
          replace fJ:W.heap.size≤w3.heap.size:=(ab cS).size
          clear cz HY HB
          have HY:=MV
          clear MV
          go_wp2_with (at_builtin;refine bX rfl _ _ 58 9 rfl W.heap.size 5 i0 Tryz.underlying58 Tryz.underlying9 hi fU dS da _ _ _ rfl (ab HY) (gE (fj x)) rfl (ab O1) (ab O2) fJ ?_;intro v4 w4 bK ba cK;have HP:Hid (ow W.heap.size w3 (.slice va vn vc) pre (fj x) (.returned v4) w4):=iD (ys:=fj x) bK (by rw[ab O'];rfl) ((eB _).trans (by rw[ab Pa])) ba cK;clear bK ba cK)
          obtain ⟨v5,kX,ey,dX⟩:=ab HP
          obtain rfl:v4=v5:=by simpa using kX
          obtain ⟨Bp,BH,Bo,rfl⟩:=ey.shape
          have eh:Hid (Below W.heap.size W w4):=(ab cS).trans (dX.below fJ (ab HY).eL)
          have qB:=al ey
          clear ey dX kX HP
          go_roundg (s.size-(k+1))
          case measure=>have:=ab bz;omega
          case rel=>exact ⟨k+1,pre++fj x,_,_,_,rfl,by go_num,rfl,by omega,by have:=ab vA;simp only[zK];omega,qB,fu,cG,eh⟩
         ·have f6:=gw (c:=x) (k:=127) (by omega)
          have DS:dh s k=n:=by rw[ab Hn];exact KR aM (by rw[ab jo];omega)
          by_cases g7:n=0
          ·have nk:dh s k=0:=DS.trans g7
           obtain ⟨gS,nG⟩:=mx (ab jo) nk
           rw[yE Fo g2 g3 g4] at gS
           rw[gS,nG] at cG vA
           rw[gS] at fu
           have f7:((n:Int)==0)=true:=by simp;omega
           have DT:(gE (fj x)).size=4:=by rw[j3];rfl
           have ei:aI (gE (fj x))=fj x:=pO (oP c8)
           have O1:Hid (pre.length+(gE (fj x)).size≤maxLen):=by show _≤_;rw[DT];unfold maxLen;omega
           have O2:Hid (pre.length+(gE (fj x)).size≤140737488355328):=by show _≤_;rw[DT];omega
           have O':=al DT
           have Pa:=al ei
           clear nk gS nG DT ei g0 g1 Fo g2 g3 g4 g5 g6 g7 DS
           go_wp2_with fail
           refine (pT wr x c8).mono ?_
           rintro e w3 ⟨rfl,cz⟩
           have cS:Hid (Below W.heap.size W w3):=(ab HB).trans (cz.mono (ab HB).size)
           have MV:Hid (Bytes W.heap.size w3 (.slice va vn vc) pre):=(ab HY).up cz
           replace fJ:W.heap.size≤w3.heap.size:=(ab cS).size
           clear cz HY HB
           have HY:=MV
           clear MV
           go_wp2_with (at_builtin;refine bX rfl _ _ 58 9 rfl W.heap.size 5 i0 Tryz.underlying58 Tryz.underlying9 hi fU dS da _ _ _ rfl (ab HY) (gE (fj x)) rfl (ab O1) (ab O2) fJ ?_;intro v4 w4 bK ba cK;have HP:Hid (ow W.heap.size w3 (.slice va vn vc) pre (fj x) (.returned v4) w4):=iD (ys:=fj x) bK (by rw[ab O'];rfl) ((eB _).trans (by rw[ab Pa])) ba cK;clear bK ba cK)
           obtain ⟨v5,kX,ey,dX⟩:=ab HP
           obtain rfl:v4=v5:=by simpa using kX
           obtain ⟨Bp,BH,Bo,rfl⟩:=ey.shape
           have eh:Hid (Below W.heap.size W w4):=(ab cS).trans (dX.below fJ (ab HY).eL)
           have qB:=al ey
           clear ey dX kX HP
           go_roundg (s.size-(k+1))
           case measure=>have:=ab bz;omega
           case rel=>exact ⟨k+1,pre++fj x,_,_,_,rfl,by go_num,rfl,by omega,by have:=ab vA;simp only[zK];omega,qB,fu,cG,eh⟩
          ·have f7:((n:Int)==0)=false:=by simp;omega
           obtain ⟨gS,nG⟩:=KQ DS g7
           rw[gS,nG] at cG vA
           rw[gS] at fu
           have Il:=qL s k n
           have dV:=Ds CE
           have Cw:=extract_size s k (k+n) CE
           have O1:Hid (pre.length+(s.extract k (k+n)).size≤maxLen):=by show _≤_;rw[Cw];unfold maxLen;omega
           have O2:Hid (pre.length+(s.extract k (k+n)).size≤140737488355328):=by show _≤_;rw[Cw];omega
           have O7:=al Il
           have XK:=al dV
           have Hxz:=al Cw
           clear gS nG DS Il dV Cw g0 g1 Fo g2 g3 g4 g5 g6
           go_wp2_with (at_builtin;refine bX rfl _ _ 58 9 rfl W.heap.size 5 i0 Tryz.underlying58 Tryz.underlying9 hi fU dS da _ _ _ rfl (ab HY) (s.extract k (k+n)) rfl (ab O1) (ab O2) fJ ?_;intro v4 w4 bK ba cK;have HP:Hid (ow W.heap.size wr (.slice va vn vc) pre (sub s k n) (.returned v4) w4):=iD (ys:=sub s k n) bK (by rw[ab Hxz,ab XK];omega) ((eB _).trans (by rw[ab O7])) ba cK;clear bK ba cK)
           obtain ⟨v5,kX,ey,dX⟩:=ab HP
           obtain rfl:v4=v5:=by simpa using kX
           obtain ⟨Bp,BH,Bo,rfl⟩:=ey.shape
           have eh:Hid (Below W.heap.size W w4):=(ab HB).trans (dX.below fJ (ab HY).eL)
           have qB:=al ey
           clear ey dX kX HP
           go_roundg (s.size-(k+n))
           case measure=>have:=ab bz;omega
           case rel=>exact ⟨k+n,pre++sub s k n,_,_,_,rfl,by go_num,rfl,by omega,by have:=ab vA;simp only[zK];omega,qB,fu,cG,eh⟩
  ·have hq:=ab Hq
   rw[oJ aM,List.append_nil] at hq
   have Eo:=al hq
   obtain rfl:k=s.size:=by omega
   have l7:=k9 (ab HY).has (ab JQ)
   have hzz:(gE pre).size≤4194304:=by rw[j3];omega
   clear hq Hq
   go_wp2
   go_ret
   refine ⟨?_,ab HB⟩
   rw[ab Eo]
   show _=Ending.returned (.string (gE (34::pre++[34])))
   rw[←QJ pre]
   rfl
end Go.Proofs.YtichhjfjcinjgaaGreatDoor

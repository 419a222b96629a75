import Derived.Test.YtichhjfjcinjgaaGreatDoorM16
set_option maxHeartbeats 4000000
set_option maxRecDepth 100000
namespace Go.Proofs.YtichhjfjcinjgaaGreatDoor
open Go.RowKit Go.Lib
attribute [local go_sem ↓] Go.wp_at_zero Go.wp_at_succ
theorem po {l:List Nat} (h:mM l):aI (gp l)=l:=by
 unfold aI gp
 rw[List.map_map]
 conv=>rhs;rw[←List.map_id l]
 exact List.map_congr_left fun x hx=>CI (h x hx)
def eY (x:Nat):List Nat:=[92,48+x / 64,48+x / 8 % 8,48+x % 8]
theorem od {x:Nat} (h:x<256):mM (eY x):=by
 have key:∀k:Fin 256,(eY k.val).all (·<256)=true:=by decide +kernel
 intro y hy
 have:=List.all_eq_true.1 (key ⟨x,h⟩) y hy
 simpa using this
theorem px (W:World) (x:Nat) (hx:x<256):Calls Tryz.prog 56 #[.int .u8 (x:Int)] W fun e w=>e=.returned (.string (gp (eY x)))∧Below W.heap.size W w:=by
 have q1:(x:Int).tdiv 64=(x:Int) / 64:=Int.tdiv_eq_ediv_of_nonneg (by omega)
 have q2:(x:Int).tdiv 8=(x:Int) / 8:=Int.tdiv_eq_ediv_of_nonneg (by omega)
 have q3:((x:Int) / 8).tmod 8=(x:Int) / 8 % 8:=Int.tmod_eq_emod_of_nonneg (by omega)
 have q4:(x:Int).tmod 8=(x:Int) % 8:=Int.tmod_eq_emod_of_nonneg (by omega)
 have hH:pT (W.alloc (.cells #[.int .u8 92,.int .u8 (48+(x:Int) / 64),.int .u8 (48+(x:Int) / 8 % 8),.int .u8 (48+(x:Int) % 8)] 5)) (.slice (some ⟨W.heap.size,0,none⟩) 4 4) (eY x) :=
  H4 (l:=eY x) (t:=5) (fr:=(0,0)) (by rw[aK];simp[nb,eY]) 4 4 rfl (by decide)
 have lH:=kJ hH (od hx)
 have HB:Hid (Below W.heap.size W (W.alloc (.cells #[.int .u8 92,.int .u8 (48+(x:Int) / 64),.int .u8 (48+(x:Int) / 8 % 8),.int .u8 (48+(x:Int) % 8)] 5))):=(zE _ _).alloc (zD _) _
 clear hH
 go_enter Tryz.func56,Tryz.ntmps56
 go_wp2
 go_ret
 exact ⟨rfl,ab HB⟩
theorem nC {s:ByteArray}{k:Nat} (h:aD s k<128) (h2:aD s k<32∨aD s k=127∨aD s k=34∨aD s k=92):c8 s k=0:=by unfold c8;rw[if_neg (by omega),if_pos h2]
theorem J7 {s:ByteArray}{k:Nat} (hk:k<s.size) (h2:¬(aD s k<32∨aD s k=127∨aD s k=34∨aD s k=92)):c8 s k=dU s k:=by
 unfold c8
 by_cases h:128≤aD s k
 ·rw[if_pos h]
 ·rw[if_neg h,if_neg h2,kK hk (by omega)]
theorem lY {s:ByteArray}{k x:Nat} (hb:aD s k=x) (h:c8 s k=0):qs s k=mB x∧qn s k=1:=by
 unfold qs qn
 rw[if_pos h,if_pos h,hb]
 exact ⟨rfl,rfl⟩
theorem J6 {s:ByteArray}{k n:Nat} (h:c8 s k=n) (h0:¬n=0):qs s k=sub s k n∧qn s k=n:=by
 unfold qs qn
 rw[h,if_neg h0,if_neg h0]
 exact ⟨rfl,rfl⟩
theorem xY {x:Nat} (h:¬(x=92∨x=34)) (h1:¬x=10) (h2:¬x=13) (h3:¬x=9):mB x=eY x:=by unfold mB eY;rw[if_neg h,if_neg h1,if_neg h2,if_neg h3]
theorem Qa (l:List Nat):(⟨#[34]⟩:ByteArray)++gp l++⟨#[34]⟩=gp (34::l++[34]):=by
 have e:∀a b:ByteArray,aI (a++b)=aI a++aI b:=fun a b=>by unfold aI;simp
 unfold gp
 apply ByteArray.ext
 simp
theorem nu (W:World) (s:ByteArray) (hs:s.size≤1048576) :
  Calls Tryz.prog 27 #[.string s] W fun e w=>e=.returned (.string (gp (34::jH s 0++[34])))∧Below W.heap.size W w:=by
 obtain ⟨i0,hi,gf,fX,dY⟩:=info_parts Tryz.infoByte
 have I0:Hid (Bytes W.heap.size W (.slice none 0 0) []):=pO _ _
 have iE:Hid (Below W.heap.size W W):=zE _ _
 go_enter Tryz.func27,Tryz.ntmps27
 go_wp2
 go_loopg [3,4,5,6] s.size (fun gk v3 v4 _ _ wr=>∃(k:Nat) (pre:List Nat) (va:Option Addr) (vn vc:Nat),v3=.slice va vn vc∧v4=.int .i64 (k:Int)∧gk=s.size-k∧k≤s.size∧pre.length≤4*k∧Hid (Bytes W.heap.size wr (.slice va vn vc) pre)∧Hid (mM pre)∧Hid (jH s 0=pre++jH s k)∧Hid (Below W.heap.size W wr))
 case atStart=>exact ⟨0,[],_,_,_,rfl,rfl,rfl,by omega,by simp,I0,fun x hx=>by simp at hx,rfl,iE⟩
 case round =>
  obtain ⟨k,pre,va,vn,vc,rfl,rfl,aU,hk,Ez,HY,I4,Hq,HB⟩:=hrel
  have bz:=al aU
  clear aU I0 iE
  by_cases aM:k<s.size
  ·have ff:=pw aM
   have Q':=@By s k
   have Ex:=Gh s k
   have Rd:pre.length+(qs s k).length≤4*(k+qn s k):=by omega
   have cD:Hid (jH s 0=(pre++qs s k)++jH s (k+qn s k)):=by
    show jH s 0=(pre++qs s k)++jH s (k+qn s k)
    rw[ab Hq,ff,List.append_assoc]
   have fc:Hid (mM (pre++qs s k)):=(ab I4).append Ex
   have uM:=al Rd
   have fB:W.heap.size≤wr.heap.size:=(ab HB).size
   obtain ⟨x,hx⟩:∃x:Nat,s[k].toNat=x:=⟨_,rfl⟩
   have dL:aD s k=x:=(df s k aM).trans hx
   have cY:x<256:=by rw[←dL];exact du s k
   have k0:(0:Int)≤(k:Int):=zH _
   have k1:(k:Int)<(s.size:Int):=by omega
   have iX:=al dL
   clear ff Q' Ex Rd Hq dL
   go_wp2_with fail
   refine (uu wr s k aM (by omega)).mono ?_
   rintro e w2 ⟨rfl,he⟩
   obtain rfl:wr=w2:=he.symm
   obtain ⟨n,hn⟩:∃n,n=dU s k:=⟨_,rfl⟩
   have KF:=oV s k hk
   rw[←hn] at KF ⊢
   obtain ⟨B8,EA⟩:=KF
   have Hn:=al hn
   clear hn hx he
   by_cases g0:x=92
   ·have mI:=nC (s:=s) (k:=k) (by rw[ab iX];omega) (by rw[ab iX];omega)
    obtain ⟨gL,mY⟩:=lY (ab iX) mI
    have he:mB x=[92,x]:=by unfold mB;rw[if_pos (.inl g0)]
    rw[gL,mY,he] at cD uM
    rw[gL,he] at fc
    have oF:n=1:=by rw[ab Hn];exact kK aM (by rw[ab iX];omega)
    rw[oF]
    have f0:=EP (c:=x) (k:=92) (by omega)
    have O1:Hid (pre.length+2≤maxLen):=by show _≤_;unfold maxLen;omega
    have O2:Hid ((pre.length+2)*1≤140737488355328):=by show _≤_;omega
    clear mI gL mY he B8 EA oF g0
    go_wp2_with (at_builtin;refine wpList_append_own_at _ rfl _ _ 58 rfl W.heap.size 5 i0 (.int .u8 0) 1 1 Tryz.underlying58 hi gf fX dY rfl (by decide) _ _ _ rfl ((ab HY).alloc _) ⟨wr.heap.size,0,none⟩ 2 2 [.int .u8 92,.int .u8 (x:Int)] rfl rfl (db _ _ _) (by simp[Value.oneCell']) (ab O1) (ab O2) (by rw[zJ];omega) ?_;intro v4 w4 bI ba _ cH;have HP:Hid (nL W.heap.size wr (.slice va vn vc) pre [92,x] (.returned v4) w4):=eH (ys:=[92,x]) bI rfl rfl ba cH;clear bI ba cH)
    obtain ⟨v5,kG,eo,dR⟩:=ab HP
    obtain rfl:v4=v5:=by simpa using kG
    obtain ⟨AS,Bb,AR,rfl⟩:=eo.shape
    have dX:Hid (Below W.heap.size W w4):=(ab HB).trans (dR.below fB (ab HY).eF)
    have pU:=al eo
    clear eo dR kG HP
    go_roundg (s.size-(k+1))
    case measure=>have:=ab bz;omega
    case rel=>exact ⟨k+1,pre++[92,x],_,_,_,rfl,by go_num,rfl,by omega,by have:=ab uM;simp only[zK];omega,pU,fc,cD,dX⟩
   ·have f0:=fY (c:=x) (k:=92) (by omega)
    by_cases g1:x=34
    ·have mI:=nC (s:=s) (k:=k) (by rw[ab iX];omega) (by rw[ab iX];omega)
     obtain ⟨gL,mY⟩:=lY (ab iX) mI
     have he:mB x=[92,x]:=by unfold mB;rw[if_pos (.inr g1)]
     rw[gL,mY,he] at cD uM
     rw[gL,he] at fc
     have oF:n=1:=by rw[ab Hn];exact kK aM (by rw[ab iX];omega)
     rw[oF]
     have f0:=EP (c:=x) (k:=34) (by omega)
     have O1:Hid (pre.length+2≤maxLen):=by show _≤_;unfold maxLen;omega
     have O2:Hid ((pre.length+2)*1≤140737488355328):=by show _≤_;omega
     clear mI gL mY he B8 EA oF g0 g1
     go_wp2_with (at_builtin;refine wpList_append_own_at _ rfl _ _ 58 rfl W.heap.size 5 i0 (.int .u8 0) 1 1 Tryz.underlying58 hi gf fX dY rfl (by decide) _ _ _ rfl ((ab HY).alloc _) ⟨wr.heap.size,0,none⟩ 2 2 [.int .u8 92,.int .u8 (x:Int)] rfl rfl (db _ _ _) (by simp[Value.oneCell']) (ab O1) (ab O2) (by rw[zJ];omega) ?_;intro v4 w4 bI ba _ cH;have HP:Hid (nL W.heap.size wr (.slice va vn vc) pre [92,x] (.returned v4) w4):=eH (ys:=[92,x]) bI rfl rfl ba cH;clear bI ba cH)
     obtain ⟨v5,kG,eo,dR⟩:=ab HP
     obtain rfl:v4=v5:=by simpa using kG
     obtain ⟨AS,Bb,AR,rfl⟩:=eo.shape
     have dX:Hid (Below W.heap.size W w4):=(ab HB).trans (dR.below fB (ab HY).eF)
     have pU:=al eo
     clear eo dR kG HP
     go_roundg (s.size-(k+1))
     case measure=>have:=ab bz;omega
     case rel=>exact ⟨k+1,pre++[92,x],_,_,_,rfl,by go_num,rfl,by omega,by have:=ab uM;simp only[zK];omega,pU,fc,cD,dX⟩
    ·have f1:=fY (c:=x) (k:=34) (by omega)
     have EK:¬(x=92∨x=34):=fun q=>q.elim g0 g1
     by_cases g2:x=10
     ·have mI:=nC (s:=s) (k:=k) (by rw[ab iX];omega) (by rw[ab iX];omega)
      obtain ⟨gL,mY⟩:=lY (ab iX) mI
      have he:mB x=[92,110]:=by unfold mB;rw[if_neg EK];rw[if_pos g2]
      rw[gL,mY,he] at cD uM
      rw[gL,he] at fc
      have oF:n=1:=by rw[ab Hn];exact kK aM (by rw[ab iX];omega)
      rw[oF]
      have f0:=EP (c:=x) (k:=10) (by omega)
      have O1:Hid (pre.length+2≤maxLen):=by show _≤_;unfold maxLen;omega
      have O2:Hid ((pre.length+2)*1≤140737488355328):=by show _≤_;omega
      clear mI gL mY he B8 EA oF g0 g1 EK g2
      go_wp2_with (at_builtin;refine wpList_append_own_at _ rfl _ _ 58 rfl W.heap.size 5 i0 (.int .u8 0) 1 1 Tryz.underlying58 hi gf fX dY rfl (by decide) _ _ _ rfl ((ab HY).alloc _) ⟨wr.heap.size,0,none⟩ 2 2 [.int .u8 92,.int .u8 110] rfl rfl (db _ _ _) (by simp[Value.oneCell']) (ab O1) (ab O2) (by rw[zJ];omega) ?_;intro v4 w4 bI ba _ cH;have HP:Hid (nL W.heap.size wr (.slice va vn vc) pre [92,110] (.returned v4) w4):=eH (ys:=[92,110]) bI rfl rfl ba cH;clear bI ba cH)
      obtain ⟨v5,kG,eo,dR⟩:=ab HP
      obtain rfl:v4=v5:=by simpa using kG
      obtain ⟨AS,Bb,AR,rfl⟩:=eo.shape
      have dX:Hid (Below W.heap.size W w4):=(ab HB).trans (dR.below fB (ab HY).eF)
      have pU:=al eo
      clear eo dR kG HP
      go_roundg (s.size-(k+1))
      case measure=>have:=ab bz;omega
      case rel=>exact ⟨k+1,pre++[92,110],_,_,_,rfl,by go_num,rfl,by omega,by have:=ab uM;simp only[zK];omega,pU,fc,cD,dX⟩
     ·have f2:=fY (c:=x) (k:=10) (by omega)
      by_cases g3:x=13
      ·have mI:=nC (s:=s) (k:=k) (by rw[ab iX];omega) (by rw[ab iX];omega)
       obtain ⟨gL,mY⟩:=lY (ab iX) mI
       have he:mB x=[92,114]:=by unfold mB;rw[if_neg EK];rw[if_neg g2];rw[if_pos g3]
       rw[gL,mY,he] at cD uM
       rw[gL,he] at fc
       have oF:n=1:=by rw[ab Hn];exact kK aM (by rw[ab iX];omega)
       rw[oF]
       have f0:=EP (c:=x) (k:=13) (by omega)
       have O1:Hid (pre.length+2≤maxLen):=by show _≤_;unfold maxLen;omega
       have O2:Hid ((pre.length+2)*1≤140737488355328):=by show _≤_;omega
       clear mI gL mY he B8 EA oF g0 g1 EK g2 g3
       go_wp2_with (at_builtin;refine wpList_append_own_at _ rfl _ _ 58 rfl W.heap.size 5 i0 (.int .u8 0) 1 1 Tryz.underlying58 hi gf fX dY rfl (by decide) _ _ _ rfl ((ab HY).alloc _) ⟨wr.heap.size,0,none⟩ 2 2 [.int .u8 92,.int .u8 114] rfl rfl (db _ _ _) (by simp[Value.oneCell']) (ab O1) (ab O2) (by rw[zJ];omega) ?_;intro v4 w4 bI ba _ cH;have HP:Hid (nL W.heap.size wr (.slice va vn vc) pre [92,114] (.returned v4) w4):=eH (ys:=[92,114]) bI rfl rfl ba cH;clear bI ba cH)
       obtain ⟨v5,kG,eo,dR⟩:=ab HP
       obtain rfl:v4=v5:=by simpa using kG
       obtain ⟨AS,Bb,AR,rfl⟩:=eo.shape
       have dX:Hid (Below W.heap.size W w4):=(ab HB).trans (dR.below fB (ab HY).eF)
       have pU:=al eo
       clear eo dR kG HP
       go_roundg (s.size-(k+1))
       case measure=>have:=ab bz;omega
       case rel=>exact ⟨k+1,pre++[92,114],_,_,_,rfl,by go_num,rfl,by omega,by have:=ab uM;simp only[zK];omega,pU,fc,cD,dX⟩
      ·have f3:=fY (c:=x) (k:=13) (by omega)
       by_cases g4:x=9
       ·have mI:=nC (s:=s) (k:=k) (by rw[ab iX];omega) (by rw[ab iX];omega)
        obtain ⟨gL,mY⟩:=lY (ab iX) mI
        have he:mB x=[92,116]:=by unfold mB;rw[if_neg EK];rw[if_neg g2];rw[if_neg g3];rw[if_pos g4]
        rw[gL,mY,he] at cD uM
        rw[gL,he] at fc
        have oF:n=1:=by rw[ab Hn];exact kK aM (by rw[ab iX];omega)
        rw[oF]
        have f0:=EP (c:=x) (k:=9) (by omega)
        have O1:Hid (pre.length+2≤maxLen):=by show _≤_;unfold maxLen;omega
        have O2:Hid ((pre.length+2)*1≤140737488355328):=by show _≤_;omega
        clear mI gL mY he B8 EA oF g0 g1 EK g2 g3 g4
        go_wp2_with (at_builtin;refine wpList_append_own_at _ rfl _ _ 58 rfl W.heap.size 5 i0 (.int .u8 0) 1 1 Tryz.underlying58 hi gf fX dY rfl (by decide) _ _ _ rfl ((ab HY).alloc _) ⟨wr.heap.size,0,none⟩ 2 2 [.int .u8 92,.int .u8 116] rfl rfl (db _ _ _) (by simp[Value.oneCell']) (ab O1) (ab O2) (by rw[zJ];omega) ?_;intro v4 w4 bI ba _ cH;have HP:Hid (nL W.heap.size wr (.slice va vn vc) pre [92,116] (.returned v4) w4):=eH (ys:=[92,116]) bI rfl rfl ba cH;clear bI ba cH)
        obtain ⟨v5,kG,eo,dR⟩:=ab HP
        obtain rfl:v4=v5:=by simpa using kG
        obtain ⟨AS,Bb,AR,rfl⟩:=eo.shape
        have dX:Hid (Below W.heap.size W w4):=(ab HB).trans (dR.below fB (ab HY).eF)
        have pU:=al eo
        clear eo dR kG HP
        go_roundg (s.size-(k+1))
        case measure=>have:=ab bz;omega
        case rel=>exact ⟨k+1,pre++[92,116],_,_,_,rfl,by go_num,rfl,by omega,by have:=ab uM;simp only[zK];omega,pU,fc,cD,dX⟩
       ·have f4:=fY (c:=x) (k:=9) (by omega)
        by_cases g5:x<32
        ·have mI:c8 s k=0:=nC (by rw[ab iX];omega) (by rw[ab iX];exact .inl g5)
         obtain ⟨gL,mY⟩:=lY (ab iX) mI
         rw[xY EK g2 g3 g4] at gL
         rw[gL,mY] at cD uM
         rw[gL] at fc
         have f5:=MV (c:=x) (k:=32) (by omega)
         have Dh:(gp (eY x)).size=4:=by rw[jJ];rfl
         have dZ:aI (gp (eY x))=eY x:=po (od cY)
         have O1:Hid (pre.length+(gp (eY x)).size≤maxLen):=by show _≤_;rw[Dh];unfold maxLen;omega
         have O2:Hid (pre.length+(gp (eY x)).size≤140737488355328):=by show _≤_;rw[Dh];omega
         have Ox:=al Dh
         have Oy:=al dZ
         clear mI gL mY Dh dZ g0 g1 EK g2 g3 g4 g5
         go_wp2_with fail
         refine (px wr x cY).mono ?_
         rintro e w3 ⟨rfl,cC⟩
         have cP:Hid (Below W.heap.size W w3):=(ab HB).trans (cC.mono (ab HB).size)
         have Ml:Hid (Bytes W.heap.size w3 (.slice va vn vc) pre):=(ab HY).up cC
         replace fB:W.heap.size≤w3.heap.size:=(ab cP).size
         clear cC HY HB
         have HY:=Ml
         clear Ml
         go_wp2_with (at_builtin;refine bU rfl _ _ 58 9 rfl W.heap.size 5 i0 Tryz.underlying58 Tryz.underlying9 hi gf fX dY _ _ _ rfl (ab HY) (gp (eY x)) rfl (ab O1) (ab O2) fB ?_;intro v4 w4 bI ba cH;have HP:Hid (nL W.heap.size w3 (.slice va vn vc) pre (eY x) (.returned v4) w4):=ij (ys:=eY x) bI (by rw[ab Ox];rfl) ((eu _).trans (by rw[ab Oy])) ba cH;clear bI ba cH)
         obtain ⟨v5,kG,eo,dR⟩:=ab HP
         obtain rfl:v4=v5:=by simpa using kG
         obtain ⟨AS,Bb,AR,rfl⟩:=eo.shape
         have dX:Hid (Below W.heap.size W w4):=(ab cP).trans (dR.below fB (ab HY).eF)
         have pU:=al eo
         clear eo dR kG HP
         go_roundg (s.size-(k+1))
         case measure=>have:=ab bz;omega
         case rel=>exact ⟨k+1,pre++eY x,_,_,_,rfl,by go_num,rfl,by omega,by have:=ab uM;simp only[zK];omega,pU,fc,cD,dX⟩
        ·have f5:=qI (c:=x) (k:=32) (by omega)
         by_cases g6:x=127
         ·have mI:c8 s k=0:=nC (by rw[ab iX];omega) (by rw[ab iX];exact .inr (.inl g6))
          obtain ⟨gL,mY⟩:=lY (ab iX) mI
          rw[xY EK g2 g3 g4] at gL
          rw[gL,mY] at cD uM
          rw[gL] at fc
          have f6:=EP (c:=x) (k:=127) (by omega)
          have Dh:(gp (eY x)).size=4:=by rw[jJ];rfl
          have dZ:aI (gp (eY x))=eY x:=po (od cY)
          have O1:Hid (pre.length+(gp (eY x)).size≤maxLen):=by show _≤_;rw[Dh];unfold maxLen;omega
          have O2:Hid (pre.length+(gp (eY x)).size≤140737488355328):=by show _≤_;rw[Dh];omega
          have Ox:=al Dh
          have Oy:=al dZ
          clear mI gL mY Dh dZ g0 g1 EK g2 g3 g4 g5 g6
          go_wp2_with fail
          refine (px wr x cY).mono ?_
          rintro e w3 ⟨rfl,cC⟩
          have cP:Hid (Below W.heap.size W w3):=(ab HB).trans (cC.mono (ab HB).size)
          have Ml:Hid (Bytes W.heap.size w3 (.slice va vn vc) pre):=(ab HY).up cC
          replace fB:W.heap.size≤w3.heap.size:=(ab cP).size
          clear cC HY HB
          have HY:=Ml
          clear Ml
          go_wp2_with (at_builtin;refine bU rfl _ _ 58 9 rfl W.heap.size 5 i0 Tryz.underlying58 Tryz.underlying9 hi gf fX dY _ _ _ rfl (ab HY) (gp (eY x)) rfl (ab O1) (ab O2) fB ?_;intro v4 w4 bI ba cH;have HP:Hid (nL W.heap.size w3 (.slice va vn vc) pre (eY x) (.returned v4) w4):=ij (ys:=eY x) bI (by rw[ab Ox];rfl) ((eu _).trans (by rw[ab Oy])) ba cH;clear bI ba cH)
          obtain ⟨v5,kG,eo,dR⟩:=ab HP
          obtain rfl:v4=v5:=by simpa using kG
          obtain ⟨AS,Bb,AR,rfl⟩:=eo.shape
          have dX:Hid (Below W.heap.size W w4):=(ab cP).trans (dR.below fB (ab HY).eF)
          have pU:=al eo
          clear eo dR kG HP
          go_roundg (s.size-(k+1))
          case measure=>have:=ab bz;omega
          case rel=>exact ⟨k+1,pre++eY x,_,_,_,rfl,by go_num,rfl,by omega,by have:=ab uM;simp only[zK];omega,pU,fc,cD,dX⟩
         ·have f6:=fY (c:=x) (k:=127) (by omega)
          have Dg:c8 s k=n:=by rw[ab Hn];exact J7 aM (by rw[ab iX];omega)
          by_cases g7:n=0
          ·have mI:c8 s k=0:=Dg.trans g7
           obtain ⟨gL,mY⟩:=lY (ab iX) mI
           rw[xY EK g2 g3 g4] at gL
           rw[gL,mY] at cD uM
           rw[gL] at fc
           have f7:((n:Int)==0)=true:=by simp;omega
           have Dh:(gp (eY x)).size=4:=by rw[jJ];rfl
           have dZ:aI (gp (eY x))=eY x:=po (od cY)
           have O1:Hid (pre.length+(gp (eY x)).size≤maxLen):=by show _≤_;rw[Dh];unfold maxLen;omega
           have O2:Hid (pre.length+(gp (eY x)).size≤140737488355328):=by show _≤_;rw[Dh];omega
           have Ox:=al Dh
           have Oy:=al dZ
           clear mI gL mY Dh dZ g0 g1 EK g2 g3 g4 g5 g6 g7 Dg
           go_wp2_with fail
           refine (px wr x cY).mono ?_
           rintro e w3 ⟨rfl,cC⟩
           have cP:Hid (Below W.heap.size W w3):=(ab HB).trans (cC.mono (ab HB).size)
           have Ml:Hid (Bytes W.heap.size w3 (.slice va vn vc) pre):=(ab HY).up cC
           replace fB:W.heap.size≤w3.heap.size:=(ab cP).size
           clear cC HY HB
           have HY:=Ml
           clear Ml
           go_wp2_with (at_builtin;refine bU rfl _ _ 58 9 rfl W.heap.size 5 i0 Tryz.underlying58 Tryz.underlying9 hi gf fX dY _ _ _ rfl (ab HY) (gp (eY x)) rfl (ab O1) (ab O2) fB ?_;intro v4 w4 bI ba cH;have HP:Hid (nL W.heap.size w3 (.slice va vn vc) pre (eY x) (.returned v4) w4):=ij (ys:=eY x) bI (by rw[ab Ox];rfl) ((eu _).trans (by rw[ab Oy])) ba cH;clear bI ba cH)
           obtain ⟨v5,kG,eo,dR⟩:=ab HP
           obtain rfl:v4=v5:=by simpa using kG
           obtain ⟨AS,Bb,AR,rfl⟩:=eo.shape
           have dX:Hid (Below W.heap.size W w4):=(ab cP).trans (dR.below fB (ab HY).eF)
           have pU:=al eo
           clear eo dR kG HP
           go_roundg (s.size-(k+1))
           case measure=>have:=ab bz;omega
           case rel=>exact ⟨k+1,pre++eY x,_,_,_,rfl,by go_num,rfl,by omega,by have:=ab uM;simp only[zK];omega,pU,fc,cD,dX⟩
          ·have f7:((n:Int)==0)=false:=by simp;omega
           obtain ⟨gL,mY⟩:=J6 Dg g7
           rw[gL,mY] at cD uM
           rw[gL] at fc
           have GJ:=qd s k n
           have dQ:=CP B8
           have BZ:=extract_size s k (k+n) B8
           have O1:Hid (pre.length+(s.extract k (k+n)).size≤maxLen):=by show _≤_;rw[BZ];unfold maxLen;omega
           have O2:Hid (pre.length+(s.extract k (k+n)).size≤140737488355328):=by show _≤_;rw[BZ];omega
           have Ou:=al GJ
           have Xc:=al dQ
           have Hxz:=al BZ
           clear gL mY Dg GJ dQ BZ g0 g1 EK g2 g3 g4 g5 g6
           go_wp2_with (at_builtin;refine bU rfl _ _ 58 9 rfl W.heap.size 5 i0 Tryz.underlying58 Tryz.underlying9 hi gf fX dY _ _ _ rfl (ab HY) (s.extract k (k+n)) rfl (ab O1) (ab O2) fB ?_;intro v4 w4 bI ba cH;have HP:Hid (nL W.heap.size wr (.slice va vn vc) pre (sub s k n) (.returned v4) w4):=ij (ys:=sub s k n) bI (by rw[ab Hxz,ab Xc];omega) ((eu _).trans (by rw[ab Ou])) ba cH;clear bI ba cH)
           obtain ⟨v5,kG,eo,dR⟩:=ab HP
           obtain rfl:v4=v5:=by simpa using kG
           obtain ⟨AS,Bb,AR,rfl⟩:=eo.shape
           have dX:Hid (Below W.heap.size W w4):=(ab HB).trans (dR.below fB (ab HY).eF)
           have pU:=al eo
           clear eo dR kG HP
           go_roundg (s.size-(k+n))
           case measure=>have:=ab bz;omega
           case rel=>exact ⟨k+n,pre++sub s k n,_,_,_,rfl,by go_num,rfl,by omega,by have:=ab uM;simp only[zK];omega,pU,fc,cD,dX⟩
  ·have hq:=ab Hq
   rw[nX aM,List.append_nil] at hq
   have DK:=al hq
   obtain rfl:k=s.size:=by omega
   have lH:=kJ (ab HY).has (ab I4)
   have hzz:(gp pre).size≤4194304:=by rw[jJ];omega
   clear hq Hq
   go_wp2
   go_ret
   refine ⟨?_,ab HB⟩
   rw[ab DK]
   show _=Ending.returned (.string (gp (34::pre++[34])))
   rw[←Qa pre]
   rfl
end Go.Proofs.YtichhjfjcinjgaaGreatDoor

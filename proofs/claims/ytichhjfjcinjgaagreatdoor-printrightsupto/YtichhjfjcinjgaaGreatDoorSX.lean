import Derived.Test.YtichhjfjcinjgaaGreatDoorM16
set_option maxHeartbeats 4000000
set_option maxRecDepth 100000
namespace Go.Proofs.YtichhjfjcinjgaaGreatDoor
open Go.RowKit Go.Lib
attribute [local go_sem ↓] Go.wp_at_zero Go.wp_at_succ
theorem pw {l:List Nat} (h:mO l):aI (gr l)=l:=by
 unfold aI gr
 rw[List.map_map]
 conv=>rhs;rw[←List.map_id l]
 exact List.map_congr_left fun x hx=>CS (h x hx)
def fc (x:Nat):List Nat:=[92,48+x / 64,48+x / 8 % 8,48+x % 8]
theorem ou {x:Nat} (h:x<256):mO (fc x):=by
 have key:∀k:Fin 256,(fc k.val).all (·<256)=true:=by decide +kernel
 intro y hy
 have:=List.all_eq_true.1 (key ⟨x,h⟩) y hy
 simpa using this
theorem pB (W:World) (x:Nat) (hx:x<256):Calls Tryz.prog 56 #[.int .u8 (x:Int)] W fun e w=>e=.returned (.string (gr (fc x)))∧Below W.heap.size W w:=by
 have q1:(x:Int).tdiv 64=(x:Int) / 64:=Int.tdiv_eq_ediv_of_nonneg (by omega)
 have q2:(x:Int).tdiv 8=(x:Int) / 8:=Int.tdiv_eq_ediv_of_nonneg (by omega)
 have q3:((x:Int) / 8).tmod 8=(x:Int) / 8 % 8:=Int.tmod_eq_emod_of_nonneg (by omega)
 have q4:(x:Int).tmod 8=(x:Int) % 8:=Int.tmod_eq_emod_of_nonneg (by omega)
 have hH:pW (W.alloc (.cells #[.int .u8 92,.int .u8 (48+(x:Int) / 64),.int .u8 (48+(x:Int) / 8 % 8),.int .u8 (48+(x:Int) % 8)] 5)) (.slice (some ⟨W.heap.size,0,none⟩) 4 4) (fc x) :=
  Ih (l:=fc x) (t:=5) (fr:=(0,0)) (by rw[aK];simp[nb,fc]) 4 4 rfl (by decide)
 have lJ:=kL hH (ou hx)
 have HB:Hid (Below W.heap.size W (W.alloc (.cells #[.int .u8 92,.int .u8 (48+(x:Int) / 64),.int .u8 (48+(x:Int) / 8 % 8),.int .u8 (48+(x:Int) % 8)] 5))):=(zE _ _).alloc (zD _) _
 clear hH
 go_enter Tryz.func56,Tryz.ntmps56
 go_wp2
 go_ret
 exact ⟨rfl,ab HB⟩
theorem nF {s:ByteArray}{k:Nat} (h:aC s k<128) (h2:aC s k<32∨aC s k=127∨aC s k=34∨aC s k=92):dc s k=0:=by unfold dc;rw[if_neg (by omega),if_pos h2]
theorem Ki {s:ByteArray}{k:Nat} (hk:k<s.size) (h2:¬(aC s k<32∨aC s k=127∨aC s k=34∨aC s k=92)):dc s k=dY s k:=by
 unfold dc
 by_cases h:128≤aC s k
 ·rw[if_pos h]
 ·rw[if_neg h,if_neg h2,kM hk (by omega)]
theorem lZ {s:ByteArray}{k x:Nat} (hb:aC s k=x) (h:dc s k=0):qs s k=mE x∧qn s k=1:=by
 unfold qs qn
 rw[if_pos h,if_pos h,hb]
 exact ⟨rfl,rfl⟩
theorem Kh {s:ByteArray}{k n:Nat} (h:dc s k=n) (h0:¬n=0):qs s k=sub s k n∧qn s k=n:=by
 unfold qs qn
 rw[h,if_neg h0,if_neg h0]
 exact ⟨rfl,rfl⟩
theorem x8 {x:Nat} (h:¬(x=92∨x=34)) (h1:¬x=10) (h2:¬x=13) (h3:¬x=9):mE x=fc x:=by unfold mE fc;rw[if_neg h,if_neg h1,if_neg h2,if_neg h3]
theorem Ql (l:List Nat):(⟨#[34]⟩:ByteArray)++gr l++⟨#[34]⟩=gr (34::l++[34]):=by
 have e:∀a b:ByteArray,aI (a++b)=aI a++aI b:=fun a b=>by unfold aI;simp
 unfold gr
 apply ByteArray.ext
 simp
theorem nw (W:World) (s:ByteArray) (hs:s.size≤1048576) :
  Calls Tryz.prog 27 #[.string s] W fun e w=>e=.returned (.string (gr (34::jK s 0++[34])))∧Below W.heap.size W w:=by
 obtain ⟨i0,hi,gj,dR,c7⟩:=info_parts Tryz.infoByte
 have Jb:Hid (Bytes W.heap.size W (.slice none 0 0) []):=pR _ _
 have iK:Hid (Below W.heap.size W W):=zE _ _
 go_enter Tryz.func27,Tryz.ntmps27
 go_wp2
 go_loopg [3,4,5,6] s.size (fun gk v3 v4 _ _ wr=>∃(k:Nat) (pre:List Nat) (va:Option Addr) (vn vc:Nat),v3=.slice va vn vc∧v4=.int .i64 (k:Int)∧gk=s.size-k∧k≤s.size∧pre.length≤4*k∧Hid (Bytes W.heap.size wr (.slice va vn vc) pre)∧Hid (mO pre)∧Hid (jK s 0=pre++jK s k)∧Hid (Below W.heap.size W wr))
 case atStart=>exact ⟨0,[],_,_,_,rfl,rfl,rfl,by omega,by simp,Jb,fun x hx=>by simp at hx,rfl,iK⟩
 case round =>
  obtain ⟨k,pre,va,vn,vc,rfl,rfl,aU,hk,EK,HY,Jh,Hq,HB⟩:=hrel
  have bz:=al aU
  clear aU Jb iK
  by_cases aM:k<s.size
  ·have fl:=pA aM
   have Rm:=@BD s k
   have EI:=Gu s k
   have Rq:pre.length+(qs s k).length≤4*(k+qn s k):=by omega
   have cF:Hid (jK s 0=(pre++qs s k)++jK s (k+qn s k)):=by
    show jK s 0=(pre++qs s k)++jK s (k+qn s k)
    rw[ab Hq,fl,List.append_assoc]
   have fk:Hid (mO (pre++qs s k)):=(ab Jh).append EI
   have uP:=al Rq
   have fE:W.heap.size≤wr.heap.size:=(ab HB).size
   obtain ⟨x,hx⟩:∃x:Nat,s[k].toNat=x:=⟨_,rfl⟩
   have dO:aC s k=x:=(dk s k aM).trans hx
   have cZ:x<256:=by rw[←dO];exact dw s k
   have k0:(0:Int)≤(k:Int):=zH _
   have k1:(k:Int)<(s.size:Int):=by omega
   have jd:=al dO
   clear fl Rm EI Rq Hq dO
   go_wp2_with fail
   refine (uy wr s k aM (by omega)).mono ?_
   rintro e w2 ⟨rfl,he⟩
   obtain rfl:wr=w2:=he.symm
   obtain ⟨n,hn⟩:∃n,n=dY s k:=⟨_,rfl⟩
   have KO:=oY s k hk
   rw[←hn] at KO ⊢
   obtain ⟨Cg,EL⟩:=KO
   have Hn:=al hn
   clear hn hx he
   by_cases g0:x=92
   ·have mL:=nF (s:=s) (k:=k) (by rw[ab jd];omega) (by rw[ab jd];omega)
    obtain ⟨gN,na⟩:=lZ (ab jd) mL
    have he:mE x=[92,x]:=by unfold mE;rw[if_pos (.inl g0)]
    rw[gN,na,he] at cF uP
    rw[gN,he] at fk
    have oI:n=1:=by rw[ab Hn];exact kM aM (by rw[ab jd];omega)
    rw[oI]
    have f0:=E0 (c:=x) (k:=92) (by omega)
    have O1:Hid (pre.length+2≤maxLen):=by show _≤_;unfold maxLen;omega
    have O2:Hid ((pre.length+2)*1≤140737488355328):=by show _≤_;omega
    clear mL gN na he Cg EL oI g0
    go_wp2_with (at_builtin;refine wpList_append_own_at _ rfl _ _ 58 rfl W.heap.size 5 i0 (.int .u8 0) 1 1 Tryz.underlying58 hi gj dR c7 rfl (by decide) _ _ _ rfl ((ab HY).alloc _) ⟨wr.heap.size,0,none⟩ 2 2 [.int .u8 92,.int .u8 (x:Int)] rfl rfl (dj _ _ _) (by simp[Value.oneCell']) (ab O1) (ab O2) (by rw[zJ];omega) ?_;intro v4 w4 bJ ba _ cJ;have HP:Hid (nO W.heap.size wr (.slice va vn vc) pre [92,x] (.returned v4) w4):=eL (ys:=[92,x]) bJ rfl rfl ba cJ;clear bJ ba cJ)
    obtain ⟨v5,kH,eu,dV⟩:=ab HP
    obtain rfl:v4=v5:=by simpa using kH
    obtain ⟨A0,Bh,AZ,rfl⟩:=eu.shape
    have ed:Hid (Below W.heap.size W w4):=(ab HB).trans (dV.below fE (ab HY).eJ)
    have pX:=al eu
    clear eu dV kH HP
    go_roundg (s.size-(k+1))
    case measure=>have:=ab bz;omega
    case rel=>exact ⟨k+1,pre++[92,x],_,_,_,rfl,by go_num,rfl,by omega,by have:=ab uP;simp only[zK];omega,pX,fk,cF,ed⟩
   ·have f0:=fZ (c:=x) (k:=92) (by omega)
    by_cases g1:x=34
    ·have mL:=nF (s:=s) (k:=k) (by rw[ab jd];omega) (by rw[ab jd];omega)
     obtain ⟨gN,na⟩:=lZ (ab jd) mL
     have he:mE x=[92,x]:=by unfold mE;rw[if_pos (.inr g1)]
     rw[gN,na,he] at cF uP
     rw[gN,he] at fk
     have oI:n=1:=by rw[ab Hn];exact kM aM (by rw[ab jd];omega)
     rw[oI]
     have f0:=E0 (c:=x) (k:=34) (by omega)
     have O1:Hid (pre.length+2≤maxLen):=by show _≤_;unfold maxLen;omega
     have O2:Hid ((pre.length+2)*1≤140737488355328):=by show _≤_;omega
     clear mL gN na he Cg EL oI g0 g1
     go_wp2_with (at_builtin;refine wpList_append_own_at _ rfl _ _ 58 rfl W.heap.size 5 i0 (.int .u8 0) 1 1 Tryz.underlying58 hi gj dR c7 rfl (by decide) _ _ _ rfl ((ab HY).alloc _) ⟨wr.heap.size,0,none⟩ 2 2 [.int .u8 92,.int .u8 (x:Int)] rfl rfl (dj _ _ _) (by simp[Value.oneCell']) (ab O1) (ab O2) (by rw[zJ];omega) ?_;intro v4 w4 bJ ba _ cJ;have HP:Hid (nO W.heap.size wr (.slice va vn vc) pre [92,x] (.returned v4) w4):=eL (ys:=[92,x]) bJ rfl rfl ba cJ;clear bJ ba cJ)
     obtain ⟨v5,kH,eu,dV⟩:=ab HP
     obtain rfl:v4=v5:=by simpa using kH
     obtain ⟨A0,Bh,AZ,rfl⟩:=eu.shape
     have ed:Hid (Below W.heap.size W w4):=(ab HB).trans (dV.below fE (ab HY).eJ)
     have pX:=al eu
     clear eu dV kH HP
     go_roundg (s.size-(k+1))
     case measure=>have:=ab bz;omega
     case rel=>exact ⟨k+1,pre++[92,x],_,_,_,rfl,by go_num,rfl,by omega,by have:=ab uP;simp only[zK];omega,pX,fk,cF,ed⟩
    ·have f1:=fZ (c:=x) (k:=34) (by omega)
     have EV:¬(x=92∨x=34):=fun q=>q.elim g0 g1
     by_cases g2:x=10
     ·have mL:=nF (s:=s) (k:=k) (by rw[ab jd];omega) (by rw[ab jd];omega)
      obtain ⟨gN,na⟩:=lZ (ab jd) mL
      have he:mE x=[92,110]:=by unfold mE;rw[if_neg EV];rw[if_pos g2]
      rw[gN,na,he] at cF uP
      rw[gN,he] at fk
      have oI:n=1:=by rw[ab Hn];exact kM aM (by rw[ab jd];omega)
      rw[oI]
      have f0:=E0 (c:=x) (k:=10) (by omega)
      have O1:Hid (pre.length+2≤maxLen):=by show _≤_;unfold maxLen;omega
      have O2:Hid ((pre.length+2)*1≤140737488355328):=by show _≤_;omega
      clear mL gN na he Cg EL oI g0 g1 EV g2
      go_wp2_with (at_builtin;refine wpList_append_own_at _ rfl _ _ 58 rfl W.heap.size 5 i0 (.int .u8 0) 1 1 Tryz.underlying58 hi gj dR c7 rfl (by decide) _ _ _ rfl ((ab HY).alloc _) ⟨wr.heap.size,0,none⟩ 2 2 [.int .u8 92,.int .u8 110] rfl rfl (dj _ _ _) (by simp[Value.oneCell']) (ab O1) (ab O2) (by rw[zJ];omega) ?_;intro v4 w4 bJ ba _ cJ;have HP:Hid (nO W.heap.size wr (.slice va vn vc) pre [92,110] (.returned v4) w4):=eL (ys:=[92,110]) bJ rfl rfl ba cJ;clear bJ ba cJ)
      obtain ⟨v5,kH,eu,dV⟩:=ab HP
      obtain rfl:v4=v5:=by simpa using kH
      obtain ⟨A0,Bh,AZ,rfl⟩:=eu.shape
      have ed:Hid (Below W.heap.size W w4):=(ab HB).trans (dV.below fE (ab HY).eJ)
      have pX:=al eu
      clear eu dV kH HP
      go_roundg (s.size-(k+1))
      case measure=>have:=ab bz;omega
      case rel=>exact ⟨k+1,pre++[92,110],_,_,_,rfl,by go_num,rfl,by omega,by have:=ab uP;simp only[zK];omega,pX,fk,cF,ed⟩
     ·have f2:=fZ (c:=x) (k:=10) (by omega)
      by_cases g3:x=13
      ·have mL:=nF (s:=s) (k:=k) (by rw[ab jd];omega) (by rw[ab jd];omega)
       obtain ⟨gN,na⟩:=lZ (ab jd) mL
       have he:mE x=[92,114]:=by unfold mE;rw[if_neg EV];rw[if_neg g2];rw[if_pos g3]
       rw[gN,na,he] at cF uP
       rw[gN,he] at fk
       have oI:n=1:=by rw[ab Hn];exact kM aM (by rw[ab jd];omega)
       rw[oI]
       have f0:=E0 (c:=x) (k:=13) (by omega)
       have O1:Hid (pre.length+2≤maxLen):=by show _≤_;unfold maxLen;omega
       have O2:Hid ((pre.length+2)*1≤140737488355328):=by show _≤_;omega
       clear mL gN na he Cg EL oI g0 g1 EV g2 g3
       go_wp2_with (at_builtin;refine wpList_append_own_at _ rfl _ _ 58 rfl W.heap.size 5 i0 (.int .u8 0) 1 1 Tryz.underlying58 hi gj dR c7 rfl (by decide) _ _ _ rfl ((ab HY).alloc _) ⟨wr.heap.size,0,none⟩ 2 2 [.int .u8 92,.int .u8 114] rfl rfl (dj _ _ _) (by simp[Value.oneCell']) (ab O1) (ab O2) (by rw[zJ];omega) ?_;intro v4 w4 bJ ba _ cJ;have HP:Hid (nO W.heap.size wr (.slice va vn vc) pre [92,114] (.returned v4) w4):=eL (ys:=[92,114]) bJ rfl rfl ba cJ;clear bJ ba cJ)
       obtain ⟨v5,kH,eu,dV⟩:=ab HP
       obtain rfl:v4=v5:=by simpa using kH
       obtain ⟨A0,Bh,AZ,rfl⟩:=eu.shape
       have ed:Hid (Below W.heap.size W w4):=(ab HB).trans (dV.below fE (ab HY).eJ)
       have pX:=al eu
       clear eu dV kH HP
       go_roundg (s.size-(k+1))
       case measure=>have:=ab bz;omega
       case rel=>exact ⟨k+1,pre++[92,114],_,_,_,rfl,by go_num,rfl,by omega,by have:=ab uP;simp only[zK];omega,pX,fk,cF,ed⟩
      ·have f3:=fZ (c:=x) (k:=13) (by omega)
       by_cases g4:x=9
       ·have mL:=nF (s:=s) (k:=k) (by rw[ab jd];omega) (by rw[ab jd];omega)
        obtain ⟨gN,na⟩:=lZ (ab jd) mL
        have he:mE x=[92,116]:=by unfold mE;rw[if_neg EV];rw[if_neg g2];rw[if_neg g3];rw[if_pos g4]
        rw[gN,na,he] at cF uP
        rw[gN,he] at fk
        have oI:n=1:=by rw[ab Hn];exact kM aM (by rw[ab jd];omega)
        rw[oI]
        have f0:=E0 (c:=x) (k:=9) (by omega)
        have O1:Hid (pre.length+2≤maxLen):=by show _≤_;unfold maxLen;omega
        have O2:Hid ((pre.length+2)*1≤140737488355328):=by show _≤_;omega
        clear mL gN na he Cg EL oI g0 g1 EV g2 g3 g4
        go_wp2_with (at_builtin;refine wpList_append_own_at _ rfl _ _ 58 rfl W.heap.size 5 i0 (.int .u8 0) 1 1 Tryz.underlying58 hi gj dR c7 rfl (by decide) _ _ _ rfl ((ab HY).alloc _) ⟨wr.heap.size,0,none⟩ 2 2 [.int .u8 92,.int .u8 116] rfl rfl (dj _ _ _) (by simp[Value.oneCell']) (ab O1) (ab O2) (by rw[zJ];omega) ?_;intro v4 w4 bJ ba _ cJ;have HP:Hid (nO W.heap.size wr (.slice va vn vc) pre [92,116] (.returned v4) w4):=eL (ys:=[92,116]) bJ rfl rfl ba cJ;clear bJ ba cJ)
        obtain ⟨v5,kH,eu,dV⟩:=ab HP
        obtain rfl:v4=v5:=by simpa using kH
        obtain ⟨A0,Bh,AZ,rfl⟩:=eu.shape
        have ed:Hid (Below W.heap.size W w4):=(ab HB).trans (dV.below fE (ab HY).eJ)
        have pX:=al eu
        clear eu dV kH HP
        go_roundg (s.size-(k+1))
        case measure=>have:=ab bz;omega
        case rel=>exact ⟨k+1,pre++[92,116],_,_,_,rfl,by go_num,rfl,by omega,by have:=ab uP;simp only[zK];omega,pX,fk,cF,ed⟩
       ·have f4:=fZ (c:=x) (k:=9) (by omega)
        by_cases g5:x<32
        ·have mL:dc s k=0:=nF (by rw[ab jd];omega) (by rw[ab jd];exact .inl g5)
         obtain ⟨gN,na⟩:=lZ (ab jd) mL
         rw[x8 EV g2 g3 g4] at gN
         rw[gN,na] at cF uP
         rw[gN] at fk
         have f5:=M9 (c:=x) (k:=32) (by omega)
         have Ds:(gr (fc x)).size=4:=by rw[jN];rfl
         have ef:aI (gr (fc x))=fc x:=pw (ou cZ)
         have O1:Hid (pre.length+(gr (fc x)).size≤maxLen):=by show _≤_;rw[Ds];unfold maxLen;omega
         have O2:Hid (pre.length+(gr (fc x)).size≤140737488355328):=by show _≤_;rw[Ds];omega
         have OI:=al Ds
         have OJ:=al ef
         clear mL gN na Ds ef g0 g1 EV g2 g3 g4 g5
         go_wp2_with fail
         refine (pB wr x cZ).mono ?_
         rintro e w3 ⟨rfl,cE⟩
         have cR:Hid (Below W.heap.size W w3):=(ab HB).trans (cE.mono (ab HB).size)
         have Mx:Hid (Bytes W.heap.size w3 (.slice va vn vc) pre):=(ab HY).up cE
         replace fE:W.heap.size≤w3.heap.size:=(ab cR).size
         clear cE HY HB
         have HY:=Mx
         clear Mx
         go_wp2_with (at_builtin;refine bV rfl _ _ 58 9 rfl W.heap.size 5 i0 Tryz.underlying58 Tryz.underlying9 hi gj dR c7 _ _ _ rfl (ab HY) (gr (fc x)) rfl (ab O1) (ab O2) fE ?_;intro v4 w4 bJ ba cJ;have HP:Hid (nO W.heap.size w3 (.slice va vn vc) pre (fc x) (.returned v4) w4):=iu (ys:=fc x) bJ (by rw[ab OI];rfl) ((ez _).trans (by rw[ab OJ])) ba cJ;clear bJ ba cJ)
         obtain ⟨v5,kH,eu,dV⟩:=ab HP
         obtain rfl:v4=v5:=by simpa using kH
         obtain ⟨A0,Bh,AZ,rfl⟩:=eu.shape
         have ed:Hid (Below W.heap.size W w4):=(ab cR).trans (dV.below fE (ab HY).eJ)
         have pX:=al eu
         clear eu dV kH HP
         go_roundg (s.size-(k+1))
         case measure=>have:=ab bz;omega
         case rel=>exact ⟨k+1,pre++fc x,_,_,_,rfl,by go_num,rfl,by omega,by have:=ab uP;simp only[zK];omega,pX,fk,cF,ed⟩
        ·have f5:=qL (c:=x) (k:=32) (by omega)
         by_cases g6:x=127
         ·have mL:dc s k=0:=nF (by rw[ab jd];omega) (by rw[ab jd];exact .inr (.inl g6))
          obtain ⟨gN,na⟩:=lZ (ab jd) mL
          rw[x8 EV g2 g3 g4] at gN
          rw[gN,na] at cF uP
          rw[gN] at fk
          have f6:=E0 (c:=x) (k:=127) (by omega)
          have Ds:(gr (fc x)).size=4:=by rw[jN];rfl
          have ef:aI (gr (fc x))=fc x:=pw (ou cZ)
          have O1:Hid (pre.length+(gr (fc x)).size≤maxLen):=by show _≤_;rw[Ds];unfold maxLen;omega
          have O2:Hid (pre.length+(gr (fc x)).size≤140737488355328):=by show _≤_;rw[Ds];omega
          have OI:=al Ds
          have OJ:=al ef
          clear mL gN na Ds ef g0 g1 EV g2 g3 g4 g5 g6
          go_wp2_with fail
          refine (pB wr x cZ).mono ?_
          rintro e w3 ⟨rfl,cE⟩
          have cR:Hid (Below W.heap.size W w3):=(ab HB).trans (cE.mono (ab HB).size)
          have Mx:Hid (Bytes W.heap.size w3 (.slice va vn vc) pre):=(ab HY).up cE
          replace fE:W.heap.size≤w3.heap.size:=(ab cR).size
          clear cE HY HB
          have HY:=Mx
          clear Mx
          go_wp2_with (at_builtin;refine bV rfl _ _ 58 9 rfl W.heap.size 5 i0 Tryz.underlying58 Tryz.underlying9 hi gj dR c7 _ _ _ rfl (ab HY) (gr (fc x)) rfl (ab O1) (ab O2) fE ?_;intro v4 w4 bJ ba cJ;have HP:Hid (nO W.heap.size w3 (.slice va vn vc) pre (fc x) (.returned v4) w4):=iu (ys:=fc x) bJ (by rw[ab OI];rfl) ((ez _).trans (by rw[ab OJ])) ba cJ;clear bJ ba cJ)
          obtain ⟨v5,kH,eu,dV⟩:=ab HP
          obtain rfl:v4=v5:=by simpa using kH
          obtain ⟨A0,Bh,AZ,rfl⟩:=eu.shape
          have ed:Hid (Below W.heap.size W w4):=(ab cR).trans (dV.below fE (ab HY).eJ)
          have pX:=al eu
          clear eu dV kH HP
          go_roundg (s.size-(k+1))
          case measure=>have:=ab bz;omega
          case rel=>exact ⟨k+1,pre++fc x,_,_,_,rfl,by go_num,rfl,by omega,by have:=ab uP;simp only[zK];omega,pX,fk,cF,ed⟩
         ·have f6:=fZ (c:=x) (k:=127) (by omega)
          have Dr:dc s k=n:=by rw[ab Hn];exact Ki aM (by rw[ab jd];omega)
          by_cases g7:n=0
          ·have mL:dc s k=0:=Dr.trans g7
           obtain ⟨gN,na⟩:=lZ (ab jd) mL
           rw[x8 EV g2 g3 g4] at gN
           rw[gN,na] at cF uP
           rw[gN] at fk
           have f7:((n:Int)==0)=true:=by simp;omega
           have Ds:(gr (fc x)).size=4:=by rw[jN];rfl
           have ef:aI (gr (fc x))=fc x:=pw (ou cZ)
           have O1:Hid (pre.length+(gr (fc x)).size≤maxLen):=by show _≤_;rw[Ds];unfold maxLen;omega
           have O2:Hid (pre.length+(gr (fc x)).size≤140737488355328):=by show _≤_;rw[Ds];omega
           have OI:=al Ds
           have OJ:=al ef
           clear mL gN na Ds ef g0 g1 EV g2 g3 g4 g5 g6 g7 Dr
           go_wp2_with fail
           refine (pB wr x cZ).mono ?_
           rintro e w3 ⟨rfl,cE⟩
           have cR:Hid (Below W.heap.size W w3):=(ab HB).trans (cE.mono (ab HB).size)
           have Mx:Hid (Bytes W.heap.size w3 (.slice va vn vc) pre):=(ab HY).up cE
           replace fE:W.heap.size≤w3.heap.size:=(ab cR).size
           clear cE HY HB
           have HY:=Mx
           clear Mx
           go_wp2_with (at_builtin;refine bV rfl _ _ 58 9 rfl W.heap.size 5 i0 Tryz.underlying58 Tryz.underlying9 hi gj dR c7 _ _ _ rfl (ab HY) (gr (fc x)) rfl (ab O1) (ab O2) fE ?_;intro v4 w4 bJ ba cJ;have HP:Hid (nO W.heap.size w3 (.slice va vn vc) pre (fc x) (.returned v4) w4):=iu (ys:=fc x) bJ (by rw[ab OI];rfl) ((ez _).trans (by rw[ab OJ])) ba cJ;clear bJ ba cJ)
           obtain ⟨v5,kH,eu,dV⟩:=ab HP
           obtain rfl:v4=v5:=by simpa using kH
           obtain ⟨A0,Bh,AZ,rfl⟩:=eu.shape
           have ed:Hid (Below W.heap.size W w4):=(ab cR).trans (dV.below fE (ab HY).eJ)
           have pX:=al eu
           clear eu dV kH HP
           go_roundg (s.size-(k+1))
           case measure=>have:=ab bz;omega
           case rel=>exact ⟨k+1,pre++fc x,_,_,_,rfl,by go_num,rfl,by omega,by have:=ab uP;simp only[zK];omega,pX,fk,cF,ed⟩
          ·have f7:((n:Int)==0)=false:=by simp;omega
           obtain ⟨gN,na⟩:=Kh Dr g7
           rw[gN,na] at cF uP
           rw[gN] at fk
           have GV:=qi s k n
           have dU:=C0 Cg
           have B8:=extract_size s k (k+n) Cg
           have O1:Hid (pre.length+(s.extract k (k+n)).size≤maxLen):=by show _≤_;rw[B8];unfold maxLen;omega
           have O2:Hid (pre.length+(s.extract k (k+n)).size≤140737488355328):=by show _≤_;rw[B8];omega
           have OF:=al GV
           have Xg:=al dU
           have Hxz:=al B8
           clear gN na Dr GV dU B8 g0 g1 EV g2 g3 g4 g5 g6
           go_wp2_with (at_builtin;refine bV rfl _ _ 58 9 rfl W.heap.size 5 i0 Tryz.underlying58 Tryz.underlying9 hi gj dR c7 _ _ _ rfl (ab HY) (s.extract k (k+n)) rfl (ab O1) (ab O2) fE ?_;intro v4 w4 bJ ba cJ;have HP:Hid (nO W.heap.size wr (.slice va vn vc) pre (sub s k n) (.returned v4) w4):=iu (ys:=sub s k n) bJ (by rw[ab Hxz,ab Xg];omega) ((ez _).trans (by rw[ab OF])) ba cJ;clear bJ ba cJ)
           obtain ⟨v5,kH,eu,dV⟩:=ab HP
           obtain rfl:v4=v5:=by simpa using kH
           obtain ⟨A0,Bh,AZ,rfl⟩:=eu.shape
           have ed:Hid (Below W.heap.size W w4):=(ab HB).trans (dV.below fE (ab HY).eJ)
           have pX:=al eu
           clear eu dV kH HP
           go_roundg (s.size-(k+n))
           case measure=>have:=ab bz;omega
           case rel=>exact ⟨k+n,pre++sub s k n,_,_,_,rfl,by go_num,rfl,by omega,by have:=ab uP;simp only[zK];omega,pX,fk,cF,ed⟩
  ·have hq:=ab Hq
   rw[n8 aM,List.append_nil] at hq
   have DU:=al hq
   obtain rfl:k=s.size:=by omega
   have lJ:=kL (ab HY).has (ab Jh)
   have hzz:(gr pre).size≤4194304:=by rw[jN];omega
   clear hq Hq
   go_wp2
   go_ret
   refine ⟨?_,ab HB⟩
   rw[ab DU]
   show _=Ending.returned (.string (gr (34::pre++[34])))
   rw[←Ql pre]
   rfl
end Go.Proofs.YtichhjfjcinjgaaGreatDoor

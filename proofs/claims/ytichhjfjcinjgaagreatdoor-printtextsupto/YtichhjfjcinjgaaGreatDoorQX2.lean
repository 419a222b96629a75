import Derived.Test.YtichhjfjcinjgaaGreatDoorM12
import Derived.Test.YtichhjfjcinjgaaGreatDoorSTa
set_option maxHeartbeats 4000000
set_option maxRecDepth 100000
namespace Go.Proofs.YtichhjfjcinjgaaGreatDoor
open Go.RowKit Go.Lib
attribute [local go_sem ↓] Go.wp_at_zero Go.wp_at_succ
def Nv:List Nat:=[97,98,102,110,114,116,118,92,39,34]
def PH:List Nat:=[7,8,12,10,13,9,11,92,39,34]
theorem Ri:∀i:Fin 10,lR (Nv[i.val]'(by have:=i.isLt;show _<10;omega))=some (PH[i.val]'(by have:=i.isLt;show _<10;omega)):=by decide
theorem Nu {i x:Nat} (h:Nv[i]?=some x):∃v,lR x=some v∧PH[i]?=some v∧v<256:=by
 obtain ⟨hi,rfl⟩:=zB h
 have IJ:i<10:=hi
 refine ⟨_,Ri ⟨i,IJ⟩,List.getElem?_eq_getElem _,?_⟩
 have key:∀i:Fin 10,PH[i.val]'(by have:=i.isLt;show _<10;omega)<256:=by decide
 exact key ⟨i,IJ⟩
theorem KU {x:Nat} (h:∀j y:Nat,Nv[j]?=some y→¬y=x):lR x=none:=by
 have g0:=h 0 97 rfl
 have g1:=h 1 98 rfl
 have g2:=h 2 102 rfl
 have g3:=h 3 110 rfl
 have g4:=h 4 114 rfl
 have g5:=h 5 116 rfl
 have g6:=h 6 118 rfl
 have g7:=h 7 92 rfl
 have g8:=h 8 39 rfl
 have g9:=h 9 34 rfl
 unfold lR
 rw[if_neg (by omega),if_neg (by omega),if_neg (by omega),if_neg (by omega),if_neg (by omega),if_neg (by omega),if_neg (by omega),if_neg (by omega)]
theorem nmS:aI ⟨#[97,98,102,110,114,116,118,92,39,34]⟩=Nv:=rfl
theorem Dh (W:World) (x:Nat) (hx:x<256):Calls Tryz.prog 103 #[.int .u8 (x:Int),.int .u8 8] W (Ej W (nC 8 x≠none)):=by
 rw[NI]
 go_enter Tryz.func103,Tryz.ntmps103
 go_wp2
 all_goals (go_ret;refine GV _ ?_;simp;omega)
theorem DP {x:Nat}:(o4 x=-1∧nC 16 x=none)∨∃d:Nat,o4 x=(d:Int)∧nC 16 x=some d∧d<16:=by
 rcases ie x with ⟨h1,h2⟩|⟨d,h1,h2,h3⟩
 ·left
  refine ⟨h1,?_⟩
  unfold nC
  split
  ·rfl
  ·rename_i d hd
   rw[if_neg (by have:=h2 d hd;omega)]
 ·right
  refine ⟨d,h1,?_,h3⟩
  unfold nC
  rw[h2]
  exact if_pos h3
theorem Ih {x:Nat} (h:nC 8 x≠none):nC 8 x=some (x-48)∧48≤x∧x≤55:=by
 obtain ⟨h1,h2⟩:=NI.1 h
 refine ⟨?_,h1,h2⟩
 unfold nC yH
 rw[if_pos (by omega)]
 exact if_pos (by omega)
theorem kZ {s:ByteArray}{p x:Nat} (h:(aI s)[p]?=some x):(aI s).drop p=x::(aI s).drop (p+1):=by
 obtain ⟨hl,mc⟩:=zB h
 rw[List.drop_eq_getElem_cons hl,mc]
def VB (B j v:Nat):Prop:=v<B ^ j
theorem VB.next {B j v d:Nat} (h:VB B j v) (hd:d<B):VB B (j+1) (v*B+d):=by
 unfold VB at *
 rw[Nat.pow_succ]
 have:(v+1)*B≤B ^ j*B:=Nat.mul_le_mul_right B h
 rw[Nat.add_mul,Nat.one_mul] at this
 omega
theorem QY {j v:Nat} (h:VB 16 j v) (hj:j≤2):v≤255:=by
 unfold VB at h
 have:(16:Nat) ^ j≤16 ^ 2:=Nat.pow_le_pow_right (by decide) hj
 have e:(16:Nat) ^ 2=256:=by decide
 omega
theorem vb8 {j v:Nat} (h:VB 8 j v) (hj:j≤3):v≤511:=by
 unfold VB at h
 have:(8:Nat) ^ j≤8 ^ 3:=Nat.pow_le_pow_right (by decide) hj
 have e:(8:Nat) ^ 3=512:=by decide
 omega
theorem Ck {s:ByteArray}{p:Nat} (h:¬p<s.size):(aI s).drop p=[]:=List.drop_eq_nil_of_le (by rw[aZ];omega)
theorem gN {p:Nat×Nat}{k:Nat} (h:p.2=0∨255<p.1):fin p k=none:=by unfold fin;rw[if_pos h]
theorem lK {v n k:Nat} (h:¬n=0) (h2:v≤255):fin (v,n) k=some (v,k+n):=by unfold fin;rw[if_neg (by simp;omega)]
theorem zt (W:World) (s:ByteArray) (k:Nat) (hk:k<s.size) (hs:s.size≤65536):Calls Tryz.prog 153 #[.string s,.int .i64 (k:Int)] W (VN W (dw ((aI s).drop k))):=by
 have bG:=zE W.heap.size W
 have k0:(0:Int)≤(k:Int):=zH _
 by_cases h2:k+1<s.size
 ·obtain ⟨j,hj⟩:∃j,j=k+1:=⟨_,rfl⟩
  have hjs:j<s.size:=by omega
  obtain ⟨a,ha,_,_⟩:=cj s k hk
  obtain ⟨x,hx,c8,gx⟩:=cj s j hjs
  have Iq:(aI s).drop k=a::x::(aI s).drop (k+2):=by
   rw[kZ ha,←hj,kZ hx,hj]
  rw[Iq]
  have cH:(k:Int)+1=(j:Int):=by omega
  have j0:(0:Int)≤(j:Int):=zH _
  have j1:(j:Int)<(s.size:Int):=by omega
  have e1:decide (s.size≤j)=false:=by simp;omega
  have Hr:=al Iq
  have Hj:=al hj
  have Hx:=al hx
  have cO:Hid (Below W.heap.size W (W.alloc (.cells #[.int .u8 7,.int .u8 8,.int .u8 12,.int .u8 10,.int .u8 13,.int .u8 9,.int .u8 11,.int .u8 92,.int .u8 39,.int .u8 34] 5))):=bG.alloc (zD _) _
  have Oe:∀(i v:Nat),PH[i]?=some v→(W.alloc (.cells #[.int .u8 7,.int .u8 8,.int .u8 12,.int .u8 10,.int .u8 13,.int .u8 9,.int .u8 11,.int .u8 92,.int .u8 39,.int .u8 34] 5)).cell? ⟨W.heap.size,i,none⟩=some (.int .u8 (v:Int)):=fun i v h=>by
   have:=dq W (nb PH) 5 i (.int .u8 (v:Int)) (by rw[Rj,h];rfl)
   rw[Go.WideShapes.add_plain] at this
   simpa[nb,PH] using this
  have tI:=al Oe
  clear Iq hj h2 ha hx Oe bG
  go_enter Tryz.func153,Tryz.ntmps153
  go_wp2
  generalize W.alloc (.cells #[.int .u8 7,.int .u8 8,.int .u8 12,.int .u8 10,.int .u8 13,.int .u8 9,.int .u8 11,.int .u8 92,.int .u8 39,.int .u8 34] 5)=W1 at *
  go_loopg [9] 10 (fun gk v9 wr=>∃(i:Nat),v9=.int .i64 (i:Int)∧gk=10-i∧i≤10∧wr=W1∧Hid (∀j y:Nat,j<i→Nv[j]?=some y→¬y=x))
  case atStart=>exact ⟨0,rfl,rfl,by omega,rfl,fun j y hj=>by omega⟩
  case round =>
   obtain ⟨i,rfl,aW,hi,rfl,FT⟩:=hrel
   have bz:=al aW
   clear aW
   by_cases aM:i<10
   ·obtain ⟨y,hy,AL,gy⟩:=cj ⟨#[97,98,102,110,114,116,118,92,39,34]⟩ i (by exact aM)
    rw[nmS] at hy
    have i0:(0:Int)≤(i:Int):=zH _
    have i1:(i:Int)<10:=by omega
    by_cases TN:y=x
    ·obtain ⟨v,hv,hw,y8⟩:=Nu hy
     have MD:=ab tI i v hw
     have Hv:Hid (dw (a::x::(aI s).drop (k+2))=some (v,2)):=eu (by rw[←TN];exact hv)
     have fq:((y:Int)==(x:Int))=true:=by simp;omega
     clear hv hw hy TN FT tI
     go_wp2
     go_ret2
     exact bI (n:=2) (ab cO) (ab Hv)
    ·have fq:((y:Int)==(x:Int))=false:=by simp;omega
     have cG:Hid (∀j z:Nat,j<i+1→Nv[j]?=some z→¬z=x):=fun j z hj hz=>by
      by_cases N6:j<i
      ·exact ab FT j z N6 hz
      ·obtain rfl:j=i:=by omega
       rw[hy] at hz;obtain rfl:=zC hz;exact TN
     clear hy TN FT
     go_wp2
     go_roundg (10-(i+1))
     case measure=>have:=ab bz;omega
     case rel=>exact ⟨i+1,by go_num,rfl,by omega,rfl,cG⟩
   ·have AR:lR x=none:=KU (fun j y hy=>ab FT j y (by have:=(zB hy).1;have e:Nv.length=10:=rfl;omega) hy)
    obtain rfl:i=10:=by omega
    clear FT tI
    by_cases AU:x=120
    ·have f120:=lL (c:=x) (k:=120) (by omega)
     have Hv:Hid (dw (a::x::(aI s).drop (k+2))=fin (cE 16 2 ((aI s).drop (k+2)) 0 0) 2):=ph AR (.inl AU)
     clear AR AU
     go_wp2
     go_loopg [10,11] 2 (fun gk v10 v11 QK=>∃(c v:Nat),v10=.int .i64 (v:Int)∧v11=.int .i64 ((2+c:Nat):Int)∧gk=2-c∧c≤2∧v≤255∧QK=wr∧Hid (VB 16 c v)∧Hid (cE 16 2 ((aI s).drop (k+2)) 0 0=cE 16 (2-c) ((aI s).drop (k+(2+c))) v c))
     case atStart=>exact ⟨0,0,rfl,rfl,rfl,by omega,by omega,rfl,by show 0<16 ^ 0;decide,rfl⟩
     case round =>
      obtain ⟨c,v,rfl,rfl,gL,hc,hv,rfl,S0,Hd⟩:=hrel
      obtain ⟨n,hn⟩:∃n,n=2+c:=⟨_,rfl⟩
      obtain ⟨q,hq⟩:∃q,q=k+n:=⟨_,rfl⟩
      rw[←hn] at Hd ⊢
      rw[←hq] at Hd
      have bN:(k:Int)+(n:Int)=(q:Int):=by omega
      have q0:(0:Int)≤(q:Int):=zH _
      have ZG:2≤n:=by omega
      have Fe:n≤4:=by omega
      have Hn:=al hn
      have Hq:=al hq
      have kH:=al gL
      clear gL hn hq
      by_cases oA:c<2
      ·have n4:decide ((n:Int)<4)=true:=by have:=ab Hn;simp;omega
       by_cases gS:q<s.size
       ·obtain ⟨y,hy,AL,gy⟩:=cj s q gS
        have q1:(q:Int)<(s.size:Int):=by omega
        have lW:=al (kZ hy)
        clear hy
        rcases @DP y with ⟨hI,hD⟩|⟨d,hI,hD,hd⟩
        ·have JP:=al oA
         have HD:=al hD
         have E9:Calls Tryz.prog 152 #[.int .u8 (y:Int)] wr fun e w=>e=.returned (.int .i64 (-1))∧w=wr:=by have:=gF wr y AL;rw[hI] at this;exact this
         clear oA hD hI
         go_wp2_with fail
         refine E9.mono ?_
         rintro e w' ⟨rfl,he⟩
         obtain rfl:wr=w':=he.symm
         clear E9
         have Hf:Hid (cE 16 2 ((aI s).drop (k+2)) 0 0=(v,c)):=(ab Hd).trans (by rw[ab lW,mW (ab HD)])
         by_cases c0:c=0
         ·have Hr:Hid (dw (a::x::(aI s).drop (k+2))=none):=(ab Hv).trans (gN (by rw[ab Hf];exact .inl c0))
          have en:((n:Int)==2)=true:=by have:=ab Hn;simp;omega
          clear c0 Hf Hd hc
          go_wp2
          go_ret2
          exact dJ (ab cO) (ab Hr)
         ·have Hr:Hid (dw (a::x::(aI s).drop (k+2))=some (v,n)):=(ab Hv).trans (by rw[ab Hf,lK c0 hv,←ab Hn])
          have en:((n:Int)==2)=false:=by have:=ab Hn;simp;omega
          clear c0 Hf Hd hc
          go_wp2
          go_ret2
          have e9:IntKind.u8.wrap (v:Int)=(v:Int):=by simp[IntKind.wrap,IntKind.bits,IntKind.signed];omega
          first
           |exact bI (ab cO) (ab Hr)
           |(rw[e9];exact bI (ab cO) (ab Hr))
        ·have E9:Calls Tryz.prog 152 #[.int .u8 (y:Int)] wr fun e w=>e=.returned (.int .i64 (d:Int))∧w=wr:=by have:=gF wr y AL;rw[hI] at this;exact this
         have cG:Hid (cE 16 2 ((aI s).drop (k+2)) 0 0=cE 16 (2-(c+1)) ((aI s).drop (q+1)) (v*16+d) (c+1)):=by show _=_;rw[ab Hd,ab lW,show 2-c=(2-(c+1))+1 by omega,mV hD]
         have Bf:Hid (VB 16 (c+1) (v*16+d)):=(ab S0).next hd
         have NU:v*16+d≤255:=QY (ab Bf) (by omega)
         have JP:=al oA
         clear oA hD hI Hd lW hc
         go_wp2_with fail
         refine E9.mono ?_
         rintro e w' ⟨rfl,he⟩
         obtain rfl:wr=w':=he.symm
         go_wp2_with fail
         refine E9.mono ?_
         rintro e w' ⟨rfl,he⟩
         obtain rfl:wr=w':=he.symm
         clear E9
         go_wp2
         go_roundg (2-(c+1))
         case measure=>have:=ab kH;have:=ab JP;omega
         case rel =>
          have hn:=ab Hn;have hq:=ab Hq;have oA:=ab JP
          refine ⟨c+1,v*16+d,by go_num,by subst hn;go_num,rfl,by omega,NU,rfl,Bf,?_⟩
          have:=ab cG;rw[hq,hn] at this;exact this
       ·have q1:decide (q<s.size)=false:=by simp;omega
        have lW:=al (Ck gS)
        clear gS oA
        have Hf:Hid (cE 16 2 ((aI s).drop (k+2)) 0 0=(v,c)):=(ab Hd).trans (by rw[ab lW,vh])
        by_cases c0:c=0
        ·have Hr:Hid (dw (a::x::(aI s).drop (k+2))=none):=(ab Hv).trans (gN (by rw[ab Hf];exact .inl c0))
         have en:((n:Int)==2)=true:=by have:=ab Hn;simp;omega
         clear c0 Hf Hd hc
         go_wp2
         go_ret2
         exact dJ (ab cO) (ab Hr)
        ·have Hr:Hid (dw (a::x::(aI s).drop (k+2))=some (v,n)):=(ab Hv).trans (by rw[ab Hf,lK c0 hv,←ab Hn])
         have en:((n:Int)==2)=false:=by have:=ab Hn;simp;omega
         clear c0 Hf Hd hc
         go_wp2
         go_ret2
         have e9:IntKind.u8.wrap (v:Int)=(v:Int):=by simp[IntKind.wrap,IntKind.bits,IntKind.signed];omega
         first
          |exact bI (ab cO) (ab Hr)
          |(rw[e9];exact bI (ab cO) (ab Hr))
      ·have n4:decide ((n:Int)<4)=false:=by have:=ab Hn;simp;omega
       have Hm:Hid (2-c=0):=by show _=_;omega
       clear oA
       have Hf:Hid (cE 16 2 ((aI s).drop (k+2)) 0 0=(v,c)):=(ab Hd).trans (by rw[ab Hm,jP])
       by_cases c0:c=0
       ·have Hr:Hid (dw (a::x::(aI s).drop (k+2))=none):=(ab Hv).trans (gN (by rw[ab Hf];exact .inl c0))
        have en:((n:Int)==2)=true:=by have:=ab Hn;simp;omega
        clear c0 Hf Hd hc
        go_wp2
        go_ret2
        exact dJ (ab cO) (ab Hr)
       ·have Hr:Hid (dw (a::x::(aI s).drop (k+2))=some (v,n)):=(ab Hv).trans (by rw[ab Hf,lK c0 hv,←ab Hn])
        have en:((n:Int)==2)=false:=by have:=ab Hn;simp;omega
        clear c0 Hf Hd hc
        go_wp2
        go_ret2
        have e9:IntKind.u8.wrap (v:Int)=(v:Int):=by simp[IntKind.wrap,IntKind.bits,IntKind.signed];omega
        first
         |exact bI (ab cO) (ab Hr)
         |(rw[e9];exact bI (ab cO) (ab Hr))
    ·have f120:=gw (c:=x) (k:=120) (by omega)
     by_cases Qd:x=88
     ·have f88:=lL (c:=x) (k:=88) (by omega)
      have Hv:Hid (dw (a::x::(aI s).drop (k+2))=fin (cE 16 2 ((aI s).drop (k+2)) 0 0) 2):=ph AR (.inr Qd)
      clear AR AU Qd
      go_wp2
      go_loopg [10,11] 2 (fun gk v10 v11 QK=>∃(c v:Nat),v10=.int .i64 (v:Int)∧v11=.int .i64 ((2+c:Nat):Int)∧gk=2-c∧c≤2∧v≤255∧QK=wr∧Hid (VB 16 c v)∧Hid (cE 16 2 ((aI s).drop (k+2)) 0 0=cE 16 (2-c) ((aI s).drop (k+(2+c))) v c))
      case atStart=>exact ⟨0,0,rfl,rfl,rfl,by omega,by omega,rfl,by show 0<16 ^ 0;decide,rfl⟩
      case round =>
       obtain ⟨c,v,rfl,rfl,gL,hc,hv,rfl,S0,Hd⟩:=hrel
       obtain ⟨n,hn⟩:∃n,n=2+c:=⟨_,rfl⟩
       obtain ⟨q,hq⟩:∃q,q=k+n:=⟨_,rfl⟩
       rw[←hn] at Hd ⊢
       rw[←hq] at Hd
       have bN:(k:Int)+(n:Int)=(q:Int):=by omega
       have q0:(0:Int)≤(q:Int):=zH _
       have ZG:2≤n:=by omega
       have Fe:n≤4:=by omega
       have Hn:=al hn
       have Hq:=al hq
       have kH:=al gL
       clear gL hn hq
       by_cases oA:c<2
       ·have n4:decide ((n:Int)<4)=true:=by have:=ab Hn;simp;omega
        by_cases gS:q<s.size
        ·obtain ⟨y,hy,AL,gy⟩:=cj s q gS
         have q1:(q:Int)<(s.size:Int):=by omega
         have lW:=al (kZ hy)
         clear hy
         rcases @DP y with ⟨hI,hD⟩|⟨d,hI,hD,hd⟩
         ·have JP:=al oA
          have HD:=al hD
          have E9:Calls Tryz.prog 152 #[.int .u8 (y:Int)] wr fun e w=>e=.returned (.int .i64 (-1))∧w=wr:=by have:=gF wr y AL;rw[hI] at this;exact this
          clear oA hD hI
          go_wp2_with fail
          refine E9.mono ?_
          rintro e w' ⟨rfl,he⟩
          obtain rfl:wr=w':=he.symm
          clear E9
          have Hf:Hid (cE 16 2 ((aI s).drop (k+2)) 0 0=(v,c)):=(ab Hd).trans (by rw[ab lW,mW (ab HD)])
          by_cases c0:c=0
          ·have Hr:Hid (dw (a::x::(aI s).drop (k+2))=none):=(ab Hv).trans (gN (by rw[ab Hf];exact .inl c0))
           have en:((n:Int)==2)=true:=by have:=ab Hn;simp;omega
           clear c0 Hf Hd hc
           go_wp2
           go_ret2
           exact dJ (ab cO) (ab Hr)
          ·have Hr:Hid (dw (a::x::(aI s).drop (k+2))=some (v,n)):=(ab Hv).trans (by rw[ab Hf,lK c0 hv,←ab Hn])
           have en:((n:Int)==2)=false:=by have:=ab Hn;simp;omega
           clear c0 Hf Hd hc
           go_wp2
           go_ret2
           have e9:IntKind.u8.wrap (v:Int)=(v:Int):=by simp[IntKind.wrap,IntKind.bits,IntKind.signed];omega
           first
            |exact bI (ab cO) (ab Hr)
            |(rw[e9];exact bI (ab cO) (ab Hr))
         ·have E9:Calls Tryz.prog 152 #[.int .u8 (y:Int)] wr fun e w=>e=.returned (.int .i64 (d:Int))∧w=wr:=by have:=gF wr y AL;rw[hI] at this;exact this
          have cG:Hid (cE 16 2 ((aI s).drop (k+2)) 0 0=cE 16 (2-(c+1)) ((aI s).drop (q+1)) (v*16+d) (c+1)):=by show _=_;rw[ab Hd,ab lW,show 2-c=(2-(c+1))+1 by omega,mV hD]
          have Bf:Hid (VB 16 (c+1) (v*16+d)):=(ab S0).next hd
          have NU:v*16+d≤255:=QY (ab Bf) (by omega)
          have JP:=al oA
          clear oA hD hI Hd lW hc
          go_wp2_with fail
          refine E9.mono ?_
          rintro e w' ⟨rfl,he⟩
          obtain rfl:wr=w':=he.symm
          go_wp2_with fail
          refine E9.mono ?_
          rintro e w' ⟨rfl,he⟩
          obtain rfl:wr=w':=he.symm
          clear E9
          go_wp2
          go_roundg (2-(c+1))
          case measure=>have:=ab kH;have:=ab JP;omega
          case rel =>
           have hn:=ab Hn;have hq:=ab Hq;have oA:=ab JP
           refine ⟨c+1,v*16+d,by go_num,by subst hn;go_num,rfl,by omega,NU,rfl,Bf,?_⟩
           have:=ab cG;rw[hq,hn] at this;exact this
        ·have q1:decide (q<s.size)=false:=by simp;omega
         have lW:=al (Ck gS)
         clear gS oA
         have Hf:Hid (cE 16 2 ((aI s).drop (k+2)) 0 0=(v,c)):=(ab Hd).trans (by rw[ab lW,vh])
         by_cases c0:c=0
         ·have Hr:Hid (dw (a::x::(aI s).drop (k+2))=none):=(ab Hv).trans (gN (by rw[ab Hf];exact .inl c0))
          have en:((n:Int)==2)=true:=by have:=ab Hn;simp;omega
          clear c0 Hf Hd hc
          go_wp2
          go_ret2
          exact dJ (ab cO) (ab Hr)
         ·have Hr:Hid (dw (a::x::(aI s).drop (k+2))=some (v,n)):=(ab Hv).trans (by rw[ab Hf,lK c0 hv,←ab Hn])
          have en:((n:Int)==2)=false:=by have:=ab Hn;simp;omega
          clear c0 Hf Hd hc
          go_wp2
          go_ret2
          have e9:IntKind.u8.wrap (v:Int)=(v:Int):=by simp[IntKind.wrap,IntKind.bits,IntKind.signed];omega
          first
           |exact bI (ab cO) (ab Hr)
           |(rw[e9];exact bI (ab cO) (ab Hr))
       ·have n4:decide ((n:Int)<4)=false:=by have:=ab Hn;simp;omega
        have Hm:Hid (2-c=0):=by show _=_;omega
        clear oA
        have Hf:Hid (cE 16 2 ((aI s).drop (k+2)) 0 0=(v,c)):=(ab Hd).trans (by rw[ab Hm,jP])
        by_cases c0:c=0
        ·have Hr:Hid (dw (a::x::(aI s).drop (k+2))=none):=(ab Hv).trans (gN (by rw[ab Hf];exact .inl c0))
         have en:((n:Int)==2)=true:=by have:=ab Hn;simp;omega
         clear c0 Hf Hd hc
         go_wp2
         go_ret2
         exact dJ (ab cO) (ab Hr)
        ·have Hr:Hid (dw (a::x::(aI s).drop (k+2))=some (v,n)):=(ab Hv).trans (by rw[ab Hf,lK c0 hv,←ab Hn])
         have en:((n:Int)==2)=false:=by have:=ab Hn;simp;omega
         clear c0 Hf Hd hc
         go_wp2
         go_ret2
         have e9:IntKind.u8.wrap (v:Int)=(v:Int):=by simp[IntKind.wrap,IntKind.bits,IntKind.signed];omega
         first
          |exact bI (ab cO) (ab Hr)
          |(rw[e9];exact bI (ab cO) (ab Hr))
     ·have f88:=gw (c:=x) (k:=88) (by omega)
      have Ir:x::(aI s).drop (k+2)=(aI s).drop (k+1):=by have h9:=kZ (ab Hx);rw[ab Hj] at h9;exact h9.symm
      have Hr1:=al Ir
      clear Ir
      have Hv:Hid (dw (a::x::(aI s).drop (k+2))=fin (cE 8 3 ((aI s).drop (k+1)) 0 0) 1):=(A1 AR (by omega)).trans (by rw[ab Hr1])
      clear AR AU Qd
      go_wp2
      go_loopg [12,13] 3 (fun gk v10 v11 QK=>∃(c v:Nat),v10=.int .i64 (v:Int)∧v11=.int .i64 ((1+c:Nat):Int)∧gk=3-c∧c≤3∧v≤511∧QK=wr∧Hid (VB 8 c v)∧Hid (cE 8 3 ((aI s).drop (k+1)) 0 0=cE 8 (3-c) ((aI s).drop (k+(1+c))) v c))
      case atStart=>exact ⟨0,0,rfl,rfl,rfl,by omega,by omega,rfl,by show 0<8 ^ 0;decide,rfl⟩
      case round =>
       obtain ⟨c,v,rfl,rfl,gL,hc,hv,rfl,S0,Hd⟩:=hrel
       obtain ⟨n,hn⟩:∃n,n=1+c:=⟨_,rfl⟩
       obtain ⟨q,hq⟩:∃q,q=k+n:=⟨_,rfl⟩
       rw[←hn] at Hd ⊢
       rw[←hq] at Hd
       have bN:(k:Int)+(n:Int)=(q:Int):=by omega
       have q0:(0:Int)≤(q:Int):=zH _
       have ZG:1≤n:=by omega
       have Fe:n≤4:=by omega
       have Hn:=al hn
       have Hq:=al hq
       have kH:=al gL
       clear gL hn hq
       by_cases oA:c<3
       ·have n4:decide ((n:Int)<4)=true:=by have:=ab Hn;simp;omega
        by_cases gS:q<s.size
        ·obtain ⟨y,hy,AL,gy⟩:=cj s q gS
         have q1:(q:Int)<(s.size:Int):=by omega
         have lW:=al (kZ hy)
         clear hy
         by_cases hD:nC 8 y≠none
         ·obtain ⟨hD2,y1,y2⟩:=Ih hD
          have cG:Hid (cE 8 3 ((aI s).drop (k+1)) 0 0=cE 8 (3-(c+1)) ((aI s).drop (q+1)) (v*8+(y-48)) (c+1)):=by show _=_;rw[ab Hd,ab lW,show 3-c=(3-(c+1))+1 by omega,mV hD2]
          have Bf:Hid (VB 8 (c+1) (v*8+(y-48))):=(ab S0).next (by omega)
          have hv8:v*8+(y-48)≤511:=vb8 (ab Bf) (by omega)
          have HD:=al hD
          have JP:=al oA
          clear oA hD hD2 Hd lW hc
          go_wp2_with fail
          refine (Dh wr y AL).mono ?_
          rintro e w' ⟨b,rfl,he,hb⟩
          obtain rfl:wr=w':=he.symm
          obtain rfl:b=true:=hb.2 (ab HD)
          clear hb
          go_wp2
          go_roundg (3-(c+1))
          case measure=>have:=ab kH;have:=ab JP;omega
          case rel =>
           have hn:=ab Hn;have hq:=ab Hq;have oA:=ab JP
           refine ⟨c+1,v*8+(y-48),by go_num,by subst hn;go_num,rfl,by omega,hv8,rfl,Bf,?_⟩
           have:=ab cG;rw[hq,hn] at this;exact this
         ·have HD:=al (Classical.not_not.1 hD)
          have JP:=al oA
          have HnD:=al hD
          clear oA hD
          go_wp2_with fail
          refine (Dh wr y AL).mono ?_
          rintro e w' ⟨b,rfl,he,hb⟩
          obtain rfl:wr=w':=he.symm
          obtain rfl:b=false:=by cases b with|false=>rfl|true=>exact absurd (hb.1 rfl) (ab HnD)
          clear hb
          have Hf:Hid (cE 8 3 ((aI s).drop (k+1)) 0 0=(v,c)):=(ab Hd).trans (by rw[ab lW,mW (ab HD)])
          by_cases c0:c=0∨255<v
          ·have Hr:Hid (dw (a::x::(aI s).drop (k+2))=none):=(ab Hv).trans (gN (by rw[ab Hf];exact c0))
           rcases c0 with c0|c0
           ·have en:((n:Int)==1)=true:=by have:=ab Hn;simp;omega
            clear c0 Hf Hd hc
            go_wp2
            go_ret2
            exact dJ (ab cO) (ab Hr)
           ·by_cases c1:c=0
            ·have en:((n:Int)==1)=true:=by have:=ab Hn;simp;omega
             clear c0 c1 Hf Hd hc
             go_wp2
             go_ret2
             exact dJ (ab cO) (ab Hr)
            ·have en:((n:Int)==1)=false:=by have:=ab Hn;simp;omega
             have ev:decide ((255:Int)<(v:Int))=true:=by simp;omega
             clear c0 c1 Hf Hd hc
             go_wp2
             go_ret2
             exact dJ (ab cO) (ab Hr)
          ·obtain ⟨c0,c1⟩:=not_or.1 c0
           have Hr:Hid (dw (a::x::(aI s).drop (k+2))=some (v,n)):=(ab Hv).trans (by rw[ab Hf,lK c0 (by omega),←ab Hn])
           have ev:decide ((255:Int)<(v:Int))=false:=by simp;omega
           have y8:v≤255:=by omega
           clear c1
           have en:((n:Int)==1)=false:=by have:=ab Hn;simp;omega
           clear c0 Hf Hd hc
           go_wp2
           go_ret2
           have e9:IntKind.u8.wrap (v:Int)=(v:Int):=by simp[IntKind.wrap,IntKind.bits,IntKind.signed];omega
           first
            |exact bI (ab cO) (ab Hr)
            |(rw[e9];exact bI (ab cO) (ab Hr))
        ·have q1:decide (q<s.size)=false:=by simp;omega
         have lW:=al (Ck gS)
         clear gS oA
         have Hf:Hid (cE 8 3 ((aI s).drop (k+1)) 0 0=(v,c)):=(ab Hd).trans (by rw[ab lW,vh])
         by_cases c0:c=0∨255<v
         ·have Hr:Hid (dw (a::x::(aI s).drop (k+2))=none):=(ab Hv).trans (gN (by rw[ab Hf];exact c0))
          rcases c0 with c0|c0
          ·have en:((n:Int)==1)=true:=by have:=ab Hn;simp;omega
           clear c0 Hf Hd hc
           go_wp2
           go_ret2
           exact dJ (ab cO) (ab Hr)
          ·by_cases c1:c=0
           ·have en:((n:Int)==1)=true:=by have:=ab Hn;simp;omega
            clear c0 c1 Hf Hd hc
            go_wp2
            go_ret2
            exact dJ (ab cO) (ab Hr)
           ·have en:((n:Int)==1)=false:=by have:=ab Hn;simp;omega
            have ev:decide ((255:Int)<(v:Int))=true:=by simp;omega
            clear c0 c1 Hf Hd hc
            go_wp2
            go_ret2
            exact dJ (ab cO) (ab Hr)
         ·obtain ⟨c0,c1⟩:=not_or.1 c0
          have Hr:Hid (dw (a::x::(aI s).drop (k+2))=some (v,n)):=(ab Hv).trans (by rw[ab Hf,lK c0 (by omega),←ab Hn])
          have ev:decide ((255:Int)<(v:Int))=false:=by simp;omega
          have y8:v≤255:=by omega
          clear c1
          have en:((n:Int)==1)=false:=by have:=ab Hn;simp;omega
          clear c0 Hf Hd hc
          go_wp2
          go_ret2
          have e9:IntKind.u8.wrap (v:Int)=(v:Int):=by simp[IntKind.wrap,IntKind.bits,IntKind.signed];omega
          first
           |exact bI (ab cO) (ab Hr)
           |(rw[e9];exact bI (ab cO) (ab Hr))
       ·have n4:decide ((n:Int)<4)=false:=by have:=ab Hn;simp;omega
        have Hm:Hid (3-c=0):=by show _=_;omega
        clear oA
        have Hf:Hid (cE 8 3 ((aI s).drop (k+1)) 0 0=(v,c)):=(ab Hd).trans (by rw[ab Hm,jP])
        by_cases c0:c=0∨255<v
        ·have Hr:Hid (dw (a::x::(aI s).drop (k+2))=none):=(ab Hv).trans (gN (by rw[ab Hf];exact c0))
         rcases c0 with c0|c0
         ·have en:((n:Int)==1)=true:=by have:=ab Hn;simp;omega
          clear c0 Hf Hd hc
          go_wp2
          go_ret2
          exact dJ (ab cO) (ab Hr)
         ·by_cases c1:c=0
          ·have en:((n:Int)==1)=true:=by have:=ab Hn;simp;omega
           clear c0 c1 Hf Hd hc
           go_wp2
           go_ret2
           exact dJ (ab cO) (ab Hr)
          ·have en:((n:Int)==1)=false:=by have:=ab Hn;simp;omega
           have ev:decide ((255:Int)<(v:Int))=true:=by simp;omega
           clear c0 c1 Hf Hd hc
           go_wp2
           go_ret2
           exact dJ (ab cO) (ab Hr)
        ·obtain ⟨c0,c1⟩:=not_or.1 c0
         have Hr:Hid (dw (a::x::(aI s).drop (k+2))=some (v,n)):=(ab Hv).trans (by rw[ab Hf,lK c0 (by omega),←ab Hn])
         have ev:decide ((255:Int)<(v:Int))=false:=by simp;omega
         have y8:v≤255:=by omega
         clear c1
         have en:((n:Int)==1)=false:=by have:=ab Hn;simp;omega
         clear c0 Hf Hd hc
         go_wp2
         go_ret2
         have e9:IntKind.u8.wrap (v:Int)=(v:Int):=by simp[IntKind.wrap,IntKind.bits,IntKind.signed];omega
         first
          |exact bI (ab cO) (ab Hr)
          |(rw[e9];exact bI (ab cO) (ab Hr))
 ·have hn:dw ((aI s).drop k)=none:=u9 (by rw[List.length_drop,aZ];omega)
  have Hn:=al hn
  have e1:decide ((s.size:Int)≤(k:Int)+1)=true:=by simp;omega
  clear h2 hn
  go_enter Tryz.func153,Tryz.ntmps153
  go_wp2
  go_ret2
  exact dJ bG (ab Hn)
end Go.Proofs.YtichhjfjcinjgaaGreatDoor

import Derived.Test.YtichhjfjcinjgaaGreatDoorM12
import Derived.Test.YtichhjfjcinjgaaGreatDoorSTa
set_option maxHeartbeats 4000000
set_option maxRecDepth 100000
namespace Go.Proofs.YtichhjfjcinjgaaGreatDoor
open Go.RowKit Go.Lib
attribute [local go_sem ↓] Go.wp_at_zero Go.wp_at_succ
def M5:List Nat:=[97,98,102,110,114,116,118,92,39,34]
def Pa:List Nat:=[7,8,12,10,13,9,11,92,39,34]
theorem QR:∀i:Fin 10,lA (M5[i.val]'(by have:=i.isLt;show _<10;omega))=some (Pa[i.val]'(by have:=i.isLt;show _<10;omega)):=by decide
theorem M4 {i x:Nat} (h:M5[i]?=some x):∃v,lA x=some v∧Pa[i]?=some v∧v<256:=by
 obtain ⟨hi,rfl⟩:=zB h
 have Ia:i<10:=hi
 refine ⟨_,QR ⟨i,Ia⟩,List.getElem?_eq_getElem _,?_⟩
 have key:∀i:Fin 10,Pa[i.val]'(by have:=i.isLt;show _<10;omega)<256:=by decide
 exact key ⟨i,Ia⟩
theorem Kl {x:Nat} (h:∀j y:Nat,M5[j]?=some y→¬y=x):lA x=none:=by
 have g0:=h 0 97 rfl
 have g1:=h 1 98 rfl
 have g2:=h 2 102 rfl
 have g3:=h 3 110 rfl
 have g4:=h 4 114 rfl
 have g5:=h 5 116 rfl
 have g6:=h 6 118 rfl
 have g7:=h 7 92 rfl
 have g8:=h 8 39 rfl
 have g9:=h 9 34 rfl
 unfold lA
 rw[if_neg (by omega),if_neg (by omega),if_neg (by omega),if_neg (by omega),if_neg (by omega),if_neg (by omega),if_neg (by omega),if_neg (by omega)]
theorem nmS:aI ⟨#[97,98,102,110,114,116,118,92,39,34]⟩=M5:=rfl
theorem CO (W:World) (x:Nat) (hx:x<256):Calls Tryz.prog 103 #[.int .u8 (x:Int),.int .u8 8] W (DQ W (mX 8 x≠none)):=by
 rw[Nh]
 go_enter Tryz.func103,Tryz.ntmps103
 go_wp2
 all_goals (go_ret;refine Gk _ ?_;simp;omega)
theorem Dn {x:Nat}:(oJ x=-1∧mX 16 x=none)∨∃d:Nat,oJ x=(d:Int)∧mX 16 x=some d∧d<16:=by
 rcases gY x with ⟨h1,h2⟩|⟨d,h1,h2,h3⟩
 ·left
  refine ⟨h1,?_⟩
  unfold mX
  split
  ·rfl
  ·rename_i d hd
   rw[if_neg (by have:=h2 d hd;omega)]
 ·right
  refine ⟨d,h1,?_,h3⟩
  unfold mX
  rw[h2]
  exact if_pos h3
theorem GQ {x:Nat} (h:mX 8 x≠none):mX 8 x=some (x-48)∧48≤x∧x≤55:=by
 obtain ⟨h1,h2⟩:=Nh.1 h
 refine ⟨?_,h1,h2⟩
 unfold mX yb
 rw[if_pos (by omega)]
 exact if_pos (by omega)
theorem kK {s:ByteArray}{p x:Nat} (h:(aI s)[p]?=some x):(aI s).drop p=x::(aI s).drop (p+1):=by
 obtain ⟨hl,lP⟩:=zB h
 rw[List.drop_eq_getElem_cons hl,lP]
def VB (B j v:Nat):Prop:=v<B ^ j
theorem VB.next {B j v d:Nat} (h:VB B j v) (hd:d<B):VB B (j+1) (v*B+d):=by
 unfold VB at *
 rw[Nat.pow_succ]
 have:(v+1)*B≤B ^ j*B:=Nat.mul_le_mul_right B h
 rw[Nat.add_mul,Nat.one_mul] at this
 omega
theorem QA {j v:Nat} (h:VB 16 j v) (hj:j≤2):v≤255:=by
 unfold VB at h
 have:(16:Nat) ^ j≤16 ^ 2:=Nat.pow_le_pow_right (by decide) hj
 have e:(16:Nat) ^ 2=256:=by decide
 omega
theorem vb8 {j v:Nat} (h:VB 8 j v) (hj:j≤3):v≤511:=by
 unfold VB at h
 have:(8:Nat) ^ j≤8 ^ 3:=Nat.pow_le_pow_right (by decide) hj
 have e:(8:Nat) ^ 3=512:=by decide
 omega
theorem BU {s:ByteArray}{p:Nat} (h:¬p<s.size):(aI s).drop p=[]:=List.drop_eq_nil_of_le (by rw[aY];omega)
theorem gH {p:Nat×Nat}{k:Nat} (h:p.2=0∨255<p.1):fin p k=none:=by unfold fin;rw[if_pos h]
theorem ln {v n k:Nat} (h:¬n=0) (h2:v≤255):fin (v,n) k=some (v,k+n):=by unfold fin;rw[if_neg (by simp;omega)]
theorem yK (W:World) (s:ByteArray) (k:Nat) (hk:k<s.size) (hs:s.size≤65536):Calls Tryz.prog 153 #[.string s,.int .i64 (k:Int)] W (VN W (du ((aI s).drop k))):=by
 have bG:=zE W.heap.size W
 have k0:(0:Int)≤(k:Int):=zH _
 by_cases h2:k+1<s.size
 ·obtain ⟨j,hj⟩:∃j,j=k+1:=⟨_,rfl⟩
  have hjs:j<s.size:=by omega
  obtain ⟨a,ha,_,_⟩:=cd s k hk
  obtain ⟨x,hx,cZ,gx⟩:=cd s j hjs
  have G0:(aI s).drop k=a::x::(aI s).drop (k+2):=by
   rw[kK ha,←hj,kK hx,hj]
  rw[G0]
  have cG:(k:Int)+1=(j:Int):=by omega
  have j0:(0:Int)≤(j:Int):=zH _
  have j1:(j:Int)<(s.size:Int):=by omega
  have e1:decide (s.size≤j)=false:=by simp;omega
  have Hr:=al G0
  have Hj:=al hj
  have Hx:=al hx
  have cN:Hid (Below W.heap.size W (W.alloc (.cells #[.int .u8 7,.int .u8 8,.int .u8 12,.int .u8 10,.int .u8 13,.int .u8 9,.int .u8 11,.int .u8 92,.int .u8 39,.int .u8 34] 5))):=bG.alloc (zD _) _
  have NP:∀(i v:Nat),Pa[i]?=some v→(W.alloc (.cells #[.int .u8 7,.int .u8 8,.int .u8 12,.int .u8 10,.int .u8 13,.int .u8 9,.int .u8 11,.int .u8 92,.int .u8 39,.int .u8 34] 5)).cell? ⟨W.heap.size,i,none⟩=some (.int .u8 (v:Int)):=fun i v h=>by
   have:=dj W (nb Pa) 5 i (.int .u8 (v:Int)) (by rw[QS,h];rfl)
   rw[Go.WideShapes.add_plain] at this
   simpa[nb,Pa] using this
  have tg:=al NP
  clear G0 hj h2 ha hx NP bG
  go_enter Tryz.func153,Tryz.ntmps153
  go_wp2
  generalize W.alloc (.cells #[.int .u8 7,.int .u8 8,.int .u8 12,.int .u8 10,.int .u8 13,.int .u8 9,.int .u8 11,.int .u8 92,.int .u8 39,.int .u8 34] 5)=W1 at *
  go_loopg [9] 10 (fun gk v9 wr=>∃(i:Nat),v9=.int .i64 (i:Int)∧gk=10-i∧i≤10∧wr=W1∧Hid (∀j y:Nat,j<i→M5[j]?=some y→¬y=x))
  case atStart=>exact ⟨0,rfl,rfl,by omega,rfl,fun j y hj=>by omega⟩
  case round =>
   obtain ⟨i,rfl,aU,hi,rfl,Fk⟩:=hrel
   have bz:=al aU
   clear aU
   by_cases aM:i<10
   ·obtain ⟨y,hy,Ai,gy⟩:=cd ⟨#[97,98,102,110,114,116,118,92,39,34]⟩ i (by exact aM)
    rw[nmS] at hy
    have i0:(0:Int)≤(i:Int):=zH _
    have i1:(i:Int)<10:=by omega
    by_cases Tn:y=x
    ·obtain ⟨v,hv,hw,EG⟩:=M4 hy
     have Ma:=ab tg i v hw
     have Hv:Hid (du (a::x::(aI s).drop (k+2))=some (v,2)):=eo (by rw[←Tn];exact hv)
     have fq:((y:Int)==(x:Int))=true:=by simp;omega
     clear hv hw hy Tn Fk tg
     go_wp2
     go_ret2
     exact bH (n:=2) (ab cN) (ab Hv)
    ·have fq:((y:Int)==(x:Int))=false:=by simp;omega
     have cF:Hid (∀j z:Nat,j<i+1→M5[j]?=some z→¬z=x):=fun j z hj hz=>by
      by_cases NH:j<i
      ·exact ab Fk j z NH hz
      ·obtain rfl:j=i:=by omega
       rw[hy] at hz;obtain rfl:=zC hz;exact Tn
     clear hy Tn Fk
     go_wp2
     go_roundg (10-(i+1))
     case measure=>have:=ab bz;omega
     case rel=>exact ⟨i+1,by go_num,rfl,by omega,rfl,cF⟩
   ·have Ap:lA x=none:=Kl (fun j y hy=>ab Fk j y (by have:=(zB hy).1;have e:M5.length=10:=rfl;omega) hy)
    obtain rfl:i=10:=by omega
    clear Fk tg
    by_cases Au:x=120
    ·have f120:=lp (c:=x) (k:=120) (by omega)
     have Hv:Hid (du (a::x::(aI s).drop (k+2))=fin (cC 16 2 ((aI s).drop (k+2)) 0 0) 2):=oR Ap (.inl Au)
     clear Ap Au
     go_wp2
     go_loopg [10,11] 2 (fun gk v10 v11 Qm=>∃(c v:Nat),v10=.int .i64 (v:Int)∧v11=.int .i64 ((2+c:Nat):Int)∧gk=2-c∧c≤2∧v≤255∧Qm=wr∧Hid (VB 16 c v)∧Hid (cC 16 2 ((aI s).drop (k+2)) 0 0=cC 16 (2-c) ((aI s).drop (k+(2+c))) v c))
     case atStart=>exact ⟨0,0,rfl,rfl,rfl,by omega,by omega,rfl,by show 0<16 ^ 0;decide,rfl⟩
     case round =>
      obtain ⟨c,v,rfl,rfl,gF,hc,hv,rfl,Sy,Hd⟩:=hrel
      obtain ⟨n,hn⟩:∃n,n=2+c:=⟨_,rfl⟩
      obtain ⟨q,hq⟩:∃q,q=k+n:=⟨_,rfl⟩
      rw[←hn] at Hd ⊢
      rw[←hq] at Hd
      have bM:(k:Int)+(n:Int)=(q:Int):=by omega
      have q0:(0:Int)≤(q:Int):=zH _
      have Zi:2≤n:=by omega
      have EL:n≤4:=by omega
      have Hn:=al hn
      have Hq:=al hq
      have kq:=al gF
      clear gF hn hq
      by_cases nR:c<2
      ·have n4:decide ((n:Int)<4)=true:=by have:=ab Hn;simp;omega
       by_cases gN:q<s.size
       ·obtain ⟨y,hy,Ai,gy⟩:=cd s q gN
        have q1:(q:Int)<(s.size:Int):=by omega
        have lF:=al (kK hy)
        clear hy
        rcases @Dn y with ⟨hI,hD⟩|⟨d,hI,hD,hd⟩
        ·have Jg:=al nR
         have HD:=al hD
         have EF:Calls Tryz.prog 152 #[.int .u8 (y:Int)] wr fun e w=>e=.returned (.int .i64 (-1))∧w=wr:=by have:=gu wr y Ai;rw[hI] at this;exact this
         clear nR hD hI
         go_wp2_with fail
         refine EF.mono ?_
         rintro e w' ⟨rfl,he⟩
         obtain rfl:wr=w':=he.symm
         clear EF
         have Hf:Hid (cC 16 2 ((aI s).drop (k+2)) 0 0=(v,c)):=(ab Hd).trans (by rw[ab lF,mG (ab HD)])
         by_cases c0:c=0
         ·have Hr:Hid (du (a::x::(aI s).drop (k+2))=none):=(ab Hv).trans (gH (by rw[ab Hf];exact .inl c0))
          have en:((n:Int)==2)=true:=by have:=ab Hn;simp;omega
          clear c0 Hf Hd hc
          go_wp2
          go_ret2
          exact dH (ab cN) (ab Hr)
         ·have Hr:Hid (du (a::x::(aI s).drop (k+2))=some (v,n)):=(ab Hv).trans (by rw[ab Hf,ln c0 hv,←ab Hn])
          have en:((n:Int)==2)=false:=by have:=ab Hn;simp;omega
          clear c0 Hf Hd hc
          go_wp2
          go_ret2
          have e9:IntKind.u8.wrap (v:Int)=(v:Int):=by simp[IntKind.wrap,IntKind.bits,IntKind.signed];omega
          first
           |exact bH (ab cN) (ab Hr)
           |(rw[e9];exact bH (ab cN) (ab Hr))
        ·have EF:Calls Tryz.prog 152 #[.int .u8 (y:Int)] wr fun e w=>e=.returned (.int .i64 (d:Int))∧w=wr:=by have:=gu wr y Ai;rw[hI] at this;exact this
         have cF:Hid (cC 16 2 ((aI s).drop (k+2)) 0 0=cC 16 (2-(c+1)) ((aI s).drop (q+1)) (v*16+d) (c+1)):=by show _=_;rw[ab Hd,ab lF,show 2-c=(2-(c+1))+1 by omega,mF hD]
         have AR:Hid (VB 16 (c+1) (v*16+d)):=(ab Sy).next hd
         have Nv:v*16+d≤255:=QA (ab AR) (by omega)
         have Jg:=al nR
         clear nR hD hI Hd lF hc
         go_wp2_with fail
         refine EF.mono ?_
         rintro e w' ⟨rfl,he⟩
         obtain rfl:wr=w':=he.symm
         go_wp2_with fail
         refine EF.mono ?_
         rintro e w' ⟨rfl,he⟩
         obtain rfl:wr=w':=he.symm
         clear EF
         go_wp2
         go_roundg (2-(c+1))
         case measure=>have:=ab kq;have:=ab Jg;omega
         case rel =>
          have hn:=ab Hn;have hq:=ab Hq;have nR:=ab Jg
          refine ⟨c+1,v*16+d,by go_num,by subst hn;go_num,rfl,by omega,Nv,rfl,AR,?_⟩
          have:=ab cF;rw[hq,hn] at this;exact this
       ·have q1:decide (q<s.size)=false:=by simp;omega
        have lF:=al (BU gN)
        clear gN nR
        have Hf:Hid (cC 16 2 ((aI s).drop (k+2)) 0 0=(v,c)):=(ab Hd).trans (by rw[ab lF,uE])
        by_cases c0:c=0
        ·have Hr:Hid (du (a::x::(aI s).drop (k+2))=none):=(ab Hv).trans (gH (by rw[ab Hf];exact .inl c0))
         have en:((n:Int)==2)=true:=by have:=ab Hn;simp;omega
         clear c0 Hf Hd hc
         go_wp2
         go_ret2
         exact dH (ab cN) (ab Hr)
        ·have Hr:Hid (du (a::x::(aI s).drop (k+2))=some (v,n)):=(ab Hv).trans (by rw[ab Hf,ln c0 hv,←ab Hn])
         have en:((n:Int)==2)=false:=by have:=ab Hn;simp;omega
         clear c0 Hf Hd hc
         go_wp2
         go_ret2
         have e9:IntKind.u8.wrap (v:Int)=(v:Int):=by simp[IntKind.wrap,IntKind.bits,IntKind.signed];omega
         first
          |exact bH (ab cN) (ab Hr)
          |(rw[e9];exact bH (ab cN) (ab Hr))
      ·have n4:decide ((n:Int)<4)=false:=by have:=ab Hn;simp;omega
       have Hm:Hid (2-c=0):=by show _=_;omega
       clear nR
       have Hf:Hid (cC 16 2 ((aI s).drop (k+2)) 0 0=(v,c)):=(ab Hd).trans (by rw[ab Hm,jC])
       by_cases c0:c=0
       ·have Hr:Hid (du (a::x::(aI s).drop (k+2))=none):=(ab Hv).trans (gH (by rw[ab Hf];exact .inl c0))
        have en:((n:Int)==2)=true:=by have:=ab Hn;simp;omega
        clear c0 Hf Hd hc
        go_wp2
        go_ret2
        exact dH (ab cN) (ab Hr)
       ·have Hr:Hid (du (a::x::(aI s).drop (k+2))=some (v,n)):=(ab Hv).trans (by rw[ab Hf,ln c0 hv,←ab Hn])
        have en:((n:Int)==2)=false:=by have:=ab Hn;simp;omega
        clear c0 Hf Hd hc
        go_wp2
        go_ret2
        have e9:IntKind.u8.wrap (v:Int)=(v:Int):=by simp[IntKind.wrap,IntKind.bits,IntKind.signed];omega
        first
         |exact bH (ab cN) (ab Hr)
         |(rw[e9];exact bH (ab cN) (ab Hr))
    ·have f120:=fZ (c:=x) (k:=120) (by omega)
     by_cases PM:x=88
     ·have f88:=lp (c:=x) (k:=88) (by omega)
      have Hv:Hid (du (a::x::(aI s).drop (k+2))=fin (cC 16 2 ((aI s).drop (k+2)) 0 0) 2):=oR Ap (.inr PM)
      clear Ap Au PM
      go_wp2
      go_loopg [10,11] 2 (fun gk v10 v11 Qm=>∃(c v:Nat),v10=.int .i64 (v:Int)∧v11=.int .i64 ((2+c:Nat):Int)∧gk=2-c∧c≤2∧v≤255∧Qm=wr∧Hid (VB 16 c v)∧Hid (cC 16 2 ((aI s).drop (k+2)) 0 0=cC 16 (2-c) ((aI s).drop (k+(2+c))) v c))
      case atStart=>exact ⟨0,0,rfl,rfl,rfl,by omega,by omega,rfl,by show 0<16 ^ 0;decide,rfl⟩
      case round =>
       obtain ⟨c,v,rfl,rfl,gF,hc,hv,rfl,Sy,Hd⟩:=hrel
       obtain ⟨n,hn⟩:∃n,n=2+c:=⟨_,rfl⟩
       obtain ⟨q,hq⟩:∃q,q=k+n:=⟨_,rfl⟩
       rw[←hn] at Hd ⊢
       rw[←hq] at Hd
       have bM:(k:Int)+(n:Int)=(q:Int):=by omega
       have q0:(0:Int)≤(q:Int):=zH _
       have Zi:2≤n:=by omega
       have EL:n≤4:=by omega
       have Hn:=al hn
       have Hq:=al hq
       have kq:=al gF
       clear gF hn hq
       by_cases nR:c<2
       ·have n4:decide ((n:Int)<4)=true:=by have:=ab Hn;simp;omega
        by_cases gN:q<s.size
        ·obtain ⟨y,hy,Ai,gy⟩:=cd s q gN
         have q1:(q:Int)<(s.size:Int):=by omega
         have lF:=al (kK hy)
         clear hy
         rcases @Dn y with ⟨hI,hD⟩|⟨d,hI,hD,hd⟩
         ·have Jg:=al nR
          have HD:=al hD
          have EF:Calls Tryz.prog 152 #[.int .u8 (y:Int)] wr fun e w=>e=.returned (.int .i64 (-1))∧w=wr:=by have:=gu wr y Ai;rw[hI] at this;exact this
          clear nR hD hI
          go_wp2_with fail
          refine EF.mono ?_
          rintro e w' ⟨rfl,he⟩
          obtain rfl:wr=w':=he.symm
          clear EF
          have Hf:Hid (cC 16 2 ((aI s).drop (k+2)) 0 0=(v,c)):=(ab Hd).trans (by rw[ab lF,mG (ab HD)])
          by_cases c0:c=0
          ·have Hr:Hid (du (a::x::(aI s).drop (k+2))=none):=(ab Hv).trans (gH (by rw[ab Hf];exact .inl c0))
           have en:((n:Int)==2)=true:=by have:=ab Hn;simp;omega
           clear c0 Hf Hd hc
           go_wp2
           go_ret2
           exact dH (ab cN) (ab Hr)
          ·have Hr:Hid (du (a::x::(aI s).drop (k+2))=some (v,n)):=(ab Hv).trans (by rw[ab Hf,ln c0 hv,←ab Hn])
           have en:((n:Int)==2)=false:=by have:=ab Hn;simp;omega
           clear c0 Hf Hd hc
           go_wp2
           go_ret2
           have e9:IntKind.u8.wrap (v:Int)=(v:Int):=by simp[IntKind.wrap,IntKind.bits,IntKind.signed];omega
           first
            |exact bH (ab cN) (ab Hr)
            |(rw[e9];exact bH (ab cN) (ab Hr))
         ·have EF:Calls Tryz.prog 152 #[.int .u8 (y:Int)] wr fun e w=>e=.returned (.int .i64 (d:Int))∧w=wr:=by have:=gu wr y Ai;rw[hI] at this;exact this
          have cF:Hid (cC 16 2 ((aI s).drop (k+2)) 0 0=cC 16 (2-(c+1)) ((aI s).drop (q+1)) (v*16+d) (c+1)):=by show _=_;rw[ab Hd,ab lF,show 2-c=(2-(c+1))+1 by omega,mF hD]
          have AR:Hid (VB 16 (c+1) (v*16+d)):=(ab Sy).next hd
          have Nv:v*16+d≤255:=QA (ab AR) (by omega)
          have Jg:=al nR
          clear nR hD hI Hd lF hc
          go_wp2_with fail
          refine EF.mono ?_
          rintro e w' ⟨rfl,he⟩
          obtain rfl:wr=w':=he.symm
          go_wp2_with fail
          refine EF.mono ?_
          rintro e w' ⟨rfl,he⟩
          obtain rfl:wr=w':=he.symm
          clear EF
          go_wp2
          go_roundg (2-(c+1))
          case measure=>have:=ab kq;have:=ab Jg;omega
          case rel =>
           have hn:=ab Hn;have hq:=ab Hq;have nR:=ab Jg
           refine ⟨c+1,v*16+d,by go_num,by subst hn;go_num,rfl,by omega,Nv,rfl,AR,?_⟩
           have:=ab cF;rw[hq,hn] at this;exact this
        ·have q1:decide (q<s.size)=false:=by simp;omega
         have lF:=al (BU gN)
         clear gN nR
         have Hf:Hid (cC 16 2 ((aI s).drop (k+2)) 0 0=(v,c)):=(ab Hd).trans (by rw[ab lF,uE])
         by_cases c0:c=0
         ·have Hr:Hid (du (a::x::(aI s).drop (k+2))=none):=(ab Hv).trans (gH (by rw[ab Hf];exact .inl c0))
          have en:((n:Int)==2)=true:=by have:=ab Hn;simp;omega
          clear c0 Hf Hd hc
          go_wp2
          go_ret2
          exact dH (ab cN) (ab Hr)
         ·have Hr:Hid (du (a::x::(aI s).drop (k+2))=some (v,n)):=(ab Hv).trans (by rw[ab Hf,ln c0 hv,←ab Hn])
          have en:((n:Int)==2)=false:=by have:=ab Hn;simp;omega
          clear c0 Hf Hd hc
          go_wp2
          go_ret2
          have e9:IntKind.u8.wrap (v:Int)=(v:Int):=by simp[IntKind.wrap,IntKind.bits,IntKind.signed];omega
          first
           |exact bH (ab cN) (ab Hr)
           |(rw[e9];exact bH (ab cN) (ab Hr))
       ·have n4:decide ((n:Int)<4)=false:=by have:=ab Hn;simp;omega
        have Hm:Hid (2-c=0):=by show _=_;omega
        clear nR
        have Hf:Hid (cC 16 2 ((aI s).drop (k+2)) 0 0=(v,c)):=(ab Hd).trans (by rw[ab Hm,jC])
        by_cases c0:c=0
        ·have Hr:Hid (du (a::x::(aI s).drop (k+2))=none):=(ab Hv).trans (gH (by rw[ab Hf];exact .inl c0))
         have en:((n:Int)==2)=true:=by have:=ab Hn;simp;omega
         clear c0 Hf Hd hc
         go_wp2
         go_ret2
         exact dH (ab cN) (ab Hr)
        ·have Hr:Hid (du (a::x::(aI s).drop (k+2))=some (v,n)):=(ab Hv).trans (by rw[ab Hf,ln c0 hv,←ab Hn])
         have en:((n:Int)==2)=false:=by have:=ab Hn;simp;omega
         clear c0 Hf Hd hc
         go_wp2
         go_ret2
         have e9:IntKind.u8.wrap (v:Int)=(v:Int):=by simp[IntKind.wrap,IntKind.bits,IntKind.signed];omega
         first
          |exact bH (ab cN) (ab Hr)
          |(rw[e9];exact bH (ab cN) (ab Hr))
     ·have f88:=fZ (c:=x) (k:=88) (by omega)
      have G1:x::(aI s).drop (k+2)=(aI s).drop (k+1):=by have h9:=kK (ab Hx);rw[ab Hj] at h9;exact h9.symm
      have Hr1:=al G1
      clear G1
      have Hv:Hid (du (a::x::(aI s).drop (k+2))=fin (cC 8 3 ((aI s).drop (k+1)) 0 0) 1):=(AB Ap (by omega)).trans (by rw[ab Hr1])
      clear Ap Au PM
      go_wp2
      go_loopg [12,13] 3 (fun gk v10 v11 Qm=>∃(c v:Nat),v10=.int .i64 (v:Int)∧v11=.int .i64 ((1+c:Nat):Int)∧gk=3-c∧c≤3∧v≤511∧Qm=wr∧Hid (VB 8 c v)∧Hid (cC 8 3 ((aI s).drop (k+1)) 0 0=cC 8 (3-c) ((aI s).drop (k+(1+c))) v c))
      case atStart=>exact ⟨0,0,rfl,rfl,rfl,by omega,by omega,rfl,by show 0<8 ^ 0;decide,rfl⟩
      case round =>
       obtain ⟨c,v,rfl,rfl,gF,hc,hv,rfl,Sy,Hd⟩:=hrel
       obtain ⟨n,hn⟩:∃n,n=1+c:=⟨_,rfl⟩
       obtain ⟨q,hq⟩:∃q,q=k+n:=⟨_,rfl⟩
       rw[←hn] at Hd ⊢
       rw[←hq] at Hd
       have bM:(k:Int)+(n:Int)=(q:Int):=by omega
       have q0:(0:Int)≤(q:Int):=zH _
       have Zi:1≤n:=by omega
       have EL:n≤4:=by omega
       have Hn:=al hn
       have Hq:=al hq
       have kq:=al gF
       clear gF hn hq
       by_cases nR:c<3
       ·have n4:decide ((n:Int)<4)=true:=by have:=ab Hn;simp;omega
        by_cases gN:q<s.size
        ·obtain ⟨y,hy,Ai,gy⟩:=cd s q gN
         have q1:(q:Int)<(s.size:Int):=by omega
         have lF:=al (kK hy)
         clear hy
         by_cases hD:mX 8 y≠none
         ·obtain ⟨ZP,y1,y2⟩:=GQ hD
          have cF:Hid (cC 8 3 ((aI s).drop (k+1)) 0 0=cC 8 (3-(c+1)) ((aI s).drop (q+1)) (v*8+(y-48)) (c+1)):=by show _=_;rw[ab Hd,ab lF,show 3-c=(3-(c+1))+1 by omega,mF ZP]
          have AR:Hid (VB 8 (c+1) (v*8+(y-48))):=(ab Sy).next (by omega)
          have hv8:v*8+(y-48)≤511:=vb8 (ab AR) (by omega)
          have HD:=al hD
          have Jg:=al nR
          clear nR hD ZP Hd lF hc
          go_wp2_with fail
          refine (CO wr y Ai).mono ?_
          rintro e w' ⟨b,rfl,he,hb⟩
          obtain rfl:wr=w':=he.symm
          obtain rfl:b=true:=hb.2 (ab HD)
          clear hb
          go_wp2
          go_roundg (3-(c+1))
          case measure=>have:=ab kq;have:=ab Jg;omega
          case rel =>
           have hn:=ab Hn;have hq:=ab Hq;have nR:=ab Jg
           refine ⟨c+1,v*8+(y-48),by go_num,by subst hn;go_num,rfl,by omega,hv8,rfl,AR,?_⟩
           have:=ab cF;rw[hq,hn] at this;exact this
         ·have HD:=al (Classical.not_not.1 hD)
          have Jg:=al nR
          have HnD:=al hD
          clear nR hD
          go_wp2_with fail
          refine (CO wr y Ai).mono ?_
          rintro e w' ⟨b,rfl,he,hb⟩
          obtain rfl:wr=w':=he.symm
          obtain rfl:b=false:=by cases b with|false=>rfl|true=>exact absurd (hb.1 rfl) (ab HnD)
          clear hb
          have Hf:Hid (cC 8 3 ((aI s).drop (k+1)) 0 0=(v,c)):=(ab Hd).trans (by rw[ab lF,mG (ab HD)])
          by_cases c0:c=0∨255<v
          ·have Hr:Hid (du (a::x::(aI s).drop (k+2))=none):=(ab Hv).trans (gH (by rw[ab Hf];exact c0))
           rcases c0 with c0|c0
           ·have en:((n:Int)==1)=true:=by have:=ab Hn;simp;omega
            clear c0 Hf Hd hc
            go_wp2
            go_ret2
            exact dH (ab cN) (ab Hr)
           ·by_cases c1:c=0
            ·have en:((n:Int)==1)=true:=by have:=ab Hn;simp;omega
             clear c0 c1 Hf Hd hc
             go_wp2
             go_ret2
             exact dH (ab cN) (ab Hr)
            ·have en:((n:Int)==1)=false:=by have:=ab Hn;simp;omega
             have ev:decide ((255:Int)<(v:Int))=true:=by simp;omega
             clear c0 c1 Hf Hd hc
             go_wp2
             go_ret2
             exact dH (ab cN) (ab Hr)
          ·obtain ⟨c0,c1⟩:=not_or.1 c0
           have Hr:Hid (du (a::x::(aI s).drop (k+2))=some (v,n)):=(ab Hv).trans (by rw[ab Hf,ln c0 (by omega),←ab Hn])
           have ev:decide ((255:Int)<(v:Int))=false:=by simp;omega
           have EG:v≤255:=by omega
           clear c1
           have en:((n:Int)==1)=false:=by have:=ab Hn;simp;omega
           clear c0 Hf Hd hc
           go_wp2
           go_ret2
           have e9:IntKind.u8.wrap (v:Int)=(v:Int):=by simp[IntKind.wrap,IntKind.bits,IntKind.signed];omega
           first
            |exact bH (ab cN) (ab Hr)
            |(rw[e9];exact bH (ab cN) (ab Hr))
        ·have q1:decide (q<s.size)=false:=by simp;omega
         have lF:=al (BU gN)
         clear gN nR
         have Hf:Hid (cC 8 3 ((aI s).drop (k+1)) 0 0=(v,c)):=(ab Hd).trans (by rw[ab lF,uE])
         by_cases c0:c=0∨255<v
         ·have Hr:Hid (du (a::x::(aI s).drop (k+2))=none):=(ab Hv).trans (gH (by rw[ab Hf];exact c0))
          rcases c0 with c0|c0
          ·have en:((n:Int)==1)=true:=by have:=ab Hn;simp;omega
           clear c0 Hf Hd hc
           go_wp2
           go_ret2
           exact dH (ab cN) (ab Hr)
          ·by_cases c1:c=0
           ·have en:((n:Int)==1)=true:=by have:=ab Hn;simp;omega
            clear c0 c1 Hf Hd hc
            go_wp2
            go_ret2
            exact dH (ab cN) (ab Hr)
           ·have en:((n:Int)==1)=false:=by have:=ab Hn;simp;omega
            have ev:decide ((255:Int)<(v:Int))=true:=by simp;omega
            clear c0 c1 Hf Hd hc
            go_wp2
            go_ret2
            exact dH (ab cN) (ab Hr)
         ·obtain ⟨c0,c1⟩:=not_or.1 c0
          have Hr:Hid (du (a::x::(aI s).drop (k+2))=some (v,n)):=(ab Hv).trans (by rw[ab Hf,ln c0 (by omega),←ab Hn])
          have ev:decide ((255:Int)<(v:Int))=false:=by simp;omega
          have EG:v≤255:=by omega
          clear c1
          have en:((n:Int)==1)=false:=by have:=ab Hn;simp;omega
          clear c0 Hf Hd hc
          go_wp2
          go_ret2
          have e9:IntKind.u8.wrap (v:Int)=(v:Int):=by simp[IntKind.wrap,IntKind.bits,IntKind.signed];omega
          first
           |exact bH (ab cN) (ab Hr)
           |(rw[e9];exact bH (ab cN) (ab Hr))
       ·have n4:decide ((n:Int)<4)=false:=by have:=ab Hn;simp;omega
        have Hm:Hid (3-c=0):=by show _=_;omega
        clear nR
        have Hf:Hid (cC 8 3 ((aI s).drop (k+1)) 0 0=(v,c)):=(ab Hd).trans (by rw[ab Hm,jC])
        by_cases c0:c=0∨255<v
        ·have Hr:Hid (du (a::x::(aI s).drop (k+2))=none):=(ab Hv).trans (gH (by rw[ab Hf];exact c0))
         rcases c0 with c0|c0
         ·have en:((n:Int)==1)=true:=by have:=ab Hn;simp;omega
          clear c0 Hf Hd hc
          go_wp2
          go_ret2
          exact dH (ab cN) (ab Hr)
         ·by_cases c1:c=0
          ·have en:((n:Int)==1)=true:=by have:=ab Hn;simp;omega
           clear c0 c1 Hf Hd hc
           go_wp2
           go_ret2
           exact dH (ab cN) (ab Hr)
          ·have en:((n:Int)==1)=false:=by have:=ab Hn;simp;omega
           have ev:decide ((255:Int)<(v:Int))=true:=by simp;omega
           clear c0 c1 Hf Hd hc
           go_wp2
           go_ret2
           exact dH (ab cN) (ab Hr)
        ·obtain ⟨c0,c1⟩:=not_or.1 c0
         have Hr:Hid (du (a::x::(aI s).drop (k+2))=some (v,n)):=(ab Hv).trans (by rw[ab Hf,ln c0 (by omega),←ab Hn])
         have ev:decide ((255:Int)<(v:Int))=false:=by simp;omega
         have EG:v≤255:=by omega
         clear c1
         have en:((n:Int)==1)=false:=by have:=ab Hn;simp;omega
         clear c0 Hf Hd hc
         go_wp2
         go_ret2
         have e9:IntKind.u8.wrap (v:Int)=(v:Int):=by simp[IntKind.wrap,IntKind.bits,IntKind.signed];omega
         first
          |exact bH (ab cN) (ab Hr)
          |(rw[e9];exact bH (ab cN) (ab Hr))
 ·have hn:du ((aI s).drop k)=none:=uB (by rw[List.length_drop,aY];omega)
  have Hn:=al hn
  have e1:decide ((s.size:Int)≤(k:Int)+1)=true:=by simp;omega
  clear h2 hn
  go_enter Tryz.func153,Tryz.ntmps153
  go_wp2
  go_ret2
  exact dH bG (ab Hn)
end Go.Proofs.YtichhjfjcinjgaaGreatDoor

import Derived.Test.YtichhjfjcinjgaaGreatDoorM12
import Derived.Test.YtichhjfjcinjgaaGreatDoorSTa
set_option maxHeartbeats 4000000
set_option maxRecDepth 100000
namespace Go.Proofs.YtichhjfjcinjgaaGreatDoor
open Go.RowKit Go.Lib
attribute [local go_sem ↓] Go.wp_at_zero Go.wp_at_succ
def MR:List Nat:=[97,98,102,110,114,116,118,92,39,34]
def OX:List Nat:=[7,8,12,10,13,9,11,92,39,34]
theorem QG:∀i:Fin 10,lp (MR[i.val]'(by have:=i.isLt;show _<10;omega))=some (OX[i.val]'(by have:=i.isLt;show _<10;omega)):=by decide
theorem MQ {i x:Nat} (h:MR[i]?=some x):∃v,lp x=some v∧OX[i]?=some v∧v<256:=by
 obtain ⟨hi,rfl⟩:=zB h
 have G6:i<10:=hi
 refine ⟨_,QG ⟨i,G6⟩,List.getElem?_eq_getElem _,?_⟩
 have key:∀i:Fin 10,OX[i.val]'(by have:=i.isLt;show _<10;omega)<256:=by decide
 exact key ⟨i,G6⟩
theorem J' {x:Nat} (h:∀j y:Nat,MR[j]?=some y→¬y=x):lp x=none:=by
 have g0:=h 0 97 rfl
 have g1:=h 1 98 rfl
 have g2:=h 2 102 rfl
 have g3:=h 3 110 rfl
 have g4:=h 4 114 rfl
 have g5:=h 5 116 rfl
 have g6:=h 6 118 rfl
 have g7:=h 7 92 rfl
 have g8:=h 8 39 rfl
 have g9:=h 9 34 rfl
 unfold lp
 rw[if_neg (by omega),if_neg (by omega),if_neg (by omega),if_neg (by omega),if_neg (by omega),if_neg (by omega),if_neg (by omega),if_neg (by omega)]
theorem nmS:aI ⟨#[97,98,102,110,114,116,118,92,39,34]⟩=MR:=rfl
theorem CE (W:World) (x:Nat) (hx:x<256):Calls Tryz.prog 103 #[.int .u8 (x:Int),.int .u8 8] W (DG W (mV 8 x≠none)):=by
 rw[M6]
 go_enter Tryz.func103,Tryz.ntmps103
 go_wp2
 all_goals (go_ret;refine F' _ ?_;simp;omega)
theorem Dd {x:Nat}:(oG x=-1∧mV 16 x=none)∨∃d:Nat,oG x=(d:Int)∧mV 16 x=some d∧d<16:=by
 rcases gW x with ⟨h1,h2⟩|⟨d,h1,h2,h3⟩
 ·left
  refine ⟨h1,?_⟩
  unfold mV
  split
  ·rfl
  ·rename_i d hd
   rw[if_neg (by have:=h2 d hd;omega)]
 ·right
  refine ⟨d,h1,?_,h3⟩
  unfold mV
  rw[h2]
  exact if_pos h3
theorem GF {x:Nat} (h:mV 8 x≠none):mV 8 x=some (x-48)∧48≤x∧x≤55:=by
 obtain ⟨h1,h2⟩:=M6.1 h
 refine ⟨?_,h1,h2⟩
 unfold mV x8
 rw[if_pos (by omega)]
 exact if_pos (by omega)
theorem kI {s:ByteArray}{p x:Nat} (h:(aI s)[p]?=some x):(aI s).drop p=x::(aI s).drop (p+1):=by
 obtain ⟨hl,lN⟩:=zB h
 rw[List.drop_eq_getElem_cons hl,lN]
def VB (B j v:Nat):Prop:=v<B ^ j
theorem VB.next {B j v d:Nat} (h:VB B j v) (hd:d<B):VB B (j+1) (v*B+d):=by
 unfold VB at *
 rw[Nat.pow_succ]
 have:(v+1)*B≤B ^ j*B:=Nat.mul_le_mul_right B h
 rw[Nat.add_mul,Nat.one_mul] at this
 omega
theorem Qp {j v:Nat} (h:VB 16 j v) (hj:j≤2):v≤255:=by
 unfold VB at h
 have:(16:Nat) ^ j≤16 ^ 2:=Nat.pow_le_pow_right (by decide) hj
 have e:(16:Nat) ^ 2=256:=by decide
 omega
theorem vb8 {j v:Nat} (h:VB 8 j v) (hj:j≤3):v≤511:=by
 unfold VB at h
 have:(8:Nat) ^ j≤8 ^ 3:=Nat.pow_le_pow_right (by decide) hj
 have e:(8:Nat) ^ 3=512:=by decide
 omega
theorem BM {s:ByteArray}{p:Nat} (h:¬p<s.size):(aI s).drop p=[]:=List.drop_eq_nil_of_le (by rw[aX];omega)
theorem gF {p:Nat×Nat}{k:Nat} (h:p.2=0∨255<p.1):fin p k=none:=by unfold fin;rw[if_pos h]
theorem lh {v n k:Nat} (h:¬n=0) (h2:v≤255):fin (v,n) k=some (v,k+n):=by unfold fin;rw[if_neg (by simp;omega)]
theorem yF (W:World) (s:ByteArray) (k:Nat) (hk:k<s.size) (hs:s.size≤65536):Calls Tryz.prog 153 #[.string s,.int .i64 (k:Int)] W (VN W (dr ((aI s).drop k))):=by
 have bJ:=zE W.heap.size W
 have k0:(0:Int)≤(k:Int):=zH _
 by_cases h2:k+1<s.size
 ·obtain ⟨j,hj⟩:∃j,j=k+1:=⟨_,rfl⟩
  have hjs:j<s.size:=by omega
  obtain ⟨a,ha,_,_⟩:=cc s k hk
  obtain ⟨x,hx,cY,gx⟩:=cc s j hjs
  have GO:(aI s).drop k=a::x::(aI s).drop (k+2):=by
   rw[kI ha,←hj,kI hx,hj]
  rw[GO]
  have cE:(k:Int)+1=(j:Int):=by omega
  have j0:(0:Int)≤(j:Int):=zH _
  have j1:(j:Int)<(s.size:Int):=by omega
  have e1:decide (s.size≤j)=false:=by simp;omega
  have Hr:=al GO
  have Hj:=al hj
  have Hx:=al hx
  have cM:Hid (Below W.heap.size W (W.alloc (.cells #[.int .u8 7,.int .u8 8,.int .u8 12,.int .u8 10,.int .u8 13,.int .u8 9,.int .u8 11,.int .u8 92,.int .u8 39,.int .u8 34] 5))):=bJ.alloc (zD _) _
  have ND:∀(i v:Nat),OX[i]?=some v→(W.alloc (.cells #[.int .u8 7,.int .u8 8,.int .u8 12,.int .u8 10,.int .u8 13,.int .u8 9,.int .u8 11,.int .u8 92,.int .u8 39,.int .u8 34] 5)).cell? ⟨W.heap.size,i,none⟩=some (.int .u8 (v:Int)):=fun i v h=>by
   have:=db W (nb OX) 5 i (.int .u8 (v:Int)) (by rw[QH,h];rfl)
   rw[Go.WideShapes.add_plain] at this
   simpa[nb,OX] using this
  have PY:=al ND
  clear GO hj h2 ha hx ND bJ
  go_enter Tryz.func153,Tryz.ntmps153
  go_wp2
  generalize W.alloc (.cells #[.int .u8 7,.int .u8 8,.int .u8 12,.int .u8 10,.int .u8 13,.int .u8 9,.int .u8 11,.int .u8 92,.int .u8 39,.int .u8 34] 5)=W1 at *
  go_loopg [9] 10 (fun gk v9 wr=>∃(i:Nat),v9=.int .i64 (i:Int)∧gk=10-i∧i≤10∧wr=W1∧Hid (∀j y:Nat,j<i→MR[j]?=some y→¬y=x))
  case atStart=>exact ⟨0,rfl,rfl,by omega,rfl,fun j y hj=>by omega⟩
  case round =>
   obtain ⟨i,rfl,aU,hi,rfl,E'⟩:=hrel
   have bz:=al aU
   clear aU
   by_cases aM:i<10
   ·obtain ⟨y,hy,Ab,gy⟩:=cc ⟨#[97,98,102,110,114,116,118,92,39,34]⟩ i (by exact aM)
    rw[nmS] at hy
    have i0:(0:Int)≤(i:Int):=zH _
    have i1:(i:Int)<10:=by omega
    by_cases Td:y=x
    ·obtain ⟨v,hv,hw,Ev⟩:=MQ hy
     have LZ:=ab PY i v hw
     have Hv:Hid (dr (a::x::(aI s).drop (k+2))=some (v,2)):=eh (by rw[←Td];exact hv)
     have fq:((y:Int)==(x:Int))=true:=by simp;omega
     clear hv hw hy Td E' PY
     go_wp2
     go_ret2
     exact bG (n:=2) (ab cM) (ab Hv)
    ·have fq:((y:Int)==(x:Int))=false:=by simp;omega
     have cD:Hid (∀j z:Nat,j<i+1→MR[j]?=some z→¬z=x):=fun j z hj hz=>by
      by_cases Nv:j<i
      ·exact ab E' j z Nv hz
      ·obtain rfl:j=i:=by omega
       rw[hy] at hz;obtain rfl:=zC hz;exact Td
     clear hy Td E'
     go_wp2
     go_roundg (10-(i+1))
     case measure=>have:=ab bz;omega
     case rel=>exact ⟨i+1,by go_num,rfl,by omega,rfl,cD⟩
   ·have Ag:lp x=none:=J' (fun j y hy=>ab E' j y (by have:=(zB hy).1;have e:MR.length=10:=rfl;omega) hy)
    obtain rfl:i=10:=by omega
    clear E' PY
    by_cases Ak:x=120
    ·have f120:=lj (c:=x) (k:=120) (by omega)
     have Hv:Hid (dr (a::x::(aI s).drop (k+2))=fin (cA 16 2 ((aI s).drop (k+2)) 0 0) 2):=oO Ag (.inl Ak)
     clear Ag Ak
     go_wp2
     go_loopg [10,11] 2 (fun gk v10 v11 Qb=>∃(c v:Nat),v10=.int .i64 (v:Int)∧v11=.int .i64 ((2+c:Nat):Int)∧gk=2-c∧c≤2∧v≤255∧Qb=wr∧Hid (VB 16 c v)∧Hid (cA 16 2 ((aI s).drop (k+2)) 0 0=cA 16 (2-c) ((aI s).drop (k+(2+c))) v c))
     case atStart=>exact ⟨0,0,rfl,rfl,rfl,by omega,by omega,rfl,by show 0<16 ^ 0;decide,rfl⟩
     case round =>
      obtain ⟨c,v,rfl,rfl,gD,hc,hv,rfl,Sl,Hd⟩:=hrel
      obtain ⟨n,hn⟩:∃n,n=2+c:=⟨_,rfl⟩
      obtain ⟨q,hq⟩:∃q,q=k+n:=⟨_,rfl⟩
      rw[←hn] at Hd ⊢
      rw[←hq] at Hd
      have bM:(k:Int)+(n:Int)=(q:Int):=by omega
      have q0:(0:Int)≤(q:Int):=zH _
      have Zd:2≤n:=by omega
      have EA:n≤4:=by omega
      have Hn:=al hn
      have Hq:=al hq
      have ki:=al gD
      clear gD hn hq
      by_cases nP:c<2
      ·have n4:decide ((n:Int)<4)=true:=by have:=ab Hn;simp;omega
       by_cases gL:q<s.size
       ·obtain ⟨y,hy,Ab,gy⟩:=cc s q gL
        have q1:(q:Int)<(s.size:Int):=by omega
        have lD:=al (kI hy)
        clear hy
        rcases @Dd y with ⟨hI,hD⟩|⟨d,hI,hD,hd⟩
        ·have I3:=al nP
         have HD:=al hD
         have Eu:Calls Tryz.prog 152 #[.int .u8 (y:Int)] wr fun e w=>e=.returned (.int .i64 (-1))∧w=wr:=by have:=gr wr y Ab;rw[hI] at this;exact this
         clear nP hD hI
         go_wp2_with fail
         refine Eu.mono ?_
         rintro e w' ⟨rfl,he⟩
         obtain rfl:wr=w':=he.symm
         clear Eu
         have Hf:Hid (cA 16 2 ((aI s).drop (k+2)) 0 0=(v,c)):=(ab Hd).trans (by rw[ab lD,mD (ab HD)])
         by_cases c0:c=0
         ·have Hr:Hid (dr (a::x::(aI s).drop (k+2))=none):=(ab Hv).trans (gF (by rw[ab Hf];exact .inl c0))
          have en:((n:Int)==2)=true:=by have:=ab Hn;simp;omega
          clear c0 Hf Hd hc
          go_wp2
          go_ret2
          exact dF (ab cM) (ab Hr)
         ·have Hr:Hid (dr (a::x::(aI s).drop (k+2))=some (v,n)):=(ab Hv).trans (by rw[ab Hf,lh c0 hv,←ab Hn])
          have en:((n:Int)==2)=false:=by have:=ab Hn;simp;omega
          clear c0 Hf Hd hc
          go_wp2
          go_ret2
          have e9:IntKind.u8.wrap (v:Int)=(v:Int):=by simp[IntKind.wrap,IntKind.bits,IntKind.signed];omega
          first
           |exact bG (ab cM) (ab Hr)
           |(rw[e9];exact bG (ab cM) (ab Hr))
        ·have Eu:Calls Tryz.prog 152 #[.int .u8 (y:Int)] wr fun e w=>e=.returned (.int .i64 (d:Int))∧w=wr:=by have:=gr wr y Ab;rw[hI] at this;exact this
         have cD:Hid (cA 16 2 ((aI s).drop (k+2)) 0 0=cA 16 (2-(c+1)) ((aI s).drop (q+1)) (v*16+d) (c+1)):=by show _=_;rw[ab Hd,ab lD,show 2-c=(2-(c+1))+1 by omega,mC hD]
         have AJ:Hid (VB 16 (c+1) (v*16+d)):=(ab Sl).next hd
         have Ni:v*16+d≤255:=Qp (ab AJ) (by omega)
         have I3:=al nP
         clear nP hD hI Hd lD hc
         go_wp2_with fail
         refine Eu.mono ?_
         rintro e w' ⟨rfl,he⟩
         obtain rfl:wr=w':=he.symm
         go_wp2_with fail
         refine Eu.mono ?_
         rintro e w' ⟨rfl,he⟩
         obtain rfl:wr=w':=he.symm
         clear Eu
         go_wp2
         go_roundg (2-(c+1))
         case measure=>have:=ab ki;have:=ab I3;omega
         case rel =>
          have hn:=ab Hn;have hq:=ab Hq;have nP:=ab I3
          refine ⟨c+1,v*16+d,by go_num,by subst hn;go_num,rfl,by omega,Ni,rfl,AJ,?_⟩
          have:=ab cD;rw[hq,hn] at this;exact this
       ·have q1:decide (q<s.size)=false:=by simp;omega
        have lD:=al (BM gL)
        clear gL nP
        have Hf:Hid (cA 16 2 ((aI s).drop (k+2)) 0 0=(v,c)):=(ab Hd).trans (by rw[ab lD,uB])
        by_cases c0:c=0
        ·have Hr:Hid (dr (a::x::(aI s).drop (k+2))=none):=(ab Hv).trans (gF (by rw[ab Hf];exact .inl c0))
         have en:((n:Int)==2)=true:=by have:=ab Hn;simp;omega
         clear c0 Hf Hd hc
         go_wp2
         go_ret2
         exact dF (ab cM) (ab Hr)
        ·have Hr:Hid (dr (a::x::(aI s).drop (k+2))=some (v,n)):=(ab Hv).trans (by rw[ab Hf,lh c0 hv,←ab Hn])
         have en:((n:Int)==2)=false:=by have:=ab Hn;simp;omega
         clear c0 Hf Hd hc
         go_wp2
         go_ret2
         have e9:IntKind.u8.wrap (v:Int)=(v:Int):=by simp[IntKind.wrap,IntKind.bits,IntKind.signed];omega
         first
          |exact bG (ab cM) (ab Hr)
          |(rw[e9];exact bG (ab cM) (ab Hr))
      ·have n4:decide ((n:Int)<4)=false:=by have:=ab Hn;simp;omega
       have Hm:Hid (2-c=0):=by show _=_;omega
       clear nP
       have Hf:Hid (cA 16 2 ((aI s).drop (k+2)) 0 0=(v,c)):=(ab Hd).trans (by rw[ab Hm,jz])
       by_cases c0:c=0
       ·have Hr:Hid (dr (a::x::(aI s).drop (k+2))=none):=(ab Hv).trans (gF (by rw[ab Hf];exact .inl c0))
        have en:((n:Int)==2)=true:=by have:=ab Hn;simp;omega
        clear c0 Hf Hd hc
        go_wp2
        go_ret2
        exact dF (ab cM) (ab Hr)
       ·have Hr:Hid (dr (a::x::(aI s).drop (k+2))=some (v,n)):=(ab Hv).trans (by rw[ab Hf,lh c0 hv,←ab Hn])
        have en:((n:Int)==2)=false:=by have:=ab Hn;simp;omega
        clear c0 Hf Hd hc
        go_wp2
        go_ret2
        have e9:IntKind.u8.wrap (v:Int)=(v:Int):=by simp[IntKind.wrap,IntKind.bits,IntKind.signed];omega
        first
         |exact bG (ab cM) (ab Hr)
         |(rw[e9];exact bG (ab cM) (ab Hr))
    ·have f120:=fY (c:=x) (k:=120) (by omega)
     by_cases PA:x=88
     ·have f88:=lj (c:=x) (k:=88) (by omega)
      have Hv:Hid (dr (a::x::(aI s).drop (k+2))=fin (cA 16 2 ((aI s).drop (k+2)) 0 0) 2):=oO Ag (.inr PA)
      clear Ag Ak PA
      go_wp2
      go_loopg [10,11] 2 (fun gk v10 v11 Qb=>∃(c v:Nat),v10=.int .i64 (v:Int)∧v11=.int .i64 ((2+c:Nat):Int)∧gk=2-c∧c≤2∧v≤255∧Qb=wr∧Hid (VB 16 c v)∧Hid (cA 16 2 ((aI s).drop (k+2)) 0 0=cA 16 (2-c) ((aI s).drop (k+(2+c))) v c))
      case atStart=>exact ⟨0,0,rfl,rfl,rfl,by omega,by omega,rfl,by show 0<16 ^ 0;decide,rfl⟩
      case round =>
       obtain ⟨c,v,rfl,rfl,gD,hc,hv,rfl,Sl,Hd⟩:=hrel
       obtain ⟨n,hn⟩:∃n,n=2+c:=⟨_,rfl⟩
       obtain ⟨q,hq⟩:∃q,q=k+n:=⟨_,rfl⟩
       rw[←hn] at Hd ⊢
       rw[←hq] at Hd
       have bM:(k:Int)+(n:Int)=(q:Int):=by omega
       have q0:(0:Int)≤(q:Int):=zH _
       have Zd:2≤n:=by omega
       have EA:n≤4:=by omega
       have Hn:=al hn
       have Hq:=al hq
       have ki:=al gD
       clear gD hn hq
       by_cases nP:c<2
       ·have n4:decide ((n:Int)<4)=true:=by have:=ab Hn;simp;omega
        by_cases gL:q<s.size
        ·obtain ⟨y,hy,Ab,gy⟩:=cc s q gL
         have q1:(q:Int)<(s.size:Int):=by omega
         have lD:=al (kI hy)
         clear hy
         rcases @Dd y with ⟨hI,hD⟩|⟨d,hI,hD,hd⟩
         ·have I3:=al nP
          have HD:=al hD
          have Eu:Calls Tryz.prog 152 #[.int .u8 (y:Int)] wr fun e w=>e=.returned (.int .i64 (-1))∧w=wr:=by have:=gr wr y Ab;rw[hI] at this;exact this
          clear nP hD hI
          go_wp2_with fail
          refine Eu.mono ?_
          rintro e w' ⟨rfl,he⟩
          obtain rfl:wr=w':=he.symm
          clear Eu
          have Hf:Hid (cA 16 2 ((aI s).drop (k+2)) 0 0=(v,c)):=(ab Hd).trans (by rw[ab lD,mD (ab HD)])
          by_cases c0:c=0
          ·have Hr:Hid (dr (a::x::(aI s).drop (k+2))=none):=(ab Hv).trans (gF (by rw[ab Hf];exact .inl c0))
           have en:((n:Int)==2)=true:=by have:=ab Hn;simp;omega
           clear c0 Hf Hd hc
           go_wp2
           go_ret2
           exact dF (ab cM) (ab Hr)
          ·have Hr:Hid (dr (a::x::(aI s).drop (k+2))=some (v,n)):=(ab Hv).trans (by rw[ab Hf,lh c0 hv,←ab Hn])
           have en:((n:Int)==2)=false:=by have:=ab Hn;simp;omega
           clear c0 Hf Hd hc
           go_wp2
           go_ret2
           have e9:IntKind.u8.wrap (v:Int)=(v:Int):=by simp[IntKind.wrap,IntKind.bits,IntKind.signed];omega
           first
            |exact bG (ab cM) (ab Hr)
            |(rw[e9];exact bG (ab cM) (ab Hr))
         ·have Eu:Calls Tryz.prog 152 #[.int .u8 (y:Int)] wr fun e w=>e=.returned (.int .i64 (d:Int))∧w=wr:=by have:=gr wr y Ab;rw[hI] at this;exact this
          have cD:Hid (cA 16 2 ((aI s).drop (k+2)) 0 0=cA 16 (2-(c+1)) ((aI s).drop (q+1)) (v*16+d) (c+1)):=by show _=_;rw[ab Hd,ab lD,show 2-c=(2-(c+1))+1 by omega,mC hD]
          have AJ:Hid (VB 16 (c+1) (v*16+d)):=(ab Sl).next hd
          have Ni:v*16+d≤255:=Qp (ab AJ) (by omega)
          have I3:=al nP
          clear nP hD hI Hd lD hc
          go_wp2_with fail
          refine Eu.mono ?_
          rintro e w' ⟨rfl,he⟩
          obtain rfl:wr=w':=he.symm
          go_wp2_with fail
          refine Eu.mono ?_
          rintro e w' ⟨rfl,he⟩
          obtain rfl:wr=w':=he.symm
          clear Eu
          go_wp2
          go_roundg (2-(c+1))
          case measure=>have:=ab ki;have:=ab I3;omega
          case rel =>
           have hn:=ab Hn;have hq:=ab Hq;have nP:=ab I3
           refine ⟨c+1,v*16+d,by go_num,by subst hn;go_num,rfl,by omega,Ni,rfl,AJ,?_⟩
           have:=ab cD;rw[hq,hn] at this;exact this
        ·have q1:decide (q<s.size)=false:=by simp;omega
         have lD:=al (BM gL)
         clear gL nP
         have Hf:Hid (cA 16 2 ((aI s).drop (k+2)) 0 0=(v,c)):=(ab Hd).trans (by rw[ab lD,uB])
         by_cases c0:c=0
         ·have Hr:Hid (dr (a::x::(aI s).drop (k+2))=none):=(ab Hv).trans (gF (by rw[ab Hf];exact .inl c0))
          have en:((n:Int)==2)=true:=by have:=ab Hn;simp;omega
          clear c0 Hf Hd hc
          go_wp2
          go_ret2
          exact dF (ab cM) (ab Hr)
         ·have Hr:Hid (dr (a::x::(aI s).drop (k+2))=some (v,n)):=(ab Hv).trans (by rw[ab Hf,lh c0 hv,←ab Hn])
          have en:((n:Int)==2)=false:=by have:=ab Hn;simp;omega
          clear c0 Hf Hd hc
          go_wp2
          go_ret2
          have e9:IntKind.u8.wrap (v:Int)=(v:Int):=by simp[IntKind.wrap,IntKind.bits,IntKind.signed];omega
          first
           |exact bG (ab cM) (ab Hr)
           |(rw[e9];exact bG (ab cM) (ab Hr))
       ·have n4:decide ((n:Int)<4)=false:=by have:=ab Hn;simp;omega
        have Hm:Hid (2-c=0):=by show _=_;omega
        clear nP
        have Hf:Hid (cA 16 2 ((aI s).drop (k+2)) 0 0=(v,c)):=(ab Hd).trans (by rw[ab Hm,jz])
        by_cases c0:c=0
        ·have Hr:Hid (dr (a::x::(aI s).drop (k+2))=none):=(ab Hv).trans (gF (by rw[ab Hf];exact .inl c0))
         have en:((n:Int)==2)=true:=by have:=ab Hn;simp;omega
         clear c0 Hf Hd hc
         go_wp2
         go_ret2
         exact dF (ab cM) (ab Hr)
        ·have Hr:Hid (dr (a::x::(aI s).drop (k+2))=some (v,n)):=(ab Hv).trans (by rw[ab Hf,lh c0 hv,←ab Hn])
         have en:((n:Int)==2)=false:=by have:=ab Hn;simp;omega
         clear c0 Hf Hd hc
         go_wp2
         go_ret2
         have e9:IntKind.u8.wrap (v:Int)=(v:Int):=by simp[IntKind.wrap,IntKind.bits,IntKind.signed];omega
         first
          |exact bG (ab cM) (ab Hr)
          |(rw[e9];exact bG (ab cM) (ab Hr))
     ·have f88:=fY (c:=x) (k:=88) (by omega)
      have GP:x::(aI s).drop (k+2)=(aI s).drop (k+1):=by have h9:=kI (ab Hx);rw[ab Hj] at h9;exact h9.symm
      have Hr1:=al GP
      clear GP
      have Hv:Hid (dr (a::x::(aI s).drop (k+2))=fin (cA 8 3 ((aI s).drop (k+1)) 0 0) 1):=(At Ag (by omega)).trans (by rw[ab Hr1])
      clear Ag Ak PA
      go_wp2
      go_loopg [12,13] 3 (fun gk v10 v11 Qb=>∃(c v:Nat),v10=.int .i64 (v:Int)∧v11=.int .i64 ((1+c:Nat):Int)∧gk=3-c∧c≤3∧v≤511∧Qb=wr∧Hid (VB 8 c v)∧Hid (cA 8 3 ((aI s).drop (k+1)) 0 0=cA 8 (3-c) ((aI s).drop (k+(1+c))) v c))
      case atStart=>exact ⟨0,0,rfl,rfl,rfl,by omega,by omega,rfl,by show 0<8 ^ 0;decide,rfl⟩
      case round =>
       obtain ⟨c,v,rfl,rfl,gD,hc,hv,rfl,Sl,Hd⟩:=hrel
       obtain ⟨n,hn⟩:∃n,n=1+c:=⟨_,rfl⟩
       obtain ⟨q,hq⟩:∃q,q=k+n:=⟨_,rfl⟩
       rw[←hn] at Hd ⊢
       rw[←hq] at Hd
       have bM:(k:Int)+(n:Int)=(q:Int):=by omega
       have q0:(0:Int)≤(q:Int):=zH _
       have Zd:1≤n:=by omega
       have EA:n≤4:=by omega
       have Hn:=al hn
       have Hq:=al hq
       have ki:=al gD
       clear gD hn hq
       by_cases nP:c<3
       ·have n4:decide ((n:Int)<4)=true:=by have:=ab Hn;simp;omega
        by_cases gL:q<s.size
        ·obtain ⟨y,hy,Ab,gy⟩:=cc s q gL
         have q1:(q:Int)<(s.size:Int):=by omega
         have lD:=al (kI hy)
         clear hy
         by_cases hD:mV 8 y≠none
         ·obtain ⟨ZJ,y1,y2⟩:=GF hD
          have cD:Hid (cA 8 3 ((aI s).drop (k+1)) 0 0=cA 8 (3-(c+1)) ((aI s).drop (q+1)) (v*8+(y-48)) (c+1)):=by show _=_;rw[ab Hd,ab lD,show 3-c=(3-(c+1))+1 by omega,mC ZJ]
          have AJ:Hid (VB 8 (c+1) (v*8+(y-48))):=(ab Sl).next (by omega)
          have hv8:v*8+(y-48)≤511:=vb8 (ab AJ) (by omega)
          have HD:=al hD
          have I3:=al nP
          clear nP hD ZJ Hd lD hc
          go_wp2_with fail
          refine (CE wr y Ab).mono ?_
          rintro e w' ⟨b,rfl,he,hb⟩
          obtain rfl:wr=w':=he.symm
          obtain rfl:b=true:=hb.2 (ab HD)
          clear hb
          go_wp2
          go_roundg (3-(c+1))
          case measure=>have:=ab ki;have:=ab I3;omega
          case rel =>
           have hn:=ab Hn;have hq:=ab Hq;have nP:=ab I3
           refine ⟨c+1,v*8+(y-48),by go_num,by subst hn;go_num,rfl,by omega,hv8,rfl,AJ,?_⟩
           have:=ab cD;rw[hq,hn] at this;exact this
         ·have HD:=al (Classical.not_not.1 hD)
          have I3:=al nP
          have HnD:=al hD
          clear nP hD
          go_wp2_with fail
          refine (CE wr y Ab).mono ?_
          rintro e w' ⟨b,rfl,he,hb⟩
          obtain rfl:wr=w':=he.symm
          obtain rfl:b=false:=by cases b with|false=>rfl|true=>exact absurd (hb.1 rfl) (ab HnD)
          clear hb
          have Hf:Hid (cA 8 3 ((aI s).drop (k+1)) 0 0=(v,c)):=(ab Hd).trans (by rw[ab lD,mD (ab HD)])
          by_cases c0:c=0∨255<v
          ·have Hr:Hid (dr (a::x::(aI s).drop (k+2))=none):=(ab Hv).trans (gF (by rw[ab Hf];exact c0))
           rcases c0 with c0|c0
           ·have en:((n:Int)==1)=true:=by have:=ab Hn;simp;omega
            clear c0 Hf Hd hc
            go_wp2
            go_ret2
            exact dF (ab cM) (ab Hr)
           ·by_cases c1:c=0
            ·have en:((n:Int)==1)=true:=by have:=ab Hn;simp;omega
             clear c0 c1 Hf Hd hc
             go_wp2
             go_ret2
             exact dF (ab cM) (ab Hr)
            ·have en:((n:Int)==1)=false:=by have:=ab Hn;simp;omega
             have ev:decide ((255:Int)<(v:Int))=true:=by simp;omega
             clear c0 c1 Hf Hd hc
             go_wp2
             go_ret2
             exact dF (ab cM) (ab Hr)
          ·obtain ⟨c0,c1⟩:=not_or.1 c0
           have Hr:Hid (dr (a::x::(aI s).drop (k+2))=some (v,n)):=(ab Hv).trans (by rw[ab Hf,lh c0 (by omega),←ab Hn])
           have ev:decide ((255:Int)<(v:Int))=false:=by simp;omega
           have Ev:v≤255:=by omega
           clear c1
           have en:((n:Int)==1)=false:=by have:=ab Hn;simp;omega
           clear c0 Hf Hd hc
           go_wp2
           go_ret2
           have e9:IntKind.u8.wrap (v:Int)=(v:Int):=by simp[IntKind.wrap,IntKind.bits,IntKind.signed];omega
           first
            |exact bG (ab cM) (ab Hr)
            |(rw[e9];exact bG (ab cM) (ab Hr))
        ·have q1:decide (q<s.size)=false:=by simp;omega
         have lD:=al (BM gL)
         clear gL nP
         have Hf:Hid (cA 8 3 ((aI s).drop (k+1)) 0 0=(v,c)):=(ab Hd).trans (by rw[ab lD,uB])
         by_cases c0:c=0∨255<v
         ·have Hr:Hid (dr (a::x::(aI s).drop (k+2))=none):=(ab Hv).trans (gF (by rw[ab Hf];exact c0))
          rcases c0 with c0|c0
          ·have en:((n:Int)==1)=true:=by have:=ab Hn;simp;omega
           clear c0 Hf Hd hc
           go_wp2
           go_ret2
           exact dF (ab cM) (ab Hr)
          ·by_cases c1:c=0
           ·have en:((n:Int)==1)=true:=by have:=ab Hn;simp;omega
            clear c0 c1 Hf Hd hc
            go_wp2
            go_ret2
            exact dF (ab cM) (ab Hr)
           ·have en:((n:Int)==1)=false:=by have:=ab Hn;simp;omega
            have ev:decide ((255:Int)<(v:Int))=true:=by simp;omega
            clear c0 c1 Hf Hd hc
            go_wp2
            go_ret2
            exact dF (ab cM) (ab Hr)
         ·obtain ⟨c0,c1⟩:=not_or.1 c0
          have Hr:Hid (dr (a::x::(aI s).drop (k+2))=some (v,n)):=(ab Hv).trans (by rw[ab Hf,lh c0 (by omega),←ab Hn])
          have ev:decide ((255:Int)<(v:Int))=false:=by simp;omega
          have Ev:v≤255:=by omega
          clear c1
          have en:((n:Int)==1)=false:=by have:=ab Hn;simp;omega
          clear c0 Hf Hd hc
          go_wp2
          go_ret2
          have e9:IntKind.u8.wrap (v:Int)=(v:Int):=by simp[IntKind.wrap,IntKind.bits,IntKind.signed];omega
          first
           |exact bG (ab cM) (ab Hr)
           |(rw[e9];exact bG (ab cM) (ab Hr))
       ·have n4:decide ((n:Int)<4)=false:=by have:=ab Hn;simp;omega
        have Hm:Hid (3-c=0):=by show _=_;omega
        clear nP
        have Hf:Hid (cA 8 3 ((aI s).drop (k+1)) 0 0=(v,c)):=(ab Hd).trans (by rw[ab Hm,jz])
        by_cases c0:c=0∨255<v
        ·have Hr:Hid (dr (a::x::(aI s).drop (k+2))=none):=(ab Hv).trans (gF (by rw[ab Hf];exact c0))
         rcases c0 with c0|c0
         ·have en:((n:Int)==1)=true:=by have:=ab Hn;simp;omega
          clear c0 Hf Hd hc
          go_wp2
          go_ret2
          exact dF (ab cM) (ab Hr)
         ·by_cases c1:c=0
          ·have en:((n:Int)==1)=true:=by have:=ab Hn;simp;omega
           clear c0 c1 Hf Hd hc
           go_wp2
           go_ret2
           exact dF (ab cM) (ab Hr)
          ·have en:((n:Int)==1)=false:=by have:=ab Hn;simp;omega
           have ev:decide ((255:Int)<(v:Int))=true:=by simp;omega
           clear c0 c1 Hf Hd hc
           go_wp2
           go_ret2
           exact dF (ab cM) (ab Hr)
        ·obtain ⟨c0,c1⟩:=not_or.1 c0
         have Hr:Hid (dr (a::x::(aI s).drop (k+2))=some (v,n)):=(ab Hv).trans (by rw[ab Hf,lh c0 (by omega),←ab Hn])
         have ev:decide ((255:Int)<(v:Int))=false:=by simp;omega
         have Ev:v≤255:=by omega
         clear c1
         have en:((n:Int)==1)=false:=by have:=ab Hn;simp;omega
         clear c0 Hf Hd hc
         go_wp2
         go_ret2
         have e9:IntKind.u8.wrap (v:Int)=(v:Int):=by simp[IntKind.wrap,IntKind.bits,IntKind.signed];omega
         first
          |exact bG (ab cM) (ab Hr)
          |(rw[e9];exact bG (ab cM) (ab Hr))
 ·have hn:dr ((aI s).drop k)=none:=uy (by rw[List.length_drop,aX];omega)
  have Hn:=al hn
  have e1:decide ((s.size:Int)≤(k:Int)+1)=true:=by simp;omega
  clear h2 hn
  go_enter Tryz.func153,Tryz.ntmps153
  go_wp2
  go_ret2
  exact dF bJ (ab Hn)
end Go.Proofs.YtichhjfjcinjgaaGreatDoor

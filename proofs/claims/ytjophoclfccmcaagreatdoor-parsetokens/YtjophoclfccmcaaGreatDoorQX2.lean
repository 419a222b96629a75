import Derived.Test.YtjophoclfccmcaaGreatDoorM06
import Derived.Test.YtjophoclfccmcaaGreatDoorSTa
set_option maxHeartbeats 4000000
set_option maxRecDepth 100000
namespace Go.Proofs.YtjophoclfccmcaaGreatDoor
open Go.RowKit Go.Lib
attribute [local go_sem ↓] Go.wp_at_zero Go.wp_at_succ
def UU:List Nat:=[97,98,102,110,114,116,118,92,39,34]
def Xj:List Nat:=[7,8,12,10,13,9,11,92,39,34]
theorem YJ:∀i:Fin 10,ny (UU[i.val]'(by have:=i.isLt;show _<10;omega))=some (Xj[i.val]'(by have:=i.isLt;show _<10;omega)):=by decide
theorem UT {i x:Nat} (h:UU[i]?=some x):∃v,ny x=some v∧Xj[i]?=some v∧v<256:=by
 obtain ⟨hi,rfl⟩:=zB h
 have Qp:i<10:=hi
 refine ⟨_,YJ ⟨i,Qp⟩,List.getElem?_eq_getElem _,?_⟩
 have key:∀i:Fin 10,Xj[i.val]'(by have:=i.isLt;show _<10;omega)<256:=by decide
 exact key ⟨i,Qp⟩
theorem Rh {x:Nat} (h:∀j y:Nat,UU[j]?=some y→¬y=x):ny x=none:=by
 have g0:=h 0 97 rfl
 have g1:=h 1 98 rfl
 have g2:=h 2 102 rfl
 have g3:=h 3 110 rfl
 have g4:=h 4 114 rfl
 have g5:=h 5 116 rfl
 have g6:=h 6 118 rfl
 have g7:=h 7 92 rfl
 have g8:=h 8 39 rfl
 have g9:=h 9 34 rfl
 unfold ny
 rw[if_neg (by omega),if_neg (by omega),if_neg (by omega),if_neg (by omega),if_neg (by omega),if_neg (by omega),if_neg (by omega),if_neg (by omega)]
theorem nmS:aI ⟨#[97,98,102,110,114,116,118,92,39,34]⟩=UU:=rfl
theorem G7 (W:World) (x:Nat) (hx:x<256):Calls Tryz.prog 46 #[.int .u8 (x:Int),.int .u8 8] W (Jh W (pJ 8 x≠none)):=by
 rw[Ve]
 go_enter Tryz.func46,Tryz.ntmps46
 go_wp2
 all_goals (go_ret;refine Mx _ ?_;simp;omega)
theorem Ix {x:Nat}:(rD x=-1∧pJ 16 x=none)∨∃d:Nat,rD x=(d:Int)∧pJ 16 x=some d∧d<16:=by
 rcases jr x with ⟨h1,h2⟩|⟨d,h1,h2,h3⟩
 ·left
  refine ⟨h1,?_⟩
  unfold pJ
  split
  ·rfl
  ·rename_i d hd
   rw[if_neg (by have:=h2 d hd;omega)]
 ·right
  refine ⟨d,h1,?_,h3⟩
  unfold pJ
  rw[h2]
  exact if_pos h3
theorem NP {x:Nat} (h:pJ 8 x≠none):pJ 8 x=some (x-48)∧48≤x∧x≤55:=by
 obtain ⟨h1,h2⟩:=Ve.1 h
 refine ⟨?_,h1,h2⟩
 unfold pJ Ce
 rw[if_pos (by omega)]
 exact if_pos (by omega)
theorem mM {s:ByteArray}{p x:Nat} (h:(aI s)[p]?=some x):(aI s).drop p=x::(aI s).drop (p+1):=by
 obtain ⟨hl,gI⟩:=zB h
 rw[List.drop_eq_getElem_cons hl,gI]
def VB (B j v:Nat):Prop:=v<B ^ j
theorem VB.next {B j v d:Nat} (h:VB B j v) (hd:d<B):VB B (j+1) (v*B+d):=by
 unfold VB at *
 rw[Nat.pow_succ]
 have:(v+1)*B≤B ^ j*B:=Nat.mul_le_mul_right B h
 rw[Nat.add_mul,Nat.one_mul] at this
 omega
theorem Yn {j v:Nat} (h:VB 16 j v) (hj:j≤2):v≤255:=by
 unfold VB at h
 have:(16:Nat) ^ j≤16 ^ 2:=Nat.pow_le_pow_right (by decide) hj
 have e:(16:Nat) ^ 2=256:=by decide
 omega
theorem vb8 {j v:Nat} (h:VB 8 j v) (hj:j≤3):v≤511:=by
 unfold VB at h
 have:(8:Nat) ^ j≤8 ^ 3:=Nat.pow_le_pow_right (by decide) hj
 have e:(8:Nat) ^ 3=512:=by decide
 omega
theorem FP {s:ByteArray}{p:Nat} (h:¬p<s.size):(aI s).drop p=[]:=List.drop_eq_nil_of_le (by rw[bG];omega)
theorem iY {p:Nat×Nat}{k:Nat} (h:p.2=0∨255<p.1):fin p k=none:=by unfold fin;rw[if_pos h]
theorem nk {v n k:Nat} (h:¬n=0) (h2:v≤255):fin (v,n) k=some (v,k+n):=by unfold fin;rw[if_neg (by simp;omega)]
theorem CZ (W:World) (s:ByteArray) (k:Nat) (hk:k<s.size) (hs:s.size≤65536):Calls Tryz.prog 90 #[.string s,.int .i64 (k:Int)] W (VN W (dU ((aI s).drop k))):=by
 have eK:=zE W.heap.size W
 have k0:(0:Int)≤(k:Int):=zH _
 by_cases h2:k+1<s.size
 ·obtain ⟨j,hj⟩:∃j,j=k+1:=⟨_,rfl⟩
  have hjs:j<s.size:=by omega
  obtain ⟨a,ha,_,_⟩:=cS s k hk
  obtain ⟨x,hx,eL,gx⟩:=cS s j hjs
  have Ob:(aI s).drop k=a::x::(aI s).drop (k+2):=by
   rw[mM ha,←hj,mM hx,hj]
  rw[Ob]
  have eF:(k:Int)+1=(j:Int):=by omega
  have j0:(0:Int)≤(j:Int):=zH _
  have j1:(j:Int)<(s.size:Int):=by omega
  have e1:decide (s.size≤j)=false:=by simp;omega
  have Hr:=ab Ob
  have Hj:=ab hj
  have Hx:=ab hx
  have lO:Hid (Below W.heap.size W (W.alloc (.cells #[.int .u8 7,.int .u8 8,.int .u8 12,.int .u8 10,.int .u8 13,.int .u8 9,.int .u8 11,.int .u8 92,.int .u8 39,.int .u8 34] 5))):=eK.alloc (zD _) _
  have iL:∀(i v:Nat),Xj[i]?=some v→(W.alloc (.cells #[.int .u8 7,.int .u8 8,.int .u8 12,.int .u8 10,.int .u8 13,.int .u8 9,.int .u8 11,.int .u8 92,.int .u8 39,.int .u8 34] 5)).cell? ⟨W.heap.size,i,none⟩=some (.int .u8 (v:Int)):=fun i v h=>by
   have:=df W (nb Xj) 5 i (.int .u8 (v:Int)) (by rw[YN,h];rfl)
   rw[Go.WideShapes.add_plain] at this
   simpa[nb,Xj] using this
  have SU:=ab iL
  clear Ob hj h2 ha hx iL eK
  go_enter Tryz.func90,Tryz.ntmps90
  go_wp2
  generalize W.alloc (.cells #[.int .u8 7,.int .u8 8,.int .u8 12,.int .u8 10,.int .u8 13,.int .u8 9,.int .u8 11,.int .u8 92,.int .u8 39,.int .u8 34] 5)=W1 at *
  go_loopg [9] 10 (fun gk v9 wr=>∃(i:Nat),v9=.int .i64 (i:Int)∧gk=10-i∧i≤10∧wr=W1∧Hid (∀j y:Nat,j<i→UU[j]?=some y→¬y=x))
  case atStart=>exact ⟨0,rfl,rfl,by omega,rfl,fun j y hj=>by omega⟩
  case round =>
   obtain ⟨i,rfl,eG,hi,rfl,Hno⟩:=hrel
   have jw:=ab eG
   clear eG
   by_cases dB:i<10
   ·obtain ⟨y,hy,BR,gy⟩:=cS ⟨#[97,98,102,110,114,116,118,92,39,34]⟩ i (by exact dB)
    rw[nmS] at hy
    have i0:(0:Int)≤(i:Int):=zH _
    have i1:(i:Int)<10:=by omega
    by_cases hyx:y=x
    ·obtain ⟨v,hv,hw,zz⟩:=UT hy
     have dD:=aa SU i v hw
     have Hv:Hid (dU (a::x::(aI s).drop (k+2))=some (v,2)):=eZ (by rw[←hyx];exact hv)
     have fq:((y:Int)==(x:Int))=true:=by simp;omega
     clear hv hw hy hyx Hno SU
     go_wp2
     go_ret2
     exact bT (n:=2) (aa lO) (aa Hv)
    ·have fq:((y:Int)==(x:Int))=false:=by simp;omega
     have iF:Hid (∀j z:Nat,j<i+1→UU[j]?=some z→¬z=x):=fun j z hj hz=>by
      by_cases Qo:j<i
      ·exact aa Hno j z Qo hz
      ·obtain rfl:j=i:=by omega
       rw[hy] at hz;obtain rfl:=zC hz;exact hyx
     clear hy hyx Hno
     go_wp2
     go_roundg (10-(i+1))
     case measure=>have:=aa jw;omega
     case rel=>exact ⟨i+1,by go_num,rfl,by omega,rfl,iF⟩
   ·have Ky:ny x=none:=Rh (fun j y hy=>aa Hno j y (by have:=(zB hy).1;have e:UU.length=10:=rfl;omega) hy)
    obtain rfl:i=10:=by omega
    clear Hno SU
    by_cases D4:x=120
    ·have f120:=nn (c:=x) (k:=120) (by omega)
     have Hv:Hid (dU (a::x::(aI s).drop (k+2))=fin (cO 16 2 ((aI s).drop (k+2)) 0 0) 2):=rK Ky (.inl D4)
     clear Ky D4
     go_wp2
     go_loopg [10,11] 2 (fun gk v10 v11 Yj=>∃(c v:Nat),v10=.int .i64 (v:Int)∧v11=.int .i64 ((2+c:Nat):Int)∧gk=2-c∧c≤2∧v≤255∧Yj=wr∧Hid (VB 16 c v)∧Hid (cO 16 2 ((aI s).drop (k+2)) 0 0=cO 16 (2-c) ((aI s).drop (k+(2+c))) v c))
     case atStart=>exact ⟨0,0,rfl,rfl,rfl,by omega,by omega,rfl,by show 0<16 ^ 0;decide,rfl⟩
     case round =>
      obtain ⟨c,v,rfl,rfl,ou,hc,hv,rfl,Hvb,Hd⟩:=hrel
      obtain ⟨n,hn⟩:∃n,n=2+c:=⟨_,rfl⟩
      obtain ⟨q,hq⟩:∃q,q=k+n:=⟨_,rfl⟩
      rw[←hn] at Hd ⊢
      rw[←hq] at Hd
      have kl:(k:Int)+(n:Int)=(q:Int):=by omega
      have q0:(0:Int)≤(q:Int):=zH _
      have hnF:2≤n:=by omega
      have hn4:n≤4:=by omega
      have Hn:=ab hn
      have Hq:=ab hq
      have zp:=ab ou
      clear ou hn hq
      by_cases fh:c<2
      ·have n4:decide ((n:Int)<4)=true:=by have:=aa Hn;simp;omega
       by_cases Oe:q<s.size
       ·obtain ⟨y,hy,BR,gy⟩:=cS s q Oe
        have q1:(q:Int)<(s.size:Int):=by omega
        have nF:=ab (mM hy)
        clear hy
        rcases @Ix y with ⟨hI,hD⟩|⟨d,hI,hD,hd⟩
        ·have P4:=ab fh
         have HD:=ab hD
         have tK:Calls Tryz.prog 89 #[.int .u8 (y:Int)] wr fun e w=>e=.returned (.int .i64 (-1))∧w=wr:=by have:=iN wr y BR;rw[hI] at this;exact this
         clear fh hD hI
         go_wp2_with fail
         refine tK.mono ?_
         rintro e w' ⟨rfl,he⟩
         obtain rfl:wr=w':=he.symm
         clear tK
         have Hf:Hid (cO 16 2 ((aI s).drop (k+2)) 0 0=(v,c)):=(aa Hd).trans (by rw[aa nF,o8 (aa HD)])
         by_cases c0:c=0
         ·have Hr:Hid (dU (a::x::(aI s).drop (k+2))=none):=(aa Hv).trans (iY (by rw[aa Hf];exact .inl c0))
          have en:((n:Int)==2)=true:=by have:=aa Hn;simp;omega
          clear c0 Hf Hd hc
          go_wp2
          go_ret2
          exact ez (aa lO) (aa Hr)
         ·have Hr:Hid (dU (a::x::(aI s).drop (k+2))=some (v,n)):=(aa Hv).trans (by rw[aa Hf,nk c0 hv,←aa Hn])
          have en:((n:Int)==2)=false:=by have:=aa Hn;simp;omega
          clear c0 Hf Hd hc
          go_wp2
          go_ret2
          have e9:IntKind.u8.wrap (v:Int)=(v:Int):=by simp[IntKind.wrap,IntKind.bits,IntKind.signed];omega
          first
           |exact bT (aa lO) (aa Hr)
           |(rw[e9];exact bT (aa lO) (aa Hr))
        ·have tK:Calls Tryz.prog 89 #[.int .u8 (y:Int)] wr fun e w=>e=.returned (.int .i64 (d:Int))∧w=wr:=by have:=iN wr y BR;rw[hI] at this;exact this
         have iF:Hid (cO 16 2 ((aI s).drop (k+2)) 0 0=cO 16 (2-(c+1)) ((aI s).drop (q+1)) (v*16+d) (c+1)):=by show _=_;rw[aa Hd,aa nF,show 2-c=(2-(c+1))+1 by omega,oZ hD]
         have EH:Hid (VB 16 (c+1) (v*16+d)):=(aa Hvb).next hd
         have Vq:v*16+d≤255:=Yn (aa EH) (by omega)
         have P4:=ab fh
         clear fh hD hI Hd nF hc
         go_wp2_with fail
         refine tK.mono ?_
         rintro e w' ⟨rfl,he⟩
         obtain rfl:wr=w':=he.symm
         go_wp2_with fail
         refine tK.mono ?_
         rintro e w' ⟨rfl,he⟩
         obtain rfl:wr=w':=he.symm
         clear tK
         go_wp2
         go_roundg (2-(c+1))
         case measure=>have:=aa zp;have:=aa P4;omega
         case rel =>
          have hn:=aa Hn;have hq:=aa Hq;have fh:=aa P4
          refine ⟨c+1,v*16+d,by go_num,by subst hn;go_num,rfl,by omega,Vq,rfl,EH,?_⟩
          have:=aa iF;rw[hq,hn] at this;exact this
       ·have q1:decide (q<s.size)=false:=by simp;omega
        have nF:=ab (FP Oe)
        clear Oe fh
        have Hf:Hid (cO 16 2 ((aI s).drop (k+2)) 0 0=(v,c)):=(aa Hd).trans (by rw[aa nF,y8])
        by_cases c0:c=0
        ·have Hr:Hid (dU (a::x::(aI s).drop (k+2))=none):=(aa Hv).trans (iY (by rw[aa Hf];exact .inl c0))
         have en:((n:Int)==2)=true:=by have:=aa Hn;simp;omega
         clear c0 Hf Hd hc
         go_wp2
         go_ret2
         exact ez (aa lO) (aa Hr)
        ·have Hr:Hid (dU (a::x::(aI s).drop (k+2))=some (v,n)):=(aa Hv).trans (by rw[aa Hf,nk c0 hv,←aa Hn])
         have en:((n:Int)==2)=false:=by have:=aa Hn;simp;omega
         clear c0 Hf Hd hc
         go_wp2
         go_ret2
         have e9:IntKind.u8.wrap (v:Int)=(v:Int):=by simp[IntKind.wrap,IntKind.bits,IntKind.signed];omega
         first
          |exact bT (aa lO) (aa Hr)
          |(rw[e9];exact bT (aa lO) (aa Hr))
      ·have n4:decide ((n:Int)<4)=false:=by have:=aa Hn;simp;omega
       have Hm:Hid (2-c=0):=by show _=_;omega
       clear fh
       have Hf:Hid (cO 16 2 ((aI s).drop (k+2)) 0 0=(v,c)):=(aa Hd).trans (by rw[aa Hm,kM])
       by_cases c0:c=0
       ·have Hr:Hid (dU (a::x::(aI s).drop (k+2))=none):=(aa Hv).trans (iY (by rw[aa Hf];exact .inl c0))
        have en:((n:Int)==2)=true:=by have:=aa Hn;simp;omega
        clear c0 Hf Hd hc
        go_wp2
        go_ret2
        exact ez (aa lO) (aa Hr)
       ·have Hr:Hid (dU (a::x::(aI s).drop (k+2))=some (v,n)):=(aa Hv).trans (by rw[aa Hf,nk c0 hv,←aa Hn])
        have en:((n:Int)==2)=false:=by have:=aa Hn;simp;omega
        clear c0 Hf Hd hc
        go_wp2
        go_ret2
        have e9:IntKind.u8.wrap (v:Int)=(v:Int):=by simp[IntKind.wrap,IntKind.bits,IntKind.signed];omega
        first
         |exact bT (aa lO) (aa Hr)
         |(rw[e9];exact bT (aa lO) (aa Hr))
    ·have f120:=kL (c:=x) (k:=120) (by omega)
     by_cases XN:x=88
     ·have f88:=nn (c:=x) (k:=88) (by omega)
      have Hv:Hid (dU (a::x::(aI s).drop (k+2))=fin (cO 16 2 ((aI s).drop (k+2)) 0 0) 2):=rK Ky (.inr XN)
      clear Ky D4 XN
      go_wp2
      go_loopg [10,11] 2 (fun gk v10 v11 Yj=>∃(c v:Nat),v10=.int .i64 (v:Int)∧v11=.int .i64 ((2+c:Nat):Int)∧gk=2-c∧c≤2∧v≤255∧Yj=wr∧Hid (VB 16 c v)∧Hid (cO 16 2 ((aI s).drop (k+2)) 0 0=cO 16 (2-c) ((aI s).drop (k+(2+c))) v c))
      case atStart=>exact ⟨0,0,rfl,rfl,rfl,by omega,by omega,rfl,by show 0<16 ^ 0;decide,rfl⟩
      case round =>
       obtain ⟨c,v,rfl,rfl,ou,hc,hv,rfl,Hvb,Hd⟩:=hrel
       obtain ⟨n,hn⟩:∃n,n=2+c:=⟨_,rfl⟩
       obtain ⟨q,hq⟩:∃q,q=k+n:=⟨_,rfl⟩
       rw[←hn] at Hd ⊢
       rw[←hq] at Hd
       have kl:(k:Int)+(n:Int)=(q:Int):=by omega
       have q0:(0:Int)≤(q:Int):=zH _
       have hnF:2≤n:=by omega
       have hn4:n≤4:=by omega
       have Hn:=ab hn
       have Hq:=ab hq
       have zp:=ab ou
       clear ou hn hq
       by_cases fh:c<2
       ·have n4:decide ((n:Int)<4)=true:=by have:=aa Hn;simp;omega
        by_cases Oe:q<s.size
        ·obtain ⟨y,hy,BR,gy⟩:=cS s q Oe
         have q1:(q:Int)<(s.size:Int):=by omega
         have nF:=ab (mM hy)
         clear hy
         rcases @Ix y with ⟨hI,hD⟩|⟨d,hI,hD,hd⟩
         ·have P4:=ab fh
          have HD:=ab hD
          have tK:Calls Tryz.prog 89 #[.int .u8 (y:Int)] wr fun e w=>e=.returned (.int .i64 (-1))∧w=wr:=by have:=iN wr y BR;rw[hI] at this;exact this
          clear fh hD hI
          go_wp2_with fail
          refine tK.mono ?_
          rintro e w' ⟨rfl,he⟩
          obtain rfl:wr=w':=he.symm
          clear tK
          have Hf:Hid (cO 16 2 ((aI s).drop (k+2)) 0 0=(v,c)):=(aa Hd).trans (by rw[aa nF,o8 (aa HD)])
          by_cases c0:c=0
          ·have Hr:Hid (dU (a::x::(aI s).drop (k+2))=none):=(aa Hv).trans (iY (by rw[aa Hf];exact .inl c0))
           have en:((n:Int)==2)=true:=by have:=aa Hn;simp;omega
           clear c0 Hf Hd hc
           go_wp2
           go_ret2
           exact ez (aa lO) (aa Hr)
          ·have Hr:Hid (dU (a::x::(aI s).drop (k+2))=some (v,n)):=(aa Hv).trans (by rw[aa Hf,nk c0 hv,←aa Hn])
           have en:((n:Int)==2)=false:=by have:=aa Hn;simp;omega
           clear c0 Hf Hd hc
           go_wp2
           go_ret2
           have e9:IntKind.u8.wrap (v:Int)=(v:Int):=by simp[IntKind.wrap,IntKind.bits,IntKind.signed];omega
           first
            |exact bT (aa lO) (aa Hr)
            |(rw[e9];exact bT (aa lO) (aa Hr))
         ·have tK:Calls Tryz.prog 89 #[.int .u8 (y:Int)] wr fun e w=>e=.returned (.int .i64 (d:Int))∧w=wr:=by have:=iN wr y BR;rw[hI] at this;exact this
          have iF:Hid (cO 16 2 ((aI s).drop (k+2)) 0 0=cO 16 (2-(c+1)) ((aI s).drop (q+1)) (v*16+d) (c+1)):=by show _=_;rw[aa Hd,aa nF,show 2-c=(2-(c+1))+1 by omega,oZ hD]
          have EH:Hid (VB 16 (c+1) (v*16+d)):=(aa Hvb).next hd
          have Vq:v*16+d≤255:=Yn (aa EH) (by omega)
          have P4:=ab fh
          clear fh hD hI Hd nF hc
          go_wp2_with fail
          refine tK.mono ?_
          rintro e w' ⟨rfl,he⟩
          obtain rfl:wr=w':=he.symm
          go_wp2_with fail
          refine tK.mono ?_
          rintro e w' ⟨rfl,he⟩
          obtain rfl:wr=w':=he.symm
          clear tK
          go_wp2
          go_roundg (2-(c+1))
          case measure=>have:=aa zp;have:=aa P4;omega
          case rel =>
           have hn:=aa Hn;have hq:=aa Hq;have fh:=aa P4
           refine ⟨c+1,v*16+d,by go_num,by subst hn;go_num,rfl,by omega,Vq,rfl,EH,?_⟩
           have:=aa iF;rw[hq,hn] at this;exact this
        ·have q1:decide (q<s.size)=false:=by simp;omega
         have nF:=ab (FP Oe)
         clear Oe fh
         have Hf:Hid (cO 16 2 ((aI s).drop (k+2)) 0 0=(v,c)):=(aa Hd).trans (by rw[aa nF,y8])
         by_cases c0:c=0
         ·have Hr:Hid (dU (a::x::(aI s).drop (k+2))=none):=(aa Hv).trans (iY (by rw[aa Hf];exact .inl c0))
          have en:((n:Int)==2)=true:=by have:=aa Hn;simp;omega
          clear c0 Hf Hd hc
          go_wp2
          go_ret2
          exact ez (aa lO) (aa Hr)
         ·have Hr:Hid (dU (a::x::(aI s).drop (k+2))=some (v,n)):=(aa Hv).trans (by rw[aa Hf,nk c0 hv,←aa Hn])
          have en:((n:Int)==2)=false:=by have:=aa Hn;simp;omega
          clear c0 Hf Hd hc
          go_wp2
          go_ret2
          have e9:IntKind.u8.wrap (v:Int)=(v:Int):=by simp[IntKind.wrap,IntKind.bits,IntKind.signed];omega
          first
           |exact bT (aa lO) (aa Hr)
           |(rw[e9];exact bT (aa lO) (aa Hr))
       ·have n4:decide ((n:Int)<4)=false:=by have:=aa Hn;simp;omega
        have Hm:Hid (2-c=0):=by show _=_;omega
        clear fh
        have Hf:Hid (cO 16 2 ((aI s).drop (k+2)) 0 0=(v,c)):=(aa Hd).trans (by rw[aa Hm,kM])
        by_cases c0:c=0
        ·have Hr:Hid (dU (a::x::(aI s).drop (k+2))=none):=(aa Hv).trans (iY (by rw[aa Hf];exact .inl c0))
         have en:((n:Int)==2)=true:=by have:=aa Hn;simp;omega
         clear c0 Hf Hd hc
         go_wp2
         go_ret2
         exact ez (aa lO) (aa Hr)
        ·have Hr:Hid (dU (a::x::(aI s).drop (k+2))=some (v,n)):=(aa Hv).trans (by rw[aa Hf,nk c0 hv,←aa Hn])
         have en:((n:Int)==2)=false:=by have:=aa Hn;simp;omega
         clear c0 Hf Hd hc
         go_wp2
         go_ret2
         have e9:IntKind.u8.wrap (v:Int)=(v:Int):=by simp[IntKind.wrap,IntKind.bits,IntKind.signed];omega
         first
          |exact bT (aa lO) (aa Hr)
          |(rw[e9];exact bT (aa lO) (aa Hr))
     ·have f88:=kL (c:=x) (k:=88) (by omega)
      have Oc:x::(aI s).drop (k+2)=(aI s).drop (k+1):=by have h9:=mM (aa Hx);rw[aa Hj] at h9;exact h9.symm
      have Hr1:=ab Oc
      clear Oc
      have Hv:Hid (dU (a::x::(aI s).drop (k+2))=fin (cO 8 3 ((aI s).drop (k+1)) 0 0) 1):=(Eb Ky (by omega)).trans (by rw[aa Hr1])
      clear Ky D4 XN
      go_wp2
      go_loopg [12,13] 3 (fun gk v10 v11 Yj=>∃(c v:Nat),v10=.int .i64 (v:Int)∧v11=.int .i64 ((1+c:Nat):Int)∧gk=3-c∧c≤3∧v≤511∧Yj=wr∧Hid (VB 8 c v)∧Hid (cO 8 3 ((aI s).drop (k+1)) 0 0=cO 8 (3-c) ((aI s).drop (k+(1+c))) v c))
      case atStart=>exact ⟨0,0,rfl,rfl,rfl,by omega,by omega,rfl,by show 0<8 ^ 0;decide,rfl⟩
      case round =>
       obtain ⟨c,v,rfl,rfl,ou,hc,hv,rfl,Hvb,Hd⟩:=hrel
       obtain ⟨n,hn⟩:∃n,n=1+c:=⟨_,rfl⟩
       obtain ⟨q,hq⟩:∃q,q=k+n:=⟨_,rfl⟩
       rw[←hn] at Hd ⊢
       rw[←hq] at Hd
       have kl:(k:Int)+(n:Int)=(q:Int):=by omega
       have q0:(0:Int)≤(q:Int):=zH _
       have hnF:1≤n:=by omega
       have hn4:n≤4:=by omega
       have Hn:=ab hn
       have Hq:=ab hq
       have zp:=ab ou
       clear ou hn hq
       by_cases fh:c<3
       ·have n4:decide ((n:Int)<4)=true:=by have:=aa Hn;simp;omega
        by_cases Oe:q<s.size
        ·obtain ⟨y,hy,BR,gy⟩:=cS s q Oe
         have q1:(q:Int)<(s.size:Int):=by omega
         have nF:=ab (mM hy)
         clear hy
         by_cases hD:pJ 8 y≠none
         ·obtain ⟨hD2,y1,y2⟩:=NP hD
          have iF:Hid (cO 8 3 ((aI s).drop (k+1)) 0 0=cO 8 (3-(c+1)) ((aI s).drop (q+1)) (v*8+(y-48)) (c+1)):=by show _=_;rw[aa Hd,aa nF,show 3-c=(3-(c+1))+1 by omega,oZ hD2]
          have EH:Hid (VB 8 (c+1) (v*8+(y-48))):=(aa Hvb).next (by omega)
          have Xu:v*8+(y-48)≤511:=vb8 (aa EH) (by omega)
          have HD:=ab hD
          have P4:=ab fh
          clear fh hD hD2 Hd nF hc
          go_wp2_with fail
          refine (G7 wr y BR).mono ?_
          rintro e w' ⟨b,rfl,he,hb⟩
          obtain rfl:wr=w':=he.symm
          obtain rfl:b=true:=hb.2 (aa HD)
          clear hb
          go_wp2
          go_roundg (3-(c+1))
          case measure=>have:=aa zp;have:=aa P4;omega
          case rel =>
           have hn:=aa Hn;have hq:=aa Hq;have fh:=aa P4
           refine ⟨c+1,v*8+(y-48),by go_num,by subst hn;go_num,rfl,by omega,Xu,rfl,EH,?_⟩
           have:=aa iF;rw[hq,hn] at this;exact this
         ·have HD:=ab (Classical.not_not.1 hD)
          have P4:=ab fh
          have HnD:=ab hD
          clear fh hD
          go_wp2_with fail
          refine (G7 wr y BR).mono ?_
          rintro e w' ⟨b,rfl,he,hb⟩
          obtain rfl:wr=w':=he.symm
          obtain rfl:b=false:=by cases b with|false=>rfl|true=>exact absurd (hb.1 rfl) (aa HnD)
          clear hb
          have Hf:Hid (cO 8 3 ((aI s).drop (k+1)) 0 0=(v,c)):=(aa Hd).trans (by rw[aa nF,o8 (aa HD)])
          by_cases c0:c=0∨255<v
          ·have Hr:Hid (dU (a::x::(aI s).drop (k+2))=none):=(aa Hv).trans (iY (by rw[aa Hf];exact c0))
           rcases c0 with c0|c0
           ·have en:((n:Int)==1)=true:=by have:=aa Hn;simp;omega
            clear c0 Hf Hd hc
            go_wp2
            go_ret2
            exact ez (aa lO) (aa Hr)
           ·by_cases c1:c=0
            ·have en:((n:Int)==1)=true:=by have:=aa Hn;simp;omega
             clear c0 c1 Hf Hd hc
             go_wp2
             go_ret2
             exact ez (aa lO) (aa Hr)
            ·have en:((n:Int)==1)=false:=by have:=aa Hn;simp;omega
             have ev:decide ((255:Int)<(v:Int))=true:=by simp;omega
             clear c0 c1 Hf Hd hc
             go_wp2
             go_ret2
             exact ez (aa lO) (aa Hr)
          ·obtain ⟨c0,c1⟩:=not_or.1 c0
           have Hr:Hid (dU (a::x::(aI s).drop (k+2))=some (v,n)):=(aa Hv).trans (by rw[aa Hf,nk c0 (by omega),←aa Hn])
           have ev:decide ((255:Int)<(v:Int))=false:=by simp;omega
           have zz:v≤255:=by omega
           clear c1
           have en:((n:Int)==1)=false:=by have:=aa Hn;simp;omega
           clear c0 Hf Hd hc
           go_wp2
           go_ret2
           have e9:IntKind.u8.wrap (v:Int)=(v:Int):=by simp[IntKind.wrap,IntKind.bits,IntKind.signed];omega
           first
            |exact bT (aa lO) (aa Hr)
            |(rw[e9];exact bT (aa lO) (aa Hr))
        ·have q1:decide (q<s.size)=false:=by simp;omega
         have nF:=ab (FP Oe)
         clear Oe fh
         have Hf:Hid (cO 8 3 ((aI s).drop (k+1)) 0 0=(v,c)):=(aa Hd).trans (by rw[aa nF,y8])
         by_cases c0:c=0∨255<v
         ·have Hr:Hid (dU (a::x::(aI s).drop (k+2))=none):=(aa Hv).trans (iY (by rw[aa Hf];exact c0))
          rcases c0 with c0|c0
          ·have en:((n:Int)==1)=true:=by have:=aa Hn;simp;omega
           clear c0 Hf Hd hc
           go_wp2
           go_ret2
           exact ez (aa lO) (aa Hr)
          ·by_cases c1:c=0
           ·have en:((n:Int)==1)=true:=by have:=aa Hn;simp;omega
            clear c0 c1 Hf Hd hc
            go_wp2
            go_ret2
            exact ez (aa lO) (aa Hr)
           ·have en:((n:Int)==1)=false:=by have:=aa Hn;simp;omega
            have ev:decide ((255:Int)<(v:Int))=true:=by simp;omega
            clear c0 c1 Hf Hd hc
            go_wp2
            go_ret2
            exact ez (aa lO) (aa Hr)
         ·obtain ⟨c0,c1⟩:=not_or.1 c0
          have Hr:Hid (dU (a::x::(aI s).drop (k+2))=some (v,n)):=(aa Hv).trans (by rw[aa Hf,nk c0 (by omega),←aa Hn])
          have ev:decide ((255:Int)<(v:Int))=false:=by simp;omega
          have zz:v≤255:=by omega
          clear c1
          have en:((n:Int)==1)=false:=by have:=aa Hn;simp;omega
          clear c0 Hf Hd hc
          go_wp2
          go_ret2
          have e9:IntKind.u8.wrap (v:Int)=(v:Int):=by simp[IntKind.wrap,IntKind.bits,IntKind.signed];omega
          first
           |exact bT (aa lO) (aa Hr)
           |(rw[e9];exact bT (aa lO) (aa Hr))
       ·have n4:decide ((n:Int)<4)=false:=by have:=aa Hn;simp;omega
        have Hm:Hid (3-c=0):=by show _=_;omega
        clear fh
        have Hf:Hid (cO 8 3 ((aI s).drop (k+1)) 0 0=(v,c)):=(aa Hd).trans (by rw[aa Hm,kM])
        by_cases c0:c=0∨255<v
        ·have Hr:Hid (dU (a::x::(aI s).drop (k+2))=none):=(aa Hv).trans (iY (by rw[aa Hf];exact c0))
         rcases c0 with c0|c0
         ·have en:((n:Int)==1)=true:=by have:=aa Hn;simp;omega
          clear c0 Hf Hd hc
          go_wp2
          go_ret2
          exact ez (aa lO) (aa Hr)
         ·by_cases c1:c=0
          ·have en:((n:Int)==1)=true:=by have:=aa Hn;simp;omega
           clear c0 c1 Hf Hd hc
           go_wp2
           go_ret2
           exact ez (aa lO) (aa Hr)
          ·have en:((n:Int)==1)=false:=by have:=aa Hn;simp;omega
           have ev:decide ((255:Int)<(v:Int))=true:=by simp;omega
           clear c0 c1 Hf Hd hc
           go_wp2
           go_ret2
           exact ez (aa lO) (aa Hr)
        ·obtain ⟨c0,c1⟩:=not_or.1 c0
         have Hr:Hid (dU (a::x::(aI s).drop (k+2))=some (v,n)):=(aa Hv).trans (by rw[aa Hf,nk c0 (by omega),←aa Hn])
         have ev:decide ((255:Int)<(v:Int))=false:=by simp;omega
         have zz:v≤255:=by omega
         clear c1
         have en:((n:Int)==1)=false:=by have:=aa Hn;simp;omega
         clear c0 Hf Hd hc
         go_wp2
         go_ret2
         have e9:IntKind.u8.wrap (v:Int)=(v:Int):=by simp[IntKind.wrap,IntKind.bits,IntKind.signed];omega
         first
          |exact bT (aa lO) (aa Hr)
          |(rw[e9];exact bT (aa lO) (aa Hr))
 ·have hn:dU ((aI s).drop k)=none:=yY (by rw[List.length_drop,bG];omega)
  have Hn:=ab hn
  have e1:decide ((s.size:Int)≤(k:Int)+1)=true:=by simp;omega
  clear h2 hn
  go_enter Tryz.func90,Tryz.ntmps90
  go_wp2
  go_ret2
  exact ez eK (aa Hn)
end Go.Proofs.YtjophoclfccmcaaGreatDoor

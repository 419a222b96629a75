import Derived.Test.YtjophoclfccmcaaGreatDoorQE
set_option maxHeartbeats 4000000
set_option maxRecDepth 100000
namespace Go.Proofs.YtjophoclfccmcaaGreatDoor
open Go.RowKit
attribute [local go_sem ↓] Go.wp_at_zero Go.wp_at_succ
theorem nn {c:Nat}{k:Int} (h:(c:Int)=k):((c:Int)==k)=true:=by simp;omega
theorem Ml {s:ByteArray} (h:2≤s.size):∃a x r,aI s=a::x::r∧x<256∧∃h1:1<s.size,(s[1]'h1).toNat=x:=by
 obtain ⟨a,ha,_,_⟩:=cS s 0 (by omega)
 obtain ⟨x,hx,eL,gx⟩:=cS s 1 (by omega)
 match hs:aI s with
 |[]=>rw[hs] at ha;simp at ha
 |[_]=>rw[hs] at hx;simp at hx
 |p::q::r =>
  rw[hs] at hx
  obtain rfl:q=x:=by simpa using hx
  exact ⟨p,q,r,rfl,eL,by omega,gx⟩
theorem eZ {a x v:Nat}{r:List Nat} (h:ny x=some v):dU (a::x::r)=some (v,2):=by simp[dU,h]
theorem rK {a x:Nat}{r:List Nat} (h:ny x=none) (h2:x=120∨x=88):dU (a::x::r)=fin (cO 16 2 r 0 0) 2:=by
 simp only[dU,h]
 rw[if_pos h2]
theorem Eb {a x:Nat}{r:List Nat} (h:ny x=none) (h2:¬(x=120∨x=88)):dU (a::x::r)=fin (cO 8 3 (x::r) 0 0) 1:=by
 simp only[dU,h]
 rw[if_neg h2]
theorem yY {l:List Nat} (h:l.length<2):dU l=none:=by
 match l,h with
 |[],_=>rfl
 |[_],_=>rfl
theorem Gq {W:World} (hE:gU W) (s:ByteArray) (hs:s.size≤65536):Calls Tryz.prog 137 #[.string s] W (VN W (dU (aI s))):=by
 have eK:=zE W.heap.size W
 by_cases h2:2≤s.size
 ·have e0:decide ((s.size:Int)<2)=false:=by simp;omega
  obtain ⟨a,x,r,hl,eL,h1,gx⟩:=Ml h2
  rw[hl]
  have Hl:=ab hl
  clear hl
  by_cases Gc:x=97
  ·have Hv:Hid (dU (a::x::r)=some (7,2)):=eZ (by rw[Gc];rfl)
   have f97:=nn (c:=x) (k:=97) (by omega)
   clear Gc h2
   go_enter Tryz.func137,Tryz.ntmps137
   go_wp2
   go_ret2
   exact bT (v:=7) (n:=2) eK (aa Hv)
  have f97:=kL (c:=x) (k:=97) (by omega)
  by_cases IK:x=98
  ·have Hv:Hid (dU (a::x::r)=some (8,2)):=eZ (by rw[IK];rfl)
   have f98:=nn (c:=x) (k:=98) (by omega)
   clear IK h2 Gc
   go_enter Tryz.func137,Tryz.ntmps137
   go_wp2
   go_ret2
   exact bT (v:=8) (n:=2) eK (aa Hv)
  have f98:=kL (c:=x) (k:=98) (by omega)
  by_cases sQ:x=102
  ·have Hv:Hid (dU (a::x::r)=some (12,2)):=eZ (by rw[sQ];rfl)
   have f102:=nn (c:=x) (k:=102) (by omega)
   clear sQ h2 Gc IK
   go_enter Tryz.func137,Tryz.ntmps137
   go_wp2
   go_ret2
   exact bT (v:=12) (n:=2) eK (aa Hv)
  have f102:=kL (c:=x) (k:=102) (by omega)
  by_cases uo:x=110
  ·have Hv:Hid (dU (a::x::r)=some (10,2)):=eZ (by rw[uo];rfl)
   have f110:=nn (c:=x) (k:=110) (by omega)
   clear uo h2 Gc IK sQ
   go_enter Tryz.func137,Tryz.ntmps137
   go_wp2
   go_ret2
   exact bT (v:=10) (n:=2) eK (aa Hv)
  have f110:=kL (c:=x) (k:=110) (by omega)
  by_cases yT:x=114
  ·have Hv:Hid (dU (a::x::r)=some (13,2)):=eZ (by rw[yT];rfl)
   have f114:=nn (c:=x) (k:=114) (by omega)
   clear yT h2 Gc IK sQ uo
   go_enter Tryz.func137,Tryz.ntmps137
   go_wp2
   go_ret2
   exact bT (v:=13) (n:=2) eK (aa Hv)
  have f114:=kL (c:=x) (k:=114) (by omega)
  by_cases Ah:x=116
  ·have Hv:Hid (dU (a::x::r)=some (9,2)):=eZ (by rw[Ah];rfl)
   have f116:=nn (c:=x) (k:=116) (by omega)
   clear Ah h2 Gc IK sQ uo yT
   go_enter Tryz.func137,Tryz.ntmps137
   go_wp2
   go_ret2
   exact bT (v:=9) (n:=2) eK (aa Hv)
  have f116:=kL (c:=x) (k:=116) (by omega)
  by_cases BZ:x=118
  ·have Hv:Hid (dU (a::x::r)=some (11,2)):=eZ (by rw[BZ];rfl)
   have f118:=nn (c:=x) (k:=118) (by omega)
   clear BZ h2 Gc IK sQ uo yT Ah
   go_enter Tryz.func137,Tryz.ntmps137
   go_wp2
   go_ret2
   exact bT (v:=11) (n:=2) eK (aa Hv)
  have f118:=kL (c:=x) (k:=118) (by omega)
  by_cases VW:x=92
  ·have Hv:Hid (dU (a::x::r)=some (x,2)):=eZ (by rw[VW];rfl)
   have f92:=nn (c:=x) (k:=92) (by omega)
   clear VW h2 Gc IK sQ uo yT Ah BZ
   go_enter Tryz.func137,Tryz.ntmps137
   go_wp2
   go_ret2
   exact bT (v:=x) (n:=2) eK (aa Hv)
  have f92:=kL (c:=x) (k:=92) (by omega)
  by_cases KL:x=39
  ·have Hv:Hid (dU (a::x::r)=some (x,2)):=eZ (by rw[KL];rfl)
   have f39:=nn (c:=x) (k:=39) (by omega)
   clear KL h2 Gc IK sQ uo yT Ah BZ VW
   go_enter Tryz.func137,Tryz.ntmps137
   go_wp2
   go_ret2
   exact bT (v:=x) (n:=2) eK (aa Hv)
  have f39:=kL (c:=x) (k:=39) (by omega)
  by_cases h34:x=34
  ·have Hv:Hid (dU (a::x::r)=some (x,2)):=eZ (by rw[h34];rfl)
   have f34:=nn (c:=x) (k:=34) (by omega)
   clear h34 h2 Gc IK sQ uo yT Ah BZ VW KL
   go_enter Tryz.func137,Tryz.ntmps137
   go_wp2
   go_ret2
   exact bT (v:=x) (n:=2) eK (aa Hv)
  have f34:=kL (c:=x) (k:=34) (by omega)
  have Ky:ny x=none:=by unfold ny;rw[if_neg Gc,if_neg IK,if_neg sQ,if_neg uo,if_neg yT,if_neg Ah,if_neg BZ,if_neg (by omega)]
  by_cases D4:x=120
  ·have hv:dU (a::x::r)=fin (cO 16 2 ((aI s).drop 2) 0 0) 2:=by rw[aa Hl];exact rK Ky (by omega)
   rw[hv]
   have f120:=nn (c:=x) (k:=120) (by omega)
   clear hv Ky D4 Gc IK sQ uo yT Ah BZ VW KL h34
   go_enter Tryz.func137,Tryz.ntmps137
   go_wp2_with fail
   refine (zi hE s hs h2).mono ?_
   rintro e w1 ⟨bQ,⟨ho,rfl⟩|⟨v,n,ho,rfl⟩⟩
   ·have Hb:=ab bQ
    have Ho:=ab ho
    clear bQ ho h2
    go_wp2
    go_ret2
    exact ez (aa Hb) (aa Ho)
   ·have Hb:=ab bQ
    have Ho:=ab ho
    clear bQ ho h2
    go_wp2
    go_ret2
    exact bT (aa Hb) (aa Ho)
  have f120:=kL (c:=x) (k:=120) (by omega)
  by_cases XN:x=88
  ·have hv:dU (a::x::r)=fin (cO 16 2 ((aI s).drop 2) 0 0) 2:=by rw[aa Hl];exact rK Ky (by omega)
   rw[hv]
   have f88:=nn (c:=x) (k:=88) (by omega)
   clear hv Ky XN Gc IK sQ uo yT Ah BZ VW KL h34 D4
   go_enter Tryz.func137,Tryz.ntmps137
   go_wp2_with fail
   refine (zi hE s hs h2).mono ?_
   rintro e w1 ⟨bQ,⟨ho,rfl⟩|⟨v,n,ho,rfl⟩⟩
   ·have Hb:=ab bQ
    have Ho:=ab ho
    clear bQ ho h2
    go_wp2
    go_ret2
    exact ez (aa Hb) (aa Ho)
   ·have Hb:=ab bQ
    have Ho:=ab ho
    clear bQ ho h2
    go_wp2
    go_ret2
    exact bT (aa Hb) (aa Ho)
  have f88:=kL (c:=x) (k:=88) (by omega)
  have hv:dU (a::x::r)=fin (cO 8 3 ((aI s).drop 1) 0 0) 1:=by rw[aa Hl];exact Eb Ky (by omega)
  rw[hv]
  clear hv Ky Gc IK sQ uo yT Ah BZ VW KL h34 D4 XN
  go_enter Tryz.func137,Tryz.ntmps137
  go_wp2_with fail
  refine (GP hE s hs (by omega)).mono ?_
  rintro e w1 ⟨bQ,⟨ho,rfl⟩|⟨v,n,ho,rfl⟩⟩
  ·have Hb:=ab bQ
   have Ho:=ab ho
   clear bQ ho h2
   go_wp2
   go_ret2
   exact ez (aa Hb) (aa Ho)
  ·have Hb:=ab bQ
   have Ho:=ab ho
   clear bQ ho h2
   go_wp2
   go_ret2
   exact bT (aa Hb) (aa Ho)
 ·have e0:decide ((s.size:Int)<2)=true:=by simp;omega
  have Hv:Hid (dU (aI s)=none):=yY (by rw[bG];omega)
  clear h2
  go_enter Tryz.func137,Tryz.ntmps137
  go_wp2
  go_ret2
  exact ez eK (aa Hv)
theorem J2 {W:World} (hE:gU W) (s:ByteArray) (h0:0<s.size) (hs:s.size≤65536):Calls Tryz.prog 117 #[.string s] W (VN W (dG s 0)):=by
 have eK:=zE W.heap.size W
 obtain ⟨x,hx⟩:∃x:Nat,s[0].toNat=x:=⟨_,rfl⟩
 have oU:aE s 0=x:=(fb s 0 h0).trans hx
 have eL:x<256:=by rw[←oU];exact iD s 0
 have hp:dG s 0=if x=0∨x=10 then none else if x=92 then dU (aI s) else some (x,1):=by unfold dG;rw[oU];rfl
 rw[hp]
 clear hp oU
 by_cases c0:x=0
 ·rw[if_pos (.inl c0)]
  have f0:=nn (c:=x) (k:=0) (by omega)
  clear c0
  go_enter Tryz.func117,Tryz.ntmps117
  go_wp2
  go_ret2
  exact ez eK rfl
 have f0:=kL (c:=x) (k:=0) (by omega)
 by_cases c1:x=10
 ·rw[if_pos (.inr c1)]
  have f1:=nn (c:=x) (k:=10) (by omega)
  clear c0 c1
  go_enter Tryz.func117,Tryz.ntmps117
  go_wp2
  go_ret2
  exact ez eK rfl
 have f1:=kL (c:=x) (k:=10) (by omega)
 by_cases c2:x=92
 ·rw[if_neg (by omega),if_pos c2]
  have f2:=nn (c:=x) (k:=92) (by omega)
  clear c0 c1 c2
  go_enter Tryz.func117,Tryz.ntmps117
  go_wp2_with fail
  refine (Gq hE s hs).mono ?_
  rintro e w1 ⟨bQ,⟨ho,rfl⟩|⟨v,n,ho,rfl⟩⟩
  ·have Hb:=ab bQ
   have Ho:=ab ho
   clear bQ ho
   go_wp2
   go_ret2
   exact ez (aa Hb) (aa Ho)
  ·have Hb:=ab bQ
   have Ho:=ab ho
   clear bQ ho
   go_wp2
   go_ret2
   exact bT (aa Hb) (aa Ho)
 have f2:=kL (c:=x) (k:=92) (by omega)
 rw[if_neg (by omega),if_neg c2]
 clear c0 c1 c2
 go_enter Tryz.func117,Tryz.ntmps117
 go_wp2
 go_ret2
 exact bT (v:=x) (n:=1) eK rfl
theorem Aa {c:Nat}{k:Int} (h:k≤(c:Int)):decide ((c:Int)<k)=false:=by simp;omega
theorem abn {c:Nat}{k:Int} (h:(c:Int)<k):decide ((c:Int)<k)=true:=by simp;omega
theorem eqT {c:Nat}{k:Int} (h:(c:Int)=k):((c:Int)==k)=true:=by simp;omega
theorem NJ {s:ByteArray}{k c lo hi i y:Nat}{L H:Int} (q:jC s k c lo hi) (i1:1≤i) (hic:i<1+c) (hb:aE s (k+i)=y) (hL:L=if i=1 then (lo:Int) else 128) (hH:H=if i=1 then (hi:Int) else 191):L≤(y:Int)∧(y:Int)≤H:=by
 have q1:=q.2 i i1 hic
 rw[hb] at q1
 by_cases h:i=1
 ·rw[if_pos h] at hL hH
  rw[if_pos h,if_pos h] at q1
  omega
 ·rw[if_neg h] at hL hH
  rw[if_neg h,if_neg h] at q1
  omega
theorem NI {s:ByteArray}{k lo hi i y:Nat}{L H:Int} (hb:aE s (k+i)=y) (hL:L=if i=1 then (lo:Int) else 128) (hH:H=if i=1 then (hi:Int) else 191) (h1:L≤(y:Int)) (h2:(y:Int)≤H)
  (ij:∀j,1≤j→j<i→(if j=1 then lo else 128)≤aE s (k+j)∧aE s (k+j)≤(if j=1 then hi else 191)) :
  ∀j,1≤j→j<i+1→(if j=1 then lo else 128)≤aE s (k+j)∧aE s (k+j)≤(if j=1 then hi else 191):=by
 intro j j1 j2
 by_cases hj:j=i
 ·subst hj
  rw[hb]
  by_cases h:j=1
  ·rw[if_pos h] at hL hH
   rw[if_pos h,if_pos h]
   omega
  ·rw[if_neg h] at hL hH
   rw[if_neg h,if_neg h]
   omega
 ·exact ij j j1 (by omega)
theorem Gn (W:World) (s:ByteArray) (k:Nat) (hk:k<s.size) (hs:s.size≤140737488351232) :
  Calls Tryz.prog 50 #[.string s,.int .i64 (k:Int)] W fun e w=>e=.returned (.int .i64 (iI s k:Int))∧w=W:=by
 obtain ⟨x,hx⟩:∃x:Nat,s[k].toNat=x:=⟨_,rfl⟩
 have oU:aE s k=x:=(fb s k hk).trans hx
 have eL:x<256:=by rw[←oU];exact iD s k
 have k0:(0:Int)≤(k:Int):=zH _
 have k1:(k:Int)<(s.size:Int):=by omega
 have GX:=ab oU
 clear oU
 go_enter Tryz.func50,Tryz.ntmps50
 go_upto_block 0 with fail
 go_cut [6,7,8] from 15 to 46 (fun v6 v7 v8 wc=>∃c lo hi:Nat,v6=.int .i64 (((c+1:Nat):Int))∧v7=.int .i64 (lo:Int)∧v8=.int .i64 (hi:Int)∧wc=W∧1≤c∧c≤3∧lo≤255∧hi≤255∧Hid (oW x=some (c,lo,hi)))
 case first =>
  have eP:x<128∨(128≤x∧x<194)∨(194≤x∧x<224)∨x=224∨(225≤x∧x<237)∨x=237∨(238≤x∧x<240)∨x=240∨(241≤x∧x<244)∨x=244∨245≤x:=by omega
  rcases eP with hc|hc|hc|hc|hc|hc|hc|hc|hc|hc|hc
  ·have b0:=abn (c:=x) (k:=128) (by omega)
   have hf:oW x=some (0,0,0):=by unfold oW;rw[if_pos (by omega)]
   have pN:iI s k=1:=xD (c:=0) (by rw[aa GX];exact hf) ⟨by omega,fun j j1 j2=>by omega⟩
   have Hc:=ab pN
   clear pN
   clear hf
   go_wp2
   go_ret
   exact ⟨by rw[aa Hc];rfl,rfl⟩
  ·have b0:=Aa (c:=x) (k:=128) (by omega);have b1:=nj (c:=x) (k:=194) (by omega);have b2:=nj (c:=x) (k:=224) (by omega);have b3:=nj (c:=x) (k:=240) (by omega)
   have hf:oW x=none:=by unfold oW;repeat' (first|rw[if_neg (by omega)]|rw[if_pos (by omega)])
   have Hc:Hid (iI s k=0):=pc (by rw[aa GX];exact hf)
   clear hf
   go_wp2
   go_ret
   exact ⟨by rw[aa Hc];rfl,rfl⟩
  ·have b0:=Aa (c:=x) (k:=128) (by omega);have b1:=gd (c:=x) (k:=194) (by omega);have b2:=DK (c:=x) (k:=223) (by omega)
   have hf:oW x=some (1,128,191):=by unfold oW;repeat' (first|rw[if_neg (by omega)]|rw[if_pos (by omega)])
   have Hf:=ab hf
   clear hf
   go_wp2
   go_meet
   case rel=>exact ⟨1,128,191,rfl,rfl,rfl,rfl,by omega,by omega,by omega,by omega,Hf⟩
  ·have b0:=Aa (c:=x) (k:=128) (by omega);have b1:=gd (c:=x) (k:=194) (by omega);have b2:=jI (c:=x) (k:=223) (by omega);have b3:=gd (c:=x) (k:=224) (by omega);have b4:=DK (c:=x) (k:=239) (by omega);have b5:=eqT (c:=x) (k:=224) (by omega);have b6:=kL (c:=x) (k:=237) (by omega)
   have hf:oW x=some (2,160,191):=by unfold oW;repeat' (first|rw[if_neg (by omega)]|rw[if_pos (by omega)])
   have Hf:=ab hf
   clear hf
   go_wp2
   go_meet
   case rel=>exact ⟨2,160,191,rfl,rfl,rfl,rfl,by omega,by omega,by omega,by omega,Hf⟩
  ·have b0:=Aa (c:=x) (k:=128) (by omega);have b1:=gd (c:=x) (k:=194) (by omega);have b2:=jI (c:=x) (k:=223) (by omega);have b3:=gd (c:=x) (k:=224) (by omega);have b4:=DK (c:=x) (k:=239) (by omega);have b5:=kL (c:=x) (k:=224) (by omega);have b6:=kL (c:=x) (k:=237) (by omega)
   have hf:oW x=some (2,128,191):=by unfold oW;repeat' (first|rw[if_neg (by omega)]|rw[if_pos (by omega)])
   have Hf:=ab hf
   clear hf
   go_wp2
   go_meet
   case rel=>exact ⟨2,128,191,rfl,rfl,rfl,rfl,by omega,by omega,by omega,by omega,Hf⟩
  ·have b0:=Aa (c:=x) (k:=128) (by omega);have b1:=gd (c:=x) (k:=194) (by omega);have b2:=jI (c:=x) (k:=223) (by omega);have b3:=gd (c:=x) (k:=224) (by omega);have b4:=DK (c:=x) (k:=239) (by omega);have b5:=kL (c:=x) (k:=224) (by omega);have b6:=eqT (c:=x) (k:=237) (by omega)
   have hf:oW x=some (2,128,159):=by unfold oW;repeat' (first|rw[if_neg (by omega)]|rw[if_pos (by omega)])
   have Hf:=ab hf
   clear hf
   go_wp2
   go_meet
   case rel=>exact ⟨2,128,159,rfl,rfl,rfl,rfl,by omega,by omega,by omega,by omega,Hf⟩
  ·have b0:=Aa (c:=x) (k:=128) (by omega);have b1:=gd (c:=x) (k:=194) (by omega);have b2:=jI (c:=x) (k:=223) (by omega);have b3:=gd (c:=x) (k:=224) (by omega);have b4:=DK (c:=x) (k:=239) (by omega);have b5:=kL (c:=x) (k:=224) (by omega);have b6:=kL (c:=x) (k:=237) (by omega)
   have hf:oW x=some (2,128,191):=by unfold oW;repeat' (first|rw[if_neg (by omega)]|rw[if_pos (by omega)])
   have Hf:=ab hf
   clear hf
   go_wp2
   go_meet
   case rel=>exact ⟨2,128,191,rfl,rfl,rfl,rfl,by omega,by omega,by omega,by omega,Hf⟩
  ·have b0:=Aa (c:=x) (k:=128) (by omega);have b1:=gd (c:=x) (k:=194) (by omega);have b2:=jI (c:=x) (k:=223) (by omega);have b3:=gd (c:=x) (k:=224) (by omega);have b4:=jI (c:=x) (k:=239) (by omega);have b5:=gd (c:=x) (k:=240) (by omega);have b6:=DK (c:=x) (k:=244) (by omega);have b7:=eqT (c:=x) (k:=240) (by omega);have b8:=kL (c:=x) (k:=244) (by omega)
   have hf:oW x=some (3,144,191):=by unfold oW;repeat' (first|rw[if_neg (by omega)]|rw[if_pos (by omega)])
   have Hf:=ab hf
   clear hf
   go_wp2
   go_meet
   case rel=>exact ⟨3,144,191,rfl,rfl,rfl,rfl,by omega,by omega,by omega,by omega,Hf⟩
  ·have b0:=Aa (c:=x) (k:=128) (by omega);have b1:=gd (c:=x) (k:=194) (by omega);have b2:=jI (c:=x) (k:=223) (by omega);have b3:=gd (c:=x) (k:=224) (by omega);have b4:=jI (c:=x) (k:=239) (by omega);have b5:=gd (c:=x) (k:=240) (by omega);have b6:=DK (c:=x) (k:=244) (by omega);have b7:=kL (c:=x) (k:=240) (by omega);have b8:=kL (c:=x) (k:=244) (by omega)
   have hf:oW x=some (3,128,191):=by unfold oW;repeat' (first|rw[if_neg (by omega)]|rw[if_pos (by omega)])
   have Hf:=ab hf
   clear hf
   go_wp2
   go_meet
   case rel=>exact ⟨3,128,191,rfl,rfl,rfl,rfl,by omega,by omega,by omega,by omega,Hf⟩
  ·have b0:=Aa (c:=x) (k:=128) (by omega);have b1:=gd (c:=x) (k:=194) (by omega);have b2:=jI (c:=x) (k:=223) (by omega);have b3:=gd (c:=x) (k:=224) (by omega);have b4:=jI (c:=x) (k:=239) (by omega);have b5:=gd (c:=x) (k:=240) (by omega);have b6:=DK (c:=x) (k:=244) (by omega);have b7:=kL (c:=x) (k:=240) (by omega);have b8:=eqT (c:=x) (k:=244) (by omega)
   have hf:oW x=some (3,128,143):=by unfold oW;repeat' (first|rw[if_neg (by omega)]|rw[if_pos (by omega)])
   have Hf:=ab hf
   clear hf
   go_wp2
   go_meet
   case rel=>exact ⟨3,128,143,rfl,rfl,rfl,rfl,by omega,by omega,by omega,by omega,Hf⟩
  ·have b0:=Aa (c:=x) (k:=128) (by omega);have b1:=gd (c:=x) (k:=194) (by omega);have b2:=jI (c:=x) (k:=223) (by omega);have b3:=gd (c:=x) (k:=224) (by omega);have b4:=jI (c:=x) (k:=239) (by omega);have b5:=gd (c:=x) (k:=240) (by omega);have b6:=jI (c:=x) (k:=244) (by omega)
   have hf:oW x=none:=by unfold oW;repeat' (first|rw[if_neg (by omega)]|rw[if_pos (by omega)])
   have Hc:Hid (iI s k=0):=pc (by rw[aa GX];exact hf)
   clear hf
   go_wp2
   go_ret
   exact ⟨by rw[aa Hc];rfl,rfl⟩
 case rest =>
  obtain ⟨c,lo,hi,rfl,rfl,rfl,rfl,c1,c3,lo1,XB,Hf⟩:=hcut
  obtain ⟨n,hn⟩:∃n,n=c+1:=⟨_,rfl⟩
  rw[←hn]
  have n2:2≤n:=by omega
  have n4:n≤4:=by omega
  have Hn:=ab hn
  clear hn
  have Hfr:Hid (oW (aE s k)=some (c,lo,hi)):=by rw[aa GX];exact aa Hf
  clear Hf GX hx c1 c3
  by_cases ck:k+n≤s.size
  ·have e1:decide ((s.size:Int)<(k:Int)+(n:Int))=false:=by simp;omega
   go_wp2
   go_loopg [7,8,9,10] (n-1) (fun gk v7 v8 v9 _ wr=>∃(i:Nat) (L H:Int),v9=.int .i64 (i:Int)∧v7=.int .i64 L∧v8=.int .i64 H∧L=(if i=1 then (lo:Int) else 128)∧H=(if i=1 then (hi:Int) else 191)∧1≤i∧i≤n∧gk=n-i∧wr=wc∧∀j,1≤j→j<i→(if j=1 then lo else 128)≤aE s (k+j)∧aE s (k+j)≤(if j=1 then hi else 191))
   case atStart=>exact ⟨1,lo,hi,rfl,rfl,rfl,rfl,rfl,zD _,by omega,by omega,rfl,fun j h1 h2=>by omega⟩
   case round =>
    obtain ⟨i,L,H,rfl,rfl,rfl,hL,hH,i1,Qp,eG,rfl,ij⟩:=hrel
    have jw:=ab eG
    have nt:=ab ij
    have HL:=ab hL
    have HH:=ab hH
    clear eG ij hL hH
    by_cases dB:i<n
    ·obtain ⟨j,hj⟩:∃j,j=k+i:=⟨_,rfl⟩
     have hjs:j<s.size:=by omega
     obtain ⟨y,hy⟩:∃y:Nat,(s[j]'hjs).toNat=y:=⟨_,rfl⟩
     have BY:aE s (k+i)=y:=by rw[←hj];exact (fb s j hjs).trans hy
     have BR:y<256:=by rw[←BY];exact iD s _
     have Hby:=ab BY
     have Xt:(k:Int)+(i:Int)=(j:Int):=by omega
     have j0:(0:Int)≤(j:Int):=zH _
     have j1:(j:Int)<(s.size:Int):=by omega
     clear BY hj
     by_cases c1':(y:Int)<L
     ·have b1:decide ((y:Int)<L)=true:=by simp;omega
      have Hc:Hid (iI s k=0):=rT (aa Hfr) (fun q=>by have hn:=aa Hn;have q1:=NJ q i1 (by omega) (aa Hby) (aa HL) (aa HH);omega)
      go_upto_region 28 with fail
      clear Xt hy j0 j1 hjs
      clear c1'
      go_wp2
      go_ret
      exact ⟨by rw[aa Hc];rfl,rfl⟩
     ·have b1:decide ((y:Int)<L)=false:=by simp;omega
      by_cases c2':H<(y:Int)
      ·have b2:decide (H<(y:Int))=true:=by simp;omega
       have Hc:Hid (iI s k=0):=rT (aa Hfr) (fun q=>by have hn:=aa Hn;have q1:=NJ q i1 (by omega) (aa Hby) (aa HL) (aa HH);omega)
       go_upto_region 28 with fail
       clear Xt hy j0 j1 hjs
       clear c1' c2'
       go_wp2
       go_ret
       exact ⟨by rw[aa Hc];rfl,rfl⟩
      ·have b2:decide (H<(y:Int))=false:=by simp;omega
       have iF:Hid (∀j,1≤j→j<i+1→(if j=1 then lo else 128)≤aE s (k+j)∧aE s (k+j)≤(if j=1 then hi else 191)):=NI (aa Hby) (aa HL) (aa HH) (by omega) (by omega) (aa nt)
       go_upto_region 28 with fail
       clear Xt hy j0 j1 hjs
       clear c1' c2'
       go_wp2
       go_roundg (n-(i+1))
       case measure=>have:=aa jw;omega
       case rel=>exact ⟨i+1,128,191,by go_num,rfl,rfl,by rw[if_neg (by omega)],by rw[if_neg (by omega)],by omega,by omega,rfl,rfl,aa iF⟩
    ·obtain rfl:i=n:=by omega
     have Hc:Hid (iI s k=i):=by
      have hn:=aa Hn
      have:=xD (aa Hfr) ⟨by omega,fun j j1 j2=>aa nt j j1 (by omega)⟩
      show iI s k=i
      omega
     go_wp2
     go_ret
     exact ⟨by rw[aa Hc];rfl,rfl⟩
  ·have e1:decide ((s.size:Int)<(k:Int)+(n:Int))=true:=by simp;omega
   have Hc:Hid (iI s k=0):=rT (aa Hfr) (fun q=>by have hn:=aa Hn;have:=q.1;omega)
   go_wp2
   go_ret
   exact ⟨by rw[aa Hc];rfl,rfl⟩
end Go.Proofs.YtjophoclfccmcaaGreatDoor

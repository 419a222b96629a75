import Derived.Test.YtjophoclfccmcaaGreatDoorQE
import Derived.Lib.AppendStr
import Derived.Shelf.Strings.Search3
set_option maxHeartbeats 4000000
set_option maxRecDepth 100000
namespace Go.Proofs.YtjophoclfccmcaaGreatDoor
open Go.RowKit
attribute [local go_sem ↓] Go.wp_at_zero Go.wp_at_succ
theorem ni {c:Nat}{k:Int} (h:(c:Int)=k):((c:Int)==k)=true:=by simp;omega
theorem Mh {s:ByteArray} (h:2≤s.size):∃a x r,aG s=a::x::r∧x<256∧∃h1:1<s.size,(s[1]'h1).toNat=x:=by
 obtain ⟨a,ha,_,_⟩:=cS s 0 (by omega)
 obtain ⟨x,hx,ew,gx⟩:=cS s 1 (by omega)
 match hs:aG s with
 |[]=>rw[hs] at ha;simp at ha
 |[_]=>rw[hs] at hx;simp at hx
 |p::q::r =>
  rw[hs] at hx
  obtain rfl:q=x:=by simpa using hx
  exact ⟨p,q,r,rfl,ew,by omega,gx⟩
theorem fg {a x v:Nat}{r:List Nat} (h:nu x=some v):dZ (a::x::r)=some (v,2):=by simp[dZ,h]
theorem rC {a x:Nat}{r:List Nat} (h:nu x=none) (h2:x=120∨x=88):dZ (a::x::r)=fin (cQ 16 2 r 0 0) 2:=by
 simp only[dZ,h]
 rw[if_pos h2]
theorem Ej {a x:Nat}{r:List Nat} (h:nu x=none) (h2:¬(x=120∨x=88)):dZ (a::x::r)=fin (cQ 8 3 (x::r) 0 0) 1:=by
 simp only[dZ,h]
 rw[if_neg h2]
theorem y8 {l:List Nat} (h:l.length<2):dZ l=none:=by
 match l,h with
 |[],_=>rfl
 |[_],_=>rfl
theorem Gw {W:World} (hE:gW W) (s:ByteArray) (hs:s.size≤65536):Calls Tryz.prog 137 #[.string s] W (VN W (dZ (aG s))):=by
 have eC:=zE W.heap.size W
 by_cases h2:2≤s.size
 ·have e0:decide ((s.size:Int)<2)=false:=by simp;omega
  obtain ⟨a,x,r,hl,ew,h1,gx⟩:=Mh h2
  rw[hl]
  have Hl:=ab hl
  clear hl
  by_cases Gi:x=97
  ·have Hv:Hid (dZ (a::x::r)=some (7,2)):=fg (by rw[Gi];rfl)
   have f97:=ni (c:=x) (k:=97) (by omega)
   clear Gi h2
   go_enter Tryz.func137,Tryz.ntmps137
   go_wp2
   go_ret2
   exact bU (v:=7) (n:=2) eC (aa Hv)
  have f97:=kJ (c:=x) (k:=97) (by omega)
  by_cases IQ:x=98
  ·have Hv:Hid (dZ (a::x::r)=some (8,2)):=fg (by rw[IQ];rfl)
   have f98:=ni (c:=x) (k:=98) (by omega)
   clear IQ h2 Gi
   go_enter Tryz.func137,Tryz.ntmps137
   go_wp2
   go_ret2
   exact bU (v:=8) (n:=2) eC (aa Hv)
  have f98:=kJ (c:=x) (k:=98) (by omega)
  by_cases sN:x=102
  ·have Hv:Hid (dZ (a::x::r)=some (12,2)):=fg (by rw[sN];rfl)
   have f102:=ni (c:=x) (k:=102) (by omega)
   clear sN h2 Gi IQ
   go_enter Tryz.func137,Tryz.ntmps137
   go_wp2
   go_ret2
   exact bU (v:=12) (n:=2) eC (aa Hv)
  have f102:=kJ (c:=x) (k:=102) (by omega)
  by_cases ui:x=110
  ·have Hv:Hid (dZ (a::x::r)=some (10,2)):=fg (by rw[ui];rfl)
   have f110:=ni (c:=x) (k:=110) (by omega)
   clear ui h2 Gi IQ sN
   go_enter Tryz.func137,Tryz.ntmps137
   go_wp2
   go_ret2
   exact bU (v:=10) (n:=2) eC (aa Hv)
  have f110:=kJ (c:=x) (k:=110) (by omega)
  by_cases yW:x=114
  ·have Hv:Hid (dZ (a::x::r)=some (13,2)):=fg (by rw[yW];rfl)
   have f114:=ni (c:=x) (k:=114) (by omega)
   clear yW h2 Gi IQ sN ui
   go_enter Tryz.func137,Tryz.ntmps137
   go_wp2
   go_ret2
   exact bU (v:=13) (n:=2) eC (aa Hv)
  have f114:=kJ (c:=x) (k:=114) (by omega)
  by_cases Ai:x=116
  ·have Hv:Hid (dZ (a::x::r)=some (9,2)):=fg (by rw[Ai];rfl)
   have f116:=ni (c:=x) (k:=116) (by omega)
   clear Ai h2 Gi IQ sN ui yW
   go_enter Tryz.func137,Tryz.ntmps137
   go_wp2
   go_ret2
   exact bU (v:=9) (n:=2) eC (aa Hv)
  have f116:=kJ (c:=x) (k:=116) (by omega)
  by_cases B5:x=118
  ·have Hv:Hid (dZ (a::x::r)=some (11,2)):=fg (by rw[B5];rfl)
   have f118:=ni (c:=x) (k:=118) (by omega)
   clear B5 h2 Gi IQ sN ui yW Ai
   go_enter Tryz.func137,Tryz.ntmps137
   go_wp2
   go_ret2
   exact bU (v:=11) (n:=2) eC (aa Hv)
  have f118:=kJ (c:=x) (k:=118) (by omega)
  by_cases VE:x=92
  ·have Hv:Hid (dZ (a::x::r)=some (x,2)):=fg (by rw[VE];rfl)
   have f92:=ni (c:=x) (k:=92) (by omega)
   clear VE h2 Gi IQ sN ui yW Ai B5
   go_enter Tryz.func137,Tryz.ntmps137
   go_wp2
   go_ret2
   exact bU (v:=x) (n:=2) eC (aa Hv)
  have f92:=kJ (c:=x) (k:=92) (by omega)
  by_cases KM:x=39
  ·have Hv:Hid (dZ (a::x::r)=some (x,2)):=fg (by rw[KM];rfl)
   have f39:=ni (c:=x) (k:=39) (by omega)
   clear KM h2 Gi IQ sN ui yW Ai B5 VE
   go_enter Tryz.func137,Tryz.ntmps137
   go_wp2
   go_ret2
   exact bU (v:=x) (n:=2) eC (aa Hv)
  have f39:=kJ (c:=x) (k:=39) (by omega)
  by_cases ZY:x=34
  ·have Hv:Hid (dZ (a::x::r)=some (x,2)):=fg (by rw[ZY];rfl)
   have f34:=ni (c:=x) (k:=34) (by omega)
   clear ZY h2 Gi IQ sN ui yW Ai B5 VE KM
   go_enter Tryz.func137,Tryz.ntmps137
   go_wp2
   go_ret2
   exact bU (v:=x) (n:=2) eC (aa Hv)
  have f34:=kJ (c:=x) (k:=34) (by omega)
  have KA:nu x=none:=by unfold nu;rw[if_neg Gi,if_neg IQ,if_neg sN,if_neg ui,if_neg yW,if_neg Ai,if_neg B5,if_neg (by omega)]
  by_cases Ea:x=120
  ·have hv:dZ (a::x::r)=fin (cQ 16 2 ((aG s).drop 2) 0 0) 2:=by rw[aa Hl];exact rC KA (by omega)
   rw[hv]
   have f120:=ni (c:=x) (k:=120) (by omega)
   clear hv KA Ea Gi IQ sN ui yW Ai B5 VE KM ZY
   go_enter Tryz.func137,Tryz.ntmps137
   go_wp2_with fail
   refine (zm hE s hs h2).mono ?_
   rintro e w1 ⟨bK,⟨ho,rfl⟩|⟨v,n,ho,rfl⟩⟩
   ·have Hb:=ab bK
    have Ho:=ab ho
    clear bK ho h2
    go_wp2
    go_ret2
    exact eG (aa Hb) (aa Ho)
   ·have Hb:=ab bK
    have Ho:=ab ho
    clear bK ho h2
    go_wp2
    go_ret2
    exact bU (aa Hb) (aa Ho)
  have f120:=kJ (c:=x) (k:=120) (by omega)
  by_cases Xv:x=88
  ·have hv:dZ (a::x::r)=fin (cQ 16 2 ((aG s).drop 2) 0 0) 2:=by rw[aa Hl];exact rC KA (by omega)
   rw[hv]
   have f88:=ni (c:=x) (k:=88) (by omega)
   clear hv KA Xv Gi IQ sN ui yW Ai B5 VE KM ZY Ea
   go_enter Tryz.func137,Tryz.ntmps137
   go_wp2_with fail
   refine (zm hE s hs h2).mono ?_
   rintro e w1 ⟨bK,⟨ho,rfl⟩|⟨v,n,ho,rfl⟩⟩
   ·have Hb:=ab bK
    have Ho:=ab ho
    clear bK ho h2
    go_wp2
    go_ret2
    exact eG (aa Hb) (aa Ho)
   ·have Hb:=ab bK
    have Ho:=ab ho
    clear bK ho h2
    go_wp2
    go_ret2
    exact bU (aa Hb) (aa Ho)
  have f88:=kJ (c:=x) (k:=88) (by omega)
  have hv:dZ (a::x::r)=fin (cQ 8 3 ((aG s).drop 1) 0 0) 1:=by rw[aa Hl];exact Ej KA (by omega)
  rw[hv]
  clear hv KA Gi IQ sN ui yW Ai B5 VE KM ZY Ea Xv
  go_enter Tryz.func137,Tryz.ntmps137
  go_wp2_with fail
  refine (GV hE s hs (by omega)).mono ?_
  rintro e w1 ⟨bK,⟨ho,rfl⟩|⟨v,n,ho,rfl⟩⟩
  ·have Hb:=ab bK
   have Ho:=ab ho
   clear bK ho h2
   go_wp2
   go_ret2
   exact eG (aa Hb) (aa Ho)
  ·have Hb:=ab bK
   have Ho:=ab ho
   clear bK ho h2
   go_wp2
   go_ret2
   exact bU (aa Hb) (aa Ho)
 ·have e0:decide ((s.size:Int)<2)=true:=by simp;omega
  have Hv:Hid (dZ (aG s)=none):=y8 (by rw[bI];omega)
  clear h2
  go_enter Tryz.func137,Tryz.ntmps137
  go_wp2
  go_ret2
  exact eG eC (aa Hv)
theorem J4 {W:World} (hE:gW W) (s:ByteArray) (h0:0<s.size) (hs:s.size≤65536):Calls Tryz.prog 117 #[.string s] W (VN W (dH s 0)):=by
 have eC:=zE W.heap.size W
 obtain ⟨x,hx⟩:∃x:Nat,s[0].toNat=x:=⟨_,rfl⟩
 have lq:az s 0=x:=(eF s 0 h0).trans hx
 have ew:x<256:=by rw[←lq];exact fJ s 0
 have hp:dH s 0=if x=0∨x=10 then none else if x=92 then dZ (aG s) else some (x,1):=by unfold dH;rw[lq];rfl
 rw[hp]
 clear hp lq
 by_cases c0:x=0
 ·rw[if_pos (.inl c0)]
  have f0:=ni (c:=x) (k:=0) (by omega)
  clear c0
  go_enter Tryz.func117,Tryz.ntmps117
  go_wp2
  go_ret2
  exact eG eC rfl
 have f0:=kJ (c:=x) (k:=0) (by omega)
 by_cases c1:x=10
 ·rw[if_pos (.inr c1)]
  have f1:=ni (c:=x) (k:=10) (by omega)
  clear c0 c1
  go_enter Tryz.func117,Tryz.ntmps117
  go_wp2
  go_ret2
  exact eG eC rfl
 have f1:=kJ (c:=x) (k:=10) (by omega)
 by_cases c2:x=92
 ·rw[if_neg (by omega),if_pos c2]
  have f2:=ni (c:=x) (k:=92) (by omega)
  clear c0 c1 c2
  go_enter Tryz.func117,Tryz.ntmps117
  go_wp2_with fail
  refine (Gw hE s hs).mono ?_
  rintro e w1 ⟨bK,⟨ho,rfl⟩|⟨v,n,ho,rfl⟩⟩
  ·have Hb:=ab bK
   have Ho:=ab ho
   clear bK ho
   go_wp2
   go_ret2
   exact eG (aa Hb) (aa Ho)
  ·have Hb:=ab bK
   have Ho:=ab ho
   clear bK ho
   go_wp2
   go_ret2
   exact bU (aa Hb) (aa Ho)
 have f2:=kJ (c:=x) (k:=92) (by omega)
 rw[if_neg (by omega),if_neg c2]
 clear c0 c1 c2
 go_enter Tryz.func117,Tryz.ntmps117
 go_wp2
 go_ret2
 exact bU (v:=x) (n:=1) eC rfl
theorem Ab {c:Nat}{k:Int} (h:k≤(c:Int)):decide ((c:Int)<k)=false:=by simp;omega
theorem aba {c:Nat}{k:Int} (h:(c:Int)<k):decide ((c:Int)<k)=true:=by simp;omega
theorem eqT {c:Nat}{k:Int} (h:(c:Int)=k):((c:Int)==k)=true:=by simp;omega
theorem Ny {s:ByteArray}{k c lo hi i y:Nat}{L H:Int} (q:jB s k c lo hi) (i1:1≤i) (hic:i<1+c) (hb:az s (k+i)=y) (hL:L=if i=1 then (lo:Int) else 128) (hH:H=if i=1 then (hi:Int) else 191):L≤(y:Int)∧(y:Int)≤H:=by
 have q1:=q.2 i i1 hic
 rw[hb] at q1
 by_cases h:i=1
 ·rw[if_pos h] at hL hH
  rw[if_pos h,if_pos h] at q1
  omega
 ·rw[if_neg h] at hL hH
  rw[if_neg h,if_neg h] at q1
  omega
theorem Nx {s:ByteArray}{k lo hi i y:Nat}{L H:Int} (hb:az s (k+i)=y) (hL:L=if i=1 then (lo:Int) else 128) (hH:H=if i=1 then (hi:Int) else 191) (h1:L≤(y:Int)) (h2:(y:Int)≤H)
  (iT:∀j,1≤j→j<i→(if j=1 then lo else 128)≤az s (k+j)∧az s (k+j)≤(if j=1 then hi else 191)) :
  ∀j,1≤j→j<i+1→(if j=1 then lo else 128)≤az s (k+j)∧az s (k+j)≤(if j=1 then hi else 191):=by
 intro j j1 j2
 by_cases hj:j=i
 ·subst hj
  rw[hb]
  by_cases h:j=1
  ·rw[if_pos h] at hL hH
   rw[if_pos h,if_pos h]
   omega
  ·rw[if_neg h] at hL hH
   rw[if_neg h,if_neg h]
   omega
 ·exact iT j j1 (by omega)
theorem Gu (W:World) (s:ByteArray) (k:Nat) (hk:k<s.size) (hs:s.size≤140737488351232) :
  Calls Tryz.prog 50 #[.string s,.int .i64 (k:Int)] W fun e w=>e=.returned (.int .i64 (iF s k:Int))∧w=W:=by
 obtain ⟨x,hx⟩:∃x:Nat,s[k].toNat=x:=⟨_,rfl⟩
 have lq:az s k=x:=(eF s k hk).trans hx
 have ew:x<256:=by rw[←lq];exact fJ s k
 have k0:(0:Int)≤(k:Int):=zH _
 have k1:(k:Int)<(s.size:Int):=by omega
 have Bk:=ab lq
 clear lq
 go_enter Tryz.func50,Tryz.ntmps50
 go_upto_block 0 with fail
 go_cut [6,7,8] from 15 to 46 (fun v6 v7 v8 wc=>∃c lo hi:Nat,v6=.int .i64 (((c+1:Nat):Int))∧v7=.int .i64 (lo:Int)∧v8=.int .i64 (hi:Int)∧wc=W∧1≤c∧c≤3∧lo≤255∧hi≤255∧Hid (oR x=some (c,lo,hi)))
 case first =>
  have fk:x<128∨(128≤x∧x<194)∨(194≤x∧x<224)∨x=224∨(225≤x∧x<237)∨x=237∨(238≤x∧x<240)∨x=240∨(241≤x∧x<244)∨x=244∨245≤x:=by omega
  rcases fk with hc|hc|hc|hc|hc|hc|hc|hc|hc|hc|hc
  ·have b0:=aba (c:=x) (k:=128) (by omega)
   have hf:oR x=some (0,0,0):=by unfold oR;rw[if_pos (by omega)]
   have p':iF s k=1:=xF (c:=0) (by rw[aa Bk];exact hf) ⟨by omega,fun j j1 j2=>by omega⟩
   have Hc:=ab p'
   clear p'
   clear hf
   go_wp2
   go_ret
   exact ⟨by rw[aa Hc];rfl,rfl⟩
  ·have b0:=Ab (c:=x) (k:=128) (by omega);have b1:=nf (c:=x) (k:=194) (by omega);have b2:=nf (c:=x) (k:=224) (by omega);have b3:=nf (c:=x) (k:=240) (by omega)
   have hf:oR x=none:=by unfold oR;repeat' (first|rw[if_neg (by omega)]|rw[if_pos (by omega)])
   have Hc:Hid (iF s k=0):=oW (by rw[aa Bk];exact hf)
   clear hf
   go_wp2
   go_ret
   exact ⟨by rw[aa Hc];rfl,rfl⟩
  ·have b0:=Ab (c:=x) (k:=128) (by omega);have b1:=gl (c:=x) (k:=194) (by omega);have b2:=DR (c:=x) (k:=223) (by omega)
   have hf:oR x=some (1,128,191):=by unfold oR;repeat' (first|rw[if_neg (by omega)]|rw[if_pos (by omega)])
   have Hf:=ab hf
   clear hf
   go_wp2
   go_meet
   case rel=>exact ⟨1,128,191,rfl,rfl,rfl,rfl,by omega,by omega,by omega,by omega,Hf⟩
  ·have b0:=Ab (c:=x) (k:=128) (by omega);have b1:=gl (c:=x) (k:=194) (by omega);have b2:=jK (c:=x) (k:=223) (by omega);have b3:=gl (c:=x) (k:=224) (by omega);have b4:=DR (c:=x) (k:=239) (by omega);have b5:=eqT (c:=x) (k:=224) (by omega);have b6:=kJ (c:=x) (k:=237) (by omega)
   have hf:oR x=some (2,160,191):=by unfold oR;repeat' (first|rw[if_neg (by omega)]|rw[if_pos (by omega)])
   have Hf:=ab hf
   clear hf
   go_wp2
   go_meet
   case rel=>exact ⟨2,160,191,rfl,rfl,rfl,rfl,by omega,by omega,by omega,by omega,Hf⟩
  ·have b0:=Ab (c:=x) (k:=128) (by omega);have b1:=gl (c:=x) (k:=194) (by omega);have b2:=jK (c:=x) (k:=223) (by omega);have b3:=gl (c:=x) (k:=224) (by omega);have b4:=DR (c:=x) (k:=239) (by omega);have b5:=kJ (c:=x) (k:=224) (by omega);have b6:=kJ (c:=x) (k:=237) (by omega)
   have hf:oR x=some (2,128,191):=by unfold oR;repeat' (first|rw[if_neg (by omega)]|rw[if_pos (by omega)])
   have Hf:=ab hf
   clear hf
   go_wp2
   go_meet
   case rel=>exact ⟨2,128,191,rfl,rfl,rfl,rfl,by omega,by omega,by omega,by omega,Hf⟩
  ·have b0:=Ab (c:=x) (k:=128) (by omega);have b1:=gl (c:=x) (k:=194) (by omega);have b2:=jK (c:=x) (k:=223) (by omega);have b3:=gl (c:=x) (k:=224) (by omega);have b4:=DR (c:=x) (k:=239) (by omega);have b5:=kJ (c:=x) (k:=224) (by omega);have b6:=eqT (c:=x) (k:=237) (by omega)
   have hf:oR x=some (2,128,159):=by unfold oR;repeat' (first|rw[if_neg (by omega)]|rw[if_pos (by omega)])
   have Hf:=ab hf
   clear hf
   go_wp2
   go_meet
   case rel=>exact ⟨2,128,159,rfl,rfl,rfl,rfl,by omega,by omega,by omega,by omega,Hf⟩
  ·have b0:=Ab (c:=x) (k:=128) (by omega);have b1:=gl (c:=x) (k:=194) (by omega);have b2:=jK (c:=x) (k:=223) (by omega);have b3:=gl (c:=x) (k:=224) (by omega);have b4:=DR (c:=x) (k:=239) (by omega);have b5:=kJ (c:=x) (k:=224) (by omega);have b6:=kJ (c:=x) (k:=237) (by omega)
   have hf:oR x=some (2,128,191):=by unfold oR;repeat' (first|rw[if_neg (by omega)]|rw[if_pos (by omega)])
   have Hf:=ab hf
   clear hf
   go_wp2
   go_meet
   case rel=>exact ⟨2,128,191,rfl,rfl,rfl,rfl,by omega,by omega,by omega,by omega,Hf⟩
  ·have b0:=Ab (c:=x) (k:=128) (by omega);have b1:=gl (c:=x) (k:=194) (by omega);have b2:=jK (c:=x) (k:=223) (by omega);have b3:=gl (c:=x) (k:=224) (by omega);have b4:=jK (c:=x) (k:=239) (by omega);have b5:=gl (c:=x) (k:=240) (by omega);have b6:=DR (c:=x) (k:=244) (by omega);have b7:=eqT (c:=x) (k:=240) (by omega);have b8:=kJ (c:=x) (k:=244) (by omega)
   have hf:oR x=some (3,144,191):=by unfold oR;repeat' (first|rw[if_neg (by omega)]|rw[if_pos (by omega)])
   have Hf:=ab hf
   clear hf
   go_wp2
   go_meet
   case rel=>exact ⟨3,144,191,rfl,rfl,rfl,rfl,by omega,by omega,by omega,by omega,Hf⟩
  ·have b0:=Ab (c:=x) (k:=128) (by omega);have b1:=gl (c:=x) (k:=194) (by omega);have b2:=jK (c:=x) (k:=223) (by omega);have b3:=gl (c:=x) (k:=224) (by omega);have b4:=jK (c:=x) (k:=239) (by omega);have b5:=gl (c:=x) (k:=240) (by omega);have b6:=DR (c:=x) (k:=244) (by omega);have b7:=kJ (c:=x) (k:=240) (by omega);have b8:=kJ (c:=x) (k:=244) (by omega)
   have hf:oR x=some (3,128,191):=by unfold oR;repeat' (first|rw[if_neg (by omega)]|rw[if_pos (by omega)])
   have Hf:=ab hf
   clear hf
   go_wp2
   go_meet
   case rel=>exact ⟨3,128,191,rfl,rfl,rfl,rfl,by omega,by omega,by omega,by omega,Hf⟩
  ·have b0:=Ab (c:=x) (k:=128) (by omega);have b1:=gl (c:=x) (k:=194) (by omega);have b2:=jK (c:=x) (k:=223) (by omega);have b3:=gl (c:=x) (k:=224) (by omega);have b4:=jK (c:=x) (k:=239) (by omega);have b5:=gl (c:=x) (k:=240) (by omega);have b6:=DR (c:=x) (k:=244) (by omega);have b7:=kJ (c:=x) (k:=240) (by omega);have b8:=eqT (c:=x) (k:=244) (by omega)
   have hf:oR x=some (3,128,143):=by unfold oR;repeat' (first|rw[if_neg (by omega)]|rw[if_pos (by omega)])
   have Hf:=ab hf
   clear hf
   go_wp2
   go_meet
   case rel=>exact ⟨3,128,143,rfl,rfl,rfl,rfl,by omega,by omega,by omega,by omega,Hf⟩
  ·have b0:=Ab (c:=x) (k:=128) (by omega);have b1:=gl (c:=x) (k:=194) (by omega);have b2:=jK (c:=x) (k:=223) (by omega);have b3:=gl (c:=x) (k:=224) (by omega);have b4:=jK (c:=x) (k:=239) (by omega);have b5:=gl (c:=x) (k:=240) (by omega);have b6:=jK (c:=x) (k:=244) (by omega)
   have hf:oR x=none:=by unfold oR;repeat' (first|rw[if_neg (by omega)]|rw[if_pos (by omega)])
   have Hc:Hid (iF s k=0):=oW (by rw[aa Bk];exact hf)
   clear hf
   go_wp2
   go_ret
   exact ⟨by rw[aa Hc];rfl,rfl⟩
 case rest =>
  obtain ⟨c,lo,hi,rfl,rfl,rfl,rfl,c1,c3,lo1,hi1,Hf⟩:=hcut
  obtain ⟨n,hn⟩:∃n,n=c+1:=⟨_,rfl⟩
  rw[←hn]
  have n2:2≤n:=by omega
  have n4:n≤4:=by omega
  have Hn:=ab hn
  clear hn
  have Hfr:Hid (oR (az s k)=some (c,lo,hi)):=by rw[aa Bk];exact aa Hf
  clear Hf Bk hx c1 c3
  by_cases cl:k+n≤s.size
  ·have e1:decide ((s.size:Int)<(k:Int)+(n:Int))=false:=by simp;omega
   go_wp2
   go_loopg [7,8,9,10] (n-1) (fun gk v7 v8 v9 _ wr=>∃(i:Nat) (L H:Int),v9=.int .i64 (i:Int)∧v7=.int .i64 L∧v8=.int .i64 H∧L=(if i=1 then (lo:Int) else 128)∧H=(if i=1 then (hi:Int) else 191)∧1≤i∧i≤n∧gk=n-i∧wr=wc∧∀j,1≤j→j<i→(if j=1 then lo else 128)≤az s (k+j)∧az s (k+j)≤(if j=1 then hi else 191))
   case atStart=>exact ⟨1,lo,hi,rfl,rfl,rfl,rfl,rfl,zD _,by omega,by omega,rfl,fun j h1 h2=>by omega⟩
   case round =>
    obtain ⟨i,L,H,rfl,rfl,rfl,hL,hH,i1,RN,dY,rfl,iT⟩:=hrel
    have gF:=ab dY
    have nn:=ab iT
    have HL:=ab hL
    have HH:=ab hH
    clear dY iT hL hH
    by_cases dr:i<n
    ·obtain ⟨j,hj⟩:∃j,j=k+i:=⟨_,rfl⟩
     have hjs:j<s.size:=by omega
     obtain ⟨y,hy⟩:∃y:Nat,(s[j]'hjs).toNat=y:=⟨_,rfl⟩
     have B4:az s (k+i)=y:=by rw[←hj];exact (eF s j hjs).trans hy
     have BY:y<256:=by rw[←B4];exact fJ s _
     have Hby:=ab B4
     have Xb:(k:Int)+(i:Int)=(j:Int):=by omega
     have j0:(0:Int)≤(j:Int):=zH _
     have j1:(j:Int)<(s.size:Int):=by omega
     clear B4 hj
     by_cases c1':(y:Int)<L
     ·have b1:decide ((y:Int)<L)=true:=by simp;omega
      have Hc:Hid (iF s k=0):=rL (aa Hfr) (fun q=>by have hn:=aa Hn;have q1:=Ny q i1 (by omega) (aa Hby) (aa HL) (aa HH);omega)
      go_upto_region 28 with fail
      clear Xb hy j0 j1 hjs
      clear c1'
      go_wp2
      go_ret
      exact ⟨by rw[aa Hc];rfl,rfl⟩
     ·have b1:decide ((y:Int)<L)=false:=by simp;omega
      by_cases c2':H<(y:Int)
      ·have b2:decide (H<(y:Int))=true:=by simp;omega
       have Hc:Hid (iF s k=0):=rL (aa Hfr) (fun q=>by have hn:=aa Hn;have q1:=Ny q i1 (by omega) (aa Hby) (aa HL) (aa HH);omega)
       go_upto_region 28 with fail
       clear Xb hy j0 j1 hjs
       clear c1' c2'
       go_wp2
       go_ret
       exact ⟨by rw[aa Hc];rfl,rfl⟩
      ·have b2:decide (H<(y:Int))=false:=by simp;omega
       have iE:Hid (∀j,1≤j→j<i+1→(if j=1 then lo else 128)≤az s (k+j)∧az s (k+j)≤(if j=1 then hi else 191)):=Nx (aa Hby) (aa HL) (aa HH) (by omega) (by omega) (aa nn)
       go_upto_region 28 with fail
       clear Xb hy j0 j1 hjs
       clear c1' c2'
       go_wp2
       go_roundg (n-(i+1))
       case measure=>have:=aa gF;omega
       case rel=>exact ⟨i+1,128,191,by go_num,rfl,rfl,by rw[if_neg (by omega)],by rw[if_neg (by omega)],by omega,by omega,rfl,rfl,aa iE⟩
    ·obtain rfl:i=n:=by omega
     have Hc:Hid (iF s k=i):=by
      have hn:=aa Hn
      have:=xF (aa Hfr) ⟨by omega,fun j j1 j2=>aa nn j j1 (by omega)⟩
      show iF s k=i
      omega
     go_wp2
     go_ret
     exact ⟨by rw[aa Hc];rfl,rfl⟩
  ·have e1:decide ((s.size:Int)<(k:Int)+(n:Int))=true:=by simp;omega
   have Hc:Hid (iF s k=0):=rL (aa Hfr) (fun q=>by have hn:=aa Hn;have:=q.1;omega)
   go_wp2
   go_ret
   exact ⟨by rw[aa Hc];rfl,rfl⟩
end Go.Proofs.YtjophoclfccmcaaGreatDoor
namespace Go.Proofs.YtjophoclfccmcaaGreatDoor
open Go.RowKit Go.Lib
attribute [local go_sem ↓] Go.wp_at_zero Go.wp_at_succ
theorem cN (w:World) (l:List Value) (t:TypeId):∀j u,l[j]?=some u→(w.alloc (.cells l.toArray t)).cell? ((⟨w.heap.size,0,none⟩:Addr).add j)=some u:=by
 intro j u h
 rw[Go.WideShapes.add_plain,cell_of_row _ _ _ _ _ _ (aF w _)]
 simpa using h
def SJ (base:Nat) (W:World) (v:Value) (xs ys:List Nat) (e:Ending) (W':World):Prop:=∃v',e=.returned v'∧Bytes base W' v' (xs++ys)∧Ext W v W' v'
theorem yj {W w:World}{base n:Nat}{v v':Value}{xs ys:List Nat}{cs:List Value}{ob:Obj} (oh:w.ownsRow base 5 1 v' n (nb xs++cs)) (hn:n=xs.length+ys.length) (fk:cs=nb ys) (hg:(W.alloc ob).grownBy w v.ownBlock) (fp:v'.ownBlock=v.ownBlock∨v'.ownBlock=some (W.alloc ob).heap.size) :
  SJ base W v xs ys (.returned v') w:=by
 subst hn fk
 refine ⟨v',rfl,?_,Ext.grown hg fp⟩
 unfold Bytes
 rw[Kd,zK]
 exact oh
theorem ED {s:ByteArray}{k:Nat} (hk:k<s.size):az (s.extract k s.size) 0=az s k:=by rw[iW s k s.size 0 (zD _) (by omega)];rfl
noncomputable def MF (s:ByteArray) (k:Nat):Nat:=if 128≤az s k then iF s k else if az s k<32∨az s k=127∨az s k=34∨az s k=92 then 0 else 1
def sub (s:ByteArray) (k n:Nat):List Nat:=((aG s).drop k).take n
noncomputable def qn (s:ByteArray) (k:Nat):Nat:=if MF s k=0 then 1 else MF s k
theorem Bytes.up {base:Nat}{W w:World}{v:Value}{l:List Nat} (h:Bytes base W v l) (hb:Below W.heap.size W w):Bytes base w v l:=by
 unfold Bytes at h ⊢
 obtain ⟨h1,⟨rfl,h0⟩|⟨g,c,cur,rfl,h2,h3,h4⟩⟩:=h
 ·exact ⟨h1,.inl ⟨rfl,h0⟩⟩
 ·exact ⟨h1,.inr ⟨g,c,cur,rfl,h2,(hb.block g (zA h3).1).trans h3,h4⟩⟩
theorem Bytes.Cz {base:Nat}{W:World}{v:Value}{l:List Nat} (h:Bytes base W v l):∀b,v.ownBlock=some b→base≤b:=fun b hb=>by
 unfold Bytes at h
 exact (h.lt b hb).1
theorem Bytes.shape {base:Nat}{W:World}{v:Value}{l:List Nat} (h:Bytes base W v l):∃a n c,v=.slice a n c:=by
 obtain ⟨a,c,rfl,_⟩:=h.has
 exact ⟨_,_,_,rfl⟩
theorem A5 {s:ByteArray}{k:Nat}:aG (s.extract k s.size)=(aG s).drop k:=by
 rw[bD,List.take_of_length_le]
 rw[List.length_drop,bI]
 omega
theorem BG {s:ByteArray}{k:Nat} (hk:k<s.size):dH (s.extract k s.size) 0=dH s k:=by
 unfold dH
 rw[ED hk,A5,List.drop_zero]
theorem Bb {c:Nat}:cls c=4↔c=39∨c=34:=by
 unfold cls
 constructor
 ·intro h
  repeat' split at h
  all_goals first|assumption|omega
 ·intro h
  rw[if_neg (by omega),if_neg (by unfold isLet;omega),if_neg (by unfold dJ;omega),if_pos h]
def UQ (W:World) (o:Option (List Nat×Nat)) (e:Ending) (w:World):Prop:=Below W.heap.size W w∧((o=none∧e=.returned (.tuple #[.slice none 0 0,.int .i64 0]))∨∃(l:List Nat) (n:Nat) (v:Value),o=some (l,n)∧e=.returned (.tuple #[v,.int .i64 (n:Int)])∧Bytes W.heap.size w v l)
theorem tg {W w:World}{o:Option (List Nat×Nat)} (hb:Below W.heap.size W w) (h:o=none):UQ W o (.returned (.tuple #[.slice none 0 0,.int .i64 0])) w:=⟨hb,.inl ⟨h,rfl⟩⟩
theorem LY {W w:World}{o:Option (List Nat×Nat)}{l:List Nat}{n:Nat}{v:Value} (hb:Below W.heap.size W w) (h:o=some (l,n)) (hv:Bytes W.heap.size w v l):UQ W o (.returned (.tuple #[v,.int .i64 (n:Int)])) w:=⟨hb,.inr ⟨l,n,v,h,rfl,hv⟩⟩
theorem AB {s:ByteArray} (h0:¬s.size=0) (h:¬(az s 0=39∨az s 0=34)):l9 s=none:=by unfold l9;rw[if_neg h0,if_neg h]
theorem si {s:ByteArray} (h0:¬s.size=0) (h:az s 0=39∨az s 0=34):l9 s=eY s (az s 0) 1:=by unfold l9;rw[if_neg h0,if_pos h]
theorem tj {W:World} (hE:gW W) (s:ByteArray) (hs:s.size≤65536):Calls Tryz.prog 86 #[.string s] W (UQ W (l9 s)):=by
 obtain ⟨i0,hi,tZ,tY,jg⟩:=info_parts Tryz.infoByte
 have eC:=zE W.heap.size W
 by_cases h0:s.size=0
 ·have Hn:Hid (l9 s=none):=by show _=_;unfold l9;rw[if_pos h0]
  obtain rfl:=rh h0
  go_enter Tryz.func86,Tryz.ntmps86
  go_wp2
  go_ret2
  exact tg eC (aa Hn)
 ·have e0:=rj h0
  obtain ⟨q,hq,lF,gq⟩:=cS s 0 (by omega)
  have P9:az s 0=q:=(eF s 0 (by omega)).trans gq
  have Hbq:=ab P9
  clear hq P9
  by_cases DZ:q=39∨q=34
  ·have hL:l9 s=eY s q 1:=by rw[si h0 (by rw[aa Hbq];exact DZ),aa Hbq]
   rw[hL]
   have hc:cls q=4:=Bb.2 DZ
   have s1:(1:Int)≤(s.size:Int):=by omega
   clear hL DZ
   go_enter Tryz.func86,Tryz.ntmps86
   go_wp2_with fail
   refine (jV W q lF).mono ?_
   rintro e w' ⟨rfl,he⟩
   obtain rfl:W=w':=he.symm
   rw[hc]
   have Hy0:Hid (Bytes W.heap.size W (.slice none 0 0) []):=Bg _ _
   go_wp2
   go_loopg [4,5,6,7] (s.size-1) (fun gk v4 v5 _ _ wr=>∃(k:Nat) (pre:List Nat) (va:Option Addr) (vn vc:Nat),v4=.slice va vn vc∧v5=.int .i64 (k:Int)∧gk=s.size-k∧1≤k∧k≤s.size∧pre.length≤k∧Hid (Bytes W.heap.size wr (.slice va vn vc) pre)∧Hid (eY s q 1=(eY s q k).map fun r=>(pre++r.1,r.2))∧Hid (Below W.heap.size W wr))
   case atStart=>exact ⟨1,[],_,_,_,rfl,rfl,rfl,zD _,by omega,by simp,Hy0,by show _=_;simp,eC⟩
   case round =>
    obtain ⟨k,pre,va,vn,vc,rfl,rfl,dY,II,hk,Vk,HY,Hu,HB⟩:=hrel
    have gF:=ab dY
    clear dY Hy0 hc
    by_cases dr:k<s.size
    ·obtain ⟨x,hx⟩:∃x:Nat,s[k].toNat=x:=⟨_,rfl⟩
     have lq:az s k=x:=(eF s k dr).trans hx
     have ew:x<256:=by rw[←lq];exact fJ s k
     have k0:(0:Int)≤(k:Int):=zH _
     have k1:(k:Int)<(s.size:Int):=by omega
     have Bk:=ab lq
     clear lq
     by_cases yL:x=q
     ·have Hr:Hid (eY s q 1=some (pre,k+1)):=by
       show _=_
       rw[aa Hu,nM dr ((aa Bk).trans yL)]
       simp
      have fq:((x:Int)==(q:Int))=true:=by simp;omega
      clear Hu yL
      go_wp2
      go_quiet (fail)
      go_wp2
      go_ret2
      exact LY (n:=k+1) (below_drewN (aa HB) _) (aa Hr) (aa HY)
     ·have fq:((x:Int)==(q:Int))=false:=by simp;omega
      have hz:=extract_size s k s.size (zD _)
      have hpd:=BG dr
      have Hpd:=ab hpd
      have SL:=ab yL
      clear hpd yL
      go_wp2
      go_quiet (fail)
      go_wp2_with fail
      refine (J4 (W:=wr.drewN nq) (hE.up (below_drewN (aa HB) _)) (s.extract k s.size) (by omega) (by omega)).mono ?_
      rintro e w2 ⟨bo,⟨ho,rfl⟩|⟨b,n,ho,rfl⟩⟩
      ·rw[aa Hpd] at ho
       have Hr:Hid (eY s q 1=none):=by
        show _=_
        rw[aa Hu,se dr (by rw[aa Bk];exact aa SL) ho]
        rfl
       have iJ:Hid (Below W.heap.size W w2):=(below_drewN (aa HB) _).trans (bo.mono (aa HB).size)
       clear ho bo hz Hu
       go_wp2
       go_ret2
       exact tg (aa iJ) (aa Hr)
      ·rw[aa Hpd] at ho
       obtain ⟨p1,p2,p3⟩:=jH ho dr
       have Hr:Hid (eY s q 1=(eY s q (k+n)).map fun r=>((pre++[b])++r.1,r.2)):=by
        show _=_
        rw[aa Hu,oM dr (by rw[aa Bk];exact aa SL) ho,Option.map_map]
        congr 1
        funext r
        simp
       have iJ:Hid (Below W.heap.size W w2):=(below_drewN (aa HB) _).trans (bo.mono (aa HB).size)
       have HY2:Hid (Bytes W.heap.size w2 (.slice va vn vc) pre):=((aa HY).up (zE _ _)).up ((below_drewN (zE _ wr) _).trans bo)
       have sI:W.heap.size≤w2.heap.size:=(aa iJ).size
       have n0:((n:Int)==0)=false:=by simp;omega
       have O1:Hid (pre.length+1≤maxLen):=by show _≤_;unfold maxLen;omega
       have O2:Hid ((pre.length+1)*1≤140737488355328):=by show _≤_;omega
       clear ho bo hz Hu HY HB
       go_wp2_with (at_builtin;refine wpList_append_own_at _ rfl _ _ 94 rfl W.heap.size 5 i0 (.int .u8 0) 1 1 Tryz.underlying94 hi tZ tY jg rfl (by decide) _ _ _ rfl ((aa HY2).alloc _) ⟨w2.heap.size,0,none⟩ 1 1 [.int .u8 (b:Int)] rfl rfl (cN _ _ _) (by simp[Value.oneCell']) (aa O1) (aa O2) (by rw[zJ];omega) ?_;intro v4 w4 eX dE _ jP;have HP:Hid (SJ W.heap.size w2 (.slice va vn vc) pre [b] (.returned v4) w4):=yj (ys:=[b]) eX rfl rfl dE jP;clear eX dE jP)
       obtain ⟨v5,nA,B4,D6⟩:=aa HP
       obtain rfl:v4=v5:=by simpa using nA
       obtain ⟨va',vn',vc',rfl⟩:=B4.shape
       have Ui:Hid (Below W.heap.size W w4):=(aa iJ).trans (D6.below sI (aa HY2).Cz)
       have HY3:=ab B4
       clear B4 D6 nA HP
       go_roundg (s.size-(k+n))
       case measure=>have:=aa gF;omega
       case rel=>exact ⟨k+n,pre++[b],_,_,_,rfl,by go_num,rfl,by omega,by omega,by simp only[zK,List.length_singleton];omega,HY3,Hr,Ui⟩
    ·have Hr:Hid (eY s q 1=none):=by
      show _=_
      rw[aa Hu,nN dr]
      rfl
     obtain rfl:k=s.size:=by omega
     clear Hu
     go_wp2
     go_ret2
     exact tg (aa HB) (aa Hr)
  ·have Hn:Hid (l9 s=none):=AB h0 (by rw[aa Hbq];exact DZ)
   have hc:((cls q:Int) != 4)=true:=by
    have:=mt Bb.1 DZ
    simp;omega
   clear DZ
   go_enter Tryz.func86,Tryz.ntmps86
   go_wp2_with fail
   refine (jV W q lF).mono ?_
   rintro e w' ⟨rfl,he⟩
   obtain rfl:W=w':=he.symm
   go_wp2
   go_ret2
   exact tg eC (aa Hn)
end Go.Proofs.YtjophoclfccmcaaGreatDoor
namespace Go.Proofs.YtjophoclfccmcaaGreatDoor
open Go.RowKit
attribute [local go_sem ↓] Go.wp_at_zero Go.wp_at_succ
theorem K8 (c:Nat):(cls c=1∧nw c)∨(¬nw c∧((cls c=2∧isLet c)∨(¬isLet c∧((cls c=3∧dJ c)∨(¬dJ c∧((cls c=4∧(c=39∨c=34))∨(¬(c=39∨c=34)∧((cls c=5∧kW c)∨(¬kW c∧((cls c=6∧c=47)∨(cls c=0∧¬c=47)))))))))))  := by
 unfold cls nw
 by_cases h1:(9≤c∧c≤13)∨c=32
 ·exact .inl ⟨by rw[if_pos h1],h1⟩
 ·refine .inr ⟨h1,?_⟩
  rw[if_neg h1]
  by_cases h2:isLet c
  ·exact .inl ⟨by rw[if_pos h2],h2⟩
  ·refine .inr ⟨h2,?_⟩
   rw[if_neg h2]
   by_cases h3:dJ c
   ·exact .inl ⟨by rw[if_pos h3],h3⟩
   ·refine .inr ⟨h3,?_⟩
    rw[if_neg h3]
    by_cases h4:c=39∨c=34
    ·exact .inl ⟨by rw[if_pos h4],h4⟩
    ·refine .inr ⟨h4,?_⟩
     rw[if_neg h4]
     by_cases h5:kW c
     ·exact .inl ⟨by rw[if_pos h5],h5⟩
     ·refine .inr ⟨h5,?_⟩
      rw[if_neg h5]
      by_cases h6:c=47
      ·exact .inl ⟨by rw[if_pos h6],h6⟩
      ·exact .inr ⟨by rw[if_neg h6],h6⟩
theorem Ie {W:World}{B b:Nat}{s:ByteArray}{k n c:Nat}{v:Value}{xs:List Value} (I:fN W B b s k n v xs) (hp:bw s s.size k=(k,true)) (ho:(cI s k).2.2=c) (hc:c≠0) (kind m c':Int) (Oe:c'=(c:Int)) :
  Calls Tryz.prog 79 #[.pointer (some ⟨b,0,none⟩),.int .i64 kind,.int .i64 m,.int .i64 c'] W (iD B b s k n xs W):=by
 subst Oe
 exact JN I hp ho hc kind m
theorem Ic {W:World}{B b:Nat}{s:ByteArray}{k n m t:Nat}{v:Value}{xs:List Value} (I:fN W B b s k n v xs) (hp:bw s s.size k=(k,true)) (ho:cI s k=(t,k+m,0)) (t' m':Int) (ht:t'=(t:Int)) (hm:m'=(m:Int)) :
  Calls Tryz.prog 79 #[.pointer (some ⟨b,0,none⟩),.int .i64 t',.int .i64 m',.int .i64 0] W (iD B b s k n xs W):=by
 subst ht hm
 exact Md I hp ho
theorem FB {W:World}{B b:Nat}{s:ByteArray}{k n:Nat}{v:Value}{xs:List Value} (I:fN W B b s k n v xs) (hp:bw s s.size k=(k,true)) (ho:(cI s k).2.2=40) :
  Calls Tryz.prog 78 #[.pointer (some ⟨b,0,none⟩)] W (iD B b s k n xs W):=by
 have H:=ab (Ie I hp ho (by decide) 0 0 40 rfl)
 clear I hp ho
 go_enter Tryz.func78,Tryz.ntmps78
 go_wp2_with fail
 refine (aa H).mono ?_
 intro e w hq
 obtain ⟨c,rfl⟩:=hq.ret
 have Hq:=ab hq
 clear hq
 go_wp2
 go_ret
 exact aa Hq
theorem FA {W:World}{B b:Nat}{s:ByteArray}{k n:Nat}{v:Value}{xs:List Value} (I:fN W B b s k n v xs) (hp:bw s s.size k=(k,true)) (ho:cI s k=(4,k+1,0)) :
  Calls Tryz.prog 87 #[.pointer (some ⟨b,0,none⟩)] W (iD B b s k n xs W):=by
 have H:=ab (Ic I hp ho 4 1 rfl rfl)
 clear I hp ho
 go_enter Tryz.func87,Tryz.ntmps87
 go_wp2_with fail
 refine (aa H).mono ?_
 intro e w hq
 obtain ⟨c,rfl⟩:=hq.ret
 have Hq:=ab hq
 clear hq
 go_wp2
 go_ret
 exact aa Hq
theorem Dn {W:World}{B b:Nat}{s:ByteArray}{k n:Nat}{v:Value}{xs:List Value} (I:fN W B b s k n v xs) (h:nw (az s k)) :
  Calls Tryz.prog 80 #[.pointer (some ⟨b,0,none⟩)] W (iD B b s k n xs W):=by
 refine (Fy I.sc I.more I.size).mono ?_
 rintro e w ⟨rfl,rfl⟩
 have acF:=I.more
 refine ⟨(BX.refl _ _ _).set _ _,.inl ⟨rfl,k+1,[],v,I.sc.at _,?_,by omega,by omega,I.room,?_⟩⟩
 ·show World.ownsRow _ B 38 3 v n (xs++[])
  rw[List.append_nil]
  obtain ⟨h1,⟨rfl,h0⟩|⟨g,c,cur,rfl,h2,h3,h4⟩⟩:=I.row
  ·exact ⟨h1,.inl ⟨rfl,h0⟩⟩
  ·refine ⟨h1,.inr ⟨g,c,cur,rfl,h2,(heap_setCell_other _ ⟨b,1,none⟩ g _ ?_).trans h3,h4⟩⟩
   have:=I.lo
   show ¬g=b
   omega
 ·rw[ng]
  exact H' n (FN I.more h)
theorem Bz {W:World}{B b:Nat}{s:ByteArray}{k n:Nat}{v:Value}{xs:List Value} (I:fN W B b s k n v xs) (hp:bw s s.size k=(k,true)) (ho:cI s k=(1,cX s k,0)) :
  Calls Tryz.prog 81 #[.pointer (some ⟨b,0,none⟩)] W (iD B b s k n xs W):=by
 have hr:=mq I.sc (Nat.le_of_lt I.more)
 have HI:=ab I
 have hs:=I.size
 have hk:=I.more
 have Hp:=ab hp
 have Ho:=ab ho
 clear I hp ho
 go_enter Tryz.func81,Tryz.ntmps81
 go_wp2_with fail
 refine hr.mono ?_
 rintro e w1 ⟨rfl,n1,rfl⟩
 clear hr
 have Zf:=BC (W.drewN n1) (s.extract k s.size) (by rw[ByteArray.size_extract];omega)
 go_wp2_with fail
 refine Zf.mono ?_
 rintro e w2 ⟨m,rfl,ki,hn,h1,h2⟩
 obtain rfl:W.drewN n1=w2:=ki.symm
 clear ki Zf
 obtain ⟨eE,hle⟩:=za (by omega) hn h1 h2
 have bK:Below W.heap.size W (W.drewN n1):=below_drewN (zE _ _) n1
 have ht:=Ic ((aa HI).up bK) (aa Hp) (by rw[aa Ho,eE]) 1 (m:Int) rfl rfl
 have Ht:=ab ht
 have kl:=ab bK
 clear ht hn h1 h2 hle eE bK
 go_wp2_with fail
 refine (aa Ht).mono ?_
 intro e w hq
 obtain ⟨c,rfl⟩:=hq.ret
 have Hq:=ab (hq.from (aa kl) (aa HI).hi)
 clear hq
 go_wp2
 go_ret
 exact aa Hq
theorem Dm {W:World}{B b:Nat}{s:ByteArray}{k n:Nat}{v:Value}{xs:List Value} (hE:gW W) (I:fN W B b s k n v xs) (hp:bw s s.size k=(k,true)) (ho:cI s k=if wv (aG (s.extract k (cX s k)))=none then (0,0,41) else (2,cX s k,0)) :
  Calls Tryz.prog 83 #[.pointer (some ⟨b,0,none⟩)] W (iD B b s k n xs W):=by
 have hr:=mq I.sc (Nat.le_of_lt I.more)
 have HI:=ab I
 have HE:=ab hE
 have hs:=I.size
 have hk:=I.more
 have Hp:=ab hp
 have Ho:=ab ho
 clear I hp ho hE
 go_enter Tryz.func83,Tryz.ntmps83
 go_wp2_with fail
 refine hr.mono ?_
 rintro e w1 ⟨rfl,n1,rfl⟩
 clear hr
 have Zf:=BC (W.drewN n1) (s.extract k s.size) (by rw[ByteArray.size_extract];omega)
 go_wp2_with fail
 refine Zf.mono ?_
 rintro e w2 ⟨m,rfl,ki,hn,h1,h2⟩
 obtain rfl:W.drewN n1=w2:=ki.symm
 clear ki Zf
 obtain ⟨eE,hle⟩:=za (by omega) hn h1 h2
 have bK:Below W.heap.size W (W.drewN n1):=below_drewN (zE _ _) n1
 have AW:=mq ((aa HI).up bK).sc (Nat.le_of_lt hk)
 have cl:(s.extract k s.size).size=s.size-k:=by rw[ByteArray.size_extract];omega
 have kl:=ab bK
 have HeE:=ab eE
 have hex:=tL s k m hle
 have m0:(0:Int)≤(m:Int):=zH _
 have m1:(m:Int)≤((s.size-k:Nat):Int):=by omega
 clear hn h1 h2 bK eE
 go_wp2_with fail
 refine AW.mono ?_
 rintro e w3 ⟨rfl,n2,rfl⟩
 clear AW
 have bo:Below W.heap.size W (W.drewN (n1+n2)):=below_drewN (zE _ _) (n1+n2)
 have hwo:=Az ((aa HE).up bo) (s.extract k (k+m)) (by rw[ByteArray.size_extract];omega)
 have qA:=ab bo
 clear bo
 go_wp2_with fail
 refine hwo.mono ?_
 rintro e w4 ⟨fC,wn,wc,rfl,hu⟩
 have mE:Below W.heap.size W w4:=(aa qA).trans fC
 rcases hu with ⟨u,YW,rfl,rfl⟩|⟨YW,rfl,rfl⟩
 ·have ht:=Ic ((aa HI).up mE) (aa Hp) (m:=m) (t:=2) (by rw[aa Ho,aa HeE,YW];rfl) 2 (m:Int) rfl rfl
  have Ht:=ab ht
  have Wm:=ab mE
  clear ht fC mE YW hwo
  go_wp2_with fail
  refine (aa Ht).mono ?_
  intro e w hq
  obtain ⟨c,rfl⟩:=hq.ret
  have Hq:=ab (hq.from (aa Wm) (aa HI).hi)
  clear hq
  go_wp2
  go_ret
  exact aa Hq
 ·have ht:=Ie ((aa HI).up mE) (aa Hp) (c:=41) (by rw[aa Ho,aa HeE,YW];rfl) (by decide) 2 (m:Int) 41 rfl
  have Ht:=ab ht
  have Wm:=ab mE
  clear ht fC mE YW hwo
  go_wp2_with fail
  refine (aa Ht).mono ?_
  intro e w hq
  obtain ⟨c,rfl⟩:=hq.ret
  have Hq:=ab (hq.from (aa Wm) (aa HI).hi)
  clear hq
  go_wp2
  go_ret
  exact aa Hq
end Go.Proofs.YtjophoclfccmcaaGreatDoor
namespace Go.Proofs
open Go.Shelf
def Tryz.Ac:Go.Shelf.Ren:=⟨fun|143=>118|219=>138|217=>114|225=>165|224=>166|267=>167|266=>133|314=>180|n=>n,fun|9=>9|3=>3|4=>4|5=>5|46=>181|146=>194|51=>193|n=>n,fun|1=>1|n=>n⟩
theorem Tryz.Kn:Go.Proofs.Lays.n143 Tryz.prog Tryz.Ac:={
 mixed:=by kernel_rfl
 f143:=Tryz.func118.trans (congrArg some (by kernel_rfl))
 f217:=Tryz.func114.trans (congrArg some (by kernel_rfl))
 f219:=Tryz.func138.trans (congrArg some (by kernel_rfl))
 f224:=Tryz.func166.trans (congrArg some (by kernel_rfl))
 f225:=Tryz.func165.trans (congrArg some (by kernel_rfl))
 f266:=Tryz.func133.trans (congrArg some (by kernel_rfl))
 f267:=Tryz.func167.trans (congrArg some (by kernel_rfl))
 f314:=Tryz.func180.trans (congrArg some (by kernel_rfl))
 t3:=Tryz.underlying3
 a3:=Tryz.isAgg3
 z3:=Tryz.sizeOf3
 v3:=Tryz.zeroValue3
 t4:=Tryz.underlying4
 a4:=Tryz.isAgg4
 z4:=Tryz.sizeOf4
 v4:=Tryz.zeroValue4
 t5:=Tryz.underlying5
 a5:=Tryz.isAgg5
 z5:=Tryz.sizeOf5
 v5:=Tryz.zeroValue5
 t9:=Tryz.underlying9
 a9:=Tryz.isAgg9
 z9:=Tryz.sizeOf9
 v9:=Tryz.zeroValue9
 t46:=Tryz.underlying181
 a46:=Tryz.isAgg181
 z46:=Tryz.sizeOf181
 v46:=Tryz.zeroValue181
 t51:=Tryz.underlying193
 a51:=Tryz.isAgg193
 z51:=Tryz.sizeOf193
 v51:=Tryz.zeroValue193
 t146:=Tryz.underlying194
 a146:=Tryz.isAgg194
 z146:=Tryz.sizeOf194
 v146:=Tryz.zeroValue194
 g1:=by kernel_rfl }
end Go.Proofs

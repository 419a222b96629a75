import Derived.Test.YtghioefalckgoaaGreatDoorM00
import Derived.Lib.Strings
set_option maxHeartbeats 4000000
set_option maxRecDepth 100000
namespace Go.Proofs.YtghioefalckgoaaGreatDoor
open Go.RowKit
attribute [local go_sem ↓] Go.wp_at_zero Go.wp_at_succ
def jF:List (Int×Int×Int×Int×Int):=[(0,127,0,0,0),(194,223,1,128,191),(224,224,2,160,191),(225,236,2,128,191),(237,237,2,128,159),(238,239,2,128,191),(240,240,3,144,191),(241,243,3,128,191),(244,244,3,128,143)]
def jS (W:World):Prop:=0<W.heap.size∧∀i a b c d e,jF[i]?=some (a,b,c,d,e)→W.cell? ⟨0,i*5,none⟩=some (.int .u8 a)∧W.cell? ⟨0,i*5+1,none⟩=some (.int .u8 b)∧W.cell? ⟨0,i*5+2,none⟩=some (.int .u8 c)∧W.cell? ⟨0,i*5+3,none⟩=some (.int .u8 d)∧W.cell? ⟨0,i*5+4,none⟩=some (.int .u8 e)
theorem jS.up {W w:World} (h:jS W) (hb:Below W.heap.size W w):jS w :=
 ⟨Nat.lt_of_lt_of_le h.1 hb.size,fun i a b c d e hf=>by
  obtain ⟨q0,q1,q2,q3,q4⟩:=h.2 i a b c d e hf
  exact ⟨(hb.cell (p:=⟨0,i*5,none⟩) h.1).trans q0,(hb.cell (p:=⟨0,i*5+1,none⟩) h.1).trans q1,(hb.cell (p:=⟨0,i*5+2,none⟩) h.1).trans q2,(hb.cell (p:=⟨0,i*5+3,none⟩) h.1).trans q3,(hb.cell (p:=⟨0,i*5+4,none⟩) h.1).trans q4⟩⟩
theorem mK:jF.length=9:=rfl
def aF (s:ByteArray) (i:Nat):Nat:=if h:i<s.size then s[i].toNat else 0
def Ex (s:ByteArray) (c:Nat) (d e:Int):Prop:=1+c≤s.size∧∀k,1≤k→k<1+c→(if k=1 then d else 128)≤(aF s k:Int)∧(aF s k:Int)≤(if k=1 then e else 191)
def zw (s:ByteArray) (c:Nat) (d e n:Int):Prop:=n=1+(c:Int)∧Ex s c d e∨n=0∧¬Ex s c d e
theorem Cz (W:World) (s:ByteArray) (hs:s.size≤140737488351232) (a b d e:Int) (c:Nat) (hc:c≤3) :
  Calls Tryz.prog 161 #[.agg #[.int .u8 a,.int .u8 b,.int .u8 (c:Int),.int .u8 d,.int .u8 e],.string s] W fun o W'=>Below W.heap.size W W'∧∃n:Int,o=.returned (.int .i64 n)∧zw s c d e n:=by
 have hw:wrap64 (1+(c:Int))=1+(c:Int):=by rw[EE];omega
 by_cases h:1+c≤s.size
 ·have hd:decide ((s.size:Int)<1+(c:Int))=false:=by simp;omega
  go_enter Tryz.func161,Tryz.ntmps161
  go_wp2_with fail
  go_quiet (fail)
  go_wp2
  have hB0:∀n,Below W.heap.size W ((W.alloc (.cells #[.int .u8 a,.int .u8 b,.int .u8 (c:Int),.int .u8 d,.int .u8 e] 191)).drewN n):=fun n=>by
   have hB:Below W.heap.size W (W.alloc (.cells #[.int .u8 a,.int .u8 b,.int .u8 (c:Int),.int .u8 d,.int .u8 e] 191)):=(zE _ _).alloc (zD _) _
   exact ⟨hB.os,hB.tape,hB.output,hB.size,hB.block⟩
  go_loopg [6,7,8] c (fun gk v6 v7 v8 wr=>∃(i:Nat) (L H:Int),v8=.int .i64 (i:Int)∧v6=.int .u8 L∧v7=.int .u8 H∧L=(if i=1 then d else 128)∧H=(if i=1 then e else 191)∧1≤i∧i≤1+c∧gk=1+c-i∧(∀k,1≤k→k<i→(if k=1 then d else 128)≤(aF s k:Int)∧(aF s k:Int)≤(if k=1 then e else 191))∧Below W.heap.size W wr)
  case atStart=>exact ⟨1,d,e,rfl,rfl,rfl,rfl,rfl,zD _,by omega,by omega,fun k h1 h2=>by omega,hB0 _⟩
  case round =>
   obtain ⟨i,L,H,rfl,rfl,rfl,hL,hH,h1,hi,bd,nO,hB⟩:=hrel
   clear hB0
   have bH:=ak bd
   have s8:=ak nO
   clear bd nO
   by_cases aU:i<1+c
   ·have hsi:i<s.size:=by omega
    obtain ⟨x,hx⟩:∃x:Nat,s[i].toNat=x:=⟨_,rfl⟩
    have iH:aF s i=x:=by unfold aF;rw[dif_pos hsi];exact hx
    have i0:(0:Int)≤(i:Int):=zH _
    have i1:(i:Int)<(s.size:Int):=by clear hw;omega
    have i2:(i:Int)<1+(c:Int):=by clear hw;omega
    have HL:=ak hL
    have HH:=ak hH
    have Hb:=ak iH
    clear hL hH iH
    by_cases c1:(x:Int)<L
    ·go_wp2
     go_ret
     clear hw
     exact ⟨hB,0,rfl,.inr ⟨rfl,fun q=>by have q1:=q.2 i h1 aU;rw[ab Hb,←ab HL,←ab HH] at q1;omega⟩⟩
    ·have LH:decide ((x:Int)<L)=false:=by simp;omega
     by_cases c2:H<(x:Int)
     ·have C1:=ak c1
      clear c1
      go_wp2
      go_ret
      clear hw
      exact ⟨hB,0,rfl,.inr ⟨rfl,fun q=>by have q1:=q.2 i h1 aU;rw[ab Hb,←ab HL,←ab HH] at q1;omega⟩⟩
     ·have N0:decide (H<(x:Int))=false:=by simp;omega
      have C1:=ak c1
      have C2:=ak c2
      clear c1 c2
      go_wp2
      go_roundg (c-i)
      case measure=>have:=ab bH;clear hw;omega
      case rel =>
       clear hw
       refine ⟨i+1,128,191,by go_num,rfl,rfl,by rw[if_neg (by omega)],by rw[if_neg (by omega)],by omega,by omega,by omega,fun k k1 k2=>?_,hB⟩
       by_cases hk:k=i
       ·subst hk
        have q1:=ab C1
        have q2:=ab C2
        rw[ab Hb,←ab HL,←ab HH]
        omega
       ·exact ab s8 k k1 (by omega)
   ·obtain rfl:i=1+c:=by omega
    have hnl:decide ((((1+c:Nat):Int))<1+(c:Int))=false:=by simp
    go_wp2
    go_ret
    exact ⟨hB,_,rfl,.inl ⟨rfl,h,ab s8⟩⟩
 ·have hd:(s.size:Int)<1+(c:Int):=by omega
  go_enter Tryz.func161,Tryz.ntmps161
  go_wp2
  go_ret
  exact ⟨(zE _ _).alloc (zD _) _,0,rfl,.inr ⟨rfl,fun q=>h q.1⟩⟩
def BJ (s:ByteArray) (n:Int):Prop:=(∃(i:Nat) (a b:Int) (c:Nat) (d e:Int),jF[i]?=some (a,b,(c:Int),d,e)∧a≤(aF s 0:Int)∧(aF s 0:Int)≤b∧zw s c d e n)∨((∀(i:Nat) (a b c d e:Int),jF[i]?=some (a,b,c,d,e)→¬(a≤(aF s 0:Int)∧(aF s 0:Int)≤b))∧n=0)
theorem C6:∀(i:Nat) (a b c d e:Int),jF[i]?=some (a,b,c,d,e)→0≤c∧c≤3:=by
 intro i a b c d e h
 have key:∀x ∈ jF,0≤x.2.2.1∧x.2.2.1≤3:=by decide
 exact key _ (List.mem_of_getElem? h)
theorem KA {W:World} (h:jS W) (s:ByteArray) (Ly:0<s.size) (hs:s.size≤140737488351232) :
  Calls Tryz.prog 111 #[.string s] W fun o W'=>Below W.heap.size W W'∧∃n:Int,o=.returned (.int .i64 n)∧BJ s n:=by
 obtain ⟨x,hx⟩:∃x:Nat,s[0].toNat=x:=⟨_,rfl⟩
 have iH:aF s 0=x:=by unfold aF;rw[dif_pos Ly];exact hx
 have Hb:=ak iH
 have hs':(0:Int)<(s.size:Int):=by omega
 clear iH
 go_enter Tryz.func111,Tryz.ntmps111
 go_wp2
 go_loopg [5] 9 (fun gk v5 wr=>∃(i:Nat),v5=.int .i64 (i:Int)∧gk=9-i∧i≤9∧(∀(j:Nat) (a b c d e:Int),j<i→jF[j]?=some (a,b,c,d,e)→¬(a≤(x:Int)∧(x:Int)≤b))∧Below W.heap.size W wr)
 case atStart=>exact ⟨0,rfl,rfl,by decide,fun j _ _ _ _ _ hj=>by omega,zE _ _⟩
 case round =>
  obtain ⟨i,rfl,bd,Fx,nO,hB⟩:=hrel
  have bH:=ak bd
  have s8:=ak nO
  clear bd nO
  by_cases aU:i<9
  ·obtain ⟨⟨a,b,c',d,e⟩,hf⟩:∃x,jF[i]?=some x:=⟨_,List.getElem?_eq_getElem (by rw[mK];exact aU)⟩
   obtain ⟨m1,m2⟩:=C6 i a b c' d e hf
   obtain ⟨c,rfl⟩:∃c:Nat,c'=(c:Int):=⟨c'.toNat,by omega⟩
   obtain ⟨q0,q1,q2,q3,q4⟩:=(h.up hB).2 i a b c d e hf
   have Vu:(0:Int)≤(i:Int):=zH _
   have hi1:(i:Int)<9:=by omega
   have Tw:c≤3:=by omega
   have Hf:=ak hf
   have VX:∀n,Below W.heap.size W ((wr.alloc (.cells #[.int .u8 a,.int .u8 b,.int .u8 (c:Int),.int .u8 d,.int .u8 e] 191)).drewN n):=fun n=>by
    have Rt:=hB.alloc hB.size (.cells #[.int .u8 a,.int .u8 b,.int .u8 (c:Int),.int .u8 d,.int .u8 e] 191)
    exact ⟨Rt.os,Rt.tape,Rt.output,Rt.size,Rt.block⟩
   clear hf m1 m2
   by_cases c1:a≤(x:Int)
   ·by_cases c2:(x:Int)≤b
    ·go_wp2_with fail
     go_quiet (fail)
     go_wp2_with fail
     refine (Cz _ s hs a b d e c Tw).mono ?_
     rintro o w2 ⟨b9,n,rfl,hn⟩
     have VY:=(VX _).trans (b9.mono (VX _).size)
     have Hn:=ak hn
     clear hn VX
     go_wp2
     go_ret
     exact ⟨VY,n,rfl,.inl ⟨i,a,b,c,d,e,ab Hf,by rw[ab Hb];exact c1,by rw[ab Hb];exact c2,ab Hn⟩⟩
    ·have N0:decide ((x:Int)≤b)=false:=by simp;omega
     have C2:=ak c2
     clear c2
     go_wp2_with fail
     go_quiet (fail)
     go_wp2
     go_roundg (9-(i+1))
     case measure=>have:=ab bH;omega
     case rel =>
      refine ⟨i+1,by go_num,rfl,by omega,fun j a' b' c'' d' e' hj Pd=>?_,VX _⟩
      by_cases hji:j=i
      ·subst hji
       obtain ⟨rfl,rfl,_⟩:a=a'∧b=b'∧_:=by have:=(ab Hf).symm.trans Pd;simpa using this
       exact fun q=>by have:=ab C2;omega
      ·exact ab s8 j a' b' c'' d' e' (by omega) Pd
   ·have LH:decide (a≤(x:Int))=false:=by simp;omega
    have C1:=ak c1
    clear c1
    go_wp2_with fail
    go_quiet (fail)
    go_wp2
    go_roundg (9-(i+1))
    case measure=>have:=ab bH;omega
    case rel =>
     refine ⟨i+1,by go_num,rfl,by omega,fun j a' b' c'' d' e' hj Pd=>?_,VX _⟩
     by_cases hji:j=i
     ·subst hji
      obtain ⟨rfl,rfl,_⟩:a=a'∧b=b'∧_:=by have:=(ab Hf).symm.trans Pd;simpa using this
      exact fun q=>by have:=ab C1;omega
     ·exact ab s8 j a' b' c'' d' e' (by omega) Pd
  ·obtain rfl:i=9:=by omega
   go_wp2
   go_ret
   refine ⟨hB,0,rfl,.inr ⟨fun j a b c d e hf=>?_,rfl⟩⟩
   have hj:j<9:=by have:=(zB hf).1;rw[mK] at this;exact this
   rw[ab Hb]
   exact ab s8 j a b c d e hj hf
def C5 (x:Nat):Option (Nat×Nat×Nat) :=
 if x<128 then some (0,0,0) else if x<194 then none else if x<224 then some (1,128,191) else if x=224 then some (2,160,191) else if x<237 then some (2,128,191)
 else if x=237 then some (2,128,159) else if x<240 then some (2,128,191) else if x=240 then some (3,144,191) else if x<244 then some (3,128,191) else if x=244 then some (3,128,143) else none
theorem fD (s:ByteArray) (i:Nat):aF s i<256:=by
 unfold aF
 split
 ·exact UInt8.toNat_lt _
 ·decide
theorem fE (s:ByteArray) (i:Nat) (h:i<s.size):aF s i=(s[i]'h).toNat:=by unfold aF;rw[dif_pos h]
theorem extract_size (s:ByteArray) (k n:Nat) (hn:n≤s.size):(s.extract k n).size=n-k:=by
 simp[ByteArray.size_extract]
 omega
theorem cN (s:ByteArray) (k n i:Nat) (hn:n≤s.size) (hi:k+i<n):aF (s.extract k n) i=aF s (k+i):=by
 rw[fE _ _ (by rw[extract_size s k n hn];omega),fE _ _ (by omega)]
 rw[ByteArray.getElem_extract]
def cS (s:ByteArray) (k c d e:Nat):Prop:=k+1+c≤s.size∧∀j,1≤j→j<1+c→(if j=1 then d else 128)≤aF s (k+j)∧aF s (k+j)≤(if j=1 then e else 191)
instance (s : ByteArray) (k c d e : Nat) : Decidable (cS s k c d e) := decidable_of_iff (k + 1 + c ≤ s.size ∧ ∀ j, j < 1 + c → 1 ≤ j → (if j = 1 then d else 128) ≤ aF s (k + j) ∧ aF s (k + j) ≤ (if j = 1 then e else 191)) ⟨fun h => ⟨h.1, fun j h1 h2 => h.2 j h2 h1⟩, fun h => ⟨h.1, fun j h1 h2 => h.2 j h2 h1⟩⟩
noncomputable def gf (s:ByteArray) (k:Nat):Nat:=match C5 (aF s k) with
 |none=>0
 |some (c,d,e)=>if cS s k c d e then 1+c else 0
theorem gF {s:ByteArray}{k:Nat} (h:C5 (aF s k)=none):gf s k=0:=by unfold gf;rw[h]
theorem lD {s:ByteArray}{k c d e:Nat} (h:C5 (aF s k)=some (c,d,e)) (h2:cS s k c d e):gf s k=1+c:=by unfold gf;rw[h];simp[h2]
theorem j8 {s:ByteArray}{k c d e:Nat} (h:C5 (aF s k)=some (c,d,e)) (h2:¬cS s k c d e):gf s k=0:=by unfold gf;rw[h];simp[h2]
theorem J' {x c d e:Nat} (h:C5 x=some (c,d,e)):c≤3:=by
 unfold C5 at h
 repeat' split at h
 all_goals first|(cases h;done)|(have:=zC h;simp at this;omega)
theorem zk (s:ByteArray) (k:Nat) (hk:k≤s.size):k+gf s k≤s.size∧gf s k≤4:=by
 cases hf:C5 (aF s k) with
 |none=>rw[gF hf];omega
 |some t =>
  obtain ⟨c,d,e⟩:=t
  have:=J' hf
  by_cases h:cS s k c d e
  ·rw[lD hf h];have:=h.1;omega
  ·rw[j8 hf h];omega
theorem FJ:∀(i:Fin 9) (x:Fin 256),(jF[i.val]?.any fun f=>decide (f.1≤(x.val:Int))&&decide ((x.val:Int)≤f.2.1))=true→(jF[i.val]?.any fun f=>decide ((C5 x.val).map (fun (t:Nat×Nat×Nat)=>((t.1:Int),(t.2.1:Int),(t.2.2:Int)))=some (f.2.2.1,f.2.2.2.1,f.2.2.2.2)))=true:=by decide +kernel
theorem C4:∀(x:Fin 256),(jF.all fun f=>!(decide (f.1≤(x.val:Int))&&decide ((x.val:Int)≤f.2.1)))=true→C5 x.val=none:=by decide +kernel
theorem CA {s:ByteArray}{k c d e:Nat}{n:Int} (hk:k<s.size) (h:zw (s.extract k s.size) c (d:Int) (e:Int) n):(n=1+(c:Int)∧cS s k c d e)∨(n=0∧¬cS s k c d e):=by
 have hz:=extract_size s k s.size (zD _)
 have key:Ex (s.extract k s.size) c (d:Int) (e:Int)↔cS s k c d e:=by
  unfold Ex cS
  constructor
  ·rintro ⟨h1,h2⟩
   rw[hz] at h1
   refine ⟨by omega,fun j j1 j2=>?_⟩
   have:=h2 j j1 j2
   rw[cN s k s.size j (zD _) (by omega)] at this
   split at this<;>split<;>omega
  ·rintro ⟨h1,h2⟩
   refine ⟨by rw[hz];omega,fun j j1 j2=>?_⟩
   have:=h2 j j1 j2
   rw[cN s k s.size j (zD _) (by omega)]
   split at this<;>split<;>omega
 rcases h with ⟨h1,h2⟩|⟨h1,h2⟩
 ·exact .inl ⟨h1,key.1 h2⟩
 ·exact .inr ⟨h1,mt key.2 h2⟩
theorem Bs {s:ByteArray}{k:Nat}{n:Int} (hk:k<s.size) (h:BJ (s.extract k s.size) n):n=(gf s k:Int):=by
 have bq:aF (s.extract k s.size) 0=aF s k:=by rw[cN s k s.size 0 (zD _) (by omega)];rfl
 have aU:=fD s k
 rcases h with ⟨i,a,b,c,d,e,hf,h1,h2,h3⟩|⟨xM,rfl⟩
 ·rw[bq] at h1 h2
  have hi:i<9:=by have:=(zB hf).1;rw[mK] at this;exact this
  have q:=FJ ⟨i,hi⟩ ⟨aF s k,aU⟩ (by simp only[hf,Option.any_some];simp[h1,h2])
  simp only[hf,Option.any_some,decide_eq_true_eq] at q
  obtain ⟨⟨c',d',e'⟩,hfr,hq⟩:=Option.map_eq_some_iff.1 q
  simp only[Prod.mk.injEq] at hq
  obtain ⟨q1,q2,q3⟩:=hq
  obtain rfl:c'=c:=by omega
  rw[←q2,←q3] at h3
  rcases CA hk h3 with ⟨rfl,h4⟩|⟨rfl,h4⟩
  ·rw[lD hfr h4];omega
  ·rw[j8 hfr h4];rfl
 ·have:C5 (aF s k)=none:=C4 ⟨aF s k,aU⟩ (by
   rw[List.all_eq_true]
   intro f hf
   obtain ⟨j,hj⟩:=List.getElem?_of_mem hf
   have:=xM j f.1 f.2.1 f.2.2.1 f.2.2.2.1 f.2.2.2.2 hj
   rw[bq] at this
   simp only[Bool.not_eq_true',Bool.and_eq_false_iff,decide_eq_false_iff_not]
   by_cases q:f.1≤(aF s k:Int)
   ·exact .inr (fun q2=>this ⟨q,q2⟩)
   ·exact .inl q)
  rw[gF this]
  rfl
noncomputable def dH (s:ByteArray) (k:Nat):Int :=
 if _h:k<s.size then if _h2:gf s k=0 then (k:Int) else dH s (k+gf s k) else -1
termination_by s.size-k
decreasing_by omega
theorem Du {s:ByteArray}{k:Nat} (h:¬k<s.size):dH s k=-1:=by rw[dH,dif_neg h]
theorem Dv {s:ByteArray}{k:Nat} (h:k<s.size) (h2:gf s k=0):dH s k=(k:Int):=by rw[dH,dif_pos h,dif_pos h2]
theorem Aa {s:ByteArray}{k:Nat} (h:k<s.size) (h2:¬gf s k=0):dH s k=dH s (k+gf s k):=by rw[dH,dif_pos h,dif_neg h2]
theorem Ab {W:World} (h:jS W) (s:ByteArray) (hs:s.size≤140737488351232) :
  Calls Tryz.prog 63 #[.string s] W fun e w=>e=.returned (.int .i64 (dH s 0))∧Below W.heap.size W w:=by
 have bq:=zE W.heap.size W
 go_enter Tryz.func63,Tryz.ntmps63
 go_wp2
 go_loopg [3,4] s.size (fun gk v3 _ wr=>∃(k:Nat),v3=.int .i64 (k:Int)∧gk=s.size-k∧k≤s.size∧Hid (Below W.heap.size W wr)∧Hid (dH s 0=dH s k))
 case atStart=>exact ⟨0,rfl,rfl,by omega,bq,rfl⟩
 case round =>
  obtain ⟨k,rfl,bd,hk,HB,Hu⟩:=hrel
  have bH:=ak bd
  clear bd
  by_cases aU:k<s.size
  ·have hx:=extract_size s k s.size (zD _)
   go_wp2_with fail
   refine (KA (h.up (ab HB)) (s.extract k s.size) (by omega) (by omega)).mono ?_
   rintro e w2 ⟨b9,n,rfl,hn⟩
   obtain rfl:=Bs aU hn
   have dF:Hid (Below W.heap.size W w2):=(ab HB).trans (b9.mono (ab HB).size)
   obtain ⟨q1,q2⟩:=zk s k hk
   clear hn b9 hx HB
   by_cases h0:gf s k=0
   ·have Hr:Hid (dH s 0=(k:Int)):=(ab Hu).trans (Dv aU h0)
    rw[h0]
    clear h0 q1 q2
    go_wp2
    go_ret
    exact ⟨by rw[ab Hr];rfl,ab dF⟩
   ·have Hr:Hid (dH s 0=dH s (k+gf s k)):=(ab Hu).trans (Aa aU h0)
    obtain ⟨n,hn⟩:∃n,n=gf s k:=⟨_,rfl⟩
    rw[←hn] at h0 q1 q2 Hr ⊢
    have n0:((n:Int)==0)=false:=by simp;omega
    clear hn
    go_wp2
    go_roundg (s.size-(k+n))
    case measure=>have:=ab bH;omega
    case rel=>exact ⟨k+n,by go_num,rfl,by omega,dF,Hr⟩
  ·have Hr:Hid (dH s 0=-1):=(ab Hu).trans (Du aU)
   obtain rfl:k=s.size:=by omega
   go_wp2
   go_ret
   exact ⟨by rw[ab Hr];rfl,ab HB⟩
end Go.Proofs.YtghioefalckgoaaGreatDoor

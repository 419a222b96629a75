import Derived.Test.YtmlphohdcejniaaGreatDoorM00
import Derived.Lib.Strings
import Derived.Deep.RegionLaw
set_option maxHeartbeats 4000000
set_option maxRecDepth 100000
namespace Go.Proofs.YtmlphohdcejniaaGreatDoor
open Go.RowKit
attribute [local go_sem ↓] Go.wp_at_zero Go.wp_at_succ
def ax (s:ByteArray) (i:Nat):Nat:=if h:i<s.size then s[i].toNat else 0
def Gp (s:ByteArray) (c:Nat) (d e:Int):Prop:=1+c≤s.size∧∀k,1≤k→k<1+c→(if k=1 then d else 128)≤(ax s k:Int)∧(ax s k:Int)≤(if k=1 then e else 191)
def AS (s:ByteArray) (c:Nat) (d e n:Int):Prop:=n=1+(c:Int)∧Gp s c d e∨n=0∧¬Gp s c d e
theorem D0 (W:World) (s:ByteArray) (hs:s.size≤140737488351232) (a b d e:Int) (c:Nat) (hc:c≤3) :
  Calls Tryz.prog 58 #[.agg #[.int .u8 a,.int .u8 b,.int .u8 (c:Int),.int .u8 d,.int .u8 e],.string s] W fun o W'=>Below W.heap.size W W'∧∃n:Int,o=.returned (.int .i64 n)∧AS s c d e n:=by
 have hw:wrap64 (1+(c:Int))=1+(c:Int):=by rw[xZ];omega
 by_cases h:1+c≤s.size
 ·have hd:decide ((s.size:Int)<1+(c:Int))=false:=by simp;omega
  go_enter Tryz.func58,Tryz.ntmps58
  go_wp2_with fail
  go_quiet (fail)
  go_wp2
  have S2:∀n,Below W.heap.size W ((W.alloc (.cells #[.int .u8 a,.int .u8 b,.int .u8 (c:Int),.int .u8 d,.int .u8 e] 116)).drewN n):=fun n=>by
   have hB:Below W.heap.size W (W.alloc (.cells #[.int .u8 a,.int .u8 b,.int .u8 (c:Int),.int .u8 d,.int .u8 e] 116)):=(zE _ _).alloc (zD _) _
   exact ⟨hB.os,hB.tape,hB.output,hB.size,hB.block⟩
  go_loopg [6,7,8] c (fun gk v6 v7 v8 wr=>∃(i:Nat) (L H:Int),v8=.int .i64 (i:Int)∧v6=.int .u8 L∧v7=.int .u8 H∧L=(if i=1 then d else 128)∧H=(if i=1 then e else 191)∧1≤i∧i≤1+c∧gk=1+c-i∧(∀k,1≤k→k<i→(if k=1 then d else 128)≤(ax s k:Int)∧(ax s k:Int)≤(if k=1 then e else 191))∧Below W.heap.size W wr)
  case atStart=>exact ⟨1,d,e,rfl,rfl,rfl,rfl,rfl,zD _,by omega,by omega,fun k h1 h2=>by omega,S2 _⟩
  case round =>
   obtain ⟨i,L,H,rfl,rfl,rfl,hL,hH,h1,hi,eN,kN,hB⟩:=hrel
   clear S2
   have fQ:=aj eN
   have tJ:=aj kN
   clear eN kN
   by_cases cc:i<1+c
   ·have hsi:i<s.size:=by omega
    obtain ⟨x,hx⟩:∃x:Nat,s[i].toNat=x:=⟨_,rfl⟩
    have yE:ax s i=x:=by unfold ax;rw[dif_pos hsi];exact hx
    have i0:(0:Int)≤(i:Int):=zH _
    have i1:(i:Int)<(s.size:Int):=by clear hw;omega
    have i2:(i:Int)<1+(c:Int):=by clear hw;omega
    have HL:=aj hL
    have HH:=aj hH
    have Hb:=aj yE
    clear hL hH yE
    by_cases c1:(x:Int)<L
    ·go_wp2
     go_ret
     clear hw
     exact ⟨hB,0,rfl,.inr ⟨rfl,fun q=>by have q1:=q.2 i h1 cc;rw[aa Hb,←aa HL,←aa HH] at q1;omega⟩⟩
    ·have c1':decide ((x:Int)<L)=false:=by simp;omega
     by_cases c2:H<(x:Int)
     ·have C1:=aj c1
      clear c1
      go_wp2
      go_ret
      clear hw
      exact ⟨hB,0,rfl,.inr ⟨rfl,fun q=>by have q1:=q.2 i h1 cc;rw[aa Hb,←aa HL,←aa HH] at q1;omega⟩⟩
     ·have xu:decide (H<(x:Int))=false:=by simp;omega
      have C1:=aj c1
      have C2:=aj c2
      clear c1 c2
      go_wp2
      go_roundg (c-i)
      case measure=>have:=aa fQ;clear hw;omega
      case rel =>
       clear hw
       refine ⟨i+1,128,191,by go_num,rfl,rfl,by rw[if_neg (by omega)],by rw[if_neg (by omega)],by omega,by omega,by omega,fun k k1 k2=>?_,hB⟩
       by_cases hk:k=i
       ·subst hk
        have q1:=aa C1
        have q2:=aa C2
        rw[aa Hb,←aa HL,←aa HH]
        omega
       ·exact aa tJ k k1 (by omega)
   ·obtain rfl:i=1+c:=by omega
    have hnl:decide ((((1+c:Nat):Int))<1+(c:Int))=false:=by simp
    go_wp2
    go_ret
    exact ⟨hB,_,rfl,.inl ⟨rfl,h,aa tJ⟩⟩
 ·have hd:(s.size:Int)<1+(c:Int):=by omega
  go_enter Tryz.func58,Tryz.ntmps58
  go_wp2
  go_ret
  exact ⟨(zE _ _).alloc (zD _) _,0,rfl,.inr ⟨rfl,fun q=>h q.1⟩⟩
def Da (s:ByteArray) (n:Int):Prop:=(∃(i:Nat) (a b:Int) (c:Nat) (d e:Int),ka[i]?=some (a,b,(c:Int),d,e)∧a≤(ax s 0:Int)∧(ax s 0:Int)≤b∧AS s c d e n)∨((∀(i:Nat) (a b c d e:Int),ka[i]?=some (a,b,c,d,e)→¬(a≤(ax s 0:Int)∧(ax s 0:Int)≤b))∧n=0)
theorem Ev:∀(i:Nat) (a b c d e:Int),ka[i]?=some (a,b,c,d,e)→0≤c∧c≤3:=by
 intro i a b c d e h
 have key:∀x ∈ ka,0≤x.2.2.1∧x.2.2.1≤3:=by decide
 exact key _ (List.mem_of_getElem? h)
theorem MB {W:World} (h:mA W) (s:ByteArray) (Wh:0<s.size) (hs:s.size≤140737488351232) :
  Calls Tryz.prog 44 #[.string s] W fun o W'=>Below W.heap.size W W'∧∃n:Int,o=.returned (.int .i64 n)∧Da s n:=by
 obtain ⟨x,hx⟩:∃x:Nat,s[0].toNat=x:=⟨_,rfl⟩
 have yE:ax s 0=x:=by unfold ax;rw[dif_pos Wh];exact hx
 have Hb:=aj yE
 have hs':(0:Int)<(s.size:Int):=by omega
 clear yE
 go_enter Tryz.func44,Tryz.ntmps44
 go_wp2
 go_loopg [5] 9 (fun gk v5 wr=>∃(i:Nat),v5=.int .i64 (i:Int)∧gk=9-i∧i≤9∧(∀(j:Nat) (a b c d e:Int),j<i→ka[j]?=some (a,b,c,d,e)→¬(a≤(x:Int)∧(x:Int)≤b))∧Below W.heap.size W wr)
 case atStart=>exact ⟨0,rfl,rfl,by decide,fun j _ _ _ _ _ hj=>by omega,zE _ _⟩
 case round =>
  obtain ⟨i,rfl,eN,NG,kN,hB⟩:=hrel
  have fQ:=aj eN
  have tJ:=aj kN
  clear eN kN
  by_cases cc:i<9
  ·obtain ⟨⟨a,b,c',d,e⟩,hf⟩:∃x,ka[i]?=some x:=⟨_,List.getElem?_eq_getElem (by rw[nr];exact cc)⟩
   obtain ⟨m1,m2⟩:=Ev i a b c' d e hf
   obtain ⟨c,rfl⟩:∃c:Nat,c'=(c:Int):=⟨c'.toNat,by omega⟩
   obtain ⟨q0,q1,q2,q3,q4⟩:=(h.up hB).2 i a b c d e hf
   have WO:(0:Int)≤(i:Int):=zH _
   have SH:(i:Int)<9:=by omega
   have kC:c≤3:=by omega
   have Hf:=aj hf
   have Xp:∀n,Below W.heap.size W ((wr.alloc (.cells #[.int .u8 a,.int .u8 b,.int .u8 (c:Int),.int .u8 d,.int .u8 e] 116)).drewN n):=fun n=>by
    have FY:=hB.alloc hB.size (.cells #[.int .u8 a,.int .u8 b,.int .u8 (c:Int),.int .u8 d,.int .u8 e] 116)
    exact ⟨FY.os,FY.tape,FY.output,FY.size,FY.block⟩
   clear hf m1 m2
   by_cases c1:a≤(x:Int)
   ·by_cases c2:(x:Int)≤b
    ·go_wp2_with fail
     go_quiet (fail)
     go_wp2_with fail
     refine (D0 _ s hs a b d e c kC).mono ?_
     rintro o w2 ⟨bH,n,rfl,hn⟩
     have LS:=(Xp _).trans (bH.mono (Xp _).size)
     have Hn:=aj hn
     clear hn Xp
     go_wp2
     go_ret
     exact ⟨LS,n,rfl,.inl ⟨i,a,b,c,d,e,aa Hf,by rw[aa Hb];exact c1,by rw[aa Hb];exact c2,aa Hn⟩⟩
    ·have xu:decide ((x:Int)≤b)=false:=by simp;omega
     have C2:=aj c2
     clear c2
     go_wp2_with fail
     go_quiet (fail)
     go_wp2
     go_roundg (9-(i+1))
     case measure=>have:=aa fQ;omega
     case rel =>
      refine ⟨i+1,by go_num,rfl,by omega,fun j a' b' c'' d' e' hj QG=>?_,Xp _⟩
      by_cases hji:j=i
      ·subst hji
       obtain ⟨rfl,rfl,_⟩:a=a'∧b=b'∧_:=by have:=(aa Hf).symm.trans QG;simpa using this
       exact fun q=>by have:=aa C2;omega
      ·exact aa tJ j a' b' c'' d' e' (by omega) QG
   ·have c1':decide (a≤(x:Int))=false:=by simp;omega
    have C1:=aj c1
    clear c1
    go_wp2_with fail
    go_quiet (fail)
    go_wp2
    go_roundg (9-(i+1))
    case measure=>have:=aa fQ;omega
    case rel =>
     refine ⟨i+1,by go_num,rfl,by omega,fun j a' b' c'' d' e' hj QG=>?_,Xp _⟩
     by_cases hji:j=i
     ·subst hji
      obtain ⟨rfl,rfl,_⟩:a=a'∧b=b'∧_:=by have:=(aa Hf).symm.trans QG;simpa using this
      exact fun q=>by have:=aa C1;omega
     ·exact aa tJ j a' b' c'' d' e' (by omega) QG
  ·obtain rfl:i=9:=by omega
   go_wp2
   go_ret
   refine ⟨hB,0,rfl,.inr ⟨fun j a b c d e hf=>?_,rfl⟩⟩
   have hj:j<9:=by have:=(zB hf).1;rw[nr] at this;exact this
   rw[aa Hb]
   exact aa tJ j a b c d e hj hf
def L1 (x:Nat):Option (Nat×Nat×Nat) :=
 if x<128 then some (0,0,0) else if x<194 then none else if x<224 then some (1,128,191) else if x=224 then some (2,160,191) else if x<237 then some (2,128,191)
 else if x=237 then some (2,128,159) else if x<240 then some (2,128,191) else if x=240 then some (3,144,191) else if x<244 then some (3,128,191) else if x=244 then some (3,128,143) else none
theorem lB (s:ByteArray) (i:Nat):ax s i<256:=by
 unfold ax
 split
 ·exact UInt8.toNat_lt _
 ·decide
theorem jT (s:ByteArray) (i:Nat) (h:i<s.size):ax s i=(s[i]'h).toNat:=by unfold ax;rw[dif_pos h]
theorem extract_size (s:ByteArray) (k n:Nat) (hn:n≤s.size):(s.extract k n).size=n-k:=by
 simp[ByteArray.size_extract]
 omega
theorem hU (s:ByteArray) (k n i:Nat) (hn:n≤s.size) (hi:k+i<n):ax (s.extract k n) i=ax s (k+i):=by
 rw[jT _ _ (by rw[extract_size s k n hn];omega),jT _ _ (by omega)]
 rw[ByteArray.getElem_extract]
def jO (s:ByteArray) (k c d e:Nat):Prop:=k+1+c≤s.size∧∀j,1≤j→j<1+c→(if j=1 then d else 128)≤ax s (k+j)∧ax s (k+j)≤(if j=1 then e else 191)
instance (s : ByteArray) (k c d e : Nat) : Decidable (jO s k c d e) := decidable_of_iff (k + 1 + c ≤ s.size ∧ ∀ j, j < 1 + c → 1 ≤ j → (if j = 1 then d else 128) ≤ ax s (k + j) ∧ ax s (k + j) ≤ (if j = 1 then e else 191)) ⟨fun h => ⟨h.1, fun j h1 h2 => h.2 j h2 h1⟩, fun h => ⟨h.1, fun j h1 h2 => h.2 j h2 h1⟩⟩
noncomputable def my (s:ByteArray) (k:Nat):Nat:=match L1 (ax s k) with
 |none=>0
 |some (c,d,e)=>if jO s k c d e then 1+c else 0
theorem yU {s:ByteArray}{k:Nat} (h:L1 (ax s k)=none):my s k=0:=by unfold my;rw[h]
theorem AJ {s:ByteArray}{k c d e:Nat} (h:L1 (ax s k)=some (c,d,e)) (h2:jO s k c d e):my s k=1+c:=by unfold my;rw[h];simp[h2]
theorem Gi {s:ByteArray}{k c d e:Nat} (h:L1 (ax s k)=some (c,d,e)) (h2:¬jO s k c d e):my s k=0:=by unfold my;rw[h];simp[h2]
theorem Te {x c d e:Nat} (h:L1 x=some (c,d,e)):c≤3:=by
 unfold L1 at h
 repeat' split at h
 all_goals first|(cases h;done)|(have:=zC h;simp at this;omega)
theorem PM (s:ByteArray) (k:Nat) (hk:k≤s.size):k+my s k≤s.size∧my s k≤4:=by
 cases hf:L1 (ax s k) with
 |none=>rw[yU hf];omega
 |some t =>
  obtain ⟨c,d,e⟩:=t
  have:=Te hf
  by_cases h:jO s k c d e
  ·rw[AJ hf h];have:=h.1;omega
  ·rw[Gi hf h];omega
theorem IH:∀(i:Fin 9) (x:Fin 256),(ka[i.val]?.any fun f=>decide (f.1≤(x.val:Int))&&decide ((x.val:Int)≤f.2.1))=true→(ka[i.val]?.any fun f=>decide ((L1 x.val).map (fun (t:Nat×Nat×Nat)=>((t.1:Int),(t.2.1:Int),(t.2.2:Int)))=some (f.2.2.1,f.2.2.2.1,f.2.2.2.2)))=true:=by decide +kernel
theorem Eu:∀(x:Fin 256),(ka.all fun f=>!(decide (f.1≤(x.val:Int))&&decide ((x.val:Int)≤f.2.1)))=true→L1 x.val=none:=by decide +kernel
theorem D3 {s:ByteArray}{k c d e:Nat}{n:Int} (hk:k<s.size) (h:AS (s.extract k s.size) c (d:Int) (e:Int) n):(n=1+(c:Int)∧jO s k c d e)∨(n=0∧¬jO s k c d e):=by
 have hz:=extract_size s k s.size (zD _)
 have key:Gp (s.extract k s.size) c (d:Int) (e:Int)↔jO s k c d e:=by
  unfold Gp jO
  constructor
  ·rintro ⟨h1,h2⟩
   rw[hz] at h1
   refine ⟨by omega,fun j j1 j2=>?_⟩
   have:=h2 j j1 j2
   rw[hU s k s.size j (zD _) (by omega)] at this
   split at this<;>split<;>omega
  ·rintro ⟨h1,h2⟩
   refine ⟨by rw[hz];omega,fun j j1 j2=>?_⟩
   have:=h2 j j1 j2
   rw[hU s k s.size j (zD _) (by omega)]
   split at this<;>split<;>omega
 rcases h with ⟨h1,h2⟩|⟨h1,h2⟩
 ·exact .inl ⟨h1,key.1 h2⟩
 ·exact .inr ⟨h1,mt key.2 h2⟩
theorem CK {s:ByteArray}{k:Nat}{n:Int} (hk:k<s.size) (h:Da (s.extract k s.size) n):n=(my s k:Int):=by
 have dN:ax (s.extract k s.size) 0=ax s k:=by rw[hU s k s.size 0 (zD _) (by omega)];rfl
 have cc:=lB s k
 rcases h with ⟨i,a,b,c,d,e,hf,h1,h2,h3⟩|⟨rj,rfl⟩
 ·rw[dN] at h1 h2
  have hi:i<9:=by have:=(zB hf).1;rw[nr] at this;exact this
  have q:=IH ⟨i,hi⟩ ⟨ax s k,cc⟩ (by simp only[hf,Option.any_some];simp[h1,h2])
  simp only[hf,Option.any_some,decide_eq_true_eq] at q
  obtain ⟨⟨c',d',e'⟩,hfr,hq⟩:=Option.map_eq_some_iff.1 q
  simp only[Prod.mk.injEq] at hq
  obtain ⟨q1,q2,q3⟩:=hq
  obtain rfl:c'=c:=by omega
  rw[←q2,←q3] at h3
  rcases D3 hk h3 with ⟨rfl,h4⟩|⟨rfl,h4⟩
  ·rw[AJ hfr h4];omega
  ·rw[Gi hfr h4];rfl
 ·have:L1 (ax s k)=none:=Eu ⟨ax s k,cc⟩ (by
   rw[List.all_eq_true]
   intro f hf
   obtain ⟨j,hj⟩:=List.getElem?_of_mem hf
   have:=rj j f.1 f.2.1 f.2.2.1 f.2.2.2.1 f.2.2.2.2 hj
   rw[dN] at this
   simp only[Bool.not_eq_true',Bool.and_eq_false_iff,decide_eq_false_iff_not]
   by_cases q:f.1≤(ax s k:Int)
   ·exact .inr (fun q2=>this ⟨q,q2⟩)
   ·exact .inl q)
  rw[yU this]
  rfl
noncomputable def cX (s:ByteArray) (k:Nat):Int :=
 if _h:k<s.size then if _h2:my s k=0 then (k:Int) else cX s (k+my s k) else -1
termination_by s.size-k
decreasing_by omega
theorem zj {s:ByteArray}{k:Nat} (h:¬k<s.size):cX s k=-1:=by rw[cX,dif_neg h]
theorem N6 {s:ByteArray}{k:Nat} (h:k<s.size) (h2:my s k=0):cX s k=(k:Int):=by rw[cX,dif_pos h,dif_pos h2]
theorem Bc {s:ByteArray}{k:Nat} (h:k<s.size) (h2:¬my s k=0):cX s k=cX s (k+my s k):=by rw[cX,dif_pos h,dif_neg h2]
theorem Bd {W:World} (h:mA W) (s:ByteArray) (hs:s.size≤140737488351232) :
  Calls Tryz.prog 27 #[.string s] W fun e w=>e=.returned (.int .i64 (cX s 0))∧Below W.heap.size W w:=by
 have dN:=zE W.heap.size W
 go_enter Tryz.func27,Tryz.ntmps27
 go_wp2
 go_loopg [3,4] s.size (fun gk v3 _ wr=>∃(k:Nat),v3=.int .i64 (k:Int)∧gk=s.size-k∧k≤s.size∧Hid (Below W.heap.size W wr)∧Hid (cX s 0=cX s k))
 case atStart=>exact ⟨0,rfl,rfl,by omega,dN,rfl⟩
 case round =>
  obtain ⟨k,rfl,eN,hk,HB,Hu⟩:=hrel
  have fQ:=aj eN
  clear eN
  by_cases cc:k<s.size
  ·have hx:=extract_size s k s.size (zD _)
   go_wp2_with fail
   refine (MB (h.up (aa HB)) (s.extract k s.size) (by omega) (by omega)).mono ?_
   rintro e w2 ⟨bH,n,rfl,hn⟩
   obtain rfl:=CK cc hn
   have iU:Hid (Below W.heap.size W w2):=(aa HB).trans (bH.mono (aa HB).size)
   obtain ⟨q1,q2⟩:=PM s k hk
   clear hn bH hx HB
   by_cases h0:my s k=0
   ·have Hr:Hid (cX s 0=(k:Int)):=(aa Hu).trans (N6 cc h0)
    rw[h0]
    clear h0 q1 q2
    go_wp2
    go_ret
    exact ⟨by rw[aa Hr];rfl,aa iU⟩
   ·have Hr:Hid (cX s 0=cX s (k+my s k)):=(aa Hu).trans (Bc cc h0)
    obtain ⟨n,hn⟩:∃n,n=my s k:=⟨_,rfl⟩
    rw[←hn] at h0 q1 q2 Hr ⊢
    have n0:((n:Int)==0)=false:=by simp;omega
    clear hn
    go_wp2
    go_roundg (s.size-(k+n))
    case measure=>have:=aa fQ;omega
    case rel=>exact ⟨k+n,by go_num,rfl,by omega,iU,Hr⟩
  ·have Hr:Hid (cX s 0=-1):=(aa Hu).trans (zj cc)
   obtain rfl:k=s.size:=by omega
   go_wp2
   go_ret
   exact ⟨by rw[aa Hr];rfl,aa HB⟩
end Go.Proofs.YtmlphohdcejniaaGreatDoor
namespace Go.Proofs.YtmlphohdcejniaaGreatDoor
open Go.RowKit
def qy (B c:Nat):Option Nat:=match CF c with
 |none=>none
 |some d=>if d<B then some d else none
def dI (B:Nat):Nat→List Nat→Nat→Nat→Nat×Nat
 |0,_,v,n=>(v,n)
 |_+1,[],v,n=>(v,n)
 |f+1,c::r,v,n=>match qy B c with
  |none=>(v,n)
  |some d=>dI B f r (v*B+d) (n+1)
def dJ (B:Nat):Nat→List Nat→Nat
 |0,_=>0
 |_+1,[]=>0
 |f+1,c::r=>match qy B c with
  |none=>0
  |some _=>dJ B f r+1
theorem lz (B v n:Nat) (l:List Nat):dI B 0 l v n=(v,n):=by cases l<;>rfl
theorem lA {B f c v n:Nat}{r:List Nat} (h:qy B c=none):dI B f (c::r) v n=(v,n):=by
 cases f with
 |zero=>rfl
 |succ f=>simp[dI,h]
theorem qK {B f c v n d:Nat}{r:List Nat} (h:qy B c=some d):dI B (f+1) (c::r) v n=dI B f r (v*B+d) (n+1):=by simp[dI,h]
theorem Sg {B c d:Nat} (h:qy B c=some d):d<B∧CF c=some d:=by
 unfold qy at h
 split at h
 ·cases h
 ·rename_i e he
  split at h
  ·obtain rfl:=zC h
   exact ⟨by assumption,he⟩
  ·cases h
theorem mZ {B:Nat}:∀(f:Nat) (l:List Nat) (v n:Nat),(dI B f l v n).2=n+dJ B f l
 |0,l,v,n=>by rw[lz];cases l<;>rfl
 |f+1,[],v,n=>rfl
 |f+1,c::r,v,n=>by
  cases h:qy B c with
  |none=>simp[dI,dJ,h]
  |some d=>simp only[dI,dJ,h];rw[mZ f r];omega
theorem yR {B:Nat} (hB:1≤B):∀(f:Nat) (l:List Nat) (v n:Nat),v≤(dI B f l v n).1
 |0,l,v,n=>by rw[lz];exact zD _
 |f+1,[],v,n=>zD _
 |f+1,c::r,v,n=>by
  cases h:qy B c with
  |none=>simp[dI,h]
  |some d =>
   simp only[dI,h]
   have:=yR hB f r (v*B+d) (n+1)
   have h2:v*1≤v*B:=Nat.mul_le_mul_left v hB
   omega
theorem qL {B:Nat} (hB:1≤B):∀(f:Nat) (l:List Nat) (v n:Nat),v≤255→cA B 255 (l.take (dJ B f l)) v=if (dI B f l v n).1≤255 then some (dI B f l v n).1 else none
 |0,l,v,n,hv=>by
  rw[lz]
  have:dJ B 0 l=0:=by cases l<;>rfl
  rw[this,if_pos hv]
  rfl
 |f+1,[],v,n,hv=>by
  show cA B 255 [] v=if v≤255 then some v else none
  rw[if_pos hv];rfl
 |f+1,c::r,v,n,hv=>by
  cases h:qy B c with
  |none =>
   rw[lA h]
   have:dJ B (f+1) (c::r)=0:=by simp[dJ,h]
   rw[this,if_pos hv]
   rfl
  |some d =>
   obtain ⟨h1,h2⟩:=Sg h
   rw[qK h]
   have:dJ B (f+1) (c::r)=dJ B f r+1:=by simp[dJ,h]
   rw[this,List.take_succ_cons]
   simp only[cA,h2]
   by_cases h3:v*B+d≤255
   ·rw[if_pos ⟨h1,h3⟩]
    exact qL hB f r _ _ h3
   ·rw[if_neg (fun q=>h3 q.2),if_neg]
    have:=yR hB f r (v*B+d) (n+1)
    omega
theorem AE {B:Nat}:∀(f:Nat) (l:List Nat),dJ B f l≤f∧dJ B f l≤l.length
 |0,l=>by cases l<;>simp[dJ]
 |f+1,[]=>by simp[dJ]
 |f+1,c::r=>by
  cases h:qy B c with
  |none=>simp[dJ,h]
  |some d=>have:=AE (B:=B) f r;simp[dJ,h];omega
def vF (c:Nat):Option Nat:=if c=97 then some 7 else if c=98 then some 8 else if c=102 then some 12 else if c=110 then some 10 else if c=114 then some 13 else if c=116 then some 9 else if c=118 then some 11 else if c=92∨c=39∨c=34 then some c else none
def fin (p:Nat×Nat) (k:Nat):Option (Nat×Nat):=if p.2=0∨255<p.1 then none else some (p.1,k+p.2)
def fy:List Nat→Option (Nat×Nat)
 |_::c::r=>match vF c with
  |some v=>some (v,2)
  |none=>if c=120∨c=88 then fin (dI 16 2 r 0 0) 2 else fin (dI 8 3 (c::r) 0 0) 1
 |_=>none
theorem Mf {l:List Nat}{b n:Nat} (h:fy l=some (b,n)):1≤n∧n≤l.length∧b<256:=by
 match l,h with
 |a::c::r,h =>
  simp only[fy] at h
  split at h
  ·rename_i v hv
   obtain ⟨rfl,rfl⟩:=Prod.mk.inj (zC h)
   refine ⟨by omega,by simp,?_⟩
   unfold vF at hv
   repeat' split at hv
   all_goals first|(have:=zC hv;omega)|cases hv
  ·split at h
   ·unfold fin at h
    split at h
    ·cases h
    ·rename_i hh
     obtain ⟨rfl,rfl⟩:=Prod.mk.inj (zC h)
     have h1:=mZ (B:=16) 2 r 0 0
     have h2:=AE (B:=16) 2 r
     simp only[List.length_cons]
     omega
   ·unfold fin at h
    split at h
    ·cases h
    ·rename_i hh
     obtain ⟨rfl,rfl⟩:=Prod.mk.inj (zC h)
     have h1:=mZ (B:=8) 3 (c::r) 0 0
     have h2:=AE (B:=8) 3 (c::r)
     simp only[List.length_cons] at *
     omega
 |[a],h=>simp[fy] at h
 |[],h=>simp[fy] at h
def cP (s:ByteArray) (k:Nat):Option (Nat×Nat):=if ax s k=0∨ax s k=10 then none else if ax s k=92 then fy ((aG s).drop k) else some (ax s k,1)
theorem gH {s:ByteArray}{k b n:Nat} (h:cP s k=some (b,n)) (hk:k<s.size):1≤n∧k+n≤s.size∧b<256:=by
 unfold cP at h
 split at h
 ·cases h
 ·split at h
  ·have:=Mf h
   rw[List.length_drop,bd] at this
   omega
  ·obtain ⟨rfl,rfl⟩:=Prod.mk.inj (zC h)
   have:=lB s k
   omega
def fR (s:ByteArray) (q k:Nat):Option (List Nat×Nat) :=
 if _h:k<s.size then
  if ax s k=q then some ([],k+1)
  else match cP s k with
   |none=>none
   |some (b,n)=>if _hn:1≤n then (fR s q (k+n)).map fun r=>(b::r.1,r.2) else none
 else none
termination_by s.size-k
decreasing_by omega
theorem lF {s:ByteArray}{q k:Nat} (h:¬k<s.size):fR s q k=none:=by rw[fR,dif_neg h]
theorem gP {s:ByteArray}{q k:Nat} (h:k<s.size) (h2:ax s k=q):fR s q k=some ([],k+1):=by rw[fR,dif_pos h,if_pos h2]
theorem qh {s:ByteArray}{q k:Nat} (h:k<s.size) (h2:¬ax s k=q) (h3:cP s k=none):fR s q k=none:=by rw[fR,dif_pos h,if_neg h2,h3]
theorem ku {s:ByteArray}{q k b n:Nat} (h:k<s.size) (h2:¬ax s k=q) (h3:cP s k=some (b,n)):fR s q k=(fR s q (k+n)).map fun r=>(b::r.1,r.2):=by
 rw[fR,dif_pos h,if_neg h2,h3]
 exact dif_pos (gH h3 h).1
theorem x9 {s:ByteArray}{q:Nat}:∀(m k:Nat) (l:List Nat) (e:Nat),s.size-k≤m→fR s q k=some (l,e)→k<e∧e≤s.size∧Jl l∧k+l.length<e:=by
 intro m
 induction m with
 |zero=>intro k l e hm h;rw[lF (by omega)] at h;cases h
 |succ m ih =>
  intro k l e hm h
  by_cases hk:k<s.size
  ·by_cases hq:ax s k=q
   ·rw[gP hk hq] at h
    obtain ⟨rfl,rfl⟩:=Prod.mk.inj (zC h)
    exact ⟨by omega,by omega,fun x hx=>by simp at hx,by simp⟩
   ·cases hp:cP s k with
    |none=>rw[qh hk hq hp] at h;cases h
    |some t =>
     obtain ⟨b,n⟩:=t
     obtain ⟨p1,p2,p3⟩:=gH hp hk
     rw[ku hk hq hp] at h
     obtain ⟨⟨l',e'⟩,h1,h2⟩:=Option.map_eq_some_iff.1 h
     obtain ⟨rfl,rfl⟩:=Prod.mk.inj h2
     obtain ⟨a1,a2,a3,a4⟩:=ih (k+n) l' e' (by omega) h1
     refine ⟨by omega,a2,fun x hx=>?_,by simp only[List.length_cons];omega⟩
     rcases List.mem_cons.1 hx with rfl|hx
     ·exact p3
     ·exact a3 x hx
  ·rw[lF hk] at h;cases h
def kJ (s:ByteArray):Option (List Nat×Nat):=if s.size=0 then none else if ax s 0=39∨ax s 0=34 then fR s (ax s 0) 1 else none
noncomputable def fN (s:ByteArray):ByteArray×Int:=if 65536<s.size then (.empty,2) else if 0≤cX s 0 then (.empty,44) else match kJ s with
 |none=>(.empty,42)
 |some (l,e)=>if e=s.size then (rO l,0) else (.empty,42)
def dS (s:ByteArray) (k:Nat):Nat:=if h:k<s.size∧(isLet (ax s k)∨bX (ax s k)) then dS s (k+1) else k
termination_by s.size-k
decreasing_by omega
def jB (s:ByteArray) (k:Nat):Nat:=if h:k<s.size∧¬ax s k=10 then jB s (k+1) else k
termination_by s.size-k
decreasing_by omega
def dk (s:ByteArray) (k:Nat):Nat:=if h:k+2≤s.size∧¬(ax s k=42∧ax s (k+1)=47) then dk s (k+1) else k
termination_by s.size-k
decreasing_by omega
theorem yO (s:ByteArray) (k:Nat):k≤dS s k:=by
 rw[dS]
 split
 ·have:=yO s (k+1)
  omega
 ·exact zD _
termination_by s.size-k
decreasing_by omega
theorem qJ (s:ByteArray) (k:Nat) (h:k≤s.size):dS s k≤s.size:=by
 rw[dS]
 split
 ·exact qJ s (k+1) (by omega)
 ·exact h
termination_by s.size-k
decreasing_by omega
theorem tS (s:ByteArray) (k:Nat):k≤jB s k:=by
 rw[jB]
 split
 ·have:=tS s (k+1)
  omega
 ·exact zD _
termination_by s.size-k
decreasing_by omega
theorem zW (s:ByteArray) (k:Nat) (h:k≤s.size):jB s k≤s.size:=by
 rw[jB]
 split
 ·exact zW s (k+1) (by omega)
 ·exact h
termination_by s.size-k
decreasing_by omega
theorem jP (s:ByteArray) (k:Nat):k≤dk s k:=by
 rw[dk]
 split
 ·have:=jP s (k+1)
  omega
 ·exact zD _
termination_by s.size-k
decreasing_by omega
theorem zV {s:ByteArray}{k:Nat} (h:k<s.size) (h2:ax s k=47):k<jB s k:=by
 rw[jB,dif_pos ⟨h,by omega⟩]
 have:=tS s (k+1)
 omega
def lk (c:Nat):Prop:=(9≤c∧c≤13)∨c=32
instance (c : Nat) : Decidable (lk c) := by unfold lk; infer_instance
def bz (s:ByteArray):Nat→Nat→Nat×Bool
 |0,k=>(k,true)
 |f+1,k=>if k<s.size then
   if lk (ax s k) then bz s f (k+1)
   else if k+2≤s.size∧ax s k=47∧ax s (k+1)=47 then bz s f (jB s k)
   else if k+2≤s.size∧ax s k=47∧ax s (k+1)=42 then
    if dk s (k+2)+2≤s.size then bz s f (dk s (k+2)+2) else (k,false)
   else (k,true)
  else (k,true)
theorem lK (s:ByteArray):∀(f f' k:Nat),s.size-k≤f→s.size-k≤f'→bz s f k=bz s f' k:=by
 intro f
 induction f with
 |zero =>
  intro f' k hf QG
  cases f' with
  |zero=>rfl
  |succ f'=>rw[bz,bz,if_neg (by omega)]
 |succ f ih =>
  intro f' k hf QG
  cases f' with
  |zero=>rw[bz,bz,if_neg (by omega)]
  |succ f' =>
   rw[bz,bz]
   by_cases h:k<s.size
   ·rw[if_pos h,if_pos h]
    split
    ·exact ih f' (k+1) (by omega) (by omega)
    ·split
     ·rename_i h2
      have:=zV h h2.2.1
      exact ih f' _ (by omega) (by omega)
     ·split
      ·have:=jP s (k+2)
       split
       ·exact ih f' _ (by omega) (by omega)
       ·rfl
      ·rfl
   ·rw[if_neg h,if_neg h]
theorem JR {s:ByteArray}{k:Nat} (h:k+2≤s.size):(s.extract k (k+2)).data.toList=[s[k],s[k+1]]:=by
 rw[ByteArray.data_extract,Array.toList_extract]
 apply List.ext_getElem?
 intro i
 rw[List.getElem?_take,List.getElem?_drop]
 match i with
 |0=>simp;exact Array.getElem?_eq_getElem (by show k<s.size;omega)
 |1=>simp;exact Array.getElem?_eq_getElem (by show k+1<s.size;omega)
 |i+2=>simp;omega
theorem Rx {s:ByteArray}{k:Nat} (h:k+2≤s.size) (a b:UInt8):((s.extract k (k+2)).data.toList=[a,b])↔(ax s k=a.toNat∧ax s (k+1)=b.toNat):=by
 rw[JR h]
 unfold ax
 rw[dif_pos (by omega),dif_pos (by omega)]
 simp[UInt8.toNat_inj]
end Go.Proofs.YtmlphohdcejniaaGreatDoor
namespace Go.Proofs.YtmlphohdcejniaaGreatDoor
open Go.RowKit
attribute [local go_sem ↓] Go.wp_at_zero Go.wp_at_succ
def cB (W:World) (b:Nat) (s:ByteArray) (k:Nat) (v:Value):Prop:=W.heap[b]?=some (.cells #[.string s,.int .i64 (k:Int),v] 75 (0,0))
theorem cB.c0 {W:World}{b:Nat}{s:ByteArray}{k:Nat}{v:Value} (h:cB W b s k v):W.cell? ⟨b,0,none⟩=some (.string s):=by rw[cell_of_row _ _ _ _ _ _ h];rfl
theorem cB.c1 {W:World}{b:Nat}{s:ByteArray}{k:Nat}{v:Value} (h:cB W b s k v):W.cell? ⟨b,1,none⟩=some (.int .i64 (k:Int)):=by rw[cell_of_row _ _ _ _ _ _ h];rfl
theorem cB.c2 {W:World}{b:Nat}{s:ByteArray}{k:Nat}{v:Value} (h:cB W b s k v):W.cell? ⟨b,2,none⟩=some v:=by rw[cell_of_row _ _ _ _ _ _ h];rfl
theorem cB.lt {W:World}{b:Nat}{s:ByteArray}{k:Nat}{v:Value} (h:cB W b s k v):b<W.heap.size:=(zA h).1
theorem kY {W:World}{b:Nat}{s:ByteArray}{k:Nat}{v:Value} (h:cB W b s k v) (hk:k≤s.size) :
  Calls Tryz.prog 64 #[.pointer (some ⟨b,0,none⟩)] W fun e w=>e=.returned (.string (s.extract k s.size))∧∃n,w=W.drewN n:=by
 have c0:=h.c0
 have c1:=h.c1
 have k0:(0:Int)≤(k:Int):=zH _
 have k1:(k:Int)≤(s.size:Int):=by omega
 clear h
 go_enter Tryz.func64,Tryz.ntmps64
 go_wp2_with fail
 go_quiet (fail)
 go_wp2
 go_ret
 exact ⟨rfl,_,rfl⟩
theorem rA (s:ByteArray) (k n:Nat) (h:k+n≤s.size):(s.extract k s.size).extract 0 n=s.extract k (k+n):=by
 apply ByteArray.ext
 rw[ByteArray.data_extract,ByteArray.data_extract,ByteArray.data_extract]
 apply Array.ext'
 rw[Array.toList_extract,Array.toList_extract,Array.toList_extract]
 have hl:s.data.toList.length=s.size:=rfl
 apply List.ext_getElem?
 intro i
 simp only[List.extract_eq_take_drop,List.getElem?_take,List.getElem?_drop]
 by_cases hi:i<n
 ·rw[if_pos (by omega),if_pos (by omega),if_pos (by omega)]
  congr 1
  omega
 ·rw[if_neg (by omega),if_neg (by omega)]
end Go.Proofs.YtmlphohdcejniaaGreatDoor

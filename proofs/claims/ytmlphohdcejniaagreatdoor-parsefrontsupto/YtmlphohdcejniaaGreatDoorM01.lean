import Derived.Test.YtmlphohdcejniaaGreatDoorM00
import Derived.Lib.Strings
import Derived.Deep.RegionLaw
set_option maxHeartbeats 4000000
set_option maxRecDepth 100000
namespace Go.Proofs.YtmlphohdcejniaaGreatDoor
open Go.RowKit
attribute [local go_sem ↓] Go.wp_at_zero Go.wp_at_succ
def ax (s:ByteArray) (i:Nat):Nat:=if h:i<s.size then s[i].toNat else 0
def IN (s:ByteArray) (c:Nat) (d e:Int):Prop:=1+c≤s.size∧∀k,1≤k→k<1+c→(if k=1 then d else 128)≤(ax s k:Int)∧(ax s k:Int)≤(if k=1 then e else 191)
def Co (s:ByteArray) (c:Nat) (d e n:Int):Prop:=n=1+(c:Int)∧IN s c d e∨n=0∧¬IN s c d e
theorem FD (W:World) (s:ByteArray) (hs:s.size≤140737488351232) (a b d e:Int) (c:Nat) (hc:c≤3) :
  Calls Tryz.prog 58 #[.agg #[.int .u8 a,.int .u8 b,.int .u8 (c:Int),.int .u8 d,.int .u8 e],.string s] W fun o W'=>Below W.heap.size W W'∧∃n:Int,o=.returned (.int .i64 n)∧Co s c d e n:=by
 have hw:wrap64 (1+(c:Int))=1+(c:Int):=by rw[zw];omega
 by_cases h:1+c≤s.size
 ·have hd:decide ((s.size:Int)<1+(c:Int))=false:=by simp;omega
  go_enter Tryz.func58,Tryz.ntmps58
  go_wp2_with fail
  go_quiet (fail)
  go_wp2
  have U3:∀n,Below W.heap.size W ((W.alloc (.cells #[.int .u8 a,.int .u8 b,.int .u8 (c:Int),.int .u8 d,.int .u8 e] 116)).drewN n):=fun n=>by
   have hB:Below W.heap.size W (W.alloc (.cells #[.int .u8 a,.int .u8 b,.int .u8 (c:Int),.int .u8 d,.int .u8 e] 116)):=(zE _ _).alloc (zD _) _
   exact ⟨hB.os,hB.tape,hB.output,hB.size,hB.block⟩
  go_loopg [6,7,8] c (fun gk v6 v7 v8 wr=>∃(i:Nat) (L H:Int),v8=.int .i64 (i:Int)∧v6=.int .u8 L∧v7=.int .u8 H∧L=(if i=1 then d else 128)∧H=(if i=1 then e else 191)∧1≤i∧i≤1+c∧gk=1+c-i∧(∀k,1≤k→k<i→(if k=1 then d else 128)≤(ax s k:Int)∧(ax s k:Int)≤(if k=1 then e else 191))∧Below W.heap.size W wr)
  case atStart=>exact ⟨1,d,e,rfl,rfl,rfl,rfl,rfl,zD _,by omega,by omega,fun k h1 h2=>by omega,U3 _⟩
  case round =>
   obtain ⟨i,L,H,rfl,rfl,rfl,hL,hH,h1,hi,fi,jq,hB⟩:=hrel
   clear U3
   have gA:=aj fi
   have vd:=aj jq
   clear fi jq
   by_cases cw:i<1+c
   ·have hsi:i<s.size:=by omega
    obtain ⟨x,hx⟩:∃x:Nat,s[i].toNat=x:=⟨_,rfl⟩
    have At:ax s i=x:=by unfold ax;rw[dif_pos hsi];exact hx
    have i0:(0:Int)≤(i:Int):=zH _
    have i1:(i:Int)<(s.size:Int):=by clear hw;omega
    have i2:(i:Int)<1+(c:Int):=by clear hw;omega
    have HL:=aj hL
    have HH:=aj hH
    have Hb:=aj At
    clear hL hH At
    by_cases c1:(x:Int)<L
    ·go_wp2
     go_ret
     clear hw
     exact ⟨hB,0,rfl,.inr ⟨rfl,fun q=>by have q1:=q.2 i h1 cw;rw[aa Hb,←aa HL,←aa HH] at q1;omega⟩⟩
    ·have c1':decide ((x:Int)<L)=false:=by simp;omega
     by_cases c2:H<(x:Int)
     ·have C1:=aj c1
      clear c1
      go_wp2
      go_ret
      clear hw
      exact ⟨hB,0,rfl,.inr ⟨rfl,fun q=>by have q1:=q.2 i h1 cw;rw[aa Hb,←aa HL,←aa HH] at q1;omega⟩⟩
     ·have yO:decide (H<(x:Int))=false:=by simp;omega
      have C1:=aj c1
      have C2:=aj c2
      clear c1 c2
      go_wp2
      go_roundg (c-i)
      case measure=>have:=aa gA;clear hw;omega
      case rel =>
       clear hw
       refine ⟨i+1,128,191,by go_num,rfl,rfl,by rw[if_neg (by omega)],by rw[if_neg (by omega)],by omega,by omega,by omega,fun k k1 k2=>?_,hB⟩
       by_cases hk:k=i
       ·subst hk
        have q1:=aa C1
        have q2:=aa C2
        rw[aa Hb,←aa HL,←aa HH]
        omega
       ·exact aa vd k k1 (by omega)
   ·obtain rfl:i=1+c:=by omega
    have hnl:decide ((((1+c:Nat):Int))<1+(c:Int))=false:=by simp
    go_wp2
    go_ret
    exact ⟨hB,_,rfl,.inl ⟨rfl,h,aa vd⟩⟩
 ·have hd:(s.size:Int)<1+(c:Int):=by omega
  go_enter Tryz.func58,Tryz.ntmps58
  go_wp2
  go_ret
  exact ⟨(zE _ _).alloc (zD _) _,0,rfl,.inr ⟨rfl,fun q=>h q.1⟩⟩
def EM (s:ByteArray) (n:Int):Prop:=(∃(i:Nat) (a b:Int) (c:Nat) (d e:Int),kN[i]?=some (a,b,(c:Int),d,e)∧a≤(ax s 0:Int)∧(ax s 0:Int)≤b∧Co s c d e n)∨((∀(i:Nat) (a b c d e:Int),kN[i]?=some (a,b,c,d,e)→¬(a≤(ax s 0:Int)∧(ax s 0:Int)≤b))∧n=0)
theorem F6:∀(i:Nat) (a b c d e:Int),kN[i]?=some (a,b,c,d,e)→0≤c∧c≤3:=by
 intro i a b c d e h
 have key:∀x ∈ kN,0≤x.2.2.1∧x.2.2.1≤3:=by decide
 exact key _ (List.mem_of_getElem? h)
theorem Oq {W:World} (h:nn W) (s:ByteArray) (Ym:0<s.size) (hs:s.size≤140737488351232) :
  Calls Tryz.prog 44 #[.string s] W fun o W'=>Below W.heap.size W W'∧∃n:Int,o=.returned (.int .i64 n)∧EM s n:=by
 obtain ⟨x,hx⟩:∃x:Nat,s[0].toNat=x:=⟨_,rfl⟩
 have At:ax s 0=x:=by unfold ax;rw[dif_pos Ym];exact hx
 have Hb:=aj At
 have hs':(0:Int)<(s.size:Int):=by omega
 clear At
 go_enter Tryz.func44,Tryz.ntmps44
 go_wp2
 go_loopg [5] 9 (fun gk v5 wr=>∃(i:Nat),v5=.int .i64 (i:Int)∧gk=9-i∧i≤9∧(∀(j:Nat) (a b c d e:Int),j<i→kN[j]?=some (a,b,c,d,e)→¬(a≤(x:Int)∧(x:Int)≤b))∧Below W.heap.size W wr)
 case atStart=>exact ⟨0,rfl,rfl,by decide,fun j _ _ _ _ _ hj=>by omega,zE _ _⟩
 case round =>
  obtain ⟨i,rfl,fi,KO,jq,hB⟩:=hrel
  have gA:=aj fi
  have vd:=aj jq
  clear fi jq
  by_cases cw:i<9
  ·obtain ⟨⟨a,b,c',d,e⟩,hf⟩:∃x,kN[i]?=some x:=⟨_,List.getElem?_eq_getElem (by rw[ot];exact cw)⟩
   obtain ⟨m1,m2⟩:=F6 i a b c' d e hf
   obtain ⟨c,rfl⟩:∃c:Nat,c'=(c:Int):=⟨c'.toNat,by omega⟩
   obtain ⟨q0,q1,q2,q3,q4⟩:=(h.up hB).2 i a b c d e hf
   have YP:(0:Int)≤(i:Int):=zH _
   have UG:(i:Int)<9:=by omega
   have lr:c≤3:=by omega
   have Hf:=aj hf
   have Zn:∀n,Below W.heap.size W ((wr.alloc (.cells #[.int .u8 a,.int .u8 b,.int .u8 (c:Int),.int .u8 d,.int .u8 e] 116)).drewN n):=fun n=>by
    have Il:=hB.alloc hB.size (.cells #[.int .u8 a,.int .u8 b,.int .u8 (c:Int),.int .u8 d,.int .u8 e] 116)
    exact ⟨Il.os,Il.tape,Il.output,Il.size,Il.block⟩
   clear hf m1 m2
   by_cases c1:a≤(x:Int)
   ·by_cases c2:(x:Int)≤b
    ·go_wp2_with fail
     go_quiet (fail)
     go_wp2_with fail
     refine (FD _ s hs a b d e c lr).mono ?_
     rintro o w2 ⟨bJ,n,rfl,hn⟩
     have D0:=(Zn _).trans (bJ.mono (Zn _).size)
     have Hn:=aj hn
     clear hn Zn
     go_wp2
     go_ret
     exact ⟨D0,n,rfl,.inl ⟨i,a,b,c,d,e,aa Hf,by rw[aa Hb];exact c1,by rw[aa Hb];exact c2,aa Hn⟩⟩
    ·have yO:decide ((x:Int)≤b)=false:=by simp;omega
     have C2:=aj c2
     clear c2
     go_wp2_with fail
     go_quiet (fail)
     go_wp2
     go_roundg (9-(i+1))
     case measure=>have:=aa gA;omega
     case rel =>
      refine ⟨i+1,by go_num,rfl,by omega,fun j a' b' c'' d' e' hj SV=>?_,Zn _⟩
      by_cases hji:j=i
      ·subst hji
       obtain ⟨rfl,rfl,_⟩:a=a'∧b=b'∧_:=by have:=(aa Hf).symm.trans SV;simpa using this
       exact fun q=>by have:=aa C2;omega
      ·exact aa vd j a' b' c'' d' e' (by omega) SV
   ·have c1':decide (a≤(x:Int))=false:=by simp;omega
    have C1:=aj c1
    clear c1
    go_wp2_with fail
    go_quiet (fail)
    go_wp2
    go_roundg (9-(i+1))
    case measure=>have:=aa gA;omega
    case rel =>
     refine ⟨i+1,by go_num,rfl,by omega,fun j a' b' c'' d' e' hj SV=>?_,Zn _⟩
     by_cases hji:j=i
     ·subst hji
      obtain ⟨rfl,rfl,_⟩:a=a'∧b=b'∧_:=by have:=(aa Hf).symm.trans SV;simpa using this
      exact fun q=>by have:=aa C1;omega
     ·exact aa vd j a' b' c'' d' e' (by omega) SV
  ·obtain rfl:i=9:=by omega
   go_wp2
   go_ret
   refine ⟨hB,0,rfl,.inr ⟨fun j a b c d e hf=>?_,rfl⟩⟩
   have hj:j<9:=by have:=(zB hf).1;rw[ot] at this;exact this
   rw[aa Hb]
   exact aa vd j a b c d e hj hf
def NO (x:Nat):Option (Nat×Nat×Nat) :=
 if x<128 then some (0,0,0) else if x<194 then none else if x<224 then some (1,128,191) else if x=224 then some (2,160,191) else if x<237 then some (2,128,191)
 else if x=237 then some (2,128,159) else if x<240 then some (2,128,191) else if x=240 then some (3,144,191) else if x<244 then some (3,128,191) else if x=244 then some (3,128,143) else none
theorem mv (s:ByteArray) (i:Nat):ax s i<256:=by
 unfold ax
 split
 ·exact UInt8.toNat_lt _
 ·decide
theorem ku (s:ByteArray) (i:Nat) (h:i<s.size):ax s i=(s[i]'h).toNat:=by unfold ax;rw[dif_pos h]
theorem extract_size (s:ByteArray) (k n:Nat) (hn:n≤s.size):(s.extract k n).size=n-k:=by
 simp[ByteArray.size_extract]
 omega
theorem iI (s:ByteArray) (k n i:Nat) (hn:n≤s.size) (hi:k+i<n):ax (s.extract k n) i=ax s (k+i):=by
 rw[ku _ _ (by rw[extract_size s k n hn];omega),ku _ _ (by omega)]
 rw[ByteArray.getElem_extract]
def km (s:ByteArray) (k c d e:Nat):Prop:=k+1+c≤s.size∧∀j,1≤j→j<1+c→(if j=1 then d else 128)≤ax s (k+j)∧ax s (k+j)≤(if j=1 then e else 191)
instance (s : ByteArray) (k c d e : Nat) : Decidable (km s k c d e) := decidable_of_iff (k + 1 + c ≤ s.size ∧ ∀ j, j < 1 + c → 1 ≤ j → (if j = 1 then d else 128) ≤ ax s (k + j) ∧ ax s (k + j) ≤ (if j = 1 then e else 191)) ⟨fun h => ⟨h.1, fun j h1 h2 => h.2 j h2 h1⟩, fun h => ⟨h.1, fun j h1 h2 => h.2 j h2 h1⟩⟩
noncomputable def nj (s:ByteArray) (k:Nat):Nat:=match NO (ax s k) with
 |none=>0
 |some (c,d,e)=>if km s k c d e then 1+c else 0
theorem AO {s:ByteArray}{k:Nat} (h:NO (ax s k)=none):nj s k=0:=by unfold nj;rw[h]
theorem Cc {s:ByteArray}{k c d e:Nat} (h:NO (ax s k)=some (c,d,e)) (h2:km s k c d e):nj s k=1+c:=by unfold nj;rw[h];simp[h2]
theorem II {s:ByteArray}{k c d e:Nat} (h:NO (ax s k)=some (c,d,e)) (h2:¬km s k c d e):nj s k=0:=by unfold nj;rw[h];simp[h2]
theorem Vf {x c d e:Nat} (h:NO x=some (c,d,e)):c≤3:=by
 unfold NO at h
 repeat' split at h
 all_goals first|(cases h;done)|(have:=zC h;simp at this;omega)
theorem RN (s:ByteArray) (k:Nat) (hk:k≤s.size):k+nj s k≤s.size∧nj s k≤4:=by
 cases hf:NO (ax s k) with
 |none=>rw[AO hf];omega
 |some t =>
  obtain ⟨c,d,e⟩:=t
  have:=Vf hf
  by_cases h:km s k c d e
  ·rw[Cc hf h];have:=h.1;omega
  ·rw[II hf h];omega
theorem J8:∀(i:Fin 9) (x:Fin 256),(kN[i.val]?.any fun f=>decide (f.1≤(x.val:Int))&&decide ((x.val:Int)≤f.2.1))=true→(kN[i.val]?.any fun f=>decide ((NO x.val).map (fun (t:Nat×Nat×Nat)=>((t.1:Int),(t.2.1:Int),(t.2.2:Int)))=some (f.2.2.1,f.2.2.2.1,f.2.2.2.2)))=true:=by decide +kernel
theorem F5:∀(x:Fin 256),(kN.all fun f=>!(decide (f.1≤(x.val:Int))&&decide ((x.val:Int)≤f.2.1)))=true→NO x.val=none:=by decide +kernel
theorem FE {s:ByteArray}{k c d e:Nat}{n:Int} (hk:k<s.size) (h:Co (s.extract k s.size) c (d:Int) (e:Int) n):(n=1+(c:Int)∧km s k c d e)∨(n=0∧¬km s k c d e):=by
 have hz:=extract_size s k s.size (zD _)
 have key:IN (s.extract k s.size) c (d:Int) (e:Int)↔km s k c d e:=by
  unfold IN km
  constructor
  ·rintro ⟨h1,h2⟩
   rw[hz] at h1
   refine ⟨by omega,fun j j1 j2=>?_⟩
   have:=h2 j j1 j2
   rw[iI s k s.size j (zD _) (by omega)] at this
   split at this<;>split<;>omega
  ·rintro ⟨h1,h2⟩
   refine ⟨by rw[hz];omega,fun j j1 j2=>?_⟩
   have:=h2 j j1 j2
   rw[iI s k s.size j (zD _) (by omega)]
   split at this<;>split<;>omega
 rcases h with ⟨h1,h2⟩|⟨h1,h2⟩
 ·exact .inl ⟨h1,key.1 h2⟩
 ·exact .inr ⟨h1,mt key.2 h2⟩
theorem El {s:ByteArray}{k:Nat}{n:Int} (hk:k<s.size) (h:EM (s.extract k s.size) n):n=(nj s k:Int):=by
 have dZ:ax (s.extract k s.size) 0=ax s k:=by rw[iI s k s.size 0 (zD _) (by omega)];rfl
 have cw:=mv s k
 rcases h with ⟨i,a,b,c,d,e,hf,h1,h2,h3⟩|⟨rb,rfl⟩
 ·rw[dZ] at h1 h2
  have hi:i<9:=by have:=(zB hf).1;rw[ot] at this;exact this
  have q:=J8 ⟨i,hi⟩ ⟨ax s k,cw⟩ (by simp only[hf,Option.any_some];simp[h1,h2])
  simp only[hf,Option.any_some,decide_eq_true_eq] at q
  obtain ⟨⟨c',d',e'⟩,YT,hq⟩:=Option.map_eq_some_iff.1 q
  simp only[Prod.mk.injEq] at hq
  obtain ⟨q1,q2,q3⟩:=hq
  obtain rfl:c'=c:=by omega
  rw[←q2,←q3] at h3
  rcases FE hk h3 with ⟨rfl,h4⟩|⟨rfl,h4⟩
  ·rw[Cc YT h4];omega
  ·rw[II YT h4];rfl
 ·have:NO (ax s k)=none:=F5 ⟨ax s k,cw⟩ (by
   rw[List.all_eq_true]
   intro f hf
   obtain ⟨j,hj⟩:=List.getElem?_of_mem hf
   have:=rb j f.1 f.2.1 f.2.2.1 f.2.2.2.1 f.2.2.2.2 hj
   rw[dZ] at this
   simp only[Bool.not_eq_true',Bool.and_eq_false_iff,decide_eq_false_iff_not]
   by_cases q:f.1≤(ax s k:Int)
   ·exact .inr (fun q2=>this ⟨q,q2⟩)
   ·exact .inl q)
  rw[AO this]
  rfl
noncomputable def dq (s:ByteArray) (k:Nat):Int :=
 if _h:k<s.size then if _h2:nj s k=0 then (k:Int) else dq s (k+nj s k) else -1
termination_by s.size-k
decreasing_by omega
theorem A5 {s:ByteArray}{k:Nat} (h:¬k<s.size):dq s k=-1:=by rw[dq,dif_neg h]
theorem PV {s:ByteArray}{k:Nat} (h:k<s.size) (h2:nj s k=0):dq s k=(k:Int):=by rw[dq,dif_pos h,dif_pos h2]
theorem CL {s:ByteArray}{k:Nat} (h:k<s.size) (h2:¬nj s k=0):dq s k=dq s (k+nj s k):=by rw[dq,dif_pos h,dif_neg h2]
theorem CM {W:World} (h:nn W) (s:ByteArray) (hs:s.size≤140737488351232) :
  Calls Tryz.prog 27 #[.string s] W fun e w=>e=.returned (.int .i64 (dq s 0))∧Below W.heap.size W w:=by
 have dZ:=zE W.heap.size W
 go_enter Tryz.func27,Tryz.ntmps27
 go_wp2
 go_loopg [3,4] s.size (fun gk v3 _ wr=>∃(k:Nat),v3=.int .i64 (k:Int)∧gk=s.size-k∧k≤s.size∧Hid (Below W.heap.size W wr)∧Hid (dq s 0=dq s k))
 case atStart=>exact ⟨0,rfl,rfl,by omega,dZ,rfl⟩
 case round =>
  obtain ⟨k,rfl,fi,hk,HB,Hu⟩:=hrel
  have gA:=aj fi
  clear fi
  by_cases cw:k<s.size
  ·have hx:=extract_size s k s.size (zD _)
   go_wp2_with fail
   refine (Oq (h.up (aa HB)) (s.extract k s.size) (by omega) (by omega)).mono ?_
   rintro e w2 ⟨bJ,n,rfl,hn⟩
   obtain rfl:=El cw hn
   have iL:Hid (Below W.heap.size W w2):=(aa HB).trans (bJ.mono (aa HB).size)
   obtain ⟨q1,q2⟩:=RN s k hk
   clear hn bJ hx HB
   by_cases h0:nj s k=0
   ·have Hr:Hid (dq s 0=(k:Int)):=(aa Hu).trans (PV cw h0)
    rw[h0]
    clear h0 q1 q2
    go_wp2
    go_ret
    exact ⟨by rw[aa Hr];rfl,aa iL⟩
   ·have Hr:Hid (dq s 0=dq s (k+nj s k)):=(aa Hu).trans (CL cw h0)
    obtain ⟨n,hn⟩:∃n,n=nj s k:=⟨_,rfl⟩
    rw[←hn] at h0 q1 q2 Hr ⊢
    have n0:((n:Int)==0)=false:=by simp;omega
    clear hn
    go_wp2
    go_roundg (s.size-(k+n))
    case measure=>have:=aa gA;omega
    case rel=>exact ⟨k+n,by go_num,rfl,by omega,iL,Hr⟩
  ·have Hr:Hid (dq s 0=-1):=(aa Hu).trans (A5 cw)
   obtain rfl:k=s.size:=by omega
   go_wp2
   go_ret
   exact ⟨by rw[aa Hr];rfl,aa HB⟩
end Go.Proofs.YtmlphohdcejniaaGreatDoor
namespace Go.Proofs.YtmlphohdcejniaaGreatDoor
open Go.RowKit
def rO (B c:Nat):Option Nat:=match Eg c with
 |none=>none
 |some d=>if d<B then some d else none
def dR (B:Nat):Nat→List Nat→Nat→Nat→Nat×Nat
 |0,_,v,n=>(v,n)
 |_+1,[],v,n=>(v,n)
 |f+1,c::r,v,n=>match rO B c with
  |none=>(v,n)
  |some d=>dR B f r (v*B+d) (n+1)
def dS (B:Nat):Nat→List Nat→Nat
 |0,_=>0
 |_+1,[]=>0
 |f+1,c::r=>match rO B c with
  |none=>0
  |some _=>dS B f r+1
theorem mr (B v n:Nat) (l:List Nat):dR B 0 l v n=(v,n):=by cases l<;>rfl
theorem mu {B f c v n:Nat}{r:List Nat} (h:rO B c=none):dR B f (c::r) v n=(v,n):=by
 cases f with
 |zero=>rfl
 |succ f=>simp[dR,h]
theorem sj {B f c v n d:Nat}{r:List Nat} (h:rO B c=some d):dR B (f+1) (c::r) v n=dR B f r (v*B+d) (n+1):=by simp[dR,h]
theorem Uf {B c d:Nat} (h:rO B c=some d):d<B∧Eg c=some d:=by
 unfold rO at h
 split at h
 ·cases h
 ·rename_i e he
  split at h
  ·obtain rfl:=zC h
   exact ⟨by assumption,he⟩
  ·cases h
theorem nR {B:Nat}:∀(f:Nat) (l:List Nat) (v n:Nat),(dR B f l v n).2=n+dS B f l
 |0,l,v,n=>by rw[mr];cases l<;>rfl
 |f+1,[],v,n=>rfl
 |f+1,c::r,v,n=>by
  cases h:rO B c with
  |none=>simp[dR,dS,h]
  |some d=>simp only[dR,dS,h];rw[nR f r];omega
theorem AL {B:Nat} (hB:1≤B):∀(f:Nat) (l:List Nat) (v n:Nat),v≤(dR B f l v n).1
 |0,l,v,n=>by rw[mr];exact zD _
 |f+1,[],v,n=>zD _
 |f+1,c::r,v,n=>by
  cases h:rO B c with
  |none=>simp[dR,h]
  |some d =>
   simp only[dR,h]
   have:=AL hB f r (v*B+d) (n+1)
   have h2:v*1≤v*B:=Nat.mul_le_mul_left v hB
   omega
theorem sk {B:Nat} (hB:1≤B):∀(f:Nat) (l:List Nat) (v n:Nat),v≤255→cK B 255 (l.take (dS B f l)) v=if (dR B f l v n).1≤255 then some (dR B f l v n).1 else none
 |0,l,v,n,hv=>by
  rw[mr]
  have:dS B 0 l=0:=by cases l<;>rfl
  rw[this,if_pos hv]
  rfl
 |f+1,[],v,n,hv=>by
  show cK B 255 [] v=if v≤255 then some v else none
  rw[if_pos hv];rfl
 |f+1,c::r,v,n,hv=>by
  cases h:rO B c with
  |none =>
   rw[mu h]
   have:dS B (f+1) (c::r)=0:=by simp[dS,h]
   rw[this,if_pos hv]
   rfl
  |some d =>
   obtain ⟨h1,h2⟩:=Uf h
   rw[sj h]
   have:dS B (f+1) (c::r)=dS B f r+1:=by simp[dS,h]
   rw[this,List.take_succ_cons]
   simp only[cK,h2]
   by_cases h3:v*B+d≤255
   ·rw[if_pos ⟨h1,h3⟩]
    exact sk hB f r _ _ h3
   ·rw[if_neg (fun q=>h3 q.2),if_neg]
    have:=AL hB f r (v*B+d) (n+1)
    omega
theorem B8 {B:Nat}:∀(f:Nat) (l:List Nat),dS B f l≤f∧dS B f l≤l.length
 |0,l=>by cases l<;>simp[dS]
 |f+1,[]=>by simp[dS]
 |f+1,c::r=>by
  cases h:rO B c with
  |none=>simp[dS,h]
  |some d=>have:=B8 (B:=B) f r;simp[dS,h];omega
def xo (c:Nat):Option Nat:=if c=97 then some 7 else if c=98 then some 8 else if c=102 then some 12 else if c=110 then some 10 else if c=114 then some 13 else if c=116 then some 9 else if c=118 then some 11 else if c=92∨c=39∨c=34 then some c else none
def fin (p:Nat×Nat) (k:Nat):Option (Nat×Nat):=if p.2=0∨255<p.1 then none else some (p.1,k+p.2)
def fP:List Nat→Option (Nat×Nat)
 |_::c::r=>match xo c with
  |some v=>some (v,2)
  |none=>if c=120∨c=88 then fin (dR 16 2 r 0 0) 2 else fin (dR 8 3 (c::r) 0 0) 1
 |_=>none
theorem N5 {l:List Nat}{b n:Nat} (h:fP l=some (b,n)):1≤n∧n≤l.length∧b<256:=by
 match l,h with
 |a::c::r,h =>
  simp only[fP] at h
  split at h
  ·rename_i v hv
   obtain ⟨rfl,rfl⟩:=Prod.mk.inj (zC h)
   refine ⟨by omega,by simp,?_⟩
   unfold xo at hv
   repeat' split at hv
   all_goals first|(have:=zC hv;omega)|cases hv
  ·split at h
   ·unfold fin at h
    split at h
    ·cases h
    ·rename_i hh
     obtain ⟨rfl,rfl⟩:=Prod.mk.inj (zC h)
     have h1:=nR (B:=16) 2 r 0 0
     have h2:=B8 (B:=16) 2 r
     simp only[List.length_cons]
     omega
   ·unfold fin at h
    split at h
    ·cases h
    ·rename_i hh
     obtain ⟨rfl,rfl⟩:=Prod.mk.inj (zC h)
     have h1:=nR (B:=8) 3 (c::r) 0 0
     have h2:=B8 (B:=8) 3 (c::r)
     simp only[List.length_cons] at *
     omega
 |[a],h=>simp[fP] at h
 |[],h=>simp[fP] at h
def db (s:ByteArray) (k:Nat):Option (Nat×Nat):=if ax s k=0∨ax s k=10 then none else if ax s k=92 then fP ((aH s).drop k) else some (ax s k,1)
theorem hU {s:ByteArray}{k b n:Nat} (h:db s k=some (b,n)) (hk:k<s.size):1≤n∧k+n≤s.size∧b<256:=by
 unfold db at h
 split at h
 ·cases h
 ·split at h
  ·have:=N5 h
   rw[List.length_drop,bk] at this
   omega
  ·obtain ⟨rfl,rfl⟩:=Prod.mk.inj (zC h)
   have:=mv s k
   omega
def gC (s:ByteArray) (q k:Nat):Option (List Nat×Nat) :=
 if _h:k<s.size then
  if ax s k=q then some ([],k+1)
  else match db s k with
   |none=>none
   |some (b,n)=>if _hn:1≤n then (gC s q (k+n)).map fun r=>(b::r.1,r.2) else none
 else none
termination_by s.size-k
decreasing_by omega
theorem mA {s:ByteArray}{q k:Nat} (h:¬k<s.size):gC s q k=none:=by rw[gC,dif_neg h]
theorem ir {s:ByteArray}{q k:Nat} (h:k<s.size) (h2:ax s k=q):gC s q k=some ([],k+1):=by rw[gC,dif_pos h,if_pos h2]
theorem rz {s:ByteArray}{q k:Nat} (h:k<s.size) (h2:¬ax s k=q) (h3:db s k=none):gC s q k=none:=by rw[gC,dif_pos h,if_neg h2,h3]
theorem lf {s:ByteArray}{q k b n:Nat} (h:k<s.size) (h2:¬ax s k=q) (h3:db s k=some (b,n)):gC s q k=(gC s q (k+n)).map fun r=>(b::r.1,r.2):=by
 rw[gC,dif_pos h,if_neg h2,h3]
 exact dif_pos (hU h3 h).1
theorem zQ {s:ByteArray}{q:Nat}:∀(m k:Nat) (l:List Nat) (e:Nat),s.size-k≤m→gC s q k=some (l,e)→k<e∧e≤s.size∧KI l∧k+l.length<e:=by
 intro m
 induction m with
 |zero=>intro k l e hm h;rw[mA (by omega)] at h;cases h
 |succ m ih =>
  intro k l e hm h
  by_cases hk:k<s.size
  ·by_cases hq:ax s k=q
   ·rw[ir hk hq] at h
    obtain ⟨rfl,rfl⟩:=Prod.mk.inj (zC h)
    exact ⟨by omega,by omega,fun x hx=>by simp at hx,by simp⟩
   ·cases hp:db s k with
    |none=>rw[rz hk hq hp] at h;cases h
    |some t =>
     obtain ⟨b,n⟩:=t
     obtain ⟨p1,p2,p3⟩:=hU hp hk
     rw[lf hk hq hp] at h
     obtain ⟨⟨l',e'⟩,h1,h2⟩:=Option.map_eq_some_iff.1 h
     obtain ⟨rfl,rfl⟩:=Prod.mk.inj h2
     obtain ⟨a1,a2,a3,a4⟩:=ih (k+n) l' e' (by omega) h1
     refine ⟨by omega,a2,fun x hx=>?_,by simp only[List.length_cons];omega⟩
     rcases List.mem_cons.1 hx with rfl|hx
     ·exact p3
     ·exact a3 x hx
  ·rw[mA hk] at h;cases h
def lD (s:ByteArray):Option (List Nat×Nat):=if s.size=0 then none else if ax s 0=39∨ax s 0=34 then gC s (ax s 0) 1 else none
noncomputable def gh (s:ByteArray):ByteArray×Int:=if 65536<s.size then (.empty,2) else if 0≤dq s 0 then (.empty,44) else match lD s with
 |none=>(.empty,42)
 |some (l,e)=>if e=s.size then (ti l,0) else (.empty,42)
def ew (s:ByteArray) (k:Nat):Nat:=if h:k<s.size∧(isLet (ax s k)∨bZ (ax s k)) then ew s (k+1) else k
termination_by s.size-k
decreasing_by omega
def j6 (s:ByteArray) (k:Nat):Nat:=if h:k<s.size∧¬ax s k=10 then j6 s (k+1) else k
termination_by s.size-k
decreasing_by omega
def dD (s:ByteArray) (k:Nat):Nat:=if h:k+2≤s.size∧¬(ax s k=42∧ax s (k+1)=47) then dD s (k+1) else k
termination_by s.size-k
decreasing_by omega
theorem AI (s:ByteArray) (k:Nat):k≤ew s k:=by
 rw[ew]
 split
 ·have:=AI s (k+1)
  omega
 ·exact zD _
termination_by s.size-k
decreasing_by omega
theorem sh (s:ByteArray) (k:Nat) (h:k≤s.size):ew s k≤s.size:=by
 rw[ew]
 split
 ·exact sh s (k+1) (by omega)
 ·exact h
termination_by s.size-k
decreasing_by omega
theorem vC (s:ByteArray) (k:Nat):k≤j6 s k:=by
 rw[j6]
 split
 ·have:=vC s (k+1)
  omega
 ·exact zD _
termination_by s.size-k
decreasing_by omega
theorem Br (s:ByteArray) (k:Nat) (h:k≤s.size):j6 s k≤s.size:=by
 rw[j6]
 split
 ·exact Br s (k+1) (by omega)
 ·exact h
termination_by s.size-k
decreasing_by omega
theorem kp (s:ByteArray) (k:Nat):k≤dD s k:=by
 rw[dD]
 split
 ·have:=kp s (k+1)
  omega
 ·exact zD _
termination_by s.size-k
decreasing_by omega
theorem Bq {s:ByteArray}{k:Nat} (h:k<s.size) (h2:ax s k=47):k<j6 s k:=by
 rw[j6,dif_pos ⟨h,by omega⟩]
 have:=vC s (k+1)
 omega
def l7 (c:Nat):Prop:=(9≤c∧c≤13)∨c=32
instance (c : Nat) : Decidable (l7 c) := by unfold l7; infer_instance
def bA (s:ByteArray):Nat→Nat→Nat×Bool
 |0,k=>(k,true)
 |f+1,k=>if k<s.size then
   if l7 (ax s k) then bA s f (k+1)
   else if k+2≤s.size∧ax s k=47∧ax s (k+1)=47 then bA s f (j6 s k)
   else if k+2≤s.size∧ax s k=47∧ax s (k+1)=42 then
    if dD s (k+2)+2≤s.size then bA s f (dD s (k+2)+2) else (k,false)
   else (k,true)
  else (k,true)
theorem mE (s:ByteArray):∀(f f' k:Nat),s.size-k≤f→s.size-k≤f'→bA s f k=bA s f' k:=by
 intro f
 induction f with
 |zero =>
  intro f' k hf SV
  cases f' with
  |zero=>rfl
  |succ f'=>rw[bA,bA,if_neg (by omega)]
 |succ f ih =>
  intro f' k hf SV
  cases f' with
  |zero=>rw[bA,bA,if_neg (by omega)]
  |succ f' =>
   rw[bA,bA]
   by_cases h:k<s.size
   ·rw[if_pos h,if_pos h]
    split
    ·exact ih f' (k+1) (by omega) (by omega)
    ·split
     ·rename_i h2
      have:=Bq h h2.2.1
      exact ih f' _ (by omega) (by omega)
     ·split
      ·have:=kp s (k+2)
       split
       ·exact ih f' _ (by omega) (by omega)
       ·rfl
      ·rfl
   ·rw[if_neg h,if_neg h]
theorem Li {s:ByteArray}{k:Nat} (h:k+2≤s.size):(s.extract k (k+2)).data.toList=[s[k],s[k+1]]:=by
 rw[ByteArray.data_extract,Array.toList_extract]
 apply List.ext_getElem?
 intro i
 rw[List.getElem?_take,List.getElem?_drop]
 match i with
 |0=>simp;exact Array.getElem?_eq_getElem (by show k<s.size;omega)
 |1=>simp;exact Array.getElem?_eq_getElem (by show k+1<s.size;omega)
 |i+2=>simp;omega
theorem Tz {s:ByteArray}{k:Nat} (h:k+2≤s.size) (a b:UInt8):((s.extract k (k+2)).data.toList=[a,b])↔(ax s k=a.toNat∧ax s (k+1)=b.toNat):=by
 rw[Li h]
 unfold ax
 rw[dif_pos (by omega),dif_pos (by omega)]
 simp[UInt8.toNat_inj]
end Go.Proofs.YtmlphohdcejniaaGreatDoor
namespace Go.Proofs.YtmlphohdcejniaaGreatDoor
open Go.RowKit
attribute [local go_sem ↓] Go.wp_at_zero Go.wp_at_succ
def cL (W:World) (b:Nat) (s:ByteArray) (k:Nat) (v:Value):Prop:=W.heap[b]?=some (.cells #[.string s,.int .i64 (k:Int),v] 75 (0,0))
theorem cL.c0 {W:World}{b:Nat}{s:ByteArray}{k:Nat}{v:Value} (h:cL W b s k v):W.cell? ⟨b,0,none⟩=some (.string s):=by rw[cell_of_row _ _ _ _ _ _ h];rfl
theorem cL.c1 {W:World}{b:Nat}{s:ByteArray}{k:Nat}{v:Value} (h:cL W b s k v):W.cell? ⟨b,1,none⟩=some (.int .i64 (k:Int)):=by rw[cell_of_row _ _ _ _ _ _ h];rfl
theorem cL.c2 {W:World}{b:Nat}{s:ByteArray}{k:Nat}{v:Value} (h:cL W b s k v):W.cell? ⟨b,2,none⟩=some v:=by rw[cell_of_row _ _ _ _ _ _ h];rfl
theorem cL.lt {W:World}{b:Nat}{s:ByteArray}{k:Nat}{v:Value} (h:cL W b s k v):b<W.heap.size:=(zA h).1
theorem lS {W:World}{b:Nat}{s:ByteArray}{k:Nat}{v:Value} (h:cL W b s k v) (hk:k≤s.size) :
  Calls Tryz.prog 64 #[.pointer (some ⟨b,0,none⟩)] W fun e w=>e=.returned (.string (s.extract k s.size))∧∃n,w=W.drewN n:=by
 have c0:=h.c0
 have c1:=h.c1
 have k0:(0:Int)≤(k:Int):=zH _
 have k1:(k:Int)≤(s.size:Int):=by omega
 clear h
 go_enter Tryz.func64,Tryz.ntmps64
 go_wp2_with fail
 go_quiet (fail)
 go_wp2
 go_ret
 exact ⟨rfl,_,rfl⟩
theorem sQ (s:ByteArray) (k n:Nat) (h:k+n≤s.size):(s.extract k s.size).extract 0 n=s.extract k (k+n):=by
 apply ByteArray.ext
 rw[ByteArray.data_extract,ByteArray.data_extract,ByteArray.data_extract]
 apply Array.ext'
 rw[Array.toList_extract,Array.toList_extract,Array.toList_extract]
 have hl:s.data.toList.length=s.size:=rfl
 apply List.ext_getElem?
 intro i
 simp only[List.extract_eq_take_drop,List.getElem?_take,List.getElem?_drop]
 by_cases hi:i<n
 ·rw[if_pos (by omega),if_pos (by omega),if_pos (by omega)]
  congr 1
  omega
 ·rw[if_neg (by omega),if_neg (by omega)]
end Go.Proofs.YtmlphohdcejniaaGreatDoor

import Derived.Test.YtichhjfjcinjgaaGreatDoorM00
import Derived.Lib.Strings
import Derived.Deep.CutBlock
import Derived.Shelf.Strings.Builder1
set_option maxHeartbeats 4000000
set_option maxRecDepth 100000
namespace Go.Proofs.YtichhjfjcinjgaaGreatDoor
open Go.RowKit
attribute [local go_sem ↓] Go.wp_at_zero Go.wp_at_succ
def j8:List (Int×Int×Int×Int×Int):=[(0,127,0,0,0),(194,223,1,128,191),(224,224,2,160,191),(225,236,2,128,191),(237,237,2,128,159),(238,239,2,128,191),(240,240,3,144,191),(241,243,3,128,191),(244,244,3,128,143)]
def ir (W:World):Prop:=0<W.heap.size∧∀i a b c d e,j8[i]?=some (a,b,c,d,e)→W.cell? ⟨0,i*5,none⟩=some (.int .u8 a)∧W.cell? ⟨0,i*5+1,none⟩=some (.int .u8 b)∧W.cell? ⟨0,i*5+2,none⟩=some (.int .u8 c)∧W.cell? ⟨0,i*5+3,none⟩=some (.int .u8 d)∧W.cell? ⟨0,i*5+4,none⟩=some (.int .u8 e)
theorem ir.up {W w:World} (h:ir W) (hb:Below W.heap.size W w):ir w :=
 ⟨Nat.lt_of_lt_of_le h.1 hb.size,fun i a b c d e hf=>by
  obtain ⟨q0,q1,q2,q3,q4⟩:=h.2 i a b c d e hf
  exact ⟨(hb.cell (p:=⟨0,i*5,none⟩) h.1).trans q0,(hb.cell (p:=⟨0,i*5+1,none⟩) h.1).trans q1,(hb.cell (p:=⟨0,i*5+2,none⟩) h.1).trans q2,(hb.cell (p:=⟨0,i*5+3,none⟩) h.1).trans q3,(hb.cell (p:=⟨0,i*5+4,none⟩) h.1).trans q4⟩⟩
theorem mT:j8.length=9:=rfl
def aD (s:ByteArray) (i:Nat):Nat:=if h:i<s.size then s[i].toNat else 0
def Em (s:ByteArray) (c:Nat) (d e:Int):Prop:=1+c≤s.size∧∀k,1≤k→k<1+c→(if k=1 then d else 128)≤(aD s k:Int)∧(aD s k:Int)≤(if k=1 then e else 191)
def yQ (s:ByteArray) (c:Nat) (d e n:Int):Prop:=n=1+(c:Int)∧Em s c d e∨n=0∧¬Em s c d e
theorem Cm (W:World) (s:ByteArray) (hs:s.size≤140737488351232) (a b d e:Int) (c:Nat) (hc:c≤3) :
  Calls Tryz.prog 135 #[.agg #[.int .u8 a,.int .u8 b,.int .u8 (c:Int),.int .u8 d,.int .u8 e],.string s] W fun o W'=>Below W.heap.size W W'∧∃n:Int,o=.returned (.int .i64 n)∧yQ s c d e n:=by
 have hw:wrap64 (1+(c:Int))=1+(c:Int):=by rw[Ev];omega
 by_cases h:1+c≤s.size
 ·have hd:decide ((s.size:Int)<1+(c:Int))=false:=by simp;omega
  go_enter Tryz.func135,Tryz.ntmps135
  go_wp2_with fail
  go_quiet (fail)
  go_wp2
  have MH:∀n,Below W.heap.size W ((W.alloc (.cells #[.int .u8 a,.int .u8 b,.int .u8 (c:Int),.int .u8 d,.int .u8 e] 167)).drewN n):=fun n=>by
   have hB:Below W.heap.size W (W.alloc (.cells #[.int .u8 a,.int .u8 b,.int .u8 (c:Int),.int .u8 d,.int .u8 e] 167)):=(zE _ _).alloc (zD _) _
   exact ⟨hB.os,hB.tape,hB.output,hB.size,hB.block⟩
  go_loopg [6,7,8] c (fun gk v6 v7 v8 wr=>∃(i:Nat) (L H:Int),v8=.int .i64 (i:Int)∧v6=.int .u8 L∧v7=.int .u8 H∧L=(if i=1 then d else 128)∧H=(if i=1 then e else 191)∧1≤i∧i≤1+c∧gk=1+c-i∧(∀k,1≤k→k<i→(if k=1 then d else 128)≤(aD s k:Int)∧(aD s k:Int)≤(if k=1 then e else 191))∧Below W.heap.size W wr)
  case atStart=>exact ⟨1,d,e,rfl,rfl,rfl,rfl,rfl,zD _,by omega,by omega,fun k h1 h2=>by omega,MH _⟩
  case round =>
   obtain ⟨i,L,H,rfl,rfl,rfl,hL,hH,h1,hi,aW,kE,hB⟩:=hrel
   clear MH
   have bz:=al aW
   have lQ:=al kE
   clear aW kE
   by_cases aM:i<1+c
   ·have hsi:i<s.size:=by omega
    obtain ⟨x,hx⟩:∃x:Nat,s[i].toNat=x:=⟨_,rfl⟩
    have dP:aD s i=x:=by unfold aD;rw[dif_pos hsi];exact hx
    have i0:(0:Int)≤(i:Int):=zH _
    have i1:(i:Int)<(s.size:Int):=by clear hw;omega
    have i2:(i:Int)<1+(c:Int):=by clear hw;omega
    have HL:=al hL
    have HH:=al hH
    have Hb:=al dP
    clear hL hH dP
    by_cases c1:(x:Int)<L
    ·go_wp2
     go_ret
     clear hw
     exact ⟨hB,0,rfl,.inr ⟨rfl,fun q=>by have q1:=q.2 i h1 aM;rw[ab Hb,←ab HL,←ab HH] at q1;omega⟩⟩
    ·have LS:decide ((x:Int)<L)=false:=by simp;omega
     by_cases c2:H<(x:Int)
     ·have C1:=al c1
      clear c1
      go_wp2
      go_ret
      clear hw
      exact ⟨hB,0,rfl,.inr ⟨rfl,fun q=>by have q1:=q.2 i h1 aM;rw[ab Hb,←ab HL,←ab HH] at q1;omega⟩⟩
     ·have T':decide (H<(x:Int))=false:=by simp;omega
      have C1:=al c1
      have C2:=al c2
      clear c1 c2
      go_wp2
      go_roundg (c-i)
      case measure=>have:=ab bz;clear hw;omega
      case rel =>
       clear hw
       refine ⟨i+1,128,191,by go_num,rfl,rfl,by rw[if_neg (by omega)],by rw[if_neg (by omega)],by omega,by omega,by omega,fun k k1 k2=>?_,hB⟩
       by_cases hk:k=i
       ·subst hk
        have q1:=ab C1
        have q2:=ab C2
        rw[ab Hb,←ab HL,←ab HH]
        omega
       ·exact ab lQ k k1 (by omega)
   ·obtain rfl:i=1+c:=by omega
    have Wu:decide ((((1+c:Nat):Int))<1+(c:Int))=false:=by simp
    go_wp2
    go_ret
    exact ⟨hB,_,rfl,.inl ⟨rfl,h,ab lQ⟩⟩
 ·have hd:(s.size:Int)<1+(c:Int):=by omega
  go_enter Tryz.func135,Tryz.ntmps135
  go_wp2
  go_ret
  exact ⟨(zE _ _).alloc (zD _) _,0,rfl,.inr ⟨rfl,fun q=>h q.1⟩⟩
def Bm (s:ByteArray) (n:Int):Prop:=(∃(i:Nat) (a b:Int) (c:Nat) (d e:Int),j8[i]?=some (a,b,(c:Int),d,e)∧a≤(aD s 0:Int)∧(aD s 0:Int)≤b∧yQ s c d e n)∨((∀(i:Nat) (a b c d e:Int),j8[i]?=some (a,b,c,d,e)→¬(a≤(aD s 0:Int)∧(aD s 0:Int)≤b))∧n=0)
theorem CV:∀(i:Nat) (a b c d e:Int),j8[i]?=some (a,b,c,d,e)→0≤c∧c≤3:=by
 intro i a b c d e h
 have key:∀x ∈ j8,0≤x.2.2.1∧x.2.2.1≤3:=by decide
 exact key _ (List.mem_of_getElem? h)
theorem Jg {W:World} (h:ir W) (s:ByteArray) (RH:0<s.size) (hs:s.size≤140737488351232) :
  Calls Tryz.prog 92 #[.string s] W fun o W'=>Below W.heap.size W W'∧∃n:Int,o=.returned (.int .i64 n)∧Bm s n:=by
 obtain ⟨x,hx⟩:∃x:Nat,s[0].toNat=x:=⟨_,rfl⟩
 have dP:aD s 0=x:=by unfold aD;rw[dif_pos RH];exact hx
 have Hb:=al dP
 have hs':(0:Int)<(s.size:Int):=by omega
 clear dP
 go_enter Tryz.func92,Tryz.ntmps92
 go_wp2
 go_loopg [5] 9 (fun gk v5 wr=>∃(i:Nat),v5=.int .i64 (i:Int)∧gk=9-i∧i≤9∧(∀(j:Nat) (a b c d e:Int),j<i→j8[j]?=some (a,b,c,d,e)→¬(a≤(x:Int)∧(x:Int)≤b))∧Below W.heap.size W wr)
 case atStart=>exact ⟨0,rfl,rfl,by decide,fun j _ _ _ _ _ hj=>by omega,zE _ _⟩
 case round =>
  obtain ⟨i,rfl,aW,IH,kE,hB⟩:=hrel
  have bz:=al aW
  have lQ:=al kE
  clear aW kE
  by_cases aM:i<9
  ·obtain ⟨⟨a,b,c',d,e⟩,hf⟩:∃x,j8[i]?=some x:=⟨_,List.getElem?_eq_getElem (by rw[mT];exact aM)⟩
   obtain ⟨m1,m2⟩:=CV i a b c' d e hf
   obtain ⟨c,rfl⟩:∃c:Nat,c'=(c:Int):=⟨c'.toNat,by omega⟩
   obtain ⟨q0,q1,q2,q3,q4⟩:=(h.up hB).2 i a b c d e hf
   have TS:(0:Int)≤(i:Int):=zH _
   have TR:(i:Int)<9:=by omega
   have WM:c≤3:=by omega
   have Hf:=al hf
   have SC:∀n,Below W.heap.size W ((wr.alloc (.cells #[.int .u8 a,.int .u8 b,.int .u8 (c:Int),.int .u8 d,.int .u8 e] 167)).drewN n):=fun n=>by
    have Ot:=hB.alloc hB.size (.cells #[.int .u8 a,.int .u8 b,.int .u8 (c:Int),.int .u8 d,.int .u8 e] 167)
    exact ⟨Ot.os,Ot.tape,Ot.output,Ot.size,Ot.block⟩
   clear hf m1 m2
   by_cases c1:a≤(x:Int)
   ·by_cases c2:(x:Int)≤b
    ·go_wp2_with fail
     go_quiet (fail)
     go_wp2_with fail
     refine (Cm _ s hs a b d e c WM).mono ?_
     rintro o w2 ⟨bd,n,rfl,hn⟩
     have SD:=(SC _).trans (bd.mono (SC _).size)
     have Hn:=al hn
     clear hn SC
     go_wp2
     go_ret
     exact ⟨SD,n,rfl,.inl ⟨i,a,b,c,d,e,ab Hf,by rw[ab Hb];exact c1,by rw[ab Hb];exact c2,ab Hn⟩⟩
    ·have T':decide ((x:Int)≤b)=false:=by simp;omega
     have C2:=al c2
     clear c2
     go_wp2_with fail
     go_quiet (fail)
     go_wp2
     go_roundg (9-(i+1))
     case measure=>have:=ab bz;omega
     case rel =>
      refine ⟨i+1,by go_num,rfl,by omega,fun j a' b' Xn d' e' hj MA=>?_,SC _⟩
      by_cases N6:j=i
      ·subst N6
       obtain ⟨rfl,rfl,_⟩:a=a'∧b=b'∧_:=by have:=(ab Hf).symm.trans MA;simpa using this
       exact fun q=>by have:=ab C2;omega
      ·exact ab lQ j a' b' Xn d' e' (by omega) MA
   ·have LS:decide (a≤(x:Int))=false:=by simp;omega
    have C1:=al c1
    clear c1
    go_wp2_with fail
    go_quiet (fail)
    go_wp2
    go_roundg (9-(i+1))
    case measure=>have:=ab bz;omega
    case rel =>
     refine ⟨i+1,by go_num,rfl,by omega,fun j a' b' Xn d' e' hj MA=>?_,SC _⟩
     by_cases N6:j=i
     ·subst N6
      obtain ⟨rfl,rfl,_⟩:a=a'∧b=b'∧_:=by have:=(ab Hf).symm.trans MA;simpa using this
      exact fun q=>by have:=ab C1;omega
     ·exact ab lQ j a' b' Xn d' e' (by omega) MA
  ·obtain rfl:i=9:=by omega
   go_wp2
   go_ret
   refine ⟨hB,0,rfl,.inr ⟨fun j a b c d e hf=>?_,rfl⟩⟩
   have hj:j<9:=by have:=(zB hf).1;rw[mT] at this;exact this
   rw[ab Hb]
   exact ab lQ j a b c d e hj hf
def lp (x:Nat):Option (Nat×Nat×Nat) :=
 if x<128 then some (0,0,0) else if x<194 then none else if x<224 then some (1,128,191) else if x=224 then some (2,160,191) else if x<237 then some (2,128,191)
 else if x=237 then some (2,128,159) else if x<240 then some (2,128,191) else if x=240 then some (3,144,191) else if x<244 then some (3,128,191) else if x=244 then some (3,128,143) else none
theorem dy (s:ByteArray) (i:Nat):aD s i<256:=by
 unfold aD
 split
 ·exact UInt8.toNat_lt _
 ·decide
theorem dr (s:ByteArray) (i:Nat) (h:i<s.size):aD s i=(s[i]'h).toNat:=by unfold aD;rw[dif_pos h]
theorem extract_size (s:ByteArray) (k n:Nat) (hn:n≤s.size):(s.extract k n).size=n-k:=by
 simp[ByteArray.size_extract]
 omega
theorem dM (s:ByteArray) (k n i:Nat) (hn:n≤s.size) (hi:k+i<n):aD (s.extract k n) i=aD s (k+i):=by
 rw[dr _ _ (by rw[extract_size s k n hn];omega),dr _ _ (by omega)]
 rw[ByteArray.getElem_extract]
def dE (s:ByteArray) (k c d e:Nat):Prop:=k+1+c≤s.size∧∀j,1≤j→j<1+c→(if j=1 then d else 128)≤aD s (k+j)∧aD s (k+j)≤(if j=1 then e else 191)
instance (s : ByteArray) (k c d e : Nat) : Decidable (dE s k c d e) := decidable_of_iff (k + 1 + c ≤ s.size ∧ ∀ j, j < 1 + c → 1 ≤ j → (if j = 1 then d else 128) ≤ aD s (k + j) ∧ aD s (k + j) ≤ (if j = 1 then e else 191)) ⟨fun h => ⟨h.1, fun j h1 h2 => h.2 j h2 h1⟩, fun h => ⟨h.1, fun j h1 h2 => h.2 j h2 h1⟩⟩
noncomputable def ec (s:ByteArray) (k:Nat):Nat:=match lp (aD s k) with
 |none=>0
 |some (c,d,e)=>if dE s k c d e then 1+c else 0
theorem fD {s:ByteArray}{k:Nat} (h:lp (aD s k)=none):ec s k=0:=by unfold ec;rw[h]
theorem iw {s:ByteArray}{k c d e:Nat} (h:lp (aD s k)=some (c,d,e)) (h2:dE s k c d e):ec s k=1+c:=by unfold ec;rw[h];simp[h2]
theorem gQ {s:ByteArray}{k c d e:Nat} (h:lp (aD s k)=some (c,d,e)) (h2:¬dE s k c d e):ec s k=0:=by unfold ec;rw[h];simp[h2]
theorem I2 {x c d e:Nat} (h:lp x=some (c,d,e)):c≤3:=by
 unfold lp at h
 repeat' split at h
 all_goals first|(cases h;done)|(have:=zC h;simp at this;omega)
theorem pw (s:ByteArray) (k:Nat) (hk:k≤s.size):k+ec s k≤s.size∧ec s k≤4:=by
 cases hf:lp (aD s k) with
 |none=>rw[fD hf];omega
 |some t =>
  obtain ⟨c,d,e⟩:=t
  have:=I2 hf
  by_cases h:dE s k c d e
  ·rw[iw hf h];have:=h.1;omega
  ·rw[gQ hf h];omega
theorem Fp:∀(i:Fin 9) (x:Fin 256),(j8[i.val]?.any fun f=>decide (f.1≤(x.val:Int))&&decide ((x.val:Int)≤f.2.1))=true→(j8[i.val]?.any fun f=>decide ((lp x.val).map (fun (t:Nat×Nat×Nat)=>((t.1:Int),(t.2.1:Int),(t.2.2:Int)))=some (f.2.2.1,f.2.2.2.1,f.2.2.2.2)))=true:=by decide +kernel
theorem CU:∀(x:Fin 256),(j8.all fun f=>!(decide (f.1≤(x.val:Int))&&decide ((x.val:Int)≤f.2.1)))=true→lp x.val=none:=by decide +kernel
theorem Cn {s:ByteArray}{k c d e:Nat}{n:Int} (hk:k<s.size) (h:yQ (s.extract k s.size) c (d:Int) (e:Int) n):(n=1+(c:Int)∧dE s k c d e)∨(n=0∧¬dE s k c d e):=by
 have hz:=extract_size s k s.size (zD _)
 have key:Em (s.extract k s.size) c (d:Int) (e:Int)↔dE s k c d e:=by
  unfold Em dE
  constructor
  ·rintro ⟨h1,h2⟩
   rw[hz] at h1
   refine ⟨by omega,fun j j1 j2=>?_⟩
   have:=h2 j j1 j2
   rw[dM s k s.size j (zD _) (by omega)] at this
   split at this<;>split<;>omega
  ·rintro ⟨h1,h2⟩
   refine ⟨by rw[hz];omega,fun j j1 j2=>?_⟩
   have:=h2 j j1 j2
   rw[dM s k s.size j (zD _) (by omega)]
   split at this<;>split<;>omega
 rcases h with ⟨h1,h2⟩|⟨h1,h2⟩
 ·exact .inl ⟨h1,key.1 h2⟩
 ·exact .inr ⟨h1,mt key.2 h2⟩
theorem A6 {s:ByteArray}{k:Nat}{n:Int} (hk:k<s.size) (h:Bm (s.extract k s.size) n):n=(ec s k:Int):=by
 have bG:aD (s.extract k s.size) 0=aD s k:=by rw[dM s k s.size 0 (zD _) (by omega)];rfl
 have aM:=dy s k
 rcases h with ⟨i,a,b,c,d,e,hf,h1,h2,h3⟩|⟨nJ,rfl⟩
 ·rw[bG] at h1 h2
  have hi:i<9:=by have:=(zB hf).1;rw[mT] at this;exact this
  have q:=Fp ⟨i,hi⟩ ⟨aD s k,aM⟩ (by simp only[hf,Option.any_some];simp[h1,h2])
  simp only[hf,Option.any_some,decide_eq_true_eq] at q
  obtain ⟨⟨c',d',e'⟩,TV,hq⟩:=Option.map_eq_some_iff.1 q
  simp only[Prod.mk.injEq] at hq
  obtain ⟨q1,q2,q3⟩:=hq
  obtain rfl:c'=c:=by omega
  rw[←q2,←q3] at h3
  rcases Cn hk h3 with ⟨rfl,h4⟩|⟨rfl,h4⟩
  ·rw[iw TV h4];omega
  ·rw[gQ TV h4];rfl
 ·have:lp (aD s k)=none:=CU ⟨aD s k,aM⟩ (by
   rw[List.all_eq_true]
   intro f hf
   obtain ⟨j,hj⟩:=List.getElem?_of_mem hf
   have:=nJ j f.1 f.2.1 f.2.2.1 f.2.2.2.1 f.2.2.2.2 hj
   rw[bG] at this
   simp only[Bool.not_eq_true',Bool.and_eq_false_iff,decide_eq_false_iff_not]
   by_cases q:f.1≤(aD s k:Int)
   ·exact .inr (fun q2=>this ⟨q,q2⟩)
   ·exact .inl q)
  rw[fD this]
  rfl
noncomputable def cZ (s:ByteArray) (k:Nat):Int :=
 if _h:k<s.size then if _h2:ec s k=0 then (k:Int) else cZ s (k+ec s k) else -1
termination_by s.size-k
decreasing_by omega
theorem xH {s:ByteArray}{k:Nat} (h:¬k<s.size):cZ s k=-1:=by rw[cZ,dif_neg h]
theorem xI {s:ByteArray}{k:Nat} (h:k<s.size) (h2:ec s k=0):cZ s k=(k:Int):=by rw[cZ,dif_pos h,dif_pos h2]
theorem tP {s:ByteArray}{k:Nat} (h:k<s.size) (h2:¬ec s k=0):cZ s k=cZ s (k+ec s k):=by rw[cZ,dif_pos h,dif_neg h2]
theorem zy {W:World} (h:ir W) (s:ByteArray) (hs:s.size≤140737488351232) :
  Calls Tryz.prog 46 #[.string s] W fun e w=>e=.returned (.int .i64 (cZ s 0))∧Below W.heap.size W w:=by
 have bG:=zE W.heap.size W
 go_enter Tryz.func46,Tryz.ntmps46
 go_wp2
 go_loopg [3,4] s.size (fun gk v3 _ wr=>∃(k:Nat),v3=.int .i64 (k:Int)∧gk=s.size-k∧k≤s.size∧Hid (Below W.heap.size W wr)∧Hid (cZ s 0=cZ s k))
 case atStart=>exact ⟨0,rfl,rfl,by omega,bG,rfl⟩
 case round =>
  obtain ⟨k,rfl,aW,hk,HB,Hu⟩:=hrel
  have bz:=al aW
  clear aW
  by_cases aM:k<s.size
  ·have hx:=extract_size s k s.size (zD _)
   go_wp2_with fail
   refine (Jg (h.up (ab HB)) (s.extract k s.size) (by omega) (by omega)).mono ?_
   rintro e w2 ⟨bd,n,rfl,hn⟩
   obtain rfl:=A6 aM hn
   have cS:Hid (Below W.heap.size W w2):=(ab HB).trans (bd.mono (ab HB).size)
   obtain ⟨q1,q2⟩:=pw s k hk
   clear hn bd hx HB
   by_cases h0:ec s k=0
   ·have Hr:Hid (cZ s 0=(k:Int)):=(ab Hu).trans (xI aM h0)
    rw[h0]
    clear h0 q1 q2
    go_wp2
    go_ret
    exact ⟨by rw[ab Hr];rfl,ab cS⟩
   ·have Hr:Hid (cZ s 0=cZ s (k+ec s k)):=(ab Hu).trans (tP aM h0)
    obtain ⟨n,hn⟩:∃n,n=ec s k:=⟨_,rfl⟩
    rw[←hn] at h0 q1 q2 Hr ⊢
    have n0:((n:Int)==0)=false:=by simp;omega
    clear hn
    go_wp2
    go_roundg (s.size-(k+n))
    case measure=>have:=ab bz;omega
    case rel=>exact ⟨k+n,by go_num,rfl,by omega,cS,Hr⟩
  ·have Hr:Hid (cZ s 0=-1):=(ab Hu).trans (xH aM)
   obtain rfl:k=s.size:=by omega
   go_wp2
   go_ret
   exact ⟨by rw[ab Hr];rfl,ab HB⟩
theorem ri {c:Nat}{k:Int} (h:k≤(c:Int)):decide ((c:Int)<k)=false:=by simp;omega
theorem Nz {c:Nat}{k:Int} (h:(c:Int)<k):decide ((c:Int)<k)=true:=by simp;omega
theorem Fy {c:Nat}{k:Int} (h:(c:Int)=k):((c:Int)==k)=true:=by simp;omega
theorem Ib {s:ByteArray}{k c lo hi i y:Nat}{L H:Int} (q:dE s k c lo hi) (i1:1≤i) (hic:i<1+c) (hb:aD s (k+i)=y) (hL:L=if i=1 then (lo:Int) else 128) (hH:H=if i=1 then (hi:Int) else 191):L≤(y:Int)∧(y:Int)≤H:=by
 have q1:=q.2 i i1 hic
 rw[hb] at q1
 by_cases h:i=1
 ·rw[if_pos h] at hL hH
  rw[if_pos h,if_pos h] at q1
  omega
 ·rw[if_neg h] at hL hH
  rw[if_neg h,if_neg h] at q1
  omega
theorem Ia {s:ByteArray}{k lo hi i y:Nat}{L H:Int} (hb:aD s (k+i)=y) (hL:L=if i=1 then (lo:Int) else 128) (hH:H=if i=1 then (hi:Int) else 191) (h1:L≤(y:Int)) (h2:(y:Int)≤H)
  (kE:∀j,1≤j→j<i→(if j=1 then lo else 128)≤aD s (k+j)∧aD s (k+j)≤(if j=1 then hi else 191)) :
  ∀j,1≤j→j<i+1→(if j=1 then lo else 128)≤aD s (k+j)∧aD s (k+j)≤(if j=1 then hi else 191):=by
 intro j j1 j2
 by_cases hj:j=i
 ·subst hj
  rw[hb]
  by_cases h:j=1
  ·rw[if_pos h] at hL hH
   rw[if_pos h,if_pos h]
   omega
  ·rw[if_neg h] at hL hH
   rw[if_neg h,if_neg h]
   omega
 ·exact kE j j1 (by omega)
theorem uY (W:World) (s:ByteArray) (k:Nat) (hk:k<s.size) (hs:s.size≤140737488351232) :
  Calls Tryz.prog 55 #[.string s,.int .i64 (k:Int)] W fun e w=>e=.returned (.int .i64 (ec s k:Int))∧w=W:=by
 obtain ⟨x,hx⟩:∃x:Nat,s[k].toNat=x:=⟨_,rfl⟩
 have dP:aD s k=x:=(dr s k hk).trans hx
 have c8:x<256:=by rw[←dP];exact dy s k
 have k0:(0:Int)≤(k:Int):=zH _
 have k1:(k:Int)<(s.size:Int):=by omega
 have jo:=al dP
 clear dP
 go_enter Tryz.func55,Tryz.ntmps55
 go_upto_block 0 with fail
 go_cut [6,7,8] from 15 to 46 (fun v6 v7 v8 wc=>∃c lo hi:Nat,v6=.int .i64 (((c+1:Nat):Int))∧v7=.int .i64 (lo:Int)∧v8=.int .i64 (hi:Int)∧wc=W∧1≤c∧c≤3∧lo≤255∧hi≤255∧Hid (lp x=some (c,lo,hi)))
 case first =>
  have rk:x<128∨(128≤x∧x<194)∨(194≤x∧x<224)∨x=224∨(225≤x∧x<237)∨x=237∨(238≤x∧x<240)∨x=240∨(241≤x∧x<244)∨x=244∨245≤x:=by omega
  rcases rk with hc|hc|hc|hc|hc|hc|hc|hc|hc|hc|hc
  ·have b0:=Nz (c:=x) (k:=128) (by omega)
   have hf:lp x=some (0,0,0):=by unfold lp;rw[if_pos (by omega)]
   have vG:ec s k=1:=iw (c:=0) (by rw[ab jo];exact hf) ⟨by omega,fun j j1 j2=>by omega⟩
   have Hc:=al vG
   clear vG
   clear hf
   go_wp2
   go_ret
   exact ⟨by rw[ab Hc];rfl,rfl⟩
  ·have b0:=ri (c:=x) (k:=128) (by omega);have b1:=ln (c:=x) (k:=194) (by omega);have b2:=ln (c:=x) (k:=224) (by omega);have b3:=ln (c:=x) (k:=240) (by omega)
   have hf:lp x=none:=by unfold lp;repeat' (first|rw[if_neg (by omega)]|rw[if_pos (by omega)])
   have Hc:Hid (ec s k=0):=fD (by rw[ab jo];exact hf)
   clear hf
   go_wp2
   go_ret
   exact ⟨by rw[ab Hc];rfl,rfl⟩
  ·have b0:=ri (c:=x) (k:=128) (by omega);have b1:=fl (c:=x) (k:=194) (by omega);have b2:=AD (c:=x) (k:=223) (by omega)
   have hf:lp x=some (1,128,191):=by unfold lp;repeat' (first|rw[if_neg (by omega)]|rw[if_pos (by omega)])
   have Hf:=al hf
   clear hf
   go_wp2
   go_meet
   case rel=>exact ⟨1,128,191,rfl,rfl,rfl,rfl,by omega,by omega,by omega,by omega,Hf⟩
  ·have b0:=ri (c:=x) (k:=128) (by omega);have b1:=fl (c:=x) (k:=194) (by omega);have b2:=iH (c:=x) (k:=223) (by omega);have b3:=fl (c:=x) (k:=224) (by omega);have b4:=AD (c:=x) (k:=239) (by omega);have b5:=Fy (c:=x) (k:=224) (by omega);have b6:=gw (c:=x) (k:=237) (by omega)
   have hf:lp x=some (2,160,191):=by unfold lp;repeat' (first|rw[if_neg (by omega)]|rw[if_pos (by omega)])
   have Hf:=al hf
   clear hf
   go_wp2
   go_meet
   case rel=>exact ⟨2,160,191,rfl,rfl,rfl,rfl,by omega,by omega,by omega,by omega,Hf⟩
  ·have b0:=ri (c:=x) (k:=128) (by omega);have b1:=fl (c:=x) (k:=194) (by omega);have b2:=iH (c:=x) (k:=223) (by omega);have b3:=fl (c:=x) (k:=224) (by omega);have b4:=AD (c:=x) (k:=239) (by omega);have b5:=gw (c:=x) (k:=224) (by omega);have b6:=gw (c:=x) (k:=237) (by omega)
   have hf:lp x=some (2,128,191):=by unfold lp;repeat' (first|rw[if_neg (by omega)]|rw[if_pos (by omega)])
   have Hf:=al hf
   clear hf
   go_wp2
   go_meet
   case rel=>exact ⟨2,128,191,rfl,rfl,rfl,rfl,by omega,by omega,by omega,by omega,Hf⟩
  ·have b0:=ri (c:=x) (k:=128) (by omega);have b1:=fl (c:=x) (k:=194) (by omega);have b2:=iH (c:=x) (k:=223) (by omega);have b3:=fl (c:=x) (k:=224) (by omega);have b4:=AD (c:=x) (k:=239) (by omega);have b5:=gw (c:=x) (k:=224) (by omega);have b6:=Fy (c:=x) (k:=237) (by omega)
   have hf:lp x=some (2,128,159):=by unfold lp;repeat' (first|rw[if_neg (by omega)]|rw[if_pos (by omega)])
   have Hf:=al hf
   clear hf
   go_wp2
   go_meet
   case rel=>exact ⟨2,128,159,rfl,rfl,rfl,rfl,by omega,by omega,by omega,by omega,Hf⟩
  ·have b0:=ri (c:=x) (k:=128) (by omega);have b1:=fl (c:=x) (k:=194) (by omega);have b2:=iH (c:=x) (k:=223) (by omega);have b3:=fl (c:=x) (k:=224) (by omega);have b4:=AD (c:=x) (k:=239) (by omega);have b5:=gw (c:=x) (k:=224) (by omega);have b6:=gw (c:=x) (k:=237) (by omega)
   have hf:lp x=some (2,128,191):=by unfold lp;repeat' (first|rw[if_neg (by omega)]|rw[if_pos (by omega)])
   have Hf:=al hf
   clear hf
   go_wp2
   go_meet
   case rel=>exact ⟨2,128,191,rfl,rfl,rfl,rfl,by omega,by omega,by omega,by omega,Hf⟩
  ·have b0:=ri (c:=x) (k:=128) (by omega);have b1:=fl (c:=x) (k:=194) (by omega);have b2:=iH (c:=x) (k:=223) (by omega);have b3:=fl (c:=x) (k:=224) (by omega);have b4:=iH (c:=x) (k:=239) (by omega);have b5:=fl (c:=x) (k:=240) (by omega);have b6:=AD (c:=x) (k:=244) (by omega);have b7:=Fy (c:=x) (k:=240) (by omega);have b8:=gw (c:=x) (k:=244) (by omega)
   have hf:lp x=some (3,144,191):=by unfold lp;repeat' (first|rw[if_neg (by omega)]|rw[if_pos (by omega)])
   have Hf:=al hf
   clear hf
   go_wp2
   go_meet
   case rel=>exact ⟨3,144,191,rfl,rfl,rfl,rfl,by omega,by omega,by omega,by omega,Hf⟩
  ·have b0:=ri (c:=x) (k:=128) (by omega);have b1:=fl (c:=x) (k:=194) (by omega);have b2:=iH (c:=x) (k:=223) (by omega);have b3:=fl (c:=x) (k:=224) (by omega);have b4:=iH (c:=x) (k:=239) (by omega);have b5:=fl (c:=x) (k:=240) (by omega);have b6:=AD (c:=x) (k:=244) (by omega);have b7:=gw (c:=x) (k:=240) (by omega);have b8:=gw (c:=x) (k:=244) (by omega)
   have hf:lp x=some (3,128,191):=by unfold lp;repeat' (first|rw[if_neg (by omega)]|rw[if_pos (by omega)])
   have Hf:=al hf
   clear hf
   go_wp2
   go_meet
   case rel=>exact ⟨3,128,191,rfl,rfl,rfl,rfl,by omega,by omega,by omega,by omega,Hf⟩
  ·have b0:=ri (c:=x) (k:=128) (by omega);have b1:=fl (c:=x) (k:=194) (by omega);have b2:=iH (c:=x) (k:=223) (by omega);have b3:=fl (c:=x) (k:=224) (by omega);have b4:=iH (c:=x) (k:=239) (by omega);have b5:=fl (c:=x) (k:=240) (by omega);have b6:=AD (c:=x) (k:=244) (by omega);have b7:=gw (c:=x) (k:=240) (by omega);have b8:=Fy (c:=x) (k:=244) (by omega)
   have hf:lp x=some (3,128,143):=by unfold lp;repeat' (first|rw[if_neg (by omega)]|rw[if_pos (by omega)])
   have Hf:=al hf
   clear hf
   go_wp2
   go_meet
   case rel=>exact ⟨3,128,143,rfl,rfl,rfl,rfl,by omega,by omega,by omega,by omega,Hf⟩
  ·have b0:=ri (c:=x) (k:=128) (by omega);have b1:=fl (c:=x) (k:=194) (by omega);have b2:=iH (c:=x) (k:=223) (by omega);have b3:=fl (c:=x) (k:=224) (by omega);have b4:=iH (c:=x) (k:=239) (by omega);have b5:=fl (c:=x) (k:=240) (by omega);have b6:=iH (c:=x) (k:=244) (by omega)
   have hf:lp x=none:=by unfold lp;repeat' (first|rw[if_neg (by omega)]|rw[if_pos (by omega)])
   have Hc:Hid (ec s k=0):=fD (by rw[ab jo];exact hf)
   clear hf
   go_wp2
   go_ret
   exact ⟨by rw[ab Hc];rfl,rfl⟩
 case rest =>
  obtain ⟨c,lo,hi,rfl,rfl,rfl,rfl,c1,c3,lo1,TR,Hf⟩:=hcut
  obtain ⟨n,hn⟩:∃n,n=c+1:=⟨_,rfl⟩
  rw[←hn]
  have n2:2≤n:=by omega
  have n4:n≤4:=by omega
  have Hn:=al hn
  clear hn
  have Un:Hid (lp (aD s k)=some (c,lo,hi)):=by rw[ab jo];exact ab Hf
  clear Hf jo hx c1 c3
  by_cases kI:k+n≤s.size
  ·have e1:decide ((s.size:Int)<(k:Int)+(n:Int))=false:=by simp;omega
   go_wp2
   go_loopg [7,8,9,10] (n-1) (fun gk v7 v8 v9 _ wr=>∃(i:Nat) (L H:Int),v9=.int .i64 (i:Int)∧v7=.int .i64 L∧v8=.int .i64 H∧L=(if i=1 then (lo:Int) else 128)∧H=(if i=1 then (hi:Int) else 191)∧1≤i∧i≤n∧gk=n-i∧wr=wc∧∀j,1≤j→j<i→(if j=1 then lo else 128)≤aD s (k+j)∧aD s (k+j)≤(if j=1 then hi else 191))
   case atStart=>exact ⟨1,lo,hi,rfl,rfl,rfl,rfl,rfl,zD _,by omega,by omega,rfl,fun j h1 h2=>by omega⟩
   case round =>
    obtain ⟨i,L,H,rfl,rfl,rfl,hL,hH,i1,IJ,aW,rfl,kE⟩:=hrel
    have bz:=al aW
    have lQ:=al kE
    have HL:=al hL
    have HH:=al hH
    clear aW kE hL hH
    by_cases aM:i<n
    ·obtain ⟨j,hj⟩:∃j,j=k+i:=⟨_,rfl⟩
     have hjs:j<s.size:=by omega
     obtain ⟨y,hy⟩:∃y:Nat,(s[j]'hjs).toNat=y:=⟨_,rfl⟩
     have ey:aD s (k+i)=y:=by rw[←hj];exact (dr s j hjs).trans hy
     have AL:y<256:=by rw[←ey];exact dy s _
     have S':=al ey
     have cP:(k:Int)+(i:Int)=(j:Int):=by omega
     have j0:(0:Int)≤(j:Int):=zH _
     have j1:(j:Int)<(s.size:Int):=by omega
     clear ey hj
     by_cases LS:(y:Int)<L
     ·have b1:decide ((y:Int)<L)=true:=by simp;omega
      have Hc:Hid (ec s k=0):=gQ (ab Un) (fun q=>by have hn:=ab Hn;have q1:=Ib q i1 (by omega) (ab S') (ab HL) (ab HH);omega)
      go_upto_region 28 with fail
      clear cP hy j0 j1 hjs
      clear LS
      go_wp2
      go_ret
      exact ⟨by rw[ab Hc];rfl,rfl⟩
     ·have b1:decide ((y:Int)<L)=false:=by simp;omega
      by_cases T':H<(y:Int)
      ·have b2:decide (H<(y:Int))=true:=by simp;omega
       have Hc:Hid (ec s k=0):=gQ (ab Un) (fun q=>by have hn:=ab Hn;have q1:=Ib q i1 (by omega) (ab S') (ab HL) (ab HH);omega)
       go_upto_region 28 with fail
       clear cP hy j0 j1 hjs
       clear LS T'
       go_wp2
       go_ret
       exact ⟨by rw[ab Hc];rfl,rfl⟩
      ·have b2:decide (H<(y:Int))=false:=by simp;omega
       have cG:Hid (∀j,1≤j→j<i+1→(if j=1 then lo else 128)≤aD s (k+j)∧aD s (k+j)≤(if j=1 then hi else 191)):=Ia (ab S') (ab HL) (ab HH) (by omega) (by omega) (ab lQ)
       go_upto_region 28 with fail
       clear cP hy j0 j1 hjs
       clear LS T'
       go_wp2
       go_roundg (n-(i+1))
       case measure=>have:=ab bz;omega
       case rel=>exact ⟨i+1,128,191,by go_num,rfl,rfl,by rw[if_neg (by omega)],by rw[if_neg (by omega)],by omega,by omega,rfl,rfl,ab cG⟩
    ·obtain rfl:i=n:=by omega
     have Hc:Hid (ec s k=i):=by
      have hn:=ab Hn
      have:=iw (ab Un) ⟨by omega,fun j j1 j2=>ab lQ j j1 (by omega)⟩
      show ec s k=i
      omega
     go_wp2
     go_ret
     exact ⟨by rw[ab Hc];rfl,rfl⟩
  ·have e1:decide ((s.size:Int)<(k:Int)+(n:Int))=true:=by simp;omega
   have Hc:Hid (ec s k=0):=gQ (ab Un) (fun q=>by have hn:=ab Hn;have:=q.1;omega)
   go_wp2
   go_ret
   exact ⟨by rw[ab Hc];rfl,rfl⟩
end Go.Proofs.YtichhjfjcinjgaaGreatDoor
namespace Go.Proofs.YtichhjfjcinjgaaGreatDoor
open Go.RowKit Go.Lib
attribute [local go_sem ↓] Go.wp_at_zero Go.wp_at_succ
theorem Et (W:World) (s:ByteArray) (hs:s.size≤140737488351232) :
  Calls Tryz.prog 60 #[.string s] W fun e w=>e=.returned (.int .i64 (cZ s 0))∧w=W:=by
 go_enter Tryz.func60,Tryz.ntmps60
 go_wp2
 go_loopg [3,4] s.size (fun gk v3 _ wr=>∃(k:Nat),v3=.int .i64 (k:Int)∧gk=s.size-k∧k≤s.size∧wr=W∧Hid (cZ s 0=cZ s k))
 case atStart=>exact ⟨0,rfl,rfl,by omega,rfl,rfl⟩
 case round =>
  obtain ⟨k,rfl,aW,hk,rfl,Hu⟩:=hrel
  have bz:=al aW
  clear aW
  by_cases aM:k<s.size
  ·go_wp2_with fail
   refine (uY wr s k aM hs).mono ?_
   rintro e w2 ⟨rfl,he⟩
   obtain rfl:wr=w2:=he.symm
   obtain ⟨q1,q2⟩:=pw s k hk
   by_cases h0:ec s k=0
   ·have Hr:Hid (cZ s 0=(k:Int)):=(ab Hu).trans (xI aM h0)
    rw[h0]
    clear h0 q1 q2
    go_wp2
    go_ret
    exact ⟨by rw[ab Hr];rfl,rfl⟩
   ·have Hr:Hid (cZ s 0=cZ s (k+ec s k)):=(ab Hu).trans (tP aM h0)
    obtain ⟨n,hn⟩:∃n,n=ec s k:=⟨_,rfl⟩
    rw[←hn] at h0 q1 q2 Hr ⊢
    have n0:((n:Int)==0)=false:=by simp;omega
    clear hn
    go_wp2
    go_roundg (s.size-(k+n))
    case measure=>have:=ab bz;omega
    case rel=>exact ⟨k+n,by go_num,rfl,by omega,rfl,Hr⟩
  ·have Hr:Hid (cZ s 0=-1):=(ab Hu).trans (xH aM)
   obtain rfl:k=s.size:=by omega
   go_wp2
   go_ret
   exact ⟨by rw[ab Hr];rfl,rfl⟩
end Go.Proofs.YtichhjfjcinjgaaGreatDoor
namespace Go.Proofs.YtichhjfjcinjgaaGreatDoor
open Go.RowKit
attribute [local go_sem ↓] Go.wp_at_zero Go.wp_at_succ
theorem bh {W:World}{b j:Nat}{cs:Array Value}{t:TypeId} (h:W.heap[b]?=some (.cells cs t (0,0))) (u:Value):(W.setCell ⟨b,j,none⟩ u).heap[b]?=some (.cells (cs.toList.set j u).toArray t (0,0))∧W.grownBy (W.setCell ⟨b,j,none⟩ u) (some b):=by
 have hr:W.ownsRow 0 t cs.size (.slice (some ⟨b,0,none⟩) 1 1) 1 cs.toList:=⟨by simp,.inr ⟨b,1,cs,rfl,Nat.zero_le _,h,zD _,by unfold maxLen;omega,by simp,by rw[Nat.one_mul];exact List.take_of_length_le (by simp)⟩⟩
 obtain ⟨h1,h2⟩:=World.ownsRow.stored hr j u
 refine ⟨?_,h2⟩
 rcases h1.2 with ⟨e,_⟩|⟨g',c,cur,e,_,h4,_,_,h5,h6⟩
 ·cases e
 ·cases e
  rw[h4]
  have e2:cur.toList=cs.toList.set j u:=by
   rw[←h6,List.take_of_length_le]
   rw[Array.length_toList,h5]
   simp
  have e3:cur=(cs.toList.set j u).toArray:=by rw[←e2]
  rw[e3]
theorem sizeBuilder:(Tryz.prog.info? 125).map (·.size)=some 2:=by kernel_rfl
theorem liesBuilder:liesAt Tryz.prog Tryz.prog.depth 125 (2 / Tryz.prog.cellsOf 125) 0 125 1=true:=by kernel_rfl
theorem xf:(Tryz.prog.info? 5).map (fun i=>(i.zero,i.size,i.bytes))=some (some (.int .u8 0),1,1):=by kernel_rfl
theorem vk (b:Nat) (w:World) (h0:w.cell? ⟨b,0,none⟩=some (.pointer (some ⟨b,0,none⟩))):Calls Tryz.prog 124 #[.pointer (some ⟨b,0,none⟩)] w fun e w'=>e=.returned (.tuple #[])∧w'=w:=by
 obtain ⟨j,hj,_⟩:=Option.map_eq_some_iff.1 sizeBuilder
 go_enter Tryz.func124,Tryz.ntmps124
 go_wp2
 rw[Lib.run_neq_ptr_same w _ Tryz.underlying123 hj]
 go_wp2
 go_end0
 exact ⟨rfl,rfl⟩
theorem rq (b:Nat) (w:World) (h0:w.cell? ⟨b,0,none⟩=some (.pointer none)) (J6:w.shape? b=some (125,2)) (ZS:w.frozen? ⟨b,0,none⟩=false) :
  Calls Tryz.prog 124 #[.pointer (some ⟨b,0,none⟩)] w fun e w'=>e=.returned (.tuple #[])∧w'=w.setCell ⟨b,0,none⟩ (.pointer (some ⟨b,0,none⟩)):=by
 obtain ⟨j,hj,hjs⟩:=Option.map_eq_some_iff.1 sizeBuilder
 go_enter Tryz.func124,Tryz.ntmps124
 go_wp2
 rw[Lib.run_to_unsafe w ⟨b,0,none⟩ Tryz.underlying123 Tryz.underlying184 hj (by rw[hjs];decide) J6 (Nat.zero_lt_succ 1)]
 simp only[Result.andThen]
 rw[Oper.upon_value]
 go_wp2
 rw[run_callFunc_extern Tryz.func163 (by kernel_rfl) (by kernel_rfl) (by kernel_rfl) (e:=Extern.AbiNoEscape.same) (by kernel_rfl)]
 rw[Lib.run_noEscape]
 simp only[Result.andThen]
 rw[Oper.upon_value]
 go_wp2
 rw[Lib.run_from_unsafe w ⟨b,0,none⟩ Tryz.underlying184 Tryz.underlying123 hj J6 liesBuilder]
 simp only[Result.andThen]
 rw[Oper.upon_value]
 go_wp2
 go_end0
 exact ⟨rfl,rfl⟩
theorem DF {B b:Nat}{bs bs':List Value}{w1 w2:World}{v v':Value} (hB:B≤b) (bR:w1.heap[b]?=some (.cells #[.pointer (some ⟨b,0,none⟩),v] 125 (0,0))) (gJ:w1.ownsRow B 5 1 v bs.length bs) (iP:v.ownBlock≠some b) (hg:w1.grownBy w2 v.ownBlock) (ho:w2.ownsRow B 5 1 v' bs'.length bs') :
  (w2.cell? ⟨b,0,none⟩=some (.pointer (some ⟨b,0,none⟩))∧w2.cell? ⟨b,1,none⟩=some v∧w2.frozen? ⟨b,1,none⟩=false)∧Lib.BuilderAt 125 5 B b (.pointer (some ⟨b,0,none⟩)) bs' (w2.setCell ⟨b,1,none⟩ v')∧Below B w1 (w2.setCell ⟨b,1,none⟩ v'):=by
 have hl:b<w1.heap.size:=(zA bR).1
 have bd:=(hg.block b hl (fun e=>iP e.symm)).trans bR
 obtain ⟨k1,k2⟩:=bh (j:=1) bd v'
 have hn:v'.ownBlock≠some b:=fun e=>by
  rcases ho.2 with ⟨rfl,_⟩|⟨g,cap,cur,rfl,_,h2,_⟩
  ·cases e
  ·obtain rfl:g=b:=by simpa[Value.ownBlock] using e
   rw[h2] at bd
   simp at bd
 have dF:Below B w1 w2:=⟨hg.os,hg.tape,hg.output,hg.size,fun k hk=>hg.block k (by omega) (fun e=>by have:=(gJ.lt k e.symm).1;omega)⟩
 refine ⟨⟨?_,?_,by simp[World.frozen?,bd]⟩,⟨hB,v',k1,ho.kept k2 ?_,hn⟩,dF.trans ⟨k2.os,k2.tape,k2.output,k2.size,fun k hk=>k2.block k (by have:=hg.size;omega) (by simp;omega)⟩⟩
 ·rw[cell_of_row _ _ _ _ _ _ bd];rfl
 ·rw[cell_of_row _ _ _ _ _ _ bd];rfl
 ·cases e:v'.ownBlock with
  |none=>exact .inl rfl
  |some k=>exact .inr (fun q=>hn (e.trans q))
theorem Dz {B n:Nat}{w:World}{v:Value}{xs:List Value} (h:w.ownsRow B 5 1 v n xs):∃a l c,v=.slice a l c:=by
 rcases h.2 with ⟨rfl,_⟩|⟨g,cap,_,rfl,_⟩
 ·exact ⟨_,_,_,rfl⟩
 ·exact ⟨_,_,_,rfl⟩
end Go.Proofs.YtichhjfjcinjgaaGreatDoor
namespace Go.Proofs
open Go.Shelf
def Tryz.kW:Go.Shelf.Ren:=⟨fun|169=>85|n=>n,fun|70=>123|9=>9|0=>0|72=>125|37=>58|127=>162|3=>3|5=>5|n=>n,fun|n=>n⟩
theorem Tryz.yh:Go.Proofs.Lays.n169 Tryz.prog Tryz.kW:={
 mixed:=by kernel_rfl
 f169:=Tryz.func85.trans (congrArg some (by kernel_rfl))
 t0:=Tryz.underlying0
 a0:=Tryz.isAgg0
 z0:=Tryz.sizeOf0
 v0:=Tryz.zeroValue0
 t3:=Tryz.underlying3
 a3:=Tryz.isAgg3
 z3:=Tryz.sizeOf3
 v3:=Tryz.zeroValue3
 t9:=Tryz.underlying9
 a9:=Tryz.isAgg9
 z9:=Tryz.sizeOf9
 v9:=Tryz.zeroValue9
 t37:=Tryz.underlying58
 a37:=Tryz.isAgg58
 z37:=Tryz.sizeOf58
 v37:=Tryz.zeroValue58
 t70:=Tryz.underlying123
 a70:=Tryz.isAgg123
 z70:=Tryz.sizeOf123
 v70:=Tryz.zeroValue123
 t72:=Tryz.underlying125
 a72:=Tryz.isAgg125
 z72:=Tryz.sizeOf125
 v72:=Tryz.zeroValue125
 t127:=Tryz.underlying162
 a127:=Tryz.isAgg162
 z127:=Tryz.sizeOf162
 v127:=Tryz.zeroValue162 }
end Go.Proofs

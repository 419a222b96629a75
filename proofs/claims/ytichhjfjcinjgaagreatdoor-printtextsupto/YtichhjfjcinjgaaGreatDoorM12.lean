import Derived.Test.YtichhjfjcinjgaaGreatDoorM11
import Derived.Shelf.Strings.Search3
set_option maxHeartbeats 2000000
set_option maxRecDepth 100000
namespace Go.Proofs.YtichhjfjcinjgaaGreatDoor
open Go.RowKit Go.Lib
attribute [local go_sem ↓] Go.wp_at_zero Go.wp_at_succ
theorem Ih {x c d e:Nat} (h:kS x=some (c,d,e)) (hx:128≤x):1≤c:=by
 unfold kS at h
 rw[if_neg (by omega)] at h
 repeat' split at h
 all_goals first|(cases h;done)|(have:=zC h;simp at this;omega)
theorem mg (s:ByteArray) (n i:Nat) (hn:n≤s.size) (hi:i<n):aD (s.extract 0 n) i=aD s i:=by
 have:=dI s 0 n i hn (by omega)
 rw[this]
 congr 1
 omega
theorem nG {s:ByteArray}{n c d e:Nat} (hn:n≤s.size):dA (s.extract 0 n) 0 c d e↔(1+c≤n∧dA s 0 c d e):=by
 have hz:=extract_size s 0 n hn
 unfold dA
 rw[hz]
 constructor
 ·rintro ⟨h1,h2⟩
  refine ⟨by omega,by omega,fun j j1 j2=>?_⟩
  have:=h2 j j1 j2
  rw[Nat.zero_add,mg s n j hn (by omega)] at this
  rw[Nat.zero_add]
  exact this
 ·rintro ⟨h0,h1,h2⟩
  refine ⟨by omega,fun j j1 j2=>?_⟩
  have:=h2 j j1 j2
  rw[Nat.zero_add] at this
  rw[Nat.zero_add,mg s n j hn (by omega)]
  exact this
theorem FI {s:ByteArray}{n:Nat} (hn:n≤s.size) (h2:2≤n) (h4:n≤4) (hx:128≤aD s 0) (na:∀m,2≤m→m<n→¬dU s 0=m) :
  (dU s 0=n→cW (s.extract 0 n) 0=-1)∧(¬dU s 0=n→cW (s.extract 0 n) 0=0):=by
 have hz:=extract_size s 0 n hn
 have hb:=mg s n 0 hn (by omega)
 have key:dU (s.extract 0 n) 0=if dU s 0=n then n else 0:=by
  cases hf:kS (aD s 0) with
  |none=>rw[fu (by rw[hb];exact hf),fu hf,if_neg (by omega)]
  |some t =>
   obtain ⟨c,d,e⟩:=t
   have hc:=Ih hf hx
   have Wd:=Ig hf
   by_cases nJ:dA s 0 c d e
   ·have hs:=ia hf nJ
    by_cases hcn:1+c=n
    ·rw[if_pos (by omega),ia (by rw[hb];exact hf) ((nG hn).2 ⟨by omega,nJ⟩)];exact hcn
    ·have h1:n<1+c:=by
      rcases Nat.lt_or_ge n (1+c) with q|q
      ·exact q
      ·exact absurd hs (na (1+c) (by omega) (by omega))
     rw[if_neg (by omega),gJ (by rw[hb];exact hf) (fun q=>by have:=((nG hn).1 q).1;omega)]
   ·rw[if_neg (by rw[gJ hf nJ];omega),gJ (by rw[hb];exact hf) (fun q=>nJ ((nG hn).1 q).2)]
 constructor
 ·intro h
  rw[if_pos h] at key
  rw[tl (by omega) (by omega),key,wZ (by omega)]
 ·intro h
  rw[if_neg h] at key
  rw[xa (by omega) key]
  rfl
theorem vE {W:World} (h:jw W) (s:ByteArray) (Q6:0<s.size) (hs:s.size≤140737488351232) (hx:128≤aD s 0) :
  Calls Tryz.prog 129 #[.string s] W fun e w=>e=.returned (.int .i64 (dU s 0:Int))∧Below W.heap.size W w:=by
 have bJ:=zE W.heap.size W
 have Hx:=al hx
 obtain ⟨ch,To⟩:∃ch,ch=dU s 0:=⟨_,rfl⟩
 have hle:=oV s 0 (by omega)
 rw[←To] at hle ⊢
 have Rj:¬ch=1:=by
  rw[To]
  cases hf:kS (aD s 0) with
  |none=>rw[fu hf];omega
  |some t =>
   obtain ⟨c,d,e⟩:=t
   have hc:=Ih hf hx
   by_cases nJ:dA s 0 c d e
   ·rw[ia hf nJ];omega
   ·rw[gJ hf nJ];omega
 have Hch:=al To
 have Hle:=al hle
 have nk:=al Rj
 clear hx To hle Rj
 go_enter Tryz.func129,Tryz.ntmps129
 go_wp2
 go_loopg [3] 5 (fun gk v3 wr=>∃(n:Nat),v3=.int .i64 (n:Int)∧gk=7-n∧2≤n∧n≤5∧Hid (Below W.heap.size W wr)∧Hid (∀m,2≤m→m<n→¬ch=m))
 case atStart=>exact ⟨2,rfl,rfl,by omega,by omega,bJ,fun m m1 m2=>by omega⟩
 case round =>
  obtain ⟨n,rfl,aU,n2,n5,HB,E'⟩:=hrel
  have bz:=al aU
  clear aU
  by_cases EA:n≤4
  ·by_cases Zb:n≤s.size
   ·have b1:decide ((n:Int)≤4)=true:=by simp;omega
    have b2:decide ((n:Int)≤(s.size:Int))=true:=by simp;omega
    have hz:=extract_size s 0 n Zb
    have Pc:=FI Zb n2 EA (ab Hx) (fun m m1 m2=>by rw[←ab Hch];exact ab E' m m1 m2)
    rw[←ab Hch] at Pc
    have TN:=al Pc
    clear Pc
    go_wp2_with fail
    refine (yI (h.up (ab HB)) (s.extract 0 n) (by omega)).mono ?_
    rintro e w2 ⟨rfl,bd⟩
    have cP:Hid (Below W.heap.size W w2):=(ab HB).trans (bd.mono (ab HB).size)
    clear bd HB hz
    by_cases hc:ch=n
    ·rw[(ab TN).1 hc]
     have Hc:=al hc
     clear hc TN
     go_wp2
     go_ret
     exact ⟨by rw[ab Hc];rfl,ab cP⟩
    ·rw[(ab TN).2 hc]
     have Xk:Hid (∀m,2≤m→m<n+1→¬ch=m):=fun m m1 m2 q=>by
      rcases Nat.lt_or_ge m n with h1|h1
      ·exact ab E' m m1 h1 q
      ·exact hc (by omega)
     clear hc TN
     go_wp2
     go_roundg (7-(n+1))
     case measure=>have:=ab bz;omega
     case rel=>exact ⟨n+1,by go_num,rfl,by omega,by omega,cP,Xk⟩
   ·have b1:decide ((n:Int)≤4)=true:=by simp;omega
    have b2:decide ((n:Int)≤(s.size:Int))=false:=by simp;omega
    have Hc:Hid (ch=0):=by
     have h1:=ab Hle
     have h2:=ab nk
     have h3:=ab E' ch
     show ch=0
     omega
    go_wp2
    go_ret
    exact ⟨by rw[ab Hc];rfl,ab HB⟩
  ·have b1:decide ((n:Int)≤4)=false:=by simp;omega
   have Hc:Hid (ch=0):=by
    have h1:=ab Hle
    have h2:=ab nk
    have h3:=ab E' ch
    show ch=0
    omega
   go_wp2
   go_ret
   exact ⟨by rw[ab Hc];rfl,ab HB⟩
theorem tL {s:ByteArray}{k c d e:Nat} (hk:k<s.size):dA (s.extract k s.size) 0 c d e↔dA s k c d e:=by
 have hz:=extract_size s k s.size (zD _)
 unfold dA
 rw[hz]
 constructor
 ·rintro ⟨h1,h2⟩
  refine ⟨by omega,fun j j1 j2=>?_⟩
  have:=h2 j j1 j2
  rw[Nat.zero_add,dI s k s.size j (zD _) (by omega)] at this
  exact this
 ·rintro ⟨h1,h2⟩
  refine ⟨by omega,fun j j1 j2=>?_⟩
  rw[Nat.zero_add,dI s k s.size j (zD _) (by omega)]
  exact h2 j j1 j2
theorem mh {s:ByteArray}{k:Nat} (hk:k<s.size):aD (s.extract k s.size) 0=aD s k:=by rw[dI s k s.size 0 (zD _) (by omega)];rfl
theorem EX {s:ByteArray}{k:Nat} (hk:k<s.size):dU (s.extract k s.size) 0=dU s k:=by
 have hb:=mh hk
 cases hf:kS (aD s k) with
 |none=>rw[fu (by rw[hb];exact hf),fu hf]
 |some t =>
  obtain ⟨c,d,e⟩:=t
  by_cases nJ:dA s k c d e
  ·rw[ia hf nJ,ia (by rw[hb];exact hf) ((tL hk).2 nJ)]
  ·rw[gJ hf nJ,gJ (by rw[hb];exact hf) (fun q=>nJ ((tL hk).1 q))]
theorem kK {s:ByteArray}{k:Nat} (hk:k<s.size) (hx:aD s k<128):dU s k=1 :=
 ia (c:=0) (d:=0) (e:=0) (by unfold kS;rw[if_pos hx]) ⟨by omega,fun j j1 j2=>by omega⟩
noncomputable def c8 (s:ByteArray) (k:Nat):Nat:=if 128≤aD s k then dU s k else if aD s k<32∨aD s k=127∨aD s k=34∨aD s k=92 then 0 else 1
theorem vV {s:ByteArray}{k:Nat} (hk:k<s.size):k+c8 s k≤s.size∧c8 s k≤4:=by
 have:=oV s k (by omega)
 unfold c8
 split
 ·exact this
 ·split<;>omega
def sub (s:ByteArray) (k n:Nat):List Nat:=((aI s).drop k).take n
noncomputable def qs (s:ByteArray) (k:Nat):List Nat:=if c8 s k=0 then mB (aD s k) else sub s k (c8 s k)
noncomputable def qn (s:ByteArray) (k:Nat):Nat:=if c8 s k=0 then 1 else c8 s k
theorem Bz (s:ByteArray) (k:Nat):1≤qn s k:=by unfold qn;split<;>omega
theorem LH {s:ByteArray}{k:Nat} (hk:k<s.size):k+qn s k≤s.size:=by
 have:=vV hk
 unfold qn
 split<;>omega
theorem By {s:ByteArray}{k:Nat}:(qs s k).length≤4*qn s k:=by
 unfold qs qn
 split
 ·have:=K5 (aD s k);omega
 ·have:(sub s k (c8 s k)).length≤c8 s k:=by unfold sub;rw[List.length_take];omega
  omega
theorem Gh (s:ByteArray) (k:Nat):mM (qs s k):=by
 unfold qs
 split
 ·exact K6 (du s k)
 ·intro x hx
  unfold sub at hx
  exact tr s x (List.mem_of_mem_drop (List.mem_of_mem_take hx))
noncomputable def jH (s:ByteArray) (k:Nat):List Nat:=if _h:k<s.size then qs s k++jH s (k+qn s k) else []
termination_by s.size-k
decreasing_by have:=Bz s k;omega
theorem nX {s:ByteArray}{k:Nat} (h:¬k<s.size):jH s k=[]:=by rw[jH,dif_neg h]
theorem pw {s:ByteArray}{k:Nat} (h:k<s.size):jH s k=qs s k++jH s (k+qn s k):=by rw[jH,dif_pos h]
theorem qd (s:ByteArray) (k n:Nat):aI (s.extract k (k+n))=sub s k n:=by
 unfold aI sub aI
 rw[Lib.extract_data]
 simp[List.map_take,List.map_drop]
theorem CP {s:ByteArray}{k n:Nat} (h:k+n≤s.size):(sub s k n).length=n:=by
 unfold sub
 rw[List.length_take,List.length_drop,aX]
 omega
theorem Eb {W:World} (h:jw W) (s:ByteArray) (Q6:0<s.size) (hs:s.size≤140737488351232) :
  Calls Tryz.prog 86 #[.string s] W fun e w=>e=.returned (.int .i64 (c8 s 0:Int))∧Below W.heap.size W w:=by
 have bJ:=zE W.heap.size W
 obtain ⟨x,hx⟩:∃x:Nat,s[0].toNat=x:=⟨_,rfl⟩
 have dL:aD s 0=x:=(df s 0 Q6).trans hx
 have cY:x<256:=by rw[←dL];exact du s 0
 have hp:c8 s 0=if 128≤x then dU s 0 else if x<32∨x=127∨x=34∨x=92 then 0 else 1:=by unfold c8;rw[dL]
 rw[hp]
 have iX:=al dL
 clear dL hp
 by_cases h1:128≤x
 ·rw[if_pos h1]
  have b1:=e8 (c:=x) (k:=128) (by omega)
  go_enter Tryz.func86,Tryz.ntmps86
  go_wp2_with fail
  refine (vE h s Q6 hs (by rw[ab iX];exact h1)).mono ?_
  rintro e w2 ⟨rfl,bd⟩
  have Hb:=al bd
  clear bd
  go_wp2
  go_ret
  exact ⟨rfl,ab Hb⟩
 ·rw[if_neg h1]
  have b1:=kR (c:=x) (k:=128) (by omega)
  clear h1
  by_cases h2:x<32
  ·rw[if_pos (.inl h2)]
   have b2:=MV (c:=x) (k:=32) (by omega)
   go_enter Tryz.func86,Tryz.ntmps86
   go_wp2
   go_ret
   exact ⟨rfl,bJ⟩
  ·have b2:=qI (c:=x) (k:=32) (by omega)
   by_cases h3:x=127
   ·rw[if_pos (.inr (.inl h3))]
    have b3:=EP (c:=x) (k:=127) (by omega)
    clear h2 h3
    go_enter Tryz.func86,Tryz.ntmps86
    go_wp2
    go_ret
    exact ⟨rfl,bJ⟩
   ·have b3:=fY (c:=x) (k:=127) (by omega)
    by_cases h4:x=34
    ·rw[if_pos (.inr (.inr (.inl h4)))]
     have b4:=EP (c:=x) (k:=34) (by omega)
     clear h2 h3 h4
     go_enter Tryz.func86,Tryz.ntmps86
     go_wp2
     go_ret
     exact ⟨rfl,bJ⟩
    ·have b4:=fY (c:=x) (k:=34) (by omega)
     by_cases h5:x=92
     ·rw[if_pos (.inr (.inr (.inr h5)))]
      have b5:=EP (c:=x) (k:=92) (by omega)
      clear h2 h3 h4 h5
      go_enter Tryz.func86,Tryz.ntmps86
      go_wp2
      go_ret
      exact ⟨rfl,bJ⟩
     ·have b5:=fY (c:=x) (k:=92) (by omega)
      rw[if_neg (by omega)]
      clear h2 h3 h4 h5
      go_enter Tryz.func86,Tryz.ntmps86
      go_wp2
      go_ret
      exact ⟨rfl,bJ⟩
theorem zf {s:ByteArray}{k:Nat} (hk:k<s.size):c8 (s.extract k s.size) 0=c8 s k:=by
 unfold c8
 rw[mh hk,EX hk]
theorem E2 (W:World) (x:Nat):Bytes W.heap.size (W.alloc (.cells #[.int .u8 (x:Int)] 5)) (.slice (some ⟨W.heap.size,0,none⟩) 1 1) [x] :=
 ⟨rfl,.inr ⟨W.heap.size,1,#[.int .u8 (x:Int)],rfl,zD _,aK _ _,zD _,by unfold maxLen;omega,rfl,rfl⟩⟩
theorem Bytes.up {base:Nat}{W w:World}{v:Value}{l:List Nat} (h:Bytes base W v l) (hb:Below W.heap.size W w):Bytes base w v l:=by
 unfold Bytes at h ⊢
 obtain ⟨h1,⟨rfl,h0⟩|⟨g,c,cur,rfl,h2,h3,h4⟩⟩:=h
 ·exact ⟨h1,.inl ⟨rfl,h0⟩⟩
 ·exact ⟨h1,.inr ⟨g,c,cur,rfl,h2,(hb.block g (zA h3).1).trans h3,h4⟩⟩
theorem IE:mM [34]:=fun x hx=>by rw[List.mem_singleton.1 hx];decide
theorem Bytes.eF {base:Nat}{W:World}{v:Value}{l:List Nat} (h:Bytes base W v l):∀b,v.ownBlock=some b→base≤b:=fun b hb=>by
 unfold Bytes at h
 exact (h.lt b hb).1
theorem Bytes.shape {base:Nat}{W:World}{v:Value}{l:List Nat} (h:Bytes base W v l):∃a n c,v=.slice a n c:=by
 obtain ⟨a,c,rfl,_⟩:=h.has
 exact ⟨_,_,_,rfl⟩
theorem wL {s:ByteArray}{k:Nat}:aI (s.extract k s.size)=(aI s).drop k:=by
 rw[bw,List.take_of_length_le]
 rw[List.length_drop,aX]
 omega
theorem xt {s:ByteArray}{k:Nat} (hk:k<s.size):cU (s.extract k s.size) 0=cU s k:=by
 unfold cU
 rw[mh hk,wL,List.drop_zero]
theorem wS {c:Nat}:cls c=4↔c=39∨c=34:=by
 unfold cls
 constructor
 ·intro h
  repeat' split at h
  all_goals first|assumption|omega
 ·intro h
  rw[if_neg (by omega),if_neg (by unfold isLet;omega),if_neg (by unfold cX;omega),if_pos h]
def UQ (W:World) (o:Option (List Nat×Nat)) (e:Ending) (w:World):Prop:=Below W.heap.size W w∧((o=none∧e=.returned (.tuple #[.slice none 0 0,.int .i64 0]))∨∃(l:List Nat) (n:Nat) (v:Value),o=some (l,n)∧e=.returned (.tuple #[v,.int .i64 (n:Int)])∧Bytes W.heap.size w v l)
theorem p9 {W w:World}{o:Option (List Nat×Nat)} (hb:Below W.heap.size W w) (h:o=none):UQ W o (.returned (.tuple #[.slice none 0 0,.int .i64 0])) w:=⟨hb,.inl ⟨h,rfl⟩⟩
theorem FK {W w:World}{o:Option (List Nat×Nat)}{l:List Nat}{n:Nat}{v:Value} (hb:Below W.heap.size W w) (h:o=some (l,n)) (hv:Bytes W.heap.size w v l):UQ W o (.returned (.tuple #[v,.int .i64 (n:Int)])) w:=⟨hb,.inr ⟨l,n,v,h,rfl,hv⟩⟩
theorem DU {s:ByteArray} (h0:¬s.size=0) (h:¬(aD s 0=39∨aD s 0=34)):vb s=none:=by unfold vb;rw[if_neg h0,if_neg h]
theorem vM {s:ByteArray} (h0:¬s.size=0) (h:aD s 0=39∨aD s 0=34):vb s=dW s (aD s 0) 1:=by unfold vb;rw[if_neg h0,if_pos h]
theorem yJ {W:World} (hE:jW W) (s:ByteArray) (hs:s.size≤65536):Calls Tryz.prog 145 #[.string s] W (UQ W (vb s)):=by
 obtain ⟨i0,hi,gf,fX,dY⟩:=info_parts Tryz.infoByte
 have bJ:=zE W.heap.size W
 by_cases h0:s.size=0
 ·have Hn:Hid (vb s=none):=by show _=_;unfold vb;rw[if_pos h0]
  obtain rfl:=tP h0
  go_enter Tryz.func145,Tryz.ntmps145
  go_wp2
  go_ret2
  exact p9 bJ (ab Hn)
 ·have e0:=tQ h0
  obtain ⟨q,hq,kj,gq⟩:=cc s 0 (by omega)
  have RI:aD s 0=q:=(df s 0 (by omega)).trans gq
  have Xx:=al RI
  clear hq RI
  by_cases Ew:q=39∨q=34
  ·have hL:vb s=dW s q 1:=by rw[vM h0 (by rw[ab Xx];exact Ew),ab Xx]
   rw[hL]
   have hc:cls q=4:=wS.2 Ew
   have s1:(1:Int)≤(s.size:Int):=by omega
   clear hL Ew
   go_enter Tryz.func145,Tryz.ntmps145
   go_wp2_with fail
   refine (iz W q kj).mono ?_
   rintro e w' ⟨rfl,he⟩
   obtain rfl:W=w':=he.symm
   rw[hc]
   have I0:Hid (Bytes W.heap.size W (.slice none 0 0) []):=pO _ _
   go_wp2
   go_loopg [4,5,6,7] (s.size-1) (fun gk v4 v5 _ _ wr=>∃(k:Nat) (pre:List Nat) (va:Option Addr) (vn vc:Nat),v4=.slice va vn vc∧v5=.int .i64 (k:Int)∧gk=s.size-k∧1≤k∧k≤s.size∧pre.length≤k∧Hid (Bytes W.heap.size wr (.slice va vn vc) pre)∧Hid (dW s q 1=(dW s q k).map fun r=>(pre++r.1,r.2))∧Hid (Below W.heap.size W wr))
   case atStart=>exact ⟨1,[],_,_,_,rfl,rfl,rfl,zD _,by omega,by simp,I0,by show _=_;simp,bJ⟩
   case round =>
    obtain ⟨k,pre,va,vn,vc,rfl,rfl,aU,lO,hk,Ez,HY,Hu,HB⟩:=hrel
    have bz:=al aU
    clear aU I0 hc
    by_cases aM:k<s.size
    ·obtain ⟨x,hx⟩:∃x:Nat,s[k].toNat=x:=⟨_,rfl⟩
     have dL:aD s k=x:=(df s k aM).trans hx
     have cY:x<256:=by rw[←dL];exact du s k
     have k0:(0:Int)≤(k:Int):=zH _
     have k1:(k:Int)<(s.size:Int):=by omega
     have iX:=al dL
     clear dL
     by_cases xJ:x=q
     ·have Hr:Hid (dW s q 1=some (pre,k+1)):=by
       show _=_
       rw[ab Hu,lQ aM ((ab iX).trans xJ)]
       simp
      have fq:((x:Int)==(q:Int))=true:=by simp;omega
      clear Hu xJ
      go_wp2
      go_quiet (fail)
      go_wp2
      go_ret2
      exact FK (n:=k+1) (below_drewN (ab HB) _) (ab Hr) (ab HY)
     ·have fq:((x:Int)==(q:Int))=false:=by simp;omega
      have hz:=extract_size s k s.size (zD _)
      have YZ:=xt aM
      have Ow:=al YZ
      have PT:=al xJ
      clear YZ xJ
      go_wp2
      go_quiet (fail)
      go_wp2_with fail
      refine (Ec (W:=wr.drewN nq) (hE.up (below_drewN (ab HB) _)) (s.extract k s.size) (by omega) (by omega)).mono ?_
      rintro e w2 ⟨bd,⟨ho,rfl⟩|⟨b,n,ho,rfl⟩⟩
      ·rw[ab Ow] at ho
       have Hr:Hid (dW s q 1=none):=by
        show _=_
        rw[ab Hu,pj aM (by rw[ab iX];exact ab PT) ho]
        rfl
       have cP:Hid (Below W.heap.size W w2):=(below_drewN (ab HB) _).trans (bd.mono (ab HB).size)
       clear ho bd hz Hu
       go_wp2
       go_ret2
       exact p9 (ab cP) (ab Hr)
      ·rw[ab Ow] at ho
       obtain ⟨p1,p2,p3⟩:=ik ho aM
       have Hr:Hid (dW s q 1=(dW s q (k+n)).map fun r=>((pre++[b])++r.1,r.2)):=by
        show _=_
        rw[ab Hu,mq aM (by rw[ab iX];exact ab PT) ho,Option.map_map]
        congr 1
        funext r
        simp
       have cP:Hid (Below W.heap.size W w2):=(below_drewN (ab HB) _).trans (bd.mono (ab HB).size)
       have JB:Hid (Bytes W.heap.size w2 (.slice va vn vc) pre):=((ab HY).up (zE _ _)).up ((below_drewN (zE _ wr) _).trans bd)
       have fB:W.heap.size≤w2.heap.size:=(ab cP).size
       have n0:((n:Int)==0)=false:=by simp;omega
       have O1:Hid (pre.length+1≤maxLen):=by show _≤_;unfold maxLen;omega
       have O2:Hid ((pre.length+1)*1≤140737488355328):=by show _≤_;omega
       clear ho bd hz Hu HY HB
       go_wp2_with (at_builtin;refine wpList_append_own_at _ rfl _ _ 58 rfl W.heap.size 5 i0 (.int .u8 0) 1 1 Tryz.underlying58 hi gf fX dY rfl (by decide) _ _ _ rfl ((ab JB).alloc _) ⟨w2.heap.size,0,none⟩ 1 1 [.int .u8 (b:Int)] rfl rfl (db _ _ _) (by simp[Value.oneCell']) (ab O1) (ab O2) (by rw[zJ];omega) ?_;intro v4 w4 bI ba _ cH;have HP:Hid (nL W.heap.size w2 (.slice va vn vc) pre [b] (.returned v4) w4):=eH (ys:=[b]) bI rfl rfl ba cH;clear bI ba cH)
       obtain ⟨v5,kG,eo,dR⟩:=ab HP
       obtain rfl:v4=v5:=by simpa using kG
       obtain ⟨AS,Bb,AR,rfl⟩:=eo.shape
       have dX:Hid (Below W.heap.size W w4):=(ab cP).trans (dR.below fB (ab JB).eF)
       have pU:=al eo
       clear eo dR kG HP
       go_roundg (s.size-(k+n))
       case measure=>have:=ab bz;omega
       case rel=>exact ⟨k+n,pre++[b],_,_,_,rfl,by go_num,rfl,by omega,by omega,by simp only[zK,List.length_singleton];omega,pU,Hr,dX⟩
    ·have Hr:Hid (dW s q 1=none):=by
      show _=_
      rw[ab Hu,lR aM]
      rfl
     obtain rfl:k=s.size:=by omega
     clear Hu
     go_wp2
     go_ret2
     exact p9 (ab HB) (ab Hr)
  ·have Hn:Hid (vb s=none):=DU h0 (by rw[ab Xx];exact Ew)
   have hc:((cls q:Int) != 4)=true:=by
    have:=mt wS.1 Ew
    simp;omega
   clear Ew
   go_enter Tryz.func145,Tryz.ntmps145
   go_wp2_with fail
   refine (iz W q kj).mono ?_
   rintro e w' ⟨rfl,he⟩
   obtain rfl:W=w':=he.symm
   go_wp2
   go_ret2
   exact p9 bJ (ab Hn)
end Go.Proofs.YtichhjfjcinjgaaGreatDoor
namespace Go.Proofs.YtichhjfjcinjgaaGreatDoor
open Go.RowKit
attribute [local go_sem ↓] Go.wp_at_zero Go.wp_at_succ
theorem EV (c:Nat):(cls c=1∧lq c)∨(¬lq c∧((cls c=2∧isLet c)∨(¬isLet c∧((cls c=3∧cX c)∨(¬cX c∧((cls c=4∧(c=39∨c=34))∨(¬(c=39∨c=34)∧((cls c=5∧jL c)∨(¬jL c∧((cls c=6∧c=47)∨(cls c=0∧¬c=47)))))))))))  := by
 unfold cls lq
 by_cases h1:(9≤c∧c≤13)∨c=32
 ·exact .inl ⟨by rw[if_pos h1],h1⟩
 ·refine .inr ⟨h1,?_⟩
  rw[if_neg h1]
  by_cases h2:isLet c
  ·exact .inl ⟨by rw[if_pos h2],h2⟩
  ·refine .inr ⟨h2,?_⟩
   rw[if_neg h2]
   by_cases h3:cX c
   ·exact .inl ⟨by rw[if_pos h3],h3⟩
   ·refine .inr ⟨h3,?_⟩
    rw[if_neg h3]
    by_cases h4:c=39∨c=34
    ·exact .inl ⟨by rw[if_pos h4],h4⟩
    ·refine .inr ⟨h4,?_⟩
     rw[if_neg h4]
     by_cases h5:jL c
     ·exact .inl ⟨by rw[if_pos h5],h5⟩
     ·refine .inr ⟨h5,?_⟩
      rw[if_neg h5]
      by_cases h6:c=47
      ·exact .inl ⟨by rw[if_pos h6],h6⟩
      ·exact .inr ⟨by rw[if_neg h6],h6⟩
theorem CN {W:World}{B b:Nat}{s:ByteArray}{k n c:Nat}{v:Value}{xs:List Value} (I:eP W B b s k n v xs) (hp:bj s s.size k=(k,true)) (ho:(cn s k).2.2=c) (hc:c≠0) (kind m c':Int) (RG:c'=(c:Int)) :
  Calls Tryz.prog 137 #[.pointer (some ⟨b,0,none⟩),.int .i64 kind,.int .i64 m,.int .i64 c'] W (fZ B b s k n xs W):=by
 subst RG
 exact DX I hp ho hc kind m
theorem CM {W:World}{B b:Nat}{s:ByteArray}{k n m t:Nat}{v:Value}{xs:List Value} (I:eP W B b s k n v xs) (hp:bj s s.size k=(k,true)) (ho:cn s k=(t,k+m,0)) (t' m':Int) (ht:t'=(t:Int)) (hm:m'=(m:Int)) :
  Calls Tryz.prog 137 #[.pointer (some ⟨b,0,none⟩),.int .i64 t',.int .i64 m',.int .i64 0] W (fZ B b s k n xs W):=by
 subst ht hm
 exact FV I hp ho
theorem Bl {W:World}{B b:Nat}{s:ByteArray}{k n:Nat}{v:Value}{xs:List Value} (I:eP W B b s k n v xs) (hp:bj s s.size k=(k,true)) (ho:(cn s k).2.2=40) :
  Calls Tryz.prog 136 #[.pointer (some ⟨b,0,none⟩)] W (fZ B b s k n xs W):=by
 have H:=al (CN I hp ho (by decide) 0 0 40 rfl)
 clear I hp ho
 go_enter Tryz.func136,Tryz.ntmps136
 go_wp2_with fail
 refine (ab H).mono ?_
 intro e w hq
 obtain ⟨c,rfl⟩:=hq.ret
 have Hq:=al hq
 clear hq
 go_wp2
 go_ret
 exact ab Hq
theorem Bk {W:World}{B b:Nat}{s:ByteArray}{k n:Nat}{v:Value}{xs:List Value} (I:eP W B b s k n v xs) (hp:bj s s.size k=(k,true)) (ho:cn s k=(4,k+1,0)) :
  Calls Tryz.prog 146 #[.pointer (some ⟨b,0,none⟩)] W (fZ B b s k n xs W):=by
 have H:=al (CM I hp ho 4 1 rfl rfl)
 clear I hp ho
 go_enter Tryz.func146,Tryz.ntmps146
 go_wp2_with fail
 refine (ab H).mono ?_
 intro e w hq
 obtain ⟨c,rfl⟩:=hq.ret
 have Hq:=al hq
 clear hq
 go_wp2
 go_ret
 exact ab Hq
theorem yU {W:World}{B b:Nat}{s:ByteArray}{k n:Nat}{v:Value}{xs:List Value} (I:eP W B b s k n v xs) (h:lq (aD s k)) :
  Calls Tryz.prog 138 #[.pointer (some ⟨b,0,none⟩)] W (fZ B b s k n xs W):=by
 refine (Bj I.sc I.more I.size).mono ?_
 rintro e w ⟨rfl,rfl⟩
 have Ze:=I.more
 refine ⟨(BX.refl _ _ _).set _ _,.inl ⟨rfl,k+1,[],v,I.sc.at _,?_,by omega,by omega,I.room,?_⟩⟩
 ·show World.ownsRow _ B 107 3 v n (xs++[])
  rw[List.append_nil]
  obtain ⟨h1,⟨rfl,h0⟩|⟨g,c,cur,rfl,h2,h3,h4⟩⟩:=I.row
  ·exact ⟨h1,.inl ⟨rfl,h0⟩⟩
  ·refine ⟨h1,.inr ⟨g,c,cur,rfl,h2,(heap_setCell_other _ ⟨b,1,none⟩ g _ ?_).trans h3,h4⟩⟩
   have:=I.lo
   show ¬g=b
   omega
 ·rw[lb]
  exact CK n (BD I.more h)
theorem xf {W:World}{B b:Nat}{s:ByteArray}{k n:Nat}{v:Value}{xs:List Value} (I:eP W B b s k n v xs) (hp:bj s s.size k=(k,true)) (ho:cn s k=(1,cJ s k,0)) :
  Calls Tryz.prog 139 #[.pointer (some ⟨b,0,none⟩)] W (fZ B b s k n xs W):=by
 have hr:=kv I.sc (Nat.le_of_lt I.more)
 have HI:=al I
 have hs:=I.size
 have hk:=I.more
 have Hp:=al hp
 have Ho:=al ho
 clear I hp ho
 go_enter Tryz.func139,Tryz.ntmps139
 go_wp2_with fail
 refine hr.mono ?_
 rintro e w1 ⟨rfl,n1,rfl⟩
 clear hr
 have Q9:=xl (W.drewN n1) (s.extract k s.size) (by rw[ByteArray.size_extract];omega)
 go_wp2_with fail
 refine Q9.mono ?_
 rintro e w2 ⟨m,rfl,bM,hn,h1,h2⟩
 obtain rfl:W.drewN n1=w2:=bM.symm
 clear bM Q9
 obtain ⟨eE,hle⟩:=uz (by omega) hn h1 h2
 have aY:Below W.heap.size W (W.drewN n1):=below_drewN (zE _ _) n1
 have ht:=CM ((ab HI).up aY) (ab Hp) (by rw[ab Ho,eE]) 1 (m:Int) rfl rfl
 have Ht:=al ht
 have yk:=al aY
 clear ht hn h1 h2 hle eE aY
 go_wp2_with fail
 refine (ab Ht).mono ?_
 intro e w hq
 obtain ⟨c,rfl⟩:=hq.ret
 have Hq:=al (hq.from (ab yk) (ab HI).hi)
 clear hq
 go_wp2
 go_ret
 exact ab Hq
theorem yT {W:World}{B b:Nat}{s:ByteArray}{k n:Nat}{v:Value}{xs:List Value} (hE:jW W) (I:eP W B b s k n v xs) (hp:bj s s.size k=(k,true)) (ho:cn s k=if wv (aI (s.extract k (cJ s k)))=none then (0,0,41) else (2,cJ s k,0)) :
  Calls Tryz.prog 142 #[.pointer (some ⟨b,0,none⟩)] W (fZ B b s k n xs W):=by
 have hr:=kv I.sc (Nat.le_of_lt I.more)
 have HI:=al I
 have HE:=al hE
 have hs:=I.size
 have hk:=I.more
 have Hp:=al hp
 have Ho:=al ho
 clear I hp ho hE
 go_enter Tryz.func142,Tryz.ntmps142
 go_wp2_with fail
 refine hr.mono ?_
 rintro e w1 ⟨rfl,n1,rfl⟩
 clear hr
 have Q9:=xl (W.drewN n1) (s.extract k s.size) (by rw[ByteArray.size_extract];omega)
 go_wp2_with fail
 refine Q9.mono ?_
 rintro e w2 ⟨m,rfl,bM,hn,h1,h2⟩
 obtain rfl:W.drewN n1=w2:=bM.symm
 clear bM Q9
 obtain ⟨eE,hle⟩:=uz (by omega) hn h1 h2
 have aY:Below W.heap.size W (W.drewN n1):=below_drewN (zE _ _) n1
 have oA:=kv ((ab HI).up aY).sc (Nat.le_of_lt hk)
 have lz:(s.extract k s.size).size=s.size-k:=by rw[ByteArray.size_extract];omega
 have yk:=al aY
 have HeE:=al eE
 have hex:=qB s k m hle
 have m0:(0:Int)≤(m:Int):=zH _
 have m1:(m:Int)≤((s.size-k:Nat):Int):=by omega
 clear hn h1 h2 aY eE
 go_wp2_with fail
 refine oA.mono ?_
 rintro e w3 ⟨rfl,n2,rfl⟩
 clear oA
 have bd:Below W.heap.size W (W.drewN (n1+n2)):=below_drewN (zE _ _) (n1+n2)
 have iv:=DS ((ab HE).up bd) (s.extract k (k+m)) (by rw[ByteArray.size_extract];omega)
 have uV:=al bd
 clear bd
 go_wp2_with fail
 refine iv.mono ?_
 rintro e w4 ⟨gR,wn,wc,rfl,hu⟩
 have jT:Below W.heap.size W w4:=(ab uV).trans gR
 rcases hu with ⟨u,QX,rfl,rfl⟩|⟨QX,rfl,rfl⟩
 ·have ht:=CM ((ab HI).up jT) (ab Hp) (m:=m) (t:=2) (by rw[ab Ho,ab HeE,QX];rfl) 2 (m:Int) rfl rfl
  have Ht:=al ht
  have OF:=al jT
  clear ht gR jT QX iv
  go_wp2_with fail
  refine (ab Ht).mono ?_
  intro e w hq
  obtain ⟨c,rfl⟩:=hq.ret
  have Hq:=al (hq.from (ab OF) (ab HI).hi)
  clear hq
  go_wp2
  go_ret
  exact ab Hq
 ·have ht:=CN ((ab HI).up jT) (ab Hp) (c:=41) (by rw[ab Ho,ab HeE,QX];rfl) (by decide) 2 (m:Int) 41 rfl
  have Ht:=al ht
  have OF:=al jT
  clear ht gR jT QX iv
  go_wp2_with fail
  refine (ab Ht).mono ?_
  intro e w hq
  obtain ⟨c,rfl⟩:=hq.ret
  have Hq:=al (hq.from (ab OF) (ab HI).hi)
  clear hq
  go_wp2
  go_ret
  exact ab Hq
end Go.Proofs.YtichhjfjcinjgaaGreatDoor
namespace Go.Proofs
open Go.Shelf
def Tryz.vw:Go.Shelf.Ren:=⟨fun|143=>156|219=>187|217=>181|225=>196|224=>197|267=>198|266=>194|314=>210|n=>n,fun|9=>9|3=>3|4=>4|5=>5|46=>156|146=>187|51=>186|n=>n,fun|1=>1|n=>n⟩
theorem Tryz.Ep:Go.Proofs.Lays.n143 Tryz.prog Tryz.vw:={
 mixed:=by kernel_rfl
 f143:=Tryz.func156.trans (congrArg some (by kernel_rfl))
 f217:=Tryz.func181.trans (congrArg some (by kernel_rfl))
 f219:=Tryz.func187.trans (congrArg some (by kernel_rfl))
 f224:=Tryz.func197.trans (congrArg some (by kernel_rfl))
 f225:=Tryz.func196.trans (congrArg some (by kernel_rfl))
 f266:=Tryz.func194.trans (congrArg some (by kernel_rfl))
 f267:=Tryz.func198.trans (congrArg some (by kernel_rfl))
 f314:=Tryz.func210.trans (congrArg some (by kernel_rfl))
 t3:=Tryz.underlying3
 a3:=Tryz.isAgg3
 z3:=Tryz.sizeOf3
 v3:=Tryz.zeroValue3
 t4:=Tryz.underlying4
 a4:=Tryz.isAgg4
 z4:=Tryz.sizeOf4
 v4:=Tryz.zeroValue4
 t5:=Tryz.underlying5
 a5:=Tryz.isAgg5
 z5:=Tryz.sizeOf5
 v5:=Tryz.zeroValue5
 t9:=Tryz.underlying9
 a9:=Tryz.isAgg9
 z9:=Tryz.sizeOf9
 v9:=Tryz.zeroValue9
 t46:=Tryz.underlying156
 a46:=Tryz.isAgg156
 z46:=Tryz.sizeOf156
 v46:=Tryz.zeroValue156
 t51:=Tryz.underlying186
 a51:=Tryz.isAgg186
 z51:=Tryz.sizeOf186
 v51:=Tryz.zeroValue186
 t146:=Tryz.underlying187
 a146:=Tryz.isAgg187
 z146:=Tryz.sizeOf187
 v146:=Tryz.zeroValue187
 g1:=by kernel_rfl }
end Go.Proofs

import Derived.Test.YtichhjfjcinjgaaGreatDoorM11
import Derived.Shelf.Strings.Search3
set_option maxHeartbeats 2000000
set_option maxRecDepth 100000
namespace Go.Proofs.YtichhjfjcinjgaaGreatDoor
open Go.RowKit Go.Lib
attribute [local go_sem ↓] Go.wp_at_zero Go.wp_at_succ
theorem I3 {x c d e:Nat} (h:lp x=some (c,d,e)) (hx:128≤x):1≤c:=by
 unfold lp at h
 rw[if_neg (by omega)] at h
 repeat' split at h
 all_goals first|(cases h;done)|(have:=zC h;simp at this;omega)
theorem mF (s:ByteArray) (n i:Nat) (hn:n≤s.size) (hi:i<n):aD (s.extract 0 n) i=aD s i:=by
 have:=dM s 0 n i hn (by omega)
 rw[this]
 congr 1
 omega
theorem od {s:ByteArray}{n c d e:Nat} (hn:n≤s.size):dE (s.extract 0 n) 0 c d e↔(1+c≤n∧dE s 0 c d e):=by
 have hz:=extract_size s 0 n hn
 unfold dE
 rw[hz]
 constructor
 ·rintro ⟨h1,h2⟩
  refine ⟨by omega,by omega,fun j j1 j2=>?_⟩
  have:=h2 j j1 j2
  rw[Nat.zero_add,mF s n j hn (by omega)] at this
  rw[Nat.zero_add]
  exact this
 ·rintro ⟨h0,h1,h2⟩
  refine ⟨by omega,fun j j1 j2=>?_⟩
  have:=h2 j j1 j2
  rw[Nat.zero_add] at this
  rw[Nat.zero_add,mF s n j hn (by omega)]
  exact this
theorem Gp {s:ByteArray}{n:Nat} (hn:n≤s.size) (h2:2≤n) (h4:n≤4) (hx:128≤aD s 0) (nJ:∀m,2≤m→m<n→¬ec s 0=m) :
  (ec s 0=n→cZ (s.extract 0 n) 0=-1)∧(¬ec s 0=n→cZ (s.extract 0 n) 0=0):=by
 have hz:=extract_size s 0 n hn
 have hb:=mF s n 0 hn (by omega)
 have key:ec (s.extract 0 n) 0=if ec s 0=n then n else 0:=by
  cases hf:lp (aD s 0) with
  |none=>rw[fD (by rw[hb];exact hf),fD hf,if_neg (by omega)]
  |some t =>
   obtain ⟨c,d,e⟩:=t
   have hc:=I3 hf hx
   have WM:=I2 hf
   by_cases oq:dE s 0 c d e
   ·have hs:=iw hf oq
    by_cases hcn:1+c=n
    ·rw[if_pos (by omega),iw (by rw[hb];exact hf) ((od hn).2 ⟨by omega,oq⟩)];exact hcn
    ·have h1:n<1+c:=by
      rcases Nat.lt_or_ge n (1+c) with q|q
      ·exact q
      ·exact absurd hs (nJ (1+c) (by omega) (by omega))
     rw[if_neg (by omega),gQ (by rw[hb];exact hf) (fun q=>by have:=((od hn).1 q).1;omega)]
   ·rw[if_neg (by rw[gQ hf oq];omega),gQ (by rw[hb];exact hf) (fun q=>oq ((od hn).1 q).2)]
 constructor
 ·intro h
  rw[if_pos h] at key
  rw[tP (by omega) (by omega),key,xH (by omega)]
 ·intro h
  rw[if_neg h] at key
  rw[xI (by omega) key]
  rfl
theorem wk {W:World} (h:ir W) (s:ByteArray) (RH:0<s.size) (hs:s.size≤140737488351232) (hx:128≤aD s 0) :
  Calls Tryz.prog 129 #[.string s] W fun e w=>e=.returned (.int .i64 (ec s 0:Int))∧Below W.heap.size W w:=by
 have bG:=zE W.heap.size W
 have Hx:=al hx
 obtain ⟨ch,TW⟩:∃ch,ch=ec s 0:=⟨_,rfl⟩
 have hle:=pw s 0 (by omega)
 rw[←TW] at hle ⊢
 have RX:¬ch=1:=by
  rw[TW]
  cases hf:lp (aD s 0) with
  |none=>rw[fD hf];omega
  |some t =>
   obtain ⟨c,d,e⟩:=t
   have hc:=I3 hf hx
   by_cases oq:dE s 0 c d e
   ·rw[iw hf oq];omega
   ·rw[gQ hf oq];omega
 have Hch:=al TW
 have Hle:=al hle
 have nP:=al RX
 clear hx TW hle RX
 go_enter Tryz.func129,Tryz.ntmps129
 go_wp2
 go_loopg [3] 5 (fun gk v3 wr=>∃(n:Nat),v3=.int .i64 (n:Int)∧gk=7-n∧2≤n∧n≤5∧Hid (Below W.heap.size W wr)∧Hid (∀m,2≤m→m<n→¬ch=m))
 case atStart=>exact ⟨2,rfl,rfl,by omega,by omega,bG,fun m m1 m2=>by omega⟩
 case round =>
  obtain ⟨n,rfl,aW,n2,n5,HB,FT⟩:=hrel
  have bz:=al aW
  clear aW
  by_cases Fe:n≤4
  ·by_cases ZE:n≤s.size
   ·have b1:decide ((n:Int)≤4)=true:=by simp;omega
    have b2:decide ((n:Int)≤(s.size:Int))=true:=by simp;omega
    have hz:=extract_size s 0 n ZE
    have PX:=Gp ZE n2 Fe (ab Hx) (fun m m1 m2=>by rw[←ab Hch];exact ab FT m m1 m2)
    rw[←ab Hch] at PX
    have Ui:=al PX
    clear PX
    go_wp2_with fail
    refine (zy (h.up (ab HB)) (s.extract 0 n) (by omega)).mono ?_
    rintro e w2 ⟨rfl,bd⟩
    have cS:Hid (Below W.heap.size W w2):=(ab HB).trans (bd.mono (ab HB).size)
    clear bd HB hz
    by_cases hc:ch=n
    ·rw[(ab Ui).1 hc]
     have Hc:=al hc
     clear hc Ui
     go_wp2
     go_ret
     exact ⟨by rw[ab Hc];rfl,ab cS⟩
    ·rw[(ab Ui).2 hc]
     have XS:Hid (∀m,2≤m→m<n+1→¬ch=m):=fun m m1 m2 q=>by
      rcases Nat.lt_or_ge m n with h1|h1
      ·exact ab FT m m1 h1 q
      ·exact hc (by omega)
     clear hc Ui
     go_wp2
     go_roundg (7-(n+1))
     case measure=>have:=ab bz;omega
     case rel=>exact ⟨n+1,by go_num,rfl,by omega,by omega,cS,XS⟩
   ·have b1:decide ((n:Int)≤4)=true:=by simp;omega
    have b2:decide ((n:Int)≤(s.size:Int))=false:=by simp;omega
    have Hc:Hid (ch=0):=by
     have h1:=ab Hle
     have h2:=ab nP
     have h3:=ab FT ch
     show ch=0
     omega
    go_wp2
    go_ret
    exact ⟨by rw[ab Hc];rfl,ab HB⟩
  ·have b1:decide ((n:Int)≤4)=false:=by simp;omega
   have Hc:Hid (ch=0):=by
    have h1:=ab Hle
    have h2:=ab nP
    have h3:=ab FT ch
    show ch=0
    omega
   go_wp2
   go_ret
   exact ⟨by rw[ab Hc];rfl,ab HB⟩
theorem uE {s:ByteArray}{k c d e:Nat} (hk:k<s.size):dE (s.extract k s.size) 0 c d e↔dE s k c d e:=by
 have hz:=extract_size s k s.size (zD _)
 unfold dE
 rw[hz]
 constructor
 ·rintro ⟨h1,h2⟩
  refine ⟨by omega,fun j j1 j2=>?_⟩
  have:=h2 j j1 j2
  rw[Nat.zero_add,dM s k s.size j (zD _) (by omega)] at this
  exact this
 ·rintro ⟨h1,h2⟩
  refine ⟨by omega,fun j j1 j2=>?_⟩
  rw[Nat.zero_add,dM s k s.size j (zD _) (by omega)]
  exact h2 j j1 j2
theorem mG {s:ByteArray}{k:Nat} (hk:k<s.size):aD (s.extract k s.size) 0=aD s k:=by rw[dM s k s.size 0 (zD _) (by omega)];rfl
theorem FF {s:ByteArray}{k:Nat} (hk:k<s.size):ec (s.extract k s.size) 0=ec s k:=by
 have hb:=mG hk
 cases hf:lp (aD s k) with
 |none=>rw[fD (by rw[hb];exact hf),fD hf]
 |some t =>
  obtain ⟨c,d,e⟩:=t
  by_cases oq:dE s k c d e
  ·rw[iw hf oq,iw (by rw[hb];exact hf) ((uE hk).2 oq)]
  ·rw[gQ hf oq,gQ (by rw[hb];exact hf) (fun q=>oq ((uE hk).1 q))]
theorem la {s:ByteArray}{k:Nat} (hk:k<s.size) (hx:aD s k<128):ec s k=1 :=
 iw (c:=0) (d:=0) (e:=0) (by unfold lp;rw[if_pos hx]) ⟨by omega,fun j j1 j2=>by omega⟩
noncomputable def dh (s:ByteArray) (k:Nat):Nat:=if 128≤aD s k then ec s k else if aD s k<32∨aD s k=127∨aD s k=34∨aD s k=92 then 0 else 1
theorem wR {s:ByteArray}{k:Nat} (hk:k<s.size):k+dh s k≤s.size∧dh s k≤4:=by
 have:=pw s k (by omega)
 unfold dh
 split
 ·exact this
 ·split<;>omega
def sub (s:ByteArray) (k n:Nat):List Nat:=((aI s).drop k).take n
noncomputable def qs (s:ByteArray) (k:Nat):List Nat:=if dh s k=0 then mU (aD s k) else sub s k (dh s k)
noncomputable def qn (s:ByteArray) (k:Nat):Nat:=if dh s k=0 then 1 else dh s k
theorem B7 (s:ByteArray) (k:Nat):1≤qn s k:=by unfold qn;split<;>omega
theorem Ml {s:ByteArray}{k:Nat} (hk:k<s.size):k+qn s k≤s.size:=by
 have:=wR hk
 unfold qn
 split<;>omega
theorem B6 {s:ByteArray}{k:Nat}:(qs s k).length≤4*qn s k:=by
 unfold qs qn
 split
 ·have:=LH (aD s k);omega
 ·have:(sub s k (dh s k)).length≤dh s k:=by unfold sub;rw[List.length_take];omega
  omega
theorem G3 (s:ByteArray) (k:Nat):ns (qs s k):=by
 unfold qs
 split
 ·exact LI (dy s k)
 ·intro x hx
  unfold sub at hx
  exact tU s x (List.mem_of_mem_drop (List.mem_of_mem_take hx))
noncomputable def jY (s:ByteArray) (k:Nat):List Nat:=if _h:k<s.size then qs s k++jY s (k+qn s k) else []
termination_by s.size-k
decreasing_by have:=B7 s k;omega
theorem oJ {s:ByteArray}{k:Nat} (h:¬k<s.size):jY s k=[]:=by rw[jY,dif_neg h]
theorem pS {s:ByteArray}{k:Nat} (h:k<s.size):jY s k=qs s k++jY s (k+qn s k):=by rw[jY,dif_pos h]
theorem qL (s:ByteArray) (k n:Nat):aI (s.extract k (k+n))=sub s k n:=by
 unfold aI sub aI
 rw[Lib.extract_data]
 simp[List.map_take,List.map_drop]
theorem Ds {s:ByteArray}{k n:Nat} (h:k+n≤s.size):(sub s k n).length=n:=by
 unfold sub
 rw[List.length_take,List.length_drop,aZ]
 omega
theorem ET {W:World} (h:ir W) (s:ByteArray) (RH:0<s.size) (hs:s.size≤140737488351232) :
  Calls Tryz.prog 86 #[.string s] W fun e w=>e=.returned (.int .i64 (dh s 0:Int))∧Below W.heap.size W w:=by
 have bG:=zE W.heap.size W
 obtain ⟨x,hx⟩:∃x:Nat,s[0].toNat=x:=⟨_,rfl⟩
 have dP:aD s 0=x:=(dr s 0 RH).trans hx
 have c8:x<256:=by rw[←dP];exact dy s 0
 have hp:dh s 0=if 128≤x then ec s 0 else if x<32∨x=127∨x=34∨x=92 then 0 else 1:=by unfold dh;rw[dP]
 rw[hp]
 have jo:=al dP
 clear dP hp
 by_cases h1:128≤x
 ·rw[if_pos h1]
  have b1:=fl (c:=x) (k:=128) (by omega)
  go_enter Tryz.func86,Tryz.ntmps86
  go_wp2_with fail
  refine (wk h s RH hs (by rw[ab jo];exact h1)).mono ?_
  rintro e w2 ⟨rfl,bd⟩
  have Hb:=al bd
  clear bd
  go_wp2
  go_ret
  exact ⟨rfl,ab Hb⟩
 ·rw[if_neg h1]
  have b1:=ln (c:=x) (k:=128) (by omega)
  clear h1
  by_cases h2:x<32
  ·rw[if_pos (.inl h2)]
   have b2:=Nz (c:=x) (k:=32) (by omega)
   go_enter Tryz.func86,Tryz.ntmps86
   go_wp2
   go_ret
   exact ⟨rfl,bG⟩
  ·have b2:=ri (c:=x) (k:=32) (by omega)
   by_cases h3:x=127
   ·rw[if_pos (.inr (.inl h3))]
    have b3:=Fy (c:=x) (k:=127) (by omega)
    clear h2 h3
    go_enter Tryz.func86,Tryz.ntmps86
    go_wp2
    go_ret
    exact ⟨rfl,bG⟩
   ·have b3:=gw (c:=x) (k:=127) (by omega)
    by_cases h4:x=34
    ·rw[if_pos (.inr (.inr (.inl h4)))]
     have b4:=Fy (c:=x) (k:=34) (by omega)
     clear h2 h3 h4
     go_enter Tryz.func86,Tryz.ntmps86
     go_wp2
     go_ret
     exact ⟨rfl,bG⟩
    ·have b4:=gw (c:=x) (k:=34) (by omega)
     by_cases h5:x=92
     ·rw[if_pos (.inr (.inr (.inr h5)))]
      have b5:=Fy (c:=x) (k:=92) (by omega)
      clear h2 h3 h4 h5
      go_enter Tryz.func86,Tryz.ntmps86
      go_wp2
      go_ret
      exact ⟨rfl,bG⟩
     ·have b5:=gw (c:=x) (k:=92) (by omega)
      rw[if_neg (by omega)]
      clear h2 h3 h4 h5
      go_enter Tryz.func86,Tryz.ntmps86
      go_wp2
      go_ret
      exact ⟨rfl,bG⟩
theorem Am {s:ByteArray}{k:Nat} (hk:k<s.size):dh (s.extract k s.size) 0=dh s k:=by
 unfold dh
 rw[mG hk,FF hk]
theorem FK (W:World) (x:Nat):Bytes W.heap.size (W.alloc (.cells #[.int .u8 (x:Int)] 5)) (.slice (some ⟨W.heap.size,0,none⟩) 1 1) [x] :=
 ⟨rfl,.inr ⟨W.heap.size,1,#[.int .u8 (x:Int)],rfl,zD _,aJ _ _,zD _,by unfold maxLen;omega,rfl,rfl⟩⟩
theorem Bytes.up {base:Nat}{W w:World}{v:Value}{l:List Nat} (h:Bytes base W v l) (hb:Below W.heap.size W w):Bytes base w v l:=by
 unfold Bytes at h ⊢
 obtain ⟨h1,⟨rfl,h0⟩|⟨g,c,cur,rfl,h2,h3,h4⟩⟩:=h
 ·exact ⟨h1,.inl ⟨rfl,h0⟩⟩
 ·exact ⟨h1,.inr ⟨g,c,cur,rfl,h2,(hb.block g (zA h3).1).trans h3,h4⟩⟩
theorem Jm:ns [34]:=fun x hx=>by rw[List.mem_singleton.1 hx];decide
theorem Bytes.eL {base:Nat}{W:World}{v:Value}{l:List Nat} (h:Bytes base W v l):∀b,v.ownBlock=some b→base≤b:=fun b hb=>by
 unfold Bytes at h
 exact (h.lt b hb).1
theorem Bytes.shape {base:Nat}{W:World}{v:Value}{l:List Nat} (h:Bytes base W v l):∃a n c,v=.slice a n c:=by
 obtain ⟨a,c,rfl,_⟩:=h.has
 exact ⟨_,_,_,rfl⟩
theorem xt {s:ByteArray}{k:Nat}:aI (s.extract k s.size)=(aI s).drop k:=by
 rw[bw,List.take_of_length_le]
 rw[List.length_drop,aZ]
 omega
theorem xW {s:ByteArray}{k:Nat} (hk:k<s.size):cY (s.extract k s.size) 0=cY s k:=by
 unfold cY
 rw[mG hk,xt,List.drop_zero]
theorem xA {c:Nat}:cls c=4↔c=39∨c=34:=by
 unfold cls
 constructor
 ·intro h
  repeat' split at h
  all_goals first|assumption|omega
 ·intro h
  rw[if_neg (by omega),if_neg (by unfold isLet;omega),if_neg (by unfold c7;omega),if_pos h]
def UQ (W:World) (o:Option (List Nat×Nat)) (e:Ending) (w:World):Prop:=Below W.heap.size W w∧((o=none∧e=.returned (.tuple #[.slice none 0 0,.int .i64 0]))∨∃(l:List Nat) (n:Nat) (v:Value),o=some (l,n)∧e=.returned (.tuple #[v,.int .i64 (n:Int)])∧Bytes W.heap.size w v l)
theorem qJ {W w:World}{o:Option (List Nat×Nat)} (hb:Below W.heap.size W w) (h:o=none):UQ W o (.returned (.tuple #[.slice none 0 0,.int .i64 0])) w:=⟨hb,.inl ⟨h,rfl⟩⟩
theorem Gs {W w:World}{o:Option (List Nat×Nat)}{l:List Nat}{n:Nat}{v:Value} (hb:Below W.heap.size W w) (h:o=some (l,n)) (hv:Bytes W.heap.size w v l):UQ W o (.returned (.tuple #[v,.int .i64 (n:Int)])) w:=⟨hb,.inr ⟨l,n,v,h,rfl,hv⟩⟩
theorem Ez {s:ByteArray} (h0:¬s.size=0) (h:¬(aD s 0=39∨aD s 0=34)):vP s=none:=by unfold vP;rw[if_neg h0,if_neg h]
theorem wJ {s:ByteArray} (h0:¬s.size=0) (h:aD s 0=39∨aD s 0=34):vP s=ef s (aD s 0) 1:=by unfold vP;rw[if_neg h0,if_pos h]
theorem zz {W:World} (hE:jM W) (s:ByteArray) (hs:s.size≤65536):Calls Tryz.prog 145 #[.string s] W (UQ W (vP s)):=by
 obtain ⟨i0,hi,fU,dS,da⟩:=info_parts Tryz.infoByte
 have bG:=zE W.heap.size W
 by_cases h0:s.size=0
 ·have Hn:Hid (vP s=none):=by show _=_;unfold vP;rw[if_pos h0]
  obtain rfl:=uJ h0
  go_enter Tryz.func145,Tryz.ntmps145
  go_wp2
  go_ret2
  exact qJ bG (ab Hn)
 ·have e0:=uK h0
  obtain ⟨q,hq,gT,gq⟩:=cj s 0 (by omega)
  have Sq:aD s 0=q:=(dr s 0 (by omega)).trans gq
  have Ya:=al Sq
  clear hq Sq
  by_cases E':q=39∨q=34
  ·have hL:vP s=ef s q 1:=by rw[wJ h0 (by rw[ab Ya];exact E'),ab Ya]
   rw[hL]
   have hc:cls q=4:=xA.2 E'
   have s1:(1:Int)≤(s.size:Int):=by omega
   clear hL E'
   go_enter Tryz.func145,Tryz.ntmps145
   go_wp2_with fail
   refine (iM W q gT).mono ?_
   rintro e w' ⟨rfl,he⟩
   obtain rfl:W=w':=he.symm
   rw[hc]
   have JJ:Hid (Bytes W.heap.size W (.slice none 0 0) []):=qq _ _
   go_wp2
   go_loopg [4,5,6,7] (s.size-1) (fun gk v4 v5 _ _ wr=>∃(k:Nat) (pre:List Nat) (va:Option Addr) (vn vc:Nat),v4=.slice va vn vc∧v5=.int .i64 (k:Int)∧gk=s.size-k∧1≤k∧k≤s.size∧pre.length≤k∧Hid (Bytes W.heap.size wr (.slice va vn vc) pre)∧Hid (ef s q 1=(ef s q k).map fun r=>(pre++r.1,r.2))∧Hid (Below W.heap.size W wr))
   case atStart=>exact ⟨1,[],_,_,_,rfl,rfl,rfl,zD _,by omega,by simp,JJ,by show _=_;simp,bG⟩
   case round =>
    obtain ⟨k,pre,va,vn,vc,rfl,rfl,aW,mf,hk,Fc,HY,Hu,HB⟩:=hrel
    have bz:=al aW
    clear aW JJ hc
    by_cases aM:k<s.size
    ·obtain ⟨x,hx⟩:∃x:Nat,s[k].toNat=x:=⟨_,rfl⟩
     have dP:aD s k=x:=(dr s k aM).trans hx
     have c8:x<256:=by rw[←dP];exact dy s k
     have k0:(0:Int)≤(k:Int):=zH _
     have k1:(k:Int)<(s.size:Int):=by omega
     have jo:=al dP
     clear dP
     by_cases ym:x=q
     ·have Hr:Hid (ef s q 1=some (pre,k+1)):=by
       show _=_
       rw[ab Hu,mh aM ((ab jo).trans ym)]
       simp
      have fq:((x:Int)==(q:Int))=true:=by simp;omega
      clear Hu ym
      go_wp2
      go_quiet (fail)
      go_wp2
      go_ret2
      exact Gs (n:=k+1) (below_drewN (ab HB) _) (ab Hr) (ab HY)
     ·have fq:((x:Int)==(q:Int))=false:=by simp;omega
      have hz:=extract_size s k s.size (zD _)
      have Zx:=xW aM
      have O9:=al Zx
      have Qu:=al ym
      clear Zx ym
      go_wp2
      go_quiet (fail)
      go_wp2_with fail
      refine (EU (W:=wr.drewN nq) (hE.up (below_drewN (ab HB) _)) (s.extract k s.size) (by omega) (by omega)).mono ?_
      rintro e w2 ⟨bd,⟨ho,rfl⟩|⟨b,n,ho,rfl⟩⟩
      ·rw[ab O9] at ho
       have Hr:Hid (ef s q 1=none):=by
        show _=_
        rw[ab Hu,pM aM (by rw[ab jo];exact ab Qu) ho]
        rfl
       have cS:Hid (Below W.heap.size W w2):=(below_drewN (ab HB) _).trans (bd.mono (ab HB).size)
       clear ho bd hz Hu
       go_wp2
       go_ret2
       exact qJ (ab cS) (ab Hr)
      ·rw[ab O9] at ho
       obtain ⟨p1,p2,p3⟩:=iE ho aM
       have Hr:Hid (ef s q 1=(ef s q (k+n)).map fun r=>((pre++[b])++r.1,r.2)):=by
        show _=_
        rw[ab Hu,mK aM (by rw[ab jo];exact ab Qu) ho,Option.map_map]
        congr 1
        funext r
        simp
       have cS:Hid (Below W.heap.size W w2):=(below_drewN (ab HB) _).trans (bd.mono (ab HB).size)
       have Kk:Hid (Bytes W.heap.size w2 (.slice va vn vc) pre):=((ab HY).up (zE _ _)).up ((below_drewN (zE _ wr) _).trans bd)
       have fJ:W.heap.size≤w2.heap.size:=(ab cS).size
       have n0:((n:Int)==0)=false:=by simp;omega
       have O1:Hid (pre.length+1≤maxLen):=by show _≤_;unfold maxLen;omega
       have O2:Hid ((pre.length+1)*1≤140737488355328):=by show _≤_;omega
       clear ho bd hz Hu HY HB
       go_wp2_with (at_builtin;refine wpList_append_own_at _ rfl _ _ 58 rfl W.heap.size 5 i0 (.int .u8 0) 1 1 Tryz.underlying58 hi fU dS da rfl (by decide) _ _ _ rfl ((ab Kk).alloc _) ⟨w2.heap.size,0,none⟩ 1 1 [.int .u8 (b:Int)] rfl rfl (dq _ _ _) (by simp[Value.oneCell']) (ab O1) (ab O2) (by rw[zJ];omega) ?_;intro v4 w4 bK ba _ cK;have HP:Hid (ow W.heap.size w2 (.slice va vn vc) pre [b] (.returned v4) w4):=eN (ys:=[b]) bK rfl rfl ba cK;clear bK ba cK)
       obtain ⟨v5,kX,ey,dX⟩:=ab HP
       obtain rfl:v4=v5:=by simpa using kX
       obtain ⟨Bp,BH,Bo,rfl⟩:=ey.shape
       have eh:Hid (Below W.heap.size W w4):=(ab cS).trans (dX.below fJ (ab Kk).eL)
       have qB:=al ey
       clear ey dX kX HP
       go_roundg (s.size-(k+n))
       case measure=>have:=ab bz;omega
       case rel=>exact ⟨k+n,pre++[b],_,_,_,rfl,by go_num,rfl,by omega,by omega,by simp only[zK,List.length_singleton];omega,qB,Hr,eh⟩
    ·have Hr:Hid (ef s q 1=none):=by
      show _=_
      rw[ab Hu,mj aM]
      rfl
     obtain rfl:k=s.size:=by omega
     clear Hu
     go_wp2
     go_ret2
     exact qJ (ab HB) (ab Hr)
  ·have Hn:Hid (vP s=none):=Ez h0 (by rw[ab Ya];exact E')
   have hc:((cls q:Int) != 4)=true:=by
    have:=mt xA.1 E'
    simp;omega
   clear E'
   go_enter Tryz.func145,Tryz.ntmps145
   go_wp2_with fail
   refine (iM W q gT).mono ?_
   rintro e w' ⟨rfl,he⟩
   obtain rfl:W=w':=he.symm
   go_wp2
   go_ret2
   exact qJ bG (ab Hn)
end Go.Proofs.YtichhjfjcinjgaaGreatDoor
namespace Go.Proofs.YtichhjfjcinjgaaGreatDoor
open Go.RowKit
attribute [local go_sem ↓] Go.wp_at_zero Go.wp_at_succ
theorem FD (c:Nat):(cls c=1∧lS c)∨(¬lS c∧((cls c=2∧isLet c)∨(¬isLet c∧((cls c=3∧c7 c)∨(¬c7 c∧((cls c=4∧(c=39∨c=34))∨(¬(c=39∨c=34)∧((cls c=5∧j5 c)∨(¬j5 c∧((cls c=6∧c=47)∨(cls c=0∧¬c=47)))))))))))  := by
 unfold cls lS
 by_cases h1:(9≤c∧c≤13)∨c=32
 ·exact .inl ⟨by rw[if_pos h1],h1⟩
 ·refine .inr ⟨h1,?_⟩
  rw[if_neg h1]
  by_cases h2:isLet c
  ·exact .inl ⟨by rw[if_pos h2],h2⟩
  ·refine .inr ⟨h2,?_⟩
   rw[if_neg h2]
   by_cases h3:c7 c
   ·exact .inl ⟨by rw[if_pos h3],h3⟩
   ·refine .inr ⟨h3,?_⟩
    rw[if_neg h3]
    by_cases h4:c=39∨c=34
    ·exact .inl ⟨by rw[if_pos h4],h4⟩
    ·refine .inr ⟨h4,?_⟩
     rw[if_neg h4]
     by_cases h5:j5 c
     ·exact .inl ⟨by rw[if_pos h5],h5⟩
     ·refine .inr ⟨h5,?_⟩
      rw[if_neg h5]
      by_cases h6:c=47
      ·exact .inl ⟨by rw[if_pos h6],h6⟩
      ·exact .inr ⟨by rw[if_neg h6],h6⟩
theorem Dr {W:World}{B b:Nat}{s:ByteArray}{k n c:Nat}{v:Value}{xs:List Value} (I:eW W B b s k n v xs) (hp:bj s s.size k=(k,true)) (ho:(cw s k).2.2=c) (hc:c≠0) (kind m c':Int) (Sn:c'=(c:Int)) :
  Calls Tryz.prog 137 #[.pointer (some ⟨b,0,none⟩),.int .i64 kind,.int .i64 m,.int .i64 c'] W (gz B b s k n xs W):=by
 subst Sn
 exact EC I hp ho hc kind m
theorem Dq {W:World}{B b:Nat}{s:ByteArray}{k n m t:Nat}{v:Value}{xs:List Value} (I:eW W B b s k n v xs) (hp:bj s s.size k=(k,true)) (ho:cw s k=(t,k+m,0)) (t' m':Int) (ht:t'=(t:Int)) (hm:m'=(m:Int)) :
  Calls Tryz.prog 137 #[.pointer (some ⟨b,0,none⟩),.int .i64 t',.int .i64 m',.int .i64 0] W (gz B b s k n xs W):=by
 subst ht hm
 exact GC I hp ho
theorem BR {W:World}{B b:Nat}{s:ByteArray}{k n:Nat}{v:Value}{xs:List Value} (I:eW W B b s k n v xs) (hp:bj s s.size k=(k,true)) (ho:(cw s k).2.2=40) :
  Calls Tryz.prog 136 #[.pointer (some ⟨b,0,none⟩)] W (gz B b s k n xs W):=by
 have H:=al (Dr I hp ho (by decide) 0 0 40 rfl)
 clear I hp ho
 go_enter Tryz.func136,Tryz.ntmps136
 go_wp2_with fail
 refine (ab H).mono ?_
 intro e w hq
 obtain ⟨c,rfl⟩:=hq.ret
 have Hq:=al hq
 clear hq
 go_wp2
 go_ret
 exact ab Hq
theorem BQ {W:World}{B b:Nat}{s:ByteArray}{k n:Nat}{v:Value}{xs:List Value} (I:eW W B b s k n v xs) (hp:bj s s.size k=(k,true)) (ho:cw s k=(4,k+1,0)) :
  Calls Tryz.prog 146 #[.pointer (some ⟨b,0,none⟩)] W (gz B b s k n xs W):=by
 have H:=al (Dq I hp ho 4 1 rfl rfl)
 clear I hp ho
 go_enter Tryz.func146,Tryz.ntmps146
 go_wp2_with fail
 refine (ab H).mono ?_
 intro e w hq
 obtain ⟨c,rfl⟩:=hq.ret
 have Hq:=al hq
 clear hq
 go_wp2
 go_ret
 exact ab Hq
theorem z8 {W:World}{B b:Nat}{s:ByteArray}{k n:Nat}{v:Value}{xs:List Value} (I:eW W B b s k n v xs) (h:lS (aD s k)) :
  Calls Tryz.prog 138 #[.pointer (some ⟨b,0,none⟩)] W (gz B b s k n xs W):=by
 refine (BP I.sc I.more I.size).mono ?_
 rintro e w ⟨rfl,rfl⟩
 have ZH:=I.more
 refine ⟨(BX.refl _ _ _).set _ _,.inl ⟨rfl,k+1,[],v,I.sc.at _,?_,by omega,by omega,I.room,?_⟩⟩
 ·show World.ownsRow _ B 107 3 v n (xs++[])
  rw[List.append_nil]
  obtain ⟨h1,⟨rfl,h0⟩|⟨g,c,cur,rfl,h2,h3,h4⟩⟩:=I.row
  ·exact ⟨h1,.inl ⟨rfl,h0⟩⟩
  ·refine ⟨h1,.inr ⟨g,c,cur,rfl,h2,(heap_setCell_other _ ⟨b,1,none⟩ g _ ?_).trans h3,h4⟩⟩
   have:=I.lo
   show ¬g=b
   omega
 ·rw[lI]
  exact Dn n (Cb I.more h)
theorem xO {W:World}{B b:Nat}{s:ByteArray}{k n:Nat}{v:Value}{xs:List Value} (I:eW W B b s k n v xs) (hp:bj s s.size k=(k,true)) (ho:cw s k=(1,cM s k,0)) :
  Calls Tryz.prog 139 #[.pointer (some ⟨b,0,none⟩)] W (gz B b s k n xs W):=by
 have hr:=kQ I.sc (Nat.le_of_lt I.more)
 have HI:=al I
 have hs:=I.size
 have hk:=I.more
 have Hp:=al hp
 have Ho:=al ho
 clear I hp ho
 go_enter Tryz.func139,Tryz.ntmps139
 go_wp2_with fail
 refine hr.mono ?_
 rintro e w1 ⟨rfl,n1,rfl⟩
 clear hr
 have RL:=xT (W.drewN n1) (s.extract k s.size) (by rw[ByteArray.size_extract];omega)
 go_wp2_with fail
 refine RL.mono ?_
 rintro e w2 ⟨m,rfl,bN,hn,h1,h2⟩
 obtain rfl:W.drewN n1=w2:=bN.symm
 clear bN RL
 obtain ⟨eE,hle⟩:=vb (by omega) hn h1 h2
 have aX:Below W.heap.size W (W.drewN n1):=below_drewN (zE _ _) n1
 have ht:=Dq ((ab HI).up aX) (ab Hp) (by rw[ab Ho,eE]) 1 (m:Int) rfl rfl
 have Ht:=al ht
 have yS:=al aX
 clear ht hn h1 h2 hle eE aX
 go_wp2_with fail
 refine (ab Ht).mono ?_
 intro e w hq
 obtain ⟨c,rfl⟩:=hq.ret
 have Hq:=al (hq.from (ab yS) (ab HI).hi)
 clear hq
 go_wp2
 go_ret
 exact ab Hq
theorem zZ {W:World}{B b:Nat}{s:ByteArray}{k n:Nat}{v:Value}{xs:List Value} (hE:jM W) (I:eW W B b s k n v xs) (hp:bj s s.size k=(k,true)) (ho:cw s k=if wv (aI (s.extract k (cM s k)))=none then (0,0,41) else (2,cM s k,0)) :
  Calls Tryz.prog 142 #[.pointer (some ⟨b,0,none⟩)] W (gz B b s k n xs W):=by
 have hr:=kQ I.sc (Nat.le_of_lt I.more)
 have HI:=al I
 have HE:=al hE
 have hs:=I.size
 have hk:=I.more
 have Hp:=al hp
 have Ho:=al ho
 clear I hp ho hE
 go_enter Tryz.func142,Tryz.ntmps142
 go_wp2_with fail
 refine hr.mono ?_
 rintro e w1 ⟨rfl,n1,rfl⟩
 clear hr
 have RL:=xT (W.drewN n1) (s.extract k s.size) (by rw[ByteArray.size_extract];omega)
 go_wp2_with fail
 refine RL.mono ?_
 rintro e w2 ⟨m,rfl,bN,hn,h1,h2⟩
 obtain rfl:W.drewN n1=w2:=bN.symm
 clear bN RL
 obtain ⟨eE,hle⟩:=vb (by omega) hn h1 h2
 have aX:Below W.heap.size W (W.drewN n1):=below_drewN (zE _ _) n1
 have oV:=kQ ((ab HI).up aX).sc (Nat.le_of_lt hk)
 have kI:(s.extract k s.size).size=s.size-k:=by rw[ByteArray.size_extract];omega
 have yS:=al aX
 have HeE:=al eE
 have hex:=qY s k m hle
 have m0:(0:Int)≤(m:Int):=zH _
 have m1:(m:Int)≤((s.size-k:Nat):Int):=by omega
 clear hn h1 h2 aX eE
 go_wp2_with fail
 refine oV.mono ?_
 rintro e w3 ⟨rfl,n2,rfl⟩
 clear oV
 have bd:Below W.heap.size W (W.drewN (n1+n2)):=below_drewN (zE _ _) (n1+n2)
 have iI:=Ex ((ab HE).up bd) (s.extract k (k+m)) (by rw[ByteArray.size_extract];omega)
 have vJ:=al bd
 clear bd
 go_wp2_with fail
 refine iI.mono ?_
 rintro e w4 ⟨ff,wn,wc,rfl,hu⟩
 have kh:Below W.heap.size W w4:=(ab vJ).trans ff
 rcases hu with ⟨u,RB,rfl,rfl⟩|⟨RB,rfl,rfl⟩
 ·have ht:=Dq ((ab HI).up kh) (ab Hp) (m:=m) (t:=2) (by rw[ab Ho,ab HeE,RB];rfl) 2 (m:Int) rfl rfl
  have Ht:=al ht
  have Pf:=al kh
  clear ht ff kh RB iI
  go_wp2_with fail
  refine (ab Ht).mono ?_
  intro e w hq
  obtain ⟨c,rfl⟩:=hq.ret
  have Hq:=al (hq.from (ab Pf) (ab HI).hi)
  clear hq
  go_wp2
  go_ret
  exact ab Hq
 ·have ht:=Dr ((ab HI).up kh) (ab Hp) (c:=41) (by rw[ab Ho,ab HeE,RB];rfl) (by decide) 2 (m:Int) 41 rfl
  have Ht:=al ht
  have Pf:=al kh
  clear ht ff kh RB iI
  go_wp2_with fail
  refine (ab Ht).mono ?_
  intro e w hq
  obtain ⟨c,rfl⟩:=hq.ret
  have Hq:=al (hq.from (ab Pf) (ab HI).hi)
  clear hq
  go_wp2
  go_ret
  exact ab Hq
end Go.Proofs.YtichhjfjcinjgaaGreatDoor
namespace Go.Proofs
open Go.Shelf
def Tryz.vY:Go.Shelf.Ren:=⟨fun|143=>156|219=>187|217=>181|225=>196|224=>197|267=>198|266=>194|314=>210|n=>n,fun|9=>9|3=>3|4=>4|5=>5|46=>156|146=>187|51=>186|n=>n,fun|1=>1|n=>n⟩
theorem Tryz.E5:Go.Proofs.Lays.n143 Tryz.prog Tryz.vY:={
 mixed:=by kernel_rfl
 f143:=Tryz.func156.trans (congrArg some (by kernel_rfl))
 f217:=Tryz.func181.trans (congrArg some (by kernel_rfl))
 f219:=Tryz.func187.trans (congrArg some (by kernel_rfl))
 f224:=Tryz.func197.trans (congrArg some (by kernel_rfl))
 f225:=Tryz.func196.trans (congrArg some (by kernel_rfl))
 f266:=Tryz.func194.trans (congrArg some (by kernel_rfl))
 f267:=Tryz.func198.trans (congrArg some (by kernel_rfl))
 f314:=Tryz.func210.trans (congrArg some (by kernel_rfl))
 t3:=Tryz.underlying3
 a3:=Tryz.isAgg3
 z3:=Tryz.sizeOf3
 v3:=Tryz.zeroValue3
 t4:=Tryz.underlying4
 a4:=Tryz.isAgg4
 z4:=Tryz.sizeOf4
 v4:=Tryz.zeroValue4
 t5:=Tryz.underlying5
 a5:=Tryz.isAgg5
 z5:=Tryz.sizeOf5
 v5:=Tryz.zeroValue5
 t9:=Tryz.underlying9
 a9:=Tryz.isAgg9
 z9:=Tryz.sizeOf9
 v9:=Tryz.zeroValue9
 t46:=Tryz.underlying156
 a46:=Tryz.isAgg156
 z46:=Tryz.sizeOf156
 v46:=Tryz.zeroValue156
 t51:=Tryz.underlying186
 a51:=Tryz.isAgg186
 z51:=Tryz.sizeOf186
 v51:=Tryz.zeroValue186
 t146:=Tryz.underlying187
 a146:=Tryz.isAgg187
 z146:=Tryz.sizeOf187
 v146:=Tryz.zeroValue187
 g1:=by kernel_rfl }
end Go.Proofs

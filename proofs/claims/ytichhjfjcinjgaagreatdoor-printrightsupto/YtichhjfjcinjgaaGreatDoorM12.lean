import Derived.Test.YtichhjfjcinjgaaGreatDoorM11
import Derived.Shelf.Strings.Search3
set_option maxHeartbeats 2000000
set_option maxRecDepth 100000
namespace Go.Proofs.YtichhjfjcinjgaaGreatDoor
open Go.RowKit Go.Lib
attribute [local go_sem ↓] Go.wp_at_zero Go.wp_at_succ
theorem Iv {x c d e:Nat} (h:kT x=some (c,d,e)) (hx:128≤x):1≤c:=by
 unfold kT at h
 rw[if_neg (by omega)] at h
 repeat' split at h
 all_goals first|(cases h;done)|(have:=zC h;simp at this;omega)
theorem mj (s:ByteArray) (n i:Nat) (hn:n≤s.size) (hi:i<n):aC (s.extract 0 n) i=aC s i:=by
 have:=dK s 0 n i hn (by omega)
 rw[this]
 congr 1
 omega
theorem nJ {s:ByteArray}{n c d e:Nat} (hn:n≤s.size):dC (s.extract 0 n) 0 c d e↔(1+c≤n∧dC s 0 c d e):=by
 have hz:=extract_size s 0 n hn
 unfold dC
 rw[hz]
 constructor
 ·rintro ⟨h1,h2⟩
  refine ⟨by omega,by omega,fun j j1 j2=>?_⟩
  have:=h2 j j1 j2
  rw[Nat.zero_add,mj s n j hn (by omega)] at this
  rw[Nat.zero_add]
  exact this
 ·rintro ⟨h0,h1,h2⟩
  refine ⟨by omega,fun j j1 j2=>?_⟩
  have:=h2 j j1 j2
  rw[Nat.zero_add] at this
  rw[Nat.zero_add,mj s n j hn (by omega)]
  exact this
theorem FU {s:ByteArray}{n:Nat} (hn:n≤s.size) (h2:2≤n) (h4:n≤4) (hx:128≤aC s 0) (nh:∀m,2≤m→m<n→¬dY s 0=m) :
  (dY s 0=n→cX (s.extract 0 n) 0=-1)∧(¬dY s 0=n→cX (s.extract 0 n) 0=0):=by
 have hz:=extract_size s 0 n hn
 have hb:=mj s n 0 hn (by omega)
 have key:dY (s.extract 0 n) 0=if dY s 0=n then n else 0:=by
  cases hf:kT (aC s 0) with
  |none=>rw[fz (by rw[hb];exact hf),fz hf,if_neg (by omega)]
  |some t =>
   obtain ⟨c,d,e⟩:=t
   have hc:=Iv hf hx
   have Wh:=Iu hf
   by_cases nL:dC s 0 c d e
   ·have hs:=ie hf nL
    by_cases hcn:1+c=n
    ·rw[if_pos (by omega),ie (by rw[hb];exact hf) ((nJ hn).2 ⟨by omega,nL⟩)];exact hcn
    ·have h1:n<1+c:=by
      rcases Nat.lt_or_ge n (1+c) with q|q
      ·exact q
      ·exact absurd hs (nh (1+c) (by omega) (by omega))
     rw[if_neg (by omega),gL (by rw[hb];exact hf) (fun q=>by have:=((nJ hn).1 q).1;omega)]
   ·rw[if_neg (by rw[gL hf nL];omega),gL (by rw[hb];exact hf) (fun q=>nL ((nJ hn).1 q).2)]
 constructor
 ·intro h
  rw[if_pos h] at key
  rw[tp (by omega) (by omega),key,xb (by omega)]
 ·intro h
  rw[if_neg h] at key
  rw[xc (by omega) key]
  rfl
theorem vK {W:World} (h:iG W) (s:ByteArray) (Rh:0<s.size) (hs:s.size≤140737488351232) (hx:128≤aC s 0) :
  Calls Tryz.prog 129 #[.string s] W fun e w=>e=.returned (.int .i64 (dY s 0:Int))∧Below W.heap.size W w:=by
 have bG:=zE W.heap.size W
 have Hx:=al hx
 obtain ⟨ch,Tx⟩:∃ch,ch=dY s 0:=⟨_,rfl⟩
 have hle:=oY s 0 (by omega)
 rw[←Tx] at hle ⊢
 have Rw:¬ch=1:=by
  rw[Tx]
  cases hf:kT (aC s 0) with
  |none=>rw[fz hf];omega
  |some t =>
   obtain ⟨c,d,e⟩:=t
   have hc:=Iv hf hx
   by_cases nL:dC s 0 c d e
   ·rw[ie hf nL];omega
   ·rw[gL hf nL];omega
 have Hch:=al Tx
 have Hle:=al hle
 have np:=al Rw
 clear hx Tx hle Rw
 go_enter Tryz.func129,Tryz.ntmps129
 go_wp2
 go_loopg [3] 5 (fun gk v3 wr=>∃(n:Nat),v3=.int .i64 (n:Int)∧gk=7-n∧2≤n∧n≤5∧Hid (Below W.heap.size W wr)∧Hid (∀m,2≤m→m<n→¬ch=m))
 case atStart=>exact ⟨2,rfl,rfl,by omega,by omega,bG,fun m m1 m2=>by omega⟩
 case round =>
  obtain ⟨n,rfl,aU,n2,n5,HB,Fk⟩:=hrel
  have bz:=al aU
  clear aU
  by_cases EL:n≤4
  ·by_cases Zg:n≤s.size
   ·have b1:decide ((n:Int)≤4)=true:=by simp;omega
    have b2:decide ((n:Int)≤(s.size:Int))=true:=by simp;omega
    have hz:=extract_size s 0 n Zg
    have Pr:=FU Zg n2 EL (ab Hx) (fun m m1 m2=>by rw[←ab Hch];exact ab Fk m m1 m2)
    rw[←ab Hch] at Pr
    have TT:=al Pr
    clear Pr
    go_wp2_with fail
    refine (yN (h.up (ab HB)) (s.extract 0 n) (by omega)).mono ?_
    rintro e w2 ⟨rfl,bd⟩
    have cR:Hid (Below W.heap.size W w2):=(ab HB).trans (bd.mono (ab HB).size)
    clear bd HB hz
    by_cases hc:ch=n
    ·rw[(ab TT).1 hc]
     have Hc:=al hc
     clear hc TT
     go_wp2
     go_ret
     exact ⟨by rw[ab Hc];rfl,ab cR⟩
    ·rw[(ab TT).2 hc]
     have Xo:Hid (∀m,2≤m→m<n+1→¬ch=m):=fun m m1 m2 q=>by
      rcases Nat.lt_or_ge m n with h1|h1
      ·exact ab Fk m m1 h1 q
      ·exact hc (by omega)
     clear hc TT
     go_wp2
     go_roundg (7-(n+1))
     case measure=>have:=ab bz;omega
     case rel=>exact ⟨n+1,by go_num,rfl,by omega,by omega,cR,Xo⟩
   ·have b1:decide ((n:Int)≤4)=true:=by simp;omega
    have b2:decide ((n:Int)≤(s.size:Int))=false:=by simp;omega
    have Hc:Hid (ch=0):=by
     have h1:=ab Hle
     have h2:=ab np
     have h3:=ab Fk ch
     show ch=0
     omega
    go_wp2
    go_ret
    exact ⟨by rw[ab Hc];rfl,ab HB⟩
  ·have b1:decide ((n:Int)≤4)=false:=by simp;omega
   have Hc:Hid (ch=0):=by
    have h1:=ab Hle
    have h2:=ab np
    have h3:=ab Fk ch
    show ch=0
    omega
   go_wp2
   go_ret
   exact ⟨by rw[ab Hc];rfl,ab HB⟩
theorem tO {s:ByteArray}{k c d e:Nat} (hk:k<s.size):dC (s.extract k s.size) 0 c d e↔dC s k c d e:=by
 have hz:=extract_size s k s.size (zD _)
 unfold dC
 rw[hz]
 constructor
 ·rintro ⟨h1,h2⟩
  refine ⟨by omega,fun j j1 j2=>?_⟩
  have:=h2 j j1 j2
  rw[Nat.zero_add,dK s k s.size j (zD _) (by omega)] at this
  exact this
 ·rintro ⟨h1,h2⟩
  refine ⟨by omega,fun j j1 j2=>?_⟩
  rw[Nat.zero_add,dK s k s.size j (zD _) (by omega)]
  exact h2 j j1 j2
theorem mn {s:ByteArray}{k:Nat} (hk:k<s.size):aC (s.extract k s.size) 0=aC s k:=by rw[dK s k s.size 0 (zD _) (by omega)];rfl
theorem E7 {s:ByteArray}{k:Nat} (hk:k<s.size):dY (s.extract k s.size) 0=dY s k:=by
 have hb:=mn hk
 cases hf:kT (aC s k) with
 |none=>rw[fz (by rw[hb];exact hf),fz hf]
 |some t =>
  obtain ⟨c,d,e⟩:=t
  by_cases nL:dC s k c d e
  ·rw[ie hf nL,ie (by rw[hb];exact hf) ((tO hk).2 nL)]
  ·rw[gL hf nL,gL (by rw[hb];exact hf) (fun q=>nL ((tO hk).1 q))]
theorem kM {s:ByteArray}{k:Nat} (hk:k<s.size) (hx:aC s k<128):dY s k=1 :=
 ie (c:=0) (d:=0) (e:=0) (by unfold kT;rw[if_pos hx]) ⟨by omega,fun j j1 j2=>by omega⟩
noncomputable def dc (s:ByteArray) (k:Nat):Nat:=if 128≤aC s k then dY s k else if aC s k<32∨aC s k=127∨aC s k=34∨aC s k=92 then 0 else 1
theorem we {s:ByteArray}{k:Nat} (hk:k<s.size):k+dc s k≤s.size∧dc s k≤4:=by
 have:=oY s k (by omega)
 unfold dc
 split
 ·exact this
 ·split<;>omega
def sub (s:ByteArray) (k n:Nat):List Nat:=((aI s).drop k).take n
noncomputable def qs (s:ByteArray) (k:Nat):List Nat:=if dc s k=0 then mE (aC s k) else sub s k (dc s k)
noncomputable def qn (s:ByteArray) (k:Nat):Nat:=if dc s k=0 then 1 else dc s k
theorem BE (s:ByteArray) (k:Nat):1≤qn s k:=by unfold qn;split<;>omega
theorem LQ {s:ByteArray}{k:Nat} (hk:k<s.size):k+qn s k≤s.size:=by
 have:=we hk
 unfold qn
 split<;>omega
theorem BD {s:ByteArray}{k:Nat}:(qs s k).length≤4*qn s k:=by
 unfold qs qn
 split
 ·have:=Ld (aC s k);omega
 ·have:(sub s k (dc s k)).length≤dc s k:=by unfold sub;rw[List.length_take];omega
  omega
theorem Gu (s:ByteArray) (k:Nat):mO (qs s k):=by
 unfold qs
 split
 ·exact Le (dw s k)
 ·intro x hx
  unfold sub at hx
  exact tw s x (List.mem_of_mem_drop (List.mem_of_mem_take hx))
noncomputable def jK (s:ByteArray) (k:Nat):List Nat:=if _h:k<s.size then qs s k++jK s (k+qn s k) else []
termination_by s.size-k
decreasing_by have:=BE s k;omega
theorem n8 {s:ByteArray}{k:Nat} (h:¬k<s.size):jK s k=[]:=by rw[jK,dif_neg h]
theorem pA {s:ByteArray}{k:Nat} (h:k<s.size):jK s k=qs s k++jK s (k+qn s k):=by rw[jK,dif_pos h]
theorem qi (s:ByteArray) (k n:Nat):aI (s.extract k (k+n))=sub s k n:=by
 unfold aI sub aI
 rw[Lib.extract_data]
 simp[List.map_take,List.map_drop]
theorem C0 {s:ByteArray}{k n:Nat} (h:k+n≤s.size):(sub s k n).length=n:=by
 unfold sub
 rw[List.length_take,List.length_drop,aY]
 omega
theorem Em {W:World} (h:iG W) (s:ByteArray) (Rh:0<s.size) (hs:s.size≤140737488351232) :
  Calls Tryz.prog 86 #[.string s] W fun e w=>e=.returned (.int .i64 (dc s 0:Int))∧Below W.heap.size W w:=by
 have bG:=zE W.heap.size W
 obtain ⟨x,hx⟩:∃x:Nat,s[0].toNat=x:=⟨_,rfl⟩
 have dO:aC s 0=x:=(dk s 0 Rh).trans hx
 have cZ:x<256:=by rw[←dO];exact dw s 0
 have hp:dc s 0=if 128≤x then dY s 0 else if x<32∨x=127∨x=34∨x=92 then 0 else 1:=by unfold dc;rw[dO]
 rw[hp]
 have jd:=al dO
 clear dO hp
 by_cases h1:128≤x
 ·rw[if_pos h1]
  have b1:=fg (c:=x) (k:=128) (by omega)
  go_enter Tryz.func86,Tryz.ntmps86
  go_wp2_with fail
  refine (vK h s Rh hs (by rw[ab jd];exact h1)).mono ?_
  rintro e w2 ⟨rfl,bd⟩
  have Hb:=al bd
  clear bd
  go_wp2
  go_ret
  exact ⟨rfl,ab Hb⟩
 ·rw[if_neg h1]
  have b1:=kS (c:=x) (k:=128) (by omega)
  clear h1
  by_cases h2:x<32
  ·rw[if_pos (.inl h2)]
   have b2:=M9 (c:=x) (k:=32) (by omega)
   go_enter Tryz.func86,Tryz.ntmps86
   go_wp2
   go_ret
   exact ⟨rfl,bG⟩
  ·have b2:=qL (c:=x) (k:=32) (by omega)
   by_cases h3:x=127
   ·rw[if_pos (.inr (.inl h3))]
    have b3:=E0 (c:=x) (k:=127) (by omega)
    clear h2 h3
    go_enter Tryz.func86,Tryz.ntmps86
    go_wp2
    go_ret
    exact ⟨rfl,bG⟩
   ·have b3:=fZ (c:=x) (k:=127) (by omega)
    by_cases h4:x=34
    ·rw[if_pos (.inr (.inr (.inl h4)))]
     have b4:=E0 (c:=x) (k:=34) (by omega)
     clear h2 h3 h4
     go_enter Tryz.func86,Tryz.ntmps86
     go_wp2
     go_ret
     exact ⟨rfl,bG⟩
    ·have b4:=fZ (c:=x) (k:=34) (by omega)
     by_cases h5:x=92
     ·rw[if_pos (.inr (.inr (.inr h5)))]
      have b5:=E0 (c:=x) (k:=92) (by omega)
      clear h2 h3 h4 h5
      go_enter Tryz.func86,Tryz.ntmps86
      go_wp2
      go_ret
      exact ⟨rfl,bG⟩
     ·have b5:=fZ (c:=x) (k:=92) (by omega)
      rw[if_neg (by omega)]
      clear h2 h3 h4 h5
      go_enter Tryz.func86,Tryz.ntmps86
      go_wp2
      go_ret
      exact ⟨rfl,bG⟩
theorem zv {s:ByteArray}{k:Nat} (hk:k<s.size):dc (s.extract k s.size) 0=dc s k:=by
 unfold dc
 rw[mn hk,E7 hk]
theorem Fb (W:World) (x:Nat):Bytes W.heap.size (W.alloc (.cells #[.int .u8 (x:Int)] 5)) (.slice (some ⟨W.heap.size,0,none⟩) 1 1) [x] :=
 ⟨rfl,.inr ⟨W.heap.size,1,#[.int .u8 (x:Int)],rfl,zD _,aK _ _,zD _,by unfold maxLen;omega,rfl,rfl⟩⟩
theorem Bytes.up {base:Nat}{W w:World}{v:Value}{l:List Nat} (h:Bytes base W v l) (hb:Below W.heap.size W w):Bytes base w v l:=by
 unfold Bytes at h ⊢
 obtain ⟨h1,⟨rfl,h0⟩|⟨g,c,cur,rfl,h2,h3,h4⟩⟩:=h
 ·exact ⟨h1,.inl ⟨rfl,h0⟩⟩
 ·exact ⟨h1,.inr ⟨g,c,cur,rfl,h2,(hb.block g (zA h3).1).trans h3,h4⟩⟩
theorem IS:mO [34]:=fun x hx=>by rw[List.mem_singleton.1 hx];decide
theorem Bytes.eJ {base:Nat}{W:World}{v:Value}{l:List Nat} (h:Bytes base W v l):∀b,v.ownBlock=some b→base≤b:=fun b hb=>by
 unfold Bytes at h
 exact (h.lt b hb).1
theorem Bytes.shape {base:Nat}{W:World}{v:Value}{l:List Nat} (h:Bytes base W v l):∃a n c,v=.slice a n c:=by
 obtain ⟨a,c,rfl,_⟩:=h.has
 exact ⟨_,_,_,rfl⟩
theorem wO {s:ByteArray}{k:Nat}:aI (s.extract k s.size)=(aI s).drop k:=by
 rw[bw,List.take_of_length_le]
 rw[List.length_drop,aY]
 omega
theorem xv {s:ByteArray}{k:Nat} (hk:k<s.size):cW (s.extract k s.size) 0=cW s k:=by
 unfold cW
 rw[mn hk,wO,List.drop_zero]
theorem wV {c:Nat}:cls c=4↔c=39∨c=34:=by
 unfold cls
 constructor
 ·intro h
  repeat' split at h
  all_goals first|assumption|omega
 ·intro h
  rw[if_neg (by omega),if_neg (by unfold isLet;omega),if_neg (by unfold cY;omega),if_pos h]
def UQ (W:World) (o:Option (List Nat×Nat)) (e:Ending) (w:World):Prop:=Below W.heap.size W w∧((o=none∧e=.returned (.tuple #[.slice none 0 0,.int .i64 0]))∨∃(l:List Nat) (n:Nat) (v:Value),o=some (l,n)∧e=.returned (.tuple #[v,.int .i64 (n:Int)])∧Bytes W.heap.size w v l)
theorem qf {W w:World}{o:Option (List Nat×Nat)} (hb:Below W.heap.size W w) (h:o=none):UQ W o (.returned (.tuple #[.slice none 0 0,.int .i64 0])) w:=⟨hb,.inl ⟨h,rfl⟩⟩
theorem FW {W w:World}{o:Option (List Nat×Nat)}{l:List Nat}{n:Nat}{v:Value} (hb:Below W.heap.size W w) (h:o=some (l,n)) (hv:Bytes W.heap.size w v l):UQ W o (.returned (.tuple #[v,.int .i64 (n:Int)])) w:=⟨hb,.inr ⟨l,n,v,h,rfl,hv⟩⟩
theorem D4 {s:ByteArray} (h0:¬s.size=0) (h:¬(aC s 0=39∨aC s 0=34)):vp s=none:=by unfold vp;rw[if_neg h0,if_neg h]
theorem vT {s:ByteArray} (h0:¬s.size=0) (h:aC s 0=39∨aC s 0=34):vp s=ec s (aC s 0) 1:=by unfold vp;rw[if_neg h0,if_pos h]
theorem yO {W:World} (hE:jW W) (s:ByteArray) (hs:s.size≤65536):Calls Tryz.prog 145 #[.string s] W (UQ W (vp s)):=by
 obtain ⟨i0,hi,gj,dR,c7⟩:=info_parts Tryz.infoByte
 have bG:=zE W.heap.size W
 by_cases h0:s.size=0
 ·have Hn:Hid (vp s=none):=by show _=_;unfold vp;rw[if_pos h0]
  obtain rfl:=tS h0
  go_enter Tryz.func145,Tryz.ntmps145
  go_wp2
  go_ret2
  exact qf bG (ab Hn)
 ·have e0:=tT h0
  obtain ⟨q,hq,jZ,gq⟩:=cd s 0 (by omega)
  have RW:aC s 0=q:=(dk s 0 (by omega)).trans gq
  have XB:=al RW
  clear hq RW
  by_cases EH:q=39∨q=34
  ·have hL:vp s=ec s q 1:=by rw[vT h0 (by rw[ab XB];exact EH),ab XB]
   rw[hL]
   have hc:cls q=4:=wV.2 EH
   have s1:(1:Int)≤(s.size:Int):=by omega
   clear hL EH
   go_enter Tryz.func145,Tryz.ntmps145
   go_wp2_with fail
   refine (iD W q jZ).mono ?_
   rintro e w' ⟨rfl,he⟩
   obtain rfl:W=w':=he.symm
   rw[hc]
   have Jb:Hid (Bytes W.heap.size W (.slice none 0 0) []):=pR _ _
   go_wp2
   go_loopg [4,5,6,7] (s.size-1) (fun gk v4 v5 _ _ wr=>∃(k:Nat) (pre:List Nat) (va:Option Addr) (vn vc:Nat),v4=.slice va vn vc∧v5=.int .i64 (k:Int)∧gk=s.size-k∧1≤k∧k≤s.size∧pre.length≤k∧Hid (Bytes W.heap.size wr (.slice va vn vc) pre)∧Hid (ec s q 1=(ec s q k).map fun r=>(pre++r.1,r.2))∧Hid (Below W.heap.size W wr))
   case atStart=>exact ⟨1,[],_,_,_,rfl,rfl,rfl,zD _,by omega,by simp,Jb,by show _=_;simp,bG⟩
   case round =>
    obtain ⟨k,pre,va,vn,vc,rfl,rfl,aU,lQ,hk,EK,HY,Hu,HB⟩:=hrel
    have bz:=al aU
    clear aU Jb hc
    by_cases aM:k<s.size
    ·obtain ⟨x,hx⟩:∃x:Nat,s[k].toNat=x:=⟨_,rfl⟩
     have dO:aC s k=x:=(dk s k aM).trans hx
     have cZ:x<256:=by rw[←dO];exact dw s k
     have k0:(0:Int)≤(k:Int):=zH _
     have k1:(k:Int)<(s.size:Int):=by omega
     have jd:=al dO
     clear dO
     by_cases xL:x=q
     ·have Hr:Hid (ec s q 1=some (pre,k+1)):=by
       show _=_
       rw[ab Hu,lS aM ((ab jd).trans xL)]
       simp
      have fq:((x:Int)==(q:Int))=true:=by simp;omega
      clear Hu xL
      go_wp2
      go_quiet (fail)
      go_wp2
      go_ret2
      exact FW (n:=k+1) (below_drewN (ab HB) _) (ab Hr) (ab HY)
     ·have fq:((x:Int)==(q:Int))=false:=by simp;omega
      have hz:=extract_size s k s.size (zD _)
      have Y':=xv aM
      have OH:=al Y'
      have P6:=al xL
      clear Y' xL
      go_wp2
      go_quiet (fail)
      go_wp2_with fail
      refine (Eo (W:=wr.drewN nq) (hE.up (below_drewN (ab HB) _)) (s.extract k s.size) (by omega) (by omega)).mono ?_
      rintro e w2 ⟨bd,⟨ho,rfl⟩|⟨b,n,ho,rfl⟩⟩
      ·rw[ab OH] at ho
       have Hr:Hid (ec s q 1=none):=by
        show _=_
        rw[ab Hu,pr aM (by rw[ab jd];exact ab P6) ho]
        rfl
       have cR:Hid (Below W.heap.size W w2):=(below_drewN (ab HB) _).trans (bd.mono (ab HB).size)
       clear ho bd hz Hu
       go_wp2
       go_ret2
       exact qf (ab cR) (ab Hr)
      ·rw[ab OH] at ho
       obtain ⟨p1,p2,p3⟩:=iv ho aM
       have Hr:Hid (ec s q 1=(ec s q (k+n)).map fun r=>((pre++[b])++r.1,r.2)):=by
        show _=_
        rw[ab Hu,mu aM (by rw[ab jd];exact ab P6) ho,Option.map_map]
        congr 1
        funext r
        simp
       have cR:Hid (Below W.heap.size W w2):=(below_drewN (ab HB) _).trans (bd.mono (ab HB).size)
       have JK:Hid (Bytes W.heap.size w2 (.slice va vn vc) pre):=((ab HY).up (zE _ _)).up ((below_drewN (zE _ wr) _).trans bd)
       have fE:W.heap.size≤w2.heap.size:=(ab cR).size
       have n0:((n:Int)==0)=false:=by simp;omega
       have O1:Hid (pre.length+1≤maxLen):=by show _≤_;unfold maxLen;omega
       have O2:Hid ((pre.length+1)*1≤140737488355328):=by show _≤_;omega
       clear ho bd hz Hu HY HB
       go_wp2_with (at_builtin;refine wpList_append_own_at _ rfl _ _ 58 rfl W.heap.size 5 i0 (.int .u8 0) 1 1 Tryz.underlying58 hi gj dR c7 rfl (by decide) _ _ _ rfl ((ab JK).alloc _) ⟨w2.heap.size,0,none⟩ 1 1 [.int .u8 (b:Int)] rfl rfl (dj _ _ _) (by simp[Value.oneCell']) (ab O1) (ab O2) (by rw[zJ];omega) ?_;intro v4 w4 bJ ba _ cJ;have HP:Hid (nO W.heap.size w2 (.slice va vn vc) pre [b] (.returned v4) w4):=eL (ys:=[b]) bJ rfl rfl ba cJ;clear bJ ba cJ)
       obtain ⟨v5,kH,eu,dV⟩:=ab HP
       obtain rfl:v4=v5:=by simpa using kH
       obtain ⟨A0,Bh,AZ,rfl⟩:=eu.shape
       have ed:Hid (Below W.heap.size W w4):=(ab cR).trans (dV.below fE (ab JK).eJ)
       have pX:=al eu
       clear eu dV kH HP
       go_roundg (s.size-(k+n))
       case measure=>have:=ab bz;omega
       case rel=>exact ⟨k+n,pre++[b],_,_,_,rfl,by go_num,rfl,by omega,by omega,by simp only[zK,List.length_singleton];omega,pX,Hr,ed⟩
    ·have Hr:Hid (ec s q 1=none):=by
      show _=_
      rw[ab Hu,lT aM]
      rfl
     obtain rfl:k=s.size:=by omega
     clear Hu
     go_wp2
     go_ret2
     exact qf (ab HB) (ab Hr)
  ·have Hn:Hid (vp s=none):=D4 h0 (by rw[ab XB];exact EH)
   have hc:((cls q:Int) != 4)=true:=by
    have:=mt wV.1 EH
    simp;omega
   clear EH
   go_enter Tryz.func145,Tryz.ntmps145
   go_wp2_with fail
   refine (iD W q jZ).mono ?_
   rintro e w' ⟨rfl,he⟩
   obtain rfl:W=w':=he.symm
   go_wp2
   go_ret2
   exact qf bG (ab Hn)
end Go.Proofs.YtichhjfjcinjgaaGreatDoor
namespace Go.Proofs.YtichhjfjcinjgaaGreatDoor
open Go.RowKit
attribute [local go_sem ↓] Go.wp_at_zero Go.wp_at_succ
theorem E5 (c:Nat):(cls c=1∧lB c)∨(¬lB c∧((cls c=2∧isLet c)∨(¬isLet c∧((cls c=3∧cY c)∨(¬cY c∧((cls c=4∧(c=39∨c=34))∨(¬(c=39∨c=34)∧((cls c=5∧jP c)∨(¬jP c∧((cls c=6∧c=47)∨(cls c=0∧¬c=47)))))))))))  := by
 unfold cls lB
 by_cases h1:(9≤c∧c≤13)∨c=32
 ·exact .inl ⟨by rw[if_pos h1],h1⟩
 ·refine .inr ⟨h1,?_⟩
  rw[if_neg h1]
  by_cases h2:isLet c
  ·exact .inl ⟨by rw[if_pos h2],h2⟩
  ·refine .inr ⟨h2,?_⟩
   rw[if_neg h2]
   by_cases h3:cY c
   ·exact .inl ⟨by rw[if_pos h3],h3⟩
   ·refine .inr ⟨h3,?_⟩
    rw[if_neg h3]
    by_cases h4:c=39∨c=34
    ·exact .inl ⟨by rw[if_pos h4],h4⟩
    ·refine .inr ⟨h4,?_⟩
     rw[if_neg h4]
     by_cases h5:jP c
     ·exact .inl ⟨by rw[if_pos h5],h5⟩
     ·refine .inr ⟨h5,?_⟩
      rw[if_neg h5]
      by_cases h6:c=47
      ·exact .inl ⟨by rw[if_pos h6],h6⟩
      ·exact .inr ⟨by rw[if_neg h6],h6⟩
theorem CY {W:World}{B b:Nat}{s:ByteArray}{k n c:Nat}{v:Value}{xs:List Value} (I:eT W B b s k n v xs) (hp:bj s s.size k=(k,true)) (ho:(cq s k).2.2=c) (hc:c≠0) (kind m c':Int) (RT:c'=(c:Int)) :
  Calls Tryz.prog 137 #[.pointer (some ⟨b,0,none⟩),.int .i64 kind,.int .i64 m,.int .i64 c'] W (ga B b s k n xs W):=by
 subst RT
 exact D7 I hp ho hc kind m
theorem CW {W:World}{B b:Nat}{s:ByteArray}{k n m t:Nat}{v:Value}{xs:List Value} (I:eT W B b s k n v xs) (hp:bj s s.size k=(k,true)) (ho:cq s k=(t,k+m,0)) (t' m':Int) (ht:t'=(t:Int)) (hm:m'=(m:Int)) :
  Calls Tryz.prog 137 #[.pointer (some ⟨b,0,none⟩),.int .i64 t',.int .i64 m',.int .i64 0] W (ga B b s k n xs W):=by
 subst ht hm
 exact F7 I hp ho
theorem Bq {W:World}{B b:Nat}{s:ByteArray}{k n:Nat}{v:Value}{xs:List Value} (I:eT W B b s k n v xs) (hp:bj s s.size k=(k,true)) (ho:(cq s k).2.2=40) :
  Calls Tryz.prog 136 #[.pointer (some ⟨b,0,none⟩)] W (ga B b s k n xs W):=by
 have H:=al (CY I hp ho (by decide) 0 0 40 rfl)
 clear I hp ho
 go_enter Tryz.func136,Tryz.ntmps136
 go_wp2_with fail
 refine (ab H).mono ?_
 intro e w hq
 obtain ⟨c,rfl⟩:=hq.ret
 have Hq:=al hq
 clear hq
 go_wp2
 go_ret
 exact ab Hq
theorem Bp {W:World}{B b:Nat}{s:ByteArray}{k n:Nat}{v:Value}{xs:List Value} (I:eT W B b s k n v xs) (hp:bj s s.size k=(k,true)) (ho:cq s k=(4,k+1,0)) :
  Calls Tryz.prog 146 #[.pointer (some ⟨b,0,none⟩)] W (ga B b s k n xs W):=by
 have H:=al (CW I hp ho 4 1 rfl rfl)
 clear I hp ho
 go_enter Tryz.func146,Tryz.ntmps146
 go_wp2_with fail
 refine (ab H).mono ?_
 intro e w hq
 obtain ⟨c,rfl⟩:=hq.ret
 have Hq:=al hq
 clear hq
 go_wp2
 go_ret
 exact ab Hq
theorem y7 {W:World}{B b:Nat}{s:ByteArray}{k n:Nat}{v:Value}{xs:List Value} (I:eT W B b s k n v xs) (h:lB (aC s k)) :
  Calls Tryz.prog 138 #[.pointer (some ⟨b,0,none⟩)] W (ga B b s k n xs W):=by
 refine (Bo I.sc I.more I.size).mono ?_
 rintro e w ⟨rfl,rfl⟩
 have Zj:=I.more
 refine ⟨(BX.refl _ _ _).set _ _,.inl ⟨rfl,k+1,[],v,I.sc.at _,?_,by omega,by omega,I.room,?_⟩⟩
 ·show World.ownsRow _ B 107 3 v n (xs++[])
  rw[List.append_nil]
  obtain ⟨h1,⟨rfl,h0⟩|⟨g,c,cur,rfl,h2,h3,h4⟩⟩:=I.row
  ·exact ⟨h1,.inl ⟨rfl,h0⟩⟩
  ·refine ⟨h1,.inr ⟨g,c,cur,rfl,h2,(heap_setCell_other _ ⟨b,1,none⟩ g _ ?_).trans h3,h4⟩⟩
   have:=I.lo
   show ¬g=b
   omega
 ·rw[lj]
  exact CU n (BJ I.more h)
theorem xh {W:World}{B b:Nat}{s:ByteArray}{k n:Nat}{v:Value}{xs:List Value} (I:eT W B b s k n v xs) (hp:bj s s.size k=(k,true)) (ho:cq s k=(1,cL s k,0)) :
  Calls Tryz.prog 139 #[.pointer (some ⟨b,0,none⟩)] W (ga B b s k n xs W):=by
 have hr:=kA I.sc (Nat.le_of_lt I.more)
 have HI:=al I
 have hs:=I.size
 have hk:=I.more
 have Hp:=al hp
 have Ho:=al ho
 clear I hp ho
 go_enter Tryz.func139,Tryz.ntmps139
 go_wp2_with fail
 refine hr.mono ?_
 rintro e w1 ⟨rfl,n1,rfl⟩
 clear hr
 have Rk:=xr (W.drewN n1) (s.extract k s.size) (by rw[ByteArray.size_extract];omega)
 go_wp2_with fail
 refine Rk.mono ?_
 rintro e w2 ⟨m,rfl,bM,hn,h1,h2⟩
 obtain rfl:W.drewN n1=w2:=bM.symm
 clear bM Rk
 obtain ⟨eE,hle⟩:=uC (by omega) hn h1 h2
 have aW:Below W.heap.size W (W.drewN n1):=below_drewN (zE _ _) n1
 have ht:=CW ((ab HI).up aW) (ab Hp) (by rw[ab Ho,eE]) 1 (m:Int) rfl rfl
 have Ht:=al ht
 have yn:=al aW
 clear ht hn h1 h2 hle eE aW
 go_wp2_with fail
 refine (ab Ht).mono ?_
 intro e w hq
 obtain ⟨c,rfl⟩:=hq.ret
 have Hq:=al (hq.from (ab yn) (ab HI).hi)
 clear hq
 go_wp2
 go_ret
 exact ab Hq
theorem yZ {W:World}{B b:Nat}{s:ByteArray}{k n:Nat}{v:Value}{xs:List Value} (hE:jW W) (I:eT W B b s k n v xs) (hp:bj s s.size k=(k,true)) (ho:cq s k=if wv (aI (s.extract k (cL s k)))=none then (0,0,41) else (2,cL s k,0)) :
  Calls Tryz.prog 142 #[.pointer (some ⟨b,0,none⟩)] W (ga B b s k n xs W):=by
 have hr:=kA I.sc (Nat.le_of_lt I.more)
 have HI:=al I
 have HE:=al hE
 have hs:=I.size
 have hk:=I.more
 have Hp:=al hp
 have Ho:=al ho
 clear I hp ho hE
 go_enter Tryz.func142,Tryz.ntmps142
 go_wp2_with fail
 refine hr.mono ?_
 rintro e w1 ⟨rfl,n1,rfl⟩
 clear hr
 have Rk:=xr (W.drewN n1) (s.extract k s.size) (by rw[ByteArray.size_extract];omega)
 go_wp2_with fail
 refine Rk.mono ?_
 rintro e w2 ⟨m,rfl,bM,hn,h1,h2⟩
 obtain rfl:W.drewN n1=w2:=bM.symm
 clear bM Rk
 obtain ⟨eE,hle⟩:=uC (by omega) hn h1 h2
 have aW:Below W.heap.size W (W.drewN n1):=below_drewN (zE _ _) n1
 have oD:=kA ((ab HI).up aW).sc (Nat.le_of_lt hk)
 have kI:(s.extract k s.size).size=s.size-k:=by rw[ByteArray.size_extract];omega
 have yn:=al aW
 have HeE:=al eE
 have hex:=qF s k m hle
 have m0:(0:Int)≤(m:Int):=zH _
 have m1:(m:Int)≤((s.size-k:Nat):Int):=by omega
 clear hn h1 h2 aW eE
 go_wp2_with fail
 refine oD.mono ?_
 rintro e w3 ⟨rfl,n2,rfl⟩
 clear oD
 have bd:Below W.heap.size W (W.drewN (n1+n2)):=below_drewN (zE _ _) (n1+n2)
 have iA:=D2 ((ab HE).up bd) (s.extract k (k+m)) (by rw[ByteArray.size_extract];omega)
 have u9:=al bd
 clear bd
 go_wp2_with fail
 refine iA.mono ?_
 rintro e w4 ⟨gT,wn,wc,rfl,hu⟩
 have nS:Below W.heap.size W w4:=(ab u9).trans gT
 rcases hu with ⟨u,Ra,rfl,rfl⟩|⟨Ra,rfl,rfl⟩
 ·have ht:=CW ((ab HI).up nS) (ab Hp) (m:=m) (t:=2) (by rw[ab Ho,ab HeE,Ra];rfl) 2 (m:Int) rfl rfl
  have Ht:=al ht
  have OQ:=al nS
  clear ht gT nS Ra iA
  go_wp2_with fail
  refine (ab Ht).mono ?_
  intro e w hq
  obtain ⟨c,rfl⟩:=hq.ret
  have Hq:=al (hq.from (ab OQ) (ab HI).hi)
  clear hq
  go_wp2
  go_ret
  exact ab Hq
 ·have ht:=CY ((ab HI).up nS) (ab Hp) (c:=41) (by rw[ab Ho,ab HeE,Ra];rfl) (by decide) 2 (m:Int) 41 rfl
  have Ht:=al ht
  have OQ:=al nS
  clear ht gT nS Ra iA
  go_wp2_with fail
  refine (ab Ht).mono ?_
  intro e w hq
  obtain ⟨c,rfl⟩:=hq.ret
  have Hq:=al (hq.from (ab OQ) (ab HI).hi)
  clear hq
  go_wp2
  go_ret
  exact ab Hq
end Go.Proofs.YtichhjfjcinjgaaGreatDoor
namespace Go.Proofs
open Go.Shelf
def Tryz.vC:Go.Shelf.Ren:=⟨fun|143=>156|219=>187|217=>181|225=>196|224=>197|267=>198|266=>194|314=>210|n=>n,fun|9=>9|3=>3|4=>4|5=>5|46=>156|146=>187|51=>186|n=>n,fun|1=>1|n=>n⟩
theorem Tryz.EB:Go.Proofs.Lays.n143 Tryz.prog Tryz.vC:={
 mixed:=by kernel_rfl
 f143:=Tryz.func156.trans (congrArg some (by kernel_rfl))
 f217:=Tryz.func181.trans (congrArg some (by kernel_rfl))
 f219:=Tryz.func187.trans (congrArg some (by kernel_rfl))
 f224:=Tryz.func197.trans (congrArg some (by kernel_rfl))
 f225:=Tryz.func196.trans (congrArg some (by kernel_rfl))
 f266:=Tryz.func194.trans (congrArg some (by kernel_rfl))
 f267:=Tryz.func198.trans (congrArg some (by kernel_rfl))
 f314:=Tryz.func210.trans (congrArg some (by kernel_rfl))
 t3:=Tryz.underlying3
 a3:=Tryz.isAgg3
 z3:=Tryz.sizeOf3
 v3:=Tryz.zeroValue3
 t4:=Tryz.underlying4
 a4:=Tryz.isAgg4
 z4:=Tryz.sizeOf4
 v4:=Tryz.zeroValue4
 t5:=Tryz.underlying5
 a5:=Tryz.isAgg5
 z5:=Tryz.sizeOf5
 v5:=Tryz.zeroValue5
 t9:=Tryz.underlying9
 a9:=Tryz.isAgg9
 z9:=Tryz.sizeOf9
 v9:=Tryz.zeroValue9
 t46:=Tryz.underlying156
 a46:=Tryz.isAgg156
 z46:=Tryz.sizeOf156
 v46:=Tryz.zeroValue156
 t51:=Tryz.underlying186
 a51:=Tryz.isAgg186
 z51:=Tryz.sizeOf186
 v51:=Tryz.zeroValue186
 t146:=Tryz.underlying187
 a146:=Tryz.isAgg187
 z146:=Tryz.sizeOf187
 v146:=Tryz.zeroValue187
 g1:=by kernel_rfl }
end Go.Proofs

import Derived.Test.YtghioefalckgoaaGreatDoorM19
import Derived.Shelf.Strings.Search3
set_option maxHeartbeats 2000000
set_option maxRecDepth 100000
namespace Go.Proofs.YtghioefalckgoaaGreatDoor
open Go.RowKit Go.Lib
attribute [local go_sem ↓] Go.wp_at_zero Go.wp_at_succ
theorem Ka {x c d e:Nat} (h:C5 x=some (c,d,e)) (hx:128≤x):1≤c:=by
 unfold C5 at h
 rw[if_neg (by omega)] at h
 repeat' split at h
 all_goals first|(cases h;done)|(have:=zC h;simp at this;omega)
theorem mh (s:ByteArray) (n i:Nat) (hn:n≤s.size) (hi:i<n):aF (s.extract 0 n) i=aF s i:=by
 have:=cN s 0 n i hn (by omega)
 rw[this]
 congr 1
 omega
theorem nH {s:ByteArray}{n c d e:Nat} (hn:n≤s.size):cS (s.extract 0 n) 0 c d e↔(1+c≤n∧cS s 0 c d e):=by
 have hz:=extract_size s 0 n hn
 unfold cS
 rw[hz]
 constructor
 ·rintro ⟨h1,h2⟩
  refine ⟨by omega,by omega,fun j j1 j2=>?_⟩
  have:=h2 j j1 j2
  rw[Nat.zero_add,mh s n j hn (by omega)] at this
  rw[Nat.zero_add]
  exact this
 ·rintro ⟨h0,h1,h2⟩
  refine ⟨by omega,fun j j1 j2=>?_⟩
  have:=h2 j j1 j2
  rw[Nat.zero_add] at this
  rw[Nat.zero_add,mh s n j hn (by omega)]
  exact this
theorem Ia {s:ByteArray}{n:Nat} (hn:n≤s.size) (h2:2≤n) (h4:n≤4) (hx:128≤aF s 0) (xM:∀m,2≤m→m<n→¬gf s 0=m) :
  (gf s 0=n→dH (s.extract 0 n) 0=-1)∧(¬gf s 0=n→dH (s.extract 0 n) 0=0):=by
 have hz:=extract_size s 0 n hn
 have hb:=mh s n 0 hn (by omega)
 have key:gf (s.extract 0 n) 0=if gf s 0=n then n else 0:=by
  cases hf:C5 (aF s 0) with
  |none=>rw[gF (by rw[hb];exact hf),gF hf,if_neg (by omega)]
  |some t =>
   obtain ⟨c,d,e⟩:=t
   have hc:=Ka hf hx
   have Tw:=J' hf
   by_cases nn:cS s 0 c d e
   ·have hs:=lD hf nn
    by_cases XX:1+c=n
    ·rw[if_pos (by omega),lD (by rw[hb];exact hf) ((nH hn).2 ⟨by omega,nn⟩)];exact XX
    ·have h1:n<1+c:=by
      rcases Nat.lt_or_ge n (1+c) with q|q
      ·exact q
      ·exact absurd hs (xM (1+c) (by omega) (by omega))
     rw[if_neg (by omega),j8 (by rw[hb];exact hf) (fun q=>by have:=((nH hn).1 q).1;omega)]
   ·rw[if_neg (by rw[j8 hf nn];omega),j8 (by rw[hb];exact hf) (fun q=>nn ((nH hn).1 q).2)]
 constructor
 ·intro h
  rw[if_pos h] at key
  rw[Aa (by omega) (by omega),key,Du (by omega)]
 ·intro h
  rw[if_neg h] at key
  rw[Dv (by omega) key]
  rfl
theorem wY {W:World} (h:jS W) (s:ByteArray) (Ly:0<s.size) (hs:s.size≤140737488351232) (hx:128≤aF s 0) :
  Calls Tryz.prog 155 #[.string s] W fun e w=>e=.returned (.int .i64 (gf s 0:Int))∧Below W.heap.size W w:=by
 have bq:=zE W.heap.size W
 have Hx:=ak hx
 obtain ⟨ch,XZ⟩:∃ch,ch=gf s 0:=⟨_,rfl⟩
 have hle:=zk s 0 (by omega)
 rw[←XZ] at hle ⊢
 have Vi:¬ch=1:=by
  rw[XZ]
  cases hf:C5 (aF s 0) with
  |none=>rw[gF hf];omega
  |some t =>
   obtain ⟨c,d,e⟩:=t
   have hc:=Ka hf hx
   by_cases nn:cS s 0 c d e
   ·rw[lD hf nn];omega
   ·rw[j8 hf nn];omega
 have Hch:=ak XZ
 have Hle:=ak hle
 have pv:=ak Vi
 clear hx XZ hle Vi
 go_enter Tryz.func155,Tryz.ntmps155
 go_wp2
 go_loopg [3] 5 (fun gk v3 wr=>∃(n:Nat),v3=.int .i64 (n:Int)∧gk=7-n∧2≤n∧n≤5∧Hid (Below W.heap.size W wr)∧Hid (∀m,2≤m→m<n→¬ch=m))
 case atStart=>exact ⟨2,rfl,rfl,by omega,by omega,bq,fun m m1 m2=>by omega⟩
 case round =>
  obtain ⟨n,rfl,bd,n2,n5,HB,Yv⟩:=hrel
  have bH:=ak bd
  clear bd
  by_cases hn4:n≤4
  ·by_cases hns:n≤s.size
   ·have b1:decide ((n:Int)≤4)=true:=by simp;omega
    have b2:decide ((n:Int)≤(s.size:Int))=true:=by simp;omega
    have hz:=extract_size s 0 n hns
    have Ti:=Ia hns n2 hn4 (ab Hx) (fun m m1 m2=>by rw[←ab Hch];exact ab Yv m m1 m2)
    rw[←ab Hch] at Ti
    have Yq:=ak Ti
    clear Ti
    go_wp2_with fail
    refine (Ab (h.up (ab HB)) (s.extract 0 n) (by omega)).mono ?_
    rintro e w2 ⟨rfl,b9⟩
    have dF:Hid (Below W.heap.size W w2):=(ab HB).trans (b9.mono (ab HB).size)
    clear b9 HB hz
    by_cases hc:ch=n
    ·rw[(ab Yq).1 hc]
     have Hc:=ak hc
     clear hc Yq
     go_wp2
     go_ret
     exact ⟨by rw[ab Hc];rfl,ab dF⟩
    ·rw[(ab Yq).2 hc]
     have aaV:Hid (∀m,2≤m→m<n+1→¬ch=m):=fun m m1 m2 q=>by
      rcases Nat.lt_or_ge m n with h1|h1
      ·exact ab Yv m m1 h1 q
      ·exact hc (by omega)
     clear hc Yq
     go_wp2
     go_roundg (7-(n+1))
     case measure=>have:=ab bH;omega
     case rel=>exact ⟨n+1,by go_num,rfl,by omega,by omega,dF,aaV⟩
   ·have b1:decide ((n:Int)≤4)=true:=by simp;omega
    have b2:decide ((n:Int)≤(s.size:Int))=false:=by simp;omega
    have Hc:Hid (ch=0):=by
     have h1:=ab Hle
     have h2:=ab pv
     have h3:=ab Yv ch
     show ch=0
     omega
    go_wp2
    go_ret
    exact ⟨by rw[ab Hc];rfl,ab HB⟩
  ·have b1:decide ((n:Int)≤4)=false:=by simp;omega
   have Hc:Hid (ch=0):=by
    have h1:=ab Hle
    have h2:=ab pv
    have h3:=ab Yv ch
    show ch=0
    omega
   go_wp2
   go_ret
   exact ⟨by rw[ab Hc];rfl,ab HB⟩
theorem uW {s:ByteArray}{k c d e:Nat} (hk:k<s.size):cS (s.extract k s.size) 0 c d e↔cS s k c d e:=by
 have hz:=extract_size s k s.size (zD _)
 unfold cS
 rw[hz]
 constructor
 ·rintro ⟨h1,h2⟩
  refine ⟨by omega,fun j j1 j2=>?_⟩
  have:=h2 j j1 j2
  rw[Nat.zero_add,cN s k s.size j (zD _) (by omega)] at this
  exact this
 ·rintro ⟨h1,h2⟩
  refine ⟨by omega,fun j j1 j2=>?_⟩
  rw[Nat.zero_add,cN s k s.size j (zD _) (by omega)]
  exact h2 j j1 j2
theorem mi {s:ByteArray}{k:Nat} (hk:k<s.size):aF (s.extract k s.size) 0=aF s k:=by rw[cN s k s.size 0 (zD _) (by omega)];rfl
theorem F9 {s:ByteArray}{k:Nat} (hk:k<s.size):gf (s.extract k s.size) 0=gf s k:=by
 have hb:=mi hk
 cases hf:C5 (aF s k) with
 |none=>rw[gF (by rw[hb];exact hf),gF hf]
 |some t =>
  obtain ⟨c,d,e⟩:=t
  by_cases nn:cS s k c d e
  ·rw[lD hf nn,lD (by rw[hb];exact hf) ((uW hk).2 nn)]
  ·rw[j8 hf nn,j8 (by rw[hb];exact hf) (fun q=>nn ((uW hk).1 q))]
noncomputable def eH (s:ByteArray) (k:Nat):Nat:=if 128≤aF s k then gf s k else if aF s k<32∨aF s k=127∨aF s k=34∨aF s k=92 then 0 else 1
theorem xy {s:ByteArray}{k:Nat} (hk:k<s.size):k+eH s k≤s.size∧eH s k≤4:=by
 have:=zk s k (by omega)
 unfold eH
 split
 ·exact this
 ·split<;>omega
def sub (s:ByteArray) (k n:Nat):List Nat:=((aO s).drop k).take n
noncomputable def qs (s:ByteArray) (k:Nat):List Nat:=if eH s k=0 then wX (aF s k) else sub s k (eH s k)
noncomputable def qn (s:ByteArray) (k:Nat):Nat:=if eH s k=0 then 1 else eH s k
theorem Cq (s:ByteArray) (k:Nat):1≤qn s k:=by unfold qn;split<;>omega
theorem OI {s:ByteArray}{k:Nat} (hk:k<s.size):k+qn s k≤s.size:=by
 have:=xy hk
 unfold qn
 split<;>omega
theorem IP {s:ByteArray}{k:Nat}:(qs s k).length≤4*qn s k:=by
 unfold qs qn
 split
 ·have:=NH (aF s k);omega
 ·have:(sub s k (eH s k)).length≤eH s k:=by unfold sub;rw[List.length_take];omega
  omega
theorem Qm (s:ByteArray) (k:Nat):pz (qs s k):=by
 unfold qs
 split
 ·exact NI (fD s k)
 ·intro x hx
  unfold sub at hx
  exact uE s x (List.mem_of_mem_drop (List.mem_of_mem_take hx))
noncomputable def nF (s:ByteArray) (k:Nat):List Nat:=if _h:k<s.size then qs s k++nF s (k+qn s k) else []
termination_by s.size-k
decreasing_by have:=Cq s k;omega
theorem uN {s:ByteArray}{k:Nat} (h:¬k<s.size):nF s k=[]:=by rw[nF,dif_neg h]
theorem xx {s:ByteArray}{k:Nat} (h:k<s.size):nF s k=qs s k++nF s (k+qn s k):=by rw[nF,dif_pos h]
theorem Am (s:ByteArray) (k n:Nat):aO (s.extract k (k+n))=sub s k n:=by
 unfold aO sub aO
 rw[Lib.extract_data]
 simp[List.map_take,List.map_drop]
theorem Mr {s:ByteArray}{k n:Nat} (h:k+n≤s.size):(sub s k n).length=n:=by
 unfold sub
 rw[List.length_take,List.length_drop,bg]
 omega
theorem E4 {W:World} (h:jS W) (s:ByteArray) (Ly:0<s.size) (hs:s.size≤140737488351232) :
  Calls Tryz.prog 105 #[.string s] W fun e w=>e=.returned (.int .i64 (eH s 0:Int))∧Below W.heap.size W w:=by
 have bq:=zE W.heap.size W
 obtain ⟨x,hx⟩:∃x:Nat,s[0].toNat=x:=⟨_,rfl⟩
 have iH:aF s 0=x:=(fE s 0 Ly).trans hx
 have dr:x<256:=by rw[←iH];exact fD s 0
 have hp:eH s 0=if 128≤x then gf s 0 else if x<32∨x=127∨x=34∨x=92 then 0 else 1:=by unfold eH;rw[iH]
 rw[hp]
 have W2:=ak iH
 clear iH hp
 by_cases h1:128≤x
 ·rw[if_pos h1]
  have b1:=lB (c:=x) (k:=128) (by omega)
  go_enter Tryz.func105,Tryz.ntmps105
  go_wp2_with fail
  refine (wY h s Ly hs (by rw[ab W2];exact h1)).mono ?_
  rintro e w2 ⟨rfl,b9⟩
  have Hb:=ak b9
  clear b9
  go_wp2
  go_ret
  exact ⟨rfl,ab Hb⟩
 ·rw[if_neg h1]
  have b1:=nX (c:=x) (k:=128) (by omega)
  clear h1
  by_cases h2:x<32
  ·rw[if_pos (.inl h2)]
   have b2:=aaa (c:=x) (k:=32) (by omega)
   go_enter Tryz.func105,Tryz.ntmps105
   go_wp2
   go_ret
   exact ⟨rfl,bq⟩
  ·have b2:=aab (c:=x) (k:=32) (by omega)
   by_cases h3:x=127
   ·rw[if_pos (.inr (.inl h3))]
    have b3:=eqT (c:=x) (k:=127) (by omega)
    clear h2 h3
    go_enter Tryz.func105,Tryz.ntmps105
    go_wp2
    go_ret
    exact ⟨rfl,bq⟩
   ·have b3:=lQ (c:=x) (k:=127) (by omega)
    by_cases h4:x=34
    ·rw[if_pos (.inr (.inr (.inl h4)))]
     have b4:=eqT (c:=x) (k:=34) (by omega)
     clear h2 h3 h4
     go_enter Tryz.func105,Tryz.ntmps105
     go_wp2
     go_ret
     exact ⟨rfl,bq⟩
    ·have b4:=lQ (c:=x) (k:=34) (by omega)
     by_cases h5:x=92
     ·rw[if_pos (.inr (.inr (.inr h5)))]
      have b5:=eqT (c:=x) (k:=92) (by omega)
      clear h2 h3 h4 h5
      go_enter Tryz.func105,Tryz.ntmps105
      go_wp2
      go_ret
      exact ⟨rfl,bq⟩
     ·have b5:=lQ (c:=x) (k:=92) (by omega)
      rw[if_neg (by omega)]
      clear h2 h3 h4 h5
      go_enter Tryz.func105,Tryz.ntmps105
      go_wp2
      go_ret
      exact ⟨rfl,bq⟩
theorem AM {s:ByteArray}{k:Nat} (hk:k<s.size):eH (s.extract k s.size) 0=eH s k:=by
 unfold eH
 rw[mi hk,F9 hk]
theorem Gg (W:World) (x:Nat):Bytes W.heap.size (W.alloc (.cells #[.int .u8 (x:Int)] 5)) (.slice (some ⟨W.heap.size,0,none⟩) 1 1) [x] :=
 ⟨rfl,.inr ⟨W.heap.size,1,#[.int .u8 (x:Int)],rfl,zD _,aE _ _,zD _,by unfold maxLen;omega,rfl,rfl⟩⟩
theorem Bytes.up {base:Nat}{W w:World}{v:Value}{l:List Nat} (h:Bytes base W v l) (hb:Below W.heap.size W w):Bytes base w v l:=by
 unfold Bytes at h ⊢
 obtain ⟨h1,⟨rfl,h0⟩|⟨g,c,cur,rfl,h2,h3,h4⟩⟩:=h
 ·exact ⟨h1,.inl ⟨rfl,h0⟩⟩
 ·exact ⟨h1,.inr ⟨g,c,cur,rfl,h2,(hb.block g (zA h3).1).trans h3,h4⟩⟩
theorem KG:pz [34]:=fun x hx=>by rw[List.mem_singleton.1 hx];decide
theorem Bytes.tD {base:Nat}{W:World}{v:Value}{l:List Nat} (h:Bytes base W v l):∀b,v.ownBlock=some b→base≤b:=fun b hb=>by
 unfold Bytes at h
 exact (h.lt b hb).1
theorem Bytes.shape {base:Nat}{W:World}{v:Value}{l:List Nat} (h:Bytes base W v l):∃a n c,v=.slice a n c:=by
 obtain ⟨a,c,rfl,_⟩:=h.has
 exact ⟨_,_,_,rfl⟩
theorem xQ {s:ByteArray}{k:Nat}:aO (s.extract k s.size)=(aO s).drop k:=by
 rw[aX,List.take_of_length_le]
 rw[List.length_drop,bg]
 omega
theorem yv {s:ByteArray}{k:Nat} (hk:k<s.size):dv (s.extract k s.size) 0=dv s k:=by
 unfold dv
 rw[mi hk,xQ,List.drop_zero]
theorem xW {c:Nat}:cls c=4↔c=39∨c=34:=by
 unfold cls
 constructor
 ·intro h
  repeat' split at h
  all_goals first|assumption|omega
 ·intro h
  rw[if_neg (by omega),if_neg (by unfold isLet;omega),if_neg (by unfold dq;omega),if_pos h]
def UQ (W:World) (o:Option (List Nat×Nat)) (e:Ending) (w:World):Prop:=Below W.heap.size W w∧((o=none∧e=.returned (.tuple #[.slice none 0 0,.int .i64 0]))∨∃(l:List Nat) (n:Nat) (v:Value),o=some (l,n)∧e=.returned (.tuple #[v,.int .i64 (n:Int)])∧Bytes W.heap.size w v l)
theorem Dw {W w:World}{o:Option (List Nat×Nat)} (hb:Below W.heap.size W w) (h:o=none):UQ W o (.returned (.tuple #[.slice none 0 0,.int .i64 0])) w:=⟨hb,.inl ⟨h,rfl⟩⟩
theorem PX {W w:World}{o:Option (List Nat×Nat)}{l:List Nat}{n:Nat}{v:Value} (hb:Below W.heap.size W w) (h:o=some (l,n)) (hv:Bytes W.heap.size w v l):UQ W o (.returned (.tuple #[v,.int .i64 (n:Int)])) w:=⟨hb,.inr ⟨l,n,v,h,rfl,hv⟩⟩
theorem EK {s:ByteArray} (h0:¬s.size=0) (h:¬(aF s 0=39∨aF s 0=34)):wI s=none:=by unfold wI;rw[if_neg h0,if_neg h]
theorem xh {s:ByteArray} (h0:¬s.size=0) (h:aF s 0=39∨aF s 0=34):wI s=gy s (aF s 0) 1:=by unfold wI;rw[if_neg h0,if_pos h]
theorem Ac {W:World} (hE:ji W) (s:ByteArray) (hs:s.size≤65536):Calls Tryz.prog 171 #[.string s] W (UQ W (wI s)):=by
 obtain ⟨i0,hi,fX,gp,fJ⟩:=info_parts Tryz.infoByte
 have bq:=zE W.heap.size W
 by_cases h0:s.size=0
 ·have Hn:Hid (wI s=none):=by show _=_;unfold wI;rw[if_pos h0]
  obtain rfl:=AY h0
  go_enter Tryz.func171,Tryz.ntmps171
  go_wp2
  go_ret2
  exact Dw bq (ab Hn)
 ·have e0:=vh h0
  obtain ⟨q,hq,yN,gq⟩:=iI s 0 (by omega)
  have hbq:aF s 0=q:=(fE s 0 (by omega)).trans gq
  have Hbq:=ak hbq
  clear hq hbq
  by_cases Nb:q=39∨q=34
  ·have hL:wI s=gy s q 1:=by rw[xh h0 (by rw[ab Hbq];exact Nb),ab Hbq]
   rw[hL]
   have hc:cls q=4:=xW.2 Nb
   have s1:(1:Int)≤(s.size:Int):=by omega
   clear hL Nb
   go_enter Tryz.func171,Tryz.ntmps171
   go_wp2_with fail
   refine (gV W q yN).mono ?_
   rintro e w' ⟨rfl,he⟩
   obtain rfl:W=w':=he.symm
   rw[hc]
   have WJ:Hid (Bytes W.heap.size W (.slice none 0 0) []):=Gh _ _
   go_wp2
   go_loopg [4,5,6,7] (s.size-1) (fun gk v4 v5 _ _ wr=>∃(k:Nat) (pre:List Nat) (va:Option Addr) (vn vc:Nat),v4=.slice va vn vc∧v5=.int .i64 (k:Int)∧gk=s.size-k∧1≤k∧k≤s.size∧pre.length≤k∧Hid (Bytes W.heap.size wr (.slice va vn vc) pre)∧Hid (gy s q 1=(gy s q k).map fun r=>(pre++r.1,r.2))∧Hid (Below W.heap.size W wr))
   case atStart=>exact ⟨1,[],_,_,_,rfl,rfl,rfl,zD _,by omega,by simp,WJ,by show _=_;simp,bq⟩
   case round =>
    obtain ⟨k,pre,va,vn,vc,rfl,rfl,bd,rb,hk,hpl,HY,Hu,HB⟩:=hrel
    have bH:=ak bd
    clear bd WJ hc
    by_cases aU:k<s.size
    ·obtain ⟨x,hx⟩:∃x:Nat,s[k].toNat=x:=⟨_,rfl⟩
     have iH:aF s k=x:=(fE s k aU).trans hx
     have dr:x<256:=by rw[←iH];exact fD s k
     have k0:(0:Int)≤(k:Int):=zH _
     have k1:(k:Int)<(s.size:Int):=by omega
     have W2:=ak iH
     clear iH
     by_cases XK:x=q
     ·have Hr:Hid (gy s q 1=some (pre,k+1)):=by
       show _=_
       rw[ab Hu,od aU ((ab W2).trans XK)]
       simp
      have fq:((x:Int)==(q:Int))=true:=by simp;omega
      clear Hu XK
      go_wp2
      go_quiet (fail)
      go_wp2
      go_ret2
      exact PX (n:=k+1) (below_drewN (ab HB) _) (ab Hr) (ab HY)
     ·have fq:((x:Int)==(q:Int))=false:=by simp;omega
      have hz:=extract_size s k s.size (zD _)
      have hpd:=yv aU
      have SC:=ak hpd
      have Hxq:=ak XK
      clear hpd XK
      go_wp2
      go_quiet (fail)
      go_wp2_with fail
      refine (E5 (W:=wr.drewN nq) (hE.up (below_drewN (ab HB) _)) (s.extract k s.size) (by omega) (by omega)).mono ?_
      rintro e w2 ⟨b9,⟨ho,rfl⟩|⟨b,n,ho,rfl⟩⟩
      ·rw[ab SC] at ho
       have Hr:Hid (gy s q 1=none):=by
        show _=_
        rw[ab Hu,yf aU (by rw[ab W2];exact ab Hxq) ho]
        rfl
       have dF:Hid (Below W.heap.size W w2):=(below_drewN (ab HB) _).trans (b9.mono (ab HB).size)
       clear ho b9 hz Hu
       go_wp2
       go_ret2
       exact Dw (ab dF) (ab Hr)
      ·rw[ab SC] at ho
       obtain ⟨p1,p2,p3⟩:=jW ho aU
       have Hr:Hid (gy s q 1=(gy s q (k+n)).map fun r=>((pre++[b])++r.1,r.2)):=by
        show _=_
        rw[ab Hu,tj aU (by rw[ab W2];exact ab Hxq) ho,Option.map_map]
        congr 1
        funext r
        simp
       have dF:Hid (Below W.heap.size W w2):=(below_drewN (ab HB) _).trans (b9.mono (ab HB).size)
       have SL:Hid (Bytes W.heap.size w2 (.slice va vn vc) pre):=((ab HY).up (zE _ _)).up ((below_drewN (zE _ wr) _).trans b9)
       have oV:W.heap.size≤w2.heap.size:=(ab dF).size
       have n0:((n:Int)==0)=false:=by simp;omega
       have O1:Hid (pre.length+1≤maxLen):=by show _≤_;unfold maxLen;omega
       have O2:Hid ((pre.length+1)*1≤140737488355328):=by show _≤_;omega
       clear ho b9 hz Hu HY HB
       go_wp2_with (at_builtin;refine wpList_append_own_at _ rfl _ _ 137 rfl W.heap.size 5 i0 (.int .u8 0) 1 1 Tryz.underlying137 hi fX gp fJ rfl (by decide) _ _ _ rfl ((ab SL).alloc _) ⟨w2.heap.size,0,none⟩ 1 1 [.int .u8 (b:Int)] rfl rfl (kU _ _ _) (by simp[Value.oneCell']) (ab O1) (ab O2) (by rw[zJ];omega) ?_;intro v4 w4 dI cB _ gT;have HP:Hid (Oh W.heap.size w2 (.slice va vn vc) pre [b] (.returned v4) w4):=lY (ys:=[b]) dI rfl rfl cB gT;clear dI cB gT)
       obtain ⟨v5,OW,jD,vy⟩:=ab HP
       obtain rfl:v4=v5:=by simpa using OW
       obtain ⟨Un,XC,Um,rfl⟩:=jD.shape
       have lG:Hid (Below W.heap.size W w4):=(ab dF).trans (vy.below oV (ab SL).tD)
       have W3:=ak jD
       clear jD vy OW HP
       go_roundg (s.size-(k+n))
       case measure=>have:=ab bH;omega
       case rel=>exact ⟨k+n,pre++[b],_,_,_,rfl,by go_num,rfl,by omega,by omega,by simp only[zK,List.length_singleton];omega,W3,Hr,lG⟩
    ·have Hr:Hid (gy s q 1=none):=by
      show _=_
      rw[ab Hu,nx aU]
      rfl
     obtain rfl:k=s.size:=by omega
     clear Hu
     go_wp2
     go_ret2
     exact Dw (ab HB) (ab Hr)
  ·have Hn:Hid (wI s=none):=EK h0 (by rw[ab Hbq];exact Nb)
   have hc:((cls q:Int) != 4)=true:=by
    have:=mt xW.1 Nb
    simp;omega
   clear Nb
   go_enter Tryz.func171,Tryz.ntmps171
   go_wp2_with fail
   refine (gV W q yN).mono ?_
   rintro e w' ⟨rfl,he⟩
   obtain rfl:W=w':=he.symm
   go_wp2
   go_ret2
   exact Dw bq (ab Hn)
end Go.Proofs.YtghioefalckgoaaGreatDoor
namespace Go.Proofs.YtghioefalckgoaaGreatDoor
open Go.RowKit
attribute [local go_sem ↓] Go.wp_at_zero Go.wp_at_succ
theorem F8 (c:Nat):(cls c=1∧nj c)∨(¬nj c∧((cls c=2∧isLet c)∨(¬isLet c∧((cls c=3∧dq c)∨(¬dq c∧((cls c=4∧(c=39∨c=34))∨(¬(c=39∨c=34)∧((cls c=5∧l7 c)∨(¬l7 c∧((cls c=6∧c=47)∨(cls c=0∧¬c=47)))))))))))  := by
 unfold cls nj
 by_cases h1:(9≤c∧c≤13)∨c=32
 ·exact .inl ⟨by rw[if_pos h1],h1⟩
 ·refine .inr ⟨h1,?_⟩
  rw[if_neg h1]
  by_cases h2:isLet c
  ·exact .inl ⟨by rw[if_pos h2],h2⟩
  ·refine .inr ⟨h2,?_⟩
   rw[if_neg h2]
   by_cases h3:dq c
   ·exact .inl ⟨by rw[if_pos h3],h3⟩
   ·refine .inr ⟨h3,?_⟩
    rw[if_neg h3]
    by_cases h4:c=39∨c=34
    ·exact .inl ⟨by rw[if_pos h4],h4⟩
    ·refine .inr ⟨h4,?_⟩
     rw[if_neg h4]
     by_cases h5:l7 c
     ·exact .inl ⟨by rw[if_pos h5],h5⟩
     ·refine .inr ⟨h5,?_⟩
      rw[if_neg h5]
      by_cases h6:c=47
      ·exact .inl ⟨by rw[if_pos h6],h6⟩
      ·exact .inr ⟨by rw[if_neg h6],h6⟩
theorem DA {W:World}{B b:Nat}{s:ByteArray}{k n c:Nat}{v:Value}{xs:List Value} (I:ej W B b s k n v xs) (hp:bo s s.size k=(k,true)) (ho:(fG s k).2.2=c) (hc:c≠0) (kind m c':Int) (VH:c'=(c:Int)) :
  Calls Tryz.prog 163 #[.pointer (some ⟨b,0,none⟩),.int .i64 kind,.int .i64 m,.int .i64 c'] W (fF B b s k n xs W):=by
 subst VH
 exact EP I hp ho hc kind m
theorem Dz {W:World}{B b:Nat}{s:ByteArray}{k n m t:Nat}{v:Value}{xs:List Value} (I:ej W B b s k n v xs) (hp:bo s s.size k=(k,true)) (ho:fG s k=(t,k+m,0)) (t' m':Int) (ht:t'=(t:Int)) (hm:m'=(m:Int)) :
  Calls Tryz.prog 163 #[.pointer (some ⟨b,0,none⟩),.int .i64 t',.int .i64 m',.int .i64 0] W (fF B b s k n xs W):=by
 subst ht hm
 exact Io I hp ho
theorem Ce {W:World}{B b:Nat}{s:ByteArray}{k n:Nat}{v:Value}{xs:List Value} (I:ej W B b s k n v xs) (hp:bo s s.size k=(k,true)) (ho:(fG s k).2.2=40) :
  Calls Tryz.prog 162 #[.pointer (some ⟨b,0,none⟩)] W (fF B b s k n xs W):=by
 have H:=ak (DA I hp ho (by decide) 0 0 40 rfl)
 clear I hp ho
 go_enter Tryz.func162,Tryz.ntmps162
 go_wp2_with fail
 refine (ab H).mono ?_
 intro e w hq
 obtain ⟨c,rfl⟩:=hq.ret
 have Hq:=ak hq
 clear hq
 go_wp2
 go_ret
 exact ab Hq
theorem Cd {W:World}{B b:Nat}{s:ByteArray}{k n:Nat}{v:Value}{xs:List Value} (I:ej W B b s k n v xs) (hp:bo s s.size k=(k,true)) (ho:fG s k=(4,k+1,0)) :
  Calls Tryz.prog 172 #[.pointer (some ⟨b,0,none⟩)] W (fF B b s k n xs W):=by
 have H:=ak (Dz I hp ho 4 1 rfl rfl)
 clear I hp ho
 go_enter Tryz.func172,Tryz.ntmps172
 go_wp2_with fail
 refine (ab H).mono ?_
 intro e w hq
 obtain ⟨c,rfl⟩:=hq.ret
 have Hq:=ak hq
 clear hq
 go_wp2
 go_ret
 exact ab Hq
theorem Ar {W:World}{B b:Nat}{s:ByteArray}{k n:Nat}{v:Value}{xs:List Value} (I:ej W B b s k n v xs) (h:nj (aF s k)) :
  Calls Tryz.prog 164 #[.pointer (some ⟨b,0,none⟩)] W (fF B b s k n xs W):=by
 refine (Cc I.sc I.more I.size).mono ?_
 rintro e w ⟨rfl,rfl⟩
 have aa6:=I.more
 refine ⟨(BX.refl _ _ _).set _ _,.inl ⟨rfl,k+1,[],v,I.sc.at _,?_,by omega,by omega,I.room,?_⟩⟩
 ·show World.ownsRow _ B 154 3 v n (xs++[])
  rw[List.append_nil]
  obtain ⟨h1,⟨rfl,h0⟩|⟨g,c,cur,rfl,h2,h3,h4⟩⟩:=I.row
  ·exact ⟨h1,.inl ⟨rfl,h0⟩⟩
  ·refine ⟨h1,.inr ⟨g,c,cur,rfl,h2,(heap_setCell_other _ ⟨b,1,none⟩ g _ ?_).trans h3,h4⟩⟩
   have:=I.lo
   show ¬g=b
   omega
 ·rw[nP]
  exact Dx n (Ct I.more h)
theorem yl {W:World}{B b:Nat}{s:ByteArray}{k n:Nat}{v:Value}{xs:List Value} (I:ej W B b s k n v xs) (hp:bo s s.size k=(k,true)) (ho:fG s k=(1,eM s k,0)) :
  Calls Tryz.prog 165 #[.pointer (some ⟨b,0,none⟩)] W (fF B b s k n xs W):=by
 have hr:=kK I.sc (Nat.le_of_lt I.more)
 have HI:=ak I
 have hs:=I.size
 have hk:=I.more
 have Hp:=ak hp
 have Ho:=ak ho
 clear I hp ho
 go_enter Tryz.func165,Tryz.ntmps165
 go_wp2_with fail
 refine hr.mono ?_
 rintro e w1 ⟨rfl,n1,rfl⟩
 clear hr
 have U':=yq (W.drewN n1) (s.extract k s.size) (by rw[ByteArray.size_extract];omega)
 go_wp2_with fail
 refine U'.mono ?_
 rintro e w2 ⟨m,rfl,br,hn,h1,h2⟩
 obtain rfl:W.drewN n1=w2:=br.symm
 clear br U'
 obtain ⟨eE,hle⟩:=vH (by omega) hn h1 h2
 have aY:Below W.heap.size W (W.drewN n1):=below_drewN (zE _ _) n1
 have ht:=Dz ((ab HI).up aY) (ab Hp) (by rw[ab Ho,eE]) 1 (m:Int) rfl rfl
 have Ht:=ak ht
 have xb:=ak aY
 clear ht hn h1 h2 hle eE aY
 go_wp2_with fail
 refine (ab Ht).mono ?_
 intro e w hq
 obtain ⟨c,rfl⟩:=hq.ret
 have Hq:=ak (hq.from (ab xb) (ab HI).hi)
 clear hq
 go_wp2
 go_ret
 exact ab Hq
theorem Aq {W:World}{B b:Nat}{s:ByteArray}{k n:Nat}{v:Value}{xs:List Value} (hE:ji W) (I:ej W B b s k n v xs) (hp:bo s s.size k=(k,true)) (ho:fG s k=if wv (aO (s.extract k (eM s k)))=none then (0,0,41) else (2,eM s k,0)) :
  Calls Tryz.prog 168 #[.pointer (some ⟨b,0,none⟩)] W (fF B b s k n xs W):=by
 have hr:=kK I.sc (Nat.le_of_lt I.more)
 have HI:=ak I
 have HE:=ak hE
 have hs:=I.size
 have hk:=I.more
 have Hp:=ak hp
 have Ho:=ak ho
 clear I hp ho hE
 go_enter Tryz.func168,Tryz.ntmps168
 go_wp2_with fail
 refine hr.mono ?_
 rintro e w1 ⟨rfl,n1,rfl⟩
 clear hr
 have U':=yq (W.drewN n1) (s.extract k s.size) (by rw[ByteArray.size_extract];omega)
 go_wp2_with fail
 refine U'.mono ?_
 rintro e w2 ⟨m,rfl,br,hn,h1,h2⟩
 obtain rfl:W.drewN n1=w2:=br.symm
 clear br U'
 obtain ⟨eE,hle⟩:=vH (by omega) hn h1 h2
 have aY:Below W.heap.size W (W.drewN n1):=below_drewN (zE _ _) n1
 have mH:=kK ((ab HI).up aY).sc (Nat.le_of_lt hk)
 have iL:(s.extract k s.size).size=s.size-k:=by rw[ByteArray.size_extract];omega
 have xb:=ak aY
 have HeE:=ak eE
 have hex:=qL s k m hle
 have m0:(0:Int)≤(m:Int):=zH _
 have m1:(m:Int)≤((s.size-k:Nat):Int):=by omega
 clear hn h1 h2 aY eE
 go_wp2_with fail
 refine mH.mono ?_
 rintro e w3 ⟨rfl,n2,rfl⟩
 clear mH
 have b9:Below W.heap.size W (W.drewN (n1+n2)):=below_drewN (zE _ _) (n1+n2)
 have lM:=EH ((ab HE).up b9) (s.extract k (k+m)) (by rw[ByteArray.size_extract];omega)
 have zX:=ak b9
 clear b9
 go_wp2_with fail
 refine lM.mono ?_
 rintro e w4 ⟨lb,wn,wc,rfl,hu⟩
 have lv:Below W.heap.size W w4:=(ab zX).trans lb
 rcases hu with ⟨u,D4,rfl,rfl⟩|⟨D4,rfl,rfl⟩
 ·have ht:=Dz ((ab HI).up lv) (ab Hp) (m:=m) (t:=2) (by rw[ab Ho,ab HeE,D4];rfl) 2 (m:Int) rfl rfl
  have Ht:=ak ht
  have SK:=ak lv
  clear ht lb lv D4 lM
  go_wp2_with fail
  refine (ab Ht).mono ?_
  intro e w hq
  obtain ⟨c,rfl⟩:=hq.ret
  have Hq:=ak (hq.from (ab SK) (ab HI).hi)
  clear hq
  go_wp2
  go_ret
  exact ab Hq
 ·have ht:=DA ((ab HI).up lv) (ab Hp) (c:=41) (by rw[ab Ho,ab HeE,D4];rfl) (by decide) 2 (m:Int) 41 rfl
  have Ht:=ak ht
  have SK:=ak lv
  clear ht lb lv D4 lM
  go_wp2_with fail
  refine (ab Ht).mono ?_
  intro e w hq
  obtain ⟨c,rfl⟩:=hq.ret
  have Hq:=ak (hq.from (ab SK) (ab HI).hi)
  clear hq
  go_wp2
  go_ret
  exact ab Hq
end Go.Proofs.YtghioefalckgoaaGreatDoor
namespace Go.Proofs
open Go.Shelf
def Tryz.wR:Go.Shelf.Ren:=⟨fun|143=>210|219=>268|217=>234|225=>290|224=>291|267=>292|266=>275|314=>317|n=>n,fun|9=>9|3=>3|4=>4|5=>5|46=>181|146=>234|51=>233|n=>n,fun|1=>1|n=>n⟩
theorem Tryz.Fh:Go.Proofs.Lays.n143 Tryz.prog Tryz.wR:={
 mixed:=by kernel_rfl
 f143:=Tryz.func210.trans (congrArg some (by kernel_rfl))
 f217:=Tryz.func234.trans (congrArg some (by kernel_rfl))
 f219:=Tryz.func268.trans (congrArg some (by kernel_rfl))
 f224:=Tryz.func291.trans (congrArg some (by kernel_rfl))
 f225:=Tryz.func290.trans (congrArg some (by kernel_rfl))
 f266:=Tryz.func275.trans (congrArg some (by kernel_rfl))
 f267:=Tryz.func292.trans (congrArg some (by kernel_rfl))
 f314:=Tryz.func317.trans (congrArg some (by kernel_rfl))
 t3:=Tryz.underlying3
 a3:=Tryz.isAgg3
 z3:=Tryz.sizeOf3
 v3:=Tryz.zeroValue3
 t4:=Tryz.underlying4
 a4:=Tryz.isAgg4
 z4:=Tryz.sizeOf4
 v4:=Tryz.zeroValue4
 t5:=Tryz.underlying5
 a5:=Tryz.isAgg5
 z5:=Tryz.sizeOf5
 v5:=Tryz.zeroValue5
 t9:=Tryz.underlying9
 a9:=Tryz.isAgg9
 z9:=Tryz.sizeOf9
 v9:=Tryz.zeroValue9
 t46:=Tryz.underlying181
 a46:=Tryz.isAgg181
 z46:=Tryz.sizeOf181
 v46:=Tryz.zeroValue181
 t51:=Tryz.underlying233
 a51:=Tryz.isAgg233
 z51:=Tryz.sizeOf233
 v51:=Tryz.zeroValue233
 t146:=Tryz.underlying234
 a146:=Tryz.isAgg234
 z146:=Tryz.sizeOf234
 v146:=Tryz.zeroValue234
 g1:=by kernel_rfl }
end Go.Proofs

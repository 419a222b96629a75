import Derived.Test.YtjophoclfccmcaaGreatDoorM05
import Derived.Lib.AppendStr
import Derived.Shelf.Strings.Search3
import Derived.Deep.MidRow
import Derived.Laws.Rows
set_option maxHeartbeats 2000000
set_option maxRecDepth 100000
namespace Go.Proofs.YtjophoclfccmcaaGreatDoor
open Go.RowKit Go.Lib
attribute [local go_sem ↓] Go.wp_at_zero Go.wp_at_succ
theorem df (w:World) (l:List Value) (t:TypeId):∀j u,l[j]?=some u→(w.alloc (.cells l.toArray t)).cell? ((⟨w.heap.size,0,none⟩:Addr).add j)=some u:=by
 intro j u h
 rw[Go.WideShapes.add_plain,cell_of_row _ _ _ _ _ _ (aH w _)]
 simpa using h
def SQ (base:Nat) (W:World) (v:Value) (xs ys:List Nat) (e:Ending) (W':World):Prop:=∃v',e=.returned v'∧Bytes base W' v' (xs++ys)∧Ext W v W' v'
theorem yd {W w:World}{base n:Nat}{v v':Value}{xs ys:List Nat}{cs:List Value}{ob:Obj} (oq:w.ownsRow base 5 1 v' n (nb xs++cs)) (hn:n=xs.length+ys.length) (eP:cs=nb ys) (hg:(W.alloc ob).grownBy w v.ownBlock) (fg:v'.ownBlock=v.ownBlock∨v'.ownBlock=some (W.alloc ob).heap.size) :
  SQ base W v xs ys (.returned v') w:=by
 subst hn eP
 refine ⟨v',rfl,?_,Ext.grown hg fg⟩
 unfold Bytes
 rw[Ka,zK]
 exact oq
theorem Ew {s:ByteArray}{k:Nat} (hk:k<s.size):aE (s.extract k s.size) 0=aE s k:=by rw[i' s k s.size 0 (zD _) (by omega)];rfl
noncomputable def MI (s:ByteArray) (k:Nat):Nat:=if 128≤aE s k then iI s k else if aE s k<32∨aE s k=127∨aE s k=34∨aE s k=92 then 0 else 1
def sub (s:ByteArray) (k n:Nat):List Nat:=((aI s).drop k).take n
noncomputable def qn (s:ByteArray) (k:Nat):Nat:=if MI s k=0 then 1 else MI s k
theorem Bytes.up {base:Nat}{W w:World}{v:Value}{l:List Nat} (h:Bytes base W v l) (hb:Below W.heap.size W w):Bytes base w v l:=by
 unfold Bytes at h ⊢
 obtain ⟨h1,⟨rfl,h0⟩|⟨g,c,cur,rfl,h2,h3,h4⟩⟩:=h
 ·exact ⟨h1,.inl ⟨rfl,h0⟩⟩
 ·exact ⟨h1,.inr ⟨g,c,cur,rfl,h2,(hb.block g (zA h3).1).trans h3,h4⟩⟩
theorem Bytes.Cu {base:Nat}{W:World}{v:Value}{l:List Nat} (h:Bytes base W v l):∀b,v.ownBlock=some b→base≤b:=fun b hb=>by
 unfold Bytes at h
 exact (h.lt b hb).1
theorem Bytes.shape {base:Nat}{W:World}{v:Value}{l:List Nat} (h:Bytes base W v l):∃a n c,v=.slice a n c:=by
 obtain ⟨a,c,rfl,_⟩:=h.has
 exact ⟨_,_,_,rfl⟩
theorem A0 {s:ByteArray}{k:Nat}:aI (s.extract k s.size)=(aI s).drop k:=by
 rw[bA,List.take_of_length_le]
 rw[List.length_drop,bG]
 omega
theorem Bv {s:ByteArray}{k:Nat} (hk:k<s.size):dG (s.extract k s.size) 0=dG s k:=by
 unfold dG
 rw[Ew hk,A0,List.drop_zero]
theorem A6 {c:Nat}:cls c=4↔c=39∨c=34:=by
 unfold cls
 constructor
 ·intro h
  repeat' split at h
  all_goals first|assumption|omega
 ·intro h
  rw[if_neg (by omega),if_neg (by unfold isLet;omega),if_neg (by unfold eD;omega),if_pos h]
def UQ (W:World) (o:Option (List Nat×Nat)) (e:Ending) (w:World):Prop:=Below W.heap.size W w∧((o=none∧e=.returned (.tuple #[.slice none 0 0,.int .i64 0]))∨∃(l:List Nat) (n:Nat) (v:Value),o=some (l,n)∧e=.returned (.tuple #[v,.int .i64 (n:Int)])∧Bytes W.heap.size w v l)
theorem tA {W w:World}{o:Option (List Nat×Nat)} (hb:Below W.heap.size W w) (h:o=none):UQ W o (.returned (.tuple #[.slice none 0 0,.int .i64 0])) w:=⟨hb,.inl ⟨h,rfl⟩⟩
theorem L1 {W w:World}{o:Option (List Nat×Nat)}{l:List Nat}{n:Nat}{v:Value} (hb:Below W.heap.size W w) (h:o=some (l,n)) (hv:Bytes W.heap.size w v l):UQ W o (.returned (.tuple #[v,.int .i64 (n:Int)])) w:=⟨hb,.inr ⟨l,n,v,h,rfl,hv⟩⟩
theorem Ax {s:ByteArray} (h0:¬s.size=0) (h:¬(aE s 0=39∨aE s 0=34)):mh s=none:=by unfold mh;rw[if_neg h0,if_neg h]
theorem su {s:ByteArray} (h0:¬s.size=0) (h:aE s 0=39∨aE s 0=34):mh s=fA s (aE s 0) 1:=by unfold mh;rw[if_neg h0,if_pos h]
theorem tB {W:World} (hE:gU W) (s:ByteArray) (hs:s.size≤65536):Calls Tryz.prog 86 #[.string s] W (UQ W (mh s)):=by
 obtain ⟨i0,hi,zy,zx,jK⟩:=info_parts Tryz.infoByte
 have eK:=zE W.heap.size W
 by_cases h0:s.size=0
 ·have Hn:Hid (mh s=none):=by show _=_;unfold mh;rw[if_pos h0]
  obtain rfl:=rp h0
  go_enter Tryz.func86,Tryz.ntmps86
  go_wp2
  go_ret2
  exact tA eK (aa Hn)
 ·have e0:=rq h0
  obtain ⟨q,hq,lG,gq⟩:=cS s 0 (by omega)
  have Qs:aE s 0=q:=(fb s 0 (by omega)).trans gq
  have Hbq:=ab Qs
  clear hq Qs
  by_cases DT:q=39∨q=34
  ·have hL:mh s=fA s q 1:=by rw[su h0 (by rw[aa Hbq];exact DT),aa Hbq]
   rw[hL]
   have hc:cls q=4:=A6.2 DT
   have s1:(1:Int)≤(s.size:Int):=by omega
   clear hL DT
   go_enter Tryz.func86,Tryz.ntmps86
   go_wp2_with fail
   refine (jS W q lG).mono ?_
   rintro e w' ⟨rfl,he⟩
   obtain rfl:W=w':=he.symm
   rw[hc]
   have Hy0:Hid (Bytes W.heap.size W (.slice none 0 0) []):=Ba _ _
   go_wp2
   go_loopg [4,5,6,7] (s.size-1) (fun gk v4 v5 _ _ wr=>∃(k:Nat) (pre:List Nat) (va:Option Addr) (vn vc:Nat),v4=.slice va vn vc∧v5=.int .i64 (k:Int)∧gk=s.size-k∧1≤k∧k≤s.size∧pre.length≤k∧Hid (Bytes W.heap.size wr (.slice va vn vc) pre)∧Hid (fA s q 1=(fA s q k).map fun r=>(pre++r.1,r.2))∧Hid (Below W.heap.size W wr))
   case atStart=>exact ⟨1,[],_,_,_,rfl,rfl,rfl,zD _,by omega,by simp,Hy0,by show _=_;simp,eK⟩
   case round =>
    obtain ⟨k,pre,va,vn,vc,rfl,rfl,eG,IE,hk,hpl,HY,Hu,HB⟩:=hrel
    have jw:=ab eG
    clear eG Hy0 hc
    by_cases dB:k<s.size
    ·obtain ⟨x,hx⟩:∃x:Nat,s[k].toNat=x:=⟨_,rfl⟩
     have oU:aE s k=x:=(fb s k dB).trans hx
     have eL:x<256:=by rw[←oU];exact iD s k
     have k0:(0:Int)≤(k:Int):=zH _
     have k1:(k:Int)<(s.size:Int):=by omega
     have GX:=ab oU
     clear oU
     by_cases FZ:x=q
     ·have Hr:Hid (fA s q 1=some (pre,k+1)):=by
       show _=_
       rw[aa Hu,nN dB ((aa GX).trans FZ)]
       simp
      have fq:((x:Int)==(q:Int))=true:=by simp;omega
      clear Hu FZ
      go_wp2
      go_quiet (fail)
      go_wp2
      go_ret2
      exact L1 (n:=k+1) (below_drewN (aa HB) _) (aa Hr) (aa HY)
     ·have fq:((x:Int)==(q:Int))=false:=by simp;omega
      have hz:=extract_size s k s.size (zD _)
      have hpd:=Bv dB
      have Hpd:=ab hpd
      have Hxq:=ab FZ
      clear hpd FZ
      go_wp2
      go_quiet (fail)
      go_wp2_with fail
      refine (J2 (W:=wr.drewN nq) (hE.up (below_drewN (aa HB) _)) (s.extract k s.size) (by omega) (by omega)).mono ?_
      rintro e w2 ⟨br,⟨ho,rfl⟩|⟨b,n,ho,rfl⟩⟩
      ·rw[aa Hpd] at ho
       have Hr:Hid (fA s q 1=none):=by
        show _=_
        rw[aa Hu,sn dB (by rw[aa GX];exact aa Hxq) ho]
        rfl
       have jm:Hid (Below W.heap.size W w2):=(below_drewN (aa HB) _).trans (br.mono (aa HB).size)
       clear ho br hz Hu
       go_wp2
       go_ret2
       exact tA (aa jm) (aa Hr)
      ·rw[aa Hpd] at ho
       obtain ⟨p1,p2,p3⟩:=jG ho dB
       have Hr:Hid (fA s q 1=(fA s q (k+n)).map fun r=>((pre++[b])++r.1,r.2)):=by
        show _=_
        rw[aa Hu,oR dB (by rw[aa GX];exact aa Hxq) ho,Option.map_map]
        congr 1
        funext r
        simp
       have jm:Hid (Below W.heap.size W w2):=(below_drewN (aa HB) _).trans (br.mono (aa HB).size)
       have HY2:Hid (Bytes W.heap.size w2 (.slice va vn vc) pre):=((aa HY).up (zE _ _)).up ((below_drewN (zE _ wr) _).trans br)
       have sM:W.heap.size≤w2.heap.size:=(aa jm).size
       have n0:((n:Int)==0)=false:=by simp;omega
       have O1:Hid (pre.length+1≤maxLen):=by show _≤_;unfold maxLen;omega
       have O2:Hid ((pre.length+1)*1≤140737488355328):=by show _≤_;omega
       clear ho br hz Hu HY HB
       go_wp2_with (at_builtin;refine wpList_append_own_at _ rfl _ _ 94 rfl W.heap.size 5 i0 (.int .u8 0) 1 1 Tryz.underlying94 hi zy zx jK rfl (by decide) _ _ _ rfl ((aa HY2).alloc _) ⟨w2.heap.size,0,none⟩ 1 1 [.int .u8 (b:Int)] rfl rfl (df _ _ _) (by simp[Value.oneCell']) (aa O1) (aa O2) (by rw[zJ];omega) ?_;intro v4 w4 gz eM _ mG;have HP:Hid (SQ W.heap.size w2 (.slice va vn vc) pre [b] (.returned v4) w4):=yd (ys:=[b]) gz rfl rfl eM mG;clear gz eM mG)
       obtain ⟨v5,nD,BY,DX⟩:=aa HP
       obtain rfl:v4=v5:=by simpa using nD
       obtain ⟨va',vn',vc',rfl⟩:=BY.shape
       have Us:Hid (Below W.heap.size W w4):=(aa jm).trans (DX.below sM (aa HY2).Cu)
       have HY3:=ab BY
       clear BY DX nD HP
       go_roundg (s.size-(k+n))
       case measure=>have:=aa jw;omega
       case rel=>exact ⟨k+n,pre++[b],_,_,_,rfl,by go_num,rfl,by omega,by omega,by simp only[zK,List.length_singleton];omega,HY3,Hr,Us⟩
    ·have Hr:Hid (fA s q 1=none):=by
      show _=_
      rw[aa Hu,nO dB]
      rfl
     obtain rfl:k=s.size:=by omega
     clear Hu
     go_wp2
     go_ret2
     exact tA (aa HB) (aa Hr)
  ·have Hn:Hid (mh s=none):=Ax h0 (by rw[aa Hbq];exact DT)
   have hc:((cls q:Int) != 4)=true:=by
    have:=mt A6.1 DT
    simp;omega
   clear DT
   go_enter Tryz.func86,Tryz.ntmps86
   go_wp2_with fail
   refine (jS W q lG).mono ?_
   rintro e w' ⟨rfl,he⟩
   obtain rfl:W=w':=he.symm
   go_wp2
   go_ret2
   exact tA eK (aa Hn)
end Go.Proofs.YtjophoclfccmcaaGreatDoor
namespace Go.Proofs.YtjophoclfccmcaaGreatDoor
open Go.RowKit
attribute [local go_sem ↓] Go.wp_at_zero Go.wp_at_succ
theorem K7 (c:Nat):(cls c=1∧pK c)∨(¬pK c∧((cls c=2∧isLet c)∨(¬isLet c∧((cls c=3∧eD c)∨(¬eD c∧((cls c=4∧(c=39∨c=34))∨(¬(c=39∨c=34)∧((cls c=5∧om c)∨(¬om c∧((cls c=6∧c=47)∨(cls c=0∧¬c=47)))))))))))  := by
 unfold cls pK
 by_cases h1:(9≤c∧c≤13)∨c=32
 ·exact .inl ⟨by rw[if_pos h1],h1⟩
 ·refine .inr ⟨h1,?_⟩
  rw[if_neg h1]
  by_cases h2:isLet c
  ·exact .inl ⟨by rw[if_pos h2],h2⟩
  ·refine .inr ⟨h2,?_⟩
   rw[if_neg h2]
   by_cases h3:eD c
   ·exact .inl ⟨by rw[if_pos h3],h3⟩
   ·refine .inr ⟨h3,?_⟩
    rw[if_neg h3]
    by_cases h4:c=39∨c=34
    ·exact .inl ⟨by rw[if_pos h4],h4⟩
    ·refine .inr ⟨h4,?_⟩
     rw[if_neg h4]
     by_cases h5:om c
     ·exact .inl ⟨by rw[if_pos h5],h5⟩
     ·refine .inr ⟨h5,?_⟩
      rw[if_neg h5]
      by_cases h6:c=47
      ·exact .inl ⟨by rw[if_pos h6],h6⟩
      ·exact .inr ⟨by rw[if_neg h6],h6⟩
theorem Ib {W:World}{B b:Nat}{s:ByteArray}{k n c:Nat}{v:Value}{xs:List Value} (I:fI W B b s k n v xs) (hp:bW s s.size k=(k,true)) (ho:(gQ s k).2.2=c) (hc:c≠0) (kind m c':Int) (Oq:c'=(c:Int)) :
  Calls Tryz.prog 79 #[.pointer (some ⟨b,0,none⟩),.int .i64 kind,.int .i64 m,.int .i64 c'] W (iE B b s k n xs W):=by
 subst Oq
 exact JL I hp ho hc kind m
theorem Ia {W:World}{B b:Nat}{s:ByteArray}{k n m t:Nat}{v:Value}{xs:List Value} (I:fI W B b s k n v xs) (hp:bW s s.size k=(k,true)) (ho:gQ s k=(t,k+m,0)) (t' m':Int) (ht:t'=(t:Int)) (hm:m'=(m:Int)) :
  Calls Tryz.prog 79 #[.pointer (some ⟨b,0,none⟩),.int .i64 t',.int .i64 m',.int .i64 0] W (iE B b s k n xs W):=by
 subst ht hm
 exact Mg I hp ho
theorem Ft {W:World}{B b:Nat}{s:ByteArray}{k n:Nat}{v:Value}{xs:List Value} (I:fI W B b s k n v xs) (hp:bW s s.size k=(k,true)) (ho:(gQ s k).2.2=40) :
  Calls Tryz.prog 78 #[.pointer (some ⟨b,0,none⟩)] W (iE B b s k n xs W):=by
 have H:=ab (Ib I hp ho (by decide) 0 0 40 rfl)
 clear I hp ho
 go_enter Tryz.func78,Tryz.ntmps78
 go_wp2_with fail
 refine (aa H).mono ?_
 intro e w hq
 obtain ⟨c,rfl⟩:=hq.ret
 have Hq:=ab hq
 clear hq
 go_wp2
 go_ret
 exact aa Hq
theorem Fs {W:World}{B b:Nat}{s:ByteArray}{k n:Nat}{v:Value}{xs:List Value} (I:fI W B b s k n v xs) (hp:bW s s.size k=(k,true)) (ho:gQ s k=(4,k+1,0)) :
  Calls Tryz.prog 87 #[.pointer (some ⟨b,0,none⟩)] W (iE B b s k n xs W):=by
 have H:=ab (Ia I hp ho 4 1 rfl rfl)
 clear I hp ho
 go_enter Tryz.func87,Tryz.ntmps87
 go_wp2_with fail
 refine (aa H).mono ?_
 intro e w hq
 obtain ⟨c,rfl⟩:=hq.ret
 have Hq:=ab hq
 clear hq
 go_wp2
 go_ret
 exact aa Hq
theorem Dg {W:World}{B b:Nat}{s:ByteArray}{k n:Nat}{v:Value}{xs:List Value} (I:fI W B b s k n v xs) (h:pK (aE s k)) :
  Calls Tryz.prog 80 #[.pointer (some ⟨b,0,none⟩)] W (iE B b s k n xs W):=by
 refine (Fq I.sc I.more I.size).mono ?_
 rintro e w ⟨rfl,rfl⟩
 have acY:=I.more
 refine ⟨(BX.refl _ _ _).set _ _,.inl ⟨rfl,k+1,[],v,I.sc.at _,?_,by omega,by omega,I.room,?_⟩⟩
 ·show World.ownsRow _ B 38 3 v n (xs++[])
  rw[List.append_nil]
  obtain ⟨h1,⟨rfl,h0⟩|⟨g,c,cur,rfl,h2,h3,h4⟩⟩:=I.row
  ·exact ⟨h1,.inl ⟨rfl,h0⟩⟩
  ·refine ⟨h1,.inr ⟨g,c,cur,rfl,h2,(heap_setCell_other _ ⟨b,1,none⟩ g _ ?_).trans h3,h4⟩⟩
   have:=I.lo
   show ¬g=b
   omega
 ·rw[qq]
  exact H8 n (FF I.more h)
theorem Bn {W:World}{B b:Nat}{s:ByteArray}{k n:Nat}{v:Value}{xs:List Value} (I:fI W B b s k n v xs) (hp:bW s s.size k=(k,true)) (ho:gQ s k=(1,fZ s k,0)) :
  Calls Tryz.prog 81 #[.pointer (some ⟨b,0,none⟩)] W (iE B b s k n xs W):=by
 have hr:=mw I.sc (Nat.le_of_lt I.more)
 have HI:=ab I
 have hs:=I.size
 have hk:=I.more
 have Hp:=ab hp
 have Ho:=ab ho
 clear I hp ho
 go_enter Tryz.func81,Tryz.ntmps81
 go_wp2_with fail
 refine hr.mono ?_
 rintro e w1 ⟨rfl,n1,rfl⟩
 clear hr
 have Zv:=Bq (W.drewN n1) (s.extract k s.size) (by rw[ByteArray.size_extract];omega)
 go_wp2_with fail
 refine Zv.mono ?_
 rintro e w2 ⟨m,rfl,kl,hn,h1,h2⟩
 obtain rfl:W.drewN n1=w2:=kl.symm
 clear kl Zv
 obtain ⟨eE,hle⟩:=y7 (by omega) hn h1 h2
 have bQ:Below W.heap.size W (W.drewN n1):=below_drewN (zE _ _) n1
 have ht:=Ia ((aa HI).up bQ) (aa Hp) (by rw[aa Ho,eE]) 1 (m:Int) rfl rfl
 have Ht:=ab ht
 have ko:=ab bQ
 clear ht hn h1 h2 hle eE bQ
 go_wp2_with fail
 refine (aa Ht).mono ?_
 intro e w hq
 obtain ⟨c,rfl⟩:=hq.ret
 have Hq:=ab (hq.from (aa ko) (aa HI).hi)
 clear hq
 go_wp2
 go_ret
 exact aa Hq
theorem Df {W:World}{B b:Nat}{s:ByteArray}{k n:Nat}{v:Value}{xs:List Value} (hE:gU W) (I:fI W B b s k n v xs) (hp:bW s s.size k=(k,true)) (ho:gQ s k=if wv (aI (s.extract k (fZ s k)))=none then (0,0,41) else (2,fZ s k,0)) :
  Calls Tryz.prog 83 #[.pointer (some ⟨b,0,none⟩)] W (iE B b s k n xs W):=by
 have hr:=mw I.sc (Nat.le_of_lt I.more)
 have HI:=ab I
 have HE:=ab hE
 have hs:=I.size
 have hk:=I.more
 have Hp:=ab hp
 have Ho:=ab ho
 clear I hp ho hE
 go_enter Tryz.func83,Tryz.ntmps83
 go_wp2_with fail
 refine hr.mono ?_
 rintro e w1 ⟨rfl,n1,rfl⟩
 clear hr
 have Zv:=Bq (W.drewN n1) (s.extract k s.size) (by rw[ByteArray.size_extract];omega)
 go_wp2_with fail
 refine Zv.mono ?_
 rintro e w2 ⟨m,rfl,kl,hn,h1,h2⟩
 obtain rfl:W.drewN n1=w2:=kl.symm
 clear kl Zv
 obtain ⟨eE,hle⟩:=y7 (by omega) hn h1 h2
 have bQ:Below W.heap.size W (W.drewN n1):=below_drewN (zE _ _) n1
 have AR:=mw ((aa HI).up bQ).sc (Nat.le_of_lt hk)
 have ck:(s.extract k s.size).size=s.size-k:=by rw[ByteArray.size_extract];omega
 have ko:=ab bQ
 have HeE:=ab eE
 have hex:=tR s k m hle
 have m0:(0:Int)≤(m:Int):=zH _
 have m1:(m:Int)≤((s.size-k:Nat):Int):=by omega
 clear hn h1 h2 bQ eE
 go_wp2_with fail
 refine AR.mono ?_
 rintro e w3 ⟨rfl,n2,rfl⟩
 clear AR
 have br:Below W.heap.size W (W.drewN (n1+n2)):=below_drewN (zE _ _) (n1+n2)
 have hwo:=Aw ((aa HE).up br) (s.extract k (k+m)) (by rw[ByteArray.size_extract];omega)
 have zt:=ab br
 clear br
 go_wp2_with fail
 refine hwo.mono ?_
 rintro e w4 ⟨fj,wn,wc,rfl,hu⟩
 have lr:Below W.heap.size W w4:=(aa zt).trans fj
 rcases hu with ⟨u,Zg,rfl,rfl⟩|⟨Zg,rfl,rfl⟩
 ·have ht:=Ia ((aa HI).up lr) (aa Hp) (m:=m) (t:=2) (by rw[aa Ho,aa HeE,Zg];rfl) 2 (m:Int) rfl rfl
  have Ht:=ab ht
  have WI:=ab lr
  clear ht fj lr Zg hwo
  go_wp2_with fail
  refine (aa Ht).mono ?_
  intro e w hq
  obtain ⟨c,rfl⟩:=hq.ret
  have Hq:=ab (hq.from (aa WI) (aa HI).hi)
  clear hq
  go_wp2
  go_ret
  exact aa Hq
 ·have ht:=Ib ((aa HI).up lr) (aa Hp) (c:=41) (by rw[aa Ho,aa HeE,Zg];rfl) (by decide) 2 (m:Int) 41 rfl
  have Ht:=ab ht
  have WI:=ab lr
  clear ht fj lr Zg hwo
  go_wp2_with fail
  refine (aa Ht).mono ?_
  intro e w hq
  obtain ⟨c,rfl⟩:=hq.ret
  have Hq:=ab (hq.from (aa WI) (aa HI).hi)
  clear hq
  go_wp2
  go_ret
  exact aa Hq
end Go.Proofs.YtjophoclfccmcaaGreatDoor
namespace Go.Proofs
open Go.Shelf
def Tryz.Ab:Go.Shelf.Ren:=⟨fun|143=>118|219=>138|217=>114|225=>165|224=>166|267=>167|266=>133|314=>180|n=>n,fun|9=>9|3=>3|4=>4|5=>5|46=>181|146=>194|51=>193|n=>n,fun|1=>1|n=>n⟩
theorem Tryz.Kk:Go.Proofs.Lays.n143 Tryz.prog Tryz.Ab:={
 mixed:=by kernel_rfl
 f143:=Tryz.func118.trans (congrArg some (by kernel_rfl))
 f217:=Tryz.func114.trans (congrArg some (by kernel_rfl))
 f219:=Tryz.func138.trans (congrArg some (by kernel_rfl))
 f224:=Tryz.func166.trans (congrArg some (by kernel_rfl))
 f225:=Tryz.func165.trans (congrArg some (by kernel_rfl))
 f266:=Tryz.func133.trans (congrArg some (by kernel_rfl))
 f267:=Tryz.func167.trans (congrArg some (by kernel_rfl))
 f314:=Tryz.func180.trans (congrArg some (by kernel_rfl))
 t3:=Tryz.underlying3
 a3:=Tryz.isAgg3
 z3:=Tryz.sizeOf3
 v3:=Tryz.zeroValue3
 t4:=Tryz.underlying4
 a4:=Tryz.isAgg4
 z4:=Tryz.sizeOf4
 v4:=Tryz.zeroValue4
 t5:=Tryz.underlying5
 a5:=Tryz.isAgg5
 z5:=Tryz.sizeOf5
 v5:=Tryz.zeroValue5
 t9:=Tryz.underlying9
 a9:=Tryz.isAgg9
 z9:=Tryz.sizeOf9
 v9:=Tryz.zeroValue9
 t46:=Tryz.underlying181
 a46:=Tryz.isAgg181
 z46:=Tryz.sizeOf181
 v46:=Tryz.zeroValue181
 t51:=Tryz.underlying193
 a51:=Tryz.isAgg193
 z51:=Tryz.sizeOf193
 v51:=Tryz.zeroValue193
 t146:=Tryz.underlying194
 a146:=Tryz.isAgg194
 z146:=Tryz.sizeOf194
 v146:=Tryz.zeroValue194
 g1:=by kernel_rfl }
end Go.Proofs
namespace Go.Proofs.YtjophoclfccmcaaGreatDoor
open Go.RowKit
attribute [local go_sem ↓] Go.wp_at_zero Go.wp_at_succ
theorem tH {s:ByteArray}{k j:Nat} (h:k+j<s.size):dG (s.extract k s.size) j=dG s (k+j):=by
 unfold dG
 rw[lk h,A0,List.drop_drop]
theorem L0 {s:ByteArray}{q k:Nat} (hk:k≤s.size):∀(m j:Nat),s.size-(k+j)≤m→fA (s.extract k s.size) q j=(fA s q (k+j)).map fun r=>(r.1,r.2-k):=by
 have hz:(s.extract k s.size).size=s.size-k:=by rw[ByteArray.size_extract];omega
 intro m
 induction m with
 |zero=>intro j hj;rw[nO (by omega),nO (by omega)];rfl
 |succ m ih =>
  intro j hj
  by_cases hl:k+j<s.size
  ·by_cases hq:aE s (k+j)=q
   ·rw[nN (by omega) ((lk hl).trans hq),nN hl hq]
    show some (([]:List Nat),j+1)=some ([],k+j+1-k)
    congr 2
    omega
   ·have lG:¬aE (s.extract k s.size) j=q:=by rw[lk hl];exact hq
    cases hp:dG s (k+j) with
    |none=>rw[sn (by omega) lG ((tH hl).trans hp),sn hl hq hp];rfl
    |some t =>
     obtain ⟨b,n⟩:=t
     obtain ⟨p1,p2,p3⟩:=jG hp hl
     rw[oR (by omega) lG ((tH hl).trans hp),oR hl hq hp,ih (j+n) (by omega),Option.map_map,Option.map_map,show k+(j+n)=k+j+n by omega]
     rfl
  ·rw[nO (by omega),nO hl];rfl
theorem De {W:World}{B b:Nat}{s:ByteArray}{k n:Nat}{v:Value}{xs:List Value} (hE:gU W) (I:fI W B b s k n v xs) (hp:bW s s.size k=(k,true)) (hq:aE s k=39∨aE s k=34) (ho:gQ s k=match fA s (aE s k) (k+1) with|none=>(0,0,42)|some (_,e)=>(3,e,0)) :
  Calls Tryz.prog 85 #[.pointer (some ⟨b,0,none⟩)] W (iE B b s k n xs W):=by
 have hr:=mw I.sc (Nat.le_of_lt I.more)
 have HI:=ab I
 have HE:=ab hE
 have hs:=I.size
 have hk:=I.more
 have hz:(s.extract k s.size).size=s.size-k:=by rw[ByteArray.size_extract];omega
 have hL:mh (s.extract k s.size)=(fA s (aE s k) (k+1)).map fun r=>(r.1,r.2-k):=by
  have eK:aE (s.extract k s.size) 0=aE s k:=lk (by omega)
  rw[su (by omega) (by rw[eK];exact hq),eK]
  exact L0 (by omega) _ 1 (zD _)
 have HL:=ab hL
 have Hp:=ab hp
 have Ho:=ab ho
 clear I hp ho hE hq hL
 go_enter Tryz.func85,Tryz.ntmps85
 go_wp2_with fail
 refine hr.mono ?_
 rintro e w1 ⟨rfl,n1,rfl⟩
 clear hr
 have bQ:Below W.heap.size W (W.drewN n1):=below_drewN (zE _ _) n1
 have hu:=tB ((aa HE).up bQ) (s.extract k s.size) (by omega)
 have ko:=ab bQ
 clear bQ
 go_wp2_with fail
 refine hu.mono ?_
 rintro e w2 ⟨br,⟨h1,rfl⟩|⟨l,m,v',h1,rfl,hv⟩⟩
 ·have lr:Below W.heap.size W w2:=(aa ko).trans br
  have hn:fA s (aE s k) (k+1)=none:=Option.map_eq_none_iff.1 ((aa HL).symm.trans h1)
  have ht:=Ib ((aa HI).up lr) (aa Hp) (c:=42) (by rw[aa Ho,hn]) (by decide) 0 0 42 rfl
  have Ht:=ab ht
  have WI:=ab lr
  clear ht br lr hn h1 hu
  go_wp2_with fail
  refine (aa Ht).mono ?_
  intro e w hq
  obtain ⟨c,rfl⟩:=hq.ret
  have Hq:=ab (hq.from (aa WI) (aa HI).hi)
  clear hq
  go_wp2
  go_ret
  exact aa Hq
 ·have lr:Below W.heap.size W w2:=(aa ko).trans br
  obtain ⟨⟨l',e'⟩,h2,h3⟩:=Option.map_eq_some_iff.1 ((aa HL).symm.trans h1)
  obtain ⟨rfl,rfl⟩:=Prod.mk.inj h3
  obtain ⟨u1,u2,_⟩:=He _ (k+1) l' e' (zD _) h2
  obtain ⟨m,hm⟩:∃m,e'=k+m:=⟨e'-k,by omega⟩
  have AS:(l',e').2-k=m:=by show e'-k=m;omega
  rw[AS]
  have ht:=Ia ((aa HI).up lr) (aa Hp) (m:=m) (t:=3) (by rw[aa Ho,h2,hm]) 3 (m:Int) rfl rfl
  have Ht:=ab ht
  have WI:=ab lr
  have m0:((m:Int)==0)=false:=beq_eq_false_iff_ne.2 (by omega)
  obtain ⟨va,vn,vc,rfl⟩:=hv.shape
  clear ht br lr h1 h2 h3 hm AS u1 u2 hu hv
  go_wp2_with fail
  refine (aa Ht).mono ?_
  intro e w hq
  obtain ⟨c,rfl⟩:=hq.ret
  have Hq:=ab (hq.from (aa WI) (aa HI).hi)
  clear hq
  go_wp2
  go_ret
  exact aa Hq
theorem Kn (W:World) (s sub:ByteArray) (m:Int) (hs:s.size<4294967281) (hm:W.cell? ⟨1,0,none⟩=some (.int .i64 m)) :
  Calls Tryz.prog 118 #[.string s,.string sub] W fun e w=>e=.returned (.int .i64 (Lib.index s.data.toList sub.data.toList))∧w=W:=Any.strings_Index Tryz.Kk s sub m W hs hm
def oO (W:World):Prop:=1<W.heap.size∧∃m:Int,W.cell? ⟨1,0,none⟩=some (.int .i64 m)
theorem oO.up {W w:World} (h:oO W) {B:Nat} (hb:Below B W w) (hB:1<B):oO w:=by
 obtain ⟨h1,m,h2⟩:=h
 exact ⟨Nat.lt_of_lt_of_le h1 hb.size,m,(hb.cell (p:=⟨1,0,none⟩) hB).trans h2⟩
theorem V1 {W:World}{B b:Nat}{s:ByteArray}{k n:Nat}{v:Value}{xs:List Value} (I:fI W B b s k n v xs) {W1:World} (hb:Below W.heap.size W W1) (k':Nat) (z:Value) (hz:z=.int .i64 (k':Int)) (h1:k<k') (h2:k'≤s.size) (hp:bW s s.size k=bW s s.size k'):iE B b s k n xs W (.returned (.int .i64 0)) (W1.setCell ⟨b,1,none⟩ z):=by
 subst hz
 have J:=I.up hb
 refine ⟨(BX.of hb I.hi).set _ _,.inl ⟨rfl,k',[],v,J.sc.at _,?_,h1,h2,I.room,?_⟩⟩
 ·show World.ownsRow _ B 38 3 v n (xs++[])
  rw[List.append_nil]
  obtain ⟨h1,⟨rfl,h0⟩|⟨g,c,cur,rfl,h2,h3,h4⟩⟩:=J.row
  ·exact ⟨h1,.inl ⟨rfl,h0⟩⟩
  ·refine ⟨h1,.inr ⟨g,c,cur,rfl,h2,(heap_setCell_other _ ⟨b,1,none⟩ g _ ?_).trans h3,h4⟩⟩
   have:=I.lo
   show ¬g=b
   omega
 ·rw[qq]
  exact H8 n hp
theorem zX {W:World}{B b:Nat}{s:ByteArray}{k n:Nat}{v:Value}{xs:List Value} (hM:oO W) (I:fI W B b s k n v xs) (hc:aE s k=47) (ho:(gQ s k).2.2=40) :
  Calls Tryz.prog 88 #[.pointer (some ⟨b,0,none⟩)] W (iE B b s k n xs W):=by
 have hr:=mw I.sc (Nat.le_of_lt I.more)
 have HI:=ab I
 have hs:=I.size
 have hk:=I.more
 have hz:(s.extract k s.size).size=s.size-k:=by rw[ByteArray.size_extract];omega
 have hP1:=Is (s:=s) (k:=k) (by omega) 47 47
 have hP2:=Is (s:=s) (k:=k) (by omega) 47 42
 have n47:(47:UInt8).toNat=47:=rfl
 have n42:(42:UInt8).toNat=42:=rfl
 rw[n47] at hP1 hP2
 rw[n42] at hP2
 have S2:=ab hP1
 have Uk:=ab hP2
 have HM:=ab hM
 have Ho:=ab ho
 have Hc:=ab hc
 clear I hP1 hP2 hM ho hc n47 n42
 go_enter Tryz.func88,Tryz.ntmps88
 go_wp2_with fail
 refine hr.mono ?_
 rintro e w1 ⟨rfl,n1,rfl⟩
 clear hr
 have bQ:Below W.heap.size W (W.drewN n1):=below_drewN (zE _ _) n1
 have J:=(aa HI).up bQ
 have ko:=ab bQ
 have HJ:=ab J
 have c1:=J.sc.c1
 have f1:=jE 1 J.sc
 clear bQ J
 go_wp2_with fail
 refine (gS _ _ _).mono ?_
 rintro e w2 ⟨rfl,hw⟩
 obtain rfl:W.drewN n1=w2:=hw.symm
 clear hw
 by_cases q1:Cx (s.extract k s.size) ⟨#[47,47]⟩
 ·rw[J1 q1]
  obtain ⟨a1,a2,a3⟩:=(aa S2).1 q1
  have hi:=Vj (s:=s) (k:=k) (by omega)
  have dB:=BF hk a2
  have hle:=BG s k (by omega)
  have P0:=ab (J4 a1 a2 a3)
  clear a2 a3 q1
  obtain ⟨N,hN⟩:∃N,lQ s k=N:=⟨_,rfl⟩
  rw[hN] at hi dB hle P0
  clear hN
  have Hi:=ab hi
  clear hi
  go_wp2_with fail
  refine (gW _ _ _).mono ?_
  rintro e w3 ⟨rfl,hw⟩
  obtain rfl:W.drewN n1=w3:=hw.symm
  clear hw
  have e10:(10:Int).toNat.toUInt8=(10:UInt8):=rfl
  rw[e10,aa Hi]
  clear e10 Hi
  by_cases Qu:N<s.size
  ·rw[if_pos Qu]
   obtain ⟨d,rfl⟩:∃d,N=k+d:=⟨N-k,by omega⟩
   have hd:k+d-k=d:=by omega
   rw[hd]
   clear hd
   go_wp2
   go_ret
   exact V1 (aa HI) (aa ko) (k+d) _ (by go_num) dB hle (aa P0)
  ·rw[if_neg Qu]
   obtain rfl:N=s.size:=by omega
   clear Qu
   have ek:(k:Int)+((s.size-k:Nat):Int)=(s.size:Int):=by omega
   go_wp2
   go_ret
   exact V1 (aa HI) (aa ko) s.size _ (by first|go_num|(congr 1;omega)) dB hle (aa P0)
 ·rw[FC q1]
  go_wp2_with fail
  refine (gS _ _ _).mono ?_
  rintro e w3 ⟨rfl,hw⟩
  obtain rfl:W.drewN n1=w3:=hw.symm
  clear hw
  by_cases q2:Cx (s.extract k s.size) ⟨#[47,42]⟩
  ·rw[J1 q2]
   obtain ⟨a1,a2,a3⟩:=(aa Uk).1 q2
   have hi:=NW (s:=s) (k:=k+2) (by omega)
   have VF:=kJ s (k+2)
   have X7:=ab (fun h=>J3 a1 a2 a3 h)
   have Hp2:=ab (fun h=>FE a1 a2 a3 h)
   clear a2 a3 q1 q2
   obtain ⟨N,hN⟩:∃N,eU s (k+2)=N:=⟨_,rfl⟩
   rw[hN] at hi VF X7 Hp2
   clear hN
   have Hi:=ab hi
   clear hi
   have eL:(s.extract k s.size).extract 2 (s.size-k)=s.extract (k+2) s.size:=by
    apply ByteArray.ext
    apply Array.ext'
    rw[Lib.extract_data,Lib.extract_data,Lib.extract_data,List.drop_take,List.take_take,List.drop_drop]
    congr 1
    omega
   have z2:(2:Int)≤((s.size-k:Nat):Int):=by omega
   have jK:(s.extract (k+2) s.size).size=s.size-(k+2):=by rw[ByteArray.size_extract];omega
   obtain ⟨_,mm,Qm⟩:=aa HM
   have ZG:(W.drewN n1).cell? ⟨1,0,none⟩=some (.int .i64 mm):=Qm
   have Hmm:=ab ZG
   clear Qm ZG
   go_wp2_with fail
   refine (Kn _ _ _ mm (by omega) (aa Hmm)).mono ?_
   rintro e w3 ⟨rfl,hw⟩
   obtain rfl:W.drewN n1=w3:=hw.symm
   clear hw
   have e4:(⟨#[42,47]⟩:ByteArray).data.toList=[42,47]:=rfl
   rw[e4,aa Hi]
   clear e4 Hi
   by_cases Qu:N+2≤s.size
   ·rw[if_pos Qu]
    obtain ⟨d,rfl⟩:∃d,N=k+2+d:=⟨N-(k+2),by omega⟩
    have hd:k+2+d-(k+2)=d:=by omega
    rw[hd]
    clear hd
    go_wp2
    go_ret
    exact V1 (aa HI) (aa ko) (k+2+d+2) _ (by first|go_num|(congr 1;omega)) (by omega) Qu (aa X7 Qu)
   ·rw[if_neg Qu]
    have Hq:Hid (iE B b s k n xs W (.returned (.int .i64 43)) (W.drewN n1)):=⟨BX.of (aa ko) (aa HI).hi,.inr ⟨43,v,by decide,rfl,(aa HJ).sc,Md (aa Hp2 Qu)⟩⟩
    clear Qu X7 Hp2
    go_wp2
    go_ret
    exact aa Hq
  ·rw[FC q2]
   have hp:bW s s.size k=(k,true):=AI hk (by rw[aa Hc];decide) (mt (aa S2).2 q1) (mt (aa Uk).2 q2)
   have ht:=Ib (aa HJ) hp (aa Ho) (by decide) 0 0 40 rfl
   have Ht:=ab ht
   clear ht hp q1 q2
   go_wp2_with fail
   refine (aa Ht).mono ?_
   intro e w hq
   obtain ⟨c,rfl⟩:=hq.ret
   have Hq:=ab (hq.from (aa ko) (aa HI).hi)
   clear hq
   go_wp2
   go_ret
   exact aa Hq
def written:Array Value→Nat→List Value→Array Value
 |cs,_,[]=>cs
 |cs,o,v::vs=>written (cs.setIfInBounds o v) (o+1) vs
theorem lS {t:TypeId}{g:Nat}:∀(vs:List Value) (o:Nat) (w:World) (cs:Array Value),w.heap[g]?=some (.cells cs t (0,0))→(w.setCells g o vs).heap[g]?=some (.cells (written cs o vs) t (0,0))∧(∀b,b≠g→(w.setCells g o vs).heap[b]?=w.heap[b]?)
 |[],_,_,_,h=>⟨h,fun _ _=>rfl⟩
 |v::vs,o,w,cs,h=>by
  obtain ⟨h1,h2⟩:=lS vs (o+1) (w.setCell ⟨g,o,none⟩ v) (cs.setIfInBounds o v) (heap_setCell_same w g o cs t v h)
  exact ⟨h1,fun b hb=>(h2 b hb).trans (heap_setCell_other w _ b v hb)⟩
theorem ln {n g:Nat}{A:World} (hg:n≤g):∀(vs:List Value) (o:Nat) (w:World),Below n A w→Below n A (w.setCells g o vs)
 |[],_,_,h=>h
 |v::vs,o,_,h=>ln hg vs (o+1) _ (h.setCell (p:=⟨g,o,none⟩) hg v)
theorem pF {g:Nat}:∀(vs:List Value) (o:Nat) (w:World),(w.setCells g o vs).heap.size=w.heap.size
 |[],_,_=>rfl
 |_::vs,o,w=>(pF vs (o+1) _).trans (World.size_setCell w _ _)
def cw:List Value:=[.func (.func 78) #[] #[],.func (.func 80) #[] #[],.func (.func 81) #[] #[],.func (.func 83) #[] #[],.func (.func 85) #[] #[],.func (.func 87) #[] #[],.func (.func 88) #[] #[]]
theorem Tryz.sL:(Tryz.prog.info? 90).map (·.size)=some cw.toArray.size:=by kernel_rfl
theorem Ii:cw.toArray.all (·.oneCell')=true:=by decide +kernel
def Fk:Nat→Nat
 |0=>78|1=>80|2=>81|3=>83|4=>85|5=>87|_=>88
theorem JM:∀c,c<7→cw[c]?=some (.func (.func (Fk c)) #[] #[])
 |0,_=>rfl|1,_=>rfl|2,_=>rfl|3,_=>rfl|4,_=>rfl|5,_=>rfl|6,_=>rfl
 |_+7,h=>by omega
theorem Mf (W:World):(W.alloc (.cells #[.nilFunc,.nilFunc,.nilFunc,.nilFunc,.nilFunc,.nilFunc,.nilFunc] 90)).there W.heap.size 0 cw.toArray.size:=by
 intro j hj
 have hb:=heap_alloc_new W (.cells #[.nilFunc,.nilFunc,.nilFunc,.nilFunc,.nilFunc,.nilFunc,.nilFunc] 90)
 refine ⟨?_,frozen_of_row _ _ _ _ _ hb⟩
 rw[Nat.zero_add,cell_of_row _ _ _ _ _ _ hb]
 have RX:j<7:=hj
 simp
 omega
theorem JO (W:World):Calls Tryz.prog 49 #[] W fun e W'=>e=.returned (.agg cw.toArray)∧Below W.heap.size W W':=by
 have Zh:=Mf W
 go_enter Tryz.func49,Tryz.ntmps49
 go_wp2_with (refine wpList_store_mid rfl 90 (.tmp 0) (.tmp 1) rfl W.heap.size 0 cw.toArray rfl rfl Zh Tryz.sL Ii ?_)
 obtain ⟨eF,kl⟩:=lS (t:=90) (g:=W.heap.size) cw 0 (W.alloc (.cells #[.nilFunc,.nilFunc,.nilFunc,.nilFunc,.nilFunc,.nilFunc,.nilFunc] 90)) #[.nilFunc,.nilFunc,.nilFunc,.nilFunc,.nilFunc,.nilFunc,.nilFunc] (heap_alloc_new W _)
 have iU:written #[.nilFunc,.nilFunc,.nilFunc,.nilFunc,.nilFunc,.nilFunc,.nilFunc] 0 cw=cw.toArray:=by rfl
 rw[iU] at eF
 have hB:Below W.heap.size W ((W.alloc (.cells #[.nilFunc,.nilFunc,.nilFunc,.nilFunc,.nilFunc,.nilFunc,.nilFunc] 90)).setCells W.heap.size 0 cw):=ln (zD _) _ _ _ ((zE _ W).alloc (zD _) _)
 refine bodyPost_ret (v:=.agg cw.toArray) (results_cell_row rfl _ _ W.heap.size 90 cw.toArray (0,0) _ rfl eF Tryz.underlying90 rfl Tryz.sL) rfl ⟨rfl,hB⟩
def SV (W:World) (tb:Nat):Prop:=W.heap[tb]?=some (.cells cw.toArray 90 (0,0))
theorem SV.cell {W:World}{tb:Nat} (h:SV W tb) (c:Nat) (hc:c<7):W.cell? ⟨tb,c,none⟩=some (.func (.func (Fk c)) #[] #[]):=by
 rw[cell_of_row _ _ _ _ _ _ h,←JM c hc]
 simp
theorem Ou (W:World):SV ((W.alloc (.cells #[.nilFunc,.nilFunc,.nilFunc,.nilFunc,.nilFunc,.nilFunc,.nilFunc] 90)).setCells W.heap.size 0 cw) W.heap.size:=by
 have:=(lS (t:=90) (g:=W.heap.size) cw 0 _ _ (heap_alloc_new W (.cells #[.nilFunc,.nilFunc,.nilFunc,.nilFunc,.nilFunc,.nilFunc,.nilFunc] 90))).1
 rw[show written #[.nilFunc,.nilFunc,.nilFunc,.nilFunc,.nilFunc,.nilFunc,.nilFunc] 0 cw=cw.toArray from rfl] at this
 exact this
structure Tab (A:Array Value):Prop where
 eq:A=cw.toArray
 info:(Tryz.prog.info? 90).map (·.size)=some A.size
 one:A.all (·.oneCell')=true
theorem QQ:Tab cw.toArray:=⟨rfl,Tryz.sL,Ii⟩
theorem Wq (c:Nat):cls c<7:=by
 unfold cls
 repeat' split
 all_goals decide
theorem fY {f:FuncId}{F:Func} (h:Tryz.prog.funcs[f]?=some F) (hn:¬F.name = "runtime.NumGoroutine") (hb:F.body.isSome=true) (w:World) (vs:Array Value):(callFunc f vs).run Tryz.prog w=.ok (.enter f vs) w:=by
 obtain ⟨c,hc⟩:=zG hb
 simp[callFunc,h,hn,hc]
theorem Lc (w:World) (vs:Array Value):∀c,c<7→(callFunc (Fk c) vs).run Tryz.prog w=.ok (.enter (Fk c) vs) w
 |0,_=>by exact fY Tryz.func78 (by decide +kernel) (by kernel_rfl) w vs
 |1,_=>by exact fY Tryz.func80 (by decide +kernel) (by kernel_rfl) w vs
 |2,_=>by exact fY Tryz.func81 (by decide +kernel) (by kernel_rfl) w vs
 |3,_=>by exact fY Tryz.func83 (by decide +kernel) (by kernel_rfl) w vs
 |4,_=>by exact fY Tryz.func85 (by decide +kernel) (by kernel_rfl) w vs
 |5,_=>by exact fY Tryz.func87 (by decide +kernel) (by kernel_rfl) w vs
 |6,_=>by exact fY Tryz.func88 (by decide +kernel) (by kernel_rfl) w vs
 |_+7,h=>by omega
theorem Le (w:World) (vs:Array Value):(callFunc 43 vs).run Tryz.prog w=.ok (.enter 43 vs) w:=by exact fY Tryz.func43 (by decide +kernel) (by kernel_rfl) w vs
theorem JQ {W:World}{B b:Nat}{s:ByteArray}{k n:Nat}{v:Value}{xs:List Value} (hE:gU W) (hM:oO W) (I:fI W B b s k n v xs) :
  Calls Tryz.prog (Fk (cls (aE s k))) #[.pointer (some ⟨b,0,none⟩)] W (iE B b s k n xs W):=by
 have hm:=I.more
 have iW:gQ s k=gQ s k:=rfl
 conv at iW=>rhs;unfold gQ
 rcases K7 (aE s k) with ⟨e,h1⟩|⟨n1,⟨e,h2⟩|⟨n2,⟨e,h3⟩|⟨n3,⟨e,h4⟩|⟨n4,⟨e,h5⟩|⟨n5,⟨e,h6⟩|⟨e,n6⟩⟩⟩⟩⟩⟩
 ·rw[e]
  exact Dg I h1
 ·rw[e]
  rw[if_pos h2] at iW
  exact Bn I (kU hm n1 (fun q=>by rw[q] at h2;exact absurd h2 (by decide))) iW
 ·rw[e]
  rw[if_neg n2,if_pos h3] at iW
  exact Df hE I (kU hm n1 (fun q=>by rw[q] at h3;exact absurd h3 (by decide))) iW
 ·rw[e]
  rw[if_neg n2,if_neg n3,if_pos h4] at iW
  exact De hE I (kU hm n1 (fun q=>by omega)) h4 iW
 ·rw[e]
  rw[if_neg n2,if_neg n3,if_neg n4,if_pos h5] at iW
  exact Fs I (kU hm n1 (fun q=>by rw[q] at h5;exact absurd h5 (by decide))) iW
 ·rw[e]
  rw[if_neg n2,if_neg n3,if_neg n4,if_neg n5] at iW
  exact zX hM I h6 (by rw[iW])
 ·rw[e]
  rw[if_neg n2,if_neg n3,if_neg n4,if_neg n5] at iW
  exact Ft I (kU hm n1 n6) (by rw[iW])
end Go.Proofs.YtjophoclfccmcaaGreatDoor

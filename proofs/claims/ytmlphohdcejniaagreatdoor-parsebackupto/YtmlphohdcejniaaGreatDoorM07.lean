import Derived.Test.YtmlphohdcejniaaGreatDoorM06
import Derived.Shelf.Strings.Search3
import Derived.Deep.MidRow
import Derived.Laws.Rows
set_option maxHeartbeats 2000000
set_option maxRecDepth 100000
namespace Go.Proofs.YtmlphohdcejniaaGreatDoor
open Go.RowKit
attribute [local go_sem ↓] Go.wp_at_zero Go.wp_at_succ
theorem IT (c:Nat):(cls c=1∧lk c)∨(¬lk c∧((cls c=2∧isLet c)∨(¬isLet c∧((cls c=3∧bX c)∨(¬bX c∧((cls c=4∧(c=39∨c=34))∨(¬(c=39∨c=34)∧((cls c=5∧iK c)∨(¬iK c∧((cls c=6∧c=47)∨(cls c=0∧¬c=47)))))))))))  := by
 unfold cls lk
 by_cases h1:(9≤c∧c≤13)∨c=32
 ·exact .inl ⟨by rw[if_pos h1],h1⟩
 ·refine .inr ⟨h1,?_⟩
  rw[if_neg h1]
  by_cases h2:isLet c
  ·exact .inl ⟨by rw[if_pos h2],h2⟩
  ·refine .inr ⟨h2,?_⟩
   rw[if_neg h2]
   by_cases h3:bX c
   ·exact .inl ⟨by rw[if_pos h3],h3⟩
   ·refine .inr ⟨h3,?_⟩
    rw[if_neg h3]
    by_cases h4:c=39∨c=34
    ·exact .inl ⟨by rw[if_pos h4],h4⟩
    ·refine .inr ⟨h4,?_⟩
     rw[if_neg h4]
     by_cases h5:iK c
     ·exact .inl ⟨by rw[if_pos h5],h5⟩
     ·refine .inr ⟨h5,?_⟩
      rw[if_neg h5]
      by_cases h6:c=47
      ·exact .inl ⟨by rw[if_pos h6],h6⟩
      ·exact .inr ⟨by rw[if_neg h6],h6⟩
theorem Fi {W:World}{B b:Nat}{s:ByteArray}{k n c:Nat}{v:Value}{xs:List Value} (I:fj W B b s k n v xs) (hp:bz s s.size k=(k,true)) (ho:(dX s k).2.2=c) (hc:c≠0) (kind m c':Int) (LH:c'=(c:Int)) :
  Calls Tryz.prog 60 #[.pointer (some ⟨b,0,none⟩),.int .i64 kind,.int .i64 m,.int .i64 c'] W (gJ B b s k n xs W):=by
 subst LH
 exact GM I hp ho hc kind m
theorem Fh {W:World}{B b:Nat}{s:ByteArray}{k n m t:Nat}{v:Value}{xs:List Value} (I:fj W B b s k n v xs) (hp:bz s s.size k=(k,true)) (ho:dX s k=(t,k+m,0)) (t' m':Int) (ht:t'=(t:Int)) (hm:m'=(m:Int)) :
  Calls Tryz.prog 60 #[.pointer (some ⟨b,0,none⟩),.int .i64 t',.int .i64 m',.int .i64 0] W (gJ B b s k n xs W):=by
 subst ht hm
 exact J4 I hp ho
theorem DI {W:World}{B b:Nat}{s:ByteArray}{k n:Nat}{v:Value}{xs:List Value} (I:fj W B b s k n v xs) (hp:bz s s.size k=(k,true)) (ho:(dX s k).2.2=40) :
  Calls Tryz.prog 59 #[.pointer (some ⟨b,0,none⟩)] W (gJ B b s k n xs W):=by
 have H:=aj (Fi I hp ho (by decide) 0 0 40 rfl)
 clear I hp ho
 go_enter Tryz.func59,Tryz.ntmps59
 go_wp2_with fail
 refine (aa H).mono ?_
 intro e w hq
 obtain ⟨c,rfl⟩:=hq.ret
 have Hq:=aj hq
 clear hq
 go_wp2
 go_ret
 exact aa Hq
theorem DH {W:World}{B b:Nat}{s:ByteArray}{k n:Nat}{v:Value}{xs:List Value} (I:fj W B b s k n v xs) (hp:bz s s.size k=(k,true)) (ho:dX s k=(4,k+1,0)) :
  Calls Tryz.prog 69 #[.pointer (some ⟨b,0,none⟩)] W (gJ B b s k n xs W):=by
 have H:=aj (Fh I hp ho 4 1 rfl rfl)
 clear I hp ho
 go_enter Tryz.func69,Tryz.ntmps69
 go_wp2_with fail
 refine (aa H).mono ?_
 intro e w hq
 obtain ⟨c,rfl⟩:=hq.ret
 have Hq:=aj hq
 clear hq
 go_wp2
 go_ret
 exact aa Hq
theorem Bu {W:World}{B b:Nat}{s:ByteArray}{k n:Nat}{v:Value}{xs:List Value} (I:fj W B b s k n v xs) (h:lk (ax s k)) :
  Calls Tryz.prog 61 #[.pointer (some ⟨b,0,none⟩)] W (gJ B b s k n xs W):=by
 refine (DG I.sc I.more I.size).mono ?_
 rintro e w ⟨rfl,rfl⟩
 have abg:=I.more
 refine ⟨(BX.refl _ _ _).set _ _,.inl ⟨rfl,k+1,[],v,I.sc.at _,?_,by omega,by omega,I.room,?_⟩⟩
 ·show World.ownsRow _ B 44 3 v n (xs++[])
  rw[List.append_nil]
  obtain ⟨h1,⟨rfl,h0⟩|⟨g,c,cur,rfl,h2,h3,h4⟩⟩:=I.row
  ·exact ⟨h1,.inl ⟨rfl,h0⟩⟩
  ·refine ⟨h1,.inr ⟨g,c,cur,rfl,h2,(heap_setCell_other _ ⟨b,1,none⟩ g _ ?_).trans h3,h4⟩⟩
   have:=I.lo
   show ¬g=b
   omega
 ·rw[oC]
  exact zm n (vt I.more h)
theorem zo {W:World}{B b:Nat}{s:ByteArray}{k n:Nat}{v:Value}{xs:List Value} (I:fj W B b s k n v xs) (hp:bz s s.size k=(k,true)) (ho:dX s k=(1,dS s k,0)) :
  Calls Tryz.prog 62 #[.pointer (some ⟨b,0,none⟩)] W (gJ B b s k n xs W):=by
 have hr:=kY I.sc (Nat.le_of_lt I.more)
 have HI:=aj I
 have hs:=I.size
 have hk:=I.more
 have Hp:=aj hp
 have Ho:=aj ho
 clear I hp ho
 go_enter Tryz.func62,Tryz.ntmps62
 go_wp2_with fail
 refine hr.mono ?_
 rintro e w1 ⟨rfl,n1,rfl⟩
 clear hr
 have Wk:=zv (W.drewN n1) (s.extract k s.size) (by rw[ByteArray.size_extract];omega)
 go_wp2_with fail
 refine Wk.mono ?_
 rintro e w2 ⟨m,rfl,dT,hn,h1,h2⟩
 obtain rfl:W.drewN n1=w2:=dT.symm
 clear dT Wk
 obtain ⟨eE,hle⟩:=wK (by omega) hn h1 h2
 have bC:Below W.heap.size W (W.drewN n1):=below_drewN (zE _ _) n1
 have ht:=Fh ((aa HI).up bC) (aa Hp) (by rw[aa Ho,eE]) 1 (m:Int) rfl rfl
 have Ht:=aj ht
 have jU:=aj bC
 clear ht hn h1 h2 hle eE bC
 go_wp2_with fail
 refine (aa Ht).mono ?_
 intro e w hq
 obtain ⟨c,rfl⟩:=hq.ret
 have Hq:=aj (hq.from (aa jU) (aa HI).hi)
 clear hq
 go_wp2
 go_ret
 exact aa Hq
theorem Br {W:World}{B b:Nat}{s:ByteArray}{k n:Nat}{v:Value}{xs:List Value} (hE:fZ W) (I:fj W B b s k n v xs) (hp:bz s s.size k=(k,true)) (ho:dX s k=if wv (aG (s.extract k (dS s k)))=none then (0,0,41) else (2,dS s k,0)) :
  Calls Tryz.prog 65 #[.pointer (some ⟨b,0,none⟩)] W (gJ B b s k n xs W):=by
 have hr:=kY I.sc (Nat.le_of_lt I.more)
 have HI:=aj I
 have HE:=aj hE
 have hs:=I.size
 have hk:=I.more
 have Hp:=aj hp
 have Ho:=aj ho
 clear I hp ho hE
 go_enter Tryz.func65,Tryz.ntmps65
 go_wp2_with fail
 refine hr.mono ?_
 rintro e w1 ⟨rfl,n1,rfl⟩
 clear hr
 have Wk:=zv (W.drewN n1) (s.extract k s.size) (by rw[ByteArray.size_extract];omega)
 go_wp2_with fail
 refine Wk.mono ?_
 rintro e w2 ⟨m,rfl,dT,hn,h1,h2⟩
 obtain rfl:W.drewN n1=w2:=dT.symm
 clear dT Wk
 obtain ⟨eE,hle⟩:=wK (by omega) hn h1 h2
 have bC:Below W.heap.size W (W.drewN n1):=below_drewN (zE _ _) n1
 have mT:=kY ((aa HI).up bC).sc (Nat.le_of_lt hk)
 have bR:(s.extract k s.size).size=s.size-k:=by rw[ByteArray.size_extract];omega
 have jU:=aj bC
 have HeE:=aj eE
 have hex:=rA s k m hle
 have m0:(0:Int)≤(m:Int):=zH _
 have m1:(m:Int)≤((s.size-k:Nat):Int):=by omega
 clear hn h1 h2 bC eE
 go_wp2_with fail
 refine mT.mono ?_
 rintro e w3 ⟨rfl,n2,rfl⟩
 clear mT
 have bH:Below W.heap.size W (W.drewN (n1+n2)):=below_drewN (zE _ _) (n1+n2)
 have Sr:=x7 ((aa HE).up bH) (s.extract k (k+m)) (by rw[ByteArray.size_extract];omega)
 have y9:=aj bH
 clear bH
 go_wp2_with fail
 refine Sr.mono ?_
 rintro e w4 ⟨eR,wn,wc,rfl,hu⟩
 have jf:Below W.heap.size W w4:=(aa y9).trans eR
 rcases hu with ⟨u,Qv,rfl,rfl⟩|⟨Qv,rfl,rfl⟩
 ·have ht:=Fh ((aa HI).up jf) (aa Hp) (m:=m) (t:=2) (by rw[aa Ho,aa HeE,Qv];rfl) 2 (m:Int) rfl rfl
  have Ht:=aj ht
  have TW:=aj jf
  clear ht eR jf Qv Sr
  go_wp2_with fail
  refine (aa Ht).mono ?_
  intro e w hq
  obtain ⟨c,rfl⟩:=hq.ret
  have Hq:=aj (hq.from (aa TW) (aa HI).hi)
  clear hq
  go_wp2
  go_ret
  exact aa Hq
 ·have ht:=Fi ((aa HI).up jf) (aa Hp) (c:=41) (by rw[aa Ho,aa HeE,Qv];rfl) (by decide) 2 (m:Int) 41 rfl
  have Ht:=aj ht
  have TW:=aj jf
  clear ht eR jf Qv Sr
  go_wp2_with fail
  refine (aa Ht).mono ?_
  intro e w hq
  obtain ⟨c,rfl⟩:=hq.ret
  have Hq:=aj (hq.from (aa TW) (aa HI).hi)
  clear hq
  go_wp2
  go_ret
  exact aa Hq
end Go.Proofs.YtmlphohdcejniaaGreatDoor
namespace Go.Proofs
open Go.Shelf
def Tryz.xE:Go.Shelf.Ren:=⟨fun|143=>84|219=>109|217=>88|225=>131|224=>132|267=>133|266=>117|314=>165|n=>n,fun|9=>9|3=>3|4=>4|5=>5|46=>173|146=>206|51=>176|n=>n,fun|1=>1|n=>n⟩
theorem Tryz.Im:Go.Proofs.Lays.n143 Tryz.prog Tryz.xE:={
 mixed:=by kernel_rfl
 f143:=Tryz.func84.trans (congrArg some (by kernel_rfl))
 f217:=Tryz.func88.trans (congrArg some (by kernel_rfl))
 f219:=Tryz.func109.trans (congrArg some (by kernel_rfl))
 f224:=Tryz.func132.trans (congrArg some (by kernel_rfl))
 f225:=Tryz.func131.trans (congrArg some (by kernel_rfl))
 f266:=Tryz.func117.trans (congrArg some (by kernel_rfl))
 f267:=Tryz.func133.trans (congrArg some (by kernel_rfl))
 f314:=Tryz.func165.trans (congrArg some (by kernel_rfl))
 t3:=Tryz.underlying3
 a3:=Tryz.isAgg3
 z3:=Tryz.sizeOf3
 v3:=Tryz.zeroValue3
 t4:=Tryz.underlying4
 a4:=Tryz.isAgg4
 z4:=Tryz.sizeOf4
 v4:=Tryz.zeroValue4
 t5:=Tryz.underlying5
 a5:=Tryz.isAgg5
 z5:=Tryz.sizeOf5
 v5:=Tryz.zeroValue5
 t9:=Tryz.underlying9
 a9:=Tryz.isAgg9
 z9:=Tryz.sizeOf9
 v9:=Tryz.zeroValue9
 t46:=Tryz.underlying173
 a46:=Tryz.isAgg173
 z46:=Tryz.sizeOf173
 v46:=Tryz.zeroValue173
 t51:=Tryz.underlying176
 a51:=Tryz.isAgg176
 z51:=Tryz.sizeOf176
 v51:=Tryz.zeroValue176
 t146:=Tryz.underlying206
 a146:=Tryz.isAgg206
 z146:=Tryz.sizeOf206
 v146:=Tryz.zeroValue206
 g1:=by kernel_rfl }
end Go.Proofs
namespace Go.Proofs.YtmlphohdcejniaaGreatDoor
open Go.RowKit
attribute [local go_sem ↓] Go.wp_at_zero Go.wp_at_succ
theorem rh {s:ByteArray}{k j:Nat} (h:k+j<s.size):cP (s.extract k s.size) j=cP s (k+j):=by
 unfold cP
 rw[kc h,yM,List.drop_drop]
theorem JH {s:ByteArray}{q k:Nat} (hk:k≤s.size):∀(m j:Nat),s.size-(k+j)≤m→fR (s.extract k s.size) q j=(fR s q (k+j)).map fun r=>(r.1,r.2-k):=by
 have hz:(s.extract k s.size).size=s.size-k:=by rw[ByteArray.size_extract];omega
 intro m
 induction m with
 |zero=>intro j hj;rw[lF (by omega),lF (by omega)];rfl
 |succ m ih =>
  intro j hj
  by_cases hl:k+j<s.size
  ·by_cases hq:ax s (k+j)=q
   ·rw[gP (by omega) ((kc hl).trans hq),gP hl hq]
    show some (([]:List Nat),j+1)=some ([],k+j+1-k)
    congr 2
    omega
   ·have Jn:¬ax (s.extract k s.size) j=q:=by rw[kc hl];exact hq
    cases hp:cP s (k+j) with
    |none=>rw[qh (by omega) Jn ((rh hl).trans hp),qh hl hq hp];rfl
    |some t =>
     obtain ⟨b,n⟩:=t
     obtain ⟨p1,p2,p3⟩:=gH hp hl
     rw[ku (by omega) Jn ((rh hl).trans hp),ku hl hq hp,ih (j+n) (by omega),Option.map_map,Option.map_map,show k+(j+n)=k+j+n by omega]
     rfl
  ·rw[lF (by omega),lF hl];rfl
theorem Bq {W:World}{B b:Nat}{s:ByteArray}{k n:Nat}{v:Value}{xs:List Value} (hE:fZ W) (I:fj W B b s k n v xs) (hp:bz s s.size k=(k,true)) (hq:ax s k=39∨ax s k=34) (ho:dX s k=match fR s (ax s k) (k+1) with|none=>(0,0,42)|some (_,e)=>(3,e,0)) :
  Calls Tryz.prog 67 #[.pointer (some ⟨b,0,none⟩)] W (gJ B b s k n xs W):=by
 have hr:=kY I.sc (Nat.le_of_lt I.more)
 have HI:=aj I
 have HE:=aj hE
 have hs:=I.size
 have hk:=I.more
 have hz:(s.extract k s.size).size=s.size-k:=by rw[ByteArray.size_extract];omega
 have hL:kJ (s.extract k s.size)=(fR s (ax s k) (k+1)).map fun r=>(r.1,r.2-k):=by
  have dN:ax (s.extract k s.size) 0=ax s k:=kc (by omega)
  rw[yd (by omega) (by rw[dN];exact hq),dN]
  exact JH (by omega) _ 1 (zD _)
 have HL:=aj hL
 have Hp:=aj hp
 have Ho:=aj ho
 clear I hp ho hE hq hL
 go_enter Tryz.func67,Tryz.ntmps67
 go_wp2_with fail
 refine hr.mono ?_
 rintro e w1 ⟨rfl,n1,rfl⟩
 clear hr
 have bC:Below W.heap.size W (W.drewN n1):=below_drewN (zE _ _) n1
 have hu:=qW ((aa HE).up bC) (s.extract k s.size) (by omega)
 have jU:=aj bC
 clear bC
 go_wp2_with fail
 refine hu.mono ?_
 rintro e w2 ⟨bH,⟨h1,rfl⟩|⟨l,m,v',h1,rfl,hv⟩⟩
 ·have jf:Below W.heap.size W w2:=(aa jU).trans bH
  have hn:fR s (ax s k) (k+1)=none:=Option.map_eq_none_iff.1 ((aa HL).symm.trans h1)
  have ht:=Fi ((aa HI).up jf) (aa Hp) (c:=42) (by rw[aa Ho,hn]) (by decide) 0 0 42 rfl
  have Ht:=aj ht
  have TW:=aj jf
  clear ht bH jf hn h1 hu
  go_wp2_with fail
  refine (aa Ht).mono ?_
  intro e w hq
  obtain ⟨c,rfl⟩:=hq.ret
  have Hq:=aj (hq.from (aa TW) (aa HI).hi)
  clear hq
  go_wp2
  go_ret
  exact aa Hq
 ·have jf:Below W.heap.size W w2:=(aa jU).trans bH
  obtain ⟨⟨l',e'⟩,h2,h3⟩:=Option.map_eq_some_iff.1 ((aa HL).symm.trans h1)
  obtain ⟨rfl,rfl⟩:=Prod.mk.inj h3
  obtain ⟨u1,u2,_⟩:=x9 _ (k+1) l' e' (zD _) h2
  obtain ⟨m,hm⟩:∃m,e'=k+m:=⟨e'-k,by omega⟩
  have UB:(l',e').2-k=m:=by show e'-k=m;omega
  rw[UB]
  have ht:=Fh ((aa HI).up jf) (aa Hp) (m:=m) (t:=3) (by rw[aa Ho,h2,hm]) 3 (m:Int) rfl rfl
  have Ht:=aj ht
  have TW:=aj jf
  have m0:((m:Int)==0)=false:=beq_eq_false_iff_ne.2 (by omega)
  obtain ⟨va,vn,vc,rfl⟩:=hv.shape
  clear ht bH jf h1 h2 h3 hm UB u1 u2 hu hv
  go_wp2_with fail
  refine (aa Ht).mono ?_
  intro e w hq
  obtain ⟨c,rfl⟩:=hq.ret
  have Hq:=aj (hq.from (aa TW) (aa HI).hi)
  clear hq
  go_wp2
  go_ret
  exact aa Hq
theorem Ir (W:World) (s sub:ByteArray) (m:Int) (hs:s.size<4294967281) (hm:W.cell? ⟨1,0,none⟩=some (.int .i64 m)) :
  Calls Tryz.prog 84 #[.string s,.string sub] W fun e w=>e=.returned (.int .i64 (Lib.index s.data.toList sub.data.toList))∧w=W:=Any.strings_Index Tryz.Im s sub m W hs hm
def gD (W:World):Prop:=1<W.heap.size∧∃m:Int,W.cell? ⟨1,0,none⟩=some (.int .i64 m)
theorem gD.up {W w:World} (h:gD W) {B:Nat} (hb:Below B W w) (hB:1<B):gD w:=by
 obtain ⟨h1,m,h2⟩:=h
 exact ⟨Nat.lt_of_lt_of_le h1 hb.size,m,(hb.cell (p:=⟨1,0,none⟩) hB).trans h2⟩
theorem S7 {W:World}{B b:Nat}{s:ByteArray}{k n:Nat}{v:Value}{xs:List Value} (I:fj W B b s k n v xs) {W1:World} (hb:Below W.heap.size W W1) (k':Nat) (z:Value) (hz:z=.int .i64 (k':Int)) (h1:k<k') (h2:k'≤s.size) (hp:bz s s.size k=bz s s.size k'):gJ B b s k n xs W (.returned (.int .i64 0)) (W1.setCell ⟨b,1,none⟩ z):=by
 subst hz
 have J:=I.up hb
 refine ⟨(BX.of hb I.hi).set _ _,.inl ⟨rfl,k',[],v,J.sc.at _,?_,h1,h2,I.room,?_⟩⟩
 ·show World.ownsRow _ B 44 3 v n (xs++[])
  rw[List.append_nil]
  obtain ⟨h1,⟨rfl,h0⟩|⟨g,c,cur,rfl,h2,h3,h4⟩⟩:=J.row
  ·exact ⟨h1,.inl ⟨rfl,h0⟩⟩
  ·refine ⟨h1,.inr ⟨g,c,cur,rfl,h2,(heap_setCell_other _ ⟨b,1,none⟩ g _ ?_).trans h3,h4⟩⟩
   have:=I.lo
   show ¬g=b
   omega
 ·rw[oC]
  exact zm n hp
theorem xx {W:World}{B b:Nat}{s:ByteArray}{k n:Nat}{v:Value}{xs:List Value} (hM:gD W) (I:fj W B b s k n v xs) (hc:ax s k=47) (ho:(dX s k).2.2=40) :
  Calls Tryz.prog 70 #[.pointer (some ⟨b,0,none⟩)] W (gJ B b s k n xs W):=by
 have hr:=kY I.sc (Nat.le_of_lt I.more)
 have HI:=aj I
 have hs:=I.size
 have hk:=I.more
 have hz:(s.extract k s.size).size=s.size-k:=by rw[ByteArray.size_extract];omega
 have hP1:=FA (s:=s) (k:=k) (by omega) 47 47
 have Zs:=FA (s:=s) (k:=k) (by omega) 47 42
 have YV:(47:UInt8).toNat=47:=rfl
 have n42:(42:UInt8).toNat=42:=rfl
 rw[YV] at hP1 Zs
 rw[n42] at Zs
 have P7:=aj hP1
 have E5:=aj Zs
 have HM:=aj hM
 have Ho:=aj ho
 have Hc:=aj hc
 clear I hP1 Zs hM ho hc YV n42
 go_enter Tryz.func70,Tryz.ntmps70
 go_wp2_with fail
 refine hr.mono ?_
 rintro e w1 ⟨rfl,n1,rfl⟩
 clear hr
 have bC:Below W.heap.size W (W.drewN n1):=below_drewN (zE _ _) n1
 have J:=(aa HI).up bC
 have jU:=aj bC
 have HJ:=aj J
 have c1:=J.sc.c1
 have f1:=iC 1 J.sc
 clear bC J
 go_wp2_with fail
 refine (fY _ _ _).mono ?_
 rintro e w2 ⟨rfl,hw⟩
 obtain rfl:W.drewN n1=w2:=hw.symm
 clear hw
 by_cases q1:AR (s.extract k s.size) ⟨#[47,47]⟩
 ·rw[G5 q1]
  obtain ⟨a1,a2,a3⟩:=(aa P7).1 q1
  have hi:=Sp (s:=s) (k:=k) (by omega)
  have cc:=zV hk a2
  have hle:=zW s k (by omega)
  have M':=aj (yv a1 a2 a3)
  clear a2 a3 q1
  obtain ⟨N,hN⟩:∃N,jB s k=N:=⟨_,rfl⟩
  rw[hN] at hi cc hle M'
  clear hN
  have Hi:=aj hi
  clear hi
  go_wp2_with fail
  refine (gd _ _ _).mono ?_
  rintro e w3 ⟨rfl,hw⟩
  obtain rfl:W.drewN n1=w3:=hw.symm
  clear hw
  have e10:(10:Int).toNat.toUInt8=(10:UInt8):=rfl
  rw[e10,aa Hi]
  clear e10 Hi
  by_cases NL:N<s.size
  ·rw[if_pos NL]
   obtain ⟨d,rfl⟩:∃d,N=k+d:=⟨N-k,by omega⟩
   have hd:k+d-k=d:=by omega
   rw[hd]
   clear hd
   go_wp2
   go_ret
   exact S7 (aa HI) (aa jU) (k+d) _ (by go_num) cc hle (aa M')
  ·rw[if_neg NL]
   obtain rfl:N=s.size:=by omega
   clear NL
   have ek:(k:Int)+((s.size-k:Nat):Int)=(s.size:Int):=by omega
   go_wp2
   go_ret
   exact S7 (aa HI) (aa jU) s.size _ (by first|go_num|(congr 1;omega)) cc hle (aa M')
 ·rw[DO q1]
  go_wp2_with fail
  refine (fY _ _ _).mono ?_
  rintro e w3 ⟨rfl,hw⟩
  obtain rfl:W.drewN n1=w3:=hw.symm
  clear hw
  by_cases q2:AR (s.extract k s.size) ⟨#[47,42]⟩
  ·rw[G5 q2]
   obtain ⟨a1,a2,a3⟩:=(aa E5).1 q2
   have hi:=Lc (s:=s) (k:=k+2) (by omega)
   have O4:=jP s (k+2)
   have UZ:=aj (fun h=>yu a1 a2 a3 h)
   have XT:=aj (fun h=>DR a1 a2 a3 h)
   clear a2 a3 q1 q2
   obtain ⟨N,hN⟩:∃N,dk s (k+2)=N:=⟨_,rfl⟩
   rw[hN] at hi O4 UZ XT
   clear hN
   have Hi:=aj hi
   clear hi
   have fF:(s.extract k s.size).extract 2 (s.size-k)=s.extract (k+2) s.size:=by
    apply ByteArray.ext
    apply Array.ext'
    rw[Lib.extract_data,Lib.extract_data,Lib.extract_data,List.drop_take,List.take_take,List.drop_drop]
    congr 1
    omega
   have z2:(2:Int)≤((s.size-k:Nat):Int):=by omega
   have oK:(s.extract (k+2) s.size).size=s.size-(k+2):=by rw[ByteArray.size_extract];omega
   obtain ⟨_,mm,UA⟩:=aa HM
   have WB:(W.drewN n1).cell? ⟨1,0,none⟩=some (.int .i64 mm):=UA
   have Hmm:=aj WB
   clear UA WB
   go_wp2_with fail
   refine (Ir _ _ _ mm (by omega) (aa Hmm)).mono ?_
   rintro e w3 ⟨rfl,hw⟩
   obtain rfl:W.drewN n1=w3:=hw.symm
   clear hw
   have e4:(⟨#[42,47]⟩:ByteArray).data.toList=[42,47]:=rfl
   rw[e4,aa Hi]
   clear e4 Hi
   by_cases NL:N+2≤s.size
   ·rw[if_pos NL]
    obtain ⟨d,rfl⟩:∃d,N=k+2+d:=⟨N-(k+2),by omega⟩
    have hd:k+2+d-(k+2)=d:=by omega
    rw[hd]
    clear hd
    go_wp2
    go_ret
    exact S7 (aa HI) (aa jU) (k+2+d+2) _ (by first|go_num|(congr 1;omega)) (by omega) NL (aa UZ NL)
   ·rw[if_neg NL]
    have Hq:Hid (gJ B b s k n xs W (.returned (.int .i64 43)) (W.drewN n1)):=⟨BX.of (aa jU) (aa HI).hi,.inr ⟨43,v,by decide,rfl,(aa HJ).sc,J0 (aa XT NL)⟩⟩
    clear NL UZ XT
    go_wp2
    go_ret
    exact aa Hq
  ·rw[DO q2]
   have hp:bz s s.size k=(k,true):=yt hk (by rw[aa Hc];decide) (mt (aa P7).2 q1) (mt (aa E5).2 q2)
   have ht:=Fi (aa HJ) hp (aa Ho) (by decide) 0 0 40 rfl
   have Ht:=aj ht
   clear ht hp q1 q2
   go_wp2_with fail
   refine (aa Ht).mono ?_
   intro e w hq
   obtain ⟨c,rfl⟩:=hq.ret
   have Hq:=aj (hq.from (aa jU) (aa HI).hi)
   clear hq
   go_wp2
   go_ret
   exact aa Hq
def written:Array Value→Nat→List Value→Array Value
 |cs,_,[]=>cs
 |cs,o,v::vs=>written (cs.setIfInBounds o v) (o+1) vs
theorem kM {t:TypeId}{g:Nat}:∀(vs:List Value) (o:Nat) (w:World) (cs:Array Value),w.heap[g]?=some (.cells cs t (0,0))→(w.setCells g o vs).heap[g]?=some (.cells (written cs o vs) t (0,0))∧(∀b,b≠g→(w.setCells g o vs).heap[b]?=w.heap[b]?)
 |[],_,_,_,h=>⟨h,fun _ _=>rfl⟩
 |v::vs,o,w,cs,h=>by
  obtain ⟨h1,h2⟩:=kM vs (o+1) (w.setCell ⟨g,o,none⟩ v) (cs.setIfInBounds o v) (heap_setCell_same w g o cs t v h)
  exact ⟨h1,fun b hb=>(h2 b hb).trans (heap_setCell_other w _ b v hb)⟩
theorem ke {n g:Nat}{A:World} (hg:n≤g):∀(vs:List Value) (o:Nat) (w:World),Below n A w→Below n A (w.setCells g o vs)
 |[],_,_,h=>h
 |v::vs,o,_,h=>ke hg vs (o+1) _ (h.setCell (p:=⟨g,o,none⟩) hg v)
theorem nO {g:Nat}:∀(vs:List Value) (o:Nat) (w:World),(w.setCells g o vs).heap.size=w.heap.size
 |[],_,_=>rfl
 |_::vs,o,w=>(nO vs (o+1) _).trans (World.size_setCell w _ _)
def bU:List Value:=[.func (.func 59) #[] #[],.func (.func 61) #[] #[],.func (.func 62) #[] #[],.func (.func 65) #[] #[],.func (.func 67) #[] #[],.func (.func 69) #[] #[],.func (.func 70) #[] #[]]
theorem Tryz.qB:(Tryz.prog.info? 103).map (·.size)=some bU.toArray.size:=by kernel_rfl
theorem Fm:bU.toArray.all (·.oneCell')=true:=by decide +kernel
def DF:Nat→Nat
 |0=>59|1=>61|2=>62|3=>65|4=>67|5=>69|_=>70
theorem GN:∀c,c<7→bU[c]?=some (.func (.func (DF c)) #[] #[])
 |0,_=>rfl|1,_=>rfl|2,_=>rfl|3,_=>rfl|4,_=>rfl|5,_=>rfl|6,_=>rfl
 |_+7,h=>by omega
theorem J3 (W:World):(W.alloc (.cells #[.nilFunc,.nilFunc,.nilFunc,.nilFunc,.nilFunc,.nilFunc,.nilFunc] 103)).there W.heap.size 0 bU.toArray.size:=by
 intro j hj
 have hb:=heap_alloc_new W (.cells #[.nilFunc,.nilFunc,.nilFunc,.nilFunc,.nilFunc,.nilFunc,.nilFunc] 103)
 refine ⟨?_,frozen_of_row _ _ _ _ _ hb⟩
 rw[Nat.zero_add,cell_of_row _ _ _ _ _ _ hb]
 have OX:j<7:=hj
 simp
 omega
theorem GQ (W:World):Calls Tryz.prog 46 #[] W fun e W'=>e=.returned (.agg bU.toArray)∧Below W.heap.size W W':=by
 have Wa:=J3 W
 go_enter Tryz.func46,Tryz.ntmps46
 go_wp2_with (refine wpList_store_mid rfl 103 (.tmp 0) (.tmp 1) rfl W.heap.size 0 bU.toArray rfl rfl Wa Tryz.qB Fm ?_)
 obtain ⟨nE,dT⟩:=kM (t:=103) (g:=W.heap.size) bU 0 (W.alloc (.cells #[.nilFunc,.nilFunc,.nilFunc,.nilFunc,.nilFunc,.nilFunc,.nilFunc] 103)) #[.nilFunc,.nilFunc,.nilFunc,.nilFunc,.nilFunc,.nilFunc,.nilFunc] (heap_alloc_new W _)
 have ll:written #[.nilFunc,.nilFunc,.nilFunc,.nilFunc,.nilFunc,.nilFunc,.nilFunc] 0 bU=bU.toArray:=by rfl
 rw[ll] at nE
 have hB:Below W.heap.size W ((W.alloc (.cells #[.nilFunc,.nilFunc,.nilFunc,.nilFunc,.nilFunc,.nilFunc,.nilFunc] 103)).setCells W.heap.size 0 bU):=ke (zD _) _ _ _ ((zE _ W).alloc (zD _) _)
 refine bodyPost_ret (v:=.agg bU.toArray) (results_cell_row rfl _ _ W.heap.size 103 bU.toArray (0,0) _ rfl nE Tryz.underlying103 rfl Tryz.qB) rfl ⟨rfl,hB⟩
def P4 (W:World) (tb:Nat):Prop:=W.heap[tb]?=some (.cells bU.toArray 103 (0,0))
theorem P4.cell {W:World}{tb:Nat} (h:P4 W tb) (c:Nat) (hc:c<7):W.cell? ⟨tb,c,none⟩=some (.func (.func (DF c)) #[] #[]):=by
 rw[cell_of_row _ _ _ _ _ _ h,←GN c hc]
 simp
theorem LN (W:World):P4 ((W.alloc (.cells #[.nilFunc,.nilFunc,.nilFunc,.nilFunc,.nilFunc,.nilFunc,.nilFunc] 103)).setCells W.heap.size 0 bU) W.heap.size:=by
 have:=(kM (t:=103) (g:=W.heap.size) bU 0 _ _ (heap_alloc_new W (.cells #[.nilFunc,.nilFunc,.nilFunc,.nilFunc,.nilFunc,.nilFunc,.nilFunc] 103))).1
 rw[show written #[.nilFunc,.nilFunc,.nilFunc,.nilFunc,.nilFunc,.nilFunc,.nilFunc] 0 bU=bU.toArray from rfl] at this
 exact this
structure Tab (A:Array Value):Prop where
 eq:A=bU.toArray
 info:(Tryz.prog.info? 103).map (·.size)=some A.size
 one:A.all (·.oneCell')=true
theorem Of:Tab bU.toArray:=⟨rfl,Tryz.qB,Fm⟩
theorem TC (c:Nat):cls c<7:=by
 unfold cls
 repeat' split
 all_goals decide
theorem fI {f:FuncId}{F:Func} (h:Tryz.prog.funcs[f]?=some F) (hn:¬F.name = "runtime.NumGoroutine") (hb:F.body.isSome=true) (w:World) (vs:Array Value):(callFunc f vs).run Tryz.prog w=.ok (.enter f vs) w:=by
 obtain ⟨c,hc⟩:=zG hb
 simp[callFunc,h,hn,hc]
theorem IZ (w:World) (vs:Array Value):∀c,c<7→(callFunc (DF c) vs).run Tryz.prog w=.ok (.enter (DF c) vs) w
 |0,_=>by exact fI Tryz.func59 (by decide +kernel) (by kernel_rfl) w vs
 |1,_=>by exact fI Tryz.func61 (by decide +kernel) (by kernel_rfl) w vs
 |2,_=>by exact fI Tryz.func62 (by decide +kernel) (by kernel_rfl) w vs
 |3,_=>by exact fI Tryz.func65 (by decide +kernel) (by kernel_rfl) w vs
 |4,_=>by exact fI Tryz.func67 (by decide +kernel) (by kernel_rfl) w vs
 |5,_=>by exact fI Tryz.func69 (by decide +kernel) (by kernel_rfl) w vs
 |6,_=>by exact fI Tryz.func70 (by decide +kernel) (by kernel_rfl) w vs
 |_+7,h=>by omega
theorem I1 (w:World) (vs:Array Value):(callFunc 47 vs).run Tryz.prog w=.ok (.enter 47 vs) w:=by exact fI Tryz.func47 (by decide +kernel) (by kernel_rfl) w vs
theorem GS {W:World}{B b:Nat}{s:ByteArray}{k n:Nat}{v:Value}{xs:List Value} (hE:fZ W) (hM:gD W) (I:fj W B b s k n v xs) :
  Calls Tryz.prog (DF (cls (ax s k))) #[.pointer (some ⟨b,0,none⟩)] W (gJ B b s k n xs W):=by
 have hm:=I.more
 have dY:dX s k=dX s k:=rfl
 conv at dY=>rhs;unfold dX
 rcases IT (ax s k) with ⟨e,h1⟩|⟨n1,⟨e,h2⟩|⟨n2,⟨e,h3⟩|⟨n3,⟨e,h4⟩|⟨n4,⟨e,h5⟩|⟨n5,⟨e,h6⟩|⟨e,n6⟩⟩⟩⟩⟩⟩
 ·rw[e]
  exact Bu I h1
 ·rw[e]
  rw[if_pos h2] at dY
  exact zo I (im hm n1 (fun q=>by rw[q] at h2;exact absurd h2 (by decide))) dY
 ·rw[e]
  rw[if_neg n2,if_pos h3] at dY
  exact Br hE I (im hm n1 (fun q=>by rw[q] at h3;exact absurd h3 (by decide))) dY
 ·rw[e]
  rw[if_neg n2,if_neg n3,if_pos h4] at dY
  exact Bq hE I (im hm n1 (fun q=>by omega)) h4 dY
 ·rw[e]
  rw[if_neg n2,if_neg n3,if_neg n4,if_pos h5] at dY
  exact DH I (im hm n1 (fun q=>by rw[q] at h5;exact absurd h5 (by decide))) dY
 ·rw[e]
  rw[if_neg n2,if_neg n3,if_neg n4,if_neg n5] at dY
  exact xx hM I h6 (by rw[dY])
 ·rw[e]
  rw[if_neg n2,if_neg n3,if_neg n4,if_neg n5] at dY
  exact DI I (im hm n1 n6) (by rw[dY])
end Go.Proofs.YtmlphohdcejniaaGreatDoor

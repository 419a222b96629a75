import Derived.Test.YtmlphohdcejniaaGreatDoorM06
import Derived.Shelf.Strings.Search3
import Derived.Deep.MidRow
import Derived.Laws.Rows
set_option maxHeartbeats 2000000
set_option maxRecDepth 100000
namespace Go.Proofs.YtmlphohdcejniaaGreatDoor
open Go.RowKit
attribute [local go_sem ↓] Go.wp_at_zero Go.wp_at_succ
theorem Ki (c:Nat):(cls c=1∧l7 c)∨(¬l7 c∧((cls c=2∧isLet c)∨(¬isLet c∧((cls c=3∧bZ c)∨(¬bZ c∧((cls c=4∧(c=39∨c=34))∨(¬(c=39∨c=34)∧((cls c=5∧jl c)∨(¬jl c∧((cls c=6∧c=47)∨(cls c=0∧¬c=47)))))))))))  := by
 unfold cls l7
 by_cases h1:(9≤c∧c≤13)∨c=32
 ·exact .inl ⟨by rw[if_pos h1],h1⟩
 ·refine .inr ⟨h1,?_⟩
  rw[if_neg h1]
  by_cases h2:isLet c
  ·exact .inl ⟨by rw[if_pos h2],h2⟩
  ·refine .inr ⟨h2,?_⟩
   rw[if_neg h2]
   by_cases h3:bZ c
   ·exact .inl ⟨by rw[if_pos h3],h3⟩
   ·refine .inr ⟨h3,?_⟩
    rw[if_neg h3]
    by_cases h4:c=39∨c=34
    ·exact .inl ⟨by rw[if_pos h4],h4⟩
    ·refine .inr ⟨h4,?_⟩
     rw[if_neg h4]
     by_cases h5:jl c
     ·exact .inl ⟨by rw[if_pos h5],h5⟩
     ·refine .inr ⟨h5,?_⟩
      rw[if_neg h5]
      by_cases h6:c=47
      ·exact .inl ⟨by rw[if_pos h6],h6⟩
      ·exact .inr ⟨by rw[if_neg h6],h6⟩
theorem GQ {W:World}{B b:Nat}{s:ByteArray}{k n c:Nat}{v:Value}{xs:List Value} (I:fI W B b s k n v xs) (hp:bA s s.size k=(k,true)) (ho:(cJ s k).2.2=c) (hc:c≠0) (kind m c':Int) (Nr:c'=(c:Int)) :
  Calls Tryz.prog 60 #[.pointer (some ⟨b,0,none⟩),.int .i64 kind,.int .i64 m,.int .i64 c'] W (ig B b s k n xs W):=by
 subst Nr
 exact Jb I hp ho hc kind m
theorem GP {W:World}{B b:Nat}{s:ByteArray}{k n m t:Nat}{v:Value}{xs:List Value} (I:fI W B b s k n v xs) (hp:bA s s.size k=(k,true)) (ho:cJ s k=(t,k+m,0)) (t' m':Int) (ht:t'=(t:Int)) (hm:m'=(m:Int)) :
  Calls Tryz.prog 60 #[.pointer (some ⟨b,0,none⟩),.int .i64 t',.int .i64 m',.int .i64 0] W (ig B b s k n xs W):=by
 subst ht hm
 exact Ly I hp ho
theorem Fe {W:World}{B b:Nat}{s:ByteArray}{k n:Nat}{v:Value}{xs:List Value} (I:fI W B b s k n v xs) (hp:bA s s.size k=(k,true)) (ho:(cJ s k).2.2=40) :
  Calls Tryz.prog 59 #[.pointer (some ⟨b,0,none⟩)] W (ig B b s k n xs W):=by
 have H:=aj (GQ I hp ho (by decide) 0 0 40 rfl)
 clear I hp ho
 go_enter Tryz.func59,Tryz.ntmps59
 go_wp2_with fail
 refine (aa H).mono ?_
 intro e w hq
 obtain ⟨c,rfl⟩:=hq.ret
 have Hq:=aj hq
 clear hq
 go_wp2
 go_ret
 exact aa Hq
theorem Fc {W:World}{B b:Nat}{s:ByteArray}{k n:Nat}{v:Value}{xs:List Value} (I:fI W B b s k n v xs) (hp:bA s s.size k=(k,true)) (ho:cJ s k=(4,k+1,0)) :
  Calls Tryz.prog 69 #[.pointer (some ⟨b,0,none⟩)] W (ig B b s k n xs W):=by
 have H:=aj (GP I hp ho 4 1 rfl rfl)
 clear I hp ho
 go_enter Tryz.func69,Tryz.ntmps69
 go_wp2_with fail
 refine (aa H).mono ?_
 intro e w hq
 obtain ⟨c,rfl⟩:=hq.ret
 have Hq:=aj hq
 clear hq
 go_wp2
 go_ret
 exact aa Hq
theorem C5 {W:World}{B b:Nat}{s:ByteArray}{k n:Nat}{v:Value}{xs:List Value} (I:fI W B b s k n v xs) (h:l7 (ax s k)) :
  Calls Tryz.prog 61 #[.pointer (some ⟨b,0,none⟩)] W (ig B b s k n xs W):=by
 refine (Fb I.sc I.more I.size).mono ?_
 rintro e w ⟨rfl,rfl⟩
 have abL:=I.more
 refine ⟨(BX.refl _ _ _).set _ _,.inl ⟨rfl,k+1,[],v,I.sc.at _,?_,by omega,by omega,I.room,?_⟩⟩
 ·show World.ownsRow _ B 44 3 v n (xs++[])
  rw[List.append_nil]
  obtain ⟨h1,⟨rfl,h0⟩|⟨g,c,cur,rfl,h2,h3,h4⟩⟩:=I.row
  ·exact ⟨h1,.inl ⟨rfl,h0⟩⟩
  ·refine ⟨h1,.inr ⟨g,c,cur,rfl,h2,(heap_setCell_other _ ⟨b,1,none⟩ g _ ?_).trans h3,h4⟩⟩
   have:=I.lo
   show ¬g=b
   omega
 ·rw[pH]
  exact A8 n (xa I.more h)
theorem A' {W:World}{B b:Nat}{s:ByteArray}{k n:Nat}{v:Value}{xs:List Value} (I:fI W B b s k n v xs) (hp:bA s s.size k=(k,true)) (ho:cJ s k=(1,ew s k,0)) :
  Calls Tryz.prog 62 #[.pointer (some ⟨b,0,none⟩)] W (ig B b s k n xs W):=by
 have hr:=lS I.sc (Nat.le_of_lt I.more)
 have HI:=aj I
 have hs:=I.size
 have hk:=I.more
 have Hp:=aj hp
 have Ho:=aj ho
 clear I hp ho
 go_enter Tryz.func62,Tryz.ntmps62
 go_wp2_with fail
 refine hr.mono ?_
 rintro e w1 ⟨rfl,n1,rfl⟩
 clear hr
 have Yq:=Bf (W.drewN n1) (s.extract k s.size) (by rw[ByteArray.size_extract];omega)
 go_wp2_with fail
 refine Yq.mono ?_
 rintro e w2 ⟨m,rfl,ez,hn,h1,h2⟩
 obtain rfl:W.drewN n1=w2:=ez.symm
 clear ez Yq
 obtain ⟨eE,hle⟩:=x9 (by omega) hn h1 h2
 have bF:Below W.heap.size W (W.drewN n1):=below_drewN (zE _ _) n1
 have ht:=GP ((aa HI).up bF) (aa Hp) (by rw[aa Ho,eE]) 1 (m:Int) rfl rfl
 have Ht:=aj ht
 have kv:=aj bF
 clear ht hn h1 h2 hle eE bF
 go_wp2_with fail
 refine (aa Ht).mono ?_
 intro e w hq
 obtain ⟨c,rfl⟩:=hq.ret
 have Hq:=aj (hq.from (aa kv) (aa HI).hi)
 clear hq
 go_wp2
 go_ret
 exact aa Hq
theorem C4 {W:World}{B b:Nat}{s:ByteArray}{k n:Nat}{v:Value}{xs:List Value} (hE:gM W) (I:fI W B b s k n v xs) (hp:bA s s.size k=(k,true)) (ho:cJ s k=if wv (aH (s.extract k (ew s k)))=none then (0,0,41) else (2,ew s k,0)) :
  Calls Tryz.prog 65 #[.pointer (some ⟨b,0,none⟩)] W (ig B b s k n xs W):=by
 have hr:=lS I.sc (Nat.le_of_lt I.more)
 have HI:=aj I
 have HE:=aj hE
 have hs:=I.size
 have hk:=I.more
 have Hp:=aj hp
 have Ho:=aj ho
 clear I hp ho hE
 go_enter Tryz.func65,Tryz.ntmps65
 go_wp2_with fail
 refine hr.mono ?_
 rintro e w1 ⟨rfl,n1,rfl⟩
 clear hr
 have Yq:=Bf (W.drewN n1) (s.extract k s.size) (by rw[ByteArray.size_extract];omega)
 go_wp2_with fail
 refine Yq.mono ?_
 rintro e w2 ⟨m,rfl,ez,hn,h1,h2⟩
 obtain rfl:W.drewN n1=w2:=ez.symm
 clear ez Yq
 obtain ⟨eE,hle⟩:=x9 (by omega) hn h1 h2
 have bF:Below W.heap.size W (W.drewN n1):=below_drewN (zE _ _) n1
 have nM:=lS ((aa HI).up bF).sc (Nat.le_of_lt hk)
 have bU:(s.extract k s.size).size=s.size-k:=by rw[ByteArray.size_extract];omega
 have kv:=aj bF
 have HeE:=aj eE
 have hex:=sQ s k m hle
 have m0:(0:Int)≤(m:Int):=zH _
 have m1:(m:Int)≤((s.size-k:Nat):Int):=by omega
 clear hn h1 h2 bF eE
 go_wp2_with fail
 refine nM.mono ?_
 rintro e w3 ⟨rfl,n2,rfl⟩
 clear nM
 have bJ:Below W.heap.size W (W.drewN (n1+n2)):=below_drewN (zE _ _) (n1+n2)
 have Uq:=zx ((aa HE).up bJ) (s.extract k (k+m)) (by rw[ByteArray.size_extract];omega)
 have AW:=aj bJ
 clear bJ
 go_wp2_with fail
 refine Uq.mono ?_
 rintro e w4 ⟨eV,wn,wc,rfl,hu⟩
 have kq:Below W.heap.size W w4:=(aa AW).trans eV
 rcases hu with ⟨u,jR,rfl,rfl⟩|⟨jR,rfl,rfl⟩
 ·have ht:=GP ((aa HI).up kq) (aa Hp) (m:=m) (t:=2) (by rw[aa Ho,aa HeE,jR];rfl) 2 (m:Int) rfl rfl
  have Ht:=aj ht
  have VX:=aj kq
  clear ht eV kq jR Uq
  go_wp2_with fail
  refine (aa Ht).mono ?_
  intro e w hq
  obtain ⟨c,rfl⟩:=hq.ret
  have Hq:=aj (hq.from (aa VX) (aa HI).hi)
  clear hq
  go_wp2
  go_ret
  exact aa Hq
 ·have ht:=GQ ((aa HI).up kq) (aa Hp) (c:=41) (by rw[aa Ho,aa HeE,jR];rfl) (by decide) 2 (m:Int) 41 rfl
  have Ht:=aj ht
  have VX:=aj kq
  clear ht eV kq jR Uq
  go_wp2_with fail
  refine (aa Ht).mono ?_
  intro e w hq
  obtain ⟨c,rfl⟩:=hq.ret
  have Hq:=aj (hq.from (aa VX) (aa HI).hi)
  clear hq
  go_wp2
  go_ret
  exact aa Hq
end Go.Proofs.YtmlphohdcejniaaGreatDoor
namespace Go.Proofs
open Go.Shelf
def Tryz.yY:Go.Shelf.Ren:=⟨fun|143=>84|219=>109|217=>88|225=>131|224=>132|267=>133|266=>117|314=>165|n=>n,fun|9=>9|3=>3|4=>4|5=>5|46=>173|146=>206|51=>176|n=>n,fun|1=>1|n=>n⟩
theorem Tryz.JQ:Go.Proofs.Lays.n143 Tryz.prog Tryz.yY:={
 mixed:=by kernel_rfl
 f143:=Tryz.func84.trans (congrArg some (by kernel_rfl))
 f217:=Tryz.func88.trans (congrArg some (by kernel_rfl))
 f219:=Tryz.func109.trans (congrArg some (by kernel_rfl))
 f224:=Tryz.func132.trans (congrArg some (by kernel_rfl))
 f225:=Tryz.func131.trans (congrArg some (by kernel_rfl))
 f266:=Tryz.func117.trans (congrArg some (by kernel_rfl))
 f267:=Tryz.func133.trans (congrArg some (by kernel_rfl))
 f314:=Tryz.func165.trans (congrArg some (by kernel_rfl))
 t3:=Tryz.underlying3
 a3:=Tryz.isAgg3
 z3:=Tryz.sizeOf3
 v3:=Tryz.zeroValue3
 t4:=Tryz.underlying4
 a4:=Tryz.isAgg4
 z4:=Tryz.sizeOf4
 v4:=Tryz.zeroValue4
 t5:=Tryz.underlying5
 a5:=Tryz.isAgg5
 z5:=Tryz.sizeOf5
 v5:=Tryz.zeroValue5
 t9:=Tryz.underlying9
 a9:=Tryz.isAgg9
 z9:=Tryz.sizeOf9
 v9:=Tryz.zeroValue9
 t46:=Tryz.underlying173
 a46:=Tryz.isAgg173
 z46:=Tryz.sizeOf173
 v46:=Tryz.zeroValue173
 t51:=Tryz.underlying176
 a51:=Tryz.isAgg176
 z51:=Tryz.sizeOf176
 v51:=Tryz.zeroValue176
 t146:=Tryz.underlying206
 a146:=Tryz.isAgg206
 z146:=Tryz.sizeOf206
 v146:=Tryz.zeroValue206
 g1:=by kernel_rfl }
end Go.Proofs
namespace Go.Proofs.YtmlphohdcejniaaGreatDoor
open Go.RowKit
attribute [local go_sem ↓] Go.wp_at_zero Go.wp_at_succ
theorem sJ {s:ByteArray}{k j:Nat} (h:k+j<s.size):db (s.extract k s.size) j=db s (k+j):=by
 unfold db
 rw[kP h,AG,List.drop_drop]
theorem K7 {s:ByteArray}{q k:Nat} (hk:k≤s.size):∀(m j:Nat),s.size-(k+j)≤m→gC (s.extract k s.size) q j=(gC s q (k+j)).map fun r=>(r.1,r.2-k):=by
 have hz:(s.extract k s.size).size=s.size-k:=by rw[ByteArray.size_extract];omega
 intro m
 induction m with
 |zero=>intro j hj;rw[mA (by omega),mA (by omega)];rfl
 |succ m ih =>
  intro j hj
  by_cases hl:k+j<s.size
  ·by_cases hq:ax s (k+j)=q
   ·rw[ir (by omega) ((kP hl).trans hq),ir hl hq]
    show some (([]:List Nat),j+1)=some ([],k+j+1-k)
    congr 2
    omega
   ·have KL:¬ax (s.extract k s.size) j=q:=by rw[kP hl];exact hq
    cases hp:db s (k+j) with
    |none=>rw[rz (by omega) KL ((sJ hl).trans hp),rz hl hq hp];rfl
    |some t =>
     obtain ⟨b,n⟩:=t
     obtain ⟨p1,p2,p3⟩:=hU hp hl
     rw[lf (by omega) KL ((sJ hl).trans hp),lf hl hq hp,ih (j+n) (by omega),Option.map_map,Option.map_map,show k+(j+n)=k+j+n by omega]
     rfl
  ·rw[mA (by omega),mA hl];rfl
theorem C3 {W:World}{B b:Nat}{s:ByteArray}{k n:Nat}{v:Value}{xs:List Value} (hE:gM W) (I:fI W B b s k n v xs) (hp:bA s s.size k=(k,true)) (hq:ax s k=39∨ax s k=34) (ho:cJ s k=match gC s (ax s k) (k+1) with|none=>(0,0,42)|some (_,e)=>(3,e,0)) :
  Calls Tryz.prog 67 #[.pointer (some ⟨b,0,none⟩)] W (ig B b s k n xs W):=by
 have hr:=lS I.sc (Nat.le_of_lt I.more)
 have HI:=aj I
 have HE:=aj hE
 have hs:=I.size
 have hk:=I.more
 have hz:(s.extract k s.size).size=s.size-k:=by rw[ByteArray.size_extract];omega
 have hL:lD (s.extract k s.size)=(gC s (ax s k) (k+1)).map fun r=>(r.1,r.2-k):=by
  have dZ:ax (s.extract k s.size) 0=ax s k:=kP (by omega)
  rw[zS (by omega) (by rw[dZ];exact hq),dZ]
  exact K7 (by omega) _ 1 (zD _)
 have HL:=aj hL
 have Hp:=aj hp
 have Ho:=aj ho
 clear I hp ho hE hq hL
 go_enter Tryz.func67,Tryz.ntmps67
 go_wp2_with fail
 refine hr.mono ?_
 rintro e w1 ⟨rfl,n1,rfl⟩
 clear hr
 have bF:Below W.heap.size W (W.drewN n1):=below_drewN (zE _ _) n1
 have hu:=sD ((aa HE).up bF) (s.extract k s.size) (by omega)
 have kv:=aj bF
 clear bF
 go_wp2_with fail
 refine hu.mono ?_
 rintro e w2 ⟨bJ,⟨h1,rfl⟩|⟨l,m,v',h1,rfl,hv⟩⟩
 ·have kq:Below W.heap.size W w2:=(aa kv).trans bJ
  have hn:gC s (ax s k) (k+1)=none:=Option.map_eq_none_iff.1 ((aa HL).symm.trans h1)
  have ht:=GQ ((aa HI).up kq) (aa Hp) (c:=42) (by rw[aa Ho,hn]) (by decide) 0 0 42 rfl
  have Ht:=aj ht
  have VX:=aj kq
  clear ht bJ kq hn h1 hu
  go_wp2_with fail
  refine (aa Ht).mono ?_
  intro e w hq
  obtain ⟨c,rfl⟩:=hq.ret
  have Hq:=aj (hq.from (aa VX) (aa HI).hi)
  clear hq
  go_wp2
  go_ret
  exact aa Hq
 ·have kq:Below W.heap.size W w2:=(aa kv).trans bJ
  obtain ⟨⟨l',e'⟩,h2,h3⟩:=Option.map_eq_some_iff.1 ((aa HL).symm.trans h1)
  obtain ⟨rfl,rfl⟩:=Prod.mk.inj h3
  obtain ⟨u1,u2,_⟩:=zQ _ (k+1) l' e' (zD _) h2
  obtain ⟨m,hm⟩:∃m,e'=k+m:=⟨e'-k,by omega⟩
  have QP:(l',e').2-k=m:=by show e'-k=m;omega
  rw[QP]
  have ht:=GP ((aa HI).up kq) (aa Hp) (m:=m) (t:=3) (by rw[aa Ho,h2,hm]) 3 (m:Int) rfl rfl
  have Ht:=aj ht
  have VX:=aj kq
  have m0:((m:Int)==0)=false:=beq_eq_false_iff_ne.2 (by omega)
  obtain ⟨va,vn,vc,rfl⟩:=hv.shape
  clear ht bJ kq h1 h2 h3 hm QP u1 u2 hu hv
  go_wp2_with fail
  refine (aa Ht).mono ?_
  intro e w hq
  obtain ⟨c,rfl⟩:=hq.ret
  have Hq:=aj (hq.from (aa VX) (aa HI).hi)
  clear hq
  go_wp2
  go_ret
  exact aa Hq
theorem JT (W:World) (s sub:ByteArray) (m:Int) (hs:s.size<4294967281) (hm:W.cell? ⟨1,0,none⟩=some (.int .i64 m)) :
  Calls Tryz.prog 84 #[.string s,.string sub] W fun e w=>e=.returned (.int .i64 (Lib.index s.data.toList sub.data.toList))∧w=W:=Any.strings_Index Tryz.JQ s sub m W hs hm
def gY (W:World):Prop:=1<W.heap.size∧∃m:Int,W.cell? ⟨1,0,none⟩=some (.int .i64 m)
theorem gY.up {W w:World} (h:gY W) {B:Nat} (hb:Below B W w) (hB:1<B):gY w:=by
 obtain ⟨h1,m,h2⟩:=h
 exact ⟨Nat.lt_of_lt_of_le h1 hb.size,m,(hb.cell (p:=⟨1,0,none⟩) hB).trans h2⟩
theorem U8 {W:World}{B b:Nat}{s:ByteArray}{k n:Nat}{v:Value}{xs:List Value} (I:fI W B b s k n v xs) {W1:World} (hb:Below W.heap.size W W1) (k':Nat) (z:Value) (hz:z=.int .i64 (k':Int)) (h1:k<k') (h2:k'≤s.size) (hp:bA s s.size k=bA s s.size k'):ig B b s k n xs W (.returned (.int .i64 0)) (W1.setCell ⟨b,1,none⟩ z):=by
 subst hz
 have J:=I.up hb
 refine ⟨(BX.of hb I.hi).set _ _,.inl ⟨rfl,k',[],v,J.sc.at _,?_,h1,h2,I.room,?_⟩⟩
 ·show World.ownsRow _ B 44 3 v n (xs++[])
  rw[List.append_nil]
  obtain ⟨h1,⟨rfl,h0⟩|⟨g,c,cur,rfl,h2,h3,h4⟩⟩:=J.row
  ·exact ⟨h1,.inl ⟨rfl,h0⟩⟩
  ·refine ⟨h1,.inr ⟨g,c,cur,rfl,h2,(heap_setCell_other _ ⟨b,1,none⟩ g _ ?_).trans h3,h4⟩⟩
   have:=I.lo
   show ¬g=b
   omega
 ·rw[pH]
  exact A8 n hp
theorem yS {W:World}{B b:Nat}{s:ByteArray}{k n:Nat}{v:Value}{xs:List Value} (hM:gY W) (I:fI W B b s k n v xs) (hc:ax s k=47) (ho:(cJ s k).2.2=40) :
  Calls Tryz.prog 70 #[.pointer (some ⟨b,0,none⟩)] W (ig B b s k n xs W):=by
 have hr:=lS I.sc (Nat.le_of_lt I.more)
 have HI:=aj I
 have hs:=I.size
 have hk:=I.more
 have hz:(s.extract k s.size).size=s.size-k:=by rw[ByteArray.size_extract];omega
 have hP1:=G5 (s:=s) (k:=k) (by omega) 47 47
 have hP2:=G5 (s:=s) (k:=k) (by omega) 47 42
 have n47:(47:UInt8).toNat=47:=rfl
 have n42:(42:UInt8).toNat=42:=rfl
 rw[n47] at hP1 hP2
 rw[n42] at hP2
 have Se:=aj hP1
 have GC:=aj hP2
 have HM:=aj hM
 have Ho:=aj ho
 have Hc:=aj hc
 clear I hP1 hP2 hM ho hc n47 n42
 go_enter Tryz.func70,Tryz.ntmps70
 go_wp2_with fail
 refine hr.mono ?_
 rintro e w1 ⟨rfl,n1,rfl⟩
 clear hr
 have bF:Below W.heap.size W (W.drewN n1):=below_drewN (zE _ _) n1
 have J:=(aa HI).up bF
 have kv:=aj bF
 have HJ:=aj J
 have c1:=J.sc.c1
 have f1:=jc 1 J.sc
 clear bF J
 go_wp2_with fail
 refine (gK _ _ _).mono ?_
 rintro e w2 ⟨rfl,hw⟩
 obtain rfl:W.drewN n1=w2:=hw.symm
 clear hw
 by_cases q1:Cn (s.extract k s.size) ⟨#[47,47]⟩
 ·rw[Ju q1]
  obtain ⟨a1,a2,a3⟩:=(aa Se).1 q1
  have hi:=Un (s:=s) (k:=k) (by omega)
  have cw:=Bq hk a2
  have hle:=Br s k (by omega)
  have OZ:=aj (Ag a1 a2 a3)
  clear a2 a3 q1
  obtain ⟨N,hN⟩:∃N,j6 s k=N:=⟨_,rfl⟩
  rw[hN] at hi cw hle OZ
  clear hN
  have Hi:=aj hi
  clear hi
  go_wp2_with fail
  refine (gN _ _ _).mono ?_
  rintro e w3 ⟨rfl,hw⟩
  obtain rfl:W.drewN n1=w3:=hw.symm
  clear hw
  have e10:(10:Int).toNat.toUInt8=(10:UInt8):=rfl
  rw[e10,aa Hi]
  clear e10 Hi
  by_cases Pw:N<s.size
  ·rw[if_pos Pw]
   obtain ⟨d,rfl⟩:∃d,N=k+d:=⟨N-k,by omega⟩
   have hd:k+d-k=d:=by omega
   rw[hd]
   clear hd
   go_wp2
   go_ret
   exact U8 (aa HI) (aa kv) (k+d) _ (by go_num) cw hle (aa OZ)
  ·rw[if_neg Pw]
   obtain rfl:N=s.size:=by omega
   clear Pw
   have ek:(k:Int)+((s.size-k:Nat):Int)=(s.size:Int):=by omega
   go_wp2
   go_ret
   exact U8 (aa HI) (aa kv) s.size _ (by first|go_num|(congr 1;omega)) cw hle (aa OZ)
 ·rw[Fo q1]
  go_wp2_with fail
  refine (gK _ _ _).mono ?_
  rintro e w3 ⟨rfl,hw⟩
  obtain rfl:W.drewN n1=w3:=hw.symm
  clear hw
  by_cases q2:Cn (s.extract k s.size) ⟨#[47,42]⟩
  ·rw[Ju q2]
   obtain ⟨a1,a2,a3⟩:=(aa GC).1 q2
   have hi:=MW (s:=s) (k:=k+2) (by omega)
   have QW:=kp s (k+2)
   have WW:=aj (fun h=>Af a1 a2 a3 h)
   have ZT:=aj (fun h=>Fs a1 a2 a3 h)
   clear a2 a3 q1 q2
   obtain ⟨N,hN⟩:∃N,dD s (k+2)=N:=⟨_,rfl⟩
   rw[hN] at hi QW WW ZT
   clear hN
   have Hi:=aj hi
   clear hi
   have fO:(s.extract k s.size).extract 2 (s.size-k)=s.extract (k+2) s.size:=by
    apply ByteArray.ext
    apply Array.ext'
    rw[Lib.extract_data,Lib.extract_data,Lib.extract_data,List.drop_take,List.take_take,List.drop_drop]
    congr 1
    omega
   have z2:(2:Int)≤((s.size-k:Nat):Int):=by omega
   have pQ:(s.extract (k+2) s.size).size=s.size-(k+2):=by rw[ByteArray.size_extract];omega
   obtain ⟨_,mm,Wx⟩:=aa HM
   have YH:(W.drewN n1).cell? ⟨1,0,none⟩=some (.int .i64 mm):=Wx
   have Hmm:=aj YH
   clear Wx YH
   go_wp2_with fail
   refine (JT _ _ _ mm (by omega) (aa Hmm)).mono ?_
   rintro e w3 ⟨rfl,hw⟩
   obtain rfl:W.drewN n1=w3:=hw.symm
   clear hw
   have e4:(⟨#[42,47]⟩:ByteArray).data.toList=[42,47]:=rfl
   rw[e4,aa Hi]
   clear e4 Hi
   by_cases Pw:N+2≤s.size
   ·rw[if_pos Pw]
    obtain ⟨d,rfl⟩:∃d,N=k+2+d:=⟨N-(k+2),by omega⟩
    have hd:k+2+d-(k+2)=d:=by omega
    rw[hd]
    clear hd
    go_wp2
    go_ret
    exact U8 (aa HI) (aa kv) (k+2+d+2) _ (by first|go_num|(congr 1;omega)) (by omega) Pw (aa WW Pw)
   ·rw[if_neg Pw]
    have Hq:Hid (ig B b s k n xs W (.returned (.int .i64 43)) (W.drewN n1)):=⟨BX.of (aa kv) (aa HI).hi,.inr ⟨43,v,by decide,rfl,(aa HJ).sc,Lt (aa ZT Pw)⟩⟩
    clear Pw WW ZT
    go_wp2
    go_ret
    exact aa Hq
  ·rw[Fo q2]
   have hp:bA s s.size k=(k,true):=Ae hk (by rw[aa Hc];decide) (mt (aa Se).2 q1) (mt (aa GC).2 q2)
   have ht:=GQ (aa HJ) hp (aa Ho) (by decide) 0 0 40 rfl
   have Ht:=aj ht
   clear ht hp q1 q2
   go_wp2_with fail
   refine (aa Ht).mono ?_
   intro e w hq
   obtain ⟨c,rfl⟩:=hq.ret
   have Hq:=aj (hq.from (aa kv) (aa HI).hi)
   clear hq
   go_wp2
   go_ret
   exact aa Hq
def written:Array Value→Nat→List Value→Array Value
 |cs,_,[]=>cs
 |cs,o,v::vs=>written (cs.setIfInBounds o v) (o+1) vs
theorem lH {t:TypeId}{g:Nat}:∀(vs:List Value) (o:Nat) (w:World) (cs:Array Value),w.heap[g]?=some (.cells cs t (0,0))→(w.setCells g o vs).heap[g]?=some (.cells (written cs o vs) t (0,0))∧(∀b,b≠g→(w.setCells g o vs).heap[b]?=w.heap[b]?)
 |[],_,_,_,h=>⟨h,fun _ _=>rfl⟩
 |v::vs,o,w,cs,h=>by
  obtain ⟨h1,h2⟩:=lH vs (o+1) (w.setCell ⟨g,o,none⟩ v) (cs.setIfInBounds o v) (heap_setCell_same w g o cs t v h)
  exact ⟨h1,fun b hb=>(h2 b hb).trans (heap_setCell_other w _ b v hb)⟩
theorem kQ {n g:Nat}{A:World} (hg:n≤g):∀(vs:List Value) (o:Nat) (w:World),Below n A w→Below n A (w.setCells g o vs)
 |[],_,_,h=>h
 |v::vs,o,_,h=>kQ hg vs (o+1) _ (h.setCell (p:=⟨g,o,none⟩) hg v)
theorem oS {g:Nat}:∀(vs:List Value) (o:Nat) (w:World),(w.setCells g o vs).heap.size=w.heap.size
 |[],_,_=>rfl
 |_::vs,o,w=>(oS vs (o+1) _).trans (World.size_setCell w _ _)
def bY:List Value:=[.func (.func 59) #[] #[],.func (.func 61) #[] #[],.func (.func 62) #[] #[],.func (.func 65) #[] #[],.func (.func 67) #[] #[],.func (.func 69) #[] #[],.func (.func 70) #[] #[]]
theorem Tryz.rR:(Tryz.prog.info? 103).map (·.size)=some bY.toArray.size:=by kernel_rfl
theorem GU:bY.toArray.all (·.oneCell')=true:=by decide +kernel
def Fa:Nat→Nat
 |0=>59|1=>61|2=>62|3=>65|4=>67|5=>69|_=>70
theorem Jc:∀c,c<7→bY[c]?=some (.func (.func (Fa c)) #[] #[])
 |0,_=>rfl|1,_=>rfl|2,_=>rfl|3,_=>rfl|4,_=>rfl|5,_=>rfl|6,_=>rfl
 |_+7,h=>by omega
theorem Lw (W:World):(W.alloc (.cells #[.nilFunc,.nilFunc,.nilFunc,.nilFunc,.nilFunc,.nilFunc,.nilFunc] 103)).there W.heap.size 0 bY.toArray.size:=by
 intro j hj
 have hb:=heap_alloc_new W (.cells #[.nilFunc,.nilFunc,.nilFunc,.nilFunc,.nilFunc,.nilFunc,.nilFunc] 103)
 refine ⟨?_,frozen_of_row _ _ _ _ _ hb⟩
 rw[Nat.zero_add,cell_of_row _ _ _ _ _ _ hb]
 have QR:j<7:=hj
 simp
 omega
theorem Jf (W:World):Calls Tryz.prog 46 #[] W fun e W'=>e=.returned (.agg bY.toArray)∧Below W.heap.size W W':=by
 have Yg:=Lw W
 go_enter Tryz.func46,Tryz.ntmps46
 go_wp2_with (refine wpList_store_mid rfl 103 (.tmp 0) (.tmp 1) rfl W.heap.size 0 bY.toArray rfl rfl Yg Tryz.rR GU ?_)
 obtain ⟨oI,ez⟩:=lH (t:=103) (g:=W.heap.size) bY 0 (W.alloc (.cells #[.nilFunc,.nilFunc,.nilFunc,.nilFunc,.nilFunc,.nilFunc,.nilFunc] 103)) #[.nilFunc,.nilFunc,.nilFunc,.nilFunc,.nilFunc,.nilFunc,.nilFunc] (heap_alloc_new W _)
 have l8:written #[.nilFunc,.nilFunc,.nilFunc,.nilFunc,.nilFunc,.nilFunc,.nilFunc] 0 bY=bY.toArray:=by rfl
 rw[l8] at oI
 have hB:Below W.heap.size W ((W.alloc (.cells #[.nilFunc,.nilFunc,.nilFunc,.nilFunc,.nilFunc,.nilFunc,.nilFunc] 103)).setCells W.heap.size 0 bY):=kQ (zD _) _ _ _ ((zE _ W).alloc (zD _) _)
 refine bodyPost_ret (v:=.agg bY.toArray) (results_cell_row rfl _ _ W.heap.size 103 bY.toArray (0,0) _ rfl oI Tryz.underlying103 rfl Tryz.rR) rfl ⟨rfl,hB⟩
def Sb (W:World) (tb:Nat):Prop:=W.heap[tb]?=some (.cells bY.toArray 103 (0,0))
theorem Sb.cell {W:World}{tb:Nat} (h:Sb W tb) (c:Nat) (hc:c<7):W.cell? ⟨tb,c,none⟩=some (.func (.func (Fa c)) #[] #[]):=by
 rw[cell_of_row _ _ _ _ _ _ h,←Jc c hc]
 simp
theorem Ny (W:World):Sb ((W.alloc (.cells #[.nilFunc,.nilFunc,.nilFunc,.nilFunc,.nilFunc,.nilFunc,.nilFunc] 103)).setCells W.heap.size 0 bY) W.heap.size:=by
 have:=(lH (t:=103) (g:=W.heap.size) bY 0 _ _ (heap_alloc_new W (.cells #[.nilFunc,.nilFunc,.nilFunc,.nilFunc,.nilFunc,.nilFunc,.nilFunc] 103))).1
 rw[show written #[.nilFunc,.nilFunc,.nilFunc,.nilFunc,.nilFunc,.nilFunc,.nilFunc] 0 bY=bY.toArray from rfl] at this
 exact this
structure Tab (A:Array Value):Prop where
 eq:A=bY.toArray
 info:(Tryz.prog.info? 103).map (·.size)=some A.size
 one:A.all (·.oneCell')=true
theorem P2:Tab bY.toArray:=⟨rfl,Tryz.rR,GU⟩
theorem VA (c:Nat):cls c<7:=by
 unfold cls
 repeat' split
 all_goals decide
theorem fZ {f:FuncId}{F:Func} (h:Tryz.prog.funcs[f]?=some F) (hn:¬F.name = "runtime.NumGoroutine") (hb:F.body.isSome=true) (w:World) (vs:Array Value):(callFunc f vs).run Tryz.prog w=.ok (.enter f vs) w:=by
 obtain ⟨c,hc⟩:=zG hb
 simp[callFunc,h,hn,hc]
theorem Ko (w:World) (vs:Array Value):∀c,c<7→(callFunc (Fa c) vs).run Tryz.prog w=.ok (.enter (Fa c) vs) w
 |0,_=>by exact fZ Tryz.func59 (by decide +kernel) (by kernel_rfl) w vs
 |1,_=>by exact fZ Tryz.func61 (by decide +kernel) (by kernel_rfl) w vs
 |2,_=>by exact fZ Tryz.func62 (by decide +kernel) (by kernel_rfl) w vs
 |3,_=>by exact fZ Tryz.func65 (by decide +kernel) (by kernel_rfl) w vs
 |4,_=>by exact fZ Tryz.func67 (by decide +kernel) (by kernel_rfl) w vs
 |5,_=>by exact fZ Tryz.func69 (by decide +kernel) (by kernel_rfl) w vs
 |6,_=>by exact fZ Tryz.func70 (by decide +kernel) (by kernel_rfl) w vs
 |_+7,h=>by omega
theorem Kq (w:World) (vs:Array Value):(callFunc 47 vs).run Tryz.prog w=.ok (.enter 47 vs) w:=by exact fZ Tryz.func47 (by decide +kernel) (by kernel_rfl) w vs
theorem Jh {W:World}{B b:Nat}{s:ByteArray}{k n:Nat}{v:Value}{xs:List Value} (hE:gM W) (hM:gY W) (I:fI W B b s k n v xs) :
  Calls Tryz.prog (Fa (cls (ax s k))) #[.pointer (some ⟨b,0,none⟩)] W (ig B b s k n xs W):=by
 have hm:=I.more
 have eH:cJ s k=cJ s k:=rfl
 conv at eH=>rhs;unfold cJ
 rcases Ki (ax s k) with ⟨e,h1⟩|⟨n1,⟨e,h2⟩|⟨n2,⟨e,h3⟩|⟨n3,⟨e,h4⟩|⟨n4,⟨e,h5⟩|⟨n5,⟨e,h6⟩|⟨e,n6⟩⟩⟩⟩⟩⟩
 ·rw[e]
  exact C5 I h1
 ·rw[e]
  rw[if_pos h2] at eH
  exact A' I (iP hm n1 (fun q=>by rw[q] at h2;exact absurd h2 (by decide))) eH
 ·rw[e]
  rw[if_neg n2,if_pos h3] at eH
  exact C4 hE I (iP hm n1 (fun q=>by rw[q] at h3;exact absurd h3 (by decide))) eH
 ·rw[e]
  rw[if_neg n2,if_neg n3,if_pos h4] at eH
  exact C3 hE I (iP hm n1 (fun q=>by omega)) h4 eH
 ·rw[e]
  rw[if_neg n2,if_neg n3,if_neg n4,if_pos h5] at eH
  exact Fc I (iP hm n1 (fun q=>by rw[q] at h5;exact absurd h5 (by decide))) eH
 ·rw[e]
  rw[if_neg n2,if_neg n3,if_neg n4,if_neg n5] at eH
  exact yS hM I h6 (by rw[eH])
 ·rw[e]
  rw[if_neg n2,if_neg n3,if_neg n4,if_neg n5] at eH
  exact Fe I (iP hm n1 n6) (by rw[eH])
end Go.Proofs.YtmlphohdcejniaaGreatDoor

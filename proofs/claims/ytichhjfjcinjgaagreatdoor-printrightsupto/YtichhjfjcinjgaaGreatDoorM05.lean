import Derived.Test.YtichhjfjcinjgaaGreatDoorM04
import Derived.Laws.EntriesVeiled
import Derived.Shelf.Strconv.Itoa3
set_option maxHeartbeats 1000000
set_option maxRecDepth 100000
namespace Go.Proofs.YtichhjfjcinjgaaGreatDoor
open Go.RowKit
attribute [local go_sem ↓] Go.wp_at_zero Go.wp_at_succ
theorem I4 (W:World) (a b c d:Array Value) (ta tb tc td:TypeId):((((W.alloc (.cells a ta)).alloc (.cells b tb)).alloc (.cells c tc)).alloc (.cells d td)).heap[W.heap.size]?=some (.cells a ta (0,0))∧((((W.alloc (.cells a ta)).alloc (.cells b tb)).alloc (.cells c tc)).alloc (.cells d td)).heap[W.heap.size+1]?=some (.cells b tb (0,0))∧((((W.alloc (.cells a ta)).alloc (.cells b tb)).alloc (.cells c tc)).alloc (.cells d td)).heap[W.heap.size+1+1]?=some (.cells c tc (0,0))∧((((W.alloc (.cells a ta)).alloc (.cells b tb)).alloc (.cells c tc)).alloc (.cells d td)).heap[W.heap.size+1+1+1]?=some (.cells d td (0,0))∧Below W.heap.size W ((((W.alloc (.cells a ta)).alloc (.cells b tb)).alloc (.cells c tc)).alloc (.cells d td)):=by
 have s1:=zJ W (.cells a ta)
 have s2:=zJ (W.alloc (.cells a ta)) (.cells b tb)
 have s3:=zJ ((W.alloc (.cells a ta)).alloc (.cells b tb)) (.cells c tc)
 have n2:=aJ (W.alloc (.cells a ta)) (.cells b tb)
 have n3:=aJ ((W.alloc (.cells a ta)).alloc (.cells b tb)) (.cells c tc)
 have n4:=aJ (((W.alloc (.cells a ta)).alloc (.cells b tb)).alloc (.cells c tc)) (.cells d td)
 rw[s1] at n2
 rw[s2,s1] at n3
 rw[s3,s2,s1] at n4
 refine ⟨?_,?_,?_,n4,((((zE _ _).alloc (zD _) _).alloc (by omega) _).alloc (by omega) _).alloc (by omega) _⟩
 ·rw[Below.heap_alloc _ _ _ (by omega),Below.heap_alloc _ _ _ (by omega),Below.heap_alloc _ _ _ (by omega)]
  exact aJ _ _
 ·rw[Below.heap_alloc _ _ _ (by omega),Below.heap_alloc _ _ _ (by omega)]
  exact n2
 ·rw[Below.heap_alloc _ _ _ (by omega)]
  exact n3
theorem mS {w:World}{b:Nat}{cs:Array Value}{t:TypeId} (h:w.heap[b]?=some (.cells cs t (0,0))) (j:Nat):w.frozen? ⟨b,j,none⟩=false:=by simp[World.frozen?,h]
theorem Ce (W:World):Calls Tryz.prog 43 #[] W fun e w=>e=.returned (.agg #[bZ (W.heap.size+1) (W.heap.size+1+1),cy (W.heap.size+1+1+1) (W.heap.size+1+1),cq (W.heap.size+1)])∧Pn W (W.heap.size+1) (W.heap.size+1) (W.heap.size+1+1) [] 0 w∧w.heap[W.heap.size+1+1+1]?=some (.cells #[bZ (W.heap.size+1) (W.heap.size+1+1)] 85 (0,0)):=by
 obtain ⟨k0,k1,k2,k3,hb⟩:=I4 W #[.nilFunc,.nilFunc,.nilFunc] #[.pointer none,.slice none 0 0] #[.int .i64 0] #[.nilFunc] 89 125 3 85
 obtain ⟨X,hX⟩:∃X,((((W.alloc (.cells #[.nilFunc,.nilFunc,.nilFunc] 89)).alloc (.cells #[.pointer none,.slice none 0 0] 125)).alloc (.cells #[.int .i64 0] 3)).alloc (.cells #[.nilFunc] 85))=X:=⟨_,rfl⟩
 rw[hX] at k0 k1 k2 k3 hb
 have c3:X.cell? ⟨W.heap.size+1+1+1,0,none⟩=some .nilFunc:=cell_of_row _ _ _ _ _ _ k3
 have f3:=mS k3 0
 obtain ⟨r3,g3⟩:=bh (j:=0) k3 (bZ (W.heap.size+1) (W.heap.size+1+1))
 have m0:=(g3.block _ (zA k0).1 (by simp;omega)).trans k0
 have m1:=(g3.block _ (zA k1).1 (by simp)).trans k1
 have m2:=(g3.block _ (zA k2).1 (by simp)).trans k2
 have bd:=cn hb g3 hb.size (fun k e=>by obtain rfl:=zC e;omega)
 unfold bZ at r3 m0 m1 m2 bd
 unfold bZ cy cq
 obtain ⟨Y,hY⟩:∃Y,X.setCell ⟨W.heap.size+1+1+1,0,none⟩ (.func (.func 80) #[] #[.pointer (some ⟨W.heap.size+1,0,none⟩),.pointer (some ⟨W.heap.size+1+1,0,none⟩)])=Y:=⟨_,rfl⟩
 rw[hY] at r3 m0 m1 m2 bd
 have l3:Y.cell? ⟨W.heap.size+1+1+1,0,none⟩=some (.func (.func 80) #[] #[.pointer (some ⟨W.heap.size+1,0,none⟩),.pointer (some ⟨W.heap.size+1+1,0,none⟩)]):=cell_of_row _ _ _ _ _ _ r3
 have p0:Y.cell? ⟨W.heap.size,0,none⟩=some .nilFunc:=cell_of_row _ _ _ _ _ _ m0
 have p1:Y.cell? ⟨W.heap.size,1,none⟩=some .nilFunc:=cell_of_row _ _ _ _ _ _ m0
 have p2:Y.cell? ⟨W.heap.size,2,none⟩=some .nilFunc:=cell_of_row _ _ _ _ _ _ m0
 have p3:=mS m0 0
 have p4:=mS m0 1
 have p5:=mS m0 2
 have R3:=al r3
 have M0:=al m0
 have M1:=al m1
 have M2:=al m2
 have cS:=al bd
 clear k0 k1 k2 k3 hb r3 g3 m0 m1 m2 bd
 go_enter Tryz.func43,Tryz.ntmps43
 go_wp2
 obtain ⟨q0,u0⟩:=bh (j:=0) (ab M0) (.func (.func 80) #[] #[.pointer (some ⟨W.heap.size+1,0,none⟩),.pointer (some ⟨W.heap.size+1+1,0,none⟩)])
 obtain ⟨q1,u1⟩:=bh (j:=1) q0 (.func (.func 84) #[] #[.pointer (some ⟨W.heap.size+1+1+1,0,none⟩),.pointer (some ⟨W.heap.size+1+1,0,none⟩)])
 obtain ⟨q2,u2⟩:=bh (j:=2) q1 (.func (.func 85) #[.pointer (some ⟨W.heap.size+1,0,none⟩)] #[])
 have u:=(u0.trans u1).trans u2
 have v1:=(u.block _ (zA (ab M1)).1 (by simp)).trans (ab M1)
 have v2:=(u.block _ (zA (ab M2)).1 (by simp;omega)).trans (ab M2)
 have v3:=(u.block _ (zA (ab R3)).1 (by simp;omega)).trans (ab R3)
 refine bodyPost_ret (results_cell_row rfl _ _ W.heap.size 89 _ (0,0) _ rfl q2 Tryz.underlying89 rfl (by kernel_rfl)) rfl ?_
 refine ⟨rfl,⟨cn (ab cS) u (ab cS).size (fun k e=>by obtain rfl:=zC e;omega),by omega,?_,v2,by omega,by omega⟩,v3⟩
 exact .inl ⟨zD _,_,v1,⟨rfl,.inl ⟨rfl,rfl⟩⟩,by simp[Value.ownBlock]⟩
end Go.Proofs.YtichhjfjcinjgaaGreatDoor
namespace Go.Proofs
open Go.Shelf
def Tryz.vW:Go.Shelf.Ren:=⟨fun|171=>134|243=>178|246=>190|283=>199|284=>200|285=>201|286=>202|129=>212|317=>211|318=>213|319=>214|320=>215|337=>218|338=>219|n=>n,fun|3=>3|9=>9|2=>2|4=>4|171=>211|0=>0|53=>189|37=>58|5=>5|173=>214|212=>228|51=>186|20=>20|213=>229|46=>156|232=>239|233=>240|n=>n,fun|17=>4|18=>7|19=>8|n=>n⟩
theorem Tryz.E2:Go.Proofs.LaysM.n171 Tryz.prog Tryz.vW:={
 mixed:=by kernel_rfl
 f129:=Tryz.func212.trans (congrArg some (by kernel_rfl))
 f171:=Tryz.func134.trans (congrArg some (by kernel_rfl))
 f243:=Tryz.func178.trans (congrArg some (by kernel_rfl))
 f246:=Tryz.func190.trans (congrArg some (by kernel_rfl))
 f283:=Tryz.func199.trans (congrArg some (by kernel_rfl))
 f284:=Tryz.func200.trans (congrArg some (by kernel_rfl))
 f285:=Tryz.func201.trans (congrArg some (by kernel_rfl))
 f286:=Tryz.func202.trans (congrArg some (by kernel_rfl))
 f317:=Tryz.func211.trans (congrArg some (by kernel_rfl))
 f318:=Tryz.func213.trans (congrArg some (by kernel_rfl))
 f319:=Tryz.func214.trans (congrArg some (by kernel_rfl))
 f320:=Tryz.func215.trans (congrArg some (by kernel_rfl))
 f337:=Tryz.func218.trans (congrArg some (by kernel_rfl))
 f338:=Tryz.func219.trans (congrArg some (by kernel_rfl))
 t0:=Tryz.underlying0
 a0:=Tryz.isAgg0
 z0:=Tryz.sizeOf0
 v0:=Tryz.zeroValue0
 t2:=Tryz.underlying2
 a2:=Tryz.isAgg2
 z2:=Tryz.sizeOf2
 v2:=Tryz.zeroValue2
 t3:=Tryz.underlying3
 a3:=Tryz.isAgg3
 z3:=Tryz.sizeOf3
 v3:=Tryz.zeroValue3
 t4:=Tryz.underlying4
 a4:=Tryz.isAgg4
 z4:=Tryz.sizeOf4
 v4:=Tryz.zeroValue4
 t5:=Tryz.underlying5
 a5:=Tryz.isAgg5
 z5:=Tryz.sizeOf5
 v5:=Tryz.zeroValue5
 t9:=Tryz.underlying9
 a9:=Tryz.isAgg9
 z9:=Tryz.sizeOf9
 v9:=Tryz.zeroValue9
 t20:=Tryz.underlying20
 a20:=Tryz.isAgg20
 z20:=Tryz.sizeOf20
 v20:=Tryz.zeroValue20
 t37:=Tryz.underlying58
 a37:=Tryz.isAgg58
 z37:=Tryz.sizeOf58
 v37:=Tryz.zeroValue58
 t46:=Tryz.underlying156
 a46:=Tryz.isAgg156
 z46:=Tryz.sizeOf156
 v46:=Tryz.zeroValue156
 t51:=Tryz.underlying186
 a51:=Tryz.isAgg186
 z51:=Tryz.sizeOf186
 v51:=Tryz.zeroValue186
 t53:=Tryz.underlying189
 a53:=Tryz.isAgg189
 z53:=Tryz.sizeOf189
 v53:=Tryz.zeroValue189
 t171:=Tryz.underlying211
 a171:=Tryz.isAgg211
 z171:=Tryz.sizeOf211
 v171:=Tryz.zeroValue211
 t173:=Tryz.underlying214
 a173:=Tryz.isAgg214
 z173:=Tryz.sizeOf214
 v173:=Tryz.zeroValue214
 t212:=Tryz.underlying228
 a212:=Tryz.isAgg228
 z212:=Tryz.sizeOf228
 v212:=Tryz.zeroValue228
 t213:=Tryz.underlying229
 a213:=Tryz.isAgg229
 z213:=Tryz.sizeOf229
 t232:=Tryz.underlying239
 a232:=Tryz.isAgg239
 z232:=Tryz.sizeOf239
 v232:=Tryz.zeroValue239
 t233:=Tryz.underlying240
 a233:=Tryz.isAgg240
 z233:=Tryz.sizeOf240
 v233:=Tryz.zeroValue240
 g17:=by kernel_rfl
 g18:=by kernel_rfl
 g19:=by kernel_rfl
 i0:=by kernel_rfl
 i2:=by kernel_rfl
 i3:=by kernel_rfl
 i4:=by kernel_rfl
 i5:=by kernel_rfl
 i9:=by kernel_rfl
 i20:=by kernel_rfl
 i37:=by kernel_rfl
 i46:=by kernel_rfl
 i51:=by kernel_rfl
 i53:=by kernel_rfl
 i171:=by kernel_rfl
 i173:=by kernel_rfl
 i212:=by kernel_rfl
 i232:=by kernel_rfl
 i233:=by kernel_rfl
 m17:=by kernel_rfl
 m18:=by kernel_rfl
 m19:=by kernel_rfl }
end Go.Proofs
namespace Go.Proofs.YtichhjfjcinjgaaGreatDoor
open Go.RowKit
attribute [local go_sem ↓] Go.wp_at_zero Go.wp_at_succ
theorem iM (W:World) (c:Nat) (hc:c<256) :
  Calls Tryz.prog 95 #[.int .u8 (c:Int)] W fun e w=>e=.returned (.int .i64 (cls c:Int))∧w=W:=by
 have hi:=KI hc
 generalize hg:firstIdx ⟨#[123,125,91,93,40,41,60,62,59,44,61,46,45]⟩ (Nat.toUInt8 c)=ix at hi
 have Hg:=al hg
 have Hi:=al hi
 clear hg hi
 by_cases h1:(9≤c∧c≤13)∨c=32
 ·have hk:cls c=1:=by unfold cls;rw[if_pos h1]
  rw[hk]
  rcases h1 with ⟨h1,h2⟩|rfl
  ·go_enter Tryz.func95,Tryz.ntmps95;go_wp2;go_ret;exact ⟨rfl,rfl⟩
  ·go_enter Tryz.func95,Tryz.ntmps95;go_wp2;go_ret;exact ⟨rfl,rfl⟩
 ·obtain ⟨n32,hb⟩:¬((c:Int)=32)∧(c<9∨13<c):=by omega
  by_cases h2:isLet c
  ·have hk:cls c=2:=pt.2 h2
   rw[hk]
   unfold isLet at h2
   clear h1
   rcases h2 with ⟨h1,h2⟩|⟨h1,h2⟩|rfl
   ·have b1:=fl (c:=c) (k:=9) (by omega);have b2:=iH (c:=c) (k:=13) (by omega);have b3:=gw n32;have b4:=fl (c:=c) (k:=65) (by omega);have b5:=AD (c:=c) (k:=90) (by omega)
    go_enter Tryz.func95,Tryz.ntmps95;go_wp2;go_ret;exact ⟨rfl,rfl⟩
   ·have b1:=fl (c:=c) (k:=9) (by omega);have b2:=iH (c:=c) (k:=13) (by omega);have b3:=gw n32;have b4:=fl (c:=c) (k:=65) (by omega);have b5:=iH (c:=c) (k:=90) (by omega);have b6:=fl (c:=c) (k:=97) (by omega);have b7:=AD (c:=c) (k:=122) (by omega)
    go_enter Tryz.func95,Tryz.ntmps95;go_wp2;go_ret;exact ⟨rfl,rfl⟩
   ·go_enter Tryz.func95,Tryz.ntmps95;go_wp2;go_ret;exact ⟨rfl,rfl⟩
  ·by_cases h3:c7 c
   ·have hk:cls c=3:=yL.2 h3
    rw[hk]
    unfold c7 at h3
    obtain ⟨h4,h5⟩:=h3
    clear h1 h2
    have b1:=fl (c:=c) (k:=9) (by omega);have b2:=iH (c:=c) (k:=13) (by omega);have b3:=gw n32;have b4:=ln (c:=c) (k:=65) (by omega);have b5:=ln (c:=c) (k:=97) (by omega);have b6:=gw (c:=c) (k:=95) (by omega);have b7:=fl (c:=c) (k:=48) (by omega);have b8:=AD (c:=c) (k:=57) (by omega)
    go_enter Tryz.func95,Tryz.ntmps95;go_wp2;go_ret;exact ⟨rfl,rfl⟩
   ·by_cases h4:c=39∨c=34
    ·have hk:cls c=4:=by unfold cls;rw[if_neg h1,if_neg h2,if_neg h3,if_pos h4]
     rw[hk]
     rcases h4 with rfl|rfl
     ·go_enter Tryz.func95,Tryz.ntmps95;go_wp2;go_ret;exact ⟨rfl,rfl⟩
     ·go_enter Tryz.func95,Tryz.ntmps95;go_wp2;go_ret;exact ⟨rfl,rfl⟩
    ·obtain ⟨n39,n34⟩:¬((c:Int)=39)∧¬((c:Int)=34):=by omega
     have hk:cls c=if j5 c then 5 else if c=47 then 6 else 0:=by unfold cls;rw[if_neg h1,if_neg h2,if_neg h3,if_neg h4]
     rw[hk]
     obtain ⟨PV,hl⟩:¬((c:Int)=95)∧(c<9∨(13<c∧c<48)∨(57<c∧c<65)∨(90<c∧c<97)∨122<c):=by unfold isLet at h2;unfold c7 at h3;omega
     clear h1 h2 h3 h4 hb hk
     have q1:=gw n32;have q2:=gw PV;have q3:=gw n39;have q4:=gw n34
     by_cases h5:j5 c
     ·rw[if_pos h5]
      have hix:0≤ix:=(ab Hi).2 h5
      have q5:decide (0≤ix)=true:=by simp;omega
      rcases hl with hl|⟨hl,hm⟩|⟨hl,hm⟩|⟨hl,hm⟩|hl
      ·have r0:=ln (c:=c) (k:=9) (by omega);have r1:=ln (c:=c) (k:=65) (by omega);have r2:=ln (c:=c) (k:=97) (by omega);have r3:=ln (c:=c) (k:=48) (by omega)
       go_enter Tryz.func95,Tryz.ntmps95;go_wp2_with fail;refine (fQ W _ _).mono ?_;rintro e w' ⟨rfl,he⟩;obtain rfl:W=w':=he.symm;have nQ:=ab Hg;simp only[Int.toNat_natCast];rw[nQ];clear nQ;go_wp2;go_ret;exact ⟨rfl,rfl⟩
      ·have r0:=fl (c:=c) (k:=9) (by omega);have r1:=iH (c:=c) (k:=13) (by omega);have r2:=ln (c:=c) (k:=65) (by omega);have r3:=ln (c:=c) (k:=97) (by omega);have r4:=ln (c:=c) (k:=48) (by omega)
       go_enter Tryz.func95,Tryz.ntmps95;go_wp2_with fail;refine (fQ W _ _).mono ?_;rintro e w' ⟨rfl,he⟩;obtain rfl:W=w':=he.symm;have nQ:=ab Hg;simp only[Int.toNat_natCast];rw[nQ];clear nQ;go_wp2;go_ret;exact ⟨rfl,rfl⟩
      ·have r0:=fl (c:=c) (k:=9) (by omega);have r1:=iH (c:=c) (k:=13) (by omega);have r2:=ln (c:=c) (k:=65) (by omega);have r3:=ln (c:=c) (k:=97) (by omega);have r4:=fl (c:=c) (k:=48) (by omega);have r5:=iH (c:=c) (k:=57) (by omega)
       go_enter Tryz.func95,Tryz.ntmps95;go_wp2_with fail;refine (fQ W _ _).mono ?_;rintro e w' ⟨rfl,he⟩;obtain rfl:W=w':=he.symm;have nQ:=ab Hg;simp only[Int.toNat_natCast];rw[nQ];clear nQ;go_wp2;go_ret;exact ⟨rfl,rfl⟩
      ·have r0:=fl (c:=c) (k:=9) (by omega);have r1:=iH (c:=c) (k:=13) (by omega);have r2:=fl (c:=c) (k:=65) (by omega);have r3:=iH (c:=c) (k:=90) (by omega);have r4:=ln (c:=c) (k:=97) (by omega);have r5:=fl (c:=c) (k:=48) (by omega);have r6:=iH (c:=c) (k:=57) (by omega)
       go_enter Tryz.func95,Tryz.ntmps95;go_wp2_with fail;refine (fQ W _ _).mono ?_;rintro e w' ⟨rfl,he⟩;obtain rfl:W=w':=he.symm;have nQ:=ab Hg;simp only[Int.toNat_natCast];rw[nQ];clear nQ;go_wp2;go_ret;exact ⟨rfl,rfl⟩
      ·have r0:=fl (c:=c) (k:=9) (by omega);have r1:=iH (c:=c) (k:=13) (by omega);have r2:=fl (c:=c) (k:=65) (by omega);have r3:=iH (c:=c) (k:=90) (by omega);have r4:=fl (c:=c) (k:=97) (by omega);have r5:=iH (c:=c) (k:=122) (by omega);have r6:=fl (c:=c) (k:=48) (by omega);have r7:=iH (c:=c) (k:=57) (by omega)
       go_enter Tryz.func95,Tryz.ntmps95;go_wp2_with fail;refine (fQ W _ _).mono ?_;rintro e w' ⟨rfl,he⟩;obtain rfl:W=w':=he.symm;have nQ:=ab Hg;simp only[Int.toNat_natCast];rw[nQ];clear nQ;go_wp2;go_ret;exact ⟨rfl,rfl⟩
     ·rw[if_neg h5]
      have hix:ix<0:=by have:=mt (ab Hi).1 h5;omega
      have q5:decide (0≤ix)=false:=by simp;omega
      by_cases h6:c=47
      ·rw[if_pos h6]
       have J4:((c:Int)==47)=true:=by simp;omega
       have r0:=fl (c:=c) (k:=9) (by omega);have r1:=iH (c:=c) (k:=13) (by omega);have r2:=ln (c:=c) (k:=65) (by omega);have r3:=ln (c:=c) (k:=97) (by omega);have r4:=ln (c:=c) (k:=48) (by omega)
       clear hl h6
       go_enter Tryz.func95,Tryz.ntmps95;go_wp2_with fail;refine (fQ W _ _).mono ?_;rintro e w' ⟨rfl,he⟩;obtain rfl:W=w':=he.symm;have nQ:=ab Hg;simp only[Int.toNat_natCast];rw[nQ];clear nQ;go_wp2;go_ret;exact ⟨rfl,rfl⟩
      ·rw[if_neg h6]
       have J4:=gw (c:=c) (k:=47) (by omega)
       clear h6
       rcases hl with hl|⟨hl,hm⟩|⟨hl,hm⟩|⟨hl,hm⟩|hl
       ·have r0:=ln (c:=c) (k:=9) (by omega);have r1:=ln (c:=c) (k:=65) (by omega);have r2:=ln (c:=c) (k:=97) (by omega);have r3:=ln (c:=c) (k:=48) (by omega)
        go_enter Tryz.func95,Tryz.ntmps95;go_wp2_with fail;refine (fQ W _ _).mono ?_;rintro e w' ⟨rfl,he⟩;obtain rfl:W=w':=he.symm;have nQ:=ab Hg;simp only[Int.toNat_natCast];rw[nQ];clear nQ;go_wp2;go_ret;exact ⟨rfl,rfl⟩
       ·have r0:=fl (c:=c) (k:=9) (by omega);have r1:=iH (c:=c) (k:=13) (by omega);have r2:=ln (c:=c) (k:=65) (by omega);have r3:=ln (c:=c) (k:=97) (by omega);have r4:=ln (c:=c) (k:=48) (by omega)
        go_enter Tryz.func95,Tryz.ntmps95;go_wp2_with fail;refine (fQ W _ _).mono ?_;rintro e w' ⟨rfl,he⟩;obtain rfl:W=w':=he.symm;have nQ:=ab Hg;simp only[Int.toNat_natCast];rw[nQ];clear nQ;go_wp2;go_ret;exact ⟨rfl,rfl⟩
       ·have r0:=fl (c:=c) (k:=9) (by omega);have r1:=iH (c:=c) (k:=13) (by omega);have r2:=ln (c:=c) (k:=65) (by omega);have r3:=ln (c:=c) (k:=97) (by omega);have r4:=fl (c:=c) (k:=48) (by omega);have r5:=iH (c:=c) (k:=57) (by omega)
        go_enter Tryz.func95,Tryz.ntmps95;go_wp2_with fail;refine (fQ W _ _).mono ?_;rintro e w' ⟨rfl,he⟩;obtain rfl:W=w':=he.symm;have nQ:=ab Hg;simp only[Int.toNat_natCast];rw[nQ];clear nQ;go_wp2;go_ret;exact ⟨rfl,rfl⟩
       ·have r0:=fl (c:=c) (k:=9) (by omega);have r1:=iH (c:=c) (k:=13) (by omega);have r2:=fl (c:=c) (k:=65) (by omega);have r3:=iH (c:=c) (k:=90) (by omega);have r4:=ln (c:=c) (k:=97) (by omega);have r5:=fl (c:=c) (k:=48) (by omega);have r6:=iH (c:=c) (k:=57) (by omega)
        go_enter Tryz.func95,Tryz.ntmps95;go_wp2_with fail;refine (fQ W _ _).mono ?_;rintro e w' ⟨rfl,he⟩;obtain rfl:W=w':=he.symm;have nQ:=ab Hg;simp only[Int.toNat_natCast];rw[nQ];clear nQ;go_wp2;go_ret;exact ⟨rfl,rfl⟩
       ·have r0:=fl (c:=c) (k:=9) (by omega);have r1:=iH (c:=c) (k:=13) (by omega);have r2:=fl (c:=c) (k:=65) (by omega);have r3:=iH (c:=c) (k:=90) (by omega);have r4:=fl (c:=c) (k:=97) (by omega);have r5:=iH (c:=c) (k:=122) (by omega);have r6:=fl (c:=c) (k:=48) (by omega);have r7:=iH (c:=c) (k:=57) (by omega)
        go_enter Tryz.func95,Tryz.ntmps95;go_wp2_with fail;refine (fQ W _ _).mono ?_;rintro e w' ⟨rfl,he⟩;obtain rfl:W=w':=he.symm;have nQ:=ab Hg;simp only[Int.toNat_natCast];rw[nQ];clear nQ;go_wp2;go_ret;exact ⟨rfl,rfl⟩
theorem VK {k:Nat} (h2:¬k=2) (h3:¬k=3):((k:Int) != 2)=true∧((k:Int) != 3)=true:=by
 constructor<;>simp<;>omega
theorem xT (W:World) (s:ByteArray) (hs:s.size≤140737488351232) :
  Calls Tryz.prog 140 #[.string s] W fun e w=>∃n:Nat,e=.returned (.int .i64 (n:Int))∧w=W∧n≤s.size∧(∀j x,j<n→(aI s)[j]?=some x→isLet x∨c7 x)∧(∀x,(aI s)[n]?=some x→¬(isLet x∨c7 x)):=by
 go_enter Tryz.func140,Tryz.ntmps140
 go_wp2
 go_loopg [3,4,7] s.size (fun gk _ _ v7 wr=>∃(k:Nat),v7=.int .i64 (k:Int)∧gk=s.size-k∧k≤s.size∧wr=W∧∀j x,j<k→(aI s)[j]?=some x→isLet x∨c7 x)
 case atStart=>exact ⟨0,rfl,rfl,by omega,rfl,fun j x hj=>by omega⟩
 case round =>
  obtain ⟨k,rfl,aW,hk,rfl,kE⟩:=hrel
  have bz:=al aW
  have lQ:=al kE
  clear aW kE
  by_cases aM:k<s.size
  ·obtain ⟨x,hx,c8,gx⟩:=cj s k aM
   have Hx:=al hx
   clear hx
   go_wp2_with fail
   refine (iM wr x c8).mono ?_
   rintro e w' ⟨rfl,he⟩
   obtain rfl:wr=w':=he.symm
   by_cases h2:isLet x∨c7 x
   ·have Oe:cls x=2∨cls x=3:=h2.imp pt.2 yL.2
    have kt:∀j y,j<k+1→(aI s)[j]?=some y→isLet y∨c7 y:=by
     intro j y hj hy
     by_cases Mz:j<k
     ·exact ab lQ j y Mz hy
     ·obtain rfl:j=k:=by omega
      rw[ab Hx] at hy
      obtain rfl:=zC hy
      exact h2
    have cG:=al kt
    clear kt h2 gx
    rcases Oe with hc|hc
    ·rw[hc]
     go_wp2
     go_roundg (s.size-(k+1))
     case measure=>have:=ab bz;omega
     case rel=>exact ⟨k+1,by go_num,rfl,by omega,rfl,ab cG⟩
    ·rw[hc]
     go_wp2
     go_roundg (s.size-(k+1))
     case measure=>have:=ab bz;omega
     case rel=>exact ⟨k+1,by go_num,rfl,by omega,rfl,ab cG⟩
   ·obtain ⟨e2,e3⟩:=VK (mt pt.1 (fun h=>h2 (.inl h))) (mt yL.1 (fun h=>h2 (.inr h)))
    have H2:=al h2
    clear h2 gx
    generalize cls x=kx at *
    go_wp2
    go_ret
    refine ⟨k,rfl,rfl,by omega,ab lQ,fun y hy=>?_⟩
    rw[ab Hx] at hy
    obtain rfl:=zC hy
    exact ab H2
  ·obtain rfl:k=s.size:=by omega
   go_wp2
   go_ret
   refine ⟨_,rfl,rfl,zD _,ab lQ,fun y hy=>?_⟩
   have:=(zB hy).1
   rw[aZ] at this
   omega
end Go.Proofs.YtichhjfjcinjgaaGreatDoor

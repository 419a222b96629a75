import Derived.Test.YtghioefalckgoaaGreatDoorM13
import Derived.Laws.EntriesVeiled
import Derived.Shelf.Strconv.Itoa3
import Derived.Shelf.Strings.Split
import Derived.Shelf.Strings.Prefix
import Derived.Lib.SplitLaws
import Derived.Lib.CountLaws
import Derived.Lib.ConvBytes
import Derived.Lib.AtoiErrMem
set_option maxHeartbeats 1000000
set_option maxRecDepth 100000
namespace Go.Proofs.YtghioefalckgoaaGreatDoor
open Go.RowKit
attribute [local go_sem ↓] Go.wp_at_zero Go.wp_at_succ
theorem Kb (W:World) (a b c d:Array Value) (ta tb tc td:TypeId):((((W.alloc (.cells a ta)).alloc (.cells b tb)).alloc (.cells c tc)).alloc (.cells d td)).heap[W.heap.size]?=some (.cells a ta (0,0))∧((((W.alloc (.cells a ta)).alloc (.cells b tb)).alloc (.cells c tc)).alloc (.cells d td)).heap[W.heap.size+1]?=some (.cells b tb (0,0))∧((((W.alloc (.cells a ta)).alloc (.cells b tb)).alloc (.cells c tc)).alloc (.cells d td)).heap[W.heap.size+1+1]?=some (.cells c tc (0,0))∧((((W.alloc (.cells a ta)).alloc (.cells b tb)).alloc (.cells c tc)).alloc (.cells d td)).heap[W.heap.size+1+1+1]?=some (.cells d td (0,0))∧Below W.heap.size W ((((W.alloc (.cells a ta)).alloc (.cells b tb)).alloc (.cells c tc)).alloc (.cells d td)):=by
 have s1:=zJ W (.cells a ta)
 have s2:=zJ (W.alloc (.cells a ta)) (.cells b tb)
 have s3:=zJ ((W.alloc (.cells a ta)).alloc (.cells b tb)) (.cells c tc)
 have n2:=aE (W.alloc (.cells a ta)) (.cells b tb)
 have n3:=aE ((W.alloc (.cells a ta)).alloc (.cells b tb)) (.cells c tc)
 have n4:=aE (((W.alloc (.cells a ta)).alloc (.cells b tb)).alloc (.cells c tc)) (.cells d td)
 rw[s1] at n2
 rw[s2,s1] at n3
 rw[s3,s2,s1] at n4
 refine ⟨?_,?_,?_,n4,((((zE _ _).alloc (zD _) _).alloc (by omega) _).alloc (by omega) _).alloc (by omega) _⟩
 ·rw[Below.heap_alloc _ _ _ (by omega),Below.heap_alloc _ _ _ (by omega),Below.heap_alloc _ _ _ (by omega)]
  exact aE _ _
 ·rw[Below.heap_alloc _ _ _ (by omega),Below.heap_alloc _ _ _ (by omega)]
  exact n2
 ·rw[Below.heap_alloc _ _ _ (by omega)]
  exact n3
theorem mJ {w:World}{b:Nat}{cs:Array Value}{t:TypeId} (h:w.heap[b]?=some (.cells cs t (0,0))) (j:Nat):w.frozen? ⟨b,j,none⟩=false:=by simp[World.frozen?,h]
theorem Cv (W:World):Calls Tryz.prog 60 #[] W fun e w=>e=.returned (.agg #[bF (W.heap.size+1) (W.heap.size+1+1),bN (W.heap.size+1+1+1) (W.heap.size+1+1),bJ (W.heap.size+1)])∧Pn W (W.heap.size+1) (W.heap.size+1) (W.heap.size+1+1) [] 0 w∧w.heap[W.heap.size+1+1+1]?=some (.cells #[bF (W.heap.size+1) (W.heap.size+1+1)] 97 (0,0)):=by
 obtain ⟨k0,k1,k2,k3,hb⟩:=Kb W #[.nilFunc,.nilFunc,.nilFunc] #[.pointer none,.slice none 0 0] #[.int .i64 0] #[.nilFunc] 101 139 3 97
 obtain ⟨X,hX⟩:∃X,((((W.alloc (.cells #[.nilFunc,.nilFunc,.nilFunc] 101)).alloc (.cells #[.pointer none,.slice none 0 0] 139)).alloc (.cells #[.int .i64 0] 3)).alloc (.cells #[.nilFunc] 97))=X:=⟨_,rfl⟩
 rw[hX] at k0 k1 k2 k3 hb
 have c3:X.cell? ⟨W.heap.size+1+1+1,0,none⟩=some .nilFunc:=cell_of_row _ _ _ _ _ _ k3
 have f3:=mJ k3 0
 obtain ⟨r3,g3⟩:=aI (j:=0) k3 (bF (W.heap.size+1) (W.heap.size+1+1))
 have m0:=(g3.block _ (zA k0).1 (by simp;omega)).trans k0
 have m1:=(g3.block _ (zA k1).1 (by simp)).trans k1
 have m2:=(g3.block _ (zA k2).1 (by simp)).trans k2
 have b9:=cj hb g3 hb.size (fun k e=>by obtain rfl:=zC e;omega)
 unfold bF at r3 m0 m1 m2 b9
 unfold bF bN bJ
 obtain ⟨Y,hY⟩:∃Y,X.setCell ⟨W.heap.size+1+1+1,0,none⟩ (.func (.func 99) #[] #[.pointer (some ⟨W.heap.size+1,0,none⟩),.pointer (some ⟨W.heap.size+1+1,0,none⟩)])=Y:=⟨_,rfl⟩
 rw[hY] at r3 m0 m1 m2 b9
 have l3:Y.cell? ⟨W.heap.size+1+1+1,0,none⟩=some (.func (.func 99) #[] #[.pointer (some ⟨W.heap.size+1,0,none⟩),.pointer (some ⟨W.heap.size+1+1,0,none⟩)]):=cell_of_row _ _ _ _ _ _ r3
 have p0:Y.cell? ⟨W.heap.size,0,none⟩=some .nilFunc:=cell_of_row _ _ _ _ _ _ m0
 have p1:Y.cell? ⟨W.heap.size,1,none⟩=some .nilFunc:=cell_of_row _ _ _ _ _ _ m0
 have p2:Y.cell? ⟨W.heap.size,2,none⟩=some .nilFunc:=cell_of_row _ _ _ _ _ _ m0
 have p3:=mJ m0 0
 have p4:=mJ m0 1
 have p5:=mJ m0 2
 have R3:=ak r3
 have M0:=ak m0
 have M1:=ak m1
 have M2:=ak m2
 have dF:=ak b9
 clear k0 k1 k2 k3 hb r3 g3 m0 m1 m2 b9
 go_enter Tryz.func60,Tryz.ntmps60
 go_wp2
 obtain ⟨q0,u0⟩:=aI (j:=0) (ab M0) (.func (.func 99) #[] #[.pointer (some ⟨W.heap.size+1,0,none⟩),.pointer (some ⟨W.heap.size+1+1,0,none⟩)])
 obtain ⟨q1,u1⟩:=aI (j:=1) q0 (.func (.func 103) #[] #[.pointer (some ⟨W.heap.size+1+1+1,0,none⟩),.pointer (some ⟨W.heap.size+1+1,0,none⟩)])
 obtain ⟨q2,u2⟩:=aI (j:=2) q1 (.func (.func 104) #[.pointer (some ⟨W.heap.size+1,0,none⟩)] #[])
 have u:=(u0.trans u1).trans u2
 have v1:=(u.block _ (zA (ab M1)).1 (by simp)).trans (ab M1)
 have v2:=(u.block _ (zA (ab M2)).1 (by simp;omega)).trans (ab M2)
 have v3:=(u.block _ (zA (ab R3)).1 (by simp;omega)).trans (ab R3)
 refine bodyPost_ret (results_cell_row rfl _ _ W.heap.size 101 _ (0,0) _ rfl q2 Tryz.underlying101 rfl (by kernel_rfl)) rfl ?_
 refine ⟨rfl,⟨cj (ab dF) u (ab dF).size (fun k e=>by obtain rfl:=zC e;omega),by omega,?_,v2,by omega,by omega⟩,v3⟩
 exact .inl ⟨zD _,_,v1,⟨rfl,.inl ⟨rfl,rfl⟩⟩,by simp[Value.ownBlock]⟩
end Go.Proofs.YtghioefalckgoaaGreatDoor
namespace Go.Proofs
open Go.Shelf
def Tryz.wP:Go.Shelf.Ren:=⟨fun|171=>160|243=>231|246=>271|283=>293|284=>294|285=>295|286=>296|129=>319|317=>318|318=>320|319=>321|320=>322|337=>329|338=>330|n=>n,fun|3=>3|9=>9|2=>2|4=>4|171=>286|0=>0|53=>236|37=>137|5=>5|173=>289|212=>311|51=>233|20=>20|213=>312|46=>181|232=>322|233=>323|n=>n,fun|17=>4|18=>7|19=>8|n=>n⟩
theorem Tryz.Fe:Go.Proofs.LaysM.n171 Tryz.prog Tryz.wP:={
 mixed:=by kernel_rfl
 f129:=Tryz.func319.trans (congrArg some (by kernel_rfl))
 f171:=Tryz.func160.trans (congrArg some (by kernel_rfl))
 f243:=Tryz.func231.trans (congrArg some (by kernel_rfl))
 f246:=Tryz.func271.trans (congrArg some (by kernel_rfl))
 f283:=Tryz.func293.trans (congrArg some (by kernel_rfl))
 f284:=Tryz.func294.trans (congrArg some (by kernel_rfl))
 f285:=Tryz.func295.trans (congrArg some (by kernel_rfl))
 f286:=Tryz.func296.trans (congrArg some (by kernel_rfl))
 f317:=Tryz.func318.trans (congrArg some (by kernel_rfl))
 f318:=Tryz.func320.trans (congrArg some (by kernel_rfl))
 f319:=Tryz.func321.trans (congrArg some (by kernel_rfl))
 f320:=Tryz.func322.trans (congrArg some (by kernel_rfl))
 f337:=Tryz.func329.trans (congrArg some (by kernel_rfl))
 f338:=Tryz.func330.trans (congrArg some (by kernel_rfl))
 t0:=Tryz.underlying0
 a0:=Tryz.isAgg0
 z0:=Tryz.sizeOf0
 v0:=Tryz.zeroValue0
 t2:=Tryz.underlying2
 a2:=Tryz.isAgg2
 z2:=Tryz.sizeOf2
 v2:=Tryz.zeroValue2
 t3:=Tryz.underlying3
 a3:=Tryz.isAgg3
 z3:=Tryz.sizeOf3
 v3:=Tryz.zeroValue3
 t4:=Tryz.underlying4
 a4:=Tryz.isAgg4
 z4:=Tryz.sizeOf4
 v4:=Tryz.zeroValue4
 t5:=Tryz.underlying5
 a5:=Tryz.isAgg5
 z5:=Tryz.sizeOf5
 v5:=Tryz.zeroValue5
 t9:=Tryz.underlying9
 a9:=Tryz.isAgg9
 z9:=Tryz.sizeOf9
 v9:=Tryz.zeroValue9
 t20:=Tryz.underlying20
 a20:=Tryz.isAgg20
 z20:=Tryz.sizeOf20
 v20:=Tryz.zeroValue20
 t37:=Tryz.underlying137
 a37:=Tryz.isAgg137
 z37:=Tryz.sizeOf137
 v37:=Tryz.zeroValue137
 t46:=Tryz.underlying181
 a46:=Tryz.isAgg181
 z46:=Tryz.sizeOf181
 v46:=Tryz.zeroValue181
 t51:=Tryz.underlying233
 a51:=Tryz.isAgg233
 z51:=Tryz.sizeOf233
 v51:=Tryz.zeroValue233
 t53:=Tryz.underlying236
 a53:=Tryz.isAgg236
 z53:=Tryz.sizeOf236
 v53:=Tryz.zeroValue236
 t171:=Tryz.underlying286
 a171:=Tryz.isAgg286
 z171:=Tryz.sizeOf286
 v171:=Tryz.zeroValue286
 t173:=Tryz.underlying289
 a173:=Tryz.isAgg289
 z173:=Tryz.sizeOf289
 v173:=Tryz.zeroValue289
 t212:=Tryz.underlying311
 a212:=Tryz.isAgg311
 z212:=Tryz.sizeOf311
 v212:=Tryz.zeroValue311
 t213:=Tryz.underlying312
 a213:=Tryz.isAgg312
 z213:=Tryz.sizeOf312
 t232:=Tryz.underlying322
 a232:=Tryz.isAgg322
 z232:=Tryz.sizeOf322
 v232:=Tryz.zeroValue322
 t233:=Tryz.underlying323
 a233:=Tryz.isAgg323
 z233:=Tryz.sizeOf323
 v233:=Tryz.zeroValue323
 g17:=by kernel_rfl
 g18:=by kernel_rfl
 g19:=by kernel_rfl
 i0:=by kernel_rfl
 i2:=by kernel_rfl
 i3:=by kernel_rfl
 i4:=by kernel_rfl
 i5:=by kernel_rfl
 i9:=by kernel_rfl
 i20:=by kernel_rfl
 i37:=by kernel_rfl
 i46:=by kernel_rfl
 i51:=by kernel_rfl
 i53:=by kernel_rfl
 i171:=by kernel_rfl
 i173:=by kernel_rfl
 i212:=by kernel_rfl
 i232:=by kernel_rfl
 i233:=by kernel_rfl
 m17:=by kernel_rfl
 m18:=by kernel_rfl
 m19:=by kernel_rfl }
end Go.Proofs
namespace Go.Proofs.YtghioefalckgoaaGreatDoor
open Go.RowKit
attribute [local go_sem ↓] Go.wp_at_zero Go.wp_at_succ
theorem gV (W:World) (c:Nat) (hc:c<256) :
  Calls Tryz.prog 113 #[.int .u8 (c:Int)] W fun e w=>e=.returned (.int .i64 (cls c:Int))∧w=W:=by
 have hi:=Mw hc
 generalize hg:firstIdx ⟨#[123,125,91,93,40,41,60,62,59,44,61,46,45]⟩ (Nat.toUInt8 c)=ix at hi
 have Hg:=ak hg
 have Hi:=ak hi
 clear hg hi
 by_cases h1:(9≤c∧c≤13)∨c=32
 ·have hk:cls c=1:=by unfold cls;rw[if_pos h1]
  rw[hk]
  rcases h1 with ⟨h1,h2⟩|rfl
  ·go_enter Tryz.func113,Tryz.ntmps113;go_wp2;go_ret;exact ⟨rfl,rfl⟩
  ·go_enter Tryz.func113,Tryz.ntmps113;go_wp2;go_ret;exact ⟨rfl,rfl⟩
 ·obtain ⟨n32,hb⟩:¬((c:Int)=32)∧(c<9∨13<c):=by omega
  by_cases h2:isLet c
  ·have hk:cls c=2:=ph.2 h2
   rw[hk]
   unfold isLet at h2
   clear h1
   rcases h2 with ⟨h1,h2⟩|⟨h1,h2⟩|rfl
   ·have b1:=lB (c:=c) (k:=9) (by omega);have b2:=mZ (c:=c) (k:=13) (by omega);have b3:=lQ n32;have b4:=lB (c:=c) (k:=65) (by omega);have b5:=Th (c:=c) (k:=90) (by omega)
    go_enter Tryz.func113,Tryz.ntmps113;go_wp2;go_ret;exact ⟨rfl,rfl⟩
   ·have b1:=lB (c:=c) (k:=9) (by omega);have b2:=mZ (c:=c) (k:=13) (by omega);have b3:=lQ n32;have b4:=lB (c:=c) (k:=65) (by omega);have b5:=mZ (c:=c) (k:=90) (by omega);have b6:=lB (c:=c) (k:=97) (by omega);have b7:=Th (c:=c) (k:=122) (by omega)
    go_enter Tryz.func113,Tryz.ntmps113;go_wp2;go_ret;exact ⟨rfl,rfl⟩
   ·go_enter Tryz.func113,Tryz.ntmps113;go_wp2;go_ret;exact ⟨rfl,rfl⟩
  ·by_cases h3:dq c
   ·have hk:cls c=3:=zj.2 h3
    rw[hk]
    unfold dq at h3
    obtain ⟨h4,h5⟩:=h3
    clear h1 h2
    have b1:=lB (c:=c) (k:=9) (by omega);have b2:=mZ (c:=c) (k:=13) (by omega);have b3:=lQ n32;have b4:=nX (c:=c) (k:=65) (by omega);have b5:=nX (c:=c) (k:=97) (by omega);have b6:=lQ (c:=c) (k:=95) (by omega);have b7:=lB (c:=c) (k:=48) (by omega);have b8:=Th (c:=c) (k:=57) (by omega)
    go_enter Tryz.func113,Tryz.ntmps113;go_wp2;go_ret;exact ⟨rfl,rfl⟩
   ·by_cases h4:c=39∨c=34
    ·have hk:cls c=4:=by unfold cls;rw[if_neg h1,if_neg h2,if_neg h3,if_pos h4]
     rw[hk]
     rcases h4 with rfl|rfl
     ·go_enter Tryz.func113,Tryz.ntmps113;go_wp2;go_ret;exact ⟨rfl,rfl⟩
     ·go_enter Tryz.func113,Tryz.ntmps113;go_wp2;go_ret;exact ⟨rfl,rfl⟩
    ·obtain ⟨n39,n34⟩:¬((c:Int)=39)∧¬((c:Int)=34):=by omega
     have hk:cls c=if l7 c then 5 else if c=47 then 6 else 0:=by unfold cls;rw[if_neg h1,if_neg h2,if_neg h3,if_neg h4]
     rw[hk]
     obtain ⟨Te,hl⟩:¬((c:Int)=95)∧(c<9∨(13<c∧c<48)∨(57<c∧c<65)∨(90<c∧c<97)∨122<c):=by unfold isLet at h2;unfold dq at h3;omega
     clear h1 h2 h3 h4 hb hk
     have q1:=lQ n32;have q2:=lQ Te;have q3:=lQ n39;have q4:=lQ n34
     by_cases h5:l7 c
     ·rw[if_pos h5]
      have hix:0≤ix:=(ab Hi).2 h5
      have q5:decide (0≤ix)=true:=by simp;omega
      rcases hl with hl|⟨hl,hm⟩|⟨hl,hm⟩|⟨hl,hm⟩|hl
      ·have r0:=nX (c:=c) (k:=9) (by omega);have r1:=nX (c:=c) (k:=65) (by omega);have r2:=nX (c:=c) (k:=97) (by omega);have r3:=nX (c:=c) (k:=48) (by omega)
       go_enter Tryz.func113,Tryz.ntmps113;go_wp2_with fail;refine (fc W _ _).mono ?_;rintro e w' ⟨rfl,he⟩;obtain rfl:W=w':=he.symm;have nu:=ab Hg;simp only[Int.toNat_natCast];rw[nu];clear nu;go_wp2;go_ret;exact ⟨rfl,rfl⟩
      ·have r0:=lB (c:=c) (k:=9) (by omega);have r1:=mZ (c:=c) (k:=13) (by omega);have r2:=nX (c:=c) (k:=65) (by omega);have r3:=nX (c:=c) (k:=97) (by omega);have r4:=nX (c:=c) (k:=48) (by omega)
       go_enter Tryz.func113,Tryz.ntmps113;go_wp2_with fail;refine (fc W _ _).mono ?_;rintro e w' ⟨rfl,he⟩;obtain rfl:W=w':=he.symm;have nu:=ab Hg;simp only[Int.toNat_natCast];rw[nu];clear nu;go_wp2;go_ret;exact ⟨rfl,rfl⟩
      ·have r0:=lB (c:=c) (k:=9) (by omega);have r1:=mZ (c:=c) (k:=13) (by omega);have r2:=nX (c:=c) (k:=65) (by omega);have r3:=nX (c:=c) (k:=97) (by omega);have r4:=lB (c:=c) (k:=48) (by omega);have r5:=mZ (c:=c) (k:=57) (by omega)
       go_enter Tryz.func113,Tryz.ntmps113;go_wp2_with fail;refine (fc W _ _).mono ?_;rintro e w' ⟨rfl,he⟩;obtain rfl:W=w':=he.symm;have nu:=ab Hg;simp only[Int.toNat_natCast];rw[nu];clear nu;go_wp2;go_ret;exact ⟨rfl,rfl⟩
      ·have r0:=lB (c:=c) (k:=9) (by omega);have r1:=mZ (c:=c) (k:=13) (by omega);have r2:=lB (c:=c) (k:=65) (by omega);have r3:=mZ (c:=c) (k:=90) (by omega);have r4:=nX (c:=c) (k:=97) (by omega);have r5:=lB (c:=c) (k:=48) (by omega);have r6:=mZ (c:=c) (k:=57) (by omega)
       go_enter Tryz.func113,Tryz.ntmps113;go_wp2_with fail;refine (fc W _ _).mono ?_;rintro e w' ⟨rfl,he⟩;obtain rfl:W=w':=he.symm;have nu:=ab Hg;simp only[Int.toNat_natCast];rw[nu];clear nu;go_wp2;go_ret;exact ⟨rfl,rfl⟩
      ·have r0:=lB (c:=c) (k:=9) (by omega);have r1:=mZ (c:=c) (k:=13) (by omega);have r2:=lB (c:=c) (k:=65) (by omega);have r3:=mZ (c:=c) (k:=90) (by omega);have r4:=lB (c:=c) (k:=97) (by omega);have r5:=mZ (c:=c) (k:=122) (by omega);have r6:=lB (c:=c) (k:=48) (by omega);have r7:=mZ (c:=c) (k:=57) (by omega)
       go_enter Tryz.func113,Tryz.ntmps113;go_wp2_with fail;refine (fc W _ _).mono ?_;rintro e w' ⟨rfl,he⟩;obtain rfl:W=w':=he.symm;have nu:=ab Hg;simp only[Int.toNat_natCast];rw[nu];clear nu;go_wp2;go_ret;exact ⟨rfl,rfl⟩
     ·rw[if_neg h5]
      have hix:ix<0:=by have:=mt (ab Hi).1 h5;omega
      have q5:decide (0≤ix)=false:=by simp;omega
      by_cases h6:c=47
      ·rw[if_pos h6]
       have XI:((c:Int)==47)=true:=by simp;omega
       have r0:=lB (c:=c) (k:=9) (by omega);have r1:=mZ (c:=c) (k:=13) (by omega);have r2:=nX (c:=c) (k:=65) (by omega);have r3:=nX (c:=c) (k:=97) (by omega);have r4:=nX (c:=c) (k:=48) (by omega)
       clear hl h6
       go_enter Tryz.func113,Tryz.ntmps113;go_wp2_with fail;refine (fc W _ _).mono ?_;rintro e w' ⟨rfl,he⟩;obtain rfl:W=w':=he.symm;have nu:=ab Hg;simp only[Int.toNat_natCast];rw[nu];clear nu;go_wp2;go_ret;exact ⟨rfl,rfl⟩
      ·rw[if_neg h6]
       have XI:=lQ (c:=c) (k:=47) (by omega)
       clear h6
       rcases hl with hl|⟨hl,hm⟩|⟨hl,hm⟩|⟨hl,hm⟩|hl
       ·have r0:=nX (c:=c) (k:=9) (by omega);have r1:=nX (c:=c) (k:=65) (by omega);have r2:=nX (c:=c) (k:=97) (by omega);have r3:=nX (c:=c) (k:=48) (by omega)
        go_enter Tryz.func113,Tryz.ntmps113;go_wp2_with fail;refine (fc W _ _).mono ?_;rintro e w' ⟨rfl,he⟩;obtain rfl:W=w':=he.symm;have nu:=ab Hg;simp only[Int.toNat_natCast];rw[nu];clear nu;go_wp2;go_ret;exact ⟨rfl,rfl⟩
       ·have r0:=lB (c:=c) (k:=9) (by omega);have r1:=mZ (c:=c) (k:=13) (by omega);have r2:=nX (c:=c) (k:=65) (by omega);have r3:=nX (c:=c) (k:=97) (by omega);have r4:=nX (c:=c) (k:=48) (by omega)
        go_enter Tryz.func113,Tryz.ntmps113;go_wp2_with fail;refine (fc W _ _).mono ?_;rintro e w' ⟨rfl,he⟩;obtain rfl:W=w':=he.symm;have nu:=ab Hg;simp only[Int.toNat_natCast];rw[nu];clear nu;go_wp2;go_ret;exact ⟨rfl,rfl⟩
       ·have r0:=lB (c:=c) (k:=9) (by omega);have r1:=mZ (c:=c) (k:=13) (by omega);have r2:=nX (c:=c) (k:=65) (by omega);have r3:=nX (c:=c) (k:=97) (by omega);have r4:=lB (c:=c) (k:=48) (by omega);have r5:=mZ (c:=c) (k:=57) (by omega)
        go_enter Tryz.func113,Tryz.ntmps113;go_wp2_with fail;refine (fc W _ _).mono ?_;rintro e w' ⟨rfl,he⟩;obtain rfl:W=w':=he.symm;have nu:=ab Hg;simp only[Int.toNat_natCast];rw[nu];clear nu;go_wp2;go_ret;exact ⟨rfl,rfl⟩
       ·have r0:=lB (c:=c) (k:=9) (by omega);have r1:=mZ (c:=c) (k:=13) (by omega);have r2:=lB (c:=c) (k:=65) (by omega);have r3:=mZ (c:=c) (k:=90) (by omega);have r4:=nX (c:=c) (k:=97) (by omega);have r5:=lB (c:=c) (k:=48) (by omega);have r6:=mZ (c:=c) (k:=57) (by omega)
        go_enter Tryz.func113,Tryz.ntmps113;go_wp2_with fail;refine (fc W _ _).mono ?_;rintro e w' ⟨rfl,he⟩;obtain rfl:W=w':=he.symm;have nu:=ab Hg;simp only[Int.toNat_natCast];rw[nu];clear nu;go_wp2;go_ret;exact ⟨rfl,rfl⟩
       ·have r0:=lB (c:=c) (k:=9) (by omega);have r1:=mZ (c:=c) (k:=13) (by omega);have r2:=lB (c:=c) (k:=65) (by omega);have r3:=mZ (c:=c) (k:=90) (by omega);have r4:=lB (c:=c) (k:=97) (by omega);have r5:=mZ (c:=c) (k:=122) (by omega);have r6:=lB (c:=c) (k:=48) (by omega);have r7:=mZ (c:=c) (k:=57) (by omega)
        go_enter Tryz.func113,Tryz.ntmps113;go_wp2_with fail;refine (fc W _ _).mono ?_;rintro e w' ⟨rfl,he⟩;obtain rfl:W=w':=he.symm;have nu:=ab Hg;simp only[Int.toNat_natCast];rw[nu];clear nu;go_wp2;go_ret;exact ⟨rfl,rfl⟩
theorem Z8 {k:Nat} (h2:¬k=2) (h3:¬k=3):((k:Int) != 2)=true∧((k:Int) != 3)=true:=by
 constructor<;>simp<;>omega
theorem yq (W:World) (s:ByteArray) (hs:s.size≤140737488351232) :
  Calls Tryz.prog 166 #[.string s] W fun e w=>∃n:Nat,e=.returned (.int .i64 (n:Int))∧w=W∧n≤s.size∧(∀j x,j<n→(aO s)[j]?=some x→isLet x∨dq x)∧(∀x,(aO s)[n]?=some x→¬(isLet x∨dq x)):=by
 go_enter Tryz.func166,Tryz.ntmps166
 go_wp2
 go_loopg [3,4,7] s.size (fun gk _ _ v7 wr=>∃(k:Nat),v7=.int .i64 (k:Int)∧gk=s.size-k∧k≤s.size∧wr=W∧∀j x,j<k→(aO s)[j]?=some x→isLet x∨dq x)
 case atStart=>exact ⟨0,rfl,rfl,by omega,rfl,fun j x hj=>by omega⟩
 case round =>
  obtain ⟨k,rfl,bd,hk,rfl,nO⟩:=hrel
  have bH:=ak bd
  have s8:=ak nO
  clear bd nO
  by_cases aU:k<s.size
  ·obtain ⟨x,hx,dr,gx⟩:=iI s k aU
   have Hx:=ak hx
   clear hx
   go_wp2_with fail
   refine (gV wr x dr).mono ?_
   rintro e w' ⟨rfl,he⟩
   obtain rfl:wr=w':=he.symm
   by_cases h2:isLet x∨dq x
   ·have XY:cls x=2∨cls x=3:=h2.imp ph.2 zj.2
    have j6:∀j y,j<k+1→(aO s)[j]?=some y→isLet y∨dq y:=by
     intro j y hj hy
     by_cases Rc:j<k
     ·exact ab s8 j y Rc hy
     ·obtain rfl:j=k:=by omega
      rw[ab Hx] at hy
      obtain rfl:=zC hy
      exact h2
    have jL:=ak j6
    clear j6 h2 gx
    rcases XY with hc|hc
    ·rw[hc]
     go_wp2
     go_roundg (s.size-(k+1))
     case measure=>have:=ab bH;omega
     case rel=>exact ⟨k+1,by go_num,rfl,by omega,rfl,ab jL⟩
    ·rw[hc]
     go_wp2
     go_roundg (s.size-(k+1))
     case measure=>have:=ab bH;omega
     case rel=>exact ⟨k+1,by go_num,rfl,by omega,rfl,ab jL⟩
   ·obtain ⟨e2,e3⟩:=Z8 (mt ph.1 (fun h=>h2 (.inl h))) (mt zj.1 (fun h=>h2 (.inr h)))
    have H2:=ak h2
    clear h2 gx
    generalize cls x=kx at *
    go_wp2
    go_ret
    refine ⟨k,rfl,rfl,by omega,ab s8,fun y hy=>?_⟩
    rw[ab Hx] at hy
    obtain rfl:=zC hy
    exact ab H2
  ·obtain rfl:k=s.size:=by omega
   go_wp2
   go_ret
   refine ⟨_,rfl,rfl,zD _,ab s8,fun y hy=>?_⟩
   have:=(zB hy).1
   rw[bg] at this
   omega
theorem RH {a b:Nat} (h:¬a=b):((a:Int)==(b:Int))=false:=by simp;omega
theorem RG (a:Nat):((a:Int)==(a:Int))=true:=by simp
def vS (s:ByteArray):Prop:=(1≤s.size∧s.size≤255)∧(∀x,(aO s)[0]?=some x→isLet x)∧∀(j x:Nat),(aO s)[j]?=some x→isLet x∨dq x
theorem Fm (W:World) (s:ByteArray) :
  Calls Tryz.prog 134 #[.string s] W fun e w=>∃b:Bool,e=.returned (.bool b)∧w=W∧(b=true↔vS s):=by
 by_cases h0:s.size=0
 ·obtain rfl:s=⟨#[]⟩:=by cases s with|mk d=>cases d with|mk l=>cases l with|nil=>rfl|cons a r=>simp[ByteArray.size] at h0
  go_enter Tryz.func134,Tryz.ntmps134
  go_wp2
  go_ret
  exact ⟨_,rfl,rfl,by simp[vS,ByteArray.size]⟩
 ·have e0:=vh h0
  by_cases h1:s.size≤255
  ·obtain ⟨x,hx,dr,gx⟩:=iI s 0 (by omega)
   have e1:=ltF (a:=s.size) (k:=255) (by omega)
   have Hx:=ak hx
   clear hx
   go_enter Tryz.func134,Tryz.ntmps134
   go_wp2_with fail
   refine (gV W x dr).mono ?_
   rintro e w' ⟨rfl,he⟩
   obtain rfl:W=w':=he.symm
   by_cases h2:isLet x
   ·rw[ph.2 h2]
    go_wp2_with fail
    refine (yq W s (by omega)).mono ?_
    rintro e w' ⟨n,rfl,he,hn,nO,VD⟩
    obtain rfl:W=w':=he.symm
    have s8:=ak nO
    have Dl:=ak VD
    clear nO VD gx
    by_cases CQ:n=s.size
    ·subst CQ
     have e2:=RG s.size
     go_wp2
     go_ret
     refine ⟨_,rfl,rfl,fun _=>⟨⟨by omega,h1⟩,fun y hy=>?_,fun j y hy=>?_⟩,fun _=>rfl⟩
     ·rw[ab Hx] at hy;obtain rfl:=zC hy;exact h2
     ·exact ab s8 j y (by have:=(zB hy).1;rwa [bg] at this) hy
    ·have e2:=RH CQ
     go_wp2
     go_ret
     refine ⟨_,rfl,rfl,fun h=>by simp at h,fun h=>?_⟩
     obtain ⟨y,hy,_,_⟩:=iI s n (by omega)
     exact absurd (h.2.2 n y hy) (ab Dl y hy)
   ·have h3:¬cls x=2:=mt ph.1 h2
    have e2:((cls x:Int)==2)=false:=by simp;omega
    have H2:=ak h2
    clear h2 gx
    generalize cls x=kx at *
    go_wp2
    go_ret
    refine ⟨_,rfl,rfl,fun h=>by simp at h,fun h=>absurd (h.2.1 x (ab Hx)) (ab H2)⟩
  ·have e1:=ltT (a:=s.size) (k:=255) (by omega)
   go_enter Tryz.func134,Tryz.ntmps134
   go_wp2
   go_ret
   exact ⟨_,rfl,rfl,fun h=>by simp at h,fun h=>absurd h.1.2 h1⟩
end Go.Proofs.YtghioefalckgoaaGreatDoor
namespace Go.Proofs
open Go.Shelf
def Tryz.uX:Go.Shelf.Ren:=⟨fun|146=>82|221=>133|268=>208|138=>209|143=>210|195=>265|197=>266|218=>267|219=>268|260=>289|217=>234|225=>290|224=>291|267=>292|266=>275|314=>317|n=>n,fun|9=>9|31=>22|3=>3|4=>4|0=>0|105=>273|21=>21|5=>5|46=>181|119=>305|139=>308|138=>307|146=>234|51=>233|n=>n,fun|1=>1|3=>2|4=>3|n=>n⟩
theorem Tryz.CB:Go.Proofs.Lays.n146 Tryz.prog Tryz.uX:={
 mixed:=by kernel_rfl
 f138:=Tryz.func209.trans (congrArg some (by kernel_rfl))
 f143:=Tryz.func210.trans (congrArg some (by kernel_rfl))
 f146:=Tryz.func82.trans (congrArg some (by kernel_rfl))
 f195:=Tryz.func265.trans (congrArg some (by kernel_rfl))
 f197:=Tryz.func266.trans (congrArg some (by kernel_rfl))
 f217:=Tryz.func234.trans (congrArg some (by kernel_rfl))
 f218:=Tryz.func267.trans (congrArg some (by kernel_rfl))
 f219:=Tryz.func268.trans (congrArg some (by kernel_rfl))
 f221:=Tryz.func133.trans (congrArg some (by kernel_rfl))
 f224:=Tryz.func291.trans (congrArg some (by kernel_rfl))
 f225:=Tryz.func290.trans (congrArg some (by kernel_rfl))
 f260:=Tryz.func289.trans (congrArg some (by kernel_rfl))
 f266:=Tryz.func275.trans (congrArg some (by kernel_rfl))
 f267:=Tryz.func292.trans (congrArg some (by kernel_rfl))
 f268:=Tryz.func208.trans (congrArg some (by kernel_rfl))
 f314:=Tryz.func317.trans (congrArg some (by kernel_rfl))
 t0:=Tryz.underlying0
 a0:=Tryz.isAgg0
 z0:=Tryz.sizeOf0
 v0:=Tryz.zeroValue0
 t3:=Tryz.underlying3
 a3:=Tryz.isAgg3
 z3:=Tryz.sizeOf3
 v3:=Tryz.zeroValue3
 t4:=Tryz.underlying4
 a4:=Tryz.isAgg4
 z4:=Tryz.sizeOf4
 v4:=Tryz.zeroValue4
 t5:=Tryz.underlying5
 a5:=Tryz.isAgg5
 z5:=Tryz.sizeOf5
 v5:=Tryz.zeroValue5
 t9:=Tryz.underlying9
 a9:=Tryz.isAgg9
 z9:=Tryz.sizeOf9
 v9:=Tryz.zeroValue9
 t21:=Tryz.underlying21
 a21:=Tryz.isAgg21
 z21:=Tryz.sizeOf21
 v21:=Tryz.zeroValue21
 t31:=Tryz.underlying22
 a31:=Tryz.isAgg22
 z31:=Tryz.sizeOf22
 v31:=Tryz.zeroValue22
 t46:=Tryz.underlying181
 a46:=Tryz.isAgg181
 z46:=Tryz.sizeOf181
 v46:=Tryz.zeroValue181
 t51:=Tryz.underlying233
 a51:=Tryz.isAgg233
 z51:=Tryz.sizeOf233
 v51:=Tryz.zeroValue233
 t105:=Tryz.underlying273
 a105:=Tryz.isAgg273
 z105:=Tryz.sizeOf273
 v105:=Tryz.zeroValue273
 t119:=Tryz.underlying305
 a119:=Tryz.isAgg305
 z119:=Tryz.sizeOf305
 t138:=Tryz.underlying307
 a138:=Tryz.isAgg307
 z138:=Tryz.sizeOf307
 v138:=Tryz.zeroValue307
 t139:=Tryz.underlying308
 a139:=Tryz.isAgg308
 z139:=Tryz.sizeOf308
 v139:=Tryz.zeroValue308
 t146:=Tryz.underlying234
 a146:=Tryz.isAgg234
 z146:=Tryz.sizeOf234
 v146:=Tryz.zeroValue234
 g1:=by kernel_rfl
 g3:=by kernel_rfl
 g4:=by kernel_rfl }
def Tryz.wQ:Go.Shelf.Ren:=⟨fun|101=>213|208=>269|206=>220|n=>n,fun|9=>9|4=>4|3=>3|n=>n,fun|n=>n⟩
theorem Tryz.Ff:Go.Proofs.Lays.n101 Tryz.prog Tryz.wQ:={
 mixed:=by kernel_rfl
 f101:=Tryz.func213.trans (congrArg some (by kernel_rfl))
 f206:=Tryz.func220.trans (congrArg some (by kernel_rfl))
 f208:=Tryz.func269.trans (congrArg some (by kernel_rfl))
 t3:=Tryz.underlying3
 a3:=Tryz.isAgg3
 z3:=Tryz.sizeOf3
 v3:=Tryz.zeroValue3
 t4:=Tryz.underlying4
 a4:=Tryz.isAgg4
 z4:=Tryz.sizeOf4
 v4:=Tryz.zeroValue4
 t9:=Tryz.underlying9
 a9:=Tryz.isAgg9
 z9:=Tryz.sizeOf9
 v9:=Tryz.zeroValue9 }
end Go.Proofs
namespace Go.Proofs.YtghioefalckgoaaGreatDoor
open Go.RowKit
attribute [local go_sem ↓] Go.wp_at_zero Go.wp_at_succ
noncomputable def dG (s:ByteArray):Bool:=@decide (vS s) (Classical.propDecidable _)
theorem MG {s:ByteArray}{b:Bool} (h:b=true↔vS s):b=dG s:=by
 unfold dG
 cases b with
 |true=>exact (@decide_eq_true _ (Classical.propDecidable _) (h.1 rfl)).symm
 |false=>exact (@decide_eq_false _ (Classical.propDecidable _) (fun k=>by cases h.2 k)).symm
theorem M3 (W:World) (s:ByteArray):Calls Tryz.prog 134 #[.string s] W fun e w=>e=.returned (.bool (dG s))∧w=W:=by
 refine (Fm W s).mono ?_
 rintro e w ⟨b,rfl,rfl,h⟩
 rw[MG h]
 exact ⟨rfl,rfl⟩
theorem gN (W:World) (s:ByteArray):Calls Tryz.prog 83 #[.string s] W fun e w=>e=.returned (.bool (dG s))∧w=W:=by
 have HI:=ak (M3 W s)
 go_enter Tryz.func83,Tryz.ntmps83
 go_wp2_with fail
 refine (ab HI).mono ?_
 rintro e w ⟨rfl,rfl⟩
 clear HI
 go_wp2
 go_ret
 exact ⟨rfl,rfl⟩
theorem nw (W:World) (n lo hi:Int):Calls Tryz.prog 86 #[.int .i64 n,.int .i64 lo,.int .i64 hi] W fun e w=>e=.returned (.bool (decide (lo≤n)&&decide (n≤hi)))∧w=W:=by
 by_cases h:lo≤n
 ·have e1:decide (lo≤n)=true:=decide_eq_true h
  rw[e1]
  go_enter Tryz.func86,Tryz.ntmps86
  go_wp2
  go_ret
  exact ⟨rfl,rfl⟩
 ·have e1:decide (lo≤n)=false:=decide_eq_false h
  rw[e1]
  go_enter Tryz.func86,Tryz.ntmps86
  go_wp2
  go_ret
  exact ⟨rfl,rfl⟩
def lq (s:ByteArray):Bool:=decide ((1:Int)≤(s.size:Int))&&decide ((s.size:Int)≤255)
theorem CG (W:World) (s:ByteArray):Calls Tryz.prog 54 #[.string s] W fun e w=>e=.returned (.bool (lq s))∧w=W:=by
 have HI:=ak (nw W (s.size:Int) 1 255)
 go_enter Tryz.func54,Tryz.ntmps54
 go_wp2_with fail
 refine (ab HI).mono ?_
 rintro e w ⟨rfl,rfl⟩
 clear HI
 go_wp2
 go_ret
 exact ⟨rfl,rfl⟩
def Bq:ByteArray:=⟨#[46]⟩
def pieces (s:ByteArray):List ByteArray:=Lib.splitB Bq 0 (Lib.countB s Bq) s
def El (x:Nat):Option Nat:=if 48≤x∧x≤57 then some (x-48) else if 65≤x∧x≤90 then some (x-55) else if 97≤x∧x≤122 then some (x-87) else none
def cA (B M:Nat):List Nat→Nat→Option Nat
 |[],n=>some n
 |c::r,n=>match El c with
  |none=>none
  |some d=>if d<B∧n*B+d≤M then cA B M r (n*B+d) else none
def low (x:Nat):Nat:=x |||32
theorem Qt {x:Nat} (h1:65≤x) (h2:x≤90):low x=x+32:=by
 have key:∀k:Fin 256,65≤k.val→k.val≤90→low k.val=k.val+32:=by decide +kernel
 exact key ⟨x,by omega⟩ h1 h2
theorem Jb {x:Nat} (h1:97≤x) (h2:x≤122):low x=x:=by
 have key:∀k:Fin 256,97≤k.val→k.val≤122→low k.val=k.val:=by decide +kernel
 exact key ⟨x,by omega⟩ h1 h2
theorem Ja {x:Nat} (h:x<256) (h1:¬(65≤x∧x≤90)) (h2:¬(97≤x∧x≤122)):low x<97∨122<low x:=by
 have key:∀k:Fin 256,¬(65≤k.val∧k.val≤90)→¬(97≤k.val∧k.val≤122)→low k.val<97∨122<low k.val:=by decide +kernel
 exact key ⟨x,h⟩ h1 h2
theorem Jc {x:Nat} (h:x<256):bits .or .u8 (x:Int) 32=((low x:Nat):Int):=by
 have key:∀k:Fin 256,bits .or .u8 ((k.val:Nat):Int) 32=((low k.val:Nat):Int):=by decide +kernel
 exact key ⟨x,h⟩
theorem Fc (W:World) (x:Nat) (hx:x<256):Calls Tryz.prog 297 #[.int .u8 (x:Int)] W fun e w=>e=.returned (.int .u8 ((low x:Nat):Int))∧w=W:=by
 have hb:=Jc hx
 go_enter Tryz.func297,Tryz.ntmps297
 go_wp2
 go_ret
 exact ⟨rfl,rfl⟩
def PU (W:World) (B M:Nat) (s:ByteArray) (e:Ending) (w:World):Prop:=Below W.heap.size W w ∧
 ((∃u:Nat,e=.returned (.tuple #[.int .u64 (u:Int),.nilIface])∧0<s.size∧cA B M (aO s) 0=some u) ∨
  (∃u c:Int,e=.returned (.tuple #[.int .u64 u,.iface 291 (.int .i64 c)])∧(c=1∨c=2)∧(s.size=0∨cA B M (aO s) 0=none)))
theorem PU.bad {W w:World}{B M:Nat}{s:ByteArray} (u c:Int) (hb:Below W.heap.size W w) (hc:c=1∨c=2) (h:s.size=0∨cA B M (aO s) 0=none) :
  PU W B M s (.returned (.tuple #[.int .u64 u,.iface 291 (.int .i64 c)])) w:=⟨hb,.inr ⟨u,c,rfl,hc,h⟩⟩
theorem PU.aaE {W w:World}{B M:Nat}{s:ByteArray} (u:Nat) (hb:Below W.heap.size W w) (h0:0<s.size) (h:cA B M (aO s) 0=some u) :
  PU W B M s (.returned (.tuple #[.int .u64 (u:Int),.nilIface])) w:=⟨hb,.inl ⟨u,rfl,h0,h⟩⟩
theorem ES (s:ByteArray) (j x:Nat) (h:(aO s)[j]?=some x):(s.data.toList.getD j 0).toNat=x:=by
 unfold aO at h
 rw[List.getElem?_map] at h
 obtain ⟨b,hb,rfl⟩:=Option.map_eq_some_iff.1 h
 rw[List.getD_eq_getElem?_getD,hb]
 rfl
end Go.Proofs.YtghioefalckgoaaGreatDoor

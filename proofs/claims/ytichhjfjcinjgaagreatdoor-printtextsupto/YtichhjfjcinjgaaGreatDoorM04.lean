import Derived.Test.YtichhjfjcinjgaaGreatDoorYB
import Derived.Test.YtichhjfjcinjgaaGreatDoorM03
import Derived.Shelf.Strings.Repeat
set_option maxHeartbeats 2000000
set_option maxRecDepth 100000
namespace Go.Proofs.YtichhjfjcinjgaaGreatDoor
open Go.RowKit Go.Shelf
attribute [local go_sem ↓] Go.wp_at_zero Go.wp_at_succ
def Kp (b:Nat) (w w':World):Prop:=∀d cs ty fr,d≠b→w.heap[d]?=some (.cells cs ty fr)→ty≠5→w'.heap[d]?=some (.cells cs ty fr)
theorem Kp.refl (b:Nat) (w:World):Kp b w w:=fun _ _ _ _ _ h _=>h
theorem Kp.trans {b:Nat}{u v w:World} (h:Kp b u v) (k:Kp b v w):Kp b u w:=fun d cs ty fr h1 h2 h3=>k d cs ty fr h1 (h d cs ty fr h1 h2 h3) h3
theorem Kp.grown {b:Nat}{w w':World} (h:w.grownBy w' (some b)):Kp b w w':=fun d cs ty fr h1 h2 _=>(h.block d (zA h2).1 (by simp;omega)).trans h2
theorem pr (B b:Nat) (bs:List Value) (w:World) (h:Lib.IsBuilder 125 5 B b bs w) :
  Calls Tryz.prog 124 #[.pointer (some ⟨b,0,none⟩)] w fun e w'=>e=.returned (.tuple #[])∧(Lib.BuilderAt 125 5 B b (.pointer (some ⟨b,0,none⟩)) bs w'∧Below B w w')∧Kp b w w':=by
 rcases h with h|h
 ·refine (rq b w h.cell0 h.shape h.frozen0).mono ?_
  rintro e w' ⟨rfl,rfl⟩
  obtain ⟨_,v,bR,_⟩:=id h
  exact ⟨rfl,⟨h.used _,(zE B w).setCell (p:=⟨b,0,none⟩) h.1 _⟩,Kp.grown (bh bR _).2⟩
 ·refine (vk b w h.cell0).mono ?_
  rintro e w' ⟨rfl,rfl⟩
  exact ⟨rfl,⟨h,zE B _⟩,Kp.refl _ _⟩
theorem G4 {B b:Nat}{bs:List Value}{w1 w2:World}{v v':Value} (bR:w1.heap[b]?=some (.cells #[.pointer (some ⟨b,0,none⟩),v] 125 (0,0))) (gJ:w1.ownsRow B 5 1 v bs.length bs) (iP:v.ownBlock≠some b) (hg:w1.grownBy w2 v.ownBlock):Kp b w1 (w2.setCell ⟨b,1,none⟩ v'):=by
 have hl:b<w1.heap.size:=(zA bR).1
 have bd:=(hg.block b hl (fun e=>iP e.symm)).trans bR
 refine Kp.trans (v:=w2) ?_ (Kp.grown (bh (j:=1) bd v').2)
 intro d cs ty fr h1 h2 h3
 refine (hg.block d (zA h2).1 (fun e=>?_)).trans h2
 rcases gJ.2 with ⟨rfl,_⟩|⟨g,cap,cur,rfl,_,h4,_⟩
 ·cases e
 ·obtain rfl:d=g:=by simpa[Value.ownBlock] using e
  rw[h4] at h2
  simp at h2
  exact h3 h2.2.1.symm
theorem tM (B b:Nat) (bs:List Value) (s:ByteArray) (w:World) (h:Lib.IsBuilder 125 5 B b bs w) (hlen:bs.length+s.size≤140737488355328) (Ly:B≤w.heap.size) :
  Calls Tryz.prog 81 #[.pointer (some ⟨b,0,none⟩),.string s] w fun e w'=>e=.returned (.tuple #[.int .i64 s.size,.nilIface])∧(Lib.BuilderAt 125 5 B b (.pointer (some ⟨b,0,none⟩)) (bs++Lib.strCells s) w'∧Below B w w')∧Kp b w w':=by
 obtain ⟨i0,hi,fU,dS,da⟩:=info_parts xf
 have hc:=al (pr B b bs w h)
 clear h
 go_enter Tryz.func81,Tryz.ntmps81
 go_wp2_with fail
 refine (ab hc).mono ?_
 rintro e w1 ⟨rfl,⟨⟨hB,v,bR,gJ,iP⟩,aX⟩,mf⟩
 have s1:=aX.size
 have c1:w1.cell? ⟨b,1,none⟩=some v:=by rw[cell_of_row _ _ _ _ _ _ bR];rfl
 have yS:=al aX
 have iN:=al gJ
 have FV:=al bR
 have nP:=al iP
 have XY:=al mf
 clear aX gJ bR iP hc mf
 go_wp2_with (at_builtin;refine Lib.wpList_append_own_string _ rfl _ _ 58 9 rfl B 5 i0 Tryz.underlying58 Tryz.underlying9 hi fU dS da _ _ _ rfl (ab iN) s rfl (by unfold maxLen;omega) (by omega) (by omega) ?_;intro v' w2 ho hg _;obtain ⟨⟨d0,d1,f1⟩,oW⟩:=DF (bs':=bs++Lib.strCells s) hB (ab FV) (ab iN) (ab nP) hg (by rw[zK,Lib.strCells_length];exact ho);have JN:=al oW;have XX:=al (G4 (v':=v') (ab FV) (ab iN) (ab nP) hg);obtain ⟨a',l',c',rfl⟩:=Dz ho;clear ho hg oW)
 go_ret2
 exact ⟨rfl,⟨(ab JN).1,(ab yS).trans (ab JN).2⟩,(ab XY).trans (ab XX)⟩
theorem OB:Builder.Extra Tryz.prog Tryz.kW:={
 sizeBuilder:=by kernel_rfl
 liesBuilder:=by kernel_rfl
 t5:=Tryz.underlying5
 a5:=Tryz.isAgg5
 z5:=Tryz.sizeOf5
 v5:=Tryz.zeroValue5
 infoByte:=by kernel_rfl
 cellsByte:=by kernel_rfl
 sizeByte:=by kernel_rfl
 neB5:=by decide }
theorem A9 (B b:Nat) (l:List UInt8) (w:World) (h:Lib.IsBuilder 125 5 B b (Lib.byteCells l) w) (Ly:B≤w.heap.size):Calls Tryz.prog 85 #[.pointer (some ⟨b,0,none⟩)] w fun e w'=>e=.returned (.string ⟨l.toArray⟩)∧Below B w w':=Any.Builder_String_any Tryz.yh OB B b l w h Ly
def BI (B b:Nat) (L:List Nat) (w:World):Prop:=Lib.IsBuilder 125 5 B b (nb L) w
theorem H6 {L:List Nat} (h:ns L):nb L=Lib.byteCells (L.map UInt8.ofNat):=by
 unfold nb Lib.byteCells
 rw[List.map_map]
 apply List.map_congr_left
 intro x hx
 have:=h x hx
 simp only[Function.comp,UInt8.toNat_ofNat']
 congr 2
 omega
theorem EF (s:ByteArray):Lib.strCells s=nb (aI s):=by
 unfold Lib.strCells nb aI
 simp[List.map_map]
theorem Rf {B b:Nat}{L:List Nat}{w:World} (h:BI B b L w) (hl:L.length≤1099511627776) (Ly:B≤w.heap.size) (x:ByteArray) (hx:x.size≤1099511627776):Calls Tryz.prog 81 #[.pointer (some ⟨b,0,none⟩),.string x] w fun e w'=>e=.returned (.tuple #[.int .i64 x.size,.nilIface])∧BI B b (L++aI x) w'∧Below B w w'∧Kp b w w':=by
 refine (tM B b (nb L) x w h (by rw[H5];omega) Ly).mono ?_
 rintro e w' ⟨rfl,⟨h1,h2⟩,h3⟩
 refine ⟨rfl,?_,h2,h3⟩
 unfold BI
 rw[kT,←EF]
 exact .inr h1
theorem Xa {B b:Nat}{L:List Nat}{w:World} (h:BI B b L w) (hb:ns L) (Ly:B≤w.heap.size):Calls Tryz.prog 85 #[.pointer (some ⟨b,0,none⟩)] w fun e w'=>e=.returned (.string (gE L))∧Below B w w':=by
 unfold BI at h
 rw[H6 hb] at h
 exact A9 B b _ w h Ly
end Go.Proofs.YtichhjfjcinjgaaGreatDoor
namespace Go.Proofs
open Go.Shelf
def Tryz.nA:Go.Shelf.Ren:=⟨fun|105=>82|212=>125|99=>126|165=>127|166=>81|170=>128|169=>85|263=>164|264=>165|206=>166|240=>124|241=>167|276=>163|277=>189|n=>n,fun|9=>9|3=>3|4=>4|20=>20|0=>0|46=>156|109=>157|5=>5|72=>125|76=>128|51=>186|146=>187|53=>189|148=>190|70=>123|37=>58|75=>127|127=>162|164=>184|80=>87|n=>n,fun|n=>n⟩
theorem Tryz.pU:Go.Proofs.Lays.n105 Tryz.prog Tryz.nA:={
 mixed:=by kernel_rfl
 f99:=Tryz.func126.trans (congrArg some (by kernel_rfl))
 f105:=Tryz.func82.trans (congrArg some (by kernel_rfl))
 f165:=Tryz.func127.trans (congrArg some (by kernel_rfl))
 f166:=Tryz.func81.trans (congrArg some (by kernel_rfl))
 f169:=Tryz.func85.trans (congrArg some (by kernel_rfl))
 f170:=Tryz.func128.trans (congrArg some (by kernel_rfl))
 f206:=Tryz.func166.trans (congrArg some (by kernel_rfl))
 f212:=Tryz.func125.trans (congrArg some (by kernel_rfl))
 f240:=Tryz.func124.trans (congrArg some (by kernel_rfl))
 f241:=Tryz.func167.trans (congrArg some (by kernel_rfl))
 f263:=Tryz.func164.trans (congrArg some (by kernel_rfl))
 f264:=Tryz.func165.trans (congrArg some (by kernel_rfl))
 f276:=Tryz.func163.trans (congrArg some (by kernel_rfl))
 f277:=Tryz.func189.trans (congrArg some (by kernel_rfl))
 t0:=Tryz.underlying0
 a0:=Tryz.isAgg0
 z0:=Tryz.sizeOf0
 v0:=Tryz.zeroValue0
 t3:=Tryz.underlying3
 a3:=Tryz.isAgg3
 z3:=Tryz.sizeOf3
 v3:=Tryz.zeroValue3
 t4:=Tryz.underlying4
 a4:=Tryz.isAgg4
 z4:=Tryz.sizeOf4
 v4:=Tryz.zeroValue4
 t5:=Tryz.underlying5
 a5:=Tryz.isAgg5
 z5:=Tryz.sizeOf5
 v5:=Tryz.zeroValue5
 t9:=Tryz.underlying9
 a9:=Tryz.isAgg9
 z9:=Tryz.sizeOf9
 v9:=Tryz.zeroValue9
 t20:=Tryz.underlying20
 a20:=Tryz.isAgg20
 z20:=Tryz.sizeOf20
 v20:=Tryz.zeroValue20
 t37:=Tryz.underlying58
 a37:=Tryz.isAgg58
 z37:=Tryz.sizeOf58
 v37:=Tryz.zeroValue58
 t46:=Tryz.underlying156
 a46:=Tryz.isAgg156
 z46:=Tryz.sizeOf156
 v46:=Tryz.zeroValue156
 t51:=Tryz.underlying186
 a51:=Tryz.isAgg186
 z51:=Tryz.sizeOf186
 v51:=Tryz.zeroValue186
 t53:=Tryz.underlying189
 a53:=Tryz.isAgg189
 z53:=Tryz.sizeOf189
 v53:=Tryz.zeroValue189
 t70:=Tryz.underlying123
 a70:=Tryz.isAgg123
 z70:=Tryz.sizeOf123
 v70:=Tryz.zeroValue123
 t72:=Tryz.underlying125
 a72:=Tryz.isAgg125
 z72:=Tryz.sizeOf125
 v72:=Tryz.zeroValue125
 t75:=Tryz.underlying127
 a75:=Tryz.isAgg127
 z75:=Tryz.sizeOf127
 v75:=Tryz.zeroValue127
 t76:=Tryz.underlying128
 a76:=Tryz.isAgg128
 z76:=Tryz.sizeOf128
 v76:=Tryz.zeroValue128
 t109:=Tryz.underlying157
 a109:=Tryz.isAgg157
 z109:=Tryz.sizeOf157
 v109:=Tryz.zeroValue157
 t127:=Tryz.underlying162
 a127:=Tryz.isAgg162
 z127:=Tryz.sizeOf162
 v127:=Tryz.zeroValue162
 t146:=Tryz.underlying187
 a146:=Tryz.isAgg187
 z146:=Tryz.sizeOf187
 v146:=Tryz.zeroValue187
 t148:=Tryz.underlying190
 a148:=Tryz.isAgg190
 z148:=Tryz.sizeOf190
 v148:=Tryz.zeroValue190
 t164:=Tryz.underlying184
 a164:=Tryz.isAgg184
 z164:=Tryz.sizeOf184
 v164:=Tryz.zeroValue184 }
end Go.Proofs
namespace Go.Proofs.YtichhjfjcinjgaaGreatDoor
open Go.RowKit Go.Shelf
attribute [local go_sem ↓] Go.wp_at_zero Go.wp_at_succ
theorem xG (B b:Nat) (bs:List Value) (c:Int) (w:World) (h:Lib.IsBuilder 125 5 B b bs w) (hlen:bs.length+1≤140737488355328) (Ly:B≤w.heap.size) :
  Calls Tryz.prog 83 #[.pointer (some ⟨b,0,none⟩),.int .u8 c] w fun e w'=>e=.returned .nilIface∧(Lib.BuilderAt 125 5 B b (.pointer (some ⟨b,0,none⟩)) (bs++[.int .u8 c]) w'∧Below B w w')∧Kp b w w':=by
 obtain ⟨i0,hi,fU,dS,da⟩:=info_parts xf
 have hc:=al (pr B b bs w h)
 clear h
 go_enter Tryz.func83,Tryz.ntmps83
 go_wp2_with fail
 refine (ab hc).mono ?_
 rintro e w1 ⟨rfl,⟨⟨hB,v,bR,gJ,iP⟩,aX⟩,mf⟩
 have s1:=aX.size
 have c1:w1.cell? ⟨b,1,none⟩=some v:=by rw[cell_of_row _ _ _ _ _ _ bR];rfl
 have yS:=al aX
 have iN:=al gJ
 have FV:=al bR
 have nP:=al iP
 have XY:=al mf
 clear aX gJ bR iP hc mf
 go_wp2_with (at_builtin;refine wpList_append_own_at _ rfl _ _ 58 rfl B 5 i0 (.int .u8 0) 1 1 Tryz.underlying58 hi fU dS da rfl (by decide) _ _ _ rfl ((ab iN).alloc _) ⟨w1.heap.size,0,none⟩ 1 1 [.int .u8 c] rfl rfl (cell_one_new _ _ _) (by simp[Value.oneCell']) (by unfold maxLen;omega) (by omega) (by rw[zJ];omega) ?_;intro v' w2 ho hg _ _;have ep:=(World.grownBy_alloc w1 _ _).trans hg;obtain ⟨⟨d0,d1,f1⟩,oW⟩:=DF (bs':=bs++[.int .u8 c]) hB (ab FV) (ab iN) (ab nP) ep (by rw[zK];exact ho);have JN:=al oW;have XX:=al (G4 (v':=v') (ab FV) (ab iN) (ab nP) ep);obtain ⟨a',l',c',rfl⟩:=Dz ho;clear ho hg oW ep)
 go_ret
 exact ⟨rfl,⟨(ab JN).1,(ab yS).trans (ab JN).2⟩,(ab XY).trans (ab XX)⟩
theorem VE {B b:Nat}{L:List Nat}{w:World} (h:BI B b L w) (hl:L.length≤1099511627776) (Ly:B≤w.heap.size) (x:Nat):Calls Tryz.prog 83 #[.pointer (some ⟨b,0,none⟩),.int .u8 (x:Int)] w fun e w'=>e=.returned .nilIface∧BI B b (L++[x]) w'∧Below B w w'∧Kp b w w':=by
 refine (xG B b (nb L) (x:Int) w h (by rw[H5];omega) Ly).mono ?_
 rintro e w' ⟨rfl,⟨h1,h2⟩,h3⟩
 refine ⟨rfl,?_,h2,h3⟩
 unfold BI
 rw[kT]
 exact .inr h1
theorem Oz:Builder.Extra Tryz.prog Tryz.nA:={
 sizeBuilder:=by kernel_rfl
 liesBuilder:=by kernel_rfl
 t5:=Tryz.underlying5
 a5:=Tryz.isAgg5
 z5:=Tryz.sizeOf5
 v5:=Tryz.zeroValue5
 infoByte:=by kernel_rfl
 cellsByte:=by kernel_rfl
 sizeByte:=by kernel_rfl
 neB5:=by decide }
def lO (n:Nat):ByteArray:=⟨(Lib.repeatL [32,32] n).toArray⟩
theorem mH:∀n,aI (lO n)=List.replicate (2*n) 32
 |0=>rfl
 |n+1=>by
  have ih:=mH n
  have e:aI (lO (n+1))=32::32::aI (lO n):=rfl
  rw[e,ih,show 2*(n+1)=(2*n+1)+1 by omega]
  rfl
theorem B5 (n:Nat) (hn:n≤1000) (w:World):Calls Tryz.prog 82 #[.string ⟨#[32,32]⟩,.int .i64 (n:Int)] w fun e w'=>e=.returned (.string (lO n))∧Below w.heap.size w w':=by
 match n,hn with
 |0,_ =>
  refine (Any.strings_Repeat_zero Tryz.pU ⟨#[32,32]⟩ w).mono ?_
  rintro e w' ⟨rfl,rfl⟩
  exact ⟨rfl,zE _ _⟩
 |1,_ =>
  refine (Any.strings_Repeat_one Tryz.pU ⟨#[32,32]⟩ w).mono ?_
  rintro e w' ⟨rfl,rfl⟩
  exact ⟨rfl,zE _ _⟩
 |k+2,hn =>
  exact Any.strings_Repeat_main Tryz.pU Oz ⟨#[32,32]⟩ (k+2) w (by omega) (by omega) (by show 2*(k+2)≤_;omega) (by decide)
end Go.Proofs.YtichhjfjcinjgaaGreatDoor
namespace Go.Proofs.YtichhjfjcinjgaaGreatDoor
open Go.RowKit
attribute [local go_sem ↓] Go.wp_at_zero Go.wp_at_succ
theorem Kp.below {b:Nat}{w w':World} (h:Below w.heap.size w w'):Kp b w w':=fun d _ _ _ _ h2 _=>(h.block d (zA h2).1).trans h2
def aY (n:Nat) (ps:List ByteArray):List Nat:=List.replicate (2*n) 32++ps.flatMap aI++[10]
structure Pn (W:World) (B bb dd:Nat) (L:List Nat) (n:Nat) (w:World):Prop where
 bU:Below W.heap.size W w
 low:W.heap.size≤B
 bi:BI B bb L w
 dp:w.heap[dd]?=some (.cells #[.int .i64 (n:Int)] 3 (0,0))
 ne:bb≠dd
 deep:n≤1000
theorem BI.lt {B bb:Nat}{L:List Nat}{W:World} (h:BI B bb L W):B≤bb∧bb<W.heap.size:=by
 rcases h with k|k
 ·obtain ⟨k1,_,k2,_⟩:=k;exact ⟨k1,(zA k2).1⟩
 ·obtain ⟨k1,_,k2,_⟩:=k;exact ⟨k1,(zA k2).1⟩
theorem BI.up {B bb:Nat}{L:List Nat}{W w:World} (h:BI B bb L W) (hb:Below W.heap.size W w):BI B bb L w:=by
 have key:∀{p:Value},Lib.BuilderAt 125 5 B bb p (nb L) W→Lib.BuilderAt 125 5 B bb p (nb L) w:=by
  rintro p ⟨h1,v,bR,gJ,iP⟩
  refine ⟨h1,v,(hb.block bb (zA bR).1).trans bR,gJ.kept (show W.grownBy w none from ⟨hb.os,hb.tape,hb.output,hb.size,fun k hk _=>hb.block k hk⟩) ?_,iP⟩
  cases v.ownBlock with
  |none=>exact .inl rfl
  |some k=>exact .inr (by simp)
 rcases h with h|h
 ·exact .inl (key h)
 ·exact .inr (key h)
theorem BI.kept {B bb b:Nat}{L:List Nat}{W w:World}{cs:Array Value}{t:TypeId}{fr:Nat×Nat} (h:BI B bb L W) (hg:W.grownBy w (some b)) (hb:W.heap[b]?=some (.cells cs t fr)) (ht:t≠5) (hn:bb≠b):BI B bb L w:=by
 have key:∀{p:Value},Lib.BuilderAt 125 5 B bb p (nb L) W→Lib.BuilderAt 125 5 B bb p (nb L) w:=by
  rintro p ⟨h1,v,bR,gJ,iP⟩
  refine ⟨h1,v,(hg.block bb (zA bR).1 (by simpa using hn)).trans bR,gJ.kept hg ?_,iP⟩
  rcases gJ.2 with ⟨rfl,_⟩|⟨g,cap,cur,rfl,_,h4,_⟩
  ·exact .inl rfl
  ·refine .inr (fun e=>?_)
   obtain rfl:g=b:=by simpa[Value.ownBlock] using e
   rw[h4] at hb
   simp at hb
   exact ht hb.2.1.symm
 rcases h with h|h
 ·exact .inl (key h)
 ·exact .inr (key h)
theorem Pn.below {W w w':World}{B bb dd:Nat}{L:List Nat}{n:Nat} (h:Pn W B bb dd L n w) (hb:Below w.heap.size w w'):Pn W B bb dd L n w' :=
 ⟨h.bU.trans (hb.mono h.bU.size),h.low,h.bi.up hb,(hb.block _ (zA h.dp).1).trans h.dp,h.ne,h.deep⟩
theorem Pn.put {W w w':World}{B bb dd:Nat}{L L':List Nat}{n:Nat} (h:Pn W B bb dd L n w) (hi:BI B bb L' w') (hb:Below B w w') (hk:Kp bb w w'):Pn W B bb dd L' n w' :=
 ⟨h.bU.trans (hb.mono h.low),h.low,hi,hk _ _ _ _ (fun e=>h.ne e.symm) h.dp (by decide),h.ne,h.deep⟩
theorem Pn.size {W w:World}{B bb dd:Nat}{L:List Nat}{n:Nat} (h:Pn W B bb dd L n w):B≤w.heap.size:=Nat.le_of_lt (Nat.lt_of_le_of_lt h.bi.lt.1 h.bi.lt.2)
def vI (W:World) (B bb dd:Nat) (L:List Nat) (n:Nat) (w:World) (e:Ending) (w':World):Prop:=e=.returned (.tuple #[])∧Pn W B bb dd L n w'∧Kp bb w w'
def Pt (w:World) (v:Value) (ps:List ByteArray) (bb:Nat):Prop:=∃g c,v=.slice (some ⟨g,0,none⟩) ps.length c∧w.heap[g]?=some (.cells (cc ps).toArray 9 (0,0))∧g≠bb
theorem xl {ps:List ByteArray}{i:Nat}{t:ByteArray} (h:ps[i]?=some t):(ps.take (i+1)).flatMap aI=(ps.take i).flatMap aI++aI t:=by
 obtain ⟨hi,rfl⟩:=zB h
 rw[List.take_succ_eq_append_getElem hi,List.flatMap_append]
 simp
theorem LC {ps:List ByteArray}{i:Nat}{t:ByteArray} (h:ps[i]?=some t):((ps.take i).flatMap aI).length+t.size≤(ps.flatMap aI).length:=by
 have e:ps.flatMap aI=(ps.take (i+1)).flatMap aI++(ps.drop (i+1)).flatMap aI:=by rw[←List.flatMap_append,List.take_append_drop]
 rw[e,xl h,zK,zK,aZ]
 omega
theorem iG {W w:World}{B bb dd:Nat}{L:List Nat}{n:Nat} (h:Pn W B bb dd L n w) {v:Value}{ps:List ByteArray} (hp:Pt w v ps bb) (hl:L.length+(aY n ps).length≤1099511627776) (oX:ps.length≤100) :
  Calls Tryz.prog 80 #[v,.pointer (some ⟨bb,0,none⟩),.pointer (some ⟨dd,0,none⟩)] w (vI W B bb dd (L++aY n ps) n w):=by
 obtain ⟨g,c,rfl,hg,CI⟩:=hp
 have fR:(aY n ps).length=2*n+(ps.flatMap aI).length+1:=by simp[aY];omega
 rw[fR] at hl
 have HP:=al h
 have c0:w.cell? ⟨dd,0,none⟩=some (.int .i64 (n:Int)):=cell_of_row _ _ _ _ _ _ h.dp
 have HR:=al (B5 n h.deep w)
 have HG:=al hg
 have Hgb:=al CI
 have Hl:=al hl
 clear h hg CI hl fR
 go_enter Tryz.func80,Tryz.ntmps80
 go_wp2_with fail
 refine (ab HR).mono ?_
 rintro e w1 ⟨rfl,aX⟩
 have vK:=al ((ab HP).below aX)
 have iO:=al (show Kp bb w w1 from Kp.below aX)
 have sE:=al (Rf (ab vK).bi (by have:=ab Hl;omega) (ab vK).size (lO n) (by have e:(lO n).size=(aI (lO n)).length:=(aZ _).symm;rw[e,mH,List.length_replicate];have:=ab Hl;omega))
 clear aX HR HP c0
 go_wp2_with fail
 refine (ab sE).mono ?_
 rintro e w2 ⟨rfl,eV,bd,lZ⟩
 rw[mH] at eV
 have fH:=al ((ab vK).put eV bd lZ)
 have fI:=al ((ab iO).trans lZ)
 clear eV bd lZ vK iO sE
 go_wp2_with fail
 go_loopg [5,11] ps.length (fun gk _ v11 wr=>∃(i:Nat),v11=.int .i64 (i:Int)∧gk=ps.length-i∧i≤ps.length∧Hid (Pn W B bb dd (L++List.replicate (2*n) 32++(ps.take i).flatMap aI) n wr)∧Hid (Kp bb w wr))
 case atStart=>exact ⟨0,rfl,rfl,by omega,by rw[List.take_zero,List.flatMap_nil,List.append_nil];exact fH,fI⟩
 case round =>
  obtain ⟨i,rfl,aW,hi,pD,na⟩:=hrel
  have bz:=al aW
  clear aW fH fI
  by_cases aM:i<ps.length
  ·obtain ⟨t,ht⟩:∃t,ps[i]?=some t:=⟨_,List.getElem?_eq_getElem aM⟩
   have k3:=ab na _ _ _ _ (ab Hgb) (ab HG) (by decide)
   have x0:wr.cell? ⟨g,i,none⟩=some (.string t):=by
    rw[cell_of_row _ _ _ _ _ _ k3]
    simpa using dT ht
   have ku:=LC ht
   have Ta:=al (Rf (ab pD).bi (by rw[zK,zK,List.length_replicate];have:=ab Hl;omega) (ab pD).size t (by have:=ab Hl;omega))
   have HF:=al (xl ht)
   have i0:(0:Int)≤(i:Int):=zH _
   have i1:(i:Int)<(ps.length:Int):=by omega
   have bu:=al aM
   clear k3 ht ku aM
   go_wp2_with fail
   refine (ab Ta).mono ?_
   rintro e w4 ⟨rfl,P6,ff,nK⟩
   rw[List.append_assoc,←ab HF] at P6
   have zg:=al ((ab pD).put P6 ff nK)
   have zj:=al ((ab na).trans nK)
   clear P6 ff nK pD na Ta HF
   go_wp2
   go_roundg (ps.length-(i+1))
   case measure=>have:=ab bz;have:=ab bu;omega
   case rel=>exact ⟨i+1,by go_num,rfl,ab bu,zg,zj⟩
  ·obtain rfl:i=ps.length:=by omega
   have hP:=ab pD
   rw[List.take_length] at hP
   have Ta:=al (VE hP.bi (by rw[zK,zK,List.length_replicate];have:=ab Hl;omega) hP.size 10)
   have ma:=al hP
   clear hP pD
   go_wp2_with fail
   refine (ab Ta).mono ?_
   rintro e w4 ⟨rfl,P6,ff,nK⟩
   have zg:=al ((ab ma).put P6 ff nK)
   have zj:=al ((ab na).trans nK)
   clear P6 ff nK ma na Ta
   go_wp2
   refine bodyPost_ret (results_none rfl _ _ _) rfl ?_
   have e:L++aY n ps=L++List.replicate (2*n) 32++ps.flatMap aI++[10]:=by unfold aY;simp only[List.append_assoc]
   rw[e]
   exact ⟨rfl,ab zg,ab zj⟩
def bZ (bb dd:Nat):Value:=.func (.func 80) #[] #[.pointer (some ⟨bb,0,none⟩),.pointer (some ⟨dd,0,none⟩)]
def cy (ll dd:Nat):Value:=.func (.func 84) #[] #[.pointer (some ⟨ll,0,none⟩),.pointer (some ⟨dd,0,none⟩)]
def cq (bb:Nat):Value:=.func (.func 85) #[.pointer (some ⟨bb,0,none⟩)] #[]
def Kq (bb dd:Nat) (w w':World):Prop:=∀d cs ty fr,d≠bb→d≠dd→w.heap[d]?=some (.cells cs ty fr)→ty≠5→w'.heap[d]?=some (.cells cs ty fr)
theorem Kp.q {bb dd:Nat}{w w':World} (h:Kp bb w w'):Kq bb dd w w':=fun d cs ty fr h1 _ h3 h4=>h d cs ty fr h1 h3 h4
theorem Kq.trans {bb dd:Nat}{u v w:World} (h:Kq bb dd u v) (k:Kq bb dd v w):Kq bb dd u w:=fun d cs ty fr h1 h2 h3 h4=>k d cs ty fr h1 h2 (h d cs ty fr h1 h2 h3 h4) h4
theorem Kq.dd {bb dd:Nat}{w w':World} (h:w.grownBy w' (some dd)):Kq bb dd w w':=fun d _ _ _ _ h2 h3 _=>(h.block d (zA h3).1 (by simpa using h2)).trans h3
theorem Kq.p {bb dd:Nat}{w w':World} (h:Kq bb dd w w') {n:Int} (h1:w.heap[dd]?=some (.cells #[.int .i64 n] 3 (0,0))) (h2:w'.heap[dd]?=some (.cells #[.int .i64 n] 3 (0,0))):Kp bb w w':=by
 intro d cs ty fr k1 k2 k3
 by_cases e:d=dd
 ·subst e
  rw[h1] at k2
  rw[h2]
  exact k2
 ·exact h d cs ty fr k1 e k2 k3
theorem Pn.at {W w:World}{B bb dd:Nat}{L:List Nat}{n:Nat} (h:Pn W B bb dd L n w) (hd:W.heap.size≤dd) (m:Nat) (hm:m≤1000):Pn W B bb dd L m (w.setCell ⟨dd,0,none⟩ (.int .i64 (m:Int)))∧Kq bb dd w (w.setCell ⟨dd,0,none⟩ (.int .i64 (m:Int))):=by
 obtain ⟨k1,k2⟩:=bh (j:=0) h.dp (.int .i64 (m:Int))
 exact ⟨⟨cn h.bU k2 h.bU.size (fun k e=>by obtain rfl:=zC e;exact hd),h.low,h.bi.kept k2 h.dp (by decide) h.ne,k1,h.ne,hm⟩,Kq.dd k2⟩
theorem my {w:World}{ps:List ByteArray}{bb c g:Nat} (hg:g=w.heap.size) (hb:bb<w.heap.size):Pt (w.alloc (.cells (cc ps).toArray 9)) (.slice (some ⟨g,0,none⟩) ps.length c) ps bb:=by
 subst hg
 exact ⟨_,_,rfl,aJ _ _,by omega⟩
theorem qu {W w:World}{B bb dd ll:Nat}{L I:List Nat}{n:Nat} (h:Pn W B bb dd L n w) (hd:W.heap.size≤dd) (hn:n<1000) (fR:w.heap[ll]?=some (.cells #[bZ bb dd] 85 (0,0))) (fK:ll≠bb) (DW:ll≠dd) {a b:ByteArray}{f:Fv} (dZ:f.ok)
  (hl:L.length+(aY n [a,⟨#[32]⟩,b,⟨#[32,123]⟩]).length+I.length+(aY n [⟨#[125]⟩]).length≤1099511627776)
  (IH:∀w3,Pn W B bb dd (L++aY n [a,⟨#[32]⟩,b,⟨#[32,123]⟩]) (n+1) w3→Kq bb dd w w3→Calls Tryz.prog f.f (f.fs++f.cp) w3 (vI W B bb dd (L++aY n [a,⟨#[32]⟩,b,⟨#[32,123]⟩]++I) (n+1) w3)) :
  Calls Tryz.prog 84 #[.string a,.string b,f.val,.pointer (some ⟨ll,0,none⟩),.pointer (some ⟨dd,0,none⟩)] w (vI W B bb dd (L++(aY n [a,⟨#[32]⟩,b,⟨#[32,123]⟩]++I++aY n [⟨#[125]⟩])) n w):=by
 obtain ⟨qX,ffs,fcp⟩:=f
 unfold Fv.val
 unfold Fv.ok at dZ
 simp only at dZ IH ⊢
 have l0:w.cell? ⟨ll,0,none⟩=some (bZ bb dd):=cell_of_row _ _ _ _ _ _ fR
 unfold bZ at l0 fR
 have aX:Below w.heap.size w (w.alloc (.cells #[.string a,.string ⟨#[32]⟩,.string b,.string ⟨#[32,123]⟩] 9)):=(zE _ _).alloc (zD _) _
 have MY:=al (iG (h.below aX) (my (ps:=[a,⟨#[32]⟩,b,⟨#[32,123]⟩]) (c:=4) rfl h.bi.lt.2) (by omega) (by simp))
 have iO:=al (show Kq bb dd w (w.alloc (.cells #[.string a,.string ⟨#[32]⟩,.string b,.string ⟨#[32,123]⟩] 9)) from (Kp.below aX).q)
 have HD:=al h.dp
 have Us:=al fR
 have Hd:=al hd
 have Hn:=al hn
 have Hl:=al hl
 have PA:=al IH
 have Gf:=al fK
 have MT:=al DW
 obtain ⟨X1,Z0⟩:∃X,aY n [a,⟨#[32]⟩,b,⟨#[32,123]⟩]=X:=⟨_,rfl⟩
 rw[Z0] at MY PA Hl ⊢
 clear h fR aX hd hn hl IH fK DW Z0
 go_enter Tryz.func84,Tryz.ntmps84
 go_wp2_with fail
 refine (ab MY).mono ?_
 rintro e w2 ⟨rfl,y9,lZ⟩
 have gT:=(ab iO).trans lZ.q
 obtain ⟨qR,oy⟩:=y9.at (ab Hd) (n+1) (ab Hn)
 have c2:w2.cell? ⟨dd,0,none⟩=some (.int .i64 (n:Int)):=cell_of_row _ _ _ _ _ _ y9.dp
 have f2:w2.frozen? ⟨dd,0,none⟩=false:=by simp[World.frozen?,y9.dp]
 have pD:=al qR
 have Yi:=al (gT.trans oy)
 have QD:=al (ab PA _ qR (gT.trans oy))
 rw[Int.natCast_add,Int.natCast_one] at pD Yi QD
 have n0:n≤1000:=by have:=ab Hn;omega
 clear y9 lZ gT qR oy MY iO PA l0
 go_wp2_with fail
 refine (ab QD).mono ?_
 rintro e w4 ⟨rfl,Mw,nK⟩
 have PY:=(ab Yi).trans nK.q
 have c4:w4.cell? ⟨dd,0,none⟩=some (.int .i64 ((n:Int)+1)):=cell_of_row _ _ _ _ _ _ Mw.dp
 have f4:w4.frozen? ⟨dd,0,none⟩=false:=by simp[World.frozen?,Mw.dp]
 obtain ⟨nH,RP⟩:=Mw.at (ab Hd) n n0
 have Li:=PY.trans RP
 have l5:(w4.setCell ⟨dd,0,none⟩ (.int .i64 (n:Int))).cell? ⟨ll,0,none⟩=some (.func (.func 80) #[] #[.pointer (some ⟨bb,0,none⟩),.pointer (some ⟨dd,0,none⟩)]):=cell_of_row _ _ _ _ _ _ (Li _ _ _ _ (ab Gf) (ab MT) (ab Us) (by decide))
 obtain ⟨w5,eP⟩:∃x,w4.setCell ⟨dd,0,none⟩ (.int .i64 (n:Int))=x:=⟨_,rfl⟩
 rw[eP] at nH Li l5
 have pa:Below w5.heap.size w5 (w5.alloc (.cells #[.string ⟨#[125]⟩] 9)):=(zE _ _).alloc (zD _) _
 have HL6:=al (iG (nH.below pa) (my (ps:=[⟨#[125]⟩]) (c:=1) rfl nH.bi.lt.2) (by rw[zK,zK];have:=ab Hl;omega) (by simp))
 have HQ6:=al (Li.trans (Kp.below pa).q)
 have ma:=al nH
 clear Mw nK PY nH RP Li pa QD Yi pD c2 f2
 go_wp2_with fail
 refine (ab HL6).mono ?_
 rintro e w7 ⟨rfl,Wo,ZM⟩
 have HE:=al (show vI W B bb dd (L++(X1++I++aY n [⟨#[125]⟩])) n w (.returned (.tuple #[])) w7 from ⟨rfl,by simpa only[List.append_assoc] using Wo,((ab HQ6).trans ZM.q).p (ab HD) Wo.dp⟩)
 clear Wo ZM HL6 HQ6 ma
 go_wp2
 refine bodyPost_ret (results_none rfl _ _ _) rfl ?_
 exact ab HE
end Go.Proofs.YtichhjfjcinjgaaGreatDoor

import Derived.Test.YtghioefalckgoaaGreatDoorYB
import Derived.Test.YtghioefalckgoaaGreatDoorM12
import Derived.Deep.CutBlock
import Derived.Shelf.Strings.Builder1
import Derived.Shelf.Strings.Repeat
set_option maxHeartbeats 2000000
set_option maxRecDepth 100000
namespace Go.Proofs.YtghioefalckgoaaGreatDoor
open Go.RowKit
attribute [local go_sem ↓] Go.wp_at_zero Go.wp_at_succ
theorem aab {c:Nat}{k:Int} (h:k≤(c:Int)):decide ((c:Int)<k)=false:=by simp;omega
theorem aaa {c:Nat}{k:Int} (h:(c:Int)<k):decide ((c:Int)<k)=true:=by simp;omega
theorem eqT {c:Nat}{k:Int} (h:(c:Int)=k):((c:Int)==k)=true:=by simp;omega
end Go.Proofs.YtghioefalckgoaaGreatDoor
namespace Go.Proofs.YtghioefalckgoaaGreatDoor
open Go.RowKit Go.Lib
attribute [local go_sem ↓] Go.wp_at_zero Go.wp_at_succ
end Go.Proofs.YtghioefalckgoaaGreatDoor
namespace Go.Proofs.YtghioefalckgoaaGreatDoor
open Go.RowKit
attribute [local go_sem ↓] Go.wp_at_zero Go.wp_at_succ
theorem aI {W:World}{b j:Nat}{cs:Array Value}{t:TypeId} (h:W.heap[b]?=some (.cells cs t (0,0))) (u:Value):(W.setCell ⟨b,j,none⟩ u).heap[b]?=some (.cells (cs.toList.set j u).toArray t (0,0))∧W.grownBy (W.setCell ⟨b,j,none⟩ u) (some b):=by
 have hr:W.ownsRow 0 t cs.size (.slice (some ⟨b,0,none⟩) 1 1) 1 cs.toList:=⟨by simp,.inr ⟨b,1,cs,rfl,Nat.zero_le _,h,zD _,by unfold maxLen;omega,by simp,by rw[Nat.one_mul];exact List.take_of_length_le (by simp)⟩⟩
 obtain ⟨h1,h2⟩:=World.ownsRow.stored hr j u
 refine ⟨?_,h2⟩
 rcases h1.2 with ⟨e,_⟩|⟨g',c,cur,e,_,h4,_,_,h5,h6⟩
 ·cases e
 ·cases e
  rw[h4]
  have e2:cur.toList=cs.toList.set j u:=by
   rw[←h6,List.take_of_length_le]
   rw[Array.length_toList,h5]
   simp
  have e3:cur=(cs.toList.set j u).toArray:=by rw[←e2]
  rw[e3]
theorem sizeBuilder:(Tryz.prog.info? 139).map (·.size)=some 2:=by kernel_rfl
theorem liesBuilder:liesAt Tryz.prog Tryz.prog.depth 139 (2 / Tryz.prog.cellsOf 139) 0 139 1=true:=by kernel_rfl
theorem xJ:(Tryz.prog.info? 5).map (fun i=>(i.zero,i.size,i.bytes))=some (some (.int .u8 0),1,1):=by kernel_rfl
theorem vK (b:Nat) (w:World) (h0:w.cell? ⟨b,0,none⟩=some (.pointer (some ⟨b,0,none⟩))):Calls Tryz.prog 150 #[.pointer (some ⟨b,0,none⟩)] w fun e w'=>e=.returned (.tuple #[])∧w'=w:=by
 obtain ⟨j,hj,_⟩:=Option.map_eq_some_iff.1 sizeBuilder
 go_enter Tryz.func150,Tryz.ntmps150
 go_wp2
 rw[Lib.run_neq_ptr_same w _ Tryz.underlying136 hj]
 go_wp2
 go_end0
 exact ⟨rfl,rfl⟩
theorem rk (b:Nat) (w:World) (h0:w.cell? ⟨b,0,none⟩=some (.pointer none)) (Tj:w.shape? b=some (139,2)) (hfz:w.frozen? ⟨b,0,none⟩=false) :
  Calls Tryz.prog 150 #[.pointer (some ⟨b,0,none⟩)] w fun e w'=>e=.returned (.tuple #[])∧w'=w.setCell ⟨b,0,none⟩ (.pointer (some ⟨b,0,none⟩)):=by
 obtain ⟨j,hj,Nj⟩:=Option.map_eq_some_iff.1 sizeBuilder
 go_enter Tryz.func150,Tryz.ntmps150
 go_wp2
 rw[Lib.run_to_unsafe w ⟨b,0,none⟩ Tryz.underlying136 Tryz.underlying231 hj (by rw[Nj];decide) Tj (Nat.zero_lt_succ 1)]
 simp only[Result.andThen]
 rw[Oper.upon_value]
 go_wp2
 rw[run_callFunc_extern Tryz.func217 (by kernel_rfl) (by kernel_rfl) (by kernel_rfl) (e:=Extern.AbiNoEscape.same) (by kernel_rfl)]
 rw[Lib.run_noEscape]
 simp only[Result.andThen]
 rw[Oper.upon_value]
 go_wp2
 rw[Lib.run_from_unsafe w ⟨b,0,none⟩ Tryz.underlying231 Tryz.underlying136 hj Tj liesBuilder]
 simp only[Result.andThen]
 rw[Oper.upon_value]
 go_wp2
 go_end0
 exact ⟨rfl,rfl⟩
theorem DP {B b:Nat}{bs bs':List Value}{w1 w2:World}{v v':Value} (hB:B≤b) (bA:w1.heap[b]?=some (.cells #[.pointer (some ⟨b,0,none⟩),v] 139 (0,0))) (cU:w1.ownsRow B 5 1 v bs.length bs) (jN:v.ownBlock≠some b) (hg:w1.grownBy w2 v.ownBlock) (ho:w2.ownsRow B 5 1 v' bs'.length bs') :
  (w2.cell? ⟨b,0,none⟩=some (.pointer (some ⟨b,0,none⟩))∧w2.cell? ⟨b,1,none⟩=some v∧w2.frozen? ⟨b,1,none⟩=false)∧Lib.BuilderAt 139 5 B b (.pointer (some ⟨b,0,none⟩)) bs' (w2.setCell ⟨b,1,none⟩ v')∧Below B w1 (w2.setCell ⟨b,1,none⟩ v'):=by
 have hl:b<w1.heap.size:=(zA bA).1
 have b9:=(hg.block b hl (fun e=>jN e.symm)).trans bA
 obtain ⟨k1,k2⟩:=aI (j:=1) b9 v'
 have hn:v'.ownBlock≠some b:=fun e=>by
  rcases ho.2 with ⟨rfl,_⟩|⟨g,cap,cur,rfl,_,h2,_⟩
  ·cases e
  ·obtain rfl:g=b:=by simpa[Value.ownBlock] using e
   rw[h2] at b9
   simp at b9
 have cK:Below B w1 w2:=⟨hg.os,hg.tape,hg.output,hg.size,fun k hk=>hg.block k (by omega) (fun e=>by have:=(cU.lt k e.symm).1;omega)⟩
 refine ⟨⟨?_,?_,by simp[World.frozen?,b9]⟩,⟨hB,v',k1,ho.kept k2 ?_,hn⟩,cK.trans ⟨k2.os,k2.tape,k2.output,k2.size,fun k hk=>k2.block k (by have:=hg.size;omega) (by simp;omega)⟩⟩
 ·rw[cell_of_row _ _ _ _ _ _ b9];rfl
 ·rw[cell_of_row _ _ _ _ _ _ b9];rfl
 ·cases e:v'.ownBlock with
  |none=>exact .inl rfl
  |some k=>exact .inr (fun q=>hn (e.trans q))
theorem DM {B n:Nat}{w:World}{v:Value}{xs:List Value} (h:w.ownsRow B 5 1 v n xs):∃a l c,v=.slice a l c:=by
 rcases h.2 with ⟨rfl,_⟩|⟨g,cap,_,rfl,_⟩
 ·exact ⟨_,_,_,rfl⟩
 ·exact ⟨_,_,_,rfl⟩
end Go.Proofs.YtghioefalckgoaaGreatDoor
namespace Go.Proofs
open Go.Shelf
def Tryz.kR:Go.Shelf.Ren:=⟨fun|169=>104|n=>n,fun|70=>136|9=>9|0=>0|72=>139|37=>137|127=>165|3=>3|5=>5|n=>n,fun|n=>n⟩
theorem Tryz.yL:Go.Proofs.Lays.n169 Tryz.prog Tryz.kR:={
 mixed:=by kernel_rfl
 f169:=Tryz.func104.trans (congrArg some (by kernel_rfl))
 t0:=Tryz.underlying0
 a0:=Tryz.isAgg0
 z0:=Tryz.sizeOf0
 v0:=Tryz.zeroValue0
 t3:=Tryz.underlying3
 a3:=Tryz.isAgg3
 z3:=Tryz.sizeOf3
 v3:=Tryz.zeroValue3
 t9:=Tryz.underlying9
 a9:=Tryz.isAgg9
 z9:=Tryz.sizeOf9
 v9:=Tryz.zeroValue9
 t37:=Tryz.underlying137
 a37:=Tryz.isAgg137
 z37:=Tryz.sizeOf137
 v37:=Tryz.zeroValue137
 t70:=Tryz.underlying136
 a70:=Tryz.isAgg136
 z70:=Tryz.sizeOf136
 v70:=Tryz.zeroValue136
 t72:=Tryz.underlying139
 a72:=Tryz.isAgg139
 z72:=Tryz.sizeOf139
 v72:=Tryz.zeroValue139
 t127:=Tryz.underlying165
 a127:=Tryz.isAgg165
 z127:=Tryz.sizeOf165
 v127:=Tryz.zeroValue165 }
end Go.Proofs
namespace Go.Proofs.YtghioefalckgoaaGreatDoor
open Go.RowKit Go.Shelf
attribute [local go_sem ↓] Go.wp_at_zero Go.wp_at_succ
def Kp (b:Nat) (w w':World):Prop:=∀d cs ty fr,d≠b→w.heap[d]?=some (.cells cs ty fr)→ty≠5→w'.heap[d]?=some (.cells cs ty fr)
theorem Kp.refl (b:Nat) (w:World):Kp b w w:=fun _ _ _ _ _ h _=>h
theorem Kp.trans {b:Nat}{u v w:World} (h:Kp b u v) (k:Kp b v w):Kp b u w:=fun d cs ty fr h1 h2 h3=>k d cs ty fr h1 (h d cs ty fr h1 h2 h3) h3
theorem Kp.grown {b:Nat}{w w':World} (h:w.grownBy w' (some b)):Kp b w w':=fun d cs ty fr h1 h2 _=>(h.block d (zA h2).1 (by simp;omega)).trans h2
theorem pf (B b:Nat) (bs:List Value) (w:World) (h:Lib.IsBuilder 139 5 B b bs w) :
  Calls Tryz.prog 150 #[.pointer (some ⟨b,0,none⟩)] w fun e w'=>e=.returned (.tuple #[])∧(Lib.BuilderAt 139 5 B b (.pointer (some ⟨b,0,none⟩)) bs w'∧Below B w w')∧Kp b w w':=by
 rcases h with h|h
 ·refine (rk b w h.cell0 h.shape h.frozen0).mono ?_
  rintro e w' ⟨rfl,rfl⟩
  obtain ⟨_,v,bA,_⟩:=id h
  exact ⟨rfl,⟨h.used _,(zE B w).setCell (p:=⟨b,0,none⟩) h.1 _⟩,Kp.grown (aI bA _).2⟩
 ·refine (vK b w h.cell0).mono ?_
  rintro e w' ⟨rfl,rfl⟩
  exact ⟨rfl,⟨h,zE B _⟩,Kp.refl _ _⟩
theorem IS {B b:Nat}{bs:List Value}{w1 w2:World}{v v':Value} (bA:w1.heap[b]?=some (.cells #[.pointer (some ⟨b,0,none⟩),v] 139 (0,0))) (cU:w1.ownsRow B 5 1 v bs.length bs) (jN:v.ownBlock≠some b) (hg:w1.grownBy w2 v.ownBlock):Kp b w1 (w2.setCell ⟨b,1,none⟩ v'):=by
 have hl:b<w1.heap.size:=(zA bA).1
 have b9:=(hg.block b hl (fun e=>jN e.symm)).trans bA
 refine Kp.trans (v:=w2) ?_ (Kp.grown (aI (j:=1) b9 v').2)
 intro d cs ty fr h1 h2 h3
 refine (hg.block d (zA h2).1 (fun e=>?_)).trans h2
 rcases cU.2 with ⟨rfl,_⟩|⟨g,cap,cur,rfl,_,h4,_⟩
 ·cases e
 ·obtain rfl:d=g:=by simpa[Value.ownBlock] using e
  rw[h4] at h2
  simp at h2
  exact h3 h2.2.1.symm
theorem uw (B b:Nat) (bs:List Value) (s:ByteArray) (w:World) (h:Lib.IsBuilder 139 5 B b bs w) (hlen:bs.length+s.size≤140737488355328) (BT:B≤w.heap.size) :
  Calls Tryz.prog 100 #[.pointer (some ⟨b,0,none⟩),.string s] w fun e w'=>e=.returned (.tuple #[.int .i64 s.size,.nilIface])∧(Lib.BuilderAt 139 5 B b (.pointer (some ⟨b,0,none⟩)) (bs++Lib.strCells s) w'∧Below B w w')∧Kp b w w':=by
 obtain ⟨i0,hi,fX,gp,fJ⟩:=info_parts xJ
 have hc:=ak (pf B b bs w h)
 clear h
 go_enter Tryz.func100,Tryz.ntmps100
 go_wp2_with fail
 refine (ab hc).mono ?_
 rintro e w1 ⟨rfl,⟨⟨hB,v,bA,cU,jN⟩,aY⟩,rb⟩
 have s1:=aY.size
 have c1:w1.cell? ⟨b,1,none⟩=some v:=by rw[cell_of_row _ _ _ _ _ _ bA];rfl
 have xb:=ak aY
 have gW:=ak cU
 have Gq:=ak bA
 have pv:=ak jN
 have Hk1:=ak rb
 clear aY cU bA jN hc rb
 go_wp2_with (at_builtin;refine Lib.wpList_append_own_string _ rfl _ _ 137 9 rfl B 5 i0 Tryz.underlying137 Tryz.underlying9 hi fX gp fJ _ _ _ rfl (ab gW) s rfl (by unfold maxLen;omega) (by omega) (by omega) ?_;intro v' w2 ho hg _;obtain ⟨⟨d0,d1,f1⟩,JG⟩:=DP (bs':=bs++Lib.strCells s) hB (ab Gq) (ab gW) (ab pv) hg (by rw[zK,Lib.strCells_length];exact ho);have Lb:=ak JG;have Hkp:=ak (IS (v':=v') (ab Gq) (ab gW) (ab pv) hg);obtain ⟨a',l',c',rfl⟩:=DM ho;clear ho hg JG)
 go_ret2
 exact ⟨rfl,⟨(ab Lb).1,(ab xb).trans (ab Lb).2⟩,(ab Hk1).trans (ab Hkp)⟩
theorem RE:Builder.Extra Tryz.prog Tryz.kR:={
 sizeBuilder:=by kernel_rfl
 liesBuilder:=by kernel_rfl
 t5:=Tryz.underlying5
 a5:=Tryz.isAgg5
 z5:=Tryz.sizeOf5
 v5:=Tryz.zeroValue5
 infoByte:=by kernel_rfl
 cellsByte:=by kernel_rfl
 sizeByte:=by kernel_rfl
 neB5:=by decide }
theorem Bu (B b:Nat) (l:List UInt8) (w:World) (h:Lib.IsBuilder 139 5 B b (Lib.byteCells l) w) (BT:B≤w.heap.size):Calls Tryz.prog 104 #[.pointer (some ⟨b,0,none⟩)] w fun e w'=>e=.returned (.string ⟨l.toArray⟩)∧Below B w w':=Any.Builder_String_any Tryz.yL RE B b l w h BT
def BI (B b:Nat) (L:List Nat) (w:World):Prop:=Lib.IsBuilder 139 5 B b (nb L) w
theorem I5 {L:List Nat} (h:pz L):nb L=Lib.byteCells (L.map UInt8.ofNat):=by
 unfold nb Lib.byteCells
 rw[List.map_map]
 apply List.map_congr_left
 intro x hx
 have:=h x hx
 simp only[Function.comp,UInt8.toNat_ofNat']
 congr 2
 omega
theorem ET (s:ByteArray):Lib.strCells s=nb (aO s):=by
 unfold Lib.strCells nb aO
 simp[List.map_map]
theorem UG {B b:Nat}{L:List Nat}{w:World} (h:BI B b L w) (hl:L.length≤1099511627776) (BT:B≤w.heap.size) (x:ByteArray) (hx:x.size≤1099511627776):Calls Tryz.prog 100 #[.pointer (some ⟨b,0,none⟩),.string x] w fun e w'=>e=.returned (.tuple #[.int .i64 x.size,.nilIface])∧BI B b (L++aO x) w'∧Below B w w'∧Kp b w w':=by
 refine (uw B b (nb L) x w h (by rw[I4];omega) BT).mono ?_
 rintro e w' ⟨rfl,⟨h1,h2⟩,h3⟩
 refine ⟨rfl,?_,h2,h3⟩
 unfold BI
 rw[mF,←ET]
 exact .inr h1
theorem aaF {B b:Nat}{L:List Nat}{w:World} (h:BI B b L w) (hb:pz L) (BT:B≤w.heap.size):Calls Tryz.prog 104 #[.pointer (some ⟨b,0,none⟩)] w fun e w'=>e=.returned (.string (zS L))∧Below B w w':=by
 unfold BI at h
 rw[I5 hb] at h
 exact Bu B b _ w h BT
end Go.Proofs.YtghioefalckgoaaGreatDoor
namespace Go.Proofs
open Go.Shelf
def Tryz.na:Go.Shelf.Ren:=⟨fun|105=>101|212=>151|99=>152|165=>153|166=>100|170=>154|169=>104|263=>218|264=>219|206=>220|240=>150|241=>221|276=>217|277=>270|n=>n,fun|9=>9|3=>3|4=>4|20=>20|0=>0|46=>181|109=>182|5=>5|72=>139|76=>142|51=>233|146=>234|53=>236|148=>237|70=>136|37=>137|75=>141|127=>165|164=>231|80=>99|n=>n,fun|n=>n⟩
theorem Tryz.pT:Go.Proofs.Lays.n105 Tryz.prog Tryz.na:={
 mixed:=by kernel_rfl
 f99:=Tryz.func152.trans (congrArg some (by kernel_rfl))
 f105:=Tryz.func101.trans (congrArg some (by kernel_rfl))
 f165:=Tryz.func153.trans (congrArg some (by kernel_rfl))
 f166:=Tryz.func100.trans (congrArg some (by kernel_rfl))
 f169:=Tryz.func104.trans (congrArg some (by kernel_rfl))
 f170:=Tryz.func154.trans (congrArg some (by kernel_rfl))
 f206:=Tryz.func220.trans (congrArg some (by kernel_rfl))
 f212:=Tryz.func151.trans (congrArg some (by kernel_rfl))
 f240:=Tryz.func150.trans (congrArg some (by kernel_rfl))
 f241:=Tryz.func221.trans (congrArg some (by kernel_rfl))
 f263:=Tryz.func218.trans (congrArg some (by kernel_rfl))
 f264:=Tryz.func219.trans (congrArg some (by kernel_rfl))
 f276:=Tryz.func217.trans (congrArg some (by kernel_rfl))
 f277:=Tryz.func270.trans (congrArg some (by kernel_rfl))
 t0:=Tryz.underlying0
 a0:=Tryz.isAgg0
 z0:=Tryz.sizeOf0
 v0:=Tryz.zeroValue0
 t3:=Tryz.underlying3
 a3:=Tryz.isAgg3
 z3:=Tryz.sizeOf3
 v3:=Tryz.zeroValue3
 t4:=Tryz.underlying4
 a4:=Tryz.isAgg4
 z4:=Tryz.sizeOf4
 v4:=Tryz.zeroValue4
 t5:=Tryz.underlying5
 a5:=Tryz.isAgg5
 z5:=Tryz.sizeOf5
 v5:=Tryz.zeroValue5
 t9:=Tryz.underlying9
 a9:=Tryz.isAgg9
 z9:=Tryz.sizeOf9
 v9:=Tryz.zeroValue9
 t20:=Tryz.underlying20
 a20:=Tryz.isAgg20
 z20:=Tryz.sizeOf20
 v20:=Tryz.zeroValue20
 t37:=Tryz.underlying137
 a37:=Tryz.isAgg137
 z37:=Tryz.sizeOf137
 v37:=Tryz.zeroValue137
 t46:=Tryz.underlying181
 a46:=Tryz.isAgg181
 z46:=Tryz.sizeOf181
 v46:=Tryz.zeroValue181
 t51:=Tryz.underlying233
 a51:=Tryz.isAgg233
 z51:=Tryz.sizeOf233
 v51:=Tryz.zeroValue233
 t53:=Tryz.underlying236
 a53:=Tryz.isAgg236
 z53:=Tryz.sizeOf236
 v53:=Tryz.zeroValue236
 t70:=Tryz.underlying136
 a70:=Tryz.isAgg136
 z70:=Tryz.sizeOf136
 v70:=Tryz.zeroValue136
 t72:=Tryz.underlying139
 a72:=Tryz.isAgg139
 z72:=Tryz.sizeOf139
 v72:=Tryz.zeroValue139
 t75:=Tryz.underlying141
 a75:=Tryz.isAgg141
 z75:=Tryz.sizeOf141
 v75:=Tryz.zeroValue141
 t76:=Tryz.underlying142
 a76:=Tryz.isAgg142
 z76:=Tryz.sizeOf142
 v76:=Tryz.zeroValue142
 t109:=Tryz.underlying182
 a109:=Tryz.isAgg182
 z109:=Tryz.sizeOf182
 v109:=Tryz.zeroValue182
 t127:=Tryz.underlying165
 a127:=Tryz.isAgg165
 z127:=Tryz.sizeOf165
 v127:=Tryz.zeroValue165
 t146:=Tryz.underlying234
 a146:=Tryz.isAgg234
 z146:=Tryz.sizeOf234
 v146:=Tryz.zeroValue234
 t148:=Tryz.underlying237
 a148:=Tryz.isAgg237
 z148:=Tryz.sizeOf237
 v148:=Tryz.zeroValue237
 t164:=Tryz.underlying231
 a164:=Tryz.isAgg231
 z164:=Tryz.sizeOf231
 v164:=Tryz.zeroValue231 }
end Go.Proofs
namespace Go.Proofs.YtghioefalckgoaaGreatDoor
open Go.RowKit Go.Shelf
attribute [local go_sem ↓] Go.wp_at_zero Go.wp_at_succ
theorem yb (B b:Nat) (bs:List Value) (c:Int) (w:World) (h:Lib.IsBuilder 139 5 B b bs w) (hlen:bs.length+1≤140737488355328) (BT:B≤w.heap.size) :
  Calls Tryz.prog 102 #[.pointer (some ⟨b,0,none⟩),.int .u8 c] w fun e w'=>e=.returned .nilIface∧(Lib.BuilderAt 139 5 B b (.pointer (some ⟨b,0,none⟩)) (bs++[.int .u8 c]) w'∧Below B w w')∧Kp b w w':=by
 obtain ⟨i0,hi,fX,gp,fJ⟩:=info_parts xJ
 have hc:=ak (pf B b bs w h)
 clear h
 go_enter Tryz.func102,Tryz.ntmps102
 go_wp2_with fail
 refine (ab hc).mono ?_
 rintro e w1 ⟨rfl,⟨⟨hB,v,bA,cU,jN⟩,aY⟩,rb⟩
 have s1:=aY.size
 have c1:w1.cell? ⟨b,1,none⟩=some v:=by rw[cell_of_row _ _ _ _ _ _ bA];rfl
 have xb:=ak aY
 have gW:=ak cU
 have Gq:=ak bA
 have pv:=ak jN
 have Hk1:=ak rb
 clear aY cU bA jN hc rb
 go_wp2_with (at_builtin;refine wpList_append_own_at _ rfl _ _ 137 rfl B 5 i0 (.int .u8 0) 1 1 Tryz.underlying137 hi fX gp fJ rfl (by decide) _ _ _ rfl ((ab gW).alloc _) ⟨w1.heap.size,0,none⟩ 1 1 [.int .u8 c] rfl rfl (cell_one_new _ _ _) (by simp[Value.oneCell']) (by unfold maxLen;omega) (by omega) (by rw[zJ];omega) ?_;intro v' w2 ho hg _ _;have cE:=(World.grownBy_alloc w1 _ _).trans hg;obtain ⟨⟨d0,d1,f1⟩,JG⟩:=DP (bs':=bs++[.int .u8 c]) hB (ab Gq) (ab gW) (ab pv) cE (by rw[zK];exact ho);have Lb:=ak JG;have Hkp:=ak (IS (v':=v') (ab Gq) (ab gW) (ab pv) cE);obtain ⟨a',l',c',rfl⟩:=DM ho;clear ho hg JG cE)
 go_ret
 exact ⟨rfl,⟨(ab Lb).1,(ab xb).trans (ab Lb).2⟩,(ab Hk1).trans (ab Hkp)⟩
theorem ZV {B b:Nat}{L:List Nat}{w:World} (h:BI B b L w) (hl:L.length≤1099511627776) (BT:B≤w.heap.size) (x:Nat):Calls Tryz.prog 102 #[.pointer (some ⟨b,0,none⟩),.int .u8 (x:Int)] w fun e w'=>e=.returned .nilIface∧BI B b (L++[x]) w'∧Below B w w'∧Kp b w w':=by
 refine (yb B b (nb L) (x:Int) w h (by rw[I4];omega) BT).mono ?_
 rintro e w' ⟨rfl,⟨h1,h2⟩,h3⟩
 refine ⟨rfl,?_,h2,h3⟩
 unfold BI
 rw[mF]
 exact .inr h1
theorem RC:Builder.Extra Tryz.prog Tryz.na:={
 sizeBuilder:=by kernel_rfl
 liesBuilder:=by kernel_rfl
 t5:=Tryz.underlying5
 a5:=Tryz.isAgg5
 z5:=Tryz.sizeOf5
 v5:=Tryz.zeroValue5
 infoByte:=by kernel_rfl
 cellsByte:=by kernel_rfl
 sizeByte:=by kernel_rfl
 neB5:=by decide }
def lE (n:Nat):ByteArray:=⟨(Lib.repeatL [32,32] n).toArray⟩
theorem mn:∀n,aO (lE n)=List.replicate (2*n) 32
 |0=>rfl
 |n+1=>by
  have ih:=mn n
  have e:aO (lE (n+1))=32::32::aO (lE n):=rfl
  rw[e,ih,show 2*(n+1)=(2*n+1)+1 by omega]
  rfl
theorem Co (n:Nat) (hn:n≤1000) (w:World):Calls Tryz.prog 101 #[.string ⟨#[32,32]⟩,.int .i64 (n:Int)] w fun e w'=>e=.returned (.string (lE n))∧Below w.heap.size w w':=by
 match n,hn with
 |0,_ =>
  refine (Any.strings_Repeat_zero Tryz.pT ⟨#[32,32]⟩ w).mono ?_
  rintro e w' ⟨rfl,rfl⟩
  exact ⟨rfl,zE _ _⟩
 |1,_ =>
  refine (Any.strings_Repeat_one Tryz.pT ⟨#[32,32]⟩ w).mono ?_
  rintro e w' ⟨rfl,rfl⟩
  exact ⟨rfl,zE _ _⟩
 |k+2,hn =>
  exact Any.strings_Repeat_main Tryz.pT RC ⟨#[32,32]⟩ (k+2) w (by omega) (by omega) (by show 2*(k+2)≤_;omega) (by decide)
end Go.Proofs.YtghioefalckgoaaGreatDoor
namespace Go.Proofs.YtghioefalckgoaaGreatDoor
open Go.RowKit
attribute [local go_sem ↓] Go.wp_at_zero Go.wp_at_succ
theorem Kp.below {b:Nat}{w w':World} (h:Below w.heap.size w w'):Kp b w w':=fun d _ _ _ _ h2 _=>(h.block d (zA h2).1).trans h2
def bK (n:Nat) (ps:List ByteArray):List Nat:=List.replicate (2*n) 32++ps.flatMap aO++[10]
structure Pn (W:World) (B bb dd:Nat) (L:List Nat) (n:Nat) (w:World):Prop where
 bh:Below W.heap.size W w
 low:W.heap.size≤B
 bi:BI B bb L w
 dp:w.heap[dd]?=some (.cells #[.int .i64 (n:Int)] 3 (0,0))
 ne:bb≠dd
 deep:n≤1000
theorem BI.lt {B bb:Nat}{L:List Nat}{W:World} (h:BI B bb L W):B≤bb∧bb<W.heap.size:=by
 rcases h with k|k
 ·obtain ⟨k1,_,k2,_⟩:=k;exact ⟨k1,(zA k2).1⟩
 ·obtain ⟨k1,_,k2,_⟩:=k;exact ⟨k1,(zA k2).1⟩
theorem BI.up {B bb:Nat}{L:List Nat}{W w:World} (h:BI B bb L W) (hb:Below W.heap.size W w):BI B bb L w:=by
 have key:∀{p:Value},Lib.BuilderAt 139 5 B bb p (nb L) W→Lib.BuilderAt 139 5 B bb p (nb L) w:=by
  rintro p ⟨h1,v,bA,cU,jN⟩
  refine ⟨h1,v,(hb.block bb (zA bA).1).trans bA,cU.kept (show W.grownBy w none from ⟨hb.os,hb.tape,hb.output,hb.size,fun k hk _=>hb.block k hk⟩) ?_,jN⟩
  cases v.ownBlock with
  |none=>exact .inl rfl
  |some k=>exact .inr (by simp)
 rcases h with h|h
 ·exact .inl (key h)
 ·exact .inr (key h)
theorem BI.kept {B bb b:Nat}{L:List Nat}{W w:World}{cs:Array Value}{t:TypeId}{fr:Nat×Nat} (h:BI B bb L W) (hg:W.grownBy w (some b)) (hb:W.heap[b]?=some (.cells cs t fr)) (ht:t≠5) (hn:bb≠b):BI B bb L w:=by
 have key:∀{p:Value},Lib.BuilderAt 139 5 B bb p (nb L) W→Lib.BuilderAt 139 5 B bb p (nb L) w:=by
  rintro p ⟨h1,v,bA,cU,jN⟩
  refine ⟨h1,v,(hg.block bb (zA bA).1 (by simpa using hn)).trans bA,cU.kept hg ?_,jN⟩
  rcases cU.2 with ⟨rfl,_⟩|⟨g,cap,cur,rfl,_,h4,_⟩
  ·exact .inl rfl
  ·refine .inr (fun e=>?_)
   obtain rfl:g=b:=by simpa[Value.ownBlock] using e
   rw[h4] at hb
   simp at hb
   exact ht hb.2.1.symm
 rcases h with h|h
 ·exact .inl (key h)
 ·exact .inr (key h)
theorem Pn.below {W w w':World}{B bb dd:Nat}{L:List Nat}{n:Nat} (h:Pn W B bb dd L n w) (hb:Below w.heap.size w w'):Pn W B bb dd L n w' :=
 ⟨h.bh.trans (hb.mono h.bh.size),h.low,h.bi.up hb,(hb.block _ (zA h.dp).1).trans h.dp,h.ne,h.deep⟩
theorem Pn.put {W w w':World}{B bb dd:Nat}{L L':List Nat}{n:Nat} (h:Pn W B bb dd L n w) (hi:BI B bb L' w') (hb:Below B w w') (hk:Kp bb w w'):Pn W B bb dd L' n w' :=
 ⟨h.bh.trans (hb.mono h.low),h.low,hi,hk _ _ _ _ (fun e=>h.ne e.symm) h.dp (by decide),h.ne,h.deep⟩
theorem Pn.size {W w:World}{B bb dd:Nat}{L:List Nat}{n:Nat} (h:Pn W B bb dd L n w):B≤w.heap.size:=Nat.le_of_lt (Nat.lt_of_le_of_lt h.bi.lt.1 h.bi.lt.2)
def wu (W:World) (B bb dd:Nat) (L:List Nat) (n:Nat) (w:World) (e:Ending) (w':World):Prop:=e=.returned (.tuple #[])∧Pn W B bb dd L n w'∧Kp bb w w'
def Pt (w:World) (v:Value) (ps:List ByteArray) (bb:Nat):Prop:=∃g c,v=.slice (some ⟨g,0,none⟩) ps.length c∧w.heap[g]?=some (.cells (bj ps).toArray 9 (0,0))∧g≠bb
theorem xP {ps:List ByteArray}{i:Nat}{t:ByteArray} (h:ps[i]?=some t):(ps.take (i+1)).flatMap aO=(ps.take i).flatMap aO++aO t:=by
 obtain ⟨hi,rfl⟩:=zB h
 rw[List.take_succ_eq_append_getElem hi,List.flatMap_append]
 simp
theorem NB {ps:List ByteArray}{i:Nat}{t:ByteArray} (h:ps[i]?=some t):((ps.take i).flatMap aO).length+t.size≤(ps.flatMap aO).length:=by
 have e:ps.flatMap aO=(ps.take (i+1)).flatMap aO++(ps.drop (i+1)).flatMap aO:=by rw[←List.flatMap_append,List.take_append_drop]
 rw[e,xP h,zK,zK,bg]
 omega
theorem gQ {W w:World}{B bb dd:Nat}{L:List Nat}{n:Nat} (h:Pn W B bb dd L n w) {v:Value}{ps:List ByteArray} (hp:Pt w v ps bb) (hl:L.length+(bK n ps).length≤1099511627776) (qG:ps.length≤100) :
  Calls Tryz.prog 99 #[v,.pointer (some ⟨bb,0,none⟩),.pointer (some ⟨dd,0,none⟩)] w (wu W B bb dd (L++bK n ps) n w):=by
 obtain ⟨g,c,rfl,hg,CT⟩:=hp
 have fR:(bK n ps).length=2*n+(ps.flatMap aO).length+1:=by simp[bK];omega
 rw[fR] at hl
 have HP:=ak h
 have c0:w.cell? ⟨dd,0,none⟩=some (.int .i64 (n:Int)):=cell_of_row _ _ _ _ _ _ h.dp
 have HR:=ak (Co n h.deep w)
 have HG:=ak hg
 have Hgb:=ak CT
 have Hl:=ak hl
 clear h hg CT hl fR
 go_enter Tryz.func99,Tryz.ntmps99
 go_wp2_with fail
 refine (ab HR).mono ?_
 rintro e w1 ⟨rfl,aY⟩
 have BD:=ak ((ab HP).below aY)
 have x8:=ak (show Kp bb w w1 from Kp.below aY)
 have W5:=ak (UG (ab BD).bi (by have:=ab Hl;omega) (ab BD).size (lE n) (by have e:(lE n).size=(aO (lE n)).length:=(bg _).symm;rw[e,mn,List.length_replicate];have:=ab Hl;omega))
 clear aY HR HP c0
 go_wp2_with fail
 refine (ab W5).mono ?_
 rintro e w2 ⟨rfl,fY,b9,ra⟩
 rw[mn] at fY
 have gH:=ak ((ab BD).put fY b9 ra)
 have jT:=ak ((ab x8).trans ra)
 clear fY b9 ra BD x8 W5
 go_wp2_with fail
 go_loopg [5,11] ps.length (fun gk _ v11 wr=>∃(i:Nat),v11=.int .i64 (i:Int)∧gk=ps.length-i∧i≤ps.length∧Hid (Pn W B bb dd (L++List.replicate (2*n) 32++(ps.take i).flatMap aO) n wr)∧Hid (Kp bb w wr))
 case atStart=>exact ⟨0,rfl,rfl,by omega,by rw[List.take_zero,List.flatMap_nil,List.append_nil];exact gH,jT⟩
 case round =>
  obtain ⟨i,rfl,bd,hi,wD,wE⟩:=hrel
  have bH:=ak bd
  clear bd gH jT
  by_cases aU:i<ps.length
  ·obtain ⟨t,ht⟩:∃t,ps[i]?=some t:=⟨_,List.getElem?_eq_getElem aU⟩
   have k3:=ab wE _ _ _ _ (ab Hgb) (ab HG) (by decide)
   have x0:wr.cell? ⟨g,i,none⟩=some (.string t):=by
    rw[cell_of_row _ _ _ _ _ _ k3]
    simpa using gJ ht
   have gR:=NB ht
   have W4:=ak (UG (ab wD).bi (by rw[zK,zK,List.length_replicate];have:=ab Hl;omega) (ab wD).size t (by have:=ab Hl;omega))
   have HF:=ak (xP ht)
   have i0:(0:Int)≤(i:Int):=zH _
   have i1:(i:Int)<(ps.length:Int):=by omega
   have bn:=ak aU
   clear k3 ht gR aU
   go_wp2_with fail
   refine (ab W4).mono ?_
   rintro e w4 ⟨rfl,Tp,lb,vw⟩
   rw[List.append_assoc,←ab HF] at Tp
   have LQ:=ak ((ab wD).put Tp lb vw)
   have LR:=ak ((ab wE).trans vw)
   clear Tp lb vw wD wE W4 HF
   go_wp2
   go_roundg (ps.length-(i+1))
   case measure=>have:=ab bH;have:=ab bn;omega
   case rel=>exact ⟨i+1,by go_num,rfl,ab bn,LQ,LR⟩
  ·obtain rfl:i=ps.length:=by omega
   have hP:=ab wD
   rw[List.take_length] at hP
   have W4:=ak (ZV hP.bi (by rw[zK,zK,List.length_replicate];have:=ab Hl;omega) hP.size 10)
   have xd:=ak hP
   clear hP wD
   go_wp2_with fail
   refine (ab W4).mono ?_
   rintro e w4 ⟨rfl,Tp,lb,vw⟩
   have LQ:=ak ((ab xd).put Tp lb vw)
   have LR:=ak ((ab wE).trans vw)
   clear Tp lb vw xd wE W4
   go_wp2
   refine bodyPost_ret (results_none rfl _ _ _) rfl ?_
   have e:L++bK n ps=L++List.replicate (2*n) 32++ps.flatMap aO++[10]:=by unfold bK;simp only[List.append_assoc]
   rw[e]
   exact ⟨rfl,ab LQ,ab LR⟩
def bF (bb dd:Nat):Value:=.func (.func 99) #[] #[.pointer (some ⟨bb,0,none⟩),.pointer (some ⟨dd,0,none⟩)]
def bN (ll dd:Nat):Value:=.func (.func 103) #[] #[.pointer (some ⟨ll,0,none⟩),.pointer (some ⟨dd,0,none⟩)]
def bJ (bb:Nat):Value:=.func (.func 104) #[.pointer (some ⟨bb,0,none⟩)] #[]
def Kq (bb dd:Nat) (w w':World):Prop:=∀d cs ty fr,d≠bb→d≠dd→w.heap[d]?=some (.cells cs ty fr)→ty≠5→w'.heap[d]?=some (.cells cs ty fr)
theorem Kp.q {bb dd:Nat}{w w':World} (h:Kp bb w w'):Kq bb dd w w':=fun d cs ty fr h1 _ h3 h4=>h d cs ty fr h1 h3 h4
theorem Kq.trans {bb dd:Nat}{u v w:World} (h:Kq bb dd u v) (k:Kq bb dd v w):Kq bb dd u w:=fun d cs ty fr h1 h2 h3 h4=>k d cs ty fr h1 h2 (h d cs ty fr h1 h2 h3 h4) h4
theorem Kq.dd {bb dd:Nat}{w w':World} (h:w.grownBy w' (some dd)):Kq bb dd w w':=fun d _ _ _ _ h2 h3 _=>(h.block d (zA h3).1 (by simpa using h2)).trans h3
theorem Kq.p {bb dd:Nat}{w w':World} (h:Kq bb dd w w') {n:Int} (h1:w.heap[dd]?=some (.cells #[.int .i64 n] 3 (0,0))) (h2:w'.heap[dd]?=some (.cells #[.int .i64 n] 3 (0,0))):Kp bb w w':=by
 intro d cs ty fr k1 k2 k3
 by_cases e:d=dd
 ·subst e
  rw[h1] at k2
  rw[h2]
  exact k2
 ·exact h d cs ty fr k1 e k2 k3
theorem Pn.at {W w:World}{B bb dd:Nat}{L:List Nat}{n:Nat} (h:Pn W B bb dd L n w) (hd:W.heap.size≤dd) (m:Nat) (hm:m≤1000):Pn W B bb dd L m (w.setCell ⟨dd,0,none⟩ (.int .i64 (m:Int)))∧Kq bb dd w (w.setCell ⟨dd,0,none⟩ (.int .i64 (m:Int))):=by
 obtain ⟨k1,k2⟩:=aI (j:=0) h.dp (.int .i64 (m:Int))
 exact ⟨⟨cj h.bh k2 h.bh.size (fun k e=>by obtain rfl:=zC e;exact hd),h.low,h.bi.kept k2 h.dp (by decide) h.ne,k1,h.ne,hm⟩,Kq.dd k2⟩
theorem lZ {w:World}{ps:List ByteArray}{bb c g:Nat} (hg:g=w.heap.size) (hb:bb<w.heap.size):Pt (w.alloc (.cells (bj ps).toArray 9)) (.slice (some ⟨g,0,none⟩) ps.length c) ps bb:=by
 subst hg
 exact ⟨_,_,rfl,aE _ _,by omega⟩
theorem qi {W w:World}{B bb dd ll:Nat}{L I:List Nat}{n:Nat} (h:Pn W B bb dd L n w) (hd:W.heap.size≤dd) (hn:n<1000) (fR:w.heap[ll]?=some (.cells #[bF bb dd] 97 (0,0))) (fa:ll≠bb) (vX:ll≠dd) {a b:ByteArray}{f:Fv} (db:f.ok)
  (hl:L.length+(bK n [a,⟨#[32]⟩,b,⟨#[32,123]⟩]).length+I.length+(bK n [⟨#[125]⟩]).length≤1099511627776)
  (Fx:∀w3,Pn W B bb dd (L++bK n [a,⟨#[32]⟩,b,⟨#[32,123]⟩]) (n+1) w3→Kq bb dd w w3→Calls Tryz.prog f.f (f.fs++f.cp) w3 (wu W B bb dd (L++bK n [a,⟨#[32]⟩,b,⟨#[32,123]⟩]++I) (n+1) w3)) :
  Calls Tryz.prog 103 #[.string a,.string b,f.val,.pointer (some ⟨ll,0,none⟩),.pointer (some ⟨dd,0,none⟩)] w (wu W B bb dd (L++(bK n [a,⟨#[32]⟩,b,⟨#[32,123]⟩]++I++bK n [⟨#[125]⟩])) n w):=by
 obtain ⟨qK,ffs,fcp⟩:=f
 unfold Fv.val
 unfold Fv.ok at db
 simp only at db Fx ⊢
 have l0:w.cell? ⟨ll,0,none⟩=some (bF bb dd):=cell_of_row _ _ _ _ _ _ fR
 unfold bF at l0 fR
 have aY:Below w.heap.size w (w.alloc (.cells #[.string a,.string ⟨#[32]⟩,.string b,.string ⟨#[32,123]⟩] 9)):=(zE _ _).alloc (zD _) _
 have xf:=ak (gQ (h.below aY) (lZ (ps:=[a,⟨#[32]⟩,b,⟨#[32,123]⟩]) (c:=4) rfl h.bi.lt.2) (by omega) (by simp))
 have x8:=ak (show Kq bb dd w (w.alloc (.cells #[.string a,.string ⟨#[32]⟩,.string b,.string ⟨#[32,123]⟩] 9)) from (Kp.below aY).q)
 have HD:=ak h.dp
 have YF:=ak fR
 have Hd:=ak hd
 have Hn:=ak hn
 have Hl:=ak hl
 have SR:=ak Fx
 have GX:=ak fa
 have PF:=ak vX
 obtain ⟨X1,hX1⟩:∃X,bK n [a,⟨#[32]⟩,b,⟨#[32,123]⟩]=X:=⟨_,rfl⟩
 rw[hX1] at xf SR Hl ⊢
 clear h fR aY hd hn hl Fx fa vX hX1
 go_enter Tryz.func103,Tryz.ntmps103
 go_wp2_with fail
 refine (ab xf).mono ?_
 rintro e w2 ⟨rfl,BP,ra⟩
 have yN:=(ab x8).trans ra.q
 obtain ⟨qH,vl⟩:=BP.at (ab Hd) (n+1) (ab Hn)
 have c2:w2.cell? ⟨dd,0,none⟩=some (.int .i64 (n:Int)):=cell_of_row _ _ _ _ _ _ BP.dp
 have f2:w2.frozen? ⟨dd,0,none⟩=false:=by simp[World.frozen?,BP.dp]
 have wD:=ak qH
 have Oo:=ak (yN.trans vl)
 have T0:=ak (ab SR _ qH (yN.trans vl))
 rw[Int.natCast_add,Int.natCast_one] at wD Oo T0
 have n0:n≤1000:=by have:=ab Hn;omega
 clear BP ra yN qH vl xf x8 SR l0
 go_wp2_with fail
 refine (ab T0).mono ?_
 rintro e w4 ⟨rfl,O4,vw⟩
 have Tl:=(ab Oo).trans vw.q
 have c4:w4.cell? ⟨dd,0,none⟩=some (.int .i64 ((n:Int)+1)):=cell_of_row _ _ _ _ _ _ O4.dp
 have f4:w4.frozen? ⟨dd,0,none⟩=false:=by simp[World.frozen?,O4.dp]
 obtain ⟨nk,Vd⟩:=O4.at (ab Hd) n n0
 have Nc:=Tl.trans Vd
 have l5:(w4.setCell ⟨dd,0,none⟩ (.int .i64 (n:Int))).cell? ⟨ll,0,none⟩=some (.func (.func 99) #[] #[.pointer (some ⟨bb,0,none⟩),.pointer (some ⟨dd,0,none⟩)]):=cell_of_row _ _ _ _ _ _ (Nc _ _ _ _ (ab GX) (ab PF) (ab YF) (by decide))
 obtain ⟨w5,dT⟩:∃x,w4.setCell ⟨dd,0,none⟩ (.int .i64 (n:Int))=x:=⟨_,rfl⟩
 rw[dT] at nk Nc l5
 have lr:Below w5.heap.size w5 (w5.alloc (.cells #[.string ⟨#[125]⟩] 9)):=(zE _ _).alloc (zD _) _
 have HL6:=ak (gQ (nk.below lr) (lZ (ps:=[⟨#[125]⟩]) (c:=1) rfl nk.bi.lt.2) (by rw[zK,zK];have:=ab Hl;omega) (by simp))
 have YE:=ak (Nc.trans (Kp.below lr).q)
 have xd:=ak nk
 clear O4 vw Tl nk Vd Nc lr T0 Oo wD c2 f2
 go_wp2_with fail
 refine (ab HL6).mono ?_
 rintro e w7 ⟨rfl,hp7,hk7⟩
 have HE:=ak (show wu W B bb dd (L++(X1++I++bK n [⟨#[125]⟩])) n w (.returned (.tuple #[])) w7 from ⟨rfl,by simpa only[List.append_assoc] using hp7,((ab YE).trans hk7.q).p (ab HD) hp7.dp⟩)
 clear hp7 hk7 HL6 YE xd
 go_wp2
 refine bodyPost_ret (results_none rfl _ _ _) rfl ?_
 exact ab HE
end Go.Proofs.YtghioefalckgoaaGreatDoor

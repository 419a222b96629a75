import Derived.Test.YtghioefalckgoaaGreatDoorM16
import Derived.Shelf.Pu.ToError
import Derived.Shelf.Pu.ToErrorRange
set_option maxHeartbeats 1000000
set_option maxRecDepth 100000
namespace Go.Proofs
open Go.Shelf
def Tryz.yJ:Go.Shelf.Ren:=⟨fun|17=>273|21=>299|22=>300|23=>301|24=>302|25=>70|27=>160|26=>323|28=>231|29=>271|30=>293|31=>294|32=>295|33=>296|35=>319|34=>318|36=>320|37=>321|38=>322|39=>329|40=>330|n=>n,fun|9=>9|3=>3|24=>141|34=>291|4=>4|39=>293|44=>315|37=>137|0=>0|47=>165|50=>321|48=>319|2=>2|52=>286|22=>236|5=>5|55=>289|59=>311|60=>233|20=>20|61=>312|36=>181|65=>322|66=>323|67=>99|n=>n,fun|0=>5|1=>6|2=>4|3=>7|4=>8|n=>n⟩
theorem Tryz.AV:Go.Proofs.LaysPu.n17 Tryz.prog Tryz.yJ:={
 mixed:=by kernel_rfl
 f17:=Tryz.func273.trans (congrArg some (by kernel_rfl))
 f21:=Tryz.func299.trans (congrArg some (by kernel_rfl))
 f22:=Tryz.func300.trans (congrArg some (by kernel_rfl))
 f23:=Tryz.func301.trans (congrArg some (by kernel_rfl))
 f24:=Tryz.func302.trans (congrArg some (by kernel_rfl))
 f25:=Tryz.func70.trans (congrArg some (by kernel_rfl))
 f26:=Tryz.func323.trans (congrArg some (by kernel_rfl))
 f27:=Tryz.func160.trans (congrArg some (by kernel_rfl))
 f28:=Tryz.func231.trans (congrArg some (by kernel_rfl))
 f29:=Tryz.func271.trans (congrArg some (by kernel_rfl))
 f30:=Tryz.func293.trans (congrArg some (by kernel_rfl))
 f31:=Tryz.func294.trans (congrArg some (by kernel_rfl))
 f32:=Tryz.func295.trans (congrArg some (by kernel_rfl))
 f33:=Tryz.func296.trans (congrArg some (by kernel_rfl))
 f34:=Tryz.func318.trans (congrArg some (by kernel_rfl))
 f35:=Tryz.func319.trans (congrArg some (by kernel_rfl))
 f36:=Tryz.func320.trans (congrArg some (by kernel_rfl))
 f37:=Tryz.func321.trans (congrArg some (by kernel_rfl))
 f38:=Tryz.func322.trans (congrArg some (by kernel_rfl))
 f39:=Tryz.func329.trans (congrArg some (by kernel_rfl))
 f40:=Tryz.func330.trans (congrArg some (by kernel_rfl))
 t0:=Tryz.underlying0
 a0:=Tryz.isAgg0
 z0:=Tryz.sizeOf0
 v0:=Tryz.zeroValue0
 i0:=by kernel_rfl
 t2:=Tryz.underlying2
 a2:=Tryz.isAgg2
 z2:=Tryz.sizeOf2
 v2:=Tryz.zeroValue2
 i2:=by kernel_rfl
 t3:=Tryz.underlying3
 a3:=Tryz.isAgg3
 z3:=Tryz.sizeOf3
 v3:=Tryz.zeroValue3
 i3:=by kernel_rfl
 t4:=Tryz.underlying4
 a4:=Tryz.isAgg4
 z4:=Tryz.sizeOf4
 v4:=Tryz.zeroValue4
 i4:=by kernel_rfl
 t5:=Tryz.underlying5
 a5:=Tryz.isAgg5
 z5:=Tryz.sizeOf5
 v5:=Tryz.zeroValue5
 i5:=by kernel_rfl
 t9:=Tryz.underlying9
 a9:=Tryz.isAgg9
 z9:=Tryz.sizeOf9
 v9:=Tryz.zeroValue9
 i9:=by kernel_rfl
 t20:=Tryz.underlying20
 a20:=Tryz.isAgg20
 z20:=Tryz.sizeOf20
 v20:=Tryz.zeroValue20
 i20:=by kernel_rfl
 t22:=Tryz.underlying236
 a22:=Tryz.isAgg236
 z22:=Tryz.sizeOf236
 v22:=Tryz.zeroValue236
 i22:=by kernel_rfl
 t24:=Tryz.underlying141
 a24:=Tryz.isAgg141
 z24:=Tryz.sizeOf141
 v24:=Tryz.zeroValue141
 i24:=by kernel_rfl
 t34:=Tryz.underlying291
 a34:=Tryz.isAgg291
 z34:=Tryz.sizeOf291
 v34:=Tryz.zeroValue291
 i34:=by kernel_rfl
 c34:=by kernel_rfl
 t36:=Tryz.underlying181
 a36:=Tryz.isAgg181
 z36:=Tryz.sizeOf181
 v36:=Tryz.zeroValue181
 i36:=by kernel_rfl
 t37:=Tryz.underlying137
 a37:=Tryz.isAgg137
 z37:=Tryz.sizeOf137
 v37:=Tryz.zeroValue137
 i37:=by kernel_rfl
 t39:=Tryz.underlying293
 a39:=Tryz.isAgg293
 z39:=Tryz.sizeOf293
 v39:=Tryz.zeroValue293
 i39:=by kernel_rfl
 t44:=Tryz.underlying315
 a44:=Tryz.isAgg315
 z44:=Tryz.sizeOf315
 v44:=Tryz.zeroValue315
 i44:=by kernel_rfl
 t47:=Tryz.underlying165
 a47:=Tryz.isAgg165
 z47:=Tryz.sizeOf165
 v47:=Tryz.zeroValue165
 i47:=by kernel_rfl
 t48:=Tryz.underlying319
 a48:=Tryz.isAgg319
 z48:=Tryz.sizeOf319
 v48:=Tryz.zeroValue319
 i48:=by kernel_rfl
 t50:=Tryz.underlying321
 a50:=Tryz.isAgg321
 z50:=Tryz.sizeOf321
 v50:=Tryz.zeroValue321
 i50:=by kernel_rfl
 t52:=Tryz.underlying286
 a52:=Tryz.isAgg286
 z52:=Tryz.sizeOf286
 v52:=Tryz.zeroValue286
 i52:=by kernel_rfl
 t55:=Tryz.underlying289
 a55:=Tryz.isAgg289
 z55:=Tryz.sizeOf289
 v55:=Tryz.zeroValue289
 i55:=by kernel_rfl
 t59:=Tryz.underlying311
 a59:=Tryz.isAgg311
 z59:=Tryz.sizeOf311
 v59:=Tryz.zeroValue311
 i59:=by kernel_rfl
 t60:=Tryz.underlying233
 a60:=Tryz.isAgg233
 z60:=Tryz.sizeOf233
 v60:=Tryz.zeroValue233
 i60:=by kernel_rfl
 t61:=Tryz.underlying312
 a61:=Tryz.isAgg312
 z61:=Tryz.sizeOf312
 t65:=Tryz.underlying322
 a65:=Tryz.isAgg322
 z65:=Tryz.sizeOf322
 v65:=Tryz.zeroValue322
 i65:=by kernel_rfl
 t66:=Tryz.underlying323
 a66:=Tryz.isAgg323
 z66:=Tryz.sizeOf323
 v66:=Tryz.zeroValue323
 i66:=by kernel_rfl
 t67:=Tryz.underlying99
 a67:=Tryz.isAgg99
 z67:=Tryz.sizeOf99
 v67:=Tryz.zeroValue99
 i67:=by kernel_rfl
 g0:=by kernel_rfl
 m0:=by kernel_rfl
 g1:=by kernel_rfl
 m1:=by kernel_rfl
 g2:=by kernel_rfl
 m2:=by kernel_rfl
 g3:=by kernel_rfl
 m3:=by kernel_rfl
 g4:=by kernel_rfl
 m4:=by kernel_rfl }
end Go.Proofs
namespace Go.Proofs.YtghioefalckgoaaGreatDoor
open Go.RowKit
attribute [local go_sem ↓] Go.wp_at_zero Go.wp_at_succ
def Gs (W:World) (g:Nat):Prop:=g<W.heap.size∧∃ev,W.cell? ⟨g,0,none⟩=some ev∧(ev=.nilIface∨∃te pe,ev=.iface te pe)
def ji (W:World):Prop:=Gs W 5∧Gs W 6
theorem Gs.up {W w:World}{g:Nat} (h:Gs W g) (hb:Below W.heap.size W w):Gs w g:=by
 obtain ⟨h1,ev,h2,h3⟩:=h
 exact ⟨Nat.lt_of_lt_of_le h1 hb.size,ev,(hb.cell (p:=⟨g,0,none⟩) h1).trans h2,h3⟩
theorem ji.up {W w:World} (h:ji W) (hb:Below W.heap.size W w):ji w:=⟨h.1.up hb,h.2.up hb⟩
def TS (W:World) (B M:Nat) (s:ByteArray) (e:Ending) (w:World):Prop:=Below W.heap.size W w ∧
 ((∃u:Nat,e=.returned (.tuple #[.int .u64 (u:Int),.nilIface])∧0<s.size∧cA B M (aO s) 0=some u) ∨
  (∃(u:Int) (p:Value),e=.returned (.tuple #[.int .u64 u,.iface 293 p])∧(s.size=0∨cA B M (aO s) 0=none)))
theorem EN {W:World} (h:ji W) (s:ByteArray) (hs:s.size≤65536) (b t c:Int) (hc:c=1∨c=2) (fn:ByteArray) :
  Calls Tryz.prog 273 #[.string fn,.string s,.int .i64 b,.int .i64 t,.iface 291 (.int .i64 c)] W fun e w=>∃p,e=.returned (.iface 293 p)∧Below W.heap.size W w:=by
 rcases hc with rfl|rfl
 ·obtain ⟨_,ev,h2,h3⟩:=h.2
  refine (AnyPu.strconv_toError_range Tryz.AV fn s b t ev W (by omega) h2 h3).mono ?_
  rintro e w ⟨n,he,_,_,hb⟩
  exact ⟨_,he,hb⟩
 ·obtain ⟨_,ev,h2,h3⟩:=h.1
  refine (AnyPu.strconv_toError_syntax Tryz.AV fn s b t ev W (by omega) h2 h3).mono ?_
  rintro e w ⟨n,he,_,_,hb⟩
  exact ⟨_,he,hb⟩
theorem jv {W:World} (h:ji W) (s:ByteArray) (hs:s.size≤65536) (B M:Nat) (b t:Int)
  (Fx:Calls Tryz.prog 272 #[.string s,.int .i64 b,.int .i64 t] W (PU W B M s)) :
  Calls Tryz.prog 232 #[.string s,.int .i64 b,.int .i64 t] W (TS W B M s):=by
 have bq:=zE W.heap.size W
 go_enter Tryz.func232,Tryz.ntmps232
 go_wp2_with fail
 refine Fx.mono ?_
 rintro e w1 ⟨aY,⟨u,rfl,hu⟩|⟨u,c,rfl,hc,hu⟩⟩
 ·have Hb:=ak aY
  have Hu:=ak hu
  clear aY hu Fx
  go_wp2
  go_ret2
  exact ⟨ab Hb,.inl ⟨u,rfl,ab Hu⟩⟩
 ·have Hb:=ak aY
  have Hu:=ak hu
  have Hc:=ak hc
  clear aY hu Fx hc
  go_wp2_with fail
  refine (EN (h.up (ab Hb)) s hs b t c (ab Hc) _).mono ?_
  rintro e w2 ⟨p,rfl,b9⟩
  have VJ:Below W.heap.size W w2:=(ab Hb).trans (b9.mono (ab Hb).size)
  have zX:=ak VJ
  clear b9 VJ
  go_wp2
  go_ret2
  exact ⟨ab zX,.inr ⟨u,p,rfl,ab Hu⟩⟩
end Go.Proofs.YtghioefalckgoaaGreatDoor
namespace Go.Proofs.YtghioefalckgoaaGreatDoor
open Go.RowKit
def K4 (l:List Nat) (n c:Int):Prop:=(∃u:Nat,wv l=some u∧n=(u:Int)∧c=0)∨(wv l=none∧n=0∧c=41)
def KS (W:World) (l:List Nat) (e:Ending) (w:World):Prop:=Below W.heap.size W w∧∃n c:Int,e=.returned (.tuple #[.int .i64 n,.int .i64 c])∧K4 l n c
end Go.Proofs.YtghioefalckgoaaGreatDoor
namespace Go.Proofs.YtghioefalckgoaaGreatDoor
open Go.RowKit
attribute [local go_sem ↓] Go.wp_at_zero Go.wp_at_succ
theorem DJ {W:World} (h:ji W) (s:ByteArray) (hs:s.size≤65536) :
  Calls Tryz.prog 232 #[.string s,.int .i64 16,.int .i64 63] W (TS W 16 9223372036854775807 s) ∧
  Calls Tryz.prog 232 #[.string s,.int .i64 10,.int .i64 63] W (TS W 10 9223372036854775807 s) ∧
  Calls Tryz.prog 232 #[.string s,.int .i64 8,.int .i64 63] W (TS W 8 9223372036854775807 s):=by
 exact ⟨jv h s hs _ _ _ _ (uQ (Or.inl ⟨rfl,rfl,rfl,rfl,rfl,rfl⟩) W s hs),jv h s hs _ _ _ _ (uQ (Or.inr (Or.inl ⟨rfl,rfl,rfl,rfl,rfl,rfl⟩)) W s hs),jv h s hs _ _ _ _ (uQ (Or.inr (Or.inr (Or.inl ⟨rfl,rfl,rfl,rfl,rfl,rfl⟩))) W s hs)⟩
theorem fu {W w:World}{l:List Nat} (n c:Int) (hb:Below W.heap.size W w) (h:K4 l n c):KS W l (.returned (.tuple #[.int .i64 n,.int .i64 c])) w:=⟨hb,n,c,rfl,h⟩
theorem Qn (s p:ByteArray) {l:List Nat} (hp:aO p=l) (hn:p.size=l.length):zu s p↔(aO s).take l.length=l:=by
 unfold zu
 rw[hp,hn]
theorem EH {W:World} (h:ji W) (s:ByteArray) (hs:s.size≤65536):Calls Tryz.prog 169 #[.string s] W (KS W (aO s)):=by
 have q1:zu s ⟨#[48,120]⟩↔(aO s).take 2=[48,120]:=Qn s ⟨#[48,120]⟩ (l:=[48,120]) rfl rfl
 have q2:zu s ⟨#[48,88]⟩↔(aO s).take 2=[48,88]:=Qn s ⟨#[48,88]⟩ (l:=[48,88]) rfl rfl
 have q3:zu s ⟨#[48]⟩↔(aO s).take 1=[48]:=Qn s ⟨#[48]⟩ (l:=[48]) rfl rfl
 have Q1:=ak q1
 have Q2:=ak q2
 have Q3:=ak q3
 clear q1 q2 q3
 go_enter Tryz.func169,Tryz.ntmps169
 go_wp2_with fail
 refine (fb W s _).mono ?_
 rintro e w' ⟨rfl,he⟩
 obtain rfl:W=w':=he.symm
 by_cases c1:zu s ⟨#[48,120]⟩
 ·rw[E3 c1]
  have l1:=(ab Q1).1 c1
  have kC:2≤s.size:=by have:=congrArg List.length l1;rw[List.length_take,bg] at this;simp at this;omega
  have CJ:wv (aO s)=if s.size=2 then none else cA 16 9223372036854775807 ((aO s).drop 2) 0:=by unfold wv;rw[if_pos (.inl l1),bg]
  have hx:=aX s 2 s.size
  have hxs:(s.extract 2 s.size).size=s.size-2:=by rw[←bg,hx,List.length_take,List.length_drop,bg];omega
  have dr:aO (s.extract 2 s.size)=(aO s).drop 2:=by rw[hx,List.take_of_length_le (by rw[List.length_drop,bg];omega)]
  have hg:∀u,0<(s.extract 2 s.size).size→cA 16 9223372036854775807 (aO (s.extract 2 s.size)) 0=some u→wv (aO s)=some u:=fun u h1 h2=>by rw[CJ,if_neg (by omega),←dr,h2]
  have nN:((s.extract 2 s.size).size=0∨cA 16 9223372036854775807 (aO (s.extract 2 s.size)) 0=none)→wv (aO s)=none:=fun hh=>by
   rw[CJ]
   split
   ·rfl
   ·rcases hh with hh|hh
    ·omega
    ·rw[←dr,hh]
  clear hx dr CJ l1
  go_wp2_with fail
  refine ((DJ h _ (by omega)).1).mono ?_
  rintro e w1 ⟨aY,⟨u,rfl,hz,hu⟩|⟨u,p,rfl,hu⟩⟩
  ·have hw:=hg u hz hu
   have hle:=Dq hw
   have Hw:=ak hw
   have Hb:=ak aY
   clear hw hu hz aY hg nN
   go_wp2
   go_ret2
   exact fu _ _ (ab Hb) (.inl ⟨u,ab Hw,by go_num,rfl⟩)
  ·have hw:=nN hu
   have Hw:=ak hw
   have Hb:=ak aY
   clear hw hu aY hg nN
   go_wp2
   go_ret2
   exact fu _ _ (ab Hb) (.inr ⟨ab Hw,rfl,rfl⟩)
 ·rw[Cr c1]
  go_wp2_with fail
  refine (fb W s _).mono ?_
  rintro e w' ⟨rfl,he⟩
  obtain rfl:W=w':=he.symm
  by_cases c2:zu s ⟨#[48,88]⟩
  ·rw[E3 c2]
   have l1:=(ab Q2).1 c2
   have kC:2≤s.size:=by have:=congrArg List.length l1;rw[List.length_take,bg] at this;simp at this;omega
   have CJ:wv (aO s)=if s.size=2 then none else cA 16 9223372036854775807 ((aO s).drop 2) 0:=by unfold wv;rw[if_pos (.inr l1),bg]
   have hx:=aX s 2 s.size
   have hxs:(s.extract 2 s.size).size=s.size-2:=by rw[←bg,hx,List.length_take,List.length_drop,bg];omega
   have dr:aO (s.extract 2 s.size)=(aO s).drop 2:=by rw[hx,List.take_of_length_le (by rw[List.length_drop,bg];omega)]
   have hg:∀u,0<(s.extract 2 s.size).size→cA 16 9223372036854775807 (aO (s.extract 2 s.size)) 0=some u→wv (aO s)=some u:=fun u h1 h2=>by rw[CJ,if_neg (by omega),←dr,h2]
   have nN:((s.extract 2 s.size).size=0∨cA 16 9223372036854775807 (aO (s.extract 2 s.size)) 0=none)→wv (aO s)=none:=fun hh=>by
    rw[CJ]
    split
    ·rfl
    ·rcases hh with hh|hh
     ·omega
     ·rw[←dr,hh]
   clear hx dr CJ l1
   go_wp2_with fail
   refine ((DJ h _ (by omega)).1).mono ?_
   rintro e w1 ⟨aY,⟨u,rfl,hz,hu⟩|⟨u,p,rfl,hu⟩⟩
   ·have hw:=hg u hz hu
    have hle:=Dq hw
    have Hw:=ak hw
    have Hb:=ak aY
    clear hw hu hz aY hg nN
    go_wp2
    go_ret2
    exact fu _ _ (ab Hb) (.inl ⟨u,ab Hw,by go_num,rfl⟩)
   ·have hw:=nN hu
    have Hw:=ak hw
    have Hb:=ak aY
    clear hw hu aY hg nN
    go_wp2
    go_ret2
    exact fu _ _ (ab Hb) (.inr ⟨ab Hw,rfl,rfl⟩)
  ·rw[Cr c2]
   have n1:=mt (ab Q1).2 c1
   have n2:=mt (ab Q2).2 c2
   go_wp2_with fail
   refine (fb W s _).mono ?_
   rintro e w' ⟨rfl,he⟩
   obtain rfl:W=w':=he.symm
   by_cases c3:zu s ⟨#[48]⟩
   ·rw[E3 c3]
    have l3:=(ab Q3).1 c3
    have CJ:wv (aO s)=cA 8 9223372036854775807 (aO s) 0:=by unfold wv;rw[if_neg (fun o=>o.elim n1 n2),if_pos l3]
    have hD:1≤s.size:=by have:=congrArg List.length l3;rw[List.length_take,bg] at this;simp at this;omega
    have hg:∀u,0<s.size→cA 8 9223372036854775807 (aO s) 0=some u→wv (aO s)=some u:=fun u _ h2=>by rw[CJ,h2]
    have nN:(s.size=0∨cA 8 9223372036854775807 (aO s) 0=none)→wv (aO s)=none:=fun hh=>by
     rcases hh with hh|hh
     ·omega
     ·rw[CJ,hh]
    clear CJ n1 n2 l3
    go_wp2_with fail
    refine ((DJ h s hs).2.2).mono ?_
    rintro e w1 ⟨aY,⟨u,rfl,hz,hu⟩|⟨u,p,rfl,hu⟩⟩
    ·have hw:=hg u hz hu
     have hle:=Dq hw
     have Hw:=ak hw
     have Hb:=ak aY
     clear hw hu hz aY hg nN
     go_wp2
     go_ret2
     exact fu _ _ (ab Hb) (.inl ⟨u,ab Hw,by go_num,rfl⟩)
    ·have hw:=nN hu
     have Hw:=ak hw
     have Hb:=ak aY
     clear hw hu aY hg nN
     go_wp2
     go_ret2
     exact fu _ _ (ab Hb) (.inr ⟨ab Hw,rfl,rfl⟩)
   ·rw[Cr c3]
    have n3:=mt (ab Q3).2 c3
    have CJ:wv (aO s)=if aO s=[] then none else cA 10 9223372036854775807 (aO s) 0:=by unfold wv;rw[if_neg (fun o=>o.elim n1 n2),if_neg n3]
    have hg:∀u,0<s.size→cA 10 9223372036854775807 (aO s) 0=some u→wv (aO s)=some u:=fun u h1 h2=>by
     have jN:¬aO s=[]:=fun e=>by
      have h9:(aO s).length=0:=by rw[e];rfl
      rw[bg] at h9
      omega
     rw[CJ,if_neg jN,h2]
    have nN:(s.size=0∨cA 10 9223372036854775807 (aO s) 0=none)→wv (aO s)=none:=fun hh=>by
     rw[CJ]
     split
     ·rfl
     ·rename_i jN
      rcases hh with hh|hh
      ·exact absurd (List.eq_nil_of_length_eq_zero (by rw[bg];exact hh)) jN
      ·exact hh
    clear CJ n1 n2 n3
    go_wp2_with fail
    refine ((DJ h s hs).2.1).mono ?_
    rintro e w1 ⟨aY,⟨u,rfl,hz,hu⟩|⟨u,p,rfl,hu⟩⟩
    ·have hw:=hg u hz hu
     have hle:=Dq hw
     have Hw:=ak hw
     have Hb:=ak aY
     clear hw hu hz aY hg nN
     go_wp2
     go_ret2
     exact fu _ _ (ab Hb) (.inl ⟨u,ab Hw,by go_num,rfl⟩)
    ·have hw:=nN hu
     have Hw:=ak hw
     have Hb:=ak aY
     clear hw hu aY hg nN
     go_wp2
     go_ret2
     exact fu _ _ (ab Hb) (.inr ⟨ab Hw,rfl,rfl⟩)
theorem K4.same {l:List Nat}{n c m d:Int} (h:K4 l n c) (k:K4 l m d):n=m∧c=d:=by
 rcases h with ⟨u,h1,rfl,rfl⟩|⟨h1,rfl,rfl⟩<;>rcases k with ⟨v,k1,rfl,rfl⟩|⟨k1,rfl,rfl⟩
 ·rw[h1] at k1;obtain rfl:=zC k1;exact ⟨rfl,rfl⟩
 ·rw[h1] at k1;cases k1
 ·rw[h1] at k1;cases k1
 ·exact ⟨rfl,rfl⟩
end Go.Proofs.YtghioefalckgoaaGreatDoor

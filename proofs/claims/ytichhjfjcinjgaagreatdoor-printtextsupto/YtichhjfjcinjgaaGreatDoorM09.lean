import Derived.Test.YtichhjfjcinjgaaGreatDoorM08
import Derived.Shelf.Pu.ToError
import Derived.Shelf.Pu.ToErrorRange
set_option maxHeartbeats 1000000
set_option maxRecDepth 100000
namespace Go.Proofs
open Go.Shelf
def Tryz.yf:Go.Shelf.Ren:=⟨fun|17=>192|21=>205|22=>206|23=>207|24=>208|25=>93|27=>134|26=>216|28=>178|29=>190|30=>199|31=>200|32=>201|33=>202|35=>212|34=>211|36=>213|37=>214|38=>215|39=>218|40=>219|n=>n,fun|9=>9|3=>3|24=>127|34=>216|4=>4|39=>218|44=>232|37=>58|0=>0|47=>162|50=>238|48=>236|2=>2|52=>211|22=>189|5=>5|55=>214|59=>228|60=>186|20=>20|61=>229|36=>156|65=>239|66=>240|67=>87|n=>n,fun|0=>5|1=>6|2=>4|3=>7|4=>8|n=>n⟩
theorem Tryz.AE:Go.Proofs.LaysPu.n17 Tryz.prog Tryz.yf:={
 mixed:=by kernel_rfl
 f17:=Tryz.func192.trans (congrArg some (by kernel_rfl))
 f21:=Tryz.func205.trans (congrArg some (by kernel_rfl))
 f22:=Tryz.func206.trans (congrArg some (by kernel_rfl))
 f23:=Tryz.func207.trans (congrArg some (by kernel_rfl))
 f24:=Tryz.func208.trans (congrArg some (by kernel_rfl))
 f25:=Tryz.func93.trans (congrArg some (by kernel_rfl))
 f26:=Tryz.func216.trans (congrArg some (by kernel_rfl))
 f27:=Tryz.func134.trans (congrArg some (by kernel_rfl))
 f28:=Tryz.func178.trans (congrArg some (by kernel_rfl))
 f29:=Tryz.func190.trans (congrArg some (by kernel_rfl))
 f30:=Tryz.func199.trans (congrArg some (by kernel_rfl))
 f31:=Tryz.func200.trans (congrArg some (by kernel_rfl))
 f32:=Tryz.func201.trans (congrArg some (by kernel_rfl))
 f33:=Tryz.func202.trans (congrArg some (by kernel_rfl))
 f34:=Tryz.func211.trans (congrArg some (by kernel_rfl))
 f35:=Tryz.func212.trans (congrArg some (by kernel_rfl))
 f36:=Tryz.func213.trans (congrArg some (by kernel_rfl))
 f37:=Tryz.func214.trans (congrArg some (by kernel_rfl))
 f38:=Tryz.func215.trans (congrArg some (by kernel_rfl))
 f39:=Tryz.func218.trans (congrArg some (by kernel_rfl))
 f40:=Tryz.func219.trans (congrArg some (by kernel_rfl))
 t0:=Tryz.underlying0
 a0:=Tryz.isAgg0
 z0:=Tryz.sizeOf0
 v0:=Tryz.zeroValue0
 i0:=by kernel_rfl
 t2:=Tryz.underlying2
 a2:=Tryz.isAgg2
 z2:=Tryz.sizeOf2
 v2:=Tryz.zeroValue2
 i2:=by kernel_rfl
 t3:=Tryz.underlying3
 a3:=Tryz.isAgg3
 z3:=Tryz.sizeOf3
 v3:=Tryz.zeroValue3
 i3:=by kernel_rfl
 t4:=Tryz.underlying4
 a4:=Tryz.isAgg4
 z4:=Tryz.sizeOf4
 v4:=Tryz.zeroValue4
 i4:=by kernel_rfl
 t5:=Tryz.underlying5
 a5:=Tryz.isAgg5
 z5:=Tryz.sizeOf5
 v5:=Tryz.zeroValue5
 i5:=by kernel_rfl
 t9:=Tryz.underlying9
 a9:=Tryz.isAgg9
 z9:=Tryz.sizeOf9
 v9:=Tryz.zeroValue9
 i9:=by kernel_rfl
 t20:=Tryz.underlying20
 a20:=Tryz.isAgg20
 z20:=Tryz.sizeOf20
 v20:=Tryz.zeroValue20
 i20:=by kernel_rfl
 t22:=Tryz.underlying189
 a22:=Tryz.isAgg189
 z22:=Tryz.sizeOf189
 v22:=Tryz.zeroValue189
 i22:=by kernel_rfl
 t24:=Tryz.underlying127
 a24:=Tryz.isAgg127
 z24:=Tryz.sizeOf127
 v24:=Tryz.zeroValue127
 i24:=by kernel_rfl
 t34:=Tryz.underlying216
 a34:=Tryz.isAgg216
 z34:=Tryz.sizeOf216
 v34:=Tryz.zeroValue216
 i34:=by kernel_rfl
 c34:=by kernel_rfl
 t36:=Tryz.underlying156
 a36:=Tryz.isAgg156
 z36:=Tryz.sizeOf156
 v36:=Tryz.zeroValue156
 i36:=by kernel_rfl
 t37:=Tryz.underlying58
 a37:=Tryz.isAgg58
 z37:=Tryz.sizeOf58
 v37:=Tryz.zeroValue58
 i37:=by kernel_rfl
 t39:=Tryz.underlying218
 a39:=Tryz.isAgg218
 z39:=Tryz.sizeOf218
 v39:=Tryz.zeroValue218
 i39:=by kernel_rfl
 t44:=Tryz.underlying232
 a44:=Tryz.isAgg232
 z44:=Tryz.sizeOf232
 v44:=Tryz.zeroValue232
 i44:=by kernel_rfl
 t47:=Tryz.underlying162
 a47:=Tryz.isAgg162
 z47:=Tryz.sizeOf162
 v47:=Tryz.zeroValue162
 i47:=by kernel_rfl
 t48:=Tryz.underlying236
 a48:=Tryz.isAgg236
 z48:=Tryz.sizeOf236
 v48:=Tryz.zeroValue236
 i48:=by kernel_rfl
 t50:=Tryz.underlying238
 a50:=Tryz.isAgg238
 z50:=Tryz.sizeOf238
 v50:=Tryz.zeroValue238
 i50:=by kernel_rfl
 t52:=Tryz.underlying211
 a52:=Tryz.isAgg211
 z52:=Tryz.sizeOf211
 v52:=Tryz.zeroValue211
 i52:=by kernel_rfl
 t55:=Tryz.underlying214
 a55:=Tryz.isAgg214
 z55:=Tryz.sizeOf214
 v55:=Tryz.zeroValue214
 i55:=by kernel_rfl
 t59:=Tryz.underlying228
 a59:=Tryz.isAgg228
 z59:=Tryz.sizeOf228
 v59:=Tryz.zeroValue228
 i59:=by kernel_rfl
 t60:=Tryz.underlying186
 a60:=Tryz.isAgg186
 z60:=Tryz.sizeOf186
 v60:=Tryz.zeroValue186
 i60:=by kernel_rfl
 t61:=Tryz.underlying229
 a61:=Tryz.isAgg229
 z61:=Tryz.sizeOf229
 t65:=Tryz.underlying239
 a65:=Tryz.isAgg239
 z65:=Tryz.sizeOf239
 v65:=Tryz.zeroValue239
 i65:=by kernel_rfl
 t66:=Tryz.underlying240
 a66:=Tryz.isAgg240
 z66:=Tryz.sizeOf240
 v66:=Tryz.zeroValue240
 i66:=by kernel_rfl
 t67:=Tryz.underlying87
 a67:=Tryz.isAgg87
 z67:=Tryz.sizeOf87
 v67:=Tryz.zeroValue87
 i67:=by kernel_rfl
 g0:=by kernel_rfl
 m0:=by kernel_rfl
 g1:=by kernel_rfl
 m1:=by kernel_rfl
 g2:=by kernel_rfl
 m2:=by kernel_rfl
 g3:=by kernel_rfl
 m3:=by kernel_rfl
 g4:=by kernel_rfl
 m4:=by kernel_rfl }
end Go.Proofs
namespace Go.Proofs.YtichhjfjcinjgaaGreatDoor
open Go.RowKit
attribute [local go_sem ↓] Go.wp_at_zero Go.wp_at_succ
def FW (W:World) (g:Nat):Prop:=g<W.heap.size∧∃ev,W.cell? ⟨g,0,none⟩=some ev∧(ev=.nilIface∨∃te pe,ev=.iface te pe)
def jM (W:World):Prop:=FW W 5∧FW W 6
theorem FW.up {W w:World}{g:Nat} (h:FW W g) (hb:Below W.heap.size W w):FW w g:=by
 obtain ⟨h1,ev,h2,h3⟩:=h
 exact ⟨Nat.lt_of_lt_of_le h1 hb.size,ev,(hb.cell (p:=⟨g,0,none⟩) h1).trans h2,h3⟩
theorem jM.up {W w:World} (h:jM W) (hb:Below W.heap.size W w):jM w:=⟨h.1.up hb,h.2.up hb⟩
def Qs (W:World) (B M:Nat) (s:ByteArray) (e:Ending) (w:World):Prop:=Below W.heap.size W w ∧
 ((∃u:Nat,e=.returned (.tuple #[.int .u64 (u:Int),.nilIface])∧0<s.size∧bV B M (aI s) 0=some u) ∨
  (∃(u:Int) (p:Value),e=.returned (.tuple #[.int .u64 u,.iface 218 p])∧(s.size=0∨bV B M (aI s) 0=none)))
theorem EA {W:World} (h:jM W) (s:ByteArray) (hs:s.size≤65536) (b t c:Int) (hc:c=1∨c=2) (fn:ByteArray) :
  Calls Tryz.prog 192 #[.string fn,.string s,.int .i64 b,.int .i64 t,.iface 216 (.int .i64 c)] W fun e w=>∃p,e=.returned (.iface 218 p)∧Below W.heap.size W w:=by
 rcases hc with rfl|rfl
 ·obtain ⟨_,ev,h2,h3⟩:=h.2
  refine (AnyPu.strconv_toError_range Tryz.AE fn s b t ev W (by omega) h2 h3).mono ?_
  rintro e w ⟨n,he,_,_,hb⟩
  exact ⟨_,he,hb⟩
 ·obtain ⟨_,ev,h2,h3⟩:=h.1
  refine (AnyPu.strconv_toError_syntax Tryz.AE fn s b t ev W (by omega) h2 h3).mono ?_
  rintro e w ⟨n,he,_,_,hb⟩
  exact ⟨_,he,hb⟩
theorem jT {W:World} (h:jM W) (s:ByteArray) (hs:s.size≤65536) (B M:Nat) (b t:Int)
  (IH:Calls Tryz.prog 191 #[.string s,.int .i64 b,.int .i64 t] W (PU W B M s)) :
  Calls Tryz.prog 179 #[.string s,.int .i64 b,.int .i64 t] W (Qs W B M s):=by
 have bG:=zE W.heap.size W
 go_enter Tryz.func179,Tryz.ntmps179
 go_wp2_with fail
 refine IH.mono ?_
 rintro e w1 ⟨aX,⟨u,rfl,hu⟩|⟨u,c,rfl,hc,hu⟩⟩
 ·have Hb:=al aX
  have Hu:=al hu
  clear aX hu IH
  go_wp2
  go_ret2
  exact ⟨ab Hb,.inl ⟨u,rfl,ab Hu⟩⟩
 ·have Hb:=al aX
  have Hu:=al hu
  have Hc:=al hc
  clear aX hu IH hc
  go_wp2_with fail
  refine (EA (h.up (ab Hb)) s hs b t c (ab Hc) _).mono ?_
  rintro e w2 ⟨p,rfl,bd⟩
  have St:Below W.heap.size W w2:=(ab Hb).trans (bd.mono (ab Hb).size)
  have vJ:=al St
  clear bd St
  go_wp2
  go_ret2
  exact ⟨ab vJ,.inr ⟨u,p,rfl,ab Hu⟩⟩
end Go.Proofs.YtichhjfjcinjgaaGreatDoor
namespace Go.Proofs.YtichhjfjcinjgaaGreatDoor
open Go.RowKit
def JE (l:List Nat) (n c:Int):Prop:=(∃u:Nat,wv l=some u∧n=(u:Int)∧c=0)∨(wv l=none∧n=0∧c=41)
def Jy (W:World) (l:List Nat) (e:Ending) (w:World):Prop:=Below W.heap.size W w∧∃n c:Int,e=.returned (.tuple #[.int .i64 n,.int .i64 c])∧JE l n c
end Go.Proofs.YtichhjfjcinjgaaGreatDoor
namespace Go.Proofs.YtichhjfjcinjgaaGreatDoor
open Go.RowKit
attribute [local go_sem ↓] Go.wp_at_zero Go.wp_at_succ
theorem Dw {W:World} (h:jM W) (s:ByteArray) (hs:s.size≤65536) :
  Calls Tryz.prog 179 #[.string s,.int .i64 16,.int .i64 63] W (Qs W 16 9223372036854775807 s) ∧
  Calls Tryz.prog 179 #[.string s,.int .i64 10,.int .i64 63] W (Qs W 10 9223372036854775807 s) ∧
  Calls Tryz.prog 179 #[.string s,.int .i64 8,.int .i64 63] W (Qs W 8 9223372036854775807 s):=by
 exact ⟨jT h s hs _ _ _ _ (uz (Or.inl ⟨rfl,rfl,rfl,rfl,rfl,rfl⟩) W s hs),jT h s hs _ _ _ _ (uz (Or.inr (Or.inl ⟨rfl,rfl,rfl,rfl,rfl,rfl⟩)) W s hs),jT h s hs _ _ _ _ (uz (Or.inr (Or.inr (Or.inl ⟨rfl,rfl,rfl,rfl,rfl,rfl⟩))) W s hs)⟩
theorem ga {W w:World}{l:List Nat} (n c:Int) (hb:Below W.heap.size W w) (h:JE l n c):Jy W l (.returned (.tuple #[.int .i64 n,.int .i64 c])) w:=⟨hb,n,c,rfl,h⟩
theorem Ns (s p:ByteArray) {l:List Nat} (hp:aI p=l) (hn:p.size=l.length):yP s p↔(aI s).take l.length=l:=by
 unfold yP
 rw[hp,hn]
theorem Ex {W:World} (h:jM W) (s:ByteArray) (hs:s.size≤65536):Calls Tryz.prog 143 #[.string s] W (Jy W (aI s)):=by
 have q1:yP s ⟨#[48,120]⟩↔(aI s).take 2=[48,120]:=Ns s ⟨#[48,120]⟩ (l:=[48,120]) rfl rfl
 have q2:yP s ⟨#[48,88]⟩↔(aI s).take 2=[48,88]:=Ns s ⟨#[48,88]⟩ (l:=[48,88]) rfl rfl
 have q3:yP s ⟨#[48]⟩↔(aI s).take 1=[48]:=Ns s ⟨#[48]⟩ (l:=[48]) rfl rfl
 have Q1:=al q1
 have Q2:=al q2
 have Q3:=al q3
 clear q1 q2 q3
 go_enter Tryz.func143,Tryz.ntmps143
 go_wp2_with fail
 refine (fP W s _).mono ?_
 rintro e w' ⟨rfl,he⟩
 obtain rfl:W=w':=he.symm
 by_cases c1:yP s ⟨#[48,120]⟩
 ·rw[ES c1]
  have l1:=(ab Q1).1 c1
  have Ln:2≤s.size:=by have:=congrArg List.length l1;rw[List.length_take,aZ] at this;simp at this;omega
  have Cy:wv (aI s)=if s.size=2 then none else bV 16 9223372036854775807 ((aI s).drop 2) 0:=by unfold wv;rw[if_pos (.inl l1),aZ]
  have hx:=bw s 2 s.size
  have VT:(s.extract 2 s.size).size=s.size-2:=by rw[←aZ,hx,List.length_take,List.length_drop,aZ];omega
  have c8:aI (s.extract 2 s.size)=(aI s).drop 2:=by rw[hx,List.take_of_length_le (by rw[List.length_drop,aZ];omega)]
  have hg:∀u,0<(s.extract 2 s.size).size→bV 16 9223372036854775807 (aI (s.extract 2 s.size)) 0=some u→wv (aI s)=some u:=fun u h1 h2=>by rw[Cy,if_neg (by omega),←c8,h2]
  have ou:((s.extract 2 s.size).size=0∨bV 16 9223372036854775807 (aI (s.extract 2 s.size)) 0=none)→wv (aI s)=none:=fun hh=>by
   rw[Cy]
   split
   ·rfl
   ·rcases hh with hh|hh
    ·omega
    ·rw[←c8,hh]
  clear hx c8 Cy l1
  go_wp2_with fail
  refine ((Dw h _ (by omega)).1).mono ?_
  rintro e w1 ⟨aX,⟨u,rfl,hz,hu⟩|⟨u,p,rfl,hu⟩⟩
  ·have hw:=hg u hz hu
   have hle:=Di hw
   have Hw:=al hw
   have Hb:=al aX
   clear hw hu hz aX hg ou
   go_wp2
   go_ret2
   exact ga _ _ (ab Hb) (.inl ⟨u,ab Hw,by go_num,rfl⟩)
  ·have hw:=ou hu
   have Hw:=al hw
   have Hb:=al aX
   clear hw hu aX hg ou
   go_wp2
   go_ret2
   exact ga _ _ (ab Hb) (.inr ⟨ab Hw,rfl,rfl⟩)
 ·rw[B8 c1]
  go_wp2_with fail
  refine (fP W s _).mono ?_
  rintro e w' ⟨rfl,he⟩
  obtain rfl:W=w':=he.symm
  by_cases c2:yP s ⟨#[48,88]⟩
  ·rw[ES c2]
   have l1:=(ab Q2).1 c2
   have Ln:2≤s.size:=by have:=congrArg List.length l1;rw[List.length_take,aZ] at this;simp at this;omega
   have Cy:wv (aI s)=if s.size=2 then none else bV 16 9223372036854775807 ((aI s).drop 2) 0:=by unfold wv;rw[if_pos (.inr l1),aZ]
   have hx:=bw s 2 s.size
   have VT:(s.extract 2 s.size).size=s.size-2:=by rw[←aZ,hx,List.length_take,List.length_drop,aZ];omega
   have c8:aI (s.extract 2 s.size)=(aI s).drop 2:=by rw[hx,List.take_of_length_le (by rw[List.length_drop,aZ];omega)]
   have hg:∀u,0<(s.extract 2 s.size).size→bV 16 9223372036854775807 (aI (s.extract 2 s.size)) 0=some u→wv (aI s)=some u:=fun u h1 h2=>by rw[Cy,if_neg (by omega),←c8,h2]
   have ou:((s.extract 2 s.size).size=0∨bV 16 9223372036854775807 (aI (s.extract 2 s.size)) 0=none)→wv (aI s)=none:=fun hh=>by
    rw[Cy]
    split
    ·rfl
    ·rcases hh with hh|hh
     ·omega
     ·rw[←c8,hh]
   clear hx c8 Cy l1
   go_wp2_with fail
   refine ((Dw h _ (by omega)).1).mono ?_
   rintro e w1 ⟨aX,⟨u,rfl,hz,hu⟩|⟨u,p,rfl,hu⟩⟩
   ·have hw:=hg u hz hu
    have hle:=Di hw
    have Hw:=al hw
    have Hb:=al aX
    clear hw hu hz aX hg ou
    go_wp2
    go_ret2
    exact ga _ _ (ab Hb) (.inl ⟨u,ab Hw,by go_num,rfl⟩)
   ·have hw:=ou hu
    have Hw:=al hw
    have Hb:=al aX
    clear hw hu aX hg ou
    go_wp2
    go_ret2
    exact ga _ _ (ab Hb) (.inr ⟨ab Hw,rfl,rfl⟩)
  ·rw[B8 c2]
   have n1:=mt (ab Q1).2 c1
   have n2:=mt (ab Q2).2 c2
   go_wp2_with fail
   refine (fP W s _).mono ?_
   rintro e w' ⟨rfl,he⟩
   obtain rfl:W=w':=he.symm
   by_cases c3:yP s ⟨#[48]⟩
   ·rw[ES c3]
    have l3:=(ab Q3).1 c3
    have Cy:wv (aI s)=bV 8 9223372036854775807 (aI s) 0:=by unfold wv;rw[if_neg (fun o=>o.elim n1 n2),if_pos l3]
    have R5:1≤s.size:=by have:=congrArg List.length l3;rw[List.length_take,aZ] at this;simp at this;omega
    have hg:∀u,0<s.size→bV 8 9223372036854775807 (aI s) 0=some u→wv (aI s)=some u:=fun u _ h2=>by rw[Cy,h2]
    have ou:(s.size=0∨bV 8 9223372036854775807 (aI s) 0=none)→wv (aI s)=none:=fun hh=>by
     rcases hh with hh|hh
     ·omega
     ·rw[Cy,hh]
    clear Cy n1 n2 l3
    go_wp2_with fail
    refine ((Dw h s hs).2.2).mono ?_
    rintro e w1 ⟨aX,⟨u,rfl,hz,hu⟩|⟨u,p,rfl,hu⟩⟩
    ·have hw:=hg u hz hu
     have hle:=Di hw
     have Hw:=al hw
     have Hb:=al aX
     clear hw hu hz aX hg ou
     go_wp2
     go_ret2
     exact ga _ _ (ab Hb) (.inl ⟨u,ab Hw,by go_num,rfl⟩)
    ·have hw:=ou hu
     have Hw:=al hw
     have Hb:=al aX
     clear hw hu aX hg ou
     go_wp2
     go_ret2
     exact ga _ _ (ab Hb) (.inr ⟨ab Hw,rfl,rfl⟩)
   ·rw[B8 c3]
    have n3:=mt (ab Q3).2 c3
    have Cy:wv (aI s)=if aI s=[] then none else bV 10 9223372036854775807 (aI s) 0:=by unfold wv;rw[if_neg (fun o=>o.elim n1 n2),if_neg n3]
    have hg:∀u,0<s.size→bV 10 9223372036854775807 (aI s) 0=some u→wv (aI s)=some u:=fun u h1 h2=>by
     have iP:¬aI s=[]:=fun e=>by
      have h9:(aI s).length=0:=by rw[e];rfl
      rw[aZ] at h9
      omega
     rw[Cy,if_neg iP,h2]
    have ou:(s.size=0∨bV 10 9223372036854775807 (aI s) 0=none)→wv (aI s)=none:=fun hh=>by
     rw[Cy]
     split
     ·rfl
     ·rename_i iP
      rcases hh with hh|hh
      ·exact absurd (List.eq_nil_of_length_eq_zero (by rw[aZ];exact hh)) iP
      ·exact hh
    clear Cy n1 n2 n3
    go_wp2_with fail
    refine ((Dw h s hs).2.1).mono ?_
    rintro e w1 ⟨aX,⟨u,rfl,hz,hu⟩|⟨u,p,rfl,hu⟩⟩
    ·have hw:=hg u hz hu
     have hle:=Di hw
     have Hw:=al hw
     have Hb:=al aX
     clear hw hu hz aX hg ou
     go_wp2
     go_ret2
     exact ga _ _ (ab Hb) (.inl ⟨u,ab Hw,by go_num,rfl⟩)
    ·have hw:=ou hu
     have Hw:=al hw
     have Hb:=al aX
     clear hw hu aX hg ou
     go_wp2
     go_ret2
     exact ga _ _ (ab Hb) (.inr ⟨ab Hw,rfl,rfl⟩)
theorem JE.same {l:List Nat}{n c m d:Int} (h:JE l n c) (k:JE l m d):n=m∧c=d:=by
 rcases h with ⟨u,h1,rfl,rfl⟩|⟨h1,rfl,rfl⟩<;>rcases k with ⟨v,k1,rfl,rfl⟩|⟨k1,rfl,rfl⟩
 ·rw[h1] at k1;obtain rfl:=zC k1;exact ⟨rfl,rfl⟩
 ·rw[h1] at k1;cases k1
 ·rw[h1] at k1;cases k1
 ·exact ⟨rfl,rfl⟩
end Go.Proofs.YtichhjfjcinjgaaGreatDoor

import Derived.Test.YtichhjfjcinjgaaGreatDoorM05
import Derived.Shelf.Strings.Split
import Derived.Shelf.Strings.Prefix
import Derived.Lib.SplitLaws
import Derived.Lib.CountLaws
import Derived.Lib.ConvBytes
import Derived.Lib.AtoiErrMem
set_option maxHeartbeats 1000000
set_option maxRecDepth 100000
namespace Go.Proofs.YtichhjfjcinjgaaGreatDoor
open Go.RowKit
attribute [local go_sem ↓] Go.wp_at_zero Go.wp_at_succ
theorem OE {a b:Nat} (h:¬a=b):((a:Int)==(b:Int))=false:=by simp;omega
theorem OD (a:Nat):((a:Int)==(a:Int))=true:=by simp
def mI (s:ByteArray):Prop:=(1≤s.size∧s.size≤255)∧(∀x,(aI s)[0]?=some x→isLet x)∧∀(j x:Nat),(aI s)[j]?=some x→isLet x∨c7 x
theorem E8 (W:World) (s:ByteArray) :
  Calls Tryz.prog 108 #[.string s] W fun e w=>∃b:Bool,e=.returned (.bool b)∧w=W∧(b=true↔mI s):=by
 by_cases h0:s.size=0
 ·obtain rfl:s=⟨#[]⟩:=by cases s with|mk d=>cases d with|mk l=>cases l with|nil=>rfl|cons a r=>simp[ByteArray.size] at h0
  go_enter Tryz.func108,Tryz.ntmps108
  go_wp2
  go_ret
  exact ⟨_,rfl,rfl,by simp[mI,ByteArray.size]⟩
 ·have e0:=uK h0
  by_cases h1:s.size≤255
  ·obtain ⟨x,hx,c8,gx⟩:=cj s 0 (by omega)
   have e1:=Rn (a:=s.size) (k:=255) (by omega)
   have Hx:=al hx
   clear hx
   go_enter Tryz.func108,Tryz.ntmps108
   go_wp2_with fail
   refine (iM W x c8).mono ?_
   rintro e w' ⟨rfl,he⟩
   obtain rfl:W=w':=he.symm
   by_cases h2:isLet x
   ·rw[pt.2 h2]
    go_wp2_with fail
    refine (xT W s (by omega)).mono ?_
    rintro e w' ⟨n,rfl,he,hn,kE,Sh⟩
    obtain rfl:W=w':=he.symm
    have lQ:=al kE
    have qx:=al Sh
    clear kE Sh gx
    by_cases ZF:n=s.size
    ·subst ZF
     have e2:=OD s.size
     go_wp2
     go_ret
     refine ⟨_,rfl,rfl,fun _=>⟨⟨by omega,h1⟩,fun y hy=>?_,fun j y hy=>?_⟩,fun _=>rfl⟩
     ·rw[ab Hx] at hy;obtain rfl:=zC hy;exact h2
     ·exact ab lQ j y (by have:=(zB hy).1;rwa [aZ] at this) hy
    ·have e2:=OE ZF
     go_wp2
     go_ret
     refine ⟨_,rfl,rfl,fun h=>by simp at h,fun h=>?_⟩
     obtain ⟨y,hy,_,_⟩:=cj s n (by omega)
     exact absurd (h.2.2 n y hy) (ab qx y hy)
   ·have h3:¬cls x=2:=mt pt.1 h2
    have e2:((cls x:Int)==2)=false:=by simp;omega
    have H2:=al h2
    clear h2 gx
    generalize cls x=kx at *
    go_wp2
    go_ret
    refine ⟨_,rfl,rfl,fun h=>by simp at h,fun h=>absurd (h.2.1 x (ab Hx)) (ab H2)⟩
  ·have e1:=Rm (a:=s.size) (k:=255) (by omega)
   go_enter Tryz.func108,Tryz.ntmps108
   go_wp2
   go_ret
   exact ⟨_,rfl,rfl,fun h=>by simp at h,fun h=>absurd h.1.2 h1⟩
def xD (W:World) (p:Prop) (e:Ending) (w:World):Prop:=∃b:Bool,e=.returned (.bool b)∧w=W∧(b=true↔p)
theorem nw {W:World}{p:Prop} (b:Bool) (h:b=true↔p):xD W p (.returned (.bool b)) W:=⟨b,rfl,rfl,h⟩
theorem iy (W:World) (c:Nat) (hc:c<256) :
  Calls Tryz.prog 102 #[.int .u8 (c:Int)] W (xD W (isLet c)):=by
 go_enter Tryz.func102,Tryz.ntmps102
 go_wp2
 all_goals (go_ret;refine nw _ ?_;simp[isLet];omega)
theorem lq (W:World) (c:Nat) (hc:c<256) :
  Calls Tryz.prog 103 #[.int .u8 (c:Int),.int .u8 10] W (xD W (c7 c)):=by
 go_enter Tryz.func103,Tryz.ntmps103
 go_wp2
 all_goals (go_ret;refine nw _ ?_;simp[c7];omega)
theorem BC (W:World) (s:ByteArray) :
  Calls Tryz.prog 149 #[.string s] W (xD W (mI s)):=by
 by_cases h0:s.size=0
 ·have e0:decide ((s.size:Int)<1)=true:=by simp;omega
  go_enter Tryz.func149,Tryz.ntmps149
  go_wp2
  go_ret
  exact nw _ (by simp[mI];omega)
 ·have e0:decide ((s.size:Int)<1)=false:=by simp;omega
  by_cases h1:s.size≤255
  ·obtain ⟨x,hx,c8,gx⟩:=cj s 0 (by omega)
   have e1:=Rn (a:=s.size) (k:=255) (by omega)
   have Hx:=al hx
   clear hx
   go_enter Tryz.func149,Tryz.ntmps149
   go_wp2_with fail
   refine (iy W x c8).mono ?_
   rintro e w' ⟨b,rfl,he,hb⟩
   obtain rfl:W=w':=he.symm
   have Hb:=al hb
   clear hb gx
   cases b with
   |false =>
    go_wp2
    go_ret
    exact nw _ ⟨fun h=>by simp at h,fun h=>by have:=(ab Hb).2 (h.2.1 x (ab Hx));simp at this⟩
   |true =>
    go_wp2
    go_loopg [3] s.size (fun gk v3 wr=>∃(k:Nat),v3=.int .i64 (k:Int)∧gk=s.size-k∧k≤s.size∧wr=W∧∀j x,j<k→(aI s)[j]?=some x→isLet x∨c7 x)
    case atStart=>exact ⟨0,rfl,rfl,by omega,rfl,fun j x hj=>by omega⟩
    case round =>
     obtain ⟨k,rfl,aW,hk,rfl,kE⟩:=hrel
     have bz:=al aW
     have lQ:=al kE
     clear aW kE
     by_cases aM:k<s.size
     ·obtain ⟨y,hy,AL,gy⟩:=cj s k aM
      have Hy:=al hy
      clear hy
      go_wp2_with fail
      refine (iy wr y AL).mono ?_
      rintro e w' ⟨b,rfl,he,hb⟩
      obtain rfl:wr=w':=he.symm
      have vJ:=al hb
      clear hb
      cases b with
      |true =>
       go_wp2
       go_roundg (s.size-(k+1))
       case measure=>have:=ab bz;omega
       case rel =>
        refine ⟨k+1,by go_num,rfl,by omega,rfl,fun j z hj hz=>?_⟩
        by_cases Mz:j<k
        ·exact ab lQ j z Mz hz
        ·obtain rfl:j=k:=by omega
         rw[ab Hy] at hz
         obtain rfl:=zC hz
         exact .inl (by simpa using ab vJ)
      |false =>
       go_wp2_with fail
       refine (lq wr y AL).mono ?_
       rintro e w' ⟨b,rfl,he,hb⟩
       obtain rfl:wr=w':=he.symm
       have Uo:=al hb
       clear hb
       cases b with
       |true =>
        go_wp2
        go_roundg (s.size-(k+1))
        case measure=>have:=ab bz;omega
        case rel =>
         refine ⟨k+1,by go_num,rfl,by omega,rfl,fun j z hj hz=>?_⟩
         by_cases Mz:j<k
         ·exact ab lQ j z Mz hz
         ·obtain rfl:j=k:=by omega
          rw[ab Hy] at hz
          obtain rfl:=zC hz
          exact .inr (by simpa using ab Uo)
       |false =>
        go_wp2
        go_ret
        refine nw _ ⟨fun h=>by simp at h,fun h=>?_⟩
        rcases h.2.2 k y (ab Hy) with q|q
        ·have:=(ab vJ).2 q;simp at this
        ·have:=(ab Uo).2 q;simp at this
     ·obtain rfl:k=s.size:=by omega
      go_wp2
      go_ret
      refine nw _ ⟨fun _=>⟨⟨by omega,h1⟩,fun y hy=>?_,fun j y hy=>?_⟩,fun _=>rfl⟩
      ·rw[ab Hx] at hy;obtain rfl:=zC hy;exact (by simpa using ab Hb)
      ·exact ab lQ j y (by have:=(zB hy).1;rwa [aZ] at this) hy
  ·have e1:=Rm (a:=s.size) (k:=255) (by omega)
   go_enter Tryz.func149,Tryz.ntmps149
   go_wp2
   go_ret
   exact nw _ ⟨fun h=>by simp at h,fun h=>absurd h.1.2 h1⟩
end Go.Proofs.YtichhjfjcinjgaaGreatDoor
namespace Go.Proofs
open Go.Shelf
def Tryz.uF:Go.Shelf.Ren:=⟨fun|146=>63|221=>107|268=>154|138=>155|143=>156|195=>184|197=>185|218=>186|219=>187|260=>195|217=>181|225=>196|224=>197|267=>198|266=>194|314=>210|n=>n,fun|9=>9|31=>22|3=>3|4=>4|0=>0|105=>204|21=>21|5=>5|46=>156|119=>222|139=>225|138=>224|146=>187|51=>186|n=>n,fun|1=>1|3=>2|4=>3|n=>n⟩
theorem Tryz.Co:Go.Proofs.Lays.n146 Tryz.prog Tryz.uF:={
 mixed:=by kernel_rfl
 f138:=Tryz.func155.trans (congrArg some (by kernel_rfl))
 f143:=Tryz.func156.trans (congrArg some (by kernel_rfl))
 f146:=Tryz.func63.trans (congrArg some (by kernel_rfl))
 f195:=Tryz.func184.trans (congrArg some (by kernel_rfl))
 f197:=Tryz.func185.trans (congrArg some (by kernel_rfl))
 f217:=Tryz.func181.trans (congrArg some (by kernel_rfl))
 f218:=Tryz.func186.trans (congrArg some (by kernel_rfl))
 f219:=Tryz.func187.trans (congrArg some (by kernel_rfl))
 f221:=Tryz.func107.trans (congrArg some (by kernel_rfl))
 f224:=Tryz.func197.trans (congrArg some (by kernel_rfl))
 f225:=Tryz.func196.trans (congrArg some (by kernel_rfl))
 f260:=Tryz.func195.trans (congrArg some (by kernel_rfl))
 f266:=Tryz.func194.trans (congrArg some (by kernel_rfl))
 f267:=Tryz.func198.trans (congrArg some (by kernel_rfl))
 f268:=Tryz.func154.trans (congrArg some (by kernel_rfl))
 f314:=Tryz.func210.trans (congrArg some (by kernel_rfl))
 t0:=Tryz.underlying0
 a0:=Tryz.isAgg0
 z0:=Tryz.sizeOf0
 v0:=Tryz.zeroValue0
 t3:=Tryz.underlying3
 a3:=Tryz.isAgg3
 z3:=Tryz.sizeOf3
 v3:=Tryz.zeroValue3
 t4:=Tryz.underlying4
 a4:=Tryz.isAgg4
 z4:=Tryz.sizeOf4
 v4:=Tryz.zeroValue4
 t5:=Tryz.underlying5
 a5:=Tryz.isAgg5
 z5:=Tryz.sizeOf5
 v5:=Tryz.zeroValue5
 t9:=Tryz.underlying9
 a9:=Tryz.isAgg9
 z9:=Tryz.sizeOf9
 v9:=Tryz.zeroValue9
 t21:=Tryz.underlying21
 a21:=Tryz.isAgg21
 z21:=Tryz.sizeOf21
 v21:=Tryz.zeroValue21
 t31:=Tryz.underlying22
 a31:=Tryz.isAgg22
 z31:=Tryz.sizeOf22
 v31:=Tryz.zeroValue22
 t46:=Tryz.underlying156
 a46:=Tryz.isAgg156
 z46:=Tryz.sizeOf156
 v46:=Tryz.zeroValue156
 t51:=Tryz.underlying186
 a51:=Tryz.isAgg186
 z51:=Tryz.sizeOf186
 v51:=Tryz.zeroValue186
 t105:=Tryz.underlying204
 a105:=Tryz.isAgg204
 z105:=Tryz.sizeOf204
 v105:=Tryz.zeroValue204
 t119:=Tryz.underlying222
 a119:=Tryz.isAgg222
 z119:=Tryz.sizeOf222
 t138:=Tryz.underlying224
 a138:=Tryz.isAgg224
 z138:=Tryz.sizeOf224
 v138:=Tryz.zeroValue224
 t139:=Tryz.underlying225
 a139:=Tryz.isAgg225
 z139:=Tryz.sizeOf225
 v139:=Tryz.zeroValue225
 t146:=Tryz.underlying187
 a146:=Tryz.isAgg187
 z146:=Tryz.sizeOf187
 v146:=Tryz.zeroValue187
 g1:=by kernel_rfl
 g3:=by kernel_rfl
 g4:=by kernel_rfl }
def Tryz.vX:Go.Shelf.Ren:=⟨fun|101=>159|208=>188|206=>166|n=>n,fun|9=>9|4=>4|3=>3|n=>n,fun|n=>n⟩
theorem Tryz.E3:Go.Proofs.Lays.n101 Tryz.prog Tryz.vX:={
 mixed:=by kernel_rfl
 f101:=Tryz.func159.trans (congrArg some (by kernel_rfl))
 f206:=Tryz.func166.trans (congrArg some (by kernel_rfl))
 f208:=Tryz.func188.trans (congrArg some (by kernel_rfl))
 t3:=Tryz.underlying3
 a3:=Tryz.isAgg3
 z3:=Tryz.sizeOf3
 v3:=Tryz.zeroValue3
 t4:=Tryz.underlying4
 a4:=Tryz.isAgg4
 z4:=Tryz.sizeOf4
 v4:=Tryz.zeroValue4
 t9:=Tryz.underlying9
 a9:=Tryz.isAgg9
 z9:=Tryz.sizeOf9
 v9:=Tryz.zeroValue9 }
end Go.Proofs
namespace Go.Proofs.YtichhjfjcinjgaaGreatDoor
open Go.RowKit
attribute [local go_sem ↓] Go.wp_at_zero Go.wp_at_succ
noncomputable def bD (s:ByteArray):Bool:=@decide (mI s) (Classical.propDecidable _)
theorem DJ {s:ByteArray}{b:Bool} (h:b=true↔mI s):b=bD s:=by
 unfold bD
 cases b with
 |true=>exact (@decide_eq_true _ (Classical.propDecidable _) (h.1 rfl)).symm
 |false=>exact (@decide_eq_false _ (Classical.propDecidable _) (fun k=>by cases h.2 k)).symm
theorem Le (W:World) (s:ByteArray):Calls Tryz.prog 108 #[.string s] W fun e w=>e=.returned (.bool (bD s))∧w=W:=by
 refine (E8 W s).mono ?_
 rintro e w ⟨b,rfl,rfl,h⟩
 rw[DJ h]
 exact ⟨rfl,rfl⟩
theorem Gm (W:World) (s:ByteArray):Calls Tryz.prog 149 #[.string s] W fun e w=>e=.returned (.bool (bD s))∧w=W:=by
 refine (BC W s).mono ?_
 rintro e w ⟨b,rfl,rfl,h⟩
 rw[DJ h]
 exact ⟨rfl,rfl⟩
theorem iz (W:World) (s:ByteArray):Calls Tryz.prog 64 #[.string s] W fun e w=>e=.returned (.bool (bD s))∧w=W:=by
 have HI:=al (Le W s)
 go_enter Tryz.func64,Tryz.ntmps64
 go_wp2_with fail
 refine (ab HI).mono ?_
 rintro e w ⟨rfl,rfl⟩
 clear HI
 go_wp2
 go_ret
 exact ⟨rfl,rfl⟩
theorem gu (W:World) (s:ByteArray):Calls Tryz.prog 96 #[.string s] W fun e w=>e=.returned (.bool (bD s))∧w=W:=by
 have HI:=al (Gm W s)
 go_enter Tryz.func96,Tryz.ntmps96
 go_wp2_with fail
 refine (ab HI).mono ?_
 rintro e w ⟨rfl,rfl⟩
 clear HI
 go_wp2
 go_ret
 exact ⟨rfl,rfl⟩
theorem nV (W:World) (n lo hi:Int):Calls Tryz.prog 67 #[.int .i64 n,.int .i64 lo,.int .i64 hi] W fun e w=>e=.returned (.bool (decide (lo≤n)&&decide (n≤hi)))∧w=W:=by
 by_cases h:lo≤n
 ·have e1:decide (lo≤n)=true:=decide_eq_true h
  rw[e1]
  go_enter Tryz.func67,Tryz.ntmps67
  go_wp2
  go_ret
  exact ⟨rfl,rfl⟩
 ·have e1:decide (lo≤n)=false:=decide_eq_false h
  rw[e1]
  go_enter Tryz.func67,Tryz.ntmps67
  go_wp2
  go_ret
  exact ⟨rfl,rfl⟩
def du (s:ByteArray):Bool:=decide ((1:Int)≤(s.size:Int))&&decide ((s.size:Int)≤255)
theorem Cu (W:World) (s:ByteArray):Calls Tryz.prog 37 #[.string s] W fun e w=>e=.returned (.bool (du s))∧w=W:=by
 have HI:=al (nV W (s.size:Int) 1 255)
 go_enter Tryz.func37,Tryz.ntmps37
 go_wp2_with fail
 refine (ab HI).mono ?_
 rintro e w ⟨rfl,rfl⟩
 clear HI
 go_wp2
 go_ret
 exact ⟨rfl,rfl⟩
def vj:ByteArray:=⟨#[46]⟩
def pieces (s:ByteArray):List ByteArray:=Lib.splitB vj 0 (Lib.countB s vj) s
def yH (x:Nat):Option Nat:=if 48≤x∧x≤57 then some (x-48) else if 65≤x∧x≤90 then some (x-55) else if 97≤x∧x≤122 then some (x-87) else none
def bV (B M:Nat):List Nat→Nat→Option Nat
 |[],n=>some n
 |c::r,n=>match yH c with
  |none=>none
  |some d=>if d<B∧n*B+d≤M then bV B M r (n*B+d) else none
def low (x:Nat):Nat:=x |||32
theorem NA {x:Nat} (h1:65≤x) (h2:x≤90):low x=x+32:=by
 have key:∀k:Fin 256,65≤k.val→k.val≤90→low k.val=k.val+32:=by decide +kernel
 exact key ⟨x,by omega⟩ h1 h2
theorem H9 {x:Nat} (h1:97≤x) (h2:x≤122):low x=x:=by
 have key:∀k:Fin 256,97≤k.val→k.val≤122→low k.val=k.val:=by decide +kernel
 exact key ⟨x,by omega⟩ h1 h2
theorem H8 {x:Nat} (h:x<256) (h1:¬(65≤x∧x≤90)) (h2:¬(97≤x∧x≤122)):low x<97∨122<low x:=by
 have key:∀k:Fin 256,¬(65≤k.val∧k.val≤90)→¬(97≤k.val∧k.val≤122)→low k.val<97∨122<low k.val:=by decide +kernel
 exact key ⟨x,h⟩ h1 h2
theorem H' {x:Nat} (h:x<256):bits .or .u8 (x:Int) 32=((low x:Nat):Int):=by
 have key:∀k:Fin 256,bits .or .u8 ((k.val:Nat):Int) 32=((low k.val:Nat):Int):=by decide +kernel
 exact key ⟨x,h⟩
theorem E0 (W:World) (x:Nat) (hx:x<256):Calls Tryz.prog 203 #[.int .u8 (x:Int)] W fun e w=>e=.returned (.int .u8 ((low x:Nat):Int))∧w=W:=by
 have hb:=H' hx
 go_enter Tryz.func203,Tryz.ntmps203
 go_wp2
 go_ret
 exact ⟨rfl,rfl⟩
def PU (W:World) (B M:Nat) (s:ByteArray) (e:Ending) (w:World):Prop:=Below W.heap.size W w ∧
 ((∃u:Nat,e=.returned (.tuple #[.int .u64 (u:Int),.nilIface])∧0<s.size∧bV B M (aI s) 0=some u) ∨
  (∃u c:Int,e=.returned (.tuple #[.int .u64 u,.iface 216 (.int .i64 c)])∧(c=1∨c=2)∧(s.size=0∨bV B M (aI s) 0=none)))
theorem PU.bad {W w:World}{B M:Nat}{s:ByteArray} (u c:Int) (hb:Below W.heap.size W w) (hc:c=1∨c=2) (h:s.size=0∨bV B M (aI s) 0=none) :
  PU W B M s (.returned (.tuple #[.int .u64 u,.iface 216 (.int .i64 c)])) w:=⟨hb,.inr ⟨u,c,rfl,hc,h⟩⟩
theorem PU.W9 {W w:World}{B M:Nat}{s:ByteArray} (u:Nat) (hb:Below W.heap.size W w) (h0:0<s.size) (h:bV B M (aI s) 0=some u) :
  PU W B M s (.returned (.tuple #[.int .u64 (u:Int),.nilIface])) w:=⟨hb,.inl ⟨u,rfl,h0,h⟩⟩
theorem EE (s:ByteArray) (j x:Nat) (h:(aI s)[j]?=some x):(s.data.toList.getD j 0).toNat=x:=by
 unfold aI at h
 rw[List.getElem?_map] at h
 obtain ⟨b,hb,rfl⟩:=Option.map_eq_some_iff.1 h
 rw[List.getD_eq_getElem?_getD,hb]
 rfl
end Go.Proofs.YtichhjfjcinjgaaGreatDoor

import Derived.Test.YtjophoclfccmcaaGreatDoorChecked
import Derived.WalkKit
import Derived.WalkSpells
import Derived.StillTactics
import Derived.OwnWalk
import Derived.Below
import Derived.Deep.LoopGhost
import Derived.Deep.AppendLies
import Derived.Maps.AppendAt
import Derived.Deep.RegionHeld3
import Derived.KernelRfl
import Derived.Laws.BitsLemmas
import Derived.Laws.BitsAllLaws
import Derived.Deep.DrawnRows
import Derived.BigQuiet
import Derived.Deep.QuietTactic
import Derived.RangeFuncLeaves
import Derived.Laws.IdiomStrings
import Derived.Laws.BytesArg
import Derived.Laws.CopyOwn
import Derived.Lib.SlBytesConst
import Derived.Laws.Externs
import Derived.Laws.StandIn
import Derived.Lib.ConvBytes
import Derived.Lib.AtoiErrMem
import Derived.Lib.Strings
import Derived.Deep.RegionLaw
set_option maxHeartbeats 4000000
set_option maxRecDepth 100000
namespace Go.Proofs.YtjophoclfccmcaaGreatDoor
open Go.RowKit
theorem zA {α:Type} {x:Array α} {i:Nat} {b:α} (h:x[i]?=some b):∃h:i<x.size,x[i]=b:=Array.getElem?_eq_some_iff.1 h
theorem zB {α:Type} {x:List α} {i:Nat} {b:α} (h:x[i]?=some b):∃h:i<x.length,x[i]=b:=List.getElem?_eq_some_iff.1 h
theorem zC {α:Type} {a b:α} (h:some a=some b):a=b:=Option.some.inj h
theorem zD (n:Nat):n≤n:=Nat.le_refl n
theorem zE (k:Nat) (w:World):Below k w w:=Below.refl k w
theorem zF {α:Type} {a:α} {l:List α} (y:α) (h:a∈l):a∈y::l:=List.mem_cons_of_mem y h
theorem zG {α:Type} {x:Option α} (h:x.isSome=true):∃a,x=some a:=Option.isSome_iff_exists.1 h
theorem zI (w:World) (o:Option Nat):w.grownBy w o:=World.grownBy.refl w o
theorem zJ (w:World) (o:Obj):(w.alloc o).heap.size=w.heap.size+1:=World.size_alloc w o
theorem zK {α:Type} {l m:List α}:(l++m).length=l.length+m.length:=List.length_append
theorem zL {α:Type} (l:List α) (i:Nat) (a:α):l.toArray.setIfInBounds i a=(l.set i a).toArray:=List.setIfInBounds_toArray l i a
theorem zM {α:Type} {l:List α} {a b:α}:(a::l).set 0 b=b::l:=rfl
theorem zN {α:Type} {l:List α} {n:Nat} {a b:α}:(a::l).set (n+1) b=a::l.set n b:=rfl
theorem zH (n:Nat):(0:Int)≤(n:Int):=Int.natCast_nonneg n
end Go.Proofs.YtjophoclfccmcaaGreatDoor
namespace Go.Proofs.YtjophoclfccmcaaGreatDoor
open Go.RowKit
def Hid (p:Prop):Prop:=p
theorem ab {p:Prop} (h:p):Hid p:=h
theorem aa {p:Prop} (h:Hid p):p:=h
theorem Tryz.infoByte:(Tryz.prog.info? 5).map (fun i=>(i.zero,i.size,i.bytes))=some (some (.int .u8 0),1,1):=by kernel_rfl
structure Ext (W:World) (v:Value) (W':World) (v':Value):Prop where
 os:W'.os=W.os
 tape:W'.tape=W.tape
 output:W'.output=W.output
 size:W.heap.size≤W'.heap.size
 gu:∀b,b<W.heap.size→some b≠v.ownBlock→W'.heap[b]?=W.heap[b]?
 own:v'.ownBlock=v.ownBlock∨∃g,v'.ownBlock=some g∧W.heap.size≤g
theorem Ext.refl (W:World) (v:Value):Ext W v W v:=⟨rfl,rfl,rfl,zD _,fun _ _ _=>rfl,.inl rfl⟩
theorem Ext.trans {A B C:World}{x y z:Value} (h:Ext A x B y) (k:Ext B y C z):Ext A x C z:=by
 refine ⟨k.os.trans h.os,k.tape.trans h.tape,k.output.trans h.output,Nat.le_trans h.size k.size,fun b hb hn=>?_,?_⟩
 ·refine (k.gu b (Nat.lt_of_lt_of_le hb h.size) (fun e=>?_)).trans (h.gu b hb hn)
  rcases h.own with o|⟨g,o,hg⟩
  ·exact hn (e.trans o)
  ·rw[o] at e
   have:b=g:=by simpa using e
   omega
 ·rcases k.own with o|⟨g,o,hg⟩
  ·rw[o];exact h.own
  ·exact .inr ⟨g,o,Nat.le_trans h.size hg⟩
theorem Ext.below {A B:World}{x y:Value} (h:Ext A x B y) {n:Nat} (hn:n≤A.heap.size) (hx:∀b,x.ownBlock=some b→n≤b):Below n A B :=
 ⟨h.os,h.tape,h.output,h.size,fun b hb=>h.gu b (Nat.lt_of_lt_of_le hb hn) (fun e=>by have:=hx b e.symm;omega)⟩
theorem Ext.grown {W w':World}{v v':Value}{ob:Obj} (h:(W.alloc ob).grownBy w' v.ownBlock) (fg:v'.ownBlock=v.ownBlock∨v'.ownBlock=some (W.alloc ob).heap.size):Ext W v w' v' :=
 ⟨h.os,h.tape,h.output,by have:=h.size;rw[zJ] at this;omega,fun b hb hn=>(h.block b (by rw[zJ];omega) hn).trans (Below.heap_alloc W ob b hb),fg.imp id fun e=>⟨_,e,by rw[zJ];omega⟩⟩
theorem JB (n:Int):wrap64 n=(n+9223372036854775808) % 18446744073709551616-9223372036854775808:=by
 first|rfl|(unfold wrap64;omega)|(simp[wrap64];omega)
theorem aH (w:World) (o:Obj):(w.alloc o).heap[w.heap.size]?=some o:=by
 unfold World.alloc
 simp
theorem below_drewN {n:Nat}{A B:World} (h:Below n A B) (k:Nat):Below n A (B.drewN k):=⟨h.os,h.tape,h.output,h.size,h.block⟩
def nb (l:List Nat):List Value:=l.map fun (b:Nat)=>.int .u8 (b:Int)
theorem Ka (a b:List Nat):nb (a++b)=nb a++nb b:=by simp[nb]
theorem YN (l:List Nat) (i:Nat):(nb l)[i]?=l[i]?.map fun (b:Nat)=>.int .u8 (b:Int):=by simp[nb]
def QC (l:List Nat):Prop:=∀x ∈ l,x<256
theorem QC.append {a b:List Nat} (h:QC a) (k:QC b):QC (a++b):=fun x hx=>(List.mem_append.1 hx).elim (h x) (k x)
theorem QC.at {l:List Nat} (h:QC l) {i x:Nat} (hx:l[i]?=some x):x<256:=h x (List.mem_of_getElem? hx)
def Bytes (base:Nat) (W:World) (v:Value) (l:List Nat):Prop:=W.ownsRow base 5 1 v l.length (nb l)
theorem Ba (base:Nat) (W:World):Bytes base W (.slice none 0 0) []:=⟨rfl,.inl ⟨rfl,rfl⟩⟩
theorem Ext.fresh {W W':World}{v':Value} (h:Ext W (.slice none 0 0) W' v'):Below W.heap.size W W':=h.below (zD _) (fun b e=>by simp[Value.ownBlock] at e)
def EK (W:World) (v:Value) (l:List Nat):Prop:=∃a c,v=.slice a l.length c∧(l.length≤c∧c≤maxLen∧(a=none→c=0))∧(0<l.length→∃g off,a=some ⟨g,off,none⟩∧g<W.heap.size∧∀(i b:Nat),l[i]?=some b→W.cell? ⟨g,off+i,none⟩=some (.int .u8 (b:Int)))
theorem Bytes.has {base:Nat}{W:World}{v:Value}{l:List Nat} (h:Bytes base W v l):EK W v l:=by
 unfold Bytes at h
 have h':=h
 obtain ⟨_,⟨rfl,h0⟩|⟨g,c,cur,rfl,_,_,pN,fh,_⟩⟩:=h
 ·exact ⟨none,0,by rw[h0],by rw[h0];exact ⟨zD _,Nat.zero_le _,fun _=>rfl⟩,fun hp=>by omega⟩
 ·refine ⟨some ⟨g,0,none⟩,c,rfl,⟨pN,fh,nofun⟩,fun _=>⟨g,0,rfl,(h'.lt g rfl).2,fun i b hb=>?_⟩⟩
  have:=h'.cells (g:=g) rfl i (.int .u8 (b:Int)) (by simp[nb,hb])
  rwa [Go.WideShapes.add_plain] at this
theorem EK.up {W w:World}{v:Value}{l:List Nat} (h:EK W v l) (hb:Below W.heap.size W w):EK w v l:=by
 obtain ⟨a,c,rfl,hm,h3⟩:=h
 refine ⟨a,c,rfl,hm,fun hp=>?_⟩
 obtain ⟨g,off,rfl,h4,h5⟩:=h3 hp
 exact ⟨g,off,rfl,Nat.lt_of_lt_of_le h4 hb.size,fun i k hk=>(hb.cell (p:=⟨g,off+i,none⟩) h4).trans (h5 i k hk)⟩
theorem EK.take {W:World}{v:Value}{l:List Nat} (h:EK W v l) (n:Nat) (hn:n≤l.length):∃a c,v=.slice a l.length c∧EK W (.slice a n c) (l.take n):=by
 obtain ⟨a,c,rfl,hm,h3⟩:=h
 have hl:(l.take n).length=n:=by rw[List.length_take];omega
 refine ⟨a,c,rfl,a,c,by rw[hl],⟨by omega,hm.2.1,hm.2.2⟩,fun hp=>?_⟩
 obtain ⟨g,off,rfl,h4,h5⟩:=h3 (by omega)
 refine ⟨g,off,rfl,h4,fun i b hb=>h5 i b ?_⟩
 rw[List.getElem?_take] at hb
 split at hb
 ·exact hb
 ·cases hb
def Rc (l:List Nat):ByteArray:=⟨(l.map UInt8.ofNat).toArray⟩
theorem M4 (l:List Nat):(Rc l).size=l.length:=by simp[Rc,ByteArray.size]
theorem QK {x:Nat} (h:x<256):(UInt8.ofNat x).toNat=x:=by simp;omega
theorem zb {W:World}{v:Value}{l:List Nat} (h:EK W v l) (hl:QC l):(convert 94 9 v).run Tryz.prog W=.ok (.string (Rc l)) W:=by
 obtain ⟨a,c,rfl,_,h3⟩:=h
 by_cases hp:0<l.length
 ·obtain ⟨g,off,rfl,_,hc⟩:=h3 hp
  have:=run_convert_bytes_back (P:=Tryz.prog) W 94 9 5 ⟨g,off,none⟩ c (l.map UInt8.ofNat) Tryz.underlying94 Tryz.underlying5 Tryz.underlying9 (fun j hj=>by
   rw[Go.WideShapes.add_plain]
   have RX:j<l.length:=by simpa using hj
   rw[hc j l[j] (List.getElem?_eq_getElem RX)]
   simp only[List.getElem_map]
   rw[QK (hl _ (List.getElem_mem RX))])
  simpa[Rc] using this
 ·obtain rfl:l=[]:=by cases l;rfl;simp at hp
  cases a with
  |none =>
   rw[show ([]:List Nat).length=0 from rfl,run_convert_bytes_string W 94 9 5 none 0 c Tryz.underlying94 Tryz.underlying5 Tryz.underlying9]
   simp[Conv.bytesToString]
   rfl
  |some ad =>
   have:=run_convert_bytes_back (P:=Tryz.prog) W 94 9 5 ad c [] Tryz.underlying94 Tryz.underlying5 Tryz.underlying9 (fun j hj=>by simp at hj)
   simpa[Rc] using this
def aI (s:ByteArray):List Nat:=s.data.toList.map UInt8.toNat
theorem bG (s:ByteArray):(aI s).length=s.size:=by simp[aI]
theorem Mo (s:ByteArray):QC (aI s):=by
 intro x hx
 obtain ⟨b,_,rfl⟩:=List.mem_map.1 hx
 exact b.toNat_lt
end Go.Proofs.YtjophoclfccmcaaGreatDoor
namespace Go.Proofs.YtjophoclfccmcaaGreatDoor
open Go.RowKit
attribute [local go_sem ↓] Go.wp_at_zero Go.wp_at_succ
theorem Mn (s:ByteArray) (n x:Nat) (h:(aI s)[n]?=some x) (hn:n<s.size):(s[n]'hn).toNat=x:=by
 unfold aI at h
 rw[List.getElem?_map] at h
 obtain ⟨b,hb,rfl⟩:=Option.map_eq_some_iff.1 h
 have hd:n<s.data.toList.length:=by simpa using hn
 rw[List.getElem?_eq_getElem hd] at hb
 rw[←zC hb]
 rfl
theorem cS (s:ByteArray) (n:Nat) (hn:n<s.size):∃x,(aI s)[n]?=some x∧x<256∧(s[n]'hn).toNat=x:=by
 have hl:n<(aI s).length:=by rw[bG];exact hn
 have h:=List.getElem?_eq_getElem hl
 exact ⟨_,h,(Mo s).at h,Mn s n _ h hn⟩
theorem jI {c:Nat}{k:Int} (h:k<(c:Int)):decide ((c:Int)≤k)=false:=by simp;omega
theorem DK {c:Nat}{k:Int} (h:(c:Int)≤k):decide ((c:Int)≤k)=true:=by simp;omega
theorem nj {c:Nat}{k:Int} (h:(c:Int)<k):decide (k≤(c:Int))=false:=by simp;omega
theorem gd {c:Nat}{k:Int} (h:k≤(c:Int)):decide (k≤(c:Int))=true:=by simp;omega
theorem kL {c:Nat}{k:Int} (h:¬((c:Int)=k)):((c:Int)==k)=false:=by simp;omega
theorem Tm {a:Nat}{k:Int} (h:(a:Int)≤k):decide (k<(a:Int))=false:=by simp;omega
theorem Tl {a:Nat}{k:Int} (h:k<(a:Int)):decide (k<(a:Int))=true:=by simp;omega
theorem rq {s:ByteArray} (h:¬s.size=0):s.toList.isEmpty=false:=by
 rw[ByteArray.toList_eq]
 cases hd:s.data.toList with
 |nil=>exact absurd (by have:=congrArg List.length hd;simpa using this) h
 |cons a r=>rfl
theorem rp {s:ByteArray} (h:s.size=0):s=⟨#[]⟩:=by
 cases s with|mk d=>cases d with|mk l=>cases l with|nil=>rfl|cons a r=>simp[ByteArray.size] at h
def isLet (c:Nat):Prop:=(65≤c∧c≤90)∨(97≤c∧c≤122)∨c=95
def eD (c:Nat):Prop:=48≤c∧c≤57
def om (c:Nat):Prop:=c ∈ [123,125,91,93,40,41,60,62,59,44,61,46,45]
instance (c:Nat):Decidable (isLet c):=by unfold isLet;infer_instance
instance (c:Nat):Decidable (eD c):=by unfold eD;infer_instance
instance (c:Nat):Decidable (om c):=by unfold om;infer_instance
def cls (c:Nat):Nat:=if (9≤c∧c≤13)∨c=32 then 1 else if isLet c then 2 else if eD c then 3 else if c=39∨c=34 then 4 else if om c then 5 else if c=47 then 6 else 0
theorem rR {c:Nat}:cls c=2↔isLet c:=by
 unfold cls
 constructor
 ·intro h
  repeat' split at h
  all_goals first|assumption|omega
 ·intro h
  rw[if_neg (by unfold isLet at h;omega),if_pos h]
theorem Ck {c:Nat}:cls c=3↔eD c:=by
 unfold cls
 constructor
 ·intro h
  repeat' split at h
  all_goals first|assumption|omega
 ·intro h
  rw[if_neg (by unfold eD at h;omega),if_neg (by unfold eD at h;unfold isLet;omega),if_pos h]
theorem QY {c:Nat} (hc:c<256):(0≤firstIdx ⟨#[123,125,91,93,40,41,60,62,59,44,61,46,45]⟩ (Nat.toUInt8 c))↔om c:=by
 have key:∀k:Fin 256,(0≤firstIdx ⟨#[123,125,91,93,40,41,60,62,59,44,61,46,45]⟩ (Nat.toUInt8 k.val))↔om k.val:=by decide +kernel
 exact key ⟨c,hc⟩
theorem gW (W:World) (s:ByteArray) (c:Int) :
  Calls Tryz.prog 76 #[.string s,.int .u8 c] W fun e w=>e=.returned (.int .i64 (firstIdx s c.toNat.toUInt8))∧w=W:=by
 go_enter Tryz.func76,Tryz.ntmps76
 go_wp2
 rw[run_callFunc_indexByte Tryz.func133 (by kernel_rfl) (by kernel_rfl) (by kernel_rfl) (by kernel_rfl),run_indexByte_string]
 simp only[Result.andThen]
 go_wp2
 go_ret
 exact ⟨rfl,rfl⟩
def Ce (x:Nat):Option Nat:=if 48≤x∧x≤57 then some (x-48) else if 65≤x∧x≤90 then some (x-55) else if 97≤x∧x≤122 then some (x-87) else none
def cz (B M:Nat):List Nat→Nat→Option Nat
 |[],n=>some n
 |c::r,n=>match Ce c with
  |none=>none
  |some d=>if d<B∧n*B+d≤M then cz B M r (n*B+d) else none
def low (x:Nat):Nat:=x |||32
theorem U6 {x:Nat} (h1:65≤x) (h2:x≤90):low x=x+32:=by
 have key:∀k:Fin 256,65≤k.val→k.val≤90→low k.val=k.val+32:=by decide +kernel
 exact key ⟨x,by omega⟩ h1 h2
theorem NG {x:Nat} (h1:97≤x) (h2:x≤122):low x=x:=by
 have key:∀k:Fin 256,97≤k.val→k.val≤122→low k.val=k.val:=by decide +kernel
 exact key ⟨x,by omega⟩ h1 h2
theorem ND {x:Nat} (h:x<256) (h1:¬(65≤x∧x≤90)) (h2:¬(97≤x∧x≤122)):low x<97∨122<low x:=by
 have key:∀k:Fin 256,¬(65≤k.val∧k.val≤90)→¬(97≤k.val∧k.val≤122)→low k.val<97∨122<low k.val:=by decide +kernel
 exact key ⟨x,h⟩ h1 h2
theorem NH {x:Nat} (h:x<256):bits .or .u8 (x:Int) 32=((low x:Nat):Int):=by
 have key:∀k:Fin 256,bits .or .u8 ((k.val:Nat):Int) 32=((low k.val:Nat):Int):=by decide +kernel
 exact key ⟨x,h⟩
theorem Kh (W:World) (x:Nat) (hx:x<256):Calls Tryz.prog 158 #[.int .u8 (x:Int)] W fun e w=>e=.returned (.int .u8 ((low x:Nat):Int))∧w=W:=by
 have hb:=NH hx
 go_enter Tryz.func158,Tryz.ntmps158
 go_wp2
 go_ret
 exact ⟨rfl,rfl⟩
def PU (W:World) (B M:Nat) (s:ByteArray) (e:Ending) (w:World):Prop:=Below W.heap.size W w ∧
 ((∃u:Nat,e=.returned (.tuple #[.int .u64 (u:Int),.nilIface])∧0<s.size∧cz B M (aI s) 0=some u) ∨
  (∃u c:Int,e=.returned (.tuple #[.int .u64 u,.iface 179 (.int .i64 c)])∧(c=1∨c=2)∧(s.size=0∨cz B M (aI s) 0=none)))
theorem PU.bad {W w:World}{B M:Nat}{s:ByteArray} (u c:Int) (hb:Below W.heap.size W w) (hc:c=1∨c=2) (h:s.size=0∨cz B M (aI s) 0=none) :
  PU W B M s (.returned (.tuple #[.int .u64 u,.iface 179 (.int .i64 c)])) w:=⟨hb,.inr ⟨u,c,rfl,hc,h⟩⟩
theorem PU.abP {W w:World}{B M:Nat}{s:ByteArray} (u:Nat) (hb:Below W.heap.size W w) (h0:0<s.size) (h:cz B M (aI s) 0=some u) :
  PU W B M s (.returned (.tuple #[.int .u64 (u:Int),.nilIface])) w:=⟨hb,.inl ⟨u,rfl,h0,h⟩⟩
theorem JN (s:ByteArray) (j x:Nat) (h:(aI s)[j]?=some x):(s.data.toList.getD j 0).toNat=x:=by
 unfold aI at h
 rw[List.getElem?_map] at h
 obtain ⟨b,hb,rfl⟩:=Option.map_eq_some_iff.1 h
 rw[List.getD_eq_getElem?_getD,hb]
 rfl
def lh:List (Int×Int×Int×Int×Int):=[(0,127,0,0,0),(194,223,1,128,191),(224,224,2,160,191),(225,236,2,128,191),(237,237,2,128,159),(238,239,2,128,191),(240,240,3,144,191),(241,243,3,128,191),(244,244,3,128,143)]
def nG (W:World):Prop:=0<W.heap.size∧∀i a b c d e,lh[i]?=some (a,b,c,d,e)→W.cell? ⟨0,i*5,none⟩=some (.int .u8 a)∧W.cell? ⟨0,i*5+1,none⟩=some (.int .u8 b)∧W.cell? ⟨0,i*5+2,none⟩=some (.int .u8 c)∧W.cell? ⟨0,i*5+3,none⟩=some (.int .u8 d)∧W.cell? ⟨0,i*5+4,none⟩=some (.int .u8 e)
theorem nG.up {W w:World} (h:nG W) (hb:Below W.heap.size W w):nG w :=
 ⟨Nat.lt_of_lt_of_le h.1 hb.size,fun i a b c d e hf=>by
  obtain ⟨q0,q1,q2,q3,q4⟩:=h.2 i a b c d e hf
  exact ⟨(hb.cell (p:=⟨0,i*5,none⟩) h.1).trans q0,(hb.cell (p:=⟨0,i*5+1,none⟩) h.1).trans q1,(hb.cell (p:=⟨0,i*5+2,none⟩) h.1).trans q2,(hb.cell (p:=⟨0,i*5+3,none⟩) h.1).trans q3,(hb.cell (p:=⟨0,i*5+4,none⟩) h.1).trans q4⟩⟩
theorem oX:lh.length=9:=rfl
def aE (s:ByteArray) (i:Nat):Nat:=if h:i<s.size then s[i].toNat else 0
def Jk (s:ByteArray) (c:Nat) (d e:Int):Prop:=1+c≤s.size∧∀k,1≤k→k<1+c→(if k=1 then d else 128)≤(aE s k:Int)∧(aE s k:Int)≤(if k=1 then e else 191)
def Cy (s:ByteArray) (c:Nat) (d e n:Int):Prop:=n=1+(c:Int)∧Jk s c d e∨n=0∧¬Jk s c d e
theorem FQ (W:World) (s:ByteArray) (hs:s.size≤140737488351232) (a b d e:Int) (c:Nat) (hc:c≤3) :
  Calls Tryz.prog 77 #[.agg #[.int .u8 a,.int .u8 b,.int .u8 (c:Int),.int .u8 d,.int .u8 e],.string s] W fun o W'=>Below W.heap.size W W'∧∃n:Int,o=.returned (.int .i64 n)∧Cy s c d e n:=by
 have hw:wrap64 (1+(c:Int))=1+(c:Int):=by rw[JB];omega
 by_cases h:1+c≤s.size
 ·have hd:decide ((s.size:Int)<1+(c:Int))=false:=by simp;omega
  go_enter Tryz.func77,Tryz.ntmps77
  go_wp2_with fail
  go_quiet (fail)
  go_wp2
  have VV:∀n,Below W.heap.size W ((W.alloc (.cells #[.int .u8 a,.int .u8 b,.int .u8 (c:Int),.int .u8 d,.int .u8 e] 123)).drewN n):=fun n=>by
   have hB:Below W.heap.size W (W.alloc (.cells #[.int .u8 a,.int .u8 b,.int .u8 (c:Int),.int .u8 d,.int .u8 e] 123)):=(zE _ _).alloc (zD _) _
   exact ⟨hB.os,hB.tape,hB.output,hB.size,hB.block⟩
  go_loopg [6,7,8] c (fun gk v6 v7 v8 wr=>∃(i:Nat) (L H:Int),v8=.int .i64 (i:Int)∧v6=.int .u8 L∧v7=.int .u8 H∧L=(if i=1 then d else 128)∧H=(if i=1 then e else 191)∧1≤i∧i≤1+c∧gk=1+c-i∧(∀k,1≤k→k<i→(if k=1 then d else 128)≤(aE s k:Int)∧(aE s k:Int)≤(if k=1 then e else 191))∧Below W.heap.size W wr)
  case atStart=>exact ⟨1,d,e,rfl,rfl,rfl,rfl,rfl,zD _,by omega,by omega,fun k h1 h2=>by omega,VV _⟩
  case round =>
   obtain ⟨i,L,H,rfl,rfl,rfl,hL,hH,h1,hi,eG,ij,hB⟩:=hrel
   clear VV
   have jw:=ab eG
   have nt:=ab ij
   clear eG ij
   by_cases dB:i<1+c
   ·have hsi:i<s.size:=by omega
    obtain ⟨x,hx⟩:∃x:Nat,s[i].toNat=x:=⟨_,rfl⟩
    have oU:aE s i=x:=by unfold aE;rw[dif_pos hsi];exact hx
    have i0:(0:Int)≤(i:Int):=zH _
    have i1:(i:Int)<(s.size:Int):=by clear hw;omega
    have i2:(i:Int)<1+(c:Int):=by clear hw;omega
    have HL:=ab hL
    have HH:=ab hH
    have Hb:=ab oU
    clear hL hH oU
    by_cases c1:(x:Int)<L
    ·go_wp2
     go_ret
     clear hw
     exact ⟨hB,0,rfl,.inr ⟨rfl,fun q=>by have q1:=q.2 i h1 dB;rw[aa Hb,←aa HL,←aa HH] at q1;omega⟩⟩
    ·have c1':decide ((x:Int)<L)=false:=by simp;omega
     by_cases c2:H<(x:Int)
     ·have C1:=ab c1
      clear c1
      go_wp2
      go_ret
      clear hw
      exact ⟨hB,0,rfl,.inr ⟨rfl,fun q=>by have q1:=q.2 i h1 dB;rw[aa Hb,←aa HL,←aa HH] at q1;omega⟩⟩
     ·have c2':decide (H<(x:Int))=false:=by simp;omega
      have C1:=ab c1
      have C2:=ab c2
      clear c1 c2
      go_wp2
      go_roundg (c-i)
      case measure=>have:=aa jw;clear hw;omega
      case rel =>
       clear hw
       refine ⟨i+1,128,191,by go_num,rfl,rfl,by rw[if_neg (by omega)],by rw[if_neg (by omega)],by omega,by omega,by omega,fun k k1 k2=>?_,hB⟩
       by_cases hk:k=i
       ·subst hk
        have q1:=aa C1
        have q2:=aa C2
        rw[aa Hb,←aa HL,←aa HH]
        omega
       ·exact aa nt k k1 (by omega)
   ·obtain rfl:i=1+c:=by omega
    have LA:decide ((((1+c:Nat):Int))<1+(c:Int))=false:=by simp
    go_wp2
    go_ret
    exact ⟨hB,_,rfl,.inl ⟨rfl,h,aa nt⟩⟩
 ·have hd:(s.size:Int)<1+(c:Int):=by omega
  go_enter Tryz.func77,Tryz.ntmps77
  go_wp2
  go_ret
  exact ⟨(zE _ _).alloc (zD _) _,0,rfl,.inr ⟨rfl,fun q=>h q.1⟩⟩
def EN (s:ByteArray) (n:Int):Prop:=(∃(i:Nat) (a b:Int) (c:Nat) (d e:Int),lh[i]?=some (a,b,(c:Int),d,e)∧a≤(aE s 0:Int)∧(aE s 0:Int)≤b∧Cy s c d e n)∨((∀(i:Nat) (a b c d e:Int),lh[i]?=some (a,b,c,d,e)→¬(a≤(aE s 0:Int)∧(aE s 0:Int)≤b))∧n=0)
theorem Gl:∀(i:Nat) (a b c d e:Int),lh[i]?=some (a,b,c,d,e)→0≤c∧c≤3:=by
 intro i a b c d e h
 have key:∀x ∈ lh,0≤x.2.2.1∧x.2.2.1≤3:=by decide
 exact key _ (List.mem_of_getElem? h)
theorem Po {W:World} (h:nG W) (s:ByteArray) (hs0:0<s.size) (hs:s.size≤140737488351232) :
  Calls Tryz.prog 47 #[.string s] W fun o W'=>Below W.heap.size W W'∧∃n:Int,o=.returned (.int .i64 n)∧EN s n:=by
 obtain ⟨x,hx⟩:∃x:Nat,s[0].toNat=x:=⟨_,rfl⟩
 have oU:aE s 0=x:=by unfold aE;rw[dif_pos hs0];exact hx
 have Hb:=ab oU
 have hs':(0:Int)<(s.size:Int):=by omega
 clear oU
 go_enter Tryz.func47,Tryz.ntmps47
 go_wp2
 go_loopg [5] 9 (fun gk v5 wr=>∃(i:Nat),v5=.int .i64 (i:Int)∧gk=9-i∧i≤9∧(∀(j:Nat) (a b c d e:Int),j<i→lh[j]?=some (a,b,c,d,e)→¬(a≤(x:Int)∧(x:Int)≤b))∧Below W.heap.size W wr)
 case atStart=>exact ⟨0,rfl,rfl,by decide,fun j _ _ _ _ _ hj=>by omega,zE _ _⟩
 case round =>
  obtain ⟨i,rfl,eG,TD,ij,hB⟩:=hrel
  have jw:=ab eG
  have nt:=ab ij
  clear eG ij
  by_cases dB:i<9
  ·obtain ⟨⟨a,b,c',d,e⟩,hf⟩:∃x,lh[i]?=some x:=⟨_,List.getElem?_eq_getElem (by rw[oX];exact dB)⟩
   obtain ⟨m1,m2⟩:=Gl i a b c' d e hf
   obtain ⟨c,rfl⟩:∃c:Nat,c'=(c:Int):=⟨c'.toNat,by omega⟩
   obtain ⟨q0,q1,q2,q3,q4⟩:=(h.up hB).2 i a b c d e hf
   have hi0:(0:Int)≤(i:Int):=zH _
   have XB:(i:Int)<9:=by omega
   have px:c≤3:=by omega
   have Hf:=ab hf
   have hBa:∀n,Below W.heap.size W ((wr.alloc (.cells #[.int .u8 a,.int .u8 b,.int .u8 (c:Int),.int .u8 d,.int .u8 e] 123)).drewN n):=fun n=>by
    have Gb:=hB.alloc hB.size (.cells #[.int .u8 a,.int .u8 b,.int .u8 (c:Int),.int .u8 d,.int .u8 e] 123)
    exact ⟨Gb.os,Gb.tape,Gb.output,Gb.size,Gb.block⟩
   clear hf m1 m2
   by_cases c1:a≤(x:Int)
   ·by_cases c2:(x:Int)≤b
    ·go_wp2_with fail
     go_quiet (fail)
     go_wp2_with fail
     refine (FQ _ s hs a b d e c px).mono ?_
     rintro o w2 ⟨br,n,rfl,hn⟩
     have hB3:=(hBa _).trans (br.mono (hBa _).size)
     have Hn:=ab hn
     clear hn hBa
     go_wp2
     go_ret
     exact ⟨hB3,n,rfl,.inl ⟨i,a,b,c,d,e,aa Hf,by rw[aa Hb];exact c1,by rw[aa Hb];exact c2,aa Hn⟩⟩
    ·have c2':decide ((x:Int)≤b)=false:=by simp;omega
     have C2:=ab c2
     clear c2
     go_wp2_with fail
     go_quiet (fail)
     go_wp2
     go_roundg (9-(i+1))
     case measure=>have:=aa jw;omega
     case rel =>
      refine ⟨i+1,by go_num,rfl,by omega,fun j a' b' c'' d' e' hj TE=>?_,hBa _⟩
      by_cases Qo:j=i
      ·subst Qo
       obtain ⟨rfl,rfl,_⟩:a=a'∧b=b'∧_:=by have:=(aa Hf).symm.trans TE;simpa using this
       exact fun q=>by have:=aa C2;omega
      ·exact aa nt j a' b' c'' d' e' (by omega) TE
   ·have c1':decide (a≤(x:Int))=false:=by simp;omega
    have C1:=ab c1
    clear c1
    go_wp2_with fail
    go_quiet (fail)
    go_wp2
    go_roundg (9-(i+1))
    case measure=>have:=aa jw;omega
    case rel =>
     refine ⟨i+1,by go_num,rfl,by omega,fun j a' b' c'' d' e' hj TE=>?_,hBa _⟩
     by_cases Qo:j=i
     ·subst Qo
      obtain ⟨rfl,rfl,_⟩:a=a'∧b=b'∧_:=by have:=(aa Hf).symm.trans TE;simpa using this
      exact fun q=>by have:=aa C1;omega
     ·exact aa nt j a' b' c'' d' e' (by omega) TE
  ·obtain rfl:i=9:=by omega
   go_wp2
   go_ret
   refine ⟨hB,0,rfl,.inr ⟨fun j a b c d e hf=>?_,rfl⟩⟩
   have hj:j<9:=by have:=(zB hf).1;rw[oX] at this;exact this
   rw[aa Hb]
   exact aa nt j a b c d e hj hf
def oW (x:Nat):Option (Nat×Nat×Nat) :=
 if x<128 then some (0,0,0) else if x<194 then none else if x<224 then some (1,128,191) else if x=224 then some (2,160,191) else if x<237 then some (2,128,191)
 else if x=237 then some (2,128,159) else if x<240 then some (2,128,191) else if x=240 then some (3,144,191) else if x<244 then some (3,128,191) else if x=244 then some (3,128,143) else none
theorem iD (s:ByteArray) (i:Nat):aE s i<256:=by
 unfold aE
 split
 ·exact UInt8.toNat_lt _
 ·decide
theorem fb (s:ByteArray) (i:Nat) (h:i<s.size):aE s i=(s[i]'h).toNat:=by unfold aE;rw[dif_pos h]
theorem extract_size (s:ByteArray) (k n:Nat) (hn:n≤s.size):(s.extract k n).size=n-k:=by
 simp[ByteArray.size_extract]
 omega
theorem i' (s:ByteArray) (k n i:Nat) (hn:n≤s.size) (hi:k+i<n):aE (s.extract k n) i=aE s (k+i):=by
 rw[fb _ _ (by rw[extract_size s k n hn];omega),fb _ _ (by omega)]
 rw[ByteArray.getElem_extract]
def jC (s:ByteArray) (k c d e:Nat):Prop:=k+1+c≤s.size∧∀j,1≤j→j<1+c→(if j=1 then d else 128)≤aE s (k+j)∧aE s (k+j)≤(if j=1 then e else 191)
instance (s:ByteArray) (k c d e:Nat):Decidable (jC s k c d e):=decidable_of_iff (k+1+c≤s.size∧∀j,j<1+c→1≤j→(if j=1 then d else 128)≤aE s (k+j)∧aE s (k+j)≤(if j=1 then e else 191)) ⟨fun h=>⟨h.1,fun j h1 h2=>h.2 j h2 h1⟩,fun h=>⟨h.1,fun j h1 h2=>h.2 j h2 h1⟩⟩
noncomputable def iI (s:ByteArray) (k:Nat):Nat:=match oW (aE s k) with
 |none=>0
 |some (c,d,e)=>if jC s k c d e then 1+c else 0
theorem pc {s:ByteArray}{k:Nat} (h:oW (aE s k)=none):iI s k=0:=by unfold iI;rw[h]
theorem xD {s:ByteArray}{k c d e:Nat} (h:oW (aE s k)=some (c,d,e)) (h2:jC s k c d e):iI s k=1+c:=by unfold iI;rw[h];simp[h2]
theorem rT {s:ByteArray}{k c d e:Nat} (h:oW (aE s k)=some (c,d,e)) (h2:¬jC s k c d e):iI s k=0:=by unfold iI;rw[h];simp[h2]
theorem V3 {x c d e:Nat} (h:oW x=some (c,d,e)):c≤3:=by
 unfold oW at h
 repeat' split at h
 all_goals first|(cases h;done)|(have:=zC h;simp at this;omega)
theorem Jd (s:ByteArray) (k:Nat) (hk:k≤s.size):k+iI s k≤s.size∧iI s k≤4:=by
 cases hf:oW (aE s k) with
 |none=>rw[pc hf];omega
 |some t =>
  obtain ⟨c,d,e⟩:=t
  have:=V3 hf
  by_cases h:jC s k c d e
  ·rw[xD hf h];have:=h.1;omega
  ·rw[rT hf h];omega
theorem KR:∀(i:Fin 9) (x:Fin 256),(lh[i.val]?.any fun f=>decide (f.1≤(x.val:Int))&&decide ((x.val:Int)≤f.2.1))=true→(lh[i.val]?.any fun f=>decide ((oW x.val).map (fun (t:Nat×Nat×Nat)=>((t.1:Int),(t.2.1:Int),(t.2.2:Int)))=some (f.2.2.1,f.2.2.2.1,f.2.2.2.2)))=true:=by decide +kernel
theorem Gj:∀(x:Fin 256),(lh.all fun f=>!(decide (f.1≤(x.val:Int))&&decide ((x.val:Int)≤f.2.1)))=true→oW x.val=none:=by decide +kernel
theorem FR {s:ByteArray}{k c d e:Nat}{n:Int} (hk:k<s.size) (h:Cy (s.extract k s.size) c (d:Int) (e:Int) n):(n=1+(c:Int)∧jC s k c d e)∨(n=0∧¬jC s k c d e):=by
 have hz:=extract_size s k s.size (zD _)
 have key:Jk (s.extract k s.size) c (d:Int) (e:Int)↔jC s k c d e:=by
  unfold Jk jC
  constructor
  ·rintro ⟨h1,h2⟩
   rw[hz] at h1
   refine ⟨by omega,fun j j1 j2=>?_⟩
   have:=h2 j j1 j2
   rw[i' s k s.size j (zD _) (by omega)] at this
   split at this<;>split<;>omega
  ·rintro ⟨h1,h2⟩
   refine ⟨by rw[hz];omega,fun j j1 j2=>?_⟩
   have:=h2 j j1 j2
   rw[i' s k s.size j (zD _) (by omega)]
   split at this<;>split<;>omega
 rcases h with ⟨h1,h2⟩|⟨h1,h2⟩
 ·exact .inl ⟨h1,key.1 h2⟩
 ·exact .inr ⟨h1,mt key.2 h2⟩
theorem Ek {s:ByteArray}{k:Nat}{n:Int} (hk:k<s.size) (h:EN (s.extract k s.size) n):n=(iI s k:Int):=by
 have eK:aE (s.extract k s.size) 0=aE s k:=by rw[i' s k s.size 0 (zD _) (by omega)];rfl
 have dB:=iD s k
 rcases h with ⟨i,a,b,c,d,e,hf,h1,h2,h3⟩|⟨pM,rfl⟩
 ·rw[eK] at h1 h2
  have hi:i<9:=by have:=(zB hf).1;rw[oX] at this;exact this
  have q:=KR ⟨i,hi⟩ ⟨aE s k,dB⟩ (by simp only[hf,Option.any_some];simp[h1,h2])
  simp only[hf,Option.any_some,decide_eq_true_eq] at q
  obtain ⟨⟨c',d',e'⟩,dp,hq⟩:=Option.map_eq_some_iff.1 q
  simp only[Prod.mk.injEq] at hq
  obtain ⟨q1,q2,q3⟩:=hq
  obtain rfl:c'=c:=by omega
  rw[←q2,←q3] at h3
  rcases FR hk h3 with ⟨rfl,h4⟩|⟨rfl,h4⟩
  ·rw[xD dp h4];omega
  ·rw[rT dp h4];rfl
 ·have:oW (aE s k)=none:=Gj ⟨aE s k,dB⟩ (by
   rw[List.all_eq_true]
   intro f hf
   obtain ⟨j,hj⟩:=List.getElem?_of_mem hf
   have:=pM j f.1 f.2.1 f.2.2.1 f.2.2.2.1 f.2.2.2.2 hj
   rw[eK] at this
   simp only[Bool.not_eq_true',Bool.and_eq_false_iff,decide_eq_false_iff_not]
   by_cases q:f.1≤(aE s k:Int)
   ·exact .inr (fun q2=>this ⟨q,q2⟩)
   ·exact .inl q)
  rw[pc this]
  rfl
noncomputable def cQ (s:ByteArray) (k:Nat):Int :=
 if _h:k<s.size then if _h2:iI s k=0 then (k:Int) else cQ s (k+iI s k) else -1
termination_by s.size-k
decreasing_by omega
theorem G8 {s:ByteArray}{k:Nat} (h:¬k<s.size):cQ s k=-1:=by rw[cQ,dif_neg h]
theorem G9 {s:ByteArray}{k:Nat} (h:k<s.size) (h2:iI s k=0):cQ s k=(k:Int):=by rw[cQ,dif_pos h,dif_pos h2]
theorem C6 {s:ByteArray}{k:Nat} (h:k<s.size) (h2:¬iI s k=0):cQ s k=cQ s (k+iI s k):=by rw[cQ,dif_pos h,dif_neg h2]
theorem C7 {W:World} (h:nG W) (s:ByteArray) (hs:s.size≤140737488351232) :
  Calls Tryz.prog 24 #[.string s] W fun e w=>e=.returned (.int .i64 (cQ s 0))∧Below W.heap.size W w:=by
 have eK:=zE W.heap.size W
 go_enter Tryz.func24,Tryz.ntmps24
 go_wp2
 go_loopg [3,4] s.size (fun gk v3 _ wr=>∃(k:Nat),v3=.int .i64 (k:Int)∧gk=s.size-k∧k≤s.size∧Hid (Below W.heap.size W wr)∧Hid (cQ s 0=cQ s k))
 case atStart=>exact ⟨0,rfl,rfl,by omega,eK,rfl⟩
 case round =>
  obtain ⟨k,rfl,eG,hk,HB,Hu⟩:=hrel
  have jw:=ab eG
  clear eG
  by_cases dB:k<s.size
  ·have hx:=extract_size s k s.size (zD _)
   go_wp2_with fail
   refine (Po (h.up (aa HB)) (s.extract k s.size) (by omega) (by omega)).mono ?_
   rintro e w2 ⟨br,n,rfl,hn⟩
   obtain rfl:=Ek dB hn
   have jm:Hid (Below W.heap.size W w2):=(aa HB).trans (br.mono (aa HB).size)
   obtain ⟨q1,q2⟩:=Jd s k hk
   clear hn br hx HB
   by_cases h0:iI s k=0
   ·have Hr:Hid (cQ s 0=(k:Int)):=(aa Hu).trans (G9 dB h0)
    rw[h0]
    clear h0 q1 q2
    go_wp2
    go_ret
    exact ⟨by rw[aa Hr];rfl,aa jm⟩
   ·have Hr:Hid (cQ s 0=cQ s (k+iI s k)):=(aa Hu).trans (C6 dB h0)
    obtain ⟨n,hn⟩:∃n,n=iI s k:=⟨_,rfl⟩
    rw[←hn] at h0 q1 q2 Hr ⊢
    have n0:((n:Int)==0)=false:=by simp;omega
    clear hn
    go_wp2
    go_roundg (s.size-(k+n))
    case measure=>have:=aa jw;omega
    case rel=>exact ⟨k+n,by go_num,rfl,by omega,jm,Hr⟩
  ·have Hr:Hid (cQ s 0=-1):=(aa Hu).trans (G8 dB)
   obtain rfl:k=s.size:=by omega
   go_wp2
   go_ret
   exact ⟨by rw[aa Hr];rfl,aa HB⟩
end Go.Proofs.YtjophoclfccmcaaGreatDoor
namespace Go.Proofs.YtjophoclfccmcaaGreatDoor
open Go.RowKit
def pJ (B c:Nat):Option Nat:=match Ce c with
 |none=>none
 |some d=>if d<B then some d else none
def cO (B:Nat):Nat→List Nat→Nat→Nat→Nat×Nat
 |0,_,v,n=>(v,n)
 |_+1,[],v,n=>(v,n)
 |f+1,c::r,v,n=>match pJ B c with
  |none=>(v,n)
  |some d=>cO B f r (v*B+d) (n+1)
def ew (B:Nat):Nat→List Nat→Nat
 |0,_=>0
 |_+1,[]=>0
 |f+1,c::r=>match pJ B c with
  |none=>0
  |some _=>ew B f r+1
theorem kM (B v n:Nat) (l:List Nat):cO B 0 l v n=(v,n):=by cases l<;>rfl
theorem y8 (B f v n:Nat):cO B f [] v n=(v,n):=by cases f<;>rfl
theorem o8 {B f c v n:Nat}{r:List Nat} (h:pJ B c=none):cO B f (c::r) v n=(v,n):=by
 cases f with
 |zero=>rfl
 |succ f=>simp[cO,h]
theorem oZ {B f c v n d:Nat}{r:List Nat} (h:pJ B c=some d):cO B (f+1) (c::r) v n=cO B f r (v*B+d) (n+1):=by simp[cO,h]
theorem Vd {B c d:Nat} (h:pJ B c=some d):d<B∧Ce c=some d:=by
 unfold pJ at h
 split at h
 ·cases h
 ·rename_i e he
  split at h
  ·obtain rfl:=zC h
   exact ⟨by assumption,he⟩
  ·cases h
theorem oG {B:Nat}:∀(f:Nat) (l:List Nat) (v n:Nat),(cO B f l v n).2=n+ew B f l
 |0,l,v,n=>by rw[kM];cases l<;>rfl
 |f+1,[],v,n=>rfl
 |f+1,c::r,v,n=>by
  cases h:pJ B c with
  |none=>simp[cO,ew,h]
  |some d=>simp only[cO,ew,h];rw[oG f r];omega
theorem A5 {B:Nat} (hB:1≤B):∀(f:Nat) (l:List Nat) (v n:Nat),v≤(cO B f l v n).1
 |0,l,v,n=>by rw[kM];exact zD _
 |f+1,[],v,n=>zD _
 |f+1,c::r,v,n=>by
  cases h:pJ B c with
  |none=>simp[cO,h]
  |some d =>
   simp only[cO,h]
   have:=A5 hB f r (v*B+d) (n+1)
   have h2:v*1≤v*B:=Nat.mul_le_mul_left v hB
   omega
theorem sX {B:Nat} (hB:1≤B):∀(f:Nat) (l:List Nat) (v n:Nat),v≤255→cz B 255 (l.take (ew B f l)) v=if (cO B f l v n).1≤255 then some (cO B f l v n).1 else none
 |0,l,v,n,hv=>by
  rw[kM]
  have:ew B 0 l=0:=by cases l<;>rfl
  rw[this,if_pos hv]
  rfl
 |f+1,[],v,n,hv=>by
  show cz B 255 [] v=if v≤255 then some v else none
  rw[if_pos hv];rfl
 |f+1,c::r,v,n,hv=>by
  cases h:pJ B c with
  |none =>
   rw[o8 h]
   have:ew B (f+1) (c::r)=0:=by simp[ew,h]
   rw[this,if_pos hv]
   rfl
  |some d =>
   obtain ⟨h1,h2⟩:=Vd h
   rw[oZ h]
   have:ew B (f+1) (c::r)=ew B f r+1:=by simp[ew,h]
   rw[this,List.take_succ_cons]
   simp only[cz,h2]
   by_cases h3:v*B+d≤255
   ·rw[if_pos ⟨h1,h3⟩]
    exact sX hB f r _ _ h3
   ·rw[if_neg (fun q=>h3 q.2),if_neg]
    have:=A5 hB f r (v*B+d) (n+1)
    omega
theorem Cf {B:Nat}:∀(f:Nat) (l:List Nat),ew B f l≤f∧ew B f l≤l.length
 |0,l=>by cases l<;>simp[ew]
 |f+1,[]=>by simp[ew]
 |f+1,c::r=>by
  cases h:pJ B c with
  |none=>simp[ew,h]
  |some d=>have:=Cf (B:=B) f r;simp[ew,h];omega
def ny (c:Nat):Option Nat:=if c=97 then some 7 else if c=98 then some 8 else if c=102 then some 12 else if c=110 then some 10 else if c=114 then some 13 else if c=116 then some 9 else if c=118 then some 11 else if c=92∨c=39∨c=34 then some c else none
def fin (p:Nat×Nat) (k:Nat):Option (Nat×Nat):=if p.2=0∨255<p.1 then none else some (p.1,k+p.2)
def dU:List Nat→Option (Nat×Nat)
 |_::c::r=>match ny c with
  |some v=>some (v,2)
  |none=>if c=120∨c=88 then fin (cO 16 2 r 0 0) 2 else fin (cO 8 3 (c::r) 0 0) 1
 |_=>none
theorem OU {l:List Nat}{b n:Nat} (h:dU l=some (b,n)):1≤n∧n≤l.length∧b<256:=by
 match l,h with
 |a::c::r,h =>
  simp only[dU] at h
  split at h
  ·rename_i v hv
   obtain ⟨rfl,rfl⟩:=Prod.mk.inj (zC h)
   refine ⟨by omega,by simp,?_⟩
   unfold ny at hv
   repeat' split at hv
   all_goals first|(have:=zC hv;omega)|cases hv
  ·split at h
   ·unfold fin at h
    split at h
    ·cases h
    ·rename_i hh
     obtain ⟨rfl,rfl⟩:=Prod.mk.inj (zC h)
     have h1:=oG (B:=16) 2 r 0 0
     have h2:=Cf (B:=16) 2 r
     simp only[List.length_cons]
     omega
   ·unfold fin at h
    split at h
    ·cases h
    ·rename_i hh
     obtain ⟨rfl,rfl⟩:=Prod.mk.inj (zC h)
     have h1:=oG (B:=8) 3 (c::r) 0 0
     have h2:=Cf (B:=8) 3 (c::r)
     simp only[List.length_cons] at *
     omega
 |[a],h=>simp[dU] at h
 |[],h=>simp[dU] at h
def dG (s:ByteArray) (k:Nat):Option (Nat×Nat):=if aE s k=0∨aE s k=10 then none else if aE s k=92 then dU ((aI s).drop k) else some (aE s k,1)
theorem jG {s:ByteArray}{k b n:Nat} (h:dG s k=some (b,n)) (hk:k<s.size):1≤n∧k+n≤s.size∧b<256:=by
 unfold dG at h
 split at h
 ·cases h
 ·split at h
  ·have:=OU h
   rw[List.length_drop,bG] at this
   omega
  ·obtain ⟨rfl,rfl⟩:=Prod.mk.inj (zC h)
   have:=iD s k
   omega
def fA (s:ByteArray) (q k:Nat):Option (List Nat×Nat) :=
 if _h:k<s.size then
  if aE s k=q then some ([],k+1)
  else match dG s k with
   |none=>none
   |some (b,n)=>if _hn:1≤n then (fA s q (k+n)).map fun r=>(b::r.1,r.2) else none
 else none
termination_by s.size-k
decreasing_by omega
theorem nO {s:ByteArray}{q k:Nat} (h:¬k<s.size):fA s q k=none:=by rw[fA,dif_neg h]
theorem nN {s:ByteArray}{q k:Nat} (h:k<s.size) (h2:aE s k=q):fA s q k=some ([],k+1):=by rw[fA,dif_pos h,if_pos h2]
theorem sn {s:ByteArray}{q k:Nat} (h:k<s.size) (h2:¬aE s k=q) (h3:dG s k=none):fA s q k=none:=by rw[fA,dif_pos h,if_neg h2,h3]
theorem oR {s:ByteArray}{q k b n:Nat} (h:k<s.size) (h2:¬aE s k=q) (h3:dG s k=some (b,n)):fA s q k=(fA s q (k+n)).map fun r=>(b::r.1,r.2):=by
 rw[fA,dif_pos h,if_neg h2,h3]
 exact dif_pos (jG h3 h).1
theorem He {s:ByteArray}{q:Nat}:∀(m k:Nat) (l:List Nat) (e:Nat),s.size-k≤m→fA s q k=some (l,e)→k<e∧e≤s.size∧QC l∧k+l.length<e:=by
 intro m
 induction m with
 |zero=>intro k l e hm h;rw[nO (by omega)] at h;cases h
 |succ m ih =>
  intro k l e hm h
  by_cases hk:k<s.size
  ·by_cases hq:aE s k=q
   ·rw[nN hk hq] at h
    obtain ⟨rfl,rfl⟩:=Prod.mk.inj (zC h)
    exact ⟨by omega,by omega,fun x hx=>by simp at hx,by simp⟩
   ·cases hp:dG s k with
    |none=>rw[sn hk hq hp] at h;cases h
    |some t =>
     obtain ⟨b,n⟩:=t
     obtain ⟨p1,p2,p3⟩:=jG hp hk
     rw[oR hk hq hp] at h
     obtain ⟨⟨l',e'⟩,h1,h2⟩:=Option.map_eq_some_iff.1 h
     obtain ⟨rfl,rfl⟩:=Prod.mk.inj h2
     obtain ⟨a1,a2,a3,a4⟩:=ih (k+n) l' e' (by omega) h1
     refine ⟨by omega,a2,fun x hx=>?_,by simp only[List.length_cons];omega⟩
     rcases List.mem_cons.1 hx with rfl|hx
     ·exact p3
     ·exact a3 x hx
  ·rw[nO hk] at h;cases h
def mh (s:ByteArray):Option (List Nat×Nat):=if s.size=0 then none else if aE s 0=39∨aE s 0=34 then fA s (aE s 0) 1 else none
noncomputable def fk (s:ByteArray):ByteArray×Int:=if 65536<s.size then (.empty,2) else if 0≤cQ s 0 then (.empty,44) else match mh s with
 |none=>(.empty,42)
 |some (l,e)=>if e=s.size then (Rc l,0) else (.empty,42)
def fZ (s:ByteArray) (k:Nat):Nat:=if h:k<s.size∧(isLet (aE s k)∨eD (aE s k)) then fZ s (k+1) else k
termination_by s.size-k
decreasing_by omega
def lQ (s:ByteArray) (k:Nat):Nat:=if h:k<s.size∧¬aE s k=10 then lQ s (k+1) else k
termination_by s.size-k
decreasing_by omega
def eU (s:ByteArray) (k:Nat):Nat:=if h:k+2≤s.size∧¬(aE s k=42∧aE s (k+1)=47) then eU s (k+1) else k
termination_by s.size-k
decreasing_by omega
theorem A3 (s:ByteArray) (k:Nat):k≤fZ s k:=by
 rw[fZ]
 split
 ·have:=A3 s (k+1)
  omega
 ·exact zD _
termination_by s.size-k
decreasing_by omega
theorem sW (s:ByteArray) (k:Nat) (h:k≤s.size):fZ s k≤s.size:=by
 rw[fZ]
 split
 ·exact sW s (k+1) (by omega)
 ·exact h
termination_by s.size-k
decreasing_by omega
theorem xp (s:ByteArray) (k:Nat):k≤lQ s k:=by
 rw[lQ]
 split
 ·have:=xp s (k+1)
  omega
 ·exact zD _
termination_by s.size-k
decreasing_by omega
theorem BG (s:ByteArray) (k:Nat) (h:k≤s.size):lQ s k≤s.size:=by
 rw[lQ]
 split
 ·exact BG s (k+1) (by omega)
 ·exact h
termination_by s.size-k
decreasing_by omega
theorem kJ (s:ByteArray) (k:Nat):k≤eU s k:=by
 rw[eU]
 split
 ·have:=kJ s (k+1)
  omega
 ·exact zD _
termination_by s.size-k
decreasing_by omega
theorem BF {s:ByteArray}{k:Nat} (h:k<s.size) (h2:aE s k=47):k<lQ s k:=by
 rw[lQ,dif_pos ⟨h,by omega⟩]
 have:=xp s (k+1)
 omega
def pK (c:Nat):Prop:=(9≤c∧c≤13)∨c=32
instance (c:Nat):Decidable (pK c):=by unfold pK;infer_instance
def bW (s:ByteArray):Nat→Nat→Nat×Bool
 |0,k=>(k,true)
 |f+1,k=>if k<s.size then
   if pK (aE s k) then bW s f (k+1)
   else if k+2≤s.size∧aE s k=47∧aE s (k+1)=47 then bW s f (lQ s k)
   else if k+2≤s.size∧aE s k=47∧aE s (k+1)=42 then
    if eU s (k+2)+2≤s.size then bW s f (eU s (k+2)+2) else (k,false)
   else (k,true)
  else (k,true)
theorem mZ (s:ByteArray):∀(f f' k:Nat),s.size-k≤f→s.size-k≤f'→bW s f k=bW s f' k:=by
 intro f
 induction f with
 |zero =>
  intro f' k hf TE
  cases f' with
  |zero=>rfl
  |succ f'=>rw[bW,bW,if_neg (by omega)]
 |succ f ih =>
  intro f' k hf TE
  cases f' with
  |zero=>rw[bW,bW,if_neg (by omega)]
  |succ f' =>
   rw[bW,bW]
   by_cases h:k<s.size
   ·rw[if_pos h,if_pos h]
    split
    ·exact ih f' (k+1) (by omega) (by omega)
    ·split
     ·rename_i h2
      have:=BF h h2.2.1
      exact ih f' _ (by omega) (by omega)
     ·split
      ·have:=kJ s (k+2)
       split
       ·exact ih f' _ (by omega) (by omega)
       ·rfl
      ·rfl
   ·rw[if_neg h,if_neg h]
theorem L3 {s:ByteArray}{k:Nat} (h:k+2≤s.size):(s.extract k (k+2)).data.toList=[s[k],s[k+1]]:=by
 rw[ByteArray.data_extract,Array.toList_extract]
 apply List.ext_getElem?
 intro i
 rw[List.getElem?_take,List.getElem?_drop]
 match i with
 |0=>simp;exact Array.getElem?_eq_getElem (by show k<s.size;omega)
 |1=>simp;exact Array.getElem?_eq_getElem (by show k+1<s.size;omega)
 |i+2=>simp;omega
theorem Uy {s:ByteArray}{k:Nat} (h:k+2≤s.size) (a b:UInt8):((s.extract k (k+2)).data.toList=[a,b])↔(aE s k=a.toNat∧aE s (k+1)=b.toNat):=by
 rw[L3 h]
 unfold aE
 rw[dif_pos (by omega),dif_pos (by omega)]
 simp[UInt8.toNat_inj]
end Go.Proofs.YtjophoclfccmcaaGreatDoor
namespace Go.Proofs.YtjophoclfccmcaaGreatDoor
open Go.RowKit
attribute [local go_sem ↓] Go.wp_at_zero Go.wp_at_succ
def cW (W:World) (b:Nat) (s:ByteArray) (k:Nat) (v:Value):Prop:=W.heap[b]?=some (.cells #[.string s,.int .i64 (k:Int),v] 62 (0,0))
theorem cW.c0 {W:World}{b:Nat}{s:ByteArray}{k:Nat}{v:Value} (h:cW W b s k v):W.cell? ⟨b,0,none⟩=some (.string s):=by rw[cell_of_row _ _ _ _ _ _ h];rfl
theorem cW.c1 {W:World}{b:Nat}{s:ByteArray}{k:Nat}{v:Value} (h:cW W b s k v):W.cell? ⟨b,1,none⟩=some (.int .i64 (k:Int)):=by rw[cell_of_row _ _ _ _ _ _ h];rfl
theorem cW.c2 {W:World}{b:Nat}{s:ByteArray}{k:Nat}{v:Value} (h:cW W b s k v):W.cell? ⟨b,2,none⟩=some v:=by rw[cell_of_row _ _ _ _ _ _ h];rfl
theorem cW.lt {W:World}{b:Nat}{s:ByteArray}{k:Nat}{v:Value} (h:cW W b s k v):b<W.heap.size:=(zA h).1
theorem mw {W:World}{b:Nat}{s:ByteArray}{k:Nat}{v:Value} (h:cW W b s k v) (hk:k≤s.size) :
  Calls Tryz.prog 82 #[.pointer (some ⟨b,0,none⟩)] W fun e w=>e=.returned (.string (s.extract k s.size))∧∃n,w=W.drewN n:=by
 have c0:=h.c0
 have c1:=h.c1
 have k0:(0:Int)≤(k:Int):=zH _
 have k1:(k:Int)≤(s.size:Int):=by omega
 clear h
 go_enter Tryz.func82,Tryz.ntmps82
 go_wp2_with fail
 go_quiet (fail)
 go_wp2
 go_ret
 exact ⟨rfl,_,rfl⟩
theorem tR (s:ByteArray) (k n:Nat) (h:k+n≤s.size):(s.extract k s.size).extract 0 n=s.extract k (k+n):=by
 apply ByteArray.ext
 rw[ByteArray.data_extract,ByteArray.data_extract,ByteArray.data_extract]
 apply Array.ext'
 rw[Array.toList_extract,Array.toList_extract,Array.toList_extract]
 have hl:s.data.toList.length=s.size:=rfl
 apply List.ext_getElem?
 intro i
 simp only[List.extract_eq_take_drop,List.getElem?_take,List.getElem?_drop]
 by_cases hi:i<n
 ·rw[if_pos (by omega),if_pos (by omega),if_pos (by omega)]
  congr 1
  omega
 ·rw[if_neg (by omega),if_neg (by omega)]
end Go.Proofs.YtjophoclfccmcaaGreatDoor

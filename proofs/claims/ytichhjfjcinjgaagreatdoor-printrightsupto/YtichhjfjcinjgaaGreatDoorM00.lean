import Derived.Test.YtichhjfjcinjgaaGreatDoorChecked
import Derived.WalkKit
import Derived.WalkSpells
import Derived.StillTactics
import Derived.OwnWalk
import Derived.Below
import Derived.Deep.LoopGhost
import Derived.Deep.AppendLies
import Derived.Maps.AppendAt
import Derived.Deep.RegionHeld3
import Derived.KernelRfl
import Derived.Laws.BitsLemmas
import Derived.Laws.BitsAllLaws
import Derived.Deep.DrawnRows
import Derived.BigQuiet
import Derived.Deep.QuietTactic
import Derived.RangeFuncLeaves
import Derived.Laws.IdiomStrings
import Derived.Laws.BytesArg
import Derived.Laws.CopyOwn
import Derived.Lib.SlBytesConst
import Derived.Laws.Externs
import Derived.Laws.StandIn
set_option maxRecDepth 100000
namespace Go.Proofs.YtichhjfjcinjgaaGreatDoor
open Go.RowKit
theorem zA {α:Type} {x:Array α} {i:Nat} {b:α} (h:x[i]?=some b):∃h:i<x.size,x[i]=b:=Array.getElem?_eq_some_iff.1 h
theorem zB {α:Type} {x:List α} {i:Nat} {b:α} (h:x[i]?=some b):∃h:i<x.length,x[i]=b:=List.getElem?_eq_some_iff.1 h
theorem zC {α:Type} {a b:α} (h:some a=some b):a=b:=Option.some.inj h
theorem zD (n:Nat):n≤n:=Nat.le_refl n
theorem zE (k:Nat) (w:World):Below k w w:=Below.refl k w
theorem zF {α:Type} {a:α} {l:List α} (y:α) (h:a∈l):a∈y::l:=List.mem_cons_of_mem y h
theorem zG {α:Type} {x:Option α} (h:x.isSome=true):∃a,x=some a:=Option.isSome_iff_exists.1 h
theorem zI (w:World) (o:Option Nat):w.grownBy w o:=World.grownBy.refl w o
theorem zJ (w:World) (o:Obj):(w.alloc o).heap.size=w.heap.size+1:=World.size_alloc w o
theorem zK {α:Type} {l m:List α}:(l++m).length=l.length+m.length:=List.length_append
theorem zL {α:Type} (l:List α) (i:Nat) (a:α):l.toArray.setIfInBounds i a=(l.set i a).toArray:=List.setIfInBounds_toArray l i a
theorem zM {α:Type} {l:List α} {a b:α}:(a::l).set 0 b=b::l:=rfl
theorem zN {α:Type} {l:List α} {n:Nat} {a b:α}:(a::l).set (n+1) b=a::l.set n b:=rfl
theorem zH (n:Nat):(0:Int)≤(n:Int):=Int.natCast_nonneg n
end Go.Proofs.YtichhjfjcinjgaaGreatDoor
namespace Go.Proofs.YtichhjfjcinjgaaGreatDoor
open Go.RowKit
def Hid (p:Prop):Prop:=p
theorem al {p:Prop} (h:p):Hid p:=h
theorem ab {p:Prop} (h:Hid p):p:=h
theorem Tryz.infoByte:(Tryz.prog.info? 5).map (fun i=>(i.zero,i.size,i.bytes))=some (some (.int .u8 0),1,1):=by kernel_rfl
structure Ext (W:World) (v:Value) (W':World) (v':Value):Prop where
 os:W'.os=W.os
 tape:W'.tape=W.tape
 output:W'.output=W.output
 size:W.heap.size≤W'.heap.size
 T5:∀b,b<W.heap.size→some b≠v.ownBlock→W'.heap[b]?=W.heap[b]?
 own:v'.ownBlock=v.ownBlock∨∃g,v'.ownBlock=some g∧W.heap.size≤g
theorem Ext.refl (W:World) (v:Value):Ext W v W v:=⟨rfl,rfl,rfl,zD _,fun _ _ _=>rfl,.inl rfl⟩
theorem Ext.trans {A B C:World}{x y z:Value} (h:Ext A x B y) (k:Ext B y C z):Ext A x C z:=by
 refine ⟨k.os.trans h.os,k.tape.trans h.tape,k.output.trans h.output,Nat.le_trans h.size k.size,fun b hb hn=>?_,?_⟩
 ·refine (k.T5 b (Nat.lt_of_lt_of_le hb h.size) (fun e=>?_)).trans (h.T5 b hb hn)
  rcases h.own with o|⟨g,o,hg⟩
  ·exact hn (e.trans o)
  ·rw[o] at e
   have:b=g:=by simpa using e
   omega
 ·rcases k.own with o|⟨g,o,hg⟩
  ·rw[o];exact h.own
  ·exact .inr ⟨g,o,Nat.le_trans h.size hg⟩
theorem Ext.below {A B:World}{x y:Value} (h:Ext A x B y) {n:Nat} (hn:n≤A.heap.size) (hx:∀b,x.ownBlock=some b→n≤b):Below n A B :=
 ⟨h.os,h.tape,h.output,h.size,fun b hb=>h.T5 b (Nat.lt_of_lt_of_le hb hn) (fun e=>by have:=hx b e.symm;omega)⟩
theorem Ext.grown {W w':World}{v v':Value}{ob:Obj} (h:(W.alloc ob).grownBy w' v.ownBlock) (pF:v'.ownBlock=v.ownBlock∨v'.ownBlock=some (W.alloc ob).heap.size):Ext W v w' v' :=
 ⟨h.os,h.tape,h.output,by have:=h.size;rw[zJ] at this;omega,fun b hb hn=>(h.block b (by rw[zJ];omega) hn).trans (Below.heap_alloc W ob b hb),pF.imp id fun e=>⟨_,e,by rw[zJ];omega⟩⟩
theorem Ext.Ov {W w':World}{v v':Value} (h:W.grownBy w' v.ownBlock) (pF:v'.ownBlock=v.ownBlock∨v'.ownBlock=some W.heap.size):Ext W v w' v' :=
 ⟨h.os,h.tape,h.output,h.size,fun b hb hn=>h.block b hb hn,pF.imp id fun e=>⟨_,e,zD _⟩⟩
theorem Ev (n:Int):wrap64 n=(n+9223372036854775808) % 18446744073709551616-9223372036854775808:=by
 first|rfl|(unfold wrap64;omega)|(simp[wrap64];omega)
theorem aJ (w:World) (o:Obj):(w.alloc o).heap[w.heap.size]?=some o:=by
 unfold World.alloc
 simp
theorem below_drewN {n:Nat}{A B:World} (h:Below n A B) (k:Nat):Below n A (B.drewN k):=⟨h.os,h.tape,h.output,h.size,h.block⟩
theorem below_grow {n k:Nat}{A B C:World}{ob:Obj}{u:Value} (hB:Below n A B) (hn:n≤B.heap.size) (hg:((B.drewN k).alloc ob).grownBy C u.ownBlock) (hu:∀b,u.ownBlock=some b→n≤b):Below n A C:=by
 have h1:=(below_drewN hB k).alloc (by simpa using hn) ob
 exact h1.trans ⟨hg.os,hg.tape,hg.output,hg.size,fun b hb=>hg.block b (by have:=h1.size;have h2:(B.drewN k).heap.size=B.heap.size:=rfl;rw[zJ] at *;omega) (fun e=>by have:=hu b e.symm;omega)⟩
def nb (l:List Nat):List Value:=l.map fun (b:Nat)=>.int .u8 (b:Int)
@[simp] theorem H5 (l:List Nat):(nb l).length=l.length:=by simp[nb]
theorem kT (a b:List Nat):nb (a++b)=nb a++nb b:=by simp[nb]
theorem Rj (l:List Nat) (i:Nat):(nb l)[i]?=l[i]?.map fun (b:Nat)=>.int .u8 (b:Int):=by simp[nb]
def ns (l:List Nat):Prop:=∀x ∈ l,x<256
theorem ns.append {a b:List Nat} (h:ns a) (k:ns b):ns (a++b):=fun x hx=>(List.mem_append.1 hx).elim (h x) (k x)
theorem ns.at {l:List Nat} (h:ns l) {i x:Nat} (hx:l[i]?=some x):x<256:=h x (List.mem_of_getElem? hx)
def Bytes (base:Nat) (W:World) (v:Value) (l:List Nat):Prop:=W.ownsRow base 5 1 v l.length (nb l)
theorem qq (base:Nat) (W:World):Bytes base W (.slice none 0 0) []:=⟨rfl,.inl ⟨rfl,rfl⟩⟩
theorem Ext.fresh {W W':World}{v':Value} (h:Ext W (.slice none 0 0) W' v'):Below W.heap.size W W':=h.below (zD _) (fun b e=>by simp[Value.ownBlock] at e)
def qA (W:World) (v:Value) (l:List Nat):Prop:=∃a c,v=.slice a l.length c∧(l.length≤c∧c≤maxLen∧(a=none→c=0))∧(0<l.length→∃g off,a=some ⟨g,off,none⟩∧g<W.heap.size∧∀(i b:Nat),l[i]?=some b→W.cell? ⟨g,off+i,none⟩=some (.int .u8 (b:Int)))
theorem Bytes.has {base:Nat}{W:World}{v:Value}{l:List Nat} (h:Bytes base W v l):qA W v l:=by
 unfold Bytes at h
 have h':=h
 obtain ⟨_,⟨rfl,h0⟩|⟨g,c,cur,rfl,_,_,vG,oA,_⟩⟩:=h
 ·exact ⟨none,0,by rw[h0],by rw[h0];exact ⟨zD _,Nat.zero_le _,fun _=>rfl⟩,fun hp=>by omega⟩
 ·refine ⟨some ⟨g,0,none⟩,c,rfl,⟨vG,oA,nofun⟩,fun _=>⟨g,0,rfl,(h'.lt g rfl).2,fun i b hb=>?_⟩⟩
  have:=h'.cells (g:=g) rfl i (.int .u8 (b:Int)) (by simp[nb,hb])
  rwa [Go.WideShapes.add_plain] at this
theorem qA.up {W w:World}{v:Value}{l:List Nat} (h:qA W v l) (hb:Below W.heap.size W w):qA w v l:=by
 obtain ⟨a,c,rfl,hm,h3⟩:=h
 refine ⟨a,c,rfl,hm,fun hp=>?_⟩
 obtain ⟨g,off,rfl,h4,h5⟩:=h3 hp
 exact ⟨g,off,rfl,Nat.lt_of_lt_of_le h4 hb.size,fun i k hk=>(hb.cell (p:=⟨g,off+i,none⟩) h4).trans (h5 i k hk)⟩
theorem IQ {W:World}{g:Nat}{l:List Nat}{t:TypeId}{fr:Nat×Nat} (h:W.heap[g]?=some (.cells (nb l).toArray t fr)) (n c:Nat) (hn:n=l.length) (hc:n≤c∧c≤1000):qA W (.slice (some ⟨g,0,none⟩) n c) l:=by
 subst hn
 refine ⟨_,_,rfl,⟨by omega,by unfold maxLen;omega,nofun⟩,fun _=>⟨g,0,rfl,(zA h).1,fun i b hb=>?_⟩⟩
 rw[Nat.zero_add,cell_of_row _ _ _ _ _ _ h]
 simp[nb,hb]
theorem qA.take {W:World}{v:Value}{l:List Nat} (h:qA W v l) (n:Nat) (hn:n≤l.length):∃a c,v=.slice a l.length c∧qA W (.slice a n c) (l.take n):=by
 obtain ⟨a,c,rfl,hm,h3⟩:=h
 have hl:(l.take n).length=n:=by rw[List.length_take];omega
 refine ⟨a,c,rfl,a,c,by rw[hl],⟨by omega,hm.2.1,hm.2.2⟩,fun hp=>?_⟩
 obtain ⟨g,off,rfl,h4,h5⟩:=h3 (by omega)
 refine ⟨g,off,rfl,h4,fun i b hb=>h5 i b ?_⟩
 rw[List.getElem?_take] at hb
 split at hb
 ·exact hb
 ·cases hb
def gE (l:List Nat):ByteArray:=⟨(l.map UInt8.ofNat).toArray⟩
theorem j3 (l:List Nat):(gE l).size=l.length:=by simp[gE,ByteArray.size]
theorem Dl {x:Nat} (h:x<256):(UInt8.ofNat x).toNat=x:=by simp;omega
theorem k9 {W:World}{v:Value}{l:List Nat} (h:qA W v l) (hl:ns l):(convert 58 9 v).run Tryz.prog W=.ok (.string (gE l)) W:=by
 obtain ⟨a,c,rfl,_,h3⟩:=h
 by_cases hp:0<l.length
 ·obtain ⟨g,off,rfl,_,hc⟩:=h3 hp
  have:=run_convert_bytes_back (P:=Tryz.prog) W 58 9 5 ⟨g,off,none⟩ c (l.map UInt8.ofNat) Tryz.underlying58 Tryz.underlying5 Tryz.underlying9 (fun j hj=>by
   rw[Go.WideShapes.add_plain]
   have yv:j<l.length:=by simpa using hj
   rw[hc j l[j] (List.getElem?_eq_getElem yv)]
   simp only[List.getElem_map]
   rw[Dl (hl _ (List.getElem_mem yv))])
  simpa[gE] using this
 ·obtain rfl:l=[]:=by cases l;rfl;simp at hp
  cases a with
  |none =>
   rw[show ([]:List Nat).length=0 from rfl,run_convert_bytes_string W 58 9 5 none 0 c Tryz.underlying58 Tryz.underlying5 Tryz.underlying9]
   simp[Conv.bytesToString]
   rfl
  |some ad =>
   have:=run_convert_bytes_back (P:=Tryz.prog) W 58 9 5 ad c [] Tryz.underlying58 Tryz.underlying5 Tryz.underlying9 (fun j hj=>by simp at hj)
   simpa[gE] using this
def aI (s:ByteArray):List Nat:=s.data.toList.map UInt8.toNat
theorem aZ (s:ByteArray):(aI s).length=s.size:=by simp[aI]
theorem tU (s:ByteArray):ns (aI s):=by
 intro x hx
 obtain ⟨b,_,rfl⟩:=List.mem_map.1 hx
 exact b.toNat_lt
end Go.Proofs.YtichhjfjcinjgaaGreatDoor
namespace Go.Proofs.YtichhjfjcinjgaaGreatDoor
open Go.RowKit
attribute [local go_sem ↓] Go.wp_at_zero Go.wp_at_succ
theorem GM (s:ByteArray) (n x:Nat) (h:(aI s)[n]?=some x) (hn:n<s.size):(s[n]'hn).toNat=x:=by
 unfold aI at h
 rw[List.getElem?_map] at h
 obtain ⟨b,hb,rfl⟩:=Option.map_eq_some_iff.1 h
 have hd:n<s.data.toList.length:=by simpa using hn
 rw[List.getElem?_eq_getElem hd] at hb
 rw[←zC hb]
 rfl
theorem cj (s:ByteArray) (n:Nat) (hn:n<s.size):∃x,(aI s)[n]?=some x∧x<256∧(s[n]'hn).toNat=x:=by
 have hl:n<(aI s).length:=by rw[aZ];exact hn
 have h:=List.getElem?_eq_getElem hl
 exact ⟨_,h,(tU s).at h,GM s n _ h hn⟩
theorem iH {c:Nat}{k:Int} (h:k<(c:Int)):decide ((c:Int)≤k)=false:=by simp;omega
theorem AD {c:Nat}{k:Int} (h:(c:Int)≤k):decide ((c:Int)≤k)=true:=by simp;omega
theorem ln {c:Nat}{k:Int} (h:(c:Int)<k):decide (k≤(c:Int))=false:=by simp;omega
theorem fl {c:Nat}{k:Int} (h:k≤(c:Int)):decide (k≤(c:Int))=true:=by simp;omega
theorem gw {c:Nat}{k:Int} (h:¬((c:Int)=k)):((c:Int)==k)=false:=by simp;omega
theorem Rn {a:Nat}{k:Int} (h:(a:Int)≤k):decide (k<(a:Int))=false:=by simp;omega
theorem Rm {a:Nat}{k:Int} (h:k<(a:Int)):decide (k<(a:Int))=true:=by simp;omega
theorem uK {s:ByteArray} (h:¬s.size=0):s.toList.isEmpty=false:=by
 rw[ByteArray.toList_eq]
 cases hd:s.data.toList with
 |nil=>exact absurd (by have:=congrArg List.length hd;simpa using this) h
 |cons a r=>rfl
theorem uJ {s:ByteArray} (h:s.size=0):s=⟨#[]⟩:=by
 cases s with|mk d=>cases d with|mk l=>cases l with|nil=>rfl|cons a r=>simp[ByteArray.size] at h
def isLet (c:Nat):Prop:=(65≤c∧c≤90)∨(97≤c∧c≤122)∨c=95
def c7 (c:Nat):Prop:=48≤c∧c≤57
def j5 (c:Nat):Prop:=c ∈ [123,125,91,93,40,41,60,62,59,44,61,46,45]
instance (c : Nat) : Decidable (isLet c) := by unfold isLet; infer_instance
instance (c : Nat) : Decidable (c7 c) := by unfold c7; infer_instance
instance (c : Nat) : Decidable (j5 c) := by unfold j5; infer_instance
def cls (c:Nat):Nat:=if (9≤c∧c≤13)∨c=32 then 1 else if isLet c then 2 else if c7 c then 3 else if c=39∨c=34 then 4 else if j5 c then 5 else if c=47 then 6 else 0
theorem pt {c:Nat}:cls c=2↔isLet c:=by
 unfold cls
 constructor
 ·intro h
  repeat' split at h
  all_goals first|assumption|omega
 ·intro h
  rw[if_neg (by unfold isLet at h;omega),if_pos h]
theorem yL {c:Nat}:cls c=3↔c7 c:=by
 unfold cls
 constructor
 ·intro h
  repeat' split at h
  all_goals first|assumption|omega
 ·intro h
  rw[if_neg (by unfold c7 at h;omega),if_neg (by unfold c7 at h;unfold isLet;omega),if_pos h]
theorem KI {c:Nat} (hc:c<256):(0≤firstIdx ⟨#[123,125,91,93,40,41,60,62,59,44,61,46,45]⟩ (Nat.toUInt8 c))↔j5 c:=by
 have key:∀k:Fin 256,(0≤firstIdx ⟨#[123,125,91,93,40,41,60,62,59,44,61,46,45]⟩ (Nat.toUInt8 k.val))↔j5 k.val:=by decide +kernel
 exact key ⟨c,hc⟩
theorem fQ (W:World) (s:ByteArray) (c:Int) :
  Calls Tryz.prog 148 #[.string s,.int .u8 c] W fun e w=>e=.returned (.int .i64 (firstIdx s c.toNat.toUInt8))∧w=W:=by
 go_enter Tryz.func148,Tryz.ntmps148
 go_wp2
 rw[run_callFunc_indexByte Tryz.func194 (by kernel_rfl) (by kernel_rfl) (by kernel_rfl) (by kernel_rfl),run_indexByte_string]
 simp only[Result.andThen]
 go_wp2
 go_ret
 exact ⟨rfl,rfl⟩
end Go.Proofs.YtichhjfjcinjgaaGreatDoor
namespace Go.Proofs.YtichhjfjcinjgaaGreatDoor
open Go.RowKit
structure Fd where
 aQ:Int
 key:ByteArray
 ty:ByteArray
 name:ByteArray
 num:Int
 aE:Int
def Fd.cs (d:Fd):List Value:=[.int .i64 d.aQ,.string d.key,.string d.ty,.string d.name,.int .i64 d.num,.int .i64 d.aE]
structure En where
 name:ByteArray
 aR:List (ByteArray×Int)
 res:List (Int×Int)
 gone:List ByteArray
inductive Ms where
 |mk (name:ByteArray) (fs:List Fd) (os:List ByteArray) (ms:List Ms) (es:List En) (rs:List (Int×Int)) (gs:List ByteArray):Ms
structure Fl where
 jr:ByteArray
 cX:List ByteArray
 ms:List Ms
 es:List En
def cc (l:List ByteArray):List Value:=l.map Value.string
def fB (l:List Fd):List Value:=l.flatMap Fd.cs
def rn (l:List (ByteArray×Int)):List Value:=l.flatMap fun p=>[.string p.1,.int .i64 p.2]
def lj (l:List (Int×Int)):List Value:=l.flatMap fun p=>[.int .i64 p.1,.int .i64 p.2]
theorem lJ {α:Type} (f:α→List Value) (k:Nat) (hf:∀x,(f x).length=k):∀(l:List α) (i j:Nat) (x:α),l[i]?=some x→j<k→(l.flatMap f)[i*k+j]?=(f x)[j]?
 |[],i,j,x,h,_=>by simp at h
 |y::r,0,j,x,h,hj=>by
  obtain rfl:y=x:=by simpa using h
  rw[List.flatMap_cons,Nat.zero_mul,Nat.zero_add,List.getElem?_append_left (by rw[hf];exact hj)]
 |y::r,i+1,j,x,h,hj=>by
  rw[List.flatMap_cons,List.getElem?_append_right (by rw[hf,Nat.succ_mul];omega),hf,show (i+1)*k+j-k=i*k+j by rw[Nat.succ_mul];omega]
  exact lJ f k hf r i j x (by simpa using h) hj
theorem pd {α:Type} (f:α→List Value) (k:Nat) (hf:∀x,(f x).length=k):∀(l:List α),(l.flatMap f).length=l.length*k
 |[]=>by simp
 |y::r=>by rw[List.flatMap_cons,zK,hf,pd f k hf r,List.length_cons,Nat.succ_mul];omega
theorem GN (l:List ByteArray):(cc l).length=l.length:=by simp[cc]
theorem AY (l:List Fd):(fB l).length=l.length*6:=pd _ 6 (fun _=>rfl) l
theorem Ea (l:List (ByteArray×Int)):(rn l).length=l.length*2:=pd _ 2 (fun _=>rfl) l
theorem DE (l:List (Int×Int)):(lj l).length=l.length*2:=pd _ 2 (fun _=>rfl) l
theorem dT {l:List ByteArray}{i:Nat}{t:ByteArray} (h:l[i]?=some t):(cc l)[i]?=some (.string t):=by unfold cc;rw[List.getElem?_map,h];rfl
theorem cC {l:List Fd}{i:Nat}{d:Fd} (h:l[i]?=some d) {j:Nat} (hj:j<6):(fB l)[i*6+j]?=d.cs[j]?:=lJ _ 6 (fun _=>rfl) l i j d h hj
theorem fL {l:List (ByteArray×Int)}{i:Nat}{d:ByteArray×Int} (h:l[i]?=some d) {j:Nat} (hj:j<2):(rn l)[i*2+j]?=[Value.string d.1,.int .i64 d.2][j]?:=lJ _ 2 (fun _=>rfl) l i j d h hj
theorem gI {l:List (Int×Int)}{i:Nat}{d:Int×Int} (h:l[i]?=some d) {j:Nat} (hj:j<2):(lj l)[i*2+j]?=[Value.int .i64 d.1,.int .i64 d.2][j]?:=lJ _ 2 (fun _=>rfl) l i j d h hj
def Rl (w:World) (v:Value) (n:Nat) (xs:List Value):Prop:=∃a c,v=.slice a n c∧n≤140737488355328∧(0<n→∃g o,a=some ⟨g,o,none⟩∧g<w.heap.size∧∀j x,xs[j]?=some x→w.cell? ⟨g,o+j,none⟩=some x)
theorem Rl.up {w w':World}{v:Value}{n:Nat}{xs:List Value} (h:Rl w v n xs) (hb:Below w.heap.size w w'):Rl w' v n xs:=by
 obtain ⟨a,c,rfl,h1,h2⟩:=h
 refine ⟨a,c,rfl,h1,fun hp=>?_⟩
 obtain ⟨g,o,rfl,h3,h4⟩:=h2 hp
 exact ⟨g,o,rfl,Nat.lt_of_lt_of_le h3 hb.size,fun j x hx=>(hb.cell (p:=⟨g,o+j,none⟩) h3).trans (h4 j x hx)⟩
inductive vO (w:World):List Value→List En→Prop
 |nil:vO w [] []
 |cons {e:En} {vv vr vg:Value} {rest:List Value} {l:List En} (hv:Rl w vv e.aR.length (rn e.aR)) (hr:Rl w vr e.res.length (lj e.res)) (hg:Rl w vg e.gone.length (cc e.gone)) (ht:vO w rest l):vO w (.string e.name::vv::vr::vg::rest) (e::l)
theorem vO.up {w w':World}{cs:List Value}{l:List En} (h:vO w cs l) (hb:Below w.heap.size w w'):vO w' cs l:=by
 induction h with
 |nil=>exact .nil
 |cons hv hr hg _ ih=>exact .cons (hv.up hb) (hr.up hb) (hg.up hb) ih
theorem vO.len {w:World}{cs:List Value}{l:List En} (h:vO w cs l):cs.length=l.length*4:=by
 induction h with
 |nil=>rfl
 |cons hv hr hg _ ih=>simp only[List.length_cons,ih];omega
theorem vO.at {w:World}{cs:List Value}{l:List En} (h:vO w cs l):∀(i:Nat) (e:En),l[i]?=some e→∃vv vr vg,(cs.drop (i*4)).take 4=[.string e.name,vv,vr,vg]∧Rl w vv e.aR.length (rn e.aR)∧Rl w vr e.res.length (lj e.res)∧Rl w vg e.gone.length (cc e.gone):=by
 induction h with
 |nil=>intro i e h;simp at h
 |cons hv hr hg _ ih =>
  intro i e h
  cases i with
  |zero =>
   obtain rfl:=zC (h.symm.trans rfl)
   exact ⟨_,_,_,rfl,hv,hr,hg⟩
  |succ i =>
   obtain ⟨vv,vr,vg,h1,h2⟩:=ih i e (by simpa using h)
   refine ⟨vv,vr,vg,?_,h2⟩
   rw[show (i+1)*4=i*4+4 by omega]
   exact h1
inductive tH (w:World):List Value→List Ms→Prop
 |nil:tH w [] []
 |cons {nm:ByteArray} {fs:List Fd} {os:List ByteArray} {ms:List Ms} {es:List En} {rs:List (Int×Int)} {gs:List ByteArray} {vf vo vm ve vr vg:Value} {cm ce rest:List Value} {l:List Ms}
   (hf:Rl w vf fs.length (fB fs)) (ho:Rl w vo os.length (cc os)) (hm:Rl w vm ms.length cm) (eo:tH w cm ms) (he:Rl w ve es.length ce) (fA:vO w ce es)
   (hr:Rl w vr rs.length (lj rs)) (hg:Rl w vg gs.length (cc gs)) (ht:tH w rest l):tH w (.string nm::vf::vo::vm::ve::vr::vg::rest) (.mk nm fs os ms es rs gs::l)
theorem tH.up {w w':World}{cs:List Value}{l:List Ms} (h:tH w cs l) (hb:Below w.heap.size w w'):tH w' cs l:=by
 induction h with
 |nil=>exact .nil
 |cons hf ho hm _ he fA hr hg _ Cv AJ=>exact .cons (hf.up hb) (ho.up hb) (hm.up hb) Cv (he.up hb) (fA.up hb) (hr.up hb) (hg.up hb) AJ
theorem tH.len {w:World}{cs:List Value}{l:List Ms} (h:tH w cs l):cs.length=l.length*7:=by
 induction h with
 |nil=>rfl
 |cons hf ho hm _ he fA hr hg _ _ AJ=>simp only[List.length_cons,AJ];omega
structure L0 (w:World) (m:Ms) (vf vo vm ve vr vg:Value) (nm:ByteArray) (fs:List Fd) (os:List ByteArray) (ms:List Ms) (es:List En) (rs:List (Int×Int)) (gs:List ByteArray) (cm ce:List Value):Prop where
 is:m=.mk nm fs os ms es rs gs
 hf:Rl w vf fs.length (fB fs)
 ho:Rl w vo os.length (cc os)
 hm:Rl w vm ms.length cm
 eo:tH w cm ms
 he:Rl w ve es.length ce
 fA:vO w ce es
 hr:Rl w vr rs.length (lj rs)
 hg:Rl w vg gs.length (cc gs)
theorem tH.at {w:World}{cs:List Value}{l:List Ms} (h:tH w cs l):∀(i:Nat) (m:Ms),l[i]?=some m→∃vf vo vm ve vr vg nm fs os ms es rs gs cm ce,(cs.drop (i*7)).take 7=[.string nm,vf,vo,vm,ve,vr,vg]∧L0 w m vf vo vm ve vr vg nm fs os ms es rs gs cm ce:=by
 induction h with
 |nil=>intro i e h;simp at h
 |cons hf ho hm eo he fA hr hg _ _ ih =>
  intro i m h
  cases i with
  |zero =>
   obtain rfl:=zC (h.symm.trans rfl)
   exact ⟨_,_,_,_,_,_,_,_,_,_,_,_,_,_,_,rfl,⟨rfl,hf,ho,hm,eo,he,fA,hr,hg⟩⟩
  |succ i =>
   obtain ⟨vf,vo,vm,ve,vr,vg,nm,fs,os,ms,es,rs,gs,cm,ce,h1,h2⟩:=ih i m (by simpa using h)
   refine ⟨vf,vo,vm,ve,vr,vg,nm,fs,os,ms,es,rs,gs,cm,ce,?_,h2⟩
   rw[show (i+1)*7=i*7+7 by omega]
   exact h1
structure xE (w:World) (v:Value) (F:Fl) (vi vm ve:Value) (cm ce:List Value):Prop where
 is:v=.agg #[.string F.jr,vi,vm,ve]
 hi:Rl w vi F.cX.length (cc F.cX)
 hm:Rl w vm F.ms.length cm
 eo:tH w cm F.ms
 he:Rl w ve F.es.length ce
 fA:vO w ce F.es
theorem xE.up {w w':World}{v vi vm ve:Value}{F:Fl}{cm ce:List Value} (h:xE w v F vi vm ve cm ce) (hb:Below w.heap.size w w'):xE w' v F vi vm ve cm ce:=⟨h.is,h.hi.up hb,h.hm.up hb,h.eo.up hb,h.he.up hb,h.fA.up hb⟩
end Go.Proofs.YtichhjfjcinjgaaGreatDoor

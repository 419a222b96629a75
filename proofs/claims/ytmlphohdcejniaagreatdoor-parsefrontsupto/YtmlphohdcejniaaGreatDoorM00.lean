import Derived.Test.YtmlphohdcejniaaGreatDoorChecked
import Derived.WalkKit
import Derived.WalkSpells
import Derived.StillTactics
import Derived.OwnWalk
import Derived.Below
import Derived.Deep.LoopGhost
import Derived.Deep.AppendLies
import Derived.Maps.AppendAt
import Derived.Deep.RegionHeld3
import Derived.KernelRfl
import Derived.Laws.BitsLemmas
import Derived.Laws.BitsAllLaws
import Derived.Deep.DrawnRows
import Derived.BigQuiet
import Derived.Deep.QuietTactic
import Derived.RangeFuncLeaves
import Derived.Laws.IdiomStrings
import Derived.Laws.BytesArg
import Derived.Laws.CopyOwn
import Derived.Lib.SlBytesConst
import Derived.Laws.Externs
import Derived.Laws.StandIn
import Derived.Lib.ConvBytes
import Derived.Lib.AtoiErrMem
set_option maxRecDepth 100000
namespace Go.Proofs.YtmlphohdcejniaaGreatDoor
open Go.RowKit
theorem zA {α:Type} {x:Array α} {i:Nat} {b:α} (h:x[i]?=some b):∃h:i<x.size,x[i]=b:=Array.getElem?_eq_some_iff.1 h
theorem zB {α:Type} {x:List α} {i:Nat} {b:α} (h:x[i]?=some b):∃h:i<x.length,x[i]=b:=List.getElem?_eq_some_iff.1 h
theorem zC {α:Type} {a b:α} (h:some a=some b):a=b:=Option.some.inj h
theorem zD (n:Nat):n≤n:=Nat.le_refl n
theorem zE (k:Nat) (w:World):Below k w w:=Below.refl k w
theorem zF {α:Type} {a:α} {l:List α} (y:α) (h:a∈l):a∈y::l:=List.mem_cons_of_mem y h
theorem zG {α:Type} {x:Option α} (h:x.isSome=true):∃a,x=some a:=Option.isSome_iff_exists.1 h
theorem zI (w:World) (o:Option Nat):w.grownBy w o:=World.grownBy.refl w o
theorem zJ (w:World) (o:Obj):(w.alloc o).heap.size=w.heap.size+1:=World.size_alloc w o
theorem zK {α:Type} {l m:List α}:(l++m).length=l.length+m.length:=List.length_append
theorem zL {α:Type} (l:List α) (i:Nat) (a:α):l.toArray.setIfInBounds i a=(l.set i a).toArray:=List.setIfInBounds_toArray l i a
theorem zM {α:Type} {l:List α} {a b:α}:(a::l).set 0 b=b::l:=rfl
theorem zN {α:Type} {l:List α} {n:Nat} {a b:α}:(a::l).set (n+1) b=a::l.set n b:=rfl
theorem zH (n:Nat):(0:Int)≤(n:Int):=Int.natCast_nonneg n
end Go.Proofs.YtmlphohdcejniaaGreatDoor
namespace Go.Proofs.YtmlphohdcejniaaGreatDoor
open Go.RowKit
def Hid (p:Prop):Prop:=p
theorem aj {p:Prop} (h:p):Hid p:=h
theorem aa {p:Prop} (h:Hid p):p:=h
theorem Tryz.infoByte:(Tryz.prog.info? 5).map (fun i=>(i.zero,i.size,i.bytes))=some (some (.int .u8 0),1,1):=by kernel_rfl
structure Ext (W:World) (v:Value) (W':World) (v':Value):Prop where
 os:W'.os=W.os
 tape:W'.tape=W.tape
 output:W'.output=W.output
 size:W.heap.size≤W'.heap.size
 F':∀b,b<W.heap.size→some b≠v.ownBlock→W'.heap[b]?=W.heap[b]?
 own:v'.ownBlock=v.ownBlock∨∃g,v'.ownBlock=some g∧W.heap.size≤g
theorem Ext.refl (W:World) (v:Value):Ext W v W v:=⟨rfl,rfl,rfl,zD _,fun _ _ _=>rfl,.inl rfl⟩
theorem Ext.trans {A B C:World}{x y z:Value} (h:Ext A x B y) (k:Ext B y C z):Ext A x C z:=by
 refine ⟨k.os.trans h.os,k.tape.trans h.tape,k.output.trans h.output,Nat.le_trans h.size k.size,fun b hb hn=>?_,?_⟩
 ·refine (k.F' b (Nat.lt_of_lt_of_le hb h.size) (fun e=>?_)).trans (h.F' b hb hn)
  rcases h.own with o|⟨g,o,hg⟩
  ·exact hn (e.trans o)
  ·rw[o] at e
   have:b=g:=by simpa using e
   omega
 ·rcases k.own with o|⟨g,o,hg⟩
  ·rw[o];exact h.own
  ·exact .inr ⟨g,o,Nat.le_trans h.size hg⟩
theorem Ext.below {A B:World}{x y:Value} (h:Ext A x B y) {n:Nat} (hn:n≤A.heap.size) (hx:∀b,x.ownBlock=some b→n≤b):Below n A B :=
 ⟨h.os,h.tape,h.output,h.size,fun b hb=>h.F' b (Nat.lt_of_lt_of_le hb hn) (fun e=>by have:=hx b e.symm;omega)⟩
theorem Ext.dX {A B:World} (h:Below A.heap.size A B) (v:Value):Ext A v B v:=⟨h.os,h.tape,h.output,h.size,fun b hb _=>h.block b hb,.inl rfl⟩
theorem Ext.grown {W w':World}{v v':Value}{ob:Obj} (h:(W.alloc ob).grownBy w' v.ownBlock) (pS:v'.ownBlock=v.ownBlock∨v'.ownBlock=some (W.alloc ob).heap.size):Ext W v w' v' :=
 ⟨h.os,h.tape,h.output,by have:=h.size;rw[zJ] at this;omega,fun b hb hn=>(h.block b (by rw[zJ];omega) hn).trans (Below.heap_alloc W ob b hb),pS.imp id fun e=>⟨_,e,by rw[zJ];omega⟩⟩
theorem zw (n:Int):wrap64 n=(n+9223372036854775808) % 18446744073709551616-9223372036854775808:=by
 first|rfl|(unfold wrap64;omega)|(simp[wrap64];omega)
theorem pW {a:Int} (h1:-9223372036854775808≤a) (h2:a≤9223372036854775807):wrap64 a=a:=by rw[zw];omega
theorem aC (w:World) (o:Obj):(w.alloc o).heap[w.heap.size]?=some o:=by
 unfold World.alloc
 simp
theorem below_drewN {n:Nat}{A B:World} (h:Below n A B) (k:Nat):Below n A (B.drewN k):=⟨h.os,h.tape,h.output,h.size,h.block⟩
theorem below_grow {n k:Nat}{A B C:World}{ob:Obj}{u:Value} (hB:Below n A B) (hn:n≤B.heap.size) (hg:((B.drewN k).alloc ob).grownBy C u.ownBlock) (hu:∀b,u.ownBlock=some b→n≤b):Below n A C:=by
 have h1:=(below_drewN hB k).alloc (by simpa using hn) ob
 exact h1.trans ⟨hg.os,hg.tape,hg.output,hg.size,fun b hb=>hg.block b (by have:=h1.size;have h2:(B.drewN k).heap.size=B.heap.size:=rfl;rw[zJ] at *;omega) (fun e=>by have:=hu b e.symm;omega)⟩
def nb (l:List Nat):List Value:=l.map fun (b:Nat)=>.int .u8 (b:Int)
theorem rJ (a b:List Nat):nb (a++b)=nb a++nb b:=by simp[nb]
def KI (l:List Nat):Prop:=∀x ∈ l,x<256
theorem KI.append {a b:List Nat} (h:KI a) (k:KI b):KI (a++b):=fun x hx=>(List.mem_append.1 hx).elim (h x) (k x)
theorem KI.at {l:List Nat} (h:KI l) {i x:Nat} (hx:l[i]?=some x):x<256:=h x (List.mem_of_getElem? hx)
def Bytes (base:Nat) (W:World) (v:Value) (l:List Nat):Prop:=W.ownsRow base 5 1 v l.length (nb l)
theorem AT (base:Nat) (W:World):Bytes base W (.slice none 0 0) []:=⟨rfl,.inl ⟨rfl,rfl⟩⟩
theorem Ext.fresh {W W':World}{v':Value} (h:Ext W (.slice none 0 0) W' v'):Below W.heap.size W W':=h.below (zD _) (fun b e=>by simp[Value.ownBlock] at e)
def ED (W:World) (v:Value) (l:List Nat):Prop:=∃a c,v=.slice a l.length c∧(l.length≤c∧c≤maxLen∧(a=none→c=0))∧(0<l.length→∃g off,a=some ⟨g,off,none⟩∧g<W.heap.size∧∀(i b:Nat),l[i]?=some b→W.cell? ⟨g,off+i,none⟩=some (.int .u8 (b:Int)))
theorem Bytes.has {base:Nat}{W:World}{v:Value}{l:List Nat} (h:Bytes base W v l):ED W v l:=by
 unfold Bytes at h
 have h':=h
 obtain ⟨_,⟨rfl,h0⟩|⟨g,c,cur,rfl,_,_,ri,gJ,_⟩⟩:=h
 ·exact ⟨none,0,by rw[h0],by rw[h0];exact ⟨zD _,Nat.zero_le _,fun _=>rfl⟩,fun hp=>by omega⟩
 ·refine ⟨some ⟨g,0,none⟩,c,rfl,⟨ri,gJ,nofun⟩,fun _=>⟨g,0,rfl,(h'.lt g rfl).2,fun i b hb=>?_⟩⟩
  have:=h'.cells (g:=g) rfl i (.int .u8 (b:Int)) (by simp[nb,hb])
  rwa [Go.WideShapes.add_plain] at this
theorem ED.up {W w:World}{v:Value}{l:List Nat} (h:ED W v l) (hb:Below W.heap.size W w):ED w v l:=by
 obtain ⟨a,c,rfl,hm,h3⟩:=h
 refine ⟨a,c,rfl,hm,fun hp=>?_⟩
 obtain ⟨g,off,rfl,h4,h5⟩:=h3 hp
 exact ⟨g,off,rfl,Nat.lt_of_lt_of_le h4 hb.size,fun i k hk=>(hb.cell (p:=⟨g,off+i,none⟩) h4).trans (h5 i k hk)⟩
theorem ED.take {W:World}{v:Value}{l:List Nat} (h:ED W v l) (n:Nat) (hn:n≤l.length):∃a c,v=.slice a l.length c∧ED W (.slice a n c) (l.take n):=by
 obtain ⟨a,c,rfl,hm,h3⟩:=h
 have hl:(l.take n).length=n:=by rw[List.length_take];omega
 refine ⟨a,c,rfl,a,c,by rw[hl],⟨by omega,hm.2.1,hm.2.2⟩,fun hp=>?_⟩
 obtain ⟨g,off,rfl,h4,h5⟩:=h3 (by omega)
 refine ⟨g,off,rfl,h4,fun i b hb=>h5 i b ?_⟩
 rw[List.getElem?_take] at hb
 split at hb
 ·exact hb
 ·cases hb
def ti (l:List Nat):ByteArray:=⟨(l.map UInt8.ofNat).toArray⟩
theorem jg (l:List Nat):(ti l).size=l.length:=by simp[ti,ByteArray.size]
theorem PZ {x:Nat} (h:x<256):(UInt8.ofNat x).toNat=x:=by simp;omega
theorem nS {W:World}{v:Value}{l:List Nat} (h:ED W v l) (hl:KI l):(convert 54 9 v).run Tryz.prog W=.ok (.string (ti l)) W:=by
 obtain ⟨a,c,rfl,_,h3⟩:=h
 by_cases hp:0<l.length
 ·obtain ⟨g,off,rfl,_,hc⟩:=h3 hp
  have:=run_convert_bytes_back (P:=Tryz.prog) W 54 9 5 ⟨g,off,none⟩ c (l.map UInt8.ofNat) Tryz.underlying54 Tryz.underlying5 Tryz.underlying9 (fun j hj=>by
   rw[Go.WideShapes.add_plain]
   have QR:j<l.length:=by simpa using hj
   rw[hc j l[j] (List.getElem?_eq_getElem QR)]
   simp only[List.getElem_map]
   rw[PZ (hl _ (List.getElem_mem QR))])
  simpa[ti] using this
 ·obtain rfl:l=[]:=by cases l;rfl;simp at hp
  cases a with
  |none =>
   rw[show ([]:List Nat).length=0 from rfl,run_convert_bytes_string W 54 9 5 none 0 c Tryz.underlying54 Tryz.underlying5 Tryz.underlying9]
   simp[Conv.bytesToString]
   rfl
  |some ad =>
   have:=run_convert_bytes_back (P:=Tryz.prog) W 54 9 5 ad c [] Tryz.underlying54 Tryz.underlying5 Tryz.underlying9 (fun j hj=>by simp at hj)
   simpa[ti] using this
def aH (s:ByteArray):List Nat:=s.data.toList.map UInt8.toNat
theorem bk (s:ByteArray):(aH s).length=s.size:=by simp[aH]
theorem LH (s:ByteArray):KI (aH s):=by
 intro x hx
 obtain ⟨b,_,rfl⟩:=List.mem_map.1 hx
 exact b.toNat_lt
end Go.Proofs.YtmlphohdcejniaaGreatDoor
namespace Go.Proofs.YtmlphohdcejniaaGreatDoor
open Go.RowKit
attribute [local go_sem ↓] Go.wp_at_zero Go.wp_at_succ
theorem LG (s:ByteArray) (n x:Nat) (h:(aH s)[n]?=some x) (hn:n<s.size):(s[n]'hn).toNat=x:=by
 unfold aH at h
 rw[List.getElem?_map] at h
 obtain ⟨b,hb,rfl⟩:=Option.map_eq_some_iff.1 h
 have hd:n<s.data.toList.length:=by simpa using hn
 rw[List.getElem?_eq_getElem hd] at hb
 rw[←zC hb]
 rfl
theorem iV (s:ByteArray) (n:Nat) (hn:n<s.size):∃x,(aH s)[n]?=some x∧x<256∧(s[n]'hn).toNat=x:=by
 have hl:n<(aH s).length:=by rw[bk];exact hn
 have h:=List.getElem?_eq_getElem hl
 exact ⟨_,h,(LH s).at h,LG s n _ h hn⟩
theorem oW {c:Nat}{k:Int} (h:k<(c:Int)):decide ((c:Int)≤k)=false:=by simp;omega
theorem Ws {c:Nat}{k:Int} (h:(c:Int)≤k):decide ((c:Int)≤k)=true:=by simp;omega
theorem qD {c:Nat}{k:Int} (h:(c:Int)<k):decide (k≤(c:Int))=false:=by simp;omega
theorem nc {c:Nat}{k:Int} (h:k≤(c:Int)):decide (k≤(c:Int))=true:=by simp;omega
theorem rk {c:Nat}{k:Int} (h:¬((c:Int)=k)):((c:Int)==k)=false:=by simp;omega
theorem ltF {a:Nat}{k:Int} (h:(a:Int)≤k):decide (k<(a:Int))=false:=by simp;omega
theorem ltT {a:Nat}{k:Int} (h:k<(a:Int)):decide (k<(a:Int))=true:=by simp;omega
theorem qw {s:ByteArray} (h:¬s.size=0):s.toList.isEmpty=false:=by
 rw[ByteArray.toList_eq]
 cases hd:s.data.toList with
 |nil=>exact absurd (by have:=congrArg List.length hd;simpa using this) h
 |cons a r=>rfl
theorem xH {s:ByteArray} (h:s.size=0):s=⟨#[]⟩:=by
 cases s with|mk d=>cases d with|mk l=>cases l with|nil=>rfl|cons a r=>simp[ByteArray.size] at h
def isLet (c:Nat):Prop:=(65≤c∧c≤90)∨(97≤c∧c≤122)∨c=95
def bZ (c:Nat):Prop:=48≤c∧c≤57
def jl (c:Nat):Prop:=c ∈ [123,125,91,93,40,41,60,62,59,44,61,46,45]
instance (c : Nat) : Decidable (isLet c) := by unfold isLet; infer_instance
instance (c : Nat) : Decidable (bZ c) := by unfold bZ; infer_instance
instance (c : Nat) : Decidable (jl c) := by unfold jl; infer_instance
def cls (c:Nat):Nat:=if (9≤c∧c≤13)∨c=32 then 1 else if isLet c then 2 else if bZ c then 3 else if c=39∨c=34 then 4 else if jl c then 5 else if c=47 then 6 else 0
theorem qL {c:Nat}:cls c=2↔isLet c:=by
 unfold cls
 constructor
 ·intro h
  repeat' split at h
  all_goals first|assumption|omega
 ·intro h
  rw[if_neg (by unfold isLet at h;omega),if_pos h]
theorem Ca {c:Nat}:cls c=3↔bZ c:=by
 unfold cls
 constructor
 ·intro h
  repeat' split at h
  all_goals first|assumption|omega
 ·intro h
  rw[if_neg (by unfold bZ at h;omega),if_neg (by unfold bZ at h;unfold isLet;omega),if_pos h]
theorem P9 {c:Nat} (hc:c<256):(0≤firstIdx ⟨#[123,125,91,93,40,41,60,62,59,44,61,46,45]⟩ (Nat.toUInt8 c))↔jl c:=by
 have key:∀k:Fin 256,(0≤firstIdx ⟨#[123,125,91,93,40,41,60,62,59,44,61,46,45]⟩ (Nat.toUInt8 k.val))↔jl k.val:=by decide +kernel
 exact key ⟨c,hc⟩
theorem gN (W:World) (s:ByteArray) (c:Int) :
  Calls Tryz.prog 71 #[.string s,.int .u8 c] W fun e w=>e=.returned (.int .i64 (firstIdx s c.toNat.toUInt8))∧w=W:=by
 go_enter Tryz.func71,Tryz.ntmps71
 go_wp2
 rw[run_callFunc_indexByte Tryz.func117 (by kernel_rfl) (by kernel_rfl) (by kernel_rfl) (by kernel_rfl),run_indexByte_string]
 simp only[Result.andThen]
 go_wp2
 go_ret
 exact ⟨rfl,rfl⟩
def Eg (x:Nat):Option Nat:=if 48≤x∧x≤57 then some (x-48) else if 65≤x∧x≤90 then some (x-55) else if 97≤x∧x≤122 then some (x-87) else none
def cK (B M:Nat):List Nat→Nat→Option Nat
 |[],n=>some n
 |c::r,n=>match Eg c with
  |none=>none
  |some d=>if d<B∧n*B+d≤M then cK B M r (n*B+d) else none
def low (x:Nat):Nat:=x |||32
theorem T' {x:Nat} (h1:65≤x) (h2:x≤90):low x=x+32:=by
 have key:∀k:Fin 256,65≤k.val→k.val≤90→low k.val=k.val+32:=by decide +kernel
 exact key ⟨x,by omega⟩ h1 h2
theorem MN {x:Nat} (h1:97≤x) (h2:x≤122):low x=x:=by
 have key:∀k:Fin 256,97≤k.val→k.val≤122→low k.val=k.val:=by decide +kernel
 exact key ⟨x,by omega⟩ h1 h2
theorem MM {x:Nat} (h:x<256) (h1:¬(65≤x∧x≤90)) (h2:¬(97≤x∧x≤122)):low x<97∨122<low x:=by
 have key:∀k:Fin 256,¬(65≤k.val∧k.val≤90)→¬(97≤k.val∧k.val≤122)→low k.val<97∨122<low k.val:=by decide +kernel
 exact key ⟨x,h⟩ h1 h2
theorem MO {x:Nat} (h:x<256):bits .or .u8 (x:Int) 32=((low x:Nat):Int):=by
 have key:∀k:Fin 256,bits .or .u8 ((k.val:Nat):Int) 32=((low k.val:Nat):Int):=by decide +kernel
 exact key ⟨x,h⟩
theorem JM (W:World) (x:Nat) (hx:x<256):Calls Tryz.prog 139 #[.int .u8 (x:Int)] W fun e w=>e=.returned (.int .u8 ((low x:Nat):Int))∧w=W:=by
 have hb:=MO hx
 go_enter Tryz.func139,Tryz.ntmps139
 go_wp2
 go_ret
 exact ⟨rfl,rfl⟩
def PU (W:World) (B M:Nat) (s:ByteArray) (e:Ending) (w:World):Prop:=Below W.heap.size W w ∧
 ((∃u:Nat,e=.returned (.tuple #[.int .u64 (u:Int),.nilIface])∧0<s.size∧cK B M (aH s) 0=some u) ∨
  (∃u c:Int,e=.returned (.tuple #[.int .u64 u,.iface 180 (.int .i64 c)])∧(c=1∨c=2)∧(s.size=0∨cK B M (aH s) 0=none)))
theorem PU.bad {W w:World}{B M:Nat}{s:ByteArray} (u c:Int) (hb:Below W.heap.size W w) (hc:c=1∨c=2) (h:s.size=0∨cK B M (aH s) 0=none) :
  PU W B M s (.returned (.tuple #[.int .u64 u,.iface 180 (.int .i64 c)])) w:=⟨hb,.inr ⟨u,c,rfl,hc,h⟩⟩
theorem PU.aa9 {W w:World}{B M:Nat}{s:ByteArray} (u:Nat) (hb:Below W.heap.size W w) (h0:0<s.size) (h:cK B M (aH s) 0=some u) :
  PU W B M s (.returned (.tuple #[.int .u64 (u:Int),.nilIface])) w:=⟨hb,.inl ⟨u,rfl,h0,h⟩⟩
theorem Je (s:ByteArray) (j x:Nat) (h:(aH s)[j]?=some x):(s.data.toList.getD j 0).toNat=x:=by
 unfold aH at h
 rw[List.getElem?_map] at h
 obtain ⟨b,hb,rfl⟩:=Option.map_eq_some_iff.1 h
 rw[List.getD_eq_getElem?_getD,hb]
 rfl
def kN:List (Int×Int×Int×Int×Int):=[(0,127,0,0,0),(194,223,1,128,191),(224,224,2,160,191),(225,236,2,128,191),(237,237,2,128,159),(238,239,2,128,191),(240,240,3,144,191),(241,243,3,128,191),(244,244,3,128,143)]
def nn (W:World):Prop:=0<W.heap.size∧∀i a b c d e,kN[i]?=some (a,b,c,d,e)→W.cell? ⟨0,i*5,none⟩=some (.int .u8 a)∧W.cell? ⟨0,i*5+1,none⟩=some (.int .u8 b)∧W.cell? ⟨0,i*5+2,none⟩=some (.int .u8 c)∧W.cell? ⟨0,i*5+3,none⟩=some (.int .u8 d)∧W.cell? ⟨0,i*5+4,none⟩=some (.int .u8 e)
theorem nn.up {W w:World} (h:nn W) (hb:Below W.heap.size W w):nn w :=
 ⟨Nat.lt_of_lt_of_le h.1 hb.size,fun i a b c d e hf=>by
  obtain ⟨q0,q1,q2,q3,q4⟩:=h.2 i a b c d e hf
  exact ⟨(hb.cell (p:=⟨0,i*5,none⟩) h.1).trans q0,(hb.cell (p:=⟨0,i*5+1,none⟩) h.1).trans q1,(hb.cell (p:=⟨0,i*5+2,none⟩) h.1).trans q2,(hb.cell (p:=⟨0,i*5+3,none⟩) h.1).trans q3,(hb.cell (p:=⟨0,i*5+4,none⟩) h.1).trans q4⟩⟩
theorem ot:kN.length=9:=rfl
end Go.Proofs.YtmlphohdcejniaaGreatDoor

import Derived.Test.YtghioefalckgoaaGreatDoorM14
import Derived.Deep.RegionLaw
set_option maxHeartbeats 4000000
set_option maxRecDepth 100000
namespace Go.Proofs.YtghioefalckgoaaGreatDoor
open Go.RowKit
def uZ (B c:Nat):Option Nat:=match El c with
 |none=>none
 |some d=>if d<B then some d else none
def dt (B:Nat):Nat→List Nat→Nat→Nat→Nat×Nat
 |0,_,v,n=>(v,n)
 |_+1,[],v,n=>(v,n)
 |f+1,c::r,v,n=>match uZ B c with
  |none=>(v,n)
  |some d=>dt B f r (v*B+d) (n+1)
def cJ (B:Nat):Nat→List Nat→Nat
 |0,_=>0
 |_+1,[]=>0
 |f+1,c::r=>match uZ B c with
  |none=>0
  |some _=>cJ B f r+1
theorem qe (B v n:Nat) (l:List Nat):dt B 0 l v n=(v,n):=by cases l<;>rfl
theorem FY {B f c v n:Nat}{r:List Nat} (h:uZ B c=none):dt B f (c::r) v n=(v,n):=by
 cases f with
 |zero=>rfl
 |succ f=>simp[dt,h]
theorem FX {B f c v n d:Nat}{r:List Nat} (h:uZ B c=some d):dt B (f+1) (c::r) v n=dt B f r (v*B+d) (n+1):=by simp[dt,h]
theorem Qy {B c d:Nat} (h:uZ B c=some d):d<B∧El c=some d:=by
 unfold uZ at h
 split at h
 ·cases h
 ·rename_i e he
  split at h
  ·obtain rfl:=zC h
   exact ⟨by assumption,he⟩
  ·cases h
theorem mg {B:Nat}:∀(f:Nat) (l:List Nat) (v n:Nat),(dt B f l v n).2=n+cJ B f l
 |0,l,v,n=>by rw[qe];cases l<;>rfl
 |f+1,[],v,n=>rfl
 |f+1,c::r,v,n=>by
  cases h:uZ B c with
  |none=>simp[dt,cJ,h]
  |some d=>simp only[dt,cJ,h];rw[mg f r];omega
theorem xV {B:Nat} (hB:1≤B):∀(f:Nat) (l:List Nat) (v n:Nat),v≤(dt B f l v n).1
 |0,l,v,n=>by rw[qe];exact zD _
 |f+1,[],v,n=>zD _
 |f+1,c::r,v,n=>by
  cases h:uZ B c with
  |none=>simp[dt,h]
  |some d =>
   simp only[dt,h]
   have:=xV hB f r (v*B+d) (n+1)
   have h2:v*1≤v*B:=Nat.mul_le_mul_left v hB
   omega
theorem qf {B:Nat} (hB:1≤B):∀(f:Nat) (l:List Nat) (v n:Nat),v≤255→cA B 255 (l.take (cJ B f l)) v=if (dt B f l v n).1≤255 then some (dt B f l v n).1 else none
 |0,l,v,n,hv=>by
  rw[qe]
  have:cJ B 0 l=0:=by cases l<;>rfl
  rw[this,if_pos hv]
  rfl
 |f+1,[],v,n,hv=>by
  show cA B 255 [] v=if v≤255 then some v else none
  rw[if_pos hv];rfl
 |f+1,c::r,v,n,hv=>by
  cases h:uZ B c with
  |none =>
   rw[FY h]
   have:cJ B (f+1) (c::r)=0:=by simp[cJ,h]
   rw[this,if_pos hv]
   rfl
  |some d =>
   obtain ⟨h1,h2⟩:=Qy h
   rw[FX h]
   have:cJ B (f+1) (c::r)=cJ B f r+1:=by simp[cJ,h]
   rw[this,List.take_succ_cons]
   simp only[cA,h2]
   by_cases h3:v*B+d≤255
   ·rw[if_pos ⟨h1,h3⟩]
    exact qf hB f r _ _ h3
   ·rw[if_neg (fun q=>h3 q.2),if_neg]
    have:=xV hB f r (v*B+d) (n+1)
    omega
theorem y8 {B:Nat}:∀(f:Nat) (l:List Nat),cJ B f l≤f∧cJ B f l≤l.length
 |0,l=>by cases l<;>simp[cJ]
 |f+1,[]=>by simp[cJ]
 |f+1,c::r=>by
  cases h:uZ B c with
  |none=>simp[cJ,h]
  |some d=>have:=y8 (B:=B) f r;simp[cJ,h];omega
def uU (c:Nat):Option Nat:=if c=97 then some 7 else if c=98 then some 8 else if c=102 then some 12 else if c=110 then some 10 else if c=114 then some 13 else if c=116 then some 9 else if c=118 then some 11 else if c=92∨c=39∨c=34 then some c else none
def fin (p:Nat×Nat) (k:Nat):Option (Nat×Nat):=if p.2=0∨255<p.1 then none else some (p.1,k+p.2)
def gd:List Nat→Option (Nat×Nat)
 |_::c::r=>match uU c with
  |some v=>some (v,2)
  |none=>if c=120∨c=88 then fin (dt 16 2 r 0 0) 2 else fin (dt 8 3 (c::r) 0 0) 1
 |_=>none
theorem Kj {l:List Nat}{b n:Nat} (h:gd l=some (b,n)):1≤n∧n≤l.length∧b<256:=by
 match l,h with
 |a::c::r,h =>
  simp only[gd] at h
  split at h
  ·rename_i v hv
   obtain ⟨rfl,rfl⟩:=Prod.mk.inj (zC h)
   refine ⟨by omega,by simp,?_⟩
   unfold uU at hv
   repeat' split at hv
   all_goals first|(have:=zC hv;omega)|cases hv
  ·split at h
   ·unfold fin at h
    split at h
    ·cases h
    ·rename_i hh
     obtain ⟨rfl,rfl⟩:=Prod.mk.inj (zC h)
     have h1:=mg (B:=16) 2 r 0 0
     have h2:=y8 (B:=16) 2 r
     simp only[List.length_cons]
     omega
   ·unfold fin at h
    split at h
    ·cases h
    ·rename_i hh
     obtain ⟨rfl,rfl⟩:=Prod.mk.inj (zC h)
     have h1:=mg (B:=8) 3 (c::r) 0 0
     have h2:=y8 (B:=8) 3 (c::r)
     simp only[List.length_cons] at *
     omega
 |[a],h=>simp[gd] at h
 |[],h=>simp[gd] at h
def dv (s:ByteArray) (k:Nat):Option (Nat×Nat):=if aF s k=0∨aF s k=10 then none else if aF s k=92 then gd ((aO s).drop k) else some (aF s k,1)
theorem jW {s:ByteArray}{k b n:Nat} (h:dv s k=some (b,n)) (hk:k<s.size):1≤n∧k+n≤s.size∧b<256:=by
 unfold dv at h
 split at h
 ·cases h
 ·split at h
  ·have:=Kj h
   rw[List.length_drop,bg] at this
   omega
  ·obtain ⟨rfl,rfl⟩:=Prod.mk.inj (zC h)
   have:=fD s k
   omega
def gy (s:ByteArray) (q k:Nat):Option (List Nat×Nat) :=
 if _h:k<s.size then
  if aF s k=q then some ([],k+1)
  else match dv s k with
   |none=>none
   |some (b,n)=>if _hn:1≤n then (gy s q (k+n)).map fun r=>(b::r.1,r.2) else none
 else none
termination_by s.size-k
decreasing_by omega
theorem nx {s:ByteArray}{q k:Nat} (h:¬k<s.size):gy s q k=none:=by rw[gy,dif_neg h]
theorem od {s:ByteArray}{q k:Nat} (h:k<s.size) (h2:aF s k=q):gy s q k=some ([],k+1):=by rw[gy,dif_pos h,if_pos h2]
theorem yf {s:ByteArray}{q k:Nat} (h:k<s.size) (h2:¬aF s k=q) (h3:dv s k=none):gy s q k=none:=by rw[gy,dif_pos h,if_neg h2,h3]
theorem tj {s:ByteArray}{q k b n:Nat} (h:k<s.size) (h2:¬aF s k=q) (h3:dv s k=some (b,n)):gy s q k=(gy s q (k+n)).map fun r=>(b::r.1,r.2):=by
 rw[gy,dif_pos h,if_neg h2,h3]
 exact dif_pos (jW h3 h).1
theorem OF {s:ByteArray}{q:Nat}:∀(m k:Nat) (l:List Nat) (e:Nat),s.size-k≤m→gy s q k=some (l,e)→k<e∧e≤s.size∧pz l∧k+l.length<e:=by
 intro m
 induction m with
 |zero=>intro k l e hm h;rw[nx (by omega)] at h;cases h
 |succ m ih =>
  intro k l e hm h
  by_cases hk:k<s.size
  ·by_cases hq:aF s k=q
   ·rw[od hk hq] at h
    obtain ⟨rfl,rfl⟩:=Prod.mk.inj (zC h)
    exact ⟨by omega,by omega,fun x hx=>by simp at hx,by simp⟩
   ·cases hp:dv s k with
    |none=>rw[yf hk hq hp] at h;cases h
    |some t =>
     obtain ⟨b,n⟩:=t
     obtain ⟨p1,p2,p3⟩:=jW hp hk
     rw[tj hk hq hp] at h
     obtain ⟨⟨l',e'⟩,h1,h2⟩:=Option.map_eq_some_iff.1 h
     obtain ⟨rfl,rfl⟩:=Prod.mk.inj h2
     obtain ⟨a1,a2,a3,a4⟩:=ih (k+n) l' e' (by omega) h1
     refine ⟨by omega,a2,fun x hx=>?_,by simp only[List.length_cons];omega⟩
     rcases List.mem_cons.1 hx with rfl|hx
     ·exact p3
     ·exact a3 x hx
  ·rw[nx hk] at h;cases h
def wI (s:ByteArray):Option (List Nat×Nat):=if s.size=0 then none else if aF s 0=39∨aF s 0=34 then gy s (aF s 0) 1 else none
def eM (s:ByteArray) (k:Nat):Nat:=if h:k<s.size∧(isLet (aF s k)∨dq (aF s k)) then eM s (k+1) else k
termination_by s.size-k
decreasing_by omega
def kq (s:ByteArray) (k:Nat):Nat:=if h:k<s.size∧¬aF s k=10 then kq s (k+1) else k
termination_by s.size-k
decreasing_by omega
def dc (s:ByteArray) (k:Nat):Nat:=if h:k+2≤s.size∧¬(aF s k=42∧aF s (k+1)=47) then dc s (k+1) else k
termination_by s.size-k
decreasing_by omega
theorem xU (s:ByteArray) (k:Nat):k≤eM s k:=by
 rw[eM]
 split
 ·have:=xU s (k+1)
  omega
 ·exact zD _
termination_by s.size-k
decreasing_by omega
theorem qa (s:ByteArray) (k:Nat) (h:k≤s.size):eM s k≤s.size:=by
 rw[eM]
 split
 ·exact qa s (k+1) (by omega)
 ·exact h
termination_by s.size-k
decreasing_by omega
theorem tq (s:ByteArray) (k:Nat):k≤kq s k:=by
 rw[kq]
 split
 ·have:=tq s (k+1)
  omega
 ·exact zD _
termination_by s.size-k
decreasing_by omega
theorem yC (s:ByteArray) (k:Nat) (h:k≤s.size):kq s k≤s.size:=by
 rw[kq]
 split
 ·exact yC s (k+1) (by omega)
 ·exact h
termination_by s.size-k
decreasing_by omega
theorem jk (s:ByteArray) (k:Nat):k≤dc s k:=by
 rw[dc]
 split
 ·have:=jk s (k+1)
  omega
 ·exact zD _
termination_by s.size-k
decreasing_by omega
theorem yB {s:ByteArray}{k:Nat} (h:k<s.size) (h2:aF s k=47):k<kq s k:=by
 rw[kq,dif_pos ⟨h,by omega⟩]
 have:=tq s (k+1)
 omega
def nj (c:Nat):Prop:=(9≤c∧c≤13)∨c=32
instance (c : Nat) : Decidable (nj c) := by unfold nj; infer_instance
def bo (s:ByteArray):Nat→Nat→Nat×Bool
 |0,k=>(k,true)
 |f+1,k=>if k<s.size then
   if nj (aF s k) then bo s f (k+1)
   else if k+2≤s.size∧aF s k=47∧aF s (k+1)=47 then bo s f (kq s k)
   else if k+2≤s.size∧aF s k=47∧aF s (k+1)=42 then
    if dc s (k+2)+2≤s.size then bo s f (dc s (k+2)+2) else (k,false)
   else (k,true)
  else (k,true)
theorem lk (s:ByteArray):∀(f f' k:Nat),s.size-k≤f→s.size-k≤f'→bo s f k=bo s f' k:=by
 intro f
 induction f with
 |zero =>
  intro f' k hf Pd
  cases f' with
  |zero=>rfl
  |succ f'=>rw[bo,bo,if_neg (by omega)]
 |succ f ih =>
  intro f' k hf Pd
  cases f' with
  |zero=>rw[bo,bo,if_neg (by omega)]
  |succ f' =>
   rw[bo,bo]
   by_cases h:k<s.size
   ·rw[if_pos h,if_pos h]
    split
    ·exact ih f' (k+1) (by omega) (by omega)
    ·split
     ·rename_i h2
      have:=yB h h2.2.1
      exact ih f' _ (by omega) (by omega)
     ·split
      ·have:=jk s (k+2)
       split
       ·exact ih f' _ (by omega) (by omega)
       ·rfl
      ·rfl
   ·rw[if_neg h,if_neg h]
theorem Ig {s:ByteArray}{k:Nat} (h:k+2≤s.size):(s.extract k (k+2)).data.toList=[s[k],s[k+1]]:=by
 rw[ByteArray.data_extract,Array.toList_extract]
 apply List.ext_getElem?
 intro i
 rw[List.getElem?_take,List.getElem?_drop]
 match i with
 |0=>simp;exact Array.getElem?_eq_getElem (by show k<s.size;omega)
 |1=>simp;exact Array.getElem?_eq_getElem (by show k+1<s.size;omega)
 |i+2=>simp;omega
theorem PZ {s:ByteArray}{k:Nat} (h:k+2≤s.size) (a b:UInt8):((s.extract k (k+2)).data.toList=[a,b])↔(aF s k=a.toNat∧aF s (k+1)=b.toNat):=by
 rw[Ig h]
 unfold aF
 rw[dif_pos (by omega),dif_pos (by omega)]
 simp[UInt8.toNat_inj]
end Go.Proofs.YtghioefalckgoaaGreatDoor
namespace Go.Proofs.YtghioefalckgoaaGreatDoor
open Go.RowKit
attribute [local go_sem ↓] Go.wp_at_zero Go.wp_at_succ
def bT (W:World) (b:Nat) (s:ByteArray) (k:Nat) (v:Value):Prop:=W.heap[b]?=some (.cells #[.string s,.int .i64 (k:Int),v] 106 (0,0))
theorem bT.c0 {W:World}{b:Nat}{s:ByteArray}{k:Nat}{v:Value} (h:bT W b s k v):W.cell? ⟨b,0,none⟩=some (.string s):=by rw[cell_of_row _ _ _ _ _ _ h];rfl
theorem bT.c1 {W:World}{b:Nat}{s:ByteArray}{k:Nat}{v:Value} (h:bT W b s k v):W.cell? ⟨b,1,none⟩=some (.int .i64 (k:Int)):=by rw[cell_of_row _ _ _ _ _ _ h];rfl
theorem bT.c2 {W:World}{b:Nat}{s:ByteArray}{k:Nat}{v:Value} (h:bT W b s k v):W.cell? ⟨b,2,none⟩=some v:=by rw[cell_of_row _ _ _ _ _ _ h];rfl
theorem bT.lt {W:World}{b:Nat}{s:ByteArray}{k:Nat}{v:Value} (h:bT W b s k v):b<W.heap.size:=(zA h).1
theorem kK {W:World}{b:Nat}{s:ByteArray}{k:Nat}{v:Value} (h:bT W b s k v) (hk:k≤s.size) :
  Calls Tryz.prog 167 #[.pointer (some ⟨b,0,none⟩)] W fun e w=>e=.returned (.string (s.extract k s.size))∧∃n,w=W.drewN n:=by
 have c0:=h.c0
 have c1:=h.c1
 have k0:(0:Int)≤(k:Int):=zH _
 have k1:(k:Int)≤(s.size:Int):=by omega
 clear h
 go_enter Tryz.func167,Tryz.ntmps167
 go_wp2_with fail
 go_quiet (fail)
 go_wp2
 go_ret
 exact ⟨rfl,_,rfl⟩
theorem qL (s:ByteArray) (k n:Nat) (h:k+n≤s.size):(s.extract k s.size).extract 0 n=s.extract k (k+n):=by
 apply ByteArray.ext
 rw[ByteArray.data_extract,ByteArray.data_extract,ByteArray.data_extract]
 apply Array.ext'
 rw[Array.toList_extract,Array.toList_extract,Array.toList_extract]
 have hl:s.data.toList.length=s.size:=rfl
 apply List.ext_getElem?
 intro i
 simp only[List.extract_eq_take_drop,List.getElem?_take,List.getElem?_drop]
 by_cases hi:i<n
 ·rw[if_pos (by omega),if_pos (by omega),if_pos (by omega)]
  congr 1
  omega
 ·rw[if_neg (by omega),if_neg (by omega)]
theorem Tryz.D1:(Tryz.prog.info? 154).map (fun i=>(i.zero,i.size,i.bytes))=some (some (.agg #[.int .i64 0,.int .i64 0,.string ⟨#[]⟩]),3,32):=by kernel_rfl
theorem Ge (w:World) (vs:Array Value):(callFunc 167 vs).run Tryz.prog w=.ok (.enter 167 vs) w:=by
 have hn:¬Tryz.f167.name = "runtime.NumGoroutine" := by decide +kernel
 have hb:Tryz.f167.body.isSome=true:=by kernel_rfl
 obtain ⟨c,hc⟩:=zG hb
 simp[callFunc,Tryz.func167,hn,hc]
theorem uF {P:Program}{ops:Array Oper}{o:Oper}{a:Act}{w:World}{K:Act→World→Prop}{Q:Exit→Act→World→Prop}{E:Prop} (x:Tmp) (hx:o.dst=some x) (wg:o.guard=none) (f:FuncId) (FA:∀vs,(callFunc f vs).run P w=.ok (.enter f vs) w) (args:Array Operand) (Gy:Array TypeId)
  (ho:o.op=.call { callee:=.value (.func f),args:=args,argTypes:=Gy }) (vs:Array Value) (hv:args.map a.eval=vs) {R:Ending→World→Prop} (hc:Calls P f vs w R) (hK:∀e w',R e w'→∃v,e=.returned v∧K (a.put (some x) v) w') :
  if Region.wanted o (yielded ops a.tmps)=true then Oper.wp P o a w K Q else E:=by
 have hw:Region.wanted o (yielded ops a.tmps)=true:=by simp[Region.wanted,wg]
 rw[if_pos hw]
 have h2:Oper.wp P o a w K Q=o.upon P a K Q (.ok (.enter f vs) w):=by
  unfold Oper.wp
  simp[execOp,ho,resolve,invoke,←hv,Act.eval,Deferred.ofValue,FA]
 rw[h2,Oper.upon_enter]
 refine hc.mono ?_
 intro e w' hr
 obtain ⟨v,rfl,hk⟩:=hK e w' hr
 rw[hx]
 exact hk
theorem AR (X:World) (cs:Array Value) (t:TypeId) (j:Nat) (u:Value) (hj:cs.toList[j]?=some u):(X.alloc (.cells cs t)).cell? (Addr.add ⟨X.heap.size,0,none⟩ j)=some u:=by
 rw[Go.WideShapes.add_plain,Nat.zero_add,cell_of_row _ _ _ _ _ _ (aE X _),←Array.getElem?_toList]
 exact hj
structure BX (B b:Nat) (w w':World):Prop where
 os:w'.os=w.os
 tape:w'.tape=w.tape
 output:w'.output=w.output
 size:w.heap.size≤w'.heap.size
 block:∀q,q<B→q≠b→w'.heap[q]?=w.heap[q]?
theorem BX.refl (B b:Nat) (w:World):BX B b w w:=⟨rfl,rfl,rfl,zD _,fun _ _ _=>rfl⟩
theorem BX.trans {B b:Nat}{u v w:World} (h:BX B b u v) (k:BX B b v w):BX B b u w:=⟨k.os.trans h.os,k.tape.trans h.tape,k.output.trans h.output,Nat.le_trans h.size k.size,fun i hi hb=>(k.block i hi hb).trans (h.block i hi hb)⟩
theorem BX.of {n B b:Nat}{u w:World} (h:Below n u w) (hn:B≤n):BX B b u w:=⟨h.os,h.tape,h.output,h.size,fun q hq _=>h.block q (by omega)⟩
theorem BX.set {B b:Nat}{u w:World} (h:BX B b u w) (i:Nat) (v:Value):BX B b u (w.setCell ⟨b,i,none⟩ v):=⟨h.os,h.tape,h.output,by rw[World.size_setCell];exact h.size,fun q hq hb=>(heap_setCell_other w ⟨b,i,none⟩ q v (by simpa using hb)).trans (h.block q hq hb)⟩
theorem BX.below {n B b:Nat}{u w:World} (h:BX B b u w) (hb:n≤b) (hB:n≤B):Below n u w:=⟨h.os,h.tape,h.output,h.size,fun q hq=>h.block q (by omega) (by omega)⟩
theorem UE {B:Nat}{W w:World}{e:TypeId}{z m:Nat}{v:Value}{xs:List Value} (h:W.ownsRow B e z v m xs) (hb:Below W.heap.size W w):w.ownsRow B e z v m xs:=by
 obtain ⟨h1,⟨rfl,h0⟩|⟨g,c,cur,rfl,h2,h3,h4⟩⟩:=h
 ·exact ⟨h1,.inl ⟨rfl,h0⟩⟩
 ·exact ⟨h1,.inr ⟨g,c,cur,rfl,h2,(hb.block g (zA h3).1).trans h3,h4⟩⟩
theorem bT.up {W w:World}{b:Nat}{s:ByteArray}{k:Nat}{v:Value} (h:bT W b s k v) (hb:Below W.heap.size W w):bT w b s k v:=(hb.block b h.lt).trans h
theorem IG {W:World}{B b g c n i j:Nat}{e:TypeId}{xs:List Value}{u z:Value} (CT:g≠b) (h:W.ownsRow B e 3 (.slice (some ⟨g,0,none⟩) n c) n xs):((W.setCell ⟨b,i,none⟩ u).setCell ⟨b,j,none⟩ z).ownsRow B e 3 (.slice (some ⟨g,0,none⟩) n c) n xs:=by
 obtain ⟨h1,⟨q,_⟩|⟨g',cap,cur,e1,h3,h4,h5⟩⟩:=h
 ·cases q
 ·refine ⟨h1,.inr ⟨g',cap,cur,e1,h3,?_,h5⟩⟩
  have eg:g'=g:=by injection e1 with e1;injection e1 with e1;injection e1 with e1;exact e1.symm
  subst eg
  exact (heap_setCell_other _ ⟨b,j,none⟩ g' z (by simpa using CT)).trans ((heap_setCell_other W ⟨b,i,none⟩ g' u (by simpa using CT)).trans h4)
theorem gP {W:World}{g:Nat} (i:Nat) {cs:Array Value}{t:TypeId} (h:W.heap[g]?=some (.cells cs t (0,0))):W.frozen? ⟨g,i,none⟩=false:=by
 unfold World.frozen?
 rw[h]
 simp
theorem Iq {W:World}{B b:Nat}{s:ByteArray}{k n m:Nat}{v:Value}{xs:List Value}{kind:Int} (h:bT W b s k v) (hB:b<B) (hBW:B≤W.heap.size) (l8:W.ownsRow B 154 3 v m xs) (hk:k+n≤s.size) (hs:s.size≤65536) (hm:m<16383) :
  Calls Tryz.prog 163 #[.pointer (some ⟨b,0,none⟩),.int .i64 kind,.int .i64 (n:Int),.int .i64 0] W fun e w=>e=.returned (.int .i64 0)∧∃v',bT w b s (k+n) v'∧w.ownsRow B 154 3 v' (m+1) (xs++[.int .i64 kind,.int .i64 (k:Int),.string (s.extract k (k+n))])∧BX B b W w:=by
 obtain ⟨i0,hi,fX,gp,fJ⟩:=info_parts Tryz.D1
 have UZ:v.ownBlock≠some b:=fun e=>by have:=(l8.lt b e).1;omega
 have c0:=h.c0
 have c1:=h.c1
 have c2:=h.c2
 obtain ⟨va,vc,hv⟩:∃a c,v=.slice a m c:=by
  obtain ⟨_,⟨e,h0⟩|⟨g,c,_,e,_⟩⟩:=l8
  ·exact ⟨none,0,by rw[e,h0]⟩
  ·exact ⟨_,_,e⟩
 subst hv
 have D8:=h.lt
 have WN:=ak (fun n=>kK (W:=W.drewN n) h (by omega))
 have WM:=ak l8
 have Hh:=ak h
 have hex:=qL s k n hk
 have iL:(s.extract k s.size).size=s.size-k:=by rw[ByteArray.size_extract];omega
 have q1:((m:Int)==16383)=false:=beq_eq_false_iff_ne.2 (by omega)
 have n0:(0:Int)≤(n:Int):=zH _
 have n1:(n:Int)≤((s.size-k:Nat):Int):=by omega
 have O1:Hid (m+1≤maxLen):=by show _≤_;unfold maxLen;omega
 have O2:Hid ((m+1)*32≤140737488355328):=by show _≤_;omega
 have oV:∀(n:Nat) (ob:Obj),((W.drewN n).alloc ob).heap.size=W.heap.size+1:=fun n ob=>zJ _ _
 have vT:=ak oV
 have aaz:∀(n:Nat) (ob:Obj),((W.drewN n).alloc ob).cell? ⟨b,2,none⟩=some (.slice va m vc):=fun n ob=>bT.c2 (s:=s) (k:=k) ((Below.heap_alloc W ob b D8).trans h)
 clear h l8 oV
 go_enter Tryz.func163,Tryz.ntmps163
 go_wp2_with fail
 go_region_law (first|(refine uF 29 rfl rfl 167 (Ge _) #[.tmp 28] #[148] rfl #[.pointer (some ⟨b,0,none⟩)] (by first|rfl|simp[Act.eval,Act.put]|simp[Act.eval,Act.put,Array.getElem?_setIfInBounds]|(simp[Act.eval];rfl)|(simp[Act.eval];go_simp)) (ab WN 1) ?_;rintro o7 w7 ⟨rfl,n7,rfl⟩;refine ⟨_,rfl,?_⟩)|(refine step_append_lies _ rfl (.tmp 22) (.tmp 33) 71 rfl B 154 i0 (.agg #[.int .i64 0,.int .i64 0,.string ⟨#[]⟩]) 3 32 Tryz.underlying71 hi fX gp fJ rfl (by decide) (.slice va m vc) m xs (by first|rfl|simp[Act.eval,Act.put]|simp[Act.eval,Act.put,Array.getElem?_setIfInBounds]|(simp[Act.eval];rfl)|(simp[Act.eval];go_simp)) ((ab WM).alloc _) ⟨W.heap.size,0,none⟩ 1 1 [.int .i64 kind,.int .i64 (k:Int),.string (s.extract k (k+n))] (by first|rfl|simp[Act.eval,Act.put]|simp[Act.eval,Act.put,Array.getElem?_setIfInBounds]|(simp[Act.eval];rfl)|(simp[Act.eval];go_simp)) rfl (fun j u hj=>AR (W.drewN (1+n7)) #[.int .i64 kind,.int .i64 (k:Int),.string (s.extract k (k+n))] 154 j u hj) (by simp[Value.oneCell']) (by decide) (ab O1) (ab O2) (by rw[ab vT];omega) (W.heap.size+1) (ab vT _ _) ?_;intro g9 c9 w9 A9 np JW aat;have vz:w9.heap[b]?=W.heap[b]?:=(np.block b (by rw[ab vT];omega) (fun e=>UZ e.symm)).trans (Below.heap_alloc W _ b D8);have JD:bT w9 b s k (.slice va m vc):=vz.trans (ab Hh);have c19:=JD.c1;have c29:=JD.c2;have f19:=gP 1 JD;have f29:=gP 2 JD;have gb:g9≠b:=(fun e=>JW.elim (fun q=>UZ (by rw[q,e])) (fun q=>by omega));have Hs9:=ak JD;have gW:=ak A9;have LS:Hid (BX B b W w9):=⟨np.os,np.tape,np.output,(by have:=np.size;rw[ab vT] at this;omega),fun q hq _=>(np.block q (by rw[ab vT];omega) (fun e=>by have:=((ab WM).lt q e.symm).1;omega)).trans (Below.heap_alloc W _ q (by omega))⟩;clear A9 np JW vz JD))
 all_goals go_wp2
 all_goals go_ret
 all_goals refine ⟨rfl,.slice (some ⟨g9,0,none⟩) (m+1) c9,?_,?_,?_⟩
 all_goals first
  |(have q:=heap_setCell_same _ b 1 _ _ (.int .i64 ((k+n:Nat):Int)) (heap_setCell_same _ b 2 _ _ (.slice (some ⟨g9,0,none⟩) (m+1) c9) (ab Hs9));exact q)
  |exact IG gb (ab gW)
  |exact ((ab LS).set 2 _).set 1 _
end Go.Proofs.YtghioefalckgoaaGreatDoor

import Derived.Test.YtghioefalckgoaaGreatDoorQvE
import Derived.Test.YtghioefalckgoaaGreatDoorM32
import Derived.Laws.Rows
import Derived.WalkMore
set_option maxHeartbeats 8000000
set_option maxRecDepth 100000
namespace Go.Proofs.YtghioefalckgoaaGreatDoor
open Go.RowKit
def Ow (w:World) (t k:Nat) (v:Value) (n:Nat) (xs:List Value):Prop:=w.ownsRow 0 t k v n xs∧n≤140737488355328
theorem kj {w:World}{B t k n:Nat}{v:Value}{xs:List Value} (h:w.ownsRow B t k v n xs) (hn:n≤140737488355328):Rl w v n xs:=by
 obtain ⟨h1,⟨rfl,rfl⟩|⟨g,cap,cur,rfl,h2,h3,h4,h5,h6,h7⟩⟩:=h
 ·exact ⟨none,0,rfl,hn,fun h=>absurd h (by omega)⟩
 ·refine ⟨_,cap,rfl,hn,fun _=>⟨g,0,rfl,(zA h3).1,fun j x hx=>?_⟩⟩
  rw[Nat.zero_add,cell_of_row _ _ _ _ _ _ h3,←Array.getElem?_toList]
  rw[←h7,List.getElem?_take] at hx
  split at hx
  ·exact hx
  ·cases hx
theorem Ow.rl {w:World}{t k n:Nat}{v:Value}{xs:List Value} (h:Ow w t k v n xs):Rl w v n xs:=kj h.1 h.2
theorem Ow.kept {w w':World}{t k n:Nat}{v:Value}{xs:List Value}{ob:Option Nat} (h:Ow w t k v n xs) (hg:w.grownBy w' ob) (hb:∀b ∈ gL v,ob≠some b):Ow w' t k v n xs:=by
 refine ⟨h.1.kept hg ?_,h.2⟩
 unfold gL at hb
 cases hv:v.ownBlock with
 |none=>exact .inl rfl
 |some b=>exact .inr (fun e=>hb b (by rw[hv];simp) e.symm)
theorem Ow.sl {w:World}{t k n:Nat}{v:Value}{xs:List Value} (h:Ow w t k v n xs):mq v:=fP h.1
theorem kM {w:World}{B t k n:Nat}{v:Value}{xs:List Value} (h:w.ownsRow B t k v n xs) (hn:n≤140737488355328):Ow w t k v n xs:=⟨kk h (Nat.zero_le _),hn⟩
theorem fU {w:World}{B t k n:Nat}{v:Value}{xs:List Value} (h:w.ownsRow B t k v n xs):lK B w.heap.size (gL v):=by
 unfold gL
 cases hv:v.ownBlock with
 |none=>exact lK.nil
 |some b =>
  have:=h.lt b hv
  exact ⟨by simp,fun c hc=>by
   obtain rfl:c=b:=by simpa using hc
   exact this⟩
inductive tf (w:World):List Value→List En→List Nat→Prop
 |nil:tf w [] [] []
 |cons {e:En} {vv vr vg:Value} {rest:List Value} {l:List En} {B:List Nat} (hv:Ow w 65 2 vv e.aW.length (mR e.aW)) (hr:Ow w 83 2 vr e.res.length (eP e.res)) (hg:Ow w 9 1 vg e.gone.length (bj e.gone)) (ht:tf w rest l B) :
   tf w (.string e.name::vv::vr::vg::rest) (e::l) (gL vv++gL vr++gL vg++B)
theorem tf.kept {w w':World}{cs:List Value}{l:List En}{B:List Nat}{ob:Option Nat} (h:tf w cs l B) (hg:w.grownBy w' ob) (hb:∀b ∈ B,ob≠some b):tf w' cs l B:=by
 induction h with
 |nil=>exact .nil
 |cons h1 h2 h3 _ ih=>exact .cons (h1.kept hg fun b k=>hb b (by simp[k])) (h2.kept hg fun b k=>hb b (by simp[k])) (h3.kept hg fun b k=>hb b (by simp[k])) (ih fun b k=>hb b (by simp[k]))
theorem tf.nU {w:World}{cs:List Value}{l:List En}{B:List Nat} (h:tf w cs l B):qV w cs l:=by
 induction h with
 |nil=>exact .nil
 |cons h1 h2 h3 _ ih=>exact .cons h1.rl h2.rl h3.rl ih
theorem tf.app {w:World}{cs fI:List Value}{l l':List En}{B B':List Nat} (h:tf w cs l B) (k:tf w fI l' B'):tf w (cs++fI) (l++l') (B++B'):=by
 induction h with
 |nil=>exact k
 |cons h1 h2 h3 _ ih =>
  have:=tf.cons h1 h2 h3 ih
  simpa[List.append_assoc] using this
inductive sZ (w:World):List Value→List Ms→List Nat→Prop
 |nil:sZ w [] [] []
 |cons {nm:ByteArray} {fs:List Fd} {os:List ByteArray} {ms:List Ms} {es:List En} {rs:List (Int×Int)} {gs:List ByteArray} {vf vo vm ve vr vg:Value} {cm ce rest:List Value} {l:List Ms} {Bm Be B:List Nat}
   (hf:Ow w 53 6 vf fs.length (cC fs)) (ho:Ow w 9 1 vo os.length (bj os)) (hm:Ow w 57 7 vm ms.length cm) (eI:sZ w cm ms Bm) (he:Ow w 63 4 ve es.length ce) (ep:tf w ce es Be)
   (hr:Ow w 83 2 vr rs.length (eP rs)) (hg:Ow w 9 1 vg gs.length (bj gs)) (ht:sZ w rest l B) :
   sZ w (.string nm::vf::vo::vm::ve::vr::vg::rest) (.mk nm fs os ms es rs gs::l) (gL vf++gL vo++(gL vm++Bm)++(gL ve++Be)++gL vr++gL vg++B)
theorem sZ.kept {w w':World}{cs:List Value}{l:List Ms}{B:List Nat}{ob:Option Nat} (h:sZ w cs l B) (hg:w.grownBy w' ob) (hb:∀b ∈ B,ob≠some b):sZ w' cs l B:=by
 induction h with
 |nil=>exact .nil
 |cons h1 h2 h3 _ h4 h5 h6 h7 _ q8 oU =>
  exact .cons (h1.kept hg fun b k=>hb b (by simp[k])) (h2.kept hg fun b k=>hb b (by simp[k])) (h3.kept hg fun b k=>hb b (by simp[k])) (q8 fun b k=>hb b (by simp[k])) (h4.kept hg fun b k=>hb b (by simp[k])) (h5.kept hg fun b k=>hb b (by simp[k]))
   (h6.kept hg fun b k=>hb b (by simp[k])) (h7.kept hg fun b k=>hb b (by simp[k])) (oU fun b k=>hb b (by simp[k]))
theorem sZ.nU {w:World}{cs:List Value}{l:List Ms}{B:List Nat} (h:sZ w cs l B):nS w cs l:=by
 induction h with
 |nil=>exact .nil
 |cons h1 h2 h3 _ h4 h5 h6 h7 _ q8 oU=>exact .cons h1.rl h2.rl h3.rl q8 h4.rl h5.nU h6.rl h7.rl oU
theorem sZ.app {w:World}{cs fI:List Value}{l l':List Ms}{B B':List Nat} (h:sZ w cs l B) (k:sZ w fI l' B'):sZ w (cs++fI) (l++l') (B++B'):=by
 induction h with
 |nil=>exact k
 |@cons nm _ _ _ _ _ _ _ _ _ _ _ _ _ _ _ _ _ _ _ h1 h2 h3 FG h4 h5 h6 h7 _ _ oU =>
  have:=sZ.cons (nm:=nm) h1 h2 h3 FG h4 h5 h6 h7 oU
  simpa[List.append_assoc] using this
def qW (s:ByteArray):List Value:=[.string s]
def GU (p:ByteArray×Int):List Value:=[.string p.1,.int .i64 p.2]
def MA (p:Int×Int):List Value:=[.int .i64 p.1,.int .i64 p.2]
theorem DE (l:List ByteArray):bj l=(l.map qW).flatten:=by
 unfold bj qW
 induction l with
 |nil=>rfl
 |cons a r ih=>simp[ih]
theorem Ki (l:List (ByteArray×Int)):mR l=(l.map GU).flatten:=by unfold mR GU;rw[List.flatMap_def]
theorem IL (l:List (Int×Int)):eP l=(l.map MA).flatten:=by unfold eP MA;rw[List.flatMap_def]
theorem Ed (l:List Fd):cC l=(l.map Fd.cs).flatten:=by unfold cC;rw[List.flatMap_def]
theorem Bp {α:Type}{l:List α}{T:List (List Value×List Nat)}{f:α→List Value} (hl:T.length=l.length) (h:∀(i:Nat) (p:List Value×List Nat),T[i]?=some p→∃a,l[i]?=some a∧p.1=f a):T.map (·.1)=l.map f:=by
 apply List.ext_getElem?
 intro i
 rw[List.getElem?_map,List.getElem?_map]
 by_cases hi:i<l.length
 ·obtain ⟨p,hp⟩:∃p,T[i]?=some p:=⟨_,List.getElem?_eq_getElem (by omega)⟩
  obtain ⟨a,ha,e⟩:=h i p hp
  rw[hp,ha]
  simp[e]
 ·rw[List.getElem?_eq_none (by omega),List.getElem?_eq_none (by omega)]
  rfl
end Go.Proofs.YtghioefalckgoaaGreatDoor
namespace Go.Proofs.YtghioefalckgoaaGreatDoor
open Go.RowKit
attribute [local go_sem ↓] Go.wp_at_zero Go.wp_at_succ
def written:Array Value→Nat→List Value→Array Value
 |cs,_,[]=>cs
 |cs,o,v::vs=>written (cs.setIfInBounds o v) (o+1) vs
theorem kE {t:TypeId}{g:Nat}:∀(vs:List Value) (o:Nat) (w:World) (cs:Array Value),w.heap[g]?=some (.cells cs t (0,0))→(w.setCells g o vs).heap[g]?=some (.cells (written cs o vs) t (0,0))∧(∀b,b≠g→(w.setCells g o vs).heap[b]?=w.heap[b]?)
 |[],_,_,_,h=>⟨h,fun _ _=>rfl⟩
 |v::vs,o,w,cs,h=>by
  obtain ⟨h1,h2⟩:=kE vs (o+1) (w.setCell ⟨g,o,none⟩ v) (cs.setIfInBounds o v) (heap_setCell_same w g o cs t v h)
  exact ⟨h1,fun b hb=>(h2 b hb).trans (heap_setCell_other w _ b v hb)⟩
theorem jJ {n g:Nat}{A:World} (hg:n≤g):∀(vs:List Value) (o:Nat) (w:World),Below n A w→Below n A (w.setCells g o vs)
 |[],_,_,h=>h
 |v::vs,o,_,h=>jJ hg vs (o+1) _ (h.setCell (p:=⟨g,o,none⟩) hg v)
theorem mW {g:Nat}:∀(vs:List Value) (o:Nat) (w:World),(w.setCells g o vs).heap.size=w.heap.size
 |[],_,_=>rfl
 |_::vs,o,w=>(mW vs (o+1) _).trans (World.size_setCell w _ _)
def bx:List Value:=[.func (.func 162) #[] #[],.func (.func 164) #[] #[],.func (.func 165) #[] #[],.func (.func 168) #[] #[],.func (.func 170) #[] #[],.func (.func 172) #[] #[],.func (.func 173) #[] #[]]
theorem Tryz.pY:(Tryz.prog.info? 151).map (·.size)=some bx.toArray.size:=by kernel_rfl
theorem DF:bx.toArray.all (·.oneCell')=true:=by decide +kernel
def B9:Nat→Nat
 |0=>162|1=>164|2=>165|3=>168|4=>170|5=>172|_=>173
theorem ER:∀c,c<7→bx[c]?=some (.func (.func (B9 c)) #[] #[])
 |0,_=>rfl|1,_=>rfl|2,_=>rfl|3,_=>rfl|4,_=>rfl|5,_=>rfl|6,_=>rfl
 |_+7,h=>by omega
theorem Ik (W:World):(W.alloc (.cells #[.nilFunc,.nilFunc,.nilFunc,.nilFunc,.nilFunc,.nilFunc,.nilFunc] 151)).there W.heap.size 0 bx.toArray.size:=by
 intro j hj
 have hb:=heap_alloc_new W (.cells #[.nilFunc,.nilFunc,.nilFunc,.nilFunc,.nilFunc,.nilFunc,.nilFunc] 151)
 refine ⟨?_,frozen_of_row _ _ _ _ _ hb⟩
 rw[Nat.zero_add,cell_of_row _ _ _ _ _ _ hb]
 have we:j<7:=hj
 simp
 omega
theorem EU (W:World):Calls Tryz.prog 112 #[] W fun e W'=>e=.returned (.agg bx.toArray)∧Below W.heap.size W W':=by
 have U5:=Ik W
 go_enter Tryz.func112,Tryz.ntmps112
 go_wp2_with (refine wpList_store_mid rfl 151 (.tmp 0) (.tmp 1) rfl W.heap.size 0 bx.toArray rfl rfl U5 Tryz.pY DF ?_)
 obtain ⟨bM,br⟩:=kE (t:=151) (g:=W.heap.size) bx 0 (W.alloc (.cells #[.nilFunc,.nilFunc,.nilFunc,.nilFunc,.nilFunc,.nilFunc,.nilFunc] 151)) #[.nilFunc,.nilFunc,.nilFunc,.nilFunc,.nilFunc,.nilFunc,.nilFunc] (heap_alloc_new W _)
 have cx:written #[.nilFunc,.nilFunc,.nilFunc,.nilFunc,.nilFunc,.nilFunc,.nilFunc] 0 bx=bx.toArray:=by rfl
 rw[cx] at bM
 have hB:Below W.heap.size W ((W.alloc (.cells #[.nilFunc,.nilFunc,.nilFunc,.nilFunc,.nilFunc,.nilFunc,.nilFunc] 151)).setCells W.heap.size 0 bx):=jJ (zD _) _ _ _ ((zE _ W).alloc (zD _) _)
 refine bodyPost_ret (v:=.agg bx.toArray) (results_cell_row rfl _ _ W.heap.size 151 bx.toArray (0,0) _ rfl bM Tryz.underlying151 rfl Tryz.pY) rfl ⟨rfl,hB⟩
def On (W:World) (tb:Nat):Prop:=W.heap[tb]?=some (.cells bx.toArray 151 (0,0))
theorem On.cell {W:World}{tb:Nat} (h:On W tb) (c:Nat) (hc:c<7):W.cell? ⟨tb,c,none⟩=some (.func (.func (B9 c)) #[] #[]):=by
 rw[cell_of_row _ _ _ _ _ _ h,←ER c hc]
 simp
theorem JX (W:World):On ((W.alloc (.cells #[.nilFunc,.nilFunc,.nilFunc,.nilFunc,.nilFunc,.nilFunc,.nilFunc] 151)).setCells W.heap.size 0 bx) W.heap.size:=by
 have:=(kE (t:=151) (g:=W.heap.size) bx 0 _ _ (heap_alloc_new W (.cells #[.nilFunc,.nilFunc,.nilFunc,.nilFunc,.nilFunc,.nilFunc,.nilFunc] 151))).1
 rw[show written #[.nilFunc,.nilFunc,.nilFunc,.nilFunc,.nilFunc,.nilFunc,.nilFunc] 0 bx=bx.toArray from rfl] at this
 exact this
structure Tab (A:Array Value):Prop where
 eq:A=bx.toArray
 info:(Tryz.prog.info? 151).map (·.size)=some A.size
 one:A.all (·.oneCell')=true
theorem Mj:Tab bx.toArray:=⟨rfl,Tryz.pY,DF⟩
theorem RY (c:Nat):cls c<7:=by
 unfold cls
 repeat' split
 all_goals decide
theorem eL {f:FuncId}{F:Func} (h:Tryz.prog.funcs[f]?=some F) (hn:¬F.name = "runtime.NumGoroutine") (hb:F.body.isSome=true) (w:World) (vs:Array Value):(callFunc f vs).run Tryz.prog w=.ok (.enter f vs) w:=by
 obtain ⟨c,hc⟩:=zG hb
 simp[callFunc,h,hn,hc]
theorem Gd (w:World) (vs:Array Value):∀c,c<7→(callFunc (B9 c) vs).run Tryz.prog w=.ok (.enter (B9 c) vs) w
 |0,_=>by exact eL Tryz.func162 (by decide +kernel) (by kernel_rfl) w vs
 |1,_=>by exact eL Tryz.func164 (by decide +kernel) (by kernel_rfl) w vs
 |2,_=>by exact eL Tryz.func165 (by decide +kernel) (by kernel_rfl) w vs
 |3,_=>by exact eL Tryz.func168 (by decide +kernel) (by kernel_rfl) w vs
 |4,_=>by exact eL Tryz.func170 (by decide +kernel) (by kernel_rfl) w vs
 |5,_=>by exact eL Tryz.func172 (by decide +kernel) (by kernel_rfl) w vs
 |6,_=>by exact eL Tryz.func173 (by decide +kernel) (by kernel_rfl) w vs
 |_+7,h=>by omega
theorem Gf (w:World) (vs:Array Value):(callFunc 113 vs).run Tryz.prog w=.ok (.enter 113 vs) w:=by exact eL Tryz.func113 (by decide +kernel) (by kernel_rfl) w vs
theorem EW {W:World}{B b:Nat}{s:ByteArray}{k n:Nat}{v:Value}{xs:List Value} (hE:ji W) (hM:gj W) (I:ej W B b s k n v xs) :
  Calls Tryz.prog (B9 (cls (aF s k))) #[.pointer (some ⟨b,0,none⟩)] W (fF B b s k n xs W):=by
 have hm:=I.more
 have kS:fG s k=fG s k:=rfl
 conv at kS=>rhs;unfold fG
 rcases F8 (aF s k) with ⟨e,h1⟩|⟨n1,⟨e,h2⟩|⟨n2,⟨e,h3⟩|⟨n3,⟨e,h4⟩|⟨n4,⟨e,h5⟩|⟨n5,⟨e,h6⟩|⟨e,n6⟩⟩⟩⟩⟩⟩
 ·rw[e]
  exact Ar I h1
 ·rw[e]
  rw[if_pos h2] at kS
  exact yl I (jx hm n1 (fun q=>by rw[q] at h2;exact absurd h2 (by decide))) kS
 ·rw[e]
  rw[if_neg n2,if_pos h3] at kS
  exact Aq hE I (jx hm n1 (fun q=>by rw[q] at h3;exact absurd h3 (by decide))) kS
 ·rw[e]
  rw[if_neg n2,if_neg n3,if_pos h4] at kS
  exact Ap hE I (jx hm n1 (fun q=>by omega)) h4 kS
 ·rw[e]
  rw[if_neg n2,if_neg n3,if_neg n4,if_pos h5] at kS
  exact Cd I (jx hm n1 (fun q=>by rw[q] at h5;exact absurd h5 (by decide))) kS
 ·rw[e]
  rw[if_neg n2,if_neg n3,if_neg n4,if_neg n5] at kS
  exact wJ hM I h6 (by rw[kS])
 ·rw[e]
  rw[if_neg n2,if_neg n3,if_neg n4,if_neg n5] at kS
  exact Ce I (jx hm n1 n6) (by rw[kS])
theorem Ao {P:Program}{ops:Array Oper}{o:Oper}{a:Act}{w:World}{K:Act→World→Prop}{Q:Exit→Act→World→Prop}{E:Prop} (x:Tmp) (hx:o.dst=some x) (wg:o.guard=none) (f:FuncId) (FA:∀vs,(callFunc f vs).run P w=.ok (.enter f vs) w) (fo:Operand) (args:Array Operand) (Gy:Array TypeId)
  (ho:o.op=.call { callee:=.value fo,args:=args,argTypes:=Gy }) (db:a.eval fo=.func (.func f) #[] #[]) (vs:Array Value) (hv:args.map a.eval=vs) {R:Ending→World→Prop} (hc:Calls P f vs w R) (hK:∀e w',R e w'→∃v,e=.returned v∧K (a.put (some x) v) w') :
  if Region.wanted o (yielded ops a.tmps)=true then Oper.wp P o a w K Q else E:=by
 have hw:Region.wanted o (yielded ops a.tmps)=true:=by simp[Region.wanted,wg]
 rw[if_pos hw]
 have h2:Oper.wp P o a w K Q=o.upon P a K Q (.ok (.enter f vs) w):=by
  unfold Oper.wp
  simp[execOp,ho,resolve,invoke,←hv,db,Deferred.ofValue,FA]
 rw[h2,Oper.upon_enter]
 refine hc.mono ?_
 intro e w' hr
 obtain ⟨v,rfl,hk⟩:=hK e w' hr
 rw[hx]
 exact hk
theorem DO {B B':Nat}{W:World}{e:TypeId}{z m:Nat}{v:Value}{xs:List Value} (h:W.ownsRow B e z v m xs) (hb:B'≤B):W.ownsRow B' e z v m xs:=by
 obtain ⟨h1,⟨rfl,h0⟩|⟨g,c,cur,rfl,h2,h3⟩⟩:=h
 ·exact ⟨h1,.inl ⟨rfl,h0⟩⟩
 ·exact ⟨h1,.inr ⟨g,c,cur,rfl,Nat.le_trans hb h2,h3⟩⟩
def aaM (s:ByteArray) (b:Nat) (n0:Nat) (w:World) (e:Ending):List Tok ⊕ (Nat×Nat)→Prop
 |.inl ts=>e=.returned (.int .i64 0)∧∃(k:Nat) (v':Value),bT w b s k v'∧w.ownsRow n0 154 3 v' ts.length (eD ts)
 |.inr (k,c)=>c≠0∧e=.returned (.int .i64 (c:Int))∧∃v',bT w b s k v'
def Og (s:ByteArray) (b:Nat) (W:World) (e:Ending) (w:World):Prop:=BX W.heap.size b W w∧aaM s b W.heap.size w e (tk s 0 0)
theorem Og.ret {s:ByteArray}{b:Nat}{W w:World}{e:Ending} (h:Og s b W e w):∃c:Int,e=.returned (.int .i64 c):=by
 have h2:=h.2
 cases hr:tk s 0 0 with
 |inl ts=>rw[hr] at h2;exact ⟨0,h2.1⟩
 |inr p=>obtain ⟨k,c⟩:=p;rw[hr] at h2;exact ⟨(c:Int),h2.2.1⟩
theorem BX.mono {B B' b:Nat}{u w:World} (h:BX B b u w) (hB:B'≤B):BX B' b u w:=⟨h.os,h.tape,h.output,h.size,fun q hq hb=>h.block q (by omega) hb⟩
theorem C3 (p q:List Tok) (x:List Tok ⊕ (Nat×Nat)):me p (me q x)=me (p++q) x:=by
 cases x with
 |inl l=>simp[me]
 |inr e=>rfl
theorem AF {W:World}{B n:Nat}{e:TypeId}{z:Nat}{v:Value}{xs:List Value} (h:W.ownsRow B e z v n xs):∃a c,v=.slice a n c:=by
 obtain ⟨_,⟨e,h0⟩|⟨g,c,_,e,_⟩⟩:=h
 ·exact ⟨none,0,by rw[e,h0]⟩
 ·exact ⟨_,_,e⟩
theorem EZ {W:World}{B b g c n i:Nat}{e:TypeId}{xs:List Value}{u:Value} (CT:g≠b) (h:W.ownsRow B e 3 (.slice (some ⟨g,0,none⟩) n c) n xs):(W.setCell ⟨b,i,none⟩ u).ownsRow B e 3 (.slice (some ⟨g,0,none⟩) n c) n xs:=by
 obtain ⟨h1,⟨q,_⟩|⟨g',cap,cur,e1,h3,h4,h5⟩⟩:=h
 ·cases q
 ·refine ⟨h1,.inr ⟨g',cap,cur,e1,h3,?_,h5⟩⟩
  have eg:g'=g:=by injection e1 with e1;injection e1 with e1;injection e1 with e1;exact e1.symm
  subst eg
  exact (heap_setCell_other W ⟨b,i,none⟩ g' u (by simpa using CT)).trans h4
theorem Mz {W0 W:World}{b:Nat}{s:ByteArray} (hE:ji W0) (hM:gj W0) (h0:Below W0.heap.size W0 W) (hb:W0.heap.size≤b) (h:bT W b s 0 (.slice none 0 0)) (hs:s.size≤65536) :
  Calls Tryz.prog 64 #[.pointer (some ⟨b,0,none⟩)] W (Og s b W):=by
 obtain ⟨i0,hi,fX,gp,fJ⟩:=info_parts Tryz.D1
 have D8:=h.lt
 have Hh:=ak h
 have HE:=ak hE
 have HM:=ak hM
 have H0:=ak h0
 clear h hE hM h0
 go_enter Tryz.func64,Tryz.ntmps64
 go_wp2
 go_step3
 go_wp2_with fail
 refine (EU W).mono ?_
 rintro e w1 ⟨rfl,aY⟩
 have hX:=aY.size
 have HX0:Hid (Below W.heap.size W ((w1.alloc (.cells #[.nilFunc,.nilFunc,.nilFunc,.nilFunc,.nilFunc,.nilFunc,.nilFunc] 151)).setCells w1.heap.size 0 bx)):=jJ hX _ _ _ (aY.alloc hX _)
 have wB:=ak (JX w1)
 have M9:((w1.alloc (.cells #[.nilFunc,.nilFunc,.nilFunc,.nilFunc,.nilFunc,.nilFunc,.nilFunc] 151)).setCells w1.heap.size 0 bx).heap.size=w1.heap.size+1:=by rw[mW,zJ]
 have SB:=ak M9
 have U5:=Ik w1
 obtain ⟨A,hA,Ro⟩:∃A,bx.toArray=A∧Tab A:=⟨_,rfl,Mj⟩
 have hAl:A.toList=bx:=by rw[←hA]
 rw[hA] at U5 ⊢
 rw[←hAl] at HX0 wB SB
 have hif:=Ro.info
 have kS:=Ro.one
 clear aY hA hAl M9 Ro
 go_wp2_with (refine wpList_store_mid rfl 151 (.tmp 3) (.tmp 4) rfl w1.heap.size 0 A rfl rfl U5 hif kS ?_)
 generalize (w1.alloc (.cells #[.nilFunc,.nilFunc,.nilFunc,.nilFunc,.nilFunc,.nilFunc,.nilFunc] 151)).setCells w1.heap.size 0 A.toList=X at *
 obtain ⟨tb,OZ⟩:∃tb,w1.heap.size=tb:=⟨_,rfl⟩
 rw[OZ] at wB SB hX ⊢
 clear U5 hif kS OZ
 have hBX:X.heap.size=tb+1:=ab SB
 have EB:Hid (bT X b s 0 (.slice none 0 0)):=(ab Hh).up (ab HX0)
 have TX:Hid (X.ownsRow X.heap.size 154 3 (.slice none 0 0) 0 (eD [])):=⟨rfl,.inl ⟨rfl,rfl⟩⟩
 have GN:∀w,BX X.heap.size b X w→BX W.heap.size b W w:=fun w hw=>(BX.of (ab HX0) (zD _)).trans (hw.mono (by omega))
 have Yy:=ak GN
 have hup:∀w,BX X.heap.size b X w→Below W0.heap.size W0 w:=fun w hw=>(ab H0).trans ((GN w hw).below hb (by omega))
 have Hup:=ak hup
 clear GN hup
 go_wp2
 go_step3
 go_wp2
 simp only[Act.put]
 go_loopg [2] s.size (fun gk v2 wr=>∃(k n:Nat) (pre:List Tok) (va:Option Addr) (vc:Nat),v2=.int .i64 0∧gk=s.size-k∧k≤s.size∧n=pre.length∧n≤16383∧Hid (bT wr b s k (.slice va n vc))∧Hid (wr.ownsRow X.heap.size 154 3 (.slice va n vc) n (eD pre))∧Hid (tk s 0 0=me pre (tk s k n))∧Hid (BX X.heap.size b X wr))
 case atStart=>exact ⟨0,0,[],none,0,rfl,rfl,by omega,rfl,by omega,EB,TX,(nP _).symm,BX.refl _ _ _⟩
 case round =>
  obtain ⟨k,n,pre,va,vc,rfl,bd,hk,hn,Fu,HS,HR,Hq,HB⟩:=hrel
  have bH:=ak bd
  have Hn:=ak hn
  clear bd hn EB TX
  have c0:=(ab HS).c0
  have c1:=(ab HS).c1
  have LB:b<wr.heap.size:=(ab HS).lt
  have VO:On wr tb:=((ab HB).block tb (by omega) (by omega)).trans (ab wB)
  have HTw:=ak VO
  clear VO
  have hXw:X.heap.size≤wr.heap.size:=(ab HB).size
  by_cases aU:k<s.size
  ·have qk:((k:Int)==(s.size:Int))=false:=beq_eq_false_iff_ne.2 (by omega)
   obtain ⟨x,hx⟩:∃x:Nat,s[k].toNat=x:=⟨_,rfl⟩
   have iH:aF s k=x:=(fE s k aU).trans hx
   have dr:x<256:=by rw[←iH];exact fD s k
   have k0:(0:Int)≤(k:Int):=zH _
   have k1:(k:Int)<(s.size:Int):=by omega
   have La:Hid (∀m,Calls Tryz.prog (B9 (cls (aF s k))) #[.pointer (some ⟨b,0,none⟩)] (wr.drewN m) (fF X.heap.size b s k n (eD pre) (wr.drewN m))):=fun m=>EW ((ab HE).up (below_drewN (ab Hup wr (ab HB)) m)) ((ab HM).up (below_drewN (ab Hup wr (ab HB)) m) (ab HM).1) ⟨ab HS,by omega,hXw,ab HR,aU,hs,Fu⟩
   have XY:∀m,Calls Tryz.prog 113 #[.int .u8 (x:Int)] (wr.drewN m) fun e w=>e=.returned (.int .i64 (cls x:Int))∧w=wr.drewN m:=fun m=>gV _ x dr
   have zW:=ak XY
   have X4:=RY x
   rw[iH] at La
   obtain ⟨c,hc⟩:∃c,cls x=c:=⟨_,rfl⟩
   rw[hc] at La zW X4
   have D7:=(ab HTw).cell c X4
   have TL:(0:Int)≤(c:Int):=zH _
   have TK:(c:Int)<7:=by omega
   have Hc7:=ak X4
   clear XY iH hc X4
   go_wp2
   go_quiet (fail)
   go_wp2_with fail
   go_region_law (first|(refine uF 38 rfl rfl 113 (Gf _) #[.tmp 37] #[5] rfl #[.int .u8 (x:Int)] (by first|rfl|simp[Act.eval]) (ab zW _) ?_;rintro o7 w7 ⟨rfl,rfl⟩;refine ⟨_,rfl,?_⟩)|(refine Ao 42 rfl rfl (B9 c) (fun vs=>Gd _ vs c (ab Hc7)) (.tmp 40) #[.tmp 41] #[148] rfl (by first|rfl|simp[Act.eval]) #[.pointer (some ⟨b,0,none⟩)] (by first|rfl|simp[Act.eval]) (ab La _) ?_;intro o9 w9 Vc;obtain ⟨z9,rfl⟩:=Vc.ret;refine ⟨_,rfl,?_⟩;have Hq9:=ak Vc;clear Vc))
   all_goals (
    rcases ab Hq9 with ⟨Ns,⟨e9,k',ts,v',s1,s2,s3,s4,s5,s6⟩|⟨c',v',n9,e9,s1,s2⟩⟩
    ·obtain rfl:z9=0:=by injection e9 with e9;injection e9
     obtain ⟨a',c',rfl⟩:=AF s2
     have LS:Hid (BX X.heap.size b X w9):=(ab HB).trans ((BX.of (below_drewN (zE wr.heap.size wr) _) hXw).trans Ns)
     have HS9:=ak s1
     have HR9:Hid (w9.ownsRow X.heap.size 154 3 (.slice a' (n+ts.length) c') (n+ts.length) (eD (pre++ts))):=by rw[uB];exact s2
     have Hq0:Hid (tk s 0 0=me (pre++ts) (tk s k' (n+ts.length))):=by show _=_;rw[ab Hq,s6,C3]
     clear e9 s1 s2 s6 Ns Hq9 HB HS HR Hq
     go_wp2
     go_roundg (s.size-k')
     case measure=>have:=ab bH;omega
     case rel=>exact ⟨k',n+ts.length,pre++ts,a',c',rfl,rfl,s4,by have:=ab Hn;rw[zK,this],s5,HS9,HR9,Hq0,LS⟩
    ·obtain rfl:z9=(c':Int):=by injection e9 with e9;injection e9
     have LS:Hid (BX X.heap.size b X w9):=(ab HB).trans ((BX.of (below_drewN (zE wr.heap.size wr) _) hXw).trans Ns)
     have Dl:Hid (Og s b W (.returned (.int .i64 (c':Int))) w9):=⟨ab Yy _ (ab LS),by rw[ab Hq,s2];exact ⟨n9,rfl,v',s1⟩⟩
     have q9:((c':Int) != 0)=true:=by simp;omega
     clear e9 s1 s2 Ns Hq9 HB HS HR Hq LS
     go_wp2
     try rw[Exit.noGoto_ret]
     go_ret
     exact ab Dl)
  ·obtain rfl:k=s.size:=by omega
   have qk:((s.size:Int)==(s.size:Int))=true:=by simp
   have aaz:∀(n':Nat) (ob:Obj),((wr.drewN n').alloc ob).cell? ⟨b,2,none⟩=some (.slice va n vc):=fun n' ob=>bT.c2 (s:=s) (k:=s.size) ((Below.heap_alloc wr ob b LB).trans (ab HS))
   have c2:=(ab HS).c2
   have oV:∀(n':Nat) (ob:Obj),((wr.drewN n').alloc ob).heap.size=wr.heap.size+1:=fun n' ob=>zJ _ _
   have vT:=ak oV
   have O1:Hid (n+1≤maxLen):=by show _≤_;unfold maxLen;omega
   have O2:Hid ((n+1)*32≤140737488355328):=by show _≤_;omega
   have UZ:(Value.slice va n vc).ownBlock≠some b:=fun e=>by have:=((ab HR).lt b e).1;omega
   have Htk:Hid (tk s 0 0=.inl (pre++[⟨5,s.size,⟨#[]⟩⟩])):=by show _=_;rw[ab Hq,P8];rfl
   clear oV Hq HTw aU
   go_wp2
   go_quiet (fail)
   go_wp2_with fail
   go_region_law (first|(refine step_append_lies _ rfl (.tmp 19) (.tmp 25) 71 rfl X.heap.size 154 i0 (.agg #[.int .i64 0,.int .i64 0,.string ⟨#[]⟩]) 3 32 Tryz.underlying71 hi fX gp fJ rfl (by decide) (.slice va n vc) n (eD pre) (by first|rfl|simp[Act.eval]) ((ab HR).alloc _) ⟨wr.heap.size,0,none⟩ 1 1 [.int .i64 5,.int .i64 (s.size:Int),.string ⟨#[]⟩] (by first|rfl|simp[Act.eval]) rfl (fun j u hj=>AR _ #[.int .i64 5,.int .i64 (s.size:Int),.string ⟨#[]⟩] 154 j u hj) (by simp[Value.oneCell']) (by decide) (ab O1) (ab O2) (by rw[ab vT];omega) (wr.heap.size+1) (ab vT _ _) ?_;intro g9 c9 w9 A9 np JW aat;have vz:w9.heap[b]?=wr.heap[b]?:=(np.block b (by rw[ab vT];omega) (fun e=>UZ e.symm)).trans (Below.heap_alloc wr _ b LB);have JD:bT w9 b s s.size (.slice va n vc):=vz.trans (ab HS);have c29:=JD.c2;have f29:=gP 2 JD;have gb:g9≠b:=(fun e=>JW.elim (fun q=>UZ (by rw[q,e])) (fun q=>by omega));have Hs9:=ak JD;have gW:=ak A9;have LS:Hid (BX X.heap.size b X w9):=(ab HB).trans ⟨np.os,np.tape,np.output,(by have:=np.size;rw[ab vT] at this;omega),fun q hq _=>(np.block q (by rw[ab vT];omega) (fun e=>by have:=((ab HR).lt q e.symm).1;omega)).trans (Below.heap_alloc wr _ q (by omega))⟩;clear A9 np JW vz JD))
   all_goals go_wp2
   all_goals try rw[Exit.noGoto_ret]
   all_goals go_ret
   all_goals refine ⟨ab Yy _ ((ab LS).set 2 _),?_⟩
   all_goals rw[ab Htk]
   all_goals refine ⟨rfl,s.size,.slice (some ⟨g9,0,none⟩) (n+1) c9,heap_setCell_same _ b 2 _ _ _ (ab Hs9),?_⟩
   all_goals rw[uB,zK,←ab Hn]
   all_goals exact DO (EZ gb (ab gW)) (by omega)
end Go.Proofs.YtghioefalckgoaaGreatDoor

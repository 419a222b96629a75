import Derived.Test.YtghioefalckgoaaGreatDoorM00
import Derived.Laws.CopyRow
import Derived.Laws.Cells
namespace Go.Proofs.YtghioefalckgoaaGreatDoor
open Go.RowKit
section
variable {P : Program} {ops : Array Oper} {Q : Exit → Act → World → Prop} {md : Region.Mode} {T : World → Prop} {z : Nat}
def lf (P:Program) (md:Region.Mode) (ops:Array Oper) (Q:Exit→Act→World→Prop) (T:World→Prop) (z:Nat):Nat→Array Bool→Act→World→Prop
 |0,d,a,w=>Region.ready md ops d=[]∧Q .normal a w
 |n+1,d,a,w=>(Region.ready md ops d=[]→Q .normal a w)∧∀i ∈ Region.ready md ops d,wpOp P ops Q i (fun a' w'=>(i≠z→d.getD z true=false→T w')∧lf P md ops Q T z n (d.setIfInBounds i true) a' w') a w
theorem jq:∀(n:Nat) (d:Array Bool) (a:Act) (w:World),lf P md ops Q T z n d a w→wpAny P md ops Q n d a w
 |0,_,_,_,h=>h
 |n+1,_,_,_,h=>⟨h.1,fun i hi=>wpOp_mono (fun a' w' h'=>jq n _ a' w' h'.2) (h.2 i hi)⟩
theorem e7:∀(n:Nat) (d:Array Bool) (a:Act) (w:World),wpAny P md ops Q n d a w→ba P md ops Q (fun _=>True) z n d a w
 |0,_,_,_,h=>h
 |n+1,_,_,_,h=>⟨h.1,fun i hi=>wpOp_mono (fun a' w' h'=>⟨fun _=>trivial,e7 n _ a' w' h'⟩) (h.2 i hi)⟩
theorem EG {i:Nat}{oi:Oper}{v:Value} (hi:ops[i]?=some oi) (hw:∀oz,ops[z]?=some oz→∃e ∈ oz.after,Region.binds md e=true∧e.on=i) (hs:∀(j:Nat) (o:Oper) cs b,ops[j]?=some o→o.op≠.select cs b)
  (hQ:∀c a w,Q (.panic c) (a.put oi.dst v) w→Q (.panic c) a w):∀(n:Nat) (d:Array Bool) (a:Act) (w:World),d.getD z true=false→i≠z →
   (∀j oj,ops[j]?=some oj→j≠i→d.getD j true=false→(∀e ∈ oj.after,Region.binds md e=true→e.on≠i)→oi.apart ops oj=true)→i ∈ Region.ready md ops d→YieldsIf P ops T oi v a→T w →
   lf P md ops Q T z n (d.setIfInBounds i true) (a.put oi.dst v) w→lf P md ops Q T z (n+1) d a w:=by
 intro n
 induction n with
 |zero =>
  intro d a w _ _ _ hr hy hT H
  refine ⟨fun h=>(by rw[h] at hr;cases hr),fun j hj=>?_⟩
  by_cases e:j=i
  ·rw[e];exact hy.wpOp hi hT ⟨fun _ _=>hT,H⟩
  ·have q:=ready_mono hj e
   rw[H.1] at q
   cases q
 |succ n ih =>
  intro d a w GO Rf hf hr hy hT H
  refine ⟨fun h=>(by rw[h] at hr;cases hr),fun j hj=>?_⟩
  by_cases e:j=i
  ·rw[e];exact hy.wpOp hi hT ⟨fun _ _=>hT,H⟩
  ·obtain ⟨hd,oj,Nf,nO⟩:=mem_ready.1 hj
   have FB:=(mem_ready.1 hr).1
   have xM:∀x ∈ oj.after,Region.binds md x=true→x.on≠i:=fun x hx hb M5=>by
    have q:=nO x hx hb
    rw[M5] at q
    rcases Nat.lt_or_ge i d.size with q1|q1
    ·simp[q1] at FB q
     rw[FB] at q
     cases q
    ·simp[Array.getElem?_eq_none q1] at q
   have XT:j≠z:=fun q=>by
    subst q
    obtain ⟨x,hx,hb,M5⟩:=hw _ Nf
    exact xM x hx hb M5
   have h2:=wpOp_putIf Nf (hf j oj Nf e hd xM) (fun cs b=>hs i oi cs b hi) (fun cs b=>hs j oj cs b Nf) hQ hy (H.2 j (ready_mono hj e))
   have hdi:(d.setIfInBounds i true).getD z true=false:=by rw[getD_set_ne true Rf];exact GO
   refine wpOp_mono (fun a' w' h3=>⟨fun q1 q2=>h3.2.1 q1 hdi,ih (d.setIfInBounds j true) a' w' (by rw[getD_set_ne true XT];exact GO) Rf (fun k ok hk hki Jz hn=>hf k ok hk hki ?_ hn) (ready_mono hr (Ne.symm e)) h3.1 (h3.2.1 XT hdi) ?_⟩) h2
   ·by_cases Rc:j=k
    ·rw[←Rc];exact hd
    ·rwa [getD_set_ne true Rc] at Jz
   ·rw[Array.setIfInBounds_comm _ _ e]
    exact h3.2.2
theorem cV (i:Nat) {oi:Oper} (v:Value) (x:Tmp) {n:Nat}{d:Array Bool}{a:Act}{w:World} (hi:ops[i]?=some oi) (hx:oi.dst=some x) (hy:YieldsIf P ops T oi v a) (hT:T w) (h:lf P md ops Q T z n (d.setIfInBounds i true) (a.put (some x) v) w) (hw:waits md ops z i=true:=by kernel_rfl) (hs:Region.noSelect ops=true:=by kernel_rfl) (hf:Region.free md ops d i=true:=by kernel_rfl) (hr:(Region.ready md ops d).contains i=true:=by kernel_rfl)
  (Rf:i≠z:=by decide) (GO:d.getD z true=false:=by kernel_rfl)
  (hQ:∀c a w,Q (.panic c) (a.put (some x) v) w→Q (.panic c) a w:=by exact fun _ _ _ h=>h):lf P md ops Q T z (n+1) d a w:=by
 rw[←hx] at hQ h
 refine EG hi (fun oz hz=>?_) (Region.noSelect_spec hs) hQ n d a w GO Rf (Region.free_spec hi hf) (by simpa using hr) hy hT h
 unfold waits at hw
 rw[hz] at hw
 obtain ⟨e,he,hb⟩:=Array.any_eq_true'.1 hw
 simp only[Bool.and_eq_true,beq_iff_eq] at hb
 exact ⟨e,he,hb.1,hb.2⟩
theorem ld (i:Nat) {o:Oper}{n:Nat}{d:Array Bool}{a:Act}{w:World} (hr:Region.ready md ops d=[i]) (ho:ops[i]?=some o)
  (h:∀K:Act→World→Prop,(∀a' w',((i≠z→d.getD z true=false→T w')∧lf P md ops Q T z n (d.setIfInBounds i true) a' w')→K a' w')→if Region.wanted o (yielded ops a.tmps)=true then Oper.wp P o a w K Q else K (a.put o.dst undef) w):lf P md ops Q T z (n+1) d a w:=by
 refine ⟨fun h0=>(by rw[h0] at hr;cases hr),fun j hj=>?_⟩
 rw[hr] at hj
 obtain rfl:j=i:=by simpa using hj
 exact wpOp_step ho h
theorem jr:∀(n:Nat) (d:Array Bool) (a:Act) (w:World),d.getD z true=true→wpAny P md ops Q n d a w→lf P md ops Q T z n d a w
 |0,_,_,_,_,h=>h
 |n+1,d,_,_,hz,h=>⟨h.1,fun i hi=>wpOp_mono (fun a' w' h'=>⟨fun _ hf=>(by rw[hz] at hf;cases hf),jr n _ a' w' (by
   by_cases e:i=z
   ·subst e
    simp only[Array.getD_eq_getD_getElem?,Array.getElem?_setIfInBounds]
    simp
    split<;>rfl
   ·rw[getD_set_ne true e];exact hz) h'⟩) (h.2 i hi)⟩
end
end Go.Proofs.YtghioefalckgoaaGreatDoor
namespace Go.Proofs.YtghioefalckgoaaGreatDoor
open Go.RowKit
def fH:List Value→Value
 |[a]=>a
 |l=>.agg l.toArray
theorem eJ {α:Type} (k:Nat):∀(L:List (List α)) (_:∀l ∈ L,l.length=k) (i j:Nat) (l:List α),L[i]?=some l→j<k→L.flatten[i*k+j]?=l[j]?
 |[],_,i,j,l,h,_=>by simp at h
 |x::L,hl,0,j,l,h,hj=>by
  simp at h
  subst h
  rw[List.flatten_cons,Nat.zero_mul,Nat.zero_add,List.getElem?_append_left (by rw[hl x (by simp)];exact hj)]
 |x::L,hl,i+1,j,l,h,hj=>by
  have hx:=hl x (by simp)
  have e:(i+1)*k+j=i*k+j+x.length:=by rw[hx,Nat.succ_mul];omega
  rw[List.flatten_cons,List.getElem?_append_right (by omega),e,Nat.add_sub_cancel]
  exact eJ k L (fun l h=>hl l (by simp[h])) i j l (by simpa using h) hj
theorem vE {α:Type} (k:Nat):∀(L:List (List α)) (_:∀l ∈ L,l.length=k),L.flatten.length=L.length*k
 |[],_=>by simp
 |x::L,hl=>by rw[List.flatten_cons,zK,hl x (by simp),vE k L (fun l h=>hl l (by simp[h])),List.length_cons,Nat.succ_mul];omega
theorem Kc {α:Type} (k:Nat):∀(L:List (List α)) (_:∀l ∈ L,l.length=k) (i:Nat) (l':List α),i<L.length→l'.length=k→L.flatten.take (i*k)++l'++L.flatten.drop (i*k+k)=(L.set i l').flatten
 |[],_,i,l',h,_=>by simp at h
 |x::L,hl,0,l',_,hk=>by
  have hx:=hl x (by simp)
  simp[←hx]
 |x::L,hl,i+1,l',h,hk=>by
  have hx:=hl x (by simp)
  have ih:=Kc k L (fun l h=>hl l (by simp[h])) i l' (by simpa using h) hk
  rw[zN,List.flatten_cons,List.flatten_cons,←ih,List.take_append,List.drop_append,List.take_of_length_le (by rw[hx,Nat.succ_mul];omega),List.drop_of_length_le (by rw[hx,Nat.succ_mul];omega),hx]
  rw[show (i+1)*k-k=i*k by rw[Nat.succ_mul];omega,show (i+1)*k+k-k=i*k+k by rw[Nat.succ_mul];omega]
  simp[List.append_assoc]
theorem Ca {α:Type} (A B C:List α) (a b:α):(A++a::(B++b::C))[A.length]?=some a∧(A++a::(B++b::C))[A.length+1+B.length]?=some b∧((A++a::(B++b::C)).set A.length b).set (A.length+1+B.length) a=A++b::(B++a::C):=by
 have e:∀z:α,A++z::(B++b::C)=(A++z::B)++b::C:=fun z=>by simp
 have hl:∀z:α,A.length+1+B.length=(A++z::B).length:=fun z=>by simp;omega
 refine ⟨by simp,?_,?_⟩
 ·rw[e a,hl a];simp
 ·rw[List.set_append_right _ _ (zD _),Nat.sub_self,zM,e b,hl b,List.set_append_right _ _ (zD _),Nat.sub_self,zM]
  simp
theorem Mq {α:Type}{p x q y s:List α}{i:Nat}{xe ye:α} (hx:x[i]?=some xe) (hy:y[i]?=some ye) (h:y.length=x.length) :
  (p++(y.take i++x.drop i)++q++(x.take i++y.drop i)++s)[p.length+i]?=some xe∧(p++(y.take i++x.drop i)++q++(x.take i++y.drop i)++s)[p.length+x.length+q.length+i]?=some ye ∧
   ((p++(y.take i++x.drop i)++q++(x.take i++y.drop i)++s).set (p.length+i) ye).set (p.length+x.length+q.length+i) xe=p++(y.take (i+1)++x.drop (i+1))++q++(x.take (i+1)++y.drop (i+1))++s:=by
 have M5:=(zB hx).1
 have hyi:=(zB hy).1
 have dx:x.drop i=xe::x.drop (i+1):=by rw[List.drop_eq_getElem_cons M5,(zB hx).2]
 have dy:y.drop i=ye::y.drop (i+1):=by rw[List.drop_eq_getElem_cons hyi,(zB hy).2]
 have tx:x.take (i+1)=x.take i++[xe]:=by rw[List.take_add_one,hx];rfl
 have ty:y.take (i+1)=y.take i++[ye]:=by rw[List.take_add_one,hy];rfl
 have hs:=Ca (p++y.take i) (x.drop (i+1)++q++x.take i) (y.drop (i+1)++s) xe ye
 have l1:(p++y.take i).length=p.length+i:=by simp;omega
 have l2:(p++y.take i).length+1+(x.drop (i+1)++q++x.take i).length=p.length+x.length+q.length+i:=by simp;omega
 rw[l2,l1] at hs
 rw[dx,dy,tx,ty]
 simpa[List.append_assoc] using hs
structure Rw (w:World) (g t k:Nat) (L:List (List Value)) (rest:List Value):Prop where
 hp:w.heap[g]?=some (.cells (L.flatten++rest).toArray t (0,0))
 ln:∀l ∈ L,l.length=k
 one:∀l ∈ L,∀v ∈ l,v.oneCell'=true
theorem Rw.at {w:World}{g t k:Nat}{L:List (List Value)}{rest l:List Value}{i j:Nat}{v:Value} (h:Rw w g t k L rest) (hi:L[i]?=some l) (hj:l[j]?=some v):w.cell? ⟨g,i*k+j,none⟩=some v:=by
 have aU:=(zB hj).1
 rw[h.ln l (List.mem_of_getElem? hi)] at aU
 have e:=eJ k L h.ln i j l hi aU
 rw[hj] at e
 rw[cell_of_row _ _ _ _ _ _ h.hp,List.getElem?_toArray,List.getElem?_append_left (zB e).1]
 exact e
theorem Rw.set {w:World}{g t k:Nat}{L:List (List Value)}{rest l':List Value}{i:Nat} (h:Rw w g t k L rest) (hl:l'.length=k) (h1:∀v ∈ l',v.oneCell'=true):Rw (w.setRow g ((L.set i l').flatten++rest).toArray) g t k (L.set i l') rest:=by
 refine ⟨setRow_heap w g _ _ t _ h.hp,fun l hm=>?_,fun l hm=>?_⟩
 ·rcases List.mem_or_eq_of_mem_set hm with hm|rfl
  ·exact h.ln l hm
  ·exact hl
 ·rcases List.mem_or_eq_of_mem_set hm with hm|rfl
  ·exact h.one l hm
  ·exact h1
theorem qd {l:List Value} (h1:∀v ∈ l,v.oneCell'=true):(fH l).cells=l.toArray:=by
 match l with
 |[]=>rfl
 |[a] =>
  have:=h1 a (by simp)
  show a.cells=#[a]
  cases a<;>first|rfl|(simp[Value.oneCell'] at this)
 |a::b::r=>rfl
theorem Rw.run {P:Program}{w:World}{g t k ty:Nat}{L:List (List Value)}{rest l':List Value}{i:Nat} (h:Rw w g t k L rest) (hi:i<L.length) (hl:l'.length=k) (h1:∀v ∈ l',v.oneCell'=true) (hs:(P.info? ty).map (·.size)=some k):(storeVar ty ⟨g,i*k,none⟩ (fH l')).run P w=.ok () (w.setRow g ((L.set i l').flatten++rest).toArray):=by
 have hlen:=vE k L h.ln
 have hm:i*k+k≤L.length*k:=by rw[←Nat.succ_mul];exact Nat.mul_le_mul_right k hi
 have e:=run_storeCells_at (P:=P) g (i*k) t l' 0 _ w h.hp (by rw[List.size_toArray,zK,hlen];omega) h1
 have e2:(L.flatten++rest).toArray.toList.take (i*k+0)++l'++(L.flatten++rest).toArray.toList.drop (i*k+0+l'.length)=(L.set i l').flatten++rest:=by
  rw[←Kc k L h.ln i l' hi hl]
  simp only[Nat.add_zero,hl]
  rw[List.take_append_of_le_length (by omega),List.drop_append_of_le_length (by omega)]
  simp[List.append_assoc]
 rw[e2] at e
 cases hq:P.info? ty with
 |none=>simp[hq] at hs
 |some q =>
  have hs:k=q.size:=by simp[hq] at hs;omega
  simp[storeVar,sizeOf,typeInfo,hq,qd h1,←hs,hl,e]
theorem cG {P:Program}{ops:Array Oper}{o:Oper}{a:Act}{w:World}{K:Act→World→Prop}{Q:Exit→Act→World→Prop}{E:Prop} (wg:o.guard=none) (ty:TypeId) (x y:Operand) (ho:o.op=.store ty x y) {g t k:Nat}{L:List (List Value)}{rest l':List Value}{i:Nat}
  (hx:a.eval x=.pointer (some ⟨g,i*k,none⟩)) (hy:a.eval y=fH l') (h:Rw w g t k L rest) (hi:i<L.length) (hl:l'.length=k) (h1:∀v ∈ l',v.oneCell'=true) (hs:(P.info? ty).map (·.size)=some k)
  (hk:K (a.put o.dst undef) (w.setRow g ((L.set i l').flatten++rest).toArray)):if Region.wanted o (yielded ops a.tmps)=true then Oper.wp P o a w K Q else E:=by
 rw[if_pos (by simp[Region.wanted,wg])]
 unfold Oper.wp execOp
 simp only[ho,hx,hy,Instr.storeAt,Instr.sureAddr,Sem.run_bind,Sem.run_pure,Result.andThen_ok,h.run hi hl h1 hs]
 exact hk
theorem Rw.get {P:Program}{w:World}{g t k ty:Nat}{L:List (List Value)}{rest l:List Value}{i:Nat} (h:Rw w g t k L rest) (hi:L[i]?=some l) (hs:(P.info? ty).map (·.size)=some k) (ha:(isAgg ty).run P w=.ok (decide (k≠1)) w):(loadVar ty ⟨g,i*k,none⟩).run P w=.ok (fH l) w:=by
 have hl:=h.ln l (List.mem_of_getElem? hi)
 have hc:∀j v,l[j]?=some v→w.cell? ((⟨g,i*k,none⟩:Addr).add j)=some v:=fun j v hj=>by
  rw[Go.WideShapes.add_plain]
  exact h.at hi hj
 unfold loadVar
 simp only[Sem.run_bind,ha,Result.andThen_ok]
 by_cases hk:k=1
 ·subst hk
  match l,hl with
  |[v],_ =>
   have e:=hc 0 v rfl
   rw[Go.WideShapes.add_plain,Nat.add_zero,Nat.mul_one] at e
   simp[e,fH]
 ·have e:=run_loadCells_list (P:=P) (w:=w) ⟨g,i*k,none⟩ l hc
  rw[hl] at e
  cases hq:P.info? ty with
  |none=>simp[hq] at hs
  |some q =>
   have hs:q.size=k:=by simp[hq] at hs;omega
   have hel:fH l=.agg l.toArray:=by
    match l,hl with
    |[],_=>rfl
    |[a],hl=>exact absurd hl.symm (by simpa using hk)
    |_::_::_,_=>rfl
   simp[hk,sizeOf,typeInfo,hq,hs,e,hel]
theorem Rw.val {P:Program}{ops:Array Oper}{T:World→Prop}{o:Oper}{a:Act}{g t k:Nat}{L:List (List Value)}{rest l:List Value}{i:Nat} (ty:TypeId) (x:Operand) (ho:o.op=.load ty x) (lP:Region.wanted o (yielded ops a.tmps)=true) (hx:a.eval x=.pointer (some ⟨g,i*k,none⟩)) (hT:∀w,T w→Rw w g t k L rest) (hi:L[i]?=some l) (hs:(P.info? ty).map (·.size)=some k) (ha:∀w,(isAgg ty).run P w=.ok (decide (k≠1)) w):YieldsIf P ops T o (fH l) a :=
 .inl ⟨lP,fun w hw=>by
  unfold execOp
  simp only[ho,hx,Instr.loadAt,Instr.sureAddr,Sem.run_bind,Sem.run_pure,Result.andThen_ok,(hT w hw).get hi hs (ha w)]⟩
theorem cZ {w:World}{g:Nat} (cs:Array Value):w.grownBy (w.setRow g cs) (some g):=by
 refine ⟨?_,?_,?_,?_,fun k hk hn=>?_⟩
 all_goals unfold World.setRow
 ·rfl
 ·rfl
 ·rfl
 ·simp
 ·have:k≠g:=fun e=>hn (by rw[e])
  simp[Array.getElem?_modify,Ne.symm this]
theorem Rw.up {w w':World}{g t k:Nat}{L:List (List Value)}{rest:List Value} (h:Rw w g t k L rest) (hg:w.grownBy w' none):Rw w' g t k L rest :=
 ⟨(hg.block g (zA h.hp).1 (by simp)).trans h.hp,h.ln,h.one⟩
theorem Aj {α:Type} (p r:List α) (y x:α):(p++y::x::r)[p.length+1]?=some x∧(p++y::x::r)[p.length]?=some y∧((p++y::x::r).set (p.length+1) y).set p.length x=p++x::y::r:=by
 have h:=Ca p [] r y x
 simp only[List.nil_append,List.length_nil,Nat.add_zero] at h
 refine ⟨h.2.1,h.1,?_⟩
 rw[List.set_comm _ _ (by omega),h.2.2]
def zQ (P:Program) (f:FuncId) (fs cp:Array Value) (lt:List Value→List Value→Bool) (Pe:List Value→Prop) (w0:World) (g:Nat):Prop :=
 (∀vs w,(callFunc f vs).run P w=.ok (.enter f vs) w)∧∀x y w',w0.grownBy w' (some g)→Pe x→Pe y→Calls P f (fs++#[fH x,fH y]++cp) w' fun e YV=>(∃r:Int,e=.returned (.int .i64 r)∧decide (r<0)=lt x y)∧w'.grownBy YV none
end Go.Proofs.YtghioefalckgoaaGreatDoor

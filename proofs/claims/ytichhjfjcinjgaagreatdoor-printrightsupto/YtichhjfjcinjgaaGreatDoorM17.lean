import Derived.Test.YtichhjfjcinjgaaGreatDoorM16
import Derived.OrdersHeld
import Derived.Deep.MidRow
set_option maxHeartbeats 2000000
set_option maxRecDepth 100000
namespace Go.Proofs.YtichhjfjcinjgaaGreatDoor
open Go.RowKit
attribute [local go_sem ↓] Go.wp_at_zero Go.wp_at_succ
theorem Eb {P:Program}{ops:Array Oper}{o:Oper}{a:Act}{w:World}{K:Act→World→Prop}{Q:Exit→Act→World→Prop}{E:Prop} (A':o.guard=none) (f:FuncId) (EP:∀vs,(callFunc f vs).run P w=.ok (.enter f vs) w) (args:Array Operand) (FA:Array TypeId)
  (ho:o.op=.call { callee:=.value (.func f),args:=args,argTypes:=FA }) (vs:Array Value) (hv:args.map a.eval=vs) {R:Ending→World→Prop} (hc:Calls P f vs w R) (hK:∀e w',R e w'→∃v,e=.returned v∧K (a.put o.dst v) w') :
  if Region.wanted o (yielded ops a.tmps)=true then Oper.wp P o a w K Q else E:=by
 have hw:Region.wanted o (yielded ops a.tmps)=true:=by simp[Region.wanted,A']
 rw[if_pos hw]
 have h2:Oper.wp P o a w K Q=o.upon P a K Q (.ok (.enter f vs) w):=by
  unfold Oper.wp
  simp[execOp,ho,resolve,invoke,←hv,Act.eval,Deferred.ofValue,EP]
 rw[h2,Oper.upon_enter]
 refine hc.mono ?_
 intro e w' hr
 obtain ⟨v,rfl,hk⟩:=hK e w' hr
 exact hk
section
variable {P : Program} {ops : Array Oper} {Q : Exit → Act → World → Prop} {md : Region.Mode} {T : World → Prop} {z : Nat}
def cc (P:Program) (md:Region.Mode) (ops:Array Oper) (Q:Exit→Act→World→Prop) (T:World→Prop) (z:Nat):Nat→Array Bool→Act→World→Prop
 |0,d,a,w=>Region.ready md ops d=[]∧Q .normal a w
 |n+1,d,a,w=>(Region.ready md ops d=[]→Q .normal a w)∧∀i ∈ Region.ready md ops d,wpOp P ops Q i (fun a' w'=>(i≠z→T w')∧cc P md ops Q T z n (d.setIfInBounds i true) a' w') a w
theorem bK:∀(n:Nat) (d:Array Bool) (a:Act) (w:World),cc P md ops Q T z n d a w→wpAny P md ops Q n d a w
 |0,_,_,_,h=>h
 |n+1,_,_,_,h=>⟨h.1,fun i hi=>wpOp_mono (fun a' w' h'=>bK n _ a' w' h'.2) (h.2 i hi)⟩
theorem D1 {i:Nat}{oi:Oper}{v:Value} (hi:ops[i]?=some oi) (hw:∀oz,ops[z]?=some oz→∃e ∈ oz.after,Region.binds md e=true∧e.on=i) (hs:∀(j:Nat) (o:Oper) cs b,ops[j]?=some o→o.op≠.select cs b)
  (hQ:∀c a w,Q (.panic c) (a.put oi.dst v) w→Q (.panic c) a w):∀(n:Nat) (d:Array Bool) (a:Act) (w:World),
   (∀j oj,ops[j]?=some oj→j≠i→d.getD j true=false→(∀e ∈ oj.after,Region.binds md e=true→e.on≠i)→oi.apart ops oj=true)→i ∈ Region.ready md ops d→YieldsIf P ops T oi v a→T w →
   cc P md ops Q T z n (d.setIfInBounds i true) (a.put oi.dst v) w→cc P md ops Q T z (n+1) d a w:=by
 intro n
 induction n with
 |zero =>
  intro d a w _ hr hy hT H
  refine ⟨fun h=>(by rw[h] at hr;cases hr),fun j hj=>?_⟩
  by_cases e:j=i
  ·rw[e];exact hy.wpOp hi hT ⟨fun _=>hT,H⟩
  ·have q:=ready_mono hj e
   rw[H.1] at q
   cases q
 |succ n ih =>
  intro d a w hf hr hy hT H
  refine ⟨fun h=>(by rw[h] at hr;cases hr),fun j hj=>?_⟩
  by_cases e:j=i
  ·rw[e];exact hy.wpOp hi hT ⟨fun _=>hT,H⟩
  ·obtain ⟨hd,oj,Tp,kk⟩:=mem_ready.1 hj
   have Ib:=(mem_ready.1 hr).1
   have nh:∀x ∈ oj.after,Region.binds md x=true→x.on≠i:=fun x hx hb Vs=>by
    have q:=kk x hx hb
    rw[Vs] at q
    rcases Nat.lt_or_ge i d.size with q1|q1
    ·simp[q1] at Ib q
     rw[Ib] at q
     cases q
    ·simp[Array.getElem?_eq_none q1] at q
   have hjz:j≠z:=fun q=>by
    subst q
    obtain ⟨x,hx,hb,Vs⟩:=hw _ Tp
    exact nh x hx hb Vs
   have h2:=wpOp_putIf Tp (hf j oj Tp e hd nh) (fun cs b=>hs i oi cs b hi) (fun cs b=>hs j oj cs b Tp) hQ hy (H.2 j (ready_mono hj e))
   refine wpOp_mono (fun a' w' h3=>⟨h3.2.1,ih (d.setIfInBounds j true) a' w' (fun k ok hk hki VF hn=>hf k ok hk hki ?_ hn) (ready_mono hr (Ne.symm e)) h3.1 (h3.2.1 hjz) ?_⟩) h2
   ·by_cases L6:j=k
    ·rw[←L6];exact hd
    ·rwa [getD_set_ne true L6] at VF
   ·rw[Array.setIfInBounds_comm _ _ e]
    exact h3.2.2
def waits (md:Region.Mode) (ops:Array Oper) (z i:Nat):Bool:=match ops[z]? with
 |none=>true
 |some o=>o.after.any fun e=>Region.binds md e&&e.on==i
theorem p8 (i:Nat) {oi:Oper} (v:Value) (x:Tmp) {n:Nat}{d:Array Bool}{a:Act}{w:World} (hi:ops[i]?=some oi) (hx:oi.dst=some x) (hw:waits md ops z i=true) (hs:Region.noSelect ops=true) (hf:Region.free md ops d i=true) (hr:(Region.ready md ops d).contains i=true)
  (hQ:∀c a w,Q (.panic c) (a.put (some x) v) w→Q (.panic c) a w) (hy:YieldsIf P ops T oi v a) (hT:T w) (h:cc P md ops Q T z n (d.setIfInBounds i true) (a.put (some x) v) w):cc P md ops Q T z (n+1) d a w:=by
 rw[←hx] at hQ h
 refine D1 hi (fun oz hz=>?_) (Region.noSelect_spec hs) hQ n d a w (Region.free_spec hi hf) (by simpa using hr) hy hT h
 unfold waits at hw
 rw[hz] at hw
 obtain ⟨e,he,hb⟩:=Array.any_eq_true'.1 hw
 simp only[Bool.and_eq_true,beq_iff_eq] at hb
 exact ⟨e,he,hb.1,hb.2⟩
theorem aw (i:Nat) {oi:Oper} (v:Value) (x:Tmp) {n:Nat}{d:Array Bool}{a:Act}{w:World} (hi:ops[i]?=some oi) (hx:oi.dst=some x) (hy:YieldsIf P ops T oi v a) (hT:T w) (h:cc P md ops Q T z n (d.setIfInBounds i true) (a.put (some x) v) w) (hw:waits md ops z i=true:=by kernel_rfl) (hs:Region.noSelect ops=true:=by kernel_rfl) (hf:Region.free md ops d i=true:=by kernel_rfl) (hr:(Region.ready md ops d).contains i=true:=by kernel_rfl)
  (hQ:∀c a w,Q (.panic c) (a.put (some x) v) w→Q (.panic c) a w:=by exact fun _ _ _ h=>h):cc P md ops Q T z (n+1) d a w:=p8 i v x hi hx hw hs hf hr hQ hy hT h
theorem aF (i:Nat) {o:Oper}{n:Nat}{d:Array Bool}{a:Act}{w:World} (hr:Region.ready md ops d=[i]) (ho:ops[i]?=some o)
  (h:∀K:Act→World→Prop,(∀a' w',((i≠z→T w')∧cc P md ops Q T z n (d.setIfInBounds i true) a' w')→K a' w')→if Region.wanted o (yielded ops a.tmps)=true then Oper.wp P o a w K Q else K (a.put o.dst undef) w):cc P md ops Q T z (n+1) d a w:=by
 refine ⟨fun h0=>(by rw[h0] at hr;cases hr),fun j hj=>?_⟩
 rw[hr] at hj
 obtain rfl:j=i:=by simpa using hj
 exact wpOp_step ho h
theorem aO {o:Oper}{a:Act}{w:World}{K:Act→World→Prop}{E:Prop} (x:Tmp) (hx:o.dst=some x) (A':o.guard=none) (f:FuncId) (EP:∀vs,(callFunc f vs).run P w=.ok (.enter f vs) w) (args:Array Operand) (FA:Array TypeId)
  (ho:o.op=.call { callee:=.value (.func f),args:=args,argTypes:=FA }) (vs:Array Value) (hv:args.map a.eval=vs) {R:Ending→World→Prop} (hc:Calls P f vs w R) (hK:∀e w',R e w'→∃v,e=.returned v∧K (a.put (some x) v) w') :
  if Region.wanted o (yielded ops a.tmps)=true then Oper.wp P o a w K Q else E :=
 Eb A' f EP args FA ho vs hv hc (by rw[hx];exact hK)
theorem cP {o:Oper}{a:Act}{w:World}{K:Act→World→Prop}{E:Prop} (x:Tmp) (hx:o.dst=some x) (f:FuncId) (EP:∀vs,(callFunc f vs).run P w=.ok (.enter f vs) w) (args:Array Operand) (FA:Array TypeId)
  (ho:o.op=.call { callee:=.value (.func f),args:=args,argTypes:=FA }) (vs:Array Value) (hv:args.map a.eval=vs) {R:Ending→World→Prop} (hc:Calls P f vs w R) (hw:Region.wanted o (yielded ops a.tmps)=true) (hK:∀e w',R e w'→∃v,e=.returned v∧K (a.put (some x) v) w') :
  if Region.wanted o (yielded ops a.tmps)=true then Oper.wp P o a w K Q else E:=by
 rw[if_pos hw]
 have h2:Oper.wp P o a w K Q=o.upon P a K Q (.ok (.enter f vs) w):=by
  unfold Oper.wp
  simp[execOp,ho,resolve,invoke,←hv,Deferred.ofValue,Act.eval,EP]
 rw[h2,Oper.upon_enter]
 refine hc.mono ?_
 intro e w' hr
 obtain ⟨v,rfl,hk⟩:=hK e w' hr
 rw[hx]
 exact hk
theorem jF {o:Oper}{a:Act}{w:World}{K:Act→World→Prop}{E:Prop} (x y:Tmp) (hx:o.dst=some x) (f:FuncId) (fs cp:Array Value) (EP:∀vs,(callFunc f vs).run P w=.ok (.enter f vs) w) (args:Array Operand) (FA:Array TypeId)
  (ho:o.op=.call { callee:=.value (.tmp y),args:=args,argTypes:=FA }) (hy:a.eval (.tmp y)=.func (.func f) fs cp) (vs:Array Value) (hv:fs++args.map a.eval++cp=vs) {R:Ending→World→Prop} (hc:Calls P f vs w R) (hw:Region.wanted o (yielded ops a.tmps)=true) (hK:∀e w',R e w'→∃v,e=.returned v∧K (a.put (some x) v) w') :
  if Region.wanted o (yielded ops a.tmps)=true then Oper.wp P o a w K Q else E:=by
 rw[if_pos hw]
 have h2:Oper.wp P o a w K Q=o.upon P a K Q (.ok (.enter f vs) w):=by
  unfold Oper.wp
  simp[execOp,ho,resolve,invoke,←hv,hy,Deferred.ofValue,EP]
 rw[h2,Oper.upon_enter]
 refine hc.mono ?_
 intro e w' hr
 obtain ⟨v,rfl,hk⟩:=hK e w' hr
 rw[hx]
 exact hk
theorem aZ {n:Nat}{d:Array Bool}{a:Act}{w:World} (hr:Region.ready md ops d=[]) (h:Q .normal a w):cc P md ops Q T z n d a w:=by
 cases n with
 |zero=>exact ⟨hr,h⟩
 |succ n=>exact ⟨fun _=>h,fun i hi=>by rw[hr] at hi;cases hi⟩
def xD (o:Oper) (t:Array Value):Option Value:=match o.op with
 |.move (.tmp k)=>some (t.getD k undef)
 |.assign (.tmp k)=>some (t.getD k undef)
 |.pick (.tmp k) (.tmp j) (.const v)=>match t.getD k undef with
  |.bool false=>some v
  |.bool true=>some (t.getD j undef)
  |_=>none
 |_=>none
def xk (md:Region.Mode) (ops:Array Oper) (z:Nat):List Nat→Array Bool→Array Value→Option (Array Bool×Array Value)
 |[],d,t=>some (d,t)
 |i::l,d,t=>match ops[i]? with
  |none=>none
  |some o=>match o.dst with
   |none=>none
   |some x=>if waits md ops z i&&Region.free md ops d i&&(Region.ready md ops d).contains i then
     match (if Region.wanted o (yielded ops t) then xD o t else some undef) with
     |none=>none
     |some v=>xk md ops z l (d.setIfInBounds i true) (t.setIfInBounds x v)
    else none
theorem Ku {P:Program}{o:Oper}{a:Act}{v:Value} (h:xD o a.tmps=some v) (w:World):(execOp a.eval o).run P w=.ok (.value v) w:=by
 unfold xD at h
 split at h
 ·rename_i k ho
  obtain rfl:=zC h
  simp[execOp,ho,Act.eval]
 ·rename_i k ho
  obtain rfl:=zC h
  simp[execOp,ho,Act.eval]
 ·rename_i k y c ho
  split at h
  ·rename_i hb
   obtain rfl:=zC h
   have Jz:a.tmps[k]?.getD undef=.bool false:=by simpa using hb
   simp[execOp,ho,Act.eval,Jz,asBool]
  ·rename_i hb
   obtain rfl:=zC h
   have Jz:a.tmps[k]?.getD undef=.bool true:=by simpa using hb
   simp[execOp,ho,Act.eval,Jz,asBool]
  ·cases h
 ·cases h
theorem p9 (hs:Region.noSelect ops=true) (hQ:∀x v c (a:Act) w,Q (.panic c) (a.put (some x) v) w→Q (.panic c) a w):∀(l:List Nat) (n:Nat) {d d':Array Bool}{a:Act}{t':Array Value}{w:World},T w→xk md ops z l d a.tmps=some (d',t')→cc P md ops Q T z n d' { a with tmps:=t' } w→∀m,m=n+l.length→cc P md ops Q T z m d a w
 |[],n,d,d',a,t',w,hT,h,k,m,hm=>by
  obtain ⟨rfl,rfl⟩:=Prod.mk.inj (zC h)
  obtain rfl:m=n:=hm
  exact k
 |i::l,n,d,d',a,t',w,hT,h,k,m,hm=>by
  unfold xk at h
  split at h
  ·cases h
  ·rename_i o ho
   split at h
   ·cases h
   ·rename_i x hx
    split at h
    ·rename_i hc
     simp only[Bool.and_eq_true] at hc
     obtain ⟨⟨hw,hf⟩,hr⟩:=hc
     split at h
     ·cases h
     ·rename_i v hv
      obtain rfl:m=(n+l.length)+1:=by rw[hm,List.length_cons];omega
      refine p8 i v x ho hx hw hs hf hr (fun c a w=>hQ x v c a w) ?_ hT (p9 hs hQ l n hT (a:=a.put (some x) v) h k _ rfl)
      by_cases fJ:Region.wanted o (yielded ops a.tmps)=true
      ·rw[if_pos fJ] at hv
       exact Or.inl ⟨fJ,fun w _=>Ku hv w⟩
      ·rw[if_neg fJ] at hv
       exact Or.inr ⟨by simpa using fJ,(zC hv).symm⟩
    ·cases h
def C' (md:Region.Mode) (ops:Array Oper) (z:Nat) (l:List Nat) (d:Array Bool) (t:Array Value) (r:Tmp):Bool:=match xk md ops z l d t with
 |none=>false
 |some (d',t')=>(Region.ready md ops d').isEmpty&&match t'.getD r undef with
  |.bool b=>!b
  |_=>false
theorem cU (l:List Nat) (r:Tmp) {m:Nat}{d:Array Bool}{a:Act}{w:World} (hT:T w) (h:C' md ops z l d a.tmps r=true) (k:∀t':Array Value,t'.getD r undef=.bool false→Q .normal { a with tmps:=t' } w) (hl:l.length≤m) (hs:Region.noSelect ops=true) (hQ:∀x v c (a:Act) w,Q (.panic c) (a.put (some x) v) w→Q (.panic c) a w):cc P md ops Q T z m d a w:=by
 unfold C' at h
 split at h
 ·cases h
 ·rename_i d' t' hg
  simp only[Bool.and_eq_true,List.isEmpty_iff] at h
  obtain ⟨h1,h2⟩:=h
  split at h2
  ·rename_i b hb
   refine p9 hs hQ l (m-l.length) hT hg (aZ h1 (k t' ?_)) m (by omega)
   rw[hb]
   congr 1
   simpa using h2
  ·cases h2
end
end Go.Proofs.YtichhjfjcinjgaaGreatDoor
namespace Go.Proofs.YtichhjfjcinjgaaGreatDoor
open Go.RowKit Go.Shelf
attribute [local go_sem ↓] Go.wp_at_zero Go.wp_at_succ
theorem N6:Builder.Extra Tryz.prog Tryz.mW:={
 sizeBuilder:=by kernel_rfl
 liesBuilder:=by kernel_rfl
 t5:=Tryz.underlying5
 a5:=Tryz.isAgg5
 z5:=Tryz.sizeOf5
 v5:=Tryz.zeroValue5
 infoByte:=by kernel_rfl
 cellsByte:=by kernel_rfl
 sizeByte:=by kernel_rfl
 neB5:=by decide }
def bP (ts:List ByteArray):ByteArray:=⟨(Lib.join (ts.map (·.data.toList)) [44,32]).toArray⟩
theorem GO {w:World}{B:Nat}{u:Value}{ts:List ByteArray} (h:w.ownsRow B 9 1 u ts.length (bZ ts)) (h0:0<ts.length) (YP:ts.length≤4096) (hl:(bP ts).size≤140737488355328):Calls Tryz.prog 169 #[u,.string ⟨#[44,32]⟩] w fun e w'=>e=.returned (.string (bP ts))∧Below w.heap.size w w':=by
 obtain ⟨h1,⟨rfl,h2⟩|⟨g,c,cur,rfl,hB,hg,h3,h4,h5,h6⟩⟩:=h
 ·omega
 ·refine Any.strings_Join Tryz.EA N6 g 0 c ts ⟨#[44,32]⟩ w (fun j x hx=>?_) (zA hg).1 (by omega) h3 hl
  rw[Nat.zero_add,cell_of_row _ _ _ _ _ _ hg,←Array.getElem?_toList]
  have hj:=dS hx
  rw[←h6,List.getElem?_take] at hj
  split at hj
  ·exact hj
  ·cases hj
theorem QW (n:Nat) (a b c:ByteArray):(aV n [a,b,c]).length=2*n+(a.size+(b.size+c.size))+1:=by
 unfold aV
 rw[zK,zK,List.length_replicate,List.flatMap_cons,List.flatMap_cons,List.flatMap_cons,List.flatMap_nil,List.append_nil,zK,zK,aY,aY,aY]
 rfl
def cD:ByteArray:=⟨#[114,101,115,101,114,118,101,100,32]⟩
def bC:ByteArray:=⟨#[59]⟩
def eC (n:Nat) (ts:List ByteArray):List Nat:=if 0<ts.length then aV n [cD,bP ts,bC] else []
theorem z8 {W w:World}{B bb dd pp:Nat}{L:List Nat}{n C:Nat}{x y u:Value}{ts:List ByteArray} (h:Pn W B bb dd L n w) (hp:w.heap[pp]?=some (.cells #[bY bb dd,x,y] 89 (0,0))) (Px:pp≠bb) (hu:w.ownsRow C 9 1 u ts.length (bZ ts)) (YP:ts.length≤4096) (hl:L.length+(eC n ts).length≤1099511627776) :
  Calls Tryz.prog 168 #[u,.pointer (some ⟨pp,0,none⟩)] w (u6 W B bb dd (L++eC n ts) n w):=by
 obtain ⟨au,lu,cu,rfl,hlu⟩:∃a l c,u=.slice a l c∧l=ts.length:=by
  obtain ⟨h1,⟨rfl,h2⟩|⟨g,c,cur,rfl,hB,hg,h3,h4,h5,h6⟩⟩:=hu
  ·exact ⟨none,0,0,rfl,h2.symm⟩
  ·exact ⟨_,_,_,rfl,rfl⟩
 subst hlu
 by_cases h0:0<ts.length
 ·have e0:decide ((0:Int)<(ts.length:Int))=true:=decide_eq_true (by omega)
  have hr:eC n ts=aV n [cD,bP ts,bC]:=by unfold eC;rw[if_pos h0]
  rw[hr] at hl ⊢
  have hjl:(bP ts).size≤1099511627776:=by
   have e:=QW n cD (bP ts) bC
   omega
  have HJ:=al (fun w' hb=>GO (dJ hu hb) h0 YP (w:=w') (by omega))
  have HP:=al h
  have c0:w.cell? ⟨pp,0,none⟩=some (bY bb dd):=cell_of_row _ _ _ _ _ _ hp
  unfold bY at c0 hp
  have XM:=al hp
  have Hl:=al hl
  have pa:=al Px
  unfold cD bC at Hl ⊢
  obtain ⟨jt,Zp⟩:∃t,bP ts=t:=⟨_,rfl⟩
  rw[Zp] at HJ Hl ⊢
  clear h hp hu hl hr hjl Px Zp
  go_enter Tryz.func168,Tryz.ntmps168
  go_upto_region 1 with fail
  have hT:(fun w:World=>w.cell? ⟨pp,0,none⟩=some (.func (.func 80) #[] #[.pointer (some ⟨bb,0,none⟩),.pointer (some ⟨dd,0,none⟩)])) w.drew:=c0
  refine wp_region_any (by kernel_rfl) (bK (z:=99) (T:=fun w=>w.cell? ⟨pp,0,none⟩=some (.func (.func 80) #[] #[.pointer (some ⟨bb,0,none⟩),.pointer (some ⟨dd,0,none⟩)])) _ _ _ _ ?_)
  try (change cc _ _ _ _ _ _ _ _ _ (World.drew _))
  refine aw 0 (.pointer (some ⟨pp,0,none⟩)) 6 rfl rfl (Or.inl ⟨by rfl,fun w hw=>by go_simp⟩) hT ?_
  simp only[Act.put,zL,zM,zN]
  refine aw 1 (.func (.func 80) #[] #[.pointer (some ⟨bb,0,none⟩),.pointer (some ⟨dd,0,none⟩)]) 7 rfl rfl (Or.inl ⟨by rfl,fun w hw=>by go_simp⟩) hT ?_
  simp only[Act.put,zL,zM,zN]
  refine aw 2 (.slice au ts.length cu) 8 rfl rfl (Or.inl ⟨by rfl,fun w hw=>by go_simp⟩) hT ?_
  simp only[Act.put,zL,zM,zN]
  refine aF 3 (by kernel_rfl) rfl (fun K hK=>?_)
  refine aO 9 rfl rfl 169 (fun vs=>by kernel_rfl) #[.tmp 8,.const (.string ⟨#[44,32]⟩)] #[22,9] rfl #[.slice au ts.length cu,.string ⟨#[44,32]⟩] (by first|rfl|simp[Act.eval]) (ab HJ w.drew (below_drewN (zE _ _) 1)) ?_
  rintro e w1 ⟨rfl,aW⟩
  have aW:Below w.heap.size w w1:=⟨aW.os,aW.tape,aW.output,aW.size,aW.block⟩
  have pH:=(ab HP).below aW
  have qC:w1.cell? ⟨pp,0,none⟩=some (.func (.func 80) #[] #[.pointer (some ⟨bb,0,none⟩),.pointer (some ⟨dd,0,none⟩)]):=cell_of_row _ _ _ _ _ _ (Kp.below aW _ _ _ _ (ab pa) (ab XM) (by decide))
  refine ⟨_,rfl,hK _ _ ⟨fun _=>qC,?_⟩⟩
  clear hK K hT
  simp only[Act.put,zL,zM,zN]
  have bd:Below w1.heap.size w1 (w1.alloc (.cells #[.string ⟨#[114,101,115,101,114,118,101,100,32]⟩,.string jt,.string ⟨#[59]⟩] 9)):=(zE _ _).alloc (zD _) _
  have FH:(w1.alloc (.cells #[.string ⟨#[114,101,115,101,114,118,101,100,32]⟩,.string jt,.string ⟨#[59]⟩] 9)).cell? ⟨pp,0,none⟩=some (.func (.func 80) #[] #[.pointer (some ⟨bb,0,none⟩),.pointer (some ⟨dd,0,none⟩)]):=cell_of_row _ _ _ _ _ _ ((Kp.below aW).trans (Kp.below bd) _ _ _ _ (ab pa) (ab XM) (by decide))
  refine aF 4 (by kernel_rfl) rfl (fun K hK=>?_)
  go_simp
  refine hK _ _ ⟨fun _=>FH,?_⟩
  clear hK K
  refine aF 5 (by kernel_rfl) rfl (fun K hK=>?_)
  refine jF 11 7 rfl 80 #[] #[.pointer (some ⟨bb,0,none⟩),.pointer (some ⟨dd,0,none⟩)] (fun vs=>by kernel_rfl) #[.tmp 10] #[22] rfl (by first|rfl|simp[Act.eval]) #[.slice (some ⟨w1.heap.size,0,none⟩) 3 3,.pointer (some ⟨bb,0,none⟩),.pointer (some ⟨dd,0,none⟩)] (by first|rfl|simp[Act.eval]) (iy (pH.below bd) (l7 (ps:=[⟨#[114,101,115,101,114,118,101,100,32]⟩,jt,⟨#[59]⟩]) (c:=3) rfl pH.bi.lt.2) (ab Hl) (by simp)) (by rfl) ?_
  rintro e w2 ⟨rfl,yy,lI⟩
  have HE:=al (show u6 W B bb dd _ n w (.returned (.tuple #[])) w2 from ⟨rfl,yy,((Kp.below aW).trans (Kp.below bd)).trans lI⟩)
  have yB:w2.cell? ⟨pp,0,none⟩=some (.func (.func 80) #[] #[.pointer (some ⟨bb,0,none⟩),.pointer (some ⟨dd,0,none⟩)]):=cell_of_row _ _ _ _ _ _ ((ab HE).2.2 _ _ _ _ (ab pa) (ab XM) (by decide))
  refine ⟨_,rfl,hK _ _ ⟨fun _=>yB,?_⟩⟩
  clear hK K qC FH yy lI aW bd pH HJ HP
  simp only[Act.put,zL,zM,zN]
  refine aZ (by kernel_rfl) ?_
  go_wp2
  refine bodyPost_ret (results_none rfl _ _ _) rfl ?_
  exact ab HE
 ·have e0:decide ((0:Int)<(ts.length:Int))=false:=decide_eq_false (by omega)
  have hr:eC n ts=[]:=by unfold eC;rw[if_neg h0]
  rw[hr,List.append_nil]
  have HE:=al (show u6 W B bb dd L n w (.returned (.tuple #[])) w from ⟨rfl,h,Kp.refl _ _⟩)
  clear h hp hu hl hr Px
  go_enter Tryz.func168,Tryz.ntmps168
  go_wp2
  refine bodyPost_ret (results_none rfl _ _ _) rfl ?_
  exact ab HE
end Go.Proofs.YtichhjfjcinjgaaGreatDoor
namespace Go.Proofs.YtichhjfjcinjgaaGreatDoor
open Go.RowKit
attribute [local go_sem ↓] Go.wp_at_zero Go.wp_at_succ
def eM (bb dd ll:Nat):Array Value:=#[bY bb dd,cw ll dd,cl bb]
noncomputable def bA (s:ByteArray):ByteArray:=gr (34::jK s 0++[34])
theorem QO {w:World} (hP:iF w) {mm:Nat}{most a b:Int} (hm:w.heap[mm]?=some (.cells #[.int .i64 most] 3 (0,0))) (ha:-2147483648≤a∧a≤2147483647) (hb:-2147483648≤b∧b≤2147483647) :
  Calls Tryz.prog 171 #[.agg #[.int .i64 a,.int .i64 b],.pointer (some ⟨mm,0,none⟩)] w fun e w'=>e=.returned (.string (eK most (a,b)))∧Below w.heap.size w w':=by
 have hn:=aK w (.cells #[.int .i64 a,.int .i64 b] 111)
 have bG:Below w.heap.size w (w.alloc (.cells #[.int .i64 a,.int .i64 b] 111)):=(zE _ _).alloc (zD _) _
 have NB:=(bG.block _ (zA hm).1).trans hm
 obtain ⟨V,hV⟩:∃V,w.alloc (.cells #[.int .i64 a,.int .i64 b] 111)=V:=⟨_,rfl⟩
 rw[hV] at hn bG NB
 have c0:V.cell? ⟨w.heap.size,0,none⟩=some (.int .i64 a):=cell_of_row _ _ _ _ _ _ hn
 have c1:V.cell? ⟨w.heap.size,1,none⟩=some (.int .i64 b):=cell_of_row _ _ _ _ _ _ hn
 have m0:V.cell? ⟨mm,0,none⟩=some (.int .i64 most):=cell_of_row _ _ _ _ _ _ NB
 have HR:=al (ze (hP.up bG) a b most ha hb)
 have HB:=al bG
 clear hn bG hm NB hP ha hb
 go_enter Tryz.func171,Tryz.ntmps171
 go_wp2_with fail
 refine (ab HR).mono ?_
 rintro e w1 ⟨rfl,aW⟩
 have cN:=al ((ab HB).trans (aW.mono (ab HB).size))
 clear aW HR HB
 go_wp2
 go_ret
 exact ⟨rfl,ab cN⟩
noncomputable def fa (n:Nat) (most:Int) (rs:List (Int×Int)) (gs:List ByteArray):List Nat:=eC n (rs.map (eK most))++eC n (gs.map bA)
theorem nY {W w:World}{B bb dd ll:Nat}{L:List Nat}{n:Nat} (h:Pn W B bb dd L n w) (hP:iF W) (hF:iG W) {v u:Value}{rs:List (Int×Int)}{gs:List ByteArray}{most:Int} (hv:Rl W v rs.length (kQ rs)) (hu:Rl W u gs.length (bZ gs))
  (hr:rs.length≤4096) (oD:∀r ∈ rs,(-2147483648≤r.1∧r.1≤2147483647)∧(-2147483648≤r.2∧r.2≤2147483647)) (hg:gs.length≤4096) (ei:∀s ∈ gs,s.size≤1048576) (hl:L.length+(fa n most rs gs).length≤1099511627776) :
  Calls Tryz.prog 130 #[.agg (eM bb dd ll),v,.int .i64 most,u] w (u6 W B bb dd (L++fa n most rs gs) n w):=by
 have aM:=h.bi.lt.2
 have s1:=zJ w (.cells (eM bb dd ll) 89)
 have k1:=aK w (.cells (eM bb dd ll) 89)
 have k2:=aK (w.alloc (.cells (eM bb dd ll) 89)) (.cells #[.int .i64 most] 3)
 rw[s1] at k2
 have sv:=(Below.heap_alloc (w.alloc (.cells (eM bb dd ll) 89)) (.cells #[.int .i64 most] 3) _ (by rw[s1];omega)).trans k1
 have kR:Below w.heap.size w ((w.alloc (.cells (eM bb dd ll) 89)).alloc (.cells #[.int .i64 most] 3)):=((zE _ _).alloc (zD _) _).alloc (by omega) _
 unfold eM at sv k2 kR ⊢
 obtain ⟨V,hV⟩:∃V,(w.alloc (.cells #[bY bb dd,cw ll dd,cl bb] 89)).alloc (.cells #[.int .i64 most] 3)=V:=⟨_,rfl⟩
 rw[hV] at sv k2 kR
 have Rr:=h.below kR
 have T':=al (E3 (T:=eK most) hv hr (f:=⟨171,#[],#[.pointer (some ⟨w.heap.size+1,0,none⟩)]⟩) (fun vs w=>by kernel_rfl) V Rr.bW (fun r YY w' Jz=>by
  have hm:=(Jz.block _ (zA k2).1).trans k2
  exact QO (hP.up (Rr.bW.trans (Jz.mono Rr.bW.size))) hm (oD r YY).1 (oD r YY).2))
 have Ua:=al (fun w' (Jz:Below W.heap.size W w')=>E2 (T:=bA) hu hg (f:=⟨44,#[],#[]⟩) (fun vs w=>by kernel_rfl) w' Jz (fun s hs w2 bd=>wb (hF.up (Jz.trans (bd.mono Jz.size))) s (ei s hs)))
 have Jq:=al (show Kp bb w V from Kp.below kR)
 have HPV:=al Rr
 have iH:=al sv
 have pa:=al (show w.heap.size≠bb by omega)
 have Hl:=al hl
 have Hr:=al hr
 have Hg:=al hg
 clear Rr kR k1 sv k2 s1 aM h hP hF oD ei hr hg hl
 obtain ⟨av,cv,rfl,-,-⟩:=hv
 obtain ⟨au,cu,rfl,-,-⟩:=hu
 unfold fa at Hl ⊢
 unfold Fv.val at T' Ua
 simp only at T' Ua
 unfold bY cw cl at hV iH ⊢
 go_enter Tryz.func130,Tryz.ntmps130
 go_wp2_with fail
 refine (ab T').mono ?_
 rintro e w1 ⟨u1,rfl,dP,aW⟩
 have pH:=(ab HPV).below aW
 have lQ:=(aW.block _ (zA (ab iH)).1).trans (ab iH)
 have yr:=al ((ab Jq).trans (Kp.below aW))
 have MA:=al (z8 (ts:=rs.map (eK most)) pH lQ (ab pa) (by rw[List.length_map];exact dP) (by rw[List.length_map];exact ab Hr) (by have:=ab Hl;rw[zK] at this;omega))
 have S4:=al lQ
 obtain ⟨a1,l1,c1,rfl⟩:∃a l c,u1=.slice a l c:=by
  obtain ⟨h1,⟨rfl,h2⟩|⟨g,c,cur,rfl,h3⟩⟩:=dP
  ·exact ⟨none,0,0,rfl⟩
  ·exact ⟨_,_,_,rfl⟩
 clear pH lQ dP aW T' HPV Jq iH
 go_wp2_with fail
 refine (ab MA).mono ?_
 rintro e w2 ⟨rfl,yy,lI⟩
 have Qh:=al (ab Ua w2 yy.bW)
 have fC:=al yy
 have S1:=al ((ab yr).trans lI)
 have O4:=al (lI _ _ _ _ (ab pa) (ab S4) (by decide))
 clear yy lI MA yr S4 Ua
 go_wp2_with fail
 refine (ab Qh).mono ?_
 rintro e w3 ⟨u3,rfl,lC,cE⟩
 have qy:=(ab fC).below cE
 have sx:=(cE.block _ (zA (ab O4)).1).trans (ab O4)
 have S0:=al ((ab S1).trans (Kp.below cE))
 have HL3:=al (z8 (ts:=gs.map bA) qy sx (ab pa) (by rw[List.length_map];exact lC) (by rw[List.length_map];exact ab Hg) (by rw[zK];have:=ab Hl;rw[zK] at this;omega))
 obtain ⟨a3,l3,c3,rfl⟩:∃a l c,u3=.slice a l c:=by
  obtain ⟨h1,⟨rfl,h2⟩|⟨g,c,cur,rfl,h3⟩⟩:=lC
  ·exact ⟨none,0,0,rfl⟩
  ·exact ⟨_,_,_,rfl⟩
 clear qy sx lC cE Qh fC S1 O4
 go_wp2_with fail
 refine (ab HL3).mono ?_
 rintro e w4 ⟨rfl,L3,ni⟩
 rw[List.append_assoc] at L3
 have HE:=al (show u6 W B bb dd _ n w (.returned (.tuple #[])) w4 from ⟨rfl,L3,(ab S0).trans ni⟩)
 clear L3 ni HL3 S0
 go_wp2
 refine bodyPost_ret (results_none rfl _ _ _) rfl ?_
 exact ab HE
end Go.Proofs.YtichhjfjcinjgaaGreatDoor

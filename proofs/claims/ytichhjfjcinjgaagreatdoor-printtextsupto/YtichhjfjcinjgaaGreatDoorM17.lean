import Derived.Test.YtichhjfjcinjgaaGreatDoorM16
import Derived.OrdersHeld
import Derived.Deep.MidRow
set_option maxHeartbeats 2000000
set_option maxRecDepth 100000
namespace Go.Proofs.YtichhjfjcinjgaaGreatDoor
open Go.RowKit
attribute [local go_sem ↓] Go.wp_at_zero Go.wp_at_succ
theorem EH {P:Program}{ops:Array Oper}{o:Oper}{a:Act}{w:World}{K:Act→World→Prop}{Q:Exit→Act→World→Prop}{E:Prop} (Bz:o.guard=none) (f:FuncId) (CK:∀vs,(callFunc f vs).run P w=.ok (.enter f vs) w) (args:Array Operand) (F7:Array TypeId)
  (ho:o.op=.call { callee:=.value (.func f),args:=args,argTypes:=F7 }) (vs:Array Value) (hv:args.map a.eval=vs) {R:Ending→World→Prop} (hc:Calls P f vs w R) (hK:∀e w',R e w'→∃v,e=.returned v∧K (a.put o.dst v) w') :
  if Region.wanted o (yielded ops a.tmps)=true then Oper.wp P o a w K Q else E:=by
 have hw:Region.wanted o (yielded ops a.tmps)=true:=by simp[Region.wanted,Bz]
 rw[if_pos hw]
 have h2:Oper.wp P o a w K Q=o.upon P a K Q (.ok (.enter f vs) w):=by
  unfold Oper.wp
  simp[execOp,ho,resolve,invoke,←hv,Act.eval,Deferred.ofValue,CK]
 rw[h2,Oper.upon_enter]
 refine hc.mono ?_
 intro e w' hr
 obtain ⟨v,rfl,hk⟩:=hK e w' hr
 exact hk
section
variable {P : Program} {ops : Array Oper} {Q : Exit → Act → World → Prop} {md : Region.Mode} {T : World → Prop} {z : Nat}
def cd (P:Program) (md:Region.Mode) (ops:Array Oper) (Q:Exit→Act→World→Prop) (T:World→Prop) (z:Nat):Nat→Array Bool→Act→World→Prop
 |0,d,a,w=>Region.ready md ops d=[]∧Q .normal a w
 |n+1,d,a,w=>(Region.ready md ops d=[]→Q .normal a w)∧∀i ∈ Region.ready md ops d,wpOp P ops Q i (fun a' w'=>(i≠z→T w')∧cd P md ops Q T z n (d.setIfInBounds i true) a' w') a w
theorem bL:∀(n:Nat) (d:Array Bool) (a:Act) (w:World),cd P md ops Q T z n d a w→wpAny P md ops Q n d a w
 |0,_,_,_,h=>h
 |n+1,_,_,_,h=>⟨h.1,fun i hi=>wpOp_mono (fun a' w' h'=>bL n _ a' w' h'.2) (h.2 i hi)⟩
theorem Ew {i:Nat}{oi:Oper}{v:Value} (hi:ops[i]?=some oi) (hw:∀oz,ops[z]?=some oz→∃e ∈ oz.after,Region.binds md e=true∧e.on=i) (hs:∀(j:Nat) (o:Oper) cs b,ops[j]?=some o→o.op≠.select cs b)
  (hQ:∀c a w,Q (.panic c) (a.put oi.dst v) w→Q (.panic c) a w):∀(n:Nat) (d:Array Bool) (a:Act) (w:World),
   (∀j oj,ops[j]?=some oj→j≠i→d.getD j true=false→(∀e ∈ oj.after,Region.binds md e=true→e.on≠i)→oi.apart ops oj=true)→i ∈ Region.ready md ops d→YieldsIf P ops T oi v a→T w →
   cd P md ops Q T z n (d.setIfInBounds i true) (a.put oi.dst v) w→cd P md ops Q T z (n+1) d a w:=by
 intro n
 induction n with
 |zero =>
  intro d a w _ hr hy hT H
  refine ⟨fun h=>(by rw[h] at hr;cases hr),fun j hj=>?_⟩
  by_cases e:j=i
  ·rw[e];exact hy.wpOp hi hT ⟨fun _=>hT,H⟩
  ·have q:=ready_mono hj e
   rw[H.1] at q
   cases q
 |succ n ih =>
  intro d a w hf hr hy hT H
  refine ⟨fun h=>(by rw[h] at hr;cases hr),fun j hj=>?_⟩
  by_cases e:j=i
  ·rw[e];exact hy.wpOp hi hT ⟨fun _=>hT,H⟩
  ·obtain ⟨hd,oj,TO,kE⟩:=mem_ready.1 hj
   have IK:=(mem_ready.1 hr).1
   have nJ:∀x ∈ oj.after,Region.binds md x=true→x.on≠i:=fun x hx hb VW=>by
    have q:=kE x hx hb
    rw[VW] at q
    rcases Nat.lt_or_ge i d.size with q1|q1
    ·simp[q1] at IK q
     rw[IK] at q
     cases q
    ·simp[Array.getElem?_eq_none q1] at q
   have hjz:j≠z:=fun q=>by
    subst q
    obtain ⟨x,hx,hb,VW⟩:=hw _ TO
    exact nJ x hx hb VW
   have h2:=wpOp_putIf TO (hf j oj TO e hd nJ) (fun cs b=>hs i oi cs b hi) (fun cs b=>hs j oj cs b TO) hQ hy (H.2 j (ready_mono hj e))
   refine wpOp_mono (fun a' w' h3=>⟨h3.2.1,ih (d.setIfInBounds j true) a' w' (fun k ok hk hki Wb hn=>hf k ok hk hki ?_ hn) (ready_mono hr (Ne.symm e)) h3.1 (h3.2.1 hjz) ?_⟩) h2
   ·by_cases Mz:j=k
    ·rw[←Mz];exact hd
    ·rwa [getD_set_ne true Mz] at Wb
   ·rw[Array.setIfInBounds_comm _ _ e]
    exact h3.2.2
def waits (md:Region.Mode) (ops:Array Oper) (z i:Nat):Bool:=match ops[z]? with
 |none=>true
 |some o=>o.after.any fun e=>Region.binds md e&&e.on==i
theorem qF (i:Nat) {oi:Oper} (v:Value) (x:Tmp) {n:Nat}{d:Array Bool}{a:Act}{w:World} (hi:ops[i]?=some oi) (hx:oi.dst=some x) (hw:waits md ops z i=true) (hs:Region.noSelect ops=true) (hf:Region.free md ops d i=true) (hr:(Region.ready md ops d).contains i=true)
  (hQ:∀c a w,Q (.panic c) (a.put (some x) v) w→Q (.panic c) a w) (hy:YieldsIf P ops T oi v a) (hT:T w) (h:cd P md ops Q T z n (d.setIfInBounds i true) (a.put (some x) v) w):cd P md ops Q T z (n+1) d a w:=by
 rw[←hx] at hQ h
 refine Ew hi (fun oz hz=>?_) (Region.noSelect_spec hs) hQ n d a w (Region.free_spec hi hf) (by simpa using hr) hy hT h
 unfold waits at hw
 rw[hz] at hw
 obtain ⟨e,he,hb⟩:=Array.any_eq_true'.1 hw
 simp only[Bool.and_eq_true,beq_iff_eq] at hb
 exact ⟨e,he,hb.1,hb.2⟩
theorem aw (i:Nat) {oi:Oper} (v:Value) (x:Tmp) {n:Nat}{d:Array Bool}{a:Act}{w:World} (hi:ops[i]?=some oi) (hx:oi.dst=some x) (hy:YieldsIf P ops T oi v a) (hT:T w) (h:cd P md ops Q T z n (d.setIfInBounds i true) (a.put (some x) v) w) (hw:waits md ops z i=true:=by kernel_rfl) (hs:Region.noSelect ops=true:=by kernel_rfl) (hf:Region.free md ops d i=true:=by kernel_rfl) (hr:(Region.ready md ops d).contains i=true:=by kernel_rfl)
  (hQ:∀c a w,Q (.panic c) (a.put (some x) v) w→Q (.panic c) a w:=by exact fun _ _ _ h=>h):cd P md ops Q T z (n+1) d a w:=qF i v x hi hx hw hs hf hr hQ hy hT h
theorem aF (i:Nat) {o:Oper}{n:Nat}{d:Array Bool}{a:Act}{w:World} (hr:Region.ready md ops d=[i]) (ho:ops[i]?=some o)
  (h:∀K:Act→World→Prop,(∀a' w',((i≠z→T w')∧cd P md ops Q T z n (d.setIfInBounds i true) a' w')→K a' w')→if Region.wanted o (yielded ops a.tmps)=true then Oper.wp P o a w K Q else K (a.put o.dst undef) w):cd P md ops Q T z (n+1) d a w:=by
 refine ⟨fun h0=>(by rw[h0] at hr;cases hr),fun j hj=>?_⟩
 rw[hr] at hj
 obtain rfl:j=i:=by simpa using hj
 exact wpOp_step ho h
theorem aO {o:Oper}{a:Act}{w:World}{K:Act→World→Prop}{E:Prop} (x:Tmp) (hx:o.dst=some x) (Bz:o.guard=none) (f:FuncId) (CK:∀vs,(callFunc f vs).run P w=.ok (.enter f vs) w) (args:Array Operand) (F7:Array TypeId)
  (ho:o.op=.call { callee:=.value (.func f),args:=args,argTypes:=F7 }) (vs:Array Value) (hv:args.map a.eval=vs) {R:Ending→World→Prop} (hc:Calls P f vs w R) (hK:∀e w',R e w'→∃v,e=.returned v∧K (a.put (some x) v) w') :
  if Region.wanted o (yielded ops a.tmps)=true then Oper.wp P o a w K Q else E :=
 EH Bz f CK args F7 ho vs hv hc (by rw[hx];exact hK)
theorem cQ {o:Oper}{a:Act}{w:World}{K:Act→World→Prop}{E:Prop} (x:Tmp) (hx:o.dst=some x) (f:FuncId) (CK:∀vs,(callFunc f vs).run P w=.ok (.enter f vs) w) (args:Array Operand) (F7:Array TypeId)
  (ho:o.op=.call { callee:=.value (.func f),args:=args,argTypes:=F7 }) (vs:Array Value) (hv:args.map a.eval=vs) {R:Ending→World→Prop} (hc:Calls P f vs w R) (hw:Region.wanted o (yielded ops a.tmps)=true) (hK:∀e w',R e w'→∃v,e=.returned v∧K (a.put (some x) v) w') :
  if Region.wanted o (yielded ops a.tmps)=true then Oper.wp P o a w K Q else E:=by
 rw[if_pos hw]
 have h2:Oper.wp P o a w K Q=o.upon P a K Q (.ok (.enter f vs) w):=by
  unfold Oper.wp
  simp[execOp,ho,resolve,invoke,←hv,Deferred.ofValue,Act.eval,CK]
 rw[h2,Oper.upon_enter]
 refine hc.mono ?_
 intro e w' hr
 obtain ⟨v,rfl,hk⟩:=hK e w' hr
 rw[hx]
 exact hk
theorem jS {o:Oper}{a:Act}{w:World}{K:Act→World→Prop}{E:Prop} (x y:Tmp) (hx:o.dst=some x) (f:FuncId) (fs cp:Array Value) (CK:∀vs,(callFunc f vs).run P w=.ok (.enter f vs) w) (args:Array Operand) (F7:Array TypeId)
  (ho:o.op=.call { callee:=.value (.tmp y),args:=args,argTypes:=F7 }) (hy:a.eval (.tmp y)=.func (.func f) fs cp) (vs:Array Value) (hv:fs++args.map a.eval++cp=vs) {R:Ending→World→Prop} (hc:Calls P f vs w R) (hw:Region.wanted o (yielded ops a.tmps)=true) (hK:∀e w',R e w'→∃v,e=.returned v∧K (a.put (some x) v) w') :
  if Region.wanted o (yielded ops a.tmps)=true then Oper.wp P o a w K Q else E:=by
 rw[if_pos hw]
 have h2:Oper.wp P o a w K Q=o.upon P a K Q (.ok (.enter f vs) w):=by
  unfold Oper.wp
  simp[execOp,ho,resolve,invoke,←hv,hy,Deferred.ofValue,CK]
 rw[h2,Oper.upon_enter]
 refine hc.mono ?_
 intro e w' hr
 obtain ⟨v,rfl,hk⟩:=hK e w' hr
 rw[hx]
 exact hk
theorem a8 {n:Nat}{d:Array Bool}{a:Act}{w:World} (hr:Region.ready md ops d=[]) (h:Q .normal a w):cd P md ops Q T z n d a w:=by
 cases n with
 |zero=>exact ⟨hr,h⟩
 |succ n=>exact ⟨fun _=>h,fun i hi=>by rw[hr] at hi;cases hi⟩
def ye (o:Oper) (t:Array Value):Option Value:=match o.op with
 |.move (.tmp k)=>some (t.getD k undef)
 |.assign (.tmp k)=>some (t.getD k undef)
 |.pick (.tmp k) (.tmp j) (.const v)=>match t.getD k undef with
  |.bool false=>some v
  |.bool true=>some (t.getD j undef)
  |_=>none
 |_=>none
def xR (md:Region.Mode) (ops:Array Oper) (z:Nat):List Nat→Array Bool→Array Value→Option (Array Bool×Array Value)
 |[],d,t=>some (d,t)
 |i::l,d,t=>match ops[i]? with
  |none=>none
  |some o=>match o.dst with
   |none=>none
   |some x=>if waits md ops z i&&Region.free md ops d i&&(Region.ready md ops d).contains i then
     match (if Region.wanted o (yielded ops t) then ye o t else some undef) with
     |none=>none
     |some v=>xR md ops z l (d.setIfInBounds i true) (t.setIfInBounds x v)
    else none
theorem KY {P:Program}{o:Oper}{a:Act}{v:Value} (h:ye o a.tmps=some v) (w:World):(execOp a.eval o).run P w=.ok (.value v) w:=by
 unfold ye at h
 split at h
 ·rename_i k ho
  obtain rfl:=zC h
  simp[execOp,ho,Act.eval]
 ·rename_i k ho
  obtain rfl:=zC h
  simp[execOp,ho,Act.eval]
 ·rename_i k y c ho
  split at h
  ·rename_i hb
   obtain rfl:=zC h
   have J8:a.tmps[k]?.getD undef=.bool false:=by simpa using hb
   simp[execOp,ho,Act.eval,J8,asBool]
  ·rename_i hb
   obtain rfl:=zC h
   have J8:a.tmps[k]?.getD undef=.bool true:=by simpa using hb
   simp[execOp,ho,Act.eval,J8,asBool]
  ·cases h
 ·cases h
theorem qG (hs:Region.noSelect ops=true) (hQ:∀x v c (a:Act) w,Q (.panic c) (a.put (some x) v) w→Q (.panic c) a w):∀(l:List Nat) (n:Nat) {d d':Array Bool}{a:Act}{t':Array Value}{w:World},T w→xR md ops z l d a.tmps=some (d',t')→cd P md ops Q T z n d' { a with tmps:=t' } w→∀m,m=n+l.length→cd P md ops Q T z m d a w
 |[],n,d,d',a,t',w,hT,h,k,m,hm=>by
  obtain ⟨rfl,rfl⟩:=Prod.mk.inj (zC h)
  obtain rfl:m=n:=hm
  exact k
 |i::l,n,d,d',a,t',w,hT,h,k,m,hm=>by
  unfold xR at h
  split at h
  ·cases h
  ·rename_i o ho
   split at h
   ·cases h
   ·rename_i x hx
    split at h
    ·rename_i hc
     simp only[Bool.and_eq_true] at hc
     obtain ⟨⟨hw,hf⟩,hr⟩:=hc
     split at h
     ·cases h
     ·rename_i v hv
      obtain rfl:m=(n+l.length)+1:=by rw[hm,List.length_cons];omega
      refine qF i v x ho hx hw hs hf hr (fun c a w=>hQ x v c a w) ?_ hT (qG hs hQ l n hT (a:=a.put (some x) v) h k _ rfl)
      by_cases fN:Region.wanted o (yielded ops a.tmps)=true
      ·rw[if_pos fN] at hv
       exact Or.inl ⟨fN,fun w _=>KY hv w⟩
      ·rw[if_neg fN] at hv
       exact Or.inr ⟨by simpa using fN,(zC hv).symm⟩
    ·cases h
def DA (md:Region.Mode) (ops:Array Oper) (z:Nat) (l:List Nat) (d:Array Bool) (t:Array Value) (r:Tmp):Bool:=match xR md ops z l d t with
 |none=>false
 |some (d',t')=>(Region.ready md ops d').isEmpty&&match t'.getD r undef with
  |.bool b=>!b
  |_=>false
theorem cW (l:List Nat) (r:Tmp) {m:Nat}{d:Array Bool}{a:Act}{w:World} (hT:T w) (h:DA md ops z l d a.tmps r=true) (k:∀t':Array Value,t'.getD r undef=.bool false→Q .normal { a with tmps:=t' } w) (hl:l.length≤m) (hs:Region.noSelect ops=true) (hQ:∀x v c (a:Act) w,Q (.panic c) (a.put (some x) v) w→Q (.panic c) a w):cd P md ops Q T z m d a w:=by
 unfold DA at h
 split at h
 ·cases h
 ·rename_i d' t' hg
  simp only[Bool.and_eq_true,List.isEmpty_iff] at h
  obtain ⟨h1,h2⟩:=h
  split at h2
  ·rename_i b hb
   refine qG hs hQ l (m-l.length) hT hg (a8 h1 (k t' ?_)) m (by omega)
   rw[hb]
   congr 1
   simpa using h2
  ·cases h2
end
end Go.Proofs.YtichhjfjcinjgaaGreatDoor
namespace Go.Proofs.YtichhjfjcinjgaaGreatDoor
open Go.RowKit Go.Shelf
attribute [local go_sem ↓] Go.wp_at_zero Go.wp_at_succ
theorem OA:Builder.Extra Tryz.prog Tryz.nB:={
 sizeBuilder:=by kernel_rfl
 liesBuilder:=by kernel_rfl
 t5:=Tryz.underlying5
 a5:=Tryz.isAgg5
 z5:=Tryz.sizeOf5
 v5:=Tryz.zeroValue5
 infoByte:=by kernel_rfl
 cellsByte:=by kernel_rfl
 sizeByte:=by kernel_rfl
 neB5:=by decide }
def bQ (ts:List ByteArray):ByteArray:=⟨(Lib.join (ts.map (·.data.toList)) [44,32]).toArray⟩
theorem Ie {w:World}{B:Nat}{u:Value}{ts:List ByteArray} (h:w.ownsRow B 9 1 u ts.length (cc ts)) (h0:0<ts.length) (Zi:ts.length≤4096) (hl:(bQ ts).size≤140737488355328):Calls Tryz.prog 169 #[u,.string ⟨#[44,32]⟩] w fun e w'=>e=.returned (.string (bQ ts))∧Below w.heap.size w w':=by
 obtain ⟨h1,⟨rfl,h2⟩|⟨g,c,cur,rfl,hB,hg,h3,h4,h5,h6⟩⟩:=h
 ·omega
 ·refine Any.strings_Join Tryz.E4 OA g 0 c ts ⟨#[44,32]⟩ w (fun j x hx=>?_) (zA hg).1 (by omega) h3 hl
  rw[Nat.zero_add,cell_of_row _ _ _ _ _ _ hg,←Array.getElem?_toList]
  have hj:=dT hx
  rw[←h6,List.getElem?_take] at hj
  split at hj
  ·exact hj
  ·cases hj
theorem Ro (n:Nat) (a b c:ByteArray):(aY n [a,b,c]).length=2*n+(a.size+(b.size+c.size))+1:=by
 unfold aY
 rw[zK,zK,List.length_replicate,List.flatMap_cons,List.flatMap_cons,List.flatMap_cons,List.flatMap_nil,List.append_nil,zK,zK,aZ,aZ,aZ]
 rfl
def cF:ByteArray:=⟨#[114,101,115,101,114,118,101,100,32]⟩
def bC:ByteArray:=⟨#[59]⟩
def eF (n:Nat) (ts:List ByteArray):List Nat:=if 0<ts.length then aY n [cF,bQ ts,bC] else []
theorem AA {W w:World}{B bb dd pp:Nat}{L:List Nat}{n C:Nat}{x y u:Value}{ts:List ByteArray} (h:Pn W B bb dd L n w) (hp:w.heap[pp]?=some (.cells #[bZ bb dd,x,y] 89 (0,0))) (PZ:pp≠bb) (hu:w.ownsRow C 9 1 u ts.length (cc ts)) (Zi:ts.length≤4096) (hl:L.length+(eF n ts).length≤1099511627776) :
  Calls Tryz.prog 168 #[u,.pointer (some ⟨pp,0,none⟩)] w (vI W B bb dd (L++eF n ts) n w):=by
 obtain ⟨au,lu,cu,rfl,hlu⟩:∃a l c,u=.slice a l c∧l=ts.length:=by
  obtain ⟨h1,⟨rfl,h2⟩|⟨g,c,cur,rfl,hB,hg,h3,h4,h5,h6⟩⟩:=hu
  ·exact ⟨none,0,0,rfl,h2.symm⟩
  ·exact ⟨_,_,_,rfl,rfl⟩
 subst hlu
 by_cases h0:0<ts.length
 ·have e0:decide ((0:Int)<(ts.length:Int))=true:=decide_eq_true (by omega)
  have hr:eF n ts=aY n [cF,bQ ts,bC]:=by unfold eF;rw[if_pos h0]
  rw[hr] at hl ⊢
  have hjl:(bQ ts).size≤1099511627776:=by
   have e:=Ro n cF (bQ ts) bC
   omega
  have HJ:=al (fun w' hb=>Ie (dL hu hb) h0 Zi (w:=w') (by omega))
  have HP:=al h
  have c0:w.cell? ⟨pp,0,none⟩=some (bZ bb dd):=cell_of_row _ _ _ _ _ _ hp
  unfold bZ at c0 hp
  have Yj:=al hp
  have Hl:=al hl
  have pC:=al PZ
  unfold cF bC at Hl ⊢
  obtain ⟨jt,ZN⟩:∃t,bQ ts=t:=⟨_,rfl⟩
  rw[ZN] at HJ Hl ⊢
  clear h hp hu hl hr hjl PZ ZN
  go_enter Tryz.func168,Tryz.ntmps168
  go_upto_region 1 with fail
  have hT:(fun w:World=>w.cell? ⟨pp,0,none⟩=some (.func (.func 80) #[] #[.pointer (some ⟨bb,0,none⟩),.pointer (some ⟨dd,0,none⟩)])) w.drew:=c0
  refine wp_region_any (by kernel_rfl) (bL (z:=99) (T:=fun w=>w.cell? ⟨pp,0,none⟩=some (.func (.func 80) #[] #[.pointer (some ⟨bb,0,none⟩),.pointer (some ⟨dd,0,none⟩)])) _ _ _ _ ?_)
  try (change cd _ _ _ _ _ _ _ _ _ (World.drew _))
  refine aw 0 (.pointer (some ⟨pp,0,none⟩)) 6 rfl rfl (Or.inl ⟨by rfl,fun w hw=>by go_simp⟩) hT ?_
  simp only[Act.put,zL,zM,zN]
  refine aw 1 (.func (.func 80) #[] #[.pointer (some ⟨bb,0,none⟩),.pointer (some ⟨dd,0,none⟩)]) 7 rfl rfl (Or.inl ⟨by rfl,fun w hw=>by go_simp⟩) hT ?_
  simp only[Act.put,zL,zM,zN]
  refine aw 2 (.slice au ts.length cu) 8 rfl rfl (Or.inl ⟨by rfl,fun w hw=>by go_simp⟩) hT ?_
  simp only[Act.put,zL,zM,zN]
  refine aF 3 (by kernel_rfl) rfl (fun K hK=>?_)
  refine aO 9 rfl rfl 169 (fun vs=>by kernel_rfl) #[.tmp 8,.const (.string ⟨#[44,32]⟩)] #[22,9] rfl #[.slice au ts.length cu,.string ⟨#[44,32]⟩] (by first|rfl|simp[Act.eval]) (ab HJ w.drew (below_drewN (zE _ _) 1)) ?_
  rintro e w1 ⟨rfl,aX⟩
  have aX:Below w.heap.size w w1:=⟨aX.os,aX.tape,aX.output,aX.size,aX.block⟩
  have pY:=(ab HP).below aX
  have qV:w1.cell? ⟨pp,0,none⟩=some (.func (.func 80) #[] #[.pointer (some ⟨bb,0,none⟩),.pointer (some ⟨dd,0,none⟩)]):=cell_of_row _ _ _ _ _ _ (Kp.below aX _ _ _ _ (ab pC) (ab Yj) (by decide))
  refine ⟨_,rfl,hK _ _ ⟨fun _=>qV,?_⟩⟩
  clear hK K hT
  simp only[Act.put,zL,zM,zN]
  have bd:Below w1.heap.size w1 (w1.alloc (.cells #[.string ⟨#[114,101,115,101,114,118,101,100,32]⟩,.string jt,.string ⟨#[59]⟩] 9)):=(zE _ _).alloc (zD _) _
  have Gd:(w1.alloc (.cells #[.string ⟨#[114,101,115,101,114,118,101,100,32]⟩,.string jt,.string ⟨#[59]⟩] 9)).cell? ⟨pp,0,none⟩=some (.func (.func 80) #[] #[.pointer (some ⟨bb,0,none⟩),.pointer (some ⟨dd,0,none⟩)]):=cell_of_row _ _ _ _ _ _ ((Kp.below aX).trans (Kp.below bd) _ _ _ _ (ab pC) (ab Yj) (by decide))
  refine aF 4 (by kernel_rfl) rfl (fun K hK=>?_)
  go_simp
  refine hK _ _ ⟨fun _=>Gd,?_⟩
  clear hK K
  refine aF 5 (by kernel_rfl) rfl (fun K hK=>?_)
  refine jS 11 7 rfl 80 #[] #[.pointer (some ⟨bb,0,none⟩),.pointer (some ⟨dd,0,none⟩)] (fun vs=>by kernel_rfl) #[.tmp 10] #[22] rfl (by first|rfl|simp[Act.eval]) #[.slice (some ⟨w1.heap.size,0,none⟩) 3 3,.pointer (some ⟨bb,0,none⟩),.pointer (some ⟨dd,0,none⟩)] (by first|rfl|simp[Act.eval]) (iG (pY.below bd) (my (ps:=[⟨#[114,101,115,101,114,118,101,100,32]⟩,jt,⟨#[59]⟩]) (c:=3) rfl pY.bi.lt.2) (ab Hl) (by simp)) (by rfl) ?_
  rintro e w2 ⟨rfl,y9,lZ⟩
  have HE:=al (show vI W B bb dd _ n w (.returned (.tuple #[])) w2 from ⟨rfl,y9,((Kp.below aX).trans (Kp.below bd)).trans lZ⟩)
  have zd:w2.cell? ⟨pp,0,none⟩=some (.func (.func 80) #[] #[.pointer (some ⟨bb,0,none⟩),.pointer (some ⟨dd,0,none⟩)]):=cell_of_row _ _ _ _ _ _ ((ab HE).2.2 _ _ _ _ (ab pC) (ab Yj) (by decide))
  refine ⟨_,rfl,hK _ _ ⟨fun _=>zd,?_⟩⟩
  clear hK K qV Gd y9 lZ aX bd pY HJ HP
  simp only[Act.put,zL,zM,zN]
  refine a8 (by kernel_rfl) ?_
  go_wp2
  refine bodyPost_ret (results_none rfl _ _ _) rfl ?_
  exact ab HE
 ·have e0:decide ((0:Int)<(ts.length:Int))=false:=decide_eq_false (by omega)
  have hr:eF n ts=[]:=by unfold eF;rw[if_neg h0]
  rw[hr,List.append_nil]
  have HE:=al (show vI W B bb dd L n w (.returned (.tuple #[])) w from ⟨rfl,h,Kp.refl _ _⟩)
  clear h hp hu hl hr PZ
  go_enter Tryz.func168,Tryz.ntmps168
  go_wp2
  refine bodyPost_ret (results_none rfl _ _ _) rfl ?_
  exact ab HE
end Go.Proofs.YtichhjfjcinjgaaGreatDoor
namespace Go.Proofs.YtichhjfjcinjgaaGreatDoor
open Go.RowKit
attribute [local go_sem ↓] Go.wp_at_zero Go.wp_at_succ
def eO (bb dd ll:Nat):Array Value:=#[bZ bb dd,cy ll dd,cq bb]
noncomputable def bA (s:ByteArray):ByteArray:=gE (34::jY s 0++[34])
theorem Re {w:World} (hP:il w) {mm:Nat}{most a b:Int} (hm:w.heap[mm]?=some (.cells #[.int .i64 most] 3 (0,0))) (ha:-2147483648≤a∧a≤2147483647) (hb:-2147483648≤b∧b≤2147483647) :
  Calls Tryz.prog 171 #[.agg #[.int .i64 a,.int .i64 b],.pointer (some ⟨mm,0,none⟩)] w fun e w'=>e=.returned (.string (eM most (a,b)))∧Below w.heap.size w w':=by
 have hn:=aJ w (.cells #[.int .i64 a,.int .i64 b] 111)
 have bG:Below w.heap.size w (w.alloc (.cells #[.int .i64 a,.int .i64 b] 111)):=(zE _ _).alloc (zD _) _
 have N0:=(bG.block _ (zA hm).1).trans hm
 obtain ⟨V,hV⟩:∃V,w.alloc (.cells #[.int .i64 a,.int .i64 b] 111)=V:=⟨_,rfl⟩
 rw[hV] at hn bG N0
 have c0:V.cell? ⟨w.heap.size,0,none⟩=some (.int .i64 a):=cell_of_row _ _ _ _ _ _ hn
 have c1:V.cell? ⟨w.heap.size,1,none⟩=some (.int .i64 b):=cell_of_row _ _ _ _ _ _ hn
 have m0:V.cell? ⟨mm,0,none⟩=some (.int .i64 most):=cell_of_row _ _ _ _ _ _ N0
 have HR:=al (Ad (hP.up bG) a b most ha hb)
 have HB:=al bG
 clear hn bG hm N0 hP ha hb
 go_enter Tryz.func171,Tryz.ntmps171
 go_wp2_with fail
 refine (ab HR).mono ?_
 rintro e w1 ⟨rfl,aX⟩
 have cO:=al ((ab HB).trans (aX.mono (ab HB).size))
 clear aX HR HB
 go_wp2
 go_ret
 exact ⟨rfl,ab cO⟩
noncomputable def fg (n:Nat) (most:Int) (rs:List (Int×Int)) (gs:List ByteArray):List Nat:=eF n (rs.map (eM most))++eF n (gs.map bA)
theorem oH {W w:World}{B bb dd ll:Nat}{L:List Nat}{n:Nat} (h:Pn W B bb dd L n w) (hP:il W) (hF:ir W) {v u:Value}{rs:List (Int×Int)}{gs:List ByteArray}{most:Int} (hv:Rl W v rs.length (lj rs)) (hu:Rl W u gs.length (cc gs))
  (hr:rs.length≤4096) (oV:∀r ∈ rs,(-2147483648≤r.1∧r.1≤2147483647)∧(-2147483648≤r.2∧r.2≤2147483647)) (hg:gs.length≤4096) (ep:∀s ∈ gs,s.size≤1048576) (hl:L.length+(fg n most rs gs).length≤1099511627776) :
  Calls Tryz.prog 130 #[.agg (eO bb dd ll),v,.int .i64 most,u] w (vI W B bb dd (L++fg n most rs gs) n w):=by
 have aM:=h.bi.lt.2
 have s1:=zJ w (.cells (eO bb dd ll) 89)
 have k1:=aJ w (.cells (eO bb dd ll) 89)
 have k2:=aJ (w.alloc (.cells (eO bb dd ll) 89)) (.cells #[.int .i64 most] 3)
 rw[s1] at k2
 have sS:=(Below.heap_alloc (w.alloc (.cells (eO bb dd ll) 89)) (.cells #[.int .i64 most] 3) _ (by rw[s1];omega)).trans k1
 have lk:Below w.heap.size w ((w.alloc (.cells (eO bb dd ll) 89)).alloc (.cells #[.int .i64 most] 3)):=((zE _ _).alloc (zD _) _).alloc (by omega) _
 unfold eO at sS k2 lk ⊢
 obtain ⟨V,hV⟩:∃V,(w.alloc (.cells #[bZ bb dd,cy ll dd,cq bb] 89)).alloc (.cells #[.int .i64 most] 3)=V:=⟨_,rfl⟩
 rw[hV] at sS k2 lk
 have RR:=h.below lk
 have Uz:=al (FB (T:=eM most) hv hr (f:=⟨171,#[],#[.pointer (some ⟨w.heap.size+1,0,none⟩)]⟩) (fun vs w=>by kernel_rfl) V RR.bU (fun r Zr w' J8=>by
  have hm:=(J8.block _ (zA k2).1).trans k2
  exact Re (hP.up (RR.bU.trans (J8.mono RR.bU.size))) hm (oV r Zr).1 (oV r Zr).2))
 have UA:=al (fun w' (J8:Below W.heap.size W w')=>FA (T:=bA) hu hg (f:=⟨44,#[],#[]⟩) (fun vs w=>by kernel_rfl) w' J8 (fun s hs w2 bd=>wQ (hF.up (J8.trans (bd.mono J8.size))) s (ep s hs)))
 have JY:=al (show Kp bb w V from Kp.below lk)
 have HPV:=al RR
 have iO:=al sS
 have pC:=al (show w.heap.size≠bb by omega)
 have Hl:=al hl
 have Hr:=al hr
 have Hg:=al hg
 clear RR lk k1 sS k2 s1 aM h hP hF oV ep hr hg hl
 obtain ⟨av,cv,rfl,-,-⟩:=hv
 obtain ⟨au,cu,rfl,-,-⟩:=hu
 unfold fg at Hl ⊢
 unfold Fv.val at Uz UA
 simp only at Uz UA
 unfold bZ cy cq at hV iO ⊢
 go_enter Tryz.func130,Tryz.ntmps130
 go_wp2_with fail
 refine (ab Uz).mono ?_
 rintro e w1 ⟨u1,rfl,dQ,aX⟩
 have pY:=(ab HPV).below aX
 have mf:=(aX.block _ (zA (ab iO)).1).trans (ab iO)
 have yV:=al ((ab JY).trans (Kp.below aX))
 have MY:=al (AA (ts:=rs.map (eM most)) pY mf (ab pC) (by rw[List.length_map];exact dQ) (by rw[List.length_map];exact ab Hr) (by have:=ab Hl;rw[zK] at this;omega))
 have Tt:=al mf
 obtain ⟨a1,l1,c1,rfl⟩:∃a l c,u1=.slice a l c:=by
  obtain ⟨h1,⟨rfl,h2⟩|⟨g,c,cur,rfl,h3⟩⟩:=dQ
  ·exact ⟨none,0,0,rfl⟩
  ·exact ⟨_,_,_,rfl⟩
 clear pY mf dQ aX Uz HPV JY iO
 go_wp2_with fail
 refine (ab MY).mono ?_
 rintro e w2 ⟨rfl,y9,lZ⟩
 have QF:=al (ab UA w2 y9.bU)
 have fH:=al y9
 have Tq:=al ((ab yV).trans lZ)
 have Pz:=al (lZ _ _ _ _ (ab pC) (ab Tt) (by decide))
 clear y9 lZ MY yV Tt UA
 go_wp2_with fail
 refine (ab QF).mono ?_
 rintro e w3 ⟨u3,rfl,lT,cz⟩
 have qR:=(ab fH).below cz
 have sU:=(cz.block _ (zA (ab Pz)).1).trans (ab Pz)
 have Tp:=al ((ab Tq).trans (Kp.below cz))
 have HL3:=al (AA (ts:=gs.map bA) qR sU (ab pC) (by rw[List.length_map];exact lT) (by rw[List.length_map];exact ab Hg) (by rw[zK];have:=ab Hl;rw[zK] at this;omega))
 obtain ⟨a3,l3,c3,rfl⟩:∃a l c,u3=.slice a l c:=by
  obtain ⟨h1,⟨rfl,h2⟩|⟨g,c,cur,rfl,h3⟩⟩:=lT
  ·exact ⟨none,0,0,rfl⟩
  ·exact ⟨_,_,_,rfl⟩
 clear qR sU lT cz QF fH Tq Pz
 go_wp2_with fail
 refine (ab HL3).mono ?_
 rintro e w4 ⟨rfl,Mw,nK⟩
 rw[List.append_assoc] at Mw
 have HE:=al (show vI W B bb dd _ n w (.returned (.tuple #[])) w4 from ⟨rfl,Mw,(ab Tp).trans nK⟩)
 clear Mw nK HL3 Tp
 go_wp2
 refine bodyPost_ret (results_none rfl _ _ _) rfl ?_
 exact ab HE
end Go.Proofs.YtichhjfjcinjgaaGreatDoor

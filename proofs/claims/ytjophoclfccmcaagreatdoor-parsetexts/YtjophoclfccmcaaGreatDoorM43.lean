import Derived.Test.YtjophoclfccmcaaGreatDoorPfS
import Derived.OrdersHeld
namespace Go.Proofs.YtjophoclfccmcaaGreatDoor
open Go.RowKit
attribute [local go_sem ↓] Go.wp_at_zero Go.wp_at_succ
theorem JR {P:Program}{ops:Array Oper}{o:Oper}{a:Act}{w:World}{K:Act→World→Prop}{Q:Exit→Act→World→Prop}{E:Prop} (rU:o.guard=none) (f:FuncId) (rV:∀vs,(callFunc f vs).run P w=.ok (.enter f vs) w) (args:Array Operand) (PT:Array TypeId)
  (ho:o.op=.call { callee:=.value (.func f),args:=args,argTypes:=PT }) (vs:Array Value) (hv:args.map a.eval=vs) {R:Ending→World→Prop} (hc:Calls P f vs w R) (hK:∀e w',R e w'→∃v,e=.returned v∧K (a.put o.dst v) w') :
  if Region.wanted o (yielded ops a.tmps)=true then Oper.wp P o a w K Q else E:=by
 have hw:Region.wanted o (yielded ops a.tmps)=true:=by simp[Region.wanted,rU]
 rw[if_pos hw]
 have h2:Oper.wp P o a w K Q=o.upon P a K Q (.ok (.enter f vs) w):=by
  unfold Oper.wp
  simp[execOp,ho,resolve,invoke,←hv,Act.eval,Deferred.ofValue,rV]
 rw[h2,Oper.upon_enter]
 refine hc.mono ?_
 intro e w' hr
 obtain ⟨v,rfl,hk⟩:=hK e w' hr
 exact hk
section
variable {P : Program} {ops : Array Oper} {Q : Exit → Act → World → Prop} {md : Region.Mode} {T : World → Prop} {z : Nat}
def dT (P:Program) (md:Region.Mode) (ops:Array Oper) (Q:Exit→Act→World→Prop) (T:World→Prop) (z:Nat):Nat→Array Bool→Act→World→Prop
 |0,d,a,w=>Region.ready md ops d=[]∧Q .normal a w
 |n+1,d,a,w=>(Region.ready md ops d=[]→Q .normal a w)∧∀i ∈ Region.ready md ops d,wpOp P ops Q i (fun a' w'=>(i≠z→T w')∧dT P md ops Q T z n (d.setIfInBounds i true) a' w') a w
theorem dL:∀(n:Nat) (d:Array Bool) (a:Act) (w:World),dT P md ops Q T z n d a w→wpAny P md ops Q n d a w
 |0,_,_,_,h=>h
 |n+1,_,_,_,h=>⟨h.1,fun i hi=>wpOp_mono (fun a' w' h'=>dL n _ a' w' h'.2) (h.2 i hi)⟩
theorem JF {i:Nat}{oi oz:Oper}{v:Value} (hi:ops[i]?=some oi) (hz:ops[z]?=some oz) (hw:∃e ∈ oz.after,Region.binds md e=true∧e.on=i) (hs:∀(j:Nat) (o:Oper) cs b,ops[j]?=some o→o.op≠.select cs b)
  (hQ:∀c a w,Q (.panic c) (a.put oi.dst v) w→Q (.panic c) a w):∀(n:Nat) (d:Array Bool) (a:Act) (w:World),
   (∀j oj,ops[j]?=some oj→j≠i→d.getD j true=false→(∀e ∈ oj.after,Region.binds md e=true→e.on≠i)→oi.apart ops oj=true)→i ∈ Region.ready md ops d→YieldsIf P ops T oi v a→T w →
   dT P md ops Q T z n (d.setIfInBounds i true) (a.put oi.dst v) w→dT P md ops Q T z (n+1) d a w:=by
 intro n
 induction n with
 |zero =>
  intro d a w _ hr hy hT H
  refine ⟨fun h=>(by rw[h] at hr;cases hr),fun j hj=>?_⟩
  by_cases e:j=i
  ·rw[e];exact hy.wpOp hi hT ⟨fun _=>hT,H⟩
  ·have q:=ready_mono hj e
   rw[H.1] at q
   cases q
 |succ n ih =>
  intro d a w hf hr hy hT H
  refine ⟨fun h=>(by rw[h] at hr;cases hr),fun j hj=>?_⟩
  by_cases e:j=i
  ·rw[e];exact hy.wpOp hi hT ⟨fun _=>hT,H⟩
  ·obtain ⟨hd,oj,Zj,iT⟩:=mem_ready.1 hj
   have Af:=(mem_ready.1 hr).1
   have pH:∀x ∈ oj.after,Region.binds md x=true→x.on≠i:=fun x hx hb Xa=>by
    have q:=iT x hx hb
    rw[Xa] at q
    rcases Nat.lt_or_ge i d.size with q1|q1
    ·simp[q1] at Af q
     rw[Af] at q
     cases q
    ·simp[Array.getElem?_eq_none q1] at q
   have hjz:j≠z:=fun q=>by
    subst q
    obtain ⟨x,hx,hb,Xa⟩:=hw
    rw[hz] at Zj
    obtain rfl:=zC Zj
    exact pH x hx hb Xa
   have h2:=wpOp_putIf Zj (hf j oj Zj e hd pH) (fun cs b=>hs i oi cs b hi) (fun cs b=>hs j oj cs b Zj) hQ hy (H.2 j (ready_mono hj e))
   refine wpOp_mono (fun a' w' h3=>⟨h3.2.1,ih (d.setIfInBounds j true) a' w' (fun k ok hk hki cB hn=>hf k ok hk hki ?_ hn) (ready_mono hr (Ne.symm e)) h3.1 (h3.2.1 hjz) ?_⟩) h2
   ·by_cases Tt:j=k
    ·rw[←Tt];exact hd
    ·rwa [getD_set_ne true Tt] at cB
   ·rw[Array.setIfInBounds_comm _ _ e]
    exact h3.2.2
def waits (md:Region.Mode) (ops:Array Oper) (z i:Nat):Bool:=match ops[z]? with
 |none=>false
 |some o=>o.after.any fun e=>Region.binds md e&&e.on==i
theorem C9 (i:Nat) {oi:Oper} (v:Value) (x:Tmp) {n:Nat}{d:Array Bool}{a:Act}{w:World} (hi:ops[i]?=some oi) (hx:oi.dst=some x) (hw:waits md ops z i=true) (hs:Region.noSelect ops=true) (hf:Region.free md ops d i=true) (hr:(Region.ready md ops d).contains i=true)
  (hQ:∀c a w,Q (.panic c) (a.put (some x) v) w→Q (.panic c) a w) (hy:YieldsIf P ops T oi v a) (hT:T w) (h:dT P md ops Q T z n (d.setIfInBounds i true) (a.put (some x) v) w):dT P md ops Q T z (n+1) d a w:=by
 rw[←hx] at hQ h
 unfold waits at hw
 split at hw
 ·cases hw
 ·rename_i oz hz
  obtain ⟨e,he,hb⟩:=Array.any_eq_true'.1 hw
  simp only[Bool.and_eq_true,beq_iff_eq] at hb
  exact JF hi hz ⟨e,he,hb.1,hb.2⟩ (Region.noSelect_spec hs) hQ n d a w (Region.free_spec hi hf) (by simpa using hr) hy hT h
theorem wpAnyZ_tk (i:Nat) {oi:Oper} (v:Value) (x:Tmp) {n:Nat}{d:Array Bool}{a:Act}{w:World} (hi:ops[i]?=some oi) (hx:oi.dst=some x) (hy:YieldsIf P ops T oi v a) (hT:T w) (h:dT P md ops Q T z n (d.setIfInBounds i true) (a.put (some x) v) w) (hw:waits md ops z i=true:=by kernel_rfl) (hs:Region.noSelect ops=true:=by kernel_rfl) (hf:Region.free md ops d i=true:=by kernel_rfl) (hr:(Region.ready md ops d).contains i=true:=by kernel_rfl)
  (hQ:∀c a w,Q (.panic c) (a.put (some x) v) w→Q (.panic c) a w:=by exact fun _ _ _ h=>h):dT P md ops Q T z (n+1) d a w:=C9 i v x hi hx hw hs hf hr hQ hy hT h
theorem aO (i:Nat) {o:Oper}{n:Nat}{d:Array Bool}{a:Act}{w:World} (hr:Region.ready md ops d=[i]) (ho:ops[i]?=some o)
  (h:∀K:Act→World→Prop,(∀a' w',((i≠z→T w')∧dT P md ops Q T z n (d.setIfInBounds i true) a' w')→K a' w')→if Region.wanted o (yielded ops a.tmps)=true then Oper.wp P o a w K Q else K (a.put o.dst undef) w):dT P md ops Q T z (n+1) d a w:=by
 refine ⟨fun h0=>(by rw[h0] at hr;cases hr),fun j hj=>?_⟩
 rw[hr] at hj
 obtain rfl:j=i:=by simpa using hj
 exact wpOp_step ho h
theorem eJ {o:Oper}{a:Act}{w:World}{K:Act→World→Prop}{E:Prop} (x:Tmp) (hx:o.dst=some x) (rU:o.guard=none) (f:FuncId) (rV:∀vs,(callFunc f vs).run P w=.ok (.enter f vs) w) (args:Array Operand) (PT:Array TypeId)
  (ho:o.op=.call { callee:=.value (.func f),args:=args,argTypes:=PT }) (vs:Array Value) (hv:args.map a.eval=vs) {R:Ending→World→Prop} (hc:Calls P f vs w R) (hK:∀e w',R e w'→∃v,e=.returned v∧K (a.put (some x) v) w') :
  if Region.wanted o (yielded ops a.tmps)=true then Oper.wp P o a w K Q else E :=
 JR rU f rV args PT ho vs hv hc (by rw[hx];exact hK)
theorem df {n:Nat}{d:Array Bool}{a:Act}{w:World} (hr:Region.ready md ops d=[]) (h:Q .normal a w):dT P md ops Q T z n d a w:=by
 cases n with
 |zero=>exact ⟨hr,h⟩
 |succ n=>exact ⟨fun _=>h,fun i hi=>by rw[hr] at hi;cases hi⟩
end
end Go.Proofs.YtjophoclfccmcaaGreatDoor
namespace Go.Proofs.YtjophoclfccmcaaGreatDoor
open Go.RowKit
def Nq (l:Nat) (L:List Nat) (ss:List Slot) (k:Nat):Prop:=l≤k∧k ∉ L∧∀(i:Nat) (sl:Slot),ss[i]?=some sl→sl.v.ownBlock≠some k
structure MV where
 f:Option Addr×Nat
 o:Option Addr×Nat
 m:Option Addr×Nat
 e:Option Addr×Nat
 r:Option Addr×Nat
 g:Option Addr×Nat
 cm:List Value
 ce:List Value
def MV.ss (v:MV) (x:Mp):List Slot:=sY x (.slice v.f.1 x.fs.length v.f.2) (.slice v.o.1 x.os.length v.o.2) (.slice v.m.1 x.ms.length v.m.2) (.slice v.e.1 x.es.length v.e.2) (.slice v.r.1 x.rs.length v.r.2) (.slice v.g.1 x.gs.length v.g.2) v.cm v.ce
def MV.arr (v:MV) (x:Mp):Array Value:=#[.string x.name,.slice v.f.1 x.fs.length v.f.2,.slice v.o.1 x.os.length v.o.2,.slice v.m.1 x.ms.length v.m.2,.slice v.e.1 x.es.length v.e.2,.slice v.r.1 x.rs.length v.r.2,.slice v.g.1 x.gs.length v.g.2]
structure nI (l:Nat) (L:List Nat) (w:World) (x:Mp) (v:MV):Prop where
 sl:Sl l L w (v.ss x)
 ms:eU (Nq l L (v.ss x)) w v.cm x.ms
 es:fH (Nq l L (v.ss x)) w v.ce x.es
theorem nI.goes {l:Nat}{L L':List Nat}{w w':World}{x x':Mp}{v v':MV} (h:nI l L w x v) (hs:Sl l L' w' (v'.ss x')) (h1:v'.cm=v.cm) (h2:v'.ce=v.ce) (h3:x'.ms=x.ms) (h4:x'.es=x.es) (hg:wW (Nq l L (v.ss x)) (Nq l L' (v'.ss x')) w w'):nI l L' w' x' v' :=
 ⟨hs,by rw[h1,h3];exact fb _ _ _ _ _ _ hg h.ms,by rw[h2,h4];exact eP _ _ _ _ _ _ hg h.es⟩
theorem nI.F1 {l:Nat}{L:List Nat}{w w':World}{x:Mp}{v:MV} (h:nI l L w x v) (hs:w.heap.size≤w'.heap.size) (hb:∀k:Nat,l≤k→k ∉ L→k<w.heap.size→w'.heap[k]?=w.heap[k]?):nI l L w' x v :=
 h.goes (h.sl.F1 hs (fun k ⟨i,sl,hi,hk⟩=>hb k ((h.sl.own i sl hi).lt k hk).1 (h.sl.q i sl k hi hk) ((h.sl.own i sl hi).lt k hk).2)) rfl rfl rfl rfl (fun k hp hk=>⟨hp,hb k hp.1 hp.2.1 hk⟩)
theorem nI.kept {l b:Nat}{L:List Nat}{w w':World}{x:Mp}{v:MV} (h:nI l L w x v) (hg:w.grownBy w' (some b)) (hb:b<l∨b ∈ L):nI l L w' x v :=
 h.F1 hg.size (fun k h1 h2 h3=>hg.block k h3 (fun e=>by
  have e:k=b:=zC e
  subst e
  rcases hb with hb|hb
  ·omega
  ·exact h2 hb))
theorem nI.alloc {l:Nat}{L:List Nat}{w:World}{x:Mp}{v:MV} (h:nI l L w x v) (o:Obj):nI l L (w.alloc o) x v:=h.F1 (by rw[zJ];omega) (fun k _ _ hk=>Below.heap_alloc _ _ _ hk)
theorem nI.box {l:Nat}{L:List Nat}{w:World}{x:Mp}{v:MV} (h:nI l L w x v) (o:Obj):nI l (w.heap.size::L) (w.alloc o) x v :=
 h.goes (h.sl.box o) rfl rfl rfl rfl (fun k hp hk=>⟨⟨hp.1,fun hm=>by
  rcases List.mem_cons.1 hm with rfl|hm
  ·omega
  ·exact hp.2.1 hm,hp.2.2⟩,Below.heap_alloc _ _ _ hk⟩)
theorem nI.less {l:Nat}{L L':List Nat}{w:World}{x:Mp}{v:MV} (h:nI l L w x v) (hl:∀k ∈ L',k ∈ L):nI l L' w x v :=
 h.goes (h.sl.less hl) rfl rfl rfl rfl (fun k hp _=>⟨⟨hp.1,fun hm=>hp.2.1 (hl k hm),hp.2.2⟩,rfl⟩)
theorem nI.app {l i n':Nat}{L:List Nat}{w w':World}{x x':Mp}{v v':MV}{sl:Slot}{u:Value}{sb:List Value} (h:nI l L w x v) (hi:(v.ss x)[i]?=some sl) (ho:w'.ownsRow l sl.t sl.sz u n' sb) (hg:w.grownBy w' sl.v.ownBlock) (fp:u.ownBlock=sl.v.ownBlock∨u.ownBlock=some w.heap.size) (he:v'.ss x'=(v.ss x).set i ⟨sl.t,sl.sz,u,n',sb⟩) (h1:v'.cm=v.cm) (h2:v'.ce=v.ce) (h3:x'.ms=x.ms) (h4:x'.es=x.es):nI l L w' x' v':=by
 refine h.goes (by rw[he];exact h.sl.app hi ho hg fp) h1 h2 h3 h4 (fun k hp hk=>⟨⟨hp.1,hp.2.1,fun j a hj=>?_⟩,hg.block k hk (fun e=>hp.2.2 i sl hi e.symm)⟩)
 rw[he,List.getElem?_set] at hj
 by_cases e:i=j
 ·subst e
  rw[if_pos rfl,if_pos (zB hi).1] at hj
  obtain rfl:=zC hj
  intro hq
  rcases fp with fp|fp
  ·exact hp.2.2 i sl hi (by rw[←fp];exact hq)
  ·have:some w.heap.size=some k:=by rw[←fp];exact hq
   have:=zC this
   omega
 ·rw[if_neg e] at hj
  exact hp.2.2 j a hj
structure Fm (b:Nat) (ss:List Slot) (W w:World):Prop where
 os:w.os=W.os
 tape:w.tape=W.tape
 output:w.output=W.output
 size:W.heap.size≤w.heap.size
 block:∀k,k<W.heap.size→k≠b→(∀(i:Nat) (sl:Slot),ss[i]?=some sl→sl.v.ownBlock≠some k)→w.heap[k]?=W.heap[k]?
def K9:List ByteArray:=[⟨#[111,112,116,105,111,110]⟩,⟨#[103,114,111,117,112]⟩,⟨#[111,112,116,105,111,110,97,108]⟩,⟨#[114,101,112,101,97,116,101,100]⟩,⟨#[114,101,113,117,105,114,101,100]⟩,⟨#[111,110,101,111,102]⟩,⟨#[109,101,115,115,97,103,101]⟩,⟨#[101,110,117,109]⟩,⟨#[114,101,115,101,114,118,101,100]⟩]
theorem O6 (k:ByteArray):(rK k=some dw∧k ∈ K9)∨(rK k=none∧k ∉ K9):=by
 unfold rK K9
 repeat' split
 all_goals first
  |(left
    rename_i h
    have:=gE h
    subst this
    exact ⟨rfl,by simp⟩)
  |(right
    refine ⟨rfl,fun hm=>?_⟩
    simp only[List.mem_cons,List.not_mem_nil,or_false] at hm
    rcases hm with rfl|rfl|rfl|rfl|rfl|rfl|rfl|rfl|rfl<;>(rename_i h1 h2 h3 h4 h5 h6 h7 h8 h9;first|exact h1 (by decide +kernel)|exact h2 (by decide +kernel)|exact h3 (by decide +kernel)|exact h4 (by decide +kernel)|exact h5 (by decide +kernel)|exact h6 (by decide +kernel)|exact h7 (by decide +kernel)|exact h8 (by decide +kernel)|exact h9 (by decide +kernel)))
noncomputable def Yo (x:Mp) (s:ax):Except (Int×Int) (Mp×ax):=bQ (cu (x.os.length:Int) s) (fun d s'=>.ok ({ x with fs:=x.fs++[d] },s'))
theorem NJ {x:ByteArray}{l:List ByteArray}:CK x l=true↔x ∈ l:=by
 unfold CK
 rw[List.any_eq_true]
 constructor
 ·rintro ⟨y,hy,h⟩
  rw[Lib.bytes_beq_iff] at h
  rw[←h]
  exact hy
 ·intro h
  exact ⟨_,h,by rw[Lib.bytes_beq_iff]⟩
theorem FH {l:List ByteArray}{s:ax} (h:s.here.kind=1) (hm:s.here.text ∈ l):dp l s=.error (52,s.here.spot):=by
 unfold dp
 rw[if_pos ⟨h,NJ.2 hm⟩]
theorem lD {l:List ByteArray}{s:ax} (h:¬(s.here.kind=1∧s.here.text ∈ l)):dp l s=.ok ((),s):=by
 unfold dp
 rw[if_neg (fun q=>h ⟨q.1,NJ.1 q.2⟩)]
theorem QE {x:Mp}{s:ax} (hg:Gd s):bV rK z8 x s=if aH s.here 4 ⟨#[59]⟩=true then .ok (x,s.nx) else bQ (dp K9 s) (fun _ s1=>Yo x s1):=by
 unfold bV
 rw[cV hg.bg]
 by_cases h1:aH s.here 4 ⟨#[59]⟩=true
 ·rw[if_pos h1,if_pos h1]
 ·rw[if_neg h1,if_neg h1]
  dsimp only
  have fin:z8 x s=Yo x s:=by
   unfold z8 Yo
   cases cu (x.os.length:Int) s with
   |error y=>rfl
   |ok p=>rfl
  rcases O6 s.here.text with ⟨e1,e2⟩|⟨e1,e2⟩
  ·rw[e1]
   dsimp only
   by_cases hk:s.here.kind=1
   ·rw[if_pos hk,FH hk e2]
    rfl
   ·rw[if_neg hk,lD (fun q=>hk q.1)]
    exact fin
  ·rw[e1,lD (fun q=>e2 q.2)]
   exact fin
def EZ:ByteArray:=⟨#[111,110,101,111,102]⟩
theorem Td (x:Mp) (s:ax) (x':Mp) (s':ax) (h:bV rK z8 x s=.ok (x',s')):Gt s s'∧(s.en.kind=5→0<s.ts.length):=by
 refine gZ (fun k f hf x s x' s' h=>?_) (fun x s x' s' h=>?_) h
 ·rcases O6 k with ⟨e1,_⟩|⟨e1,_⟩
  ·rw[e1] at hf
   obtain rfl:=zC hf
   cases h
  ·rw[e1] at hf;cases hf
 ·unfold z8 lS at h
  split at h
  ·cases h
  ·rename_i d s1 h1
   simp only[Except.ok.injEq,Prod.mk.injEq] at h
   obtain ⟨_,rfl⟩:=h
   exact jQ h1
noncomputable def MU (k:Nat) (x:Mp) (s:ax):Except (Int×Int) (Mp×ax):=if x.fs.length=k then .error (bS s) else bQ (bC s) (fun _ s'=>.ok (x,s'))
noncomputable def jf (k:Nat) (x:Mp) (s:ax):Except (Int×Int) (Mp×ax):=bQ (od (bV rK z8) x s) (MU k)
noncomputable def tC (k:Nat) (x:Mp) (s:ax):Except (Int×Int) (Mp×ax):=bQ (Yo x s) (fun x' s'=>jf k x' s')
theorem ML {x:Mp}{R:PX}{k pt:Int}{tt nm:ByteArray} (hg:lp R) (hp:EN R ⟨k,pt,tt⟩) (hk:∀s,R=.ok s→aH s.here 1 EZ=true)
  (cO:lp (aT (al (aT (al (aT (al R (aN pt))) (cn EZ))) aQ)))
  (hv:∀a s,al (aT (al (aT (al R (aN pt))) (cn EZ))) aQ=.ok (a,s)→Value.string nm=.string a) :
  al R (fM x)=al (aT (al (aT (al (aT (al (aT (al R (aN pt))) (cn EZ))) aQ)) (au ⟨#[123]⟩))) (jf x.fs.length { x with os:=x.os++[nm] }):=by
 match R,hg,hp,hk,cO,hv with
 |.error y,_,_,_,_,_=>rfl
 |.ok s,hg,hp,hk,cO,hv =>
  have ht:pt=s.here.spot:=hp.2.1
  subst ht
  have hb:=nk (hk s rfl)
  simp only[fh,jE,seq_assoc] at cO hv ⊢
  simp only[al] at cO hv ⊢
  unfold fM
  rw[gQ hg,←hb]
  cases h1:aN s.here.spot s with
  |error y=>rfl
  |ok p1 =>
   rw[h1] at cO hv
   simp only[aK] at cO hv ⊢
   cases h2:cn EZ p1.2 with
   |error y=>rfl
   |ok p2 =>
    rw[h2] at cO hv
    simp only[aK] at cO hv ⊢
    cases h3:aQ p2.2 with
    |error y=>rfl
    |ok p3 =>
     rw[h3] at cO
     have e3:nm=p3.1:=by simpa using hv p3.1 p3.2 h3
     have rU:Gd p3.2:=cO
     obtain ⟨a3,s3⟩:=p3
     dsimp only at e3 rU ⊢
     unfold kr
     rw[aK,GW Td rU]
     dsimp only
     cases h4:au ⟨#[123]⟩ s3 with
     |error y=>rfl
     |ok p4 =>
      rw[aK,aK,e3]
      unfold jf MU mX
      cases od (bV rK z8) { x with os:=x.os++[a3] } p4.2 with
      |error y=>rfl
      |ok p5 =>
       rw[aK]
       dsimp only
       by_cases hl:p5.1.fs.length=x.fs.length
       ·rw[if_pos hl,if_pos hl]
       ·rw[if_neg hl,if_neg hl]
        cases bC p5.2 with
        |error y=>rfl
        |ok p6=>rfl
theorem MN {k:Nat}{x:Mp}{s:ax} (hg:Gd s) (hq:¬aH s.here 4 ⟨#[125]⟩=true):jf k x s=if aH s.here 4 ⟨#[59]⟩=true then jf k x s.nx else al (aT (al (.ok s) (dp K9))) (tC k x):=by
 unfold jf tC
 rw[sC Td hg hq,QE hg]
 by_cases h1:aH s.here 4 ⟨#[59]⟩=true
 ·rw[if_pos h1,if_pos h1]
  rfl
 ·rw[if_neg h1,if_neg h1,seq_assoc,seq_assoc,fh]
  rfl
theorem UD {k:Nat}{x:Mp}{R:PX}{d:Fd} (hv:∀a s,al R (cu (x.os.length:Int))=.ok (a,s)→a=d):al R (tC k x)=al (aT (al R (cu (x.os.length:Int)))) (jf k { x with fs:=x.fs++[d] }):=by
 match R,hv with
 |.error y,_=>rfl
 |.ok s,hv =>
  show tC k x s=al (aT (cu (x.os.length:Int) s)) _
  unfold tC Yo
  cases hr:cu (x.os.length:Int) s with
  |error y=>rfl
  |ok p =>
   obtain ⟨a,s'⟩:=p
   obtain rfl:=hv a s' hr
   rfl
theorem QQ {R:PX}{o:Int}{t:ByteArray} (hv:∀a s,al R (fun s=>ba true (lk true s))=.ok (a,s)→Value.string t=.string a):al (aT (al R (fun s=>ba true (lk true s)))) (AQ ⟨1,⟨#[]⟩,t,⟨#[]⟩,0,o⟩)=al R (cu o):=by
 match R,hv with
 |.error y,_=>rfl
 |.ok s,hv =>
  show al (aT (ba true s.begun)) _=cu o s
  replace hv:∀a s',ba true s.begun=.ok (a,s')→Value.string t=.string a:=hv
  unfold cu gK
  cases h3:ba true s.begun with
  |error y=>rfl
  |ok p3 =>
   have e3:t=p3.1:=by simpa using hv p3.1 p3.2 h3
   rw[e3]
   rfl
def Uu (q:Bool) (R:PX):PX:=if q=true then R else kN R
theorem UF {k:Nat}{x:Mp}{R:PX}{q:Bool}{F0:Except (Int×Int) (Mp×ax)} (hg:lp R) (hq:∀s,R=.ok s→aH s.here 4 ⟨#[125]⟩=true) (hk:q=true↔¬x.fs.length=k) (hf:F0=al R (jf k x)):aT (al (Uu q R) (au ⟨#[125]⟩))=aT F0∧∀a s,F0=.ok (a,s)→a=x:=by
 subst hf
 match R,hg,hq with
 |.error y,_,_=>exact ⟨by unfold Uu;split<;>rfl,fun _ _ e=>(by cases e)⟩
 |.ok s,hg,hq =>
  have h1:=hq s rfl
  show _=aT (jf k x s)∧∀a s',jf k x s=.ok (a,s')→a=x
  unfold jf MU Uu
  rw[yE h1,aK]
  dsimp only
  by_cases hl:x.fs.length=k
  ·rw[if_pos hl,if_neg (fun q=>(hk.1 q) hl)]
   exact ⟨rfl,fun _ _ e=>(by cases e)⟩
  ·rw[if_neg hl,if_pos (hk.2 hl),fZ hg.bg]
   show aT (au ⟨#[125]⟩ s)=_∧_
   rw[gR hg.bg,if_pos h1]
   exact ⟨rfl,fun _ _ e=>(by cases e;rfl)⟩
def bJ (x:Mp):Nat:=x.fs.length+x.os.length+x.ms.length+x.es.length+x.rs.length+x.gs.length
def OG (W:World) (j3 ss:List Slot):Prop:=∀(i:Nat) (sl:Slot) (k:Nat),ss[i]?=some sl→sl.v.ownBlock=some k→W.heap.size≤k∨∃(j:Nat) (PV:Slot),j3[j]?=some PV∧PV.v.ownBlock=some k
def E7:Array Value:=#[.string ⟨#[]⟩,.slice none 0 0,.slice none 0 0,.slice none 0 0,.slice none 0 0,.slice none 0 0,.slice none 0 0]
structure nE (W:World) (lo b l mi ri ti:Nat) (j3:List Slot) (L:List Nat) (x:Mp) (v:MV) (R:PX) (w:World):Prop where
 F:Fm b j3 W w
 z:Zr lo w b R
 m:w.heap[mi]?=some (.cells (v.arr x) 49 (0,0))
 r:w.heap[ri]?=some (.cells E7 49 (0,0))
 t:∃(k p:Int) (tx:ByteArray),w.heap[ti]?=some (.cells #[.int .i64 k,.int .i64 p,.string tx] 38 (0,0))
 s:nI l L w x v
 og:OG W j3 (v.ss x)
structure S4 (W:World) (lo b l mi ri ti:Nat) (L:List Nat):Prop where
 lo:b<lo∧lo≤l∧l≤W.heap.size
 m:W.heap.size≤mi
 r:W.heap.size≤ri
 t:W.heap.size≤ti
 ne:mi≠ri∧mi≠ti∧ri≠ti
 mem:mi ∈ L∧ri ∈ L∧ti ∈ L
theorem Fm.refl (b:Nat) (ss:List Slot) (W:World):Fm b ss W W:=⟨rfl,rfl,rfl,zD _,fun _ _ _ _=>rfl⟩
theorem Fm.kept {b:Nat}{ss:List Slot}{W w w':World} (h:Fm b ss W w) (hg:w.grownBy w' (some b)):Fm b ss W w':=⟨hg.os.trans h.os,hg.tape.trans h.tape,hg.output.trans h.output,Nat.le_trans h.size hg.size,fun k h1 h2 h3=>(hg.block k (Nat.lt_of_lt_of_le h1 h.size) (by simpa using h2)).trans (h.block k h1 h2 h3)⟩
theorem Fm.gA {b g:Nat}{ss:List Slot}{W w w':World} (h:Fm b ss W w) (hg:w.grownBy w' (some g)) (hW:W.heap.size≤g):Fm b ss W w':=⟨hg.os.trans h.os,hg.tape.trans h.tape,hg.output.trans h.output,Nat.le_trans h.size hg.size,fun k h1 h2 h3=>(hg.block k (Nat.lt_of_lt_of_le h1 h.size) (by simp;omega)).trans (h.block k h1 h2 h3)⟩
theorem Fm.row {b:Nat}{ss:List Slot}{W w w':World}{v:Value} (h:Fm b ss W w) (hg:w.grownBy w' v.ownBlock) (ho:∀k,v.ownBlock=some k→W.heap.size≤k∨∃(j:Nat) (PV:Slot),ss[j]?=some PV∧PV.v.ownBlock=some k):Fm b ss W w':=⟨hg.os.trans h.os,hg.tape.trans h.tape,hg.output.trans h.output,Nat.le_trans h.size hg.size,fun k h1 h2 h3=>(hg.block k (Nat.lt_of_lt_of_le h1 h.size) (fun e=>by
  rcases ho k e.symm with hw|⟨j,PV,hj,hk⟩
  ·omega
  ·exact h3 j PV hj hk)).trans (h.block k h1 h2 h3)⟩
theorem Fm.below {b:Nat}{ss:List Slot}{W w w':World} (h:Fm b ss W w) (hb:Below w.heap.size w w'):Fm b ss W w':=h.kept (aM hb (some b))
theorem nE.kept {W w w':World}{lo b l mi ri ti:Nat}{j3:List Slot}{L:List Nat}{x:Mp}{v:MV}{R R':PX} (h:nE W lo b l mi ri ti j3 L x v R w) (hL:S4 W lo b l mi ri ti L) (hg:w.grownBy w' (some b)) (hz:Zr lo w' b R'):nE W lo b l mi ri ti j3 L x v R' w':=by
 obtain ⟨k,p,tx,ht⟩:=h.t
 have h1:=hL.lo
 have h2:=hL.m
 have h3:=hL.r
 have h4:=hL.t
 exact ⟨h.F.kept hg,hz,aw hg h.m (by omega),aw hg h.r (by omega),⟨k,p,tx,aw hg ht (by omega)⟩,h.s.kept hg (.inl (by omega)),h.og⟩
theorem nE.gA {W w w':World}{lo b l mi ri ti g:Nat}{j3:List Slot}{L:List Nat}{x:Mp}{v:MV}{R:PX} (h:nE W lo b l mi ri ti j3 L x v R w) (hL:S4 W lo b l mi ri ti L) (hg:w.grownBy w' (some g)) (hW:W.heap.size≤g) (hm:g ∈ L) (eb:g≠mi∧g≠ri∧g≠ti):nE W lo b l mi ri ti j3 L x v R w':=by
 obtain ⟨k,p,tx,ht⟩:=h.t
 have h1:=hL.lo
 exact ⟨h.F.gA hg hW,h.z.gA hg (by omega),aw hg h.m eb.1.symm,aw hg h.r eb.2.1.symm,⟨k,p,tx,aw hg ht eb.2.2.symm⟩,h.s.kept hg (.inr hm),h.og⟩
theorem nE.box {W w:World}{lo b l mi ri ti:Nat}{j3:List Slot}{L:List Nat}{x:Mp}{v:MV}{R:PX} (h:nE W lo b l mi ri ti j3 L x v R w) (o:Obj):nE W lo b l mi ri ti j3 (w.heap.size::L) x v R (w.alloc o):=by
 obtain ⟨k,p,tx,ht⟩:=h.t
 have hb:=(zE w.heap.size w).alloc (zD _) o
 exact ⟨h.F.below hb,h.z.up hb,bL h.m o,bL h.r o,⟨k,p,tx,bL ht o⟩,h.s.box o,h.og⟩
theorem S4.box {W:World}{lo b l mi ri ti g:Nat}{L:List Nat} (h:S4 W lo b l mi ri ti L):S4 W lo b l mi ri ti (g::L):=⟨h.lo,h.m,h.r,h.t,h.ne,by simp[h.mem.1],by simp[h.mem.2.1],by simp[h.mem.2.2]⟩
theorem nE.app {W w w1:World}{lo b l mi ri ti i j n':Nat}{j3:List Slot}{L:List Nat}{x x':Mp}{v v':MV}{R:PX}{sl:Slot}{u:Value}{sb:List Value} (h:nE W lo b l mi ri ti j3 L x v R w) (hL:S4 W lo b l mi ri ti L) (hi:(v.ss x)[i]?=some sl) (ho:w1.ownsRow l sl.t sl.sz u n' sb) (hg:w.grownBy w1 sl.v.ownBlock) (fp:u.ownBlock=sl.v.ownBlock∨u.ownBlock=some w.heap.size) (he:v'.ss x'=(v.ss x).set i ⟨sl.t,sl.sz,u,n',sb⟩) (h1:v'.cm=v.cm) (h2:v'.ce=v.ce) (h3:x'.ms=x.ms) (h4:x'.es=x.es) (ha:(w1.setCell ⟨mi,j,none⟩ u).heap[mi]?=some (.cells (v'.arr x') 49 (0,0))) (hs:w1.grownBy (w1.setCell ⟨mi,j,none⟩ u) (some mi)):nE W lo b l mi ri ti j3 L x' v' R (w1.setCell ⟨mi,j,none⟩ u):=by
 obtain ⟨k,p,tx,ht⟩:=h.t
 have jh:=hL.lo
 have hm:=hL.m
 refine ⟨(h.F.row hg (fun k hk=>h.og i sl k hi hk)).gA hs hL.m,(h.s.sl.zr hi jh.2.1 h.z hg).gA hs (by omega),ha,aw hs (h.s.sl.lz hi hL.mem.2.1 h.r hg) hL.ne.1.symm,⟨k,p,tx,aw hs (h.s.sl.lz hi hL.mem.2.2 ht hg) hL.ne.2.1.symm⟩,(h.s.app hi ho hg fp he h1 h2 h3 h4).kept hs (.inr hL.mem.1),?_⟩
 intro a sa k Oi hk
 rw[he,List.getElem?_set] at Oi
 by_cases e:i=a
 ·subst e
  rw[if_pos rfl,if_pos (zB hi).1] at Oi
  obtain rfl:=zC Oi
  rcases fp with fp|fp
  ·exact h.og i sl k hi (by rw[←fp];exact hk)
  ·have:some w.heap.size=some k:=by rw[←fp];exact hk
   have:=zC this
   have:=h.F.size
   exact .inl (by omega)
 ·rw[if_neg e] at Oi
  exact h.og a sa k Oi hk
end Go.Proofs.YtjophoclfccmcaaGreatDoor

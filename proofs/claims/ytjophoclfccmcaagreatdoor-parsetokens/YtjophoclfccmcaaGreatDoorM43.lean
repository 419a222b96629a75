import Derived.Test.YtjophoclfccmcaaGreatDoorPfS
import Derived.OrdersHeld
namespace Go.Proofs.YtjophoclfccmcaaGreatDoor
open Go.RowKit
attribute [local go_sem ↓] Go.wp_at_zero Go.wp_at_succ
theorem JP {P:Program}{ops:Array Oper}{o:Oper}{a:Act}{w:World}{K:Act→World→Prop}{Q:Exit→Act→World→Prop}{E:Prop} (sb:o.guard=none) (f:FuncId) (qJ:∀vs,(callFunc f vs).run P w=.ok (.enter f vs) w) (args:Array Operand) (Lv:Array TypeId)
  (ho:o.op=.call { callee:=.value (.func f),args:=args,argTypes:=Lv }) (vs:Array Value) (hv:args.map a.eval=vs) {R:Ending→World→Prop} (hc:Calls P f vs w R) (hK:∀e w',R e w'→∃v,e=.returned v∧K (a.put o.dst v) w') :
  if Region.wanted o (yielded ops a.tmps)=true then Oper.wp P o a w K Q else E:=by
 have hw:Region.wanted o (yielded ops a.tmps)=true:=by simp[Region.wanted,sb]
 rw[if_pos hw]
 have h2:Oper.wp P o a w K Q=o.upon P a K Q (.ok (.enter f vs) w):=by
  unfold Oper.wp
  simp[execOp,ho,resolve,invoke,←hv,Act.eval,Deferred.ofValue,qJ]
 rw[h2,Oper.upon_enter]
 refine hc.mono ?_
 intro e w' hr
 obtain ⟨v,rfl,hk⟩:=hK e w' hr
 exact hk
section
variable {P : Program} {ops : Array Oper} {Q : Exit → Act → World → Prop} {md : Region.Mode} {T : World → Prop} {z : Nat}
def dI (P:Program) (md:Region.Mode) (ops:Array Oper) (Q:Exit→Act→World→Prop) (T:World→Prop) (z:Nat):Nat→Array Bool→Act→World→Prop
 |0,d,a,w=>Region.ready md ops d=[]∧Q .normal a w
 |n+1,d,a,w=>(Region.ready md ops d=[]→Q .normal a w)∧∀i ∈ Region.ready md ops d,wpOp P ops Q i (fun a' w'=>(i≠z→T w')∧dI P md ops Q T z n (d.setIfInBounds i true) a' w') a w
theorem dr:∀(n:Nat) (d:Array Bool) (a:Act) (w:World),dI P md ops Q T z n d a w→wpAny P md ops Q n d a w
 |0,_,_,_,h=>h
 |n+1,_,_,_,h=>⟨h.1,fun i hi=>wpOp_mono (fun a' w' h'=>dr n _ a' w' h'.2) (h.2 i hi)⟩
theorem JC {i:Nat}{oi:Oper}{v:Value} (hi:ops[i]?=some oi) (hw:∀oz,ops[z]?=some oz→∃e ∈ oz.after,Region.binds md e=true∧e.on=i) (hs:∀(j:Nat) (o:Oper) cs b,ops[j]?=some o→o.op≠.select cs b)
  (hQ:∀c a w,Q (.panic c) (a.put oi.dst v) w→Q (.panic c) a w):∀(n:Nat) (d:Array Bool) (a:Act) (w:World),
   (∀j oj,ops[j]?=some oj→j≠i→d.getD j true=false→(∀e ∈ oj.after,Region.binds md e=true→e.on≠i)→oi.apart ops oj=true)→i ∈ Region.ready md ops d→YieldsIf P ops T oi v a→T w →
   dI P md ops Q T z n (d.setIfInBounds i true) (a.put oi.dst v) w→dI P md ops Q T z (n+1) d a w:=by
 intro n
 induction n with
 |zero =>
  intro d a w _ hr hy hT H
  refine ⟨fun h=>(by rw[h] at hr;cases hr),fun j hj=>?_⟩
  by_cases e:j=i
  ·rw[e];exact hy.wpOp hi hT ⟨fun _=>hT,H⟩
  ·have q:=ready_mono hj e
   rw[H.1] at q
   cases q
 |succ n ih =>
  intro d a w hf hr hy hT H
  refine ⟨fun h=>(by rw[h] at hr;cases hr),fun j hj=>?_⟩
  by_cases e:j=i
  ·rw[e];exact hy.wpOp hi hT ⟨fun _=>hT,H⟩
  ·obtain ⟨hd,oj,hoj,ij⟩:=mem_ready.1 hj
   have Ae:=(mem_ready.1 hr).1
   have pM:∀x ∈ oj.after,Region.binds md x=true→x.on≠i:=fun x hx hb Xs=>by
    have q:=ij x hx hb
    rw[Xs] at q
    rcases Nat.lt_or_ge i d.size with q1|q1
    ·simp[q1] at Ae q
     rw[Ae] at q
     cases q
    ·simp[Array.getElem?_eq_none q1] at q
   have hjz:j≠z:=fun q=>by
    subst q
    obtain ⟨x,hx,hb,Xs⟩:=hw _ hoj
    exact pM x hx hb Xs
   have h2:=wpOp_putIf hoj (hf j oj hoj e hd pM) (fun cs b=>hs i oi cs b hi) (fun cs b=>hs j oj cs b hoj) hQ hy (H.2 j (ready_mono hj e))
   refine wpOp_mono (fun a' w' h3=>⟨h3.2.1,ih (d.setIfInBounds j true) a' w' (fun k ok hk hki cA hn=>hf k ok hk hki ?_ hn) (ready_mono hr (Ne.symm e)) h3.1 (h3.2.1 hjz) ?_⟩) h2
   ·by_cases TC:j=k
    ·rw[←TC];exact hd
    ·rwa [getD_set_ne true TC] at cA
   ·rw[Array.setIfInBounds_comm _ _ e]
    exact h3.2.2
def waits (md:Region.Mode) (ops:Array Oper) (z i:Nat):Bool:=match ops[z]? with
 |none=>true
 |some o=>o.after.any fun e=>Region.binds md e&&e.on==i
theorem C4 (i:Nat) {oi:Oper} (v:Value) (x:Tmp) {n:Nat}{d:Array Bool}{a:Act}{w:World} (hi:ops[i]?=some oi) (hx:oi.dst=some x) (hw:waits md ops z i=true) (hs:Region.noSelect ops=true) (hf:Region.free md ops d i=true) (hr:(Region.ready md ops d).contains i=true)
  (hQ:∀c a w,Q (.panic c) (a.put (some x) v) w→Q (.panic c) a w) (hy:YieldsIf P ops T oi v a) (hT:T w) (h:dI P md ops Q T z n (d.setIfInBounds i true) (a.put (some x) v) w):dI P md ops Q T z (n+1) d a w:=by
 rw[←hx] at hQ h
 refine JC hi (fun oz hz=>?_) (Region.noSelect_spec hs) hQ n d a w (Region.free_spec hi hf) (by simpa using hr) hy hT h
 unfold waits at hw
 rw[hz] at hw
 obtain ⟨e,he,hb⟩:=Array.any_eq_true'.1 hw
 simp only[Bool.and_eq_true,beq_iff_eq] at hb
 exact ⟨e,he,hb.1,hb.2⟩
theorem aB (i:Nat) {oi:Oper} (v:Value) (x:Tmp) {n:Nat}{d:Array Bool}{a:Act}{w:World} (hi:ops[i]?=some oi) (hx:oi.dst=some x) (hy:YieldsIf P ops T oi v a) (hT:T w) (h:dI P md ops Q T z n (d.setIfInBounds i true) (a.put (some x) v) w) (hw:waits md ops z i=true:=by kernel_rfl) (hs:Region.noSelect ops=true:=by kernel_rfl) (hf:Region.free md ops d i=true:=by kernel_rfl) (hr:(Region.ready md ops d).contains i=true:=by kernel_rfl)
  (hQ:∀c a w,Q (.panic c) (a.put (some x) v) w→Q (.panic c) a w:=by exact fun _ _ _ h=>h):dI P md ops Q T z (n+1) d a w:=C4 i v x hi hx hw hs hf hr hQ hy hT h
theorem aN (i:Nat) {o:Oper}{n:Nat}{d:Array Bool}{a:Act}{w:World} (hr:Region.ready md ops d=[i]) (ho:ops[i]?=some o)
  (h:∀K:Act→World→Prop,(∀a' w',((i≠z→T w')∧dI P md ops Q T z n (d.setIfInBounds i true) a' w')→K a' w')→if Region.wanted o (yielded ops a.tmps)=true then Oper.wp P o a w K Q else K (a.put o.dst undef) w):dI P md ops Q T z (n+1) d a w:=by
 refine ⟨fun h0=>(by rw[h0] at hr;cases hr),fun j hj=>?_⟩
 rw[hr] at hj
 obtain rfl:j=i:=by simpa using hj
 exact wpOp_step ho h
theorem eB {o:Oper}{a:Act}{w:World}{K:Act→World→Prop}{E:Prop} (x:Tmp) (hx:o.dst=some x) (sb:o.guard=none) (f:FuncId) (qJ:∀vs,(callFunc f vs).run P w=.ok (.enter f vs) w) (args:Array Operand) (Lv:Array TypeId)
  (ho:o.op=.call { callee:=.value (.func f),args:=args,argTypes:=Lv }) (vs:Array Value) (hv:args.map a.eval=vs) {R:Ending→World→Prop} (hc:Calls P f vs w R) (hK:∀e w',R e w'→∃v,e=.returned v∧K (a.put (some x) v) w') :
  if Region.wanted o (yielded ops a.tmps)=true then Oper.wp P o a w K Q else E :=
 JP sb f qJ args Lv ho vs hv hc (by rw[hx];exact hK)
theorem cP {n:Nat}{d:Array Bool}{a:Act}{w:World} (hr:Region.ready md ops d=[]) (h:Q .normal a w):dI P md ops Q T z n d a w:=by
 cases n with
 |zero=>exact ⟨hr,h⟩
 |succ n=>exact ⟨fun _=>h,fun i hi=>by rw[hr] at hi;cases hi⟩
end
end Go.Proofs.YtjophoclfccmcaaGreatDoor
namespace Go.Proofs.YtjophoclfccmcaaGreatDoor
open Go.RowKit
def Nq (l:Nat) (L:List Nat) (ss:List Slot) (k:Nat):Prop:=l≤k∧k ∉ L∧∀(i:Nat) (sl:Slot),ss[i]?=some sl→sl.v.ownBlock≠some k
structure MV where
 f:Option Addr×Nat
 o:Option Addr×Nat
 m:Option Addr×Nat
 e:Option Addr×Nat
 r:Option Addr×Nat
 g:Option Addr×Nat
 cm:List Value
 ce:List Value
def MV.ss (v:MV) (x:Mp):List Slot:=td x (.slice v.f.1 x.fs.length v.f.2) (.slice v.o.1 x.os.length v.o.2) (.slice v.m.1 x.ms.length v.m.2) (.slice v.e.1 x.es.length v.e.2) (.slice v.r.1 x.rs.length v.r.2) (.slice v.g.1 x.gs.length v.g.2) v.cm v.ce
def MV.arr (v:MV) (x:Mp):Array Value:=#[.string x.name,.slice v.f.1 x.fs.length v.f.2,.slice v.o.1 x.os.length v.o.2,.slice v.m.1 x.ms.length v.m.2,.slice v.e.1 x.es.length v.e.2,.slice v.r.1 x.rs.length v.r.2,.slice v.g.1 x.gs.length v.g.2]
structure nL (l:Nat) (L:List Nat) (w:World) (x:Mp) (v:MV):Prop where
 sl:Sl l L w (v.ss x)
 ms:eT (Nq l L (v.ss x)) w v.cm x.ms
 es:fE (Nq l L (v.ss x)) w v.ce x.es
theorem nL.goes {l:Nat}{L L':List Nat}{w w':World}{x x':Mp}{v v':MV} (h:nL l L w x v) (hs:Sl l L' w' (v'.ss x')) (h1:v'.cm=v.cm) (h2:v'.ce=v.ce) (h3:x'.ms=x.ms) (h4:x'.es=x.es) (hg:wZ (Nq l L (v.ss x)) (Nq l L' (v'.ss x')) w w'):nL l L' w' x' v' :=
 ⟨hs,by rw[h1,h3];exact eX _ _ _ _ _ _ hg h.ms,by rw[h2,h4];exact eO _ _ _ _ _ _ hg h.es⟩
theorem nL.FT {l:Nat}{L:List Nat}{w w':World}{x:Mp}{v:MV} (h:nL l L w x v) (hs:w.heap.size≤w'.heap.size) (hb:∀k:Nat,l≤k→k ∉ L→k<w.heap.size→w'.heap[k]?=w.heap[k]?):nL l L w' x v :=
 h.goes (h.sl.FT hs (fun k ⟨i,sl,hi,hk⟩=>hb k ((h.sl.own i sl hi).lt k hk).1 (h.sl.q i sl k hi hk) ((h.sl.own i sl hi).lt k hk).2)) rfl rfl rfl rfl (fun k hp hk=>⟨hp,hb k hp.1 hp.2.1 hk⟩)
theorem nL.kept {l b:Nat}{L:List Nat}{w w':World}{x:Mp}{v:MV} (h:nL l L w x v) (hg:w.grownBy w' (some b)) (hb:b<l∨b ∈ L):nL l L w' x v :=
 h.FT hg.size (fun k h1 h2 h3=>hg.block k h3 (fun e=>by
  have e:k=b:=zC e
  subst e
  rcases hb with hb|hb
  ·omega
  ·exact h2 hb))
theorem nL.alloc {l:Nat}{L:List Nat}{w:World}{x:Mp}{v:MV} (h:nL l L w x v) (o:Obj):nL l L (w.alloc o) x v:=h.FT (by rw[zJ];omega) (fun k _ _ hk=>Below.heap_alloc _ _ _ hk)
theorem nL.box {l:Nat}{L:List Nat}{w:World}{x:Mp}{v:MV} (h:nL l L w x v) (o:Obj):nL l (w.heap.size::L) (w.alloc o) x v :=
 h.goes (h.sl.box o) rfl rfl rfl rfl (fun k hp hk=>⟨⟨hp.1,fun hm=>by
  rcases List.mem_cons.1 hm with rfl|hm
  ·omega
  ·exact hp.2.1 hm,hp.2.2⟩,Below.heap_alloc _ _ _ hk⟩)
theorem nL.less {l:Nat}{L L':List Nat}{w:World}{x:Mp}{v:MV} (h:nL l L w x v) (hl:∀k ∈ L',k ∈ L):nL l L' w x v :=
 h.goes (h.sl.less hl) rfl rfl rfl rfl (fun k hp _=>⟨⟨hp.1,fun hm=>hp.2.1 (hl k hm),hp.2.2⟩,rfl⟩)
theorem nL.app {l i n':Nat}{L:List Nat}{w w':World}{x x':Mp}{v v':MV}{sl:Slot}{u:Value}{sj:List Value} (h:nL l L w x v) (hi:(v.ss x)[i]?=some sl) (ho:w'.ownsRow l sl.t sl.sz u n' sj) (hg:w.grownBy w' sl.v.ownBlock) (fg:u.ownBlock=sl.v.ownBlock∨u.ownBlock=some w.heap.size) (he:v'.ss x'=(v.ss x).set i ⟨sl.t,sl.sz,u,n',sj⟩) (h1:v'.cm=v.cm) (h2:v'.ce=v.ce) (h3:x'.ms=x.ms) (h4:x'.es=x.es):nL l L w' x' v':=by
 refine h.goes (by rw[he];exact h.sl.app hi ho hg fg) h1 h2 h3 h4 (fun k hp hk=>⟨⟨hp.1,hp.2.1,fun j a hj=>?_⟩,hg.block k hk (fun e=>hp.2.2 i sl hi e.symm)⟩)
 rw[he,List.getElem?_set] at hj
 by_cases e:i=j
 ·subst e
  rw[if_pos rfl,if_pos (zB hi).1] at hj
  obtain rfl:=zC hj
  intro hq
  rcases fg with fg|fg
  ·exact hp.2.2 i sl hi (by rw[←fg];exact hq)
  ·have:some w.heap.size=some k:=by rw[←fg];exact hq
   have:=zC this
   omega
 ·rw[if_neg e] at hj
  exact hp.2.2 j a hj
structure Fm (b:Nat) (ss:List Slot) (W w:World):Prop where
 os:w.os=W.os
 tape:w.tape=W.tape
 output:w.output=W.output
 size:W.heap.size≤w.heap.size
 block:∀k,k<W.heap.size→k≠b→(∀(i:Nat) (sl:Slot),ss[i]?=some sl→sl.v.ownBlock≠some k)→w.heap[k]?=W.heap[k]?
def K8:List ByteArray:=[⟨#[111,112,116,105,111,110]⟩,⟨#[103,114,111,117,112]⟩,⟨#[111,112,116,105,111,110,97,108]⟩,⟨#[114,101,112,101,97,116,101,100]⟩,⟨#[114,101,113,117,105,114,101,100]⟩,⟨#[111,110,101,111,102]⟩,⟨#[109,101,115,115,97,103,101]⟩,⟨#[101,110,117,109]⟩,⟨#[114,101,115,101,114,118,101,100]⟩]
theorem Pn (k:ByteArray):(rS k=some dv∧k ∈ K8)∨(rS k=none∧k ∉ K8):=by
 unfold rS K8
 repeat' split
 all_goals first
  |(left
    rename_i h
    have:=gC h
    subst this
    exact ⟨rfl,by simp⟩)
  |(right
    refine ⟨rfl,fun hm=>?_⟩
    simp only[List.mem_cons,List.not_mem_nil,or_false] at hm
    rcases hm with rfl|rfl|rfl|rfl|rfl|rfl|rfl|rfl|rfl<;>(rename_i h1 h2 h3 h4 h5 h6 h7 h8 h9;first|exact h1 (by decide +kernel)|exact h2 (by decide +kernel)|exact h3 (by decide +kernel)|exact h4 (by decide +kernel)|exact h5 (by decide +kernel)|exact h6 (by decide +kernel)|exact h7 (by decide +kernel)|exact h8 (by decide +kernel)|exact h9 (by decide +kernel)))
noncomputable def YE (x:Mp) (s:ay):Except (Int×Int) (Mp×ay):=bO (cq (x.os.length:Int) s) (fun d s'=>.ok ({ x with fs:=x.fs++[d] },s'))
theorem NT {x:ByteArray}{l:List ByteArray}:CF x l=true↔x ∈ l:=by
 unfold CF
 rw[List.any_eq_true]
 constructor
 ·rintro ⟨y,hy,h⟩
  rw[Lib.bytes_beq_iff] at h
  rw[←h]
  exact hy
 ·intro h
  exact ⟨_,h,by rw[Lib.bytes_beq_iff]⟩
theorem Fy {l:List ByteArray}{s:ay} (h:s.here.kind=1) (hm:s.here.text ∈ l):dj l s=.error (52,s.here.spot):=by
 unfold dj
 rw[if_pos ⟨h,NT.2 hm⟩]
theorem lE {l:List ByteArray}{s:ay} (h:¬(s.here.kind=1∧s.here.text ∈ l)):dj l s=.ok ((),s):=by
 unfold dj
 rw[if_neg (fun q=>h ⟨q.1,NT.1 q.2⟩)]
theorem QT {x:Mp}{s:ay} (hg:Gd s):bU rS z7 x s=if aJ s.here 4 ⟨#[59]⟩=true then .ok (x,s.nx) else bO (dj K8 s) (fun _ s1=>YE x s1):=by
 unfold bU
 rw[cV hg.bg]
 by_cases h1:aJ s.here 4 ⟨#[59]⟩=true
 ·rw[if_pos h1,if_pos h1]
 ·rw[if_neg h1,if_neg h1]
  dsimp only
  have fin:z7 x s=YE x s:=by
   unfold z7 YE
   cases cq (x.os.length:Int) s with
   |error y=>rfl
   |ok p=>rfl
  rcases Pn s.here.text with ⟨e1,e2⟩|⟨e1,e2⟩
  ·rw[e1]
   dsimp only
   by_cases hk:s.here.kind=1
   ·rw[if_pos hk,Fy hk e2]
    rfl
   ·rw[if_neg hk,lE (fun q=>hk q.1)]
    exact fin
  ·rw[e1,lE (fun q=>e2 q.2)]
   exact fin
def EP:ByteArray:=⟨#[111,110,101,111,102]⟩
theorem Tj (x:Mp) (s:ay) (x':Mp) (s':ay) (h:bU rS z7 x s=.ok (x',s')):Gt s s'∧(s.en.kind=5→0<s.ts.length):=by
 refine gX (fun k f hf x s x' s' h=>?_) (fun x s x' s' h=>?_) h
 ·rcases Pn k with ⟨e1,_⟩|⟨e1,_⟩
  ·rw[e1] at hf
   obtain rfl:=zC hf
   cases h
  ·rw[e1] at hf;cases hf
 ·unfold z7 lV at h
  split at h
  ·cases h
  ·rename_i d s1 h1
   simp only[Except.ok.injEq,Prod.mk.injEq] at h
   obtain ⟨_,rfl⟩:=h
   exact jN h1
noncomputable def M1 (k:Nat) (x:Mp) (s:ay):Except (Int×Int) (Mp×ay):=if x.fs.length=k then .error (bR s) else bO (bz s) (fun _ s'=>.ok (x,s'))
noncomputable def jh (k:Nat) (x:Mp) (s:ay):Except (Int×Int) (Mp×ay):=bO (oh (bU rS z7) x s) (M1 k)
noncomputable def tI (k:Nat) (x:Mp) (s:ay):Except (Int×Int) (Mp×ay):=bO (YE x s) (fun x' s'=>jh k x' s')
theorem MR {x:Mp}{R:PX}{k pt:Int}{tt nm:ByteArray} (hg:lq R) (hp:EF R ⟨k,pt,tt⟩) (hk:∀s,R=.ok s→aJ s.here 1 EP=true)
  (cN:lq (aT (al (aT (al (aT (al R (aP pt))) (cl EP))) aR)))
  (hv:∀a s,al (aT (al (aT (al R (aP pt))) (cl EP))) aR=.ok (a,s)→Value.string nm=.string a) :
  al R (fH x)=al (aT (al (aT (al (aT (al (aT (al R (aP pt))) (cl EP))) aR)) (au ⟨#[123]⟩))) (jh x.fs.length { x with os:=x.os++[nm] }):=by
 match R,hg,hp,hk,cN,hv with
 |.error y,_,_,_,_,_=>rfl
 |.ok s,hg,hp,hk,cN,hv =>
  have ht:pt=s.here.spot:=hp.2.1
  subst ht
  have hb:=ns (hk s rfl)
  simp only[fe,jD,seq_assoc] at cN hv ⊢
  simp only[al] at cN hv ⊢
  unfold fH
  rw[gO hg,←hb]
  cases h1:aP s.here.spot s with
  |error y=>rfl
  |ok p1 =>
   rw[h1] at cN hv
   simp only[aL] at cN hv ⊢
   cases h2:cl EP p1.2 with
   |error y=>rfl
   |ok p2 =>
    rw[h2] at cN hv
    simp only[aL] at cN hv ⊢
    cases h3:aR p2.2 with
    |error y=>rfl
    |ok p3 =>
     rw[h3] at cN
     have e3:nm=p3.1:=by simpa using hv p3.1 p3.2 h3
     have sb:Gd p3.2:=cN
     obtain ⟨a3,s3⟩:=p3
     dsimp only at e3 sb ⊢
     unfold ks
     rw[aL,GQ Tj sb]
     dsimp only
     cases h4:au ⟨#[123]⟩ s3 with
     |error y=>rfl
     |ok p4 =>
      rw[aL,aL,e3]
      unfold jh M1 nc
      cases oh (bU rS z7) { x with os:=x.os++[a3] } p4.2 with
      |error y=>rfl
      |ok p5 =>
       rw[aL]
       dsimp only
       by_cases hl:p5.1.fs.length=x.fs.length
       ·rw[if_pos hl,if_pos hl]
       ·rw[if_neg hl,if_neg hl]
        cases bz p5.2 with
        |error y=>rfl
        |ok p6=>rfl
theorem MT {k:Nat}{x:Mp}{s:ay} (hg:Gd s) (hq:¬aJ s.here 4 ⟨#[125]⟩=true):jh k x s=if aJ s.here 4 ⟨#[59]⟩=true then jh k x s.nx else al (aT (al (.ok s) (dj K8))) (tI k x):=by
 unfold jh tI
 rw[sG Tj hg hq,QT hg]
 by_cases h1:aJ s.here 4 ⟨#[59]⟩=true
 ·rw[if_pos h1,if_pos h1]
  rfl
 ·rw[if_neg h1,if_neg h1,seq_assoc,seq_assoc,fe]
  rfl
theorem UP {k:Nat}{x:Mp}{R:PX}{d:Fd} (hv:∀a s,al R (cq (x.os.length:Int))=.ok (a,s)→a=d):al R (tI k x)=al (aT (al R (cq (x.os.length:Int)))) (jh k { x with fs:=x.fs++[d] }):=by
 match R,hv with
 |.error y,_=>rfl
 |.ok s,hv =>
  show tI k x s=al (aT (cq (x.os.length:Int) s)) _
  unfold tI YE
  cases hr:cq (x.os.length:Int) s with
  |error y=>rfl
  |ok p =>
   obtain ⟨a,s'⟩:=p
   obtain rfl:=hv a s' hr
   rfl
theorem Q8 {R:PX}{o:Int}{t:ByteArray} (hv:∀a s,al R (fun s=>ba true (ll true s))=.ok (a,s)→Value.string t=.string a):al (aT (al R (fun s=>ba true (ll true s)))) (AL ⟨1,⟨#[]⟩,t,⟨#[]⟩,0,o⟩)=al R (cq o):=by
 match R,hv with
 |.error y,_=>rfl
 |.ok s,hv =>
  show al (aT (ba true s.begun)) _=cq o s
  replace hv:∀a s',ba true s.begun=.ok (a,s')→Value.string t=.string a:=hv
  unfold cq gG
  cases h3:ba true s.begun with
  |error y=>rfl
  |ok p3 =>
   have e3:t=p3.1:=by simpa using hv p3.1 p3.2 h3
   rw[e3]
   rfl
def UF (q:Bool) (R:PX):PX:=if q=true then R else kP R
theorem UR {k:Nat}{x:Mp}{R:PX}{q:Bool}{F0:Except (Int×Int) (Mp×ay)} (hg:lq R) (hq:∀s,R=.ok s→aJ s.here 4 ⟨#[125]⟩=true) (hk:q=true↔¬x.fs.length=k) (hf:F0=al R (jh k x)):aT (al (UF q R) (au ⟨#[125]⟩))=aT F0∧∀a s,F0=.ok (a,s)→a=x:=by
 subst hf
 match R,hg,hq with
 |.error y,_,_=>exact ⟨by unfold UF;split<;>rfl,fun _ _ e=>(by cases e)⟩
 |.ok s,hg,hq =>
  have h1:=hq s rfl
  show _=aT (jh k x s)∧∀a s',jh k x s=.ok (a,s')→a=x
  unfold jh M1 UF
  rw[yA h1,aL]
  dsimp only
  by_cases hl:x.fs.length=k
  ·rw[if_pos hl,if_neg (fun q=>(hk.1 q) hl)]
   exact ⟨rfl,fun _ _ e=>(by cases e)⟩
  ·rw[if_neg hl,if_pos (hk.2 hl),fT hg.bg]
   show aT (au ⟨#[125]⟩ s)=_∧_
   rw[gP hg.bg,if_pos h1]
   exact ⟨rfl,fun _ _ e=>(by cases e;rfl)⟩
def bH (x:Mp):Nat:=x.fs.length+x.os.length+x.ms.length+x.es.length+x.rs.length+x.gs.length
def OG (W:World) (jX ss:List Slot):Prop:=∀(i:Nat) (sl:Slot) (k:Nat),ss[i]?=some sl→sl.v.ownBlock=some k→W.heap.size≤k∨∃(j:Nat) (Qg:Slot),jX[j]?=some Qg∧Qg.v.ownBlock=some k
def E7:Array Value:=#[.string ⟨#[]⟩,.slice none 0 0,.slice none 0 0,.slice none 0 0,.slice none 0 0,.slice none 0 0,.slice none 0 0]
structure nH (W:World) (lo b l mi ri ti:Nat) (jX:List Slot) (L:List Nat) (x:Mp) (v:MV) (R:PX) (w:World):Prop where
 F:Fm b jX W w
 z:Zr lo w b R
 m:w.heap[mi]?=some (.cells (v.arr x) 49 (0,0))
 r:w.heap[ri]?=some (.cells E7 49 (0,0))
 t:∃(k p:Int) (tx:ByteArray),w.heap[ti]?=some (.cells #[.int .i64 k,.int .i64 p,.string tx] 38 (0,0))
 s:nL l L w x v
 og:OG W jX (v.ss x)
structure Ta (W:World) (lo b l mi ri ti:Nat) (L:List Nat):Prop where
 lo:b<lo∧lo≤l∧l≤W.heap.size
 m:W.heap.size≤mi
 r:W.heap.size≤ri
 t:W.heap.size≤ti
 ne:mi≠ri∧mi≠ti∧ri≠ti
 mem:mi ∈ L∧ri ∈ L∧ti ∈ L
theorem Fm.refl (b:Nat) (ss:List Slot) (W:World):Fm b ss W W:=⟨rfl,rfl,rfl,zD _,fun _ _ _ _=>rfl⟩
theorem Fm.kept {b:Nat}{ss:List Slot}{W w w':World} (h:Fm b ss W w) (hg:w.grownBy w' (some b)):Fm b ss W w':=⟨hg.os.trans h.os,hg.tape.trans h.tape,hg.output.trans h.output,Nat.le_trans h.size hg.size,fun k h1 h2 h3=>(hg.block k (Nat.lt_of_lt_of_le h1 h.size) (by simpa using h2)).trans (h.block k h1 h2 h3)⟩
theorem Fm.gu {b g:Nat}{ss:List Slot}{W w w':World} (h:Fm b ss W w) (hg:w.grownBy w' (some g)) (hW:W.heap.size≤g):Fm b ss W w':=⟨hg.os.trans h.os,hg.tape.trans h.tape,hg.output.trans h.output,Nat.le_trans h.size hg.size,fun k h1 h2 h3=>(hg.block k (Nat.lt_of_lt_of_le h1 h.size) (by simp;omega)).trans (h.block k h1 h2 h3)⟩
theorem Fm.row {b:Nat}{ss:List Slot}{W w w':World}{v:Value} (h:Fm b ss W w) (hg:w.grownBy w' v.ownBlock) (ho:∀k,v.ownBlock=some k→W.heap.size≤k∨∃(j:Nat) (Qg:Slot),ss[j]?=some Qg∧Qg.v.ownBlock=some k):Fm b ss W w':=⟨hg.os.trans h.os,hg.tape.trans h.tape,hg.output.trans h.output,Nat.le_trans h.size hg.size,fun k h1 h2 h3=>(hg.block k (Nat.lt_of_lt_of_le h1 h.size) (fun e=>by
  rcases ho k e.symm with hw|⟨j,Qg,hj,hk⟩
  ·omega
  ·exact h3 j Qg hj hk)).trans (h.block k h1 h2 h3)⟩
theorem Fm.below {b:Nat}{ss:List Slot}{W w w':World} (h:Fm b ss W w) (hb:Below w.heap.size w w'):Fm b ss W w':=h.kept (aO hb (some b))
theorem nH.kept {W w w':World}{lo b l mi ri ti:Nat}{jX:List Slot}{L:List Nat}{x:Mp}{v:MV}{R R':PX} (h:nH W lo b l mi ri ti jX L x v R w) (hL:Ta W lo b l mi ri ti L) (hg:w.grownBy w' (some b)) (hz:Zr lo w' b R'):nH W lo b l mi ri ti jX L x v R' w':=by
 obtain ⟨k,p,tx,ht⟩:=h.t
 have h1:=hL.lo
 have h2:=hL.m
 have h3:=hL.r
 have h4:=hL.t
 exact ⟨h.F.kept hg,hz,ax hg h.m (by omega),ax hg h.r (by omega),⟨k,p,tx,ax hg ht (by omega)⟩,h.s.kept hg (.inl (by omega)),h.og⟩
theorem nH.gu {W w w':World}{lo b l mi ri ti g:Nat}{jX:List Slot}{L:List Nat}{x:Mp}{v:MV}{R:PX} (h:nH W lo b l mi ri ti jX L x v R w) (hL:Ta W lo b l mi ri ti L) (hg:w.grownBy w' (some g)) (hW:W.heap.size≤g) (hm:g ∈ L) (dV:g≠mi∧g≠ri∧g≠ti):nH W lo b l mi ri ti jX L x v R w':=by
 obtain ⟨k,p,tx,ht⟩:=h.t
 have h1:=hL.lo
 exact ⟨h.F.gu hg hW,h.z.gu hg (by omega),ax hg h.m dV.1.symm,ax hg h.r dV.2.1.symm,⟨k,p,tx,ax hg ht dV.2.2.symm⟩,h.s.kept hg (.inr hm),h.og⟩
theorem nH.box {W w:World}{lo b l mi ri ti:Nat}{jX:List Slot}{L:List Nat}{x:Mp}{v:MV}{R:PX} (h:nH W lo b l mi ri ti jX L x v R w) (o:Obj):nH W lo b l mi ri ti jX (w.heap.size::L) x v R (w.alloc o):=by
 obtain ⟨k,p,tx,ht⟩:=h.t
 have hb:=(zE w.heap.size w).alloc (zD _) o
 exact ⟨h.F.below hb,h.z.up hb,bL h.m o,bL h.r o,⟨k,p,tx,bL ht o⟩,h.s.box o,h.og⟩
theorem Ta.box {W:World}{lo b l mi ri ti g:Nat}{L:List Nat} (h:Ta W lo b l mi ri ti L):Ta W lo b l mi ri ti (g::L):=⟨h.lo,h.m,h.r,h.t,h.ne,by simp[h.mem.1],by simp[h.mem.2.1],by simp[h.mem.2.2]⟩
theorem nH.app {W w w1:World}{lo b l mi ri ti i j n':Nat}{jX:List Slot}{L:List Nat}{x x':Mp}{v v':MV}{R:PX}{sl:Slot}{u:Value}{sj:List Value} (h:nH W lo b l mi ri ti jX L x v R w) (hL:Ta W lo b l mi ri ti L) (hi:(v.ss x)[i]?=some sl) (ho:w1.ownsRow l sl.t sl.sz u n' sj) (hg:w.grownBy w1 sl.v.ownBlock) (fg:u.ownBlock=sl.v.ownBlock∨u.ownBlock=some w.heap.size) (he:v'.ss x'=(v.ss x).set i ⟨sl.t,sl.sz,u,n',sj⟩) (h1:v'.cm=v.cm) (h2:v'.ce=v.ce) (h3:x'.ms=x.ms) (h4:x'.es=x.es) (ha:(w1.setCell ⟨mi,j,none⟩ u).heap[mi]?=some (.cells (v'.arr x') 49 (0,0))) (hs:w1.grownBy (w1.setCell ⟨mi,j,none⟩ u) (some mi)):nH W lo b l mi ri ti jX L x' v' R (w1.setCell ⟨mi,j,none⟩ u):=by
 obtain ⟨k,p,tx,ht⟩:=h.t
 have ji:=hL.lo
 have hm:=hL.m
 refine ⟨(h.F.row hg (fun k hk=>h.og i sl k hi hk)).gu hs hL.m,(h.s.sl.zr hi ji.2.1 h.z hg).gu hs (by omega),ha,ax hs (h.s.sl.lA hi hL.mem.2.1 h.r hg) hL.ne.1.symm,⟨k,p,tx,ax hs (h.s.sl.lA hi hL.mem.2.2 ht hg) hL.ne.2.1.symm⟩,(h.s.app hi ho hg fg he h1 h2 h3 h4).kept hs (.inr hL.mem.1),?_⟩
 intro a sa k Ov hk
 rw[he,List.getElem?_set] at Ov
 by_cases e:i=a
 ·subst e
  rw[if_pos rfl,if_pos (zB hi).1] at Ov
  obtain rfl:=zC Ov
  rcases fg with fg|fg
  ·exact h.og i sl k hi (by rw[←fg];exact hk)
  ·have:some w.heap.size=some k:=by rw[←fg];exact hk
   have:=zC this
   have:=h.F.size
   exact .inl (by omega)
 ·rw[if_neg e] at Ov
  exact h.og a sa k Ov hk
end Go.Proofs.YtjophoclfccmcaaGreatDoor

import Derived.Test.YtmlphohdcejniaaGreatDoorM32
import Derived.Shelf.Strings.Split
import Derived.Lib.SplitLaws
import Derived.OrdersHeld
import Derived.Deep.DeepCutAuto
set_option maxHeartbeats 4000000
set_option maxRecDepth 100000
namespace Go.Proofs
open Go.Shelf
def Tryz.xA:Go.Shelf.Ren:=⟨fun|146=>39|221=>55|268=>82|138=>83|143=>84|195=>106|197=>107|218=>108|219=>109|260=>130|217=>88|225=>131|224=>132|267=>133|266=>117|314=>165|n=>n,fun|9=>9|31=>22|3=>3|4=>4|0=>0|105=>156|21=>21|5=>5|46=>173|119=>202|139=>205|138=>204|146=>206|51=>176|n=>n,fun|1=>1|3=>3|4=>4|n=>n⟩
theorem Tryz.FF:Go.Proofs.Lays.n146 Tryz.prog Tryz.xA:={
 mixed:=by kernel_rfl
 f138:=Tryz.func83.trans (congrArg some (by kernel_rfl))
 f143:=Tryz.func84.trans (congrArg some (by kernel_rfl))
 f146:=Tryz.func39.trans (congrArg some (by kernel_rfl))
 f195:=Tryz.func106.trans (congrArg some (by kernel_rfl))
 f197:=Tryz.func107.trans (congrArg some (by kernel_rfl))
 f217:=Tryz.func88.trans (congrArg some (by kernel_rfl))
 f218:=Tryz.func108.trans (congrArg some (by kernel_rfl))
 f219:=Tryz.func109.trans (congrArg some (by kernel_rfl))
 f221:=Tryz.func55.trans (congrArg some (by kernel_rfl))
 f224:=Tryz.func132.trans (congrArg some (by kernel_rfl))
 f225:=Tryz.func131.trans (congrArg some (by kernel_rfl))
 f260:=Tryz.func130.trans (congrArg some (by kernel_rfl))
 f266:=Tryz.func117.trans (congrArg some (by kernel_rfl))
 f267:=Tryz.func133.trans (congrArg some (by kernel_rfl))
 f268:=Tryz.func82.trans (congrArg some (by kernel_rfl))
 f314:=Tryz.func165.trans (congrArg some (by kernel_rfl))
 t0:=Tryz.underlying0
 a0:=Tryz.isAgg0
 z0:=Tryz.sizeOf0
 v0:=Tryz.zeroValue0
 t3:=Tryz.underlying3
 a3:=Tryz.isAgg3
 z3:=Tryz.sizeOf3
 v3:=Tryz.zeroValue3
 t4:=Tryz.underlying4
 a4:=Tryz.isAgg4
 z4:=Tryz.sizeOf4
 v4:=Tryz.zeroValue4
 t5:=Tryz.underlying5
 a5:=Tryz.isAgg5
 z5:=Tryz.sizeOf5
 v5:=Tryz.zeroValue5
 t9:=Tryz.underlying9
 a9:=Tryz.isAgg9
 z9:=Tryz.sizeOf9
 v9:=Tryz.zeroValue9
 t21:=Tryz.underlying21
 a21:=Tryz.isAgg21
 z21:=Tryz.sizeOf21
 v21:=Tryz.zeroValue21
 t31:=Tryz.underlying22
 a31:=Tryz.isAgg22
 z31:=Tryz.sizeOf22
 v31:=Tryz.zeroValue22
 t46:=Tryz.underlying173
 a46:=Tryz.isAgg173
 z46:=Tryz.sizeOf173
 v46:=Tryz.zeroValue173
 t51:=Tryz.underlying176
 a51:=Tryz.isAgg176
 z51:=Tryz.sizeOf176
 v51:=Tryz.zeroValue176
 t105:=Tryz.underlying156
 a105:=Tryz.isAgg156
 z105:=Tryz.sizeOf156
 v105:=Tryz.zeroValue156
 t119:=Tryz.underlying202
 a119:=Tryz.isAgg202
 z119:=Tryz.sizeOf202
 t138:=Tryz.underlying204
 a138:=Tryz.isAgg204
 z138:=Tryz.sizeOf204
 v138:=Tryz.zeroValue204
 t139:=Tryz.underlying205
 a139:=Tryz.isAgg205
 z139:=Tryz.sizeOf205
 v139:=Tryz.zeroValue205
 t146:=Tryz.underlying206
 a146:=Tryz.isAgg206
 z146:=Tryz.sizeOf206
 v146:=Tryz.zeroValue206
 g1:=by kernel_rfl
 g3:=by kernel_rfl
 g4:=by kernel_rfl }
end Go.Proofs
namespace Go.Proofs.YtmlphohdcejniaaGreatDoor
open Go.RowKit Go.Shelf
attribute [local go_sem ↓] Go.wp_at_zero Go.wp_at_succ
def tv:ByteArray:=⟨#[46]⟩
def pieces (s:ByteArray):List ByteArray:=Lib.splitB tv 0 (Lib.countB s tv) s
theorem wZ (s:ByteArray):(pieces s).length=Lib.countB s tv+1:=Lib.splitB_all tv (by decide) 0 _ s rfl
theorem sF:∀(k:Nat) (s:ByteArray),∀x ∈ Lib.splitB tv 0 k s,x.size≤s.size
 |0,s,x,hx=>by
  rw[Lib.splitB_zero,List.mem_singleton] at hx
  rw[hx]
  exact zD _
 |k+1,s,x,hx=>by
  rcases Lib.indexB_cases s tv with YN|⟨i,YN,hr⟩
  ·rw[Lib.splitB_miss _ _ _ _ YN,List.mem_singleton] at hx
   rw[hx]
   exact zD _
  ·rw[Lib.splitB_hit _ _ _ _ i YN] at hx
   rcases List.mem_cons.1 hx with rfl|hx
   ·rw[ByteArray.size_extract];omega
   ·have:=sF k _ x hx
    rw[ByteArray.size_extract] at this
    omega
theorem MV:(Tryz.prog.info? 9).map (fun i=>(i.zero,i.size,i.bytes))=some (some (.string ByteArray.empty),1,16):=by kernel_rfl
theorem z8 {W:World} (hM:gY W) (s:ByteArray) (hs:s.size≤1048576):Calls Tryz.prog 39 #[.string s,.string ⟨#[46]⟩] W fun e w=>∃c,e=.returned (.slice (some ⟨W.heap.size,0,none⟩) (pieces s).length c)∧w=W.alloc (.cells (bW (pieces s)).toArray 9):=by
 obtain ⟨_,m,hm⟩:=hM
 refine (Any.strings_Split Tryz.FF MV s tv m W (by omega) hm (by decide)).mono ?_
 rintro e w ⟨rfl,rfl⟩
 rw[←wZ]
 exact ⟨_,rfl,rfl⟩
theorem eD {α:Type}{l:List α}{i:Nat}{x:α} (h:l[i]?=some x):l.take (i+1)=l.take i++[x]:=by
 rw[List.take_add_one,h]
 rfl
theorem Lh (ps:List ByteArray) (x:ByteArray):(iu ps++⟨#[46]⟩)++x=iu (ps++[x]):=by
 have h:∀ps:List ByteArray,eX (ps++[x])=eX ps++(46::x.data.toList):=by
  intro ps
  induction ps with
  |nil=>simp[eX]
  |cons y r ih=>simp[eX,ih]
 unfold iu
 rw[h]
 obtain ⟨⟨l⟩⟩:=x
 apply ByteArray.ext
 rw[ByteArray.data_append,ByteArray.data_append]
 simp
theorem CO {ps:List ByteArray} (h:∀x ∈ ps,aR x) (h4:ps.length≤4):(iu ps).size≤124:=by
 have:=sq ps h
 show (eX ps).toArray.size≤124
 simp only[List.size_toArray]
 omega
theorem nL {W:World} (hM:gY W) (s:ByteArray) (hs:s.size≤1048576):Calls Tryz.prog 19 #[.string s] W fun e w=>(∃ps,ik ps∧e=.returned (.string (iu ps)))∧Below W.heap.size W w:=by
 have HS:=aj (z8 hM s hs)
 have hpl:=wZ s
 have aaY:=Lib.countB_le tv (by decide) s.size s (zD _)
 have KV:Hid (∀x ∈ pieces s,x.size≤1048576):=fun x hx=>Nat.le_trans (sF _ s x hx) hs
 have dZ:Below W.heap.size W (W.alloc (.cells (bW (pieces s)).toArray 9)):=(zE _ _).alloc (zD _) _
 have lM:(W.alloc (.cells (bW (pieces s)).toArray 9)).heap[W.heap.size]?=some (.cells (bW (pieces s)).toArray 9 (0,0)):=aC _ _
 have bU:=zJ W (.cells (bW (pieces s)).toArray 9)
 obtain ⟨V,hV⟩:∃V,W.alloc (.cells (bW (pieces s)).toArray 9)=V:=⟨_,rfl⟩
 rw[hV] at HS dZ lM bU
 obtain ⟨L,hL⟩:∃L,pieces s=L:=⟨_,rfl⟩
 rw[hL] at HS lM hpl KV
 have hn:1≤L.length∧L.length≤1048577:=by omega
 have HV:=aj (And.intro dZ (And.intro lM bU))
 clear hV hL hpl aaY dZ lM bU hM
 go_enter Tryz.func19,Tryz.ntmps19
 go_wp2_with fail
 refine (aa HS).mono ?_
 rintro e w1 ⟨c,rfl,oI⟩
 obtain rfl:V=w1:=oI.symm
 clear HS oI
 go_wp2
 go_loopg [3,5] L.length (fun gk v3 v5 wr=>∃(i:Nat) (ps:List ByteArray),v5=.int .i64 (i:Int)∧v3=.string (iu ps)∧gk=L.length-i∧i≤L.length∧i≤4∧ps.length=i∧Hid (∀x ∈ ps,aR x)∧Hid (Below V.heap.size V wr))
 case atStart=>exact ⟨0,[],rfl,rfl,rfl,by omega,by omega,rfl,fun x hx=>by (cases hx),zE _ _⟩
 case round =>
  obtain ⟨i,ps,rfl,rfl,fi,hi,hi4,KM,HP,HB⟩:=hrel
  have gA:=aj fi
  have Hpi:=aj KM
  have Hn:=aj hn
  clear fi KM hn
  by_cases mO:i<L.length∧i<4
  ·obtain ⟨h1,h2⟩:=mO
   have H1:=aj h1
   have H2:=aj h2
   have d1:(i:Int)<(L.length:Int):=by omega
   have d2:decide ((i:Int)<4)=true:=by simp;omega
   have i0:(0:Int)≤(i:Int):=zH _
   obtain ⟨x,hx⟩:∃x,L[i]?=some x:=⟨_,List.getElem?_eq_getElem h1⟩
   have hxm:=List.mem_of_getElem? hx
   have hc:wr.cell? ⟨W.heap.size,i,none⟩=some (.string x):=by
    obtain ⟨q1,q2,q3⟩:=aa HV
    rw[cell_of_row _ _ _ _ _ _ (((aa HB).block _ (by omega)).trans q2)]
    have:=jX L i x hx
    simpa using this
   have EW:=aj (aa KV x hxm)
   have W6:=aj (CO (aa HP) (by rw[aa Hpi];exact hi4))
   obtain ⟨out,Uz⟩:∃out,iu ps=out:=⟨_,rfl⟩
   rw[Uz] at W6 ⊢
   have abu:=aj Uz
   have hos:out.size≤124:=aa W6
   clear hx hxm h1 h2 Uz
   go_wp2_with fail
   refine (gg wr x (by have:=aa EW;omega)).mono ?_
   rintro e w2 ⟨⟨y,hy,rfl⟩,bJ⟩
   have iL:=aj ((aa HB).trans (bJ.mono (aa HB).size))
   have HY:=aj hy
   have hys:y.size≤30:=hy.2.2
   clear bJ hy hc
   go_wp2
   go_roundg (L.length-(i+1))
   case measure=>have:=aa gA;have:=aa H1;omega
   case rel =>
    refine ⟨i+1,ps++[y],by go_num,?_,rfl,aa H1,aa H2,by rw[zK,aa Hpi];rfl,fun z hz=>?_,iL⟩
    ·rw[←Lh,aa abu]
    ·rcases List.mem_append.1 hz with hz|hz
     ·exact aa HP z hz
     ·rw[List.mem_singleton.1 hz];exact aa HY
  ·have Tc:Hid (ik ps):=by
    have h1:=aa Hpi
    have h2:=(aa Hn).1
    refine ⟨fun e=>?_,aa HP,by omega⟩
    rw[e,List.length_nil] at h1
    exact mO ⟨by omega,by omega⟩
   have kZ:Hid (Below W.heap.size W wr):=(aa HV).1.trans ((aa HB).mono (aa HV).1.size)
   by_cases h1:i<L.length
   ·have d1:(i:Int)<(L.length:Int):=by omega
    have d2:decide ((i:Int)<4)=false:=by simp;omega
    clear mO
    go_wp2
    go_ret
    exact ⟨⟨ps,aa Tc,rfl⟩,aa kZ⟩
   ·have d1:¬(i:Int)<(L.length:Int):=by omega
    clear mO
    go_wp2
    go_ret
    exact ⟨⟨ps,aa Tc,rfl⟩,aa kZ⟩
end Go.Proofs.YtmlphohdcejniaaGreatDoor
namespace Go.Proofs.YtmlphohdcejniaaGreatDoor
open Go.RowKit
attribute [local go_sem ↓] Go.wp_at_zero Go.wp_at_succ
theorem Jg {P:Program}{ops:Array Oper}{o:Oper}{a:Act}{w:World}{K:Act→World→Prop}{Q:Exit→Act→World→Prop}{E:Prop} (Ih:o.guard=none) (f:FuncId) (y9:∀vs,(callFunc f vs).run P w=.ok (.enter f vs) w) (args:Array Operand) (KJ:Array TypeId)
  (ho:o.op=.call { callee:=.value (.func f),args:=args,argTypes:=KJ }) (vs:Array Value) (hv:args.map a.eval=vs) {R:Ending→World→Prop} (hc:Calls P f vs w R) (hK:∀e w',R e w'→∃v,e=.returned v∧K (a.put o.dst v) w') :
  if Region.wanted o (yielded ops a.tmps)=true then Oper.wp P o a w K Q else E:=by
 have hw:Region.wanted o (yielded ops a.tmps)=true:=by simp[Region.wanted,Ih]
 rw[if_pos hw]
 have h2:Oper.wp P o a w K Q=o.upon P a K Q (.ok (.enter f vs) w):=by
  unfold Oper.wp
  simp[execOp,ho,resolve,invoke,←hv,Act.eval,Deferred.ofValue,y9]
 rw[h2,Oper.upon_enter]
 refine hc.mono ?_
 intro e w' hr
 obtain ⟨v,rfl,hk⟩:=hK e w' hr
 exact hk
section
variable {P : Program} {ops : Array Oper} {Q : Exit → Act → World → Prop} {md : Region.Mode} {T : World → Prop} {z : Nat}
def cW (P:Program) (md:Region.Mode) (ops:Array Oper) (Q:Exit→Act→World→Prop) (T:World→Prop) (z:Nat):Nat→Array Bool→Act→World→Prop
 |0,d,a,w=>Region.ready md ops d=[]∧Q .normal a w
 |n+1,d,a,w=>(Region.ready md ops d=[]→Q .normal a w)∧∀i ∈ Region.ready md ops d,wpOp P ops Q i (fun a' w'=>(i≠z→T w')∧cW P md ops Q T z n (d.setIfInBounds i true) a' w') a w
theorem cj:∀(n:Nat) (d:Array Bool) (a:Act) (w:World),cW P md ops Q T z n d a w→wpAny P md ops Q n d a w
 |0,_,_,_,h=>h
 |n+1,_,_,_,h=>⟨h.1,fun i hi=>wpOp_mono (fun a' w' h'=>cj n _ a' w' h'.2) (h.2 i hi)⟩
theorem IW {i:Nat}{oi:Oper}{v:Value} (hi:ops[i]?=some oi) (hw:∀oz,ops[z]?=some oz→∃e ∈ oz.after,Region.binds md e=true∧e.on=i) (hs:∀(j:Nat) (o:Oper) cs b,ops[j]?=some o→o.op≠.select cs b)
  (hQ:∀c a w,Q (.panic c) (a.put oi.dst v) w→Q (.panic c) a w):∀(n:Nat) (d:Array Bool) (a:Act) (w:World),
   (∀j oj,ops[j]?=some oj→j≠i→d.getD j true=false→(∀e ∈ oj.after,Region.binds md e=true→e.on≠i)→oi.apart ops oj=true)→i ∈ Region.ready md ops d→YieldsIf P ops T oi v a→T w →
   cW P md ops Q T z n (d.setIfInBounds i true) (a.put oi.dst v) w→cW P md ops Q T z (n+1) d a w:=by
 intro n
 induction n with
 |zero =>
  intro d a w _ hr hy hT H
  refine ⟨fun h=>(by rw[h] at hr;cases hr),fun j hj=>?_⟩
  by_cases e:j=i
  ·rw[e];exact hy.wpOp hi hT ⟨fun _=>hT,H⟩
  ·have q:=ready_mono hj e
   rw[H.1] at q
   cases q
 |succ n ih =>
  intro d a w hf hr hy hT H
  refine ⟨fun h=>(by rw[h] at hr;cases hr),fun j hj=>?_⟩
  by_cases e:j=i
  ·rw[e];exact hy.wpOp hi hT ⟨fun _=>hT,H⟩
  ·obtain ⟨hd,oj,hoj,jq⟩:=mem_ready.1 hj
   have Cz:=(mem_ready.1 hr).1
   have rb:∀x ∈ oj.after,Region.binds md x=true→x.on≠i:=fun x hx hb hxi=>by
    have q:=jq x hx hb
    rw[hxi] at q
    rcases Nat.lt_or_ge i d.size with q1|q1
    ·simp[q1] at Cz q
     rw[Cz] at q
     cases q
    ·simp[Array.getElem?_eq_none q1] at q
   have hjz:j≠z:=fun q=>by
    subst q
    obtain ⟨x,hx,hb,hxi⟩:=hw _ hoj
    exact rb x hx hb hxi
   have h2:=wpOp_putIf hoj (hf j oj hoj e hd rb) (fun cs b=>hs i oi cs b hi) (fun cs b=>hs j oj cs b hoj) hQ hy (H.2 j (ready_mono hj e))
   refine wpOp_mono (fun a' w' h3=>⟨h3.2.1,ih (d.setIfInBounds j true) a' w' (fun k ok hk hki b9 hn=>hf k ok hk hki ?_ hn) (ready_mono hr (Ne.symm e)) h3.1 (h3.2.1 hjz) ?_⟩) h2
   ·by_cases hjk:j=k
    ·rw[←hjk];exact hd
    ·rwa [getD_set_ne true hjk] at b9
   ·rw[Array.setIfInBounds_comm _ _ e]
    exact h3.2.2
def waits (md:Region.Mode) (ops:Array Oper) (z i:Nat):Bool:=match ops[z]? with
 |none=>true
 |some o=>o.after.any fun e=>Region.binds md e&&e.on==i
theorem CJ (i:Nat) {oi:Oper} (v:Value) (x:Tmp) {n:Nat}{d:Array Bool}{a:Act}{w:World} (hi:ops[i]?=some oi) (hx:oi.dst=some x) (hw:waits md ops z i=true) (hs:Region.noSelect ops=true) (hf:Region.free md ops d i=true) (hr:(Region.ready md ops d).contains i=true)
  (hQ:∀c a w,Q (.panic c) (a.put (some x) v) w→Q (.panic c) a w) (hy:YieldsIf P ops T oi v a) (hT:T w) (h:cW P md ops Q T z n (d.setIfInBounds i true) (a.put (some x) v) w):cW P md ops Q T z (n+1) d a w:=by
 rw[←hx] at hQ h
 refine IW hi (fun oz hz=>?_) (Region.noSelect_spec hs) hQ n d a w (Region.free_spec hi hf) (by simpa using hr) hy hT h
 unfold waits at hw
 rw[hz] at hw
 obtain ⟨e,he,hb⟩:=Array.any_eq_true'.1 hw
 simp only[Bool.and_eq_true,beq_iff_eq] at hb
 exact ⟨e,he,hb.1,hb.2⟩
theorem ak (i:Nat) {oi:Oper} (v:Value) (x:Tmp) {n:Nat}{d:Array Bool}{a:Act}{w:World} (hi:ops[i]?=some oi) (hx:oi.dst=some x) (hy:YieldsIf P ops T oi v a) (hT:T w) (h:cW P md ops Q T z n (d.setIfInBounds i true) (a.put (some x) v) w) (hw:waits md ops z i=true:=by kernel_rfl) (hs:Region.noSelect ops=true:=by kernel_rfl) (hf:Region.free md ops d i=true:=by kernel_rfl) (hr:(Region.ready md ops d).contains i=true:=by kernel_rfl)
  (hQ:∀c a w,Q (.panic c) (a.put (some x) v) w→Q (.panic c) a w:=by exact fun _ _ _ h=>h):cW P md ops Q T z (n+1) d a w:=CJ i v x hi hx hw hs hf hr hQ hy hT h
theorem ay (i:Nat) {o:Oper}{n:Nat}{d:Array Bool}{a:Act}{w:World} (hr:Region.ready md ops d=[i]) (ho:ops[i]?=some o)
  (h:∀K:Act→World→Prop,(∀a' w',((i≠z→T w')∧cW P md ops Q T z n (d.setIfInBounds i true) a' w')→K a' w')→if Region.wanted o (yielded ops a.tmps)=true then Oper.wp P o a w K Q else K (a.put o.dst undef) w):cW P md ops Q T z (n+1) d a w:=by
 refine ⟨fun h0=>(by rw[h0] at hr;cases hr),fun j hj=>?_⟩
 rw[hr] at hj
 obtain rfl:j=i:=by simpa using hj
 exact wpOp_step ho h
theorem aN {o:Oper}{a:Act}{w:World}{K:Act→World→Prop}{E:Prop} (x:Tmp) (hx:o.dst=some x) (Ih:o.guard=none) (f:FuncId) (y9:∀vs,(callFunc f vs).run P w=.ok (.enter f vs) w) (args:Array Operand) (KJ:Array TypeId)
  (ho:o.op=.call { callee:=.value (.func f),args:=args,argTypes:=KJ }) (vs:Array Value) (hv:args.map a.eval=vs) {R:Ending→World→Prop} (hc:Calls P f vs w R) (hK:∀e w',R e w'→∃v,e=.returned v∧K (a.put (some x) v) w') :
  if Region.wanted o (yielded ops a.tmps)=true then Oper.wp P o a w K Q else E :=
 Jg Ih f y9 args KJ ho vs hv hc (by rw[hx];exact hK)
theorem wR {o:Oper}{a:Act}{w:World}{K:Act→World→Prop}{E:Prop} (x:Tmp) (hx:o.dst=some x) (f:FuncId) (y9:∀vs,(callFunc f vs).run P w=.ok (.enter f vs) w) (args:Array Operand) (KJ:Array TypeId)
  (ho:o.op=.call { callee:=.value (.func f),args:=args,argTypes:=KJ }) (vs:Array Value) (hv:args.map a.eval=vs) {R:Ending→World→Prop} (hc:Calls P f vs w R) (hw:Region.wanted o (yielded ops a.tmps)=true) (hK:∀e w',R e w'→∃v,e=.returned v∧K (a.put (some x) v) w') :
  if Region.wanted o (yielded ops a.tmps)=true then Oper.wp P o a w K Q else E:=by
 rw[if_pos hw]
 have h2:Oper.wp P o a w K Q=o.upon P a K Q (.ok (.enter f vs) w):=by
  unfold Oper.wp
  simp[execOp,ho,resolve,invoke,←hv,Deferred.ofValue,Act.eval,y9]
 rw[h2,Oper.upon_enter]
 refine hc.mono ?_
 intro e w' hr
 obtain ⟨v,rfl,hk⟩:=hK e w' hr
 rw[hx]
 exact hk
theorem bj {n:Nat}{d:Array Bool}{a:Act}{w:World} (hr:Region.ready md ops d=[]) (h:Q .normal a w):cW P md ops Q T z n d a w:=by
 cases n with
 |zero=>exact ⟨hr,h⟩
 |succ n=>exact ⟨fun _=>h,fun i hi=>by rw[hr] at hi;cases hi⟩
end
end Go.Proofs.YtmlphohdcejniaaGreatDoor
namespace Go.Proofs.YtmlphohdcejniaaGreatDoor
open Go.RowKit
attribute [local go_sem ↓] Go.wp_at_zero Go.wp_at_succ
theorem cz {B t sz n:Nat}{v:Value}{xs:List Value}{w w':World} (h:w.ownsRow B t sz v n xs) (hb:Below w.heap.size w w'):w'.ownsRow B t sz v n xs:=by
 refine h.kept (show w.grownBy w' none from ⟨hb.os,hb.tape,hb.output,hb.size,fun k hk _=>hb.block k hk⟩) ?_
 cases v.ownBlock with
 |none=>exact .inl rfl
 |some k=>exact .inr (by simp)
theorem AR (w:World) (x y:Value) (t:TypeId):∀j u,[x,y][j]?=some u→(w.alloc (.cells #[x,y] t)).cell? ((⟨w.heap.size,0,none⟩:Addr).add j)=some u:=by
 intro j u h
 match j with
 |0=>rw[show (⟨w.heap.size,0,none⟩:Addr).add 0=⟨w.heap.size,0,none⟩ from rfl,cell_of_row _ _ _ _ _ _ (aC w _)];exact h
 |1=>rw[show (⟨w.heap.size,0,none⟩:Addr).add 1=⟨w.heap.size,1,none⟩ from rfl,cell_of_row _ _ _ _ _ _ (aC w _)];exact h
 |j+2=>simp at h
theorem oy (w:World) (xs:List Value) (t:TypeId):∀j u,xs[j]?=some u→(w.alloc (.cells xs.toArray t)).cell? ((⟨w.heap.size,0,none⟩:Addr).add j)=some u:=by
 intro j u h
 have e:(w.alloc (.cells xs.toArray t)).cell? ⟨w.heap.size,j,none⟩=some u:=by
  rw[cell_of_row _ _ _ _ _ _ (aC w _)]
  simpa using h
 by_cases hj:j=0<;>simpa[Addr.add,hj] using e
theorem dC {P:Program}{md:Region.Mode}{ops:Array Oper}{Q:Exit→Act→World→Prop}{T:World→Prop}{z:Nat} (i j:Nat) {oi oj:Oper}{n:Nat}{d:Array Bool}{a:Act}{w:World} (hr:Region.ready md ops d=[i,j]) (hi:ops[i]?=some oi) (hj:ops[j]?=some oj)
  (h1:∀K:Act→World→Prop,(∀a' w',((i≠z→T w')∧cW P md ops Q T z n (d.setIfInBounds i true) a' w')→K a' w')→if Region.wanted oi (yielded ops a.tmps)=true then Oper.wp P oi a w K Q else K (a.put oi.dst undef) w)
  (h2:∀K:Act→World→Prop,(∀a' w',((j≠z→T w')∧cW P md ops Q T z n (d.setIfInBounds j true) a' w')→K a' w')→if Region.wanted oj (yielded ops a.tmps)=true then Oper.wp P oj a w K Q else K (a.put oj.dst undef) w):cW P md ops Q T z (n+1) d a w:=by
 refine ⟨fun h0=>(by rw[h0] at hr;cases hr),fun k hk=>?_⟩
 rw[hr] at hk
 rcases (by simpa using hk:k=i∨k=j) with rfl|rfl
 ·exact wpOp_step hi h1
 ·exact wpOp_step hj h2
theorem qf {P:Program}{w:World}{ops:Array Oper}{o:Oper}{a:Act}{K:Act→World→Prop}{Q:Exit→Act→World→Prop}{E:Prop} (x0:Tmp) (X7:o.dst=some x0) (Ih:o.guard=none) (s x:Operand) (t:TypeId)
  (ho:o.op=.call { callee:=.builtin .append,args:=#[s,x],argTypes:=#[t,t] })
  (base:Nat) (e:TypeId) (i:TypeInfo) (z:Value) (size bytes:Nat) (ht:P.underlying t=some (.slice e)) (hi:P.info? e=some i) (hz:i.zero=some z)
  (DM:i.size=size) (QX:i.bytes=bytes) (hzs:z.cells.size=size) (bU:0<size)
  (v:Value) (n:Nat) (xs:List Value) (hs:a.eval s=v) (l9:w.ownsRow base e size v n xs)
  (ad:Addr) (m c:Nat) (news:List Value) (hx:a.eval x=.slice (some ad) m c) (hl:news.length=m*size) (M':∀j u,news[j]?=some u→w.cell? (ad.add j)=some u) (h1:∀u ∈ news,u.oneCell'=true)
  (WR:n+m≤maxLen) (xP:(n+m)*bytes≤140737488355328) (cq:base≤w.heap.size)
  (h:∀v' w',w'.ownsRow base e size v' (n+m) (xs++news)→w.grownBy w' v.ownBlock→(v'.ownBlock=v.ownBlock∨v'.ownBlock=some w.heap.size)→K (a.put (some x0) v') w') :
  if Region.wanted o (yielded ops a.tmps)=true then Oper.wp P o a w K Q else E:=by
 rw[←X7] at h
 have hw:Region.wanted o (yielded ops a.tmps)=true:=by simp[Region.wanted,Ih]
 rw[if_pos hw]
 obtain ⟨v',w',hr,h2,h3,h4,h5⟩:=run_append_own_at (P:=P) w base t o.type e i z size bytes ht hi hz DM QX hzs bU v n xs l9 ad m c news hl M' h1 WR xP cq
 unfold Oper.wp execOp
 simp only[ho,resolve,invoke,builtin,Sem.run_bind,Sem.run_pure,Result.andThen_ok,List.map_toArray,List.map_cons,List.map_nil,hs,hx,hr]
 exact h v' w' h2 h3 h5
end Go.Proofs.YtmlphohdcejniaaGreatDoor

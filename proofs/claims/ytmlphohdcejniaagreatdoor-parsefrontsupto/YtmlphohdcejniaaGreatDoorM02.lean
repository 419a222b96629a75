import Derived.Test.YtmlphohdcejniaaGreatDoorM01
set_option maxHeartbeats 4000000
set_option maxRecDepth 100000
namespace Go.Proofs.YtmlphohdcejniaaGreatDoor
open Go.RowKit
attribute [local go_sem ↓] Go.wp_at_zero Go.wp_at_succ
theorem Tryz.BG:(Tryz.prog.info? 44).map (fun i=>(i.zero,i.size,i.bytes))=some (some (.agg #[.int .i64 0,.int .i64 0,.string ⟨#[]⟩]),3,32):=by kernel_rfl
theorem Kp (w:World) (vs:Array Value):(callFunc 64 vs).run Tryz.prog w=.ok (.enter 64 vs) w:=by
 have hn:¬Tryz.f64.name = "runtime.NumGoroutine" := by decide +kernel
 have hb:Tryz.f64.body.isSome=true:=by kernel_rfl
 obtain ⟨c,hc⟩:=zG hb
 simp[callFunc,Tryz.func64,hn,hc]
theorem wQ {P:Program}{ops:Array Oper}{o:Oper}{a:Act}{w:World}{K:Act→World→Prop}{Q:Exit→Act→World→Prop}{E:Prop} (x:Tmp) (hx:o.dst=some x) (Ih:o.guard=none) (f:FuncId) (y9:∀vs,(callFunc f vs).run P w=.ok (.enter f vs) w) (args:Array Operand) (KJ:Array TypeId)
  (ho:o.op=.call { callee:=.value (.func f),args:=args,argTypes:=KJ }) (vs:Array Value) (hv:args.map a.eval=vs) {R:Ending→World→Prop} (hc:Calls P f vs w R) (hK:∀e w',R e w'→∃v,e=.returned v∧K (a.put (some x) v) w') :
  if Region.wanted o (yielded ops a.tmps)=true then Oper.wp P o a w K Q else E:=by
 have hw:Region.wanted o (yielded ops a.tmps)=true:=by simp[Region.wanted,Ih]
 rw[if_pos hw]
 have h2:Oper.wp P o a w K Q=o.upon P a K Q (.ok (.enter f vs) w):=by
  unfold Oper.wp
  simp[execOp,ho,resolve,invoke,←hv,Act.eval,Deferred.ofValue,y9]
 rw[h2,Oper.upon_enter]
 refine hc.mono ?_
 intro e w' hr
 obtain ⟨v,rfl,hk⟩:=hK e w' hr
 rw[hx]
 exact hk
theorem DA (X:World) (cs:Array Value) (t:TypeId) (j:Nat) (u:Value) (hj:cs.toList[j]?=some u):(X.alloc (.cells cs t)).cell? (Addr.add ⟨X.heap.size,0,none⟩ j)=some u:=by
 rw[Go.WideShapes.add_plain,Nat.zero_add,cell_of_row _ _ _ _ _ _ (aC X _),←Array.getElem?_toList]
 exact hj
structure BX (B b:Nat) (w w':World):Prop where
 os:w'.os=w.os
 tape:w'.tape=w.tape
 output:w'.output=w.output
 size:w.heap.size≤w'.heap.size
 block:∀q,q<B→q≠b→w'.heap[q]?=w.heap[q]?
theorem BX.refl (B b:Nat) (w:World):BX B b w w:=⟨rfl,rfl,rfl,zD _,fun _ _ _=>rfl⟩
theorem BX.trans {B b:Nat}{u v w:World} (h:BX B b u v) (k:BX B b v w):BX B b u w:=⟨k.os.trans h.os,k.tape.trans h.tape,k.output.trans h.output,Nat.le_trans h.size k.size,fun i hi hb=>(k.block i hi hb).trans (h.block i hi hb)⟩
theorem BX.of {n B b:Nat}{u w:World} (h:Below n u w) (hn:B≤n):BX B b u w:=⟨h.os,h.tape,h.output,h.size,fun q hq _=>h.block q (by omega)⟩
theorem BX.set {B b:Nat}{u w:World} (h:BX B b u w) (i:Nat) (v:Value):BX B b u (w.setCell ⟨b,i,none⟩ v):=⟨h.os,h.tape,h.output,by rw[World.size_setCell];exact h.size,fun q hq hb=>(heap_setCell_other w ⟨b,i,none⟩ q v (by simpa using hb)).trans (h.block q hq hb)⟩
theorem BX.below {n B b:Nat}{u w:World} (h:BX B b u w) (hb:n≤b) (hB:n≤B):Below n u w:=⟨h.os,h.tape,h.output,h.size,fun q hq=>h.block q (by omega) (by omega)⟩
theorem XH {B:Nat}{W w:World}{e:TypeId}{z m:Nat}{v:Value}{xs:List Value} (h:W.ownsRow B e z v m xs) (hb:Below W.heap.size W w):w.ownsRow B e z v m xs:=by
 obtain ⟨h1,⟨rfl,h0⟩|⟨g,c,cur,rfl,h2,h3,h4⟩⟩:=h
 ·exact ⟨h1,.inl ⟨rfl,h0⟩⟩
 ·exact ⟨h1,.inr ⟨g,c,cur,rfl,h2,(hb.block g (zA h3).1).trans h3,h4⟩⟩
theorem cL.up {W w:World}{b:Nat}{s:ByteArray}{k:Nat}{v:Value} (h:cL W b s k v) (hb:Below W.heap.size W w):cL w b s k v:=(hb.block b h.lt).trans h
theorem LN {W:World}{B b g c n i j:Nat}{e:TypeId}{xs:List Value}{u z:Value} (UH:g≠b) (h:W.ownsRow B e 3 (.slice (some ⟨g,0,none⟩) n c) n xs):((W.setCell ⟨b,i,none⟩ u).setCell ⟨b,j,none⟩ z).ownsRow B e 3 (.slice (some ⟨g,0,none⟩) n c) n xs:=by
 obtain ⟨h1,⟨q,_⟩|⟨g',cap,cur,e1,h3,h4,h5⟩⟩:=h
 ·cases q
 ·refine ⟨h1,.inr ⟨g',cap,cur,e1,h3,?_,h5⟩⟩
  have eg:g'=g:=by injection e1 with e1;injection e1 with e1;injection e1 with e1;exact e1.symm
  subst eg
  exact (heap_setCell_other _ ⟨b,j,none⟩ g' z (by simpa using UH)).trans ((heap_setCell_other W ⟨b,i,none⟩ g' u (by simpa using UH)).trans h4)
theorem jc {W:World}{g:Nat} (i:Nat) {cs:Array Value}{t:TypeId} (h:W.heap[g]?=some (.cells cs t (0,0))):W.frozen? ⟨g,i,none⟩=false:=by
 unfold World.frozen?
 rw[h]
 simp
theorem LA {W:World}{B b:Nat}{s:ByteArray}{k n m:Nat}{v:Value}{xs:List Value}{kind:Int} (h:cL W b s k v) (hB:b<B) (hBW:B≤W.heap.size) (cP:W.ownsRow B 44 3 v m xs) (hk:k+n≤s.size) (hs:s.size≤65536) (hm:m<16383) :
  Calls Tryz.prog 60 #[.pointer (some ⟨b,0,none⟩),.int .i64 kind,.int .i64 (n:Int),.int .i64 0] W fun e w=>e=.returned (.int .i64 0)∧∃v',cL w b s (k+n) v'∧w.ownsRow B 44 3 v' (m+1) (xs++[.int .i64 kind,.int .i64 (k:Int),.string (s.extract k (k+n))])∧BX B b W w:=by
 obtain ⟨i0,hi,oH,oG,pQ⟩:=info_parts Tryz.BG
 have vG:v.ownBlock≠some b:=fun e=>by have:=(cP.lt b e).1;omega
 have c0:=h.c0
 have c1:=h.c1
 have c2:=h.c2
 obtain ⟨va,vc,hv⟩:∃a c,v=.slice a m c:=by
  obtain ⟨_,⟨e,h0⟩|⟨g,c,_,e,_⟩⟩:=cP
  ·exact ⟨none,0,by rw[e,h0]⟩
  ·exact ⟨_,_,e⟩
 subst hv
 have xQ:=h.lt
 have ZQ:=aj (fun n=>lS (W:=W.drewN n) h (by omega))
 have ZP:=aj cP
 have Hh:=aj h
 have hex:=sQ s k n hk
 have bU:(s.extract k s.size).size=s.size-k:=by rw[ByteArray.size_extract];omega
 have q1:((m:Int)==16383)=false:=beq_eq_false_iff_ne.2 (by omega)
 have n0:(0:Int)≤(n:Int):=zH _
 have n1:(n:Int)≤((s.size-k:Nat):Int):=by omega
 have O1:Hid (m+1≤maxLen):=by show _≤_;unfold maxLen;omega
 have O2:Hid ((m+1)*32≤140737488355328):=by show _≤_;omega
 have mM:∀(n:Nat) (ob:Obj),((W.drewN n).alloc ob).heap.size=W.heap.size+1:=fun n ob=>zJ _ _
 have yA:=aj mM
 have aa6:∀(n:Nat) (ob:Obj),((W.drewN n).alloc ob).cell? ⟨b,2,none⟩=some (.slice va m vc):=fun n ob=>cL.c2 (s:=s) (k:=k) ((Below.heap_alloc W ob b xQ).trans h)
 clear h cP mM
 go_enter Tryz.func60,Tryz.ntmps60
 go_wp2_with fail
 go_region_law (first|(refine wQ 29 rfl rfl 64 (Kp _) #[.tmp 28] #[100] rfl #[.pointer (some ⟨b,0,none⟩)] (by first|rfl|simp[Act.eval,Act.put]|simp[Act.eval,Act.put,Array.getElem?_setIfInBounds]|(simp[Act.eval];rfl)|(simp[Act.eval];go_simp)) (aa ZQ 1) ?_;rintro o7 w7 ⟨rfl,n7,rfl⟩;refine ⟨_,rfl,?_⟩)|(refine step_append_lies _ rfl (.tmp 22) (.tmp 33) 38 rfl B 44 i0 (.agg #[.int .i64 0,.int .i64 0,.string ⟨#[]⟩]) 3 32 Tryz.underlying38 hi oH oG pQ rfl (by decide) (.slice va m vc) m xs (by first|rfl|simp[Act.eval,Act.put]|simp[Act.eval,Act.put,Array.getElem?_setIfInBounds]|(simp[Act.eval];rfl)|(simp[Act.eval];go_simp)) ((aa ZP).alloc _) ⟨W.heap.size,0,none⟩ 1 1 [.int .i64 kind,.int .i64 (k:Int),.string (s.extract k (k+n))] (by first|rfl|simp[Act.eval,Act.put]|simp[Act.eval,Act.put,Array.getElem?_setIfInBounds]|(simp[Act.eval];rfl)|(simp[Act.eval];go_simp)) rfl (fun j u hj=>DA (W.drewN (1+n7)) #[.int .i64 kind,.int .i64 (k:Int),.string (s.extract k (k+n))] 44 j u hj) (by simp[Value.oneCell']) (by decide) (aa O1) (aa O2) (by rw[aa yA];omega) (W.heap.size+1) (aa yA _ _) ?_;intro g9 c9 w9 DQ yM Nx aa2;have Pv:w9.heap[b]?=W.heap[b]?:=(yM.block b (by rw[aa yA];omega) (fun e=>vG e.symm)).trans (Below.heap_alloc W _ b xQ);have M5:cL w9 b s k (.slice va m vc):=Pv.trans (aa Hh);have c19:=M5.c1;have c29:=M5.c2;have f19:=jc 1 M5;have f29:=jc 2 M5;have gb:g9≠b:=(fun e=>Nx.elim (fun q=>vG (by rw[q,e])) (fun q=>by omega));have Hs9:=aj M5;have Cp:=aj DQ;have PK:Hid (BX B b W w9):=⟨yM.os,yM.tape,yM.output,(by have:=yM.size;rw[aa yA] at this;omega),fun q hq _=>(yM.block q (by rw[aa yA];omega) (fun e=>by have:=((aa ZP).lt q e.symm).1;omega)).trans (Below.heap_alloc W _ q (by omega))⟩;clear DQ yM Nx Pv M5))
 all_goals go_wp2
 all_goals go_ret
 all_goals refine ⟨rfl,.slice (some ⟨g9,0,none⟩) (m+1) c9,?_,?_,?_⟩
 all_goals first
  |(have q:=heap_setCell_same _ b 1 _ _ (.int .i64 ((k+n:Nat):Int)) (heap_setCell_same _ b 2 _ _ (.slice (some ⟨g9,0,none⟩) (m+1) c9) (aa Hs9));exact q)
  |exact LN gb (aa Cp)
  |exact ((aa PK).set 2 _).set 1 _
theorem zV {W:World}{b:Nat}{s:ByteArray}{k vc:Nat}{va:Option Addr}{kind n e:Int} (h:cL W b s k (.slice va 16383 vc)) :
  Calls Tryz.prog 60 #[.pointer (some ⟨b,0,none⟩),.int .i64 kind,.int .i64 n,.int .i64 e] W fun o w=>o=.returned (.int .i64 45)∧w=W:=by
 have c2:=h.c2
 clear h
 go_enter Tryz.func60,Tryz.ntmps60
 go_wp2
 go_ret
 exact ⟨rfl,rfl⟩
theorem Lz {W:World}{b:Nat}{s:ByteArray}{k m vc:Nat}{va:Option Addr}{kind n e:Int} (h:cL W b s k (.slice va m vc)) (hm:m<16383) (he:e≠0) :
  Calls Tryz.prog 60 #[.pointer (some ⟨b,0,none⟩),.int .i64 kind,.int .i64 n,.int .i64 e] W fun o w=>o=.returned (.int .i64 e)∧w=W:=by
 have c2:=h.c2
 have q1:((m:Int)==16383)=false:=beq_eq_false_iff_ne.2 (by omega)
 have q2:(e != 0)=true:=by simpa using he
 clear h
 go_enter Tryz.func60,Tryz.ntmps60
 go_wp2
 go_ret
 exact ⟨rfl,rfl⟩
theorem cL.at {W:World}{b:Nat}{s:ByteArray}{k:Nat}{v:Value} (h:cL W b s k v) (j:Nat):cL (W.setCell ⟨b,1,none⟩ (.int .i64 (j:Int))) b s j v:=heap_setCell_same _ b 1 _ _ _ h
theorem Fb {W:World}{b:Nat}{s:ByteArray}{k:Nat}{v:Value} (h:cL W b s k v) (hk:k<s.size) (hs:s.size≤65536) :
  Calls Tryz.prog 61 #[.pointer (some ⟨b,0,none⟩)] W fun e w=>e=.returned (.int .i64 0)∧w=W.setCell ⟨b,1,none⟩ (.int .i64 ((k+1:Nat):Int)):=by
 have c1:=h.c1
 have f1:=jc 1 h
 clear h
 go_enter Tryz.func61,Tryz.ntmps61
 go_wp2
 go_ret
 exact ⟨rfl,rfl⟩
theorem bc (s:ByteArray) (a b:Nat):aH (s.extract a b)=((aH s).drop a).take (b-a):=by
 unfold aH
 rw[Lib.extract_data]
 simp[List.map_take,List.map_drop]
theorem qd {s t:ByteArray} (h:aH s=aH t):s=t:=by
 have h1:s.data.toList=t.data.toList:=by
  unfold aH at h
  exact (List.map_inj_right (fun a b e=>UInt8.toNat_inj.1 e)).1 h
 cases s with|mk d=>cases t with|mk e=>cases d;cases e;simp_all
theorem DG (s t:ByteArray):(s.toList==t.toList)=true↔aH s=aH t:=by
 rw[ByteArray.toList_eq,ByteArray.toList_eq]
 constructor
 ·intro h
  unfold aH
  rw[eq_of_beq h]
 ·intro h
  rw[qd h]
  simp
def Cn (s p:ByteArray):Prop:=(aH s).take p.size=aH p
open Classical in
noncomputable def preB (s p:ByteArray):Bool:=decide (Cn s p)
theorem Ju {s p:ByteArray} (h:Cn s p):preB s p=true:=by unfold preB;simp[h]
theorem Fo {s p:ByteArray} (h:¬Cn s p):preB s p=false:=by unfold preB;simp[h]
theorem xS (W:World) (s p:ByteArray):Calls Tryz.prog 56 #[.string s,.string p] W fun e w=>e=.returned (.bool (preB s p))∧w=W:=by
 by_cases hl:p.size≤s.size
 ·have e1:decide ((p.size:Int)≤(s.size:Int))=true:=by simp;omega
  have hx:=bc s 0 p.size
  have YO:=DG (s.extract 0 p.size) p
  have Hx:=aj hx
  have ZV:=aj YO
  clear hx YO
  go_enter Tryz.func56,Tryz.ntmps56
  go_wp2
  go_ret
  refine ⟨?_,rfl⟩
  have:((s.extract 0 p.size).toList==p.toList)=preB s p:=by
   by_cases QM:Cn s p
   ·rw[Ju QM]
    refine (aa ZV).2 ?_
    rw[aa Hx]
    simpa[Cn] using QM
   ·rw[Fo QM,←Bool.not_eq_true]
    intro h
    have:=(aa ZV).1 h
    rw[aa Hx] at this
    exact QM (by simpa[Cn] using this)
  rw[←this]
  rfl
 ·have e1:decide ((p.size:Int)≤(s.size:Int))=false:=by simp;omega
  have hn:¬Cn s p:=fun h=>by
   have:=congrArg List.length h
   rw[List.length_take,bk,bk] at this
   omega
  rw[Fo hn]
  go_enter Tryz.func56,Tryz.ntmps56
  go_wp2
  go_ret
  exact ⟨rfl,rfl⟩
theorem gK (W:World) (s p:ByteArray):Calls Tryz.prog 40 #[.string s,.string p] W fun e w=>e=.returned (.bool (preB s p))∧w=W:=by
 go_enter Tryz.func40,Tryz.ntmps40
 go_wp2_with fail
 refine (xS W s p).mono ?_
 rintro e w' ⟨rfl,he⟩
 obtain rfl:W=w':=he.symm
 go_wp2
 go_ret
 exact ⟨rfl,rfl⟩
theorem jv (W:World) (c:Nat) (hc:c<256) :
  Calls Tryz.prog 47 #[.int .u8 (c:Int)] W fun e w=>e=.returned (.int .i64 (cls c:Int))∧w=W:=by
 have hi:=P9 hc
 generalize hg:firstIdx ⟨#[123,125,91,93,40,41,60,62,59,44,61,46,45]⟩ (Nat.toUInt8 c)=ix at hi
 have Hg:=aj hg
 have Hi:=aj hi
 clear hg hi
 by_cases h1:(9≤c∧c≤13)∨c=32
 ·have hk:cls c=1:=by unfold cls;rw[if_pos h1]
  rw[hk]
  rcases h1 with ⟨h1,h2⟩|rfl
  ·go_enter Tryz.func47,Tryz.ntmps47;go_wp2;go_ret;exact ⟨rfl,rfl⟩
  ·go_enter Tryz.func47,Tryz.ntmps47;go_wp2;go_ret;exact ⟨rfl,rfl⟩
 ·obtain ⟨n32,hb⟩:¬((c:Int)=32)∧(c<9∨13<c):=by omega
  by_cases h2:isLet c
  ·have hk:cls c=2:=qL.2 h2
   rw[hk]
   unfold isLet at h2
   clear h1
   rcases h2 with ⟨h1,h2⟩|⟨h1,h2⟩|rfl
   ·have b1:=nc (c:=c) (k:=9) (by omega);have b2:=oW (c:=c) (k:=13) (by omega);have b3:=rk n32;have b4:=nc (c:=c) (k:=65) (by omega);have b5:=Ws (c:=c) (k:=90) (by omega)
    go_enter Tryz.func47,Tryz.ntmps47;go_wp2;go_ret;exact ⟨rfl,rfl⟩
   ·have b1:=nc (c:=c) (k:=9) (by omega);have b2:=oW (c:=c) (k:=13) (by omega);have b3:=rk n32;have b4:=nc (c:=c) (k:=65) (by omega);have b5:=oW (c:=c) (k:=90) (by omega);have b6:=nc (c:=c) (k:=97) (by omega);have b7:=Ws (c:=c) (k:=122) (by omega)
    go_enter Tryz.func47,Tryz.ntmps47;go_wp2;go_ret;exact ⟨rfl,rfl⟩
   ·go_enter Tryz.func47,Tryz.ntmps47;go_wp2;go_ret;exact ⟨rfl,rfl⟩
  ·by_cases h3:bZ c
   ·have hk:cls c=3:=Ca.2 h3
    rw[hk]
    unfold bZ at h3
    obtain ⟨h4,h5⟩:=h3
    clear h1 h2
    have b1:=nc (c:=c) (k:=9) (by omega);have b2:=oW (c:=c) (k:=13) (by omega);have b3:=rk n32;have b4:=qD (c:=c) (k:=65) (by omega);have b5:=qD (c:=c) (k:=97) (by omega);have b6:=rk (c:=c) (k:=95) (by omega);have b7:=nc (c:=c) (k:=48) (by omega);have b8:=Ws (c:=c) (k:=57) (by omega)
    go_enter Tryz.func47,Tryz.ntmps47;go_wp2;go_ret;exact ⟨rfl,rfl⟩
   ·by_cases h4:c=39∨c=34
    ·have hk:cls c=4:=by unfold cls;rw[if_neg h1,if_neg h2,if_neg h3,if_pos h4]
     rw[hk]
     rcases h4 with rfl|rfl
     ·go_enter Tryz.func47,Tryz.ntmps47;go_wp2;go_ret;exact ⟨rfl,rfl⟩
     ·go_enter Tryz.func47,Tryz.ntmps47;go_wp2;go_ret;exact ⟨rfl,rfl⟩
    ·obtain ⟨n39,n34⟩:¬((c:Int)=39)∧¬((c:Int)=34):=by omega
     have hk:cls c=if jl c then 5 else if c=47 then 6 else 0:=by unfold cls;rw[if_neg h1,if_neg h2,if_neg h3,if_neg h4]
     rw[hk]
     obtain ⟨Wq,hl⟩:¬((c:Int)=95)∧(c<9∨(13<c∧c<48)∨(57<c∧c<65)∨(90<c∧c<97)∨122<c):=by unfold isLet at h2;unfold bZ at h3;omega
     clear h1 h2 h3 h4 hb hk
     have q1:=rk n32;have q2:=rk Wq;have q3:=rk n39;have q4:=rk n34
     by_cases h5:jl c
     ·rw[if_pos h5]
      have YN:0≤ix:=(aa Hi).2 h5
      have q5:decide (0≤ix)=true:=by simp;omega
      rcases hl with hl|⟨hl,hm⟩|⟨hl,hm⟩|⟨hl,hm⟩|hl
      ·have r0:=qD (c:=c) (k:=9) (by omega);have r1:=qD (c:=c) (k:=65) (by omega);have r2:=qD (c:=c) (k:=97) (by omega);have r3:=qD (c:=c) (k:=48) (by omega)
       go_enter Tryz.func47,Tryz.ntmps47;go_wp2_with fail;refine (gN W _ _).mono ?_;rintro e w' ⟨rfl,he⟩;obtain rfl:W=w':=he.symm;have po:=aa Hg;simp only[Int.toNat_natCast];rw[po];clear po;go_wp2;go_ret;exact ⟨rfl,rfl⟩
      ·have r0:=nc (c:=c) (k:=9) (by omega);have r1:=oW (c:=c) (k:=13) (by omega);have r2:=qD (c:=c) (k:=65) (by omega);have r3:=qD (c:=c) (k:=97) (by omega);have r4:=qD (c:=c) (k:=48) (by omega)
       go_enter Tryz.func47,Tryz.ntmps47;go_wp2_with fail;refine (gN W _ _).mono ?_;rintro e w' ⟨rfl,he⟩;obtain rfl:W=w':=he.symm;have po:=aa Hg;simp only[Int.toNat_natCast];rw[po];clear po;go_wp2;go_ret;exact ⟨rfl,rfl⟩
      ·have r0:=nc (c:=c) (k:=9) (by omega);have r1:=oW (c:=c) (k:=13) (by omega);have r2:=qD (c:=c) (k:=65) (by omega);have r3:=qD (c:=c) (k:=97) (by omega);have r4:=nc (c:=c) (k:=48) (by omega);have r5:=oW (c:=c) (k:=57) (by omega)
       go_enter Tryz.func47,Tryz.ntmps47;go_wp2_with fail;refine (gN W _ _).mono ?_;rintro e w' ⟨rfl,he⟩;obtain rfl:W=w':=he.symm;have po:=aa Hg;simp only[Int.toNat_natCast];rw[po];clear po;go_wp2;go_ret;exact ⟨rfl,rfl⟩
      ·have r0:=nc (c:=c) (k:=9) (by omega);have r1:=oW (c:=c) (k:=13) (by omega);have r2:=nc (c:=c) (k:=65) (by omega);have r3:=oW (c:=c) (k:=90) (by omega);have r4:=qD (c:=c) (k:=97) (by omega);have r5:=nc (c:=c) (k:=48) (by omega);have r6:=oW (c:=c) (k:=57) (by omega)
       go_enter Tryz.func47,Tryz.ntmps47;go_wp2_with fail;refine (gN W _ _).mono ?_;rintro e w' ⟨rfl,he⟩;obtain rfl:W=w':=he.symm;have po:=aa Hg;simp only[Int.toNat_natCast];rw[po];clear po;go_wp2;go_ret;exact ⟨rfl,rfl⟩
      ·have r0:=nc (c:=c) (k:=9) (by omega);have r1:=oW (c:=c) (k:=13) (by omega);have r2:=nc (c:=c) (k:=65) (by omega);have r3:=oW (c:=c) (k:=90) (by omega);have r4:=nc (c:=c) (k:=97) (by omega);have r5:=oW (c:=c) (k:=122) (by omega);have r6:=nc (c:=c) (k:=48) (by omega);have r7:=oW (c:=c) (k:=57) (by omega)
       go_enter Tryz.func47,Tryz.ntmps47;go_wp2_with fail;refine (gN W _ _).mono ?_;rintro e w' ⟨rfl,he⟩;obtain rfl:W=w':=he.symm;have po:=aa Hg;simp only[Int.toNat_natCast];rw[po];clear po;go_wp2;go_ret;exact ⟨rfl,rfl⟩
     ·rw[if_neg h5]
      have YN:ix<0:=by have:=mt (aa Hi).1 h5;omega
      have q5:decide (0≤ix)=false:=by simp;omega
      by_cases h6:c=47
      ·rw[if_pos h6]
       have n47:((c:Int)==47)=true:=by simp;omega
       have r0:=nc (c:=c) (k:=9) (by omega);have r1:=oW (c:=c) (k:=13) (by omega);have r2:=qD (c:=c) (k:=65) (by omega);have r3:=qD (c:=c) (k:=97) (by omega);have r4:=qD (c:=c) (k:=48) (by omega)
       clear hl h6
       go_enter Tryz.func47,Tryz.ntmps47;go_wp2_with fail;refine (gN W _ _).mono ?_;rintro e w' ⟨rfl,he⟩;obtain rfl:W=w':=he.symm;have po:=aa Hg;simp only[Int.toNat_natCast];rw[po];clear po;go_wp2;go_ret;exact ⟨rfl,rfl⟩
      ·rw[if_neg h6]
       have n47:=rk (c:=c) (k:=47) (by omega)
       clear h6
       rcases hl with hl|⟨hl,hm⟩|⟨hl,hm⟩|⟨hl,hm⟩|hl
       ·have r0:=qD (c:=c) (k:=9) (by omega);have r1:=qD (c:=c) (k:=65) (by omega);have r2:=qD (c:=c) (k:=97) (by omega);have r3:=qD (c:=c) (k:=48) (by omega)
        go_enter Tryz.func47,Tryz.ntmps47;go_wp2_with fail;refine (gN W _ _).mono ?_;rintro e w' ⟨rfl,he⟩;obtain rfl:W=w':=he.symm;have po:=aa Hg;simp only[Int.toNat_natCast];rw[po];clear po;go_wp2;go_ret;exact ⟨rfl,rfl⟩
       ·have r0:=nc (c:=c) (k:=9) (by omega);have r1:=oW (c:=c) (k:=13) (by omega);have r2:=qD (c:=c) (k:=65) (by omega);have r3:=qD (c:=c) (k:=97) (by omega);have r4:=qD (c:=c) (k:=48) (by omega)
        go_enter Tryz.func47,Tryz.ntmps47;go_wp2_with fail;refine (gN W _ _).mono ?_;rintro e w' ⟨rfl,he⟩;obtain rfl:W=w':=he.symm;have po:=aa Hg;simp only[Int.toNat_natCast];rw[po];clear po;go_wp2;go_ret;exact ⟨rfl,rfl⟩
       ·have r0:=nc (c:=c) (k:=9) (by omega);have r1:=oW (c:=c) (k:=13) (by omega);have r2:=qD (c:=c) (k:=65) (by omega);have r3:=qD (c:=c) (k:=97) (by omega);have r4:=nc (c:=c) (k:=48) (by omega);have r5:=oW (c:=c) (k:=57) (by omega)
        go_enter Tryz.func47,Tryz.ntmps47;go_wp2_with fail;refine (gN W _ _).mono ?_;rintro e w' ⟨rfl,he⟩;obtain rfl:W=w':=he.symm;have po:=aa Hg;simp only[Int.toNat_natCast];rw[po];clear po;go_wp2;go_ret;exact ⟨rfl,rfl⟩
       ·have r0:=nc (c:=c) (k:=9) (by omega);have r1:=oW (c:=c) (k:=13) (by omega);have r2:=nc (c:=c) (k:=65) (by omega);have r3:=oW (c:=c) (k:=90) (by omega);have r4:=qD (c:=c) (k:=97) (by omega);have r5:=nc (c:=c) (k:=48) (by omega);have r6:=oW (c:=c) (k:=57) (by omega)
        go_enter Tryz.func47,Tryz.ntmps47;go_wp2_with fail;refine (gN W _ _).mono ?_;rintro e w' ⟨rfl,he⟩;obtain rfl:W=w':=he.symm;have po:=aa Hg;simp only[Int.toNat_natCast];rw[po];clear po;go_wp2;go_ret;exact ⟨rfl,rfl⟩
       ·have r0:=nc (c:=c) (k:=9) (by omega);have r1:=oW (c:=c) (k:=13) (by omega);have r2:=nc (c:=c) (k:=65) (by omega);have r3:=oW (c:=c) (k:=90) (by omega);have r4:=nc (c:=c) (k:=97) (by omega);have r5:=oW (c:=c) (k:=122) (by omega);have r6:=nc (c:=c) (k:=48) (by omega);have r7:=oW (c:=c) (k:=57) (by omega)
        go_enter Tryz.func47,Tryz.ntmps47;go_wp2_with fail;refine (gN W _ _).mono ?_;rintro e w' ⟨rfl,he⟩;obtain rfl:W=w':=he.symm;have po:=aa Hg;simp only[Int.toNat_natCast];rw[po];clear po;go_wp2;go_ret;exact ⟨rfl,rfl⟩
theorem aaJ {k:Nat} (h2:¬k=2) (h3:¬k=3):((k:Int) != 2)=true∧((k:Int) != 3)=true:=by
 constructor<;>simp<;>omega
theorem Bf (W:World) (s:ByteArray) (hs:s.size≤140737488351232) :
  Calls Tryz.prog 63 #[.string s] W fun e w=>∃n:Nat,e=.returned (.int .i64 (n:Int))∧w=W∧n≤s.size∧(∀j x,j<n→(aH s)[j]?=some x→isLet x∨bZ x)∧(∀x,(aH s)[n]?=some x→¬(isLet x∨bZ x)):=by
 go_enter Tryz.func63,Tryz.ntmps63
 go_wp2
 go_loopg [3,4,7] s.size (fun gk _ _ v7 wr=>∃(k:Nat),v7=.int .i64 (k:Int)∧gk=s.size-k∧k≤s.size∧wr=W∧∀j x,j<k→(aH s)[j]?=some x→isLet x∨bZ x)
 case atStart=>exact ⟨0,rfl,rfl,by omega,rfl,fun j x hj=>by omega⟩
 case round =>
  obtain ⟨k,rfl,fi,hk,rfl,jq⟩:=hrel
  have gA:=aj fi
  have vd:=aj jq
  clear fi jq
  by_cases cw:k<s.size
  ·obtain ⟨x,hx,fO,gx⟩:=iV s k cw
   have Hx:=aj hx
   clear hx
   go_wp2_with fail
   refine (jv wr x fO).mono ?_
   rintro e w' ⟨rfl,he⟩
   obtain rfl:wr=w':=he.symm
   by_cases h2:isLet x∨bZ x
   ·have gE:cls x=2∨cls x=3:=h2.imp qL.2 Ca.2
    have ln:∀j y,j<k+1→(aH s)[j]?=some y→isLet y∨bZ y:=by
     intro j y hj hy
     by_cases hjk:j<k
     ·exact aa vd j y hjk hy
     ·obtain rfl:j=k:=by omega
      rw[aa Hx] at hy
      obtain rfl:=zC hy
      exact h2
    have pj:=aj ln
    clear ln h2 gx
    rcases gE with hc|hc
    ·rw[hc]
     go_wp2
     go_roundg (s.size-(k+1))
     case measure=>have:=aa gA;omega
     case rel=>exact ⟨k+1,by go_num,rfl,by omega,rfl,aa pj⟩
    ·rw[hc]
     go_wp2
     go_roundg (s.size-(k+1))
     case measure=>have:=aa gA;omega
     case rel=>exact ⟨k+1,by go_num,rfl,by omega,rfl,aa pj⟩
   ·obtain ⟨e2,e3⟩:=aaJ (mt qL.1 (fun h=>h2 (.inl h))) (mt Ca.1 (fun h=>h2 (.inr h)))
    have H2:=aj h2
    clear h2 gx
    generalize cls x=kx at *
    go_wp2
    go_ret
    refine ⟨k,rfl,rfl,by omega,aa vd,fun y hy=>?_⟩
    rw[aa Hx] at hy
    obtain rfl:=zC hy
    exact aa H2
  ·obtain rfl:k=s.size:=by omega
   go_wp2
   go_ret
   refine ⟨_,rfl,rfl,zD _,aa vd,fun y hy=>?_⟩
   have:=(zB hy).1
   rw[bk] at this
   omega
end Go.Proofs.YtmlphohdcejniaaGreatDoor

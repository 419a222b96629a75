import Derived.Test.YtjophoclfccmcaaGreatDoorM05
import Derived.Deep.MidRow
import Derived.Laws.Rows
import Derived.WalkMore
set_option maxHeartbeats 8000000
set_option maxRecDepth 100000
namespace Go.Proofs.YtjophoclfccmcaaGreatDoor
open Go.RowKit
attribute [local go_sem ↓] Go.wp_at_zero Go.wp_at_succ
theorem tB {s:ByteArray}{k j:Nat} (h:k+j<s.size):dH (s.extract k s.size) j=dH s (k+j):=by
 unfold dH
 rw[lj h,A5,List.drop_drop]
theorem LX {s:ByteArray}{q k:Nat} (hk:k≤s.size):∀(m j:Nat),s.size-(k+j)≤m→eY (s.extract k s.size) q j=(eY s q (k+j)).map fun r=>(r.1,r.2-k):=by
 have hz:(s.extract k s.size).size=s.size-k:=by rw[ByteArray.size_extract];omega
 intro m
 induction m with
 |zero=>intro j hj;rw[nN (by omega),nN (by omega)];rfl
 |succ m ih =>
  intro j hj
  by_cases hl:k+j<s.size
  ·by_cases hq:az s (k+j)=q
   ·rw[nM (by omega) ((lj hl).trans hq),nM hl hq]
    show some (([]:List Nat),j+1)=some ([],k+j+1-k)
    congr 2
    omega
   ·have lF:¬az (s.extract k s.size) j=q:=by rw[lj hl];exact hq
    cases hp:dH s (k+j) with
    |none=>rw[se (by omega) lF ((tB hl).trans hp),se hl hq hp];rfl
    |some t =>
     obtain ⟨b,n⟩:=t
     obtain ⟨p1,p2,p3⟩:=jH hp hl
     rw[oM (by omega) lF ((tB hl).trans hp),oM hl hq hp,ih (j+n) (by omega),Option.map_map,Option.map_map,show k+(j+n)=k+j+n by omega]
     rfl
  ·rw[nN (by omega),nN hl];rfl
theorem Dl {W:World}{B b:Nat}{s:ByteArray}{k n:Nat}{v:Value}{xs:List Value} (hE:gW W) (I:fN W B b s k n v xs) (hp:bw s s.size k=(k,true)) (hq:az s k=39∨az s k=34) (ho:cI s k=match eY s (az s k) (k+1) with|none=>(0,0,42)|some (_,e)=>(3,e,0)) :
  Calls Tryz.prog 85 #[.pointer (some ⟨b,0,none⟩)] W (iD B b s k n xs W):=by
 have hr:=mq I.sc (Nat.le_of_lt I.more)
 have HI:=ab I
 have HE:=ab hE
 have hs:=I.size
 have hk:=I.more
 have hz:(s.extract k s.size).size=s.size-k:=by rw[ByteArray.size_extract];omega
 have hL:l9 (s.extract k s.size)=(eY s (az s k) (k+1)).map fun r=>(r.1,r.2-k):=by
  have eC:az (s.extract k s.size) 0=az s k:=lj (by omega)
  rw[si (by omega) (by rw[eC];exact hq),eC]
  exact LX (by omega) _ 1 (zD _)
 have HL:=ab hL
 have Hp:=ab hp
 have Ho:=ab ho
 clear I hp ho hE hq hL
 go_enter Tryz.func85,Tryz.ntmps85
 go_wp2_with fail
 refine hr.mono ?_
 rintro e w1 ⟨rfl,n1,rfl⟩
 clear hr
 have bK:Below W.heap.size W (W.drewN n1):=below_drewN (zE _ _) n1
 have hu:=tj ((aa HE).up bK) (s.extract k s.size) (by omega)
 have kl:=ab bK
 clear bK
 go_wp2_with fail
 refine hu.mono ?_
 rintro e w2 ⟨bo,⟨h1,rfl⟩|⟨l,m,v',h1,rfl,hv⟩⟩
 ·have mE:Below W.heap.size W w2:=(aa kl).trans bo
  have hn:eY s (az s k) (k+1)=none:=Option.map_eq_none_iff.1 ((aa HL).symm.trans h1)
  have ht:=Ie ((aa HI).up mE) (aa Hp) (c:=42) (by rw[aa Ho,hn]) (by decide) 0 0 42 rfl
  have Ht:=ab ht
  have Wm:=ab mE
  clear ht bo mE hn h1 hu
  go_wp2_with fail
  refine (aa Ht).mono ?_
  intro e w hq
  obtain ⟨c,rfl⟩:=hq.ret
  have Hq:=ab (hq.from (aa Wm) (aa HI).hi)
  clear hq
  go_wp2
  go_ret
  exact aa Hq
 ·have mE:Below W.heap.size W w2:=(aa kl).trans bo
  obtain ⟨⟨l',e'⟩,h2,h3⟩:=Option.map_eq_some_iff.1 ((aa HL).symm.trans h1)
  obtain ⟨rfl,rfl⟩:=Prod.mk.inj h3
  obtain ⟨u1,u2,_⟩:=AA _ (k+1) l' e' (zD _) h2
  obtain ⟨m,hm⟩:∃m,e'=k+m:=⟨e'-k,by omega⟩
  have CL:(l',e').2-k=m:=by show e'-k=m;omega
  rw[CL]
  have ht:=Ic ((aa HI).up mE) (aa Hp) (m:=m) (t:=3) (by rw[aa Ho,h2,hm]) 3 (m:Int) rfl rfl
  have Ht:=ab ht
  have Wm:=ab mE
  have m0:((m:Int)==0)=false:=beq_eq_false_iff_ne.2 (by omega)
  obtain ⟨va,vn,vc,rfl⟩:=hv.shape
  clear ht bo mE h1 h2 h3 hm CL u1 u2 hu hv
  go_wp2_with fail
  refine (aa Ht).mono ?_
  intro e w hq
  obtain ⟨c,rfl⟩:=hq.ret
  have Hq:=ab (hq.from (aa Wm) (aa HI).hi)
  clear hq
  go_wp2
  go_ret
  exact aa Hq
theorem Kq (W:World) (s sub:ByteArray) (m:Int) (hs:s.size<4294967281) (hm:W.cell? ⟨1,0,none⟩=some (.int .i64 m)) :
  Calls Tryz.prog 118 #[.string s,.string sub] W fun e w=>e=.returned (.int .i64 (Lib.index s.data.toList sub.data.toList))∧w=W:=Any.strings_Index Tryz.Kn s sub m W hs hm
def oJ (W:World):Prop:=1<W.heap.size∧∃m:Int,W.cell? ⟨1,0,none⟩=some (.int .i64 m)
theorem oJ.up {W w:World} (h:oJ W) {B:Nat} (hb:Below B W w) (hB:1<B):oJ w:=by
 obtain ⟨h1,m,h2⟩:=h
 exact ⟨Nat.lt_of_lt_of_le h1 hb.size,m,(hb.cell (p:=⟨1,0,none⟩) hB).trans h2⟩
theorem VJ {W:World}{B b:Nat}{s:ByteArray}{k n:Nat}{v:Value}{xs:List Value} (I:fN W B b s k n v xs) {W1:World} (hb:Below W.heap.size W W1) (k':Nat) (z:Value) (hz:z=.int .i64 (k':Int)) (h1:k<k') (h2:k'≤s.size) (hp:bw s s.size k=bw s s.size k'):iD B b s k n xs W (.returned (.int .i64 0)) (W1.setCell ⟨b,1,none⟩ z):=by
 subst hz
 have J:=I.up hb
 refine ⟨(BX.of hb I.hi).set _ _,.inl ⟨rfl,k',[],v,J.sc.at _,?_,h1,h2,I.room,?_⟩⟩
 ·show World.ownsRow _ B 38 3 v n (xs++[])
  rw[List.append_nil]
  obtain ⟨h1,⟨rfl,h0⟩|⟨g,c,cur,rfl,h2,h3,h4⟩⟩:=J.row
  ·exact ⟨h1,.inl ⟨rfl,h0⟩⟩
  ·refine ⟨h1,.inr ⟨g,c,cur,rfl,h2,(heap_setCell_other _ ⟨b,1,none⟩ g _ ?_).trans h3,h4⟩⟩
   have:=I.lo
   show ¬g=b
   omega
 ·rw[ng]
  exact H' n hp
theorem zZ {W:World}{B b:Nat}{s:ByteArray}{k n:Nat}{v:Value}{xs:List Value} (hM:oJ W) (I:fN W B b s k n v xs) (hc:az s k=47) (ho:(cI s k).2.2=40) :
  Calls Tryz.prog 88 #[.pointer (some ⟨b,0,none⟩)] W (iD B b s k n xs W):=by
 have hr:=mq I.sc (Nat.le_of_lt I.more)
 have HI:=ab I
 have hs:=I.size
 have hk:=I.more
 have hz:(s.extract k s.size).size=s.size-k:=by rw[ByteArray.size_extract];omega
 have hP1:=Iu (s:=s) (k:=k) (by omega) 47 47
 have hP2:=Iu (s:=s) (k:=k) (by omega) 47 42
 have PY:(47:UInt8).toNat=47:=rfl
 have Te:(42:UInt8).toNat=42:=rfl
 rw[PY] at hP1 hP2
 rw[Te] at hP2
 have SW:=ab hP1
 have T':=ab hP2
 have HM:=ab hM
 have Ho:=ab ho
 have Hc:=ab hc
 clear I hP1 hP2 hM ho hc PY Te
 go_enter Tryz.func88,Tryz.ntmps88
 go_wp2_with fail
 refine hr.mono ?_
 rintro e w1 ⟨rfl,n1,rfl⟩
 clear hr
 have bK:Below W.heap.size W (W.drewN n1):=below_drewN (zE _ _) n1
 have J:=(aa HI).up bK
 have kl:=ab bK
 have HJ:=ab J
 have c1:=J.sc.c1
 have f1:=jF 1 J.sc
 clear bK J
 go_wp2_with fail
 refine (gU _ _ _).mono ?_
 rintro e w2 ⟨rfl,hw⟩
 obtain rfl:W.drewN n1=w2:=hw.symm
 clear hw
 by_cases q1:CC (s.extract k s.size) ⟨#[47,47]⟩
 ·rw[J3 q1]
  obtain ⟨a1,a2,a3⟩:=(aa SW).1 q1
  have hi:=U8 (s:=s) (k:=k) (by omega)
  have dr:=xj hk a2
  have hle:=xk s k (by omega)
  have PF:=ab (J6 a1 a2 a3)
  clear a2 a3 q1
  obtain ⟨N,hN⟩:∃N,jI s k=N:=⟨_,rfl⟩
  rw[hN] at hi dr hle PF
  clear hN
  have Hi:=ab hi
  clear hi
  go_wp2_with fail
  refine (gY _ _ _).mono ?_
  rintro e w3 ⟨rfl,hw⟩
  obtain rfl:W.drewN n1=w3:=hw.symm
  clear hw
  have e10:(10:Int).toNat.toUInt8=(10:UInt8):=rfl
  rw[e10,aa Hi]
  clear e10 Hi
  by_cases Qc:N<s.size
  ·rw[if_pos Qc]
   obtain ⟨d,rfl⟩:∃d,N=k+d:=⟨N-k,by omega⟩
   have hd:k+d-k=d:=by omega
   rw[hd]
   clear hd
   go_wp2
   go_ret
   exact VJ (aa HI) (aa kl) (k+d) _ (by go_num) dr hle (aa PF)
  ·rw[if_neg Qc]
   obtain rfl:N=s.size:=by omega
   clear Qc
   have ek:(k:Int)+((s.size-k:Nat):Int)=(s.size:Int):=by omega
   go_wp2
   go_ret
   exact VJ (aa HI) (aa kl) s.size _ (by first|go_num|(congr 1;omega)) dr hle (aa PF)
 ·rw[FK q1]
  go_wp2_with fail
  refine (gU _ _ _).mono ?_
  rintro e w3 ⟨rfl,hw⟩
  obtain rfl:W.drewN n1=w3:=hw.symm
  clear hw
  by_cases q2:CC (s.extract k s.size) ⟨#[47,42]⟩
  ·rw[J3 q2]
   obtain ⟨a1,a2,a3⟩:=(aa T').1 q2
   have hi:=NL (s:=s) (k:=k+2) (by omega)
   have RP:=jn s (k+2)
   have XN:=ab (fun h=>J5 a1 a2 a3 h)
   have Hp2:=ab (fun h=>FM a1 a2 a3 h)
   clear a2 a3 q1 q2
   obtain ⟨N,hN⟩:∃N,dW s (k+2)=N:=⟨_,rfl⟩
   rw[hN] at hi RP XN Hp2
   clear hN
   have Hi:=ab hi
   clear hi
   have ew:(s.extract k s.size).extract 2 (s.size-k)=s.extract (k+2) s.size:=by
    apply ByteArray.ext
    apply Array.ext'
    rw[Lib.extract_data,Lib.extract_data,Lib.extract_data,List.drop_take,List.take_take,List.drop_drop]
    congr 1
    omega
   have z2:(2:Int)≤((s.size-k:Nat):Int):=by omega
   have jg:(s.extract (k+2) s.size).size=s.size-(k+2):=by rw[ByteArray.size_extract];omega
   obtain ⟨_,mm,Xe⟩:=aa HM
   have Zt:(W.drewN n1).cell? ⟨1,0,none⟩=some (.int .i64 mm):=Xe
   have Hmm:=ab Zt
   clear Xe Zt
   go_wp2_with fail
   refine (Kq _ _ _ mm (by omega) (aa Hmm)).mono ?_
   rintro e w3 ⟨rfl,hw⟩
   obtain rfl:W.drewN n1=w3:=hw.symm
   clear hw
   have e4:(⟨#[42,47]⟩:ByteArray).data.toList=[42,47]:=rfl
   rw[e4,aa Hi]
   clear e4 Hi
   by_cases Qc:N+2≤s.size
   ·rw[if_pos Qc]
    obtain ⟨d,rfl⟩:∃d,N=k+2+d:=⟨N-(k+2),by omega⟩
    have hd:k+2+d-(k+2)=d:=by omega
    rw[hd]
    clear hd
    go_wp2
    go_ret
    exact VJ (aa HI) (aa kl) (k+2+d+2) _ (by first|go_num|(congr 1;omega)) (by omega) Qc (aa XN Qc)
   ·rw[if_neg Qc]
    have Hq:Hid (iD B b s k n xs W (.returned (.int .i64 43)) (W.drewN n1)):=⟨BX.of (aa kl) (aa HI).hi,.inr ⟨43,v,by decide,rfl,(aa HJ).sc,L9 (aa Hp2 Qc)⟩⟩
    clear Qc XN Hp2
    go_wp2
    go_ret
    exact aa Hq
  ·rw[FK q2]
   have hp:bw s s.size k=(k,true):=AO hk (by rw[aa Hc];decide) (mt (aa SW).2 q1) (mt (aa T').2 q2)
   have ht:=Ie (aa HJ) hp (aa Ho) (by decide) 0 0 40 rfl
   have Ht:=ab ht
   clear ht hp q1 q2
   go_wp2_with fail
   refine (aa Ht).mono ?_
   intro e w hq
   obtain ⟨c,rfl⟩:=hq.ret
   have Hq:=ab (hq.from (aa kl) (aa HI).hi)
   clear hq
   go_wp2
   go_ret
   exact aa Hq
def written:Array Value→Nat→List Value→Array Value
 |cs,_,[]=>cs
 |cs,o,v::vs=>written (cs.setIfInBounds o v) (o+1) vs
theorem lP {t:TypeId}{g:Nat}:∀(vs:List Value) (o:Nat) (w:World) (cs:Array Value),w.heap[g]?=some (.cells cs t (0,0))→(w.setCells g o vs).heap[g]?=some (.cells (written cs o vs) t (0,0))∧(∀b,b≠g→(w.setCells g o vs).heap[b]?=w.heap[b]?)
 |[],_,_,_,h=>⟨h,fun _ _=>rfl⟩
 |v::vs,o,w,cs,h=>by
  obtain ⟨h1,h2⟩:=lP vs (o+1) (w.setCell ⟨g,o,none⟩ v) (cs.setIfInBounds o v) (heap_setCell_same w g o cs t v h)
  exact ⟨h1,fun b hb=>(h2 b hb).trans (heap_setCell_other w _ b v hb)⟩
theorem ll {n g:Nat}{A:World} (hg:n≤g):∀(vs:List Value) (o:Nat) (w:World),Below n A w→Below n A (w.setCells g o vs)
 |[],_,_,h=>h
 |v::vs,o,_,h=>ll hg vs (o+1) _ (h.setCell (p:=⟨g,o,none⟩) hg v)
theorem pz {g:Nat}:∀(vs:List Value) (o:Nat) (w:World),(w.setCells g o vs).heap.size=w.heap.size
 |[],_,_=>rfl
 |_::vs,o,w=>(pz vs (o+1) _).trans (World.size_setCell w _ _)
def cx:List Value:=[.func (.func 78) #[] #[],.func (.func 80) #[] #[],.func (.func 81) #[] #[],.func (.func 83) #[] #[],.func (.func 85) #[] #[],.func (.func 87) #[] #[],.func (.func 88) #[] #[]]
theorem Tryz.sH:(Tryz.prog.info? 90).map (·.size)=some cx.toArray.size:=by kernel_rfl
theorem Ik:cx.toArray.all (·.oneCell')=true:=by decide +kernel
def Fw:Nat→Nat
 |0=>78|1=>80|2=>81|3=>83|4=>85|5=>87|_=>88
theorem JO:∀c,c<7→cx[c]?=some (.func (.func (Fw c)) #[] #[])
 |0,_=>rfl|1,_=>rfl|2,_=>rfl|3,_=>rfl|4,_=>rfl|5,_=>rfl|6,_=>rfl
 |_+7,h=>by omega
theorem Mc (W:World):(W.alloc (.cells #[.nilFunc,.nilFunc,.nilFunc,.nilFunc,.nilFunc,.nilFunc,.nilFunc] 90)).there W.heap.size 0 cx.toArray.size:=by
 intro j hj
 have hb:=heap_alloc_new W (.cells #[.nilFunc,.nilFunc,.nilFunc,.nilFunc,.nilFunc,.nilFunc,.nilFunc] 90)
 refine ⟨?_,frozen_of_row _ _ _ _ _ hb⟩
 rw[Nat.zero_add,cell_of_row _ _ _ _ _ _ hb]
 have RJ:j<7:=hj
 simp
 omega
theorem JQ (W:World):Calls Tryz.prog 49 #[] W fun e W'=>e=.returned (.agg cx.toArray)∧Below W.heap.size W W':=by
 have YX:=Mc W
 go_enter Tryz.func49,Tryz.ntmps49
 go_wp2_with (refine wpList_store_mid rfl 90 (.tmp 0) (.tmp 1) rfl W.heap.size 0 cx.toArray rfl rfl YX Tryz.sH Ik ?_)
 obtain ⟨eL,ki⟩:=lP (t:=90) (g:=W.heap.size) cx 0 (W.alloc (.cells #[.nilFunc,.nilFunc,.nilFunc,.nilFunc,.nilFunc,.nilFunc,.nilFunc] 90)) #[.nilFunc,.nilFunc,.nilFunc,.nilFunc,.nilFunc,.nilFunc,.nilFunc] (heap_alloc_new W _)
 have gS:written #[.nilFunc,.nilFunc,.nilFunc,.nilFunc,.nilFunc,.nilFunc,.nilFunc] 0 cx=cx.toArray:=by rfl
 rw[gS] at eL
 have hB:Below W.heap.size W ((W.alloc (.cells #[.nilFunc,.nilFunc,.nilFunc,.nilFunc,.nilFunc,.nilFunc,.nilFunc] 90)).setCells W.heap.size 0 cx):=ll (zD _) _ _ _ ((zE _ W).alloc (zD _) _)
 refine bodyPost_ret (v:=.agg cx.toArray) (results_cell_row rfl _ _ W.heap.size 90 cx.toArray (0,0) _ rfl eL Tryz.underlying90 rfl Tryz.sH) rfl ⟨rfl,hB⟩
def SO (W:World) (tb:Nat):Prop:=W.heap[tb]?=some (.cells cx.toArray 90 (0,0))
theorem SO.cell {W:World}{tb:Nat} (h:SO W tb) (c:Nat) (hc:c<7):W.cell? ⟨tb,c,none⟩=some (.func (.func (Fw c)) #[] #[]):=by
 rw[cell_of_row _ _ _ _ _ _ h,←JO c hc]
 simp
theorem Og (W:World):SO ((W.alloc (.cells #[.nilFunc,.nilFunc,.nilFunc,.nilFunc,.nilFunc,.nilFunc,.nilFunc] 90)).setCells W.heap.size 0 cx) W.heap.size:=by
 have:=(lP (t:=90) (g:=W.heap.size) cx 0 _ _ (heap_alloc_new W (.cells #[.nilFunc,.nilFunc,.nilFunc,.nilFunc,.nilFunc,.nilFunc,.nilFunc] 90))).1
 rw[show written #[.nilFunc,.nilFunc,.nilFunc,.nilFunc,.nilFunc,.nilFunc,.nilFunc] 0 cx=cx.toArray from rfl] at this
 exact this
structure Tab (A:Array Value):Prop where
 eq:A=cx.toArray
 info:(Tryz.prog.info? 90).map (·.size)=some A.size
 one:A.all (·.oneCell')=true
theorem QB:Tab cx.toArray:=⟨rfl,Tryz.sH,Ik⟩
theorem V8 (c:Nat):cls c<7:=by
 unfold cls
 repeat' split
 all_goals decide
theorem gj {f:FuncId}{F:Func} (h:Tryz.prog.funcs[f]?=some F) (hn:¬F.name = "runtime.NumGoroutine") (hb:F.body.isSome=true) (w:World) (vs:Array Value):(callFunc f vs).run Tryz.prog w=.ok (.enter f vs) w:=by
 obtain ⟨c,hc⟩:=zG hb
 simp[callFunc,h,hn,hc]
theorem Ld (w:World) (vs:Array Value):∀c,c<7→(callFunc (Fw c) vs).run Tryz.prog w=.ok (.enter (Fw c) vs) w
 |0,_=>by exact gj Tryz.func78 (by decide +kernel) (by kernel_rfl) w vs
 |1,_=>by exact gj Tryz.func80 (by decide +kernel) (by kernel_rfl) w vs
 |2,_=>by exact gj Tryz.func81 (by decide +kernel) (by kernel_rfl) w vs
 |3,_=>by exact gj Tryz.func83 (by decide +kernel) (by kernel_rfl) w vs
 |4,_=>by exact gj Tryz.func85 (by decide +kernel) (by kernel_rfl) w vs
 |5,_=>by exact gj Tryz.func87 (by decide +kernel) (by kernel_rfl) w vs
 |6,_=>by exact gj Tryz.func88 (by decide +kernel) (by kernel_rfl) w vs
 |_+7,h=>by omega
theorem Lf (w:World) (vs:Array Value):(callFunc 43 vs).run Tryz.prog w=.ok (.enter 43 vs) w:=by exact gj Tryz.func43 (by decide +kernel) (by kernel_rfl) w vs
theorem JS {W:World}{B b:Nat}{s:ByteArray}{k n:Nat}{v:Value}{xs:List Value} (hE:gW W) (hM:oJ W) (I:fN W B b s k n v xs) :
  Calls Tryz.prog (Fw (cls (az s k))) #[.pointer (some ⟨b,0,none⟩)] W (iD B b s k n xs W):=by
 have hm:=I.more
 have iS:cI s k=cI s k:=rfl
 conv at iS=>rhs;unfold cI
 rcases K8 (az s k) with ⟨e,h1⟩|⟨n1,⟨e,h2⟩|⟨n2,⟨e,h3⟩|⟨n3,⟨e,h4⟩|⟨n4,⟨e,h5⟩|⟨n5,⟨e,h6⟩|⟨e,n6⟩⟩⟩⟩⟩⟩
 ·rw[e]
  exact Dn I h1
 ·rw[e]
  rw[if_pos h2] at iS
  exact Bz I (kT hm n1 (fun q=>by rw[q] at h2;exact absurd h2 (by decide))) iS
 ·rw[e]
  rw[if_neg n2,if_pos h3] at iS
  exact Dm hE I (kT hm n1 (fun q=>by rw[q] at h3;exact absurd h3 (by decide))) iS
 ·rw[e]
  rw[if_neg n2,if_neg n3,if_pos h4] at iS
  exact Dl hE I (kT hm n1 (fun q=>by omega)) h4 iS
 ·rw[e]
  rw[if_neg n2,if_neg n3,if_neg n4,if_pos h5] at iS
  exact FA I (kT hm n1 (fun q=>by rw[q] at h5;exact absurd h5 (by decide))) iS
 ·rw[e]
  rw[if_neg n2,if_neg n3,if_neg n4,if_neg n5] at iS
  exact zZ hM I h6 (by rw[iS])
 ·rw[e]
  rw[if_neg n2,if_neg n3,if_neg n4,if_neg n5] at iS
  exact FB I (kT hm n1 n6) (by rw[iS])
theorem Fx {P:Program}{ops:Array Oper}{o:Oper}{a:Act}{w:World}{K:Act→World→Prop}{Q:Exit→Act→World→Prop}{E:Prop} (x:Tmp) (hx:o.dst=some x) (rU:o.guard=none) (f:FuncId) (rV:∀vs,(callFunc f vs).run P w=.ok (.enter f vs) w) (fo:Operand) (args:Array Operand) (PT:Array TypeId)
  (ho:o.op=.call { callee:=.value fo,args:=args,argTypes:=PT }) (hfo:a.eval fo=.func (.func f) #[] #[]) (vs:Array Value) (hv:args.map a.eval=vs) {R:Ending→World→Prop} (hc:Calls P f vs w R) (hK:∀e w',R e w'→∃v,e=.returned v∧K (a.put (some x) v) w') :
  if Region.wanted o (yielded ops a.tmps)=true then Oper.wp P o a w K Q else E:=by
 have hw:Region.wanted o (yielded ops a.tmps)=true:=by simp[Region.wanted,rU]
 rw[if_pos hw]
 have h2:Oper.wp P o a w K Q=o.upon P a K Q (.ok (.enter f vs) w):=by
  unfold Oper.wp
  simp[execOp,ho,resolve,invoke,←hv,hfo,Deferred.ofValue,rV]
 rw[h2,Oper.upon_enter]
 refine hc.mono ?_
 intro e w' hr
 obtain ⟨v,rfl,hk⟩:=hK e w' hr
 rw[hx]
 exact hk
theorem Ip {B B':Nat}{W:World}{e:TypeId}{z m:Nat}{v:Value}{xs:List Value} (h:W.ownsRow B e z v m xs) (hb:B'≤B):W.ownsRow B' e z v m xs:=by
 obtain ⟨h1,⟨rfl,h0⟩|⟨g,c,cur,rfl,h2,h3⟩⟩:=h
 ·exact ⟨h1,.inl ⟨rfl,h0⟩⟩
 ·exact ⟨h1,.inr ⟨g,c,cur,rfl,Nat.le_trans hb h2,h3⟩⟩
def acg (s:ByteArray) (b:Nat) (n0:Nat) (w:World) (e:Ending):List Tok ⊕ (Nat×Nat)→Prop
 |.inl ts=>e=.returned (.int .i64 0)∧∃(k:Nat) (v':Value),cY w b s k v'∧w.ownsRow n0 38 3 v' ts.length (eH ts)
 |.inr (k,c)=>c≠0∧e=.returned (.int .i64 (c:Int))∧∃v',cY w b s k v'
def SI (s:ByteArray) (b:Nat) (W:World) (e:Ending) (w:World):Prop:=BX W.heap.size b W w∧acg s b W.heap.size w e (tk s 0 0)
theorem SI.ret {s:ByteArray}{b:Nat}{W w:World}{e:Ending} (h:SI s b W e w):∃c:Int,e=.returned (.int .i64 c):=by
 have h2:=h.2
 cases hr:tk s 0 0 with
 |inl ts=>rw[hr] at h2;exact ⟨0,h2.1⟩
 |inr p=>obtain ⟨k,c⟩:=p;rw[hr] at h2;exact ⟨(c:Int),h2.2.1⟩
theorem BX.mono {B B' b:Nat}{u w:World} (h:BX B b u w) (hB:B'≤B):BX B' b u w:=⟨h.os,h.tape,h.output,h.size,fun q hq hb=>h.block q (by omega) hb⟩
theorem Gn (p q:List Tok) (x:List Tok ⊕ (Nat×Nat)):ju p (ju q x)=ju (p++q) x:=by
 cases x with
 |inl l=>simp[ju]
 |inr e=>rfl
theorem qR {W:World}{B n:Nat}{e:TypeId}{z:Nat}{v:Value}{xs:List Value} (h:W.ownsRow B e z v n xs):∃a c,v=.slice a n c:=by
 obtain ⟨_,⟨e,h0⟩|⟨g,c,_,e,_⟩⟩:=h
 ·exact ⟨none,0,by rw[e,h0]⟩
 ·exact ⟨_,_,e⟩
theorem JW {W:World}{B b g c n i:Nat}{e:TypeId}{xs:List Value}{u:Value} (Xk:g≠b) (h:W.ownsRow B e 3 (.slice (some ⟨g,0,none⟩) n c) n xs):(W.setCell ⟨b,i,none⟩ u).ownsRow B e 3 (.slice (some ⟨g,0,none⟩) n c) n xs:=by
 obtain ⟨h1,⟨q,_⟩|⟨g',cap,cur,e1,h3,h4,h5⟩⟩:=h
 ·cases q
 ·refine ⟨h1,.inr ⟨g',cap,cur,e1,h3,?_,h5⟩⟩
  have eg:g'=g:=by injection e1 with e1;injection e1 with e1;injection e1 with e1;exact e1.symm
  subst eg
  exact (heap_setCell_other W ⟨b,i,none⟩ g' u (by simpa using Xk)).trans h4
theorem QL {W0 W:World}{b:Nat}{s:ByteArray} (hE:gW W0) (hM:oJ W0) (h0:Below W0.heap.size W0 W) (hb:W0.heap.size≤b) (h:cY W b s 0 (.slice none 0 0)) (hs:s.size≤65536) :
  Calls Tryz.prog 26 #[.pointer (some ⟨b,0,none⟩)] W (SI s b W):=by
 obtain ⟨i0,hi,tZ,tY,jg⟩:=info_parts Tryz.xu
 have oP:=h.lt
 have Hh:=ab h
 have HE:=ab hE
 have HM:=ab hM
 have H0:=ab h0
 clear h hE hM h0
 go_enter Tryz.func26,Tryz.ntmps26
 go_wp2
 go_step3
 go_wp2_with fail
 refine (JQ W).mono ?_
 rintro e w1 ⟨rfl,bK⟩
 have hX:=bK.size
 have XQ:Hid (Below W.heap.size W ((w1.alloc (.cells #[.nilFunc,.nilFunc,.nilFunc,.nilFunc,.nilFunc,.nilFunc,.nilFunc] 90)).setCells w1.heap.size 0 cx)):=ll hX _ _ _ (bK.alloc hX _)
 have oK:=ab (Og w1)
 have oZ:((w1.alloc (.cells #[.nilFunc,.nilFunc,.nilFunc,.nilFunc,.nilFunc,.nilFunc,.nilFunc] 90)).setCells w1.heap.size 0 cx).heap.size=w1.heap.size+1:=by rw[pz,zJ]
 have Wk:=ab oZ
 have YX:=Mc w1
 obtain ⟨A,hA,Vz⟩:∃A,cx.toArray=A∧Tab A:=⟨_,rfl,QB⟩
 have hAl:A.toList=cx:=by rw[←hA]
 rw[hA] at YX ⊢
 rw[←hAl] at XQ oK Wk
 have hif:=Vz.info
 have iS:=Vz.one
 clear bK hA hAl oZ Vz
 go_wp2_with (refine wpList_store_mid rfl 90 (.tmp 3) (.tmp 4) rfl w1.heap.size 0 A rfl rfl YX hif iS ?_)
 generalize (w1.alloc (.cells #[.nilFunc,.nilFunc,.nilFunc,.nilFunc,.nilFunc,.nilFunc,.nilFunc] 90)).setCells w1.heap.size 0 A.toList=X at *
 obtain ⟨tb,htb⟩:∃tb,w1.heap.size=tb:=⟨_,rfl⟩
 rw[htb] at oK Wk hX ⊢
 clear YX hif iS htb
 have Xu:X.heap.size=tb+1:=aa Wk
 have HS0:Hid (cY X b s 0 (.slice none 0 0)):=(aa Hh).up (aa XQ)
 have zy:Hid (X.ownsRow X.heap.size 38 3 (.slice none 0 0) 0 (eH [])):=⟨rfl,.inl ⟨rfl,rfl⟩⟩
 have RP:∀w,BX X.heap.size b X w→BX W.heap.size b W w:=fun w hw=>(BX.of (aa XQ) (zD _)).trans (hw.mono (by omega))
 have Hge:=ab RP
 have hup:∀w,BX X.heap.size b X w→Below W0.heap.size W0 w:=fun w hw=>(aa H0).trans ((RP w hw).below hb (by omega))
 have Hup:=ab hup
 clear RP hup
 go_wp2
 go_step3
 go_wp2
 simp only[Act.put]
 go_loopg [2] s.size (fun gk v2 wr=>∃(k n:Nat) (pre:List Tok) (va:Option Addr) (vc:Nat),v2=.int .i64 0∧gk=s.size-k∧k≤s.size∧n=pre.length∧n≤16383∧Hid (cY wr b s k (.slice va n vc))∧Hid (wr.ownsRow X.heap.size 38 3 (.slice va n vc) n (eH pre))∧Hid (tk s 0 0=ju pre (tk s k n))∧Hid (BX X.heap.size b X wr))
 case atStart=>exact ⟨0,0,[],none,0,rfl,rfl,by omega,rfl,by omega,HS0,zy,(ng _).symm,BX.refl _ _ _⟩
 case round =>
  obtain ⟨k,n,pre,va,vc,rfl,dY,hk,hn,Lz,HS,HR,Hq,HB⟩:=hrel
  have gF:=ab dY
  have Hn:=ab hn
  clear dY hn HS0 zy
  have c0:=(aa HS).c0
  have c1:=(aa HS).c1
  have Tx:b<wr.heap.size:=(aa HS).lt
  have hTw:SO wr tb:=((aa HB).block tb (by omega) (by omega)).trans (aa oK)
  have HTw:=ab hTw
  clear hTw
  have hXw:X.heap.size≤wr.heap.size:=(aa HB).size
  by_cases dr:k<s.size
  ·have qk:((k:Int)==(s.size:Int))=false:=beq_eq_false_iff_ne.2 (by omega)
   obtain ⟨x,hx⟩:∃x:Nat,s[k].toNat=x:=⟨_,rfl⟩
   have lq:az s k=x:=(eF s k dr).trans hx
   have ew:x<256:=by rw[←lq];exact fJ s k
   have k0:(0:Int)≤(k:Int):=zH _
   have k1:(k:Int)<(s.size:Int):=by omega
   have Hst:Hid (∀m,Calls Tryz.prog (Fw (cls (az s k))) #[.pointer (some ⟨b,0,none⟩)] (wr.drewN m) (iD X.heap.size b s k n (eH pre) (wr.drewN m))):=fun m=>JS ((aa HE).up (below_drewN (aa Hup wr (aa HB)) m)) ((aa HM).up (below_drewN (aa Hup wr (aa HB)) m) (aa HM).1) ⟨aa HS,by omega,hXw,aa HR,dr,hs,Lz⟩
   have i':∀m,Calls Tryz.prog 43 #[.int .u8 (x:Int)] (wr.drewN m) fun e w=>e=.returned (.int .i64 (cls x:Int))∧w=wr.drewN m:=fun m=>jV _ x ew
   have SN:=ab i'
   have Xq:=V8 x
   rw[lq] at Hst
   obtain ⟨c,hc⟩:∃c,cls x=c:=⟨_,rfl⟩
   rw[hc] at Hst SN Xq
   have dK:=(aa HTw).cell c Xq
   have cc0:(0:Int)≤(c:Int):=zH _
   have cc1:(c:Int)<7:=by omega
   have Hc7:=ab Xq
   clear i' lq hc Xq
   go_wp2
   go_quiet (fail)
   go_wp2_with fail
   go_region_law (first|(refine xX 38 rfl rfl 43 (Lf _) #[.tmp 37] #[5] rfl #[.int .u8 (x:Int)] (by first|rfl|simp[Act.eval]) (aa SN _) ?_;rintro o7 w7 ⟨rfl,rfl⟩;refine ⟨_,rfl,?_⟩)|(refine Fx 42 rfl rfl (Fw c) (fun vs=>Ld _ vs c (aa Hc7)) (.tmp 40) #[.tmp 41] #[87] rfl (by first|rfl|simp[Act.eval]) #[.pointer (some ⟨b,0,none⟩)] (by first|rfl|simp[Act.eval]) (aa Hst _) ?_;intro o9 w9 hq9;obtain ⟨z9,rfl⟩:=hq9.ret;refine ⟨_,rfl,?_⟩;have Hq9:=ab hq9;clear hq9))
   all_goals (
    rcases aa Hq9 with ⟨RT,⟨e9,k',ts,v',s1,s2,s3,s4,s5,s6⟩|⟨c',v',n9,e9,s1,s2⟩⟩
    ·obtain rfl:z9=0:=by injection e9 with e9;injection e9
     obtain ⟨a',c',rfl⟩:=qR s2
     have Uh:Hid (BX X.heap.size b X w9):=(aa HB).trans ((BX.of (below_drewN (zE wr.heap.size wr) _) hXw).trans RT)
     have HS9:=ab s1
     have HR9:Hid (w9.ownsRow X.heap.size 38 3 (.slice a' (n+ts.length) c') (n+ts.length) (eH (pre++ts))):=by rw[mO];exact s2
     have Hq0:Hid (tk s 0 0=ju (pre++ts) (tk s k' (n+ts.length))):=by show _=_;rw[aa Hq,s6,Gn]
     clear e9 s1 s2 s6 RT Hq9 HB HS HR Hq
     go_wp2
     go_roundg (s.size-k')
     case measure=>have:=aa gF;omega
     case rel=>exact ⟨k',n+ts.length,pre++ts,a',c',rfl,rfl,s4,by have:=aa Hn;rw[zK,this],s5,HS9,HR9,Hq0,Uh⟩
    ·obtain rfl:z9=(c':Int):=by injection e9 with e9;injection e9
     have Uh:Hid (BX X.heap.size b X w9):=(aa HB).trans ((BX.of (below_drewN (zE wr.heap.size wr) _) hXw).trans RT)
     have cP:Hid (SI s b W (.returned (.int .i64 (c':Int))) w9):=⟨aa Hge _ (aa Uh),by rw[aa Hq,s2];exact ⟨n9,rfl,v',s1⟩⟩
     have q9:((c':Int) != 0)=true:=by simp;omega
     clear e9 s1 s2 RT Hq9 HB HS HR Hq Uh
     go_wp2
     try rw[Exit.noGoto_ret]
     go_ret
     exact aa cP)
  ·obtain rfl:k=s.size:=by omega
   have qk:((s.size:Int)==(s.size:Int))=true:=by simp
   have abw:∀(n':Nat) (ob:Obj),((wr.drewN n').alloc ob).cell? ⟨b,2,none⟩=some (.slice va n vc):=fun n' ob=>cY.c2 (s:=s) (k:=s.size) ((Below.heap_alloc wr ob b Tx).trans (aa HS))
   have c2:=(aa HS).c2
   have sI:∀(n':Nat) (ob:Obj),((wr.drewN n').alloc ob).heap.size=wr.heap.size+1:=fun n' ob=>zJ _ _
   have zw:=ab sI
   have O1:Hid (n+1≤maxLen):=by show _≤_;unfold maxLen;omega
   have O2:Hid ((n+1)*32≤140737488355328):=by show _≤_;omega
   have YQ:(Value.slice va n vc).ownBlock≠some b:=fun e=>by have:=((aa HR).lt b e).1;omega
   have Htk:Hid (tk s 0 0=.inl (pre++[⟨5,s.size,⟨#[]⟩⟩])):=by show _=_;rw[aa Hq,Ur];rfl
   clear sI Hq HTw dr
   go_wp2
   go_quiet (fail)
   go_wp2_with fail
   go_region_law (first|(refine step_append_lies _ rfl (.tmp 19) (.tmp 25) 36 rfl X.heap.size 38 i0 (.agg #[.int .i64 0,.int .i64 0,.string ⟨#[]⟩]) 3 32 Tryz.underlying36 hi tZ tY jg rfl (by decide) (.slice va n vc) n (eH pre) (by first|rfl|simp[Act.eval]) ((aa HR).alloc _) ⟨wr.heap.size,0,none⟩ 1 1 [.int .i64 5,.int .i64 (s.size:Int),.string ⟨#[]⟩] (by first|rfl|simp[Act.eval]) rfl (fun j u hj=>DL _ #[.int .i64 5,.int .i64 (s.size:Int),.string ⟨#[]⟩] 38 j u hj) (by simp[Value.oneCell']) (by decide) (aa O1) (aa O2) (by rw[aa zw];omega) (wr.heap.size+1) (aa zw _ _) ?_;intro g9 c9 w9 D0 yP Of abt;have Ag:w9.heap[b]?=wr.heap[b]?:=(yP.block b (by rw[aa zw];omega) (fun e=>YQ e.symm)).trans (Below.heap_alloc wr _ b Tx);have NU:cY w9 b s s.size (.slice va n vc):=Ag.trans (aa HS);have c29:=NU.c2;have f29:=jF 2 NU;have gb:g9≠b:=(fun e=>Of.elim (fun q=>YQ (by rw[q,e])) (fun q=>by omega));have Hs9:=ab NU;have CE:=ab D0;have Uh:Hid (BX X.heap.size b X w9):=(aa HB).trans ⟨yP.os,yP.tape,yP.output,(by have:=yP.size;rw[aa zw] at this;omega),fun q hq _=>(yP.block q (by rw[aa zw];omega) (fun e=>by have:=((aa HR).lt q e.symm).1;omega)).trans (Below.heap_alloc wr _ q (by omega))⟩;clear D0 yP Of Ag NU))
   all_goals go_wp2
   all_goals try rw[Exit.noGoto_ret]
   all_goals go_ret
   all_goals refine ⟨aa Hge _ ((aa Uh).set 2 _),?_⟩
   all_goals rw[aa Htk]
   all_goals refine ⟨rfl,s.size,.slice (some ⟨g9,0,none⟩) (n+1) c9,heap_setCell_same _ b 2 _ _ _ (aa Hs9),?_⟩
   all_goals rw[mO,zK,←aa Hn]
   all_goals exact Ip (JW gb (aa CE)) (by omega)
end Go.Proofs.YtjophoclfccmcaaGreatDoor

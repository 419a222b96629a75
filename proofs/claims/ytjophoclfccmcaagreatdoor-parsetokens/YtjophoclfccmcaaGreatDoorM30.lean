import Derived.Test.YtjophoclfccmcaaGreatDoorM29
import Derived.Defers
import Derived.Recover
import Derived.Laws.Pointers
set_option maxHeartbeats 4000000
set_option maxRecDepth 100000
namespace Go.Proofs.YtjophoclfccmcaaGreatDoor
open Go.RowKit
attribute [local go_sem ↓] Go.wp_at_zero Go.wp_at_succ
theorem Km (W:World) (kd sp:Int) (tx:ByteArray):Calls Tryz.prog 56 #[.agg #[.int .i64 kd,.int .i64 sp,.string tx]] W fun e w=>e=.returned (.bool (kd==5))∧Below W.heap.size W w:=by
 have eK:=ab ((zE W.heap.size W).alloc (zD _) (.cells #[.int .i64 kd,.int .i64 sp,.string tx] 38))
 go_enter Tryz.func56,Tryz.ntmps56
 go_wp2
 go_ret
 exact ⟨rfl,aa eK⟩
def gB (ts:List Tk):Nat→Nat→Option Nat
 |0,_=>none
 |n+1,k=>match ts[k]? with
  |none=>none
  |some t=>if (t.kind==5)=true then some k else gB ts n (k+1)
def Kp:Option Nat→Value
 |some k=>.int .i64 (k:Int)
 |none=>.int .i64 (-1)
def IxJ (W:World) (ts:List Tk) (v:Value) (R0:Option Nat) (n:Nat) (a:Act) (w:World):Prop:=∃(u:Nat→Value) (k:Nat),a=⟨#[v,.func (.func 56) #[] #[],u 2,u 3,u 4,u 5,u 6,.int .i64 (ts.length:Int),.int .i64 (k:Int),u 9,u 10,u 11,u 12,u 13,u 14,u 15,u 16,u 17,u 18],[]⟩∧Below W.heap.size W w∧k+n=ts.length+1∧gB ts n k=R0
def IxP (W:World) (R0:Option Nat) (e:Ending) (w:World):Prop:=e=.returned (Kp R0)∧Below W.heap.size W w
theorem FW {W:World}{v:Value}{ts:List Tk} (h:dZ W W.heap.size W.heap.size v ts) (hn:ts.length≤16384):Calls Tryz.prog 55 #[v,.func (.func 56) #[] #[]] W (IxP W (gB ts (ts.length+1) 0)):=by
 obtain ⟨a,c,rfl,hc,hm,h3⟩:=h
 have H3:=ab h3
 have HB:=ab (zE W.heap.size W)
 obtain ⟨R0,CH⟩:∃R0,gB ts (ts.length+1) 0=R0:=⟨_,rfl⟩
 rw[CH]
 have EL:=ab CH
 clear h3 CH
 go_enter Tryz.func55,Tryz.ntmps55
 go_wp2
 refine gL (IxJ W ts (.slice a ts.length c) R0) ?_ (ts.length+1) _ _ ⟨fun i=>[undef,undef,undef,undef,.int .i64 0,undef,.slice a ts.length c].getD i undef,0,rfl,aa HB,by omega,aa EL⟩
 obtain ⟨Q,hQ⟩:∃Q,bodyPost Tryz.prog Tryz.f55 (IxP W R0)=Q:=⟨_,rfl⟩
 rw[hQ]
 clear EL HB
 rintro n _ wr ⟨u,k,rfl,hb,hk,hR⟩
 have Hb:=ab hb
 have HR:=ab hR
 by_cases dB:k<ts.length
 ·obtain ⟨g,off,rfl,hg,dV,hx⟩:=aa H3 (by omega)
  obtain ⟨⟨kd,sp,tx⟩,ht⟩:∃t,ts[k]?=some t:=⟨_,List.getElem?_eq_getElem dB⟩
  obtain ⟨x1,x2,x3⟩:=hx k _ ht
  simp only at x1 x2 x3
  have y1:wr.cell? ⟨g,off+k*3,none⟩=some (.int .i64 kd):=(hb.cell (p:=⟨g,off+k*3,none⟩) hg).trans x1
  have y2:wr.cell? ⟨g,off+k*3+1,none⟩=some (.int .i64 sp):=(hb.cell (p:=⟨g,off+k*3+1,none⟩) hg).trans x2
  have y3:wr.cell? ⟨g,off+k*3+2,none⟩=some (.string tx):=(hb.cell (p:=⟨g,off+k*3+2,none⟩) hg).trans x3
  obtain ⟨n,rfl⟩:∃m,n=m+1:=⟨n-1,by omega⟩
  have HEq:Hid (R0=if (kd==5)=true then some k else gB ts n (k+1)):=by
   show _=_
   rw[←aa HR]
   conv=>lhs;unfold gB
   rw[ht]
  have Hk:=ab hk
  obtain ⟨L,hL⟩:∃L,ts.length=L:=⟨_,rfl⟩
  have HL:=ab hL
  rw[hL] at dB hn hc ⊢
  have n0:(0:Int)≤(k:Int):=zH _
  have n1:(k:Int)<(L:Int):=by omega
  have hd:decide ((k:Int)<(L:Int))=true:=by simp;omega
  have HC:=ab (Km wr kd sp tx)
  clear hx ht x1 x2 x3 hb hR hk hL H3 hg dV HR
  go_wp2_with fail
  refine (aa HC).mono ?_
  rintro e w2 ⟨rfl,br⟩
  have zt:=ab ((aa Hb).trans (br.mono (aa Hb).size))
  clear br HC Hb y1 y2 y3
  cases h5:(kd==5) with
  |true =>
   have HE:Hid (Kp R0=.int .i64 (k:Int)):=by show _=_;rw[aa HEq,if_pos h5];rfl
   clear h5
   go_wp2
   rw[←hQ]
   go_ret
   exact ⟨(congrArg Ending.returned (aa HE)).symm,aa zt⟩
  |false =>
   have HE:Hid (gB ts n (k+1)=R0):=by show _=_;rw[aa HEq,if_neg (by rw[h5];simp)]
   have LD:k+1≤20000:=by omega
   clear h5
   go_wp2
   refine ⟨n,rfl,fun i=>[undef,undef,u 2,u 3,u 4,.int .i64 (k:Int),u 6,undef,undef,.bool true,.int .i64 (k:Int),.func (.func 56) #[] #[],.slice (some ⟨g,off,none⟩) L c,.int .i64 (k:Int),.pointer (some ⟨g,off+k*3,none⟩),.agg #[.int .i64 kd,.int .i64 sp,.string tx],.bool false,u 17,.int .i64 ((k:Int)+1)].getD i undef,k+1,?_,aa zt,by have:=aa Hk;omega,aa HE⟩
   rw[aa HL]
   rfl
 ·have hd:decide (k<ts.length)=false:=by simp;omega
  have HE:Hid (Kp R0=.int .i64 (-1)):=by
   show _=_
   rw[←hR]
   cases n with
   |zero=>rfl
   |succ n =>
    unfold gB
    rw[List.getElem?_eq_none (by omega)]
    rfl
  obtain ⟨L,hL⟩:∃L,ts.length=L:=⟨_,rfl⟩
  rw[hL] at dB hn hc hd ⊢
  clear hb hR hk hL H3 HR dB
  go_wp2
  try rw[←hQ]
  go_ret
  exact ⟨(congrArg Ending.returned (aa HE)).symm,aa Hb⟩
theorem Ed (ts:List Tk):∀(n j k:Nat),gB ts n j=some k→∃t,ts[k]?=some t∧t.kind=5
 |0,_,_,h=>by cases h
 |n+1,j,k,h=>by
  unfold gB at h
  cases ht:ts[j]? with
  |none=>rw[ht] at h;cases h
  |some t =>
   rw[ht] at h
   simp only at h
   split at h
   ·rename_i hk
    obtain rfl:=zC h
    exact ⟨t,ht,eq_of_beq hk⟩
   ·exact Ed ts n (j+1) k h
def cH (ts:List Tk):ay:=match gB ts (ts.length+1) 0 with
 |some k=>⟨ts.take k,ts.getD k iH,false,0,0⟩
 |none=>match ts.getLast? with
  |some t=>⟨ts,⟨5,wrap64 (t.spot+(t.text.size:Int)),⟨#[]⟩⟩,false,0,0⟩
  |none=>⟨ts,⟨5,0,⟨#[]⟩⟩,false,0,0⟩
def NrP (W:World) (ts:List Tk) (e:Ending) (w:World):Prop:=∃b,e=.returned (.pointer (some ⟨b,0,none⟩))∧W.heap.size≤b∧Below W.heap.size W w∧Rd w.heap.size w b (cH ts)
theorem dZ.take {W:World}{lo b k c:Nat}{a:Option Addr}{ts:List Tk} (h:dZ W lo b (.slice a ts.length c) ts) (hk:k≤ts.length):dZ W lo b (.slice a k c) (ts.take k):=by
 obtain ⟨a0,c0,e,h1,h2,h3⟩:=h
 simp only[Value.slice.injEq] at e
 obtain ⟨rfl,_,rfl⟩:=e
 have hl:(ts.take k).length=k:=by rw[List.length_take];omega
 refine ⟨a,c,by rw[hl],by omega,h2,fun hp=>?_⟩
 obtain ⟨g,off,e,h4,h5,h6⟩:=h3 (by omega)
 refine ⟨g,off,e,h4,h5,fun i t ht=>h6 i t ?_⟩
 rw[List.getElem?_take] at ht
 split at ht
 ·exact ht
 ·cases ht
theorem dZ.new {W w:World}{lo b lo' b':Nat}{v:Value}{ts:List Tk} (h:dZ W lo b v ts) (hb:Below lo W w) (hl:lo≤lo') (hb':lo≤b'):dZ w lo' b' v ts:=by
 obtain ⟨a,c,rfl,h1,h2,h3⟩:=h
 refine ⟨a,c,rfl,h1,h2,fun hp=>?_⟩
 obtain ⟨g,off,rfl,h4,h5,h6⟩:=h3 hp
 have e:∀j,w.cell? ⟨g,j,none⟩=W.cell? ⟨g,j,none⟩:=fun j=>hb.cell (p:=⟨g,j,none⟩) h4
 refine ⟨g,off,rfl,by omega,by omega,fun i t ht=>?_⟩
 rw[e,e,e]
 exact h6 i t ht
theorem BC {W w:World}{v:Value}{ts ts':List Tk}{en:Tk} (h:dZ W W.heap.size W.heap.size v ts') (hb:Below W.heap.size W w) (hk:en.kind=5) (hs:cH ts=⟨ts',en,false,0,0⟩):NrP W ts (.returned (.pointer (some ⟨w.heap.size,0,none⟩))) (w.alloc (.cells #[v,.int .i64 en.kind,.int .i64 en.spot,.string en.text,.bool false,.int .i64 0,.int .i64 0] 102)):=by
 have br:=hb.alloc hb.size (.cells #[v,.int .i64 en.kind,.int .i64 en.spot,.string en.text,.bool false,.int .i64 0,.int .i64 0] 102)
 have ck:=zJ w (.cells #[v,.int .i64 en.kind,.int .i64 en.spot,.string en.text,.bool false,.int .i64 0,.int .i64 0] 102)
 refine ⟨w.heap.size,rfl,hb.size,br,?_⟩
 rw[hs]
 exact ⟨v,aH _ _,h.new br (by have:=hb.size;omega) hb.size,⟨by omega,zD _⟩,by simp only;omega,by simp only;omega,hk⟩
theorem z' {W:World}{v:Value}{ts:List Tk} (h:dZ W W.heap.size W.heap.size v ts) (hn:ts.length≤16384):Calls Tryz.prog 32 #[v] W (NrP W ts):=by
 have HC:=ab (FW h hn)
 have HH:=ab h
 obtain ⟨a,c,rfl,hc,hm,h3⟩:=h
 cases bD:gB ts (ts.length+1) 0 with
 |some k =>
  rw[bD] at HC
  obtain ⟨⟨kd,sp,tx⟩,ht,h5⟩:=Ed ts _ _ _ bD
  have dB:k<ts.length:=(zB ht).1
  obtain ⟨g,off,rfl,hg,dV,hx⟩:=h3 (by omega)
  obtain ⟨x1,x2,x3⟩:=hx k _ ht
  simp only at x1 x2 x3 h5
  subst h5
  have HS:Hid (cH ts=⟨ts.take k,⟨5,sp,tx⟩,false,0,0⟩):=by
   show _=_
   unfold cH
   rw[bD]
   simp only
   rw[List.getD_eq_getElem?_getD,ht]
   rfl
  have HT:=ab ((aa HH).take (k:=k) (by omega))
  have Hx:=ab (show W.cell? ⟨g,off+k*3,none⟩=_∧W.cell? ⟨g,off+k*3+1,none⟩=_∧W.cell? ⟨g,off+k*3+2,none⟩=_ from ⟨x1,x2,x3⟩)
  have Hg:=ab hg
  have n0:(0:Int)≤(k:Int):=zH _
  obtain ⟨L,hL⟩:∃L,ts.length=L:=⟨_,rfl⟩
  rw[hL] at dB hc hn HC ⊢
  have n1:(k:Int)<(L:Int):=by omega
  have n2:(k:Int)≤(c:Int):=by omega
  have n3:k≤c:=by omega
  clear bD ht hx x1 x2 x3 h3 hg hL HH
  go_enter Tryz.func32,Tryz.ntmps32
  go_wp2_with fail
  refine (aa HC).mono ?_
  rintro e w1 ⟨rfl,bQ⟩
  unfold Kp
  obtain ⟨x1,x2,x3⟩:=aa Hx
  have y1:=(bQ.cell (p:=⟨g,off+k*3,none⟩) (aa Hg)).trans x1
  have y2:=(bQ.cell (p:=⟨g,off+k*3+1,none⟩) (aa Hg)).trans x2
  have y3:=(bQ.cell (p:=⟨g,off+k*3+2,none⟩) (aa Hg)).trans x3
  have ko:=ab bQ
  clear x1 x2 x3 bQ HC Hx
  go_wp2
  go_region
  all_goals (try go_wp2)
  all_goals go_ret
  all_goals exact BC (aa HT) (below_drewN (aa ko) _) rfl (aa HS)
 |none =>
  rw[bD] at HC
  cases tM:ts.getLast? with
  |none =>
   have abF:ts=[]:=by
    rw[List.getLast?_eq_none_iff] at tM
    exact tM
   subst abF
   have HS:Hid (cH []=⟨[],⟨5,0,⟨#[]⟩⟩,false,0,0⟩):=rfl
   simp only[List.length_nil] at HC HH ⊢
   clear bD tM h3 hn hc hm
   go_enter Tryz.func32,Tryz.ntmps32
   go_wp2_with fail
   refine (aa HC).mono ?_
   rintro e w1 ⟨rfl,bQ⟩
   unfold Kp
   have HB:=ab (bQ.alloc bQ.size (.cells #[.int .i64 5,.int .i64 0,.string ⟨#[]⟩] 38))
   clear bQ HC
   go_wp2
   go_ret
   have:=BC (ts:=[]) (aa HH) (aa HB) (en:=⟨5,0,⟨#[]⟩⟩) rfl (aa HS)
   rw[zJ] at this
   exact this
  |some t =>
   obtain ⟨kd,sp,tx⟩:=t
   obtain ⟨k,hk⟩:∃k,ts.length=k+1:=by
    cases ts with
    |nil=>cases tM
    |cons t r=>exact ⟨r.length,rfl⟩
   have ht:ts[k]?=some ⟨kd,sp,tx⟩:=by
    rw[List.getLast?_eq_getElem?] at tM
    rw[←tM,hk]
    rfl
   obtain ⟨g,off,rfl,hg,dV,hx⟩:=h3 (by omega)
   obtain ⟨x1,x2,x3⟩:=hx k _ ht
   simp only at x1 x2 x3
   have HS:Hid (cH ts=⟨ts,⟨5,wrap64 (sp+(tx.size:Int)),⟨#[]⟩⟩,false,0,0⟩):=by
    show _=_
    unfold cH
    rw[bD,tM]
   have Hx:=ab (show W.cell? ⟨g,off+k*3,none⟩=_∧W.cell? ⟨g,off+k*3+1,none⟩=_∧W.cell? ⟨g,off+k*3+2,none⟩=_ from ⟨x1,x2,x3⟩)
   have Hg:=ab hg
   obtain ⟨L,hL⟩:∃L,ts.length=L:=⟨_,rfl⟩
   have HL:=ab hL
   rw[hL] at hk hc hn HC ⊢
   have n0:(0:Int)≤(k:Int):=zH _
   have n1:(k:Int)<(L:Int):=by omega
   have n2:(L:Int)-1=(k:Int):=by omega
   have n3:0<L:=by omega
   clear bD tM ht hx x1 x2 x3 h3 hg hL hk
   go_enter Tryz.func32,Tryz.ntmps32
   go_wp2_with fail
   refine (aa HC).mono ?_
   rintro e w1 ⟨rfl,bQ⟩
   unfold Kp
   obtain ⟨x1,x2,x3⟩:=aa Hx
   have y1:=(bQ.cell (p:=⟨g,off+k*3,none⟩) (aa Hg)).trans x1
   have y2:=(bQ.cell (p:=⟨g,off+k*3+1,none⟩) (aa Hg)).trans x2
   have y3:=(bQ.cell (p:=⟨g,off+k*3+2,none⟩) (aa Hg)).trans x3
   have IF:g<w1.heap.size:=Nat.lt_of_lt_of_le (aa Hg) bQ.size
   have Sa:=bQ
   clear x1 x2 x3 bQ HC Hx
   have HB:=ab ((Sa.alloc Sa.size (.cells #[.int .i64 5,.int .i64 (wrap64 (sp+(tx.size:Int))),.string ⟨#[]⟩] 38)).alloc (by rw[zJ];have:=Sa.size;omega) (.cells #[.int .i64 kd,.int .i64 sp,.string tx] 38))
   clear Sa
   go_wp2
   go_ret
   have po:=BC (ts:=ts) (aa HH) (aa HB) (en:=⟨5,wrap64 (sp+(tx.size:Int)),⟨#[]⟩⟩) rfl (aa HS)
   simp only[zJ] at po
   rw[aa HL] at po
   exact po
def Z4:Array Value:=#[.string ⟨#[]⟩,.slice none 0 0,.slice none 0 0,.slice none 0 0]
def oE (er sp:Int):Array Value:=#[.int .i64 er,.int .i64 0,.int .i64 sp,.string ⟨#[]⟩]
def Ct (p2 p3:Nat) (a b:Array Value) (w w':World):Prop:=w'.heap[p2]?=some (.cells a 27 (0,0))∧w'.heap[p3]?=some (.cells b 30 (0,0))∧w'.os=w.os∧w'.tape=w.tape∧w'.output=w.output∧w.heap.size≤w'.heap.size∧∀k,k<w.heap.size→k≠p2→k≠p3→w'.heap[k]?=w.heap[k]?
theorem Ac (w:World) (t:TypeId) (v:Value):Sem.run Tryz.prog (binOp BinOp.neq 20 (.iface t v) .nilIface) w=.ok (.bool true) w:=by
 go_simp
theorem Mk (w:World) (v:Value):(Instr.typeAssert (.iface 30 v) 20 30 false).run Tryz.prog w=.ok v w:=by
 unfold Instr.typeAssert
 simp[run_underlying Tryz.underlying30]
noncomputable def qa:Code:=match Tryz.f31.body with
 |some (.seq _ t)=>t
 |_=>.skip
noncomputable def FA:Code:=match Tryz.f31.body with
 |some (.seq a _)=>a
 |_=>.skip
theorem Dq:Tryz.f31.body=some (.seq FA qa):=rfl
theorem Pg {p2 p3:Nat}{w:World}{a0 a1 a2 a3 b0 b1 b2 b3:Value} (dV:p2≠p3) (h2:w.heap[p2]?=some (.cells #[a0,a1,a2,a3] 27 (0,0))) (h3:w.heap[p3]?=some (.cells #[b0,b1,b2,b3] 30 (0,0))) (c0 c1 c2 c3 d0 d1 d2 d3:Value):Ct p2 p3 #[c0,c1,c2,c3] #[d0,d1,d2,d3] w (gN (gN w p2 c0 c1 c2 c3) p3 d0 d1 d2 d3):=by
 obtain ⟨r1,r2⟩:=mV h2 c0 c1 c2 c3
 obtain ⟨q1,q2⟩:=mV ((r2.block p3 (zA h3).1 (by simpa using dV.symm)).trans h3) d0 d1 d2 d3
 exact ⟨(q2.block p2 (zA r1).1 (by simpa using dV)).trans r1,q1,q2.os.trans r2.os,q2.tape.trans r2.tape,q2.output.trans r2.output,Nat.le_trans r2.size q2.size,fun k hk k2 k3=>(q2.block k (Nat.lt_of_lt_of_le hk r2.size) (by simpa using k3)).trans (r2.block k hk (by simpa using k2))⟩
theorem I8 {p2 p3:Nat}{a b:Array Value}{w w':World} (h:Ct p2 p3 a b w w'):Ct p2 p3 a b w w'.drew:=h
theorem MG {p2 p3:Nat}{er sp:Int}{w:World}{a0 a1 a2 a3 b0 b1 b2 b3:Value} (dV:p2≠p3) (h2:w.heap[p2]?=some (.cells #[a0,a1,a2,a3] 27 (0,0))) (h3:w.heap[p3]?=some (.cells #[b0,b1,b2,b3] 30 (0,0))) {u:Nat→Value}{Q:Exit→Act→World→Prop}
  (hQ:∀tm w',Ct p2 p3 Z4 (oE er sp) w w'→Q .normal ⟨tm,[]⟩ w'):qa.wp Tryz.prog Q ⟨#[.pointer (some ⟨p2,0,none⟩),.pointer (some ⟨p3,0,none⟩),.iface 30 (.agg (oE er sp)),u 3,u 4,u 5,u 6,u 7,u 8],[]⟩ w:=by
 have HQ:=ab hQ
 have HCt:=ab (Pg dV h2 h3 (.string ⟨#[]⟩) (.slice none 0 0) (.slice none 0 0) (.slice none 0 0) (.int .i64 er) (.int .i64 0) (.int .i64 sp) (.string ⟨#[]⟩))
 unfold gN at HCt
 obtain ⟨⟨y0,y1,y2,y3⟩,yf⟩:=cC h2
 obtain ⟨⟨z0,z1,z2,z3⟩,zf⟩:=cC h3
 have f0:=yf 0
 have f1:=yf 1
 have f2:=yf 2
 have f3:=yf 3
 have e0:=zf 0
 have e1:=zf 1
 have e2:=zf 2
 have e3:=zf 3
 have qJ:=Ac
 have hta:=Mk
 unfold oE at HQ ⊢
 unfold Z4 at HQ
 clear yf zf h2 h3 hQ
 unfold qa
 dsimp only[Tryz.f31]
 go_wp2
 go_region
 refine aa HQ _ _ (I8 ?_)
 with_reducible exact aa HCt
theorem MH {p2 p3:Nat}{w:World}{u:Nat→Value}{Q:Exit→Act→World→Prop} (hQ:∀tm,Q .normal ⟨tm,[]⟩ w):qa.wp Tryz.prog Q ⟨#[.pointer (some ⟨p2,0,none⟩),.pointer (some ⟨p3,0,none⟩),.nilIface,u 3,u 4,u 5,u 6,u 7,u 8],[]⟩ w:=by
 have HQ:=ab hQ
 clear hQ
 unfold qa
 dsimp only[Tryz.f31]
 go_wp2
 exact aa HQ _
theorem SI {p2 p3:Nat}{er sp:Int}{w:World}{a0 a1 a2 a3 b0 b1 b2 b3:Value} (dV:p2≠p3) (h2:w.heap[p2]?=some (.cells #[a0,a1,a2,a3] 27 (0,0))) (h3:w.heap[p3]?=some (.cells #[b0,b1,b2,b3] 30 (0,0))) :
  CallsD Tryz.prog 31 #[.pointer (some ⟨p2,0,none⟩),.pointer (some ⟨p3,0,none⟩)] (.panicking [{ v:=.iface 30 (.agg (oE er sp)),recovered:=false }]) w fun e u' w' =>
   e=.returned (.tuple #[])∧u'=.panicking [{ v:=.iface 30 (.agg (oE er sp)),recovered:=true }]∧Ct p2 p3 Z4 (oE er sp) w w':=by
 refine callsD_of_wpS Tryz.func31 Dq fun c₀ cs hu=>?_
 apply wpS_seq
 obtain ⟨tl,pL⟩:∃t,qa=t:=⟨_,rfl⟩
 rw[pL]
 unfold FA
 dsimp only[Tryz.f31]
 apply wpS_region
 simp[wpOpsS,go_sem,recoverD,hu,Exit.thenS]
 rw[←pL]
 refine wpS_of_wp ?_
 simp only[Array.replicate_succ,Array.replicate_zero,List.push_toArray,List.append_toArray,List.nil_append,List.cons_append,zL,zM,zN]
 refine MG (u:=fun i=>[undef,undef,undef,.iface 30 (.agg (oE er sp))].getD i undef) dV h2 h3 ?_
 intro tm w' EW
 refine ⟨rfl,_,rfl,.tuple #[],?_,rfl,rfl,EW⟩
 simp[results]
theorem SJ {p2 p3:Nat}{w:World} :
  CallsD Tryz.prog 31 #[.pointer (some ⟨p2,0,none⟩),.pointer (some ⟨p3,0,none⟩)] .returning w fun e u' w'=>e=.returned (.tuple #[])∧u'=.returning∧w'=w:=by
 refine callsD_of_wpS Tryz.func31 Dq fun c₀ cs hu=>?_
 apply wpS_seq
 obtain ⟨tl,pL⟩:∃t,qa=t:=⟨_,rfl⟩
 rw[pL]
 unfold FA
 dsimp only[Tryz.f31]
 apply wpS_region
 simp[wpOpsS,go_sem,recoverD,hu,Exit.thenS]
 rw[←pL]
 refine wpS_of_wp ?_
 simp only[Array.replicate_succ,Array.replicate_zero,List.push_toArray,List.append_toArray,List.nil_append,List.cons_append,zL,zM,zN]
 refine MH (u:=fun i=>[undef,undef,undef,.nilIface].getD i undef) ?_
 intro tm
 refine ⟨rfl,.returning,?_,.tuple #[],?_,rfl,rfl,rfl⟩
 ·cases c₀
  simp_all
 ·simp[results]
def PV (W:World) (r:Except (Int×Int) (Fl×ay)) (e:Ending) (w:World):Prop:=match r with
 |.error y=>e=.returned (.tuple #[.agg Z4,.agg (oE y.1 y.2)])∧Below W.heap.size W w
 |.ok (x,_)=>∃fv,e=.returned (.tuple #[fv,.agg (oE 0 0)])∧NF x fv (fun k=>W.heap.size≤k) w∧Below W.heap.size W w
theorem oS (a:Fl) (x:Value):aQ (NF a x):=by
 rintro P P' w w' hg ⟨vi,vm,ve,cm,ce,rfl,h1,h2,h3,h4,h5⟩
 exact ⟨vi,vm,ve,cm,ce,rfl,h1.goes hg,h2.goes hg,eX _ _ _ _ _ _ hg h3,h4.goes hg,eO _ _ _ _ _ _ hg h5⟩
theorem Dh {ts:List Tk} (h:∀t ∈ ts,t.text.size≤140737488355327):Sm (cH ts):=by
 unfold cH
 split
 ·intro t ht
  exact h t (List.mem_of_mem_take ht)
 ·split<;>exact h
theorem JR {ts:List Tk} (h:ts.length≤16384):(cH ts).ts.length≤16384:=by
 unfold cH
 split
 ·simp only[List.length_take]
  omega
 ·split<;>exact h
theorem nU {P:Program}{fn:Func}{p q:Tmp}{ty tz:TypeId} (h:fn.results=#[.cell p ty,.cell q tz]) (tmps:Array Value) (w:World) (g k:Nat) (t u:TypeId) (cs ds:Array Value) (fr gr:Nat×Nat) (d e:TypeDesc)
  (hp:tmps.getD p undef=.pointer (some ⟨g,0,none⟩)) (hq:tmps.getD q undef=.pointer (some ⟨k,0,none⟩)) (hg:w.heap[g]?=some (.cells cs t fr)) (hk:w.heap[k]?=some (.cells ds u gr))
  (hu:P.underlying ty=some d) (hd:(match d with|.struct _|.array _ _=>true|_=>false)=true) (hi:(P.info? ty).map (·.size)=some cs.size) (hv:P.underlying tz=some e) (he:(match e with|.struct _|.array _ _=>true|_=>false)=true) (hj:(P.info? tz).map (·.size)=some ds.size) :
  (results fn tmps).run P w=.ok (.tuple #[.agg cs,.agg ds]) w:=by
 have hp':tmps[p]?.getD undef=.pointer (some ⟨g,0,none⟩):=by simpa using hp
 have hq':tmps[q]?.getD undef=.pointer (some ⟨k,0,none⟩):=by simpa using hq
 simp[results,h,hp',hq',asAddr,run_loadVar_row w g t ty cs fr d hg hu hd hi,run_loadVar_row w k u tz ds gr e hk hv he hj]
theorem Fu:(Tryz.prog.info? 30).map (·.size)=some 4:=by kernel_rfl
theorem MF {W:World}{v:Value}{ts:List Tk} (hF:nG W) (hE:gU W) (hM:oO W) (h:dZ W W.heap.size W.heap.size v ts) (hs:∀t ∈ ts,t.text.size≤140737488355327) (hn:ts.length≤16384):Calls Tryz.prog 20 #[v] W (PV W (iB (cH ts))):=by
 have IC:∀(fn:Fn) (first cap:Array Value) (w:World),(Instr.makeFunc fn first cap).run Tryz.prog w=.ok (.func fn first cap) w:=fun _ _ _ _=>rfl
 have br:Below W.heap.size W ((W.alloc (.cells Z4 27)).alloc (.cells (oE 0 0) 30)):=((zE _ _).alloc (zD _) _).alloc (by rw[zJ];omega) _
 have jo:((W.alloc (.cells Z4 27)).alloc (.cells (oE 0 0) 30)).heap[W.heap.size]?=some (.cells Z4 27 (0,0)):=(Below.heap_alloc _ _ _ (by rw[zJ];omega)).trans (aH _ _)
 have eL:((W.alloc (.cells Z4 27)).alloc (.cells (oE 0 0) 30)).heap[W.heap.size+1]?=some (.cells (oE 0 0) 30 (0,0)):=by
  have:=aH (W.alloc (.cells Z4 27)) (.cells (oE 0 0) 30)
  rw[zJ] at this
  exact this
 have ck:((W.alloc (.cells Z4 27)).alloc (.cells (oE 0 0) 30)).heap.size=W.heap.size+2:=by simp only[zJ]
 have HC:=ab (z' (h.new br (by rw[ck];omega) (by rw[ck];omega)) hn)
 have LL:=ab jo
 have tg:=ab eL
 have jm:=ab br
 have Lp:=ab ck
 have Yf:=ab (show nG W∧gU W∧oO W from ⟨hF,hE,hM⟩)
 have HS:=ab (Dh hs)
 have Hn:=ab (JR hn)
 clear jo eL br ck hF hE hM h hs hn
 unfold Z4 oE at HC LL tg jm Lp
 go_enter_defers Tryz.func20,Tryz.ntmps20
 go_wp2_with fail
 refine (aa HC).mono ?_
 rintro e w1 ⟨b,rfl,yO,TH,Tw⟩
 rw[aa Lp] at yO TH
 have hbW:Below W.heap.size W w1:=(aa jm).trans (TH.mono (by omega))
 have TG:Env W w1 b:=⟨(aa Yf).1,(aa Yf).2.1,(aa Yf).2.2,hbW,by omega⟩
 have S5:=ab (OQ TG Tw (aa HS) (aa Hn))
 have h2:=(TH.block W.heap.size (by omega)).trans (aa LL)
 have h3:=(TH.block (W.heap.size+1) (by omega)).trans (aa tg)
 have HH2:=ab h2
 have HH3:=ab h3
 have Hbl:=ab yO
 have HbW:=ab hbW
 clear h2 h3 yO TH Tw hbW TG HC LL tg jm Lp Yf
 go_wp2_with fail
 refine (aa S5).mono ?_
 intro e w2 kz
 unfold CR at kz
 cases hr:iB (cH ts) with
 |error y =>
  rw[hr] at kz
  obtain ⟨rfl,hg⟩:=kz
  have yO:=aa Hbl
  have k2:=(hg.block W.heap.size (zA (aa HH2)).1 (by simp;omega)).trans (aa HH2)
  have k3:=(hg.block (W.heap.size+1) (zA (aa HH3)).1 (by simp;omega)).trans (aa HH3)
  have hB:Below W.heap.size W w2:=(aa HbW).grown hg (aa HbW).size (fun k e=>by simp at e;omega)
  show bodyPostD _ _ _ (Exit.panic _) _ _
  refine leaves_cons (f:=31) (args:=#[.pointer (some ⟨W.heap.size,0,none⟩),.pointer (some ⟨W.heap.size+1,0,none⟩)]) (by simp) (by simp[go_sem]) ?_
  refine (SI (er:=y.1) (sp:=y.2) (by omega) k2 k3).mono ?_
  rintro e u' w3 ⟨rfl,rfl,EW⟩
  refine ⟨_,nU rfl _ _ W.heap.size (W.heap.size+1) 27 30 Z4 (oE y.1 y.2) (0,0) (0,0) _ _ rfl rfl EW.1 EW.2.1 Tryz.underlying27 rfl xZ Tryz.underlying30 rfl Fu,rfl,?_⟩
  obtain ⟨_,_,o1,o2,o3,o4,o5⟩:=EW
  exact hB.trans ⟨o1,o2,o3,o4,fun k hk=>o5 k (by have:=hB.size;omega) (by omega) (by omega)⟩
 |ok y =>
  rw[hr] at kz
  obtain ⟨fv,rfl,ZA,abE,hg⟩:=kz
  have HNf:=ab ZA
  obtain ⟨vi,vm,ve,cm,ce,rfl,q1,q2,_,q4,_⟩:=ZA
  obtain ⟨ia,ic,e1⟩:=bZ q1.1
  obtain ⟨ma,mc,e2⟩:=bZ q2.1
  obtain ⟨ea,ec,e3⟩:=bZ q4.1
  subst e1 e2 e3
  have yO:=aa Hbl
  have k2:=(hg.block W.heap.size (zA (aa HH2)).1 (by simp;omega)).trans (aa HH2)
  have k3:=(hg.block (W.heap.size+1) (zA (aa HH3)).1 (by simp;omega)).trans (aa HH3)
  have hB:Below W.heap.size W w2:=(aa HbW).grown hg (aa HbW).size (fun k e=>by simp at e;omega)
  obtain ⟨⟨y0,y1,y2,y3⟩,yf⟩:=cC k2
  obtain ⟨⟨z0,z1,z2,z3⟩,zf⟩:=cC k3
  have f0:=yf 0
  have f1:=yf 1
  have f2:=yf 2
  have f3:=yf 3
  have g0:=zf 0
  have g1:=zf 1
  have g2:=zf 2
  have g3:=zf 3
  have EW:=Pg (by omega) k2 k3 (.string y.1.iT) (.slice ia y.1.fO.length ic) (.slice ma y.1.ms.length mc) (.slice ea y.1.es.length ec) (.int .i64 0) (.int .i64 0) (.int .i64 0) (.string ⟨#[]⟩)
  have po:NF y.1 (.agg #[.string y.1.iT,.slice ia y.1.fO.length ic,.slice ma y.1.ms.length mc,.slice ea y.1.es.length ec]) (fun k=>W.heap.size≤k) (gN (gN w2 W.heap.size (.string y.1.iT) (.slice ia y.1.fO.length ic) (.slice ma y.1.ms.length mc) (.slice ea y.1.es.length ec)) (W.heap.size+1) (.int .i64 0) (.int .i64 0) (.int .i64 0) (.string ⟨#[]⟩))∧Below W.heap.size W (gN (gN w2 W.heap.size (.string y.1.iT) (.slice ia y.1.fO.length ic) (.slice ma y.1.ms.length mc) (.slice ea y.1.es.length ec)) (W.heap.size+1) (.int .i64 0) (.int .i64 0) (.int .i64 0) (.string ⟨#[]⟩)):=by
   obtain ⟨_,_,o1,o2,o3,o4,o5⟩:=EW
   have eF:W.heap.size+2≤w1.heap.size:=by have:=(zA (aa HH3)).1;omega
   exact ⟨oS _ _ _ _ _ _ (fun k hk hl=>⟨by omega,o5 k hl (by omega) (by omega)⟩) (aa HNf),hB.trans ⟨o1,o2,o3,o4,fun k hk=>o5 k (by have:=hB.size;omega) (by omega) (by omega)⟩⟩
  have HCt:=ab EW
  have aaU:=ab po
  unfold gN at HCt aaU
  have Hr:=ab hr
  clear EW po yf zf k2 k3 hB q1 q2 q4 abE hg S5 hr
  go_wp2
  refine leaves_cons (f:=31) (args:=#[.pointer (some ⟨W.heap.size,0,none⟩),.pointer (some ⟨W.heap.size+1,0,none⟩)]) (by simp) (by simp[go_sem]) ?_
  refine SJ.mono ?_
  rintro e u' w3 ⟨rfl,rfl,iU⟩
  have EW:=aa HCt
  have po:=aa aaU
  rw[←iU] at EW po
  refine ⟨_,nU rfl _ _ W.heap.size (W.heap.size+1) 27 30 _ _ (0,0) (0,0) _ _ rfl rfl EW.1 EW.2.1 Tryz.underlying27 rfl xZ Tryz.underlying30 rfl Fu,?_⟩
  rw[aa Hr]
  exact ⟨_,rfl,po.1,po.2⟩
end Go.Proofs.YtjophoclfccmcaaGreatDoor

import Derived.Test.YtjophoclfccmcaaGreatDoorM10
import Derived.WalkSmall
set_option maxHeartbeats 2000000
set_option maxRecDepth 100000
namespace Go.Proofs.YtjophoclfccmcaaGreatDoor
open Go.RowKit
attribute [local go_sem ↓] Go.wp_at_zero Go.wp_at_succ
def Tk.val (t:Tk):Value:=.agg #[.int .i64 t.kind,.int .i64 t.spot,.string t.text]
theorem lD:(Tryz.prog.info? 38).map (·.size)=some 3:=by kernel_rfl
def dZ (W:World) (lo b:Nat) (v:Value) (ts:List Tk):Prop:=∃(a:Option Addr) (c:Nat),v=.slice a ts.length c∧ts.length≤c∧c≤maxLen∧(0<ts.length→∃g off,a=some ⟨g,off,none⟩∧g<lo∧g≠b∧∀i t,ts[i]?=some t→W.cell? ⟨g,off+i*3,none⟩=some (.int .i64 t.kind)∧W.cell? ⟨g,off+i*3+1,none⟩=some (.int .i64 t.spot)∧W.cell? ⟨g,off+i*3+2,none⟩=some (.string t.text))
theorem dZ.gu {W w:World}{lo b:Nat}{v:Value}{ts:List Tk} (h:dZ W lo b v ts) (hl:lo≤W.heap.size) (hg:W.grownBy w (some b)):dZ w lo b v ts:=by
 obtain ⟨a,c,rfl,h1,h2,h3⟩:=h
 refine ⟨a,c,rfl,h1,h2,fun hp=>?_⟩
 obtain ⟨g,off,rfl,h4,h5,h6⟩:=h3 hp
 have e:∀j,w.cell? ⟨g,j,none⟩=W.cell? ⟨g,j,none⟩:=fun j=>World.cell?_of_block (a:=⟨g,j,none⟩) (hg.block g (by omega) (by simpa using h5))
 refine ⟨g,off,rfl,h4,h5,fun i t ht=>?_⟩
 rw[e,e,e]
 exact h6 i t ht
theorem dZ.up {W w:World}{lo b:Nat}{v:Value}{ts:List Tk} (h:dZ W lo b v ts) (hb:Below lo W w):dZ w lo b v ts:=by
 obtain ⟨a,c,rfl,h1,h2,h3⟩:=h
 refine ⟨a,c,rfl,h1,h2,fun hp=>?_⟩
 obtain ⟨g,off,rfl,h4,h5,h6⟩:=h3 hp
 have e:∀j,w.cell? ⟨g,j,none⟩=W.cell? ⟨g,j,none⟩:=fun j=>hb.cell (p:=⟨g,j,none⟩) h4
 refine ⟨g,off,rfl,h4,h5,fun i t ht=>?_⟩
 rw[e,e,e]
 exact h6 i t ht
structure ay where
 ts:List Tk
 en:Tk
 bg:Bool
 dc:Nat
 op:Nat
def ay.here (s:ay):Tk:=s.ts.headD s.en
def ay.ahead (s:ay) (n:Nat):Tk:=s.ts.getD n s.en
def RdC (v:Value) (s:ay):Array Value:=#[v,.int .i64 s.en.kind,.int .i64 s.en.spot,.string s.en.text,.bool s.bg,.int .i64 (s.dc:Int),.int .i64 (s.op:Int)]
def Rd (lo:Nat) (W:World) (b:Nat) (s:ay):Prop:=∃v,W.heap[b]?=some (.cells (RdC v s) 102 (0,0))∧dZ W lo b v s.ts∧(b<lo∧lo≤W.heap.size)∧s.dc≤4096∧s.op≤32∧s.en.kind=5
theorem Rd.lt {lo:Nat}{W:World}{b:Nat}{s:ay} (h:Rd lo W b s):b<W.heap.size:=by
 obtain ⟨v,h1,_⟩:=h
 exact (zA h1).1
theorem Rd.low {lo:Nat}{W:World}{b:Nat}{s:ay} (h:Rd lo W b s):b<lo∧lo≤W.heap.size:=by
 obtain ⟨v,_,_,h3,_⟩:=h
 exact h3
theorem Rd.Uw {lo:Nat}{W w:World}{b:Nat}{s:ay} (h:Rd lo W b s) (hb:Below lo W w):Rd lo w b s:=by
 have hl:=h.low
 obtain ⟨v,h1,h2,h3,h4⟩:=h
 exact ⟨v,(hb.block b hl.1).trans h1,h2.up hb,⟨hl.1,Nat.le_trans hl.2 hb.size⟩,h4⟩
theorem Rd.up {lo:Nat}{W w:World}{b:Nat}{s:ay} (h:Rd lo W b s) (hb:Below W.heap.size W w):Rd lo w b s:=h.Uw (hb.mono h.low.2)
theorem Bb {W:World}{lo b n:Nat}{s:ay} (h:Rd lo W b s) (hn:n≤1048576):Calls Tryz.prog 107 #[.pointer (some ⟨b,0,none⟩),.int .i64 (n:Int)] W fun e w=>e=.returned (s.ahead n).val∧Below W.heap.size W w:=by
 have dB:=h.lt
 have cB:=h.low.2
 obtain ⟨v,h1,h2,_⟩:=h
 obtain ⟨a,c,rfl,hc,hm,h3⟩:=h2
 have Hr:=ab h1
 have eK:=ab (zE W.heap.size W)
 obtain ⟨t,ht⟩:∃t,s.ahead n=t:=⟨_,rfl⟩
 obtain ⟨kd,sp,tx⟩:=t
 have Ht:=ab ht
 have c0:W.cell? ⟨b,0,none⟩=some (.slice a s.ts.length c):=by rw[cell_of_row _ _ _ _ _ _ h1];rfl
 have dg:Hid (W.cell? ⟨b,1,none⟩=some (.int .i64 s.en.kind)∧W.cell? ⟨b,2,none⟩=some (.int .i64 s.en.spot)∧W.cell? ⟨b,3,none⟩=some (.string s.en.text)):=by
  refine ⟨?_,?_,?_⟩<;>rw[cell_of_row _ _ _ _ _ _ h1]<;>rfl
 clear h1 ht
 by_cases iX:n<s.ts.length
 ·obtain ⟨g,off,rfl,hg,dV,hx⟩:=h3 (by omega)
  have lz:g<W.heap.size:=by omega
  clear hg cB
  have fg:s.ts[n]?=some ⟨kd,sp,tx⟩:=by
   have:=aa Ht
   unfold ay.ahead at this
   rw[List.getD_eq_getElem?_getD,List.getElem?_eq_getElem iX] at this
   rw[List.getElem?_eq_getElem iX]
   exact congrArg some this
  obtain ⟨x1,x2,x3⟩:=hx n _ fg
  simp only at x1 x2 x3
  have hd:decide ((n:Int)<(s.ts.length:Int))=true:=by simp;omega
  have n0:(0:Int)≤(n:Int):=zH _
  have n1:(n:Int)<(s.ts.length:Int):=by omega
  clear hx fg h3 hm
  go_enter Tryz.func107,Tryz.ntmps107
  go_wp2
  refine bodyPost_ret (results_cell_row rfl _ _ W.heap.size 38 #[.int .i64 kd,.int .i64 sp,.string tx] (0,0) _ rfl (aH _ _) Tryz.underlying38 rfl lD) rfl ⟨?_,(aa eK).alloc (zD _) _⟩
  rw[aa Ht]
  rfl
 ·have hd:decide ((n:Int)<(s.ts.length:Int))=false:=by simp;omega
  have fg:s.en=⟨kd,sp,tx⟩:=by
   have:=aa Ht
   unfold ay.ahead at this
   rw[List.getD_eq_getElem?_getD,List.getElem?_eq_none (by omega)] at this
   exact this
  obtain ⟨x1,x2,x3⟩:=aa dg
  rw[fg] at x1 x2 x3
  simp only at x1 x2 x3
  clear fg h3 hm
  go_enter Tryz.func107,Tryz.ntmps107
  go_wp2
  refine bodyPost_ret (results_cell_row rfl _ _ W.heap.size 38 #[.int .i64 kd,.int .i64 sp,.string tx] (0,0) _ rfl (aH _ _) Tryz.underlying38 rfl lD) rfl ⟨?_,(aa eK).alloc (zD _) _⟩
  rw[aa Ht]
  rfl
theorem ay.Wz (s:ay):s.ahead 0=s.here:=by
 unfold ay.ahead ay.here
 cases s.ts<;>rfl
theorem JF {bs g:Nat}{w:World}{t:Tk} (h:eS bs w (.slice (some ⟨g,0,none⟩) 1 1) [t]):w.heap[g]?=some (.cells #[.int .i64 t.kind,.int .i64 t.spot,.string t.text] 38 (0,0)):=by
 rcases h.2 with ⟨e,_⟩|⟨g',c,cur,e,_,h2,_,_,h5,h6⟩
 ·cases e
 ·cases e
  rw[h2]
  have e2:cur.toList=cI [t]:=by
   rw[←h6,List.take_of_length_le]
   rw[Array.length_toList,h5]
   simp
  have e3:cur=(cI [t]).toArray:=by rw[←e2]
  rw[e3]
  rfl
theorem QM {g:Nat}{w:World}{t:Tk} (h:w.heap[g]?=some (.cells #[.int .i64 t.kind,.int .i64 t.spot,.string t.text] 38 (0,0))):eS 0 w (.slice (some ⟨g,0,none⟩) 1 1) [t] :=
 ⟨rfl,.inr ⟨g,1,_,rfl,Nat.zero_le _,h,zD _,by unfold maxLen;omega,rfl,rfl⟩⟩
def iH:Tk:=⟨0,0,⟨#[]⟩⟩
theorem mN {W V w:World}{g:Nat} (hb:Below W.heap.size W V) (hg:V.grownBy w (some g)) (hl:W.heap.size≤g):Below W.heap.size W w :=
 hb.grown hg hb.size (fun k e=>by simp at e;omega)
theorem fC {W:World}{lo b:Nat}{s:ay} (h:Rd lo W b s):Calls Tryz.prog 63 #[.pointer (some ⟨b,0,none⟩)] W fun e w=>e=.returned s.here.val∧Below W.heap.size W w:=by
 have eK:=(zE W.heap.size W).alloc (zD _) (.cells #[.int .i64 0,.int .i64 0,.string ⟨#[]⟩] 38)
 have hc:=Bb (n:=0) (h.up eK) (by omega)
 rw[s.Wz] at hc
 have HC:=ab hc
 obtain ⟨t,ht⟩:∃t,s.here=t:=⟨_,rfl⟩
 rw[ht] at HC ⊢
 clear hc ht h
 obtain ⟨kd,sp,tx⟩:=t
 unfold Tk.val at HC
 simp only at HC
 have Hb0:=ab eK
 have hW:(W.alloc (.cells #[.int .i64 0,.int .i64 0,.string ⟨#[]⟩] 38)).heap[W.heap.size]?=some (.cells #[.int .i64 0,.int .i64 0,.string ⟨#[]⟩] 38 (0,0)):=aH _ _
 have HW:=ab hW
 have ck:=zJ W (.cells #[.int .i64 0,.int .i64 0,.string ⟨#[]⟩] 38)
 have Lp:=ab ck
 clear eK hW ck
 go_enter Tryz.func63,Tryz.ntmps63
 go_wp2_with fail
 refine (aa HC).mono ?_
 rintro e w1 ⟨rfl,bQ⟩
 have hr:eS 0 w1 (.slice (some ⟨W.heap.size,0,none⟩) 1 1) [iH]:=QM ((bQ.block W.heap.size (by rw[aa Lp];omega)).trans (aa HW))
 have lO:Hid (Below W.heap.size W w1):=(aa Hb0).trans (bQ.mono (aa Hb0).size)
 obtain ⟨y1,y2,y3⟩:=hr.cell (i:=0) (t:=iH) rfl
 have f1:=hr.frozenAt 0
 have f2:=hr.frozenAt 1
 have f3:=hr.frozenAt 2
 obtain ⟨r1,r2⟩:=hr.set 0 ⟨kd,sp,tx⟩
 have R1:=ab (JF r1)
 have R2:=ab (mN (aa lO) r2 (zD _))
 simp only[Nat.zero_mul,Nat.zero_add,iH] at y1 y2 y3 R1 R2
 clear hr bQ HC HW Lp r1 r2
 go_wp2
 refine bodyPost_ret (results_cell_row rfl _ _ W.heap.size 38 #[.int .i64 kd,.int .i64 sp,.string tx] (0,0) _ rfl (aa R1) Tryz.underlying38 rfl lD) rfl ⟨rfl,aa R2⟩
def aJ (t:Tk) (k:Int) (x:ByteArray):Bool:=t.kind==k&&(t.text.toList==x.toList)
theorem sJ (W:World) (t:Tk) (k:Int) (x:ByteArray):Calls Tryz.prog 119 #[t.val,.int .i64 k,.string x] W fun e w=>e=.returned (.bool (aJ t k x))∧Below W.heap.size W w:=by
 obtain ⟨kd,sp,tx⟩:=t
 unfold Tk.val aJ
 simp only
 have eK:=ab ((zE W.heap.size W).alloc (zD _) (.cells #[.int .i64 kd,.int .i64 sp,.string tx] 38))
 by_cases h1:kd=k
 ·subst h1
  go_enter Tryz.func119,Tryz.ntmps119
  go_wp2
  go_ret
  exact ⟨by simp,aa eK⟩
 ·have e1:(kd==k)=false:=by simp[h1]
  go_enter Tryz.func119,Tryz.ntmps119
  go_wp2
  go_ret
  exact ⟨by simp[e1],aa eK⟩
theorem mJ (w:World) (t:Tk):(Instr.field 38 t.val 0).run Tryz.prog w=.ok (.int .i64 t.kind) w∧(Instr.field 38 t.val 1).run Tryz.prog w=.ok (.int .i64 t.spot) w:=by
 unfold Tk.val
 refine ⟨?_,?_⟩<;>simp[Instr.field,run_underlying Tryz.underlying38,asAgg,go_sem]
def qv (er sp:Int):Ending:=.panicked [{ v:=.iface 30 (.agg #[.int .i64 er,.int .i64 0,.int .i64 sp,.string ⟨#[]⟩]),recovered:=false }]
theorem mK {W:World}{lo b:Nat}{s:ay} (h:Rd lo W b s) (er:Int):Calls Tryz.prog 92 #[.pointer (some ⟨b,0,none⟩),.int .i64 er] W fun e w=>e=qv er s.here.spot∧Below W.heap.size W w:=by
 have hc:=ab (fC h)
 clear h
 obtain ⟨t,ht⟩:∃t,s.here=t:=⟨_,rfl⟩
 rw[ht] at hc ⊢
 obtain ⟨kd,sp,tx⟩:=t
 unfold Tk.val at hc
 simp only at hc
 clear ht
 have hf:∀w,(Instr.field 38 (.agg #[.int .i64 kd,.int .i64 sp,.string tx]) 1).run Tryz.prog w=.ok (.int .i64 sp) w:=fun w=>(mJ w ⟨kd,sp,tx⟩).2
 go_enter Tryz.func92,Tryz.ntmps92
 go_wp2_with fail
 refine (aa hc).mono ?_
 rintro e w1 ⟨rfl,bQ⟩
 have ko:=ab bQ
 clear bQ hc
 go_wp2
 exact ⟨rfl,rfl,aa ko⟩
theorem aC {W:World}{b j:Nat}{cs:Array Value}{t:TypeId} (h:W.heap[b]?=some (.cells cs t (0,0))) (u:Value):(W.setCell ⟨b,j,none⟩ u).heap[b]?=some (.cells (cs.toList.set j u).toArray t (0,0))∧W.grownBy (W.setCell ⟨b,j,none⟩ u) (some b):=by
 have hr:W.ownsRow 0 t cs.size (.slice (some ⟨b,0,none⟩) 1 1) 1 cs.toList:=⟨by simp,.inr ⟨b,1,cs,rfl,Nat.zero_le _,h,zD _,by unfold maxLen;omega,by simp,by rw[Nat.one_mul];exact List.take_of_length_le (by simp)⟩⟩
 obtain ⟨h1,h2⟩:=World.ownsRow.stored hr j u
 refine ⟨?_,h2⟩
 rcases h1.2 with ⟨e,_⟩|⟨g',c,cur,e,_,h4,_,_,h5,h6⟩
 ·cases e
 ·cases e
  rw[h4]
  have e2:cur.toList=cs.toList.set j u:=by
   rw[←h6,List.take_of_length_le]
   rw[Array.length_toList,h5]
   simp
  have e3:cur=(cs.toList.set j u).toArray:=by rw[←e2]
  rw[e3]
def PR {α:Type} (lo b:Nat) (W:World) (ret:α→Value) (r:Except (Int×Int) (α×ay)) (e:Ending) (w:World):Prop:=match r with
 |.error x=>e=qv x.1 x.2∧W.grownBy w (some b)
 |.ok (a,s')=>e=.returned (ret a)∧Rd lo w b s'∧W.grownBy w (some b)
def ub {α:Type} (_:α):Value:=.tuple #[]
theorem Rd.cells {W:World}{lo b:Nat}{s:ay} (h:Rd lo W b s):∃v,dZ W lo b v s.ts∧W.heap[b]?=some (.cells (RdC v s) 102 (0,0))∧W.cell? ⟨b,0,none⟩=some v∧W.cell? ⟨b,4,none⟩=some (.bool s.bg)∧W.cell? ⟨b,5,none⟩=some (.int .i64 (s.dc:Int))∧W.cell? ⟨b,6,none⟩=some (.int .i64 (s.op:Int))∧∀j,W.frozen? ⟨b,j,none⟩=false:=by
 obtain ⟨v,h1,h2,_⟩:=h
 refine ⟨v,h2,h1,?_,?_,?_,?_,fun j=>?_⟩
 ·rw[cell_of_row _ _ _ _ _ _ h1];rfl
 ·rw[cell_of_row _ _ _ _ _ _ h1];rfl
 ·rw[cell_of_row _ _ _ _ _ _ h1];rfl
 ·rw[cell_of_row _ _ _ _ _ _ h1];rfl
 ·simp[World.frozen?,h1]
theorem Lk {W:World}{lo b:Nat}{s:ay} (h:Rd lo W b s):Calls Tryz.prog 121 #[.pointer (some ⟨b,0,none⟩)] W (PR lo b W ub (.ok ((),{ s with bg:=true }))):=by
 have hd:=h
 obtain ⟨v,h1,h2,c0,c4,c5,c6,hf⟩:=h.cells
 obtain ⟨k1,k2⟩:=aC (j:=4) h2 (.bool true)
 have f4:=hf 4
 have dg:Hid (PR lo b W ub (.ok ((),{ s with bg:=true })) (.returned (.tuple #[])) (W.setCell ⟨b,4,none⟩ (.bool true))):=by
  obtain ⟨_,_,_,h3⟩:=hd
  exact ⟨rfl,⟨v,k1,h1.gu h3.1.2 k2,⟨h3.1.1,Nat.le_trans h3.1.2 k2.size⟩,h3.2⟩,k2⟩
 clear hd h h1 h2 k1 k2 hf c0 c5 c6
 go_enter Tryz.func121,Tryz.ntmps121
 go_wp2
 go_end0
 exact aa dg
def bz (s:ay):Except (Int×Int) (Unit×ay):=if s.bg=true∧s.dc=4096 then .error (54,s.here.spot) else .ok ((),{ s with ts:=s.ts.tail,bg:=false,dc:=if s.bg=true then s.dc+1 else s.dc })
theorem dZ.tail {W:World}{lo b c:Nat}{a:Option Addr}{ts:List Tk} (h:dZ W lo b (.slice a ts.length c) ts) (hp:0<ts.length):∃g off,a=some ⟨g,off,none⟩∧∀a',(a'=some ⟨g,off+3,none⟩∨c=1)→dZ W lo b (.slice a' (ts.length-1) (c-1)) ts.tail:=by
 obtain ⟨a0,c0,e,h1,h2,h3⟩:=h
 simp only[Value.slice.injEq] at e
 obtain ⟨rfl,_,rfl⟩:=e
 obtain ⟨g,off,rfl,h4,h5,h6⟩:=h3 hp
 refine ⟨g,off,rfl,fun a' ha=>⟨a',c-1,by rw[List.length_tail],by rw[List.length_tail];omega,by omega,fun yJ=>?_⟩⟩
 rw[List.length_tail] at yJ
 have ha':a'=some ⟨g,off+3,none⟩:=ha.elim id (fun e=>by omega)
 refine ⟨g,off+3,ha',h4,h5,fun i t ht=>?_⟩
 have:=h6 (i+1) t (by rw[←ht,List.getElem?_tail])
 rw[show off+3+i*3=off+(i+1)*3 by omega]
 exact this
theorem dS {W:World}{lo b:Nat}{s:ay} (h:Rd lo W b s) (hp:0<s.ts.length):Calls Tryz.prog 97 #[.pointer (some ⟨b,0,none⟩)] W (PR lo b W ub (bz s)):=by
 have Om:=ab (mK h 54)
 have hd:=h
 obtain ⟨v,h1,h2,c0,c4,c5,c6,hf⟩:=h.cells
 obtain ⟨a,c,rfl,hc,hm,_⟩:=id h1
 obtain ⟨g,off,rfl,pL⟩:=h1.tail hp
 have f0:=hf 0
 have f4:=hf 4
 have f5:=hf 5
 obtain ⟨_,_,_,ji,hdc,jU⟩:=hd
 cases KE:s.bg with
 |false =>
  rw[KE] at c4
  have hE:∀a',(a'=some (⟨g,off+3,none⟩:Addr)∨c=1)→PR lo b W ub (bz s) (.returned (.tuple #[])) (W.setCell ⟨b,0,none⟩ (.slice a' (s.ts.length-1) (c-1))):=fun a' ha=>by
   obtain ⟨k1,k2⟩:=aC (j:=0) h2 (.slice a' (s.ts.length-1) (c-1))
   unfold bz
   rw[KE,if_neg (by simp)]
   refine ⟨rfl,⟨_,k1.trans ?_,(pL a' ha).gu ji.2 k2,⟨ji.1,Nat.le_trans ji.2 k2.size⟩,hdc,jU⟩,k2⟩
   simp[RdC,KE]
  have HE:=ab hE
  obtain ⟨L,hL⟩:∃L,s.ts.length=L:=⟨_,rfl⟩
  rw[hL] at hp hc c0 HE
  have hL1:(1:Int)≤(L:Int):=by omega
  have pN:(1:Int)≤(c:Int):=by omega
  clear hE h h1 h2 hf Om pL KE hL
  by_cases fh:c=1
  ·subst fh
   obtain rfl:L=1:=by omega
   go_enter Tryz.func97,Tryz.ntmps97
   go_wp2
   go_end0
   exact aa HE _ (.inr (by simp))
  ·go_enter Tryz.func97,Tryz.ntmps97
   go_wp2
   go_end0
   exact aa HE _ (.inl rfl)
 |true =>
  rw[KE] at c4
  by_cases hd4:s.dc=4096
  ·have hE:∀w,Below W.heap.size W w→PR lo b W ub (bz s) (qv 54 s.here.spot) w:=fun w hb=>by
    unfold bz
    rw[if_pos ⟨KE,hd4⟩]
    exact ⟨rfl,hb.os,hb.tape,hb.output,hb.size,fun k hk _=>hb.block k hk⟩
   have HE:=ab hE
   rw[hd4] at c5
   clear hE h h1 h2 hf pL KE
   go_enter Tryz.func97,Tryz.ntmps97
   go_wp2_with fail
   refine (aa Om).mono ?_
   rintro e w1 ⟨rfl,bQ⟩
   exact ⟨rfl,aa HE w1 bQ⟩
  ·have hE:∀a',(a'=some (⟨g,off+3,none⟩:Addr)∨c=1)→PR lo b W ub (bz s) (.returned (.tuple #[])) (((W.setCell ⟨b,5,none⟩ (.int .i64 ((s.dc:Int)+1))).setCell ⟨b,4,none⟩ (.bool false)).setCell ⟨b,0,none⟩ (.slice a' (s.ts.length-1) (c-1))):=fun a' ha=>by
    obtain ⟨k1,k2⟩:=aC (j:=5) h2 (.int .i64 ((s.dc:Int)+1))
    obtain ⟨k3,k4⟩:=aC (j:=4) k1 (.bool false)
    obtain ⟨k5,k6⟩:=aC (j:=0) k3 (.slice a' (s.ts.length-1) (c-1))
    unfold bz
    rw[KE,if_neg (by simp[hd4])]
    refine ⟨rfl,⟨_,k5.trans ?_,(pL a' ha).gu ji.2 ((k2.trans k4).trans k6),⟨ji.1,Nat.le_trans ji.2 ((k2.trans k4).trans k6).size⟩,by simp only[if_true];omega,jU⟩,(k2.trans k4).trans k6⟩
    simp[RdC]
   have HE:=ab hE
   obtain ⟨L,hL⟩:∃L,s.ts.length=L:=⟨_,rfl⟩
   rw[hL] at hp hc c0 HE
   have hL1:(1:Int)≤(L:Int):=by omega
   have pN:(1:Int)≤(c:Int):=by omega
   have XH:((s.dc:Int)==4096)=false:=beq_eq_false_iff_ne.2 (by omega)
   clear hE h h1 h2 hf Om pL KE hL
   by_cases fh:c=1
   ·subst fh
    obtain rfl:L=1:=by omega
    go_enter Tryz.func97,Tryz.ntmps97
    go_wp2
    go_end0
    exact aa HE _ (.inr (by simp))
   ·go_enter Tryz.func97,Tryz.ntmps97
    go_wp2
    go_end0
    exact aa HE _ (.inl rfl)
def bR (s:ay):Int×Int:=(if s.here.kind=5 then 51 else 50,s.here.spot)
theorem aD {W w:World} (b:Nat) (hb:Below W.heap.size W w):W.grownBy w (some b):=⟨hb.os,hb.tape,hb.output,hb.size,fun k hk _=>hb.block k hk⟩
theorem jn {W:World}{lo b:Nat}{s:ay} (h:Rd lo W b s):Calls Tryz.prog 58 #[.pointer (some ⟨b,0,none⟩)] W fun e w=>e=qv (bR s).1 (bR s).2∧Below W.heap.size W w:=by
 have hc:=ab (fC h)
 have hF:Hid (∀w er,Below W.heap.size W w→Calls Tryz.prog 92 #[.pointer (some ⟨b,0,none⟩),.int .i64 er] w fun e w'=>e=qv er s.here.spot∧Below w.heap.size w w'):=fun w er hb=>mK (h.up hb) er
 unfold bR
 clear h
 obtain ⟨t,ht⟩:∃t,s.here=t:=⟨_,rfl⟩
 rw[ht] at hc hF ⊢
 obtain ⟨kd,sp,tx⟩:=t
 unfold Tk.val at hc
 simp only at hc hF ⊢
 clear ht
 have hf:∀w,(Instr.field 38 (.agg #[.int .i64 kd,.int .i64 sp,.string tx]) 0).run Tryz.prog w=.ok (.int .i64 kd) w:=fun w=>(mJ w ⟨kd,sp,tx⟩).1
 by_cases h5:kd=5
 ·subst h5
  rw[if_pos rfl]
  go_enter Tryz.func58,Tryz.ntmps58
  go_wp2_with fail
  refine (aa hc).mono ?_
  rintro e w1 ⟨rfl,bQ⟩
  have ko:=ab bQ
  clear bQ hc
  go_wp2_with fail
  refine (aa hF w1 51 (aa ko)).mono ?_
  rintro e w2 ⟨rfl,br⟩
  exact ⟨rfl,rfl,(aa ko).trans (br.mono (aa ko).size)⟩
 ·rw[if_neg h5]
  have e5:(kd==5)=false:=beq_eq_false_iff_ne.2 h5
  go_enter Tryz.func58,Tryz.ntmps58
  go_wp2_with fail
  refine (aa hc).mono ?_
  rintro e w1 ⟨rfl,bQ⟩
  have ko:=ab bQ
  clear bQ hc
  go_wp2_with fail
  refine (aa hF w1 50 (aa ko)).mono ?_
  rintro e w2 ⟨rfl,br⟩
  exact ⟨rfl,rfl,(aa ko).trans (br.mono (aa ko).size)⟩
theorem kS {W:World}{lo b:Nat}{s:ay} (h:Rd lo W b s):Calls Tryz.prog 106 #[.pointer (some ⟨b,0,none⟩)] W fun e w=>e=qv 52 s.here.spot∧Below W.heap.size W w:=by
 have hF:=ab (mK h 52)
 clear h
 go_enter Tryz.func106,Tryz.ntmps106
 go_wp2_with fail
 refine (aa hF).mono ?_
 rintro e w2 ⟨rfl,br⟩
 exact ⟨rfl,rfl,br⟩
theorem PR.pre {α:Type}{lo b:Nat}{W w w':World}{ret:α→Value}{r:Except (Int×Int) (α×ay)}{e:Ending} (hg:W.grownBy w (some b)) (h:PR lo b w ret r e w'):PR lo b W ret r e w':=by
 unfold PR at *
 cases r with
 |error x=>exact ⟨h.1,hg.trans h.2⟩
 |ok x=>exact ⟨h.1,h.2.1,hg.trans h.2.2⟩
theorem PR.shape {α:Type}{lo b:Nat}{W w:World}{ret:α→Value}{r:Except (Int×Int) (α×ay)}{e:Ending} (h:PR lo b W ret r e w):(∃x:Int×Int,e=qv x.1 x.2)∨∃a,e=.returned (ret a):=by
 unfold PR at h
 cases r with
 |error x=>exact .inl ⟨x,h.1⟩
 |ok x=>exact .inr ⟨x.1,h.1⟩
theorem Rd.grown {W:World}{lo b:Nat}{s:ay} (h:Rd lo W b s):s.en.kind=5:=by
 obtain ⟨_,_,_,_,_,_,h⟩:=h
 exact h
theorem bN {s:ay} (he:s.en.kind=5) (h:s.here.kind≠5):0<s.ts.length:=by
 unfold ay.here at h
 cases CG:s.ts with
 |nil=>rw[CG] at h;exact absurd he h
 |cons t r=>simp
def bX (k:Int) (x:ByteArray) (s:ay):Except (Int×Int) (Bool×ay):=if aJ s.here k x=true then (match bz s with|.ok (_,s')=>.ok (true,s')|.error e=>.error e) else .ok (false,s)
theorem AG {W:World}{lo b:Nat}{s:ay} (h:Rd lo W b s) {k:Int} (hk:k≠5) (x:ByteArray):Calls Tryz.prog 91 #[.pointer (some ⟨b,0,none⟩),.int .i64 k,.string x] W (PR lo b W Value.bool (bX k x s)):=by
 have hc:=ab (fC h)
 have hI:Hid (∀w,Calls Tryz.prog 119 #[s.here.val,.int .i64 k,.string x] w fun e w'=>e=.returned (.bool (aJ s.here k x))∧Below w.heap.size w w'):=fun w=>sJ w s.here k x
 have hN:Hid (∀w,aJ s.here k x=true→Below W.heap.size W w→Calls Tryz.prog 97 #[.pointer (some ⟨b,0,none⟩)] w (PR lo b w ub (bz s))):=fun w hp hb=>dS (h.up hb) (bN h.grown (by
  unfold aJ at hp
  rw[Bool.and_eq_true] at hp
  rw[eq_of_beq hp.1]
  exact hk))
 have Hd:=ab h
 have Hv:Hid (∃p q r,s.here.val=.agg #[p,q,r]):=⟨_,_,_,rfl⟩
 obtain ⟨p,q,r,hv⟩:=aa Hv
 rw[hv] at hc hI
 clear h hk Hv hv
 go_enter Tryz.func91,Tryz.ntmps91
 go_wp2_with fail
 refine (aa hc).mono ?_
 rintro e w1 ⟨rfl,bQ⟩
 have ko:=ab bQ
 clear bQ hc
 go_wp2_with fail
 refine (aa hI w1).mono ?_
 rintro e w2 ⟨rfl,br⟩
 have zt:Hid (Below W.heap.size W w2):=(aa ko).trans (br.mono (aa ko).size)
 clear br hI ko
 cases hp:aJ s.here k x with
 |true =>
  have HN:=ab (aa hN w2 hp (aa zt))
  have HE:Hid (∀e w,PR lo b w2 ub (bz s) e w→(∃y:Int×Int,bz s=.error y∧e=qv y.1 y.2∧PR lo b W Value.bool (bX k x s) e w)∨(e=.returned (.tuple #[])∧PR lo b W Value.bool (bX k x s) (.returned (.bool true)) w)):=by
   intro e w hw
   unfold bX
   rw[if_pos hp]
   cases hn:bz s with
   |error y =>
    rw[hn] at hw
    exact .inl ⟨y,rfl,hw.1,hw.1,(aD b (aa zt)).trans hw.2⟩
   |ok y =>
    rw[hn] at hw
    exact .inr ⟨hw.1,rfl,hw.2.1,(aD b (aa zt)).trans hw.2.2⟩
  clear hp hN
  go_wp2_with fail
  refine (aa HN).mono ?_
  intro e w3 hw
  rcases aa HE e w3 hw with ⟨y,_,rfl,h3⟩|⟨rfl,h3⟩
  ·exact ⟨rfl,h3⟩
  ·have H3:=ab h3
   clear h3 hw HE HN
   go_wp2
   go_ret
   exact aa H3
 |false =>
  have HE:Hid (PR lo b W Value.bool (bX k x s) (.returned (.bool false)) w2):=by
   unfold bX
   rw[if_neg (by rw[hp];simp)]
   exact ⟨rfl,(aa Hd).up (aa zt),aD b (aa zt)⟩
  clear hp hN
  go_wp2
  go_ret
  exact aa HE
theorem gh {W:World}{lo b:Nat}{s:ay} (h:Rd lo W b s) (x:ByteArray):Calls Tryz.prog 93 #[.pointer (some ⟨b,0,none⟩),.string x] W (PR lo b W Value.bool (bX 4 x s)):=by
 have hc:=ab (AG h (k:=4) (by decide) x)
 clear h
 go_enter Tryz.func93,Tryz.ntmps93
 go_wp2_with fail
 refine (aa hc).mono ?_
 intro e w hw
 rcases hw.shape with ⟨y,rfl⟩|⟨f,rfl⟩
 ·exact ⟨rfl,hw⟩
 ·have HW:=ab hw
  clear hw hc
  go_wp2
  go_ret
  exact aa HW
theorem mU {W:World}{lo b:Nat}{s:ay} (h:Rd lo W b s) (x:ByteArray):Calls Tryz.prog 57 #[.pointer (some ⟨b,0,none⟩),.string x] W (PR lo b W Value.bool (bX 1 x s)):=by
 have hc:=ab (AG h (k:=1) (by decide) x)
 clear h
 go_enter Tryz.func57,Tryz.ntmps57
 go_wp2_with fail
 refine (aa hc).mono ?_
 intro e w hw
 rcases hw.shape with ⟨y,rfl⟩|⟨f,rfl⟩
 ·exact ⟨rfl,hw⟩
 ·have HW:=ab hw
  clear hw hc
  go_wp2
  go_ret
  exact aa HW
def au (x:ByteArray) (s:ay):Except (Int×Int) (Unit×ay):=match bX 4 x s with
 |.error e=>.error e
 |.ok (true,s')=>.ok ((),s')
 |.ok (false,s')=>.error (bR s')
theorem dw {W:World}{lo b:Nat}{s:ay} (h:Rd lo W b s) (x:ByteArray):Calls Tryz.prog 59 #[.pointer (some ⟨b,0,none⟩),.string x] W (PR lo b W ub (au x s)):=by
 have hc:=ab (gh h x)
 clear h
 go_enter Tryz.func59,Tryz.ntmps59
 go_wp2_with fail
 refine (aa hc).mono ?_
 intro e w hw
 cases hr:bX 4 x s with
 |error y =>
  rw[hr] at hw
  obtain ⟨rfl,h2⟩:=hw
  have hp:au x s=.error y:=by unfold au;rw[hr]
  exact ⟨rfl,by rw[hp];exact ⟨rfl,h2⟩⟩
 |ok y =>
  obtain ⟨f,s'⟩:=y
  rw[hr] at hw
  obtain ⟨rfl,h2,h3⟩:=hw
  cases f with
  |true =>
   have hp:au x s=.ok ((),s'):=by unfold au;rw[hr]
   have HE:Hid (PR lo b W ub (au x s) (.returned (.tuple #[])) w):=by rw[hp];exact ⟨rfl,h2,h3⟩
   clear h2 h3 hc hr hp
   go_wp2
   go_end0
   exact aa HE
  |false =>
   have hp:au x s=.error (bR s'):=by unfold au;rw[hr]
   have HW:=ab (jn h2)
   have HE:Hid (∀w2,Below w.heap.size w w2→PR lo b W ub (au x s) (qv (bR s').1 (bR s').2) w2):=fun w2 br=>by rw[hp];exact ⟨rfl,h3.trans (aD b br)⟩
   clear h2 h3 hc hr hp
   go_wp2_with fail
   refine (aa HW).mono ?_
   rintro e w2 ⟨rfl,br⟩
   exact ⟨rfl,aa HE w2 br⟩
def eb (k:Int) (s:ay):Except (Int×Int) (ByteArray×ay):=if s.here.kind=k then .ok (s.here.text,s) else .error (bR s)
theorem iC {W:World}{lo b:Nat}{s:ay} (h:Rd lo W b s) (er:Int):Calls Tryz.prog 96 #[.pointer (some ⟨b,0,none⟩),.int .i64 er] W (PR lo b W ub (if er=0 then .ok ((),s) else .error (er,s.here.spot))):=by
 have hc:=ab (mK h er)
 have Hd:=ab h
 clear h
 by_cases h0:er=0
 ·subst h0
  rw[if_pos rfl]
  go_enter Tryz.func96,Tryz.ntmps96
  go_wp2
  go_end0
  exact ⟨rfl,aa Hd,zI _ _⟩
 ·rw[if_neg h0]
  have e0:(er != 0)=true:=by simp[h0]
  go_enter Tryz.func96,Tryz.ntmps96
  go_wp2_with fail
  refine (aa hc).mono ?_
  rintro e w2 ⟨rfl,br⟩
  exact ⟨rfl,rfl,aD b br⟩
theorem Wc {a b:Nat} (h:¬a=b):((a:Int)==(b:Int))=false:=by simp;omega
theorem Wb (a:Nat):((a:Int)==(a:Int))=true:=by simp
def lZ (s:ByteArray):Prop:=(1≤s.size∧s.size≤255)∧(∀x,(aI s)[0]?=some x→isLet x)∧∀(j x:Nat),(aI s)[j]?=some x→isLet x∨eD x
theorem Kq (W:World) (s:ByteArray) :
  Calls Tryz.prog 22 #[.string s] W fun e w=>∃b:Bool,e=.returned (.bool b)∧w=W∧(b=true↔lZ s):=by
 by_cases h0:s.size=0
 ·obtain rfl:s=⟨#[]⟩:=by cases s with|mk d=>cases d with|mk l=>cases l with|nil=>rfl|cons a r=>simp[ByteArray.size] at h0
  go_enter Tryz.func22,Tryz.ntmps22
  go_wp2
  go_ret
  exact ⟨_,rfl,rfl,by simp[lZ,ByteArray.size]⟩
 ·have e0:=rq h0
  by_cases h1:s.size≤255
  ·obtain ⟨x,hx,eL,gx⟩:=cS s 0 (by omega)
   have e1:=Tm (a:=s.size) (k:=255) (by omega)
   have Hx:=ab hx
   clear hx
   go_enter Tryz.func22,Tryz.ntmps22
   go_wp2_with fail
   refine (jS W x eL).mono ?_
   rintro e w' ⟨rfl,he⟩
   obtain rfl:W=w':=he.symm
   by_cases h2:isLet x
   ·rw[rR.2 h2]
    go_wp2_with fail
    refine (Bq W s (by omega)).mono ?_
    rintro e w' ⟨n,rfl,he,hn,ij,bD⟩
    obtain rfl:W=w':=he.symm
    have nt:=ab ij
    have dg:=ab bD
    clear ij bD gx
    by_cases Xx:n=s.size
    ·subst Xx
     have e2:=Wb s.size
     go_wp2
     go_ret
     refine ⟨_,rfl,rfl,fun _=>⟨⟨by omega,h1⟩,fun y hy=>?_,fun j y hy=>?_⟩,fun _=>rfl⟩
     ·rw[aa Hx] at hy;obtain rfl:=zC hy;exact h2
     ·exact aa nt j y (by have:=(zB hy).1;rwa [bG] at this) hy
    ·have e2:=Wc Xx
     go_wp2
     go_ret
     refine ⟨_,rfl,rfl,fun h=>by simp at h,fun h=>?_⟩
     obtain ⟨y,hy,_,_⟩:=cS s n (by omega)
     exact absurd (h.2.2 n y hy) (aa dg y hy)
   ·have h3:¬cls x=2:=mt rR.1 h2
    have e2:((cls x:Int)==2)=false:=by simp;omega
    have H2:=ab h2
    clear h2 gx
    generalize cls x=kx at *
    go_wp2
    go_ret
    refine ⟨_,rfl,rfl,fun h=>by simp at h,fun h=>absurd (h.2.1 x (aa Hx)) (aa H2)⟩
  ·have e1:=Tl (a:=s.size) (k:=255) (by omega)
   go_enter Tryz.func22,Tryz.ntmps22
   go_wp2
   go_ret
   exact ⟨_,rfl,rfl,fun h=>by simp at h,fun h=>absurd h.1.2 h1⟩
theorem Fb (W:World) (s:ByteArray) :
  Calls Tryz.prog 23 #[.string s] W (Ji W (lZ s)):=by
 by_cases h0:s.size=0
 ·have e0:decide ((s.size:Int)<1)=true:=by simp;omega
  go_enter Tryz.func23,Tryz.ntmps23
  go_wp2
  go_ret
  exact x8 _ (by simp[lZ];omega)
 ·have e0:decide ((s.size:Int)<1)=false:=by simp;omega
  by_cases h1:s.size≤255
  ·obtain ⟨x,hx,eL,gx⟩:=cS s 0 (by omega)
   have e1:=Tm (a:=s.size) (k:=255) (by omega)
   have Hx:=ab hx
   clear hx
   go_enter Tryz.func23,Tryz.ntmps23
   go_wp2_with fail
   refine (tr W x eL).mono ?_
   rintro e w' ⟨b,rfl,he,hb⟩
   obtain rfl:W=w':=he.symm
   have Hb:=ab hb
   clear hb gx
   cases b with
   |false =>
    go_wp2
    go_ret
    exact x8 _ ⟨fun h=>by simp at h,fun h=>by have:=(aa Hb).2 (h.2.1 x (aa Hx));simp at this⟩
   |true =>
    go_wp2
    go_loopg [3] s.size (fun gk v3 wr=>∃(k:Nat),v3=.int .i64 (k:Int)∧gk=s.size-k∧k≤s.size∧wr=W∧∀j x,j<k→(aI s)[j]?=some x→isLet x∨eD x)
    case atStart=>exact ⟨0,rfl,rfl,by omega,rfl,fun j x hj=>by omega⟩
    case round =>
     obtain ⟨k,rfl,eG,hk,rfl,ij⟩:=hrel
     have jw:=ab eG
     have nt:=ab ij
     clear eG ij
     by_cases dB:k<s.size
     ·obtain ⟨y,hy,BR,gy⟩:=cS s k dB
      have Hy:=ab hy
      clear hy
      go_wp2_with fail
      refine (tr wr y BR).mono ?_
      rintro e w' ⟨b,rfl,he,hb⟩
      obtain rfl:wr=w':=he.symm
      have zt:=ab hb
      clear hb
      cases b with
      |true =>
       go_wp2
       go_roundg (s.size-(k+1))
       case measure=>have:=aa jw;omega
       case rel =>
        refine ⟨k+1,by go_num,rfl,by omega,rfl,fun j z hj hz=>?_⟩
        by_cases TC:j<k
        ·exact aa nt j z TC hz
        ·obtain rfl:j=k:=by omega
         rw[aa Hy] at hz
         obtain rfl:=zC hz
         exact .inl (by simpa using aa zt)
      |false =>
       go_wp2_with fail
       refine (Fc wr y BR).mono ?_
       rintro e w' ⟨b,rfl,he,hb⟩
       obtain rfl:wr=w':=he.symm
       have Hb3:=ab hb
       clear hb
       cases b with
       |true =>
        go_wp2
        go_roundg (s.size-(k+1))
        case measure=>have:=aa jw;omega
        case rel =>
         refine ⟨k+1,by go_num,rfl,by omega,rfl,fun j z hj hz=>?_⟩
         by_cases TC:j<k
         ·exact aa nt j z TC hz
         ·obtain rfl:j=k:=by omega
          rw[aa Hy] at hz
          obtain rfl:=zC hz
          exact .inr (by simpa using aa Hb3)
       |false =>
        go_wp2
        go_ret
        refine x8 _ ⟨fun h=>by simp at h,fun h=>?_⟩
        rcases h.2.2 k y (aa Hy) with q|q
        ·have:=(aa zt).2 q;simp at this
        ·have:=(aa Hb3).2 q;simp at this
     ·obtain rfl:k=s.size:=by omega
      go_wp2
      go_ret
      refine x8 _ ⟨fun _=>⟨⟨by omega,h1⟩,fun y hy=>?_,fun j y hy=>?_⟩,fun _=>rfl⟩
      ·rw[aa Hx] at hy;obtain rfl:=zC hy;exact (by simpa using aa Hb)
      ·exact aa nt j y (by have:=(zB hy).1;rwa [bG] at this) hy
  ·have e1:=Tl (a:=s.size) (k:=255) (by omega)
   go_enter Tryz.func23,Tryz.ntmps23
   go_wp2
   go_ret
   exact x8 _ ⟨fun h=>by simp at h,fun h=>absurd h.1.2 h1⟩
theorem FY (s:ByteArray):((1≤s.size∧s.size≤255)∧(∀x ∈ (aI s).take 1,isLet x)∧∀x ∈ aI s,isLet x∨eD x)↔lZ s:=by
 unfold lZ
 refine and_congr_right fun _=>and_congr ⟨fun h x hx=>h x ?_,fun h x hx=>h x ?_⟩ ⟨fun h j x hx=>h x (List.mem_of_getElem? hx),fun h x hx=>?_⟩
 ·cases hl:aI s with
  |nil=>rw[hl] at hx;cases hx
  |cons a r=>rw[hl] at hx;rw[←zC hx];exact List.mem_singleton.2 rfl
 ·cases hl:aI s with
  |nil=>rw[hl] at hx;cases hx
  |cons a r=>rw[hl] at hx;rw[List.mem_singleton.1 hx];rfl
 ·obtain ⟨j,hj⟩:=List.getElem?_of_mem hx
  exact h j x hj
instance (s:ByteArray):Decidable (lZ s):=decidable_of_iff _ (FY s)
def fw (s:ByteArray):Bool:=decide (lZ s)
theorem AP {s:ByteArray}{b:Bool} (h:b=true↔lZ s):b=fw s:=by
 unfold fw
 by_cases hp:lZ s
 ·simp[hp,h.2 hp]
 ·simp[hp];cases b<;>simp_all
theorem FX (W:World) (s:ByteArray):Calls Tryz.prog 22 #[.string s] W fun e w=>e=.returned (.bool (fw s))∧w=W :=
 (Kq W s).mono fun e w ⟨b,h1,h2,h3⟩=>⟨by rw[h1,AP h3],h2⟩
theorem CY (W:World) (s:ByteArray):Calls Tryz.prog 23 #[.string s] W fun e w=>e=.returned (.bool (fw s))∧w=W :=
 (Fb W s).mono fun e w ⟨b,h1,h2,h3⟩=>⟨by rw[h1,AP h3],h2⟩
end Go.Proofs.YtjophoclfccmcaaGreatDoor

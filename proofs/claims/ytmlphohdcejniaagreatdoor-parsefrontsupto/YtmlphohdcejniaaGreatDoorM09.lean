import Derived.Test.YtmlphohdcejniaaGreatDoorM08
import Derived.WalkSmall
set_option maxHeartbeats 2000000
set_option maxRecDepth 100000
namespace Go.Proofs.YtmlphohdcejniaaGreatDoor
open Go.RowKit
attribute [local go_sem ↓] Go.wp_at_zero Go.wp_at_succ
def Tk.val (t:Tk):Value:=.agg #[.int .i64 t.kind,.int .i64 t.spot,.string t.text]
theorem Bb:(Tryz.prog.info? 44).map (·.size)=some 3:=by kernel_rfl
def gd (W:World) (lo b:Nat) (v:Value) (ts:List Tk):Prop:=∃(a:Option Addr) (c:Nat),v=.slice a ts.length c∧ts.length≤c∧c≤maxLen∧(0<ts.length→∃g off,a=some ⟨g,off,none⟩∧g<lo∧g≠b∧∀i t,ts[i]?=some t→W.cell? ⟨g,off+i*3,none⟩=some (.int .i64 t.kind)∧W.cell? ⟨g,off+i*3+1,none⟩=some (.int .i64 t.spot)∧W.cell? ⟨g,off+i*3+2,none⟩=some (.string t.text))
theorem gd.F' {W w:World}{lo b:Nat}{v:Value}{ts:List Tk} (h:gd W lo b v ts) (hl:lo≤W.heap.size) (hg:W.grownBy w (some b)):gd w lo b v ts:=by
 obtain ⟨a,c,rfl,h1,h2,h3⟩:=h
 refine ⟨a,c,rfl,h1,h2,fun hp=>?_⟩
 obtain ⟨g,off,rfl,h4,h5,h6⟩:=h3 hp
 have e:∀j,w.cell? ⟨g,j,none⟩=W.cell? ⟨g,j,none⟩:=fun j=>World.cell?_of_block (a:=⟨g,j,none⟩) (hg.block g (by omega) (by simpa using h5))
 refine ⟨g,off,rfl,h4,h5,fun i t ht=>?_⟩
 rw[e,e,e]
 exact h6 i t ht
theorem gd.up {W w:World}{lo b:Nat}{v:Value}{ts:List Tk} (h:gd W lo b v ts) (hb:Below lo W w):gd w lo b v ts:=by
 obtain ⟨a,c,rfl,h1,h2,h3⟩:=h
 refine ⟨a,c,rfl,h1,h2,fun hp=>?_⟩
 obtain ⟨g,off,rfl,h4,h5,h6⟩:=h3 hp
 have e:∀j,w.cell? ⟨g,j,none⟩=W.cell? ⟨g,j,none⟩:=fun j=>hb.cell (p:=⟨g,j,none⟩) h4
 refine ⟨g,off,rfl,h4,h5,fun i t ht=>?_⟩
 rw[e,e,e]
 exact h6 i t ht
structure aD where
 ts:List Tk
 en:Tk
 bg:Bool
 dc:Nat
 op:Nat
def aD.here (s:aD):Tk:=s.ts.headD s.en
def aD.ahead (s:aD) (n:Nat):Tk:=s.ts.getD n s.en
def RdC (v:Value) (s:aD):Array Value:=#[v,.int .i64 s.en.kind,.int .i64 s.en.spot,.string s.en.text,.bool s.bg,.int .i64 (s.dc:Int),.int .i64 (s.op:Int)]
def Rd (lo:Nat) (W:World) (b:Nat) (s:aD):Prop:=∃v,W.heap[b]?=some (.cells (RdC v s) 129 (0,0))∧gd W lo b v s.ts∧(b<lo∧lo≤W.heap.size)∧s.dc≤4096∧s.op≤32∧s.en.kind=5
theorem Rd.lt {lo:Nat}{W:World}{b:Nat}{s:aD} (h:Rd lo W b s):b<W.heap.size:=by
 obtain ⟨v,h1,_⟩:=h
 exact (zA h1).1
theorem Rd.low {lo:Nat}{W:World}{b:Nat}{s:aD} (h:Rd lo W b s):b<lo∧lo≤W.heap.size:=by
 obtain ⟨v,_,_,h3,_⟩:=h
 exact h3
theorem Rd.Tv {lo:Nat}{W w:World}{b:Nat}{s:aD} (h:Rd lo W b s) (hb:Below lo W w):Rd lo w b s:=by
 have hl:=h.low
 obtain ⟨v,h1,h2,h3,h4⟩:=h
 exact ⟨v,(hb.block b hl.1).trans h1,h2.up hb,⟨hl.1,Nat.le_trans hl.2 hb.size⟩,h4⟩
theorem Rd.up {lo:Nat}{W w:World}{b:Nat}{s:aD} (h:Rd lo W b s) (hb:Below W.heap.size W w):Rd lo w b s:=h.Tv (hb.mono h.low.2)
theorem AU {W:World}{lo b n:Nat}{s:aD} (h:Rd lo W b s) (hn:n≤1048576):Calls Tryz.prog 105 #[.pointer (some ⟨b,0,none⟩),.int .i64 (n:Int)] W fun e w=>e=.returned (s.ahead n).val∧Below W.heap.size W w:=by
 have cw:=h.lt
 have eQ:=h.low.2
 obtain ⟨v,h1,h2,_⟩:=h
 obtain ⟨a,c,rfl,hc,hm,h3⟩:=h2
 have Hr:=aj h1
 have dZ:=aj (zE W.heap.size W)
 obtain ⟨t,ht⟩:∃t,s.ahead n=t:=⟨_,rfl⟩
 obtain ⟨kd,sp,tx⟩:=t
 have Ht:=aj ht
 have c0:W.cell? ⟨b,0,none⟩=some (.slice a s.ts.length c):=by rw[cell_of_row _ _ _ _ _ _ h1];rfl
 have yB:Hid (W.cell? ⟨b,1,none⟩=some (.int .i64 s.en.kind)∧W.cell? ⟨b,2,none⟩=some (.int .i64 s.en.spot)∧W.cell? ⟨b,3,none⟩=some (.string s.en.text)):=by
  refine ⟨?_,?_,?_⟩<;>rw[cell_of_row _ _ _ _ _ _ h1]<;>rfl
 clear h1 ht
 by_cases eP:n<s.ts.length
 ·obtain ⟨g,off,rfl,hg,eo,hx⟩:=h3 (by omega)
  have ej:g<W.heap.size:=by omega
  clear hg eQ
  have pS:s.ts[n]?=some ⟨kd,sp,tx⟩:=by
   have:=aa Ht
   unfold aD.ahead at this
   rw[List.getD_eq_getElem?_getD,List.getElem?_eq_getElem eP] at this
   rw[List.getElem?_eq_getElem eP]
   exact congrArg some this
  obtain ⟨x1,x2,x3⟩:=hx n _ pS
  simp only at x1 x2 x3
  have hd:decide ((n:Int)<(s.ts.length:Int))=true:=by simp;omega
  have n0:(0:Int)≤(n:Int):=zH _
  have n1:(n:Int)<(s.ts.length:Int):=by omega
  clear hx pS h3 hm
  go_enter Tryz.func105,Tryz.ntmps105
  go_wp2
  refine bodyPost_ret (results_cell_row rfl _ _ W.heap.size 44 #[.int .i64 kd,.int .i64 sp,.string tx] (0,0) _ rfl (aC _ _) Tryz.underlying44 rfl Bb) rfl ⟨?_,(aa dZ).alloc (zD _) _⟩
  rw[aa Ht]
  rfl
 ·have hd:decide ((n:Int)<(s.ts.length:Int))=false:=by simp;omega
  have pS:s.en=⟨kd,sp,tx⟩:=by
   have:=aa Ht
   unfold aD.ahead at this
   rw[List.getD_eq_getElem?_getD,List.getElem?_eq_none (by omega)] at this
   exact this
  obtain ⟨x1,x2,x3⟩:=aa yB
  rw[pS] at x1 x2 x3
  simp only at x1 x2 x3
  clear pS h3 hm
  go_enter Tryz.func105,Tryz.ntmps105
  go_wp2
  refine bodyPost_ret (results_cell_row rfl _ _ W.heap.size 44 #[.int .i64 kd,.int .i64 sp,.string tx] (0,0) _ rfl (aC _ _) Tryz.underlying44 rfl Bb) rfl ⟨?_,(aa dZ).alloc (zD _) _⟩
  rw[aa Ht]
  rfl
theorem aD.VM (s:aD):s.ahead 0=s.here:=by
 unfold aD.ahead aD.here
 cases s.ts<;>rfl
theorem I6 {bs g:Nat}{w:World}{t:Tk} (h:iK bs w (.slice (some ⟨g,0,none⟩) 1 1) [t]):w.heap[g]?=some (.cells #[.int .i64 t.kind,.int .i64 t.spot,.string t.text] 44 (0,0)):=by
 rcases h.2 with ⟨e,_⟩|⟨g',c,cur,e,_,h2,_,_,h5,h6⟩
 ·cases e
 ·cases e
  rw[h2]
  have e2:cur.toList=fe [t]:=by
   rw[←h6,List.take_of_length_le]
   rw[Array.length_toList,h5]
   simp
  have e3:cur=(fe [t]).toArray:=by rw[←e2]
  rw[e3]
  rfl
theorem P0 {g:Nat}{w:World}{t:Tk} (h:w.heap[g]?=some (.cells #[.int .i64 t.kind,.int .i64 t.spot,.string t.text] 44 (0,0))):iK 0 w (.slice (some ⟨g,0,none⟩) 1 1) [t] :=
 ⟨rfl,.inr ⟨g,1,_,rfl,Nat.zero_le _,h,zD _,by unfold maxLen;omega,rfl,rfl⟩⟩
def P1:Tk:=⟨0,0,⟨#[]⟩⟩
theorem Kv {W V w:World}{g:Nat} (hb:Below W.heap.size W V) (hg:V.grownBy w (some g)) (hl:W.heap.size≤g):Below W.heap.size W w :=
 hb.grown hg hb.size (fun k e=>by simp at e;omega)
theorem fu {W:World}{lo b:Nat}{s:aD} (h:Rd lo W b s):Calls Tryz.prog 80 #[.pointer (some ⟨b,0,none⟩)] W fun e w=>e=.returned s.here.val∧Below W.heap.size W w:=by
 have dZ:=(zE W.heap.size W).alloc (zD _) (.cells #[.int .i64 0,.int .i64 0,.string ⟨#[]⟩] 44)
 have hc:=AU (n:=0) (h.up dZ) (by omega)
 rw[s.VM] at hc
 have HC:=aj hc
 obtain ⟨t,ht⟩:∃t,s.here=t:=⟨_,rfl⟩
 rw[ht] at HC ⊢
 clear hc ht h
 obtain ⟨kd,sp,tx⟩:=t
 unfold Tk.val at HC
 simp only at HC
 have Hb0:=aj dZ
 have hW:(W.alloc (.cells #[.int .i64 0,.int .i64 0,.string ⟨#[]⟩] 44)).heap[W.heap.size]?=some (.cells #[.int .i64 0,.int .i64 0,.string ⟨#[]⟩] 44 (0,0)):=aC _ _
 have HW:=aj hW
 have bU:=zJ W (.cells #[.int .i64 0,.int .i64 0,.string ⟨#[]⟩] 44)
 have EW:=aj bU
 clear dZ hW bU
 go_enter Tryz.func80,Tryz.ntmps80
 go_wp2_with fail
 refine (aa HC).mono ?_
 rintro e w1 ⟨rfl,bF⟩
 have hr:iK 0 w1 (.slice (some ⟨W.heap.size,0,none⟩) 1 1) [P1]:=P0 ((bF.block W.heap.size (by rw[aa EW];omega)).trans (aa HW))
 have np:Hid (Below W.heap.size W w1):=(aa Hb0).trans (bF.mono (aa Hb0).size)
 obtain ⟨y1,y2,y3⟩:=hr.cell (i:=0) (t:=P1) rfl
 have f1:=hr.frozenAt 0
 have f2:=hr.frozenAt 1
 have f3:=hr.frozenAt 2
 obtain ⟨r1,r2⟩:=hr.set 0 ⟨kd,sp,tx⟩
 have R1:=aj (I6 r1)
 have R2:=aj (Kv (aa np) r2 (zD _))
 simp only[Nat.zero_mul,Nat.zero_add,P1] at y1 y2 y3 R1 R2
 clear hr bF HC HW EW r1 r2
 go_wp2
 refine bodyPost_ret (results_cell_row rfl _ _ W.heap.size 44 #[.int .i64 kd,.int .i64 sp,.string tx] (0,0) _ rfl (aa R1) Tryz.underlying44 rfl Bb) rfl ⟨rfl,aa R2⟩
def cZ (t:Tk) (k:Int) (x:ByteArray):Bool:=t.kind==k&&(t.text.toList==x.toList)
theorem rP (W:World) (t:Tk) (k:Int) (x:ByteArray):Calls Tryz.prog 118 #[t.val,.int .i64 k,.string x] W fun e w=>e=.returned (.bool (cZ t k x))∧Below W.heap.size W w:=by
 obtain ⟨kd,sp,tx⟩:=t
 unfold Tk.val cZ
 simp only
 have dZ:=aj ((zE W.heap.size W).alloc (zD _) (.cells #[.int .i64 kd,.int .i64 sp,.string tx] 44))
 by_cases h1:kd=k
 ·subst h1
  go_enter Tryz.func118,Tryz.ntmps118
  go_wp2
  go_ret
  exact ⟨by simp,aa dZ⟩
 ·have e1:(kd==k)=false:=by simp[h1]
  go_enter Tryz.func118,Tryz.ntmps118
  go_wp2
  go_ret
  exact ⟨by simp[e1],aa dZ⟩
theorem ou (w:World) (t:Tk):(Instr.field 44 t.val 0).run Tryz.prog w=.ok (.int .i64 t.kind) w∧(Instr.field 44 t.val 1).run Tryz.prog w=.ok (.int .i64 t.spot) w:=by
 unfold Tk.val
 refine ⟨?_,?_⟩<;>simp[Instr.field,run_underlying Tryz.underlying44,asAgg,go_sem]
def pI (er sp:Int):Ending:=.panicked [{ v:=.iface 33 (.agg #[.int .i64 er,.int .i64 0,.int .i64 sp,.string ⟨#[]⟩]),recovered:=false }]
theorem mq {W:World}{lo b:Nat}{s:aD} (h:Rd lo W b s) (er:Int):Calls Tryz.prog 90 #[.pointer (some ⟨b,0,none⟩),.int .i64 er] W fun e w=>e=pI er s.here.spot∧Below W.heap.size W w:=by
 have hc:=aj (fu h)
 clear h
 obtain ⟨t,ht⟩:∃t,s.here=t:=⟨_,rfl⟩
 rw[ht] at hc ⊢
 obtain ⟨kd,sp,tx⟩:=t
 unfold Tk.val at hc
 simp only at hc
 clear ht
 have hf:∀w,(Instr.field 44 (.agg #[.int .i64 kd,.int .i64 sp,.string tx]) 1).run Tryz.prog w=.ok (.int .i64 sp) w:=fun w=>(ou w ⟨kd,sp,tx⟩).2
 go_enter Tryz.func90,Tryz.ntmps90
 go_wp2_with fail
 refine (aa hc).mono ?_
 rintro e w1 ⟨rfl,bF⟩
 have kv:=aj bF
 clear bF hc
 go_wp2
 exact ⟨rfl,rfl,aa kv⟩
theorem aJ {W:World}{b j:Nat}{cs:Array Value}{t:TypeId} (h:W.heap[b]?=some (.cells cs t (0,0))) (u:Value):(W.setCell ⟨b,j,none⟩ u).heap[b]?=some (.cells (cs.toList.set j u).toArray t (0,0))∧W.grownBy (W.setCell ⟨b,j,none⟩ u) (some b):=by
 have hr:W.ownsRow 0 t cs.size (.slice (some ⟨b,0,none⟩) 1 1) 1 cs.toList:=⟨by simp,.inr ⟨b,1,cs,rfl,Nat.zero_le _,h,zD _,by unfold maxLen;omega,by simp,by rw[Nat.one_mul];exact List.take_of_length_le (by simp)⟩⟩
 obtain ⟨h1,h2⟩:=World.ownsRow.stored hr j u
 refine ⟨?_,h2⟩
 rcases h1.2 with ⟨e,_⟩|⟨g',c,cur,e,_,h4,_,_,h5,h6⟩
 ·cases e
 ·cases e
  rw[h4]
  have e2:cur.toList=cs.toList.set j u:=by
   rw[←h6,List.take_of_length_le]
   rw[Array.length_toList,h5]
   simp
  have e3:cur=(cs.toList.set j u).toArray:=by rw[←e2]
  rw[e3]
def PR {α:Type} (lo b:Nat) (W:World) (ret:α→Value) (r:Except (Int×Int) (α×aD)) (e:Ending) (w:World):Prop:=match r with
 |.error x=>e=pI x.1 x.2∧W.grownBy w (some b)
 |.ok (a,s')=>e=.returned (ret a)∧Rd lo w b s'∧W.grownBy w (some b)
def Cw {α:Type} (_:α):Value:=.tuple #[]
theorem Rd.cells {W:World}{lo b:Nat}{s:aD} (h:Rd lo W b s):∃v,gd W lo b v s.ts∧W.heap[b]?=some (.cells (RdC v s) 129 (0,0))∧W.cell? ⟨b,0,none⟩=some v∧W.cell? ⟨b,4,none⟩=some (.bool s.bg)∧W.cell? ⟨b,5,none⟩=some (.int .i64 (s.dc:Int))∧W.cell? ⟨b,6,none⟩=some (.int .i64 (s.op:Int))∧∀j,W.frozen? ⟨b,j,none⟩=false:=by
 obtain ⟨v,h1,h2,_⟩:=h
 refine ⟨v,h2,h1,?_,?_,?_,?_,fun j=>?_⟩
 ·rw[cell_of_row _ _ _ _ _ _ h1];rfl
 ·rw[cell_of_row _ _ _ _ _ _ h1];rfl
 ·rw[cell_of_row _ _ _ _ _ _ h1];rfl
 ·rw[cell_of_row _ _ _ _ _ _ h1];rfl
 ·simp[World.frozen?,h1]
theorem Kw {W:World}{lo b:Nat}{s:aD} (h:Rd lo W b s):Calls Tryz.prog 120 #[.pointer (some ⟨b,0,none⟩)] W (PR lo b W Cw (.ok ((),{ s with bg:=true }))):=by
 have hd:=h
 obtain ⟨v,h1,h2,c0,c4,c5,c6,hf⟩:=h.cells
 obtain ⟨k1,k2⟩:=aJ (j:=4) h2 (.bool true)
 have f4:=hf 4
 have yB:Hid (PR lo b W Cw (.ok ((),{ s with bg:=true })) (.returned (.tuple #[])) (W.setCell ⟨b,4,none⟩ (.bool true))):=by
  obtain ⟨_,_,_,h3⟩:=hd
  exact ⟨rfl,⟨v,k1,h1.F' h3.1.2 k2,⟨h3.1.1,Nat.le_trans h3.1.2 k2.size⟩,h3.2⟩,k2⟩
 clear hd h h1 h2 k1 k2 hf c0 c5 c6
 go_enter Tryz.func120,Tryz.ntmps120
 go_wp2
 go_end0
 exact aa yB
def bE (s:aD):Except (Int×Int) (Unit×aD):=if s.bg=true∧s.dc=4096 then .error (54,s.here.spot) else .ok ((),{ s with ts:=s.ts.tail,bg:=false,dc:=if s.bg=true then s.dc+1 else s.dc })
theorem gd.tail {W:World}{lo b c:Nat}{a:Option Addr}{ts:List Tk} (h:gd W lo b (.slice a ts.length c) ts) (hp:0<ts.length):∃g off,a=some ⟨g,off,none⟩∧∀a',(a'=some ⟨g,off+3,none⟩∨c=1)→gd W lo b (.slice a' (ts.length-1) (c-1)) ts.tail:=by
 obtain ⟨a0,c0,e,h1,h2,h3⟩:=h
 simp only[Value.slice.injEq] at e
 obtain ⟨rfl,_,rfl⟩:=e
 obtain ⟨g,off,rfl,h4,h5,h6⟩:=h3 hp
 refine ⟨g,off,rfl,fun a' ha=>⟨a',c-1,by rw[List.length_tail],by rw[List.length_tail];omega,by omega,fun yK=>?_⟩⟩
 rw[List.length_tail] at yK
 have ha':a'=some ⟨g,off+3,none⟩:=ha.elim id (fun e=>by omega)
 refine ⟨g,off+3,ha',h4,h5,fun i t ht=>?_⟩
 have:=h6 (i+1) t (by rw[←ht,List.getElem?_tail])
 rw[show off+3+i*3=off+(i+1)*3 by omega]
 exact this
theorem dr {W:World}{lo b:Nat}{s:aD} (h:Rd lo W b s) (hp:0<s.ts.length):Calls Tryz.prog 95 #[.pointer (some ⟨b,0,none⟩)] W (PR lo b W Cw (bE s)):=by
 have Nl:=aj (mq h 54)
 have hd:=h
 obtain ⟨v,h1,h2,c0,c4,c5,c6,hf⟩:=h.cells
 obtain ⟨a,c,rfl,hc,hm,_⟩:=id h1
 obtain ⟨g,off,rfl,oX⟩:=h1.tail hp
 have f0:=hf 0
 have f4:=hf 4
 have f5:=hf 5
 obtain ⟨_,_,_,dI,jz,jS⟩:=hd
 cases Pt:s.bg with
 |false =>
  rw[Pt] at c4
  have hE:∀a',(a'=some (⟨g,off+3,none⟩:Addr)∨c=1)→PR lo b W Cw (bE s) (.returned (.tuple #[])) (W.setCell ⟨b,0,none⟩ (.slice a' (s.ts.length-1) (c-1))):=fun a' ha=>by
   obtain ⟨k1,k2⟩:=aJ (j:=0) h2 (.slice a' (s.ts.length-1) (c-1))
   unfold bE
   rw[Pt,if_neg (by simp)]
   refine ⟨rfl,⟨_,k1.trans ?_,(oX a' ha).F' dI.2 k2,⟨dI.1,Nat.le_trans dI.2 k2.size⟩,jz,jS⟩,k2⟩
   simp[RdC,Pt]
  have HE:=aj hE
  obtain ⟨L,hL⟩:∃L,s.ts.length=L:=⟨_,rfl⟩
  rw[hL] at hp hc c0 HE
  have hL1:(1:Int)≤(L:Int):=by omega
  have ri:(1:Int)≤(c:Int):=by omega
  clear hE h h1 h2 hf Nl oX Pt hL
  by_cases gJ:c=1
  ·subst gJ
   obtain rfl:L=1:=by omega
   go_enter Tryz.func95,Tryz.ntmps95
   go_wp2
   go_end0
   exact aa HE _ (.inr (by simp))
  ·go_enter Tryz.func95,Tryz.ntmps95
   go_wp2
   go_end0
   exact aa HE _ (.inl rfl)
 |true =>
  rw[Pt] at c4
  by_cases SX:s.dc=4096
  ·have hE:∀w,Below W.heap.size W w→PR lo b W Cw (bE s) (pI 54 s.here.spot) w:=fun w hb=>by
    unfold bE
    rw[if_pos ⟨Pt,SX⟩]
    exact ⟨rfl,hb.os,hb.tape,hb.output,hb.size,fun k hk _=>hb.block k hk⟩
   have HE:=aj hE
   rw[SX] at c5
   clear hE h h1 h2 hf oX Pt
   go_enter Tryz.func95,Tryz.ntmps95
   go_wp2_with fail
   refine (aa Nl).mono ?_
   rintro e w1 ⟨rfl,bF⟩
   exact ⟨rfl,aa HE w1 bF⟩
  ·have hE:∀a',(a'=some (⟨g,off+3,none⟩:Addr)∨c=1)→PR lo b W Cw (bE s) (.returned (.tuple #[])) (((W.setCell ⟨b,5,none⟩ (.int .i64 ((s.dc:Int)+1))).setCell ⟨b,4,none⟩ (.bool false)).setCell ⟨b,0,none⟩ (.slice a' (s.ts.length-1) (c-1))):=fun a' ha=>by
    obtain ⟨k1,k2⟩:=aJ (j:=5) h2 (.int .i64 ((s.dc:Int)+1))
    obtain ⟨k3,k4⟩:=aJ (j:=4) k1 (.bool false)
    obtain ⟨k5,k6⟩:=aJ (j:=0) k3 (.slice a' (s.ts.length-1) (c-1))
    unfold bE
    rw[Pt,if_neg (by simp[SX])]
    refine ⟨rfl,⟨_,k5.trans ?_,(oX a' ha).F' dI.2 ((k2.trans k4).trans k6),⟨dI.1,Nat.le_trans dI.2 ((k2.trans k4).trans k6).size⟩,by simp only[if_true];omega,jS⟩,(k2.trans k4).trans k6⟩
    simp[RdC]
   have HE:=aj hE
   obtain ⟨L,hL⟩:∃L,s.ts.length=L:=⟨_,rfl⟩
   rw[hL] at hp hc c0 HE
   have hL1:(1:Int)≤(L:Int):=by omega
   have ri:(1:Int)≤(c:Int):=by omega
   have WK:((s.dc:Int)==4096)=false:=beq_eq_false_iff_ne.2 (by omega)
   clear hE h h1 h2 hf Nl oX Pt hL
   by_cases gJ:c=1
   ·subst gJ
    obtain rfl:L=1:=by omega
    go_enter Tryz.func95,Tryz.ntmps95
    go_wp2
    go_end0
    exact aa HE _ (.inr (by simp))
   ·go_enter Tryz.func95,Tryz.ntmps95
    go_wp2
    go_end0
    exact aa HE _ (.inl rfl)
def cH (s:aD):Int×Int:=(if s.here.kind=5 then 51 else 50,s.here.spot)
theorem aA {W w:World} (b:Nat) (hb:Below W.heap.size W w):W.grownBy w (some b):=⟨hb.os,hb.tape,hb.output,hb.size,fun k hk _=>hb.block k hk⟩
theorem iM {W:World}{lo b:Nat}{s:aD} (h:Rd lo W b s):Calls Tryz.prog 75 #[.pointer (some ⟨b,0,none⟩)] W fun e w=>e=pI (cH s).1 (cH s).2∧Below W.heap.size W w:=by
 have hc:=aj (fu h)
 have hF:Hid (∀w er,Below W.heap.size W w→Calls Tryz.prog 90 #[.pointer (some ⟨b,0,none⟩),.int .i64 er] w fun e w'=>e=pI er s.here.spot∧Below w.heap.size w w'):=fun w er hb=>mq (h.up hb) er
 unfold cH
 clear h
 obtain ⟨t,ht⟩:∃t,s.here=t:=⟨_,rfl⟩
 rw[ht] at hc hF ⊢
 obtain ⟨kd,sp,tx⟩:=t
 unfold Tk.val at hc
 simp only at hc hF ⊢
 clear ht
 have hf:∀w,(Instr.field 44 (.agg #[.int .i64 kd,.int .i64 sp,.string tx]) 0).run Tryz.prog w=.ok (.int .i64 kd) w:=fun w=>(ou w ⟨kd,sp,tx⟩).1
 by_cases h5:kd=5
 ·subst h5
  rw[if_pos rfl]
  go_enter Tryz.func75,Tryz.ntmps75
  go_wp2_with fail
  refine (aa hc).mono ?_
  rintro e w1 ⟨rfl,bF⟩
  have kv:=aj bF
  clear bF hc
  go_wp2_with fail
  refine (aa hF w1 51 (aa kv)).mono ?_
  rintro e w2 ⟨rfl,bJ⟩
  exact ⟨rfl,rfl,(aa kv).trans (bJ.mono (aa kv).size)⟩
 ·rw[if_neg h5]
  have e5:(kd==5)=false:=beq_eq_false_iff_ne.2 h5
  go_enter Tryz.func75,Tryz.ntmps75
  go_wp2_with fail
  refine (aa hc).mono ?_
  rintro e w1 ⟨rfl,bF⟩
  have kv:=aj bF
  clear bF hc
  go_wp2_with fail
  refine (aa hF w1 50 (aa kv)).mono ?_
  rintro e w2 ⟨rfl,bJ⟩
  exact ⟨rfl,rfl,(aa kv).trans (bJ.mono (aa kv).size)⟩
theorem kE {W:World}{lo b:Nat}{s:aD} (h:Rd lo W b s):Calls Tryz.prog 104 #[.pointer (some ⟨b,0,none⟩)] W fun e w=>e=pI 52 s.here.spot∧Below W.heap.size W w:=by
 have hF:=aj (mq h 52)
 clear h
 go_enter Tryz.func104,Tryz.ntmps104
 go_wp2_with fail
 refine (aa hF).mono ?_
 rintro e w2 ⟨rfl,bJ⟩
 exact ⟨rfl,rfl,bJ⟩
end Go.Proofs.YtmlphohdcejniaaGreatDoor

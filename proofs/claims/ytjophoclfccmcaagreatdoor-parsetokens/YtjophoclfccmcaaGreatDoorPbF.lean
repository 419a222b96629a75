import Derived.Test.YtjophoclfccmcaaGreatDoorM18
namespace Go.Proofs.YtjophoclfccmcaaGreatDoor
open Go.RowKit
attribute [local go_sem ↓] Go.wp_at_zero Go.wp_at_succ
theorem aar:EI Tryz.prog 45 6 72:=A4 (z:=.agg #[.int .i64 0,.string ⟨#[]⟩,.string ⟨#[]⟩,.string ⟨#[]⟩,.int .i64 0,.int .i64 0]) (by kernel_rfl) rfl
theorem aaq:EI Tryz.prog 9 1 16:=A4 (z:=.string ⟨#[]⟩) (by kernel_rfl) rfl
theorem Pa:EI Tryz.prog 49 7 160:=A4 (z:=.agg #[.string ⟨#[]⟩,.slice none 0 0,.slice none 0 0,.slice none 0 0,.slice none 0 0,.slice none 0 0,.slice none 0 0]) (by kernel_rfl) rfl
theorem Wh:EI Tryz.prog 71 4 88:=A4 (z:=.agg #[.string ⟨#[]⟩,.slice none 0 0,.slice none 0 0,.slice none 0 0]) (by kernel_rfl) rfl
theorem SA:EI Tryz.prog 98 2 16:=A4 (z:=.agg #[.int .i64 0,.int .i64 0]) (by kernel_rfl) rfl
theorem aap:EI Tryz.prog 73 2 24:=A4 (z:=.agg #[.string ⟨#[]⟩,.int .i64 0]) (by kernel_rfl) rfl
theorem cT (w:World) {p q j:Nat} (h:w.cell? ⟨p,0,none⟩=some (.pointer (some ⟨q,j,none⟩))):(Instr.loadAt 158 (.pointer (some ⟨p,0,none⟩))).run Tryz.prog w=.ok (.pointer (some ⟨q,j,none⟩)) w:=by
 go_simp
theorem hZ (w:World) {p q j:Nat} (h:w.cell? ⟨p,0,none⟩=some (.pointer (some ⟨q,j,none⟩))):(Instr.loadAt 108 (.pointer (some ⟨p,0,none⟩))).run Tryz.prog w=.ok (.pointer (some ⟨q,j,none⟩)) w:=by
 go_simp
theorem dh (w:World) {p q j:Nat} (h:w.cell? ⟨p,0,none⟩=some (.pointer (some ⟨q,j,none⟩))):(Instr.loadAt 74 (.pointer (some ⟨p,0,none⟩))).run Tryz.prog w=.ok (.pointer (some ⟨q,j,none⟩)) w:=by
 go_simp
theorem yC (w:World) {p q j:Nat} (h:w.cell? ⟨p,0,none⟩=some (.pointer (some ⟨q,j,none⟩))):(Instr.loadAt 161 (.pointer (some ⟨p,0,none⟩))).run Tryz.prog w=.ok (.pointer (some ⟨q,j,none⟩)) w:=by
 go_simp
theorem rk (w:World) {p q j:Nat} (h:w.cell? ⟨p,0,none⟩=some (.pointer (some ⟨q,j,none⟩))):(Instr.loadAt 176 (.pointer (some ⟨p,0,none⟩))).run Tryz.prog w=.ok (.pointer (some ⟨q,j,none⟩)) w:=by
 go_simp
theorem yB (w:World) {p q j:Nat} (h:w.cell? ⟨p,0,none⟩=some (.pointer (some ⟨q,j,none⟩))):(Instr.loadAt 177 (.pointer (some ⟨p,0,none⟩))).run Tryz.prog w=.ok (.pointer (some ⟨q,j,none⟩)) w:=by
 go_simp
theorem rl (w:World) {p j n c:Nat}{a:Option Addr} (h:w.cell? ⟨p,j,none⟩=some (.slice a n c)):(Instr.loadAt 46 (.pointer (some ⟨p,j,none⟩))).run Tryz.prog w=.ok (.slice a n c) w:=by
 go_simp
theorem qT (w:World) {p j n c:Nat}{a:Option Addr}{u:Value} (h:w.cell? ⟨p,j,none⟩=some u) (hf:w.frozen? ⟨p,j,none⟩=false):(Instr.storeAt 46 (.pointer (some ⟨p,j,none⟩)) (.slice a n c)).run Tryz.prog w=.ok () (w.setCell ⟨p,j,none⟩ (.slice a n c)):=by
 go_simp
theorem xq (w:World) {p j n c:Nat}{a:Option Addr} (h:w.cell? ⟨p,j,none⟩=some (.slice a n c)):(Instr.loadAt 22 (.pointer (some ⟨p,j,none⟩))).run Tryz.prog w=.ok (.slice a n c) w:=by
 go_simp
theorem Bo (w:World) {p j n c:Nat}{a:Option Addr}{u:Value} (h:w.cell? ⟨p,j,none⟩=some u) (hf:w.frozen? ⟨p,j,none⟩=false):(Instr.storeAt 22 (.pointer (some ⟨p,j,none⟩)) (.slice a n c)).run Tryz.prog w=.ok () (w.setCell ⟨p,j,none⟩ (.slice a n c)):=by
 go_simp
theorem xt (w:World) {p j n c:Nat}{a:Option Addr} (h:w.cell? ⟨p,j,none⟩=some (.slice a n c)):(Instr.loadAt 24 (.pointer (some ⟨p,j,none⟩))).run Tryz.prog w=.ok (.slice a n c) w:=by
 go_simp
theorem xh (w:World) {p j n c:Nat}{a:Option Addr}{u:Value} (h:w.cell? ⟨p,j,none⟩=some u) (hf:w.frozen? ⟨p,j,none⟩=false):(Instr.storeAt 24 (.pointer (some ⟨p,j,none⟩)) (.slice a n c)).run Tryz.prog w=.ok () (w.setCell ⟨p,j,none⟩ (.slice a n c)):=by
 go_simp
theorem DL (w:World) {p j n c:Nat}{a:Option Addr} (h:w.cell? ⟨p,j,none⟩=some (.slice a n c)):(Instr.loadAt 25 (.pointer (some ⟨p,j,none⟩))).run Tryz.prog w=.ok (.slice a n c) w:=by
 go_simp
theorem Di (w:World) {p j n c:Nat}{a:Option Addr}{u:Value} (h:w.cell? ⟨p,j,none⟩=some u) (hf:w.frozen? ⟨p,j,none⟩=false):(Instr.storeAt 25 (.pointer (some ⟨p,j,none⟩)) (.slice a n c)).run Tryz.prog w=.ok () (w.setCell ⟨p,j,none⟩ (.slice a n c)):=by
 go_simp
theorem Ki (w:World) {p j n c:Nat}{a:Option Addr} (h:w.cell? ⟨p,j,none⟩=some (.slice a n c)):(Instr.loadAt 47 (.pointer (some ⟨p,j,none⟩))).run Tryz.prog w=.ok (.slice a n c) w:=by
 go_simp
theorem JS (w:World) {p j n c:Nat}{a:Option Addr}{u:Value} (h:w.cell? ⟨p,j,none⟩=some u) (hf:w.frozen? ⟨p,j,none⟩=false):(Instr.storeAt 47 (.pointer (some ⟨p,j,none⟩)) (.slice a n c)).run Tryz.prog w=.ok () (w.setCell ⟨p,j,none⟩ (.slice a n c)):=by
 go_simp
theorem RJ (w:World) {p j n c:Nat}{a:Option Addr} (h:w.cell? ⟨p,j,none⟩=some (.slice a n c)):(Instr.loadAt 69 (.pointer (some ⟨p,j,none⟩))).run Tryz.prog w=.ok (.slice a n c) w:=by
 go_simp
theorem QW (w:World) {p j n c:Nat}{a:Option Addr}{u:Value} (h:w.cell? ⟨p,j,none⟩=some u) (hf:w.frozen? ⟨p,j,none⟩=false):(Instr.storeAt 69 (.pointer (some ⟨p,j,none⟩)) (.slice a n c)).run Tryz.prog w=.ok () (w.setCell ⟨p,j,none⟩ (.slice a n c)):=by
 go_simp
theorem jB (w:World) {p:Nat}:(Instr.fieldAt 49 (.pointer (some ⟨p,0,none⟩)) 1).run Tryz.prog w=.ok (.pointer (some ⟨p,1,none⟩)) w:=by
 go_simp
theorem B9 (w:World) {p:Nat}:(Instr.fieldAt 49 (.pointer (some ⟨p,0,none⟩)) 2).run Tryz.prog w=.ok (.pointer (some ⟨p,2,none⟩)) w:=by
 go_simp
theorem xw (w:World) {p:Nat}:(Instr.fieldAt 49 (.pointer (some ⟨p,0,none⟩)) 3).run Tryz.prog w=.ok (.pointer (some ⟨p,3,none⟩)) w:=by
 go_simp
theorem I0 (w:World) {p:Nat}:(Instr.fieldAt 49 (.pointer (some ⟨p,0,none⟩)) 4).run Tryz.prog w=.ok (.pointer (some ⟨p,4,none⟩)) w:=by
 go_simp
theorem Sw (w:World) {p:Nat}:(Instr.fieldAt 49 (.pointer (some ⟨p,0,none⟩)) 5).run Tryz.prog w=.ok (.pointer (some ⟨p,5,none⟩)) w:=by
 go_simp
theorem Su (w:World) {p:Nat}:(Instr.fieldAt 49 (.pointer (some ⟨p,0,none⟩)) 6).run Tryz.prog w=.ok (.pointer (some ⟨p,6,none⟩)) w:=by
 go_simp
theorem Ea (w:World) {p:Nat}:(Instr.fieldAt 27 (.pointer (some ⟨p,0,none⟩)) 1).run Tryz.prog w=.ok (.pointer (some ⟨p,1,none⟩)) w:=by
 go_simp
theorem rJ (w:World) {p:Nat}:(Instr.fieldAt 27 (.pointer (some ⟨p,0,none⟩)) 2).run Tryz.prog w=.ok (.pointer (some ⟨p,2,none⟩)) w:=by
 go_simp
theorem D' (w:World) {p:Nat}:(Instr.fieldAt 27 (.pointer (some ⟨p,0,none⟩)) 3).run Tryz.prog w=.ok (.pointer (some ⟨p,3,none⟩)) w:=by
 go_simp
theorem AZ (w:World) {p:Nat}:(Instr.fieldAt 71 (.pointer (some ⟨p,0,none⟩)) 1).run Tryz.prog w=.ok (.pointer (some ⟨p,1,none⟩)) w:=by
 go_simp
theorem KW (w:World) {p:Nat}:(Instr.fieldAt 71 (.pointer (some ⟨p,0,none⟩)) 2).run Tryz.prog w=.ok (.pointer (some ⟨p,2,none⟩)) w:=by
 go_simp
theorem KV (w:World) {p:Nat}:(Instr.fieldAt 71 (.pointer (some ⟨p,0,none⟩)) 3).run Tryz.prog w=.ok (.pointer (some ⟨p,3,none⟩)) w:=by
 go_simp
theorem rV (w:World) (vs:Array Value):(callFunc 151 vs).run Tryz.prog w=.ok (.enter 151 vs) w:=by
 have hn:¬Tryz.f151.name = "runtime.NumGoroutine" := by decide +kernel
 have hb:Tryz.f151.body.isSome=true:=by kernel_rfl
 obtain ⟨c,hc⟩:=zG hb
 simp[callFunc,Tryz.func151,hn,hc]
theorem ze (w:World) (vs:Array Value):(callFunc 154 vs).run Tryz.prog w=.ok (.enter 154 vs) w:=by
 have hn:¬Tryz.f154.name = "runtime.NumGoroutine" := by decide +kernel
 have hb:Tryz.f154.body.isSome=true:=by kernel_rfl
 obtain ⟨c,hc⟩:=zG hb
 simp[callFunc,Tryz.func154,hn,hc]
theorem A9 (w:World) (vs:Array Value):(callFunc 127 vs).run Tryz.prog w=.ok (.enter 127 vs) w:=by
 have hn:¬Tryz.f127.name = "runtime.NumGoroutine" := by decide +kernel
 have hb:Tryz.f127.body.isSome=true:=by kernel_rfl
 obtain ⟨c,hc⟩:=zG hb
 simp[callFunc,Tryz.func127,hn,hc]
theorem Lb (w:World) (vs:Array Value):(callFunc 130 vs).run Tryz.prog w=.ok (.enter 130 vs) w:=by
 have hn:¬Tryz.f130.name = "runtime.NumGoroutine" := by decide +kernel
 have hb:Tryz.f130.body.isSome=true:=by kernel_rfl
 obtain ⟨c,hc⟩:=zG hb
 simp[callFunc,Tryz.func130,hn,hc]
theorem Ep (w:World) (vs:Array Value):(callFunc 105 vs).run Tryz.prog w=.ok (.enter 105 vs) w:=by
 have hn:¬Tryz.f105.name = "runtime.NumGoroutine" := by decide +kernel
 have hb:Tryz.f105.body.isSome=true:=by kernel_rfl
 obtain ⟨c,hc⟩:=zG hb
 simp[callFunc,Tryz.func105,hn,hc]
theorem Co (w:World) (vs:Array Value):(callFunc 101 vs).run Tryz.prog w=.ok (.enter 101 vs) w:=by
 have hn:¬Tryz.f101.name = "runtime.NumGoroutine" := by decide +kernel
 have hb:Tryz.f101.body.isSome=true:=by kernel_rfl
 obtain ⟨c,hc⟩:=zG hb
 simp[callFunc,Tryz.func101,hn,hc]
theorem lL (w:World) (vs:Array Value):(callFunc 103 vs).run Tryz.prog w=.ok (.enter 103 vs) w:=by
 have hn:¬Tryz.f103.name = "runtime.NumGoroutine" := by decide +kernel
 have hb:Tryz.f103.body.isSome=true:=by kernel_rfl
 obtain ⟨c,hc⟩:=zG hb
 simp[callFunc,Tryz.func103,hn,hc]
theorem Pr (w:World) (vs:Array Value):(callFunc 123 vs).run Tryz.prog w=.ok (.enter 123 vs) w:=by
 have hn:¬Tryz.f123.name = "runtime.NumGoroutine" := by decide +kernel
 have hb:Tryz.f123.body.isSome=true:=by kernel_rfl
 obtain ⟨c,hc⟩:=zG hb
 simp[callFunc,Tryz.func123,hn,hc]
theorem SG (w:World) (vs:Array Value):(callFunc 172 vs).run Tryz.prog w=.ok (.enter 172 vs) w:=by
 have hn:¬Tryz.f172.name = "runtime.NumGoroutine" := by decide +kernel
 have hb:Tryz.f172.body.isSome=true:=by kernel_rfl
 obtain ⟨c,hc⟩:=zG hb
 simp[callFunc,Tryz.func172,hn,hc]
theorem Cp (w:World) (vs:Array Value):(callFunc 174 vs).run Tryz.prog w=.ok (.enter 174 vs) w:=by
 have hn:¬Tryz.f174.name = "runtime.NumGoroutine" := by decide +kernel
 have hb:Tryz.f174.body.isSome=true:=by kernel_rfl
 obtain ⟨c,hc⟩:=zG hb
 simp[callFunc,Tryz.func174,hn,hc]
theorem Wv (w:World) (d:Fd):(Instr.buildSlice 46 1 #[(0,d.val)]).run Tryz.prog w=.ok (.slice (some ⟨w.heap.size,0,none⟩) 1 1) (w.alloc (.cells d.val.cells 45)):=by
 unfold Fd.val Fd.arr Value.cells
 go_simp
theorem Wu (w:World) (x:ByteArray):(Instr.buildSlice 22 1 #[(0,.string x)]).run Tryz.prog w=.ok (.slice (some ⟨w.heap.size,0,none⟩) 1 1) (w.alloc (.cells (Value.string x).cells 9)):=by
 unfold Value.cells
 go_simp
theorem Wt (w:World) (p:ByteArray×Int):(Instr.buildSlice 69 1 #[(0,Qv p)]).run Tryz.prog w=.ok (.slice (some ⟨w.heap.size,0,none⟩) 1 1) (w.alloc (.cells (Qv p).cells 73)):=by
 unfold Qv Value.cells
 go_simp
theorem Pz (w:World) (p:Int×Int):(Instr.buildSlice 47 1 #[(0,JX p)]).run Tryz.prog w=.ok (.slice (some ⟨w.heap.size,0,none⟩) 1 1) (w.alloc (.cells (JX p).cells 98)):=by
 unfold JX Value.cells
 go_simp
theorem SK (w:World) (x:ByteArray) (v1 v2 v3:Value) (h1:∃a n c,v1=.slice a n c) (h2:∃a n c,v2=.slice a n c) (h3:∃a n c,v3=.slice a n c):(Instr.buildSlice 25 1 #[(0,.agg #[.string x,v1,v2,v3])]).run Tryz.prog w=.ok (.slice (some ⟨w.heap.size,0,none⟩) 1 1) (w.alloc (.cells (Value.agg #[.string x,v1,v2,v3]).cells 71)):=by
 obtain ⟨_,_,_,rfl⟩:=h1
 obtain ⟨_,_,_,rfl⟩:=h2
 obtain ⟨_,_,_,rfl⟩:=h3
 unfold Value.cells
 go_simp
theorem PC (w:World) (x:ByteArray) (v1 v2 v3 v4 v5 v6:Value) (h1:∃a n c,v1=.slice a n c) (h2:∃a n c,v2=.slice a n c) (h3:∃a n c,v3=.slice a n c) (h4:∃a n c,v4=.slice a n c) (h5:∃a n c,v5=.slice a n c) (h6:∃a n c,v6=.slice a n c):(Instr.buildSlice 24 1 #[(0,.agg #[.string x,v1,v2,v3,v4,v5,v6])]).run Tryz.prog w=.ok (.slice (some ⟨w.heap.size,0,none⟩) 1 1) (w.alloc (.cells (Value.agg #[.string x,v1,v2,v3,v4,v5,v6]).cells 49)):=by
 obtain ⟨_,_,_,rfl⟩:=h1
 obtain ⟨_,_,_,rfl⟩:=h2
 obtain ⟨_,_,_,rfl⟩:=h3
 obtain ⟨_,_,_,rfl⟩:=h4
 obtain ⟨_,_,_,rfl⟩:=h5
 obtain ⟨_,_,_,rfl⟩:=h6
 unfold Value.cells
 go_simp
theorem aU {w:World}{bs e z n:Nat}{v:Value}{xs:List Value} (h:w.ownsRow bs e z v n xs):∃a n c,v=.slice a n c:=by
 rcases h.2 with ⟨rfl,_⟩|⟨g,c,_,rfl,_⟩
 ·exact ⟨_,_,_,rfl⟩
 ·exact ⟨_,_,_,rfl⟩
theorem ef {w:World}{gy:Nat}{x:Value}{t:TypeId} (h:w.heap[gy]?=some (.cells x.cells t (0,0))):∀(j:Nat) (u:Value),x.cells.toList[j]?=some u→w.cell? ((⟨gy,0,none⟩:Addr).add j)=some u:=by
 intro j u hj
 rw[show (⟨gy,0,none⟩:Addr).add j=⟨gy,j,none⟩ by simp[Addr.add];exact fun e=>e.symm,cell_of_row _ _ _ _ _ _ h]
 simpa using hj
def Fit {α:Type} (St:TypeId) (sl:Slot) (bt:Nat) (N1:α→Value→(Nat→Prop)→World→Prop):Prop:=EI Tryz.prog sl.t sl.sz bt∧Tryz.prog.underlying St=some (.slice sl.t)∧0<sl.sz∧bt≤1000∧∀a x P w,N1 a x P w→x.cells.size=sl.sz∧(∀u ∈ x.cells.toList,u.oneCell'=true)∧∀w',(Instr.buildSlice St 1 #[(0,x)]).run Tryz.prog w'=.ok (.slice (some ⟨w'.heap.size,0,none⟩) 1 1) (w'.alloc (.cells x.cells sl.t))
theorem rI {sl:Slot} (h1:sl.t=45) (h2:sl.sz=6):Fit 46 sl 72 (fun (a:Fd) x _ _=>x=a.val):=by
 unfold Fit
 rw[h1,h2]
 refine ⟨aar,by kernel_rfl,by decide,by decide,?_⟩
 rintro a x P w rfl
 refine ⟨rfl,?_,fun w'=>Wv w' a⟩
 intro u hu
 simp only[Fd.val,Fd.arr,Value.cells,List.mem_cons,List.not_mem_nil,or_false] at hu
 rcases hu with rfl|rfl|rfl|rfl|rfl|rfl<;>rfl
theorem B8 {sl:Slot} (h1:sl.t=9) (h2:sl.sz=1):Fit 22 sl 16 (fun (a:ByteArray) x _ _=>x=Value.string a):=by
 unfold Fit
 rw[h1,h2]
 refine ⟨aaq,by kernel_rfl,by decide,by decide,?_⟩
 rintro a x P w rfl
 refine ⟨rfl,?_,fun w'=>Wu w' a⟩
 intro u hu
 simp only[Value.cells,List.mem_cons,List.not_mem_nil,or_false] at hu
 rcases hu with rfl;rfl
theorem Sq {sl:Slot} (h1:sl.t=73) (h2:sl.sz=2):Fit 69 sl 24 (fun (a:ByteArray×Int) x _ _=>x=Qv a):=by
 unfold Fit
 rw[h1,h2]
 refine ⟨aap,by kernel_rfl,by decide,by decide,?_⟩
 rintro a x P w rfl
 refine ⟨rfl,?_,fun w'=>Wt w' a⟩
 intro u hu
 simp only[Qv,Value.cells,List.mem_cons,List.not_mem_nil,or_false] at hu
 rcases hu with rfl|rfl<;>rfl
theorem KU {sl:Slot} (h1:sl.t=98) (h2:sl.sz=2):Fit 47 sl 16 (fun (a:Int×Int) x _ _=>x=JX a):=by
 unfold Fit
 rw[h1,h2]
 refine ⟨SA,by kernel_rfl,by decide,by decide,?_⟩
 rintro a x P w rfl
 refine ⟨rfl,?_,fun w'=>Pz w' a⟩
 intro u hu
 simp only[JX,Value.cells,List.mem_cons,List.not_mem_nil,or_false] at hu
 rcases hu with rfl|rfl<;>rfl
def NE (a:En) (x:Value) (P:Nat→Prop) (w:World):Prop:=∃cs:Array Value,x=.agg cs∧fE P w cs.toList [a]
theorem AF (a:En) (x:Value):aQ (NE a x):=by
 rintro P P' w w' hg ⟨cs,rfl,h⟩
 exact ⟨cs,rfl,eO _ _ P P' w w' hg h⟩
theorem na {v:Value} (h:∃a n c,v=.slice a n c):v.oneCell'=true:=by
 obtain ⟨_,_,_,rfl⟩:=h
 rfl
theorem OO {sl:Slot} (h1:sl.t=71) (h2:sl.sz=4):Fit 25 sl 88 NE:=by
 unfold Fit
 rw[h1,h2]
 refine ⟨Wh,by kernel_rfl,by decide,by decide,?_⟩
 rintro a x P w ⟨⟨l⟩,rfl,h⟩
 cases h with
 |cons hv hr hg ht =>
  cases ht
  refine ⟨rfl,?_,fun w'=>SK w' _ _ _ _ (aU hv.1) (aU hr.1) (aU hg.1)⟩
  intro u hu
  simp only[Value.cells,List.mem_cons,List.not_mem_nil,or_false] at hu
  rcases hu with rfl|rfl|rfl|rfl
  ·rfl
  ·exact na (aU hv.1)
  ·exact na (aU hr.1)
  ·exact na (aU hg.1)
def NM (a:Ms) (x:Value) (P:Nat→Prop) (w:World):Prop:=∃cs:Array Value,x=.agg cs∧eT P w cs.toList [a]
theorem AE (a:Ms) (x:Value):aQ (NM a x):=by
 rintro P P' w w' hg ⟨cs,rfl,h⟩
 exact ⟨cs,rfl,eX _ _ P P' w w' hg h⟩
theorem Sr {sl:Slot} (h1:sl.t=49) (h2:sl.sz=7):Fit 24 sl 160 NM:=by
 unfold Fit
 rw[h1,h2]
 refine ⟨Pa,by kernel_rfl,by decide,by decide,?_⟩
 rintro a x P w ⟨⟨l⟩,rfl,h⟩
 cases h with
 |cons hf ho hm yK he AU hr hg ht =>
  cases ht
  refine ⟨rfl,?_,fun w'=>PC w' _ _ _ _ _ _ _ (aU hf.1) (aU ho.1) (aU hm.1) (aU he.1) (aU hr.1) (aU hg.1)⟩
  intro u hu
  simp only[Value.cells,List.mem_cons,List.not_mem_nil,or_false] at hu
  rcases hu with rfl|rfl|rfl|rfl|rfl|rfl|rfl
  ·rfl
  ·exact na (aU hf.1)
  ·exact na (aU ho.1)
  ·exact na (aU hm.1)
  ·exact na (aU he.1)
  ·exact na (aU hr.1)
  ·exact na (aU hg.1)
end Go.Proofs.YtjophoclfccmcaaGreatDoor

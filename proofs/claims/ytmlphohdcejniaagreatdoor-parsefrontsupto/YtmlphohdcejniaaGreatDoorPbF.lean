import Derived.Test.YtmlphohdcejniaaGreatDoorM16
namespace Go.Proofs.YtmlphohdcejniaaGreatDoor
open Go.RowKit
attribute [local go_sem ↓] Go.wp_at_zero Go.wp_at_succ
theorem ZC:EI Tryz.prog 70 6 72:=AJ (z:=.agg #[.int .i64 0,.string ⟨#[]⟩,.string ⟨#[]⟩,.string ⟨#[]⟩,.int .i64 0,.int .i64 0]) (by kernel_rfl) rfl
theorem ZB:EI Tryz.prog 9 1 16:=AJ (z:=.string ⟨#[]⟩) (by kernel_rfl) rfl
theorem Oh:EI Tryz.prog 64 7 160:=AJ (z:=.agg #[.string ⟨#[]⟩,.slice none 0 0,.slice none 0 0,.slice none 0 0,.slice none 0 0,.slice none 0 0,.slice none 0 0]) (by kernel_rfl) rfl
theorem Vy:EI Tryz.prog 68 4 88:=AJ (z:=.agg #[.string ⟨#[]⟩,.slice none 0 0,.slice none 0 0,.slice none 0 0]) (by kernel_rfl) rfl
theorem RE:EI Tryz.prog 111 2 16:=AJ (z:=.agg #[.int .i64 0,.int .i64 0]) (by kernel_rfl) rfl
theorem ZA:EI Tryz.prog 94 2 24:=AJ (z:=.agg #[.string ⟨#[]⟩,.int .i64 0]) (by kernel_rfl) rfl
theorem cD (w:World) {p q j:Nat} (h:w.cell? ⟨p,0,none⟩=some (.pointer (some ⟨q,j,none⟩))):(Instr.loadAt 167 (.pointer (some ⟨p,0,none⟩))).run Tryz.prog w=.ok (.pointer (some ⟨q,j,none⟩)) w:=by
 go_simp
theorem gR (w:World) {p q j:Nat} (h:w.cell? ⟨p,0,none⟩=some (.pointer (some ⟨q,j,none⟩))):(Instr.loadAt 135 (.pointer (some ⟨p,0,none⟩))).run Tryz.prog w=.ok (.pointer (some ⟨q,j,none⟩)) w:=by
 go_simp
theorem cV (w:World) {p q j:Nat} (h:w.cell? ⟨p,0,none⟩=some (.pointer (some ⟨q,j,none⟩))):(Instr.loadAt 107 (.pointer (some ⟨p,0,none⟩))).run Tryz.prog w=.ok (.pointer (some ⟨q,j,none⟩)) w:=by
 go_simp
theorem xz (w:World) {p q j:Nat} (h:w.cell? ⟨p,0,none⟩=some (.pointer (some ⟨q,j,none⟩))):(Instr.loadAt 170 (.pointer (some ⟨p,0,none⟩))).run Tryz.prog w=.ok (.pointer (some ⟨q,j,none⟩)) w:=by
 go_simp
theorem qs (w:World) {p q j:Nat} (h:w.cell? ⟨p,0,none⟩=some (.pointer (some ⟨q,j,none⟩))):(Instr.loadAt 197 (.pointer (some ⟨p,0,none⟩))).run Tryz.prog w=.ok (.pointer (some ⟨q,j,none⟩)) w:=by
 go_simp
theorem xy (w:World) {p q j:Nat} (h:w.cell? ⟨p,0,none⟩=some (.pointer (some ⟨q,j,none⟩))):(Instr.loadAt 198 (.pointer (some ⟨p,0,none⟩))).run Tryz.prog w=.ok (.pointer (some ⟨q,j,none⟩)) w:=by
 go_simp
theorem qt (w:World) {p j n c:Nat}{a:Option Addr} (h:w.cell? ⟨p,j,none⟩=some (.slice a n c)):(Instr.loadAt 61 (.pointer (some ⟨p,j,none⟩))).run Tryz.prog w=.ok (.slice a n c) w:=by
 go_simp
theorem qg (w:World) {p j n c:Nat}{a:Option Addr}{u:Value} (h:w.cell? ⟨p,j,none⟩=some u) (hf:w.frozen? ⟨p,j,none⟩=false):(Instr.storeAt 61 (.pointer (some ⟨p,j,none⟩)) (.slice a n c)).run Tryz.prog w=.ok () (w.setCell ⟨p,j,none⟩ (.slice a n c)):=by
 go_simp
theorem vE (w:World) {p j n c:Nat}{a:Option Addr} (h:w.cell? ⟨p,j,none⟩=some (.slice a n c)):(Instr.loadAt 22 (.pointer (some ⟨p,j,none⟩))).run Tryz.prog w=.ok (.slice a n c) w:=by
 go_simp
theorem Ba (w:World) {p j n c:Nat}{a:Option Addr}{u:Value} (h:w.cell? ⟨p,j,none⟩=some u) (hf:w.frozen? ⟨p,j,none⟩=false):(Instr.storeAt 22 (.pointer (some ⟨p,j,none⟩)) (.slice a n c)).run Tryz.prog w=.ok () (w.setCell ⟨p,j,none⟩ (.slice a n c)):=by
 go_simp
theorem vF (w:World) {p j n c:Nat}{a:Option Addr} (h:w.cell? ⟨p,j,none⟩=some (.slice a n c)):(Instr.loadAt 23 (.pointer (some ⟨p,j,none⟩))).run Tryz.prog w=.ok (.slice a n c) w:=by
 go_simp
theorem vu (w:World) {p j n c:Nat}{a:Option Addr}{u:Value} (h:w.cell? ⟨p,j,none⟩=some u) (hf:w.frozen? ⟨p,j,none⟩=false):(Instr.storeAt 23 (.pointer (some ⟨p,j,none⟩)) (.slice a n c)).run Tryz.prog w=.ok () (w.setCell ⟨p,j,none⟩ (.slice a n c)):=by
 go_simp
theorem DH (w:World) {p j n c:Nat}{a:Option Addr} (h:w.cell? ⟨p,j,none⟩=some (.slice a n c)):(Instr.loadAt 24 (.pointer (some ⟨p,j,none⟩))).run Tryz.prog w=.ok (.slice a n c) w:=by
 go_simp
theorem C7 (w:World) {p j n c:Nat}{a:Option Addr}{u:Value} (h:w.cell? ⟨p,j,none⟩=some u) (hf:w.frozen? ⟨p,j,none⟩=false):(Instr.storeAt 24 (.pointer (some ⟨p,j,none⟩)) (.slice a n c)).run Tryz.prog w=.ok () (w.setCell ⟨p,j,none⟩ (.slice a n c)):=by
 go_simp
theorem JN (w:World) {p j n c:Nat}{a:Option Addr} (h:w.cell? ⟨p,j,none⟩=some (.slice a n c)):(Instr.loadAt 62 (.pointer (some ⟨p,j,none⟩))).run Tryz.prog w=.ok (.slice a n c) w:=by
 go_simp
theorem Jk (w:World) {p j n c:Nat}{a:Option Addr}{u:Value} (h:w.cell? ⟨p,j,none⟩=some u) (hf:w.frozen? ⟨p,j,none⟩=false):(Instr.storeAt 62 (.pointer (some ⟨p,j,none⟩)) (.slice a n c)).run Tryz.prog w=.ok () (w.setCell ⟨p,j,none⟩ (.slice a n c)):=by
 go_simp
theorem QC (w:World) {p j n c:Nat}{a:Option Addr} (h:w.cell? ⟨p,j,none⟩=some (.slice a n c)):(Instr.loadAt 66 (.pointer (some ⟨p,j,none⟩))).run Tryz.prog w=.ok (.slice a n c) w:=by
 go_simp
theorem P7 (w:World) {p j n c:Nat}{a:Option Addr}{u:Value} (h:w.cell? ⟨p,j,none⟩=some u) (hf:w.frozen? ⟨p,j,none⟩=false):(Instr.storeAt 66 (.pointer (some ⟨p,j,none⟩)) (.slice a n c)).run Tryz.prog w=.ok () (w.setCell ⟨p,j,none⟩ (.slice a n c)):=by
 go_simp
theorem ja (w:World) {p:Nat}:(Instr.fieldAt 64 (.pointer (some ⟨p,0,none⟩)) 1).run Tryz.prog w=.ok (.pointer (some ⟨p,1,none⟩)) w:=by
 go_simp
theorem B0 (w:World) {p:Nat}:(Instr.fieldAt 64 (.pointer (some ⟨p,0,none⟩)) 2).run Tryz.prog w=.ok (.pointer (some ⟨p,2,none⟩)) w:=by
 go_simp
theorem vK (w:World) {p:Nat}:(Instr.fieldAt 64 (.pointer (some ⟨p,0,none⟩)) 3).run Tryz.prog w=.ok (.pointer (some ⟨p,3,none⟩)) w:=by
 go_simp
theorem Iv (w:World) {p:Nat}:(Instr.fieldAt 64 (.pointer (some ⟨p,0,none⟩)) 4).run Tryz.prog w=.ok (.pointer (some ⟨p,4,none⟩)) w:=by
 go_simp
theorem Rv (w:World) {p:Nat}:(Instr.fieldAt 64 (.pointer (some ⟨p,0,none⟩)) 5).run Tryz.prog w=.ok (.pointer (some ⟨p,5,none⟩)) w:=by
 go_simp
theorem Ru (w:World) {p:Nat}:(Instr.fieldAt 64 (.pointer (some ⟨p,0,none⟩)) 6).run Tryz.prog w=.ok (.pointer (some ⟨p,6,none⟩)) w:=by
 go_simp
theorem Ea (w:World) {p:Nat}:(Instr.fieldAt 26 (.pointer (some ⟨p,0,none⟩)) 1).run Tryz.prog w=.ok (.pointer (some ⟨p,1,none⟩)) w:=by
 go_simp
theorem qH (w:World) {p:Nat}:(Instr.fieldAt 26 (.pointer (some ⟨p,0,none⟩)) 2).run Tryz.prog w=.ok (.pointer (some ⟨p,2,none⟩)) w:=by
 go_simp
theorem D9 (w:World) {p:Nat}:(Instr.fieldAt 26 (.pointer (some ⟨p,0,none⟩)) 3).run Tryz.prog w=.ok (.pointer (some ⟨p,3,none⟩)) w:=by
 go_simp
theorem AF (w:World) {p:Nat}:(Instr.fieldAt 68 (.pointer (some ⟨p,0,none⟩)) 1).run Tryz.prog w=.ok (.pointer (some ⟨p,1,none⟩)) w:=by
 go_simp
theorem Kc (w:World) {p:Nat}:(Instr.fieldAt 68 (.pointer (some ⟨p,0,none⟩)) 2).run Tryz.prog w=.ok (.pointer (some ⟨p,2,none⟩)) w:=by
 go_simp
theorem Kb (w:World) {p:Nat}:(Instr.fieldAt 68 (.pointer (some ⟨p,0,none⟩)) 3).run Tryz.prog w=.ok (.pointer (some ⟨p,3,none⟩)) w:=by
 go_simp
theorem qN (w:World) (vs:Array Value):(callFunc 158 vs).run Tryz.prog w=.ok (.enter 158 vs) w:=by
 have hn:¬Tryz.f158.name = "runtime.NumGoroutine" := by decide +kernel
 have hb:Tryz.f158.body.isSome=true:=by kernel_rfl
 obtain ⟨c,hc⟩:=zG hb
 simp[callFunc,Tryz.func158,hn,hc]
theorem yo (w:World) (vs:Array Value):(callFunc 161 vs).run Tryz.prog w=.ok (.enter 161 vs) w:=by
 have hn:¬Tryz.f161.name = "runtime.NumGoroutine" := by decide +kernel
 have hb:Tryz.f161.body.isSome=true:=by kernel_rfl
 obtain ⟨c,hc⟩:=zG hb
 simp[callFunc,Tryz.func161,hn,hc]
theorem AP (w:World) (vs:Array Value):(callFunc 126 vs).run Tryz.prog w=.ok (.enter 126 vs) w:=by
 have hn:¬Tryz.f126.name = "runtime.NumGoroutine" := by decide +kernel
 have hb:Tryz.f126.body.isSome=true:=by kernel_rfl
 obtain ⟨c,hc⟩:=zG hb
 simp[callFunc,Tryz.func126,hn,hc]
theorem Km (w:World) (vs:Array Value):(callFunc 129 vs).run Tryz.prog w=.ok (.enter 129 vs) w:=by
 have hn:¬Tryz.f129.name = "runtime.NumGoroutine" := by decide +kernel
 have hb:Tryz.f129.body.isSome=true:=by kernel_rfl
 obtain ⟨c,hc⟩:=zG hb
 simp[callFunc,Tryz.func129,hn,hc]
theorem Ep (w:World) (vs:Array Value):(callFunc 103 vs).run Tryz.prog w=.ok (.enter 103 vs) w:=by
 have hn:¬Tryz.f103.name = "runtime.NumGoroutine" := by decide +kernel
 have hb:Tryz.f103.body.isSome=true:=by kernel_rfl
 obtain ⟨c,hc⟩:=zG hb
 simp[callFunc,Tryz.func103,hn,hc]
theorem Ce (w:World) (vs:Array Value):(callFunc 99 vs).run Tryz.prog w=.ok (.enter 99 vs) w:=by
 have hn:¬Tryz.f99.name = "runtime.NumGoroutine" := by decide +kernel
 have hb:Tryz.f99.body.isSome=true:=by kernel_rfl
 obtain ⟨c,hc⟩:=zG hb
 simp[callFunc,Tryz.func99,hn,hc]
theorem lB (w:World) (vs:Array Value):(callFunc 101 vs).run Tryz.prog w=.ok (.enter 101 vs) w:=by
 have hn:¬Tryz.f101.name = "runtime.NumGoroutine" := by decide +kernel
 have hb:Tryz.f101.body.isSome=true:=by kernel_rfl
 obtain ⟨c,hc⟩:=zG hb
 simp[callFunc,Tryz.func101,hn,hc]
theorem Ou (w:World) (vs:Array Value):(callFunc 122 vs).run Tryz.prog w=.ok (.enter 122 vs) w:=by
 have hn:¬Tryz.f122.name = "runtime.NumGoroutine" := by decide +kernel
 have hb:Tryz.f122.body.isSome=true:=by kernel_rfl
 obtain ⟨c,hc⟩:=zG hb
 simp[callFunc,Tryz.func122,hn,hc]
theorem RO (w:World) (vs:Array Value):(callFunc 175 vs).run Tryz.prog w=.ok (.enter 175 vs) w:=by
 have hn:¬Tryz.f175.name = "runtime.NumGoroutine" := by decide +kernel
 have hb:Tryz.f175.body.isSome=true:=by kernel_rfl
 obtain ⟨c,hc⟩:=zG hb
 simp[callFunc,Tryz.func175,hn,hc]
theorem Cf (w:World) (vs:Array Value):(callFunc 177 vs).run Tryz.prog w=.ok (.enter 177 vs) w:=by
 have hn:¬Tryz.f177.name = "runtime.NumGoroutine" := by decide +kernel
 have hb:Tryz.f177.body.isSome=true:=by kernel_rfl
 obtain ⟨c,hc⟩:=zG hb
 simp[callFunc,Tryz.func177,hn,hc]
theorem VI (w:World) (d:Fd):(Instr.buildSlice 61 1 #[(0,d.val)]).run Tryz.prog w=.ok (.slice (some ⟨w.heap.size,0,none⟩) 1 1) (w.alloc (.cells d.val.cells 70)):=by
 unfold Fd.val Fd.arr Value.cells
 go_simp
theorem VH (w:World) (x:ByteArray):(Instr.buildSlice 22 1 #[(0,.string x)]).run Tryz.prog w=.ok (.slice (some ⟨w.heap.size,0,none⟩) 1 1) (w.alloc (.cells (Value.string x).cells 9)):=by
 unfold Value.cells
 go_simp
theorem VG (w:World) (p:ByteArray×Int):(Instr.buildSlice 66 1 #[(0,Pz p)]).run Tryz.prog w=.ok (.slice (some ⟨w.heap.size,0,none⟩) 1 1) (w.alloc (.cells (Pz p).cells 94)):=by
 unfold Pz Value.cells
 go_simp
theorem OG (w:World) (p:Int×Int):(Instr.buildSlice 62 1 #[(0,Qj p)]).run Tryz.prog w=.ok (.slice (some ⟨w.heap.size,0,none⟩) 1 1) (w.alloc (.cells (Qj p).cells 111)):=by
 unfold Qj Value.cells
 go_simp
theorem RU (w:World) (x:ByteArray) (v1 v2 v3:Value) (h1:∃a n c,v1=.slice a n c) (h2:∃a n c,v2=.slice a n c) (h3:∃a n c,v3=.slice a n c):(Instr.buildSlice 24 1 #[(0,.agg #[.string x,v1,v2,v3])]).run Tryz.prog w=.ok (.slice (some ⟨w.heap.size,0,none⟩) 1 1) (w.alloc (.cells (Value.agg #[.string x,v1,v2,v3]).cells 68)):=by
 obtain ⟨_,_,_,rfl⟩:=h1
 obtain ⟨_,_,_,rfl⟩:=h2
 obtain ⟨_,_,_,rfl⟩:=h3
 unfold Value.cells
 go_simp
theorem OH (w:World) (x:ByteArray) (v1 v2 v3 v4 v5 v6:Value) (h1:∃a n c,v1=.slice a n c) (h2:∃a n c,v2=.slice a n c) (h3:∃a n c,v3=.slice a n c) (h4:∃a n c,v4=.slice a n c) (h5:∃a n c,v5=.slice a n c) (h6:∃a n c,v6=.slice a n c):(Instr.buildSlice 23 1 #[(0,.agg #[.string x,v1,v2,v3,v4,v5,v6])]).run Tryz.prog w=.ok (.slice (some ⟨w.heap.size,0,none⟩) 1 1) (w.alloc (.cells (Value.agg #[.string x,v1,v2,v3,v4,v5,v6]).cells 64)):=by
 obtain ⟨_,_,_,rfl⟩:=h1
 obtain ⟨_,_,_,rfl⟩:=h2
 obtain ⟨_,_,_,rfl⟩:=h3
 obtain ⟨_,_,_,rfl⟩:=h4
 obtain ⟨_,_,_,rfl⟩:=h5
 obtain ⟨_,_,_,rfl⟩:=h6
 unfold Value.cells
 go_simp
theorem aL {w:World}{bs e z n:Nat}{v:Value}{xs:List Value} (h:w.ownsRow bs e z v n xs):∃a n c,v=.slice a n c:=by
 rcases h.2 with ⟨rfl,_⟩|⟨g,c,_,rfl,_⟩
 ·exact ⟨_,_,_,rfl⟩
 ·exact ⟨_,_,_,rfl⟩
theorem dL {w:World}{gy:Nat}{x:Value}{t:TypeId} (h:w.heap[gy]?=some (.cells x.cells t (0,0))):∀(j:Nat) (u:Value),x.cells.toList[j]?=some u→w.cell? ((⟨gy,0,none⟩:Addr).add j)=some u:=by
 intro j u hj
 rw[show (⟨gy,0,none⟩:Addr).add j=⟨gy,j,none⟩ by simp[Addr.add];exact fun e=>e.symm,cell_of_row _ _ _ _ _ _ h]
 simpa using hj
def Fit {α:Type} (St:TypeId) (sl:Slot) (bt:Nat) (N1:α→Value→(Nat→Prop)→World→Prop):Prop:=EI Tryz.prog sl.t sl.sz bt∧Tryz.prog.underlying St=some (.slice sl.t)∧0<sl.sz∧bt≤1000∧∀a x P w,N1 a x P w→x.cells.size=sl.sz∧(∀u ∈ x.cells.toList,u.oneCell'=true)∧∀w',(Instr.buildSlice St 1 #[(0,x)]).run Tryz.prog w'=.ok (.slice (some ⟨w'.heap.size,0,none⟩) 1 1) (w'.alloc (.cells x.cells sl.t))
theorem qF {sl:Slot} (h1:sl.t=70) (h2:sl.sz=6):Fit 61 sl 72 (fun (a:Fd) x _ _=>x=a.val):=by
 unfold Fit
 rw[h1,h2]
 refine ⟨ZC,by kernel_rfl,by decide,by decide,?_⟩
 rintro a x P w rfl
 refine ⟨rfl,?_,fun w'=>VI w' a⟩
 intro u hu
 simp only[Fd.val,Fd.arr,Value.cells,List.mem_cons,List.not_mem_nil,or_false] at hu
 rcases hu with rfl|rfl|rfl|rfl|rfl|rfl<;>rfl
theorem BZ {sl:Slot} (h1:sl.t=9) (h2:sl.sz=1):Fit 22 sl 16 (fun (a:ByteArray) x _ _=>x=Value.string a):=by
 unfold Fit
 rw[h1,h2]
 refine ⟨ZB,by kernel_rfl,by decide,by decide,?_⟩
 rintro a x P w rfl
 refine ⟨rfl,?_,fun w'=>VH w' a⟩
 intro u hu
 simp only[Value.cells,List.mem_cons,List.not_mem_nil,or_false] at hu
 rcases hu with rfl;rfl
theorem Rn {sl:Slot} (h1:sl.t=94) (h2:sl.sz=2):Fit 66 sl 24 (fun (a:ByteArray×Int) x _ _=>x=Pz a):=by
 unfold Fit
 rw[h1,h2]
 refine ⟨ZA,by kernel_rfl,by decide,by decide,?_⟩
 rintro a x P w rfl
 refine ⟨rfl,?_,fun w'=>VG w' a⟩
 intro u hu
 simp only[Pz,Value.cells,List.mem_cons,List.not_mem_nil,or_false] at hu
 rcases hu with rfl|rfl<;>rfl
theorem J' {sl:Slot} (h1:sl.t=111) (h2:sl.sz=2):Fit 62 sl 16 (fun (a:Int×Int) x _ _=>x=Qj a):=by
 unfold Fit
 rw[h1,h2]
 refine ⟨RE,by kernel_rfl,by decide,by decide,?_⟩
 rintro a x P w rfl
 refine ⟨rfl,?_,fun w'=>OG w' a⟩
 intro u hu
 simp only[Qj,Value.cells,List.mem_cons,List.not_mem_nil,or_false] at hu
 rcases hu with rfl|rfl<;>rfl
def NE (a:En) (x:Value) (P:Nat→Prop) (w:World):Prop:=∃cs:Array Value,x=.agg cs∧eS P w cs.toList [a]
theorem z7 (a:En) (x:Value):aK (NE a x):=by
 rintro P P' w w' hg ⟨cs,rfl,h⟩
 exact ⟨cs,rfl,cT _ _ P P' w w' hg h⟩
theorem mG {v:Value} (h:∃a n c,v=.slice a n c):v.oneCell'=true:=by
 obtain ⟨_,_,_,rfl⟩:=h
 rfl
theorem NV {sl:Slot} (h1:sl.t=68) (h2:sl.sz=4):Fit 24 sl 88 NE:=by
 unfold Fit
 rw[h1,h2]
 refine ⟨Vy,by kernel_rfl,by decide,by decide,?_⟩
 rintro a x P w ⟨⟨l⟩,rfl,h⟩
 cases h with
 |cons hv hr hg ht =>
  cases ht
  refine ⟨rfl,?_,fun w'=>RU w' _ _ _ _ (aL hv.1) (aL hr.1) (aL hg.1)⟩
  intro u hu
  simp only[Value.cells,List.mem_cons,List.not_mem_nil,or_false] at hu
  rcases hu with rfl|rfl|rfl|rfl
  ·rfl
  ·exact mG (aL hv.1)
  ·exact mG (aL hr.1)
  ·exact mG (aL hg.1)
def NM (a:Ms) (x:Value) (P:Nat→Prop) (w:World):Prop:=∃cs:Array Value,x=.agg cs∧cU P w cs.toList [a]
theorem zZ (a:Ms) (x:Value):aK (NM a x):=by
 rintro P P' w w' hg ⟨cs,rfl,h⟩
 exact ⟨cs,rfl,df _ _ P P' w w' hg h⟩
theorem Rp {sl:Slot} (h1:sl.t=64) (h2:sl.sz=7):Fit 23 sl 160 NM:=by
 unfold Fit
 rw[h1,h2]
 refine ⟨Oh,by kernel_rfl,by decide,by decide,?_⟩
 rintro a x P w ⟨⟨l⟩,rfl,h⟩
 cases h with
 |cons hf ho hm jT he mP hr hg ht =>
  cases ht
  refine ⟨rfl,?_,fun w'=>OH w' _ _ _ _ _ _ _ (aL hf.1) (aL ho.1) (aL hm.1) (aL he.1) (aL hr.1) (aL hg.1)⟩
  intro u hu
  simp only[Value.cells,List.mem_cons,List.not_mem_nil,or_false] at hu
  rcases hu with rfl|rfl|rfl|rfl|rfl|rfl|rfl
  ·rfl
  ·exact mG (aL hf.1)
  ·exact mG (aL ho.1)
  ·exact mG (aL hm.1)
  ·exact mG (aL he.1)
  ·exact mG (aL hr.1)
  ·exact mG (aL hg.1)
end Go.Proofs.YtmlphohdcejniaaGreatDoor

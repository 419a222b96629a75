import Derived.Test.YtghioefalckgoaaGreatDoorQvX
set_option maxHeartbeats 2000000
set_option maxRecDepth 100000
namespace Go.Proofs.YtghioefalckgoaaGreatDoor
open Go.RowKit
attribute [local go_sem ↓] Go.wp_at_zero Go.wp_at_succ
structure EC (w:World) (F:Fl) (vi vm ve:Value) (cm ce:List Value) (B:List Nat):Prop where
 all:∃Bm Be,Ow w 9 1 vi F.bp.length (bj F.bp)∧Ow w 57 7 vm F.ms.length cm∧sZ w cm F.ms Bm∧Ow w 63 4 ve F.es.length ce∧tf w ce F.es Be∧B=gL vi++(gL vm++Bm)++(gL ve++Be)
theorem EC.kept {w w':World}{F:Fl}{vi vm ve:Value}{cm ce:List Value}{B:List Nat}{ob:Option Nat} (h:EC w F vi vm ve cm ce B) (hg:w.grownBy w' ob) (hb:∀b ∈ B,ob≠some b):EC w' F vi vm ve cm ce B:=by
 obtain ⟨⟨Bm,Be,h1,h2,h3,h4,h5,rfl⟩⟩:=h
 exact ⟨⟨Bm,Be,h1.kept hg fun b k=>hb b (by simp[k]),h2.kept hg fun b k=>hb b (by simp[k]),h3.kept hg fun b k=>hb b (by simp[k]),h4.kept hg fun b k=>hb b (by simp[k]),h5.kept hg fun b k=>hb b (by simp[k]),rfl⟩⟩
theorem EC.nU {w:World}{F:Fl}{vi vm ve:Value}{cm ce:List Value}{B:List Nat} (h:EC w F vi vm ve cm ce B):zy w (.agg #[.string F.dj,vi,vm,ve]) F vi vm ve cm ce:=by
 obtain ⟨⟨Bm,Be,h1,h2,h3,h4,h5,rfl⟩⟩:=h
 exact ⟨rfl,h1.rl,h2.rl,h3.nU,h4.rl,h5.nU⟩
def FiQ (w0:World) (F:Fl) (e:Ending) (w:World):Prop:=∃vi vm ve cm ce B,e=.returned (.agg #[.string F.dj,vi,vm,ve])∧EC w (cL F) vi vm ve cm ce B∧lK w0.heap.size w.heap.size B∧Below w0.heap.size w0 w
theorem uI {W:World}{v vi vm ve:Value}{F:Fl}{cm ce:List Value} (vC:zy W v F vi vm ve cm ce) (hs:SrF F) (w0:World) (hw:Below W.heap.size W w0):Calls Tryz.prog 25 #[v] w0 (FiQ w0 F):=by
 obtain ⟨rfl,hi,hm,eI,he,ep⟩:=vC
 have Vu:=hi
 have hm0:=hm
 have he0:=he
 obtain ⟨ai,ci,rfl,-,-⟩:=Vu
 obtain ⟨am,cq,rfl,-,-⟩:=hm0
 obtain ⟨ae,cn,rfl,-,-⟩:=he0
 have k1:=aE w0 (.cells #[.string F.dj,.slice ai F.bp.length ci,.slice am F.ms.length cq,.slice ae F.es.length cn] 26)
 have k2:=aE (w0.alloc (.cells #[.string F.dj,.slice ai F.bp.length ci,.slice am F.ms.length cq,.slice ae F.es.length cn] 26)) (.cells #[.string ⟨#[]⟩,.slice none 0 0,.slice none 0 0,.slice none 0 0] 26)
 rw[zJ] at k2
 have k3:=(World.grownBy_alloc (w0.alloc (.cells #[.string F.dj,.slice ai F.bp.length ci,.slice am F.ms.length cq,.slice ae F.es.length cn] 26)) (.cells #[.string ⟨#[]⟩,.slice none 0 0,.slice none 0 0,.slice none 0 0] 26) none).block w0.heap.size (by rw[zJ];omega) (by simp)
 have k0:Below w0.heap.size w0 ((w0.alloc (.cells #[.string F.dj,.slice ai F.bp.length ci,.slice am F.ms.length cq,.slice ae F.es.length cn] 26)).alloc (.cells #[.string ⟨#[]⟩,.slice none 0 0,.slice none 0 0,.slice none 0 0] 26)):=((zE _ _).alloc (zD _) _).alloc (by rw[zJ];omega) _
 have hT:(fun w:World=>Below w0.heap.size w0 w∧w.heap[w0.heap.size]?=some (.cells #[.string F.dj,.slice ai F.bp.length ci,.slice am F.ms.length cq,.slice ae F.es.length cn] 26 (0,0))∧w.heap[w0.heap.size+1]?=some (.cells #[.string ⟨#[]⟩,.slice none 0 0,.slice none 0 0,.slice none 0 0] 26 (0,0))) (((w0.alloc (.cells #[.string F.dj,.slice ai F.bp.length ci,.slice am F.ms.length cq,.slice ae F.es.length cn] 26)).alloc (.cells #[.string ⟨#[]⟩,.slice none 0 0,.slice none 0 0,.slice none 0 0] 26)).drew):=⟨k0.drew,k3.trans k1,k2⟩
 clear k0 k1 k2 k3
 go_enter Tryz.func25,Tryz.ntmps25
 go_upto_region 1 with fail
 refine wp_region_any (by kernel_rfl) (aV (z:=13) (T:=fun w:World=>Below w0.heap.size w0 w∧w.heap[w0.heap.size]?=some (.cells #[.string F.dj,.slice ai F.bp.length ci,.slice am F.ms.length cq,.slice ae F.es.length cn] 26 (0,0))∧w.heap[w0.heap.size+1]?=some (.cells #[.string ⟨#[]⟩,.slice none 0 0,.slice none 0 0,.slice none 0 0] 26 (0,0))) _ _ _ _ ?_)
 try (change ba _ _ _ _ _ _ _ _ _ (World.drew _))
 refine o4 (P:=fun w:World=>Below w0.heap.size w0 w∧w.heap[w0.heap.size]?=some (.cells #[.string F.dj,.slice ai F.bp.length ci,.slice am F.ms.length cq,.slice ae F.es.length cn] 26 (0,0))∧w.heap[w0.heap.size+1]?=some (.cells #[.string ⟨#[]⟩,.slice none 0 0,.slice none 0 0,.slice none 0 0] 26 (0,0))) (G:=fun w=>ba _ _ _ _ _ _ _ _ _ w) hT (fun wd hT=>?_)
 refine aw 0 (.pointer (some ⟨w0.heap.size,0,none⟩)) 3 rfl rfl (Or.inl ⟨by rfl,fun w hw=>by go_simp⟩) hT ?_
 simp only[Act.put,zL,zM,zN]
 refine aw 1 (.string F.dj) 4 rfl rfl (Or.inl ⟨by rfl,fun w hw=>by have c:w.cell? ⟨w0.heap.size,0,none⟩=some (.string F.dj):=cell_of_row _ _ _ _ _ _ hw.2.1;go_simp⟩) hT ?_
 simp only[Act.put,zL,zM,zN]
 refine aw 3 (.pointer (some ⟨w0.heap.size,1,none⟩)) 6 rfl rfl (Or.inl ⟨by rfl,fun w hw=>by go_simp⟩) hT ?_
 simp only[Act.put,zL,zM,zN]
 refine aw 4 (.slice ai F.bp.length ci) 7 rfl rfl (Or.inl ⟨by rfl,fun w hw=>by have c:w.cell? ⟨w0.heap.size,1,none⟩=some (.slice ai F.bp.length ci):=cell_of_row _ _ _ _ _ _ hw.2.1;go_simp⟩) hT ?_
 simp only[Act.put,zL,zM,zN]
 refine aw 6 (.pointer (some ⟨w0.heap.size,2,none⟩)) 9 rfl rfl (Or.inl ⟨by rfl,fun w hw=>by go_simp⟩) hT ?_
 simp only[Act.put,zL,zM,zN]
 refine aw 7 (.slice am F.ms.length cq) 10 rfl rfl (Or.inl ⟨by rfl,fun w hw=>by have c:w.cell? ⟨w0.heap.size,2,none⟩=some (.slice am F.ms.length cq):=cell_of_row _ _ _ _ _ _ hw.2.1;go_simp⟩) hT ?_
 simp only[Act.put,zL,zM,zN]
 refine aw 9 (.pointer (some ⟨w0.heap.size,3,none⟩)) 12 rfl rfl (Or.inl ⟨by rfl,fun w hw=>by go_simp⟩) hT ?_
 simp only[Act.put,zL,zM,zN]
 refine aw 10 (.slice ae F.es.length cn) 13 rfl rfl (Or.inl ⟨by rfl,fun w hw=>by have c:w.cell? ⟨w0.heap.size,3,none⟩=some (.slice ae F.es.length cn):=cell_of_row _ _ _ _ _ _ hw.2.1;go_simp⟩) hT ?_
 simp only[Act.put,zL,zM,zN]
 refine aB 2 (by kernel_rfl) rfl (fun K hK=>?_)
 refine aM 5 rfl rfl 45 (fun vs=>by kernel_rfl) #[.tmp 4] _ rfl #[.string F.dj] (by first|rfl|simp[Act.eval]) (eh wd F.dj hs.p) ?_
 rintro e w1 ⟨rfl,hb⟩
 have Z0:=ak hT.1.size
 have Y0:=ak hb.size
 have bL:(fun w:World=>Below w0.heap.size w0 w∧w.heap[w0.heap.size]?=some (.cells #[.string F.dj,.slice ai F.bp.length ci,.slice am F.ms.length cq,.slice ae F.es.length cn] 26 (0,0))∧w.heap[w0.heap.size+1]?=some (.cells #[.string ⟨#[]⟩,.slice none 0 0,.slice none 0 0,.slice none 0 0] 26 (0,0))) w1:=⟨hT.1.trans (hb.mono hT.1.size),(hb.block _ (zA hT.2.1).1).trans hT.2.1,(hb.block _ (zA hT.2.2).1).trans hT.2.2⟩
 refine ⟨_,rfl,hK _ _ ⟨fun _=>bL,?_⟩⟩
 clear hK K hT hb
 have hT:=bL
 clear bL
 simp only[Act.put,zL,zM,zN]
 refine aB 5 (by kernel_rfl) rfl (fun K hK=>?_)
 refine aM 8 rfl rfl 46 (fun vs=>by kernel_rfl) #[.tmp 7] _ rfl #[.slice ai F.bp.length ci] (by first|rfl|simp[Act.eval]) (gZ hi hs.i1 hs.i2 w1 (hw.trans (hT.1.mono hw.size))) ?_
 rintro e w2 ⟨_,rfl,k1,hb⟩
 obtain ⟨a1,LH,rfl⟩:=aN k1
 have h6:=(zA hT.2.2).1
 have F1:=ak (fun w' (fC:World.grownBy w2 w' (some (w0.heap.size+1)))=>(kM k1 (by have:=hs.i1;omega)).kept fC (fun b gS e=>by have h5:=(k1.lt b (by unfold gL at gS;simpa using gS)).1;obtain rfl:=zC e;omega))
 have P1:=ak (fU k1)
 have Z1:=ak hb.size
 have G1:=ak (zI w2 (some (w0.heap.size+1)))
 clear k1 h6
 have bL:(fun w:World=>Below w0.heap.size w0 w∧w.heap[w0.heap.size]?=some (.cells #[.string F.dj,.slice ai F.bp.length ci,.slice am F.ms.length cq,.slice ae F.es.length cn] 26 (0,0))∧w.heap[w0.heap.size+1]?=some (.cells #[.string ⟨#[]⟩,.slice none 0 0,.slice none 0 0,.slice none 0 0] 26 (0,0))) w2:=⟨hT.1.trans (hb.mono hT.1.size),(hb.block _ (zA hT.2.1).1).trans hT.2.1,(hb.block _ (zA hT.2.2).1).trans hT.2.2⟩
 refine ⟨_,rfl,hK _ _ ⟨fun _=>bL,?_⟩⟩
 clear hK K hT hb
 have hT:=bL
 clear bL
 simp only[Act.put,zL,zM,zN]
 refine aB 8 (by kernel_rfl) rfl (fun K hK=>?_)
 refine aM 11 rfl rfl 47 (fun vs=>by kernel_rfl) #[.tmp 10] _ rfl #[.slice am F.ms.length cq] (by first|rfl|simp[Act.eval]) (oA hm eI hs.m1 32 (xt 32) hs.m2 w2 (hw.trans (hT.1.mono hw.size))) ?_
 rintro e w3 ⟨_,x2,B2,rfl,k1,kY,kA,hb⟩
 obtain ⟨a2,N0,rfl⟩:=aN k1
 have h6:=(zA hT.2.2).1
 have F2:=ak (fun w' (fC:World.grownBy w3 w' (some (w0.heap.size+1)))=>And.intro ((kM k1 (by have:=hs.m1;have:(dL 32 F.ms).length=F.ms.length:=(by show (cR _ _).length=_;rw[bc,List.length_map]);omega)).kept fC (fun b gS e=>by have h5:=(kA.2 b (List.mem_append_left _ gS)).1;obtain rfl:=zC e;omega)) (kY.kept fC (fun b gS e=>by have h5:=(kA.2 b (List.mem_append_right _ gS)).1;obtain rfl:=zC e;omega)))
 have P2:=ak kA
 have Z2:=ak hb.size
 have G1:=ak ((ab G1).trans ((bB hb).but _))
 have G2:=ak (zI w3 (some (w0.heap.size+1)))
 clear k1 kY kA h6
 have bL:(fun w:World=>Below w0.heap.size w0 w∧w.heap[w0.heap.size]?=some (.cells #[.string F.dj,.slice ai F.bp.length ci,.slice am F.ms.length cq,.slice ae F.es.length cn] 26 (0,0))∧w.heap[w0.heap.size+1]?=some (.cells #[.string ⟨#[]⟩,.slice none 0 0,.slice none 0 0,.slice none 0 0] 26 (0,0))) w3:=⟨hT.1.trans (hb.mono hT.1.size),(hb.block _ (zA hT.2.1).1).trans hT.2.1,(hb.block _ (zA hT.2.2).1).trans hT.2.2⟩
 refine ⟨_,rfl,hK _ _ ⟨fun _=>bL,?_⟩⟩
 clear hK K hT hb
 have hT:=bL
 clear bL
 simp only[Act.put,zL,zM,zN]
 refine aB 11 (by kernel_rfl) rfl (fun K hK=>?_)
 refine aM 14 rfl rfl 48 (fun vs=>by kernel_rfl) #[.tmp 13] _ rfl #[.slice ae F.es.length cn] (by first|rfl|simp[Act.eval]) (oB he ep hs.e1 hs.e2 w3 (hw.trans (hT.1.mono hw.size))) ?_
 rintro e w4 ⟨_,x3,B3,rfl,k1,kY,kA,hb⟩
 obtain ⟨a3,Pq,rfl⟩:=aN k1
 have h6:=(zA hT.2.2).1
 have F3:=ak (fun w' (fC:World.grownBy w4 w' (some (w0.heap.size+1)))=>And.intro ((kM k1 (by have:=hs.e1;have:(dM F.es).length=F.es.length:=(by show (cR _ _).length=_;rw[bc,List.length_map]);omega)).kept fC (fun b gS e=>by have h5:=(kA.2 b (List.mem_append_left _ gS)).1;obtain rfl:=zC e;omega)) (kY.kept fC (fun b gS e=>by have h5:=(kA.2 b (List.mem_append_right _ gS)).1;obtain rfl:=zC e;omega)))
 have P3:=ak kA
 have Z3:=ak hb.size
 have G1:=ak ((ab G1).trans ((bB hb).but _))
 have G2:=ak ((ab G2).trans ((bB hb).but _))
 have G3:=ak (zI w4 (some (w0.heap.size+1)))
 clear k1 kY kA h6
 have bL:(fun w:World=>Below w0.heap.size w0 w∧w.heap[w0.heap.size]?=some (.cells #[.string F.dj,.slice ai F.bp.length ci,.slice am F.ms.length cq,.slice ae F.es.length cn] 26 (0,0))∧w.heap[w0.heap.size+1]?=some (.cells #[.string ⟨#[]⟩,.slice none 0 0,.slice none 0 0,.slice none 0 0] 26 (0,0))) w4:=⟨hT.1.trans (hb.mono hT.1.size),(hb.block _ (zA hT.2.1).1).trans hT.2.1,(hb.block _ (zA hT.2.2).1).trans hT.2.2⟩
 refine ⟨_,rfl,hK _ _ ⟨fun _=>bL,?_⟩⟩
 clear hK K hT hb
 have hT:=bL
 clear bL
 simp only[Act.put,zL,zM,zN]
 refine aw 12 (.agg #[.string F.dj,.slice a1 F.bp.length LH,.slice a2 (dL 32 F.ms).length N0,.slice a3 (dM F.es).length Pq]) 15 rfl rfl (Or.inl ⟨by rfl,fun w hw=>by go_simp⟩) hT ?_
 simp only[Act.put,zL,zM,zN]
 refine aB 13 (by kernel_rfl) rfl (fun K hK=>?_)
 have z:∀j,w4.frozen? ⟨w0.heap.size+1,j,none⟩=false:=fun j=>by simp[World.frozen?,hT.2.2]
 have z0:=z 0
 have z1:=z 1
 have z2:=z 2
 have z3:=z 3
 clear z
 obtain ⟨q0,g0⟩:=aI (j:=0) hT.2.2 (.string F.dj)
 obtain ⟨q1,g1⟩:=aI (j:=1) q0 (.slice a1 F.bp.length LH)
 obtain ⟨q2,g2⟩:=aI (j:=2) q1 (.slice a2 (dL 32 F.ms).length N0)
 obtain ⟨q3,g3⟩:=aI (j:=3) q2 (.slice a3 (dM F.es).length Pq)
 have gg:=(((g0.trans g1).trans g2).trans g3)
 have be:=hT.1.grown gg hT.1.size (fun k e=>by obtain rfl:=zC e;omega)
 have c0:w4.cell? ⟨w0.heap.size+1,0,none⟩=some (.string ⟨#[]⟩):=cell_of_row _ _ _ _ _ _ hT.2.2
 have c1:w4.cell? ⟨w0.heap.size+1,1,none⟩=some (.slice none 0 0):=cell_of_row _ _ _ _ _ _ hT.2.2
 have c2:w4.cell? ⟨w0.heap.size+1,2,none⟩=some (.slice none 0 0):=cell_of_row _ _ _ _ _ _ hT.2.2
 have c3:w4.cell? ⟨w0.heap.size+1,3,none⟩=some (.slice none 0 0):=cell_of_row _ _ _ _ _ _ hT.2.2
 have h1:=hT.2.1
 have Lu:=(gg.block _ (zA h1).1 (by simp)).trans h1
 have GE:=ak gg
 have BE:=ak be
 have Q3:=ak q3
 clear hT h1
 go_simp
 refine hK _ _ ⟨fun h=>absurd rfl h,?_⟩
 clear hK K
 refine aQ (by kernel_rfl) ?_
 clear Lu q0 g0 c0 q1 g1 c1 q2 g2 c2 q3 g3 c3 gg be z0 z1 z2 z3
 go_wp2
 refine bodyPost_ret (results_cell_row rfl _ _ (w0.heap.size+1) 26 _ (0,0) _ rfl (ab Q3) Tryz.underlying26 rfl (by kernel_rfl)) rfl ?_
 have f1:=ab F1 _ ((ab G1).trans (ab GE))
 have f2:=ab F2 _ ((ab G2).trans (ab GE))
 have f3:=ab F3 _ ((ab G3).trans (ab GE))
 have q1:(lV F.bp).length=F.bp.length:=bc _ _
 have s0:=ab Z0;have s1:=ab Y0;have s2:=ab Z1;have s3:=ab Z2;have s4:=ab Z3
 refine ⟨_,_,_,_,_,_,rfl,⟨_,_,by show Ow _ _ _ _ (lV F.bp).length _;rw[q1];exact f1,f2.1,f2.2,f3.1,f3.2,rfl⟩,?_,ab BE⟩
 exact (((ab P1).app (ab P2) s2 s3).app (ab P3) (by omega) s4).wide (by omega) (ab GE).size
end Go.Proofs.YtghioefalckgoaaGreatDoor
namespace Go.Proofs.YtghioefalckgoaaGreatDoor
open Go.RowKit
attribute [local go_sem ↓] Go.wp_at_zero Go.wp_at_succ
theorem QC:(Tryz.prog.info? 57).map (fun i=>(i.zero,i.size,i.bytes))=some (some (.agg #[.string ByteArray.empty,.slice none 0 0,.slice none 0 0,.slice none 0 0,.slice none 0 0,.slice none 0 0,.slice none 0 0]),7,160):=by kernel_rfl
theorem QD:(Tryz.prog.info? 53).map (fun i=>(i.zero,i.size,i.bytes))=some (some (.agg #[.int .i64 0,.string ByteArray.empty,.string ByteArray.empty,.string ByteArray.empty,.int .i64 0,.int .i64 0]),6,72):=by kernel_rfl
theorem Mg {l:List Fd}{i:Nat}{x:Fd} (h:l[i]?=some x):cC (l.take (i+1))=cC (l.take i)++x.cs:=by
 rw[dB h]
 unfold cC
 rw[List.flatMap_append]
 simp
def ri:Nat→Ms→Ms
 |0,.mk nm fs os _ es rs gs=>.mk nm fs os [] es rs gs
 |f+1,.mk nm fs os ms es rs gs=>.mk nm fs os (ms.map (ri f)) es rs gs
def fp:Nat→List Ms→List Ms
 |0,_=>[]
 |f+1,l=>l.map (ri f)
theorem zf:∀(f:Nat) (nm:ByteArray) (fs:List Fd) (os:List ByteArray) (ms:List Ms) (es:List En) (rs:List (Int×Int)) (gs:List ByteArray),ri f (.mk nm fs os ms es rs gs)=.mk nm fs os (fp f ms) es rs gs
 |0,_,_,_,_,_,_,_=>rfl
 |_+1,_,_,_,_,_,_,_=>rfl
theorem pd {f:Nat}{l:List Ms}:(fp f l).length≤l.length:=by
 cases f with
 |zero=>exact Nat.zero_le _
 |succ f=>simp[fp]
def Sy (fs:List Fd) (os:List ByteArray) (ms:List Ms) (es:List En) (rs:List (Int×Int)) (gs:List ByteArray):Prop :=
 fs.length*72≤140737488355328∧os.length*16≤140737488355328∧ms.length*160≤140737488355328∧es.length*88≤140737488355328∧(∀e ∈ es,LK e)∧rs.length*16≤140737488355328∧gs.length*16≤140737488355328
def Dk:Nat→Ms→Prop
 |0,.mk _ fs os ms es rs gs=>Sy fs os ms es rs gs
 |f+1,.mk _ fs os ms es rs gs=>Sy fs os ms es rs gs∧∀m ∈ ms,Dk f m
theorem Dk.s {f:Nat}{nm:ByteArray}{fs:List Fd}{os:List ByteArray}{ms:List Ms}{es:List En}{rs:List (Int×Int)}{gs:List ByteArray} (h:Dk f (.mk nm fs os ms es rs gs)):Sy fs os ms es rs gs:=by
 cases f with
 |zero=>exact h
 |succ f=>exact h.1
def Oj (f:Nat):Prop:=∀(W:World) (v:Value) (l:List Ms) (cs:List Value),Rl W v l.length cs→nS W cs l→l.length*160≤140737488355328→(∀m ∈ l,Dk f m)→∀w0,Below W.heap.size W w0 →
 Calls Tryz.prog 22 #[v,.int .i64 (200-(f:Int))] w0 fun e w=>∃u fI,e=.returned u∧w.ownsRow w0.heap.size 57 7 u (fp f l).length fI∧pr (Rest w0.heap.size u) w fI (fp f l)∧Below w0.heap.size w0 w
def R0 (wo:World) (g:Nat):Prop:=wo.heap.size≤g
def R1 (wo:World) (b g:Nat):Prop:=wo.heap.size≤g∧g≠b
def Rx (wo:World) (b:Nat) (u:Value) (g:Nat):Prop:=wo.heap.size≤g∧g≠b∧u.ownBlock≠some g
theorem Uw {wo w:World}{B:Nat} (h:wo.heap.size≤B):fV (fun g=>B≤g) (R0 wo) w w:=fun _ hg _=>⟨rfl,Nat.le_trans h hg⟩
theorem wK {wo w:World}{B b:Nat} (h:wo.heap.size≤B) (hb:b<B):fV (fun g=>B≤g) (R1 wo b) w w:=fun g (hg:B≤g) _=>⟨rfl,Nat.le_trans h hg,by omega⟩
theorem sr0 {wo w:World}{B:Nat}{u:Value} (h:wo.heap.size≤B):fV (Rest B u) (R0 wo) w w:=fun _ hg _=>⟨rfl,Nat.le_trans h hg.1⟩
theorem Ux {wo w:World}{B b:Nat}{u:Value} (h:wo.heap.size≤B) (hb:b<B):fV (Rest B u) (R1 wo b) w w:=fun g hg _=>⟨rfl,Nat.le_trans h hg.1,by have:=hg.1;omega⟩
theorem vW {wo w w2:World} (hb:Below w.heap.size w w2):fV (R0 wo) (R1 wo w.heap.size) w w2:=fun g hg hl=>⟨hb.block g hl,hg,by omega⟩
structure pG (wo w:World) (b:Nat) (uf uo um ue ur ug:Value) (cm ce:List Value) (nm:ByteArray) (os:List ByteArray) (ms:List Ms) (es:List En) (rs:List (Int×Int)) (gs:List ByteArray):Prop where
 bh:Below wo.heap.size wo w
 low:wo.heap.size≤b
 cH:w.heap[b]?=some (.cells #[.string nm,uf,uo,um,ue,ur,ug] 57 (0,0))
 o:fW (Rx wo b uf) w 9 1 uo os.length (bj os)
 m:fW (Rx wo b uf) w 57 7 um ms.length cm
 ms:pr (Rx wo b uf) w cm ms
 e:fW (Rx wo b uf) w 63 4 ue es.length ce
 es:py (Rx wo b uf) w ce es
 r:fW (Rx wo b uf) w 83 2 ur rs.length (eP rs)
 g:fW (Rx wo b uf) w 9 1 ug gs.length (bj gs)
section
variable {wo w : World} {b : Nat} {uf uo um ue ur ug : Value} {cm ce : List Value} {nm : ByteArray} {os : List ByteArray} {ms : List Ms} {es : List En} {rs : List (Int × Int)} {gs : List ByteArray}
theorem pG.go (h:pG wo w b uf uo um ue ur ug cm ce nm os ms es rs gs) {w':World}{u':Value} (hb:Below wo.heap.size wo w') (hk:w'.heap[b]?=some (.cells #[.string nm,u',uo,um,ue,ur,ug] 57 (0,0))) (hs:fV (Rx wo b uf) (Rx wo b u') w w'):pG wo w' b u' uo um ue ur ug cm ce nm os ms es rs gs :=
 ⟨hb,h.low,hk,h.o.mono hs,h.m.mono hs,h.ms.mono hs,h.e.mono hs,h.es.mono hs,h.r.mono hs,h.g.mono hs⟩
theorem pG.below (h:pG wo w b uf uo um ue ur ug cm ce nm os ms es rs gs) {w':World} (hb:Below w.heap.size w w'):pG wo w' b uf uo um ue ur ug cm ce nm os ms es rs gs :=
 h.go (h.bh.trans (hb.mono h.bh.size)) ((hb.block _ (zA h.cH).1).trans h.cH) (aC hb)
theorem pG.ku (h:pG wo w b uf uo um ue ur ug cm ce nm os ms es rs gs) {w':World} (hg:w.grownBy w' uf.ownBlock) (h1:∀j,uf.ownBlock=some j→wo.heap.size≤j) (h2:uf.ownBlock≠some b):pG wo w' b uf uo um ue ur ug cm ce nm os ms es rs gs :=
 h.go (h.bh.grown hg h.bh.size h1) ((hg.block _ (zA h.cH).1 (fun e=>h2 e.symm)).trans h.cH) (lT hg (fun _ hg=>hg.2.2))
theorem pG.val (h:pG wo w b uf uo um ue ur ug cm ce nm os ms es rs gs) (u:Value) (hu:∀g,g<w.heap.size→Rx wo b uf g→u.ownBlock≠some g):pG wo (w.setCell ⟨b,1,none⟩ u) b u uo um ue ur ug cm ce nm os ms es rs gs∧w.grownBy (w.setCell ⟨b,1,none⟩ u) (some b):=by
 obtain ⟨a1,a2⟩:=aI (j:=1) h.cH u
 exact ⟨h.go (h.bh.grown a2 h.bh.size (fun k e=>by obtain rfl:=zC e;exact h.low)) a1 (fun g hg hl=>⟨a2.block g hl (fun e=>hg.2.1 (zC e)),hg.1,hg.2.1,hu g hl hg⟩),a2⟩
theorem pG.grow {wy w2:World}{u':Value} (h:pG wo wy b uf uo um ue ur ug cm ce nm os ms es rs gs) (hg:wy.grownBy w2 uf.ownBlock) (h2:pG wo w2 b uf uo um ue ur ug cm ce nm os ms es rs gs) (cI:u'.ownBlock=uf.ownBlock∨u'.ownBlock=some wy.heap.size):pG wo (w2.setCell ⟨b,1,none⟩ u') b u' uo um ue ur ug cm ce nm os ms es rs gs:=by
 obtain ⟨a1,a2⟩:=aI (j:=1) h2.cH u'
 refine h.go (h2.bh.grown a2 h2.bh.size (fun k e=>by obtain rfl:=zC e;exact h.low)) a1 (fun g hx hl=>?_)
 refine ⟨(a2.block g (Nat.lt_of_lt_of_le hl hg.size) (fun e=>hx.2.1 (zC e))).trans (hg.block g hl (fun e=>hx.2.2 e.symm)),hx.1,hx.2.1,?_⟩
 rcases cI with q|q
 ·rw[q];exact hx.2.2
 ·rw[q];intro e;obtain rfl:=zC e;omega
theorem pG.new {x0 x1 x2 x3 x4 x5 x6:Value} (hb:Below wo.heap.size wo w) (cK:wo.heap.size≤b) (hk:w.heap[b]?=some (.cells #[x0,x1,x2,x3,x4,x5,x6] 57 (0,0))) (ho:fW (R1 wo b) w 9 1 uo os.length (bj os)) (hm:fW (R1 wo b) w 57 7 um ms.length cm) (eI:pr (R1 wo b) w cm ms) (he:fW (R1 wo b) w 63 4 ue es.length ce) (ep:py (R1 wo b) w ce es) (hr:fW (R1 wo b) w 83 2 ur rs.length (eP rs)) (hg:fW (R1 wo b) w 9 1 ug gs.length (bj gs)) :
  pG wo (((((((w.setCell ⟨b,0,none⟩ (.string nm)).setCell ⟨b,1,none⟩ (.slice none 0 0)).setCell ⟨b,2,none⟩ uo).setCell ⟨b,3,none⟩ um).setCell ⟨b,4,none⟩ ue).setCell ⟨b,5,none⟩ ur).setCell ⟨b,6,none⟩ ug) b (.slice none 0 0) uo um ue ur ug cm ce nm os ms es rs gs:=by
 obtain ⟨a1,a2⟩:=aI (j:=0) hk (.string nm)
 obtain ⟨b1,b2⟩:=aI (j:=1) a1 (.slice none 0 0)
 obtain ⟨c1,c2⟩:=aI (j:=2) b1 uo
 obtain ⟨d1,d2⟩:=aI (j:=3) c1 um
 obtain ⟨e1,e2⟩:=aI (j:=4) d1 ue
 obtain ⟨f1,f2⟩:=aI (j:=5) e1 ur
 obtain ⟨g1,g2⟩:=aI (j:=6) f1 ug
 have jB:=(((((a2.trans b2).trans c2).trans d2).trans e2).trans f2).trans g2
 have hs:fV (R1 wo b) (Rx wo b (.slice none 0 0)) w (((((((w.setCell ⟨b,0,none⟩ (.string nm)).setCell ⟨b,1,none⟩ (.slice none 0 0)).setCell ⟨b,2,none⟩ uo).setCell ⟨b,3,none⟩ um).setCell ⟨b,4,none⟩ ue).setCell ⟨b,5,none⟩ ur).setCell ⟨b,6,none⟩ ug):=fun g hg hl=>⟨jB.block g hl (fun e=>hg.2 (zC e)),hg.1,hg.2,by simp[Value.ownBlock]⟩
 exact ⟨hb.grown jB hb.size (fun k e=>by obtain rfl:=zC e;exact cK),cK,g1,ho.mono hs,hm.mono hs,eI.mono hs,he.mono hs,ep.mono hs,hr.mono hs,hg.mono hs⟩
theorem IX {w0 wr wy w2:World}{v3 v':Value}{fI:List Value}{l:List Ms}{i f:Nat}{fs:List Fd}{Qq:List Ms} (hO:wo.ownsRow w0.heap.size 57 7 v3 i fI) (hE:pr (Rest w0.heap.size v3) wo fI ((l.take i).map (ri f))) (hC:pG wo wr b uf uo um ue ur ug cm ce nm os (fp f Qq) es rs gs) (hV:wr.ownsRow wo.heap.size 53 6 uf fs.length (cC fs)) (VA:fs.length*72≤140737488355328) (hB:w0.heap.size≤wo.heap.size) (hr:l[i]?=some (.mk nm fs os Qq es rs gs))
  (hy:Below wr.heap.size wr wy) (hg:wy.grownBy w2 v3.ownBlock) (cI:v'.ownBlock=v3.ownBlock∨v'.ownBlock=some wy.heap.size):pr (Rest w0.heap.size v') w2 (fI++[.string nm,uf,uo,um,ue,ur,ug]) ((l.take (i+1)).map (ri f)):=by
 have pA:=hC.bh.size
 have ff:=hy.size
 rw[dB hr,List.map_append,List.map_cons,List.map_nil,zf]
 have gM:∀(R:Nat→Prop),(∀g,R g→wo.heap.size≤g)→fV R (Rest w0.heap.size v') wr w2:=by
  intro R hR g bG hl
  have wh:=hR g bG
  have jN:v3.ownBlock≠some g:=fun e=>by have:=(hO.lt g e).2;omega
  refine ⟨(hg.block g (by omega) (fun e=>jN e.symm)).trans (hy.block g (by omega)),by omega,?_⟩
  rcases cI with e|e
  ·rw[e];exact jN
  ·rw[e];intro q;obtain rfl:=zC q;omega
 have hx:=gM (Rx wo b uf) (fun g h=>h.1)
 refine (hE.mono (R':=Rest w0.heap.size v') (fun g bG hl=>?_)).app (.cons ((bP hV (by omega)).mono (gM _ (fun _ h=>h))) (hC.o.mono hx) (hC.m.mono hx) (hC.ms.mono hx) (hC.e.mono hx) (hC.es.mono hx) (hC.r.mono hx) (hC.g.mono hx) .nil)
 refine ⟨((hg.block g (by omega) (fun e=>bG.2 e.symm)).trans (hy.block g (by omega))).trans (hC.bh.block g hl),bG.1,?_⟩
 rcases cI with e|e
 ·rw[e];exact bG.2
 ·rw[e];intro q;obtain rfl:=zC q;omega
end
end Go.Proofs.YtghioefalckgoaaGreatDoor

import Derived.Test.YtghioefalckgoaaGreatDoorM28
set_option maxHeartbeats 2000000
set_option maxRecDepth 100000
namespace Go.Proofs.YtghioefalckgoaaGreatDoor
open Go.RowKit
attribute [local go_sem ↓] Go.wp_at_zero Go.wp_at_succ
def JL (b:Nat) (x:Int) (w:World):Prop:=w.heap[b]?=some (.cells #[.int .i64 x] 88 (0,0))∧0≤x∧x≤4096
theorem nA (b:Nat):LI (JL b):=fun _ _ _ hj hg=>⟨(hg.block _ (zA hj.1).1 (by simp)).trans hj.1,hj.2⟩
def kQ (n:Nat) (x:Int):Option Int:=if 0≤x-n then some (x-n) else none
theorem qg {w:World}{b:Nat}{x:Int} (hj:JL b x w) (n:Nat) (hn:n≤1125899906842624):Calls Tryz.prog 52 #[.pointer (some ⟨b,0,none⟩),.int .i64 (n:Int)] w (jM w (some b) (JL b) (kQ n x)):=by
 obtain ⟨hb,hx0,QS⟩:=hj
 have c0:w.cell? ⟨b,0,none⟩=some (.int .i64 x):=cell_of_row _ _ _ _ _ _ hb
 have f0:w.frozen? ⟨b,0,none⟩=false:=by simp[World.frozen?,hb]
 obtain ⟨r1,r2⟩:=aI (j:=0) hb (.int .i64 (x-n))
 have R1:=ak (show (w.setCell ⟨b,0,none⟩ (.int .i64 (x-n))).heap[b]?=some (.cells #[.int .i64 (x-n)] 88 (0,0)) from r1)
 have R2:=ak r2
 have c1:(w.setCell ⟨b,0,none⟩ (.int .i64 (x-n))).cell? ⟨b,0,none⟩=some (.int .i64 (x-n)):=cell_of_row _ _ _ _ _ _ (ab R1)
 have HX:=ak (show x-n≤4096 by omega)
 clear r1 r2
 go_enter Tryz.func52,Tryz.ntmps52
 go_wp2
 go_ret
 unfold kQ
 by_cases h:0≤x-n
 ·rw[if_pos h]
  refine ⟨?_,fun s' e=>?_,ab R2⟩
  ·simp;omega
  ·obtain rfl:=zC e
   exact ⟨ab R1,h,ab HX⟩
 ·rw[if_neg h]
  refine ⟨?_,fun s' e=>(by cases e),ab R2⟩
  simp;omega
structure Jd (W w0:World) (b g:Nat) (cs:Array Value) (t:TypeId) (x:Int) (w:World):Prop where
 bh:Below W.heap.size W w
 jl:JL b x w
 cH:w.heap[g]?=some (.cells cs t (0,0))
 eQ:w0.grownBy w (some b)
theorem Jd.below {W w0 w w':World}{b g:Nat}{cs:Array Value}{t:TypeId}{x:Int} (h:Jd W w0 b g cs t x w) (hb:Below w.heap.size w w'):Jd W w0 b g cs t x w':=by
 have hg:w.grownBy w' none:=⟨hb.os,hb.tape,hb.output,hb.size,fun k hk _=>hb.block k hk⟩
 exact ⟨h.bh.trans (hb.mono h.bh.size),nA b _ _ _ h.jl hg,(hb.block _ (zA h.cH).1).trans h.cH,h.eQ.trans ⟨hg.os,hg.tape,hg.output,hg.size,fun k hk _=>hb.block k hk⟩⟩
theorem Jd.go {W w0 w w':World}{b g:Nat}{cs:Array Value}{t:TypeId}{x x':Int} (h:Jd W w0 b g cs t x w) (cK:W.heap.size≤b) (GP:b≠g) (hg:w.grownBy w' (some b)) (hj:JL b x' w'):Jd W w0 b g cs t x' w' :=
 ⟨cj h.bh hg h.bh.size (fun k e=>by obtain rfl:=zC e;exact cK),hj,(hg.block _ (zA h.cH).1 (by simpa using fun e=>GP e.symm)).trans h.cH,h.eQ.trans hg⟩
theorem Jd.no {W w0 w:World}{b g:Nat}{cs:Array Value}{t:TypeId}{x:Int} (h:Jd W w0 b g cs t x w):jM w0 (some b) (JL b) none (.returned (.bool false)) w:=⟨rfl,fun _ e=>(by cases e),h.eQ⟩
theorem Jd.yes {W w0 w:World}{b g:Nat}{cs:Array Value}{t:TypeId}{x:Int} (h:Jd W w0 b g cs t x w):jM w0 (some b) (JL b) (some x) (.returned (.bool true)) w:=⟨rfl,fun _ e=>(by obtain rfl:=zC e;exact h.jl),h.eQ⟩
noncomputable def kH (e:En):Bool:=dG e.name&&decide (0<e.aW.length)&&e.aW.all ju&&e.res.all (pP (-2147483648) 2147483647)&&e.gone.all dG
noncomputable def fT (e:En) (x:Int):Option Int:=match kQ (e.aW.length+e.res.length+e.gone.length) x with
 |none=>none
 |some x1=>if kH e then some x1 else none
theorem eN {w:World}{b:Nat}{v0 v1 v2 v3:Value}{t:TypeId} (hn:w.heap[b]?=some (.cells #[v0,v1,v2,v3] t (0,0))):w.cell? ⟨b,0,none⟩=some v0∧w.cell? ⟨b,1,none⟩=some v1∧w.cell? ⟨b,2,none⟩=some v2∧w.cell? ⟨b,3,none⟩=some v3 :=
 ⟨cell_of_row _ _ _ _ _ _ hn,cell_of_row _ _ _ _ _ _ hn,cell_of_row _ _ _ _ _ _ hn,cell_of_row _ _ _ _ _ _ hn⟩
theorem Kn {W:World}{e:En}{vv vr vg:Value} (hv:Rl W vv e.aW.length (mR e.aW)) (hr:Rl W vr e.res.length (eP e.res)) (hg:Rl W vg e.gone.length (bj e.gone)) {b:Nat} (cK:W.heap.size≤b) (w0:World) (x:Int) (hw:Below W.heap.size W w0) (hj:JL b x w0) :
  Calls Tryz.prog 59 #[.pointer (some ⟨b,0,none⟩),.agg #[.string e.name,vv,vr,vg]] w0 (jM w0 (some b) (JL b) (fT e x)):=by
 have LB:b<w0.heap.size:=(zA hj.1).1
 have HJ:Hid (Jd W w0 b w0.heap.size #[.string e.name,vv,vr,vg] 63 x (w0.alloc (.cells #[.string e.name,vv,vr,vg] 63))):=⟨hw.alloc hw.size _,nA b _ _ _ hj (World.grownBy_alloc _ _ _),aE _ _,World.grownBy_alloc _ _ _⟩
 have HV:=ak (fun w h=>N9 hv w h)
 have HR:=ak (fun g h w k j=>Et (g:=g) (h:=h) (lo:=-2147483648) (hi:=2147483647) hr w k j)
 have HG:=ak (fun w h=>po hg (fun vs w=>by kernel_rfl) gN w h)
 have HW:=ak (fun w=>gN w e.name)
 obtain ⟨av,cv,rfl,Ng,-⟩:=hv
 obtain ⟨ar,cr,rfl,hnr,-⟩:=hr
 obtain ⟨ag,cg,rfl,hng,-⟩:=hg
 have HC:=ak (fun w jO=>qg (w:=w) (b:=b) (x:=x) jO (e.aW.length+e.res.length+e.gone.length) (by omega))
 have Hbg:=ak (show b≠w0.heap.size by omega)
 have SG:=ak cK
 unfold fT kH
 obtain ⟨en,ev,er,eg⟩:=e
 simp only at *
 obtain ⟨q1,h1⟩:∃q,dG en=q:=⟨_,rfl⟩
 obtain ⟨q2,h2⟩:∃q,decide (0<ev.length)=q:=⟨_,rfl⟩
 obtain ⟨q3,h3⟩:∃q,ev.all ju=q:=⟨_,rfl⟩
 obtain ⟨q4,h4⟩:∃q,er.all (pP (-2147483648) 2147483647)=q:=⟨_,rfl⟩
 obtain ⟨q5,h5⟩:∃q,eg.all dG=q:=⟨_,rfl⟩
 obtain ⟨lx,GJ⟩:∃l,kQ (ev.length+er.length+eg.length) x=l:=⟨_,rfl⟩
 have e2:=ak h2
 rw[h1] at HW ⊢
 rw[h3] at HV ⊢
 rw[h4] at HR ⊢
 rw[h5] at HG ⊢
 rw[GJ] at HC ⊢
 rw[h2]
 obtain ⟨V,hV⟩:∃V,w0.alloc (.cells #[.string en,.slice av ev.length cv,.slice ar er.length cr,.slice ag eg.length cg] 63)=V:=⟨_,rfl⟩
 rw[hV] at HJ
 obtain ⟨c0,c1,c2,c3⟩:=eN (ab HJ).cH
 clear h1 h2 h3 h4 h5 GJ cK LB hw hj
 have BG:=ak ((ab HJ).below (below_drewN (zE _ _) 1))
 have hT:(fun w:World=>w.cell? ⟨w0.heap.size,0,none⟩=some (.string en)∧w.cell? ⟨w0.heap.size,1,none⟩=some (.slice av ev.length cv)∧w.cell? ⟨w0.heap.size,2,none⟩=some (.slice ar er.length cr)∧w.cell? ⟨w0.heap.size,3,none⟩=some (.slice ag eg.length cg)) V.drew:=eN (ab BG).cH
 go_enter Tryz.func59,Tryz.ntmps59
 go_upto_region 1 with fail
 refine wp_region_any (by kernel_rfl) (aV (z:=99) (T:=fun w=>w.cell? ⟨w0.heap.size,0,none⟩=some (.string en)∧w.cell? ⟨w0.heap.size,1,none⟩=some (.slice av ev.length cv)∧w.cell? ⟨w0.heap.size,2,none⟩=some (.slice ar er.length cr)∧w.cell? ⟨w0.heap.size,3,none⟩=some (.slice ag eg.length cg)) _ _ _ _ ?_)
 try (change ba _ _ _ _ _ _ _ _ _ (World.drew _))
 refine aw 0 (.pointer (some ⟨b,0,none⟩)) 5 rfl rfl (Or.inl ⟨by rfl,fun w hw=>by obtain ⟨bZ,bM,br,cx⟩:=hw;go_simp⟩) hT ?_
 simp only[Act.put,zL,zM,zN]
 refine aw 1 (.pointer (some ⟨w0.heap.size,1,none⟩)) 6 rfl rfl (Or.inl ⟨by rfl,fun w hw=>by obtain ⟨bZ,bM,br,cx⟩:=hw;go_simp⟩) hT ?_
 simp only[Act.put,zL,zM,zN]
 refine aw 2 (.slice av ev.length cv) 7 rfl rfl (Or.inl ⟨by rfl,fun w hw=>by obtain ⟨bZ,bM,br,cx⟩:=hw;go_simp⟩) hT ?_
 simp only[Act.put,zL,zM,zN]
 refine aw 3 (.int .i64 ((ev.length:Nat):Int)) 8 rfl rfl (Or.inl ⟨by rfl,fun w hw=>by obtain ⟨bZ,bM,br,cx⟩:=hw;go_simp⟩) hT ?_
 simp only[Act.put,zL,zM,zN]
 refine aw 4 (.pointer (some ⟨w0.heap.size,2,none⟩)) 9 rfl rfl (Or.inl ⟨by rfl,fun w hw=>by obtain ⟨bZ,bM,br,cx⟩:=hw;go_simp⟩) hT ?_
 simp only[Act.put,zL,zM,zN]
 refine aw 5 (.slice ar er.length cr) 10 rfl rfl (Or.inl ⟨by rfl,fun w hw=>by obtain ⟨bZ,bM,br,cx⟩:=hw;go_simp⟩) hT ?_
 simp only[Act.put,zL,zM,zN]
 refine aw 6 (.int .i64 ((er.length:Nat):Int)) 11 rfl rfl (Or.inl ⟨by rfl,fun w hw=>by obtain ⟨bZ,bM,br,cx⟩:=hw;go_simp⟩) hT ?_
 simp only[Act.put,zL,zM,zN]
 refine aw 7 (.int .i64 ((ev.length+er.length:Nat):Int)) 12 rfl rfl (Or.inl ⟨by rfl,fun w hw=>by obtain ⟨bZ,bM,br,cx⟩:=hw;go_simp;exact IntWalk.i64_in _ (by omega)⟩) hT ?_
 simp only[Act.put,zL,zM,zN]
 refine aw 8 (.pointer (some ⟨w0.heap.size,3,none⟩)) 13 rfl rfl (Or.inl ⟨by rfl,fun w hw=>by obtain ⟨bZ,bM,br,cx⟩:=hw;go_simp⟩) hT ?_
 simp only[Act.put,zL,zM,zN]
 refine aw 9 (.slice ag eg.length cg) 14 rfl rfl (Or.inl ⟨by rfl,fun w hw=>by obtain ⟨bZ,bM,br,cx⟩:=hw;go_simp⟩) hT ?_
 simp only[Act.put,zL,zM,zN]
 refine aw 10 (.int .i64 ((eg.length:Nat):Int)) 15 rfl rfl (Or.inl ⟨by rfl,fun w hw=>by obtain ⟨bZ,bM,br,cx⟩:=hw;go_simp⟩) hT ?_
 simp only[Act.put,zL,zM,zN]
 refine aw 11 (.int .i64 ((ev.length+er.length+eg.length:Nat):Int)) 16 rfl rfl (Or.inl ⟨by rfl,fun w hw=>by obtain ⟨bZ,bM,br,cx⟩:=hw;go_simp;exact IntWalk.i64_in _ (by omega)⟩) hT ?_
 simp only[Act.put,zL,zM,zN]
 refine aB 12 (by kernel_rfl) rfl (fun K hK=>?_)
 refine aM 17 rfl rfl 52 (fun vs=>by kernel_rfl) #[.tmp 5,.tmp 16] _ rfl #[.pointer (some ⟨b,0,none⟩),.int .i64 ((ev.length+er.length+eg.length:Nat):Int)] (by first|rfl|simp[Act.eval]) (ab HC _ (ab BG).jl) ?_
 rintro e w1 ⟨rfl,kD,bG⟩
 cases lx with
 |none =>
  have HN:=ak (show w0.grownBy w1 (some b) from (ab BG).eQ.trans bG)
  have bL:(fun w:World=>w.cell? ⟨w0.heap.size,0,none⟩=some (.string en)∧w.cell? ⟨w0.heap.size,1,none⟩=some (.slice av ev.length cv)∧w.cell? ⟨w0.heap.size,2,none⟩=some (.slice ar er.length cr)∧w.cell? ⟨w0.heap.size,3,none⟩=some (.slice ag eg.length cg)) w1:=eN ((bG.block _ (zA (ab BG).cH).1 (by simpa using fun e=>ab Hbg e.symm)).trans (ab BG).cH)
  refine ⟨_,rfl,hK _ _ ⟨fun _=>bL,?_⟩⟩
  clear hK K hT kD bG
  have hT:=bL
  clear bL
  simp only[Option.isSome_none]
  simp only[Act.put,zL,zM,zN]
  refine ct [13,14,15,16,17,18,19,20,21,22,23,24,25,26,27,28,29,30,31,32,33,34,35,36,37,38,39,40] 4 hT (by kernel_rfl) (fun t' ht=>?_) (by decide) (by kernel_rfl) (fun _ _ _ _ _ h=>h)
  go_wp2
  go_ret
  rw[ht]
  exact ⟨rfl,fun _ e=>(by cases e),ab HN⟩
 |some x1 =>
 simp only[Option.isSome_some]
 have pF:=ak ((ab BG).go (ab SG) (ab Hbg) bG (kD _ rfl))
 have bL:(fun w:World=>w.cell? ⟨w0.heap.size,0,none⟩=some (.string en)∧w.cell? ⟨w0.heap.size,1,none⟩=some (.slice av ev.length cv)∧w.cell? ⟨w0.heap.size,2,none⟩=some (.slice ar er.length cr)∧w.cell? ⟨w0.heap.size,3,none⟩=some (.slice ag eg.length cg)) w1:=eN (ab pF).cH
 refine ⟨_,rfl,hK _ _ ⟨fun _=>bL,?_⟩⟩
 clear hK K hT
 have hT:=bL
 clear bL
 simp only[Act.put,zL,zM,zN]
 clear kD bG BG HC
 refine aw 13 (.bool true) 18 rfl rfl (Or.inl ⟨by rfl,fun w hw=>by obtain ⟨bZ,bM,br,cx⟩:=hw;go_simp⟩) hT ?_
 simp only[Act.put,zL,zM,zN]
 refine aw 14 (.pointer (some ⟨w0.heap.size,0,none⟩)) 19 rfl rfl (Or.inl ⟨by rfl,fun w hw=>by obtain ⟨bZ,bM,br,cx⟩:=hw;go_simp⟩) hT ?_
 simp only[Act.put,zL,zM,zN]
 refine aw 15 (.string en) 20 rfl rfl (Or.inl ⟨by rfl,fun w hw=>by obtain ⟨bZ,bM,br,cx⟩:=hw;go_simp⟩) hT ?_
 simp only[Act.put,zL,zM,zN]
 refine aB 16 (by kernel_rfl) rfl (fun K hK=>?_)
 refine bW 21 rfl 83 (fun vs=>by kernel_rfl) #[.tmp 20] _ rfl #[.string en] (by first|rfl|simp[Act.eval]) (ab HW _) (by rfl) ?_
 rintro e w2 ⟨rfl,rfl⟩
 refine ⟨_,rfl,hK _ _ ⟨fun _=>hT,?_⟩⟩
 clear hK K HW
 simp only[Act.put,zL,zM,zN]
 cases q1 with
 |false =>
  refine ct [17,18,19,20,21,22,23,24,25,26,27,28,29,30,31,32,33,34,35,36,37,38,39,40] 4 hT (by kernel_rfl) (fun t' ht=>?_) (by decide) (by kernel_rfl) (fun _ _ _ _ _ h=>h)
  go_wp2
  go_ret
  rw[ht]
  exact (ab pF).no
 |true =>
 refine aw 17 (.bool true) 22 rfl rfl (Or.inl ⟨by rfl,fun w hw=>by obtain ⟨bZ,bM,br,cx⟩:=hw;go_simp⟩) hT ?_
 simp only[Act.put,zL,zM,zN]
 refine aw 18 (.bool true) 23 rfl rfl (Or.inl ⟨by rfl,fun w hw=>by obtain ⟨bZ,bM,br,cx⟩:=hw;go_simp⟩) hT ?_
 simp only[Act.put,zL,zM,zN]
 refine aw 19 (.pointer (some ⟨w0.heap.size,1,none⟩)) 24 rfl rfl (Or.inl ⟨by rfl,fun w hw=>by obtain ⟨bZ,bM,br,cx⟩:=hw;go_simp⟩) hT ?_
 simp only[Act.put,zL,zM,zN]
 refine aw 20 (.slice av ev.length cv) 25 rfl rfl (Or.inl ⟨by rfl,fun w hw=>by obtain ⟨bZ,bM,br,cx⟩:=hw;go_simp⟩) hT ?_
 simp only[Act.put,zL,zM,zN]
 refine aw 21 (.int .i64 ((ev.length:Nat):Int)) 26 rfl rfl (Or.inl ⟨by rfl,fun w hw=>by obtain ⟨bZ,bM,br,cx⟩:=hw;go_simp⟩) hT ?_
 simp only[Act.put,zL,zM,zN]
 refine aw 22 (.bool q2) 27 rfl rfl (Or.inl ⟨by rfl,fun w hw=>by obtain ⟨bZ,bM,br,cx⟩:=hw;go_simp;exact e2⟩) hT ?_
 simp only[Act.put,zL,zM,zN]
 cases q2 with
 |false =>
  refine ct [23,24,25,26,27,28,29,30,31,32,33,34,35,36,37,38,39,40] 4 hT (by kernel_rfl) (fun t' ht=>?_) (by decide) (by kernel_rfl) (fun _ _ _ _ _ h=>h)
  go_wp2
  go_ret
  rw[ht]
  exact (ab pF).no
 |true =>
 refine aw 23 (.bool true) 28 rfl rfl (Or.inl ⟨by rfl,fun w hw=>by obtain ⟨bZ,bM,br,cx⟩:=hw;go_simp⟩) hT ?_
 simp only[Act.put,zL,zM,zN]
 refine aw 24 (.bool true) 29 rfl rfl (Or.inl ⟨by rfl,fun w hw=>by obtain ⟨bZ,bM,br,cx⟩:=hw;go_simp⟩) hT ?_
 simp only[Act.put,zL,zM,zN]
 refine aw 25 (.pointer (some ⟨w0.heap.size,1,none⟩)) 30 rfl rfl (Or.inl ⟨by rfl,fun w hw=>by obtain ⟨bZ,bM,br,cx⟩:=hw;go_simp⟩) hT ?_
 simp only[Act.put,zL,zM,zN]
 refine aw 26 (.slice av ev.length cv) 31 rfl rfl (Or.inl ⟨by rfl,fun w hw=>by obtain ⟨bZ,bM,br,cx⟩:=hw;go_simp⟩) hT ?_
 simp only[Act.put,zL,zM,zN]
 refine aB 27 (by kernel_rfl) rfl (fun K hK=>?_)
 refine bW 32 rfl 97 (fun vs=>by kernel_rfl) #[.tmp 31,.func 98] _ rfl #[.slice av ev.length cv,.func (.func 98) #[] #[]] (by first|rfl|simp[Act.eval]) (ab HV _ (ab pF).bh) (by rfl) ?_
 rintro e w3 ⟨rfl,cY⟩
 have qU:=ak ((ab pF).below cY)
 have zT:(fun w:World=>w.cell? ⟨w0.heap.size,0,none⟩=some (.string en)∧w.cell? ⟨w0.heap.size,1,none⟩=some (.slice av ev.length cv)∧w.cell? ⟨w0.heap.size,2,none⟩=some (.slice ar er.length cr)∧w.cell? ⟨w0.heap.size,3,none⟩=some (.slice ag eg.length cg)) w3:=eN (ab qU).cH
 refine ⟨_,rfl,hK _ _ ⟨fun _=>zT,?_⟩⟩
 clear hK K hT
 have hT:=zT
 clear zT
 simp only[Act.put,zL,zM,zN]
 clear cY pF HV
 cases q3 with
 |false =>
  refine ct [28,29,30,31,32,33,34,35,36,37,38,39,40] 4 hT (by kernel_rfl) (fun t' ht=>?_) (by decide) (by kernel_rfl) (fun _ _ _ _ _ h=>h)
  go_wp2
  go_ret
  rw[ht]
  exact (ab qU).no
 |true =>
 refine aw 28 (.bool true) 33 rfl rfl (Or.inl ⟨by rfl,fun w hw=>by obtain ⟨bZ,bM,br,cx⟩:=hw;go_simp⟩) hT ?_
 simp only[Act.put,zL,zM,zN]
 refine aw 29 (.bool true) 34 rfl rfl (Or.inl ⟨by rfl,fun w hw=>by obtain ⟨bZ,bM,br,cx⟩:=hw;go_simp⟩) hT ?_
 simp only[Act.put,zL,zM,zN]
 refine aw 30 (.pointer (some ⟨w0.heap.size,2,none⟩)) 35 rfl rfl (Or.inl ⟨by rfl,fun w hw=>by obtain ⟨bZ,bM,br,cx⟩:=hw;go_simp⟩) hT ?_
 simp only[Act.put,zL,zM,zN]
 refine aw 31 (.slice ar er.length cr) 36 rfl rfl (Or.inl ⟨by rfl,fun w hw=>by obtain ⟨bZ,bM,br,cx⟩:=hw;go_simp⟩) hT ?_
 simp only[Act.put,zL,zM,zN]
 refine aB 32 (by kernel_rfl) rfl (fun K hK=>?_)
 refine bW 37 rfl 93 (fun vs=>by kernel_rfl) #[.const (.int .i64 (-2147483648)),.const (.int .i64 2147483647)] _ rfl #[.int .i64 (-2147483648),.int .i64 2147483647] (by first|rfl|simp[Act.eval]) (xF _ _ _) (by rfl) ?_
 rintro e w4 ⟨rfl,dD⟩
 have lb:Below w3.heap.size w3 w4:=by rw[dD];exact ((zE _ _).alloc (zD _) _).alloc (by rw[zJ];omega) _
 have HR4:Hid (Gn w3.heap.size (w3.heap.size+1) (-2147483648) 2147483647 () w4):=by
  rw[dD]
  refine ⟨(Below.heap_alloc _ _ _ (by rw[zJ];omega)).trans (aE _ _),?_⟩
  have:=aE (w3.alloc (.cells #[.int .i64 (-2147483648)] 3)) (.cells #[.int .i64 2147483647] 3)
  rw[zJ] at this
  exact this
 have wF:=ak ((ab qU).below lb)
 have BS:(fun w:World=>w.cell? ⟨w0.heap.size,0,none⟩=some (.string en)∧w.cell? ⟨w0.heap.size,1,none⟩=some (.slice av ev.length cv)∧w.cell? ⟨w0.heap.size,2,none⟩=some (.slice ar er.length cr)∧w.cell? ⟨w0.heap.size,3,none⟩=some (.slice ag eg.length cg)) w4:=eN (ab wF).cH
 refine ⟨_,rfl,hK _ _ ⟨fun _=>BS,?_⟩⟩
 clear hK K hT
 have hT:=BS
 clear BS
 simp only[Act.put,zL,zM,zN]
 clear lb qU dD
 refine aB 33 (by kernel_rfl) rfl (fun K hK=>?_)
 refine bW 38 rfl 92 (fun vs=>by kernel_rfl) #[.tmp 36,.tmp 37] _ rfl #[.slice ar er.length cr,.func (.func 146) #[] #[.pointer (some ⟨w3.heap.size,0,none⟩),.pointer (some ⟨w3.heap.size+1,0,none⟩)]] (by first|rfl|simp[Act.eval]) (ab HR _ _ _ (ab wF).bh (ab HR4)) (by rfl) ?_
 rintro e w5 ⟨rfl,lv⟩
 have Gv:=ak ((ab wF).below lv)
 have yT:(fun w:World=>w.cell? ⟨w0.heap.size,0,none⟩=some (.string en)∧w.cell? ⟨w0.heap.size,1,none⟩=some (.slice av ev.length cv)∧w.cell? ⟨w0.heap.size,2,none⟩=some (.slice ar er.length cr)∧w.cell? ⟨w0.heap.size,3,none⟩=some (.slice ag eg.length cg)) w5:=eN (ab Gv).cH
 refine ⟨_,rfl,hK _ _ ⟨fun _=>yT,?_⟩⟩
 clear hK K hT
 have hT:=yT
 clear yT
 simp only[Act.put,zL,zM,zN]
 clear lv wF HR HR4
 cases q4 with
 |false =>
  refine ct [34,35,36,37,38,39,40] 4 hT (by kernel_rfl) (fun t' ht=>?_) (by decide) (by kernel_rfl) (fun _ _ _ _ _ h=>h)
  go_wp2
  go_ret
  rw[ht]
  exact (ab Gv).no
 |true =>
 refine aw 34 (.bool true) 39 rfl rfl (Or.inl ⟨by rfl,fun w hw=>by obtain ⟨bZ,bM,br,cx⟩:=hw;go_simp⟩) hT ?_
 simp only[Act.put,zL,zM,zN]
 refine aw 35 (.bool true) 40 rfl rfl (Or.inl ⟨by rfl,fun w hw=>by obtain ⟨bZ,bM,br,cx⟩:=hw;go_simp⟩) hT ?_
 simp only[Act.put,zL,zM,zN]
 refine aw 36 (.pointer (some ⟨w0.heap.size,3,none⟩)) 41 rfl rfl (Or.inl ⟨by rfl,fun w hw=>by obtain ⟨bZ,bM,br,cx⟩:=hw;go_simp⟩) hT ?_
 simp only[Act.put,zL,zM,zN]
 refine aw 37 (.slice ag eg.length cg) 42 rfl rfl (Or.inl ⟨by rfl,fun w hw=>by obtain ⟨bZ,bM,br,cx⟩:=hw;go_simp⟩) hT ?_
 simp only[Act.put,zL,zM,zN]
 refine aB 38 (by kernel_rfl) rfl (fun K hK=>?_)
 refine bW 43 rfl 53 (fun vs=>by kernel_rfl) #[.tmp 42,.func 83] _ rfl #[.slice ag eg.length cg,.func (.func 83) #[] #[]] (by first|rfl|simp[Act.eval]) (ab HG _ (ab Gv).bh) (by rfl) ?_
 rintro e w6 ⟨rfl,lr⟩
 have PN:=ak ((ab Gv).below lr)
 have LC:(fun w:World=>w.cell? ⟨w0.heap.size,0,none⟩=some (.string en)∧w.cell? ⟨w0.heap.size,1,none⟩=some (.slice av ev.length cv)∧w.cell? ⟨w0.heap.size,2,none⟩=some (.slice ar er.length cr)∧w.cell? ⟨w0.heap.size,3,none⟩=some (.slice ag eg.length cg)) w6:=eN (ab PN).cH
 refine ⟨_,rfl,hK _ _ ⟨fun _=>LC,?_⟩⟩
 clear hK K hT
 have hT:=LC
 clear LC
 simp only[Act.put,zL,zM,zN]
 clear lr Gv HG
 cases q5 with
 |false =>
  refine ct [39,40] 4 hT (by kernel_rfl) (fun t' ht=>?_) (by decide) (by kernel_rfl) (fun _ _ _ _ _ h=>h)
  go_wp2
  go_ret
  rw[ht]
  exact (ab PN).no
 |true =>
 refine aw 39 (.bool true) 44 rfl rfl (Or.inl ⟨by rfl,fun w hw=>by obtain ⟨bZ,bM,br,cx⟩:=hw;go_simp⟩) hT ?_
 simp only[Act.put,zL,zM,zN]
 refine aw 40 (.bool true) 4 rfl rfl (Or.inl ⟨by rfl,fun w hw=>by obtain ⟨bZ,bM,br,cx⟩:=hw;go_simp⟩) hT ?_
 simp only[Act.put,zL,zM,zN]
 refine aQ (by kernel_rfl) ?_
 go_wp2
 go_ret
 exact (ab PN).yes
theorem We {w:World}{cs:List Value}{l:List En} (h:qV w cs l) {i:Nat} (hi:i<l.length):∃vv vr vg,lJ 4 cs i=.agg #[.string l[i].name,vv,vr,vg]∧Rl w vv l[i].aW.length (mR l[i].aW)∧Rl w vr l[i].res.length (eP l[i].res)∧Rl w vg l[i].gone.length (bj l[i].gone):=by
 obtain ⟨vv,vr,vg,h1,h2⟩:=h.at i l[i] (List.getElem?_eq_getElem hi)
 refine ⟨vv,vr,vg,?_,h2⟩
 unfold lJ
 rw[h1]
theorem KM {W:World}{v:Value}{cs:List Value}{l:List En} (hv:Rl W v l.length cs) (he:qV W cs l) {b:Nat} (cK:W.heap.size≤b) (w0:World) (x:Int) (hw:Below W.heap.size W w0) (hj:JL b x w0) :
  Calls Tryz.prog 58 #[v,.func (.func 59) #[.pointer (some ⟨b,0,none⟩)] #[]] w0 (jM w0 (some b) (JL b) (gi fT l x)):=by
 have hS:eo false W.heap.size W (some b) (JL b) ⟨59,#[.pointer (some ⟨b,0,none⟩)],#[]⟩ (lJ 4 cs) l.length (fun i x=>((l[i]?).map fun e=>fT e x).getD none):=by
  intro i hi s w hb jO
  obtain ⟨vv,vr,vg,e1,h1,h2,h3⟩:=We he hi
  have e2:((l[i]?).map fun e=>fT e s).getD none=fT l[i] s:=by rw[List.getElem?_eq_getElem hi];rfl
  simp only[e1,e2,Bool.false_bne]
  show Calls Tryz.prog 59 #[.pointer (some ⟨b,0,none⟩),.agg #[.string l[i].name,vv,vr,vg]] w _
  exact Kn h1 h2 h3 cK w s hb jO
 have:=KR hv (fun vs w=>by kernel_rfl) hS (fun k e=>by obtain rfl:=zC e;exact cK) he.len w0 x hw hj (nA b) (fun k e=>by obtain rfl:=zC e;exact (zA hj.1).1)
 rwa [zt (l:=l) (q:=fT) (fun i x s hx=>by rw[hx];rfl) rfl] at this
noncomputable def Cw (nm:ByteArray) (fs:List Fd) (os:List ByteArray) (rs:List (Int×Int)) (gs:List ByteArray):Bool:=dG nm&&os.all dG&&fs.all eK&&MF fs os.length&&rs.all (pP 1 536870911)&&gs.all dG
noncomputable def mY:Nat→Ms→Int→Option Int
 |0,_,_=>none
 |f+1,.mk nm fs os ms es rs gs,x=>match kQ (fs.length+os.length+ms.length+es.length+rs.length+gs.length) x with
  |none=>none
  |some x1=>if Cw nm fs os rs gs then (match gi (mY f) ms x1 with
   |none=>none
   |some x2=>gi fT es x2) else none
def wm:Nat→Ms→Prop
 |0,_=>True
 |f+1,.mk _ fs _ ms _ _ _=>(∀d ∈ fs,d.ty.size≤281474976710656)∧∀m ∈ ms,wm f m
def K5 (f:Nat):Prop:=∀(W:World) (b:Nat) (m:Ms) vf vo vm ve vr vg nm fs os ms es rs gs cm ce,W.heap.size≤b→gj W→WH W m vf vo vm ve vr vg nm fs os ms es rs gs cm ce→wm f m→∀(w0:World) (x:Int),Below W.heap.size W w0→JL b x w0 →
 Calls Tryz.prog 57 #[.pointer (some ⟨b,0,none⟩),.agg #[.string nm,vf,vo,vm,ve,vr,vg],.int .i64 (33-(f:Int))] w0 (jM w0 (some b) (JL b) (mY f m x))
def JM (b g h:Nat) (deep:Int) (x:Int) (w:World):Prop:=JL b x w∧w.heap[g]?=some (.cells #[.pointer (some ⟨b,0,none⟩)] 126 (0,0))∧w.heap[h]?=some (.cells #[.int .i64 deep] 3 (0,0))
theorem Cg (b g h:Nat) (deep:Int):LI (JM b g h deep):=fun _ _ _ hj hg=>⟨nA b _ _ _ hj.1 hg,(hg.block _ (zA hj.2.1).1 (by simp)).trans hj.2.1,(hg.block _ (zA hj.2.2).1 (by simp)).trans hj.2.2⟩
theorem Po {w:World}{cs:List Value}{l:List Ms} (h:nS w cs l) {i:Nat} (hi:i<l.length):∃vf vo vm ve vr vg nm fs os ms es rs gs cm ce,lJ 7 cs i=.agg #[.string nm,vf,vo,vm,ve,vr,vg]∧WH w l[i] vf vo vm ve vr vg nm fs os ms es rs gs cm ce:=by
 obtain ⟨vf,vo,vm,ve,vr,vg,nm,fs,os,ms,es,rs,gs,cm,ce,h1,h2⟩:=h.at i l[i] (List.getElem?_eq_getElem hi)
 refine ⟨vf,vo,vm,ve,vr,vg,nm,fs,os,ms,es,rs,gs,cm,ce,?_,h2⟩
 unfold lJ
 rw[h1]
theorem kO {w:World}{b:Nat}{v0 v1 v2 v3 v4 v5 v6:Value}{t:TypeId} (hn:w.heap[b]?=some (.cells #[v0,v1,v2,v3,v4,v5,v6] t (0,0))):w.cell? ⟨b,0,none⟩=some v0∧w.cell? ⟨b,1,none⟩=some v1∧w.cell? ⟨b,2,none⟩=some v2∧w.cell? ⟨b,3,none⟩=some v3∧w.cell? ⟨b,4,none⟩=some v4∧w.cell? ⟨b,5,none⟩=some v5∧w.cell? ⟨b,6,none⟩=some v6 :=
 ⟨cell_of_row _ _ _ _ _ _ hn,cell_of_row _ _ _ _ _ _ hn,cell_of_row _ _ _ _ _ _ hn,cell_of_row _ _ _ _ _ _ hn,cell_of_row _ _ _ _ _ _ hn,cell_of_row _ _ _ _ _ _ hn,cell_of_row _ _ _ _ _ _ hn⟩
theorem UJ {w:World}{b g h:Nat}{deep x:Int}{nm:ByteArray}{vf vo vm ve vr vg:Value} (hj:JM b g h deep x w) (hd:-9223372036854775808≤deep∧deep<9223372036854775807) {R:Ending→World→Prop} (hc:Calls Tryz.prog 57 #[.pointer (some ⟨b,0,none⟩),.agg #[.string nm,vf,vo,vm,ve,vr,vg],.int .i64 (deep+1)] (w.alloc (.cells #[.string nm,vf,vo,vm,ve,vr,vg] 57)) (fun e w'=>(∃q,e=.returned (.bool q))∧R e w')) :
  Calls Tryz.prog 94 #[.agg #[.string nm,vf,vo,vm,ve,vr,vg],.pointer (some ⟨g,0,none⟩),.pointer (some ⟨h,0,none⟩)] w fun e w'=>(∃q,e=.returned (.bool q))∧R e w':=by
 obtain ⟨c0,c1,c2,c3,c4,c5,c6⟩:=kO (aE w (.cells #[.string nm,vf,vo,vm,ve,vr,vg] 57))
 have g0:(w.alloc (.cells #[.string nm,vf,vo,vm,ve,vr,vg] 57)).cell? ⟨g,0,none⟩=some (.pointer (some ⟨b,0,none⟩)):=cell_of_row _ _ _ _ _ _ ((Below.heap_alloc _ _ _ (zA hj.2.1).1).trans hj.2.1)
 have h0:(w.alloc (.cells #[.string nm,vf,vo,vm,ve,vr,vg] 57)).cell? ⟨h,0,none⟩=some (.int .i64 deep):=cell_of_row _ _ _ _ _ _ ((Below.heap_alloc _ _ _ (zA hj.2.2).1).trans hj.2.2)
 have HC:=ak hc
 obtain ⟨d0,d1⟩:=hd
 clear hj hc
 go_enter Tryz.func94,Tryz.ntmps94
 go_wp2_with fail
 refine (ab HC).mono ?_
 rintro e w1 ⟨⟨q,rfl⟩,hr⟩
 have HR:=ak hr
 clear hr HC
 go_wp2
 go_ret
 exact ⟨⟨_,rfl⟩,ab HR⟩
theorem Sm {f:Nat} (hf:f≤32) (ih:K5 f) {W:World} (hM:gj W) {v:Value}{cs:List Value}{l:List Ms} (hv:Rl W v l.length cs) (he:nS W cs l) (iL:∀m ∈ l,wm f m) {b g h:Nat} (cK:W.heap.size≤b) (GP:b≠g) (hbh:b≠h) (w0:World) (x:Int) (hw:Below W.heap.size W w0) (hj:JM b g h (32-(f:Int)) x w0) :
  Calls Tryz.prog 55 #[v,.func (.func 94) #[] #[.pointer (some ⟨g,0,none⟩),.pointer (some ⟨h,0,none⟩)]] w0 (jM w0 (some b) (JM b g h (32-(f:Int))) (gi (mY f) l x)):=by
 have hS:eo false W.heap.size W (some b) (JM b g h (32-(f:Int))) ⟨94,#[],#[.pointer (some ⟨g,0,none⟩),.pointer (some ⟨h,0,none⟩)]⟩ (lJ 7 cs) l.length (fun i x=>((l[i]?).map fun e=>mY f e x).getD none):=by
  intro i hi s w hb jO
  obtain ⟨vf,vo,vm,ve,vr,vg,nm,fs,os,ms,es,rs,gs,cm,ce,e1,h1⟩:=Po he hi
  have e2:((l[i]?).map fun e=>mY f e s).getD none=mY f l[i] s:=by rw[List.getElem?_eq_getElem hi];rfl
  simp only[e1,e2,Bool.false_bne]
  show Calls Tryz.prog 94 #[.agg #[.string nm,vf,vo,vm,ve,vr,vg],.pointer (some ⟨g,0,none⟩),.pointer (some ⟨h,0,none⟩)] w _
  refine (UJ (R:=fun e w'=>e=.returned (.bool (mY f l[i] s).isSome)∧(∀s',mY f l[i] s=some s'→JM b g h (32-(f:Int)) s' w')∧w.grownBy w' (some b)) jO (by omega) ?_).mono (fun _ _ h=>h.2)
  have Fz:=World.grownBy_alloc w (.cells #[.string nm,vf,vo,vm,ve,vr,vg] 57) none
  have Vq:=Cg b g h _ _ _ _ jO Fz
  have:=ih W b l[i] vf vo vm ve vr vg nm fs os ms es rs gs cm ce cK hM h1 (iL _ (List.getElem_mem hi)) _ s (hb.alloc hb.size _) Vq.1
  rw[show (32-(f:Int))+1=33-(f:Int) by omega]
  refine this.mono ?_
  rintro e w' ⟨rfl,we,fC⟩
  refine ⟨⟨_,rfl⟩,rfl,fun s' e=>⟨we s' e,?_,?_⟩,(World.grownBy_alloc _ _ _).trans fC⟩
  ·exact (fC.block _ (zA Vq.2.1).1 (by simpa using fun e=>GP e.symm)).trans Vq.2.1
  ·exact (fC.block _ (zA Vq.2.2).1 (by simpa using fun e=>hbh e.symm)).trans Vq.2.2
 have:=Bw hv (fun vs w=>by kernel_rfl) hS (fun k e=>by obtain rfl:=zC e;exact cK) he.len w0 x hw hj (Cg b g h _) (fun k e=>by obtain rfl:=zC e;exact (zA hj.1.1).1)
 rwa [zt (l:=l) (q:=mY f) (fun i x s hx=>by rw[hx];rfl) rfl] at this
end Go.Proofs.YtghioefalckgoaaGreatDoor

import Derived.Test.YtichhjfjcinjgaaGreatDoorM21
set_option maxHeartbeats 2000000
set_option maxRecDepth 100000
namespace Go.Proofs.YtichhjfjcinjgaaGreatDoor
open Go.RowKit
attribute [local go_sem ↓] Go.wp_at_zero Go.wp_at_succ
def JL (b:Nat) (x:Int) (w:World):Prop:=w.heap[b]?=some (.cells #[.int .i64 x] 76 (0,0))∧0≤x∧x≤4096
theorem nB (b:Nat):JE (JL b):=fun _ _ _ hj hg=>⟨(hg.block _ (zA hj.1).1 (by simp)).trans hj.1,hj.2⟩
def j8 (n:Nat) (x:Int):Option Int:=if 0≤x-n then some (x-n) else none
theorem pN {w:World}{b:Nat}{x:Int} (hj:JL b x w) (n:Nat) (hn:n≤1125899906842624):Calls Tryz.prog 35 #[.pointer (some ⟨b,0,none⟩),.int .i64 (n:Int)] w (jY w (some b) (JL b) (j8 n x)):=by
 obtain ⟨hb,B9,FD⟩:=hj
 have c0:w.cell? ⟨b,0,none⟩=some (.int .i64 x):=cell_of_row _ _ _ _ _ _ hb
 have f0:w.frozen? ⟨b,0,none⟩=false:=by simp[World.frozen?,hb]
 obtain ⟨r1,r2⟩:=bh (j:=0) hb (.int .i64 (x-n))
 have R1:=al (show (w.setCell ⟨b,0,none⟩ (.int .i64 (x-n))).heap[b]?=some (.cells #[.int .i64 (x-n)] 76 (0,0)) from r1)
 have R2:=al r2
 have c1:(w.setCell ⟨b,0,none⟩ (.int .i64 (x-n))).cell? ⟨b,0,none⟩=some (.int .i64 (x-n)):=cell_of_row _ _ _ _ _ _ (ab R1)
 have HX:=al (show x-n≤4096 by omega)
 clear r1 r2
 go_enter Tryz.func35,Tryz.ntmps35
 go_wp2
 go_ret
 unfold j8
 by_cases h:0≤x-n
 ·rw[if_pos h]
  refine ⟨?_,fun s' e=>?_,ab R2⟩
  ·simp;omega
  ·obtain rfl:=zC e
   exact ⟨ab R1,h,ab HX⟩
 ·rw[if_neg h]
  refine ⟨?_,fun s' e=>(by cases e),ab R2⟩
  simp;omega
structure Jd (W w0:World) (b g:Nat) (cs:Array Value) (t:TypeId) (x:Int) (w:World):Prop where
 bW:Below W.heap.size W w
 jl:JL b x w
 dq:w.heap[g]?=some (.cells cs t (0,0))
 xW:w0.grownBy w (some b)
theorem Jd.below {W w0 w w':World}{b g:Nat}{cs:Array Value}{t:TypeId}{x:Int} (h:Jd W w0 b g cs t x w) (hb:Below w.heap.size w w'):Jd W w0 b g cs t x w':=by
 have hg:w.grownBy w' none:=⟨hb.os,hb.tape,hb.output,hb.size,fun k hk _=>hb.block k hk⟩
 exact ⟨h.bW.trans (hb.mono h.bW.size),nB b _ _ _ h.jl hg,(hb.block _ (zA h.dq).1).trans h.dq,h.xW.trans ⟨hg.os,hg.tape,hg.output,hg.size,fun k hk _=>hb.block k hk⟩⟩
theorem Jd.go {W w0 w w':World}{b g:Nat}{cs:Array Value}{t:TypeId}{x x':Int} (h:Jd W w0 b g cs t x w) (dD:W.heap.size≤b) (Mb:b≠g) (hg:w.grownBy w' (some b)) (hj:JL b x' w'):Jd W w0 b g cs t x' w' :=
 ⟨ct h.bW hg h.bW.size (fun k e=>by obtain rfl:=zC e;exact dD),hj,(hg.block _ (zA h.dq).1 (by simpa using fun e=>Mb e.symm)).trans h.dq,h.xW.trans hg⟩
theorem Jd.no {W w0 w:World}{b g:Nat}{cs:Array Value}{t:TypeId}{x:Int} (h:Jd W w0 b g cs t x w):jY w0 (some b) (JL b) none (.returned (.bool false)) w:=⟨rfl,fun _ e=>(by cases e),h.xW⟩
theorem Jd.yes {W w0 w:World}{b g:Nat}{cs:Array Value}{t:TypeId}{x:Int} (h:Jd W w0 b g cs t x w):jY w0 (some b) (JL b) (some x) (.returned (.bool true)) w:=⟨rfl,fun _ e=>(by obtain rfl:=zC e;exact h.jl),h.xW⟩
noncomputable def bc (e:En):Bool:=bD e.name&&decide (0<e.aQ.length)&&e.aQ.all eB&&e.res.all (gf (-2147483648) 2147483647)&&e.gone.all bD
noncomputable def iC (e:En) (x:Int):Option Int:=match j8 (e.aQ.length+e.res.length+e.gone.length) x with
 |none=>none
 |some x1=>if bc e then some x1 else none
theorem a8 {w:World}{b:Nat}{v0 v1 v2 v3:Value}{t:TypeId} (hn:w.heap[b]?=some (.cells #[v0,v1,v2,v3] t (0,0))):w.cell? ⟨b,0,none⟩=some v0∧w.cell? ⟨b,1,none⟩=some v1∧w.cell? ⟨b,2,none⟩=some v2∧w.cell? ⟨b,3,none⟩=some v3 :=
 ⟨cell_of_row _ _ _ _ _ _ hn,cell_of_row _ _ _ _ _ _ hn,cell_of_row _ _ _ _ _ _ hn,cell_of_row _ _ _ _ _ _ hn⟩
theorem IA {W:World}{e:En}{vv vr vg:Value} (hv:Rl W vv e.aQ.length (qP e.aQ)) (hr:Rl W vr e.res.length (kQ e.res)) (hg:Rl W vg e.gone.length (bZ e.gone)) {b:Nat} (dD:W.heap.size≤b) (w0:World) (x:Int) (hw:Below W.heap.size W w0) (hj:JL b x w0) :
  Calls Tryz.prog 42 #[.pointer (some ⟨b,0,none⟩),.agg #[.string e.name,vv,vr,vg]] w0 (jY w0 (some b) (JL b) (iC e x)):=by
 have PL:b<w0.heap.size:=(zA hj.1).1
 have HJ:Hid (Jd W w0 b w0.heap.size #[.string e.name,vv,vr,vg] 67 x (w0.alloc (.cells #[.string e.name,vv,vr,vg] 67))):=⟨hw.alloc hw.size _,nB b _ _ _ hj (World.grownBy_alloc _ _ _),aK _ _,World.grownBy_alloc _ _ _⟩
 have HV:=al (fun w h=>Lq hv w h)
 have HR:=al (fun g h w k j=>DP (g:=g) (h:=h) (lo:=-2147483648) (hi:=2147483647) hr w k j)
 have HG:=al (fun w h=>o4 hg (fun vs w=>by kernel_rfl) ij w h)
 have HW:=al (fun w=>ij w e.name)
 obtain ⟨av,cv,rfl,Ap,-⟩:=hv
 obtain ⟨ar,cr,rfl,Tq,-⟩:=hr
 obtain ⟨ag,cg,rfl,Tr,-⟩:=hg
 have HC:=al (fun w j3=>pN (w:=w) (b:=b) (x:=x) j3 (e.aQ.length+e.res.length+e.gone.length) (by omega))
 have Hbg:=al (show b≠w0.heap.size by omega)
 have OK:=al dD
 unfold iC bc
 obtain ⟨en,ev,er,eg⟩:=e
 simp only at *
 obtain ⟨q1,h1⟩:∃q,bD en=q:=⟨_,rfl⟩
 obtain ⟨q2,h2⟩:∃q,decide (0<ev.length)=q:=⟨_,rfl⟩
 obtain ⟨q3,h3⟩:∃q,ev.all eB=q:=⟨_,rfl⟩
 obtain ⟨q4,h4⟩:∃q,er.all (gf (-2147483648) 2147483647)=q:=⟨_,rfl⟩
 obtain ⟨q5,h5⟩:∃q,eg.all bD=q:=⟨_,rfl⟩
 obtain ⟨lx,L4⟩:∃l,j8 (ev.length+er.length+eg.length) x=l:=⟨_,rfl⟩
 have e2:=al h2
 rw[h1] at HW ⊢
 rw[h3] at HV ⊢
 rw[h4] at HR ⊢
 rw[h5] at HG ⊢
 rw[L4] at HC ⊢
 rw[h2]
 obtain ⟨V,hV⟩:∃V,w0.alloc (.cells #[.string en,.slice av ev.length cv,.slice ar er.length cr,.slice ag eg.length cg] 67)=V:=⟨_,rfl⟩
 rw[hV] at HJ
 obtain ⟨c0,c1,c2,c3⟩:=a8 (ab HJ).dq
 clear h1 h2 h3 h4 h5 L4 dD PL hw hj
 have AW:=al ((ab HJ).below (below_drewN (zE _ _) 1))
 have hT:(fun w:World=>w.cell? ⟨w0.heap.size,0,none⟩=some (.string en)∧w.cell? ⟨w0.heap.size,1,none⟩=some (.slice av ev.length cv)∧w.cell? ⟨w0.heap.size,2,none⟩=some (.slice ar er.length cr)∧w.cell? ⟨w0.heap.size,3,none⟩=some (.slice ag eg.length cg)) V.drew:=a8 (ab AW).dq
 go_enter Tryz.func42,Tryz.ntmps42
 go_upto_region 1 with fail
 refine wp_region_any (by kernel_rfl) (bK (z:=99) (T:=fun w=>w.cell? ⟨w0.heap.size,0,none⟩=some (.string en)∧w.cell? ⟨w0.heap.size,1,none⟩=some (.slice av ev.length cv)∧w.cell? ⟨w0.heap.size,2,none⟩=some (.slice ar er.length cr)∧w.cell? ⟨w0.heap.size,3,none⟩=some (.slice ag eg.length cg)) _ _ _ _ ?_)
 try (change cc _ _ _ _ _ _ _ _ _ (World.drew _))
 refine aw 0 (.pointer (some ⟨b,0,none⟩)) 5 rfl rfl (Or.inl ⟨by rfl,fun w hw=>by obtain ⟨cO,cG,bM,c8⟩:=hw;go_simp⟩) hT ?_
 simp only[Act.put,zL,zM,zN]
 refine aw 1 (.pointer (some ⟨w0.heap.size,1,none⟩)) 6 rfl rfl (Or.inl ⟨by rfl,fun w hw=>by obtain ⟨cO,cG,bM,c8⟩:=hw;go_simp⟩) hT ?_
 simp only[Act.put,zL,zM,zN]
 refine aw 2 (.slice av ev.length cv) 7 rfl rfl (Or.inl ⟨by rfl,fun w hw=>by obtain ⟨cO,cG,bM,c8⟩:=hw;go_simp⟩) hT ?_
 simp only[Act.put,zL,zM,zN]
 refine aw 3 (.int .i64 ((ev.length:Nat):Int)) 8 rfl rfl (Or.inl ⟨by rfl,fun w hw=>by obtain ⟨cO,cG,bM,c8⟩:=hw;go_simp⟩) hT ?_
 simp only[Act.put,zL,zM,zN]
 refine aw 4 (.pointer (some ⟨w0.heap.size,2,none⟩)) 9 rfl rfl (Or.inl ⟨by rfl,fun w hw=>by obtain ⟨cO,cG,bM,c8⟩:=hw;go_simp⟩) hT ?_
 simp only[Act.put,zL,zM,zN]
 refine aw 5 (.slice ar er.length cr) 10 rfl rfl (Or.inl ⟨by rfl,fun w hw=>by obtain ⟨cO,cG,bM,c8⟩:=hw;go_simp⟩) hT ?_
 simp only[Act.put,zL,zM,zN]
 refine aw 6 (.int .i64 ((er.length:Nat):Int)) 11 rfl rfl (Or.inl ⟨by rfl,fun w hw=>by obtain ⟨cO,cG,bM,c8⟩:=hw;go_simp⟩) hT ?_
 simp only[Act.put,zL,zM,zN]
 refine aw 7 (.int .i64 ((ev.length+er.length:Nat):Int)) 12 rfl rfl (Or.inl ⟨by rfl,fun w hw=>by obtain ⟨cO,cG,bM,c8⟩:=hw;go_simp;exact IntWalk.i64_in _ (by omega)⟩) hT ?_
 simp only[Act.put,zL,zM,zN]
 refine aw 8 (.pointer (some ⟨w0.heap.size,3,none⟩)) 13 rfl rfl (Or.inl ⟨by rfl,fun w hw=>by obtain ⟨cO,cG,bM,c8⟩:=hw;go_simp⟩) hT ?_
 simp only[Act.put,zL,zM,zN]
 refine aw 9 (.slice ag eg.length cg) 14 rfl rfl (Or.inl ⟨by rfl,fun w hw=>by obtain ⟨cO,cG,bM,c8⟩:=hw;go_simp⟩) hT ?_
 simp only[Act.put,zL,zM,zN]
 refine aw 10 (.int .i64 ((eg.length:Nat):Int)) 15 rfl rfl (Or.inl ⟨by rfl,fun w hw=>by obtain ⟨cO,cG,bM,c8⟩:=hw;go_simp⟩) hT ?_
 simp only[Act.put,zL,zM,zN]
 refine aw 11 (.int .i64 ((ev.length+er.length+eg.length:Nat):Int)) 16 rfl rfl (Or.inl ⟨by rfl,fun w hw=>by obtain ⟨cO,cG,bM,c8⟩:=hw;go_simp;exact IntWalk.i64_in _ (by omega)⟩) hT ?_
 simp only[Act.put,zL,zM,zN]
 refine aF 12 (by kernel_rfl) rfl (fun K hK=>?_)
 refine aO 17 rfl rfl 35 (fun vs=>by kernel_rfl) #[.tmp 5,.tmp 16] #[113,3] rfl #[.pointer (some ⟨b,0,none⟩),.int .i64 ((ev.length+er.length+eg.length:Nat):Int)] (by first|rfl|simp[Act.eval]) (ab HC _ (ab AW).jl) ?_
 rintro e w1 ⟨rfl,ki,dM⟩
 cases lx with
 |none =>
  have HN:=al (show w0.grownBy w1 (some b) from (ab AW).xW.trans dM)
  have qC:(fun w:World=>w.cell? ⟨w0.heap.size,0,none⟩=some (.string en)∧w.cell? ⟨w0.heap.size,1,none⟩=some (.slice av ev.length cv)∧w.cell? ⟨w0.heap.size,2,none⟩=some (.slice ar er.length cr)∧w.cell? ⟨w0.heap.size,3,none⟩=some (.slice ag eg.length cg)) w1:=a8 ((dM.block _ (zA (ab AW).dq).1 (by simpa using fun e=>ab Hbg e.symm)).trans (ab AW).dq)
  refine ⟨_,rfl,hK _ _ ⟨fun _=>qC,?_⟩⟩
  clear hK K hT ki dM
  have hT:=qC
  clear qC
  simp only[Option.isSome_none]
  simp only[Act.put,zL,zM,zN]
  refine cU [13,14,15,16,17,18,19,20,21,22,23,24,25,26,27,28,29,30,31,32,33,34,35,36,37,38,39,40] 4 hT (by kernel_rfl) (fun t' ht=>?_) (by decide) (by kernel_rfl) (fun _ _ _ _ _ h=>h)
  go_wp2
  go_ret
  rw[ht]
  exact ⟨rfl,fun _ e=>(by cases e),ab HN⟩
 |some x1 =>
 simp only[Option.isSome_some]
 have qI:=al ((ab AW).go (ab OK) (ab Hbg) dM (ki _ rfl))
 have qC:(fun w:World=>w.cell? ⟨w0.heap.size,0,none⟩=some (.string en)∧w.cell? ⟨w0.heap.size,1,none⟩=some (.slice av ev.length cv)∧w.cell? ⟨w0.heap.size,2,none⟩=some (.slice ar er.length cr)∧w.cell? ⟨w0.heap.size,3,none⟩=some (.slice ag eg.length cg)) w1:=a8 (ab qI).dq
 refine ⟨_,rfl,hK _ _ ⟨fun _=>qC,?_⟩⟩
 clear hK K hT
 have hT:=qC
 clear qC
 simp only[Act.put,zL,zM,zN]
 clear ki dM AW HC
 refine aw 13 (.bool true) 18 rfl rfl (Or.inl ⟨by rfl,fun w hw=>by obtain ⟨cO,cG,bM,c8⟩:=hw;go_simp⟩) hT ?_
 simp only[Act.put,zL,zM,zN]
 refine aw 14 (.pointer (some ⟨w0.heap.size,0,none⟩)) 19 rfl rfl (Or.inl ⟨by rfl,fun w hw=>by obtain ⟨cO,cG,bM,c8⟩:=hw;go_simp⟩) hT ?_
 simp only[Act.put,zL,zM,zN]
 refine aw 15 (.string en) 20 rfl rfl (Or.inl ⟨by rfl,fun w hw=>by obtain ⟨cO,cG,bM,c8⟩:=hw;go_simp⟩) hT ?_
 simp only[Act.put,zL,zM,zN]
 refine aF 16 (by kernel_rfl) rfl (fun K hK=>?_)
 refine cP 21 rfl 64 (fun vs=>by kernel_rfl) #[.tmp 20] #[9] rfl #[.string en] (by first|rfl|simp[Act.eval]) (ab HW _) (by rfl) ?_
 rintro e w2 ⟨rfl,rfl⟩
 refine ⟨_,rfl,hK _ _ ⟨fun _=>hT,?_⟩⟩
 clear hK K HW
 simp only[Act.put,zL,zM,zN]
 cases q1 with
 |false =>
  refine cU [17,18,19,20,21,22,23,24,25,26,27,28,29,30,31,32,33,34,35,36,37,38,39,40] 4 hT (by kernel_rfl) (fun t' ht=>?_) (by decide) (by kernel_rfl) (fun _ _ _ _ _ h=>h)
  go_wp2
  go_ret
  rw[ht]
  exact (ab qI).no
 |true =>
 refine aw 17 (.bool true) 22 rfl rfl (Or.inl ⟨by rfl,fun w hw=>by obtain ⟨cO,cG,bM,c8⟩:=hw;go_simp⟩) hT ?_
 simp only[Act.put,zL,zM,zN]
 refine aw 18 (.bool true) 23 rfl rfl (Or.inl ⟨by rfl,fun w hw=>by obtain ⟨cO,cG,bM,c8⟩:=hw;go_simp⟩) hT ?_
 simp only[Act.put,zL,zM,zN]
 refine aw 19 (.pointer (some ⟨w0.heap.size,1,none⟩)) 24 rfl rfl (Or.inl ⟨by rfl,fun w hw=>by obtain ⟨cO,cG,bM,c8⟩:=hw;go_simp⟩) hT ?_
 simp only[Act.put,zL,zM,zN]
 refine aw 20 (.slice av ev.length cv) 25 rfl rfl (Or.inl ⟨by rfl,fun w hw=>by obtain ⟨cO,cG,bM,c8⟩:=hw;go_simp⟩) hT ?_
 simp only[Act.put,zL,zM,zN]
 refine aw 21 (.int .i64 ((ev.length:Nat):Int)) 26 rfl rfl (Or.inl ⟨by rfl,fun w hw=>by obtain ⟨cO,cG,bM,c8⟩:=hw;go_simp⟩) hT ?_
 simp only[Act.put,zL,zM,zN]
 refine aw 22 (.bool q2) 27 rfl rfl (Or.inl ⟨by rfl,fun w hw=>by obtain ⟨cO,cG,bM,c8⟩:=hw;go_simp;exact e2⟩) hT ?_
 simp only[Act.put,zL,zM,zN]
 cases q2 with
 |false =>
  refine cU [23,24,25,26,27,28,29,30,31,32,33,34,35,36,37,38,39,40] 4 hT (by kernel_rfl) (fun t' ht=>?_) (by decide) (by kernel_rfl) (fun _ _ _ _ _ h=>h)
  go_wp2
  go_ret
  rw[ht]
  exact (ab qI).no
 |true =>
 refine aw 23 (.bool true) 28 rfl rfl (Or.inl ⟨by rfl,fun w hw=>by obtain ⟨cO,cG,bM,c8⟩:=hw;go_simp⟩) hT ?_
 simp only[Act.put,zL,zM,zN]
 refine aw 24 (.bool true) 29 rfl rfl (Or.inl ⟨by rfl,fun w hw=>by obtain ⟨cO,cG,bM,c8⟩:=hw;go_simp⟩) hT ?_
 simp only[Act.put,zL,zM,zN]
 refine aw 25 (.pointer (some ⟨w0.heap.size,1,none⟩)) 30 rfl rfl (Or.inl ⟨by rfl,fun w hw=>by obtain ⟨cO,cG,bM,c8⟩:=hw;go_simp⟩) hT ?_
 simp only[Act.put,zL,zM,zN]
 refine aw 26 (.slice av ev.length cv) 31 rfl rfl (Or.inl ⟨by rfl,fun w hw=>by obtain ⟨cO,cG,bM,c8⟩:=hw;go_simp⟩) hT ?_
 simp only[Act.put,zL,zM,zN]
 refine aF 27 (by kernel_rfl) rfl (fun K hK=>?_)
 refine cP 32 rfl 78 (fun vs=>by kernel_rfl) #[.tmp 31,.func 79] #[65,122] rfl #[.slice av ev.length cv,.func (.func 79) #[] #[]] (by first|rfl|simp[Act.eval]) (ab HV _ (ab qI).bW) (by rfl) ?_
 rintro e w3 ⟨rfl,cE⟩
 have qH:=al ((ab qI).below cE)
 have yB:(fun w:World=>w.cell? ⟨w0.heap.size,0,none⟩=some (.string en)∧w.cell? ⟨w0.heap.size,1,none⟩=some (.slice av ev.length cv)∧w.cell? ⟨w0.heap.size,2,none⟩=some (.slice ar er.length cr)∧w.cell? ⟨w0.heap.size,3,none⟩=some (.slice ag eg.length cg)) w3:=a8 (ab qH).dq
 refine ⟨_,rfl,hK _ _ ⟨fun _=>yB,?_⟩⟩
 clear hK K hT
 have hT:=yB
 clear yB
 simp only[Act.put,zL,zM,zN]
 clear cE qI HV
 cases q3 with
 |false =>
  refine cU [28,29,30,31,32,33,34,35,36,37,38,39,40] 4 hT (by kernel_rfl) (fun t' ht=>?_) (by decide) (by kernel_rfl) (fun _ _ _ _ _ h=>h)
  go_wp2
  go_ret
  rw[ht]
  exact (ab qH).no
 |true =>
 refine aw 28 (.bool true) 33 rfl rfl (Or.inl ⟨by rfl,fun w hw=>by obtain ⟨cO,cG,bM,c8⟩:=hw;go_simp⟩) hT ?_
 simp only[Act.put,zL,zM,zN]
 refine aw 29 (.bool true) 34 rfl rfl (Or.inl ⟨by rfl,fun w hw=>by obtain ⟨cO,cG,bM,c8⟩:=hw;go_simp⟩) hT ?_
 simp only[Act.put,zL,zM,zN]
 refine aw 30 (.pointer (some ⟨w0.heap.size,2,none⟩)) 35 rfl rfl (Or.inl ⟨by rfl,fun w hw=>by obtain ⟨cO,cG,bM,c8⟩:=hw;go_simp⟩) hT ?_
 simp only[Act.put,zL,zM,zN]
 refine aw 31 (.slice ar er.length cr) 36 rfl rfl (Or.inl ⟨by rfl,fun w hw=>by obtain ⟨cO,cG,bM,c8⟩:=hw;go_simp⟩) hT ?_
 simp only[Act.put,zL,zM,zN]
 refine aF 32 (by kernel_rfl) rfl (fun K hK=>?_)
 refine cP 37 rfl 74 (fun vs=>by kernel_rfl) #[.const (.int .i64 (-2147483648)),.const (.int .i64 2147483647)] #[3,3] rfl #[.int .i64 (-2147483648),.int .i64 2147483647] (by first|rfl|simp[Act.eval]) (wC _ _ _) (by rfl) ?_
 rintro e w4 ⟨rfl,eG⟩
 have gT:Below w3.heap.size w3 w4:=by rw[eG];exact ((zE _ _).alloc (zD _) _).alloc (by rw[zJ];omega) _
 have LF:Hid (Fi w3.heap.size (w3.heap.size+1) (-2147483648) 2147483647 () w4):=by
  rw[eG]
  refine ⟨(Below.heap_alloc _ _ _ (by rw[zJ];omega)).trans (aK _ _),?_⟩
  have:=aK (w3.alloc (.cells #[.int .i64 (-2147483648)] 3)) (.cells #[.int .i64 2147483647] 3)
  rw[zJ] at this
  exact this
 have vh:=al ((ab qH).below gT)
 have Bb:(fun w:World=>w.cell? ⟨w0.heap.size,0,none⟩=some (.string en)∧w.cell? ⟨w0.heap.size,1,none⟩=some (.slice av ev.length cv)∧w.cell? ⟨w0.heap.size,2,none⟩=some (.slice ar er.length cr)∧w.cell? ⟨w0.heap.size,3,none⟩=some (.slice ag eg.length cg)) w4:=a8 (ab vh).dq
 refine ⟨_,rfl,hK _ _ ⟨fun _=>Bb,?_⟩⟩
 clear hK K hT
 have hT:=Bb
 clear Bb
 simp only[Act.put,zL,zM,zN]
 clear gT qH eG
 refine aF 33 (by kernel_rfl) rfl (fun K hK=>?_)
 refine cP 38 rfl 73 (fun vs=>by kernel_rfl) #[.tmp 36,.tmp 37] #[44,119] rfl #[.slice ar er.length cr,.func (.func 120) #[] #[.pointer (some ⟨w3.heap.size,0,none⟩),.pointer (some ⟨w3.heap.size+1,0,none⟩)]] (by first|rfl|simp[Act.eval]) (ab HR _ _ _ (ab vh).bW (ab LF)) (by rfl) ?_
 rintro e w5 ⟨rfl,nS⟩
 have Fw:=al ((ab vh).below nS)
 have uu:(fun w:World=>w.cell? ⟨w0.heap.size,0,none⟩=some (.string en)∧w.cell? ⟨w0.heap.size,1,none⟩=some (.slice av ev.length cv)∧w.cell? ⟨w0.heap.size,2,none⟩=some (.slice ar er.length cr)∧w.cell? ⟨w0.heap.size,3,none⟩=some (.slice ag eg.length cg)) w5:=a8 (ab Fw).dq
 refine ⟨_,rfl,hK _ _ ⟨fun _=>uu,?_⟩⟩
 clear hK K hT
 have hT:=uu
 clear uu
 simp only[Act.put,zL,zM,zN]
 clear nS vh HR LF
 cases q4 with
 |false =>
  refine cU [34,35,36,37,38,39,40] 4 hT (by kernel_rfl) (fun t' ht=>?_) (by decide) (by kernel_rfl) (fun _ _ _ _ _ h=>h)
  go_wp2
  go_ret
  rw[ht]
  exact (ab Fw).no
 |true =>
 refine aw 34 (.bool true) 39 rfl rfl (Or.inl ⟨by rfl,fun w hw=>by obtain ⟨cO,cG,bM,c8⟩:=hw;go_simp⟩) hT ?_
 simp only[Act.put,zL,zM,zN]
 refine aw 35 (.bool true) 40 rfl rfl (Or.inl ⟨by rfl,fun w hw=>by obtain ⟨cO,cG,bM,c8⟩:=hw;go_simp⟩) hT ?_
 simp only[Act.put,zL,zM,zN]
 refine aw 36 (.pointer (some ⟨w0.heap.size,3,none⟩)) 41 rfl rfl (Or.inl ⟨by rfl,fun w hw=>by obtain ⟨cO,cG,bM,c8⟩:=hw;go_simp⟩) hT ?_
 simp only[Act.put,zL,zM,zN]
 refine aw 37 (.slice ag eg.length cg) 42 rfl rfl (Or.inl ⟨by rfl,fun w hw=>by obtain ⟨cO,cG,bM,c8⟩:=hw;go_simp⟩) hT ?_
 simp only[Act.put,zL,zM,zN]
 refine aF 38 (by kernel_rfl) rfl (fun K hK=>?_)
 refine cP 43 rfl 36 (fun vs=>by kernel_rfl) #[.tmp 42,.func 64] #[22,77] rfl #[.slice ag eg.length cg,.func (.func 64) #[] #[]] (by first|rfl|simp[Act.eval]) (ab HG _ (ab Fw).bW) (by rfl) ?_
 rintro e w6 ⟨rfl,oL⟩
 have MC:=al ((ab Fw).below oL)
 have JA:(fun w:World=>w.cell? ⟨w0.heap.size,0,none⟩=some (.string en)∧w.cell? ⟨w0.heap.size,1,none⟩=some (.slice av ev.length cv)∧w.cell? ⟨w0.heap.size,2,none⟩=some (.slice ar er.length cr)∧w.cell? ⟨w0.heap.size,3,none⟩=some (.slice ag eg.length cg)) w6:=a8 (ab MC).dq
 refine ⟨_,rfl,hK _ _ ⟨fun _=>JA,?_⟩⟩
 clear hK K hT
 have hT:=JA
 clear JA
 simp only[Act.put,zL,zM,zN]
 clear oL Fw HG
 cases q5 with
 |false =>
  refine cU [39,40] 4 hT (by kernel_rfl) (fun t' ht=>?_) (by decide) (by kernel_rfl) (fun _ _ _ _ _ h=>h)
  go_wp2
  go_ret
  rw[ht]
  exact (ab MC).no
 |true =>
 refine aw 39 (.bool true) 44 rfl rfl (Or.inl ⟨by rfl,fun w hw=>by obtain ⟨cO,cG,bM,c8⟩:=hw;go_simp⟩) hT ?_
 simp only[Act.put,zL,zM,zN]
 refine aw 40 (.bool true) 4 rfl rfl (Or.inl ⟨by rfl,fun w hw=>by obtain ⟨cO,cG,bM,c8⟩:=hw;go_simp⟩) hT ?_
 simp only[Act.put,zL,zM,zN]
 refine aZ (by kernel_rfl) ?_
 go_wp2
 go_ret
 exact (ab MC).yes
theorem Sh {w:World}{cs:List Value}{l:List En} (h:vl w cs l) {i:Nat} (hi:i<l.length):∃vv vr vg,lE 4 cs i=.agg #[.string l[i].name,vv,vr,vg]∧Rl w vv l[i].aQ.length (qP l[i].aQ)∧Rl w vr l[i].res.length (kQ l[i].res)∧Rl w vg l[i].gone.length (bZ l[i].gone):=by
 obtain ⟨vv,vr,vg,h1,h2⟩:=h.at i l[i] (List.getElem?_eq_getElem hi)
 refine ⟨vv,vr,vg,?_,h2⟩
 unfold lE
 rw[h1]
theorem IX {W:World}{v:Value}{cs:List Value}{l:List En} (hv:Rl W v l.length cs) (he:vl W cs l) {b:Nat} (dD:W.heap.size≤b) (w0:World) (x:Int) (hw:Below W.heap.size W w0) (hj:JL b x w0) :
  Calls Tryz.prog 41 #[v,.func (.func 42) #[.pointer (some ⟨b,0,none⟩)] #[]] w0 (jY w0 (some b) (JL b) (jV iC l x)):=by
 have hS:eU false W.heap.size W (some b) (JL b) ⟨42,#[.pointer (some ⟨b,0,none⟩)],#[]⟩ (lE 4 cs) l.length (fun i x=>((l[i]?).map fun e=>iC e x).getD none):=by
  intro i hi s w hb j3
  obtain ⟨vv,vr,vg,e1,h1,h2,h3⟩:=Sh he hi
  have e2:((l[i]?).map fun e=>iC e s).getD none=iC l[i] s:=by rw[List.getElem?_eq_getElem hi];rfl
  simp only[e1,e2,Bool.false_bne]
  show Calls Tryz.prog 42 #[.pointer (some ⟨b,0,none⟩),.agg #[.string l[i].name,vv,vr,vg]] w _
  exact IA h1 h2 h3 dD w s hb j3
 have:=I2 hv (fun vs w=>by kernel_rfl) hS (fun k e=>by obtain rfl:=zC e;exact dD) he.len w0 x hw hj (nB b) (fun k e=>by obtain rfl:=zC e;exact (zA hj.1).1)
 rwa [yi (l:=l) (q:=iC) (fun i x s hx=>by rw[hx];rfl) rfl] at this
noncomputable def tL (nm:ByteArray) (fs:List Fd) (os:List ByteArray) (rs:List (Int×Int)) (gs:List ByteArray):Bool:=bD nm&&os.all bD&&fs.all cK&&A3 fs os.length&&rs.all (gf 1 536870911)&&gs.all bD
noncomputable def nG:Nat→Ms→Int→Option Int
 |0,_,_=>none
 |f+1,.mk nm fs os ms es rs gs,x=>match j8 (fs.length+os.length+ms.length+es.length+rs.length+gs.length) x with
  |none=>none
  |some x1=>if tL nm fs os rs gs then (match jV (nG f) ms x1 with
   |none=>none
   |some x2=>jV iC es x2) else none
def vM:Nat→Ms→Prop
 |0,_=>True
 |f+1,.mk _ fs _ ms _ _ _=>(∀d ∈ fs,d.ty.size≤281474976710656)∧∀m ∈ ms,vM f m
def I9 (f:Nat):Prop:=∀(W:World) (b:Nat) (m:Ms) vf vo vm ve vr vg nm fs os ms es rs gs cm ce,W.heap.size≤b→ia W→Lw W m vf vo vm ve vr vg nm fs os ms es rs gs cm ce→vM f m→∀(w0:World) (x:Int),Below W.heap.size W w0→JL b x w0 →
 Calls Tryz.prog 40 #[.pointer (some ⟨b,0,none⟩),.agg #[.string nm,vf,vo,vm,ve,vr,vg],.int .i64 (33-(f:Int))] w0 (jY w0 (some b) (JL b) (nG f m x))
def JM (b g h:Nat) (deep:Int) (x:Int) (w:World):Prop:=JL b x w∧w.heap[g]?=some (.cells #[.pointer (some ⟨b,0,none⟩)] 113 (0,0))∧w.heap[h]?=some (.cells #[.int .i64 deep] 3 (0,0))
theorem Bs (b g h:Nat) (deep:Int):JE (JM b g h deep):=fun _ _ _ hj hg=>⟨nB b _ _ _ hj.1 hg,(hg.block _ (zA hj.2.1).1 (by simp)).trans hj.2.1,(hg.block _ (zA hj.2.2).1 (by simp)).trans hj.2.2⟩
theorem Ml {w:World}{cs:List Value}{l:List Ms} (h:tf w cs l) {i:Nat} (hi:i<l.length):∃vf vo vm ve vr vg nm fs os ms es rs gs cm ce,lE 7 cs i=.agg #[.string nm,vf,vo,vm,ve,vr,vg]∧Lw w l[i] vf vo vm ve vr vg nm fs os ms es rs gs cm ce:=by
 obtain ⟨vf,vo,vm,ve,vr,vg,nm,fs,os,ms,es,rs,gs,cm,ce,h1,h2⟩:=h.at i l[i] (List.getElem?_eq_getElem hi)
 refine ⟨vf,vo,vm,ve,vr,vg,nm,fs,os,ms,es,rs,gs,cm,ce,?_,h2⟩
 unfold lE
 rw[h1]
theorem kE {w:World}{b:Nat}{v0 v1 v2 v3 v4 v5 v6:Value}{t:TypeId} (hn:w.heap[b]?=some (.cells #[v0,v1,v2,v3,v4,v5,v6] t (0,0))):w.cell? ⟨b,0,none⟩=some v0∧w.cell? ⟨b,1,none⟩=some v1∧w.cell? ⟨b,2,none⟩=some v2∧w.cell? ⟨b,3,none⟩=some v3∧w.cell? ⟨b,4,none⟩=some v4∧w.cell? ⟨b,5,none⟩=some v5∧w.cell? ⟨b,6,none⟩=some v6 :=
 ⟨cell_of_row _ _ _ _ _ _ hn,cell_of_row _ _ _ _ _ _ hn,cell_of_row _ _ _ _ _ _ hn,cell_of_row _ _ _ _ _ _ hn,cell_of_row _ _ _ _ _ _ hn,cell_of_row _ _ _ _ _ _ hn,cell_of_row _ _ _ _ _ _ hn⟩
theorem QT {w:World}{b g h:Nat}{deep x:Int}{nm:ByteArray}{vf vo vm ve vr vg:Value} (hj:JM b g h deep x w) (hd:-9223372036854775808≤deep∧deep<9223372036854775807) {R:Ending→World→Prop} (hc:Calls Tryz.prog 40 #[.pointer (some ⟨b,0,none⟩),.agg #[.string nm,vf,vo,vm,ve,vr,vg],.int .i64 (deep+1)] (w.alloc (.cells #[.string nm,vf,vo,vm,ve,vr,vg] 46)) (fun e w'=>(∃q,e=.returned (.bool q))∧R e w')) :
  Calls Tryz.prog 75 #[.agg #[.string nm,vf,vo,vm,ve,vr,vg],.pointer (some ⟨g,0,none⟩),.pointer (some ⟨h,0,none⟩)] w fun e w'=>(∃q,e=.returned (.bool q))∧R e w':=by
 obtain ⟨c0,c1,c2,c3,c4,c5,c6⟩:=kE (aK w (.cells #[.string nm,vf,vo,vm,ve,vr,vg] 46))
 have g0:(w.alloc (.cells #[.string nm,vf,vo,vm,ve,vr,vg] 46)).cell? ⟨g,0,none⟩=some (.pointer (some ⟨b,0,none⟩)):=cell_of_row _ _ _ _ _ _ ((Below.heap_alloc _ _ _ (zA hj.2.1).1).trans hj.2.1)
 have h0:(w.alloc (.cells #[.string nm,vf,vo,vm,ve,vr,vg] 46)).cell? ⟨h,0,none⟩=some (.int .i64 deep):=cell_of_row _ _ _ _ _ _ ((Below.heap_alloc _ _ _ (zA hj.2.2).1).trans hj.2.2)
 have HC:=al hc
 obtain ⟨d0,d1⟩:=hd
 clear hj hc
 go_enter Tryz.func75,Tryz.ntmps75
 go_wp2_with fail
 refine (ab HC).mono ?_
 rintro e w1 ⟨⟨q,rfl⟩,hr⟩
 have HR:=al hr
 clear hr HC
 go_wp2
 go_ret
 exact ⟨⟨_,rfl⟩,ab HR⟩
theorem Ot {f:Nat} (hf:f≤32) (ih:I9 f) {W:World} (hM:ia W) {v:Value}{cs:List Value}{l:List Ms} (hv:Rl W v l.length cs) (he:tf W cs l) (kI:∀m ∈ l,vM f m) {b g h:Nat} (dD:W.heap.size≤b) (Mb:b≠g) (Wi:b≠h) (w0:World) (x:Int) (hw:Below W.heap.size W w0) (hj:JM b g h (32-(f:Int)) x w0) :
  Calls Tryz.prog 38 #[v,.func (.func 75) #[] #[.pointer (some ⟨g,0,none⟩),.pointer (some ⟨h,0,none⟩)]] w0 (jY w0 (some b) (JM b g h (32-(f:Int))) (jV (nG f) l x)):=by
 have hS:eU false W.heap.size W (some b) (JM b g h (32-(f:Int))) ⟨75,#[],#[.pointer (some ⟨g,0,none⟩),.pointer (some ⟨h,0,none⟩)]⟩ (lE 7 cs) l.length (fun i x=>((l[i]?).map fun e=>nG f e x).getD none):=by
  intro i hi s w hb j3
  obtain ⟨vf,vo,vm,ve,vr,vg,nm,fs,os,ms,es,rs,gs,cm,ce,e1,h1⟩:=Ml he hi
  have e2:((l[i]?).map fun e=>nG f e s).getD none=nG f l[i] s:=by rw[List.getElem?_eq_getElem hi];rfl
  simp only[e1,e2,Bool.false_bne]
  show Calls Tryz.prog 75 #[.agg #[.string nm,vf,vo,vm,ve,vr,vg],.pointer (some ⟨g,0,none⟩),.pointer (some ⟨h,0,none⟩)] w _
  refine (QT (R:=fun e w'=>e=.returned (.bool (nG f l[i] s).isSome)∧(∀s',nG f l[i] s=some s'→JM b g h (32-(f:Int)) s' w')∧w.grownBy w' (some b)) j3 (by omega) ?_).mono (fun _ _ h=>h.2)
  have EO:=World.grownBy_alloc w (.cells #[.string nm,vf,vo,vm,ve,vr,vg] 46) none
  have RE:=Bs b g h _ _ _ _ j3 EO
  have:=ih W b l[i] vf vo vm ve vr vg nm fs os ms es rs gs cm ce dD hM h1 (kI _ (List.getElem_mem hi)) _ s (hb.alloc hb.size _) RE.1
  rw[show (32-(f:Int))+1=33-(f:Int) by omega]
  refine this.mono ?_
  rintro e w' ⟨rfl,xS,kJ⟩
  refine ⟨⟨_,rfl⟩,rfl,fun s' e=>⟨xS s' e,?_,?_⟩,(World.grownBy_alloc _ _ _).trans kJ⟩
  ·exact (kJ.block _ (zA RE.2.1).1 (by simpa using fun e=>Mb e.symm)).trans RE.2.1
  ·exact (kJ.block _ (zA RE.2.2).1 (by simpa using fun e=>Wi e.symm)).trans RE.2.2
 have:=AN hv (fun vs w=>by kernel_rfl) hS (fun k e=>by obtain rfl:=zC e;exact dD) he.len w0 x hw hj (Bs b g h _) (fun k e=>by obtain rfl:=zC e;exact (zA hj.1.1).1)
 rwa [yi (l:=l) (q:=nG f) (fun i x s hx=>by rw[hx];rfl) rfl] at this
end Go.Proofs.YtichhjfjcinjgaaGreatDoor

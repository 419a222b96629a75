import Derived.Test.YtichhjfjcinjgaaGreatDoorM21
set_option maxHeartbeats 2000000
set_option maxRecDepth 100000
namespace Go.Proofs.YtichhjfjcinjgaaGreatDoor
open Go.RowKit
attribute [local go_sem ↓] Go.wp_at_zero Go.wp_at_succ
def JL (b:Nat) (x:Int) (w:World):Prop:=w.heap[b]?=some (.cells #[.int .i64 x] 76 (0,0))∧0≤x∧x≤4096
theorem nX (b:Nat):Kc (JL b):=fun _ _ _ hj hg=>⟨(hg.block _ (zA hj.1).1 (by simp)).trans hj.1,hj.2⟩
def ks (n:Nat) (x:Int):Option Int:=if 0≤x-n then some (x-n) else none
theorem qh {w:World}{b:Nat}{x:Int} (hj:JL b x w) (n:Nat) (hn:n≤1125899906842624):Calls Tryz.prog 35 #[.pointer (some ⟨b,0,none⟩),.int .i64 (n:Int)] w (kd w (some b) (JL b) (ks n x)):=by
 obtain ⟨hb,Cx,F'⟩:=hj
 have c0:w.cell? ⟨b,0,none⟩=some (.int .i64 x):=cell_of_row _ _ _ _ _ _ hb
 have f0:w.frozen? ⟨b,0,none⟩=false:=by simp[World.frozen?,hb]
 obtain ⟨r1,r2⟩:=bh (j:=0) hb (.int .i64 (x-n))
 have R1:=al (show (w.setCell ⟨b,0,none⟩ (.int .i64 (x-n))).heap[b]?=some (.cells #[.int .i64 (x-n)] 76 (0,0)) from r1)
 have R2:=al r2
 have c1:(w.setCell ⟨b,0,none⟩ (.int .i64 (x-n))).cell? ⟨b,0,none⟩=some (.int .i64 (x-n)):=cell_of_row _ _ _ _ _ _ (ab R1)
 have HX:=al (show x-n≤4096 by omega)
 clear r1 r2
 go_enter Tryz.func35,Tryz.ntmps35
 go_wp2
 go_ret
 unfold ks
 by_cases h:0≤x-n
 ·rw[if_pos h]
  refine ⟨?_,fun s' e=>?_,ab R2⟩
  ·simp;omega
  ·obtain rfl:=zC e
   exact ⟨ab R1,h,ab HX⟩
 ·rw[if_neg h]
  refine ⟨?_,fun s' e=>(by cases e),ab R2⟩
  simp;omega
structure Jd (W w0:World) (b g:Nat) (cs:Array Value) (t:TypeId) (x:Int) (w:World):Prop where
 bU:Below W.heap.size W w
 jl:JL b x w
 dt:w.heap[g]?=some (.cells cs t (0,0))
 yz:w0.grownBy w (some b)
theorem Jd.below {W w0 w w':World}{b g:Nat}{cs:Array Value}{t:TypeId}{x:Int} (h:Jd W w0 b g cs t x w) (hb:Below w.heap.size w w'):Jd W w0 b g cs t x w':=by
 have hg:w.grownBy w' none:=⟨hb.os,hb.tape,hb.output,hb.size,fun k hk _=>hb.block k hk⟩
 exact ⟨h.bU.trans (hb.mono h.bU.size),nX b _ _ _ h.jl hg,(hb.block _ (zA h.dt).1).trans h.dt,h.yz.trans ⟨hg.os,hg.tape,hg.output,hg.size,fun k hk _=>hb.block k hk⟩⟩
theorem Jd.go {W w0 w w':World}{b g:Nat}{cs:Array Value}{t:TypeId}{x x':Int} (h:Jd W w0 b g cs t x w) (dF:W.heap.size≤b) (ME:b≠g) (hg:w.grownBy w' (some b)) (hj:JL b x' w'):Jd W w0 b g cs t x' w' :=
 ⟨cn h.bU hg h.bU.size (fun k e=>by obtain rfl:=zC e;exact dF),hj,(hg.block _ (zA h.dt).1 (by simpa using fun e=>ME e.symm)).trans h.dt,h.yz.trans hg⟩
theorem Jd.no {W w0 w:World}{b g:Nat}{cs:Array Value}{t:TypeId}{x:Int} (h:Jd W w0 b g cs t x w):kd w0 (some b) (JL b) none (.returned (.bool false)) w:=⟨rfl,fun _ e=>(by cases e),h.yz⟩
theorem Jd.yes {W w0 w:World}{b g:Nat}{cs:Array Value}{t:TypeId}{x:Int} (h:Jd W w0 b g cs t x w):kd w0 (some b) (JL b) (some x) (.returned (.bool true)) w:=⟨rfl,fun _ e=>(by obtain rfl:=zC e;exact h.jl),h.yz⟩
noncomputable def bc (e:En):Bool:=bD e.name&&decide (0<e.aR.length)&&e.aR.all eD&&e.res.all (gC (-2147483648) 2147483647)&&e.gone.all bD
noncomputable def iL (e:En) (x:Int):Option Int:=match ks (e.aR.length+e.res.length+e.gone.length) x with
 |none=>none
 |some x1=>if bc e then some x1 else none
theorem aP {w:World}{b:Nat}{v0 v1 v2 v3:Value}{t:TypeId} (hn:w.heap[b]?=some (.cells #[v0,v1,v2,v3] t (0,0))):w.cell? ⟨b,0,none⟩=some v0∧w.cell? ⟨b,1,none⟩=some v1∧w.cell? ⟨b,2,none⟩=some v2∧w.cell? ⟨b,3,none⟩=some v3 :=
 ⟨cell_of_row _ _ _ _ _ _ hn,cell_of_row _ _ _ _ _ _ hn,cell_of_row _ _ _ _ _ _ hn,cell_of_row _ _ _ _ _ _ hn⟩
theorem I8 {W:World}{e:En}{vv vr vg:Value} (hv:Rl W vv e.aR.length (rn e.aR)) (hr:Rl W vr e.res.length (lj e.res)) (hg:Rl W vg e.gone.length (cc e.gone)) {b:Nat} (dF:W.heap.size≤b) (w0:World) (x:Int) (hw:Below W.heap.size W w0) (hj:JL b x w0) :
  Calls Tryz.prog 42 #[.pointer (some ⟨b,0,none⟩),.agg #[.string e.name,vv,vr,vg]] w0 (kd w0 (some b) (JL b) (iL e x)):=by
 have Qc:b<w0.heap.size:=(zA hj.1).1
 have HJ:Hid (Jd W w0 b w0.heap.size #[.string e.name,vv,vr,vg] 67 x (w0.alloc (.cells #[.string e.name,vv,vr,vg] 67))):=⟨hw.alloc hw.size _,nX b _ _ _ hj (World.grownBy_alloc _ _ _),aJ _ _,World.grownBy_alloc _ _ _⟩
 have HV:=al (fun w h=>LV hv w h)
 have HR:=al (fun g h w k j=>Ei (g:=g) (h:=h) (lo:=-2147483648) (hi:=2147483647) hr w k j)
 have HG:=al (fun w h=>pz hg (fun vs w=>by kernel_rfl) iz w h)
 have HW:=al (fun w=>iz w e.name)
 obtain ⟨av,cv,rfl,AR,-⟩:=hv
 obtain ⟨ar,cr,rfl,TP,-⟩:=hr
 obtain ⟨ag,cg,rfl,TQ,-⟩:=hg
 have HC:=al (fun w ki=>qh (w:=w) (b:=b) (x:=x) ki (e.aR.length+e.res.length+e.gone.length) (by omega))
 have Hbg:=al (show b≠w0.heap.size by omega)
 have Pb:=al dF
 unfold iL bc
 obtain ⟨en,ev,er,eg⟩:=e
 simp only at *
 obtain ⟨q1,h1⟩:∃q,bD en=q:=⟨_,rfl⟩
 obtain ⟨q2,h2⟩:∃q,decide (0<ev.length)=q:=⟨_,rfl⟩
 obtain ⟨q3,h3⟩:∃q,ev.all eD=q:=⟨_,rfl⟩
 obtain ⟨q4,h4⟩:∃q,er.all (gC (-2147483648) 2147483647)=q:=⟨_,rfl⟩
 obtain ⟨q5,h5⟩:∃q,eg.all bD=q:=⟨_,rfl⟩
 obtain ⟨lx,Mx⟩:∃l,ks (ev.length+er.length+eg.length) x=l:=⟨_,rfl⟩
 have e2:=al h2
 rw[h1] at HW ⊢
 rw[h3] at HV ⊢
 rw[h4] at HR ⊢
 rw[h5] at HG ⊢
 rw[Mx] at HC ⊢
 rw[h2]
 obtain ⟨V,hV⟩:∃V,w0.alloc (.cells #[.string en,.slice av ev.length cv,.slice ar er.length cr,.slice ag eg.length cg] 67)=V:=⟨_,rfl⟩
 rw[hV] at HJ
 obtain ⟨c0,c1,c2,c3⟩:=aP (ab HJ).dt
 clear h1 h2 h3 h4 h5 Mx dF Qc hw hj
 have Bl:=al ((ab HJ).below (below_drewN (zE _ _) 1))
 have hT:(fun w:World=>w.cell? ⟨w0.heap.size,0,none⟩=some (.string en)∧w.cell? ⟨w0.heap.size,1,none⟩=some (.slice av ev.length cv)∧w.cell? ⟨w0.heap.size,2,none⟩=some (.slice ar er.length cr)∧w.cell? ⟨w0.heap.size,3,none⟩=some (.slice ag eg.length cg)) V.drew:=aP (ab Bl).dt
 go_enter Tryz.func42,Tryz.ntmps42
 go_upto_region 1 with fail
 refine wp_region_any (by kernel_rfl) (bL (z:=99) (T:=fun w=>w.cell? ⟨w0.heap.size,0,none⟩=some (.string en)∧w.cell? ⟨w0.heap.size,1,none⟩=some (.slice av ev.length cv)∧w.cell? ⟨w0.heap.size,2,none⟩=some (.slice ar er.length cr)∧w.cell? ⟨w0.heap.size,3,none⟩=some (.slice ag eg.length cg)) _ _ _ _ ?_)
 try (change cd _ _ _ _ _ _ _ _ _ (World.drew _))
 refine aw 0 (.pointer (some ⟨b,0,none⟩)) 5 rfl rfl (Or.inl ⟨by rfl,fun w hw=>by obtain ⟨cP,cH,bN,db⟩:=hw;go_simp⟩) hT ?_
 simp only[Act.put,zL,zM,zN]
 refine aw 1 (.pointer (some ⟨w0.heap.size,1,none⟩)) 6 rfl rfl (Or.inl ⟨by rfl,fun w hw=>by obtain ⟨cP,cH,bN,db⟩:=hw;go_simp⟩) hT ?_
 simp only[Act.put,zL,zM,zN]
 refine aw 2 (.slice av ev.length cv) 7 rfl rfl (Or.inl ⟨by rfl,fun w hw=>by obtain ⟨cP,cH,bN,db⟩:=hw;go_simp⟩) hT ?_
 simp only[Act.put,zL,zM,zN]
 refine aw 3 (.int .i64 ((ev.length:Nat):Int)) 8 rfl rfl (Or.inl ⟨by rfl,fun w hw=>by obtain ⟨cP,cH,bN,db⟩:=hw;go_simp⟩) hT ?_
 simp only[Act.put,zL,zM,zN]
 refine aw 4 (.pointer (some ⟨w0.heap.size,2,none⟩)) 9 rfl rfl (Or.inl ⟨by rfl,fun w hw=>by obtain ⟨cP,cH,bN,db⟩:=hw;go_simp⟩) hT ?_
 simp only[Act.put,zL,zM,zN]
 refine aw 5 (.slice ar er.length cr) 10 rfl rfl (Or.inl ⟨by rfl,fun w hw=>by obtain ⟨cP,cH,bN,db⟩:=hw;go_simp⟩) hT ?_
 simp only[Act.put,zL,zM,zN]
 refine aw 6 (.int .i64 ((er.length:Nat):Int)) 11 rfl rfl (Or.inl ⟨by rfl,fun w hw=>by obtain ⟨cP,cH,bN,db⟩:=hw;go_simp⟩) hT ?_
 simp only[Act.put,zL,zM,zN]
 refine aw 7 (.int .i64 ((ev.length+er.length:Nat):Int)) 12 rfl rfl (Or.inl ⟨by rfl,fun w hw=>by obtain ⟨cP,cH,bN,db⟩:=hw;go_simp;exact IntWalk.i64_in _ (by omega)⟩) hT ?_
 simp only[Act.put,zL,zM,zN]
 refine aw 8 (.pointer (some ⟨w0.heap.size,3,none⟩)) 13 rfl rfl (Or.inl ⟨by rfl,fun w hw=>by obtain ⟨cP,cH,bN,db⟩:=hw;go_simp⟩) hT ?_
 simp only[Act.put,zL,zM,zN]
 refine aw 9 (.slice ag eg.length cg) 14 rfl rfl (Or.inl ⟨by rfl,fun w hw=>by obtain ⟨cP,cH,bN,db⟩:=hw;go_simp⟩) hT ?_
 simp only[Act.put,zL,zM,zN]
 refine aw 10 (.int .i64 ((eg.length:Nat):Int)) 15 rfl rfl (Or.inl ⟨by rfl,fun w hw=>by obtain ⟨cP,cH,bN,db⟩:=hw;go_simp⟩) hT ?_
 simp only[Act.put,zL,zM,zN]
 refine aw 11 (.int .i64 ((ev.length+er.length+eg.length:Nat):Int)) 16 rfl rfl (Or.inl ⟨by rfl,fun w hw=>by obtain ⟨cP,cH,bN,db⟩:=hw;go_simp;exact IntWalk.i64_in _ (by omega)⟩) hT ?_
 simp only[Act.put,zL,zM,zN]
 refine aF 12 (by kernel_rfl) rfl (fun K hK=>?_)
 refine aO 17 rfl rfl 35 (fun vs=>by kernel_rfl) #[.tmp 5,.tmp 16] #[113,3] rfl #[.pointer (some ⟨b,0,none⟩),.int .i64 ((ev.length+er.length+eg.length:Nat):Int)] (by first|rfl|simp[Act.eval]) (ab HC _ (ab Bl).jl) ?_
 rintro e w1 ⟨rfl,kC,dO⟩
 cases lx with
 |none =>
  have HN:=al (show w0.grownBy w1 (some b) from (ab Bl).yz.trans dO)
  have qV:(fun w:World=>w.cell? ⟨w0.heap.size,0,none⟩=some (.string en)∧w.cell? ⟨w0.heap.size,1,none⟩=some (.slice av ev.length cv)∧w.cell? ⟨w0.heap.size,2,none⟩=some (.slice ar er.length cr)∧w.cell? ⟨w0.heap.size,3,none⟩=some (.slice ag eg.length cg)) w1:=aP ((dO.block _ (zA (ab Bl).dt).1 (by simpa using fun e=>ab Hbg e.symm)).trans (ab Bl).dt)
  refine ⟨_,rfl,hK _ _ ⟨fun _=>qV,?_⟩⟩
  clear hK K hT kC dO
  have hT:=qV
  clear qV
  simp only[Option.isSome_none]
  simp only[Act.put,zL,zM,zN]
  refine cW [13,14,15,16,17,18,19,20,21,22,23,24,25,26,27,28,29,30,31,32,33,34,35,36,37,38,39,40] 4 hT (by kernel_rfl) (fun t' ht=>?_) (by decide) (by kernel_rfl) (fun _ _ _ _ _ h=>h)
  go_wp2
  go_ret
  rw[ht]
  exact ⟨rfl,fun _ e=>(by cases e),ab HN⟩
 |some x1 =>
 simp only[Option.isSome_some]
 have rb:=al ((ab Bl).go (ab Pb) (ab Hbg) dO (kC _ rfl))
 have qV:(fun w:World=>w.cell? ⟨w0.heap.size,0,none⟩=some (.string en)∧w.cell? ⟨w0.heap.size,1,none⟩=some (.slice av ev.length cv)∧w.cell? ⟨w0.heap.size,2,none⟩=some (.slice ar er.length cr)∧w.cell? ⟨w0.heap.size,3,none⟩=some (.slice ag eg.length cg)) w1:=aP (ab rb).dt
 refine ⟨_,rfl,hK _ _ ⟨fun _=>qV,?_⟩⟩
 clear hK K hT
 have hT:=qV
 clear qV
 simp only[Act.put,zL,zM,zN]
 clear kC dO Bl HC
 refine aw 13 (.bool true) 18 rfl rfl (Or.inl ⟨by rfl,fun w hw=>by obtain ⟨cP,cH,bN,db⟩:=hw;go_simp⟩) hT ?_
 simp only[Act.put,zL,zM,zN]
 refine aw 14 (.pointer (some ⟨w0.heap.size,0,none⟩)) 19 rfl rfl (Or.inl ⟨by rfl,fun w hw=>by obtain ⟨cP,cH,bN,db⟩:=hw;go_simp⟩) hT ?_
 simp only[Act.put,zL,zM,zN]
 refine aw 15 (.string en) 20 rfl rfl (Or.inl ⟨by rfl,fun w hw=>by obtain ⟨cP,cH,bN,db⟩:=hw;go_simp⟩) hT ?_
 simp only[Act.put,zL,zM,zN]
 refine aF 16 (by kernel_rfl) rfl (fun K hK=>?_)
 refine cQ 21 rfl 64 (fun vs=>by kernel_rfl) #[.tmp 20] #[9] rfl #[.string en] (by first|rfl|simp[Act.eval]) (ab HW _) (by rfl) ?_
 rintro e w2 ⟨rfl,rfl⟩
 refine ⟨_,rfl,hK _ _ ⟨fun _=>hT,?_⟩⟩
 clear hK K HW
 simp only[Act.put,zL,zM,zN]
 cases q1 with
 |false =>
  refine cW [17,18,19,20,21,22,23,24,25,26,27,28,29,30,31,32,33,34,35,36,37,38,39,40] 4 hT (by kernel_rfl) (fun t' ht=>?_) (by decide) (by kernel_rfl) (fun _ _ _ _ _ h=>h)
  go_wp2
  go_ret
  rw[ht]
  exact (ab rb).no
 |true =>
 refine aw 17 (.bool true) 22 rfl rfl (Or.inl ⟨by rfl,fun w hw=>by obtain ⟨cP,cH,bN,db⟩:=hw;go_simp⟩) hT ?_
 simp only[Act.put,zL,zM,zN]
 refine aw 18 (.bool true) 23 rfl rfl (Or.inl ⟨by rfl,fun w hw=>by obtain ⟨cP,cH,bN,db⟩:=hw;go_simp⟩) hT ?_
 simp only[Act.put,zL,zM,zN]
 refine aw 19 (.pointer (some ⟨w0.heap.size,1,none⟩)) 24 rfl rfl (Or.inl ⟨by rfl,fun w hw=>by obtain ⟨cP,cH,bN,db⟩:=hw;go_simp⟩) hT ?_
 simp only[Act.put,zL,zM,zN]
 refine aw 20 (.slice av ev.length cv) 25 rfl rfl (Or.inl ⟨by rfl,fun w hw=>by obtain ⟨cP,cH,bN,db⟩:=hw;go_simp⟩) hT ?_
 simp only[Act.put,zL,zM,zN]
 refine aw 21 (.int .i64 ((ev.length:Nat):Int)) 26 rfl rfl (Or.inl ⟨by rfl,fun w hw=>by obtain ⟨cP,cH,bN,db⟩:=hw;go_simp⟩) hT ?_
 simp only[Act.put,zL,zM,zN]
 refine aw 22 (.bool q2) 27 rfl rfl (Or.inl ⟨by rfl,fun w hw=>by obtain ⟨cP,cH,bN,db⟩:=hw;go_simp;exact e2⟩) hT ?_
 simp only[Act.put,zL,zM,zN]
 cases q2 with
 |false =>
  refine cW [23,24,25,26,27,28,29,30,31,32,33,34,35,36,37,38,39,40] 4 hT (by kernel_rfl) (fun t' ht=>?_) (by decide) (by kernel_rfl) (fun _ _ _ _ _ h=>h)
  go_wp2
  go_ret
  rw[ht]
  exact (ab rb).no
 |true =>
 refine aw 23 (.bool true) 28 rfl rfl (Or.inl ⟨by rfl,fun w hw=>by obtain ⟨cP,cH,bN,db⟩:=hw;go_simp⟩) hT ?_
 simp only[Act.put,zL,zM,zN]
 refine aw 24 (.bool true) 29 rfl rfl (Or.inl ⟨by rfl,fun w hw=>by obtain ⟨cP,cH,bN,db⟩:=hw;go_simp⟩) hT ?_
 simp only[Act.put,zL,zM,zN]
 refine aw 25 (.pointer (some ⟨w0.heap.size,1,none⟩)) 30 rfl rfl (Or.inl ⟨by rfl,fun w hw=>by obtain ⟨cP,cH,bN,db⟩:=hw;go_simp⟩) hT ?_
 simp only[Act.put,zL,zM,zN]
 refine aw 26 (.slice av ev.length cv) 31 rfl rfl (Or.inl ⟨by rfl,fun w hw=>by obtain ⟨cP,cH,bN,db⟩:=hw;go_simp⟩) hT ?_
 simp only[Act.put,zL,zM,zN]
 refine aF 27 (by kernel_rfl) rfl (fun K hK=>?_)
 refine cQ 32 rfl 78 (fun vs=>by kernel_rfl) #[.tmp 31,.func 79] #[65,122] rfl #[.slice av ev.length cv,.func (.func 79) #[] #[]] (by first|rfl|simp[Act.eval]) (ab HV _ (ab rb).bU) (by rfl) ?_
 rintro e w3 ⟨rfl,cz⟩
 have ra:=al ((ab rb).below cz)
 have zd:(fun w:World=>w.cell? ⟨w0.heap.size,0,none⟩=some (.string en)∧w.cell? ⟨w0.heap.size,1,none⟩=some (.slice av ev.length cv)∧w.cell? ⟨w0.heap.size,2,none⟩=some (.slice ar er.length cr)∧w.cell? ⟨w0.heap.size,3,none⟩=some (.slice ag eg.length cg)) w3:=aP (ab ra).dt
 refine ⟨_,rfl,hK _ _ ⟨fun _=>zd,?_⟩⟩
 clear hK K hT
 have hT:=zd
 clear zd
 simp only[Act.put,zL,zM,zN]
 clear cz rb HV
 cases q3 with
 |false =>
  refine cW [28,29,30,31,32,33,34,35,36,37,38,39,40] 4 hT (by kernel_rfl) (fun t' ht=>?_) (by decide) (by kernel_rfl) (fun _ _ _ _ _ h=>h)
  go_wp2
  go_ret
  rw[ht]
  exact (ab ra).no
 |true =>
 refine aw 28 (.bool true) 33 rfl rfl (Or.inl ⟨by rfl,fun w hw=>by obtain ⟨cP,cH,bN,db⟩:=hw;go_simp⟩) hT ?_
 simp only[Act.put,zL,zM,zN]
 refine aw 29 (.bool true) 34 rfl rfl (Or.inl ⟨by rfl,fun w hw=>by obtain ⟨cP,cH,bN,db⟩:=hw;go_simp⟩) hT ?_
 simp only[Act.put,zL,zM,zN]
 refine aw 30 (.pointer (some ⟨w0.heap.size,2,none⟩)) 35 rfl rfl (Or.inl ⟨by rfl,fun w hw=>by obtain ⟨cP,cH,bN,db⟩:=hw;go_simp⟩) hT ?_
 simp only[Act.put,zL,zM,zN]
 refine aw 31 (.slice ar er.length cr) 36 rfl rfl (Or.inl ⟨by rfl,fun w hw=>by obtain ⟨cP,cH,bN,db⟩:=hw;go_simp⟩) hT ?_
 simp only[Act.put,zL,zM,zN]
 refine aF 32 (by kernel_rfl) rfl (fun K hK=>?_)
 refine cQ 37 rfl 74 (fun vs=>by kernel_rfl) #[.const (.int .i64 (-2147483648)),.const (.int .i64 2147483647)] #[3,3] rfl #[.int .i64 (-2147483648),.int .i64 2147483647] (by first|rfl|simp[Act.eval]) (xb _ _ _) (by rfl) ?_
 rintro e w4 ⟨rfl,eI⟩
 have ff:Below w3.heap.size w3 w4:=by rw[eI];exact ((zE _ _).alloc (zD _) _).alloc (by rw[zJ];omega) _
 have L8:Hid (FQ w3.heap.size (w3.heap.size+1) (-2147483648) 2147483647 () w4):=by
  rw[eI]
  refine ⟨(Below.heap_alloc _ _ _ (by rw[zJ];omega)).trans (aJ _ _),?_⟩
  have:=aJ (w3.alloc (.cells #[.int .i64 (-2147483648)] 3)) (.cells #[.int .i64 2147483647] 3)
  rw[zJ] at this
  exact this
 have vL:=al ((ab ra).below ff)
 have BB:(fun w:World=>w.cell? ⟨w0.heap.size,0,none⟩=some (.string en)∧w.cell? ⟨w0.heap.size,1,none⟩=some (.slice av ev.length cv)∧w.cell? ⟨w0.heap.size,2,none⟩=some (.slice ar er.length cr)∧w.cell? ⟨w0.heap.size,3,none⟩=some (.slice ag eg.length cg)) w4:=aP (ab vL).dt
 refine ⟨_,rfl,hK _ _ ⟨fun _=>BB,?_⟩⟩
 clear hK K hT
 have hT:=BB
 clear BB
 simp only[Act.put,zL,zM,zN]
 clear ff ra eI
 refine aF 33 (by kernel_rfl) rfl (fun K hK=>?_)
 refine cQ 38 rfl 73 (fun vs=>by kernel_rfl) #[.tmp 36,.tmp 37] #[44,119] rfl #[.slice ar er.length cr,.func (.func 120) #[] #[.pointer (some ⟨w3.heap.size,0,none⟩),.pointer (some ⟨w3.heap.size+1,0,none⟩)]] (by first|rfl|simp[Act.eval]) (ab HR _ _ _ (ab vL).bU (ab L8)) (by rfl) ?_
 rintro e w5 ⟨rfl,kh⟩
 have F3:=al ((ab vL).below kh)
 have uV:(fun w:World=>w.cell? ⟨w0.heap.size,0,none⟩=some (.string en)∧w.cell? ⟨w0.heap.size,1,none⟩=some (.slice av ev.length cv)∧w.cell? ⟨w0.heap.size,2,none⟩=some (.slice ar er.length cr)∧w.cell? ⟨w0.heap.size,3,none⟩=some (.slice ag eg.length cg)) w5:=aP (ab F3).dt
 refine ⟨_,rfl,hK _ _ ⟨fun _=>uV,?_⟩⟩
 clear hK K hT
 have hT:=uV
 clear uV
 simp only[Act.put,zL,zM,zN]
 clear kh vL HR L8
 cases q4 with
 |false =>
  refine cW [34,35,36,37,38,39,40] 4 hT (by kernel_rfl) (fun t' ht=>?_) (by decide) (by kernel_rfl) (fun _ _ _ _ _ h=>h)
  go_wp2
  go_ret
  rw[ht]
  exact (ab F3).no
 |true =>
 refine aw 34 (.bool true) 39 rfl rfl (Or.inl ⟨by rfl,fun w hw=>by obtain ⟨cP,cH,bN,db⟩:=hw;go_simp⟩) hT ?_
 simp only[Act.put,zL,zM,zN]
 refine aw 35 (.bool true) 40 rfl rfl (Or.inl ⟨by rfl,fun w hw=>by obtain ⟨cP,cH,bN,db⟩:=hw;go_simp⟩) hT ?_
 simp only[Act.put,zL,zM,zN]
 refine aw 36 (.pointer (some ⟨w0.heap.size,3,none⟩)) 41 rfl rfl (Or.inl ⟨by rfl,fun w hw=>by obtain ⟨cP,cH,bN,db⟩:=hw;go_simp⟩) hT ?_
 simp only[Act.put,zL,zM,zN]
 refine aw 37 (.slice ag eg.length cg) 42 rfl rfl (Or.inl ⟨by rfl,fun w hw=>by obtain ⟨cP,cH,bN,db⟩:=hw;go_simp⟩) hT ?_
 simp only[Act.put,zL,zM,zN]
 refine aF 38 (by kernel_rfl) rfl (fun K hK=>?_)
 refine cQ 43 rfl 36 (fun vs=>by kernel_rfl) #[.tmp 42,.func 64] #[22,77] rfl #[.slice ag eg.length cg,.func (.func 64) #[] #[]] (by first|rfl|simp[Act.eval]) (ab HG _ (ab F3).bU) (by rfl) ?_
 rintro e w6 ⟨rfl,pa⟩
 have M3:=al ((ab F3).below pa)
 have J9:(fun w:World=>w.cell? ⟨w0.heap.size,0,none⟩=some (.string en)∧w.cell? ⟨w0.heap.size,1,none⟩=some (.slice av ev.length cv)∧w.cell? ⟨w0.heap.size,2,none⟩=some (.slice ar er.length cr)∧w.cell? ⟨w0.heap.size,3,none⟩=some (.slice ag eg.length cg)) w6:=aP (ab M3).dt
 refine ⟨_,rfl,hK _ _ ⟨fun _=>J9,?_⟩⟩
 clear hK K hT
 have hT:=J9
 clear J9
 simp only[Act.put,zL,zM,zN]
 clear pa F3 HG
 cases q5 with
 |false =>
  refine cW [39,40] 4 hT (by kernel_rfl) (fun t' ht=>?_) (by decide) (by kernel_rfl) (fun _ _ _ _ _ h=>h)
  go_wp2
  go_ret
  rw[ht]
  exact (ab M3).no
 |true =>
 refine aw 39 (.bool true) 44 rfl rfl (Or.inl ⟨by rfl,fun w hw=>by obtain ⟨cP,cH,bN,db⟩:=hw;go_simp⟩) hT ?_
 simp only[Act.put,zL,zM,zN]
 refine aw 40 (.bool true) 4 rfl rfl (Or.inl ⟨by rfl,fun w hw=>by obtain ⟨cP,cH,bN,db⟩:=hw;go_simp⟩) hT ?_
 simp only[Act.put,zL,zM,zN]
 refine a8 (by kernel_rfl) ?_
 go_wp2
 go_ret
 exact (ab M3).yes
theorem SJ {w:World}{cs:List Value}{l:List En} (h:vO w cs l) {i:Nat} (hi:i<l.length):∃vv vr vg,lV 4 cs i=.agg #[.string l[i].name,vv,vr,vg]∧Rl w vv l[i].aR.length (rn l[i].aR)∧Rl w vr l[i].res.length (lj l[i].res)∧Rl w vg l[i].gone.length (cc l[i].gone):=by
 obtain ⟨vv,vr,vg,h1,h2⟩:=h.at i l[i] (List.getElem?_eq_getElem hi)
 refine ⟨vv,vr,vg,?_,h2⟩
 unfold lV
 rw[h1]
theorem Js {W:World}{v:Value}{cs:List Value}{l:List En} (hv:Rl W v l.length cs) (he:vO W cs l) {b:Nat} (dF:W.heap.size≤b) (w0:World) (x:Int) (hw:Below W.heap.size W w0) (hj:JL b x w0) :
  Calls Tryz.prog 41 #[v,.func (.func 42) #[.pointer (some ⟨b,0,none⟩)] #[]] w0 (kd w0 (some b) (JL b) (kc iL l x)):=by
 have hS:eX false W.heap.size W (some b) (JL b) ⟨42,#[.pointer (some ⟨b,0,none⟩)],#[]⟩ (lV 4 cs) l.length (fun i x=>((l[i]?).map fun e=>iL e x).getD none):=by
  intro i hi s w hb ki
  obtain ⟨vv,vr,vg,e1,h1,h2,h3⟩:=SJ he hi
  have e2:((l[i]?).map fun e=>iL e s).getD none=iL l[i] s:=by rw[List.getElem?_eq_getElem hi];rfl
  simp only[e1,e2,Bool.false_bne]
  show Calls Tryz.prog 42 #[.pointer (some ⟨b,0,none⟩),.agg #[.string l[i].name,vv,vr,vg]] w _
  exact I8 h1 h2 h3 dF w s hb ki
 have:=Jx hv (fun vs w=>by kernel_rfl) hS (fun k e=>by obtain rfl:=zC e;exact dF) he.len w0 x hw hj (nX b) (fun k e=>by obtain rfl:=zC e;exact (zA hj.1).1)
 rwa [yO (l:=l) (q:=iL) (fun i x s hx=>by rw[hx];rfl) rfl] at this
noncomputable def uB (nm:ByteArray) (fs:List Fd) (os:List ByteArray) (rs:List (Int×Int)) (gs:List ByteArray):Bool:=bD nm&&os.all bD&&fs.all cL&&Bs fs os.length&&rs.all (gC 1 536870911)&&gs.all bD
noncomputable def oa:Nat→Ms→Int→Option Int
 |0,_,_=>none
 |f+1,.mk nm fs os ms es rs gs,x=>match ks (fs.length+os.length+ms.length+es.length+rs.length+gs.length) x with
  |none=>none
  |some x1=>if uB nm fs os rs gs then (match kc (oa f) ms x1 with
   |none=>none
   |some x2=>kc iL es x2) else none
def tG:Nat→Ms→Prop
 |0,_=>True
 |f+1,.mk _ fs _ ms _ _ _=>(∀d ∈ fs,d.ty.size≤281474976710656)∧∀m ∈ ms,tG f m
def JG (f:Nat):Prop:=∀(W:World) (b:Nat) (m:Ms) vf vo vm ve vr vg nm fs os ms es rs gs cm ce,W.heap.size≤b→gX W→L0 W m vf vo vm ve vr vg nm fs os ms es rs gs cm ce→tG f m→∀(w0:World) (x:Int),Below W.heap.size W w0→JL b x w0 →
 Calls Tryz.prog 40 #[.pointer (some ⟨b,0,none⟩),.agg #[.string nm,vf,vo,vm,ve,vr,vg],.int .i64 (33-(f:Int))] w0 (kd w0 (some b) (JL b) (oa f m x))
def JM (b g h:Nat) (deep:Int) (x:Int) (w:World):Prop:=JL b x w∧w.heap[g]?=some (.cells #[.pointer (some ⟨b,0,none⟩)] 113 (0,0))∧w.heap[h]?=some (.cells #[.int .i64 deep] 3 (0,0))
theorem BT (b g h:Nat) (deep:Int):Kc (JM b g h deep):=fun _ _ _ hj hg=>⟨nX b _ _ _ hj.1 hg,(hg.block _ (zA hj.2.1).1 (by simp)).trans hj.2.1,(hg.block _ (zA hj.2.2).1 (by simp)).trans hj.2.2⟩
theorem MK {w:World}{cs:List Value}{l:List Ms} (h:tH w cs l) {i:Nat} (hi:i<l.length):∃vf vo vm ve vr vg nm fs os ms es rs gs cm ce,lV 7 cs i=.agg #[.string nm,vf,vo,vm,ve,vr,vg]∧L0 w l[i] vf vo vm ve vr vg nm fs os ms es rs gs cm ce:=by
 obtain ⟨vf,vo,vm,ve,vr,vg,nm,fs,os,ms,es,rs,gs,cm,ce,h1,h2⟩:=h.at i l[i] (List.getElem?_eq_getElem hi)
 refine ⟨vf,vo,vm,ve,vr,vg,nm,fs,os,ms,es,rs,gs,cm,ce,?_,h2⟩
 unfold lV
 rw[h1]
theorem kU {w:World}{b:Nat}{v0 v1 v2 v3 v4 v5 v6:Value}{t:TypeId} (hn:w.heap[b]?=some (.cells #[v0,v1,v2,v3,v4,v5,v6] t (0,0))):w.cell? ⟨b,0,none⟩=some v0∧w.cell? ⟨b,1,none⟩=some v1∧w.cell? ⟨b,2,none⟩=some v2∧w.cell? ⟨b,3,none⟩=some v3∧w.cell? ⟨b,4,none⟩=some v4∧w.cell? ⟨b,5,none⟩=some v5∧w.cell? ⟨b,6,none⟩=some v6 :=
 ⟨cell_of_row _ _ _ _ _ _ hn,cell_of_row _ _ _ _ _ _ hn,cell_of_row _ _ _ _ _ _ hn,cell_of_row _ _ _ _ _ _ hn,cell_of_row _ _ _ _ _ _ hn,cell_of_row _ _ _ _ _ _ hn,cell_of_row _ _ _ _ _ _ hn⟩
theorem Rk {w:World}{b g h:Nat}{deep x:Int}{nm:ByteArray}{vf vo vm ve vr vg:Value} (hj:JM b g h deep x w) (hd:-9223372036854775808≤deep∧deep<9223372036854775807) {R:Ending→World→Prop} (hc:Calls Tryz.prog 40 #[.pointer (some ⟨b,0,none⟩),.agg #[.string nm,vf,vo,vm,ve,vr,vg],.int .i64 (deep+1)] (w.alloc (.cells #[.string nm,vf,vo,vm,ve,vr,vg] 46)) (fun e w'=>(∃q,e=.returned (.bool q))∧R e w')) :
  Calls Tryz.prog 75 #[.agg #[.string nm,vf,vo,vm,ve,vr,vg],.pointer (some ⟨g,0,none⟩),.pointer (some ⟨h,0,none⟩)] w fun e w'=>(∃q,e=.returned (.bool q))∧R e w':=by
 obtain ⟨c0,c1,c2,c3,c4,c5,c6⟩:=kU (aJ w (.cells #[.string nm,vf,vo,vm,ve,vr,vg] 46))
 have g0:(w.alloc (.cells #[.string nm,vf,vo,vm,ve,vr,vg] 46)).cell? ⟨g,0,none⟩=some (.pointer (some ⟨b,0,none⟩)):=cell_of_row _ _ _ _ _ _ ((Below.heap_alloc _ _ _ (zA hj.2.1).1).trans hj.2.1)
 have h0:(w.alloc (.cells #[.string nm,vf,vo,vm,ve,vr,vg] 46)).cell? ⟨h,0,none⟩=some (.int .i64 deep):=cell_of_row _ _ _ _ _ _ ((Below.heap_alloc _ _ _ (zA hj.2.2).1).trans hj.2.2)
 have HC:=al hc
 obtain ⟨d0,d1⟩:=hd
 clear hj hc
 go_enter Tryz.func75,Tryz.ntmps75
 go_wp2_with fail
 refine (ab HC).mono ?_
 rintro e w1 ⟨⟨q,rfl⟩,hr⟩
 have HR:=al hr
 clear hr HC
 go_wp2
 go_ret
 exact ⟨⟨_,rfl⟩,ab HR⟩
theorem OT {f:Nat} (hf:f≤32) (ih:JG f) {W:World} (hM:gX W) {v:Value}{cs:List Value}{l:List Ms} (hv:Rl W v l.length cs) (he:tH W cs l) (kI:∀m ∈ l,tG f m) {b g h:Nat} (dF:W.heap.size≤b) (ME:b≠g) (WO:b≠h) (w0:World) (x:Int) (hw:Below W.heap.size W w0) (hj:JM b g h (32-(f:Int)) x w0) :
  Calls Tryz.prog 38 #[v,.func (.func 75) #[] #[.pointer (some ⟨g,0,none⟩),.pointer (some ⟨h,0,none⟩)]] w0 (kd w0 (some b) (JM b g h (32-(f:Int))) (kc (oa f) l x)):=by
 have hS:eX false W.heap.size W (some b) (JM b g h (32-(f:Int))) ⟨75,#[],#[.pointer (some ⟨g,0,none⟩),.pointer (some ⟨h,0,none⟩)]⟩ (lV 7 cs) l.length (fun i x=>((l[i]?).map fun e=>oa f e x).getD none):=by
  intro i hi s w hb ki
  obtain ⟨vf,vo,vm,ve,vr,vg,nm,fs,os,ms,es,rs,gs,cm,ce,e1,h1⟩:=MK he hi
  have e2:((l[i]?).map fun e=>oa f e s).getD none=oa f l[i] s:=by rw[List.getElem?_eq_getElem hi];rfl
  simp only[e1,e2,Bool.false_bne]
  show Calls Tryz.prog 75 #[.agg #[.string nm,vf,vo,vm,ve,vr,vg],.pointer (some ⟨g,0,none⟩),.pointer (some ⟨h,0,none⟩)] w _
  refine (Rk (R:=fun e w'=>e=.returned (.bool (oa f l[i] s).isSome)∧(∀s',oa f l[i] s=some s'→JM b g h (32-(f:Int)) s' w')∧w.grownBy w' (some b)) ki (by omega) ?_).mono (fun _ _ h=>h.2)
  have Fh:=World.grownBy_alloc w (.cells #[.string nm,vf,vo,vm,ve,vr,vg] 46) none
  have R9:=BT b g h _ _ _ _ ki Fh
  have:=ih W b l[i] vf vo vm ve vr vg nm fs os ms es rs gs cm ce dF hM h1 (kI _ (List.getElem_mem hi)) _ s (hb.alloc hb.size _) R9.1
  rw[show (32-(f:Int))+1=33-(f:Int) by omega]
  refine this.mono ?_
  rintro e w' ⟨rfl,yv,kY⟩
  refine ⟨⟨_,rfl⟩,rfl,fun s' e=>⟨yv s' e,?_,?_⟩,(World.grownBy_alloc _ _ _).trans kY⟩
  ·exact (kY.block _ (zA R9.2.1).1 (by simpa using fun e=>ME e.symm)).trans R9.2.1
  ·exact (kY.block _ (zA R9.2.2).1 (by simpa using fun e=>WO e.symm)).trans R9.2.2
 have:=Bb hv (fun vs w=>by kernel_rfl) hS (fun k e=>by obtain rfl:=zC e;exact dF) he.len w0 x hw hj (BT b g h _) (fun k e=>by obtain rfl:=zC e;exact (zA hj.1.1).1)
 rwa [yO (l:=l) (q:=oa f) (fun i x s hx=>by rw[hx];rfl) rfl] at this
end Go.Proofs.YtichhjfjcinjgaaGreatDoor

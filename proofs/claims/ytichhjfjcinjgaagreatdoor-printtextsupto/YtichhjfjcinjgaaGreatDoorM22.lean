import Derived.Test.YtichhjfjcinjgaaGreatDoorM21
set_option maxHeartbeats 2000000
set_option maxRecDepth 100000
namespace Go.Proofs.YtichhjfjcinjgaaGreatDoor
open Go.RowKit
attribute [local go_sem ↓] Go.wp_at_zero Go.wp_at_succ
def JL (b:Nat) (x:Int) (w:World):Prop:=w.heap[b]?=some (.cells #[.int .i64 x] 76 (0,0))∧0≤x∧x≤4096
theorem nz (b:Nat):Jw (JL b):=fun _ _ _ hj hg=>⟨(hg.block _ (zA hj.1).1 (by simp)).trans hj.1,hj.2⟩
def j4 (n:Nat) (x:Int):Option Int:=if 0≤x-n then some (x-n) else none
theorem pK {w:World}{b:Nat}{x:Int} (hj:JL b x w) (n:Nat) (hn:n≤1125899906842624):Calls Tryz.prog 35 #[.pointer (some ⟨b,0,none⟩),.int .i64 (n:Int)] w (jS w (some b) (JL b) (j4 n x)):=by
 obtain ⟨hb,B0,Fs⟩:=hj
 have c0:w.cell? ⟨b,0,none⟩=some (.int .i64 x):=cell_of_row _ _ _ _ _ _ hb
 have f0:w.frozen? ⟨b,0,none⟩=false:=by simp[World.frozen?,hb]
 obtain ⟨r1,r2⟩:=bh (j:=0) hb (.int .i64 (x-n))
 have R1:=al (show (w.setCell ⟨b,0,none⟩ (.int .i64 (x-n))).heap[b]?=some (.cells #[.int .i64 (x-n)] 76 (0,0)) from r1)
 have R2:=al r2
 have c1:(w.setCell ⟨b,0,none⟩ (.int .i64 (x-n))).cell? ⟨b,0,none⟩=some (.int .i64 (x-n)):=cell_of_row _ _ _ _ _ _ (ab R1)
 have HX:=al (show x-n≤4096 by omega)
 clear r1 r2
 go_enter Tryz.func35,Tryz.ntmps35
 go_wp2
 go_ret
 unfold j4
 by_cases h:0≤x-n
 ·rw[if_pos h]
  refine ⟨?_,fun s' e=>?_,ab R2⟩
  ·simp;omega
  ·obtain rfl:=zC e
   exact ⟨ab R1,h,ab HX⟩
 ·rw[if_neg h]
  refine ⟨?_,fun s' e=>(by cases e),ab R2⟩
  simp;omega
structure Jd (W w0:World) (b g:Nat) (cs:Array Value) (t:TypeId) (x:Int) (w:World):Prop where
 bV:Below W.heap.size W w
 jl:JL b x w
 dj:w.heap[g]?=some (.cells cs t (0,0))
 xU:w0.grownBy w (some b)
theorem Jd.below {W w0 w w':World}{b g:Nat}{cs:Array Value}{t:TypeId}{x:Int} (h:Jd W w0 b g cs t x w) (hb:Below w.heap.size w w'):Jd W w0 b g cs t x w':=by
 have hg:w.grownBy w' none:=⟨hb.os,hb.tape,hb.output,hb.size,fun k hk _=>hb.block k hk⟩
 exact ⟨h.bV.trans (hb.mono h.bV.size),nz b _ _ _ h.jl hg,(hb.block _ (zA h.dj).1).trans h.dj,h.xU.trans ⟨hg.os,hg.tape,hg.output,hg.size,fun k hk _=>hb.block k hk⟩⟩
theorem Jd.go {W w0 w w':World}{b g:Nat}{cs:Array Value}{t:TypeId}{x x':Int} (h:Jd W w0 b g cs t x w) (dB:W.heap.size≤b) (L0:b≠g) (hg:w.grownBy w' (some b)) (hj:JL b x' w'):Jd W w0 b g cs t x' w' :=
 ⟨cq h.bV hg h.bV.size (fun k e=>by obtain rfl:=zC e;exact dB),hj,(hg.block _ (zA h.dj).1 (by simpa using fun e=>L0 e.symm)).trans h.dj,h.xU.trans hg⟩
theorem Jd.no {W w0 w:World}{b g:Nat}{cs:Array Value}{t:TypeId}{x:Int} (h:Jd W w0 b g cs t x w):jS w0 (some b) (JL b) none (.returned (.bool false)) w:=⟨rfl,fun _ e=>(by cases e),h.xU⟩
theorem Jd.yes {W w0 w:World}{b g:Nat}{cs:Array Value}{t:TypeId}{x:Int} (h:Jd W w0 b g cs t x w):jS w0 (some b) (JL b) (some x) (.returned (.bool true)) w:=⟨rfl,fun _ e=>(by obtain rfl:=zC e;exact h.jl),h.xU⟩
noncomputable def bc (e:En):Bool:=bD e.name&&decide (0<e.aQ.length)&&e.aQ.all ey&&e.res.all (gd (-2147483648) 2147483647)&&e.gone.all bD
noncomputable def iy (e:En) (x:Int):Option Int:=match j4 (e.aQ.length+e.res.length+e.gone.length) x with
 |none=>none
 |some x1=>if bc e then some x1 else none
theorem a8 {w:World}{b:Nat}{v0 v1 v2 v3:Value}{t:TypeId} (hn:w.heap[b]?=some (.cells #[v0,v1,v2,v3] t (0,0))):w.cell? ⟨b,0,none⟩=some v0∧w.cell? ⟨b,1,none⟩=some v1∧w.cell? ⟨b,2,none⟩=some v2∧w.cell? ⟨b,3,none⟩=some v3 :=
 ⟨cell_of_row _ _ _ _ _ _ hn,cell_of_row _ _ _ _ _ _ hn,cell_of_row _ _ _ _ _ _ hn,cell_of_row _ _ _ _ _ _ hn⟩
theorem Im {W:World}{e:En}{vv vr vg:Value} (hv:Rl W vv e.aQ.length (qM e.aQ)) (hr:Rl W vr e.res.length (kO e.res)) (hg:Rl W vg e.gone.length (bY e.gone)) {b:Nat} (dB:W.heap.size≤b) (w0:World) (x:Int) (hw:Below W.heap.size W w0) (hj:JL b x w0) :
  Calls Tryz.prog 42 #[.pointer (some ⟨b,0,none⟩),.agg #[.string e.name,vv,vr,vg]] w0 (jS w0 (some b) (JL b) (iy e x)):=by
 have Pz:b<w0.heap.size:=(zA hj.1).1
 have HJ:Hid (Jd W w0 b w0.heap.size #[.string e.name,vv,vr,vg] 67 x (w0.alloc (.cells #[.string e.name,vv,vr,vg] 67))):=⟨hw.alloc hw.size _,nz b _ _ _ hj (World.grownBy_alloc _ _ _),aK _ _,World.grownBy_alloc _ _ _⟩
 have HV:=al (fun w h=>Lh hv w h)
 have HR:=al (fun g h w k j=>DF (g:=g) (h:=h) (lo:=-2147483648) (hi:=2147483647) hr w k j)
 have HG:=al (fun w h=>oY hg (fun vs w=>by kernel_rfl) ic w h)
 have HW:=al (fun w=>ic w e.name)
 obtain ⟨av,cv,rfl,Ag,-⟩:=hv
 obtain ⟨ar,cr,rfl,Tg,-⟩:=hr
 obtain ⟨ag,cg,rfl,Ti,-⟩:=hg
 have HC:=al (fun w jU=>pK (w:=w) (b:=b) (x:=x) jU (e.aQ.length+e.res.length+e.gone.length) (by omega))
 have Hbg:=al (show b≠w0.heap.size by omega)
 have Oz:=al dB
 unfold iy bc
 obtain ⟨en,ev,er,eg⟩:=e
 simp only at *
 obtain ⟨q1,h1⟩:∃q,bD en=q:=⟨_,rfl⟩
 obtain ⟨q2,h2⟩:∃q,decide (0<ev.length)=q:=⟨_,rfl⟩
 obtain ⟨q3,h3⟩:∃q,ev.all ey=q:=⟨_,rfl⟩
 obtain ⟨q4,h4⟩:∃q,er.all (gd (-2147483648) 2147483647)=q:=⟨_,rfl⟩
 obtain ⟨q5,h5⟩:∃q,eg.all bD=q:=⟨_,rfl⟩
 obtain ⟨lx,LS⟩:∃l,j4 (ev.length+er.length+eg.length) x=l:=⟨_,rfl⟩
 have e2:=al h2
 rw[h1] at HW ⊢
 rw[h3] at HV ⊢
 rw[h4] at HR ⊢
 rw[h5] at HG ⊢
 rw[LS] at HC ⊢
 rw[h2]
 obtain ⟨V,hV⟩:∃V,w0.alloc (.cells #[.string en,.slice av ev.length cv,.slice ar er.length cr,.slice ag eg.length cg] 67)=V:=⟨_,rfl⟩
 rw[hV] at HJ
 obtain ⟨c0,c1,c2,c3⟩:=a8 (ab HJ).dj
 clear h1 h2 h3 h4 h5 LS dB Pz hw hj
 have AO:=al ((ab HJ).below (below_drewN (zE _ _) 1))
 have hT:(fun w:World=>w.cell? ⟨w0.heap.size,0,none⟩=some (.string en)∧w.cell? ⟨w0.heap.size,1,none⟩=some (.slice av ev.length cv)∧w.cell? ⟨w0.heap.size,2,none⟩=some (.slice ar er.length cr)∧w.cell? ⟨w0.heap.size,3,none⟩=some (.slice ag eg.length cg)) V.drew:=a8 (ab AO).dj
 go_enter Tryz.func42,Tryz.ntmps42
 go_upto_region 1 with fail
 refine wp_region_any (by kernel_rfl) (bK (z:=99) (T:=fun w=>w.cell? ⟨w0.heap.size,0,none⟩=some (.string en)∧w.cell? ⟨w0.heap.size,1,none⟩=some (.slice av ev.length cv)∧w.cell? ⟨w0.heap.size,2,none⟩=some (.slice ar er.length cr)∧w.cell? ⟨w0.heap.size,3,none⟩=some (.slice ag eg.length cg)) _ _ _ _ ?_)
 try (change bZ _ _ _ _ _ _ _ _ _ (World.drew _))
 refine aw 0 (.pointer (some ⟨b,0,none⟩)) 5 rfl rfl (Or.inl ⟨by rfl,fun w hw=>by obtain ⟨cL,cE,bM,cZ⟩:=hw;go_simp⟩) hT ?_
 simp only[Act.put,zL,zM,zN]
 refine aw 1 (.pointer (some ⟨w0.heap.size,1,none⟩)) 6 rfl rfl (Or.inl ⟨by rfl,fun w hw=>by obtain ⟨cL,cE,bM,cZ⟩:=hw;go_simp⟩) hT ?_
 simp only[Act.put,zL,zM,zN]
 refine aw 2 (.slice av ev.length cv) 7 rfl rfl (Or.inl ⟨by rfl,fun w hw=>by obtain ⟨cL,cE,bM,cZ⟩:=hw;go_simp⟩) hT ?_
 simp only[Act.put,zL,zM,zN]
 refine aw 3 (.int .i64 ((ev.length:Nat):Int)) 8 rfl rfl (Or.inl ⟨by rfl,fun w hw=>by obtain ⟨cL,cE,bM,cZ⟩:=hw;go_simp⟩) hT ?_
 simp only[Act.put,zL,zM,zN]
 refine aw 4 (.pointer (some ⟨w0.heap.size,2,none⟩)) 9 rfl rfl (Or.inl ⟨by rfl,fun w hw=>by obtain ⟨cL,cE,bM,cZ⟩:=hw;go_simp⟩) hT ?_
 simp only[Act.put,zL,zM,zN]
 refine aw 5 (.slice ar er.length cr) 10 rfl rfl (Or.inl ⟨by rfl,fun w hw=>by obtain ⟨cL,cE,bM,cZ⟩:=hw;go_simp⟩) hT ?_
 simp only[Act.put,zL,zM,zN]
 refine aw 6 (.int .i64 ((er.length:Nat):Int)) 11 rfl rfl (Or.inl ⟨by rfl,fun w hw=>by obtain ⟨cL,cE,bM,cZ⟩:=hw;go_simp⟩) hT ?_
 simp only[Act.put,zL,zM,zN]
 refine aw 7 (.int .i64 ((ev.length+er.length:Nat):Int)) 12 rfl rfl (Or.inl ⟨by rfl,fun w hw=>by obtain ⟨cL,cE,bM,cZ⟩:=hw;go_simp;exact IntWalk.i64_in _ (by omega)⟩) hT ?_
 simp only[Act.put,zL,zM,zN]
 refine aw 8 (.pointer (some ⟨w0.heap.size,3,none⟩)) 13 rfl rfl (Or.inl ⟨by rfl,fun w hw=>by obtain ⟨cL,cE,bM,cZ⟩:=hw;go_simp⟩) hT ?_
 simp only[Act.put,zL,zM,zN]
 refine aw 9 (.slice ag eg.length cg) 14 rfl rfl (Or.inl ⟨by rfl,fun w hw=>by obtain ⟨cL,cE,bM,cZ⟩:=hw;go_simp⟩) hT ?_
 simp only[Act.put,zL,zM,zN]
 refine aw 10 (.int .i64 ((eg.length:Nat):Int)) 15 rfl rfl (Or.inl ⟨by rfl,fun w hw=>by obtain ⟨cL,cE,bM,cZ⟩:=hw;go_simp⟩) hT ?_
 simp only[Act.put,zL,zM,zN]
 refine aw 11 (.int .i64 ((ev.length+er.length+eg.length:Nat):Int)) 16 rfl rfl (Or.inl ⟨by rfl,fun w hw=>by obtain ⟨cL,cE,bM,cZ⟩:=hw;go_simp;exact IntWalk.i64_in _ (by omega)⟩) hT ?_
 simp only[Act.put,zL,zM,zN]
 refine aF 12 (by kernel_rfl) rfl (fun K hK=>?_)
 refine aO 17 rfl rfl 35 (fun vs=>by kernel_rfl) #[.tmp 5,.tmp 16] #[113,3] rfl #[.pointer (some ⟨b,0,none⟩),.int .i64 ((ev.length+er.length+eg.length:Nat):Int)] (by first|rfl|simp[Act.eval]) (ab HC _ (ab AO).jl) ?_
 rintro e w1 ⟨rfl,ka,dK⟩
 cases lx with
 |none =>
  have HN:=al (show w0.grownBy w1 (some b) from (ab AO).xU.trans dK)
  have qy:(fun w:World=>w.cell? ⟨w0.heap.size,0,none⟩=some (.string en)∧w.cell? ⟨w0.heap.size,1,none⟩=some (.slice av ev.length cv)∧w.cell? ⟨w0.heap.size,2,none⟩=some (.slice ar er.length cr)∧w.cell? ⟨w0.heap.size,3,none⟩=some (.slice ag eg.length cg)) w1:=a8 ((dK.block _ (zA (ab AO).dj).1 (by simpa using fun e=>ab Hbg e.symm)).trans (ab AO).dj)
  refine ⟨_,rfl,hK _ _ ⟨fun _=>qy,?_⟩⟩
  clear hK K hT ka dK
  have hT:=qy
  clear qy
  simp only[Option.isSome_none]
  simp only[Act.put,zL,zM,zN]
  refine cS [13,14,15,16,17,18,19,20,21,22,23,24,25,26,27,28,29,30,31,32,33,34,35,36,37,38,39,40] 4 hT (by kernel_rfl) (fun t' ht=>?_) (by decide) (by kernel_rfl) (fun _ _ _ _ _ h=>h)
  go_wp2
  go_ret
  rw[ht]
  exact ⟨rfl,fun _ e=>(by cases e),ab HN⟩
 |some x1 =>
 simp only[Option.isSome_some]
 have qF:=al ((ab AO).go (ab Oz) (ab Hbg) dK (ka _ rfl))
 have qy:(fun w:World=>w.cell? ⟨w0.heap.size,0,none⟩=some (.string en)∧w.cell? ⟨w0.heap.size,1,none⟩=some (.slice av ev.length cv)∧w.cell? ⟨w0.heap.size,2,none⟩=some (.slice ar er.length cr)∧w.cell? ⟨w0.heap.size,3,none⟩=some (.slice ag eg.length cg)) w1:=a8 (ab qF).dj
 refine ⟨_,rfl,hK _ _ ⟨fun _=>qy,?_⟩⟩
 clear hK K hT
 have hT:=qy
 clear qy
 simp only[Act.put,zL,zM,zN]
 clear ka dK AO HC
 refine aw 13 (.bool true) 18 rfl rfl (Or.inl ⟨by rfl,fun w hw=>by obtain ⟨cL,cE,bM,cZ⟩:=hw;go_simp⟩) hT ?_
 simp only[Act.put,zL,zM,zN]
 refine aw 14 (.pointer (some ⟨w0.heap.size,0,none⟩)) 19 rfl rfl (Or.inl ⟨by rfl,fun w hw=>by obtain ⟨cL,cE,bM,cZ⟩:=hw;go_simp⟩) hT ?_
 simp only[Act.put,zL,zM,zN]
 refine aw 15 (.string en) 20 rfl rfl (Or.inl ⟨by rfl,fun w hw=>by obtain ⟨cL,cE,bM,cZ⟩:=hw;go_simp⟩) hT ?_
 simp only[Act.put,zL,zM,zN]
 refine aF 16 (by kernel_rfl) rfl (fun K hK=>?_)
 refine cN 21 rfl 64 (fun vs=>by kernel_rfl) #[.tmp 20] #[9] rfl #[.string en] (by first|rfl|simp[Act.eval]) (ab HW _) (by rfl) ?_
 rintro e w2 ⟨rfl,rfl⟩
 refine ⟨_,rfl,hK _ _ ⟨fun _=>hT,?_⟩⟩
 clear hK K HW
 simp only[Act.put,zL,zM,zN]
 cases q1 with
 |false =>
  refine cS [17,18,19,20,21,22,23,24,25,26,27,28,29,30,31,32,33,34,35,36,37,38,39,40] 4 hT (by kernel_rfl) (fun t' ht=>?_) (by decide) (by kernel_rfl) (fun _ _ _ _ _ h=>h)
  go_wp2
  go_ret
  rw[ht]
  exact (ab qF).no
 |true =>
 refine aw 17 (.bool true) 22 rfl rfl (Or.inl ⟨by rfl,fun w hw=>by obtain ⟨cL,cE,bM,cZ⟩:=hw;go_simp⟩) hT ?_
 simp only[Act.put,zL,zM,zN]
 refine aw 18 (.bool true) 23 rfl rfl (Or.inl ⟨by rfl,fun w hw=>by obtain ⟨cL,cE,bM,cZ⟩:=hw;go_simp⟩) hT ?_
 simp only[Act.put,zL,zM,zN]
 refine aw 19 (.pointer (some ⟨w0.heap.size,1,none⟩)) 24 rfl rfl (Or.inl ⟨by rfl,fun w hw=>by obtain ⟨cL,cE,bM,cZ⟩:=hw;go_simp⟩) hT ?_
 simp only[Act.put,zL,zM,zN]
 refine aw 20 (.slice av ev.length cv) 25 rfl rfl (Or.inl ⟨by rfl,fun w hw=>by obtain ⟨cL,cE,bM,cZ⟩:=hw;go_simp⟩) hT ?_
 simp only[Act.put,zL,zM,zN]
 refine aw 21 (.int .i64 ((ev.length:Nat):Int)) 26 rfl rfl (Or.inl ⟨by rfl,fun w hw=>by obtain ⟨cL,cE,bM,cZ⟩:=hw;go_simp⟩) hT ?_
 simp only[Act.put,zL,zM,zN]
 refine aw 22 (.bool q2) 27 rfl rfl (Or.inl ⟨by rfl,fun w hw=>by obtain ⟨cL,cE,bM,cZ⟩:=hw;go_simp;exact e2⟩) hT ?_
 simp only[Act.put,zL,zM,zN]
 cases q2 with
 |false =>
  refine cS [23,24,25,26,27,28,29,30,31,32,33,34,35,36,37,38,39,40] 4 hT (by kernel_rfl) (fun t' ht=>?_) (by decide) (by kernel_rfl) (fun _ _ _ _ _ h=>h)
  go_wp2
  go_ret
  rw[ht]
  exact (ab qF).no
 |true =>
 refine aw 23 (.bool true) 28 rfl rfl (Or.inl ⟨by rfl,fun w hw=>by obtain ⟨cL,cE,bM,cZ⟩:=hw;go_simp⟩) hT ?_
 simp only[Act.put,zL,zM,zN]
 refine aw 24 (.bool true) 29 rfl rfl (Or.inl ⟨by rfl,fun w hw=>by obtain ⟨cL,cE,bM,cZ⟩:=hw;go_simp⟩) hT ?_
 simp only[Act.put,zL,zM,zN]
 refine aw 25 (.pointer (some ⟨w0.heap.size,1,none⟩)) 30 rfl rfl (Or.inl ⟨by rfl,fun w hw=>by obtain ⟨cL,cE,bM,cZ⟩:=hw;go_simp⟩) hT ?_
 simp only[Act.put,zL,zM,zN]
 refine aw 26 (.slice av ev.length cv) 31 rfl rfl (Or.inl ⟨by rfl,fun w hw=>by obtain ⟨cL,cE,bM,cZ⟩:=hw;go_simp⟩) hT ?_
 simp only[Act.put,zL,zM,zN]
 refine aF 27 (by kernel_rfl) rfl (fun K hK=>?_)
 refine cN 32 rfl 78 (fun vs=>by kernel_rfl) #[.tmp 31,.func 79] #[65,122] rfl #[.slice av ev.length cv,.func (.func 79) #[] #[]] (by first|rfl|simp[Act.eval]) (ab HV _ (ab qF).bV) (by rfl) ?_
 rintro e w3 ⟨rfl,cC⟩
 have qE:=al ((ab qF).below cC)
 have yx:(fun w:World=>w.cell? ⟨w0.heap.size,0,none⟩=some (.string en)∧w.cell? ⟨w0.heap.size,1,none⟩=some (.slice av ev.length cv)∧w.cell? ⟨w0.heap.size,2,none⟩=some (.slice ar er.length cr)∧w.cell? ⟨w0.heap.size,3,none⟩=some (.slice ag eg.length cg)) w3:=a8 (ab qE).dj
 refine ⟨_,rfl,hK _ _ ⟨fun _=>yx,?_⟩⟩
 clear hK K hT
 have hT:=yx
 clear yx
 simp only[Act.put,zL,zM,zN]
 clear cC qF HV
 cases q3 with
 |false =>
  refine cS [28,29,30,31,32,33,34,35,36,37,38,39,40] 4 hT (by kernel_rfl) (fun t' ht=>?_) (by decide) (by kernel_rfl) (fun _ _ _ _ _ h=>h)
  go_wp2
  go_ret
  rw[ht]
  exact (ab qE).no
 |true =>
 refine aw 28 (.bool true) 33 rfl rfl (Or.inl ⟨by rfl,fun w hw=>by obtain ⟨cL,cE,bM,cZ⟩:=hw;go_simp⟩) hT ?_
 simp only[Act.put,zL,zM,zN]
 refine aw 29 (.bool true) 34 rfl rfl (Or.inl ⟨by rfl,fun w hw=>by obtain ⟨cL,cE,bM,cZ⟩:=hw;go_simp⟩) hT ?_
 simp only[Act.put,zL,zM,zN]
 refine aw 30 (.pointer (some ⟨w0.heap.size,2,none⟩)) 35 rfl rfl (Or.inl ⟨by rfl,fun w hw=>by obtain ⟨cL,cE,bM,cZ⟩:=hw;go_simp⟩) hT ?_
 simp only[Act.put,zL,zM,zN]
 refine aw 31 (.slice ar er.length cr) 36 rfl rfl (Or.inl ⟨by rfl,fun w hw=>by obtain ⟨cL,cE,bM,cZ⟩:=hw;go_simp⟩) hT ?_
 simp only[Act.put,zL,zM,zN]
 refine aF 32 (by kernel_rfl) rfl (fun K hK=>?_)
 refine cN 37 rfl 74 (fun vs=>by kernel_rfl) #[.const (.int .i64 (-2147483648)),.const (.int .i64 2147483647)] #[3,3] rfl #[.int .i64 (-2147483648),.int .i64 2147483647] (by first|rfl|simp[Act.eval]) (wh _ _ _) (by rfl) ?_
 rintro e w4 ⟨rfl,eC⟩
 have gR:Below w3.heap.size w3 w4:=by rw[eC];exact ((zE _ _).alloc (zD _) _).alloc (by rw[zJ];omega) _
 have Lt:Hid (E8 w3.heap.size (w3.heap.size+1) (-2147483648) 2147483647 () w4):=by
  rw[eC]
  refine ⟨(Below.heap_alloc _ _ _ (by rw[zJ];omega)).trans (aK _ _),?_⟩
  have:=aK (w3.alloc (.cells #[.int .i64 (-2147483648)] 3)) (.cells #[.int .i64 2147483647] 3)
  rw[zJ] at this
  exact this
 have uY:=al ((ab qE).below gR)
 have A4:(fun w:World=>w.cell? ⟨w0.heap.size,0,none⟩=some (.string en)∧w.cell? ⟨w0.heap.size,1,none⟩=some (.slice av ev.length cv)∧w.cell? ⟨w0.heap.size,2,none⟩=some (.slice ar er.length cr)∧w.cell? ⟨w0.heap.size,3,none⟩=some (.slice ag eg.length cg)) w4:=a8 (ab uY).dj
 refine ⟨_,rfl,hK _ _ ⟨fun _=>A4,?_⟩⟩
 clear hK K hT
 have hT:=A4
 clear A4
 simp only[Act.put,zL,zM,zN]
 clear gR qE eC
 refine aF 33 (by kernel_rfl) rfl (fun K hK=>?_)
 refine cN 38 rfl 73 (fun vs=>by kernel_rfl) #[.tmp 36,.tmp 37] #[44,119] rfl #[.slice ar er.length cr,.func (.func 120) #[] #[.pointer (some ⟨w3.heap.size,0,none⟩),.pointer (some ⟨w3.heap.size+1,0,none⟩)]] (by first|rfl|simp[Act.eval]) (ab HR _ _ _ (ab uY).bV (ab Lt)) (by rfl) ?_
 rintro e w5 ⟨rfl,jT⟩
 have Fi:=al ((ab uY).below jT)
 have uj:(fun w:World=>w.cell? ⟨w0.heap.size,0,none⟩=some (.string en)∧w.cell? ⟨w0.heap.size,1,none⟩=some (.slice av ev.length cv)∧w.cell? ⟨w0.heap.size,2,none⟩=some (.slice ar er.length cr)∧w.cell? ⟨w0.heap.size,3,none⟩=some (.slice ag eg.length cg)) w5:=a8 (ab Fi).dj
 refine ⟨_,rfl,hK _ _ ⟨fun _=>uj,?_⟩⟩
 clear hK K hT
 have hT:=uj
 clear uj
 simp only[Act.put,zL,zM,zN]
 clear jT uY HR Lt
 cases q4 with
 |false =>
  refine cS [34,35,36,37,38,39,40] 4 hT (by kernel_rfl) (fun t' ht=>?_) (by decide) (by kernel_rfl) (fun _ _ _ _ _ h=>h)
  go_wp2
  go_ret
  rw[ht]
  exact (ab Fi).no
 |true =>
 refine aw 34 (.bool true) 39 rfl rfl (Or.inl ⟨by rfl,fun w hw=>by obtain ⟨cL,cE,bM,cZ⟩:=hw;go_simp⟩) hT ?_
 simp only[Act.put,zL,zM,zN]
 refine aw 35 (.bool true) 40 rfl rfl (Or.inl ⟨by rfl,fun w hw=>by obtain ⟨cL,cE,bM,cZ⟩:=hw;go_simp⟩) hT ?_
 simp only[Act.put,zL,zM,zN]
 refine aw 36 (.pointer (some ⟨w0.heap.size,3,none⟩)) 41 rfl rfl (Or.inl ⟨by rfl,fun w hw=>by obtain ⟨cL,cE,bM,cZ⟩:=hw;go_simp⟩) hT ?_
 simp only[Act.put,zL,zM,zN]
 refine aw 37 (.slice ag eg.length cg) 42 rfl rfl (Or.inl ⟨by rfl,fun w hw=>by obtain ⟨cL,cE,bM,cZ⟩:=hw;go_simp⟩) hT ?_
 simp only[Act.put,zL,zM,zN]
 refine aF 38 (by kernel_rfl) rfl (fun K hK=>?_)
 refine cN 43 rfl 36 (fun vs=>by kernel_rfl) #[.tmp 42,.func 64] #[22,77] rfl #[.slice ag eg.length cg,.func (.func 64) #[] #[]] (by first|rfl|simp[Act.eval]) (ab HG _ (ab Fi).bV) (by rfl) ?_
 rintro e w6 ⟨rfl,oI⟩
 have Mr:=al ((ab Fi).below oI)
 have Js:(fun w:World=>w.cell? ⟨w0.heap.size,0,none⟩=some (.string en)∧w.cell? ⟨w0.heap.size,1,none⟩=some (.slice av ev.length cv)∧w.cell? ⟨w0.heap.size,2,none⟩=some (.slice ar er.length cr)∧w.cell? ⟨w0.heap.size,3,none⟩=some (.slice ag eg.length cg)) w6:=a8 (ab Mr).dj
 refine ⟨_,rfl,hK _ _ ⟨fun _=>Js,?_⟩⟩
 clear hK K hT
 have hT:=Js
 clear Js
 simp only[Act.put,zL,zM,zN]
 clear oI Fi HG
 cases q5 with
 |false =>
  refine cS [39,40] 4 hT (by kernel_rfl) (fun t' ht=>?_) (by decide) (by kernel_rfl) (fun _ _ _ _ _ h=>h)
  go_wp2
  go_ret
  rw[ht]
  exact (ab Mr).no
 |true =>
 refine aw 39 (.bool true) 44 rfl rfl (Or.inl ⟨by rfl,fun w hw=>by obtain ⟨cL,cE,bM,cZ⟩:=hw;go_simp⟩) hT ?_
 simp only[Act.put,zL,zM,zN]
 refine aw 40 (.bool true) 4 rfl rfl (Or.inl ⟨by rfl,fun w hw=>by obtain ⟨cL,cE,bM,cZ⟩:=hw;go_simp⟩) hT ?_
 simp only[Act.put,zL,zM,zN]
 refine aZ (by kernel_rfl) ?_
 go_wp2
 go_ret
 exact (ab Mr).yes
theorem R6 {w:World}{cs:List Value}{l:List En} (h:u9 w cs l) {i:Nat} (hi:i<l.length):∃vv vr vg,lC 4 cs i=.agg #[.string l[i].name,vv,vr,vg]∧Rl w vv l[i].aQ.length (qM l[i].aQ)∧Rl w vr l[i].res.length (kO l[i].res)∧Rl w vg l[i].gone.length (bY l[i].gone):=by
 obtain ⟨vv,vr,vg,h1,h2⟩:=h.at i l[i] (List.getElem?_eq_getElem hi)
 refine ⟨vv,vr,vg,?_,h2⟩
 unfold lC
 rw[h1]
theorem IJ {W:World}{v:Value}{cs:List Value}{l:List En} (hv:Rl W v l.length cs) (he:u9 W cs l) {b:Nat} (dB:W.heap.size≤b) (w0:World) (x:Int) (hw:Below W.heap.size W w0) (hj:JL b x w0) :
  Calls Tryz.prog 41 #[v,.func (.func 42) #[.pointer (some ⟨b,0,none⟩)] #[]] w0 (jS w0 (some b) (JL b) (jR iy l x)):=by
 have hS:eQ false W.heap.size W (some b) (JL b) ⟨42,#[.pointer (some ⟨b,0,none⟩)],#[]⟩ (lC 4 cs) l.length (fun i x=>((l[i]?).map fun e=>iy e x).getD none):=by
  intro i hi s w hb jU
  obtain ⟨vv,vr,vg,e1,h1,h2,h3⟩:=R6 he hi
  have e2:((l[i]?).map fun e=>iy e s).getD none=iy l[i] s:=by rw[List.getElem?_eq_getElem hi];rfl
  simp only[e1,e2,Bool.false_bne]
  show Calls Tryz.prog 42 #[.pointer (some ⟨b,0,none⟩),.agg #[.string l[i].name,vv,vr,vg]] w _
  exact Im h1 h2 h3 dB w s hb jU
 have:=IP hv (fun vs w=>by kernel_rfl) hS (fun k e=>by obtain rfl:=zC e;exact dB) he.len w0 x hw hj (nz b) (fun k e=>by obtain rfl:=zC e;exact (zA hj.1).1)
 rwa [yf (l:=l) (q:=iy) (fun i x s hx=>by rw[hx];rfl) rfl] at this
noncomputable def tI (nm:ByteArray) (fs:List Fd) (os:List ByteArray) (rs:List (Int×Int)) (gs:List ByteArray):Bool:=bD nm&&os.all bD&&fs.all cI&&AV fs os.length&&rs.all (gd 1 536870911)&&gs.all bD
noncomputable def nD:Nat→Ms→Int→Option Int
 |0,_,_=>none
 |f+1,.mk nm fs os ms es rs gs,x=>match j4 (fs.length+os.length+ms.length+es.length+rs.length+gs.length) x with
  |none=>none
  |some x1=>if tI nm fs os rs gs then (match jR (nD f) ms x1 with
   |none=>none
   |some x2=>jR iy es x2) else none
def wV:Nat→Ms→Prop
 |0,_=>True
 |f+1,.mk _ fs _ ms _ _ _=>(∀d ∈ fs,d.ty.size≤281474976710656)∧∀m ∈ ms,wV f m
def IX (f:Nat):Prop:=∀(W:World) (b:Nat) (m:Ms) vf vo vm ve vr vg nm fs os ms es rs gs cm ce,W.heap.size≤b→iB W→Ln W m vf vo vm ve vr vg nm fs os ms es rs gs cm ce→wV f m→∀(w0:World) (x:Int),Below W.heap.size W w0→JL b x w0 →
 Calls Tryz.prog 40 #[.pointer (some ⟨b,0,none⟩),.agg #[.string nm,vf,vo,vm,ve,vr,vg],.int .i64 (33-(f:Int))] w0 (jS w0 (some b) (JL b) (nD f m x))
def JM (b g h:Nat) (deep:Int) (x:Int) (w:World):Prop:=JL b x w∧w.heap[g]?=some (.cells #[.pointer (some ⟨b,0,none⟩)] 113 (0,0))∧w.heap[h]?=some (.cells #[.int .i64 deep] 3 (0,0))
theorem Bn (b g h:Nat) (deep:Int):Jw (JM b g h deep):=fun _ _ _ hj hg=>⟨nz b _ _ _ hj.1 hg,(hg.block _ (zA hj.2.1).1 (by simp)).trans hj.2.1,(hg.block _ (zA hj.2.2).1 (by simp)).trans hj.2.2⟩
theorem L9 {w:World}{cs:List Value}{l:List Ms} (h:s8 w cs l) {i:Nat} (hi:i<l.length):∃vf vo vm ve vr vg nm fs os ms es rs gs cm ce,lC 7 cs i=.agg #[.string nm,vf,vo,vm,ve,vr,vg]∧Ln w l[i] vf vo vm ve vr vg nm fs os ms es rs gs cm ce:=by
 obtain ⟨vf,vo,vm,ve,vr,vg,nm,fs,os,ms,es,rs,gs,cm,ce,h1,h2⟩:=h.at i l[i] (List.getElem?_eq_getElem hi)
 refine ⟨vf,vo,vm,ve,vr,vg,nm,fs,os,ms,es,rs,gs,cm,ce,?_,h2⟩
 unfold lC
 rw[h1]
theorem kD {w:World}{b:Nat}{v0 v1 v2 v3 v4 v5 v6:Value}{t:TypeId} (hn:w.heap[b]?=some (.cells #[v0,v1,v2,v3,v4,v5,v6] t (0,0))):w.cell? ⟨b,0,none⟩=some v0∧w.cell? ⟨b,1,none⟩=some v1∧w.cell? ⟨b,2,none⟩=some v2∧w.cell? ⟨b,3,none⟩=some v3∧w.cell? ⟨b,4,none⟩=some v4∧w.cell? ⟨b,5,none⟩=some v5∧w.cell? ⟨b,6,none⟩=some v6 :=
 ⟨cell_of_row _ _ _ _ _ _ hn,cell_of_row _ _ _ _ _ _ hn,cell_of_row _ _ _ _ _ _ hn,cell_of_row _ _ _ _ _ _ hn,cell_of_row _ _ _ _ _ _ hn,cell_of_row _ _ _ _ _ _ hn,cell_of_row _ _ _ _ _ _ hn⟩
theorem QI {w:World}{b g h:Nat}{deep x:Int}{nm:ByteArray}{vf vo vm ve vr vg:Value} (hj:JM b g h deep x w) (hd:-9223372036854775808≤deep∧deep<9223372036854775807) {R:Ending→World→Prop} (hc:Calls Tryz.prog 40 #[.pointer (some ⟨b,0,none⟩),.agg #[.string nm,vf,vo,vm,ve,vr,vg],.int .i64 (deep+1)] (w.alloc (.cells #[.string nm,vf,vo,vm,ve,vr,vg] 46)) (fun e w'=>(∃q,e=.returned (.bool q))∧R e w')) :
  Calls Tryz.prog 75 #[.agg #[.string nm,vf,vo,vm,ve,vr,vg],.pointer (some ⟨g,0,none⟩),.pointer (some ⟨h,0,none⟩)] w fun e w'=>(∃q,e=.returned (.bool q))∧R e w':=by
 obtain ⟨c0,c1,c2,c3,c4,c5,c6⟩:=kD (aK w (.cells #[.string nm,vf,vo,vm,ve,vr,vg] 46))
 have g0:(w.alloc (.cells #[.string nm,vf,vo,vm,ve,vr,vg] 46)).cell? ⟨g,0,none⟩=some (.pointer (some ⟨b,0,none⟩)):=cell_of_row _ _ _ _ _ _ ((Below.heap_alloc _ _ _ (zA hj.2.1).1).trans hj.2.1)
 have h0:(w.alloc (.cells #[.string nm,vf,vo,vm,ve,vr,vg] 46)).cell? ⟨h,0,none⟩=some (.int .i64 deep):=cell_of_row _ _ _ _ _ _ ((Below.heap_alloc _ _ _ (zA hj.2.2).1).trans hj.2.2)
 have HC:=al hc
 obtain ⟨d0,d1⟩:=hd
 clear hj hc
 go_enter Tryz.func75,Tryz.ntmps75
 go_wp2_with fail
 refine (ab HC).mono ?_
 rintro e w1 ⟨⟨q,rfl⟩,hr⟩
 have HR:=al hr
 clear hr HC
 go_wp2
 go_ret
 exact ⟨⟨_,rfl⟩,ab HR⟩
theorem Oe {f:Nat} (hf:f≤32) (ih:IX f) {W:World} (hM:iB W) {v:Value}{cs:List Value}{l:List Ms} (hv:Rl W v l.length cs) (he:s8 W cs l) (lz:∀m ∈ l,wV f m) {b g h:Nat} (dB:W.heap.size≤b) (L0:b≠g) (We:b≠h) (w0:World) (x:Int) (hw:Below W.heap.size W w0) (hj:JM b g h (32-(f:Int)) x w0) :
  Calls Tryz.prog 38 #[v,.func (.func 75) #[] #[.pointer (some ⟨g,0,none⟩),.pointer (some ⟨h,0,none⟩)]] w0 (jS w0 (some b) (JM b g h (32-(f:Int))) (jR (nD f) l x)):=by
 have hS:eQ false W.heap.size W (some b) (JM b g h (32-(f:Int))) ⟨75,#[],#[.pointer (some ⟨g,0,none⟩),.pointer (some ⟨h,0,none⟩)]⟩ (lC 7 cs) l.length (fun i x=>((l[i]?).map fun e=>nD f e x).getD none):=by
  intro i hi s w hb jU
  obtain ⟨vf,vo,vm,ve,vr,vg,nm,fs,os,ms,es,rs,gs,cm,ce,e1,h1⟩:=L9 he hi
  have e2:((l[i]?).map fun e=>nD f e s).getD none=nD f l[i] s:=by rw[List.getElem?_eq_getElem hi];rfl
  simp only[e1,e2,Bool.false_bne]
  show Calls Tryz.prog 75 #[.agg #[.string nm,vf,vo,vm,ve,vr,vg],.pointer (some ⟨g,0,none⟩),.pointer (some ⟨h,0,none⟩)] w _
  refine (QI (R:=fun e w'=>e=.returned (.bool (nD f l[i] s).isSome)∧(∀s',nD f l[i] s=some s'→JM b g h (32-(f:Int)) s' w')∧w.grownBy w' (some b)) jU (by omega) ?_).mono (fun _ _ h=>h.2)
  have ED:=World.grownBy_alloc w (.cells #[.string nm,vf,vo,vm,ve,vr,vg] 46) none
  have Rr:=Bn b g h _ _ _ _ jU ED
  have:=ih W b l[i] vf vo vm ve vr vg nm fs os ms es rs gs cm ce dB hM h1 (lz _ (List.getElem_mem hi)) _ s (hb.alloc hb.size _) Rr.1
  rw[show (32-(f:Int))+1=33-(f:Int) by omega]
  refine this.mono ?_
  rintro e w' ⟨rfl,xQ,kH⟩
  refine ⟨⟨_,rfl⟩,rfl,fun s' e=>⟨xQ s' e,?_,?_⟩,(World.grownBy_alloc _ _ _).trans kH⟩
  ·exact (kH.block _ (zA Rr.2.1).1 (by simpa using fun e=>L0 e.symm)).trans Rr.2.1
  ·exact (kH.block _ (zA Rr.2.2).1 (by simpa using fun e=>We e.symm)).trans Rr.2.2
 have:=AF hv (fun vs w=>by kernel_rfl) hS (fun k e=>by obtain rfl:=zC e;exact dB) he.len w0 x hw hj (Bn b g h _) (fun k e=>by obtain rfl:=zC e;exact (zA hj.1.1).1)
 rwa [yf (l:=l) (q:=nD f) (fun i x s hx=>by rw[hx];rfl) rfl] at this
end Go.Proofs.YtichhjfjcinjgaaGreatDoor

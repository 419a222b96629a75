import Derived.Test.YtichhjfjcinjgaaGreatDoorM22
set_option maxHeartbeats 8000000
set_option maxRecDepth 100000
namespace Go.Proofs.YtichhjfjcinjgaaGreatDoor
open Go.RowKit
attribute [local go_sem ↓] Go.wp_at_zero Go.wp_at_succ
structure Jf (W w0:World) (b g:Nat) (cs:Array Value) (t:TypeId) (g1 g2:Nat) (deep x:Int) (w:World):Prop where
 bU:Below W.heap.size W w
 jm:JM b g1 g2 deep x w
 dt:w.heap[g]?=some (.cells cs t (0,0))
 yz:w0.grownBy w (some b)
theorem Jf.below {W w0 w w':World}{b g g1 g2:Nat}{cs:Array Value}{t:TypeId}{deep x:Int} (h:Jf W w0 b g cs t g1 g2 deep x w) (hb:Below w.heap.size w w'):Jf W w0 b g cs t g1 g2 deep x w':=by
 have hg:w.grownBy w' none:=⟨hb.os,hb.tape,hb.output,hb.size,fun k hk _=>hb.block k hk⟩
 exact ⟨h.bU.trans (hb.mono h.bU.size),BT b g1 g2 deep _ _ _ h.jm hg,(hb.block _ (zA h.dt).1).trans h.dt,h.yz.trans ⟨hg.os,hg.tape,hg.output,hg.size,fun k hk _=>hb.block k hk⟩⟩
theorem Jf.go {W w0 w w':World}{b g g1 g2:Nat}{cs:Array Value}{t:TypeId}{deep x x':Int} (h:Jf W w0 b g cs t g1 g2 deep x w) (dF:W.heap.size≤b) (ME:b≠g) (h1:b≠g1) (h2:b≠g2) (hg:w.grownBy w' (some b)) (hj:JL b x' w'):Jf W w0 b g cs t g1 g2 deep x' w' :=
 ⟨cn h.bU hg h.bU.size (fun k e=>by obtain rfl:=zC e;exact dF),⟨hj,(hg.block _ (zA h.jm.2.1).1 (by simpa using fun e=>h1 e.symm)).trans h.jm.2.1,(hg.block _ (zA h.jm.2.2).1 (by simpa using fun e=>h2 e.symm)).trans h.jm.2.2⟩,(hg.block _ (zA h.dt).1 (by simpa using fun e=>ME e.symm)).trans h.dt,h.yz.trans hg⟩
theorem Jf.no {W w0 w:World}{b g g1 g2:Nat}{cs:Array Value}{t:TypeId}{deep x:Int} (h:Jf W w0 b g cs t g1 g2 deep x w):kd w0 (some b) (JL b) none (.returned (.bool false)) w:=⟨rfl,fun _ e=>(by cases e),h.yz⟩
theorem Jf.yes {W w0 w:World}{b g g1 g2:Nat}{cs:Array Value}{t:TypeId}{deep x:Int} (h:Jf W w0 b g cs t g1 g2 deep x w):kd w0 (some b) (JL b) (some x) (.returned (.bool true)) w:=⟨rfl,fun _ e=>(by obtain rfl:=zC e;exact h.jm.1),h.yz⟩
theorem Jf.T {W w0 w:World}{b g g1 g2:Nat}{v0 v1 v2 v3 v4 v5 v6:Value}{t:TypeId}{deep x:Int} (h:Jf W w0 b g #[v0,v1,v2,v3,v4,v5,v6] t g1 g2 deep x w):w.cell? ⟨g,0,none⟩=some v0∧w.cell? ⟨g,1,none⟩=some v1∧w.cell? ⟨g,2,none⟩=some v2∧w.cell? ⟨g,3,none⟩=some v3∧w.cell? ⟨g,4,none⟩=some v4∧w.cell? ⟨g,5,none⟩=some v5∧w.cell? ⟨g,6,none⟩=some v6∧w.cell? ⟨g1,0,none⟩=some (.pointer (some ⟨b,0,none⟩))∧w.cell? ⟨g2,0,none⟩=some (.int .i64 deep):=by
 obtain ⟨c0,c1,c2,c3,c4,c5,c6⟩:=kU h.dt
 exact ⟨c0,c1,c2,c3,c4,c5,c6,cell_of_row _ _ _ _ _ _ h.jm.2.1,cell_of_row _ _ _ _ _ _ h.jm.2.2⟩
theorem Ig {W w0:World}{b:Nat}{cs:Array Value}{deep x:Int} (hw:Below W.heap.size W w0) (hj:JL b x w0):Jf W w0 b (w0.heap.size+1) cs 46 w0.heap.size (w0.heap.size+1+1) deep x (((w0.alloc (.cells #[.pointer (some ⟨b,0,none⟩)] 113)).alloc (.cells cs 46)).alloc (.cells #[.int .i64 deep] 3)):=by
 have hg:w0.grownBy (((w0.alloc (.cells #[.pointer (some ⟨b,0,none⟩)] 113)).alloc (.cells cs 46)).alloc (.cells #[.int .i64 deep] 3)) none:=((World.grownBy_alloc _ _ _).trans (World.grownBy_alloc _ _ _)).trans (World.grownBy_alloc _ _ _)
 have s1:=zJ w0 (.cells #[.pointer (some ⟨b,0,none⟩)] 113)
 have s2:=zJ (w0.alloc (.cells #[.pointer (some ⟨b,0,none⟩)] 113)) (.cells cs 46)
 have n2:=aJ (w0.alloc (.cells #[.pointer (some ⟨b,0,none⟩)] 113)) (.cells cs 46)
 have n3:=aJ ((w0.alloc (.cells #[.pointer (some ⟨b,0,none⟩)] 113)).alloc (.cells cs 46)) (.cells #[.int .i64 deep] 3)
 rw[s1] at n2
 rw[s2,s1] at n3
 refine ⟨⟨hw.os.symm ▸ hg.os,hw.tape.symm ▸ hg.tape,hw.output.symm ▸ hg.output,Nat.le_trans hw.size hg.size,fun k hk=>(hg.block k (Nat.lt_of_lt_of_le hk hw.size) (by simp)).trans (hw.block k hk)⟩,⟨nX b _ _ _ hj hg,?_,n3⟩,?_,hg.but (some b)⟩
 ·rw[Below.heap_alloc _ _ _ (by rw[s2,s1];omega),Below.heap_alloc _ _ _ (by rw[s1];omega)]
  exact aJ _ _
 ·rw[Below.heap_alloc _ _ _ (by rw[s2,s1];omega)]
  exact n2
theorem x9 (f:Nat) (hf:f<32) (ih:JG f):JG (f+1):=by
 intro W b m vf vo vm ve vr vg nm fs os ms es rs gs cm ce dF hM hV hs w0 x hw hj
 obtain ⟨rfl,Mt,NT,Bv,eo,Bw,fA,DQ,DR⟩:=hV
 obtain ⟨Zm,Zl⟩:=hs
 have Qc:b<w0.heap.size:=(zA hj.1).1
 have HW:=al (fun w=>iz w nm)
 have HO:=al (fun w h=>pz NT (fun vs w=>by kernel_rfl) iz w h)
 have Ma:=al (fun w h=>LX hM Mt Zm w h)
 have HI:=al (fun w h=>yk Mt os.length w h)
 have HR:=al (fun g h w k j=>Ei (g:=g) (h:=h) (lo:=1) (hi:=536870911) DQ w k j)
 have HG:=al (fun w h=>pz DR (fun vs w=>by kernel_rfl) iz w h)
 have FZ:=al (fun g h ME WO w x k j=>OT (g:=g) (h:=h) (by omega) ih hM Bv eo Zl dF ME WO w x k j)
 have Gi:=al (fun w x k j=>Js Bw fA dF w x k j)
 obtain ⟨af,cf,rfl,P0,-⟩:=Mt
 obtain ⟨ao,co,rfl,nJ,-⟩:=NT
 obtain ⟨am,dk,rfl,IC,-⟩:=Bv
 obtain ⟨ae,dc,rfl,iP,-⟩:=Bw
 obtain ⟨ar,cr,rfl,TP,-⟩:=DQ
 obtain ⟨ag,cg,rfl,TQ,-⟩:=DR
 have HC:=al (fun w ki=>qh (w:=w) (b:=b) (x:=x) ki (fs.length+os.length+ms.length+es.length+rs.length+gs.length) (by omega))
 have H1:=al (show b≠w0.heap.size+1 by omega)
 have H2:=al (show b≠w0.heap.size by omega)
 have H3:=al (show b≠w0.heap.size+1+1 by omega)
 have Pb:=al dF
 have HJ:=al (Ig (cs:=#[.string nm,.slice af fs.length cf,.slice ao os.length co,.slice am ms.length dk,.slice ae es.length dc,.slice ar rs.length cr,.slice ag gs.length cg]) (deep:=32-(f:Int)) hw hj)
 rw[show (33:Int)-((f+1:Nat):Int)=32-(f:Int) by omega]
 unfold oa uB
 obtain ⟨q1,h1⟩:∃q,bD nm=q:=⟨_,rfl⟩
 obtain ⟨q2,h2⟩:∃q,os.all bD=q:=⟨_,rfl⟩
 obtain ⟨q3,h3⟩:∃q,fs.all cL=q:=⟨_,rfl⟩
 obtain ⟨q4,h4⟩:∃q,Bs fs os.length=q:=⟨_,rfl⟩
 obtain ⟨q5,h5⟩:∃q,rs.all (gC 1 536870911)=q:=⟨_,rfl⟩
 obtain ⟨q6,h6⟩:∃q,gs.all bD=q:=⟨_,rfl⟩
 obtain ⟨lx,Mx⟩:∃l,ks (fs.length+os.length+ms.length+es.length+rs.length+gs.length) x=l:=⟨_,rfl⟩
 obtain ⟨Ub,IS⟩:∃l,kc (oa f) ms=l:=⟨_,rfl⟩
 obtain ⟨Qq,IT⟩:∃l,kc iL es=l:=⟨_,rfl⟩
 rw[h1] at HW ⊢
 rw[h2] at HO ⊢
 rw[h3] at Ma ⊢
 rw[h4] at HI ⊢
 rw[h5] at HR ⊢
 rw[h6] at HG ⊢
 rw[Mx] at HC ⊢
 rw[IS] at FZ ⊢
 rw[IT] at Gi ⊢
 obtain ⟨V,hV⟩:∃V,((w0.alloc (.cells #[.pointer (some ⟨b,0,none⟩)] 113)).alloc (.cells #[.string nm,.slice af fs.length cf,.slice ao os.length co,.slice am ms.length dk,.slice ae es.length dc,.slice ar rs.length cr,.slice ag gs.length cg] 46)).alloc (.cells #[.int .i64 (32-(f:Int))] 3)=V:=⟨_,rfl⟩
 rw[hV] at HJ
 have hdp:32-(f:Int)≤32:=by omega
 clear dF hw hj Qc Zm Zl hM eo fA ih h1 h2 h3 h4 h5 h6 Mx IS IT
 have Bl:=al ((ab HJ).below (below_drewN (zE _ _) 1))
 have hT:(fun w:World=>w.cell? ⟨w0.heap.size+1,0,none⟩=some (.string nm)∧w.cell? ⟨w0.heap.size+1,1,none⟩=some (.slice af fs.length cf)∧w.cell? ⟨w0.heap.size+1,2,none⟩=some (.slice ao os.length co)∧w.cell? ⟨w0.heap.size+1,3,none⟩=some (.slice am ms.length dk)∧w.cell? ⟨w0.heap.size+1,4,none⟩=some (.slice ae es.length dc)∧w.cell? ⟨w0.heap.size+1,5,none⟩=some (.slice ar rs.length cr)∧w.cell? ⟨w0.heap.size+1,6,none⟩=some (.slice ag gs.length cg)∧w.cell? ⟨w0.heap.size,0,none⟩=some (.pointer (some ⟨b,0,none⟩))∧w.cell? ⟨w0.heap.size+1+1,0,none⟩=some (.int .i64 (32-(f:Int)))) V.drew:=(ab Bl).T
 go_enter Tryz.func40,Tryz.ntmps40
 go_upto_region 1 with fail
 refine wp_region_any (by kernel_rfl) (bL (z:=199) (T:=fun w=>w.cell? ⟨w0.heap.size+1,0,none⟩=some (.string nm)∧w.cell? ⟨w0.heap.size+1,1,none⟩=some (.slice af fs.length cf)∧w.cell? ⟨w0.heap.size+1,2,none⟩=some (.slice ao os.length co)∧w.cell? ⟨w0.heap.size+1,3,none⟩=some (.slice am ms.length dk)∧w.cell? ⟨w0.heap.size+1,4,none⟩=some (.slice ae es.length dc)∧w.cell? ⟨w0.heap.size+1,5,none⟩=some (.slice ar rs.length cr)∧w.cell? ⟨w0.heap.size+1,6,none⟩=some (.slice ag gs.length cg)∧w.cell? ⟨w0.heap.size,0,none⟩=some (.pointer (some ⟨b,0,none⟩))∧w.cell? ⟨w0.heap.size+1+1,0,none⟩=some (.int .i64 (32-(f:Int)))) _ _ _ _ ?_)
 try (change cd _ _ _ _ _ _ _ _ _ (World.drew _))
 refine aw 0 (.int .i64 (32-(f:Int))) 7 rfl rfl (Or.inl ⟨by rfl,fun w hw=>by obtain ⟨cP,cH,bN,db,eI,eP,eH,fc,fF⟩:=hw;go_simp⟩) hT ?_
 simp only[Act.put,zL,zM,zN]
 refine aw 1 (.bool true) 8 rfl rfl (Or.inl ⟨by rfl,fun w hw=>by obtain ⟨cP,cH,bN,db,eI,eP,eH,fc,fF⟩:=hw;go_simp⟩) hT ?_
 simp only[Act.put,zL,zM,zN]
 refine aw 2 (.bool true) 9 rfl rfl (Or.inl ⟨by rfl,fun w hw=>by obtain ⟨cP,cH,bN,db,eI,eP,eH,fc,fF⟩:=hw;go_simp⟩) hT ?_
 simp only[Act.put,zL,zM,zN]
 refine aw 3 (.pointer (some ⟨b,0,none⟩)) 10 rfl rfl (Or.inl ⟨by rfl,fun w hw=>by obtain ⟨cP,cH,bN,db,eI,eP,eH,fc,fF⟩:=hw;go_simp⟩) hT ?_
 simp only[Act.put,zL,zM,zN]
 refine aw 4 (.pointer (some ⟨w0.heap.size+1,1,none⟩)) 11 rfl rfl (Or.inl ⟨by rfl,fun w hw=>by obtain ⟨cP,cH,bN,db,eI,eP,eH,fc,fF⟩:=hw;go_simp⟩) hT ?_
 simp only[Act.put,zL,zM,zN]
 refine aw 5 (.slice af fs.length cf) 12 rfl rfl (Or.inl ⟨by rfl,fun w hw=>by obtain ⟨cP,cH,bN,db,eI,eP,eH,fc,fF⟩:=hw;go_simp⟩) hT ?_
 simp only[Act.put,zL,zM,zN]
 refine aw 6 (.int .i64 ((fs.length:Nat):Int)) 13 rfl rfl (Or.inl ⟨by rfl,fun w hw=>by obtain ⟨cP,cH,bN,db,eI,eP,eH,fc,fF⟩:=hw;go_simp⟩) hT ?_
 simp only[Act.put,zL,zM,zN]
 refine aw 7 (.pointer (some ⟨w0.heap.size+1,2,none⟩)) 14 rfl rfl (Or.inl ⟨by rfl,fun w hw=>by obtain ⟨cP,cH,bN,db,eI,eP,eH,fc,fF⟩:=hw;go_simp⟩) hT ?_
 simp only[Act.put,zL,zM,zN]
 refine aw 8 (.slice ao os.length co) 15 rfl rfl (Or.inl ⟨by rfl,fun w hw=>by obtain ⟨cP,cH,bN,db,eI,eP,eH,fc,fF⟩:=hw;go_simp⟩) hT ?_
 simp only[Act.put,zL,zM,zN]
 refine aw 9 (.int .i64 ((os.length:Nat):Int)) 16 rfl rfl (Or.inl ⟨by rfl,fun w hw=>by obtain ⟨cP,cH,bN,db,eI,eP,eH,fc,fF⟩:=hw;go_simp⟩) hT ?_
 simp only[Act.put,zL,zM,zN]
 refine aw 10 (.int .i64 ((fs.length+os.length:Nat):Int)) 17 rfl rfl (Or.inl ⟨by rfl,fun w hw=>by obtain ⟨cP,cH,bN,db,eI,eP,eH,fc,fF⟩:=hw;go_simp;exact IntWalk.i64_in _ (by omega)⟩) hT ?_
 simp only[Act.put,zL,zM,zN]
 refine aw 11 (.pointer (some ⟨w0.heap.size+1,3,none⟩)) 18 rfl rfl (Or.inl ⟨by rfl,fun w hw=>by obtain ⟨cP,cH,bN,db,eI,eP,eH,fc,fF⟩:=hw;go_simp⟩) hT ?_
 simp only[Act.put,zL,zM,zN]
 refine aw 12 (.slice am ms.length dk) 19 rfl rfl (Or.inl ⟨by rfl,fun w hw=>by obtain ⟨cP,cH,bN,db,eI,eP,eH,fc,fF⟩:=hw;go_simp⟩) hT ?_
 simp only[Act.put,zL,zM,zN]
 refine aw 13 (.int .i64 ((ms.length:Nat):Int)) 20 rfl rfl (Or.inl ⟨by rfl,fun w hw=>by obtain ⟨cP,cH,bN,db,eI,eP,eH,fc,fF⟩:=hw;go_simp⟩) hT ?_
 simp only[Act.put,zL,zM,zN]
 refine aw 14 (.int .i64 ((fs.length+os.length+ms.length:Nat):Int)) 21 rfl rfl (Or.inl ⟨by rfl,fun w hw=>by obtain ⟨cP,cH,bN,db,eI,eP,eH,fc,fF⟩:=hw;go_simp;exact IntWalk.i64_in _ (by omega)⟩) hT ?_
 simp only[Act.put,zL,zM,zN]
 refine aw 15 (.pointer (some ⟨w0.heap.size+1,4,none⟩)) 22 rfl rfl (Or.inl ⟨by rfl,fun w hw=>by obtain ⟨cP,cH,bN,db,eI,eP,eH,fc,fF⟩:=hw;go_simp⟩) hT ?_
 simp only[Act.put,zL,zM,zN]
 refine aw 16 (.slice ae es.length dc) 23 rfl rfl (Or.inl ⟨by rfl,fun w hw=>by obtain ⟨cP,cH,bN,db,eI,eP,eH,fc,fF⟩:=hw;go_simp⟩) hT ?_
 simp only[Act.put,zL,zM,zN]
 refine aw 17 (.int .i64 ((es.length:Nat):Int)) 24 rfl rfl (Or.inl ⟨by rfl,fun w hw=>by obtain ⟨cP,cH,bN,db,eI,eP,eH,fc,fF⟩:=hw;go_simp⟩) hT ?_
 simp only[Act.put,zL,zM,zN]
 refine aw 18 (.int .i64 ((fs.length+os.length+ms.length+es.length:Nat):Int)) 25 rfl rfl (Or.inl ⟨by rfl,fun w hw=>by obtain ⟨cP,cH,bN,db,eI,eP,eH,fc,fF⟩:=hw;go_simp;exact IntWalk.i64_in _ (by omega)⟩) hT ?_
 simp only[Act.put,zL,zM,zN]
 refine aw 19 (.pointer (some ⟨w0.heap.size+1,5,none⟩)) 26 rfl rfl (Or.inl ⟨by rfl,fun w hw=>by obtain ⟨cP,cH,bN,db,eI,eP,eH,fc,fF⟩:=hw;go_simp⟩) hT ?_
 simp only[Act.put,zL,zM,zN]
 refine aw 20 (.slice ar rs.length cr) 27 rfl rfl (Or.inl ⟨by rfl,fun w hw=>by obtain ⟨cP,cH,bN,db,eI,eP,eH,fc,fF⟩:=hw;go_simp⟩) hT ?_
 simp only[Act.put,zL,zM,zN]
 refine aw 21 (.int .i64 ((rs.length:Nat):Int)) 28 rfl rfl (Or.inl ⟨by rfl,fun w hw=>by obtain ⟨cP,cH,bN,db,eI,eP,eH,fc,fF⟩:=hw;go_simp⟩) hT ?_
 simp only[Act.put,zL,zM,zN]
 refine aw 22 (.int .i64 ((fs.length+os.length+ms.length+es.length+rs.length:Nat):Int)) 29 rfl rfl (Or.inl ⟨by rfl,fun w hw=>by obtain ⟨cP,cH,bN,db,eI,eP,eH,fc,fF⟩:=hw;go_simp;exact IntWalk.i64_in _ (by omega)⟩) hT ?_
 simp only[Act.put,zL,zM,zN]
 refine aw 23 (.pointer (some ⟨w0.heap.size+1,6,none⟩)) 30 rfl rfl (Or.inl ⟨by rfl,fun w hw=>by obtain ⟨cP,cH,bN,db,eI,eP,eH,fc,fF⟩:=hw;go_simp⟩) hT ?_
 simp only[Act.put,zL,zM,zN]
 refine aw 24 (.slice ag gs.length cg) 31 rfl rfl (Or.inl ⟨by rfl,fun w hw=>by obtain ⟨cP,cH,bN,db,eI,eP,eH,fc,fF⟩:=hw;go_simp⟩) hT ?_
 simp only[Act.put,zL,zM,zN]
 refine aw 25 (.int .i64 ((gs.length:Nat):Int)) 32 rfl rfl (Or.inl ⟨by rfl,fun w hw=>by obtain ⟨cP,cH,bN,db,eI,eP,eH,fc,fF⟩:=hw;go_simp⟩) hT ?_
 simp only[Act.put,zL,zM,zN]
 refine aw 26 (.int .i64 ((fs.length+os.length+ms.length+es.length+rs.length+gs.length:Nat):Int)) 33 rfl rfl (Or.inl ⟨by rfl,fun w hw=>by obtain ⟨cP,cH,bN,db,eI,eP,eH,fc,fF⟩:=hw;go_simp;exact IntWalk.i64_in _ (by omega)⟩) hT ?_
 simp only[Act.put,zL,zM,zN]
 refine aF 27 (by kernel_rfl) rfl (fun K hK=>?_)
 refine cQ 34 rfl 35 (fun vs=>by kernel_rfl) #[.tmp 10,.tmp 33] #[113,3] rfl #[.pointer (some ⟨b,0,none⟩),.int .i64 ((fs.length+os.length+ms.length+es.length+rs.length+gs.length:Nat):Int)] (by first|rfl|simp[Act.eval]) (ab HC _ (ab Bl).jm.1) (by rfl) ?_
 rintro e w1 ⟨rfl,kC,dO⟩
 cases lx with
 |none =>
  have HN:=al (show w0.grownBy w1 (some b) from (ab Bl).yz.trans dO)
  have qV:(fun w:World=>w.cell? ⟨w0.heap.size+1,0,none⟩=some (.string nm)∧w.cell? ⟨w0.heap.size+1,1,none⟩=some (.slice af fs.length cf)∧w.cell? ⟨w0.heap.size+1,2,none⟩=some (.slice ao os.length co)∧w.cell? ⟨w0.heap.size+1,3,none⟩=some (.slice am ms.length dk)∧w.cell? ⟨w0.heap.size+1,4,none⟩=some (.slice ae es.length dc)∧w.cell? ⟨w0.heap.size+1,5,none⟩=some (.slice ar rs.length cr)∧w.cell? ⟨w0.heap.size+1,6,none⟩=some (.slice ag gs.length cg)∧w.cell? ⟨w0.heap.size,0,none⟩=some (.pointer (some ⟨b,0,none⟩))∧w.cell? ⟨w0.heap.size+1+1,0,none⟩=some (.int .i64 (32-(f:Int)))) w1:=by
   have k:=ab Bl
   obtain ⟨c0,c1,c2,c3,c4,c5,c6⟩:=kU ((dO.block _ (zA k.dt).1 (by simpa using fun e=>ab H1 e.symm)).trans k.dt)
   exact ⟨c0,c1,c2,c3,c4,c5,c6,cell_of_row _ _ _ _ _ _ ((dO.block _ (zA k.jm.2.1).1 (by simpa using fun e=>ab H2 e.symm)).trans k.jm.2.1),cell_of_row _ _ _ _ _ _ ((dO.block _ (zA k.jm.2.2).1 (by simpa using fun e=>ab H3 e.symm)).trans k.jm.2.2)⟩
  refine ⟨_,rfl,hK _ _ ⟨fun _=>qV,?_⟩⟩
  clear hK K hT kC dO
  have hT:=qV
  clear qV
  simp only[Option.isSome_none]
  simp only[Act.put,zL,zM,zN]
  refine cW [28,29,30,31,32,33,34,35,36,37,38,39,40,41,42,43,44,45,46,47,48,49,50,51,52,53,54,55,56,57,58,59,60,61,62,63,64,65,66,67,68,69,70,71,72,73,74,75,76] 6 hT (by kernel_rfl) (fun t' ht=>?_) (by decide) (by kernel_rfl) (fun _ _ _ _ _ h=>h)
  go_wp2
  go_ret
  rw[ht]
  exact ⟨rfl,fun _ e=>(by cases e),ab HN⟩
 |some x1 =>
 simp only[Option.isSome_some]
 have rb:=al ((ab Bl).go (ab Pb) (ab H1) (ab H2) (ab H3) dO (kC _ rfl))
 have qV:(fun w:World=>w.cell? ⟨w0.heap.size+1,0,none⟩=some (.string nm)∧w.cell? ⟨w0.heap.size+1,1,none⟩=some (.slice af fs.length cf)∧w.cell? ⟨w0.heap.size+1,2,none⟩=some (.slice ao os.length co)∧w.cell? ⟨w0.heap.size+1,3,none⟩=some (.slice am ms.length dk)∧w.cell? ⟨w0.heap.size+1,4,none⟩=some (.slice ae es.length dc)∧w.cell? ⟨w0.heap.size+1,5,none⟩=some (.slice ar rs.length cr)∧w.cell? ⟨w0.heap.size+1,6,none⟩=some (.slice ag gs.length cg)∧w.cell? ⟨w0.heap.size,0,none⟩=some (.pointer (some ⟨b,0,none⟩))∧w.cell? ⟨w0.heap.size+1+1,0,none⟩=some (.int .i64 (32-(f:Int)))) w1:=(ab rb).T
 refine ⟨_,rfl,hK _ _ ⟨fun _=>qV,?_⟩⟩
 clear hK K hT
 have hT:=qV
 clear qV
 simp only[Act.put,zL,zM,zN]
 clear kC dO Bl HC
 refine aw 28 (.bool true) 35 rfl rfl (Or.inl ⟨by rfl,fun w hw=>by obtain ⟨cP,cH,bN,db,eI,eP,eH,fc,fF⟩:=hw;go_simp⟩) hT ?_
 simp only[Act.put,zL,zM,zN]
 refine aw 29 (.bool true) 36 rfl rfl (Or.inl ⟨by rfl,fun w hw=>by obtain ⟨cP,cH,bN,db,eI,eP,eH,fc,fF⟩:=hw;go_simp⟩) hT ?_
 simp only[Act.put,zL,zM,zN]
 refine aw 30 (.pointer (some ⟨w0.heap.size+1,0,none⟩)) 37 rfl rfl (Or.inl ⟨by rfl,fun w hw=>by obtain ⟨cP,cH,bN,db,eI,eP,eH,fc,fF⟩:=hw;go_simp⟩) hT ?_
 simp only[Act.put,zL,zM,zN]
 refine aw 31 (.string nm) 38 rfl rfl (Or.inl ⟨by rfl,fun w hw=>by obtain ⟨cP,cH,bN,db,eI,eP,eH,fc,fF⟩:=hw;go_simp⟩) hT ?_
 simp only[Act.put,zL,zM,zN]
 refine aF 32 (by kernel_rfl) rfl (fun K hK=>?_)
 refine cQ 39 rfl 64 (fun vs=>by kernel_rfl) #[.tmp 38] #[9] rfl #[.string nm] (by first|rfl|simp[Act.eval]) (ab HW _) (by rfl) ?_
 rintro e w2 ⟨rfl,rfl⟩
 refine ⟨_,rfl,hK _ _ ⟨fun _=>hT,?_⟩⟩
 clear hK K HW
 simp only[Act.put,zL,zM,zN]
 cases q1 with
 |false =>
  refine cW [33,34,35,36,37,38,39,40,41,42,43,44,45,46,47,48,49,50,51,52,53,54,55,56,57,58,59,60,61,62,63,64,65,66,67,68,69,70,71,72,73,74,75,76] 6 hT (by kernel_rfl) (fun t' ht=>?_) (by decide) (by kernel_rfl) (fun _ _ _ _ _ h=>h)
  go_wp2
  go_ret
  rw[ht]
  exact (ab rb).no
 |true =>
 refine aw 33 (.bool true) 40 rfl rfl (Or.inl ⟨by rfl,fun w hw=>by obtain ⟨cP,cH,bN,db,eI,eP,eH,fc,fF⟩:=hw;go_simp⟩) hT ?_
 simp only[Act.put,zL,zM,zN]
 refine aw 34 (.bool true) 41 rfl rfl (Or.inl ⟨by rfl,fun w hw=>by obtain ⟨cP,cH,bN,db,eI,eP,eH,fc,fF⟩:=hw;go_simp⟩) hT ?_
 simp only[Act.put,zL,zM,zN]
 refine aw 35 (.pointer (some ⟨w0.heap.size+1,2,none⟩)) 42 rfl rfl (Or.inl ⟨by rfl,fun w hw=>by obtain ⟨cP,cH,bN,db,eI,eP,eH,fc,fF⟩:=hw;go_simp⟩) hT ?_
 simp only[Act.put,zL,zM,zN]
 refine aw 36 (.slice ao os.length co) 43 rfl rfl (Or.inl ⟨by rfl,fun w hw=>by obtain ⟨cP,cH,bN,db,eI,eP,eH,fc,fF⟩:=hw;go_simp⟩) hT ?_
 simp only[Act.put,zL,zM,zN]
 refine aF 37 (by kernel_rfl) rfl (fun K hK=>?_)
 refine cQ 44 rfl 36 (fun vs=>by kernel_rfl) #[.tmp 43,.func 64] #[22,77] rfl #[.slice ao os.length co,.func (.func 64) #[] #[]] (by first|rfl|simp[Act.eval]) (ab HO _ (ab rb).bU) (by rfl) ?_
 rintro e w3 ⟨rfl,cz⟩
 have ra:=al ((ab rb).below cz)
 have zd:(fun w:World=>w.cell? ⟨w0.heap.size+1,0,none⟩=some (.string nm)∧w.cell? ⟨w0.heap.size+1,1,none⟩=some (.slice af fs.length cf)∧w.cell? ⟨w0.heap.size+1,2,none⟩=some (.slice ao os.length co)∧w.cell? ⟨w0.heap.size+1,3,none⟩=some (.slice am ms.length dk)∧w.cell? ⟨w0.heap.size+1,4,none⟩=some (.slice ae es.length dc)∧w.cell? ⟨w0.heap.size+1,5,none⟩=some (.slice ar rs.length cr)∧w.cell? ⟨w0.heap.size+1,6,none⟩=some (.slice ag gs.length cg)∧w.cell? ⟨w0.heap.size,0,none⟩=some (.pointer (some ⟨b,0,none⟩))∧w.cell? ⟨w0.heap.size+1+1,0,none⟩=some (.int .i64 (32-(f:Int)))) w3:=(ab ra).T
 refine ⟨_,rfl,hK _ _ ⟨fun _=>zd,?_⟩⟩
 clear hK K hT
 have hT:=zd
 clear zd
 simp only[Act.put,zL,zM,zN]
 clear cz rb HO
 cases q2 with
 |false =>
  refine cW [38,39,40,41,42,43,44,45,46,47,48,49,50,51,52,53,54,55,56,57,58,59,60,61,62,63,64,65,66,67,68,69,70,71,72,73,74,75,76] 6 hT (by kernel_rfl) (fun t' ht=>?_) (by decide) (by kernel_rfl) (fun _ _ _ _ _ h=>h)
  go_wp2
  go_ret
  rw[ht]
  exact (ab ra).no
 |true =>
 refine aw 38 (.bool true) 45 rfl rfl (Or.inl ⟨by rfl,fun w hw=>by obtain ⟨cP,cH,bN,db,eI,eP,eH,fc,fF⟩:=hw;go_simp⟩) hT ?_
 simp only[Act.put,zL,zM,zN]
 refine aw 39 (.bool true) 46 rfl rfl (Or.inl ⟨by rfl,fun w hw=>by obtain ⟨cP,cH,bN,db,eI,eP,eH,fc,fF⟩:=hw;go_simp⟩) hT ?_
 simp only[Act.put,zL,zM,zN]
 refine aw 40 (.pointer (some ⟨w0.heap.size+1,1,none⟩)) 47 rfl rfl (Or.inl ⟨by rfl,fun w hw=>by obtain ⟨cP,cH,bN,db,eI,eP,eH,fc,fF⟩:=hw;go_simp⟩) hT ?_
 simp only[Act.put,zL,zM,zN]
 refine aw 41 (.slice af fs.length cf) 48 rfl rfl (Or.inl ⟨by rfl,fun w hw=>by obtain ⟨cP,cH,bN,db,eI,eP,eH,fc,fF⟩:=hw;go_simp⟩) hT ?_
 simp only[Act.put,zL,zM,zN]
 refine aF 42 (by kernel_rfl) rfl (fun K hK=>?_)
 refine cQ 49 rfl 70 (fun vs=>by kernel_rfl) #[.tmp 48,.func 71] #[43,116] rfl #[.slice af fs.length cf,.func (.func 71) #[] #[]] (by first|rfl|simp[Act.eval]) (ab Ma _ (ab ra).bU) (by rfl) ?_
 rintro e w4 ⟨rfl,ff⟩
 have vL:=al ((ab ra).below ff)
 have BB:(fun w:World=>w.cell? ⟨w0.heap.size+1,0,none⟩=some (.string nm)∧w.cell? ⟨w0.heap.size+1,1,none⟩=some (.slice af fs.length cf)∧w.cell? ⟨w0.heap.size+1,2,none⟩=some (.slice ao os.length co)∧w.cell? ⟨w0.heap.size+1,3,none⟩=some (.slice am ms.length dk)∧w.cell? ⟨w0.heap.size+1,4,none⟩=some (.slice ae es.length dc)∧w.cell? ⟨w0.heap.size+1,5,none⟩=some (.slice ar rs.length cr)∧w.cell? ⟨w0.heap.size+1,6,none⟩=some (.slice ag gs.length cg)∧w.cell? ⟨w0.heap.size,0,none⟩=some (.pointer (some ⟨b,0,none⟩))∧w.cell? ⟨w0.heap.size+1+1,0,none⟩=some (.int .i64 (32-(f:Int)))) w4:=(ab vL).T
 refine ⟨_,rfl,hK _ _ ⟨fun _=>BB,?_⟩⟩
 clear hK K hT
 have hT:=BB
 clear BB
 simp only[Act.put,zL,zM,zN]
 clear ff ra Ma
 cases q3 with
 |false =>
  refine cW [43,44,45,46,47,48,49,50,51,52,53,54,55,56,57,58,59,60,61,62,63,64,65,66,67,68,69,70,71,72,73,74,75,76] 6 hT (by kernel_rfl) (fun t' ht=>?_) (by decide) (by kernel_rfl) (fun _ _ _ _ _ h=>h)
  go_wp2
  go_ret
  rw[ht]
  exact (ab vL).no
 |true =>
 refine aw 43 (.bool true) 50 rfl rfl (Or.inl ⟨by rfl,fun w hw=>by obtain ⟨cP,cH,bN,db,eI,eP,eH,fc,fF⟩:=hw;go_simp⟩) hT ?_
 simp only[Act.put,zL,zM,zN]
 refine aw 44 (.bool true) 51 rfl rfl (Or.inl ⟨by rfl,fun w hw=>by obtain ⟨cP,cH,bN,db,eI,eP,eH,fc,fF⟩:=hw;go_simp⟩) hT ?_
 simp only[Act.put,zL,zM,zN]
 refine aw 45 (.pointer (some ⟨w0.heap.size+1,1,none⟩)) 52 rfl rfl (Or.inl ⟨by rfl,fun w hw=>by obtain ⟨cP,cH,bN,db,eI,eP,eH,fc,fF⟩:=hw;go_simp⟩) hT ?_
 simp only[Act.put,zL,zM,zN]
 refine aw 46 (.slice af fs.length cf) 53 rfl rfl (Or.inl ⟨by rfl,fun w hw=>by obtain ⟨cP,cH,bN,db,eI,eP,eH,fc,fF⟩:=hw;go_simp⟩) hT ?_
 simp only[Act.put,zL,zM,zN]
 refine aw 47 (.pointer (some ⟨w0.heap.size+1,2,none⟩)) 54 rfl rfl (Or.inl ⟨by rfl,fun w hw=>by obtain ⟨cP,cH,bN,db,eI,eP,eH,fc,fF⟩:=hw;go_simp⟩) hT ?_
 simp only[Act.put,zL,zM,zN]
 refine aw 48 (.slice ao os.length co) 55 rfl rfl (Or.inl ⟨by rfl,fun w hw=>by obtain ⟨cP,cH,bN,db,eI,eP,eH,fc,fF⟩:=hw;go_simp⟩) hT ?_
 simp only[Act.put,zL,zM,zN]
 refine aw 49 (.int .i64 ((os.length:Nat):Int)) 56 rfl rfl (Or.inl ⟨by rfl,fun w hw=>by obtain ⟨cP,cH,bN,db,eI,eP,eH,fc,fF⟩:=hw;go_simp⟩) hT ?_
 simp only[Act.put,zL,zM,zN]
 refine aF 50 (by kernel_rfl) rfl (fun K hK=>?_)
 refine cQ 57 rfl 72 (fun vs=>by kernel_rfl) #[.tmp 53,.tmp 56] #[43,3] rfl #[.slice af fs.length cf,.int .i64 ((os.length:Nat):Int)] (by first|rfl|simp[Act.eval]) (ab HI _ (ab vL).bU) (by rfl) ?_
 rintro e w5 ⟨rfl,kh⟩
 have F3:=al ((ab vL).below kh)
 have uV:(fun w:World=>w.cell? ⟨w0.heap.size+1,0,none⟩=some (.string nm)∧w.cell? ⟨w0.heap.size+1,1,none⟩=some (.slice af fs.length cf)∧w.cell? ⟨w0.heap.size+1,2,none⟩=some (.slice ao os.length co)∧w.cell? ⟨w0.heap.size+1,3,none⟩=some (.slice am ms.length dk)∧w.cell? ⟨w0.heap.size+1,4,none⟩=some (.slice ae es.length dc)∧w.cell? ⟨w0.heap.size+1,5,none⟩=some (.slice ar rs.length cr)∧w.cell? ⟨w0.heap.size+1,6,none⟩=some (.slice ag gs.length cg)∧w.cell? ⟨w0.heap.size,0,none⟩=some (.pointer (some ⟨b,0,none⟩))∧w.cell? ⟨w0.heap.size+1+1,0,none⟩=some (.int .i64 (32-(f:Int)))) w5:=(ab F3).T
 refine ⟨_,rfl,hK _ _ ⟨fun _=>uV,?_⟩⟩
 clear hK K hT
 have hT:=uV
 clear uV
 simp only[Act.put,zL,zM,zN]
 clear kh vL HI
 cases q4 with
 |false =>
  refine cW [51,52,53,54,55,56,57,58,59,60,61,62,63,64,65,66,67,68,69,70,71,72,73,74,75,76] 6 hT (by kernel_rfl) (fun t' ht=>?_) (by decide) (by kernel_rfl) (fun _ _ _ _ _ h=>h)
  go_wp2
  go_ret
  rw[ht]
  exact (ab F3).no
 |true =>
 refine aw 51 (.bool true) 58 rfl rfl (Or.inl ⟨by rfl,fun w hw=>by obtain ⟨cP,cH,bN,db,eI,eP,eH,fc,fF⟩:=hw;go_simp⟩) hT ?_
 simp only[Act.put,zL,zM,zN]
 refine aw 52 (.bool true) 59 rfl rfl (Or.inl ⟨by rfl,fun w hw=>by obtain ⟨cP,cH,bN,db,eI,eP,eH,fc,fF⟩:=hw;go_simp⟩) hT ?_
 simp only[Act.put,zL,zM,zN]
 refine aw 53 (.pointer (some ⟨w0.heap.size+1,5,none⟩)) 60 rfl rfl (Or.inl ⟨by rfl,fun w hw=>by obtain ⟨cP,cH,bN,db,eI,eP,eH,fc,fF⟩:=hw;go_simp⟩) hT ?_
 simp only[Act.put,zL,zM,zN]
 refine aw 54 (.slice ar rs.length cr) 61 rfl rfl (Or.inl ⟨by rfl,fun w hw=>by obtain ⟨cP,cH,bN,db,eI,eP,eH,fc,fF⟩:=hw;go_simp⟩) hT ?_
 simp only[Act.put,zL,zM,zN]
 refine aF 55 (by kernel_rfl) rfl (fun K hK=>?_)
 refine cQ 62 rfl 74 (fun vs=>by kernel_rfl) #[.const (.int .i64 1),.const (.int .i64 536870911)] #[3,3] rfl #[.int .i64 1,.int .i64 536870911] (by first|rfl|simp[Act.eval]) (xb _ _ _) (by rfl) ?_
 rintro e w6 ⟨rfl,eH⟩
 have pa:Below w5.heap.size w5 w6:=by rw[eH];exact ((zE _ _).alloc (zD _) _).alloc (by rw[zJ];omega) _
 have HR6:Hid (FQ w5.heap.size (w5.heap.size+1) 1 536870911 () w6):=by
  rw[eH]
  refine ⟨(Below.heap_alloc _ _ _ (by rw[zJ];omega)).trans (aJ _ _),?_⟩
  have:=aJ (w5.alloc (.cells #[.int .i64 1] 3)) (.cells #[.int .i64 536870911] 3)
  rw[zJ] at this
  exact this
 have M3:=al ((ab F3).below pa)
 have J9:(fun w:World=>w.cell? ⟨w0.heap.size+1,0,none⟩=some (.string nm)∧w.cell? ⟨w0.heap.size+1,1,none⟩=some (.slice af fs.length cf)∧w.cell? ⟨w0.heap.size+1,2,none⟩=some (.slice ao os.length co)∧w.cell? ⟨w0.heap.size+1,3,none⟩=some (.slice am ms.length dk)∧w.cell? ⟨w0.heap.size+1,4,none⟩=some (.slice ae es.length dc)∧w.cell? ⟨w0.heap.size+1,5,none⟩=some (.slice ar rs.length cr)∧w.cell? ⟨w0.heap.size+1,6,none⟩=some (.slice ag gs.length cg)∧w.cell? ⟨w0.heap.size,0,none⟩=some (.pointer (some ⟨b,0,none⟩))∧w.cell? ⟨w0.heap.size+1+1,0,none⟩=some (.int .i64 (32-(f:Int)))) w6:=(ab M3).T
 refine ⟨_,rfl,hK _ _ ⟨fun _=>J9,?_⟩⟩
 clear hK K hT
 have hT:=J9
 clear J9
 simp only[Act.put,zL,zM,zN]
 clear pa F3 eH
 refine aF 56 (by kernel_rfl) rfl (fun K hK=>?_)
 refine cQ 63 rfl 73 (fun vs=>by kernel_rfl) #[.tmp 61,.tmp 62] #[44,119] rfl #[.slice ar rs.length cr,.func (.func 120) #[] #[.pointer (some ⟨w5.heap.size,0,none⟩),.pointer (some ⟨w5.heap.size+1,0,none⟩)]] (by first|rfl|simp[Act.eval]) (ab HR _ _ _ (ab M3).bU (ab HR6)) (by rfl) ?_
 rintro e w7 ⟨rfl,qU⟩
 have Tw:=al ((ab M3).below qU)
 have WV:(fun w:World=>w.cell? ⟨w0.heap.size+1,0,none⟩=some (.string nm)∧w.cell? ⟨w0.heap.size+1,1,none⟩=some (.slice af fs.length cf)∧w.cell? ⟨w0.heap.size+1,2,none⟩=some (.slice ao os.length co)∧w.cell? ⟨w0.heap.size+1,3,none⟩=some (.slice am ms.length dk)∧w.cell? ⟨w0.heap.size+1,4,none⟩=some (.slice ae es.length dc)∧w.cell? ⟨w0.heap.size+1,5,none⟩=some (.slice ar rs.length cr)∧w.cell? ⟨w0.heap.size+1,6,none⟩=some (.slice ag gs.length cg)∧w.cell? ⟨w0.heap.size,0,none⟩=some (.pointer (some ⟨b,0,none⟩))∧w.cell? ⟨w0.heap.size+1+1,0,none⟩=some (.int .i64 (32-(f:Int)))) w7:=(ab Tw).T
 refine ⟨_,rfl,hK _ _ ⟨fun _=>WV,?_⟩⟩
 clear hK K hT
 have hT:=WV
 clear WV
 simp only[Act.put,zL,zM,zN]
 clear qU M3 HR HR6
 cases q5 with
 |false =>
  refine cW [57,58,59,60,61,62,63,64,65,66,67,68,69,70,71,72,73,74,75,76] 6 hT (by kernel_rfl) (fun t' ht=>?_) (by decide) (by kernel_rfl) (fun _ _ _ _ _ h=>h)
  go_wp2
  go_ret
  rw[ht]
  exact (ab Tw).no
 |true =>
 refine aw 57 (.bool true) 64 rfl rfl (Or.inl ⟨by rfl,fun w hw=>by obtain ⟨cP,cH,bN,db,eI,eP,eH,fc,fF⟩:=hw;go_simp⟩) hT ?_
 simp only[Act.put,zL,zM,zN]
 refine aw 58 (.bool true) 65 rfl rfl (Or.inl ⟨by rfl,fun w hw=>by obtain ⟨cP,cH,bN,db,eI,eP,eH,fc,fF⟩:=hw;go_simp⟩) hT ?_
 simp only[Act.put,zL,zM,zN]
 refine aw 59 (.pointer (some ⟨w0.heap.size+1,6,none⟩)) 66 rfl rfl (Or.inl ⟨by rfl,fun w hw=>by obtain ⟨cP,cH,bN,db,eI,eP,eH,fc,fF⟩:=hw;go_simp⟩) hT ?_
 simp only[Act.put,zL,zM,zN]
 refine aw 60 (.slice ag gs.length cg) 67 rfl rfl (Or.inl ⟨by rfl,fun w hw=>by obtain ⟨cP,cH,bN,db,eI,eP,eH,fc,fF⟩:=hw;go_simp⟩) hT ?_
 simp only[Act.put,zL,zM,zN]
 refine aF 61 (by kernel_rfl) rfl (fun K hK=>?_)
 refine cQ 68 rfl 36 (fun vs=>by kernel_rfl) #[.tmp 67,.func 64] #[22,77] rfl #[.slice ag gs.length cg,.func (.func 64) #[] #[]] (by first|rfl|simp[Act.eval]) (ab HG _ (ab Tw).bU) (by rfl) ?_
 rintro e w8 ⟨rfl,Ss⟩
 have MZ:=al ((ab Tw).below Ss)
 have WU:(fun w:World=>w.cell? ⟨w0.heap.size+1,0,none⟩=some (.string nm)∧w.cell? ⟨w0.heap.size+1,1,none⟩=some (.slice af fs.length cf)∧w.cell? ⟨w0.heap.size+1,2,none⟩=some (.slice ao os.length co)∧w.cell? ⟨w0.heap.size+1,3,none⟩=some (.slice am ms.length dk)∧w.cell? ⟨w0.heap.size+1,4,none⟩=some (.slice ae es.length dc)∧w.cell? ⟨w0.heap.size+1,5,none⟩=some (.slice ar rs.length cr)∧w.cell? ⟨w0.heap.size+1,6,none⟩=some (.slice ag gs.length cg)∧w.cell? ⟨w0.heap.size,0,none⟩=some (.pointer (some ⟨b,0,none⟩))∧w.cell? ⟨w0.heap.size+1+1,0,none⟩=some (.int .i64 (32-(f:Int)))) w8:=(ab MZ).T
 refine ⟨_,rfl,hK _ _ ⟨fun _=>WU,?_⟩⟩
 clear hK K hT
 have hT:=WU
 clear WU
 simp only[Act.put,zL,zM,zN]
 clear Ss Tw HG
 cases q6 with
 |false =>
  refine cW [62,63,64,65,66,67,68,69,70,71,72,73,74,75,76] 6 hT (by kernel_rfl) (fun t' ht=>?_) (by decide) (by kernel_rfl) (fun _ _ _ _ _ h=>h)
  go_wp2
  go_ret
  rw[ht]
  exact (ab MZ).no
 |true =>
 refine aw 62 (.bool true) 69 rfl rfl (Or.inl ⟨by rfl,fun w hw=>by obtain ⟨cP,cH,bN,db,eI,eP,eH,fc,fF⟩:=hw;go_simp⟩) hT ?_
 simp only[Act.put,zL,zM,zN]
 refine aw 63 (.bool true) 70 rfl rfl (Or.inl ⟨by rfl,fun w hw=>by obtain ⟨cP,cH,bN,db,eI,eP,eH,fc,fF⟩:=hw;go_simp⟩) hT ?_
 simp only[Act.put,zL,zM,zN]
 refine aw 64 (.pointer (some ⟨w0.heap.size+1,3,none⟩)) 71 rfl rfl (Or.inl ⟨by rfl,fun w hw=>by obtain ⟨cP,cH,bN,db,eI,eP,eH,fc,fF⟩:=hw;go_simp⟩) hT ?_
 simp only[Act.put,zL,zM,zN]
 refine aw 65 (.slice am ms.length dk) 72 rfl rfl (Or.inl ⟨by rfl,fun w hw=>by obtain ⟨cP,cH,bN,db,eI,eP,eH,fc,fF⟩:=hw;go_simp⟩) hT ?_
 simp only[Act.put,zL,zM,zN]
 refine aw 66 (.func (.func 75) #[] #[.pointer (some ⟨w0.heap.size,0,none⟩),.pointer (some ⟨w0.heap.size+1+1,0,none⟩)]) 73 rfl rfl (Or.inl ⟨by rfl,fun w hw=>by obtain ⟨cP,cH,bN,db,eI,eP,eH,fc,fF⟩:=hw;go_simp⟩) hT ?_
 simp only[Act.put,zL,zM,zN]
 refine aF 67 (by kernel_rfl) rfl (fun K hK=>?_)
 refine cQ 74 rfl 38 (fun vs=>by kernel_rfl) #[.tmp 72,.tmp 73] #[23,82] rfl #[.slice am ms.length dk,.func (.func 75) #[] #[.pointer (some ⟨w0.heap.size,0,none⟩),.pointer (some ⟨w0.heap.size+1+1,0,none⟩)]] (by first|rfl|simp[Act.eval]) (ab FZ _ _ (ab H2) (ab H3) _ x1 (ab MZ).bU (ab MZ).jm) (by rfl) ?_
 rintro e w9 ⟨rfl,WC,nN⟩
 cases RO:Ub x1 with
 |none =>
  have HN:=al (show w0.grownBy w9 (some b) from (ab MZ).yz.trans nN)
  have qV:(fun w:World=>w.cell? ⟨w0.heap.size+1,0,none⟩=some (.string nm)∧w.cell? ⟨w0.heap.size+1,1,none⟩=some (.slice af fs.length cf)∧w.cell? ⟨w0.heap.size+1,2,none⟩=some (.slice ao os.length co)∧w.cell? ⟨w0.heap.size+1,3,none⟩=some (.slice am ms.length dk)∧w.cell? ⟨w0.heap.size+1,4,none⟩=some (.slice ae es.length dc)∧w.cell? ⟨w0.heap.size+1,5,none⟩=some (.slice ar rs.length cr)∧w.cell? ⟨w0.heap.size+1,6,none⟩=some (.slice ag gs.length cg)∧w.cell? ⟨w0.heap.size,0,none⟩=some (.pointer (some ⟨b,0,none⟩))∧w.cell? ⟨w0.heap.size+1+1,0,none⟩=some (.int .i64 (32-(f:Int)))) w9:=by
   have k:=ab MZ
   obtain ⟨c0,c1,c2,c3,c4,c5,c6⟩:=kU ((nN.block _ (zA k.dt).1 (by simpa using fun e=>ab H1 e.symm)).trans k.dt)
   exact ⟨c0,c1,c2,c3,c4,c5,c6,cell_of_row _ _ _ _ _ _ ((nN.block _ (zA k.jm.2.1).1 (by simpa using fun e=>ab H2 e.symm)).trans k.jm.2.1),cell_of_row _ _ _ _ _ _ ((nN.block _ (zA k.jm.2.2).1 (by simpa using fun e=>ab H3 e.symm)).trans k.jm.2.2)⟩
  refine ⟨_,rfl,hK _ _ ⟨fun _=>qV,?_⟩⟩
  clear hK K hT WC nN
  have hT:=qV
  clear qV
  simp only[Option.isSome_none]
  simp only[Act.put,zL,zM,zN]
  refine cW [68,69,70,71,72,73,74,75,76] 6 hT (by kernel_rfl) (fun t' ht=>?_) (by decide) (by kernel_rfl) (fun _ _ _ _ _ h=>h)
  go_wp2
  go_ret
  rw[ht]
  exact ⟨rfl,fun _ e=>(by cases e),ab HN⟩
 |some x2 =>
 simp only[Option.isSome_some]
 have F2:=al ((ab MZ).go (ab Pb) (ab H1) (ab H2) (ab H3) nN (WC _ RO).1)
 have WT:(fun w:World=>w.cell? ⟨w0.heap.size+1,0,none⟩=some (.string nm)∧w.cell? ⟨w0.heap.size+1,1,none⟩=some (.slice af fs.length cf)∧w.cell? ⟨w0.heap.size+1,2,none⟩=some (.slice ao os.length co)∧w.cell? ⟨w0.heap.size+1,3,none⟩=some (.slice am ms.length dk)∧w.cell? ⟨w0.heap.size+1,4,none⟩=some (.slice ae es.length dc)∧w.cell? ⟨w0.heap.size+1,5,none⟩=some (.slice ar rs.length cr)∧w.cell? ⟨w0.heap.size+1,6,none⟩=some (.slice ag gs.length cg)∧w.cell? ⟨w0.heap.size,0,none⟩=some (.pointer (some ⟨b,0,none⟩))∧w.cell? ⟨w0.heap.size+1+1,0,none⟩=some (.int .i64 (32-(f:Int)))) w9:=(ab F2).T
 refine ⟨_,rfl,hK _ _ ⟨fun _=>WT,?_⟩⟩
 clear hK K hT
 have hT:=WT
 clear WT
 simp only[Act.put,zL,zM,zN]
 clear WC nN MZ FZ
 refine aw 68 (.bool true) 75 rfl rfl (Or.inl ⟨by rfl,fun w hw=>by obtain ⟨cP,cH,bN,db,eI,eP,eH,fc,fF⟩:=hw;go_simp⟩) hT ?_
 simp only[Act.put,zL,zM,zN]
 refine aw 69 (.bool true) 76 rfl rfl (Or.inl ⟨by rfl,fun w hw=>by obtain ⟨cP,cH,bN,db,eI,eP,eH,fc,fF⟩:=hw;go_simp⟩) hT ?_
 simp only[Act.put,zL,zM,zN]
 refine aw 70 (.pointer (some ⟨w0.heap.size+1,4,none⟩)) 77 rfl rfl (Or.inl ⟨by rfl,fun w hw=>by obtain ⟨cP,cH,bN,db,eI,eP,eH,fc,fF⟩:=hw;go_simp⟩) hT ?_
 simp only[Act.put,zL,zM,zN]
 refine aw 71 (.slice ae es.length dc) 78 rfl rfl (Or.inl ⟨by rfl,fun w hw=>by obtain ⟨cP,cH,bN,db,eI,eP,eH,fc,fF⟩:=hw;go_simp⟩) hT ?_
 simp only[Act.put,zL,zM,zN]
 refine aw 72 (.pointer (some ⟨b,0,none⟩)) 79 rfl rfl (Or.inl ⟨by rfl,fun w hw=>by obtain ⟨cP,cH,bN,db,eI,eP,eH,fc,fF⟩:=hw;go_simp⟩) hT ?_
 simp only[Act.put,zL,zM,zN]
 refine aw 73 (.func (.func 42) #[.pointer (some ⟨b,0,none⟩)] #[]) 80 rfl rfl (Or.inl ⟨by rfl,fun w hw=>by obtain ⟨cP,cH,bN,db,eI,eP,eH,fc,fF⟩:=hw;go_simp⟩) hT ?_
 simp only[Act.put,zL,zM,zN]
 refine aF 74 (by kernel_rfl) rfl (fun K hK=>?_)
 refine cQ 81 rfl 41 (fun vs=>by kernel_rfl) #[.tmp 78,.tmp 80] #[24,84] rfl #[.slice ae es.length dc,.func (.func 42) #[.pointer (some ⟨b,0,none⟩)] #[]] (by first|rfl|simp[Act.eval]) (ab Gi _ x2 (ab F2).bU (ab F2).jm.1) (by rfl) ?_
 rintro e UO ⟨rfl,N9,CJ⟩
 cases Wm:Qq x2 with
 |none =>
  have HN:=al (show w0.grownBy UO (some b) from (ab F2).yz.trans CJ)
  have qV:(fun w:World=>w.cell? ⟨w0.heap.size+1,0,none⟩=some (.string nm)∧w.cell? ⟨w0.heap.size+1,1,none⟩=some (.slice af fs.length cf)∧w.cell? ⟨w0.heap.size+1,2,none⟩=some (.slice ao os.length co)∧w.cell? ⟨w0.heap.size+1,3,none⟩=some (.slice am ms.length dk)∧w.cell? ⟨w0.heap.size+1,4,none⟩=some (.slice ae es.length dc)∧w.cell? ⟨w0.heap.size+1,5,none⟩=some (.slice ar rs.length cr)∧w.cell? ⟨w0.heap.size+1,6,none⟩=some (.slice ag gs.length cg)∧w.cell? ⟨w0.heap.size,0,none⟩=some (.pointer (some ⟨b,0,none⟩))∧w.cell? ⟨w0.heap.size+1+1,0,none⟩=some (.int .i64 (32-(f:Int)))) UO:=by
   have k:=ab F2
   obtain ⟨c0,c1,c2,c3,c4,c5,c6⟩:=kU ((CJ.block _ (zA k.dt).1 (by simpa using fun e=>ab H1 e.symm)).trans k.dt)
   exact ⟨c0,c1,c2,c3,c4,c5,c6,cell_of_row _ _ _ _ _ _ ((CJ.block _ (zA k.jm.2.1).1 (by simpa using fun e=>ab H2 e.symm)).trans k.jm.2.1),cell_of_row _ _ _ _ _ _ ((CJ.block _ (zA k.jm.2.2).1 (by simpa using fun e=>ab H3 e.symm)).trans k.jm.2.2)⟩
  refine ⟨_,rfl,hK _ _ ⟨fun _=>qV,?_⟩⟩
  clear hK K hT N9 CJ
  have hT:=qV
  clear qV
  simp only[Option.isSome_none]
  simp only[Act.put,zL,zM,zN]
  refine cW [75,76] 6 hT (by kernel_rfl) (fun t' ht=>?_) (by decide) (by kernel_rfl) (fun _ _ _ _ _ h=>h)
  go_wp2
  go_ret
  rw[ht]
  exact ⟨rfl,fun _ e=>(by cases e),ab HN⟩
 |some x3 =>
 simp only[Option.isSome_some]
 have Tx:=al ((ab F2).go (ab Pb) (ab H1) (ab H2) (ab H3) CJ (N9 _ Wm))
 have Om:(fun w:World=>w.cell? ⟨w0.heap.size+1,0,none⟩=some (.string nm)∧w.cell? ⟨w0.heap.size+1,1,none⟩=some (.slice af fs.length cf)∧w.cell? ⟨w0.heap.size+1,2,none⟩=some (.slice ao os.length co)∧w.cell? ⟨w0.heap.size+1,3,none⟩=some (.slice am ms.length dk)∧w.cell? ⟨w0.heap.size+1,4,none⟩=some (.slice ae es.length dc)∧w.cell? ⟨w0.heap.size+1,5,none⟩=some (.slice ar rs.length cr)∧w.cell? ⟨w0.heap.size+1,6,none⟩=some (.slice ag gs.length cg)∧w.cell? ⟨w0.heap.size,0,none⟩=some (.pointer (some ⟨b,0,none⟩))∧w.cell? ⟨w0.heap.size+1+1,0,none⟩=some (.int .i64 (32-(f:Int)))) UO:=(ab Tx).T
 refine ⟨_,rfl,hK _ _ ⟨fun _=>Om,?_⟩⟩
 clear hK K hT
 have hT:=Om
 clear Om
 simp only[Act.put,zL,zM,zN]
 clear N9 CJ F2 Gi
 refine aw 75 (.bool true) 82 rfl rfl (Or.inl ⟨by rfl,fun w hw=>by obtain ⟨cP,cH,bN,db,eI,eP,eH,fc,fF⟩:=hw;go_simp⟩) hT ?_
 simp only[Act.put,zL,zM,zN]
 refine aw 76 (.bool true) 6 rfl rfl (Or.inl ⟨by rfl,fun w hw=>by obtain ⟨cP,cH,bN,db,eI,eP,eH,fc,fF⟩:=hw;go_simp⟩) hT ?_
 simp only[Act.put,zL,zM,zN]
 refine a8 (by kernel_rfl) ?_
 go_wp2
 go_ret
 exact (ab Tx).yes
end Go.Proofs.YtichhjfjcinjgaaGreatDoor

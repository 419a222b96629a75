import Derived.Test.YtghioefalckgoaaGreatDoorM29
set_option maxHeartbeats 8000000
set_option maxRecDepth 100000
namespace Go.Proofs.YtghioefalckgoaaGreatDoor
open Go.RowKit
attribute [local go_sem ↓] Go.wp_at_zero Go.wp_at_succ
structure Jf (W w0:World) (b g:Nat) (cs:Array Value) (t:TypeId) (g1 g2:Nat) (deep x:Int) (w:World):Prop where
 bh:Below W.heap.size W w
 jm:JM b g1 g2 deep x w
 cH:w.heap[g]?=some (.cells cs t (0,0))
 eQ:w0.grownBy w (some b)
theorem Jf.below {W w0 w w':World}{b g g1 g2:Nat}{cs:Array Value}{t:TypeId}{deep x:Int} (h:Jf W w0 b g cs t g1 g2 deep x w) (hb:Below w.heap.size w w'):Jf W w0 b g cs t g1 g2 deep x w':=by
 have hg:w.grownBy w' none:=⟨hb.os,hb.tape,hb.output,hb.size,fun k hk _=>hb.block k hk⟩
 exact ⟨h.bh.trans (hb.mono h.bh.size),Cg b g1 g2 deep _ _ _ h.jm hg,(hb.block _ (zA h.cH).1).trans h.cH,h.eQ.trans ⟨hg.os,hg.tape,hg.output,hg.size,fun k hk _=>hb.block k hk⟩⟩
theorem Jf.go {W w0 w w':World}{b g g1 g2:Nat}{cs:Array Value}{t:TypeId}{deep x x':Int} (h:Jf W w0 b g cs t g1 g2 deep x w) (cK:W.heap.size≤b) (GP:b≠g) (h1:b≠g1) (h2:b≠g2) (hg:w.grownBy w' (some b)) (hj:JL b x' w'):Jf W w0 b g cs t g1 g2 deep x' w' :=
 ⟨cj h.bh hg h.bh.size (fun k e=>by obtain rfl:=zC e;exact cK),⟨hj,(hg.block _ (zA h.jm.2.1).1 (by simpa using fun e=>h1 e.symm)).trans h.jm.2.1,(hg.block _ (zA h.jm.2.2).1 (by simpa using fun e=>h2 e.symm)).trans h.jm.2.2⟩,(hg.block _ (zA h.cH).1 (by simpa using fun e=>GP e.symm)).trans h.cH,h.eQ.trans hg⟩
theorem Jf.no {W w0 w:World}{b g g1 g2:Nat}{cs:Array Value}{t:TypeId}{deep x:Int} (h:Jf W w0 b g cs t g1 g2 deep x w):jM w0 (some b) (JL b) none (.returned (.bool false)) w:=⟨rfl,fun _ e=>(by cases e),h.eQ⟩
theorem Jf.yes {W w0 w:World}{b g g1 g2:Nat}{cs:Array Value}{t:TypeId}{deep x:Int} (h:Jf W w0 b g cs t g1 g2 deep x w):jM w0 (some b) (JL b) (some x) (.returned (.bool true)) w:=⟨rfl,fun _ e=>(by obtain rfl:=zC e;exact h.jm.1),h.eQ⟩
theorem Jf.T {W w0 w:World}{b g g1 g2:Nat}{v0 v1 v2 v3 v4 v5 v6:Value}{t:TypeId}{deep x:Int} (h:Jf W w0 b g #[v0,v1,v2,v3,v4,v5,v6] t g1 g2 deep x w):w.cell? ⟨g,0,none⟩=some v0∧w.cell? ⟨g,1,none⟩=some v1∧w.cell? ⟨g,2,none⟩=some v2∧w.cell? ⟨g,3,none⟩=some v3∧w.cell? ⟨g,4,none⟩=some v4∧w.cell? ⟨g,5,none⟩=some v5∧w.cell? ⟨g,6,none⟩=some v6∧w.cell? ⟨g1,0,none⟩=some (.pointer (some ⟨b,0,none⟩))∧w.cell? ⟨g2,0,none⟩=some (.int .i64 deep):=by
 obtain ⟨c0,c1,c2,c3,c4,c5,c6⟩:=kO h.cH
 exact ⟨c0,c1,c2,c3,c4,c5,c6,cell_of_row _ _ _ _ _ _ h.jm.2.1,cell_of_row _ _ _ _ _ _ h.jm.2.2⟩
theorem Jp {W w0:World}{b:Nat}{cs:Array Value}{deep x:Int} (hw:Below W.heap.size W w0) (hj:JL b x w0):Jf W w0 b (w0.heap.size+1) cs 57 w0.heap.size (w0.heap.size+1+1) deep x (((w0.alloc (.cells #[.pointer (some ⟨b,0,none⟩)] 126)).alloc (.cells cs 57)).alloc (.cells #[.int .i64 deep] 3)):=by
 have hg:w0.grownBy (((w0.alloc (.cells #[.pointer (some ⟨b,0,none⟩)] 126)).alloc (.cells cs 57)).alloc (.cells #[.int .i64 deep] 3)) none:=((World.grownBy_alloc _ _ _).trans (World.grownBy_alloc _ _ _)).trans (World.grownBy_alloc _ _ _)
 have s1:=zJ w0 (.cells #[.pointer (some ⟨b,0,none⟩)] 126)
 have s2:=zJ (w0.alloc (.cells #[.pointer (some ⟨b,0,none⟩)] 126)) (.cells cs 57)
 have n2:=aE (w0.alloc (.cells #[.pointer (some ⟨b,0,none⟩)] 126)) (.cells cs 57)
 have n3:=aE ((w0.alloc (.cells #[.pointer (some ⟨b,0,none⟩)] 126)).alloc (.cells cs 57)) (.cells #[.int .i64 deep] 3)
 rw[s1] at n2
 rw[s2,s1] at n3
 refine ⟨⟨hw.os.symm ▸ hg.os,hw.tape.symm ▸ hg.tape,hw.output.symm ▸ hg.output,Nat.le_trans hw.size hg.size,fun k hk=>(hg.block k (Nat.lt_of_lt_of_le hk hw.size) (by simp)).trans (hw.block k hk)⟩,⟨nA b _ _ _ hj hg,?_,n3⟩,?_,hg.but (some b)⟩
 ·rw[Below.heap_alloc _ _ _ (by rw[s2,s1];omega),Below.heap_alloc _ _ _ (by rw[s1];omega)]
  exact aE _ _
 ·rw[Below.heap_alloc _ _ _ (by rw[s2,s1];omega)]
  exact n2
theorem yG (f:Nat) (hf:f<32) (ih:K5 f):K5 (f+1):=by
 intro W b m vf vo vm ve vr vg nm fs os ms es rs gs cm ce cK hM hV hs w0 x hw hj
 obtain ⟨rfl,OU,QU,BN,eI,xL,ep,D2,D3⟩:=hV
 obtain ⟨hsf,hsm⟩:=hs
 have LB:b<w0.heap.size:=(zA hj.1).1
 have HW:=ak (fun w=>gN w nm)
 have HO:=ak (fun w h=>po QU (fun vs w=>by kernel_rfl) gN w h)
 have HFd:=ak (fun w h=>Ob hM OU hsf w h)
 have HI:=ak (fun w h=>yM OU os.length w h)
 have HR:=ak (fun g h w k j=>Et (g:=g) (h:=h) (lo:=1) (hi:=536870911) D2 w k j)
 have HG:=ak (fun w h=>po D3 (fun vs w=>by kernel_rfl) gN w h)
 have PL:=ak (fun g h GP hbh w x k j=>Sm (g:=g) (h:=h) (by omega) ih hM BN eI hsm cK GP hbh w x k j)
 have PO:=ak (fun w x k j=>KM xL ep cK w x k j)
 obtain ⟨af,cf,rfl,hnf,-⟩:=OU
 obtain ⟨ao,co,rfl,xM,-⟩:=QU
 obtain ⟨am,cq,rfl,Vh,-⟩:=BN
 obtain ⟨ae,cn,rfl,jN,-⟩:=xL
 obtain ⟨ar,cr,rfl,hnr,-⟩:=D2
 obtain ⟨ag,cg,rfl,hng,-⟩:=D3
 have HC:=ak (fun w jO=>qg (w:=w) (b:=b) (x:=x) jO (fs.length+os.length+ms.length+es.length+rs.length+gs.length) (by omega))
 have H1:=ak (show b≠w0.heap.size+1 by omega)
 have H2:=ak (show b≠w0.heap.size by omega)
 have H3:=ak (show b≠w0.heap.size+1+1 by omega)
 have SG:=ak cK
 have HJ:=ak (Jp (cs:=#[.string nm,.slice af fs.length cf,.slice ao os.length co,.slice am ms.length cq,.slice ae es.length cn,.slice ar rs.length cr,.slice ag gs.length cg]) (deep:=32-(f:Int)) hw hj)
 rw[show (33:Int)-((f+1:Nat):Int)=32-(f:Int) by omega]
 unfold mY Cw
 obtain ⟨q1,h1⟩:∃q,dG nm=q:=⟨_,rfl⟩
 obtain ⟨q2,h2⟩:∃q,os.all dG=q:=⟨_,rfl⟩
 obtain ⟨q3,h3⟩:∃q,fs.all eK=q:=⟨_,rfl⟩
 obtain ⟨q4,h4⟩:∃q,MF fs os.length=q:=⟨_,rfl⟩
 obtain ⟨q5,h5⟩:∃q,rs.all (pP 1 536870911)=q:=⟨_,rfl⟩
 obtain ⟨q6,h6⟩:∃q,gs.all dG=q:=⟨_,rfl⟩
 obtain ⟨lx,GJ⟩:∃l,kQ (fs.length+os.length+ms.length+es.length+rs.length+gs.length) x=l:=⟨_,rfl⟩
 obtain ⟨Yi,JY⟩:∃l,gi (mY f) ms=l:=⟨_,rfl⟩
 obtain ⟨TQ,JZ⟩:∃l,gi fT es=l:=⟨_,rfl⟩
 rw[h1] at HW ⊢
 rw[h2] at HO ⊢
 rw[h3] at HFd ⊢
 rw[h4] at HI ⊢
 rw[h5] at HR ⊢
 rw[h6] at HG ⊢
 rw[GJ] at HC ⊢
 rw[JY] at PL ⊢
 rw[JZ] at PO ⊢
 obtain ⟨V,hV⟩:∃V,((w0.alloc (.cells #[.pointer (some ⟨b,0,none⟩)] 126)).alloc (.cells #[.string nm,.slice af fs.length cf,.slice ao os.length co,.slice am ms.length cq,.slice ae es.length cn,.slice ar rs.length cr,.slice ag gs.length cg] 57)).alloc (.cells #[.int .i64 (32-(f:Int))] 3)=V:=⟨_,rfl⟩
 rw[hV] at HJ
 have hdp:32-(f:Int)≤32:=by omega
 clear cK hw hj LB hsf hsm hM eI ep ih h1 h2 h3 h4 h5 h6 GJ JY JZ
 have BG:=ak ((ab HJ).below (below_drewN (zE _ _) 1))
 have hT:(fun w:World=>w.cell? ⟨w0.heap.size+1,0,none⟩=some (.string nm)∧w.cell? ⟨w0.heap.size+1,1,none⟩=some (.slice af fs.length cf)∧w.cell? ⟨w0.heap.size+1,2,none⟩=some (.slice ao os.length co)∧w.cell? ⟨w0.heap.size+1,3,none⟩=some (.slice am ms.length cq)∧w.cell? ⟨w0.heap.size+1,4,none⟩=some (.slice ae es.length cn)∧w.cell? ⟨w0.heap.size+1,5,none⟩=some (.slice ar rs.length cr)∧w.cell? ⟨w0.heap.size+1,6,none⟩=some (.slice ag gs.length cg)∧w.cell? ⟨w0.heap.size,0,none⟩=some (.pointer (some ⟨b,0,none⟩))∧w.cell? ⟨w0.heap.size+1+1,0,none⟩=some (.int .i64 (32-(f:Int)))) V.drew:=(ab BG).T
 go_enter Tryz.func57,Tryz.ntmps57
 go_upto_region 1 with fail
 refine wp_region_any (by kernel_rfl) (aV (z:=199) (T:=fun w=>w.cell? ⟨w0.heap.size+1,0,none⟩=some (.string nm)∧w.cell? ⟨w0.heap.size+1,1,none⟩=some (.slice af fs.length cf)∧w.cell? ⟨w0.heap.size+1,2,none⟩=some (.slice ao os.length co)∧w.cell? ⟨w0.heap.size+1,3,none⟩=some (.slice am ms.length cq)∧w.cell? ⟨w0.heap.size+1,4,none⟩=some (.slice ae es.length cn)∧w.cell? ⟨w0.heap.size+1,5,none⟩=some (.slice ar rs.length cr)∧w.cell? ⟨w0.heap.size+1,6,none⟩=some (.slice ag gs.length cg)∧w.cell? ⟨w0.heap.size,0,none⟩=some (.pointer (some ⟨b,0,none⟩))∧w.cell? ⟨w0.heap.size+1+1,0,none⟩=some (.int .i64 (32-(f:Int)))) _ _ _ _ ?_)
 try (change ba _ _ _ _ _ _ _ _ _ (World.drew _))
 refine aw 0 (.int .i64 (32-(f:Int))) 7 rfl rfl (Or.inl ⟨by rfl,fun w hw=>by obtain ⟨bZ,bM,br,cx,dD,dT,dN,eX,eW⟩:=hw;go_simp⟩) hT ?_
 simp only[Act.put,zL,zM,zN]
 refine aw 1 (.bool true) 8 rfl rfl (Or.inl ⟨by rfl,fun w hw=>by obtain ⟨bZ,bM,br,cx,dD,dT,dN,eX,eW⟩:=hw;go_simp⟩) hT ?_
 simp only[Act.put,zL,zM,zN]
 refine aw 2 (.bool true) 9 rfl rfl (Or.inl ⟨by rfl,fun w hw=>by obtain ⟨bZ,bM,br,cx,dD,dT,dN,eX,eW⟩:=hw;go_simp⟩) hT ?_
 simp only[Act.put,zL,zM,zN]
 refine aw 3 (.pointer (some ⟨b,0,none⟩)) 10 rfl rfl (Or.inl ⟨by rfl,fun w hw=>by obtain ⟨bZ,bM,br,cx,dD,dT,dN,eX,eW⟩:=hw;go_simp⟩) hT ?_
 simp only[Act.put,zL,zM,zN]
 refine aw 4 (.pointer (some ⟨w0.heap.size+1,1,none⟩)) 11 rfl rfl (Or.inl ⟨by rfl,fun w hw=>by obtain ⟨bZ,bM,br,cx,dD,dT,dN,eX,eW⟩:=hw;go_simp⟩) hT ?_
 simp only[Act.put,zL,zM,zN]
 refine aw 5 (.slice af fs.length cf) 12 rfl rfl (Or.inl ⟨by rfl,fun w hw=>by obtain ⟨bZ,bM,br,cx,dD,dT,dN,eX,eW⟩:=hw;go_simp⟩) hT ?_
 simp only[Act.put,zL,zM,zN]
 refine aw 6 (.int .i64 ((fs.length:Nat):Int)) 13 rfl rfl (Or.inl ⟨by rfl,fun w hw=>by obtain ⟨bZ,bM,br,cx,dD,dT,dN,eX,eW⟩:=hw;go_simp⟩) hT ?_
 simp only[Act.put,zL,zM,zN]
 refine aw 7 (.pointer (some ⟨w0.heap.size+1,2,none⟩)) 14 rfl rfl (Or.inl ⟨by rfl,fun w hw=>by obtain ⟨bZ,bM,br,cx,dD,dT,dN,eX,eW⟩:=hw;go_simp⟩) hT ?_
 simp only[Act.put,zL,zM,zN]
 refine aw 8 (.slice ao os.length co) 15 rfl rfl (Or.inl ⟨by rfl,fun w hw=>by obtain ⟨bZ,bM,br,cx,dD,dT,dN,eX,eW⟩:=hw;go_simp⟩) hT ?_
 simp only[Act.put,zL,zM,zN]
 refine aw 9 (.int .i64 ((os.length:Nat):Int)) 16 rfl rfl (Or.inl ⟨by rfl,fun w hw=>by obtain ⟨bZ,bM,br,cx,dD,dT,dN,eX,eW⟩:=hw;go_simp⟩) hT ?_
 simp only[Act.put,zL,zM,zN]
 refine aw 10 (.int .i64 ((fs.length+os.length:Nat):Int)) 17 rfl rfl (Or.inl ⟨by rfl,fun w hw=>by obtain ⟨bZ,bM,br,cx,dD,dT,dN,eX,eW⟩:=hw;go_simp;exact IntWalk.i64_in _ (by omega)⟩) hT ?_
 simp only[Act.put,zL,zM,zN]
 refine aw 11 (.pointer (some ⟨w0.heap.size+1,3,none⟩)) 18 rfl rfl (Or.inl ⟨by rfl,fun w hw=>by obtain ⟨bZ,bM,br,cx,dD,dT,dN,eX,eW⟩:=hw;go_simp⟩) hT ?_
 simp only[Act.put,zL,zM,zN]
 refine aw 12 (.slice am ms.length cq) 19 rfl rfl (Or.inl ⟨by rfl,fun w hw=>by obtain ⟨bZ,bM,br,cx,dD,dT,dN,eX,eW⟩:=hw;go_simp⟩) hT ?_
 simp only[Act.put,zL,zM,zN]
 refine aw 13 (.int .i64 ((ms.length:Nat):Int)) 20 rfl rfl (Or.inl ⟨by rfl,fun w hw=>by obtain ⟨bZ,bM,br,cx,dD,dT,dN,eX,eW⟩:=hw;go_simp⟩) hT ?_
 simp only[Act.put,zL,zM,zN]
 refine aw 14 (.int .i64 ((fs.length+os.length+ms.length:Nat):Int)) 21 rfl rfl (Or.inl ⟨by rfl,fun w hw=>by obtain ⟨bZ,bM,br,cx,dD,dT,dN,eX,eW⟩:=hw;go_simp;exact IntWalk.i64_in _ (by omega)⟩) hT ?_
 simp only[Act.put,zL,zM,zN]
 refine aw 15 (.pointer (some ⟨w0.heap.size+1,4,none⟩)) 22 rfl rfl (Or.inl ⟨by rfl,fun w hw=>by obtain ⟨bZ,bM,br,cx,dD,dT,dN,eX,eW⟩:=hw;go_simp⟩) hT ?_
 simp only[Act.put,zL,zM,zN]
 refine aw 16 (.slice ae es.length cn) 23 rfl rfl (Or.inl ⟨by rfl,fun w hw=>by obtain ⟨bZ,bM,br,cx,dD,dT,dN,eX,eW⟩:=hw;go_simp⟩) hT ?_
 simp only[Act.put,zL,zM,zN]
 refine aw 17 (.int .i64 ((es.length:Nat):Int)) 24 rfl rfl (Or.inl ⟨by rfl,fun w hw=>by obtain ⟨bZ,bM,br,cx,dD,dT,dN,eX,eW⟩:=hw;go_simp⟩) hT ?_
 simp only[Act.put,zL,zM,zN]
 refine aw 18 (.int .i64 ((fs.length+os.length+ms.length+es.length:Nat):Int)) 25 rfl rfl (Or.inl ⟨by rfl,fun w hw=>by obtain ⟨bZ,bM,br,cx,dD,dT,dN,eX,eW⟩:=hw;go_simp;exact IntWalk.i64_in _ (by omega)⟩) hT ?_
 simp only[Act.put,zL,zM,zN]
 refine aw 19 (.pointer (some ⟨w0.heap.size+1,5,none⟩)) 26 rfl rfl (Or.inl ⟨by rfl,fun w hw=>by obtain ⟨bZ,bM,br,cx,dD,dT,dN,eX,eW⟩:=hw;go_simp⟩) hT ?_
 simp only[Act.put,zL,zM,zN]
 refine aw 20 (.slice ar rs.length cr) 27 rfl rfl (Or.inl ⟨by rfl,fun w hw=>by obtain ⟨bZ,bM,br,cx,dD,dT,dN,eX,eW⟩:=hw;go_simp⟩) hT ?_
 simp only[Act.put,zL,zM,zN]
 refine aw 21 (.int .i64 ((rs.length:Nat):Int)) 28 rfl rfl (Or.inl ⟨by rfl,fun w hw=>by obtain ⟨bZ,bM,br,cx,dD,dT,dN,eX,eW⟩:=hw;go_simp⟩) hT ?_
 simp only[Act.put,zL,zM,zN]
 refine aw 22 (.int .i64 ((fs.length+os.length+ms.length+es.length+rs.length:Nat):Int)) 29 rfl rfl (Or.inl ⟨by rfl,fun w hw=>by obtain ⟨bZ,bM,br,cx,dD,dT,dN,eX,eW⟩:=hw;go_simp;exact IntWalk.i64_in _ (by omega)⟩) hT ?_
 simp only[Act.put,zL,zM,zN]
 refine aw 23 (.pointer (some ⟨w0.heap.size+1,6,none⟩)) 30 rfl rfl (Or.inl ⟨by rfl,fun w hw=>by obtain ⟨bZ,bM,br,cx,dD,dT,dN,eX,eW⟩:=hw;go_simp⟩) hT ?_
 simp only[Act.put,zL,zM,zN]
 refine aw 24 (.slice ag gs.length cg) 31 rfl rfl (Or.inl ⟨by rfl,fun w hw=>by obtain ⟨bZ,bM,br,cx,dD,dT,dN,eX,eW⟩:=hw;go_simp⟩) hT ?_
 simp only[Act.put,zL,zM,zN]
 refine aw 25 (.int .i64 ((gs.length:Nat):Int)) 32 rfl rfl (Or.inl ⟨by rfl,fun w hw=>by obtain ⟨bZ,bM,br,cx,dD,dT,dN,eX,eW⟩:=hw;go_simp⟩) hT ?_
 simp only[Act.put,zL,zM,zN]
 refine aw 26 (.int .i64 ((fs.length+os.length+ms.length+es.length+rs.length+gs.length:Nat):Int)) 33 rfl rfl (Or.inl ⟨by rfl,fun w hw=>by obtain ⟨bZ,bM,br,cx,dD,dT,dN,eX,eW⟩:=hw;go_simp;exact IntWalk.i64_in _ (by omega)⟩) hT ?_
 simp only[Act.put,zL,zM,zN]
 refine aB 27 (by kernel_rfl) rfl (fun K hK=>?_)
 refine bW 34 rfl 52 (fun vs=>by kernel_rfl) #[.tmp 10,.tmp 33] _ rfl #[.pointer (some ⟨b,0,none⟩),.int .i64 ((fs.length+os.length+ms.length+es.length+rs.length+gs.length:Nat):Int)] (by first|rfl|simp[Act.eval]) (ab HC _ (ab BG).jm.1) (by rfl) ?_
 rintro e w1 ⟨rfl,kD,bG⟩
 cases lx with
 |none =>
  have HN:=ak (show w0.grownBy w1 (some b) from (ab BG).eQ.trans bG)
  have bL:(fun w:World=>w.cell? ⟨w0.heap.size+1,0,none⟩=some (.string nm)∧w.cell? ⟨w0.heap.size+1,1,none⟩=some (.slice af fs.length cf)∧w.cell? ⟨w0.heap.size+1,2,none⟩=some (.slice ao os.length co)∧w.cell? ⟨w0.heap.size+1,3,none⟩=some (.slice am ms.length cq)∧w.cell? ⟨w0.heap.size+1,4,none⟩=some (.slice ae es.length cn)∧w.cell? ⟨w0.heap.size+1,5,none⟩=some (.slice ar rs.length cr)∧w.cell? ⟨w0.heap.size+1,6,none⟩=some (.slice ag gs.length cg)∧w.cell? ⟨w0.heap.size,0,none⟩=some (.pointer (some ⟨b,0,none⟩))∧w.cell? ⟨w0.heap.size+1+1,0,none⟩=some (.int .i64 (32-(f:Int)))) w1:=by
   have k:=ab BG
   obtain ⟨c0,c1,c2,c3,c4,c5,c6⟩:=kO ((bG.block _ (zA k.cH).1 (by simpa using fun e=>ab H1 e.symm)).trans k.cH)
   exact ⟨c0,c1,c2,c3,c4,c5,c6,cell_of_row _ _ _ _ _ _ ((bG.block _ (zA k.jm.2.1).1 (by simpa using fun e=>ab H2 e.symm)).trans k.jm.2.1),cell_of_row _ _ _ _ _ _ ((bG.block _ (zA k.jm.2.2).1 (by simpa using fun e=>ab H3 e.symm)).trans k.jm.2.2)⟩
  refine ⟨_,rfl,hK _ _ ⟨fun _=>bL,?_⟩⟩
  clear hK K hT kD bG
  have hT:=bL
  clear bL
  simp only[Option.isSome_none]
  simp only[Act.put,zL,zM,zN]
  refine ct [28,29,30,31,32,33,34,35,36,37,38,39,40,41,42,43,44,45,46,47,48,49,50,51,52,53,54,55,56,57,58,59,60,61,62,63,64,65,66,67,68,69,70,71,72,73,74,75,76] 6 hT (by kernel_rfl) (fun t' ht=>?_) (by decide) (by kernel_rfl) (fun _ _ _ _ _ h=>h)
  go_wp2
  go_ret
  rw[ht]
  exact ⟨rfl,fun _ e=>(by cases e),ab HN⟩
 |some x1 =>
 simp only[Option.isSome_some]
 have pF:=ak ((ab BG).go (ab SG) (ab H1) (ab H2) (ab H3) bG (kD _ rfl))
 have bL:(fun w:World=>w.cell? ⟨w0.heap.size+1,0,none⟩=some (.string nm)∧w.cell? ⟨w0.heap.size+1,1,none⟩=some (.slice af fs.length cf)∧w.cell? ⟨w0.heap.size+1,2,none⟩=some (.slice ao os.length co)∧w.cell? ⟨w0.heap.size+1,3,none⟩=some (.slice am ms.length cq)∧w.cell? ⟨w0.heap.size+1,4,none⟩=some (.slice ae es.length cn)∧w.cell? ⟨w0.heap.size+1,5,none⟩=some (.slice ar rs.length cr)∧w.cell? ⟨w0.heap.size+1,6,none⟩=some (.slice ag gs.length cg)∧w.cell? ⟨w0.heap.size,0,none⟩=some (.pointer (some ⟨b,0,none⟩))∧w.cell? ⟨w0.heap.size+1+1,0,none⟩=some (.int .i64 (32-(f:Int)))) w1:=(ab pF).T
 refine ⟨_,rfl,hK _ _ ⟨fun _=>bL,?_⟩⟩
 clear hK K hT
 have hT:=bL
 clear bL
 simp only[Act.put,zL,zM,zN]
 clear kD bG BG HC
 refine aw 28 (.bool true) 35 rfl rfl (Or.inl ⟨by rfl,fun w hw=>by obtain ⟨bZ,bM,br,cx,dD,dT,dN,eX,eW⟩:=hw;go_simp⟩) hT ?_
 simp only[Act.put,zL,zM,zN]
 refine aw 29 (.bool true) 36 rfl rfl (Or.inl ⟨by rfl,fun w hw=>by obtain ⟨bZ,bM,br,cx,dD,dT,dN,eX,eW⟩:=hw;go_simp⟩) hT ?_
 simp only[Act.put,zL,zM,zN]
 refine aw 30 (.pointer (some ⟨w0.heap.size+1,0,none⟩)) 37 rfl rfl (Or.inl ⟨by rfl,fun w hw=>by obtain ⟨bZ,bM,br,cx,dD,dT,dN,eX,eW⟩:=hw;go_simp⟩) hT ?_
 simp only[Act.put,zL,zM,zN]
 refine aw 31 (.string nm) 38 rfl rfl (Or.inl ⟨by rfl,fun w hw=>by obtain ⟨bZ,bM,br,cx,dD,dT,dN,eX,eW⟩:=hw;go_simp⟩) hT ?_
 simp only[Act.put,zL,zM,zN]
 refine aB 32 (by kernel_rfl) rfl (fun K hK=>?_)
 refine bW 39 rfl 83 (fun vs=>by kernel_rfl) #[.tmp 38] _ rfl #[.string nm] (by first|rfl|simp[Act.eval]) (ab HW _) (by rfl) ?_
 rintro e w2 ⟨rfl,rfl⟩
 refine ⟨_,rfl,hK _ _ ⟨fun _=>hT,?_⟩⟩
 clear hK K HW
 simp only[Act.put,zL,zM,zN]
 cases q1 with
 |false =>
  refine ct [33,34,35,36,37,38,39,40,41,42,43,44,45,46,47,48,49,50,51,52,53,54,55,56,57,58,59,60,61,62,63,64,65,66,67,68,69,70,71,72,73,74,75,76] 6 hT (by kernel_rfl) (fun t' ht=>?_) (by decide) (by kernel_rfl) (fun _ _ _ _ _ h=>h)
  go_wp2
  go_ret
  rw[ht]
  exact (ab pF).no
 |true =>
 refine aw 33 (.bool true) 40 rfl rfl (Or.inl ⟨by rfl,fun w hw=>by obtain ⟨bZ,bM,br,cx,dD,dT,dN,eX,eW⟩:=hw;go_simp⟩) hT ?_
 simp only[Act.put,zL,zM,zN]
 refine aw 34 (.bool true) 41 rfl rfl (Or.inl ⟨by rfl,fun w hw=>by obtain ⟨bZ,bM,br,cx,dD,dT,dN,eX,eW⟩:=hw;go_simp⟩) hT ?_
 simp only[Act.put,zL,zM,zN]
 refine aw 35 (.pointer (some ⟨w0.heap.size+1,2,none⟩)) 42 rfl rfl (Or.inl ⟨by rfl,fun w hw=>by obtain ⟨bZ,bM,br,cx,dD,dT,dN,eX,eW⟩:=hw;go_simp⟩) hT ?_
 simp only[Act.put,zL,zM,zN]
 refine aw 36 (.slice ao os.length co) 43 rfl rfl (Or.inl ⟨by rfl,fun w hw=>by obtain ⟨bZ,bM,br,cx,dD,dT,dN,eX,eW⟩:=hw;go_simp⟩) hT ?_
 simp only[Act.put,zL,zM,zN]
 refine aB 37 (by kernel_rfl) rfl (fun K hK=>?_)
 refine bW 44 rfl 53 (fun vs=>by kernel_rfl) #[.tmp 43,.func 83] _ rfl #[.slice ao os.length co,.func (.func 83) #[] #[]] (by first|rfl|simp[Act.eval]) (ab HO _ (ab pF).bh) (by rfl) ?_
 rintro e w3 ⟨rfl,cY⟩
 have qU:=ak ((ab pF).below cY)
 have zT:(fun w:World=>w.cell? ⟨w0.heap.size+1,0,none⟩=some (.string nm)∧w.cell? ⟨w0.heap.size+1,1,none⟩=some (.slice af fs.length cf)∧w.cell? ⟨w0.heap.size+1,2,none⟩=some (.slice ao os.length co)∧w.cell? ⟨w0.heap.size+1,3,none⟩=some (.slice am ms.length cq)∧w.cell? ⟨w0.heap.size+1,4,none⟩=some (.slice ae es.length cn)∧w.cell? ⟨w0.heap.size+1,5,none⟩=some (.slice ar rs.length cr)∧w.cell? ⟨w0.heap.size+1,6,none⟩=some (.slice ag gs.length cg)∧w.cell? ⟨w0.heap.size,0,none⟩=some (.pointer (some ⟨b,0,none⟩))∧w.cell? ⟨w0.heap.size+1+1,0,none⟩=some (.int .i64 (32-(f:Int)))) w3:=(ab qU).T
 refine ⟨_,rfl,hK _ _ ⟨fun _=>zT,?_⟩⟩
 clear hK K hT
 have hT:=zT
 clear zT
 simp only[Act.put,zL,zM,zN]
 clear cY pF HO
 cases q2 with
 |false =>
  refine ct [38,39,40,41,42,43,44,45,46,47,48,49,50,51,52,53,54,55,56,57,58,59,60,61,62,63,64,65,66,67,68,69,70,71,72,73,74,75,76] 6 hT (by kernel_rfl) (fun t' ht=>?_) (by decide) (by kernel_rfl) (fun _ _ _ _ _ h=>h)
  go_wp2
  go_ret
  rw[ht]
  exact (ab qU).no
 |true =>
 refine aw 38 (.bool true) 45 rfl rfl (Or.inl ⟨by rfl,fun w hw=>by obtain ⟨bZ,bM,br,cx,dD,dT,dN,eX,eW⟩:=hw;go_simp⟩) hT ?_
 simp only[Act.put,zL,zM,zN]
 refine aw 39 (.bool true) 46 rfl rfl (Or.inl ⟨by rfl,fun w hw=>by obtain ⟨bZ,bM,br,cx,dD,dT,dN,eX,eW⟩:=hw;go_simp⟩) hT ?_
 simp only[Act.put,zL,zM,zN]
 refine aw 40 (.pointer (some ⟨w0.heap.size+1,1,none⟩)) 47 rfl rfl (Or.inl ⟨by rfl,fun w hw=>by obtain ⟨bZ,bM,br,cx,dD,dT,dN,eX,eW⟩:=hw;go_simp⟩) hT ?_
 simp only[Act.put,zL,zM,zN]
 refine aw 41 (.slice af fs.length cf) 48 rfl rfl (Or.inl ⟨by rfl,fun w hw=>by obtain ⟨bZ,bM,br,cx,dD,dT,dN,eX,eW⟩:=hw;go_simp⟩) hT ?_
 simp only[Act.put,zL,zM,zN]
 refine aB 42 (by kernel_rfl) rfl (fun K hK=>?_)
 refine bW 49 rfl 89 (fun vs=>by kernel_rfl) #[.tmp 48,.func 90] _ rfl #[.slice af fs.length cf,.func (.func 90) #[] #[]] (by first|rfl|simp[Act.eval]) (ab HFd _ (ab qU).bh) (by rfl) ?_
 rintro e w4 ⟨rfl,lb⟩
 have wF:=ak ((ab qU).below lb)
 have BS:(fun w:World=>w.cell? ⟨w0.heap.size+1,0,none⟩=some (.string nm)∧w.cell? ⟨w0.heap.size+1,1,none⟩=some (.slice af fs.length cf)∧w.cell? ⟨w0.heap.size+1,2,none⟩=some (.slice ao os.length co)∧w.cell? ⟨w0.heap.size+1,3,none⟩=some (.slice am ms.length cq)∧w.cell? ⟨w0.heap.size+1,4,none⟩=some (.slice ae es.length cn)∧w.cell? ⟨w0.heap.size+1,5,none⟩=some (.slice ar rs.length cr)∧w.cell? ⟨w0.heap.size+1,6,none⟩=some (.slice ag gs.length cg)∧w.cell? ⟨w0.heap.size,0,none⟩=some (.pointer (some ⟨b,0,none⟩))∧w.cell? ⟨w0.heap.size+1+1,0,none⟩=some (.int .i64 (32-(f:Int)))) w4:=(ab wF).T
 refine ⟨_,rfl,hK _ _ ⟨fun _=>BS,?_⟩⟩
 clear hK K hT
 have hT:=BS
 clear BS
 simp only[Act.put,zL,zM,zN]
 clear lb qU HFd
 cases q3 with
 |false =>
  refine ct [43,44,45,46,47,48,49,50,51,52,53,54,55,56,57,58,59,60,61,62,63,64,65,66,67,68,69,70,71,72,73,74,75,76] 6 hT (by kernel_rfl) (fun t' ht=>?_) (by decide) (by kernel_rfl) (fun _ _ _ _ _ h=>h)
  go_wp2
  go_ret
  rw[ht]
  exact (ab wF).no
 |true =>
 refine aw 43 (.bool true) 50 rfl rfl (Or.inl ⟨by rfl,fun w hw=>by obtain ⟨bZ,bM,br,cx,dD,dT,dN,eX,eW⟩:=hw;go_simp⟩) hT ?_
 simp only[Act.put,zL,zM,zN]
 refine aw 44 (.bool true) 51 rfl rfl (Or.inl ⟨by rfl,fun w hw=>by obtain ⟨bZ,bM,br,cx,dD,dT,dN,eX,eW⟩:=hw;go_simp⟩) hT ?_
 simp only[Act.put,zL,zM,zN]
 refine aw 45 (.pointer (some ⟨w0.heap.size+1,1,none⟩)) 52 rfl rfl (Or.inl ⟨by rfl,fun w hw=>by obtain ⟨bZ,bM,br,cx,dD,dT,dN,eX,eW⟩:=hw;go_simp⟩) hT ?_
 simp only[Act.put,zL,zM,zN]
 refine aw 46 (.slice af fs.length cf) 53 rfl rfl (Or.inl ⟨by rfl,fun w hw=>by obtain ⟨bZ,bM,br,cx,dD,dT,dN,eX,eW⟩:=hw;go_simp⟩) hT ?_
 simp only[Act.put,zL,zM,zN]
 refine aw 47 (.pointer (some ⟨w0.heap.size+1,2,none⟩)) 54 rfl rfl (Or.inl ⟨by rfl,fun w hw=>by obtain ⟨bZ,bM,br,cx,dD,dT,dN,eX,eW⟩:=hw;go_simp⟩) hT ?_
 simp only[Act.put,zL,zM,zN]
 refine aw 48 (.slice ao os.length co) 55 rfl rfl (Or.inl ⟨by rfl,fun w hw=>by obtain ⟨bZ,bM,br,cx,dD,dT,dN,eX,eW⟩:=hw;go_simp⟩) hT ?_
 simp only[Act.put,zL,zM,zN]
 refine aw 49 (.int .i64 ((os.length:Nat):Int)) 56 rfl rfl (Or.inl ⟨by rfl,fun w hw=>by obtain ⟨bZ,bM,br,cx,dD,dT,dN,eX,eW⟩:=hw;go_simp⟩) hT ?_
 simp only[Act.put,zL,zM,zN]
 refine aB 50 (by kernel_rfl) rfl (fun K hK=>?_)
 refine bW 57 rfl 91 (fun vs=>by kernel_rfl) #[.tmp 53,.tmp 56] _ rfl #[.slice af fs.length cf,.int .i64 ((os.length:Nat):Int)] (by first|rfl|simp[Act.eval]) (ab HI _ (ab wF).bh) (by rfl) ?_
 rintro e w5 ⟨rfl,lv⟩
 have Gv:=ak ((ab wF).below lv)
 have yT:(fun w:World=>w.cell? ⟨w0.heap.size+1,0,none⟩=some (.string nm)∧w.cell? ⟨w0.heap.size+1,1,none⟩=some (.slice af fs.length cf)∧w.cell? ⟨w0.heap.size+1,2,none⟩=some (.slice ao os.length co)∧w.cell? ⟨w0.heap.size+1,3,none⟩=some (.slice am ms.length cq)∧w.cell? ⟨w0.heap.size+1,4,none⟩=some (.slice ae es.length cn)∧w.cell? ⟨w0.heap.size+1,5,none⟩=some (.slice ar rs.length cr)∧w.cell? ⟨w0.heap.size+1,6,none⟩=some (.slice ag gs.length cg)∧w.cell? ⟨w0.heap.size,0,none⟩=some (.pointer (some ⟨b,0,none⟩))∧w.cell? ⟨w0.heap.size+1+1,0,none⟩=some (.int .i64 (32-(f:Int)))) w5:=(ab Gv).T
 refine ⟨_,rfl,hK _ _ ⟨fun _=>yT,?_⟩⟩
 clear hK K hT
 have hT:=yT
 clear yT
 simp only[Act.put,zL,zM,zN]
 clear lv wF HI
 cases q4 with
 |false =>
  refine ct [51,52,53,54,55,56,57,58,59,60,61,62,63,64,65,66,67,68,69,70,71,72,73,74,75,76] 6 hT (by kernel_rfl) (fun t' ht=>?_) (by decide) (by kernel_rfl) (fun _ _ _ _ _ h=>h)
  go_wp2
  go_ret
  rw[ht]
  exact (ab Gv).no
 |true =>
 refine aw 51 (.bool true) 58 rfl rfl (Or.inl ⟨by rfl,fun w hw=>by obtain ⟨bZ,bM,br,cx,dD,dT,dN,eX,eW⟩:=hw;go_simp⟩) hT ?_
 simp only[Act.put,zL,zM,zN]
 refine aw 52 (.bool true) 59 rfl rfl (Or.inl ⟨by rfl,fun w hw=>by obtain ⟨bZ,bM,br,cx,dD,dT,dN,eX,eW⟩:=hw;go_simp⟩) hT ?_
 simp only[Act.put,zL,zM,zN]
 refine aw 53 (.pointer (some ⟨w0.heap.size+1,5,none⟩)) 60 rfl rfl (Or.inl ⟨by rfl,fun w hw=>by obtain ⟨bZ,bM,br,cx,dD,dT,dN,eX,eW⟩:=hw;go_simp⟩) hT ?_
 simp only[Act.put,zL,zM,zN]
 refine aw 54 (.slice ar rs.length cr) 61 rfl rfl (Or.inl ⟨by rfl,fun w hw=>by obtain ⟨bZ,bM,br,cx,dD,dT,dN,eX,eW⟩:=hw;go_simp⟩) hT ?_
 simp only[Act.put,zL,zM,zN]
 refine aB 55 (by kernel_rfl) rfl (fun K hK=>?_)
 refine bW 62 rfl 93 (fun vs=>by kernel_rfl) #[.const (.int .i64 1),.const (.int .i64 536870911)] _ rfl #[.int .i64 1,.int .i64 536870911] (by first|rfl|simp[Act.eval]) (xF _ _ _) (by rfl) ?_
 rintro e w6 ⟨rfl,dN⟩
 have lr:Below w5.heap.size w5 w6:=by rw[dN];exact ((zE _ _).alloc (zD _) _).alloc (by rw[zJ];omega) _
 have HR6:Hid (Gn w5.heap.size (w5.heap.size+1) 1 536870911 () w6):=by
  rw[dN]
  refine ⟨(Below.heap_alloc _ _ _ (by rw[zJ];omega)).trans (aE _ _),?_⟩
  have:=aE (w5.alloc (.cells #[.int .i64 1] 3)) (.cells #[.int .i64 536870911] 3)
  rw[zJ] at this
  exact this
 have PN:=ak ((ab Gv).below lr)
 have LC:(fun w:World=>w.cell? ⟨w0.heap.size+1,0,none⟩=some (.string nm)∧w.cell? ⟨w0.heap.size+1,1,none⟩=some (.slice af fs.length cf)∧w.cell? ⟨w0.heap.size+1,2,none⟩=some (.slice ao os.length co)∧w.cell? ⟨w0.heap.size+1,3,none⟩=some (.slice am ms.length cq)∧w.cell? ⟨w0.heap.size+1,4,none⟩=some (.slice ae es.length cn)∧w.cell? ⟨w0.heap.size+1,5,none⟩=some (.slice ar rs.length cr)∧w.cell? ⟨w0.heap.size+1,6,none⟩=some (.slice ag gs.length cg)∧w.cell? ⟨w0.heap.size,0,none⟩=some (.pointer (some ⟨b,0,none⟩))∧w.cell? ⟨w0.heap.size+1+1,0,none⟩=some (.int .i64 (32-(f:Int)))) w6:=(ab PN).T
 refine ⟨_,rfl,hK _ _ ⟨fun _=>LC,?_⟩⟩
 clear hK K hT
 have hT:=LC
 clear LC
 simp only[Act.put,zL,zM,zN]
 clear lr Gv dN
 refine aB 56 (by kernel_rfl) rfl (fun K hK=>?_)
 refine bW 63 rfl 92 (fun vs=>by kernel_rfl) #[.tmp 61,.tmp 62] _ rfl #[.slice ar rs.length cr,.func (.func 146) #[] #[.pointer (some ⟨w5.heap.size,0,none⟩),.pointer (some ⟨w5.heap.size+1,0,none⟩)]] (by first|rfl|simp[Act.eval]) (ab HR _ _ _ (ab PN).bh (ab HR6)) (by rfl) ?_
 rintro e w7 ⟨rfl,Pk⟩
 have Xf:=ak ((ab PN).below Pk)
 have hT7:(fun w:World=>w.cell? ⟨w0.heap.size+1,0,none⟩=some (.string nm)∧w.cell? ⟨w0.heap.size+1,1,none⟩=some (.slice af fs.length cf)∧w.cell? ⟨w0.heap.size+1,2,none⟩=some (.slice ao os.length co)∧w.cell? ⟨w0.heap.size+1,3,none⟩=some (.slice am ms.length cq)∧w.cell? ⟨w0.heap.size+1,4,none⟩=some (.slice ae es.length cn)∧w.cell? ⟨w0.heap.size+1,5,none⟩=some (.slice ar rs.length cr)∧w.cell? ⟨w0.heap.size+1,6,none⟩=some (.slice ag gs.length cg)∧w.cell? ⟨w0.heap.size,0,none⟩=some (.pointer (some ⟨b,0,none⟩))∧w.cell? ⟨w0.heap.size+1+1,0,none⟩=some (.int .i64 (32-(f:Int)))) w7:=(ab Xf).T
 refine ⟨_,rfl,hK _ _ ⟨fun _=>hT7,?_⟩⟩
 clear hK K hT
 have hT:=hT7
 clear hT7
 simp only[Act.put,zL,zM,zN]
 clear Pk PN HR HR6
 cases q5 with
 |false =>
  refine ct [57,58,59,60,61,62,63,64,65,66,67,68,69,70,71,72,73,74,75,76] 6 hT (by kernel_rfl) (fun t' ht=>?_) (by decide) (by kernel_rfl) (fun _ _ _ _ _ h=>h)
  go_wp2
  go_ret
  rw[ht]
  exact (ab Xf).no
 |true =>
 refine aw 57 (.bool true) 64 rfl rfl (Or.inl ⟨by rfl,fun w hw=>by obtain ⟨bZ,bM,br,cx,dD,dT,dN,eX,eW⟩:=hw;go_simp⟩) hT ?_
 simp only[Act.put,zL,zM,zN]
 refine aw 58 (.bool true) 65 rfl rfl (Or.inl ⟨by rfl,fun w hw=>by obtain ⟨bZ,bM,br,cx,dD,dT,dN,eX,eW⟩:=hw;go_simp⟩) hT ?_
 simp only[Act.put,zL,zM,zN]
 refine aw 59 (.pointer (some ⟨w0.heap.size+1,6,none⟩)) 66 rfl rfl (Or.inl ⟨by rfl,fun w hw=>by obtain ⟨bZ,bM,br,cx,dD,dT,dN,eX,eW⟩:=hw;go_simp⟩) hT ?_
 simp only[Act.put,zL,zM,zN]
 refine aw 60 (.slice ag gs.length cg) 67 rfl rfl (Or.inl ⟨by rfl,fun w hw=>by obtain ⟨bZ,bM,br,cx,dD,dT,dN,eX,eW⟩:=hw;go_simp⟩) hT ?_
 simp only[Act.put,zL,zM,zN]
 refine aB 61 (by kernel_rfl) rfl (fun K hK=>?_)
 refine bW 68 rfl 53 (fun vs=>by kernel_rfl) #[.tmp 67,.func 83] _ rfl #[.slice ag gs.length cg,.func (.func 83) #[] #[]] (by first|rfl|simp[Act.eval]) (ab HG _ (ab Xf).bh) (by rfl) ?_
 rintro e w8 ⟨rfl,hb8⟩
 have PM:=ak ((ab Xf).below hb8)
 have hT8:(fun w:World=>w.cell? ⟨w0.heap.size+1,0,none⟩=some (.string nm)∧w.cell? ⟨w0.heap.size+1,1,none⟩=some (.slice af fs.length cf)∧w.cell? ⟨w0.heap.size+1,2,none⟩=some (.slice ao os.length co)∧w.cell? ⟨w0.heap.size+1,3,none⟩=some (.slice am ms.length cq)∧w.cell? ⟨w0.heap.size+1,4,none⟩=some (.slice ae es.length cn)∧w.cell? ⟨w0.heap.size+1,5,none⟩=some (.slice ar rs.length cr)∧w.cell? ⟨w0.heap.size+1,6,none⟩=some (.slice ag gs.length cg)∧w.cell? ⟨w0.heap.size,0,none⟩=some (.pointer (some ⟨b,0,none⟩))∧w.cell? ⟨w0.heap.size+1+1,0,none⟩=some (.int .i64 (32-(f:Int)))) w8:=(ab PM).T
 refine ⟨_,rfl,hK _ _ ⟨fun _=>hT8,?_⟩⟩
 clear hK K hT
 have hT:=hT8
 clear hT8
 simp only[Act.put,zL,zM,zN]
 clear hb8 Xf HG
 cases q6 with
 |false =>
  refine ct [62,63,64,65,66,67,68,69,70,71,72,73,74,75,76] 6 hT (by kernel_rfl) (fun t' ht=>?_) (by decide) (by kernel_rfl) (fun _ _ _ _ _ h=>h)
  go_wp2
  go_ret
  rw[ht]
  exact (ab PM).no
 |true =>
 refine aw 62 (.bool true) 69 rfl rfl (Or.inl ⟨by rfl,fun w hw=>by obtain ⟨bZ,bM,br,cx,dD,dT,dN,eX,eW⟩:=hw;go_simp⟩) hT ?_
 simp only[Act.put,zL,zM,zN]
 refine aw 63 (.bool true) 70 rfl rfl (Or.inl ⟨by rfl,fun w hw=>by obtain ⟨bZ,bM,br,cx,dD,dT,dN,eX,eW⟩:=hw;go_simp⟩) hT ?_
 simp only[Act.put,zL,zM,zN]
 refine aw 64 (.pointer (some ⟨w0.heap.size+1,3,none⟩)) 71 rfl rfl (Or.inl ⟨by rfl,fun w hw=>by obtain ⟨bZ,bM,br,cx,dD,dT,dN,eX,eW⟩:=hw;go_simp⟩) hT ?_
 simp only[Act.put,zL,zM,zN]
 refine aw 65 (.slice am ms.length cq) 72 rfl rfl (Or.inl ⟨by rfl,fun w hw=>by obtain ⟨bZ,bM,br,cx,dD,dT,dN,eX,eW⟩:=hw;go_simp⟩) hT ?_
 simp only[Act.put,zL,zM,zN]
 refine aw 66 (.func (.func 94) #[] #[.pointer (some ⟨w0.heap.size,0,none⟩),.pointer (some ⟨w0.heap.size+1+1,0,none⟩)]) 73 rfl rfl (Or.inl ⟨by rfl,fun w hw=>by obtain ⟨bZ,bM,br,cx,dD,dT,dN,eX,eW⟩:=hw;go_simp⟩) hT ?_
 simp only[Act.put,zL,zM,zN]
 refine aB 67 (by kernel_rfl) rfl (fun K hK=>?_)
 refine bW 74 rfl 55 (fun vs=>by kernel_rfl) #[.tmp 72,.tmp 73] _ rfl #[.slice am ms.length cq,.func (.func 94) #[] #[.pointer (some ⟨w0.heap.size,0,none⟩),.pointer (some ⟨w0.heap.size+1+1,0,none⟩)]] (by first|rfl|simp[Act.eval]) (ab PL _ _ (ab H2) (ab H3) _ x1 (ab PM).bh (ab PM).jm) (by rfl) ?_
 rintro e w9 ⟨rfl,hj9,np⟩
 cases Vc:Yi x1 with
 |none =>
  have HN:=ak (show w0.grownBy w9 (some b) from (ab PM).eQ.trans np)
  have bL:(fun w:World=>w.cell? ⟨w0.heap.size+1,0,none⟩=some (.string nm)∧w.cell? ⟨w0.heap.size+1,1,none⟩=some (.slice af fs.length cf)∧w.cell? ⟨w0.heap.size+1,2,none⟩=some (.slice ao os.length co)∧w.cell? ⟨w0.heap.size+1,3,none⟩=some (.slice am ms.length cq)∧w.cell? ⟨w0.heap.size+1,4,none⟩=some (.slice ae es.length cn)∧w.cell? ⟨w0.heap.size+1,5,none⟩=some (.slice ar rs.length cr)∧w.cell? ⟨w0.heap.size+1,6,none⟩=some (.slice ag gs.length cg)∧w.cell? ⟨w0.heap.size,0,none⟩=some (.pointer (some ⟨b,0,none⟩))∧w.cell? ⟨w0.heap.size+1+1,0,none⟩=some (.int .i64 (32-(f:Int)))) w9:=by
   have k:=ab PM
   obtain ⟨c0,c1,c2,c3,c4,c5,c6⟩:=kO ((np.block _ (zA k.cH).1 (by simpa using fun e=>ab H1 e.symm)).trans k.cH)
   exact ⟨c0,c1,c2,c3,c4,c5,c6,cell_of_row _ _ _ _ _ _ ((np.block _ (zA k.jm.2.1).1 (by simpa using fun e=>ab H2 e.symm)).trans k.jm.2.1),cell_of_row _ _ _ _ _ _ ((np.block _ (zA k.jm.2.2).1 (by simpa using fun e=>ab H3 e.symm)).trans k.jm.2.2)⟩
  refine ⟨_,rfl,hK _ _ ⟨fun _=>bL,?_⟩⟩
  clear hK K hT hj9 np
  have hT:=bL
  clear bL
  simp only[Option.isSome_none]
  simp only[Act.put,zL,zM,zN]
  refine ct [68,69,70,71,72,73,74,75,76] 6 hT (by kernel_rfl) (fun t' ht=>?_) (by decide) (by kernel_rfl) (fun _ _ _ _ _ h=>h)
  go_wp2
  go_ret
  rw[ht]
  exact ⟨rfl,fun _ e=>(by cases e),ab HN⟩
 |some x2 =>
 simp only[Option.isSome_some]
 have Gu:=ak ((ab PM).go (ab SG) (ab H1) (ab H2) (ab H3) np (hj9 _ Vc).1)
 have hT9:(fun w:World=>w.cell? ⟨w0.heap.size+1,0,none⟩=some (.string nm)∧w.cell? ⟨w0.heap.size+1,1,none⟩=some (.slice af fs.length cf)∧w.cell? ⟨w0.heap.size+1,2,none⟩=some (.slice ao os.length co)∧w.cell? ⟨w0.heap.size+1,3,none⟩=some (.slice am ms.length cq)∧w.cell? ⟨w0.heap.size+1,4,none⟩=some (.slice ae es.length cn)∧w.cell? ⟨w0.heap.size+1,5,none⟩=some (.slice ar rs.length cr)∧w.cell? ⟨w0.heap.size+1,6,none⟩=some (.slice ag gs.length cg)∧w.cell? ⟨w0.heap.size,0,none⟩=some (.pointer (some ⟨b,0,none⟩))∧w.cell? ⟨w0.heap.size+1+1,0,none⟩=some (.int .i64 (32-(f:Int)))) w9:=(ab Gu).T
 refine ⟨_,rfl,hK _ _ ⟨fun _=>hT9,?_⟩⟩
 clear hK K hT
 have hT:=hT9
 clear hT9
 simp only[Act.put,zL,zM,zN]
 clear hj9 np PM PL
 refine aw 68 (.bool true) 75 rfl rfl (Or.inl ⟨by rfl,fun w hw=>by obtain ⟨bZ,bM,br,cx,dD,dT,dN,eX,eW⟩:=hw;go_simp⟩) hT ?_
 simp only[Act.put,zL,zM,zN]
 refine aw 69 (.bool true) 76 rfl rfl (Or.inl ⟨by rfl,fun w hw=>by obtain ⟨bZ,bM,br,cx,dD,dT,dN,eX,eW⟩:=hw;go_simp⟩) hT ?_
 simp only[Act.put,zL,zM,zN]
 refine aw 70 (.pointer (some ⟨w0.heap.size+1,4,none⟩)) 77 rfl rfl (Or.inl ⟨by rfl,fun w hw=>by obtain ⟨bZ,bM,br,cx,dD,dT,dN,eX,eW⟩:=hw;go_simp⟩) hT ?_
 simp only[Act.put,zL,zM,zN]
 refine aw 71 (.slice ae es.length cn) 78 rfl rfl (Or.inl ⟨by rfl,fun w hw=>by obtain ⟨bZ,bM,br,cx,dD,dT,dN,eX,eW⟩:=hw;go_simp⟩) hT ?_
 simp only[Act.put,zL,zM,zN]
 refine aw 72 (.pointer (some ⟨b,0,none⟩)) 79 rfl rfl (Or.inl ⟨by rfl,fun w hw=>by obtain ⟨bZ,bM,br,cx,dD,dT,dN,eX,eW⟩:=hw;go_simp⟩) hT ?_
 simp only[Act.put,zL,zM,zN]
 refine aw 73 (.func (.func 59) #[.pointer (some ⟨b,0,none⟩)] #[]) 80 rfl rfl (Or.inl ⟨by rfl,fun w hw=>by obtain ⟨bZ,bM,br,cx,dD,dT,dN,eX,eW⟩:=hw;go_simp⟩) hT ?_
 simp only[Act.put,zL,zM,zN]
 refine aB 74 (by kernel_rfl) rfl (fun K hK=>?_)
 refine bW 81 rfl 58 (fun vs=>by kernel_rfl) #[.tmp 78,.tmp 80] _ rfl #[.slice ae es.length cn,.func (.func 59) #[.pointer (some ⟨b,0,none⟩)] #[]] (by first|rfl|simp[Act.eval]) (ab PO _ x2 (ab Gu).bh (ab Gu).jm.1) (by rfl) ?_
 rintro e YU ⟨rfl,Re,CU⟩
 cases aar:TQ x2 with
 |none =>
  have HN:=ak (show w0.grownBy YU (some b) from (ab Gu).eQ.trans CU)
  have bL:(fun w:World=>w.cell? ⟨w0.heap.size+1,0,none⟩=some (.string nm)∧w.cell? ⟨w0.heap.size+1,1,none⟩=some (.slice af fs.length cf)∧w.cell? ⟨w0.heap.size+1,2,none⟩=some (.slice ao os.length co)∧w.cell? ⟨w0.heap.size+1,3,none⟩=some (.slice am ms.length cq)∧w.cell? ⟨w0.heap.size+1,4,none⟩=some (.slice ae es.length cn)∧w.cell? ⟨w0.heap.size+1,5,none⟩=some (.slice ar rs.length cr)∧w.cell? ⟨w0.heap.size+1,6,none⟩=some (.slice ag gs.length cg)∧w.cell? ⟨w0.heap.size,0,none⟩=some (.pointer (some ⟨b,0,none⟩))∧w.cell? ⟨w0.heap.size+1+1,0,none⟩=some (.int .i64 (32-(f:Int)))) YU:=by
   have k:=ab Gu
   obtain ⟨c0,c1,c2,c3,c4,c5,c6⟩:=kO ((CU.block _ (zA k.cH).1 (by simpa using fun e=>ab H1 e.symm)).trans k.cH)
   exact ⟨c0,c1,c2,c3,c4,c5,c6,cell_of_row _ _ _ _ _ _ ((CU.block _ (zA k.jm.2.1).1 (by simpa using fun e=>ab H2 e.symm)).trans k.jm.2.1),cell_of_row _ _ _ _ _ _ ((CU.block _ (zA k.jm.2.2).1 (by simpa using fun e=>ab H3 e.symm)).trans k.jm.2.2)⟩
  refine ⟨_,rfl,hK _ _ ⟨fun _=>bL,?_⟩⟩
  clear hK K hT Re CU
  have hT:=bL
  clear bL
  simp only[Option.isSome_none]
  simp only[Act.put,zL,zM,zN]
  refine ct [75,76] 6 hT (by kernel_rfl) (fun t' ht=>?_) (by decide) (by kernel_rfl) (fun _ _ _ _ _ h=>h)
  go_wp2
  go_ret
  rw[ht]
  exact ⟨rfl,fun _ e=>(by cases e),ab HN⟩
 |some x3 =>
 simp only[Option.isSome_some]
 have Xg:=ak ((ab Gu).go (ab SG) (ab H1) (ab H2) (ab H3) CU (Re _ aar))
 have Rp:(fun w:World=>w.cell? ⟨w0.heap.size+1,0,none⟩=some (.string nm)∧w.cell? ⟨w0.heap.size+1,1,none⟩=some (.slice af fs.length cf)∧w.cell? ⟨w0.heap.size+1,2,none⟩=some (.slice ao os.length co)∧w.cell? ⟨w0.heap.size+1,3,none⟩=some (.slice am ms.length cq)∧w.cell? ⟨w0.heap.size+1,4,none⟩=some (.slice ae es.length cn)∧w.cell? ⟨w0.heap.size+1,5,none⟩=some (.slice ar rs.length cr)∧w.cell? ⟨w0.heap.size+1,6,none⟩=some (.slice ag gs.length cg)∧w.cell? ⟨w0.heap.size,0,none⟩=some (.pointer (some ⟨b,0,none⟩))∧w.cell? ⟨w0.heap.size+1+1,0,none⟩=some (.int .i64 (32-(f:Int)))) YU:=(ab Xg).T
 refine ⟨_,rfl,hK _ _ ⟨fun _=>Rp,?_⟩⟩
 clear hK K hT
 have hT:=Rp
 clear Rp
 simp only[Act.put,zL,zM,zN]
 clear Re CU Gu PO
 refine aw 75 (.bool true) 82 rfl rfl (Or.inl ⟨by rfl,fun w hw=>by obtain ⟨bZ,bM,br,cx,dD,dT,dN,eX,eW⟩:=hw;go_simp⟩) hT ?_
 simp only[Act.put,zL,zM,zN]
 refine aw 76 (.bool true) 6 rfl rfl (Or.inl ⟨by rfl,fun w hw=>by obtain ⟨bZ,bM,br,cx,dD,dT,dN,eX,eW⟩:=hw;go_simp⟩) hT ?_
 simp only[Act.put,zL,zM,zN]
 refine aQ (by kernel_rfl) ?_
 go_wp2
 go_ret
 exact (ab Xg).yes
end Go.Proofs.YtghioefalckgoaaGreatDoor

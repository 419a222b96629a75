import Derived.Test.YtghioefalckgoaaGreatDoorM39
set_option maxHeartbeats 4000000
set_option maxRecDepth 100000
namespace Go.Proofs.YtghioefalckgoaaGreatDoor
open Go.RowKit
attribute [local go_sem ↓] Go.wp_at_zero Go.wp_at_succ
theorem xv (fs:List Fd) (os:List ByteArray) (h:fs.length≤4096):(eF fs os).1.length≤16777216∧(eF fs os).2.length≤4096:=by
 have nW:=o0 fs fs.length (zD _)
 rw[List.take_length] at nW
 have hl:(xu (ck fs)).length=(ck fs).length:=by unfold xu;rw[bc,List.length_map]
 have h1:=uO os (xu (ck fs)) ([],[]) (fun G hG=>by
  obtain ⟨K,hK,rfl⟩:=List.mem_map.1 ((du _ _ _).1 hG)
  have:=nW.2 K hK
  rw[bc]
  omega)
 rw[hl] at h1
 unfold eF
 simp only[List.length_nil] at h1
 omega
theorem N8 {w:World}{B e e' k k' n n':Nat}{v u:Value}{xs ys:List Value} (h:w.ownsRow B e k v n xs) (h':w.ownsRow B e' k' u n' ys) (ht:e≠e'):lK B w.heap.size (gL v++gL u):=by
 have h1:=fU h
 have h2:=fU h'
 refine ⟨List.nodup_append.2 ⟨h1.1,h2.1,fun a ha b hb e3=>?_⟩,fun b hb=>(List.mem_append.1 hb).elim (h1.2 b) (h2.2 b)⟩
 subst e3
 unfold gL at ha hb
 rcases mA h h' ht with h3|h3
 ·rw[h3] at hb;simp at hb
 ·exact h3 ((by simpa using hb:u.ownBlock=some a).trans (by simpa using ha:v.ownBlock=some a).symm)
theorem Ck (f:Nat) (hM:Yo f):Yo (f+1):=by
 intro W m x hx hs w0 hw
 cases hx with
 |@cons nm fs os ms es rs gs vf vo vm ve vr vg cm ce rest l hf ho hm eI he ep hr hg ht =>
 cases ht
 obtain ⟨h0,ff,mG⟩:=hs
 have hf0:=hf
 have ho0:=ho
 have hm0:=hm
 have he0:=he
 have Va:=hr
 have wh:=hg
 obtain ⟨af,cf,rfl,-,-⟩:=hf0
 obtain ⟨ao,co,rfl,-,-⟩:=ho0
 obtain ⟨am,cq,rfl,-,-⟩:=hm0
 obtain ⟨ae,cn,rfl,-,-⟩:=he0
 obtain ⟨ar,cr,rfl,-,-⟩:=Va
 obtain ⟨ag,cg,rfl,-,-⟩:=wh
 show Calls _ _ #[.agg #[.string nm,.slice af fs.length cf,.slice ao os.length co,.slice am ms.length cq,.slice ae es.length cn,.slice ar rs.length cr,.slice ag gs.length cg]] _ _
 have k1:=aE w0 (.cells #[.string nm,.slice af fs.length cf,.slice ao os.length co,.slice am ms.length cq,.slice ae es.length cn,.slice ar rs.length cr,.slice ag gs.length cg] 57)
 have k2:=aE (w0.alloc (.cells #[.string nm,.slice af fs.length cf,.slice ao os.length co,.slice am ms.length cq,.slice ae es.length cn,.slice ar rs.length cr,.slice ag gs.length cg] 57)) (.cells #[.string ⟨#[]⟩,.slice none 0 0,.slice none 0 0,.slice none 0 0,.slice none 0 0,.slice none 0 0,.slice none 0 0] 57)
 rw[zJ] at k2
 have k3:=(World.grownBy_alloc (w0.alloc (.cells #[.string nm,.slice af fs.length cf,.slice ao os.length co,.slice am ms.length cq,.slice ae es.length cn,.slice ar rs.length cr,.slice ag gs.length cg] 57)) (.cells #[.string ⟨#[]⟩,.slice none 0 0,.slice none 0 0,.slice none 0 0,.slice none 0 0,.slice none 0 0,.slice none 0 0] 57) none).block w0.heap.size (by rw[zJ];omega) (by simp)
 have k0:Below w0.heap.size w0 ((w0.alloc (.cells #[.string nm,.slice af fs.length cf,.slice ao os.length co,.slice am ms.length cq,.slice ae es.length cn,.slice ar rs.length cr,.slice ag gs.length cg] 57)).alloc (.cells #[.string ⟨#[]⟩,.slice none 0 0,.slice none 0 0,.slice none 0 0,.slice none 0 0,.slice none 0 0,.slice none 0 0] 57)):=((zE _ _).alloc (zD _) _).alloc (by rw[zJ];omega) _
 have hT:(fun w:World=>Below w0.heap.size w0 w∧w.heap[w0.heap.size]?=some (.cells #[.string nm,.slice af fs.length cf,.slice ao os.length co,.slice am ms.length cq,.slice ae es.length cn,.slice ar rs.length cr,.slice ag gs.length cg] 57 (0,0))∧w.heap[w0.heap.size+1]?=some (.cells #[.string ⟨#[]⟩,.slice none 0 0,.slice none 0 0,.slice none 0 0,.slice none 0 0,.slice none 0 0,.slice none 0 0] 57 (0,0))) (((w0.alloc (.cells #[.string nm,.slice af fs.length cf,.slice ao os.length co,.slice am ms.length cq,.slice ae es.length cn,.slice ar rs.length cr,.slice ag gs.length cg] 57)).alloc (.cells #[.string ⟨#[]⟩,.slice none 0 0,.slice none 0 0,.slice none 0 0,.slice none 0 0,.slice none 0 0,.slice none 0 0] 57))):=⟨k0,k3.trans k1,k2⟩
 clear k0 k1 k2 k3
 obtain ⟨V,hV⟩:∃V,(w0.alloc (.cells #[.string nm,.slice af fs.length cf,.slice ao os.length co,.slice am ms.length cq,.slice ae es.length cn,.slice ar rs.length cr,.slice ag gs.length cg] 57)).alloc (.cells #[.string ⟨#[]⟩,.slice none 0 0,.slice none 0 0,.slice none 0 0,.slice none 0 0,.slice none 0 0,.slice none 0 0] 57)=V:=⟨_,rfl⟩
 rw[hV] at hT
 have HC:=ak (pM hf ho h0.f1 h0.f2 h0.o1 h0.o2 V (hw.trans (hT.1.mono hw.size)))
 have c0:V.cell? ⟨w0.heap.size,0,none⟩=some (.string nm):=cell_of_row _ _ _ _ _ _ hT.2.1
 have c1:V.cell? ⟨w0.heap.size,1,none⟩=some (.slice af fs.length cf):=cell_of_row _ _ _ _ _ _ hT.2.1
 have c2:V.cell? ⟨w0.heap.size,2,none⟩=some (.slice ao os.length co):=cell_of_row _ _ _ _ _ _ hT.2.1
 have c3:V.cell? ⟨w0.heap.size,3,none⟩=some (.slice am ms.length cq):=cell_of_row _ _ _ _ _ _ hT.2.1
 have c4:V.cell? ⟨w0.heap.size,4,none⟩=some (.slice ae es.length cn):=cell_of_row _ _ _ _ _ _ hT.2.1
 have c5:V.cell? ⟨w0.heap.size,5,none⟩=some (.slice ar rs.length cr):=cell_of_row _ _ _ _ _ _ hT.2.1
 have c6:V.cell? ⟨w0.heap.size,6,none⟩=some (.slice ag gs.length cg):=cell_of_row _ _ _ _ _ _ hT.2.1
 have wB:=ak hT
 clear hT
 go_enter Tryz.func76,Tryz.ntmps76
 go_wp2_with fail
 refine (ab HC).mono ?_
 rintro e wa ⟨u1,u2,rfl,hF⟩
 obtain ⟨a1,LH,rfl⟩:=aN hF.f
 obtain ⟨a2,N0,rfl⟩:=aN hF.n
 have ht:=ab wB
 have hb:=hF.bh
 have h6:=(zA ht.2.2).1
 have hl:=xv fs os h0.f1
 have F1:=ak (fun w' (fC:World.grownBy wa w' (some (w0.heap.size+1)))=>(kM hF.f (by omega)).kept fC (fun b gS e=>by have h5:=(hF.f.lt b (by unfold gL at gS;simpa using gS)).1;obtain rfl:=zC e;omega))
 have F2:=ak (fun w' (fC:World.grownBy wa w' (some (w0.heap.size+1)))=>(kM hF.n (by omega)).kept fC (fun b gS e=>by have h5:=(hF.n.lt b (by unfold gL at gS;simpa using gS)).1;obtain rfl:=zC e;omega))
 have P1:=ak (N8 hF.f hF.n (by decide))
 have Z0:=ak ht.1.size
 have Z1:=ak hb.size
 have G1:=ak (zI wa (some (w0.heap.size+1)))
 have hT:(fun w:World=>Below w0.heap.size w0 w∧w.heap[w0.heap.size]?=some (.cells #[.string nm,.slice af fs.length cf,.slice ao os.length co,.slice am ms.length cq,.slice ae es.length cn,.slice ar rs.length cr,.slice ag gs.length cg] 57 (0,0))∧w.heap[w0.heap.size+1]?=some (.cells #[.string ⟨#[]⟩,.slice none 0 0,.slice none 0 0,.slice none 0 0,.slice none 0 0,.slice none 0 0,.slice none 0 0] 57 (0,0))) wa.drew:=⟨(ht.1.trans (hb.mono ht.1.size)).drew,(hb.block _ (zA ht.2.1).1).trans ht.2.1,(hb.block _ (zA ht.2.2).1).trans ht.2.2⟩
 clear ht hb h6 hF HC wB c0 c1 c2 c3 c4 c5 c6 hV hl
 have nW:Below wa.heap.size wa wa.drew:=(zE _ _).drew
 go_upto_region 2 with fail
 refine wp_region_any (by kernel_rfl) (aV (z:=18) (T:=fun w:World=>Below w0.heap.size w0 w∧w.heap[w0.heap.size]?=some (.cells #[.string nm,.slice af fs.length cf,.slice ao os.length co,.slice am ms.length cq,.slice ae es.length cn,.slice ar rs.length cr,.slice ag gs.length cg] 57 (0,0))∧w.heap[w0.heap.size+1]?=some (.cells #[.string ⟨#[]⟩,.slice none 0 0,.slice none 0 0,.slice none 0 0,.slice none 0 0,.slice none 0 0,.slice none 0 0] 57 (0,0))) _ _ _ _ ?_)
 try (change ba _ _ _ _ _ _ _ _ _ (World.drew _))
 refine o4 (P:=fun w=>(fun w:World=>Below w0.heap.size w0 w∧w.heap[w0.heap.size]?=some (.cells #[.string nm,.slice af fs.length cf,.slice ao os.length co,.slice am ms.length cq,.slice ae es.length cn,.slice ar rs.length cr,.slice ag gs.length cg] 57 (0,0))∧w.heap[w0.heap.size+1]?=some (.cells #[.string ⟨#[]⟩,.slice none 0 0,.slice none 0 0,.slice none 0 0,.slice none 0 0,.slice none 0 0,.slice none 0 0] 57 (0,0))) w∧Below wa.heap.size wa w) (G:=fun w=>ba _ _ _ _ _ _ _ _ _ w) ⟨hT,nW⟩ (fun wd D'=>?_)
 clear hT nW
 obtain ⟨hT,nW⟩:=D'
 have G1:=ak ((ab G1).trans ((bB nW).but _))
 have Y0:=ak nW.size
 clear nW
 refine aw 0 (.pointer (some ⟨w0.heap.size,0,none⟩)) 13 rfl rfl (Or.inl ⟨by rfl,fun w hw=>by go_simp⟩) hT ?_
 simp only[Act.put,zL,zM,zN]
 refine aw 1 (.string nm) 14 rfl rfl (Or.inl ⟨by rfl,fun w hw=>by have c:w.cell? ⟨w0.heap.size,0,none⟩=some (.string nm):=cell_of_row _ _ _ _ _ _ hw.2.1;go_simp⟩) hT ?_
 simp only[Act.put,zL,zM,zN]
 refine aw 3 (.slice a1 (eF fs os).1.length LH) 16 rfl rfl (Or.inl ⟨by rfl,fun w hw=>by go_simp⟩) hT ?_
 simp only[Act.put,zL,zM,zN]
 refine aw 4 (.slice a2 (eF fs os).2.length N0) 17 rfl rfl (Or.inl ⟨by rfl,fun w hw=>by go_simp⟩) hT ?_
 simp only[Act.put,zL,zM,zN]
 refine aw 5 (.pointer (some ⟨w0.heap.size,3,none⟩)) 18 rfl rfl (Or.inl ⟨by rfl,fun w hw=>by go_simp⟩) hT ?_
 simp only[Act.put,zL,zM,zN]
 refine aw 6 (.slice am ms.length cq) 19 rfl rfl (Or.inl ⟨by rfl,fun w hw=>by have c:w.cell? ⟨w0.heap.size,3,none⟩=some (.slice am ms.length cq):=cell_of_row _ _ _ _ _ _ hw.2.1;go_simp⟩) hT ?_
 simp only[Act.put,zL,zM,zN]
 refine aw 8 (.pointer (some ⟨w0.heap.size,4,none⟩)) 21 rfl rfl (Or.inl ⟨by rfl,fun w hw=>by go_simp⟩) hT ?_
 simp only[Act.put,zL,zM,zN]
 refine aw 9 (.slice ae es.length cn) 22 rfl rfl (Or.inl ⟨by rfl,fun w hw=>by have c:w.cell? ⟨w0.heap.size,4,none⟩=some (.slice ae es.length cn):=cell_of_row _ _ _ _ _ _ hw.2.1;go_simp⟩) hT ?_
 simp only[Act.put,zL,zM,zN]
 refine aw 11 (.pointer (some ⟨w0.heap.size,5,none⟩)) 24 rfl rfl (Or.inl ⟨by rfl,fun w hw=>by go_simp⟩) hT ?_
 simp only[Act.put,zL,zM,zN]
 refine aw 12 (.slice ar rs.length cr) 25 rfl rfl (Or.inl ⟨by rfl,fun w hw=>by have c:w.cell? ⟨w0.heap.size,5,none⟩=some (.slice ar rs.length cr):=cell_of_row _ _ _ _ _ _ hw.2.1;go_simp⟩) hT ?_
 simp only[Act.put,zL,zM,zN]
 refine aw 14 (.pointer (some ⟨w0.heap.size,6,none⟩)) 27 rfl rfl (Or.inl ⟨by rfl,fun w hw=>by go_simp⟩) hT ?_
 simp only[Act.put,zL,zM,zN]
 refine aw 15 (.slice ag gs.length cg) 28 rfl rfl (Or.inl ⟨by rfl,fun w hw=>by have c:w.cell? ⟨w0.heap.size,6,none⟩=some (.slice ag gs.length cg):=cell_of_row _ _ _ _ _ _ hw.2.1;go_simp⟩) hT ?_
 simp only[Act.put,zL,zM,zN]
 refine aB 2 (by kernel_rfl) rfl (fun K hK=>?_)
 refine aM 15 rfl rfl 45 (fun vs=>by kernel_rfl) #[.tmp 14] _ rfl #[.string nm] (by first|rfl|simp[Act.eval]) (eh wd nm h0.n0) ?_
 rintro e w1 ⟨rfl,hb⟩
 have G1:=ak ((ab G1).trans ((bB hb).but _))
 have Y1:=ak hb.size
 have bL:(fun w:World=>Below w0.heap.size w0 w∧w.heap[w0.heap.size]?=some (.cells #[.string nm,.slice af fs.length cf,.slice ao os.length co,.slice am ms.length cq,.slice ae es.length cn,.slice ar rs.length cr,.slice ag gs.length cg] 57 (0,0))∧w.heap[w0.heap.size+1]?=some (.cells #[.string ⟨#[]⟩,.slice none 0 0,.slice none 0 0,.slice none 0 0,.slice none 0 0,.slice none 0 0,.slice none 0 0] 57 (0,0))) w1:=⟨hT.1.trans (hb.mono hT.1.size),(hb.block _ (zA hT.2.1).1).trans hT.2.1,(hb.block _ (zA hT.2.2).1).trans hT.2.2⟩
 refine ⟨_,rfl,hK _ _ ⟨fun _=>bL,?_⟩⟩
 clear hK K hT hb
 have hT:=bL
 clear bL
 simp only[Act.put,zL,zM,zN]
 refine aB 7 (by kernel_rfl) rfl (fun K hK=>?_)
 refine aM 20 rfl rfl 47 (fun vs=>by kernel_rfl) #[.tmp 19] _ rfl #[.slice am ms.length cq] (by first|rfl|simp[Act.eval]) (oA hm eI h0.m1 f hM ff w1 (hw.trans (hT.1.mono hw.size))) ?_
 rintro e w2 ⟨_,x3,B3,rfl,k1,kY,kA,hb⟩
 obtain ⟨a3,Pq,rfl⟩:=aN k1
 have h6:=(zA hT.2.2).1
 have F3:=ak (fun w' (fC:World.grownBy w2 w' (some (w0.heap.size+1)))=>And.intro ((kM k1 (by have:=h0.m1;have:(dL f ms).length=ms.length:=(by show (cR _ _).length=_;rw[bc,List.length_map]);omega)).kept fC (fun b gS e=>by have h5:=(kA.2 b (List.mem_append_left _ gS)).1;obtain rfl:=zC e;omega)) (kY.kept fC (fun b gS e=>by have h5:=(kA.2 b (List.mem_append_right _ gS)).1;obtain rfl:=zC e;omega)))
 have P3:=ak kA
 have Z3:=ak hb.size
 have G1:=ak ((ab G1).trans ((bB hb).but _))
 have G3:=ak (zI w2 (some (w0.heap.size+1)))
 clear k1 kY kA h6
 have bL:(fun w:World=>Below w0.heap.size w0 w∧w.heap[w0.heap.size]?=some (.cells #[.string nm,.slice af fs.length cf,.slice ao os.length co,.slice am ms.length cq,.slice ae es.length cn,.slice ar rs.length cr,.slice ag gs.length cg] 57 (0,0))∧w.heap[w0.heap.size+1]?=some (.cells #[.string ⟨#[]⟩,.slice none 0 0,.slice none 0 0,.slice none 0 0,.slice none 0 0,.slice none 0 0,.slice none 0 0] 57 (0,0))) w2:=⟨hT.1.trans (hb.mono hT.1.size),(hb.block _ (zA hT.2.1).1).trans hT.2.1,(hb.block _ (zA hT.2.2).1).trans hT.2.2⟩
 refine ⟨_,rfl,hK _ _ ⟨fun _=>bL,?_⟩⟩
 clear hK K hT hb
 have hT:=bL
 clear bL
 simp only[Act.put,zL,zM,zN]
 refine aB 10 (by kernel_rfl) rfl (fun K hK=>?_)
 refine aM 23 rfl rfl 48 (fun vs=>by kernel_rfl) #[.tmp 22] _ rfl #[.slice ae es.length cn] (by first|rfl|simp[Act.eval]) (oB he ep h0.e1 mG w2 (hw.trans (hT.1.mono hw.size))) ?_
 rintro e w3 ⟨_,x4,B4,rfl,k1,kY,kA,hb⟩
 obtain ⟨a4,c4',rfl⟩:=aN k1
 have h6:=(zA hT.2.2).1
 have F4:=ak (fun w' (fC:World.grownBy w3 w' (some (w0.heap.size+1)))=>And.intro ((kM k1 (by have:=h0.e1;have:(dM es).length=es.length:=(by show (cR _ _).length=_;rw[bc,List.length_map]);omega)).kept fC (fun b gS e=>by have h5:=(kA.2 b (List.mem_append_left _ gS)).1;obtain rfl:=zC e;omega)) (kY.kept fC (fun b gS e=>by have h5:=(kA.2 b (List.mem_append_right _ gS)).1;obtain rfl:=zC e;omega)))
 have P4:=ak kA
 have Z4:=ak hb.size
 have G1:=ak ((ab G1).trans ((bB hb).but _))
 have G3:=ak ((ab G3).trans ((bB hb).but _))
 have G4:=ak (zI w3 (some (w0.heap.size+1)))
 clear k1 kY kA h6
 have bL:(fun w:World=>Below w0.heap.size w0 w∧w.heap[w0.heap.size]?=some (.cells #[.string nm,.slice af fs.length cf,.slice ao os.length co,.slice am ms.length cq,.slice ae es.length cn,.slice ar rs.length cr,.slice ag gs.length cg] 57 (0,0))∧w.heap[w0.heap.size+1]?=some (.cells #[.string ⟨#[]⟩,.slice none 0 0,.slice none 0 0,.slice none 0 0,.slice none 0 0,.slice none 0 0,.slice none 0 0] 57 (0,0))) w3:=⟨hT.1.trans (hb.mono hT.1.size),(hb.block _ (zA hT.2.1).1).trans hT.2.1,(hb.block _ (zA hT.2.2).1).trans hT.2.2⟩
 refine ⟨_,rfl,hK _ _ ⟨fun _=>bL,?_⟩⟩
 clear hK K hT hb
 have hT:=bL
 clear bL
 simp only[Act.put,zL,zM,zN]
 refine aB 13 (by kernel_rfl) rfl (fun K hK=>?_)
 refine aM 26 rfl rfl 128 (fun vs=>by kernel_rfl) #[.tmp 25] _ rfl #[.slice ar rs.length cr] (by first|rfl|simp[Act.eval]) (lU hr h0.r1 h0.r2 w3 (hw.trans (hT.1.mono hw.size))) ?_
 rintro e w4 ⟨_,rfl,k1,hb⟩
 obtain ⟨a5,Yf,rfl⟩:=aN k1
 have h6:=(zA hT.2.2).1
 have F5:=ak (fun w' (fC:World.grownBy w4 w' (some (w0.heap.size+1)))=>(kM k1 (by have:=my rs;have:=h0.r1;omega)).kept fC (fun b gS e=>by have h5:=(k1.lt b (by unfold gL at gS;simpa using gS)).1;obtain rfl:=zC e;omega))
 have P5:=ak (fU k1)
 have Z5:=ak hb.size
 have G1:=ak ((ab G1).trans ((bB hb).but _))
 have G3:=ak ((ab G3).trans ((bB hb).but _))
 have G4:=ak ((ab G4).trans ((bB hb).but _))
 have G5:=ak (zI w4 (some (w0.heap.size+1)))
 clear k1 h6
 have bL:(fun w:World=>Below w0.heap.size w0 w∧w.heap[w0.heap.size]?=some (.cells #[.string nm,.slice af fs.length cf,.slice ao os.length co,.slice am ms.length cq,.slice ae es.length cn,.slice ar rs.length cr,.slice ag gs.length cg] 57 (0,0))∧w.heap[w0.heap.size+1]?=some (.cells #[.string ⟨#[]⟩,.slice none 0 0,.slice none 0 0,.slice none 0 0,.slice none 0 0,.slice none 0 0,.slice none 0 0] 57 (0,0))) w4:=⟨hT.1.trans (hb.mono hT.1.size),(hb.block _ (zA hT.2.1).1).trans hT.2.1,(hb.block _ (zA hT.2.2).1).trans hT.2.2⟩
 refine ⟨_,rfl,hK _ _ ⟨fun _=>bL,?_⟩⟩
 clear hK K hT hb
 have hT:=bL
 clear bL
 simp only[Act.put,zL,zM,zN]
 refine aB 16 (by kernel_rfl) rfl (fun K hK=>?_)
 refine aM 29 rfl rfl 46 (fun vs=>by kernel_rfl) #[.tmp 28] _ rfl #[.slice ag gs.length cg] (by first|rfl|simp[Act.eval]) (gZ hg h0.g1 h0.g2 w4 (hw.trans (hT.1.mono hw.size))) ?_
 rintro e w5 ⟨_,rfl,k1,hb⟩
 obtain ⟨a6,c6',rfl⟩:=aN k1
 have h6:=(zA hT.2.2).1
 have F6:=ak (fun w' (fC:World.grownBy w5 w' (some (w0.heap.size+1)))=>(kM k1 (by have:=h0.g1;omega)).kept fC (fun b gS e=>by have h5:=(k1.lt b (by unfold gL at gS;simpa using gS)).1;obtain rfl:=zC e;omega))
 have P6:=ak (fU k1)
 have Z6:=ak hb.size
 have G1:=ak ((ab G1).trans ((bB hb).but _))
 have G3:=ak ((ab G3).trans ((bB hb).but _))
 have G4:=ak ((ab G4).trans ((bB hb).but _))
 have G5:=ak ((ab G5).trans ((bB hb).but _))
 have G6:=ak (zI w5 (some (w0.heap.size+1)))
 clear k1 h6
 have bL:(fun w:World=>Below w0.heap.size w0 w∧w.heap[w0.heap.size]?=some (.cells #[.string nm,.slice af fs.length cf,.slice ao os.length co,.slice am ms.length cq,.slice ae es.length cn,.slice ar rs.length cr,.slice ag gs.length cg] 57 (0,0))∧w.heap[w0.heap.size+1]?=some (.cells #[.string ⟨#[]⟩,.slice none 0 0,.slice none 0 0,.slice none 0 0,.slice none 0 0,.slice none 0 0,.slice none 0 0] 57 (0,0))) w5:=⟨hT.1.trans (hb.mono hT.1.size),(hb.block _ (zA hT.2.1).1).trans hT.2.1,(hb.block _ (zA hT.2.2).1).trans hT.2.2⟩
 refine ⟨_,rfl,hK _ _ ⟨fun _=>bL,?_⟩⟩
 clear hK K hT hb
 have hT:=bL
 clear bL
 simp only[Act.put,zL,zM,zN]
 refine aw 17 (.agg #[.string nm,.slice a1 (eF fs os).1.length LH,.slice a2 (eF fs os).2.length N0,.slice a3 (dL f ms).length Pq,.slice a4 (dM es).length c4',.slice a5 (iD rs).length Yf,.slice a6 gs.length c6']) 30 rfl rfl (Or.inl ⟨by rfl,fun w hw=>by go_simp⟩) hT ?_
 simp only[Act.put,zL,zM,zN]
 refine aB 18 (by kernel_rfl) rfl (fun K hK=>?_)
 have z:∀j,w5.frozen? ⟨w0.heap.size+1,j,none⟩=false:=fun j=>by simp[World.frozen?,hT.2.2]
 have z0:=z 0
 have z1:=z 1
 have z2:=z 2
 have z3:=z 3
 have z4:=z 4
 have z5:=z 5
 have z6:=z 6
 clear z
 obtain ⟨q0,g0⟩:=aI (j:=0) hT.2.2 (.string nm)
 obtain ⟨q1,g1⟩:=aI (j:=1) q0 (.slice a1 (eF fs os).1.length LH)
 obtain ⟨q2,g2⟩:=aI (j:=2) q1 (.slice a2 (eF fs os).2.length N0)
 obtain ⟨q3,g3⟩:=aI (j:=3) q2 (.slice a3 (dL f ms).length Pq)
 obtain ⟨q4,g4⟩:=aI (j:=4) q3 (.slice a4 (dM es).length c4')
 obtain ⟨q5,g5⟩:=aI (j:=5) q4 (.slice a5 (iD rs).length Yf)
 obtain ⟨q6,g6⟩:=aI (j:=6) q5 (.slice a6 gs.length c6')
 have gg:=((((((g0.trans g1).trans g2).trans g3).trans g4).trans g5).trans g6)
 have be:=hT.1.grown gg hT.1.size (fun k e=>by obtain rfl:=zC e;omega)
 have c0:w5.cell? ⟨w0.heap.size+1,0,none⟩=some (.string ⟨#[]⟩):=cell_of_row _ _ _ _ _ _ hT.2.2
 have c1:w5.cell? ⟨w0.heap.size+1,1,none⟩=some (.slice none 0 0):=cell_of_row _ _ _ _ _ _ hT.2.2
 have c2:w5.cell? ⟨w0.heap.size+1,2,none⟩=some (.slice none 0 0):=cell_of_row _ _ _ _ _ _ hT.2.2
 have c3:w5.cell? ⟨w0.heap.size+1,3,none⟩=some (.slice none 0 0):=cell_of_row _ _ _ _ _ _ hT.2.2
 have c4:w5.cell? ⟨w0.heap.size+1,4,none⟩=some (.slice none 0 0):=cell_of_row _ _ _ _ _ _ hT.2.2
 have c5:w5.cell? ⟨w0.heap.size+1,5,none⟩=some (.slice none 0 0):=cell_of_row _ _ _ _ _ _ hT.2.2
 have c6:w5.cell? ⟨w0.heap.size+1,6,none⟩=some (.slice none 0 0):=cell_of_row _ _ _ _ _ _ hT.2.2
 have h1:=hT.2.1
 have Lu:=(gg.block _ (zA h1).1 (by simp)).trans h1
 have GE:=ak gg
 have BE:=ak be
 have Q3:=ak q6
 clear hT h1
 go_simp
 refine hK _ _ ⟨fun h=>absurd rfl h,?_⟩
 clear hK K
 refine aQ (by kernel_rfl) ?_
 clear Lu q0 g0 c0 q1 g1 c1 q2 g2 c2 q3 g3 c3 q4 g4 c4 q5 g5 c5 q6 g6 c6 gg be z0 z1 z2 z3 z4 z5 z6
 go_wp2
 refine bodyPost_ret (results_cell_row rfl _ _ (w0.heap.size+1) 57 _ (0,0) _ rfl (ab Q3) Tryz.underlying57 rfl (by kernel_rfl)) rfl ?_
 have f1:=ab F1 _ ((ab G1).trans (ab GE))
 have f2:=ab F2 _ ((ab G1).trans (ab GE))
 have f3:=ab F3 _ ((ab G3).trans (ab GE))
 have f4:=ab F4 _ ((ab G4).trans (ab GE))
 have f5:=ab F5 _ ((ab G5).trans (ab GE))
 have f6:=ab F6 _ ((ab G6).trans (ab GE))
 have q6:(lV gs).length=gs.length:=bc _ _
 refine ⟨[.string nm,.slice a1 (eF fs os).1.length LH,.slice a2 (eF fs os).2.length N0,.slice a3 (dL f ms).length Pq,.slice a4 (dM es).length c4',.slice a5 (iD rs).length Yf,.slice a6 gs.length c6'],_,rfl,⟨_,_,_,_,_,_,_,rfl,⟨_,_,_,rfl⟩,⟨_,_,_,rfl⟩,⟨_,_,_,rfl⟩,⟨_,_,_,rfl⟩,⟨_,_,_,rfl⟩,⟨_,_,_,rfl⟩⟩,sZ.cons (fs:=(eF fs os).1) (os:=(eF fs os).2) (ms:=dL f ms) (es:=dM es) (rs:=iD rs) (gs:=lV gs) f1 f2 f3.1 f3.2 f4.1 f4.2 f5 (by rw[q6];exact f6) .nil,?_,ab BE⟩
 rw[List.append_nil]
 have s0:=ab Z0;have s1:=ab Z1;have s2:=ab Y0;have s3:=ab Y1;have s4:=ab Z3;have s5:=ab Z4;have s6:=ab Z5;have s7:=ab Z6
 exact ((((((ab P1).wide (zD _) (Nat.le_trans s2 s3)).app (ab P3) (by omega) s4).app (ab P4) (by omega) s5).app (ab P5) (by omega) s6).app (ab P6) (by omega) s7).wide s0 (ab GE).size
theorem xt:∀f,Yo f
 |0=>fun _ _ _ _ h=>h.elim
 |f+1=>Ck f (xt f)
end Go.Proofs.YtghioefalckgoaaGreatDoor

import Derived.Test.YtghioefalckgoaaGreatDoorM38
set_option maxHeartbeats 2000000
set_option maxRecDepth 100000
namespace Go.Proofs.YtghioefalckgoaaGreatDoor
open Go.RowKit
attribute [local go_sem ↓] Go.wp_at_zero Go.wp_at_succ
theorem L6 (p:ByteArray×Int) (hs:nZ p.1) (w0:World):Calls Tryz.prog 205 #[.agg #[.string p.1,.int .i64 p.2]] w0 fun e w=>e=.returned (.agg #[.string p.1,.int .i64 p.2])∧Below w0.heap.size w0 w:=by
 have k1:=aE w0 (.cells #[.string p.1,.int .i64 p.2] 65)
 have k2:=aE (w0.alloc (.cells #[.string p.1,.int .i64 p.2] 65)) (.cells #[.string ⟨#[]⟩,.int .i64 0] 65)
 rw[zJ] at k2
 have k3:=(World.grownBy_alloc (w0.alloc (.cells #[.string p.1,.int .i64 p.2] 65)) (.cells #[.string ⟨#[]⟩,.int .i64 0] 65) none).block w0.heap.size (by rw[zJ];omega) (by simp)
 have k0:Below w0.heap.size w0 ((w0.alloc (.cells #[.string p.1,.int .i64 p.2] 65)).alloc (.cells #[.string ⟨#[]⟩,.int .i64 0] 65)):=((zE _ _).alloc (zD _) _).alloc (by rw[zJ];omega) _
 have hT:(fun w:World=>Below w0.heap.size w0 w∧w.heap[w0.heap.size]?=some (.cells #[.string p.1,.int .i64 p.2] 65 (0,0))∧w.heap[w0.heap.size+1]?=some (.cells #[.string ⟨#[]⟩,.int .i64 0] 65 (0,0))) (((w0.alloc (.cells #[.string p.1,.int .i64 p.2] 65)).alloc (.cells #[.string ⟨#[]⟩,.int .i64 0] 65)).drew):=⟨k0.drew,k3.trans k1,k2⟩
 clear k0 k1 k2 k3
 go_enter Tryz.func205,Tryz.ntmps205
 go_upto_region 1 with fail
 refine wp_region_any (by kernel_rfl) (aV (z:=6) (T:=fun w:World=>Below w0.heap.size w0 w∧w.heap[w0.heap.size]?=some (.cells #[.string p.1,.int .i64 p.2] 65 (0,0))∧w.heap[w0.heap.size+1]?=some (.cells #[.string ⟨#[]⟩,.int .i64 0] 65 (0,0))) _ _ _ _ ?_)
 try (change ba _ _ _ _ _ _ _ _ _ (World.drew _))
 refine o4 (P:=fun w:World=>Below w0.heap.size w0 w∧w.heap[w0.heap.size]?=some (.cells #[.string p.1,.int .i64 p.2] 65 (0,0))∧w.heap[w0.heap.size+1]?=some (.cells #[.string ⟨#[]⟩,.int .i64 0] 65 (0,0))) (G:=fun w=>ba _ _ _ _ _ _ _ _ _ w) hT (fun wd hT=>?_)
 refine aw 0 (.pointer (some ⟨w0.heap.size,0,none⟩)) 3 rfl rfl (Or.inl ⟨by rfl,fun w hw=>by go_simp⟩) hT ?_
 simp only[Act.put,zL,zM,zN]
 refine aw 1 (.string p.1) 4 rfl rfl (Or.inl ⟨by rfl,fun w hw=>by have c:w.cell? ⟨w0.heap.size,0,none⟩=some (.string p.1):=cell_of_row _ _ _ _ _ _ hw.2.1;go_simp⟩) hT ?_
 simp only[Act.put,zL,zM,zN]
 refine aw 3 (.pointer (some ⟨w0.heap.size,1,none⟩)) 6 rfl rfl (Or.inl ⟨by rfl,fun w hw=>by go_simp⟩) hT ?_
 simp only[Act.put,zL,zM,zN]
 refine aw 4 (.int .i64 p.2) 7 rfl rfl (Or.inl ⟨by rfl,fun w hw=>by have c:w.cell? ⟨w0.heap.size,1,none⟩=some (.int .i64 p.2):=cell_of_row _ _ _ _ _ _ hw.2.1;go_simp⟩) hT ?_
 simp only[Act.put,zL,zM,zN]
 refine aB 2 (by kernel_rfl) rfl (fun K hK=>?_)
 refine aM 5 rfl rfl 45 (fun vs=>by kernel_rfl) #[.tmp 4] _ rfl #[.string p.1] (by first|rfl|simp[Act.eval]) (eh wd p.1 hs) ?_
 rintro e w1 ⟨rfl,hb⟩
 have bL:(fun w:World=>Below w0.heap.size w0 w∧w.heap[w0.heap.size]?=some (.cells #[.string p.1,.int .i64 p.2] 65 (0,0))∧w.heap[w0.heap.size+1]?=some (.cells #[.string ⟨#[]⟩,.int .i64 0] 65 (0,0))) w1:=⟨hT.1.trans (hb.mono hT.1.size),(hb.block _ (zA hT.2.1).1).trans hT.2.1,(hb.block _ (zA hT.2.2).1).trans hT.2.2⟩
 refine ⟨_,rfl,hK _ _ ⟨fun _=>bL,?_⟩⟩
 clear hK K hT hb
 have hT:=bL
 clear bL
 simp only[Act.put,zL,zM,zN]
 refine aw 5 (.agg #[.string p.1,.int .i64 p.2]) 8 rfl rfl (Or.inl ⟨by rfl,fun w hw=>by go_simp⟩) hT ?_
 simp only[Act.put,zL,zM,zN]
 refine aB 6 (by kernel_rfl) rfl (fun K hK=>?_)
 have z:∀j,w1.frozen? ⟨w0.heap.size+1,j,none⟩=false:=fun j=>by simp[World.frozen?,hT.2.2]
 have z0:=z 0
 have z1:=z 1
 clear z
 obtain ⟨q0,g0⟩:=aI (j:=0) hT.2.2 (.string p.1)
 obtain ⟨q1,g1⟩:=aI (j:=1) q0 (.int .i64 p.2)
 have gg:=(g0.trans g1)
 have be:=hT.1.grown gg hT.1.size (fun k e=>by obtain rfl:=zC e;omega)
 have c0:w1.cell? ⟨w0.heap.size+1,0,none⟩=some (.string ⟨#[]⟩):=cell_of_row _ _ _ _ _ _ hT.2.2
 have c1:w1.cell? ⟨w0.heap.size+1,1,none⟩=some (.int .i64 0):=cell_of_row _ _ _ _ _ _ hT.2.2
 have h1:=hT.2.1
 have Lu:=(gg.block _ (zA h1).1 (by simp)).trans h1
 have GE:=ak gg
 have BE:=ak be
 have Q3:=ak q1
 clear hT h1
 go_simp
 refine hK _ _ ⟨fun h=>absurd rfl h,?_⟩
 clear hK K
 refine aQ (by kernel_rfl) ?_
 clear Lu q0 g0 c0 q1 g1 c1 gg be z0 z1
 go_wp2
 refine bodyPost_ret (results_cell_row rfl _ _ (w0.heap.size+1) 65 _ (0,0) _ rfl (ab Q3) Tryz.underlying65 rfl (by kernel_rfl)) rfl ?_
 exact ⟨rfl,ab BE⟩
theorem yd (W:World) (p:ByteArray×Int):Calls Tryz.prog 207 #[.agg #[.string p.1,.int .i64 p.2]] W fun e w=>e=.returned (.int .i64 (G9 p))∧Below W.heap.size W w:=by
 have k0:=aE W (.cells #[.string p.1,.int .i64 p.2] 65)
 have HB:=ak ((zE W.heap.size W).alloc (zD _) (.cells #[.string p.1,.int .i64 p.2] 65))
 obtain ⟨V,hV⟩:∃V,W.alloc (.cells #[.string p.1,.int .i64 p.2] 65)=V:=⟨_,rfl⟩
 rw[hV] at k0 HB
 have c1:V.cell? ⟨W.heap.size,1,none⟩=some (.int .i64 p.2):=cell_of_row _ _ _ _ _ _ k0
 clear k0
 unfold G9
 by_cases h:p.2=0
 ·rw[if_pos h]
  have h2:((p.2:Int)==0)=true:=by simp[h]
  clear h
  go_enter Tryz.func207,Tryz.ntmps207
  go_wp2
  go_ret
  exact ⟨rfl,ab HB⟩
 ·rw[if_neg h]
  have h2:((p.2:Int)==0)=false:=by simp[h]
  clear h
  go_enter Tryz.func207,Tryz.ntmps207
  go_wp2
  go_ret
  exact ⟨rfl,ab HB⟩
def aac:List Value→Int
 |[.string s,.int _ z]=>G9 (s,z)
 |_=>0
theorem pL {W:World}{v:Value}{l:List (ByteArray×Int)} (hv:Rl W v l.length (mR l)) (hl:l.length≤4096) (hs:∀p ∈ l,nZ p.1) (w0:World) (hw:Below W.heap.size W w0) :
  Calls Tryz.prog 132 #[v] w0 fun e w=>∃u,e=.returned u∧w.ownsRow w0.heap.size 65 2 u l.length (mR (ID l))∧Below w0.heap.size w0 w:=by
 have gR:=Ki l
 have hL:(l.map GU).length=l.length:=List.length_map ..
 have HE:=ak (vJ .V (L:=l.map GU) (f:=205) (fs:=#[]) (cp:=#[]) (G:=fun i y B _=>∃s,l[i]?=some s∧y=GU s∧B=[]) (by rw[←gR];exact hv) hL (fun x hx=>by obtain ⟨s,_,rfl⟩:=List.mem_map.1 hx;exact ⟨s.1,s.2,rfl⟩) (by show l.length*24≤_;omega)
  (fun _ _ _ _ _ _ h _ _=>h) (fun vs w=>by kernel_rfl) w0 hw (fun i x hx w _=>by
   rw[List.getElem?_map] at hx
   obtain ⟨s,pA,rfl⟩:=Option.map_eq_some_iff.1 hx
   refine (L6 s (hs s (List.mem_of_getElem? pA)) w).mono ?_
   rintro e w' ⟨rfl,hb⟩
   exact ⟨GU s,[],rfl,⟨⟨s.1,s.2,rfl⟩,⟨s,pA,rfl,rfl⟩,lK.nil,hb⟩⟩))
 have HS:Hid (∀(w1:World) (u:Value) (T:List (List Value×List Nat)),BW .V (fun i y B _=>∃s,l[i]?=some s∧y=GU s∧B=[]) w0 w1 u l.length T→Calls Tryz.prog 206 #[u,.func (.func 207) #[] #[]] w1 fun e w=>∃u',e=.returned u'∧w.ownsRow w1.heap.size 65 2 u' l.length (mR (ID l))∧Below w1.heap.size w1 w):=by
  intro w1 u T hT
  have e1:T.map (·.1)=l.map GU:=Bp hT.len (fun i p hp=>by obtain ⟨s,h1,h2,_⟩:=hT.is i p hp;exact ⟨s,h1,h2⟩)
  have hr:=hT.row
  rw[e1] at hr
  refine (dK .V (L:=l.map GU) (kv:=.I aac) (Pe:=fun x=>∃s,x=GU s) (f:=207) (fs:=#[]) (cp:=#[]) (kj hr (by omega)) hL (fun x hx=>by obtain ⟨s,_,rfl⟩:=List.mem_map.1 hx;rfl) (fun x hx=>by obtain ⟨s,_,rfl⟩:=List.mem_map.1 hx;simp[GU,Value.oneCell'])
   (by show l.length*24≤_;omega) rfl (fun x hx=>by obtain ⟨s,rfl⟩:=hx;exact ⟨rfl,by simp[GU,Value.oneCell']⟩) (fun x hx=>by obtain ⟨s,_,rfl⟩:=List.mem_map.1 hx;exact ⟨s,rfl⟩) w1 (zE _ _)
   ⟨fun vs w=>by kernel_rfl,fun x w' _ hx=>by obtain ⟨s,rfl⟩:=hx;exact yd w' s⟩).mono ?_
  rintro e w ⟨u',rfl,h2,h3⟩
  refine ⟨u',rfl,?_,h3⟩
  rw[jV] at h2
  rw[Ki]
  exact h2
 obtain ⟨a,c,rfl,-,-⟩:=hv
 clear gR hL hs hw
 go_enter Tryz.func132,Tryz.ntmps132
 go_wp2_with fail
 refine (ab HE).mono ?_
 rintro e w1 ⟨u,T,rfl,hT⟩
 have HK:=ak (ab HS w1 u T hT)
 obtain ⟨a1,n1,c1,rfl⟩:=fP hT.row
 have HB:=ak hT.bh
 clear hT HS HE
 go_wp2_with fail
 refine (ab HK).mono ?_
 rintro e w2 ⟨u',rfl,h2,h3⟩
 have H2:=ak (kk h2 (ab HB).size)
 have H3:=ak ((ab HB).trans (h3.mono (ab HB).size))
 clear h2 h3 HK HB
 go_wp2
 go_ret
 exact ⟨_,rfl,ab H2,ab H3⟩
theorem my (l:List (Int×Int)):(iD l).length≤l.length:=by
 unfold iD
 have h:=pV (cR (fun a b=>GD a.1 b.1) (cR (fun a b=>GD a.2 b.2) l)) []
 rw[bc,bc] at h
 simpa using h
def EnQ (w0:World) (e:En) (e':Ending) (w:World):Prop:=∃y B,e'=.returned (fH y)∧BU .E y∧tf w y [fA e] B∧lK w0.heap.size w.heap.size B∧Below w0.heap.size w0 w
theorem uJ {W:World}{e:En}{vv vr vg:Value} (hv:Rl W vv e.aW.length (mR e.aW)) (hr:Rl W vr e.res.length (eP e.res)) (hg:Rl W vg e.gone.length (bj e.gone)) (ho:Oe e) (w0:World) (hw:Below W.heap.size W w0) :
  Calls Tryz.prog 80 #[.agg #[.string e.name,vv,vr,vg]] w0 (EnQ w0 e):=by
 have hv0:=hv
 have Va:=hr
 have wh:=hg
 obtain ⟨av,cv,rfl,-,-⟩:=hv0
 obtain ⟨ar,cr,rfl,-,-⟩:=Va
 obtain ⟨ag,cg,rfl,-,-⟩:=wh
 have k1:=aE w0 (.cells #[.string e.name,.slice av e.aW.length cv,.slice ar e.res.length cr,.slice ag e.gone.length cg] 63)
 have k2:=aE (w0.alloc (.cells #[.string e.name,.slice av e.aW.length cv,.slice ar e.res.length cr,.slice ag e.gone.length cg] 63)) (.cells #[.string ⟨#[]⟩,.slice none 0 0,.slice none 0 0,.slice none 0 0] 63)
 rw[zJ] at k2
 have k3:=(World.grownBy_alloc (w0.alloc (.cells #[.string e.name,.slice av e.aW.length cv,.slice ar e.res.length cr,.slice ag e.gone.length cg] 63)) (.cells #[.string ⟨#[]⟩,.slice none 0 0,.slice none 0 0,.slice none 0 0] 63) none).block w0.heap.size (by rw[zJ];omega) (by simp)
 have k0:Below w0.heap.size w0 ((w0.alloc (.cells #[.string e.name,.slice av e.aW.length cv,.slice ar e.res.length cr,.slice ag e.gone.length cg] 63)).alloc (.cells #[.string ⟨#[]⟩,.slice none 0 0,.slice none 0 0,.slice none 0 0] 63)):=((zE _ _).alloc (zD _) _).alloc (by rw[zJ];omega) _
 have hT:(fun w:World=>Below w0.heap.size w0 w∧w.heap[w0.heap.size]?=some (.cells #[.string e.name,.slice av e.aW.length cv,.slice ar e.res.length cr,.slice ag e.gone.length cg] 63 (0,0))∧w.heap[w0.heap.size+1]?=some (.cells #[.string ⟨#[]⟩,.slice none 0 0,.slice none 0 0,.slice none 0 0] 63 (0,0))) (((w0.alloc (.cells #[.string e.name,.slice av e.aW.length cv,.slice ar e.res.length cr,.slice ag e.gone.length cg] 63)).alloc (.cells #[.string ⟨#[]⟩,.slice none 0 0,.slice none 0 0,.slice none 0 0] 63)).drew):=⟨k0.drew,k3.trans k1,k2⟩
 clear k0 k1 k2 k3
 go_enter Tryz.func80,Tryz.ntmps80
 go_upto_region 1 with fail
 refine wp_region_any (by kernel_rfl) (aV (z:=13) (T:=fun w:World=>Below w0.heap.size w0 w∧w.heap[w0.heap.size]?=some (.cells #[.string e.name,.slice av e.aW.length cv,.slice ar e.res.length cr,.slice ag e.gone.length cg] 63 (0,0))∧w.heap[w0.heap.size+1]?=some (.cells #[.string ⟨#[]⟩,.slice none 0 0,.slice none 0 0,.slice none 0 0] 63 (0,0))) _ _ _ _ ?_)
 try (change ba _ _ _ _ _ _ _ _ _ (World.drew _))
 refine o4 (P:=fun w:World=>Below w0.heap.size w0 w∧w.heap[w0.heap.size]?=some (.cells #[.string e.name,.slice av e.aW.length cv,.slice ar e.res.length cr,.slice ag e.gone.length cg] 63 (0,0))∧w.heap[w0.heap.size+1]?=some (.cells #[.string ⟨#[]⟩,.slice none 0 0,.slice none 0 0,.slice none 0 0] 63 (0,0))) (G:=fun w=>ba _ _ _ _ _ _ _ _ _ w) hT (fun wd hT=>?_)
 refine aw 0 (.pointer (some ⟨w0.heap.size,0,none⟩)) 3 rfl rfl (Or.inl ⟨by rfl,fun w hw=>by go_simp⟩) hT ?_
 simp only[Act.put,zL,zM,zN]
 refine aw 1 (.string e.name) 4 rfl rfl (Or.inl ⟨by rfl,fun w hw=>by have c:w.cell? ⟨w0.heap.size,0,none⟩=some (.string e.name):=cell_of_row _ _ _ _ _ _ hw.2.1;go_simp⟩) hT ?_
 simp only[Act.put,zL,zM,zN]
 refine aw 3 (.pointer (some ⟨w0.heap.size,1,none⟩)) 6 rfl rfl (Or.inl ⟨by rfl,fun w hw=>by go_simp⟩) hT ?_
 simp only[Act.put,zL,zM,zN]
 refine aw 4 (.slice av e.aW.length cv) 7 rfl rfl (Or.inl ⟨by rfl,fun w hw=>by have c:w.cell? ⟨w0.heap.size,1,none⟩=some (.slice av e.aW.length cv):=cell_of_row _ _ _ _ _ _ hw.2.1;go_simp⟩) hT ?_
 simp only[Act.put,zL,zM,zN]
 refine aw 6 (.pointer (some ⟨w0.heap.size,2,none⟩)) 9 rfl rfl (Or.inl ⟨by rfl,fun w hw=>by go_simp⟩) hT ?_
 simp only[Act.put,zL,zM,zN]
 refine aw 7 (.slice ar e.res.length cr) 10 rfl rfl (Or.inl ⟨by rfl,fun w hw=>by have c:w.cell? ⟨w0.heap.size,2,none⟩=some (.slice ar e.res.length cr):=cell_of_row _ _ _ _ _ _ hw.2.1;go_simp⟩) hT ?_
 simp only[Act.put,zL,zM,zN]
 refine aw 9 (.pointer (some ⟨w0.heap.size,3,none⟩)) 12 rfl rfl (Or.inl ⟨by rfl,fun w hw=>by go_simp⟩) hT ?_
 simp only[Act.put,zL,zM,zN]
 refine aw 10 (.slice ag e.gone.length cg) 13 rfl rfl (Or.inl ⟨by rfl,fun w hw=>by have c:w.cell? ⟨w0.heap.size,3,none⟩=some (.slice ag e.gone.length cg):=cell_of_row _ _ _ _ _ _ hw.2.1;go_simp⟩) hT ?_
 simp only[Act.put,zL,zM,zN]
 refine aB 2 (by kernel_rfl) rfl (fun K hK=>?_)
 refine aM 5 rfl rfl 45 (fun vs=>by kernel_rfl) #[.tmp 4] _ rfl #[.string e.name] (by first|rfl|simp[Act.eval]) (eh wd e.name ho.nm) ?_
 rintro e w1 ⟨rfl,hb⟩
 have Z0:=ak hT.1.size
 have Y0:=ak hb.size
 have bL:(fun w:World=>Below w0.heap.size w0 w∧w.heap[w0.heap.size]?=some (.cells #[.string e.name,.slice av e.aW.length cv,.slice ar e.res.length cr,.slice ag e.gone.length cg] 63 (0,0))∧w.heap[w0.heap.size+1]?=some (.cells #[.string ⟨#[]⟩,.slice none 0 0,.slice none 0 0,.slice none 0 0] 63 (0,0))) w1:=⟨hT.1.trans (hb.mono hT.1.size),(hb.block _ (zA hT.2.1).1).trans hT.2.1,(hb.block _ (zA hT.2.2).1).trans hT.2.2⟩
 refine ⟨_,rfl,hK _ _ ⟨fun _=>bL,?_⟩⟩
 clear hK K hT hb
 have hT:=bL
 clear bL
 simp only[Act.put,zL,zM,zN]
 refine aB 5 (by kernel_rfl) rfl (fun K hK=>?_)
 refine aM 8 rfl rfl 132 (fun vs=>by kernel_rfl) #[.tmp 7] _ rfl #[.slice av e.aW.length cv] (by first|rfl|simp[Act.eval]) (pL hv ho.v1 ho.v2 w1 (hw.trans (hT.1.mono hw.size))) ?_
 rintro e w2 ⟨_,rfl,k1,hb⟩
 obtain ⟨a1,c1,rfl⟩:=aN k1
 have h6:=(zA hT.2.2).1
 have F1:=ak (fun w' (hg:World.grownBy w2 w' (some (w0.heap.size+1)))=>(kM k1 (by have:=ho.v1;omega)).kept hg (fun b gS e=>by have h5:=(k1.lt b (by unfold gL at gS;simpa using gS)).1;obtain rfl:=zC e;omega))
 have P1:=ak (fU k1)
 have Z1:=ak hb.size
 have G1:=ak (zI w2 (some (w0.heap.size+1)))
 clear k1 h6
 have bL:(fun w:World=>Below w0.heap.size w0 w∧w.heap[w0.heap.size]?=some (.cells #[.string e.name,.slice av e.aW.length cv,.slice ar e.res.length cr,.slice ag e.gone.length cg] 63 (0,0))∧w.heap[w0.heap.size+1]?=some (.cells #[.string ⟨#[]⟩,.slice none 0 0,.slice none 0 0,.slice none 0 0] 63 (0,0))) w2:=⟨hT.1.trans (hb.mono hT.1.size),(hb.block _ (zA hT.2.1).1).trans hT.2.1,(hb.block _ (zA hT.2.2).1).trans hT.2.2⟩
 refine ⟨_,rfl,hK _ _ ⟨fun _=>bL,?_⟩⟩
 clear hK K hT hb
 have hT:=bL
 clear bL
 simp only[Act.put,zL,zM,zN]
 refine aB 8 (by kernel_rfl) rfl (fun K hK=>?_)
 refine aM 11 rfl rfl 128 (fun vs=>by kernel_rfl) #[.tmp 10] _ rfl #[.slice ar e.res.length cr] (by first|rfl|simp[Act.eval]) (lU hr ho.r1 ho.r2 w2 (hw.trans (hT.1.mono hw.size))) ?_
 rintro e w3 ⟨_,rfl,k1,hb⟩
 obtain ⟨a2,c2,rfl⟩:=aN k1
 have h6:=(zA hT.2.2).1
 have F2:=ak (fun w' (hg:World.grownBy w3 w' (some (w0.heap.size+1)))=>(kM k1 (by have:=my e.res;have:=ho.r1;omega)).kept hg (fun b gS e=>by have h5:=(k1.lt b (by unfold gL at gS;simpa using gS)).1;obtain rfl:=zC e;omega))
 have P2:=ak (fU k1)
 have Z2:=ak hb.size
 have G1:=ak ((ab G1).trans ((bB hb).but _))
 have G2:=ak (zI w3 (some (w0.heap.size+1)))
 clear k1 h6
 have bL:(fun w:World=>Below w0.heap.size w0 w∧w.heap[w0.heap.size]?=some (.cells #[.string e.name,.slice av e.aW.length cv,.slice ar e.res.length cr,.slice ag e.gone.length cg] 63 (0,0))∧w.heap[w0.heap.size+1]?=some (.cells #[.string ⟨#[]⟩,.slice none 0 0,.slice none 0 0,.slice none 0 0] 63 (0,0))) w3:=⟨hT.1.trans (hb.mono hT.1.size),(hb.block _ (zA hT.2.1).1).trans hT.2.1,(hb.block _ (zA hT.2.2).1).trans hT.2.2⟩
 refine ⟨_,rfl,hK _ _ ⟨fun _=>bL,?_⟩⟩
 clear hK K hT hb
 have hT:=bL
 clear bL
 simp only[Act.put,zL,zM,zN]
 refine aB 11 (by kernel_rfl) rfl (fun K hK=>?_)
 refine aM 14 rfl rfl 46 (fun vs=>by kernel_rfl) #[.tmp 13] _ rfl #[.slice ag e.gone.length cg] (by first|rfl|simp[Act.eval]) (gZ hg ho.g1 ho.g2 w3 (hw.trans (hT.1.mono hw.size))) ?_
 rintro e w4 ⟨_,rfl,k1,hb⟩
 obtain ⟨a3,c3,rfl⟩:=aN k1
 have h6:=(zA hT.2.2).1
 have F3:=ak (fun w' (hg:World.grownBy w4 w' (some (w0.heap.size+1)))=>(kM k1 (by have:=ho.g1;omega)).kept hg (fun b gS e=>by have h5:=(k1.lt b (by unfold gL at gS;simpa using gS)).1;obtain rfl:=zC e;omega))
 have P3:=ak (fU k1)
 have Z3:=ak hb.size
 have G1:=ak ((ab G1).trans ((bB hb).but _))
 have G2:=ak ((ab G2).trans ((bB hb).but _))
 have G3:=ak (zI w4 (some (w0.heap.size+1)))
 clear k1 h6
 have bL:(fun w:World=>Below w0.heap.size w0 w∧w.heap[w0.heap.size]?=some (.cells #[.string e.name,.slice av e.aW.length cv,.slice ar e.res.length cr,.slice ag e.gone.length cg] 63 (0,0))∧w.heap[w0.heap.size+1]?=some (.cells #[.string ⟨#[]⟩,.slice none 0 0,.slice none 0 0,.slice none 0 0] 63 (0,0))) w4:=⟨hT.1.trans (hb.mono hT.1.size),(hb.block _ (zA hT.2.1).1).trans hT.2.1,(hb.block _ (zA hT.2.2).1).trans hT.2.2⟩
 refine ⟨_,rfl,hK _ _ ⟨fun _=>bL,?_⟩⟩
 clear hK K hT hb
 have hT:=bL
 clear bL
 simp only[Act.put,zL,zM,zN]
 refine aw 12 (.agg #[.string e.name,.slice a1 e.aW.length c1,.slice a2 (iD e.res).length c2,.slice a3 e.gone.length c3]) 15 rfl rfl (Or.inl ⟨by rfl,fun w hw=>by go_simp⟩) hT ?_
 simp only[Act.put,zL,zM,zN]
 refine aB 13 (by kernel_rfl) rfl (fun K hK=>?_)
 have z:∀j,w4.frozen? ⟨w0.heap.size+1,j,none⟩=false:=fun j=>by simp[World.frozen?,hT.2.2]
 have z0:=z 0
 have z1:=z 1
 have z2:=z 2
 have z3:=z 3
 clear z
 obtain ⟨q0,g0⟩:=aI (j:=0) hT.2.2 (.string e.name)
 obtain ⟨q1,g1⟩:=aI (j:=1) q0 (.slice a1 e.aW.length c1)
 obtain ⟨q2,g2⟩:=aI (j:=2) q1 (.slice a2 (iD e.res).length c2)
 obtain ⟨q3,g3⟩:=aI (j:=3) q2 (.slice a3 e.gone.length c3)
 have gg:=(((g0.trans g1).trans g2).trans g3)
 have be:=hT.1.grown gg hT.1.size (fun k e=>by obtain rfl:=zC e;omega)
 have c0:w4.cell? ⟨w0.heap.size+1,0,none⟩=some (.string ⟨#[]⟩):=cell_of_row _ _ _ _ _ _ hT.2.2
 have c1:w4.cell? ⟨w0.heap.size+1,1,none⟩=some (.slice none 0 0):=cell_of_row _ _ _ _ _ _ hT.2.2
 have c2:w4.cell? ⟨w0.heap.size+1,2,none⟩=some (.slice none 0 0):=cell_of_row _ _ _ _ _ _ hT.2.2
 have c3:w4.cell? ⟨w0.heap.size+1,3,none⟩=some (.slice none 0 0):=cell_of_row _ _ _ _ _ _ hT.2.2
 have h1:=hT.2.1
 have Lu:=(gg.block _ (zA h1).1 (by simp)).trans h1
 have GE:=ak gg
 have BE:=ak be
 have Q3:=ak q3
 clear hT h1
 go_simp
 refine hK _ _ ⟨fun h=>absurd rfl h,?_⟩
 clear hK K
 refine aQ (by kernel_rfl) ?_
 clear Lu q0 g0 c0 q1 g1 c1 q2 g2 c2 q3 g3 c3 gg be z0 z1 z2 z3
 go_wp2
 refine bodyPost_ret (results_cell_row rfl _ _ (w0.heap.size+1) 63 _ (0,0) _ rfl (ab Q3) Tryz.underlying63 rfl (by kernel_rfl)) rfl ?_
 have f1:=ab F1 _ ((ab G1).trans (ab GE))
 have f2:=ab F2 _ ((ab G2).trans (ab GE))
 have f3:=ab F3 _ ((ab G3).trans (ab GE))
 have q1:(fA e).aW.length=e.aW.length:=bc _ _
 have q3:(fA e).gone.length=e.gone.length:=bc _ _
 refine ⟨[.string e.name,.slice a1 e.aW.length c1,.slice a2 (iD e.res).length c2,.slice a3 e.gone.length c3],_,rfl,⟨_,_,_,_,rfl,⟨_,_,_,rfl⟩,⟨_,_,_,rfl⟩,⟨_,_,_,rfl⟩⟩,tf.cons (e:=fA e) (by rw[q1];exact f1) f2 (by rw[q3];exact f3) .nil,?_,ab BE⟩
 rw[List.append_nil]
 exact (((ab P1).app (ab P2) (ab Z1) (ab Z2)).app (ab P3) (Nat.le_trans (ab Z1) (ab Z2)) (ab Z3)).wide (Nat.le_trans (ab Z0) (ab Y0)) (ab GE).size
end Go.Proofs.YtghioefalckgoaaGreatDoor
namespace Go.Proofs.YtghioefalckgoaaGreatDoor
open Go.RowKit
theorem xk {α:Type}{Y:List Value→List α→List Nat→Prop} (Ft:Y [] [] []) (Nx:∀a b c a' b' c',Y a b c→Y a' b' c'→Y (a++a') (b++b') (c++c')):∀(Q:List ((List Value×List Nat)×α)),(∀q ∈ Q,Y q.1.1 [q.2] q.1.2)→Y (Q.map (·.1.1)).flatten (Q.map (·.2)) (Q.map (·.1.2)).flatten
 |[],_=>Ft
 |q::r,h=>by
  have h1:=h q (by simp)
  have h2:=xk Ft Nx r (fun x hx=>h x (by simp[hx]))
  exact Nx _ _ _ _ _ _ h1 h2
theorem xr {α:Type}{Y:List Value→List α→List Nat→Prop} (Ft:Y [] [] []) (Nx:∀a b c a' b' c',Y a b c→Y a' b' c'→Y (a++a') (b++b') (c++c')) {T:List (List Value×List Nat)}{D:List α} (hl:T.length=D.length)
  (h:∀(i:Nat) (p:List Value×List Nat) (d:α),T[i]?=some p→D[i]?=some d→Y p.1 [d] p.2) {lt:List Value→List Value→Bool} {ltD:α→α→Bool}
  (aU:∀(i j:Nat) (p q:List Value×List Nat) (d e:α),T[i]?=some p→T[j]?=some q→D[i]?=some d→D[j]?=some e→lt p.1 q.1=ltD d e) :
  ∃B,Y (cR lt (T.map (·.1))).flatten (cR ltD D) B∧(T.map (·.2)).flatten.Perm B:=by
 have hz:∀q ∈ T.zip D,∃i:Nat,T[i]?=some q.1∧D[i]?=some q.2:=fun q hq=>by
  obtain ⟨i,hi⟩:=List.mem_iff_getElem?.1 hq
  exact ⟨i,List.getElem?_zip_eq_some.1 hi⟩
 obtain ⟨Q,hQ⟩:∃Q,T.zip D=Q:=⟨_,rfl⟩
 have e1:T=Q.map (·.1):=by rw[←hQ,List.map_fst_zip (Nat.le_of_eq hl)]
 have e2:D=Q.map (·.2):=by rw[←hQ,List.map_snd_zip (Nat.le_of_eq hl.symm)]
 rw[hQ] at hz
 obtain ⟨Q',X8⟩:∃Q',cR (fun a b=>ltD a.2 b.2) Q=Q':=⟨_,rfl⟩
 have m':∀q ∈ Q',q ∈ Q:=fun q hq=>by rw[←X8] at hq;exact (du _ _ _).1 hq
 have s1:cR lt (T.map (·.1))=Q'.map (·.1.1):=by
  have e3:T.map (·.1)=Q.map (·.1.1):=by rw[e1,List.map_map];rfl
  rw[e3,jV,←X8]
  congr 1
  refine xp (fun a ha b hb=>?_)
  obtain ⟨i,h1,h2⟩:=hz a ha
  obtain ⟨j,h3,h4⟩:=hz b hb
  exact aU i j a.1 b.1 a.2 b.2 h1 h3 h2 h4
 have s2:cR ltD D=Q'.map (·.2):=by rw[e2,jV,X8]
 refine ⟨(Q'.map (·.1.2)).flatten,?_,?_⟩
 ·rw[s1,s2]
  refine xk Ft Nx Q' (fun q hq=>?_)
  obtain ⟨i,h1,h2⟩:=hz q (m' q hq)
  exact h i q.1 q.2 h1 h2
 ·have e4:T.map (·.2)=Q.map (·.1.2):=by rw[e1,List.map_map];rfl
  rw[e4,←X8]
  exact ((Au _ Q).symm.map _).flatten
theorem qV.each {w:World}{cs:List Value}{l:List En} (h:qV w cs l):∃L:List (List Value),L.flatten=cs∧L.length=l.length∧∀(i:Nat) (x:List Value),L[i]?=some x→∃e vv vr vg,l[i]?=some e∧x=[.string e.name,vv,vr,vg]∧Rl w vv e.aW.length (mR e.aW)∧Rl w vr e.res.length (eP e.res)∧Rl w vg e.gone.length (bj e.gone):=by
 induction h with
 |nil=>exact ⟨[],rfl,rfl,fun i x h=>by simp at h⟩
 |@cons e vv vr vg rest l hv hr hg _ ih =>
  obtain ⟨L,h1,h2,h3⟩:=ih
  refine ⟨[.string e.name,vv,vr,vg]::L,by rw[List.flatten_cons,h1];rfl,by simp[h2],fun i x hx=>?_⟩
  cases i with
  |zero =>
   simp at hx
   exact ⟨e,vv,vr,vg,rfl,hx.symm,hv,hr,hg⟩
  |succ i=>exact h3 i x (by simpa using hx)
theorem nS.each {w:World}{cs:List Value}{l:List Ms} (h:nS w cs l):∃L:List (List Value),L.flatten=cs∧L.length=l.length∧∀(i:Nat) (x:List Value),L[i]?=some x→∃m vf vo vm ve vr vg,l[i]?=some m∧x=[.string m.nm,vf,vo,vm,ve,vr,vg]∧nS w x [m]:=by
 cases h with
 |nil=>exact ⟨[],rfl,rfl,fun i x h=>by simp at h⟩
 |@cons nm fs os ms es rs gs vf vo vm ve vr vg cm ce rest l hf ho hm eI he ep hr hg ht =>
  obtain ⟨L,h1,h2,h3⟩:=nS.each ht
  refine ⟨[.string nm,vf,vo,vm,ve,vr,vg]::L,by rw[List.flatten_cons,h1];rfl,by simp[h2],fun i x hx=>?_⟩
  cases i with
  |zero =>
   simp at hx
   exact ⟨.mk nm fs os ms es rs gs,vf,vo,vm,ve,vr,vg,rfl,hx.symm,by rw[←hx];exact .cons hf ho hm eI he ep hr hg .nil⟩
  |succ i=>exact h3 i x (by simpa using hx)
theorem Rl.sl {w:World}{v:Value}{n:Nat}{xs:List Value} (h:Rl w v n xs):mq v:=by
 obtain ⟨a,c,rfl,_⟩:=h
 exact ⟨_,_,_,rfl⟩
end Go.Proofs.YtghioefalckgoaaGreatDoor
namespace Go.Proofs.YtghioefalckgoaaGreatDoor
open Go.RowKit
attribute [local go_sem ↓] Go.wp_at_zero Go.wp_at_succ
theorem tf.hd {w:World}{cs:List Value}{e:En}{B:List Nat} (h:tf w cs [e] B):nJ cs=e.name∧BU .E cs:=by
 cases h with
 |cons h1 h2 h3 h4 =>
  cases h4
  exact ⟨rfl,_,_,_,_,rfl,h1.sl,h2.sl,h3.sl⟩
theorem sZ.hd {w:World}{cs:List Value}{m:Ms}{B:List Nat} (h:sZ w cs [m] B):nJ cs=m.nm∧BU .M cs:=by
 cases h with
 |cons h1 h2 h3 h4 h5 h6 h7 h8 h9 =>
  cases h9
  exact ⟨rfl,_,_,_,_,_,_,_,rfl,h1.sl,h2.sl,h3.sl,h5.sl,h7.sl,h8.sl⟩
theorem Jj (W:World) {x:List Value} (hx:BU .E x):Calls Tryz.prog 81 #[fH x] W fun e w=>e=.returned (.string (nJ x))∧Below W.heap.size W w:=by
 obtain ⟨s,_,_,_,rfl,⟨a1,n1,c1,rfl⟩,⟨a2,n2,c2,rfl⟩,⟨a3,n3,c3,rfl⟩⟩:=hx
 have k0:=aE W (.cells #[.string s,.slice a1 n1 c1,.slice a2 n2 c2,.slice a3 n3 c3] 63)
 have HB:=ak ((zE W.heap.size W).alloc (zD _) (.cells #[.string s,.slice a1 n1 c1,.slice a2 n2 c2,.slice a3 n3 c3] 63))
 obtain ⟨V,hV⟩:∃V,W.alloc (.cells #[.string s,.slice a1 n1 c1,.slice a2 n2 c2,.slice a3 n3 c3] 63)=V:=⟨_,rfl⟩
 rw[hV] at k0 HB
 have c0:V.cell? ⟨W.heap.size,0,none⟩=some (.string s):=cell_of_row _ _ _ _ _ _ k0
 clear k0
 unfold fH nJ
 go_enter Tryz.func81,Tryz.ntmps81
 go_wp2
 go_ret
 exact ⟨rfl,ab HB⟩
def EsQ (w0:World) (l':List En) (e:Ending) (w:World):Prop:=∃u cs B,e=.returned u∧w.ownsRow w0.heap.size 63 4 u l'.length cs∧tf w cs l' B∧lK w0.heap.size w.heap.size (gL u++B)∧Below w0.heap.size w0 w
theorem oB {W:World}{v:Value}{l:List En}{cs:List Value} (hv:Rl W v l.length cs) (hE:qV W cs l) (hl:l.length≤4096) (ho:∀e ∈ l,Oe e) (w0:World) (hw:Below W.heap.size W w0) :
  Calls Tryz.prog 48 #[v] w0 (EsQ w0 (dM l)):=by
 obtain ⟨L,gR,hL,mQ⟩:=hE.each
 have HE:=ak (vJ .E (L:=L) (f:=80) (fs:=#[]) (cp:=#[]) (G:=fun i y B w=>∃d,l[i]?=some d∧tf w y [fA d] B) (by rw[gR];exact hv) hL (fun x hx=>by obtain ⟨i,hi⟩:=List.mem_iff_getElem?.1 hx;obtain ⟨e,vv,vr,vg,h1,rfl,r1,r2,r3⟩:=mQ i x hi;exact ⟨_,_,_,_,rfl,r1.sl,r2.sl,r3.sl⟩) (by show l.length*88≤_;omega)
  (fun i y B w w' ob ⟨d,h1,h2⟩ hg hb=>⟨d,h1,h2.kept hg hb⟩) (fun vs w=>by kernel_rfl) w0 hw (fun i x hx w hb=>by
   obtain ⟨e,vv,vr,vg,h1,rfl,r1,r2,r3⟩:=mQ i x hx
   refine (uJ r1 r2 r3 (ho e (List.mem_of_getElem? h1)) w (hw.trans (hb.mono hw.size))).mono ?_
   rintro e' w' ⟨y,B,rfl,k1,k2,k3,k4⟩
   exact ⟨y,B,rfl,⟨k1,⟨e,h1,k2⟩,k3,k4⟩⟩))
 have HS:Hid (∀(w1:World) (u:Value) (T:List (List Value×List Nat)),BW .E (fun i y B w=>∃d,l[i]?=some d∧tf w y [fA d] B) w0 w1 u l.length T→Calls Tryz.prog 78 #[u,.func (.func 81) #[] #[]] w1 fun e w=>Below w1.heap.size w1 w∧EsQ w0 (dM l) e w):=by
  intro w1 u T hT
  have tl:(T.map (·.1)).length=l.length:=by rw[List.length_map,hT.len]
  have Lx:∀x ∈ T.map (·.1),BU .E x:=fun x hx=>by obtain ⟨q,hq,rfl⟩:=List.mem_map.1 hx;exact hT.ks q hq
  refine (dK .E (L:=T.map (·.1)) (kv:=.S nJ) (Pe:=BU .E) (f:=81) (fs:=#[]) (cp:=#[]) (kj hT.row (by omega)) tl (fun x hx=>(Lx x hx).ok.1) (fun x hx=>(Lx x hx).ok.2)
   (by show l.length*88≤_;omega) rfl (fun x hx=>hx.ok) Lx w1 (zE _ _)
   ⟨fun vs w=>by kernel_rfl,fun x w' _ hx=>Jj w' hx⟩).mono ?_
  rintro e w ⟨u',rfl,h2,h3⟩
  obtain ⟨B,hY,hp⟩:=xr (Y:=tf w) .nil (fun _ _ _ _ _ _ a b=>a.app b) (T:=T) (D:=l.map fA) (by rw[hT.len,List.length_map]) (fun i p d hp hd=>by
    obtain ⟨d',h4,h5⟩:=hT.is i p hp
    rw[List.getElem?_map,h4] at hd
    obtain rfl:fA d'=d:=by simpa using hd
    exact h5.kept (bB h3) (fun b _=>by simp)) (lt:=KV.lt (.S nJ)) (ltD:=fun a b=>Tg a.name b.name) (fun i j p q d e hp hq hd he=>by
    obtain ⟨d',h4,h5⟩:=hT.is i p hp
    obtain ⟨e',h6,h7⟩:=hT.is j q hq
    rw[List.getElem?_map,h4] at hd
    rw[List.getElem?_map,h6] at he
    obtain rfl:fA d'=d:=by simpa using hd
    obtain rfl:fA e'=e:=by simpa using he
    show Op.bytesLess (nJ p.1).toList (nJ q.1).toList=_
    rw[h5.hd.1,h7.hd.1]
    rfl)
  have hB:lK w0.heap.size w1.heap.size B:=(show lK w0.heap.size w1.heap.size (T.map (·.2)).flatten from ⟨(List.nodup_append.1 hT.GV.1).2.1,fun c hc=>hT.GV.2 c (List.mem_append_right _ hc)⟩).perm hp
  have fR:(dM l).length=l.length:=by show (cR _ (l.map fA)).length=_;rw[bc,List.length_map]
  exact ⟨h3,u',_,B,rfl,by rw[fR];exact kk h2 hT.bh.size,hY,(hB.app (fU h2) hT.bh.size h3.size).perm List.perm_append_comm,hT.bh.trans (h3.mono hT.bh.size)⟩
 obtain ⟨a,c,rfl,-,-⟩:=hv
 clear gR hL mQ hw hE hl
 go_enter Tryz.func48,Tryz.ntmps48
 go_wp2_with fail
 refine (ab HE).mono ?_
 rintro e w1 ⟨u,T,rfl,hT⟩
 have HK:=ak (ab HS w1 u T hT)
 obtain ⟨a1,n1,c1,rfl⟩:=fP hT.row
 clear hT HS HE
 go_wp2_with fail
 refine (ab HK).mono ?_
 rintro e w2 ⟨h3,u',fI,B,rfl,h4,h5,h6,h7⟩
 have H:=ak (show EsQ w0 (dM l) (.returned u') w2 from ⟨u',fI,B,rfl,h4,h5,h6,h7⟩)
 clear h3 h4 h5 h6 h7 HK
 go_wp2
 go_ret
 exact ab H
theorem Ji (W:World) {x:List Value} (hx:BU .M x):Calls Tryz.prog 77 #[fH x] W fun e w=>e=.returned (.string (nJ x))∧Below W.heap.size W w:=by
 obtain ⟨s,_,_,_,_,_,_,rfl,⟨a1,n1,c1,rfl⟩,⟨a2,n2,c2,rfl⟩,⟨a3,n3,c3,rfl⟩,⟨a4,n4,c4,rfl⟩,⟨a5,n5,c5,rfl⟩,⟨a6,n6,c6,rfl⟩⟩:=hx
 have k0:=aE W (.cells #[.string s,.slice a1 n1 c1,.slice a2 n2 c2,.slice a3 n3 c3,.slice a4 n4 c4,.slice a5 n5 c5,.slice a6 n6 c6] 57)
 have HB:=ak ((zE W.heap.size W).alloc (zD _) (.cells #[.string s,.slice a1 n1 c1,.slice a2 n2 c2,.slice a3 n3 c3,.slice a4 n4 c4,.slice a5 n5 c5,.slice a6 n6 c6] 57))
 obtain ⟨V,hV⟩:∃V,W.alloc (.cells #[.string s,.slice a1 n1 c1,.slice a2 n2 c2,.slice a3 n3 c3,.slice a4 n4 c4,.slice a5 n5 c5,.slice a6 n6 c6] 57)=V:=⟨_,rfl⟩
 rw[hV] at k0 HB
 have c0:V.cell? ⟨W.heap.size,0,none⟩=some (.string s):=cell_of_row _ _ _ _ _ _ k0
 clear k0
 unfold fH nJ
 go_enter Tryz.func77,Tryz.ntmps77
 go_wp2
 go_ret
 exact ⟨rfl,ab HB⟩
def MsQ (w0:World) (l':List Ms) (e:Ending) (w:World):Prop:=∃u cs B,e=.returned u∧w.ownsRow w0.heap.size 57 7 u l'.length cs∧sZ w cs l' B∧lK w0.heap.size w.heap.size (gL u++B)∧Below w0.heap.size w0 w
def MnQ (f:Nat) (w0:World) (m:Ms) (e':Ending) (w:World):Prop:=∃y B,e'=.returned (fH y)∧BU .M y∧sZ w y [iG f m] B∧lK w0.heap.size w.heap.size B∧Below w0.heap.size w0 w
def Yo (f:Nat):Prop:=∀(W:World) (m:Ms) (x:List Value),nS W x [m]→Py f m→∀w0,Below W.heap.size W w0→Calls Tryz.prog 76 #[fH x] w0 (MnQ f w0 m)
theorem MI {w:World}{x:List Value}{m:Ms} (h:nS w x [m]):BU .M x:=by
 cases h with
 |cons h1 h2 h3 h4 h5 h6 h7 h8 h9 =>
  cases h9
  exact ⟨_,_,_,_,_,_,_,rfl,h1.sl,h2.sl,h3.sl,h5.sl,h7.sl,h8.sl⟩
theorem oA {W:World}{v:Value}{l:List Ms}{cs:List Value} (hv:Rl W v l.length cs) (hE:nS W cs l) (hl:l.length≤4096) (f:Nat) (hM:Yo f) (ho:∀m ∈ l,Py f m) (w0:World) (hw:Below W.heap.size W w0) :
  Calls Tryz.prog 47 #[v] w0 (MsQ w0 (dL f l)):=by
 obtain ⟨L,gR,hL,mQ⟩:=hE.each
 have HE:=ak (vJ .M (L:=L) (f:=76) (fs:=#[]) (cp:=#[]) (G:=fun i y B w=>∃d,l[i]?=some d∧sZ w y [iG f d] B) (by rw[gR];exact hv) hL (fun x hx=>by obtain ⟨i,hi⟩:=List.mem_iff_getElem?.1 hx;obtain ⟨m,vf,vo,vm,ve,vr,vg,h1,rfl,r1⟩:=mQ i x hi;exact MI r1) (by show l.length*160≤_;omega)
  (fun i y B w w' ob ⟨d,h1,h2⟩ hg hb=>⟨d,h1,h2.kept hg hb⟩) (fun vs w=>by kernel_rfl) w0 hw (fun i x hx w hb=>by
   obtain ⟨m,vf,vo,vm,ve,vr,vg,h1,rfl,r1⟩:=mQ i x hx
   refine (hM W m _ r1 (ho m (List.mem_of_getElem? h1)) w (hw.trans (hb.mono hw.size))).mono ?_
   rintro e' w' ⟨y,B,rfl,k1,k2,k3,k4⟩
   exact ⟨y,B,rfl,⟨k1,⟨m,h1,k2⟩,k3,k4⟩⟩))
 have HS:Hid (∀(w1:World) (u:Value) (T:List (List Value×List Nat)),BW .M (fun i y B w=>∃d,l[i]?=some d∧sZ w y [iG f d] B) w0 w1 u l.length T→Calls Tryz.prog 74 #[u,.func (.func 77) #[] #[]] w1 fun e w=>Below w1.heap.size w1 w∧MsQ w0 (dL f l) e w):=by
  intro w1 u T hT
  have tl:(T.map (·.1)).length=l.length:=by rw[List.length_map,hT.len]
  have Lx:∀x ∈ T.map (·.1),BU .M x:=fun x hx=>by obtain ⟨q,hq,rfl⟩:=List.mem_map.1 hx;exact hT.ks q hq
  refine (dK .M (L:=T.map (·.1)) (kv:=.S nJ) (Pe:=BU .M) (f:=77) (fs:=#[]) (cp:=#[]) (kj hT.row (by omega)) tl (fun x hx=>(Lx x hx).ok.1) (fun x hx=>(Lx x hx).ok.2)
   (by show l.length*160≤_;omega) rfl (fun x hx=>hx.ok) Lx w1 (zE _ _)
   ⟨fun vs w=>by kernel_rfl,fun x w' _ hx=>Ji w' hx⟩).mono ?_
  rintro e w ⟨u',rfl,h2,h3⟩
  obtain ⟨B,hY,hp⟩:=xr (Y:=sZ w) .nil (fun _ _ _ _ _ _ a b=>a.app b) (T:=T) (D:=l.map (iG f)) (by rw[hT.len,List.length_map]) (fun i p d hp hd=>by
    obtain ⟨d',h4,h5⟩:=hT.is i p hp
    rw[List.getElem?_map,h4] at hd
    obtain rfl:iG f d'=d:=by simpa using hd
    exact h5.kept (bB h3) (fun b _=>by simp)) (lt:=KV.lt (.S nJ)) (ltD:=fun a b=>Tg a.nm b.nm) (fun i j p q d e hp hq hd he=>by
    obtain ⟨d',h4,h5⟩:=hT.is i p hp
    obtain ⟨e',h6,h7⟩:=hT.is j q hq
    rw[List.getElem?_map,h4] at hd
    rw[List.getElem?_map,h6] at he
    obtain rfl:iG f d'=d:=by simpa using hd
    obtain rfl:iG f e'=e:=by simpa using he
    show Op.bytesLess (nJ p.1).toList (nJ q.1).toList=_
    rw[h5.hd.1,h7.hd.1]
    rfl)
  have hB:lK w0.heap.size w1.heap.size B:=(show lK w0.heap.size w1.heap.size (T.map (·.2)).flatten from ⟨(List.nodup_append.1 hT.GV.1).2.1,fun c hc=>hT.GV.2 c (List.mem_append_right _ hc)⟩).perm hp
  have fR:(dL f l).length=l.length:=by show (cR _ (l.map (iG f))).length=_;rw[bc,List.length_map]
  exact ⟨h3,u',_,B,rfl,by rw[fR];exact kk h2 hT.bh.size,hY,(hB.app (fU h2) hT.bh.size h3.size).perm List.perm_append_comm,hT.bh.trans (h3.mono hT.bh.size)⟩
 obtain ⟨a,c,rfl,-,-⟩:=hv
 clear gR hL mQ hw hE hl
 go_enter Tryz.func47,Tryz.ntmps47
 go_wp2_with fail
 refine (ab HE).mono ?_
 rintro e w1 ⟨u,T,rfl,hT⟩
 have HK:=ak (ab HS w1 u T hT)
 obtain ⟨a1,n1,c1,rfl⟩:=fP hT.row
 clear hT HS HE
 go_wp2_with fail
 refine (ab HK).mono ?_
 rintro e w2 ⟨h3,u',fI,B,rfl,h4,h5,h6,h7⟩
 have H:=ak (show MsQ w0 (dL f l) (.returned u') w2 from ⟨u',fI,B,rfl,h4,h5,h6,h7⟩)
 clear h3 h4 h5 h6 h7 HK
 go_wp2
 go_ret
 exact ab H
end Go.Proofs.YtghioefalckgoaaGreatDoor

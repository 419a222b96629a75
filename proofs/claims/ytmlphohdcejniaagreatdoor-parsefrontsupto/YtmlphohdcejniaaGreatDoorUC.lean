import Derived.Test.YtmlphohdcejniaaGreatDoorM48
set_option maxHeartbeats 8000000
set_option maxRecDepth 100000
namespace Go.Proofs.YtmlphohdcejniaaGreatDoor
open Go.RowKit
attribute [local go_sem ↓] Go.wp_at_zero Go.wp_at_succ
def RY (W:World) (e:Ending) (w:World):Prop:=∃(G:Fl) (gi gm ge:Value) (B:ByteArray) (ps:List (Wd×List Nat)) (c:Nat) (ws:List Wd),e=.returned (.tuple #[.agg #[.string G.eI,gi,gm,ge],.string B,.bool (decide (c≤4096)&&decide (ps.length<16384)&&decide (B.size≤65536))])∧NF G (.agg #[.string G.eI,gi,gm,ge]) (fun k=>W.heap.size≤k) w∧ps.map Prod.fst=jW++ws∧eU yN 32 ws c ⟨⟨#[]⟩,[],[],[]⟩ G∧nU ps∧aH B=j5 ps∧Below W.heap.size W w
theorem CH {W:World} (hM:gY W) (hP:oN W) {F:Fl}{v vi vm ve vs:Value}{cm ce:List Value} (hF:To W v F vi vm ve cm ce) (hz:Pd F) (hs:KB W.heap.size W vs):Calls Tryz.prog 6 #[v,vs] W (RY W):=by
 obtain ⟨rfl,hi,hm,jT,he,mP⟩:=hF
 have W8:=aj (fun w0 hw=>oV 30 (zD _) W vm F.ms cm hm jT hz.ml hz.ms w0 hw hM)
 have Xa:=aj (fun w0 hw=>x8 he mP hz.el hz.es w0 hw)
 obtain ⟨Ky,Kj,rfl,KO,qz⟩:=hi
 obtain ⟨EU,B9,rfl,-,-⟩:=hm
 obtain ⟨Ey,AS,rfl,-,-⟩:=he
 rw[show (30:Int)-((30:Nat):Int)=0 from rfl] at W8
 have HIm:=aj qz
 have HM:=aj hM
 have HP:=aj hP
 have HZ:=aj hz
 have HSp:=aj hs
 clear qz hM hP hz hs jT mP
 have bF:Below W.heap.size W ((W.alloc (.cells #[.string F.eI,.slice Ky F.bM.length Kj,.slice EU F.ms.length B9,.slice Ey F.es.length AS] 26)).alloc (.cells #[.string ⟨#[]⟩,.slice none 0 0,.slice none 0 0,.slice none 0 0] 26)):=((zE _ _).alloc (zD _) _).alloc (by rw[zJ];omega) _
 have Uy:W.heap.size<W.heap.size+1∧W.heap.size+1<((W.alloc (.cells #[.string F.eI,.slice Ky F.bM.length Kj,.slice EU F.ms.length B9,.slice Ey F.es.length AS] 26)).alloc (.cells #[.string ⟨#[]⟩,.slice none 0 0,.slice none 0 0,.slice none 0 0] 26)).heap.size:=by rw[zJ,zJ];omega
 have rU:((W.alloc (.cells #[.string F.eI,.slice Ky F.bM.length Kj,.slice EU F.ms.length B9,.slice Ey F.es.length AS] 26)).alloc (.cells #[.string ⟨#[]⟩,.slice none 0 0,.slice none 0 0,.slice none 0 0] 26)).heap[W.heap.size]?=some (.cells #[.string F.eI,.slice Ky F.bM.length Kj,.slice EU F.ms.length B9,.slice Ey F.es.length AS] 26 (0,0)):=(Below.heap_alloc _ _ _ (by rw[zJ];omega)).trans (aC _ _)
 have iq:((W.alloc (.cells #[.string F.eI,.slice Ky F.bM.length Kj,.slice EU F.ms.length B9,.slice Ey F.es.length AS] 26)).alloc (.cells #[.string ⟨#[]⟩,.slice none 0 0,.slice none 0 0,.slice none 0 0] 26)).heap[W.heap.size+1]?=some (.cells fz 26 (0,0)):=by
  have:=aC (W.alloc (.cells #[.string F.eI,.slice Ky F.bM.length Kj,.slice EU F.ms.length B9,.slice Ey F.es.length AS] 26)) (.cells #[.string ⟨#[]⟩,.slice none 0 0,.slice none 0 0,.slice none 0 0] 26)
  rw[zJ] at this
  exact this
 obtain ⟨W1,ET⟩:∃x,((W.alloc (.cells #[.string F.eI,.slice Ky F.bM.length Kj,.slice EU F.ms.length B9,.slice Ey F.es.length AS] 26)).alloc (.cells #[.string ⟨#[]⟩,.slice none 0 0,.slice none 0 0,.slice none 0 0] 26))=x:=⟨_,rfl⟩
 rw[ET] at bF Uy rU iq
 have np:=aj (And.intro bF (And.intro Uy (And.intro rU iq)))
 have iU:Hid (∀w',Below W1.heap.size W1 w'→w'.cell? ⟨W.heap.size,0,none⟩=some (.string F.eI)∧w'.cell? ⟨W.heap.size,1,none⟩=some (.slice Ky F.bM.length Kj)∧w'.cell? ⟨W.heap.size,2,none⟩=some (.slice EU F.ms.length B9)∧w'.cell? ⟨W.heap.size,3,none⟩=some (.slice Ey F.es.length AS)):=fun w' hb=>eK ((hb.block _ (by omega)).trans rU)
 have W8:=aj (fun w0 hw=>aa W8 w0 (bF.trans (Below.mono hw bF.size)))
 have Xa:=aj (fun w0 hw=>aa Xa w0 (bF.trans (Below.mono hw bF.size)))
 clear bF Uy rU iq
 go_enter Tryz.func6,Tryz.ntmps6
 go_upto_region 1 with fail
 go_cut [7] (fun v7 wx=>∃(g:Nat) (ma:Option Addr) (mc:Nat) (ea:Option Addr) (ec:Nat) (Qx:List Ms) (PC:List En),v7=.pointer (some ⟨g,0,none⟩)∧Hid (WJ W wx #[.string F.eI,.slice Ky F.bM.length Kj,.slice EU F.ms.length B9,.slice Ey F.es.length AS] (W.heap.size+1) g (.slice ma Qx.length mc) (.slice ea PC.length ec) Qx PC)∧Hid ((∀m ∈ Qx,Gw 30 m)∧bI (ni 30) Qx≤bI (FA 30) F.ms)∧Hid ((∀e ∈ PC,EK e)∧bI nQ PC≤bI IA F.es))
 case first =>
  refine wp_region_any (by kernel_rfl) (cj (z:=99) (T:=fun w'=>Below W1.heap.size W1 w') _ _ _ _ ?_)
  try (change cW _ _ _ _ _ _ _ _ _ (World.drew _))
  have aX:Below W1.heap.size W1 W1.drew:=below_drewN (zE _ _) 1
  obtain ⟨wd,iZ⟩:∃x,W1.drew=x:=⟨_,rfl⟩
  have GB:=aj (show wd.heap.size=W1.heap.size by rw[←iZ];rfl)
  rw[iZ] at aX ⊢
  have hT:=aX
  refine ak 0 (.pointer (some ⟨W.heap.size,2,none⟩)) 13 rfl rfl (Or.inl ⟨by rfl,fun w' hw=>by obtain ⟨x0,x1,x2,x3⟩:=aa iU w' hw;go_simp⟩) hT ?_
  simp only[Act.put,zL,zM,zN]
  refine ak 1 (.slice EU F.ms.length B9) 14 rfl rfl (Or.inl ⟨by rfl,fun w' hw=>by obtain ⟨x0,x1,x2,x3⟩:=aa iU w' hw;go_simp⟩) hT ?_
  simp only[Act.put,zL,zM,zN]
  refine ak 3 (.pointer (some ⟨W.heap.size,3,none⟩)) 16 rfl rfl (Or.inl ⟨by rfl,fun w' hw=>by obtain ⟨x0,x1,x2,x3⟩:=aa iU w' hw;go_simp⟩) hT ?_
  simp only[Act.put,zL,zM,zN]
  refine ak 4 (.slice Ey F.es.length AS) 17 rfl rfl (Or.inl ⟨by rfl,fun w' hw=>by obtain ⟨x0,x1,x2,x3⟩:=aa iU w' hw;go_simp⟩) hT ?_
  simp only[Act.put,zL,zM,zN]
  clear hT
  refine dC 2 7 (by kernel_rfl) rfl rfl (fun K hK=>?_) (fun K hK=>?_)
  ·refine aN 15 rfl rfl 16 (fun vs=>by kernel_rfl) #[.tmp 14,.const (.int .i64 0)] #[23,3] rfl #[.slice EU F.ms.length B9,.int .i64 0] (by first|rfl|simp[Act.eval]) (aa W8 wd aX) ?_
   rintro e' pP ⟨⟨um,cs1,Qx,rfl,fp,Nb,M9,BJ⟩,ba⟩
   obtain ⟨am1,cm1,rfl⟩:=bn fp
   have BP:=ME fp Nb
   have Sf:=aj (And.intro M9 BJ)
   clear fp Nb M9 BJ
   have sy:=aj ba.size
   have aX:=aX.trans (ba.mono aX.size)
   refine ⟨_,rfl,hK _ _ ⟨fun _=>aX,?_⟩⟩
   clear hK K ba
   simp only[Act.put,zL,zM,zN]
   refine dC 5 7 (by kernel_rfl) rfl rfl (fun K hK=>?_) (fun K hK=>?_)
   ·refine aN 18 rfl rfl 17 (fun vs=>by kernel_rfl) #[.tmp 17] #[24] rfl #[.slice Ey F.es.length AS] (by first|rfl|simp[Act.eval]) (aa Xa pP aX) ?_
    rintro e' qW ⟨⟨ue,cs2,PC,rfl,ep,DU,DV,xN,mM⟩,ba⟩
    rw[←DV] at ep
    obtain ⟨ZK,ZF,rfl⟩:=bn ep
    have BP:=BP.up ba
    have Px:=FB ep DU
    have O4:=aj (And.intro xN mM)
    clear ep DU xN mM DV
    have HS3:=aj ba.size
    have aX:=aX.trans (ba.mono aX.size)
    refine ⟨_,rfl,hK _ _ ⟨fun _=>aX,?_⟩⟩
    clear hK K ba
    simp only[Act.put,zL,zM,zN]
    have hT:=aX
    refine ak 6 (.agg #[.string ⟨#[]⟩,.slice none 0 0,.slice am1 Qx.length cm1,.slice ZK PC.length ZF]) 19 rfl rfl (Or.inl ⟨by rfl,fun w' hw=>by go_simp⟩) hT ?_
    simp only[Act.put,zL,zM,zN]
    clear hT
    refine ay 7 (by kernel_rfl) rfl (fun K hK=>?_)
    obtain ⟨EN,ez⟩:∃x,qW.alloc (.cells #[.string ⟨#[]⟩,.slice none 0 0,.slice none 0 0,.slice none 0 0] 26)=x:=⟨_,rfl⟩
    have ba:Below qW.heap.size qW EN:=by rw[←ez];exact (zE _ _).alloc (zD _) _
    have bo:EN.heap[qW.heap.size]?=some (.cells #[.string ⟨#[]⟩,.slice none 0 0,.slice none 0 0,.slice none 0 0] 26 (0,0)):=by rw[←ez];exact aC _ _
    have HS5:=aj (show qW.heap.size<EN.heap.size by have:=(zA bo).1;omega)
    have HL:=aj aX.size
    go_simp
    have BP:=BP.up ba
    have Px:=Px.up ba
    have aX:=aX.trans (ba.mono aX.size)
    refine hK _ _ ⟨fun _=>aX,?_⟩
    clear hK K ez ba
    refine ay 8 (by kernel_rfl) rfl (fun K hK=>?_)
    obtain ⟨q1,q2⟩:=E3 (aa np).1 aX (aa np).2.1 (aa np).2.2.1 (aa np).2.2.2 (aa HL) bo BP Px (by have:=aa HL;have:=aa sy;have:=aa HS3;have:=aa HS5;have:=aX.size;have:=aa GB;omega) (by have:=aa sy;have:=aa HS3;have:=aa HS5;have:=aa GB;omega) (by have:=aa sy;have:=aa HS3;have:=aa HS5;omega) (by have:=aa sy;have:=aa HS3;have:=aa HS5;omega)
    obtain ⟨g,SU⟩:∃g,qW.heap.size=g:=⟨_,rfl⟩
    rw[SU] at bo q1 q2 ⊢
    obtain ⟨c0,c1,c2,c3⟩:=eK bo
    have z:∀j,EN.frozen? ⟨g,j,none⟩=false:=fun j=>by simp[World.frozen?,bo]
    have z0:=z 0
    have z1:=z 1
    have z2:=z 2
    have z3:=z 3
    have Z':=aj q1
    have PG:=aj q2
    clear q1 q2
    go_simp
    refine hK _ _ ⟨fun _=>aa PG,?_⟩
    clear hK K
    refine bj (by kernel_rfl) ?_
    clear aX BP Px bo z z0 z1 z2 z3 c0 c1 c2 c3 SU PG
    go_wp2_with fail
    go_meet
    exact ⟨g,_,_,_,_,_,_,rfl,Z',Sf,O4⟩
   ·obtain ⟨A1,ez⟩:∃x,pP.alloc (.cells #[.string ⟨#[]⟩,.slice none 0 0,.slice none 0 0,.slice none 0 0] 26)=x:=⟨_,rfl⟩
    have ba:Below pP.heap.size pP A1:=by rw[←ez];exact (zE _ _).alloc (zD _) _
    have bo:A1.heap[pP.heap.size]?=some (.cells #[.string ⟨#[]⟩,.slice none 0 0,.slice none 0 0,.slice none 0 0] 26 (0,0)):=by rw[←ez];exact aC _ _
    have HS4:=aj (show pP.heap.size<A1.heap.size by have:=(zA bo).1;omega)
    have HL:=aj aX.size
    go_simp
    have BP:=BP.up ba
    have aX:=aX.trans (ba.mono aX.size)
    refine hK _ _ ⟨fun _=>aX,?_⟩
    clear hK K ez ba
    refine ay 5 (by kernel_rfl) rfl (fun K hK=>?_)
    refine aN 18 rfl rfl 17 (fun vs=>by kernel_rfl) #[.tmp 17] #[24] rfl #[.slice Ey F.es.length AS] (by first|rfl|simp[Act.eval]) (aa Xa A1 aX) ?_
    rintro e' PT ⟨⟨ue,cs2,PC,rfl,ep,DU,DV,xN,mM⟩,ba⟩
    rw[←DV] at ep
    obtain ⟨ZK,ZF,rfl⟩:=bn ep
    have BP:=BP.up ba
    have Px:=FB ep DU
    have O4:=aj (And.intro xN mM)
    clear ep DU xN mM DV
    have HS6:=aj ba.size
    have bo:=(ba.block _ (zA bo).1).trans bo
    have aX:=aX.trans (ba.mono aX.size)
    refine ⟨_,rfl,hK _ _ ⟨fun _=>aX,?_⟩⟩
    clear hK K ba
    simp only[Act.put,zL,zM,zN]
    have hT:=aX
    refine ak 6 (.agg #[.string ⟨#[]⟩,.slice none 0 0,.slice am1 Qx.length cm1,.slice ZK PC.length ZF]) 19 rfl rfl (Or.inl ⟨by rfl,fun w' hw=>by go_simp⟩) hT ?_
    simp only[Act.put,zL,zM,zN]
    clear hT
    refine ay 8 (by kernel_rfl) rfl (fun K hK=>?_)
    obtain ⟨q1,q2⟩:=E3 (aa np).1 aX (aa np).2.1 (aa np).2.2.1 (aa np).2.2.2 (aa HL) bo BP Px (by have:=aa HL;have:=aa sy;have:=aa HS4;have:=aa HS6;have:=aX.size;have:=aa GB;omega) (by have:=aa sy;have:=aa HS4;have:=aa HS6;have:=aa GB;omega) (by have:=aa sy;have:=aa HS4;have:=aa HS6;omega) (by have:=aa sy;have:=aa HS4;have:=aa HS6;omega)
    obtain ⟨g,SU⟩:∃g,pP.heap.size=g:=⟨_,rfl⟩
    rw[SU] at bo q1 q2 ⊢
    obtain ⟨c0,c1,c2,c3⟩:=eK bo
    have z:∀j,PT.frozen? ⟨g,j,none⟩=false:=fun j=>by simp[World.frozen?,bo]
    have z0:=z 0
    have z1:=z 1
    have z2:=z 2
    have z3:=z 3
    have Z':=aj q1
    have PG:=aj q2
    clear q1 q2
    go_simp
    refine hK _ _ ⟨fun _=>aa PG,?_⟩
    clear hK K
    refine bj (by kernel_rfl) ?_
    clear aX BP Px bo z z0 z1 z2 z3 c0 c1 c2 c3 SU PG
    go_wp2_with fail
    go_meet
    exact ⟨g,_,_,_,_,_,_,rfl,Z',Sf,O4⟩
  ·obtain ⟨qX,ez⟩:∃x,wd.alloc (.cells #[.string ⟨#[]⟩,.slice none 0 0,.slice none 0 0,.slice none 0 0] 26)=x:=⟨_,rfl⟩
   have ba:Below wd.heap.size wd qX:=by rw[←ez];exact (zE _ _).alloc (zD _) _
   have bo:qX.heap[wd.heap.size]?=some (.cells #[.string ⟨#[]⟩,.slice none 0 0,.slice none 0 0,.slice none 0 0] 26 (0,0)):=by rw[←ez];exact aC _ _
   have AX:=aj (show wd.heap.size<qX.heap.size by have:=(zA bo).1;omega)
   have HL:=aj aX.size
   go_simp
   have aX:=aX.trans (ba.mono aX.size)
   refine hK _ _ ⟨fun _=>aX,?_⟩
   clear hK K ez ba
   refine ay 2 (by kernel_rfl) rfl (fun K hK=>?_)
   refine aN 15 rfl rfl 16 (fun vs=>by kernel_rfl) #[.tmp 14,.const (.int .i64 0)] #[23,3] rfl #[.slice EU F.ms.length B9,.int .i64 0] (by first|rfl|simp[Act.eval]) (aa W8 qX aX) ?_
   rintro e' K3 ⟨⟨um,cs1,Qx,rfl,fp,Nb,M9,BJ⟩,ba⟩
   obtain ⟨am1,cm1,rfl⟩:=bn fp
   have BP:=ME fp Nb
   have Sf:=aj (And.intro M9 BJ)
   clear fp Nb M9 BJ
   have HS7:=aj ba.size
   have bo:=(ba.block _ (zA bo).1).trans bo
   have aX:=aX.trans (ba.mono aX.size)
   refine ⟨_,rfl,hK _ _ ⟨fun _=>aX,?_⟩⟩
   clear hK K ba
   simp only[Act.put,zL,zM,zN]
   refine ay 5 (by kernel_rfl) rfl (fun K hK=>?_)
   refine aN 18 rfl rfl 17 (fun vs=>by kernel_rfl) #[.tmp 17] #[24] rfl #[.slice Ey F.es.length AS] (by first|rfl|simp[Act.eval]) (aa Xa K3 aX) ?_
   rintro e' PS ⟨⟨ue,cs2,PC,rfl,ep,DU,DV,xN,mM⟩,ba⟩
   rw[←DV] at ep
   obtain ⟨ZK,ZF,rfl⟩:=bn ep
   have BP:=BP.up ba
   have Px:=FB ep DU
   have O4:=aj (And.intro xN mM)
   clear ep DU xN mM DV
   have HS8:=aj ba.size
   have bo:=(ba.block _ (zA bo).1).trans bo
   have aX:=aX.trans (ba.mono aX.size)
   refine ⟨_,rfl,hK _ _ ⟨fun _=>aX,?_⟩⟩
   clear hK K ba
   simp only[Act.put,zL,zM,zN]
   have hT:=aX
   refine ak 6 (.agg #[.string ⟨#[]⟩,.slice none 0 0,.slice am1 Qx.length cm1,.slice ZK PC.length ZF]) 19 rfl rfl (Or.inl ⟨by rfl,fun w' hw=>by go_simp⟩) hT ?_
   simp only[Act.put,zL,zM,zN]
   clear hT
   refine ay 8 (by kernel_rfl) rfl (fun K hK=>?_)
   obtain ⟨q1,q2⟩:=E3 (aa np).1 aX (aa np).2.1 (aa np).2.2.1 (aa np).2.2.2 (aa HL) bo BP Px (by have:=aa HL;have:=aa AX;have:=aa HS7;have:=aa HS8;have:=aX.size;have:=aa GB;omega) (by have:=aa AX;have:=aa HS7;have:=aa HS8;have:=aa GB;omega) (by have:=aa AX;have:=aa HS7;have:=aa HS8;omega) (by have:=aa AX;have:=aa HS7;have:=aa HS8;omega)
   obtain ⟨g,SU⟩:∃g,wd.heap.size=g:=⟨_,rfl⟩
   rw[SU] at bo q1 q2 ⊢
   obtain ⟨c0,c1,c2,c3⟩:=eK bo
   have z:∀j,PS.frozen? ⟨g,j,none⟩=false:=fun j=>by simp[World.frozen?,bo]
   have z0:=z 0
   have z1:=z 1
   have z2:=z 2
   have z3:=z 3
   have Z':=aj q1
   have PG:=aj q2
   clear q1 q2
   go_simp
   refine hK _ _ ⟨fun _=>aa PG,?_⟩
   clear hK K
   refine bj (by kernel_rfl) ?_
   clear aX BP Px bo z z0 z1 z2 z3 c0 c1 c2 c3 SU PG
   go_wp2_with fail
   go_meet
   exact ⟨g,_,_,_,_,_,_,rfl,Z',Sf,O4⟩
 case rest =>
  obtain ⟨g,ma,mc,ea,ec,ms,es,rfl,HJ,HOm,HOe⟩:=hcut
  obtain ⟨w2,ez⟩:∃x,x=wc:=⟨_,rfl⟩
  subst ez
  obtain ⟨cm,ce,hI⟩:=(aa HJ).box (aa HSp)
  obtain ⟨sa,sn,sc,rfl,-,-⟩:=id (aa HSp)
  obtain ⟨b,hb⟩:∃b,w2.heap.size=b:=⟨_,rfl⟩
  obtain ⟨W3,Q9⟩:∃x,w2.alloc (.cells #[.slice none 0 0,.slice sa sn sc,.int .i64 0,.int .i64 0,.int .i64 0] 56)=x:=⟨_,rfl⟩
  rw[hb,Q9] at hI
  have HI:=aj hI
  have Se:=aj ((hI.wa (aa HM) (aa HP)).aaE (by simp) jW P4 (by simp[jW]) _ Jd 4 (by simp[jW]))
  clear hI HJ W8 Xa iU np ET
  go_upto_region 3 with fail
  clear hb Q9
  go_wp2_with fail
  refine (aa Se).mono ?_
  rintro e w4 ⟨rfl,ha⟩
  obtain ⟨r1,XM,Uy,DS,U2⟩:=(aa HI).after ha
  rw[List.nil_append] at U2 Uy
  have qU:=aj U2
  have zt:Hid (XM.map Prod.fst=jW++[]∧XM.length≤10∧eU yN 32 [] 0 S3 S3):=⟨by rw[List.append_nil];exact Uy,by omega,eU.nil _⟩
  clear ha Uy DS U2 HI Se
  obtain ⟨x0,x1,x2,x3⟩:=eK (aa qU).fb
  go_upto_if 28 with fail
  go_cut [] (fun wx=>∃(r:Option Nat) (ps:List (Wd×List Nat)) (pk:ByteArray) (ws:List Wd),Hid (WI W wx #[.string F.eI,.slice Ky F.bM.length Kj,.slice EU F.ms.length B9,.slice Ey F.es.length AS] (W.heap.size+1) g b r (.slice sa sn sc) ps 0 pk (.slice none 0 0) (.slice ma ms.length mc) (.slice ea es.length ec) [] ms es cm ce)∧Hid (ps.map Prod.fst=jW++ws∧ps.length≤100∧eU yN 32 ws 0 S3 ⟨pk,[],[],[]⟩))
  case first =>
   obtain ⟨nb,YC⟩:∃x,(!F.eI.toList.isEmpty)=x:=⟨_,rfl⟩
   rw[YC]
   clear YC
   cases nb with
   |false =>
    go_wp2_with fail
    go_meet
    exact ⟨r1,XM,⟨#[]⟩,[],qU,(aa zt).1,by have:=(aa zt).2.1;omega,(aa zt).2.2⟩
   |true =>
    have HK:=aj (nL ((aa HM).up (aa qU).eL (aa HM).1) F.eI (aa HZ).pk)
    go_wp2_with fail
    refine (aa HK).mono ?_
    rintro e w5 ⟨⟨xs,Po,rfl⟩,kq⟩
    have oO:=aj ((aa qU).up kq)
    obtain ⟨y1,y2⟩:(iu xs).extract 1 (iu xs).size=jB xs∧(iu xs).size=(jB xs).size+1:=by
     cases xs with
     |nil=>exact absurd rfl Po.1
     |cons x l=>exact p8 x l
    have iU:=aj Po
    obtain ⟨pk,Ie⟩:∃pk,jB xs=pk:=⟨_,rfl⟩
    obtain ⟨ty,JZ⟩:∃ty,iu xs=ty:=⟨_,rfl⟩
    rw[Ie,JZ] at y1
    rw[Ie,JZ] at y2
    rw[y2] at y1
    rw[JZ]
    have HPk:=aj Ie
    have sB:=aj ((aa oO).eI pk)
    obtain ⟨c0,c1,c2,c3⟩:=(aa oO).cells
    have zf:w5.frozen? ⟨g,0,none⟩=false:=by simp[World.frozen?,(aa oO).gb]
    clear kq Po Ie JZ HK x0 x1 x2 x3
    go_upto_region 6 with fail
    obtain ⟨w6,JY⟩:∃x,w5.setCell ⟨g,0,none⟩ (.string pk)=x:=⟨_,rfl⟩
    rw[JY] at sB ⊢
    have GC:=aj (((aa sB).wa (aa HM) (aa HP)).put (by have:=(aa zt).2.1;omega) [(1,⟨#[112,97,99,107,97,103,101]⟩)] (fun x hx=>by rw[List.mem_singleton.1 hx];exact .inl ⟨rfl,TO⟩) (by simp) #[.string ⟨#[112,97,99,107,97,103,101]⟩] rfl 1 rfl)
    clear JY c0 c1 c2 c3 zf y1 y2 oO
    go_wp2_with fail
    refine (aa GC).mono ?_
    rintro e w7 ⟨rfl,ha⟩
    obtain ⟨_,_,_,_,hI7⟩:=(aa sB).after ha
    obtain ⟨c0,c1,c2,c3⟩:=hI7.cells
    have HP3:=aj (ha.names (by have:=(aa zt).2.1;omega) (aa iU) false pk (by rw[if_neg (by decide)];exact (aa HPk).symm))
    clear ha hI7 GC
    go_wp2_with fail
    refine (aa HP3).mono ?_
    rintro e w8 ⟨rfl,ha⟩
    have HP4:=aj (ha.yT (by have:=(aa zt).2.1;omega))
    clear ha HP3 c0 c1 c2 c3
    go_wp2_with fail
    refine (aa HP4).mono ?_
    rintro e w9 ⟨rfl,s,hs,ha⟩
    obtain ⟨r9,q9,oK,WC,NB⟩:=(aa sB).after ha
    have CE:=aj NB
    have HE9:Hid ((XM++q9).map Prod.fst=jW++((1,⟨#[112,97,99,107,97,103,101]⟩)::(nh xs++s))∧(XM++q9).length≤100∧eU yN 32 ((1,⟨#[112,97,99,107,97,103,101]⟩)::(nh xs++s)) 0 S3 ⟨pk,[],[],[]⟩):=by
     obtain ⟨e1,e2,e3⟩:=aa zt
     refine ⟨?_,by rw[zK];omega,?_⟩
     ·rw[List.map_append,e1,oK]
      simp[SD]
     ·have e4:=Vc (x:=S3) (K:=32) (aa iU) rfl
      rw[aa HPk] at e4
      rcases hs with rfl|rfl
      ·exact e4
      ·exact (e4.trans (Iq _ 32)).cast (by simp) rfl
    clear hs ha oK WC NB HP4
    go_wp2_with fail
    go_meet
    exact ⟨r9,_,pk,_,CE,HE9⟩
  case rest =>
   obtain ⟨r2,ps2,pk,ws2,oO,PJ⟩:=hcut
   obtain ⟨w5,EO⟩:∃x,x=wc:=⟨_,rfl⟩
   subst EO
   obtain ⟨j0,hj,XV,XU,XT⟩:=info_parts MV
   clear qU zt x0 x1 x2 x3
   go_wp2
   go_loopg [9,10] F.bM.length (fun gk v9 _ wr=>∃(i:Nat) (r:Option Nat) (ps:List (Wd×List Nat)) (ws:List Wd) (ui:Value) (is:List ByteArray),v9=.int .i64 (i:Int)∧gk=F.bM.length-i∧i≤F.bM.length∧Hid (is.length=i)∧Hid (WI W wr #[.string F.eI,.slice Ky F.bM.length Kj,.slice EU F.ms.length B9,.slice Ey F.es.length AS] (W.heap.size+1) g b r (.slice sa sn sc) ps i pk ui (.slice ma ms.length mc) (.slice ea es.length ec) is ms es cm ce)∧Hid (ps.map Prod.fst=jW++ws∧ps.length≤100+20*i∧eU yN 32 ws i S3 ⟨pk,is,[],[]⟩))
   case atStart=>exact ⟨0,r2,ps2,ws2,_,[],rfl,rfl,by omega,rfl,oO,(aa PJ).1,by have:=(aa PJ).2.1;omega,(aa PJ).2.2⟩
   case round =>
    clear oO PJ
    obtain ⟨i,r3,Qm,ws3,ui,is,rfl,fi,hi9,HLi,sB,O9⟩:=hrel
    have gA:=aj fi
    clear fi
    obtain ⟨ua,uc,rfl⟩:=bn (aa sB).iw.1
    obtain ⟨x0,x1,x2,x3⟩:=eK (aa sB).fb
    by_cases cw:i<F.bM.length
    ·obtain ⟨gi,oi,rfl,hgi,hci⟩:=aa HIm (by omega)
     obtain ⟨s,hs⟩:∃s,F.bM[i]?=some s:=⟨_,List.getElem?_eq_getElem cw⟩
     have y0:wr.cell? ⟨gi,oi+i,none⟩=some (.string s):=((aa sB).eL.cell (p:=⟨gi,oi+i,none⟩) hgi).trans (hci _ _ (jX _ _ _ hs))
     have bU:=(aa HZ).bM s (List.mem_of_getElem? hs)
     have HW:=aj (gg wr s (by omega))
     have i0:(0:Int)≤(i:Int):=zH _
     have i1:(i:Int)<(F.bM.length:Int):=by omega
     have dN:=aj cw
     have HNi:=aj (show i≤1048576 by have:=(aa HZ).il;omega)
     clear hci hs bU cw
     go_wp2_with fail
     refine (aa HW).mono ?_
     rintro e w6 ⟨⟨y,hy,rfl⟩,za⟩
     have O7:=aj ((aa sB).up za)
     have HY:=aj hy
     have hys:y.size≤30:=hy.2.2
     have HI5:=aj ((aa O7).up ((zE _ _).alloc (zD w6.heap.size) (.cells #[.string y] 9)))
     obtain ⟨c0,c1,c2,c3⟩:=(aa O7).cells
     clear hy za HW x0 x1 x2 x3 y0
     go_wp2_with (at_builtin;refine wpList_append_own_at _ rfl _ _ 22 rfl 0 9 j0 (.string ByteArray.empty) 1 16 Tryz.underlying22 hj XV XU XT rfl (by decide) _ _ _ rfl (aa HI5).iw.1 ⟨w6.heap.size,0,none⟩ 1 1 [.string y] rfl rfl (kr _ _ _) (by simp[Value.oneCell']) (by have:=aa HLi;have:=aa HNi;unfold maxLen;omega) (by have:=aa HLi;have:=aa HNi;omega) (Nat.zero_le _) ?_;intro v' w2 ho ej _ pS;obtain ⟨a4,c4,rfl⟩:=bn ho;obtain ⟨h1,h2,h3⟩:=(aa HI5).imp ej ho pS;have HI6:=aj h1;clear ho ej h1 pS)
     obtain ⟨w7,FK⟩:∃x,w2.setCell ⟨g,1,none⟩ (.slice a4 (is.length+1) c4)=x:=⟨_,rfl⟩
     rw[FK] at HI6 ⊢
     have GC:=aj (((aa HI6).wa (aa HM) (aa HP)).put (by have:=(aa O9).2.1;have:=aa HNi;omega) [(1,⟨#[105,109,112,111,114,116]⟩),(3,lit 34 y)] (fun x hx=>by
      simp only[List.mem_cons,List.not_mem_nil,or_false] at hx
      rcases hx with rfl|rfl
      ·exact .inl ⟨rfl,Um⟩
      ·exact .inr (.inr (.inl ⟨rfl,34,y,.inr rfl,aa HY,rfl⟩))) (by simp) #[.string ⟨#[105,109,112,111,114,116]⟩,.string ((⟨#[34]⟩++y)++⟨#[34]⟩)] rfl 2 rfl)
     rw[show w7.heap.size=w2.heap.size from by rw[←FK,World.size_setCell]] at GC
     clear FK c0 c1 c2 c3 h2 h3 O7 HI5
     go_wp2_with fail
     refine (aa GC).mono ?_
     rintro e w8 ⟨rfl,ha⟩
     have HP3:=aj (ha.yT (by have:=(aa O9).2.1;have:=aa HNi;omega))
     clear ha GC
     go_wp2_with fail
     refine (aa HP3).mono ?_
     rintro e w9 ⟨rfl,s2,FN,ha⟩
     obtain ⟨d0,d1⟩:=ha.cells
     have ha2:=ha.decl
     obtain ⟨r9,q9,oK,WC,NB⟩:=(aa HI6).after ha2
     have CE:=aj NB
     have iw1:IntKind.i64.wrap (((i+(0:Nat):Nat):Int)+1)=((i+(0:Nat):Nat):Int)+1:=by have:=aa HNi;rw[IntKind.wrap_i64];omega
     have HE9:Hid ((Qm++q9).map Prod.fst=jW++(ws3++((1,⟨#[105,109,112,111,114,116]⟩)::(3,lit 34 y)::s2))∧(Qm++q9).length≤100+20*(i+1)∧eU yN 32 (ws3++((1,⟨#[105,109,112,111,114,116]⟩)::(3,lit 34 y)::s2)) (i+1) S3 ⟨pk,is++[y],[],[]⟩):=by
      obtain ⟨e1,e2,e3⟩:=aa O9
      refine ⟨?_,by rw[zK];omega,?_⟩
      ·rw[List.map_append,e1,oK]
       simp
      ·have e4:=e3.trans (Ve (x:=⟨pk,is,[],[]⟩) (K:=32) (aa HY))
       rcases FN with rfl|rfl
       ·exact e4
       ·exact (e4.trans (Iq _ 32)).cast (by simp) rfl
     clear ha ha2 FN oK WC NB HP3 HI6 O9
     go_wp2
     go_roundg (F.bM.length-(i+1))
     case measure=>have:=aa gA;have:=aa dN;omega
     case rel=>exact ⟨i+1,r9,_,_,_,is++[y],by go_num,rfl,aa dN,by show (is++[y]).length=i+1;rw[zK,aa HLi];rfl,CE,HE9⟩
    ·obtain rfl:i=F.bM.length:=by omega
     obtain ⟨v1,v2,v3,v4⟩:=(aa sB).rows
     have hVg:=(aa sB).vgb
     have WQ:=(aa sB).wa (aa HM) (aa HP)
     have yH:=aj (show Qm.length≤30000000 by have:=(aa O9).2.1;have:=(aa HZ).il;omega)
     have HIl:=aj (aa HZ).il
     obtain ⟨W5,hW5⟩:∃x,x=wr:=⟨_,rfl⟩
     subst hW5
     obtain ⟨V,hV⟩:∃V,kA W5 b=V:=⟨_,rfl⟩
     rw[hV] at v1 v2 v3 v4 hVg WQ
     have HMr:=aj v1
     have HMs:=aj v2
     have HEr:=aj v3
     have HEs:=aj v4
     have HVg:=aj hVg
     have Pc:=aj WQ
     have pV:=aj (And.intro (Nat.le_trans (aa HOm).2 (aa HZ).mks) (Nat.le_trans (aa HOe).2 (aa HZ).ek))
     clear hV v1 v2 v3 v4 hVg WQ cw
     go_wp2
     clear x0 x1 x2 x3
     go_loopg [11] ms.length (fun gk v11 wr=>∃(j:Nat) (t:List Wd) (c:Nat),v11=.int .i64 (j:Int)∧gk=ms.length-j∧j≤ms.length∧c≤bI (By 30) (ms.take j)∧Hid (WA V b r3 (.slice sa sn sc) Qm F.bM.length W5 t (bI (ni 30) (ms.take j)) c wr)∧Hid (eU yN 32 t c ⟨pk,is,[],[]⟩ ⟨pk,is,ms.take j,[]⟩))
     case atStart=>exact ⟨0,[],0,rfl,rfl,by omega,Nat.zero_le _,aa Pc,eU.nil _⟩
     case round =>
      obtain ⟨j,t,c,rfl,kL,YM,lr,oC,Tl⟩:=hrel
      have oM:=aj kL
      clear kL Pc
      obtain ⟨c0,c1,c2,c3⟩:=eK (aa HVg wr (aa oC).we.below)
      by_cases cw:j<ms.length
      ·obtain ⟨m,hm⟩:∃m,ms[j]?=some m:=⟨_,List.getElem?_eq_getElem cw⟩
       obtain ⟨nm',fs',os',T2,Vo,rs',gs'⟩:=m
       obtain ⟨vf',vo',Xq,ve',Xp,Xr,PD,RP,⟨⟨y0,y1,y2,y3,y4,y5,y6⟩,g1,g2,g3,g4,g5,g6⟩,g7,g8⟩:=(aa HMs).rd j nm' fs' os' T2 Vo rs' gs' hm
       obtain ⟨aM,cM,eM,_,Zg⟩:=aa HMr
       obtain ⟨rfl,rfl⟩:ma=aM∧mc=cM:=by simpa using eM
       obtain ⟨gm,rfl,me,hc⟩:=Zg (by omega)
       have hb:=(aa oC).we.below
       have z0:=(hb.cell (p:=⟨gm,j*7,none⟩) me).trans (hc _ _ y0)
       have z1:=(hb.cell (p:=⟨gm,j*7+1,none⟩) me).trans (hc _ _ y1)
       have z2:=(hb.cell (p:=⟨gm,j*7+2,none⟩) me).trans (hc _ _ y2)
       have z3:=(hb.cell (p:=⟨gm,j*7+3,none⟩) me).trans (hc _ _ y3)
       have z4:=(hb.cell (p:=⟨gm,j*7+4,none⟩) me).trans (hc _ _ y4)
       have z5:=(hb.cell (p:=⟨gm,j*7+5,none⟩) me).trans (hc _ _ y5)
       have z6:=(hb.cell (p:=⟨gm,j*7+6,none⟩) me).trans (hc _ _ y6)
       have Aq:=(aa HOm).1 _ (List.mem_of_getElem? hm)
       have cB:=fA (ni 30) hm
       have Nn:=fA (By 30) hm
       have gE:=iO (ni 30) ms (j+1)
       have hle:=lQ (Mz (f:=30)) (ms.take (j+1))
       have HPm:=aj ((aa oC).message (sK 30) Aq g1 g2 g7 g8 g3 g4 g5 g6 (by have:=(aa pV).1;have:=aa yH;omega) (by have:=(aa pV).1;have:=aa HIl;omega))
       have yP:=aj (eD hm)
       have Z9:=aj (And.intro cB (And.intro Nn lr))
       have dN:=aj cw
       have j0':(0:Int)≤(j:Int):=zH _
       have j1':(j:Int)<(ms.length:Int):=by omega
       have hmL:ms.length≤1099511620000:=by
        have:=nw (ni 30) ms (fun x hx=>Hj ((aa HOm).1 x hx))
        have:=(aa pV).1
        omega
       clear hm y0 y1 y2 y3 y4 y5 y6 g1 g2 g3 g4 g5 g6 g7 g8 eM hc hb Aq cB Nn gE hle cw lr Zg
       go_wp2_with fail
       refine (aa HPm).mono ?_
       rintro e w6 ⟨rfl,t4,k4,SH,YL,ha⟩
       have EJ:=aj ha
       have CC:=aj SH
       have HC4:=aj YL
       clear HPm ha SH YL c0 c1 c2 c3 z0 z1 z2 z3 z4 z5 z6
       go_wp2
       go_roundg (ms.length-(j+1))
       case measure=>have:=aa oM;have:=aa dN;omega
       case rel =>
        refine ⟨j+1,t++t4,c+k4,by go_num,rfl,aa dN,by have:=aa Z9;have:=aa HC4;omega,(aa EJ).cast rfl (by have:=aa Z9;omega),?_⟩
        show eU yN 32 (t++t4) (c+k4) ⟨pk,is,[],[]⟩ ⟨pk,is,ms.take (j+1),[]⟩
        rw[aa yP]
        exact (aa Tl).trans (Vd (x:=⟨pk,is,ms.take j,[]⟩) (aa CC) (by decide) (by decide))
      ·obtain rfl:j=ms.length:=by omega
       rw[List.take_length] at lr
       have HE5:Hid (eU yN 32 t c ⟨pk,is,[],[]⟩ ⟨pk,is,ms,[]⟩):=by
        have:=aa Tl
        rw[List.take_length] at this
        exact this
       have EJ:Hid (WA V b r3 (.slice sa sn sc) Qm F.bM.length W5 t (bI (ni 30) ms) c wr):=(aa oC).cast rfl (by rw[List.take_length];omega)
       have hcD:=lQ (Mz (f:=30)) ms
       have HcB:=aj (show c≤104857600 by have:=(aa pV).1;omega)
       clear Tl oC lr cw hcD
       go_wp2
       clear c0 c1 c2 c3
       go_loopg [12] es.length (fun gk v12 wr=>∃(j:Nat) (u:List Wd),v12=.int .i64 (j:Int)∧gk=es.length-j∧j≤es.length∧Hid (WA V b r3 (.slice sa sn sc) Qm F.bM.length W5 (t++u) (bI (ni 30) ms+bI nQ (es.take j)) (c+bI pT (es.take j)) wr)∧Hid (eU yN 32 u (bI pT (es.take j)) ⟨pk,is,ms,[]⟩ ⟨pk,is,ms,es.take j⟩))
       case atStart=>exact ⟨0,[],rfl,rfl,by omega,(aa EJ).cast (by simp) (by show _≤_+0;omega),eU.nil _⟩
       case round =>
        obtain ⟨j,u,rfl,kL,YM,ta,Wc⟩:=hrel
        have oM:=aj kL
        clear kL EJ
        obtain ⟨c0,c1,c2,c3⟩:=eK (aa HVg wr (aa ta).we.below)
        by_cases cw:j<es.length
        ·obtain ⟨e9,he⟩:∃m,es[j]?=some m:=⟨_,List.getElem?_eq_getElem cw⟩
         obtain ⟨vv',Xp,Xr,⟨y0,y1,y2,y3⟩,g1,g2,g3⟩:=(aa HEs) j e9 he
         obtain ⟨aE,cE,eE,_,Zj⟩:=aa HEr
         obtain ⟨rfl,rfl⟩:ea=aE∧ec=cE:=by simpa using eE
         obtain ⟨gm,rfl,me,hc⟩:=Zj (by omega)
         have hb:=(aa ta).we.below
         have z0:=(hb.cell (p:=⟨gm,j*4,none⟩) me).trans (hc _ _ y0)
         have z1:=(hb.cell (p:=⟨gm,j*4+1,none⟩) me).trans (hc _ _ y1)
         have z2:=(hb.cell (p:=⟨gm,j*4+2,none⟩) me).trans (hc _ _ y2)
         have z3:=(hb.cell (p:=⟨gm,j*4+3,none⟩) me).trans (hc _ _ y3)
         have Aq:=(aa HOe).1 _ (List.mem_of_getElem? he)
         have cB:=fA nQ he
         have Nn:=fA pT he
         have gE:=iO nQ es (j+1)
         have hle:=lQ (fun x:En=>(by unfold pT nQ;omega:pT x≤nQ x)) (es.take (j+1))
         have HPm:=aj ((aa ta).enum Aq g1 g2 g3 (by have:=aa pV;have:=aa yH;omega) (by have:=aa pV;have:=aa HIl;have:=aa HcB;omega))
         have yP:=aj (eD he)
         have Z9:=aj (And.intro cB Nn)
         have dN:=aj cw
         have j0':(0:Int)≤(j:Int):=zH _
         have j1':(j:Int)<(es.length:Int):=by omega
         have heL:es.length≤1099511620000:=by
          have:=nw nQ es (fun x _=>IB x)
          have:=(aa pV).2
          omega
         clear he y0 y1 y2 y3 g1 g2 g3 eE hc hb Aq cB Nn gE hle cw Zj
         go_wp2_with fail
         refine (aa HPm).mono ?_
         rintro e w6 ⟨rfl,t6,Yh,ha⟩
         have KG:=aj ha
         have HT6:=aj Yh
         clear HPm ha Yh c0 c1 c2 c3 z0 z1 z2 z3
         go_wp2
         go_roundg (es.length-(j+1))
         case measure=>have:=aa oM;have:=aa dN;omega
         case rel =>
          refine ⟨j+1,u++t6,by go_num,rfl,aa dN,?_,?_⟩
          ·have:=(aa KG).cast (t':=t++(u++t6)) (n':=bI (ni 30) ms+bI nQ (es.take (j+1))) (by simp) (by have:=aa Z9;omega)
           exact this.decl_eq (by have:=aa Z9;omega)
          ·show eU yN 32 (u++t6) (bI pT (es.take (j+1))) ⟨pk,is,ms,[]⟩ ⟨pk,is,ms,es.take (j+1)⟩
           rw[aa yP,kB]
           exact (aa Wc).trans ((Ri (K:=32) (x:=⟨pk,is,ms,es.take j⟩) (aa HT6)).cast rfl rfl)
        ·obtain rfl:j=es.length:=by omega
         obtain ⟨r9,q9,oK,WC,NB⟩:=(aa sB).after (aa ta)
         rw[List.take_length] at WC NB
         have Tj:Hid ((Qm++q9).map Prod.fst=jW++(ws3++(t++u))∧eU yN 32 (ws3++(t++u)) (F.bM.length+(c+bI pT es)) S3 ⟨pk,is,ms,es⟩):=by
          obtain ⟨e1,e2,e3⟩:=aa O9
          have e6:=aa Wc
          rw[List.take_length] at e6
          exact ⟨by rw[List.map_append,e1,oK];simp,e3.trans ((aa HE5).trans e6)⟩
         have hDB:=lQ (fun x:En=>(by unfold pT nQ;omega:pT x≤nQ x)) es
         have HDB:=aj (show F.bM.length+(c+bI pT es)≤400000000∧(Qm++q9).length≤400000000 by rw[zK];have:=aa pV;have:=aa HcB;have:=aa HIl;have:=aa yH;omega)
         obtain ⟨Dn,hDn⟩:∃x,F.bM.length+(c+bI pT es)=x:=⟨_,rfl⟩
         rw[hDn] at NB Tj HDB
         obtain ⟨Ql,Yt⟩:∃x,Qm++q9=x:=⟨_,rfl⟩
         rw[Yt] at NB Tj HDB
         have CE:=aj NB
         clear oK WC NB hDB hDn Yt ta Wc O9 sB HE5 cw
         go_upto_region 25 with fail
         clear c0 c1 c2 c3
         obtain ⟨v9,hv9,Pv,ho9⟩:=(aa CE).wr.dJ
         obtain ⟨Sy,Sw,rfl⟩:=bn ho9
         have Yl:=(aa CE).wr.ok
         have FR:KI (j5 Ql):=fun x hx=>by have:=qn _ Yl x hx;omega
         obtain ⟨bs,US⟩:∃x,j5 Ql=x:=⟨_,rfl⟩
         rw[US] at Pv ho9 FR
         have Xi:=aj US
         have Xh:=aj FR
         obtain ⟨o1,o2,o3,o4⟩:=(aa CE).ord
         obtain ⟨N9,hN9⟩:∃x,Ql.length=x:=⟨_,rfl⟩
         have HN9:=aj hN9
         rw[hN9] at Pv
         have hT0:PE g b #[.string pk,.slice ua is.length uc,.slice ma ms.length mc,.slice ea es.length ec] (.slice Sy bs.length Sw) (.slice sa sn sc) N9 Dn bs wr:=⟨(aa CE).gb,Pv,ho9⟩
         have KU:=aj (And.intro (aa CE).qb (show W.heap.size+1≠g∧W.heap.size+1≠b∧W.heap.size+1<b+1 by omega))
         have yQ:=aj hT0
         clear hT0 hv9 Pv ho9 Yl FR US o1 o2 o3 o4 hN9
         by_cases k1:Dn≤4096
         ·have f1:decide ((Dn:Int)≤4096)=true:=by simp;omega
          by_cases k2:N9<16384
          ·have f2:decide ((N9:Int)<16384)=true:=by simp;omega
           obtain ⟨Zt,h3⟩:∃x,decide ((bs.length:Int)≤65536)=x:=⟨_,rfl⟩
           have GF:=aj (show Dn≤4096∧N9<16384∧(decide (bs.length≤65536))=Zt from ⟨k1,k2,by rw[←h3];congr 1;simp;omega⟩)
           clear k1 k2
           refine wp_region_any (by kernel_rfl) (cj (z:=99) (T:=PE g b #[.string pk,.slice ua is.length uc,.slice ma ms.length mc,.slice ea es.length ec] (.slice Sy bs.length Sw) (.slice sa sn sc) N9 Dn bs) _ _ _ _ ?_)
           try (change cW _ _ _ _ _ _ _ _ _ (World.drew _))
           have hT:=(aa yQ).drew
           obtain ⟨wd,iZ⟩:∃x,wr.drew=x:=⟨_,rfl⟩
           have Ib:wd.heap[W.heap.size+1]?=some (.cells fz 26 (0,0)):=by rw[←iZ];exact (aa KU).1
           have Ij:Below W.heap.size W wd:=by rw[←iZ];exact below_drewN (aa CE).eL 1
           have SJ:wd.heap=wr.heap:=by rw[←iZ];rfl
           rw[iZ] at hT ⊢
           refine ak 0 (.agg #[.string pk,.slice ua is.length uc,.slice ma ms.length mc,.slice ea es.length ec]) 105 rfl rfl (Or.inl ⟨by rfl,fun w' hw=>by obtain ⟨tg,tb,t7⟩:=hw;obtain ⟨t0,t1,t2,t3⟩:=eK tg;obtain ⟨t4,t5,t6⟩:=aQ tb;go_simp⟩) hT ?_
           simp only[Act.put,zL,zM,zN]
           refine ak 1 (.pointer (some ⟨b,0,none⟩)) 106 rfl rfl (Or.inl ⟨by rfl,fun w' hw=>by obtain ⟨tg,tb,t7⟩:=hw;obtain ⟨t0,t1,t2,t3⟩:=eK tg;obtain ⟨t4,t5,t6⟩:=aQ tb;go_simp⟩) hT ?_
           simp only[Act.put,zL,zM,zN]
           refine ak 2 (.pointer (some ⟨b,0,none⟩)) 107 rfl rfl (Or.inl ⟨by rfl,fun w' hw=>by obtain ⟨tg,tb,t7⟩:=hw;obtain ⟨t0,t1,t2,t3⟩:=eK tg;obtain ⟨t4,t5,t6⟩:=aQ tb;go_simp⟩) hT ?_
           simp only[Act.put,zL,zM,zN]
           refine ak 3 (.pointer (some ⟨b,0,none⟩)) 108 rfl rfl (Or.inl ⟨by rfl,fun w' hw=>by obtain ⟨tg,tb,t7⟩:=hw;obtain ⟨t0,t1,t2,t3⟩:=eK tg;obtain ⟨t4,t5,t6⟩:=aQ tb;go_simp⟩) hT ?_
           simp only[Act.put,zL,zM,zN]
           refine ak 4 (.slice Sy bs.length Sw) 109 rfl rfl (Or.inl ⟨by rfl,fun w' hw=>by obtain ⟨tg,tb,t7⟩:=hw;obtain ⟨t0,t1,t2,t3⟩:=eK tg;obtain ⟨t4,t5,t6⟩:=aQ tb;go_simp⟩) hT ?_
           simp only[Act.put,zL,zM,zN]
           refine ak 5 (.string (ti bs)) 110 rfl rfl (Or.inl ⟨by rfl,fun w' hw=>by obtain ⟨tg,tb,t7⟩:=hw;obtain ⟨t0,t1,t2,t3⟩:=eK tg;obtain ⟨t4,t5,t6⟩:=aQ tb;have FQ:=nS t7.has (aa Xh);go_simp⟩) hT ?_
           simp only[Act.put,zL,zM,zN]
           refine ak 6 (.pointer (some ⟨b,0,none⟩)) 111 rfl rfl (Or.inl ⟨by rfl,fun w' hw=>by obtain ⟨tg,tb,t7⟩:=hw;obtain ⟨t0,t1,t2,t3⟩:=eK tg;obtain ⟨t4,t5,t6⟩:=aQ tb;go_simp⟩) hT ?_
           simp only[Act.put,zL,zM,zN]
           refine ak 7 (.pointer (some ⟨b,0,none⟩)) 112 rfl rfl (Or.inl ⟨by rfl,fun w' hw=>by obtain ⟨tg,tb,t7⟩:=hw;obtain ⟨t0,t1,t2,t3⟩:=eK tg;obtain ⟨t4,t5,t6⟩:=aQ tb;go_simp⟩) hT ?_
           simp only[Act.put,zL,zM,zN]
           refine ak 8 (.pointer (some ⟨b,3,none⟩)) 113 rfl rfl (Or.inl ⟨by rfl,fun w' hw=>by obtain ⟨tg,tb,t7⟩:=hw;obtain ⟨t0,t1,t2,t3⟩:=eK tg;obtain ⟨t4,t5,t6⟩:=aQ tb;go_simp⟩) hT ?_
           simp only[Act.put,zL,zM,zN]
           refine ak 9 (.int .i64 (Dn:Int)) 114 rfl rfl (Or.inl ⟨by rfl,fun w' hw=>by obtain ⟨tg,tb,t7⟩:=hw;obtain ⟨t0,t1,t2,t3⟩:=eK tg;obtain ⟨t4,t5,t6⟩:=aQ tb;go_simp⟩) hT ?_
           simp only[Act.put,zL,zM,zN]
           refine ak 10 (.bool true) 115 rfl rfl (Or.inl ⟨by rfl,fun w' hw=>by obtain ⟨tg,tb,t7⟩:=hw;obtain ⟨t0,t1,t2,t3⟩:=eK tg;obtain ⟨t4,t5,t6⟩:=aQ tb;go_simp⟩) hT ?_
           simp only[Act.put,zL,zM,zN]
           refine ak 11 (.bool true) 116 rfl rfl (Or.inl ⟨by rfl,fun w' hw=>by obtain ⟨tg,tb,t7⟩:=hw;obtain ⟨t0,t1,t2,t3⟩:=eK tg;obtain ⟨t4,t5,t6⟩:=aQ tb;go_simp⟩) hT ?_
           simp only[Act.put,zL,zM,zN]
           refine ak 12 (.pointer (some ⟨b,0,none⟩)) 117 rfl rfl (Or.inl ⟨by rfl,fun w' hw=>by obtain ⟨tg,tb,t7⟩:=hw;obtain ⟨t0,t1,t2,t3⟩:=eK tg;obtain ⟨t4,t5,t6⟩:=aQ tb;go_simp⟩) hT ?_
           simp only[Act.put,zL,zM,zN]
           refine ak 13 (.pointer (some ⟨b,0,none⟩)) 118 rfl rfl (Or.inl ⟨by rfl,fun w' hw=>by obtain ⟨tg,tb,t7⟩:=hw;obtain ⟨t0,t1,t2,t3⟩:=eK tg;obtain ⟨t4,t5,t6⟩:=aQ tb;go_simp⟩) hT ?_
           simp only[Act.put,zL,zM,zN]
           refine ak 14 (.pointer (some ⟨b,4,none⟩)) 119 rfl rfl (Or.inl ⟨by rfl,fun w' hw=>by obtain ⟨tg,tb,t7⟩:=hw;obtain ⟨t0,t1,t2,t3⟩:=eK tg;obtain ⟨t4,t5,t6⟩:=aQ tb;go_simp⟩) hT ?_
           simp only[Act.put,zL,zM,zN]
           refine ak 15 (.int .i64 (N9:Int)) 120 rfl rfl (Or.inl ⟨by rfl,fun w' hw=>by obtain ⟨tg,tb,t7⟩:=hw;obtain ⟨t0,t1,t2,t3⟩:=eK tg;obtain ⟨t4,t5,t6⟩:=aQ tb;go_simp⟩) hT ?_
           simp only[Act.put,zL,zM,zN]
           refine ak 16 (.bool true) 121 rfl rfl (Or.inl ⟨by rfl,fun w' hw=>by obtain ⟨tg,tb,t7⟩:=hw;obtain ⟨t0,t1,t2,t3⟩:=eK tg;obtain ⟨t4,t5,t6⟩:=aQ tb;go_simp⟩) hT ?_
           simp only[Act.put,zL,zM,zN]
           refine ak 17 (.bool true) 122 rfl rfl (Or.inl ⟨by rfl,fun w' hw=>by obtain ⟨tg,tb,t7⟩:=hw;obtain ⟨t0,t1,t2,t3⟩:=eK tg;obtain ⟨t4,t5,t6⟩:=aQ tb;go_simp⟩) hT ?_
           simp only[Act.put,zL,zM,zN]
           refine ak 18 (.bool true) 123 rfl rfl (Or.inl ⟨by rfl,fun w' hw=>by obtain ⟨tg,tb,t7⟩:=hw;obtain ⟨t0,t1,t2,t3⟩:=eK tg;obtain ⟨t4,t5,t6⟩:=aQ tb;go_simp⟩) hT ?_
           simp only[Act.put,zL,zM,zN]
           refine ak 19 (.pointer (some ⟨b,0,none⟩)) 124 rfl rfl (Or.inl ⟨by rfl,fun w' hw=>by obtain ⟨tg,tb,t7⟩:=hw;obtain ⟨t0,t1,t2,t3⟩:=eK tg;obtain ⟨t4,t5,t6⟩:=aQ tb;go_simp⟩) hT ?_
           simp only[Act.put,zL,zM,zN]
           refine ak 20 (.pointer (some ⟨b,0,none⟩)) 125 rfl rfl (Or.inl ⟨by rfl,fun w' hw=>by obtain ⟨tg,tb,t7⟩:=hw;obtain ⟨t0,t1,t2,t3⟩:=eK tg;obtain ⟨t4,t5,t6⟩:=aQ tb;go_simp⟩) hT ?_
           simp only[Act.put,zL,zM,zN]
           refine ak 21 (.pointer (some ⟨b,0,none⟩)) 126 rfl rfl (Or.inl ⟨by rfl,fun w' hw=>by obtain ⟨tg,tb,t7⟩:=hw;obtain ⟨t0,t1,t2,t3⟩:=eK tg;obtain ⟨t4,t5,t6⟩:=aQ tb;go_simp⟩) hT ?_
           simp only[Act.put,zL,zM,zN]
           refine ak 22 (.slice Sy bs.length Sw) 127 rfl rfl (Or.inl ⟨by rfl,fun w' hw=>by obtain ⟨tg,tb,t7⟩:=hw;obtain ⟨t0,t1,t2,t3⟩:=eK tg;obtain ⟨t4,t5,t6⟩:=aQ tb;go_simp⟩) hT ?_
           simp only[Act.put,zL,zM,zN]
           refine ak 23 (.int .i64 (bs.length:Int)) 128 rfl rfl (Or.inl ⟨by rfl,fun w' hw=>by obtain ⟨tg,tb,t7⟩:=hw;obtain ⟨t0,t1,t2,t3⟩:=eK tg;obtain ⟨t4,t5,t6⟩:=aQ tb;go_simp⟩) hT ?_
           simp only[Act.put,zL,zM,zN]
           refine ak 24 (.bool Zt) 129 rfl rfl (Or.inl ⟨by rfl,fun w' hw=>by obtain ⟨tg,tb,t7⟩:=hw;obtain ⟨t0,t1,t2,t3⟩:=eK tg;obtain ⟨t4,t5,t6⟩:=aQ tb;go_simp⟩) hT ?_
           simp only[Act.put,zL,zM,zN]
           refine ak 25 (.bool Zt) 130 rfl rfl (Or.inl ⟨by rfl,fun w' hw=>by obtain ⟨tg,tb,t7⟩:=hw;obtain ⟨t0,t1,t2,t3⟩:=eK tg;obtain ⟨t4,t5,t6⟩:=aQ tb;go_simp⟩) hT ?_
           simp only[Act.put,zL,zM,zN]
           have DT:∀j,wd.frozen? ⟨W.heap.size+1,j,none⟩=false:=fun j=>by simp[World.frozen?,Ib]
           obtain ⟨p0,p1,p2,p3⟩:=eK Ib
           have Zx:=DT 0
           have Zw:=DT 1
           have Zv:=DT 2
           have Zu:=DT 3
           obtain ⟨s1,s2⟩:=fW Ib (.string pk) (.slice ua is.length uc) (.slice ma ms.length mc) (.slice ea es.length ec)
           unfold gp at s1 s2
           have jr:=hT.off s2 (aa KU).2.1 (aa KU).2.2.1 (aa KU).2.2.2
           have kY:=aj ((aa CE).out SJ s2 Ij)
           refine ay 26 (by kernel_rfl) rfl (fun K hK=>?_)
           go_simp
           refine hK _ _ ⟨fun _=>jr,?_⟩
           clear hK K hT
           refine ay 27 (by kernel_rfl) rfl (fun K hK=>?_)
           go_simp
           refine hK _ _ ⟨fun _=>jr,?_⟩
           clear hK K
           refine ay 28 (by kernel_rfl) rfl (fun K hK=>?_)
           go_simp
           refine hK _ _ ⟨fun _=>jr,?_⟩
           clear hK K jr
           refine bj (by kernel_rfl) ?_
           have M6:Hid (RY W (.returned (.tuple #[.agg #[.string pk,.slice ua is.length uc,.slice ma ms.length mc,.slice ea es.length ec],.string (ti bs),.bool Zt])) ((((wd.setCell ⟨W.heap.size+1,0,none⟩ (.string pk)).setCell ⟨W.heap.size+1,1,none⟩ (.slice ua is.length uc)).setCell ⟨W.heap.size+1,2,none⟩ (.slice ma ms.length mc)).setCell ⟨W.heap.size+1,3,none⟩ (.slice ea es.length ec))):=by
            have Ps:(decide (Dn≤4096)&&decide (Ql.length<16384)&&decide ((ti bs).size≤65536))=Zt:=by
             rw[jg,aa HN9]
             obtain ⟨k1,k2,k3⟩:=aa GF
             rw[decide_eq_true k1,decide_eq_true k2,k3]
             rfl
            refine ⟨⟨pk,is,ms,es⟩,_,_,_,ti bs,Ql,Dn,_,?_,(aa kY).1,(aa Tj).1,(aa Tj).2,(aa CE).wr.ok,?_,(aa kY).2⟩
            ·rw[Ps]
            ·rw[qc (aa Xh)]
             exact (aa Xi).symm
           obtain ⟨e0,e1,e2,e3⟩:=eK s1
           clear s2 kY Ib DT Zx Zw Zv Zu p0 p1 p2 p3 Ij SJ
           go_wp2
           exact bodyPost_ret (nE (p:=4) (q:=5) (r:=6) rfl _ _ (W.heap.size+1) 26 #[.string pk,.slice ua is.length uc,.slice ma ms.length mc,.slice ea es.length ec] (0,0) _ rfl s1 Tryz.underlying26 rfl py) rfl (aa M6)
          ·have f2:decide ((N9:Int)<16384)=false:=by simp;omega
           have GF:=aj k2
           clear k1 k2
           refine wp_region_any (by kernel_rfl) (cj (z:=99) (T:=PE g b #[.string pk,.slice ua is.length uc,.slice ma ms.length mc,.slice ea es.length ec] (.slice Sy bs.length Sw) (.slice sa sn sc) N9 Dn bs) _ _ _ _ ?_)
           try (change cW _ _ _ _ _ _ _ _ _ (World.drew _))
           have hT:=(aa yQ).drew
           obtain ⟨wd,iZ⟩:∃x,wr.drew=x:=⟨_,rfl⟩
           have Ib:wd.heap[W.heap.size+1]?=some (.cells fz 26 (0,0)):=by rw[←iZ];exact (aa KU).1
           have Ij:Below W.heap.size W wd:=by rw[←iZ];exact below_drewN (aa CE).eL 1
           have SJ:wd.heap=wr.heap:=by rw[←iZ];rfl
           rw[iZ] at hT ⊢
           refine ak 0 (.agg #[.string pk,.slice ua is.length uc,.slice ma ms.length mc,.slice ea es.length ec]) 105 rfl rfl (Or.inl ⟨by rfl,fun w' hw=>by obtain ⟨tg,tb,t7⟩:=hw;obtain ⟨t0,t1,t2,t3⟩:=eK tg;obtain ⟨t4,t5,t6⟩:=aQ tb;go_simp⟩) hT ?_
           simp only[Act.put,zL,zM,zN]
           refine ak 1 (.pointer (some ⟨b,0,none⟩)) 106 rfl rfl (Or.inl ⟨by rfl,fun w' hw=>by obtain ⟨tg,tb,t7⟩:=hw;obtain ⟨t0,t1,t2,t3⟩:=eK tg;obtain ⟨t4,t5,t6⟩:=aQ tb;go_simp⟩) hT ?_
           simp only[Act.put,zL,zM,zN]
           refine ak 2 (.pointer (some ⟨b,0,none⟩)) 107 rfl rfl (Or.inl ⟨by rfl,fun w' hw=>by obtain ⟨tg,tb,t7⟩:=hw;obtain ⟨t0,t1,t2,t3⟩:=eK tg;obtain ⟨t4,t5,t6⟩:=aQ tb;go_simp⟩) hT ?_
           simp only[Act.put,zL,zM,zN]
           refine ak 3 (.pointer (some ⟨b,0,none⟩)) 108 rfl rfl (Or.inl ⟨by rfl,fun w' hw=>by obtain ⟨tg,tb,t7⟩:=hw;obtain ⟨t0,t1,t2,t3⟩:=eK tg;obtain ⟨t4,t5,t6⟩:=aQ tb;go_simp⟩) hT ?_
           simp only[Act.put,zL,zM,zN]
           refine ak 4 (.slice Sy bs.length Sw) 109 rfl rfl (Or.inl ⟨by rfl,fun w' hw=>by obtain ⟨tg,tb,t7⟩:=hw;obtain ⟨t0,t1,t2,t3⟩:=eK tg;obtain ⟨t4,t5,t6⟩:=aQ tb;go_simp⟩) hT ?_
           simp only[Act.put,zL,zM,zN]
           refine ak 5 (.string (ti bs)) 110 rfl rfl (Or.inl ⟨by rfl,fun w' hw=>by obtain ⟨tg,tb,t7⟩:=hw;obtain ⟨t0,t1,t2,t3⟩:=eK tg;obtain ⟨t4,t5,t6⟩:=aQ tb;have FQ:=nS t7.has (aa Xh);go_simp⟩) hT ?_
           simp only[Act.put,zL,zM,zN]
           refine ak 6 (.pointer (some ⟨b,0,none⟩)) 111 rfl rfl (Or.inl ⟨by rfl,fun w' hw=>by obtain ⟨tg,tb,t7⟩:=hw;obtain ⟨t0,t1,t2,t3⟩:=eK tg;obtain ⟨t4,t5,t6⟩:=aQ tb;go_simp⟩) hT ?_
           simp only[Act.put,zL,zM,zN]
           refine ak 7 (.pointer (some ⟨b,0,none⟩)) 112 rfl rfl (Or.inl ⟨by rfl,fun w' hw=>by obtain ⟨tg,tb,t7⟩:=hw;obtain ⟨t0,t1,t2,t3⟩:=eK tg;obtain ⟨t4,t5,t6⟩:=aQ tb;go_simp⟩) hT ?_
           simp only[Act.put,zL,zM,zN]
           refine ak 8 (.pointer (some ⟨b,3,none⟩)) 113 rfl rfl (Or.inl ⟨by rfl,fun w' hw=>by obtain ⟨tg,tb,t7⟩:=hw;obtain ⟨t0,t1,t2,t3⟩:=eK tg;obtain ⟨t4,t5,t6⟩:=aQ tb;go_simp⟩) hT ?_
           simp only[Act.put,zL,zM,zN]
           refine ak 9 (.int .i64 (Dn:Int)) 114 rfl rfl (Or.inl ⟨by rfl,fun w' hw=>by obtain ⟨tg,tb,t7⟩:=hw;obtain ⟨t0,t1,t2,t3⟩:=eK tg;obtain ⟨t4,t5,t6⟩:=aQ tb;go_simp⟩) hT ?_
           simp only[Act.put,zL,zM,zN]
           refine ak 10 (.bool true) 115 rfl rfl (Or.inl ⟨by rfl,fun w' hw=>by obtain ⟨tg,tb,t7⟩:=hw;obtain ⟨t0,t1,t2,t3⟩:=eK tg;obtain ⟨t4,t5,t6⟩:=aQ tb;go_simp⟩) hT ?_
           simp only[Act.put,zL,zM,zN]
           refine ak 11 (.bool true) 116 rfl rfl (Or.inl ⟨by rfl,fun w' hw=>by obtain ⟨tg,tb,t7⟩:=hw;obtain ⟨t0,t1,t2,t3⟩:=eK tg;obtain ⟨t4,t5,t6⟩:=aQ tb;go_simp⟩) hT ?_
           simp only[Act.put,zL,zM,zN]
           refine ak 12 (.pointer (some ⟨b,0,none⟩)) 117 rfl rfl (Or.inl ⟨by rfl,fun w' hw=>by obtain ⟨tg,tb,t7⟩:=hw;obtain ⟨t0,t1,t2,t3⟩:=eK tg;obtain ⟨t4,t5,t6⟩:=aQ tb;go_simp⟩) hT ?_
           simp only[Act.put,zL,zM,zN]
           refine ak 13 (.pointer (some ⟨b,0,none⟩)) 118 rfl rfl (Or.inl ⟨by rfl,fun w' hw=>by obtain ⟨tg,tb,t7⟩:=hw;obtain ⟨t0,t1,t2,t3⟩:=eK tg;obtain ⟨t4,t5,t6⟩:=aQ tb;go_simp⟩) hT ?_
           simp only[Act.put,zL,zM,zN]
           refine ak 14 (.pointer (some ⟨b,4,none⟩)) 119 rfl rfl (Or.inl ⟨by rfl,fun w' hw=>by obtain ⟨tg,tb,t7⟩:=hw;obtain ⟨t0,t1,t2,t3⟩:=eK tg;obtain ⟨t4,t5,t6⟩:=aQ tb;go_simp⟩) hT ?_
           simp only[Act.put,zL,zM,zN]
           refine ak 15 (.int .i64 (N9:Int)) 120 rfl rfl (Or.inl ⟨by rfl,fun w' hw=>by obtain ⟨tg,tb,t7⟩:=hw;obtain ⟨t0,t1,t2,t3⟩:=eK tg;obtain ⟨t4,t5,t6⟩:=aQ tb;go_simp⟩) hT ?_
           simp only[Act.put,zL,zM,zN]
           refine ak 16 (.bool false) 121 rfl rfl (Or.inl ⟨by rfl,fun w' hw=>by obtain ⟨tg,tb,t7⟩:=hw;obtain ⟨t0,t1,t2,t3⟩:=eK tg;obtain ⟨t4,t5,t6⟩:=aQ tb;go_simp⟩) hT ?_
           simp only[Act.put,zL,zM,zN]
           refine ak 17 (.bool false) 122 rfl rfl (Or.inl ⟨by rfl,fun w' hw=>by obtain ⟨tg,tb,t7⟩:=hw;obtain ⟨t0,t1,t2,t3⟩:=eK tg;obtain ⟨t4,t5,t6⟩:=aQ tb;go_simp⟩) hT ?_
           simp only[Act.put,zL,zM,zN]
           refine ak 18 (.bool false) 123 rfl rfl (Or.inl ⟨by rfl,fun w' hw=>by obtain ⟨tg,tb,t7⟩:=hw;obtain ⟨t0,t1,t2,t3⟩:=eK tg;obtain ⟨t4,t5,t6⟩:=aQ tb;go_simp⟩) hT ?_
           simp only[Act.put,zL,zM,zN]
           refine ak 19 undef 124 rfl rfl (Or.inr ⟨by rfl,rfl⟩) hT ?_
           simp only[Act.put,zL,zM,zN]
           refine ak 20 undef 125 rfl rfl (Or.inr ⟨by rfl,rfl⟩) hT ?_
           simp only[Act.put,zL,zM,zN]
           refine ak 21 undef 126 rfl rfl (Or.inr ⟨by rfl,rfl⟩) hT ?_
           simp only[Act.put,zL,zM,zN]
           refine ak 22 undef 127 rfl rfl (Or.inr ⟨by rfl,rfl⟩) hT ?_
           simp only[Act.put,zL,zM,zN]
           refine ak 23 undef 128 rfl rfl (Or.inr ⟨by rfl,rfl⟩) hT ?_
           simp only[Act.put,zL,zM,zN]
           refine ak 24 undef 129 rfl rfl (Or.inr ⟨by rfl,rfl⟩) hT ?_
           simp only[Act.put,zL,zM,zN]
           refine ak 25 (.bool false) 130 rfl rfl (Or.inl ⟨by rfl,fun w' hw=>by obtain ⟨tg,tb,t7⟩:=hw;obtain ⟨t0,t1,t2,t3⟩:=eK tg;obtain ⟨t4,t5,t6⟩:=aQ tb;go_simp⟩) hT ?_
           simp only[Act.put,zL,zM,zN]
           have DT:∀j,wd.frozen? ⟨W.heap.size+1,j,none⟩=false:=fun j=>by simp[World.frozen?,Ib]
           obtain ⟨p0,p1,p2,p3⟩:=eK Ib
           have Zx:=DT 0
           have Zw:=DT 1
           have Zv:=DT 2
           have Zu:=DT 3
           obtain ⟨s1,s2⟩:=fW Ib (.string pk) (.slice ua is.length uc) (.slice ma ms.length mc) (.slice ea es.length ec)
           unfold gp at s1 s2
           have jr:=hT.off s2 (aa KU).2.1 (aa KU).2.2.1 (aa KU).2.2.2
           have kY:=aj ((aa CE).out SJ s2 Ij)
           refine ay 26 (by kernel_rfl) rfl (fun K hK=>?_)
           go_simp
           refine hK _ _ ⟨fun _=>jr,?_⟩
           clear hK K hT
           refine ay 27 (by kernel_rfl) rfl (fun K hK=>?_)
           go_simp
           refine hK _ _ ⟨fun _=>jr,?_⟩
           clear hK K
           refine ay 28 (by kernel_rfl) rfl (fun K hK=>?_)
           go_simp
           refine hK _ _ ⟨fun _=>jr,?_⟩
           clear hK K jr
           refine bj (by kernel_rfl) ?_
           have M6:Hid (RY W (.returned (.tuple #[.agg #[.string pk,.slice ua is.length uc,.slice ma ms.length mc,.slice ea es.length ec],.string (ti bs),.bool false])) ((((wd.setCell ⟨W.heap.size+1,0,none⟩ (.string pk)).setCell ⟨W.heap.size+1,1,none⟩ (.slice ua is.length uc)).setCell ⟨W.heap.size+1,2,none⟩ (.slice ma ms.length mc)).setCell ⟨W.heap.size+1,3,none⟩ (.slice ea es.length ec))):=by
            have Ps:(decide (Dn≤4096)&&decide (Ql.length<16384)&&decide ((ti bs).size≤65536))=false:=by
             rw[jg,aa HN9]
             rw[decide_eq_false (aa GF),Bool.and_false,Bool.false_and]
            refine ⟨⟨pk,is,ms,es⟩,_,_,_,ti bs,Ql,Dn,_,?_,(aa kY).1,(aa Tj).1,(aa Tj).2,(aa CE).wr.ok,?_,(aa kY).2⟩
            ·rw[Ps]
            ·rw[qc (aa Xh)]
             exact (aa Xi).symm
           obtain ⟨e0,e1,e2,e3⟩:=eK s1
           clear s2 kY Ib DT Zx Zw Zv Zu p0 p1 p2 p3 Ij SJ
           go_wp2
           exact bodyPost_ret (nE (p:=4) (q:=5) (r:=6) rfl _ _ (W.heap.size+1) 26 #[.string pk,.slice ua is.length uc,.slice ma ms.length mc,.slice ea es.length ec] (0,0) _ rfl s1 Tryz.underlying26 rfl py) rfl (aa M6)
         ·have f1:decide ((Dn:Int)≤4096)=false:=by simp;omega
          have GF:=aj k1
          clear k1
          refine wp_region_any (by kernel_rfl) (cj (z:=99) (T:=PE g b #[.string pk,.slice ua is.length uc,.slice ma ms.length mc,.slice ea es.length ec] (.slice Sy bs.length Sw) (.slice sa sn sc) N9 Dn bs) _ _ _ _ ?_)
          try (change cW _ _ _ _ _ _ _ _ _ (World.drew _))
          have hT:=(aa yQ).drew
          obtain ⟨wd,iZ⟩:∃x,wr.drew=x:=⟨_,rfl⟩
          have Ib:wd.heap[W.heap.size+1]?=some (.cells fz 26 (0,0)):=by rw[←iZ];exact (aa KU).1
          have Ij:Below W.heap.size W wd:=by rw[←iZ];exact below_drewN (aa CE).eL 1
          have SJ:wd.heap=wr.heap:=by rw[←iZ];rfl
          rw[iZ] at hT ⊢
          refine ak 0 (.agg #[.string pk,.slice ua is.length uc,.slice ma ms.length mc,.slice ea es.length ec]) 105 rfl rfl (Or.inl ⟨by rfl,fun w' hw=>by obtain ⟨tg,tb,t7⟩:=hw;obtain ⟨t0,t1,t2,t3⟩:=eK tg;obtain ⟨t4,t5,t6⟩:=aQ tb;go_simp⟩) hT ?_
          simp only[Act.put,zL,zM,zN]
          refine ak 1 (.pointer (some ⟨b,0,none⟩)) 106 rfl rfl (Or.inl ⟨by rfl,fun w' hw=>by obtain ⟨tg,tb,t7⟩:=hw;obtain ⟨t0,t1,t2,t3⟩:=eK tg;obtain ⟨t4,t5,t6⟩:=aQ tb;go_simp⟩) hT ?_
          simp only[Act.put,zL,zM,zN]
          refine ak 2 (.pointer (some ⟨b,0,none⟩)) 107 rfl rfl (Or.inl ⟨by rfl,fun w' hw=>by obtain ⟨tg,tb,t7⟩:=hw;obtain ⟨t0,t1,t2,t3⟩:=eK tg;obtain ⟨t4,t5,t6⟩:=aQ tb;go_simp⟩) hT ?_
          simp only[Act.put,zL,zM,zN]
          refine ak 3 (.pointer (some ⟨b,0,none⟩)) 108 rfl rfl (Or.inl ⟨by rfl,fun w' hw=>by obtain ⟨tg,tb,t7⟩:=hw;obtain ⟨t0,t1,t2,t3⟩:=eK tg;obtain ⟨t4,t5,t6⟩:=aQ tb;go_simp⟩) hT ?_
          simp only[Act.put,zL,zM,zN]
          refine ak 4 (.slice Sy bs.length Sw) 109 rfl rfl (Or.inl ⟨by rfl,fun w' hw=>by obtain ⟨tg,tb,t7⟩:=hw;obtain ⟨t0,t1,t2,t3⟩:=eK tg;obtain ⟨t4,t5,t6⟩:=aQ tb;go_simp⟩) hT ?_
          simp only[Act.put,zL,zM,zN]
          refine ak 5 (.string (ti bs)) 110 rfl rfl (Or.inl ⟨by rfl,fun w' hw=>by obtain ⟨tg,tb,t7⟩:=hw;obtain ⟨t0,t1,t2,t3⟩:=eK tg;obtain ⟨t4,t5,t6⟩:=aQ tb;have FQ:=nS t7.has (aa Xh);go_simp⟩) hT ?_
          simp only[Act.put,zL,zM,zN]
          refine ak 6 (.pointer (some ⟨b,0,none⟩)) 111 rfl rfl (Or.inl ⟨by rfl,fun w' hw=>by obtain ⟨tg,tb,t7⟩:=hw;obtain ⟨t0,t1,t2,t3⟩:=eK tg;obtain ⟨t4,t5,t6⟩:=aQ tb;go_simp⟩) hT ?_
          simp only[Act.put,zL,zM,zN]
          refine ak 7 (.pointer (some ⟨b,0,none⟩)) 112 rfl rfl (Or.inl ⟨by rfl,fun w' hw=>by obtain ⟨tg,tb,t7⟩:=hw;obtain ⟨t0,t1,t2,t3⟩:=eK tg;obtain ⟨t4,t5,t6⟩:=aQ tb;go_simp⟩) hT ?_
          simp only[Act.put,zL,zM,zN]
          refine ak 8 (.pointer (some ⟨b,3,none⟩)) 113 rfl rfl (Or.inl ⟨by rfl,fun w' hw=>by obtain ⟨tg,tb,t7⟩:=hw;obtain ⟨t0,t1,t2,t3⟩:=eK tg;obtain ⟨t4,t5,t6⟩:=aQ tb;go_simp⟩) hT ?_
          simp only[Act.put,zL,zM,zN]
          refine ak 9 (.int .i64 (Dn:Int)) 114 rfl rfl (Or.inl ⟨by rfl,fun w' hw=>by obtain ⟨tg,tb,t7⟩:=hw;obtain ⟨t0,t1,t2,t3⟩:=eK tg;obtain ⟨t4,t5,t6⟩:=aQ tb;go_simp⟩) hT ?_
          simp only[Act.put,zL,zM,zN]
          refine ak 10 (.bool false) 115 rfl rfl (Or.inl ⟨by rfl,fun w' hw=>by obtain ⟨tg,tb,t7⟩:=hw;obtain ⟨t0,t1,t2,t3⟩:=eK tg;obtain ⟨t4,t5,t6⟩:=aQ tb;go_simp⟩) hT ?_
          simp only[Act.put,zL,zM,zN]
          refine ak 11 (.bool false) 116 rfl rfl (Or.inl ⟨by rfl,fun w' hw=>by obtain ⟨tg,tb,t7⟩:=hw;obtain ⟨t0,t1,t2,t3⟩:=eK tg;obtain ⟨t4,t5,t6⟩:=aQ tb;go_simp⟩) hT ?_
          simp only[Act.put,zL,zM,zN]
          refine ak 12 undef 117 rfl rfl (Or.inr ⟨by rfl,rfl⟩) hT ?_
          simp only[Act.put,zL,zM,zN]
          refine ak 13 undef 118 rfl rfl (Or.inr ⟨by rfl,rfl⟩) hT ?_
          simp only[Act.put,zL,zM,zN]
          refine ak 14 undef 119 rfl rfl (Or.inr ⟨by rfl,rfl⟩) hT ?_
          simp only[Act.put,zL,zM,zN]
          refine ak 15 undef 120 rfl rfl (Or.inr ⟨by rfl,rfl⟩) hT ?_
          simp only[Act.put,zL,zM,zN]
          refine ak 16 undef 121 rfl rfl (Or.inr ⟨by rfl,rfl⟩) hT ?_
          simp only[Act.put,zL,zM,zN]
          refine ak 17 (.bool false) 122 rfl rfl (Or.inl ⟨by rfl,fun w' hw=>by obtain ⟨tg,tb,t7⟩:=hw;obtain ⟨t0,t1,t2,t3⟩:=eK tg;obtain ⟨t4,t5,t6⟩:=aQ tb;go_simp⟩) hT ?_
          simp only[Act.put,zL,zM,zN]
          refine ak 18 (.bool false) 123 rfl rfl (Or.inl ⟨by rfl,fun w' hw=>by obtain ⟨tg,tb,t7⟩:=hw;obtain ⟨t0,t1,t2,t3⟩:=eK tg;obtain ⟨t4,t5,t6⟩:=aQ tb;go_simp⟩) hT ?_
          simp only[Act.put,zL,zM,zN]
          refine ak 19 undef 124 rfl rfl (Or.inr ⟨by rfl,rfl⟩) hT ?_
          simp only[Act.put,zL,zM,zN]
          refine ak 20 undef 125 rfl rfl (Or.inr ⟨by rfl,rfl⟩) hT ?_
          simp only[Act.put,zL,zM,zN]
          refine ak 21 undef 126 rfl rfl (Or.inr ⟨by rfl,rfl⟩) hT ?_
          simp only[Act.put,zL,zM,zN]
          refine ak 22 undef 127 rfl rfl (Or.inr ⟨by rfl,rfl⟩) hT ?_
          simp only[Act.put,zL,zM,zN]
          refine ak 23 undef 128 rfl rfl (Or.inr ⟨by rfl,rfl⟩) hT ?_
          simp only[Act.put,zL,zM,zN]
          refine ak 24 undef 129 rfl rfl (Or.inr ⟨by rfl,rfl⟩) hT ?_
          simp only[Act.put,zL,zM,zN]
          refine ak 25 (.bool false) 130 rfl rfl (Or.inl ⟨by rfl,fun w' hw=>by obtain ⟨tg,tb,t7⟩:=hw;obtain ⟨t0,t1,t2,t3⟩:=eK tg;obtain ⟨t4,t5,t6⟩:=aQ tb;go_simp⟩) hT ?_
          simp only[Act.put,zL,zM,zN]
          have DT:∀j,wd.frozen? ⟨W.heap.size+1,j,none⟩=false:=fun j=>by simp[World.frozen?,Ib]
          obtain ⟨p0,p1,p2,p3⟩:=eK Ib
          have Zx:=DT 0
          have Zw:=DT 1
          have Zv:=DT 2
          have Zu:=DT 3
          obtain ⟨s1,s2⟩:=fW Ib (.string pk) (.slice ua is.length uc) (.slice ma ms.length mc) (.slice ea es.length ec)
          unfold gp at s1 s2
          have jr:=hT.off s2 (aa KU).2.1 (aa KU).2.2.1 (aa KU).2.2.2
          have kY:=aj ((aa CE).out SJ s2 Ij)
          refine ay 26 (by kernel_rfl) rfl (fun K hK=>?_)
          go_simp
          refine hK _ _ ⟨fun _=>jr,?_⟩
          clear hK K hT
          refine ay 27 (by kernel_rfl) rfl (fun K hK=>?_)
          go_simp
          refine hK _ _ ⟨fun _=>jr,?_⟩
          clear hK K
          refine ay 28 (by kernel_rfl) rfl (fun K hK=>?_)
          go_simp
          refine hK _ _ ⟨fun _=>jr,?_⟩
          clear hK K jr
          refine bj (by kernel_rfl) ?_
          have M6:Hid (RY W (.returned (.tuple #[.agg #[.string pk,.slice ua is.length uc,.slice ma ms.length mc,.slice ea es.length ec],.string (ti bs),.bool false])) ((((wd.setCell ⟨W.heap.size+1,0,none⟩ (.string pk)).setCell ⟨W.heap.size+1,1,none⟩ (.slice ua is.length uc)).setCell ⟨W.heap.size+1,2,none⟩ (.slice ma ms.length mc)).setCell ⟨W.heap.size+1,3,none⟩ (.slice ea es.length ec))):=by
           have Ps:(decide (Dn≤4096)&&decide (Ql.length<16384)&&decide ((ti bs).size≤65536))=false:=by
            rw[jg,aa HN9]
            rw[decide_eq_false (aa GF),Bool.false_and,Bool.false_and]
           refine ⟨⟨pk,is,ms,es⟩,_,_,_,ti bs,Ql,Dn,_,?_,(aa kY).1,(aa Tj).1,(aa Tj).2,(aa CE).wr.ok,?_,(aa kY).2⟩
           ·rw[Ps]
           ·rw[qc (aa Xh)]
            exact (aa Xi).symm
          obtain ⟨e0,e1,e2,e3⟩:=eK s1
          clear s2 kY Ib DT Zx Zw Zv Zu p0 p1 p2 p3 Ij SJ
          go_wp2
          exact bodyPost_ret (nE (p:=4) (q:=5) (r:=6) rfl _ _ (W.heap.size+1) 26 #[.string pk,.slice ua is.length uc,.slice ma ms.length mc,.slice ea es.length ec] (0,0) _ rfl s1 Tryz.underlying26 rfl py) rfl (aa M6)
end Go.Proofs.YtmlphohdcejniaaGreatDoor

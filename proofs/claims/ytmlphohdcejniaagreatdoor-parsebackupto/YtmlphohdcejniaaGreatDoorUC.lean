import Derived.Test.YtmlphohdcejniaaGreatDoorM48
set_option maxHeartbeats 8000000
set_option maxRecDepth 100000
namespace Go.Proofs.YtmlphohdcejniaaGreatDoor
open Go.RowKit
attribute [local go_sem ↓] Go.wp_at_zero Go.wp_at_succ
def PV (W:World) (e:Ending) (w:World):Prop:=∃(G:Fl) (gi gm ge:Value) (B:ByteArray) (ps:List (Wd×List Nat)) (c:Nat) (ws:List Wd),e=.returned (.tuple #[.agg #[.string G.fW,gi,gm,ge],.string B,.bool (decide (c≤4096)&&decide (ps.length<16384)&&decide (B.size≤65536))])∧NF G (.agg #[.string G.fW,gi,gm,ge]) (fun k=>W.heap.size≤k) w∧ps.map Prod.fst=om++ws∧eH Aw 32 ws c ⟨⟨#[]⟩,[],[],[]⟩ G∧nY ps∧aG B=jz ps∧Below W.heap.size W w
theorem A9 {W:World} (hM:gD W) (hP:nI W) {F:Fl}{v vi vm ve vs:Value}{cm ce:List Value} (hF:Rh W v F vi vm ve cm ce) (hz:Nn F) (hs:EY W.heap.size W vs):Calls Tryz.prog 6 #[v,vs] W (PV W):=by
 obtain ⟨rfl,hi,hm,jQ,he,mx⟩:=hF
 have U3:=aj (fun w0 hw=>nR 30 (zD _) W vm F.ms cm hm jQ hz.ml hz.ms w0 hw hM)
 have U4:=aj (fun w0 hw=>wJ he mx hz.el hz.es w0 hw)
 obtain ⟨Ja,IU,rfl,NG,pC⟩:=hi
 obtain ⟨Dl,AF,rfl,-,-⟩:=hm
 obtain ⟨CX,yY,rfl,-,-⟩:=he
 rw[show (30:Int)-((30:Nat):Int)=0 from rfl] at U3
 have HIm:=aj pC
 have HM:=aj hM
 have HP:=aj hP
 have HZ:=aj hz
 have HSp:=aj hs
 clear pC hM hP hz hs jQ mx
 have bC:Below W.heap.size W ((W.alloc (.cells #[.string F.fW,.slice Ja F.cy.length IU,.slice Dl F.ms.length AF,.slice CX F.es.length yY] 26)).alloc (.cells #[.string ⟨#[]⟩,.slice none 0 0,.slice none 0 0,.slice none 0 0] 26)):=((zE _ _).alloc (zD _) _).alloc (by rw[zJ];omega) _
 have Sz:W.heap.size<W.heap.size+1∧W.heap.size+1<((W.alloc (.cells #[.string F.fW,.slice Ja F.cy.length IU,.slice Dl F.ms.length AF,.slice CX F.es.length yY] 26)).alloc (.cells #[.string ⟨#[]⟩,.slice none 0 0,.slice none 0 0,.slice none 0 0] 26)).heap.size:=by rw[zJ,zJ];omega
 have qC:((W.alloc (.cells #[.string F.fW,.slice Ja F.cy.length IU,.slice Dl F.ms.length AF,.slice CX F.es.length yY] 26)).alloc (.cells #[.string ⟨#[]⟩,.slice none 0 0,.slice none 0 0,.slice none 0 0] 26)).heap[W.heap.size]?=some (.cells #[.string F.fW,.slice Ja F.cy.length IU,.slice Dl F.ms.length AF,.slice CX F.es.length yY] 26 (0,0)):=(Below.heap_alloc _ _ _ (by rw[zJ];omega)).trans (aC _ _)
 have gO:((W.alloc (.cells #[.string F.fW,.slice Ja F.cy.length IU,.slice Dl F.ms.length AF,.slice CX F.es.length yY] 26)).alloc (.cells #[.string ⟨#[]⟩,.slice none 0 0,.slice none 0 0,.slice none 0 0] 26)).heap[W.heap.size+1]?=some (.cells fz 26 (0,0)):=by
  have:=aC (W.alloc (.cells #[.string F.fW,.slice Ja F.cy.length IU,.slice Dl F.ms.length AF,.slice CX F.es.length yY] 26)) (.cells #[.string ⟨#[]⟩,.slice none 0 0,.slice none 0 0,.slice none 0 0] 26)
  rw[zJ] at this
  exact this
 obtain ⟨W1,Dh⟩:∃x,((W.alloc (.cells #[.string F.fW,.slice Ja F.cy.length IU,.slice Dl F.ms.length AF,.slice CX F.es.length yY] 26)).alloc (.cells #[.string ⟨#[]⟩,.slice none 0 0,.slice none 0 0,.slice none 0 0] 26))=x:=⟨_,rfl⟩
 rw[Dh] at bC Sz qC gO
 have mB:=aj (And.intro bC (And.intro Sz (And.intro qC gO)))
 have iu:Hid (∀w',Below W1.heap.size W1 w'→w'.cell? ⟨W.heap.size,0,none⟩=some (.string F.fW)∧w'.cell? ⟨W.heap.size,1,none⟩=some (.slice Ja F.cy.length IU)∧w'.cell? ⟨W.heap.size,2,none⟩=some (.slice Dl F.ms.length AF)∧w'.cell? ⟨W.heap.size,3,none⟩=some (.slice CX F.es.length yY)):=fun w' hb=>eu ((hb.block _ (by omega)).trans qC)
 have U3:=aj (fun w0 hw=>aa U3 w0 (bC.trans (Below.mono hw bC.size)))
 have U4:=aj (fun w0 hw=>aa U4 w0 (bC.trans (Below.mono hw bC.size)))
 clear bC Sz qC gO
 go_enter Tryz.func6,Tryz.ntmps6
 go_upto_region 1 with fail
 go_cut [7] (fun v7 wx=>∃(g:Nat) (ma:Option Addr) (mc:Nat) (ea:Option Addr) (ec:Nat) (OI:List Ms) (NQ:List En),v7=.pointer (some ⟨g,0,none⟩)∧Hid (WJ W wx #[.string F.fW,.slice Ja F.cy.length IU,.slice Dl F.ms.length AF,.slice CX F.es.length yY] (W.heap.size+1) g (.slice ma OI.length mc) (.slice ea NQ.length ec) OI NQ)∧Hid ((∀m ∈ OI,EZ 30 m)∧bG (mw 30) OI≤bG (DX 30) F.ms)∧Hid ((∀e ∈ NQ,C' e)∧bG mY NQ≤bG Gb F.es))
 case first =>
  refine wp_region_any (by kernel_rfl) (ck (z:=99) (T:=fun w'=>Below W1.heap.size W1 w') _ _ _ _ ?_)
  try (change cL _ _ _ _ _ _ _ _ _ (World.drew _))
  have aX:Below W1.heap.size W1 W1.drew:=below_drewN (zE _ _) 1
  obtain ⟨wd,jb⟩:∃x,W1.drew=x:=⟨_,rfl⟩
  have E4:=aj (show wd.heap.size=W1.heap.size by rw[←jb];rfl)
  rw[jb] at aX ⊢
  have hT:=aX
  refine aq 0 (.pointer (some ⟨W.heap.size,2,none⟩)) 13 rfl rfl (Or.inl ⟨by rfl,fun w' hw=>by obtain ⟨x0,x1,x2,x3⟩:=aa iu w' hw;go_simp⟩) hT ?_
  simp only[Act.put,zL,zM,zN]
  refine aq 1 (.slice Dl F.ms.length AF) 14 rfl rfl (Or.inl ⟨by rfl,fun w' hw=>by obtain ⟨x0,x1,x2,x3⟩:=aa iu w' hw;go_simp⟩) hT ?_
  simp only[Act.put,zL,zM,zN]
  refine aq 3 (.pointer (some ⟨W.heap.size,3,none⟩)) 16 rfl rfl (Or.inl ⟨by rfl,fun w' hw=>by obtain ⟨x0,x1,x2,x3⟩:=aa iu w' hw;go_simp⟩) hT ?_
  simp only[Act.put,zL,zM,zN]
  refine aq 4 (.slice CX F.es.length yY) 17 rfl rfl (Or.inl ⟨by rfl,fun w' hw=>by obtain ⟨x0,x1,x2,x3⟩:=aa iu w' hw;go_simp⟩) hT ?_
  simp only[Act.put,zL,zM,zN]
  clear hT
  refine dj 2 7 (by kernel_rfl) rfl rfl (fun K hK=>?_) (fun K hK=>?_)
  ·refine aN 15 rfl rfl 16 (fun vs=>by kernel_rfl) #[.tmp 14,.const (.int .i64 0)] #[23,3] rfl #[.slice Dl F.ms.length AF,.int .i64 0] (by first|rfl|simp[Act.eval]) (aa U3 wd aX) ?_
   rintro e' oJ ⟨⟨um,cs1,OI,rfl,eT,Lu,Lr,Af⟩,ba⟩
   obtain ⟨ZF,ZD,rfl⟩:=bj eT
   have Cr:=KU eT Lu
   have P8:=aj (And.intro Lr Af)
   clear eT Lu Lr Af
   have qS:=aj ba.size
   have aX:=aX.trans (ba.mono aX.size)
   refine ⟨_,rfl,hK _ _ ⟨fun _=>aX,?_⟩⟩
   clear hK K ba
   simp only[Act.put,zL,zM,zN]
   refine dj 5 7 (by kernel_rfl) rfl rfl (fun K hK=>?_) (fun K hK=>?_)
   ·refine aN 18 rfl rfl 17 (fun vs=>by kernel_rfl) #[.tmp 17] #[24] rfl #[.slice CX F.es.length yY] (by first|rfl|simp[Act.eval]) (aa U4 oJ aX) ?_
    rintro e' pX ⟨⟨ue,cs2,NQ,rfl,dQ,Cl,Cm,vZ,lU⟩,ba⟩
    rw[←Cm] at dQ
    obtain ⟨XL,XG,rfl⟩:=bj dQ
    have Cr:=Cr.up ba
    have NN:=DY dQ Cl
    have Nc:=aj (And.intro vZ lU)
    clear dQ Cl vZ lU Cm
    have ZZ:=aj ba.size
    have aX:=aX.trans (ba.mono aX.size)
    refine ⟨_,rfl,hK _ _ ⟨fun _=>aX,?_⟩⟩
    clear hK K ba
    simp only[Act.put,zL,zM,zN]
    have hT:=aX
    refine aq 6 (.agg #[.string ⟨#[]⟩,.slice none 0 0,.slice ZF OI.length ZD,.slice XL NQ.length XG]) 19 rfl rfl (Or.inl ⟨by rfl,fun w' hw=>by go_simp⟩) hT ?_
    simp only[Act.put,zL,zM,zN]
    clear hT
    refine ay 7 (by kernel_rfl) rfl (fun K hK=>?_)
    obtain ⟨Db,dT⟩:∃x,pX.alloc (.cells #[.string ⟨#[]⟩,.slice none 0 0,.slice none 0 0,.slice none 0 0] 26)=x:=⟨_,rfl⟩
    have ba:Below pX.heap.size pX Db:=by rw[←dT];exact (zE _ _).alloc (zD _) _
    have bo:Db.heap[pX.heap.size]?=some (.cells #[.string ⟨#[]⟩,.slice none 0 0,.slice none 0 0,.slice none 0 0] 26 (0,0)):=by rw[←dT];exact aC _ _
    have ZX:=aj (show pX.heap.size<Db.heap.size by have:=(zA bo).1;omega)
    have HL:=aj aX.size
    go_simp
    have Cr:=Cr.up ba
    have NN:=NN.up ba
    have aX:=aX.trans (ba.mono aX.size)
    refine hK _ _ ⟨fun _=>aX,?_⟩
    clear hK K dT ba
    refine ay 8 (by kernel_rfl) rfl (fun K hK=>?_)
    obtain ⟨q1,q2⟩:=Dy (aa mB).1 aX (aa mB).2.1 (aa mB).2.2.1 (aa mB).2.2.2 (aa HL) bo Cr NN (by have:=aa HL;have:=aa qS;have:=aa ZZ;have:=aa ZX;have:=aX.size;have:=aa E4;omega) (by have:=aa qS;have:=aa ZZ;have:=aa ZX;have:=aa E4;omega) (by have:=aa qS;have:=aa ZZ;have:=aa ZX;omega) (by have:=aa qS;have:=aa ZZ;have:=aa ZX;omega)
    obtain ⟨g,QF⟩:∃g,pX.heap.size=g:=⟨_,rfl⟩
    rw[QF] at bo q1 q2 ⊢
    obtain ⟨c0,c1,c2,c3⟩:=eu bo
    have z:∀j,Db.frozen? ⟨g,j,none⟩=false:=fun j=>by simp[World.frozen?,bo]
    have z0:=z 0
    have z1:=z 1
    have z2:=z 2
    have z3:=z 3
    have Ye:=aj q1
    have NU:=aj q2
    clear q1 q2
    go_simp
    refine hK _ _ ⟨fun _=>aa NU,?_⟩
    clear hK K
    refine bn (by kernel_rfl) ?_
    clear aX Cr NN bo z z0 z1 z2 z3 c0 c1 c2 c3 QF NU
    go_wp2_with fail
    go_meet
    exact ⟨g,_,_,_,_,_,_,rfl,Ye,P8,Nc⟩
   ·obtain ⟨zh,dT⟩:∃x,oJ.alloc (.cells #[.string ⟨#[]⟩,.slice none 0 0,.slice none 0 0,.slice none 0 0] 26)=x:=⟨_,rfl⟩
    have ba:Below oJ.heap.size oJ zh:=by rw[←dT];exact (zE _ _).alloc (zD _) _
    have bo:zh.heap[oJ.heap.size]?=some (.cells #[.string ⟨#[]⟩,.slice none 0 0,.slice none 0 0,.slice none 0 0] 26 (0,0)):=by rw[←dT];exact aC _ _
    have ZY:=aj (show oJ.heap.size<zh.heap.size by have:=(zA bo).1;omega)
    have HL:=aj aX.size
    go_simp
    have Cr:=Cr.up ba
    have aX:=aX.trans (ba.mono aX.size)
    refine hK _ _ ⟨fun _=>aX,?_⟩
    clear hK K dT ba
    refine ay 5 (by kernel_rfl) rfl (fun K hK=>?_)
    refine aN 18 rfl rfl 17 (fun vs=>by kernel_rfl) #[.tmp 17] #[24] rfl #[.slice CX F.es.length yY] (by first|rfl|simp[Act.eval]) (aa U4 zh aX) ?_
    rintro e' N5 ⟨⟨ue,cs2,NQ,rfl,dQ,Cl,Cm,vZ,lU⟩,ba⟩
    rw[←Cm] at dQ
    obtain ⟨XL,XG,rfl⟩:=bj dQ
    have Cr:=Cr.up ba
    have NN:=DY dQ Cl
    have Nc:=aj (And.intro vZ lU)
    clear dQ Cl vZ lU Cm
    have ZW:=aj ba.size
    have bo:=(ba.block _ (zA bo).1).trans bo
    have aX:=aX.trans (ba.mono aX.size)
    refine ⟨_,rfl,hK _ _ ⟨fun _=>aX,?_⟩⟩
    clear hK K ba
    simp only[Act.put,zL,zM,zN]
    have hT:=aX
    refine aq 6 (.agg #[.string ⟨#[]⟩,.slice none 0 0,.slice ZF OI.length ZD,.slice XL NQ.length XG]) 19 rfl rfl (Or.inl ⟨by rfl,fun w' hw=>by go_simp⟩) hT ?_
    simp only[Act.put,zL,zM,zN]
    clear hT
    refine ay 8 (by kernel_rfl) rfl (fun K hK=>?_)
    obtain ⟨q1,q2⟩:=Dy (aa mB).1 aX (aa mB).2.1 (aa mB).2.2.1 (aa mB).2.2.2 (aa HL) bo Cr NN (by have:=aa HL;have:=aa qS;have:=aa ZY;have:=aa ZW;have:=aX.size;have:=aa E4;omega) (by have:=aa qS;have:=aa ZY;have:=aa ZW;have:=aa E4;omega) (by have:=aa qS;have:=aa ZY;have:=aa ZW;omega) (by have:=aa qS;have:=aa ZY;have:=aa ZW;omega)
    obtain ⟨g,QF⟩:∃g,oJ.heap.size=g:=⟨_,rfl⟩
    rw[QF] at bo q1 q2 ⊢
    obtain ⟨c0,c1,c2,c3⟩:=eu bo
    have z:∀j,N5.frozen? ⟨g,j,none⟩=false:=fun j=>by simp[World.frozen?,bo]
    have z0:=z 0
    have z1:=z 1
    have z2:=z 2
    have z3:=z 3
    have Ye:=aj q1
    have NU:=aj q2
    clear q1 q2
    go_simp
    refine hK _ _ ⟨fun _=>aa NU,?_⟩
    clear hK K
    refine bn (by kernel_rfl) ?_
    clear aX Cr NN bo z z0 z1 z2 z3 c0 c1 c2 c3 QF NU
    go_wp2_with fail
    go_meet
    exact ⟨g,_,_,_,_,_,_,rfl,Ye,P8,Nc⟩
  ·obtain ⟨pY,dT⟩:∃x,wd.alloc (.cells #[.string ⟨#[]⟩,.slice none 0 0,.slice none 0 0,.slice none 0 0] 26)=x:=⟨_,rfl⟩
   have ba:Below wd.heap.size wd pY:=by rw[←dT];exact (zE _ _).alloc (zD _) _
   have bo:pY.heap[wd.heap.size]?=some (.cells #[.string ⟨#[]⟩,.slice none 0 0,.slice none 0 0,.slice none 0 0] 26 (0,0)):=by rw[←dT];exact aC _ _
   have za:=aj (show wd.heap.size<pY.heap.size by have:=(zA bo).1;omega)
   have HL:=aj aX.size
   go_simp
   have aX:=aX.trans (ba.mono aX.size)
   refine hK _ _ ⟨fun _=>aX,?_⟩
   clear hK K dT ba
   refine ay 2 (by kernel_rfl) rfl (fun K hK=>?_)
   refine aN 15 rfl rfl 16 (fun vs=>by kernel_rfl) #[.tmp 14,.const (.int .i64 0)] #[23,3] rfl #[.slice Dl F.ms.length AF,.int .i64 0] (by first|rfl|simp[Act.eval]) (aa U3 pY aX) ?_
   rintro e' JD ⟨⟨um,cs1,OI,rfl,eT,Lu,Lr,Af⟩,ba⟩
   obtain ⟨ZF,ZD,rfl⟩:=bj eT
   have Cr:=KU eT Lu
   have P8:=aj (And.intro Lr Af)
   clear eT Lu Lr Af
   have ZV:=aj ba.size
   have bo:=(ba.block _ (zA bo).1).trans bo
   have aX:=aX.trans (ba.mono aX.size)
   refine ⟨_,rfl,hK _ _ ⟨fun _=>aX,?_⟩⟩
   clear hK K ba
   simp only[Act.put,zL,zM,zN]
   refine ay 5 (by kernel_rfl) rfl (fun K hK=>?_)
   refine aN 18 rfl rfl 17 (fun vs=>by kernel_rfl) #[.tmp 17] #[24] rfl #[.slice CX F.es.length yY] (by first|rfl|simp[Act.eval]) (aa U4 JD aX) ?_
   rintro e' N4 ⟨⟨ue,cs2,NQ,rfl,dQ,Cl,Cm,vZ,lU⟩,ba⟩
   rw[←Cm] at dQ
   obtain ⟨XL,XG,rfl⟩:=bj dQ
   have Cr:=Cr.up ba
   have NN:=DY dQ Cl
   have Nc:=aj (And.intro vZ lU)
   clear dQ Cl vZ lU Cm
   have ZU:=aj ba.size
   have bo:=(ba.block _ (zA bo).1).trans bo
   have aX:=aX.trans (ba.mono aX.size)
   refine ⟨_,rfl,hK _ _ ⟨fun _=>aX,?_⟩⟩
   clear hK K ba
   simp only[Act.put,zL,zM,zN]
   have hT:=aX
   refine aq 6 (.agg #[.string ⟨#[]⟩,.slice none 0 0,.slice ZF OI.length ZD,.slice XL NQ.length XG]) 19 rfl rfl (Or.inl ⟨by rfl,fun w' hw=>by go_simp⟩) hT ?_
   simp only[Act.put,zL,zM,zN]
   clear hT
   refine ay 8 (by kernel_rfl) rfl (fun K hK=>?_)
   obtain ⟨q1,q2⟩:=Dy (aa mB).1 aX (aa mB).2.1 (aa mB).2.2.1 (aa mB).2.2.2 (aa HL) bo Cr NN (by have:=aa HL;have:=aa za;have:=aa ZV;have:=aa ZU;have:=aX.size;have:=aa E4;omega) (by have:=aa za;have:=aa ZV;have:=aa ZU;have:=aa E4;omega) (by have:=aa za;have:=aa ZV;have:=aa ZU;omega) (by have:=aa za;have:=aa ZV;have:=aa ZU;omega)
   obtain ⟨g,QF⟩:∃g,wd.heap.size=g:=⟨_,rfl⟩
   rw[QF] at bo q1 q2 ⊢
   obtain ⟨c0,c1,c2,c3⟩:=eu bo
   have z:∀j,N4.frozen? ⟨g,j,none⟩=false:=fun j=>by simp[World.frozen?,bo]
   have z0:=z 0
   have z1:=z 1
   have z2:=z 2
   have z3:=z 3
   have Ye:=aj q1
   have NU:=aj q2
   clear q1 q2
   go_simp
   refine hK _ _ ⟨fun _=>aa NU,?_⟩
   clear hK K
   refine bn (by kernel_rfl) ?_
   clear aX Cr NN bo z z0 z1 z2 z3 c0 c1 c2 c3 QF NU
   go_wp2_with fail
   go_meet
   exact ⟨g,_,_,_,_,_,_,rfl,Ye,P8,Nc⟩
 case rest =>
  obtain ⟨g,ma,mc,ea,ec,ms,es,rfl,HJ,HOm,HOe⟩:=hcut
  obtain ⟨w2,dT⟩:∃x,x=wc:=⟨_,rfl⟩
  subst dT
  obtain ⟨cm,ce,hI⟩:=(aa HJ).box (aa HSp)
  obtain ⟨sa,sn,sc,rfl,-,-⟩:=id (aa HSp)
  obtain ⟨b,hb⟩:∃b,w2.heap.size=b:=⟨_,rfl⟩
  obtain ⟨W3,Pc⟩:∃x,w2.alloc (.cells #[.slice none 0 0,.slice sa sn sc,.int .i64 0,.int .i64 0,.int .i64 0] 56)=x:=⟨_,rfl⟩
  rw[hb,Pc] at hI
  have HI:=aj hI
  have P7:=aj ((hI.wa (aa HM) (aa HP)).aai (by simp) om Oh (by simp[om]) _ GO 4 (by simp[om]))
  clear hI HJ U3 U4 iu mB Dh
  go_upto_region 3 with fail
  clear hb Pc
  go_wp2_with fail
  refine (aa P7).mono ?_
  rintro e w4 ⟨rfl,ha⟩
  obtain ⟨r1,VJ,Sz,Ee,S1⟩:=(aa HI).after ha
  rw[List.nil_append] at S1 Sz
  have pV:=aj S1
  have xW:Hid (VJ.map Prod.fst=om++[]∧VJ.length≤10∧eH Aw 32 [] 0 QP QP):=⟨by rw[List.append_nil];exact Sz,by omega,eH.nil _⟩
  clear ha Sz Ee S1 HI P7
  obtain ⟨x0,x1,x2,x3⟩:=eu (aa pV).fb
  go_upto_if 28 with fail
  go_cut [] (fun wx=>∃(r:Option Nat) (ps:List (Wd×List Nat)) (pk:ByteArray) (ws:List Wd),Hid (WI W wx #[.string F.fW,.slice Ja F.cy.length IU,.slice Dl F.ms.length AF,.slice CX F.es.length yY] (W.heap.size+1) g b r (.slice sa sn sc) ps 0 pk (.slice none 0 0) (.slice ma ms.length mc) (.slice ea es.length ec) [] ms es cm ce)∧Hid (ps.map Prod.fst=om++ws∧ps.length≤100∧eH Aw 32 ws 0 QP ⟨pk,[],[],[]⟩))
  case first =>
   obtain ⟨nb,Ww⟩:∃x,(!F.fW.toList.isEmpty)=x:=⟨_,rfl⟩
   rw[Ww]
   clear Ww
   cases nb with
   |false =>
    go_wp2_with fail
    go_meet
    exact ⟨r1,VJ,⟨#[]⟩,[],pV,(aa xW).1,by have:=(aa xW).2.1;omega,(aa xW).2.2⟩
   |true =>
    have HK:=aj (mS ((aa HM).up (aa pV).ez (aa HM).1) F.fW (aa HZ).pk)
    go_wp2_with fail
    refine (aa HK).mono ?_
    rintro e w5 ⟨⟨xs,NA,rfl⟩,jf⟩
    have nJ:=aj ((aa pV).up jf)
    obtain ⟨y1,y2⟩:(gQ xs).extract 1 (gQ xs).size=iZ xs∧(gQ xs).size=(iZ xs).size+1:=by
     cases xs with
     |nil=>exact absurd rfl NA.1
     |cons x l=>exact oR x l
    have iu:=aj NA
    obtain ⟨pk,FQ⟩:∃pk,iZ xs=pk:=⟨_,rfl⟩
    obtain ⟨ty,Ix⟩:∃ty,gQ xs=ty:=⟨_,rfl⟩
    rw[FQ,Ix] at y1
    rw[FQ,Ix] at y2
    rw[y2] at y1
    rw[Ix]
    have HPk:=aj FQ
    have qU:=aj ((aa nJ).fW pk)
    obtain ⟨c0,c1,c2,c3⟩:=(aa nJ).cells
    have zf:w5.frozen? ⟨g,0,none⟩=false:=by simp[World.frozen?,(aa nJ).gb]
    clear jf NA FQ Ix HK x0 x1 x2 x3
    go_upto_region 6 with fail
    obtain ⟨w6,NB⟩:∃x,w5.setCell ⟨g,0,none⟩ (.string pk)=x:=⟨_,rfl⟩
    rw[NB] at qU ⊢
    have E5:=aj (((aa qU).wa (aa HM) (aa HP)).put (by have:=(aa xW).2.1;omega) [(1,⟨#[112,97,99,107,97,103,101]⟩)] (fun x hx=>by rw[List.mem_singleton.1 hx];exact .inl ⟨rfl,RQ⟩) (by simp) #[.string ⟨#[112,97,99,107,97,103,101]⟩] rfl 1 rfl)
    clear NB c0 c1 c2 c3 zf y1 y2 nJ
    go_wp2_with fail
    refine (aa E5).mono ?_
    rintro e w7 ⟨rfl,ha⟩
    obtain ⟨_,_,_,_,hI7⟩:=(aa qU).after ha
    obtain ⟨c0,c1,c2,c3⟩:=hI7.cells
    have Yh:=aj (ha.names (by have:=(aa xW).2.1;omega) (aa iu) false pk (by rw[if_neg (by decide)];exact (aa HPk).symm))
    clear ha hI7 E5
    go_wp2_with fail
    refine (aa Yh).mono ?_
    rintro e w8 ⟨rfl,ha⟩
    have HP4:=aj (ha.xy (by have:=(aa xW).2.1;omega))
    clear ha Yh c0 c1 c2 c3
    go_wp2_with fail
    refine (aa HP4).mono ?_
    rintro e w9 ⟨rfl,s,hs,ha⟩
    obtain ⟨r9,q9,nF,UF,LR⟩:=(aa qU).after ha
    have A7:=aj LR
    have HE9:Hid ((VJ++q9).map Prod.fst=om++((1,⟨#[112,97,99,107,97,103,101]⟩)::(mO xs++s))∧(VJ++q9).length≤100∧eH Aw 32 ((1,⟨#[112,97,99,107,97,103,101]⟩)::(mO xs++s)) 0 QP ⟨pk,[],[],[]⟩):=by
     obtain ⟨e1,e2,e3⟩:=aa xW
     refine ⟨?_,by rw[zK];omega,?_⟩
     ·rw[List.map_append,e1,nF]
      simp[Qs]
     ·have e4:=Tb (x:=QP) (K:=32) (aa iu) rfl
      rw[aa HPk] at e4
      rcases hs with rfl|rfl
      ·exact e4
      ·exact (e4.trans (F3 _ 32)).cast (by simp) rfl
    clear hs ha nF UF LR HP4
    go_wp2_with fail
    go_meet
    exact ⟨r9,_,pk,_,A7,HE9⟩
  case rest =>
   obtain ⟨r2,ps2,pk,ws2,nJ,NX⟩:=hcut
   obtain ⟨w5,Dd⟩:∃x,x=wc:=⟨_,rfl⟩
   subst Dd
   obtain ⟨j0,hj,VX,VW,VV⟩:=info_parts Lb
   clear pV xW x0 x1 x2 x3
   go_wp2
   go_loopg [9,10] F.cy.length (fun gk v9 _ wr=>∃(i:Nat) (r:Option Nat) (ps:List (Wd×List Nat)) (ws:List Wd) (ui:Value) (is:List ByteArray),v9=.int .i64 (i:Int)∧gk=F.cy.length-i∧i≤F.cy.length∧Hid (is.length=i)∧Hid (WI W wr #[.string F.fW,.slice Ja F.cy.length IU,.slice Dl F.ms.length AF,.slice CX F.es.length yY] (W.heap.size+1) g b r (.slice sa sn sc) ps i pk ui (.slice ma ms.length mc) (.slice ea es.length ec) is ms es cm ce)∧Hid (ps.map Prod.fst=om++ws∧ps.length≤100+20*i∧eH Aw 32 ws i QP ⟨pk,is,[],[]⟩))
   case atStart=>exact ⟨0,r2,ps2,ws2,_,[],rfl,rfl,by omega,rfl,nJ,(aa NX).1,by have:=(aa NX).2.1;omega,(aa NX).2.2⟩
   case round =>
    clear nJ NX
    obtain ⟨i,r3,Oy,YP,ui,is,rfl,eN,hi9,HLi,qU,Ni⟩:=hrel
    have fQ:=aj eN
    clear eN
    obtain ⟨ua,uc,rfl⟩:=bj (aa qU).iw.1
    obtain ⟨x0,x1,x2,x3⟩:=eu (aa qU).fb
    by_cases cc:i<F.cy.length
    ·obtain ⟨gi,oi,rfl,hgi,hci⟩:=aa HIm (by omega)
     obtain ⟨s,hs⟩:∃s,F.cy[i]?=some s:=⟨_,List.getElem?_eq_getElem cc⟩
     have y0:wr.cell? ⟨gi,oi+i,none⟩=some (.string s):=((aa qU).ez.cell (p:=⟨gi,oi+i,none⟩) hgi).trans (hci _ _ (jw _ _ _ hs))
     have bR:=(aa HZ).cy s (List.mem_of_getElem? hs)
     have HW:=aj (fM wr s (by omega))
     have i0:(0:Int)≤(i:Int):=zH _
     have i1:(i:Int)<(F.cy.length:Int):=by omega
     have dA:=aj cc
     have Yj:=aj (show i≤1048576 by have:=(aa HZ).il;omega)
     clear hci hs bR cc
     go_wp2_with fail
     refine (aa HW).mono ?_
     rintro e w6 ⟨⟨y,hy,rfl⟩,IC⟩
     have Ng:=aj ((aa qU).up IC)
     have HY:=aj hy
     have hys:y.size≤30:=hy.2.2
     have Yp:=aj ((aa Ng).up ((zE _ _).alloc (zD w6.heap.size) (.cells #[.string y] 9)))
     obtain ⟨c0,c1,c2,c3⟩:=(aa Ng).cells
     clear hy IC HW x0 x1 x2 x3 y0
     go_wp2_with (at_builtin;refine wpList_append_own_at _ rfl _ _ 22 rfl 0 9 j0 (.string ByteArray.empty) 1 16 Tryz.underlying22 hj VX VW VV rfl (by decide) _ _ _ rfl (aa Yp).iw.1 ⟨w6.heap.size,0,none⟩ 1 1 [.string y] rfl rfl (jS _ _ _) (by simp[Value.oneCell']) (by have:=aa HLi;have:=aa Yj;unfold maxLen;omega) (by have:=aa HLi;have:=aa Yj;omega) (Nat.zero_le _) ?_;intro v' w2 ho dP _ oL;obtain ⟨a4,c4,rfl⟩:=bj ho;obtain ⟨h1,h2,h3⟩:=(aa Yp).imp dP ho oL;have Z2:=aj h1;clear ho dP h1 oL)
     obtain ⟨w7,Ea⟩:∃x,w2.setCell ⟨g,1,none⟩ (.slice a4 (is.length+1) c4)=x:=⟨_,rfl⟩
     rw[Ea] at Z2 ⊢
     have E5:=aj (((aa Z2).wa (aa HM) (aa HP)).put (by have:=(aa Ni).2.1;have:=aa Yj;omega) [(1,⟨#[105,109,112,111,114,116]⟩),(3,lit 34 y)] (fun x hx=>by
      simp only[List.mem_cons,List.not_mem_nil,or_false] at hx
      rcases hx with rfl|rfl
      ·exact .inl ⟨rfl,So⟩
      ·exact .inr (.inr (.inl ⟨rfl,34,y,.inr rfl,aa HY,rfl⟩))) (by simp) #[.string ⟨#[105,109,112,111,114,116]⟩,.string ((⟨#[34]⟩++y)++⟨#[34]⟩)] rfl 2 rfl)
     rw[show w7.heap.size=w2.heap.size from by rw[←Ea,World.size_setCell]] at E5
     clear Ea c0 c1 c2 c3 h2 h3 Ng Yp
     go_wp2_with fail
     refine (aa E5).mono ?_
     rintro e w8 ⟨rfl,ha⟩
     have Yh:=aj (ha.xy (by have:=(aa Ni).2.1;have:=aa Yj;omega))
     clear ha E5
     go_wp2_with fail
     refine (aa Yh).mono ?_
     rintro e w9 ⟨rfl,s2,Ec,ha⟩
     obtain ⟨d0,d1⟩:=ha.cells
     have ha2:=ha.decl
     obtain ⟨r9,q9,nF,UF,LR⟩:=(aa Z2).after ha2
     have A7:=aj LR
     have iw1:IntKind.i64.wrap (((i+(0:Nat):Nat):Int)+1)=((i+(0:Nat):Nat):Int)+1:=by have:=aa Yj;rw[IntKind.wrap_i64];omega
     have HE9:Hid ((Oy++q9).map Prod.fst=om++(YP++((1,⟨#[105,109,112,111,114,116]⟩)::(3,lit 34 y)::s2))∧(Oy++q9).length≤100+20*(i+1)∧eH Aw 32 (YP++((1,⟨#[105,109,112,111,114,116]⟩)::(3,lit 34 y)::s2)) (i+1) QP ⟨pk,is++[y],[],[]⟩):=by
      obtain ⟨e1,e2,e3⟩:=aa Ni
      refine ⟨?_,by rw[zK];omega,?_⟩
      ·rw[List.map_append,e1,nF]
       simp
      ·have e4:=e3.trans (Td (x:=⟨pk,is,[],[]⟩) (K:=32) (aa HY))
       rcases Ec with rfl|rfl
       ·exact e4
       ·exact (e4.trans (F3 _ 32)).cast (by simp) rfl
     clear ha ha2 Ec nF UF LR Yh Z2 Ni
     go_wp2
     go_roundg (F.cy.length-(i+1))
     case measure=>have:=aa fQ;have:=aa dA;omega
     case rel=>exact ⟨i+1,r9,_,_,_,is++[y],by go_num,rfl,aa dA,by show (is++[y]).length=i+1;rw[zK,aa HLi];rfl,A7,HE9⟩
    ·obtain rfl:i=F.cy.length:=by omega
     obtain ⟨v1,v2,v3,v4⟩:=(aa qU).rows
     have hVg:=(aa qU).vgb
     have UO:=(aa qU).wa (aa HM) (aa HP)
     have xo:=aj (show Oy.length≤30000000 by have:=(aa Ni).2.1;have:=(aa HZ).il;omega)
     have HIl:=aj (aa HZ).il
     obtain ⟨W5,Zq⟩:∃x,x=wr:=⟨_,rfl⟩
     subst Zq
     obtain ⟨V,hV⟩:∃V,jW W5 b=V:=⟨_,rfl⟩
     rw[hV] at v1 v2 v3 v4 hVg UO
     have HMr:=aj v1
     have HMs:=aj v2
     have Yv:=aj v3
     have HEs:=aj v4
     have HVg:=aj hVg
     have Nl:=aj UO
     have oO:=aj (And.intro (Nat.le_trans (aa HOm).2 (aa HZ).mks) (Nat.le_trans (aa HOe).2 (aa HZ).ek))
     clear hV v1 v2 v3 v4 hVg UO cc
     go_wp2
     clear x0 x1 x2 x3
     go_loopg [11] ms.length (fun gk v11 wr=>∃(j:Nat) (t:List Wd) (c:Nat),v11=.int .i64 (j:Int)∧gk=ms.length-j∧j≤ms.length∧c≤bG (zZ 30) (ms.take j)∧Hid (WA V b r3 (.slice sa sn sc) Oy F.cy.length W5 t (bG (mw 30) (ms.take j)) c wr)∧Hid (eH Aw 32 t c ⟨pk,is,[],[]⟩ ⟨pk,is,ms.take j,[]⟩))
     case atStart=>exact ⟨0,[],0,rfl,rfl,by omega,Nat.zero_le _,aa Nl,eH.nil _⟩
     case round =>
      obtain ⟨j,t,c,rfl,j9,WL,kC,nz,Q'⟩:=hrel
      have nH:=aj j9
      clear j9 Nl
      obtain ⟨c0,c1,c2,c3⟩:=eu (aa HVg wr (aa nz).we.below)
      by_cases cc:j<ms.length
      ·obtain ⟨m,hm⟩:∃m,ms[j]?=some m:=⟨_,List.getElem?_eq_getElem cc⟩
       obtain ⟨nm',ZC,os',R7,Tq,rs',gs'⟩:=m
       obtain ⟨vf',vo',YT,ve',Vj,Vk,PJ,QR,⟨⟨y0,y1,y2,y3,y4,y5,y6⟩,g1,g2,g3,g4,g5,g6⟩,g7,g8⟩:=(aa HMs).rd j nm' ZC os' R7 Tq rs' gs' hm
       obtain ⟨aM,cM,eM,_,Xi⟩:=aa HMr
       obtain ⟨rfl,rfl⟩:ma=aM∧mc=cM:=by simpa using eM
       obtain ⟨gm,rfl,lp,hc⟩:=Xi (by omega)
       have hb:=(aa nz).we.below
       have z0:=(hb.cell (p:=⟨gm,j*7,none⟩) lp).trans (hc _ _ y0)
       have z1:=(hb.cell (p:=⟨gm,j*7+1,none⟩) lp).trans (hc _ _ y1)
       have z2:=(hb.cell (p:=⟨gm,j*7+2,none⟩) lp).trans (hc _ _ y2)
       have z3:=(hb.cell (p:=⟨gm,j*7+3,none⟩) lp).trans (hc _ _ y3)
       have z4:=(hb.cell (p:=⟨gm,j*7+4,none⟩) lp).trans (hc _ _ y4)
       have z5:=(hb.cell (p:=⟨gm,j*7+5,none⟩) lp).trans (hc _ _ y5)
       have z6:=(hb.cell (p:=⟨gm,j*7+6,none⟩) lp).trans (hc _ _ y6)
       have yB:=(aa HOm).1 _ (List.mem_of_getElem? hm)
       have cn:=eX (mw 30) hm
       have LD:=eX (zZ 30) hm
       have gj:=ik (mw 30) ms (j+1)
       have hle:=kW (KT (f:=30)) (ms.take (j+1))
       have Yg:=aj ((aa nz).message (ri 30) yB g1 g2 g7 g8 g3 g4 g5 g6 (by have:=(aa oO).1;have:=aa xo;omega) (by have:=(aa oO).1;have:=aa HIl;omega))
       have A5:=aj (dW hm)
       have Yd:=aj (And.intro cn (And.intro LD kC))
       have dA:=aj cc
       have j0':(0:Int)≤(j:Int):=zH _
       have j1':(j:Int)<(ms.length:Int):=by omega
       have hmL:ms.length≤1099511620000:=by
        have:=mH (mw 30) ms (fun x hx=>FG ((aa HOm).1 x hx))
        have:=(aa oO).1
        omega
       clear hm y0 y1 y2 y3 y4 y5 y6 g1 g2 g3 g4 g5 g6 g7 g8 eM hc hb yB cn LD gj hle cc kC Xi
       go_wp2_with fail
       refine (aa Yg).mono ?_
       rintro e w6 ⟨rfl,t4,k4,Qw,WK,ha⟩
       have C9:=aj ha
       have Jf:=aj Qw
       have YC:=aj WK
       clear Yg ha Qw WK c0 c1 c2 c3 z0 z1 z2 z3 z4 z5 z6
       go_wp2
       go_roundg (ms.length-(j+1))
       case measure=>have:=aa nH;have:=aa dA;omega
       case rel =>
        refine ⟨j+1,t++t4,c+k4,by go_num,rfl,aa dA,by have:=aa Yd;have:=aa YC;omega,(aa C9).cast rfl (by have:=aa Yd;omega),?_⟩
        show eH Aw 32 (t++t4) (c+k4) ⟨pk,is,[],[]⟩ ⟨pk,is,ms.take (j+1),[]⟩
        rw[aa A5]
        exact (aa Q').trans (Tc (x:=⟨pk,is,ms.take j,[]⟩) (aa Jf) (by decide) (by decide))
      ·obtain rfl:j=ms.length:=by omega
       rw[List.take_length] at kC
       have Yx:Hid (eH Aw 32 t c ⟨pk,is,[],[]⟩ ⟨pk,is,ms,[]⟩):=by
        have:=aa Q'
        rw[List.take_length] at this
        exact this
       have C9:Hid (WA V b r3 (.slice sa sn sc) Oy F.cy.length W5 t (bG (mw 30) ms) c wr):=(aa nz).cast rfl (by rw[List.take_length];omega)
       have hcD:=kW (KT (f:=30)) ms
       have HcB:=aj (show c≤104857600 by have:=(aa oO).1;omega)
       clear Q' nz kC cc hcD
       go_wp2
       clear c0 c1 c2 c3
       go_loopg [12] es.length (fun gk v12 wr=>∃(j:Nat) (u:List Wd),v12=.int .i64 (j:Int)∧gk=es.length-j∧j≤es.length∧Hid (WA V b r3 (.slice sa sn sc) Oy F.cy.length W5 (t++u) (bG (mw 30) ms+bG mY (es.take j)) (c+bG oM (es.take j)) wr)∧Hid (eH Aw 32 u (bG oM (es.take j)) ⟨pk,is,ms,[]⟩ ⟨pk,is,ms,es.take j⟩))
       case atStart=>exact ⟨0,[],rfl,rfl,by omega,(aa C9).cast (by simp) (by show _≤_+0;omega),eH.nil _⟩
       case round =>
        obtain ⟨j,u,rfl,j9,WL,rK,Ua⟩:=hrel
        have nH:=aj j9
        clear j9 C9
        obtain ⟨c0,c1,c2,c3⟩:=eu (aa HVg wr (aa rK).we.below)
        by_cases cc:j<es.length
        ·obtain ⟨e9,he⟩:∃m,es[j]?=some m:=⟨_,List.getElem?_eq_getElem cc⟩
         obtain ⟨vv',Vj,Vk,⟨y0,y1,y2,y3⟩,g1,g2,g3⟩:=(aa HEs) j e9 he
         obtain ⟨aE,cE,eE,_,Xl⟩:=aa Yv
         obtain ⟨rfl,rfl⟩:ea=aE∧ec=cE:=by simpa using eE
         obtain ⟨gm,rfl,lp,hc⟩:=Xl (by omega)
         have hb:=(aa rK).we.below
         have z0:=(hb.cell (p:=⟨gm,j*4,none⟩) lp).trans (hc _ _ y0)
         have z1:=(hb.cell (p:=⟨gm,j*4+1,none⟩) lp).trans (hc _ _ y1)
         have z2:=(hb.cell (p:=⟨gm,j*4+2,none⟩) lp).trans (hc _ _ y2)
         have z3:=(hb.cell (p:=⟨gm,j*4+3,none⟩) lp).trans (hc _ _ y3)
         have yB:=(aa HOe).1 _ (List.mem_of_getElem? he)
         have cn:=eX mY he
         have LD:=eX oM he
         have gj:=ik mY es (j+1)
         have hle:=kW (fun x:En=>(by unfold oM mY;omega:oM x≤mY x)) (es.take (j+1))
         have Yg:=aj ((aa rK).enum yB g1 g2 g3 (by have:=aa oO;have:=aa xo;omega) (by have:=aa oO;have:=aa HIl;have:=aa HcB;omega))
         have A5:=aj (dW he)
         have Yd:=aj (And.intro cn LD)
         have dA:=aj cc
         have j0':(0:Int)≤(j:Int):=zH _
         have j1':(j:Int)<(es.length:Int):=by omega
         have heL:es.length≤1099511620000:=by
          have:=mH mY es (fun x _=>Gc x)
          have:=(aa oO).2
          omega
         clear he y0 y1 y2 y3 g1 g2 g3 eE hc hb yB cn LD gj hle cc Xl
         go_wp2_with fail
         refine (aa Yg).mono ?_
         rintro e w6 ⟨rfl,t6,Wb,ha⟩
         have Jj:=aj ha
         have HT6:=aj Wb
         clear Yg ha Wb c0 c1 c2 c3 z0 z1 z2 z3
         go_wp2
         go_roundg (es.length-(j+1))
         case measure=>have:=aa nH;have:=aa dA;omega
         case rel =>
          refine ⟨j+1,u++t6,by go_num,rfl,aa dA,?_,?_⟩
          ·have:=(aa Jj).cast (t':=t++(u++t6)) (n':=bG (mw 30) ms+bG mY (es.take (j+1))) (by simp) (by have:=aa Yd;omega)
           exact this.decl_eq (by have:=aa Yd;omega)
          ·show eH Aw 32 (u++t6) (bG oM (es.take (j+1))) ⟨pk,is,ms,[]⟩ ⟨pk,is,ms,es.take (j+1)⟩
           rw[aa A5,jX]
           exact (aa Ua).trans ((Pj (K:=32) (x:=⟨pk,is,ms,es.take j⟩) (aa HT6)).cast rfl rfl)
        ·obtain rfl:j=es.length:=by omega
         obtain ⟨r9,q9,nF,UF,LR⟩:=(aa qU).after (aa rK)
         rw[List.take_length] at UF LR
         have Q9:Hid ((Oy++q9).map Prod.fst=om++(YP++(t++u))∧eH Aw 32 (YP++(t++u)) (F.cy.length+(c+bG oM es)) QP ⟨pk,is,ms,es⟩):=by
          obtain ⟨e1,e2,e3⟩:=aa Ni
          have e6:=aa Ua
          rw[List.take_length] at e6
          exact ⟨by rw[List.map_append,e1,nF];simp,e3.trans ((aa Yx).trans e6)⟩
         have hDB:=kW (fun x:En=>(by unfold oM mY;omega:oM x≤mY x)) es
         have HDB:=aj (show F.cy.length+(c+bG oM es)≤400000000∧(Oy++q9).length≤400000000 by rw[zK];have:=aa oO;have:=aa HcB;have:=aa HIl;have:=aa xo;omega)
         obtain ⟨Dn,hDn⟩:∃x,F.cy.length+(c+bG oM es)=x:=⟨_,rfl⟩
         rw[hDn] at LR Q9 HDB
         obtain ⟨Ox,Wn⟩:∃x,Oy++q9=x:=⟨_,rfl⟩
         rw[Wn] at LR Q9 HDB
         have A7:=aj LR
         clear nF UF LR hDB hDn Wn rK Ua Ni qU Yx cc
         go_upto_region 25 with fail
         clear c0 c1 c2 c3
         obtain ⟨v9,hv9,NK,Ze⟩:=(aa A7).wr.dt
         obtain ⟨Qn,Ql,rfl⟩:=bj Ze
         have Wg:=(aa A7).wr.ok
         have Eh:Jl (jz Ox):=fun x hx=>by have:=vw _ Wg x hx;omega
         obtain ⟨bs,SR⟩:∃x,jz Ox=x:=⟨_,rfl⟩
         rw[SR] at NK Ze Eh
         have HBs:=aj SR
         have Vb:=aj Eh
         obtain ⟨o1,o2,o3,o4⟩:=(aa A7).ord
         obtain ⟨N9,hN9⟩:∃x,Ox.length=x:=⟨_,rfl⟩
         have HN9:=aj hN9
         rw[hN9] at NK
         have hT0:NS g b #[.string pk,.slice ua is.length uc,.slice ma ms.length mc,.slice ea es.length ec] (.slice Qn bs.length Ql) (.slice sa sn sc) N9 Dn bs wr:=⟨(aa A7).gb,NK,Ze⟩
         have Ju:=aj (And.intro (aa A7).qb (show W.heap.size+1≠g∧W.heap.size+1≠b∧W.heap.size+1<b+1 by omega))
         have xv:=aj hT0
         clear hT0 hv9 NK Ze Wg Eh SR o1 o2 o3 o4 hN9
         by_cases k1:Dn≤4096
         ·have f1:decide ((Dn:Int)≤4096)=true:=by simp;omega
          by_cases k2:N9<16384
          ·have f2:decide ((N9:Int)<16384)=true:=by simp;omega
           obtain ⟨Xu,h3⟩:∃x,decide ((bs.length:Int)≤65536)=x:=⟨_,rfl⟩
           have E7:=aj (show Dn≤4096∧N9<16384∧(decide (bs.length≤65536))=Xu from ⟨k1,k2,by rw[←h3];congr 1;simp;omega⟩)
           clear k1 k2
           refine wp_region_any (by kernel_rfl) (ck (z:=99) (T:=NS g b #[.string pk,.slice ua is.length uc,.slice ma ms.length mc,.slice ea es.length ec] (.slice Qn bs.length Ql) (.slice sa sn sc) N9 Dn bs) _ _ _ _ ?_)
           try (change cL _ _ _ _ _ _ _ _ _ (World.drew _))
           have hT:=(aa xv).drew
           obtain ⟨wd,jb⟩:∃x,wr.drew=x:=⟨_,rfl⟩
           have FO:wd.heap[W.heap.size+1]?=some (.cells fz 26 (0,0)):=by rw[←jb];exact (aa Ju).1
           have FW:Below W.heap.size W wd:=by rw[←jb];exact below_drewN (aa A7).ez 1
           have Qy:wd.heap=wr.heap:=by rw[←jb];rfl
           rw[jb] at hT ⊢
           refine aq 0 (.agg #[.string pk,.slice ua is.length uc,.slice ma ms.length mc,.slice ea es.length ec]) 105 rfl rfl (Or.inl ⟨by rfl,fun w' hw=>by obtain ⟨tg,tb,t7⟩:=hw;obtain ⟨t0,t1,t2,t3⟩:=eu tg;obtain ⟨t4,t5,t6⟩:=aQ tb;go_simp⟩) hT ?_
           simp only[Act.put,zL,zM,zN]
           refine aq 1 (.pointer (some ⟨b,0,none⟩)) 106 rfl rfl (Or.inl ⟨by rfl,fun w' hw=>by obtain ⟨tg,tb,t7⟩:=hw;obtain ⟨t0,t1,t2,t3⟩:=eu tg;obtain ⟨t4,t5,t6⟩:=aQ tb;go_simp⟩) hT ?_
           simp only[Act.put,zL,zM,zN]
           refine aq 2 (.pointer (some ⟨b,0,none⟩)) 107 rfl rfl (Or.inl ⟨by rfl,fun w' hw=>by obtain ⟨tg,tb,t7⟩:=hw;obtain ⟨t0,t1,t2,t3⟩:=eu tg;obtain ⟨t4,t5,t6⟩:=aQ tb;go_simp⟩) hT ?_
           simp only[Act.put,zL,zM,zN]
           refine aq 3 (.pointer (some ⟨b,0,none⟩)) 108 rfl rfl (Or.inl ⟨by rfl,fun w' hw=>by obtain ⟨tg,tb,t7⟩:=hw;obtain ⟨t0,t1,t2,t3⟩:=eu tg;obtain ⟨t4,t5,t6⟩:=aQ tb;go_simp⟩) hT ?_
           simp only[Act.put,zL,zM,zN]
           refine aq 4 (.slice Qn bs.length Ql) 109 rfl rfl (Or.inl ⟨by rfl,fun w' hw=>by obtain ⟨tg,tb,t7⟩:=hw;obtain ⟨t0,t1,t2,t3⟩:=eu tg;obtain ⟨t4,t5,t6⟩:=aQ tb;go_simp⟩) hT ?_
           simp only[Act.put,zL,zM,zN]
           refine aq 5 (.string (rO bs)) 110 rfl rfl (Or.inl ⟨by rfl,fun w' hw=>by obtain ⟨tg,tb,t7⟩:=hw;obtain ⟨t0,t1,t2,t3⟩:=eu tg;obtain ⟨t4,t5,t6⟩:=aQ tb;have Eg:=na t7.has (aa Vb);go_simp⟩) hT ?_
           simp only[Act.put,zL,zM,zN]
           refine aq 6 (.pointer (some ⟨b,0,none⟩)) 111 rfl rfl (Or.inl ⟨by rfl,fun w' hw=>by obtain ⟨tg,tb,t7⟩:=hw;obtain ⟨t0,t1,t2,t3⟩:=eu tg;obtain ⟨t4,t5,t6⟩:=aQ tb;go_simp⟩) hT ?_
           simp only[Act.put,zL,zM,zN]
           refine aq 7 (.pointer (some ⟨b,0,none⟩)) 112 rfl rfl (Or.inl ⟨by rfl,fun w' hw=>by obtain ⟨tg,tb,t7⟩:=hw;obtain ⟨t0,t1,t2,t3⟩:=eu tg;obtain ⟨t4,t5,t6⟩:=aQ tb;go_simp⟩) hT ?_
           simp only[Act.put,zL,zM,zN]
           refine aq 8 (.pointer (some ⟨b,3,none⟩)) 113 rfl rfl (Or.inl ⟨by rfl,fun w' hw=>by obtain ⟨tg,tb,t7⟩:=hw;obtain ⟨t0,t1,t2,t3⟩:=eu tg;obtain ⟨t4,t5,t6⟩:=aQ tb;go_simp⟩) hT ?_
           simp only[Act.put,zL,zM,zN]
           refine aq 9 (.int .i64 (Dn:Int)) 114 rfl rfl (Or.inl ⟨by rfl,fun w' hw=>by obtain ⟨tg,tb,t7⟩:=hw;obtain ⟨t0,t1,t2,t3⟩:=eu tg;obtain ⟨t4,t5,t6⟩:=aQ tb;go_simp⟩) hT ?_
           simp only[Act.put,zL,zM,zN]
           refine aq 10 (.bool true) 115 rfl rfl (Or.inl ⟨by rfl,fun w' hw=>by obtain ⟨tg,tb,t7⟩:=hw;obtain ⟨t0,t1,t2,t3⟩:=eu tg;obtain ⟨t4,t5,t6⟩:=aQ tb;go_simp⟩) hT ?_
           simp only[Act.put,zL,zM,zN]
           refine aq 11 (.bool true) 116 rfl rfl (Or.inl ⟨by rfl,fun w' hw=>by obtain ⟨tg,tb,t7⟩:=hw;obtain ⟨t0,t1,t2,t3⟩:=eu tg;obtain ⟨t4,t5,t6⟩:=aQ tb;go_simp⟩) hT ?_
           simp only[Act.put,zL,zM,zN]
           refine aq 12 (.pointer (some ⟨b,0,none⟩)) 117 rfl rfl (Or.inl ⟨by rfl,fun w' hw=>by obtain ⟨tg,tb,t7⟩:=hw;obtain ⟨t0,t1,t2,t3⟩:=eu tg;obtain ⟨t4,t5,t6⟩:=aQ tb;go_simp⟩) hT ?_
           simp only[Act.put,zL,zM,zN]
           refine aq 13 (.pointer (some ⟨b,0,none⟩)) 118 rfl rfl (Or.inl ⟨by rfl,fun w' hw=>by obtain ⟨tg,tb,t7⟩:=hw;obtain ⟨t0,t1,t2,t3⟩:=eu tg;obtain ⟨t4,t5,t6⟩:=aQ tb;go_simp⟩) hT ?_
           simp only[Act.put,zL,zM,zN]
           refine aq 14 (.pointer (some ⟨b,4,none⟩)) 119 rfl rfl (Or.inl ⟨by rfl,fun w' hw=>by obtain ⟨tg,tb,t7⟩:=hw;obtain ⟨t0,t1,t2,t3⟩:=eu tg;obtain ⟨t4,t5,t6⟩:=aQ tb;go_simp⟩) hT ?_
           simp only[Act.put,zL,zM,zN]
           refine aq 15 (.int .i64 (N9:Int)) 120 rfl rfl (Or.inl ⟨by rfl,fun w' hw=>by obtain ⟨tg,tb,t7⟩:=hw;obtain ⟨t0,t1,t2,t3⟩:=eu tg;obtain ⟨t4,t5,t6⟩:=aQ tb;go_simp⟩) hT ?_
           simp only[Act.put,zL,zM,zN]
           refine aq 16 (.bool true) 121 rfl rfl (Or.inl ⟨by rfl,fun w' hw=>by obtain ⟨tg,tb,t7⟩:=hw;obtain ⟨t0,t1,t2,t3⟩:=eu tg;obtain ⟨t4,t5,t6⟩:=aQ tb;go_simp⟩) hT ?_
           simp only[Act.put,zL,zM,zN]
           refine aq 17 (.bool true) 122 rfl rfl (Or.inl ⟨by rfl,fun w' hw=>by obtain ⟨tg,tb,t7⟩:=hw;obtain ⟨t0,t1,t2,t3⟩:=eu tg;obtain ⟨t4,t5,t6⟩:=aQ tb;go_simp⟩) hT ?_
           simp only[Act.put,zL,zM,zN]
           refine aq 18 (.bool true) 123 rfl rfl (Or.inl ⟨by rfl,fun w' hw=>by obtain ⟨tg,tb,t7⟩:=hw;obtain ⟨t0,t1,t2,t3⟩:=eu tg;obtain ⟨t4,t5,t6⟩:=aQ tb;go_simp⟩) hT ?_
           simp only[Act.put,zL,zM,zN]
           refine aq 19 (.pointer (some ⟨b,0,none⟩)) 124 rfl rfl (Or.inl ⟨by rfl,fun w' hw=>by obtain ⟨tg,tb,t7⟩:=hw;obtain ⟨t0,t1,t2,t3⟩:=eu tg;obtain ⟨t4,t5,t6⟩:=aQ tb;go_simp⟩) hT ?_
           simp only[Act.put,zL,zM,zN]
           refine aq 20 (.pointer (some ⟨b,0,none⟩)) 125 rfl rfl (Or.inl ⟨by rfl,fun w' hw=>by obtain ⟨tg,tb,t7⟩:=hw;obtain ⟨t0,t1,t2,t3⟩:=eu tg;obtain ⟨t4,t5,t6⟩:=aQ tb;go_simp⟩) hT ?_
           simp only[Act.put,zL,zM,zN]
           refine aq 21 (.pointer (some ⟨b,0,none⟩)) 126 rfl rfl (Or.inl ⟨by rfl,fun w' hw=>by obtain ⟨tg,tb,t7⟩:=hw;obtain ⟨t0,t1,t2,t3⟩:=eu tg;obtain ⟨t4,t5,t6⟩:=aQ tb;go_simp⟩) hT ?_
           simp only[Act.put,zL,zM,zN]
           refine aq 22 (.slice Qn bs.length Ql) 127 rfl rfl (Or.inl ⟨by rfl,fun w' hw=>by obtain ⟨tg,tb,t7⟩:=hw;obtain ⟨t0,t1,t2,t3⟩:=eu tg;obtain ⟨t4,t5,t6⟩:=aQ tb;go_simp⟩) hT ?_
           simp only[Act.put,zL,zM,zN]
           refine aq 23 (.int .i64 (bs.length:Int)) 128 rfl rfl (Or.inl ⟨by rfl,fun w' hw=>by obtain ⟨tg,tb,t7⟩:=hw;obtain ⟨t0,t1,t2,t3⟩:=eu tg;obtain ⟨t4,t5,t6⟩:=aQ tb;go_simp⟩) hT ?_
           simp only[Act.put,zL,zM,zN]
           refine aq 24 (.bool Xu) 129 rfl rfl (Or.inl ⟨by rfl,fun w' hw=>by obtain ⟨tg,tb,t7⟩:=hw;obtain ⟨t0,t1,t2,t3⟩:=eu tg;obtain ⟨t4,t5,t6⟩:=aQ tb;go_simp⟩) hT ?_
           simp only[Act.put,zL,zM,zN]
           refine aq 25 (.bool Xu) 130 rfl rfl (Or.inl ⟨by rfl,fun w' hw=>by obtain ⟨tg,tb,t7⟩:=hw;obtain ⟨t0,t1,t2,t3⟩:=eu tg;obtain ⟨t4,t5,t6⟩:=aQ tb;go_simp⟩) hT ?_
           simp only[Act.put,zL,zM,zN]
           have Ck:∀j,wd.frozen? ⟨W.heap.size+1,j,none⟩=false:=fun j=>by simp[World.frozen?,FO]
           obtain ⟨p0,p1,p2,p3⟩:=eu FO
           have Xy:=Ck 0
           have Xx:=Ck 1
           have Xw:=Ck 2
           have Xv:=Ck 3
           obtain ⟨s1,s2⟩:=fE FO (.string pk) (.slice ua is.length uc) (.slice ma ms.length mc) (.slice ea es.length ec)
           unfold fP at s1 s2
           have jR:=hT.off s2 (aa Ju).2.1 (aa Ju).2.2.1 (aa Ju).2.2.2
           have ko:=aj ((aa A7).out Qy s2 FW)
           refine ay 26 (by kernel_rfl) rfl (fun K hK=>?_)
           go_simp
           refine hK _ _ ⟨fun _=>jR,?_⟩
           clear hK K hT
           refine ay 27 (by kernel_rfl) rfl (fun K hK=>?_)
           go_simp
           refine hK _ _ ⟨fun _=>jR,?_⟩
           clear hK K
           refine ay 28 (by kernel_rfl) rfl (fun K hK=>?_)
           go_simp
           refine hK _ _ ⟨fun _=>jR,?_⟩
           clear hK K jR
           refine bn (by kernel_rfl) ?_
           have Ln:Hid (PV W (.returned (.tuple #[.agg #[.string pk,.slice ua is.length uc,.slice ma ms.length mc,.slice ea es.length ec],.string (rO bs),.bool Xu])) ((((wd.setCell ⟨W.heap.size+1,0,none⟩ (.string pk)).setCell ⟨W.heap.size+1,1,none⟩ (.slice ua is.length uc)).setCell ⟨W.heap.size+1,2,none⟩ (.slice ma ms.length mc)).setCell ⟨W.heap.size+1,3,none⟩ (.slice ea es.length ec))):=by
            have NI:(decide (Dn≤4096)&&decide (Ox.length<16384)&&decide ((rO bs).size≤65536))=Xu:=by
             rw[iE,aa HN9]
             obtain ⟨k1,k2,k3⟩:=aa E7
             rw[decide_eq_true k1,decide_eq_true k2,k3]
             rfl
            refine ⟨⟨pk,is,ms,es⟩,_,_,_,rO bs,Ox,Dn,_,?_,(aa ko).1,(aa Q9).1,(aa Q9).2,(aa A7).wr.ok,?_,(aa ko).2⟩
            ·rw[NI]
            ·rw[oU (aa Vb)]
             exact (aa HBs).symm
           obtain ⟨e0,e1,e2,e3⟩:=eu s1
           clear s2 ko FO Ck Xy Xx Xw Xv p0 p1 p2 p3 FW Qy
           go_wp2
           exact bodyPost_ret (mM (p:=4) (q:=5) (r:=6) rfl _ _ (W.heap.size+1) 26 #[.string pk,.slice ua is.length uc,.slice ma ms.length mc,.slice ea es.length ec] (0,0) _ rfl s1 Tryz.underlying26 rfl oq) rfl (aa Ln)
          ·have f2:decide ((N9:Int)<16384)=false:=by simp;omega
           have E7:=aj k2
           clear k1 k2
           refine wp_region_any (by kernel_rfl) (ck (z:=99) (T:=NS g b #[.string pk,.slice ua is.length uc,.slice ma ms.length mc,.slice ea es.length ec] (.slice Qn bs.length Ql) (.slice sa sn sc) N9 Dn bs) _ _ _ _ ?_)
           try (change cL _ _ _ _ _ _ _ _ _ (World.drew _))
           have hT:=(aa xv).drew
           obtain ⟨wd,jb⟩:∃x,wr.drew=x:=⟨_,rfl⟩
           have FO:wd.heap[W.heap.size+1]?=some (.cells fz 26 (0,0)):=by rw[←jb];exact (aa Ju).1
           have FW:Below W.heap.size W wd:=by rw[←jb];exact below_drewN (aa A7).ez 1
           have Qy:wd.heap=wr.heap:=by rw[←jb];rfl
           rw[jb] at hT ⊢
           refine aq 0 (.agg #[.string pk,.slice ua is.length uc,.slice ma ms.length mc,.slice ea es.length ec]) 105 rfl rfl (Or.inl ⟨by rfl,fun w' hw=>by obtain ⟨tg,tb,t7⟩:=hw;obtain ⟨t0,t1,t2,t3⟩:=eu tg;obtain ⟨t4,t5,t6⟩:=aQ tb;go_simp⟩) hT ?_
           simp only[Act.put,zL,zM,zN]
           refine aq 1 (.pointer (some ⟨b,0,none⟩)) 106 rfl rfl (Or.inl ⟨by rfl,fun w' hw=>by obtain ⟨tg,tb,t7⟩:=hw;obtain ⟨t0,t1,t2,t3⟩:=eu tg;obtain ⟨t4,t5,t6⟩:=aQ tb;go_simp⟩) hT ?_
           simp only[Act.put,zL,zM,zN]
           refine aq 2 (.pointer (some ⟨b,0,none⟩)) 107 rfl rfl (Or.inl ⟨by rfl,fun w' hw=>by obtain ⟨tg,tb,t7⟩:=hw;obtain ⟨t0,t1,t2,t3⟩:=eu tg;obtain ⟨t4,t5,t6⟩:=aQ tb;go_simp⟩) hT ?_
           simp only[Act.put,zL,zM,zN]
           refine aq 3 (.pointer (some ⟨b,0,none⟩)) 108 rfl rfl (Or.inl ⟨by rfl,fun w' hw=>by obtain ⟨tg,tb,t7⟩:=hw;obtain ⟨t0,t1,t2,t3⟩:=eu tg;obtain ⟨t4,t5,t6⟩:=aQ tb;go_simp⟩) hT ?_
           simp only[Act.put,zL,zM,zN]
           refine aq 4 (.slice Qn bs.length Ql) 109 rfl rfl (Or.inl ⟨by rfl,fun w' hw=>by obtain ⟨tg,tb,t7⟩:=hw;obtain ⟨t0,t1,t2,t3⟩:=eu tg;obtain ⟨t4,t5,t6⟩:=aQ tb;go_simp⟩) hT ?_
           simp only[Act.put,zL,zM,zN]
           refine aq 5 (.string (rO bs)) 110 rfl rfl (Or.inl ⟨by rfl,fun w' hw=>by obtain ⟨tg,tb,t7⟩:=hw;obtain ⟨t0,t1,t2,t3⟩:=eu tg;obtain ⟨t4,t5,t6⟩:=aQ tb;have Eg:=na t7.has (aa Vb);go_simp⟩) hT ?_
           simp only[Act.put,zL,zM,zN]
           refine aq 6 (.pointer (some ⟨b,0,none⟩)) 111 rfl rfl (Or.inl ⟨by rfl,fun w' hw=>by obtain ⟨tg,tb,t7⟩:=hw;obtain ⟨t0,t1,t2,t3⟩:=eu tg;obtain ⟨t4,t5,t6⟩:=aQ tb;go_simp⟩) hT ?_
           simp only[Act.put,zL,zM,zN]
           refine aq 7 (.pointer (some ⟨b,0,none⟩)) 112 rfl rfl (Or.inl ⟨by rfl,fun w' hw=>by obtain ⟨tg,tb,t7⟩:=hw;obtain ⟨t0,t1,t2,t3⟩:=eu tg;obtain ⟨t4,t5,t6⟩:=aQ tb;go_simp⟩) hT ?_
           simp only[Act.put,zL,zM,zN]
           refine aq 8 (.pointer (some ⟨b,3,none⟩)) 113 rfl rfl (Or.inl ⟨by rfl,fun w' hw=>by obtain ⟨tg,tb,t7⟩:=hw;obtain ⟨t0,t1,t2,t3⟩:=eu tg;obtain ⟨t4,t5,t6⟩:=aQ tb;go_simp⟩) hT ?_
           simp only[Act.put,zL,zM,zN]
           refine aq 9 (.int .i64 (Dn:Int)) 114 rfl rfl (Or.inl ⟨by rfl,fun w' hw=>by obtain ⟨tg,tb,t7⟩:=hw;obtain ⟨t0,t1,t2,t3⟩:=eu tg;obtain ⟨t4,t5,t6⟩:=aQ tb;go_simp⟩) hT ?_
           simp only[Act.put,zL,zM,zN]
           refine aq 10 (.bool true) 115 rfl rfl (Or.inl ⟨by rfl,fun w' hw=>by obtain ⟨tg,tb,t7⟩:=hw;obtain ⟨t0,t1,t2,t3⟩:=eu tg;obtain ⟨t4,t5,t6⟩:=aQ tb;go_simp⟩) hT ?_
           simp only[Act.put,zL,zM,zN]
           refine aq 11 (.bool true) 116 rfl rfl (Or.inl ⟨by rfl,fun w' hw=>by obtain ⟨tg,tb,t7⟩:=hw;obtain ⟨t0,t1,t2,t3⟩:=eu tg;obtain ⟨t4,t5,t6⟩:=aQ tb;go_simp⟩) hT ?_
           simp only[Act.put,zL,zM,zN]
           refine aq 12 (.pointer (some ⟨b,0,none⟩)) 117 rfl rfl (Or.inl ⟨by rfl,fun w' hw=>by obtain ⟨tg,tb,t7⟩:=hw;obtain ⟨t0,t1,t2,t3⟩:=eu tg;obtain ⟨t4,t5,t6⟩:=aQ tb;go_simp⟩) hT ?_
           simp only[Act.put,zL,zM,zN]
           refine aq 13 (.pointer (some ⟨b,0,none⟩)) 118 rfl rfl (Or.inl ⟨by rfl,fun w' hw=>by obtain ⟨tg,tb,t7⟩:=hw;obtain ⟨t0,t1,t2,t3⟩:=eu tg;obtain ⟨t4,t5,t6⟩:=aQ tb;go_simp⟩) hT ?_
           simp only[Act.put,zL,zM,zN]
           refine aq 14 (.pointer (some ⟨b,4,none⟩)) 119 rfl rfl (Or.inl ⟨by rfl,fun w' hw=>by obtain ⟨tg,tb,t7⟩:=hw;obtain ⟨t0,t1,t2,t3⟩:=eu tg;obtain ⟨t4,t5,t6⟩:=aQ tb;go_simp⟩) hT ?_
           simp only[Act.put,zL,zM,zN]
           refine aq 15 (.int .i64 (N9:Int)) 120 rfl rfl (Or.inl ⟨by rfl,fun w' hw=>by obtain ⟨tg,tb,t7⟩:=hw;obtain ⟨t0,t1,t2,t3⟩:=eu tg;obtain ⟨t4,t5,t6⟩:=aQ tb;go_simp⟩) hT ?_
           simp only[Act.put,zL,zM,zN]
           refine aq 16 (.bool false) 121 rfl rfl (Or.inl ⟨by rfl,fun w' hw=>by obtain ⟨tg,tb,t7⟩:=hw;obtain ⟨t0,t1,t2,t3⟩:=eu tg;obtain ⟨t4,t5,t6⟩:=aQ tb;go_simp⟩) hT ?_
           simp only[Act.put,zL,zM,zN]
           refine aq 17 (.bool false) 122 rfl rfl (Or.inl ⟨by rfl,fun w' hw=>by obtain ⟨tg,tb,t7⟩:=hw;obtain ⟨t0,t1,t2,t3⟩:=eu tg;obtain ⟨t4,t5,t6⟩:=aQ tb;go_simp⟩) hT ?_
           simp only[Act.put,zL,zM,zN]
           refine aq 18 (.bool false) 123 rfl rfl (Or.inl ⟨by rfl,fun w' hw=>by obtain ⟨tg,tb,t7⟩:=hw;obtain ⟨t0,t1,t2,t3⟩:=eu tg;obtain ⟨t4,t5,t6⟩:=aQ tb;go_simp⟩) hT ?_
           simp only[Act.put,zL,zM,zN]
           refine aq 19 undef 124 rfl rfl (Or.inr ⟨by rfl,rfl⟩) hT ?_
           simp only[Act.put,zL,zM,zN]
           refine aq 20 undef 125 rfl rfl (Or.inr ⟨by rfl,rfl⟩) hT ?_
           simp only[Act.put,zL,zM,zN]
           refine aq 21 undef 126 rfl rfl (Or.inr ⟨by rfl,rfl⟩) hT ?_
           simp only[Act.put,zL,zM,zN]
           refine aq 22 undef 127 rfl rfl (Or.inr ⟨by rfl,rfl⟩) hT ?_
           simp only[Act.put,zL,zM,zN]
           refine aq 23 undef 128 rfl rfl (Or.inr ⟨by rfl,rfl⟩) hT ?_
           simp only[Act.put,zL,zM,zN]
           refine aq 24 undef 129 rfl rfl (Or.inr ⟨by rfl,rfl⟩) hT ?_
           simp only[Act.put,zL,zM,zN]
           refine aq 25 (.bool false) 130 rfl rfl (Or.inl ⟨by rfl,fun w' hw=>by obtain ⟨tg,tb,t7⟩:=hw;obtain ⟨t0,t1,t2,t3⟩:=eu tg;obtain ⟨t4,t5,t6⟩:=aQ tb;go_simp⟩) hT ?_
           simp only[Act.put,zL,zM,zN]
           have Ck:∀j,wd.frozen? ⟨W.heap.size+1,j,none⟩=false:=fun j=>by simp[World.frozen?,FO]
           obtain ⟨p0,p1,p2,p3⟩:=eu FO
           have Xy:=Ck 0
           have Xx:=Ck 1
           have Xw:=Ck 2
           have Xv:=Ck 3
           obtain ⟨s1,s2⟩:=fE FO (.string pk) (.slice ua is.length uc) (.slice ma ms.length mc) (.slice ea es.length ec)
           unfold fP at s1 s2
           have jR:=hT.off s2 (aa Ju).2.1 (aa Ju).2.2.1 (aa Ju).2.2.2
           have ko:=aj ((aa A7).out Qy s2 FW)
           refine ay 26 (by kernel_rfl) rfl (fun K hK=>?_)
           go_simp
           refine hK _ _ ⟨fun _=>jR,?_⟩
           clear hK K hT
           refine ay 27 (by kernel_rfl) rfl (fun K hK=>?_)
           go_simp
           refine hK _ _ ⟨fun _=>jR,?_⟩
           clear hK K
           refine ay 28 (by kernel_rfl) rfl (fun K hK=>?_)
           go_simp
           refine hK _ _ ⟨fun _=>jR,?_⟩
           clear hK K jR
           refine bn (by kernel_rfl) ?_
           have Ln:Hid (PV W (.returned (.tuple #[.agg #[.string pk,.slice ua is.length uc,.slice ma ms.length mc,.slice ea es.length ec],.string (rO bs),.bool false])) ((((wd.setCell ⟨W.heap.size+1,0,none⟩ (.string pk)).setCell ⟨W.heap.size+1,1,none⟩ (.slice ua is.length uc)).setCell ⟨W.heap.size+1,2,none⟩ (.slice ma ms.length mc)).setCell ⟨W.heap.size+1,3,none⟩ (.slice ea es.length ec))):=by
            have NI:(decide (Dn≤4096)&&decide (Ox.length<16384)&&decide ((rO bs).size≤65536))=false:=by
             rw[iE,aa HN9]
             rw[decide_eq_false (aa E7),Bool.and_false,Bool.false_and]
            refine ⟨⟨pk,is,ms,es⟩,_,_,_,rO bs,Ox,Dn,_,?_,(aa ko).1,(aa Q9).1,(aa Q9).2,(aa A7).wr.ok,?_,(aa ko).2⟩
            ·rw[NI]
            ·rw[oU (aa Vb)]
             exact (aa HBs).symm
           obtain ⟨e0,e1,e2,e3⟩:=eu s1
           clear s2 ko FO Ck Xy Xx Xw Xv p0 p1 p2 p3 FW Qy
           go_wp2
           exact bodyPost_ret (mM (p:=4) (q:=5) (r:=6) rfl _ _ (W.heap.size+1) 26 #[.string pk,.slice ua is.length uc,.slice ma ms.length mc,.slice ea es.length ec] (0,0) _ rfl s1 Tryz.underlying26 rfl oq) rfl (aa Ln)
         ·have f1:decide ((Dn:Int)≤4096)=false:=by simp;omega
          have E7:=aj k1
          clear k1
          refine wp_region_any (by kernel_rfl) (ck (z:=99) (T:=NS g b #[.string pk,.slice ua is.length uc,.slice ma ms.length mc,.slice ea es.length ec] (.slice Qn bs.length Ql) (.slice sa sn sc) N9 Dn bs) _ _ _ _ ?_)
          try (change cL _ _ _ _ _ _ _ _ _ (World.drew _))
          have hT:=(aa xv).drew
          obtain ⟨wd,jb⟩:∃x,wr.drew=x:=⟨_,rfl⟩
          have FO:wd.heap[W.heap.size+1]?=some (.cells fz 26 (0,0)):=by rw[←jb];exact (aa Ju).1
          have FW:Below W.heap.size W wd:=by rw[←jb];exact below_drewN (aa A7).ez 1
          have Qy:wd.heap=wr.heap:=by rw[←jb];rfl
          rw[jb] at hT ⊢
          refine aq 0 (.agg #[.string pk,.slice ua is.length uc,.slice ma ms.length mc,.slice ea es.length ec]) 105 rfl rfl (Or.inl ⟨by rfl,fun w' hw=>by obtain ⟨tg,tb,t7⟩:=hw;obtain ⟨t0,t1,t2,t3⟩:=eu tg;obtain ⟨t4,t5,t6⟩:=aQ tb;go_simp⟩) hT ?_
          simp only[Act.put,zL,zM,zN]
          refine aq 1 (.pointer (some ⟨b,0,none⟩)) 106 rfl rfl (Or.inl ⟨by rfl,fun w' hw=>by obtain ⟨tg,tb,t7⟩:=hw;obtain ⟨t0,t1,t2,t3⟩:=eu tg;obtain ⟨t4,t5,t6⟩:=aQ tb;go_simp⟩) hT ?_
          simp only[Act.put,zL,zM,zN]
          refine aq 2 (.pointer (some ⟨b,0,none⟩)) 107 rfl rfl (Or.inl ⟨by rfl,fun w' hw=>by obtain ⟨tg,tb,t7⟩:=hw;obtain ⟨t0,t1,t2,t3⟩:=eu tg;obtain ⟨t4,t5,t6⟩:=aQ tb;go_simp⟩) hT ?_
          simp only[Act.put,zL,zM,zN]
          refine aq 3 (.pointer (some ⟨b,0,none⟩)) 108 rfl rfl (Or.inl ⟨by rfl,fun w' hw=>by obtain ⟨tg,tb,t7⟩:=hw;obtain ⟨t0,t1,t2,t3⟩:=eu tg;obtain ⟨t4,t5,t6⟩:=aQ tb;go_simp⟩) hT ?_
          simp only[Act.put,zL,zM,zN]
          refine aq 4 (.slice Qn bs.length Ql) 109 rfl rfl (Or.inl ⟨by rfl,fun w' hw=>by obtain ⟨tg,tb,t7⟩:=hw;obtain ⟨t0,t1,t2,t3⟩:=eu tg;obtain ⟨t4,t5,t6⟩:=aQ tb;go_simp⟩) hT ?_
          simp only[Act.put,zL,zM,zN]
          refine aq 5 (.string (rO bs)) 110 rfl rfl (Or.inl ⟨by rfl,fun w' hw=>by obtain ⟨tg,tb,t7⟩:=hw;obtain ⟨t0,t1,t2,t3⟩:=eu tg;obtain ⟨t4,t5,t6⟩:=aQ tb;have Eg:=na t7.has (aa Vb);go_simp⟩) hT ?_
          simp only[Act.put,zL,zM,zN]
          refine aq 6 (.pointer (some ⟨b,0,none⟩)) 111 rfl rfl (Or.inl ⟨by rfl,fun w' hw=>by obtain ⟨tg,tb,t7⟩:=hw;obtain ⟨t0,t1,t2,t3⟩:=eu tg;obtain ⟨t4,t5,t6⟩:=aQ tb;go_simp⟩) hT ?_
          simp only[Act.put,zL,zM,zN]
          refine aq 7 (.pointer (some ⟨b,0,none⟩)) 112 rfl rfl (Or.inl ⟨by rfl,fun w' hw=>by obtain ⟨tg,tb,t7⟩:=hw;obtain ⟨t0,t1,t2,t3⟩:=eu tg;obtain ⟨t4,t5,t6⟩:=aQ tb;go_simp⟩) hT ?_
          simp only[Act.put,zL,zM,zN]
          refine aq 8 (.pointer (some ⟨b,3,none⟩)) 113 rfl rfl (Or.inl ⟨by rfl,fun w' hw=>by obtain ⟨tg,tb,t7⟩:=hw;obtain ⟨t0,t1,t2,t3⟩:=eu tg;obtain ⟨t4,t5,t6⟩:=aQ tb;go_simp⟩) hT ?_
          simp only[Act.put,zL,zM,zN]
          refine aq 9 (.int .i64 (Dn:Int)) 114 rfl rfl (Or.inl ⟨by rfl,fun w' hw=>by obtain ⟨tg,tb,t7⟩:=hw;obtain ⟨t0,t1,t2,t3⟩:=eu tg;obtain ⟨t4,t5,t6⟩:=aQ tb;go_simp⟩) hT ?_
          simp only[Act.put,zL,zM,zN]
          refine aq 10 (.bool false) 115 rfl rfl (Or.inl ⟨by rfl,fun w' hw=>by obtain ⟨tg,tb,t7⟩:=hw;obtain ⟨t0,t1,t2,t3⟩:=eu tg;obtain ⟨t4,t5,t6⟩:=aQ tb;go_simp⟩) hT ?_
          simp only[Act.put,zL,zM,zN]
          refine aq 11 (.bool false) 116 rfl rfl (Or.inl ⟨by rfl,fun w' hw=>by obtain ⟨tg,tb,t7⟩:=hw;obtain ⟨t0,t1,t2,t3⟩:=eu tg;obtain ⟨t4,t5,t6⟩:=aQ tb;go_simp⟩) hT ?_
          simp only[Act.put,zL,zM,zN]
          refine aq 12 undef 117 rfl rfl (Or.inr ⟨by rfl,rfl⟩) hT ?_
          simp only[Act.put,zL,zM,zN]
          refine aq 13 undef 118 rfl rfl (Or.inr ⟨by rfl,rfl⟩) hT ?_
          simp only[Act.put,zL,zM,zN]
          refine aq 14 undef 119 rfl rfl (Or.inr ⟨by rfl,rfl⟩) hT ?_
          simp only[Act.put,zL,zM,zN]
          refine aq 15 undef 120 rfl rfl (Or.inr ⟨by rfl,rfl⟩) hT ?_
          simp only[Act.put,zL,zM,zN]
          refine aq 16 undef 121 rfl rfl (Or.inr ⟨by rfl,rfl⟩) hT ?_
          simp only[Act.put,zL,zM,zN]
          refine aq 17 (.bool false) 122 rfl rfl (Or.inl ⟨by rfl,fun w' hw=>by obtain ⟨tg,tb,t7⟩:=hw;obtain ⟨t0,t1,t2,t3⟩:=eu tg;obtain ⟨t4,t5,t6⟩:=aQ tb;go_simp⟩) hT ?_
          simp only[Act.put,zL,zM,zN]
          refine aq 18 (.bool false) 123 rfl rfl (Or.inl ⟨by rfl,fun w' hw=>by obtain ⟨tg,tb,t7⟩:=hw;obtain ⟨t0,t1,t2,t3⟩:=eu tg;obtain ⟨t4,t5,t6⟩:=aQ tb;go_simp⟩) hT ?_
          simp only[Act.put,zL,zM,zN]
          refine aq 19 undef 124 rfl rfl (Or.inr ⟨by rfl,rfl⟩) hT ?_
          simp only[Act.put,zL,zM,zN]
          refine aq 20 undef 125 rfl rfl (Or.inr ⟨by rfl,rfl⟩) hT ?_
          simp only[Act.put,zL,zM,zN]
          refine aq 21 undef 126 rfl rfl (Or.inr ⟨by rfl,rfl⟩) hT ?_
          simp only[Act.put,zL,zM,zN]
          refine aq 22 undef 127 rfl rfl (Or.inr ⟨by rfl,rfl⟩) hT ?_
          simp only[Act.put,zL,zM,zN]
          refine aq 23 undef 128 rfl rfl (Or.inr ⟨by rfl,rfl⟩) hT ?_
          simp only[Act.put,zL,zM,zN]
          refine aq 24 undef 129 rfl rfl (Or.inr ⟨by rfl,rfl⟩) hT ?_
          simp only[Act.put,zL,zM,zN]
          refine aq 25 (.bool false) 130 rfl rfl (Or.inl ⟨by rfl,fun w' hw=>by obtain ⟨tg,tb,t7⟩:=hw;obtain ⟨t0,t1,t2,t3⟩:=eu tg;obtain ⟨t4,t5,t6⟩:=aQ tb;go_simp⟩) hT ?_
          simp only[Act.put,zL,zM,zN]
          have Ck:∀j,wd.frozen? ⟨W.heap.size+1,j,none⟩=false:=fun j=>by simp[World.frozen?,FO]
          obtain ⟨p0,p1,p2,p3⟩:=eu FO
          have Xy:=Ck 0
          have Xx:=Ck 1
          have Xw:=Ck 2
          have Xv:=Ck 3
          obtain ⟨s1,s2⟩:=fE FO (.string pk) (.slice ua is.length uc) (.slice ma ms.length mc) (.slice ea es.length ec)
          unfold fP at s1 s2
          have jR:=hT.off s2 (aa Ju).2.1 (aa Ju).2.2.1 (aa Ju).2.2.2
          have ko:=aj ((aa A7).out Qy s2 FW)
          refine ay 26 (by kernel_rfl) rfl (fun K hK=>?_)
          go_simp
          refine hK _ _ ⟨fun _=>jR,?_⟩
          clear hK K hT
          refine ay 27 (by kernel_rfl) rfl (fun K hK=>?_)
          go_simp
          refine hK _ _ ⟨fun _=>jR,?_⟩
          clear hK K
          refine ay 28 (by kernel_rfl) rfl (fun K hK=>?_)
          go_simp
          refine hK _ _ ⟨fun _=>jR,?_⟩
          clear hK K jR
          refine bn (by kernel_rfl) ?_
          have Ln:Hid (PV W (.returned (.tuple #[.agg #[.string pk,.slice ua is.length uc,.slice ma ms.length mc,.slice ea es.length ec],.string (rO bs),.bool false])) ((((wd.setCell ⟨W.heap.size+1,0,none⟩ (.string pk)).setCell ⟨W.heap.size+1,1,none⟩ (.slice ua is.length uc)).setCell ⟨W.heap.size+1,2,none⟩ (.slice ma ms.length mc)).setCell ⟨W.heap.size+1,3,none⟩ (.slice ea es.length ec))):=by
           have NI:(decide (Dn≤4096)&&decide (Ox.length<16384)&&decide ((rO bs).size≤65536))=false:=by
            rw[iE,aa HN9]
            rw[decide_eq_false (aa E7),Bool.false_and,Bool.false_and]
           refine ⟨⟨pk,is,ms,es⟩,_,_,_,rO bs,Ox,Dn,_,?_,(aa ko).1,(aa Q9).1,(aa Q9).2,(aa A7).wr.ok,?_,(aa ko).2⟩
           ·rw[NI]
           ·rw[oU (aa Vb)]
            exact (aa HBs).symm
          obtain ⟨e0,e1,e2,e3⟩:=eu s1
          clear s2 ko FO Ck Xy Xx Xw Xv p0 p1 p2 p3 FW Qy
          go_wp2
          exact bodyPost_ret (mM (p:=4) (q:=5) (r:=6) rfl _ _ (W.heap.size+1) 26 #[.string pk,.slice ua is.length uc,.slice ma ms.length mc,.slice ea es.length ec] (0,0) _ rfl s1 Tryz.underlying26 rfl oq) rfl (aa Ln)
end Go.Proofs.YtmlphohdcejniaaGreatDoor

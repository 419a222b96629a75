import Derived.Test.YtichhjfjcinjgaaGreatDoorM50
set_option maxHeartbeats 8000000
set_option maxRecDepth 100000
namespace Go.Proofs.YtichhjfjcinjgaaGreatDoor
open Go.RowKit
attribute [local go_sem ↓] Go.wp_at_zero Go.wp_at_succ
theorem zg {W:World}{v vi vm ve:Value}{F:Fl}{cm ce:List Value} (hF:iG W) (hE:jW W) (hM:ia W) (hP:iF W) (h:yH W v F vi vm ve cm ce) (hr:Lu F) (hs:∀m ∈ F.ms,vM 32 m) (hc:mf F≤1048576) :
  Calls Tryz.prog 5 #[v] W fun e w=>e=.returned (.bool true)∧Below W.heap.size W w:=by
 obtain ⟨pk,is,ms,es⟩:=F
 have XG:=al (fun w' hb=>nV h hr w' hb)
 have XJ:=al (fun w' hb=>ql 200 W vm ms cm h.hm h.et w' hb 0 (by omega) (by omega))
 have T9:=al h
 have Qb:=al hr.cut
 have Hs:=al (show ∀m ∈ gK 200 ms,vM 32 m from fun m hm=>by obtain ⟨x,hx,rfl⟩:=List.mem_map.1 (show m ∈ ms.map (lM 199) from hm);exact CZ 32 199 x (hs x hx))
 have ON:=al (Nat.le_trans (II ⟨pk,is,ms,es⟩) hc)
 have CI:=al (IE 200 ms)
 obtain ⟨rfl,⟨fi,Mh,rfl,-,-⟩,⟨fm,Mg,rfl,-,-⟩,-,⟨fe,Mj,rfl,-,-⟩,-⟩:=h
 unfold AG at Qb ON
 simp only at XG XJ T9 Qb ON ⊢
 have CJ:=al (And.intro hM (And.intro hE (And.intro hP hF)))
 have k0:=aK W (.cells #[.string pk,.slice fi is.length Mh,.slice fm ms.length Mg,.slice fe es.length Mj] 26)
 have b0:Below W.heap.size W (W.alloc (.cells #[.string pk,.slice fi is.length Mh,.slice fm ms.length Mg,.slice fe es.length Mj] 26)):=(zE _ _).alloc (zD _) _
 obtain ⟨V,hV⟩:∃V,W.alloc (.cells #[.string pk,.slice fi is.length Mh,.slice fm ms.length Mg,.slice fe es.length Mj] 26)=V:=⟨_,rfl⟩
 rw[hV] at k0 b0
 have vb:=al (ab XG V b0)
 obtain ⟨c0,c1,c2,c3⟩:=a8 k0
 have HV:=al (And.intro b0 k0)
 clear hM hE hP hF hs hr hc k0 b0 XG
 go_enter Tryz.func5,Tryz.ntmps5
 go_wp2_with fail
 refine (ab vb).mono ?_
 rintro e w1 ⟨u1,ui1,um1,ue1,x1,y1,rfl,dN,aW⟩
 obtain ⟨b0,k0⟩:=ab HV
 have k0:=(aW.block _ (zA k0).1).trans k0
 have hb:=b0.trans (aW.mono b0.size)
 obtain ⟨mi,BS,mm,BR,me,BT,rfl,rfl,rfl⟩:=oQ dN
 obtain rfl:=dN.is
 unfold AG at dN ⊢
 simp only at dN ⊢
 obtain ⟨M,Ws⟩:∃M,gK 200 ms=M:=⟨_,rfl⟩
 rw[Ws] at dN Qb Hs ON CI ⊢
 have XY:=al Ws
 clear Ws
 have k1:=aK w1 (.cells #[.string pk,.slice mi is.length BS,.slice mm M.length BR,.slice me es.length BT] 26)
 have b1:Below w1.heap.size w1 (w1.alloc (.cells #[.string pk,.slice mi is.length BS,.slice mm M.length BR,.slice me es.length BT] 26)):=(zE _ _).alloc (zD _) _
 obtain ⟨V1,hV1⟩:∃V1,w1.alloc (.cells #[.string pk,.slice mi is.length BS,.slice mm M.length BR,.slice me es.length BT] 26)=V1:=⟨_,rfl⟩
 rw[hV1] at k1 b1
 have mB:W.heap.size≤V.heap.size:=b0.size
 have To:V.heap.size≤w1.heap.size:=aW.size
 have EG:=(zA k1).1
 have k0:=(b1.block _ (zA k0).1).trans k0
 have hb:=hb.trans (b1.mono hb.size)
 have dN:=dN.mono (aD b1)
 have HC:=al (ab XJ V1 hb)
 obtain ⟨c0,c1,c2,c3⟩:=a8 k0
 obtain ⟨d0,d1,d2,d3⟩:=a8 k1
 have aM:W.heap.size<w1.heap.size:=by have:=(zA (ab HV).2).1;omega
 have H1:=al (And.intro hb (And.intro k0 (And.intro k1 (And.intro dN (And.intro mB (And.intro To EG))))))
 clear HV b0 k0 hb dN k1 b1 mB To EG aW vb XJ
 go_wp2_with fail
 refine (ab HC).mono ?_
 rintro e w2 ⟨q,rfl,hq,bd⟩
 obtain ⟨hb,k0,k1,dN,mB,To,EG⟩:=ab H1
 have k0:=(bd.block _ (zA k0).1).trans k0
 have k1:=(bd.block _ (zA k1).1).trans k1
 have dN:=dN.mono (aD bd)
 have hb:=hb.trans (bd.mono hb.size)
 have gC:=Nat.le_trans To (Nat.le_trans (Nat.le_of_lt EG) bd.size)
 obtain ⟨c0,c1,c2,c3⟩:=a8 k0
 obtain ⟨d0,d1,d2,d3⟩:=a8 k1
 obtain ⟨z0,z1,z2,z3⟩:=Mf k0
 have Hq:=al hq
 clear bd HC H1 hq
 cases q with
 |true =>
  obtain rfl:M=ms:=by have:=ab XY;rw[uG 200 ms ((ab Hq).1 (by trivial))] at this;exact this.symm
  have Ar:=(ab T9).up hb
  clear Hq XY T9
  obtain ⟨hM,hE,hP,hF⟩:=ab CJ
  have HX:=al (mz (hM.up hb hM.1) (hE.up hb) (hP.up hb) (hF.up hb) dN.yS (ab Hs))
  have H2:=al (And.intro hb (And.intro k0 (And.intro k1 (And.intro Ar (And.intro dN (And.intro mB gC))))))
  obtain ⟨⟨s1,n1⟩,hT⟩:∃T,il ⟨pk,is,M,es⟩=T:=⟨_,rfl⟩
  rw[hT] at HX
  simp only at HX
  have HT:=al hT
  clear hM hE hP hF hb k0 k1 Ar dN mB gC hT
  go_wp2_with fail
  refine (ab HX).mono ?_
  rintro e w4 ⟨rfl,gT⟩
  obtain ⟨hb,k0,k1,Ar,dN,mB,gC⟩:=ab H2
  have k0:=(gT.block _ (zA k0).1).trans k0
  have k1:=(gT.block _ (zA k1).1).trans k1
  have Ar:=Ar.up gT
  have dN:=dN.mono (aD gT)
  have hb:=hb.trans (gT.mono hb.size)
  have gC:=Nat.le_trans gC gT.size
  clear gT H2 HX
  obtain ⟨c0,c1,c2,c3⟩:=a8 k0
  obtain ⟨d0,d1,d2,d3⟩:=a8 k1
  obtain ⟨hM,hE,hP,hF⟩:=ab CJ
  have HR:Hid (∀w',Below w4.heap.size w4 w'→Calls Tryz.prog 15 #[.agg #[.string pk,.slice fi is.length Mh,.slice fm M.length Mg,.slice fe es.length Mj]] w' fun e w=>e=.returned (.int .i64 n1)∧Below w'.heap.size w' w):=fun w' h=>by have q:=kZ (hF.up (hb.trans (h.mono hb.size))) (Ar.up h) (by have:=ab ON;omega);rw[ab HT] at q;exact q
  have OU:Hid (∀w',Below w4.heap.size w4 w'→Calls Tryz.prog 10 #[.agg #[.string pk,.slice mi is.length BS,.slice mm M.length BR,.slice me es.length BT],.agg #[.string pk,.slice fi is.length Mh,.slice fm M.length Mg,.slice fe es.length Mj]] w' (FI w' ((⟨pk,is,M,es⟩:Fl)=⟨pk,is,M,es⟩))):=fun w' h=>xq (f:=200) (zD _) (dN.yS.up h) (Ar.up h) (ab CI) (ab CI) w' (zE _ _)
  have tg:Hid (∀w',Below w4.heap.size w4 w'→(w'.cell? ⟨W.heap.size,0,none⟩=some (.string pk)∧w'.cell? ⟨W.heap.size,1,none⟩=some (.slice fi is.length Mh)∧w'.cell? ⟨W.heap.size,2,none⟩=some (.slice fm M.length Mg)∧w'.cell? ⟨W.heap.size,3,none⟩=some (.slice fe es.length Mj))∧w'.cell? ⟨w1.heap.size,0,none⟩=some (.string pk)∧w'.cell? ⟨w1.heap.size,1,none⟩=some (.slice mi is.length BS)∧w'.cell? ⟨w1.heap.size,2,none⟩=some (.slice mm M.length BR)∧w'.cell? ⟨w1.heap.size,3,none⟩=some (.slice me es.length BT)):=fun w' h=>⟨a8 ((h.block _ (zA k0).1).trans k0),a8 ((h.block _ (zA k1).1).trans k1)⟩
  have H2:=al (And.intro hb (And.intro k0 (And.intro k1 (And.intro dN (And.intro mB gC)))))
  clear hM hE hP hF hb k0 k1 Ar dN mB gC
  have e2:(n1==n1)=true:=by simp
  have e4:(n1 != n1)=false:=by simp
  go_wp2_with fail
  go_region_held3 (fun w'=>(w'.cell? ⟨W.heap.size,0,none⟩=some (.string pk)∧w'.cell? ⟨W.heap.size,1,none⟩=some (.slice fi is.length Mh)∧w'.cell? ⟨W.heap.size,2,none⟩=some (.slice fm M.length Mg)∧w'.cell? ⟨W.heap.size,3,none⟩=some (.slice fe es.length Mj))∧w'.cell? ⟨w1.heap.size,0,none⟩=some (.string pk)∧w'.cell? ⟨w1.heap.size,1,none⟩=some (.slice mi is.length BS)∧w'.cell? ⟨w1.heap.size,2,none⟩=some (.slice mm M.length BR)∧w'.cell? ⟨w1.heap.size,3,none⟩=some (.slice me es.length BT)) (first|go_keep|exact ab tg _ eI|exact ab tg _ cB|exact ab tg _ (zE _ _))
   (first
    |(go_at_call 9;refine (ow _ n1).mono ?_;rintro e wn ⟨rfl,rfl⟩)
    |(go_at_call 15;refine (ab HR _ (by first|exact (zE w4.heap.size w4)|exact (zE w4.heap.size w4).drew|exact (zE w4.heap.size w4).drew.drew|exact (zE w4.heap.size w4).drew.drew.drew|exact (zE w4.heap.size w4).drew.drew.drew.drew)).mono ?_;rintro e MF ⟨rfl,dR⟩;have cB:Below w4.heap.size w4 MF:=(by first|exact (zE w4.heap.size w4).trans (dR.mono (zE w4.heap.size w4).size)|exact (zE w4.heap.size w4).drew.trans (dR.mono (zE w4.heap.size w4).drew.size)|exact (zE w4.heap.size w4).drew.drew.trans (dR.mono (zE w4.heap.size w4).drew.drew.size)|exact (zE w4.heap.size w4).drew.drew.drew.trans (dR.mono (zE w4.heap.size w4).drew.drew.drew.size)|exact (zE w4.heap.size w4).drew.drew.drew.drew.trans (dR.mono (zE w4.heap.size w4).drew.drew.drew.drew.size));clear dR)
    |(go_at_call 10;refine (ab OU _ (by first|exact cB|exact cB.drew|exact cB.drew.drew|exact cB.drew.drew.drew|exact cB.drew.drew.drew.drew)).mono ?_;rintro e JP ⟨q2,rfl,jZ,c7⟩;obtain rfl:q2=true:=jZ.2 (by trivial);have eI:Below w4.heap.size w4 JP:=(by first|exact cB.trans (c7.mono cB.size)|exact cB.drew.trans (c7.mono cB.drew.size)|exact cB.drew.drew.trans (c7.mono cB.drew.drew.size)|exact cB.drew.drew.drew.trans (c7.mono cB.drew.drew.drew.size)|exact cB.drew.drew.drew.drew.trans (c7.mono cB.drew.drew.drew.drew.size));clear c7 jZ))
  obtain ⟨hb,k0,k1,dN,mB,gC⟩:=ab H2
  obtain ⟨w7,eZ⟩:∃x,x=JP:=⟨_,rfl⟩
  have Dw:=eI
  subst eZ
  have jZ:=trivial
  have k1:=(Dw.block _ (zA k1).1).trans k1
  have dN:=dN.mono (aD Dw)
  have hb:=hb.trans (Dw.mono hb.size)
  have gC:=Nat.le_trans gC Dw.size
  have HX:=al (vY dN (ab CI) gC)
  clear d0 d1 d2 d3 c0 c1 c2 c3
  obtain ⟨d0,d1,d2,d3⟩:=a8 k1
  have H2:=al (And.intro hb (And.intro k1 (And.intro dN (And.intro mB gC))))
  clear hb k0 k1 dN mB gC Dw jZ
  go_wp2_with fail
  refine (ab HX).mono ?_
  rintro e w8 ⟨rfl,GZ⟩
  obtain ⟨hb,k1,dN,mB,gC⟩:=ab H2
  have k1:=GZ.file k1
  have hb:Below W.heap.size W w8:=hb.trans (GZ.bW.mono mB)
  have gC:=Nat.le_trans gC GZ.bW.size
  obtain ⟨G,xm,xe,dN,g1,g2,g3,g4⟩:=dN.sp (fun _ h=>h) GZ
  have NF:P5 ⟨pk,is,M,es⟩ G:=⟨g2,g3,g4⟩
  have OV:=al (NF.re (ab Qb))
  have OM:=al (show mf G≤1048576 by rw[NF.Z2];exact ab ON)
  have ym:=al (g3.dp 200 (ab CI))
  have Sz:=al (g3.sz 32 (ab Hs))
  obtain ⟨gk,gi,gm,ge⟩:=G
  simp only at g1 g2 g3 g4 ym Sz dN
  have g1:=g1.symm
  subst g1
  have HL:=al (And.intro g2 (And.intro g3.len g4.len))
  have HX:=al (nV dN.yS (ab OV) w8 (zE _ _))
  clear d0 d1 d2 d3
  obtain ⟨d0,d1,d2,d3⟩:=a8 k1
  have H2:=al (And.intro hb (And.intro k1 (And.intro dN (And.intro mB gC))))
  clear hb k1 dN mB gC GZ g2 g3 g4 NF e2 e4
  go_wp2_with fail
  refine (ab HX).mono ?_
  rintro e w9 ⟨u2,Yt,Ys,Ur,x2,y2,rfl,lh,ma⟩
  obtain ⟨hb,k1,dN,mB,gC⟩:=ab H2
  obtain ⟨oi,uW,om,uV,oe,uX,rfl,rfl,rfl⟩:=oQ lh
  obtain rfl:=lh.is
  unfold AG at lh ⊢
  simp only at lh ⊢
  rw[uG 200 gm (ab ym)] at lh ⊢
  have k1:=(ma.block _ (zA k1).1).trans k1
  have dN:=dN.mono (aD ma)
  have hb:=hb.trans (ma.mono hb.size)
  have gC:=Nat.le_trans gC ma.size
  have k2:=aK w9 (.cells #[.string pk,.slice oi gi.length uW,.slice om gm.length uV,.slice oe ge.length uX] 26)
  have b9:Below w9.heap.size w9 (w9.alloc (.cells #[.string pk,.slice oi gi.length uW,.slice om gm.length uV,.slice oe ge.length uX] 26)):=(zE _ _).alloc (zD _) _
  obtain ⟨V9,Wl⟩:∃V9,w9.alloc (.cells #[.string pk,.slice oi gi.length uW,.slice om gm.length uV,.slice oe ge.length uX] 26)=V9:=⟨_,rfl⟩
  rw[Wl] at k2 b9
  have k1:=(b9.block _ (zA k1).1).trans k1
  have dN:=(dN.mono (aD b9)).yS
  have lh:=(lh.mono (aD b9)).yS
  have hb:=hb.trans (b9.mono hb.size)
  obtain ⟨hM,hE,hP,hF⟩:=ab CJ
  have HX:=al (mz (hM.up hb hM.1) (hE.up hb) (hP.up hb) (hF.up hb) dN (ab Sz))
  obtain ⟨⟨s2,n2⟩,hT⟩:∃T,il ⟨pk,gi,gm,ge⟩=T:=⟨_,rfl⟩
  rw[hT] at HX
  simp only at HX
  have HT:=al hT
  clear d0 d1 d2 d3
  obtain ⟨d0,d1,d2,d3⟩:=a8 k1
  have H2:=al (And.intro hb (And.intro k1 (And.intro k2 (And.intro dN lh))))
  clear hM hE hP hF hb k1 k2 dN lh mB gC ma b9 hT
  go_wp2_with fail
  refine (ab HX).mono ?_
  rintro e wA ⟨rfl,ER⟩
  obtain ⟨hb,k1,k2,dN,lh⟩:=ab H2
  have k1:=(ER.block _ (zA k1).1).trans k1
  have k2:=(ER.block _ (zA k2).1).trans k2
  have dN:=dN.up ER
  have lh:=lh.up ER
  have hb:=hb.trans (ER.mono hb.size)
  clear ER H2 HX d0 d1 d2 d3
  obtain ⟨d0,d1,d2,d3⟩:=a8 k1
  obtain ⟨c0,c1,c2,c3⟩:=a8 k2
  obtain ⟨hM,hE,hP,hF⟩:=ab CJ
  have HR:Hid (∀w',Below wA.heap.size wA w'→Calls Tryz.prog 15 #[.agg #[.string pk,.slice oi gi.length uW,.slice om gm.length uV,.slice oe ge.length uX]] w' fun e w=>e=.returned (.int .i64 n2)∧Below w'.heap.size w' w):=fun w' h=>by have q:=kZ (hF.up (hb.trans (h.mono hb.size))) (lh.up h) (by have:=ab OM;omega);rw[ab HT] at q;exact q
  have OU:Hid (∀w',Below wA.heap.size wA w'→Calls Tryz.prog 10 #[.agg #[.string pk,.slice mi is.length BS,.slice mm M.length BR,.slice me es.length BT],.agg #[.string pk,.slice oi gi.length uW,.slice om gm.length uV,.slice oe ge.length uX]] w' (FI w' ((⟨pk,gi,gm,ge⟩:Fl)=⟨pk,gi,gm,ge⟩))):=fun w' h=>xq (f:=200) (zD _) (dN.up h) (lh.up h) (ab ym) (ab ym) w' (zE _ _)
  have tg:Hid (∀w',Below wA.heap.size wA w'→(w'.cell? ⟨w9.heap.size,0,none⟩=some (.string pk)∧w'.cell? ⟨w9.heap.size,1,none⟩=some (.slice oi gi.length uW)∧w'.cell? ⟨w9.heap.size,2,none⟩=some (.slice om gm.length uV)∧w'.cell? ⟨w9.heap.size,3,none⟩=some (.slice oe ge.length uX))∧w'.cell? ⟨w1.heap.size,0,none⟩=some (.string pk)∧w'.cell? ⟨w1.heap.size,1,none⟩=some (.slice mi is.length BS)∧w'.cell? ⟨w1.heap.size,2,none⟩=some (.slice mm M.length BR)∧w'.cell? ⟨w1.heap.size,3,none⟩=some (.slice me es.length BT)):=fun w' h=>⟨a8 ((h.block _ (zA k2).1).trans k2),a8 ((h.block _ (zA k1).1).trans k1)⟩
  have X8:Hid (∀w',Below wA.heap.size wA w'→Calls Tryz.prog 6 #[] w' fun e w=>e=.returned (.bool true)∧Below w'.heap.size w' w):=fun w' h=>by have b:=hb.trans (h.mono hb.size);exact As (hM.up b hM.1) (hE.up b) (hP.up b) (hF.up b)
  have H2:=al hb
  clear hM hE hP hF hb k1 k2 dN lh CJ
  have e2:(n2==n2)=true:=by simp
  have e4:(n2 != n2)=false:=by simp
  go_wp2_with fail
  go_region_held3 (fun w'=>(w'.cell? ⟨w9.heap.size,0,none⟩=some (.string pk)∧w'.cell? ⟨w9.heap.size,1,none⟩=some (.slice oi gi.length uW)∧w'.cell? ⟨w9.heap.size,2,none⟩=some (.slice om gm.length uV)∧w'.cell? ⟨w9.heap.size,3,none⟩=some (.slice oe ge.length uX))∧w'.cell? ⟨w1.heap.size,0,none⟩=some (.string pk)∧w'.cell? ⟨w1.heap.size,1,none⟩=some (.slice mi is.length BS)∧w'.cell? ⟨w1.heap.size,2,none⟩=some (.slice mm M.length BR)∧w'.cell? ⟨w1.heap.size,3,none⟩=some (.slice me es.length BT)) (first|go_keep|exact ab tg _ Cm|exact ab tg _ eI|exact ab tg _ cB|exact ab tg _ (zE _ _))
   (first
    |(go_at_call 9;refine (ow _ n2).mono ?_;rintro e wn ⟨rfl,rfl⟩)
    |(go_at_call 15;refine (ab HR _ (by first|exact (zE wA.heap.size wA)|exact (zE wA.heap.size wA).drew|exact (zE wA.heap.size wA).drew.drew|exact (zE wA.heap.size wA).drew.drew.drew|exact (zE wA.heap.size wA).drew.drew.drew.drew)).mono ?_;rintro e MF ⟨rfl,dR⟩;have cB:Below wA.heap.size wA MF:=(by first|exact (zE wA.heap.size wA).trans (dR.mono (zE wA.heap.size wA).size)|exact (zE wA.heap.size wA).drew.trans (dR.mono (zE wA.heap.size wA).drew.size)|exact (zE wA.heap.size wA).drew.drew.trans (dR.mono (zE wA.heap.size wA).drew.drew.size)|exact (zE wA.heap.size wA).drew.drew.drew.trans (dR.mono (zE wA.heap.size wA).drew.drew.drew.size)|exact (zE wA.heap.size wA).drew.drew.drew.drew.trans (dR.mono (zE wA.heap.size wA).drew.drew.drew.drew.size));clear dR)
    |(go_at_call 10;refine (ab OU _ (by first|exact cB|exact cB.drew|exact cB.drew.drew|exact cB.drew.drew.drew|exact cB.drew.drew.drew.drew)).mono ?_;rintro e JP ⟨q2,rfl,jZ,c7⟩;obtain rfl:q2=true:=jZ.2 (by trivial);have eI:Below wA.heap.size wA JP:=(by first|exact cB.trans (c7.mono cB.size)|exact cB.drew.trans (c7.mono cB.drew.size)|exact cB.drew.drew.trans (c7.mono cB.drew.drew.size)|exact cB.drew.drew.drew.trans (c7.mono cB.drew.drew.drew.size)|exact cB.drew.drew.drew.drew.trans (c7.mono cB.drew.drew.drew.drew.size));clear c7 jZ)
    |(go_at_call 6;refine (ab X8 _ (by first|exact eI|exact eI.drew|exact eI.drew.drew|exact eI.drew.drew.drew|exact eI.drew.drew.drew.drew)).mono ?_;rintro e Uf ⟨rfl,yw⟩;have Cm:Below wA.heap.size wA Uf:=(by first|exact eI.trans (yw.mono eI.size)|exact eI.drew.trans (yw.mono eI.drew.size)|exact eI.drew.drew.trans (yw.mono eI.drew.drew.size)|exact eI.drew.drew.drew.trans (yw.mono eI.drew.drew.drew.size)|exact eI.drew.drew.drew.drew.trans (yw.mono eI.drew.drew.drew.drew.size));clear yw))
  have Yh:=al ((ab H2).trans (Cm.mono (ab H2).size))
  clear Cm H2
  go_wp2
  go_ret
  exact ⟨rfl,ab Yh⟩
 |false =>
  have HX:=al (nV dN.yS (ab Qb) w2 (zE _ _))
  have H2:=al (And.intro hb (And.intro k0 (And.intro k1 (And.intro dN (And.intro mB gC)))))
  clear hb k0 k1 dN mB gC Hq XY T9
  go_wp2_with fail
  refine (ab HX).mono ?_
  rintro e w3 ⟨u2,Yt,Ys,Ur,x2,y2,rfl,lh,cE⟩
  obtain ⟨hb,k0,k1,dN,mB,gC⟩:=ab H2
  obtain ⟨oi,uW,om,uV,oe,uX,rfl,rfl,rfl⟩:=oQ lh
  obtain rfl:=lh.is
  unfold AG at lh ⊢
  simp only at lh ⊢
  rw[uG 200 M (ab CI)] at lh ⊢
  have k0:=(cE.block _ (zA k0).1).trans k0
  have k1:=(cE.block _ (zA k1).1).trans k1
  have dN:=dN.mono (aD cE)
  have hb:=hb.trans (cE.mono hb.size)
  have gC:=Nat.le_trans gC cE.size
  clear c0 c1 c2 c3 d0 d1 d2 d3 z0 z1 z2 z3
  obtain ⟨c0,c1,c2,c3⟩:=a8 k0
  obtain ⟨z0,z1,z2,z3⟩:=Mf k0
  obtain ⟨X,hX⟩:∃X,(((w3.setCell ⟨W.heap.size,0,none⟩ (.string pk)).setCell ⟨W.heap.size,1,none⟩ (.slice oi is.length uW)).setCell ⟨W.heap.size,2,none⟩ (.slice om M.length uV)).setCell ⟨W.heap.size,3,none⟩ (.slice oe es.length uX)=X:=⟨_,rfl⟩
  obtain ⟨kx,gx⟩:=Va k0 (.string pk) (.slice oi is.length uW) (.slice om M.length uV) (.slice oe es.length uX)
  rw[hX] at kx gx
  have hlw:W.heap.size<V.heap.size:=by have e:=zJ W (.cells #[.string pk,.slice fi is.length Mh,.slice fm ms.length Mg,.slice fe es.length Mj] 26);rw[hV] at e;omega
  have k1:=(gx.block _ (zA k1).1 (by simp;omega)).trans k1
  have dN:=dN.mono (j7 gx (fun g (hg:V.heap.size≤g) e=>by have:=zC e;omega))
  have Ar:=(lh.mono (j7 gx (fun g (hg:w2.heap.size≤g) e=>by have:=zC e;omega))).yS
  have hb:=ct hb gx hb.size (fun k e=>by obtain rfl:=zC e;omega)
  have gC:=Nat.le_trans gC gx.size
  have k0:=kx
  have c0x:=hX
  clear kx gx lh cE H2 HX hlw c0x
  obtain ⟨d0,d1,d2,d3⟩:=a8 k1
  obtain ⟨hM,hE,hP,hF⟩:=ab CJ
  have HX:=al (mz (hM.up hb hM.1) (hE.up hb) (hP.up hb) (hF.up hb) dN.yS (ab Hs))
  have H2:=al (And.intro hb (And.intro k0 (And.intro k1 (And.intro Ar (And.intro dN (And.intro mB gC))))))
  obtain ⟨⟨s1,n1⟩,hT⟩:∃T,il ⟨pk,is,M,es⟩=T:=⟨_,rfl⟩
  rw[hT] at HX
  simp only at HX
  have HT:=al hT
  clear hM hE hP hF hb k0 k1 Ar dN mB gC hT
  go_wp2_with fail
  refine (ab HX).mono ?_
  rintro e w4 ⟨rfl,gT⟩
  obtain ⟨hb,k0,k1,Ar,dN,mB,gC⟩:=ab H2
  have k0:=(gT.block _ (zA k0).1).trans k0
  have k1:=(gT.block _ (zA k1).1).trans k1
  have Ar:=Ar.up gT
  have dN:=dN.mono (aD gT)
  have hb:=hb.trans (gT.mono hb.size)
  have gC:=Nat.le_trans gC gT.size
  clear gT H2 HX
  obtain ⟨c0,c1,c2,c3⟩:=a8 k0
  obtain ⟨d0,d1,d2,d3⟩:=a8 k1
  obtain ⟨hM,hE,hP,hF⟩:=ab CJ
  have HR:Hid (∀w',Below w4.heap.size w4 w'→Calls Tryz.prog 15 #[.agg #[.string pk,.slice oi is.length uW,.slice om M.length uV,.slice oe es.length uX]] w' fun e w=>e=.returned (.int .i64 n1)∧Below w'.heap.size w' w):=fun w' h=>by have q:=kZ (hF.up (hb.trans (h.mono hb.size))) (Ar.up h) (by have:=ab ON;omega);rw[ab HT] at q;exact q
  have OU:Hid (∀w',Below w4.heap.size w4 w'→Calls Tryz.prog 10 #[.agg #[.string pk,.slice mi is.length BS,.slice mm M.length BR,.slice me es.length BT],.agg #[.string pk,.slice oi is.length uW,.slice om M.length uV,.slice oe es.length uX]] w' (FI w' ((⟨pk,is,M,es⟩:Fl)=⟨pk,is,M,es⟩))):=fun w' h=>xq (f:=200) (zD _) (dN.yS.up h) (Ar.up h) (ab CI) (ab CI) w' (zE _ _)
  have tg:Hid (∀w',Below w4.heap.size w4 w'→(w'.cell? ⟨W.heap.size,0,none⟩=some (.string pk)∧w'.cell? ⟨W.heap.size,1,none⟩=some (.slice oi is.length uW)∧w'.cell? ⟨W.heap.size,2,none⟩=some (.slice om M.length uV)∧w'.cell? ⟨W.heap.size,3,none⟩=some (.slice oe es.length uX))∧w'.cell? ⟨w1.heap.size,0,none⟩=some (.string pk)∧w'.cell? ⟨w1.heap.size,1,none⟩=some (.slice mi is.length BS)∧w'.cell? ⟨w1.heap.size,2,none⟩=some (.slice mm M.length BR)∧w'.cell? ⟨w1.heap.size,3,none⟩=some (.slice me es.length BT)):=fun w' h=>⟨a8 ((h.block _ (zA k0).1).trans k0),a8 ((h.block _ (zA k1).1).trans k1)⟩
  have H2:=al (And.intro hb (And.intro k0 (And.intro k1 (And.intro dN (And.intro mB gC)))))
  clear hM hE hP hF hb k0 k1 Ar dN mB gC
  have e2:(n1==n1)=true:=by simp
  have e4:(n1 != n1)=false:=by simp
  go_wp2_with fail
  go_region_held3 (fun w'=>(w'.cell? ⟨W.heap.size,0,none⟩=some (.string pk)∧w'.cell? ⟨W.heap.size,1,none⟩=some (.slice oi is.length uW)∧w'.cell? ⟨W.heap.size,2,none⟩=some (.slice om M.length uV)∧w'.cell? ⟨W.heap.size,3,none⟩=some (.slice oe es.length uX))∧w'.cell? ⟨w1.heap.size,0,none⟩=some (.string pk)∧w'.cell? ⟨w1.heap.size,1,none⟩=some (.slice mi is.length BS)∧w'.cell? ⟨w1.heap.size,2,none⟩=some (.slice mm M.length BR)∧w'.cell? ⟨w1.heap.size,3,none⟩=some (.slice me es.length BT)) (first|go_keep|exact ab tg _ eI|exact ab tg _ cB|exact ab tg _ (zE _ _))
   (first
    |(go_at_call 9;refine (ow _ n1).mono ?_;rintro e wn ⟨rfl,rfl⟩)
    |(go_at_call 15;refine (ab HR _ (by first|exact (zE w4.heap.size w4)|exact (zE w4.heap.size w4).drew|exact (zE w4.heap.size w4).drew.drew|exact (zE w4.heap.size w4).drew.drew.drew|exact (zE w4.heap.size w4).drew.drew.drew.drew)).mono ?_;rintro e MF ⟨rfl,dR⟩;have cB:Below w4.heap.size w4 MF:=(by first|exact (zE w4.heap.size w4).trans (dR.mono (zE w4.heap.size w4).size)|exact (zE w4.heap.size w4).drew.trans (dR.mono (zE w4.heap.size w4).drew.size)|exact (zE w4.heap.size w4).drew.drew.trans (dR.mono (zE w4.heap.size w4).drew.drew.size)|exact (zE w4.heap.size w4).drew.drew.drew.trans (dR.mono (zE w4.heap.size w4).drew.drew.drew.size)|exact (zE w4.heap.size w4).drew.drew.drew.drew.trans (dR.mono (zE w4.heap.size w4).drew.drew.drew.drew.size));clear dR)
    |(go_at_call 10;refine (ab OU _ (by first|exact cB|exact cB.drew|exact cB.drew.drew|exact cB.drew.drew.drew|exact cB.drew.drew.drew.drew)).mono ?_;rintro e JP ⟨q2,rfl,jZ,c7⟩;obtain rfl:q2=true:=jZ.2 (by trivial);have eI:Below w4.heap.size w4 JP:=(by first|exact cB.trans (c7.mono cB.size)|exact cB.drew.trans (c7.mono cB.drew.size)|exact cB.drew.drew.trans (c7.mono cB.drew.drew.size)|exact cB.drew.drew.drew.trans (c7.mono cB.drew.drew.drew.size)|exact cB.drew.drew.drew.drew.trans (c7.mono cB.drew.drew.drew.drew.size));clear c7 jZ))
  obtain ⟨hb,k0,k1,dN,mB,gC⟩:=ab H2
  obtain ⟨w7,eZ⟩:∃x,x=JP:=⟨_,rfl⟩
  have Dw:=eI
  subst eZ
  have jZ:=trivial
  have k1:=(Dw.block _ (zA k1).1).trans k1
  have dN:=dN.mono (aD Dw)
  have hb:=hb.trans (Dw.mono hb.size)
  have gC:=Nat.le_trans gC Dw.size
  have HX:=al (vY dN (ab CI) gC)
  clear d0 d1 d2 d3 c0 c1 c2 c3
  obtain ⟨d0,d1,d2,d3⟩:=a8 k1
  have H2:=al (And.intro hb (And.intro k1 (And.intro dN (And.intro mB gC))))
  clear hb k0 k1 dN mB gC Dw jZ
  go_wp2_with fail
  refine (ab HX).mono ?_
  rintro e w8 ⟨rfl,GZ⟩
  obtain ⟨hb,k1,dN,mB,gC⟩:=ab H2
  have k1:=GZ.file k1
  have hb:Below W.heap.size W w8:=hb.trans (GZ.bW.mono mB)
  have gC:=Nat.le_trans gC GZ.bW.size
  obtain ⟨G,xm,xe,dN,g1,g2,g3,g4⟩:=dN.sp (fun _ h=>h) GZ
  have NF:P5 ⟨pk,is,M,es⟩ G:=⟨g2,g3,g4⟩
  have OV:=al (NF.re (ab Qb))
  have OM:=al (show mf G≤1048576 by rw[NF.Z2];exact ab ON)
  have ym:=al (g3.dp 200 (ab CI))
  have Sz:=al (g3.sz 32 (ab Hs))
  obtain ⟨gk,gi,gm,ge⟩:=G
  simp only at g1 g2 g3 g4 ym Sz dN
  have g1:=g1.symm
  subst g1
  have HL:=al (And.intro g2 (And.intro g3.len g4.len))
  have HX:=al (nV dN.yS (ab OV) w8 (zE _ _))
  clear d0 d1 d2 d3
  obtain ⟨d0,d1,d2,d3⟩:=a8 k1
  have H2:=al (And.intro hb (And.intro k1 (And.intro dN (And.intro mB gC))))
  clear hb k1 dN mB gC GZ g2 g3 g4 NF e2 e4
  go_wp2_with fail
  refine (ab HX).mono ?_
  rintro e w9 ⟨u2,Yt,Ys,Ur,x2,y2,rfl,lh,ma⟩
  obtain ⟨hb,k1,dN,mB,gC⟩:=ab H2
  obtain ⟨oi,uW,om,uV,oe,uX,rfl,rfl,rfl⟩:=oQ lh
  obtain rfl:=lh.is
  unfold AG at lh ⊢
  simp only at lh ⊢
  rw[uG 200 gm (ab ym)] at lh ⊢
  have k1:=(ma.block _ (zA k1).1).trans k1
  have dN:=dN.mono (aD ma)
  have hb:=hb.trans (ma.mono hb.size)
  have gC:=Nat.le_trans gC ma.size
  have k2:=aK w9 (.cells #[.string pk,.slice oi gi.length uW,.slice om gm.length uV,.slice oe ge.length uX] 26)
  have b9:Below w9.heap.size w9 (w9.alloc (.cells #[.string pk,.slice oi gi.length uW,.slice om gm.length uV,.slice oe ge.length uX] 26)):=(zE _ _).alloc (zD _) _
  obtain ⟨V9,Wl⟩:∃V9,w9.alloc (.cells #[.string pk,.slice oi gi.length uW,.slice om gm.length uV,.slice oe ge.length uX] 26)=V9:=⟨_,rfl⟩
  rw[Wl] at k2 b9
  have k1:=(b9.block _ (zA k1).1).trans k1
  have dN:=(dN.mono (aD b9)).yS
  have lh:=(lh.mono (aD b9)).yS
  have hb:=hb.trans (b9.mono hb.size)
  obtain ⟨hM,hE,hP,hF⟩:=ab CJ
  have HX:=al (mz (hM.up hb hM.1) (hE.up hb) (hP.up hb) (hF.up hb) dN (ab Sz))
  obtain ⟨⟨s2,n2⟩,hT⟩:∃T,il ⟨pk,gi,gm,ge⟩=T:=⟨_,rfl⟩
  rw[hT] at HX
  simp only at HX
  have HT:=al hT
  clear d0 d1 d2 d3
  obtain ⟨d0,d1,d2,d3⟩:=a8 k1
  have H2:=al (And.intro hb (And.intro k1 (And.intro k2 (And.intro dN lh))))
  clear hM hE hP hF hb k1 k2 dN lh mB gC ma b9 hT
  go_wp2_with fail
  refine (ab HX).mono ?_
  rintro e wA ⟨rfl,ER⟩
  obtain ⟨hb,k1,k2,dN,lh⟩:=ab H2
  have k1:=(ER.block _ (zA k1).1).trans k1
  have k2:=(ER.block _ (zA k2).1).trans k2
  have dN:=dN.up ER
  have lh:=lh.up ER
  have hb:=hb.trans (ER.mono hb.size)
  clear ER H2 HX d0 d1 d2 d3
  obtain ⟨d0,d1,d2,d3⟩:=a8 k1
  obtain ⟨c0,c1,c2,c3⟩:=a8 k2
  obtain ⟨hM,hE,hP,hF⟩:=ab CJ
  have HR:Hid (∀w',Below wA.heap.size wA w'→Calls Tryz.prog 15 #[.agg #[.string pk,.slice oi gi.length uW,.slice om gm.length uV,.slice oe ge.length uX]] w' fun e w=>e=.returned (.int .i64 n2)∧Below w'.heap.size w' w):=fun w' h=>by have q:=kZ (hF.up (hb.trans (h.mono hb.size))) (lh.up h) (by have:=ab OM;omega);rw[ab HT] at q;exact q
  have OU:Hid (∀w',Below wA.heap.size wA w'→Calls Tryz.prog 10 #[.agg #[.string pk,.slice mi is.length BS,.slice mm M.length BR,.slice me es.length BT],.agg #[.string pk,.slice oi gi.length uW,.slice om gm.length uV,.slice oe ge.length uX]] w' (FI w' ((⟨pk,gi,gm,ge⟩:Fl)=⟨pk,gi,gm,ge⟩))):=fun w' h=>xq (f:=200) (zD _) (dN.up h) (lh.up h) (ab ym) (ab ym) w' (zE _ _)
  have tg:Hid (∀w',Below wA.heap.size wA w'→(w'.cell? ⟨w9.heap.size,0,none⟩=some (.string pk)∧w'.cell? ⟨w9.heap.size,1,none⟩=some (.slice oi gi.length uW)∧w'.cell? ⟨w9.heap.size,2,none⟩=some (.slice om gm.length uV)∧w'.cell? ⟨w9.heap.size,3,none⟩=some (.slice oe ge.length uX))∧w'.cell? ⟨w1.heap.size,0,none⟩=some (.string pk)∧w'.cell? ⟨w1.heap.size,1,none⟩=some (.slice mi is.length BS)∧w'.cell? ⟨w1.heap.size,2,none⟩=some (.slice mm M.length BR)∧w'.cell? ⟨w1.heap.size,3,none⟩=some (.slice me es.length BT)):=fun w' h=>⟨a8 ((h.block _ (zA k2).1).trans k2),a8 ((h.block _ (zA k1).1).trans k1)⟩
  have X8:Hid (∀w',Below wA.heap.size wA w'→Calls Tryz.prog 6 #[] w' fun e w=>e=.returned (.bool true)∧Below w'.heap.size w' w):=fun w' h=>by have b:=hb.trans (h.mono hb.size);exact As (hM.up b hM.1) (hE.up b) (hP.up b) (hF.up b)
  have H2:=al hb
  clear hM hE hP hF hb k1 k2 dN lh CJ
  have e2:(n2==n2)=true:=by simp
  have e4:(n2 != n2)=false:=by simp
  go_wp2_with fail
  go_region_held3 (fun w'=>(w'.cell? ⟨w9.heap.size,0,none⟩=some (.string pk)∧w'.cell? ⟨w9.heap.size,1,none⟩=some (.slice oi gi.length uW)∧w'.cell? ⟨w9.heap.size,2,none⟩=some (.slice om gm.length uV)∧w'.cell? ⟨w9.heap.size,3,none⟩=some (.slice oe ge.length uX))∧w'.cell? ⟨w1.heap.size,0,none⟩=some (.string pk)∧w'.cell? ⟨w1.heap.size,1,none⟩=some (.slice mi is.length BS)∧w'.cell? ⟨w1.heap.size,2,none⟩=some (.slice mm M.length BR)∧w'.cell? ⟨w1.heap.size,3,none⟩=some (.slice me es.length BT)) (first|go_keep|exact ab tg _ Cm|exact ab tg _ eI|exact ab tg _ cB|exact ab tg _ (zE _ _))
   (first
    |(go_at_call 9;refine (ow _ n2).mono ?_;rintro e wn ⟨rfl,rfl⟩)
    |(go_at_call 15;refine (ab HR _ (by first|exact (zE wA.heap.size wA)|exact (zE wA.heap.size wA).drew|exact (zE wA.heap.size wA).drew.drew|exact (zE wA.heap.size wA).drew.drew.drew|exact (zE wA.heap.size wA).drew.drew.drew.drew)).mono ?_;rintro e MF ⟨rfl,dR⟩;have cB:Below wA.heap.size wA MF:=(by first|exact (zE wA.heap.size wA).trans (dR.mono (zE wA.heap.size wA).size)|exact (zE wA.heap.size wA).drew.trans (dR.mono (zE wA.heap.size wA).drew.size)|exact (zE wA.heap.size wA).drew.drew.trans (dR.mono (zE wA.heap.size wA).drew.drew.size)|exact (zE wA.heap.size wA).drew.drew.drew.trans (dR.mono (zE wA.heap.size wA).drew.drew.drew.size)|exact (zE wA.heap.size wA).drew.drew.drew.drew.trans (dR.mono (zE wA.heap.size wA).drew.drew.drew.drew.size));clear dR)
    |(go_at_call 10;refine (ab OU _ (by first|exact cB|exact cB.drew|exact cB.drew.drew|exact cB.drew.drew.drew|exact cB.drew.drew.drew.drew)).mono ?_;rintro e JP ⟨q2,rfl,jZ,c7⟩;obtain rfl:q2=true:=jZ.2 (by trivial);have eI:Below wA.heap.size wA JP:=(by first|exact cB.trans (c7.mono cB.size)|exact cB.drew.trans (c7.mono cB.drew.size)|exact cB.drew.drew.trans (c7.mono cB.drew.drew.size)|exact cB.drew.drew.drew.trans (c7.mono cB.drew.drew.drew.size)|exact cB.drew.drew.drew.drew.trans (c7.mono cB.drew.drew.drew.drew.size));clear c7 jZ)
    |(go_at_call 6;refine (ab X8 _ (by first|exact eI|exact eI.drew|exact eI.drew.drew|exact eI.drew.drew.drew|exact eI.drew.drew.drew.drew)).mono ?_;rintro e Uf ⟨rfl,yw⟩;have Cm:Below wA.heap.size wA Uf:=(by first|exact eI.trans (yw.mono eI.size)|exact eI.drew.trans (yw.mono eI.drew.size)|exact eI.drew.drew.trans (yw.mono eI.drew.drew.size)|exact eI.drew.drew.drew.trans (yw.mono eI.drew.drew.drew.size)|exact eI.drew.drew.drew.drew.trans (yw.mono eI.drew.drew.drew.drew.size));clear yw))
  have Yh:=al ((ab H2).trans (Cm.mono (ab H2).size))
  clear Cm H2
  go_wp2
  go_ret
  exact ⟨rfl,ab Yh⟩
end Go.Proofs.YtichhjfjcinjgaaGreatDoor

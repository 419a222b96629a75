import Derived.Test.YtichhjfjcinjgaaGreatDoorM51
set_option maxHeartbeats 8000000
set_option maxRecDepth 100000
namespace Go.Proofs.YtichhjfjcinjgaaGreatDoor
open Go.RowKit
attribute [local go_sem ↓] Go.wp_at_zero Go.wp_at_succ
theorem BN {W:World}{v vi vm ve:Value}{F:Fl}{cm ce:List Value} (hF:ir W) (hE:jM W) (hM:gX W) (hP:il W) (h:xE W v F vi vm ve cm ce) (hr:JC F) (hs:∀m ∈ F.ms,tG 32 m) (hc:kG F≤1048576) :
  Calls Tryz.prog 4 #[v] W fun e w=>e=.returned (.bool true)∧Below W.heap.size W w:=by
 obtain ⟨pk,is,ms,es⟩:=F
 have Pk:=al (fun w' hb=>iB h hr w' hb)
 have Po:=al (fun w' hb=>mq 200 W vm ms cm h.hm h.eo w' hb 0 (by omega) (by omega))
 have Mb:=al h
 have FX:=al hr.cut
 have Hs:=al (show ∀m ∈ fY 200 ms,tG 32 m from fun m hm=>by obtain ⟨x,hx,rfl⟩:=List.mem_map.1 (show m ∈ ms.map (lN 199) from hm);exact xM 32 199 x (hs x hx))
 have Db:=al (Nat.le_trans (A5 ⟨pk,is,ms,es⟩) hc)
 have q8:=al (C4 200 ms)
 obtain ⟨rfl,⟨fi,Fu,rfl,-,-⟩,⟨fm,Ft,rfl,-,-⟩,-,⟨fe,Fw,rfl,-,-⟩,-⟩:=h
 unfold qf at FX Db
 simp only at Pk Po Mb FX Db ⊢
 have oD:=al (And.intro hM (And.intro hE (And.intro hP hF)))
 have k0:=aJ W (.cells #[.string pk,.slice fi is.length Fu,.slice fm ms.length Ft,.slice fe es.length Fw] 26)
 have b0:Below W.heap.size W (W.alloc (.cells #[.string pk,.slice fi is.length Fu,.slice fm ms.length Ft,.slice fe es.length Fw] 26)):=(zE _ _).alloc (zD _) _
 obtain ⟨V,hV⟩:∃V,W.alloc (.cells #[.string pk,.slice fi is.length Fu,.slice fm ms.length Ft,.slice fe es.length Fw] 26)=V:=⟨_,rfl⟩
 rw[hV] at k0 b0
 have sF:=al (ab Pk V b0)
 obtain ⟨c0,c1,c2,c3⟩:=aP k0
 have HV:=al (And.intro b0 k0)
 clear hM hE hP hF hs hr hc k0 b0 Pk
 go_enter Tryz.func4,Tryz.ntmps4
 go_wp2_with fail
 refine (ab sF).mono ?_
 rintro e w1 ⟨u1,ui1,um1,ue1,x1,y1,rfl,bH,aX⟩
 obtain ⟨b0,k0⟩:=ab HV
 have k0:=(aX.block _ (zA k0).1).trans k0
 have hb:=b0.trans (aX.mono b0.size)
 obtain ⟨mi,yc,mm,yb,me,yd,rfl,rfl,rfl⟩:=iJ bH
 obtain rfl:=bH.is
 unfold qf at bH ⊢
 simp only at bH ⊢
 obtain ⟨M,Oq⟩:∃M,fY 200 ms=M:=⟨_,rfl⟩
 rw[Oq] at bH FX Hs Db q8 ⊢
 have Ps:=al Oq
 clear Oq
 have k1:=aJ w1 (.cells #[.string pk,.slice mi is.length yc,.slice mm M.length yb,.slice me es.length yd] 26)
 have b1:Below w1.heap.size w1 (w1.alloc (.cells #[.string pk,.slice mi is.length yc,.slice mm M.length yb,.slice me es.length yd] 26)):=(zE _ _).alloc (zD _) _
 obtain ⟨V1,WS⟩:∃V1,w1.alloc (.cells #[.string pk,.slice mi is.length yc,.slice mm M.length yb,.slice me es.length yd] 26)=V1:=⟨_,rfl⟩
 rw[WS] at k1 b1
 have eU:W.heap.size≤V.heap.size:=b0.size
 have Lh:V.heap.size≤w1.heap.size:=aX.size
 have y8:=(zA k1).1
 have k0:=(b1.block _ (zA k0).1).trans k0
 have hb:=hb.trans (b1.mono hb.size)
 have bH:=bH.mono (aB b1)
 have HC:=al (ab Po V1 hb)
 obtain ⟨c0,c1,c2,c3⟩:=aP k0
 obtain ⟨d0,d1,d2,d3⟩:=aP k1
 have aM:W.heap.size<w1.heap.size:=by have:=(zA (ab HV).2).1;omega
 have H1:=al (And.intro hb (And.intro k0 (And.intro k1 (And.intro bH (And.intro eU (And.intro Lh y8))))))
 clear HV b0 k0 hb bH k1 b1 eU Lh y8 aX sF Po
 go_wp2_with fail
 refine (ab HC).mono ?_
 rintro e w2 ⟨q,rfl,hq,bd⟩
 obtain ⟨hb,k0,k1,bH,eU,Lh,y8⟩:=ab H1
 have k0:=(bd.block _ (zA k0).1).trans k0
 have k1:=(bd.block _ (zA k1).1).trans k1
 have bH:=bH.mono (aB bd)
 have hb:=hb.trans (bd.mono hb.size)
 have cT:=Nat.le_trans Lh (Nat.le_trans (Nat.le_of_lt y8) bd.size)
 obtain ⟨c0,c1,c2,c3⟩:=aP k0
 obtain ⟨d0,d1,d2,d3⟩:=aP k1
 obtain ⟨z0,z1,z2,z3⟩:=D7 k0
 have Hq:=al hq
 clear bd HC H1 hq
 cases q with
 |true =>
  obtain rfl:M=ms:=by have:=ab Ps;rw[lM 200 ms ((ab Hq).1 (by trivial))] at this;exact this.symm
  have kk:=(ab Mb).up hb
  clear Hq Ps Mb
  obtain ⟨hM,hE,hP,hF⟩:=ab oD
  have HX:=al (kK (hM.up hb hM.1) (hE.up hb) (hP.up hb) (hF.up hb) bH.oE (ab Hs))
  have H2:=al (And.intro hb (And.intro k0 (And.intro k1 (And.intro kk (And.intro bH (And.intro eU cT))))))
  obtain ⟨⟨s1,n1⟩,hT⟩:∃T,fO ⟨pk,is,M,es⟩=T:=⟨_,rfl⟩
  rw[hT] at HX
  simp only at HX
  have HT:=al hT
  clear hM hE hP hF hb k0 k1 kk bH eU cT hT
  go_wp2_with fail
  refine (ab HX).mono ?_
  rintro e w4 ⟨rfl,ff⟩
  obtain ⟨hb,k0,k1,kk,bH,eU,cT⟩:=ab H2
  have k0:=(ff.block _ (zA k0).1).trans k0
  have k1:=(ff.block _ (zA k1).1).trans k1
  have kk:=kk.up ff
  have bH:=bH.mono (aB ff)
  have hb:=hb.trans (ff.mono hb.size)
  have cT:=Nat.le_trans cT ff.size
  clear ff H2 HX
  obtain ⟨c0,c1,c2,c3⟩:=aP k0
  obtain ⟨d0,d1,d2,d3⟩:=aP k1
  obtain ⟨hM,hE,hP,hF⟩:=ab oD
  have HX:=al (kP (hF.up hb) kk (by have:=ab Db;omega))
  rw[ab HT] at HX
  simp only at HX
  have H2:=al (And.intro hb (And.intro k0 (And.intro k1 (And.intro kk (And.intro bH (And.intro eU cT))))))
  clear hM hE hP hF hb k0 k1 kk bH eU cT d0 d1 d2 d3
  go_wp2_with fail
  refine (ab HX).mono ?_
  rintro e w5 ⟨rfl,kh⟩
  obtain ⟨hb,k0,k1,kk,bH,eU,cT⟩:=ab H2
  have k0:=(kh.block _ (zA k0).1).trans k0
  have k1:=(kh.block _ (zA k1).1).trans k1
  have kk:=kk.up kh
  have bH:=bH.mono (aB kh)
  have hb:=hb.trans (kh.mono hb.size)
  have cT:=Nat.le_trans cT kh.size
  clear kh H2 HX
  obtain ⟨c0,c1,c2,c3⟩:=aP k0
  obtain ⟨d0,d1,d2,d3⟩:=aP k1
  obtain ⟨hM,hE,hP,hF⟩:=ab oD
  have HX:=al (mr (f:=200) (zD _) bH.oE kk (ab q8) (ab q8) w5 (zE _ _))
  have e1:(s1.toList==s1.toList)=true:=by simp
  have e2:(n1==n1)=true:=by simp
  have e3:(s1.toList != s1.toList)=false:=by simp
  have e4:(n1 != n1)=false:=by simp
  have H2:=al (And.intro hb (And.intro k0 (And.intro k1 (And.intro bH (And.intro eU cT)))))
  clear hM hE hP hF hb k0 k1 kk bH eU cT
  go_wp2_with fail
  refine (ju _ n1).mono ?_
  rintro e w6 ⟨rfl,rfl⟩
  go_wp2_with fail
  refine (ab HX).mono ?_
  rintro e w7 ⟨q2,rfl,gT,qU⟩
  obtain rfl:q2=true:=gT.2 (by trivial)
  obtain ⟨hb,k0,k1,bH,eU,cT⟩:=ab H2
  have k1:=(qU.block _ (zA k1).1).trans k1
  have bH:=bH.mono (aB qU)
  have hb:=hb.trans (qU.mono hb.size)
  have cT:=Nat.le_trans cT qU.size
  have HX:=al (mN bH (ab q8) cT)
  clear d0 d1 d2 d3 c0 c1 c2 c3
  obtain ⟨d0,d1,d2,d3⟩:=aP k1
  have H2:=al (And.intro hb (And.intro k1 (And.intro bH (And.intro eU cT))))
  clear hb k0 k1 bH eU cT qU gT
  go_wp2_with fail
  refine (ab HX).mono ?_
  rintro e w8 ⟨rfl,uN⟩
  obtain ⟨hb,k1,bH,eU,cT⟩:=ab H2
  have k1:=uN.file k1
  have hb:Below W.heap.size W w8:=hb.trans (uN.bU.mono eU)
  have cT:=Nat.le_trans cT uN.bU.size
  obtain ⟨G,xm,xe,bH,g1,g2,g3,g4⟩:=bH.sp (fun _ h=>h) uN
  have CH:MP ⟨pk,is,M,es⟩ G:=⟨g2,g3,g4⟩
  have Dd:=al (CH.re (ab FX))
  have Da:=al (show kG G≤1048576 by rw[CH.T7];exact ab Db)
  have lP:=al (g3.dp 200 (ab q8))
  have JK:=al (g3.sz 32 (ab Hs))
  obtain ⟨gk,gi,gm,ge⟩:=G
  simp only at g1 g2 g3 g4 lP JK bH
  have g1:=g1.symm
  subst g1
  have HL:=al (And.intro g2 (And.intro g3.len g4.len))
  have HX:=al (iB bH.oE (ab Dd) w8 (zE _ _))
  clear d0 d1 d2 d3
  obtain ⟨d0,d1,d2,d3⟩:=aP k1
  have H2:=al (And.intro hb (And.intro k1 (And.intro bH (And.intro eU cT))))
  clear hb k1 bH eU cT uN g2 g3 g4 CH e1 e2 e3 e4
  go_wp2_with fail
  refine (ab HX).mono ?_
  rintro e w9 ⟨u2,Q0,QZ,PK,x2,y2,rfl,dW,j7⟩
  obtain ⟨hb,k1,bH,eU,cT⟩:=ab H2
  obtain ⟨oi,ni,om,nh,oe,nj,rfl,rfl,rfl⟩:=iJ dW
  obtain rfl:=dW.is
  unfold qf at dW ⊢
  simp only at dW ⊢
  rw[lM 200 gm (ab lP)] at dW ⊢
  have k1:=(j7.block _ (zA k1).1).trans k1
  have bH:=bH.mono (aB j7)
  have hb:=hb.trans (j7.mono hb.size)
  have cT:=Nat.le_trans cT j7.size
  have k2:=aJ w9 (.cells #[.string pk,.slice oi gi.length ni,.slice om gm.length nh,.slice oe ge.length nj] 26)
  have b9:Below w9.heap.size w9 (w9.alloc (.cells #[.string pk,.slice oi gi.length ni,.slice om gm.length nh,.slice oe ge.length nj] 26)):=(zE _ _).alloc (zD _) _
  obtain ⟨V9,Ok⟩:∃V9,w9.alloc (.cells #[.string pk,.slice oi gi.length ni,.slice om gm.length nh,.slice oe ge.length nj] 26)=V9:=⟨_,rfl⟩
  rw[Ok] at k2 b9
  have k1:=(b9.block _ (zA k1).1).trans k1
  have bH:=(bH.mono (aB b9)).oE
  have dW:=(dW.mono (aB b9)).oE
  have hb:=hb.trans (b9.mono hb.size)
  obtain ⟨hM,hE,hP,hF⟩:=ab oD
  have HX:=al (kK (hM.up hb hM.1) (hE.up hb) (hP.up hb) (hF.up hb) bH (ab JK))
  obtain ⟨⟨s2,n2⟩,hT⟩:∃T,fO ⟨pk,gi,gm,ge⟩=T:=⟨_,rfl⟩
  rw[hT] at HX
  simp only at HX
  have HT:=al hT
  clear d0 d1 d2 d3
  obtain ⟨d0,d1,d2,d3⟩:=aP k1
  have H2:=al (And.intro hb (And.intro k1 (And.intro k2 (And.intro bH dW))))
  clear hM hE hP hF hb k1 k2 bH dW eU cT j7 b9 hT
  go_wp2_with fail
  refine (ab HX).mono ?_
  rintro e wA ⟨rfl,p7⟩
  obtain ⟨hb,k1,k2,bH,dW⟩:=ab H2
  have k1:=(p7.block _ (zA k1).1).trans k1
  have k2:=(p7.block _ (zA k2).1).trans k2
  have bH:=bH.up p7
  have dW:=dW.up p7
  have hb:=hb.trans (p7.mono hb.size)
  clear p7 H2 HX d0 d1 d2 d3
  obtain ⟨d0,d1,d2,d3⟩:=aP k1
  obtain ⟨c0,c1,c2,c3⟩:=aP k2
  obtain ⟨hM,hE,hP,hF⟩:=ab oD
  have HX:=al (kP (hF.up hb) dW (by have:=ab Da;omega))
  rw[ab HT] at HX
  simp only at HX
  have H2:=al (And.intro hb (And.intro k1 (And.intro k2 (And.intro bH dW))))
  clear hM hE hP hF hb k1 k2 bH dW
  go_wp2_with fail
  refine (ab HX).mono ?_
  rintro e wB ⟨rfl,Fi⟩
  obtain ⟨hb,k1,k2,bH,dW⟩:=ab H2
  have k1:=(Fi.block _ (zA k1).1).trans k1
  have k2:=(Fi.block _ (zA k2).1).trans k2
  have bH:=bH.up Fi
  have dW:=dW.up Fi
  have hb:=hb.trans (Fi.mono hb.size)
  clear Fi H2 HX d0 d1 d2 d3
  obtain ⟨d0,d1,d2,d3⟩:=aP k1
  obtain ⟨c0,c1,c2,c3⟩:=aP k2
  obtain ⟨hM,hE,hP,hF⟩:=ab oD
  have HX:=al (mr (f:=200) (zD _) bH dW (ab lP) (ab lP) wB (zE _ _))
  have e1:(s2.toList==s2.toList)=true:=by simp
  have e2:(n2==n2)=true:=by simp
  have H2:=al hb
  have sE:=al (And.intro hM (And.intro hE (And.intro hP hF)))
  clear hM hE hP hF hb k1 k2 bH dW oD
  go_wp2_with fail
  refine (ju _ n2).mono ?_
  rintro e wC ⟨rfl,rfl⟩
  go_wp2_with fail
  refine (ab HX).mono ?_
  rintro e wD ⟨q2,rfl,gT,MF⟩
  obtain rfl:q2=true:=gT.2 (by trivial)
  have HB:=al ((ab H2).trans (MF.mono (ab H2).size))
  obtain ⟨hM,hE,hP,hF⟩:=ab sE
  have HX:=al (o6 (hM.up (ab HB) hM.1) (hE.up (ab HB)) (hP.up (ab HB)) (hF.up (ab HB)))
  clear hM hE hP hF sE MF gT H2
  go_wp2_with fail
  refine (ab HX).mono ?_
  rintro e wE ⟨rfl,Sr⟩
  have PC:=al ((ab HB).trans (Sr.mono (ab HB).size))
  clear Sr HB HX
  go_wp2
  go_ret
  exact ⟨rfl,ab PC⟩
 |false =>
  have HX:=al (iB bH.oE (ab FX) w2 (zE _ _))
  have H2:=al (And.intro hb (And.intro k0 (And.intro k1 (And.intro bH (And.intro eU cT)))))
  clear hb k0 k1 bH eU cT Hq Ps Mb
  go_wp2_with fail
  refine (ab HX).mono ?_
  rintro e w3 ⟨u2,Q0,QZ,PK,x2,y2,rfl,dW,cz⟩
  obtain ⟨hb,k0,k1,bH,eU,cT⟩:=ab H2
  obtain ⟨oi,ni,om,nh,oe,nj,rfl,rfl,rfl⟩:=iJ dW
  obtain rfl:=dW.is
  unfold qf at dW ⊢
  simp only at dW ⊢
  rw[lM 200 M (ab q8)] at dW ⊢
  have k0:=(cz.block _ (zA k0).1).trans k0
  have k1:=(cz.block _ (zA k1).1).trans k1
  have bH:=bH.mono (aB cz)
  have hb:=hb.trans (cz.mono hb.size)
  have cT:=Nat.le_trans cT cz.size
  clear c0 c1 c2 c3 d0 d1 d2 d3 z0 z1 z2 z3
  obtain ⟨c0,c1,c2,c3⟩:=aP k0
  obtain ⟨z0,z1,z2,z3⟩:=D7 k0
  obtain ⟨X,hX⟩:∃X,(((w3.setCell ⟨W.heap.size,0,none⟩ (.string pk)).setCell ⟨W.heap.size,1,none⟩ (.slice oi is.length ni)).setCell ⟨W.heap.size,2,none⟩ (.slice om M.length nh)).setCell ⟨W.heap.size,3,none⟩ (.slice oe es.length nj)=X:=⟨_,rfl⟩
  obtain ⟨kx,gx⟩:=Ra k0 (.string pk) (.slice oi is.length ni) (.slice om M.length nh) (.slice oe es.length nj)
  rw[hX] at kx gx
  have Wy:W.heap.size<V.heap.size:=by have e:=zJ W (.cells #[.string pk,.slice fi is.length Fu,.slice fm ms.length Ft,.slice fe es.length Fw] 26);rw[hV] at e;omega
  have k1:=(gx.block _ (zA k1).1 (by simp;omega)).trans k1
  have bH:=bH.mono (gr gx (fun g (hg:V.heap.size≤g) e=>by have:=zC e;omega))
  have kk:=(dW.mono (gr gx (fun g (hg:w2.heap.size≤g) e=>by have:=zC e;omega))).oE
  have hb:=cn hb gx hb.size (fun k e=>by obtain rfl:=zC e;omega)
  have cT:=Nat.le_trans cT gx.size
  have k0:=kx
  have Xm:=hX
  clear kx gx dW cz H2 HX Wy Xm
  obtain ⟨d0,d1,d2,d3⟩:=aP k1
  obtain ⟨hM,hE,hP,hF⟩:=ab oD
  have HX:=al (kK (hM.up hb hM.1) (hE.up hb) (hP.up hb) (hF.up hb) bH.oE (ab Hs))
  have H2:=al (And.intro hb (And.intro k0 (And.intro k1 (And.intro kk (And.intro bH (And.intro eU cT))))))
  obtain ⟨⟨s1,n1⟩,hT⟩:∃T,fO ⟨pk,is,M,es⟩=T:=⟨_,rfl⟩
  rw[hT] at HX
  simp only at HX
  have HT:=al hT
  clear hM hE hP hF hb k0 k1 kk bH eU cT hT
  go_wp2_with fail
  refine (ab HX).mono ?_
  rintro e w4 ⟨rfl,ff⟩
  obtain ⟨hb,k0,k1,kk,bH,eU,cT⟩:=ab H2
  have k0:=(ff.block _ (zA k0).1).trans k0
  have k1:=(ff.block _ (zA k1).1).trans k1
  have kk:=kk.up ff
  have bH:=bH.mono (aB ff)
  have hb:=hb.trans (ff.mono hb.size)
  have cT:=Nat.le_trans cT ff.size
  clear ff H2 HX
  obtain ⟨c0,c1,c2,c3⟩:=aP k0
  obtain ⟨d0,d1,d2,d3⟩:=aP k1
  obtain ⟨hM,hE,hP,hF⟩:=ab oD
  have HX:=al (kP (hF.up hb) kk (by have:=ab Db;omega))
  rw[ab HT] at HX
  simp only at HX
  have H2:=al (And.intro hb (And.intro k0 (And.intro k1 (And.intro kk (And.intro bH (And.intro eU cT))))))
  clear hM hE hP hF hb k0 k1 kk bH eU cT d0 d1 d2 d3
  go_wp2_with fail
  refine (ab HX).mono ?_
  rintro e w5 ⟨rfl,kh⟩
  obtain ⟨hb,k0,k1,kk,bH,eU,cT⟩:=ab H2
  have k0:=(kh.block _ (zA k0).1).trans k0
  have k1:=(kh.block _ (zA k1).1).trans k1
  have kk:=kk.up kh
  have bH:=bH.mono (aB kh)
  have hb:=hb.trans (kh.mono hb.size)
  have cT:=Nat.le_trans cT kh.size
  clear kh H2 HX
  obtain ⟨c0,c1,c2,c3⟩:=aP k0
  obtain ⟨d0,d1,d2,d3⟩:=aP k1
  obtain ⟨hM,hE,hP,hF⟩:=ab oD
  have HX:=al (mr (f:=200) (zD _) bH.oE kk (ab q8) (ab q8) w5 (zE _ _))
  have e1:(s1.toList==s1.toList)=true:=by simp
  have e2:(n1==n1)=true:=by simp
  have e3:(s1.toList != s1.toList)=false:=by simp
  have e4:(n1 != n1)=false:=by simp
  have H2:=al (And.intro hb (And.intro k0 (And.intro k1 (And.intro bH (And.intro eU cT)))))
  clear hM hE hP hF hb k0 k1 kk bH eU cT
  go_wp2_with fail
  refine (ju _ n1).mono ?_
  rintro e w6 ⟨rfl,rfl⟩
  go_wp2_with fail
  refine (ab HX).mono ?_
  rintro e w7 ⟨q2,rfl,gT,qU⟩
  obtain rfl:q2=true:=gT.2 (by trivial)
  obtain ⟨hb,k0,k1,bH,eU,cT⟩:=ab H2
  have k1:=(qU.block _ (zA k1).1).trans k1
  have bH:=bH.mono (aB qU)
  have hb:=hb.trans (qU.mono hb.size)
  have cT:=Nat.le_trans cT qU.size
  have HX:=al (mN bH (ab q8) cT)
  clear d0 d1 d2 d3 c0 c1 c2 c3
  obtain ⟨d0,d1,d2,d3⟩:=aP k1
  have H2:=al (And.intro hb (And.intro k1 (And.intro bH (And.intro eU cT))))
  clear hb k0 k1 bH eU cT qU gT
  go_wp2_with fail
  refine (ab HX).mono ?_
  rintro e w8 ⟨rfl,uN⟩
  obtain ⟨hb,k1,bH,eU,cT⟩:=ab H2
  have k1:=uN.file k1
  have hb:Below W.heap.size W w8:=hb.trans (uN.bU.mono eU)
  have cT:=Nat.le_trans cT uN.bU.size
  obtain ⟨G,xm,xe,bH,g1,g2,g3,g4⟩:=bH.sp (fun _ h=>h) uN
  have CH:MP ⟨pk,is,M,es⟩ G:=⟨g2,g3,g4⟩
  have Dd:=al (CH.re (ab FX))
  have Da:=al (show kG G≤1048576 by rw[CH.T7];exact ab Db)
  have lP:=al (g3.dp 200 (ab q8))
  have JK:=al (g3.sz 32 (ab Hs))
  obtain ⟨gk,gi,gm,ge⟩:=G
  simp only at g1 g2 g3 g4 lP JK bH
  have g1:=g1.symm
  subst g1
  have HL:=al (And.intro g2 (And.intro g3.len g4.len))
  have HX:=al (iB bH.oE (ab Dd) w8 (zE _ _))
  clear d0 d1 d2 d3
  obtain ⟨d0,d1,d2,d3⟩:=aP k1
  have H2:=al (And.intro hb (And.intro k1 (And.intro bH (And.intro eU cT))))
  clear hb k1 bH eU cT uN g2 g3 g4 CH e1 e2 e3 e4
  go_wp2_with fail
  refine (ab HX).mono ?_
  rintro e w9 ⟨u2,Q0,QZ,PK,x2,y2,rfl,dW,j7⟩
  obtain ⟨hb,k1,bH,eU,cT⟩:=ab H2
  obtain ⟨oi,ni,om,nh,oe,nj,rfl,rfl,rfl⟩:=iJ dW
  obtain rfl:=dW.is
  unfold qf at dW ⊢
  simp only at dW ⊢
  rw[lM 200 gm (ab lP)] at dW ⊢
  have k1:=(j7.block _ (zA k1).1).trans k1
  have bH:=bH.mono (aB j7)
  have hb:=hb.trans (j7.mono hb.size)
  have cT:=Nat.le_trans cT j7.size
  have k2:=aJ w9 (.cells #[.string pk,.slice oi gi.length ni,.slice om gm.length nh,.slice oe ge.length nj] 26)
  have b9:Below w9.heap.size w9 (w9.alloc (.cells #[.string pk,.slice oi gi.length ni,.slice om gm.length nh,.slice oe ge.length nj] 26)):=(zE _ _).alloc (zD _) _
  obtain ⟨V9,Ok⟩:∃V9,w9.alloc (.cells #[.string pk,.slice oi gi.length ni,.slice om gm.length nh,.slice oe ge.length nj] 26)=V9:=⟨_,rfl⟩
  rw[Ok] at k2 b9
  have k1:=(b9.block _ (zA k1).1).trans k1
  have bH:=(bH.mono (aB b9)).oE
  have dW:=(dW.mono (aB b9)).oE
  have hb:=hb.trans (b9.mono hb.size)
  obtain ⟨hM,hE,hP,hF⟩:=ab oD
  have HX:=al (kK (hM.up hb hM.1) (hE.up hb) (hP.up hb) (hF.up hb) bH (ab JK))
  obtain ⟨⟨s2,n2⟩,hT⟩:∃T,fO ⟨pk,gi,gm,ge⟩=T:=⟨_,rfl⟩
  rw[hT] at HX
  simp only at HX
  have HT:=al hT
  clear d0 d1 d2 d3
  obtain ⟨d0,d1,d2,d3⟩:=aP k1
  have H2:=al (And.intro hb (And.intro k1 (And.intro k2 (And.intro bH dW))))
  clear hM hE hP hF hb k1 k2 bH dW eU cT j7 b9 hT
  go_wp2_with fail
  refine (ab HX).mono ?_
  rintro e wA ⟨rfl,p7⟩
  obtain ⟨hb,k1,k2,bH,dW⟩:=ab H2
  have k1:=(p7.block _ (zA k1).1).trans k1
  have k2:=(p7.block _ (zA k2).1).trans k2
  have bH:=bH.up p7
  have dW:=dW.up p7
  have hb:=hb.trans (p7.mono hb.size)
  clear p7 H2 HX d0 d1 d2 d3
  obtain ⟨d0,d1,d2,d3⟩:=aP k1
  obtain ⟨c0,c1,c2,c3⟩:=aP k2
  obtain ⟨hM,hE,hP,hF⟩:=ab oD
  have HX:=al (kP (hF.up hb) dW (by have:=ab Da;omega))
  rw[ab HT] at HX
  simp only at HX
  have H2:=al (And.intro hb (And.intro k1 (And.intro k2 (And.intro bH dW))))
  clear hM hE hP hF hb k1 k2 bH dW
  go_wp2_with fail
  refine (ab HX).mono ?_
  rintro e wB ⟨rfl,Fi⟩
  obtain ⟨hb,k1,k2,bH,dW⟩:=ab H2
  have k1:=(Fi.block _ (zA k1).1).trans k1
  have k2:=(Fi.block _ (zA k2).1).trans k2
  have bH:=bH.up Fi
  have dW:=dW.up Fi
  have hb:=hb.trans (Fi.mono hb.size)
  clear Fi H2 HX d0 d1 d2 d3
  obtain ⟨d0,d1,d2,d3⟩:=aP k1
  obtain ⟨c0,c1,c2,c3⟩:=aP k2
  obtain ⟨hM,hE,hP,hF⟩:=ab oD
  have HX:=al (mr (f:=200) (zD _) bH dW (ab lP) (ab lP) wB (zE _ _))
  have e1:(s2.toList==s2.toList)=true:=by simp
  have e2:(n2==n2)=true:=by simp
  have H2:=al hb
  have sE:=al (And.intro hM (And.intro hE (And.intro hP hF)))
  clear hM hE hP hF hb k1 k2 bH dW oD
  go_wp2_with fail
  refine (ju _ n2).mono ?_
  rintro e wC ⟨rfl,rfl⟩
  go_wp2_with fail
  refine (ab HX).mono ?_
  rintro e wD ⟨q2,rfl,gT,MF⟩
  obtain rfl:q2=true:=gT.2 (by trivial)
  have HB:=al ((ab H2).trans (MF.mono (ab H2).size))
  obtain ⟨hM,hE,hP,hF⟩:=ab sE
  have HX:=al (o6 (hM.up (ab HB) hM.1) (hE.up (ab HB)) (hP.up (ab HB)) (hF.up (ab HB)))
  clear hM hE hP hF sE MF gT H2
  go_wp2_with fail
  refine (ab HX).mono ?_
  rintro e wE ⟨rfl,Sr⟩
  have PC:=al ((ab HB).trans (Sr.mono (ab HB).size))
  clear Sr HB HX
  go_wp2
  go_ret
  exact ⟨rfl,ab PC⟩
end Go.Proofs.YtichhjfjcinjgaaGreatDoor

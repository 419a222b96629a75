import Derived.Test.YtghioefalckgoaaGreatDoorM50
set_option maxHeartbeats 8000000
set_option maxRecDepth 100000
namespace Go.Proofs.YtghioefalckgoaaGreatDoor
open Go.RowKit
attribute [local go_sem ↓] Go.wp_at_zero Go.wp_at_succ
theorem Qo (a:Int) (h:a≠0):(a != 0)=true:=by simpa using h
theorem Gi {W:World}{v vi vm ve:Value}{F:Fl}{cm ce:List Value} (hF:jS W) (hE:ji W) (hM:gj W) (hP:gG W) (h:zy W v F vi vm ve cm ce) (hr:LJ F) (hs:∀m ∈ F.ms,wm 32 m) :
  Calls Tryz.prog 4 #[v] W fun e w=>e=.returned (.bool true)∧Below W.heap.size W w:=by
 obtain ⟨pk,is,ms,es⟩:=F
 have HW:=ak (fun (w:World) (hb:Below W.heap.size W w)=>And.intro (hM.up hb hM.1) (And.intro (hE.up hb) (And.intro (hP.up hb) (hF.up hb))))
 have HTW:=ak (fun w' hb=>uA h hr w' hb)
 have YD:=ak hr.cut
 have Hs:=ak (show ∀m ∈ fp 200 ms,wm 32 m from fun m hm=>by obtain ⟨x,hx,rfl⟩:=List.mem_map.1 (show m ∈ ms.map (ri 199) from hm);exact DB 32 199 x (hs x hx))
 have LM:=ak (Kt 200 ms)
 obtain ⟨rfl,⟨fi,fdi,rfl,-,-⟩,⟨fm,fdm,rfl,-,-⟩,-,⟨fe,fde,rfl,-,-⟩,-⟩:=h
 unfold FZ at YD
 simp only at HTW YD ⊢
 have k0:=aE W (.cells #[.string pk,.slice fi is.length fdi,.slice fm ms.length fdm,.slice fe es.length fde] 26)
 have b0:Below W.heap.size W (W.alloc (.cells #[.string pk,.slice fi is.length fdi,.slice fm ms.length fdm,.slice fe es.length fde] 26)):=(zE _ _).alloc (zD _) _
 obtain ⟨V,hV⟩:∃V,W.alloc (.cells #[.string pk,.slice fi is.length fdi,.slice fm ms.length fdm,.slice fe es.length fde] 26)=V:=⟨_,rfl⟩
 rw[hV] at k0 b0
 obtain ⟨J2,Bg,J0,J3⟩:=ab HW V b0
 have HH:=ak (JS J2 Bg J0 J3)
 have HV:=ak (And.intro b0 k0)
 clear hM hE hP hF hs hr k0 b0 J2 Bg J0 J3
 go_enter Tryz.func4,Tryz.ntmps4
 go_wp2_with fail
 refine (ab HH).mono ?_
 rintro e w1 ⟨rfl,aY⟩
 obtain ⟨hb,kp⟩:=ab HV
 have kp:=(aY.block _ (zA kp).1).trans kp
 have hb:=hb.trans (aY.mono hb.size)
 have n8:=ak (ab HTW w1 hb)
 obtain ⟨c0,c1,c2,c3⟩:=eN kp
 have H1:=ak (And.intro hb kp)
 clear aY HH HV hb kp HTW
 go_wp2_with fail
 refine (ab n8).mono ?_
 rintro e w2 ⟨u1,ui1,um1,ue1,x1,y1,rfl,D6,b9⟩
 obtain ⟨hb,kp⟩:=ab H1
 obtain ⟨Sg,RQ,Sd,RO,Si,RT,rfl,rfl,rfl⟩:=kT D6
 obtain rfl:=D6.is
 unfold FZ at D6 ⊢
 simp only at D6 ⊢
 obtain ⟨M,hMS⟩:∃M,fp 200 ms=M:=⟨_,rfl⟩
 rw[hMS] at D6 YD Hs LM ⊢
 clear hMS
 have kp:=(b9.block _ (zA kp).1).trans kp
 have aU:=(zA (ab H1).2).1
 have hb:=hb.trans (b9.mono hb.size)
 obtain ⟨c0,c1,c2,c3⟩:=eN kp
 obtain ⟨z0,z1,z2,z3⟩:=V8 kp
 obtain ⟨X,hX⟩:∃X,(((w2.setCell ⟨W.heap.size,0,none⟩ (.string pk)).setCell ⟨W.heap.size,1,none⟩ (.slice Sg is.length RQ)).setCell ⟨W.heap.size,2,none⟩ (.slice Sd M.length RO)).setCell ⟨W.heap.size,3,none⟩ (.slice Si es.length RT)=X:=⟨_,rfl⟩
 obtain ⟨kx,gx⟩:=ZR kp (.string pk) (.slice Sg is.length RQ) (.slice Sd M.length RO) (.slice Si es.length RT)
 rw[hX] at kx gx
 have hb:=cj hb gx hb.size (fun k e=>by obtain rfl:=zC e;omega)
 have D6:=D6.mono (lT gx (fun g (hg:w1.heap.size≤g) e=>by have:=zC e;omega))
 have hD:=b9.size
 have fK:Fb X W.heap.size w1.heap.size X.heap.size ⟨pk,is,M,es⟩ (.slice Sg is.length RQ) (.slice Sd M.length RO) (.slice Si es.length RT):=⟨kx,⟨_,_,D6.mono fun g hg hl=>⟨rfl,hg,hl⟩⟩,zD _⟩
 have hD:W.heap.size<w1.heap.size∧w1.heap.size≤X.heap.size:=by have:=gx.size;omega
 have hcut:FZ ⟨pk,is,M,es⟩=⟨pk,is,M,es⟩:=by
  show (⟨pk,is,fp 200 M,es⟩:Fl)=_
  rw[Dc 200 M (ab LM)]
 have qq:=ak (uA D6.nU (ab YD) X (zE _ _))
 have SJ:=ak hcut
 have H2:=ak (And.intro hb (And.intro fK hD))
 obtain ⟨d0,d1,d2,d3⟩:=fK.cl
 clear n8 H1 b9 hb kp kx gx D6 hD fK aU hcut
 go_wp2_with fail
 refine (ab qq).mono ?_
 rintro e w3 ⟨u2,ui2,um2,ue2,x2,y2,rfl,Ts,cY⟩
 rw[ab SJ] at Ts
 obtain ⟨hb,fK,hD⟩:=ab H2
 obtain ⟨Wt,Wk,Ws,Wj,Wu,Wl,rfl,rfl,rfl⟩:=kT Ts
 obtain rfl:=Ts.is
 simp only at Ts ⊢
 obtain ⟨V3,hV3⟩:∃V3,w3.alloc (.cells #[.string pk,.slice Wt is.length Wk,.slice Ws M.length Wj,.slice Wu es.length Wl] 26)=V3:=⟨_,rfl⟩
 obtain ⟨iN,Rm⟩:=Fb.new (F:=⟨pk,is,M,es⟩) Ts hV3
 have fK:=(fK.up cY).up Rm
 have hb:=(hb.trans (cY.mono hb.size)).trans (Rm.mono (Nat.le_trans hb.size cY.size))
 have kC:X.heap.size≤w3.heap.size∧w3.heap.size<V3.heap.size:=⟨cY.size,iN.lt⟩
 obtain ⟨cmm,cme,JP⟩:=iN.nU
 obtain ⟨J2,Bg,J0,J3⟩:=ab HW V3 hb
 have eZ:=ak (nB J2 Bg J0 J3 JP (ab Hs))
 have H3:=ak (And.intro hb (And.intro fK (And.intro iN (And.intro hD kC))))
 clear c0 c1 c2 c3 z0 z1 z2 z3 d0 d1 d2 d3
 obtain ⟨d0,d1,d2,d3⟩:=iN.cl
 clear qq H2 cY Rm hb fK iN hD kC Ts JP J2 Bg J0 J3
 go_wp2_with fail
 refine (ab eZ).mono ?_
 rintro e w4 ⟨hq,lb⟩
 obtain ⟨hb,fK,iN,hD,kC⟩:=ab H3
 have fK:=fK.up lb
 have iN:=iN.up lb
 have hb:=hb.trans (lb.mono hb.size)
 have tz:V3.heap.size≤w4.heap.size:=lb.size
 have Ht:=ak (EO ⟨pk,is,M,es⟩)
 clear d0 d1 d2 d3 eZ H3 lb
 rcases hq with ⟨hz,vi4,vm4,ve4,cm4,ce4,B,rfl,hY,hA⟩|⟨hz,rfl⟩
 rotate_left
 ·have kz:=aE w4 (.cells #[.string ⟨#[]⟩,.slice none 0 0,.slice none 0 0,.slice none 0 0] 26)
  have bz:Below w4.heap.size w4 (w4.alloc (.cells #[.string ⟨#[]⟩,.slice none 0 0,.slice none 0 0,.slice none 0 0] 26)):=(zE _ _).alloc (zD _) _
  have HB:=ak (hb.trans (bz.mono hb.size))
  obtain ⟨n,hn⟩:∃n,(fz ⟨pk,is,M,es⟩).2=n:=⟨_,rfl⟩
  rw[hn] at Ht hz ⊢
  have e0:=Qo n hz
  have Hz:=ak hz
  clear hb fK iN hD kC tz hn hz kz bz
  go_wp2_with fail
  refine (jY _ n).mono ?_
  rintro e w5 ⟨rfl,rfl⟩
  rcases ab Ht with hh|rfl|rfl
  ·exact absurd hh (ab Hz)
  ·clear Hz Ht e0
   go_wp2_with fail
   refine (jY _ 2).mono ?_
   rintro e w5 ⟨rfl,rfl⟩
   go_wp2
   go_ret
   exact ⟨rfl,ab HB⟩
  ·clear Hz Ht e0
   go_wp2_with fail
   refine (jY _ 60).mono ?_
   rintro e w5 ⟨rfl,rfl⟩
   go_wp2_with fail
   refine (jY _ 60).mono ?_
   rintro e w5 ⟨rfl,rfl⟩
   go_wp2
   go_ret
   exact ⟨rfl,ab HB⟩
 have M':=Qe hz
 have Lz:(cL ⟨pk,is,M,es⟩).dj=pk:=rfl
 obtain ⟨S,hS⟩:∃S,cL ⟨pk,is,M,es⟩=S:=⟨_,rfl⟩
 rw[hS] at hY M' Lz
 obtain ⟨jn,si,sm,se⟩:=S
 simp only at Lz
 subst Lz
 have HSo:=ak (And.intro hS hz)
 have mr:=ak M'
 obtain ⟨u4,hZ,hU,hO⟩:=hY.Gz hA
 obtain ⟨bi4,di4,bm4,dm4,be4,de4,rfl,rfl,rfl⟩:=kT hO
 simp only at hO hZ ⊢
 obtain ⟨V4,hV4⟩:∃V4,w4.alloc (.cells #[.string jn,.slice bi4 si.length di4,.slice bm4 sm.length dm4,.slice be4 se.length de4] 26)=V4:=⟨_,rfl⟩
 obtain ⟨pC,JV⟩:=Fb.new (F:=⟨jn,si,sm,se⟩) (hO.mono fun g hg _=>⟨rfl,hg.1⟩) hV4
 have hZ:=hZ.eQ (jo (used:=u4) JV)
 have fK:=fK.up JV
 have iN:=iN.up JV
 have hb:=hb.trans (JV.mono hb.size)
 have vZ:w4.heap.size<V4.heap.size:=pC.lt
 obtain ⟨cma,cea,VL⟩:=pC.nU
 have PJ:=ak (uA VL M'.re V4 (zE _ _))
 have H4:=ak (And.intro hb (And.intro fK (And.intro iN (And.intro pC (And.intro hZ (And.intro hU (And.intro (And.intro hD kC) (And.intro tz vZ))))))))
 obtain ⟨c0,c1,c2,c3⟩:=pC.cl
 clear hb fK iN pC hZ hU hO hD kC tz vZ VL M' hS hz hY hA JV Ht
 go_wp2_with fail
 refine (jY _ 0).mono ?_
 rintro e wn ⟨rfl,Jx⟩
 replace Jx:=Jx.symm
 subst Jx
 go_wp2_with fail
 refine (ab PJ).mono ?_
 rintro e w5 ⟨u5,ui5,um5,ue5,x5,y5,rfl,Tr,lv⟩
 rw[(ab mr).cut] at Tr
 obtain ⟨hb,fK,iN,pC,hZ,hU,⟨hD,kC⟩,tz,vZ⟩:=ab H4
 obtain ⟨N5,NM,N4,NL,N7,NO,rfl,rfl,rfl⟩:=kT Tr
 obtain rfl:=Tr.is
 simp only at Tr ⊢
 obtain ⟨V5,hV5⟩:∃V5,w5.alloc (.cells #[.string jn,.slice N5 si.length NM,.slice N4 sm.length NL,.slice N7 se.length NO] 26)=V5:=⟨_,rfl⟩
 obtain ⟨e8,FC⟩:=Fb.new (F:=⟨jn,si,sm,se⟩) Tr hV5
 have fK:=(fK.up lv).up FC
 have iN:=(iN.up lv).up FC
 have pC:=(pC.up lv).up FC
 have hZ:=(hZ.eQ (jo (used:=u4) lv)).eQ (jo (used:=u4) FC)
 have hb:=(hb.trans (lv.mono hb.size)).trans (FC.mono (Nat.le_trans hb.size lv.size))
 have vY:V4.heap.size≤w5.heap.size∧w5.heap.size<V5.heap.size:=⟨lv.size,e8.lt⟩
 obtain ⟨abF,abG,JP⟩:=iN.nU
 obtain ⟨J2,Bg,J0,J3⟩:=ab HW V5 hb
 have HS6:=ak (nB J2 Bg J0 J3 JP (ab Hs))
 clear c0 c1 c2 c3
 obtain ⟨d0,d1,d2,d3⟩:=iN.cl
 have H5:=ak (And.intro hb (And.intro fK (And.intro iN (And.intro pC (And.intro hZ (And.intro hU (And.intro e8 (And.intro (And.intro hD kC) (And.intro (And.intro tz vZ) vY)))))))))
 clear hb fK iN pC hZ hU e8 hD kC tz vZ vY lv FC PJ H4 Tr JP J2 Bg J0 J3
 go_wp2_with fail
 refine (ab HS6).mono ?_
 rintro e w6 ⟨hq,lr⟩
 obtain ⟨hb,fK,iN,pC,hZ,hU,e8,⟨hD,kC⟩,⟨tz,vZ⟩,vY⟩:=ab H5
 obtain ⟨hS,hz⟩:=ab HSo
 rcases hq with ⟨-,vi6,vm6,ve6,cm6,ce6,B6,rfl,hY,hA⟩|⟨hz',-⟩
 rotate_left
 ·exact absurd hz hz'
 rw[hS] at hY
 obtain ⟨u6,-,-,hO⟩:=hY.Gz hA
 obtain ⟨Sf,RP,Sc,RN,Sh,RS,rfl,rfl,rfl⟩:=kT hO
 simp only at hO ⊢
 obtain ⟨V6,hV6⟩:∃V6,w6.alloc (.cells #[.string jn,.slice Sf si.length RP,.slice Sc sm.length RN,.slice Sh se.length RS] 26)=V6:=⟨_,rfl⟩
 obtain ⟨dJ,CV⟩:=Fb.new (F:=⟨jn,si,sm,se⟩) (hO.mono fun g hg _=>⟨rfl,hg.1⟩) hV6
 have fK:=(fK.up lr).up CV
 have iN:=(iN.up lr).up CV
 have pC:=(pC.up lr).up CV
 have e8:=(e8.up lr).up CV
 have hZ:=(hZ.eQ (jo (used:=u4) lr)).eQ (jo (used:=u4) CV)
 have hb:=(hb.trans (lr.mono hb.size)).trans (CV.mono (Nat.le_trans hb.size lr.size))
 have BQ:V5.heap.size≤w6.heap.size∧w6.heap.size<V6.heap.size:=⟨lr.size,dJ.lt⟩
 have HG:=ak (FI hZ (fun g hg=>hU g (by omega)) (ab mr).b (ab mr).e (ab mr).m (ab mr).s (ab mr).t)
 clear d0 d1 d2 d3
 obtain ⟨c0,c1,c2,c3⟩:=pC.cl
 have H6:=ak (And.intro hb (And.intro fK (And.intro iN (And.intro pC (And.intro hZ (And.intro hU (And.intro e8 (And.intro dJ (And.intro (And.intro hD kC) (And.intro (And.intro tz vZ) (And.intro vY BQ)))))))))))
 clear hb fK iN pC hZ hU e8 dJ hD kC tz vZ vY BQ lr CV HS6 H5 hS hz hY hA hO
 go_wp2_with fail
 refine (ab HG).mono ?_
 rintro e w7 ⟨n,rfl,hn,hg⟩
 obtain ⟨hb,fK,iN,pC,hZ,hU,e8,dJ,⟨hD,kC⟩,⟨tz,vZ⟩,vY,BQ⟩:=ab H6
 have hb:Below W.heap.size W w7:=hb.trans (hg.low (fun g h=>hU g (by omega)) hb.size)
 have fK:=fK.eQ hg (hU _ (by omega)) (fun g h1 h2=>hU g (by omega))
 have iN:=iN.eQ hg (hU _ (by omega)) (fun g h1 h2=>hU g (by omega))
 have e8:=e8.eQ hg (hU _ (by omega)) (fun g h1 h2=>hU g (by omega))
 have dJ:=dJ.eQ hg (hU _ (by omega)) (fun g h1 h2=>hU g (by omega))
 have hZ:=hZ.eQ hg
 have Ni:=(hg.same _ pC.lt (hU _ (by omega))).trans pC.box
 have O':V6.heap.size≤w7.heap.size:=hg.size
 clear hg pC H6 HG c0 c1 c2 c3
 have VL:=hZ.Gz.nU
 obtain ⟨_,_,Pc⟩:=fK.nU
 obtain ⟨_,_,JP⟩:=iN.nU
 obtain ⟨_,_,Lv⟩:=e8.nU
 obtain ⟨_,_,Pj⟩:=dJ.nU
 have LA:¬(n<192):=by omega
 have Fu:decide (n<192)=false:=decide_eq_false LA
 have zW:Hid (∀w',Below w7.heap.size w7 w'→(w'.cell? ⟨w4.heap.size,0,none⟩=some (.string jn)∧w'.cell? ⟨w4.heap.size,1,none⟩=some (.slice bi4 si.length di4)∧w'.cell? ⟨w4.heap.size,2,none⟩=some (.slice bm4 sm.length dm4)∧w'.cell? ⟨w4.heap.size,3,none⟩=some (.slice be4 se.length de4))∧(w'.cell? ⟨w5.heap.size,0,none⟩=some (.string jn)∧w'.cell? ⟨w5.heap.size,1,none⟩=some (.slice N5 si.length NM)∧w'.cell? ⟨w5.heap.size,2,none⟩=some (.slice N4 sm.length NL)∧w'.cell? ⟨w5.heap.size,3,none⟩=some (.slice N7 se.length NO))∧(w'.cell? ⟨w3.heap.size,0,none⟩=some (.string jn)∧w'.cell? ⟨w3.heap.size,1,none⟩=some (.slice Wt is.length Wk)∧w'.cell? ⟨w3.heap.size,2,none⟩=some (.slice Ws M.length Wj)∧w'.cell? ⟨w3.heap.size,3,none⟩=some (.slice Wu es.length Wl))∧(w'.cell? ⟨W.heap.size,0,none⟩=some (.string jn)∧w'.cell? ⟨W.heap.size,1,none⟩=some (.slice Sg is.length RQ)∧w'.cell? ⟨W.heap.size,2,none⟩=some (.slice Sd M.length RO)∧w'.cell? ⟨W.heap.size,3,none⟩=some (.slice Si es.length RT))∧(w'.cell? ⟨w6.heap.size,0,none⟩=some (.string jn)∧w'.cell? ⟨w6.heap.size,1,none⟩=some (.slice Sf si.length RP)∧w'.cell? ⟨w6.heap.size,2,none⟩=some (.slice Sc sm.length RN)∧w'.cell? ⟨w6.heap.size,3,none⟩=some (.slice Sh se.length RS))):=fun w' h=>⟨eN ((h.block _ (zA Ni).1).trans Ni),(e8.up h).cl,(iN.up h).cl,(fK.up h).cl,(dJ.up h).cl⟩
 have eZ:Hid (∀w',Below w7.heap.size w7 w'→Calls Tryz.prog 16 #[.agg #[.string jn,.slice bi4 si.length di4,.slice bm4 sm.length dm4,.slice be4 se.length de4],.agg #[.string jn,.slice N5 si.length NM,.slice N4 sm.length NL,.slice N7 se.length NO]] w' (Ev w' ((⟨jn,si,sm,se⟩:Fl)=⟨jn,si,sm,se⟩))):=fun w' h=>nC (f:=32) (by omega) (VL.up h) (Lv.up h) (ab mr).dp (ab mr).dp w' (zE _ _)
 have pE:Hid (∀w',Below w7.heap.size w7 w'→Calls Tryz.prog 16 #[.agg #[.string jn,.slice Wt is.length Wk,.slice Ws M.length Wj,.slice Wu es.length Wl],.agg #[.string jn,.slice Sg is.length RQ,.slice Sd M.length RO,.slice Si es.length RT]] w' (Ev w' ((⟨jn,is,M,es⟩:Fl)=⟨jn,is,M,es⟩))):=fun w' h=>nC (f:=200) (by omega) (JP.up h) (Pc.up h) (ab LM) (ab LM) w' (zE _ _)
 have HS3:Hid (∀w',Below w7.heap.size w7 w'→Calls Tryz.prog 16 #[.agg #[.string jn,.slice Sf si.length RP,.slice Sc sm.length RN,.slice Sh se.length RS],.agg #[.string jn,.slice N5 si.length NM,.slice N4 sm.length NL,.slice N7 se.length NO]] w' (Ev w' ((⟨jn,si,sm,se⟩:Fl)=⟨jn,si,sm,se⟩))):=fun w' h=>nC (f:=32) (by omega) (Pj.up h) (Lv.up h) (ab mr).dp (ab mr).dp w' (zE _ _)
 have H7:=ak (And.intro hb (And.intro fK (And.intro iN (And.intro hZ (And.intro hU (And.intro e8 (And.intro dJ (And.intro Ni (And.intro (And.intro hD kC) (And.intro (And.intro tz vZ) (And.intro vY (And.intro BQ O'))))))))))))
 clear hb fK iN hZ hU e8 dJ Ni hD kC tz vZ vY BQ O' VL Pc JP Lv Pj
 obtain ⟨⟨R9,R8,R7,R6⟩,⟨ze,zd,zc,y9⟩,⟨Eo,Em,zV,F7⟩,⟨Gc,Gb,Ga,F'⟩,⟨zo,zn,zm,zl⟩⟩:=ab zW _ (zE w7.heap.size w7)
 go_wp2_with fail
 refine (ab eZ _ (zE w7.heap.size w7)).mono ?_
 rintro e Ua ⟨q,rfl,hq,hz⟩
 obtain rfl:q=true:=hq.2 (by trivial)
 have mc:Below w7.heap.size w7 Ua:=(zE w7.heap.size w7).trans (hz.mono (zE w7.heap.size w7).size)
 clear hz hq R9 R8 R7 R6 ze zd zc y9 Eo Em zV F7 Gc Gb Ga F' zo zn zm zl
 obtain ⟨⟨R9,R8,R7,R6⟩,⟨ze,zd,zc,y9⟩,⟨Eo,Em,zV,F7⟩,⟨Gc,Gb,Ga,F'⟩,⟨zo,zn,zm,zl⟩⟩:=ab zW _ mc
 go_wp2_with fail
 refine (ab pE _ mc).mono ?_
 rintro e S2 ⟨q,rfl,hq,hz⟩
 obtain rfl:q=true:=hq.2 (by trivial)
 have lO:Below w7.heap.size w7 S2:=mc.trans (hz.mono mc.size)
 clear hz hq R9 R8 R7 R6 ze zd zc y9 Eo Em zV F7 Gc Gb Ga F' zo zn zm zl mc
 obtain ⟨⟨R9,R8,R7,R6⟩,⟨ze,zd,zc,y9⟩,⟨Eo,Em,zV,F7⟩,⟨Gc,Gb,Ga,F'⟩,⟨zo,zn,zm,zl⟩⟩:=ab zW _ lO
 go_wp2_with fail
 refine (ab HS3 _ lO).mono ?_
 rintro e wz3 ⟨q,rfl,hq,hz⟩
 obtain rfl:q=true:=hq.2 (by trivial)
 have wV:Below w7.heap.size w7 wz3:=lO.trans (hz.mono lO.size)
 clear hz hq R9 R8 R7 R6 ze zd zc y9 Eo Em zV F7 Gc Gb Ga F' zo zn zm zl lO
 obtain ⟨⟨R9,R8,R7,R6⟩,⟨ze,zd,zc,y9⟩,⟨Eo,Em,zV,F7⟩,⟨Gc,Gb,Ga,F'⟩,⟨zo,zn,zm,zl⟩⟩:=ab zW _ wV
 obtain ⟨hb,fK,iN,hZ,hU,e8,dJ,Ni,⟨hD,kC⟩,⟨tz,vZ⟩,vY,BQ,O'⟩:=ab H7
 have fK:=fK.up wV
 have iN:=iN.up wV
 have e8:=e8.up wV
 have dJ:=dJ.up wV
 have hZ:=hZ.eQ (jo (used:=u4) wV)
 have Ni:=(wV.block _ (zA Ni).1).trans Ni
 have hb:=hb.trans (wV.mono hb.size)
 have O9:V6.heap.size≤wz3.heap.size:=Nat.le_trans O' wV.size
 have HP:=ak (xq hZ.Gz (ab mr).dp)
 have H8:=ak (And.intro hb (And.intro fK (And.intro iN (And.intro hU (And.intro e8 (And.intro dJ (And.intro (And.intro hD kC) (And.intro (And.intro tz vZ) (And.intro vY (And.intro BQ O9))))))))))
 clear ze zd zc y9 Eo Em zV F7 Gc Gb Ga F' zo zn zm zl eZ pE HS3 zW H7 wV hb fK iN hZ hU e8 dJ Ni hD kC tz vZ vY BQ O' O9 hn LA Fu
 go_wp2_with fail
 refine (ab HP).mono ?_
 rintro e w9 ⟨rfl,hs⟩
 obtain ⟨hb,fK,iN,hU,e8,dJ,⟨hD,kC⟩,⟨tz,vZ⟩,vY,BQ,O9⟩:=ab H8
 have hb:Below W.heap.size W w9:=hb.trans (hs.low (fun g h hn=>hn (hU g (by omega))) hb.size)
 have fK:=fK.sp hs (fun hn=>hn (hU _ (by omega))) (fun g h1 h2 hn=>hn (hU g (by omega)))
 have iN:=iN.sp hs (fun hn=>hn (hU _ (by omega))) (fun g h1 h2 hn=>hn (hU g (by omega)))
 have e8:=e8.sp hs (fun hn=>hn (hU _ (by omega))) (fun g h1 h2 hn=>hn (hU g (by omega)))
 have dJ:=dJ.sp hs (fun hn=>hn (hU _ (by omega))) (fun g h1 h2 hn=>hn (hU g (by omega)))
 have Vp:V6.heap.size≤w9.heap.size:=Nat.le_trans O9 hs.size
 obtain ⟨_,_,Pc⟩:=fK.nU
 obtain ⟨_,_,JP⟩:=iN.nU
 obtain ⟨_,_,Lv⟩:=e8.nU
 obtain ⟨_,_,Pj⟩:=dJ.nU
 have zW:Hid (∀w',Below w9.heap.size w9 w'→(w'.cell? ⟨w3.heap.size,0,none⟩=some (.string jn)∧w'.cell? ⟨w3.heap.size,1,none⟩=some (.slice Wt is.length Wk)∧w'.cell? ⟨w3.heap.size,2,none⟩=some (.slice Ws M.length Wj)∧w'.cell? ⟨w3.heap.size,3,none⟩=some (.slice Wu es.length Wl))∧(w'.cell? ⟨W.heap.size,0,none⟩=some (.string jn)∧w'.cell? ⟨W.heap.size,1,none⟩=some (.slice Sg is.length RQ)∧w'.cell? ⟨W.heap.size,2,none⟩=some (.slice Sd M.length RO)∧w'.cell? ⟨W.heap.size,3,none⟩=some (.slice Si es.length RT))∧(w'.cell? ⟨w6.heap.size,0,none⟩=some (.string jn)∧w'.cell? ⟨w6.heap.size,1,none⟩=some (.slice Sf si.length RP)∧w'.cell? ⟨w6.heap.size,2,none⟩=some (.slice Sc sm.length RN)∧w'.cell? ⟨w6.heap.size,3,none⟩=some (.slice Sh se.length RS))∧(w'.cell? ⟨w5.heap.size,0,none⟩=some (.string jn)∧w'.cell? ⟨w5.heap.size,1,none⟩=some (.slice N5 si.length NM)∧w'.cell? ⟨w5.heap.size,2,none⟩=some (.slice N4 sm.length NL)∧w'.cell? ⟨w5.heap.size,3,none⟩=some (.slice N7 se.length NO))):=fun w' h=>⟨(iN.up h).cl,(fK.up h).cl,(dJ.up h).cl,(e8.up h).cl⟩
 have eZ:Hid (∀w',Below w9.heap.size w9 w'→Calls Tryz.prog 16 #[.agg #[.string jn,.slice Wt is.length Wk,.slice Ws M.length Wj,.slice Wu es.length Wl],.agg #[.string jn,.slice Sg is.length RQ,.slice Sd M.length RO,.slice Si es.length RT]] w' (Ev w' ((⟨jn,is,M,es⟩:Fl)=⟨jn,is,M,es⟩))):=fun w' h=>nC (f:=200) (by omega) (JP.up h) (Pc.up h) (ab LM) (ab LM) w' (zE _ _)
 have pE:Hid (∀w',Below w9.heap.size w9 w'→Calls Tryz.prog 16 #[.agg #[.string jn,.slice Sf si.length RP,.slice Sc sm.length RN,.slice Sh se.length RS],.agg #[.string jn,.slice N5 si.length NM,.slice N4 sm.length NL,.slice N7 se.length NO]] w' (Ev w' ((⟨jn,si,sm,se⟩:Fl)=⟨jn,si,sm,se⟩))):=fun w' h=>nC (f:=32) (by omega) (Pj.up h) (Lv.up h) (ab mr).dp (ab mr).dp w' (zE _ _)
 have H9:=ak (And.intro hb (And.intro fK (And.intro iN (And.intro e8 (And.intro dJ (And.intro (And.intro hD kC) (And.intro (And.intro tz vZ) (And.intro vY (And.intro BQ Vp)))))))))
 clear R9 R8 R7 R6 hs HP H8 hb fK iN hU e8 dJ hD kC tz vZ vY BQ O9 Vp Pc JP Lv Pj
 obtain ⟨⟨Eo,Em,zV,F7⟩,⟨Gc,Gb,Ga,F'⟩,⟨zo,zn,zm,zl⟩,⟨ze,zd,zc,y9⟩⟩:=ab zW _ (zE w9.heap.size w9)
 go_wp2_with fail
 refine (jY _ 0).mono ?_
 rintro e wn ⟨rfl,Jx⟩
 replace Jx:=Jx.symm
 subst Jx
 go_wp2_with fail
 refine (ab eZ _ (zE w9.heap.size w9)).mono ?_
 rintro e Ua ⟨q,rfl,hq,hz⟩
 obtain rfl:q=true:=hq.2 (by trivial)
 have mc:Below w9.heap.size w9 Ua:=(zE w9.heap.size w9).trans (hz.mono (zE w9.heap.size w9).size)
 clear hz hq Eo Em zV F7 Gc Gb Ga F' zo zn zm zl ze zd zc y9
 obtain ⟨⟨Eo,Em,zV,F7⟩,⟨Gc,Gb,Ga,F'⟩,⟨zo,zn,zm,zl⟩,⟨ze,zd,zc,y9⟩⟩:=ab zW _ mc
 go_wp2_with fail
 refine (ab pE _ mc).mono ?_
 rintro e S2 ⟨q,rfl,hq,hz⟩
 obtain rfl:q=true:=hq.2 (by trivial)
 have lO:Below w9.heap.size w9 S2:=mc.trans (hz.mono mc.size)
 clear hz hq Eo Em zV F7 Gc Gb Ga F' zo zn zm zl ze zd zc y9 mc
 obtain ⟨⟨Eo,Em,zV,F7⟩,⟨Gc,Gb,Ga,F'⟩,⟨zo,zn,zm,zl⟩,⟨ze,zd,zc,y9⟩⟩:=ab zW _ lO
 obtain ⟨hb,fK,iN,e8,dJ,⟨hD,kC⟩,⟨tz,vZ⟩,vY,BQ,Vp⟩:=ab H9
 have fK:=fK.up lO
 have iN:=iN.up lO
 have e8:=e8.up lO
 have dJ:=dJ.up lO
 have hb:=hb.trans (lO.mono hb.size)
 have Nh:V6.heap.size≤S2.heap.size:=Nat.le_trans Vp lO.size
 obtain ⟨_,_,hmO⟩:=iN.fl
 have HP:=ak (xq hmO (ab LM))
 have H10:=ak (And.intro hb (And.intro fK (And.intro e8 (And.intro dJ (And.intro (And.intro hD kC) (And.intro (And.intro tz vZ) (And.intro vY (And.intro BQ Nh))))))))
 clear Gc Gb Ga F' zo zn zm zl ze zd zc y9 eZ pE zW H9 lO hb fK iN hmO e8 dJ hD kC tz vZ vY BQ Vp Nh
 go_wp2_with fail
 refine (ab HP).mono ?_
 rintro e wA ⟨rfl,hs⟩
 obtain ⟨hb,fK,e8,dJ,⟨hD,kC⟩,⟨tz,vZ⟩,vY,BQ,Nh⟩:=ab H10
 have hb:Below W.heap.size W wA:=hb.trans (hs.low (fun g h hn=>by omega) hb.size)
 have fK:=fK.sp hs (fun hn=>by omega) (fun g h1 h2 hn=>by omega)
 have e8:=e8.sp hs (fun hn=>by omega) (fun g h1 h2 hn=>by omega)
 have dJ:=dJ.sp hs (fun hn=>by omega) (fun g h1 h2 hn=>by omega)
 obtain ⟨_,_,Pc⟩:=fK.nU
 obtain ⟨J2,Bg,J0,J3⟩:=ab HW wA hb
 have HSA:=ak (nB J2 Bg J0 J3 Pc (ab Hs))
 obtain ⟨c0,c1,c2,c3⟩:=fK.cl
 have H11:=ak (And.intro hb (And.intro e8 dJ))
 clear Eo Em zV F7 hs HP H10 hb fK e8 dJ hD kC tz vZ vY BQ Nh Pc J2 Bg J0 J3
 go_wp2_with fail
 refine (ab HSA).mono ?_
 rintro e wC ⟨hq,Pk⟩
 obtain ⟨hb,e8,dJ⟩:=ab H11
 obtain ⟨hS,hz⟩:=ab HSo
 rcases hq with ⟨-,vi7,vm7,ve7,cm7,ce7,B7,rfl,hY,hA⟩|⟨hz',-⟩
 rotate_left
 ·exact absurd hz hz'
 rw[hS] at hY
 obtain ⟨u7,-,-,hO⟩:=hY.Gz hA
 obtain ⟨bi7,di7,bm7,dm7,be7,de7,rfl,rfl,rfl⟩:=kT hO
 simp only at hO ⊢
 obtain ⟨V7,hV7⟩:∃V7,wC.alloc (.cells #[.string jn,.slice bi7 si.length di7,.slice bm7 sm.length dm7,.slice be7 se.length de7] 26)=V7:=⟨_,rfl⟩
 obtain ⟨Rj,Nt⟩:=Fb.new (F:=⟨jn,si,sm,se⟩) (hO.mono fun g hg _=>⟨rfl,hg.1⟩) hV7
 have e8:=(e8.up Pk).up Nt
 have dJ:=(dJ.up Pk).up Nt
 have hb:=(hb.trans (Pk.mono hb.size)).trans (Nt.mono (Nat.le_trans hb.size Pk.size))
 obtain ⟨_,_,Lv⟩:=e8.nU
 obtain ⟨_,_,Pj⟩:=dJ.nU
 obtain ⟨_,_,hcL⟩:=Rj.nU
 have zW:Hid (∀w',Below V7.heap.size V7 w'→(w'.cell? ⟨w6.heap.size,0,none⟩=some (.string jn)∧w'.cell? ⟨w6.heap.size,1,none⟩=some (.slice Sf si.length RP)∧w'.cell? ⟨w6.heap.size,2,none⟩=some (.slice Sc sm.length RN)∧w'.cell? ⟨w6.heap.size,3,none⟩=some (.slice Sh se.length RS))∧(w'.cell? ⟨w5.heap.size,0,none⟩=some (.string jn)∧w'.cell? ⟨w5.heap.size,1,none⟩=some (.slice N5 si.length NM)∧w'.cell? ⟨w5.heap.size,2,none⟩=some (.slice N4 sm.length NL)∧w'.cell? ⟨w5.heap.size,3,none⟩=some (.slice N7 se.length NO))∧(w'.cell? ⟨wC.heap.size,0,none⟩=some (.string jn)∧w'.cell? ⟨wC.heap.size,1,none⟩=some (.slice bi7 si.length di7)∧w'.cell? ⟨wC.heap.size,2,none⟩=some (.slice bm7 sm.length dm7)∧w'.cell? ⟨wC.heap.size,3,none⟩=some (.slice be7 se.length de7))):=fun w' h=>⟨(dJ.up h).cl,(e8.up h).cl,(Rj.up h).cl⟩
 have eZ:Hid (∀w',Below V7.heap.size V7 w'→Calls Tryz.prog 16 #[.agg #[.string jn,.slice Sf si.length RP,.slice Sc sm.length RN,.slice Sh se.length RS],.agg #[.string jn,.slice N5 si.length NM,.slice N4 sm.length NL,.slice N7 se.length NO]] w' (Ev w' ((⟨jn,si,sm,se⟩:Fl)=⟨jn,si,sm,se⟩))):=fun w' h=>nC (f:=32) (by omega) (Pj.up h) (Lv.up h) (ab mr).dp (ab mr).dp w' (zE _ _)
 have pE:Hid (∀w',Below V7.heap.size V7 w'→Calls Tryz.prog 16 #[.agg #[.string jn,.slice bi7 si.length di7,.slice bm7 sm.length dm7,.slice be7 se.length de7],.agg #[.string jn,.slice N5 si.length NM,.slice N4 sm.length NL,.slice N7 se.length NO]] w' (Ev w' ((⟨jn,si,sm,se⟩:Fl)=⟨jn,si,sm,se⟩))):=fun w' h=>nC (f:=32) (by omega) (hcL.up h) (Lv.up h) (ab mr).dp (ab mr).dp w' (zE _ _)
 have HB:=ak hb
 clear hb e8 dJ Rj Lv Pj hcL Pk Nt HSA H11 hS hz hY hA hO c0 c1 c2 c3
 obtain ⟨⟨zo,zn,zm,zl⟩,⟨ze,zd,zc,y9⟩,⟨TL,TK,Wq,Wp⟩⟩:=ab zW _ (zE V7.heap.size V7)
 go_wp2_with fail
 refine (ab eZ _ (zE V7.heap.size V7)).mono ?_
 rintro e Ua ⟨q,rfl,hq,hz⟩
 obtain rfl:q=true:=hq.2 (by trivial)
 have mc:Below V7.heap.size V7 Ua:=(zE V7.heap.size V7).trans (hz.mono (zE V7.heap.size V7).size)
 clear hz hq zo zn zm zl ze zd zc y9 TL TK Wq Wp
 obtain ⟨⟨zo,zn,zm,zl⟩,⟨ze,zd,zc,y9⟩,⟨TL,TK,Wq,Wp⟩⟩:=ab zW _ mc
 go_wp2_with fail
 refine (jY _ 0).mono ?_
 rintro e wn ⟨rfl,Jx⟩
 replace Jx:=Jx.symm
 subst Jx
 go_wp2_with fail
 refine (ab pE _ mc).mono ?_
 rintro e S2 ⟨q,rfl,hq,hz⟩
 obtain rfl:q=true:=hq.2 (by trivial)
 have lO:Below V7.heap.size V7 S2:=mc.trans (hz.mono mc.size)
 clear hz hq zo zn zm zl ze zd zc y9 TL TK Wq Wp mc
 obtain ⟨⟨zo,zn,zm,zl⟩,⟨ze,zd,zc,y9⟩,⟨TL,TK,Wq,Wp⟩⟩:=ab zW _ lO
 have Lk:=ak ((ab HB).trans (lO.mono (ab HB).size))
 clear zo zn zm zl ze zd zc y9 TL TK Wq Wp eZ pE zW HB lO
 go_wp2
 go_ret
 exact ⟨rfl,ab Lk⟩
end Go.Proofs.YtghioefalckgoaaGreatDoor

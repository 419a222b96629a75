import Derived.Test.YtichhjfjcinjgaaGreatDoorM19
set_option maxHeartbeats 4000000
set_option maxRecDepth 100000
namespace Go.Proofs.YtichhjfjcinjgaaGreatDoor
open Go.RowKit
attribute [local go_sem ↓] Go.wp_at_zero Go.wp_at_succ
theorem Am (l:List Fd):∀(i:Nat),i≤l.length→∀G ∈ cj (l.take i),G≠[]∧∀d ∈ G,d ∈ l:=by
 intro i
 induction i with
 |zero=>intro _;simp[cj]
 |succ i ih =>
  intro h G hG
  have h2:=ih (by omega)
  have hi:i<l.length:=by omega
  rw[gX (List.getElem?_eq_getElem hi)] at hG
  unfold mK at hG
  split at hG
  ·rcases List.mem_or_eq_of_mem_set hG with z|rfl
   ·exact h2 G z
   ·refine ⟨by simp,fun d hd=>?_⟩
    rcases List.mem_append.1 hd with y|y
    ·rw[List.getD_eq_getElem?_getD] at y
     cases e:(cj (l.take i))[(cj (l.take i)).length-1]? with
     |none=>rw[e] at y;simp at y
     |some K=>rw[e] at y;exact (h2 K (List.mem_of_getElem? e)).2 d y
    ·simp at y;subst y;exact List.getElem_mem hi
  ·rcases List.mem_append.1 hG with z|z
   ·exact h2 G z
   ·simp at z;subst z;exact ⟨by simp,fun d hd=>by simp at hd;subst hd;exact List.getElem_mem hi⟩
theorem Pn.bt {W w:World}{B bb dd:Nat}{L:List Nat}{n:Nat} (h:Pn W B bb dd L n w):∃cs,w.heap[bb]?=some (.cells cs 125 (0,0)):=by
 rcases h.bi with k|k
 ·obtain ⟨_,_,k2,_⟩:=k;exact ⟨_,k2⟩
 ·obtain ⟨_,_,k2,_⟩:=k;exact ⟨_,k2⟩
theorem Pn.neq {W w:World}{B bb dd:Nat}{L:List Nat}{n:Nat} (h:Pn W B bb dd L n w) {q t:Nat}{cs:Array Value} (hq:w.heap[q]?=some (.cells cs t (0,0))) (ht:t≠125):q≠bb:=by
 intro e
 subst e
 obtain ⟨c2,e2⟩:=h.bt
 rw[hq] at e2
 simp at e2
 exact ht e2.2
theorem Gr.rd {W w:World}{B bb dd lo:Nat}{L:List Nat}{n:Nat}{v:Value}{gs:List (List Fd)}{us:List Value} (h:Gr lo w v gs us) (hp:Pn W B bb dd L n w) (hn:0<gs.length):∃q c cur,v=.slice (some ⟨q,0,none⟩) gs.length c∧w.heap[q]?=some (.cells cur 43 (0,0))∧q≠bb∧(∀(k:Nat) (u:Value),us[k]?=some u→cur[k]?=some u)∧∀(k:Nat) (G:List Fd) (u:Value),gs[k]?=some G→us[k]?=some u→0<G.length→Rg w u G bb:=by
 obtain ⟨B2,NM,hr⟩:=h.row
 rcases hr.2 with ⟨rfl,h2⟩|⟨q,c,cur,rfl,hB,hh,h3,h4,h5,h6⟩
 ·omega
 ·refine ⟨q,c,cur,rfl,hh,hp.neq hh (by decide),fun k u hk=>?_,fun k G u h1 h2 hG=>?_⟩
  ·rw[←h6,List.getElem?_take] at hk
   split at hk
   ·simpa using hk
   ·cases hk
  ·rcases (h.Ib k G u h1 h2).2 with ⟨rfl,h7⟩|⟨q2,c2,Iu,rfl,_,A1,_,_,_,h8⟩
   ·omega
   ·exact ⟨q2,c2,Iu,rfl,A1,h8,hp.neq A1 (by decide)⟩
theorem xA (f:Nat) (ih:Lp f):Lp (f+1):=by
 intro W w B bb dd ll L n m vf vo vm ve vr vg nm fs os ms es rs gs cm ce h hP hF hd fC Dk hn fJ hV nJ hl
 obtain ⟨rfl,LN,Nh,AY,ej,AZ,fl,De,Df⟩:=hV
 obtain ⟨⟨cV,GP,dK⟩,dT,oA,ed,G0,LY⟩:=nJ
 have s1:=zJ w (.cells (eI bb dd ll) 89)
 have k1:=aK w (.cells (eI bb dd ll) 89)
 have k2:=aK (w.alloc (.cells (eI bb dd ll) 89)) (.cells #[.string nm,vf,vo,vm,ve,vr,vg] 46)
 rw[s1] at k2
 have ss:=(Below.heap_alloc (w.alloc (.cells (eI bb dd ll) 89)) (.cells #[.string nm,vf,vo,vm,ve,vr,vg] 46) _ (by rw[s1];omega)).trans k1
 have kQ:Below w.heap.size w ((w.alloc (.cells (eI bb dd ll) 89)).alloc (.cells #[.string nm,vf,vo,vm,ve,vr,vg] 46)):=((zE _ _).alloc (zD _) _).alloc (by omega) _
 have hlen:(cd (f+1) n (.mk nm fs os ms es rs gs)).length=(eW n 536870911 rs gs).length+((cj fs).flatMap (dD n os)).length+(pB f n ms es).length:=by
  unfold cd pB
  rw[zK,zK]
 have HR:=al (nV (ll:=ll) (most:=536870911) (h.below kQ) hP hF De Df GP oA dK ed (by omega))
 have HBl:=al (fun w' hw'=>Cy LN cV w' hw')
 have OR:=al (fun w' L' (oD:Pn W B bb dd L' n w') VY Nu=>wk f ih oD hP hF hd fC Dk (by omega) VY AY ej AZ fl G0 LY Nu)
 obtain ⟨V,hV⟩:∃V,(w.alloc (.cells (eI bb dd ll) 89)).alloc (.cells #[.string nm,vf,vo,vm,ve,vr,vg] 46)=V:=⟨_,rfl⟩
 rw[hV] at ss k2 kQ HR
 have Nr:=h.bi.lt.2
 have Wb:=(zA h.dp).1
 have o3:=al (show w.heap.size≠bb by omega)
 have Ow:=al (show w.heap.size≠dd by omega)
 have TP:=al (show w.heap.size+1≠bb by omega)
 have Hmd:=al (show w.heap.size+1≠dd by omega)
 have Jb:=al (show Kp bb w V from Kp.below kQ)
 have SV:=al ss
 have XT:=al k2
 have SM:=al ((kQ.block _ (zA fJ).1).trans fJ)
 have pQ:=al (hlen ▸ hl)
 have Hfo:=al dT
 have Hf1:=al cV
 have SH:=al hP
 have Hd:=al hd
 have Fy:=al fC
 have Mj:=al Dk
 have Hn:=al hn
 have Hvo:=al Nh
 obtain ⟨af,cf,rfl,-,-⟩:=LN
 obtain ⟨ao,co,rfl,dZ,QT⟩:=Nh
 have W7:=al QT
 have Oy:=al dZ
 obtain ⟨am,dh,rfl,-,-⟩:=AY
 obtain ⟨ae,dc,rfl,-,-⟩:=AZ
 obtain ⟨ar,cr,rfl,-,-⟩:=De
 obtain ⟨ag,cg,rfl,-,-⟩:=Df
 have p0:V.cell? ⟨w.heap.size,0,none⟩=some (bX bb dd):=cell_of_row _ _ _ _ _ _ ss
 have p1:V.cell? ⟨w.heap.size,1,none⟩=some (ct ll dd):=cell_of_row _ _ _ _ _ _ ss
 have p2:V.cell? ⟨w.heap.size,2,none⟩=some (ck bb):=cell_of_row _ _ _ _ _ _ ss
 have m5:V.cell? ⟨w.heap.size+1,5,none⟩=some (.slice ar rs.length cr):=cell_of_row _ _ _ _ _ _ k2
 have m6:V.cell? ⟨w.heap.size+1,6,none⟩=some (.slice ag gs.length cg):=cell_of_row _ _ _ _ _ _ k2
 unfold eI bX ct ck at hV HR
 unfold eI bX ct ck
 unfold bX at p0
 unfold ct at p1
 unfold ck at p2
 clear s1 k1 ss k2 kQ hlen fJ hl dT cV hP hd fC Dk hn h hF GP oA dK ed G0 LY ej fl Nr Wb QT dZ
 go_enter Tryz.func89,Tryz.ntmps89
 go_wp2_with fail
 refine (ab HR).mono ?_
 rintro e' w1 ⟨rfl,pD,lO⟩
 have Nq:=lO _ _ _ _ (ab TP) (ab XT) (by decide)
 have m1:w1.cell? ⟨w.heap.size+1,1,none⟩=some (.slice af fs.length cf):=cell_of_row _ _ _ _ _ _ Nq
 have cM:=al (ab HBl w1 pD.bV)
 have uX:=al pD
 have iC:=al lO
 clear p0 p1 p2 m5 m6 pD lO Nq HR HBl
 go_wp2_with fail
 refine (ab cM).mono ?_
 rintro e' w2 ⟨u2,us,rfl,hG,bd⟩
 have fz:=al ((ab uX).below bd)
 have fA:=al ((ab iC).trans (Kp.below bd))
 have HG:=al hG
 obtain ⟨B2,NM,oy⟩:=hG.row
 obtain ⟨a2,c2,rfl⟩:∃a c,u2=.slice a (cj fs).length c:=by
  rcases oy.2 with ⟨rfl,h2⟩|⟨_,_,_,rfl,_⟩
  ·exact ⟨none,0,by rw[h2]⟩
  ·exact ⟨_,_,rfl⟩
 clear bd hG cM uX iC m1
 go_wp2_with fail
 go_loopg [5,6,7,18] (cj fs).length (fun gk _ _ _ v18 wr=>∃(i:Nat),v18=.int .i64 (i:Int)∧gk=(cj fs).length-i∧i≤(cj fs).length∧Hid (Pn W B bb dd (L++eW n 536870911 rs gs++((cj fs).take i).flatMap (dD n os)) n wr)∧Hid (Kp bb w2 wr))
 case atStart=>exact ⟨0,rfl,rfl,by omega,by rw[List.take_zero,List.flatMap_nil,List.append_nil];exact fz,Kp.refl _ _⟩
 case round =>
  obtain ⟨i,rfl,aU,hi,o4,mH⟩:=hrel
  have bz:=al aU
  clear aU
  have Cb:=xV fs fs.length (zD _)
  rw[List.take_length] at Cb
  have hgl:(cj fs).length≤4096:=by have:=ab Hf1;omega
  by_cases aM:i<(cj fs).length
  ·obtain ⟨q,qc,cur,dQ,Ex,mY,RF,YR⟩:=(ab HG).rd (ab fz) (by omega)
   obtain ⟨rfl,rfl⟩:a2=some ⟨q,0,none⟩∧c2=qc:=by simpa using dQ
   have hr:=List.getElem?_eq_getElem aM
   have cG:=List.getElem_mem aM
   obtain ⟨G,ZH⟩:∃G,(cj fs)[i]=G:=⟨_,rfl⟩
   rw[ZH] at hr cG
   obtain ⟨u,hu⟩:∃u,us[i]?=some u:=⟨_,List.getElem?_eq_getElem (by rw[(ab HG).len];exact aM)⟩
   have Pr:=Am fs fs.length (zD _) G (by rw[List.take_length];exact cG)
   obtain ⟨d,r,rfl⟩:∃d r,G=d::r:=by
    cases G with
    |nil=>exact absurd rfl Pr.1
    |cons d r=>exact ⟨d,r,rfl⟩
   have Wl:=(YR i _ u hr hu (by simp)).kp (ab mH)
   have nO:=ab mH _ _ _ _ mY Ex (by decide)
   have x0:wr.cell? ⟨q,i,none⟩=some u:=by rw[cell_of_row _ _ _ _ _ _ nO];exact RF i u hu
   have j6:((cj fs).take (i+1)).flatMap (dD n os)=((cj fs).take i).flatMap (dD n os)++dD n os (d::r):=by
    rw[bL hr,List.flatMap_append]
    simp
   have hlen:(L++eW n 536870911 rs gs++((cj fs).take i).flatMap (dD n os)).length+(dD n os (d::r)).length≤1099511627776:=by
    have e2:(cj fs).flatMap (dD n os)=((cj fs).take (i+1)).flatMap (dD n os)++((cj fs).drop (i+1)).flatMap (dD n os):=by rw[←List.flatMap_append,List.take_append_drop]
    have h1:=congrArg List.length e2
    rw[j6] at h1
    have h2:=ab pQ
    simp only[zK] at h1 h2 ⊢
    omega
   have Rz:∀d' ∈ d::r,((0≤d'.num∧d'.num≤2147483647)∧d'.key.size≤255∧d'.ty.size≤255):=fun d' G8=>(ab Hfo d' (Pr.2 d' G8)).1
   have Nk:=(ab Hfo d (Pr.2 d (by simp))).2
   have ZG:(d::r).length≤4096:=by have:=Cb.2 _ cG;have:=ab Hf1;omega
   obtain ⟨uh,uc,aae,rfl,VC,Pc,VA⟩:=id Wl
   have o5:wr.cell? ⟨uh,5,none⟩=some (.int .i64 d.aE):=by
    rw[cell_of_row _ _ _ _ _ _ VC,←Array.getElem?_toList]
    have e1:=cz (l:=d::r) (i:=0) (d:=d) rfl (j:=5) (by decide)
    rw[←Pc,List.getElem?_take,if_pos (by simp;omega)] at e1
    simpa[Fd.cs] using e1
   have fg:=aK wr (.cells #[.slice (some ⟨uh,0,none⟩) (d::r).length uc] 43)
   have bJ:Below wr.heap.size wr (wr.alloc (.cells #[.slice (some ⟨uh,0,none⟩) (d::r).length uc] 43)):=(zE _ _).alloc (zD _) _
   obtain ⟨X,hX⟩:∃X,wr.alloc (.cells #[.slice (some ⟨uh,0,none⟩) (d::r).length uc] 43)=X:=⟨_,rfl⟩
   rw[hX] at fg bJ
   have A0:=(ab o4).below bJ
   have EC:Kp bb w2 X:=(ab mH).trans (Kp.below bJ)
   have G2:Kp bb V X:=(ab fA).trans EC
   have tf:=al (G2 _ _ _ _ (ab o3) (ab SV) (by decide))
   have HMX:=al (G2 _ _ _ _ (ab TP) (ab XT) (by decide))
   have P3:=al (G2 _ _ _ _ (ab Fy) (ab SM) (by decide))
   have hJ:=al fg
   have Sk:=al (show wr.heap.size≠bb by have:=(ab o4).bi.lt.2;omega)
   have Sj:=al (show wr.heap.size≠dd by have:=(zA (ab o4).dp).1;omega)
   have XG:=al (Wl.kp (Kp.below bJ))
   have y0:X.cell? ⟨wr.heap.size,0,none⟩=some (.slice (some ⟨uh,0,none⟩) (d::r).length uc):=cell_of_row _ _ _ _ _ _ fg
   have y5:X.cell? ⟨uh,5,none⟩=some (.int .i64 d.aE):=(bJ.cell (p:=⟨uh,5,none⟩) (zA VC).1).trans o5
   have yi:=al j6
   have Mh:=al hlen
   have AN:=al EC
   have SU:=al G2
   have OL:=al A0
   have Hf2:=al Rz
   have T0:=al ZG
   have i0:(0:Int)≤(i:Int):=zH _
   have i1:(i:Int)<((cj fs).length:Int):=by omega
   have r1:(0:Int)<((d::r).length:Int):=by simp
   have bu:=al aM
   have Hon:=al Nk
   obtain ⟨gl,V4⟩:∃gl,(d::r).length=gl:=⟨_,rfl⟩
   rw[V4] at hX hJ y0 r1 XG
   clear dQ Ex mY RF YR hr cG ZH hu Pr Wl nO j6 hlen Rz Nk ZG VC Pc VA fg bJ A0 EC G2 aM o5
   by_cases h0:d.aE=0
   ·have e0:(d.aE != 0)=false:=by simpa using h0
    have nh:dD n os (d::r)=(d::r).flatMap (bR n):=by
     unfold dD
     show (if d.aE≠0 then cl n gU (os.getD (d.aE.toNat-1) ⟨#[]⟩) ((d::r).flatMap (bR (n+1))) else (d::r).flatMap (bR n))=_
     rw[if_neg (fun z=>z h0)]
    have HC:=al (vZ (ll:=ll) (ab OL) (ab SH) (ab hJ) (ab tf) (ab o3) (ab XG) (ab T0) (ab Hf2) (by rw[←nh];exact ab Mh))
    have Sv:=al nh
    clear h0 nh
    go_wp2_with fail
    refine (ab HC).mono ?_
    rintro e' w5 ⟨rfl,mZ,jx⟩
    have lL:=al (show Pn W B bb dd (L++eW n 536870911 rs gs++((cj fs).take (i+1)).flatMap (dD n os)) n w5 by rw[ab yi,ab Sv,←List.append_assoc];exact mZ)
    have sd:=al ((ab AN).trans jx)
    clear mZ jx HC o4 mH OL AN SU yi Sv
    go_wp2
    go_roundg ((cj fs).length-(i+1))
    case measure=>have:=ab bz;have:=ab bu;omega
    case rel=>exact ⟨i+1,by go_num,rfl,ab bu,lL,sd⟩
   ·have e0:(d.aE != 0)=true:=by simpa using h0
    obtain ⟨dM,gC⟩:=ab Hon h0
    obtain ⟨k,hk⟩:∃k:Nat,d.aE=(k:Int)+1:=⟨d.aE.toNat-1,by omega⟩
    have Rq:k<os.length:=by omega
    obtain ⟨oh,oo,rfl,Ft,Za⟩:=ab W7 (by omega)
    obtain ⟨ot,VQ⟩:∃t,os[k]?=some t:=⟨_,List.getElem?_eq_getElem Rq⟩
    have z0:X.cell? ⟨oh,oo+k,none⟩=some (.string ot):=((ab OL).bV.cell (p:=⟨oh,oo+k,none⟩) Ft).trans (Za _ _ (dO VQ))
    have nh:dD n os (d::r)=aV n [⟨#[111,110,101,111,102]⟩,⟨#[32]⟩,ot,⟨#[32,123]⟩]++(d::r).flatMap (bR (n+1))++aV n [⟨#[125]⟩]:=by
     unfold dD
     show (if d.aE≠0 then cl n gU (os.getD (d.aE.toNat-1) ⟨#[]⟩) ((d::r).flatMap (bR (n+1))) else (d::r).flatMap (bR n))=_
     rw[if_pos h0]
     unfold cl gU
     rw[show d.aE.toNat-1=k by omega,List.getD_eq_getElem?_getD,VQ]
     rfl
    have EB:=ab Mh
    have ed:(dD n os (d::r)).length=(aV n [⟨#[111,110,101,111,102]⟩,⟨#[32]⟩,ot,⟨#[32,123]⟩]).length+((d::r).flatMap (bR (n+1))).length+(aV n [⟨#[125]⟩]).length:=by rw[nh,zK,zK]
    rw[ed] at EB
    have L3:Below X.heap.size X X.drew:=below_drewN (zE _ _) 1
    have HC:=al (pP (w:=X.drew) (I:=(d::r).flatMap (bR (n+1))) (a:=⟨#[111,110,101,111,102]⟩) (b:=ot) (f:=⟨132,#[],#[.pointer (some ⟨wr.heap.size,0,none⟩),.pointer (some ⟨w.heap.size,0,none⟩)]⟩) ((ab OL).below L3) (ab Hd) (by have:=ab Hn;omega) (ab P3) (ab Fy) (ab Mj) (fun vs w=>by kernel_rfl) (by omega) (fun w3 qu nO=>by
     have hR3:Rg w3 (.slice (some ⟨uh,0,none⟩) gl uc) (d::r) bb:=by
      obtain ⟨a1,a2,a3,a4,a5,a6,a7⟩:=ab XG
      exact ⟨a1,a2,a3,a4,nO _ _ _ _ a7 (by intro z;subst z;have h9:=(ab OL).dp;rw[a5] at h9;simp at h9) a5 (by decide),a6,a7⟩
     exact vZ (ll:=ll) qu (ab SH) (nO _ _ _ _ (ab Sk) (ab Sj) (ab hJ) (by decide)) (nO _ _ _ _ (ab o3) (ab Ow) (ab tf) (by decide)) (ab o3) hR3 (ab T0) (ab Hf2) (by rw[zK];omega)))
    have Sv:=al nh
    have hT:(fun w':World=>w'.cell? ⟨w.heap.size,1,none⟩=some (.func (.func 84) #[] #[.pointer (some ⟨ll,0,none⟩),.pointer (some ⟨dd,0,none⟩)])∧w'.cell? ⟨w.heap.size+1,2,none⟩=some (.slice (some ⟨oh,oo,none⟩) os.length co)∧w'.cell? ⟨oh,oo+k,none⟩=some (.string ot)) X.drew:=⟨cell_of_row _ _ _ _ _ _ (ab tf),cell_of_row _ _ _ _ _ _ (ab HMX),z0⟩
    have k0:(0:Int)≤(k:Int):=zH _
    have k1:(k:Int)<(os.length:Int):=by omega
    have ob:os.length≤140737488355328:=ab Oy
    unfold Fv.val at HC
    simp only at HC
    rw[hk] at e0 y5
    clear h0 dM gC hk Za VQ nh EB ed L3 z0
    go_upto_region 8 with fail
    refine wp_region_any (by kernel_rfl) (bK (z:=99) (T:=fun w'=>w'.cell? ⟨w.heap.size,1,none⟩=some (.func (.func 84) #[] #[.pointer (some ⟨ll,0,none⟩),.pointer (some ⟨dd,0,none⟩)])∧w'.cell? ⟨w.heap.size+1,2,none⟩=some (.slice (some ⟨oh,oo,none⟩) os.length co)∧w'.cell? ⟨oh,oo+k,none⟩=some (.string ot)) _ _ _ _ ?_)
    try (change bZ _ _ _ _ _ _ _ _ _ (World.drew _))
    refine aw 0 (.pointer (some ⟨w.heap.size,1,none⟩)) 29 rfl rfl (Or.inl ⟨by rfl,fun w' hw=>by obtain ⟨cL,cE,bM⟩:=hw;go_simp⟩) hT ?_
    simp only[Act.put,zL,zM,zN]
    refine aw 1 (.func (.func 84) #[] #[.pointer (some ⟨ll,0,none⟩),.pointer (some ⟨dd,0,none⟩)]) 30 rfl rfl (Or.inl ⟨by rfl,fun w' hw=>by obtain ⟨cL,cE,bM⟩:=hw;go_simp⟩) hT ?_
    simp only[Act.put,zL,zM,zN]
    refine aw 2 (.pointer (some ⟨w.heap.size+1,2,none⟩)) 31 rfl rfl (Or.inl ⟨by rfl,fun w' hw=>by obtain ⟨cL,cE,bM⟩:=hw;go_simp⟩) hT ?_
    simp only[Act.put,zL,zM,zN]
    refine aw 3 (.slice (some ⟨oh,oo,none⟩) os.length co) 32 rfl rfl (Or.inl ⟨by rfl,fun w' hw=>by obtain ⟨cL,cE,bM⟩:=hw;go_simp⟩) hT ?_
    simp only[Act.put,zL,zM,zN]
    refine aw 4 (.int .i64 ((k:Int)+1)) 33 rfl rfl (Or.inl ⟨by rfl,fun w' hw=>by obtain ⟨cL,cE,bM⟩:=hw;go_simp⟩) hT ?_
    simp only[Act.put,zL,zM,zN]
    refine aw 5 (.int .i64 (k:Int)) 34 rfl rfl (Or.inl ⟨by rfl,fun w' hw=>by obtain ⟨cL,cE,bM⟩:=hw;go_simp;exact IntWalk.i64_in _ (by omega)⟩) hT ?_
    simp only[Act.put,zL,zM,zN]
    refine aw 6 (.pointer (some ⟨oh,oo+k,none⟩)) 35 rfl rfl (Or.inl ⟨by rfl,fun w' hw=>by obtain ⟨cL,cE,bM⟩:=hw;go_simp⟩) hT ?_
    simp only[Act.put,zL,zM,zN]
    refine aw 7 (.string ot) 36 rfl rfl (Or.inl ⟨by rfl,fun w' hw=>by obtain ⟨cL,cE,bM⟩:=hw;go_simp⟩) hT ?_
    simp only[Act.put,zL,zM,zN]
    refine aw 8 (.func (.func 132) #[] #[.pointer (some ⟨wr.heap.size,0,none⟩),.pointer (some ⟨w.heap.size,0,none⟩)]) 37 rfl rfl (Or.inl ⟨by rfl,fun w' hw=>by obtain ⟨cL,cE,bM⟩:=hw;go_simp⟩) hT ?_
    simp only[Act.put,zL,zM,zN]
    refine aF 9 (by kernel_rfl) rfl (fun K hK=>?_)
    refine jC 38 30 rfl 84 #[] #[.pointer (some ⟨ll,0,none⟩),.pointer (some ⟨dd,0,none⟩)] (fun vs=>by kernel_rfl) #[.const (.string ⟨#[111,110,101,111,102]⟩),.tmp 36,.tmp 37] #[9,9,1] rfl (by first|rfl|simp[Act.eval]) #[.string ⟨#[111,110,101,111,102]⟩,.string ot,.func (.func 132) #[] #[.pointer (some ⟨wr.heap.size,0,none⟩),.pointer (some ⟨w.heap.size,0,none⟩)],.pointer (some ⟨ll,0,none⟩),.pointer (some ⟨dd,0,none⟩)] (by first|rfl|simp[Act.eval]) (ab HC) (by rfl) ?_
    rintro e' w5 ⟨rfl,mZ,jx⟩
    have jb:Kp bb X w5:=fun d cs ty fr h1 h2 h3=>jx d cs ty fr h1 h2 h3
    have lL:=al (show Pn W B bb dd (L++eW n 536870911 rs gs++((cj fs).take (i+1)).flatMap (dD n os)) n w5 by rw[ab yi,ab Sv,←List.append_assoc];exact mZ)
    have sd:=al ((ab AN).trans jb)
    have uj:(fun w':World=>w'.cell? ⟨w.heap.size,1,none⟩=some (.func (.func 84) #[] #[.pointer (some ⟨ll,0,none⟩),.pointer (some ⟨dd,0,none⟩)])∧w'.cell? ⟨w.heap.size+1,2,none⟩=some (.slice (some ⟨oh,oo,none⟩) os.length co)∧w'.cell? ⟨oh,oo+k,none⟩=some (.string ot)) w5:=⟨cell_of_row _ _ _ _ _ _ (jb _ _ _ _ (ab o3) (ab tf) (by decide)),cell_of_row _ _ _ _ _ _ (jb _ _ _ _ (ab TP) (ab HMX) (by decide)),(mZ.bV.cell (p:=⟨oh,oo+k,none⟩) Ft).trans (((ab OL).bV.cell (p:=⟨oh,oo+k,none⟩) Ft).symm.trans hT.2.2)⟩
    refine ⟨_,rfl,hK _ _ ⟨fun _=>uj,?_⟩⟩
    clear hK K hT uj mZ jx jb HC o4 mH OL AN SU yi Sv
    simp only[Act.put,zL,zM,zN]
    refine aZ (by kernel_rfl) ?_
    go_wp2
    go_roundg ((cj fs).length-(i+1))
    case measure=>have:=ab bz;have:=ab bu;omega
    case rel=>exact ⟨i+1,by go_num,rfl,ab bu,lL,sd⟩
  ·obtain rfl:i=(cj fs).length:=by omega
   have uT:=ab o4
   rw[List.take_length] at uT
   have G3:Kp bb V wr:=(ab fA).trans (ab mH)
   have Wo:=G3 _ _ _ _ (ab TP) (ab XT) (by decide)
   have Tt:=G3 _ _ _ _ (ab o3) (ab SV) (by decide)
   have m3:wr.cell? ⟨w.heap.size+1,3,none⟩=some (.slice am ms.length dh):=cell_of_row _ _ _ _ _ _ Wo
   have m4:wr.cell? ⟨w.heap.size+1,4,none⟩=some (.slice ae es.length dc):=cell_of_row _ _ _ _ _ _ Wo
   have p0:wr.cell? ⟨w.heap.size,0,none⟩=some (bX bb dd):=cell_of_row _ _ _ _ _ _ Tt
   have p1:wr.cell? ⟨w.heap.size,1,none⟩=some (ct ll dd):=cell_of_row _ _ _ _ _ _ Tt
   have p2:wr.cell? ⟨w.heap.size,2,none⟩=some (ck bb):=cell_of_row _ _ _ _ _ _ Tt
   have HC:=al (ab OR wr _ uT (G3 _ _ _ _ (ab Fy) (ab SM) (by decide)) (by simp only[zK];have:=ab pQ;omega))
   have TZ:=al ((ab Jb).trans G3)
   unfold eI bX ct ck at HC
   unfold bX at p0
   unfold ct at p1
   unfold ck at p2
   clear uT G3 Wo Tt o4 mH
   go_wp2_with fail
   refine (ab HC).mono ?_
   rintro e' w6 ⟨rfl,Nj,Po⟩
   have HE:=al (show uU W B bb dd (L++cd (f+1) n (.mk nm fs os ms es rs gs)) n w (.returned (.tuple #[])) w6 from ⟨rfl,by unfold cd;unfold pB at Nj;simpa only[List.append_assoc] using Nj,(ab TZ).trans Po⟩)
   clear Nj Po HC TZ
   go_wp2
   refine bodyPost_ret (results_none rfl _ _ _) rfl ?_
   exact ab HE
end Go.Proofs.YtichhjfjcinjgaaGreatDoor

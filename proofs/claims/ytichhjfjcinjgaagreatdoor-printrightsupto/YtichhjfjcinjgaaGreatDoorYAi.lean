import Derived.Test.YtichhjfjcinjgaaGreatDoorM19
set_option maxHeartbeats 4000000
set_option maxRecDepth 100000
namespace Go.Proofs.YtichhjfjcinjgaaGreatDoor
open Go.RowKit
attribute [local go_sem ↓] Go.wp_at_zero Go.wp_at_succ
theorem Av (l:List Fd):∀(i:Nat),i≤l.length→∀G ∈ ck (l.take i),G≠[]∧∀d ∈ G,d ∈ l:=by
 intro i
 induction i with
 |zero=>intro _;simp[ck]
 |succ i ih =>
  intro h G hG
  have h2:=ih (by omega)
  have hi:i<l.length:=by omega
  rw[gZ (List.getElem?_eq_getElem hi)] at hG
  unfold mN at hG
  split at hG
  ·rcases List.mem_or_eq_of_mem_set hG with z|rfl
   ·exact h2 G z
   ·refine ⟨by simp,fun d hd=>?_⟩
    rcases List.mem_append.1 hd with y|y
    ·rw[List.getD_eq_getElem?_getD] at y
     cases e:(ck (l.take i))[(ck (l.take i)).length-1]? with
     |none=>rw[e] at y;simp at y
     |some K=>rw[e] at y;exact (h2 K (List.mem_of_getElem? e)).2 d y
    ·simp at y;subst y;exact List.getElem_mem hi
  ·rcases List.mem_append.1 hG with z|z
   ·exact h2 G z
   ·simp at z;subst z;exact ⟨by simp,fun d hd=>by simp at hd;subst hd;exact List.getElem_mem hi⟩
theorem Pn.bt {W w:World}{B bb dd:Nat}{L:List Nat}{n:Nat} (h:Pn W B bb dd L n w):∃cs,w.heap[bb]?=some (.cells cs 125 (0,0)):=by
 rcases h.bi with k|k
 ·obtain ⟨_,_,k2,_⟩:=k;exact ⟨_,k2⟩
 ·obtain ⟨_,_,k2,_⟩:=k;exact ⟨_,k2⟩
theorem Pn.neq {W w:World}{B bb dd:Nat}{L:List Nat}{n:Nat} (h:Pn W B bb dd L n w) {q t:Nat}{cs:Array Value} (hq:w.heap[q]?=some (.cells cs t (0,0))) (ht:t≠125):q≠bb:=by
 intro e
 subst e
 obtain ⟨c2,e2⟩:=h.bt
 rw[hq] at e2
 simp at e2
 exact ht e2.2
theorem Gr.rd {W w:World}{B bb dd lo:Nat}{L:List Nat}{n:Nat}{v:Value}{gs:List (List Fd)}{us:List Value} (h:Gr lo w v gs us) (hp:Pn W B bb dd L n w) (hn:0<gs.length):∃q c cur,v=.slice (some ⟨q,0,none⟩) gs.length c∧w.heap[q]?=some (.cells cur 43 (0,0))∧q≠bb∧(∀(k:Nat) (u:Value),us[k]?=some u→cur[k]?=some u)∧∀(k:Nat) (G:List Fd) (u:Value),gs[k]?=some G→us[k]?=some u→0<G.length→Rg w u G bb:=by
 obtain ⟨B2,NX,hr⟩:=h.row
 rcases hr.2 with ⟨rfl,h2⟩|⟨q,c,cur,rfl,hB,hh,h3,h4,h5,h6⟩
 ·omega
 ·refine ⟨q,c,cur,rfl,hh,hp.neq hh (by decide),fun k u hk=>?_,fun k G u h1 h2 hG=>?_⟩
  ·rw[←h6,List.getElem?_take] at hk
   split at hk
   ·simpa using hk
   ·cases hk
  ·rcases (h.Iq k G u h1 h2).2 with ⟨rfl,h7⟩|⟨q2,c2,IG,rfl,_,A9,_,_,_,h8⟩
   ·omega
   ·exact ⟨q2,c2,IG,rfl,A9,h8,hp.neq A9 (by decide)⟩
theorem xC (f:Nat) (ih:Ly f):Ly (f+1):=by
 intro W w B bb dd ll L n m vf vo vm ve vr vg nm fs os ms es rs gs cm ce h hP hF hd fF Dv hn fM hV nL hl
 obtain ⟨rfl,LX,Nu,A6,et,A7,fv,Dp,Dq⟩:=hV
 obtain ⟨⟨dN,G1,dM⟩,dX,oD,ei,H5,L9⟩:=nL
 have s1:=zJ w (.cells (eM bb dd ll) 89)
 have k1:=aK w (.cells (eM bb dd ll) 89)
 have k2:=aK (w.alloc (.cells (eM bb dd ll) 89)) (.cells #[.string nm,vf,vo,vm,ve,vr,vg] 46)
 rw[s1] at k2
 have sv:=(Below.heap_alloc (w.alloc (.cells (eM bb dd ll) 89)) (.cells #[.string nm,vf,vo,vm,ve,vr,vg] 46) _ (by rw[s1];omega)).trans k1
 have kR:Below w.heap.size w ((w.alloc (.cells (eM bb dd ll) 89)).alloc (.cells #[.string nm,vf,vo,vm,ve,vr,vg] 46)):=((zE _ _).alloc (zD _) _).alloc (by omega) _
 have hlen:(cj (f+1) n (.mk nm fs os ms es rs gs)).length=(fa n 536870911 rs gs).length+((ck fs).flatMap (dF n os)).length+(pF f n ms es).length:=by
  unfold cj pF
  rw[zK,zK]
 have HR:=al (nY (ll:=ll) (most:=536870911) (h.below kR) hP hF Dp Dq G1 oD dM ei (by omega))
 have HBl:=al (fun w' hw'=>CH LX dN w' hw')
 have O5:=al (fun w' L' (oG:Pn W B bb dd L' n w') V4 NG=>wE f ih oG hP hF hd fF Dv (by omega) V4 A6 et A7 fv H5 L9 NG)
 obtain ⟨V,hV⟩:∃V,(w.alloc (.cells (eM bb dd ll) 89)).alloc (.cells #[.string nm,vf,vo,vm,ve,vr,vg] 46)=V:=⟨_,rfl⟩
 rw[hV] at sv k2 kR HR
 have NC:=h.bi.lt.2
 have Wf:=(zA h.dp).1
 have pa:=al (show w.heap.size≠bb by omega)
 have OH:=al (show w.heap.size≠dd by omega)
 have TV:=al (show w.heap.size+1≠bb by omega)
 have Hmd:=al (show w.heap.size+1≠dd by omega)
 have Jq:=al (show Kp bb w V from Kp.below kR)
 have S6:=al sv
 have XX:=al k2
 have SY:=al ((kR.block _ (zA fM).1).trans fM)
 have pT:=al (hlen ▸ hl)
 have Hfo:=al dX
 have Hf1:=al dN
 have SS:=al hP
 have Hd:=al hd
 have FJ:=al fF
 have Mv:=al Dv
 have Hn:=al hn
 have Hvo:=al Nu
 obtain ⟨af,cf,rfl,-,-⟩:=LX
 obtain ⟨ao,co,rfl,ef,Q7⟩:=Nu
 have Xb:=al Q7
 have OJ:=al ef
 obtain ⟨am,dh,rfl,-,-⟩:=A6
 obtain ⟨ae,da,rfl,-,-⟩:=A7
 obtain ⟨ar,cr,rfl,-,-⟩:=Dp
 obtain ⟨ag,cg,rfl,-,-⟩:=Dq
 have p0:V.cell? ⟨w.heap.size,0,none⟩=some (bY bb dd):=cell_of_row _ _ _ _ _ _ sv
 have p1:V.cell? ⟨w.heap.size,1,none⟩=some (cw ll dd):=cell_of_row _ _ _ _ _ _ sv
 have p2:V.cell? ⟨w.heap.size,2,none⟩=some (cl bb):=cell_of_row _ _ _ _ _ _ sv
 have m5:V.cell? ⟨w.heap.size+1,5,none⟩=some (.slice ar rs.length cr):=cell_of_row _ _ _ _ _ _ k2
 have m6:V.cell? ⟨w.heap.size+1,6,none⟩=some (.slice ag gs.length cg):=cell_of_row _ _ _ _ _ _ k2
 unfold eM bY cw cl at hV HR
 unfold eM bY cw cl
 unfold bY at p0
 unfold cw at p1
 unfold cl at p2
 clear s1 k1 sv k2 kR hlen fM hl dX dN hP hd fF Dv hn h hF G1 oD dM ei H5 L9 et fv NC Wf Q7 ef
 go_enter Tryz.func89,Tryz.ntmps89
 go_wp2_with fail
 refine (ab HR).mono ?_
 rintro e' w1 ⟨rfl,pH,lQ⟩
 have NB:=lQ _ _ _ _ (ab TV) (ab XX) (by decide)
 have m1:w1.cell? ⟨w.heap.size+1,1,none⟩=some (.slice af fs.length cf):=cell_of_row _ _ _ _ _ _ NB
 have cN:=al (ab HBl w1 pH.bW)
 have vd:=al pH
 have iH:=al lQ
 clear p0 p1 p2 m5 m6 pH lQ NB HR HBl
 go_wp2_with fail
 refine (ab cN).mono ?_
 rintro e' w2 ⟨u2,us,rfl,hG,bd⟩
 have fC:=al ((ab vd).below bd)
 have fD:=al ((ab iH).trans (Kp.below bd))
 have HG:=al hG
 obtain ⟨B2,NX,oC⟩:=hG.row
 obtain ⟨a2,c2,rfl⟩:∃a c,u2=.slice a (ck fs).length c:=by
  rcases oC.2 with ⟨rfl,h2⟩|⟨_,_,_,rfl,_⟩
  ·exact ⟨none,0,by rw[h2]⟩
  ·exact ⟨_,_,rfl⟩
 clear bd hG cN vd iH m1
 go_wp2_with fail
 go_loopg [5,6,7,18] (ck fs).length (fun gk _ _ _ v18 wr=>∃(i:Nat),v18=.int .i64 (i:Int)∧gk=(ck fs).length-i∧i≤(ck fs).length∧Hid (Pn W B bb dd (L++fa n 536870911 rs gs++((ck fs).take i).flatMap (dF n os)) n wr)∧Hid (Kp bb w2 wr))
 case atStart=>exact ⟨0,rfl,rfl,by omega,by rw[List.take_zero,List.flatMap_nil,List.append_nil];exact fC,Kp.refl _ _⟩
 case round =>
  obtain ⟨i,rfl,aU,hi,pb,mK⟩:=hrel
  have bz:=al aU
  clear aU
  have Ck:=xX fs fs.length (zD _)
  rw[List.take_length] at Ck
  have hgl:(ck fs).length≤4096:=by have:=ab Hf1;omega
  by_cases aM:i<(ck fs).length
  ·obtain ⟨q,qc,cur,dU,EI,na,RS,YW⟩:=(ab HG).rd (ab fC) (by omega)
   obtain ⟨rfl,rfl⟩:a2=some ⟨q,0,none⟩∧c2=qc:=by simpa using dU
   have hr:=List.getElem?_eq_getElem aM
   have cI:=List.getElem_mem aM
   obtain ⟨G,ZN⟩:∃G,(ck fs)[i]=G:=⟨_,rfl⟩
   rw[ZN] at hr cI
   obtain ⟨u,hu⟩:∃u,us[i]?=some u:=⟨_,List.getElem?_eq_getElem (by rw[(ab HG).len];exact aM)⟩
   have PG:=Av fs fs.length (zD _) G (by rw[List.take_length];exact cI)
   obtain ⟨d,r,rfl⟩:∃d r,G=d::r:=by
    cases G with
    |nil=>exact absurd rfl PG.1
    |cons d r=>exact ⟨d,r,rfl⟩
   have Wp:=(YW i _ u hr hu (by simp)).kp (ab mK)
   have nQ:=ab mK _ _ _ _ na EI (by decide)
   have x0:wr.cell? ⟨q,i,none⟩=some u:=by rw[cell_of_row _ _ _ _ _ _ nQ];exact RS i u hu
   have j':((ck fs).take (i+1)).flatMap (dF n os)=((ck fs).take i).flatMap (dF n os)++dF n os (d::r):=by
    rw[bL hr,List.flatMap_append]
    simp
   have hlen:(L++fa n 536870911 rs gs++((ck fs).take i).flatMap (dF n os)).length+(dF n os (d::r)).length≤1099511627776:=by
    have e2:(ck fs).flatMap (dF n os)=((ck fs).take (i+1)).flatMap (dF n os)++((ck fs).drop (i+1)).flatMap (dF n os):=by rw[←List.flatMap_append,List.take_append_drop]
    have h1:=congrArg List.length e2
    rw[j'] at h1
    have h2:=ab pT
    simp only[zK] at h1 h2 ⊢
    omega
   have RM:∀d' ∈ d::r,((0≤d'.num∧d'.num≤2147483647)∧d'.key.size≤255∧d'.ty.size≤255):=fun d' Ic=>(ab Hfo d' (PG.2 d' Ic)).1
   have Nx:=(ab Hfo d (PG.2 d (by simp))).2
   have ZM:(d::r).length≤4096:=by have:=Ck.2 _ cI;have:=ab Hf1;omega
   obtain ⟨uh,uc,aae,rfl,VG,Pr,VF⟩:=id Wp
   have o5:wr.cell? ⟨uh,5,none⟩=some (.int .i64 d.aE):=by
    rw[cell_of_row _ _ _ _ _ _ VG,←Array.getElem?_toList]
    have e1:=cA (l:=d::r) (i:=0) (d:=d) rfl (j:=5) (by decide)
    rw[←Pr,List.getElem?_take,if_pos (by simp;omega)] at e1
    simpa[Fd.cs] using e1
   have fp:=aK wr (.cells #[.slice (some ⟨uh,0,none⟩) (d::r).length uc] 43)
   have bG:Below wr.heap.size wr (wr.alloc (.cells #[.slice (some ⟨uh,0,none⟩) (d::r).length uc] 43)):=(zE _ _).alloc (zD _) _
   obtain ⟨X,hX⟩:∃X,wr.alloc (.cells #[.slice (some ⟨uh,0,none⟩) (d::r).length uc] 43)=X:=⟨_,rfl⟩
   rw[hX] at fp bG
   have A8:=(ab pb).below bG
   have EN:Kp bb w2 X:=(ab mK).trans (Kp.below bG)
   have H7:Kp bb V X:=(ab fD).trans EN
   have tj:=al (H7 _ _ _ _ (ab pa) (ab S6) (by decide))
   have HMX:=al (H7 _ _ _ _ (ab TV) (ab XX) (by decide))
   have Qd:=al (H7 _ _ _ _ (ab FJ) (ab SY) (by decide))
   have ib:=al fp
   have Sx:=al (show wr.heap.size≠bb by have:=(ab pb).bi.lt.2;omega)
   have Sw:=al (show wr.heap.size≠dd by have:=(zA (ab pb).dp).1;omega)
   have XK:=al (Wp.kp (Kp.below bG))
   have y0:X.cell? ⟨wr.heap.size,0,none⟩=some (.slice (some ⟨uh,0,none⟩) (d::r).length uc):=cell_of_row _ _ _ _ _ _ fp
   have y5:X.cell? ⟨uh,5,none⟩=some (.int .i64 d.aE):=(bG.cell (p:=⟨uh,5,none⟩) (zA VG).1).trans o5
   have yl:=al j'
   have Mu:=al hlen
   have AV:=al EN
   have S5:=al H7
   have OX:=al A8
   have Hf2:=al RM
   have T6:=al ZM
   have i0:(0:Int)≤(i:Int):=zH _
   have i1:(i:Int)<((ck fs).length:Int):=by omega
   have r1:(0:Int)<((d::r).length:Int):=by simp
   have bu:=al aM
   have Hon:=al Nx
   obtain ⟨gl,V8⟩:∃gl,(d::r).length=gl:=⟨_,rfl⟩
   rw[V8] at hX ib y0 r1 XK
   clear dU EI na RS YW hr cI ZN hu PG Wp nQ j' hlen RM Nx ZM VG Pr VF fp bG A8 EN H7 aM o5
   by_cases h0:d.aE=0
   ·have e0:(d.aE != 0)=false:=by simpa using h0
    have nj:dF n os (d::r)=(d::r).flatMap (bS n):=by
     unfold dF
     show (if d.aE≠0 then cn n gW (os.getD (d.aE.toNat-1) ⟨#[]⟩) ((d::r).flatMap (bS (n+1))) else (d::r).flatMap (bS n))=_
     rw[if_neg (fun z=>z h0)]
    have HC:=al (wk (ll:=ll) (ab OX) (ab SS) (ab ib) (ab tj) (ab pa) (ab XK) (ab T6) (ab Hf2) (by rw[←nj];exact ab Mu))
    have SG:=al nj
    clear h0 nj
    go_wp2_with fail
    refine (ab HC).mono ?_
    rintro e' w5 ⟨rfl,nc,jA⟩
    have lN:=al (show Pn W B bb dd (L++fa n 536870911 rs gs++((ck fs).take (i+1)).flatMap (dF n os)) n w5 by rw[ab yl,ab SG,←List.append_assoc];exact nc)
    have sf:=al ((ab AV).trans jA)
    clear nc jA HC pb mK OX AV S5 yl SG
    go_wp2
    go_roundg ((ck fs).length-(i+1))
    case measure=>have:=ab bz;have:=ab bu;omega
    case rel=>exact ⟨i+1,by go_num,rfl,ab bu,lN,sf⟩
   ·have e0:(d.aE != 0)=true:=by simpa using h0
    obtain ⟨dP,gE⟩:=ab Hon h0
    obtain ⟨k,hk⟩:∃k:Nat,d.aE=(k:Int)+1:=⟨d.aE.toNat-1,by omega⟩
    have RD:k<os.length:=by omega
    obtain ⟨oh,oo,rfl,FE,Zf⟩:=ab Xb (by omega)
    obtain ⟨ot,VU⟩:∃t,os[k]?=some t:=⟨_,List.getElem?_eq_getElem RD⟩
    have z0:X.cell? ⟨oh,oo+k,none⟩=some (.string ot):=((ab OX).bW.cell (p:=⟨oh,oo+k,none⟩) FE).trans (Zf _ _ (dS VU))
    have nj:dF n os (d::r)=aV n [⟨#[111,110,101,111,102]⟩,⟨#[32]⟩,ot,⟨#[32,123]⟩]++(d::r).flatMap (bS (n+1))++aV n [⟨#[125]⟩]:=by
     unfold dF
     show (if d.aE≠0 then cn n gW (os.getD (d.aE.toNat-1) ⟨#[]⟩) ((d::r).flatMap (bS (n+1))) else (d::r).flatMap (bS n))=_
     rw[if_pos h0]
     unfold cn gW
     rw[show d.aE.toNat-1=k by omega,List.getD_eq_getElem?_getD,VU]
     rfl
    have EM:=ab Mu
    have ei:(dF n os (d::r)).length=(aV n [⟨#[111,110,101,111,102]⟩,⟨#[32]⟩,ot,⟨#[32,123]⟩]).length+((d::r).flatMap (bS (n+1))).length+(aV n [⟨#[125]⟩]).length:=by rw[nj,zK,zK]
    rw[ei] at EM
    have ZB:Below X.heap.size X X.drew:=below_drewN (zE _ _) 1
    have HC:=al (pS (w:=X.drew) (I:=(d::r).flatMap (bS (n+1))) (a:=⟨#[111,110,101,111,102]⟩) (b:=ot) (f:=⟨132,#[],#[.pointer (some ⟨wr.heap.size,0,none⟩),.pointer (some ⟨w.heap.size,0,none⟩)]⟩) ((ab OX).below ZB) (ab Hd) (by have:=ab Hn;omega) (ab Qd) (ab FJ) (ab Mv) (fun vs w=>by kernel_rfl) (by omega) (fun w3 qy nQ=>by
     have hR3:Rg w3 (.slice (some ⟨uh,0,none⟩) gl uc) (d::r) bb:=by
      obtain ⟨a1,a2,a3,a4,a5,a6,a7⟩:=ab XK
      exact ⟨a1,a2,a3,a4,nQ _ _ _ _ a7 (by intro z;subst z;have h9:=(ab OX).dp;rw[a5] at h9;simp at h9) a5 (by decide),a6,a7⟩
     exact wk (ll:=ll) qy (ab SS) (nQ _ _ _ _ (ab Sx) (ab Sw) (ab ib) (by decide)) (nQ _ _ _ _ (ab pa) (ab OH) (ab tj) (by decide)) (ab pa) hR3 (ab T6) (ab Hf2) (by rw[zK];omega)))
    have SG:=al nj
    have hT:(fun w':World=>w'.cell? ⟨w.heap.size,1,none⟩=some (.func (.func 84) #[] #[.pointer (some ⟨ll,0,none⟩),.pointer (some ⟨dd,0,none⟩)])∧w'.cell? ⟨w.heap.size+1,2,none⟩=some (.slice (some ⟨oh,oo,none⟩) os.length co)∧w'.cell? ⟨oh,oo+k,none⟩=some (.string ot)) X.drew:=⟨cell_of_row _ _ _ _ _ _ (ab tj),cell_of_row _ _ _ _ _ _ (ab HMX),z0⟩
    have k0:(0:Int)≤(k:Int):=zH _
    have k1:(k:Int)<(os.length:Int):=by omega
    have ob:os.length≤140737488355328:=ab OJ
    unfold Fv.val at HC
    simp only at HC
    rw[hk] at e0 y5
    clear h0 dP gE hk Zf VU nj EM ei ZB z0
    go_upto_region 8 with fail
    refine wp_region_any (by kernel_rfl) (bK (z:=99) (T:=fun w'=>w'.cell? ⟨w.heap.size,1,none⟩=some (.func (.func 84) #[] #[.pointer (some ⟨ll,0,none⟩),.pointer (some ⟨dd,0,none⟩)])∧w'.cell? ⟨w.heap.size+1,2,none⟩=some (.slice (some ⟨oh,oo,none⟩) os.length co)∧w'.cell? ⟨oh,oo+k,none⟩=some (.string ot)) _ _ _ _ ?_)
    try (change cc _ _ _ _ _ _ _ _ _ (World.drew _))
    refine aw 0 (.pointer (some ⟨w.heap.size,1,none⟩)) 29 rfl rfl (Or.inl ⟨by rfl,fun w' hw=>by obtain ⟨cO,cG,bM⟩:=hw;go_simp⟩) hT ?_
    simp only[Act.put,zL,zM,zN]
    refine aw 1 (.func (.func 84) #[] #[.pointer (some ⟨ll,0,none⟩),.pointer (some ⟨dd,0,none⟩)]) 30 rfl rfl (Or.inl ⟨by rfl,fun w' hw=>by obtain ⟨cO,cG,bM⟩:=hw;go_simp⟩) hT ?_
    simp only[Act.put,zL,zM,zN]
    refine aw 2 (.pointer (some ⟨w.heap.size+1,2,none⟩)) 31 rfl rfl (Or.inl ⟨by rfl,fun w' hw=>by obtain ⟨cO,cG,bM⟩:=hw;go_simp⟩) hT ?_
    simp only[Act.put,zL,zM,zN]
    refine aw 3 (.slice (some ⟨oh,oo,none⟩) os.length co) 32 rfl rfl (Or.inl ⟨by rfl,fun w' hw=>by obtain ⟨cO,cG,bM⟩:=hw;go_simp⟩) hT ?_
    simp only[Act.put,zL,zM,zN]
    refine aw 4 (.int .i64 ((k:Int)+1)) 33 rfl rfl (Or.inl ⟨by rfl,fun w' hw=>by obtain ⟨cO,cG,bM⟩:=hw;go_simp⟩) hT ?_
    simp only[Act.put,zL,zM,zN]
    refine aw 5 (.int .i64 (k:Int)) 34 rfl rfl (Or.inl ⟨by rfl,fun w' hw=>by obtain ⟨cO,cG,bM⟩:=hw;go_simp;exact IntWalk.i64_in _ (by omega)⟩) hT ?_
    simp only[Act.put,zL,zM,zN]
    refine aw 6 (.pointer (some ⟨oh,oo+k,none⟩)) 35 rfl rfl (Or.inl ⟨by rfl,fun w' hw=>by obtain ⟨cO,cG,bM⟩:=hw;go_simp⟩) hT ?_
    simp only[Act.put,zL,zM,zN]
    refine aw 7 (.string ot) 36 rfl rfl (Or.inl ⟨by rfl,fun w' hw=>by obtain ⟨cO,cG,bM⟩:=hw;go_simp⟩) hT ?_
    simp only[Act.put,zL,zM,zN]
    refine aw 8 (.func (.func 132) #[] #[.pointer (some ⟨wr.heap.size,0,none⟩),.pointer (some ⟨w.heap.size,0,none⟩)]) 37 rfl rfl (Or.inl ⟨by rfl,fun w' hw=>by obtain ⟨cO,cG,bM⟩:=hw;go_simp⟩) hT ?_
    simp only[Act.put,zL,zM,zN]
    refine aF 9 (by kernel_rfl) rfl (fun K hK=>?_)
    refine jF 38 30 rfl 84 #[] #[.pointer (some ⟨ll,0,none⟩),.pointer (some ⟨dd,0,none⟩)] (fun vs=>by kernel_rfl) #[.const (.string ⟨#[111,110,101,111,102]⟩),.tmp 36,.tmp 37] #[9,9,1] rfl (by first|rfl|simp[Act.eval]) #[.string ⟨#[111,110,101,111,102]⟩,.string ot,.func (.func 132) #[] #[.pointer (some ⟨wr.heap.size,0,none⟩),.pointer (some ⟨w.heap.size,0,none⟩)],.pointer (some ⟨ll,0,none⟩),.pointer (some ⟨dd,0,none⟩)] (by first|rfl|simp[Act.eval]) (ab HC) (by rfl) ?_
    rintro e' w5 ⟨rfl,nc,jA⟩
    have jg:Kp bb X w5:=fun d cs ty fr h1 h2 h3=>jA d cs ty fr h1 h2 h3
    have lN:=al (show Pn W B bb dd (L++fa n 536870911 rs gs++((ck fs).take (i+1)).flatMap (dF n os)) n w5 by rw[ab yl,ab SG,←List.append_assoc];exact nc)
    have sf:=al ((ab AV).trans jg)
    have uu:(fun w':World=>w'.cell? ⟨w.heap.size,1,none⟩=some (.func (.func 84) #[] #[.pointer (some ⟨ll,0,none⟩),.pointer (some ⟨dd,0,none⟩)])∧w'.cell? ⟨w.heap.size+1,2,none⟩=some (.slice (some ⟨oh,oo,none⟩) os.length co)∧w'.cell? ⟨oh,oo+k,none⟩=some (.string ot)) w5:=⟨cell_of_row _ _ _ _ _ _ (jg _ _ _ _ (ab pa) (ab tj) (by decide)),cell_of_row _ _ _ _ _ _ (jg _ _ _ _ (ab TV) (ab HMX) (by decide)),(nc.bW.cell (p:=⟨oh,oo+k,none⟩) FE).trans (((ab OX).bW.cell (p:=⟨oh,oo+k,none⟩) FE).symm.trans hT.2.2)⟩
    refine ⟨_,rfl,hK _ _ ⟨fun _=>uu,?_⟩⟩
    clear hK K hT uu nc jA jg HC pb mK OX AV S5 yl SG
    simp only[Act.put,zL,zM,zN]
    refine aZ (by kernel_rfl) ?_
    go_wp2
    go_roundg ((ck fs).length-(i+1))
    case measure=>have:=ab bz;have:=ab bu;omega
    case rel=>exact ⟨i+1,by go_num,rfl,ab bu,lN,sf⟩
  ·obtain rfl:i=(ck fs).length:=by omega
   have uZ:=ab pb
   rw[List.take_length] at uZ
   have H8:Kp bb V wr:=(ab fD).trans (ab mK)
   have Wt:=H8 _ _ _ _ (ab TV) (ab XX) (by decide)
   have TC:=H8 _ _ _ _ (ab pa) (ab S6) (by decide)
   have m3:wr.cell? ⟨w.heap.size+1,3,none⟩=some (.slice am ms.length dh):=cell_of_row _ _ _ _ _ _ Wt
   have m4:wr.cell? ⟨w.heap.size+1,4,none⟩=some (.slice ae es.length da):=cell_of_row _ _ _ _ _ _ Wt
   have p0:wr.cell? ⟨w.heap.size,0,none⟩=some (bY bb dd):=cell_of_row _ _ _ _ _ _ TC
   have p1:wr.cell? ⟨w.heap.size,1,none⟩=some (cw ll dd):=cell_of_row _ _ _ _ _ _ TC
   have p2:wr.cell? ⟨w.heap.size,2,none⟩=some (cl bb):=cell_of_row _ _ _ _ _ _ TC
   have HC:=al (ab O5 wr _ uZ (H8 _ _ _ _ (ab FJ) (ab SY) (by decide)) (by simp only[zK];have:=ab pT;omega))
   have T5:=al ((ab Jq).trans H8)
   unfold eM bY cw cl at HC
   unfold bY at p0
   unfold cw at p1
   unfold cl at p2
   clear uZ H8 Wt TC pb mK
   go_wp2_with fail
   refine (ab HC).mono ?_
   rintro e' w6 ⟨rfl,Nw,PD⟩
   have HE:=al (show u6 W B bb dd (L++cj (f+1) n (.mk nm fs os ms es rs gs)) n w (.returned (.tuple #[])) w6 from ⟨rfl,by unfold cj;unfold pF at Nw;simpa only[List.append_assoc] using Nw,(ab T5).trans PD⟩)
   clear Nw PD HC T5
   go_wp2
   refine bodyPost_ret (results_none rfl _ _ _) rfl ?_
   exact ab HE
end Go.Proofs.YtichhjfjcinjgaaGreatDoor

import Derived.Test.YtghioefalckgoaaGreatDoorM26
set_option maxHeartbeats 4000000
set_option maxRecDepth 100000
namespace Go.Proofs.YtghioefalckgoaaGreatDoor
open Go.RowKit
attribute [local go_sem ↓] Go.wp_at_zero Go.wp_at_succ
theorem Bh (l:List Fd):∀(i:Nat),i≤l.length→∀G ∈ ck (l.take i),G≠[]∧∀d ∈ G,d ∈ l:=by
 intro i
 induction i with
 |zero=>intro _;simp[ck]
 |succ i ih =>
  intro h G hG
  have h2:=ih (by omega)
  have hi:i<l.length:=by omega
  rw[mI (List.getElem?_eq_getElem hi)] at hG
  unfold rh at hG
  split at hG
  ·rcases List.mem_or_eq_of_mem_set hG with z|rfl
   ·exact h2 G z
   ·refine ⟨by simp,fun d hd=>?_⟩
    rcases List.mem_append.1 hd with y|y
    ·rw[List.getD_eq_getElem?_getD] at y
     cases e:(ck (l.take i))[(ck (l.take i)).length-1]? with
     |none=>rw[e] at y;simp at y
     |some K=>rw[e] at y;exact (h2 K (List.mem_of_getElem? e)).2 d y
    ·simp at y;subst y;exact List.getElem_mem hi
  ·rcases List.mem_append.1 hG with z|z
   ·exact h2 G z
   ·simp at z;subst z;exact ⟨by simp,fun d hd=>by simp at hd;subst hd;exact List.getElem_mem hi⟩
theorem Pn.bt {W w:World}{B bb dd:Nat}{L:List Nat}{n:Nat} (h:Pn W B bb dd L n w):∃cs,w.heap[bb]?=some (.cells cs 139 (0,0)):=by
 rcases h.bi with k|k
 ·obtain ⟨_,_,k2,_⟩:=k;exact ⟨_,k2⟩
 ·obtain ⟨_,_,k2,_⟩:=k;exact ⟨_,k2⟩
theorem Pn.neq {W w:World}{B bb dd:Nat}{L:List Nat}{n:Nat} (h:Pn W B bb dd L n w) {q t:Nat}{cs:Array Value} (hq:w.heap[q]?=some (.cells cs t (0,0))) (ht:t≠139):q≠bb:=by
 intro e
 subst e
 obtain ⟨c2,e2⟩:=h.bt
 rw[hq] at e2
 simp at e2
 exact ht e2.2
theorem Gr.rd {W w:World}{B bb dd lo:Nat}{L:List Nat}{n:Nat}{v:Value}{gs:List (List Fd)}{us:List Value} (h:Gr lo w v gs us) (hp:Pn W B bb dd L n w) (hn:0<gs.length):∃q c cur,v=.slice (some ⟨q,0,none⟩) gs.length c∧w.heap[q]?=some (.cells cur 54 (0,0))∧q≠bb∧(∀(k:Nat) (u:Value),us[k]?=some u→cur[k]?=some u)∧∀(k:Nat) (G:List Fd) (u:Value),gs[k]?=some G→us[k]?=some u→0<G.length→Rg w u G bb:=by
 obtain ⟨B2,Rt,hr⟩:=h.row
 rcases hr.2 with ⟨rfl,h2⟩|⟨q,c,cur,rfl,hB,hh,h3,h4,h5,h6⟩
 ·omega
 ·refine ⟨q,c,cur,rfl,hh,hp.neq hh (by decide),fun k u hk=>?_,fun k G u h1 h2 hG=>?_⟩
  ·rw[←h6,List.getElem?_take] at hk
   split at hk
   ·simpa using hk
   ·cases hk
  ·rcases (h.GS k G u h1 h2).2 with ⟨rfl,h7⟩|⟨q2,c2,Dd,rfl,_,BR,_,_,_,h8⟩
   ·omega
   ·exact ⟨q2,c2,Dd,rfl,BR,h8,hp.neq BR (by decide)⟩
theorem yH (f:Nat) (ih:Ok f):Ok (f+1):=by
 intro W w B bb dd ll L n m vf vo vm ve vr vg nm fs os ms es rs gs cm ce h hP hF hd fa vX hn fR hV nn hl
 obtain ⟨rfl,OU,QU,BN,eI,xL,ep,D2,D3⟩:=hV
 obtain ⟨⟨D6,O0,bG⟩,db,mH,cE,O6,Pf⟩:=nn
 have s1:=zJ w (.cells (dS bb dd ll) 101)
 have k1:=aE w (.cells (dS bb dd ll) 101)
 have k2:=aE (w.alloc (.cells (dS bb dd ll) 101)) (.cells #[.string nm,vf,vo,vm,ve,vr,vg] 57)
 rw[s1] at k2
 have uY:=(Below.heap_alloc (w.alloc (.cells (dS bb dd ll) 101)) (.cells #[.string nm,vf,vo,vm,ve,vr,vg] 57) _ (by rw[s1];omega)).trans k1
 have la:Below w.heap.size w ((w.alloc (.cells (dS bb dd ll) 101)).alloc (.cells #[.string nm,vf,vo,vm,ve,vr,vg] 57)):=((zE _ _).alloc (zD _) _).alloc (by omega) _
 have hlen:(eB (f+1) n (.mk nm fs os ms es rs gs)).length=(lL n 536870911 rs gs).length+((ck fs).flatMap (hI n os)).length+(q7 f n ms es).length:=by
  unfold eB q7
  rw[zK,zK]
 have HR:=ak (oH (ll:=ll) (most:=536870911) (h.below la) hP hF D2 D3 O0 mH bG cE (by omega))
 have HBl:=ak (fun w' hw'=>vN OU D6 w' hw')
 have SR:=ak (fun w' L' (pB:Pn W B bb dd L' n w') aau hl'=>xI f ih pB hP hF hd fa vX (by omega) aau BN eI xL ep O6 Pf hl')
 obtain ⟨V,hV⟩:∃V,(w.alloc (.cells (dS bb dd ll) 101)).alloc (.cells #[.string nm,vf,vo,vm,ve,vr,vg] 57)=V:=⟨_,rfl⟩
 rw[hV] at uY k2 la HR
 have Q9:=h.bi.lt.2
 have hdl:=(zA h.dp).1
 have pt:=ak (show w.heap.size≠bb by omega)
 have SC:=ak (show w.heap.size≠dd by omega)
 have Yx:=ak (show w.heap.size+1≠bb by omega)
 have Hmd:=ak (show w.heap.size+1≠dd by omega)
 have Li:=ak (show Kp bb w V from Kp.below la)
 have Xe:=ak uY
 have HMV:=ak k2
 have s9:=ak ((la.block _ (zA fR).1).trans fR)
 have ql:=ak (hlen ▸ hl)
 have Hfo:=ak db
 have Hf1:=ak D6
 have PK:=ak hP
 have Hd:=ak hd
 have GX:=ak fa
 have PF:=ak vX
 have Hn:=ak hn
 have Hvo:=ak QU
 obtain ⟨af,cf,rfl,-,-⟩:=OU
 obtain ⟨ao,co,rfl,cI,UX⟩:=QU
 have aaP:=ak UX
 have Hob:=ak cI
 obtain ⟨am,cq,rfl,-,-⟩:=BN
 obtain ⟨ae,cn,rfl,-,-⟩:=xL
 obtain ⟨ar,cr,rfl,-,-⟩:=D2
 obtain ⟨ag,cg,rfl,-,-⟩:=D3
 have p0:V.cell? ⟨w.heap.size,0,none⟩=some (bF bb dd):=cell_of_row _ _ _ _ _ _ uY
 have p1:V.cell? ⟨w.heap.size,1,none⟩=some (bN ll dd):=cell_of_row _ _ _ _ _ _ uY
 have p2:V.cell? ⟨w.heap.size,2,none⟩=some (bJ bb):=cell_of_row _ _ _ _ _ _ uY
 have m5:V.cell? ⟨w.heap.size+1,5,none⟩=some (.slice ar rs.length cr):=cell_of_row _ _ _ _ _ _ k2
 have m6:V.cell? ⟨w.heap.size+1,6,none⟩=some (.slice ag gs.length cg):=cell_of_row _ _ _ _ _ _ k2
 unfold dS bF bN bJ at hV HR
 unfold dS bF bN bJ
 unfold bF at p0
 unfold bN at p1
 unfold bJ at p2
 clear s1 k1 uY k2 la hlen fR hl db D6 hP hd fa vX hn h hF O0 mH bG cE O6 Pf eI ep Q9 hdl UX cI
 go_enter Tryz.func108,Tryz.ntmps108
 go_wp2_with fail
 refine (ab HR).mono ?_
 rintro e' w1 ⟨rfl,qI,rb⟩
 have Q8:=rb _ _ _ _ (ab Yx) (ab HMV) (by decide)
 have m1:w1.cell? ⟨w.heap.size+1,1,none⟩=some (.slice af fs.length cf):=cell_of_row _ _ _ _ _ _ Q8
 have ei:=ak (ab HBl w1 qI.bh)
 have BD:=ak qI
 have x8:=ak rb
 clear p0 p1 p2 m5 m6 qI rb Q8 HR HBl
 go_wp2_with fail
 refine (ab ei).mono ?_
 rintro e' w2 ⟨u2,us,rfl,hG,b9⟩
 have gH:=ak ((ab BD).below b9)
 have jT:=ak ((ab x8).trans (Kp.below b9))
 have HG:=ak hG
 obtain ⟨B2,Rt,l8⟩:=hG.row
 obtain ⟨a2,c2,rfl⟩:∃a c,u2=.slice a (ck fs).length c:=by
  rcases l8.2 with ⟨rfl,h2⟩|⟨_,_,_,rfl,_⟩
  ·exact ⟨none,0,by rw[h2]⟩
  ·exact ⟨_,_,rfl⟩
 clear b9 hG ei BD x8 m1
 go_wp2_with fail
 go_loopg [5,6,7,18] (ck fs).length (fun gk _ _ _ v18 wr=>∃(i:Nat),v18=.int .i64 (i:Int)∧gk=(ck fs).length-i∧i≤(ck fs).length∧Hid (Pn W B bb dd (L++lL n 536870911 rs gs++((ck fs).take i).flatMap (hI n os)) n wr)∧Hid (Kp bb w2 wr))
 case atStart=>exact ⟨0,rfl,rfl,by omega,by rw[List.take_zero,List.flatMap_nil,List.append_nil];exact gH,Kp.refl _ _⟩
 case round =>
  obtain ⟨i,rfl,bd,hi,wD,wE⟩:=hrel
  have bH:=ak bd
  clear bd
  have CT:=o0 fs fs.length (zD _)
  rw[List.take_length] at CT
  have Vx:(ck fs).length≤4096:=by have:=ab Hf1;omega
  by_cases aU:i<(ck fs).length
  ·obtain ⟨q,qc,cur,gD,Vb,Tk,VF,XM⟩:=(ab HG).rd (ab gH) (by omega)
   obtain ⟨rfl,rfl⟩:a2=some ⟨q,0,none⟩∧c2=qc:=by simpa using gD
   have hr:=List.getElem?_eq_getElem aU
   have bQ:=List.getElem_mem aU
   obtain ⟨G,hGG⟩:∃G,(ck fs)[i]=G:=⟨_,rfl⟩
   rw[hGG] at hr bQ
   obtain ⟨u,hu⟩:∃u,us[i]?=some u:=⟨_,List.getElem?_eq_getElem (by rw[(ab HG).len];exact aU)⟩
   have Tq:=Bh fs fs.length (zD _) G (by rw[List.take_length];exact bQ)
   obtain ⟨d,r,rfl⟩:∃d r,G=d::r:=by
    cases G with
    |nil=>exact absurd rfl Tq.1
    |cons d r=>exact ⟨d,r,rfl⟩
   have hRg:=(XM i _ u hr hu (by simp)).kp (ab wE)
   have vl:=ab wE _ _ _ _ Tk Vb (by decide)
   have x0:wr.cell? ⟨q,i,none⟩=some u:=by rw[cell_of_row _ _ _ _ _ _ vl];exact VF i u hu
   have gR:((ck fs).take (i+1)).flatMap (hI n os)=((ck fs).take i).flatMap (hI n os)++hI n os (d::r):=by
    rw[dB hr,List.flatMap_append]
    simp
   have hlen:(L++lL n 536870911 rs gs++((ck fs).take i).flatMap (hI n os)).length+(hI n os (d::r)).length≤1099511627776:=by
    have e2:(ck fs).flatMap (hI n os)=((ck fs).take (i+1)).flatMap (hI n os)++((ck fs).drop (i+1)).flatMap (hI n os):=by rw[←List.flatMap_append,List.take_append_drop]
    have h1:=congrArg List.length e2
    rw[gR] at h1
    have h2:=ab ql
    simp only[zK] at h1 h2 ⊢
    omega
   have VC:∀d' ∈ d::r,((0≤d'.num∧d'.num≤2147483647)∧d'.key.size≤255∧d'.ty.size≤255):=fun d' JT=>(ab Hfo d' (Tq.2 d' JT)).1
   have hon:=(ab Hfo d (Tq.2 d (by simp))).2
   have hGl:(d::r).length≤4096:=by have:=CT.2 _ bQ;have:=ab Hf1;omega
   obtain ⟨uh,uc,abh,rfl,huh,Ti,Jz⟩:=id hRg
   have o5:wr.cell? ⟨uh,5,none⟩=some (.int .i64 d.aH):=by
    rw[cell_of_row _ _ _ _ _ _ huh,←Array.getElem?_toList]
    have e1:=da (l:=d::r) (i:=0) (d:=d) rfl (j:=5) (by decide)
    rw[←Ti,List.getElem?_take,if_pos (by simp;omega)] at e1
    simpa[Fd.cs] using e1
   have cy:=aE wr (.cells #[.slice (some ⟨uh,0,none⟩) (d::r).length uc] 54)
   have bq:Below wr.heap.size wr (wr.alloc (.cells #[.slice (some ⟨uh,0,none⟩) (d::r).length uc] 54)):=(zE _ _).alloc (zD _) _
   obtain ⟨X,hX⟩:∃X,wr.alloc (.cells #[.slice (some ⟨uh,0,none⟩) (d::r).length uc] 54)=X:=⟨_,rfl⟩
   rw[hX] at cy bq
   have BO:=(ab wD).below bq
   have Fw:Kp bb w2 X:=(ab wE).trans (Kp.below bq)
   have JQ:Kp bb V X:=(ab jT).trans Fw
   have uu:=ak (JQ _ _ _ _ (ab pt) (ab Xe) (by decide))
   have HMX:=ak (JQ _ _ _ _ (ab Yx) (ab HMV) (by decide))
   have TY:=ak (JQ _ _ _ _ (ab GX) (ab s9) (by decide))
   have gI:=ak cy
   have WL:=ak (show wr.heap.size≠bb by have:=(ab wD).bi.lt.2;omega)
   have WK:=ak (show wr.heap.size≠dd by have:=(zA (ab wD).dp).1;omega)
   have HRX:=ak (hRg.kp (Kp.below bq))
   have y0:X.cell? ⟨wr.heap.size,0,none⟩=some (.slice (some ⟨uh,0,none⟩) (d::r).length uc):=cell_of_row _ _ _ _ _ _ cy
   have y5:X.cell? ⟨uh,5,none⟩=some (.int .i64 d.aH):=(bq.cell (p:=⟨uh,5,none⟩) (zA huh).1).trans o5
   have xa:=ak gR
   have PE:=ak hlen
   have BF:=ak Fw
   have Xd:=ak JQ
   have SO:=ak BO
   have Hf2:=ak VC
   have YG:=ak hGl
   have i0:(0:Int)≤(i:Int):=zH _
   have i1:(i:Int)<((ck fs).length:Int):=by omega
   have r1:(0:Int)<((d::r).length:Int):=by simp
   have bn:=ak aU
   have Hon:=ak hon
   obtain ⟨gl,aaw⟩:∃gl,(d::r).length=gl:=⟨_,rfl⟩
   rw[aaw] at hX gI y0 r1 HRX
   clear gD Vb Tk VF XM hr bQ hGG hu Tq hRg vl gR hlen VC hon hGl huh Ti Jz cy bq BO Fw JQ aU o5
   by_cases h0:d.aH=0
   ·have e0:(d.aH != 0)=false:=by simpa using h0
    have jB:hI n os (d::r)=(d::r).flatMap (bY n):=by
     unfold hI
     show (if d.aH≠0 then eU n pN (os.getD (d.aH.toNat-1) ⟨#[]⟩) ((d::r).flatMap (bY (n+1))) else (d::r).flatMap (bY n))=_
     rw[if_neg (fun z=>z h0)]
    have HC:=ak (xD (ll:=ll) (ab SO) (ab PK) (ab gI) (ab uu) (ab pt) (ab HRX) (ab YG) (ab Hf2) (by rw[←jB];exact ab PE))
    have WW:=ak jB
    clear h0 jB
    go_wp2_with fail
    refine (ab HC).mono ?_
    rintro e' w5 ⟨rfl,nk,vu⟩
    have xd:=ak (show Pn W B bb dd (L++lL n 536870911 rs gs++((ck fs).take (i+1)).flatMap (hI n os)) n w5 by rw[ab xa,ab WW,←List.append_assoc];exact nk)
    have Dn:=ak ((ab BF).trans vu)
    clear nk vu HC wD wE SO BF Xd xa WW
    go_wp2
    go_roundg ((ck fs).length-(i+1))
    case measure=>have:=ab bH;have:=ab bn;omega
    case rel=>exact ⟨i+1,by go_num,rfl,ab bn,xd,Dn⟩
   ·have e0:(d.aH != 0)=true:=by simpa using h0
    obtain ⟨cT,fg⟩:=ab Hon h0
    obtain ⟨k,hk⟩:∃k:Nat,d.aH=(k:Int)+1:=⟨d.aH.toNat-1,by omega⟩
    have Rb:k<os.length:=by omega
    obtain ⟨oh,oo,rfl,hol,hoc⟩:=ab aaP (by omega)
    obtain ⟨ot,hot⟩:∃t,os[k]?=some t:=⟨_,List.getElem?_eq_getElem Rb⟩
    have z0:X.cell? ⟨oh,oo+k,none⟩=some (.string ot):=((ab SO).bh.cell (p:=⟨oh,oo+k,none⟩) hol).trans (hoc _ _ (gJ hot))
    have jB:hI n os (d::r)=bK n [⟨#[111,110,101,111,102]⟩,⟨#[32]⟩,ot,⟨#[32,123]⟩]++(d::r).flatMap (bY (n+1))++bK n [⟨#[125]⟩]:=by
     unfold hI
     show (if d.aH≠0 then eU n pN (os.getD (d.aH.toNat-1) ⟨#[]⟩) ((d::r).flatMap (bY (n+1))) else (d::r).flatMap (bY n))=_
     rw[if_pos h0]
     unfold eU pN
     rw[show d.aH.toNat-1=k by omega,List.getD_eq_getElem?_getD,hot]
     rfl
    have Vn:=ab PE
    have cE:(hI n os (d::r)).length=(bK n [⟨#[111,110,101,111,102]⟩,⟨#[32]⟩,ot,⟨#[32,123]⟩]).length+((d::r).flatMap (bY (n+1))).length+(bK n [⟨#[125]⟩]).length:=by rw[jB,zK,zK]
    rw[cE] at Vn
    have hbD:Below X.heap.size X X.drew:=below_drewN (zE _ _) 1
    have HC:=ak (qi (w:=X.drew) (I:=(d::r).flatMap (bY (n+1))) (a:=⟨#[111,110,101,111,102]⟩) (b:=ot) (f:=⟨158,#[],#[.pointer (some ⟨wr.heap.size,0,none⟩),.pointer (some ⟨w.heap.size,0,none⟩)]⟩) ((ab SO).below hbD) (ab Hd) (by have:=ab Hn;omega) (ab TY) (ab GX) (ab PF) (fun vs w=>by kernel_rfl) (by omega) (fun w3 qH vl=>by
     have hR3:Rg w3 (.slice (some ⟨uh,0,none⟩) gl uc) (d::r) bb:=by
      obtain ⟨a1,a2,a3,a4,a5,a6,a7⟩:=ab HRX
      exact ⟨a1,a2,a3,a4,vl _ _ _ _ a7 (by intro z;subst z;have h9:=(ab SO).dp;rw[a5] at h9;simp at h9) a5 (by decide),a6,a7⟩
     exact xD (ll:=ll) qH (ab PK) (vl _ _ _ _ (ab WL) (ab WK) (ab gI) (by decide)) (vl _ _ _ _ (ab pt) (ab SC) (ab uu) (by decide)) (ab pt) hR3 (ab YG) (ab Hf2) (by rw[zK];omega)))
    have WW:=ak jB
    have hT:(fun w':World=>w'.cell? ⟨w.heap.size,1,none⟩=some (.func (.func 103) #[] #[.pointer (some ⟨ll,0,none⟩),.pointer (some ⟨dd,0,none⟩)])∧w'.cell? ⟨w.heap.size+1,2,none⟩=some (.slice (some ⟨oh,oo,none⟩) os.length co)∧w'.cell? ⟨oh,oo+k,none⟩=some (.string ot)) X.drew:=⟨cell_of_row _ _ _ _ _ _ (ab uu),cell_of_row _ _ _ _ _ _ (ab HMX),z0⟩
    have k0:(0:Int)≤(k:Int):=zH _
    have k1:(k:Int)<(os.length:Int):=by omega
    have ob:os.length≤140737488355328:=ab Hob
    unfold Fv.val at HC
    simp only at HC
    rw[hk] at e0 y5
    clear h0 cT fg hk hoc hot jB Vn cE hbD z0
    go_upto_region 8 with fail
    refine wp_region_any (by kernel_rfl) (aV (z:=99) (T:=fun w'=>w'.cell? ⟨w.heap.size,1,none⟩=some (.func (.func 103) #[] #[.pointer (some ⟨ll,0,none⟩),.pointer (some ⟨dd,0,none⟩)])∧w'.cell? ⟨w.heap.size+1,2,none⟩=some (.slice (some ⟨oh,oo,none⟩) os.length co)∧w'.cell? ⟨oh,oo+k,none⟩=some (.string ot)) _ _ _ _ ?_)
    try (change ba _ _ _ _ _ _ _ _ _ (World.drew _))
    refine aw 0 (.pointer (some ⟨w.heap.size,1,none⟩)) 29 rfl rfl (Or.inl ⟨by rfl,fun w' hw=>by obtain ⟨bZ,bM,br⟩:=hw;go_simp⟩) hT ?_
    simp only[Act.put,zL,zM,zN]
    refine aw 1 (.func (.func 103) #[] #[.pointer (some ⟨ll,0,none⟩),.pointer (some ⟨dd,0,none⟩)]) 30 rfl rfl (Or.inl ⟨by rfl,fun w' hw=>by obtain ⟨bZ,bM,br⟩:=hw;go_simp⟩) hT ?_
    simp only[Act.put,zL,zM,zN]
    refine aw 2 (.pointer (some ⟨w.heap.size+1,2,none⟩)) 31 rfl rfl (Or.inl ⟨by rfl,fun w' hw=>by obtain ⟨bZ,bM,br⟩:=hw;go_simp⟩) hT ?_
    simp only[Act.put,zL,zM,zN]
    refine aw 3 (.slice (some ⟨oh,oo,none⟩) os.length co) 32 rfl rfl (Or.inl ⟨by rfl,fun w' hw=>by obtain ⟨bZ,bM,br⟩:=hw;go_simp⟩) hT ?_
    simp only[Act.put,zL,zM,zN]
    refine aw 4 (.int .i64 ((k:Int)+1)) 33 rfl rfl (Or.inl ⟨by rfl,fun w' hw=>by obtain ⟨bZ,bM,br⟩:=hw;go_simp⟩) hT ?_
    simp only[Act.put,zL,zM,zN]
    refine aw 5 (.int .i64 (k:Int)) 34 rfl rfl (Or.inl ⟨by rfl,fun w' hw=>by obtain ⟨bZ,bM,br⟩:=hw;go_simp;exact IntWalk.i64_in _ (by omega)⟩) hT ?_
    simp only[Act.put,zL,zM,zN]
    refine aw 6 (.pointer (some ⟨oh,oo+k,none⟩)) 35 rfl rfl (Or.inl ⟨by rfl,fun w' hw=>by obtain ⟨bZ,bM,br⟩:=hw;go_simp⟩) hT ?_
    simp only[Act.put,zL,zM,zN]
    refine aw 7 (.string ot) 36 rfl rfl (Or.inl ⟨by rfl,fun w' hw=>by obtain ⟨bZ,bM,br⟩:=hw;go_simp⟩) hT ?_
    simp only[Act.put,zL,zM,zN]
    refine aw 8 (.func (.func 158) #[] #[.pointer (some ⟨wr.heap.size,0,none⟩),.pointer (some ⟨w.heap.size,0,none⟩)]) 37 rfl rfl (Or.inl ⟨by rfl,fun w' hw=>by obtain ⟨bZ,bM,br⟩:=hw;go_simp⟩) hT ?_
    simp only[Act.put,zL,zM,zN]
    refine aB 9 (by kernel_rfl) rfl (fun K hK=>?_)
    refine bX 38 30 rfl 103 #[] #[.pointer (some ⟨ll,0,none⟩),.pointer (some ⟨dd,0,none⟩)] (fun vs=>by kernel_rfl) #[.const (.string ⟨#[111,110,101,111,102]⟩),.tmp 36,.tmp 37] #[9,9,1] rfl (by first|rfl|simp[Act.eval]) #[.string ⟨#[111,110,101,111,102]⟩,.string ot,.func (.func 158) #[] #[.pointer (some ⟨wr.heap.size,0,none⟩),.pointer (some ⟨w.heap.size,0,none⟩)],.pointer (some ⟨ll,0,none⟩),.pointer (some ⟨dd,0,none⟩)] (by first|rfl|simp[Act.eval]) (ab HC) (by rfl) ?_
    rintro e' w5 ⟨rfl,nk,vu⟩
    have iO:Kp bb X w5:=fun d cs ty fr h1 h2 h3=>vu d cs ty fr h1 h2 h3
    have xd:=ak (show Pn W B bb dd (L++lL n 536870911 rs gs++((ck fs).take (i+1)).flatMap (hI n os)) n w5 by rw[ab xa,ab WW,←List.append_assoc];exact nk)
    have Dn:=ak ((ab BF).trans iO)
    have yT:(fun w':World=>w'.cell? ⟨w.heap.size,1,none⟩=some (.func (.func 103) #[] #[.pointer (some ⟨ll,0,none⟩),.pointer (some ⟨dd,0,none⟩)])∧w'.cell? ⟨w.heap.size+1,2,none⟩=some (.slice (some ⟨oh,oo,none⟩) os.length co)∧w'.cell? ⟨oh,oo+k,none⟩=some (.string ot)) w5:=⟨cell_of_row _ _ _ _ _ _ (iO _ _ _ _ (ab pt) (ab uu) (by decide)),cell_of_row _ _ _ _ _ _ (iO _ _ _ _ (ab Yx) (ab HMX) (by decide)),(nk.bh.cell (p:=⟨oh,oo+k,none⟩) hol).trans (((ab SO).bh.cell (p:=⟨oh,oo+k,none⟩) hol).symm.trans hT.2.2)⟩
    refine ⟨_,rfl,hK _ _ ⟨fun _=>yT,?_⟩⟩
    clear hK K hT yT nk vu iO HC wD wE SO BF Xd xa WW
    simp only[Act.put,zL,zM,zN]
    refine aQ (by kernel_rfl) ?_
    go_wp2
    go_roundg ((ck fs).length-(i+1))
    case measure=>have:=ab bH;have:=ab bn;omega
    case rel=>exact ⟨i+1,by go_num,rfl,ab bn,xd,Dn⟩
  ·obtain rfl:i=(ck fs).length:=by omega
   have yU:=ab wD
   rw[List.take_length] at yU
   have JR:Kp bb V wr:=(ab jT).trans (ab wE)
   have hM9:=JR _ _ _ _ (ab Yx) (ab HMV) (by decide)
   have X':=JR _ _ _ _ (ab pt) (ab Xe) (by decide)
   have m3:wr.cell? ⟨w.heap.size+1,3,none⟩=some (.slice am ms.length cq):=cell_of_row _ _ _ _ _ _ hM9
   have m4:wr.cell? ⟨w.heap.size+1,4,none⟩=some (.slice ae es.length cn):=cell_of_row _ _ _ _ _ _ hM9
   have p0:wr.cell? ⟨w.heap.size,0,none⟩=some (bF bb dd):=cell_of_row _ _ _ _ _ _ X'
   have p1:wr.cell? ⟨w.heap.size,1,none⟩=some (bN ll dd):=cell_of_row _ _ _ _ _ _ X'
   have p2:wr.cell? ⟨w.heap.size,2,none⟩=some (bJ bb):=cell_of_row _ _ _ _ _ _ X'
   have HC:=ak (ab SR wr _ yU (JR _ _ _ _ (ab GX) (ab s9) (by decide)) (by simp only[zK];have:=ab ql;omega))
   have HK9:=ak ((ab Li).trans JR)
   unfold dS bF bN bJ at HC
   unfold bF at p0
   unfold bN at p1
   unfold bJ at p2
   clear yU JR hM9 X' wD wE
   go_wp2_with fail
   refine (ab HC).mono ?_
   rintro e' w6 ⟨rfl,Q0,hk6⟩
   have HE:=ak (show wu W B bb dd (L++eB (f+1) n (.mk nm fs os ms es rs gs)) n w (.returned (.tuple #[])) w6 from ⟨rfl,by unfold eB;unfold q7 at Q0;simpa only[List.append_assoc] using Q0,(ab HK9).trans hk6⟩)
   clear Q0 hk6 HC HK9
   go_wp2
   refine bodyPost_ret (results_none rfl _ _ _) rfl ?_
   exact ab HE
end Go.Proofs.YtghioefalckgoaaGreatDoor

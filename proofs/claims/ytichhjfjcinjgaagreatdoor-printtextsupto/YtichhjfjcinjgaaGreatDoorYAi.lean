import Derived.Test.YtichhjfjcinjgaaGreatDoorM19
set_option maxHeartbeats 4000000
set_option maxRecDepth 100000
namespace Go.Proofs.YtichhjfjcinjgaaGreatDoor
open Go.RowKit
attribute [local go_sem ↓] Go.wp_at_zero Go.wp_at_succ
theorem AV (l:List Fd):∀(i:Nat),i≤l.length→∀G ∈ cl (l.take i),G≠[]∧∀d ∈ G,d ∈ l:=by
 intro i
 induction i with
 |zero=>intro _;simp[cl]
 |succ i ih =>
  intro h G hG
  have h2:=ih (by omega)
  have hi:i<l.length:=by omega
  rw[ig (List.getElem?_eq_getElem hi)] at hG
  unfold np at hG
  split at hG
  ·rcases List.mem_or_eq_of_mem_set hG with z|rfl
   ·exact h2 G z
   ·refine ⟨by simp,fun d hd=>?_⟩
    rcases List.mem_append.1 hd with y|y
    ·rw[List.getD_eq_getElem?_getD] at y
     cases e:(cl (l.take i))[(cl (l.take i)).length-1]? with
     |none=>rw[e] at y;simp at y
     |some K=>rw[e] at y;exact (h2 K (List.mem_of_getElem? e)).2 d y
    ·simp at y;subst y;exact List.getElem_mem hi
  ·rcases List.mem_append.1 hG with z|z
   ·exact h2 G z
   ·simp at z;subst z;exact ⟨by simp,fun d hd=>by simp at hd;subst hd;exact List.getElem_mem hi⟩
theorem Pn.bt {W w:World}{B bb dd:Nat}{L:List Nat}{n:Nat} (h:Pn W B bb dd L n w):∃cs,w.heap[bb]?=some (.cells cs 125 (0,0)):=by
 rcases h.bi with k|k
 ·obtain ⟨_,_,k2,_⟩:=k;exact ⟨_,k2⟩
 ·obtain ⟨_,_,k2,_⟩:=k;exact ⟨_,k2⟩
theorem Pn.neq {W w:World}{B bb dd:Nat}{L:List Nat}{n:Nat} (h:Pn W B bb dd L n w) {q t:Nat}{cs:Array Value} (hq:w.heap[q]?=some (.cells cs t (0,0))) (ht:t≠125):q≠bb:=by
 intro e
 subst e
 obtain ⟨c2,e2⟩:=h.bt
 rw[hq] at e2
 simp at e2
 exact ht e2.2
theorem Gr.rd {W w:World}{B bb dd lo:Nat}{L:List Nat}{n:Nat}{v:Value}{gs:List (List Fd)}{us:List Value} (h:Gr lo w v gs us) (hp:Pn W B bb dd L n w) (hn:0<gs.length):∃q c cur,v=.slice (some ⟨q,0,none⟩) gs.length c∧w.heap[q]?=some (.cells cur 43 (0,0))∧q≠bb∧(∀(k:Nat) (u:Value),us[k]?=some u→cur[k]?=some u)∧∀(k:Nat) (G:List Fd) (u:Value),gs[k]?=some G→us[k]?=some u→0<G.length→Rg w u G bb:=by
 obtain ⟨B2,Ot,hr⟩:=h.row
 rcases hr.2 with ⟨rfl,h2⟩|⟨q,c,cur,rfl,hB,hh,h3,h4,h5,h6⟩
 ·omega
 ·refine ⟨q,c,cur,rfl,hh,hp.neq hh (by decide),fun k u hk=>?_,fun k G u h1 h2 hG=>?_⟩
  ·rw[←h6,List.getElem?_take] at hk
   split at hk
   ·simpa using hk
   ·cases hk
  ·rcases (h.IZ k G u h1 h2).2 with ⟨rfl,h7⟩|⟨q2,c2,Jc,rfl,_,By,_,_,_,h8⟩
   ·omega
   ·exact ⟨q2,c2,Jc,rfl,By,h8,hp.neq By (by decide)⟩
theorem ya (f:Nat) (ih:L4 f):L4 (f+1):=by
 intro W w B bb dd ll L n m vf vo vm ve vr vg nm fs os ms es rs gs cm ce h hP hF hd fK DW hn fR hV oq hl
 obtain ⟨rfl,Mt,NT,Bv,eo,Bw,fA,DQ,DR⟩:=hV
 obtain ⟨⟨bH,Ir,dO⟩,dZ,oV,ep,ID,MC⟩:=oq
 have s1:=zJ w (.cells (eO bb dd ll) 89)
 have k1:=aJ w (.cells (eO bb dd ll) 89)
 have k2:=aJ (w.alloc (.cells (eO bb dd ll) 89)) (.cells #[.string nm,vf,vo,vm,ve,vr,vg] 46)
 rw[s1] at k2
 have sS:=(Below.heap_alloc (w.alloc (.cells (eO bb dd ll) 89)) (.cells #[.string nm,vf,vo,vm,ve,vr,vg] 46) _ (by rw[s1];omega)).trans k1
 have lk:Below w.heap.size w ((w.alloc (.cells (eO bb dd ll) 89)).alloc (.cells #[.string nm,vf,vo,vm,ve,vr,vg] 46)):=((zE _ _).alloc (zD _) _).alloc (by omega) _
 have hlen:(ck (f+1) n (.mk nm fs os ms es rs gs)).length=(fg n 536870911 rs gs).length+((cl fs).flatMap (dH n os)).length+(pW f n ms es).length:=by
  unfold ck pW
  rw[zK,zK]
 have HR:=al (oH (ll:=ll) (most:=536870911) (h.below lk) hP hF DQ DR Ir oV dO ep (by omega))
 have HBl:=al (fun w' hw'=>C' Mt bH w' hw')
 have PA:=al (fun w' L' (oY:Pn W B bb dd L' n w') WA N5=>xd f ih oY hP hF hd fK DW (by omega) WA Bv eo Bw fA ID MC N5)
 obtain ⟨V,hV⟩:∃V,(w.alloc (.cells (eO bb dd ll) 89)).alloc (.cells #[.string nm,vf,vo,vm,ve,vr,vg] 46)=V:=⟨_,rfl⟩
 rw[hV] at sS k2 lk HR
 have N3:=h.bi.lt.2
 have WK:=(zA h.dp).1
 have pC:=al (show w.heap.size≠bb by omega)
 have O9:=al (show w.heap.size≠dd by omega)
 have Uk:=al (show w.heap.size+1≠bb by omega)
 have Hmd:=al (show w.heap.size+1≠dd by omega)
 have JY:=al (show Kp bb w V from Kp.below lk)
 have Tv:=al sS
 have Yu:=al k2
 have Tn:=al ((lk.block _ (zA fR).1).trans fR)
 have qw:=al (hlen ▸ hl)
 have Hfo:=al dZ
 have Hf1:=al bH
 have Ti:=al hP
 have Hd:=al hd
 have Gf:=al fK
 have MT:=al DW
 have Hn:=al hn
 have Hvo:=al NT
 obtain ⟨af,cf,rfl,-,-⟩:=Mt
 obtain ⟨ao,co,rfl,ei,Rw⟩:=NT
 have XF:=al Rw
 have Pa:=al ei
 obtain ⟨am,dk,rfl,-,-⟩:=Bv
 obtain ⟨ae,dc,rfl,-,-⟩:=Bw
 obtain ⟨ar,cr,rfl,-,-⟩:=DQ
 obtain ⟨ag,cg,rfl,-,-⟩:=DR
 have p0:V.cell? ⟨w.heap.size,0,none⟩=some (bZ bb dd):=cell_of_row _ _ _ _ _ _ sS
 have p1:V.cell? ⟨w.heap.size,1,none⟩=some (cy ll dd):=cell_of_row _ _ _ _ _ _ sS
 have p2:V.cell? ⟨w.heap.size,2,none⟩=some (cq bb):=cell_of_row _ _ _ _ _ _ sS
 have m5:V.cell? ⟨w.heap.size+1,5,none⟩=some (.slice ar rs.length cr):=cell_of_row _ _ _ _ _ _ k2
 have m6:V.cell? ⟨w.heap.size+1,6,none⟩=some (.slice ag gs.length cg):=cell_of_row _ _ _ _ _ _ k2
 unfold eO bZ cy cq at hV HR
 unfold eO bZ cy cq
 unfold bZ at p0
 unfold cy at p1
 unfold cq at p2
 clear s1 k1 sS k2 lk hlen fR hl dZ bH hP hd fK DW hn h hF Ir oV dO ep ID MC eo fA N3 WK Rw ei
 go_enter Tryz.func89,Tryz.ntmps89
 go_wp2_with fail
 refine (ab HR).mono ?_
 rintro e' w1 ⟨rfl,pY,mf⟩
 have N0:=mf _ _ _ _ (ab Uk) (ab Yu) (by decide)
 have m1:w1.cell? ⟨w.heap.size+1,1,none⟩=some (.slice af fs.length cf):=cell_of_row _ _ _ _ _ _ N0
 have cO:=al (ab HBl w1 pY.bU)
 have vK:=al pY
 have iO:=al mf
 clear p0 p1 p2 m5 m6 pY mf N0 HR HBl
 go_wp2_with fail
 refine (ab cO).mono ?_
 rintro e' w2 ⟨u2,us,rfl,hG,bd⟩
 have fH:=al ((ab vK).below bd)
 have fI:=al ((ab iO).trans (Kp.below bd))
 have HG:=al hG
 obtain ⟨B2,Ot,oU⟩:=hG.row
 obtain ⟨a2,c2,rfl⟩:∃a c,u2=.slice a (cl fs).length c:=by
  rcases oU.2 with ⟨rfl,h2⟩|⟨_,_,_,rfl,_⟩
  ·exact ⟨none,0,by rw[h2]⟩
  ·exact ⟨_,_,rfl⟩
 clear bd hG cO vK iO m1
 go_wp2_with fail
 go_loopg [5,6,7,18] (cl fs).length (fun gk _ _ _ v18 wr=>∃(i:Nat),v18=.int .i64 (i:Int)∧gk=(cl fs).length-i∧i≤(cl fs).length∧Hid (Pn W B bb dd (L++fg n 536870911 rs gs++((cl fs).take i).flatMap (dH n os)) n wr)∧Hid (Kp bb w2 wr))
 case atStart=>exact ⟨0,rfl,rfl,by omega,by rw[List.take_zero,List.flatMap_nil,List.append_nil];exact fH,Kp.refl _ _⟩
 case round =>
  obtain ⟨i,rfl,aW,hi,pD,na⟩:=hrel
  have bz:=al aW
  clear aW
  have CI:=yA fs fs.length (zD _)
  rw[List.take_length] at CI
  have hgl:(cl fs).length≤4096:=by have:=ab Hf1;omega
  by_cases aM:i<(cl fs).length
  ·obtain ⟨q,qc,cur,dV,Fa,nG,Sm,Zp⟩:=(ab HG).rd (ab fH) (by omega)
   obtain ⟨rfl,rfl⟩:a2=some ⟨q,0,none⟩∧c2=qc:=by simpa using dV
   have hr:=List.getElem?_eq_getElem aM
   have cJ:=List.getElem_mem aM
   obtain ⟨G,hGG⟩:∃G,(cl fs)[i]=G:=⟨_,rfl⟩
   rw[hGG] at hr cJ
   obtain ⟨u,hu⟩:∃u,us[i]?=some u:=⟨_,List.getElem?_eq_getElem (by rw[(ab HG).len];exact aM)⟩
   have P8:=AV fs fs.length (zD _) G (by rw[List.take_length];exact cJ)
   obtain ⟨d,r,rfl⟩:∃d r,G=d::r:=by
    cases G with
    |nil=>exact absurd rfl P8.1
    |cons d r=>exact ⟨d,r,rfl⟩
   have WW:=(Zp i _ u hr hu (by simp)).kp (ab na)
   have oy:=ab na _ _ _ _ nG Fa (by decide)
   have x0:wr.cell? ⟨q,i,none⟩=some u:=by rw[cell_of_row _ _ _ _ _ _ oy];exact Sm i u hu
   have ku:((cl fs).take (i+1)).flatMap (dH n os)=((cl fs).take i).flatMap (dH n os)++dH n os (d::r):=by
    rw[bM hr,List.flatMap_append]
    simp
   have hlen:(L++fg n 536870911 rs gs++((cl fs).take i).flatMap (dH n os)).length+(dH n os (d::r)).length≤1099511627776:=by
    have e2:(cl fs).flatMap (dH n os)=((cl fs).take (i+1)).flatMap (dH n os)++((cl fs).drop (i+1)).flatMap (dH n os):=by rw[←List.flatMap_append,List.take_append_drop]
    have h1:=congrArg List.length e2
    rw[ku] at h1
    have h2:=ab qw
    simp only[zK] at h1 h2 ⊢
    omega
   have Sg:∀d' ∈ d::r,((0≤d'.num∧d'.num≤2147483647)∧d'.key.size≤255∧d'.ty.size≤255):=fun d' IL=>(ab Hfo d' (P8.2 d' IL)).1
   have NW:=(ab Hfo d (P8.2 d (by simp))).2
   have Z':(d::r).length≤4096:=by have:=CI.2 _ cJ;have:=ab Hf1;omega
   obtain ⟨uh,uc,aai,rfl,Wc,PX,Wb⟩:=id WW
   have o5:wr.cell? ⟨uh,5,none⟩=some (.int .i64 d.aE):=by
    rw[cell_of_row _ _ _ _ _ _ Wc,←Array.getElem?_toList]
    have e1:=cC (l:=d::r) (i:=0) (d:=d) rfl (j:=5) (by decide)
    rw[←PX,List.getElem?_take,if_pos (by simp;omega)] at e1
    simpa[Fd.cs] using e1
   have fw:=aJ wr (.cells #[.slice (some ⟨uh,0,none⟩) (d::r).length uc] 43)
   have bG:Below wr.heap.size wr (wr.alloc (.cells #[.slice (some ⟨uh,0,none⟩) (d::r).length uc] 43)):=(zE _ _).alloc (zD _) _
   obtain ⟨X,hX⟩:∃X,wr.alloc (.cells #[.slice (some ⟨uh,0,none⟩) (d::r).length uc] 43)=X:=⟨_,rfl⟩
   rw[hX] at fw bG
   have Bx:=(ab pD).below bG
   have Fg:Kp bb w2 X:=(ab na).trans (Kp.below bG)
   have IF:Kp bb V X:=(ab fI).trans Fg
   have tK:=al (IF _ _ _ _ (ab pC) (ab Tv) (by decide))
   have HMX:=al (IF _ _ _ _ (ab Uk) (ab Yu) (by decide))
   have QB:=al (IF _ _ _ _ (ab Gf) (ab Tn) (by decide))
   have iu:=al fw
   have SZ:=al (show wr.heap.size≠bb by have:=(ab pD).bi.lt.2;omega)
   have SY:=al (show wr.heap.size≠dd by have:=(zA (ab pD).dp).1;omega)
   have Yh:=al (WW.kp (Kp.below bG))
   have y0:X.cell? ⟨wr.heap.size,0,none⟩=some (.slice (some ⟨uh,0,none⟩) (d::r).length uc):=cell_of_row _ _ _ _ _ _ fw
   have y5:X.cell? ⟨uh,5,none⟩=some (.int .i64 d.aE):=(bG.cell (p:=⟨uh,5,none⟩) (zA Wc).1).trans o5
   have yR:=al ku
   have MS:=al hlen
   have Bk:=al Fg
   have Tu:=al IF
   have Pq:=al Bx
   have Hf2:=al Sg
   have Uw:=al Z'
   have i0:(0:Int)≤(i:Int):=zH _
   have i1:(i:Int)<((cl fs).length:Int):=by omega
   have r1:(0:Int)<((d::r).length:Int):=by simp
   have bu:=al aM
   have Hon:=al NW
   obtain ⟨gl,WD⟩:∃gl,(d::r).length=gl:=⟨_,rfl⟩
   rw[WD] at hX iu y0 r1 Yh
   clear dV Fa nG Sm Zp hr cJ hGG hu P8 WW oy ku hlen Sg NW Z' Wc PX Wb fw bG Bx Fg IF aM o5
   by_cases h0:d.aE=0
   ·have e0:(d.aE != 0)=false:=by simpa using h0
    have nL:dH n os (d::r)=(d::r).flatMap (bT n):=by
     unfold dH
     show (if d.aE≠0 then ct n ia (os.getD (d.aE.toNat-1) ⟨#[]⟩) ((d::r).flatMap (bT (n+1))) else (d::r).flatMap (bT n))=_
     rw[if_neg (fun z=>z h0)]
    have HC:=al (wW (ll:=ll) (ab Pq) (ab Ti) (ab iu) (ab tK) (ab pC) (ab Yh) (ab Uw) (ab Hf2) (by rw[←nL];exact ab MS))
    have S7:=al nL
    clear h0 nL
    go_wp2_with fail
    refine (ab HC).mono ?_
    rintro e' w5 ⟨rfl,nH,jN⟩
    have ma:=al (show Pn W B bb dd (L++fg n 536870911 rs gs++((cl fs).take (i+1)).flatMap (dH n os)) n w5 by rw[ab yR,ab S7,←List.append_assoc];exact nH)
    have sH:=al ((ab Bk).trans jN)
    clear nH jN HC pD na Pq Bk Tu yR S7
    go_wp2
    go_roundg ((cl fs).length-(i+1))
    case measure=>have:=ab bz;have:=ab bu;omega
    case rel=>exact ⟨i+1,by go_num,rfl,ab bu,ma,sH⟩
   ·have e0:(d.aE != 0)=true:=by simpa using h0
    obtain ⟨dQ,gK⟩:=ab Hon h0
    obtain ⟨k,hk⟩:∃k:Nat,d.aE=(k:Int)+1:=⟨d.aE.toNat-1,by omega⟩
    have R8:k<os.length:=by omega
    obtain ⟨oh,oo,rfl,Ga,ZD⟩:=ab XF (by omega)
    obtain ⟨ot,Wq⟩:∃t,os[k]?=some t:=⟨_,List.getElem?_eq_getElem R8⟩
    have z0:X.cell? ⟨oh,oo+k,none⟩=some (.string ot):=((ab Pq).bU.cell (p:=⟨oh,oo+k,none⟩) Ga).trans (ZD _ _ (dT Wq))
    have nL:dH n os (d::r)=aY n [⟨#[111,110,101,111,102]⟩,⟨#[32]⟩,ot,⟨#[32,123]⟩]++(d::r).flatMap (bT (n+1))++aY n [⟨#[125]⟩]:=by
     unfold dH
     show (if d.aE≠0 then ct n ia (os.getD (d.aE.toNat-1) ⟨#[]⟩) ((d::r).flatMap (bT (n+1))) else (d::r).flatMap (bT n))=_
     rw[if_pos h0]
     unfold ct ia
     rw[show d.aE.toNat-1=k by omega,List.getD_eq_getElem?_getD,Wq]
     rfl
    have Ff:=ab MS
    have ep:(dH n os (d::r)).length=(aY n [⟨#[111,110,101,111,102]⟩,⟨#[32]⟩,ot,⟨#[32,123]⟩]).length+((d::r).flatMap (bT (n+1))).length+(aY n [⟨#[125]⟩]).length:=by rw[nL,zK,zK]
    rw[ep] at Ff
    have MF:Below X.heap.size X X.drew:=below_drewN (zE _ _) 1
    have HC:=al (qu (w:=X.drew) (I:=(d::r).flatMap (bT (n+1))) (a:=⟨#[111,110,101,111,102]⟩) (b:=ot) (f:=⟨132,#[],#[.pointer (some ⟨wr.heap.size,0,none⟩),.pointer (some ⟨w.heap.size,0,none⟩)]⟩) ((ab Pq).below MF) (ab Hd) (by have:=ab Hn;omega) (ab QB) (ab Gf) (ab MT) (fun vs w=>by kernel_rfl) (by omega) (fun w3 qR oy=>by
     have hR3:Rg w3 (.slice (some ⟨uh,0,none⟩) gl uc) (d::r) bb:=by
      obtain ⟨a1,a2,a3,a4,a5,a6,a7⟩:=ab Yh
      exact ⟨a1,a2,a3,a4,oy _ _ _ _ a7 (by intro z;subst z;have h9:=(ab Pq).dp;rw[a5] at h9;simp at h9) a5 (by decide),a6,a7⟩
     exact wW (ll:=ll) qR (ab Ti) (oy _ _ _ _ (ab SZ) (ab SY) (ab iu) (by decide)) (oy _ _ _ _ (ab pC) (ab O9) (ab tK) (by decide)) (ab pC) hR3 (ab Uw) (ab Hf2) (by rw[zK];omega)))
    have S7:=al nL
    have hT:(fun w':World=>w'.cell? ⟨w.heap.size,1,none⟩=some (.func (.func 84) #[] #[.pointer (some ⟨ll,0,none⟩),.pointer (some ⟨dd,0,none⟩)])∧w'.cell? ⟨w.heap.size+1,2,none⟩=some (.slice (some ⟨oh,oo,none⟩) os.length co)∧w'.cell? ⟨oh,oo+k,none⟩=some (.string ot)) X.drew:=⟨cell_of_row _ _ _ _ _ _ (ab tK),cell_of_row _ _ _ _ _ _ (ab HMX),z0⟩
    have k0:(0:Int)≤(k:Int):=zH _
    have k1:(k:Int)<(os.length:Int):=by omega
    have ob:os.length≤140737488355328:=ab Pa
    unfold Fv.val at HC
    simp only at HC
    rw[hk] at e0 y5
    clear h0 dQ gK hk ZD Wq nL Ff ep MF z0
    go_upto_region 8 with fail
    refine wp_region_any (by kernel_rfl) (bL (z:=99) (T:=fun w'=>w'.cell? ⟨w.heap.size,1,none⟩=some (.func (.func 84) #[] #[.pointer (some ⟨ll,0,none⟩),.pointer (some ⟨dd,0,none⟩)])∧w'.cell? ⟨w.heap.size+1,2,none⟩=some (.slice (some ⟨oh,oo,none⟩) os.length co)∧w'.cell? ⟨oh,oo+k,none⟩=some (.string ot)) _ _ _ _ ?_)
    try (change cd _ _ _ _ _ _ _ _ _ (World.drew _))
    refine aw 0 (.pointer (some ⟨w.heap.size,1,none⟩)) 29 rfl rfl (Or.inl ⟨by rfl,fun w' hw=>by obtain ⟨cP,cH,bN⟩:=hw;go_simp⟩) hT ?_
    simp only[Act.put,zL,zM,zN]
    refine aw 1 (.func (.func 84) #[] #[.pointer (some ⟨ll,0,none⟩),.pointer (some ⟨dd,0,none⟩)]) 30 rfl rfl (Or.inl ⟨by rfl,fun w' hw=>by obtain ⟨cP,cH,bN⟩:=hw;go_simp⟩) hT ?_
    simp only[Act.put,zL,zM,zN]
    refine aw 2 (.pointer (some ⟨w.heap.size+1,2,none⟩)) 31 rfl rfl (Or.inl ⟨by rfl,fun w' hw=>by obtain ⟨cP,cH,bN⟩:=hw;go_simp⟩) hT ?_
    simp only[Act.put,zL,zM,zN]
    refine aw 3 (.slice (some ⟨oh,oo,none⟩) os.length co) 32 rfl rfl (Or.inl ⟨by rfl,fun w' hw=>by obtain ⟨cP,cH,bN⟩:=hw;go_simp⟩) hT ?_
    simp only[Act.put,zL,zM,zN]
    refine aw 4 (.int .i64 ((k:Int)+1)) 33 rfl rfl (Or.inl ⟨by rfl,fun w' hw=>by obtain ⟨cP,cH,bN⟩:=hw;go_simp⟩) hT ?_
    simp only[Act.put,zL,zM,zN]
    refine aw 5 (.int .i64 (k:Int)) 34 rfl rfl (Or.inl ⟨by rfl,fun w' hw=>by obtain ⟨cP,cH,bN⟩:=hw;go_simp;exact IntWalk.i64_in _ (by omega)⟩) hT ?_
    simp only[Act.put,zL,zM,zN]
    refine aw 6 (.pointer (some ⟨oh,oo+k,none⟩)) 35 rfl rfl (Or.inl ⟨by rfl,fun w' hw=>by obtain ⟨cP,cH,bN⟩:=hw;go_simp⟩) hT ?_
    simp only[Act.put,zL,zM,zN]
    refine aw 7 (.string ot) 36 rfl rfl (Or.inl ⟨by rfl,fun w' hw=>by obtain ⟨cP,cH,bN⟩:=hw;go_simp⟩) hT ?_
    simp only[Act.put,zL,zM,zN]
    refine aw 8 (.func (.func 132) #[] #[.pointer (some ⟨wr.heap.size,0,none⟩),.pointer (some ⟨w.heap.size,0,none⟩)]) 37 rfl rfl (Or.inl ⟨by rfl,fun w' hw=>by obtain ⟨cP,cH,bN⟩:=hw;go_simp⟩) hT ?_
    simp only[Act.put,zL,zM,zN]
    refine aF 9 (by kernel_rfl) rfl (fun K hK=>?_)
    refine jS 38 30 rfl 84 #[] #[.pointer (some ⟨ll,0,none⟩),.pointer (some ⟨dd,0,none⟩)] (fun vs=>by kernel_rfl) #[.const (.string ⟨#[111,110,101,111,102]⟩),.tmp 36,.tmp 37] #[9,9,1] rfl (by first|rfl|simp[Act.eval]) #[.string ⟨#[111,110,101,111,102]⟩,.string ot,.func (.func 132) #[] #[.pointer (some ⟨wr.heap.size,0,none⟩),.pointer (some ⟨w.heap.size,0,none⟩)],.pointer (some ⟨ll,0,none⟩),.pointer (some ⟨dd,0,none⟩)] (by first|rfl|simp[Act.eval]) (ab HC) (by rfl) ?_
    rintro e' w5 ⟨rfl,nH,jN⟩
    have jv:Kp bb X w5:=fun d cs ty fr h1 h2 h3=>jN d cs ty fr h1 h2 h3
    have ma:=al (show Pn W B bb dd (L++fg n 536870911 rs gs++((cl fs).take (i+1)).flatMap (dH n os)) n w5 by rw[ab yR,ab S7,←List.append_assoc];exact nH)
    have sH:=al ((ab Bk).trans jv)
    have uV:(fun w':World=>w'.cell? ⟨w.heap.size,1,none⟩=some (.func (.func 84) #[] #[.pointer (some ⟨ll,0,none⟩),.pointer (some ⟨dd,0,none⟩)])∧w'.cell? ⟨w.heap.size+1,2,none⟩=some (.slice (some ⟨oh,oo,none⟩) os.length co)∧w'.cell? ⟨oh,oo+k,none⟩=some (.string ot)) w5:=⟨cell_of_row _ _ _ _ _ _ (jv _ _ _ _ (ab pC) (ab tK) (by decide)),cell_of_row _ _ _ _ _ _ (jv _ _ _ _ (ab Uk) (ab HMX) (by decide)),(nH.bU.cell (p:=⟨oh,oo+k,none⟩) Ga).trans (((ab Pq).bU.cell (p:=⟨oh,oo+k,none⟩) Ga).symm.trans hT.2.2)⟩
    refine ⟨_,rfl,hK _ _ ⟨fun _=>uV,?_⟩⟩
    clear hK K hT uV nH jN jv HC pD na Pq Bk Tu yR S7
    simp only[Act.put,zL,zM,zN]
    refine a8 (by kernel_rfl) ?_
    go_wp2
    go_roundg ((cl fs).length-(i+1))
    case measure=>have:=ab bz;have:=ab bu;omega
    case rel=>exact ⟨i+1,by go_num,rfl,ab bu,ma,sH⟩
  ·obtain rfl:i=(cl fs).length:=by omega
   have vH:=ab pD
   rw[List.take_length] at vH
   have IG:Kp bb V wr:=(ab fI).trans (ab na)
   have WY:=IG _ _ _ _ (ab Uk) (ab Yu) (by decide)
   have T1:=IG _ _ _ _ (ab pC) (ab Tv) (by decide)
   have m3:wr.cell? ⟨w.heap.size+1,3,none⟩=some (.slice am ms.length dk):=cell_of_row _ _ _ _ _ _ WY
   have m4:wr.cell? ⟨w.heap.size+1,4,none⟩=some (.slice ae es.length dc):=cell_of_row _ _ _ _ _ _ WY
   have p0:wr.cell? ⟨w.heap.size,0,none⟩=some (bZ bb dd):=cell_of_row _ _ _ _ _ _ T1
   have p1:wr.cell? ⟨w.heap.size,1,none⟩=some (cy ll dd):=cell_of_row _ _ _ _ _ _ T1
   have p2:wr.cell? ⟨w.heap.size,2,none⟩=some (cq bb):=cell_of_row _ _ _ _ _ _ T1
   have HC:=al (ab PA wr _ vH (IG _ _ _ _ (ab Gf) (ab Tn) (by decide)) (by simp only[zK];have:=ab qw;omega))
   have Uv:=al ((ab JY).trans IG)
   unfold eO bZ cy cq at HC
   unfold bZ at p0
   unfold cy at p1
   unfold cq at p2
   clear vH IG WY T1 pD na
   go_wp2_with fail
   refine (ab HC).mono ?_
   rintro e' w6 ⟨rfl,NV,P5⟩
   have HE:=al (show vI W B bb dd (L++ck (f+1) n (.mk nm fs os ms es rs gs)) n w (.returned (.tuple #[])) w6 from ⟨rfl,by unfold ck;unfold pW at NV;simpa only[List.append_assoc] using NV,(ab Uv).trans P5⟩)
   clear NV P5 HC Uv
   go_wp2
   refine bodyPost_ret (results_none rfl _ _ _) rfl ?_
   exact ab HE
end Go.Proofs.YtichhjfjcinjgaaGreatDoor

import Derived.Test.YtichhjfjcinjgaaGreatDoorM18
set_option maxHeartbeats 2000000
set_option maxRecDepth 100000
namespace Go.Proofs.YtichhjfjcinjgaaGreatDoor
open Go.RowKit
attribute [local go_sem ↓] Go.wp_at_zero Go.wp_at_succ
def aL:ByteArray:=⟨#[109,101,115,115,97,103,101]⟩
def ku:ByteArray:=⟨#[101,110,117,109]⟩
def gU:ByteArray:=⟨#[111,110,101,111,102]⟩
def Ms.nm:Ms→ByteArray
 |.mk nm _ _ _ _ _ _=>nm
def cl (n:Nat) (a b:ByteArray) (I:List Nat):List Nat:=aV n [a,⟨#[32]⟩,b,⟨#[32,123]⟩]++I++aV n [⟨#[125]⟩]
def dD (n:Nat) (os:List ByteArray) (G:List Fd):List Nat:=match G with
 |[]=>[]
 |d::_=>if d.aE≠0 then cl n gU (os.getD (d.aE.toNat-1) ⟨#[]⟩) (G.flatMap (bR (n+1))) else G.flatMap (bR n)
noncomputable def jy (n:Nat) (e:En):List Nat:=cl n ku e.name (fV (n+1) e)
noncomputable def cd:Nat→Nat→Ms→List Nat
 |0,_,_=>[]
 |f+1,n,.mk _ fs os ms es rs gs=>eW n 536870911 rs gs++(cj fs).flatMap (dD n os)++(ms.flatMap (fun m=>cl n aL m.nm (cd f (n+1) m))++es.flatMap (jy n))
noncomputable def pB (f n:Nat) (ms:List Ms) (es:List En):List Nat:=ms.flatMap (fun m=>cl n aL m.nm (cd f (n+1) m))++es.flatMap (jy n)
structure IV (e:En):Prop where
 r1:e.res.length≤4096
 r2:∀r ∈ e.res,(-2147483648≤r.1∧r.1≤2147483647)∧(-2147483648≤r.2∧r.2≤2147483647)
 g1:e.gone.length≤4096
 g2:∀s ∈ e.gone,s.size≤1048576
 v2:∀v ∈ e.aQ,-2147483648≤v.2∧v.2≤2147483647
def Jy:Nat→Ms→Prop
 |0,_=>False
 |f+1,.mk _ fs os ms es rs gs=>(fs.length≤4096∧rs.length≤4096∧gs.length≤4096)∧(∀d ∈ fs,((0≤d.num∧d.num≤2147483647)∧d.key.size≤255∧d.ty.size≤255)∧(d.aE≠0→1≤d.aE∧d.aE≤os.length))∧(∀r ∈ rs,(-2147483648≤r.1∧r.1≤2147483647)∧(-2147483648≤r.2∧r.2≤2147483647))∧(∀s ∈ gs,s.size≤1048576)∧(∀m ∈ ms,Jy f m)∧∀e ∈ es,IV e
def Lp (f:Nat):Prop:=∀(W w:World) (B bb dd ll:Nat) (L:List Nat) (n:Nat) (m:Ms) vf vo vm ve vr vg nm fs os ms es rs gs cm ce,Pn W B bb dd L n w→iY W→jw W→W.heap.size≤dd→ll≠bb→ll≠dd→n+1+f≤500→w.heap[ll]?=some (.cells #[bX bb dd] 85 (0,0))→Ln W m vf vo vm ve vr vg nm fs os ms es rs gs cm ce→Jy f m→L.length+(cd f n m).length≤1099511627776 →
 Calls Tryz.prog 89 #[.agg (eI bb dd ll),.agg #[.string nm,vf,vo,vm,ve,vr,vg]] w (uU W B bb dd (L++cd f n m) n w)
theorem Kj {W w:World}{B bb dd ll pp dp:Nat}{L:List Nat}{n:Nat} (h:Pn W B bb dd L n w) (hP:iY W) (hF:jw W) {e:En}{vv vr vg:Value} (hv:Rl W vv e.aQ.length (qM e.aQ)) (hr:Rl W vr e.res.length (kO e.res)) (hg:Rl W vg e.gone.length (bY e.gone)) (ho:IV e) (hp:w.heap[pp]?=some (.cells (eI bb dd ll) 89 (0,0))) (hd:w.heap[dp]?=some (.cells #[.string e.name,vv,vr,vg] 67 (0,0))) (hl:L.length+(fV n e).length≤1099511627776) :
  Calls Tryz.prog 90 #[.pointer (some ⟨pp,0,none⟩),.pointer (some ⟨dp,0,none⟩)] w (uU W B bb dd (L++fV n e) n w):=by
 have HC:=al (Bd (ll:=ll) h hP hF hv hr hg ho.r1 ho.r2 ho.g1 ho.g2 ho.v2 hl)
 obtain ⟨c0,c1,c2,c3⟩:=NZ hd
 unfold eI at hp HC
 have p0:w.cell? ⟨pp,0,none⟩=some (bX bb dd):=cell_of_row _ _ _ _ _ _ hp
 have p1:w.cell? ⟨pp,1,none⟩=some (ct ll dd):=cell_of_row _ _ _ _ _ _ hp
 have p2:w.cell? ⟨pp,2,none⟩=some (ck bb):=cell_of_row _ _ _ _ _ _ hp
 unfold bX ct ck at HC
 unfold bX at p0
 unfold ct at p1
 unfold ck at p2
 clear h hP hF hv hr hg ho hp hd hl
 go_enter Tryz.func90,Tryz.ntmps90
 go_wp2_with fail
 refine (ab HC).mono ?_
 rintro e' w1 ⟨rfl,pD,lO⟩
 have HE:=al (show uU W B bb dd (L++fV n e) n w (.returned (.tuple #[])) w1 from ⟨rfl,pD,lO⟩)
 clear pD lO HC
 go_wp2
 refine bodyPost_ret (results_none rfl _ _ _) rfl ?_
 exact ab HE
theorem Kk {W w:World}{B bb dd ll pp mp n:Nat}{L:List Nat}{nm:ByteArray}{vf vo vm ve vr vg:Value} (hp:w.heap[pp]?=some (.cells (eI bb dd ll) 89 (0,0))) (hm:w.heap[mp]?=some (.cells #[.string nm,vf,vo,vm,ve,vr,vg] 46 (0,0)))
  (hc:Calls Tryz.prog 89 #[.agg (eI bb dd ll),.agg #[.string nm,vf,vo,vm,ve,vr,vg]] w (uU W B bb dd L n w)) :
  Calls Tryz.prog 88 #[.pointer (some ⟨pp,0,none⟩),.pointer (some ⟨mp,0,none⟩)] w (uU W B bb dd L n w):=by
 have HC:=al hc
 have c0:w.cell? ⟨mp,0,none⟩=some (.string nm):=cell_of_row _ _ _ _ _ _ hm
 have c1:w.cell? ⟨mp,1,none⟩=some vf:=cell_of_row _ _ _ _ _ _ hm
 have c2:w.cell? ⟨mp,2,none⟩=some vo:=cell_of_row _ _ _ _ _ _ hm
 have c3:w.cell? ⟨mp,3,none⟩=some vm:=cell_of_row _ _ _ _ _ _ hm
 have c4:w.cell? ⟨mp,4,none⟩=some ve:=cell_of_row _ _ _ _ _ _ hm
 have c5:w.cell? ⟨mp,5,none⟩=some vr:=cell_of_row _ _ _ _ _ _ hm
 have c6:w.cell? ⟨mp,6,none⟩=some vg:=cell_of_row _ _ _ _ _ _ hm
 unfold eI at hp HC
 have p0:w.cell? ⟨pp,0,none⟩=some (bX bb dd):=cell_of_row _ _ _ _ _ _ hp
 have p1:w.cell? ⟨pp,1,none⟩=some (ct ll dd):=cell_of_row _ _ _ _ _ _ hp
 have p2:w.cell? ⟨pp,2,none⟩=some (ck bb):=cell_of_row _ _ _ _ _ _ hp
 unfold bX ct ck at HC
 unfold bX at p0
 unfold ct at p1
 unfold ck at p2
 clear hp hm hc
 go_enter Tryz.func88,Tryz.ntmps88
 go_wp2_with fail
 refine (ab HC).mono ?_
 rintro e' w1 ⟨rfl,pD,lO⟩
 have HE:=al (show uU W B bb dd L n w (.returned (.tuple #[])) w1 from ⟨rfl,pD,lO⟩)
 clear pD lO HC
 go_wp2
 refine bodyPost_ret (results_none rfl _ _ _) rfl ?_
 exact ab HE
theorem wk (f:Nat) (ih:Lp f) {W w:World}{B bb dd ll:Nat}{L:List Nat}{n:Nat} (h:Pn W B bb dd L n w) (hP:iY W) (hF:jw W) (hd:W.heap.size≤dd) (fC:ll≠bb) (Dk:ll≠dd) (hn:n+2+f≤500) (fJ:w.heap[ll]?=some (.cells #[bX bb dd] 85 (0,0))) {vm ve:Value}{ms:List Ms}{es:List En}{cm ce:List Value} (hm:Rl W vm ms.length cm) (ej:s8 W cm ms) (he:Rl W ve es.length ce) (fl:u9 W ce es)
  (G0:∀m ∈ ms,Jy f m) (LY:∀e ∈ es,IV e) (hl:L.length+(pB f n ms es).length≤1099511627776) :
  Calls Tryz.prog 45 #[.agg (eI bb dd ll),vm,ve] w (uU W B bb dd (L++pB f n ms es) n w):=by
 obtain ⟨am,dh,rfl,Jp,AY⟩:=hm
 obtain ⟨ae,dc,rfl,iG,AZ⟩:=he
 have kQ:Below w.heap.size w (w.alloc (.cells (eI bb dd ll) 89)):=(zE _ _).alloc (zD _) _
 have k1:=aK w (.cells (eI bb dd ll) 89)
 have Nr:=h.bi.lt.2
 have Wb:=(zA h.dp).1
 obtain ⟨V,KS⟩:∃V,w.alloc (.cells (eI bb dd ll) 89)=V:=⟨_,rfl⟩
 rw[KS] at kQ k1
 have I7:=al (h.below kQ)
 have j9:=al (Kp.refl bb V)
 have SV:=al k1
 have SM:=al ((kQ.block _ (zA fJ).1).trans fJ)
 have Jb:=al (show Kp bb w V from Kp.below kQ)
 have o3:=al (show w.heap.size≠bb by omega)
 have Ow:=al (show w.heap.size≠dd by omega)
 have W8:=al AY
 have W9:=al AZ
 have Xn:=al ej
 have Xv:=al fl
 have Hmo:=al G0
 have Heo:=al LY
 have Hl:=al hl
 have SH:=al hP
 have HFF:=al hF
 have Hd:=al hd
 have Fy:=al fC
 have Mj:=al Dk
 have Hn:=al hn
 unfold eI bX ct ck at KS
 unfold eI bX ct ck
 clear h hP hF hd fC Dk hn fJ AY AZ ej fl G0 LY hl kQ k1 Nr Wb
 go_enter Tryz.func45,Tryz.ntmps45
 go_wp2_with fail
 clear KS
 go_loopg [7,12] ms.length (fun gk _ v12 wr=>∃(i:Nat),v12=.int .i64 (i:Int)∧gk=ms.length-i∧i≤ms.length∧Hid (Pn W B bb dd (L++(ms.take i).flatMap (fun m=>cl n aL m.nm (cd f (n+1) m))) n wr)∧Hid (Kp bb V wr))
 case atStart=>exact ⟨0,rfl,rfl,by omega,by rw[List.take_zero,List.flatMap_nil,List.append_nil];exact I7,j9⟩
 case round =>
  obtain ⟨i,rfl,aU,hi,fz,fA⟩:=hrel
  have bz:=al aU
  clear aU I7 j9
  by_cases aM:i<ms.length
  ·obtain ⟨g,o,rfl,hg,hc⟩:=ab W8 (by omega)
   have hr:=List.getElem?_eq_getElem aM
   have cG:=List.getElem_mem aM
   obtain ⟨m,yv⟩:∃m,ms[i]=m:=⟨_,rfl⟩
   rw[yv] at hr cG
   obtain ⟨vf,vo,vm,ve,vr,vg,nm,fs,os,qH,wM,rs,gs,Ix,Jv,dQ,hV⟩:=(ab Xn).at i m hr
   have B7:m.nm=nm:=by rw[hV.is];rfl
   obtain ⟨WU,WI,rfl⟩:∃a c,vf=.slice a fs.length c:=(by obtain ⟨a,c,h,_⟩:=hV.hf;exact ⟨a,c,h⟩)
   obtain ⟨WS,WG,rfl⟩:∃a c,vo=.slice a os.length c:=(by obtain ⟨a,c,h,_⟩:=hV.ho;exact ⟨a,c,h⟩)
   obtain ⟨WT,WH,rfl⟩:∃a c,vm=.slice a qH.length c:=(by obtain ⟨a,c,h,_⟩:=hV.hm;exact ⟨a,c,h⟩)
   obtain ⟨WV,WJ,rfl⟩:∃a c,ve=.slice a wM.length c:=(by obtain ⟨a,c,h,_⟩:=hV.he;exact ⟨a,c,h⟩)
   obtain ⟨Ob,N4,rfl⟩:∃a c,vr=.slice a rs.length c:=(by obtain ⟨a,c,h,_⟩:=hV.hr;exact ⟨a,c,h⟩)
   obtain ⟨Oc,N5,rfl⟩:∃a c,vg=.slice a gs.length c:=(by obtain ⟨a,c,h,_⟩:=hV.hg;exact ⟨a,c,h⟩)
   have x0:=((ab fz).bV.cell (p:=⟨g,o+(i*7+0),none⟩) hg).trans (hc _ _ (show cm[i*7+0]?=_ from (by have e:=congrArg (fun t=>t[0]?) dQ;simpa[List.getElem?_take,List.getElem?_drop] using e)))
   rw[Nat.add_zero] at x0
   have x1:=((ab fz).bV.cell (p:=⟨g,o+(i*7+1),none⟩) hg).trans (hc _ _ (show cm[i*7+1]?=_ from (by have e:=congrArg (fun t=>t[1]?) dQ;simpa[List.getElem?_take,List.getElem?_drop] using e)))
   rw[←Nat.add_assoc] at x1
   have x2:=((ab fz).bV.cell (p:=⟨g,o+(i*7+2),none⟩) hg).trans (hc _ _ (show cm[i*7+2]?=_ from (by have e:=congrArg (fun t=>t[2]?) dQ;simpa[List.getElem?_take,List.getElem?_drop] using e)))
   rw[←Nat.add_assoc] at x2
   have x3:=((ab fz).bV.cell (p:=⟨g,o+(i*7+3),none⟩) hg).trans (hc _ _ (show cm[i*7+3]?=_ from (by have e:=congrArg (fun t=>t[3]?) dQ;simpa[List.getElem?_take,List.getElem?_drop] using e)))
   rw[←Nat.add_assoc] at x3
   have x4:=((ab fz).bV.cell (p:=⟨g,o+(i*7+4),none⟩) hg).trans (hc _ _ (show cm[i*7+4]?=_ from (by have e:=congrArg (fun t=>t[4]?) dQ;simpa[List.getElem?_take,List.getElem?_drop] using e)))
   rw[←Nat.add_assoc] at x4
   have x5:=((ab fz).bV.cell (p:=⟨g,o+(i*7+5),none⟩) hg).trans (hc _ _ (show cm[i*7+5]?=_ from (by have e:=congrArg (fun t=>t[5]?) dQ;simpa[List.getElem?_take,List.getElem?_drop] using e)))
   rw[←Nat.add_assoc] at x5
   have x6:=((ab fz).bV.cell (p:=⟨g,o+(i*7+6),none⟩) hg).trans (hc _ _ (show cm[i*7+6]?=_ from (by have e:=congrArg (fun t=>t[6]?) dQ;simpa[List.getElem?_take,List.getElem?_drop] using e)))
   rw[←Nat.add_assoc] at x6
   have j6:(ms.take (i+1)).flatMap (fun m=>cl n aL m.nm (cd f (n+1) m))=(ms.take i).flatMap (fun m=>cl n aL m.nm (cd f (n+1) m))++(fun m=>cl n aL m.nm (cd f (n+1) m)) m:=by
    obtain ⟨G5,rfl⟩:=zB hr
    rw[List.take_succ_eq_append_getElem G5,List.flatMap_append]
    simp
   have hlen:(L++(ms.take i).flatMap (fun m=>cl n aL m.nm (cd f (n+1) m))).length+(cl n aL m.nm (cd f (n+1) m)).length≤1099511627776:=by
    have e2:ms.flatMap (fun m=>cl n aL m.nm (cd f (n+1) m))=(ms.take (i+1)).flatMap (fun m=>cl n aL m.nm (cd f (n+1) m))++(ms.drop (i+1)).flatMap (fun m=>cl n aL m.nm (cd f (n+1) m)):=by rw[←List.flatMap_append,List.take_append_drop]
    have h1:=congrArg List.length e2
    rw[j6,zK,zK] at h1
    have h2:=ab Hl
    unfold pB at h2
    rw[zK] at h2
    simp only[zK] at h1 h2 ⊢
    omega
   have wu:(cl n aL m.nm (cd f (n+1) m)).length=(aV n [aL,⟨#[32]⟩,m.nm,⟨#[32,123]⟩]).length+(cd f (n+1) m).length+(aV n [⟨#[125]⟩]).length:=by
    unfold cl
    rw[zK,zK]
   have fg:=aK wr (.cells #[.string nm,.slice WU fs.length WI,.slice WS os.length WG,.slice WT qH.length WH,.slice WV wM.length WJ,.slice Ob rs.length N4,.slice Oc gs.length N5] 46)
   have bJ:Below wr.heap.size wr (wr.alloc (.cells #[.string nm,.slice WU fs.length WI,.slice WS os.length WG,.slice WT qH.length WH,.slice WV wM.length WJ,.slice Ob rs.length N4,.slice Oc gs.length N5] 46)):=(zE _ _).alloc (zD _) _
   obtain ⟨X,hX⟩:∃X,wr.alloc (.cells #[.string nm,.slice WU fs.length WI,.slice WS os.length WG,.slice WT qH.length WH,.slice WV wM.length WJ,.slice Ob rs.length N4,.slice Oc gs.length N5] 46)=X:=⟨_,rfl⟩
   rw[hX] at fg bJ
   have A0:=(ab fz).below bJ
   have EC:=(ab fA).trans (Kp.below bJ)
   have tf:=al (EC _ _ _ _ (ab o3) (ab SV) (by decide))
   have P3:=al (EC _ _ _ _ (ab Fy) (ab SM) (by decide))
   have hJ:=al fg
   have Sk:=al (show wr.heap.size≠bb by have:=(ab fz).bi.lt.2;omega)
   have Sj:=al (show wr.heap.size≠dd by have:=(zA (ab fz).dp).1;omega)
   have pQ:=al (wu ▸ hlen)
   have p1:X.cell? ⟨w.heap.size,1,none⟩=some (.func (.func 84) #[] #[.pointer (some ⟨ll,0,none⟩),.pointer (some ⟨dd,0,none⟩)]):=cell_of_row _ _ _ _ _ _ (ab tf)
   have n0:X.cell? ⟨wr.heap.size,0,none⟩=some (.string nm):=cell_of_row _ _ _ _ _ _ fg
   have JA:=al (pP (I:=(cd f (n+1) m)) (a:=aL) (b:=m.nm) (f:=⟨88,#[],#[.pointer (some ⟨w.heap.size,0,none⟩),.pointer (some ⟨wr.heap.size,0,none⟩)]⟩) A0 (ab Hd) (by have:=ab Hn;omega) (ab P3) (ab Fy) (ab Mj) (fun vs w=>by kernel_rfl) (by have:=ab pQ;omega) (fun w3 qu nO=>(Kk (nO _ _ _ _ (ab o3) (ab Ow) (ab tf) (by decide)) (nO _ _ _ _ (ab Sk) (ab Sj) (ab hJ) (by decide)) (by
     have:=ih W w3 B bb dd ll _ (n+1) m _ _ _ _ _ _ nm fs os qH wM rs gs Ix Jv qu (ab SH) (ab HFF) (ab Hd) (ab Fy) (ab Mj) (by have:=ab Hn;omega) (nO _ _ _ _ (ab Fy) (ab Mj) (ab P3) (by decide)) hV (ab Hmo m cG) (by have:=ab pQ;rw[zK];omega)
     exact this))))
   have yi:=al j6
   have Fb:Hid ((fun m=>cl n aL m.nm (cd f (n+1) m)) m=aV n [⟨#[109,101,115,115,97,103,101]⟩,⟨#[32]⟩,nm,⟨#[32,123]⟩]++(cd f (n+1) m)++aV n [⟨#[125]⟩]):=by show cl n aL m.nm (cd f (n+1) m)=_;unfold cl aL;rw[B7]
   have AN:=al EC
   have i0:(0:Int)≤(i:Int):=zH _
   have i1:(i:Int)<(ms.length:Int):=by omega
   have bu:=al aM
   unfold Fv.val aL at JA
   simp only at JA
   rw[B7] at JA
   clear hc hr cG yv j6 hlen wu fg bJ A0 EC aM dQ hV B7
   go_wp2_with fail
   refine (ab JA).mono ?_
   rintro e' w5 ⟨rfl,mZ,jx⟩
   have lL:=al (show Pn W B bb dd (L++(ms.take (i+1)).flatMap (fun m=>cl n aL m.nm (cd f (n+1) m))) n w5 by rw[ab yi,ab Fb,←List.append_assoc];exact mZ)
   have sd:=al ((ab AN).trans jx)
   clear mZ jx JA fz fA AN yi Fb
   go_wp2
   go_roundg (ms.length-(i+1))
   case measure=>have:=ab bz;have:=ab bu;omega
   case rel=>exact ⟨i+1,by go_num,rfl,ab bu,lL,sd⟩
  ·obtain rfl:i=ms.length:=by omega
   have uT:=ab fz
   rw[List.take_length] at uT
   have HPe:=al uT
   have HKe:=al (ab fA)
   clear uT fz fA bz
   go_wp2
   go_loopg [9,25] es.length (fun gk _ v25 wr=>∃(i:Nat),v25=.int .i64 (i:Int)∧gk=es.length-i∧i≤es.length∧Hid (Pn W B bb dd (L++ms.flatMap (fun m=>cl n aL m.nm (cd f (n+1) m))++(es.take i).flatMap (jy n)) n wr)∧Hid (Kp bb V wr))
   case atStart=>exact ⟨0,rfl,rfl,by omega,by rw[List.take_zero,List.flatMap_nil,List.append_nil];exact HPe,HKe⟩
   case round =>
    obtain ⟨i,rfl,aU,hi,fz,fA⟩:=hrel
    have bz:=al aU
    clear aU HPe HKe
    by_cases aM:i<es.length
    ·obtain ⟨g,o,rfl,hg,hc⟩:=ab W9 (by omega)
     have hr:=List.getElem?_eq_getElem aM
     have cG:=List.getElem_mem aM
     obtain ⟨m,yv⟩:∃m,es[i]=m:=⟨_,rfl⟩
     rw[yv] at hr cG
     obtain ⟨vv,vr,vg,dQ,QS,De,Df⟩:=(ab Xv).at i m hr
     obtain ⟨WR,WE,rfl⟩:∃a c,vv=.slice a m.aQ.length c:=(by obtain ⟨a,c,h,_⟩:=QS;exact ⟨a,c,h⟩)
     obtain ⟨Ob,N4,rfl⟩:∃a c,vr=.slice a m.res.length c:=(by obtain ⟨a,c,h,_⟩:=De;exact ⟨a,c,h⟩)
     obtain ⟨Oc,N5,rfl⟩:∃a c,vg=.slice a m.gone.length c:=(by obtain ⟨a,c,h,_⟩:=Df;exact ⟨a,c,h⟩)
     have x0:=((ab fz).bV.cell (p:=⟨g,o+(i*4+0),none⟩) hg).trans (hc _ _ (show ce[i*4+0]?=_ from (by have e:=congrArg (fun t=>t[0]?) dQ;simpa[List.getElem?_take,List.getElem?_drop] using e)))
     rw[Nat.add_zero] at x0
     have x1:=((ab fz).bV.cell (p:=⟨g,o+(i*4+1),none⟩) hg).trans (hc _ _ (show ce[i*4+1]?=_ from (by have e:=congrArg (fun t=>t[1]?) dQ;simpa[List.getElem?_take,List.getElem?_drop] using e)))
     rw[←Nat.add_assoc] at x1
     have x2:=((ab fz).bV.cell (p:=⟨g,o+(i*4+2),none⟩) hg).trans (hc _ _ (show ce[i*4+2]?=_ from (by have e:=congrArg (fun t=>t[2]?) dQ;simpa[List.getElem?_take,List.getElem?_drop] using e)))
     rw[←Nat.add_assoc] at x2
     have x3:=((ab fz).bV.cell (p:=⟨g,o+(i*4+3),none⟩) hg).trans (hc _ _ (show ce[i*4+3]?=_ from (by have e:=congrArg (fun t=>t[3]?) dQ;simpa[List.getElem?_take,List.getElem?_drop] using e)))
     rw[←Nat.add_assoc] at x3
     have j6:(es.take (i+1)).flatMap (jy n)=(es.take i).flatMap (jy n)++(jy n) m:=by
      obtain ⟨G5,rfl⟩:=zB hr
      rw[List.take_succ_eq_append_getElem G5,List.flatMap_append]
      simp
     have hlen:(L++ms.flatMap (fun m=>cl n aL m.nm (cd f (n+1) m))++(es.take i).flatMap (jy n)).length+(cl n ku m.name (fV (n+1) m)).length≤1099511627776:=by
      have e2:es.flatMap (jy n)=(es.take (i+1)).flatMap (jy n)++(es.drop (i+1)).flatMap (jy n):=by rw[←List.flatMap_append,List.take_append_drop]
      have h1:=congrArg List.length e2
      rw[j6,zK,zK] at h1
      have h2:=ab Hl
      unfold pB at h2
      rw[zK] at h2
      simp only[zK] at h1 h2 ⊢
      have h3:(jy n m).length=(cl n ku m.name (fV (n+1) m)).length:=rfl
      omega
     have wu:(cl n ku m.name (fV (n+1) m)).length=(aV n [ku,⟨#[32]⟩,m.name,⟨#[32,123]⟩]).length+(fV (n+1) m).length+(aV n [⟨#[125]⟩]).length:=by
      unfold cl
      rw[zK,zK]
     have fg:=aK wr (.cells #[.string m.name,.slice WR m.aQ.length WE,.slice Ob m.res.length N4,.slice Oc m.gone.length N5] 67)
     have bJ:Below wr.heap.size wr (wr.alloc (.cells #[.string m.name,.slice WR m.aQ.length WE,.slice Ob m.res.length N4,.slice Oc m.gone.length N5] 67)):=(zE _ _).alloc (zD _) _
     obtain ⟨X,hX⟩:∃X,wr.alloc (.cells #[.string m.name,.slice WR m.aQ.length WE,.slice Ob m.res.length N4,.slice Oc m.gone.length N5] 67)=X:=⟨_,rfl⟩
     rw[hX] at fg bJ
     have A0:=(ab fz).below bJ
     have EC:=(ab fA).trans (Kp.below bJ)
     have tf:=al (EC _ _ _ _ (ab o3) (ab SV) (by decide))
     have P3:=al (EC _ _ _ _ (ab Fy) (ab SM) (by decide))
     have hJ:=al fg
     have Sk:=al (show wr.heap.size≠bb by have:=(ab fz).bi.lt.2;omega)
     have Sj:=al (show wr.heap.size≠dd by have:=(zA (ab fz).dp).1;omega)
     have pQ:=al (wu ▸ hlen)
     have p1:X.cell? ⟨w.heap.size,1,none⟩=some (.func (.func 84) #[] #[.pointer (some ⟨ll,0,none⟩),.pointer (some ⟨dd,0,none⟩)]):=cell_of_row _ _ _ _ _ _ (ab tf)
     have n0:X.cell? ⟨wr.heap.size,0,none⟩=some (.string m.name):=cell_of_row _ _ _ _ _ _ fg
     have JA:=al (pP (I:=(fV (n+1) m)) (a:=ku) (b:=m.name) (f:=⟨90,#[],#[.pointer (some ⟨w.heap.size,0,none⟩),.pointer (some ⟨wr.heap.size,0,none⟩)]⟩) A0 (ab Hd) (by have:=ab Hn;omega) (ab P3) (ab Fy) (ab Mj) (fun vs w=>by kernel_rfl) (by have:=ab pQ;omega) (fun w3 qu nO=>(Kj qu (ab SH) (ab HFF) QS De Df (ab Heo m cG) (nO _ _ _ _ (ab o3) (ab Ow) (ab tf) (by decide)) (nO _ _ _ _ (ab Sk) (ab Sj) (ab hJ) (by decide)) (by have:=ab pQ;rw[zK];omega))))
     have yi:=al j6
     have Fb:Hid ((jy n) m=aV n [⟨#[101,110,117,109]⟩,⟨#[32]⟩,m.name,⟨#[32,123]⟩]++(fV (n+1) m)++aV n [⟨#[125]⟩]):=rfl
     have AN:=al EC
     have i0:(0:Int)≤(i:Int):=zH _
     have i1:(i:Int)<(es.length:Int):=by omega
     have bu:=al aM
     unfold Fv.val ku at JA
     simp only at JA
     clear hc hr cG yv j6 hlen wu fg bJ A0 EC aM dQ QS De Df
     go_wp2_with fail
     refine (ab JA).mono ?_
     rintro e' w5 ⟨rfl,mZ,jx⟩
     have lL:=al (show Pn W B bb dd (L++ms.flatMap (fun m=>cl n aL m.nm (cd f (n+1) m))++(es.take (i+1)).flatMap (jy n)) n w5 by rw[ab yi,ab Fb,←List.append_assoc];exact mZ)
     have sd:=al ((ab AN).trans jx)
     clear mZ jx JA fz fA AN yi Fb
     go_wp2
     go_roundg (es.length-(i+1))
     case measure=>have:=ab bz;have:=ab bu;omega
     case rel=>exact ⟨i+1,by go_num,rfl,ab bu,lL,sd⟩
    ·obtain rfl:i=es.length:=by omega
     have L4:=ab fz
     rw[List.take_length,List.append_assoc] at L4
     have HE:=al (show uU W B bb dd (L++pB f n ms es) n w (.returned (.tuple #[])) wr from ⟨rfl,L4,(ab Jb).trans (ab fA)⟩)
     clear L4 fz fA
     go_wp2
     refine bodyPost_ret (results_none rfl _ _ _) rfl ?_
     exact ab HE
end Go.Proofs.YtichhjfjcinjgaaGreatDoor

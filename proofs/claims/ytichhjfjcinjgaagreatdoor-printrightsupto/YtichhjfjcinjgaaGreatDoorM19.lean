import Derived.Test.YtichhjfjcinjgaaGreatDoorM18
set_option maxHeartbeats 2000000
set_option maxRecDepth 100000
namespace Go.Proofs.YtichhjfjcinjgaaGreatDoor
open Go.RowKit
attribute [local go_sem ↓] Go.wp_at_zero Go.wp_at_succ
def aL:ByteArray:=⟨#[109,101,115,115,97,103,101]⟩
def kz:ByteArray:=⟨#[101,110,117,109]⟩
def gW:ByteArray:=⟨#[111,110,101,111,102]⟩
def Ms.nm:Ms→ByteArray
 |.mk nm _ _ _ _ _ _=>nm
def cn (n:Nat) (a b:ByteArray) (I:List Nat):List Nat:=aV n [a,⟨#[32]⟩,b,⟨#[32,123]⟩]++I++aV n [⟨#[125]⟩]
def dF (n:Nat) (os:List ByteArray) (G:List Fd):List Nat:=match G with
 |[]=>[]
 |d::_=>if d.aE≠0 then cn n gW (os.getD (d.aE.toNat-1) ⟨#[]⟩) (G.flatMap (bS (n+1))) else G.flatMap (bS n)
noncomputable def jB (n:Nat) (e:En):List Nat:=cn n kz e.name (fX (n+1) e)
noncomputable def cj:Nat→Nat→Ms→List Nat
 |0,_,_=>[]
 |f+1,n,.mk _ fs os ms es rs gs=>fa n 536870911 rs gs++(ck fs).flatMap (dF n os)++(ms.flatMap (fun m=>cn n aL m.nm (cj f (n+1) m))++es.flatMap (jB n))
noncomputable def pF (f n:Nat) (ms:List Ms) (es:List En):List Nat:=ms.flatMap (fun m=>cn n aL m.nm (cj f (n+1) m))++es.flatMap (jB n)
structure I7 (e:En):Prop where
 r1:e.res.length≤4096
 r2:∀r ∈ e.res,(-2147483648≤r.1∧r.1≤2147483647)∧(-2147483648≤r.2∧r.2≤2147483647)
 g1:e.gone.length≤4096
 g2:∀s ∈ e.gone,s.size≤1048576
 v2:∀v ∈ e.aQ,-2147483648≤v.2∧v.2≤2147483647
def JH:Nat→Ms→Prop
 |0,_=>False
 |f+1,.mk _ fs os ms es rs gs=>(fs.length≤4096∧rs.length≤4096∧gs.length≤4096)∧(∀d ∈ fs,((0≤d.num∧d.num≤2147483647)∧d.key.size≤255∧d.ty.size≤255)∧(d.aE≠0→1≤d.aE∧d.aE≤os.length))∧(∀r ∈ rs,(-2147483648≤r.1∧r.1≤2147483647)∧(-2147483648≤r.2∧r.2≤2147483647))∧(∀s ∈ gs,s.size≤1048576)∧(∀m ∈ ms,JH f m)∧∀e ∈ es,I7 e
def Ly (f:Nat):Prop:=∀(W w:World) (B bb dd ll:Nat) (L:List Nat) (n:Nat) (m:Ms) vf vo vm ve vr vg nm fs os ms es rs gs cm ce,Pn W B bb dd L n w→iF W→iG W→W.heap.size≤dd→ll≠bb→ll≠dd→n+1+f≤500→w.heap[ll]?=some (.cells #[bY bb dd] 85 (0,0))→Lw W m vf vo vm ve vr vg nm fs os ms es rs gs cm ce→JH f m→L.length+(cj f n m).length≤1099511627776 →
 Calls Tryz.prog 89 #[.agg (eM bb dd ll),.agg #[.string nm,vf,vo,vm,ve,vr,vg]] w (u6 W B bb dd (L++cj f n m) n w)
theorem Kw {W w:World}{B bb dd ll pp dp:Nat}{L:List Nat}{n:Nat} (h:Pn W B bb dd L n w) (hP:iF W) (hF:iG W) {e:En}{vv vr vg:Value} (hv:Rl W vv e.aQ.length (qP e.aQ)) (hr:Rl W vr e.res.length (kQ e.res)) (hg:Rl W vg e.gone.length (bZ e.gone)) (ho:I7 e) (hp:w.heap[pp]?=some (.cells (eM bb dd ll) 89 (0,0))) (hd:w.heap[dp]?=some (.cells #[.string e.name,vv,vr,vg] 67 (0,0))) (hl:L.length+(fX n e).length≤1099511627776) :
  Calls Tryz.prog 90 #[.pointer (some ⟨pp,0,none⟩),.pointer (some ⟨dp,0,none⟩)] w (u6 W B bb dd (L++fX n e) n w):=by
 have HC:=al (Bk (ll:=ll) h hP hF hv hr hg ho.r1 ho.r2 ho.g1 ho.g2 ho.v2 hl)
 obtain ⟨c0,c1,c2,c3⟩:=Oc hd
 unfold eM at hp HC
 have p0:w.cell? ⟨pp,0,none⟩=some (bY bb dd):=cell_of_row _ _ _ _ _ _ hp
 have p1:w.cell? ⟨pp,1,none⟩=some (cw ll dd):=cell_of_row _ _ _ _ _ _ hp
 have p2:w.cell? ⟨pp,2,none⟩=some (cl bb):=cell_of_row _ _ _ _ _ _ hp
 unfold bY cw cl at HC
 unfold bY at p0
 unfold cw at p1
 unfold cl at p2
 clear h hP hF hv hr hg ho hp hd hl
 go_enter Tryz.func90,Tryz.ntmps90
 go_wp2_with fail
 refine (ab HC).mono ?_
 rintro e' w1 ⟨rfl,pH,lQ⟩
 have HE:=al (show u6 W B bb dd (L++fX n e) n w (.returned (.tuple #[])) w1 from ⟨rfl,pH,lQ⟩)
 clear pH lQ HC
 go_wp2
 refine bodyPost_ret (results_none rfl _ _ _) rfl ?_
 exact ab HE
theorem Kx {W w:World}{B bb dd ll pp mp n:Nat}{L:List Nat}{nm:ByteArray}{vf vo vm ve vr vg:Value} (hp:w.heap[pp]?=some (.cells (eM bb dd ll) 89 (0,0))) (hm:w.heap[mp]?=some (.cells #[.string nm,vf,vo,vm,ve,vr,vg] 46 (0,0)))
  (hc:Calls Tryz.prog 89 #[.agg (eM bb dd ll),.agg #[.string nm,vf,vo,vm,ve,vr,vg]] w (u6 W B bb dd L n w)) :
  Calls Tryz.prog 88 #[.pointer (some ⟨pp,0,none⟩),.pointer (some ⟨mp,0,none⟩)] w (u6 W B bb dd L n w):=by
 have HC:=al hc
 have c0:w.cell? ⟨mp,0,none⟩=some (.string nm):=cell_of_row _ _ _ _ _ _ hm
 have c1:w.cell? ⟨mp,1,none⟩=some vf:=cell_of_row _ _ _ _ _ _ hm
 have c2:w.cell? ⟨mp,2,none⟩=some vo:=cell_of_row _ _ _ _ _ _ hm
 have c3:w.cell? ⟨mp,3,none⟩=some vm:=cell_of_row _ _ _ _ _ _ hm
 have c4:w.cell? ⟨mp,4,none⟩=some ve:=cell_of_row _ _ _ _ _ _ hm
 have c5:w.cell? ⟨mp,5,none⟩=some vr:=cell_of_row _ _ _ _ _ _ hm
 have c6:w.cell? ⟨mp,6,none⟩=some vg:=cell_of_row _ _ _ _ _ _ hm
 unfold eM at hp HC
 have p0:w.cell? ⟨pp,0,none⟩=some (bY bb dd):=cell_of_row _ _ _ _ _ _ hp
 have p1:w.cell? ⟨pp,1,none⟩=some (cw ll dd):=cell_of_row _ _ _ _ _ _ hp
 have p2:w.cell? ⟨pp,2,none⟩=some (cl bb):=cell_of_row _ _ _ _ _ _ hp
 unfold bY cw cl at HC
 unfold bY at p0
 unfold cw at p1
 unfold cl at p2
 clear hp hm hc
 go_enter Tryz.func88,Tryz.ntmps88
 go_wp2_with fail
 refine (ab HC).mono ?_
 rintro e' w1 ⟨rfl,pH,lQ⟩
 have HE:=al (show u6 W B bb dd L n w (.returned (.tuple #[])) w1 from ⟨rfl,pH,lQ⟩)
 clear pH lQ HC
 go_wp2
 refine bodyPost_ret (results_none rfl _ _ _) rfl ?_
 exact ab HE
theorem wE (f:Nat) (ih:Ly f) {W w:World}{B bb dd ll:Nat}{L:List Nat}{n:Nat} (h:Pn W B bb dd L n w) (hP:iF W) (hF:iG W) (hd:W.heap.size≤dd) (fF:ll≠bb) (Dv:ll≠dd) (hn:n+2+f≤500) (fM:w.heap[ll]?=some (.cells #[bY bb dd] 85 (0,0))) {vm ve:Value}{ms:List Ms}{es:List En}{cm ce:List Value} (hm:Rl W vm ms.length cm) (et:tf W cm ms) (he:Rl W ve es.length ce) (fv:vl W ce es)
  (H5:∀m ∈ ms,JH f m) (L9:∀e ∈ es,I7 e) (hl:L.length+(pF f n ms es).length≤1099511627776) :
  Calls Tryz.prog 45 #[.agg (eM bb dd ll),vm,ve] w (u6 W B bb dd (L++pF f n ms es) n w):=by
 obtain ⟨am,dh,rfl,H4,A6⟩:=hm
 obtain ⟨ae,da,rfl,iI,A7⟩:=he
 have kR:Below w.heap.size w (w.alloc (.cells (eM bb dd ll) 89)):=(zE _ _).alloc (zD _) _
 have k1:=aK w (.cells (eM bb dd ll) 89)
 have NC:=h.bi.lt.2
 have Wf:=(zA h.dp).1
 obtain ⟨V,K5⟩:∃V,w.alloc (.cells (eM bb dd ll) 89)=V:=⟨_,rfl⟩
 rw[K5] at kR k1
 have Jk:=al (h.below kR)
 have kd:=al (Kp.refl bb V)
 have S6:=al k1
 have SY:=al ((kR.block _ (zA fM).1).trans fM)
 have Jq:=al (show Kp bb w V from Kp.below kR)
 have pa:=al (show w.heap.size≠bb by omega)
 have OH:=al (show w.heap.size≠dd by omega)
 have Xc:=al A6
 have Xd:=al A7
 have Xr:=al et
 have Xz:=al fv
 have Hmo:=al H5
 have Heo:=al L9
 have Hl:=al hl
 have SS:=al hP
 have HFF:=al hF
 have Hd:=al hd
 have FJ:=al fF
 have Mv:=al Dv
 have Hn:=al hn
 unfold eM bY cw cl at K5
 unfold eM bY cw cl
 clear h hP hF hd fF Dv hn fM A6 A7 et fv H5 L9 hl kR k1 NC Wf
 go_enter Tryz.func45,Tryz.ntmps45
 go_wp2_with fail
 clear K5
 go_loopg [7,12] ms.length (fun gk _ v12 wr=>∃(i:Nat),v12=.int .i64 (i:Int)∧gk=ms.length-i∧i≤ms.length∧Hid (Pn W B bb dd (L++(ms.take i).flatMap (fun m=>cn n aL m.nm (cj f (n+1) m))) n wr)∧Hid (Kp bb V wr))
 case atStart=>exact ⟨0,rfl,rfl,by omega,by rw[List.take_zero,List.flatMap_nil,List.append_nil];exact Jk,kd⟩
 case round =>
  obtain ⟨i,rfl,aU,hi,fC,fD⟩:=hrel
  have bz:=al aU
  clear aU Jk kd
  by_cases aM:i<ms.length
  ·obtain ⟨g,o,rfl,hg,hc⟩:=ab Xc (by omega)
   have hr:=List.getElem?_eq_getElem aM
   have cI:=List.getElem_mem aM
   obtain ⟨m,yz⟩:∃m,ms[i]=m:=⟨_,rfl⟩
   rw[yz] at hr cI
   obtain ⟨vf,vo,vm,ve,vr,vg,nm,fs,os,qK,wP,rs,gs,IJ,JD,dU,hV⟩:=(ab Xr).at i m hr
   have Cf:m.nm=nm:=by rw[hV.is];rfl
   obtain ⟨WY,WM,rfl⟩:∃a c,vf=.slice a fs.length c:=(by obtain ⟨a,c,h,_⟩:=hV.hf;exact ⟨a,c,h⟩)
   obtain ⟨WW,WK,rfl⟩:∃a c,vo=.slice a os.length c:=(by obtain ⟨a,c,h,_⟩:=hV.ho;exact ⟨a,c,h⟩)
   obtain ⟨WX,WL,rfl⟩:∃a c,vm=.slice a qK.length c:=(by obtain ⟨a,c,h,_⟩:=hV.hm;exact ⟨a,c,h⟩)
   obtain ⟨WZ,WN,rfl⟩:∃a c,ve=.slice a wP.length c:=(by obtain ⟨a,c,h,_⟩:=hV.he;exact ⟨a,c,h⟩)
   obtain ⟨On,Og,rfl⟩:∃a c,vr=.slice a rs.length c:=(by obtain ⟨a,c,h,_⟩:=hV.hr;exact ⟨a,c,h⟩)
   obtain ⟨Oo,Oh,rfl⟩:∃a c,vg=.slice a gs.length c:=(by obtain ⟨a,c,h,_⟩:=hV.hg;exact ⟨a,c,h⟩)
   have x0:=((ab fC).bW.cell (p:=⟨g,o+(i*7+0),none⟩) hg).trans (hc _ _ (show cm[i*7+0]?=_ from (by have e:=congrArg (fun t=>t[0]?) dU;simpa[List.getElem?_take,List.getElem?_drop] using e)))
   rw[Nat.add_zero] at x0
   have x1:=((ab fC).bW.cell (p:=⟨g,o+(i*7+1),none⟩) hg).trans (hc _ _ (show cm[i*7+1]?=_ from (by have e:=congrArg (fun t=>t[1]?) dU;simpa[List.getElem?_take,List.getElem?_drop] using e)))
   rw[←Nat.add_assoc] at x1
   have x2:=((ab fC).bW.cell (p:=⟨g,o+(i*7+2),none⟩) hg).trans (hc _ _ (show cm[i*7+2]?=_ from (by have e:=congrArg (fun t=>t[2]?) dU;simpa[List.getElem?_take,List.getElem?_drop] using e)))
   rw[←Nat.add_assoc] at x2
   have x3:=((ab fC).bW.cell (p:=⟨g,o+(i*7+3),none⟩) hg).trans (hc _ _ (show cm[i*7+3]?=_ from (by have e:=congrArg (fun t=>t[3]?) dU;simpa[List.getElem?_take,List.getElem?_drop] using e)))
   rw[←Nat.add_assoc] at x3
   have x4:=((ab fC).bW.cell (p:=⟨g,o+(i*7+4),none⟩) hg).trans (hc _ _ (show cm[i*7+4]?=_ from (by have e:=congrArg (fun t=>t[4]?) dU;simpa[List.getElem?_take,List.getElem?_drop] using e)))
   rw[←Nat.add_assoc] at x4
   have x5:=((ab fC).bW.cell (p:=⟨g,o+(i*7+5),none⟩) hg).trans (hc _ _ (show cm[i*7+5]?=_ from (by have e:=congrArg (fun t=>t[5]?) dU;simpa[List.getElem?_take,List.getElem?_drop] using e)))
   rw[←Nat.add_assoc] at x5
   have x6:=((ab fC).bW.cell (p:=⟨g,o+(i*7+6),none⟩) hg).trans (hc _ _ (show cm[i*7+6]?=_ from (by have e:=congrArg (fun t=>t[6]?) dU;simpa[List.getElem?_take,List.getElem?_drop] using e)))
   rw[←Nat.add_assoc] at x6
   have j':(ms.take (i+1)).flatMap (fun m=>cn n aL m.nm (cj f (n+1) m))=(ms.take i).flatMap (fun m=>cn n aL m.nm (cj f (n+1) m))++(fun m=>cn n aL m.nm (cj f (n+1) m)) m:=by
    obtain ⟨H',rfl⟩:=zB hr
    rw[List.take_succ_eq_append_getElem H',List.flatMap_append]
    simp
   have hlen:(L++(ms.take i).flatMap (fun m=>cn n aL m.nm (cj f (n+1) m))).length+(cn n aL m.nm (cj f (n+1) m)).length≤1099511627776:=by
    have e2:ms.flatMap (fun m=>cn n aL m.nm (cj f (n+1) m))=(ms.take (i+1)).flatMap (fun m=>cn n aL m.nm (cj f (n+1) m))++(ms.drop (i+1)).flatMap (fun m=>cn n aL m.nm (cj f (n+1) m)):=by rw[←List.flatMap_append,List.take_append_drop]
    have h1:=congrArg List.length e2
    rw[j',zK,zK] at h1
    have h2:=ab Hl
    unfold pF at h2
    rw[zK] at h2
    simp only[zK] at h1 h2 ⊢
    omega
   have wG:(cn n aL m.nm (cj f (n+1) m)).length=(aV n [aL,⟨#[32]⟩,m.nm,⟨#[32,123]⟩]).length+(cj f (n+1) m).length+(aV n [⟨#[125]⟩]).length:=by
    unfold cn
    rw[zK,zK]
   have fp:=aK wr (.cells #[.string nm,.slice WY fs.length WM,.slice WW os.length WK,.slice WX qK.length WL,.slice WZ wP.length WN,.slice On rs.length Og,.slice Oo gs.length Oh] 46)
   have bG:Below wr.heap.size wr (wr.alloc (.cells #[.string nm,.slice WY fs.length WM,.slice WW os.length WK,.slice WX qK.length WL,.slice WZ wP.length WN,.slice On rs.length Og,.slice Oo gs.length Oh] 46)):=(zE _ _).alloc (zD _) _
   obtain ⟨X,hX⟩:∃X,wr.alloc (.cells #[.string nm,.slice WY fs.length WM,.slice WW os.length WK,.slice WX qK.length WL,.slice WZ wP.length WN,.slice On rs.length Og,.slice Oo gs.length Oh] 46)=X:=⟨_,rfl⟩
   rw[hX] at fp bG
   have A8:=(ab fC).below bG
   have EN:=(ab fD).trans (Kp.below bG)
   have tj:=al (EN _ _ _ _ (ab pa) (ab S6) (by decide))
   have Qd:=al (EN _ _ _ _ (ab FJ) (ab SY) (by decide))
   have ib:=al fp
   have Sx:=al (show wr.heap.size≠bb by have:=(ab fC).bi.lt.2;omega)
   have Sw:=al (show wr.heap.size≠dd by have:=(zA (ab fC).dp).1;omega)
   have pT:=al (wG ▸ hlen)
   have p1:X.cell? ⟨w.heap.size,1,none⟩=some (.func (.func 84) #[] #[.pointer (some ⟨ll,0,none⟩),.pointer (some ⟨dd,0,none⟩)]):=cell_of_row _ _ _ _ _ _ (ab tj)
   have n0:X.cell? ⟨wr.heap.size,0,none⟩=some (.string nm):=cell_of_row _ _ _ _ _ _ fp
   have JJ:=al (pS (I:=(cj f (n+1) m)) (a:=aL) (b:=m.nm) (f:=⟨88,#[],#[.pointer (some ⟨w.heap.size,0,none⟩),.pointer (some ⟨wr.heap.size,0,none⟩)]⟩) A8 (ab Hd) (by have:=ab Hn;omega) (ab Qd) (ab FJ) (ab Mv) (fun vs w=>by kernel_rfl) (by have:=ab pT;omega) (fun w3 qy nQ=>(Kx (nQ _ _ _ _ (ab pa) (ab OH) (ab tj) (by decide)) (nQ _ _ _ _ (ab Sx) (ab Sw) (ab ib) (by decide)) (by
     have:=ih W w3 B bb dd ll _ (n+1) m _ _ _ _ _ _ nm fs os qK wP rs gs IJ JD qy (ab SS) (ab HFF) (ab Hd) (ab FJ) (ab Mv) (by have:=ab Hn;omega) (nQ _ _ _ _ (ab FJ) (ab Mv) (ab Qd) (by decide)) hV (ab Hmo m cI) (by have:=ab pT;rw[zK];omega)
     exact this))))
   have yl:=al j'
   have Fo:Hid ((fun m=>cn n aL m.nm (cj f (n+1) m)) m=aV n [⟨#[109,101,115,115,97,103,101]⟩,⟨#[32]⟩,nm,⟨#[32,123]⟩]++(cj f (n+1) m)++aV n [⟨#[125]⟩]):=by show cn n aL m.nm (cj f (n+1) m)=_;unfold cn aL;rw[Cf]
   have AV:=al EN
   have i0:(0:Int)≤(i:Int):=zH _
   have i1:(i:Int)<(ms.length:Int):=by omega
   have bu:=al aM
   unfold Fv.val aL at JJ
   simp only at JJ
   rw[Cf] at JJ
   clear hc hr cI yz j' hlen wG fp bG A8 EN aM dU hV Cf
   go_wp2_with fail
   refine (ab JJ).mono ?_
   rintro e' w5 ⟨rfl,nc,jA⟩
   have lN:=al (show Pn W B bb dd (L++(ms.take (i+1)).flatMap (fun m=>cn n aL m.nm (cj f (n+1) m))) n w5 by rw[ab yl,ab Fo,←List.append_assoc];exact nc)
   have sf:=al ((ab AV).trans jA)
   clear nc jA JJ fC fD AV yl Fo
   go_wp2
   go_roundg (ms.length-(i+1))
   case measure=>have:=ab bz;have:=ab bu;omega
   case rel=>exact ⟨i+1,by go_num,rfl,ab bu,lN,sf⟩
  ·obtain rfl:i=ms.length:=by omega
   have uZ:=ab fC
   rw[List.take_length] at uZ
   have HPe:=al uZ
   have HKe:=al (ab fD)
   clear uZ fC fD bz
   go_wp2
   go_loopg [9,25] es.length (fun gk _ v25 wr=>∃(i:Nat),v25=.int .i64 (i:Int)∧gk=es.length-i∧i≤es.length∧Hid (Pn W B bb dd (L++ms.flatMap (fun m=>cn n aL m.nm (cj f (n+1) m))++(es.take i).flatMap (jB n)) n wr)∧Hid (Kp bb V wr))
   case atStart=>exact ⟨0,rfl,rfl,by omega,by rw[List.take_zero,List.flatMap_nil,List.append_nil];exact HPe,HKe⟩
   case round =>
    obtain ⟨i,rfl,aU,hi,fC,fD⟩:=hrel
    have bz:=al aU
    clear aU HPe HKe
    by_cases aM:i<es.length
    ·obtain ⟨g,o,rfl,hg,hc⟩:=ab Xd (by omega)
     have hr:=List.getElem?_eq_getElem aM
     have cI:=List.getElem_mem aM
     obtain ⟨m,yz⟩:∃m,es[i]=m:=⟨_,rfl⟩
     rw[yz] at hr cI
     obtain ⟨vv,vr,vg,dU,Q6,Dp,Dq⟩:=(ab Xz).at i m hr
     obtain ⟨WV,WJ,rfl⟩:∃a c,vv=.slice a m.aQ.length c:=(by obtain ⟨a,c,h,_⟩:=Q6;exact ⟨a,c,h⟩)
     obtain ⟨On,Og,rfl⟩:∃a c,vr=.slice a m.res.length c:=(by obtain ⟨a,c,h,_⟩:=Dp;exact ⟨a,c,h⟩)
     obtain ⟨Oo,Oh,rfl⟩:∃a c,vg=.slice a m.gone.length c:=(by obtain ⟨a,c,h,_⟩:=Dq;exact ⟨a,c,h⟩)
     have x0:=((ab fC).bW.cell (p:=⟨g,o+(i*4+0),none⟩) hg).trans (hc _ _ (show ce[i*4+0]?=_ from (by have e:=congrArg (fun t=>t[0]?) dU;simpa[List.getElem?_take,List.getElem?_drop] using e)))
     rw[Nat.add_zero] at x0
     have x1:=((ab fC).bW.cell (p:=⟨g,o+(i*4+1),none⟩) hg).trans (hc _ _ (show ce[i*4+1]?=_ from (by have e:=congrArg (fun t=>t[1]?) dU;simpa[List.getElem?_take,List.getElem?_drop] using e)))
     rw[←Nat.add_assoc] at x1
     have x2:=((ab fC).bW.cell (p:=⟨g,o+(i*4+2),none⟩) hg).trans (hc _ _ (show ce[i*4+2]?=_ from (by have e:=congrArg (fun t=>t[2]?) dU;simpa[List.getElem?_take,List.getElem?_drop] using e)))
     rw[←Nat.add_assoc] at x2
     have x3:=((ab fC).bW.cell (p:=⟨g,o+(i*4+3),none⟩) hg).trans (hc _ _ (show ce[i*4+3]?=_ from (by have e:=congrArg (fun t=>t[3]?) dU;simpa[List.getElem?_take,List.getElem?_drop] using e)))
     rw[←Nat.add_assoc] at x3
     have j':(es.take (i+1)).flatMap (jB n)=(es.take i).flatMap (jB n)++(jB n) m:=by
      obtain ⟨H',rfl⟩:=zB hr
      rw[List.take_succ_eq_append_getElem H',List.flatMap_append]
      simp
     have hlen:(L++ms.flatMap (fun m=>cn n aL m.nm (cj f (n+1) m))++(es.take i).flatMap (jB n)).length+(cn n kz m.name (fX (n+1) m)).length≤1099511627776:=by
      have e2:es.flatMap (jB n)=(es.take (i+1)).flatMap (jB n)++(es.drop (i+1)).flatMap (jB n):=by rw[←List.flatMap_append,List.take_append_drop]
      have h1:=congrArg List.length e2
      rw[j',zK,zK] at h1
      have h2:=ab Hl
      unfold pF at h2
      rw[zK] at h2
      simp only[zK] at h1 h2 ⊢
      have h3:(jB n m).length=(cn n kz m.name (fX (n+1) m)).length:=rfl
      omega
     have wG:(cn n kz m.name (fX (n+1) m)).length=(aV n [kz,⟨#[32]⟩,m.name,⟨#[32,123]⟩]).length+(fX (n+1) m).length+(aV n [⟨#[125]⟩]).length:=by
      unfold cn
      rw[zK,zK]
     have fp:=aK wr (.cells #[.string m.name,.slice WV m.aQ.length WJ,.slice On m.res.length Og,.slice Oo m.gone.length Oh] 67)
     have bG:Below wr.heap.size wr (wr.alloc (.cells #[.string m.name,.slice WV m.aQ.length WJ,.slice On m.res.length Og,.slice Oo m.gone.length Oh] 67)):=(zE _ _).alloc (zD _) _
     obtain ⟨X,hX⟩:∃X,wr.alloc (.cells #[.string m.name,.slice WV m.aQ.length WJ,.slice On m.res.length Og,.slice Oo m.gone.length Oh] 67)=X:=⟨_,rfl⟩
     rw[hX] at fp bG
     have A8:=(ab fC).below bG
     have EN:=(ab fD).trans (Kp.below bG)
     have tj:=al (EN _ _ _ _ (ab pa) (ab S6) (by decide))
     have Qd:=al (EN _ _ _ _ (ab FJ) (ab SY) (by decide))
     have ib:=al fp
     have Sx:=al (show wr.heap.size≠bb by have:=(ab fC).bi.lt.2;omega)
     have Sw:=al (show wr.heap.size≠dd by have:=(zA (ab fC).dp).1;omega)
     have pT:=al (wG ▸ hlen)
     have p1:X.cell? ⟨w.heap.size,1,none⟩=some (.func (.func 84) #[] #[.pointer (some ⟨ll,0,none⟩),.pointer (some ⟨dd,0,none⟩)]):=cell_of_row _ _ _ _ _ _ (ab tj)
     have n0:X.cell? ⟨wr.heap.size,0,none⟩=some (.string m.name):=cell_of_row _ _ _ _ _ _ fp
     have JJ:=al (pS (I:=(fX (n+1) m)) (a:=kz) (b:=m.name) (f:=⟨90,#[],#[.pointer (some ⟨w.heap.size,0,none⟩),.pointer (some ⟨wr.heap.size,0,none⟩)]⟩) A8 (ab Hd) (by have:=ab Hn;omega) (ab Qd) (ab FJ) (ab Mv) (fun vs w=>by kernel_rfl) (by have:=ab pT;omega) (fun w3 qy nQ=>(Kw qy (ab SS) (ab HFF) Q6 Dp Dq (ab Heo m cI) (nQ _ _ _ _ (ab pa) (ab OH) (ab tj) (by decide)) (nQ _ _ _ _ (ab Sx) (ab Sw) (ab ib) (by decide)) (by have:=ab pT;rw[zK];omega))))
     have yl:=al j'
     have Fo:Hid ((jB n) m=aV n [⟨#[101,110,117,109]⟩,⟨#[32]⟩,m.name,⟨#[32,123]⟩]++(fX (n+1) m)++aV n [⟨#[125]⟩]):=rfl
     have AV:=al EN
     have i0:(0:Int)≤(i:Int):=zH _
     have i1:(i:Int)<(es.length:Int):=by omega
     have bu:=al aM
     unfold Fv.val kz at JJ
     simp only at JJ
     clear hc hr cI yz j' hlen wG fp bG A8 EN aM dU Q6 Dp Dq
     go_wp2_with fail
     refine (ab JJ).mono ?_
     rintro e' w5 ⟨rfl,nc,jA⟩
     have lN:=al (show Pn W B bb dd (L++ms.flatMap (fun m=>cn n aL m.nm (cj f (n+1) m))++(es.take (i+1)).flatMap (jB n)) n w5 by rw[ab yl,ab Fo,←List.append_assoc];exact nc)
     have sf:=al ((ab AV).trans jA)
     clear nc jA JJ fC fD AV yl Fo
     go_wp2
     go_roundg (es.length-(i+1))
     case measure=>have:=ab bz;have:=ab bu;omega
     case rel=>exact ⟨i+1,by go_num,rfl,ab bu,lN,sf⟩
    ·obtain rfl:i=es.length:=by omega
     have Mc:=ab fC
     rw[List.take_length,List.append_assoc] at Mc
     have HE:=al (show u6 W B bb dd (L++pF f n ms es) n w (.returned (.tuple #[])) wr from ⟨rfl,Mc,(ab Jq).trans (ab fD)⟩)
     clear Mc fC fD
     go_wp2
     refine bodyPost_ret (results_none rfl _ _ _) rfl ?_
     exact ab HE
end Go.Proofs.YtichhjfjcinjgaaGreatDoor

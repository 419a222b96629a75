import Derived.Test.YtichhjfjcinjgaaGreatDoorM18
set_option maxHeartbeats 2000000
set_option maxRecDepth 100000
namespace Go.Proofs.YtichhjfjcinjgaaGreatDoor
open Go.RowKit
attribute [local go_sem ↓] Go.wp_at_zero Go.wp_at_succ
def aL:ByteArray:=⟨#[109,101,115,115,97,103,101]⟩
def kO:ByteArray:=⟨#[101,110,117,109]⟩
def ia:ByteArray:=⟨#[111,110,101,111,102]⟩
def Ms.nm:Ms→ByteArray
 |.mk nm _ _ _ _ _ _=>nm
def ct (n:Nat) (a b:ByteArray) (I:List Nat):List Nat:=aY n [a,⟨#[32]⟩,b,⟨#[32,123]⟩]++I++aY n [⟨#[125]⟩]
def dH (n:Nat) (os:List ByteArray) (G:List Fd):List Nat:=match G with
 |[]=>[]
 |d::_=>if d.aE≠0 then ct n ia (os.getD (d.aE.toNat-1) ⟨#[]⟩) (G.flatMap (bT (n+1))) else G.flatMap (bT n)
noncomputable def jO (n:Nat) (e:En):List Nat:=ct n kO e.name (gp (n+1) e)
noncomputable def ck:Nat→Nat→Ms→List Nat
 |0,_,_=>[]
 |f+1,n,.mk _ fs os ms es rs gs=>fg n 536870911 rs gs++(cl fs).flatMap (dH n os)++(ms.flatMap (fun m=>ct n aL m.nm (ck f (n+1) m))++es.flatMap (jO n))
noncomputable def pW (f n:Nat) (ms:List Ms) (es:List En):List Nat:=ms.flatMap (fun m=>ct n aL m.nm (ck f (n+1) m))++es.flatMap (jO n)
structure JD (e:En):Prop where
 r1:e.res.length≤4096
 r2:∀r ∈ e.res,(-2147483648≤r.1∧r.1≤2147483647)∧(-2147483648≤r.2∧r.2≤2147483647)
 g1:e.gone.length≤4096
 g2:∀s ∈ e.gone,s.size≤1048576
 v2:∀v ∈ e.aR,-2147483648≤v.2∧v.2≤2147483647
def Kh:Nat→Ms→Prop
 |0,_=>False
 |f+1,.mk _ fs os ms es rs gs=>(fs.length≤4096∧rs.length≤4096∧gs.length≤4096)∧(∀d ∈ fs,((0≤d.num∧d.num≤2147483647)∧d.key.size≤255∧d.ty.size≤255)∧(d.aE≠0→1≤d.aE∧d.aE≤os.length))∧(∀r ∈ rs,(-2147483648≤r.1∧r.1≤2147483647)∧(-2147483648≤r.2∧r.2≤2147483647))∧(∀s ∈ gs,s.size≤1048576)∧(∀m ∈ ms,Kh f m)∧∀e ∈ es,JD e
def L4 (f:Nat):Prop:=∀(W w:World) (B bb dd ll:Nat) (L:List Nat) (n:Nat) (m:Ms) vf vo vm ve vr vg nm fs os ms es rs gs cm ce,Pn W B bb dd L n w→il W→ir W→W.heap.size≤dd→ll≠bb→ll≠dd→n+1+f≤500→w.heap[ll]?=some (.cells #[bZ bb dd] 85 (0,0))→L0 W m vf vo vm ve vr vg nm fs os ms es rs gs cm ce→Kh f m→L.length+(ck f n m).length≤1099511627776 →
 Calls Tryz.prog 89 #[.agg (eO bb dd ll),.agg #[.string nm,vf,vo,vm,ve,vr,vg]] w (vI W B bb dd (L++ck f n m) n w)
theorem K4 {W w:World}{B bb dd ll pp dp:Nat}{L:List Nat}{n:Nat} (h:Pn W B bb dd L n w) (hP:il W) (hF:ir W) {e:En}{vv vr vg:Value} (hv:Rl W vv e.aR.length (rn e.aR)) (hr:Rl W vr e.res.length (lj e.res)) (hg:Rl W vg e.gone.length (cc e.gone)) (ho:JD e) (hp:w.heap[pp]?=some (.cells (eO bb dd ll) 89 (0,0))) (hd:w.heap[dp]?=some (.cells #[.string e.name,vv,vr,vg] 67 (0,0))) (hl:L.length+(gp n e).length≤1099511627776) :
  Calls Tryz.prog 90 #[.pointer (some ⟨pp,0,none⟩),.pointer (some ⟨dp,0,none⟩)] w (vI W B bb dd (L++gp n e) n w):=by
 have HC:=al (BK (ll:=ll) h hP hF hv hr hg ho.r1 ho.r2 ho.g1 ho.g2 ho.v2 hl)
 obtain ⟨c0,c1,c2,c3⟩:=OG hd
 unfold eO at hp HC
 have p0:w.cell? ⟨pp,0,none⟩=some (bZ bb dd):=cell_of_row _ _ _ _ _ _ hp
 have p1:w.cell? ⟨pp,1,none⟩=some (cy ll dd):=cell_of_row _ _ _ _ _ _ hp
 have p2:w.cell? ⟨pp,2,none⟩=some (cq bb):=cell_of_row _ _ _ _ _ _ hp
 unfold bZ cy cq at HC
 unfold bZ at p0
 unfold cy at p1
 unfold cq at p2
 clear h hP hF hv hr hg ho hp hd hl
 go_enter Tryz.func90,Tryz.ntmps90
 go_wp2_with fail
 refine (ab HC).mono ?_
 rintro e' w1 ⟨rfl,pY,mf⟩
 have HE:=al (show vI W B bb dd (L++gp n e) n w (.returned (.tuple #[])) w1 from ⟨rfl,pY,mf⟩)
 clear pY mf HC
 go_wp2
 refine bodyPost_ret (results_none rfl _ _ _) rfl ?_
 exact ab HE
theorem K5 {W w:World}{B bb dd ll pp mp n:Nat}{L:List Nat}{nm:ByteArray}{vf vo vm ve vr vg:Value} (hp:w.heap[pp]?=some (.cells (eO bb dd ll) 89 (0,0))) (hm:w.heap[mp]?=some (.cells #[.string nm,vf,vo,vm,ve,vr,vg] 46 (0,0)))
  (hc:Calls Tryz.prog 89 #[.agg (eO bb dd ll),.agg #[.string nm,vf,vo,vm,ve,vr,vg]] w (vI W B bb dd L n w)) :
  Calls Tryz.prog 88 #[.pointer (some ⟨pp,0,none⟩),.pointer (some ⟨mp,0,none⟩)] w (vI W B bb dd L n w):=by
 have HC:=al hc
 have c0:w.cell? ⟨mp,0,none⟩=some (.string nm):=cell_of_row _ _ _ _ _ _ hm
 have c1:w.cell? ⟨mp,1,none⟩=some vf:=cell_of_row _ _ _ _ _ _ hm
 have c2:w.cell? ⟨mp,2,none⟩=some vo:=cell_of_row _ _ _ _ _ _ hm
 have c3:w.cell? ⟨mp,3,none⟩=some vm:=cell_of_row _ _ _ _ _ _ hm
 have c4:w.cell? ⟨mp,4,none⟩=some ve:=cell_of_row _ _ _ _ _ _ hm
 have c5:w.cell? ⟨mp,5,none⟩=some vr:=cell_of_row _ _ _ _ _ _ hm
 have c6:w.cell? ⟨mp,6,none⟩=some vg:=cell_of_row _ _ _ _ _ _ hm
 unfold eO at hp HC
 have p0:w.cell? ⟨pp,0,none⟩=some (bZ bb dd):=cell_of_row _ _ _ _ _ _ hp
 have p1:w.cell? ⟨pp,1,none⟩=some (cy ll dd):=cell_of_row _ _ _ _ _ _ hp
 have p2:w.cell? ⟨pp,2,none⟩=some (cq bb):=cell_of_row _ _ _ _ _ _ hp
 unfold bZ cy cq at HC
 unfold bZ at p0
 unfold cy at p1
 unfold cq at p2
 clear hp hm hc
 go_enter Tryz.func88,Tryz.ntmps88
 go_wp2_with fail
 refine (ab HC).mono ?_
 rintro e' w1 ⟨rfl,pY,mf⟩
 have HE:=al (show vI W B bb dd L n w (.returned (.tuple #[])) w1 from ⟨rfl,pY,mf⟩)
 clear pY mf HC
 go_wp2
 refine bodyPost_ret (results_none rfl _ _ _) rfl ?_
 exact ab HE
theorem xd (f:Nat) (ih:L4 f) {W w:World}{B bb dd ll:Nat}{L:List Nat}{n:Nat} (h:Pn W B bb dd L n w) (hP:il W) (hF:ir W) (hd:W.heap.size≤dd) (fK:ll≠bb) (DW:ll≠dd) (hn:n+2+f≤500) (fR:w.heap[ll]?=some (.cells #[bZ bb dd] 85 (0,0))) {vm ve:Value}{ms:List Ms}{es:List En}{cm ce:List Value} (hm:Rl W vm ms.length cm) (eo:tH W cm ms) (he:Rl W ve es.length ce) (fA:vO W ce es)
  (ID:∀m ∈ ms,Kh f m) (MC:∀e ∈ es,JD e) (hl:L.length+(pW f n ms es).length≤1099511627776) :
  Calls Tryz.prog 45 #[.agg (eO bb dd ll),vm,ve] w (vI W B bb dd (L++pW f n ms es) n w):=by
 obtain ⟨am,dk,rfl,IC,Bv⟩:=hm
 obtain ⟨ae,dc,rfl,iP,Bw⟩:=he
 have lk:Below w.heap.size w (w.alloc (.cells (eO bb dd ll) 89)):=(zE _ _).alloc (zD _) _
 have k1:=aJ w (.cells (eO bb dd ll) 89)
 have N3:=h.bi.lt.2
 have WK:=(zA h.dp).1
 obtain ⟨V,Lv⟩:∃V,w.alloc (.cells (eO bb dd ll) 89)=V:=⟨_,rfl⟩
 rw[Lv] at lk k1
 have JT:=al (h.below lk)
 have kA:=al (Kp.refl bb V)
 have Tv:=al k1
 have Tn:=al ((lk.block _ (zA fR).1).trans fR)
 have JY:=al (show Kp bb w V from Kp.below lk)
 have pC:=al (show w.heap.size≠bb by omega)
 have O9:=al (show w.heap.size≠dd by omega)
 have XG:=al Bv
 have XH:=al Bw
 have XV:=al eo
 have X9:=al fA
 have Hmo:=al ID
 have Heo:=al MC
 have Hl:=al hl
 have Ti:=al hP
 have HFF:=al hF
 have Hd:=al hd
 have Gf:=al fK
 have MT:=al DW
 have Hn:=al hn
 unfold eO bZ cy cq at Lv
 unfold eO bZ cy cq
 clear h hP hF hd fK DW hn fR Bv Bw eo fA ID MC hl lk k1 N3 WK
 go_enter Tryz.func45,Tryz.ntmps45
 go_wp2_with fail
 clear Lv
 go_loopg [7,12] ms.length (fun gk _ v12 wr=>∃(i:Nat),v12=.int .i64 (i:Int)∧gk=ms.length-i∧i≤ms.length∧Hid (Pn W B bb dd (L++(ms.take i).flatMap (fun m=>ct n aL m.nm (ck f (n+1) m))) n wr)∧Hid (Kp bb V wr))
 case atStart=>exact ⟨0,rfl,rfl,by omega,by rw[List.take_zero,List.flatMap_nil,List.append_nil];exact JT,kA⟩
 case round =>
  obtain ⟨i,rfl,aW,hi,fH,fI⟩:=hrel
  have bz:=al aW
  clear aW JT kA
  by_cases aM:i<ms.length
  ·obtain ⟨g,o,rfl,hg,hc⟩:=ab XG (by omega)
   have hr:=List.getElem?_eq_getElem aM
   have cJ:=List.getElem_mem aM
   obtain ⟨m,y'⟩:∃m,ms[i]=m:=⟨_,rfl⟩
   rw[y'] at hr cJ
   obtain ⟨vf,vo,vm,ve,vr,vg,nm,fs,os,rh,xu,rs,gs,Je,Kb,dV,hV⟩:=(ab XV).at i m hr
   have CD:m.nm=nm:=by rw[hV.is];rfl
   obtain ⟨Xu,Xi,rfl⟩:∃a c,vf=.slice a fs.length c:=(by obtain ⟨a,c,h,_⟩:=hV.hf;exact ⟨a,c,h⟩)
   obtain ⟨Xs,Xg,rfl⟩:∃a c,vo=.slice a os.length c:=(by obtain ⟨a,c,h,_⟩:=hV.ho;exact ⟨a,c,h⟩)
   obtain ⟨Xt,Xh,rfl⟩:∃a c,vm=.slice a rh.length c:=(by obtain ⟨a,c,h,_⟩:=hV.hm;exact ⟨a,c,h⟩)
   obtain ⟨Xv,Xj,rfl⟩:∃a c,ve=.slice a xu.length c:=(by obtain ⟨a,c,h,_⟩:=hV.he;exact ⟨a,c,h⟩)
   obtain ⟨OQ,OJ,rfl⟩:∃a c,vr=.slice a rs.length c:=(by obtain ⟨a,c,h,_⟩:=hV.hr;exact ⟨a,c,h⟩)
   obtain ⟨OR,OK,rfl⟩:∃a c,vg=.slice a gs.length c:=(by obtain ⟨a,c,h,_⟩:=hV.hg;exact ⟨a,c,h⟩)
   have x0:=((ab fH).bU.cell (p:=⟨g,o+(i*7+0),none⟩) hg).trans (hc _ _ (show cm[i*7+0]?=_ from (by have e:=congrArg (fun t=>t[0]?) dV;simpa[List.getElem?_take,List.getElem?_drop] using e)))
   rw[Nat.add_zero] at x0
   have x1:=((ab fH).bU.cell (p:=⟨g,o+(i*7+1),none⟩) hg).trans (hc _ _ (show cm[i*7+1]?=_ from (by have e:=congrArg (fun t=>t[1]?) dV;simpa[List.getElem?_take,List.getElem?_drop] using e)))
   rw[←Nat.add_assoc] at x1
   have x2:=((ab fH).bU.cell (p:=⟨g,o+(i*7+2),none⟩) hg).trans (hc _ _ (show cm[i*7+2]?=_ from (by have e:=congrArg (fun t=>t[2]?) dV;simpa[List.getElem?_take,List.getElem?_drop] using e)))
   rw[←Nat.add_assoc] at x2
   have x3:=((ab fH).bU.cell (p:=⟨g,o+(i*7+3),none⟩) hg).trans (hc _ _ (show cm[i*7+3]?=_ from (by have e:=congrArg (fun t=>t[3]?) dV;simpa[List.getElem?_take,List.getElem?_drop] using e)))
   rw[←Nat.add_assoc] at x3
   have x4:=((ab fH).bU.cell (p:=⟨g,o+(i*7+4),none⟩) hg).trans (hc _ _ (show cm[i*7+4]?=_ from (by have e:=congrArg (fun t=>t[4]?) dV;simpa[List.getElem?_take,List.getElem?_drop] using e)))
   rw[←Nat.add_assoc] at x4
   have x5:=((ab fH).bU.cell (p:=⟨g,o+(i*7+5),none⟩) hg).trans (hc _ _ (show cm[i*7+5]?=_ from (by have e:=congrArg (fun t=>t[5]?) dV;simpa[List.getElem?_take,List.getElem?_drop] using e)))
   rw[←Nat.add_assoc] at x5
   have x6:=((ab fH).bU.cell (p:=⟨g,o+(i*7+6),none⟩) hg).trans (hc _ _ (show cm[i*7+6]?=_ from (by have e:=congrArg (fun t=>t[6]?) dV;simpa[List.getElem?_take,List.getElem?_drop] using e)))
   rw[←Nat.add_assoc] at x6
   have ku:(ms.take (i+1)).flatMap (fun m=>ct n aL m.nm (ck f (n+1) m))=(ms.take i).flatMap (fun m=>ct n aL m.nm (ck f (n+1) m))++(fun m=>ct n aL m.nm (ck f (n+1) m)) m:=by
    obtain ⟨II,rfl⟩:=zB hr
    rw[List.take_succ_eq_append_getElem II,List.flatMap_append]
    simp
   have hlen:(L++(ms.take i).flatMap (fun m=>ct n aL m.nm (ck f (n+1) m))).length+(ct n aL m.nm (ck f (n+1) m)).length≤1099511627776:=by
    have e2:ms.flatMap (fun m=>ct n aL m.nm (ck f (n+1) m))=(ms.take (i+1)).flatMap (fun m=>ct n aL m.nm (ck f (n+1) m))++(ms.drop (i+1)).flatMap (fun m=>ct n aL m.nm (ck f (n+1) m)):=by rw[←List.flatMap_append,List.take_append_drop]
    have h1:=congrArg List.length e2
    rw[ku,zK,zK] at h1
    have h2:=ab Hl
    unfold pW at h2
    rw[zK] at h2
    simp only[zK] at h1 h2 ⊢
    omega
   have xg:(ct n aL m.nm (ck f (n+1) m)).length=(aY n [aL,⟨#[32]⟩,m.nm,⟨#[32,123]⟩]).length+(ck f (n+1) m).length+(aY n [⟨#[125]⟩]).length:=by
    unfold ct
    rw[zK,zK]
   have fw:=aJ wr (.cells #[.string nm,.slice Xu fs.length Xi,.slice Xs os.length Xg,.slice Xt rh.length Xh,.slice Xv xu.length Xj,.slice OQ rs.length OJ,.slice OR gs.length OK] 46)
   have bG:Below wr.heap.size wr (wr.alloc (.cells #[.string nm,.slice Xu fs.length Xi,.slice Xs os.length Xg,.slice Xt rh.length Xh,.slice Xv xu.length Xj,.slice OQ rs.length OJ,.slice OR gs.length OK] 46)):=(zE _ _).alloc (zD _) _
   obtain ⟨X,hX⟩:∃X,wr.alloc (.cells #[.string nm,.slice Xu fs.length Xi,.slice Xs os.length Xg,.slice Xt rh.length Xh,.slice Xv xu.length Xj,.slice OQ rs.length OJ,.slice OR gs.length OK] 46)=X:=⟨_,rfl⟩
   rw[hX] at fw bG
   have Bx:=(ab fH).below bG
   have Fg:=(ab fI).trans (Kp.below bG)
   have tK:=al (Fg _ _ _ _ (ab pC) (ab Tv) (by decide))
   have QB:=al (Fg _ _ _ _ (ab Gf) (ab Tn) (by decide))
   have iu:=al fw
   have SZ:=al (show wr.heap.size≠bb by have:=(ab fH).bi.lt.2;omega)
   have SY:=al (show wr.heap.size≠dd by have:=(zA (ab fH).dp).1;omega)
   have qw:=al (xg ▸ hlen)
   have p1:X.cell? ⟨w.heap.size,1,none⟩=some (.func (.func 84) #[] #[.pointer (some ⟨ll,0,none⟩),.pointer (some ⟨dd,0,none⟩)]):=cell_of_row _ _ _ _ _ _ (ab tK)
   have n0:X.cell? ⟨wr.heap.size,0,none⟩=some (.string nm):=cell_of_row _ _ _ _ _ _ fw
   have Kj:=al (qu (I:=(ck f (n+1) m)) (a:=aL) (b:=m.nm) (f:=⟨88,#[],#[.pointer (some ⟨w.heap.size,0,none⟩),.pointer (some ⟨wr.heap.size,0,none⟩)]⟩) Bx (ab Hd) (by have:=ab Hn;omega) (ab QB) (ab Gf) (ab MT) (fun vs w=>by kernel_rfl) (by have:=ab qw;omega) (fun w3 qR oy=>(K5 (oy _ _ _ _ (ab pC) (ab O9) (ab tK) (by decide)) (oy _ _ _ _ (ab SZ) (ab SY) (ab iu) (by decide)) (by
     have:=ih W w3 B bb dd ll _ (n+1) m _ _ _ _ _ _ nm fs os rh xu rs gs Je Kb qR (ab Ti) (ab HFF) (ab Hd) (ab Gf) (ab MT) (by have:=ab Hn;omega) (oy _ _ _ _ (ab Gf) (ab MT) (ab QB) (by decide)) hV (ab Hmo m cJ) (by have:=ab qw;rw[zK];omega)
     exact this))))
   have yR:=al ku
   have FV:Hid ((fun m=>ct n aL m.nm (ck f (n+1) m)) m=aY n [⟨#[109,101,115,115,97,103,101]⟩,⟨#[32]⟩,nm,⟨#[32,123]⟩]++(ck f (n+1) m)++aY n [⟨#[125]⟩]):=by show ct n aL m.nm (ck f (n+1) m)=_;unfold ct aL;rw[CD]
   have Bk:=al Fg
   have i0:(0:Int)≤(i:Int):=zH _
   have i1:(i:Int)<(ms.length:Int):=by omega
   have bu:=al aM
   unfold Fv.val aL at Kj
   simp only at Kj
   rw[CD] at Kj
   clear hc hr cJ y' ku hlen xg fw bG Bx Fg aM dV hV CD
   go_wp2_with fail
   refine (ab Kj).mono ?_
   rintro e' w5 ⟨rfl,nH,jN⟩
   have ma:=al (show Pn W B bb dd (L++(ms.take (i+1)).flatMap (fun m=>ct n aL m.nm (ck f (n+1) m))) n w5 by rw[ab yR,ab FV,←List.append_assoc];exact nH)
   have sH:=al ((ab Bk).trans jN)
   clear nH jN Kj fH fI Bk yR FV
   go_wp2
   go_roundg (ms.length-(i+1))
   case measure=>have:=ab bz;have:=ab bu;omega
   case rel=>exact ⟨i+1,by go_num,rfl,ab bu,ma,sH⟩
  ·obtain rfl:i=ms.length:=by omega
   have vH:=ab fH
   rw[List.take_length] at vH
   have HPe:=al vH
   have HKe:=al (ab fI)
   clear vH fH fI bz
   go_wp2
   go_loopg [9,25] es.length (fun gk _ v25 wr=>∃(i:Nat),v25=.int .i64 (i:Int)∧gk=es.length-i∧i≤es.length∧Hid (Pn W B bb dd (L++ms.flatMap (fun m=>ct n aL m.nm (ck f (n+1) m))++(es.take i).flatMap (jO n)) n wr)∧Hid (Kp bb V wr))
   case atStart=>exact ⟨0,rfl,rfl,by omega,by rw[List.take_zero,List.flatMap_nil,List.append_nil];exact HPe,HKe⟩
   case round =>
    obtain ⟨i,rfl,aW,hi,fH,fI⟩:=hrel
    have bz:=al aW
    clear aW HPe HKe
    by_cases aM:i<es.length
    ·obtain ⟨g,o,rfl,hg,hc⟩:=ab XH (by omega)
     have hr:=List.getElem?_eq_getElem aM
     have cJ:=List.getElem_mem aM
     obtain ⟨m,y'⟩:∃m,es[i]=m:=⟨_,rfl⟩
     rw[y'] at hr cJ
     obtain ⟨vv,vr,vg,dV,Rv,DQ,DR⟩:=(ab X9).at i m hr
     obtain ⟨Xr,Xf,rfl⟩:∃a c,vv=.slice a m.aR.length c:=(by obtain ⟨a,c,h,_⟩:=Rv;exact ⟨a,c,h⟩)
     obtain ⟨OQ,OJ,rfl⟩:∃a c,vr=.slice a m.res.length c:=(by obtain ⟨a,c,h,_⟩:=DQ;exact ⟨a,c,h⟩)
     obtain ⟨OR,OK,rfl⟩:∃a c,vg=.slice a m.gone.length c:=(by obtain ⟨a,c,h,_⟩:=DR;exact ⟨a,c,h⟩)
     have x0:=((ab fH).bU.cell (p:=⟨g,o+(i*4+0),none⟩) hg).trans (hc _ _ (show ce[i*4+0]?=_ from (by have e:=congrArg (fun t=>t[0]?) dV;simpa[List.getElem?_take,List.getElem?_drop] using e)))
     rw[Nat.add_zero] at x0
     have x1:=((ab fH).bU.cell (p:=⟨g,o+(i*4+1),none⟩) hg).trans (hc _ _ (show ce[i*4+1]?=_ from (by have e:=congrArg (fun t=>t[1]?) dV;simpa[List.getElem?_take,List.getElem?_drop] using e)))
     rw[←Nat.add_assoc] at x1
     have x2:=((ab fH).bU.cell (p:=⟨g,o+(i*4+2),none⟩) hg).trans (hc _ _ (show ce[i*4+2]?=_ from (by have e:=congrArg (fun t=>t[2]?) dV;simpa[List.getElem?_take,List.getElem?_drop] using e)))
     rw[←Nat.add_assoc] at x2
     have x3:=((ab fH).bU.cell (p:=⟨g,o+(i*4+3),none⟩) hg).trans (hc _ _ (show ce[i*4+3]?=_ from (by have e:=congrArg (fun t=>t[3]?) dV;simpa[List.getElem?_take,List.getElem?_drop] using e)))
     rw[←Nat.add_assoc] at x3
     have ku:(es.take (i+1)).flatMap (jO n)=(es.take i).flatMap (jO n)++(jO n) m:=by
      obtain ⟨II,rfl⟩:=zB hr
      rw[List.take_succ_eq_append_getElem II,List.flatMap_append]
      simp
     have hlen:(L++ms.flatMap (fun m=>ct n aL m.nm (ck f (n+1) m))++(es.take i).flatMap (jO n)).length+(ct n kO m.name (gp (n+1) m)).length≤1099511627776:=by
      have e2:es.flatMap (jO n)=(es.take (i+1)).flatMap (jO n)++(es.drop (i+1)).flatMap (jO n):=by rw[←List.flatMap_append,List.take_append_drop]
      have h1:=congrArg List.length e2
      rw[ku,zK,zK] at h1
      have h2:=ab Hl
      unfold pW at h2
      rw[zK] at h2
      simp only[zK] at h1 h2 ⊢
      have h3:(jO n m).length=(ct n kO m.name (gp (n+1) m)).length:=rfl
      omega
     have xg:(ct n kO m.name (gp (n+1) m)).length=(aY n [kO,⟨#[32]⟩,m.name,⟨#[32,123]⟩]).length+(gp (n+1) m).length+(aY n [⟨#[125]⟩]).length:=by
      unfold ct
      rw[zK,zK]
     have fw:=aJ wr (.cells #[.string m.name,.slice Xr m.aR.length Xf,.slice OQ m.res.length OJ,.slice OR m.gone.length OK] 67)
     have bG:Below wr.heap.size wr (wr.alloc (.cells #[.string m.name,.slice Xr m.aR.length Xf,.slice OQ m.res.length OJ,.slice OR m.gone.length OK] 67)):=(zE _ _).alloc (zD _) _
     obtain ⟨X,hX⟩:∃X,wr.alloc (.cells #[.string m.name,.slice Xr m.aR.length Xf,.slice OQ m.res.length OJ,.slice OR m.gone.length OK] 67)=X:=⟨_,rfl⟩
     rw[hX] at fw bG
     have Bx:=(ab fH).below bG
     have Fg:=(ab fI).trans (Kp.below bG)
     have tK:=al (Fg _ _ _ _ (ab pC) (ab Tv) (by decide))
     have QB:=al (Fg _ _ _ _ (ab Gf) (ab Tn) (by decide))
     have iu:=al fw
     have SZ:=al (show wr.heap.size≠bb by have:=(ab fH).bi.lt.2;omega)
     have SY:=al (show wr.heap.size≠dd by have:=(zA (ab fH).dp).1;omega)
     have qw:=al (xg ▸ hlen)
     have p1:X.cell? ⟨w.heap.size,1,none⟩=some (.func (.func 84) #[] #[.pointer (some ⟨ll,0,none⟩),.pointer (some ⟨dd,0,none⟩)]):=cell_of_row _ _ _ _ _ _ (ab tK)
     have n0:X.cell? ⟨wr.heap.size,0,none⟩=some (.string m.name):=cell_of_row _ _ _ _ _ _ fw
     have Kj:=al (qu (I:=(gp (n+1) m)) (a:=kO) (b:=m.name) (f:=⟨90,#[],#[.pointer (some ⟨w.heap.size,0,none⟩),.pointer (some ⟨wr.heap.size,0,none⟩)]⟩) Bx (ab Hd) (by have:=ab Hn;omega) (ab QB) (ab Gf) (ab MT) (fun vs w=>by kernel_rfl) (by have:=ab qw;omega) (fun w3 qR oy=>(K4 qR (ab Ti) (ab HFF) Rv DQ DR (ab Heo m cJ) (oy _ _ _ _ (ab pC) (ab O9) (ab tK) (by decide)) (oy _ _ _ _ (ab SZ) (ab SY) (ab iu) (by decide)) (by have:=ab qw;rw[zK];omega))))
     have yR:=al ku
     have FV:Hid ((jO n) m=aY n [⟨#[101,110,117,109]⟩,⟨#[32]⟩,m.name,⟨#[32,123]⟩]++(gp (n+1) m)++aY n [⟨#[125]⟩]):=rfl
     have Bk:=al Fg
     have i0:(0:Int)≤(i:Int):=zH _
     have i1:(i:Int)<(es.length:Int):=by omega
     have bu:=al aM
     unfold Fv.val kO at Kj
     simp only at Kj
     clear hc hr cJ y' ku hlen xg fw bG Bx Fg aM dV Rv DQ DR
     go_wp2_with fail
     refine (ab Kj).mono ?_
     rintro e' w5 ⟨rfl,nH,jN⟩
     have ma:=al (show Pn W B bb dd (L++ms.flatMap (fun m=>ct n aL m.nm (ck f (n+1) m))++(es.take (i+1)).flatMap (jO n)) n w5 by rw[ab yR,ab FV,←List.append_assoc];exact nH)
     have sH:=al ((ab Bk).trans jN)
     clear nH jN Kj fH fI Bk yR FV
     go_wp2
     go_roundg (es.length-(i+1))
     case measure=>have:=ab bz;have:=ab bu;omega
     case rel=>exact ⟨i+1,by go_num,rfl,ab bu,ma,sH⟩
    ·obtain rfl:i=es.length:=by omega
     have MG:=ab fH
     rw[List.take_length,List.append_assoc] at MG
     have HE:=al (show vI W B bb dd (L++pW f n ms es) n w (.returned (.tuple #[])) wr from ⟨rfl,MG,(ab JY).trans (ab fI)⟩)
     clear MG fH fI
     go_wp2
     refine bodyPost_ret (results_none rfl _ _ _) rfl ?_
     exact ab HE
end Go.Proofs.YtichhjfjcinjgaaGreatDoor

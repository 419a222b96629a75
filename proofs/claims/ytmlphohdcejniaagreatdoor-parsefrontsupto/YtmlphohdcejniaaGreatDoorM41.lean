import Derived.Test.YtmlphohdcejniaaGreatDoorM39
import Derived.Test.YtmlphohdcejniaaGreatDoorVE
set_option maxHeartbeats 4000000
set_option maxRecDepth 100000
namespace Go.Proofs.YtmlphohdcejniaaGreatDoor
open Go.RowKit
attribute [local go_sem ↓] Go.wp_at_zero Go.wp_at_succ
theorem WA.nF {V:World}{b:Nat}{r0:Option Nat}{vs:Value}{ps:List (Wd×List Nat)}{D:Nat}{W:World}{t:List Wd}{n c:Nat}{w:World} (h:WA V b r0 vs ps D W t n c w) {vr vg:Value}{rs:List (Int×Int)}{gs:List ByteArray} (hr:kl V vr rs.length (lj rs)) (hg:kl V vg gs.length (bW gs)) (hrs:∀p ∈ rs,(-2147483648≤p.1∧p.1≤2147483647)∧-2147483648≤p.2∧p.2≤2147483647) (hgs:∀x ∈ gs,aR x) (hn:ps.length+n+(20*rs.length+10*gs.length)≤1099511627000) (hD:D+c≤1099511627776) :
  Calls Tryz.prog 42 #[.pointer (some ⟨b,0,none⟩),vr,vg] w fun e w'=>e=.returned (.tuple #[])∧∃t2,EA rs gs t2 (rs.length+gs.length)∧WA V b r0 vs ps D W (t++t2) (n+(20*rs.length+10*gs.length+20)) (c+(rs.length+gs.length)) w':=by
 obtain ⟨⟨r,q,g1,g2,h3,h4⟩,h5⟩:=h
 refine (yR h5 h3 hr hg hrs hgs (by rw[zK];omega) hD).mono ?_
 rintro e w' ⟨rfl,r2,p2,c2,⟨e1,rfl⟩,e2,e3,e4⟩
 exact ⟨rfl,_,e1,la g1 g2 h3 h4 h5 rfl e2 e3 e4⟩
structure EK (x:En):Prop where
 nm:aR x.name
 ne:x.bL≠[]
 bL:∀p ∈ x.bL,sX p.1∧-2147483648≤p.2∧p.2≤2147483647
 res:∀p ∈ x.res,-2147483648≤p.1∧p.1≤p.2∧p.2≤2147483647
 gone:∀y ∈ x.gone,aR y
theorem Ry:aR ⟨#[101,110,117,109]⟩:=by
 refine ⟨?_,by decide,by decide⟩
 kernel_rfl
theorem Iz:∀(rs:List (Int×Int)) (x:En),rs.foldl (fun (x:En) p=>{ x with res:=x.res++[p] }) x={ x with res:=x.res++rs }
 |[],x=>by simp
 |p::r,x=>by
  rw[List.foldl_cons,Iz r]
  simp
theorem Rz {x:En} (hx:EK x) {t:List Wd}{c:Nat} (h:EA x.res x.gone t c):eU RD 0 t c ⟨x.name,[],[],[]⟩ ⟨x.name,[],x.res,x.gone⟩:=by
 have:=h En RD 0 (fun x p=>{ x with res:=x.res++[p] }) (fun x gs=>{ x with gone:=x.gone++gs }) (fun y p hp=>Vw (hx.res p hp)) (fun y eo=>RA eo hx.gone) (fun y=>Iy y 0) ⟨x.name,[],[],[]⟩
 rw[Iz] at this
 by_cases hg:x.gone=[]
 ·rw[if_pos hg] at this
  rw[hg]
  exact this
 ·rw[if_neg hg] at this
  exact this
theorem B3 {l:List (ByteArray×Int)}{i:Nat}{p:ByteArray×Int} (h:l[i]?=some p):(xZ l)[i*2]?=some (.string p.1)∧(xZ l)[i*2+1]?=some (.int .i64 p.2):=Ga l i p h
theorem IX {V W:World}{b:Nat}{r:Option Nat}{vs:Value}{ps:List (Wd×List Nat)}{D:Nat} (hV:WE V W b) (h:mV b r vs ps D W) {x:En} (hx:EK x) {vv vr vg:Value} (hv:kl V vv x.bL.length (xZ x.bL)) (hr:kl V vr x.res.length (lj x.res)) (hg:kl V vg x.gone.length (bW x.gone)) (hn:ps.length+(20*x.res.length+10*x.gone.length+20*x.bL.length)≤1099511626000) (hD:D+(x.res.length+x.gone.length+x.bL.length)≤1099511620000) :
  Calls Tryz.prog 24 #[.pointer (some ⟨b,0,none⟩),.agg #[.string x.name,vv,vr,vg]] W (Wr b r vs ps D W (20*x.res.length+10*x.gone.length+20*x.bL.length+60) fun t c=>Xk x t c∧c=1+(x.res.length+x.gone.length+x.bL.length)):=by
 obtain ⟨nm,bL,res,gone⟩:=x
 simp only at hv hr hg hn hD ⊢
 have ba:Below W.heap.size W (W.alloc (.cells #[.string nm,vv,vr,vg] 68)):=(zE _ _).alloc (zD _) _
 have bo:(W.alloc (.cells #[.string nm,vv,vr,vg] 68)).heap[W.heap.size]?=some (.cells #[.string nm,vv,vr,vg] 68 (0,0)):=aC _ _
 obtain ⟨W1,ET⟩:∃W1,W.alloc (.cells #[.string nm,vv,vr,vg] 68)=W1:=⟨_,rfl⟩
 rw[ET] at ba bo
 have Pc:=aj (WA.start (h.up ba) (hV.up ba))
 have HKw:Hid (KW b r W W1 r):=.dX ba
 have HBx:Hid (∀w r',KW b r W1 w r'→w.heap[W.heap.size]?=some (.cells #[.string nm,vv,vr,vg] 68 (0,0))):=fun w r' hk=>(hk.block _ (zA bo).1 (by have:=h.lt;omega) (fun e=>by have:=(h.row _ e).2;omega)).trans bo
 have IT:Hid (∀w t n c,WA V b r vs ps D W1 t n c w→w.cell? ⟨W.heap.size,0,none⟩=some (.string nm)∧w.cell? ⟨W.heap.size,1,none⟩=some vv∧w.cell? ⟨W.heap.size,2,none⟩=some vr∧w.cell? ⟨W.heap.size,3,none⟩=some vg):=fun w t n c ha=>by
  obtain ⟨⟨r9,q9,_,_,_,k4⟩,_⟩:=ha
  have:=aa HBx w r9 k4
  exact ⟨cell_of_row _ _ _ _ _ _ this,cell_of_row _ _ _ _ _ _ this,cell_of_row _ _ _ _ _ _ this,cell_of_row _ _ _ _ _ _ this⟩
 obtain ⟨va,vc,rfl,hvm,M3⟩:=hv
 have HR:=aj hr
 have HG:=aj hg
 obtain ⟨ra,rc,rfl,hrm,-⟩:=id hr
 obtain ⟨ga,gc,rfl,hgm,-⟩:=id hg
 have Z5:=aj M3
 have HX:=aj hx
 have Hn:=aj hn
 have HD:=aj hD
 have e0:=ET
 have Po:nm.size≤30:=hx.nm.2.2
 clear M3 hr hg hx hn hD h hV ba bo ET hrm hgm
 go_enter Tryz.func24,Tryz.ntmps24
 obtain ⟨x0,x1,x2,x3⟩:=aa IT W1 _ _ _ (aa Pc)
 have HP:=aj ((aa Pc).put (by have:=aa Hn;omega) [(1,⟨#[101,110,117,109]⟩),(1,nm),sg 123] (fun y hy=>by
  rcases List.mem_cons.1 hy with rfl|hy
  ·exact eA Ry
  ·rcases List.mem_cons.1 hy with rfl|hy
   ·exact eA (aa HX).nm
   ·rw[List.mem_singleton.1 hy];exact fV 123 (by decide)) (by simp) #[.string ⟨#[101,110,117,109]⟩,.string nm,.string ⟨#[123]⟩] rfl 3 rfl)
 go_wp2_with fail
 refine (aa HP).mono ?_
 rintro e w1 ⟨rfl,ha⟩
 have yI:=aj ha
 obtain ⟨x0,x1,x2,x3⟩:=aa IT w1 _ _ _ ha
 obtain ⟨c3,z3⟩:=ha.cells
 clear HP ha
 have jz:=(aa yI).decl
 obtain ⟨Di,zd⟩:∃Di,((D+0:Nat):Int)=Di:=⟨_,rfl⟩
 have d0:(0:Int)≤Di:=by rw[←zd];exact zH _
 have dB:Di≤1099511620000:=by have:=aa HD;omega
 rw[zd] at c3 jz
 obtain ⟨w1b,QH⟩:∃x,w1.setCell ⟨b,3,none⟩ (.int .i64 (Di+1))=x:=⟨_,rfl⟩
 rw[QH] at jz
 have mz:=aj jz
 have y:=aa IT w1b _ _ _ jz
 clear zd jz
 have HP:=aj ((aa mz).nF (aa HR) (aa HG) (fun p hp=>by have:=(aa HX).res p hp;exact ⟨⟨by omega,by omega⟩,by omega,by omega⟩) (aa HX).gone (by have:=aa Hn;omega) (by have:=aa HD;omega))
 go_upto_region 3 with fail
 clear x0 x1 x2 x3 QH c3 z3
 obtain ⟨x0,x1,x2,x3⟩:=y
 go_wp2_with fail
 refine (aa HP).mono ?_
 rintro e w2 ⟨rfl,t2,xL,ha⟩
 have oC:=aj ha
 have HE:=aj (Rz (aa HX) xL)
 clear HP ha xL x0 x1 x2 x3
 obtain ⟨x0,x1,x2,x3⟩:=aa IT w2 _ _ _ (aa oC)
 go_wp2
 clear x0 x1 x2 x3
 go_loopg [4] bL.length (fun gk v4 wr=>∃(j:Nat) (u:List Wd),v4=.int .i64 (j:Int)∧gk=bL.length-j∧j≤bL.length∧Hid (WA V b r vs ps D W1 ([]++[(1,⟨#[101,110,117,109]⟩),(1,nm),sg 123]++u) (0+3+(20*res.length+10*gone.length+20)+20*j) (0+1+(res.length+gone.length)+j) wr)∧Hid (eU RD 0 u ((res.length+gone.length)+j) ⟨nm,[],[],[]⟩ ⟨nm,bL.take j,res,gone⟩))
 case atStart=>exact ⟨0,t2,rfl,rfl,by omega,aa oC,aa HE⟩
 case round =>
  obtain ⟨j,u,rfl,fi,YM,EJ,Tl⟩:=hrel
  have gA:=aj fi
  clear fi oC HE
  obtain ⟨x0,x1,x2,x3⟩:=aa IT wr _ _ _ (aa EJ)
  by_cases cw:j<bL.length
  ·obtain ⟨p,hp⟩:∃p,bL[j]?=some p:=⟨_,List.getElem?_eq_getElem cw⟩
   obtain ⟨g,rfl,me,hc⟩:=aa Z5 (by omega)
   have AZ:Hid (∀w',Below V.heap.size V w'→w'.cell? ⟨g,j*2,none⟩=some (.string p.1)∧w'.cell? ⟨g,j*2+1,none⟩=some (.int .i64 p.2)):=fun w' hb =>
    ⟨(hb.cell (p:=⟨g,j*2,none⟩) me).trans (hc _ _ (B3 hp).1),(hb.cell (p:=⟨g,j*2+1,none⟩) me).trans (hc _ _ (B3 hp).2)⟩
   have V1:=aj ((aa HX).bL p (List.mem_of_getElem? hp))
   have yP:=aj (eD hp)
   have dN:=aj cw
   have j0:(0:Int)≤(j:Int):=zH _
   have j1:(j:Int)<(bL.length:Int):=by omega
   clear hp hc cw
   obtain ⟨p1,p2⟩:=p
   simp only at AZ V1
   have kJ:p1.size≤30:=(aa V1).1.1.2.2
   obtain ⟨y0,y1⟩:=aa AZ wr (aa EJ).we.below
   have HP:=aj ((aa EJ).put (by have:=aa Hn;have:=aa dN;omega) [(1,p1),sg 61] (fun y hy=>by
    rcases List.mem_cons.1 hy with rfl|hy
    ·exact eA (aa V1).1.1
    ·rw[List.mem_singleton.1 hy];exact fV 61 (by decide)) (by simp) #[.string p1,.string ⟨#[61]⟩] rfl 2 rfl)
   go_wp2_with fail
   refine (aa HP).mono ?_
   rintro e w3 ⟨rfl,ha⟩
   have ta:=aj ha
   clear HP ha x0 x1 x2 x3 y0 y1
   obtain ⟨x0,x1,x2,x3⟩:=aa IT w3 _ _ _ (aa ta)
   obtain ⟨y0,y1⟩:=aa AZ w3 (aa ta).we.below
   have HP:=aj ((aa ta).number (by have:=aa Hn;have:=aa dN;omega) (aa V1).2.1 (aa V1).2.2)
   go_wp2_with fail
   refine (aa HP).mono ?_
   rintro e w4 ⟨rfl,ha⟩
   have KG:=aj ha
   clear HP ha x0 x1 x2 x3 y0 y1
   have HP:=aj ((aa KG).yT (by have:=aa Hn;have:=aa dN;omega))
   go_wp2_with fail
   refine (aa HP).mono ?_
   rintro e w5 ⟨rfl,s,hs,ha⟩
   have HA7:=aj ha
   have HS:=aj hs
   clear HP ha hs
   obtain ⟨c3,z3⟩:=(aa HA7).cells
   have jz:=(aa HA7).decl
   obtain ⟨Dj,xV⟩:∃Dj,((D+(0+1+(res.length+gone.length)+j):Nat):Int)=Dj:=⟨_,rfl⟩
   have d0:(0:Int)≤Dj:=by rw[←xV];exact zH _
   have dB:Dj≤1099511630000:=by have:=aa HD;have:=aa dN;omega
   rw[xV] at c3 jz
   have HA8:=aj jz
   have HE8:Hid (eU RD 0 (u++(iY p1 p2++s.drop 1)) ((res.length+gone.length)+(j+1)) ⟨nm,[],[],[]⟩ ⟨nm,bL.take (j+1),res,gone⟩):=by
    have e1:=(aa Tl).trans (Vu (x:=⟨nm,bL.take j,res,gone⟩) (K:=0) (aa V1).1 (aa V1).2)
    rw[aa yP]
    rcases aa HS with rfl|rfl
    ·exact e1.cast (by simp[List.drop]) (by omega)
    ·exact (e1.trans (Iy _ 0)).cast (by simp[List.drop]) (by omega)
   have EP:bL.length≤1099511626000:=by have:=aa Hn;omega
   clear xV jz
   go_wp2
   go_roundg (bL.length-(j+1))
   case measure=>have:=aa gA;have:=aa dN;omega
   case rel=>exact ⟨j+1,u++(iY p1 p2++s.drop 1),by go_num,rfl,aa dN,(aa HA8).cast (by rcases aa HS with rfl|rfl<;>simp[iY,List.drop]) (by omega),aa HE8⟩
  ·obtain rfl:j=bL.length:=by omega
   have HP:=aj ((aa EJ).put (by have:=aa Hn;omega) [sg 125] (fun y hy=>by rw[List.mem_singleton.1 hy];exact fV 125 (by decide)) (by decide) #[.string ⟨#[125]⟩] rfl 1 rfl)
   go_wp2_with fail
   refine (aa HP).mono ?_
   rintro e w5 ⟨rfl,ha⟩
   have jn:Hid (Wr b r vs ps D W (20*res.length+10*gone.length+20*bL.length+60) (fun t c=>Xk ⟨nm,bL,res,gone⟩ t c∧c=1+(res.length+gone.length+bL.length)) (.returned (.tuple #[])) w5):=by
    obtain ⟨r9,q9,k1,k2,k3,k4⟩:=ha.ex
    have hE:=aa Tl
    rw[List.take_length] at hE
    have hT:=RB hE (aa HX).nm (aa HX).ne
    refine ⟨rfl,r9,q9,0+1+(res.length+gone.length)+bL.length,⟨?_,by omega⟩,by omega,k3,(aa HKw).trans k4⟩
    rw[k1]
    have e2:1+(res.length+gone.length+bL.length)=0+1+(res.length+gone.length)+bL.length:=by omega
    rw[e2] at hT
    have e3:[]++[(1,⟨#[101,110,117,109]⟩),(1,nm),sg 123]++u++[sg 125]=(1,⟨#[101,110,117,109]⟩)::(1,nm)::sg 123::(u++[sg 125]):=by simp
    rw[e3]
    exact hT
   clear HP ha x0 x1 x2 x3
   go_wp2
   go_end0
   exact aa jn
end Go.Proofs.YtmlphohdcejniaaGreatDoor
namespace Go.Proofs.YtmlphohdcejniaaGreatDoor
open Go.RowKit
def gW (n:Nat):Nat→Nat→List Fd→Prop
 |k,_,[]=>k=n
 |k,op,d::r=>(d.oneof=0∧gW n k 0 r)∨(d.oneof=(k:Int)∧op=k∧0<k∧gW n k k r)∨(d.oneof=((k+1:Nat):Int)∧gW n (k+1) (k+1) r)
theorem lX {n:Nat}:∀(l:List Fd) (k op:Nat),gW n k op l→k≤n
 |[],k,_,h=>Nat.le_of_eq h
 |d::r,k,op,h=>by
  rcases h with ⟨_,h⟩|⟨_,_,_,h⟩|⟨_,h⟩
  ·exact lX r _ _ h
  ·exact lX r _ _ h
  ·have:=lX r _ _ h;omega
theorem mH {n:Nat}:∀(l:List Fd) (k op:Nat),gW n k op l→n≤k+l.length
 |[],k,_,h=>Nat.le_of_eq h.symm
 |d::r,k,op,h=>by
  rw[List.length_cons]
  rcases h with ⟨_,h⟩|⟨_,_,_,h⟩|⟨_,h⟩
  ·have:=mH r _ _ h;omega
  ·have:=mH r _ _ h;omega
  ·have:=mH r _ _ h;omega
theorem qp (u:Nat):dO (u:Int)=[(2,dec u)]:=by
 unfold dO
 rw[if_neg (by omega)]
 rfl
structure FdR (d:Fd):Prop where
 ty:∃ps,Cu d ps
 cd:(d.dQ=1∧d.key=⟨#[]⟩)∨(d.oneof=0∧((d.dQ=2∧d.key=⟨#[]⟩)∨(d.dQ=3∧d.key=⟨#[]⟩)∨(d.dQ=4∧∃ks,ik ks∧d.key=iu ks)))
def jP (d:Fd) (ft:List Wd):Prop:=∃ps,Cu d ps∧((d.dQ=1∧d.key=⟨#[]⟩∧ft=bG ps)∨(d.oneof=0∧((d.dQ=2∧d.key=⟨#[]⟩∧ft=(1,Jz)::bG ps)∨(d.dQ=3∧d.key=⟨#[]⟩∧ft=(1,Js)::bG ps)∨(d.dQ=4∧∃ks,ik ks∧d.key=iu ks∧ft=(1,⟨#[109,97,112]⟩)::sg 60::(bG ks++sg 44::(bG ps++[sg 62]))))))
theorem NN {d:Fd}{ft:List Wd} (h:jP d ft) (h0:d.oneof=0) (mf:aD→Except (Int×Int) (Ms×aD)) (K:Nat) (x:Mp):eU (kH mf) K (ft++iY d.name d.num) 1 x { x with fs:=x.fs++[d] }:=by
 obtain ⟨ps,hp,h⟩:=h
 rcases h with ⟨c1,c2,rfl⟩|⟨_,h⟩
 ·exact NI hp ⟨c1,c2,h0⟩
 ·rcases h with ⟨c1,c2,rfl⟩|⟨c1,c2,rfl⟩|⟨c1,ks,hk,c2,rfl⟩
  ·exact D5 (.inl ⟨rfl,rfl⟩) hp ⟨c1,c2,h0⟩
  ·exact D5 (.inr ⟨rfl,rfl⟩) hp ⟨c1,c2,h0⟩
  ·exact (Va hp hk ⟨c1,c2,h0⟩).cast (by simp[JL]) rfl
theorem Ay {d:Fd}{ft:List Wd}{x:Mp} (h:jP d ft) (h0:d.oneof=(x.os.length:Int)) (eo:d.oneof≠0) (K:Nat):eU WT K (ft++iY d.name d.num) 1 x { x with fs:=x.fs++[d] }:=by
 obtain ⟨ps,hp,h⟩:=h
 rcases h with ⟨c1,c2,rfl⟩|⟨h2,_⟩
 ·exact Kk hp ⟨c1,c2,h0⟩
 ·exact absurd h2 eo
def Hm (nm:ByteArray) (fs:List Fd) (os:List ByteArray):Mp:=⟨nm,fs,os,[],[],[],[]⟩
def FS (nm:ByteArray) (fs:List Fd) (os:List ByteArray) (i k op:Nat) (u:List Wd) (c:Nat):Prop :=
 (op=0∧∀(mf:aD→Except (Int×Int) (Ms×aD)) (K:Nat),eU (kH mf) K u c (Hm nm [] []) (Hm nm (fs.take i) (os.take k))) ∨
 (op=k∧0<k∧∃u0 u1 c0 c1 i0 o,u=u0++((1,tf)::(1,o)::sg 123::u1)∧c=c0+1+c1∧os[k-1]?=some o∧aR o∧i0<i∧i≤fs.length ∧
  (∀(mf:aD→Except (Int×Int) (Ms×aD)) (K:Nat),eU (kH mf) K u0 c0 (Hm nm [] []) (Hm nm (fs.take i0) (os.take (k-1)))) ∧
  ∀K:Nat,eU WT K u1 c1 (Hm nm (fs.take i0) (os.take (k-1)++[o])) (Hm nm (fs.take i) (os.take k)))
theorem FS.start (nm:ByteArray) (fs:List Fd) (os:List ByteArray):FS nm fs os 0 0 0 [] 0:=.inl ⟨rfl,fun _ _=>eU.nil _⟩
theorem FS.close {nm:ByteArray}{fs:List Fd}{os:List ByteArray}{i k op:Nat}{u:List Wd}{c:Nat} (h:FS nm fs os i k op u c) (jS:op≠0):FS nm fs os i k 0 (u++[sg 125]) c:=by
 rcases h with ⟨h0,_⟩|⟨_,hk,u0,u1,c0,c1,i0,o,rfl,rfl,ho,hn,hi,hil,h1,h2⟩
 ·exact absurd h0 jS
 ·refine .inl ⟨rfl,fun mf K=>?_⟩
  have e:=NJ (mf:=mf) (K:=K) (x:=Hm nm (fs.take i0) (os.take (k-1))) (y:=Hm nm (fs.take i) (os.take k)) hn (h2 K) (by
   show (fs.take i0).length<(fs.take i).length
   rw[List.length_take,List.length_take]
   omega)
  exact ((h1 mf K).trans e).cast (by simp) (by omega)
theorem FS.field {nm:ByteArray}{fs:List Fd}{os:List ByteArray}{i k:Nat}{u:List Wd}{c:Nat}{d:Fd}{ft s:List Wd} (h:FS nm fs os i k 0 u c) (hd:fs[i]?=some d) (hf:jP d ft) (h0:d.oneof=0) (hs:s=[sg 59]∨s=[sg 59,sg 59]):FS nm fs os (i+1) k 0 (u++(ft++((1,d.name)::sg 61::(dO d.num++s)))) (c+1):=by
 rcases h with ⟨_,h1⟩|⟨lM,hk,_⟩
 ·refine .inl ⟨rfl,fun mf K=>?_⟩
  have e:=(h1 mf K).trans (NN hf h0 mf K _)
  rw[eD hd]
  rcases hs with rfl|rfl
  ·exact e.cast (by simp[iY]) rfl
  ·exact (e.trans (Ip mf _ K)).cast (by simp[iY]) rfl
 ·omega
theorem FS.inner {nm:ByteArray}{fs:List Fd}{os:List ByteArray}{i k:Nat}{u:List Wd}{c:Nat}{d:Fd}{ft s:List Wd} (h:FS nm fs os i k k u c) (hk:0<k) (hko:k≤os.length) (hd:fs[i]?=some d) (hf:jP d ft) (h0:d.oneof=(k:Int)) (hs:s=[sg 59]∨s=[sg 59,sg 59]):FS nm fs os (i+1) k k (u++(ft++((1,d.name)::sg 61::(dO d.num++s)))) (c+1):=by
 have hil:=(zB hd).1
 rcases h with ⟨h1,_⟩|⟨_,_,u0,u1,c0,c1,i0,o,rfl,rfl,ho,hn,hi,_,h1,h2⟩
 ·omega
 ·refine .inr ⟨rfl,hk,u0,u1++(ft++((1,d.name)::sg 61::(dO d.num++s))),c0,c1+1,i0,o,by simp,by omega,ho,hn,by omega,by omega,h1,fun K=>?_⟩
  have e:=(h2 K).trans (Ay (x:=Hm nm (fs.take i) (os.take k)) hf (by show d.oneof=((os.take k).length:Int);rw[List.length_take,Nat.min_eq_left hko];exact h0) (by rw[h0];omega) K)
  rw[eD hd]
  rcases hs with rfl|rfl
  ·exact e.cast (by simp[iY]) rfl
  ·exact (e.trans (Ek _ K)).cast (by simp[iY]) rfl
theorem FS.begin {nm:ByteArray}{fs:List Fd}{os:List ByteArray}{i k:Nat}{u:List Wd}{c:Nat}{d:Fd}{ft s:List Wd}{o:ByteArray} (h:FS nm fs os i k 0 u c) (ho:os[k]?=some o) (hn:aR o) (hd:fs[i]?=some d) (hf:jP d ft) (h0:d.oneof=((k+1:Nat):Int)) (hs:s=[sg 59]∨s=[sg 59,sg 59]):FS nm fs os (i+1) (k+1) (k+1) (u++((1,tf)::(1,o)::sg 123::(ft++((1,d.name)::sg 61::(dO d.num++s))))) (c+1+1):=by
 have hil:=(zB hd).1
 have UB:=(zB ho).1
 rcases h with ⟨_,h1⟩|⟨lM,hk,_⟩
 ·refine .inr ⟨rfl,by omega,u,ft++((1,d.name)::sg 61::(dO d.num++s)),c,1,i,o,rfl,by omega,by rw[Nat.add_sub_cancel];exact ho,hn,by omega,by omega,by rw[Nat.add_sub_cancel];exact h1,fun K=>?_⟩
  rw[Nat.add_sub_cancel,eD hd,eD ho]
  have e:=Ay (x:=Hm nm (fs.take i) (os.take k++[o])) hf (by show d.oneof=((os.take k++[o]).length:Int);rw[zK,List.length_take,Nat.min_eq_left (by omega)];exact h0) (by rw[h0];omega) K
  rcases hs with rfl|rfl
  ·exact e.cast (by simp[iY]) rfl
  ·exact (e.trans (Ek _ K)).cast (by simp[iY]) rfl
 ·omega
def Gw:Nat→Ms→Prop
 |0,_=>False
 |f+1,.mk nm fs os ms es rs gs=>aR nm∧(∀d ∈ fs,FdR d)∧(∀o ∈ os,aR o)∧gW os.length 0 0 fs∧(∀m ∈ ms,Gw f m)∧(∀e ∈ es,EK e)∧(∀p ∈ rs,1≤p.1∧p.1≤p.2∧p.2≤536870911)∧∀y ∈ gs,aR y
theorem G':∀(rs:List (Int×Int)) (x:Mp),rs.foldl (fun (x:Mp) p=>{ x with rs:=x.rs++[p] }) x={ x with rs:=x.rs++rs }
 |[],x=>by simp
 |p::r,x=>by
  rw[List.foldl_cons,G' r]
  simp
theorem Qt {mf:aD→Except (Int×Int) (Ms×aD)}{K:Nat}{rs:List (Int×Int)}{gs:List ByteArray} (hr:∀p ∈ rs,1≤p.1∧p.1≤p.2∧p.2≤536870911) (hg:∀y ∈ gs,aR y) {t:List Wd}{c:Nat} (h:EA rs gs t c) (x:Mp):eU (kH mf) K t c x { x with rs:=x.rs++rs,gs:=x.gs++gs }:=by
 have:=h Mp (kH mf) K (fun x p=>{ x with rs:=x.rs++[p] }) (fun x gs=>{ x with gs:=x.gs++gs }) (fun y p hp=>U9 (hr p hp)) (fun y eo=>Ra eo hg) (fun y=>Ip mf y K) x
 rw[G'] at this
 by_cases BN:gs=[]
 ·rw[if_pos BN] at this
  rw[BN,List.append_nil]
  exact this
 ·rw[if_neg BN] at this
  exact this
def nQ (e:En):Nat:=20*e.res.length+10*e.gone.length+20*e.bL.length+60
def pT (e:En):Nat:=1+(e.res.length+e.gone.length+e.bL.length)
def bI {α:Type} (f:α→Nat):List α→Nat
 |[]=>0
 |x::r=>f x+bI f r
def ni:Nat→Ms→Nat
 |0,_=>0
 |f+1,.mk _ fs _ ms es rs gs=>100+100*fs.length+(20*rs.length+10*gs.length)+bI (ni f) ms+bI nQ es
def By:Nat→Ms→Nat
 |0,_=>0
 |f+1,.mk _ fs _ ms es rs gs=>1+2*fs.length+(rs.length+gs.length)+bI (By f) ms+bI pT es
theorem kB {α:Type} (f:α→Nat):∀(a b:List α),bI f (a++b)=bI f a+bI f b
 |[],b=>by simp[bI]
 |x::a,b=>by show f x+bI f (a++b)=f x+bI f a+bI f b;rw[kB f a b];omega
theorem iO {α:Type} (f:α→Nat) (l:List α) (i:Nat):bI f (l.take i)≤bI f l:=by
 have:=kB f (l.take i) (l.drop i)
 rw[List.take_append_drop] at this
 omega
theorem fA {α:Type} (f:α→Nat) {l:List α}{i:Nat}{x:α} (h:l[i]?=some x):bI f (l.take (i+1))=bI f (l.take i)+f x:=by
 rw[eD h,kB]
 rfl
theorem nw {α:Type} (g:α→Nat):∀(l:List α),(∀x ∈ l,1≤g x)→l.length≤bI g l
 |[],_=>Nat.zero_le _
 |x::r,h=>by
  have:=nw g r (fun y hy=>h y (zF _ hy))
  have:=h x List.mem_cons_self
  show r.length+1≤g x+bI g r
  omega
theorem Hj {f:Nat}{m:Ms} (h:Gw f m):1≤ni f m:=by
 cases f with
 |zero=>exact h.elim
 |succ f =>
  obtain ⟨nm,fs,os,ms,es,rs,gs⟩:=m
  show 1≤100+100*fs.length+(20*rs.length+10*gs.length)+bI (ni f) ms+bI nQ es
  omega
theorem IB (e:En):1≤nQ e:=by unfold nQ;omega
end Go.Proofs.YtmlphohdcejniaaGreatDoor
namespace Go.Proofs.YtmlphohdcejniaaGreatDoor
open Go.RowKit
attribute [local go_sem ↓] Go.wp_at_zero Go.wp_at_succ
def PM (w:World) (cs:List Value) (l:List En):Prop:=∀(i:Nat) (e:En),l[i]?=some e→∃vv vr vg,(cs[i*4]?=some (.string e.name)∧cs[i*4+1]?=some vv∧cs[i*4+2]?=some vr∧cs[i*4+3]?=some vg)∧kl w vv e.bL.length (xZ e.bL)∧kl w vr e.res.length (lj e.res)∧kl w vg e.gone.length (bW e.gone)
theorem eS.rd {P:Nat→Prop}{w:World}{cs:List Value}{l:List En} (h:eS P w cs l):PM w cs l:=by
 induction h with
 |nil=>intro i e h;simp at h
 |cons hv hr hg _ ih =>
  intro i e h
  cases i with
  |zero =>
   obtain rfl:=zC h
   exact ⟨_,_,_,⟨rfl,rfl,rfl,rfl⟩,hv.rd,hr.rd,hg.rd⟩
  |succ i =>
   obtain ⟨vv,vr,vg,h1,h2⟩:=ih i e (by simpa using h)
   refine ⟨vv,vr,vg,?_,h2⟩
   rw[show (i+1)*4=i*4+4 by omega]
   exact h1
theorem PM.up {w w':World}{cs:List Value}{l:List En} (h:PM w cs l) (hb:Below w.heap.size w w'):PM w' cs l:=fun i e hi=>by
 obtain ⟨vv,vr,vg,h1,h2,h3,h4⟩:=h i e hi
 exact ⟨vv,vr,vg,h1,h2.up hb,h3.up hb,h4.up hb⟩
structure KA (W:World) (p q:Nat) (xs ys:Array Value) (t:TypeId) (w:World):Prop where
 bl:Below W.heap.size W w
 x:∀j,w.cell? ⟨p,j,none⟩=xs[j]?
 y:∀j,w.cell? ⟨q,j,none⟩=ys[j]?
 lx:p<w.heap.size
 ly:q<w.heap.size
theorem wK {W wr:World} (hb:Below W.heap.size W wr) (xs ys:Array Value) (t:TypeId):KA W wr.heap.size (wr.heap.size+1) xs ys t ((wr.alloc (.cells xs t)).alloc (.cells ys t)):=by
 have h1:=hb.size
 refine ⟨(hb.alloc h1 _).alloc (by rw[zJ];omega) _,fun j=>?_,fun j=>?_,by rw[zJ,zJ];omega,by rw[zJ,zJ];omega⟩
 ·rw[World.cell?_alloc_past _ _ _ (by rw[zJ];omega),World.cell?_alloc_at _ _ _ _ rfl]
 ·rw[World.cell?_alloc_at _ _ _ _ (by rw[zJ])]
theorem KA.up {W w w':World}{p q:Nat}{xs ys:Array Value}{t:TypeId} (h:KA W p q xs ys t w) (hb:Below w.heap.size w w'):KA W p q xs ys t w' :=
 ⟨h.bl.trans (hb.mono h.bl.size),fun j=>(hb.cell (p:=⟨p,j,none⟩) h.lx).trans (h.x j),fun j=>(hb.cell (p:=⟨q,j,none⟩) h.ly).trans (h.y j),Nat.lt_of_lt_of_le h.lx hb.size,Nat.lt_of_lt_of_le h.ly hb.size⟩
theorem yU (W:World) (a a':Option Addr) (c c':Nat):Calls Tryz.prog 26 #[.slice a 0 c,.slice a' 0 c'] W (pg W):=by
 go_enter Tryz.func26,Tryz.ntmps26
 go_wp2
 go_loopg [5] 1 (fun gk v5 wr=>v5=.int .i64 0∧wr=W)
 case atStart=>exact ⟨rfl,rfl⟩
 case round =>
  obtain ⟨rfl,rfl⟩:=hrel
  go_wp2
  go_ret
  exact ⟨rfl,zE _ _⟩
theorem oT {W:World}{v u:Value}{l:List En}{cs kO:List Value} (h:kl W v l.length cs) (hE:PM W cs l) (h':kl W u l.length kO) (Zk:PM W kO l):Calls Tryz.prog 26 #[v,u] W (pg W):=by
 obtain ⟨a,c,rfl,hc,h3⟩:=h
 obtain ⟨a',c',rfl,Nr,CB⟩:=h'
 by_cases hz:l.length=0
 ·rw[hz]
  exact yU W a a' c c'
 obtain ⟨g,rfl,hg,hx⟩:=h3 (by omega)
 obtain ⟨g',rfl,rh,rS⟩:=CB (by omega)
 have HX:=aj hx
 have KR:=aj rS
 have HE:=aj hE
 have HE':=aj Zk
 clear h3 CB hx rS hE Zk hz
 unfold maxLen at hc Nr
 have hll:((l.length:Int) != (l.length:Int))=false:=by simp
 go_enter Tryz.func26,Tryz.ntmps26
 go_wp2
 go_loopg [5] l.length (fun gk v5 wr=>∃(i:Nat),v5=.int .i64 (i:Int)∧gk=l.length-i∧i≤l.length∧Hid (Below W.heap.size W wr))
 case atStart=>exact ⟨0,rfl,rfl,by omega,zE _ _⟩
 case round =>
  obtain ⟨i,rfl,fi,hi,HB⟩:=hrel
  have gA:=aj fi
  clear fi
  by_cases cw:i<l.length
  ·obtain ⟨t,ht⟩:∃t,l[i]?=some t:=⟨_,List.getElem?_eq_getElem cw⟩
   have hB:=aa HB
   obtain ⟨vv,vr,vg,⟨x0,x1,x2,x3⟩,rv,rr,rg⟩:=aa HE i t ht
   obtain ⟨vv',Xp,Xr,⟨y0,y1,y2,y3⟩,rv',XG,XI⟩:=aa HE' i t ht
   have RV:=aj rv
   have RR:=aj rr
   have RG:=aj rg
   have RV':=aj rv'
   have RR':=aj XG
   have RG':=aj XI
   obtain ⟨av,cv,rfl,EP,_⟩:=rv
   obtain ⟨av',cv',rfl,_,_⟩:=rv'
   obtain ⟨ar,cr,rfl,_,_⟩:=rr
   obtain ⟨ar',cr',rfl,_,_⟩:=XG
   obtain ⟨ag,cg,rfl,_,_⟩:=rg
   obtain ⟨ag',cg',rfl,_,_⟩:=XI
   unfold maxLen at EP
   have J2:g'<wr.heap.size:=Nat.lt_of_lt_of_le rh hB.size
   have d0:=(hB.cell (p:=⟨g,i*4,none⟩) hg).trans (aa HX _ _ x0)
   have d1:=(hB.cell (p:=⟨g,i*4+1,none⟩) hg).trans (aa HX _ _ x1)
   have d2:=(hB.cell (p:=⟨g,i*4+2,none⟩) hg).trans (aa HX _ _ x2)
   have d3:=(hB.cell (p:=⟨g,i*4+3,none⟩) hg).trans (aa HX _ _ x3)
   have f0:=(hB.cell (p:=⟨g',i*4,none⟩) rh).trans (aa KR _ _ y0)
   have f1:=(hB.cell (p:=⟨g',i*4+1,none⟩) rh).trans (aa KR _ _ y1)
   have f2:=(hB.cell (p:=⟨g',i*4+2,none⟩) rh).trans (aa KR _ _ y2)
   have f3:=(hB.cell (p:=⟨g',i*4+3,none⟩) rh).trans (aa KR _ _ y3)
   have gf0:∀o,(wr.alloc o).cell? ⟨g',i*4,none⟩=_:=fun o=>(World.cell?_alloc_lt _ _ _ J2).trans f0
   have gf1:∀o,(wr.alloc o).cell? ⟨g',i*4+1,none⟩=_:=fun o=>(World.cell?_alloc_lt _ _ _ J2).trans f1
   have gf2:∀o,(wr.alloc o).cell? ⟨g',i*4+2,none⟩=_:=fun o=>(World.cell?_alloc_lt _ _ _ J2).trans f2
   have gf3:∀o,(wr.alloc o).cell? ⟨g',i*4+3,none⟩=_:=fun o=>(World.cell?_alloc_lt _ _ _ J2).trans f3
   have i0:(0:Int)≤(i:Int):=zH _
   have i1:(i:Int)<(l.length:Int):=by omega
   have e1:((t.bL.length:Int) != (t.bL.length:Int))=false:=by simp
   have yQ:=aj (wK hB #[.string t.name,.slice av t.bL.length cv,.slice ar t.res.length cr,.slice ag t.gone.length cg] #[.string t.name,.slice av' t.bL.length cv',.slice ar' t.res.length cr',.slice ag' t.gone.length cg'] 68)
   clear x0 x1 x2 x3 y0 y1 y2 y3 hB ht
   go_wp2_with fail
   have H0:=aa yQ
   refine (qi ((aa RR).up H0.bl) ((aa RR').up H0.bl)).mono ?_
   rintro e w2 ⟨rfl,bJ⟩
   have zr:=aj (H0.up bJ)
   have X2:=(aa zr).x
   have Y2:=(aa zr).y
   clear H0 bJ yQ d0 d1 d2 d3 f0 f1 f2 f3 gf0 gf1 gf2 gf3
   go_wp2_with fail
   have H2:=aa zr
   refine (iW ((aa RG).up H2.bl) ((aa RG').up H2.bl)).mono ?_
   rintro e w3 ⟨rfl,mQ⟩
   have wH:=aj (H2.up mQ)
   have X3:=(aa wH).x
   have Y3:=(aa wH).y
   clear H2 mQ zr X2 Y2
   go_wp2
   go_loopg [8] t.bL.length (fun gk v8 wq=>∃(k m:Nat),v8=.int .i64 (k:Int)∧gk=t.bL.length-k∧k≤t.bL.length∧wq=w3.drewN m)
   case atStart=>exact ⟨0,0,rfl,rfl,by omega,rfl⟩
   case round =>
    obtain ⟨k,m,rfl,kL,hk,rfl⟩:=hrel
    have oM:=aj kL
    clear kL
    by_cases YK:k<t.bL.length
    ·obtain ⟨p,hp⟩:∃p,t.bL[k]?=some p:=⟨_,List.getElem?_eq_getElem YK⟩
     obtain ⟨z1,z2⟩:=Ga _ _ _ hp
     obtain ⟨_,_,ee,_,cP⟩:=(aa RV).up (aa wH).bl
     obtain ⟨_,_,ee',_,DO⟩:=(aa RV').up (aa wH).bl
     obtain ⟨gv,hav,WD,MX⟩:=cP (by omega)
     obtain ⟨gv',UU,aa4,xJ⟩:=DO (by omega)
     cases ee
     cases ee'
     subst hav
     subst UU
     have d1:=MX _ _ z1
     have d2:=MX _ _ z2
     have f1:=xJ _ _ z1
     have f2:=xJ _ _ z2
     have k0:(0:Int)≤(k:Int):=zH _
     have k1:(k:Int)<(t.bL.length:Int):=by omega
     obtain ⟨p1,p2⟩:=p
     simp only at d1 d2 f1 f2
     clear MX xJ z1 z2 cP DO hp
     go_wp2
     go_quiet (fail)
     go_wp2
     go_roundg (t.bL.length-(k+1))
     case measure=>have:=aa oM;omega
     case rel=>exact ⟨k+1,_,by go_num,rfl,by omega,rfl⟩
    ·obtain rfl:k=t.bL.length:=by omega
     go_wp2
     go_roundg (l.length-(i+1))
     case measure=>have:=aa gA;omega
     case rel=>exact ⟨i+1,by go_num,rfl,by omega,below_drewN (aa wH).bl _⟩
  ·obtain rfl:i=l.length:=by omega
   go_wp2
   go_ret
   exact ⟨rfl,aa HB⟩
end Go.Proofs.YtmlphohdcejniaaGreatDoor

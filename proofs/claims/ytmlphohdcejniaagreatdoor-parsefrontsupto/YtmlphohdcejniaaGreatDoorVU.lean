import Derived.Test.YtmlphohdcejniaaGreatDoorPdC
set_option maxHeartbeats 8000000
set_option maxRecDepth 100000
namespace Go.Proofs.YtmlphohdcejniaaGreatDoor
open Go.RowKit
attribute [local go_sem ↓] Go.wp_at_zero Go.wp_at_succ
theorem TS:aR ⟨#[109,101,115,115,97,103,101]⟩:=by
 refine ⟨?_,by decide,by decide⟩
 kernel_rfl
theorem TR:aR ⟨#[111,110,101,111,102]⟩:=by
 refine ⟨?_,by decide,by decide⟩
 kernel_rfl
theorem TQ:aR ⟨#[111,112,116,105,111,110,97,108]⟩:=by
 refine ⟨?_,by decide,by decide⟩
 kernel_rfl
theorem TL:aR ⟨#[114,101,112,101,97,116,101,100]⟩:=by
 refine ⟨?_,by decide,by decide⟩
 kernel_rfl
theorem T7:aR ⟨#[109,97,112]⟩:=by
 refine ⟨?_,by decide,by decide⟩
 kernel_rfl
def R5 (f:Nat):Prop:=∀(V W:World) (b:Nat) (r:Option Nat) (vs:Value) (ps:List (Wd×List Nat)) (D:Nat),WE V W b→mV b r vs ps D W→∀(nm:ByteArray) (fs:List Fd) (os:List ByteArray) (ms:List Ms) (es:List En) (rs:List (Int×Int)) (gs:List ByteArray) (vf vo vm ve vr vg:Value) (cm ce:List Value) (P:Nat→Prop),
 Gw f (.mk nm fs os ms es rs gs)→kl V vf fs.length (iF fs)→kl V vo os.length (bW os)→kl V vm ms.length cm→cU P V cm ms→kl V ve es.length ce→PM V ce es→kl V vr rs.length (lj rs)→kl V vg gs.length (bW gs) →
 ps.length+ni f (.mk nm fs os ms es rs gs)≤1099511620000→D+By f (.mk nm fs os ms es rs gs)≤1099511610000 →
 Calls Tryz.prog 23 #[.pointer (some ⟨b,0,none⟩),.agg #[.string nm,vf,vo,vm,ve,vr,vg]] W (Wr b r vs ps D W (ni f (.mk nm fs os ms es rs gs)) fun t c=>VR f (.mk nm fs os ms es rs gs) t c∧c≤By f (.mk nm fs os ms es rs gs))
def ZR (z:Int) (k Dr:Nat):Prop:=(z=0∧Dr=0)∨(z=(k:Int)∧Dr=k∧0<k)∨(z=((k+1:Nat):Int)∧Dr=0)
theorem N3 {w:World}{g:Nat}{d:Fd} (h:w.heap[g]?=some (.cells d.arr 70 (0,0))):w.cell? ⟨g,0,none⟩=some (.int .i64 d.dQ)∧w.cell? ⟨g,1,none⟩=some (.string d.key)∧w.cell? ⟨g,2,none⟩=some (.string d.ty)∧w.cell? ⟨g,3,none⟩=some (.string d.name)∧w.cell? ⟨g,4,none⟩=some (.int .i64 d.num)∧w.cell? ⟨g,5,none⟩=some (.int .i64 d.oneof) :=
 ⟨cell_of_row _ _ _ _ _ _ h,cell_of_row _ _ _ _ _ _ h,cell_of_row _ _ _ _ _ _ h,cell_of_row _ _ _ _ _ _ h,cell_of_row _ _ _ _ _ _ h,cell_of_row _ _ _ _ _ _ h⟩
theorem TX {f c:Nat}{nm:ByteArray}{fs:List Fd}{os:List ByteArray}{ms:List Ms}{es:List En}{rs:List (Int×Int)}{gs:List ByteArray}{ws:List Wd} (hE:∀n,f≤n→eU (kH (bw n)) f ws c ⟨nm,[],[],[],[],[],[]⟩ ⟨nm,fs,os,ms,es,rs,gs⟩) (hx:aR nm):VR (f+1) (.mk nm fs os ms es rs gs) ((1,oF)::(1,nm)::sg 123::(ws++[sg 125])) (1+c):=Rh (x:=⟨nm,fs,os,ms,es,rs,gs⟩) hE hx
theorem WA.message {f:Nat} (ih:R5 f) {V:World}{b:Nat}{r0:Option Nat}{vs:Value}{ps:List (Wd×List Nat)}{D:Nat}{W:World}{t:List Wd}{n c:Nat}{w:World} (h:WA V b r0 vs ps D W t n c w) {nm:ByteArray}{fs:List Fd}{os:List ByteArray}{ms:List Ms}{es:List En}{rs:List (Int×Int)}{gs:List ByteArray}{vf vo vm ve vr vg:Value}{cm ce:List Value}{P:Nat→Prop}
  (Aq:Gw f (.mk nm fs os ms es rs gs)) (hf:kl V vf fs.length (iF fs)) (ho:kl V vo os.length (bW os)) (hm:kl V vm ms.length cm) (jT:cU P V cm ms) (he:kl V ve es.length ce) (mP:PM V ce es) (hr:kl V vr rs.length (lj rs)) (hg:kl V vg gs.length (bW gs))
  (hn:ps.length+n+ni f (.mk nm fs os ms es rs gs)≤1099511620000) (hD:D+c+By f (.mk nm fs os ms es rs gs)≤1099511610000) :
  Calls Tryz.prog 23 #[.pointer (some ⟨b,0,none⟩),.agg #[.string nm,vf,vo,vm,ve,vr,vg]] w fun e w'=>e=.returned (.tuple #[])∧∃t2 c2,VR f (.mk nm fs os ms es rs gs) t2 c2∧c2≤By f (.mk nm fs os ms es rs gs)∧WA V b r0 vs ps D W (t++t2) (n+ni f (.mk nm fs os ms es rs gs)) (c+c2) w':=by
 obtain ⟨⟨r,q,g1,g2,h3,h4⟩,h5⟩:=h
 refine (ih V w b r vs (ps++q) (D+c) h5 h3 nm fs os ms es rs gs vf vo vm ve vr vg cm ce P Aq hf ho hm jT he mP hr hg (by rw[zK];omega) hD).mono ?_
 rintro e w' ⟨rfl,r2,p2,c2,⟨e1,e5⟩,e2,e3,e4⟩
 exact ⟨rfl,_,c2,e1,e5,la g1 g2 h3 h4 h5 rfl e2 e3 e4⟩
theorem WA.enum {V:World}{b:Nat}{r0:Option Nat}{vs:Value}{ps:List (Wd×List Nat)}{D:Nat}{W:World}{t:List Wd}{n c:Nat}{w:World} (h:WA V b r0 vs ps D W t n c w) {x:En} (hx:EK x) {vv vr vg:Value} (hv:kl V vv x.bL.length (xZ x.bL)) (hr:kl V vr x.res.length (lj x.res)) (hg:kl V vg x.gone.length (bW x.gone)) (hn:ps.length+n+nQ x≤1099511620000) (hD:D+c+pT x≤1099511610000) :
  Calls Tryz.prog 24 #[.pointer (some ⟨b,0,none⟩),.agg #[.string x.name,vv,vr,vg]] w fun e w'=>e=.returned (.tuple #[])∧∃t2,Xk x t2 (pT x)∧WA V b r0 vs ps D W (t++t2) (n+nQ x) (c+pT x) w':=by
 obtain ⟨⟨r,q,g1,g2,h3,h4⟩,h5⟩:=h
 unfold nQ at hn ⊢
 unfold pT at hD ⊢
 refine (IX h5 h3 hx hv hr hg (by rw[zK];omega) (by omega)).mono ?_
 rintro e w' ⟨rfl,r2,p2,c2,⟨e1,rfl⟩,e2,e3,e4⟩
 exact ⟨rfl,_,e1,la g1 g2 h3 h4 h5 rfl e2 e3 e4⟩
theorem FC {f:Nat} (ih:R5 f):R5 (f+1):=by
 intro V W b r vs ps D hV h nm fs os ms es rs gs vf vo vm ve vr vg cm ce P Aq hf ho hm jT he mP hr hg hn hD
 obtain ⟨o1,o2,o3,o4,o5,o6,o7,o8⟩:=Aq
 have UP:ni (f+1) (.mk nm fs os ms es rs gs)=100+100*fs.length+(20*rs.length+10*gs.length)+bI (ni f) ms+bI nQ es:=rfl
 have Y7:By (f+1) (.mk nm fs os ms es rs gs)=1+2*fs.length+(rs.length+gs.length)+bI (By f) ms+bI pT es:=rfl
 rw[UP] at hn ⊢
 rw[Y7] at hD ⊢
 have ba:Below W.heap.size W (W.alloc (.cells #[.string nm,vf,vo,vm,ve,vr,vg] 64)):=(zE _ _).alloc (zD _) _
 have bo:(W.alloc (.cells #[.string nm,vf,vo,vm,ve,vr,vg] 64)).heap[W.heap.size]?=some (.cells #[.string nm,vf,vo,vm,ve,vr,vg] 64 (0,0)):=aC _ _
 obtain ⟨W1,ET⟩:∃W1,W.alloc (.cells #[.string nm,vf,vo,vm,ve,vr,vg] 64)=W1:=⟨_,rfl⟩
 rw[ET] at ba bo
 have Pc:=aj (WA.start (h.up ba) (hV.up ba))
 have HKw:Hid (KW b r W W1 r):=.dX ba
 have IT:Hid (∀w t n c,WA V b r vs ps D W1 t n c w→w.cell? ⟨W.heap.size,0,none⟩=some (.string nm)∧w.cell? ⟨W.heap.size,1,none⟩=some vf∧w.cell? ⟨W.heap.size,2,none⟩=some vo∧w.cell? ⟨W.heap.size,3,none⟩=some vm∧w.cell? ⟨W.heap.size,4,none⟩=some ve∧w.cell? ⟨W.heap.size,5,none⟩=some vr∧w.cell? ⟨W.heap.size,6,none⟩=some vg):=fun w t n c ha=>by
  obtain ⟨⟨r9,q9,_,_,_,k4⟩,_⟩:=ha
  have:=(k4.block _ (zA bo).1 (by have:=h.lt;omega) (fun e=>by have:=(h.row _ e).2;omega)).trans bo
  exact ⟨cell_of_row _ _ _ _ _ _ this,cell_of_row _ _ _ _ _ _ this,cell_of_row _ _ _ _ _ _ this,cell_of_row _ _ _ _ _ _ this,cell_of_row _ _ _ _ _ _ this,cell_of_row _ _ _ _ _ _ this,cell_of_row _ _ _ _ _ _ this⟩
 have HR:=aj hr
 have HG:=aj hg
 have HM:=aj hm
 have HMs:=aj jT
 have HEr:=aj he
 have HEs:=aj mP
 have PI:=aj hf
 have Xc:=aj ho
 obtain ⟨fa,fc,rfl,-,-⟩:=id hf
 obtain ⟨oa,oc,rfl,-,-⟩:=id ho
 obtain ⟨ma,mc,rfl,-,-⟩:=id hm
 obtain ⟨ea,ec,rfl,-,-⟩:=id he
 obtain ⟨ra,rc,rfl,-,-⟩:=id hr
 obtain ⟨ga,gc,rfl,-,-⟩:=id hg
 have HX:=aj (And.intro o1 (And.intro o2 (And.intro o3 (And.intro o4 (And.intro o5 (And.intro o6 (And.intro o7 o8)))))))
 have Hn:=aj hn
 have HD:=aj hD
 have HIH:=aj ih
 have e0:=ET
 have Po:nm.size≤30:=o1.2.2
 clear hr hg hm jT he mP hf ho hn hD h hV ba bo ET o1 o2 o3 o4 o5 o6 o7 o8 UP Y7 ih
 go_enter Tryz.func23,Tryz.ntmps23
 obtain ⟨x0,x1,x2,x3,x4,x5,x6⟩:=aa IT W1 _ _ _ (aa Pc)
 have HP:=aj ((aa Pc).put (by have:=aa Hn;omega) [(1,⟨#[109,101,115,115,97,103,101]⟩),(1,nm),sg 123] (fun y hy=>by
  rcases List.mem_cons.1 hy with rfl|hy
  ·exact eA TS
  ·rcases List.mem_cons.1 hy with rfl|hy
   ·exact eA (aa HX).1
   ·rw[List.mem_singleton.1 hy];exact fV 123 (by decide)) (by simp) #[.string ⟨#[109,101,115,115,97,103,101]⟩,.string nm,.string ⟨#[123]⟩] rfl 3 rfl)
 go_wp2_with fail
 refine (aa HP).mono ?_
 rintro e w1 ⟨rfl,ha⟩
 have yI:=aj ha
 obtain ⟨c3,z3⟩:=ha.cells
 have jz:=(aa yI).decl
 obtain ⟨Di,zd⟩:∃Di,((D+0:Nat):Int)=Di:=⟨_,rfl⟩
 have d0:(0:Int)≤Di:=by rw[←zd];exact zH _
 have dB:Di≤1099511620000:=by have:=aa HD;omega
 rw[zd] at c3 jz
 obtain ⟨w1b,QH⟩:∃x,w1.setCell ⟨b,3,none⟩ (.int .i64 (Di+1))=x:=⟨_,rfl⟩
 rw[QH] at jz
 have mz:=aj jz
 clear zd jz HP ha x0 x1 x2 x3 x4 x5 x6
 go_upto_region 5 with fail
 go_loopg [4,5,6] fs.length (fun gk v4 v5 _ wr=>∃(i k op c:Nat) (u:List Wd),v4=.int .i64 (op:Int)∧v5=.int .i64 (i:Int)∧gk=fs.length-i∧i≤fs.length∧c≤2*i∧Hid (WA V b r vs ps D W1 ([(1,⟨#[109,101,115,115,97,103,101]⟩),(1,nm),sg 123]++u) (3+100*i) (1+c) wr)∧Hid (FS nm fs os i k op u c)∧Hid (gW os.length k op (fs.drop i))∧Hid (op=0∨op=k))
 case atStart=>exact ⟨0,0,0,0,[],rfl,rfl,rfl,by omega,by omega,(aa mz).cast rfl (by omega),FS.start nm fs os,(aa HX).2.2.2.1,.inl rfl⟩
 case round =>
  obtain ⟨i,k,op,c,u,rfl,rfl,fi,qz,gJ,HA,HF,HSq,Sa⟩:=hrel
  have gA:=aj fi
  clear fi mz yI Pc
  obtain ⟨x0,x1,x2,x3,x4,x5,x6⟩:=aa IT wr _ _ _ (aa HA)
  by_cases cw:i<fs.length
  ·obtain ⟨d,hd⟩:∃d,fs[i]?=some d:=⟨_,List.getElem?_eq_getElem cw⟩
   obtain ⟨aF,cF,eF,_,hF3⟩:=aa PI
   obtain ⟨rfl,rfl⟩:fa=aF∧fc=cF:=by simpa using eF
   obtain ⟨g,rfl,me,hc⟩:=hF3 (by omega)
   have AZ:Hid (∀w',Below V.heap.size V w'→∀j v,d.arr[j]?=some v→w'.cell? ⟨g,i*6+j,none⟩=some v):=fun w' hb j v hj=>(hb.cell (p:=⟨g,i*6+j,none⟩) me).trans (hc _ _ (qE fs i d hd j v hj))
   have HR9:=aj ((aa HX).2.1 d (List.mem_of_getElem? hd))
   have Hd:=aj hd
   have dN:=aj cw
   have GB:Hid ((d.oneof=0∧gW os.length k 0 (fs.drop (i+1)))∨(d.oneof=(k:Int)∧op=k∧0<k∧gW os.length k k (fs.drop (i+1)))∨(d.oneof=((k+1:Nat):Int)∧gW os.length (k+1) (k+1) (fs.drop (i+1)))):=by
    have e1:fs.drop i=d::fs.drop (i+1):=by
     rw[List.drop_eq_getElem_cons cw]
     rw[List.getElem?_eq_getElem cw] at hd
     rw[zC hd]
    have:=aa HSq
    rw[e1] at this
    exact this
   have i0:(0:Int)≤(i:Int):=zH _
   have i1:(i:Int)<(fs.length:Int):=by omega
   obtain ⟨⟨rq,q,kq1,kq2,kq3,kq4⟩,kq5⟩:=aa HA
   have Au:Below wr.heap.size wr (wr.alloc (.cells d.arr 70)):=(zE _ _).alloc (zD _) _
   have j8:(wr.alloc (.cells d.arr 70)).heap[wr.heap.size]?=some (.cells d.arr 70 (0,0)):=aC _ _
   obtain ⟨cd,ky,ty,dn,nu,z⟩:=d
   unfold Fd.arr at Au j8 AZ
   simp only at Au j8 AZ GB
   obtain ⟨W2,ES⟩:∃W2,wr.alloc (.cells #[.int .i64 cd,.string ky,.string ty,.string dn,.int .i64 nu,.int .i64 z] 70)=W2:=⟨_,rfl⟩
   rw[ES] at Au j8
   have Tn:=aj (WA.start (kq3.up Au) (kq5.up Au))
   have HKq:Hid (KW b r W1 W2 rq):=kq4.trans (.dX Au)
   have HQ:=aj (And.intro kq1 kq2)
   have ng:Hid (∀w t n c',WA V b rq vs (ps++q) (D+(1+c)) W2 t n c' w→w.cell? ⟨wr.heap.size,0,none⟩=some (.int .i64 cd)∧w.cell? ⟨wr.heap.size,1,none⟩=some (.string ky)∧w.cell? ⟨wr.heap.size,2,none⟩=some (.string ty)∧w.cell? ⟨wr.heap.size,3,none⟩=some (.string dn)∧w.cell? ⟨wr.heap.size,4,none⟩=some (.int .i64 nu)∧w.cell? ⟨wr.heap.size,5,none⟩=some (.int .i64 z)):=fun w t n c' ha=>by
    obtain ⟨⟨r9,q9,_,_,_,k4⟩,_⟩:=ha
    have:=(k4.block _ (zA j8).1 (by have:=kq3.lt;omega) (fun e=>by have:=(kq3.row _ e).2;omega)).trans j8
    exact ⟨cell_of_row _ _ _ _ _ _ this,cell_of_row _ _ _ _ _ _ this,cell_of_row _ _ _ _ _ _ this,cell_of_row _ _ _ _ _ _ this,cell_of_row _ _ _ _ _ _ this,cell_of_row _ _ _ _ _ _ this⟩
   have y:=aa AZ wr (aa HA).we.below
   have y0:=y 0 _ rfl
   have y1:=y 1 _ rfl
   have y2:=y 2 _ rfl
   have y3:=y 3 _ rfl
   have y4:=y 4 _ rfl
   have y5:=y 5 _ rfl
   rw[Nat.add_zero] at y0
   have eW2:=ES
   have ZU:=aj (aa Sa)
   have O':=aj (show ps.length+(3+100*i)+200≤1099511627000∧D+(1+c)+10≤1099511620000 by have:=aa Hn;have:=aa HD;omega)
   have AV:=aj (show (ps++q).length≤1099511626000 by rw[zK];have:=aa Hn;omega)
   clear y hd hc cw kq1 kq2 kq3 kq4 kq5 Au j8 ES eF
   go_upto_region 8 with fail
   obtain ⟨B,hB⟩:∃B:Bool,decide (op≠0∧z≠(op:Int))=B:=⟨_,rfl⟩
   have Xj:=aj hB
   clear hB y0 y1 y2 y3 y4 y5
   obtain ⟨y0,y1,y2,y3,y4,y5⟩:=aa ng W2 _ _ _ (aa Tn)
   go_cut [40] (fun v40 wx=>v40=.bool B∧wx=W2)
   case first =>
    by_cases ho:op=0
    ·have e1:((op:Int) != 0)=false:=by rw[ho];rfl
     have eB:B=false:=by rw[←aa Xj];simp[ho]
     have ZX:=aj eB
     clear ho eB
     go_wp2_with fail
     go_meet
     exact ⟨by rw[aa ZX],rfl⟩
    ·have e1:((op:Int) != 0)=true:=by simp;omega
     by_cases hz:z=(op:Int)
     ·have e2:(z != (op:Int))=false:=by rw[hz];simp
      have eB:B=false:=by rw[←aa Xj];simp[hz]
      have ZX:=aj eB
      clear ho hz eB
      go_wp2_with fail
      go_meet
      exact ⟨by rw[aa ZX],rfl⟩
     ·have e2:(z != (op:Int))=true:=by simpa using hz
      have eB:B=true:=by rw[←aa Xj];simp[hz,ho]
      have ZX:=aj eB
      clear ho hz eB
      go_wp2_with fail
      go_meet
      exact ⟨by rw[aa ZX],rfl⟩
   case rest =>
    obtain ⟨rfl,xK⟩:=hcut
    obtain rfl:W2=wc:=xK.symm
    clear xK
    go_upto_if 40 with fail
    go_cut [4] (fun v4 wx=>∃(Dr:Nat) (v1:List Wd),v4=.int .i64 (Dr:Int)∧Hid (WA V b rq vs (ps++q) (D+(1+c)) W2 v1 3 0 wx)∧Hid (FS nm fs os i k Dr (u++v1) c)∧Hid (ZR z k Dr))
    case first =>
     cases B with
     |true =>
      obtain ⟨bF,bJ⟩:op≠0∧z≠(op:Int):=by simpa using aa Xj
      have HP:=aj ((aa Tn).put (by have:=aa AV;omega) [sg 125] (fun y hy=>by rw[List.mem_singleton.1 hy];exact fV 125 (by decide)) (by decide) #[.string ⟨#[125]⟩] rfl 1 rfl)
      have HZ:Hid (ZR z k 0):=by
       rcases aa GB with ⟨h1,_⟩|⟨h1,h2,_⟩|⟨h1,_⟩
       ·exact .inl ⟨h1,rfl⟩
       ·exact absurd (by rw[h1,h2]) bJ
       ·exact .inr (.inr ⟨h1,rfl⟩)
      have HFc:=aj ((aa HF).close bF)
      clear bF bJ
      go_wp2_with fail
      refine (aa HP).mono ?_
      rintro e w3 ⟨rfl,ha⟩
      have np:=aj ha
      clear HP ha
      go_wp2_with fail
      go_meet
      exact ⟨0,[sg 125],rfl,(aa np).cast rfl (by omega),aa HFc,aa HZ⟩
     |false =>
      have HZ:Hid (ZR z k op):=by
       have hb:¬(op≠0∧z≠(op:Int)):=by simpa using aa Xj
       rcases aa GB with ⟨h1,_⟩|⟨h1,h2,h3,_⟩|⟨h1,_⟩
       ·refine .inl ⟨h1,?_⟩
        by_cases h0:op=0
        ·exact h0
        ·exact absurd ⟨h0,by rw[h1];omega⟩ hb
       ·exact .inr (.inl ⟨h1,h2,h3⟩)
       ·refine .inr (.inr ⟨h1,?_⟩)
        by_cases h0:op=0
        ·exact h0
        ·refine absurd ⟨h0,?_⟩ hb
         rcases aa ZU with h2|h2
         ·exact absurd h2 h0
         ·rw[h1,h2];omega
      go_wp2_with fail
      go_meet
      exact ⟨op,[],rfl,(aa Tn).cast rfl (by omega),by rw[List.append_nil];exact aa HF,aa HZ⟩
    case rest =>
     obtain ⟨Dr,v1,rfl,np,qV,HZ⟩:=hcut
     clear HF Sa HSq ZU Xj
     obtain ⟨W3,Q9⟩:∃x,x=wc:=⟨_,rfl⟩
     subst Q9
     clear y0 y1 y2 y3 y4 y5 x0 x1 x2 x3 x4 x5 x6
     obtain ⟨y0,y1,y2,y3,y4,y5⟩:=aa ng W3 _ _ _ (aa np)
     obtain ⟨x0,x1,x2,x3,x4,x5,x6⟩:=aa IT W3 _ _ _ (WA.comp (aa HQ).1 (aa HQ).2 (aa HKq) (aa np))
     go_upto_if 47 with fail
     go_cut [4] (fun v4 wx=>∃(Pl k2 yO:Nat) (v2:List Wd),v4=.int .i64 (Pl:Int)∧yO≤1∧Hid (WA V b rq vs (ps++q) (D+(1+c)) W2 (v1++v2) 6 yO wx)∧Hid (∀ft s,jP ⟨cd,ky,ty,dn,nu,z⟩ ft→(s=[sg 59]∨s=[sg 59,sg 59])→FS nm fs os (i+1) k2 Pl (u++((v1++v2)++(ft++((1,dn)::sg 61::(dO nu++s))))) (c+yO+1))∧Hid (gW os.length k2 Pl (fs.drop (i+1))∧(Pl=0∨Pl=k2)))
     case first =>
      by_cases oH:z=(Dr:Int)
      ·have e1:(z != (Dr:Int))=false:=by rw[oH];simp
       have KE:Hid ((∀ft s,jP ⟨cd,ky,ty,dn,nu,z⟩ ft→(s=[sg 59]∨s=[sg 59,sg 59])→FS nm fs os (i+1) k Dr (u++((v1++[])++(ft++((1,dn)::sg 61::(dO nu++s))))) (c+0+1))∧(gW os.length k Dr (fs.drop (i+1))∧(Dr=0∨Dr=k))):=by
        rcases aa HZ with ⟨h1,h2⟩|⟨h1,h2,h3⟩|⟨h1,h2⟩
        ·refine ⟨fun ft s YS hs=>?_,?_,.inl h2⟩
         ·have:=FS.field (by rw[h2] at qV;exact aa qV) (aa Hd) YS h1 hs
          rw[h2,List.append_nil,←List.append_assoc u]
          exact this
         ·rcases aa GB with ⟨_,g⟩|⟨g1,_,g2,_⟩|⟨g1,_⟩
          ·rw[h2];exact g
          ·omega
          ·omega
        ·have hk:k≤os.length:=by
          rcases aa GB with ⟨g1,_⟩|⟨_,_,_,g⟩|⟨g1,_⟩
          ·omega
          ·exact lX _ _ _ g
          ·omega
         refine ⟨fun ft s YS hs=>?_,?_,.inr h2⟩
         ·have:=FS.inner (by rw[h2] at qV;exact aa qV) h3 hk (aa Hd) YS h1 hs
          rw[h2,List.append_nil,←List.append_assoc u]
          exact this
         ·rcases aa GB with ⟨g1,_⟩|⟨_,_,_,g⟩|⟨g1,_⟩
          ·omega
          ·rw[h2];exact g
          ·omega
        ·omega
       clear oH
       go_wp2_with fail
       go_meet
       exact ⟨Dr,k,0,[],rfl,by omega,(aa np).cast (by rw[List.append_nil]) (by omega),(aa KE).1,(aa KE).2⟩
      ·have e1:(z != (Dr:Int))=true:=by simpa using oH
       have oG:z=((k+1:Nat):Int)∧Dr=0:=by
        rcases aa HZ with ⟨h1,h2⟩|⟨h1,h2,h3⟩|⟨h1,h2⟩
        ·exact absurd (by rw[h1,h2];rfl) oH
        ·exact absurd (by rw[h1,h2]) oH
        ·exact ⟨h1,h2⟩
       obtain ⟨oG,rfl⟩:=oG
       have hsq:gW os.length (k+1) (k+1) (fs.drop (i+1)):=by
        rcases aa GB with ⟨g1,_⟩|⟨g1,_,_,_⟩|⟨_,g⟩
        ·omega
        ·omega
        ·exact g
       have hko:k<os.length:=by have:=lX _ _ _ hsq;omega
       obtain ⟨o,ho⟩:∃o,os[k]?=some o:=⟨_,List.getElem?_eq_getElem hko⟩
       have hon:=(aa HX).2.2.1 o (List.mem_of_getElem? ho)
       have HON:=aj hon
       have hos:o.size≤30:=hon.2.2
       have KE:Hid ((∀ft s,jP ⟨cd,ky,ty,dn,nu,z⟩ ft→(s=[sg 59]∨s=[sg 59,sg 59])→FS nm fs os (i+1) (k+1) (k+1) (u++((v1++[(1,tf),(1,o),sg 123])++(ft++((1,dn)::sg 61::(dO nu++s))))) (c+1+1))∧(gW os.length (k+1) (k+1) (fs.drop (i+1))∧(k+1=0∨k+1=k+1))):=by
        refine ⟨fun ft s YS hs=>?_,hsq,.inr rfl⟩
        have:=FS.begin (aa qV) ho hon (aa Hd) YS oG hs
        have e9:u++((v1++[(1,tf),(1,o),sg 123])++(ft++((1,dn)::sg 61::(dO nu++s))))=u++v1++((1,tf)::(1,o)::sg 123::(ft++((1,dn)::sg 61::(dO nu++s)))):=by simp
        rw[e9]
        exact this
       obtain ⟨aO,cO,eO,_,UZ⟩:=aa Xc
       obtain ⟨rfl,rfl⟩:oa=aO∧oc=cO:=by simpa using eO
       obtain ⟨go,rfl,mO,hco⟩:=UZ (by omega)
       have z1:W3.cell? ⟨go,k,none⟩=some (.string o):=((aa np).we.below.cell (p:=⟨go,k,none⟩) mO).trans (hco _ _ (jX _ _ _ ho))
       have q1:z-1=(k:Int):=by omega
       have q2:(0:Int)≤(k:Int):=zH _
       have q3:(k:Int)<(os.length:Int):=by omega
       have q5:k≤1099511620000:=by
        have h5:=mH _ _ _ (aa HX).2.2.2.1
        have:=aa Hn
        omega
       obtain rfl:z=(k:Int)+1:=by omega
       have q4:wrap64 ((k:Int)+1-1)=(k:Int):=by rw[Int.add_sub_cancel];exact pW (by omega) (by omega)
       have HP:=aj ((aa np).put (by have:=aa AV;omega) [(1,tf),(1,o),sg 123] (fun y hy=>by
        rcases List.mem_cons.1 hy with rfl|hy
        ·exact eA TR
        ·rcases List.mem_cons.1 hy with rfl|hy
         ·exact eA (aa HON)
         ·rw[List.mem_singleton.1 hy];exact fV 123 (by decide)) (by simp) #[.string ⟨#[111,110,101,111,102]⟩,.string o,.string ⟨#[123]⟩] rfl 3 rfl)
       clear oH oG hsq hko ho hon hco mO q1 UZ eO
       go_wp2_with fail
       refine (aa HP).mono ?_
       rintro e w4 ⟨rfl,ha⟩
       have iL:=aj ha
       clear HP ha y0 y1 y2 y3 y4 y5 x0 x1 x2 x3 x4 x5 x6 z1
       obtain ⟨y0,y1,y2,y3,y4,y5⟩:=aa ng w4 _ _ _ (aa iL)
       obtain ⟨c3,z3⟩:=(aa iL).cells
       have jz:=(aa iL).decl
       obtain ⟨Dj,xV⟩:∃Dj,((D+(1+c)+0:Nat):Int)=Dj:=⟨_,rfl⟩
       have d0:(0:Int)≤Dj:=by rw[←xV];exact zH _
       have dB:Dj≤1099511630000:=by have:=(aa O').2;omega
       rw[xV] at c3 jz
       have E0:=aj jz
       clear xV jz
       go_wp2_with fail
       go_meet
       exact ⟨k+1,k+1,1,[(1,tf),(1,o),sg 123],rfl,by omega,(aa E0).cast rfl (by omega),(aa KE).1,(aa KE).2.1,.inr rfl⟩
     case rest =>
      obtain ⟨Pl,k2,yO,v2,rfl,ab2,iL,Xg,AX⟩:=hcut
      obtain ⟨W4,hW4⟩:∃x,x=wc:=⟨_,rfl⟩
      subst hW4
      clear y0 y1 y2 y3 y4 y5 x0 x1 x2 x3 x4 x5 x6 np qV HZ GB
      obtain ⟨y0,y1,y2,y3,y4,y5⟩:=aa ng W4 _ _ _ (aa iL)
      obtain ⟨⟨pn,UL⟩,Y7⟩:=aa HR9
      have EY:=aj UL
      obtain ⟨un,b9⟩:∃un:Nat,nu=(un:Int):=⟨nu.toNat,by have:=UL.num.1;simp only at this;omega⟩
      have hub:un≤2147483647:=by have:=UL.num.2;simp only at this;omega
      subst b9
      have hdn:dn.size≤30:=UL.nm.2.2
      have EX:=aj Y7
      clear UL Y7
      have aa5:=aa EX
      clear EX HR9
      rcases aa5 with ⟨h1,h2⟩|⟨h0,⟨h1,h2⟩|⟨h1,h2⟩|⟨h1,kn,h2,h3⟩⟩
      ·simp only at h1 h2
       subst h1
       have EX:=aj h2
       clear h2
       have HP:=aj ((aa iL).names (by have:=aa AV;omega) (aa EY).tp true ty (aa EY).ty)
       go_wp2_with fail
       refine (aa HP).mono ?_
       rintro e w5 ⟨rfl,ha⟩
       have EH:=aj ha
       clear HP ha y0 y1 y2 y3 y4 y5
       obtain ⟨y0,y1,y2,y3,y4,y5⟩:=aa ng w5 _ _ _ (aa EH)
       go_upto_region 27 with fail
       refine wp_region_any (by kernel_rfl) (cj (z:=99) (T:=fun w'=>w'.cell? ⟨wr.heap.size,3,none⟩=some (.string dn)∧w'.cell? ⟨wr.heap.size,4,none⟩=some (.int .i64 (un:Int))) _ _ _ _ ?_)
       try (change cW _ _ _ _ _ _ _ _ _ (World.drew _))
       have jo:Below w5.heap.size w5 w5.drew:=below_drewN (zE _ _) 1
       have yH:=aj ((aa EH).up jo)
       obtain ⟨wd,iZ⟩:∃x,w5.drew=x:=⟨_,rfl⟩
       rw[iZ] at yH ⊢
       clear iZ jo y0 y1 y2 y3 y4 y5
       obtain ⟨y0,y1,y2,y3,y4,y5⟩:=aa ng wd _ _ _ (aa yH)
       have hT:(fun w':World=>w'.cell? ⟨wr.heap.size,3,none⟩=some (.string dn)∧w'.cell? ⟨wr.heap.size,4,none⟩=some (.int .i64 (un:Int))) wd:=⟨y3,y4⟩
       clear y0 y1 y2 y3 y4 y5
       refine ak 0 (.pointer (some ⟨b,0,none⟩)) 101 rfl rfl (Or.inl ⟨by rfl,fun w' hw=>by obtain ⟨t0,t1⟩:=hw;go_simp⟩) hT ?_
       simp only[Act.put,zL,zM,zN]
       refine ak 1 (.pointer (some ⟨wr.heap.size,3,none⟩)) 102 rfl rfl (Or.inl ⟨by rfl,fun w' hw=>by obtain ⟨t0,t1⟩:=hw;go_simp⟩) hT ?_
       simp only[Act.put,zL,zM,zN]
       refine ak 2 (.string dn) 103 rfl rfl (Or.inl ⟨by rfl,fun w' hw=>by obtain ⟨t0,t1⟩:=hw;go_simp⟩) hT ?_
       simp only[Act.put,zL,zM,zN]
       refine ak 3 (.pointer (some ⟨wr.heap.size,4,none⟩)) 104 rfl rfl (Or.inl ⟨by rfl,fun w' hw=>by obtain ⟨t0,t1⟩:=hw;go_simp⟩) hT ?_
       simp only[Act.put,zL,zM,zN]
       refine ak 4 (.int .i64 (un:Int)) 105 rfl rfl (Or.inl ⟨by rfl,fun w' hw=>by obtain ⟨t0,t1⟩:=hw;go_simp⟩) hT ?_
       simp only[Act.put,zL,zM,zN]
       refine ay 5 (by kernel_rfl) rfl (fun K hK=>?_)
       refine aN 106 rfl rfl 41 (fun vs=>by kernel_rfl) #[.tmp 105] #[3] rfl #[.int .i64 (un:Int)] (by first|rfl|simp[Act.eval]) (l0 (aa yH).we.hp un (by omega)) ?_
       rintro e' wi ⟨rfl,Nu⟩
       have yG:=aj ((aa yH).up Nu)
       obtain ⟨y0,y1,y2,y3,y4,y5⟩:=aa ng wi _ _ _ (aa yG)
       have jr:(fun w':World=>w'.cell? ⟨wr.heap.size,3,none⟩=some (.string dn)∧w'.cell? ⟨wr.heap.size,4,none⟩=some (.int .i64 (un:Int))) wi:=⟨y3,y4⟩
       refine ⟨_,rfl,hK _ _ ⟨fun _=>jr,?_⟩⟩
       clear hK K hT y0 y1 y2 y3 y4 y5 Nu
       simp only[Act.put,zL,zM,zN]
       have Nv:Below wi.heap.size wi (wi.alloc (.cells #[.string dn,.string ⟨#[61]⟩,.string (dec un)] 9)):=(zE _ _).alloc (zD _) _
       obtain ⟨y0,y1,y2,y3,y4,y5⟩:=aa ng _ _ _ _ ((aa yG).up Nv)
       refine ay 6 (by kernel_rfl) rfl (fun K hK=>?_)
       go_simp
       refine hK _ _ ⟨fun _=>⟨y3,y4⟩,?_⟩
       clear hK K y0 y1 y2 y3 y4 y5 Nv jr
       refine ay 7 (by kernel_rfl) rfl (fun K hK=>?_)
       refine aN 108 rfl rfl 18 (fun vs=>by kernel_rfl) #[.tmp 101,.tmp 107] #[53,22] rfl #[.pointer (some ⟨b,0,none⟩),.slice (some ⟨wi.heap.size,0,none⟩) 3 3] (by first|rfl|simp[Act.eval]) ((aa yG).put (by have:=aa AV;omega) [(1,dn),sg 61,(2,dec un)] (fun y hy=>by
        rcases List.mem_cons.1 hy with rfl|hy
        ·exact eA (aa EY).nm
        ·rcases List.mem_cons.1 hy with rfl|hy
         ·exact fV 61 (by decide)
         ·rw[List.mem_singleton.1 hy];exact su (by omega)) (by simp) #[.string dn,.string ⟨#[61]⟩,.string (dec un)] rfl 3 rfl) ?_
       rintro e' wj ⟨rfl,ha⟩
       have Wi:=aj ha
       obtain ⟨y0,y1,y2,y3,y4,y5⟩:=aa ng wj _ _ _ ha
       refine ⟨_,rfl,hK _ _ ⟨fun _=>⟨y3,y4⟩,?_⟩⟩
       clear hK K y0 y1 y2 y3 y4 y5 ha
       simp only[Act.put,zL,zM,zN]
       refine bj (by kernel_rfl) ?_
       have HP:=aj ((aa Wi).yT (by have:=aa AV;omega))
       go_wp2_with fail
       refine (aa HP).mono ?_
       rintro e wk ⟨rfl,s,hs,ha⟩
       have Pa:=aj ha
       have pV:=aj hs
       clear HP ha hs
       obtain ⟨c3,z3⟩:=(aa Pa).cells
       have jz:=(aa Pa).decl
       obtain ⟨Dj,xV⟩:∃Dj,((D+(1+c)+yO:Nat):Int)=Dj:=⟨_,rfl⟩
       have d0:(0:Int)≤Dj:=by rw[←xV];exact zH _
       have dB:Dj≤1099511630000:=by have:=(aa O').2;omega
       rw[xV] at c3 jz
       have Wh:=aj (WA.comp (aa HQ).1 (aa HQ).2 (aa HKq) jz)
       have V8:Hid (jP ⟨1,ky,ty,dn,(un:Int),z⟩ (bG pn)):=⟨pn,aa EY,.inl ⟨rfl,(aa EX),rfl⟩⟩
       have kY:=aj (aa Xg _ s (aa V8) (aa pV))
       have hiL:fs.length≤1099511620000:=by have:=aa Hn;omega
       clear xV jz
       go_wp2
       go_roundg (fs.length-(i+1))
       case measure=>have:=aa gA;have:=aa dN;omega
       case rel =>
        refine ⟨i+1,k2,Pl,c+yO+1,u++((v1++v2)++(bG pn++((1,dn)::sg 61::(dO (un:Int)++s)))),rfl,by go_num,rfl,aa dN,by omega,?_,aa kY,(aa AX).1,(aa AX).2⟩
        have:=(aa Wh).cast (t':=[(1,⟨#[109,101,115,115,97,103,101]⟩),(1,nm),sg 123]++(u++((v1++v2)++(bG pn++((1,dn)::sg 61::(dO (un:Int)++s)))))) (n':=3+100*(i+1)) (by simp[SD,qp]) (by omega)
        rw[show 1+(c+yO+1)=1+c+(yO+1) by omega]
        exact this
      ·simp only at h1 h2 h0
       subst h1
       have EX:=aj (And.intro h0 h2)
       clear h2 h0
       have HP:=aj ((aa iL).put (by have:=aa AV;omega) [(1,Jz)] (fun y hy=>by rw[List.mem_singleton.1 hy];exact eA TQ) (by simp) #[.string ⟨#[111,112,116,105,111,110,97,108]⟩] rfl 1 rfl)
       go_wp2_with fail
       refine (aa HP).mono ?_
       rintro e Wo ⟨rfl,ha⟩
       have EZ:=aj ha
       clear HP ha y0 y1 y2 y3 y4 y5
       obtain ⟨y0,y1,y2,y3,y4,y5⟩:=aa ng Wo _ _ _ (aa EZ)
       have HP:=aj ((aa EZ).names (by have:=aa AV;omega) (aa EY).tp true ty (aa EY).ty)
       go_wp2_with fail
       refine (aa HP).mono ?_
       rintro e w5 ⟨rfl,ha⟩
       have EH:=aj ha
       clear HP ha y0 y1 y2 y3 y4 y5
       obtain ⟨y0,y1,y2,y3,y4,y5⟩:=aa ng w5 _ _ _ (aa EH)
       go_upto_region 27 with fail
       refine wp_region_any (by kernel_rfl) (cj (z:=99) (T:=fun w'=>w'.cell? ⟨wr.heap.size,3,none⟩=some (.string dn)∧w'.cell? ⟨wr.heap.size,4,none⟩=some (.int .i64 (un:Int))) _ _ _ _ ?_)
       try (change cW _ _ _ _ _ _ _ _ _ (World.drew _))
       have jo:Below w5.heap.size w5 w5.drew:=below_drewN (zE _ _) 1
       have yH:=aj ((aa EH).up jo)
       obtain ⟨wd,iZ⟩:∃x,w5.drew=x:=⟨_,rfl⟩
       rw[iZ] at yH ⊢
       clear iZ jo y0 y1 y2 y3 y4 y5
       obtain ⟨y0,y1,y2,y3,y4,y5⟩:=aa ng wd _ _ _ (aa yH)
       have hT:(fun w':World=>w'.cell? ⟨wr.heap.size,3,none⟩=some (.string dn)∧w'.cell? ⟨wr.heap.size,4,none⟩=some (.int .i64 (un:Int))) wd:=⟨y3,y4⟩
       clear y0 y1 y2 y3 y4 y5
       refine ak 0 (.pointer (some ⟨b,0,none⟩)) 101 rfl rfl (Or.inl ⟨by rfl,fun w' hw=>by obtain ⟨t0,t1⟩:=hw;go_simp⟩) hT ?_
       simp only[Act.put,zL,zM,zN]
       refine ak 1 (.pointer (some ⟨wr.heap.size,3,none⟩)) 102 rfl rfl (Or.inl ⟨by rfl,fun w' hw=>by obtain ⟨t0,t1⟩:=hw;go_simp⟩) hT ?_
       simp only[Act.put,zL,zM,zN]
       refine ak 2 (.string dn) 103 rfl rfl (Or.inl ⟨by rfl,fun w' hw=>by obtain ⟨t0,t1⟩:=hw;go_simp⟩) hT ?_
       simp only[Act.put,zL,zM,zN]
       refine ak 3 (.pointer (some ⟨wr.heap.size,4,none⟩)) 104 rfl rfl (Or.inl ⟨by rfl,fun w' hw=>by obtain ⟨t0,t1⟩:=hw;go_simp⟩) hT ?_
       simp only[Act.put,zL,zM,zN]
       refine ak 4 (.int .i64 (un:Int)) 105 rfl rfl (Or.inl ⟨by rfl,fun w' hw=>by obtain ⟨t0,t1⟩:=hw;go_simp⟩) hT ?_
       simp only[Act.put,zL,zM,zN]
       refine ay 5 (by kernel_rfl) rfl (fun K hK=>?_)
       refine aN 106 rfl rfl 41 (fun vs=>by kernel_rfl) #[.tmp 105] #[3] rfl #[.int .i64 (un:Int)] (by first|rfl|simp[Act.eval]) (l0 (aa yH).we.hp un (by omega)) ?_
       rintro e' wi ⟨rfl,Nu⟩
       have yG:=aj ((aa yH).up Nu)
       obtain ⟨y0,y1,y2,y3,y4,y5⟩:=aa ng wi _ _ _ (aa yG)
       have jr:(fun w':World=>w'.cell? ⟨wr.heap.size,3,none⟩=some (.string dn)∧w'.cell? ⟨wr.heap.size,4,none⟩=some (.int .i64 (un:Int))) wi:=⟨y3,y4⟩
       refine ⟨_,rfl,hK _ _ ⟨fun _=>jr,?_⟩⟩
       clear hK K hT y0 y1 y2 y3 y4 y5 Nu
       simp only[Act.put,zL,zM,zN]
       have Nv:Below wi.heap.size wi (wi.alloc (.cells #[.string dn,.string ⟨#[61]⟩,.string (dec un)] 9)):=(zE _ _).alloc (zD _) _
       obtain ⟨y0,y1,y2,y3,y4,y5⟩:=aa ng _ _ _ _ ((aa yG).up Nv)
       refine ay 6 (by kernel_rfl) rfl (fun K hK=>?_)
       go_simp
       refine hK _ _ ⟨fun _=>⟨y3,y4⟩,?_⟩
       clear hK K y0 y1 y2 y3 y4 y5 Nv jr
       refine ay 7 (by kernel_rfl) rfl (fun K hK=>?_)
       refine aN 108 rfl rfl 18 (fun vs=>by kernel_rfl) #[.tmp 101,.tmp 107] #[53,22] rfl #[.pointer (some ⟨b,0,none⟩),.slice (some ⟨wi.heap.size,0,none⟩) 3 3] (by first|rfl|simp[Act.eval]) ((aa yG).put (by have:=aa AV;omega) [(1,dn),sg 61,(2,dec un)] (fun y hy=>by
        rcases List.mem_cons.1 hy with rfl|hy
        ·exact eA (aa EY).nm
        ·rcases List.mem_cons.1 hy with rfl|hy
         ·exact fV 61 (by decide)
         ·rw[List.mem_singleton.1 hy];exact su (by omega)) (by simp) #[.string dn,.string ⟨#[61]⟩,.string (dec un)] rfl 3 rfl) ?_
       rintro e' wj ⟨rfl,ha⟩
       have Wi:=aj ha
       obtain ⟨y0,y1,y2,y3,y4,y5⟩:=aa ng wj _ _ _ ha
       refine ⟨_,rfl,hK _ _ ⟨fun _=>⟨y3,y4⟩,?_⟩⟩
       clear hK K y0 y1 y2 y3 y4 y5 ha
       simp only[Act.put,zL,zM,zN]
       refine bj (by kernel_rfl) ?_
       have HP:=aj ((aa Wi).yT (by have:=aa AV;omega))
       go_wp2_with fail
       refine (aa HP).mono ?_
       rintro e wk ⟨rfl,s,hs,ha⟩
       have Pa:=aj ha
       have pV:=aj hs
       clear HP ha hs
       obtain ⟨c3,z3⟩:=(aa Pa).cells
       have jz:=(aa Pa).decl
       obtain ⟨Dj,xV⟩:∃Dj,((D+(1+c)+yO:Nat):Int)=Dj:=⟨_,rfl⟩
       have d0:(0:Int)≤Dj:=by rw[←xV];exact zH _
       have dB:Dj≤1099511630000:=by have:=(aa O').2;omega
       rw[xV] at c3 jz
       have Wh:=aj (WA.comp (aa HQ).1 (aa HQ).2 (aa HKq) jz)
       have V8:Hid (jP ⟨2,ky,ty,dn,(un:Int),z⟩ (((1,Jz)::bG pn))):=⟨pn,aa EY,.inr ⟨(aa EX).1,.inl ⟨rfl,(aa EX).2,rfl⟩⟩⟩
       have kY:=aj (aa Xg _ s (aa V8) (aa pV))
       have hiL:fs.length≤1099511620000:=by have:=aa Hn;omega
       clear xV jz
       go_wp2
       go_roundg (fs.length-(i+1))
       case measure=>have:=aa gA;have:=aa dN;omega
       case rel =>
        refine ⟨i+1,k2,Pl,c+yO+1,u++((v1++v2)++(((1,Jz)::bG pn)++((1,dn)::sg 61::(dO (un:Int)++s)))),rfl,by go_num,rfl,aa dN,by omega,?_,aa kY,(aa AX).1,(aa AX).2⟩
        have:=(aa Wh).cast (t':=[(1,⟨#[109,101,115,115,97,103,101]⟩),(1,nm),sg 123]++(u++((v1++v2)++(((1,Jz)::bG pn)++((1,dn)::sg 61::(dO (un:Int)++s)))))) (n':=3+100*(i+1)) (by simp[SD,qp]) (by omega)
        rw[show 1+(c+yO+1)=1+c+(yO+1) by omega]
        exact this
      ·simp only at h1 h2 h0
       subst h1
       have EX:=aj (And.intro h0 h2)
       clear h2 h0
       have HP:=aj ((aa iL).put (by have:=aa AV;omega) [(1,Js)] (fun y hy=>by rw[List.mem_singleton.1 hy];exact eA TL) (by simp) #[.string ⟨#[114,101,112,101,97,116,101,100]⟩] rfl 1 rfl)
       go_wp2_with fail
       refine (aa HP).mono ?_
       rintro e Wo ⟨rfl,ha⟩
       have EZ:=aj ha
       clear HP ha y0 y1 y2 y3 y4 y5
       obtain ⟨y0,y1,y2,y3,y4,y5⟩:=aa ng Wo _ _ _ (aa EZ)
       have HP:=aj ((aa EZ).names (by have:=aa AV;omega) (aa EY).tp true ty (aa EY).ty)
       go_wp2_with fail
       refine (aa HP).mono ?_
       rintro e w5 ⟨rfl,ha⟩
       have EH:=aj ha
       clear HP ha y0 y1 y2 y3 y4 y5
       obtain ⟨y0,y1,y2,y3,y4,y5⟩:=aa ng w5 _ _ _ (aa EH)
       go_upto_region 27 with fail
       refine wp_region_any (by kernel_rfl) (cj (z:=99) (T:=fun w'=>w'.cell? ⟨wr.heap.size,3,none⟩=some (.string dn)∧w'.cell? ⟨wr.heap.size,4,none⟩=some (.int .i64 (un:Int))) _ _ _ _ ?_)
       try (change cW _ _ _ _ _ _ _ _ _ (World.drew _))
       have jo:Below w5.heap.size w5 w5.drew:=below_drewN (zE _ _) 1
       have yH:=aj ((aa EH).up jo)
       obtain ⟨wd,iZ⟩:∃x,w5.drew=x:=⟨_,rfl⟩
       rw[iZ] at yH ⊢
       clear iZ jo y0 y1 y2 y3 y4 y5
       obtain ⟨y0,y1,y2,y3,y4,y5⟩:=aa ng wd _ _ _ (aa yH)
       have hT:(fun w':World=>w'.cell? ⟨wr.heap.size,3,none⟩=some (.string dn)∧w'.cell? ⟨wr.heap.size,4,none⟩=some (.int .i64 (un:Int))) wd:=⟨y3,y4⟩
       clear y0 y1 y2 y3 y4 y5
       refine ak 0 (.pointer (some ⟨b,0,none⟩)) 101 rfl rfl (Or.inl ⟨by rfl,fun w' hw=>by obtain ⟨t0,t1⟩:=hw;go_simp⟩) hT ?_
       simp only[Act.put,zL,zM,zN]
       refine ak 1 (.pointer (some ⟨wr.heap.size,3,none⟩)) 102 rfl rfl (Or.inl ⟨by rfl,fun w' hw=>by obtain ⟨t0,t1⟩:=hw;go_simp⟩) hT ?_
       simp only[Act.put,zL,zM,zN]
       refine ak 2 (.string dn) 103 rfl rfl (Or.inl ⟨by rfl,fun w' hw=>by obtain ⟨t0,t1⟩:=hw;go_simp⟩) hT ?_
       simp only[Act.put,zL,zM,zN]
       refine ak 3 (.pointer (some ⟨wr.heap.size,4,none⟩)) 104 rfl rfl (Or.inl ⟨by rfl,fun w' hw=>by obtain ⟨t0,t1⟩:=hw;go_simp⟩) hT ?_
       simp only[Act.put,zL,zM,zN]
       refine ak 4 (.int .i64 (un:Int)) 105 rfl rfl (Or.inl ⟨by rfl,fun w' hw=>by obtain ⟨t0,t1⟩:=hw;go_simp⟩) hT ?_
       simp only[Act.put,zL,zM,zN]
       refine ay 5 (by kernel_rfl) rfl (fun K hK=>?_)
       refine aN 106 rfl rfl 41 (fun vs=>by kernel_rfl) #[.tmp 105] #[3] rfl #[.int .i64 (un:Int)] (by first|rfl|simp[Act.eval]) (l0 (aa yH).we.hp un (by omega)) ?_
       rintro e' wi ⟨rfl,Nu⟩
       have yG:=aj ((aa yH).up Nu)
       obtain ⟨y0,y1,y2,y3,y4,y5⟩:=aa ng wi _ _ _ (aa yG)
       have jr:(fun w':World=>w'.cell? ⟨wr.heap.size,3,none⟩=some (.string dn)∧w'.cell? ⟨wr.heap.size,4,none⟩=some (.int .i64 (un:Int))) wi:=⟨y3,y4⟩
       refine ⟨_,rfl,hK _ _ ⟨fun _=>jr,?_⟩⟩
       clear hK K hT y0 y1 y2 y3 y4 y5 Nu
       simp only[Act.put,zL,zM,zN]
       have Nv:Below wi.heap.size wi (wi.alloc (.cells #[.string dn,.string ⟨#[61]⟩,.string (dec un)] 9)):=(zE _ _).alloc (zD _) _
       obtain ⟨y0,y1,y2,y3,y4,y5⟩:=aa ng _ _ _ _ ((aa yG).up Nv)
       refine ay 6 (by kernel_rfl) rfl (fun K hK=>?_)
       go_simp
       refine hK _ _ ⟨fun _=>⟨y3,y4⟩,?_⟩
       clear hK K y0 y1 y2 y3 y4 y5 Nv jr
       refine ay 7 (by kernel_rfl) rfl (fun K hK=>?_)
       refine aN 108 rfl rfl 18 (fun vs=>by kernel_rfl) #[.tmp 101,.tmp 107] #[53,22] rfl #[.pointer (some ⟨b,0,none⟩),.slice (some ⟨wi.heap.size,0,none⟩) 3 3] (by first|rfl|simp[Act.eval]) ((aa yG).put (by have:=aa AV;omega) [(1,dn),sg 61,(2,dec un)] (fun y hy=>by
        rcases List.mem_cons.1 hy with rfl|hy
        ·exact eA (aa EY).nm
        ·rcases List.mem_cons.1 hy with rfl|hy
         ·exact fV 61 (by decide)
         ·rw[List.mem_singleton.1 hy];exact su (by omega)) (by simp) #[.string dn,.string ⟨#[61]⟩,.string (dec un)] rfl 3 rfl) ?_
       rintro e' wj ⟨rfl,ha⟩
       have Wi:=aj ha
       obtain ⟨y0,y1,y2,y3,y4,y5⟩:=aa ng wj _ _ _ ha
       refine ⟨_,rfl,hK _ _ ⟨fun _=>⟨y3,y4⟩,?_⟩⟩
       clear hK K y0 y1 y2 y3 y4 y5 ha
       simp only[Act.put,zL,zM,zN]
       refine bj (by kernel_rfl) ?_
       have HP:=aj ((aa Wi).yT (by have:=aa AV;omega))
       go_wp2_with fail
       refine (aa HP).mono ?_
       rintro e wk ⟨rfl,s,hs,ha⟩
       have Pa:=aj ha
       have pV:=aj hs
       clear HP ha hs
       obtain ⟨c3,z3⟩:=(aa Pa).cells
       have jz:=(aa Pa).decl
       obtain ⟨Dj,xV⟩:∃Dj,((D+(1+c)+yO:Nat):Int)=Dj:=⟨_,rfl⟩
       have d0:(0:Int)≤Dj:=by rw[←xV];exact zH _
       have dB:Dj≤1099511630000:=by have:=(aa O').2;omega
       rw[xV] at c3 jz
       have Wh:=aj (WA.comp (aa HQ).1 (aa HQ).2 (aa HKq) jz)
       have V8:Hid (jP ⟨3,ky,ty,dn,(un:Int),z⟩ (((1,Js)::bG pn))):=⟨pn,aa EY,.inr ⟨(aa EX).1,.inr (.inl ⟨rfl,(aa EX).2,rfl⟩)⟩⟩
       have kY:=aj (aa Xg _ s (aa V8) (aa pV))
       have hiL:fs.length≤1099511620000:=by have:=aa Hn;omega
       clear xV jz
       go_wp2
       go_roundg (fs.length-(i+1))
       case measure=>have:=aa gA;have:=aa dN;omega
       case rel =>
        refine ⟨i+1,k2,Pl,c+yO+1,u++((v1++v2)++(((1,Js)::bG pn)++((1,dn)::sg 61::(dO (un:Int)++s)))),rfl,by go_num,rfl,aa dN,by omega,?_,aa kY,(aa AX).1,(aa AX).2⟩
        have:=(aa Wh).cast (t':=[(1,⟨#[109,101,115,115,97,103,101]⟩),(1,nm),sg 123]++(u++((v1++v2)++(((1,Js)::bG pn)++((1,dn)::sg 61::(dO (un:Int)++s)))))) (n':=3+100*(i+1)) (by simp[SD,qp]) (by omega)
        rw[show 1+(c+yO+1)=1+c+(yO+1) by omega]
        exact this
      ·simp only at h1 h3 h0
       subst h1
       have EX:=aj (And.intro h0 (And.intro h2 h3))
       clear h2 h0 h3
       have HP:=aj ((aa iL).put (by have:=aa AV;omega) [(1,⟨#[109,97,112]⟩),sg 60] (fun y hy=>by
        rcases List.mem_cons.1 hy with rfl|hy
        ·exact eA T7
        ·rw[List.mem_singleton.1 hy];exact fV 60 (by decide)) (by simp) #[.string ⟨#[109,97,112]⟩,.string ⟨#[60]⟩] rfl 2 rfl)
       go_wp2_with fail
       refine (aa HP).mono ?_
       rintro e Wo ⟨rfl,ha⟩
       have EZ:=aj ha
       clear HP ha y0 y1 y2 y3 y4 y5
       obtain ⟨y0,y1,y2,y3,y4,y5⟩:=aa ng Wo _ _ _ (aa EZ)
       have HP:=aj ((aa EZ).names (by have:=aa AV;omega) (aa EX).2.1 true ky (aa EX).2.2)
       go_wp2_with fail
       refine (aa HP).mono ?_
       rintro e w4c ⟨rfl,ha⟩
       have aah:=aj ha
       clear HP ha y0 y1 y2 y3 y4 y5
       obtain ⟨y0,y1,y2,y3,y4,y5⟩:=aa ng w4c _ _ _ (aa aah)
       have HP:=aj ((aa aah).put (by have:=aa AV;omega) [sg 44] (fun y hy=>by rw[List.mem_singleton.1 hy];exact fV 44 (by decide)) (by simp) #[.string ⟨#[44]⟩] rfl 1 rfl)
       go_wp2_with fail
       refine (aa HP).mono ?_
       rintro e w4d ⟨rfl,ha⟩
       have aag:=aj ha
       clear HP ha y0 y1 y2 y3 y4 y5
       obtain ⟨y0,y1,y2,y3,y4,y5⟩:=aa ng w4d _ _ _ (aa aag)
       have HP:=aj ((aa aag).names (by have:=aa AV;omega) (aa EY).tp true ty (aa EY).ty)
       go_wp2_with fail
       refine (aa HP).mono ?_
       rintro e w4e ⟨rfl,ha⟩
       have aaf:=aj ha
       clear HP ha y0 y1 y2 y3 y4 y5
       obtain ⟨y0,y1,y2,y3,y4,y5⟩:=aa ng w4e _ _ _ (aa aaf)
       have HP:=aj ((aa aaf).put (by have:=aa AV;omega) [sg 62] (fun y hy=>by rw[List.mem_singleton.1 hy];exact fV 62 (by decide)) (by simp) #[.string ⟨#[62]⟩] rfl 1 rfl)
       go_wp2_with fail
       refine (aa HP).mono ?_
       rintro e w5 ⟨rfl,ha⟩
       have EH:=aj ha
       clear HP ha y0 y1 y2 y3 y4 y5
       obtain ⟨y0,y1,y2,y3,y4,y5⟩:=aa ng w5 _ _ _ (aa EH)
       go_upto_region 27 with fail
       refine wp_region_any (by kernel_rfl) (cj (z:=99) (T:=fun w'=>w'.cell? ⟨wr.heap.size,3,none⟩=some (.string dn)∧w'.cell? ⟨wr.heap.size,4,none⟩=some (.int .i64 (un:Int))) _ _ _ _ ?_)
       try (change cW _ _ _ _ _ _ _ _ _ (World.drew _))
       have jo:Below w5.heap.size w5 w5.drew:=below_drewN (zE _ _) 1
       have yH:=aj ((aa EH).up jo)
       obtain ⟨wd,iZ⟩:∃x,w5.drew=x:=⟨_,rfl⟩
       rw[iZ] at yH ⊢
       clear iZ jo y0 y1 y2 y3 y4 y5
       obtain ⟨y0,y1,y2,y3,y4,y5⟩:=aa ng wd _ _ _ (aa yH)
       have hT:(fun w':World=>w'.cell? ⟨wr.heap.size,3,none⟩=some (.string dn)∧w'.cell? ⟨wr.heap.size,4,none⟩=some (.int .i64 (un:Int))) wd:=⟨y3,y4⟩
       clear y0 y1 y2 y3 y4 y5
       refine ak 0 (.pointer (some ⟨b,0,none⟩)) 101 rfl rfl (Or.inl ⟨by rfl,fun w' hw=>by obtain ⟨t0,t1⟩:=hw;go_simp⟩) hT ?_
       simp only[Act.put,zL,zM,zN]
       refine ak 1 (.pointer (some ⟨wr.heap.size,3,none⟩)) 102 rfl rfl (Or.inl ⟨by rfl,fun w' hw=>by obtain ⟨t0,t1⟩:=hw;go_simp⟩) hT ?_
       simp only[Act.put,zL,zM,zN]
       refine ak 2 (.string dn) 103 rfl rfl (Or.inl ⟨by rfl,fun w' hw=>by obtain ⟨t0,t1⟩:=hw;go_simp⟩) hT ?_
       simp only[Act.put,zL,zM,zN]
       refine ak 3 (.pointer (some ⟨wr.heap.size,4,none⟩)) 104 rfl rfl (Or.inl ⟨by rfl,fun w' hw=>by obtain ⟨t0,t1⟩:=hw;go_simp⟩) hT ?_
       simp only[Act.put,zL,zM,zN]
       refine ak 4 (.int .i64 (un:Int)) 105 rfl rfl (Or.inl ⟨by rfl,fun w' hw=>by obtain ⟨t0,t1⟩:=hw;go_simp⟩) hT ?_
       simp only[Act.put,zL,zM,zN]
       refine ay 5 (by kernel_rfl) rfl (fun K hK=>?_)
       refine aN 106 rfl rfl 41 (fun vs=>by kernel_rfl) #[.tmp 105] #[3] rfl #[.int .i64 (un:Int)] (by first|rfl|simp[Act.eval]) (l0 (aa yH).we.hp un (by omega)) ?_
       rintro e' wi ⟨rfl,Nu⟩
       have yG:=aj ((aa yH).up Nu)
       obtain ⟨y0,y1,y2,y3,y4,y5⟩:=aa ng wi _ _ _ (aa yG)
       have jr:(fun w':World=>w'.cell? ⟨wr.heap.size,3,none⟩=some (.string dn)∧w'.cell? ⟨wr.heap.size,4,none⟩=some (.int .i64 (un:Int))) wi:=⟨y3,y4⟩
       refine ⟨_,rfl,hK _ _ ⟨fun _=>jr,?_⟩⟩
       clear hK K hT y0 y1 y2 y3 y4 y5 Nu
       simp only[Act.put,zL,zM,zN]
       have Nv:Below wi.heap.size wi (wi.alloc (.cells #[.string dn,.string ⟨#[61]⟩,.string (dec un)] 9)):=(zE _ _).alloc (zD _) _
       obtain ⟨y0,y1,y2,y3,y4,y5⟩:=aa ng _ _ _ _ ((aa yG).up Nv)
       refine ay 6 (by kernel_rfl) rfl (fun K hK=>?_)
       go_simp
       refine hK _ _ ⟨fun _=>⟨y3,y4⟩,?_⟩
       clear hK K y0 y1 y2 y3 y4 y5 Nv jr
       refine ay 7 (by kernel_rfl) rfl (fun K hK=>?_)
       refine aN 108 rfl rfl 18 (fun vs=>by kernel_rfl) #[.tmp 101,.tmp 107] #[53,22] rfl #[.pointer (some ⟨b,0,none⟩),.slice (some ⟨wi.heap.size,0,none⟩) 3 3] (by first|rfl|simp[Act.eval]) ((aa yG).put (by have:=aa AV;omega) [(1,dn),sg 61,(2,dec un)] (fun y hy=>by
        rcases List.mem_cons.1 hy with rfl|hy
        ·exact eA (aa EY).nm
        ·rcases List.mem_cons.1 hy with rfl|hy
         ·exact fV 61 (by decide)
         ·rw[List.mem_singleton.1 hy];exact su (by omega)) (by simp) #[.string dn,.string ⟨#[61]⟩,.string (dec un)] rfl 3 rfl) ?_
       rintro e' wj ⟨rfl,ha⟩
       have Wi:=aj ha
       obtain ⟨y0,y1,y2,y3,y4,y5⟩:=aa ng wj _ _ _ ha
       refine ⟨_,rfl,hK _ _ ⟨fun _=>⟨y3,y4⟩,?_⟩⟩
       clear hK K y0 y1 y2 y3 y4 y5 ha
       simp only[Act.put,zL,zM,zN]
       refine bj (by kernel_rfl) ?_
       have HP:=aj ((aa Wi).yT (by have:=aa AV;omega))
       go_wp2_with fail
       refine (aa HP).mono ?_
       rintro e wk ⟨rfl,s,hs,ha⟩
       have Pa:=aj ha
       have pV:=aj hs
       clear HP ha hs
       obtain ⟨c3,z3⟩:=(aa Pa).cells
       have jz:=(aa Pa).decl
       obtain ⟨Dj,xV⟩:∃Dj,((D+(1+c)+yO:Nat):Int)=Dj:=⟨_,rfl⟩
       have d0:(0:Int)≤Dj:=by rw[←xV];exact zH _
       have dB:Dj≤1099511630000:=by have:=(aa O').2;omega
       rw[xV] at c3 jz
       have Wh:=aj (WA.comp (aa HQ).1 (aa HQ).2 (aa HKq) jz)
       have V8:Hid (jP ⟨4,ky,ty,dn,(un:Int),z⟩ (((1,⟨#[109,97,112]⟩)::sg 60::(bG kn++sg 44::(bG pn++[sg 62]))))):=⟨pn,aa EY,.inr ⟨(aa EX).1,.inr (.inr ⟨rfl,kn,(aa EX).2.1,(aa EX).2.2,rfl⟩)⟩⟩
       have kY:=aj (aa Xg _ s (aa V8) (aa pV))
       have hiL:fs.length≤1099511620000:=by have:=aa Hn;omega
       clear xV jz
       go_wp2
       go_roundg (fs.length-(i+1))
       case measure=>have:=aa gA;have:=aa dN;omega
       case rel =>
        refine ⟨i+1,k2,Pl,c+yO+1,u++((v1++v2)++(((1,⟨#[109,97,112]⟩)::sg 60::(bG kn++sg 44::(bG pn++[sg 62])))++((1,dn)::sg 61::(dO (un:Int)++s)))),rfl,by go_num,rfl,aa dN,by omega,?_,aa kY,(aa AX).1,(aa AX).2⟩
        have:=(aa Wh).cast (t':=[(1,⟨#[109,101,115,115,97,103,101]⟩),(1,nm),sg 123]++(u++((v1++v2)++(((1,⟨#[109,97,112]⟩)::sg 60::(bG kn++sg 44::(bG pn++[sg 62])))++((1,dn)::sg 61::(dO (un:Int)++s)))))) (n':=3+100*(i+1)) (by simp[SD,qp]) (by omega)
        rw[show 1+(c+yO+1)=1+c+(yO+1) by omega]
        exact this
  ·obtain rfl:i=fs.length:=by omega
   have hk:k=os.length:=by
    have:=aa HSq
    rw[List.drop_length] at this
    exact this
   subst hk
   clear qz x0 x1 x2 x3 x4 x5 x6
   obtain ⟨x0,x1,x2,x3,x4,x5,x6⟩:=aa IT wr _ _ _ (aa HA)
   go_upto_if 119 with fail
   go_cut [] (fun wx=>∃u',Hid (WA V b r vs ps D W1 ([(1,⟨#[109,101,115,115,97,103,101]⟩),(1,nm),sg 123]++u') (6+100*fs.length) (1+c) wx)∧Hid (FS nm fs os fs.length os.length 0 u' c))
   case first =>
    by_cases h0:op=0
    ·subst h0
     go_wp2_with fail
     go_meet
     exact ⟨u,(aa HA).cast rfl (by omega),HF⟩
    ·have e1:((op:Int) != 0)=true:=by simp;omega
     have HFc:=aj ((aa HF).close h0)
     have HP:=aj ((aa HA).put (by have:=aa Hn;omega) [sg 125] (fun y hy=>by rw[List.mem_singleton.1 hy];exact fV 125 (by decide)) (by decide) #[.string ⟨#[125]⟩] rfl 1 rfl)
     clear h0
     go_wp2_with fail
     refine (aa HP).mono ?_
     rintro e w3 ⟨rfl,ha⟩
     have np:=aj ha
     clear HP ha
     go_wp2_with fail
     go_meet
     exact ⟨u++[sg 125],(aa np).cast (by simp) (by omega),HFc⟩
   case rest =>
    obtain ⟨u1,yI,qV⟩:=hcut
    obtain ⟨W3,Q9⟩:∃x,x=wc:=⟨_,rfl⟩
    subst Q9
    have zt:Hid (∀(mf:aD→Except (Int×Int) (Ms×aD)) (K:Nat),eU (kH mf) K u1 c (Hm nm [] []) (Hm nm fs os)):=fun mf K=>by
     rcases aa qV with ⟨_,h⟩|⟨h1,h2,_⟩
     ·have:=h mf K
      rw[List.take_length,List.take_length] at this
      exact this
     ·omega
    clear qV HF HSq Sa HA x0 x1 x2 x3 x4 x5 x6
    obtain ⟨x0,x1,x2,x3,x4,x5,x6⟩:=aa IT W3 _ _ _ (aa yI)
    have HP:=aj ((aa yI).nF (aa HR) (aa HG) (fun p hp=>by have:=(aa HX).2.2.2.2.2.2.1 p hp;exact ⟨⟨by omega,by omega⟩,by omega,by omega⟩) (aa HX).2.2.2.2.2.2.2 (by have:=aa Hn;omega) (by have:=aa HD;omega))
    go_wp2_with fail
    refine (aa HP).mono ?_
    rintro e w4 ⟨rfl,t2,xL,ha⟩
    have mz:=aj ha
    have PJ:Hid (∀(mf:aD→Except (Int×Int) (Ms×aD)) (K:Nat),eU (kH mf) K (u1++t2) (c+(rs.length+gs.length)) (Hm nm [] []) ⟨nm,fs,os,[],[],rs,gs⟩):=fun mf K=>(aa zt mf K).trans (Qt (aa HX).2.2.2.2.2.2.1 (aa HX).2.2.2.2.2.2.2 xL (Hm nm fs os))
    clear HP ha xL zt yI x0 x1 x2 x3 x4 x5 x6
    go_upto_region 34 with fail
    go_loopg [7] ms.length (fun gk v7 wr=>∃(j:Nat) (t3:List Wd) (c3:Nat),v7=.int .i64 (j:Int)∧gk=ms.length-j∧j≤ms.length∧c3≤bI (By f) (ms.take j)∧Hid (WA V b r vs ps D W1 ([(1,⟨#[109,101,115,115,97,103,101]⟩),(1,nm),sg 123]++(u1++t2++t3)) (26+100*fs.length+(20*rs.length+10*gs.length)+bI (ni f) (ms.take j)) (1+(c+(rs.length+gs.length)+c3)) wr)∧Hid (∀n,f≤n→eU (kH (bw n)) f t3 c3 ⟨nm,fs,os,[],[],rs,gs⟩ ⟨nm,fs,os,ms.take j,[],rs,gs⟩))
    case atStart=>exact ⟨0,[],0,rfl,rfl,by omega,Nat.zero_le _,(aa mz).cast (by simp) (by show _≤_+0;omega) |>.decl_eq (by omega),fun n _=>eU.nil _⟩
    case round =>
     obtain ⟨j,t3,c3,rfl,fi,YM,lr,oC,O9⟩:=hrel
     have gA:=aj fi
     clear fi mz
     obtain ⟨x0,x1,x2,x3,x4,x5,x6⟩:=aa IT wr _ _ _ (aa oC)
     by_cases cw:j<ms.length
     ·obtain ⟨m,hm⟩:∃m,ms[j]?=some m:=⟨_,List.getElem?_eq_getElem cw⟩
      obtain ⟨nm',fs',os',T2,Vo,rs',gs'⟩:=m
      obtain ⟨vf',vo',Xq,ve',Xp,Xr,PD,RP,⟨⟨y0,y1,y2,y3,y4,y5,y6⟩,g1,g2,g3,g4,g5,g6⟩,g7,g8⟩:=(aa HMs).rd j nm' fs' os' T2 Vo rs' gs' hm
      obtain ⟨aM,cM,eM,_,Zg⟩:=aa HM
      obtain ⟨rfl,rfl⟩:ma=aM∧mc=cM:=by simpa using eM
      obtain ⟨g,rfl,me,hc⟩:=Zg (by omega)
      have hb:=(aa oC).we.below
      have z0:=(hb.cell (p:=⟨g,j*7,none⟩) me).trans (hc _ _ y0)
      have z1:=(hb.cell (p:=⟨g,j*7+1,none⟩) me).trans (hc _ _ y1)
      have z2:=(hb.cell (p:=⟨g,j*7+2,none⟩) me).trans (hc _ _ y2)
      have z3:=(hb.cell (p:=⟨g,j*7+3,none⟩) me).trans (hc _ _ y3)
      have z4:=(hb.cell (p:=⟨g,j*7+4,none⟩) me).trans (hc _ _ y4)
      have z5:=(hb.cell (p:=⟨g,j*7+5,none⟩) me).trans (hc _ _ y5)
      have z6:=(hb.cell (p:=⟨g,j*7+6,none⟩) me).trans (hc _ _ y6)
      have Aq:=(aa HX).2.2.2.2.1 _ (List.mem_of_getElem? hm)
      have cB:=fA (ni f) hm
      have Nn:=fA (By f) hm
      have gE:=iO (ni f) ms (j+1)
      have UM:=iO (By f) ms (j+1)
      have HP:=aj ((aa oC).message (aa HIH) Aq g1 g2 g7 g8 g3 g4 g5 g6 (by have:=aa Hn;omega) (by have:=aa HD;omega))
      have yP:=aj (eD hm)
      have pV:=aj (And.intro cB (And.intro Nn lr))
      have dN:=aj cw
      have j0:(0:Int)≤(j:Int):=zH _
      have j1:(j:Int)<(ms.length:Int):=by omega
      have hmL:ms.length≤1099511620000:=by
       have:=nw (ni f) ms (fun x hx=>Hj ((aa HX).2.2.2.2.1 x hx))
       have:=aa Hn
       omega
      clear hm y0 y1 y2 y3 y4 y5 y6 g1 g2 g3 g4 g5 g6 g7 g8 eM hc hb Aq cB Nn gE UM cw lr Zg
      go_wp2_with fail
      refine (aa HP).mono ?_
      rintro e w5 ⟨rfl,t4,c4,SH,SY,ha⟩
      have EJ:=aj ha
      have CC:=aj SH
      have HC4:=aj SY
      clear HP ha SH SY x0 x1 x2 x3 x4 x5 x6 z0 z1 z2 z3 z4 z5 z6
      go_wp2
      go_roundg (ms.length-(j+1))
      case measure=>have:=aa gA;have:=aa dN;omega
      case rel =>
       refine ⟨j+1,t3++t4,c3+c4,by go_num,rfl,aa dN,by have:=aa pV;have:=aa HC4;omega,?_,fun n hn=>?_⟩
       ·have:=(aa EJ).cast (t':=[(1,⟨#[109,101,115,115,97,103,101]⟩),(1,nm),sg 123]++(u1++t2++(t3++t4))) (n':=26+100*fs.length+(20*rs.length+10*gs.length)+bI (ni f) (ms.take (j+1))) (by simp) (by have:=aa pV;omega)
        exact this.decl_eq (by omega)
       ·rw[aa yP]
        exact (aa O9 n hn).trans (U' (x:=⟨nm,fs,os,ms.take j,[],rs,gs⟩) (aa CC) hn (zD _))
     ·obtain rfl:j=ms.length:=by omega
      have Tl:Hid (∀n,f≤n→eU (kH (bw n)) f t3 c3 ⟨nm,fs,os,[],[],rs,gs⟩ ⟨nm,fs,os,ms,[],rs,gs⟩):=fun n hn=>by
       have:=aa O9 n hn
       rw[List.take_length] at this
       exact this
      have EJ:=aj ((aa oC).cast (t':=[(1,⟨#[109,101,115,115,97,103,101]⟩),(1,nm),sg 123]++(u1++t2++t3)) (n':=26+100*fs.length+(20*rs.length+10*gs.length)+bI (ni f) ms) rfl (by rw[List.take_length];omega))
      have SY:c3≤bI (By f) ms:=by rw[List.take_length] at lr;exact lr
      clear O9 oC lr
      go_upto_region 38 with fail
      clear x0 x1 x2 x3 x4 x5 x6
      go_loopg [8] es.length (fun gk v8 wr=>∃(j:Nat) (t5:List Wd),v8=.int .i64 (j:Int)∧gk=es.length-j∧j≤es.length∧Hid (WA V b r vs ps D W1 ([(1,⟨#[109,101,115,115,97,103,101]⟩),(1,nm),sg 123]++(u1++t2++t3++t5)) (26+100*fs.length+(20*rs.length+10*gs.length)+bI (ni f) ms+bI nQ (es.take j)) (1+(c+(rs.length+gs.length)+c3+bI pT (es.take j))) wr)∧Hid (∀n,f≤n→eU (kH (bw n)) f t5 (bI pT (es.take j)) ⟨nm,fs,os,ms,[],rs,gs⟩ ⟨nm,fs,os,ms,es.take j,rs,gs⟩))
      case atStart=>exact ⟨0,[],rfl,rfl,by omega,(aa EJ).cast (by simp) (by omega),fun n _=>eU.nil _⟩
      case round =>
       obtain ⟨j,t5,rfl,kL,YM,ta,HE5⟩:=hrel
       have oM:=aj kL
       clear kL EJ
       obtain ⟨x0,x1,x2,x3,x4,x5,x6⟩:=aa IT wr _ _ _ (aa ta)
       by_cases eP:j<es.length
       ·obtain ⟨e9,he⟩:∃m,es[j]?=some m:=⟨_,List.getElem?_eq_getElem eP⟩
        obtain ⟨vv',Xp,Xr,⟨y0,y1,y2,y3⟩,g1,g2,g3⟩:=(aa HEs) j e9 he
        obtain ⟨aE,cE,eE,_,Zj⟩:=aa HEr
        obtain ⟨rfl,rfl⟩:ea=aE∧ec=cE:=by simpa using eE
        obtain ⟨g,rfl,me,hc⟩:=Zj (by omega)
        have hb:=(aa ta).we.below
        have z0:=(hb.cell (p:=⟨g,j*4,none⟩) me).trans (hc _ _ y0)
        have z1:=(hb.cell (p:=⟨g,j*4+1,none⟩) me).trans (hc _ _ y1)
        have z2:=(hb.cell (p:=⟨g,j*4+2,none⟩) me).trans (hc _ _ y2)
        have z3:=(hb.cell (p:=⟨g,j*4+3,none⟩) me).trans (hc _ _ y3)
        have Aq:=(aa HX).2.2.2.2.2.1 _ (List.mem_of_getElem? he)
        have cB:=fA nQ he
        have Nn:=fA pT he
        have gE:=iO nQ es (j+1)
        have UM:=iO pT es (j+1)
        have HP:=aj ((aa ta).enum Aq g1 g2 g3 (by have:=aa Hn;omega) (by have:=aa HD;omega))
        have yP:=aj (eD he)
        have pV:=aj (And.intro cB Nn)
        have im:=aj eP
        have j0:(0:Int)≤(j:Int):=zH _
        have j1:(j:Int)<(es.length:Int):=by omega
        have heL:es.length≤1099511620000:=by
         have:=nw nQ es (fun x _=>IB x)
         have:=aa Hn
         omega
        clear he y0 y1 y2 y3 g1 g2 g3 eE hc hb Aq cB Nn gE UM eP Zj
        go_wp2_with fail
        refine (aa HP).mono ?_
        rintro e w5 ⟨rfl,t6,Yh,ha⟩
        have KG:=aj ha
        have HT6:=aj Yh
        clear HP ha Yh x0 x1 x2 x3 x4 x5 x6 z0 z1 z2 z3
        go_wp2
        go_roundg (es.length-(j+1))
        case measure=>have:=aa oM;have:=aa im;omega
        case rel =>
         refine ⟨j+1,t5++t6,by go_num,rfl,aa im,?_,fun n hn=>?_⟩
         ·have:=(aa KG).cast (t':=[(1,⟨#[109,101,115,115,97,103,101]⟩),(1,nm),sg 123]++(u1++t2++t3++(t5++t6))) (n':=26+100*fs.length+(20*rs.length+10*gs.length)+bI (ni f) ms+bI nQ (es.take (j+1))) (by simp) (by have:=aa pV;omega)
          exact this.decl_eq (by have:=aa pV;omega)
         ·rw[aa yP,kB]
          exact (aa HE5 n hn).trans ((Rc (mf:=bw n) (K:=f) (x:=⟨nm,fs,os,ms,es.take j,rs,gs⟩) (aa HT6)).cast rfl rfl)
       ·obtain rfl:j=es.length:=by omega
        have HP:=aj ((aa ta).put (by have:=aa Hn;have:=iO nQ es es.length;omega) [sg 125] (fun y hy=>by rw[List.mem_singleton.1 hy];exact fV 125 (by decide)) (by decide) #[.string ⟨#[125]⟩] rfl 1 rfl)
        go_wp2_with fail
        refine (aa HP).mono ?_
        rintro e w5 ⟨rfl,ha⟩
        have jn:Hid (Wr b r vs ps D W (100+100*fs.length+(20*rs.length+10*gs.length)+bI (ni f) ms+bI nQ es) (fun t c=>VR (f+1) (.mk nm fs os ms es rs gs) t c∧c≤1+2*fs.length+(rs.length+gs.length)+bI (By f) ms+bI pT es) (.returned (.tuple #[])) w5):=by
         obtain ⟨r9,q9,k1,k2,k3,k4⟩:=ha.ex
         have hE:∀n,f≤n→eU (kH (bw n)) f (u1++t2++t3++t5) (c+(rs.length+gs.length)+c3+bI pT es) ⟨nm,[],[],[],[],[],[]⟩ ⟨nm,fs,os,ms,es,rs,gs⟩:=fun n hn=>by
          have h5:=aa HE5 n hn
          rw[List.take_length] at h5
          exact ((aa PJ (bw n) f).trans (aa Tl n hn)).trans h5
         have hT:=TX hE (aa HX).1
         rw[List.take_length] at k3
         refine ⟨rfl,r9,q9,1+(c+(rs.length+gs.length)+c3+bI pT es),⟨?_,by omega⟩,by rw[List.take_length] at k2;omega,k3,(aa HKw).trans k4⟩
         rw[k1]
         have e3:[(1,⟨#[109,101,115,115,97,103,101]⟩),(1,nm),sg 123]++(u1++t2++t3++t5)++[sg 125]=(1,oF)::(1,nm)::sg 123::((u1++t2++t3++t5)++[sg 125]):=by simp[oF]
         rw[e3]
         exact hT
        clear HP ha x0 x1 x2 x3 x4 x5 x6
        go_wp2
        go_end0
        exact aa jn
theorem sK:∀f,R5 f
 |0=>fun _ _ _ _ _ _ _ _ _ _ _ _ _ _ _ _ _ _ _ _ _ _ _ _ _ h=>h.elim
 |f+1=>FC (sK f)
end Go.Proofs.YtmlphohdcejniaaGreatDoor

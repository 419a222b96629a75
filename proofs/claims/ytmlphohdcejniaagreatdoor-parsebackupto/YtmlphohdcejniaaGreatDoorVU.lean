import Derived.Test.YtmlphohdcejniaaGreatDoorM42
set_option maxHeartbeats 8000000
set_option maxRecDepth 100000
namespace Go.Proofs.YtmlphohdcejniaaGreatDoor
open Go.RowKit
attribute [local go_sem ↓] Go.wp_at_zero Go.wp_at_succ
theorem RX:aU ⟨#[109,101,115,115,97,103,101]⟩:=by
 refine ⟨?_,by decide,by decide⟩
 kernel_rfl
theorem RW:aU ⟨#[111,110,101,111,102]⟩:=by
 refine ⟨?_,by decide,by decide⟩
 kernel_rfl
theorem RU:aU ⟨#[111,112,116,105,111,110,97,108]⟩:=by
 refine ⟨?_,by decide,by decide⟩
 kernel_rfl
theorem RO:aU ⟨#[114,101,112,101,97,116,101,100]⟩:=by
 refine ⟨?_,by decide,by decide⟩
 kernel_rfl
theorem R9:aU ⟨#[109,97,112]⟩:=by
 refine ⟨?_,by decide,by decide⟩
 kernel_rfl
def PY (f:Nat):Prop:=∀(V W:World) (b:Nat) (r:Option Nat) (vs:Value) (ps:List (Wd×List Nat)) (D:Nat),WE V W b→l7 b r vs ps D W→∀(nm:ByteArray) (fs:List Fd) (os:List ByteArray) (ms:List Ms) (es:List En) (rs:List (Int×Int)) (gs:List ByteArray) (vf vo vm ve vr vg:Value) (cm ce:List Value) (P:Nat→Prop),
 EZ f (.mk nm fs os ms es rs gs)→km V vf fs.length (gX fs)→km V vo os.length (bS os)→km V vm ms.length cm→di P V cm ms→km V ve es.length ce→NZ V ce es→km V vr rs.length (kz rs)→km V vg gs.length (bS gs) →
 ps.length+mw f (.mk nm fs os ms es rs gs)≤1099511620000→D+zZ f (.mk nm fs os ms es rs gs)≤1099511610000 →
 Calls Tryz.prog 23 #[.pointer (some ⟨b,0,none⟩),.agg #[.string nm,vf,vo,vm,ve,vr,vg]] W (Wr b r vs ps D W (mw f (.mk nm fs os ms es rs gs)) fun t c=>TQ f (.mk nm fs os ms es rs gs) t c∧c≤zZ f (.mk nm fs os ms es rs gs))
def ZR (z:Int) (k BP:Nat):Prop:=(z=0∧BP=0)∨(z=(k:Int)∧BP=k∧0<k)∨(z=((k+1:Nat):Int)∧BP=0)
theorem Md {w:World}{g:Nat}{d:Fd} (h:w.heap[g]?=some (.cells d.arr 70 (0,0))):w.cell? ⟨g,0,none⟩=some (.int .i64 d.dF)∧w.cell? ⟨g,1,none⟩=some (.string d.key)∧w.cell? ⟨g,2,none⟩=some (.string d.ty)∧w.cell? ⟨g,3,none⟩=some (.string d.name)∧w.cell? ⟨g,4,none⟩=some (.int .i64 d.num)∧w.cell? ⟨g,5,none⟩=some (.int .i64 d.oneof) :=
 ⟨cell_of_row _ _ _ _ _ _ h,cell_of_row _ _ _ _ _ _ h,cell_of_row _ _ _ _ _ _ h,cell_of_row _ _ _ _ _ _ h,cell_of_row _ _ _ _ _ _ h,cell_of_row _ _ _ _ _ _ h⟩
theorem R5 {f c:Nat}{nm:ByteArray}{fs:List Fd}{os:List ByteArray}{ms:List Ms}{es:List En}{rs:List (Int×Int)}{gs:List ByteArray}{ws:List Wd} (hE:∀n,f≤n→eH (j6 (bB n)) f ws c ⟨nm,[],[],[],[],[],[]⟩ ⟨nm,fs,os,ms,es,rs,gs⟩) (hx:aU nm):TQ (f+1) (.mk nm fs os ms es rs gs) ((1,xC)::(1,nm)::sg 123::(ws++[sg 125])) (1+c):=Pg (x:=⟨nm,fs,os,ms,es,rs,gs⟩) hE hx
theorem WA.message {f:Nat} (ih:PY f) {V:World}{b:Nat}{r0:Option Nat}{vs:Value}{ps:List (Wd×List Nat)}{D:Nat}{W:World}{t:List Wd}{n c:Nat}{w:World} (h:WA V b r0 vs ps D W t n c w) {nm:ByteArray}{fs:List Fd}{os:List ByteArray}{ms:List Ms}{es:List En}{rs:List (Int×Int)}{gs:List ByteArray}{vf vo vm ve vr vg:Value}{cm ce:List Value}{P:Nat→Prop}
  (yB:EZ f (.mk nm fs os ms es rs gs)) (hf:km V vf fs.length (gX fs)) (ho:km V vo os.length (bS os)) (hm:km V vm ms.length cm) (jQ:di P V cm ms) (he:km V ve es.length ce) (mx:NZ V ce es) (hr:km V vr rs.length (kz rs)) (hg:km V vg gs.length (bS gs))
  (hn:ps.length+n+mw f (.mk nm fs os ms es rs gs)≤1099511620000) (hD:D+c+zZ f (.mk nm fs os ms es rs gs)≤1099511610000) :
  Calls Tryz.prog 23 #[.pointer (some ⟨b,0,none⟩),.agg #[.string nm,vf,vo,vm,ve,vr,vg]] w fun e w'=>e=.returned (.tuple #[])∧∃t2 c2,TQ f (.mk nm fs os ms es rs gs) t2 c2∧c2≤zZ f (.mk nm fs os ms es rs gs)∧WA V b r0 vs ps D W (t++t2) (n+mw f (.mk nm fs os ms es rs gs)) (c+c2) w':=by
 obtain ⟨⟨r,q,g1,g2,h3,h4⟩,h5⟩:=h
 refine (ih V w b r vs (ps++q) (D+c) h5 h3 nm fs os ms es rs gs vf vo vm ve vr vg cm ce P yB hf ho hm jQ he mx hr hg (by rw[zK];omega) hD).mono ?_
 rintro e w' ⟨rfl,r2,p2,c2,⟨e1,e5⟩,e2,e3,e4⟩
 exact ⟨rfl,_,c2,e1,e5,kq g1 g2 h3 h4 h5 rfl e2 e3 e4⟩
theorem WA.enum {V:World}{b:Nat}{r0:Option Nat}{vs:Value}{ps:List (Wd×List Nat)}{D:Nat}{W:World}{t:List Wd}{n c:Nat}{w:World} (h:WA V b r0 vs ps D W t n c w) {x:En} (hx:C' x) {vv vr vg:Value} (hv:km V vv x.bJ.length (wH x.bJ)) (hr:km V vr x.res.length (kz x.res)) (hg:km V vg x.gone.length (bS x.gone)) (hn:ps.length+n+mY x≤1099511620000) (hD:D+c+oM x≤1099511610000) :
  Calls Tryz.prog 24 #[.pointer (some ⟨b,0,none⟩),.agg #[.string x.name,vv,vr,vg]] w fun e w'=>e=.returned (.tuple #[])∧∃t2,Vd x t2 (oM x)∧WA V b r0 vs ps D W (t++t2) (n+mY x) (c+oM x) w':=by
 obtain ⟨⟨r,q,g1,g2,h3,h4⟩,h5⟩:=h
 unfold mY at hn ⊢
 unfold oM at hD ⊢
 refine (Gx h5 h3 hx hv hr hg (by rw[zK];omega) (by omega)).mono ?_
 rintro e w' ⟨rfl,r2,p2,c2,⟨e1,rfl⟩,e2,e3,e4⟩
 exact ⟨rfl,_,e1,kq g1 g2 h3 h4 h5 rfl e2 e3 e4⟩
theorem DZ {f:Nat} (ih:PY f):PY (f+1):=by
 intro V W b r vs ps D hV h nm fs os ms es rs gs vf vo vm ve vr vg cm ce P yB hf ho hm jQ he mx hr hg hn hD
 obtain ⟨o1,o2,o3,o4,o5,o6,o7,o8⟩:=yB
 have SP:mw (f+1) (.mk nm fs os ms es rs gs)=100+100*fs.length+(20*rs.length+10*gs.length)+bG (mw f) ms+bG mY es:=rfl
 have W8:zZ (f+1) (.mk nm fs os ms es rs gs)=1+2*fs.length+(rs.length+gs.length)+bG (zZ f) ms+bG oM es:=rfl
 rw[SP] at hn ⊢
 rw[W8] at hD ⊢
 have ba:Below W.heap.size W (W.alloc (.cells #[.string nm,vf,vo,vm,ve,vr,vg] 64)):=(zE _ _).alloc (zD _) _
 have bo:(W.alloc (.cells #[.string nm,vf,vo,vm,ve,vr,vg] 64)).heap[W.heap.size]?=some (.cells #[.string nm,vf,vo,vm,ve,vr,vg] 64 (0,0)):=aC _ _
 obtain ⟨W1,Dh⟩:∃W1,W.alloc (.cells #[.string nm,vf,vo,vm,ve,vr,vg] 64)=W1:=⟨_,rfl⟩
 rw[Dh] at ba bo
 have Nl:=aj (WA.start (h.up ba) (hV.up ba))
 have HKw:Hid (KW b r W W1 r):=.dM ba
 have Gs:Hid (∀w t n c,WA V b r vs ps D W1 t n c w→w.cell? ⟨W.heap.size,0,none⟩=some (.string nm)∧w.cell? ⟨W.heap.size,1,none⟩=some vf∧w.cell? ⟨W.heap.size,2,none⟩=some vo∧w.cell? ⟨W.heap.size,3,none⟩=some vm∧w.cell? ⟨W.heap.size,4,none⟩=some ve∧w.cell? ⟨W.heap.size,5,none⟩=some vr∧w.cell? ⟨W.heap.size,6,none⟩=some vg):=fun w t n c ha=>by
  obtain ⟨⟨r9,q9,_,_,_,k4⟩,_⟩:=ha
  have:=(k4.block _ (zA bo).1 (by have:=h.lt;omega) (fun e=>by have:=(h.row _ e).2;omega)).trans bo
  exact ⟨cell_of_row _ _ _ _ _ _ this,cell_of_row _ _ _ _ _ _ this,cell_of_row _ _ _ _ _ _ this,cell_of_row _ _ _ _ _ _ this,cell_of_row _ _ _ _ _ _ this,cell_of_row _ _ _ _ _ _ this,cell_of_row _ _ _ _ _ _ this⟩
 have HR:=aj hr
 have HG:=aj hg
 have HM:=aj hm
 have HMs:=aj jQ
 have Yv:=aj he
 have HEs:=aj mx
 have NW:=aj hf
 have U6:=aj ho
 obtain ⟨fa,fc,rfl,-,-⟩:=id hf
 obtain ⟨oa,oc,rfl,-,-⟩:=id ho
 obtain ⟨ma,mc,rfl,-,-⟩:=id hm
 obtain ⟨ea,ec,rfl,-,-⟩:=id he
 obtain ⟨ra,rc,rfl,-,-⟩:=id hr
 obtain ⟨ga,gc,rfl,-,-⟩:=id hg
 have HX:=aj (And.intro o1 (And.intro o2 (And.intro o3 (And.intro o4 (And.intro o5 (And.intro o6 (And.intro o7 o8)))))))
 have Hn:=aj hn
 have HD:=aj hD
 have HIH:=aj ih
 have e0:=Dh
 have NA:nm.size≤30:=o1.2.2
 clear hr hg hm jQ he mx hf ho hn hD h hV ba bo Dh o1 o2 o3 o4 o5 o6 o7 o8 SP W8 ih
 go_enter Tryz.func23,Tryz.ntmps23
 obtain ⟨x0,x1,x2,x3,x4,x5,x6⟩:=aa Gs W1 _ _ _ (aa Nl)
 have HP:=aj ((aa Nl).put (by have:=aa Hn;omega) [(1,⟨#[109,101,115,115,97,103,101]⟩),(1,nm),sg 123] (fun y hy=>by
  rcases List.mem_cons.1 hy with rfl|hy
  ·exact dU RX
  ·rcases List.mem_cons.1 hy with rfl|hy
   ·exact dU (aa HX).1
   ·rw[List.mem_singleton.1 hy];exact fD 123 (by decide)) (by simp) #[.string ⟨#[109,101,115,115,97,103,101]⟩,.string nm,.string ⟨#[123]⟩] rfl 3 rfl)
 go_wp2_with fail
 refine (aa HP).mono ?_
 rintro e w1 ⟨rfl,ha⟩
 have xp:=aj ha
 obtain ⟨c3,z3⟩:=ha.cells
 have iW:=(aa xp).decl
 obtain ⟨Di,xI⟩:∃Di,((D+0:Nat):Int)=Di:=⟨_,rfl⟩
 have d0:(0:Int)≤Di:=by rw[←xI];exact zH _
 have dB:Di≤1099511620000:=by have:=aa HD;omega
 rw[xI] at c3 iW
 obtain ⟨w1b,OO⟩:∃x,w1.setCell ⟨b,3,none⟩ (.int .i64 (Di+1))=x:=⟨_,rfl⟩
 rw[OO] at iW
 have lE:=aj iW
 clear xI iW HP ha x0 x1 x2 x3 x4 x5 x6
 go_upto_region 5 with fail
 go_loopg [4,5,6] fs.length (fun gk v4 v5 _ wr=>∃(i k op c:Nat) (u:List Wd),v4=.int .i64 (op:Int)∧v5=.int .i64 (i:Int)∧gk=fs.length-i∧i≤fs.length∧c≤2*i∧Hid (WA V b r vs ps D W1 ([(1,⟨#[109,101,115,115,97,103,101]⟩),(1,nm),sg 123]++u) (3+100*i) (1+c) wr)∧Hid (FS nm fs os i k op u c)∧Hid (gB os.length k op (fs.drop i))∧Hid (op=0∨op=k))
 case atStart=>exact ⟨0,0,0,0,[],rfl,rfl,rfl,by omega,by omega,(aa lE).cast rfl (by omega),FS.start nm fs os,(aa HX).2.2.2.1,.inl rfl⟩
 case round =>
  obtain ⟨i,k,op,c,u,rfl,rfl,eN,pC,fX,HA,HF,ZT,P3⟩:=hrel
  have fQ:=aj eN
  clear eN lE xp Nl
  obtain ⟨x0,x1,x2,x3,x4,x5,x6⟩:=aa Gs wr _ _ _ (aa HA)
  by_cases cc:i<fs.length
  ·obtain ⟨d,hd⟩:∃d,fs[i]?=some d:=⟨_,List.getElem?_eq_getElem cc⟩
   obtain ⟨aF,cF,eF,_,Zu⟩:=aa NW
   obtain ⟨rfl,rfl⟩:fa=aF∧fc=cF:=by simpa using eF
   obtain ⟨g,rfl,lp,hc⟩:=Zu (by omega)
   have zc:Hid (∀w',Below V.heap.size V w'→∀j v,d.arr[j]?=some v→w'.cell? ⟨g,i*6+j,none⟩=some v):=fun w' hb j v hj=>(hb.cell (p:=⟨g,i*6+j,none⟩) lp).trans (hc _ _ (pG fs i d hd j v hj))
   have Z0:=aj ((aa HX).2.1 d (List.mem_of_getElem? hd))
   have Hd:=aj hd
   have dA:=aj cc
   have E4:Hid ((d.oneof=0∧gB os.length k 0 (fs.drop (i+1)))∨(d.oneof=(k:Int)∧op=k∧0<k∧gB os.length k k (fs.drop (i+1)))∨(d.oneof=((k+1:Nat):Int)∧gB os.length (k+1) (k+1) (fs.drop (i+1)))):=by
    have e1:fs.drop i=d::fs.drop (i+1):=by
     rw[List.drop_eq_getElem_cons cc]
     rw[List.getElem?_eq_getElem cc] at hd
     rw[zC hd]
    have:=aa ZT
    rw[e1] at this
    exact this
   have i0:(0:Int)≤(i:Int):=zH _
   have i1:(i:Int)<(fs.length:Int):=by omega
   obtain ⟨⟨rq,q,kq1,kq2,YY,kq4⟩,kq5⟩:=aa HA
   have Dg:Below wr.heap.size wr (wr.alloc (.cells d.arr 70)):=(zE _ _).alloc (zD _) _
   have jE:(wr.alloc (.cells d.arr 70)).heap[wr.heap.size]?=some (.cells d.arr 70 (0,0)):=aC _ _
   obtain ⟨cd,ky,ty,dn,nu,z⟩:=d
   unfold Fd.arr at Dg jE zc
   simp only at Dg jE zc E4
   obtain ⟨W2,El⟩:∃W2,wr.alloc (.cells #[.int .i64 cd,.string ky,.string ty,.string dn,.int .i64 nu,.int .i64 z] 70)=W2:=⟨_,rfl⟩
   rw[El] at Dg jE
   have Rc:=aj (WA.start (YY.up Dg) (kq5.up Dg))
   have Yo:Hid (KW b r W1 W2 rq):=kq4.trans (.dM Dg)
   have HQ:=aj (And.intro kq1 kq2)
   have mu:Hid (∀w t n c',WA V b rq vs (ps++q) (D+(1+c)) W2 t n c' w→w.cell? ⟨wr.heap.size,0,none⟩=some (.int .i64 cd)∧w.cell? ⟨wr.heap.size,1,none⟩=some (.string ky)∧w.cell? ⟨wr.heap.size,2,none⟩=some (.string ty)∧w.cell? ⟨wr.heap.size,3,none⟩=some (.string dn)∧w.cell? ⟨wr.heap.size,4,none⟩=some (.int .i64 nu)∧w.cell? ⟨wr.heap.size,5,none⟩=some (.int .i64 z)):=fun w t n c' ha=>by
    obtain ⟨⟨r9,q9,_,_,_,k4⟩,_⟩:=ha
    have:=(k4.block _ (zA jE).1 (by have:=YY.lt;omega) (fun e=>by have:=(YY.row _ e).2;omega)).trans jE
    exact ⟨cell_of_row _ _ _ _ _ _ this,cell_of_row _ _ _ _ _ _ this,cell_of_row _ _ _ _ _ _ this,cell_of_row _ _ _ _ _ _ this,cell_of_row _ _ _ _ _ _ this,cell_of_row _ _ _ _ _ _ this⟩
   have y:=aa zc wr (aa HA).we.below
   have y0:=y 0 _ rfl
   have y1:=y 1 _ rfl
   have y2:=y 2 _ rfl
   have y3:=y 3 _ rfl
   have y4:=y 4 _ rfl
   have y5:=y 5 _ rfl
   rw[Nat.add_zero] at y0
   have eW2:=El
   have XU:=aj (aa P3)
   have Nj:=aj (show ps.length+(3+100*i)+200≤1099511627000∧D+(1+c)+10≤1099511620000 by have:=aa Hn;have:=aa HD;omega)
   have y8:=aj (show (ps++q).length≤1099511626000 by rw[zK];have:=aa Hn;omega)
   clear y hd hc cc kq1 kq2 YY kq4 kq5 Dg jE El eF
   go_upto_region 8 with fail
   obtain ⟨B,hB⟩:∃B:Bool,decide (op≠0∧z≠(op:Int))=B:=⟨_,rfl⟩
   have Vc:=aj hB
   clear hB y0 y1 y2 y3 y4 y5
   obtain ⟨y0,y1,y2,y3,y4,y5⟩:=aa mu W2 _ _ _ (aa Rc)
   go_cut [40] (fun v40 wx=>v40=.bool B∧wx=W2)
   case first =>
    by_cases ho:op=0
    ·have e1:((op:Int) != 0)=false:=by rw[ho];rfl
     have eB:B=false:=by rw[←aa Vc];simp[ho]
     have XX:=aj eB
     clear ho eB
     go_wp2_with fail
     go_meet
     exact ⟨by rw[aa XX],rfl⟩
    ·have e1:((op:Int) != 0)=true:=by simp;omega
     by_cases hz:z=(op:Int)
     ·have e2:(z != (op:Int))=false:=by rw[hz];simp
      have eB:B=false:=by rw[←aa Vc];simp[hz]
      have XX:=aj eB
      clear ho hz eB
      go_wp2_with fail
      go_meet
      exact ⟨by rw[aa XX],rfl⟩
     ·have e2:(z != (op:Int))=true:=by simpa using hz
      have eB:B=true:=by rw[←aa Vc];simp[hz,ho]
      have XX:=aj eB
      clear ho hz eB
      go_wp2_with fail
      go_meet
      exact ⟨by rw[aa XX],rfl⟩
   case rest =>
    obtain ⟨rfl,vW⟩:=hcut
    obtain rfl:W2=wc:=vW.symm
    clear vW
    go_upto_if 40 with fail
    go_cut [4] (fun v4 wx=>∃(BP:Nat) (v1:List Wd),v4=.int .i64 (BP:Int)∧Hid (WA V b rq vs (ps++q) (D+(1+c)) W2 v1 3 0 wx)∧Hid (FS nm fs os i k BP (u++v1) c)∧Hid (ZR z k BP))
    case first =>
     cases B with
     |true =>
      obtain ⟨bC,bH⟩:op≠0∧z≠(op:Int):=by simpa using aa Vc
      have HP:=aj ((aa Rc).put (by have:=aa y8;omega) [sg 125] (fun y hy=>by rw[List.mem_singleton.1 hy];exact fD 125 (by decide)) (by decide) #[.string ⟨#[125]⟩] rfl 1 rfl)
      have HZ:Hid (ZR z k 0):=by
       rcases aa E4 with ⟨h1,_⟩|⟨h1,h2,_⟩|⟨h1,_⟩
       ·exact .inl ⟨h1,rfl⟩
       ·exact absurd (by rw[h1,h2]) bH
       ·exact .inr (.inr ⟨h1,rfl⟩)
      have HFc:=aj ((aa HF).close bC)
      clear bC bH
      go_wp2_with fail
      refine (aa HP).mono ?_
      rintro e w3 ⟨rfl,ha⟩
      have mB:=aj ha
      clear HP ha
      go_wp2_with fail
      go_meet
      exact ⟨0,[sg 125],rfl,(aa mB).cast rfl (by omega),aa HFc,aa HZ⟩
     |false =>
      have HZ:Hid (ZR z k op):=by
       have hb:¬(op≠0∧z≠(op:Int)):=by simpa using aa Vc
       rcases aa E4 with ⟨h1,_⟩|⟨h1,h2,h3,_⟩|⟨h1,_⟩
       ·refine .inl ⟨h1,?_⟩
        by_cases h0:op=0
        ·exact h0
        ·exact absurd ⟨h0,by rw[h1];omega⟩ hb
       ·exact .inr (.inl ⟨h1,h2,h3⟩)
       ·refine .inr (.inr ⟨h1,?_⟩)
        by_cases h0:op=0
        ·exact h0
        ·refine absurd ⟨h0,?_⟩ hb
         rcases aa XU with h2|h2
         ·exact absurd h2 h0
         ·rw[h1,h2];omega
      go_wp2_with fail
      go_meet
      exact ⟨op,[],rfl,(aa Rc).cast rfl (by omega),by rw[List.append_nil];exact aa HF,aa HZ⟩
    case rest =>
     obtain ⟨BP,v1,rfl,mB,pW,HZ⟩:=hcut
     clear HF P3 ZT XU Vc
     obtain ⟨W3,Pc⟩:∃x,x=wc:=⟨_,rfl⟩
     subst Pc
     clear y0 y1 y2 y3 y4 y5 x0 x1 x2 x3 x4 x5 x6
     obtain ⟨y0,y1,y2,y3,y4,y5⟩:=aa mu W3 _ _ _ (aa mB)
     obtain ⟨x0,x1,x2,x3,x4,x5,x6⟩:=aa Gs W3 _ _ _ (WA.comp (aa HQ).1 (aa HQ).2 (aa Yo) (aa mB))
     go_upto_if 47 with fail
     go_cut [4] (fun v4 wx=>∃(Nx k2 xu:Nat) (v2:List Wd),v4=.int .i64 (Nx:Int)∧xu≤1∧Hid (WA V b rq vs (ps++q) (D+(1+c)) W2 (v1++v2) 6 xu wx)∧Hid (∀ft s,js ⟨cd,ky,ty,dn,nu,z⟩ ft→(s=[sg 59]∨s=[sg 59,sg 59])→FS nm fs os (i+1) k2 Nx (u++((v1++v2)++(ft++((1,dn)::sg 61::(eD nu++s))))) (c+xu+1))∧Hid (gB os.length k2 Nx (fs.drop (i+1))∧(Nx=0∨Nx=k2)))
     case first =>
      by_cases nD:z=(BP:Int)
      ·have e1:(z != (BP:Int))=false:=by rw[nD];simp
       have Jg:Hid ((∀ft s,js ⟨cd,ky,ty,dn,nu,z⟩ ft→(s=[sg 59]∨s=[sg 59,sg 59])→FS nm fs os (i+1) k BP (u++((v1++[])++(ft++((1,dn)::sg 61::(eD nu++s))))) (c+0+1))∧(gB os.length k BP (fs.drop (i+1))∧(BP=0∨BP=k))):=by
        rcases aa HZ with ⟨h1,h2⟩|⟨h1,h2,h3⟩|⟨h1,h2⟩
        ·refine ⟨fun ft s WS hs=>?_,?_,.inl h2⟩
         ·have:=FS.field (by rw[h2] at pW;exact aa pW) (aa Hd) WS h1 hs
          rw[h2,List.append_nil,←List.append_assoc u]
          exact this
         ·rcases aa E4 with ⟨_,g⟩|⟨g1,_,g2,_⟩|⟨g1,_⟩
          ·rw[h2];exact g
          ·omega
          ·omega
        ·have hk:k≤os.length:=by
          rcases aa E4 with ⟨g1,_⟩|⟨_,_,_,g⟩|⟨g1,_⟩
          ·omega
          ·exact ld _ _ _ g
          ·omega
         refine ⟨fun ft s WS hs=>?_,?_,.inr h2⟩
         ·have:=FS.inner (by rw[h2] at pW;exact aa pW) h3 hk (aa Hd) WS h1 hs
          rw[h2,List.append_nil,←List.append_assoc u]
          exact this
         ·rcases aa E4 with ⟨g1,_⟩|⟨_,_,_,g⟩|⟨g1,_⟩
          ·omega
          ·rw[h2];exact g
          ·omega
        ·omega
       clear nD
       go_wp2_with fail
       go_meet
       exact ⟨BP,k,0,[],rfl,by omega,(aa mB).cast (by rw[List.append_nil]) (by omega),(aa Jg).1,(aa Jg).2⟩
      ·have e1:(z != (BP:Int))=true:=by simpa using nD
       have nC:z=((k+1:Nat):Int)∧BP=0:=by
        rcases aa HZ with ⟨h1,h2⟩|⟨h1,h2,h3⟩|⟨h1,h2⟩
        ·exact absurd (by rw[h1,h2];rfl) nD
        ·exact absurd (by rw[h1,h2]) nD
        ·exact ⟨h1,h2⟩
       obtain ⟨nC,rfl⟩:=nC
       have hsq:gB os.length (k+1) (k+1) (fs.drop (i+1)):=by
        rcases aa E4 with ⟨g1,_⟩|⟨g1,_,_,_⟩|⟨_,g⟩
        ·omega
        ·omega
        ·exact g
       have Zj:k<os.length:=by have:=ld _ _ _ hsq;omega
       obtain ⟨o,ho⟩:∃o,os[k]?=some o:=⟨_,List.getElem?_eq_getElem Zj⟩
       have Zc:=(aa HX).2.2.1 o (List.mem_of_getElem? ho)
       have HON:=aj Zc
       have hos:o.size≤30:=Zc.2.2
       have Jg:Hid ((∀ft s,js ⟨cd,ky,ty,dn,nu,z⟩ ft→(s=[sg 59]∨s=[sg 59,sg 59])→FS nm fs os (i+1) (k+1) (k+1) (u++((v1++[(1,rN),(1,o),sg 123])++(ft++((1,dn)::sg 61::(eD nu++s))))) (c+1+1))∧(gB os.length (k+1) (k+1) (fs.drop (i+1))∧(k+1=0∨k+1=k+1))):=by
        refine ⟨fun ft s WS hs=>?_,hsq,.inr rfl⟩
        have:=FS.begin (aa pW) ho Zc (aa Hd) WS nC hs
        have e9:u++((v1++[(1,rN),(1,o),sg 123])++(ft++((1,dn)::sg 61::(eD nu++s))))=u++v1++((1,rN)::(1,o)::sg 123::(ft++((1,dn)::sg 61::(eD nu++s)))):=by simp
        rw[e9]
        exact this
       obtain ⟨aO,cO,eO,_,SY⟩:=aa U6
       obtain ⟨rfl,rfl⟩:oa=aO∧oc=cO:=by simpa using eO
       obtain ⟨go,rfl,lW,hco⟩:=SY (by omega)
       have z1:W3.cell? ⟨go,k,none⟩=some (.string o):=((aa mB).we.below.cell (p:=⟨go,k,none⟩) lW).trans (hco _ _ (jw _ _ _ ho))
       have q1:z-1=(k:Int):=by omega
       have q2:(0:Int)≤(k:Int):=zH _
       have q3:(k:Int)<(os.length:Int):=by omega
       have q5:k≤1099511620000:=by
        have h5:=lN _ _ _ (aa HX).2.2.2.1
        have:=aa Hn
        omega
       obtain rfl:z=(k:Int)+1:=by omega
       have q4:wrap64 ((k:Int)+1-1)=(k:Int):=by rw[Int.add_sub_cancel];exact zg (by omega) (by omega)
       have HP:=aj ((aa mB).put (by have:=aa y8;omega) [(1,rN),(1,o),sg 123] (fun y hy=>by
        rcases List.mem_cons.1 hy with rfl|hy
        ·exact dU RW
        ·rcases List.mem_cons.1 hy with rfl|hy
         ·exact dU (aa HON)
         ·rw[List.mem_singleton.1 hy];exact fD 123 (by decide)) (by simp) #[.string ⟨#[111,110,101,111,102]⟩,.string o,.string ⟨#[123]⟩] rfl 3 rfl)
       clear nD nC hsq Zj ho Zc hco lW q1 SY eO
       go_wp2_with fail
       refine (aa HP).mono ?_
       rintro e w4 ⟨rfl,ha⟩
       have iU:=aj ha
       clear HP ha y0 y1 y2 y3 y4 y5 x0 x1 x2 x3 x4 x5 x6 z1
       obtain ⟨y0,y1,y2,y3,y4,y5⟩:=aa mu w4 _ _ _ (aa iU)
       obtain ⟨c3,z3⟩:=(aa iU).cells
       have iW:=(aa iU).decl
       obtain ⟨Dj,wD⟩:∃Dj,((D+(1+c)+0:Nat):Int)=Dj:=⟨_,rfl⟩
       have d0:(0:Int)≤Dj:=by rw[←wD];exact zH _
       have dB:Dj≤1099511630000:=by have:=(aa Nj).2;omega
       rw[wD] at c3 iW
       have Ji:=aj iW
       clear wD iW
       go_wp2_with fail
       go_meet
       exact ⟨k+1,k+1,1,[(1,rN),(1,o),sg 123],rfl,by omega,(aa Ji).cast rfl (by omega),(aa Jg).1,(aa Jg).2.1,.inr rfl⟩
     case rest =>
      obtain ⟨Nx,k2,xu,v2,rfl,abz,iU,Va,za⟩:=hcut
      obtain ⟨W4,Zr⟩:∃x,x=wc:=⟨_,rfl⟩
      subst Zr
      clear y0 y1 y2 y3 y4 y5 x0 x1 x2 x3 x4 x5 x6 mB pW HZ E4
      obtain ⟨y0,y1,y2,y3,y4,y5⟩:=aa mu W4 _ _ _ (aa iU)
      obtain ⟨⟨pn,SM⟩,W8⟩:=aa Z0
      have Du:=aj SM
      obtain ⟨un,bW⟩:∃un:Nat,nu=(un:Int):=⟨nu.toNat,by have:=SM.num.1;simp only at this;omega⟩
      have hub:un≤2147483647:=by have:=SM.num.2;simp only at this;omega
      subst bW
      have hdn:dn.size≤30:=SM.nm.2.2
      have Dq:=aj W8
      clear SM W8
      have aaH:=aa Dq
      clear Dq Z0
      rcases aaH with ⟨h1,h2⟩|⟨h0,⟨h1,h2⟩|⟨h1,h2⟩|⟨h1,kn,h2,h3⟩⟩
      ·simp only at h1 h2
       subst h1
       have Dq:=aj h2
       clear h2
       have HP:=aj ((aa iU).names (by have:=aa y8;omega) (aa Du).tp true ty (aa Du).ty)
       go_wp2_with fail
       refine (aa HP).mono ?_
       rintro e w5 ⟨rfl,ha⟩
       have AX:=aj ha
       clear HP ha y0 y1 y2 y3 y4 y5
       obtain ⟨y0,y1,y2,y3,y4,y5⟩:=aa mu w5 _ _ _ (aa AX)
       go_upto_region 27 with fail
       refine wp_region_any (by kernel_rfl) (ck (z:=99) (T:=fun w'=>w'.cell? ⟨wr.heap.size,3,none⟩=some (.string dn)∧w'.cell? ⟨wr.heap.size,4,none⟩=some (.int .i64 (un:Int))) _ _ _ _ ?_)
       try (change cL _ _ _ _ _ _ _ _ _ (World.drew _))
       have wg:Below w5.heap.size w5 w5.drew:=below_drewN (zE _ _) 1
       have xo:=aj ((aa AX).up wg)
       obtain ⟨wd,jb⟩:∃x,w5.drew=x:=⟨_,rfl⟩
       rw[jb] at xo ⊢
       clear jb wg y0 y1 y2 y3 y4 y5
       obtain ⟨y0,y1,y2,y3,y4,y5⟩:=aa mu wd _ _ _ (aa xo)
       have hT:(fun w':World=>w'.cell? ⟨wr.heap.size,3,none⟩=some (.string dn)∧w'.cell? ⟨wr.heap.size,4,none⟩=some (.int .i64 (un:Int))) wd:=⟨y3,y4⟩
       clear y0 y1 y2 y3 y4 y5
       refine aq 0 (.pointer (some ⟨b,0,none⟩)) 101 rfl rfl (Or.inl ⟨by rfl,fun w' hw=>by obtain ⟨t0,t1⟩:=hw;go_simp⟩) hT ?_
       simp only[Act.put,zL,zM,zN]
       refine aq 1 (.pointer (some ⟨wr.heap.size,3,none⟩)) 102 rfl rfl (Or.inl ⟨by rfl,fun w' hw=>by obtain ⟨t0,t1⟩:=hw;go_simp⟩) hT ?_
       simp only[Act.put,zL,zM,zN]
       refine aq 2 (.string dn) 103 rfl rfl (Or.inl ⟨by rfl,fun w' hw=>by obtain ⟨t0,t1⟩:=hw;go_simp⟩) hT ?_
       simp only[Act.put,zL,zM,zN]
       refine aq 3 (.pointer (some ⟨wr.heap.size,4,none⟩)) 104 rfl rfl (Or.inl ⟨by rfl,fun w' hw=>by obtain ⟨t0,t1⟩:=hw;go_simp⟩) hT ?_
       simp only[Act.put,zL,zM,zN]
       refine aq 4 (.int .i64 (un:Int)) 105 rfl rfl (Or.inl ⟨by rfl,fun w' hw=>by obtain ⟨t0,t1⟩:=hw;go_simp⟩) hT ?_
       simp only[Act.put,zL,zM,zN]
       refine ay 5 (by kernel_rfl) rfl (fun K hK=>?_)
       refine aN 106 rfl rfl 41 (fun vs=>by kernel_rfl) #[.tmp 105] #[3] rfl #[.int .i64 (un:Int)] (by first|rfl|simp[Act.eval]) (lj (aa xo).we.hp un (by omega)) ?_
       rintro e' wi ⟨rfl,LK⟩
       have xl:=aj ((aa xo).up LK)
       obtain ⟨y0,y1,y2,y3,y4,y5⟩:=aa mu wi _ _ _ (aa xl)
       have jR:(fun w':World=>w'.cell? ⟨wr.heap.size,3,none⟩=some (.string dn)∧w'.cell? ⟨wr.heap.size,4,none⟩=some (.int .i64 (un:Int))) wi:=⟨y3,y4⟩
       refine ⟨_,rfl,hK _ _ ⟨fun _=>jR,?_⟩⟩
       clear hK K hT y0 y1 y2 y3 y4 y5 LK
       simp only[Act.put,zL,zM,zN]
       have LL:Below wi.heap.size wi (wi.alloc (.cells #[.string dn,.string ⟨#[61]⟩,.string (dec un)] 9)):=(zE _ _).alloc (zD _) _
       obtain ⟨y0,y1,y2,y3,y4,y5⟩:=aa mu _ _ _ _ ((aa xl).up LL)
       refine ay 6 (by kernel_rfl) rfl (fun K hK=>?_)
       go_simp
       refine hK _ _ ⟨fun _=>⟨y3,y4⟩,?_⟩
       clear hK K y0 y1 y2 y3 y4 y5 LL jR
       refine ay 7 (by kernel_rfl) rfl (fun K hK=>?_)
       refine aN 108 rfl rfl 18 (fun vs=>by kernel_rfl) #[.tmp 101,.tmp 107] #[53,22] rfl #[.pointer (some ⟨b,0,none⟩),.slice (some ⟨wi.heap.size,0,none⟩) 3 3] (by first|rfl|simp[Act.eval]) ((aa xl).put (by have:=aa y8;omega) [(1,dn),sg 61,(2,dec un)] (fun y hy=>by
        rcases List.mem_cons.1 hy with rfl|hy
        ·exact dU (aa Du).nm
        ·rcases List.mem_cons.1 hy with rfl|hy
         ·exact fD 61 (by decide)
         ·rw[List.mem_singleton.1 hy];exact qP (by omega)) (by simp) #[.string dn,.string ⟨#[61]⟩,.string (dec un)] rfl 3 rfl) ?_
       rintro e' wj ⟨rfl,ha⟩
       have Uf:=aj ha
       obtain ⟨y0,y1,y2,y3,y4,y5⟩:=aa mu wj _ _ _ ha
       refine ⟨_,rfl,hK _ _ ⟨fun _=>⟨y3,y4⟩,?_⟩⟩
       clear hK K y0 y1 y2 y3 y4 y5 ha
       simp only[Act.put,zL,zM,zN]
       refine bn (by kernel_rfl) ?_
       have HP:=aj ((aa Uf).xy (by have:=aa y8;omega))
       go_wp2_with fail
       refine (aa HP).mono ?_
       rintro e wk ⟨rfl,s,hs,ha⟩
       have Dv:=aj ha
       have oO:=aj hs
       clear HP ha hs
       obtain ⟨c3,z3⟩:=(aa Dv).cells
       have iW:=(aa Dv).decl
       obtain ⟨Dj,wD⟩:∃Dj,((D+(1+c)+xu:Nat):Int)=Dj:=⟨_,rfl⟩
       have d0:(0:Int)≤Dj:=by rw[←wD];exact zH _
       have dB:Dj≤1099511630000:=by have:=(aa Nj).2;omega
       rw[wD] at c3 iW
       have Ue:=aj (WA.comp (aa HQ).1 (aa HQ).2 (aa Yo) iW)
       have T2:Hid (js ⟨1,ky,ty,dn,(un:Int),z⟩ (bV pn)):=⟨pn,aa Du,.inl ⟨rfl,(aa Dq),rfl⟩⟩
       have ko:=aj (aa Va _ s (aa T2) (aa oO))
       have hiL:fs.length≤1099511620000:=by have:=aa Hn;omega
       clear wD iW
       go_wp2
       go_roundg (fs.length-(i+1))
       case measure=>have:=aa fQ;have:=aa dA;omega
       case rel =>
        refine ⟨i+1,k2,Nx,c+xu+1,u++((v1++v2)++(bV pn++((1,dn)::sg 61::(eD (un:Int)++s)))),rfl,by go_num,rfl,aa dA,by omega,?_,aa ko,(aa za).1,(aa za).2⟩
        have:=(aa Ue).cast (t':=[(1,⟨#[109,101,115,115,97,103,101]⟩),(1,nm),sg 123]++(u++((v1++v2)++(bV pn++((1,dn)::sg 61::(eD (un:Int)++s)))))) (n':=3+100*(i+1)) (by simp[Qs,po]) (by omega)
        rw[show 1+(c+xu+1)=1+c+(xu+1) by omega]
        exact this
      ·simp only at h1 h2 h0
       subst h1
       have Dq:=aj (And.intro h0 h2)
       clear h2 h0
       have HP:=aj ((aa iU).put (by have:=aa y8;omega) [(1,G')] (fun y hy=>by rw[List.mem_singleton.1 hy];exact dU RU) (by simp) #[.string ⟨#[111,112,116,105,111,110,97,108]⟩] rfl 1 rfl)
       go_wp2_with fail
       refine (aa HP).mono ?_
       rintro e Uk ⟨rfl,ha⟩
       have Jw:=aj ha
       clear HP ha y0 y1 y2 y3 y4 y5
       obtain ⟨y0,y1,y2,y3,y4,y5⟩:=aa mu Uk _ _ _ (aa Jw)
       have HP:=aj ((aa Jw).names (by have:=aa y8;omega) (aa Du).tp true ty (aa Du).ty)
       go_wp2_with fail
       refine (aa HP).mono ?_
       rintro e w5 ⟨rfl,ha⟩
       have AX:=aj ha
       clear HP ha y0 y1 y2 y3 y4 y5
       obtain ⟨y0,y1,y2,y3,y4,y5⟩:=aa mu w5 _ _ _ (aa AX)
       go_upto_region 27 with fail
       refine wp_region_any (by kernel_rfl) (ck (z:=99) (T:=fun w'=>w'.cell? ⟨wr.heap.size,3,none⟩=some (.string dn)∧w'.cell? ⟨wr.heap.size,4,none⟩=some (.int .i64 (un:Int))) _ _ _ _ ?_)
       try (change cL _ _ _ _ _ _ _ _ _ (World.drew _))
       have wg:Below w5.heap.size w5 w5.drew:=below_drewN (zE _ _) 1
       have xo:=aj ((aa AX).up wg)
       obtain ⟨wd,jb⟩:∃x,w5.drew=x:=⟨_,rfl⟩
       rw[jb] at xo ⊢
       clear jb wg y0 y1 y2 y3 y4 y5
       obtain ⟨y0,y1,y2,y3,y4,y5⟩:=aa mu wd _ _ _ (aa xo)
       have hT:(fun w':World=>w'.cell? ⟨wr.heap.size,3,none⟩=some (.string dn)∧w'.cell? ⟨wr.heap.size,4,none⟩=some (.int .i64 (un:Int))) wd:=⟨y3,y4⟩
       clear y0 y1 y2 y3 y4 y5
       refine aq 0 (.pointer (some ⟨b,0,none⟩)) 101 rfl rfl (Or.inl ⟨by rfl,fun w' hw=>by obtain ⟨t0,t1⟩:=hw;go_simp⟩) hT ?_
       simp only[Act.put,zL,zM,zN]
       refine aq 1 (.pointer (some ⟨wr.heap.size,3,none⟩)) 102 rfl rfl (Or.inl ⟨by rfl,fun w' hw=>by obtain ⟨t0,t1⟩:=hw;go_simp⟩) hT ?_
       simp only[Act.put,zL,zM,zN]
       refine aq 2 (.string dn) 103 rfl rfl (Or.inl ⟨by rfl,fun w' hw=>by obtain ⟨t0,t1⟩:=hw;go_simp⟩) hT ?_
       simp only[Act.put,zL,zM,zN]
       refine aq 3 (.pointer (some ⟨wr.heap.size,4,none⟩)) 104 rfl rfl (Or.inl ⟨by rfl,fun w' hw=>by obtain ⟨t0,t1⟩:=hw;go_simp⟩) hT ?_
       simp only[Act.put,zL,zM,zN]
       refine aq 4 (.int .i64 (un:Int)) 105 rfl rfl (Or.inl ⟨by rfl,fun w' hw=>by obtain ⟨t0,t1⟩:=hw;go_simp⟩) hT ?_
       simp only[Act.put,zL,zM,zN]
       refine ay 5 (by kernel_rfl) rfl (fun K hK=>?_)
       refine aN 106 rfl rfl 41 (fun vs=>by kernel_rfl) #[.tmp 105] #[3] rfl #[.int .i64 (un:Int)] (by first|rfl|simp[Act.eval]) (lj (aa xo).we.hp un (by omega)) ?_
       rintro e' wi ⟨rfl,LK⟩
       have xl:=aj ((aa xo).up LK)
       obtain ⟨y0,y1,y2,y3,y4,y5⟩:=aa mu wi _ _ _ (aa xl)
       have jR:(fun w':World=>w'.cell? ⟨wr.heap.size,3,none⟩=some (.string dn)∧w'.cell? ⟨wr.heap.size,4,none⟩=some (.int .i64 (un:Int))) wi:=⟨y3,y4⟩
       refine ⟨_,rfl,hK _ _ ⟨fun _=>jR,?_⟩⟩
       clear hK K hT y0 y1 y2 y3 y4 y5 LK
       simp only[Act.put,zL,zM,zN]
       have LL:Below wi.heap.size wi (wi.alloc (.cells #[.string dn,.string ⟨#[61]⟩,.string (dec un)] 9)):=(zE _ _).alloc (zD _) _
       obtain ⟨y0,y1,y2,y3,y4,y5⟩:=aa mu _ _ _ _ ((aa xl).up LL)
       refine ay 6 (by kernel_rfl) rfl (fun K hK=>?_)
       go_simp
       refine hK _ _ ⟨fun _=>⟨y3,y4⟩,?_⟩
       clear hK K y0 y1 y2 y3 y4 y5 LL jR
       refine ay 7 (by kernel_rfl) rfl (fun K hK=>?_)
       refine aN 108 rfl rfl 18 (fun vs=>by kernel_rfl) #[.tmp 101,.tmp 107] #[53,22] rfl #[.pointer (some ⟨b,0,none⟩),.slice (some ⟨wi.heap.size,0,none⟩) 3 3] (by first|rfl|simp[Act.eval]) ((aa xl).put (by have:=aa y8;omega) [(1,dn),sg 61,(2,dec un)] (fun y hy=>by
        rcases List.mem_cons.1 hy with rfl|hy
        ·exact dU (aa Du).nm
        ·rcases List.mem_cons.1 hy with rfl|hy
         ·exact fD 61 (by decide)
         ·rw[List.mem_singleton.1 hy];exact qP (by omega)) (by simp) #[.string dn,.string ⟨#[61]⟩,.string (dec un)] rfl 3 rfl) ?_
       rintro e' wj ⟨rfl,ha⟩
       have Uf:=aj ha
       obtain ⟨y0,y1,y2,y3,y4,y5⟩:=aa mu wj _ _ _ ha
       refine ⟨_,rfl,hK _ _ ⟨fun _=>⟨y3,y4⟩,?_⟩⟩
       clear hK K y0 y1 y2 y3 y4 y5 ha
       simp only[Act.put,zL,zM,zN]
       refine bn (by kernel_rfl) ?_
       have HP:=aj ((aa Uf).xy (by have:=aa y8;omega))
       go_wp2_with fail
       refine (aa HP).mono ?_
       rintro e wk ⟨rfl,s,hs,ha⟩
       have Dv:=aj ha
       have oO:=aj hs
       clear HP ha hs
       obtain ⟨c3,z3⟩:=(aa Dv).cells
       have iW:=(aa Dv).decl
       obtain ⟨Dj,wD⟩:∃Dj,((D+(1+c)+xu:Nat):Int)=Dj:=⟨_,rfl⟩
       have d0:(0:Int)≤Dj:=by rw[←wD];exact zH _
       have dB:Dj≤1099511630000:=by have:=(aa Nj).2;omega
       rw[wD] at c3 iW
       have Ue:=aj (WA.comp (aa HQ).1 (aa HQ).2 (aa Yo) iW)
       have T2:Hid (js ⟨2,ky,ty,dn,(un:Int),z⟩ (((1,G')::bV pn))):=⟨pn,aa Du,.inr ⟨(aa Dq).1,.inl ⟨rfl,(aa Dq).2,rfl⟩⟩⟩
       have ko:=aj (aa Va _ s (aa T2) (aa oO))
       have hiL:fs.length≤1099511620000:=by have:=aa Hn;omega
       clear wD iW
       go_wp2
       go_roundg (fs.length-(i+1))
       case measure=>have:=aa fQ;have:=aa dA;omega
       case rel =>
        refine ⟨i+1,k2,Nx,c+xu+1,u++((v1++v2)++(((1,G')::bV pn)++((1,dn)::sg 61::(eD (un:Int)++s)))),rfl,by go_num,rfl,aa dA,by omega,?_,aa ko,(aa za).1,(aa za).2⟩
        have:=(aa Ue).cast (t':=[(1,⟨#[109,101,115,115,97,103,101]⟩),(1,nm),sg 123]++(u++((v1++v2)++(((1,G')::bV pn)++((1,dn)::sg 61::(eD (un:Int)++s)))))) (n':=3+100*(i+1)) (by simp[Qs,po]) (by omega)
        rw[show 1+(c+xu+1)=1+c+(xu+1) by omega]
        exact this
      ·simp only at h1 h2 h0
       subst h1
       have Dq:=aj (And.intro h0 h2)
       clear h2 h0
       have HP:=aj ((aa iU).put (by have:=aa y8;omega) [(1,G3)] (fun y hy=>by rw[List.mem_singleton.1 hy];exact dU RO) (by simp) #[.string ⟨#[114,101,112,101,97,116,101,100]⟩] rfl 1 rfl)
       go_wp2_with fail
       refine (aa HP).mono ?_
       rintro e Uk ⟨rfl,ha⟩
       have Jw:=aj ha
       clear HP ha y0 y1 y2 y3 y4 y5
       obtain ⟨y0,y1,y2,y3,y4,y5⟩:=aa mu Uk _ _ _ (aa Jw)
       have HP:=aj ((aa Jw).names (by have:=aa y8;omega) (aa Du).tp true ty (aa Du).ty)
       go_wp2_with fail
       refine (aa HP).mono ?_
       rintro e w5 ⟨rfl,ha⟩
       have AX:=aj ha
       clear HP ha y0 y1 y2 y3 y4 y5
       obtain ⟨y0,y1,y2,y3,y4,y5⟩:=aa mu w5 _ _ _ (aa AX)
       go_upto_region 27 with fail
       refine wp_region_any (by kernel_rfl) (ck (z:=99) (T:=fun w'=>w'.cell? ⟨wr.heap.size,3,none⟩=some (.string dn)∧w'.cell? ⟨wr.heap.size,4,none⟩=some (.int .i64 (un:Int))) _ _ _ _ ?_)
       try (change cL _ _ _ _ _ _ _ _ _ (World.drew _))
       have wg:Below w5.heap.size w5 w5.drew:=below_drewN (zE _ _) 1
       have xo:=aj ((aa AX).up wg)
       obtain ⟨wd,jb⟩:∃x,w5.drew=x:=⟨_,rfl⟩
       rw[jb] at xo ⊢
       clear jb wg y0 y1 y2 y3 y4 y5
       obtain ⟨y0,y1,y2,y3,y4,y5⟩:=aa mu wd _ _ _ (aa xo)
       have hT:(fun w':World=>w'.cell? ⟨wr.heap.size,3,none⟩=some (.string dn)∧w'.cell? ⟨wr.heap.size,4,none⟩=some (.int .i64 (un:Int))) wd:=⟨y3,y4⟩
       clear y0 y1 y2 y3 y4 y5
       refine aq 0 (.pointer (some ⟨b,0,none⟩)) 101 rfl rfl (Or.inl ⟨by rfl,fun w' hw=>by obtain ⟨t0,t1⟩:=hw;go_simp⟩) hT ?_
       simp only[Act.put,zL,zM,zN]
       refine aq 1 (.pointer (some ⟨wr.heap.size,3,none⟩)) 102 rfl rfl (Or.inl ⟨by rfl,fun w' hw=>by obtain ⟨t0,t1⟩:=hw;go_simp⟩) hT ?_
       simp only[Act.put,zL,zM,zN]
       refine aq 2 (.string dn) 103 rfl rfl (Or.inl ⟨by rfl,fun w' hw=>by obtain ⟨t0,t1⟩:=hw;go_simp⟩) hT ?_
       simp only[Act.put,zL,zM,zN]
       refine aq 3 (.pointer (some ⟨wr.heap.size,4,none⟩)) 104 rfl rfl (Or.inl ⟨by rfl,fun w' hw=>by obtain ⟨t0,t1⟩:=hw;go_simp⟩) hT ?_
       simp only[Act.put,zL,zM,zN]
       refine aq 4 (.int .i64 (un:Int)) 105 rfl rfl (Or.inl ⟨by rfl,fun w' hw=>by obtain ⟨t0,t1⟩:=hw;go_simp⟩) hT ?_
       simp only[Act.put,zL,zM,zN]
       refine ay 5 (by kernel_rfl) rfl (fun K hK=>?_)
       refine aN 106 rfl rfl 41 (fun vs=>by kernel_rfl) #[.tmp 105] #[3] rfl #[.int .i64 (un:Int)] (by first|rfl|simp[Act.eval]) (lj (aa xo).we.hp un (by omega)) ?_
       rintro e' wi ⟨rfl,LK⟩
       have xl:=aj ((aa xo).up LK)
       obtain ⟨y0,y1,y2,y3,y4,y5⟩:=aa mu wi _ _ _ (aa xl)
       have jR:(fun w':World=>w'.cell? ⟨wr.heap.size,3,none⟩=some (.string dn)∧w'.cell? ⟨wr.heap.size,4,none⟩=some (.int .i64 (un:Int))) wi:=⟨y3,y4⟩
       refine ⟨_,rfl,hK _ _ ⟨fun _=>jR,?_⟩⟩
       clear hK K hT y0 y1 y2 y3 y4 y5 LK
       simp only[Act.put,zL,zM,zN]
       have LL:Below wi.heap.size wi (wi.alloc (.cells #[.string dn,.string ⟨#[61]⟩,.string (dec un)] 9)):=(zE _ _).alloc (zD _) _
       obtain ⟨y0,y1,y2,y3,y4,y5⟩:=aa mu _ _ _ _ ((aa xl).up LL)
       refine ay 6 (by kernel_rfl) rfl (fun K hK=>?_)
       go_simp
       refine hK _ _ ⟨fun _=>⟨y3,y4⟩,?_⟩
       clear hK K y0 y1 y2 y3 y4 y5 LL jR
       refine ay 7 (by kernel_rfl) rfl (fun K hK=>?_)
       refine aN 108 rfl rfl 18 (fun vs=>by kernel_rfl) #[.tmp 101,.tmp 107] #[53,22] rfl #[.pointer (some ⟨b,0,none⟩),.slice (some ⟨wi.heap.size,0,none⟩) 3 3] (by first|rfl|simp[Act.eval]) ((aa xl).put (by have:=aa y8;omega) [(1,dn),sg 61,(2,dec un)] (fun y hy=>by
        rcases List.mem_cons.1 hy with rfl|hy
        ·exact dU (aa Du).nm
        ·rcases List.mem_cons.1 hy with rfl|hy
         ·exact fD 61 (by decide)
         ·rw[List.mem_singleton.1 hy];exact qP (by omega)) (by simp) #[.string dn,.string ⟨#[61]⟩,.string (dec un)] rfl 3 rfl) ?_
       rintro e' wj ⟨rfl,ha⟩
       have Uf:=aj ha
       obtain ⟨y0,y1,y2,y3,y4,y5⟩:=aa mu wj _ _ _ ha
       refine ⟨_,rfl,hK _ _ ⟨fun _=>⟨y3,y4⟩,?_⟩⟩
       clear hK K y0 y1 y2 y3 y4 y5 ha
       simp only[Act.put,zL,zM,zN]
       refine bn (by kernel_rfl) ?_
       have HP:=aj ((aa Uf).xy (by have:=aa y8;omega))
       go_wp2_with fail
       refine (aa HP).mono ?_
       rintro e wk ⟨rfl,s,hs,ha⟩
       have Dv:=aj ha
       have oO:=aj hs
       clear HP ha hs
       obtain ⟨c3,z3⟩:=(aa Dv).cells
       have iW:=(aa Dv).decl
       obtain ⟨Dj,wD⟩:∃Dj,((D+(1+c)+xu:Nat):Int)=Dj:=⟨_,rfl⟩
       have d0:(0:Int)≤Dj:=by rw[←wD];exact zH _
       have dB:Dj≤1099511630000:=by have:=(aa Nj).2;omega
       rw[wD] at c3 iW
       have Ue:=aj (WA.comp (aa HQ).1 (aa HQ).2 (aa Yo) iW)
       have T2:Hid (js ⟨3,ky,ty,dn,(un:Int),z⟩ (((1,G3)::bV pn))):=⟨pn,aa Du,.inr ⟨(aa Dq).1,.inr (.inl ⟨rfl,(aa Dq).2,rfl⟩)⟩⟩
       have ko:=aj (aa Va _ s (aa T2) (aa oO))
       have hiL:fs.length≤1099511620000:=by have:=aa Hn;omega
       clear wD iW
       go_wp2
       go_roundg (fs.length-(i+1))
       case measure=>have:=aa fQ;have:=aa dA;omega
       case rel =>
        refine ⟨i+1,k2,Nx,c+xu+1,u++((v1++v2)++(((1,G3)::bV pn)++((1,dn)::sg 61::(eD (un:Int)++s)))),rfl,by go_num,rfl,aa dA,by omega,?_,aa ko,(aa za).1,(aa za).2⟩
        have:=(aa Ue).cast (t':=[(1,⟨#[109,101,115,115,97,103,101]⟩),(1,nm),sg 123]++(u++((v1++v2)++(((1,G3)::bV pn)++((1,dn)::sg 61::(eD (un:Int)++s)))))) (n':=3+100*(i+1)) (by simp[Qs,po]) (by omega)
        rw[show 1+(c+xu+1)=1+c+(xu+1) by omega]
        exact this
      ·simp only at h1 h3 h0
       subst h1
       have Dq:=aj (And.intro h0 (And.intro h2 h3))
       clear h2 h0 h3
       have HP:=aj ((aa iU).put (by have:=aa y8;omega) [(1,⟨#[109,97,112]⟩),sg 60] (fun y hy=>by
        rcases List.mem_cons.1 hy with rfl|hy
        ·exact dU R9
        ·rw[List.mem_singleton.1 hy];exact fD 60 (by decide)) (by simp) #[.string ⟨#[109,97,112]⟩,.string ⟨#[60]⟩] rfl 2 rfl)
       go_wp2_with fail
       refine (aa HP).mono ?_
       rintro e Uk ⟨rfl,ha⟩
       have Jw:=aj ha
       clear HP ha y0 y1 y2 y3 y4 y5
       obtain ⟨y0,y1,y2,y3,y4,y5⟩:=aa mu Uk _ _ _ (aa Jw)
       have HP:=aj ((aa Jw).names (by have:=aa y8;omega) (aa Dq).2.1 true ky (aa Dq).2.2)
       go_wp2_with fail
       refine (aa HP).mono ?_
       rintro e w4c ⟨rfl,ha⟩
       have YH:=aj ha
       clear HP ha y0 y1 y2 y3 y4 y5
       obtain ⟨y0,y1,y2,y3,y4,y5⟩:=aa mu w4c _ _ _ (aa YH)
       have HP:=aj ((aa YH).put (by have:=aa y8;omega) [sg 44] (fun y hy=>by rw[List.mem_singleton.1 hy];exact fD 44 (by decide)) (by simp) #[.string ⟨#[44]⟩] rfl 1 rfl)
       go_wp2_with fail
       refine (aa HP).mono ?_
       rintro e w4d ⟨rfl,ha⟩
       have YG:=aj ha
       clear HP ha y0 y1 y2 y3 y4 y5
       obtain ⟨y0,y1,y2,y3,y4,y5⟩:=aa mu w4d _ _ _ (aa YG)
       have HP:=aj ((aa YG).names (by have:=aa y8;omega) (aa Du).tp true ty (aa Du).ty)
       go_wp2_with fail
       refine (aa HP).mono ?_
       rintro e w4e ⟨rfl,ha⟩
       have YF:=aj ha
       clear HP ha y0 y1 y2 y3 y4 y5
       obtain ⟨y0,y1,y2,y3,y4,y5⟩:=aa mu w4e _ _ _ (aa YF)
       have HP:=aj ((aa YF).put (by have:=aa y8;omega) [sg 62] (fun y hy=>by rw[List.mem_singleton.1 hy];exact fD 62 (by decide)) (by simp) #[.string ⟨#[62]⟩] rfl 1 rfl)
       go_wp2_with fail
       refine (aa HP).mono ?_
       rintro e w5 ⟨rfl,ha⟩
       have AX:=aj ha
       clear HP ha y0 y1 y2 y3 y4 y5
       obtain ⟨y0,y1,y2,y3,y4,y5⟩:=aa mu w5 _ _ _ (aa AX)
       go_upto_region 27 with fail
       refine wp_region_any (by kernel_rfl) (ck (z:=99) (T:=fun w'=>w'.cell? ⟨wr.heap.size,3,none⟩=some (.string dn)∧w'.cell? ⟨wr.heap.size,4,none⟩=some (.int .i64 (un:Int))) _ _ _ _ ?_)
       try (change cL _ _ _ _ _ _ _ _ _ (World.drew _))
       have wg:Below w5.heap.size w5 w5.drew:=below_drewN (zE _ _) 1
       have xo:=aj ((aa AX).up wg)
       obtain ⟨wd,jb⟩:∃x,w5.drew=x:=⟨_,rfl⟩
       rw[jb] at xo ⊢
       clear jb wg y0 y1 y2 y3 y4 y5
       obtain ⟨y0,y1,y2,y3,y4,y5⟩:=aa mu wd _ _ _ (aa xo)
       have hT:(fun w':World=>w'.cell? ⟨wr.heap.size,3,none⟩=some (.string dn)∧w'.cell? ⟨wr.heap.size,4,none⟩=some (.int .i64 (un:Int))) wd:=⟨y3,y4⟩
       clear y0 y1 y2 y3 y4 y5
       refine aq 0 (.pointer (some ⟨b,0,none⟩)) 101 rfl rfl (Or.inl ⟨by rfl,fun w' hw=>by obtain ⟨t0,t1⟩:=hw;go_simp⟩) hT ?_
       simp only[Act.put,zL,zM,zN]
       refine aq 1 (.pointer (some ⟨wr.heap.size,3,none⟩)) 102 rfl rfl (Or.inl ⟨by rfl,fun w' hw=>by obtain ⟨t0,t1⟩:=hw;go_simp⟩) hT ?_
       simp only[Act.put,zL,zM,zN]
       refine aq 2 (.string dn) 103 rfl rfl (Or.inl ⟨by rfl,fun w' hw=>by obtain ⟨t0,t1⟩:=hw;go_simp⟩) hT ?_
       simp only[Act.put,zL,zM,zN]
       refine aq 3 (.pointer (some ⟨wr.heap.size,4,none⟩)) 104 rfl rfl (Or.inl ⟨by rfl,fun w' hw=>by obtain ⟨t0,t1⟩:=hw;go_simp⟩) hT ?_
       simp only[Act.put,zL,zM,zN]
       refine aq 4 (.int .i64 (un:Int)) 105 rfl rfl (Or.inl ⟨by rfl,fun w' hw=>by obtain ⟨t0,t1⟩:=hw;go_simp⟩) hT ?_
       simp only[Act.put,zL,zM,zN]
       refine ay 5 (by kernel_rfl) rfl (fun K hK=>?_)
       refine aN 106 rfl rfl 41 (fun vs=>by kernel_rfl) #[.tmp 105] #[3] rfl #[.int .i64 (un:Int)] (by first|rfl|simp[Act.eval]) (lj (aa xo).we.hp un (by omega)) ?_
       rintro e' wi ⟨rfl,LK⟩
       have xl:=aj ((aa xo).up LK)
       obtain ⟨y0,y1,y2,y3,y4,y5⟩:=aa mu wi _ _ _ (aa xl)
       have jR:(fun w':World=>w'.cell? ⟨wr.heap.size,3,none⟩=some (.string dn)∧w'.cell? ⟨wr.heap.size,4,none⟩=some (.int .i64 (un:Int))) wi:=⟨y3,y4⟩
       refine ⟨_,rfl,hK _ _ ⟨fun _=>jR,?_⟩⟩
       clear hK K hT y0 y1 y2 y3 y4 y5 LK
       simp only[Act.put,zL,zM,zN]
       have LL:Below wi.heap.size wi (wi.alloc (.cells #[.string dn,.string ⟨#[61]⟩,.string (dec un)] 9)):=(zE _ _).alloc (zD _) _
       obtain ⟨y0,y1,y2,y3,y4,y5⟩:=aa mu _ _ _ _ ((aa xl).up LL)
       refine ay 6 (by kernel_rfl) rfl (fun K hK=>?_)
       go_simp
       refine hK _ _ ⟨fun _=>⟨y3,y4⟩,?_⟩
       clear hK K y0 y1 y2 y3 y4 y5 LL jR
       refine ay 7 (by kernel_rfl) rfl (fun K hK=>?_)
       refine aN 108 rfl rfl 18 (fun vs=>by kernel_rfl) #[.tmp 101,.tmp 107] #[53,22] rfl #[.pointer (some ⟨b,0,none⟩),.slice (some ⟨wi.heap.size,0,none⟩) 3 3] (by first|rfl|simp[Act.eval]) ((aa xl).put (by have:=aa y8;omega) [(1,dn),sg 61,(2,dec un)] (fun y hy=>by
        rcases List.mem_cons.1 hy with rfl|hy
        ·exact dU (aa Du).nm
        ·rcases List.mem_cons.1 hy with rfl|hy
         ·exact fD 61 (by decide)
         ·rw[List.mem_singleton.1 hy];exact qP (by omega)) (by simp) #[.string dn,.string ⟨#[61]⟩,.string (dec un)] rfl 3 rfl) ?_
       rintro e' wj ⟨rfl,ha⟩
       have Uf:=aj ha
       obtain ⟨y0,y1,y2,y3,y4,y5⟩:=aa mu wj _ _ _ ha
       refine ⟨_,rfl,hK _ _ ⟨fun _=>⟨y3,y4⟩,?_⟩⟩
       clear hK K y0 y1 y2 y3 y4 y5 ha
       simp only[Act.put,zL,zM,zN]
       refine bn (by kernel_rfl) ?_
       have HP:=aj ((aa Uf).xy (by have:=aa y8;omega))
       go_wp2_with fail
       refine (aa HP).mono ?_
       rintro e wk ⟨rfl,s,hs,ha⟩
       have Dv:=aj ha
       have oO:=aj hs
       clear HP ha hs
       obtain ⟨c3,z3⟩:=(aa Dv).cells
       have iW:=(aa Dv).decl
       obtain ⟨Dj,wD⟩:∃Dj,((D+(1+c)+xu:Nat):Int)=Dj:=⟨_,rfl⟩
       have d0:(0:Int)≤Dj:=by rw[←wD];exact zH _
       have dB:Dj≤1099511630000:=by have:=(aa Nj).2;omega
       rw[wD] at c3 iW
       have Ue:=aj (WA.comp (aa HQ).1 (aa HQ).2 (aa Yo) iW)
       have T2:Hid (js ⟨4,ky,ty,dn,(un:Int),z⟩ (((1,⟨#[109,97,112]⟩)::sg 60::(bV kn++sg 44::(bV pn++[sg 62]))))):=⟨pn,aa Du,.inr ⟨(aa Dq).1,.inr (.inr ⟨rfl,kn,(aa Dq).2.1,(aa Dq).2.2,rfl⟩)⟩⟩
       have ko:=aj (aa Va _ s (aa T2) (aa oO))
       have hiL:fs.length≤1099511620000:=by have:=aa Hn;omega
       clear wD iW
       go_wp2
       go_roundg (fs.length-(i+1))
       case measure=>have:=aa fQ;have:=aa dA;omega
       case rel =>
        refine ⟨i+1,k2,Nx,c+xu+1,u++((v1++v2)++(((1,⟨#[109,97,112]⟩)::sg 60::(bV kn++sg 44::(bV pn++[sg 62])))++((1,dn)::sg 61::(eD (un:Int)++s)))),rfl,by go_num,rfl,aa dA,by omega,?_,aa ko,(aa za).1,(aa za).2⟩
        have:=(aa Ue).cast (t':=[(1,⟨#[109,101,115,115,97,103,101]⟩),(1,nm),sg 123]++(u++((v1++v2)++(((1,⟨#[109,97,112]⟩)::sg 60::(bV kn++sg 44::(bV pn++[sg 62])))++((1,dn)::sg 61::(eD (un:Int)++s)))))) (n':=3+100*(i+1)) (by simp[Qs,po]) (by omega)
        rw[show 1+(c+xu+1)=1+c+(xu+1) by omega]
        exact this
  ·obtain rfl:i=fs.length:=by omega
   have hk:k=os.length:=by
    have:=aa ZT
    rw[List.drop_length] at this
    exact this
   subst hk
   clear pC x0 x1 x2 x3 x4 x5 x6
   obtain ⟨x0,x1,x2,x3,x4,x5,x6⟩:=aa Gs wr _ _ _ (aa HA)
   go_upto_if 119 with fail
   go_cut [] (fun wx=>∃u',Hid (WA V b r vs ps D W1 ([(1,⟨#[109,101,115,115,97,103,101]⟩),(1,nm),sg 123]++u') (6+100*fs.length) (1+c) wx)∧Hid (FS nm fs os fs.length os.length 0 u' c))
   case first =>
    by_cases h0:op=0
    ·subst h0
     go_wp2_with fail
     go_meet
     exact ⟨u,(aa HA).cast rfl (by omega),HF⟩
    ·have e1:((op:Int) != 0)=true:=by simp;omega
     have HFc:=aj ((aa HF).close h0)
     have HP:=aj ((aa HA).put (by have:=aa Hn;omega) [sg 125] (fun y hy=>by rw[List.mem_singleton.1 hy];exact fD 125 (by decide)) (by decide) #[.string ⟨#[125]⟩] rfl 1 rfl)
     clear h0
     go_wp2_with fail
     refine (aa HP).mono ?_
     rintro e w3 ⟨rfl,ha⟩
     have mB:=aj ha
     clear HP ha
     go_wp2_with fail
     go_meet
     exact ⟨u++[sg 125],(aa mB).cast (by simp) (by omega),HFc⟩
   case rest =>
    obtain ⟨u1,xp,pW⟩:=hcut
    obtain ⟨W3,Pc⟩:∃x,x=wc:=⟨_,rfl⟩
    subst Pc
    have xW:Hid (∀(mf:aI→Except (Int×Int) (Ms×aI)) (K:Nat),eH (j6 mf) K u1 c (FH nm [] []) (FH nm fs os)):=fun mf K=>by
     rcases aa pW with ⟨_,h⟩|⟨h1,h2,_⟩
     ·have:=h mf K
      rw[List.take_length,List.take_length] at this
      exact this
     ·omega
    clear pW HF ZT P3 HA x0 x1 x2 x3 x4 x5 x6
    obtain ⟨x0,x1,x2,x3,x4,x5,x6⟩:=aa Gs W3 _ _ _ (aa xp)
    have HP:=aj ((aa xp).pg (aa HR) (aa HG) (fun p hp=>by have:=(aa HX).2.2.2.2.2.2.1 p hp;exact ⟨⟨by omega,by omega⟩,by omega,by omega⟩) (aa HX).2.2.2.2.2.2.2 (by have:=aa Hn;omega) (by have:=aa HD;omega))
    go_wp2_with fail
    refine (aa HP).mono ?_
    rintro e w4 ⟨rfl,t2,vX,ha⟩
    have lE:=aj ha
    have NX:Hid (∀(mf:aI→Except (Int×Int) (Ms×aI)) (K:Nat),eH (j6 mf) K (u1++t2) (c+(rs.length+gs.length)) (FH nm [] []) ⟨nm,fs,os,[],[],rs,gs⟩):=fun mf K=>(aa xW mf K).trans (OF (aa HX).2.2.2.2.2.2.1 (aa HX).2.2.2.2.2.2.2 vX (FH nm fs os))
    clear HP ha vX xW xp x0 x1 x2 x3 x4 x5 x6
    go_upto_region 34 with fail
    go_loopg [7] ms.length (fun gk v7 wr=>∃(j:Nat) (t3:List Wd) (c3:Nat),v7=.int .i64 (j:Int)∧gk=ms.length-j∧j≤ms.length∧c3≤bG (zZ f) (ms.take j)∧Hid (WA V b r vs ps D W1 ([(1,⟨#[109,101,115,115,97,103,101]⟩),(1,nm),sg 123]++(u1++t2++t3)) (26+100*fs.length+(20*rs.length+10*gs.length)+bG (mw f) (ms.take j)) (1+(c+(rs.length+gs.length)+c3)) wr)∧Hid (∀n,f≤n→eH (j6 (bB n)) f t3 c3 ⟨nm,fs,os,[],[],rs,gs⟩ ⟨nm,fs,os,ms.take j,[],rs,gs⟩))
    case atStart=>exact ⟨0,[],0,rfl,rfl,by omega,Nat.zero_le _,(aa lE).cast (by simp) (by show _≤_+0;omega) |>.decl_eq (by omega),fun n _=>eH.nil _⟩
    case round =>
     obtain ⟨j,t3,c3,rfl,eN,WL,kC,nz,Ni⟩:=hrel
     have fQ:=aj eN
     clear eN lE
     obtain ⟨x0,x1,x2,x3,x4,x5,x6⟩:=aa Gs wr _ _ _ (aa nz)
     by_cases cc:j<ms.length
     ·obtain ⟨m,hm⟩:∃m,ms[j]?=some m:=⟨_,List.getElem?_eq_getElem cc⟩
      obtain ⟨nm',ZC,os',R7,Tq,rs',gs'⟩:=m
      obtain ⟨vf',vo',YT,ve',Vj,Vk,PJ,QR,⟨⟨y0,y1,y2,y3,y4,y5,y6⟩,g1,g2,g3,g4,g5,g6⟩,g7,g8⟩:=(aa HMs).rd j nm' ZC os' R7 Tq rs' gs' hm
      obtain ⟨aM,cM,eM,_,Xi⟩:=aa HM
      obtain ⟨rfl,rfl⟩:ma=aM∧mc=cM:=by simpa using eM
      obtain ⟨g,rfl,lp,hc⟩:=Xi (by omega)
      have hb:=(aa nz).we.below
      have z0:=(hb.cell (p:=⟨g,j*7,none⟩) lp).trans (hc _ _ y0)
      have z1:=(hb.cell (p:=⟨g,j*7+1,none⟩) lp).trans (hc _ _ y1)
      have z2:=(hb.cell (p:=⟨g,j*7+2,none⟩) lp).trans (hc _ _ y2)
      have z3:=(hb.cell (p:=⟨g,j*7+3,none⟩) lp).trans (hc _ _ y3)
      have z4:=(hb.cell (p:=⟨g,j*7+4,none⟩) lp).trans (hc _ _ y4)
      have z5:=(hb.cell (p:=⟨g,j*7+5,none⟩) lp).trans (hc _ _ y5)
      have z6:=(hb.cell (p:=⟨g,j*7+6,none⟩) lp).trans (hc _ _ y6)
      have yB:=(aa HX).2.2.2.2.1 _ (List.mem_of_getElem? hm)
      have cn:=eX (mw f) hm
      have LD:=eX (zZ f) hm
      have gj:=ik (mw f) ms (j+1)
      have SN:=ik (zZ f) ms (j+1)
      have HP:=aj ((aa nz).message (aa HIH) yB g1 g2 g7 g8 g3 g4 g5 g6 (by have:=aa Hn;omega) (by have:=aa HD;omega))
      have A5:=aj (dW hm)
      have oO:=aj (And.intro cn (And.intro LD kC))
      have dA:=aj cc
      have j0:(0:Int)≤(j:Int):=zH _
      have j1:(j:Int)<(ms.length:Int):=by omega
      have hmL:ms.length≤1099511620000:=by
       have:=mH (mw f) ms (fun x hx=>FG ((aa HX).2.2.2.2.1 x hx))
       have:=aa Hn
       omega
      clear hm y0 y1 y2 y3 y4 y5 y6 g1 g2 g3 g4 g5 g6 g7 g8 eM hc hb yB cn LD gj SN cc kC Xi
      go_wp2_with fail
      refine (aa HP).mono ?_
      rintro e w5 ⟨rfl,t4,c4,Qw,QJ,ha⟩
      have C9:=aj ha
      have Jf:=aj Qw
      have YC:=aj QJ
      clear HP ha Qw QJ x0 x1 x2 x3 x4 x5 x6 z0 z1 z2 z3 z4 z5 z6
      go_wp2
      go_roundg (ms.length-(j+1))
      case measure=>have:=aa fQ;have:=aa dA;omega
      case rel =>
       refine ⟨j+1,t3++t4,c3+c4,by go_num,rfl,aa dA,by have:=aa oO;have:=aa YC;omega,?_,fun n hn=>?_⟩
       ·have:=(aa C9).cast (t':=[(1,⟨#[109,101,115,115,97,103,101]⟩),(1,nm),sg 123]++(u1++t2++(t3++t4))) (n':=26+100*fs.length+(20*rs.length+10*gs.length)+bG (mw f) (ms.take (j+1))) (by simp) (by have:=aa oO;omega)
        exact this.decl_eq (by omega)
       ·rw[aa A5]
        exact (aa Ni n hn).trans (S9 (x:=⟨nm,fs,os,ms.take j,[],rs,gs⟩) (aa Jf) hn (zD _))
     ·obtain rfl:j=ms.length:=by omega
      have Q':Hid (∀n,f≤n→eH (j6 (bB n)) f t3 c3 ⟨nm,fs,os,[],[],rs,gs⟩ ⟨nm,fs,os,ms,[],rs,gs⟩):=fun n hn=>by
       have:=aa Ni n hn
       rw[List.take_length] at this
       exact this
      have C9:=aj ((aa nz).cast (t':=[(1,⟨#[109,101,115,115,97,103,101]⟩),(1,nm),sg 123]++(u1++t2++t3)) (n':=26+100*fs.length+(20*rs.length+10*gs.length)+bG (mw f) ms) rfl (by rw[List.take_length];omega))
      have QJ:c3≤bG (zZ f) ms:=by rw[List.take_length] at kC;exact kC
      clear Ni nz kC
      go_upto_region 38 with fail
      clear x0 x1 x2 x3 x4 x5 x6
      go_loopg [8] es.length (fun gk v8 wr=>∃(j:Nat) (t5:List Wd),v8=.int .i64 (j:Int)∧gk=es.length-j∧j≤es.length∧Hid (WA V b r vs ps D W1 ([(1,⟨#[109,101,115,115,97,103,101]⟩),(1,nm),sg 123]++(u1++t2++t3++t5)) (26+100*fs.length+(20*rs.length+10*gs.length)+bG (mw f) ms+bG mY (es.take j)) (1+(c+(rs.length+gs.length)+c3+bG oM (es.take j))) wr)∧Hid (∀n,f≤n→eH (j6 (bB n)) f t5 (bG oM (es.take j)) ⟨nm,fs,os,ms,[],rs,gs⟩ ⟨nm,fs,os,ms,es.take j,rs,gs⟩))
      case atStart=>exact ⟨0,[],rfl,rfl,by omega,(aa C9).cast (by simp) (by omega),fun n _=>eH.nil _⟩
      case round =>
       obtain ⟨j,t5,rfl,j9,WL,rK,Yx⟩:=hrel
       have nH:=aj j9
       clear j9 C9
       obtain ⟨x0,x1,x2,x3,x4,x5,x6⟩:=aa Gs wr _ _ _ (aa rK)
       by_cases eU:j<es.length
       ·obtain ⟨e9,he⟩:∃m,es[j]?=some m:=⟨_,List.getElem?_eq_getElem eU⟩
        obtain ⟨vv',Vj,Vk,⟨y0,y1,y2,y3⟩,g1,g2,g3⟩:=(aa HEs) j e9 he
        obtain ⟨aE,cE,eE,_,Xl⟩:=aa Yv
        obtain ⟨rfl,rfl⟩:ea=aE∧ec=cE:=by simpa using eE
        obtain ⟨g,rfl,lp,hc⟩:=Xl (by omega)
        have hb:=(aa rK).we.below
        have z0:=(hb.cell (p:=⟨g,j*4,none⟩) lp).trans (hc _ _ y0)
        have z1:=(hb.cell (p:=⟨g,j*4+1,none⟩) lp).trans (hc _ _ y1)
        have z2:=(hb.cell (p:=⟨g,j*4+2,none⟩) lp).trans (hc _ _ y2)
        have z3:=(hb.cell (p:=⟨g,j*4+3,none⟩) lp).trans (hc _ _ y3)
        have yB:=(aa HX).2.2.2.2.2.1 _ (List.mem_of_getElem? he)
        have cn:=eX mY he
        have LD:=eX oM he
        have gj:=ik mY es (j+1)
        have SN:=ik oM es (j+1)
        have HP:=aj ((aa rK).enum yB g1 g2 g3 (by have:=aa Hn;omega) (by have:=aa HD;omega))
        have A5:=aj (dW he)
        have oO:=aj (And.intro cn LD)
        have gN:=aj eU
        have j0:(0:Int)≤(j:Int):=zH _
        have j1:(j:Int)<(es.length:Int):=by omega
        have heL:es.length≤1099511620000:=by
         have:=mH mY es (fun x _=>Gc x)
         have:=aa Hn
         omega
        clear he y0 y1 y2 y3 g1 g2 g3 eE hc hb yB cn LD gj SN eU Xl
        go_wp2_with fail
        refine (aa HP).mono ?_
        rintro e w5 ⟨rfl,t6,Wb,ha⟩
        have Jj:=aj ha
        have HT6:=aj Wb
        clear HP ha Wb x0 x1 x2 x3 x4 x5 x6 z0 z1 z2 z3
        go_wp2
        go_roundg (es.length-(j+1))
        case measure=>have:=aa nH;have:=aa gN;omega
        case rel =>
         refine ⟨j+1,t5++t6,by go_num,rfl,aa gN,?_,fun n hn=>?_⟩
         ·have:=(aa Jj).cast (t':=[(1,⟨#[109,101,115,115,97,103,101]⟩),(1,nm),sg 123]++(u1++t2++t3++(t5++t6))) (n':=26+100*fs.length+(20*rs.length+10*gs.length)+bG (mw f) ms+bG mY (es.take (j+1))) (by simp) (by have:=aa oO;omega)
          exact this.decl_eq (by have:=aa oO;omega)
         ·rw[aa A5,jX]
          exact (aa Yx n hn).trans ((Pf (mf:=bB n) (K:=f) (x:=⟨nm,fs,os,ms,es.take j,rs,gs⟩) (aa HT6)).cast rfl rfl)
       ·obtain rfl:j=es.length:=by omega
        have HP:=aj ((aa rK).put (by have:=aa Hn;have:=ik mY es es.length;omega) [sg 125] (fun y hy=>by rw[List.mem_singleton.1 hy];exact fD 125 (by decide)) (by decide) #[.string ⟨#[125]⟩] rfl 1 rfl)
        go_wp2_with fail
        refine (aa HP).mono ?_
        rintro e w5 ⟨rfl,ha⟩
        have gK:Hid (Wr b r vs ps D W (100+100*fs.length+(20*rs.length+10*gs.length)+bG (mw f) ms+bG mY es) (fun t c=>TQ (f+1) (.mk nm fs os ms es rs gs) t c∧c≤1+2*fs.length+(rs.length+gs.length)+bG (zZ f) ms+bG oM es) (.returned (.tuple #[])) w5):=by
         obtain ⟨r9,q9,k1,k2,k3,k4⟩:=ha.ex
         have hE:∀n,f≤n→eH (j6 (bB n)) f (u1++t2++t3++t5) (c+(rs.length+gs.length)+c3+bG oM es) ⟨nm,[],[],[],[],[],[]⟩ ⟨nm,fs,os,ms,es,rs,gs⟩:=fun n hn=>by
          have h5:=aa Yx n hn
          rw[List.take_length] at h5
          exact ((aa NX (bB n) f).trans (aa Q' n hn)).trans h5
         have hT:=R5 hE (aa HX).1
         rw[List.take_length] at k3
         refine ⟨rfl,r9,q9,1+(c+(rs.length+gs.length)+c3+bG oM es),⟨?_,by omega⟩,by rw[List.take_length] at k2;omega,k3,(aa HKw).trans k4⟩
         rw[k1]
         have e3:[(1,⟨#[109,101,115,115,97,103,101]⟩),(1,nm),sg 123]++(u1++t2++t3++t5)++[sg 125]=(1,xC)::(1,nm)::sg 123::((u1++t2++t3++t5)++[sg 125]):=by simp[xC]
         rw[e3]
         exact hT
        clear HP ha x0 x1 x2 x3 x4 x5 x6
        go_wp2
        go_end0
        exact aa gK
theorem ri:∀f,PY f
 |0=>fun _ _ _ _ _ _ _ _ _ _ _ _ _ _ _ _ _ _ _ _ _ _ _ _ _ h=>h.elim
 |f+1=>DZ (ri f)
end Go.Proofs.YtmlphohdcejniaaGreatDoor

import Derived.Test.YtjophoclfccmcaaGreatDoorM31
import Derived.ChangeAlike
import Derived.BigRegion
set_option maxHeartbeats 8000000
set_option maxRecDepth 100000
namespace Go.Proofs.YtjophoclfccmcaaGreatDoor
open Go.RowKit
attribute [local go_sem ↓] Go.wp_at_zero Go.wp_at_succ
def Xg (w:World) (cs:List Value) (l:List En):Prop:=∀(i:Nat) (e:En),l[i]?=some e→∃vv vr vg,(cs[i*4]?=some (.string e.name)∧cs[i*4+1]?=some vv∧cs[i*4+2]?=some vr∧cs[i*4+3]?=some vg)∧tc w vv e.bS.length (KX e.bS)∧tc w vr e.res.length (qG e.res)∧tc w vg e.gone.length (dR e.gone)
theorem fE.rd {P:Nat→Prop}{w:World}{cs:List Value}{l:List En} (h:fE P w cs l):Xg w cs l:=by
 induction h with
 |nil=>intro i e h;simp at h
 |cons hv hr hg _ ih =>
  intro i e h
  cases i with
  |zero =>
   obtain rfl:=zC h
   exact ⟨_,_,_,⟨rfl,rfl,rfl,rfl⟩,hv.rd,hr.rd,hg.rd⟩
  |succ i =>
   obtain ⟨vv,vr,vg,h1,h2⟩:=ih i e (by simpa using h)
   refine ⟨vv,vr,vg,?_,h2⟩
   rw[show (i+1)*4=i*4+4 by omega]
   exact h1
theorem Xg.up {w w':World}{cs:List Value}{l:List En} (h:Xg w cs l) (hb:Below w.heap.size w w'):Xg w' cs l:=fun i e hi=>by
 obtain ⟨vv,vr,vg,h1,h2,h3,h4⟩:=h i e hi
 exact ⟨vv,vr,vg,h1,h2.up hb,h3.up hb,h4.up hb⟩
structure Lm (W:World) (p q:Nat) (xs ys:Array Value) (t:TypeId) (w:World):Prop where
 bl:Below W.heap.size W w
 x:∀j,w.cell? ⟨p,j,none⟩=xs[j]?
 y:∀j,w.cell? ⟨q,j,none⟩=ys[j]?
 lx:p<w.heap.size
 ly:q<w.heap.size
theorem xR {W wr:World} (hb:Below W.heap.size W wr) (xs ys:Array Value) (t:TypeId):Lm W wr.heap.size (wr.heap.size+1) xs ys t ((wr.alloc (.cells xs t)).alloc (.cells ys t)):=by
 have h1:=hb.size
 refine ⟨(hb.alloc h1 _).alloc (by rw[zJ];omega) _,fun j=>?_,fun j=>?_,by rw[zJ,zJ];omega,by rw[zJ,zJ];omega⟩
 ·rw[World.cell?_alloc_past _ _ _ (by rw[zJ];omega),World.cell?_alloc_at _ _ _ _ rfl]
 ·rw[World.cell?_alloc_at _ _ _ _ (by rw[zJ])]
theorem Lm.up {W w w':World}{p q:Nat}{xs ys:Array Value}{t:TypeId} (h:Lm W p q xs ys t w) (hb:Below w.heap.size w w'):Lm W p q xs ys t w' :=
 ⟨h.bl.trans (hb.mono h.bl.size),fun j=>(hb.cell (p:=⟨p,j,none⟩) h.lx).trans (h.x j),fun j=>(hb.cell (p:=⟨q,j,none⟩) h.ly).trans (h.y j),Nat.lt_of_lt_of_le h.lx hb.size,Nat.lt_of_lt_of_le h.ly hb.size⟩
theorem zY (W:World) (a a':Option Addr) (c c':Nat):Calls Tryz.prog 19 #[.slice a 0 c,.slice a' 0 c'] W (pT W):=by
 go_enter Tryz.func19,Tryz.ntmps19
 go_wp2
 go_loopg [5] 1 (fun gk v5 wr=>v5=.int .i64 0∧wr=W)
 case atStart=>exact ⟨rfl,rfl⟩
 case round =>
  obtain ⟨rfl,rfl⟩:=hrel
  go_wp2
  go_ret
  exact ⟨rfl,zE _ _⟩
theorem pG {W:World}{v u:Value}{l:List En}{cs Wn:List Value} (h:tc W v l.length cs) (hE:Xg W cs l) (h':tc W u l.length Wn) (Z':Xg W Wn l):Calls Tryz.prog 19 #[v,u] W (pT W):=by
 obtain ⟨a,c,rfl,hc,h3⟩:=h
 obtain ⟨a',c',rfl,Oq,AW⟩:=h'
 by_cases hz:l.length=0
 ·rw[hz]
  exact zY W a a' c c'
 obtain ⟨g,rfl,hg,hx⟩:=h3 (by omega)
 obtain ⟨g',rfl,rC,gI⟩:=AW (by omega)
 have HX:=ab hx
 have LM:=ab gI
 have HE:=ab hE
 have HE':=ab Z'
 clear h3 AW hx gI hE Z' hz
 unfold maxLen at hc Oq
 have hll:((l.length:Int) != (l.length:Int))=false:=by simp
 go_enter Tryz.func19,Tryz.ntmps19
 go_wp2
 go_loopg [5] l.length (fun gk v5 wr=>∃(i:Nat),v5=.int .i64 (i:Int)∧gk=l.length-i∧i≤l.length∧Hid (Below W.heap.size W wr))
 case atStart=>exact ⟨0,rfl,rfl,by omega,zE _ _⟩
 case round =>
  obtain ⟨i,rfl,eG,hi,HB⟩:=hrel
  have jw:=ab eG
  clear eG
  by_cases dB:i<l.length
  ·obtain ⟨t,ht⟩:∃t,l[i]?=some t:=⟨_,List.getElem?_eq_getElem dB⟩
   have hB:=aa HB
   obtain ⟨vv,vr,vg,⟨x0,x1,x2,x3⟩,rv,rr,rg⟩:=aa HE i t ht
   obtain ⟨vv',vr',vg',⟨y0,y1,y2,y3⟩,rv',Yv,Yx⟩:=aa HE' i t ht
   have RV:=ab rv
   have RR:=ab rr
   have RG:=ab rg
   have RV':=ab rv'
   have RR':=ab Yv
   have RG':=ab Yx
   obtain ⟨av,cv,rfl,Kt,_⟩:=rv
   obtain ⟨av',cv',rfl,_,_⟩:=rv'
   obtain ⟨ar,cr,rfl,_,_⟩:=rr
   obtain ⟨ar',cr',rfl,_,_⟩:=Yv
   obtain ⟨ag,cg,rfl,_,_⟩:=rg
   obtain ⟨ag',cg',rfl,_,_⟩:=Yx
   unfold maxLen at Kt
   have IF:g'<wr.heap.size:=Nat.lt_of_lt_of_le rC hB.size
   have d0:=(hB.cell (p:=⟨g,i*4,none⟩) hg).trans (aa HX _ _ x0)
   have d1:=(hB.cell (p:=⟨g,i*4+1,none⟩) hg).trans (aa HX _ _ x1)
   have d2:=(hB.cell (p:=⟨g,i*4+2,none⟩) hg).trans (aa HX _ _ x2)
   have d3:=(hB.cell (p:=⟨g,i*4+3,none⟩) hg).trans (aa HX _ _ x3)
   have f0:=(hB.cell (p:=⟨g',i*4,none⟩) rC).trans (aa LM _ _ y0)
   have f1:=(hB.cell (p:=⟨g',i*4+1,none⟩) rC).trans (aa LM _ _ y1)
   have f2:=(hB.cell (p:=⟨g',i*4+2,none⟩) rC).trans (aa LM _ _ y2)
   have f3:=(hB.cell (p:=⟨g',i*4+3,none⟩) rC).trans (aa LM _ _ y3)
   have gf0:∀o,(wr.alloc o).cell? ⟨g',i*4,none⟩=_:=fun o=>(World.cell?_alloc_lt _ _ _ IF).trans f0
   have gf1:∀o,(wr.alloc o).cell? ⟨g',i*4+1,none⟩=_:=fun o=>(World.cell?_alloc_lt _ _ _ IF).trans f1
   have gf2:∀o,(wr.alloc o).cell? ⟨g',i*4+2,none⟩=_:=fun o=>(World.cell?_alloc_lt _ _ _ IF).trans f2
   have gf3:∀o,(wr.alloc o).cell? ⟨g',i*4+3,none⟩=_:=fun o=>(World.cell?_alloc_lt _ _ _ IF).trans f3
   have i0:(0:Int)≤(i:Int):=zH _
   have i1:(i:Int)<(l.length:Int):=by omega
   have e1:((t.bS.length:Int) != (t.bS.length:Int))=false:=by simp
   have oP:=ab (xR hB #[.string t.name,.slice av t.bS.length cv,.slice ar t.res.length cr,.slice ag t.gone.length cg] #[.string t.name,.slice av' t.bS.length cv',.slice ar' t.res.length cr',.slice ag' t.gone.length cg'] 71)
   clear x0 x1 x2 x3 y0 y1 y2 y3 hB ht
   go_wp2_with fail
   have H0:=aa oP
   refine (qW ((aa RR).up H0.bl) ((aa RR').up H0.bl)).mono ?_
   rintro e w2 ⟨rfl,br⟩
   have Jo:=ab (H0.up br)
   have X2:=(aa Jo).x
   have Y2:=(aa Jo).y
   clear H0 br oP d0 d1 d2 d3 f0 f1 f2 f3 gf0 gf1 gf2 gf3
   go_wp2_with fail
   have H2:=aa Jo
   refine (jy ((aa RG).up H2.bl) ((aa RG').up H2.bl)).mono ?_
   rintro e w3 ⟨rfl,qM⟩
   have CA:=ab (H2.up qM)
   have X3:=(aa CA).x
   have Y3:=(aa CA).y
   clear H2 qM Jo X2 Y2
   go_wp2
   go_loopg [8] t.bS.length (fun gk v8 wq=>∃(k m:Nat),v8=.int .i64 (k:Int)∧gk=t.bS.length-k∧k≤t.bS.length∧wq=w3.drewN m)
   case atStart=>exact ⟨0,0,rfl,rfl,by omega,rfl⟩
   case round =>
    obtain ⟨k,m,rfl,ou,hk,rfl⟩:=hrel
    have zp:=ab ou
    clear ou
    by_cases XA:k<t.bS.length
    ·obtain ⟨p,hp⟩:∃p,t.bS[k]?=some p:=⟨_,List.getElem?_eq_getElem XA⟩
     obtain ⟨z1,z2⟩:=OT _ _ _ hp
     obtain ⟨_,_,ee,_,cL⟩:=(aa RV).up (aa CA).bl
     obtain ⟨_,_,ee',_,DR⟩:=(aa RV').up (aa CA).bl
     obtain ⟨gv,hav,hgv,Lx⟩:=cL (by omega)
     obtain ⟨gv',VP,abK,yF⟩:=DR (by omega)
     cases ee
     cases ee'
     subst hav
     subst VP
     have d1:=Lx _ _ z1
     have d2:=Lx _ _ z2
     have f1:=yF _ _ z1
     have f2:=yF _ _ z2
     have k0:(0:Int)≤(k:Int):=zH _
     have k1:(k:Int)<(t.bS.length:Int):=by omega
     obtain ⟨p1,p2⟩:=p
     simp only at d1 d2 f1 f2
     clear Lx yF z1 z2 cL DR hp
     go_wp2
     go_quiet (fail)
     go_wp2
     go_roundg (t.bS.length-(k+1))
     case measure=>have:=aa zp;omega
     case rel=>exact ⟨k+1,_,by go_num,rfl,by omega,rfl⟩
    ·obtain rfl:k=t.bS.length:=by omega
     go_wp2
     go_roundg (l.length-(i+1))
     case measure=>have:=aa jw;omega
     case rel=>exact ⟨i+1,by go_num,rfl,by omega,below_drewN (aa CA).bl _⟩
  ·obtain rfl:i=l.length:=by omega
   go_wp2
   go_ret
   exact ⟨rfl,aa HB⟩
def PW (W:World) (v:Value) (ms:List Ms):Prop:=∀(Q:Nat→Prop) (u:Value) (Wn:List Value),tc W u ms.length Wn→eT Q W Wn ms→∀w0,Below W.heap.size W w0→Calls Tryz.prog 18 #[v,u] w0 (pT w0)
def McR (W:World) (cs:List Value) (i:Nat) (nm:ByteArray) (fs:List Fd) (os:List ByteArray) (es:List En) (rs:List (Int×Int)) (gs:List ByteArray) (vf vo vm ve vr vg:Value) (ce:List Value):Prop :=
 (cs[i*7]?=some (.string nm)∧cs[i*7+1]?=some vf∧cs[i*7+2]?=some vo∧cs[i*7+3]?=some vm∧cs[i*7+4]?=some ve∧cs[i*7+5]?=some vr∧cs[i*7+6]?=some vg)∧tc W vf fs.length (mI fs)∧tc W vo os.length (dR os)∧tc W ve es.length ce∧Xg W ce es∧tc W vr rs.length (qG rs)∧tc W vg gs.length (dR gs)
theorem McR.up {W:World}{cs:List Value}{i:Nat}{nm:ByteArray}{fs:List Fd}{os:List ByteArray}{es:List En}{rs:List (Int×Int)}{gs:List ByteArray}{vf vo vm ve vr vg:Value}{ce:List Value}{z0 z1 z2 z3 z4 z5 z6:Value} (h:McR W cs i nm fs os es rs gs vf vo vm ve vr vg ce):McR W (z0::z1::z2::z3::z4::z5::z6::cs) (i+1) nm fs os es rs gs vf vo vm ve vr vg ce:=by
 refine ⟨?_,h.2⟩
 rw[show (i+1)*7=i*7+7 by omega]
 exact h.1
def aaY (W:World) (cs:List Value) (l:List Ms):Prop:=∀(i:Nat) (nm:ByteArray) (fs:List Fd) (os:List ByteArray) (ms:List Ms) (es:List En) (rs:List (Int×Int)) (gs:List ByteArray),l[i]?=some (.mk nm fs os ms es rs gs)→∃vf vo vm ve vr vg ce,McR W cs i nm fs os es rs gs vf vo vm ve vr vg ce∧(∃a c,vm=.slice a ms.length c)∧PW W vm ms
def MsR (Q:Nat→Prop) (W:World) (cs:List Value) (l:List Ms):Prop:=∀(i:Nat) (nm:ByteArray) (fs:List Fd) (os:List ByteArray) (ms:List Ms) (es:List En) (rs:List (Int×Int)) (gs:List ByteArray),l[i]?=some (.mk nm fs os ms es rs gs)→∃vf vo vm ve vr vg cm ce,McR W cs i nm fs os es rs gs vf vo vm ve vr vg ce∧tc W vm ms.length cm∧eT Q W cm ms
theorem eT.rd {P:Nat→Prop}{w:World}{cs:List Value}{l:List Ms} (h:eT P w cs l):MsR P w cs l:=by
 induction h with
 |nil=>intro i _ _ _ _ _ _ _ h;simp at h
 |cons hf ho hm yK he AU hr hg _ _ ih =>
  intro i nm fs os ms es rs gs h
  cases i with
  |zero =>
   cases zC h
   exact ⟨_,_,_,_,_,_,_,_,⟨⟨rfl,rfl,rfl,rfl,rfl,rfl,rfl⟩,hf.rd,ho.rd,he.rd,AU.rd,hr.rd,hg.rd⟩,hm.rd,yK⟩
  |succ i =>
   obtain ⟨vf,vo,vm,ve,vr,vg,cm,ce,h1,h2⟩:=ih i nm fs os ms es rs gs (by simpa using h)
   exact ⟨vf,vo,vm,ve,vr,vg,cm,ce,h1.up,h2⟩
theorem Fw (W:World) (a a':Option Addr) (c c':Nat):Calls Tryz.prog 18 #[.slice a 0 c,.slice a' 0 c'] W (pT W):=by
 go_enter Tryz.func18,Tryz.ntmps18
 go_wp2
 go_loopg [5] 1 (fun gk v5 wr=>v5=.int .i64 0∧wr=W)
 case atStart=>exact ⟨rfl,rfl⟩
 case round =>
  obtain ⟨rfl,rfl⟩:=hrel
  go_wp2
  go_ret
  exact ⟨rfl,zE _ _⟩
theorem tF {W:World}{v:Value}{l:List Ms}{cs:List Value} (h:tc W v l.length cs) (hE:aaY W cs l):PW W v l:=by
 intro Q u Wn h' hM w0 Xt
 have Z':=hM.rd
 obtain ⟨a,c,rfl,hc,h3⟩:=h
 obtain ⟨a',c',rfl,Oq,AW⟩:=h'
 by_cases hz:l.length=0
 ·rw[hz]
  exact Fw w0 a a' c c'
 obtain ⟨g,rfl,hg,hx⟩:=h3 (by omega)
 obtain ⟨g',rfl,rC,gI⟩:=AW (by omega)
 have HX:=ab hx
 have LM:=ab gI
 have HE:=ab hE
 have HE':=ab Z'
 have Jn:=ab Xt
 clear h3 AW hx gI hE Z' hz hM Xt
 unfold maxLen at hc Oq
 have hll:((l.length:Int) != (l.length:Int))=false:=by simp
 go_enter Tryz.func18,Tryz.ntmps18
 go_wp2
 go_loopg [5] l.length (fun gk v5 wr=>∃(i:Nat),v5=.int .i64 (i:Int)∧gk=l.length-i∧i≤l.length∧Hid (Below w0.heap.size w0 wr))
 case atStart=>exact ⟨0,rfl,rfl,by omega,zE _ _⟩
 case round =>
  obtain ⟨i,rfl,eG,hi,HB⟩:=hrel
  have jw:=ab eG
  clear eG
  by_cases dB:i<l.length
  ·obtain ⟨⟨nm,fs,os,ms,es,rs,gs⟩,ht⟩:∃t,l[i]?=some t:=⟨_,List.getElem?_eq_getElem dB⟩
   have hB:Below W.heap.size W wr:=(aa Jn).trans ((aa HB).mono (aa Jn).size)
   obtain ⟨vf,vo,vm,ve,vr,vg,ce,⟨⟨x0,x1,x2,x3,x4,x5,x6⟩,rf,ro,re,res,rr,rg⟩,⟨am,cm,rfl⟩,c8⟩:=aa HE i _ _ _ _ _ _ _ ht
   obtain ⟨vf',vo',vm',ve',vr',vg',cm',ce',⟨⟨y0,y1,y2,y3,y4,y5,y6⟩,rf',ro',re',Yz,Yv,Yx⟩,rm',ZF⟩:=aa HE' i _ _ _ _ _ _ _ ht
   have aaV:=ab (c8 Q vm' cm' rm' ZF)
   have Rf:=ab rf
   have Rf':=ab rf'
   have Ro:=ab ro
   have Ro':=ab ro'
   have Re:=ab re
   have Re':=ab re'
   have Rr:=ab rr
   have Rr':=ab Yv
   have Rg:=ab rg
   have Rg':=ab Yx
   have RS:=ab res
   have RS':=ab Yz
   obtain ⟨af,cf,rfl,XF,_⟩:=rf
   obtain ⟨af',cf',rfl,_,_⟩:=rf'
   obtain ⟨ao,co,rfl,hol,_⟩:=ro
   obtain ⟨ao',co',rfl,_,_⟩:=ro'
   obtain ⟨ae,ce_,rfl,hel,_⟩:=re
   obtain ⟨ae',acr,rfl,_,_⟩:=re'
   obtain ⟨ar,cr,rfl,hrl,_⟩:=rr
   obtain ⟨ar',cr',rfl,_,_⟩:=Yv
   obtain ⟨ag,cg,rfl,VE,_⟩:=rg
   obtain ⟨ag',cg',rfl,_,_⟩:=Yx
   obtain ⟨am',acp,rfl,_,_⟩:=rm'
   unfold maxLen at XF
   have IF:g'<wr.heap.size:=Nat.lt_of_lt_of_le rC hB.size
   have d0:=(hB.cell (p:=⟨g,i*7,none⟩) hg).trans (aa HX _ _ x0)
   have f0:=(hB.cell (p:=⟨g',i*7,none⟩) rC).trans (aa LM _ _ y0)
   have gf0:∀o,(wr.alloc o).cell? ⟨g',i*7,none⟩=_:=fun o=>(World.cell?_alloc_lt _ _ _ IF).trans f0
   have d1:=(hB.cell (p:=⟨g,i*7+1,none⟩) hg).trans (aa HX _ _ x1)
   have f1:=(hB.cell (p:=⟨g',i*7+1,none⟩) rC).trans (aa LM _ _ y1)
   have gf1:∀o,(wr.alloc o).cell? ⟨g',i*7+1,none⟩=_:=fun o=>(World.cell?_alloc_lt _ _ _ IF).trans f1
   have d2:=(hB.cell (p:=⟨g,i*7+2,none⟩) hg).trans (aa HX _ _ x2)
   have f2:=(hB.cell (p:=⟨g',i*7+2,none⟩) rC).trans (aa LM _ _ y2)
   have gf2:∀o,(wr.alloc o).cell? ⟨g',i*7+2,none⟩=_:=fun o=>(World.cell?_alloc_lt _ _ _ IF).trans f2
   have d3:=(hB.cell (p:=⟨g,i*7+3,none⟩) hg).trans (aa HX _ _ x3)
   have f3:=(hB.cell (p:=⟨g',i*7+3,none⟩) rC).trans (aa LM _ _ y3)
   have gf3:∀o,(wr.alloc o).cell? ⟨g',i*7+3,none⟩=_:=fun o=>(World.cell?_alloc_lt _ _ _ IF).trans f3
   have d4:=(hB.cell (p:=⟨g,i*7+4,none⟩) hg).trans (aa HX _ _ x4)
   have f4:=(hB.cell (p:=⟨g',i*7+4,none⟩) rC).trans (aa LM _ _ y4)
   have gf4:∀o,(wr.alloc o).cell? ⟨g',i*7+4,none⟩=_:=fun o=>(World.cell?_alloc_lt _ _ _ IF).trans f4
   have d5:=(hB.cell (p:=⟨g,i*7+5,none⟩) hg).trans (aa HX _ _ x5)
   have f5:=(hB.cell (p:=⟨g',i*7+5,none⟩) rC).trans (aa LM _ _ y5)
   have gf5:∀o,(wr.alloc o).cell? ⟨g',i*7+5,none⟩=_:=fun o=>(World.cell?_alloc_lt _ _ _ IF).trans f5
   have d6:=(hB.cell (p:=⟨g,i*7+6,none⟩) hg).trans (aa HX _ _ x6)
   have f6:=(hB.cell (p:=⟨g',i*7+6,none⟩) rC).trans (aa LM _ _ y6)
   have gf6:∀o,(wr.alloc o).cell? ⟨g',i*7+6,none⟩=_:=fun o=>(World.cell?_alloc_lt _ _ _ IF).trans f6
   have i0:(0:Int)≤(i:Int):=zH _
   have i1:(i:Int)<(l.length:Int):=by omega
   have e1:((fs.length:Int) != (fs.length:Int))=false:=by simp
   have oP:=ab (xR (aa HB) #[.string nm,.slice af fs.length cf,.slice ao os.length co,.slice am ms.length cm,.slice ae es.length ce_,.slice ar rs.length cr,.slice ag gs.length cg] #[.string nm,.slice af' fs.length cf',.slice ao' os.length co',.slice am' ms.length acp,.slice ae' es.length acr,.slice ar' rs.length cr',.slice ag' gs.length cg'] 49)
   clear x0 x1 x2 x3 x4 x5 x6 y0 y1 y2 y3 y4 y5 y6 hB ht c8 ZF res Yz
   go_wp2_with fail
   have H0:=aa oP
   have W0:=(aa Jn).trans (H0.bl.mono (aa Jn).size)
   refine (jy ((aa Ro).up W0) ((aa Ro').up W0)).mono ?_
   rintro e w2 ⟨rfl,br⟩
   have Jo:=ab (H0.up br)
   have X2:=(aa Jo).x
   have Y2:=(aa Jo).y
   clear H0 br oP d0 d1 d2 d3 d4 d5 d6 f0 f1 f2 f3 f4 f5 f6 gf0 gf1 gf2 gf3 gf4 gf5 gf6 W0
   go_wp2_with fail
   have H2:=aa Jo
   have W2:=(aa Jn).trans (H2.bl.mono (aa Jn).size)
   refine (qW ((aa Rr).up W2) ((aa Rr').up W2)).mono ?_
   rintro e w3 ⟨rfl,qM⟩
   have CA:=ab (H2.up qM)
   have X3:=(aa CA).x
   have Y3:=(aa CA).y
   clear H2 qM Jo X2 Y2 W2
   go_wp2_with fail
   have H3:=aa CA
   have W3:=(aa Jn).trans (H3.bl.mono (aa Jn).size)
   refine (jy ((aa Rg).up W3) ((aa Rg').up W3)).mono ?_
   rintro e w4 ⟨rfl,fj⟩
   have HT4:=ab (H3.up fj)
   have X4:=(aa HT4).x
   have Y4:=(aa HT4).y
   clear H3 fj CA X3 Y3 W3
   go_wp2
   go_loopg [8] fs.length (fun gk v8 wq=>∃(k m:Nat),v8=.int .i64 (k:Int)∧gk=fs.length-k∧k≤fs.length∧wq=w4.drewN m)
   case atStart=>exact ⟨0,0,rfl,rfl,by omega,rfl⟩
   case round =>
    obtain ⟨k,m,rfl,ou,hk,rfl⟩:=hrel
    have zp:=ab ou
    clear ou
    by_cases XA:k<fs.length
    ·obtain ⟨p,hp⟩:∃p,fs[k]?=some p:=⟨_,List.getElem?_eq_getElem XA⟩
     have W4:=(aa Jn).trans ((aa HT4).bl.mono (aa Jn).size)
     obtain ⟨_,_,ee,_,cL⟩:=(aa Rf).up W4
     obtain ⟨_,_,ee',_,DR⟩:=(aa Rf').up W4
     obtain ⟨gv,hav,hgv,Lx⟩:=cL (by omega)
     obtain ⟨gv',VP,abK,yF⟩:=DR (by omega)
     cases ee
     cases ee'
     subst hav
     subst VP
     have z:=IY _ _ _ hp
     obtain ⟨q0,q1,q2,q3,q4,q5⟩:=p
     have d0:=Lx _ _ (z 0 (.int .i64 q0) rfl)
     have f0:=yF _ _ (z 0 (.int .i64 q0) rfl)
     have d1:=Lx _ _ (z 1 (.string q1) rfl)
     have f1:=yF _ _ (z 1 (.string q1) rfl)
     have d2:=Lx _ _ (z 2 (.string q2) rfl)
     have f2:=yF _ _ (z 2 (.string q2) rfl)
     have d3:=Lx _ _ (z 3 (.string q3) rfl)
     have f3:=yF _ _ (z 3 (.string q3) rfl)
     have d4:=Lx _ _ (z 4 (.int .i64 q4) rfl)
     have f4:=yF _ _ (z 4 (.int .i64 q4) rfl)
     have d5:=Lx _ _ (z 5 (.int .i64 q5) rfl)
     have f5:=yF _ _ (z 5 (.int .i64 q5) rfl)
     have k0:(0:Int)≤(k:Int):=zH _
     have k1:(k:Int)<(fs.length:Int):=by omega
     rw[Nat.add_zero] at d0 f0
     clear Lx yF z cL DR hp W4
     go_wp2
     go_quiet (fail)
     go_wp2
     go_roundg (fs.length-(k+1))
     case measure=>have:=aa zp;omega
     case rel=>exact ⟨k+1,_,by go_num,rfl,by omega,rfl⟩
    ·obtain rfl:k=fs.length:=by omega
     go_wp2_with fail
     have H4:Lm w0 _ _ _ _ _ (w4.drewN m):=(aa HT4).up (below_drewN (zE _ _) m)
     have W4:=(aa Jn).trans (H4.bl.mono (aa Jn).size)
     refine (pG ((aa Re).up W4) ((aa RS).up W4) ((aa Re').up W4) ((aa RS').up W4)).mono ?_
     rintro e w5 ⟨rfl,lr⟩
     have LN:=ab (H4.up lr)
     have X5:=(aa LN).x
     have Y5:=(aa LN).y
     clear H4 W4 lr HT4 X4 Y4
     go_wp2_with fail
     have H5:=aa LN
     refine (aa aaV _ ((aa Jn).trans (H5.bl.mono (aa Jn).size))).mono ?_
     rintro e w6 ⟨rfl,Qt⟩
     have HB6:=ab (H5.up Qt).bl
     clear H5 Qt LN X5 Y5
     go_wp2
     go_roundg (l.length-(i+1))
     case measure=>have:=aa jw;omega
     case rel=>exact ⟨i+1,by go_num,rfl,by omega,HB6⟩
  ·obtain rfl:i=l.length:=by omega
   go_wp2
   go_ret
   exact ⟨rfl,aa HB⟩
theorem eT.each {P:Nat→Prop}{w:World}{cs:List Value}{l:List Ms} (h:eT P w cs l):aaY w cs l:=by
 induction h with
 |nil=>intro i _ _ _ _ _ _ _ h;simp at h
 |cons hf ho hm yK he AU hr hg _ ih1 Vi =>
  intro i nm fs os ms es rs gs h
  cases i with
  |zero =>
   cases zC h
   obtain ⟨a,c,e,_⟩:=hm.rd
   exact ⟨_,_,_,_,_,_,_,⟨⟨rfl,rfl,rfl,rfl,rfl,rfl,rfl⟩,hf.rd,ho.rd,he.rd,AU.rd,hr.rd,hg.rd⟩,⟨a,c,e⟩,tF hm.rd ih1⟩
  |succ i =>
   obtain ⟨vf,vo,vm,ve,vr,vg,ce,h1,h2⟩:=Vi i nm fs os ms es rs gs (by simpa using h)
   exact ⟨vf,vo,vm,ve,vr,vg,ce,h1.up,h2⟩
theorem mW {P Q:Nat→Prop}{W:World}{x y:Value}{a:Fl} (h:NF a x P W) (h':NF a y Q W):Calls Tryz.prog 10 #[x,y] W (pT W):=by
 obtain ⟨vi,vm,ve,cm,ce,rfl,h1,h2,h3,h4,h5⟩:=h
 obtain ⟨vi',vm',ve',cm',ce',rfl,VY,XP,AW,h4',h5'⟩:=h'
 have HI:=ab h1.rd
 have HI':=ab VY.rd
 have HMr:=ab h2.rd
 have adP:=ab XP.rd
 have HM:=ab (tF h2.rd h3.each Q _ _ XP.rd AW)
 have HEr:=ab h4.rd
 have acN:=ab h4'.rd
 have HE:=ab h5.rd
 have HE':=ab h5'.rd
 obtain ⟨ai,ci,rfl,_,_⟩:=h1.rd
 obtain ⟨ai',ci',rfl,_,_⟩:=VY.rd
 obtain ⟨am,TZ,rfl,_,_⟩:=h2.rd
 obtain ⟨am',acq,rfl,_,_⟩:=XP.rd
 obtain ⟨ae,ce0,rfl,_,_⟩:=h4.rd
 obtain ⟨ae',acs,rfl,_,_⟩:=h4'.rd
 have oP:=ab (xR (zE W.heap.size W) #[.string a.iT,.slice ai a.fO.length ci,.slice am a.ms.length TZ,.slice ae a.es.length ce0] #[.string a.iT,.slice ai' a.fO.length ci',.slice am' a.ms.length acq,.slice ae' a.es.length acs] 27)
 clear h1 VY h2 XP h3 AW h4 h4' h5 h5'
 go_enter Tryz.func10,Tryz.ntmps10
 go_wp2_with fail
 have H0:=aa oP
 refine (jy ((aa HI).up H0.bl) ((aa HI').up H0.bl)).mono ?_
 rintro e w2 ⟨rfl,br⟩
 have Jo:=ab (H0.up br)
 have X2:=(aa Jo).x
 have Y2:=(aa Jo).y
 clear H0 br oP
 go_wp2_with fail
 have H2:=aa Jo
 refine (aa HM _ H2.bl).mono ?_
 rintro e w3 ⟨rfl,qM⟩
 have CA:=ab (H2.up qM)
 have X3:=(aa CA).x
 have Y3:=(aa CA).y
 clear H2 qM Jo X2 Y2
 go_wp2_with fail
 have H3:=aa CA
 refine (pG ((aa HEr).up H3.bl) ((aa HE).up H3.bl) ((aa acN).up H3.bl) ((aa HE').up H3.bl)).mono ?_
 rintro e w4 ⟨rfl,fj⟩
 have HB4:=ab (H3.up fj).bl
 clear H3 fj CA X3 Y3
 go_wp2
 go_ret
 exact ⟨rfl,aa HB4⟩
theorem Rl (P:Nat→Prop) (W:World):NF ⟨⟨#[]⟩,[],[],[]⟩ (.agg #[.string ⟨#[]⟩,.slice none 0 0,.slice none 0 0,.slice none 0 0]) P W:=by
 have hn:∀t sz,je P W t sz (.slice none 0 0) 0 []:=fun t sz=>⟨⟨by simp,.inl ⟨rfl,rfl⟩⟩,fun g h=>by cases h⟩
 exact ⟨_,_,_,[],[],rfl,hn _ _,hn _ _,.nil,hn _ _,.nil⟩
#print axioms mW
def KT:Except (Int×Int) (Fl×ay)→Fl
 |.error _=>⟨⟨#[]⟩,[],[],[]⟩
 |.ok (x,_)=>x
def Sy:Except (Int×Int) (Fl×ay)→Int
 |.error y=>y.1
 |.ok _=>0
def QX:Except (Int×Int) (Fl×ay)→Int
 |.error y=>y.2
 |.ok _=>0
theorem NF.up {a:Fl}{x:Value}{P:Nat→Prop}{w w':World} (h:NF a x P w) (hb:Below w.heap.size w w'):NF a x P w':=oS a x P P w w' (fun k hp hk=>⟨hp,hb.block k hk⟩) h
theorem qZ {W w:World}{r:Except (Int×Int) (Fl×ay)}{e:Ending} (h:PV W r e w):∃ia il ic ma ml mc ea el ec,e=.returned (.tuple #[.agg #[.string (KT r).iT,.slice ia il ic,.slice ma ml mc,.slice ea el ec],.agg #[.int .i64 (Sy r),.int .i64 0,.int .i64 (QX r),.string ⟨#[]⟩]])∧NF (KT r) (.agg #[.string (KT r).iT,.slice ia il ic,.slice ma ml mc,.slice ea el ec]) (fun k=>W.heap.size≤k) w∧Below W.heap.size W w:=by
 match r,h with
 |.error y,h =>
  obtain ⟨rfl,hb⟩:=h
  exact ⟨_,_,_,_,_,_,_,_,_,rfl,Rl _ _,hb⟩
 |.ok (x,s),h =>
  obtain ⟨fv,rfl,hn,hb⟩:=h
  have hn':=hn
  obtain ⟨vi,vm,ve,cm,ce,rfl,h1,h2,h3,h4,h5⟩:=hn'
  obtain ⟨a1,c1,e1,_⟩:=h1.rd
  obtain ⟨a2,c2,e2,_⟩:=h2.rd
  obtain ⟨a3,c3,e3,_⟩:=h4.rd
  subst e1 e2 e3
  exact ⟨_,_,_,_,_,_,_,_,_,rfl,hn,hb⟩
theorem qD {w:World}{g:Nat}{cs:Array Value}{t:TypeId}{fr:Nat×Nat} (h:w.heap[g]?=some (.cells cs t fr)) (j:Nat):w.cell? ⟨g,j,none⟩=cs[j]?:=cell_of_row _ _ _ _ _ _ h
theorem kI {W wr:World} (hb:Below W.heap.size W wr) (xs ys:Array Value) (t t':TypeId):Lm W wr.heap.size (wr.heap.size+1) xs ys t ((wr.alloc (.cells xs t)).alloc (.cells ys t')):=by
 have h1:=hb.size
 refine ⟨(hb.alloc h1 _).alloc (by rw[zJ];omega) _,fun j=>?_,fun j=>?_,by rw[zJ,zJ];omega,by rw[zJ,zJ];omega⟩
 ·rw[World.cell?_alloc_past _ _ _ (by rw[zJ];omega),World.cell?_alloc_at _ _ _ _ rfl]
 ·rw[World.cell?_alloc_at _ _ _ _ (by rw[zJ])]
theorem mg (W:World) (x:ByteArray):Calls Tryz.prog 14 #[.string x] W fun e w=>e=.returned (.bool (fw x))∧w=W:=by
 go_enter Tryz.func14,Tryz.ntmps14
 go_wp2_with fail
 refine (CY W x).mono ?_
 rintro e w1 ⟨rfl,hw⟩
 obtain rfl:W=w1:=hw.symm
 clear hw
 go_wp2
 go_ret
 exact ⟨rfl,rfl⟩
structure ZS where
 ts:List Tk
 en:Int
 dc:Nat
abbrev ZX:=Except (Int×Int) ZS
def ZC (v:Value) (at' en ct er pl:Int):Array Value:=#[v,.int .i64 at',.int .i64 en,.int .i64 ct,.int .i64 er,.int .i64 pl]
def Zd (lo:Nat) (W:World) (b:Nat) (X:ZX):Prop:=(b<lo∧lo≤W.heap.size)∧match X with
 |.ok s=>∃(v:Value) (L:List Tk) (i:Nat),W.heap[b]?=some (.cells (ZC v i s.en s.dc 0 0) 57 (0,0))∧dZ W lo b v L∧L.drop i=s.ts∧i≤L.length∧L.length≤16384
 |.error y=>∃(a:Option Addr) (n c:Nat) (i en ct:Int),W.heap[b]?=some (.cells (ZC (.slice a n c) i en ct y.1 y.2) 57 (0,0))∧y.1≠0
def OR (er sp:Int):ZX→ZX
 |.ok _=>.error (er,sp)
 |.error y=>.error y
def ZP {α:Type} (lo b:Nat) (W:World) (ret:α→Value) (shape:Value→Prop) (r:Except (Int×Int) (α×ZS)) (e:Ending) (w:World):Prop:=W.grownBy w (some b)∧match r with
 |.ok (a,s')=>e=.returned (ret a)∧Zd lo w b (.ok s')
 |.error y=>(∃v,e=.returned v∧shape v)∧Zd lo w b (.error y)
theorem ep {W:World}{lo b:Nat}{X:ZX} (h:Zd lo W b X) (er sp:Int) (hz:er≠0):Calls Tryz.prog 67 #[.pointer (some ⟨b,0,none⟩),.int .i64 er,.int .i64 sp] W fun e w=>e=.returned (.tuple #[])∧W.grownBy w (some b)∧Zd lo w b (OR er sp X):=by
 obtain ⟨hl,hx⟩:=h
 match X,hx with
 |.ok s,⟨v,L,i,hb,ht,_⟩ =>
  obtain ⟨a,c,rfl,_⟩:=ht
  obtain ⟨k1,g1⟩:=aC (j:=4) hb (.int .i64 er)
  obtain ⟨k2,g2⟩:=aC (j:=5) k1 (.int .i64 sp)
  have g3:=g1.trans g2
  have dg:Hid (W.grownBy ((W.setCell ⟨b,4,none⟩ (.int .i64 er)).setCell ⟨b,5,none⟩ (.int .i64 sp)) (some b)∧Zd lo ((W.setCell ⟨b,4,none⟩ (.int .i64 er)).setCell ⟨b,5,none⟩ (.int .i64 sp)) b (.error (er,sp))):=⟨g3,⟨hl.1,Nat.le_trans hl.2 g3.size⟩,a,L.length,c,_,_,_,k2,hz⟩
  obtain ⟨⟨c0,c1,c2,c3,c4,c5⟩,hf⟩:=bE hb
  have f4:=hf 4
  have f5:=hf 5
  clear hb k1 k2 g1 g2 g3 hf hl
  go_enter Tryz.func67,Tryz.ntmps67
  go_wp2
  go_end0
  exact ⟨rfl,aa dg⟩
 |.error y,⟨a,n,c,i,en,ct,hb,hy⟩ =>
  have dg:Hid (Zd lo W b (.error y)):=⟨hl,a,n,c,i,en,ct,hb,hy⟩
  obtain ⟨⟨c0,c1,c2,c3,c4,c5⟩,hf⟩:=bE hb
  have e0:(y.1==0)=false:=beq_eq_false_iff_ne.2 hy
  clear hb hf hl
  go_enter Tryz.func67,Tryz.ntmps67
  go_wp2
  go_end0
  exact ⟨rfl,zI _ _,aa dg⟩
def ZS.here (s:ZS):Tk:=s.ts.headD ⟨5,s.en,⟨#[]⟩⟩
def PkX:ZX→Tk→Prop
 |.ok s,t=>t=s.here
 |.error _,t=>t.kind=5∧t.text=⟨#[]⟩
theorem K0 {L:List Tk}{i:Nat} (h:i<L.length) (d:Tk):∃t,L[i]?=some t∧(L.drop i).headD d=t:=by
 refine ⟨L[i],List.getElem?_eq_getElem h,?_⟩
 rw[List.drop_eq_getElem_cons h]
 rfl
def SO (W:World) (n:Nat) (t:Tk):World:=((((W.alloc (.cells #[.int .i64 0,.int .i64 0,.string ⟨#[]⟩] 38)).drewN n).setCell ⟨W.heap.size,0,none⟩ (.int .i64 t.kind)).setCell ⟨W.heap.size,1,none⟩ (.int .i64 t.spot)).setCell ⟨W.heap.size,2,none⟩ (.string t.text)
theorem Mc (W:World) (n:Nat) (t:Tk):(SO W n t).heap[W.heap.size]?=some (.cells #[.int .i64 t.kind,.int .i64 t.spot,.string t.text] 38 (0,0))∧Below W.heap.size W (SO W n t):=by
 have h0:((W.alloc (.cells #[.int .i64 0,.int .i64 0,.string ⟨#[]⟩] 38)).drewN n).heap[W.heap.size]?=some (.cells #[.int .i64 0,.int .i64 0,.string ⟨#[]⟩] 38 (0,0)):=aH _ _
 obtain ⟨k1,g1⟩:=aC (j:=0) h0 (.int .i64 t.kind)
 obtain ⟨k2,g2⟩:=aC (j:=1) k1 (.int .i64 t.spot)
 obtain ⟨k3,g3⟩:=aC (j:=2) k2 (.string t.text)
 refine ⟨k3,?_⟩
 have hb:Below W.heap.size W ((W.alloc (.cells #[.int .i64 0,.int .i64 0,.string ⟨#[]⟩] 38)).drewN n):=below_drewN ((zE _ _).alloc (zD _) _) n
 exact hb.grown ((g1.trans g2).trans g3) hb.size (fun k e=>by simp at e;omega)
theorem rh {R:Ending→World→Prop}{W:World}{n:Nat}{tm:Array Value}{t:Tk} (hp:tm.getD 2 undef=.pointer (some ⟨W.heap.size,0,none⟩)) (hR:R (.returned t.val) (SO W n t)):bodyPost Tryz.prog Tryz.f68 R .ret ⟨tm,[]⟩ (SO W n t) :=
 bodyPost_ret (results_cell_row rfl _ _ W.heap.size 38 #[.int .i64 t.kind,.int .i64 t.spot,.string t.text] (0,0) _ hp (Mc W n t).1 Tryz.underlying38 rfl lD) rfl hR
theorem kH {W:World}{lo b:Nat}{X:ZX} (h:Zd lo W b X):Calls Tryz.prog 68 #[.pointer (some ⟨b,0,none⟩)] W fun e w=>∃t,e=.returned t.val∧Below W.heap.size W w∧PkX X t:=by
 obtain ⟨hl,hx⟩:=h
 have yO:b<W.heap.size:=by omega
 match X,hx with
 |.error y,⟨a,n,c,i,en,ct,hb,hy⟩ =>
  obtain ⟨⟨c0,c1,c2,c3,c4,c5⟩,hf⟩:=bE hb
  have e0:(y.1 != 0)=true:=by simpa using hy
  obtain ⟨q,hq⟩:∃q,decide ((n:Int)≤i)=q:=⟨_,rfl⟩
  clear hb hf hl
  cases q
  ·go_enter Tryz.func68,Tryz.ntmps68
   go_wp2
   go_quiet (fail)
   go_wp2
   exact rh (t:=⟨5,en,⟨#[]⟩⟩) rfl ⟨_,rfl,(Mc _ _ _).2,rfl,rfl⟩
  ·go_enter Tryz.func68,Tryz.ntmps68
   go_wp2
   go_quiet (fail)
   go_wp2
   exact rh (t:=⟨5,en,⟨#[]⟩⟩) rfl ⟨_,rfl,(Mc _ _ _).2,rfl,rfl⟩
 |.ok s,⟨v,L,i,hb,ht,hd,hi,hL⟩ =>
  obtain ⟨a,c,rfl,hc,hm,h3⟩:=ht
  obtain ⟨⟨c0,c1,c2,c3,c4,c5⟩,hf⟩:=bE hb
  have Hd:=ab hd
  clear hb hf hd
  by_cases dB:i<L.length
  ·have hq:decide ((L.length:Int)≤(i:Int))=false:=by simp;omega
   obtain ⟨g,off,rfl,hg,dV,hx⟩:=h3 (by omega)
   obtain ⟨t,ht,hh⟩:=K0 dB ⟨5,s.en,⟨#[]⟩⟩
   obtain ⟨x1,x2,x3⟩:=hx i t ht
   have i0:(0:Int)≤(i:Int):=zH _
   have i1:(i:Int)<(L.length:Int):=by omega
   have IF:g<W.heap.size:=by omega
   have Hh:=ab hh
   clear hx ht hh h3 hm hL
   go_enter Tryz.func68,Tryz.ntmps68
   go_wp2
   go_quiet (fail)
   go_wp2
   go_region
   go_wp2
   refine rh (t:=t) rfl ⟨_,rfl,(Mc _ _ _).2,?_⟩
   show t=s.here
   unfold ZS.here
   rw[←aa Hd]
   exact (aa Hh).symm
  ·have hq:decide ((L.length:Int)≤(i:Int))=true:=by simp;omega
   go_enter Tryz.func68,Tryz.ntmps68
   go_wp2
   go_quiet (fail)
   go_wp2
   refine rh (t:=⟨5,s.en,⟨#[]⟩⟩) rfl ⟨_,rfl,(Mc _ _ _).2,?_⟩
   show _=s.here
   unfold ZS.here
   rw[←aa Hd,List.drop_eq_nil_of_le (by omega)]
   rfl
theorem xa {W:World}{lo b:Nat}{X:ZX} (h:Zd lo W b X) (k:Int) (x:ByteArray):Calls Tryz.prog 36 #[.pointer (some ⟨b,0,none⟩),.int .i64 k,.string x] W fun e w=>∃t:Tk,e=.returned (.bool (aJ t k x))∧Below W.heap.size W w∧PkX X t:=by
 go_enter Tryz.func36,Tryz.ntmps36
 go_wp2_with fail
 refine (kH h).mono ?_
 rintro e w1 ⟨⟨kd,sp,tx⟩,rfl,hb,hp⟩
 have HP:=ab hp
 have HB:=ab (hb.alloc hb.size (.cells #[.int .i64 kd,.int .i64 sp,.string tx] 38))
 unfold Tk.val
 clear hp hb h
 by_cases h1:kd=k
 ·obtain rfl:=h1
  go_wp2
  go_ret
  exact ⟨⟨kd,sp,tx⟩,by simp[aJ],aa HB,aa HP⟩
 ·have e1:(kd==k)=false:=by simpa using h1
  go_wp2
  go_ret
  exact ⟨⟨kd,sp,tx⟩,by simp[aJ,h1],aa HB,aa HP⟩
theorem Zd.up {lo b:Nat}{W w:World}{X:ZX} (h:Zd lo W b X) (hb:Below W.heap.size W w):Zd lo w b X:=by
 obtain ⟨hl,hx⟩:=h
 refine ⟨⟨hl.1,Nat.le_trans hl.2 hb.size⟩,?_⟩
 match X,hx with
 |.ok s,⟨v,L,i,h1,h2,h3⟩=>exact ⟨v,L,i,(hb.block b (by omega)).trans h1,h2.up (hb.mono hl.2),h3⟩
 |.error y,⟨a,n,c,i,en,ct,h1,h2⟩=>exact ⟨a,n,c,i,en,ct,(hb.block b (by omega)).trans h1,h2⟩
def jW (s:ZS):Int×Int:=(if s.here.kind=5 then 51 else 50,s.here.spot)
def pW:ZX→ZX
 |.ok s=>.error (jW s)
 |.error y=>.error y
def Zn (lo b:Nat) (W:World) (X:ZX) (e:Ending) (w:World):Prop:=e=.returned (.tuple #[])∧W.grownBy w (some b)∧Zd lo w b X
theorem b9 {W V w:World}{b:Nat} (h:Below W.heap.size W V) (k:V.grownBy w (some b)):W.grownBy w (some b):=⟨k.os.trans h.os,k.tape.trans h.tape,k.output.trans h.output,Nat.le_trans h.size k.size,fun q h1 h2=>(k.block q (Nat.lt_of_lt_of_le h1 h.size) h2).trans (h.block q h1)⟩
theorem mQ {W:World}{lo b:Nat}{X:ZX} (h:Zd lo W b X):Calls Tryz.prog 42 #[.pointer (some ⟨b,0,none⟩)] W (Zn lo b W (pW X)):=by
 have H:=ab h
 go_enter Tryz.func42,Tryz.ntmps42
 go_wp2_with fail
 refine (kH h).mono ?_
 rintro e w1 ⟨⟨kd,sp,tx⟩,rfl,hb,hp⟩
 have br:=hb.alloc hb.size (.cells #[.int .i64 kd,.int .i64 sp,.string tx] 38)
 have HB:=ab br
 have HZ:=ab ((aa H).up br)
 have HP:=ab hp
 have HS:=ab hb.size
 unfold Tk.val
 clear hp hb h br
 by_cases h1:kd=5
 ·obtain rfl:=h1
  go_wp2_with fail
  refine (ep (aa HZ) 51 sp (by decide)).mono ?_
  rintro e w2 ⟨rfl,lz,jK⟩
  have c1:w2.cell? ⟨w1.heap.size,1,none⟩=some (.int .i64 sp):=by
   have dB:w1.heap.size<(w1.alloc (.cells #[.int .i64 5,.int .i64 sp,.string tx] 38)).heap.size:=by rw[zJ];omega
   have dV:w1.heap.size≠b:=by have:=(aa H).1;have:=aa HS;omega
   rw[World.cell?_of_block (a:=⟨w1.heap.size,1,none⟩) (lz.block w1.heap.size dB (by simpa using dV))]
   rw[World.cell?_alloc_at _ _ _ _ rfl]
   rfl
  have HG:=ab (b9 (aa HB) lz)
  have CJ:=ab jK
  clear lz jK
  go_wp2_with fail
  refine (ep (aa CJ) 50 sp (by decide)).mono ?_
  rintro e w3 ⟨rfl,cN,qH⟩
  have dg:Hid (Zn lo b W (pW X) (.returned (.tuple #[])) w3):=by
   refine ⟨rfl,(aa HG).trans cN,?_⟩
   match X,aa HP,qH with
   |.ok s,hp,qH =>
    have e1:s.here=⟨5,sp,tx⟩:=hp.symm
    show Zd lo w3 b (.error (jW s))
    unfold jW
    rw[e1]
    exact qH
   |.error y,_,qH=>exact qH
  clear cN qH HG CJ HZ HP HB H c1
  go_wp2
  go_end0
  exact aa dg
 ·have e1:(kd==5)=false:=by simpa using h1
  have H1:=ab h1
  clear h1
  go_wp2_with fail
  refine (ep (aa HZ) 50 sp (by decide)).mono ?_
  rintro e w3 ⟨rfl,cN,qH⟩
  have dg:Hid (Zn lo b W (pW X) (.returned (.tuple #[])) w3):=by
   refine ⟨rfl,b9 (aa HB) cN,?_⟩
   match X,aa HP,qH with
   |.ok s,hp,qH =>
    have e1:s.here=⟨kd,sp,tx⟩:=hp.symm
    show Zd lo w3 b (.error (jW s))
    unfold jW
    rw[e1,if_neg (aa H1)]
    exact qH
   |.error y,hp,qH=>exact absurd hp.1 (aa H1)
  clear cN qH HZ HP HB H e1 H1
  go_wp2
  go_end0
  exact aa dg
def ZS.XX (s:ZS):ZS:={ s with ts:=s.ts.tail }
def oe (k:Int) (x:ByteArray):ZX→ZX
 |.ok s=>if aJ s.here k x=true then .ok s.XX else .error (jW s)
 |.error y=>.error y
theorem Zd.next {lo b:Nat}{W:World}{X:ZX} (h:Zd lo W b X) (hp:∀s,X=.ok s→0<s.ts.length):∃i:Int,W.cell? ⟨b,1,none⟩=some (.int .i64 i)∧W.frozen? ⟨b,1,none⟩=false∧(∀z,(∀s,X=.ok s→z=i+1)→W.grownBy (W.setCell ⟨b,1,none⟩ (.int .i64 z)) (some b)∧Zd lo (W.setCell ⟨b,1,none⟩ (.int .i64 z)) b (X.map ZS.XX))∧(∀s,X=.ok s→0≤i∧i≤16384):=by
 obtain ⟨hl,hx⟩:=h
 match X,hx with
 |.ok s,⟨v,L,i,h1,h2,h3,h4,h5⟩ =>
  obtain ⟨⟨c0,c1,c2,c3,c4,c5⟩,hf⟩:=bE h1
  refine ⟨i,c1,hf 1,fun z hz=>?_,fun _ _=>⟨by omega,by omega⟩⟩
  obtain rfl:=hz s rfl
  obtain ⟨k1,g1⟩:=aC (j:=1) h1 (.int .i64 ((i:Int)+1))
  refine ⟨g1,⟨hl.1,Nat.le_trans hl.2 g1.size⟩,v,L,i+1,k1,h2.gu hl.2 g1,?_,?_,h5⟩
  ·show L.drop (i+1)=s.ts.tail
   rw[←h3,List.tail_drop]
  ·have:=hp s rfl
   rw[←h3,List.length_drop] at this
   omega
 |.error y,⟨a,n,c,i,en,ct,h1,h2⟩ =>
  obtain ⟨⟨c0,c1,c2,c3,c4,c5⟩,hf⟩:=bE h1
  refine ⟨i,c1,hf 1,fun z _=>?_,fun s e=>by cases e⟩
  obtain ⟨k1,g1⟩:=aC (j:=1) h1 (.int .i64 z)
  exact ⟨g1,⟨hl.1,Nat.le_trans hl.2 g1.size⟩,a,n,c,z,en,ct,k1,h2⟩
theorem Dw {s:ZS}{k:Int}{x:ByteArray} (h:aJ s.here k x=true) (hk:k≠5):0<s.ts.length:=by
 unfold aJ ZS.here at h
 cases hl:s.ts with
 |nil =>
  rw[hl] at h
  simp only[List.headD_nil,Bool.and_eq_true,beq_iff_eq] at h
  exact absurd h.1.symm hk
 |cons a r=>simp
end Go.Proofs.YtjophoclfccmcaaGreatDoor

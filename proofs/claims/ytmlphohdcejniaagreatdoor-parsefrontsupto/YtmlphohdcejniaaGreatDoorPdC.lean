import Derived.Test.YtmlphohdcejniaaGreatDoorM41
set_option maxHeartbeats 8000000
set_option maxRecDepth 100000
namespace Go.Proofs.YtmlphohdcejniaaGreatDoor
open Go.RowKit
attribute [local go_sem ↓] Go.wp_at_zero Go.wp_at_succ
def OV (W:World) (v:Value) (ms:List Ms):Prop:=∀(Q:Nat→Prop) (u:Value) (kO:List Value),kl W u ms.length kO→cU Q W kO ms→∀w0,Below W.heap.size W w0→Calls Tryz.prog 13 #[v,u] w0 (pg w0)
def ZO (W:World) (cs:List Value) (i:Nat) (nm:ByteArray) (fs:List Fd) (os:List ByteArray) (es:List En) (rs:List (Int×Int)) (gs:List ByteArray) (vf vo vm ve vr vg:Value) (ce:List Value):Prop :=
 (cs[i*7]?=some (.string nm)∧cs[i*7+1]?=some vf∧cs[i*7+2]?=some vo∧cs[i*7+3]?=some vm∧cs[i*7+4]?=some ve∧cs[i*7+5]?=some vr∧cs[i*7+6]?=some vg)∧kl W vf fs.length (iF fs)∧kl W vo os.length (bW os)∧kl W ve es.length ce∧PM W ce es∧kl W vr rs.length (lj rs)∧kl W vg gs.length (bW gs)
theorem ZO.up {W:World}{cs:List Value}{i:Nat}{nm:ByteArray}{fs:List Fd}{os:List ByteArray}{es:List En}{rs:List (Int×Int)}{gs:List ByteArray}{vf vo vm ve vr vg:Value}{ce:List Value}{z0 z1 z2 z3 z4 z5 z6:Value} (h:ZO W cs i nm fs os es rs gs vf vo vm ve vr vg ce):ZO W (z0::z1::z2::z3::z4::z5::z6::cs) (i+1) nm fs os es rs gs vf vo vm ve vr vg ce:=by
 refine ⟨?_,h.2⟩
 rw[show (i+1)*7=i*7+7 by omega]
 exact h.1
def aak (W:World) (cs:List Value) (l:List Ms):Prop:=∀(i:Nat) (nm:ByteArray) (fs:List Fd) (os:List ByteArray) (ms:List Ms) (es:List En) (rs:List (Int×Int)) (gs:List ByteArray),l[i]?=some (.mk nm fs os ms es rs gs)→∃vf vo vm ve vr vg ce,ZO W cs i nm fs os es rs gs vf vo vm ve vr vg ce∧(∃a c,vm=.slice a ms.length c)∧OV W vm ms
def MsR (Q:Nat→Prop) (W:World) (cs:List Value) (l:List Ms):Prop:=∀(i:Nat) (nm:ByteArray) (fs:List Fd) (os:List ByteArray) (ms:List Ms) (es:List En) (rs:List (Int×Int)) (gs:List ByteArray),l[i]?=some (.mk nm fs os ms es rs gs)→∃vf vo vm ve vr vg cm ce,ZO W cs i nm fs os es rs gs vf vo vm ve vr vg ce∧kl W vm ms.length cm∧cU Q W cm ms
theorem cU.rd {P:Nat→Prop}{w:World}{cs:List Value}{l:List Ms} (h:cU P w cs l):MsR P w cs l:=by
 induction h with
 |nil=>intro i _ _ _ _ _ _ _ h;simp at h
 |cons hf ho hm jT he mP hr hg _ _ ih =>
  intro i nm fs os ms es rs gs h
  cases i with
  |zero =>
   cases zC h
   exact ⟨_,_,_,_,_,_,_,_,⟨⟨rfl,rfl,rfl,rfl,rfl,rfl,rfl⟩,hf.rd,ho.rd,he.rd,mP.rd,hr.rd,hg.rd⟩,hm.rd,jT⟩
  |succ i =>
   obtain ⟨vf,vo,vm,ve,vr,vg,cm,ce,h1,h2⟩:=ih i nm fs os ms es rs gs (by simpa using h)
   exact ⟨vf,vo,vm,ve,vr,vg,cm,ce,h1.up,h2⟩
theorem Fi (W:World) (a a':Option Addr) (c c':Nat):Calls Tryz.prog 13 #[.slice a 0 c,.slice a' 0 c'] W (pg W):=by
 go_enter Tryz.func13,Tryz.ntmps13
 go_wp2
 go_loopg [5] 1 (fun gk v5 wr=>v5=.int .i64 0∧wr=W)
 case atStart=>exact ⟨rfl,rfl⟩
 case round =>
  obtain ⟨rfl,rfl⟩:=hrel
  go_wp2
  go_ret
  exact ⟨rfl,zE _ _⟩
theorem nB {W:World}{v:Value}{l:List Ms}{cs:List Value} (h:kl W v l.length cs) (hE:aak W cs l):OV W v l:=by
 intro Q u kO h' hM w0 hw0
 have Zk:=hM.rd
 obtain ⟨a,c,rfl,hc,h3⟩:=h
 obtain ⟨a',c',rfl,Nr,CB⟩:=h'
 by_cases hz:l.length=0
 ·rw[hz]
  exact Fi w0 a a' c c'
 obtain ⟨g,rfl,hg,hx⟩:=h3 (by omega)
 obtain ⟨g',rfl,rh,rS⟩:=CB (by omega)
 have HX:=aj hx
 have KR:=aj rS
 have HE:=aj hE
 have HE':=aj Zk
 have IS:=aj hw0
 clear h3 CB hx rS hE Zk hz hM hw0
 unfold maxLen at hc Nr
 have hll:((l.length:Int) != (l.length:Int))=false:=by simp
 go_enter Tryz.func13,Tryz.ntmps13
 go_wp2
 go_loopg [5] l.length (fun gk v5 wr=>∃(i:Nat),v5=.int .i64 (i:Int)∧gk=l.length-i∧i≤l.length∧Hid (Below w0.heap.size w0 wr))
 case atStart=>exact ⟨0,rfl,rfl,by omega,zE _ _⟩
 case round =>
  obtain ⟨i,rfl,fi,hi,HB⟩:=hrel
  have gA:=aj fi
  clear fi
  by_cases cw:i<l.length
  ·obtain ⟨⟨nm,fs,os,ms,es,rs,gs⟩,ht⟩:∃t,l[i]?=some t:=⟨_,List.getElem?_eq_getElem cw⟩
   have hB:Below W.heap.size W wr:=(aa IS).trans ((aa HB).mono (aa IS).size)
   obtain ⟨vf,vo,vm,ve,vr,vg,ce,⟨⟨x0,x1,x2,x3,x4,x5,x6⟩,rf,ro,re,res,rr,rg⟩,⟨am,cm,rfl⟩,cQ⟩:=aa HE i _ _ _ _ _ _ _ ht
   obtain ⟨vf',vo',Xq,ve',Xp,Xr,PD,RP,⟨⟨y0,y1,y2,y3,y4,y5,y6⟩,rf',ro',re',XJ,XG,XI⟩,rm',YF⟩:=aa HE' i _ _ _ _ _ _ _ ht
   have aad:=aj (cQ Q Xq PD rm' YF)
   have Rf:=aj rf
   have Rf':=aj rf'
   have Ro:=aj ro
   have Ro':=aj ro'
   have Re:=aj re
   have Re':=aj re'
   have Rr:=aj rr
   have Rr':=aj XG
   have Rg:=aj rg
   have Rg':=aj XI
   have RS:=aj res
   have RS':=aj XJ
   obtain ⟨af,cf,rfl,Ps,_⟩:=rf
   obtain ⟨af',cf',rfl,_,_⟩:=rf'
   obtain ⟨ao,co,rfl,UB,_⟩:=ro
   obtain ⟨ao',co',rfl,_,_⟩:=ro'
   obtain ⟨ae,ce_,rfl,hel,_⟩:=re
   obtain ⟨ae',abi,rfl,_,_⟩:=re'
   obtain ⟨ar,cr,rfl,hrl,_⟩:=rr
   obtain ⟨ar',cr',rfl,_,_⟩:=XG
   obtain ⟨ag,cg,rfl,me,_⟩:=rg
   obtain ⟨ag',cg',rfl,_,_⟩:=XI
   obtain ⟨am',abg,rfl,_,_⟩:=rm'
   unfold maxLen at Ps
   have J2:g'<wr.heap.size:=Nat.lt_of_lt_of_le rh hB.size
   have d0:=(hB.cell (p:=⟨g,i*7,none⟩) hg).trans (aa HX _ _ x0)
   have f0:=(hB.cell (p:=⟨g',i*7,none⟩) rh).trans (aa KR _ _ y0)
   have gf0:∀o,(wr.alloc o).cell? ⟨g',i*7,none⟩=_:=fun o=>(World.cell?_alloc_lt _ _ _ J2).trans f0
   have d1:=(hB.cell (p:=⟨g,i*7+1,none⟩) hg).trans (aa HX _ _ x1)
   have f1:=(hB.cell (p:=⟨g',i*7+1,none⟩) rh).trans (aa KR _ _ y1)
   have gf1:∀o,(wr.alloc o).cell? ⟨g',i*7+1,none⟩=_:=fun o=>(World.cell?_alloc_lt _ _ _ J2).trans f1
   have d2:=(hB.cell (p:=⟨g,i*7+2,none⟩) hg).trans (aa HX _ _ x2)
   have f2:=(hB.cell (p:=⟨g',i*7+2,none⟩) rh).trans (aa KR _ _ y2)
   have gf2:∀o,(wr.alloc o).cell? ⟨g',i*7+2,none⟩=_:=fun o=>(World.cell?_alloc_lt _ _ _ J2).trans f2
   have d3:=(hB.cell (p:=⟨g,i*7+3,none⟩) hg).trans (aa HX _ _ x3)
   have f3:=(hB.cell (p:=⟨g',i*7+3,none⟩) rh).trans (aa KR _ _ y3)
   have gf3:∀o,(wr.alloc o).cell? ⟨g',i*7+3,none⟩=_:=fun o=>(World.cell?_alloc_lt _ _ _ J2).trans f3
   have d4:=(hB.cell (p:=⟨g,i*7+4,none⟩) hg).trans (aa HX _ _ x4)
   have f4:=(hB.cell (p:=⟨g',i*7+4,none⟩) rh).trans (aa KR _ _ y4)
   have gf4:∀o,(wr.alloc o).cell? ⟨g',i*7+4,none⟩=_:=fun o=>(World.cell?_alloc_lt _ _ _ J2).trans f4
   have d5:=(hB.cell (p:=⟨g,i*7+5,none⟩) hg).trans (aa HX _ _ x5)
   have f5:=(hB.cell (p:=⟨g',i*7+5,none⟩) rh).trans (aa KR _ _ y5)
   have gf5:∀o,(wr.alloc o).cell? ⟨g',i*7+5,none⟩=_:=fun o=>(World.cell?_alloc_lt _ _ _ J2).trans f5
   have d6:=(hB.cell (p:=⟨g,i*7+6,none⟩) hg).trans (aa HX _ _ x6)
   have f6:=(hB.cell (p:=⟨g',i*7+6,none⟩) rh).trans (aa KR _ _ y6)
   have gf6:∀o,(wr.alloc o).cell? ⟨g',i*7+6,none⟩=_:=fun o=>(World.cell?_alloc_lt _ _ _ J2).trans f6
   have i0:(0:Int)≤(i:Int):=zH _
   have i1:(i:Int)<(l.length:Int):=by omega
   have e1:((fs.length:Int) != (fs.length:Int))=false:=by simp
   have yQ:=aj (wK (aa HB) #[.string nm,.slice af fs.length cf,.slice ao os.length co,.slice am ms.length cm,.slice ae es.length ce_,.slice ar rs.length cr,.slice ag gs.length cg] #[.string nm,.slice af' fs.length cf',.slice ao' os.length co',.slice am' ms.length abg,.slice ae' es.length abi,.slice ar' rs.length cr',.slice ag' gs.length cg'] 64)
   clear x0 x1 x2 x3 x4 x5 x6 y0 y1 y2 y3 y4 y5 y6 hB ht cQ YF res XJ
   go_wp2_with fail
   have H0:=aa yQ
   have W0:=(aa IS).trans (H0.bl.mono (aa IS).size)
   refine (iW ((aa Ro).up W0) ((aa Ro').up W0)).mono ?_
   rintro e w2 ⟨rfl,bJ⟩
   have zr:=aj (H0.up bJ)
   have X2:=(aa zr).x
   have Y2:=(aa zr).y
   clear H0 bJ yQ d0 d1 d2 d3 d4 d5 d6 f0 f1 f2 f3 f4 f5 f6 gf0 gf1 gf2 gf3 gf4 gf5 gf6 W0
   go_wp2_with fail
   have H2:=aa zr
   have W2:=(aa IS).trans (H2.bl.mono (aa IS).size)
   refine (qi ((aa Rr).up W2) ((aa Rr').up W2)).mono ?_
   rintro e w3 ⟨rfl,mQ⟩
   have wH:=aj (H2.up mQ)
   have X3:=(aa wH).x
   have Y3:=(aa wH).y
   clear H2 mQ zr X2 Y2 W2
   go_wp2_with fail
   have H3:=aa wH
   have W3:=(aa IS).trans (H3.bl.mono (aa IS).size)
   refine (iW ((aa Rg).up W3) ((aa Rg').up W3)).mono ?_
   rintro e w4 ⟨rfl,eV⟩
   have CC:=aj (H3.up eV)
   have X4:=(aa CC).x
   have Y4:=(aa CC).y
   clear H3 eV wH X3 Y3 W3
   go_wp2
   go_loopg [8] fs.length (fun gk v8 wq=>∃(k m:Nat),v8=.int .i64 (k:Int)∧gk=fs.length-k∧k≤fs.length∧wq=w4.drewN m)
   case atStart=>exact ⟨0,0,rfl,rfl,by omega,rfl⟩
   case round =>
    obtain ⟨k,m,rfl,kL,hk,rfl⟩:=hrel
    have oM:=aj kL
    clear kL
    by_cases YK:k<fs.length
    ·obtain ⟨p,hp⟩:∃p,fs[k]?=some p:=⟨_,List.getElem?_eq_getElem YK⟩
     have W4:=(aa IS).trans ((aa CC).bl.mono (aa IS).size)
     obtain ⟨_,_,ee,_,cP⟩:=(aa Rf).up W4
     obtain ⟨_,_,ee',_,DO⟩:=(aa Rf').up W4
     obtain ⟨gv,hav,WD,MX⟩:=cP (by omega)
     obtain ⟨gv',UU,aa4,xJ⟩:=DO (by omega)
     cases ee
     cases ee'
     subst hav
     subst UU
     have z:=qE _ _ _ hp
     obtain ⟨q0,q1,q2,q3,q4,q5⟩:=p
     have d0:=MX _ _ (z 0 (.int .i64 q0) rfl)
     have f0:=xJ _ _ (z 0 (.int .i64 q0) rfl)
     have d1:=MX _ _ (z 1 (.string q1) rfl)
     have f1:=xJ _ _ (z 1 (.string q1) rfl)
     have d2:=MX _ _ (z 2 (.string q2) rfl)
     have f2:=xJ _ _ (z 2 (.string q2) rfl)
     have d3:=MX _ _ (z 3 (.string q3) rfl)
     have f3:=xJ _ _ (z 3 (.string q3) rfl)
     have d4:=MX _ _ (z 4 (.int .i64 q4) rfl)
     have f4:=xJ _ _ (z 4 (.int .i64 q4) rfl)
     have d5:=MX _ _ (z 5 (.int .i64 q5) rfl)
     have f5:=xJ _ _ (z 5 (.int .i64 q5) rfl)
     have k0:(0:Int)≤(k:Int):=zH _
     have k1:(k:Int)<(fs.length:Int):=by omega
     rw[Nat.add_zero] at d0 f0
     clear MX xJ z cP DO hp W4
     go_wp2
     go_quiet (fail)
     go_wp2
     go_roundg (fs.length-(k+1))
     case measure=>have:=aa oM;omega
     case rel=>exact ⟨k+1,_,by go_num,rfl,by omega,rfl⟩
    ·obtain rfl:k=fs.length:=by omega
     go_wp2_with fail
     have H4:KA w0 _ _ _ _ _ (w4.drewN m):=(aa CC).up (below_drewN (zE _ _) m)
     have W4:=(aa IS).trans (H4.bl.mono (aa IS).size)
     refine (oT ((aa Re).up W4) ((aa RS).up W4) ((aa Re').up W4) ((aa RS').up W4)).mono ?_
     rintro e w5 ⟨rfl,kq⟩
     have W7:=aj (H4.up kq)
     have X5:=(aa W7).x
     have Y5:=(aa W7).y
     clear H4 W4 kq CC X4 Y4
     go_wp2_with fail
     have H5:=aa W7
     refine (aa aad _ ((aa IS).trans (H5.bl.mono (aa IS).size))).mono ?_
     rintro e w6 ⟨rfl,za⟩
     have PL:=aj (H5.up za).bl
     clear H5 za W7 X5 Y5
     go_wp2
     go_roundg (l.length-(i+1))
     case measure=>have:=aa gA;omega
     case rel=>exact ⟨i+1,by go_num,rfl,by omega,PL⟩
  ·obtain rfl:i=l.length:=by omega
   go_wp2
   go_ret
   exact ⟨rfl,aa HB⟩
theorem cU.each {P:Nat→Prop}{w:World}{cs:List Value}{l:List Ms} (h:cU P w cs l):aak w cs l:=by
 induction h with
 |nil=>intro i _ _ _ _ _ _ _ h;simp at h
 |cons hf ho hm jT he mP hr hg _ XY JU =>
  intro i nm fs os ms es rs gs h
  cases i with
  |zero =>
   cases zC h
   obtain ⟨a,c,e,_⟩:=hm.rd
   exact ⟨_,_,_,_,_,_,_,⟨⟨rfl,rfl,rfl,rfl,rfl,rfl,rfl⟩,hf.rd,ho.rd,he.rd,mP.rd,hr.rd,hg.rd⟩,⟨a,c,e⟩,nB hm.rd XY⟩
  |succ i =>
   obtain ⟨vf,vo,vm,ve,vr,vg,ce,h1,h2⟩:=JU i nm fs os ms es rs gs (by simpa using h)
   exact ⟨vf,vo,vm,ve,vr,vg,ce,h1.up,h2⟩
theorem Fj {P Q:Nat→Prop}{W:World}{v u:Value}{l:List Ms}{cs kO:List Value} (h:kl W v l.length cs) (hm:cU P W cs l) (h':kl W u l.length kO) (Wy:cU Q W kO l):Calls Tryz.prog 13 #[v,u] W (pg W):=nB h hm.each Q u kO h' Wy W (zE _ _)
end Go.Proofs.YtmlphohdcejniaaGreatDoor

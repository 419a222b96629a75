import Derived.Test.YtjophoclfccmcaaGreatDoorM31
import Derived.ChangeAlike
import Derived.BigRegion
set_option maxHeartbeats 8000000
set_option maxRecDepth 100000
namespace Go.Proofs.YtjophoclfccmcaaGreatDoor
open Go.RowKit
attribute [local go_sem ↓] Go.wp_at_zero Go.wp_at_succ
def PC (W:World) (v:Value) (ms:List Ms):Prop:=∀(Q:Nat→Prop) (u:Value) (XD:List Value),sX W u ms.length XD→eU Q W XD ms→∀w0,Below W.heap.size W w0→Calls Tryz.prog 18 #[v,u] w0 (pN w0)
def McR (W:World) (cs:List Value) (i:Nat) (nm:ByteArray) (fs:List Fd) (os:List ByteArray) (es:List En) (rs:List (Int×Int)) (gs:List ByteArray) (vf vo vm ve vr vg:Value) (ce:List Value):Prop :=
 (cs[i*7]?=some (.string nm)∧cs[i*7+1]?=some vf∧cs[i*7+2]?=some vo∧cs[i*7+3]?=some vm∧cs[i*7+4]?=some ve∧cs[i*7+5]?=some vr∧cs[i*7+6]?=some vg)∧sX W vf fs.length (mF fs)∧sX W vo os.length (dV os)∧sX W ve es.length ce∧WN W ce es∧sX W vr rs.length (qC rs)∧sX W vg gs.length (dV gs)
theorem McR.up {W:World}{cs:List Value}{i:Nat}{nm:ByteArray}{fs:List Fd}{os:List ByteArray}{es:List En}{rs:List (Int×Int)}{gs:List ByteArray}{vf vo vm ve vr vg:Value}{ce:List Value}{z0 z1 z2 z3 z4 z5 z6:Value} (h:McR W cs i nm fs os es rs gs vf vo vm ve vr vg ce):McR W (z0::z1::z2::z3::z4::z5::z6::cs) (i+1) nm fs os es rs gs vf vo vm ve vr vg ce:=by
 refine ⟨?_,h.2⟩
 rw[show (i+1)*7=i*7+7 by omega]
 exact h.1
def aaM (W:World) (cs:List Value) (l:List Ms):Prop:=∀(i:Nat) (nm:ByteArray) (fs:List Fd) (os:List ByteArray) (ms:List Ms) (es:List En) (rs:List (Int×Int)) (gs:List ByteArray),l[i]?=some (.mk nm fs os ms es rs gs)→∃vf vo vm ve vr vg ce,McR W cs i nm fs os es rs gs vf vo vm ve vr vg ce∧(∃a c,vm=.slice a ms.length c)∧PC W vm ms
def MsR (Q:Nat→Prop) (W:World) (cs:List Value) (l:List Ms):Prop:=∀(i:Nat) (nm:ByteArray) (fs:List Fd) (os:List ByteArray) (ms:List Ms) (es:List En) (rs:List (Int×Int)) (gs:List ByteArray),l[i]?=some (.mk nm fs os ms es rs gs)→∃vf vo vm ve vr vg cm ce,McR W cs i nm fs os es rs gs vf vo vm ve vr vg ce∧sX W vm ms.length cm∧eU Q W cm ms
theorem eU.rd {P:Nat→Prop}{w:World}{cs:List Value}{l:List Ms} (h:eU P w cs l):MsR P w cs l:=by
 induction h with
 |nil=>intro i _ _ _ _ _ _ _ h;simp at h
 |cons hf ho hm rT he AZ hr hg _ _ ih =>
  intro i nm fs os ms es rs gs h
  cases i with
  |zero =>
   cases zC h
   exact ⟨_,_,_,_,_,_,_,_,⟨⟨rfl,rfl,rfl,rfl,rfl,rfl,rfl⟩,hf.rd,ho.rd,he.rd,AZ.rd,hr.rd,hg.rd⟩,hm.rd,rT⟩
  |succ i =>
   obtain ⟨vf,vo,vm,ve,vr,vg,cm,ce,h1,h2⟩:=ih i nm fs os ms es rs gs (by simpa using h)
   exact ⟨vf,vo,vm,ve,vr,vg,cm,ce,h1.up,h2⟩
theorem FF (W:World) (a a':Option Addr) (c c':Nat):Calls Tryz.prog 18 #[.slice a 0 c,.slice a' 0 c'] W (pN W):=by
 go_enter Tryz.func18,Tryz.ntmps18
 go_wp2
 go_loopg [5] 1 (fun gk v5 wr=>v5=.int .i64 0∧wr=W)
 case atStart=>exact ⟨rfl,rfl⟩
 case round =>
  obtain ⟨rfl,rfl⟩:=hrel
  go_wp2
  go_ret
  exact ⟨rfl,zE _ _⟩
theorem tA {W:World}{v:Value}{l:List Ms}{cs:List Value} (h:sX W v l.length cs) (hE:aaM W cs l):PC W v l:=by
 intro Q u XD h' hM w0 Xb
 have ZR:=hM.rd
 obtain ⟨a,c,rfl,hc,h3⟩:=h
 obtain ⟨a',c',rfl,Oe,A1⟩:=h'
 by_cases hz:l.length=0
 ·rw[hz]
  exact FF w0 a a' c c'
 obtain ⟨g,rfl,hg,hx⟩:=h3 (by omega)
 obtain ⟨g',rfl,tH,pF⟩:=A1 (by omega)
 have HX:=ab hx
 have LK:=ab pF
 have HE:=ab hE
 have HE':=ab ZR
 have Jq:=ab Xb
 clear h3 A1 hx pF hE ZR hz hM Xb
 unfold maxLen at hc Oe
 have hll:((l.length:Int) != (l.length:Int))=false:=by simp
 go_enter Tryz.func18,Tryz.ntmps18
 go_wp2
 go_loopg [5] l.length (fun gk v5 wr=>∃(i:Nat),v5=.int .i64 (i:Int)∧gk=l.length-i∧i≤l.length∧Hid (Below w0.heap.size w0 wr))
 case atStart=>exact ⟨0,rfl,rfl,by omega,zE _ _⟩
 case round =>
  obtain ⟨i,rfl,dY,hi,HB⟩:=hrel
  have gF:=ab dY
  clear dY
  by_cases dr:i<l.length
  ·obtain ⟨⟨nm,fs,os,ms,es,rs,gs⟩,ht⟩:∃t,l[i]?=some t:=⟨_,List.getElem?_eq_getElem dr⟩
   have hB:Below W.heap.size W wr:=(aa Jq).trans ((aa HB).mono (aa Jq).size)
   obtain ⟨vf,vo,vm,ve,vr,vg,ce,⟨⟨x0,x1,x2,x3,x4,x5,x6⟩,rf,ro,re,res,rr,rg⟩,⟨am,cm,rfl⟩,db⟩:=aa HE i _ _ _ _ _ _ _ ht
   obtain ⟨vf',vo',vm',ve',vr',vg',cm',ce',⟨⟨y0,y1,y2,y3,y4,y5,y6⟩,rf',ro',re',Yj,Yg,Yh⟩,rm',Zs⟩:=aa HE' i _ _ _ _ _ _ _ ht
   have aaJ:=ab (db Q vm' cm' rm' Zs)
   have Rf:=ab rf
   have Rf':=ab rf'
   have Ro:=ab ro
   have Ro':=ab ro'
   have Re:=ab re
   have Re':=ab re'
   have Rr:=ab rr
   have Rr':=ab Yg
   have Rg:=ab rg
   have Rg':=ab Yh
   have RS:=ab res
   have RS':=ab Yj
   obtain ⟨af,cf,rfl,Xn,_⟩:=rf
   obtain ⟨af',cf',rfl,_,_⟩:=rf'
   obtain ⟨ao,co,rfl,hol,_⟩:=ro
   obtain ⟨ao',co',rfl,_,_⟩:=ro'
   obtain ⟨ae,ce_,rfl,hel,_⟩:=re
   obtain ⟨ae',ab7,rfl,_,_⟩:=re'
   obtain ⟨ar,cr,rfl,hrl,_⟩:=rr
   obtain ⟨ar',cr',rfl,_,_⟩:=Yg
   obtain ⟨ag,cg,rfl,hgl,_⟩:=rg
   obtain ⟨ag',cg',rfl,_,_⟩:=Yh
   obtain ⟨am',ab5,rfl,_,_⟩:=rm'
   unfold maxLen at Xn
   have IJ:g'<wr.heap.size:=Nat.lt_of_lt_of_le tH hB.size
   have d0:=(hB.cell (p:=⟨g,i*7,none⟩) hg).trans (aa HX _ _ x0)
   have f0:=(hB.cell (p:=⟨g',i*7,none⟩) tH).trans (aa LK _ _ y0)
   have gf0:∀o,(wr.alloc o).cell? ⟨g',i*7,none⟩=_:=fun o=>(World.cell?_alloc_lt _ _ _ IJ).trans f0
   have d1:=(hB.cell (p:=⟨g,i*7+1,none⟩) hg).trans (aa HX _ _ x1)
   have f1:=(hB.cell (p:=⟨g',i*7+1,none⟩) tH).trans (aa LK _ _ y1)
   have gf1:∀o,(wr.alloc o).cell? ⟨g',i*7+1,none⟩=_:=fun o=>(World.cell?_alloc_lt _ _ _ IJ).trans f1
   have d2:=(hB.cell (p:=⟨g,i*7+2,none⟩) hg).trans (aa HX _ _ x2)
   have f2:=(hB.cell (p:=⟨g',i*7+2,none⟩) tH).trans (aa LK _ _ y2)
   have gf2:∀o,(wr.alloc o).cell? ⟨g',i*7+2,none⟩=_:=fun o=>(World.cell?_alloc_lt _ _ _ IJ).trans f2
   have d3:=(hB.cell (p:=⟨g,i*7+3,none⟩) hg).trans (aa HX _ _ x3)
   have f3:=(hB.cell (p:=⟨g',i*7+3,none⟩) tH).trans (aa LK _ _ y3)
   have gf3:∀o,(wr.alloc o).cell? ⟨g',i*7+3,none⟩=_:=fun o=>(World.cell?_alloc_lt _ _ _ IJ).trans f3
   have d4:=(hB.cell (p:=⟨g,i*7+4,none⟩) hg).trans (aa HX _ _ x4)
   have f4:=(hB.cell (p:=⟨g',i*7+4,none⟩) tH).trans (aa LK _ _ y4)
   have gf4:∀o,(wr.alloc o).cell? ⟨g',i*7+4,none⟩=_:=fun o=>(World.cell?_alloc_lt _ _ _ IJ).trans f4
   have d5:=(hB.cell (p:=⟨g,i*7+5,none⟩) hg).trans (aa HX _ _ x5)
   have f5:=(hB.cell (p:=⟨g',i*7+5,none⟩) tH).trans (aa LK _ _ y5)
   have gf5:∀o,(wr.alloc o).cell? ⟨g',i*7+5,none⟩=_:=fun o=>(World.cell?_alloc_lt _ _ _ IJ).trans f5
   have d6:=(hB.cell (p:=⟨g,i*7+6,none⟩) hg).trans (aa HX _ _ x6)
   have f6:=(hB.cell (p:=⟨g',i*7+6,none⟩) tH).trans (aa LK _ _ y6)
   have gf6:∀o,(wr.alloc o).cell? ⟨g',i*7+6,none⟩=_:=fun o=>(World.cell?_alloc_lt _ _ _ IJ).trans f6
   have i0:(0:Int)≤(i:Int):=zH _
   have i1:(i:Int)<(l.length:Int):=by omega
   have e1:((fs.length:Int) != (fs.length:Int))=false:=by simp
   have oK:=ab (xU (aa HB) #[.string nm,.slice af fs.length cf,.slice ao os.length co,.slice am ms.length cm,.slice ae es.length ce_,.slice ar rs.length cr,.slice ag gs.length cg] #[.string nm,.slice af' fs.length cf',.slice ao' os.length co',.slice am' ms.length ab5,.slice ae' es.length ab7,.slice ar' rs.length cr',.slice ag' gs.length cg'] 49)
   clear x0 x1 x2 x3 x4 x5 x6 y0 y1 y2 y3 y4 y5 y6 hB ht db Zs res Yj
   go_wp2_with fail
   have H0:=aa oK
   have W0:=(aa Jq).trans (H0.bl.mono (aa Jq).size)
   refine (jx ((aa Ro).up W0) ((aa Ro').up W0)).mono ?_
   rintro e w2 ⟨rfl,bo⟩
   have Jr:=ab (H0.up bo)
   have X2:=(aa Jr).x
   have Y2:=(aa Jr).y
   clear H0 bo oK d0 d1 d2 d3 d4 d5 d6 f0 f1 f2 f3 f4 f5 f6 gf0 gf1 gf2 gf3 gf4 gf5 gf6 W0
   go_wp2_with fail
   have H2:=aa Jr
   have W2:=(aa Jq).trans (H2.bl.mono (aa Jq).size)
   refine (qQ ((aa Rr).up W2) ((aa Rr').up W2)).mono ?_
   rintro e w3 ⟨rfl,qG⟩
   have CF:=ab (H2.up qG)
   have X3:=(aa CF).x
   have Y3:=(aa CF).y
   clear H2 qG Jr X2 Y2 W2
   go_wp2_with fail
   have H3:=aa CF
   have W3:=(aa Jq).trans (H3.bl.mono (aa Jq).size)
   refine (jx ((aa Rg).up W3) ((aa Rg').up W3)).mono ?_
   rintro e w4 ⟨rfl,fC⟩
   have HT4:=ab (H3.up fC)
   have X4:=(aa HT4).x
   have Y4:=(aa HT4).y
   clear H3 fC CF X3 Y3 W3
   go_wp2
   go_loopg [8] fs.length (fun gk v8 wq=>∃(k m:Nat),v8=.int .i64 (k:Int)∧gk=fs.length-k∧k≤fs.length∧wq=w4.drewN m)
   case atStart=>exact ⟨0,0,rfl,rfl,by omega,rfl⟩
   case round =>
    obtain ⟨k,m,rfl,mC,hk,rfl⟩:=hrel
    have sZ:=ab mC
    clear mC
    by_cases Xi:k<fs.length
    ·obtain ⟨p,hp⟩:∃p,fs[k]?=some p:=⟨_,List.getElem?_eq_getElem Xi⟩
     have W4:=(aa Jq).trans ((aa HT4).bl.mono (aa Jq).size)
     obtain ⟨_,_,ee,_,cW⟩:=(aa Rf).up W4
     obtain ⟨_,_,ee',_,DX⟩:=(aa Rf').up W4
     obtain ⟨gv,hav,hgv,Lw⟩:=cW (by omega)
     obtain ⟨gv',Vw,abu,yK⟩:=DX (by omega)
     cases ee
     cases ee'
     subst hav
     subst Vw
     have z:=I2 _ _ _ hp
     obtain ⟨q0,q1,q2,q3,q4,q5⟩:=p
     have d0:=Lw _ _ (z 0 (.int .i64 q0) rfl)
     have f0:=yK _ _ (z 0 (.int .i64 q0) rfl)
     have d1:=Lw _ _ (z 1 (.string q1) rfl)
     have f1:=yK _ _ (z 1 (.string q1) rfl)
     have d2:=Lw _ _ (z 2 (.string q2) rfl)
     have f2:=yK _ _ (z 2 (.string q2) rfl)
     have d3:=Lw _ _ (z 3 (.string q3) rfl)
     have f3:=yK _ _ (z 3 (.string q3) rfl)
     have d4:=Lw _ _ (z 4 (.int .i64 q4) rfl)
     have f4:=yK _ _ (z 4 (.int .i64 q4) rfl)
     have d5:=Lw _ _ (z 5 (.int .i64 q5) rfl)
     have f5:=yK _ _ (z 5 (.int .i64 q5) rfl)
     have k0:(0:Int)≤(k:Int):=zH _
     have k1:(k:Int)<(fs.length:Int):=by omega
     rw[Nat.add_zero] at d0 f0
     clear Lw yK z cW DX hp W4
     go_wp2
     go_quiet (fail)
     go_wp2
     go_roundg (fs.length-(k+1))
     case measure=>have:=aa sZ;omega
     case rel=>exact ⟨k+1,_,by go_num,rfl,by omega,rfl⟩
    ·obtain rfl:k=fs.length:=by omega
     go_wp2_with fail
     have H4:Ln w0 _ _ _ _ _ (w4.drewN m):=(aa HT4).up (below_drewN (zE _ _) m)
     have W4:=(aa Jq).trans (H4.bl.mono (aa Jq).size)
     refine (pB ((aa Re).up W4) ((aa RS).up W4) ((aa Re').up W4) ((aa RS').up W4)).mono ?_
     rintro e w5 ⟨rfl,mE⟩
     have Ws:=ab (H4.up mE)
     have X5:=(aa Ws).x
     have Y5:=(aa Ws).y
     clear H4 W4 mE HT4 X4 Y4
     go_wp2_with fail
     have H5:=aa Ws
     refine (aa aaJ _ ((aa Jq).trans (H5.bl.mono (aa Jq).size))).mono ?_
     rintro e w6 ⟨rfl,Qa⟩
     have HB6:=ab (H5.up Qa).bl
     clear H5 Qa Ws X5 Y5
     go_wp2
     go_roundg (l.length-(i+1))
     case measure=>have:=aa gF;omega
     case rel=>exact ⟨i+1,by go_num,rfl,by omega,HB6⟩
  ·obtain rfl:i=l.length:=by omega
   go_wp2
   go_ret
   exact ⟨rfl,aa HB⟩
theorem eU.each {P:Nat→Prop}{w:World}{cs:List Value}{l:List Ms} (h:eU P w cs l):aaM w cs l:=by
 induction h with
 |nil=>intro i _ _ _ _ _ _ _ h;simp at h
 |cons hf ho hm rT he AZ hr hg _ ih1 U7 =>
  intro i nm fs os ms es rs gs h
  cases i with
  |zero =>
   cases zC h
   obtain ⟨a,c,e,_⟩:=hm.rd
   exact ⟨_,_,_,_,_,_,_,⟨⟨rfl,rfl,rfl,rfl,rfl,rfl,rfl⟩,hf.rd,ho.rd,he.rd,AZ.rd,hr.rd,hg.rd⟩,⟨a,c,e⟩,tA hm.rd ih1⟩
  |succ i =>
   obtain ⟨vf,vo,vm,ve,vr,vg,ce,h1,h2⟩:=U7 i nm fs os ms es rs gs (by simpa using h)
   exact ⟨vf,vo,vm,ve,vr,vg,ce,h1.up,h2⟩
theorem mT {P Q:Nat→Prop}{W:World}{x y:Value}{a:Fl} (h:NF a x P W) (h':NF a y Q W):Calls Tryz.prog 10 #[x,y] W (pN W):=by
 obtain ⟨vi,vm,ve,cm,ce,rfl,h1,h2,h3,h4,h5⟩:=h
 obtain ⟨vi',vm',ve',cm',ce',rfl,VG,Xx,A1,h4',h5'⟩:=h'
 have HI:=ab h1.rd
 have HI':=ab VG.rd
 have HMr:=ab h2.rd
 have adz:=ab Xx.rd
 have HM:=ab (tA h2.rd h3.each Q _ _ Xx.rd A1)
 have HEr:=ab h4.rd
 have acu:=ab h4'.rd
 have HE:=ab h5.rd
 have HE':=ab h5'.rd
 obtain ⟨ai,ci,rfl,_,_⟩:=h1.rd
 obtain ⟨ai',ci',rfl,_,_⟩:=VG.rd
 obtain ⟨am,TN,rfl,_,_⟩:=h2.rd
 obtain ⟨am',ab6,rfl,_,_⟩:=Xx.rd
 obtain ⟨ae,ce0,rfl,_,_⟩:=h4.rd
 obtain ⟨ae',ab8,rfl,_,_⟩:=h4'.rd
 have oK:=ab (xU (zE W.heap.size W) #[.string a.kH,.slice ai a.fU.length ci,.slice am a.ms.length TN,.slice ae a.es.length ce0] #[.string a.kH,.slice ai' a.fU.length ci',.slice am' a.ms.length ab6,.slice ae' a.es.length ab8] 27)
 clear h1 VG h2 Xx h3 A1 h4 h4' h5 h5'
 go_enter Tryz.func10,Tryz.ntmps10
 go_wp2_with fail
 have H0:=aa oK
 refine (jx ((aa HI).up H0.bl) ((aa HI').up H0.bl)).mono ?_
 rintro e w2 ⟨rfl,bo⟩
 have Jr:=ab (H0.up bo)
 have X2:=(aa Jr).x
 have Y2:=(aa Jr).y
 clear H0 bo oK
 go_wp2_with fail
 have H2:=aa Jr
 refine (aa HM _ H2.bl).mono ?_
 rintro e w3 ⟨rfl,qG⟩
 have CF:=ab (H2.up qG)
 have X3:=(aa CF).x
 have Y3:=(aa CF).y
 clear H2 qG Jr X2 Y2
 go_wp2_with fail
 have H3:=aa CF
 refine (pB ((aa HEr).up H3.bl) ((aa HE).up H3.bl) ((aa acu).up H3.bl) ((aa HE').up H3.bl)).mono ?_
 rintro e w4 ⟨rfl,fC⟩
 have HB4:=ab (H3.up fC).bl
 clear H3 fC CF X3 Y3
 go_wp2
 go_ret
 exact ⟨rfl,aa HB4⟩
theorem QZ (P:Nat→Prop) (W:World):NF ⟨⟨#[]⟩,[],[],[]⟩ (.agg #[.string ⟨#[]⟩,.slice none 0 0,.slice none 0 0,.slice none 0 0]) P W:=by
 have hn:∀t sz,jd P W t sz (.slice none 0 0) 0 []:=fun t sz=>⟨⟨by simp,.inl ⟨rfl,rfl⟩⟩,fun g h=>by cases h⟩
 exact ⟨_,_,_,[],[],rfl,hn _ _,hn _ _,.nil,hn _ _,.nil⟩
#print axioms mT
def KU:Except (Int×Int) (Fl×ax)→Fl
 |.error _=>⟨⟨#[]⟩,[],[],[]⟩
 |.ok (x,_)=>x
def Sp:Except (Int×Int) (Fl×ax)→Int
 |.error y=>y.1
 |.ok _=>0
def QI:Except (Int×Int) (Fl×ax)→Int
 |.error y=>y.2
 |.ok _=>0
theorem NF.up {a:Fl}{x:Value}{P:Nat→Prop}{w w':World} (h:NF a x P w) (hb:Below w.heap.size w w'):NF a x P w':=oO a x P P w w' (fun k hp hk=>⟨hp,hb.block k hk⟩) h
theorem qU {W w:World}{r:Except (Int×Int) (Fl×ax)}{e:Ending} (h:EM W r e w):∃ia il ic ma ml mc ea el ec,e=.returned (.tuple #[.agg #[.string (KU r).kH,.slice ia il ic,.slice ma ml mc,.slice ea el ec],.agg #[.int .i64 (Sp r),.int .i64 0,.int .i64 (QI r),.string ⟨#[]⟩]])∧NF (KU r) (.agg #[.string (KU r).kH,.slice ia il ic,.slice ma ml mc,.slice ea el ec]) (fun k=>W.heap.size≤k) w∧Below W.heap.size W w:=by
 match r,h with
 |.error y,h =>
  obtain ⟨rfl,hb⟩:=h
  exact ⟨_,_,_,_,_,_,_,_,_,rfl,QZ _ _,hb⟩
 |.ok (x,s),h =>
  obtain ⟨fv,rfl,hn,hb⟩:=h
  have Zq:=hn
  obtain ⟨vi,vm,ve,cm,ce,rfl,h1,h2,h3,h4,h5⟩:=Zq
  obtain ⟨a1,c1,e1,_⟩:=h1.rd
  obtain ⟨a2,c2,e2,_⟩:=h2.rd
  obtain ⟨a3,c3,e3,_⟩:=h4.rd
  subst e1 e2 e3
  exact ⟨_,_,_,_,_,_,_,_,_,rfl,hn,hb⟩
theorem qw {w:World}{g:Nat}{cs:Array Value}{t:TypeId}{fr:Nat×Nat} (h:w.heap[g]?=some (.cells cs t fr)) (j:Nat):w.cell? ⟨g,j,none⟩=cs[j]?:=cell_of_row _ _ _ _ _ _ h
theorem jm {W wr:World} (hb:Below W.heap.size W wr) (xs ys:Array Value) (t t':TypeId):Ln W wr.heap.size (wr.heap.size+1) xs ys t ((wr.alloc (.cells xs t)).alloc (.cells ys t')):=by
 have h1:=hb.size
 refine ⟨(hb.alloc h1 _).alloc (by rw[zJ];omega) _,fun j=>?_,fun j=>?_,by rw[zJ,zJ];omega,by rw[zJ,zJ];omega⟩
 ·rw[World.cell?_alloc_past _ _ _ (by rw[zJ];omega),World.cell?_alloc_at _ _ _ _ rfl]
 ·rw[World.cell?_alloc_at _ _ _ _ (by rw[zJ])]
theorem l8 (W:World) (x:ByteArray):Calls Tryz.prog 14 #[.string x] W fun e w=>e=.returned (.bool (fz x))∧w=W:=by
 go_enter Tryz.func14,Tryz.ntmps14
 go_wp2_with fail
 refine (C6 W x).mono ?_
 rintro e w1 ⟨rfl,hw⟩
 obtain rfl:W=w1:=hw.symm
 clear hw
 go_wp2
 go_ret
 exact ⟨rfl,rfl⟩
structure ZS where
 ts:List Tk
 en:Int
 dc:Nat
abbrev ZX:=Except (Int×Int) ZS
def ZC (v:Value) (at' en ct er pl:Int):Array Value:=#[v,.int .i64 at',.int .i64 en,.int .i64 ct,.int .i64 er,.int .i64 pl]
def Zd (lo:Nat) (W:World) (b:Nat) (X:ZX):Prop:=(b<lo∧lo≤W.heap.size)∧match X with
 |.ok s=>∃(v:Value) (L:List Tk) (i:Nat),W.heap[b]?=some (.cells (ZC v i s.en s.dc 0 0) 57 (0,0))∧fj W lo b v L∧L.drop i=s.ts∧i≤L.length∧L.length≤16384
 |.error y=>∃(a:Option Addr) (n c:Nat) (i en ct:Int),W.heap[b]?=some (.cells (ZC (.slice a n c) i en ct y.1 y.2) 57 (0,0))∧y.1≠0
def OH (er sp:Int):ZX→ZX
 |.ok _=>.error (er,sp)
 |.error y=>.error y
def ZP {α:Type} (lo b:Nat) (W:World) (ret:α→Value) (shape:Value→Prop) (r:Except (Int×Int) (α×ZS)) (e:Ending) (w:World):Prop:=W.grownBy w (some b)∧match r with
 |.ok (a,s')=>e=.returned (ret a)∧Zd lo w b (.ok s')
 |.error y=>(∃v,e=.returned v∧shape v)∧Zd lo w b (.error y)
theorem eA {W:World}{lo b:Nat}{X:ZX} (h:Zd lo W b X) (er sp:Int) (hz:er≠0):Calls Tryz.prog 67 #[.pointer (some ⟨b,0,none⟩),.int .i64 er,.int .i64 sp] W fun e w=>e=.returned (.tuple #[])∧W.grownBy w (some b)∧Zd lo w b (OH er sp X):=by
 obtain ⟨hl,hx⟩:=h
 match X,hx with
 |.ok s,⟨v,L,i,hb,ht,_⟩ =>
  obtain ⟨a,c,rfl,_⟩:=ht
  obtain ⟨k1,g1⟩:=aC (j:=4) hb (.int .i64 er)
  obtain ⟨k2,g2⟩:=aC (j:=5) k1 (.int .i64 sp)
  have g3:=g1.trans g2
  have cP:Hid (W.grownBy ((W.setCell ⟨b,4,none⟩ (.int .i64 er)).setCell ⟨b,5,none⟩ (.int .i64 sp)) (some b)∧Zd lo ((W.setCell ⟨b,4,none⟩ (.int .i64 er)).setCell ⟨b,5,none⟩ (.int .i64 sp)) b (.error (er,sp))):=⟨g3,⟨hl.1,Nat.le_trans hl.2 g3.size⟩,a,L.length,c,_,_,_,k2,hz⟩
  obtain ⟨⟨c0,c1,c2,c3,c4,c5⟩,hf⟩:=bG hb
  have f4:=hf 4
  have f5:=hf 5
  clear hb k1 k2 g1 g2 g3 hf hl
  go_enter Tryz.func67,Tryz.ntmps67
  go_wp2
  go_end0
  exact ⟨rfl,aa cP⟩
 |.error y,⟨a,n,c,i,en,ct,hb,hy⟩ =>
  have cP:Hid (Zd lo W b (.error y)):=⟨hl,a,n,c,i,en,ct,hb,hy⟩
  obtain ⟨⟨c0,c1,c2,c3,c4,c5⟩,hf⟩:=bG hb
  have e0:(y.1==0)=false:=beq_eq_false_iff_ne.2 hy
  clear hb hf hl
  go_enter Tryz.func67,Tryz.ntmps67
  go_wp2
  go_end0
  exact ⟨rfl,zI _ _,aa cP⟩
def ZS.here (s:ZS):Tk:=s.ts.headD ⟨5,s.en,⟨#[]⟩⟩
def PkX:ZX→Tk→Prop
 |.ok s,t=>t=s.here
 |.error _,t=>t.kind=5∧t.text=⟨#[]⟩
theorem K3 {L:List Tk}{i:Nat} (h:i<L.length) (d:Tk):∃t,L[i]?=some t∧(L.drop i).headD d=t:=by
 refine ⟨L[i],List.getElem?_eq_getElem h,?_⟩
 rw[List.drop_eq_getElem_cons h]
 rfl
def SH (W:World) (n:Nat) (t:Tk):World:=((((W.alloc (.cells #[.int .i64 0,.int .i64 0,.string ⟨#[]⟩] 38)).drewN n).setCell ⟨W.heap.size,0,none⟩ (.int .i64 t.kind)).setCell ⟨W.heap.size,1,none⟩ (.int .i64 t.spot)).setCell ⟨W.heap.size,2,none⟩ (.string t.text)
theorem L7 (W:World) (n:Nat) (t:Tk):(SH W n t).heap[W.heap.size]?=some (.cells #[.int .i64 t.kind,.int .i64 t.spot,.string t.text] 38 (0,0))∧Below W.heap.size W (SH W n t):=by
 have h0:((W.alloc (.cells #[.int .i64 0,.int .i64 0,.string ⟨#[]⟩] 38)).drewN n).heap[W.heap.size]?=some (.cells #[.int .i64 0,.int .i64 0,.string ⟨#[]⟩] 38 (0,0)):=aF _ _
 obtain ⟨k1,g1⟩:=aC (j:=0) h0 (.int .i64 t.kind)
 obtain ⟨k2,g2⟩:=aC (j:=1) k1 (.int .i64 t.spot)
 obtain ⟨k3,g3⟩:=aC (j:=2) k2 (.string t.text)
 refine ⟨k3,?_⟩
 have hb:Below W.heap.size W ((W.alloc (.cells #[.int .i64 0,.int .i64 0,.string ⟨#[]⟩] 38)).drewN n):=below_drewN ((zE _ _).alloc (zD _) _) n
 exact hb.grown ((g1.trans g2).trans g3) hb.size (fun k e=>by simp at e;omega)
theorem qW {R:Ending→World→Prop}{W:World}{n:Nat}{tm:Array Value}{t:Tk} (hp:tm.getD 2 undef=.pointer (some ⟨W.heap.size,0,none⟩)) (hR:R (.returned t.val) (SH W n t)):bodyPost Tryz.prog Tryz.f68 R .ret ⟨tm,[]⟩ (SH W n t) :=
 bodyPost_ret (results_cell_row rfl _ _ W.heap.size 38 #[.int .i64 t.kind,.int .i64 t.spot,.string t.text] (0,0) _ hp (L7 W n t).1 Tryz.underlying38 rfl lC) rfl hR
theorem kG {W:World}{lo b:Nat}{X:ZX} (h:Zd lo W b X):Calls Tryz.prog 68 #[.pointer (some ⟨b,0,none⟩)] W fun e w=>∃t,e=.returned t.val∧Below W.heap.size W w∧PkX X t:=by
 obtain ⟨hl,hx⟩:=h
 have oP:b<W.heap.size:=by omega
 match X,hx with
 |.error y,⟨a,n,c,i,en,ct,hb,hy⟩ =>
  obtain ⟨⟨c0,c1,c2,c3,c4,c5⟩,hf⟩:=bG hb
  have e0:(y.1 != 0)=true:=by simpa using hy
  obtain ⟨q,hq⟩:∃q,decide ((n:Int)≤i)=q:=⟨_,rfl⟩
  clear hb hf hl
  cases q
  ·go_enter Tryz.func68,Tryz.ntmps68
   go_wp2
   go_quiet (fail)
   go_wp2
   exact qW (t:=⟨5,en,⟨#[]⟩⟩) rfl ⟨_,rfl,(L7 _ _ _).2,rfl,rfl⟩
  ·go_enter Tryz.func68,Tryz.ntmps68
   go_wp2
   go_quiet (fail)
   go_wp2
   exact qW (t:=⟨5,en,⟨#[]⟩⟩) rfl ⟨_,rfl,(L7 _ _ _).2,rfl,rfl⟩
 |.ok s,⟨v,L,i,hb,ht,hd,hi,hL⟩ =>
  obtain ⟨a,c,rfl,hc,hm,h3⟩:=ht
  obtain ⟨⟨c0,c1,c2,c3,c4,c5⟩,hf⟩:=bG hb
  have Hd:=ab hd
  clear hb hf hd
  by_cases dr:i<L.length
  ·have hq:decide ((L.length:Int)≤(i:Int))=false:=by simp;omega
   obtain ⟨g,off,rfl,hg,eb,hx⟩:=h3 (by omega)
   obtain ⟨t,ht,hh⟩:=K3 dr ⟨5,s.en,⟨#[]⟩⟩
   obtain ⟨x1,x2,x3⟩:=hx i t ht
   have i0:(0:Int)≤(i:Int):=zH _
   have i1:(i:Int)<(L.length:Int):=by omega
   have IJ:g<W.heap.size:=by omega
   have Hh:=ab hh
   clear hx ht hh h3 hm hL
   go_enter Tryz.func68,Tryz.ntmps68
   go_wp2
   go_quiet (fail)
   go_wp2
   go_region
   go_wp2
   refine qW (t:=t) rfl ⟨_,rfl,(L7 _ _ _).2,?_⟩
   show t=s.here
   unfold ZS.here
   rw[←aa Hd]
   exact (aa Hh).symm
  ·have hq:decide ((L.length:Int)≤(i:Int))=true:=by simp;omega
   go_enter Tryz.func68,Tryz.ntmps68
   go_wp2
   go_quiet (fail)
   go_wp2
   refine qW (t:=⟨5,s.en,⟨#[]⟩⟩) rfl ⟨_,rfl,(L7 _ _ _).2,?_⟩
   show _=s.here
   unfold ZS.here
   rw[←aa Hd,List.drop_eq_nil_of_le (by omega)]
   rfl
theorem wX {W:World}{lo b:Nat}{X:ZX} (h:Zd lo W b X) (k:Int) (x:ByteArray):Calls Tryz.prog 36 #[.pointer (some ⟨b,0,none⟩),.int .i64 k,.string x] W fun e w=>∃t:Tk,e=.returned (.bool (aH t k x))∧Below W.heap.size W w∧PkX X t:=by
 go_enter Tryz.func36,Tryz.ntmps36
 go_wp2_with fail
 refine (kG h).mono ?_
 rintro e w1 ⟨⟨kd,sp,tx⟩,rfl,hb,hp⟩
 have HP:=ab hp
 have HB:=ab (hb.alloc hb.size (.cells #[.int .i64 kd,.int .i64 sp,.string tx] 38))
 unfold Tk.val
 clear hp hb h
 by_cases h1:kd=k
 ·obtain rfl:=h1
  go_wp2
  go_ret
  exact ⟨⟨kd,sp,tx⟩,by simp[aH],aa HB,aa HP⟩
 ·have e1:(kd==k)=false:=by simpa using h1
  go_wp2
  go_ret
  exact ⟨⟨kd,sp,tx⟩,by simp[aH,h1],aa HB,aa HP⟩
theorem Zd.up {lo b:Nat}{W w:World}{X:ZX} (h:Zd lo W b X) (hb:Below W.heap.size W w):Zd lo w b X:=by
 obtain ⟨hl,hx⟩:=h
 refine ⟨⟨hl.1,Nat.le_trans hl.2 hb.size⟩,?_⟩
 match X,hx with
 |.ok s,⟨v,L,i,h1,h2,h3⟩=>exact ⟨v,L,i,(hb.block b (by omega)).trans h1,h2.up (hb.mono hl.2),h3⟩
 |.error y,⟨a,n,c,i,en,ct,h1,h2⟩=>exact ⟨a,n,c,i,en,ct,(hb.block b (by omega)).trans h1,h2⟩
def jZ (s:ZS):Int×Int:=(if s.here.kind=5 then 51 else 50,s.here.spot)
def pQ:ZX→ZX
 |.ok s=>.error (jZ s)
 |.error y=>.error y
def Zn (lo b:Nat) (W:World) (X:ZX) (e:Ending) (w:World):Prop:=e=.returned (.tuple #[])∧W.grownBy w (some b)∧Zd lo w b X
theorem b9 {W V w:World}{b:Nat} (h:Below W.heap.size W V) (k:V.grownBy w (some b)):W.grownBy w (some b):=⟨k.os.trans h.os,k.tape.trans h.tape,k.output.trans h.output,Nat.le_trans h.size k.size,fun q h1 h2=>(k.block q (Nat.lt_of_lt_of_le h1 h.size) h2).trans (h.block q h1)⟩
theorem mM {W:World}{lo b:Nat}{X:ZX} (h:Zd lo W b X):Calls Tryz.prog 42 #[.pointer (some ⟨b,0,none⟩)] W (Zn lo b W (pQ X)):=by
 have H:=ab h
 go_enter Tryz.func42,Tryz.ntmps42
 go_wp2_with fail
 refine (kG h).mono ?_
 rintro e w1 ⟨⟨kd,sp,tx⟩,rfl,hb,hp⟩
 have bo:=hb.alloc hb.size (.cells #[.int .i64 kd,.int .i64 sp,.string tx] 38)
 have HB:=ab bo
 have HZ:=ab ((aa H).up bo)
 have HP:=ab hp
 have HS:=ab hb.size
 unfold Tk.val
 clear hp hb h bo
 by_cases h1:kd=5
 ·obtain rfl:=h1
  go_wp2_with fail
  refine (eA (aa HZ) 51 sp (by decide)).mono ?_
  rintro e w2 ⟨rfl,lv,jg⟩
  have c1:w2.cell? ⟨w1.heap.size,1,none⟩=some (.int .i64 sp):=by
   have dr:w1.heap.size<(w1.alloc (.cells #[.int .i64 5,.int .i64 sp,.string tx] 38)).heap.size:=by rw[zJ];omega
   have eb:w1.heap.size≠b:=by have:=(aa H).1;have:=aa HS;omega
   rw[World.cell?_of_block (a:=⟨w1.heap.size,1,none⟩) (lv.block w1.heap.size dr (by simpa using eb))]
   rw[World.cell?_alloc_at _ _ _ _ rfl]
   rfl
  have HG:=ab (b9 (aa HB) lv)
  have CO:=ab jg
  clear lv jg
  go_wp2_with fail
  refine (eA (aa CO) 50 sp (by decide)).mono ?_
  rintro e w3 ⟨rfl,cO,qD⟩
  have cP:Hid (Zn lo b W (pQ X) (.returned (.tuple #[])) w3):=by
   refine ⟨rfl,(aa HG).trans cO,?_⟩
   match X,aa HP,qD with
   |.ok s,hp,qD =>
    have e1:s.here=⟨5,sp,tx⟩:=hp.symm
    show Zd lo w3 b (.error (jZ s))
    unfold jZ
    rw[e1]
    exact qD
   |.error y,_,qD=>exact qD
  clear cO qD HG CO HZ HP HB H c1
  go_wp2
  go_end0
  exact aa cP
 ·have e1:(kd==5)=false:=by simpa using h1
  have H1:=ab h1
  clear h1
  go_wp2_with fail
  refine (eA (aa HZ) 50 sp (by decide)).mono ?_
  rintro e w3 ⟨rfl,cO,qD⟩
  have cP:Hid (Zn lo b W (pQ X) (.returned (.tuple #[])) w3):=by
   refine ⟨rfl,b9 (aa HB) cO,?_⟩
   match X,aa HP,qD with
   |.ok s,hp,qD =>
    have e1:s.here=⟨kd,sp,tx⟩:=hp.symm
    show Zd lo w3 b (.error (jZ s))
    unfold jZ
    rw[e1,if_neg (aa H1)]
    exact qD
   |.error y,hp,qD=>exact absurd hp.1 (aa H1)
  clear cO qD HZ HP HB H e1 H1
  go_wp2
  go_end0
  exact aa cP
def ZS.XK (s:ZS):ZS:={ s with ts:=s.ts.tail }
def nZ (k:Int) (x:ByteArray):ZX→ZX
 |.ok s=>if aH s.here k x=true then .ok s.XK else .error (jZ s)
 |.error y=>.error y
theorem Zd.next {lo b:Nat}{W:World}{X:ZX} (h:Zd lo W b X) (hp:∀s,X=.ok s→0<s.ts.length):∃i:Int,W.cell? ⟨b,1,none⟩=some (.int .i64 i)∧W.frozen? ⟨b,1,none⟩=false∧(∀z,(∀s,X=.ok s→z=i+1)→W.grownBy (W.setCell ⟨b,1,none⟩ (.int .i64 z)) (some b)∧Zd lo (W.setCell ⟨b,1,none⟩ (.int .i64 z)) b (X.map ZS.XK))∧(∀s,X=.ok s→0≤i∧i≤16384):=by
 obtain ⟨hl,hx⟩:=h
 match X,hx with
 |.ok s,⟨v,L,i,h1,h2,h3,h4,h5⟩ =>
  obtain ⟨⟨c0,c1,c2,c3,c4,c5⟩,hf⟩:=bG h1
  refine ⟨i,c1,hf 1,fun z hz=>?_,fun _ _=>⟨by omega,by omega⟩⟩
  obtain rfl:=hz s rfl
  obtain ⟨k1,g1⟩:=aC (j:=1) h1 (.int .i64 ((i:Int)+1))
  refine ⟨g1,⟨hl.1,Nat.le_trans hl.2 g1.size⟩,v,L,i+1,k1,h2.gA hl.2 g1,?_,?_,h5⟩
  ·show L.drop (i+1)=s.ts.tail
   rw[←h3,List.tail_drop]
  ·have:=hp s rfl
   rw[←h3,List.length_drop] at this
   omega
 |.error y,⟨a,n,c,i,en,ct,h1,h2⟩ =>
  obtain ⟨⟨c0,c1,c2,c3,c4,c5⟩,hf⟩:=bG h1
  refine ⟨i,c1,hf 1,fun z _=>?_,fun s e=>by cases e⟩
  obtain ⟨k1,g1⟩:=aC (j:=1) h1 (.int .i64 z)
  exact ⟨g1,⟨hl.1,Nat.le_trans hl.2 g1.size⟩,a,n,c,z,en,ct,k1,h2⟩
theorem DC {s:ZS}{k:Int}{x:ByteArray} (h:aH s.here k x=true) (hk:k≠5):0<s.ts.length:=by
 unfold aH ZS.here at h
 cases hl:s.ts with
 |nil =>
  rw[hl] at h
  simp only[List.headD_nil,Bool.and_eq_true,beq_iff_eq] at h
  exact absurd h.1.symm hk
 |cons a r=>simp
end Go.Proofs.YtjophoclfccmcaaGreatDoor

import Derived.Test.YtmlphohdcejniaaGreatDoorUC
set_option maxHeartbeats 4000000
set_option maxRecDepth 100000
namespace Go.Proofs.YtmlphohdcejniaaGreatDoor
open Go.RowKit
attribute [local go_sem ↓] Go.wp_at_zero Go.wp_at_succ
theorem lJ {P Q:Nat→Prop}{W:World}{x y:Value}{a:Fl} (h:NF a x P W) (h':NF a y Q W):Calls Tryz.prog 9 #[x,y] W (rH W):=by
 obtain ⟨vi,vm,ve,cm,ce,rfl,h1,h2,h3,h4,h5⟩:=h
 obtain ⟨vi',YT,ve',PJ,QR,rfl,h1',ZA,A3,h4',h5'⟩:=h'
 have HI:=aj h1.rd
 have HI':=aj h1'.rd
 have HMr:=aj h2.rd
 have abG:=aj ZA.rd
 have HM:=aj (rb h2.rd h3.each Q _ _ ZA.rd A3)
 have Yv:=aj h4.rd
 have aa8:=aj h4'.rd
 have HE:=aj h5.rd
 have Yy:=aj h5'.rd
 obtain ⟨ai,ci,rfl,_,_⟩:=h1.rd
 obtain ⟨ai',ci',rfl,_,_⟩:=h1'.rd
 obtain ⟨am,AF,rfl,_,_⟩:=h2.rd
 obtain ⟨am',aaR,rfl,_,_⟩:=ZA.rd
 obtain ⟨ae,yY,rfl,_,_⟩:=h4.rd
 obtain ⟨ae',aaT,rfl,_,_⟩:=h4'.rd
 have xv:=aj (uS (zE W.heap.size W) #[.string a.fW,.slice ai a.cy.length ci,.slice am a.ms.length AF,.slice ae a.es.length yY] #[.string a.fW,.slice ai' a.cy.length ci',.slice am' a.ms.length aaR,.slice ae' a.es.length aaT] 26)
 clear h1 h1' h2 ZA h3 A3 h4 h4' h5 h5'
 go_enter Tryz.func9,Tryz.ntmps9
 go_wp2_with fail
 have H0:=aa xv
 refine (iy ((aa HI).up H0.bl) ((aa HI').up H0.bl)).mono ?_
 rintro e w2 ⟨rfl,bH⟩
 have Dr:=aj (H0.up bH)
 have X2:=(aa Dr).x
 have Y2:=(aa Dr).y
 clear H0 bH xv
 go_wp2_with fail
 have H2:=aa Dr
 refine (aa HM _ H2.bl).mono ?_
 rintro e w3 ⟨rfl,mC⟩
 have AV:=aj (H2.up mC)
 have X3:=(aa AV).x
 have Y3:=(aa AV).y
 clear H2 mC Dr X2 Y2
 go_wp2_with fail
 have H3:=aa AV
 refine (nP ((aa Yv).up H3.bl) ((aa HE).up H3.bl) ((aa aa8).up H3.bl) ((aa Yy).up H3.bl)).mono ?_
 rintro e w4 ⟨rfl,eR⟩
 have Jw:=aj (H3.up eR).bl
 clear H3 eR AV X3 Y3
 go_wp2
 go_ret
 exact ⟨rfl,aa Jw⟩
theorem OE (P:Nat→Prop) (W:World):NF ⟨⟨#[]⟩,[],[],[]⟩ (.agg #[.string ⟨#[]⟩,.slice none 0 0,.slice none 0 0,.slice none 0 0]) P W:=by
 have hn:∀t sz,eQ P W t sz (.slice none 0 0) 0 []:=fun t sz=>⟨⟨by simp,.inl ⟨rfl,rfl⟩⟩,fun g h=>by cases h⟩
 exact ⟨_,_,_,[],[],rfl,hn _ _,hn _ _,.nil,hn _ _,.nil⟩
#print axioms lJ
def Ez:Except (Int×Int) (Fl×aI)→Fl
 |.error _=>⟨⟨#[]⟩,[],[],[]⟩
 |.ok (x,_)=>x
def Mj:Except (Int×Int) (Fl×aI)→Int
 |.error y=>y.1
 |.ok _=>0
def Kd:Except (Int×Int) (Fl×aI)→Int
 |.error y=>y.2
 |.ok _=>0
theorem NF.up {a:Fl}{x:Value}{P:Nat→Prop}{w w':World} (h:NF a x P w) (hb:Below w.heap.size w w'):NF a x P w':=qn a x P P w w' (fun k hp hk=>⟨hp,hb.block k hk⟩) h
theorem vj {W w:World}{r:Except (Int×Int) (Fl×aI)}{e:Ending} (h:QV W r e w):∃ia il ic ma ml mc ea el ec,e=.returned (.tuple #[.agg #[.string (Ez r).fW,.slice ia il ic,.slice ma ml mc,.slice ea el ec],.agg #[.int .i64 (Mj r),.int .i64 0,.int .i64 (Kd r),.string ⟨#[]⟩]])∧NF (Ez r) (.agg #[.string (Ez r).fW,.slice ia il ic,.slice ma ml mc,.slice ea el ec]) (fun k=>W.heap.size≤k) w∧Below W.heap.size W w:=by
 match r,h with
 |.error y,h =>
  obtain ⟨rfl,hb⟩:=h
  exact ⟨_,_,_,_,_,_,_,_,_,rfl,OE _ _,hb⟩
 |.ok (x,s),h =>
  obtain ⟨fv,rfl,hn,hb⟩:=h
  have SE:=hn
  obtain ⟨vi,vm,ve,cm,ce,rfl,h1,h2,h3,h4,h5⟩:=SE
  obtain ⟨a1,c1,e1,_⟩:=h1.rd
  obtain ⟨a2,c2,e2,_⟩:=h2.rd
  obtain ⟨a3,c3,e3,_⟩:=h4.rd
  subst e1 e2 e3
  exact ⟨_,_,_,_,_,_,_,_,_,rfl,hn,hb⟩
theorem oI {w:World}{g:Nat}{cs:Array Value}{t:TypeId}{fr:Nat×Nat} (h:w.heap[g]?=some (.cells cs t fr)) (j:Nat):w.cell? ⟨g,j,none⟩=cs[j]?:=cell_of_row _ _ _ _ _ _ h
theorem kU {W wr:World} (hb:Below W.heap.size W wr) (xs ys:Array Value) (t t':TypeId):Jc W wr.heap.size (wr.heap.size+1) xs ys t ((wr.alloc (.cells xs t)).alloc (.cells ys t')):=by
 have h1:=hb.size
 refine ⟨(hb.alloc h1 _).alloc (by rw[zJ];omega) _,fun j=>?_,fun j=>?_,by rw[zJ,zJ];omega,by rw[zJ,zJ];omega⟩
 ·rw[World.cell?_alloc_past _ _ _ (by rw[zJ];omega),World.cell?_alloc_at _ _ _ _ rfl]
 ·rw[World.cell?_alloc_at _ _ _ _ (by rw[zJ])]
end Go.Proofs.YtmlphohdcejniaaGreatDoor
namespace Go.Proofs.YtmlphohdcejniaaGreatDoor
open Go.RowKit
def Y1:ByteArray:=⟨#[115,121,110,116,97,120,32,61,32,34,112,114,111,116,111,51,34,59,32,112,97,99,107,97,103,101,32,97,46,98,59,32,105,109,112,111,114,116,32,34,120,46,112,114,111,116,111,34,59,32,109,101,115,115,97,103,101,32,77,32,123,32,105,110,116,51,50,32,97,32,61,32,49,59,32,125]⟩
def Y0:ByteArray:=⟨#[115,121,110,116,97,120,32,61,32,34,112,114,111,116,111,51,34,59,32,115,101,114,118,105,99,101,32,83,32,123,125]⟩
def YZ:Fl:=⟨⟨#[97,46,98]⟩,[⟨#[120,46,112,114,111,116,111]⟩],[.mk ⟨#[77]⟩ [⟨1,⟨#[]⟩,⟨#[105,110,116,51,50]⟩,⟨#[97]⟩,1,0⟩] [] [] [] [] []],[]⟩
theorem Sc:Mj (gV Y0)=52:=by kernel_rfl
theorem Sb:Kd (gV Y0)=19:=by kernel_rfl
theorem Se:Mj (gV Y1)=0:=by kernel_rfl
theorem Sd:Kd (gV Y1)=0:=by kernel_rfl
theorem K9:Ez (gV Y1)=YZ:=by kernel_rfl
end Go.Proofs.YtmlphohdcejniaaGreatDoor
namespace Go.Proofs.YtmlphohdcejniaaGreatDoor
open Go.RowKit
attribute [local go_sem ↓] Go.wp_at_zero Go.wp_at_succ
theorem TL (w:World) (a b c d e f:Obj):Below w.heap.size w ((((((w.alloc a).alloc b).alloc c).alloc d).alloc e).alloc f)∧((((((w.alloc a).alloc b).alloc c).alloc d).alloc e).alloc f).heap.size=w.heap.size+6 ∧
  (((((w.alloc a).alloc b).alloc c).alloc d).alloc e |>.alloc f).heap[w.heap.size]?=some a∧(((((w.alloc a).alloc b).alloc c).alloc d).alloc e |>.alloc f).heap[w.heap.size+1]?=some b∧(((((w.alloc a).alloc b).alloc c).alloc d).alloc e |>.alloc f).heap[w.heap.size+1+1]?=some c∧(((((w.alloc a).alloc b).alloc c).alloc d).alloc e |>.alloc f).heap[w.heap.size+1+1+1]?=some d∧(((((w.alloc a).alloc b).alloc c).alloc d).alloc e |>.alloc f).heap[w.heap.size+1+1+1+1]?=some e∧(((((w.alloc a).alloc b).alloc c).alloc d).alloc e |>.alloc f).heap[w.heap.size+1+1+1+1+1]?=some f:=by
 have hs:∀(x:World) (o:Obj),(x.alloc o).heap.size=x.heap.size+1:=fun x o=>zJ _ _
 have hn:∀(x:World) (o:Obj) (k:Nat),k=x.heap.size→(x.alloc o).heap[k]?=some o:=fun x o k h=>by rw[h];exact aC x o
 have ho:∀(x:World) (o:Obj) (k:Nat),k<x.heap.size→(x.alloc o).heap[k]?=x.heap[k]?:=fun x o k h=>Below.heap_alloc x o k h
 refine ⟨⟨rfl,rfl,rfl,?_,fun k hk=>?_⟩,?_,?_,?_,?_,?_,?_,?_⟩
 ·simp only[hs];omega
 ·rw[ho _ _ _ (by simp only[hs];omega),ho _ _ _ (by simp only[hs];omega),ho _ _ _ (by simp only[hs];omega),ho _ _ _ (by simp only[hs];omega),ho _ _ _ (by simp only[hs];omega),ho _ _ _ hk]
 ·simp only[hs]
 ·rw[ho _ _ _ (by simp only[hs];omega),ho _ _ _ (by simp only[hs];omega),ho _ _ _ (by simp only[hs];omega),ho _ _ _ (by simp only[hs];omega),ho _ _ _ (by simp only[hs];omega),hn _ _ _ rfl]
 ·rw[ho _ _ _ (by simp only[hs];omega),ho _ _ _ (by simp only[hs];omega),ho _ _ _ (by simp only[hs];omega),ho _ _ _ (by simp only[hs];omega),hn _ _ _ (by simp only[hs])]
 ·rw[ho _ _ _ (by simp only[hs];omega),ho _ _ _ (by simp only[hs];omega),ho _ _ _ (by simp only[hs];omega),hn _ _ _ (by simp only[hs])]
 ·rw[ho _ _ _ (by simp only[hs];omega),ho _ _ _ (by simp only[hs];omega),hn _ _ _ (by simp only[hs])]
 ·rw[ho _ _ _ (by simp only[hs];omega),hn _ _ _ (by simp only[hs])]
 ·rw[hn _ _ _ (by simp only[hs])]
theorem row_one {w:World}{g t sz:Nat}{cs:Array Value} (h:w.heap[g]?=some (.cells cs t (0,0))) (hz:cs.size=1*sz):eQ (fun _=>True) w t sz (.slice (some ⟨g,0,none⟩) 1 1) 1 cs.toList :=
 ⟨⟨by rw[Array.length_toList];exact hz,.inr ⟨g,1,cs,rfl,Nat.zero_le _,h,zD _,by decide,hz,by rw[←hz,←Array.length_toList,List.take_length]⟩⟩,fun _ _=>trivial⟩
theorem OL {A:World}{g1 g2 g3:Nat} (h2:A.heap[g1]?=some (.cells #[.string ⟨#[120,46,112,114,111,116,111]⟩] 9 (0,0))) (h3:A.heap[g2]?=some (.cells #[.int .i64 1,.string ⟨#[]⟩,.string ⟨#[105,110,116,51,50]⟩,.string ⟨#[97]⟩,.int .i64 1,.int .i64 0] 70 (0,0)))
  (h4:A.heap[g3]?=some (.cells #[.string ⟨#[77]⟩,.slice (some ⟨g2,0,none⟩) 1 1,.slice none 0 0,.slice none 0 0,.slice none 0 0,.slice none 0 0,.slice none 0 0] 64 (0,0))) :
  NF YZ (.agg #[.string ⟨#[97,46,98]⟩,.slice (some ⟨g1,0,none⟩) 1 1,.slice (some ⟨g3,0,none⟩) 1 1,.slice none 0 0]) (fun _=>True) A:=by
 have hn:∀t sz,eQ (fun _=>True) A t sz (.slice none 0 0) 0 []:=fun t sz=>⟨⟨by simp,.inl ⟨rfl,rfl⟩⟩,fun g h=>by cases h⟩
 exact ⟨_,_,_,_,[],rfl,row_one h2 rfl,row_one h4 rfl,.cons (row_one h3 rfl) (hn _ _) (hn _ _) .nil (hn _ _) .nil (hn _ _) (hn _ _) .nil,hn _ _,.nil⟩
theorem Io {W:World} (hF:mA W) (hE:fZ W) (hM:gD W):Calls Tryz.prog 7 #[] W (rH W):=by
 have HF:=aj hF
 have HE:=aj hE
 have HM:=aj hM
 clear hF hE hM
 go_enter Tryz.func7,Tryz.ntmps7
 go_wp2_with fail
 refine (qq (aa HF) (aa HE) (aa HM) Y1).mono ?_
 intro e w1 hr
 obtain ⟨ia,il,ic,ma,ml,mc,ea,el,ec,rfl,hn,bC⟩:=vj hr
 rw[K9] at hn
 rw[K9,Se,Sd]
 have HN:=aj hn
 have mB:=aj bC
 clear hr hn bC
 go_wp2_with fail
 obtain ⟨hA,hs,q0,q1,q2,q3,q4,q5⟩:=TL w1 (.cells #[.string YZ.fW,.slice ia il ic,.slice ma ml mc,.slice ea el ec] 26) (.cells #[.int .i64 0,.int .i64 0,.int .i64 0,.string ⟨#[]⟩] 33) (.cells #[.string ⟨#[120,46,112,114,111,116,111]⟩] 9) (.cells #[.int .i64 1,.string ⟨#[]⟩,.string ⟨#[105,110,116,51,50]⟩,.string ⟨#[97]⟩,.int .i64 1,.int .i64 0] 70)
  (.cells #[.string ⟨#[77]⟩,.slice (some ⟨w1.heap.size+1+1+1,0,none⟩) 1 1,.slice none 0 0,.slice none 0 0,.slice none 0 0,.slice none 0 0,.slice none 0 0] 64) (.cells #[.string ⟨#[97,46,98]⟩,.slice (some ⟨w1.heap.size+1+1,0,none⟩) 1 1,.slice (some ⟨w1.heap.size+1+1+1+1,0,none⟩) 1 1,.slice none 0 0] 26)
 have UM:=(aa mB).trans (hA.mono (aa mB).size)
 refine (qq ((aa HF).up UM) ((aa HE).up UM) ((aa HM).up UM (aa HM).1) Y0).mono ?_
 intro e w2 hr
 obtain ⟨Uv,Ut,Uu,Ur,Uo,Uq,UU,US,UT,rfl,-,bH⟩:=vj hr
 rw[Sc,Sb]
 obtain ⟨pk,FQ⟩:∃pk,(Ez (gV Y0)).fW=pk:=⟨_,rfl⟩
 rw[FQ]
 have bR:=bH.size
 rw[hs] at bR
 have q0':=(bH.block _ (by rw[hs];omega)).trans q0
 have q1':=(bH.block _ (by rw[hs];omega)).trans q1
 have q5':=(bH.block _ (by rw[hs];omega)).trans q5
 have dT:=UM.trans (bH.mono UM.size)
 have Wv:=((aa HN).up hA).up bH
 have V4:=(OL q2 q3 q4).up bH
 have Yl:=aj Wv
 have X9:=aj V4
 have iU:=aj dT
 have X0:∀o o' j,((w2.alloc o).alloc o').cell? ⟨w1.heap.size,j,none⟩=(#[.string YZ.fW,.slice ia il ic,.slice ma ml mc,.slice ea el ec]:Array Value)[j]?:=fun o o' j=>(World.cell?_alloc_lt _ _ _ (by rw[zJ];show w1.heap.size<_;omega)).trans ((World.cell?_alloc_lt _ _ _ (by show w1.heap.size<_;omega)).trans (oI q0' j))
 have X1:∀o o' j,((w2.alloc o).alloc o').cell? ⟨w1.heap.size+1,j,none⟩=(#[.int .i64 0,.int .i64 0,.int .i64 0,.string ⟨#[]⟩]:Array Value)[j]?:=fun o o' j=>(World.cell?_alloc_lt _ _ _ (by rw[zJ];show w1.heap.size+1<_;omega)).trans ((World.cell?_alloc_lt _ _ _ (by show w1.heap.size+1<_;omega)).trans (oI q1' j))
 have X5:∀o o' j,((w2.alloc o).alloc o').cell? ⟨w1.heap.size+1+1+1+1+1,j,none⟩=(#[.string ⟨#[97,46,98]⟩,.slice (some ⟨w1.heap.size+1+1,0,none⟩) 1 1,.slice (some ⟨w1.heap.size+1+1+1+1,0,none⟩) 1 1,.slice none 0 0]:Array Value)[j]?:=fun o o' j=>(World.cell?_alloc_lt _ _ _ (by rw[zJ];show w1.heap.size+1+1+1+1+1<_;omega)).trans ((World.cell?_alloc_lt _ _ _ (by show w1.heap.size+1+1+1+1+1<_;omega)).trans (oI q5' j))
 have xv:=aj (kU (aa iU) #[.string pk,.slice Uv Ut Uu,.slice Ur Uo Uq,.slice UU US UT] #[.int .i64 52,.int .i64 0,.int .i64 19,.string ⟨#[]⟩] 26 33)
 clear hr bH FQ q0 q1 q2 q3 q4 q5 q0' q1' q5' dT Wv V4 bR hs hA UM HN mB
 go_wp2_with fail
 have H0:=aa xv
 have hbZ:=(kU (zE w2.heap.size w2) #[.string pk,.slice Uv Ut Uu,.slice Ur Uo Uq,.slice UU US UT] #[.int .i64 52,.int .i64 0,.int .i64 19,.string ⟨#[]⟩] 26 33).bl
 refine (lJ ((aa Yl).up hbZ) ((aa X9).up hbZ)).mono ?_
 rintro e w3 ⟨rfl,mC⟩
 have AV:=aj (H0.up mC)
 have X3:=(aa AV).x
 have Y3:=(aa AV).y
 clear H0 hbZ mC xv X0 X1 X5 Yl X9 iU
 go_wp2
 go_ret
 exact ⟨rfl,(aa AV).bl⟩
theorem FD (w:World) (xs:Array Value) (t:TypeId):Below w.heap.size w (w.alloc (.cells xs t))∧(w.alloc (.cells xs t)).heap[w.heap.size]?=some (.cells xs t (0,0))∧w.heap.size<(w.alloc (.cells xs t)).heap.size:=⟨(zE _ _).alloc (zD _) _,aC _ _,by rw[zJ];omega⟩
theorem I' {W:World} (hF:mA W) (hE:fZ W) (hM:gD W) (hP:nI W) {F:Fl}{v vi vm ve vs:Value}{cm ce:List Value} (hL:Rh W v F vi vm ve cm ce) (hz:Nn F) (hs:EY W.heap.size W vs):Calls Tryz.prog 3 #[v,vs] W fun e W'=>e=.returned (.bool true)∧Below W.heap.size W W':=by
 obtain ⟨h1,k1,l1⟩:=FD W #[.string F.fW,vi,vm,ve] 26
 have HW:=aj (A9 (hM.up h1 hM.1) (hP.up h1) (hL.up h1) hz ((hs.up h1).JB (by omega)))
 have E8:=aj (And.intro hF (And.intro hE hM))
 obtain ⟨rfl,hi,hm,-,he,-⟩:=hL
 obtain ⟨Ja,IU,rfl,-,-⟩:=hi
 obtain ⟨Dl,AF,rfl,-,-⟩:=hm
 obtain ⟨CX,yY,rfl,-,-⟩:=he
 obtain ⟨sa,sn,sc,rfl,-,-⟩:=hs
 obtain ⟨W1,Dh⟩:∃x,W.alloc (.cells #[.string F.fW,.slice Ja F.cy.length IU,.slice Dl F.ms.length AF,.slice CX F.es.length yY] 26)=x:=⟨_,rfl⟩
 rw[Dh] at HW h1 k1
 have H1:=aj h1
 obtain ⟨c0,c1,c2,c3⟩:=eu k1
 clear h1 k1 l1 hF hE hM hP hz
 go_enter Tryz.func3,Tryz.ntmps3
 go_wp2_with fail
 refine (aa HW).mono ?_
 rintro e w1 ⟨G,gi,gm,ge,B,ps,c,ws,rfl,hn,kj,Xk,yB,hB,bC⟩
 have Dv:=aj (I9 kj Xk yB hB)
 obtain ⟨xi,xm,xe,xcm,xce,hx,r1,r2,r3,r4,r5⟩:=id hn
 obtain ⟨ia,ic,e1,-,-⟩:=r1.rd
 obtain ⟨ma,mc,e2,-,-⟩:=r2.rd
 obtain ⟨ea,ec,e3,-,-⟩:=r4.rd
 subst e1 e2 e3
 simp only[Value.agg.injEq,Array.mk.injEq,List.cons.injEq,true_and,and_true] at hx
 obtain ⟨rfl,rfl,rfl⟩:=hx
 have FZ:=(aa H1).trans (bC.mono (aa H1).size)
 obtain ⟨h2,k2,l2⟩:=FD w1 #[.string G.fW,.slice ia G.cy.length ic,.slice ma G.ms.length mc,.slice ea G.es.length ec] 26
 obtain ⟨W2,El⟩:∃x,w1.alloc (.cells #[.string G.fW,.slice ia G.cy.length ic,.slice ma G.ms.length mc,.slice ea G.es.length ec] 26)=x:=⟨_,rfl⟩
 rw[El] at h2 k2 l2
 have FY:=FZ.trans (h2.mono FZ.size)
 have Yl:=aj (hn.up h2)
 have HK:=aj (Io ((aa E8).1.up FY) ((aa E8).2.1.up FY) ((aa E8).2.2.up FY (aa E8).2.2.1))
 have iU:=aj FY
 have U':=aj (And.intro k2 l2)
 obtain ⟨fits,dR⟩:∃f,(decide (c≤4096)&&decide (ps.length<16384)&&decide (B.size≤65536))=f:=⟨_,rfl⟩
 have Qd:=aj dR
 rw[dR]
 clear hn kj Xk yB hB bC r1 r2 r3 r4 r5 FZ h2 k2 l2 FY HW H1 c0 c1 c2 c3 dR Dh
 go_wp2_with fail
 refine (aa HK).mono ?_
 rintro e w3 ⟨rfl,mC⟩
 have LS:=(aa iU).trans (mC.mono (aa iU).size)
 have HN3:=aj ((aa Yl).up mC)
 have Ds:=aj (And.intro ((mC.block _ (aa U').2).trans (aa U').1) (Nat.lt_of_lt_of_le (aa U').2 mC.size))
 have HPa:=aj (qq ((aa E8).1.up LS) ((aa E8).2.1.up LS) ((aa E8).2.2.up LS (aa E8).2.2.1) B)
 have Ji:=aj LS
 clear mC LS HK iU Yl U' El
 go_wp2_with fail
 refine (aa HPa).mono ?_
 intro e w4 hr
 obtain ⟨Uv,Ut,Uu,Ur,Uo,Uq,UU,US,UT,rfl,SE,eR⟩:=vj hr
 have Zz:=(aa Ji).trans (eR.mono (aa Ji).size)
 have U7:=aj ((aa HN3).up eR)
 have Nh:=aj (And.intro ((eR.block _ (aa Ds).2).trans (aa Ds).1) (Nat.lt_of_lt_of_le (aa Ds).2 eR.size))
 cases fits with
 |false =>
  obtain ⟨er,p,SA,her⟩:=(aa Dv).2 (fun q=>by
   have:=aa Qd
   simp only[Bool.and_eq_false_iff,decide_eq_false_iff_not] at this
   omega)
  rw[SA]
  have Jw:=aj Zz
  simp only[Ez,Mj,Kd]
  clear hr SE eR Zz HPa HN3 Ds Ji U7 Nh SA Dv
  have gK:=aj (kU (aa Jw) #[.string (⟨#[]⟩:ByteArray),.slice Uv Ut Uu,.slice Ur Uo Uq,.slice UU US UT] #[.int .i64 er,.int .i64 0,.int .i64 p,.string ⟨#[]⟩] 26 33).bl
  rcases her with rfl|rfl|rfl
  ·go_wp2
   go_ret
   exact ⟨rfl,aa gK⟩
  ·go_wp2
   go_ret
   exact ⟨rfl,aa gK⟩
  ·go_wp2
   go_ret
   exact ⟨rfl,aa gK⟩
 |true =>
  obtain ⟨s,kj⟩:=(aa Dv).1 (by
   have:=aa Qd
   simp only[Bool.and_eq_true,decide_eq_true_eq] at this
   omega) (by
   have:=aa Qd
   simp only[Bool.and_eq_true,decide_eq_true_eq] at this
   omega) (by
   have:=aa Qd
   simp only[Bool.and_eq_true,decide_eq_true_eq] at this
   omega)
  rw[kj] at SE ⊢
  simp only[Ez,Mj,Kd] at SE ⊢
  have HT:=aj (kU Zz #[.string G.fW,.slice Uv Ut Uu,.slice Ur Uo Uq,.slice UU US UT] #[.int .i64 0,.int .i64 0,.int .i64 0,.string ⟨#[]⟩] 26 33)
  have Zp:=(kU (zE w4.heap.size w4) #[.string G.fW,.slice Uv Ut Uu,.slice Ur Uo Uq,.slice UU US UT] #[.int .i64 0,.int .i64 0,.int .i64 0,.string ⟨#[]⟩] 26 33).bl
  have HNa:=aj ((aa U7).up Zp)
  have HNb:=aj (SE.up Zp)
  obtain ⟨d0,d1,d2,d3⟩:=eu ((Zp.block _ (aa Nh).2).trans (aa Nh).1)
  have X4:=(aa HT).x
  have Y4:=(aa HT).y
  clear hr SE eR Zz HPa HN3 Ds Ji U7 Nh kj Dv Zp
  go_wp2_with fail
  refine (lJ (aa HNa) (aa HNb)).mono ?_
  rintro e w5 ⟨rfl,jf⟩
  have AX:=aj ((aa HT).up jf).bl
  clear jf HT HNa HNb X4 Y4 d0 d1 d2 d3
  go_wp2
  go_ret
  exact ⟨rfl,aa AX⟩
end Go.Proofs.YtmlphohdcejniaaGreatDoor

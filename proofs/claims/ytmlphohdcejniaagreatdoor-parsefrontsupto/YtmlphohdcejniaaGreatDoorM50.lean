import Derived.Test.YtmlphohdcejniaaGreatDoorUC
set_option maxHeartbeats 4000000
set_option maxRecDepth 100000
namespace Go.Proofs.YtmlphohdcejniaaGreatDoor
open Go.RowKit
attribute [local go_sem ↓] Go.wp_at_zero Go.wp_at_succ
theorem mD {P Q:Nat→Prop}{W:World}{x y:Value}{a:Fl} (h:NF a x P W) (h':NF a y Q W):Calls Tryz.prog 9 #[x,y] W (pg W):=by
 obtain ⟨vi,vm,ve,cm,ce,rfl,h1,h2,h3,h4,h5⟩:=h
 obtain ⟨vi',Xq,ve',PD,RP,rfl,h1',h2',CB,h4',h5'⟩:=h'
 have HI:=aj h1.rd
 have HI':=aj h1'.rd
 have HMr:=aj h2.rd
 have ab9:=aj h2'.rd
 have HM:=aj (nB h2.rd h3.each Q _ _ h2'.rd CB)
 have HEr:=aj h4.rd
 have abz:=aj h4'.rd
 have HE:=aj h5.rd
 have HE':=aj h5'.rd
 obtain ⟨ai,ci,rfl,_,_⟩:=h1.rd
 obtain ⟨ai',ci',rfl,_,_⟩:=h1'.rd
 obtain ⟨am,B9,rfl,_,_⟩:=h2.rd
 obtain ⟨am',abh,rfl,_,_⟩:=h2'.rd
 obtain ⟨ae,AS,rfl,_,_⟩:=h4.rd
 obtain ⟨ae',abj,rfl,_,_⟩:=h4'.rd
 have yQ:=aj (wK (zE W.heap.size W) #[.string a.eI,.slice ai a.bM.length ci,.slice am a.ms.length B9,.slice ae a.es.length AS] #[.string a.eI,.slice ai' a.bM.length ci',.slice am' a.ms.length abh,.slice ae' a.es.length abj] 26)
 clear h1 h1' h2 h2' h3 CB h4 h4' h5 h5'
 go_enter Tryz.func9,Tryz.ntmps9
 go_wp2_with fail
 have H0:=aa yQ
 refine (iW ((aa HI).up H0.bl) ((aa HI').up H0.bl)).mono ?_
 rintro e w2 ⟨rfl,bJ⟩
 have zr:=aj (H0.up bJ)
 have X2:=(aa zr).x
 have Y2:=(aa zr).y
 clear H0 bJ yQ
 go_wp2_with fail
 have H2:=aa zr
 refine (aa HM _ H2.bl).mono ?_
 rintro e w3 ⟨rfl,mQ⟩
 have wH:=aj (H2.up mQ)
 have X3:=(aa wH).x
 have Y3:=(aa wH).y
 clear H2 mQ zr X2 Y2
 go_wp2_with fail
 have H3:=aa wH
 refine (oT ((aa HEr).up H3.bl) ((aa HE).up H3.bl) ((aa abz).up H3.bl) ((aa HE').up H3.bl)).mono ?_
 rintro e w4 ⟨rfl,eV⟩
 have EZ:=aj (H3.up eV).bl
 clear H3 eV wH X3 Y3
 go_wp2
 go_ret
 exact ⟨rfl,aa EZ⟩
theorem Qs (P:Nat→Prop) (W:World):NF ⟨⟨#[]⟩,[],[],[]⟩ (.agg #[.string ⟨#[]⟩,.slice none 0 0,.slice none 0 0,.slice none 0 0]) P W:=by
 have hn:∀t sz,fm P W t sz (.slice none 0 0) 0 []:=fun t sz=>⟨⟨by simp,.inl ⟨rfl,rfl⟩⟩,fun g h=>by cases h⟩
 exact ⟨_,_,_,[],[],rfl,hn _ _,hn _ _,.nil,hn _ _,.nil⟩
#print axioms mD
def F9:Except (Int×Int) (Fl×aD)→Fl
 |.error _=>⟨⟨#[]⟩,[],[],[]⟩
 |.ok (x,_)=>x
def N8:Except (Int×Int) (Fl×aD)→Int
 |.error y=>y.1
 |.ok _=>0
def LK:Except (Int×Int) (Fl×aD)→Int
 |.error y=>y.2
 |.ok _=>0
theorem NF.up {a:Fl}{x:Value}{P:Nat→Prop}{w w':World} (h:NF a x P w) (hb:Below w.heap.size w w'):NF a x P w':=rF a x P P w w' (fun k hp hk=>⟨hp,hb.block k hk⟩) h
theorem wY {W w:World}{r:Except (Int×Int) (Fl×aD)}{e:Ending} (h:S7 W r e w):∃ia il ic ma ml mc ea el ec,e=.returned (.tuple #[.agg #[.string (F9 r).eI,.slice ia il ic,.slice ma ml mc,.slice ea el ec],.agg #[.int .i64 (N8 r),.int .i64 0,.int .i64 (LK r),.string ⟨#[]⟩]])∧NF (F9 r) (.agg #[.string (F9 r).eI,.slice ia il ic,.slice ma ml mc,.slice ea el ec]) (fun k=>W.heap.size≤k) w∧Below W.heap.size W w:=by
 match r,h with
 |.error y,h =>
  obtain ⟨rfl,hb⟩:=h
  exact ⟨_,_,_,_,_,_,_,_,_,rfl,Qs _ _,hb⟩
 |.ok (x,s),h =>
  obtain ⟨fv,rfl,hn,hb⟩:=h
  have hn':=hn
  obtain ⟨vi,vm,ve,cm,ce,rfl,h1,h2,h3,h4,h5⟩:=hn'
  obtain ⟨a1,c1,e1,_⟩:=h1.rd
  obtain ⟨a2,c2,e2,_⟩:=h2.rd
  obtain ⟨a3,c3,e3,_⟩:=h4.rd
  subst e1 e2 e3
  exact ⟨_,_,_,_,_,_,_,_,_,rfl,hn,hb⟩
theorem pO {w:World}{g:Nat}{cs:Array Value}{t:TypeId}{fr:Nat×Nat} (h:w.heap[g]?=some (.cells cs t fr)) (j:Nat):w.cell? ⟨g,j,none⟩=cs[j]?:=cell_of_row _ _ _ _ _ _ h
theorem ko {W wr:World} (hb:Below W.heap.size W wr) (xs ys:Array Value) (t t':TypeId):KA W wr.heap.size (wr.heap.size+1) xs ys t ((wr.alloc (.cells xs t)).alloc (.cells ys t')):=by
 have h1:=hb.size
 refine ⟨(hb.alloc h1 _).alloc (by rw[zJ];omega) _,fun j=>?_,fun j=>?_,by rw[zJ,zJ];omega,by rw[zJ,zJ];omega⟩
 ·rw[World.cell?_alloc_past _ _ _ (by rw[zJ];omega),World.cell?_alloc_at _ _ _ _ rfl]
 ·rw[World.cell?_alloc_at _ _ _ _ (by rw[zJ])]
end Go.Proofs.YtmlphohdcejniaaGreatDoor
namespace Go.Proofs.YtmlphohdcejniaaGreatDoor
open Go.RowKit
def kn1:ByteArray:=⟨#[115,121,110,116,97,120,32,61,32,34,112,114,111,116,111,51,34,59,32,112,97,99,107,97,103,101,32,97,46,98,59,32,105,109,112,111,114,116,32,34,120,46,112,114,111,116,111,34,59,32,109,101,115,115,97,103,101,32,77,32,123,32,105,110,116,51,50,32,97,32,61,32,49,59,32,125]⟩
def kn2:ByteArray:=⟨#[115,121,110,116,97,120,32,61,32,34,112,114,111,116,111,51,34,59,32,115,101,114,118,105,99,101,32,83,32,123,125]⟩
def knF:Fl:=⟨⟨#[97,46,98]⟩,[⟨#[120,46,112,114,111,116,111]⟩],[.mk ⟨#[77]⟩ [⟨1,⟨#[]⟩,⟨#[105,110,116,51,50]⟩,⟨#[97]⟩,1,0⟩] [] [] [] [] []],[]⟩
theorem Uc:N8 (kF kn2)=52:=by kernel_rfl
theorem Ub:LK (kF kn2)=19:=by kernel_rfl
theorem Ue:N8 (kF kn1)=0:=by kernel_rfl
theorem Ud:LK (kF kn1)=0:=by kernel_rfl
theorem MT:F9 (kF kn1)=knF:=by kernel_rfl
end Go.Proofs.YtmlphohdcejniaaGreatDoor
namespace Go.Proofs.YtmlphohdcejniaaGreatDoor
open Go.RowKit
attribute [local go_sem ↓] Go.wp_at_zero Go.wp_at_succ
theorem VL (w:World) (a b c d e f:Obj):Below w.heap.size w ((((((w.alloc a).alloc b).alloc c).alloc d).alloc e).alloc f)∧((((((w.alloc a).alloc b).alloc c).alloc d).alloc e).alloc f).heap.size=w.heap.size+6 ∧
  (((((w.alloc a).alloc b).alloc c).alloc d).alloc e |>.alloc f).heap[w.heap.size]?=some a∧(((((w.alloc a).alloc b).alloc c).alloc d).alloc e |>.alloc f).heap[w.heap.size+1]?=some b∧(((((w.alloc a).alloc b).alloc c).alloc d).alloc e |>.alloc f).heap[w.heap.size+1+1]?=some c∧(((((w.alloc a).alloc b).alloc c).alloc d).alloc e |>.alloc f).heap[w.heap.size+1+1+1]?=some d∧(((((w.alloc a).alloc b).alloc c).alloc d).alloc e |>.alloc f).heap[w.heap.size+1+1+1+1]?=some e∧(((((w.alloc a).alloc b).alloc c).alloc d).alloc e |>.alloc f).heap[w.heap.size+1+1+1+1+1]?=some f:=by
 have hs:∀(x:World) (o:Obj),(x.alloc o).heap.size=x.heap.size+1:=fun x o=>zJ _ _
 have hn:∀(x:World) (o:Obj) (k:Nat),k=x.heap.size→(x.alloc o).heap[k]?=some o:=fun x o k h=>by rw[h];exact aC x o
 have ho:∀(x:World) (o:Obj) (k:Nat),k<x.heap.size→(x.alloc o).heap[k]?=x.heap[k]?:=fun x o k h=>Below.heap_alloc x o k h
 refine ⟨⟨rfl,rfl,rfl,?_,fun k hk=>?_⟩,?_,?_,?_,?_,?_,?_,?_⟩
 ·simp only[hs];omega
 ·rw[ho _ _ _ (by simp only[hs];omega),ho _ _ _ (by simp only[hs];omega),ho _ _ _ (by simp only[hs];omega),ho _ _ _ (by simp only[hs];omega),ho _ _ _ (by simp only[hs];omega),ho _ _ _ hk]
 ·simp only[hs]
 ·rw[ho _ _ _ (by simp only[hs];omega),ho _ _ _ (by simp only[hs];omega),ho _ _ _ (by simp only[hs];omega),ho _ _ _ (by simp only[hs];omega),ho _ _ _ (by simp only[hs];omega),hn _ _ _ rfl]
 ·rw[ho _ _ _ (by simp only[hs];omega),ho _ _ _ (by simp only[hs];omega),ho _ _ _ (by simp only[hs];omega),ho _ _ _ (by simp only[hs];omega),hn _ _ _ (by simp only[hs])]
 ·rw[ho _ _ _ (by simp only[hs];omega),ho _ _ _ (by simp only[hs];omega),ho _ _ _ (by simp only[hs];omega),hn _ _ _ (by simp only[hs])]
 ·rw[ho _ _ _ (by simp only[hs];omega),ho _ _ _ (by simp only[hs];omega),hn _ _ _ (by simp only[hs])]
 ·rw[ho _ _ _ (by simp only[hs];omega),hn _ _ _ (by simp only[hs])]
 ·rw[hn _ _ _ (by simp only[hs])]
theorem row_one {w:World}{g t sz:Nat}{cs:Array Value} (h:w.heap[g]?=some (.cells cs t (0,0))) (hz:cs.size=1*sz):fm (fun _=>True) w t sz (.slice (some ⟨g,0,none⟩) 1 1) 1 cs.toList :=
 ⟨⟨by rw[Array.length_toList];exact hz,.inr ⟨g,1,cs,rfl,Nat.zero_le _,h,zD _,by decide,hz,by rw[←hz,←Array.length_toList,List.take_length]⟩⟩,fun _ _=>trivial⟩
theorem QD {A:World}{g1 g2 g3:Nat} (h2:A.heap[g1]?=some (.cells #[.string ⟨#[120,46,112,114,111,116,111]⟩] 9 (0,0))) (h3:A.heap[g2]?=some (.cells #[.int .i64 1,.string ⟨#[]⟩,.string ⟨#[105,110,116,51,50]⟩,.string ⟨#[97]⟩,.int .i64 1,.int .i64 0] 70 (0,0)))
  (h4:A.heap[g3]?=some (.cells #[.string ⟨#[77]⟩,.slice (some ⟨g2,0,none⟩) 1 1,.slice none 0 0,.slice none 0 0,.slice none 0 0,.slice none 0 0,.slice none 0 0] 64 (0,0))) :
  NF knF (.agg #[.string ⟨#[97,46,98]⟩,.slice (some ⟨g1,0,none⟩) 1 1,.slice (some ⟨g3,0,none⟩) 1 1,.slice none 0 0]) (fun _=>True) A:=by
 have hn:∀t sz,fm (fun _=>True) A t sz (.slice none 0 0) 0 []:=fun t sz=>⟨⟨by simp,.inl ⟨rfl,rfl⟩⟩,fun g h=>by cases h⟩
 exact ⟨_,_,_,_,[],rfl,row_one h2 rfl,row_one h4 rfl,.cons (row_one h3 rfl) (hn _ _) (hn _ _) .nil (hn _ _) .nil (hn _ _) (hn _ _) .nil,hn _ _,.nil⟩
theorem Al {W:World} (hF:nn W) (hE:gM W) (hM:gY W):Calls Tryz.prog 7 #[] W (pg W):=by
 have HF:=aj hF
 have HE:=aj hE
 have HM:=aj hM
 clear hF hE hM
 go_enter Tryz.func7,Tryz.ntmps7
 go_wp2_with fail
 refine (Ah (aa HF) (aa HE) (aa HM) kn1).mono ?_
 intro e w1 hr
 obtain ⟨ia,il,ic,ma,ml,mc,ea,el,ec,rfl,hn,bF⟩:=wY hr
 rw[MT] at hn
 rw[MT,Ue,Ud]
 have HN:=aj hn
 have np:=aj bF
 clear hr hn bF
 go_wp2_with fail
 obtain ⟨hA,hs,q0,q1,q2,q3,q4,q5⟩:=VL w1 (.cells #[.string knF.eI,.slice ia il ic,.slice ma ml mc,.slice ea el ec] 26) (.cells #[.int .i64 0,.int .i64 0,.int .i64 0,.string ⟨#[]⟩] 33) (.cells #[.string ⟨#[120,46,112,114,111,116,111]⟩] 9) (.cells #[.int .i64 1,.string ⟨#[]⟩,.string ⟨#[105,110,116,51,50]⟩,.string ⟨#[97]⟩,.int .i64 1,.int .i64 0] 70)
  (.cells #[.string ⟨#[77]⟩,.slice (some ⟨w1.heap.size+1+1+1,0,none⟩) 1 1,.slice none 0 0,.slice none 0 0,.slice none 0 0,.slice none 0 0,.slice none 0 0] 64) (.cells #[.string ⟨#[97,46,98]⟩,.slice (some ⟨w1.heap.size+1+1,0,none⟩) 1 1,.slice (some ⟨w1.heap.size+1+1+1+1,0,none⟩) 1 1,.slice none 0 0] 26)
 have WN:=(aa np).trans (hA.mono (aa np).size)
 refine (Ah ((aa HF).up WN) ((aa HE).up WN) ((aa HM).up WN (aa HM).1) kn2).mono ?_
 intro e w2 hr
 obtain ⟨ia',il',ic',ma',ml',mc',ea',el',ec',rfl,-,bJ⟩:=wY hr
 rw[Uc,Ub]
 obtain ⟨pk,Ie⟩:∃pk,(F9 (kF kn2)).eI=pk:=⟨_,rfl⟩
 rw[Ie]
 have bU:=bJ.size
 rw[hs] at bU
 have q0':=(bJ.block _ (by rw[hs];omega)).trans q0
 have q1':=(bJ.block _ (by rw[hs];omega)).trans q1
 have q5':=(bJ.block _ (by rw[hs];omega)).trans q5
 have ez:=WN.trans (bJ.mono WN.size)
 have YB:=((aa HN).up hA).up bJ
 have X9:=(QD q2 q3 q4).up bJ
 have Xd:=aj YB
 have Z3:=aj X9
 have iL:=aj ez
 have X0:∀o o' j,((w2.alloc o).alloc o').cell? ⟨w1.heap.size,j,none⟩=(#[.string knF.eI,.slice ia il ic,.slice ma ml mc,.slice ea el ec]:Array Value)[j]?:=fun o o' j=>(World.cell?_alloc_lt _ _ _ (by rw[zJ];show w1.heap.size<_;omega)).trans ((World.cell?_alloc_lt _ _ _ (by show w1.heap.size<_;omega)).trans (pO q0' j))
 have X1:∀o o' j,((w2.alloc o).alloc o').cell? ⟨w1.heap.size+1,j,none⟩=(#[.int .i64 0,.int .i64 0,.int .i64 0,.string ⟨#[]⟩]:Array Value)[j]?:=fun o o' j=>(World.cell?_alloc_lt _ _ _ (by rw[zJ];show w1.heap.size+1<_;omega)).trans ((World.cell?_alloc_lt _ _ _ (by show w1.heap.size+1<_;omega)).trans (pO q1' j))
 have X5:∀o o' j,((w2.alloc o).alloc o').cell? ⟨w1.heap.size+1+1+1+1+1,j,none⟩=(#[.string ⟨#[97,46,98]⟩,.slice (some ⟨w1.heap.size+1+1,0,none⟩) 1 1,.slice (some ⟨w1.heap.size+1+1+1+1,0,none⟩) 1 1,.slice none 0 0]:Array Value)[j]?:=fun o o' j=>(World.cell?_alloc_lt _ _ _ (by rw[zJ];show w1.heap.size+1+1+1+1+1<_;omega)).trans ((World.cell?_alloc_lt _ _ _ (by show w1.heap.size+1+1+1+1+1<_;omega)).trans (pO q5' j))
 have yQ:=aj (ko (aa iL) #[.string pk,.slice ia' il' ic',.slice ma' ml' mc',.slice ea' el' ec'] #[.int .i64 52,.int .i64 0,.int .i64 19,.string ⟨#[]⟩] 26 33)
 clear hr bJ Ie q0 q1 q2 q3 q4 q5 q0' q1' q5' ez YB X9 bU hs hA WN HN np
 go_wp2_with fail
 have H0:=aa yQ
 have hbZ:=(ko (zE w2.heap.size w2) #[.string pk,.slice ia' il' ic',.slice ma' ml' mc',.slice ea' el' ec'] #[.int .i64 52,.int .i64 0,.int .i64 19,.string ⟨#[]⟩] 26 33).bl
 refine (mD ((aa Xd).up hbZ) ((aa Z3).up hbZ)).mono ?_
 rintro e w3 ⟨rfl,mQ⟩
 have wH:=aj (H0.up mQ)
 have X3:=(aa wH).x
 have Y3:=(aa wH).y
 clear H0 hbZ mQ yQ X0 X1 X5 Xd Z3 iL
 go_wp2
 go_ret
 exact ⟨rfl,(aa wH).bl⟩
theorem G9 (w:World) (xs:Array Value) (t:TypeId):Below w.heap.size w (w.alloc (.cells xs t))∧(w.alloc (.cells xs t)).heap[w.heap.size]?=some (.cells xs t (0,0))∧w.heap.size<(w.alloc (.cells xs t)).heap.size:=⟨(zE _ _).alloc (zD _) _,aC _ _,by rw[zJ];omega⟩
end Go.Proofs.YtmlphohdcejniaaGreatDoor
namespace Go.Proofs.YtmlphohdcejniaaGreatDoor
open Go.RowKit
def kU (y g:Fl):Prop:=y.bM.length≤g.bM.length∧(∃r,g.ms=y.ms++r)∧y.es.length≤g.es.length
theorem kU.refl (y:Fl):kU y y:=⟨zD _,⟨[],by simp⟩,zD _⟩
theorem kU.trans {x y z:Fl} (h:kU x y) (k:kU y z):kU x z:=by
 obtain ⟨r,hr⟩:=h.2.1
 obtain ⟨t,ht⟩:=k.2.1
 exact ⟨Nat.le_trans h.1 k.1,⟨r++t,by rw[ht,hr,List.append_assoc]⟩,Nat.le_trans h.2.2 k.2.2⟩
theorem kU.eI (y:Fl) (p:ByteArray):kU y { y with eI:=p }:=⟨zD _,⟨[],by simp⟩,zD _⟩
theorem MA {y z:Fl}{s t:aD} (h:lT y s=.ok (z,t)):kU y z:=by
 unfold lT at h
 repeat' split at h
 all_goals first
  |(cases h;done)
  |(cases h;exact kU.eI _ _)
theorem MB {y z:Fl}{s t:aD} (h:xI y s=.ok (z,t)):kU y z:=by
 unfold xI at h
 split at h
 ·cases h
 ·cases h
  exact ⟨by simp,⟨[],by simp⟩,zD _⟩
theorem Qy {y z:Fl}{s t:aD} (h:NP y s=.ok (z,t)):kU y z:=by
 unfold NP at h
 split at h
 ·cases h
 ·cases h
  exact ⟨zD _,⟨_,rfl⟩,zD _⟩
theorem Qz {y z:Fl}{s t:aD} (h:N0 y s=.ok (z,t)):kU y z:=by
 unfold N0 at h
 split at h
 ·cases h
 ·cases h
  exact ⟨zD _,⟨[],by simp⟩,by simp⟩
theorem MC {k:ByteArray}{f:fQ Fl} (hf:Az k=some f) {y z:Fl}{s t:aD} (h:f y s=.ok (z,t)):kU y z:=by
 unfold Az at hf
 repeat' split at hf
 all_goals first
  |(cases hf;done)
  |(obtain rfl:=zC hf;first
    |exact MA h
    |exact MB h
    |exact Qy h
    |exact Qz h
    |(unfold dv at h;cases h))
theorem JJ {y z:Fl}{s t:aD} (h:bT Az J9 y s=.ok (z,t)):kU y z:=by
 unfold bT at h
 split at h
 ·cases h
 ·cases h
  exact kU.refl _
 ·split at h
  ·rename_i f hf
   split at h
   ·exact MC hf h
   ·unfold J9 at h
    cases h
  ·unfold J9 at h
   cases h
theorem Ak:∀(n:Nat) {y z:Fl}{s t:aD},gT (bT Az J9) n y s=.ok (z,t)→kU y z
 |0,y,z,s,t,h=>by cases h
 |n+1,y,z,s,t,h=>by
  rw[gT] at h
  split at h
  ·cases h
   exact kU.refl _
  ·split at h
   ·cases h
   ·rename_i y1 s1 h1
    exact (JJ h1).trans (Ak n h)
theorem D8 {n:Nat}{y:Fl}{s:aD}{b:Bool}{d o:Nat}{e:Tk} (h:St s [] b d o e) (hn:s.ts.length<n):yN n y s=.ok (y,s):=by
 obtain ⟨n,rfl⟩:∃m,n=m+1:=⟨n-1,by omega⟩
 show gT (bT Az J9) (n+1) y s=_
 rw[gT,if_pos h.lK]
theorem MD {K c:Nat}{ws:List Wd}{y g:Fl} (h:EL yN K ws c y g) (hc:c≤4096) (hK:K≤32):kU y g:=by
 have hs:St ⟨ws.map fun w=>⟨w.1,0,w.2⟩,⟨5,0,⟨#[]⟩⟩,false,0,0⟩ (ws++[]) false 0 0 ⟨5,0,⟨#[]⟩⟩:=by
  refine ⟨?_,rfl,rfl,rfl,rfl,rfl⟩
  rw[List.append_nil,List.map_map]
  show ws.map (fun w=>(w.1,w.2))=ws
  simp
 rcases h _ [] 0 0 _ (ws.length+1) hs (Nat.zero_le _) (by omega) (by show (ws.map _).length<_;rw[List.length_map];omega) with ⟨q1,_⟩|⟨q1,s1,n1,q2,h1,h2⟩
 ·omega
 ·rw[D8 h1 h2] at q2
  exact Ak _ q2
theorem NY {c:Nat}{g:Fl}{ws u:List Wd}{s:aD}{e:Tk} (hE:eU yN 32 ws c ⟨⟨#[]⟩,[],[],[]⟩ g) (hu:mw u (jW++ws)) (h:St s u false 0 0 e) (hc:c≤4096):hZ s=.error (51,e.spot)∨∃y t,hZ s=.ok (y,t)∧kU y g:=by
 have Yf:mw u ((1,⟨#[115,121,110,116,97,120]⟩)::sg 61::(3,lit 39 ⟨#[112,114,111,116,111,51]⟩)::sg 59::ws):=hu
 unfold hZ
 rcases Yf.cons with rfl|⟨u1,rfl,jR⟩
 ·rw[gH h (by decide)]
  simp only
  rw[h.CG]
  exact .inl rfl
 rcases dK h (Nat.zero_le _) with ⟨q1,p,q2⟩|⟨q1,s1,q2,h1⟩<;>rw[q2]<;>rw[bz] at q1
 ·omega
 simp only
 rw[bz] at h1
 rcases jR.cons with rfl|⟨u2,rfl,oJ⟩
 ·rw[fU h1]
  exact .inl rfl
 rcases cX h1 (Nat.zero_le _) with ⟨q1,p,q2⟩|⟨q1,s2,q2,h2⟩<;>rw[q2]<;>rw[bz] at q1
 ·omega
 simp only
 rw[bz] at h2
 rcases oJ.cons with rfl|⟨u3,rfl,Uu⟩
 ·rw[xu h2]
  exact .inl rfl
 rcases nK h2 (pY 39 _ (.inl rfl) wM) LC (Nat.zero_le _) with ⟨q1,p,q2⟩|⟨q1,s3,q2,h3⟩<;>rw[q2]<;>rw[bz] at q1
 ·omega
 simp only
 rw[bz] at h3
 rcases Uu.cons with rfl|⟨u4,rfl,Ye⟩
 ·rw[fU h3]
  exact .inl rfl
 rcases cX h3 (Nat.zero_le _) with ⟨q1,p,q2⟩|⟨q1,s4,q2,h4⟩<;>rw[q2]<;>rw[bz] at q1
 ·omega
 simp only
 rw[bz] at h4
 unfold gL
 rcases hE.2 u4 s4 0 0 e (s4.ts.length+1) Ye h4 (Nat.zero_le _) (by omega) (by omega) with ⟨r1,_⟩|r2|⟨y,s5,d5,n5,r2,g1,g2,g3,w2,c2,g4,g5⟩
 ·omega
 ·exact .inl r2
 ·exact .inr ⟨y,s5,r2.trans (D8 g1 g3),MD g4 (by omega) (zD _)⟩
def qI (ts:List Tk):Int:=match ts.getLast? with
 |some t=>wrap64 (t.spot+(t.text.size:Int))
 |none=>0
theorem yd {ts:List Tk} (hw:∀t ∈ ts,t.kind≠5):∀n j,lA ts n j=none
 |0,_=>rfl
 |n+1,j=>by
  rw[lA]
  cases h:ts[j]? with
  |none=>rfl
  |some t =>
   simp only
   rw[if_neg (by have:=hw t (List.mem_of_getElem? h);simpa using this)]
   exact yd hw n (j+1)
theorem C6 {ts:List Tk} (hw:∀t ∈ ts,t.kind≠5):∃e,St (fF ts) (ts.map kt) false 0 0 e∧e.spot=qI ts:=by
 unfold fF qI
 rw[yd hw]
 simp only
 cases h:ts.getLast? with
 |none=>exact ⟨_,⟨rfl,rfl,rfl,rfl,rfl,rfl⟩,rfl⟩
 |some t=>exact ⟨_,⟨rfl,rfl,rfl,rfl,rfl,rfl⟩,rfl⟩
theorem F3 {ps:List (Wd×List Nat)}{g:Fl}{c n:Nat}{ws:List Wd}{ts:List Tk} (kJ:ps.map Prod.fst=jW++ws) (hE:eU yN 32 ws c ⟨⟨#[]⟩,[],[],[]⟩ g) (hw:nU ps) (hc:c≤4096) (hl:ps.length≤16383) (Cx:ts.map kt=ps.map Prod.fst++[(5,⟨#[]⟩)]) (hn:n≤ps.length) :
  (n<ps.length∧na (ts.take n)=.error (51,qI (ts.take n)))∨∃y t,na (ts.take n)=.ok (y,t)∧kU y g∧(¬n<ps.length→y=g):=by
 have cw:ts.length=ps.length+1:=by
  have:=congrArg List.length Cx
  simpa using this
 have hk:(ts.take n).map kt=(jW++ws).take n:=by
  rw[List.map_take,Cx,List.take_append_of_le_length (by rw[List.length_map];exact hn),kJ]
 have hk5:∀t ∈ ts.take n,t.kind≠5:=fun t ht=>by
  have h1:kt t ∈ (ts.take n).map kt:=List.mem_map_of_mem ht
  rw[hk,←kJ] at h1
  obtain ⟨x,oq,fO⟩:=List.mem_map.1 (List.mem_of_mem_take h1)
  obtain ⟨k,q1,q2,_⟩:=mh (hw x oq).1
  rw[fO] at q1
  have q3:t.kind=(k:Int):=q1
  rw[q3]
  omega
 obtain ⟨e,he,BK⟩:=C6 hk5
 rw[hk] at he
 unfold na
 rw[if_neg (by rw[List.length_take];omega)]
 have hwl:(jW++ws).length=ps.length:=by rw[←kJ,List.length_map]
 by_cases eP:n<ps.length
 ·have hp:mw ((jW++ws).take n) (jW++ws):=by
   refine ⟨(jW++ws)[n]'(by omega),(jW++ws).drop (n+1),?_⟩
   rw[←List.drop_eq_getElem_cons,List.take_append_drop]
  rcases NY hE hp he hc with q|⟨y,t,q,hm⟩
  ·rw[q,BK]
   exact .inl ⟨eP,rfl⟩
  ·exact .inr ⟨y,t,q,hm,fun z=>absurd eP z⟩
 ·have jq:(jW++ws).take n=jW++ws:=List.take_of_length_le (by omega)
  rw[jq] at he
  rcases NX hE he (Nat.zero_le _) (zD _) with ⟨q1,p,q2⟩|⟨q1,s,q2,_⟩
  ·omega
  ·exact .inr ⟨g,s,q2,kU.refl g,fun _=>rfl⟩
theorem E9 {B:ByteArray}{ps:List (Wd×List Nat)} (hw:nU ps) (hB:aH B=j5 ps) (hs:B.size≤65536) (hl:ps.length≤16383):∃ts,lP B=.inl ts∧(ts.map Tok.tk).map kt=ps.map Prod.fst++[(5,⟨#[]⟩)]:=by
 have hu:dq B 0=-1:=A3 (by rw[hB];exact qn _ hw)
 have hd:(aH B).drop 0=j5 ps:=by rw[List.drop_zero];exact hB
 obtain ⟨h1,-⟩:=CS ps 0 0 hw hd (Nat.zero_le _) (Nat.zero_le _)
 rw[A7 (by omega) (by rw[hu];decide)]
 exact h1 (by omega)
theorem P8:(Tryz.prog.info? 44).map (·.size)=some 3:=by kernel_rfl
theorem Jq {P:Program} (w:World) (dT sT ty elem:TypeId) (g n abf:Nat) (a:Addr) (aaB:Nat) (cur:Array Value) (t:TypeId) (cs:List Value)
  (hu:P.underlying dT=some (.slice elem)) (hs:(P.info? elem).map (·.size)=some 3)
  (hg:w.heap[g]?=some (.cells cur t (0,0))) (hn:cs.length=n*3)
  (aaU:∀j v,cs[j]?=some v→w.cell? (a.add j)=some v) (du:cs.length=cur.size) (h1:∀v ∈ cs,v.oneCell'=true) :
  (Builtin.copy_ #[dT,sT] ty #[.slice (some ⟨g,0,none⟩) n abf,.slice (some a) n aaB]).run P w=.ok (goInt n) (w.setRow g cs.toArray):=by
 have hl:=run_loadCells_list (P:=P) w a cs aaU
 have FL:=run_storeCells_at P g 0 t cs 0 cur w hg (by omega) h1
 have hd:cur.toList.drop cs.length=[]:=List.drop_of_length_le (by rw[du];simp)
 cases hq:P.info? elem with
 |none=>simp[hq] at hs
 |some i =>
  have hi:i.size=3:=by simpa[hq] using hs
  simp[Builtin.copy_,run_underlying hu,Builtin.lenOf,Builtin.firstCells,sizeOf,typeInfo,hq,hi,←hn,hl,FL,hd]
theorem cU.front {P:Nat→Prop}{w:World}{r:List Ms}:∀{l:List Ms}{cs:List Value},cU P w cs (l++r)→∃kO,cU P w kO l∧∃t,cs=kO++t
 |[],cs,_=>⟨[],.nil,cs,rfl⟩
 |m::l,cs,h=>by
  change cU P w cs (m::(l++r)) at h
  cases h with
  |cons hf ho hm jT he mP hr hg ht =>
   obtain ⟨kO,h1,t,h2⟩:=cU.front ht
   exact ⟨_,.cons hf ho hm jT he mP hr hg h1,t,by rw[h2];rfl⟩
theorem LV {w:World}{a:Option Addr}{n k c:Nat}{xs ys:List Value} (h:kl w (.slice a n c) n (xs++ys)) (hk:k≤n):kl w (.slice a k c) k xs:=by
 obtain ⟨a',c',e,h1,h2⟩:=h
 cases e
 refine ⟨a,c,rfl,Nat.le_trans hk h1,fun hp=>?_⟩
 obtain ⟨g,e,h3,h4⟩:=h2 (by omega)
 refine ⟨g,e,h3,fun j x hj=>h4 j x ?_⟩
 rw[List.getElem?_append_left (zB hj).1]
 exact hj
theorem CT (ts:List Tok) (n:Nat):cI (ts.take n)=(cI ts).take (n*3):=by
 by_cases hn:n≤ts.length
 ·have h:=pw (ts.take n) (ts.drop n)
  rw[List.take_append_drop] at h
  rw[h,List.take_left']
  rw[gO,List.length_take]
  omega
 ·rw[List.take_of_length_le (by omega),List.take_of_length_le (by rw[gO];omega)]
theorem Ln {s:ByteArray}{W w:World}{e:Ending} (h:RZ s W e w):∃(v:Value) (k c:Int),e=.returned (.tuple #[v,.int .i64 k,.int .i64 c])∧Below W.heap.size W w:=by
 obtain ⟨hb,h⟩:=h
 cases ht:lP s with
 |inl ts =>
  rw[ht] at h
  obtain ⟨v,rfl,-⟩:=h
  exact ⟨v,0,0,rfl,hb⟩
 |inr p =>
  obtain ⟨k,c⟩:=p
  rw[ht] at h
  obtain ⟨-,rfl⟩:=h
  exact ⟨_,_,_,rfl,hb⟩
theorem copied {w:World}{B g n:Nat}{ts:List Tok} (hB:B≤g) (hn:n=ts.length) (hm:n≤100000) (hg:w.heap[g]?=some (.cells (cI ts).toArray 44 (0,0))):w.ownsRow B 44 3 (.slice (some ⟨g,0,none⟩) n n) ts.length (cI ts):=by
 subst hn
 have hl:=gO ts
 refine ⟨by omega,.inr ⟨g,ts.length,(cI ts).toArray,rfl,hB,hg,zD _,by unfold maxLen;omega,by simp;omega,?_⟩⟩
 rw[List.take_of_length_le]
 simp
 omega
end Go.Proofs.YtmlphohdcejniaaGreatDoor

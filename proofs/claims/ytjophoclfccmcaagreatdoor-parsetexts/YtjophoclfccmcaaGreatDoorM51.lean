import Derived.Test.YtjophoclfccmcaaGreatDoorM50
import Derived.Lib.LaidTab
import Derived.Lib.LaidU8
set_option maxHeartbeats 4000000
set_option maxRecDepth 100000
namespace Go.Proofs.YtjophoclfccmcaaGreatDoor
open Go.RowKit
attribute [local go_sem ↓] Go.wp_at_zero Go.wp_at_succ
theorem Ba (w:World):w.drew.heap=w.heap:=rfl
theorem EM.up {W w w':World}{r:Except (Int×Int) (Fl×ax)}{e:Ending} (h:EM W r e w) (hb:Below w.heap.size w w'):EM W r e w':=by
 match r,h with
 |.error y,⟨h1,h2⟩=>exact ⟨h1,h2.trans (hb.mono h2.size)⟩
 |.ok (x,s),⟨fv,h1,h2,h3⟩=>exact ⟨fv,h1,h2.up hb,h3.trans (hb.mono h3.size)⟩
theorem Fi {W:World} (s:ByteArray):Calls Tryz.prog 9 #[.string s] W (EM W (fy s)):=by
 obtain ⟨bo,cl,iZ,ew⟩:=XJ W 0 0
 have HC:=ab (C4 (Bm W 0 0) s)
 have HB:=ab bo
 have ET:=ab cl
 have HX:=ab (show (Bm W 0 0).heap[W.heap.size]?=_∧(Bm W 0 0).heap[W.heap.size+1]?=_ from ⟨iZ,ew⟩)
 unfold Bm at HC HB ET HX
 clear bo cl iZ ew
 go_enter Tryz.func9,Tryz.ntmps9
 go_wp2_with fail
 refine (aa HC).mono ?_
 rintro e w1 ⟨bK,NS⟩
 rw[aa ET] at bK NS
 have E9:Below W.heap.size W w1:=(aa HB).trans (bK.mono (by omega))
 have uc:W.heap.size+2≤w1.heap.size:=by have:=bK.size;have:=aa ET;omega
 have k2:=(bK.block W.heap.size (by omega)).trans (aa HX).1
 have k3:=(bK.block (W.heap.size+1) (by omega)).trans (aa HX).2
 cases ht:kO s with
 |inr p =>
  obtain ⟨k,c⟩:=p
  rw[ht] at NS
  obtain ⟨hc,rfl⟩:=NS
  have HF:Hid (fy s=.error ((c:Int),(k:Int))):=by show _=_;unfold fy;rw[ht]
  obtain ⟨q1,q2⟩:=mg E9 k2 k3 (.string ⟨#[]⟩) (.slice none 0 0) (.slice none 0 0) (.slice none 0 0) (.int .i64 (c:Int)) (.int .i64 0) (.int .i64 (k:Int)) (.string ⟨#[]⟩)
  have Q1:=ab q1
  have Q2:=ab q2
  unfold fT at Q1 Q2
  obtain ⟨⟨y0,y1,y2,y3⟩,yf⟩:=ck k2
  obtain ⟨⟨z0,z1,z2,z3⟩,zf⟩:=ck k3
  have f0:=yf 0
  have f1:=yf 1
  have f2:=yf 2
  have f3:=yf 3
  have g0:=zf 0
  have g1:=zf 1
  have g2:=zf 2
  have g3:=zf 3
  have hcz:((c:Int) != 0)=true:=by simp;omega
  clear bK E9 uc k2 k3 ht q1 q2 yf zf hc HC
  go_wp2
  refine km rfl rfl rfl (aa Q1).1 (aa Q1).2.1 rfl rfl ?_
  rw[aa HF]
  exact ⟨rfl,aa Q2⟩
 |inl ts =>
  rw[ht] at NS
  obtain ⟨v,rfl,cW⟩:=NS
  have HF:Hid (fy s=iM (ts.map Tok.tk)):=by show _=_;unfold fy;rw[ht]
  have Rz:∀t ∈ ts.map Tok.tk,t.text.size≤140737488355327:=fun t h=>by
   obtain ⟨t0,h0,rfl⟩:=List.mem_map.1 h
   have:=AD ht t0 h0
   show t0.text.size≤_
   omega
  have HT:=ab (C3 (H8 cW (zD _) (zD _)) Rz (by have:=Dd ht;simp;omega))
  have XO:=ab (fun e w=>su (W:=W) (r:=iM (ts.map Tok.tk)) (e:=e) (w:=w) E9 uc k2 k3)
  obtain ⟨va,vn,vc,hv⟩:=aU cW
  subst hv
  clear bK E9 uc k2 k3 ht cW Rz HC
  go_wp2_with fail
  refine (aa HT).mono ?_
  intro e w2 Lx
  obtain ⟨c0,ia,il,ic,ma,ml,mc,ea,el,ec,er,sp,rfl,m2,m3,-,-,-⟩:=aa XO _ _ Lx
  have Xf:W.heap.size+2≤w2.heap.size:=by have:=gJ m3;omega
  have pd:=(jm (zE w2.heap.size w2) #[.string c0,.slice ia il ic,.slice ma ml mc,.slice ea el ec] #[.int .i64 er,.int .i64 0,.int .i64 sp,.string ⟨#[]⟩] 27 30)
  obtain ⟨w3,gS⟩:∃w3,w3=(w2.alloc (.cells #[.string c0,.slice ia il ic,.slice ma ml mc,.slice ea el ec] 27)).alloc (.cells #[.int .i64 er,.int .i64 0,.int .i64 sp,.string ⟨#[]⟩] 30):=⟨_,rfl⟩
  have Zg:EM w1 (iM (ts.map Tok.tk)) _ w3:=Lx.up (by rw[gS];exact pd.bl)
  have x7:w3.heap[w2.heap.size]?=some (.cells #[.string c0,.slice ia il ic,.slice ma ml mc,.slice ea el ec] 27 (0,0)):=by rw[gS];exact bL (aF _ _) _
  have x8:w3.heap[w2.heap.size+1]?=some (.cells #[.int .i64 er,.int .i64 0,.int .i64 sp,.string ⟨#[]⟩] 30 (0,0)):=by
   rw[gS]
   have:=aF (w2.alloc (.cells #[.string c0,.slice ia il ic,.slice ma ml mc,.slice ea el ec] 27)) (.cells #[.int .i64 er,.int .i64 0,.int .i64 sp,.string ⟨#[]⟩] 30)
   rw[zJ] at this
   exact this
  obtain ⟨c0',W8,W6,W7,W5,WY,WZ,XC,XA,XB,er',sp',he,k2,k3,q2,q3,nd⟩:=aa XO _ _ Zg
  simp only[Ending.returned.injEq,Value.tuple.injEq,Array.mk.injEq,List.cons.injEq,Value.agg.injEq,Value.string.injEq,Value.slice.injEq,Value.int.injEq,and_true,true_and] at he
  obtain ⟨⟨rfl,⟨rfl,rfl,rfl⟩,⟨rfl,rfl,rfl⟩,rfl,rfl,rfl⟩,rfl,rfl⟩:=he
  obtain ⟨⟨y0,y1,y2,y3⟩,yf⟩:=ck k2
  obtain ⟨⟨z0,z1,z2,z3⟩,zf⟩:=ck k3
  obtain ⟨⟨u0,u1,u2,u3⟩,-⟩:=ck x7
  obtain ⟨⟨t0,t1,t2,t3⟩,-⟩:=ck x8
  have f0:=yf 0
  have f1:=yf 1
  have f2:=yf 2
  have f3:=yf 3
  have g0:=zf 0
  have g1:=zf 1
  have g2:=zf 2
  have g3:=zf 3
  obtain ⟨we,YP⟩:∃we,we=World.drew (fT (fT w3 W.heap.size (.string c0) (.slice ia il ic) (.slice ma ml mc) (.slice ea el ec)) (W.heap.size+1) (.int .i64 er) (.int .i64 0) (.int .i64 sp) (.string ⟨#[]⟩)):=⟨_,rfl⟩
  have Q2:Hid (we.heap[W.heap.size]?=some (.cells #[.string c0,.slice ia il ic,.slice ma ml mc,.slice ea el ec] 27 (0,0))):=by rw[YP,Ba];exact q2
  have Q3:Hid (we.heap[W.heap.size+1]?=some (.cells #[.int .i64 er,.int .i64 0,.int .i64 sp,.string ⟨#[]⟩] 30 (0,0))):=by rw[YP,Ba];exact q3
  have HE:Hid (EM W (iM (ts.map Tok.tk)) (.returned (.tuple #[.agg #[.string c0,.slice ia il ic,.slice ma ml mc,.slice ea el ec],.agg #[.int .i64 er,.int .i64 0,.int .i64 sp,.string ⟨#[]⟩]])) we):=by rw[YP];exact nd.up (zp (zE _ _))
  have HWE:=ab YP
  unfold fT at HWE
  have HW3:=ab gS
  have n1:W.heap.size≠w2.heap.size:=by omega
  have n2:W.heap.size≠w2.heap.size+1:=by omega
  have n3:W.heap.size+1≠w2.heap.size:=by omega
  have n4:W.heap.size+1≠w2.heap.size+1:=by omega
  clear Lx Zg yf zf k2 k3 q2 q3 nd HT XO pd m2 m3 x7 x8 gS YP
  go_upto_region 5 with fail
  rw[←aa HW3]
  go_region
  all_goals
   go_wp2
   rw[←aa HWE]
   refine km rfl rfl rfl (aa Q2) (aa Q3) rfl rfl ?_
   rw[aa HF]
   exact aa HE
end Go.Proofs.YtjophoclfccmcaaGreatDoor
namespace Go.Proofs.YtjophoclfccmcaaGreatDoor
open Go.RowKit
def kn1:ByteArray:=⟨#[115,121,110,116,97,120,32,61,32,34,112,114,111,116,111,51,34,59,32,112,97,99,107,97,103,101,32,97,46,98,59,32,105,109,112,111,114,116,32,34,120,46,112,114,111,116,111,34,59,32,109,101,115,115,97,103,101,32,77,32,123,32,105,110,116,51,50,32,97,32,61,32,49,59,32,125]⟩
def kn2:ByteArray:=⟨#[115,121,110,116,97,120,32,61,32,34,112,114,111,116,111,51,34,59,32,115,101,114,118,105,99,101,32,83,32,123,125]⟩
def knF:Fl:=⟨⟨#[97,46,98]⟩,[⟨#[120,46,112,114,111,116,111]⟩],[.mk ⟨#[77]⟩ [⟨1,⟨#[]⟩,⟨#[105,110,116,51,50]⟩,⟨#[97]⟩,1,0⟩] [] [] [] [] []],[]⟩
theorem UY:Sp (fy kn2)=52:=by kernel_rfl
theorem UX:QI (fy kn2)=19:=by kernel_rfl
theorem U0:Sp (fy kn1)=0:=by kernel_rfl
theorem UZ:QI (fy kn1)=0:=by kernel_rfl
theorem NB:KU (fy kn1)=knF:=by kernel_rfl
end Go.Proofs.YtjophoclfccmcaaGreatDoor
namespace Go.Proofs.YtjophoclfccmcaaGreatDoor
open Go.RowKit
attribute [local go_sem ↓] Go.wp_at_zero Go.wp_at_succ
theorem Wf (w:World) (a b c d e f:Obj):Below w.heap.size w ((((((w.alloc a).alloc b).alloc c).alloc d).alloc e).alloc f)∧((((((w.alloc a).alloc b).alloc c).alloc d).alloc e).alloc f).heap.size=w.heap.size+6 ∧
  (((((w.alloc a).alloc b).alloc c).alloc d).alloc e |>.alloc f).heap[w.heap.size]?=some a∧(((((w.alloc a).alloc b).alloc c).alloc d).alloc e |>.alloc f).heap[w.heap.size+1]?=some b∧(((((w.alloc a).alloc b).alloc c).alloc d).alloc e |>.alloc f).heap[w.heap.size+1+1]?=some c∧(((((w.alloc a).alloc b).alloc c).alloc d).alloc e |>.alloc f).heap[w.heap.size+1+1+1]?=some d∧(((((w.alloc a).alloc b).alloc c).alloc d).alloc e |>.alloc f).heap[w.heap.size+1+1+1+1]?=some e∧(((((w.alloc a).alloc b).alloc c).alloc d).alloc e |>.alloc f).heap[w.heap.size+1+1+1+1+1]?=some f:=by
 have hs:∀(x:World) (o:Obj),(x.alloc o).heap.size=x.heap.size+1:=fun x o=>zJ _ _
 have hn:∀(x:World) (o:Obj) (k:Nat),k=x.heap.size→(x.alloc o).heap[k]?=some o:=fun x o k h=>by rw[h];exact aF x o
 have ho:∀(x:World) (o:Obj) (k:Nat),k<x.heap.size→(x.alloc o).heap[k]?=x.heap[k]?:=fun x o k h=>Below.heap_alloc x o k h
 refine ⟨⟨rfl,rfl,rfl,?_,fun k hk=>?_⟩,?_,?_,?_,?_,?_,?_,?_⟩
 ·simp only[hs];omega
 ·rw[ho _ _ _ (by simp only[hs];omega),ho _ _ _ (by simp only[hs];omega),ho _ _ _ (by simp only[hs];omega),ho _ _ _ (by simp only[hs];omega),ho _ _ _ (by simp only[hs];omega),ho _ _ _ hk]
 ·simp only[hs]
 ·rw[ho _ _ _ (by simp only[hs];omega),ho _ _ _ (by simp only[hs];omega),ho _ _ _ (by simp only[hs];omega),ho _ _ _ (by simp only[hs];omega),ho _ _ _ (by simp only[hs];omega),hn _ _ _ rfl]
 ·rw[ho _ _ _ (by simp only[hs];omega),ho _ _ _ (by simp only[hs];omega),ho _ _ _ (by simp only[hs];omega),ho _ _ _ (by simp only[hs];omega),hn _ _ _ (by simp only[hs])]
 ·rw[ho _ _ _ (by simp only[hs];omega),ho _ _ _ (by simp only[hs];omega),ho _ _ _ (by simp only[hs];omega),hn _ _ _ (by simp only[hs])]
 ·rw[ho _ _ _ (by simp only[hs];omega),ho _ _ _ (by simp only[hs];omega),hn _ _ _ (by simp only[hs])]
 ·rw[ho _ _ _ (by simp only[hs];omega),hn _ _ _ (by simp only[hs])]
 ·rw[hn _ _ _ (by simp only[hs])]
theorem row_one {w:World}{g t sz:Nat}{cs:Array Value} (h:w.heap[g]?=some (.cells cs t (0,0))) (hz:cs.size=1*sz):jd (fun _=>True) w t sz (.slice (some ⟨g,0,none⟩) 1 1) 1 cs.toList :=
 ⟨⟨by rw[Array.length_toList];exact hz,.inr ⟨g,1,cs,rfl,Nat.zero_le _,h,zD _,by decide,hz,by rw[←hz,←Array.length_toList,List.take_length]⟩⟩,fun _ _=>trivial⟩
theorem Rv {A:World}{g1 g2 g3:Nat} (h2:A.heap[g1]?=some (.cells #[.string ⟨#[120,46,112,114,111,116,111]⟩] 9 (0,0))) (h3:A.heap[g2]?=some (.cells #[.int .i64 1,.string ⟨#[]⟩,.string ⟨#[105,110,116,51,50]⟩,.string ⟨#[97]⟩,.int .i64 1,.int .i64 0] 45 (0,0)))
  (h4:A.heap[g3]?=some (.cells #[.string ⟨#[77]⟩,.slice (some ⟨g2,0,none⟩) 1 1,.slice none 0 0,.slice none 0 0,.slice none 0 0,.slice none 0 0,.slice none 0 0] 49 (0,0))) :
  NF knF (.agg #[.string ⟨#[97,46,98]⟩,.slice (some ⟨g1,0,none⟩) 1 1,.slice (some ⟨g3,0,none⟩) 1 1,.slice none 0 0]) (fun _=>True) A:=by
 have hn:∀t sz,jd (fun _=>True) A t sz (.slice none 0 0) 0 []:=fun t sz=>⟨⟨by simp,.inl ⟨rfl,rfl⟩⟩,fun g h=>by cases h⟩
 exact ⟨_,_,_,_,[],rfl,row_one h2 rfl,row_one h4 rfl,.cons (row_one h3 rfl) (hn _ _) (hn _ _) .nil (hn _ _) .nil (hn _ _) (hn _ _) .nil,hn _ _,.nil⟩
theorem Ko {W:World} (hF:nD W) (hE:gW W) (hM:oJ W):Calls Tryz.prog 7 #[] W (pN W):=by
 have HF:=ab hF
 have HE:=ab hE
 have HM:=ab hM
 clear hF hE hM
 go_enter Tryz.func7,Tryz.ntmps7
 go_wp2_with fail
 refine (sy (aa HF) (aa HE) (aa HM) kn1).mono ?_
 intro e w1 hr
 obtain ⟨ia,il,ic,ma,ml,mc,ea,el,ec,rfl,hn,bK⟩:=qU hr
 rw[NB] at hn
 rw[NB,U0,UZ]
 have HN:=ab hn
 have lN:=ab bK
 clear hr hn bK
 go_wp2_with fail
 obtain ⟨hA,hs,q0,q1,q2,q3,q4,q5⟩:=Wf w1 (.cells #[.string knF.kH,.slice ia il ic,.slice ma ml mc,.slice ea el ec] 27) (.cells #[.int .i64 0,.int .i64 0,.int .i64 0,.string ⟨#[]⟩] 30) (.cells #[.string ⟨#[120,46,112,114,111,116,111]⟩] 9) (.cells #[.int .i64 1,.string ⟨#[]⟩,.string ⟨#[105,110,116,51,50]⟩,.string ⟨#[97]⟩,.int .i64 1,.int .i64 0] 45)
  (.cells #[.string ⟨#[77]⟩,.slice (some ⟨w1.heap.size+1+1+1,0,none⟩) 1 1,.slice none 0 0,.slice none 0 0,.slice none 0 0,.slice none 0 0,.slice none 0 0] 49) (.cells #[.string ⟨#[97,46,98]⟩,.slice (some ⟨w1.heap.size+1+1,0,none⟩) 1 1,.slice (some ⟨w1.heap.size+1+1+1+1,0,none⟩) 1 1,.slice none 0 0] 27)
 have LD:=(aa lN).trans (hA.mono (aa lN).size)
 refine (sy ((aa HF).up LD) ((aa HE).up LD) ((aa HM).up LD (aa HM).1) kn2).mono ?_
 intro e w2 hr
 obtain ⟨W8,W6,W7,W5,WY,WZ,XC,XA,XB,rfl,-,bo⟩:=qU hr
 rw[UY,UX]
 obtain ⟨pk,ID⟩:∃pk,(KU (fy kn2)).kH=pk:=⟨_,rfl⟩
 rw[ID]
 have cl:=bo.size
 rw[hs] at cl
 have q0':=(bo.block _ (by rw[hs];omega)).trans q0
 have q1':=(bo.block _ (by rw[hs];omega)).trans q1
 have q5':=(bo.block _ (by rw[hs];omega)).trans q5
 have ki:=LD.trans (bo.mono LD.size)
 have Zk:=((aa HN).up hA).up bo
 have YN:=(Rv q2 q3 q4).up bo
 have Qk:=ab Zk
 have Lr:=ab YN
 have iJ:=ab ki
 have X0:∀o o' j,((w2.alloc o).alloc o').cell? ⟨w1.heap.size,j,none⟩=(#[.string knF.kH,.slice ia il ic,.slice ma ml mc,.slice ea el ec]:Array Value)[j]?:=fun o o' j=>(World.cell?_alloc_lt _ _ _ (by rw[zJ];show w1.heap.size<_;omega)).trans ((World.cell?_alloc_lt _ _ _ (by show w1.heap.size<_;omega)).trans (qw q0' j))
 have X1:∀o o' j,((w2.alloc o).alloc o').cell? ⟨w1.heap.size+1,j,none⟩=(#[.int .i64 0,.int .i64 0,.int .i64 0,.string ⟨#[]⟩]:Array Value)[j]?:=fun o o' j=>(World.cell?_alloc_lt _ _ _ (by rw[zJ];show w1.heap.size+1<_;omega)).trans ((World.cell?_alloc_lt _ _ _ (by show w1.heap.size+1<_;omega)).trans (qw q1' j))
 have X5:∀o o' j,((w2.alloc o).alloc o').cell? ⟨w1.heap.size+1+1+1+1+1,j,none⟩=(#[.string ⟨#[97,46,98]⟩,.slice (some ⟨w1.heap.size+1+1,0,none⟩) 1 1,.slice (some ⟨w1.heap.size+1+1+1+1,0,none⟩) 1 1,.slice none 0 0]:Array Value)[j]?:=fun o o' j=>(World.cell?_alloc_lt _ _ _ (by rw[zJ];show w1.heap.size+1+1+1+1+1<_;omega)).trans ((World.cell?_alloc_lt _ _ _ (by show w1.heap.size+1+1+1+1+1<_;omega)).trans (qw q5' j))
 have oK:=ab (jm (aa iJ) #[.string pk,.slice W8 W6 W7,.slice W5 WY WZ,.slice XC XA XB] #[.int .i64 52,.int .i64 0,.int .i64 19,.string ⟨#[]⟩] 27 30)
 clear hr bo ID q0 q1 q2 q3 q4 q5 q0' q1' q5' ki Zk YN cl hs hA LD HN lN
 go_wp2_with fail
 have H0:=aa oK
 have Vu:=(jm (zE w2.heap.size w2) #[.string pk,.slice W8 W6 W7,.slice W5 WY WZ,.slice XC XA XB] #[.int .i64 52,.int .i64 0,.int .i64 19,.string ⟨#[]⟩] 27 30).bl
 refine (mT ((aa Qk).up Vu) ((aa Lr).up Vu)).mono ?_
 rintro e w3 ⟨rfl,qG⟩
 have CF:=ab (H0.up qG)
 have X3:=(aa CF).x
 have Y3:=(aa CF).y
 clear H0 Vu qG oK X0 X1 X5 Qk Lr iJ
 go_wp2
 go_ret
 exact ⟨rfl,(aa CF).bl⟩
theorem Fv {W:World} (hF:nD W) (hE:gW W) (hM:oJ W) {v:Value}{l:List ByteArray} (h:EU W v l) (hl:l.length≤140737488351232) (IH:Calls Tryz.prog 7 #[] W (pN W)):Calls Tryz.prog 3 #[v] W (pN W):=by
 obtain ⟨a,c,rfl,hm,h3⟩:=id h
 have H3:=ab h3
 have HF:=ab hF
 have HE:=ab hE
 have HM:=ab hM
 have HK:=ab IH
 clear hm h3 h hF hE hM IH
 go_enter Tryz.func3,Tryz.ntmps3
 go_wp2_with fail
 refine (aa HK).mono ?_
 rintro e w1 ⟨rfl,bK⟩
 have kl:=ab bK
 clear bK HK
 go_wp2
 go_loopg [3] l.length (fun gk v3 wr=>∃(k:Nat),v3=.int .i64 (k:Int)∧gk=l.length-k∧k≤l.length∧Hid (Below W.heap.size W wr))
 case atStart=>exact ⟨0,rfl,rfl,by omega,kl⟩
 case round =>
  obtain ⟨k,rfl,dY,hk,HB⟩:=hrel
  have gF:=ab dY
  clear dY
  by_cases dr:k<l.length
  ·obtain ⟨g,off,rfl,hg,hc⟩:=aa H3 (by omega)
   obtain ⟨s,hs⟩:∃s,l[k]?=some s:=⟨_,List.getElem?_eq_getElem dr⟩
   have hcW:=hc k s hs
   have HcW:=ab hcW
   have dK:wr.cell? ⟨g,off+k,none⟩=some (.string s):=((aa HB).cell (p:=⟨g,off+k,none⟩) hg).trans hcW
   clear hc hs hcW
   go_wp2_with fail
   refine (sy ((aa HF).up (aa HB)) ((aa HE).up (aa HB)) ((aa HM).up (aa HB) (aa HM).1) s).mono ?_
   intro e w2 hr
   obtain ⟨ia,il,ic,ma,ml,mc,ea,el,ec,rfl,hn,bo⟩:=qU hr
   obtain ⟨fl,Xn⟩:∃x,KU (fy s)=x:=⟨_,rfl⟩
   obtain ⟨er,her⟩:∃x,Sp (fy s)=x:=⟨_,rfl⟩
   obtain ⟨sp,hsp⟩:∃x,QI (fy s)=x:=⟨_,rfl⟩
   rw[Xn] at hn
   rw[Xn,her,hsp]
   have Uf:=ab Xn
   have HEr:=ab her
   have HSp:=ab hsp
   have Gh:=(aa HB).trans (bo.mono (aa HB).size)
   have hT:=jm Gh #[.string fl.kH,.slice ia il ic,.slice ma ml mc,.slice ea el ec] #[.int .i64 er,.int .i64 0,.int .i64 sp,.string ⟨#[]⟩] 27 30
   have hbS:=(jm (zE w2.heap.size w2) #[.string fl.kH,.slice ia il ic,.slice ma ml mc,.slice ea el ec] #[.int .i64 er,.int .i64 0,.int .i64 sp,.string ⟨#[]⟩] 27 30).bl
   have HN:=ab (hn.up hbS)
   have HT:=ab hT
   have Vt:∀o o',((w2.alloc o).alloc o').cell? ⟨g,off+k,none⟩=some (.string s):=fun o o'=>(World.cell?_alloc_lt _ _ _ (by rw[zJ];show g<_;have:=Gh.size;omega)).trans ((World.cell?_alloc_lt _ _ _ (by show g<_;have:=Gh.size;omega)).trans ((Gh.cell (p:=⟨g,off+k,none⟩) hg).trans (aa HcW)))
   clear hr hn bo Gh hT hbS dK Xn her hsp
   go_wp2_with fail
   refine (Fi s).mono ?_
   intro e w4 hr
   obtain ⟨W8,W6,W7,W5,WY,WZ,XC,XA,XB,rfl,Zq,fC⟩:=qU hr
   rw[aa Uf] at Zq
   rw[aa Uf,aa HEr,aa HSp]
   have Oj:=(aa HT).up fC
   have EW:=ab ((aa HN).up fC)
   have aaG:=ab Zq
   have X4:∀o o' j,((w4.alloc o).alloc o').cell? ⟨w2.heap.size,j,none⟩=(#[.string fl.kH,.slice ia il ic,.slice ma ml mc,.slice ea el ec]:Array Value)[j]?:=fun o o' j=>(World.cell?_alloc_lt _ _ _ (by rw[zJ];have:=Oj.lx;show w2.heap.size<_;omega)).trans ((World.cell?_alloc_lt _ _ _ Oj.lx).trans (Oj.x j))
   have Y4:∀o o' j,((w4.alloc o).alloc o').cell? ⟨w2.heap.size+1,j,none⟩=(#[.int .i64 er,.int .i64 0,.int .i64 sp,.string ⟨#[]⟩]:Array Value)[j]?:=fun o o' j=>(World.cell?_alloc_lt _ _ _ (by rw[zJ];have:=Oj.ly;show w2.heap.size+1<_;omega)).trans ((World.cell?_alloc_lt _ _ _ Oj.ly).trans (Oj.y j))
   have Ws:=ab (jm Oj.bl #[.string fl.kH,.slice W8 W6 W7,.slice W5 WY WZ,.slice XC XA XB] #[.int .i64 er,.int .i64 0,.int .i64 sp,.string ⟨#[]⟩] 27 30)
   clear hr Zq fC Oj HT HN Vt
   go_wp2_with fail
   have Vu:=(jm (zE w4.heap.size w4) #[.string fl.kH,.slice W8 W6 W7,.slice W5 WY WZ,.slice XC XA XB] #[.int .i64 er,.int .i64 0,.int .i64 sp,.string ⟨#[]⟩] 27 30).bl
   refine (mT ((aa EW).up Vu) ((aa aaG).up Vu)).mono ?_
   rintro e w5 ⟨rfl,mE⟩
   have HB5:=ab ((aa Ws).up mE).bl
   clear mE Vu X4 Y4 Ws EW aaG
   go_wp2
   go_roundg (l.length-(k+1))
   case measure=>have:=aa gF;omega
   case rel=>exact ⟨k+1,by go_num,rfl,by omega,HB5⟩
  ·obtain rfl:k=l.length:=by omega
   go_wp2
   go_ret
   exact ⟨rfl,aa HB⟩
theorem yq {W:World}{v:Value}{l:List ByteArray} (hF:nD W) (hE:gW W) (hM:oJ W) (h:EU W v l) (hl:l.length≤140737488351232):Calls Tryz.prog 3 #[v] W fun e W'=>e=.returned (.bool true)∧Below W.heap.size W W':=Fv hF hE hM h hl (Ko hF hE hM)
end Go.Proofs.YtjophoclfccmcaaGreatDoor
namespace Go.Proofs.YtjophoclfccmcaaGreatDoor
open Go.ChangeShapes Go.WideShapes Go.ChangeAt Go.RowKit
theorem DW {H:Type}{enc:TypeId×Value→H}{P:Program}{w:World}{base:Nat}{sp:Nat→Bool}{held:Bool}{fuel:Nat}{t:TypeId}{ms:_}{cs:List Value}{nm:String}{d:DataW H}{p:List MemPlace}
  (ht:P.underlying t=some (.interface ms)) (h:DataW.trod enc P w base sp held fuel t cs=some (.iface nm d,p)):∃u v,cs=[.iface u v]:=by
 cases fuel with
 |zero=>simp[DataW.trod] at h
 |succ fuel =>
  simp only[DataW.trod,ht] at h
  split at h
  all_goals first
   |exact ⟨_,_,rfl⟩
   |(simp at h;done)
   |(simp_all;done)
   |(rename_i heq _;cases heq;done)
   |(rename_i heq;cases heq;done)
theorem IM {W:World}{name nm:String}{d:DataW Unit}{g:Nat} (hg:Tryz.prog.globalNamed name=some g) (hty:(Tryz.prog.globals[g]?).map (·.type)=some 150) (h:Lib.VarReads Tryz.prog W name (.iface nm d)):Lq W g:=by
 obtain ⟨g',t',cs,fuel,p,tH,ht',Vd,hd⟩:=h
 obtain rfl:=zC (hg.symm.trans tH)
 obtain rfl:=zC (hty.symm.trans ht')
 have hc:=World.var?_cell hg Vd
 obtain ⟨u,v,fk⟩:=DW Tryz.underlying150 hd
 have h1:W.cell? ⟨g,0,none⟩=some (.iface u v):=by
  rw[hc]
  have:cs.toList[0]?=some (.iface u v):=by rw[fk];rfl
  simpa using this
 exact ⟨World.block_lt_of_cell? W _ h1,_,h1,.inr ⟨u,v,rfl⟩⟩
theorem RZ {W:World}{laid:List (String×DataW Unit)} (h:laidMet Tryz.prog laid W) (hm:("strconv.ErrSyntax",Rows.laid_strconv_ErrSyntax) ∈ laid) (CL:("strconv.ErrRange",Rows.laid_strconv_ErrRange) ∈ laid):gW W :=
 ⟨IM (by kernel_rfl) (by kernel_rfl) (Lib.laidMet.reads h hm),IM (by kernel_rfl) (by kernel_rfl) (Lib.laidMet.reads h CL)⟩
theorem Ov:Tryz.prog.globalNamed "sigil/wire.forms" = some 0:=by kernel_rfl
theorem Gj:(Tryz.prog.globals[0]?).map (·.type)=some 124:=by kernel_rfl
theorem GR:Tryz.prog.cellsOf 124=45:=by kernel_rfl
theorem Bf:Tryz.prog.cellsOf 123=5:=by kernel_rfl
theorem cellsByte:Tryz.prog.cellsOf 5=1:=by kernel_rfl
theorem Gs {H:Type}{enc:TypeId×Value→H}{w:World}{base:Nat}{sp:Nat→Bool}{held:Bool}{fuel:Nat}{cs:List Value}{a b c d e:Int}{p:List MemPlace}
  (h:DataW.trod enc Tryz.prog w base sp held fuel 123 cs=some (.agg [.lit (.int .u8 a),.lit (.int .u8 b),.lit (.int .u8 c),.lit (.int .u8 d),.lit (.int .u8 e)],p)) :
  cs=[.int .u8 a,.int .u8 b,.int .u8 c,.int .u8 d,.int .u8 e]:=by
 obtain ⟨xs,k,_,hx,hlen,Tl,hf⟩:=DataW.trod_struct Tryz.underlying123 h
 rw[Bf] at hlen
 match xs,Tl,cs,hlen with
 |[y0,y1,y2,y3,y4],_,[v0,v1,v2,v3,v4],_ =>
  have g0:=hf 0 _ rfl
  have g1:=hf 1 _ rfl
  have g2:=hf 2 _ rfl
  have g3:=hf 3 _ rfl
  have g4:=hf 4 _ rfl
  simp[cellsByte] at g0 g1 g2 g3 g4
  obtain ⟨n0,e0,f0,_⟩:=DataW.trod_int Tryz.underlying5 g0
  obtain ⟨n1,e1,f1,_⟩:=DataW.trod_int Tryz.underlying5 g1
  obtain ⟨n2,e2,f2,_⟩:=DataW.trod_int Tryz.underlying5 g2
  obtain ⟨n3,e3,f3,_⟩:=DataW.trod_int Tryz.underlying5 g3
  obtain ⟨n4,e4,f4,_⟩:=DataW.trod_int Tryz.underlying5 g4
  simp at e0 e1 e2 e3 e4
  subst e0 e1 e2 e3 e4 f0 f1 f2 f3 f4
  simp at hx
  obtain ⟨⟨q0,q1,q2,q3,q4⟩,_⟩:=hx
  subst q0 q1 q2 q3 q4
  rfl
theorem Dg {H:Type}{enc:TypeId×Value→H}{w:World}{base:Nat}{sp:Nat→Bool}{held:Bool}{fuel:Nat}{cs:List Value}{p:List MemPlace}
  (h:DataW.trod enc Tryz.prog w base sp held fuel 124 cs=some (Rows.laid_sigil_wire_forms,p)) :
  ∀(i:Nat) (a b c d e:Int),lf[i]?=some (a,b,c,d,e)→(cs.drop (i*5)).take 5=[.int .u8 a,.int .u8 b,.int .u8 c,.int .u8 d,.int .u8 e]:=by
 intro i a b c d e hf
 cases fuel with
 |zero=>simp[DataW.trod] at h
 |succ fuel =>
  simp only[DataW.trod,Tryz.underlying124,Bf,GR] at h
  split at h
  ·obtain ⟨xs,hm,hx⟩:=Option.map_eq_some_iff.1 h
   have hi:i<9:=by
    have:=(zB hf).1
    rw[oS] at this
    exact this
   obtain ⟨y,hy,hfy⟩:=Lib.mapM_at hm i i (by simp[hi])
   have hxs:xs.map (·.1)=lf.map fun z=>(DataW.agg [.lit (.int .u8 z.1),.lit (.int .u8 z.2.1),.lit (.int .u8 z.2.2.1),.lit (.int .u8 z.2.2.2.1),.lit (.int .u8 z.2.2.2.2)]:DataW H):=by
    have:=congrArg Prod.fst hx
    simpa[Rows.laid_sigil_wire_forms,lf] using this
   have h2:(xs.map (·.1))[i]?=some y.1:=by simp[hy]
   rw[hxs,List.getElem?_map,hf] at h2
   simp at h2
   obtain ⟨y1,y2⟩:=y
   simp only at h2
   subst h2
   exact Gs hfy
  ·cases h
theorem RY {W:World}{laid:List (String×DataW Unit)} (h:laidMet Tryz.prog laid W) (hm:("sigil/wire.forms",Rows.laid_sigil_wire_forms) ∈ laid):nD W:=by
 obtain ⟨g',t',cs,fuel,p,tH,ht',Vd,hd⟩:=Lib.laidMet.reads h hm
 obtain rfl:=zC (Ov.symm.trans tH)
 obtain rfl:=zC (Gj.symm.trans ht')
 have hc:=World.var?_cell Ov Vd
 have ht:=Dg hd
 have fp:∀(i j:Nat) (l:List Value) (v:Value),(cs.toList.drop (i*5)).take 5=l→j<5→l[j]?=some v→W.cell? ⟨0,i*5+j,none⟩=some v:=by
  intro i j l v hl hj hv
  rw[hc]
  subst hl
  rw[List.getElem?_take,if_pos hj,List.getElem?_drop] at hv
  simpa using hv
 refine ⟨?_,fun i a b c d e hf=>?_⟩
 ·have:=fp 0 0 _ (.int .u8 0) (ht 0 0 127 0 0 0 rfl) (by decide) rfl
  exact World.block_lt_of_cell? W _ this
 ·have hl:=ht i a b c d e hf
  have h0:=fp i 0 _ _ hl (by decide) rfl
  have h1:=fp i 1 _ _ hl (by decide) rfl
  have h2:=fp i 2 _ _ hl (by decide) rfl
  have h3:=fp i 3 _ _ hl (by decide) rfl
  have h4:=fp i 4 _ _ hl (by decide) rfl
  exact ⟨h0,h1,h2,h3,h4⟩
end Go.Proofs.YtjophoclfccmcaaGreatDoor

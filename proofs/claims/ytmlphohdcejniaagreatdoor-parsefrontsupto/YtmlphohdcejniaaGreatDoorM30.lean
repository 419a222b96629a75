import Derived.Test.YtmlphohdcejniaaGreatDoorM29
import Derived.Defers
import Derived.Recover
import Derived.Laws.Pointers
set_option maxHeartbeats 2000000
set_option maxRecDepth 100000
namespace Go.Proofs.YtmlphohdcejniaaGreatDoor
open Go.RowKit
attribute [local go_sem ↓] Go.wp_at_zero Go.wp_at_succ
def Z4:Array Value:=#[.string ⟨#[]⟩,.slice none 0 0,.slice none 0 0,.slice none 0 0]
def nO (er sp:Int):Array Value:=#[.int .i64 er,.int .i64 0,.int .i64 sp,.string ⟨#[]⟩]
def Ct (p2 p3:Nat) (a b:Array Value) (w w':World):Prop:=w'.heap[p2]?=some (.cells a 26 (0,0))∧w'.heap[p3]?=some (.cells b 33 (0,0))∧w'.os=w.os∧w'.tape=w.tape∧w'.output=w.output∧w.heap.size≤w'.heap.size∧∀k,k<w.heap.size→k≠p2→k≠p3→w'.heap[k]?=w.heap[k]?
theorem y7 (w:World) (t:TypeId) (v:Value):Sem.run Tryz.prog (binOp BinOp.neq 20 (.iface t v) .nilIface) w=.ok (.bool true) w:=by
 go_simp
theorem LB (w:World) (v:Value):(Instr.typeAssert (.iface 33 v) 20 33 false).run Tryz.prog w=.ok v w:=by
 unfold Instr.typeAssert
 simp[run_underlying Tryz.underlying33]
noncomputable def pA:Code:=match Tryz.f48.body with
 |some (.seq _ t)=>t
 |_=>.skip
noncomputable def Fk:Code:=match Tryz.f48.body with
 |some (.seq a _)=>a
 |_=>.skip
theorem De:Tryz.f48.body=some (.seq Fk pA):=rfl
theorem On {p2 p3:Nat}{w:World}{a0 a1 a2 a3 b0 b1 b2 b3:Value} (eo:p2≠p3) (h2:w.heap[p2]?=some (.cells #[a0,a1,a2,a3] 26 (0,0))) (h3:w.heap[p3]?=some (.cells #[b0,b1,b2,b3] 33 (0,0))) (c0 c1 c2 c3 d0 d1 d2 d3:Value):Ct p2 p3 #[c0,c1,c2,c3] #[d0,d1,d2,d3] w (gp (gp w p2 c0 c1 c2 c3) p3 d0 d1 d2 d3):=by
 obtain ⟨r1,r2⟩:=fW h2 c0 c1 c2 c3
 obtain ⟨q1,q2⟩:=fW ((r2.block p3 (zA h3).1 (by simpa using eo.symm)).trans h3) d0 d1 d2 d3
 exact ⟨(q2.block p2 (zA r1).1 (by simpa using eo)).trans r1,q1,q2.os.trans r2.os,q2.tape.trans r2.tape,q2.output.trans r2.output,Nat.le_trans r2.size q2.size,fun k hk k2 k3=>(q2.block k (Nat.lt_of_lt_of_le hk r2.size) (by simpa using k3)).trans (r2.block k hk (by simpa using k2))⟩
theorem RJ {p2 p3:Nat}{a b:Array Value}{w w':World} (h:Ct p2 p3 a b w w'):Ct p2 p3 a b w w'.drew:=h
theorem LW {p2 p3:Nat}{er sp:Int}{w:World}{a0 a1 a2 a3 b0 b1 b2 b3:Value} (eo:p2≠p3) (h2:w.heap[p2]?=some (.cells #[a0,a1,a2,a3] 26 (0,0))) (h3:w.heap[p3]?=some (.cells #[b0,b1,b2,b3] 33 (0,0))) {u:Nat→Value}{Q:Exit→Act→World→Prop}
  (hQ:∀tm w',Ct p2 p3 Z4 (nO er sp) w w'→Q .normal ⟨tm,[]⟩ w'):pA.wp Tryz.prog Q ⟨#[.pointer (some ⟨p2,0,none⟩),.pointer (some ⟨p3,0,none⟩),.iface 33 (.agg (nO er sp)),u 3,u 4,u 5,u 6,u 7,u 8],[]⟩ w:=by
 have HQ:=aj hQ
 have HCt:=aj (On eo h2 h3 (.string ⟨#[]⟩) (.slice none 0 0) (.slice none 0 0) (.slice none 0 0) (.int .i64 er) (.int .i64 0) (.int .i64 sp) (.string ⟨#[]⟩))
 unfold gp at HCt
 obtain ⟨⟨y0,y1,y2,y3⟩,yf⟩:=gV h2
 obtain ⟨⟨z0,z1,z2,z3⟩,zf⟩:=gV h3
 have f0:=yf 0
 have f1:=yf 1
 have f2:=yf 2
 have f3:=yf 3
 have e0:=zf 0
 have e1:=zf 1
 have e2:=zf 2
 have e3:=zf 3
 have y9:=y7
 have hta:=LB
 unfold nO at HQ ⊢
 unfold Z4 at HQ
 clear yf zf h2 h3 hQ
 unfold pA
 dsimp only[Tryz.f48]
 go_wp2
 go_region
 refine aa HQ _ _ (RJ ?_)
 with_reducible exact aa HCt
theorem LX {p2 p3:Nat}{w:World}{u:Nat→Value}{Q:Exit→Act→World→Prop} (hQ:∀tm,Q .normal ⟨tm,[]⟩ w):pA.wp Tryz.prog Q ⟨#[.pointer (some ⟨p2,0,none⟩),.pointer (some ⟨p3,0,none⟩),.nilIface,u 3,u 4,u 5,u 6,u 7,u 8],[]⟩ w:=by
 have HQ:=aj hQ
 clear hQ
 unfold pA
 dsimp only[Tryz.f48]
 go_wp2
 exact aa HQ _
theorem RQ {p2 p3:Nat}{er sp:Int}{w:World}{a0 a1 a2 a3 b0 b1 b2 b3:Value} (eo:p2≠p3) (h2:w.heap[p2]?=some (.cells #[a0,a1,a2,a3] 26 (0,0))) (h3:w.heap[p3]?=some (.cells #[b0,b1,b2,b3] 33 (0,0))) :
  CallsD Tryz.prog 48 #[.pointer (some ⟨p2,0,none⟩),.pointer (some ⟨p3,0,none⟩)] (.panicking [{ v:=.iface 33 (.agg (nO er sp)),recovered:=false }]) w fun e u' w' =>
   e=.returned (.tuple #[])∧u'=.panicking [{ v:=.iface 33 (.agg (nO er sp)),recovered:=true }]∧Ct p2 p3 Z4 (nO er sp) w w':=by
 refine callsD_of_wpS Tryz.func48 De fun c₀ cs hu=>?_
 apply wpS_seq
 obtain ⟨tl,oX⟩:∃t,pA=t:=⟨_,rfl⟩
 rw[oX]
 unfold Fk
 dsimp only[Tryz.f48]
 apply wpS_region
 simp[wpOpsS,go_sem,recoverD,hu,Exit.thenS]
 rw[←oX]
 refine wpS_of_wp ?_
 simp only[Array.replicate_succ,Array.replicate_zero,List.push_toArray,List.append_toArray,List.nil_append,List.cons_append,zL,zM,zN]
 refine LW (u:=fun i=>[undef,undef,undef,.iface 33 (.agg (nO er sp))].getD i undef) eo h2 h3 ?_
 intro tm w' ER
 refine ⟨rfl,_,rfl,.tuple #[],?_,rfl,rfl,ER⟩
 simp[results]
theorem RT {p2 p3:Nat}{w:World} :
  CallsD Tryz.prog 48 #[.pointer (some ⟨p2,0,none⟩),.pointer (some ⟨p3,0,none⟩)] .returning w fun e u' w'=>e=.returned (.tuple #[])∧u'=.returning∧w'=w:=by
 refine callsD_of_wpS Tryz.func48 De fun c₀ cs hu=>?_
 apply wpS_seq
 obtain ⟨tl,oX⟩:∃t,pA=t:=⟨_,rfl⟩
 rw[oX]
 unfold Fk
 dsimp only[Tryz.f48]
 apply wpS_region
 simp[wpOpsS,go_sem,recoverD,hu,Exit.thenS]
 rw[←oX]
 refine wpS_of_wp ?_
 simp only[Array.replicate_succ,Array.replicate_zero,List.push_toArray,List.append_toArray,List.nil_append,List.cons_append,zL,zM,zN]
 refine LX (u:=fun i=>[undef,undef,undef,.nilIface].getD i undef) ?_
 intro tm
 refine ⟨rfl,.returning,?_,.tuple #[],?_,rfl,rfl,rfl⟩
 ·cases c₀
  simp_all
 ·simp[results]
def S7 (W:World) (r:Except (Int×Int) (Fl×aD)) (e:Ending) (w:World):Prop:=match r with
 |.error y=>e=.returned (.tuple #[.agg Z4,.agg (nO y.1 y.2)])∧Below W.heap.size W w
 |.ok (x,_)=>∃fv,e=.returned (.tuple #[fv,.agg (nO 0 0)])∧NF x fv (fun k=>W.heap.size≤k) w∧Below W.heap.size W w
theorem rF (a:Fl) (x:Value):aK (NF a x):=by
 rintro P P' w w' hg ⟨vi,vm,ve,cm,ce,rfl,h1,h2,h3,h4,h5⟩
 exact ⟨vi,vm,ve,cm,ce,rfl,h1.goes hg,h2.goes hg,df _ _ _ _ _ _ hg h3,h4.goes hg,cT _ _ _ _ _ _ hg h5⟩
theorem LJ {ts:List Tk} (h:∀t ∈ ts,t.text.size≤140737488355327):Sm (fF ts):=by
 unfold fF
 split
 ·intro t ht
  exact h t (List.mem_of_mem_take ht)
 ·split<;>exact h
theorem Jj {ts:List Tk} (h:ts.length≤16384):(fF ts).ts.length≤16384:=by
 unfold fF
 split
 ·simp only[List.length_take]
  omega
 ·split<;>exact h
theorem nD {P:Program}{fn:Func}{p q:Tmp}{ty tz:TypeId} (h:fn.results=#[.cell p ty,.cell q tz]) (tmps:Array Value) (w:World) (g k:Nat) (t u:TypeId) (cs ds:Array Value) (fr gr:Nat×Nat) (d e:TypeDesc)
  (hp:tmps.getD p undef=.pointer (some ⟨g,0,none⟩)) (hq:tmps.getD q undef=.pointer (some ⟨k,0,none⟩)) (hg:w.heap[g]?=some (.cells cs t fr)) (hk:w.heap[k]?=some (.cells ds u gr))
  (hu:P.underlying ty=some d) (hd:(match d with|.struct _|.array _ _=>true|_=>false)=true) (hi:(P.info? ty).map (·.size)=some cs.size) (hv:P.underlying tz=some e) (he:(match e with|.struct _|.array _ _=>true|_=>false)=true) (hj:(P.info? tz).map (·.size)=some ds.size) :
  (results fn tmps).run P w=.ok (.tuple #[.agg cs,.agg ds]) w:=by
 have Wu:tmps[p]?.getD undef=.pointer (some ⟨g,0,none⟩):=by simpa using hp
 have hq':tmps[q]?.getD undef=.pointer (some ⟨k,0,none⟩):=by simpa using hq
 simp[results,h,Wu,hq',asAddr,run_loadVar_row w g t ty cs fr d hg hu hd hi,run_loadVar_row w k u tz ds gr e hk hv he hj]
theorem Fh:(Tryz.prog.info? 33).map (·.size)=some 4:=by kernel_rfl
theorem LU {W:World}{v:Value}{ts:List Tk} (hF:nn W) (hE:gM W) (hM:gY W) (h:gd W W.heap.size W.heap.size v ts) (hs:∀t ∈ ts,t.text.size≤140737488355327) (hn:ts.length≤16384):Calls Tryz.prog 30 #[v] W (S7 W (hZ (fF ts))):=by
 have YI:∀(fn:Fn) (first cap:Array Value) (w:World),(Instr.makeFunc fn first cap).run Tryz.prog w=.ok (.func fn first cap) w:=fun _ _ _ _=>rfl
 have bJ:Below W.heap.size W ((W.alloc (.cells Z4 26)).alloc (.cells (nO 0 0) 33)):=((zE _ _).alloc (zD _) _).alloc (by rw[zJ];omega) _
 have oq:((W.alloc (.cells Z4 26)).alloc (.cells (nO 0 0) 33)).heap[W.heap.size]?=some (.cells Z4 26 (0,0)):=(Below.heap_alloc _ _ _ (by rw[zJ];omega)).trans (aC _ _)
 have fO:((W.alloc (.cells Z4 26)).alloc (.cells (nO 0 0) 33)).heap[W.heap.size+1]?=some (.cells (nO 0 0) 33 (0,0)):=by
  have:=aC (W.alloc (.cells Z4 26)) (.cells (nO 0 0) 33)
  rw[zJ] at this
  exact this
 have bU:((W.alloc (.cells Z4 26)).alloc (.cells (nO 0 0) 33)).heap.size=W.heap.size+2:=by simp only[zJ]
 have HC:=aj (yW (h.new bJ (by rw[bU];omega) (by rw[bU];omega)) hn)
 have EE:=aj oq
 have yD:=aj fO
 have iL:=aj bJ
 have EW:=aj bU
 have yF:=aj (show nn W∧gM W∧gY W from ⟨hF,hE,hM⟩)
 have HS:=aj (LJ hs)
 have Hn:=aj (Jj hn)
 clear oq fO bJ bU hF hE hM h hs hn
 unfold Z4 nO at HC EE yD iL EW
 go_enter_defers Tryz.func30,Tryz.ntmps30
 go_wp2_with fail
 refine (aa HC).mono ?_
 rintro e w1 ⟨b,rfl,xQ,SZ,SK⟩
 rw[aa EW] at xQ SZ
 have aX:Below W.heap.size W w1:=(aa iL).trans (SZ.mono (by omega))
 have SW:Env W w1 b:=⟨(aa yF).1,(aa yF).2.1,(aa yF).2.2,aX,by omega⟩
 have HFl:=aj (NZ SW SK (aa HS) (aa Hn))
 have h2:=(SZ.block W.heap.size (by omega)).trans (aa EE)
 have h3:=(SZ.block (W.heap.size+1) (by omega)).trans (aa yD)
 have HH2:=aj h2
 have HH3:=aj h3
 have Hbl:=aj xQ
 have HbW:=aj aX
 clear h2 h3 xQ SZ SK aX SW HC EE yD iL EW yF
 go_wp2_with fail
 refine (aa HFl).mono ?_
 intro e w2 j7
 unfold CR at j7
 cases hr:hZ (fF ts) with
 |error y =>
  rw[hr] at j7
  obtain ⟨rfl,hg⟩:=j7
  have xQ:=aa Hbl
  have k2:=(hg.block W.heap.size (zA (aa HH2)).1 (by simp;omega)).trans (aa HH2)
  have k3:=(hg.block (W.heap.size+1) (zA (aa HH3)).1 (by simp;omega)).trans (aa HH3)
  have hB:Below W.heap.size W w2:=(aa HbW).grown hg (aa HbW).size (fun k e=>by simp at e;omega)
  show bodyPostD _ _ _ (Exit.panic _) _ _
  refine leaves_cons (f:=48) (args:=#[.pointer (some ⟨W.heap.size,0,none⟩),.pointer (some ⟨W.heap.size+1,0,none⟩)]) (by simp) (by simp[go_sem]) ?_
  refine (RQ (er:=y.1) (sp:=y.2) (by omega) k2 k3).mono ?_
  rintro e u' w3 ⟨rfl,rfl,ER⟩
  refine ⟨_,nD rfl _ _ W.heap.size (W.heap.size+1) 26 33 Z4 (nO y.1 y.2) (0,0) (0,0) _ _ rfl rfl ER.1 ER.2.1 Tryz.underlying26 rfl py Tryz.underlying33 rfl Fh,rfl,?_⟩
  obtain ⟨_,_,o1,o2,o3,o4,o5⟩:=ER
  exact hB.trans ⟨o1,o2,o3,o4,fun k hk=>o5 k (by have:=hB.size;omega) (by omega) (by omega)⟩
 |ok y =>
  rw[hr] at j7
  obtain ⟨fv,rfl,Wv,aaX,hg⟩:=j7
  have HNf:=aj Wv
  obtain ⟨vi,vm,ve,cm,ce,rfl,q1,q2,_,q4,_⟩:=Wv
  obtain ⟨ia,ic,e1⟩:=bN q1.1
  obtain ⟨ma,mc,e2⟩:=bN q2.1
  obtain ⟨ea,ec,e3⟩:=bN q4.1
  subst e1 e2 e3
  have xQ:=aa Hbl
  have k2:=(hg.block W.heap.size (zA (aa HH2)).1 (by simp;omega)).trans (aa HH2)
  have k3:=(hg.block (W.heap.size+1) (zA (aa HH3)).1 (by simp;omega)).trans (aa HH3)
  have hB:Below W.heap.size W w2:=(aa HbW).grown hg (aa HbW).size (fun k e=>by simp at e;omega)
  obtain ⟨⟨y0,y1,y2,y3⟩,yf⟩:=gV k2
  obtain ⟨⟨z0,z1,z2,z3⟩,zf⟩:=gV k3
  have f0:=yf 0
  have f1:=yf 1
  have f2:=yf 2
  have f3:=yf 3
  have g0:=zf 0
  have g1:=zf 1
  have g2:=zf 2
  have g3:=zf 3
  have ER:=On (by omega) k2 k3 (.string y.1.eI) (.slice ia y.1.bM.length ic) (.slice ma y.1.ms.length mc) (.slice ea y.1.es.length ec) (.int .i64 0) (.int .i64 0) (.int .i64 0) (.string ⟨#[]⟩)
  have jn:NF y.1 (.agg #[.string y.1.eI,.slice ia y.1.bM.length ic,.slice ma y.1.ms.length mc,.slice ea y.1.es.length ec]) (fun k=>W.heap.size≤k) (gp (gp w2 W.heap.size (.string y.1.eI) (.slice ia y.1.bM.length ic) (.slice ma y.1.ms.length mc) (.slice ea y.1.es.length ec)) (W.heap.size+1) (.int .i64 0) (.int .i64 0) (.int .i64 0) (.string ⟨#[]⟩))∧Below W.heap.size W (gp (gp w2 W.heap.size (.string y.1.eI) (.slice ia y.1.bM.length ic) (.slice ma y.1.ms.length mc) (.slice ea y.1.es.length ec)) (W.heap.size+1) (.int .i64 0) (.int .i64 0) (.int .i64 0) (.string ⟨#[]⟩)):=by
   obtain ⟨_,_,o1,o2,o3,o4,o5⟩:=ER
   have oI:W.heap.size+2≤w1.heap.size:=by have:=(zA (aa HH3)).1;omega
   exact ⟨rF _ _ _ _ _ _ (fun k hk hl=>⟨by omega,o5 k hl (by omega) (by omega)⟩) (aa HNf),hB.trans ⟨o1,o2,o3,o4,fun k hk=>o5 k (by have:=hB.size;omega) (by omega) (by omega)⟩⟩
  have HCt:=aj ER
  have kY:=aj jn
  unfold gp at HCt kY
  have Hr:=aj hr
  clear ER jn yf zf k2 k3 hB q1 q2 q4 aaX hg HFl hr
  go_wp2
  refine leaves_cons (f:=48) (args:=#[.pointer (some ⟨W.heap.size,0,none⟩),.pointer (some ⟨W.heap.size+1,0,none⟩)]) (by simp) (by simp[go_sem]) ?_
  refine RT.mono ?_
  rintro e u' w3 ⟨rfl,rfl,l8⟩
  have ER:=aa HCt
  have jn:=aa kY
  rw[←l8] at ER jn
  refine ⟨_,nD rfl _ _ W.heap.size (W.heap.size+1) 26 33 _ _ (0,0) (0,0) _ _ rfl rfl ER.1 ER.2.1 Tryz.underlying26 rfl py Tryz.underlying33 rfl Fh,?_⟩
  rw[aa Hr]
  exact ⟨_,rfl,jn.1,jn.2⟩
noncomputable def na (ts:List Tk):Except (Int×Int) (Fl×aD):=if 16384<ts.length then .error (2,0) else hZ (fF ts)
theorem wJ {W w:World}{a0 a1 a2 a3 b0 b1 b2 b3:Value} (hB:Below W.heap.size W w) (h2:w.heap[W.heap.size]?=some (.cells #[a0,a1,a2,a3] 26 (0,0))) (h3:w.heap[W.heap.size+1]?=some (.cells #[b0,b1,b2,b3] 33 (0,0))) (c0 c1 c2 c3 d0 d1 d2 d3:Value) :
  Ct W.heap.size (W.heap.size+1) #[c0,c1,c2,c3] #[d0,d1,d2,d3] w (gp (gp w W.heap.size c0 c1 c2 c3) (W.heap.size+1) d0 d1 d2 d3)∧Below W.heap.size W (gp (gp w W.heap.size c0 c1 c2 c3) (W.heap.size+1) d0 d1 d2 d3):=by
 have ER:=On (by omega) h2 h3 c0 c1 c2 c3 d0 d1 d2 d3
 refine ⟨ER,?_⟩
 obtain ⟨_,_,o1,o2,o3,o4,o5⟩:=ER
 exact hB.trans ⟨o1,o2,o3,o4,fun k hk=>o5 k (by have:=hB.size;omega) (by omega) (by omega)⟩
theorem Aa {W W0 w:World}{r:Except (Int×Int) (Fl×aD)}{e:Ending}{a0 a1 a2 a3 b0 b1 b2 b3:Value} (U3:Below W.heap.size W W0) (hl:W.heap.size+2≤W0.heap.size) (h2:W0.heap[W.heap.size]?=some (.cells #[a0,a1,a2,a3] 26 (0,0))) (h3:W0.heap[W.heap.size+1]?=some (.cells #[b0,b1,b2,b3] 33 (0,0))) (h:S7 W0 r e w) :
  ∃c0 ia il ic ma ml mc ea el ec er sp,e=.returned (.tuple #[.agg #[.string c0,.slice ia il ic,.slice ma ml mc,.slice ea el ec],.agg #[.int .i64 er,.int .i64 0,.int .i64 sp,.string ⟨#[]⟩]])∧w.heap[W.heap.size]?=some (.cells #[a0,a1,a2,a3] 26 (0,0))∧w.heap[W.heap.size+1]?=some (.cells #[b0,b1,b2,b3] 33 (0,0)) ∧
   (gp (gp w W.heap.size (.string c0) (.slice ia il ic) (.slice ma ml mc) (.slice ea el ec)) (W.heap.size+1) (.int .i64 er) (.int .i64 0) (.int .i64 sp) (.string ⟨#[]⟩)).heap[W.heap.size]?=some (.cells #[.string c0,.slice ia il ic,.slice ma ml mc,.slice ea el ec] 26 (0,0)) ∧
   (gp (gp w W.heap.size (.string c0) (.slice ia il ic) (.slice ma ml mc) (.slice ea el ec)) (W.heap.size+1) (.int .i64 er) (.int .i64 0) (.int .i64 sp) (.string ⟨#[]⟩)).heap[W.heap.size+1]?=some (.cells #[.int .i64 er,.int .i64 0,.int .i64 sp,.string ⟨#[]⟩] 33 (0,0)) ∧
   S7 W r e (gp (gp w W.heap.size (.string c0) (.slice ia il ic) (.slice ma ml mc) (.slice ea el ec)) (W.heap.size+1) (.int .i64 er) (.int .i64 0) (.int .i64 sp) (.string ⟨#[]⟩)):=by
 cases hr:r with
 |error y =>
  rw[hr] at h
  obtain ⟨rfl,hb⟩:=h
  have k2:=(hb.block W.heap.size (by omega)).trans h2
  have k3:=(hb.block (W.heap.size+1) (by omega)).trans h3
  obtain ⟨q1,q2⟩:=wJ (U3.trans (hb.mono U3.size)) k2 k3 (.string ⟨#[]⟩) (.slice none 0 0) (.slice none 0 0) (.slice none 0 0) (.int .i64 y.1) (.int .i64 0) (.int .i64 y.2) (.string ⟨#[]⟩)
  exact ⟨_,_,_,_,_,_,_,_,_,_,_,_,rfl,k2,k3,q1.1,q1.2.1,rfl,q2⟩
 |ok y =>
  rw[hr] at h
  obtain ⟨fv,rfl,Wv,hb⟩:=h
  have k2:=(hb.block W.heap.size (by omega)).trans h2
  have k3:=(hb.block (W.heap.size+1) (by omega)).trans h3
  have aa0:=Wv
  obtain ⟨vi,vm,ve,cm,ce,rfl,n1,n2,_,n4,_⟩:=Wv
  obtain ⟨ia,ic,e1⟩:=bN n1.1
  obtain ⟨ma,mc,e2⟩:=bN n2.1
  obtain ⟨ea,ec,e3⟩:=bN n4.1
  subst e1 e2 e3
  obtain ⟨q1,q2⟩:=wJ (U3.trans (hb.mono U3.size)) k2 k3 (.string y.1.eI) (.slice ia y.1.bM.length ic) (.slice ma y.1.ms.length mc) (.slice ea y.1.es.length ec) (.int .i64 0) (.int .i64 0) (.int .i64 0) (.string ⟨#[]⟩)
  refine ⟨_,_,_,_,_,_,_,_,_,_,_,_,rfl,k2,k3,q1.1,q1.2.1,_,rfl,?_,q2⟩
  obtain ⟨_,_,o1,o2,o3,o4,o5⟩:=q1
  exact rF _ _ _ _ _ _ (fun k hk hl=>⟨by omega,o5 k hl (by omega) (by omega)⟩) aa0
def Pf (W:World) (er sp:Int):World:=(W.alloc (.cells #[.string ⟨#[]⟩,.slice none 0 0,.slice none 0 0,.slice none 0 0] 26)).alloc (.cells #[.int .i64 er,.int .i64 0,.int .i64 sp,.string ⟨#[]⟩] 33)
theorem al2 (W:World) (er sp:Int):Below W.heap.size W (Pf W er sp)∧(Pf W er sp).heap.size=W.heap.size+2∧(Pf W er sp).heap[W.heap.size]?=some (.cells #[.string ⟨#[]⟩,.slice none 0 0,.slice none 0 0,.slice none 0 0] 26 (0,0))∧(Pf W er sp).heap[W.heap.size+1]?=some (.cells #[.int .i64 er,.int .i64 0,.int .i64 sp,.string ⟨#[]⟩] 33 (0,0)):=by
 unfold Pf
 refine ⟨((zE _ _).alloc (zD _) _).alloc (by rw[zJ];omega) _,by simp only[zJ],(Below.heap_alloc _ _ _ (by rw[zJ];omega)).trans (aC _ _),?_⟩
 have:=aC (W.alloc (.cells #[.string ⟨#[]⟩,.slice none 0 0,.slice none 0 0,.slice none 0 0] 26)) (.cells #[.int .i64 er,.int .i64 0,.int .i64 sp,.string ⟨#[]⟩] 33)
 rw[zJ] at this
 exact this
theorem vq {fn:Func}{R:Ending→World→Prop}{tm:Array Value}{w:World}{p q:Tmp}{g k:Nat}{cs ds:Array Value} (h:fn.results=#[.cell p 26,.cell q 33]) (hp:tm.getD p undef=.pointer (some ⟨g,0,none⟩)) (hq:tm.getD q undef=.pointer (some ⟨k,0,none⟩)) (hg:w.heap[g]?=some (.cells cs 26 (0,0))) (hk:w.heap[k]?=some (.cells ds 33 (0,0))) (hc:cs.size=4) (hd:ds.size=4) (hR:R (.returned (.tuple #[.agg cs,.agg ds])) w):bodyPost Tryz.prog fn R .ret ⟨tm,[]⟩ w :=
 bodyPost_ret (nD h _ _ g k 26 33 cs ds (0,0) (0,0) _ _ hp hq hg hk Tryz.underlying26 rfl (by rw[hc];exact py) Tryz.underlying33 rfl (by rw[hd];exact Fh)) rfl hR
theorem sI {W:World}{v:Value}{ts:List Tk} (hF:nn W) (hE:gM W) (hM:gY W) (h:gd W W.heap.size W.heap.size v ts) (hs:∀t ∈ ts,t.text.size≤140737488355327) (hn:ts.length≤140737488355327):Calls Tryz.prog 12 #[v] W (S7 W (na ts)):=by
 obtain ⟨a,c,hv,hc,_⟩:=id h
 by_cases qy:16384<ts.length
 ·have hd:decide ((16384:Int)<(ts.length:Int))=true:=by simp;omega
  obtain ⟨bJ,_,oq,fO⟩:=al2 W 2 0
  have HE:Hid (S7 W (na ts) (.returned (.tuple #[.agg #[.string ⟨#[]⟩,.slice none 0 0,.slice none 0 0,.slice none 0 0],.agg #[.int .i64 2,.int .i64 0,.int .i64 0,.string ⟨#[]⟩]])) (Pf W 2 0)):=by
   show S7 W (na ts) _ _
   unfold na
   rw[if_pos qy]
   exact ⟨rfl,bJ⟩
  have H1:=aj oq
  have H2:=aj fO
  unfold Pf at HE H1 H2
  subst hv
  clear h hs bJ oq fO qy hF hE hM
  go_enter Tryz.func12,Tryz.ntmps12
  go_wp2
  exact vq rfl rfl rfl (aa H1) (aa H2) rfl rfl (aa HE)
 ·have hd:decide ((16384:Int)<(ts.length:Int))=false:=by simp;omega
  obtain ⟨bJ,bU,oq,fO⟩:=al2 W 0 0
  have HF:Hid (na ts=hZ (fF ts)):=by show _=_;unfold na;rw[if_neg qy]
  have HC:=aj (LU (hF.up bJ) (hE.up bJ) (hM.up bJ hM.1) (h.new bJ (by omega) (by omega)) hs (by omega))
  have HX:=aj (fun e w=>Aa (W:=W) (r:=hZ (fF ts)) (e:=e) (w:=w) bJ (by omega) oq fO)
  unfold Pf at HC HX
  subst hv
  clear h hs bJ bU oq fO qy hF hE hM
  go_enter Tryz.func12,Tryz.ntmps12
  go_wp2_with fail
  refine (aa HC).mono ?_
  intro e w1 SK
  obtain ⟨c0,ia,il,ic,ma,ml,mc,ea,el,ec,er,sp,rfl,k2,k3,q2,q3,jn⟩:=aa HX _ _ SK
  obtain ⟨⟨y0,y1,y2,y3⟩,yf⟩:=gV k2
  obtain ⟨⟨z0,z1,z2,z3⟩,zf⟩:=gV k3
  have f0:=yf 0
  have f1:=yf 1
  have f2:=yf 2
  have f3:=yf 3
  have g0:=zf 0
  have g1:=zf 1
  have g2:=zf 2
  have g3:=zf 3
  have Q2:=aj q2
  have Q3:=aj q3
  have HE:=aj jn
  unfold gp at Q2 Q3 HE
  clear SK yf zf k2 k3 q2 q3 jn HC HX
  go_wp2
  refine vq rfl rfl rfl (aa Q2) (aa Q3) rfl rfl ?_
  rw[aa HF]
  exact aa HE
noncomputable def kF (s:ByteArray):Except (Int×Int) (Fl×aD):=match lP s with
 |.inl ts=>na (ts.map Tok.tk)
 |.inr (k,c)=>.error ((c:Int),(k:Int))
theorem GM {W:World}{B lo b:Nat}{v:Value}{ts:List Tok} (h:W.ownsRow B 44 3 v ts.length (cI ts)) (hl:W.heap.size≤lo) (hb:W.heap.size≤b):gd W lo b v (ts.map Tok.tk):=by
 rw[rB] at h
 have hlen:(ts.map Tok.tk).length=ts.length:=by simp
 rcases h.2 with ⟨rfl,h0⟩|⟨g,c,cur,rfl,h1,h2,h3,h4,_⟩
 ·exact ⟨none,0,by rw[hlen,h0],by rw[hlen];omega,by unfold maxLen;omega,fun hp=>by rw[hlen] at hp;omega⟩
 ·have hr:iK B W (.slice (some ⟨g,0,none⟩) ts.length c) (ts.map Tok.tk):=by unfold iK;rw[hlen];exact h
  have cw:=(zA h2).1
  refine ⟨_,c,by rw[hlen],by rw[hlen];exact h3,h4,fun hp=>⟨g,0,rfl,by omega,by omega,fun i t ht=>?_⟩⟩
  obtain ⟨x1,x2,x3⟩:=hr.cell ht
  rw[Nat.zero_add]
  exact ⟨x1,x2,x3⟩
theorem N4 (s:ByteArray) (a b:Nat):(s.extract a b).size≤s.size:=by
 rw[ByteArray.size_extract]
 omega
theorem I9 (s:ByteArray):∀(f k n:Nat) (ts:List Tok),jV s f k n=.inl ts→∀t ∈ ts,t.text.size≤s.size:=by
 intro f
 induction f with
 |zero=>intro k n ts h;cases h
 |succ f ih =>
  intro k n ts h
  rw[jV] at h
  split at h
  ·cases h
  ·split at h
   ·have:=Sum.inl.inj h
    rw[←this]
    intro t ht
    rw[List.mem_singleton] at ht
    subst ht
    exact Nat.zero_le _
   ·split at h
    ·cases h
    ·split at h
     ·cases hr:jV s f (cJ s (bA s s.size k).1).2.1 (n+1) with
      |inl l =>
       rw[hr] at h
       have:=Sum.inl.inj h
       have h2:=ih _ _ l hr
       rw[←this]
       intro t ht
       rcases List.mem_cons.1 ht with rfl|ht
       ·exact N4 _ _ _
       ·exact h2 t ht
      |inr e=>rw[hr] at h;cases h
     ·cases h
theorem I7 {s:ByteArray}{ts:List Tok} (h:lP s=.inl ts):∀t ∈ ts,t.text.size≤65536:=by
 unfold lP at h
 split at h
 ·cases h
 ·split at h
  ·cases h
  ·rename_i h1 _
   intro t ht
   have:=I9 s _ _ _ ts h t ht
   omega
theorem Ah {W:World} (hF:nn W) (hE:gM W) (hM:gY W) (s:ByteArray):Calls Tryz.prog 8 #[.string s] W (S7 W (kF s)):=by
 obtain ⟨bJ,bU,oq,fO⟩:=al2 W 0 0
 have HC:=aj (wL (hF.up bJ) (hE.up bJ) (hM.up bJ hM.1) s)
 have HB:=aj bJ
 have EW:=aj bU
 have HX:=aj (show (Pf W 0 0).heap[W.heap.size]?=_∧(Pf W 0 0).heap[W.heap.size+1]?=_ from ⟨oq,fO⟩)
 have yF:=aj (show nn W∧gM W∧gY W from ⟨hF,hE,hM⟩)
 unfold Pf at HC HB EW HX
 clear bJ bU oq fO hF hE hM
 go_enter Tryz.func8,Tryz.ntmps8
 go_wp2_with fail
 refine (aa HC).mono ?_
 rintro e w1 ⟨bF,Ia⟩
 rw[aa EW] at bF Ia
 have Im:Below W.heap.size W w1:=(aa HB).trans (bF.mono (by omega))
 have BJ:W.heap.size+2≤w1.heap.size:=by have:=bF.size;have:=aa EW;omega
 have k2:=(bF.block W.heap.size (by omega)).trans (aa HX).1
 have k3:=(bF.block (W.heap.size+1) (by omega)).trans (aa HX).2
 cases ht:lP s with
 |inr p =>
  obtain ⟨k,c⟩:=p
  rw[ht] at Ia
  obtain ⟨hc,rfl⟩:=Ia
  have HF:Hid (kF s=.error ((c:Int),(k:Int))):=by show _=_;unfold kF;rw[ht]
  obtain ⟨q1,q2⟩:=wJ Im k2 k3 (.string ⟨#[]⟩) (.slice none 0 0) (.slice none 0 0) (.slice none 0 0) (.int .i64 (c:Int)) (.int .i64 0) (.int .i64 (k:Int)) (.string ⟨#[]⟩)
  have Q1:=aj q1
  have Q2:=aj q2
  unfold gp at Q1 Q2
  obtain ⟨⟨y0,y1,y2,y3⟩,yf⟩:=gV k2
  obtain ⟨⟨z0,z1,z2,z3⟩,zf⟩:=gV k3
  have f0:=yf 0
  have f1:=yf 1
  have f2:=yf 2
  have f3:=yf 3
  have g0:=zf 0
  have g1:=zf 1
  have g2:=zf 2
  have g3:=zf 3
  have hcz:((c:Int) != 0)=true:=by simp;omega
  clear bF Im BJ k2 k3 ht q1 q2 yf zf hc HC
  go_wp2
  refine vq rfl rfl rfl (aa Q1).1 (aa Q1).2.1 rfl rfl ?_
  rw[aa HF]
  exact ⟨rfl,aa Q2⟩
 |inl ts =>
  rw[ht] at Ia
  obtain ⟨v,rfl,cP⟩:=Ia
  have HF:Hid (kF s=na (ts.map Tok.tk)):=by show _=_;unfold kF;rw[ht]
  have SW:=aa yF
  have htx:∀t ∈ ts.map Tok.tk,t.text.size≤140737488355327:=fun t h=>by
   obtain ⟨t0,h0,rfl⟩:=List.mem_map.1 h
   have:=I7 ht t0 h0
   show t0.text.size≤_
   omega
  have HT:=aj (sI (SW.1.up Im) (SW.2.1.up Im) (SW.2.2.up Im SW.2.2.1) (GM cP (zD _) (zD _)) htx (by have:=Lo ht;simp;omega))
  have iU:=aj (fun e w=>Aa (W:=W) (r:=na (ts.map Tok.tk)) (e:=e) (w:=w) Im BJ k2 k3)
  obtain ⟨va,vn,vc,hv⟩:=aL cP
  subst hv
  clear bF Im BJ k2 k3 ht cP SW htx HC
  go_wp2_with fail
  refine (aa HT).mono ?_
  intro e w2 SK
  obtain ⟨c0,ia,il,ic,ma,ml,mc,ea,el,ec,er,sp,rfl,k2,k3,q2,q3,jn⟩:=aa iU _ _ SK
  obtain ⟨⟨y0,y1,y2,y3⟩,yf⟩:=gV k2
  obtain ⟨⟨z0,z1,z2,z3⟩,zf⟩:=gV k3
  have f0:=yf 0
  have f1:=yf 1
  have f2:=yf 2
  have f3:=yf 3
  have g0:=zf 0
  have g1:=zf 1
  have g2:=zf 2
  have g3:=zf 3
  have Q2:=aj q2
  have Q3:=aj q3
  have HE:=aj jn
  unfold gp at Q2 Q3 HE
  clear SK yf zf k2 k3 q2 q3 jn HT iU
  go_wp2
  refine vq rfl rfl rfl (aa Q2) (aa Q3) rfl rfl ?_
  rw[aa HF]
  exact aa HE
def kl (w:World) (v:Value) (n:Nat) (xs:List Value):Prop:=∃a c,v=.slice a n c∧n≤maxLen∧(0<n→∃g,a=some ⟨g,0,none⟩∧g<w.heap.size∧∀j x,xs[j]?=some x→w.cell? ⟨g,j,none⟩=some x)
theorem fm.rd {P:Nat→Prop}{w:World}{t sz n:Nat}{v:Value}{xs:List Value} (h:fm P w t sz v n xs):kl w v n xs:=by
 obtain ⟨⟨h1,⟨rfl,rfl⟩|⟨g,c,cur,rfl,h2,h3,h4,h5,h6,h7⟩⟩,_⟩:=h
 ·exact ⟨none,0,rfl,Nat.zero_le _,fun h=>absurd h (by omega)⟩
 ·refine ⟨_,c,rfl,Nat.le_trans h4 h5,fun _=>⟨g,rfl,(zA h3).1,fun j u hj=>?_⟩⟩
  rw[cell_of_row _ _ _ _ _ _ h3,←Array.getElem?_toList]
  rw[←h7,List.getElem?_take] at hj
  split at hj
  ·exact hj
  ·cases hj
theorem kl.up {w w':World}{v:Value}{n:Nat}{xs:List Value} (h:kl w v n xs) (hb:Below w.heap.size w w'):kl w' v n xs:=by
 obtain ⟨a,c,rfl,h1,h2⟩:=h
 refine ⟨a,c,rfl,h1,fun hp=>?_⟩
 obtain ⟨g,rfl,h3,h4⟩:=h2 hp
 exact ⟨g,rfl,Nat.lt_of_lt_of_le h3 hb.size,fun j x hx=>(hb.cell (p:=⟨g,j,none⟩) h3).trans (h4 j x hx)⟩
def pg (W:World) (e:Ending) (w:World):Prop:=e=.returned (.bool true)∧Below W.heap.size W w
theorem jX (l:List ByteArray) (i:Nat) (t:ByteArray) (h:l[i]?=some t):(bW l)[i]?=some (.string t):=by
 unfold bW
 rw[List.getElem?_map,h]
 rfl
theorem Ga:∀(l:List (ByteArray×Int)) (i:Nat) (p:ByteArray×Int),l[i]?=some p→(xZ l)[i*2]?=some (.string p.1)∧(xZ l)[i*2+1]?=some (.int .i64 p.2)
 |[],i,t,h=>by simp at h
 |x::r,0,t,h=>by
  obtain rfl:x=t:=by simpa using h
  exact ⟨rfl,rfl⟩
 |x::r,i+1,t,h=>by
  have:=Ga r i t (by simpa using h)
  rw[show (i+1)*2=i*2+2 by omega]
  exact this
theorem wX:∀(l:List (Int×Int)) (i:Nat) (p:Int×Int),l[i]?=some p→(lj l)[i*2]?=some (.int .i64 p.1)∧(lj l)[i*2+1]?=some (.int .i64 p.2)
 |[],i,t,h=>by simp at h
 |x::r,0,t,h=>by
  obtain rfl:x=t:=by simpa using h
  exact ⟨rfl,rfl⟩
 |x::r,i+1,t,h=>by
  have:=wX r i t (by simpa using h)
  rw[show (i+1)*2=i*2+2 by omega]
  exact this
theorem qE:∀(l:List Fd) (i:Nat) (d:Fd),l[i]?=some d→∀j v,d.arr[j]?=some v→(iF l)[i*6+j]?=some v
 |[],i,t,h=>by simp at h
 |x::r,0,t,h=>by
  obtain rfl:x=t:=by simpa using h
  intro j v hv
  have hj:j<6:=by
   have:=(zA hv).1
   simpa[Fd.arr] using this
  show (x.arr.toList++_)[0*6+j]?=_
  rw[List.getElem?_append_left (by simp[Fd.arr];omega),Nat.zero_mul,Nat.zero_add,Array.getElem?_toList]
  exact hv
 |x::r,i+1,t,h=>by
  intro j v hv
  have:=qE r i t (by simpa using h) j v hv
  rw[show (i+1)*6+j=6+(i*6+j) by omega]
  show (x.arr.toList++iF r)[6+(i*6+j)]?=_
  rw[List.getElem?_append_right (by simp[Fd.arr])]
  simpa[Fd.arr] using this
theorem iW {W:World}{v u:Value}{l:List ByteArray} (h:kl W v l.length (bW l)) (h':kl W u l.length (bW l)):Calls Tryz.prog 25 #[v,u] W (pg W):=by
 obtain ⟨a,c,rfl,hc,h3⟩:=h
 obtain ⟨a',c',rfl,Nr,CB⟩:=h'
 have H3:=aj h3
 have H3':=aj CB
 clear h3 CB
 unfold maxLen at hc Nr
 have hll:((l.length:Int) != (l.length:Int))=false:=by simp
 go_enter Tryz.func25,Tryz.ntmps25
 go_wp2
 go_loopg [5] l.length (fun gk v5 wr=>∃(i m:Nat),v5=.int .i64 (i:Int)∧gk=l.length-i∧i≤l.length∧wr=W.drewN m)
 case atStart=>exact ⟨0,0,rfl,rfl,by omega,rfl⟩
 case round =>
  obtain ⟨i,m,rfl,fi,hi,rfl⟩:=hrel
  have gA:=aj fi
  clear fi
  by_cases cw:i<l.length
  ·obtain ⟨t,ht⟩:∃t,l[i]?=some t:=⟨_,List.getElem?_eq_getElem cw⟩
   obtain ⟨g,rfl,hg,hx⟩:=aa H3 (by omega)
   obtain ⟨g',rfl,rh,rS⟩:=aa H3' (by omega)
   have x1:=hx _ _ (jX l i t ht)
   have y1:=rS _ _ (jX l i t ht)
   have i0:(0:Int)≤(i:Int):=zH _
   have i1:(i:Int)<(l.length:Int):=by omega
   clear hx rS ht
   go_wp2
   go_quiet (fail)
   go_wp2
   go_roundg (l.length-(i+1))
   case measure=>have:=aa gA;omega
   case rel=>exact ⟨i+1,_,by go_num,rfl,by omega,rfl⟩
  ·obtain rfl:i=l.length:=by omega
   go_wp2
   go_ret
   exact ⟨rfl,below_drewN (zE _ _) _⟩
theorem qi {W:World}{v u:Value}{l:List (Int×Int)} (h:kl W v l.length (lj l)) (h':kl W u l.length (lj l)):Calls Tryz.prog 31 #[v,u] W (pg W):=by
 obtain ⟨a,c,rfl,hc,h3⟩:=h
 obtain ⟨a',c',rfl,Nr,CB⟩:=h'
 have H3:=aj h3
 have H3':=aj CB
 clear h3 CB
 unfold maxLen at hc Nr
 have hll:((l.length:Int) != (l.length:Int))=false:=by simp
 go_enter Tryz.func31,Tryz.ntmps31
 go_wp2
 go_loopg [5] l.length (fun gk v5 wr=>∃(i m:Nat),v5=.int .i64 (i:Int)∧gk=l.length-i∧i≤l.length∧wr=W.drewN m)
 case atStart=>exact ⟨0,0,rfl,rfl,by omega,rfl⟩
 case round =>
  obtain ⟨i,m,rfl,fi,hi,rfl⟩:=hrel
  have gA:=aj fi
  clear fi
  by_cases cw:i<l.length
  ·obtain ⟨t,ht⟩:∃t,l[i]?=some t:=⟨_,List.getElem?_eq_getElem cw⟩
   obtain ⟨g,rfl,hg,hx⟩:=aa H3 (by omega)
   obtain ⟨g',rfl,rh,rS⟩:=aa H3' (by omega)
   obtain ⟨r1,r2⟩:=wX l i t ht
   have x1:=hx _ _ r1
   have y1:=rS _ _ r1
   have x2:=hx _ _ r2
   have y2:=rS _ _ r2
   have i0:(0:Int)≤(i:Int):=zH _
   have i1:(i:Int)<(l.length:Int):=by omega
   obtain ⟨t1,t2⟩:=t
   simp only at x1 x2 y1 y2
   clear hx rS ht r1 r2
   go_wp2
   go_quiet (fail)
   go_wp2
   go_roundg (l.length-(i+1))
   case measure=>have:=aa gA;omega
   case rel=>exact ⟨i+1,_,by go_num,rfl,by omega,rfl⟩
  ·obtain rfl:i=l.length:=by omega
   go_wp2
   go_ret
   exact ⟨rfl,below_drewN (zE _ _) _⟩
end Go.Proofs.YtmlphohdcejniaaGreatDoor
namespace Go.Proofs.YtmlphohdcejniaaGreatDoor
open Go.RowKit
def Rl (w:World) (v:Value) (n:Nat) (xs:List Value):Prop:=∃a c,v=.slice a n c∧n≤140737488355328∧(0<n→∃g o,a=some ⟨g,o,none⟩∧g<w.heap.size∧∀j x,xs[j]?=some x→w.cell? ⟨g,o+j,none⟩=some x)
theorem Rl.up {w w':World}{v:Value}{n:Nat}{xs:List Value} (h:Rl w v n xs) (hb:Below w.heap.size w w'):Rl w' v n xs:=by
 obtain ⟨a,c,rfl,h1,h2⟩:=h
 refine ⟨a,c,rfl,h1,fun hp=>?_⟩
 obtain ⟨g,o,rfl,h3,h4⟩:=h2 hp
 exact ⟨g,o,rfl,Nat.lt_of_lt_of_le h3 hb.size,fun j x hx=>(hb.cell (p:=⟨g,o+j,none⟩) h3).trans (h4 j x hx)⟩
inductive E1 (w:World):List Value→List En→Prop
 |nil:E1 w [] []
 |cons {e:En} {vv vr vg:Value} {rest:List Value} {l:List En} (hv:Rl w vv e.bL.length (xZ e.bL)) (hr:Rl w vr e.res.length (lj e.res)) (hg:Rl w vg e.gone.length (bW e.gone)) (ht:E1 w rest l):E1 w (.string e.name::vv::vr::vg::rest) (e::l)
theorem E1.up {w w':World}{cs:List Value}{l:List En} (h:E1 w cs l) (hb:Below w.heap.size w w'):E1 w' cs l:=by
 induction h with
 |nil=>exact .nil
 |cons hv hr hg _ ih=>exact .cons (hv.up hb) (hr.up hb) (hg.up hb) ih
theorem E1.len {w:World}{cs:List Value}{l:List En} (h:E1 w cs l):cs.length=l.length*4:=by
 induction h with
 |nil=>rfl
 |cons hv hr hg _ ih=>simp only[List.length_cons,ih];omega
theorem E1.at {w:World}{cs:List Value}{l:List En} (h:E1 w cs l):∀(i:Nat) (e:En),l[i]?=some e→∃vv vr vg,(cs.drop (i*4)).take 4=[.string e.name,vv,vr,vg]∧Rl w vv e.bL.length (xZ e.bL)∧Rl w vr e.res.length (lj e.res)∧Rl w vg e.gone.length (bW e.gone):=by
 induction h with
 |nil=>intro i e h;simp at h
 |cons hv hr hg _ ih =>
  intro i e h
  cases i with
  |zero =>
   obtain rfl:=zC (h.symm.trans rfl)
   exact ⟨_,_,_,rfl,hv,hr,hg⟩
  |succ i =>
   obtain ⟨vv,vr,vg,h1,h2⟩:=ih i e (by simpa using h)
   refine ⟨vv,vr,vg,?_,h2⟩
   rw[show (i+1)*4=i*4+4 by omega]
   exact h1
inductive EV (w:World):List Value→List Ms→Prop
 |nil:EV w [] []
 |cons {nm:ByteArray} {fs:List Fd} {os:List ByteArray} {ms:List Ms} {es:List En} {rs:List (Int×Int)} {gs:List ByteArray} {vf vo vm ve vr vg:Value} {cm ce rest:List Value} {l:List Ms}
   (hf:Rl w vf fs.length (iF fs)) (ho:Rl w vo os.length (bW os)) (hm:Rl w vm ms.length cm) (jT:EV w cm ms) (he:Rl w ve es.length ce) (mP:E1 w ce es)
   (hr:Rl w vr rs.length (lj rs)) (hg:Rl w vg gs.length (bW gs)) (ht:EV w rest l):EV w (.string nm::vf::vo::vm::ve::vr::vg::rest) (.mk nm fs os ms es rs gs::l)
theorem EV.up {w w':World}{cs:List Value}{l:List Ms} (h:EV w cs l) (hb:Below w.heap.size w w'):EV w' cs l:=by
 induction h with
 |nil=>exact .nil
 |cons hf ho hm _ he mP hr hg _ XY JU=>exact .cons (hf.up hb) (ho.up hb) (hm.up hb) XY (he.up hb) (mP.up hb) (hr.up hb) (hg.up hb) JU
theorem EV.len {w:World}{cs:List Value}{l:List Ms} (h:EV w cs l):cs.length=l.length*7:=by
 induction h with
 |nil=>rfl
 |cons hf ho hm _ he mP hr hg _ _ JU=>simp only[List.length_cons,JU];omega
structure ZN (w:World) (m:Ms) (vf vo vm ve vr vg:Value) (nm:ByteArray) (fs:List Fd) (os:List ByteArray) (ms:List Ms) (es:List En) (rs:List (Int×Int)) (gs:List ByteArray) (cm ce:List Value):Prop where
 is:m=.mk nm fs os ms es rs gs
 hf:Rl w vf fs.length (iF fs)
 ho:Rl w vo os.length (bW os)
 hm:Rl w vm ms.length cm
 jT:EV w cm ms
 he:Rl w ve es.length ce
 mP:E1 w ce es
 hr:Rl w vr rs.length (lj rs)
 hg:Rl w vg gs.length (bW gs)
theorem EV.at {w:World}{cs:List Value}{l:List Ms} (h:EV w cs l):∀(i:Nat) (m:Ms),l[i]?=some m→∃vf vo vm ve vr vg nm fs os ms es rs gs cm ce,(cs.drop (i*7)).take 7=[.string nm,vf,vo,vm,ve,vr,vg]∧ZN w m vf vo vm ve vr vg nm fs os ms es rs gs cm ce:=by
 induction h with
 |nil=>intro i e h;simp at h
 |cons hf ho hm jT he mP hr hg _ _ ih =>
  intro i m h
  cases i with
  |zero =>
   obtain rfl:=zC (h.symm.trans rfl)
   exact ⟨_,_,_,_,_,_,_,_,_,_,_,_,_,_,_,rfl,⟨rfl,hf,ho,hm,jT,he,mP,hr,hg⟩⟩
  |succ i =>
   obtain ⟨vf,vo,vm,ve,vr,vg,nm,fs,os,ms,es,rs,gs,cm,ce,h1,h2⟩:=ih i m (by simpa using h)
   refine ⟨vf,vo,vm,ve,vr,vg,nm,fs,os,ms,es,rs,gs,cm,ce,?_,h2⟩
   rw[show (i+1)*7=i*7+7 by omega]
   exact h1
structure To (w:World) (v:Value) (F:Fl) (vi vm ve:Value) (cm ce:List Value):Prop where
 is:v=.agg #[.string F.eI,vi,vm,ve]
 hi:Rl w vi F.bM.length (bW F.bM)
 hm:Rl w vm F.ms.length cm
 jT:EV w cm F.ms
 he:Rl w ve F.es.length ce
 mP:E1 w ce F.es
theorem To.up {w w':World}{v vi vm ve:Value}{F:Fl}{cm ce:List Value} (h:To w v F vi vm ve cm ce) (hb:Below w.heap.size w w'):To w' v F vi vm ve cm ce:=⟨h.is,h.hi.up hb,h.hm.up hb,h.jT.up hb,h.he.up hb,h.mP.up hb⟩
theorem eJ {B B':Nat}{w:World}{e size n:Nat}{v:Value}{xs:List Value} (h:w.ownsRow B e size v n xs) (hb:B'≤B):w.ownsRow B' e size v n xs:=by
 obtain ⟨h1,h|⟨g,cap,cur,rfl,h2,h3⟩⟩:=h
 ·exact ⟨h1,.inl h⟩
 ·exact ⟨h1,.inr ⟨g,cap,cur,rfl,Nat.le_trans hb h2,h3⟩⟩
theorem bn {B:Nat}{w:World}{e size n:Nat}{v:Value}{xs:List Value} (h:w.ownsRow B e size v n xs):∃a c,v=.slice a n c:=by
 obtain ⟨h1,⟨rfl,rfl⟩|⟨g,cap,cur,rfl,h2,h3⟩⟩:=h
 ·exact ⟨_,_,rfl⟩
 ·exact ⟨_,_,rfl⟩
theorem bH {B:Nat}{w:World}{e size n b t:Nat}{v:Value}{xs:List Value}{cs:Array Value}{fr:Nat×Nat} (h:w.ownsRow B e size v n xs) (hb:w.heap[b]?=some (.cells cs t fr)) (ht:e≠t):v.ownBlock≠some b:=by
 intro hv
 obtain ⟨h1,⟨rfl,_⟩|⟨g,cap,cur,rfl,_,h4,_⟩⟩:=h
 ·cases hv
 ·obtain rfl:g=b:=by simpa[Value.ownBlock] using hv
  rw[h4] at hb
  simp at hb
  exact ht hb.2.1
theorem mF {B B':Nat}{w:World}{e e' size XE n n':Nat}{v u:Value}{xs ys:List Value} (h:w.ownsRow B e size v n xs) (k:w.ownsRow B' e' XE u n' ys) (ht:e≠e'):u.ownBlock=none∨u.ownBlock≠v.ownBlock:=by
 cases hu:u.ownBlock with
 |none=>exact .inl rfl
 |some q =>
  obtain ⟨k1,⟨rfl,_⟩|⟨g,cap,cur,rfl,_,h4,_⟩⟩:=k
  ·cases hu
  ·obtain rfl:g=q:=by simpa[Value.ownBlock] using hu
   exact .inr (fun e=>bH h h4 ht e.symm)
end Go.Proofs.YtmlphohdcejniaaGreatDoor
namespace Go.Proofs.YtmlphohdcejniaaGreatDoor
open Go.RowKit Go.Lib
attribute [local go_sem ↓] Go.wp_at_zero Go.wp_at_succ
end Go.Proofs.YtmlphohdcejniaaGreatDoor
namespace Go.Proofs.YtmlphohdcejniaaGreatDoor
open Go.RowKit
theorem dj {Q:ByteArray}{p c:Nat}{R:List Nat} (h:(aH Q).drop p=c::R):p<Q.size∧ax Q p=c:=by
 have h0:((aH Q).drop p)[0]?=some c:=by rw[h];rfl
 rw[List.getElem?_drop,Nat.add_zero] at h0
 have hl:=(zB h0).1
 rw[bk] at hl
 rw[eY Q p hl] at h0
 exact ⟨hl,zC h0⟩
theorem di {Q:ByteArray}{p:Nat}{A R:List Nat} (h:(aH Q).drop p=A++R):(aH Q).drop (p+A.length)=R:=by
 rw[←List.drop_drop,h,List.drop_append_of_le_length (zD _)]
 simp
theorem TF {s:ByteArray}{k n j:Nat} (hn:k+n≤s.size) (hj:j<n):(sub s k n)[j]?=some (ax s (k+j)):=by
 unfold sub
 rw[List.getElem?_take,if_pos hj,List.getElem?_drop,eY s (k+j) (by omega)]
end Go.Proofs.YtmlphohdcejniaaGreatDoor

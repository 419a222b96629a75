import Derived.Test.YtmlphohdcejniaaGreatDoorM31
import Derived.Defers
import Derived.Recover
import Derived.Laws.Pointers
set_option maxHeartbeats 1000000
set_option maxRecDepth 100000
namespace Go.Proofs.YtmlphohdcejniaaGreatDoor
open Go.RowKit
attribute [local go_sem ↓] Go.wp_at_zero Go.wp_at_succ
def Z4:Array Value:=#[.string ⟨#[]⟩,.slice none 0 0,.slice none 0 0,.slice none 0 0]
def mW (er sp:Int):Array Value:=#[.int .i64 er,.int .i64 0,.int .i64 sp,.string ⟨#[]⟩]
def Ct (p2 p3:Nat) (a b:Array Value) (w w':World):Prop:=w'.heap[p2]?=some (.cells a 26 (0,0))∧w'.heap[p3]?=some (.cells b 33 (0,0))∧w'.os=w.os∧w'.tape=w.tape∧w'.output=w.output∧w.heap.size≤w'.heap.size∧∀k,k<w.heap.size→k≠p2→k≠p3→w'.heap[k]?=w.heap[k]?
theorem xF (w:World) (t:TypeId) (v:Value):Sem.run Tryz.prog (binOp BinOp.neq 20 (.iface t v) .nilIface) w=.ok (.bool true) w:=by
 go_simp
theorem J7 (w:World) (v:Value):(Instr.typeAssert (.iface 33 v) 20 33 false).run Tryz.prog w=.ok v w:=by
 unfold Instr.typeAssert
 simp[run_underlying Tryz.underlying33]
noncomputable def ou:Code:=match Tryz.f48.body with
 |some (.seq _ t)=>t
 |_=>.skip
noncomputable def DM:Code:=match Tryz.f48.body with
 |some (.seq a _)=>a
 |_=>.skip
theorem BG:Tryz.f48.body=some (.seq DM ou):=rfl
theorem Mz {p2 p3:Nat}{w:World}{a0 a1 a2 a3 b0 b1 b2 b3:Value} (eo:p2≠p3) (h2:w.heap[p2]?=some (.cells #[a0,a1,a2,a3] 26 (0,0))) (h3:w.heap[p3]?=some (.cells #[b0,b1,b2,b3] 33 (0,0))) (c0 c1 c2 c3 d0 d1 d2 d3:Value):Ct p2 p3 #[c0,c1,c2,c3] #[d0,d1,d2,d3] w (fP (fP w p2 c0 c1 c2 c3) p3 d0 d1 d2 d3):=by
 obtain ⟨r1,r2⟩:=fE h2 c0 c1 c2 c3
 obtain ⟨q1,q2⟩:=fE ((r2.block p3 (zA h3).1 (by simpa using eo.symm)).trans h3) d0 d1 d2 d3
 exact ⟨(q2.block p2 (zA r1).1 (by simpa using eo)).trans r1,q1,q2.os.trans r2.os,q2.tape.trans r2.tape,q2.output.trans r2.output,Nat.le_trans r2.size q2.size,fun k hk k2 k3=>(q2.block k (Nat.lt_of_lt_of_le hk r2.size) (by simpa using k3)).trans (r2.block k hk (by simpa using k2))⟩
theorem PI {p2 p3:Nat}{a b:Array Value}{w w':World} (h:Ct p2 p3 a b w w'):Ct p2 p3 a b w w'.drew:=h
theorem Kn {p2 p3:Nat}{er sp:Int}{w:World}{a0 a1 a2 a3 b0 b1 b2 b3:Value} (eo:p2≠p3) (h2:w.heap[p2]?=some (.cells #[a0,a1,a2,a3] 26 (0,0))) (h3:w.heap[p3]?=some (.cells #[b0,b1,b2,b3] 33 (0,0))) {u:Nat→Value}{Q:Exit→Act→World→Prop}
  (hQ:∀tm w',Ct p2 p3 Z4 (mW er sp) w w'→Q .normal ⟨tm,[]⟩ w'):ou.wp Tryz.prog Q ⟨#[.pointer (some ⟨p2,0,none⟩),.pointer (some ⟨p3,0,none⟩),.iface 33 (.agg (mW er sp)),u 3,u 4,u 5,u 6,u 7,u 8],[]⟩ w:=by
 have HQ:=aj hQ
 have Yz:=aj (Mz eo h2 h3 (.string ⟨#[]⟩) (.slice none 0 0) (.slice none 0 0) (.slice none 0 0) (.int .i64 er) (.int .i64 0) (.int .i64 sp) (.string ⟨#[]⟩))
 unfold fP at Yz
 obtain ⟨⟨y0,y1,y2,y3⟩,yf⟩:=gz h2
 obtain ⟨⟨z0,z1,z2,z3⟩,zf⟩:=gz h3
 have f0:=yf 0
 have f1:=yf 1
 have f2:=yf 2
 have f3:=yf 3
 have e0:=zf 0
 have e1:=zf 1
 have e2:=zf 2
 have e3:=zf 3
 have Aj:=xF
 have hta:=J7
 unfold mW at HQ ⊢
 unfold Z4 at HQ
 clear yf zf h2 h3 hQ
 unfold ou
 dsimp only[Tryz.f48]
 go_wp2
 go_region
 refine aa HQ _ _ (PI ?_)
 with_reducible exact aa Yz
theorem Ko {p2 p3:Nat}{w:World}{u:Nat→Value}{Q:Exit→Act→World→Prop} (hQ:∀tm,Q .normal ⟨tm,[]⟩ w):ou.wp Tryz.prog Q ⟨#[.pointer (some ⟨p2,0,none⟩),.pointer (some ⟨p3,0,none⟩),.nilIface,u 3,u 4,u 5,u 6,u 7,u 8],[]⟩ w:=by
 have HQ:=aj hQ
 clear hQ
 unfold ou
 dsimp only[Tryz.f48]
 go_wp2
 exact aa HQ _
theorem PO {p2 p3:Nat}{er sp:Int}{w:World}{a0 a1 a2 a3 b0 b1 b2 b3:Value} (eo:p2≠p3) (h2:w.heap[p2]?=some (.cells #[a0,a1,a2,a3] 26 (0,0))) (h3:w.heap[p3]?=some (.cells #[b0,b1,b2,b3] 33 (0,0))) :
  CallsD Tryz.prog 48 #[.pointer (some ⟨p2,0,none⟩),.pointer (some ⟨p3,0,none⟩)] (.panicking [{ v:=.iface 33 (.agg (mW er sp)),recovered:=false }]) w fun e u' w' =>
   e=.returned (.tuple #[])∧u'=.panicking [{ v:=.iface 33 (.agg (mW er sp)),recovered:=true }]∧Ct p2 p3 Z4 (mW er sp) w w':=by
 refine callsD_of_wpS Tryz.func48 BG fun c₀ cs hu=>?_
 apply wpS_seq
 obtain ⟨tl,nU⟩:∃t,ou=t:=⟨_,rfl⟩
 rw[nU]
 unfold DM
 dsimp only[Tryz.f48]
 apply wpS_region
 simp[wpOpsS,go_sem,recoverD,hu,Exit.thenS]
 rw[←nU]
 refine wpS_of_wp ?_
 simp only[Array.replicate_succ,Array.replicate_zero,List.push_toArray,List.append_toArray,List.nil_append,List.cons_append,zL,zM,zN]
 refine Kn (u:=fun i=>[undef,undef,undef,.iface 33 (.agg (mW er sp))].getD i undef) eo h2 h3 ?_
 intro tm w' Df
 refine ⟨rfl,_,rfl,.tuple #[],?_,rfl,rfl,Df⟩
 simp[results]
theorem PQ {p2 p3:Nat}{w:World} :
  CallsD Tryz.prog 48 #[.pointer (some ⟨p2,0,none⟩),.pointer (some ⟨p3,0,none⟩)] .returning w fun e u' w'=>e=.returned (.tuple #[])∧u'=.returning∧w'=w:=by
 refine callsD_of_wpS Tryz.func48 BG fun c₀ cs hu=>?_
 apply wpS_seq
 obtain ⟨tl,nU⟩:∃t,ou=t:=⟨_,rfl⟩
 rw[nU]
 unfold DM
 dsimp only[Tryz.f48]
 apply wpS_region
 simp[wpOpsS,go_sem,recoverD,hu,Exit.thenS]
 rw[←nU]
 refine wpS_of_wp ?_
 simp only[Array.replicate_succ,Array.replicate_zero,List.push_toArray,List.append_toArray,List.nil_append,List.cons_append,zL,zM,zN]
 refine Ko (u:=fun i=>[undef,undef,undef,.nilIface].getD i undef) ?_
 intro tm
 refine ⟨rfl,.returning,?_,.tuple #[],?_,rfl,rfl,rfl⟩
 ·cases c₀
  simp_all
 ·simp[results]
def QV (W:World) (r:Except (Int×Int) (Fl×aI)) (e:Ending) (w:World):Prop:=match r with
 |.error y=>e=.returned (.tuple #[.agg Z4,.agg (mW y.1 y.2)])∧Below W.heap.size W w
 |.ok (x,_)=>∃fv,e=.returned (.tuple #[fv,.agg (mW 0 0)])∧NF x fv (fun k=>W.heap.size≤k) w∧Below W.heap.size W w
theorem qn (a:Fl) (x:Value):aK (NF a x):=by
 rintro P P' w w' hg ⟨vi,vm,ve,cm,ce,rfl,h1,h2,h3,h4,h5⟩
 exact ⟨vi,vm,ve,cm,ce,rfl,h1.goes hg,h2.goes hg,cS _ _ _ _ _ _ hg h3,h4.goes hg,cH _ _ _ _ _ _ hg h5⟩
theorem Kc {ts:List Tk} (h:∀t ∈ ts,t.text.size≤140737488355327):Sm (fi ts):=by
 unfold fi
 split
 ·intro t ht
  exact h t (List.mem_of_mem_take ht)
 ·split<;>exact h
theorem GV {ts:List Tk} (h:ts.length≤16384):(fi ts).ts.length≤16384:=by
 unfold fi
 split
 ·simp only[List.length_take]
  omega
 ·split<;>exact h
theorem mL {P:Program}{fn:Func}{p q:Tmp}{ty tz:TypeId} (h:fn.results=#[.cell p ty,.cell q tz]) (tmps:Array Value) (w:World) (g k:Nat) (t u:TypeId) (cs ds:Array Value) (fr gr:Nat×Nat) (d e:TypeDesc)
  (hp:tmps.getD p undef=.pointer (some ⟨g,0,none⟩)) (hq:tmps.getD q undef=.pointer (some ⟨k,0,none⟩)) (hg:w.heap[g]?=some (.cells cs t fr)) (hk:w.heap[k]?=some (.cells ds u gr))
  (hu:P.underlying ty=some d) (hd:(match d with|.struct _|.array _ _=>true|_=>false)=true) (hi:(P.info? ty).map (·.size)=some cs.size) (hv:P.underlying tz=some e) (he:(match e with|.struct _|.array _ _=>true|_=>false)=true) (hj:(P.info? tz).map (·.size)=some ds.size) :
  (results fn tmps).run P w=.ok (.tuple #[.agg cs,.agg ds]) w:=by
 have Uy:tmps[p]?.getD undef=.pointer (some ⟨g,0,none⟩):=by simpa using hp
 have hq':tmps[q]?.getD undef=.pointer (some ⟨k,0,none⟩):=by simpa using hq
 simp[results,h,Uy,hq',asAddr,run_loadVar_row w g t ty cs fr d hg hu hd hi,run_loadVar_row w k u tz ds gr e hk hv he hj]
theorem DK:(Tryz.prog.info? 33).map (·.size)=some 4:=by kernel_rfl
theorem Km {W:World}{v:Value}{ts:List Tk} (hF:mA W) (hE:fZ W) (hM:gD W) (h:fK W W.heap.size W.heap.size v ts) (hs:∀t ∈ ts,t.text.size≤140737488355327) (hn:ts.length≤16384):Calls Tryz.prog 30 #[v] W (QV W (iP (fi ts))):=by
 have WC:∀(fn:Fn) (first cap:Array Value) (w:World),(Instr.makeFunc fn first cap).run Tryz.prog w=.ok (.func fn first cap) w:=fun _ _ _ _=>rfl
 have bH:Below W.heap.size W ((W.alloc (.cells Z4 26)).alloc (.cells (mW 0 0) 33)):=((zE _ _).alloc (zD _) _).alloc (by rw[zJ];omega) _
 have nT:((W.alloc (.cells Z4 26)).alloc (.cells (mW 0 0) 33)).heap[W.heap.size]?=some (.cells Z4 26 (0,0)):=(Below.heap_alloc _ _ _ (by rw[zJ];omega)).trans (aC _ _)
 have fF:((W.alloc (.cells Z4 26)).alloc (.cells (mW 0 0) 33)).heap[W.heap.size+1]?=some (.cells (mW 0 0) 33 (0,0)):=by
  have:=aC (W.alloc (.cells Z4 26)) (.cells (mW 0 0) 33)
  rw[zJ] at this
  exact this
 have bR:((W.alloc (.cells Z4 26)).alloc (.cells (mW 0 0) 33)).heap.size=W.heap.size+2:=by simp only[zJ]
 have HC:=aj (xB (h.new bH (by rw[bR];omega) (by rw[bR];omega)) hn)
 have C6:=aj nT
 have xh:=aj fF
 have iU:=aj bH
 have Dp:=aj bR
 have E8:=aj (show mA W∧fZ W∧gD W from ⟨hF,hE,hM⟩)
 have HS:=aj (Kc hs)
 have Hn:=aj (GV hn)
 clear nT fF bH bR hF hE hM h hs hn
 unfold Z4 mW at HC C6 xh iU Dp
 go_enter_defers Tryz.func30,Tryz.ntmps30
 go_wp2_with fail
 refine (aa HC).mono ?_
 rintro e w1 ⟨b,rfl,wm,QK,Qz⟩
 rw[aa Dp] at wm QK
 have aX:Below W.heap.size W w1:=(aa iU).trans (QK.mono (by omega))
 have QH:Env W w1 b:=⟨(aa E8).1,(aa E8).2.1,(aa E8).2.2,aX,by omega⟩
 have Yr:=aj (Mc QH Qz (aa HS) (aa Hn))
 have h2:=(QK.block W.heap.size (by omega)).trans (aa C6)
 have h3:=(QK.block (W.heap.size+1) (by omega)).trans (aa xh)
 have Z3:=aj h2
 have Yq:=aj h3
 have Hbl:=aj wm
 have ZQ:=aj aX
 clear h2 h3 wm QK Qz aX QH HC C6 xh iU Dp E8
 go_wp2_with fail
 refine (aa Yr).mono ?_
 intro e w2 jD
 unfold CR at jD
 cases hr:iP (fi ts) with
 |error y =>
  rw[hr] at jD
  obtain ⟨rfl,hg⟩:=jD
  have wm:=aa Hbl
  have k2:=(hg.block W.heap.size (zA (aa Z3)).1 (by simp;omega)).trans (aa Z3)
  have k3:=(hg.block (W.heap.size+1) (zA (aa Yq)).1 (by simp;omega)).trans (aa Yq)
  have hB:Below W.heap.size W w2:=(aa ZQ).grown hg (aa ZQ).size (fun k e=>by simp at e;omega)
  show bodyPostD _ _ _ (Exit.panic _) _ _
  refine leaves_cons (f:=48) (args:=#[.pointer (some ⟨W.heap.size,0,none⟩),.pointer (some ⟨W.heap.size+1,0,none⟩)]) (by simp) (by simp[go_sem]) ?_
  refine (PO (er:=y.1) (sp:=y.2) (by omega) k2 k3).mono ?_
  rintro e u' w3 ⟨rfl,rfl,Df⟩
  refine ⟨_,mL rfl _ _ W.heap.size (W.heap.size+1) 26 33 Z4 (mW y.1 y.2) (0,0) (0,0) _ _ rfl rfl Df.1 Df.2.1 Tryz.underlying26 rfl oq Tryz.underlying33 rfl DK,rfl,?_⟩
  obtain ⟨_,_,o1,o2,o3,o4,o5⟩:=Df
  exact hB.trans ⟨o1,o2,o3,o4,fun k hk=>o5 k (by have:=hB.size;omega) (by omega) (by omega)⟩
 |ok y =>
  rw[hr] at jD
  obtain ⟨fv,rfl,Uz,aaA,hg⟩:=jD
  have HNf:=aj Uz
  obtain ⟨vi,vm,ve,cm,ce,rfl,q1,q2,_,q4,_⟩:=Uz
  obtain ⟨ia,ic,e1⟩:=bK q1.1
  obtain ⟨ma,mc,e2⟩:=bK q2.1
  obtain ⟨ea,ec,e3⟩:=bK q4.1
  subst e1 e2 e3
  have wm:=aa Hbl
  have k2:=(hg.block W.heap.size (zA (aa Z3)).1 (by simp;omega)).trans (aa Z3)
  have k3:=(hg.block (W.heap.size+1) (zA (aa Yq)).1 (by simp;omega)).trans (aa Yq)
  have hB:Below W.heap.size W w2:=(aa ZQ).grown hg (aa ZQ).size (fun k e=>by simp at e;omega)
  obtain ⟨⟨y0,y1,y2,y3⟩,yf⟩:=gz k2
  obtain ⟨⟨z0,z1,z2,z3⟩,zf⟩:=gz k3
  have f0:=yf 0
  have f1:=yf 1
  have f2:=yf 2
  have f3:=yf 3
  have g0:=zf 0
  have g1:=zf 1
  have g2:=zf 2
  have g3:=zf 3
  have Df:=Mz (by omega) k2 k3 (.string y.1.fW) (.slice ia y.1.cy.length ic) (.slice ma y.1.ms.length mc) (.slice ea y.1.es.length ec) (.int .i64 0) (.int .i64 0) (.int .i64 0) (.string ⟨#[]⟩)
  have gK:NF y.1 (.agg #[.string y.1.fW,.slice ia y.1.cy.length ic,.slice ma y.1.ms.length mc,.slice ea y.1.es.length ec]) (fun k=>W.heap.size≤k) (fP (fP w2 W.heap.size (.string y.1.fW) (.slice ia y.1.cy.length ic) (.slice ma y.1.ms.length mc) (.slice ea y.1.es.length ec)) (W.heap.size+1) (.int .i64 0) (.int .i64 0) (.int .i64 0) (.string ⟨#[]⟩))∧Below W.heap.size W (fP (fP w2 W.heap.size (.string y.1.fW) (.slice ia y.1.cy.length ic) (.slice ma y.1.ms.length mc) (.slice ea y.1.es.length ec)) (W.heap.size+1) (.int .i64 0) (.int .i64 0) (.int .i64 0) (.string ⟨#[]⟩)):=by
   obtain ⟨_,_,o1,o2,o3,o4,o5⟩:=Df
   have nE:W.heap.size+2≤w1.heap.size:=by have:=(zA (aa Yq)).1;omega
   exact ⟨qn _ _ _ _ _ _ (fun k hk hl=>⟨by omega,o5 k hl (by omega) (by omega)⟩) (aa HNf),hB.trans ⟨o1,o2,o3,o4,fun k hk=>o5 k (by have:=hB.size;omega) (by omega) (by omega)⟩⟩
  have Yz:=aj Df
  have ko:=aj gK
  unfold fP at Yz ko
  have Hr:=aj hr
  clear Df gK yf zf k2 k3 hB q1 q2 q4 aaA hg Yr hr
  go_wp2
  refine leaves_cons (f:=48) (args:=#[.pointer (some ⟨W.heap.size,0,none⟩),.pointer (some ⟨W.heap.size+1,0,none⟩)]) (by simp) (by simp[go_sem]) ?_
  refine PQ.mono ?_
  rintro e u' w3 ⟨rfl,rfl,ll⟩
  have Df:=aa Yz
  have gK:=aa ko
  rw[←ll] at Df gK
  refine ⟨_,mL rfl _ _ W.heap.size (W.heap.size+1) 26 33 _ _ (0,0) (0,0) _ _ rfl rfl Df.1 Df.2.1 Tryz.underlying26 rfl oq Tryz.underlying33 rfl DK,?_⟩
  rw[aa Hr]
  exact ⟨_,rfl,gK.1,gK.2⟩
noncomputable def nM (ts:List Tk):Except (Int×Int) (Fl×aI):=if 16384<ts.length then .error (2,0) else iP (fi ts)
theorem uR {W w:World}{a0 a1 a2 a3 b0 b1 b2 b3:Value} (hB:Below W.heap.size W w) (h2:w.heap[W.heap.size]?=some (.cells #[a0,a1,a2,a3] 26 (0,0))) (h3:w.heap[W.heap.size+1]?=some (.cells #[b0,b1,b2,b3] 33 (0,0))) (c0 c1 c2 c3 d0 d1 d2 d3:Value) :
  Ct W.heap.size (W.heap.size+1) #[c0,c1,c2,c3] #[d0,d1,d2,d3] w (fP (fP w W.heap.size c0 c1 c2 c3) (W.heap.size+1) d0 d1 d2 d3)∧Below W.heap.size W (fP (fP w W.heap.size c0 c1 c2 c3) (W.heap.size+1) d0 d1 d2 d3):=by
 have Df:=Mz (by omega) h2 h3 c0 c1 c2 c3 d0 d1 d2 d3
 refine ⟨Df,?_⟩
 obtain ⟨_,_,o1,o2,o3,o4,o5⟩:=Df
 exact hB.trans ⟨o1,o2,o3,o4,fun k hk=>o5 k (by have:=hB.size;omega) (by omega) (by omega)⟩
theorem yq {W W0 w:World}{r:Except (Int×Int) (Fl×aI)}{e:Ending}{a0 a1 a2 a3 b0 b1 b2 b3:Value} (S2:Below W.heap.size W W0) (hl:W.heap.size+2≤W0.heap.size) (h2:W0.heap[W.heap.size]?=some (.cells #[a0,a1,a2,a3] 26 (0,0))) (h3:W0.heap[W.heap.size+1]?=some (.cells #[b0,b1,b2,b3] 33 (0,0))) (h:QV W0 r e w) :
  ∃c0 ia il ic ma ml mc ea el ec er sp,e=.returned (.tuple #[.agg #[.string c0,.slice ia il ic,.slice ma ml mc,.slice ea el ec],.agg #[.int .i64 er,.int .i64 0,.int .i64 sp,.string ⟨#[]⟩]])∧w.heap[W.heap.size]?=some (.cells #[a0,a1,a2,a3] 26 (0,0))∧w.heap[W.heap.size+1]?=some (.cells #[b0,b1,b2,b3] 33 (0,0)) ∧
   (fP (fP w W.heap.size (.string c0) (.slice ia il ic) (.slice ma ml mc) (.slice ea el ec)) (W.heap.size+1) (.int .i64 er) (.int .i64 0) (.int .i64 sp) (.string ⟨#[]⟩)).heap[W.heap.size]?=some (.cells #[.string c0,.slice ia il ic,.slice ma ml mc,.slice ea el ec] 26 (0,0)) ∧
   (fP (fP w W.heap.size (.string c0) (.slice ia il ic) (.slice ma ml mc) (.slice ea el ec)) (W.heap.size+1) (.int .i64 er) (.int .i64 0) (.int .i64 sp) (.string ⟨#[]⟩)).heap[W.heap.size+1]?=some (.cells #[.int .i64 er,.int .i64 0,.int .i64 sp,.string ⟨#[]⟩] 33 (0,0)) ∧
   QV W r e (fP (fP w W.heap.size (.string c0) (.slice ia il ic) (.slice ma ml mc) (.slice ea el ec)) (W.heap.size+1) (.int .i64 er) (.int .i64 0) (.int .i64 sp) (.string ⟨#[]⟩)):=by
 cases hr:r with
 |error y =>
  rw[hr] at h
  obtain ⟨rfl,hb⟩:=h
  have k2:=(hb.block W.heap.size (by omega)).trans h2
  have k3:=(hb.block (W.heap.size+1) (by omega)).trans h3
  obtain ⟨q1,q2⟩:=uR (S2.trans (hb.mono S2.size)) k2 k3 (.string ⟨#[]⟩) (.slice none 0 0) (.slice none 0 0) (.slice none 0 0) (.int .i64 y.1) (.int .i64 0) (.int .i64 y.2) (.string ⟨#[]⟩)
  exact ⟨_,_,_,_,_,_,_,_,_,_,_,_,rfl,k2,k3,q1.1,q1.2.1,rfl,q2⟩
 |ok y =>
  rw[hr] at h
  obtain ⟨fv,rfl,Uz,hb⟩:=h
  have k2:=(hb.block W.heap.size (by omega)).trans h2
  have k3:=(hb.block (W.heap.size+1) (by omega)).trans h3
  have aaD:=Uz
  obtain ⟨vi,vm,ve,cm,ce,rfl,n1,n2,_,n4,_⟩:=Uz
  obtain ⟨ia,ic,e1⟩:=bK n1.1
  obtain ⟨ma,mc,e2⟩:=bK n2.1
  obtain ⟨ea,ec,e3⟩:=bK n4.1
  subst e1 e2 e3
  obtain ⟨q1,q2⟩:=uR (S2.trans (hb.mono S2.size)) k2 k3 (.string y.1.fW) (.slice ia y.1.cy.length ic) (.slice ma y.1.ms.length mc) (.slice ea y.1.es.length ec) (.int .i64 0) (.int .i64 0) (.int .i64 0) (.string ⟨#[]⟩)
  refine ⟨_,_,_,_,_,_,_,_,_,_,_,_,rfl,k2,k3,q1.1,q1.2.1,_,rfl,?_,q2⟩
  obtain ⟨_,_,o1,o2,o3,o4,o5⟩:=q1
  exact qn _ _ _ _ _ _ (fun k hk hl=>⟨by omega,o5 k hl (by omega) (by omega)⟩) aaD
def Nq (W:World) (er sp:Int):World:=(W.alloc (.cells #[.string ⟨#[]⟩,.slice none 0 0,.slice none 0 0,.slice none 0 0] 26)).alloc (.cells #[.int .i64 er,.int .i64 0,.int .i64 sp,.string ⟨#[]⟩] 33)
theorem al2 (W:World) (er sp:Int):Below W.heap.size W (Nq W er sp)∧(Nq W er sp).heap.size=W.heap.size+2∧(Nq W er sp).heap[W.heap.size]?=some (.cells #[.string ⟨#[]⟩,.slice none 0 0,.slice none 0 0,.slice none 0 0] 26 (0,0))∧(Nq W er sp).heap[W.heap.size+1]?=some (.cells #[.int .i64 er,.int .i64 0,.int .i64 sp,.string ⟨#[]⟩] 33 (0,0)):=by
 unfold Nq
 refine ⟨((zE _ _).alloc (zD _) _).alloc (by rw[zJ];omega) _,by simp only[zJ],(Below.heap_alloc _ _ _ (by rw[zJ];omega)).trans (aC _ _),?_⟩
 have:=aC (W.alloc (.cells #[.string ⟨#[]⟩,.slice none 0 0,.slice none 0 0,.slice none 0 0] 26)) (.cells #[.int .i64 er,.int .i64 0,.int .i64 sp,.string ⟨#[]⟩] 33)
 rw[zJ] at this
 exact this
theorem tM {fn:Func}{R:Ending→World→Prop}{tm:Array Value}{w:World}{p q:Tmp}{g k:Nat}{cs ds:Array Value} (h:fn.results=#[.cell p 26,.cell q 33]) (hp:tm.getD p undef=.pointer (some ⟨g,0,none⟩)) (hq:tm.getD q undef=.pointer (some ⟨k,0,none⟩)) (hg:w.heap[g]?=some (.cells cs 26 (0,0))) (hk:w.heap[k]?=some (.cells ds 33 (0,0))) (hc:cs.size=4) (hd:ds.size=4) (hR:R (.returned (.tuple #[.agg cs,.agg ds])) w):bodyPost Tryz.prog fn R .ret ⟨tm,[]⟩ w :=
 bodyPost_ret (mL h _ _ g k 26 33 cs ds (0,0) (0,0) _ _ hp hq hg hk Tryz.underlying26 rfl (by rw[hc];exact oq) Tryz.underlying33 rfl (by rw[hd];exact DK)) rfl hR
theorem BH {W:World}{v:Value}{ts:List Tk} (hF:mA W) (hE:fZ W) (hM:gD W) (h:fK W W.heap.size W.heap.size v ts) (hs:∀t ∈ ts,t.text.size≤140737488355327) (hn:ts.length≤140737488355327):Calls Tryz.prog 12 #[v] W (QV W (nM ts)):=by
 obtain ⟨a,c,hv,hc,_⟩:=id h
 by_cases pB:16384<ts.length
 ·have hd:decide ((16384:Int)<(ts.length:Int))=true:=by simp;omega
  obtain ⟨bH,_,nT,fF⟩:=al2 W 2 0
  have HE:Hid (QV W (nM ts) (.returned (.tuple #[.agg #[.string ⟨#[]⟩,.slice none 0 0,.slice none 0 0,.slice none 0 0],.agg #[.int .i64 2,.int .i64 0,.int .i64 0,.string ⟨#[]⟩]])) (Nq W 2 0)):=by
   show QV W (nM ts) _ _
   unfold nM
   rw[if_pos pB]
   exact ⟨rfl,bH⟩
  have H1:=aj nT
  have H2:=aj fF
  unfold Nq at HE H1 H2
  subst hv
  clear h hs bH nT fF pB hF hE hM
  go_enter Tryz.func12,Tryz.ntmps12
  go_wp2
  exact tM rfl rfl rfl (aa H1) (aa H2) rfl rfl (aa HE)
 ·have hd:decide ((16384:Int)<(ts.length:Int))=false:=by simp;omega
  obtain ⟨bH,bR,nT,fF⟩:=al2 W 0 0
  have HF:Hid (nM ts=iP (fi ts)):=by show _=_;unfold nM;rw[if_neg pB]
  have HC:=aj (Km (hF.up bH) (hE.up bH) (hM.up bH hM.1) (h.new bH (by omega) (by omega)) hs (by omega))
  have HX:=aj (fun e w=>yq (W:=W) (r:=iP (fi ts)) (e:=e) (w:=w) bH (by omega) nT fF)
  unfold Nq at HC HX
  subst hv
  clear h hs bH bR nT fF pB hF hE hM
  go_enter Tryz.func12,Tryz.ntmps12
  go_wp2_with fail
  refine (aa HC).mono ?_
  intro e w1 Qz
  obtain ⟨c0,ia,il,ic,ma,ml,mc,ea,el,ec,er,sp,rfl,k2,k3,q2,q3,gK⟩:=aa HX _ _ Qz
  obtain ⟨⟨y0,y1,y2,y3⟩,yf⟩:=gz k2
  obtain ⟨⟨z0,z1,z2,z3⟩,zf⟩:=gz k3
  have f0:=yf 0
  have f1:=yf 1
  have f2:=yf 2
  have f3:=yf 3
  have g0:=zf 0
  have g1:=zf 1
  have g2:=zf 2
  have g3:=zf 3
  have Q2:=aj q2
  have Q3:=aj q3
  have HE:=aj gK
  unfold fP at Q2 Q3 HE
  clear Qz yf zf k2 k3 q2 q3 gK HC HX
  go_wp2
  refine tM rfl rfl rfl (aa Q2) (aa Q3) rfl rfl ?_
  rw[aa HF]
  exact aa HE
noncomputable def gV (s:ByteArray):Except (Int×Int) (Fl×aI):=match lG s with
 |.inl ts=>nM (ts.map Tok.tk)
 |.inr (k,c)=>.error ((c:Int),(k:Int))
theorem Od {W:World}{B lo b:Nat}{v:Value}{ts:List Tok} (h:W.ownsRow B 44 3 v ts.length (eI ts)) (hl:W.heap.size≤lo) (hb:W.heap.size≤b):fK W lo b v (ts.map Tok.tk):=by
 rw[yg] at h
 have hlen:(ts.map Tok.tk).length=ts.length:=by simp
 rcases h.2 with ⟨rfl,h0⟩|⟨g,c,cur,rfl,h1,h2,h3,h4,_⟩
 ·exact ⟨none,0,by rw[hlen,h0],by rw[hlen];omega,by unfold maxLen;omega,fun hp=>by rw[hlen] at hp;omega⟩
 ·have hr:gM B W (.slice (some ⟨g,0,none⟩) ts.length c) (ts.map Tok.tk):=by unfold gM;rw[hlen];exact h
  have cc:=(zA h2).1
  refine ⟨_,c,by rw[hlen],by rw[hlen];exact h3,h4,fun hp=>⟨g,0,rfl,by omega,by omega,fun i t ht=>?_⟩⟩
  obtain ⟨x1,x2,x3⟩:=hr.cell ht
  rw[Nat.zero_add]
  exact ⟨x1,x2,x3⟩
end Go.Proofs.YtmlphohdcejniaaGreatDoor

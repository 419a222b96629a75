import Derived.Test.YtjophoclfccmcaaGreatDoorM30
import Derived.Defers
import Derived.Recover
import Derived.Laws.Pointers
set_option maxHeartbeats 4000000
set_option maxRecDepth 100000
namespace Go.Proofs.YtjophoclfccmcaaGreatDoor
open Go.RowKit
attribute [local go_sem ↓] Go.wp_at_zero Go.wp_at_succ
def Z4:Array Value:=#[.string ⟨#[]⟩,.slice none 0 0,.slice none 0 0,.slice none 0 0]
def oy (er sp:Int):Array Value:=#[.int .i64 er,.int .i64 0,.int .i64 sp,.string ⟨#[]⟩]
def Ct (p2 p3:Nat) (a b:Array Value) (w w':World):Prop:=w'.heap[p2]?=some (.cells a 27 (0,0))∧w'.heap[p3]?=some (.cells b 30 (0,0))∧w'.os=w.os∧w'.tape=w.tape∧w'.output=w.output∧w.heap.size≤w'.heap.size∧∀k,k<w.heap.size→k≠p2→k≠p3→w'.heap[k]?=w.heap[k]?
theorem Ad (w:World) (t:TypeId) (v:Value):Sem.run Tryz.prog (binOp BinOp.neq 20 (.iface t v) .nilIface) w=.ok (.bool true) w:=by
 go_simp
theorem Mg (w:World) (v:Value):(Instr.typeAssert (.iface 30 v) 20 30 false).run Tryz.prog w=.ok v w:=by
 unfold Instr.typeAssert
 simp[run_underlying Tryz.underlying30]
noncomputable def pW:Code:=match Tryz.f31.body with
 |some (.seq _ t)=>t
 |_=>.skip
noncomputable def FI:Code:=match Tryz.f31.body with
 |some (.seq a _)=>a
 |_=>.skip
theorem Dw:Tryz.f31.body=some (.seq FI pW):=rfl
theorem O0 {p2 p3:Nat}{w:World}{a0 a1 a2 a3 b0 b1 b2 b3:Value} (eb:p2≠p3) (h2:w.heap[p2]?=some (.cells #[a0,a1,a2,a3] 27 (0,0))) (h3:w.heap[p3]?=some (.cells #[b0,b1,b2,b3] 30 (0,0))) (c0 c1 c2 c3 d0 d1 d2 d3:Value):Ct p2 p3 #[c0,c1,c2,c3] #[d0,d1,d2,d3] w (fT (fT w p2 c0 c1 c2 c3) p3 d0 d1 d2 d3):=by
 obtain ⟨r1,r2⟩:=mS h2 c0 c1 c2 c3
 obtain ⟨q1,q2⟩:=mS ((r2.block p3 (zA h3).1 (by simpa using eb.symm)).trans h3) d0 d1 d2 d3
 exact ⟨(q2.block p2 (zA r1).1 (by simpa using eb)).trans r1,q1,q2.os.trans r2.os,q2.tape.trans r2.tape,q2.output.trans r2.output,Nat.le_trans r2.size q2.size,fun k hk k2 k3=>(q2.block k (Nat.lt_of_lt_of_le hk r2.size) (by simpa using k3)).trans (r2.block k hk (by simpa using k2))⟩
theorem Jb {p2 p3:Nat}{a b:Array Value}{w w':World} (h:Ct p2 p3 a b w w'):Ct p2 p3 a b w w'.drew:=h
theorem MD {p2 p3:Nat}{er sp:Int}{w:World}{a0 a1 a2 a3 b0 b1 b2 b3:Value} (eb:p2≠p3) (h2:w.heap[p2]?=some (.cells #[a0,a1,a2,a3] 27 (0,0))) (h3:w.heap[p3]?=some (.cells #[b0,b1,b2,b3] 30 (0,0))) {u:Nat→Value}{Q:Exit→Act→World→Prop}
  (hQ:∀tm w',Ct p2 p3 Z4 (oy er sp) w w'→Q .normal ⟨tm,[]⟩ w'):pW.wp Tryz.prog Q ⟨#[.pointer (some ⟨p2,0,none⟩),.pointer (some ⟨p3,0,none⟩),.iface 30 (.agg (oy er sp)),u 3,u 4,u 5,u 6,u 7,u 8],[]⟩ w:=by
 have HQ:=ab hQ
 have HCt:=ab (O0 eb h2 h3 (.string ⟨#[]⟩) (.slice none 0 0) (.slice none 0 0) (.slice none 0 0) (.int .i64 er) (.int .i64 0) (.int .i64 sp) (.string ⟨#[]⟩))
 unfold fT at HCt
 obtain ⟨⟨y0,y1,y2,y3⟩,yf⟩:=ck h2
 obtain ⟨⟨z0,z1,z2,z3⟩,zf⟩:=ck h3
 have f0:=yf 0
 have f1:=yf 1
 have f2:=yf 2
 have f3:=yf 3
 have e0:=zf 0
 have e1:=zf 1
 have e2:=zf 2
 have e3:=zf 3
 have rV:=Ad
 have hta:=Mg
 unfold oy at HQ ⊢
 unfold Z4 at HQ
 clear yf zf h2 h3 hQ
 unfold pW
 dsimp only[Tryz.f31]
 go_wp2
 go_region
 refine aa HQ _ _ (Jb ?_)
 with_reducible exact aa HCt
theorem ME {p2 p3:Nat}{w:World}{u:Nat→Value}{Q:Exit→Act→World→Prop} (hQ:∀tm,Q .normal ⟨tm,[]⟩ w):pW.wp Tryz.prog Q ⟨#[.pointer (some ⟨p2,0,none⟩),.pointer (some ⟨p3,0,none⟩),.nilIface,u 3,u 4,u 5,u 6,u 7,u 8],[]⟩ w:=by
 have HQ:=ab hQ
 clear hQ
 unfold pW
 dsimp only[Tryz.f31]
 go_wp2
 exact aa HQ _
theorem SA {p2 p3:Nat}{er sp:Int}{w:World}{a0 a1 a2 a3 b0 b1 b2 b3:Value} (eb:p2≠p3) (h2:w.heap[p2]?=some (.cells #[a0,a1,a2,a3] 27 (0,0))) (h3:w.heap[p3]?=some (.cells #[b0,b1,b2,b3] 30 (0,0))) :
  CallsD Tryz.prog 31 #[.pointer (some ⟨p2,0,none⟩),.pointer (some ⟨p3,0,none⟩)] (.panicking [{ v:=.iface 30 (.agg (oy er sp)),recovered:=false }]) w fun e u' w' =>
   e=.returned (.tuple #[])∧u'=.panicking [{ v:=.iface 30 (.agg (oy er sp)),recovered:=true }]∧Ct p2 p3 Z4 (oy er sp) w w':=by
 refine callsD_of_wpS Tryz.func31 Dw fun c₀ cs hu=>?_
 apply wpS_seq
 obtain ⟨tl,pG⟩:∃t,pW=t:=⟨_,rfl⟩
 rw[pG]
 unfold FI
 dsimp only[Tryz.f31]
 apply wpS_region
 simp[wpOpsS,go_sem,recoverD,hu,Exit.thenS]
 rw[←pG]
 refine wpS_of_wp ?_
 simp only[Array.replicate_succ,Array.replicate_zero,List.push_toArray,List.append_toArray,List.nil_append,List.cons_append,zL,zM,zN]
 refine MD (u:=fun i=>[undef,undef,undef,.iface 30 (.agg (oy er sp))].getD i undef) eb h2 h3 ?_
 intro tm w' E8
 refine ⟨rfl,_,rfl,.tuple #[],?_,rfl,rfl,E8⟩
 simp[results]
theorem SB {p2 p3:Nat}{w:World} :
  CallsD Tryz.prog 31 #[.pointer (some ⟨p2,0,none⟩),.pointer (some ⟨p3,0,none⟩)] .returning w fun e u' w'=>e=.returned (.tuple #[])∧u'=.returning∧w'=w:=by
 refine callsD_of_wpS Tryz.func31 Dw fun c₀ cs hu=>?_
 apply wpS_seq
 obtain ⟨tl,pG⟩:∃t,pW=t:=⟨_,rfl⟩
 rw[pG]
 unfold FI
 dsimp only[Tryz.f31]
 apply wpS_region
 simp[wpOpsS,go_sem,recoverD,hu,Exit.thenS]
 rw[←pG]
 refine wpS_of_wp ?_
 simp only[Array.replicate_succ,Array.replicate_zero,List.push_toArray,List.append_toArray,List.nil_append,List.cons_append,zL,zM,zN]
 refine ME (u:=fun i=>[undef,undef,undef,.nilIface].getD i undef) ?_
 intro tm
 refine ⟨rfl,.returning,?_,.tuple #[],?_,rfl,rfl,rfl⟩
 ·cases c₀
  simp_all
 ·simp[results]
def EM (W:World) (r:Except (Int×Int) (Fl×ax)) (e:Ending) (w:World):Prop:=match r with
 |.error y=>e=.returned (.tuple #[.agg Z4,.agg (oy y.1 y.2)])∧Below W.heap.size W w
 |.ok (x,_)=>∃fv,e=.returned (.tuple #[fv,.agg (oy 0 0)])∧NF x fv (fun k=>W.heap.size≤k) w∧Below W.heap.size W w
theorem oO (a:Fl) (x:Value):aP (NF a x):=by
 rintro P P' w w' hg ⟨vi,vm,ve,cm,ce,rfl,h1,h2,h3,h4,h5⟩
 exact ⟨vi,vm,ve,cm,ce,rfl,h1.goes hg,h2.goes hg,fb _ _ _ _ _ _ hg h3,h4.goes hg,eP _ _ _ _ _ _ hg h5⟩
theorem Dp {ts:List Tk} (h:∀t ∈ ts,t.text.size≤140737488355327):Sm (cJ ts):=by
 unfold cJ
 split
 ·intro t ht
  exact h t (List.mem_of_mem_take ht)
 ·split<;>exact h
theorem JT {ts:List Tk} (h:ts.length≤16384):(cJ ts).ts.length≤16384:=by
 unfold cJ
 split
 ·simp only[List.length_take]
  omega
 ·split<;>exact h
theorem nS {P:Program}{fn:Func}{p q:Tmp}{ty tz:TypeId} (h:fn.results=#[.cell p ty,.cell q tz]) (tmps:Array Value) (w:World) (g k:Nat) (t u:TypeId) (cs ds:Array Value) (fr gr:Nat×Nat) (d e:TypeDesc)
  (hp:tmps.getD p undef=.pointer (some ⟨g,0,none⟩)) (hq:tmps.getD q undef=.pointer (some ⟨k,0,none⟩)) (hg:w.heap[g]?=some (.cells cs t fr)) (hk:w.heap[k]?=some (.cells ds u gr))
  (hu:P.underlying ty=some d) (hd:(match d with|.struct _|.array _ _=>true|_=>false)=true) (hi:(P.info? ty).map (·.size)=some cs.size) (hv:P.underlying tz=some e) (he:(match e with|.struct _|.array _ _=>true|_=>false)=true) (hj:(P.info? tz).map (·.size)=some ds.size) :
  (results fn tmps).run P w=.ok (.tuple #[.agg cs,.agg ds]) w:=by
 have hp':tmps[p]?.getD undef=.pointer (some ⟨g,0,none⟩):=by simpa using hp
 have hq':tmps[q]?.getD undef=.pointer (some ⟨k,0,none⟩):=by simpa using hq
 simp[results,h,hp',hq',asAddr,run_loadVar_row w g t ty cs fr d hg hu hd hi,run_loadVar_row w k u tz ds gr e hk hv he hj]
theorem FD:(Tryz.prog.info? 30).map (·.size)=some 4:=by kernel_rfl
theorem MC {W:World}{v:Value}{ts:List Tk} (hF:nD W) (hE:gW W) (hM:oJ W) (h:fj W W.heap.size W.heap.size v ts) (hs:∀t ∈ ts,t.text.size≤140737488355327) (hn:ts.length≤16384):Calls Tryz.prog 20 #[v] W (EM W (iB (cJ ts))):=by
 have IG:∀(fn:Fn) (first cap:Array Value) (w:World),(Instr.makeFunc fn first cap).run Tryz.prog w=.ok (.func fn first cap) w:=fun _ _ _ _=>rfl
 have bo:Below W.heap.size W ((W.alloc (.cells Z4 27)).alloc (.cells (oy 0 0) 30)):=((zE _ _).alloc (zD _) _).alloc (by rw[zJ];omega) _
 have iZ:((W.alloc (.cells Z4 27)).alloc (.cells (oy 0 0) 30)).heap[W.heap.size]?=some (.cells Z4 27 (0,0)):=(Below.heap_alloc _ _ _ (by rw[zJ];omega)).trans (aF _ _)
 have ew:((W.alloc (.cells Z4 27)).alloc (.cells (oy 0 0) 30)).heap[W.heap.size+1]?=some (.cells (oy 0 0) 30 (0,0)):=by
  have:=aF (W.alloc (.cells Z4 27)) (.cells (oy 0 0) 30)
  rw[zJ] at this
  exact this
 have cl:((W.alloc (.cells Z4 27)).alloc (.cells (oy 0 0) 30)).heap.size=W.heap.size+2:=by simp only[zJ]
 have HC:=ab (Aa (h.new bo (by rw[cl];omega) (by rw[cl];omega)) hn)
 have LJ:=ab iZ
 have tc:=ab ew
 have iJ:=ab bo
 have ET:=ab cl
 have XW:=ab (show nD W∧gW W∧oJ W from ⟨hF,hE,hM⟩)
 have HS:=ab (Dp hs)
 have Hn:=ab (JT hn)
 clear iZ ew bo cl hF hE hM h hs hn
 unfold Z4 oy at HC LJ tc iJ ET
 go_enter_defers Tryz.func20,Tryz.ntmps20
 go_wp2_with fail
 refine (aa HC).mono ?_
 rintro e w1 ⟨b,rfl,oP,Tx,Lx⟩
 rw[aa ET] at oP Tx
 have hbW:Below W.heap.size W w1:=(aa iJ).trans (Tx.mono (by omega))
 have Tw:Env W w1 b:=⟨(aa XW).1,(aa XW).2.1,(aa XW).2.2,hbW,by omega⟩
 have Uf:=ab (OF Tw Lx (aa HS) (aa Hn))
 have h2:=(Tx.block W.heap.size (by omega)).trans (aa LJ)
 have h3:=(Tx.block (W.heap.size+1) (by omega)).trans (aa tc)
 have HH2:=ab h2
 have HH3:=ab h3
 have Hbl:=ab oP
 have HbW:=ab hbW
 clear h2 h3 oP Tx Lx hbW Tw HC LJ tc iJ ET XW
 go_wp2_with fail
 refine (aa Uf).mono ?_
 intro e w2 ky
 unfold CR at ky
 cases hr:iB (cJ ts) with
 |error y =>
  rw[hr] at ky
  obtain ⟨rfl,hg⟩:=ky
  have oP:=aa Hbl
  have k2:=(hg.block W.heap.size (zA (aa HH2)).1 (by simp;omega)).trans (aa HH2)
  have k3:=(hg.block (W.heap.size+1) (zA (aa HH3)).1 (by simp;omega)).trans (aa HH3)
  have hB:Below W.heap.size W w2:=(aa HbW).grown hg (aa HbW).size (fun k e=>by simp at e;omega)
  show bodyPostD _ _ _ (Exit.panic _) _ _
  refine leaves_cons (f:=31) (args:=#[.pointer (some ⟨W.heap.size,0,none⟩),.pointer (some ⟨W.heap.size+1,0,none⟩)]) (by simp) (by simp[go_sem]) ?_
  refine (SA (er:=y.1) (sp:=y.2) (by omega) k2 k3).mono ?_
  rintro e u' w3 ⟨rfl,rfl,E8⟩
  refine ⟨_,nS rfl _ _ W.heap.size (W.heap.size+1) 27 30 Z4 (oy y.1 y.2) (0,0) (0,0) _ _ rfl rfl E8.1 E8.2.1 Tryz.underlying27 rfl yd Tryz.underlying30 rfl FD,rfl,?_⟩
  obtain ⟨_,_,o1,o2,o3,o4,o5⟩:=E8
  exact hB.trans ⟨o1,o2,o3,o4,fun k hk=>o5 k (by have:=hB.size;omega) (by omega) (by omega)⟩
 |ok y =>
  rw[hr] at ky
  obtain ⟨fv,rfl,Zl,abo,hg⟩:=ky
  have HNf:=ab Zl
  obtain ⟨vi,vm,ve,cm,ce,rfl,q1,q2,_,q4,_⟩:=Zl
  obtain ⟨ia,ic,e1⟩:=bZ q1.1
  obtain ⟨ma,mc,e2⟩:=bZ q2.1
  obtain ⟨ea,ec,e3⟩:=bZ q4.1
  subst e1 e2 e3
  have oP:=aa Hbl
  have k2:=(hg.block W.heap.size (zA (aa HH2)).1 (by simp;omega)).trans (aa HH2)
  have k3:=(hg.block (W.heap.size+1) (zA (aa HH3)).1 (by simp;omega)).trans (aa HH3)
  have hB:Below W.heap.size W w2:=(aa HbW).grown hg (aa HbW).size (fun k e=>by simp at e;omega)
  obtain ⟨⟨y0,y1,y2,y3⟩,yf⟩:=ck k2
  obtain ⟨⟨z0,z1,z2,z3⟩,zf⟩:=ck k3
  have f0:=yf 0
  have f1:=yf 1
  have f2:=yf 2
  have f3:=yf 3
  have g0:=zf 0
  have g1:=zf 1
  have g2:=zf 2
  have g3:=zf 3
  have E8:=O0 (by omega) k2 k3 (.string y.1.kH) (.slice ia y.1.fU.length ic) (.slice ma y.1.ms.length mc) (.slice ea y.1.es.length ec) (.int .i64 0) (.int .i64 0) (.int .i64 0) (.string ⟨#[]⟩)
  have nd:NF y.1 (.agg #[.string y.1.kH,.slice ia y.1.fU.length ic,.slice ma y.1.ms.length mc,.slice ea y.1.es.length ec]) (fun k=>W.heap.size≤k) (fT (fT w2 W.heap.size (.string y.1.kH) (.slice ia y.1.fU.length ic) (.slice ma y.1.ms.length mc) (.slice ea y.1.es.length ec)) (W.heap.size+1) (.int .i64 0) (.int .i64 0) (.int .i64 0) (.string ⟨#[]⟩))∧Below W.heap.size W (fT (fT w2 W.heap.size (.string y.1.kH) (.slice ia y.1.fU.length ic) (.slice ma y.1.ms.length mc) (.slice ea y.1.es.length ec)) (W.heap.size+1) (.int .i64 0) (.int .i64 0) (.int .i64 0) (.string ⟨#[]⟩)):=by
   obtain ⟨_,_,o1,o2,o3,o4,o5⟩:=E8
   have eL:W.heap.size+2≤w1.heap.size:=by have:=(zA (aa HH3)).1;omega
   exact ⟨oO _ _ _ _ _ _ (fun k hk hl=>⟨by omega,o5 k hl (by omega) (by omega)⟩) (aa HNf),hB.trans ⟨o1,o2,o3,o4,fun k hk=>o5 k (by have:=hB.size;omega) (by omega) (by omega)⟩⟩
  have HCt:=ab E8
  have aaI:=ab nd
  unfold fT at HCt aaI
  have Hr:=ab hr
  clear E8 nd yf zf k2 k3 hB q1 q2 q4 abo hg Uf hr
  go_wp2
  refine leaves_cons (f:=31) (args:=#[.pointer (some ⟨W.heap.size,0,none⟩),.pointer (some ⟨W.heap.size+1,0,none⟩)]) (by simp) (by simp[go_sem]) ?_
  refine SB.mono ?_
  rintro e u' w3 ⟨rfl,rfl,gS⟩
  have E8:=aa HCt
  have nd:=aa aaI
  rw[←gS] at E8 nd
  refine ⟨_,nS rfl _ _ W.heap.size (W.heap.size+1) 27 30 _ _ (0,0) (0,0) _ _ rfl rfl E8.1 E8.2.1 Tryz.underlying27 rfl yd Tryz.underlying30 rfl FD,?_⟩
  rw[aa Hr]
  exact ⟨_,rfl,nd.1,nd.2⟩
noncomputable def iM (ts:List Tk):Except (Int×Int) (Fl×ax):=if 16384<ts.length then .error (2,0) else iB (cJ ts)
theorem mg {W w:World}{a0 a1 a2 a3 b0 b1 b2 b3:Value} (hB:Below W.heap.size W w) (h2:w.heap[W.heap.size]?=some (.cells #[a0,a1,a2,a3] 27 (0,0))) (h3:w.heap[W.heap.size+1]?=some (.cells #[b0,b1,b2,b3] 30 (0,0))) (c0 c1 c2 c3 d0 d1 d2 d3:Value) :
  Ct W.heap.size (W.heap.size+1) #[c0,c1,c2,c3] #[d0,d1,d2,d3] w (fT (fT w W.heap.size c0 c1 c2 c3) (W.heap.size+1) d0 d1 d2 d3)∧Below W.heap.size W (fT (fT w W.heap.size c0 c1 c2 c3) (W.heap.size+1) d0 d1 d2 d3):=by
 have E8:=O0 (by omega) h2 h3 c0 c1 c2 c3 d0 d1 d2 d3
 refine ⟨E8,?_⟩
 obtain ⟨_,_,o1,o2,o3,o4,o5⟩:=E8
 exact hB.trans ⟨o1,o2,o3,o4,fun k hk=>o5 k (by have:=hB.size;omega) (by omega) (by omega)⟩
theorem su {W W0 w:World}{r:Except (Int×Int) (Fl×ax)}{e:Ending}{a0 a1 a2 a3 b0 b1 b2 b3:Value} (VD:Below W.heap.size W W0) (hl:W.heap.size+2≤W0.heap.size) (h2:W0.heap[W.heap.size]?=some (.cells #[a0,a1,a2,a3] 27 (0,0))) (h3:W0.heap[W.heap.size+1]?=some (.cells #[b0,b1,b2,b3] 30 (0,0))) (h:EM W0 r e w) :
  ∃c0 ia il ic ma ml mc ea el ec er sp,e=.returned (.tuple #[.agg #[.string c0,.slice ia il ic,.slice ma ml mc,.slice ea el ec],.agg #[.int .i64 er,.int .i64 0,.int .i64 sp,.string ⟨#[]⟩]])∧w.heap[W.heap.size]?=some (.cells #[a0,a1,a2,a3] 27 (0,0))∧w.heap[W.heap.size+1]?=some (.cells #[b0,b1,b2,b3] 30 (0,0)) ∧
   (fT (fT w W.heap.size (.string c0) (.slice ia il ic) (.slice ma ml mc) (.slice ea el ec)) (W.heap.size+1) (.int .i64 er) (.int .i64 0) (.int .i64 sp) (.string ⟨#[]⟩)).heap[W.heap.size]?=some (.cells #[.string c0,.slice ia il ic,.slice ma ml mc,.slice ea el ec] 27 (0,0)) ∧
   (fT (fT w W.heap.size (.string c0) (.slice ia il ic) (.slice ma ml mc) (.slice ea el ec)) (W.heap.size+1) (.int .i64 er) (.int .i64 0) (.int .i64 sp) (.string ⟨#[]⟩)).heap[W.heap.size+1]?=some (.cells #[.int .i64 er,.int .i64 0,.int .i64 sp,.string ⟨#[]⟩] 30 (0,0)) ∧
   EM W r e (fT (fT w W.heap.size (.string c0) (.slice ia il ic) (.slice ma ml mc) (.slice ea el ec)) (W.heap.size+1) (.int .i64 er) (.int .i64 0) (.int .i64 sp) (.string ⟨#[]⟩)):=by
 cases hr:r with
 |error y =>
  rw[hr] at h
  obtain ⟨rfl,hb⟩:=h
  have k2:=(hb.block W.heap.size (by omega)).trans h2
  have k3:=(hb.block (W.heap.size+1) (by omega)).trans h3
  obtain ⟨q1,q2⟩:=mg (VD.trans (hb.mono VD.size)) k2 k3 (.string ⟨#[]⟩) (.slice none 0 0) (.slice none 0 0) (.slice none 0 0) (.int .i64 y.1) (.int .i64 0) (.int .i64 y.2) (.string ⟨#[]⟩)
  exact ⟨_,_,_,_,_,_,_,_,_,_,_,_,rfl,k2,k3,q1.1,q1.2.1,rfl,q2⟩
 |ok y =>
  rw[hr] at h
  obtain ⟨fv,rfl,Zl,hb⟩:=h
  have k2:=(hb.block W.heap.size (by omega)).trans h2
  have k3:=(hb.block (W.heap.size+1) (by omega)).trans h3
  have abr:=Zl
  obtain ⟨vi,vm,ve,cm,ce,rfl,n1,n2,_,n4,_⟩:=Zl
  obtain ⟨ia,ic,e1⟩:=bZ n1.1
  obtain ⟨ma,mc,e2⟩:=bZ n2.1
  obtain ⟨ea,ec,e3⟩:=bZ n4.1
  subst e1 e2 e3
  obtain ⟨q1,q2⟩:=mg (VD.trans (hb.mono VD.size)) k2 k3 (.string y.1.kH) (.slice ia y.1.fU.length ic) (.slice ma y.1.ms.length mc) (.slice ea y.1.es.length ec) (.int .i64 0) (.int .i64 0) (.int .i64 0) (.string ⟨#[]⟩)
  refine ⟨_,_,_,_,_,_,_,_,_,_,_,_,rfl,k2,k3,q1.1,q1.2.1,_,rfl,?_,q2⟩
  obtain ⟨_,_,o1,o2,o3,o4,o5⟩:=q1
  exact oO _ _ _ _ _ _ (fun k hk hl=>⟨by omega,o5 k hl (by omega) (by omega)⟩) abr
def Bm (W:World) (er sp:Int):World:=(W.alloc (.cells #[.string ⟨#[]⟩,.slice none 0 0,.slice none 0 0,.slice none 0 0] 27)).alloc (.cells #[.int .i64 er,.int .i64 0,.int .i64 sp,.string ⟨#[]⟩] 30)
theorem XJ (W:World) (er sp:Int):Below W.heap.size W (Bm W er sp)∧(Bm W er sp).heap.size=W.heap.size+2∧(Bm W er sp).heap[W.heap.size]?=some (.cells #[.string ⟨#[]⟩,.slice none 0 0,.slice none 0 0,.slice none 0 0] 27 (0,0))∧(Bm W er sp).heap[W.heap.size+1]?=some (.cells #[.int .i64 er,.int .i64 0,.int .i64 sp,.string ⟨#[]⟩] 30 (0,0)):=by
 unfold Bm
 refine ⟨((zE _ _).alloc (zD _) _).alloc (by rw[zJ];omega) _,by simp only[zJ],(Below.heap_alloc _ _ _ (by rw[zJ];omega)).trans (aF _ _),?_⟩
 have:=aF (W.alloc (.cells #[.string ⟨#[]⟩,.slice none 0 0,.slice none 0 0,.slice none 0 0] 27)) (.cells #[.int .i64 er,.int .i64 0,.int .i64 sp,.string ⟨#[]⟩] 30)
 rw[zJ] at this
 exact this
theorem km {fn:Func}{R:Ending→World→Prop}{tm:Array Value}{w:World}{p q:Tmp}{g k:Nat}{cs ds:Array Value} (h:fn.results=#[.cell p 27,.cell q 30]) (hp:tm.getD p undef=.pointer (some ⟨g,0,none⟩)) (hq:tm.getD q undef=.pointer (some ⟨k,0,none⟩)) (hg:w.heap[g]?=some (.cells cs 27 (0,0))) (hk:w.heap[k]?=some (.cells ds 30 (0,0))) (hc:cs.size=4) (hd:ds.size=4) (hR:R (.returned (.tuple #[.agg cs,.agg ds])) w):bodyPost Tryz.prog fn R .ret ⟨tm,[]⟩ w :=
 bodyPost_ret (nS h _ _ g k 27 30 cs ds (0,0) (0,0) _ _ hp hq hg hk Tryz.underlying27 rfl (by rw[hc];exact yd) Tryz.underlying30 rfl (by rw[hd];exact FD)) rfl hR
theorem Dx {W:World}{v:Value}{ts:List Tk} (hF:nD W) (hE:gW W) (hM:oJ W) (h:fj W W.heap.size W.heap.size v ts) (hs:∀t ∈ ts,t.text.size≤140737488355327) (hn:ts.length≤140737488355327):Calls Tryz.prog 11 #[v] W (EM W (iM ts)):=by
 obtain ⟨a,c,hv,hc,_⟩:=id h
 by_cases mB:16384<ts.length
 ·have hd:decide ((16384:Int)<(ts.length:Int))=true:=by simp;omega
  obtain ⟨bo,_,iZ,ew⟩:=XJ W 2 0
  have HE:Hid (EM W (iM ts) (.returned (.tuple #[.agg #[.string ⟨#[]⟩,.slice none 0 0,.slice none 0 0,.slice none 0 0],.agg #[.int .i64 2,.int .i64 0,.int .i64 0,.string ⟨#[]⟩]])) (Bm W 2 0)):=by
   show EM W (iM ts) _ _
   unfold iM
   rw[if_pos mB]
   exact ⟨rfl,bo⟩
  have H1:=ab iZ
  have H2:=ab ew
  unfold Bm at HE H1 H2
  subst hv
  clear h hs bo iZ ew mB hF hE hM
  go_enter Tryz.func11,Tryz.ntmps11
  go_wp2
  exact km rfl rfl rfl (aa H1) (aa H2) rfl rfl (aa HE)
 ·have hd:decide ((16384:Int)<(ts.length:Int))=false:=by simp;omega
  obtain ⟨bo,cl,iZ,ew⟩:=XJ W 0 0
  have HF:Hid (iM ts=iB (cJ ts)):=by show _=_;unfold iM;rw[if_neg mB]
  have HC:=ab (MC (hF.up bo) (hE.up bo) (hM.up bo hM.1) (h.new bo (by omega) (by omega)) hs (by omega))
  have HX:=ab (fun e w=>su (W:=W) (r:=iB (cJ ts)) (e:=e) (w:=w) bo (by omega) iZ ew)
  unfold Bm at HC HX
  subst hv
  clear h hs bo cl iZ ew mB hF hE hM
  go_enter Tryz.func11,Tryz.ntmps11
  go_wp2_with fail
  refine (aa HC).mono ?_
  intro e w1 Lx
  obtain ⟨c0,ia,il,ic,ma,ml,mc,ea,el,ec,er,sp,rfl,k2,k3,q2,q3,nd⟩:=aa HX _ _ Lx
  obtain ⟨⟨y0,y1,y2,y3⟩,yf⟩:=ck k2
  obtain ⟨⟨z0,z1,z2,z3⟩,zf⟩:=ck k3
  have f0:=yf 0
  have f1:=yf 1
  have f2:=yf 2
  have f3:=yf 3
  have g0:=zf 0
  have g1:=zf 1
  have g2:=zf 2
  have g3:=zf 3
  have Q2:=ab q2
  have Q3:=ab q3
  have HE:=ab nd
  unfold fT at Q2 Q3 HE
  clear Lx yf zf k2 k3 q2 q3 nd HC HX
  go_wp2
  refine km rfl rfl rfl (aa Q2) (aa Q3) rfl rfl ?_
  rw[aa HF]
  exact aa HE
noncomputable def fy (s:ByteArray):Except (Int×Int) (Fl×ax):=match kO s with
 |.inl ts=>iM (ts.map Tok.tk)
 |.inr (k,c)=>.error ((c:Int),(k:Int))
theorem H8 {W:World}{B lo b:Nat}{v:Value}{ts:List Tok} (h:W.ownsRow B 38 3 v ts.length (eH ts)) (hl:W.heap.size≤lo) (hb:W.heap.size≤b):fj W lo b v (ts.map Tok.tk):=by
 rw[AG] at h
 have hlen:(ts.map Tok.tk).length=ts.length:=by simp
 rcases h.2 with ⟨rfl,h0⟩|⟨g,c,cur,rfl,h1,h2,h3,h4,_⟩
 ·exact ⟨none,0,by rw[hlen,h0],by rw[hlen];omega,by unfold maxLen;omega,fun hp=>by rw[hlen] at hp;omega⟩
 ·have hr:fO B W (.slice (some ⟨g,0,none⟩) ts.length c) (ts.map Tok.tk):=by unfold fO;rw[hlen];exact h
  have dr:=(zA h2).1
  refine ⟨_,c,by rw[hlen],by rw[hlen];exact h3,h4,fun hp=>⟨g,0,rfl,by omega,by omega,fun i t ht=>?_⟩⟩
  obtain ⟨x1,x2,x3⟩:=hr.cell ht
  rw[Nat.zero_add]
  exact ⟨x1,x2,x3⟩
theorem OI (s:ByteArray) (a b:Nat):(s.extract a b).size≤s.size:=by
 rw[ByteArray.size_extract]
 omega
theorem JK (s:ByteArray):∀(f k n:Nat) (ts:List Tok),jD s f k n=.inl ts→∀t ∈ ts,t.text.size≤s.size:=by
 intro f
 induction f with
 |zero=>intro k n ts h;cases h
 |succ f ih =>
  intro k n ts h
  rw[jD] at h
  split at h
  ·cases h
  ·split at h
   ·have:=Sum.inl.inj h
    rw[←this]
    intro t ht
    rw[List.mem_singleton] at ht
    subst ht
    exact Nat.zero_le _
   ·split at h
    ·cases h
    ·split at h
     ·cases hr:jD s f (cI s (bw s s.size k).1).2.1 (n+1) with
      |inl l =>
       rw[hr] at h
       have:=Sum.inl.inj h
       have h2:=ih _ _ l hr
       rw[←this]
       intro t ht
       rcases List.mem_cons.1 ht with rfl|ht
       ·exact OI _ _ _
       ·exact h2 t ht
      |inr e=>rw[hr] at h;cases h
     ·cases h
theorem AD {s:ByteArray}{ts:List Tok} (h:kO s=.inl ts):∀t ∈ ts,t.text.size≤65536:=by
 unfold kO at h
 split at h
 ·cases h
 ·split at h
  ·cases h
  ·rename_i h1 _
   intro t ht
   have:=JK s _ _ _ ts h t ht
   omega
theorem sy {W:World} (hF:nD W) (hE:gW W) (hM:oJ W) (s:ByteArray):Calls Tryz.prog 8 #[.string s] W (EM W (fy s)):=by
 obtain ⟨bo,cl,iZ,ew⟩:=XJ W 0 0
 have HC:=ab (Ft (hF.up bo) (hE.up bo) (hM.up bo hM.1) s)
 have HB:=ab bo
 have ET:=ab cl
 have HX:=ab (show (Bm W 0 0).heap[W.heap.size]?=_∧(Bm W 0 0).heap[W.heap.size+1]?=_ from ⟨iZ,ew⟩)
 have XW:=ab (show nD W∧gW W∧oJ W from ⟨hF,hE,hM⟩)
 unfold Bm at HC HB ET HX
 clear bo cl iZ ew hF hE hM
 go_enter Tryz.func8,Tryz.ntmps8
 go_wp2_with fail
 refine (aa HC).mono ?_
 rintro e w1 ⟨bK,NS⟩
 rw[aa ET] at bK NS
 have E9:Below W.heap.size W w1:=(aa HB).trans (bK.mono (by omega))
 have uc:W.heap.size+2≤w1.heap.size:=by have:=bK.size;have:=aa ET;omega
 have k2:=(bK.block W.heap.size (by omega)).trans (aa HX).1
 have k3:=(bK.block (W.heap.size+1) (by omega)).trans (aa HX).2
 cases ht:kO s with
 |inr p =>
  obtain ⟨k,c⟩:=p
  rw[ht] at NS
  obtain ⟨hc,rfl⟩:=NS
  have HF:Hid (fy s=.error ((c:Int),(k:Int))):=by show _=_;unfold fy;rw[ht]
  obtain ⟨q1,q2⟩:=mg E9 k2 k3 (.string ⟨#[]⟩) (.slice none 0 0) (.slice none 0 0) (.slice none 0 0) (.int .i64 (c:Int)) (.int .i64 0) (.int .i64 (k:Int)) (.string ⟨#[]⟩)
  have Q1:=ab q1
  have Q2:=ab q2
  unfold fT at Q1 Q2
  obtain ⟨⟨y0,y1,y2,y3⟩,yf⟩:=ck k2
  obtain ⟨⟨z0,z1,z2,z3⟩,zf⟩:=ck k3
  have f0:=yf 0
  have f1:=yf 1
  have f2:=yf 2
  have f3:=yf 3
  have g0:=zf 0
  have g1:=zf 1
  have g2:=zf 2
  have g3:=zf 3
  have hcz:((c:Int) != 0)=true:=by simp;omega
  clear bK E9 uc k2 k3 ht q1 q2 yf zf hc HC
  go_wp2
  refine km rfl rfl rfl (aa Q1).1 (aa Q1).2.1 rfl rfl ?_
  rw[aa HF]
  exact ⟨rfl,aa Q2⟩
 |inl ts =>
  rw[ht] at NS
  obtain ⟨v,rfl,cW⟩:=NS
  have HF:Hid (fy s=iM (ts.map Tok.tk)):=by show _=_;unfold fy;rw[ht]
  have Tw:=aa XW
  have Rz:∀t ∈ ts.map Tok.tk,t.text.size≤140737488355327:=fun t h=>by
   obtain ⟨t0,h0,rfl⟩:=List.mem_map.1 h
   have:=AD ht t0 h0
   show t0.text.size≤_
   omega
  have HT:=ab (Dx (Tw.1.up E9) (Tw.2.1.up E9) (Tw.2.2.up E9 Tw.2.2.1) (H8 cW (zD _) (zD _)) Rz (by have:=Dd ht;simp;omega))
  have XO:=ab (fun e w=>su (W:=W) (r:=iM (ts.map Tok.tk)) (e:=e) (w:=w) E9 uc k2 k3)
  obtain ⟨va,vn,vc,hv⟩:=aU cW
  subst hv
  clear bK E9 uc k2 k3 ht cW Tw Rz HC
  go_wp2_with fail
  refine (aa HT).mono ?_
  intro e w2 Lx
  obtain ⟨c0,ia,il,ic,ma,ml,mc,ea,el,ec,er,sp,rfl,k2,k3,q2,q3,nd⟩:=aa XO _ _ Lx
  obtain ⟨⟨y0,y1,y2,y3⟩,yf⟩:=ck k2
  obtain ⟨⟨z0,z1,z2,z3⟩,zf⟩:=ck k3
  have f0:=yf 0
  have f1:=yf 1
  have f2:=yf 2
  have f3:=yf 3
  have g0:=zf 0
  have g1:=zf 1
  have g2:=zf 2
  have g3:=zf 3
  have Q2:=ab q2
  have Q3:=ab q3
  have HE:=ab nd
  unfold fT at Q2 Q3 HE
  clear Lx yf zf k2 k3 q2 q3 nd HT XO
  go_wp2
  refine km rfl rfl rfl (aa Q2) (aa Q3) rfl rfl ?_
  rw[aa HF]
  exact aa HE
def sX (w:World) (v:Value) (n:Nat) (xs:List Value):Prop:=∃a c,v=.slice a n c∧n≤maxLen∧(0<n→∃g,a=some ⟨g,0,none⟩∧g<w.heap.size∧∀j x,xs[j]?=some x→w.cell? ⟨g,j,none⟩=some x)
theorem jd.rd {P:Nat→Prop}{w:World}{t sz n:Nat}{v:Value}{xs:List Value} (h:jd P w t sz v n xs):sX w v n xs:=by
 obtain ⟨⟨h1,⟨rfl,rfl⟩|⟨g,c,cur,rfl,h2,h3,h4,h5,h6,h7⟩⟩,_⟩:=h
 ·exact ⟨none,0,rfl,Nat.zero_le _,fun h=>absurd h (by omega)⟩
 ·refine ⟨_,c,rfl,Nat.le_trans h4 h5,fun _=>⟨g,rfl,(zA h3).1,fun j u hj=>?_⟩⟩
  rw[cell_of_row _ _ _ _ _ _ h3,←Array.getElem?_toList]
  rw[←h7,List.getElem?_take] at hj
  split at hj
  ·exact hj
  ·cases hj
theorem sX.up {w w':World}{v:Value}{n:Nat}{xs:List Value} (h:sX w v n xs) (hb:Below w.heap.size w w'):sX w' v n xs:=by
 obtain ⟨a,c,rfl,h1,h2⟩:=h
 refine ⟨a,c,rfl,h1,fun hp=>?_⟩
 obtain ⟨g,rfl,h3,h4⟩:=h2 hp
 exact ⟨g,rfl,Nat.lt_of_lt_of_le h3 hb.size,fun j x hx=>(hb.cell (p:=⟨g,j,none⟩) h3).trans (h4 j x hx)⟩
def pN (W:World) (e:Ending) (w:World):Prop:=e=.returned (.bool true)∧Below W.heap.size W w
theorem Bw (l:List ByteArray) (i:Nat) (t:ByteArray) (h:l[i]?=some t):(dV l)[i]?=some (.string t):=by
 unfold dV
 rw[List.getElem?_map,h]
 rfl
theorem OJ:∀(l:List (ByteArray×Int)) (i:Nat) (p:ByteArray×Int),l[i]?=some p→(KY l)[i*2]?=some (.string p.1)∧(KY l)[i*2+1]?=some (.int .i64 p.2)
 |[],i,t,h=>by simp at h
 |x::r,0,t,h=>by
  obtain rfl:x=t:=by simpa using h
  exact ⟨rfl,rfl⟩
 |x::r,i+1,t,h=>by
  have:=OJ r i t (by simpa using h)
  rw[show (i+1)*2=i*2+2 by omega]
  exact this
theorem My:∀(l:List (Int×Int)) (i:Nat) (p:Int×Int),l[i]?=some p→(qC l)[i*2]?=some (.int .i64 p.1)∧(qC l)[i*2+1]?=some (.int .i64 p.2)
 |[],i,t,h=>by simp at h
 |x::r,0,t,h=>by
  obtain rfl:x=t:=by simpa using h
  exact ⟨rfl,rfl⟩
 |x::r,i+1,t,h=>by
  have:=My r i t (by simpa using h)
  rw[show (i+1)*2=i*2+2 by omega]
  exact this
theorem I2:∀(l:List Fd) (i:Nat) (d:Fd),l[i]?=some d→∀j v,d.arr[j]?=some v→(mF l)[i*6+j]?=some v
 |[],i,t,h=>by simp at h
 |x::r,0,t,h=>by
  obtain rfl:x=t:=by simpa using h
  intro j v hv
  have hj:j<6:=by
   have:=(zA hv).1
   simpa[Fd.arr] using this
  show (x.arr.toList++_)[0*6+j]?=_
  rw[List.getElem?_append_left (by simp[Fd.arr];omega),Nat.zero_mul,Nat.zero_add,Array.getElem?_toList]
  exact hv
 |x::r,i+1,t,h=>by
  intro j v hv
  have:=I2 r i t (by simpa using h) j v hv
  rw[show (i+1)*6+j=6+(i*6+j) by omega]
  show (x.arr.toList++mF r)[6+(i*6+j)]?=_
  rw[List.getElem?_append_right (by simp[Fd.arr])]
  simpa[Fd.arr] using this
theorem jx {W:World}{v u:Value}{l:List ByteArray} (h:sX W v l.length (dV l)) (h':sX W u l.length (dV l)):Calls Tryz.prog 17 #[v,u] W (pN W):=by
 obtain ⟨a,c,rfl,hc,h3⟩:=h
 obtain ⟨a',c',rfl,Oe,A1⟩:=h'
 have H3:=ab h3
 have H3':=ab A1
 clear h3 A1
 unfold maxLen at hc Oe
 have hll:((l.length:Int) != (l.length:Int))=false:=by simp
 go_enter Tryz.func17,Tryz.ntmps17
 go_wp2
 go_loopg [5] l.length (fun gk v5 wr=>∃(i m:Nat),v5=.int .i64 (i:Int)∧gk=l.length-i∧i≤l.length∧wr=W.drewN m)
 case atStart=>exact ⟨0,0,rfl,rfl,by omega,rfl⟩
 case round =>
  obtain ⟨i,m,rfl,dY,hi,rfl⟩:=hrel
  have gF:=ab dY
  clear dY
  by_cases dr:i<l.length
  ·obtain ⟨t,ht⟩:∃t,l[i]?=some t:=⟨_,List.getElem?_eq_getElem dr⟩
   obtain ⟨g,rfl,hg,hx⟩:=aa H3 (by omega)
   obtain ⟨g',rfl,tH,pF⟩:=aa H3' (by omega)
   have x1:=hx _ _ (Bw l i t ht)
   have y1:=pF _ _ (Bw l i t ht)
   have i0:(0:Int)≤(i:Int):=zH _
   have i1:(i:Int)<(l.length:Int):=by omega
   clear hx pF ht
   go_wp2
   go_quiet (fail)
   go_wp2
   go_roundg (l.length-(i+1))
   case measure=>have:=aa gF;omega
   case rel=>exact ⟨i+1,_,by go_num,rfl,by omega,rfl⟩
  ·obtain rfl:i=l.length:=by omega
   go_wp2
   go_ret
   exact ⟨rfl,below_drewN (zE _ _) _⟩
theorem qQ {W:World}{v u:Value}{l:List (Int×Int)} (h:sX W v l.length (qC l)) (h':sX W u l.length (qC l)):Calls Tryz.prog 30 #[v,u] W (pN W):=by
 obtain ⟨a,c,rfl,hc,h3⟩:=h
 obtain ⟨a',c',rfl,Oe,A1⟩:=h'
 have H3:=ab h3
 have H3':=ab A1
 clear h3 A1
 unfold maxLen at hc Oe
 have hll:((l.length:Int) != (l.length:Int))=false:=by simp
 go_enter Tryz.func30,Tryz.ntmps30
 go_wp2
 go_loopg [5] l.length (fun gk v5 wr=>∃(i m:Nat),v5=.int .i64 (i:Int)∧gk=l.length-i∧i≤l.length∧wr=W.drewN m)
 case atStart=>exact ⟨0,0,rfl,rfl,by omega,rfl⟩
 case round =>
  obtain ⟨i,m,rfl,dY,hi,rfl⟩:=hrel
  have gF:=ab dY
  clear dY
  by_cases dr:i<l.length
  ·obtain ⟨t,ht⟩:∃t,l[i]?=some t:=⟨_,List.getElem?_eq_getElem dr⟩
   obtain ⟨g,rfl,hg,hx⟩:=aa H3 (by omega)
   obtain ⟨g',rfl,tH,pF⟩:=aa H3' (by omega)
   obtain ⟨r1,r2⟩:=My l i t ht
   have x1:=hx _ _ r1
   have y1:=pF _ _ r1
   have x2:=hx _ _ r2
   have y2:=pF _ _ r2
   have i0:(0:Int)≤(i:Int):=zH _
   have i1:(i:Int)<(l.length:Int):=by omega
   obtain ⟨t1,t2⟩:=t
   simp only at x1 x2 y1 y2
   clear hx pF ht r1 r2
   go_wp2
   go_quiet (fail)
   go_wp2
   go_roundg (l.length-(i+1))
   case measure=>have:=aa gF;omega
   case rel=>exact ⟨i+1,_,by go_num,rfl,by omega,rfl⟩
  ·obtain rfl:i=l.length:=by omega
   go_wp2
   go_ret
   exact ⟨rfl,below_drewN (zE _ _) _⟩
def WN (w:World) (cs:List Value) (l:List En):Prop:=∀(i:Nat) (e:En),l[i]?=some e→∃vv vr vg,(cs[i*4]?=some (.string e.name)∧cs[i*4+1]?=some vv∧cs[i*4+2]?=some vr∧cs[i*4+3]?=some vg)∧sX w vv e.bT.length (KY e.bT)∧sX w vr e.res.length (qC e.res)∧sX w vg e.gone.length (dV e.gone)
theorem fH.rd {P:Nat→Prop}{w:World}{cs:List Value}{l:List En} (h:fH P w cs l):WN w cs l:=by
 induction h with
 |nil=>intro i e h;simp at h
 |cons hv hr hg _ ih =>
  intro i e h
  cases i with
  |zero =>
   obtain rfl:=zC h
   exact ⟨_,_,_,⟨rfl,rfl,rfl,rfl⟩,hv.rd,hr.rd,hg.rd⟩
  |succ i =>
   obtain ⟨vv,vr,vg,h1,h2⟩:=ih i e (by simpa using h)
   refine ⟨vv,vr,vg,?_,h2⟩
   rw[show (i+1)*4=i*4+4 by omega]
   exact h1
theorem WN.up {w w':World}{cs:List Value}{l:List En} (h:WN w cs l) (hb:Below w.heap.size w w'):WN w' cs l:=fun i e hi=>by
 obtain ⟨vv,vr,vg,h1,h2,h3,h4⟩:=h i e hi
 exact ⟨vv,vr,vg,h1,h2.up hb,h3.up hb,h4.up hb⟩
structure Ln (W:World) (p q:Nat) (xs ys:Array Value) (t:TypeId) (w:World):Prop where
 bl:Below W.heap.size W w
 x:∀j,w.cell? ⟨p,j,none⟩=xs[j]?
 y:∀j,w.cell? ⟨q,j,none⟩=ys[j]?
 lx:p<w.heap.size
 ly:q<w.heap.size
theorem xU {W wr:World} (hb:Below W.heap.size W wr) (xs ys:Array Value) (t:TypeId):Ln W wr.heap.size (wr.heap.size+1) xs ys t ((wr.alloc (.cells xs t)).alloc (.cells ys t)):=by
 have h1:=hb.size
 refine ⟨(hb.alloc h1 _).alloc (by rw[zJ];omega) _,fun j=>?_,fun j=>?_,by rw[zJ,zJ];omega,by rw[zJ,zJ];omega⟩
 ·rw[World.cell?_alloc_past _ _ _ (by rw[zJ];omega),World.cell?_alloc_at _ _ _ _ rfl]
 ·rw[World.cell?_alloc_at _ _ _ _ (by rw[zJ])]
theorem Ln.up {W w w':World}{p q:Nat}{xs ys:Array Value}{t:TypeId} (h:Ln W p q xs ys t w) (hb:Below w.heap.size w w'):Ln W p q xs ys t w' :=
 ⟨h.bl.trans (hb.mono h.bl.size),fun j=>(hb.cell (p:=⟨p,j,none⟩) h.lx).trans (h.x j),fun j=>(hb.cell (p:=⟨q,j,none⟩) h.ly).trans (h.y j),Nat.lt_of_lt_of_le h.lx hb.size,Nat.lt_of_lt_of_le h.ly hb.size⟩
theorem z7 (W:World) (a a':Option Addr) (c c':Nat):Calls Tryz.prog 19 #[.slice a 0 c,.slice a' 0 c'] W (pN W):=by
 go_enter Tryz.func19,Tryz.ntmps19
 go_wp2
 go_loopg [5] 1 (fun gk v5 wr=>v5=.int .i64 0∧wr=W)
 case atStart=>exact ⟨rfl,rfl⟩
 case round =>
  obtain ⟨rfl,rfl⟩:=hrel
  go_wp2
  go_ret
  exact ⟨rfl,zE _ _⟩
theorem pB {W:World}{v u:Value}{l:List En}{cs XD:List Value} (h:sX W v l.length cs) (hE:WN W cs l) (h':sX W u l.length XD) (ZR:WN W XD l):Calls Tryz.prog 19 #[v,u] W (pN W):=by
 obtain ⟨a,c,rfl,hc,h3⟩:=h
 obtain ⟨a',c',rfl,Oe,A1⟩:=h'
 by_cases hz:l.length=0
 ·rw[hz]
  exact z7 W a a' c c'
 obtain ⟨g,rfl,hg,hx⟩:=h3 (by omega)
 obtain ⟨g',rfl,tH,pF⟩:=A1 (by omega)
 have HX:=ab hx
 have LK:=ab pF
 have HE:=ab hE
 have HE':=ab ZR
 clear h3 A1 hx pF hE ZR hz
 unfold maxLen at hc Oe
 have hll:((l.length:Int) != (l.length:Int))=false:=by simp
 go_enter Tryz.func19,Tryz.ntmps19
 go_wp2
 go_loopg [5] l.length (fun gk v5 wr=>∃(i:Nat),v5=.int .i64 (i:Int)∧gk=l.length-i∧i≤l.length∧Hid (Below W.heap.size W wr))
 case atStart=>exact ⟨0,rfl,rfl,by omega,zE _ _⟩
 case round =>
  obtain ⟨i,rfl,dY,hi,HB⟩:=hrel
  have gF:=ab dY
  clear dY
  by_cases dr:i<l.length
  ·obtain ⟨t,ht⟩:∃t,l[i]?=some t:=⟨_,List.getElem?_eq_getElem dr⟩
   have hB:=aa HB
   obtain ⟨vv,vr,vg,⟨x0,x1,x2,x3⟩,rv,rr,rg⟩:=aa HE i t ht
   obtain ⟨vv',vr',vg',⟨y0,y1,y2,y3⟩,rv',Yg,Yh⟩:=aa HE' i t ht
   have RV:=ab rv
   have RR:=ab rr
   have RG:=ab rg
   have RV':=ab rv'
   have RR':=ab Yg
   have RG':=ab Yh
   obtain ⟨av,cv,rfl,Kv,_⟩:=rv
   obtain ⟨av',cv',rfl,_,_⟩:=rv'
   obtain ⟨ar,cr,rfl,_,_⟩:=rr
   obtain ⟨ar',cr',rfl,_,_⟩:=Yg
   obtain ⟨ag,cg,rfl,_,_⟩:=rg
   obtain ⟨ag',cg',rfl,_,_⟩:=Yh
   unfold maxLen at Kv
   have IJ:g'<wr.heap.size:=Nat.lt_of_lt_of_le tH hB.size
   have d0:=(hB.cell (p:=⟨g,i*4,none⟩) hg).trans (aa HX _ _ x0)
   have d1:=(hB.cell (p:=⟨g,i*4+1,none⟩) hg).trans (aa HX _ _ x1)
   have d2:=(hB.cell (p:=⟨g,i*4+2,none⟩) hg).trans (aa HX _ _ x2)
   have d3:=(hB.cell (p:=⟨g,i*4+3,none⟩) hg).trans (aa HX _ _ x3)
   have f0:=(hB.cell (p:=⟨g',i*4,none⟩) tH).trans (aa LK _ _ y0)
   have f1:=(hB.cell (p:=⟨g',i*4+1,none⟩) tH).trans (aa LK _ _ y1)
   have f2:=(hB.cell (p:=⟨g',i*4+2,none⟩) tH).trans (aa LK _ _ y2)
   have f3:=(hB.cell (p:=⟨g',i*4+3,none⟩) tH).trans (aa LK _ _ y3)
   have gf0:∀o,(wr.alloc o).cell? ⟨g',i*4,none⟩=_:=fun o=>(World.cell?_alloc_lt _ _ _ IJ).trans f0
   have gf1:∀o,(wr.alloc o).cell? ⟨g',i*4+1,none⟩=_:=fun o=>(World.cell?_alloc_lt _ _ _ IJ).trans f1
   have gf2:∀o,(wr.alloc o).cell? ⟨g',i*4+2,none⟩=_:=fun o=>(World.cell?_alloc_lt _ _ _ IJ).trans f2
   have gf3:∀o,(wr.alloc o).cell? ⟨g',i*4+3,none⟩=_:=fun o=>(World.cell?_alloc_lt _ _ _ IJ).trans f3
   have i0:(0:Int)≤(i:Int):=zH _
   have i1:(i:Int)<(l.length:Int):=by omega
   have e1:((t.bT.length:Int) != (t.bT.length:Int))=false:=by simp
   have oK:=ab (xU hB #[.string t.name,.slice av t.bT.length cv,.slice ar t.res.length cr,.slice ag t.gone.length cg] #[.string t.name,.slice av' t.bT.length cv',.slice ar' t.res.length cr',.slice ag' t.gone.length cg'] 71)
   clear x0 x1 x2 x3 y0 y1 y2 y3 hB ht
   go_wp2_with fail
   have H0:=aa oK
   refine (qQ ((aa RR).up H0.bl) ((aa RR').up H0.bl)).mono ?_
   rintro e w2 ⟨rfl,bo⟩
   have Jr:=ab (H0.up bo)
   have X2:=(aa Jr).x
   have Y2:=(aa Jr).y
   clear H0 bo oK d0 d1 d2 d3 f0 f1 f2 f3 gf0 gf1 gf2 gf3
   go_wp2_with fail
   have H2:=aa Jr
   refine (jx ((aa RG).up H2.bl) ((aa RG').up H2.bl)).mono ?_
   rintro e w3 ⟨rfl,qG⟩
   have CF:=ab (H2.up qG)
   have X3:=(aa CF).x
   have Y3:=(aa CF).y
   clear H2 qG Jr X2 Y2
   go_wp2
   go_loopg [8] t.bT.length (fun gk v8 wq=>∃(k m:Nat),v8=.int .i64 (k:Int)∧gk=t.bT.length-k∧k≤t.bT.length∧wq=w3.drewN m)
   case atStart=>exact ⟨0,0,rfl,rfl,by omega,rfl⟩
   case round =>
    obtain ⟨k,m,rfl,mC,hk,rfl⟩:=hrel
    have sZ:=ab mC
    clear mC
    by_cases Xi:k<t.bT.length
    ·obtain ⟨p,hp⟩:∃p,t.bT[k]?=some p:=⟨_,List.getElem?_eq_getElem Xi⟩
     obtain ⟨z1,z2⟩:=OJ _ _ _ hp
     obtain ⟨_,_,ee,_,cW⟩:=(aa RV).up (aa CF).bl
     obtain ⟨_,_,ee',_,DX⟩:=(aa RV').up (aa CF).bl
     obtain ⟨gv,hav,hgv,Lw⟩:=cW (by omega)
     obtain ⟨gv',Vw,abu,yK⟩:=DX (by omega)
     cases ee
     cases ee'
     subst hav
     subst Vw
     have d1:=Lw _ _ z1
     have d2:=Lw _ _ z2
     have f1:=yK _ _ z1
     have f2:=yK _ _ z2
     have k0:(0:Int)≤(k:Int):=zH _
     have k1:(k:Int)<(t.bT.length:Int):=by omega
     obtain ⟨p1,p2⟩:=p
     simp only at d1 d2 f1 f2
     clear Lw yK z1 z2 cW DX hp
     go_wp2
     go_quiet (fail)
     go_wp2
     go_roundg (t.bT.length-(k+1))
     case measure=>have:=aa sZ;omega
     case rel=>exact ⟨k+1,_,by go_num,rfl,by omega,rfl⟩
    ·obtain rfl:k=t.bT.length:=by omega
     go_wp2
     go_roundg (l.length-(i+1))
     case measure=>have:=aa gF;omega
     case rel=>exact ⟨i+1,by go_num,rfl,by omega,below_drewN (aa CF).bl _⟩
  ·obtain rfl:i=l.length:=by omega
   go_wp2
   go_ret
   exact ⟨rfl,aa HB⟩
end Go.Proofs.YtjophoclfccmcaaGreatDoor

import Derived.Test.YtmlphohdcejniaaGreatDoorPbW
set_option maxHeartbeats 4000000
set_option maxRecDepth 100000
namespace Go.Proofs.YtmlphohdcejniaaGreatDoor
open Go.RowKit
attribute [local go_sem ↓] Go.wp_at_zero Go.wp_at_succ
theorem Rj {tm:Array Value} (h:tm.size=40):∃u:Nat→Value,tm=#[u 0,u 1,u 2,u 3,u 4,u 5,u 6,u 7,u 8,u 9,u 10,u 11,u 12,u 13,u 14,u 15,u 16,u 17,u 18,u 19,u 20,u 21,u 22,u 23,u 24,u 25,u 26,u 27,u 28,u 29,u 30,u 31,u 32,u 33,u 34,u 35,u 36,u 37,u 38,u 39]:=by
 refine ⟨fun i=>tm.getD i undef,?_⟩
 have e:tm=((List.range 40).map fun i=>tm.getD i undef).toArray:=by
  apply Array.ext
  ·simp[h]
  ·intro i h1 h2
   simp[Array.getD,h1]
 exact e.trans rfl
theorem TG:(Tryz.prog.info? 64).map (·.size)=some 7:=by kernel_rfl
theorem Ov {w:World}{g:Nat}{a0 a1 a2 a3 a4 a5 a6:Value}{t:TypeId} (h:w.heap[g]?=some (.cells #[a0,a1,a2,a3,a4,a5,a6] t (0,0))):(w.cell? ⟨g,0,none⟩=some a0∧w.cell? ⟨g,1,none⟩=some a1∧w.cell? ⟨g,2,none⟩=some a2∧w.cell? ⟨g,3,none⟩=some a3∧w.cell? ⟨g,4,none⟩=some a4∧w.cell? ⟨g,5,none⟩=some a5∧w.cell? ⟨g,6,none⟩=some a6)∧∀j,w.frozen? ⟨g,j,none⟩=false:=by
 refine ⟨⟨?_,?_,?_,?_,?_,?_,?_⟩,fun j=>by simp[World.frozen?,h]⟩<;>rw[cell_of_row _ _ _ _ _ _ h]<;>rfl
def Jt (w:World) (g:Nat) (a0 a1 a2 a3 a4 a5 a6:Value):World:=((((((w.setCell ⟨g,0,none⟩ a0).setCell ⟨g,1,none⟩ a1).setCell ⟨g,2,none⟩ a2).setCell ⟨g,3,none⟩ a3).setCell ⟨g,4,none⟩ a4).setCell ⟨g,5,none⟩ a5).setCell ⟨g,6,none⟩ a6
theorem Fm {w:World}{g:Nat}{b0 b1 b2 b3 b4 b5 b6:Value}{t:TypeId} (h:w.heap[g]?=some (.cells #[b0,b1,b2,b3,b4,b5,b6] t (0,0))) (a0 a1 a2 a3 a4 a5 a6:Value):(Jt w g a0 a1 a2 a3 a4 a5 a6).heap[g]?=some (.cells #[a0,a1,a2,a3,a4,a5,a6] t (0,0))∧w.grownBy (Jt w g a0 a1 a2 a3 a4 a5 a6) (some g):=by
 obtain ⟨h0,g0⟩:=aJ (j:=0) h a0
 obtain ⟨h1,g1⟩:=aJ (j:=1) h0 a1
 obtain ⟨h2,g2⟩:=aJ (j:=2) h1 a2
 obtain ⟨h3,g3⟩:=aJ (j:=3) h2 a3
 obtain ⟨h4,g4⟩:=aJ (j:=4) h3 a4
 obtain ⟨h5,g5⟩:=aJ (j:=5) h4 a5
 obtain ⟨h6,g6⟩:=aJ (j:=6) h5 a6
 exact ⟨h6,(((((g0.trans g1).trans g2).trans g3).trans g4).trans g5).trans g6⟩
theorem SC {lo b n:Nat}{W:World}{s:aD} (h:Rd lo W b s) (hn:n≤32):Rd lo (W.setCell ⟨b,6,none⟩ (.int .i64 (n:Int))) b { s with op:=n }∧W.grownBy (W.setCell ⟨b,6,none⟩ (.int .i64 (n:Int))) (some b):=by
 obtain ⟨v,h1,h2,h3,h4,h5,h6⟩:=h
 obtain ⟨k1,k2⟩:=aJ (j:=6) h1 (.int .i64 (n:Int))
 exact ⟨⟨v,k1,h2.F' h3.2 k2,⟨h3.1,Nat.le_trans h3.2 k2.size⟩,h4,hn,h6⟩,k2⟩
noncomputable def DB:Code:=match Tryz.f101.body with
 |some (.seq _ (.seq _ (.seq _ (.seq _ (.seq _ (.seq _ t))))))=>t
 |_=>.skip
noncomputable def Mv (t:Code):Code:=match Tryz.f101.body with
 |some (.seq a (.seq b (.seq c (.seq d (.seq e (.seq f _))))))=>.seq a (.seq b (.seq c (.seq d (.seq e (.seq f t)))))
 |_=>.skip
theorem Mu:Tryz.f101.body=some (Mv DB):=rfl
noncomputable def Qv:Code:=match DB with
 |.seq _ t=>t
 |_=>.skip
noncomputable def XS:Code:=match DB with
 |.seq a _=>a
 |_=>.skip
theorem JH:DB=.seq XS Qv:=rfl
theorem Mx {lo b g K op p1 p2:Nat}{nm:ByteArray}{N:(Nat→Prop)→World→Prop}{V W0 W1 w:World}{x:Mp}{s:aD}{e0 e1 e2 e3 e4 e5 e6:Value} (h:mx lo b g K (op+1) nm N V W1 x s w) (hN:aK N) (ri:∀P w,N P w→aP p1 #[.pointer (some ⟨b,0,none⟩)] 107 P w) (gJ:∀P w,N P w→aP p2 #[e0,e1,e2,e3,e4,e5,e6] 64 P w)
  (gw:cZ s.here 4 ⟨#[125]⟩=true) (vH:W0.grownBy W1 (some b)) (dI:lo≤W0.heap.size∧W0.heap.size≤p2∧p2<g) (jS:op≤31) {tm:Array Value} (bU:tm.size=40) (jD:IH tm [(1,.pointer (some ⟨p1,0,none⟩)),(2,.pointer (some ⟨p2,0,none⟩)),(3,.pointer (some ⟨g,0,none⟩))]) {R:Ending→World→Prop}
  (hR:∀e w,CR lo b NM W0 (xq x s) e w→R e w):Qv.wp Tryz.prog (bodyPost Tryz.prog Tryz.f101 R) ⟨tm,[]⟩ w:=by
 have HR:=aj hR
 have HI:=aj h
 obtain ⟨jC,⟨vf,vo,vm,ve,vr,vg,cm,ce,aZ⟩,hk⟩:=h
 obtain ⟨fa,fc,q1⟩:=bN (aZ.bx.own 0 _ rfl)
 obtain ⟨oa,oc,q2⟩:=bN (aZ.bx.own 1 _ rfl)
 obtain ⟨ma,mc,q3⟩:=bN (aZ.bx.own 2 _ rfl)
 obtain ⟨ea,ec,q4⟩:=bN (aZ.bx.own 3 _ rfl)
 obtain ⟨ra,rc,q5⟩:=bN (aZ.bx.own 4 _ rfl)
 obtain ⟨ga,gc,q6⟩:=bN (aZ.bx.own 5 _ rfl)
 simp only at q1 q2 q3 q4 q5 q6
 subst q1 q2 q3 q4 q5 q6
 have c1:w.cell? ⟨p1,0,none⟩=some (.pointer (some ⟨b,0,none⟩)):=by rw[cell_of_row _ _ _ _ _ _ (ri _ _ aZ.nx.1).1];rfl
 have HA:=aj aZ
 have HN:=aj (sY.st (g:=g) hN x cm ce)
 have Wg:=aj ri
 have oB:=aj gJ
 have S':=aj vH
 have O0:=aj dI
 have Hnm:=aj jC
 have Sa:=aj hk.2.2.2
 have HC:=aj (dr aZ.rd (bS aZ.rd.grown (by rw[rH gw];decide)))
 obtain ⟨u,rfl⟩:=Rj bU
 obtain ⟨f1,f2,f3,_⟩:=jD
 replace f1:u 1=.pointer (some ⟨p1,0,none⟩):=zC f1
 replace f2:u 2=.pointer (some ⟨p2,0,none⟩):=zC f2
 replace f3:u 3=.pointer (some ⟨g,0,none⟩):=zC f3
 rw[f1,f2,f3]
 clear f1 f2 f3 bU hR aZ hN ri gJ gw vH dI hk jC
 obtain ⟨Q,hQ⟩:∃Q,bodyPost Tryz.prog Tryz.f101 R=Q:=⟨_,rfl⟩
 rw[hQ]
 unfold Qv DB
 dsimp only[Tryz.f101]
 go_wp2_with fail
 refine (aa HC).mono ?_
 intro e w2 hw
 rcases hw.split with ⟨y,hr,rfl,hg⟩|⟨_,s4,hr,rfl,h4,hg⟩
 ·show Q (Exit.panic _) _ _
  rw[←hQ]
  refine ⟨rfl,aa HR _ _ ?_⟩
  unfold xq
  rw[hr]
  exact ⟨rfl,js (aa S') ((aa HI).er hg) (by have:=aa O0;omega)⟩
 ·have dI:=aa O0
  have xU:=(aa HA).read (aa HN) h4 hg
  obtain ⟨_,_,_,_,_,_,o6,of⟩:=h4.cells
  have f6:=of 6
  have UA:s4.op=op+1:=(mJ hr).1.trans (aa Sa)
  rw[UA] at o6
  obtain ⟨m,hm⟩:∃m,op+1=m:=⟨_,rfl⟩
  rw[hm] at o6
  have m1:(1:Int)≤(m:Int):=by omega
  have m2:(m:Int)≤32:=by omega
  have SO:((op:Nat):Int)=(m:Int)-1:=by omega
  obtain ⟨h5,g5⟩:=SC h4 (n:=op) (by omega)
  rw[SO] at h5 g5
  have xT:=xU.read (aa HN) h5 g5
  have c14:w2.cell? ⟨p1,0,none⟩=some (.pointer (some ⟨b,0,none⟩)):=by rw[cell_of_row _ _ _ _ _ _ (aa Wg _ _ xU.nx.1).1];rfl
  obtain ⟨⟨d0,d1,d2,d3,d4,d5,d6⟩,_⟩:=Ov xT.bx.dJ
  have yK:=(aa oB _ _ xT.nx.1).1
  obtain ⟨⟨y0,y1,y2,y3,y4,y5,y6⟩,yf⟩:=Ov yK
  have f20:=yf 0
  have f21:=yf 1
  have f22:=yf 2
  have f23:=yf 3
  have f24:=yf 4
  have f25:=yf 5
  have f26:=yf 6
  obtain ⟨r1,r2⟩:=Fm yK (.string nm) (.slice fa x.fs.length fc) (.slice oa x.os.length oc) (.slice ma x.ms.length mc) (.slice ea x.es.length ec) (.slice ra x.rs.length rc) (.slice ga x.gs.length gc)
  have cP:∀(i:Nat) (sl:Slot),(Gx x (.slice fa x.fs.length fc) (.slice oa x.os.length oc) (.slice ma x.ms.length mc) (.slice ea x.es.length ec) (.slice ra x.rs.length rc) (.slice ga x.gs.length gc) cm ce)[i]?=some sl→fm (fun k=>W0.heap.size≤k) (Jt (w2.setCell ⟨b,6,none⟩ (.int .i64 ((m:Int)-1))) p2 (.string nm) (.slice fa x.fs.length fc) (.slice oa x.os.length oc) (.slice ma x.ms.length mc) (.slice ea x.es.length ec) (.slice ra x.rs.length rc) (.slice ga x.gs.length gc)) sl.t sl.sz sl.v sl.n sl.xs:=fun i sl hi=>by
   have h1:=xT.bx.own i sl hi
   refine ⟨jZ (World.ownsRow.kept h1 r2 ?_) (Nat.zero_le _),fun k hk=>?_⟩
   ·right
    intro e
    have:=(h1.lt p2 e).1
    omega
   ·have:=(h1.lt k hk).1
    omega
  have xO:jx (fun k=>Fz (Gx x (.slice fa x.fs.length fc) (.slice oa x.os.length oc) (.slice ma x.ms.length mc) (.slice ea x.es.length ec) (.slice ra x.rs.length rc) (.slice ga x.gs.length gc) cm ce) g b k∧g≤k) (fun k=>W0.heap.size≤k) (w2.setCell ⟨b,6,none⟩ (.int .i64 ((m:Int)-1))) (Jt (w2.setCell ⟨b,6,none⟩ (.int .i64 ((m:Int)-1))) p2 (.string nm) (.slice fa x.fs.length fc) (.slice oa x.os.length oc) (.slice ma x.ms.length mc) (.slice ea x.es.length ec) (.slice ra x.rs.length rc) (.slice ga x.gs.length gc)):=fun k hk hl=>⟨by omega,r2.block k hl (by simp;omega)⟩
  have HE:Hid (R (.returned (.agg #[.string nm,.slice fa x.fs.length fc,.slice oa x.os.length oc,.slice ma x.ms.length mc,.slice ea x.es.length ec,.slice ra x.rs.length rc,.slice ga x.gs.length gc])) (Jt (w2.setCell ⟨b,6,none⟩ (.int .i64 ((m:Int)-1))) p2 (.string nm) (.slice fa x.fs.length fc) (.slice oa x.os.length oc) (.slice ma x.ms.length mc) (.slice ea x.es.length ec) (.slice ra x.rs.length rc) (.slice ga x.gs.length gc))):=by
   refine aa HR _ _ ?_
   unfold xq
   rw[hr]
   have hs4:s4.Ef={ s4 with op:=op }:=by unfold aD.Ef;rw[UA];rfl
   show CR lo b NM W0 (.ok (x.done,s4.Ef)) _ _
   rw[hs4]
   refine ⟨_,rfl,⟨_,rfl,?_⟩,gP h5 r2 (by omega),dp (js (aa S') xT.sv (by omega)) r2 (by omega)⟩
   have kK:=aa Hnm
   unfold Mp.done
   rw[kK]
   exact .cons (cP 0 _ rfl) (cP 1 _ rfl) (cP 2 _ rfl) (df _ _ _ _ _ _ xO xT.nx.2.1) (cP 3 _ rfl) (cT _ _ _ _ _ _ xO xT.nx.2.2) (cP 4 _ rfl) (cP 5 _ rfl) .nil
  have R1:=aj r1
  have c15:(w2.setCell ⟨b,6,none⟩ (.int .i64 ((m:Int)-1))).cell? ⟨p1,0,none⟩=some (.pointer (some ⟨b,0,none⟩)):=by rw[cell_of_row _ _ _ _ _ _ (aa Wg _ _ xT.nx.1).1];rfl
  unfold Jt at HE R1
  clear hw hr h4 hg xU xT yf r1 r2 cP xO HC c1 h5 g5 yK of UA hm SO dI jS
  go_wp2
  rw[←hQ]
  exact bodyPost_ret (results_cell_row rfl _ _ p2 64 #[.string nm,.slice fa x.fs.length fc,.slice oa x.os.length oc,.slice ma x.ms.length mc,.slice ea x.es.length ec,.slice ra x.rs.length rc,.slice ga x.gs.length gc] (0,0) _ rfl (aa R1) Tryz.underlying64 rfl TG) rfl (aa HE)
def IM (n:Nat):Prop:=∀lo b V W s,Env V W b→Rd lo W b s→Sm s→s.ts.length≤n→s.ts.length≤16384→0<s.ts.length→Calls Tryz.prog 101 #[.pointer (some ⟨b,0,none⟩)] W (CR lo b NM W (bw n s))
theorem My {lo b g K op p1 p2 n:Nat}{nm:ByteArray}{V W0 W1 w:World}{s:aD}{e0 e1 e2 e3 e4 e5 e6:Value} (hM:IM n) (hK:K≤n∧K≤16384) (h:mx lo b g K (op+1) nm (fun P w=>aP p1 #[.pointer (some ⟨b,0,none⟩)] 107 P w∧aP p2 #[e0,e1,e2,e3,e4,e5,e6] 64 P w) V W1 ⟨nm,[],[],[],[],[],[]⟩ s.K9 w)
  (vH:W0.grownBy W1 (some b)) (dI:lo≤W0.heap.size∧W0.heap.size≤p2∧p2<g) (jS:op≤31) {tm:Array Value} (bU:tm.size=40) (jD:IH tm [(1,.pointer (some ⟨p1,0,none⟩)),(2,.pointer (some ⟨p2,0,none⟩)),(3,.pointer (some ⟨g,0,none⟩))]) {R:Ending→World→Prop}
  (hR:∀e w,CR lo b NM W0 (lF (bw n) nm s) e w→R e w):DB.wp Tryz.prog (bodyPost Tryz.prog Tryz.f101 R) ⟨tm,[]⟩ w:=by
 obtain ⟨f1,f2,f3,_⟩:=jD
 have k1:=kS f1
 have k2:=kS f2
 have k3:=kS f3
 simp only at k1 k2 k3
 rw[JH]
 refine wp_seq ?_
 obtain ⟨T8,hT8⟩:∃T,Qv=T:=⟨_,rfl⟩
 rw[hT8]
 obtain ⟨Qb,pG⟩:∃Q,bodyPost Tryz.prog Tryz.f101 R=Q:=⟨_,rfl⟩
 rw[pG]
 unfold XS DB
 dsimp only[Tryz.f101]
 have Nz:aK (fun P w=>aP p1 #[.pointer (some ⟨b,0,none⟩)] 107 P w∧aP p2 #[e0,e1,e2,e3,e4,e5,e6] 64 P w):=(bp _ _ _).and (bp _ _ _)
 refine iB (z:=4) (N:=40) 2 (by kernel_rfl) (fun k=>k+25) (fun k=>[.pointer (some ⟨b,0,none⟩),.pointer (some ⟨b,0,none⟩),undef,.func (.func 125) #[] #[.pointer (some ⟨g,0,none⟩),.pointer (some ⟨p1,0,none⟩)]].getD k undef)
  (fun w=>mx lo b g K (op+1) nm (fun P w=>aP p1 #[.pointer (some ⟨b,0,none⟩)] 107 P w∧aP p2 #[e0,e1,e2,e3,e4,e5,e6] 64 P w) V W1 ⟨nm,[],[],[],[],[],[]⟩ s.K9 w)
  (fun x w=>∃pv,x=.map (some (pv+2))∧mx lo b g K (op+1) nm (fun P w=>(aP p1 #[.pointer (some ⟨b,0,none⟩)] 107 P w∧aP p2 #[e0,e1,e2,e3,e4,e5,e6] 64 P w)∧(aP pv #[.pointer (some ⟨b,0,none⟩)] 107 P w∧aP (pv+1) #[.pointer (some ⟨g,0,none⟩)] 167 P w∧ij (pv+2) (jk pv b) P w)) V W1 ⟨nm,[],[],[],[],[],[]⟩ s.K9 w)
  _ w rfl bU (fun i j _ _ e=>by omega) (fun i hi=>by omega) (by kernel_rfl) (by kernel_rfl) ?_ ?_ ?_ ?_
 ·have hb:=(zE w.heap.size w).drew
  exact h.step Nz (h.rd.up hb) (aA b hb) (.refl _)
 ·intro k pt w' hk UF iD b9 aW hw
  have dY:w'.cell? ⟨p1,0,none⟩=some (.pointer (some ⟨b,0,none⟩)):=by
   rcases hw with ⟨_,⟨vf,vo,vm,ve,vr,vg,cm,ce,aZ⟩,_⟩|⟨_,pv,_,_,⟨vf,vo,vm,ve,vr,vg,cm,ce,aZ⟩,_⟩
   ·rw[cell_of_row _ _ _ _ _ _ aZ.nx.1.1.1];rfl
   ·rw[cell_of_row _ _ _ _ _ _ aZ.nx.1.1.1.1];rfl
  match k,hk with
  |0,_=>exact aT rfl rfl _ (.tmp 1) rfl ((b9 1 (by intro i hi;omega)).trans k1) (cV _ dY) ⟨rfl,rfl⟩
  |1,_=>exact aT rfl rfl _ (.tmp 1) rfl ((b9 1 (by intro i hi;omega)).trans k1) (cV _ dY) ⟨rfl,rfl⟩
  |2,_=>omega
  |3,_=>exact nI rfl rfl _ _ _ rfl #[] #[.pointer (some ⟨g,0,none⟩),.pointer (some ⟨p1,0,none⟩)] (by simp) (by simp only[List.map_toArray,List.map_cons,List.map_nil,Act.eval];rw[show pt.getD 3 undef=_ from (b9 3 (by intro i hi;omega)).trans k3,show pt.getD 1 undef=_ from (b9 1 (by intro i hi;omega)).trans k1]) ⟨rfl,rfl⟩
 ·intro _ pt w' iD b9 aW hw
  refine cn rfl rfl 124 (Eo w') _ _ rfl #[.pointer (some ⟨b,0,none⟩),.pointer (some ⟨g,0,none⟩)] ?_ (DE w' b g) ?_
  ·simp only[List.map_toArray,List.map_cons,List.map_nil,Act.eval]
   rw[show pt.getD 26 undef=_ from aW 1 (by omega) (by kernel_rfl),show pt.getD 3 undef=_ from (b9 3 (by intro i hi;omega)).trans k3]
   rfl
  ·rintro e w2 ⟨rfl,hb,cB⟩
   exact .inl ⟨_,rfl,_,rfl,w'.heap.size,rfl,hw.join Nz ((bp _ _ _).and ((bp _ _ _).and (fT _ _))) hb cB⟩
 ·intro pt w' iD b9 dt hw
  rcases hw with ⟨_,pv,hx,hi⟩|⟨hc,_⟩
  rotate_left
  ·omega
  have J5:aK (fun P w=>(aP p1 #[.pointer (some ⟨b,0,none⟩)] 107 P w∧aP p2 #[e0,e1,e2,e3,e4,e5,e6] 64 P w)∧(aP pv #[.pointer (some ⟨b,0,none⟩)] 107 P w∧aP (pv+1) #[.pointer (some ⟨g,0,none⟩)] 167 P w∧ij (pv+2) (jk pv b) P w)):=Nz.and ((bp _ _ _).and ((bp _ _ _).and (fT _ _)))
  have tq:=TU (lo:=lo) (g:=g) (K:=K) (op:=op+1) (p1:=p1) (pv:=pv) (nm:=nm) (V:=V) (W:=W1) (mf:=bw n) J5 hK.2 (fun P w h=>h.1.1) (fun P w h=>h.2.1) (fun P w h=>h.2.2.1) (fun P w h=>h.2.2.2) (rK n) (fun lo b V W s q1 q2 q3 q4 q5=>hM lo b V W s q1 q2 q3 (by omega) (by omega) q5)
  have aaT:∀x s x' s',bT (Bw (bw n)) Qw x s=.ok (x',s')→lL s s':=fun x s x' s' h=>(mR (Fx _ (rK n)) (fun x s x' s' h=>mo h) h).1.jA
  have Ij:=yv tq (fun x s w x' s' hI FL=>vt (Fx _ (rK n)) (fun x s x' s' h=>mo h) (tq.rd x s w hI).grown FL) hi
  refine cn rfl rfl 123 (yp w') _ _ rfl #[.pointer (some ⟨b,0,none⟩),.map (some (pv+2)),.func (.func 125) #[] #[.pointer (some ⟨g,0,none⟩),.pointer (some ⟨p1,0,none⟩)]] ?_ Ij ?_
  ·simp only[List.map_toArray,List.map_cons,List.map_nil,Act.eval]
   rw[show pt.getD 25 undef=_ from dt 0 (by omega) (by omega),show pt.getD 27 undef=_ from hx,show pt.getD 28 undef=_ from dt 3 (by omega) (by omega)]
   rfl
  ·intro e w2 QT
   have Au:∀z,ie (bT (Bw (bw n)) Qw) ⟨nm,[],[],[],[],[],[]⟩ s.K9=z→lF (bw n) nm s=(match z with|.error e=>.error e|.ok (x,s3)=>xq x s3):=fun z hz=>by unfold lF;rw[hz];cases z<;>rfl
   rcases QT.split with ⟨y,hr,rfl,he⟩|⟨x,s3,hr,rfl,Nh⟩
   ·refine .inr ⟨_,rfl,?_⟩
    show Qb (Exit.panic _) _ _
    rw[←pG]
    refine ⟨rfl,hR _ _ ?_⟩
    rw[Au _ hr]
    exact ⟨rfl,js vH he (by omega)⟩
   ·refine .inl ⟨_,rfl,?_⟩
    show T8.wp Tryz.prog Qb ⟨pt.setIfInBounds 29 (.tuple #[]),[]⟩ w2
    rw[←hT8,←pG]
    have gw:=(lR aaT hr).2
    refine Mx (p1:=p1) (p2:=p2) Nh J5 (fun P w h=>h.1.1) (fun P w h=>h.1.2) gw vH dI jS (by rw[Array.size_setIfInBounds];exact iD) ⟨?_,?_,?_,trivial⟩ ?_
    ·exact nT (by rw[Array.size_setIfInBounds,iD];omega) (by rw[aB (by omega)];exact (b9 1 (by intro i hi;omega)).trans k1)
    ·exact nT (by rw[Array.size_setIfInBounds,iD];omega) (by rw[aB (by omega)];exact (b9 2 (by intro i hi;omega)).trans k2)
    ·exact nT (by rw[Array.size_setIfInBounds,iD];omega) (by rw[aB (by omega)];exact (b9 3 (by intro i hi;omega)).trans k3)
    ·intro e w3 j7
     refine hR e w3 ?_
     rw[Au _ hr]
     exact j7
theorem Bz {n:Nat} (hM:IM n):IM (n+1):=by
 intro lo b V W s hv h hs eT hn hp
 have eQ:=h.low
 have bJ:Below W.heap.size W ((W.alloc (.cells #[.pointer (some ⟨b,0,none⟩)] 107)).alloc (.cells #[.string ⟨#[]⟩,.slice none 0 0,.slice none 0 0,.slice none 0 0,.slice none 0 0,.slice none 0 0,.slice none 0 0] 64)):=((zE _ _).alloc (zD _) _).alloc (by rw[zJ];omega) _
 have oq:((W.alloc (.cells #[.pointer (some ⟨b,0,none⟩)] 107)).alloc (.cells #[.string ⟨#[]⟩,.slice none 0 0,.slice none 0 0,.slice none 0 0,.slice none 0 0,.slice none 0 0,.slice none 0 0] 64)).heap[W.heap.size]?=some (.cells #[.pointer (some ⟨b,0,none⟩)] 107 (0,0)):=(Below.heap_alloc _ _ _ (by rw[zJ];omega)).trans (aC _ _)
 have fO:((W.alloc (.cells #[.pointer (some ⟨b,0,none⟩)] 107)).alloc (.cells #[.string ⟨#[]⟩,.slice none 0 0,.slice none 0 0,.slice none 0 0,.slice none 0 0,.slice none 0 0,.slice none 0 0] 64)).heap[W.heap.size+1]?=some (.cells #[.string ⟨#[]⟩,.slice none 0 0,.slice none 0 0,.slice none 0 0,.slice none 0 0,.slice none 0 0,.slice none 0 0] 64 (0,0)):=by
  have:=aC (W.alloc (.cells #[.pointer (some ⟨b,0,none⟩)] 107)) (.cells #[.string ⟨#[]⟩,.slice none 0 0,.slice none 0 0,.slice none 0 0,.slice none 0 0,.slice none 0 0,.slice none 0 0] 64)
  rw[zJ] at this
  exact this
 have l2:W.heap.size+1<((W.alloc (.cells #[.pointer (some ⟨b,0,none⟩)] 107)).alloc (.cells #[.string ⟨#[]⟩,.slice none 0 0,.slice none 0 0,.slice none 0 0,.slice none 0 0,.slice none 0 0,.slice none 0 0] 64)).heap.size:=by simp only[zJ];omega
 have Cz:=h.up bJ
 have bo:∀w,((W.alloc (.cells #[.pointer (some ⟨b,0,none⟩)] 107)).alloc (.cells #[.string ⟨#[]⟩,.slice none 0 0,.slice none 0 0,.slice none 0 0,.slice none 0 0,.slice none 0 0,.slice none 0 0] 64)).grownBy w (some b)→w.heap[W.heap.size]?=some (.cells #[.pointer (some ⟨b,0,none⟩)] 107 (0,0))∧w.heap[W.heap.size+1]?=some (.cells #[.string ⟨#[]⟩,.slice none 0 0,.slice none 0 0,.slice none 0 0,.slice none 0 0,.slice none 0 0,.slice none 0 0] 64 (0,0))∧w.cell? ⟨W.heap.size,0,none⟩=some (.pointer (some ⟨b,0,none⟩)):=fun w hg=>by
  have e1:=(hg.block W.heap.size (by omega) (by simp;omega)).trans oq
  exact ⟨e1,(hg.block (W.heap.size+1) l2 (by simp;omega)).trans fO,by rw[cell_of_row _ _ _ _ _ _ e1];rfl⟩
 have Sl:=aj bo
 have zs:=aj (aA b bJ)
 have HV:=aj hv
 have HS:=aj hs
 have Hn:=aj hn
 have Hn1:=aj eT
 have Hp:=aj hp
 have HM:=aj hM
 have HC:=aj (fD Cz)
 have Gy:=aj eQ
 have Yx:s.op≤32:=by obtain ⟨_,_,_,_,_,h9,_⟩:=h;exact h9
 have c0:=(bo _ (zI _ _)).2.2
 clear oq fO l2 Cz bo bJ h hv hs hn eT eQ hM
 refine calls_of_wp Tryz.func101 Mu ?_
 obtain ⟨tl,oX⟩:∃t,DB=t:=⟨_,rfl⟩
 rw[oX]
 obtain ⟨Q,hQ⟩:∃Q,bodyPost Tryz.prog Tryz.f101 (CR lo b NM W (bw (n+1) s))=Q:=⟨_,rfl⟩
 rw[hQ]
 unfold Mv
 dsimp only[Tryz.f101]
 simp only[List.size_toArray,List.length_cons,List.length_nil,Nat.reduceAdd,Nat.reduceSub,Array.replicate_succ,Array.replicate_zero,List.push_toArray,List.append_toArray,List.nil_append,List.cons_append]
 go_wp2_with fail
 refine (aa HC).mono ?_
 rintro e w1 ⟨rfl,h1,kV⟩
 have c1:=(aa Sl _ kV).2.2
 have HN:=aj (dr h1 hp)
 have HFl:=aj (mq h1 53)
 have qT:=aj kV
 obtain ⟨_,_,_,_,_,_,o6,_⟩:=h1.cells
 have o6':w1.cell? ⟨b,6,none⟩=some (.int .i64 (s.op:Int)):=o6
 obtain ⟨op,jS⟩:∃op,s.op=op:=⟨_,rfl⟩
 have Sa:=aj jS
 rw[jS] at o6' Yx
 clear h1 kV HC c0 o6 jS
 by_cases Zq:op=32
 ·subst Zq
  go_wp2_with fail
  refine (aa HFl).mono ?_
  rintro e w2 ⟨rfl,bJ⟩
  show Q (Exit.panic _) _ _
  rw[←hQ]
  refine ⟨rfl,?_⟩
  unfold bw
  rw[if_pos (aa Sa)]
  exact ⟨rfl,((aa zs).trans (aa qT)).trans (aA b bJ)⟩
 ·have q32:((op:Int)==32)=false:=beq_eq_false_iff_ne.2 (by omega)
  have h31:op≤31:=by omega
  have V9:Hid (bw (n+1) s=match bE s.begun with|.error e=>.error e|.ok (_,s1)=>match cy s1 with|.error e=>.error e|.ok (nm,s2)=>lF (bw n) nm s2):=by
   show _=_
   conv=>lhs;unfold bw
   rw[if_neg (by rw[aa Sa];exact Zq)]
   cases bE s.begun with
   |error e=>rfl
   |ok y =>
    simp only
    all_goals (cases cy y.2<;>rfl)
  clear Zq Yx
  go_wp2_with fail
  refine (aa HN).mono ?_
  intro e w2 hw
  rcases hw.split with ⟨y,hr,rfl,hg⟩|⟨_,s1,hr,rfl,h2,hg⟩
  ·show Q (Exit.panic _) _ _
   rw[←hQ]
   refine ⟨rfl,?_⟩
   rw[aa V9,hr]
   exact ⟨rfl,((aa zs).trans (aa qT)).trans hg⟩
  ·have qS:=aj ((aa qT).trans hg)
   have ZW:=aj (dx (s:=s.begun) hr)
   have qV:Hid (bw (n+1) s=match cy s1 with|.error e=>.error e|.ok (nm,s2)=>lF (bw n) nm s2):=by show _=_;rw[aa V9,hr]
   have O5:=aj (kG h2 ((rC hr).sm (aa HS)))
   have c2:=(aa Sl _ ((aa qT).trans hg)).2.2
   clear hw hr h2 hg HN V9 c1 o6' HFl
   go_wp2_with fail
   refine (aa O5).mono ?_
   intro e w3 hw
   rcases hw.split with ⟨y,hr,rfl,hg⟩|⟨nm,s2,hr,rfl,h3,hg⟩
   ·show Q (Exit.panic _) _ _
    rw[←hQ]
    refine ⟨rfl,?_⟩
    rw[aa qV,hr]
    exact ⟨rfl,((aa zs).trans (aa qS)).trans hg⟩
   ·have fB:=(aa qS).trans hg
    obtain ⟨k1,k2,_⟩:=aa Sl _ fB
    have eQ:=aa Gy
    have DL:W.heap.size+2≤w3.heap.size:=by
     have:=(zA k2).1
     omega
    have QV:Gt s s2:=(show Gt s s1 from aa ZW).dW (lu hr).jA
    have QN:s2.op=op:=QV.jA.op.trans (aa Sa)
    have eV:=(zE w3.heap.size w3).alloc (zD _) (.cells #[.string nm,.slice none 0 0,.slice none 0 0,.slice none 0 0,.slice none 0 0,.slice none 0 0,.slice none 0 0] 64)
    have h4:=h3.up eV
    obtain ⟨h5,g5⟩:=SC h4 (n:=op+1) (by omega)
    have hs5:{ s2 with op:=op+1 }=s2.K9:=by unfold aD.K9;rw[QN]
    rw[hs5] at h5
    have aZ:Ap lo b w3.heap.size 64 nm (Gx ⟨nm,[],[],[],[],[],[]⟩ (.slice none 0 0) (.slice none 0 0) (.slice none 0 0) (.slice none 0 0) (.slice none 0 0) (.slice none 0 0) [] []) (sY w3.heap.size (fun P w=>aP W.heap.size #[.pointer (some ⟨b,0,none⟩)] 107 P w∧aP (W.heap.size+1) #[.string ⟨#[]⟩,.slice none 0 0,.slice none 0 0,.slice none 0 0,.slice none 0 0,.slice none 0 0,.slice none 0 0] 64 P w) ⟨nm,[],[],[],[],[],[]⟩ [] []) V w3 s2 (w3.alloc (.cells #[.string nm,.slice none 0 0,.slice none 0 0,.slice none 0 0,.slice none 0 0,.slice none 0 0,.slice none 0 0] 64)):=by
     have rb:∀(i:Nat) (sl:Slot),(Gx ⟨nm,[],[],[],[],[],[]⟩ (.slice none 0 0) (.slice none 0 0) (.slice none 0 0) (.slice none 0 0) (.slice none 0 0) (.slice none 0 0) [] [])[i]?=some sl→sl.v=.slice none 0 0∧sl.n=0∧sl.xs=[]:=fun i sl hi=>by
      match i,hi with
      |0,hi=>obtain rfl:=zC hi;exact ⟨rfl,rfl,rfl⟩
      |1,hi=>obtain rfl:=zC hi;exact ⟨rfl,rfl,rfl⟩
      |2,hi=>obtain rfl:=zC hi;exact ⟨rfl,rfl,rfl⟩
      |3,hi=>obtain rfl:=zC hi;exact ⟨rfl,rfl,rfl⟩
      |4,hi=>obtain rfl:=zC hi;exact ⟨rfl,rfl,rfl⟩
      |5,hi=>obtain rfl:=zC hi;exact ⟨rfl,rfl,rfl⟩
      |k+6,hi=>cases hi
     have Nk:∀k,k≠b→k≠w3.heap.size→Fz (Gx ⟨nm,[],[],[],[],[],[]⟩ (.slice none 0 0) (.slice none 0 0) (.slice none 0 0) (.slice none 0 0) (.slice none 0 0) (.slice none 0 0) [] []) w3.heap.size b k:=fun k q1 q2=>⟨q1,q2,fun i sl hi e=>by
      rw[(rb i sl hi).1] at e
      cases e⟩
     refine ⟨⟨aC _ _,fun i sl hi=>?_,fun i j a c eo ha hc k hk=>?_⟩,⟨⟨⟨(eV.block _ (by omega)).trans k1,Nk _ (by omega) (by omega)⟩,⟨(eV.block _ (by omega)).trans k2,Nk _ (by omega) (by omega)⟩⟩,.nil,.nil⟩,h4,by have:=h3.low;omega,⟨eV.os,eV.tape,eV.output,eV.size,fun k hk _=>eV.block k hk⟩,?_⟩
     ·obtain ⟨q1,q2,q3⟩:=rb i sl hi
      exact ⟨by rw[q2,q3];simp,.inl ⟨q1,q2⟩⟩
     ·rw[(rb i a ha).1] at hk
      cases hk
     ·exact ((aa HV).step ((aa zs).trans fB)).step (aA b eV)
    have xT:=aZ.read (sY.st ((bp _ _ _).and (bp _ _ _)) _ _ _) h5 g5
    have cw:=QV.lt (aa Hp)
    have HI:Hid (mx lo b w3.heap.size s2.ts.length (op+1) nm (fun P w=>aP W.heap.size #[.pointer (some ⟨b,0,none⟩)] 107 P w∧aP (W.heap.size+1) #[.string ⟨#[]⟩,.slice none 0 0,.slice none 0 0,.slice none 0 0,.slice none 0 0,.slice none 0 0,.slice none 0 0] 64 P w) V w3 ⟨nm,[],[],[],[],[],[]⟩ s2.K9 ((w3.alloc (.cells #[.string nm,.slice none 0 0,.slice none 0 0,.slice none 0 0,.slice none 0 0,.slice none 0 0,.slice none 0 0] 64)).setCell ⟨b,6,none⟩ (.int .i64 ((op+1:Nat):Int)))):=by
     have h7:=aa Hn
     have h8:s2.K9.ts.length=s2.ts.length:=rfl
     exact ⟨rfl,⟨_,_,_,_,_,_,_,_,xT⟩,⟨⟨by simp only[List.length_nil];omega,by simp only[List.length_nil];omega,by simp only[List.length_nil];omega,by simp only[List.length_nil];omega,by simp only[List.length_nil];omega,by simp only[List.length_nil];omega⟩,QV.jA.sm (aa HS),by omega,by show s2.op+1=op+1;rw[QN]⟩⟩
    obtain ⟨_,_,_,_,_,_,o6,of⟩:=h4.cells
    rw[QN] at o6
    have f6:=of 6
    have c4:(w3.alloc (.cells #[.string nm,.slice none 0 0,.slice none 0 0,.slice none 0 0,.slice none 0 0,.slice none 0 0,.slice none 0 0] 64)).cell? ⟨W.heap.size,0,none⟩=some (.pointer (some ⟨b,0,none⟩)):=by rw[cell_of_row _ _ _ _ _ _ ((eV.block _ (by omega)).trans k1)];rfl
    have yE:Hid (bw (n+1) s=lF (bw n) nm s2):=by show _=_;rw[aa qV,hr]
    have GG:=aj ((aa zs).trans fB)
    have Hz:=aj DL
    have HKl:Hid (s2.ts.length≤n∧s2.ts.length≤16384):=by have:=aa Hn;have:=aa Hn1;exact ⟨by omega,by omega⟩
    have e1:((op+1:Nat):Int)=(op:Int)+1:=by omega
    rw[e1] at HI
    have p31:(op:Int)≤31:=by omega
    clear hw hr h3 hg fB k1 k2 DL eV aZ xT O5 qV eQ c2 h4 h5 g5 hs5 of QV QN cw e1 ZW
    go_wp2
    rw[←oX,←hQ]
    refine My (p1:=W.heap.size) (p2:=W.heap.size+1) (aa HM) (aa HKl) (aa HI) (aa GG) ⟨(aa Gy).2,by omega,by have:=aa Hz;omega⟩ h31 rfl ⟨rfl,rfl,rfl,trivial⟩ ?_
    intro e w5 j7
    rw[aa yE]
    exact j7
theorem xr:∀n,IM n
 |0=>fun _ _ _ _ s _ _ _ h1 _ h2=>absurd h2 (by omega)
 |n+1=>Bz (xr n)
end Go.Proofs.YtmlphohdcejniaaGreatDoor

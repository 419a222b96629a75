import Derived.Test.YtjophoclfccmcaaGreatDoorM27
set_option maxHeartbeats 4000000
set_option maxRecDepth 100000
namespace Go.Proofs.YtjophoclfccmcaaGreatDoor
open Go.RowKit
attribute [local go_sem ↓] Go.wp_at_zero Go.wp_at_succ
theorem Sa {tm:Array Value} (h:tm.size=40):∃u:Nat→Value,tm=#[u 0,u 1,u 2,u 3,u 4,u 5,u 6,u 7,u 8,u 9,u 10,u 11,u 12,u 13,u 14,u 15,u 16,u 17,u 18,u 19,u 20,u 21,u 22,u 23,u 24,u 25,u 26,u 27,u 28,u 29,u 30,u 31,u 32,u 33,u 34,u 35,u 36,u 37,u 38,u 39]:=by
 refine ⟨fun i=>tm.getD i undef,?_⟩
 have e:tm=((List.range 40).map fun i=>tm.getD i undef).toArray:=by
  apply Array.ext
  ·simp[h]
  ·intro i h1 h2
   simp[Array.getD,h1]
 exact e.trans rfl
theorem j4:(Tryz.prog.info? 49).map (·.size)=some 7:=by kernel_rfl
theorem cL {w:World}{g:Nat}{a0 a1 a2 a3 a4 a5 a6:Value}{t:TypeId} (h:w.heap[g]?=some (.cells #[a0,a1,a2,a3,a4,a5,a6] t (0,0))):(w.cell? ⟨g,0,none⟩=some a0∧w.cell? ⟨g,1,none⟩=some a1∧w.cell? ⟨g,2,none⟩=some a2∧w.cell? ⟨g,3,none⟩=some a3∧w.cell? ⟨g,4,none⟩=some a4∧w.cell? ⟨g,5,none⟩=some a5∧w.cell? ⟨g,6,none⟩=some a6)∧∀j,w.frozen? ⟨g,j,none⟩=false:=by
 refine ⟨⟨?_,?_,?_,?_,?_,?_,?_⟩,fun j=>by simp[World.frozen?,h]⟩<;>rw[cell_of_row _ _ _ _ _ _ h]<;>rfl
def J1 (w:World) (g:Nat) (a0 a1 a2 a3 a4 a5 a6:Value):World:=((((((w.setCell ⟨g,0,none⟩ a0).setCell ⟨g,1,none⟩ a1).setCell ⟨g,2,none⟩ a2).setCell ⟨g,3,none⟩ a3).setCell ⟨g,4,none⟩ a4).setCell ⟨g,5,none⟩ a5).setCell ⟨g,6,none⟩ a6
theorem dM {w:World}{g:Nat}{b0 b1 b2 b3 b4 b5 b6:Value}{t:TypeId} (h:w.heap[g]?=some (.cells #[b0,b1,b2,b3,b4,b5,b6] t (0,0))) (a0 a1 a2 a3 a4 a5 a6:Value):(J1 w g a0 a1 a2 a3 a4 a5 a6).heap[g]?=some (.cells #[a0,a1,a2,a3,a4,a5,a6] t (0,0))∧w.grownBy (J1 w g a0 a1 a2 a3 a4 a5 a6) (some g):=by
 obtain ⟨h0,g0⟩:=aC (j:=0) h a0
 obtain ⟨h1,g1⟩:=aC (j:=1) h0 a1
 obtain ⟨h2,g2⟩:=aC (j:=2) h1 a2
 obtain ⟨h3,g3⟩:=aC (j:=3) h2 a3
 obtain ⟨h4,g4⟩:=aC (j:=4) h3 a4
 obtain ⟨h5,g5⟩:=aC (j:=5) h4 a5
 obtain ⟨h6,g6⟩:=aC (j:=6) h5 a6
 exact ⟨h6,(((((g0.trans g1).trans g2).trans g3).trans g4).trans g5).trans g6⟩
theorem Tb {lo b n:Nat}{W:World}{s:ax} (h:Rd lo W b s) (hn:n≤32):Rd lo (W.setCell ⟨b,6,none⟩ (.int .i64 (n:Int))) b { s with op:=n }∧W.grownBy (W.setCell ⟨b,6,none⟩ (.int .i64 (n:Int))) (some b):=by
 obtain ⟨v,h1,h2,h3,h4,h5,h6⟩:=h
 obtain ⟨k1,k2⟩:=aC (j:=6) h1 (.int .i64 (n:Int))
 exact ⟨⟨v,k1,h2.gA h3.2 k2,⟨h3.1,Nat.le_trans h3.2 k2.size⟩,h4,hn,h6⟩,k2⟩
noncomputable def DM:Code:=match Tryz.f103.body with
 |some (.seq _ (.seq _ (.seq _ (.seq _ (.seq _ (.seq _ t))))))=>t
 |_=>.skip
noncomputable def M' (t:Code):Code:=match Tryz.f103.body with
 |some (.seq a (.seq b (.seq c (.seq d (.seq e (.seq f _))))))=>.seq a (.seq b (.seq c (.seq d (.seq e (.seq f t)))))
 |_=>.skip
theorem M7:Tryz.f103.body=some (M' DM):=rfl
noncomputable def Q8:Code:=match DM with
 |.seq _ t=>t
 |_=>.skip
noncomputable def YA:Code:=match DM with
 |.seq a _=>a
 |_=>.skip
theorem Ke:DM=.seq YA Q8:=rfl
theorem Na {lo b g K op p1 p2:Nat}{nm:ByteArray}{N:(Nat→Prop)→World→Prop}{V W0 W1 w:World}{x:Mp}{s:ax}{e0 e1 e2 e3 e4 e5 e6:Value} (h:mL lo b g K (op+1) nm N V W1 x s w) (hN:aP N) (p':∀P w,N P w→aX p1 #[.pointer (some ⟨b,0,none⟩)] 74 P w) (fB:∀P w,N P w→aX p2 #[e0,e1,e2,e3,e4,e5,e6] 49 P w)
  (bF:aH s.here 4 ⟨#[125]⟩=true) (IK:W0.grownBy W1 (some b)) (jh:lo≤W0.heap.size∧W0.heap.size≤p2∧p2<g) (jX:op≤31) {tm:Array Value} (cl:tm.size=40) (j7:Jg tm [(1,.pointer (some ⟨p1,0,none⟩)),(2,.pointer (some ⟨p2,0,none⟩)),(3,.pointer (some ⟨g,0,none⟩))]) {R:Ending→World→Prop}
  (hR:∀e w,CR lo b NM W0 (tD x s) e w→R e w):Q8.wp Tryz.prog (bodyPost Tryz.prog Tryz.f103 R) ⟨tm,[]⟩ w:=by
 have HR:=ab hR
 have HI:=ab h
 obtain ⟨jo,⟨vf,vo,vm,ve,vr,vg,cm,ce,bd⟩,hk⟩:=h
 obtain ⟨fa,fc,q1⟩:=bZ (bd.bx.own 0 _ rfl)
 obtain ⟨oa,oc,q2⟩:=bZ (bd.bx.own 1 _ rfl)
 obtain ⟨ma,mc,q3⟩:=bZ (bd.bx.own 2 _ rfl)
 obtain ⟨ea,ec,q4⟩:=bZ (bd.bx.own 3 _ rfl)
 obtain ⟨ra,rc,q5⟩:=bZ (bd.bx.own 4 _ rfl)
 obtain ⟨ga,gc,q6⟩:=bZ (bd.bx.own 5 _ rfl)
 simp only at q1 q2 q3 q4 q5 q6
 subst q1 q2 q3 q4 q5 q6
 have c1:w.cell? ⟨p1,0,none⟩=some (.pointer (some ⟨b,0,none⟩)):=by rw[cell_of_row _ _ _ _ _ _ (p' _ _ bd.nx.1).1];rfl
 have HA:=ab bd
 have HN:=ab (tQ.st (g:=g) hN x cm ce)
 have WM:=ab p'
 have Ff:=ab fB
 have TV:=ab IK
 have PG:=ab jh
 have Hnm:=ab jo
 have Hop:=ab hk.2.2.2
 have HC:=ab (dX bd.rd (bP bd.rd.grown (by rw[sx bF];decide)))
 obtain ⟨u,rfl⟩:=Sa cl
 obtain ⟨f1,f2,f3,_⟩:=j7
 replace f1:u 1=.pointer (some ⟨p1,0,none⟩):=zC f1
 replace f2:u 2=.pointer (some ⟨p2,0,none⟩):=zC f2
 replace f3:u 3=.pointer (some ⟨g,0,none⟩):=zC f3
 rw[f1,f2,f3]
 clear f1 f2 f3 cl hR bd hN p' fB bF IK jh hk jo
 obtain ⟨Q,hQ⟩:∃Q,bodyPost Tryz.prog Tryz.f103 R=Q:=⟨_,rfl⟩
 rw[hQ]
 unfold Q8 DM
 dsimp only[Tryz.f103]
 go_wp2_with fail
 refine (aa HC).mono ?_
 intro e w2 hw
 rcases hw.split with ⟨y,hr,rfl,hg⟩|⟨_,s4,hr,rfl,h4,hg⟩
 ·show Q (Exit.panic _) _ _
  rw[←hQ]
  refine ⟨rfl,aa HR _ _ ?_⟩
  unfold tD
  rw[hr]
  exact ⟨rfl,jR (aa TV) ((aa HI).er hg) (by have:=aa PG;omega)⟩
 ·have jh:=aa PG
  have yV:=(aa HA).read (aa HN) h4 hg
  obtain ⟨_,_,_,_,_,_,o6,of⟩:=h4.cells
  have f6:=of 6
  have Vl:s4.op=op+1:=(mY hr).1.trans (aa Hop)
  rw[Vl] at o6
  obtain ⟨m,hm⟩:∃m,op+1=m:=⟨_,rfl⟩
  rw[hm] at o6
  have m1:(1:Int)≤(m:Int):=by omega
  have m2:(m:Int)≤32:=by omega
  have hm1:((op:Nat):Int)=(m:Int)-1:=by omega
  obtain ⟨h5,g5⟩:=Tb h4 (n:=op) (by omega)
  rw[hm1] at h5 g5
  have yU:=yV.read (aa HN) h5 g5
  have c14:w2.cell? ⟨p1,0,none⟩=some (.pointer (some ⟨b,0,none⟩)):=by rw[cell_of_row _ _ _ _ _ _ (aa WM _ _ yV.nx.1).1];rfl
  obtain ⟨⟨d0,d1,d2,d3,d4,d5,d6⟩,_⟩:=cL yU.bx.lz
  have xv:=(aa Ff _ _ yU.nx.1).1
  obtain ⟨⟨y0,y1,y2,y3,y4,y5,y6⟩,yf⟩:=cL xv
  have f20:=yf 0
  have f21:=yf 1
  have f22:=yf 2
  have f23:=yf 3
  have f24:=yf 4
  have f25:=yf 5
  have f26:=yf 6
  obtain ⟨r1,r2⟩:=dM xv (.string nm) (.slice fa x.fs.length fc) (.slice oa x.os.length oc) (.slice ma x.ms.length mc) (.slice ea x.es.length ec) (.slice ra x.rs.length rc) (.slice ga x.gs.length gc)
  have cW:∀(i:Nat) (sl:Slot),(sY x (.slice fa x.fs.length fc) (.slice oa x.os.length oc) (.slice ma x.ms.length mc) (.slice ea x.es.length ec) (.slice ra x.rs.length rc) (.slice ga x.gs.length gc) cm ce)[i]?=some sl→jd (fun k=>W0.heap.size≤k) (J1 (w2.setCell ⟨b,6,none⟩ (.int .i64 ((m:Int)-1))) p2 (.string nm) (.slice fa x.fs.length fc) (.slice oa x.os.length oc) (.slice ma x.ms.length mc) (.slice ea x.es.length ec) (.slice ra x.rs.length rc) (.slice ga x.gs.length gc)) sl.t sl.sz sl.v sl.n sl.xs:=fun i sl hi=>by
   have h1:=yU.bx.own i sl hi
   refine ⟨kq (World.ownsRow.kept h1 r2 ?_) (Nat.zero_le _),fun k hk=>?_⟩
   ·right
    intro e
    have:=(h1.lt p2 e).1
    omega
   ·have:=(h1.lt k hk).1
    omega
  have yO:wW (fun k=>Fz (sY x (.slice fa x.fs.length fc) (.slice oa x.os.length oc) (.slice ma x.ms.length mc) (.slice ea x.es.length ec) (.slice ra x.rs.length rc) (.slice ga x.gs.length gc) cm ce) g b k∧g≤k) (fun k=>W0.heap.size≤k) (w2.setCell ⟨b,6,none⟩ (.int .i64 ((m:Int)-1))) (J1 (w2.setCell ⟨b,6,none⟩ (.int .i64 ((m:Int)-1))) p2 (.string nm) (.slice fa x.fs.length fc) (.slice oa x.os.length oc) (.slice ma x.ms.length mc) (.slice ea x.es.length ec) (.slice ra x.rs.length rc) (.slice ga x.gs.length gc)):=fun k hk hl=>⟨by omega,r2.block k hl (by simp;omega)⟩
  have HE:Hid (R (.returned (.agg #[.string nm,.slice fa x.fs.length fc,.slice oa x.os.length oc,.slice ma x.ms.length mc,.slice ea x.es.length ec,.slice ra x.rs.length rc,.slice ga x.gs.length gc])) (J1 (w2.setCell ⟨b,6,none⟩ (.int .i64 ((m:Int)-1))) p2 (.string nm) (.slice fa x.fs.length fc) (.slice oa x.os.length oc) (.slice ma x.ms.length mc) (.slice ea x.es.length ec) (.slice ra x.rs.length rc) (.slice ga x.gs.length gc))):=by
   refine aa HR _ _ ?_
   unfold tD
   rw[hr]
   have hs4:s4.Es={ s4 with op:=op }:=by unfold ax.Es;rw[Vl];rfl
   show CR lo b NM W0 (.ok (x.done,s4.Es)) _ _
   rw[hs4]
   refine ⟨_,rfl,⟨_,rfl,?_⟩,hZ h5 r2 (by omega),dO (jR (aa TV) yU.sv (by omega)) r2 (by omega)⟩
   have Lz:=aa Hnm
   unfold Mp.done
   rw[Lz]
   exact .cons (cW 0 _ rfl) (cW 1 _ rfl) (cW 2 _ rfl) (fb _ _ _ _ _ _ yO yU.nx.2.1) (cW 3 _ rfl) (eP _ _ _ _ _ _ yO yU.nx.2.2) (cW 4 _ rfl) (cW 5 _ rfl) .nil
  have R1:=ab r1
  have c15:(w2.setCell ⟨b,6,none⟩ (.int .i64 ((m:Int)-1))).cell? ⟨p1,0,none⟩=some (.pointer (some ⟨b,0,none⟩)):=by rw[cell_of_row _ _ _ _ _ _ (aa WM _ _ yU.nx.1).1];rfl
  unfold J1 at HE R1
  clear hw hr h4 hg yV yU yf r1 r2 cW yO HC c1 h5 g5 xv of Vl hm hm1 jh jX
  go_wp2
  rw[←hQ]
  exact bodyPost_ret (results_cell_row rfl _ _ p2 49 #[.string nm,.slice fa x.fs.length fc,.slice oa x.os.length oc,.slice ma x.ms.length mc,.slice ea x.es.length ec,.slice ra x.rs.length rc,.slice ga x.gs.length gc] (0,0) _ rfl (aa R1) Tryz.underlying49 rfl j4) rfl (aa HE)
def Jm (n:Nat):Prop:=∀lo b V W s,Env V W b→Rd lo W b s→Sm s→s.ts.length≤n→s.ts.length≤16384→0<s.ts.length→Calls Tryz.prog 103 #[.pointer (some ⟨b,0,none⟩)] W (CR lo b NM W (bk n s))
theorem Nb {lo b g K op p1 p2 n:Nat}{nm:ByteArray}{V W0 W1 w:World}{s:ax}{e0 e1 e2 e3 e4 e5 e6:Value} (hM:Jm n) (hK:K≤n∧K≤16384) (h:mL lo b g K (op+1) nm (fun P w=>aX p1 #[.pointer (some ⟨b,0,none⟩)] 74 P w∧aX p2 #[e0,e1,e2,e3,e4,e5,e6] 49 P w) V W1 ⟨nm,[],[],[],[],[],[]⟩ s.CJ w)
  (IK:W0.grownBy W1 (some b)) (jh:lo≤W0.heap.size∧W0.heap.size≤p2∧p2<g) (jX:op≤31) {tm:Array Value} (cl:tm.size=40) (j7:Jg tm [(1,.pointer (some ⟨p1,0,none⟩)),(2,.pointer (some ⟨p2,0,none⟩)),(3,.pointer (some ⟨g,0,none⟩))]) {R:Ending→World→Prop}
  (hR:∀e w,CR lo b NM W0 (lO (bk n) nm s) e w→R e w):DM.wp Tryz.prog (bodyPost Tryz.prog Tryz.f103 R) ⟨tm,[]⟩ w:=by
 obtain ⟨f1,f2,f3,_⟩:=j7
 have k1:=ln f1
 have k2:=ln f2
 have k3:=ln f3
 simp only at k1 k2 k3
 rw[Ke]
 refine wp_seq ?_
 obtain ⟨T8,hT8⟩:∃T,Q8=T:=⟨_,rfl⟩
 rw[hT8]
 obtain ⟨Qb,qb⟩:∃Q,bodyPost Tryz.prog Tryz.f103 R=Q:=⟨_,rfl⟩
 rw[qb]
 unfold YA DM
 dsimp only[Tryz.f103]
 have Ol:aP (fun P w=>aX p1 #[.pointer (some ⟨b,0,none⟩)] 74 P w∧aX p2 #[e0,e1,e2,e3,e4,e5,e6] 49 P w):=(bz _ _ _).and (bz _ _ _)
 refine iP (z:=4) (N:=40) 2 (by kernel_rfl) (fun k=>k+25) (fun k=>[.pointer (some ⟨b,0,none⟩),.pointer (some ⟨b,0,none⟩),undef,.func (.func 126) #[] #[.pointer (some ⟨g,0,none⟩),.pointer (some ⟨p1,0,none⟩)]].getD k undef)
  (fun w=>mL lo b g K (op+1) nm (fun P w=>aX p1 #[.pointer (some ⟨b,0,none⟩)] 74 P w∧aX p2 #[e0,e1,e2,e3,e4,e5,e6] 49 P w) V W1 ⟨nm,[],[],[],[],[],[]⟩ s.CJ w)
  (fun x w=>∃pv,x=.map (some (pv+2))∧mL lo b g K (op+1) nm (fun P w=>(aX p1 #[.pointer (some ⟨b,0,none⟩)] 74 P w∧aX p2 #[e0,e1,e2,e3,e4,e5,e6] 49 P w)∧(aX pv #[.pointer (some ⟨b,0,none⟩)] 74 P w∧aX (pv+1) #[.pointer (some ⟨g,0,none⟩)] 158 P w∧iH (pv+2) (jJ pv b) P w)) V W1 ⟨nm,[],[],[],[],[],[]⟩ s.CJ w)
  _ w rfl cl (fun i j _ _ e=>by omega) (fun i hi=>by omega) (by kernel_rfl) (by kernel_rfl) ?_ ?_ ?_ ?_
 ·have hb:=(zE w.heap.size w).drew
  exact h.step Ol (h.rd.up hb) (aD b hb) (.refl _)
 ·intro k pS w' hk Vo iQ cB a8 hw
  have dK:w'.cell? ⟨p1,0,none⟩=some (.pointer (some ⟨b,0,none⟩)):=by
   rcases hw with ⟨_,⟨vf,vo,vm,ve,vr,vg,cm,ce,bd⟩,_⟩|⟨_,pv,_,_,⟨vf,vo,vm,ve,vr,vg,cm,ce,bd⟩,_⟩
   ·rw[cell_of_row _ _ _ _ _ _ bd.nx.1.1.1];rfl
   ·rw[cell_of_row _ _ _ _ _ _ bd.nx.1.1.1.1];rfl
  match k,hk with
  |0,_=>exact aY rfl rfl _ (.tmp 1) rfl ((cB 1 (by intro i hi;omega)).trans k1) (dh _ dK) ⟨rfl,rfl⟩
  |1,_=>exact aY rfl rfl _ (.tmp 1) rfl ((cB 1 (by intro i hi;omega)).trans k1) (dh _ dK) ⟨rfl,rfl⟩
  |2,_=>omega
  |3,_=>exact nV rfl rfl _ _ _ rfl #[] #[.pointer (some ⟨g,0,none⟩),.pointer (some ⟨p1,0,none⟩)] (by simp) (by simp only[List.map_toArray,List.map_cons,List.map_nil,Act.eval];rw[show pS.getD 3 undef=_ from (cB 3 (by intro i hi;omega)).trans k3,show pS.getD 1 undef=_ from (cB 1 (by intro i hi;omega)).trans k1]) ⟨rfl,rfl⟩
 ·intro _ pS w' iQ cB a8 hw
  refine cE rfl rfl 125 (Ez w') _ _ rfl #[.pointer (some ⟨b,0,none⟩),.pointer (some ⟨g,0,none⟩)] ?_ (DN w' b g) ?_
  ·simp only[List.map_toArray,List.map_cons,List.map_nil,Act.eval]
   rw[show pS.getD 26 undef=_ from a8 1 (by omega) (by kernel_rfl),show pS.getD 3 undef=_ from (cB 3 (by intro i hi;omega)).trans k3]
   rfl
  ·rintro e w2 ⟨rfl,hb,fk⟩
   exact .inl ⟨_,rfl,_,rfl,w'.heap.size,rfl,hw.join Ol ((bz _ _ _).and ((bz _ _ _).and (fX _ _))) hb fk⟩
 ·intro pS w' iQ cB dC hw
  rcases hw with ⟨_,pv,hx,hi⟩|⟨hc,_⟩
  rotate_left
  ·omega
  have KK:aP (fun P w=>(aX p1 #[.pointer (some ⟨b,0,none⟩)] 74 P w∧aX p2 #[e0,e1,e2,e3,e4,e5,e6] 49 P w)∧(aX pv #[.pointer (some ⟨b,0,none⟩)] 74 P w∧aX (pv+1) #[.pointer (some ⟨g,0,none⟩)] 158 P w∧iH (pv+2) (jJ pv b) P w)):=Ol.and ((bz _ _ _).and ((bz _ _ _).and (fX _ _)))
  have ub:=UJ (lo:=lo) (g:=g) (K:=K) (op:=op+1) (p1:=p1) (pv:=pv) (nm:=nm) (V:=V) (W:=W1) (mf:=bk n) KK hK.2 (fun P w h=>h.1.1) (fun P w h=>h.2.1) (fun P w h=>h.2.2.1) (fun P w h=>h.2.2.2) (kV n) (fun lo b V W s q1 q2 q3 q4 q5=>hM lo b V W s q1 q2 q3 (by omega) (by omega) q5)
  have abl:∀x s x' s',bV (mw (bk n)) E0 x s=.ok (x',s')→jj s s':=fun x s x' s' h=>(gZ (yA _ (kV n)) (fun x s x' s' h=>jS h) h).1.gu
  have KH:=zo ub (fun x s w x' s' hI sJ=>wZ (yA _ (kV n)) (fun x s x' s' h=>jS h) (ub.rd x s w hI).grown sJ) hi
  refine cE rfl rfl 124 (zk w') _ _ rfl #[.pointer (some ⟨b,0,none⟩),.map (some (pv+2)),.func (.func 126) #[] #[.pointer (some ⟨g,0,none⟩),.pointer (some ⟨p1,0,none⟩)]] ?_ KH ?_
  ·simp only[List.map_toArray,List.map_cons,List.map_nil,Act.eval]
   rw[show pS.getD 25 undef=_ from dC 0 (by omega) (by omega),show pS.getD 27 undef=_ from hx,show pS.getD 28 undef=_ from dC 3 (by omega) (by omega)]
   rfl
  ·intro e w2 RM
   have Ty:∀z,ji (bV (mw (bk n)) E0) ⟨nm,[],[],[],[],[],[]⟩ s.CJ=z→lO (bk n) nm s=(match z with|.error e=>.error e|.ok (x,s3)=>tD x s3):=fun z hz=>by unfold lO;rw[hz];cases z<;>rfl
   rcases RM.split with ⟨y,hr,rfl,he⟩|⟨x,s3,hr,rfl,Zw⟩
   ·refine .inr ⟨_,rfl,?_⟩
    show Qb (Exit.panic _) _ _
    rw[←qb]
    refine ⟨rfl,hR _ _ ?_⟩
    rw[Ty _ hr]
    exact ⟨rfl,jR IK he (by omega)⟩
   ·refine .inl ⟨_,rfl,?_⟩
    show T8.wp Tryz.prog Qb ⟨pS.setIfInBounds 29 (.tuple #[]),[]⟩ w2
    rw[←hT8,←qb]
    have bF:=(mh abl hr).2
    refine Na (p1:=p1) (p2:=p2) Zw KK (fun P w h=>h.1.1) (fun P w h=>h.1.2) bF IK jh jX (by rw[Array.size_setIfInBounds];exact iQ) ⟨?_,?_,?_,trivial⟩ ?_
    ·exact oI (by rw[Array.size_setIfInBounds,iQ];omega) (by rw[aI (by omega)];exact (cB 1 (by intro i hi;omega)).trans k1)
    ·exact oI (by rw[Array.size_setIfInBounds,iQ];omega) (by rw[aI (by omega)];exact (cB 2 (by intro i hi;omega)).trans k2)
    ·exact oI (by rw[Array.size_setIfInBounds,iQ];omega) (by rw[aI (by omega)];exact (cB 3 (by intro i hi;omega)).trans k3)
    ·intro e w3 ky
     refine hR e w3 ?_
     rw[Ty _ hr]
     exact ky
theorem BP {n:Nat} (hM:Jm n):Jm (n+1):=by
 intro lo b V W s hv h hs iI hn hp
 have cC:=h.low
 have bo:Below W.heap.size W ((W.alloc (.cells #[.pointer (some ⟨b,0,none⟩)] 74)).alloc (.cells #[.string ⟨#[]⟩,.slice none 0 0,.slice none 0 0,.slice none 0 0,.slice none 0 0,.slice none 0 0,.slice none 0 0] 49)):=((zE _ _).alloc (zD _) _).alloc (by rw[zJ];omega) _
 have iZ:((W.alloc (.cells #[.pointer (some ⟨b,0,none⟩)] 74)).alloc (.cells #[.string ⟨#[]⟩,.slice none 0 0,.slice none 0 0,.slice none 0 0,.slice none 0 0,.slice none 0 0,.slice none 0 0] 49)).heap[W.heap.size]?=some (.cells #[.pointer (some ⟨b,0,none⟩)] 74 (0,0)):=(Below.heap_alloc _ _ _ (by rw[zJ];omega)).trans (aF _ _)
 have ew:((W.alloc (.cells #[.pointer (some ⟨b,0,none⟩)] 74)).alloc (.cells #[.string ⟨#[]⟩,.slice none 0 0,.slice none 0 0,.slice none 0 0,.slice none 0 0,.slice none 0 0,.slice none 0 0] 49)).heap[W.heap.size+1]?=some (.cells #[.string ⟨#[]⟩,.slice none 0 0,.slice none 0 0,.slice none 0 0,.slice none 0 0,.slice none 0 0,.slice none 0 0] 49 (0,0)):=by
  have:=aF (W.alloc (.cells #[.pointer (some ⟨b,0,none⟩)] 74)) (.cells #[.string ⟨#[]⟩,.slice none 0 0,.slice none 0 0,.slice none 0 0,.slice none 0 0,.slice none 0 0,.slice none 0 0] 49)
  rw[zJ] at this
  exact this
 have l2:W.heap.size+1<((W.alloc (.cells #[.pointer (some ⟨b,0,none⟩)] 74)).alloc (.cells #[.string ⟨#[]⟩,.slice none 0 0,.slice none 0 0,.slice none 0 0,.slice none 0 0,.slice none 0 0,.slice none 0 0] 49)).heap.size:=by simp only[zJ];omega
 have Af:=h.up bo
 have qF:∀w,((W.alloc (.cells #[.pointer (some ⟨b,0,none⟩)] 74)).alloc (.cells #[.string ⟨#[]⟩,.slice none 0 0,.slice none 0 0,.slice none 0 0,.slice none 0 0,.slice none 0 0,.slice none 0 0] 49)).grownBy w (some b)→w.heap[W.heap.size]?=some (.cells #[.pointer (some ⟨b,0,none⟩)] 74 (0,0))∧w.heap[W.heap.size+1]?=some (.cells #[.string ⟨#[]⟩,.slice none 0 0,.slice none 0 0,.slice none 0 0,.slice none 0 0,.slice none 0 0,.slice none 0 0] 49 (0,0))∧w.cell? ⟨W.heap.size,0,none⟩=some (.pointer (some ⟨b,0,none⟩)):=fun w hg=>by
  have e1:=(hg.block W.heap.size (by omega) (by simp;omega)).trans iZ
  exact ⟨e1,(hg.block (W.heap.size+1) l2 (by simp;omega)).trans ew,by rw[cell_of_row _ _ _ _ _ _ e1];rfl⟩
 have S0:=ab qF
 have CI:=ab (aD b bo)
 have HV:=ab hv
 have HS:=ab hs
 have Hn:=ab hn
 have Hn1:=ab iI
 have Hp:=ab hp
 have HM:=ab hM
 have HC:=ab (fK Af)
 have G0:=ab cC
 have Zi:s.op≤32:=by obtain ⟨_,_,_,_,_,h9,_⟩:=h;exact h9
 have c0:=(qF _ (zI _ _)).2.2
 clear iZ ew l2 Af qF bo h hv hs hn iI cC hM
 refine calls_of_wp Tryz.func103 M7 ?_
 obtain ⟨tl,pG⟩:∃t,DM=t:=⟨_,rfl⟩
 rw[pG]
 obtain ⟨Q,hQ⟩:∃Q,bodyPost Tryz.prog Tryz.f103 (CR lo b NM W (bk (n+1) s))=Q:=⟨_,rfl⟩
 rw[hQ]
 unfold M'
 dsimp only[Tryz.f103]
 simp only[List.size_toArray,List.length_cons,List.length_nil,Nat.reduceAdd,Nat.reduceSub,Array.replicate_succ,Array.replicate_zero,List.push_toArray,List.append_toArray,List.nil_append,List.cons_append]
 go_wp2_with fail
 refine (aa HC).mono ?_
 rintro e w1 ⟨rfl,h1,lY⟩
 have c1:=(aa S0 _ lY).2.2
 have HN:=ab (dX h1 hp)
 have Uf:=ab (mH h1 53)
 have rQ:=ab lY
 obtain ⟨_,_,_,_,_,_,o6,_⟩:=h1.cells
 have o6':w1.cell? ⟨b,6,none⟩=some (.int .i64 (s.op:Int)):=o6
 obtain ⟨op,jX⟩:∃op,s.op=op:=⟨_,rfl⟩
 have Hop:=ab jX
 rw[jX] at o6' Zi
 clear h1 lY HC c0 o6 jX
 by_cases LG:op=32
 ·subst LG
  go_wp2_with fail
  refine (aa Uf).mono ?_
  rintro e w2 ⟨rfl,bo⟩
  show Q (Exit.panic _) _ _
  rw[←hQ]
  refine ⟨rfl,?_⟩
  unfold bk
  rw[if_pos (aa Hop)]
  exact ⟨rfl,((aa CI).trans (aa rQ)).trans (aD b bo)⟩
 ·have q32:((op:Int)==32)=false:=beq_eq_false_iff_ne.2 (by omega)
  have h31:op≤31:=by omega
  have WD:Hid (bk (n+1) s=match bC s.begun with|.error e=>.error e|.ok (_,s1)=>match aQ s1 with|.error e=>.error e|.ok (nm,s2)=>lO (bk n) nm s2):=by
   show _=_
   conv=>lhs;unfold bk
   rw[if_neg (by rw[aa Hop];exact LG)]
   cases bC s.begun with
   |error e=>rfl
   |ok y =>
    simp only
    all_goals (cases aQ y.2<;>rfl)
  clear LG Zi
  go_wp2_with fail
  refine (aa HN).mono ?_
  intro e w2 hw
  rcases hw.split with ⟨y,hr,rfl,hg⟩|⟨_,s1,hr,rfl,h2,hg⟩
  ·show Q (Exit.panic _) _ _
   rw[←hQ]
   refine ⟨rfl,?_⟩
   rw[aa WD,hr]
   exact ⟨rfl,((aa CI).trans (aa rQ)).trans hg⟩
  ·have rP:=ab ((aa rQ).trans hg)
   have Hgt:=ab (ed (s:=s.begun) hr)
   have PN:Hid (bk (n+1) s=match aQ s1 with|.error e=>.error e|.ok (nm,s2)=>lO (bk n) nm s2):=by show _=_;rw[aa WD,hr]
   have HNm:=ab (kU h2 ((sj hr).sm (aa HS)))
   have c2:=(aa S0 _ ((aa rQ).trans hg)).2.2
   clear hw hr h2 hg HN WD c1 o6' Uf
   go_wp2_with fail
   refine (aa HNm).mono ?_
   intro e w3 hw
   rcases hw.split with ⟨y,hr,rfl,hg⟩|⟨nm,s2,hr,rfl,h3,hg⟩
   ·show Q (Exit.panic _) _ _
    rw[←hQ]
    refine ⟨rfl,?_⟩
    rw[aa PN,hr]
    exact ⟨rfl,((aa CI).trans (aa rP)).trans hg⟩
   ·have cO:=(aa rP).trans hg
    obtain ⟨k1,k2,_⟩:=aa S0 _ cO
    have cC:=aa G0
    have F7:W.heap.size+2≤w3.heap.size:=by
     have:=(zA k2).1
     omega
    have RO:Gt s s2:=(show Gt s s1 from aa Hgt).eI (gz hr).gu
    have RE:s2.op=op:=RO.gu.op.trans (aa Hop)
    have fC:=(zE w3.heap.size w3).alloc (zD _) (.cells #[.string nm,.slice none 0 0,.slice none 0 0,.slice none 0 0,.slice none 0 0,.slice none 0 0,.slice none 0 0] 49)
    have h4:=h3.up fC
    obtain ⟨h5,g5⟩:=Tb h4 (n:=op+1) (by omega)
    have hs5:{ s2 with op:=op+1 }=s2.CJ:=by unfold ax.CJ;rw[RE]
    rw[hs5] at h5
    have bd:Ap lo b w3.heap.size 49 nm (sY ⟨nm,[],[],[],[],[],[]⟩ (.slice none 0 0) (.slice none 0 0) (.slice none 0 0) (.slice none 0 0) (.slice none 0 0) (.slice none 0 0) [] []) (tQ w3.heap.size (fun P w=>aX W.heap.size #[.pointer (some ⟨b,0,none⟩)] 74 P w∧aX (W.heap.size+1) #[.string ⟨#[]⟩,.slice none 0 0,.slice none 0 0,.slice none 0 0,.slice none 0 0,.slice none 0 0,.slice none 0 0] 49 P w) ⟨nm,[],[],[],[],[],[]⟩ [] []) V w3 s2 (w3.alloc (.cells #[.string nm,.slice none 0 0,.slice none 0 0,.slice none 0 0,.slice none 0 0,.slice none 0 0,.slice none 0 0] 49)):=by
     have pH:∀(i:Nat) (sl:Slot),(sY ⟨nm,[],[],[],[],[],[]⟩ (.slice none 0 0) (.slice none 0 0) (.slice none 0 0) (.slice none 0 0) (.slice none 0 0) (.slice none 0 0) [] [])[i]?=some sl→sl.v=.slice none 0 0∧sl.n=0∧sl.xs=[]:=fun i sl hi=>by
      match i,hi with
      |0,hi=>obtain rfl:=zC hi;exact ⟨rfl,rfl,rfl⟩
      |1,hi=>obtain rfl:=zC hi;exact ⟨rfl,rfl,rfl⟩
      |2,hi=>obtain rfl:=zC hi;exact ⟨rfl,rfl,rfl⟩
      |3,hi=>obtain rfl:=zC hi;exact ⟨rfl,rfl,rfl⟩
      |4,hi=>obtain rfl:=zC hi;exact ⟨rfl,rfl,rfl⟩
      |5,hi=>obtain rfl:=zC hi;exact ⟨rfl,rfl,rfl⟩
      |k+6,hi=>cases hi
     have Xm:∀k,k≠b→k≠w3.heap.size→Fz (sY ⟨nm,[],[],[],[],[],[]⟩ (.slice none 0 0) (.slice none 0 0) (.slice none 0 0) (.slice none 0 0) (.slice none 0 0) (.slice none 0 0) [] []) w3.heap.size b k:=fun k q1 q2=>⟨q1,q2,fun i sl hi e=>by
      rw[(pH i sl hi).1] at e
      cases e⟩
     refine ⟨⟨aF _ _,fun i sl hi=>?_,fun i j a c eb ha hc k hk=>?_⟩,⟨⟨⟨(fC.block _ (by omega)).trans k1,Xm _ (by omega) (by omega)⟩,⟨(fC.block _ (by omega)).trans k2,Xm _ (by omega) (by omega)⟩⟩,.nil,.nil⟩,h4,by have:=h3.low;omega,⟨fC.os,fC.tape,fC.output,fC.size,fun k hk _=>fC.block k hk⟩,?_⟩
     ·obtain ⟨q1,q2,q3⟩:=pH i sl hi
      exact ⟨by rw[q2,q3];simp,.inl ⟨q1,q2⟩⟩
     ·rw[(pH i a ha).1] at hk
      cases hk
     ·exact ((aa HV).step ((aa CI).trans cO)).step (aD b fC)
    have yU:=bd.read (tQ.st ((bz _ _ _).and (bz _ _ _)) _ _ _) h5 g5
    have dr:=RO.lt (aa Hp)
    have HI:Hid (mL lo b w3.heap.size s2.ts.length (op+1) nm (fun P w=>aX W.heap.size #[.pointer (some ⟨b,0,none⟩)] 74 P w∧aX (W.heap.size+1) #[.string ⟨#[]⟩,.slice none 0 0,.slice none 0 0,.slice none 0 0,.slice none 0 0,.slice none 0 0,.slice none 0 0] 49 P w) V w3 ⟨nm,[],[],[],[],[],[]⟩ s2.CJ ((w3.alloc (.cells #[.string nm,.slice none 0 0,.slice none 0 0,.slice none 0 0,.slice none 0 0,.slice none 0 0,.slice none 0 0] 49)).setCell ⟨b,6,none⟩ (.int .i64 ((op+1:Nat):Int)))):=by
     have h7:=aa Hn
     have h8:s2.CJ.ts.length=s2.ts.length:=rfl
     exact ⟨rfl,⟨_,_,_,_,_,_,_,_,yU⟩,⟨⟨by simp only[List.length_nil];omega,by simp only[List.length_nil];omega,by simp only[List.length_nil];omega,by simp only[List.length_nil];omega,by simp only[List.length_nil];omega,by simp only[List.length_nil];omega⟩,RO.gu.sm (aa HS),by omega,by show s2.op+1=op+1;rw[RE]⟩⟩
    obtain ⟨_,_,_,_,_,_,o6,of⟩:=h4.cells
    rw[RE] at o6
    have f6:=of 6
    have c4:(w3.alloc (.cells #[.string nm,.slice none 0 0,.slice none 0 0,.slice none 0 0,.slice none 0 0,.slice none 0 0,.slice none 0 0] 49)).cell? ⟨W.heap.size,0,none⟩=some (.pointer (some ⟨b,0,none⟩)):=by rw[cell_of_row _ _ _ _ _ _ ((fC.block _ (by omega)).trans k1)];rfl
    have nz:Hid (bk (n+1) s=lO (bk n) nm s2):=by show _=_;rw[aa PN,hr]
    have xP:=ab ((aa CI).trans cO)
    have Hz:=ab F7
    have HKl:Hid (s2.ts.length≤n∧s2.ts.length≤16384):=by have:=aa Hn;have:=aa Hn1;exact ⟨by omega,by omega⟩
    have e1:((op+1:Nat):Int)=(op:Int)+1:=by omega
    rw[e1] at HI
    have p31:(op:Int)≤31:=by omega
    clear hw hr h3 hg cO k1 k2 F7 fC bd yU HNm PN cC c2 h4 h5 g5 hs5 of RO RE dr e1 Hgt
    go_wp2
    rw[←pG,←hQ]
    refine Nb (p1:=W.heap.size) (p2:=W.heap.size+1) (aa HM) (aa HKl) (aa HI) (aa xP) ⟨(aa G0).2,by omega,by have:=aa Hz;omega⟩ h31 rfl ⟨rfl,rfl,rfl,trivial⟩ ?_
    intro e w5 ky
    rw[aa nz]
    exact ky
theorem yB:∀n,Jm n
 |0=>fun _ _ _ _ s _ _ _ h1 _ h2=>absurd h2 (by omega)
 |n+1=>BP (yB n)
end Go.Proofs.YtjophoclfccmcaaGreatDoor

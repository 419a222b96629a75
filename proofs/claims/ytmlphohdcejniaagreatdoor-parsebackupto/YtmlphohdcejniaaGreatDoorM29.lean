import Derived.Test.YtmlphohdcejniaaGreatDoorPbW
set_option maxHeartbeats 4000000
set_option maxRecDepth 100000
namespace Go.Proofs.YtmlphohdcejniaaGreatDoor
open Go.RowKit
attribute [local go_sem ↓] Go.wp_at_zero Go.wp_at_succ
theorem Pk {tm:Array Value} (h:tm.size=40):∃u:Nat→Value,tm=#[u 0,u 1,u 2,u 3,u 4,u 5,u 6,u 7,u 8,u 9,u 10,u 11,u 12,u 13,u 14,u 15,u 16,u 17,u 18,u 19,u 20,u 21,u 22,u 23,u 24,u 25,u 26,u 27,u 28,u 29,u 30,u 31,u 32,u 33,u 34,u 35,u 36,u 37,u 38,u 39]:=by
 refine ⟨fun i=>tm.getD i undef,?_⟩
 have e:tm=((List.range 40).map fun i=>tm.getD i undef).toArray:=by
  apply Array.ext
  ·simp[h]
  ·intro i h1 h2
   simp[Array.getD,h1]
 exact e.trans rfl
theorem RI:(Tryz.prog.info? 64).map (·.size)=some 7:=by kernel_rfl
theorem ME {w:World}{g:Nat}{a0 a1 a2 a3 a4 a5 a6:Value}{t:TypeId} (h:w.heap[g]?=some (.cells #[a0,a1,a2,a3,a4,a5,a6] t (0,0))):(w.cell? ⟨g,0,none⟩=some a0∧w.cell? ⟨g,1,none⟩=some a1∧w.cell? ⟨g,2,none⟩=some a2∧w.cell? ⟨g,3,none⟩=some a3∧w.cell? ⟨g,4,none⟩=some a4∧w.cell? ⟨g,5,none⟩=some a5∧w.cell? ⟨g,6,none⟩=some a6)∧∀j,w.frozen? ⟨g,j,none⟩=false:=by
 refine ⟨⟨?_,?_,?_,?_,?_,?_,?_⟩,fun j=>by simp[World.frozen?,h]⟩<;>rw[cell_of_row _ _ _ _ _ _ h]<;>rfl
def G4 (w:World) (g:Nat) (a0 a1 a2 a3 a4 a5 a6:Value):World:=((((((w.setCell ⟨g,0,none⟩ a0).setCell ⟨g,1,none⟩ a1).setCell ⟨g,2,none⟩ a2).setCell ⟨g,3,none⟩ a3).setCell ⟨g,4,none⟩ a4).setCell ⟨g,5,none⟩ a5).setCell ⟨g,6,none⟩ a6
theorem DN {w:World}{g:Nat}{b0 b1 b2 b3 b4 b5 b6:Value}{t:TypeId} (h:w.heap[g]?=some (.cells #[b0,b1,b2,b3,b4,b5,b6] t (0,0))) (a0 a1 a2 a3 a4 a5 a6:Value):(G4 w g a0 a1 a2 a3 a4 a5 a6).heap[g]?=some (.cells #[a0,a1,a2,a3,a4,a5,a6] t (0,0))∧w.grownBy (G4 w g a0 a1 a2 a3 a4 a5 a6) (some g):=by
 obtain ⟨h0,g0⟩:=aJ (j:=0) h a0
 obtain ⟨h1,g1⟩:=aJ (j:=1) h0 a1
 obtain ⟨h2,g2⟩:=aJ (j:=2) h1 a2
 obtain ⟨h3,g3⟩:=aJ (j:=3) h2 a3
 obtain ⟨h4,g4⟩:=aJ (j:=4) h3 a4
 obtain ⟨h5,g5⟩:=aJ (j:=5) h4 a5
 obtain ⟨h6,g6⟩:=aJ (j:=6) h5 a6
 exact ⟨h6,(((((g0.trans g1).trans g2).trans g3).trans g4).trans g5).trans g6⟩
theorem Qr {lo b n:Nat}{W:World}{s:aI} (h:Rd lo W b s) (hn:n≤32):Rd lo (W.setCell ⟨b,6,none⟩ (.int .i64 (n:Int))) b { s with op:=n }∧W.grownBy (W.setCell ⟨b,6,none⟩ (.int .i64 (n:Int))) (some b):=by
 obtain ⟨v,h1,h2,h3,h4,h5,h6⟩:=h
 obtain ⟨k1,k2⟩:=aJ (j:=6) h1 (.int .i64 (n:Int))
 exact ⟨⟨v,k1,h2.EA h3.2 k2,⟨h3.1,Nat.le_trans h3.2 k2.size⟩,h4,hn,h6⟩,k2⟩
noncomputable def BZ:Code:=match Tryz.f101.body with
 |some (.seq _ (.seq _ (.seq _ (.seq _ (.seq _ (.seq _ t))))))=>t
 |_=>.skip
noncomputable def KQ (t:Code):Code:=match Tryz.f101.body with
 |some (.seq a (.seq b (.seq c (.seq d (.seq e (.seq f _))))))=>.seq a (.seq b (.seq c (.seq d (.seq e (.seq f t)))))
 |_=>.skip
theorem KP:Tryz.f101.body=some (KQ BZ):=rfl
noncomputable def OH:Code:=match BZ with
 |.seq _ t=>t
 |_=>.skip
noncomputable def VQ:Code:=match BZ with
 |.seq a _=>a
 |_=>.skip
theorem Ic:BZ=.seq VQ OH:=rfl
theorem KR {lo b g K op p1 p2:Nat}{nm:ByteArray}{N:(Nat→Prop)→World→Prop}{V W0 W1 w:World}{x:Mp}{s:aI}{e0 e1 e2 e3 e4 e5 e6:Value} (h:lD lo b g K (op+1) nm N V W1 x s w) (hN:aK N) (qa:∀P w,N P w→aP p1 #[.pointer (some ⟨b,0,none⟩)] 107 P w) (fX:∀P w,N P w→aP p2 #[e0,e1,e2,e3,e4,e5,e6] 64 P w)
  (ib:dD s.here 4 ⟨#[125]⟩=true) (tX:W0.grownBy W1 (some b)) (dr:lo≤W0.heap.size∧W0.heap.size≤p2∧p2<g) (ju:op≤31) {tm:Array Value} (bR:tm.size=40) (je:Gh tm [(1,.pointer (some ⟨p1,0,none⟩)),(2,.pointer (some ⟨p2,0,none⟩)),(3,.pointer (some ⟨g,0,none⟩))]) {R:Ending→World→Prop}
  (hR:∀e w,CR lo b NM W0 (vH x s) e w→R e w):OH.wp Tryz.prog (bodyPost Tryz.prog Tryz.f101 R) ⟨tm,[]⟩ w:=by
 have HR:=aj hR
 have HI:=aj h
 obtain ⟨jd,⟨vf,vo,vm,ve,vr,vg,cm,ce,aZ⟩,hk⟩:=h
 obtain ⟨fa,fc,q1⟩:=bK (aZ.bx.own 0 _ rfl)
 obtain ⟨oa,oc,q2⟩:=bK (aZ.bx.own 1 _ rfl)
 obtain ⟨ma,mc,q3⟩:=bK (aZ.bx.own 2 _ rfl)
 obtain ⟨ea,ec,q4⟩:=bK (aZ.bx.own 3 _ rfl)
 obtain ⟨ra,rc,q5⟩:=bK (aZ.bx.own 4 _ rfl)
 obtain ⟨ga,gc,q6⟩:=bK (aZ.bx.own 5 _ rfl)
 simp only at q1 q2 q3 q4 q5 q6
 subst q1 q2 q3 q4 q5 q6
 have c1:w.cell? ⟨p1,0,none⟩=some (.pointer (some ⟨b,0,none⟩)):=by rw[cell_of_row _ _ _ _ _ _ (qa _ _ aZ.nx.1).1];rfl
 have HA:=aj aZ
 have HN:=aj (rI.st (g:=g) hN x cm ce)
 have Ud:=aj qa
 have ny:=aj fX
 have QY:=aj tX
 have Na:=aj dr
 have Hnm:=aj jd
 have P3:=aj hk.2.2.2
 have HC:=aj (cY aZ.rd (bP aZ.rd.grown (by rw[qp ib];decide)))
 obtain ⟨u,rfl⟩:=Pk bR
 obtain ⟨f1,f2,f3,_⟩:=je
 replace f1:u 1=.pointer (some ⟨p1,0,none⟩):=zC f1
 replace f2:u 2=.pointer (some ⟨p2,0,none⟩):=zC f2
 replace f3:u 3=.pointer (some ⟨g,0,none⟩):=zC f3
 rw[f1,f2,f3]
 clear f1 f2 f3 bR hR aZ hN qa fX ib tX dr hk jd
 obtain ⟨Q,hQ⟩:∃Q,bodyPost Tryz.prog Tryz.f101 R=Q:=⟨_,rfl⟩
 rw[hQ]
 unfold OH BZ
 dsimp only[Tryz.f101]
 go_wp2_with fail
 refine (aa HC).mono ?_
 intro e w2 hw
 rcases hw.split with ⟨y,hr,rfl,hg⟩|⟨_,s4,hr,rfl,h4,hg⟩
 ·show Q (Exit.panic _) _ _
  rw[←hQ]
  refine ⟨rfl,aa HR _ _ ?_⟩
  unfold vH
  rw[hr]
  exact ⟨rfl,iM (aa QY) ((aa HI).er hg) (by have:=aa Na;omega)⟩
 ·have dr:=aa Na
  have wC:=(aa HA).read (aa HN) h4 hg
  obtain ⟨_,_,_,_,_,_,o6,of⟩:=h4.cells
  have f6:=of 6
  have SC:s4.op=op+1:=(lQ hr).1.trans (aa P3)
  rw[SC] at o6
  obtain ⟨m,hm⟩:∃m,op+1=m:=⟨_,rfl⟩
  rw[hm] at o6
  have m1:(1:Int)≤(m:Int):=by omega
  have m2:(m:Int)≤32:=by omega
  have WD:((op:Nat):Int)=(m:Int)-1:=by omega
  obtain ⟨h5,g5⟩:=Qr h4 (n:=op) (by omega)
  rw[WD] at h5 g5
  have wB:=wC.read (aa HN) h5 g5
  have c14:w2.cell? ⟨p1,0,none⟩=some (.pointer (some ⟨b,0,none⟩)):=by rw[cell_of_row _ _ _ _ _ _ (aa Ud _ _ wC.nx.1).1];rfl
  obtain ⟨⟨d0,d1,d2,d3,d4,d5,d6⟩,_⟩:=ME wB.bx.dt
  have xq:=(aa ny _ _ wB.nx.1).1
  obtain ⟨⟨y0,y1,y2,y3,y4,y5,y6⟩,yf⟩:=ME xq
  have f20:=yf 0
  have f21:=yf 1
  have f22:=yf 2
  have f23:=yf 3
  have f24:=yf 4
  have f25:=yf 5
  have f26:=yf 6
  obtain ⟨r1,r2⟩:=DN xq (.string nm) (.slice fa x.fs.length fc) (.slice oa x.os.length oc) (.slice ma x.ms.length mc) (.slice ea x.es.length ec) (.slice ra x.rs.length rc) (.slice ga x.gs.length gc)
  have cC:∀(i:Nat) (sl:Slot),(E0 x (.slice fa x.fs.length fc) (.slice oa x.os.length oc) (.slice ma x.ms.length mc) (.slice ea x.es.length ec) (.slice ra x.rs.length rc) (.slice ga x.gs.length gc) cm ce)[i]?=some sl→eQ (fun k=>W0.heap.size≤k) (G4 (w2.setCell ⟨b,6,none⟩ (.int .i64 ((m:Int)-1))) p2 (.string nm) (.slice fa x.fs.length fc) (.slice oa x.os.length oc) (.slice ma x.ms.length mc) (.slice ea x.es.length ec) (.slice ra x.rs.length rc) (.slice ga x.gs.length gc)) sl.t sl.sz sl.v sl.n sl.xs:=fun i sl hi=>by
   have h1:=wB.bx.own i sl hi
   refine ⟨jy (World.ownsRow.kept h1 r2 ?_) (Nat.zero_le _),fun k hk=>?_⟩
   ·right
    intro e
    have:=(h1.lt p2 e).1
    omega
   ·have:=(h1.lt k hk).1
    omega
  have wb:iV (fun k=>Fz (E0 x (.slice fa x.fs.length fc) (.slice oa x.os.length oc) (.slice ma x.ms.length mc) (.slice ea x.es.length ec) (.slice ra x.rs.length rc) (.slice ga x.gs.length gc) cm ce) g b k∧g≤k) (fun k=>W0.heap.size≤k) (w2.setCell ⟨b,6,none⟩ (.int .i64 ((m:Int)-1))) (G4 (w2.setCell ⟨b,6,none⟩ (.int .i64 ((m:Int)-1))) p2 (.string nm) (.slice fa x.fs.length fc) (.slice oa x.os.length oc) (.slice ma x.ms.length mc) (.slice ea x.es.length ec) (.slice ra x.rs.length rc) (.slice ga x.gs.length gc)):=fun k hk hl=>⟨by omega,r2.block k hl (by simp;omega)⟩
  have HE:Hid (R (.returned (.agg #[.string nm,.slice fa x.fs.length fc,.slice oa x.os.length oc,.slice ma x.ms.length mc,.slice ea x.es.length ec,.slice ra x.rs.length rc,.slice ga x.gs.length gc])) (G4 (w2.setCell ⟨b,6,none⟩ (.int .i64 ((m:Int)-1))) p2 (.string nm) (.slice fa x.fs.length fc) (.slice oa x.os.length oc) (.slice ma x.ms.length mc) (.slice ea x.es.length ec) (.slice ra x.rs.length rc) (.slice ga x.gs.length gc))):=by
   refine aa HR _ _ ?_
   unfold vH
   rw[hr]
   have hs4:s4.CE={ s4 with op:=op }:=by unfold aI.CE;rw[SC];rfl
   show CR lo b NM W0 (.ok (x.done,s4.CE)) _ _
   rw[hs4]
   refine ⟨_,rfl,⟨_,rfl,?_⟩,gf h5 r2 (by omega),cW (iM (aa QY) wB.sv (by omega)) r2 (by omega)⟩
   have j8:=aa Hnm
   unfold Mp.done
   rw[j8]
   exact .cons (cC 0 _ rfl) (cC 1 _ rfl) (cC 2 _ rfl) (cS _ _ _ _ _ _ wb wB.nx.2.1) (cC 3 _ rfl) (cH _ _ _ _ _ _ wb wB.nx.2.2) (cC 4 _ rfl) (cC 5 _ rfl) .nil
  have R1:=aj r1
  have c15:(w2.setCell ⟨b,6,none⟩ (.int .i64 ((m:Int)-1))).cell? ⟨p1,0,none⟩=some (.pointer (some ⟨b,0,none⟩)):=by rw[cell_of_row _ _ _ _ _ _ (aa Ud _ _ wB.nx.1).1];rfl
  unfold G4 at HE R1
  clear hw hr h4 hg wC wB yf r1 r2 cC wb HC c1 h5 g5 xq of SC hm WD dr ju
  go_wp2
  rw[←hQ]
  exact bodyPost_ret (results_cell_row rfl _ _ p2 64 #[.string nm,.slice fa x.fs.length fc,.slice oa x.os.length oc,.slice ma x.ms.length mc,.slice ea x.es.length ec,.slice ra x.rs.length rc,.slice ga x.gs.length gc] (0,0) _ rfl (aa R1) Tryz.underlying64 rfl RI) rfl (aa HE)
def Gn (n:Nat):Prop:=∀lo b V W s,Env V W b→Rd lo W b s→Sm s→s.ts.length≤n→s.ts.length≤16384→0<s.ts.length→Calls Tryz.prog 101 #[.pointer (some ⟨b,0,none⟩)] W (CR lo b NM W (bB n s))
theorem KS {lo b g K op p1 p2 n:Nat}{nm:ByteArray}{V W0 W1 w:World}{s:aI}{e0 e1 e2 e3 e4 e5 e6:Value} (hM:Gn n) (hK:K≤n∧K≤16384) (h:lD lo b g K (op+1) nm (fun P w=>aP p1 #[.pointer (some ⟨b,0,none⟩)] 107 P w∧aP p2 #[e0,e1,e2,e3,e4,e5,e6] 64 P w) V W1 ⟨nm,[],[],[],[],[],[]⟩ s.Nr w)
  (tX:W0.grownBy W1 (some b)) (dr:lo≤W0.heap.size∧W0.heap.size≤p2∧p2<g) (ju:op≤31) {tm:Array Value} (bR:tm.size=40) (je:Gh tm [(1,.pointer (some ⟨p1,0,none⟩)),(2,.pointer (some ⟨p2,0,none⟩)),(3,.pointer (some ⟨g,0,none⟩))]) {R:Ending→World→Prop}
  (hR:∀e w,CR lo b NM W0 (lR (bB n) nm s) e w→R e w):BZ.wp Tryz.prog (bodyPost Tryz.prog Tryz.f101 R) ⟨tm,[]⟩ w:=by
 obtain ⟨f1,f2,f3,_⟩:=je
 have k1:=kg f1
 have k2:=kg f2
 have k3:=kg f3
 simp only at k1 k2 k3
 rw[Ic]
 refine wp_seq ?_
 obtain ⟨T8,hT8⟩:∃T,OH=T:=⟨_,rfl⟩
 rw[hT8]
 obtain ⟨Qb,oB⟩:∃Q,bodyPost Tryz.prog Tryz.f101 R=Q:=⟨_,rfl⟩
 rw[oB]
 unfold VQ BZ
 dsimp only[Tryz.f101]
 have LP:aK (fun P w=>aP p1 #[.pointer (some ⟨b,0,none⟩)] 107 P w∧aP p2 #[e0,e1,e2,e3,e4,e5,e6] 64 P w):=(bp _ _ _).and (bp _ _ _)
 refine gU (z:=4) (N:=40) 2 (by kernel_rfl) (fun k=>k+25) (fun k=>[.pointer (some ⟨b,0,none⟩),.pointer (some ⟨b,0,none⟩),undef,.func (.func 125) #[] #[.pointer (some ⟨g,0,none⟩),.pointer (some ⟨p1,0,none⟩)]].getD k undef)
  (fun w=>lD lo b g K (op+1) nm (fun P w=>aP p1 #[.pointer (some ⟨b,0,none⟩)] 107 P w∧aP p2 #[e0,e1,e2,e3,e4,e5,e6] 64 P w) V W1 ⟨nm,[],[],[],[],[],[]⟩ s.Nr w)
  (fun x w=>∃pv,x=.map (some (pv+2))∧lD lo b g K (op+1) nm (fun P w=>(aP p1 #[.pointer (some ⟨b,0,none⟩)] 107 P w∧aP p2 #[e0,e1,e2,e3,e4,e5,e6] 64 P w)∧(aP pv #[.pointer (some ⟨b,0,none⟩)] 107 P w∧aP (pv+1) #[.pointer (some ⟨g,0,none⟩)] 167 P w∧gL (pv+2) (iI pv b) P w)) V W1 ⟨nm,[],[],[],[],[],[]⟩ s.Nr w)
  _ w rfl bR (fun i j _ _ e=>by omega) (fun i hi=>by omega) (by kernel_rfl) (by kernel_rfl) ?_ ?_ ?_ ?_
 ·have hb:=(zE w.heap.size w).drew
  exact h.step LP (h.rd.up hb) (aA b hb) (.refl _)
 ·intro k oh w' hk SG gW bW aV hw
  have dw:w'.cell? ⟨p1,0,none⟩=some (.pointer (some ⟨b,0,none⟩)):=by
   rcases hw with ⟨_,⟨vf,vo,vm,ve,vr,vg,cm,ce,aZ⟩,_⟩|⟨_,pv,_,_,⟨vf,vo,vm,ve,vr,vg,cm,ce,aZ⟩,_⟩
   ·rw[cell_of_row _ _ _ _ _ _ aZ.nx.1.1.1];rfl
   ·rw[cell_of_row _ _ _ _ _ _ aZ.nx.1.1.1.1];rfl
  match k,hk with
  |0,_=>exact aS rfl rfl _ (.tmp 1) rfl ((bW 1 (by intro i hi;omega)).trans k1) (cJ _ dw) ⟨rfl,rfl⟩
  |1,_=>exact aS rfl rfl _ (.tmp 1) rfl ((bW 1 (by intro i hi;omega)).trans k1) (cJ _ dw) ⟨rfl,rfl⟩
  |2,_=>omega
  |3,_=>exact mQ rfl rfl _ _ _ rfl #[] #[.pointer (some ⟨g,0,none⟩),.pointer (some ⟨p1,0,none⟩)] (by simp) (by simp only[List.map_toArray,List.map_cons,List.map_nil,Act.eval];rw[show oh.getD 3 undef=_ from (bW 3 (by intro i hi;omega)).trans k3,show oh.getD 1 undef=_ from (bW 1 (by intro i hi;omega)).trans k1]) ⟨rfl,rfl⟩
 ·intro _ oh w' gW bW aV hw
  refine b9 rfl rfl 124 (CM w') _ _ rfl #[.pointer (some ⟨b,0,none⟩),.pointer (some ⟨g,0,none⟩)] ?_ (B4 w' b g) ?_
  ·simp only[List.map_toArray,List.map_cons,List.map_nil,Act.eval]
   rw[show oh.getD 26 undef=_ from aV 1 (by omega) (by kernel_rfl),show oh.getD 3 undef=_ from (bW 3 (by intro i hi;omega)).trans k3]
   rfl
  ·rintro e w2 ⟨rfl,hb,cn⟩
   exact .inl ⟨_,rfl,_,rfl,w'.heap.size,rfl,hw.join LP ((bp _ _ _).and ((bp _ _ _).and (fC _ _))) hb cn⟩
 ·intro oh w' gW bW cZ hw
  rcases hw with ⟨_,pv,hx,hi⟩|⟨hc,_⟩
  rotate_left
  ·omega
  have IF:aK (fun P w=>(aP p1 #[.pointer (some ⟨b,0,none⟩)] 107 P w∧aP p2 #[e0,e1,e2,e3,e4,e5,e6] 64 P w)∧(aP pv #[.pointer (some ⟨b,0,none⟩)] 107 P w∧aP (pv+1) #[.pointer (some ⟨g,0,none⟩)] 167 P w∧gL (pv+2) (iI pv b) P w)):=LP.and ((bp _ _ _).and ((bp _ _ _).and (fC _ _)))
  have rQ:=RZ (lo:=lo) (g:=g) (K:=K) (op:=op+1) (p1:=p1) (pv:=pv) (nm:=nm) (V:=V) (W:=W1) (mf:=bB n) IF hK.2 (fun P w h=>h.1.1) (fun P w h=>h.2.1) (fun P w h=>h.2.2.1) (fun P w h=>h.2.2.2) (qu n) (fun lo b V W s q1 q2 q3 q4 q5=>hM lo b V W s q1 q2 q3 (by omega) (by omega) q5)
  have aax:∀x s x' s',cj (BY (bB n)) Un x s=.ok (x',s')→kP s s':=fun x s x' s' h=>(lX (DW _ (qu n)) (fun x s x' s' h=>lu h) h).1.iY
  have FW:=wW rQ (fun x s w x' s' hI Iy=>tN (DW _ (qu n)) (fun x s x' s' h=>lu h) (rQ.rd x s w hI).grown Iy) hi
  refine b9 rfl rfl 123 (wR w') _ _ rfl #[.pointer (some ⟨b,0,none⟩),.map (some (pv+2)),.func (.func 125) #[] #[.pointer (some ⟨g,0,none⟩),.pointer (some ⟨p1,0,none⟩)]] ?_ FW ?_
  ·simp only[List.map_toArray,List.map_cons,List.map_nil,Act.eval]
   rw[show oh.getD 25 undef=_ from cZ 0 (by omega) (by omega),show oh.getD 27 undef=_ from hx,show oh.getD 28 undef=_ from cZ 3 (by omega) (by omega)]
   rfl
  ·intro e w2 OZ
   have Dg:∀z,ie (cj (BY (bB n)) Un) ⟨nm,[],[],[],[],[],[]⟩ s.Nr=z→lR (bB n) nm s=(match z with|.error e=>.error e|.ok (x,s3)=>vH x s3):=fun z hz=>by unfold lR;rw[hz];cases z<;>rfl
   rcases OZ.split with ⟨y,hr,rfl,he⟩|⟨x,s3,hr,rfl,Ly⟩
   ·refine .inr ⟨_,rfl,?_⟩
    show Qb (Exit.panic _) _ _
    rw[←oB]
    refine ⟨rfl,hR _ _ ?_⟩
    rw[Dg _ hr]
    exact ⟨rfl,iM tX he (by omega)⟩
   ·refine .inl ⟨_,rfl,?_⟩
    show T8.wp Tryz.prog Qb ⟨oh.setIfInBounds 29 (.tuple #[]),[]⟩ w2
    rw[←hT8,←oB]
    have ib:=(kX aax hr).2
    refine KR (p1:=p1) (p2:=p2) Ly IF (fun P w h=>h.1.1) (fun P w h=>h.1.2) ib tX dr ju (by rw[Array.size_setIfInBounds];exact gW) ⟨?_,?_,?_,trivial⟩ ?_
    ·exact nc (by rw[Array.size_setIfInBounds,gW];omega) (by rw[aB (by omega)];exact (bW 1 (by intro i hi;omega)).trans k1)
    ·exact nc (by rw[Array.size_setIfInBounds,gW];omega) (by rw[aB (by omega)];exact (bW 2 (by intro i hi;omega)).trans k2)
    ·exact nc (by rw[Array.size_setIfInBounds,gW];omega) (by rw[aB (by omega)];exact (bW 3 (by intro i hi;omega)).trans k3)
    ·intro e w3 jD
     refine hR e w3 ?_
     rw[Dg _ hr]
     exact jD
theorem z7 {n:Nat} (hM:Gn n):Gn (n+1):=by
 intro lo b V W s hv h hs ep hn hp
 have eA:=h.low
 have bH:Below W.heap.size W ((W.alloc (.cells #[.pointer (some ⟨b,0,none⟩)] 107)).alloc (.cells #[.string ⟨#[]⟩,.slice none 0 0,.slice none 0 0,.slice none 0 0,.slice none 0 0,.slice none 0 0,.slice none 0 0] 64)):=((zE _ _).alloc (zD _) _).alloc (by rw[zJ];omega) _
 have nT:((W.alloc (.cells #[.pointer (some ⟨b,0,none⟩)] 107)).alloc (.cells #[.string ⟨#[]⟩,.slice none 0 0,.slice none 0 0,.slice none 0 0,.slice none 0 0,.slice none 0 0,.slice none 0 0] 64)).heap[W.heap.size]?=some (.cells #[.pointer (some ⟨b,0,none⟩)] 107 (0,0)):=(Below.heap_alloc _ _ _ (by rw[zJ];omega)).trans (aC _ _)
 have fF:((W.alloc (.cells #[.pointer (some ⟨b,0,none⟩)] 107)).alloc (.cells #[.string ⟨#[]⟩,.slice none 0 0,.slice none 0 0,.slice none 0 0,.slice none 0 0,.slice none 0 0,.slice none 0 0] 64)).heap[W.heap.size+1]?=some (.cells #[.string ⟨#[]⟩,.slice none 0 0,.slice none 0 0,.slice none 0 0,.slice none 0 0,.slice none 0 0,.slice none 0 0] 64 (0,0)):=by
  have:=aC (W.alloc (.cells #[.pointer (some ⟨b,0,none⟩)] 107)) (.cells #[.string ⟨#[]⟩,.slice none 0 0,.slice none 0 0,.slice none 0 0,.slice none 0 0,.slice none 0 0,.slice none 0 0] 64)
  rw[zJ] at this
  exact this
 have l2:W.heap.size+1<((W.alloc (.cells #[.pointer (some ⟨b,0,none⟩)] 107)).alloc (.cells #[.string ⟨#[]⟩,.slice none 0 0,.slice none 0 0,.slice none 0 0,.slice none 0 0,.slice none 0 0,.slice none 0 0] 64)).heap.size:=by simp only[zJ];omega
 have A1:=h.up bH
 have bo:∀w,((W.alloc (.cells #[.pointer (some ⟨b,0,none⟩)] 107)).alloc (.cells #[.string ⟨#[]⟩,.slice none 0 0,.slice none 0 0,.slice none 0 0,.slice none 0 0,.slice none 0 0,.slice none 0 0] 64)).grownBy w (some b)→w.heap[W.heap.size]?=some (.cells #[.pointer (some ⟨b,0,none⟩)] 107 (0,0))∧w.heap[W.heap.size+1]?=some (.cells #[.string ⟨#[]⟩,.slice none 0 0,.slice none 0 0,.slice none 0 0,.slice none 0 0,.slice none 0 0,.slice none 0 0] 64 (0,0))∧w.cell? ⟨W.heap.size,0,none⟩=some (.pointer (some ⟨b,0,none⟩)):=fun w hg=>by
  have e1:=(hg.block W.heap.size (by omega) (by simp;omega)).trans nT
  exact ⟨e1,(hg.block (W.heap.size+1) l2 (by simp;omega)).trans fF,by rw[cell_of_row _ _ _ _ _ _ e1];rfl⟩
 have Qe:=aj bo
 have xV:=aj (aA b bH)
 have HV:=aj hv
 have HS:=aj hs
 have Hn:=aj hn
 have Hn1:=aj ep
 have Hp:=aj hp
 have HM:=aj hM
 have HC:=aj (fe A1)
 have E1:=aj eA
 have Wq:s.op≤32:=by obtain ⟨_,_,_,_,_,h9,_⟩:=h;exact h9
 have c0:=(bo _ (zI _ _)).2.2
 clear nT fF l2 A1 bo bH h hv hs hn ep eA hM
 refine calls_of_wp Tryz.func101 KP ?_
 obtain ⟨tl,nU⟩:∃t,BZ=t:=⟨_,rfl⟩
 rw[nU]
 obtain ⟨Q,hQ⟩:∃Q,bodyPost Tryz.prog Tryz.f101 (CR lo b NM W (bB (n+1) s))=Q:=⟨_,rfl⟩
 rw[hQ]
 unfold KQ
 dsimp only[Tryz.f101]
 simp only[List.size_toArray,List.length_cons,List.length_nil,Nat.reduceAdd,Nat.reduceSub,Array.replicate_succ,Array.replicate_zero,List.push_toArray,List.append_toArray,List.nil_append,List.cons_append]
 go_wp2_with fail
 refine (aa HC).mono ?_
 rintro e w1 ⟨rfl,h1,kk⟩
 have c1:=(aa Qe _ kk).2.2
 have HN:=aj (cY h1 hp)
 have Yr:=aj (lv h1 53)
 have pU:=aj kk
 obtain ⟨_,_,_,_,_,_,o6,_⟩:=h1.cells
 have o6':w1.cell? ⟨b,6,none⟩=some (.int .i64 (s.op:Int)):=o6
 obtain ⟨op,ju⟩:∃op,s.op=op:=⟨_,rfl⟩
 have P3:=aj ju
 rw[ju] at o6' Wq
 clear h1 kk HC c0 o6 ju
 by_cases Xr:op=32
 ·subst Xr
  go_wp2_with fail
  refine (aa Yr).mono ?_
  rintro e w2 ⟨rfl,bH⟩
  show Q (Exit.panic _) _ _
  rw[←hQ]
  refine ⟨rfl,?_⟩
  unfold bB
  rw[if_pos (aa P3)]
  exact ⟨rfl,((aa xV).trans (aa pU)).trans (aA b bH)⟩
 ·have q32:((op:Int)==32)=false:=beq_eq_false_iff_ne.2 (by omega)
  have h31:op≤31:=by omega
  have T3:Hid (bB (n+1) s=match bE s.begun with|.error e=>.error e|.ok (_,s1)=>match cq s1 with|.error e=>.error e|.ok (nm,s2)=>lR (bB n) nm s2):=by
   show _=_
   conv=>lhs;unfold bB
   rw[if_neg (by rw[aa P3];exact Xr)]
   cases bE s.begun with
   |error e=>rfl
   |ok y =>
    simp only
    all_goals (cases cq y.2<;>rfl)
  clear Xr Wq
  go_wp2_with fail
  refine (aa HN).mono ?_
  intro e w2 hw
  rcases hw.split with ⟨y,hr,rfl,hg⟩|⟨_,s1,hr,rfl,h2,hg⟩
  ·show Q (Exit.panic _) _ _
   rw[←hQ]
   refine ⟨rfl,?_⟩
   rw[aa T3,hr]
   exact ⟨rfl,((aa xV).trans (aa pU)).trans hg⟩
  ·have pT:=aj ((aa pU).trans hg)
   have XW:=aj (de (s:=s.begun) hr)
   have pW:Hid (bB (n+1) s=match cq s1 with|.error e=>.error e|.ok (nm,s2)=>lR (bB n) nm s2):=by show _=_;rw[aa T3,hr]
   have Nd:=aj (j5 h2 ((qj hr).sm (aa HS)))
   have c2:=(aa Qe _ ((aa pU).trans hg)).2.2
   clear hw hr h2 hg HN T3 c1 o6' Yr
   go_wp2_with fail
   refine (aa Nd).mono ?_
   intro e w3 hw
   rcases hw.split with ⟨y,hr,rfl,hg⟩|⟨nm,s2,hr,rfl,h3,hg⟩
   ·show Q (Exit.panic _) _ _
    rw[←hQ]
    refine ⟨rfl,?_⟩
    rw[aa pW,hr]
    exact ⟨rfl,((aa xV).trans (aa pT)).trans hg⟩
   ·have eY:=(aa pT).trans hg
    obtain ⟨k1,k2,_⟩:=aa Qe _ eY
    have eA:=aa E1
    have Cc:W.heap.size+2≤w3.heap.size:=by
     have:=(zA k2).1
     omega
    have O3:Gt s s2:=(show Gt s s1 from aa XW).dL (kD hr).iY
    have OU:s2.op=op:=O3.iY.op.trans (aa P3)
    have eR:=(zE w3.heap.size w3).alloc (zD _) (.cells #[.string nm,.slice none 0 0,.slice none 0 0,.slice none 0 0,.slice none 0 0,.slice none 0 0,.slice none 0 0] 64)
    have h4:=h3.up eR
    obtain ⟨h5,g5⟩:=Qr h4 (n:=op+1) (by omega)
    have hs5:{ s2 with op:=op+1 }=s2.Nr:=by unfold aI.Nr;rw[OU]
    rw[hs5] at h5
    have aZ:Ap lo b w3.heap.size 64 nm (E0 ⟨nm,[],[],[],[],[],[]⟩ (.slice none 0 0) (.slice none 0 0) (.slice none 0 0) (.slice none 0 0) (.slice none 0 0) (.slice none 0 0) [] []) (rI w3.heap.size (fun P w=>aP W.heap.size #[.pointer (some ⟨b,0,none⟩)] 107 P w∧aP (W.heap.size+1) #[.string ⟨#[]⟩,.slice none 0 0,.slice none 0 0,.slice none 0 0,.slice none 0 0,.slice none 0 0,.slice none 0 0] 64 P w) ⟨nm,[],[],[],[],[],[]⟩ [] []) V w3 s2 (w3.alloc (.cells #[.string nm,.slice none 0 0,.slice none 0 0,.slice none 0 0,.slice none 0 0,.slice none 0 0,.slice none 0 0] 64)):=by
     have rj:∀(i:Nat) (sl:Slot),(E0 ⟨nm,[],[],[],[],[],[]⟩ (.slice none 0 0) (.slice none 0 0) (.slice none 0 0) (.slice none 0 0) (.slice none 0 0) (.slice none 0 0) [] [])[i]?=some sl→sl.v=.slice none 0 0∧sl.n=0∧sl.xs=[]:=fun i sl hi=>by
      match i,hi with
      |0,hi=>obtain rfl:=zC hi;exact ⟨rfl,rfl,rfl⟩
      |1,hi=>obtain rfl:=zC hi;exact ⟨rfl,rfl,rfl⟩
      |2,hi=>obtain rfl:=zC hi;exact ⟨rfl,rfl,rfl⟩
      |3,hi=>obtain rfl:=zC hi;exact ⟨rfl,rfl,rfl⟩
      |4,hi=>obtain rfl:=zC hi;exact ⟨rfl,rfl,rfl⟩
      |5,hi=>obtain rfl:=zC hi;exact ⟨rfl,rfl,rfl⟩
      |k+6,hi=>cases hi
     have LB:∀k,k≠b→k≠w3.heap.size→Fz (E0 ⟨nm,[],[],[],[],[],[]⟩ (.slice none 0 0) (.slice none 0 0) (.slice none 0 0) (.slice none 0 0) (.slice none 0 0) (.slice none 0 0) [] []) w3.heap.size b k:=fun k q1 q2=>⟨q1,q2,fun i sl hi e=>by
      rw[(rj i sl hi).1] at e
      cases e⟩
     refine ⟨⟨aC _ _,fun i sl hi=>?_,fun i j a c eo ha hc k hk=>?_⟩,⟨⟨⟨(eR.block _ (by omega)).trans k1,LB _ (by omega) (by omega)⟩,⟨(eR.block _ (by omega)).trans k2,LB _ (by omega) (by omega)⟩⟩,.nil,.nil⟩,h4,by have:=h3.low;omega,⟨eR.os,eR.tape,eR.output,eR.size,fun k hk _=>eR.block k hk⟩,?_⟩
     ·obtain ⟨q1,q2,q3⟩:=rj i sl hi
      exact ⟨by rw[q2,q3];simp,.inl ⟨q1,q2⟩⟩
     ·rw[(rj i a ha).1] at hk
      cases hk
     ·exact ((aa HV).step ((aa xV).trans eY)).step (aA b eR)
    have wB:=aZ.read (rI.st ((bp _ _ _).and (bp _ _ _)) _ _ _) h5 g5
    have cc:=O3.lt (aa Hp)
    have HI:Hid (lD lo b w3.heap.size s2.ts.length (op+1) nm (fun P w=>aP W.heap.size #[.pointer (some ⟨b,0,none⟩)] 107 P w∧aP (W.heap.size+1) #[.string ⟨#[]⟩,.slice none 0 0,.slice none 0 0,.slice none 0 0,.slice none 0 0,.slice none 0 0,.slice none 0 0] 64 P w) V w3 ⟨nm,[],[],[],[],[],[]⟩ s2.Nr ((w3.alloc (.cells #[.string nm,.slice none 0 0,.slice none 0 0,.slice none 0 0,.slice none 0 0,.slice none 0 0,.slice none 0 0] 64)).setCell ⟨b,6,none⟩ (.int .i64 ((op+1:Nat):Int)))):=by
     have h7:=aa Hn
     have h8:s2.Nr.ts.length=s2.ts.length:=rfl
     exact ⟨rfl,⟨_,_,_,_,_,_,_,_,wB⟩,⟨⟨by simp only[List.length_nil];omega,by simp only[List.length_nil];omega,by simp only[List.length_nil];omega,by simp only[List.length_nil];omega,by simp only[List.length_nil];omega,by simp only[List.length_nil];omega⟩,O3.iY.sm (aa HS),by omega,by show s2.op+1=op+1;rw[OU]⟩⟩
    obtain ⟨_,_,_,_,_,_,o6,of⟩:=h4.cells
    rw[OU] at o6
    have f6:=of 6
    have c4:(w3.alloc (.cells #[.string nm,.slice none 0 0,.slice none 0 0,.slice none 0 0,.slice none 0 0,.slice none 0 0,.slice none 0 0] 64)).cell? ⟨W.heap.size,0,none⟩=some (.pointer (some ⟨b,0,none⟩)):=by rw[cell_of_row _ _ _ _ _ _ ((eR.block _ (by omega)).trans k1)];rfl
    have xj:Hid (bB (n+1) s=lR (bB n) nm s2):=by show _=_;rw[aa pW,hr]
    have Ds:=aj ((aa xV).trans eY)
    have Hz:=aj Cc
    have HKl:Hid (s2.ts.length≤n∧s2.ts.length≤16384):=by have:=aa Hn;have:=aa Hn1;exact ⟨by omega,by omega⟩
    have e1:((op+1:Nat):Int)=(op:Int)+1:=by omega
    rw[e1] at HI
    have p31:(op:Int)≤31:=by omega
    clear hw hr h3 hg eY k1 k2 Cc eR aZ wB Nd pW eA c2 h4 h5 g5 hs5 of O3 OU cc e1 XW
    go_wp2
    rw[←nU,←hQ]
    refine KS (p1:=W.heap.size) (p2:=W.heap.size+1) (aa HM) (aa HKl) (aa HI) (aa Ds) ⟨(aa E1).2,by omega,by have:=aa Hz;omega⟩ h31 rfl ⟨rfl,rfl,rfl,trivial⟩ ?_
    intro e w5 jD
    rw[aa xj]
    exact jD
theorem vI:∀n,Gn n
 |0=>fun _ _ _ _ s _ _ _ h1 _ h2=>absurd h2 (by omega)
 |n+1=>z7 (vI n)
end Go.Proofs.YtmlphohdcejniaaGreatDoor

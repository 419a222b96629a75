import Derived.Test.YtjophoclfccmcaaGreatDoorM27
set_option maxHeartbeats 4000000
set_option maxRecDepth 100000
namespace Go.Proofs.YtjophoclfccmcaaGreatDoor
open Go.RowKit
attribute [local go_sem ↓] Go.wp_at_zero Go.wp_at_succ
theorem Sh {tm:Array Value} (h:tm.size=40):∃u:Nat→Value,tm=#[u 0,u 1,u 2,u 3,u 4,u 5,u 6,u 7,u 8,u 9,u 10,u 11,u 12,u 13,u 14,u 15,u 16,u 17,u 18,u 19,u 20,u 21,u 22,u 23,u 24,u 25,u 26,u 27,u 28,u 29,u 30,u 31,u 32,u 33,u 34,u 35,u 36,u 37,u 38,u 39]:=by
 refine ⟨fun i=>tm.getD i undef,?_⟩
 have e:tm=((List.range 40).map fun i=>tm.getD i undef).toArray:=by
  apply Array.ext
  ·simp[h]
  ·intro i h1 h2
   simp[Array.getD,h1]
 exact e.trans rfl
theorem jY:(Tryz.prog.info? 49).map (·.size)=some 7:=by kernel_rfl
theorem cK {w:World}{g:Nat}{a0 a1 a2 a3 a4 a5 a6:Value}{t:TypeId} (h:w.heap[g]?=some (.cells #[a0,a1,a2,a3,a4,a5,a6] t (0,0))):(w.cell? ⟨g,0,none⟩=some a0∧w.cell? ⟨g,1,none⟩=some a1∧w.cell? ⟨g,2,none⟩=some a2∧w.cell? ⟨g,3,none⟩=some a3∧w.cell? ⟨g,4,none⟩=some a4∧w.cell? ⟨g,5,none⟩=some a5∧w.cell? ⟨g,6,none⟩=some a6)∧∀j,w.frozen? ⟨g,j,none⟩=false:=by
 refine ⟨⟨?_,?_,?_,?_,?_,?_,?_⟩,fun j=>by simp[World.frozen?,h]⟩<;>rw[cell_of_row _ _ _ _ _ _ h]<;>rfl
def JZ (w:World) (g:Nat) (a0 a1 a2 a3 a4 a5 a6:Value):World:=((((((w.setCell ⟨g,0,none⟩ a0).setCell ⟨g,1,none⟩ a1).setCell ⟨g,2,none⟩ a2).setCell ⟨g,3,none⟩ a3).setCell ⟨g,4,none⟩ a4).setCell ⟨g,5,none⟩ a5).setCell ⟨g,6,none⟩ a6
theorem dJ {w:World}{g:Nat}{b0 b1 b2 b3 b4 b5 b6:Value}{t:TypeId} (h:w.heap[g]?=some (.cells #[b0,b1,b2,b3,b4,b5,b6] t (0,0))) (a0 a1 a2 a3 a4 a5 a6:Value):(JZ w g a0 a1 a2 a3 a4 a5 a6).heap[g]?=some (.cells #[a0,a1,a2,a3,a4,a5,a6] t (0,0))∧w.grownBy (JZ w g a0 a1 a2 a3 a4 a5 a6) (some g):=by
 obtain ⟨h0,g0⟩:=aC (j:=0) h a0
 obtain ⟨h1,g1⟩:=aC (j:=1) h0 a1
 obtain ⟨h2,g2⟩:=aC (j:=2) h1 a2
 obtain ⟨h3,g3⟩:=aC (j:=3) h2 a3
 obtain ⟨h4,g4⟩:=aC (j:=4) h3 a4
 obtain ⟨h5,g5⟩:=aC (j:=5) h4 a5
 obtain ⟨h6,g6⟩:=aC (j:=6) h5 a6
 exact ⟨h6,(((((g0.trans g1).trans g2).trans g3).trans g4).trans g5).trans g6⟩
theorem Th {lo b n:Nat}{W:World}{s:ay} (h:Rd lo W b s) (hn:n≤32):Rd lo (W.setCell ⟨b,6,none⟩ (.int .i64 (n:Int))) b { s with op:=n }∧W.grownBy (W.setCell ⟨b,6,none⟩ (.int .i64 (n:Int))) (some b):=by
 obtain ⟨v,h1,h2,h3,h4,h5,h6⟩:=h
 obtain ⟨k1,k2⟩:=aC (j:=6) h1 (.int .i64 (n:Int))
 exact ⟨⟨v,k1,h2.gu h3.2 k2,⟨h3.1,Nat.le_trans h3.2 k2.size⟩,h4,hn,h6⟩,k2⟩
noncomputable def DF:Code:=match Tryz.f103.body with
 |some (.seq _ (.seq _ (.seq _ (.seq _ (.seq _ (.seq _ t))))))=>t
 |_=>.skip
noncomputable def Nf (t:Code):Code:=match Tryz.f103.body with
 |some (.seq a (.seq b (.seq c (.seq d (.seq e (.seq f _))))))=>.seq a (.seq b (.seq c (.seq d (.seq e (.seq f t)))))
 |_=>.skip
theorem Nb:Tryz.f103.body=some (Nf DF):=rfl
noncomputable def Rv:Code:=match DF with
 |.seq _ t=>t
 |_=>.skip
noncomputable def YQ:Code:=match DF with
 |.seq a _=>a
 |_=>.skip
theorem Kb:DF=.seq YQ Rv:=rfl
theorem Ng {lo b g K op p1 p2:Nat}{nm:ByteArray}{N:(Nat→Prop)→World→Prop}{V W0 W1 w:World}{x:Mp}{s:ay}{e0 e1 e2 e3 e4 e5 e6:Value} (h:mP lo b g K (op+1) nm N V W1 x s w) (hN:aQ N) (pN:∀P w,N P w→aW p1 #[.pointer (some ⟨b,0,none⟩)] 74 P w) (fh:∀P w,N P w→aW p2 #[e0,e1,e2,e3,e4,e5,e6] 49 P w)
  (bD:aJ s.here 4 ⟨#[125]⟩=true) (IG:W0.grownBy W1 (some b)) (ji:lo≤W0.heap.size∧W0.heap.size≤p2∧p2<g) (jU:op≤31) {tm:Array Value} (ck:tm.size=40) (j7:Jc tm [(1,.pointer (some ⟨p1,0,none⟩)),(2,.pointer (some ⟨p2,0,none⟩)),(3,.pointer (some ⟨g,0,none⟩))]) {R:Ending→World→Prop}
  (hR:∀e w,CR lo b NM W0 (tJ x s) e w→R e w):Rv.wp Tryz.prog (bodyPost Tryz.prog Tryz.f103 R) ⟨tm,[]⟩ w:=by
 have HR:=ab hR
 have HI:=ab h
 obtain ⟨jq,⟨vf,vo,vm,ve,vr,vg,cm,ce,bd⟩,hk⟩:=h
 obtain ⟨fa,fc,q1⟩:=bZ (bd.bx.own 0 _ rfl)
 obtain ⟨oa,oc,q2⟩:=bZ (bd.bx.own 1 _ rfl)
 obtain ⟨ma,mc,q3⟩:=bZ (bd.bx.own 2 _ rfl)
 obtain ⟨ea,ec,q4⟩:=bZ (bd.bx.own 3 _ rfl)
 obtain ⟨ra,rc,q5⟩:=bZ (bd.bx.own 4 _ rfl)
 obtain ⟨ga,gc,q6⟩:=bZ (bd.bx.own 5 _ rfl)
 simp only at q1 q2 q3 q4 q5 q6
 subst q1 q2 q3 q4 q5 q6
 have c1:w.cell? ⟨p1,0,none⟩=some (.pointer (some ⟨b,0,none⟩)):=by rw[cell_of_row _ _ _ _ _ _ (pN _ _ bd.nx.1).1];rfl
 have HA:=ab bd
 have HN:=ab (tU.st (g:=g) hN x cm ce)
 have Xe:=ab pN
 have E6:=ab fh
 have Ud:=ab IG
 have P1:=ab ji
 have Hnm:=ab jq
 have Hop:=ab hk.2.2.2
 have HC:=ab (dS bd.rd (bN bd.rd.grown (by rw[sD bD];decide)))
 obtain ⟨u,rfl⟩:=Sh ck
 obtain ⟨f1,f2,f3,_⟩:=j7
 replace f1:u 1=.pointer (some ⟨p1,0,none⟩):=zC f1
 replace f2:u 2=.pointer (some ⟨p2,0,none⟩):=zC f2
 replace f3:u 3=.pointer (some ⟨g,0,none⟩):=zC f3
 rw[f1,f2,f3]
 clear f1 f2 f3 ck hR bd hN pN fh bD IG ji hk jq
 obtain ⟨Q,hQ⟩:∃Q,bodyPost Tryz.prog Tryz.f103 R=Q:=⟨_,rfl⟩
 rw[hQ]
 unfold Rv DF
 dsimp only[Tryz.f103]
 go_wp2_with fail
 refine (aa HC).mono ?_
 intro e w2 hw
 rcases hw.split with ⟨y,hr,rfl,hg⟩|⟨_,s4,hr,rfl,h4,hg⟩
 ·show Q (Exit.panic _) _ _
  rw[←hQ]
  refine ⟨rfl,aa HR _ _ ?_⟩
  unfold tJ
  rw[hr]
  exact ⟨rfl,jO (aa Ud) ((aa HI).er hg) (by have:=aa P1;omega)⟩
 ·have ji:=aa P1
  have yS:=(aa HA).read (aa HN) h4 hg
  obtain ⟨_,_,_,_,_,_,o6,of⟩:=h4.cells
  have f6:=of 6
  have Vx:s4.op=op+1:=(nd hr).1.trans (aa Hop)
  rw[Vx] at o6
  obtain ⟨m,hm⟩:∃m,op+1=m:=⟨_,rfl⟩
  rw[hm] at o6
  have m1:(1:Int)≤(m:Int):=by omega
  have m2:(m:Int)≤32:=by omega
  have hm1:((op:Nat):Int)=(m:Int)-1:=by omega
  obtain ⟨h5,g5⟩:=Th h4 (n:=op) (by omega)
  rw[hm1] at h5 g5
  have yR:=yS.read (aa HN) h5 g5
  have c14:w2.cell? ⟨p1,0,none⟩=some (.pointer (some ⟨b,0,none⟩)):=by rw[cell_of_row _ _ _ _ _ _ (aa Xe _ _ yS.nx.1).1];rfl
  obtain ⟨⟨d0,d1,d2,d3,d4,d5,d6⟩,_⟩:=cK yR.bx.lA
  have yJ:=(aa E6 _ _ yR.nx.1).1
  obtain ⟨⟨y0,y1,y2,y3,y4,y5,y6⟩,yf⟩:=cK yJ
  have f20:=yf 0
  have f21:=yf 1
  have f22:=yf 2
  have f23:=yf 3
  have f24:=yf 4
  have f25:=yf 5
  have f26:=yf 6
  obtain ⟨r1,r2⟩:=dJ yJ (.string nm) (.slice fa x.fs.length fc) (.slice oa x.os.length oc) (.slice ma x.ms.length mc) (.slice ea x.es.length ec) (.slice ra x.rs.length rc) (.slice ga x.gs.length gc)
  have cL:∀(i:Nat) (sl:Slot),(td x (.slice fa x.fs.length fc) (.slice oa x.os.length oc) (.slice ma x.ms.length mc) (.slice ea x.es.length ec) (.slice ra x.rs.length rc) (.slice ga x.gs.length gc) cm ce)[i]?=some sl→je (fun k=>W0.heap.size≤k) (JZ (w2.setCell ⟨b,6,none⟩ (.int .i64 ((m:Int)-1))) p2 (.string nm) (.slice fa x.fs.length fc) (.slice oa x.os.length oc) (.slice ma x.ms.length mc) (.slice ea x.es.length ec) (.slice ra x.rs.length rc) (.slice ga x.gs.length gc)) sl.t sl.sz sl.v sl.n sl.xs:=fun i sl hi=>by
   have h1:=yR.bx.own i sl hi
   refine ⟨kr (World.ownsRow.kept h1 r2 ?_) (Nat.zero_le _),fun k hk=>?_⟩
   ·right
    intro e
    have:=(h1.lt p2 e).1
    omega
   ·have:=(h1.lt k hk).1
    omega
  have yL:wZ (fun k=>Fz (td x (.slice fa x.fs.length fc) (.slice oa x.os.length oc) (.slice ma x.ms.length mc) (.slice ea x.es.length ec) (.slice ra x.rs.length rc) (.slice ga x.gs.length gc) cm ce) g b k∧g≤k) (fun k=>W0.heap.size≤k) (w2.setCell ⟨b,6,none⟩ (.int .i64 ((m:Int)-1))) (JZ (w2.setCell ⟨b,6,none⟩ (.int .i64 ((m:Int)-1))) p2 (.string nm) (.slice fa x.fs.length fc) (.slice oa x.os.length oc) (.slice ma x.ms.length mc) (.slice ea x.es.length ec) (.slice ra x.rs.length rc) (.slice ga x.gs.length gc)):=fun k hk hl=>⟨by omega,r2.block k hl (by simp;omega)⟩
  have HE:Hid (R (.returned (.agg #[.string nm,.slice fa x.fs.length fc,.slice oa x.os.length oc,.slice ma x.ms.length mc,.slice ea x.es.length ec,.slice ra x.rs.length rc,.slice ga x.gs.length gc])) (JZ (w2.setCell ⟨b,6,none⟩ (.int .i64 ((m:Int)-1))) p2 (.string nm) (.slice fa x.fs.length fc) (.slice oa x.os.length oc) (.slice ma x.ms.length mc) (.slice ea x.es.length ec) (.slice ra x.rs.length rc) (.slice ga x.gs.length gc))):=by
   refine aa HR _ _ ?_
   unfold tJ
   rw[hr]
   have hs4:s4.Eg={ s4 with op:=op }:=by unfold ay.Eg;rw[Vx];rfl
   show CR lo b NM W0 (.ok (x.done,s4.Eg)) _ _
   rw[hs4]
   refine ⟨_,rfl,⟨_,rfl,?_⟩,hJ h5 r2 (by omega),dM (jO (aa Ud) yR.sv (by omega)) r2 (by omega)⟩
   have Oi:=aa Hnm
   unfold Mp.done
   rw[Oi]
   exact .cons (cL 0 _ rfl) (cL 1 _ rfl) (cL 2 _ rfl) (eX _ _ _ _ _ _ yL yR.nx.2.1) (cL 3 _ rfl) (eO _ _ _ _ _ _ yL yR.nx.2.2) (cL 4 _ rfl) (cL 5 _ rfl) .nil
  have R1:=ab r1
  have c15:(w2.setCell ⟨b,6,none⟩ (.int .i64 ((m:Int)-1))).cell? ⟨p1,0,none⟩=some (.pointer (some ⟨b,0,none⟩)):=by rw[cell_of_row _ _ _ _ _ _ (aa Xe _ _ yR.nx.1).1];rfl
  unfold JZ at HE R1
  clear hw hr h4 hg yS yR yf r1 r2 cL yL HC c1 h5 g5 yJ of Vx hm hm1 ji jU
  go_wp2
  rw[←hQ]
  exact bodyPost_ret (results_cell_row rfl _ _ p2 49 #[.string nm,.slice fa x.fs.length fc,.slice oa x.os.length oc,.slice ma x.ms.length mc,.slice ea x.es.length ec,.slice ra x.rs.length rc,.slice ga x.gs.length gc] (0,0) _ rfl (aa R1) Tryz.underlying49 rfl jY) rfl (aa HE)
def Jj (n:Nat):Prop:=∀lo b V W s,Env V W b→Rd lo W b s→Sm s→s.ts.length≤n→s.ts.length≤16384→0<s.ts.length→Calls Tryz.prog 103 #[.pointer (some ⟨b,0,none⟩)] W (CR lo b NM W (bj n s))
theorem Nh {lo b g K op p1 p2 n:Nat}{nm:ByteArray}{V W0 W1 w:World}{s:ay}{e0 e1 e2 e3 e4 e5 e6:Value} (hM:Jj n) (hK:K≤n∧K≤16384) (h:mP lo b g K (op+1) nm (fun P w=>aW p1 #[.pointer (some ⟨b,0,none⟩)] 74 P w∧aW p2 #[e0,e1,e2,e3,e4,e5,e6] 49 P w) V W1 ⟨nm,[],[],[],[],[],[]⟩ s.CE w)
  (IG:W0.grownBy W1 (some b)) (ji:lo≤W0.heap.size∧W0.heap.size≤p2∧p2<g) (jU:op≤31) {tm:Array Value} (ck:tm.size=40) (j7:Jc tm [(1,.pointer (some ⟨p1,0,none⟩)),(2,.pointer (some ⟨p2,0,none⟩)),(3,.pointer (some ⟨g,0,none⟩))]) {R:Ending→World→Prop}
  (hR:∀e w,CR lo b NM W0 (lR (bj n) nm s) e w→R e w):DF.wp Tryz.prog (bodyPost Tryz.prog Tryz.f103 R) ⟨tm,[]⟩ w:=by
 obtain ⟨f1,f2,f3,_⟩:=j7
 have k1:=lp f1
 have k2:=lp f2
 have k3:=lp f3
 simp only at k1 k2 k3
 rw[Kb]
 refine wp_seq ?_
 obtain ⟨T8,hT8⟩:∃T,Rv=T:=⟨_,rfl⟩
 rw[hT8]
 obtain ⟨Qb,ql⟩:∃Q,bodyPost Tryz.prog Tryz.f103 R=Q:=⟨_,rfl⟩
 rw[ql]
 unfold YQ DF
 dsimp only[Tryz.f103]
 have Ox:aQ (fun P w=>aW p1 #[.pointer (some ⟨b,0,none⟩)] 74 P w∧aW p2 #[e0,e1,e2,e3,e4,e5,e6] 49 P w):=(bp _ _ _).and (bp _ _ _)
 refine iS (z:=4) (N:=40) 2 (by kernel_rfl) (fun k=>k+25) (fun k=>[.pointer (some ⟨b,0,none⟩),.pointer (some ⟨b,0,none⟩),undef,.func (.func 126) #[] #[.pointer (some ⟨g,0,none⟩),.pointer (some ⟨p1,0,none⟩)]].getD k undef)
  (fun w=>mP lo b g K (op+1) nm (fun P w=>aW p1 #[.pointer (some ⟨b,0,none⟩)] 74 P w∧aW p2 #[e0,e1,e2,e3,e4,e5,e6] 49 P w) V W1 ⟨nm,[],[],[],[],[],[]⟩ s.CE w)
  (fun x w=>∃pv,x=.map (some (pv+2))∧mP lo b g K (op+1) nm (fun P w=>(aW p1 #[.pointer (some ⟨b,0,none⟩)] 74 P w∧aW p2 #[e0,e1,e2,e3,e4,e5,e6] 49 P w)∧(aW pv #[.pointer (some ⟨b,0,none⟩)] 74 P w∧aW (pv+1) #[.pointer (some ⟨g,0,none⟩)] 158 P w∧iJ (pv+2) (jH pv b) P w)) V W1 ⟨nm,[],[],[],[],[],[]⟩ s.CE w)
  _ w rfl ck (fun i j _ _ e=>by omega) (fun i hi=>by omega) (by kernel_rfl) (by kernel_rfl) ?_ ?_ ?_ ?_
 ·have hb:=(zE w.heap.size w).drew
  exact h.step Ox (h.rd.up hb) (aD b hb) (.refl _)
 ·intro k pY w' hk VD iV cA a8 hw
  have dD:w'.cell? ⟨p1,0,none⟩=some (.pointer (some ⟨b,0,none⟩)):=by
   rcases hw with ⟨_,⟨vf,vo,vm,ve,vr,vg,cm,ce,bd⟩,_⟩|⟨_,pv,_,_,⟨vf,vo,vm,ve,vr,vg,cm,ce,bd⟩,_⟩
   ·rw[cell_of_row _ _ _ _ _ _ bd.nx.1.1.1];rfl
   ·rw[cell_of_row _ _ _ _ _ _ bd.nx.1.1.1.1];rfl
  match k,hk with
  |0,_=>exact aY rfl rfl _ (.tmp 1) rfl ((cA 1 (by intro i hi;omega)).trans k1) (dh _ dD) ⟨rfl,rfl⟩
  |1,_=>exact aY rfl rfl _ (.tmp 1) rfl ((cA 1 (by intro i hi;omega)).trans k1) (dh _ dD) ⟨rfl,rfl⟩
  |2,_=>omega
  |3,_=>exact nX rfl rfl _ _ _ rfl #[] #[.pointer (some ⟨g,0,none⟩),.pointer (some ⟨p1,0,none⟩)] (by simp) (by simp only[List.map_toArray,List.map_cons,List.map_nil,Act.eval];rw[show pY.getD 3 undef=_ from (cA 3 (by intro i hi;omega)).trans k3,show pY.getD 1 undef=_ from (cA 1 (by intro i hi;omega)).trans k1]) ⟨rfl,rfl⟩
 ·intro _ pY w' iV cA a8 hw
  refine cF rfl rfl 125 (Eo w') _ _ rfl #[.pointer (some ⟨b,0,none⟩),.pointer (some ⟨g,0,none⟩)] ?_ (DG w' b g) ?_
  ·simp only[List.map_toArray,List.map_cons,List.map_nil,Act.eval]
   rw[show pY.getD 26 undef=_ from a8 1 (by omega) (by kernel_rfl),show pY.getD 3 undef=_ from (cA 3 (by intro i hi;omega)).trans k3]
   rfl
  ·rintro e w2 ⟨rfl,hb,eP⟩
   exact .inl ⟨_,rfl,_,rfl,w'.heap.size,rfl,hw.join Ox ((bp _ _ _).and ((bp _ _ _).and (fR _ _))) hb eP⟩
 ·intro pY w' iV cA dA hw
  rcases hw with ⟨_,pv,hx,hi⟩|⟨hc,_⟩
  rotate_left
  ·omega
  have KJ:aQ (fun P w=>(aW p1 #[.pointer (some ⟨b,0,none⟩)] 74 P w∧aW p2 #[e0,e1,e2,e3,e4,e5,e6] 49 P w)∧(aW pv #[.pointer (some ⟨b,0,none⟩)] 74 P w∧aW (pv+1) #[.pointer (some ⟨g,0,none⟩)] 158 P w∧iJ (pv+2) (jH pv b) P w)):=Ox.and ((bp _ _ _).and ((bp _ _ _).and (fR _ _)))
  have uf:=UW (lo:=lo) (g:=g) (K:=K) (op:=op+1) (p1:=p1) (pv:=pv) (nm:=nm) (V:=V) (W:=W1) (mf:=bj n) KJ hK.2 (fun P w h=>h.1.1) (fun P w h=>h.2.1) (fun P w h=>h.2.2.1) (fun P w h=>h.2.2.2) (kX n) (fun lo b V W s q1 q2 q3 q4 q5=>hM lo b V W s q1 q2 q3 (by omega) (by omega) q5)
  have abB:∀x s x' s',bU (mz (bj n)) ER x s=.ok (x',s')→jk s s':=fun x s x' s' h=>(gX (yw _ (kX n)) (fun x s x' s' h=>jP h) h).1.gi
  have KF:=zk uf (fun x s w x' s' hI yG=>xd (yw _ (kX n)) (fun x s x' s' h=>jP h) (uf.rd x s w hI).grown yG) hi
  refine cF rfl rfl 124 (zg w') _ _ rfl #[.pointer (some ⟨b,0,none⟩),.map (some (pv+2)),.func (.func 126) #[] #[.pointer (some ⟨g,0,none⟩),.pointer (some ⟨p1,0,none⟩)]] ?_ KF ?_
  ·simp only[List.map_toArray,List.map_cons,List.map_nil,Act.eval]
   rw[show pY.getD 25 undef=_ from dA 0 (by omega) (by omega),show pY.getD 27 undef=_ from hx,show pY.getD 28 undef=_ from dA 3 (by omega) (by omega)]
   rfl
  ·intro e w2 RZ
   have TI:∀z,jj (bU (mz (bj n)) ER) ⟨nm,[],[],[],[],[],[]⟩ s.CE=z→lR (bj n) nm s=(match z with|.error e=>.error e|.ok (x,s3)=>tJ x s3):=fun z hz=>by unfold lR;rw[hz];cases z<;>rfl
   rcases RZ.split with ⟨y,hr,rfl,he⟩|⟨x,s3,hr,rfl,ZJ⟩
   ·refine .inr ⟨_,rfl,?_⟩
    show Qb (Exit.panic _) _ _
    rw[←ql]
    refine ⟨rfl,hR _ _ ?_⟩
    rw[TI _ hr]
    exact ⟨rfl,jO IG he (by omega)⟩
   ·refine .inl ⟨_,rfl,?_⟩
    show T8.wp Tryz.prog Qb ⟨pY.setIfInBounds 29 (.tuple #[]),[]⟩ w2
    rw[←hT8,←ql]
    have bD:=(mq abB hr).2
    refine Ng (p1:=p1) (p2:=p2) ZJ KJ (fun P w h=>h.1.1) (fun P w h=>h.1.2) bD IG ji jU (by rw[Array.size_setIfInBounds];exact iV) ⟨?_,?_,?_,trivial⟩ ?_
    ·exact oN (by rw[Array.size_setIfInBounds,iV];omega) (by rw[aK (by omega)];exact (cA 1 (by intro i hi;omega)).trans k1)
    ·exact oN (by rw[Array.size_setIfInBounds,iV];omega) (by rw[aK (by omega)];exact (cA 2 (by intro i hi;omega)).trans k2)
    ·exact oN (by rw[Array.size_setIfInBounds,iV];omega) (by rw[aK (by omega)];exact (cA 3 (by intro i hi;omega)).trans k3)
    ·intro e w3 kz
     refine hR e w3 ?_
     rw[TI _ hr]
     exact kz
theorem BJ {n:Nat} (hM:Jj n):Jj (n+1):=by
 intro lo b V W s hv h hs iK hn hp
 have cB:=h.low
 have br:Below W.heap.size W ((W.alloc (.cells #[.pointer (some ⟨b,0,none⟩)] 74)).alloc (.cells #[.string ⟨#[]⟩,.slice none 0 0,.slice none 0 0,.slice none 0 0,.slice none 0 0,.slice none 0 0,.slice none 0 0] 49)):=((zE _ _).alloc (zD _) _).alloc (by rw[zJ];omega) _
 have jo:((W.alloc (.cells #[.pointer (some ⟨b,0,none⟩)] 74)).alloc (.cells #[.string ⟨#[]⟩,.slice none 0 0,.slice none 0 0,.slice none 0 0,.slice none 0 0,.slice none 0 0,.slice none 0 0] 49)).heap[W.heap.size]?=some (.cells #[.pointer (some ⟨b,0,none⟩)] 74 (0,0)):=(Below.heap_alloc _ _ _ (by rw[zJ];omega)).trans (aH _ _)
 have eL:((W.alloc (.cells #[.pointer (some ⟨b,0,none⟩)] 74)).alloc (.cells #[.string ⟨#[]⟩,.slice none 0 0,.slice none 0 0,.slice none 0 0,.slice none 0 0,.slice none 0 0,.slice none 0 0] 49)).heap[W.heap.size+1]?=some (.cells #[.string ⟨#[]⟩,.slice none 0 0,.slice none 0 0,.slice none 0 0,.slice none 0 0,.slice none 0 0,.slice none 0 0] 49 (0,0)):=by
  have:=aH (W.alloc (.cells #[.pointer (some ⟨b,0,none⟩)] 74)) (.cells #[.string ⟨#[]⟩,.slice none 0 0,.slice none 0 0,.slice none 0 0,.slice none 0 0,.slice none 0 0,.slice none 0 0] 49)
  rw[zJ] at this
  exact this
 have l2:W.heap.size+1<((W.alloc (.cells #[.pointer (some ⟨b,0,none⟩)] 74)).alloc (.cells #[.string ⟨#[]⟩,.slice none 0 0,.slice none 0 0,.slice none 0 0,.slice none 0 0,.slice none 0 0,.slice none 0 0] 49)).heap.size:=by simp only[zJ];omega
 have Ae:=h.up br
 have qK:∀w,((W.alloc (.cells #[.pointer (some ⟨b,0,none⟩)] 74)).alloc (.cells #[.string ⟨#[]⟩,.slice none 0 0,.slice none 0 0,.slice none 0 0,.slice none 0 0,.slice none 0 0,.slice none 0 0] 49)).grownBy w (some b)→w.heap[W.heap.size]?=some (.cells #[.pointer (some ⟨b,0,none⟩)] 74 (0,0))∧w.heap[W.heap.size+1]?=some (.cells #[.string ⟨#[]⟩,.slice none 0 0,.slice none 0 0,.slice none 0 0,.slice none 0 0,.slice none 0 0,.slice none 0 0] 49 (0,0))∧w.cell? ⟨W.heap.size,0,none⟩=some (.pointer (some ⟨b,0,none⟩)):=fun w hg=>by
  have e1:=(hg.block W.heap.size (by omega) (by simp;omega)).trans jo
  exact ⟨e1,(hg.block (W.heap.size+1) l2 (by simp;omega)).trans eL,by rw[cell_of_row _ _ _ _ _ _ e1];rfl⟩
 have S7:=ab qK
 have CD:=ab (aD b br)
 have HV:=ab hv
 have HS:=ab hs
 have Hn:=ab hn
 have Hn1:=ab iK
 have Hp:=ab hp
 have HM:=ab hM
 have HC:=ab (fF Ae)
 have GW:=ab cB
 have Zy:s.op≤32:=by obtain ⟨_,_,_,_,_,h9,_⟩:=h;exact h9
 have c0:=(qK _ (zI _ _)).2.2
 clear jo eL l2 Ae qK br h hv hs hn iK cB hM
 refine calls_of_wp Tryz.func103 Nb ?_
 obtain ⟨tl,pL⟩:∃t,DF=t:=⟨_,rfl⟩
 rw[pL]
 obtain ⟨Q,hQ⟩:∃Q,bodyPost Tryz.prog Tryz.f103 (CR lo b NM W (bj (n+1) s))=Q:=⟨_,rfl⟩
 rw[hQ]
 unfold Nf
 dsimp only[Tryz.f103]
 simp only[List.size_toArray,List.length_cons,List.length_nil,Nat.reduceAdd,Nat.reduceSub,Array.replicate_succ,Array.replicate_zero,List.push_toArray,List.append_toArray,List.nil_append,List.cons_append]
 go_wp2_with fail
 refine (aa HC).mono ?_
 rintro e w1 ⟨rfl,h1,l8⟩
 have c1:=(aa S7 _ l8).2.2
 have HN:=ab (dS h1 hp)
 have S5:=ab (mK h1 53)
 have rZ:=ab l8
 obtain ⟨_,_,_,_,_,_,o6,_⟩:=h1.cells
 have o6':w1.cell? ⟨b,6,none⟩=some (.int .i64 (s.op:Int)):=o6
 obtain ⟨op,jU⟩:∃op,s.op=op:=⟨_,rfl⟩
 have Hop:=ab jU
 rw[jU] at o6' Zy
 clear h1 l8 HC c0 o6 jU
 by_cases LI:op=32
 ·subst LI
  go_wp2_with fail
  refine (aa S5).mono ?_
  rintro e w2 ⟨rfl,br⟩
  show Q (Exit.panic _) _ _
  rw[←hQ]
  refine ⟨rfl,?_⟩
  unfold bj
  rw[if_pos (aa Hop)]
  exact ⟨rfl,((aa CD).trans (aa rZ)).trans (aD b br)⟩
 ·have q32:((op:Int)==32)=false:=beq_eq_false_iff_ne.2 (by omega)
  have h31:op≤31:=by omega
  have W5:Hid (bj (n+1) s=match bz s.begun with|.error e=>.error e|.ok (_,s1)=>match aR s1 with|.error e=>.error e|.ok (nm,s2)=>lR (bj n) nm s2):=by
   show _=_
   conv=>lhs;unfold bj
   rw[if_neg (by rw[aa Hop];exact LI)]
   cases bz s.begun with
   |error e=>rfl
   |ok y =>
    simp only
    all_goals (cases aR y.2<;>rfl)
  clear LI Zy
  go_wp2_with fail
  refine (aa HN).mono ?_
  intro e w2 hw
  rcases hw.split with ⟨y,hr,rfl,hg⟩|⟨_,s1,hr,rfl,h2,hg⟩
  ·show Q (Exit.panic _) _ _
   rw[←hQ]
   refine ⟨rfl,?_⟩
   rw[aa W5,hr]
   exact ⟨rfl,((aa CD).trans (aa rZ)).trans hg⟩
  ·have rY:=ab ((aa rZ).trans hg)
   have Hgt:=ab (dW (s:=s.begun) hr)
   have Qa:Hid (bj (n+1) s=match aR s1 with|.error e=>.error e|.ok (nm,s2)=>lR (bj n) nm s2):=by show _=_;rw[aa W5,hr]
   have HNm:=ab (kW h2 ((sw hr).sm (aa HS)))
   have c2:=(aa S7 _ ((aa rZ).trans hg)).2.2
   clear hw hr h2 hg HN W5 c1 o6' S5
   go_wp2_with fail
   refine (aa HNm).mono ?_
   intro e w3 hw
   rcases hw.split with ⟨y,hr,rfl,hg⟩|⟨nm,s2,hr,rfl,h3,hg⟩
   ·show Q (Exit.panic _) _ _
    rw[←hQ]
    refine ⟨rfl,?_⟩
    rw[aa Qa,hr]
    exact ⟨rfl,((aa CD).trans (aa rY)).trans hg⟩
   ·have cN:=(aa rY).trans hg
    obtain ⟨k1,k2,_⟩:=aa S7 _ cN
    have cB:=aa GW
    have F1:W.heap.size+2≤w3.heap.size:=by
     have:=(zA k2).1
     omega
    have R3:Gt s s2:=(show Gt s s1 from aa Hgt).eA (gm hr).gi
    have RQ:s2.op=op:=R3.gi.op.trans (aa Hop)
    have fj:=(zE w3.heap.size w3).alloc (zD _) (.cells #[.string nm,.slice none 0 0,.slice none 0 0,.slice none 0 0,.slice none 0 0,.slice none 0 0,.slice none 0 0] 49)
    have h4:=h3.up fj
    obtain ⟨h5,g5⟩:=Th h4 (n:=op+1) (by omega)
    have hs5:{ s2 with op:=op+1 }=s2.CE:=by unfold ay.CE;rw[RQ]
    rw[hs5] at h5
    have bd:Ap lo b w3.heap.size 49 nm (td ⟨nm,[],[],[],[],[],[]⟩ (.slice none 0 0) (.slice none 0 0) (.slice none 0 0) (.slice none 0 0) (.slice none 0 0) (.slice none 0 0) [] []) (tU w3.heap.size (fun P w=>aW W.heap.size #[.pointer (some ⟨b,0,none⟩)] 74 P w∧aW (W.heap.size+1) #[.string ⟨#[]⟩,.slice none 0 0,.slice none 0 0,.slice none 0 0,.slice none 0 0,.slice none 0 0,.slice none 0 0] 49 P w) ⟨nm,[],[],[],[],[],[]⟩ [] []) V w3 s2 (w3.alloc (.cells #[.string nm,.slice none 0 0,.slice none 0 0,.slice none 0 0,.slice none 0 0,.slice none 0 0,.slice none 0 0] 49)):=by
     have pM:∀(i:Nat) (sl:Slot),(td ⟨nm,[],[],[],[],[],[]⟩ (.slice none 0 0) (.slice none 0 0) (.slice none 0 0) (.slice none 0 0) (.slice none 0 0) (.slice none 0 0) [] [])[i]?=some sl→sl.v=.slice none 0 0∧sl.n=0∧sl.xs=[]:=fun i sl hi=>by
      match i,hi with
      |0,hi=>obtain rfl:=zC hi;exact ⟨rfl,rfl,rfl⟩
      |1,hi=>obtain rfl:=zC hi;exact ⟨rfl,rfl,rfl⟩
      |2,hi=>obtain rfl:=zC hi;exact ⟨rfl,rfl,rfl⟩
      |3,hi=>obtain rfl:=zC hi;exact ⟨rfl,rfl,rfl⟩
      |4,hi=>obtain rfl:=zC hi;exact ⟨rfl,rfl,rfl⟩
      |5,hi=>obtain rfl:=zC hi;exact ⟨rfl,rfl,rfl⟩
      |k+6,hi=>cases hi
     have XE:∀k,k≠b→k≠w3.heap.size→Fz (td ⟨nm,[],[],[],[],[],[]⟩ (.slice none 0 0) (.slice none 0 0) (.slice none 0 0) (.slice none 0 0) (.slice none 0 0) (.slice none 0 0) [] []) w3.heap.size b k:=fun k q1 q2=>⟨q1,q2,fun i sl hi e=>by
      rw[(pM i sl hi).1] at e
      cases e⟩
     refine ⟨⟨aH _ _,fun i sl hi=>?_,fun i j a c dV ha hc k hk=>?_⟩,⟨⟨⟨(fj.block _ (by omega)).trans k1,XE _ (by omega) (by omega)⟩,⟨(fj.block _ (by omega)).trans k2,XE _ (by omega) (by omega)⟩⟩,.nil,.nil⟩,h4,by have:=h3.low;omega,⟨fj.os,fj.tape,fj.output,fj.size,fun k hk _=>fj.block k hk⟩,?_⟩
     ·obtain ⟨q1,q2,q3⟩:=pM i sl hi
      exact ⟨by rw[q2,q3];simp,.inl ⟨q1,q2⟩⟩
     ·rw[(pM i a ha).1] at hk
      cases hk
     ·exact ((aa HV).step ((aa CD).trans cN)).step (aD b fj)
    have yR:=bd.read (tU.st ((bp _ _ _).and (bp _ _ _)) _ _ _) h5 g5
    have dB:=R3.lt (aa Hp)
    have HI:Hid (mP lo b w3.heap.size s2.ts.length (op+1) nm (fun P w=>aW W.heap.size #[.pointer (some ⟨b,0,none⟩)] 74 P w∧aW (W.heap.size+1) #[.string ⟨#[]⟩,.slice none 0 0,.slice none 0 0,.slice none 0 0,.slice none 0 0,.slice none 0 0,.slice none 0 0] 49 P w) V w3 ⟨nm,[],[],[],[],[],[]⟩ s2.CE ((w3.alloc (.cells #[.string nm,.slice none 0 0,.slice none 0 0,.slice none 0 0,.slice none 0 0,.slice none 0 0,.slice none 0 0] 49)).setCell ⟨b,6,none⟩ (.int .i64 ((op+1:Nat):Int)))):=by
     have h7:=aa Hn
     have h8:s2.CE.ts.length=s2.ts.length:=rfl
     exact ⟨rfl,⟨_,_,_,_,_,_,_,_,yR⟩,⟨⟨by simp only[List.length_nil];omega,by simp only[List.length_nil];omega,by simp only[List.length_nil];omega,by simp only[List.length_nil];omega,by simp only[List.length_nil];omega,by simp only[List.length_nil];omega⟩,R3.gi.sm (aa HS),by omega,by show s2.op+1=op+1;rw[RQ]⟩⟩
    obtain ⟨_,_,_,_,_,_,o6,of⟩:=h4.cells
    rw[RQ] at o6
    have f6:=of 6
    have c4:(w3.alloc (.cells #[.string nm,.slice none 0 0,.slice none 0 0,.slice none 0 0,.slice none 0 0,.slice none 0 0,.slice none 0 0] 49)).cell? ⟨W.heap.size,0,none⟩=some (.pointer (some ⟨b,0,none⟩)):=by rw[cell_of_row _ _ _ _ _ _ ((fj.block _ (by omega)).trans k1)];rfl
    have nB:Hid (bj (n+1) s=lR (bj n) nm s2):=by show _=_;rw[aa Qa,hr]
    have xM:=ab ((aa CD).trans cN)
    have Hz:=ab F1
    have HKl:Hid (s2.ts.length≤n∧s2.ts.length≤16384):=by have:=aa Hn;have:=aa Hn1;exact ⟨by omega,by omega⟩
    have e1:((op+1:Nat):Int)=(op:Int)+1:=by omega
    rw[e1] at HI
    have p31:(op:Int)≤31:=by omega
    clear hw hr h3 hg cN k1 k2 F1 fj bd yR HNm Qa cB c2 h4 h5 g5 hs5 of R3 RQ dB e1 Hgt
    go_wp2
    rw[←pL,←hQ]
    refine Nh (p1:=W.heap.size) (p2:=W.heap.size+1) (aa HM) (aa HKl) (aa HI) (aa xM) ⟨(aa GW).2,by omega,by have:=aa Hz;omega⟩ h31 rfl ⟨rfl,rfl,rfl,trivial⟩ ?_
    intro e w5 kz
    rw[aa nB]
    exact kz
theorem yx:∀n,Jj n
 |0=>fun _ _ _ _ s _ _ _ h1 _ h2=>absurd h2 (by omega)
 |n+1=>BJ (yx n)
end Go.Proofs.YtjophoclfccmcaaGreatDoor

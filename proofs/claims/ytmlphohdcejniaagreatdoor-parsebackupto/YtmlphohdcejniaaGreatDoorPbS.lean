import Derived.Test.YtmlphohdcejniaaGreatDoorM24
set_option maxHeartbeats 4000000
set_option maxRecDepth 100000
namespace Go.Proofs.YtmlphohdcejniaaGreatDoor
open Go.RowKit
attribute [local go_sem ↓] Go.wp_at_zero Go.wp_at_succ
theorem Ap.BA {lo b g T:Nat}{nm:ByteArray}{ss:List Slot}{N:(Nat→Prop)→World→Prop}{V W w:World}{s:aI}{i k n:Nat}{t:TypeId}{v:Value}{xs:List Value}{z:Slot} (hz:ss[i]?=some z) (h:Ap lo b g T nm (ss.set i ⟨t,7,v,n+1,xs++gE.toList⟩) N V W s w) (hN:aK N) (hk:v.ownBlock=some k) (hn:xs.length=n*7) (u0 u1 u2 u3 u4 u5 u6:Value) :
  Ap lo b g T nm (ss.set i ⟨t,7,v,n+1,xs++[u0,u1,u2,u3,u4,u5,u6]⟩) N V W s (BA w k (n*7) u0 u1 u2 u3 u4 u5 u6):=by
 have h0:=h.setRow hN (fH hz _) hk (n*7) u0
 rw[gS] at h0
 have h1:=h0.setRow hN (fH hz _) hk (n*7+1) u1
 rw[gS] at h1
 have h2:=h1.setRow hN (fH hz _) hk (n*7+2) u2
 rw[gS] at h2
 have h3:=h2.setRow hN (fH hz _) hk (n*7+3) u3
 rw[gS] at h3
 have h4:=h3.setRow hN (fH hz _) hk (n*7+4) u4
 rw[gS] at h4
 have h5:=h4.setRow hN (fH hz _) hk (n*7+5) u5
 rw[gS] at h5
 have h6:=h5.setRow hN (fH hz _) hk (n*7+6) u6
 rw[gS] at h6
 simp only at h6
 rw[show gE.toList=[.string ⟨#[]⟩,.slice none 0 0,.slice none 0 0,.slice none 0 0,.slice none 0 0,.slice none 0 0,.slice none 0 0] from rfl,GY xs n hn] at h6
 exact h6
theorem F5 {tm:Array Value} (h:tm.size=27):∃u:Nat→Value,tm=#[u 0,u 1,u 2,u 3,u 4,u 5,u 6,u 7,u 8,u 9,u 10,u 11,u 12,u 13,u 14,u 15,u 16,u 17,u 18,u 19,u 20,u 21,u 22,u 23,u 24,u 25,u 26]:=by
 refine ⟨fun i=>tm.getD i undef,?_⟩
 have e:tm=((List.range 27).map fun i=>tm.getD i undef).toArray:=by
  apply Array.ext
  ·simp[h]
  ·intro i h1 h2
   simp[Array.getD,h1]
 exact e.trans rfl
noncomputable def XI:Code:=match Tryz.f151.body with
 |some (.seq r _)=>r
 |_=>.skip
noncomputable def QT:Code:=match Tryz.f151.body with
 |some (.seq _ c)=>c
 |_=>.skip
theorem MS:Tryz.f151.body=some (.seq XI QT):=rfl
noncomputable def MW:Code:=match QT with
 |.cond _ (.seq r _) _=>r
 |_=>.skip
noncomputable def I5:Code:=match QT with
 |.cond _ (.seq _ r) _=>r
 |_=>.skip
noncomputable def MU:Code:=match QT with
 |.cond _ _ r=>r
 |_=>.skip
theorem I4:QT=.cond (.tmp 3) (.seq MW I5) MU:=rfl
section
variable {lo b g : Nat} {nm : ByteArray} {ss : List Slot} {N : (Nat → Prop) → World → Prop} {V W w0 : World} {s : aI} {sl : Slot} {r : Except (Int × Int) (Ms × aI)} {pm pr : Nat} {gR : Array Value} {R : Ending → World → Prop}
theorem MT (h:Ap lo b g 64 nm ss N V W s w0) (hN:aK N) (hi:ss[2]?=some sl) (dR:Fit 23 sl 160 (mz g)) (hn:sl.n≤100000) (cn:∀P w,N P w→∀c ∈ ([(pm,#[.pointer (some ⟨g,0,none⟩)],167),(pr,#[.pointer (some ⟨b,0,none⟩)],107)]:List (Nat×Array Value×TypeId)),aP c.1 c.2.1 c.2.2 P w) (cD:∀w s2 M,aK M→Ap lo b g 64 nm ss (fun P w=>N P w∧M P w) V W s2 w→s2=s→Calls Tryz.prog 101 #[.pointer (some ⟨b,0,none⟩)] w (CR lo b (mz g) w r))
  (hR:∀e w,CP lo b g 64 nm ss N V W 2 sl r (mz g) e w→R e w) (pA:gR.size=27) (k0:gR.getD 0 undef=.pointer (some ⟨pm,0,none⟩)) (k1:gR.getD 1 undef=.pointer (some ⟨pr,0,none⟩)):MU.wp Tryz.prog (bodyPost Tryz.prog Tryz.f151 R) ⟨gR,[]⟩ w0:=by
 obtain ⟨va,vn,vc,hv⟩:=aL (h.bx.own 2 sl hi)
 obtain ⟨ei,kT,mG,qe,fx⟩:=dR
 have ca:=Ph.base (lo:=lo) (b:=b) (g:=g) (T:=64) (nm:=nm) (V:=V) (W:=W) (s:=s) (r:=r) (N1:=mz g) cn hi
 have hd:=h.up hN (zE w0.heap.size w0).drew
 obtain ⟨Qb,oB⟩:∃Q,bodyPost Tryz.prog Tryz.f151 R=Q:=⟨_,rfl⟩
 rw[oB]
 unfold MU QT
 dsimp only[Tryz.f151]
 refine cN (z:=11) (N:=27) (c:=6) (by kernel_rfl) (fun k=>k+16) (fun k=>[.pointer (some ⟨g,0,none⟩),.pointer (some ⟨g,0,none⟩),.pointer (some ⟨g,0,none⟩),.pointer (some ⟨g,3,none⟩),sl.v,.pointer (some ⟨b,0,none⟩),undef,undef,undef,.pointer (some ⟨g,0,none⟩),.pointer (some ⟨g,3,none⟩)].getD k undef) (Ph lo b g 64 nm ss N V W s sl r (mz g)) _ w0 rfl pA (fun i j _ _ e=>by omega) (fun i hi=>by omega) (by kernel_rfl) (by omega) (by kernel_rfl) (by kernel_rfl) (by kernel_rfl) hd ?_ ?_ ?_ ?_ ?_
 ·intro k tm w hk hq bR bW aV bA
  obtain ⟨ph,x,bA⟩:=bA
  have hB:=ca ph x w bA
  match k,hk with
  |0,_=>exact aS rfl rfl _ (.tmp 0) rfl ((bW 0 (by intro i hi;omega)).trans k0) (cz w (hB.cell (List.mem_cons_self ..) rfl)) ⟨rfl,rfl⟩
  |1,_=>exact aS rfl rfl _ (.tmp 0) rfl ((bW 0 (by intro i hi;omega)).trans k0) (cz w (hB.cell (List.mem_cons_self ..) rfl)) ⟨rfl,rfl⟩
  |2,_=>exact aY rfl rfl (.tmp 17) rfl (aV 1 (by omega) (by kernel_rfl)) ⟨rfl,rfl⟩
  |3,_=>exact bI rfl rfl _ (.tmp 18) _ rfl (aV 2 (by omega) (by kernel_rfl)) (ub w) ⟨rfl,rfl⟩
  |4,_=>exact aS rfl rfl _ (.tmp 19) rfl (aV 3 (by omega) (by kernel_rfl)) (by rw[hv];exact tV w (by rw[←hv];exact hB.row hi)) ⟨rfl,rfl⟩
  |5,_=>exact aS rfl rfl _ (.tmp 1) rfl ((bW 1 (by intro i hi;omega)).trans k1) (cJ w (hB.cell (zF _ (List.mem_cons_self ..)) rfl)) ⟨rfl,rfl⟩
  |6,_=>omega
  |7,_=>omega
  |8,_=>omega
  |9,_=>exact aY rfl rfl (.tmp 16) rfl (aV 0 (by omega) (by kernel_rfl)) ⟨rfl,rfl⟩
  |10,_=>exact bI rfl rfl _ (.tmp 25) _ rfl (aV 9 (by omega) (by kernel_rfl)) (ub w) ⟨rfl,rfl⟩
 ·intro tm w bR bW aV bA
  have aZ:Ap lo b g 64 nm ss N V W s w:=bA
  refine b9 rfl rfl 101 (kH w) _ _ rfl #[.pointer (some ⟨b,0,none⟩)] ?_ (cD w s (fun _ _=>True) mI (aZ.imp (fun h=>⟨h,trivial⟩)) rfl) ?_
  ·simp only[List.map_toArray,List.map_cons,List.map_nil,Act.eval]
   rw[show tm.getD 21 undef=_ from aV 5 (by omega) (by kernel_rfl)]
   rfl
  ·intro e w' jD
   rcases Ph.call hN (fB g) bA jD with ⟨x,rfl,h1⟩|⟨y,hr,rfl,hs⟩
   ·exact .inl ⟨x,rfl,x,rfl,h1⟩
   ·exact .inr ⟨_,rfl,by rw[←oB];exact ⟨rfl,hR _ _ (by unfold CP;rw[hr];exact ⟨rfl,hs⟩)⟩⟩
 ·intro tm w x bR hx bA
  obtain ⟨a,s',hr,ep,aZ⟩:=id bA
  obtain ⟨f1,f2,f3⟩:=fx a x _ _ ep
  exact jt rfl rfl _ _ _ rfl #[(0,x)] (by simp only[List.map_toArray,List.map_cons,List.map_nil,Act.eval];rw[show tm.getD 22 undef=x from hx]) (f3 w) ⟨_,rfl,Ph.bs hN (fB g) bA⟩
 ·intro tm w y bR aV hy bA
  obtain ⟨a,s',x,gy,hr,rfl,qD,ep,aZ⟩:=id bA
  obtain ⟨f1,f2,f3⟩:=fx a x _ _ ep
  have hl:=aZ.bx.lt
  refine bT w rfl rfl (.tmp 20) (.tmp 23) 23 rfl (g+1) sl.t sl.sz 160 kT ei mG sl.v sl.n sl.xs (aV 4 (by omega) (by kernel_rfl)) (aZ.bx.own 2 sl hi) ⟨gy,0,none⟩ 1 1 x.cells.toList hy (by rw[Array.length_toList,f1];omega) (du qD) f2 (by unfold maxLen;omega) (by omega) (by omega) ?_
  intro v' w' h1 h2 h3
  exact ⟨v',rfl,Ph.app hr aZ h2 h1 h3⟩
 ·intro tm w y bR bW cZ hy bA
  have hB:=ca 3 y w bA
  obtain ⟨a,s',x,w2,hr,h1,h2,h3,h4⟩:=id bA
  obtain ⟨ya,yn,yc,rfl⟩:=aL h3
  refine dv rfl rfl _ (.tmp 26) (.tmp 24) rfl (cZ 10 (by omega) (by omega)) hy (tO w (hB.row hi) (hB.frozen _)) ?_
  rw[←oB]
  go_end0
  exact hR _ _ (Ph.last hN (fB g) hi bA)
theorem MV (h:Ap lo b g 64 nm ss N V W s w0) (hN:aK N) (hi:ss[2]?=some sl) (dR:Fit 23 sl 160 (mz g)) (hn:sl.n≤100000) (cn:∀P w,N P w→∀c ∈ ([(pm,#[.pointer (some ⟨g,0,none⟩)],167),(pr,#[.pointer (some ⟨b,0,none⟩)],107)]:List (Nat×Array Value×TypeId)),aP c.1 c.2.1 c.2.2 P w) (cD:∀w s2 M,aK M→Ap lo b g 64 nm ss (fun P w=>N P w∧M P w) V W s2 w→s2=s→Calls Tryz.prog 101 #[.pointer (some ⟨b,0,none⟩)] w (CR lo b (mz g) w r))
  (hR:∀e w,CP lo b g 64 nm ss N V W 2 sl r (mz g) e w→R e w) (pA:gR.size=27) (k0:gR.getD 0 undef=.pointer (some ⟨pm,0,none⟩)) (k1:gR.getD 1 undef=.pointer (some ⟨pr,0,none⟩)):(Code.seq MW I5).wp Tryz.prog (bodyPost Tryz.prog Tryz.f151 R) ⟨gR,[]⟩ w0:=by
 obtain ⟨va,vc,hv⟩:=bK (h.bx.own 2 sl hi)
 obtain ⟨ei,kT,mG,qe,fx⟩:=dR
 have e7:sl.sz=7:=by
  obtain ⟨i1,z1,h1,h2,h3,h4,h5⟩:=ei
  obtain ⟨i2,z2,g1,g2,g3,g4,g5⟩:=Mr
  have:sl.t=64:=by
   have h9:Tryz.prog.underlying 23=some (.slice 64):=by kernel_rfl
   rw[h9] at kT
   simpa using kT.symm
  rw[this] at h1
  rw[h1] at g1
  obtain rfl:=zC g1
  omega
 have et:sl.t=64:=by
  have h9:Tryz.prog.underlying 23=some (.slice 64):=by kernel_rfl
  rw[h9] at kT
  simpa using kT.symm
 refine wp_seq ?_
 obtain ⟨R2,QL⟩:∃c,I5=c:=⟨_,rfl⟩
 rw[QL]
 obtain ⟨Qb,oB⟩:∃Q,bodyPost Tryz.prog Tryz.f151 R=Q:=⟨_,rfl⟩
 rw[oB]
 unfold MW QT
 dsimp only[Tryz.f151]
 refine ot (z:=11) (N:=27) (by kernel_rfl) (fun k=>k+4) (fun d tm w=>(∀j,j<11→j≠5→j≠7→j≠8→d.getD j false=true→tm.getD (j+4) undef=[.pointer (some ⟨g,0,none⟩),.pointer (some ⟨g,0,none⟩),.pointer (some ⟨g,3,none⟩),sl.v,.pointer (some ⟨b,0,none⟩),undef,.int .i64 (sl.n:Int),undef,undef,.pointer (some ⟨g,0,none⟩),.pointer (some ⟨g,3,none⟩)].getD j undef)∧((d.getD 8 false=false∧PA lo b g 64 nm ss N V W s r (d.getD 5 false) (tm.getD 9 undef) (d.getD 7 false) (tm.getD 11 undef) w)∨(d.getD 8 false=true∧d.getD 5 false=true∧d.getD 7 false=true∧PB lo b g 64 nm ss N V W sl r (tm.getD 9 undef) (tm.getD 12 undef) w))) _ w0 rfl pA (fun i hi=>by omega) (by kernel_rfl) (by kernel_rfl) ?_ ?_ ?_
 ·intro d hd _
  refine ⟨fun j _ _ _ _ h=>(by rw[hd j] at h;cases h),.inl ⟨hd 8,?_⟩⟩
  rw[hd 5,hd 7]
  obtain ⟨M,s2,q1,q2,q3,q4⟩:=PA.drew (r:=r) hN h
  exact ⟨M,s2,q1,q2,q3,q4⟩
 ·intro k d tm w hk hd gj rR hw bR bW hG
  obtain ⟨kO,xH⟩:=hG
  have hB:Bs g 64 nm ss [(pm,#[.pointer (some ⟨g,0,none⟩)],167),(pr,#[.pointer (some ⟨b,0,none⟩)],107)] w:=by
   rcases xH with ⟨_,q⟩|⟨_,_,_,q⟩
   ·exact q.base cn
   ·exact q.base cn hi
  have hq:∀v,v=[.pointer (some ⟨g,0,none⟩),.pointer (some ⟨g,0,none⟩),.pointer (some ⟨g,3,none⟩),sl.v,.pointer (some ⟨b,0,none⟩),undef,.int .i64 (sl.n:Int),undef,undef,.pointer (some ⟨g,0,none⟩),.pointer (some ⟨g,3,none⟩)].getD k undef→k≠5→k≠7→k≠8→(∀j,j<11→j≠5→j≠7→j≠8→(d.setIfInBounds k true).getD j false=true→(tm.setIfInBounds (k+4) v).getD (j+4) undef=[.pointer (some ⟨g,0,none⟩),.pointer (some ⟨g,0,none⟩),.pointer (some ⟨g,3,none⟩),sl.v,.pointer (some ⟨b,0,none⟩),undef,.int .i64 (sl.n:Int),undef,undef,.pointer (some ⟨g,0,none⟩),.pointer (some ⟨g,3,none⟩)].getD j undef)∧(((d.setIfInBounds k true).getD 8 false=false∧PA lo b g 64 nm ss N V W s r ((d.setIfInBounds k true).getD 5 false) ((tm.setIfInBounds (k+4) v).getD 9 undef) ((d.setIfInBounds k true).getD 7 false) ((tm.setIfInBounds (k+4) v).getD 11 undef) w)∨((d.setIfInBounds k true).getD 8 false=true∧(d.setIfInBounds k true).getD 5 false=true∧(d.setIfInBounds k true).getD 7 false=true∧PB lo b g 64 nm ss N V W sl r ((tm.setIfInBounds (k+4) v).getD 9 undef) ((tm.setIfInBounds (k+4) v).getD 12 undef) w)):=by
   intro v hv h5 h7 h8
   refine ⟨fun j hj n5 n7 n8 pD=>?_,?_⟩
   ·by_cases e:j=k
    ·subst e
     rw[bQ (by omega)]
     exact hv
    ·rw[aB (Ne.symm e)] at pD
     rw[aB (by omega)]
     exact kO j hj n5 n7 n8 pD
   ·rw[aB h8,aB h5,aB h7,aB (show k+4≠9 by omega),aB (show k+4≠11 by omega),aB (show k+4≠12 by omega)]
    exact xH
  match k,hk with
  |0,_=>exact aS rfl rfl _ (.tmp 0) rfl ((bW 0 (by intro i hi;omega)).trans k0) (cz w (hB.cell (List.mem_cons_self ..) rfl)) ⟨_,rfl,hq _ rfl (by omega) (by omega) (by omega)⟩
  |1,_=>exact aY rfl rfl (.tmp 4) rfl (kO 0 (by omega) (by omega) (by omega) (by omega) (hw 0 (by kernel_rfl)).2) ⟨_,rfl,hq _ rfl (by omega) (by omega) (by omega)⟩
  |2,_=>exact bI rfl rfl _ (.tmp 5) _ rfl (kO 1 (by omega) (by omega) (by omega) (by omega) (hw 1 (by kernel_rfl)).2) (ub w) ⟨_,rfl,hq _ rfl (by omega) (by omega) (by omega)⟩
  |3,_=>exact aS rfl rfl _ (.tmp 6) rfl (kO 2 (by omega) (by omega) (by omega) (by omega) (hw 2 (by kernel_rfl)).2) (by rw[hv];exact tV w (by rw[←hv];exact hB.row hi)) ⟨_,rfl,hq _ hv.symm (by omega) (by omega) (by omega)⟩
  |4,_=>exact aS rfl rfl _ (.tmp 1) rfl ((bW 1 (by intro i hi;omega)).trans k1) (cJ w (hB.cell (zF _ (List.mem_cons_self ..)) rfl)) ⟨_,rfl,hq _ rfl (by omega) (by omega) (by omega)⟩
  |5,_ =>
   have Ef:d.getD 8 false=false∧PA lo b g 64 nm ss N V W s r false (tm.getD 9 undef) (d.getD 7 false) (tm.getD 11 undef) w:=by
    rcases xH with ⟨q1,q2⟩|⟨_,q,_⟩
    ·rw[rR] at q2
     exact ⟨q1,q2⟩
    ·rw[q] at rR;cases rR
   obtain ⟨Ef,Iz⟩:=Ef
   obtain ⟨M,s2,hM,aZ,Ec,_⟩:=id Iz
   rw[if_neg (by simp)] at Ec
   refine b9 rfl rfl 101 (kH w) _ _ rfl #[.pointer (some ⟨b,0,none⟩)] ?_ (cD w s2 M hM aZ Ec) ?_
   ·simp only[List.map_toArray,List.map_cons,List.map_nil,Act.eval]
    rw[show tm.getD 8 undef=_ from kO 4 (by omega) (by omega) (by omega) (by omega) (hw 4 (by kernel_rfl)).2]
    rfl
   ·intro e w' jD
    rcases PA.call hN Iz jD with ⟨x,rfl,h1⟩|⟨y,hr,rfl,hs⟩
    ·refine .inl ⟨x,rfl,x,rfl,fun j hj n5 n7 n8 pD=>?_,.inl ⟨?_,?_⟩⟩
     ·rw[aB (Ne.symm n5)] at pD
      rw[aB (by omega)]
      exact kO j hj n5 n7 n8 pD
     ·rw[aB (by omega)]
      exact Ef
     ·rw[bQ (by omega),bQ (by omega),aB (by omega),aB (by omega)]
      exact h1
    ·exact .inr ⟨_,rfl,by show Qb (Exit.panic _) _ _;rw[←oB];exact ⟨rfl,hR _ _ (by unfold CP;rw[hr];exact ⟨rfl,hs⟩)⟩⟩
  |6,_=>exact DT rfl rfl (.tmp 7) 23 64 rfl Tryz.underlying23 ((kO 3 (by omega) (by omega) (by omega) (by omega) (hw 3 (by kernel_rfl)).2).trans hv) ⟨_,rfl,hq _ rfl (by omega) (by omega) (by omega)⟩
  |7,_ =>
   have Ef:d.getD 8 false=false∧PA lo b g 64 nm ss N V W s r (d.getD 5 false) (tm.getD 9 undef) false (tm.getD 11 undef) w:=by
    rcases xH with ⟨q1,q2⟩|⟨_,_,q,_⟩
    ·rw[rR] at q2
     exact ⟨q1,q2⟩
    ·rw[q] at rR;cases rR
   obtain ⟨Ef,Iz⟩:=Ef
   refine jt rfl rfl _ _ _ rfl #[(0,.agg gE)] (by simp only[List.map_toArray,List.map_cons,List.map_nil,Act.eval];rfl) (Gj w) ⟨_,rfl,fun j hj n5 n7 n8 pD=>?_,.inl ⟨?_,?_⟩⟩
   ·rw[aB (Ne.symm n7)] at pD
    rw[aB (by omega)]
    exact kO j hj n5 n7 n8 pD
   ·rw[aB (by omega)]
    exact Ef
   ·rw[aB (by omega),aB (by omega),bQ (by omega),bQ (by omega)]
    exact Iz.bs hN
  |8,_ =>
   have UJ:=(hw 5 (by kernel_rfl)).2
   have W6:=(hw 7 (by kernel_rfl)).2
   have Iz:PA lo b g 64 nm ss N V W s r true (tm.getD 9 undef) true (tm.getD 11 undef) w:=by
    rcases xH with ⟨_,q⟩|⟨q,_⟩
    ·rw[UJ,W6] at q
     exact q
    ·rw[q] at rR;cases rR
   obtain ⟨M,s2,hM,aZ,hx,hy⟩:=Iz
   rw[if_pos rfl] at hx hy
   obtain ⟨a,hr,jd⟩:=hx
   obtain ⟨gy,hy,hz⟩:=hy
   have hl:=aZ.bx.lt
   refine bT w rfl rfl (.tmp 7) (.tmp 11) 23 rfl (g+1) sl.t sl.sz 160 kT ei mG sl.v sl.n sl.xs (kO 3 (by omega) (by omega) (by omega) (by omega) (hw 3 (by kernel_rfl)).2) (aZ.bx.own 2 sl hi) ⟨gy,0,none⟩ 1 1 gE.toList hy (by rw[e7];rfl) (du (x:=.agg gE) (hz _ _ aZ.nx.2).1) ?_ (by unfold maxLen;omega) (by omega) (by omega) ?_
   ·intro u hu
    simp only[gE,List.mem_cons,List.not_mem_nil,or_false] at hu
    rcases hu with rfl|rfl|rfl|rfl|rfl|rfl|rfl<;>rfl
   ·intro v' w' h1 h2 h3
    refine ⟨v',rfl,fun j hj n5 n7 n8 pD=>?_,.inr ⟨bQ (by omega),?_,?_,?_⟩⟩
    ·rw[aB (Ne.symm n8)] at pD
     rw[aB (by omega)]
     exact kO j hj n5 n7 n8 pD
    ·rw[aB (by omega)]
     exact UJ
    ·rw[aB (by omega)]
     exact W6
    ·rw[aB (by omega),bQ (by omega)]
     exact ⟨M,a,s2,w,hr,hM,jd,aZ,h2,h1,h3⟩
  |9,_=>exact aY rfl rfl (.tmp 4) rfl (kO 0 (by omega) (by omega) (by omega) (by omega) (hw 0 (by kernel_rfl)).2) ⟨_,rfl,hq _ rfl (by omega) (by omega) (by omega)⟩
  |10,_=>exact bI rfl rfl _ (.tmp 13) _ rfl (kO 9 (by omega) (by omega) (by omega) (by omega) (hw 9 (by kernel_rfl)).2) (ub w) ⟨_,rfl,hq _ rfl (by omega) (by omega) (by omega)⟩
 ·intro d tm w jv bR bW hG
  obtain ⟨kO,xH⟩:=hG
  have Wo:PB lo b g 64 nm ss N V W sl r (tm.getD 9 undef) (tm.getD 12 undef) w:=by
   rcases xH with ⟨q,_⟩|⟨_,_,_,q⟩
   ·rw[jv 8 (by omega)] at q;cases q
   ·exact q
  have hB:=Wo.base cn hi
  obtain ⟨M,a,s2,w2,hr,hM,jd,aZ,hg,ho,hl⟩:=Wo
  have S5:=kO 6 (by omega) (by omega) (by omega) (by omega) (jv 6 (by omega))
  have Xs:=kO 10 (by omega) (by omega) (by omega) (by omega) (jv 10 (by omega))
  obtain ⟨k,c,Lg⟩:∃k c,tm.getD 12 undef=.slice (some ⟨k,0,none⟩) (sl.n+1) c:=by
   rcases ho.2 with ⟨_,e0⟩|⟨k,c,_,e,_⟩
   ·omega
   ·exact ⟨k,c,e⟩
  have hlen:=(h.bx.own 2 sl hi).1
  rw[e7] at hlen
  refine dv rfl rfl _ (.tmp 14) (.tmp 12) rfl Xs Lg (tO w (hB.row hi) (hB.frozen _)) ?_
  have gp:=aZ.app (hN.and hM) hi hg ho hl
  rw[Lg] at gp
  show R2.wp Tryz.prog Qb ⟨tm,[]⟩ _
  obtain ⟨⟨l⟩,ON,jQ⟩:=jd _ _ gp.nx.2
  obtain ⟨wz,V3⟩:∃wz,w.setCell ⟨g,3,none⟩ (.slice (some ⟨k,0,none⟩) (sl.n+1) c)=wz:=⟨_,rfl⟩
  rw[V3] at gp jQ ⊢
  cases jQ with
  |cons hf Ag hm jQ he mx xG p9 ht =>
   cases ht
   obtain ⟨fa,fn,fc,rfl⟩:=aL hf.1
   obtain ⟨oa,on,oc,rfl⟩:=aL Ag.1
   obtain ⟨ma,mn,mc,rfl⟩:=aL hm.1
   obtain ⟨ea,en,ec,rfl⟩:=aL he.1
   obtain ⟨ra,rn,rc,rfl⟩:=aL xG.1
   obtain ⟨ga,gn,gc,rfl⟩:=aL p9.1
   rename_i OD _ _ _ _ _ _ _ _
   have cC:=gp.bx.own 2 _ (fH hi _)
   simp only[e7,et] at cC gp
   have dw:∀t u,gE.toList[t]?=some u→wz.cell? ⟨k,sl.n*7+t,none⟩=some u:=fun t u ht=>by
    have cc:t<7:=(zB ht).1
    rw[World.ownsRow.cellAt cC (sl.n*7+t) (by omega),←hlen,List.getElem?_append_right (Nat.le_add_right _ _),Nat.add_sub_cancel_left]
    exact ht
   have y0:=dw 0 _ rfl
   have y1:=dw 1 _ rfl
   have y2:=dw 2 _ rfl
   have y3:=dw 3 _ rfl
   have y4:=dw 4 _ rfl
   have y5:=dw 5 _ rfl
   have y6:=dw 6 _ rfl
   have z0:=World.ownsRow.frozenAt cC (sl.n*7)
   have z1:=World.ownsRow.frozenAt cC (sl.n*7+1)
   have z2:=World.ownsRow.frozenAt cC (sl.n*7+2)
   have z3:=World.ownsRow.frozenAt cC (sl.n*7+3)
   have z4:=World.ownsRow.frozenAt cC (sl.n*7+4)
   have z5:=World.ownsRow.frozenAt cC (sl.n*7+5)
   have z6:=World.ownsRow.frozenAt cC (sl.n*7+6)
   rw[Nat.add_zero] at y0
   have nG:=Ap.BA hi gp (hN.and hM) rfl hlen (.string OD) (.slice fa fn fc) (.slice oa on oc) (.slice ma mn mc) (.slice ea en ec) (.slice ra rn rc) (.slice ga gn gc)
   have HE:Hid (R (.returned (.tuple #[])) (BA wz k (sl.n*7) (.string OD) (.slice fa fn fc) (.slice oa on oc) (.slice ma mn mc) (.slice ea en ec) (.slice ra rn rc) (.slice ga gn gc))):=by
    refine hR _ _ ?_
    unfold CP
    rw[hr]
    refine ⟨rfl,tm.getD 9 undef,.slice (some ⟨k,0,none⟩) (sl.n+1) c,?_⟩
    rw[e7,et]
    have Ae:(tm.getD 9 undef).cells.toList=[.string OD,.slice fa fn fc,.slice oa on oc,.slice ma mn mc,.slice ea en ec,.slice ra rn rc,.slice ga gn gc]:=by rw[ON];rfl
    rw[Ae]
    exact nG.imp (fun h=>⟨h.1,jd _ _ h.2⟩)
   obtain ⟨u,hu⟩:=F5 bR
   have q9:u 9=.agg #[.string OD,.slice fa fn fc,.slice oa on oc,.slice ma mn mc,.slice ea en ec,.slice ra rn rc,.slice ga gn gc]:=by rw[hu] at ON;exact ON
   have Dc:u 10=.int .i64 (sl.n:Int):=by rw[hu] at S5;exact S5
   have VI:u 12=.slice (some ⟨k,0,none⟩) (sl.n+1) c:=by rw[hu] at Lg;exact Lg
   rw[hu,q9,Dc,VI,←QL]
   obtain ⟨L,hL⟩:∃L,sl.n+1=L:=⟨_,rfl⟩
   rw[hL]
   obtain ⟨n,Wx⟩:∃n,sl.n=n:=⟨_,rfl⟩
   rw[Wx] at y0 y1 y2 y3 y4 y5 y6 z0 z1 z2 z3 z4 z5 z6 HE hL hn ⊢
   have n0:(0:Int)≤(n:Int):=zH _
   have n1:(n:Int)<(L:Int):=by omega
   have n2:n≤100000:=hn
   unfold BA at HE
   unfold I5 QT
   dsimp only[Tryz.f151]
   clear nG gp cC dw ON S5 Lg q9 Dc VI hu hf Ag hm jQ he mx xG p9 kO xH bW jv bR hB aZ hg ho hl Xs V3 hL Wx hlen jd hM hr h hN hi ei kT mG qe fx cn cD hR hv e7 et hn k0 k1 pA
   go_wp2
   rw[←oB]
   go_end0
   exact aa HE
theorem TK (h:Ap lo b g 64 nm ss N V W s w0) (hN:aK N) (hi:ss[2]?=some sl) (dR:Fit 23 sl 160 (mz g)) (hn:sl.n≤100000) (cn:∀P w,N P w→∀c ∈ ([(pm,#[.pointer (some ⟨g,0,none⟩)],167),(pr,#[.pointer (some ⟨b,0,none⟩)],107)]:List (Nat×Array Value×TypeId)),aP c.1 c.2.1 c.2.2 P w) (cD:∀w s2 M,aK M→Ap lo b g 64 nm ss (fun P w=>N P w∧M P w) V W s2 w→s2=s→Calls Tryz.prog 101 #[.pointer (some ⟨b,0,none⟩)] w (CR lo b (mz g) w r)) :
  Calls Tryz.prog 151 #[.pointer (some ⟨pm,0,none⟩),.pointer (some ⟨pr,0,none⟩)] w0 (CP lo b g 64 nm ss N V W 2 sl r (mz g)):=by
 have HX:∀w,Below w0.heap.size w0 w→∀gR:Array Value,gR.size=27→gR.getD 0 undef=.pointer (some ⟨pm,0,none⟩)→gR.getD 1 undef=.pointer (some ⟨pr,0,none⟩)→(Code.seq MW I5).wp Tryz.prog (bodyPost Tryz.prog Tryz.f151 (CP lo b g 64 nm ss N V W 2 sl r (mz g))) ⟨gR,[]⟩ w∧MU.wp Tryz.prog (bodyPost Tryz.prog Tryz.f151 (CP lo b g 64 nm ss N V W 2 sl r (mz g))) ⟨gR,[]⟩ w:=fun w hb gR h1 h2 h3 =>
  ⟨MV (h.up hN hb) hN hi dR hn cn cD (fun _ _ h=>h) h1 h2 h3,MT (h.up hN hb) hN hi dR hn cn cD (fun _ _ h=>h) h1 h2 h3⟩
 have P5:=aj HX
 have HB:=aj (zE w0.heap.size w0)
 clear HX h hN hi dR hn cn cD
 refine calls_of_wp Tryz.func151 MS ?_
 rw[I4]
 obtain ⟨X,hX⟩:∃X,Code.seq MW I5=X:=⟨_,rfl⟩
 obtain ⟨Y,hY⟩:∃Y,MU=Y:=⟨_,rfl⟩
 rw[hX,hY] at P5
 rw[hX,hY]
 obtain ⟨Q,hQ⟩:∃Q,bodyPost Tryz.prog Tryz.f151 (CP lo b g 64 nm ss N V W 2 sl r (mz g))=Q:=⟨_,rfl⟩
 rw[hQ] at P5 ⊢
 unfold XI
 dsimp only[Tryz.f151]
 simp only[List.size_toArray,List.length_cons,List.length_nil,Nat.reduceAdd,Nat.reduceSub,Array.replicate_succ,Array.replicate_zero,List.push_toArray,List.append_toArray,List.nil_append,List.cons_append]
 clear hX hY hQ
 go_wp2
 go_region
 all_goals (try go_wp2)
 ·exact (aa P5 _ ((aa HB).alloc (zD _) _).drew _ rfl rfl rfl).2
 ·exact (aa P5 _ ((aa HB).alloc (zD _) _).drew _ rfl rfl rfl).1
end
noncomputable def XH:Code:=match Tryz.f100.body with
 |some (.seq r _)=>r
 |_=>.skip
noncomputable def QS:Code:=match Tryz.f100.body with
 |some (.seq _ c)=>c
 |_=>.skip
theorem MK:Tryz.f100.body=some (.seq XH QS):=rfl
noncomputable def MO:Code:=match QS with
 |.cond _ (.seq r _) _=>r
 |_=>.skip
noncomputable def I3:Code:=match QS with
 |.cond _ (.seq _ r) _=>r
 |_=>.skip
noncomputable def MM:Code:=match QS with
 |.cond _ _ r=>r
 |_=>.skip
theorem I2:QS=.cond (.tmp 3) (.seq MO I3) MM:=rfl
section
variable {lo b g : Nat} {nm : ByteArray} {ss : List Slot} {N : (Nat → Prop) → World → Prop} {V W w0 : World} {s : aI} {sl : Slot} {r : Except (Int × Int) (Ms × aI)} {pm pr : Nat} {gR : Array Value} {R : Ending → World → Prop}
theorem ML (h:Ap lo b g 26 nm ss N V W s w0) (hN:aK N) (hi:ss[1]?=some sl) (dR:Fit 23 sl 160 (mz g)) (hn:sl.n≤100000) (cn:∀P w,N P w→∀c ∈ ([(pm,#[.pointer (some ⟨g,0,none⟩)],135),(pr,#[.pointer (some ⟨b,0,none⟩)],107)]:List (Nat×Array Value×TypeId)),aP c.1 c.2.1 c.2.2 P w) (cD:∀w s2 M,aK M→Ap lo b g 26 nm ss (fun P w=>N P w∧M P w) V W s2 w→s2=s→Calls Tryz.prog 101 #[.pointer (some ⟨b,0,none⟩)] w (CR lo b (mz g) w r))
  (hR:∀e w,CP lo b g 26 nm ss N V W 1 sl r (mz g) e w→R e w) (pA:gR.size=27) (k0:gR.getD 0 undef=.pointer (some ⟨pm,0,none⟩)) (k1:gR.getD 1 undef=.pointer (some ⟨pr,0,none⟩)):MM.wp Tryz.prog (bodyPost Tryz.prog Tryz.f100 R) ⟨gR,[]⟩ w0:=by
 obtain ⟨va,vn,vc,hv⟩:=aL (h.bx.own 1 sl hi)
 obtain ⟨ei,kT,mG,qe,fx⟩:=dR
 have ca:=Ph.base (lo:=lo) (b:=b) (g:=g) (T:=26) (nm:=nm) (V:=V) (W:=W) (s:=s) (r:=r) (N1:=mz g) cn hi
 have hd:=h.up hN (zE w0.heap.size w0).drew
 obtain ⟨Qb,oB⟩:∃Q,bodyPost Tryz.prog Tryz.f100 R=Q:=⟨_,rfl⟩
 rw[oB]
 unfold MM QS
 dsimp only[Tryz.f100]
 refine cN (z:=11) (N:=27) (c:=6) (by kernel_rfl) (fun k=>k+16) (fun k=>[.pointer (some ⟨g,0,none⟩),.pointer (some ⟨g,0,none⟩),.pointer (some ⟨g,0,none⟩),.pointer (some ⟨g,2,none⟩),sl.v,.pointer (some ⟨b,0,none⟩),undef,undef,undef,.pointer (some ⟨g,0,none⟩),.pointer (some ⟨g,2,none⟩)].getD k undef) (Ph lo b g 26 nm ss N V W s sl r (mz g)) _ w0 rfl pA (fun i j _ _ e=>by omega) (fun i hi=>by omega) (by kernel_rfl) (by omega) (by kernel_rfl) (by kernel_rfl) (by kernel_rfl) hd ?_ ?_ ?_ ?_ ?_
 ·intro k tm w hk hq bR bW aV bA
  obtain ⟨ph,x,bA⟩:=bA
  have hB:=ca ph x w bA
  match k,hk with
  |0,_=>exact aS rfl rfl _ (.tmp 0) rfl ((bW 0 (by intro i hi;omega)).trans k0) (gh w (hB.cell (List.mem_cons_self ..) rfl)) ⟨rfl,rfl⟩
  |1,_=>exact aS rfl rfl _ (.tmp 0) rfl ((bW 0 (by intro i hi;omega)).trans k0) (gh w (hB.cell (List.mem_cons_self ..) rfl)) ⟨rfl,rfl⟩
  |2,_=>exact aY rfl rfl (.tmp 17) rfl (aV 1 (by omega) (by kernel_rfl)) ⟨rfl,rfl⟩
  |3,_=>exact bI rfl rfl _ (.tmp 18) _ rfl (aV 2 (by omega) (by kernel_rfl)) (pJ w) ⟨rfl,rfl⟩
  |4,_=>exact aS rfl rfl _ (.tmp 19) rfl (aV 3 (by omega) (by kernel_rfl)) (by rw[hv];exact tV w (by rw[←hv];exact hB.row hi)) ⟨rfl,rfl⟩
  |5,_=>exact aS rfl rfl _ (.tmp 1) rfl ((bW 1 (by intro i hi;omega)).trans k1) (cJ w (hB.cell (zF _ (List.mem_cons_self ..)) rfl)) ⟨rfl,rfl⟩
  |6,_=>omega
  |7,_=>omega
  |8,_=>omega
  |9,_=>exact aY rfl rfl (.tmp 16) rfl (aV 0 (by omega) (by kernel_rfl)) ⟨rfl,rfl⟩
  |10,_=>exact bI rfl rfl _ (.tmp 25) _ rfl (aV 9 (by omega) (by kernel_rfl)) (pJ w) ⟨rfl,rfl⟩
 ·intro tm w bR bW aV bA
  have aZ:Ap lo b g 26 nm ss N V W s w:=bA
  refine b9 rfl rfl 101 (kH w) _ _ rfl #[.pointer (some ⟨b,0,none⟩)] ?_ (cD w s (fun _ _=>True) mI (aZ.imp (fun h=>⟨h,trivial⟩)) rfl) ?_
  ·simp only[List.map_toArray,List.map_cons,List.map_nil,Act.eval]
   rw[show tm.getD 21 undef=_ from aV 5 (by omega) (by kernel_rfl)]
   rfl
  ·intro e w' jD
   rcases Ph.call hN (fB g) bA jD with ⟨x,rfl,h1⟩|⟨y,hr,rfl,hs⟩
   ·exact .inl ⟨x,rfl,x,rfl,h1⟩
   ·exact .inr ⟨_,rfl,by rw[←oB];exact ⟨rfl,hR _ _ (by unfold CP;rw[hr];exact ⟨rfl,hs⟩)⟩⟩
 ·intro tm w x bR hx bA
  obtain ⟨a,s',hr,ep,aZ⟩:=id bA
  obtain ⟨f1,f2,f3⟩:=fx a x _ _ ep
  exact jt rfl rfl _ _ _ rfl #[(0,x)] (by simp only[List.map_toArray,List.map_cons,List.map_nil,Act.eval];rw[show tm.getD 22 undef=x from hx]) (f3 w) ⟨_,rfl,Ph.bs hN (fB g) bA⟩
 ·intro tm w y bR aV hy bA
  obtain ⟨a,s',x,gy,hr,rfl,qD,ep,aZ⟩:=id bA
  obtain ⟨f1,f2,f3⟩:=fx a x _ _ ep
  have hl:=aZ.bx.lt
  refine bT w rfl rfl (.tmp 20) (.tmp 23) 23 rfl (g+1) sl.t sl.sz 160 kT ei mG sl.v sl.n sl.xs (aV 4 (by omega) (by kernel_rfl)) (aZ.bx.own 1 sl hi) ⟨gy,0,none⟩ 1 1 x.cells.toList hy (by rw[Array.length_toList,f1];omega) (du qD) f2 (by unfold maxLen;omega) (by omega) (by omega) ?_
  intro v' w' h1 h2 h3
  exact ⟨v',rfl,Ph.app hr aZ h2 h1 h3⟩
 ·intro tm w y bR bW cZ hy bA
  have hB:=ca 3 y w bA
  obtain ⟨a,s',x,w2,hr,h1,h2,h3,h4⟩:=id bA
  obtain ⟨ya,yn,yc,rfl⟩:=aL h3
  refine dv rfl rfl _ (.tmp 26) (.tmp 24) rfl (cZ 10 (by omega) (by omega)) hy (tO w (hB.row hi) (hB.frozen _)) ?_
  rw[←oB]
  go_end0
  exact hR _ _ (Ph.last hN (fB g) hi bA)
theorem MN (h:Ap lo b g 26 nm ss N V W s w0) (hN:aK N) (hi:ss[1]?=some sl) (dR:Fit 23 sl 160 (mz g)) (hn:sl.n≤100000) (cn:∀P w,N P w→∀c ∈ ([(pm,#[.pointer (some ⟨g,0,none⟩)],135),(pr,#[.pointer (some ⟨b,0,none⟩)],107)]:List (Nat×Array Value×TypeId)),aP c.1 c.2.1 c.2.2 P w) (cD:∀w s2 M,aK M→Ap lo b g 26 nm ss (fun P w=>N P w∧M P w) V W s2 w→s2=s→Calls Tryz.prog 101 #[.pointer (some ⟨b,0,none⟩)] w (CR lo b (mz g) w r))
  (hR:∀e w,CP lo b g 26 nm ss N V W 1 sl r (mz g) e w→R e w) (pA:gR.size=27) (k0:gR.getD 0 undef=.pointer (some ⟨pm,0,none⟩)) (k1:gR.getD 1 undef=.pointer (some ⟨pr,0,none⟩)):(Code.seq MO I3).wp Tryz.prog (bodyPost Tryz.prog Tryz.f100 R) ⟨gR,[]⟩ w0:=by
 obtain ⟨va,vc,hv⟩:=bK (h.bx.own 1 sl hi)
 obtain ⟨ei,kT,mG,qe,fx⟩:=dR
 have e7:sl.sz=7:=by
  obtain ⟨i1,z1,h1,h2,h3,h4,h5⟩:=ei
  obtain ⟨i2,z2,g1,g2,g3,g4,g5⟩:=Mr
  have:sl.t=64:=by
   have h9:Tryz.prog.underlying 23=some (.slice 64):=by kernel_rfl
   rw[h9] at kT
   simpa using kT.symm
  rw[this] at h1
  rw[h1] at g1
  obtain rfl:=zC g1
  omega
 have et:sl.t=64:=by
  have h9:Tryz.prog.underlying 23=some (.slice 64):=by kernel_rfl
  rw[h9] at kT
  simpa using kT.symm
 refine wp_seq ?_
 obtain ⟨R2,QL⟩:∃c,I3=c:=⟨_,rfl⟩
 rw[QL]
 obtain ⟨Qb,oB⟩:∃Q,bodyPost Tryz.prog Tryz.f100 R=Q:=⟨_,rfl⟩
 rw[oB]
 unfold MO QS
 dsimp only[Tryz.f100]
 refine ot (z:=11) (N:=27) (by kernel_rfl) (fun k=>k+4) (fun d tm w=>(∀j,j<11→j≠5→j≠7→j≠8→d.getD j false=true→tm.getD (j+4) undef=[.pointer (some ⟨g,0,none⟩),.pointer (some ⟨g,0,none⟩),.pointer (some ⟨g,2,none⟩),sl.v,.pointer (some ⟨b,0,none⟩),undef,.int .i64 (sl.n:Int),undef,undef,.pointer (some ⟨g,0,none⟩),.pointer (some ⟨g,2,none⟩)].getD j undef)∧((d.getD 8 false=false∧PA lo b g 26 nm ss N V W s r (d.getD 5 false) (tm.getD 9 undef) (d.getD 7 false) (tm.getD 11 undef) w)∨(d.getD 8 false=true∧d.getD 5 false=true∧d.getD 7 false=true∧PB lo b g 26 nm ss N V W sl r (tm.getD 9 undef) (tm.getD 12 undef) w))) _ w0 rfl pA (fun i hi=>by omega) (by kernel_rfl) (by kernel_rfl) ?_ ?_ ?_
 ·intro d hd _
  refine ⟨fun j _ _ _ _ h=>(by rw[hd j] at h;cases h),.inl ⟨hd 8,?_⟩⟩
  rw[hd 5,hd 7]
  obtain ⟨M,s2,q1,q2,q3,q4⟩:=PA.drew (r:=r) hN h
  exact ⟨M,s2,q1,q2,q3,q4⟩
 ·intro k d tm w hk hd gj rR hw bR bW hG
  obtain ⟨kO,xH⟩:=hG
  have hB:Bs g 26 nm ss [(pm,#[.pointer (some ⟨g,0,none⟩)],135),(pr,#[.pointer (some ⟨b,0,none⟩)],107)] w:=by
   rcases xH with ⟨_,q⟩|⟨_,_,_,q⟩
   ·exact q.base cn
   ·exact q.base cn hi
  have hq:∀v,v=[.pointer (some ⟨g,0,none⟩),.pointer (some ⟨g,0,none⟩),.pointer (some ⟨g,2,none⟩),sl.v,.pointer (some ⟨b,0,none⟩),undef,.int .i64 (sl.n:Int),undef,undef,.pointer (some ⟨g,0,none⟩),.pointer (some ⟨g,2,none⟩)].getD k undef→k≠5→k≠7→k≠8→(∀j,j<11→j≠5→j≠7→j≠8→(d.setIfInBounds k true).getD j false=true→(tm.setIfInBounds (k+4) v).getD (j+4) undef=[.pointer (some ⟨g,0,none⟩),.pointer (some ⟨g,0,none⟩),.pointer (some ⟨g,2,none⟩),sl.v,.pointer (some ⟨b,0,none⟩),undef,.int .i64 (sl.n:Int),undef,undef,.pointer (some ⟨g,0,none⟩),.pointer (some ⟨g,2,none⟩)].getD j undef)∧(((d.setIfInBounds k true).getD 8 false=false∧PA lo b g 26 nm ss N V W s r ((d.setIfInBounds k true).getD 5 false) ((tm.setIfInBounds (k+4) v).getD 9 undef) ((d.setIfInBounds k true).getD 7 false) ((tm.setIfInBounds (k+4) v).getD 11 undef) w)∨((d.setIfInBounds k true).getD 8 false=true∧(d.setIfInBounds k true).getD 5 false=true∧(d.setIfInBounds k true).getD 7 false=true∧PB lo b g 26 nm ss N V W sl r ((tm.setIfInBounds (k+4) v).getD 9 undef) ((tm.setIfInBounds (k+4) v).getD 12 undef) w)):=by
   intro v hv h5 h7 h8
   refine ⟨fun j hj n5 n7 n8 pD=>?_,?_⟩
   ·by_cases e:j=k
    ·subst e
     rw[bQ (by omega)]
     exact hv
    ·rw[aB (Ne.symm e)] at pD
     rw[aB (by omega)]
     exact kO j hj n5 n7 n8 pD
   ·rw[aB h8,aB h5,aB h7,aB (show k+4≠9 by omega),aB (show k+4≠11 by omega),aB (show k+4≠12 by omega)]
    exact xH
  match k,hk with
  |0,_=>exact aS rfl rfl _ (.tmp 0) rfl ((bW 0 (by intro i hi;omega)).trans k0) (gh w (hB.cell (List.mem_cons_self ..) rfl)) ⟨_,rfl,hq _ rfl (by omega) (by omega) (by omega)⟩
  |1,_=>exact aY rfl rfl (.tmp 4) rfl (kO 0 (by omega) (by omega) (by omega) (by omega) (hw 0 (by kernel_rfl)).2) ⟨_,rfl,hq _ rfl (by omega) (by omega) (by omega)⟩
  |2,_=>exact bI rfl rfl _ (.tmp 5) _ rfl (kO 1 (by omega) (by omega) (by omega) (by omega) (hw 1 (by kernel_rfl)).2) (pJ w) ⟨_,rfl,hq _ rfl (by omega) (by omega) (by omega)⟩
  |3,_=>exact aS rfl rfl _ (.tmp 6) rfl (kO 2 (by omega) (by omega) (by omega) (by omega) (hw 2 (by kernel_rfl)).2) (by rw[hv];exact tV w (by rw[←hv];exact hB.row hi)) ⟨_,rfl,hq _ hv.symm (by omega) (by omega) (by omega)⟩
  |4,_=>exact aS rfl rfl _ (.tmp 1) rfl ((bW 1 (by intro i hi;omega)).trans k1) (cJ w (hB.cell (zF _ (List.mem_cons_self ..)) rfl)) ⟨_,rfl,hq _ rfl (by omega) (by omega) (by omega)⟩
  |5,_ =>
   have Ef:d.getD 8 false=false∧PA lo b g 26 nm ss N V W s r false (tm.getD 9 undef) (d.getD 7 false) (tm.getD 11 undef) w:=by
    rcases xH with ⟨q1,q2⟩|⟨_,q,_⟩
    ·rw[rR] at q2
     exact ⟨q1,q2⟩
    ·rw[q] at rR;cases rR
   obtain ⟨Ef,Iz⟩:=Ef
   obtain ⟨M,s2,hM,aZ,Ec,_⟩:=id Iz
   rw[if_neg (by simp)] at Ec
   refine b9 rfl rfl 101 (kH w) _ _ rfl #[.pointer (some ⟨b,0,none⟩)] ?_ (cD w s2 M hM aZ Ec) ?_
   ·simp only[List.map_toArray,List.map_cons,List.map_nil,Act.eval]
    rw[show tm.getD 8 undef=_ from kO 4 (by omega) (by omega) (by omega) (by omega) (hw 4 (by kernel_rfl)).2]
    rfl
   ·intro e w' jD
    rcases PA.call hN Iz jD with ⟨x,rfl,h1⟩|⟨y,hr,rfl,hs⟩
    ·refine .inl ⟨x,rfl,x,rfl,fun j hj n5 n7 n8 pD=>?_,.inl ⟨?_,?_⟩⟩
     ·rw[aB (Ne.symm n5)] at pD
      rw[aB (by omega)]
      exact kO j hj n5 n7 n8 pD
     ·rw[aB (by omega)]
      exact Ef
     ·rw[bQ (by omega),bQ (by omega),aB (by omega),aB (by omega)]
      exact h1
    ·exact .inr ⟨_,rfl,by show Qb (Exit.panic _) _ _;rw[←oB];exact ⟨rfl,hR _ _ (by unfold CP;rw[hr];exact ⟨rfl,hs⟩)⟩⟩
  |6,_=>exact DT rfl rfl (.tmp 7) 23 64 rfl Tryz.underlying23 ((kO 3 (by omega) (by omega) (by omega) (by omega) (hw 3 (by kernel_rfl)).2).trans hv) ⟨_,rfl,hq _ rfl (by omega) (by omega) (by omega)⟩
  |7,_ =>
   have Ef:d.getD 8 false=false∧PA lo b g 26 nm ss N V W s r (d.getD 5 false) (tm.getD 9 undef) false (tm.getD 11 undef) w:=by
    rcases xH with ⟨q1,q2⟩|⟨_,_,q,_⟩
    ·rw[rR] at q2
     exact ⟨q1,q2⟩
    ·rw[q] at rR;cases rR
   obtain ⟨Ef,Iz⟩:=Ef
   refine jt rfl rfl _ _ _ rfl #[(0,.agg gE)] (by simp only[List.map_toArray,List.map_cons,List.map_nil,Act.eval];rfl) (Gj w) ⟨_,rfl,fun j hj n5 n7 n8 pD=>?_,.inl ⟨?_,?_⟩⟩
   ·rw[aB (Ne.symm n7)] at pD
    rw[aB (by omega)]
    exact kO j hj n5 n7 n8 pD
   ·rw[aB (by omega)]
    exact Ef
   ·rw[aB (by omega),aB (by omega),bQ (by omega),bQ (by omega)]
    exact Iz.bs hN
  |8,_ =>
   have UJ:=(hw 5 (by kernel_rfl)).2
   have W6:=(hw 7 (by kernel_rfl)).2
   have Iz:PA lo b g 26 nm ss N V W s r true (tm.getD 9 undef) true (tm.getD 11 undef) w:=by
    rcases xH with ⟨_,q⟩|⟨q,_⟩
    ·rw[UJ,W6] at q
     exact q
    ·rw[q] at rR;cases rR
   obtain ⟨M,s2,hM,aZ,hx,hy⟩:=Iz
   rw[if_pos rfl] at hx hy
   obtain ⟨a,hr,jd⟩:=hx
   obtain ⟨gy,hy,hz⟩:=hy
   have hl:=aZ.bx.lt
   refine bT w rfl rfl (.tmp 7) (.tmp 11) 23 rfl (g+1) sl.t sl.sz 160 kT ei mG sl.v sl.n sl.xs (kO 3 (by omega) (by omega) (by omega) (by omega) (hw 3 (by kernel_rfl)).2) (aZ.bx.own 1 sl hi) ⟨gy,0,none⟩ 1 1 gE.toList hy (by rw[e7];rfl) (du (x:=.agg gE) (hz _ _ aZ.nx.2).1) ?_ (by unfold maxLen;omega) (by omega) (by omega) ?_
   ·intro u hu
    simp only[gE,List.mem_cons,List.not_mem_nil,or_false] at hu
    rcases hu with rfl|rfl|rfl|rfl|rfl|rfl|rfl<;>rfl
   ·intro v' w' h1 h2 h3
    refine ⟨v',rfl,fun j hj n5 n7 n8 pD=>?_,.inr ⟨bQ (by omega),?_,?_,?_⟩⟩
    ·rw[aB (Ne.symm n8)] at pD
     rw[aB (by omega)]
     exact kO j hj n5 n7 n8 pD
    ·rw[aB (by omega)]
     exact UJ
    ·rw[aB (by omega)]
     exact W6
    ·rw[aB (by omega),bQ (by omega)]
     exact ⟨M,a,s2,w,hr,hM,jd,aZ,h2,h1,h3⟩
  |9,_=>exact aY rfl rfl (.tmp 4) rfl (kO 0 (by omega) (by omega) (by omega) (by omega) (hw 0 (by kernel_rfl)).2) ⟨_,rfl,hq _ rfl (by omega) (by omega) (by omega)⟩
  |10,_=>exact bI rfl rfl _ (.tmp 13) _ rfl (kO 9 (by omega) (by omega) (by omega) (by omega) (hw 9 (by kernel_rfl)).2) (pJ w) ⟨_,rfl,hq _ rfl (by omega) (by omega) (by omega)⟩
 ·intro d tm w jv bR bW hG
  obtain ⟨kO,xH⟩:=hG
  have Wo:PB lo b g 26 nm ss N V W sl r (tm.getD 9 undef) (tm.getD 12 undef) w:=by
   rcases xH with ⟨q,_⟩|⟨_,_,_,q⟩
   ·rw[jv 8 (by omega)] at q;cases q
   ·exact q
  have hB:=Wo.base cn hi
  obtain ⟨M,a,s2,w2,hr,hM,jd,aZ,hg,ho,hl⟩:=Wo
  have S5:=kO 6 (by omega) (by omega) (by omega) (by omega) (jv 6 (by omega))
  have Xs:=kO 10 (by omega) (by omega) (by omega) (by omega) (jv 10 (by omega))
  obtain ⟨k,c,Lg⟩:∃k c,tm.getD 12 undef=.slice (some ⟨k,0,none⟩) (sl.n+1) c:=by
   rcases ho.2 with ⟨_,e0⟩|⟨k,c,_,e,_⟩
   ·omega
   ·exact ⟨k,c,e⟩
  have hlen:=(h.bx.own 1 sl hi).1
  rw[e7] at hlen
  refine dv rfl rfl _ (.tmp 14) (.tmp 12) rfl Xs Lg (tO w (hB.row hi) (hB.frozen _)) ?_
  have gp:=aZ.app (hN.and hM) hi hg ho hl
  rw[Lg] at gp
  show R2.wp Tryz.prog Qb ⟨tm,[]⟩ _
  obtain ⟨⟨l⟩,ON,jQ⟩:=jd _ _ gp.nx.2
  obtain ⟨wz,V3⟩:∃wz,w.setCell ⟨g,2,none⟩ (.slice (some ⟨k,0,none⟩) (sl.n+1) c)=wz:=⟨_,rfl⟩
  rw[V3] at gp jQ ⊢
  cases jQ with
  |cons hf Ag hm jQ he mx xG p9 ht =>
   cases ht
   obtain ⟨fa,fn,fc,rfl⟩:=aL hf.1
   obtain ⟨oa,on,oc,rfl⟩:=aL Ag.1
   obtain ⟨ma,mn,mc,rfl⟩:=aL hm.1
   obtain ⟨ea,en,ec,rfl⟩:=aL he.1
   obtain ⟨ra,rn,rc,rfl⟩:=aL xG.1
   obtain ⟨ga,gn,gc,rfl⟩:=aL p9.1
   rename_i OD _ _ _ _ _ _ _ _
   have cC:=gp.bx.own 1 _ (fH hi _)
   simp only[e7,et] at cC gp
   have dw:∀t u,gE.toList[t]?=some u→wz.cell? ⟨k,sl.n*7+t,none⟩=some u:=fun t u ht=>by
    have cc:t<7:=(zB ht).1
    rw[World.ownsRow.cellAt cC (sl.n*7+t) (by omega),←hlen,List.getElem?_append_right (Nat.le_add_right _ _),Nat.add_sub_cancel_left]
    exact ht
   have y0:=dw 0 _ rfl
   have y1:=dw 1 _ rfl
   have y2:=dw 2 _ rfl
   have y3:=dw 3 _ rfl
   have y4:=dw 4 _ rfl
   have y5:=dw 5 _ rfl
   have y6:=dw 6 _ rfl
   have z0:=World.ownsRow.frozenAt cC (sl.n*7)
   have z1:=World.ownsRow.frozenAt cC (sl.n*7+1)
   have z2:=World.ownsRow.frozenAt cC (sl.n*7+2)
   have z3:=World.ownsRow.frozenAt cC (sl.n*7+3)
   have z4:=World.ownsRow.frozenAt cC (sl.n*7+4)
   have z5:=World.ownsRow.frozenAt cC (sl.n*7+5)
   have z6:=World.ownsRow.frozenAt cC (sl.n*7+6)
   rw[Nat.add_zero] at y0
   have nG:=Ap.BA hi gp (hN.and hM) rfl hlen (.string OD) (.slice fa fn fc) (.slice oa on oc) (.slice ma mn mc) (.slice ea en ec) (.slice ra rn rc) (.slice ga gn gc)
   have HE:Hid (R (.returned (.tuple #[])) (BA wz k (sl.n*7) (.string OD) (.slice fa fn fc) (.slice oa on oc) (.slice ma mn mc) (.slice ea en ec) (.slice ra rn rc) (.slice ga gn gc))):=by
    refine hR _ _ ?_
    unfold CP
    rw[hr]
    refine ⟨rfl,tm.getD 9 undef,.slice (some ⟨k,0,none⟩) (sl.n+1) c,?_⟩
    rw[e7,et]
    have Ae:(tm.getD 9 undef).cells.toList=[.string OD,.slice fa fn fc,.slice oa on oc,.slice ma mn mc,.slice ea en ec,.slice ra rn rc,.slice ga gn gc]:=by rw[ON];rfl
    rw[Ae]
    exact nG.imp (fun h=>⟨h.1,jd _ _ h.2⟩)
   obtain ⟨u,hu⟩:=F5 bR
   have q9:u 9=.agg #[.string OD,.slice fa fn fc,.slice oa on oc,.slice ma mn mc,.slice ea en ec,.slice ra rn rc,.slice ga gn gc]:=by rw[hu] at ON;exact ON
   have Dc:u 10=.int .i64 (sl.n:Int):=by rw[hu] at S5;exact S5
   have VI:u 12=.slice (some ⟨k,0,none⟩) (sl.n+1) c:=by rw[hu] at Lg;exact Lg
   rw[hu,q9,Dc,VI,←QL]
   obtain ⟨L,hL⟩:∃L,sl.n+1=L:=⟨_,rfl⟩
   rw[hL]
   obtain ⟨n,Wx⟩:∃n,sl.n=n:=⟨_,rfl⟩
   rw[Wx] at y0 y1 y2 y3 y4 y5 y6 z0 z1 z2 z3 z4 z5 z6 HE hL hn ⊢
   have n0:(0:Int)≤(n:Int):=zH _
   have n1:(n:Int)<(L:Int):=by omega
   have n2:n≤100000:=hn
   unfold BA at HE
   unfold I3 QS
   dsimp only[Tryz.f100]
   clear nG gp cC dw ON S5 Lg q9 Dc VI hu hf Ag hm jQ he mx xG p9 kO xH bW jv bR hB aZ hg ho hl Xs V3 hL Wx hlen jd hM hr h hN hi ei kT mG qe fx cn cD hR hv e7 et hn k0 k1 pA
   go_wp2
   rw[←oB]
   go_end0
   exact aa HE
theorem TG (h:Ap lo b g 26 nm ss N V W s w0) (hN:aK N) (hi:ss[1]?=some sl) (dR:Fit 23 sl 160 (mz g)) (hn:sl.n≤100000) (cn:∀P w,N P w→∀c ∈ ([(pm,#[.pointer (some ⟨g,0,none⟩)],135),(pr,#[.pointer (some ⟨b,0,none⟩)],107)]:List (Nat×Array Value×TypeId)),aP c.1 c.2.1 c.2.2 P w) (cD:∀w s2 M,aK M→Ap lo b g 26 nm ss (fun P w=>N P w∧M P w) V W s2 w→s2=s→Calls Tryz.prog 101 #[.pointer (some ⟨b,0,none⟩)] w (CR lo b (mz g) w r)) :
  Calls Tryz.prog 100 #[.pointer (some ⟨pm,0,none⟩),.pointer (some ⟨pr,0,none⟩)] w0 (CP lo b g 26 nm ss N V W 1 sl r (mz g)):=by
 have HX:∀w,Below w0.heap.size w0 w→∀gR:Array Value,gR.size=27→gR.getD 0 undef=.pointer (some ⟨pm,0,none⟩)→gR.getD 1 undef=.pointer (some ⟨pr,0,none⟩)→(Code.seq MO I3).wp Tryz.prog (bodyPost Tryz.prog Tryz.f100 (CP lo b g 26 nm ss N V W 1 sl r (mz g))) ⟨gR,[]⟩ w∧MM.wp Tryz.prog (bodyPost Tryz.prog Tryz.f100 (CP lo b g 26 nm ss N V W 1 sl r (mz g))) ⟨gR,[]⟩ w:=fun w hb gR h1 h2 h3 =>
  ⟨MN (h.up hN hb) hN hi dR hn cn cD (fun _ _ h=>h) h1 h2 h3,ML (h.up hN hb) hN hi dR hn cn cD (fun _ _ h=>h) h1 h2 h3⟩
 have P5:=aj HX
 have HB:=aj (zE w0.heap.size w0)
 clear HX h hN hi dR hn cn cD
 refine calls_of_wp Tryz.func100 MK ?_
 rw[I2]
 obtain ⟨X,hX⟩:∃X,Code.seq MO I3=X:=⟨_,rfl⟩
 obtain ⟨Y,hY⟩:∃Y,MM=Y:=⟨_,rfl⟩
 rw[hX,hY] at P5
 rw[hX,hY]
 obtain ⟨Q,hQ⟩:∃Q,bodyPost Tryz.prog Tryz.f100 (CP lo b g 26 nm ss N V W 1 sl r (mz g))=Q:=⟨_,rfl⟩
 rw[hQ] at P5 ⊢
 unfold XH
 dsimp only[Tryz.f100]
 simp only[List.size_toArray,List.length_cons,List.length_nil,Nat.reduceAdd,Nat.reduceSub,Array.replicate_succ,Array.replicate_zero,List.push_toArray,List.append_toArray,List.nil_append,List.cons_append]
 clear hX hY hQ
 go_wp2
 go_region
 all_goals (try go_wp2)
 ·exact (aa P5 _ ((aa HB).alloc (zD _) _).drew _ rfl rfl rfl).2
 ·exact (aa P5 _ ((aa HB).alloc (zD _) _).drew _ rfl rfl rfl).1
end
end Go.Proofs.YtmlphohdcejniaaGreatDoor

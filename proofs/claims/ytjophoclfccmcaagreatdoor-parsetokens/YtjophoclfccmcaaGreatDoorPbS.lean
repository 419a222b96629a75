import Derived.Test.YtjophoclfccmcaaGreatDoorM24
set_option maxHeartbeats 4000000
set_option maxRecDepth 100000
namespace Go.Proofs.YtjophoclfccmcaaGreatDoor
open Go.RowKit
attribute [local go_sem ↓] Go.wp_at_zero Go.wp_at_succ
theorem Ap.Dl {lo b g T:Nat}{nm:ByteArray}{ss:List Slot}{N:(Nat→Prop)→World→Prop}{V W w:World}{s:ay}{i k n:Nat}{t:TypeId}{v:Value}{xs:List Value}{z:Slot} (hz:ss[i]?=some z) (h:Ap lo b g T nm (ss.set i ⟨t,7,v,n+1,xs++iy.toList⟩) N V W s w) (hN:aQ N) (hk:v.ownBlock=some k) (hn:xs.length=n*7) (u0 u1 u2 u3 u4 u5 u6:Value) :
  Ap lo b g T nm (ss.set i ⟨t,7,v,n+1,xs++[u0,u1,u2,u3,u4,u5,u6]⟩) N V W s (Dl w k (n*7) u0 u1 u2 u3 u4 u5 u6):=by
 have h0:=h.setRow hN (fW hz _) hk (n*7) u0
 rw[iQ] at h0
 have h1:=h0.setRow hN (fW hz _) hk (n*7+1) u1
 rw[iQ] at h1
 have h2:=h1.setRow hN (fW hz _) hk (n*7+2) u2
 rw[iQ] at h2
 have h3:=h2.setRow hN (fW hz _) hk (n*7+3) u3
 rw[iQ] at h3
 have h4:=h3.setRow hN (fW hz _) hk (n*7+4) u4
 rw[iQ] at h4
 have h5:=h4.setRow hN (fW hz _) hk (n*7+5) u5
 rw[iQ] at h5
 have h6:=h5.setRow hN (fW hz _) hk (n*7+6) u6
 rw[iQ] at h6
 simp only at h6
 rw[show iy.toList=[.string ⟨#[]⟩,.slice none 0 0,.slice none 0 0,.slice none 0 0,.slice none 0 0,.slice none 0 0,.slice none 0 0] from rfl,JT xs n hn] at h6
 exact h6
theorem IV {tm:Array Value} (h:tm.size=27):∃u:Nat→Value,tm=#[u 0,u 1,u 2,u 3,u 4,u 5,u 6,u 7,u 8,u 9,u 10,u 11,u 12,u 13,u 14,u 15,u 16,u 17,u 18,u 19,u 20,u 21,u 22,u 23,u 24,u 25,u 26]:=by
 refine ⟨fun i=>tm.getD i undef,?_⟩
 have e:tm=((List.range 27).map fun i=>tm.getD i undef).toArray:=by
  apply Array.ext
  ·simp[h]
  ·intro i h1 h2
   simp[Array.getD,h1]
 exact e.trans rfl
noncomputable def aaD:Code:=match Tryz.f144.body with
 |some (.seq r _)=>r
 |_=>.skip
noncomputable def T9:Code:=match Tryz.f144.body with
 |some (.seq _ c)=>c
 |_=>.skip
theorem PD:Tryz.f144.body=some (.seq aaD T9):=rfl
noncomputable def PH:Code:=match T9 with
 |.cond _ (.seq r _) _=>r
 |_=>.skip
noncomputable def Lj:Code:=match T9 with
 |.cond _ (.seq _ r) _=>r
 |_=>.skip
noncomputable def PF:Code:=match T9 with
 |.cond _ _ r=>r
 |_=>.skip
theorem Li:T9=.cond (.tmp 3) (.seq PH Lj) PF:=rfl
section
variable {lo b g : Nat} {nm : ByteArray} {ss : List Slot} {N : (Nat → Prop) → World → Prop} {V W w0 : World} {s : ay} {sl : Slot} {r : Except (Int × Int) (Ms × ay)} {pm pr : Nat} {iP : Array Value} {R : Ending → World → Prop}
theorem PE (h:Ap lo b g 49 nm ss N V W s w0) (hN:aQ N) (hi:ss[2]?=some sl) (eo:Fit 24 sl 160 (nE g)) (hn:sl.n≤100000) (eP:∀P w,N P w→∀c ∈ ([(pm,#[.pointer (some ⟨g,0,none⟩)],158),(pr,#[.pointer (some ⟨b,0,none⟩)],74)]:List (Nat×Array Value×TypeId)),aW c.1 c.2.1 c.2.2 P w) (c8:∀w s2 M,aQ M→Ap lo b g 49 nm ss (fun P w=>N P w∧M P w) V W s2 w→s2=s→Calls Tryz.prog 103 #[.pointer (some ⟨b,0,none⟩)] w (CR lo b (nE g) w r))
  (hR:∀e w,CP lo b g 49 nm ss N V W 2 sl r (nE g) e w→R e w) (pn:iP.size=27) (k0:iP.getD 0 undef=.pointer (some ⟨pm,0,none⟩)) (k1:iP.getD 1 undef=.pointer (some ⟨pr,0,none⟩)):PF.wp Tryz.prog (bodyPost Tryz.prog Tryz.f144 R) ⟨iP,[]⟩ w0:=by
 obtain ⟨va,vn,vc,hv⟩:=aU (h.bx.own 2 sl hi)
 obtain ⟨ei,mj,pd,sd,fx⟩:=eo
 have cJ:=Ph.base (lo:=lo) (b:=b) (g:=g) (T:=49) (nm:=nm) (V:=V) (W:=W) (s:=s) (r:=r) (N1:=nE g) eP hi
 have hd:=h.up hN (zE w0.heap.size w0).drew
 obtain ⟨Qb,ql⟩:∃Q,bodyPost Tryz.prog Tryz.f144 R=Q:=⟨_,rfl⟩
 rw[ql]
 unfold PF T9
 dsimp only[Tryz.f144]
 refine du (z:=11) (N:=27) (c:=6) (by kernel_rfl) (fun k=>k+16) (fun k=>[.pointer (some ⟨g,0,none⟩),.pointer (some ⟨g,0,none⟩),.pointer (some ⟨g,0,none⟩),.pointer (some ⟨g,3,none⟩),sl.v,.pointer (some ⟨b,0,none⟩),undef,undef,undef,.pointer (some ⟨g,0,none⟩),.pointer (some ⟨g,3,none⟩)].getD k undef) (Ph lo b g 49 nm ss N V W s sl r (nE g)) _ w0 rfl pn (fun i j _ _ e=>by omega) (fun i hi=>by omega) (by kernel_rfl) (by omega) (by kernel_rfl) (by kernel_rfl) (by kernel_rfl) hd ?_ ?_ ?_ ?_ ?_
 ·intro k tm w hk hq ck cA a8 bJ
  obtain ⟨ph,x,bJ⟩:=bJ
  have hB:=cJ ph x w bJ
  match k,hk with
  |0,_=>exact aY rfl rfl _ (.tmp 0) rfl ((cA 0 (by intro i hi;omega)).trans k0) (cT w (hB.cell (List.mem_cons_self ..) rfl)) ⟨rfl,rfl⟩
  |1,_=>exact aY rfl rfl _ (.tmp 0) rfl ((cA 0 (by intro i hi;omega)).trans k0) (cT w (hB.cell (List.mem_cons_self ..) rfl)) ⟨rfl,rfl⟩
  |2,_=>exact bc rfl rfl (.tmp 17) rfl (a8 1 (by omega) (by kernel_rfl)) ⟨rfl,rfl⟩
  |3,_=>exact bV rfl rfl _ (.tmp 18) _ rfl (a8 2 (by omega) (by kernel_rfl)) (xw w) ⟨rfl,rfl⟩
  |4,_=>exact aY rfl rfl _ (.tmp 19) rfl (a8 3 (by omega) (by kernel_rfl)) (by rw[hv];exact xt w (by rw[←hv];exact hB.row hi)) ⟨rfl,rfl⟩
  |5,_=>exact aY rfl rfl _ (.tmp 1) rfl ((cA 1 (by intro i hi;omega)).trans k1) (dh w (hB.cell (zF _ (List.mem_cons_self ..)) rfl)) ⟨rfl,rfl⟩
  |6,_=>omega
  |7,_=>omega
  |8,_=>omega
  |9,_=>exact bc rfl rfl (.tmp 16) rfl (a8 0 (by omega) (by kernel_rfl)) ⟨rfl,rfl⟩
  |10,_=>exact bV rfl rfl _ (.tmp 25) _ rfl (a8 9 (by omega) (by kernel_rfl)) (xw w) ⟨rfl,rfl⟩
 ·intro tm w ck cA a8 bJ
  have bd:Ap lo b g 49 nm ss N V W s w:=bJ
  refine cF rfl rfl 103 (lL w) _ _ rfl #[.pointer (some ⟨b,0,none⟩)] ?_ (c8 w s (fun _ _=>True) nR (bd.imp (fun h=>⟨h,trivial⟩)) rfl) ?_
  ·simp only[List.map_toArray,List.map_cons,List.map_nil,Act.eval]
   rw[show tm.getD 21 undef=_ from a8 5 (by omega) (by kernel_rfl)]
   rfl
  ·intro e w' kz
   rcases Ph.call hN (fQ g) bJ kz with ⟨x,rfl,h1⟩|⟨y,hr,rfl,hs⟩
   ·exact .inl ⟨x,rfl,x,rfl,h1⟩
   ·exact .inr ⟨_,rfl,by rw[←ql];exact ⟨rfl,hR _ _ (by unfold CP;rw[hr];exact ⟨rfl,hs⟩)⟩⟩
 ·intro tm w x ck hx bJ
  obtain ⟨a,s',hr,iK,bd⟩:=id bJ
  obtain ⟨f1,f2,f3⟩:=fx a x _ _ iK
  exact kj rfl rfl _ _ _ rfl #[(0,x)] (by simp only[List.map_toArray,List.map_cons,List.map_nil,Act.eval];rw[show tm.getD 22 undef=x from hx]) (f3 w) ⟨_,rfl,Ph.bs hN (fQ g) bJ⟩
 ·intro tm w y ck a8 hy bJ
  obtain ⟨a,s',x,gy,hr,rfl,sN,iK,bd⟩:=id bJ
  obtain ⟨f1,f2,f3⟩:=fx a x _ _ iK
  have hl:=bd.bx.lt
  refine cu w rfl rfl (.tmp 20) (.tmp 23) 24 rfl (g+1) sl.t sl.sz 160 mj ei pd sl.v sl.n sl.xs (a8 4 (by omega) (by kernel_rfl)) (bd.bx.own 2 sl hi) ⟨gy,0,none⟩ 1 1 x.cells.toList hy (by rw[Array.length_toList,f1];omega) (ef sN) f2 (by unfold maxLen;omega) (by omega) (by omega) ?_
  intro v' w' h1 h2 h3
  exact ⟨v',rfl,Ph.app hr bd h2 h1 h3⟩
 ·intro tm w y ck cA dA hy bJ
  have hB:=cJ 3 y w bJ
  obtain ⟨a,s',x,w2,hr,h1,h2,h3,h4⟩:=id bJ
  obtain ⟨ya,yn,yc,rfl⟩:=aU h3
  refine eh rfl rfl _ (.tmp 26) (.tmp 24) rfl (dA 10 (by omega) (by omega)) hy (xh w (hB.row hi) (hB.frozen _)) ?_
  rw[←ql]
  go_end0
  exact hR _ _ (Ph.last hN (fQ g) hi bJ)
theorem PG (h:Ap lo b g 49 nm ss N V W s w0) (hN:aQ N) (hi:ss[2]?=some sl) (eo:Fit 24 sl 160 (nE g)) (hn:sl.n≤100000) (eP:∀P w,N P w→∀c ∈ ([(pm,#[.pointer (some ⟨g,0,none⟩)],158),(pr,#[.pointer (some ⟨b,0,none⟩)],74)]:List (Nat×Array Value×TypeId)),aW c.1 c.2.1 c.2.2 P w) (c8:∀w s2 M,aQ M→Ap lo b g 49 nm ss (fun P w=>N P w∧M P w) V W s2 w→s2=s→Calls Tryz.prog 103 #[.pointer (some ⟨b,0,none⟩)] w (CR lo b (nE g) w r))
  (hR:∀e w,CP lo b g 49 nm ss N V W 2 sl r (nE g) e w→R e w) (pn:iP.size=27) (k0:iP.getD 0 undef=.pointer (some ⟨pm,0,none⟩)) (k1:iP.getD 1 undef=.pointer (some ⟨pr,0,none⟩)):(Code.seq PH Lj).wp Tryz.prog (bodyPost Tryz.prog Tryz.f144 R) ⟨iP,[]⟩ w0:=by
 obtain ⟨va,vc,hv⟩:=bZ (h.bx.own 2 sl hi)
 obtain ⟨ei,mj,pd,sd,fx⟩:=eo
 have e7:sl.sz=7:=by
  obtain ⟨i1,z1,h1,h2,h3,h4,h5⟩:=ei
  obtain ⟨i2,z2,g1,g2,g3,g4,g5⟩:=Pa
  have:sl.t=49:=by
   have h9:Tryz.prog.underlying 24=some (.slice 49):=by kernel_rfl
   rw[h9] at mj
   simpa using mj.symm
  rw[this] at h1
  rw[h1] at g1
  obtain rfl:=zC g1
  omega
 have et:sl.t=49:=by
  have h9:Tryz.prog.underlying 24=some (.slice 49):=by kernel_rfl
  rw[h9] at mj
  simpa using mj.symm
 refine wp_seq ?_
 obtain ⟨R2,LH⟩:∃c,Lj=c:=⟨_,rfl⟩
 rw[LH]
 obtain ⟨Qb,ql⟩:∃Q,bodyPost Tryz.prog Tryz.f144 R=Q:=⟨_,rfl⟩
 rw[ql]
 unfold PH T9
 dsimp only[Tryz.f144]
 refine p9 (z:=11) (N:=27) (by kernel_rfl) (fun k=>k+4) (fun d tm w=>(∀j,j<11→j≠5→j≠7→j≠8→d.getD j false=true→tm.getD (j+4) undef=[.pointer (some ⟨g,0,none⟩),.pointer (some ⟨g,0,none⟩),.pointer (some ⟨g,3,none⟩),sl.v,.pointer (some ⟨b,0,none⟩),undef,.int .i64 (sl.n:Int),undef,undef,.pointer (some ⟨g,0,none⟩),.pointer (some ⟨g,3,none⟩)].getD j undef)∧((d.getD 8 false=false∧PA lo b g 49 nm ss N V W s r (d.getD 5 false) (tm.getD 9 undef) (d.getD 7 false) (tm.getD 11 undef) w)∨(d.getD 8 false=true∧d.getD 5 false=true∧d.getD 7 false=true∧PB lo b g 49 nm ss N V W sl r (tm.getD 9 undef) (tm.getD 12 undef) w))) _ w0 rfl pn (fun i hi=>by omega) (by kernel_rfl) (by kernel_rfl) ?_ ?_ ?_
 ·intro d hd _
  refine ⟨fun j _ _ _ _ h=>(by rw[hd j] at h;cases h),.inl ⟨hd 8,?_⟩⟩
  rw[hd 5,hd 7]
  obtain ⟨M,s2,q1,q2,q3,q4⟩:=PA.drew (r:=r) hN h
  exact ⟨M,s2,q1,q2,q3,q4⟩
 ·intro k d tm w hk hd iL uh hw ck cA hG
  obtain ⟨lT,Ag⟩:=hG
  have hB:Bs g 49 nm ss [(pm,#[.pointer (some ⟨g,0,none⟩)],158),(pr,#[.pointer (some ⟨b,0,none⟩)],74)] w:=by
   rcases Ag with ⟨_,q⟩|⟨_,_,_,q⟩
   ·exact q.base eP
   ·exact q.base eP hi
  have hq:∀v,v=[.pointer (some ⟨g,0,none⟩),.pointer (some ⟨g,0,none⟩),.pointer (some ⟨g,3,none⟩),sl.v,.pointer (some ⟨b,0,none⟩),undef,.int .i64 (sl.n:Int),undef,undef,.pointer (some ⟨g,0,none⟩),.pointer (some ⟨g,3,none⟩)].getD k undef→k≠5→k≠7→k≠8→(∀j,j<11→j≠5→j≠7→j≠8→(d.setIfInBounds k true).getD j false=true→(tm.setIfInBounds (k+4) v).getD (j+4) undef=[.pointer (some ⟨g,0,none⟩),.pointer (some ⟨g,0,none⟩),.pointer (some ⟨g,3,none⟩),sl.v,.pointer (some ⟨b,0,none⟩),undef,.int .i64 (sl.n:Int),undef,undef,.pointer (some ⟨g,0,none⟩),.pointer (some ⟨g,3,none⟩)].getD j undef)∧(((d.setIfInBounds k true).getD 8 false=false∧PA lo b g 49 nm ss N V W s r ((d.setIfInBounds k true).getD 5 false) ((tm.setIfInBounds (k+4) v).getD 9 undef) ((d.setIfInBounds k true).getD 7 false) ((tm.setIfInBounds (k+4) v).getD 11 undef) w)∨((d.setIfInBounds k true).getD 8 false=true∧(d.setIfInBounds k true).getD 5 false=true∧(d.setIfInBounds k true).getD 7 false=true∧PB lo b g 49 nm ss N V W sl r ((tm.setIfInBounds (k+4) v).getD 9 undef) ((tm.setIfInBounds (k+4) v).getD 12 undef) w)):=by
   intro v hv h5 h7 h8
   refine ⟨fun j hj n5 n7 n8 rE=>?_,?_⟩
   ·by_cases e:j=k
    ·subst e
     rw[cn (by omega)]
     exact hv
    ·rw[aK (Ne.symm e)] at rE
     rw[aK (by omega)]
     exact lT j hj n5 n7 n8 rE
   ·rw[aK h8,aK h5,aK h7,aK (show k+4≠9 by omega),aK (show k+4≠11 by omega),aK (show k+4≠12 by omega)]
    exact Ag
  match k,hk with
  |0,_=>exact aY rfl rfl _ (.tmp 0) rfl ((cA 0 (by intro i hi;omega)).trans k0) (cT w (hB.cell (List.mem_cons_self ..) rfl)) ⟨_,rfl,hq _ rfl (by omega) (by omega) (by omega)⟩
  |1,_=>exact bc rfl rfl (.tmp 4) rfl (lT 0 (by omega) (by omega) (by omega) (by omega) (hw 0 (by kernel_rfl)).2) ⟨_,rfl,hq _ rfl (by omega) (by omega) (by omega)⟩
  |2,_=>exact bV rfl rfl _ (.tmp 5) _ rfl (lT 1 (by omega) (by omega) (by omega) (by omega) (hw 1 (by kernel_rfl)).2) (xw w) ⟨_,rfl,hq _ rfl (by omega) (by omega) (by omega)⟩
  |3,_=>exact aY rfl rfl _ (.tmp 6) rfl (lT 2 (by omega) (by omega) (by omega) (by omega) (hw 2 (by kernel_rfl)).2) (by rw[hv];exact xt w (by rw[←hv];exact hB.row hi)) ⟨_,rfl,hq _ hv.symm (by omega) (by omega) (by omega)⟩
  |4,_=>exact aY rfl rfl _ (.tmp 1) rfl ((cA 1 (by intro i hi;omega)).trans k1) (dh w (hB.cell (zF _ (List.mem_cons_self ..)) rfl)) ⟨_,rfl,hq _ rfl (by omega) (by omega) (by omega)⟩
  |5,_ =>
   have Ga:d.getD 8 false=false∧PA lo b g 49 nm ss N V W s r false (tm.getD 9 undef) (d.getD 7 false) (tm.getD 11 undef) w:=by
    rcases Ag with ⟨q1,q2⟩|⟨_,q,_⟩
    ·rw[uh] at q2
     exact ⟨q1,q2⟩
    ·rw[q] at uh;cases uh
   obtain ⟨Ga,Kx⟩:=Ga
   obtain ⟨M,s2,hM,bd,Oa,_⟩:=id Kx
   rw[if_neg (by simp)] at Oa
   refine cF rfl rfl 103 (lL w) _ _ rfl #[.pointer (some ⟨b,0,none⟩)] ?_ (c8 w s2 M hM bd Oa) ?_
   ·simp only[List.map_toArray,List.map_cons,List.map_nil,Act.eval]
    rw[show tm.getD 8 undef=_ from lT 4 (by omega) (by omega) (by omega) (by omega) (hw 4 (by kernel_rfl)).2]
    rfl
   ·intro e w' kz
    rcases PA.call hN Kx kz with ⟨x,rfl,h1⟩|⟨y,hr,rfl,hs⟩
    ·refine .inl ⟨x,rfl,x,rfl,fun j hj n5 n7 n8 rE=>?_,.inl ⟨?_,?_⟩⟩
     ·rw[aK (Ne.symm n5)] at rE
      rw[aK (by omega)]
      exact lT j hj n5 n7 n8 rE
     ·rw[aK (by omega)]
      exact Ga
     ·rw[cn (by omega),cn (by omega),aK (by omega),aK (by omega)]
      exact h1
    ·exact .inr ⟨_,rfl,by show Qb (Exit.panic _) _ _;rw[←ql];exact ⟨rfl,hR _ _ (by unfold CP;rw[hr];exact ⟨rfl,hs⟩)⟩⟩
  |6,_=>exact FI rfl rfl (.tmp 7) 24 49 rfl Tryz.underlying24 ((lT 3 (by omega) (by omega) (by omega) (by omega) (hw 3 (by kernel_rfl)).2).trans hv) ⟨_,rfl,hq _ rfl (by omega) (by omega) (by omega)⟩
  |7,_ =>
   have Ga:d.getD 8 false=false∧PA lo b g 49 nm ss N V W s r (d.getD 5 false) (tm.getD 9 undef) false (tm.getD 11 undef) w:=by
    rcases Ag with ⟨q1,q2⟩|⟨_,_,q,_⟩
    ·rw[uh] at q2
     exact ⟨q1,q2⟩
    ·rw[q] at uh;cases uh
   obtain ⟨Ga,Kx⟩:=Ga
   refine kj rfl rfl _ _ _ rfl #[(0,.agg iy)] (by simp only[List.map_toArray,List.map_cons,List.map_nil,Act.eval];rfl) (Je w) ⟨_,rfl,fun j hj n5 n7 n8 rE=>?_,.inl ⟨?_,?_⟩⟩
   ·rw[aK (Ne.symm n7)] at rE
    rw[aK (by omega)]
    exact lT j hj n5 n7 n8 rE
   ·rw[aK (by omega)]
    exact Ga
   ·rw[aK (by omega),aK (by omega),cn (by omega),cn (by omega)]
    exact Kx.bs hN
  |8,_ =>
   have XH:=(hw 5 (by kernel_rfl)).2
   have ZZ:=(hw 7 (by kernel_rfl)).2
   have Kx:PA lo b g 49 nm ss N V W s r true (tm.getD 9 undef) true (tm.getD 11 undef) w:=by
    rcases Ag with ⟨_,q⟩|⟨q,_⟩
    ·rw[XH,ZZ] at q
     exact q
    ·rw[q] at uh;cases uh
   obtain ⟨M,s2,hM,bd,hx,hy⟩:=Kx
   rw[if_pos rfl] at hx hy
   obtain ⟨a,hr,jq⟩:=hx
   obtain ⟨gy,hy,hz⟩:=hy
   have hl:=bd.bx.lt
   refine cu w rfl rfl (.tmp 7) (.tmp 11) 24 rfl (g+1) sl.t sl.sz 160 mj ei pd sl.v sl.n sl.xs (lT 3 (by omega) (by omega) (by omega) (by omega) (hw 3 (by kernel_rfl)).2) (bd.bx.own 2 sl hi) ⟨gy,0,none⟩ 1 1 iy.toList hy (by rw[e7];rfl) (ef (x:=.agg iy) (hz _ _ bd.nx.2).1) ?_ (by unfold maxLen;omega) (by omega) (by omega) ?_
   ·intro u hu
    simp only[iy,List.mem_cons,List.not_mem_nil,or_false] at hu
    rcases hu with rfl|rfl|rfl|rfl|rfl|rfl|rfl<;>rfl
   ·intro v' w' h1 h2 h3
    refine ⟨v',rfl,fun j hj n5 n7 n8 rE=>?_,.inr ⟨cn (by omega),?_,?_,?_⟩⟩
    ·rw[aK (Ne.symm n8)] at rE
     rw[aK (by omega)]
     exact lT j hj n5 n7 n8 rE
    ·rw[aK (by omega)]
     exact XH
    ·rw[aK (by omega)]
     exact ZZ
    ·rw[aK (by omega),cn (by omega)]
     exact ⟨M,a,s2,w,hr,hM,jq,bd,h2,h1,h3⟩
  |9,_=>exact bc rfl rfl (.tmp 4) rfl (lT 0 (by omega) (by omega) (by omega) (by omega) (hw 0 (by kernel_rfl)).2) ⟨_,rfl,hq _ rfl (by omega) (by omega) (by omega)⟩
  |10,_=>exact bV rfl rfl _ (.tmp 13) _ rfl (lT 9 (by omega) (by omega) (by omega) (by omega) (hw 9 (by kernel_rfl)).2) (xw w) ⟨_,rfl,hq _ rfl (by omega) (by omega) (by omega)⟩
 ·intro d tm w km ck cA hG
  obtain ⟨lT,Ag⟩:=hG
  have Kw:PB lo b g 49 nm ss N V W sl r (tm.getD 9 undef) (tm.getD 12 undef) w:=by
   rcases Ag with ⟨q,_⟩|⟨_,_,_,q⟩
   ·rw[km 8 (by omega)] at q;cases q
   ·exact q
  have hB:=Kw.base eP hi
  obtain ⟨M,a,s2,w2,hr,hM,jq,bd,hg,ho,hl⟩:=Kw
  have IL:=lT 6 (by omega) (by omega) (by omega) (by omega) (km 6 (by omega))
  have h14:=lT 10 (by omega) (by omega) (by omega) (by omega) (km 10 (by omega))
  obtain ⟨k,c,N4⟩:∃k c,tm.getD 12 undef=.slice (some ⟨k,0,none⟩) (sl.n+1) c:=by
   rcases ho.2 with ⟨_,e0⟩|⟨k,c,_,e,_⟩
   ·omega
   ·exact ⟨k,c,e⟩
  have hlen:=(h.bx.own 2 sl hi).1
  rw[e7] at hlen
  refine eh rfl rfl _ (.tmp 14) (.tmp 12) rfl h14 N4 (xh w (hB.row hi) (hB.frozen _)) ?_
  have ig:=bd.app (hN.and hM) hi hg ho hl
  rw[N4] at ig
  show R2.wp Tryz.prog Qb ⟨tm,[]⟩ _
  obtain ⟨⟨l⟩,tK,yK⟩:=jq _ _ ig.nx.2
  obtain ⟨wz,Y8⟩:∃wz,w.setCell ⟨g,3,none⟩ (.slice (some ⟨k,0,none⟩) (sl.n+1) c)=wz:=⟨_,rfl⟩
  rw[Y8] at ig yK ⊢
  cases yK with
  |cons hf BU hm yK he AU Lz rC ht =>
   cases ht
   obtain ⟨fa,fn,fc,rfl⟩:=aU hf.1
   obtain ⟨oa,on,oc,rfl⟩:=aU BU.1
   obtain ⟨ma,mn,mc,rfl⟩:=aU hm.1
   obtain ⟨ea,en,ec,rfl⟩:=aU he.1
   obtain ⟨ra,rn,rc,rfl⟩:=aU Lz.1
   obtain ⟨ga,gn,gc,rfl⟩:=aU rC.1
   rename_i Rj _ _ _ _ _ _ _ _
   have cL:=ig.bx.own 2 _ (fW hi _)
   simp only[e7,et] at cL ig
   have dD:∀t u,iy.toList[t]?=some u→wz.cell? ⟨k,sl.n*7+t,none⟩=some u:=fun t u ht=>by
    have dB:t<7:=(zB ht).1
    rw[World.ownsRow.cellAt cL (sl.n*7+t) (by omega),←hlen,List.getElem?_append_right (Nat.le_add_right _ _),Nat.add_sub_cancel_left]
    exact ht
   have y0:=dD 0 _ rfl
   have y1:=dD 1 _ rfl
   have y2:=dD 2 _ rfl
   have y3:=dD 3 _ rfl
   have y4:=dD 4 _ rfl
   have y5:=dD 5 _ rfl
   have y6:=dD 6 _ rfl
   have z0:=World.ownsRow.frozenAt cL (sl.n*7)
   have z1:=World.ownsRow.frozenAt cL (sl.n*7+1)
   have z2:=World.ownsRow.frozenAt cL (sl.n*7+2)
   have z3:=World.ownsRow.frozenAt cL (sl.n*7+3)
   have z4:=World.ownsRow.frozenAt cL (sl.n*7+4)
   have z5:=World.ownsRow.frozenAt cL (sl.n*7+5)
   have z6:=World.ownsRow.frozenAt cL (sl.n*7+6)
   rw[Nat.add_zero] at y0
   have py:=Ap.Dl hi ig (hN.and hM) rfl hlen (.string Rj) (.slice fa fn fc) (.slice oa on oc) (.slice ma mn mc) (.slice ea en ec) (.slice ra rn rc) (.slice ga gn gc)
   have HE:Hid (R (.returned (.tuple #[])) (Dl wz k (sl.n*7) (.string Rj) (.slice fa fn fc) (.slice oa on oc) (.slice ma mn mc) (.slice ea en ec) (.slice ra rn rc) (.slice ga gn gc))):=by
    refine hR _ _ ?_
    unfold CP
    rw[hr]
    refine ⟨rfl,tm.getD 9 undef,.slice (some ⟨k,0,none⟩) (sl.n+1) c,?_⟩
    rw[e7,et]
    have Vn:(tm.getD 9 undef).cells.toList=[.string Rj,.slice fa fn fc,.slice oa on oc,.slice ma mn mc,.slice ea en ec,.slice ra rn rc,.slice ga gn gc]:=by rw[tK];rfl
    rw[Vn]
    exact py.imp (fun h=>⟨h.1,jq _ _ h.2⟩)
   obtain ⟨u,hu⟩:=IV ck
   have q9:u 9=.agg #[.string Rj,.slice fa fn fc,.slice oa on oc,.slice ma mn mc,.slice ea en ec,.slice ra rn rc,.slice ga gn gc]:=by rw[hu] at tK;exact tK
   have EO:u 10=.int .i64 (sl.n:Int):=by rw[hu] at IL;exact IL
   have YB:u 12=.slice (some ⟨k,0,none⟩) (sl.n+1) c:=by rw[hu] at N4;exact N4
   rw[hu,q9,EO,YB,←LH]
   obtain ⟨L,hL⟩:∃L,sl.n+1=L:=⟨_,rfl⟩
   rw[hL]
   obtain ⟨n,ZE⟩:∃n,sl.n=n:=⟨_,rfl⟩
   rw[ZE] at y0 y1 y2 y3 y4 y5 y6 z0 z1 z2 z3 z4 z5 z6 HE hL hn ⊢
   have n0:(0:Int)≤(n:Int):=zH _
   have n1:(n:Int)<(L:Int):=by omega
   have n2:n≤100000:=hn
   unfold Dl at HE
   unfold Lj T9
   dsimp only[Tryz.f144]
   clear py ig cL dD tK IL N4 q9 EO YB hu hf BU hm yK he AU Lz rC lT Ag cA km ck hB bd hg ho hl h14 Y8 hL ZE hlen jq hM hr h hN hi ei mj pd sd fx eP c8 hR hv e7 et hn k0 k1 pn
   go_wp2
   rw[←ql]
   go_end0
   exact aa HE
theorem Ww (h:Ap lo b g 49 nm ss N V W s w0) (hN:aQ N) (hi:ss[2]?=some sl) (eo:Fit 24 sl 160 (nE g)) (hn:sl.n≤100000) (eP:∀P w,N P w→∀c ∈ ([(pm,#[.pointer (some ⟨g,0,none⟩)],158),(pr,#[.pointer (some ⟨b,0,none⟩)],74)]:List (Nat×Array Value×TypeId)),aW c.1 c.2.1 c.2.2 P w) (c8:∀w s2 M,aQ M→Ap lo b g 49 nm ss (fun P w=>N P w∧M P w) V W s2 w→s2=s→Calls Tryz.prog 103 #[.pointer (some ⟨b,0,none⟩)] w (CR lo b (nE g) w r)) :
  Calls Tryz.prog 144 #[.pointer (some ⟨pm,0,none⟩),.pointer (some ⟨pr,0,none⟩)] w0 (CP lo b g 49 nm ss N V W 2 sl r (nE g)):=by
 have HX:∀w,Below w0.heap.size w0 w→∀iP:Array Value,iP.size=27→iP.getD 0 undef=.pointer (some ⟨pm,0,none⟩)→iP.getD 1 undef=.pointer (some ⟨pr,0,none⟩)→(Code.seq PH Lj).wp Tryz.prog (bodyPost Tryz.prog Tryz.f144 (CP lo b g 49 nm ss N V W 2 sl r (nE g))) ⟨iP,[]⟩ w∧PF.wp Tryz.prog (bodyPost Tryz.prog Tryz.f144 (CP lo b g 49 nm ss N V W 2 sl r (nE g))) ⟨iP,[]⟩ w:=fun w hb iP h1 h2 h3 =>
  ⟨PG (h.up hN hb) hN hi eo hn eP c8 (fun _ _ h=>h) h1 h2 h3,PE (h.up hN hb) hN hi eo hn eP c8 (fun _ _ h=>h) h1 h2 h3⟩
 have SW:=ab HX
 have HB:=ab (zE w0.heap.size w0)
 clear HX h hN hi eo hn eP c8
 refine calls_of_wp Tryz.func144 PD ?_
 rw[Li]
 obtain ⟨X,hX⟩:∃X,Code.seq PH Lj=X:=⟨_,rfl⟩
 obtain ⟨Y,hY⟩:∃Y,PF=Y:=⟨_,rfl⟩
 rw[hX,hY] at SW
 rw[hX,hY]
 obtain ⟨Q,hQ⟩:∃Q,bodyPost Tryz.prog Tryz.f144 (CP lo b g 49 nm ss N V W 2 sl r (nE g))=Q:=⟨_,rfl⟩
 rw[hQ] at SW ⊢
 unfold aaD
 dsimp only[Tryz.f144]
 simp only[List.size_toArray,List.length_cons,List.length_nil,Nat.reduceAdd,Nat.reduceSub,Array.replicate_succ,Array.replicate_zero,List.push_toArray,List.append_toArray,List.nil_append,List.cons_append]
 clear hX hY hQ
 go_wp2
 go_region
 all_goals (try go_wp2)
 ·exact (aa SW _ ((aa HB).alloc (zD _) _).drew _ rfl rfl rfl).2
 ·exact (aa SW _ ((aa HB).alloc (zD _) _).drew _ rfl rfl rfl).1
end
noncomputable def aaC:Code:=match Tryz.f102.body with
 |some (.seq r _)=>r
 |_=>.skip
noncomputable def T0:Code:=match Tryz.f102.body with
 |some (.seq _ c)=>c
 |_=>.skip
theorem Pt:Tryz.f102.body=some (.seq aaC T0):=rfl
noncomputable def Py:Code:=match T0 with
 |.cond _ (.seq r _) _=>r
 |_=>.skip
noncomputable def Lg:Code:=match T0 with
 |.cond _ (.seq _ r) _=>r
 |_=>.skip
noncomputable def Pw:Code:=match T0 with
 |.cond _ _ r=>r
 |_=>.skip
theorem Lf:T0=.cond (.tmp 3) (.seq Py Lg) Pw:=rfl
section
variable {lo b g : Nat} {nm : ByteArray} {ss : List Slot} {N : (Nat → Prop) → World → Prop} {V W w0 : World} {s : ay} {sl : Slot} {r : Except (Int × Int) (Ms × ay)} {pm pr : Nat} {iP : Array Value} {R : Ending → World → Prop}
theorem Pv (h:Ap lo b g 27 nm ss N V W s w0) (hN:aQ N) (hi:ss[1]?=some sl) (eo:Fit 24 sl 160 (nE g)) (hn:sl.n≤100000) (eP:∀P w,N P w→∀c ∈ ([(pm,#[.pointer (some ⟨g,0,none⟩)],108),(pr,#[.pointer (some ⟨b,0,none⟩)],74)]:List (Nat×Array Value×TypeId)),aW c.1 c.2.1 c.2.2 P w) (c8:∀w s2 M,aQ M→Ap lo b g 27 nm ss (fun P w=>N P w∧M P w) V W s2 w→s2=s→Calls Tryz.prog 103 #[.pointer (some ⟨b,0,none⟩)] w (CR lo b (nE g) w r))
  (hR:∀e w,CP lo b g 27 nm ss N V W 1 sl r (nE g) e w→R e w) (pn:iP.size=27) (k0:iP.getD 0 undef=.pointer (some ⟨pm,0,none⟩)) (k1:iP.getD 1 undef=.pointer (some ⟨pr,0,none⟩)):Pw.wp Tryz.prog (bodyPost Tryz.prog Tryz.f102 R) ⟨iP,[]⟩ w0:=by
 obtain ⟨va,vn,vc,hv⟩:=aU (h.bx.own 1 sl hi)
 obtain ⟨ei,mj,pd,sd,fx⟩:=eo
 have cJ:=Ph.base (lo:=lo) (b:=b) (g:=g) (T:=27) (nm:=nm) (V:=V) (W:=W) (s:=s) (r:=r) (N1:=nE g) eP hi
 have hd:=h.up hN (zE w0.heap.size w0).drew
 obtain ⟨Qb,ql⟩:∃Q,bodyPost Tryz.prog Tryz.f102 R=Q:=⟨_,rfl⟩
 rw[ql]
 unfold Pw T0
 dsimp only[Tryz.f102]
 refine du (z:=11) (N:=27) (c:=6) (by kernel_rfl) (fun k=>k+16) (fun k=>[.pointer (some ⟨g,0,none⟩),.pointer (some ⟨g,0,none⟩),.pointer (some ⟨g,0,none⟩),.pointer (some ⟨g,2,none⟩),sl.v,.pointer (some ⟨b,0,none⟩),undef,undef,undef,.pointer (some ⟨g,0,none⟩),.pointer (some ⟨g,2,none⟩)].getD k undef) (Ph lo b g 27 nm ss N V W s sl r (nE g)) _ w0 rfl pn (fun i j _ _ e=>by omega) (fun i hi=>by omega) (by kernel_rfl) (by omega) (by kernel_rfl) (by kernel_rfl) (by kernel_rfl) hd ?_ ?_ ?_ ?_ ?_
 ·intro k tm w hk hq ck cA a8 bJ
  obtain ⟨ph,x,bJ⟩:=bJ
  have hB:=cJ ph x w bJ
  match k,hk with
  |0,_=>exact aY rfl rfl _ (.tmp 0) rfl ((cA 0 (by intro i hi;omega)).trans k0) (hZ w (hB.cell (List.mem_cons_self ..) rfl)) ⟨rfl,rfl⟩
  |1,_=>exact aY rfl rfl _ (.tmp 0) rfl ((cA 0 (by intro i hi;omega)).trans k0) (hZ w (hB.cell (List.mem_cons_self ..) rfl)) ⟨rfl,rfl⟩
  |2,_=>exact bc rfl rfl (.tmp 17) rfl (a8 1 (by omega) (by kernel_rfl)) ⟨rfl,rfl⟩
  |3,_=>exact bV rfl rfl _ (.tmp 18) _ rfl (a8 2 (by omega) (by kernel_rfl)) (rJ w) ⟨rfl,rfl⟩
  |4,_=>exact aY rfl rfl _ (.tmp 19) rfl (a8 3 (by omega) (by kernel_rfl)) (by rw[hv];exact xt w (by rw[←hv];exact hB.row hi)) ⟨rfl,rfl⟩
  |5,_=>exact aY rfl rfl _ (.tmp 1) rfl ((cA 1 (by intro i hi;omega)).trans k1) (dh w (hB.cell (zF _ (List.mem_cons_self ..)) rfl)) ⟨rfl,rfl⟩
  |6,_=>omega
  |7,_=>omega
  |8,_=>omega
  |9,_=>exact bc rfl rfl (.tmp 16) rfl (a8 0 (by omega) (by kernel_rfl)) ⟨rfl,rfl⟩
  |10,_=>exact bV rfl rfl _ (.tmp 25) _ rfl (a8 9 (by omega) (by kernel_rfl)) (rJ w) ⟨rfl,rfl⟩
 ·intro tm w ck cA a8 bJ
  have bd:Ap lo b g 27 nm ss N V W s w:=bJ
  refine cF rfl rfl 103 (lL w) _ _ rfl #[.pointer (some ⟨b,0,none⟩)] ?_ (c8 w s (fun _ _=>True) nR (bd.imp (fun h=>⟨h,trivial⟩)) rfl) ?_
  ·simp only[List.map_toArray,List.map_cons,List.map_nil,Act.eval]
   rw[show tm.getD 21 undef=_ from a8 5 (by omega) (by kernel_rfl)]
   rfl
  ·intro e w' kz
   rcases Ph.call hN (fQ g) bJ kz with ⟨x,rfl,h1⟩|⟨y,hr,rfl,hs⟩
   ·exact .inl ⟨x,rfl,x,rfl,h1⟩
   ·exact .inr ⟨_,rfl,by rw[←ql];exact ⟨rfl,hR _ _ (by unfold CP;rw[hr];exact ⟨rfl,hs⟩)⟩⟩
 ·intro tm w x ck hx bJ
  obtain ⟨a,s',hr,iK,bd⟩:=id bJ
  obtain ⟨f1,f2,f3⟩:=fx a x _ _ iK
  exact kj rfl rfl _ _ _ rfl #[(0,x)] (by simp only[List.map_toArray,List.map_cons,List.map_nil,Act.eval];rw[show tm.getD 22 undef=x from hx]) (f3 w) ⟨_,rfl,Ph.bs hN (fQ g) bJ⟩
 ·intro tm w y ck a8 hy bJ
  obtain ⟨a,s',x,gy,hr,rfl,sN,iK,bd⟩:=id bJ
  obtain ⟨f1,f2,f3⟩:=fx a x _ _ iK
  have hl:=bd.bx.lt
  refine cu w rfl rfl (.tmp 20) (.tmp 23) 24 rfl (g+1) sl.t sl.sz 160 mj ei pd sl.v sl.n sl.xs (a8 4 (by omega) (by kernel_rfl)) (bd.bx.own 1 sl hi) ⟨gy,0,none⟩ 1 1 x.cells.toList hy (by rw[Array.length_toList,f1];omega) (ef sN) f2 (by unfold maxLen;omega) (by omega) (by omega) ?_
  intro v' w' h1 h2 h3
  exact ⟨v',rfl,Ph.app hr bd h2 h1 h3⟩
 ·intro tm w y ck cA dA hy bJ
  have hB:=cJ 3 y w bJ
  obtain ⟨a,s',x,w2,hr,h1,h2,h3,h4⟩:=id bJ
  obtain ⟨ya,yn,yc,rfl⟩:=aU h3
  refine eh rfl rfl _ (.tmp 26) (.tmp 24) rfl (dA 10 (by omega) (by omega)) hy (xh w (hB.row hi) (hB.frozen _)) ?_
  rw[←ql]
  go_end0
  exact hR _ _ (Ph.last hN (fQ g) hi bJ)
theorem Px (h:Ap lo b g 27 nm ss N V W s w0) (hN:aQ N) (hi:ss[1]?=some sl) (eo:Fit 24 sl 160 (nE g)) (hn:sl.n≤100000) (eP:∀P w,N P w→∀c ∈ ([(pm,#[.pointer (some ⟨g,0,none⟩)],108),(pr,#[.pointer (some ⟨b,0,none⟩)],74)]:List (Nat×Array Value×TypeId)),aW c.1 c.2.1 c.2.2 P w) (c8:∀w s2 M,aQ M→Ap lo b g 27 nm ss (fun P w=>N P w∧M P w) V W s2 w→s2=s→Calls Tryz.prog 103 #[.pointer (some ⟨b,0,none⟩)] w (CR lo b (nE g) w r))
  (hR:∀e w,CP lo b g 27 nm ss N V W 1 sl r (nE g) e w→R e w) (pn:iP.size=27) (k0:iP.getD 0 undef=.pointer (some ⟨pm,0,none⟩)) (k1:iP.getD 1 undef=.pointer (some ⟨pr,0,none⟩)):(Code.seq Py Lg).wp Tryz.prog (bodyPost Tryz.prog Tryz.f102 R) ⟨iP,[]⟩ w0:=by
 obtain ⟨va,vc,hv⟩:=bZ (h.bx.own 1 sl hi)
 obtain ⟨ei,mj,pd,sd,fx⟩:=eo
 have e7:sl.sz=7:=by
  obtain ⟨i1,z1,h1,h2,h3,h4,h5⟩:=ei
  obtain ⟨i2,z2,g1,g2,g3,g4,g5⟩:=Pa
  have:sl.t=49:=by
   have h9:Tryz.prog.underlying 24=some (.slice 49):=by kernel_rfl
   rw[h9] at mj
   simpa using mj.symm
  rw[this] at h1
  rw[h1] at g1
  obtain rfl:=zC g1
  omega
 have et:sl.t=49:=by
  have h9:Tryz.prog.underlying 24=some (.slice 49):=by kernel_rfl
  rw[h9] at mj
  simpa using mj.symm
 refine wp_seq ?_
 obtain ⟨R2,LH⟩:∃c,Lg=c:=⟨_,rfl⟩
 rw[LH]
 obtain ⟨Qb,ql⟩:∃Q,bodyPost Tryz.prog Tryz.f102 R=Q:=⟨_,rfl⟩
 rw[ql]
 unfold Py T0
 dsimp only[Tryz.f102]
 refine p9 (z:=11) (N:=27) (by kernel_rfl) (fun k=>k+4) (fun d tm w=>(∀j,j<11→j≠5→j≠7→j≠8→d.getD j false=true→tm.getD (j+4) undef=[.pointer (some ⟨g,0,none⟩),.pointer (some ⟨g,0,none⟩),.pointer (some ⟨g,2,none⟩),sl.v,.pointer (some ⟨b,0,none⟩),undef,.int .i64 (sl.n:Int),undef,undef,.pointer (some ⟨g,0,none⟩),.pointer (some ⟨g,2,none⟩)].getD j undef)∧((d.getD 8 false=false∧PA lo b g 27 nm ss N V W s r (d.getD 5 false) (tm.getD 9 undef) (d.getD 7 false) (tm.getD 11 undef) w)∨(d.getD 8 false=true∧d.getD 5 false=true∧d.getD 7 false=true∧PB lo b g 27 nm ss N V W sl r (tm.getD 9 undef) (tm.getD 12 undef) w))) _ w0 rfl pn (fun i hi=>by omega) (by kernel_rfl) (by kernel_rfl) ?_ ?_ ?_
 ·intro d hd _
  refine ⟨fun j _ _ _ _ h=>(by rw[hd j] at h;cases h),.inl ⟨hd 8,?_⟩⟩
  rw[hd 5,hd 7]
  obtain ⟨M,s2,q1,q2,q3,q4⟩:=PA.drew (r:=r) hN h
  exact ⟨M,s2,q1,q2,q3,q4⟩
 ·intro k d tm w hk hd iL uh hw ck cA hG
  obtain ⟨lT,Ag⟩:=hG
  have hB:Bs g 27 nm ss [(pm,#[.pointer (some ⟨g,0,none⟩)],108),(pr,#[.pointer (some ⟨b,0,none⟩)],74)] w:=by
   rcases Ag with ⟨_,q⟩|⟨_,_,_,q⟩
   ·exact q.base eP
   ·exact q.base eP hi
  have hq:∀v,v=[.pointer (some ⟨g,0,none⟩),.pointer (some ⟨g,0,none⟩),.pointer (some ⟨g,2,none⟩),sl.v,.pointer (some ⟨b,0,none⟩),undef,.int .i64 (sl.n:Int),undef,undef,.pointer (some ⟨g,0,none⟩),.pointer (some ⟨g,2,none⟩)].getD k undef→k≠5→k≠7→k≠8→(∀j,j<11→j≠5→j≠7→j≠8→(d.setIfInBounds k true).getD j false=true→(tm.setIfInBounds (k+4) v).getD (j+4) undef=[.pointer (some ⟨g,0,none⟩),.pointer (some ⟨g,0,none⟩),.pointer (some ⟨g,2,none⟩),sl.v,.pointer (some ⟨b,0,none⟩),undef,.int .i64 (sl.n:Int),undef,undef,.pointer (some ⟨g,0,none⟩),.pointer (some ⟨g,2,none⟩)].getD j undef)∧(((d.setIfInBounds k true).getD 8 false=false∧PA lo b g 27 nm ss N V W s r ((d.setIfInBounds k true).getD 5 false) ((tm.setIfInBounds (k+4) v).getD 9 undef) ((d.setIfInBounds k true).getD 7 false) ((tm.setIfInBounds (k+4) v).getD 11 undef) w)∨((d.setIfInBounds k true).getD 8 false=true∧(d.setIfInBounds k true).getD 5 false=true∧(d.setIfInBounds k true).getD 7 false=true∧PB lo b g 27 nm ss N V W sl r ((tm.setIfInBounds (k+4) v).getD 9 undef) ((tm.setIfInBounds (k+4) v).getD 12 undef) w)):=by
   intro v hv h5 h7 h8
   refine ⟨fun j hj n5 n7 n8 rE=>?_,?_⟩
   ·by_cases e:j=k
    ·subst e
     rw[cn (by omega)]
     exact hv
    ·rw[aK (Ne.symm e)] at rE
     rw[aK (by omega)]
     exact lT j hj n5 n7 n8 rE
   ·rw[aK h8,aK h5,aK h7,aK (show k+4≠9 by omega),aK (show k+4≠11 by omega),aK (show k+4≠12 by omega)]
    exact Ag
  match k,hk with
  |0,_=>exact aY rfl rfl _ (.tmp 0) rfl ((cA 0 (by intro i hi;omega)).trans k0) (hZ w (hB.cell (List.mem_cons_self ..) rfl)) ⟨_,rfl,hq _ rfl (by omega) (by omega) (by omega)⟩
  |1,_=>exact bc rfl rfl (.tmp 4) rfl (lT 0 (by omega) (by omega) (by omega) (by omega) (hw 0 (by kernel_rfl)).2) ⟨_,rfl,hq _ rfl (by omega) (by omega) (by omega)⟩
  |2,_=>exact bV rfl rfl _ (.tmp 5) _ rfl (lT 1 (by omega) (by omega) (by omega) (by omega) (hw 1 (by kernel_rfl)).2) (rJ w) ⟨_,rfl,hq _ rfl (by omega) (by omega) (by omega)⟩
  |3,_=>exact aY rfl rfl _ (.tmp 6) rfl (lT 2 (by omega) (by omega) (by omega) (by omega) (hw 2 (by kernel_rfl)).2) (by rw[hv];exact xt w (by rw[←hv];exact hB.row hi)) ⟨_,rfl,hq _ hv.symm (by omega) (by omega) (by omega)⟩
  |4,_=>exact aY rfl rfl _ (.tmp 1) rfl ((cA 1 (by intro i hi;omega)).trans k1) (dh w (hB.cell (zF _ (List.mem_cons_self ..)) rfl)) ⟨_,rfl,hq _ rfl (by omega) (by omega) (by omega)⟩
  |5,_ =>
   have Ga:d.getD 8 false=false∧PA lo b g 27 nm ss N V W s r false (tm.getD 9 undef) (d.getD 7 false) (tm.getD 11 undef) w:=by
    rcases Ag with ⟨q1,q2⟩|⟨_,q,_⟩
    ·rw[uh] at q2
     exact ⟨q1,q2⟩
    ·rw[q] at uh;cases uh
   obtain ⟨Ga,Kx⟩:=Ga
   obtain ⟨M,s2,hM,bd,Oa,_⟩:=id Kx
   rw[if_neg (by simp)] at Oa
   refine cF rfl rfl 103 (lL w) _ _ rfl #[.pointer (some ⟨b,0,none⟩)] ?_ (c8 w s2 M hM bd Oa) ?_
   ·simp only[List.map_toArray,List.map_cons,List.map_nil,Act.eval]
    rw[show tm.getD 8 undef=_ from lT 4 (by omega) (by omega) (by omega) (by omega) (hw 4 (by kernel_rfl)).2]
    rfl
   ·intro e w' kz
    rcases PA.call hN Kx kz with ⟨x,rfl,h1⟩|⟨y,hr,rfl,hs⟩
    ·refine .inl ⟨x,rfl,x,rfl,fun j hj n5 n7 n8 rE=>?_,.inl ⟨?_,?_⟩⟩
     ·rw[aK (Ne.symm n5)] at rE
      rw[aK (by omega)]
      exact lT j hj n5 n7 n8 rE
     ·rw[aK (by omega)]
      exact Ga
     ·rw[cn (by omega),cn (by omega),aK (by omega),aK (by omega)]
      exact h1
    ·exact .inr ⟨_,rfl,by show Qb (Exit.panic _) _ _;rw[←ql];exact ⟨rfl,hR _ _ (by unfold CP;rw[hr];exact ⟨rfl,hs⟩)⟩⟩
  |6,_=>exact FI rfl rfl (.tmp 7) 24 49 rfl Tryz.underlying24 ((lT 3 (by omega) (by omega) (by omega) (by omega) (hw 3 (by kernel_rfl)).2).trans hv) ⟨_,rfl,hq _ rfl (by omega) (by omega) (by omega)⟩
  |7,_ =>
   have Ga:d.getD 8 false=false∧PA lo b g 27 nm ss N V W s r (d.getD 5 false) (tm.getD 9 undef) false (tm.getD 11 undef) w:=by
    rcases Ag with ⟨q1,q2⟩|⟨_,_,q,_⟩
    ·rw[uh] at q2
     exact ⟨q1,q2⟩
    ·rw[q] at uh;cases uh
   obtain ⟨Ga,Kx⟩:=Ga
   refine kj rfl rfl _ _ _ rfl #[(0,.agg iy)] (by simp only[List.map_toArray,List.map_cons,List.map_nil,Act.eval];rfl) (Je w) ⟨_,rfl,fun j hj n5 n7 n8 rE=>?_,.inl ⟨?_,?_⟩⟩
   ·rw[aK (Ne.symm n7)] at rE
    rw[aK (by omega)]
    exact lT j hj n5 n7 n8 rE
   ·rw[aK (by omega)]
    exact Ga
   ·rw[aK (by omega),aK (by omega),cn (by omega),cn (by omega)]
    exact Kx.bs hN
  |8,_ =>
   have XH:=(hw 5 (by kernel_rfl)).2
   have ZZ:=(hw 7 (by kernel_rfl)).2
   have Kx:PA lo b g 27 nm ss N V W s r true (tm.getD 9 undef) true (tm.getD 11 undef) w:=by
    rcases Ag with ⟨_,q⟩|⟨q,_⟩
    ·rw[XH,ZZ] at q
     exact q
    ·rw[q] at uh;cases uh
   obtain ⟨M,s2,hM,bd,hx,hy⟩:=Kx
   rw[if_pos rfl] at hx hy
   obtain ⟨a,hr,jq⟩:=hx
   obtain ⟨gy,hy,hz⟩:=hy
   have hl:=bd.bx.lt
   refine cu w rfl rfl (.tmp 7) (.tmp 11) 24 rfl (g+1) sl.t sl.sz 160 mj ei pd sl.v sl.n sl.xs (lT 3 (by omega) (by omega) (by omega) (by omega) (hw 3 (by kernel_rfl)).2) (bd.bx.own 1 sl hi) ⟨gy,0,none⟩ 1 1 iy.toList hy (by rw[e7];rfl) (ef (x:=.agg iy) (hz _ _ bd.nx.2).1) ?_ (by unfold maxLen;omega) (by omega) (by omega) ?_
   ·intro u hu
    simp only[iy,List.mem_cons,List.not_mem_nil,or_false] at hu
    rcases hu with rfl|rfl|rfl|rfl|rfl|rfl|rfl<;>rfl
   ·intro v' w' h1 h2 h3
    refine ⟨v',rfl,fun j hj n5 n7 n8 rE=>?_,.inr ⟨cn (by omega),?_,?_,?_⟩⟩
    ·rw[aK (Ne.symm n8)] at rE
     rw[aK (by omega)]
     exact lT j hj n5 n7 n8 rE
    ·rw[aK (by omega)]
     exact XH
    ·rw[aK (by omega)]
     exact ZZ
    ·rw[aK (by omega),cn (by omega)]
     exact ⟨M,a,s2,w,hr,hM,jq,bd,h2,h1,h3⟩
  |9,_=>exact bc rfl rfl (.tmp 4) rfl (lT 0 (by omega) (by omega) (by omega) (by omega) (hw 0 (by kernel_rfl)).2) ⟨_,rfl,hq _ rfl (by omega) (by omega) (by omega)⟩
  |10,_=>exact bV rfl rfl _ (.tmp 13) _ rfl (lT 9 (by omega) (by omega) (by omega) (by omega) (hw 9 (by kernel_rfl)).2) (rJ w) ⟨_,rfl,hq _ rfl (by omega) (by omega) (by omega)⟩
 ·intro d tm w km ck cA hG
  obtain ⟨lT,Ag⟩:=hG
  have Kw:PB lo b g 27 nm ss N V W sl r (tm.getD 9 undef) (tm.getD 12 undef) w:=by
   rcases Ag with ⟨q,_⟩|⟨_,_,_,q⟩
   ·rw[km 8 (by omega)] at q;cases q
   ·exact q
  have hB:=Kw.base eP hi
  obtain ⟨M,a,s2,w2,hr,hM,jq,bd,hg,ho,hl⟩:=Kw
  have IL:=lT 6 (by omega) (by omega) (by omega) (by omega) (km 6 (by omega))
  have h14:=lT 10 (by omega) (by omega) (by omega) (by omega) (km 10 (by omega))
  obtain ⟨k,c,N4⟩:∃k c,tm.getD 12 undef=.slice (some ⟨k,0,none⟩) (sl.n+1) c:=by
   rcases ho.2 with ⟨_,e0⟩|⟨k,c,_,e,_⟩
   ·omega
   ·exact ⟨k,c,e⟩
  have hlen:=(h.bx.own 1 sl hi).1
  rw[e7] at hlen
  refine eh rfl rfl _ (.tmp 14) (.tmp 12) rfl h14 N4 (xh w (hB.row hi) (hB.frozen _)) ?_
  have ig:=bd.app (hN.and hM) hi hg ho hl
  rw[N4] at ig
  show R2.wp Tryz.prog Qb ⟨tm,[]⟩ _
  obtain ⟨⟨l⟩,tK,yK⟩:=jq _ _ ig.nx.2
  obtain ⟨wz,Y8⟩:∃wz,w.setCell ⟨g,2,none⟩ (.slice (some ⟨k,0,none⟩) (sl.n+1) c)=wz:=⟨_,rfl⟩
  rw[Y8] at ig yK ⊢
  cases yK with
  |cons hf BU hm yK he AU Lz rC ht =>
   cases ht
   obtain ⟨fa,fn,fc,rfl⟩:=aU hf.1
   obtain ⟨oa,on,oc,rfl⟩:=aU BU.1
   obtain ⟨ma,mn,mc,rfl⟩:=aU hm.1
   obtain ⟨ea,en,ec,rfl⟩:=aU he.1
   obtain ⟨ra,rn,rc,rfl⟩:=aU Lz.1
   obtain ⟨ga,gn,gc,rfl⟩:=aU rC.1
   rename_i Rj _ _ _ _ _ _ _ _
   have cL:=ig.bx.own 1 _ (fW hi _)
   simp only[e7,et] at cL ig
   have dD:∀t u,iy.toList[t]?=some u→wz.cell? ⟨k,sl.n*7+t,none⟩=some u:=fun t u ht=>by
    have dB:t<7:=(zB ht).1
    rw[World.ownsRow.cellAt cL (sl.n*7+t) (by omega),←hlen,List.getElem?_append_right (Nat.le_add_right _ _),Nat.add_sub_cancel_left]
    exact ht
   have y0:=dD 0 _ rfl
   have y1:=dD 1 _ rfl
   have y2:=dD 2 _ rfl
   have y3:=dD 3 _ rfl
   have y4:=dD 4 _ rfl
   have y5:=dD 5 _ rfl
   have y6:=dD 6 _ rfl
   have z0:=World.ownsRow.frozenAt cL (sl.n*7)
   have z1:=World.ownsRow.frozenAt cL (sl.n*7+1)
   have z2:=World.ownsRow.frozenAt cL (sl.n*7+2)
   have z3:=World.ownsRow.frozenAt cL (sl.n*7+3)
   have z4:=World.ownsRow.frozenAt cL (sl.n*7+4)
   have z5:=World.ownsRow.frozenAt cL (sl.n*7+5)
   have z6:=World.ownsRow.frozenAt cL (sl.n*7+6)
   rw[Nat.add_zero] at y0
   have py:=Ap.Dl hi ig (hN.and hM) rfl hlen (.string Rj) (.slice fa fn fc) (.slice oa on oc) (.slice ma mn mc) (.slice ea en ec) (.slice ra rn rc) (.slice ga gn gc)
   have HE:Hid (R (.returned (.tuple #[])) (Dl wz k (sl.n*7) (.string Rj) (.slice fa fn fc) (.slice oa on oc) (.slice ma mn mc) (.slice ea en ec) (.slice ra rn rc) (.slice ga gn gc))):=by
    refine hR _ _ ?_
    unfold CP
    rw[hr]
    refine ⟨rfl,tm.getD 9 undef,.slice (some ⟨k,0,none⟩) (sl.n+1) c,?_⟩
    rw[e7,et]
    have Vn:(tm.getD 9 undef).cells.toList=[.string Rj,.slice fa fn fc,.slice oa on oc,.slice ma mn mc,.slice ea en ec,.slice ra rn rc,.slice ga gn gc]:=by rw[tK];rfl
    rw[Vn]
    exact py.imp (fun h=>⟨h.1,jq _ _ h.2⟩)
   obtain ⟨u,hu⟩:=IV ck
   have q9:u 9=.agg #[.string Rj,.slice fa fn fc,.slice oa on oc,.slice ma mn mc,.slice ea en ec,.slice ra rn rc,.slice ga gn gc]:=by rw[hu] at tK;exact tK
   have EO:u 10=.int .i64 (sl.n:Int):=by rw[hu] at IL;exact IL
   have YB:u 12=.slice (some ⟨k,0,none⟩) (sl.n+1) c:=by rw[hu] at N4;exact N4
   rw[hu,q9,EO,YB,←LH]
   obtain ⟨L,hL⟩:∃L,sl.n+1=L:=⟨_,rfl⟩
   rw[hL]
   obtain ⟨n,ZE⟩:∃n,sl.n=n:=⟨_,rfl⟩
   rw[ZE] at y0 y1 y2 y3 y4 y5 y6 z0 z1 z2 z3 z4 z5 z6 HE hL hn ⊢
   have n0:(0:Int)≤(n:Int):=zH _
   have n1:(n:Int)<(L:Int):=by omega
   have n2:n≤100000:=hn
   unfold Dl at HE
   unfold Lg T0
   dsimp only[Tryz.f102]
   clear py ig cL dD tK IL N4 q9 EO YB hu hf BU hm yK he AU Lz rC lT Ag cA km ck hB bd hg ho hl h14 Y8 hL ZE hlen jq hM hr h hN hi ei mj pd sd fx eP c8 hR hv e7 et hn k0 k1 pn
   go_wp2
   rw[←ql]
   go_end0
   exact aa HE
theorem Ws (h:Ap lo b g 27 nm ss N V W s w0) (hN:aQ N) (hi:ss[1]?=some sl) (eo:Fit 24 sl 160 (nE g)) (hn:sl.n≤100000) (eP:∀P w,N P w→∀c ∈ ([(pm,#[.pointer (some ⟨g,0,none⟩)],108),(pr,#[.pointer (some ⟨b,0,none⟩)],74)]:List (Nat×Array Value×TypeId)),aW c.1 c.2.1 c.2.2 P w) (c8:∀w s2 M,aQ M→Ap lo b g 27 nm ss (fun P w=>N P w∧M P w) V W s2 w→s2=s→Calls Tryz.prog 103 #[.pointer (some ⟨b,0,none⟩)] w (CR lo b (nE g) w r)) :
  Calls Tryz.prog 102 #[.pointer (some ⟨pm,0,none⟩),.pointer (some ⟨pr,0,none⟩)] w0 (CP lo b g 27 nm ss N V W 1 sl r (nE g)):=by
 have HX:∀w,Below w0.heap.size w0 w→∀iP:Array Value,iP.size=27→iP.getD 0 undef=.pointer (some ⟨pm,0,none⟩)→iP.getD 1 undef=.pointer (some ⟨pr,0,none⟩)→(Code.seq Py Lg).wp Tryz.prog (bodyPost Tryz.prog Tryz.f102 (CP lo b g 27 nm ss N V W 1 sl r (nE g))) ⟨iP,[]⟩ w∧Pw.wp Tryz.prog (bodyPost Tryz.prog Tryz.f102 (CP lo b g 27 nm ss N V W 1 sl r (nE g))) ⟨iP,[]⟩ w:=fun w hb iP h1 h2 h3 =>
  ⟨Px (h.up hN hb) hN hi eo hn eP c8 (fun _ _ h=>h) h1 h2 h3,Pv (h.up hN hb) hN hi eo hn eP c8 (fun _ _ h=>h) h1 h2 h3⟩
 have SW:=ab HX
 have HB:=ab (zE w0.heap.size w0)
 clear HX h hN hi eo hn eP c8
 refine calls_of_wp Tryz.func102 Pt ?_
 rw[Lf]
 obtain ⟨X,hX⟩:∃X,Code.seq Py Lg=X:=⟨_,rfl⟩
 obtain ⟨Y,hY⟩:∃Y,Pw=Y:=⟨_,rfl⟩
 rw[hX,hY] at SW
 rw[hX,hY]
 obtain ⟨Q,hQ⟩:∃Q,bodyPost Tryz.prog Tryz.f102 (CP lo b g 27 nm ss N V W 1 sl r (nE g))=Q:=⟨_,rfl⟩
 rw[hQ] at SW ⊢
 unfold aaC
 dsimp only[Tryz.f102]
 simp only[List.size_toArray,List.length_cons,List.length_nil,Nat.reduceAdd,Nat.reduceSub,Array.replicate_succ,Array.replicate_zero,List.push_toArray,List.append_toArray,List.nil_append,List.cons_append]
 clear hX hY hQ
 go_wp2
 go_region
 all_goals (try go_wp2)
 ·exact (aa SW _ ((aa HB).alloc (zD _) _).drew _ rfl rfl rfl).2
 ·exact (aa SW _ ((aa HB).alloc (zD _) _).drew _ rfl rfl rfl).1
end
end Go.Proofs.YtjophoclfccmcaaGreatDoor

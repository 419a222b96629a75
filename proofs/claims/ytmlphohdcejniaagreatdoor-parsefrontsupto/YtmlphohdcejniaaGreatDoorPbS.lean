import Derived.Test.YtmlphohdcejniaaGreatDoorM22
set_option maxHeartbeats 4000000
set_option maxRecDepth 100000
namespace Go.Proofs.YtmlphohdcejniaaGreatDoor
open Go.RowKit
attribute [local go_sem ↓] Go.wp_at_zero Go.wp_at_succ
theorem Ap.C9 {lo b g T:Nat}{nm:ByteArray}{ss:List Slot}{N:(Nat→Prop)→World→Prop}{V W w:World}{s:aD}{i k n:Nat}{t:TypeId}{v:Value}{xs:List Value}{z:Slot} (hz:ss[i]?=some z) (h:Ap lo b g T nm (ss.set i ⟨t,7,v,n+1,xs++gZ.toList⟩) N V W s w) (hN:aK N) (hk:v.ownBlock=some k) (hn:xs.length=n*7) (u0 u1 u2 u3 u4 u5 u6:Value) :
  Ap lo b g T nm (ss.set i ⟨t,7,v,n+1,xs++[u0,u1,u2,u3,u4,u5,u6]⟩) N V W s (C9 w k (n*7) u0 u1 u2 u3 u4 u5 u6):=by
 have h0:=h.setRow hN (fY hz _) hk (n*7) u0
 rw[iA] at h0
 have h1:=h0.setRow hN (fY hz _) hk (n*7+1) u1
 rw[iA] at h1
 have h2:=h1.setRow hN (fY hz _) hk (n*7+2) u2
 rw[iA] at h2
 have h3:=h2.setRow hN (fY hz _) hk (n*7+3) u3
 rw[iA] at h3
 have h4:=h3.setRow hN (fY hz _) hk (n*7+4) u4
 rw[iA] at h4
 have h5:=h4.setRow hN (fY hz _) hk (n*7+5) u5
 rw[iA] at h5
 have h6:=h5.setRow hN (fY hz _) hk (n*7+6) u6
 rw[iA] at h6
 simp only at h6
 rw[show gZ.toList=[.string ⟨#[]⟩,.slice none 0 0,.slice none 0 0,.slice none 0 0,.slice none 0 0,.slice none 0 0,.slice none 0 0] from rfl,Jm xs n hn] at h6
 exact h6
theorem Is {tm:Array Value} (h:tm.size=27):∃u:Nat→Value,tm=#[u 0,u 1,u 2,u 3,u 4,u 5,u 6,u 7,u 8,u 9,u 10,u 11,u 12,u 13,u 14,u 15,u 16,u 17,u 18,u 19,u 20,u 21,u 22,u 23,u 24,u 25,u 26]:=by
 refine ⟨fun i=>tm.getD i undef,?_⟩
 have e:tm=((List.range 27).map fun i=>tm.getD i undef).toArray:=by
  apply Array.ext
  ·simp[h]
  ·intro i h1 h2
   simp[Array.getD,h1]
 exact e.trans rfl
noncomputable def ZH:Code:=match Tryz.f151.body with
 |some (.seq r _)=>r
 |_=>.skip
noncomputable def S6:Code:=match Tryz.f151.body with
 |some (.seq _ c)=>c
 |_=>.skip
theorem OJ:Tryz.f151.body=some (.seq ZH S6):=rfl
noncomputable def ON:Code:=match S6 with
 |.cond _ (.seq r _) _=>r
 |_=>.skip
noncomputable def Ku:Code:=match S6 with
 |.cond _ (.seq _ r) _=>r
 |_=>.skip
noncomputable def OL:Code:=match S6 with
 |.cond _ _ r=>r
 |_=>.skip
theorem Kt:S6=.cond (.tmp 3) (.seq ON Ku) OL:=rfl
section
variable {lo b g : Nat} {nm : ByteArray} {ss : List Slot} {N : (Nat → Prop) → World → Prop} {V W w0 : World} {s : aD} {sl : Slot} {r : Except (Int × Int) (Ms × aD)} {pm pr : Nat} {iv : Array Value} {R : Ending → World → Prop}
theorem OK (h:Ap lo b g 64 nm ss N V W s w0) (hN:aK N) (hi:ss[2]?=some sl) (du:Fit 23 sl 160 (nk g)) (hn:sl.n≤100000) (cB:∀P w,N P w→∀c ∈ ([(pm,#[.pointer (some ⟨g,0,none⟩)],167),(pr,#[.pointer (some ⟨b,0,none⟩)],107)]:List (Nat×Array Value×TypeId)),aP c.1 c.2.1 c.2.2 P w) (cQ:∀w s2 M,aK M→Ap lo b g 64 nm ss (fun P w=>N P w∧M P w) V W s2 w→s2=s→Calls Tryz.prog 101 #[.pointer (some ⟨b,0,none⟩)] w (CR lo b (nk g) w r))
  (hR:∀e w,CP lo b g 64 nm ss N V W 2 sl r (nk g) e w→R e w) (qx:iv.size=27) (k0:iv.getD 0 undef=.pointer (some ⟨pm,0,none⟩)) (k1:iv.getD 1 undef=.pointer (some ⟨pr,0,none⟩)):OL.wp Tryz.prog (bodyPost Tryz.prog Tryz.f151 R) ⟨iv,[]⟩ w0:=by
 obtain ⟨va,vn,vc,hv⟩:=aL (h.bx.own 2 sl hi)
 obtain ⟨ei,lO,nv,rm,fx⟩:=du
 have cq:=Ph.base (lo:=lo) (b:=b) (g:=g) (T:=64) (nm:=nm) (V:=V) (W:=W) (s:=s) (r:=r) (N1:=nk g) cB hi
 have hd:=h.up hN (zE w0.heap.size w0).drew
 obtain ⟨Qb,pG⟩:∃Q,bodyPost Tryz.prog Tryz.f151 R=Q:=⟨_,rfl⟩
 rw[pG]
 unfold OL S6
 dsimp only[Tryz.f151]
 refine cY (z:=11) (N:=27) (c:=6) (by kernel_rfl) (fun k=>k+16) (fun k=>[.pointer (some ⟨g,0,none⟩),.pointer (some ⟨g,0,none⟩),.pointer (some ⟨g,0,none⟩),.pointer (some ⟨g,3,none⟩),sl.v,.pointer (some ⟨b,0,none⟩),undef,undef,undef,.pointer (some ⟨g,0,none⟩),.pointer (some ⟨g,3,none⟩)].getD k undef) (Ph lo b g 64 nm ss N V W s sl r (nk g)) _ w0 rfl qx (fun i j _ _ e=>by omega) (fun i hi=>by omega) (by kernel_rfl) (by omega) (by kernel_rfl) (by kernel_rfl) (by kernel_rfl) hd ?_ ?_ ?_ ?_ ?_
 ·intro k tm w hk hq bU b9 aW bC
  obtain ⟨ph,x,bC⟩:=bC
  have hB:=cq ph x w bC
  match k,hk with
  |0,_=>exact aT rfl rfl _ (.tmp 0) rfl ((b9 0 (by intro i hi;omega)).trans k0) (cD w (hB.cell (List.mem_cons_self ..) rfl)) ⟨rfl,rfl⟩
  |1,_=>exact aT rfl rfl _ (.tmp 0) rfl ((b9 0 (by intro i hi;omega)).trans k0) (cD w (hB.cell (List.mem_cons_self ..) rfl)) ⟨rfl,rfl⟩
  |2,_=>exact aY rfl rfl (.tmp 17) rfl (aW 1 (by omega) (by kernel_rfl)) ⟨rfl,rfl⟩
  |3,_=>exact bK rfl rfl _ (.tmp 18) _ rfl (aW 2 (by omega) (by kernel_rfl)) (vK w) ⟨rfl,rfl⟩
  |4,_=>exact aT rfl rfl _ (.tmp 19) rfl (aW 3 (by omega) (by kernel_rfl)) (by rw[hv];exact vF w (by rw[←hv];exact hB.row hi)) ⟨rfl,rfl⟩
  |5,_=>exact aT rfl rfl _ (.tmp 1) rfl ((b9 1 (by intro i hi;omega)).trans k1) (cV w (hB.cell (zF _ (List.mem_cons_self ..)) rfl)) ⟨rfl,rfl⟩
  |6,_=>omega
  |7,_=>omega
  |8,_=>omega
  |9,_=>exact aY rfl rfl (.tmp 16) rfl (aW 0 (by omega) (by kernel_rfl)) ⟨rfl,rfl⟩
  |10,_=>exact bK rfl rfl _ (.tmp 25) _ rfl (aW 9 (by omega) (by kernel_rfl)) (vK w) ⟨rfl,rfl⟩
 ·intro tm w bU b9 aW bC
  have aZ:Ap lo b g 64 nm ss N V W s w:=bC
  refine cn rfl rfl 101 (lB w) _ _ rfl #[.pointer (some ⟨b,0,none⟩)] ?_ (cQ w s (fun _ _=>True) nz (aZ.imp (fun h=>⟨h,trivial⟩)) rfl) ?_
  ·simp only[List.map_toArray,List.map_cons,List.map_nil,Act.eval]
   rw[show tm.getD 21 undef=_ from aW 5 (by omega) (by kernel_rfl)]
   rfl
  ·intro e w' j7
   rcases Ph.call hN (fS g) bC j7 with ⟨x,rfl,h1⟩|⟨y,hr,rfl,hs⟩
   ·exact .inl ⟨x,rfl,x,rfl,h1⟩
   ·exact .inr ⟨_,rfl,by rw[←pG];exact ⟨rfl,hR _ _ (by unfold CP;rw[hr];exact ⟨rfl,hs⟩)⟩⟩
 ·intro tm w x bU hx bC
  obtain ⟨a,s',hr,eT,aZ⟩:=id bC
  obtain ⟨f1,f2,f3⟩:=fx a x _ _ eT
  exact jQ rfl rfl _ _ _ rfl #[(0,x)] (by simp only[List.map_toArray,List.map_cons,List.map_nil,Act.eval];rw[show tm.getD 22 undef=x from hx]) (f3 w) ⟨_,rfl,Ph.bs hN (fS g) bC⟩
 ·intro tm w y bU aW hy bC
  obtain ⟨a,s',x,gy,hr,rfl,rV,eT,aZ⟩:=id bC
  obtain ⟨f1,f2,f3⟩:=fx a x _ _ eT
  have hl:=aZ.bx.lt
  refine bX w rfl rfl (.tmp 20) (.tmp 23) 23 rfl (g+1) sl.t sl.sz 160 lO ei nv sl.v sl.n sl.xs (aW 4 (by omega) (by kernel_rfl)) (aZ.bx.own 2 sl hi) ⟨gy,0,none⟩ 1 1 x.cells.toList hy (by rw[Array.length_toList,f1];omega) (dL rV) f2 (by unfold maxLen;omega) (by omega) (by omega) ?_
  intro v' w' h1 h2 h3
  exact ⟨v',rfl,Ph.app hr aZ h2 h1 h3⟩
 ·intro tm w y bU b9 dt hy bC
  have hB:=cq 3 y w bC
  obtain ⟨a,s',x,w2,hr,h1,h2,h3,h4⟩:=id bC
  obtain ⟨ya,yn,yc,rfl⟩:=aL h3
  refine dM rfl rfl _ (.tmp 26) (.tmp 24) rfl (dt 10 (by omega) (by omega)) hy (vu w (hB.row hi) (hB.frozen _)) ?_
  rw[←pG]
  go_end0
  exact hR _ _ (Ph.last hN (fS g) hi bC)
theorem OM (h:Ap lo b g 64 nm ss N V W s w0) (hN:aK N) (hi:ss[2]?=some sl) (du:Fit 23 sl 160 (nk g)) (hn:sl.n≤100000) (cB:∀P w,N P w→∀c ∈ ([(pm,#[.pointer (some ⟨g,0,none⟩)],167),(pr,#[.pointer (some ⟨b,0,none⟩)],107)]:List (Nat×Array Value×TypeId)),aP c.1 c.2.1 c.2.2 P w) (cQ:∀w s2 M,aK M→Ap lo b g 64 nm ss (fun P w=>N P w∧M P w) V W s2 w→s2=s→Calls Tryz.prog 101 #[.pointer (some ⟨b,0,none⟩)] w (CR lo b (nk g) w r))
  (hR:∀e w,CP lo b g 64 nm ss N V W 2 sl r (nk g) e w→R e w) (qx:iv.size=27) (k0:iv.getD 0 undef=.pointer (some ⟨pm,0,none⟩)) (k1:iv.getD 1 undef=.pointer (some ⟨pr,0,none⟩)):(Code.seq ON Ku).wp Tryz.prog (bodyPost Tryz.prog Tryz.f151 R) ⟨iv,[]⟩ w0:=by
 obtain ⟨va,vc,hv⟩:=bN (h.bx.own 2 sl hi)
 obtain ⟨ei,lO,nv,rm,fx⟩:=du
 have e7:sl.sz=7:=by
  obtain ⟨i1,z1,h1,h2,h3,h4,h5⟩:=ei
  obtain ⟨i2,z2,g1,g2,g3,g4,g5⟩:=Oh
  have:sl.t=64:=by
   have h9:Tryz.prog.underlying 23=some (.slice 64):=by kernel_rfl
   rw[h9] at lO
   simpa using lO.symm
  rw[this] at h1
  rw[h1] at g1
  obtain rfl:=zC g1
  omega
 have et:sl.t=64:=by
  have h9:Tryz.prog.underlying 23=some (.slice 64):=by kernel_rfl
  rw[h9] at lO
  simpa using lO.symm
 refine wp_seq ?_
 obtain ⟨R2,S0⟩:∃c,Ku=c:=⟨_,rfl⟩
 rw[S0]
 obtain ⟨Qb,pG⟩:∃Q,bodyPost Tryz.prog Tryz.f151 R=Q:=⟨_,rfl⟩
 rw[pG]
 unfold ON S6
 dsimp only[Tryz.f151]
 refine pz (z:=11) (N:=27) (by kernel_rfl) (fun k=>k+4) (fun d tm w=>(∀j,j<11→j≠5→j≠7→j≠8→d.getD j false=true→tm.getD (j+4) undef=[.pointer (some ⟨g,0,none⟩),.pointer (some ⟨g,0,none⟩),.pointer (some ⟨g,3,none⟩),sl.v,.pointer (some ⟨b,0,none⟩),undef,.int .i64 (sl.n:Int),undef,undef,.pointer (some ⟨g,0,none⟩),.pointer (some ⟨g,3,none⟩)].getD j undef)∧((d.getD 8 false=false∧PA lo b g 64 nm ss N V W s r (d.getD 5 false) (tm.getD 9 undef) (d.getD 7 false) (tm.getD 11 undef) w)∨(d.getD 8 false=true∧d.getD 5 false=true∧d.getD 7 false=true∧PB lo b g 64 nm ss N V W sl r (tm.getD 9 undef) (tm.getD 12 undef) w))) _ w0 rfl qx (fun i hi=>by omega) (by kernel_rfl) (by kernel_rfl) ?_ ?_ ?_
 ·intro d hd _
  refine ⟨fun j _ _ _ _ h=>(by rw[hd j] at h;cases h),.inl ⟨hd 8,?_⟩⟩
  rw[hd 5,hd 7]
  obtain ⟨M,s2,q1,q2,q3,q4⟩:=PA.drew (r:=r) hN h
  exact ⟨M,s2,q1,q2,q3,q4⟩
 ·intro k d tm w hk hd gE rT hw bU b9 hG
  obtain ⟨lI,zc⟩:=hG
  have hB:Bs g 64 nm ss [(pm,#[.pointer (some ⟨g,0,none⟩)],167),(pr,#[.pointer (some ⟨b,0,none⟩)],107)] w:=by
   rcases zc with ⟨_,q⟩|⟨_,_,_,q⟩
   ·exact q.base cB
   ·exact q.base cB hi
  have hq:∀v,v=[.pointer (some ⟨g,0,none⟩),.pointer (some ⟨g,0,none⟩),.pointer (some ⟨g,3,none⟩),sl.v,.pointer (some ⟨b,0,none⟩),undef,.int .i64 (sl.n:Int),undef,undef,.pointer (some ⟨g,0,none⟩),.pointer (some ⟨g,3,none⟩)].getD k undef→k≠5→k≠7→k≠8→(∀j,j<11→j≠5→j≠7→j≠8→(d.setIfInBounds k true).getD j false=true→(tm.setIfInBounds (k+4) v).getD (j+4) undef=[.pointer (some ⟨g,0,none⟩),.pointer (some ⟨g,0,none⟩),.pointer (some ⟨g,3,none⟩),sl.v,.pointer (some ⟨b,0,none⟩),undef,.int .i64 (sl.n:Int),undef,undef,.pointer (some ⟨g,0,none⟩),.pointer (some ⟨g,3,none⟩)].getD j undef)∧(((d.setIfInBounds k true).getD 8 false=false∧PA lo b g 64 nm ss N V W s r ((d.setIfInBounds k true).getD 5 false) ((tm.setIfInBounds (k+4) v).getD 9 undef) ((d.setIfInBounds k true).getD 7 false) ((tm.setIfInBounds (k+4) v).getD 11 undef) w)∨((d.setIfInBounds k true).getD 8 false=true∧(d.setIfInBounds k true).getD 5 false=true∧(d.setIfInBounds k true).getD 7 false=true∧PB lo b g 64 nm ss N V W sl r ((tm.setIfInBounds (k+4) v).getD 9 undef) ((tm.setIfInBounds (k+4) v).getD 12 undef) w)):=by
   intro v hv h5 h7 h8
   refine ⟨fun j hj n5 n7 n8 qA=>?_,?_⟩
   ·by_cases e:j=k
    ·subst e
     rw[bV (by omega)]
     exact hv
    ·rw[aB (Ne.symm e)] at qA
     rw[aB (by omega)]
     exact lI j hj n5 n7 n8 qA
   ·rw[aB h8,aB h5,aB h7,aB (show k+4≠9 by omega),aB (show k+4≠11 by omega),aB (show k+4≠12 by omega)]
    exact zc
  match k,hk with
  |0,_=>exact aT rfl rfl _ (.tmp 0) rfl ((b9 0 (by intro i hi;omega)).trans k0) (cD w (hB.cell (List.mem_cons_self ..) rfl)) ⟨_,rfl,hq _ rfl (by omega) (by omega) (by omega)⟩
  |1,_=>exact aY rfl rfl (.tmp 4) rfl (lI 0 (by omega) (by omega) (by omega) (by omega) (hw 0 (by kernel_rfl)).2) ⟨_,rfl,hq _ rfl (by omega) (by omega) (by omega)⟩
  |2,_=>exact bK rfl rfl _ (.tmp 5) _ rfl (lI 1 (by omega) (by omega) (by omega) (by omega) (hw 1 (by kernel_rfl)).2) (vK w) ⟨_,rfl,hq _ rfl (by omega) (by omega) (by omega)⟩
  |3,_=>exact aT rfl rfl _ (.tmp 6) rfl (lI 2 (by omega) (by omega) (by omega) (by omega) (hw 2 (by kernel_rfl)).2) (by rw[hv];exact vF w (by rw[←hv];exact hB.row hi)) ⟨_,rfl,hq _ hv.symm (by omega) (by omega) (by omega)⟩
  |4,_=>exact aT rfl rfl _ (.tmp 1) rfl ((b9 1 (by intro i hi;omega)).trans k1) (cV w (hB.cell (zF _ (List.mem_cons_self ..)) rfl)) ⟨_,rfl,hq _ rfl (by omega) (by omega) (by omega)⟩
  |5,_ =>
   have FP:d.getD 8 false=false∧PA lo b g 64 nm ss N V W s r false (tm.getD 9 undef) (d.getD 7 false) (tm.getD 11 undef) w:=by
    rcases zc with ⟨q1,q2⟩|⟨_,q,_⟩
    ·rw[rT] at q2
     exact ⟨q1,q2⟩
    ·rw[q] at rT;cases rT
   obtain ⟨FP,J0⟩:=FP
   obtain ⟨M,s2,hM,aZ,FN,_⟩:=id J0
   rw[if_neg (by simp)] at FN
   refine cn rfl rfl 101 (lB w) _ _ rfl #[.pointer (some ⟨b,0,none⟩)] ?_ (cQ w s2 M hM aZ FN) ?_
   ·simp only[List.map_toArray,List.map_cons,List.map_nil,Act.eval]
    rw[show tm.getD 8 undef=_ from lI 4 (by omega) (by omega) (by omega) (by omega) (hw 4 (by kernel_rfl)).2]
    rfl
   ·intro e w' j7
    rcases PA.call hN J0 j7 with ⟨x,rfl,h1⟩|⟨y,hr,rfl,hs⟩
    ·refine .inl ⟨x,rfl,x,rfl,fun j hj n5 n7 n8 qA=>?_,.inl ⟨?_,?_⟩⟩
     ·rw[aB (Ne.symm n5)] at qA
      rw[aB (by omega)]
      exact lI j hj n5 n7 n8 qA
     ·rw[aB (by omega)]
      exact FP
     ·rw[bV (by omega),bV (by omega),aB (by omega),aB (by omega)]
      exact h1
    ·exact .inr ⟨_,rfl,by show Qb (Exit.panic _) _ _;rw[←pG];exact ⟨rfl,hR _ _ (by unfold CP;rw[hr];exact ⟨rfl,hs⟩)⟩⟩
  |6,_=>exact Ft rfl rfl (.tmp 7) 23 64 rfl Tryz.underlying23 ((lI 3 (by omega) (by omega) (by omega) (by omega) (hw 3 (by kernel_rfl)).2).trans hv) ⟨_,rfl,hq _ rfl (by omega) (by omega) (by omega)⟩
  |7,_ =>
   have FP:d.getD 8 false=false∧PA lo b g 64 nm ss N V W s r (d.getD 5 false) (tm.getD 9 undef) false (tm.getD 11 undef) w:=by
    rcases zc with ⟨q1,q2⟩|⟨_,_,q,_⟩
    ·rw[rT] at q2
     exact ⟨q1,q2⟩
    ·rw[q] at rT;cases rT
   obtain ⟨FP,J0⟩:=FP
   refine jQ rfl rfl _ _ _ rfl #[(0,.agg gZ)] (by simp only[List.map_toArray,List.map_cons,List.map_nil,Act.eval];rfl) (IJ w) ⟨_,rfl,fun j hj n5 n7 n8 qA=>?_,.inl ⟨?_,?_⟩⟩
   ·rw[aB (Ne.symm n7)] at qA
    rw[aB (by omega)]
    exact lI j hj n5 n7 n8 qA
   ·rw[aB (by omega)]
    exact FP
   ·rw[aB (by omega),aB (by omega),bV (by omega),bV (by omega)]
    exact J0.bs hN
  |8,_ =>
   have WK:=(hw 5 (by kernel_rfl)).2
   have Y1:=(hw 7 (by kernel_rfl)).2
   have J0:PA lo b g 64 nm ss N V W s r true (tm.getD 9 undef) true (tm.getD 11 undef) w:=by
    rcases zc with ⟨_,q⟩|⟨q,_⟩
    ·rw[WK,Y1] at q
     exact q
    ·rw[q] at rT;cases rT
   obtain ⟨M,s2,hM,aZ,hx,hy⟩:=J0
   rw[if_pos rfl] at hx hy
   obtain ⟨a,hr,jC⟩:=hx
   obtain ⟨gy,hy,hz⟩:=hy
   have hl:=aZ.bx.lt
   refine bX w rfl rfl (.tmp 7) (.tmp 11) 23 rfl (g+1) sl.t sl.sz 160 lO ei nv sl.v sl.n sl.xs (lI 3 (by omega) (by omega) (by omega) (by omega) (hw 3 (by kernel_rfl)).2) (aZ.bx.own 2 sl hi) ⟨gy,0,none⟩ 1 1 gZ.toList hy (by rw[e7];rfl) (dL (x:=.agg gZ) (hz _ _ aZ.nx.2).1) ?_ (by unfold maxLen;omega) (by omega) (by omega) ?_
   ·intro u hu
    simp only[gZ,List.mem_cons,List.not_mem_nil,or_false] at hu
    rcases hu with rfl|rfl|rfl|rfl|rfl|rfl|rfl<;>rfl
   ·intro v' w' h1 h2 h3
    refine ⟨v',rfl,fun j hj n5 n7 n8 qA=>?_,.inr ⟨bV (by omega),?_,?_,?_⟩⟩
    ·rw[aB (Ne.symm n8)] at qA
     rw[aB (by omega)]
     exact lI j hj n5 n7 n8 qA
    ·rw[aB (by omega)]
     exact WK
    ·rw[aB (by omega)]
     exact Y1
    ·rw[aB (by omega),bV (by omega)]
     exact ⟨M,a,s2,w,hr,hM,jC,aZ,h2,h1,h3⟩
  |9,_=>exact aY rfl rfl (.tmp 4) rfl (lI 0 (by omega) (by omega) (by omega) (by omega) (hw 0 (by kernel_rfl)).2) ⟨_,rfl,hq _ rfl (by omega) (by omega) (by omega)⟩
  |10,_=>exact bK rfl rfl _ (.tmp 13) _ rfl (lI 9 (by omega) (by omega) (by omega) (by omega) (hw 9 (by kernel_rfl)).2) (vK w) ⟨_,rfl,hq _ rfl (by omega) (by omega) (by omega)⟩
 ·intro d tm w jU bU b9 hG
  obtain ⟨lI,zc⟩:=hG
  have Yu:PB lo b g 64 nm ss N V W sl r (tm.getD 9 undef) (tm.getD 12 undef) w:=by
   rcases zc with ⟨q,_⟩|⟨_,_,_,q⟩
   ·rw[jU 8 (by omega)] at q;cases q
   ·exact q
  have hB:=Yu.base cB hi
  obtain ⟨M,a,s2,w2,hr,hM,jC,aZ,hg,ho,hl⟩:=Yu
  have U6:=lI 6 (by omega) (by omega) (by omega) (by omega) (jU 6 (by omega))
  have Zr:=lI 10 (by omega) (by omega) (by omega) (by omega) (jU 10 (by omega))
  obtain ⟨k,c,M0⟩:∃k c,tm.getD 12 undef=.slice (some ⟨k,0,none⟩) (sl.n+1) c:=by
   rcases ho.2 with ⟨_,e0⟩|⟨k,c,_,e,_⟩
   ·omega
   ·exact ⟨k,c,e⟩
  have hlen:=(h.bx.own 2 sl hi).1
  rw[e7] at hlen
  refine dM rfl rfl _ (.tmp 14) (.tmp 12) rfl Zr M0 (vu w (hB.row hi) (hB.frozen _)) ?_
  have gS:=aZ.app (hN.and hM) hi hg ho hl
  rw[M0] at gS
  show R2.wp Tryz.prog Qb ⟨tm,[]⟩ _
  obtain ⟨⟨l⟩,QG,jT⟩:=jC _ _ gS.nx.2
  obtain ⟨wz,X8⟩:∃wz,w.setCell ⟨g,3,none⟩ (.slice (some ⟨k,0,none⟩) (sl.n+1) c)=wz:=⟨_,rfl⟩
  rw[X8] at gS jT ⊢
  cases jT with
  |cons hf BL hm jT he mP y8 rh ht =>
   cases ht
   obtain ⟨fa,fn,fc,rfl⟩:=aL hf.1
   obtain ⟨oa,on,oc,rfl⟩:=aL BL.1
   obtain ⟨ma,mn,mc,rfl⟩:=aL hm.1
   obtain ⟨ea,en,ec,rfl⟩:=aL he.1
   obtain ⟨ra,rn,rc,rfl⟩:=aL y8.1
   obtain ⟨ga,gn,gc,rfl⟩:=aL rh.1
   rename_i Qr _ _ _ _ _ _ _ _
   have cP:=gS.bx.own 2 _ (fY hi _)
   simp only[e7,et] at cP gS
   have dY:∀t u,gZ.toList[t]?=some u→wz.cell? ⟨k,sl.n*7+t,none⟩=some u:=fun t u ht=>by
    have cw:t<7:=(zB ht).1
    rw[World.ownsRow.cellAt cP (sl.n*7+t) (by omega),←hlen,List.getElem?_append_right (Nat.le_add_right _ _),Nat.add_sub_cancel_left]
    exact ht
   have y0:=dY 0 _ rfl
   have y1:=dY 1 _ rfl
   have y2:=dY 2 _ rfl
   have y3:=dY 3 _ rfl
   have y4:=dY 4 _ rfl
   have y5:=dY 5 _ rfl
   have y6:=dY 6 _ rfl
   have z0:=World.ownsRow.frozenAt cP (sl.n*7)
   have z1:=World.ownsRow.frozenAt cP (sl.n*7+1)
   have z2:=World.ownsRow.frozenAt cP (sl.n*7+2)
   have z3:=World.ownsRow.frozenAt cP (sl.n*7+3)
   have z4:=World.ownsRow.frozenAt cP (sl.n*7+4)
   have z5:=World.ownsRow.frozenAt cP (sl.n*7+5)
   have z6:=World.ownsRow.frozenAt cP (sl.n*7+6)
   rw[Nat.add_zero] at y0
   have oL:=Ap.C9 hi gS (hN.and hM) rfl hlen (.string Qr) (.slice fa fn fc) (.slice oa on oc) (.slice ma mn mc) (.slice ea en ec) (.slice ra rn rc) (.slice ga gn gc)
   have HE:Hid (R (.returned (.tuple #[])) (C9 wz k (sl.n*7) (.string Qr) (.slice fa fn fc) (.slice oa on oc) (.slice ma mn mc) (.slice ea en ec) (.slice ra rn rc) (.slice ga gn gc))):=by
    refine hR _ _ ?_
    unfold CP
    rw[hr]
    refine ⟨rfl,tm.getD 9 undef,.slice (some ⟨k,0,none⟩) (sl.n+1) c,?_⟩
    rw[e7,et]
    have BI:(tm.getD 9 undef).cells.toList=[.string Qr,.slice fa fn fc,.slice oa on oc,.slice ma mn mc,.slice ea en ec,.slice ra rn rc,.slice ga gn gc]:=by rw[QG];rfl
    rw[BI]
    exact oL.imp (fun h=>⟨h.1,jC _ _ h.2⟩)
   obtain ⟨u,hu⟩:=Is bU
   have q9:u 9=.agg #[.string Qr,.slice fa fn fc,.slice oa on oc,.slice ma mn mc,.slice ea en ec,.slice ra rn rc,.slice ga gn gc]:=by rw[hu] at QG;exact QG
   have Cv:u 10=.int .i64 (sl.n:Int):=by rw[hu] at U6;exact U6
   have TM:u 12=.slice (some ⟨k,0,none⟩) (sl.n+1) c:=by rw[hu] at M0;exact M0
   rw[hu,q9,Cv,TM,←S0]
   obtain ⟨L,hL⟩:∃L,sl.n+1=L:=⟨_,rfl⟩
   rw[hL]
   obtain ⟨n,YD⟩:∃n,sl.n=n:=⟨_,rfl⟩
   rw[YD] at y0 y1 y2 y3 y4 y5 y6 z0 z1 z2 z3 z4 z5 z6 HE hL hn ⊢
   have n0:(0:Int)≤(n:Int):=zH _
   have n1:(n:Int)<(L:Int):=by omega
   have n2:n≤100000:=hn
   unfold C9 at HE
   unfold Ku S6
   dsimp only[Tryz.f151]
   clear oL gS cP dY QG U6 M0 q9 Cv TM hu hf BL hm jT he mP y8 rh lI zc b9 jU bU hB aZ hg ho hl Zr X8 hL YD hlen jC hM hr h hN hi ei lO nv rm fx cB cQ hR hv e7 et hn k0 k1 qx
   go_wp2
   rw[←pG]
   go_end0
   exact aa HE
theorem VJ (h:Ap lo b g 64 nm ss N V W s w0) (hN:aK N) (hi:ss[2]?=some sl) (du:Fit 23 sl 160 (nk g)) (hn:sl.n≤100000) (cB:∀P w,N P w→∀c ∈ ([(pm,#[.pointer (some ⟨g,0,none⟩)],167),(pr,#[.pointer (some ⟨b,0,none⟩)],107)]:List (Nat×Array Value×TypeId)),aP c.1 c.2.1 c.2.2 P w) (cQ:∀w s2 M,aK M→Ap lo b g 64 nm ss (fun P w=>N P w∧M P w) V W s2 w→s2=s→Calls Tryz.prog 101 #[.pointer (some ⟨b,0,none⟩)] w (CR lo b (nk g) w r)) :
  Calls Tryz.prog 151 #[.pointer (some ⟨pm,0,none⟩),.pointer (some ⟨pr,0,none⟩)] w0 (CP lo b g 64 nm ss N V W 2 sl r (nk g)):=by
 have HX:∀w,Below w0.heap.size w0 w→∀iv:Array Value,iv.size=27→iv.getD 0 undef=.pointer (some ⟨pm,0,none⟩)→iv.getD 1 undef=.pointer (some ⟨pr,0,none⟩)→(Code.seq ON Ku).wp Tryz.prog (bodyPost Tryz.prog Tryz.f151 (CP lo b g 64 nm ss N V W 2 sl r (nk g))) ⟨iv,[]⟩ w∧OL.wp Tryz.prog (bodyPost Tryz.prog Tryz.f151 (CP lo b g 64 nm ss N V W 2 sl r (nk g))) ⟨iv,[]⟩ w:=fun w hb iv h1 h2 h3 =>
  ⟨OM (h.up hN hb) hN hi du hn cB cQ (fun _ _ h=>h) h1 h2 h3,OK (h.up hN hb) hN hi du hn cB cQ (fun _ _ h=>h) h1 h2 h3⟩
 have Sc:=aj HX
 have HB:=aj (zE w0.heap.size w0)
 clear HX h hN hi du hn cB cQ
 refine calls_of_wp Tryz.func151 OJ ?_
 rw[Kt]
 obtain ⟨X,hX⟩:∃X,Code.seq ON Ku=X:=⟨_,rfl⟩
 obtain ⟨Y,hY⟩:∃Y,OL=Y:=⟨_,rfl⟩
 rw[hX,hY] at Sc
 rw[hX,hY]
 obtain ⟨Q,hQ⟩:∃Q,bodyPost Tryz.prog Tryz.f151 (CP lo b g 64 nm ss N V W 2 sl r (nk g))=Q:=⟨_,rfl⟩
 rw[hQ] at Sc ⊢
 unfold ZH
 dsimp only[Tryz.f151]
 simp only[List.size_toArray,List.length_cons,List.length_nil,Nat.reduceAdd,Nat.reduceSub,Array.replicate_succ,Array.replicate_zero,List.push_toArray,List.append_toArray,List.nil_append,List.cons_append]
 clear hX hY hQ
 go_wp2
 go_region
 all_goals (try go_wp2)
 ·exact (aa Sc _ ((aa HB).alloc (zD _) _).drew _ rfl rfl rfl).2
 ·exact (aa Sc _ ((aa HB).alloc (zD _) _).drew _ rfl rfl rfl).1
end
noncomputable def ZG:Code:=match Tryz.f100.body with
 |some (.seq r _)=>r
 |_=>.skip
noncomputable def S5:Code:=match Tryz.f100.body with
 |some (.seq _ c)=>c
 |_=>.skip
theorem OB:Tryz.f100.body=some (.seq ZG S5):=rfl
noncomputable def OF:Code:=match S5 with
 |.cond _ (.seq r _) _=>r
 |_=>.skip
noncomputable def Ks:Code:=match S5 with
 |.cond _ (.seq _ r) _=>r
 |_=>.skip
noncomputable def OD:Code:=match S5 with
 |.cond _ _ r=>r
 |_=>.skip
theorem Kr:S5=.cond (.tmp 3) (.seq OF Ks) OD:=rfl
section
variable {lo b g : Nat} {nm : ByteArray} {ss : List Slot} {N : (Nat → Prop) → World → Prop} {V W w0 : World} {s : aD} {sl : Slot} {r : Except (Int × Int) (Ms × aD)} {pm pr : Nat} {iv : Array Value} {R : Ending → World → Prop}
theorem OC (h:Ap lo b g 26 nm ss N V W s w0) (hN:aK N) (hi:ss[1]?=some sl) (du:Fit 23 sl 160 (nk g)) (hn:sl.n≤100000) (cB:∀P w,N P w→∀c ∈ ([(pm,#[.pointer (some ⟨g,0,none⟩)],135),(pr,#[.pointer (some ⟨b,0,none⟩)],107)]:List (Nat×Array Value×TypeId)),aP c.1 c.2.1 c.2.2 P w) (cQ:∀w s2 M,aK M→Ap lo b g 26 nm ss (fun P w=>N P w∧M P w) V W s2 w→s2=s→Calls Tryz.prog 101 #[.pointer (some ⟨b,0,none⟩)] w (CR lo b (nk g) w r))
  (hR:∀e w,CP lo b g 26 nm ss N V W 1 sl r (nk g) e w→R e w) (qx:iv.size=27) (k0:iv.getD 0 undef=.pointer (some ⟨pm,0,none⟩)) (k1:iv.getD 1 undef=.pointer (some ⟨pr,0,none⟩)):OD.wp Tryz.prog (bodyPost Tryz.prog Tryz.f100 R) ⟨iv,[]⟩ w0:=by
 obtain ⟨va,vn,vc,hv⟩:=aL (h.bx.own 1 sl hi)
 obtain ⟨ei,lO,nv,rm,fx⟩:=du
 have cq:=Ph.base (lo:=lo) (b:=b) (g:=g) (T:=26) (nm:=nm) (V:=V) (W:=W) (s:=s) (r:=r) (N1:=nk g) cB hi
 have hd:=h.up hN (zE w0.heap.size w0).drew
 obtain ⟨Qb,pG⟩:∃Q,bodyPost Tryz.prog Tryz.f100 R=Q:=⟨_,rfl⟩
 rw[pG]
 unfold OD S5
 dsimp only[Tryz.f100]
 refine cY (z:=11) (N:=27) (c:=6) (by kernel_rfl) (fun k=>k+16) (fun k=>[.pointer (some ⟨g,0,none⟩),.pointer (some ⟨g,0,none⟩),.pointer (some ⟨g,0,none⟩),.pointer (some ⟨g,2,none⟩),sl.v,.pointer (some ⟨b,0,none⟩),undef,undef,undef,.pointer (some ⟨g,0,none⟩),.pointer (some ⟨g,2,none⟩)].getD k undef) (Ph lo b g 26 nm ss N V W s sl r (nk g)) _ w0 rfl qx (fun i j _ _ e=>by omega) (fun i hi=>by omega) (by kernel_rfl) (by omega) (by kernel_rfl) (by kernel_rfl) (by kernel_rfl) hd ?_ ?_ ?_ ?_ ?_
 ·intro k tm w hk hq bU b9 aW bC
  obtain ⟨ph,x,bC⟩:=bC
  have hB:=cq ph x w bC
  match k,hk with
  |0,_=>exact aT rfl rfl _ (.tmp 0) rfl ((b9 0 (by intro i hi;omega)).trans k0) (gR w (hB.cell (List.mem_cons_self ..) rfl)) ⟨rfl,rfl⟩
  |1,_=>exact aT rfl rfl _ (.tmp 0) rfl ((b9 0 (by intro i hi;omega)).trans k0) (gR w (hB.cell (List.mem_cons_self ..) rfl)) ⟨rfl,rfl⟩
  |2,_=>exact aY rfl rfl (.tmp 17) rfl (aW 1 (by omega) (by kernel_rfl)) ⟨rfl,rfl⟩
  |3,_=>exact bK rfl rfl _ (.tmp 18) _ rfl (aW 2 (by omega) (by kernel_rfl)) (qH w) ⟨rfl,rfl⟩
  |4,_=>exact aT rfl rfl _ (.tmp 19) rfl (aW 3 (by omega) (by kernel_rfl)) (by rw[hv];exact vF w (by rw[←hv];exact hB.row hi)) ⟨rfl,rfl⟩
  |5,_=>exact aT rfl rfl _ (.tmp 1) rfl ((b9 1 (by intro i hi;omega)).trans k1) (cV w (hB.cell (zF _ (List.mem_cons_self ..)) rfl)) ⟨rfl,rfl⟩
  |6,_=>omega
  |7,_=>omega
  |8,_=>omega
  |9,_=>exact aY rfl rfl (.tmp 16) rfl (aW 0 (by omega) (by kernel_rfl)) ⟨rfl,rfl⟩
  |10,_=>exact bK rfl rfl _ (.tmp 25) _ rfl (aW 9 (by omega) (by kernel_rfl)) (qH w) ⟨rfl,rfl⟩
 ·intro tm w bU b9 aW bC
  have aZ:Ap lo b g 26 nm ss N V W s w:=bC
  refine cn rfl rfl 101 (lB w) _ _ rfl #[.pointer (some ⟨b,0,none⟩)] ?_ (cQ w s (fun _ _=>True) nz (aZ.imp (fun h=>⟨h,trivial⟩)) rfl) ?_
  ·simp only[List.map_toArray,List.map_cons,List.map_nil,Act.eval]
   rw[show tm.getD 21 undef=_ from aW 5 (by omega) (by kernel_rfl)]
   rfl
  ·intro e w' j7
   rcases Ph.call hN (fS g) bC j7 with ⟨x,rfl,h1⟩|⟨y,hr,rfl,hs⟩
   ·exact .inl ⟨x,rfl,x,rfl,h1⟩
   ·exact .inr ⟨_,rfl,by rw[←pG];exact ⟨rfl,hR _ _ (by unfold CP;rw[hr];exact ⟨rfl,hs⟩)⟩⟩
 ·intro tm w x bU hx bC
  obtain ⟨a,s',hr,eT,aZ⟩:=id bC
  obtain ⟨f1,f2,f3⟩:=fx a x _ _ eT
  exact jQ rfl rfl _ _ _ rfl #[(0,x)] (by simp only[List.map_toArray,List.map_cons,List.map_nil,Act.eval];rw[show tm.getD 22 undef=x from hx]) (f3 w) ⟨_,rfl,Ph.bs hN (fS g) bC⟩
 ·intro tm w y bU aW hy bC
  obtain ⟨a,s',x,gy,hr,rfl,rV,eT,aZ⟩:=id bC
  obtain ⟨f1,f2,f3⟩:=fx a x _ _ eT
  have hl:=aZ.bx.lt
  refine bX w rfl rfl (.tmp 20) (.tmp 23) 23 rfl (g+1) sl.t sl.sz 160 lO ei nv sl.v sl.n sl.xs (aW 4 (by omega) (by kernel_rfl)) (aZ.bx.own 1 sl hi) ⟨gy,0,none⟩ 1 1 x.cells.toList hy (by rw[Array.length_toList,f1];omega) (dL rV) f2 (by unfold maxLen;omega) (by omega) (by omega) ?_
  intro v' w' h1 h2 h3
  exact ⟨v',rfl,Ph.app hr aZ h2 h1 h3⟩
 ·intro tm w y bU b9 dt hy bC
  have hB:=cq 3 y w bC
  obtain ⟨a,s',x,w2,hr,h1,h2,h3,h4⟩:=id bC
  obtain ⟨ya,yn,yc,rfl⟩:=aL h3
  refine dM rfl rfl _ (.tmp 26) (.tmp 24) rfl (dt 10 (by omega) (by omega)) hy (vu w (hB.row hi) (hB.frozen _)) ?_
  rw[←pG]
  go_end0
  exact hR _ _ (Ph.last hN (fS g) hi bC)
theorem OE (h:Ap lo b g 26 nm ss N V W s w0) (hN:aK N) (hi:ss[1]?=some sl) (du:Fit 23 sl 160 (nk g)) (hn:sl.n≤100000) (cB:∀P w,N P w→∀c ∈ ([(pm,#[.pointer (some ⟨g,0,none⟩)],135),(pr,#[.pointer (some ⟨b,0,none⟩)],107)]:List (Nat×Array Value×TypeId)),aP c.1 c.2.1 c.2.2 P w) (cQ:∀w s2 M,aK M→Ap lo b g 26 nm ss (fun P w=>N P w∧M P w) V W s2 w→s2=s→Calls Tryz.prog 101 #[.pointer (some ⟨b,0,none⟩)] w (CR lo b (nk g) w r))
  (hR:∀e w,CP lo b g 26 nm ss N V W 1 sl r (nk g) e w→R e w) (qx:iv.size=27) (k0:iv.getD 0 undef=.pointer (some ⟨pm,0,none⟩)) (k1:iv.getD 1 undef=.pointer (some ⟨pr,0,none⟩)):(Code.seq OF Ks).wp Tryz.prog (bodyPost Tryz.prog Tryz.f100 R) ⟨iv,[]⟩ w0:=by
 obtain ⟨va,vc,hv⟩:=bN (h.bx.own 1 sl hi)
 obtain ⟨ei,lO,nv,rm,fx⟩:=du
 have e7:sl.sz=7:=by
  obtain ⟨i1,z1,h1,h2,h3,h4,h5⟩:=ei
  obtain ⟨i2,z2,g1,g2,g3,g4,g5⟩:=Oh
  have:sl.t=64:=by
   have h9:Tryz.prog.underlying 23=some (.slice 64):=by kernel_rfl
   rw[h9] at lO
   simpa using lO.symm
  rw[this] at h1
  rw[h1] at g1
  obtain rfl:=zC g1
  omega
 have et:sl.t=64:=by
  have h9:Tryz.prog.underlying 23=some (.slice 64):=by kernel_rfl
  rw[h9] at lO
  simpa using lO.symm
 refine wp_seq ?_
 obtain ⟨R2,S0⟩:∃c,Ks=c:=⟨_,rfl⟩
 rw[S0]
 obtain ⟨Qb,pG⟩:∃Q,bodyPost Tryz.prog Tryz.f100 R=Q:=⟨_,rfl⟩
 rw[pG]
 unfold OF S5
 dsimp only[Tryz.f100]
 refine pz (z:=11) (N:=27) (by kernel_rfl) (fun k=>k+4) (fun d tm w=>(∀j,j<11→j≠5→j≠7→j≠8→d.getD j false=true→tm.getD (j+4) undef=[.pointer (some ⟨g,0,none⟩),.pointer (some ⟨g,0,none⟩),.pointer (some ⟨g,2,none⟩),sl.v,.pointer (some ⟨b,0,none⟩),undef,.int .i64 (sl.n:Int),undef,undef,.pointer (some ⟨g,0,none⟩),.pointer (some ⟨g,2,none⟩)].getD j undef)∧((d.getD 8 false=false∧PA lo b g 26 nm ss N V W s r (d.getD 5 false) (tm.getD 9 undef) (d.getD 7 false) (tm.getD 11 undef) w)∨(d.getD 8 false=true∧d.getD 5 false=true∧d.getD 7 false=true∧PB lo b g 26 nm ss N V W sl r (tm.getD 9 undef) (tm.getD 12 undef) w))) _ w0 rfl qx (fun i hi=>by omega) (by kernel_rfl) (by kernel_rfl) ?_ ?_ ?_
 ·intro d hd _
  refine ⟨fun j _ _ _ _ h=>(by rw[hd j] at h;cases h),.inl ⟨hd 8,?_⟩⟩
  rw[hd 5,hd 7]
  obtain ⟨M,s2,q1,q2,q3,q4⟩:=PA.drew (r:=r) hN h
  exact ⟨M,s2,q1,q2,q3,q4⟩
 ·intro k d tm w hk hd gE rT hw bU b9 hG
  obtain ⟨lI,zc⟩:=hG
  have hB:Bs g 26 nm ss [(pm,#[.pointer (some ⟨g,0,none⟩)],135),(pr,#[.pointer (some ⟨b,0,none⟩)],107)] w:=by
   rcases zc with ⟨_,q⟩|⟨_,_,_,q⟩
   ·exact q.base cB
   ·exact q.base cB hi
  have hq:∀v,v=[.pointer (some ⟨g,0,none⟩),.pointer (some ⟨g,0,none⟩),.pointer (some ⟨g,2,none⟩),sl.v,.pointer (some ⟨b,0,none⟩),undef,.int .i64 (sl.n:Int),undef,undef,.pointer (some ⟨g,0,none⟩),.pointer (some ⟨g,2,none⟩)].getD k undef→k≠5→k≠7→k≠8→(∀j,j<11→j≠5→j≠7→j≠8→(d.setIfInBounds k true).getD j false=true→(tm.setIfInBounds (k+4) v).getD (j+4) undef=[.pointer (some ⟨g,0,none⟩),.pointer (some ⟨g,0,none⟩),.pointer (some ⟨g,2,none⟩),sl.v,.pointer (some ⟨b,0,none⟩),undef,.int .i64 (sl.n:Int),undef,undef,.pointer (some ⟨g,0,none⟩),.pointer (some ⟨g,2,none⟩)].getD j undef)∧(((d.setIfInBounds k true).getD 8 false=false∧PA lo b g 26 nm ss N V W s r ((d.setIfInBounds k true).getD 5 false) ((tm.setIfInBounds (k+4) v).getD 9 undef) ((d.setIfInBounds k true).getD 7 false) ((tm.setIfInBounds (k+4) v).getD 11 undef) w)∨((d.setIfInBounds k true).getD 8 false=true∧(d.setIfInBounds k true).getD 5 false=true∧(d.setIfInBounds k true).getD 7 false=true∧PB lo b g 26 nm ss N V W sl r ((tm.setIfInBounds (k+4) v).getD 9 undef) ((tm.setIfInBounds (k+4) v).getD 12 undef) w)):=by
   intro v hv h5 h7 h8
   refine ⟨fun j hj n5 n7 n8 qA=>?_,?_⟩
   ·by_cases e:j=k
    ·subst e
     rw[bV (by omega)]
     exact hv
    ·rw[aB (Ne.symm e)] at qA
     rw[aB (by omega)]
     exact lI j hj n5 n7 n8 qA
   ·rw[aB h8,aB h5,aB h7,aB (show k+4≠9 by omega),aB (show k+4≠11 by omega),aB (show k+4≠12 by omega)]
    exact zc
  match k,hk with
  |0,_=>exact aT rfl rfl _ (.tmp 0) rfl ((b9 0 (by intro i hi;omega)).trans k0) (gR w (hB.cell (List.mem_cons_self ..) rfl)) ⟨_,rfl,hq _ rfl (by omega) (by omega) (by omega)⟩
  |1,_=>exact aY rfl rfl (.tmp 4) rfl (lI 0 (by omega) (by omega) (by omega) (by omega) (hw 0 (by kernel_rfl)).2) ⟨_,rfl,hq _ rfl (by omega) (by omega) (by omega)⟩
  |2,_=>exact bK rfl rfl _ (.tmp 5) _ rfl (lI 1 (by omega) (by omega) (by omega) (by omega) (hw 1 (by kernel_rfl)).2) (qH w) ⟨_,rfl,hq _ rfl (by omega) (by omega) (by omega)⟩
  |3,_=>exact aT rfl rfl _ (.tmp 6) rfl (lI 2 (by omega) (by omega) (by omega) (by omega) (hw 2 (by kernel_rfl)).2) (by rw[hv];exact vF w (by rw[←hv];exact hB.row hi)) ⟨_,rfl,hq _ hv.symm (by omega) (by omega) (by omega)⟩
  |4,_=>exact aT rfl rfl _ (.tmp 1) rfl ((b9 1 (by intro i hi;omega)).trans k1) (cV w (hB.cell (zF _ (List.mem_cons_self ..)) rfl)) ⟨_,rfl,hq _ rfl (by omega) (by omega) (by omega)⟩
  |5,_ =>
   have FP:d.getD 8 false=false∧PA lo b g 26 nm ss N V W s r false (tm.getD 9 undef) (d.getD 7 false) (tm.getD 11 undef) w:=by
    rcases zc with ⟨q1,q2⟩|⟨_,q,_⟩
    ·rw[rT] at q2
     exact ⟨q1,q2⟩
    ·rw[q] at rT;cases rT
   obtain ⟨FP,J0⟩:=FP
   obtain ⟨M,s2,hM,aZ,FN,_⟩:=id J0
   rw[if_neg (by simp)] at FN
   refine cn rfl rfl 101 (lB w) _ _ rfl #[.pointer (some ⟨b,0,none⟩)] ?_ (cQ w s2 M hM aZ FN) ?_
   ·simp only[List.map_toArray,List.map_cons,List.map_nil,Act.eval]
    rw[show tm.getD 8 undef=_ from lI 4 (by omega) (by omega) (by omega) (by omega) (hw 4 (by kernel_rfl)).2]
    rfl
   ·intro e w' j7
    rcases PA.call hN J0 j7 with ⟨x,rfl,h1⟩|⟨y,hr,rfl,hs⟩
    ·refine .inl ⟨x,rfl,x,rfl,fun j hj n5 n7 n8 qA=>?_,.inl ⟨?_,?_⟩⟩
     ·rw[aB (Ne.symm n5)] at qA
      rw[aB (by omega)]
      exact lI j hj n5 n7 n8 qA
     ·rw[aB (by omega)]
      exact FP
     ·rw[bV (by omega),bV (by omega),aB (by omega),aB (by omega)]
      exact h1
    ·exact .inr ⟨_,rfl,by show Qb (Exit.panic _) _ _;rw[←pG];exact ⟨rfl,hR _ _ (by unfold CP;rw[hr];exact ⟨rfl,hs⟩)⟩⟩
  |6,_=>exact Ft rfl rfl (.tmp 7) 23 64 rfl Tryz.underlying23 ((lI 3 (by omega) (by omega) (by omega) (by omega) (hw 3 (by kernel_rfl)).2).trans hv) ⟨_,rfl,hq _ rfl (by omega) (by omega) (by omega)⟩
  |7,_ =>
   have FP:d.getD 8 false=false∧PA lo b g 26 nm ss N V W s r (d.getD 5 false) (tm.getD 9 undef) false (tm.getD 11 undef) w:=by
    rcases zc with ⟨q1,q2⟩|⟨_,_,q,_⟩
    ·rw[rT] at q2
     exact ⟨q1,q2⟩
    ·rw[q] at rT;cases rT
   obtain ⟨FP,J0⟩:=FP
   refine jQ rfl rfl _ _ _ rfl #[(0,.agg gZ)] (by simp only[List.map_toArray,List.map_cons,List.map_nil,Act.eval];rfl) (IJ w) ⟨_,rfl,fun j hj n5 n7 n8 qA=>?_,.inl ⟨?_,?_⟩⟩
   ·rw[aB (Ne.symm n7)] at qA
    rw[aB (by omega)]
    exact lI j hj n5 n7 n8 qA
   ·rw[aB (by omega)]
    exact FP
   ·rw[aB (by omega),aB (by omega),bV (by omega),bV (by omega)]
    exact J0.bs hN
  |8,_ =>
   have WK:=(hw 5 (by kernel_rfl)).2
   have Y1:=(hw 7 (by kernel_rfl)).2
   have J0:PA lo b g 26 nm ss N V W s r true (tm.getD 9 undef) true (tm.getD 11 undef) w:=by
    rcases zc with ⟨_,q⟩|⟨q,_⟩
    ·rw[WK,Y1] at q
     exact q
    ·rw[q] at rT;cases rT
   obtain ⟨M,s2,hM,aZ,hx,hy⟩:=J0
   rw[if_pos rfl] at hx hy
   obtain ⟨a,hr,jC⟩:=hx
   obtain ⟨gy,hy,hz⟩:=hy
   have hl:=aZ.bx.lt
   refine bX w rfl rfl (.tmp 7) (.tmp 11) 23 rfl (g+1) sl.t sl.sz 160 lO ei nv sl.v sl.n sl.xs (lI 3 (by omega) (by omega) (by omega) (by omega) (hw 3 (by kernel_rfl)).2) (aZ.bx.own 1 sl hi) ⟨gy,0,none⟩ 1 1 gZ.toList hy (by rw[e7];rfl) (dL (x:=.agg gZ) (hz _ _ aZ.nx.2).1) ?_ (by unfold maxLen;omega) (by omega) (by omega) ?_
   ·intro u hu
    simp only[gZ,List.mem_cons,List.not_mem_nil,or_false] at hu
    rcases hu with rfl|rfl|rfl|rfl|rfl|rfl|rfl<;>rfl
   ·intro v' w' h1 h2 h3
    refine ⟨v',rfl,fun j hj n5 n7 n8 qA=>?_,.inr ⟨bV (by omega),?_,?_,?_⟩⟩
    ·rw[aB (Ne.symm n8)] at qA
     rw[aB (by omega)]
     exact lI j hj n5 n7 n8 qA
    ·rw[aB (by omega)]
     exact WK
    ·rw[aB (by omega)]
     exact Y1
    ·rw[aB (by omega),bV (by omega)]
     exact ⟨M,a,s2,w,hr,hM,jC,aZ,h2,h1,h3⟩
  |9,_=>exact aY rfl rfl (.tmp 4) rfl (lI 0 (by omega) (by omega) (by omega) (by omega) (hw 0 (by kernel_rfl)).2) ⟨_,rfl,hq _ rfl (by omega) (by omega) (by omega)⟩
  |10,_=>exact bK rfl rfl _ (.tmp 13) _ rfl (lI 9 (by omega) (by omega) (by omega) (by omega) (hw 9 (by kernel_rfl)).2) (qH w) ⟨_,rfl,hq _ rfl (by omega) (by omega) (by omega)⟩
 ·intro d tm w jU bU b9 hG
  obtain ⟨lI,zc⟩:=hG
  have Yu:PB lo b g 26 nm ss N V W sl r (tm.getD 9 undef) (tm.getD 12 undef) w:=by
   rcases zc with ⟨q,_⟩|⟨_,_,_,q⟩
   ·rw[jU 8 (by omega)] at q;cases q
   ·exact q
  have hB:=Yu.base cB hi
  obtain ⟨M,a,s2,w2,hr,hM,jC,aZ,hg,ho,hl⟩:=Yu
  have U6:=lI 6 (by omega) (by omega) (by omega) (by omega) (jU 6 (by omega))
  have Zr:=lI 10 (by omega) (by omega) (by omega) (by omega) (jU 10 (by omega))
  obtain ⟨k,c,M0⟩:∃k c,tm.getD 12 undef=.slice (some ⟨k,0,none⟩) (sl.n+1) c:=by
   rcases ho.2 with ⟨_,e0⟩|⟨k,c,_,e,_⟩
   ·omega
   ·exact ⟨k,c,e⟩
  have hlen:=(h.bx.own 1 sl hi).1
  rw[e7] at hlen
  refine dM rfl rfl _ (.tmp 14) (.tmp 12) rfl Zr M0 (vu w (hB.row hi) (hB.frozen _)) ?_
  have gS:=aZ.app (hN.and hM) hi hg ho hl
  rw[M0] at gS
  show R2.wp Tryz.prog Qb ⟨tm,[]⟩ _
  obtain ⟨⟨l⟩,QG,jT⟩:=jC _ _ gS.nx.2
  obtain ⟨wz,X8⟩:∃wz,w.setCell ⟨g,2,none⟩ (.slice (some ⟨k,0,none⟩) (sl.n+1) c)=wz:=⟨_,rfl⟩
  rw[X8] at gS jT ⊢
  cases jT with
  |cons hf BL hm jT he mP y8 rh ht =>
   cases ht
   obtain ⟨fa,fn,fc,rfl⟩:=aL hf.1
   obtain ⟨oa,on,oc,rfl⟩:=aL BL.1
   obtain ⟨ma,mn,mc,rfl⟩:=aL hm.1
   obtain ⟨ea,en,ec,rfl⟩:=aL he.1
   obtain ⟨ra,rn,rc,rfl⟩:=aL y8.1
   obtain ⟨ga,gn,gc,rfl⟩:=aL rh.1
   rename_i Qr _ _ _ _ _ _ _ _
   have cP:=gS.bx.own 1 _ (fY hi _)
   simp only[e7,et] at cP gS
   have dY:∀t u,gZ.toList[t]?=some u→wz.cell? ⟨k,sl.n*7+t,none⟩=some u:=fun t u ht=>by
    have cw:t<7:=(zB ht).1
    rw[World.ownsRow.cellAt cP (sl.n*7+t) (by omega),←hlen,List.getElem?_append_right (Nat.le_add_right _ _),Nat.add_sub_cancel_left]
    exact ht
   have y0:=dY 0 _ rfl
   have y1:=dY 1 _ rfl
   have y2:=dY 2 _ rfl
   have y3:=dY 3 _ rfl
   have y4:=dY 4 _ rfl
   have y5:=dY 5 _ rfl
   have y6:=dY 6 _ rfl
   have z0:=World.ownsRow.frozenAt cP (sl.n*7)
   have z1:=World.ownsRow.frozenAt cP (sl.n*7+1)
   have z2:=World.ownsRow.frozenAt cP (sl.n*7+2)
   have z3:=World.ownsRow.frozenAt cP (sl.n*7+3)
   have z4:=World.ownsRow.frozenAt cP (sl.n*7+4)
   have z5:=World.ownsRow.frozenAt cP (sl.n*7+5)
   have z6:=World.ownsRow.frozenAt cP (sl.n*7+6)
   rw[Nat.add_zero] at y0
   have oL:=Ap.C9 hi gS (hN.and hM) rfl hlen (.string Qr) (.slice fa fn fc) (.slice oa on oc) (.slice ma mn mc) (.slice ea en ec) (.slice ra rn rc) (.slice ga gn gc)
   have HE:Hid (R (.returned (.tuple #[])) (C9 wz k (sl.n*7) (.string Qr) (.slice fa fn fc) (.slice oa on oc) (.slice ma mn mc) (.slice ea en ec) (.slice ra rn rc) (.slice ga gn gc))):=by
    refine hR _ _ ?_
    unfold CP
    rw[hr]
    refine ⟨rfl,tm.getD 9 undef,.slice (some ⟨k,0,none⟩) (sl.n+1) c,?_⟩
    rw[e7,et]
    have BI:(tm.getD 9 undef).cells.toList=[.string Qr,.slice fa fn fc,.slice oa on oc,.slice ma mn mc,.slice ea en ec,.slice ra rn rc,.slice ga gn gc]:=by rw[QG];rfl
    rw[BI]
    exact oL.imp (fun h=>⟨h.1,jC _ _ h.2⟩)
   obtain ⟨u,hu⟩:=Is bU
   have q9:u 9=.agg #[.string Qr,.slice fa fn fc,.slice oa on oc,.slice ma mn mc,.slice ea en ec,.slice ra rn rc,.slice ga gn gc]:=by rw[hu] at QG;exact QG
   have Cv:u 10=.int .i64 (sl.n:Int):=by rw[hu] at U6;exact U6
   have TM:u 12=.slice (some ⟨k,0,none⟩) (sl.n+1) c:=by rw[hu] at M0;exact M0
   rw[hu,q9,Cv,TM,←S0]
   obtain ⟨L,hL⟩:∃L,sl.n+1=L:=⟨_,rfl⟩
   rw[hL]
   obtain ⟨n,YD⟩:∃n,sl.n=n:=⟨_,rfl⟩
   rw[YD] at y0 y1 y2 y3 y4 y5 y6 z0 z1 z2 z3 z4 z5 z6 HE hL hn ⊢
   have n0:(0:Int)≤(n:Int):=zH _
   have n1:(n:Int)<(L:Int):=by omega
   have n2:n≤100000:=hn
   unfold C9 at HE
   unfold Ks S5
   dsimp only[Tryz.f100]
   clear oL gS cP dY QG U6 M0 q9 Cv TM hu hf BL hm jT he mP y8 rh lI zc b9 jU bU hB aZ hg ho hl Zr X8 hL YD hlen jC hM hr h hN hi ei lO nv rm fx cB cQ hR hv e7 et hn k0 k1 qx
   go_wp2
   rw[←pG]
   go_end0
   exact aa HE
theorem VF (h:Ap lo b g 26 nm ss N V W s w0) (hN:aK N) (hi:ss[1]?=some sl) (du:Fit 23 sl 160 (nk g)) (hn:sl.n≤100000) (cB:∀P w,N P w→∀c ∈ ([(pm,#[.pointer (some ⟨g,0,none⟩)],135),(pr,#[.pointer (some ⟨b,0,none⟩)],107)]:List (Nat×Array Value×TypeId)),aP c.1 c.2.1 c.2.2 P w) (cQ:∀w s2 M,aK M→Ap lo b g 26 nm ss (fun P w=>N P w∧M P w) V W s2 w→s2=s→Calls Tryz.prog 101 #[.pointer (some ⟨b,0,none⟩)] w (CR lo b (nk g) w r)) :
  Calls Tryz.prog 100 #[.pointer (some ⟨pm,0,none⟩),.pointer (some ⟨pr,0,none⟩)] w0 (CP lo b g 26 nm ss N V W 1 sl r (nk g)):=by
 have HX:∀w,Below w0.heap.size w0 w→∀iv:Array Value,iv.size=27→iv.getD 0 undef=.pointer (some ⟨pm,0,none⟩)→iv.getD 1 undef=.pointer (some ⟨pr,0,none⟩)→(Code.seq OF Ks).wp Tryz.prog (bodyPost Tryz.prog Tryz.f100 (CP lo b g 26 nm ss N V W 1 sl r (nk g))) ⟨iv,[]⟩ w∧OD.wp Tryz.prog (bodyPost Tryz.prog Tryz.f100 (CP lo b g 26 nm ss N V W 1 sl r (nk g))) ⟨iv,[]⟩ w:=fun w hb iv h1 h2 h3 =>
  ⟨OE (h.up hN hb) hN hi du hn cB cQ (fun _ _ h=>h) h1 h2 h3,OC (h.up hN hb) hN hi du hn cB cQ (fun _ _ h=>h) h1 h2 h3⟩
 have Sc:=aj HX
 have HB:=aj (zE w0.heap.size w0)
 clear HX h hN hi du hn cB cQ
 refine calls_of_wp Tryz.func100 OB ?_
 rw[Kr]
 obtain ⟨X,hX⟩:∃X,Code.seq OF Ks=X:=⟨_,rfl⟩
 obtain ⟨Y,hY⟩:∃Y,OD=Y:=⟨_,rfl⟩
 rw[hX,hY] at Sc
 rw[hX,hY]
 obtain ⟨Q,hQ⟩:∃Q,bodyPost Tryz.prog Tryz.f100 (CP lo b g 26 nm ss N V W 1 sl r (nk g))=Q:=⟨_,rfl⟩
 rw[hQ] at Sc ⊢
 unfold ZG
 dsimp only[Tryz.f100]
 simp only[List.size_toArray,List.length_cons,List.length_nil,Nat.reduceAdd,Nat.reduceSub,Array.replicate_succ,Array.replicate_zero,List.push_toArray,List.append_toArray,List.nil_append,List.cons_append]
 clear hX hY hQ
 go_wp2
 go_region
 all_goals (try go_wp2)
 ·exact (aa Sc _ ((aa HB).alloc (zD _) _).drew _ rfl rfl rfl).2
 ·exact (aa Sc _ ((aa HB).alloc (zD _) _).drew _ rfl rfl rfl).1
end
end Go.Proofs.YtmlphohdcejniaaGreatDoor

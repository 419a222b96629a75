import Derived.Test.YtmlphohdcejniaaGreatDoorM23
set_option maxHeartbeats 4000000
set_option maxRecDepth 100000
namespace Go.Proofs.YtmlphohdcejniaaGreatDoor
open Go.RowKit
attribute [local go_sem ↓] Go.wp_at_zero Go.wp_at_succ
theorem nc {tm:Array Value}{j:Nat}{v:Value} (hj:j<tm.size) (e:tm.getD j undef=v):tm[j]?=some v:=by
 rw[←e]
 simp[Array.getD_eq_getD_getElem?,Array.getElem?_eq_getElem hj]
theorem kg {tm:Array Value}{j:Nat}{v:Value} (h:tm[j]?=some v):tm.getD j undef=v:=by
 rw[Array.getD_eq_getD_getElem?,h];rfl
noncomputable def oF (nm:ByteArray) (s:aI):Except (Int×Int) (En×aI):=match ie (cj Dk NR) ⟨nm,[],[],[]⟩ s with
 |.error e=>.error e
 |.ok (x,s3)=>rC x s3
theorem Mq {lo b g p1 p2:Nat}{nm:ByteArray}{V W0 W1 w:World}{s:aI}{e0 e1 e2 e3:Value} (h:N0 lo b g nm (fun P w=>aP p1 #[.pointer (some ⟨b,0,none⟩)] 107 P w∧aP p2 #[e0,e1,e2,e3] 68 P w) V W1 ⟨nm,[],[],[]⟩ s w)
  (tX:W0.grownBy W1 (some b)) (dr:lo≤W0.heap.size∧W0.heap.size≤p2∧p2<g) {tm:Array Value} (bR:tm.size=25) (je:Gh tm [(1,.pointer (some ⟨p1,0,none⟩)),(2,.pointer (some ⟨p2,0,none⟩)),(3,.pointer (some ⟨g,0,none⟩))]) {R:Ending→World→Prop}
  (hR:∀e w,CR lo b NE W0 (oF nm s) e w→R e w):CD.wp Tryz.prog (bodyPost Tryz.prog Tryz.f103 R) ⟨tm,[]⟩ w:=by
 obtain ⟨f1,f2,f3,_⟩:=je
 have k1:=kg f1
 have k2:=kg f2
 have k3:=kg f3
 simp only at k1 k2 k3
 rw[IN]
 refine wp_seq ?_
 obtain ⟨T5,Xf⟩:∃T,PC=T:=⟨_,rfl⟩
 rw[Xf]
 obtain ⟨Qb,oB⟩:∃Q,bodyPost Tryz.prog Tryz.f103 R=Q:=⟨_,rfl⟩
 rw[oB]
 unfold XA CD
 dsimp only[Tryz.f103]
 have LP:aK (fun P w=>aP p1 #[.pointer (some ⟨b,0,none⟩)] 107 P w∧aP p2 #[e0,e1,e2,e3] 68 P w):=(bp _ _ _).and (bp _ _ _)
 refine gU (z:=4) (N:=25) 2 (by kernel_rfl) (fun k=>k+11) (fun k=>[.pointer (some ⟨b,0,none⟩),.pointer (some ⟨b,0,none⟩),undef,.func (.func 128) #[] #[.pointer (some ⟨g,0,none⟩),.pointer (some ⟨p1,0,none⟩)]].getD k undef)
  (fun w=>N0 lo b g nm (fun P w=>aP p1 #[.pointer (some ⟨b,0,none⟩)] 107 P w∧aP p2 #[e0,e1,e2,e3] 68 P w) V W1 ⟨nm,[],[],[]⟩ s w)
  (fun x w=>∃pv,x=.map (some (pv+2))∧N0 lo b g nm (fun P w=>(aP p1 #[.pointer (some ⟨b,0,none⟩)] 107 P w∧aP p2 #[e0,e1,e2,e3] 68 P w)∧(aP pv #[.pointer (some ⟨b,0,none⟩)] 107 P w∧aP (pv+1) #[.pointer (some ⟨g,0,none⟩)] 170 P w∧gL (pv+2) (kr pv b) P w)) V W1 ⟨nm,[],[],[]⟩ s w)
  _ w rfl bR (fun i j _ _ e=>by omega) (fun i hi=>by omega) (by kernel_rfl) (by kernel_rfl) ?_ ?_ ?_ ?_
 ·have hb:=(zE w.heap.size w).drew
  obtain ⟨_,⟨vv,vr,vg,aZ⟩,_⟩:=id h
  exact h.step LP (aZ.rd.up hb) (aA b hb) (.refl _)
 ·intro k oh w' hk SG gW bW aV hw
  have dw:w'.cell? ⟨p1,0,none⟩=some (.pointer (some ⟨b,0,none⟩)):=by
   rcases hw with ⟨_,⟨vv,vr,vg,aZ⟩,_⟩|⟨_,pv,_,_,⟨vv,vr,vg,aZ⟩,_⟩
   ·rw[cell_of_row _ _ _ _ _ _ aZ.nx.1.1];rfl
   ·rw[cell_of_row _ _ _ _ _ _ aZ.nx.1.1.1];rfl
  match k,hk with
  |0,_=>exact aS rfl rfl _ (.tmp 1) rfl ((bW 1 (by intro i hi;omega)).trans k1) (cJ _ dw) ⟨rfl,rfl⟩
  |1,_=>exact aS rfl rfl _ (.tmp 1) rfl ((bW 1 (by intro i hi;omega)).trans k1) (cJ _ dw) ⟨rfl,rfl⟩
  |2,_=>omega
  |3,_=>exact mQ rfl rfl _ _ _ rfl #[] #[.pointer (some ⟨g,0,none⟩),.pointer (some ⟨p1,0,none⟩)] (by simp) (by simp only[List.map_toArray,List.map_cons,List.map_nil,Act.eval];rw[show oh.getD 3 undef=_ from (bW 3 (by intro i hi;omega)).trans k3,show oh.getD 1 undef=_ from (bW 1 (by intro i hi;omega)).trans k1]) ⟨rfl,rfl⟩
 ·intro _ oh w' gW bW aV hw
  refine b9 rfl rfl 127 (EJ w') _ _ rfl #[.pointer (some ⟨b,0,none⟩),.pointer (some ⟨g,0,none⟩)] ?_ (DB w' b g) ?_
  ·simp only[List.map_toArray,List.map_cons,List.map_nil,Act.eval]
   rw[show oh.getD 12 undef=_ from aV 1 (by omega) (by kernel_rfl),show oh.getD 3 undef=_ from (bW 3 (by intro i hi;omega)).trans k3]
   rfl
  ·rintro e w2 ⟨rfl,hb,cn⟩
   refine .inl ⟨_,rfl,_,rfl,w'.heap.size,rfl,?_⟩
   obtain ⟨q0,⟨vv,vr,vg,aZ⟩,q2⟩:=hw
   exact ⟨q0,⟨vv,vr,vg,aZ.join LP ((bp _ _ _).and ((bp _ _ _).and (fC _ _))) (aZ.rd.up hb) (aA b hb) cn⟩,q2⟩
 ·intro oh w' gW bW cZ hw
  rcases hw with ⟨_,pv,hx,hi⟩|⟨hc,_⟩
  rotate_left
  ·omega
  have IF:aK (fun P w=>(aP p1 #[.pointer (some ⟨b,0,none⟩)] 107 P w∧aP p2 #[e0,e1,e2,e3] 68 P w)∧(aP pv #[.pointer (some ⟨b,0,none⟩)] 107 P w∧aP (pv+1) #[.pointer (some ⟨g,0,none⟩)] 170 P w∧gL (pv+2) (kr pv b) P w)):=LP.and ((bp _ _ _).and ((bp _ _ _).and (fC _ _)))
  have rQ:=Tx (lo:=lo) (g:=g) (p1:=p1) (pv:=pv) (nm:=nm) (V:=V) (W:=W1) IF (fun P w h=>h.1.1) (fun P w h=>h.2.1) (fun P w h=>h.2.2.1) (fun P w h=>h.2.2.2)
  have FW:=wW rQ (fun x s w x' s' hI Iy=>tN EE EF (rQ.rd x s w hI).grown Iy) hi
  refine b9 rfl rfl 123 (wR w') _ _ rfl #[.pointer (some ⟨b,0,none⟩),.map (some (pv+2)),.func (.func 128) #[] #[.pointer (some ⟨g,0,none⟩),.pointer (some ⟨p1,0,none⟩)]] ?_ FW ?_
  ·simp only[List.map_toArray,List.map_cons,List.map_nil,Act.eval]
   rw[show oh.getD 11 undef=_ from cZ 0 (by omega) (by omega),show oh.getD 13 undef=_ from hx,show oh.getD 14 undef=_ from cZ 3 (by omega) (by omega)]
   rfl
  ·intro e w2 OZ
   have Dg:∀z,ie (cj Dk NR) ⟨nm,[],[],[]⟩ s=z→oF nm s=(match z with|.error e=>.error e|.ok (x,s3)=>rC x s3):=fun z hz=>by unfold oF;rw[hz]
   rcases OZ.split with ⟨y,hr,rfl,he⟩|⟨x,s3,hr,rfl,Ly⟩
   ·refine .inr ⟨_,rfl,?_⟩
    show Qb (Exit.panic _) _ _
    rw[←oB]
    refine ⟨rfl,hR _ _ ?_⟩
    rw[Dg _ hr]
    exact ⟨rfl,iM tX he (by omega)⟩
   ·refine .inl ⟨_,rfl,?_⟩
    show T5.wp Tryz.prog Qb ⟨oh.setIfInBounds 15 (.tuple #[]),[]⟩ w2
    rw[←Xf,←oB]
    have ib:=(kX (fun x s x' s' h=>(lX EE EF h).1.iY) hr).2
    refine Mo (p1:=p1) (p2:=p2) Ly IF (fun P w h=>h.1.1) (fun P w h=>h.1.2) ib tX dr (by rw[Array.size_setIfInBounds];exact gW) ⟨?_,?_,?_,trivial⟩ ?_
    ·exact nc (by rw[Array.size_setIfInBounds,gW];omega) (by rw[aB (by omega)];exact (bW 1 (by intro i hi;omega)).trans k1)
    ·exact nc (by rw[Array.size_setIfInBounds,gW];omega) (by rw[aB (by omega)];exact (bW 2 (by intro i hi;omega)).trans k2)
    ·exact nc (by rw[Array.size_setIfInBounds,gW];omega) (by rw[aB (by omega)];exact (bW 3 (by intro i hi;omega)).trans k3)
    ·intro e w3 jD
     refine hR e w3 ?_
     rw[Dg _ hr]
     exact jD
theorem Mk (s:aI):iQ s=match bE s.begun with|.error e=>.error e|.ok (_,s1)=>match cq s1 with|.error e=>.error e|.ok (nm,s2)=>oF nm s2:=by
 unfold iQ
 cases bE s.begun with
 |error e=>rfl
 |ok y =>
  simp only
  cases cq y.2 with
  |error e=>rfl
  |ok z =>
   simp only
   unfold oF rC
   cases ie (cj Dk NR) ⟨z.1,[],[],[]⟩ z.2<;>rfl
theorem CB {lo b:Nat}{V W:World}{s:aI} (hv:Env V W b) (h:Rd lo W b s) (hs:Sm s) (hn:s.ts.length≤16384) (hp:0<s.ts.length):Calls Tryz.prog 103 #[.pointer (some ⟨b,0,none⟩)] W (CR lo b NE W (iQ s)):=by
 have eA:=h.low
 have bH:Below W.heap.size W ((W.alloc (.cells #[.pointer (some ⟨b,0,none⟩)] 107)).alloc (.cells #[.string ⟨#[]⟩,.slice none 0 0,.slice none 0 0,.slice none 0 0] 68)):=((zE _ _).alloc (zD _) _).alloc (by rw[zJ];omega) _
 have nT:((W.alloc (.cells #[.pointer (some ⟨b,0,none⟩)] 107)).alloc (.cells #[.string ⟨#[]⟩,.slice none 0 0,.slice none 0 0,.slice none 0 0] 68)).heap[W.heap.size]?=some (.cells #[.pointer (some ⟨b,0,none⟩)] 107 (0,0)):=(Below.heap_alloc _ _ _ (by rw[zJ];omega)).trans (aC _ _)
 have fF:((W.alloc (.cells #[.pointer (some ⟨b,0,none⟩)] 107)).alloc (.cells #[.string ⟨#[]⟩,.slice none 0 0,.slice none 0 0,.slice none 0 0] 68)).heap[W.heap.size+1]?=some (.cells #[.string ⟨#[]⟩,.slice none 0 0,.slice none 0 0,.slice none 0 0] 68 (0,0)):=by
  have:=aC (W.alloc (.cells #[.pointer (some ⟨b,0,none⟩)] 107)) (.cells #[.string ⟨#[]⟩,.slice none 0 0,.slice none 0 0,.slice none 0 0] 68)
  rw[zJ] at this
  exact this
 have l2:W.heap.size+1<((W.alloc (.cells #[.pointer (some ⟨b,0,none⟩)] 107)).alloc (.cells #[.string ⟨#[]⟩,.slice none 0 0,.slice none 0 0,.slice none 0 0] 68)).heap.size:=by simp only[zJ];omega
 have A1:=h.up bH
 have bo:∀w,((W.alloc (.cells #[.pointer (some ⟨b,0,none⟩)] 107)).alloc (.cells #[.string ⟨#[]⟩,.slice none 0 0,.slice none 0 0,.slice none 0 0] 68)).grownBy w (some b)→w.heap[W.heap.size]?=some (.cells #[.pointer (some ⟨b,0,none⟩)] 107 (0,0))∧w.heap[W.heap.size+1]?=some (.cells #[.string ⟨#[]⟩,.slice none 0 0,.slice none 0 0,.slice none 0 0] 68 (0,0))∧w.cell? ⟨W.heap.size,0,none⟩=some (.pointer (some ⟨b,0,none⟩)):=fun w hg=>by
  have e1:=(hg.block W.heap.size (by omega) (by simp;omega)).trans nT
  exact ⟨e1,(hg.block (W.heap.size+1) l2 (by simp;omega)).trans fF,by rw[cell_of_row _ _ _ _ _ _ e1];rfl⟩
 have Qe:=aj bo
 have xV:=aj (aA b bH)
 have HV:=aj hv
 have HS:=aj hs
 have Hn:=aj hn
 have HC:=aj (fe A1)
 have E1:=aj eA
 have T3:=aj (Mk s)
 obtain ⟨W9,hW9⟩:∃W9,(W.alloc (.cells #[.pointer (some ⟨b,0,none⟩)] 107)).alloc (.cells #[.string ⟨#[]⟩,.slice none 0 0,.slice none 0 0,.slice none 0 0] 68)=W9:=⟨_,rfl⟩
 have c0:=(bo _ (zI _ _)).2.2
 clear nT fF l2 A1 bo bH h hv hs hn eA
 refine calls_of_wp Tryz.func103 Mm ?_
 obtain ⟨tl,nU⟩:∃t,CD=t:=⟨_,rfl⟩
 rw[nU]
 obtain ⟨Q,hQ⟩:∃Q,bodyPost Tryz.prog Tryz.f103 (CR lo b NE W (iQ s))=Q:=⟨_,rfl⟩
 rw[hQ]
 unfold Mn
 dsimp only[Tryz.f103]
 simp only[List.size_toArray,List.length_cons,List.length_nil,Nat.reduceAdd,Nat.reduceSub,Array.replicate_succ,Array.replicate_zero,List.push_toArray,List.append_toArray,List.nil_append,List.cons_append]
 clear hW9
 go_wp2_with fail
 refine (aa HC).mono ?_
 rintro e w1 ⟨rfl,h1,kk⟩
 have c1:=(aa Qe _ kk).2.2
 have HN:=aj (cY h1 hp)
 have pU:=aj kk
 clear h1 kk HC c0
 go_wp2_with fail
 refine (aa HN).mono ?_
 intro e w2 hw
 rcases hw.split with ⟨y,hr,rfl,hg⟩|⟨_,s1,hr,rfl,h2,hg⟩
 ·show Q (Exit.panic _) _ _
  rw[←hQ]
  refine ⟨rfl,?_⟩
  rw[aa T3,hr]
  exact ⟨rfl,((aa xV).trans (aa pU)).trans hg⟩
 ·have pT:=aj ((aa pU).trans hg)
  have Hsf:=aj (qj hr)
  have pW:Hid (iQ s=match cq s1 with|.error e=>.error e|.ok (nm,s2)=>oF nm s2):=by show _=_;rw[aa T3,hr]
  have Nd:=aj (j5 h2 ((qj hr).sm (aa HS)))
  have c2:=(aa Qe _ ((aa pU).trans hg)).2.2
  clear hw hr h2 hg HN T3 c1
  go_wp2_with fail
  refine (aa Nd).mono ?_
  intro e w3 hw
  rcases hw.split with ⟨y,hr,rfl,hg⟩|⟨nm,s2,hr,rfl,h3,hg⟩
  ·show Q (Exit.panic _) _ _
   rw[←hQ]
   refine ⟨rfl,?_⟩
   rw[aa pW,hr]
   exact ⟨rfl,((aa xV).trans (aa pT)).trans hg⟩
  ·have eY:=(aa pT).trans hg
   obtain ⟨k1,k2,_⟩:=aa Qe _ eY
   have eA:=aa E1
   have Cc:W.heap.size+2≤w3.heap.size:=by
    have:=(zA k2).1
    omega
   have OR:=(aa Hsf).trans (kD hr).iY
   have eR:=(zE w3.heap.size w3).alloc (zD _) (.cells #[.string nm,.slice none 0 0,.slice none 0 0,.slice none 0 0] 68)
   have aZ:Ap lo b w3.heap.size 68 nm (Z7 ⟨nm,[],[],[]⟩ (.slice none 0 0) (.slice none 0 0) (.slice none 0 0)) (fun P w=>aP W.heap.size #[.pointer (some ⟨b,0,none⟩)] 107 P w∧aP (W.heap.size+1) #[.string ⟨#[]⟩,.slice none 0 0,.slice none 0 0,.slice none 0 0] 68 P w) V w3 s2 (w3.alloc (.cells #[.string nm,.slice none 0 0,.slice none 0 0,.slice none 0 0] 68)):=by
    have rj:∀(i:Nat) (sl:Slot),(Z7 ⟨nm,[],[],[]⟩ (.slice none 0 0) (.slice none 0 0) (.slice none 0 0))[i]?=some sl→sl.v=.slice none 0 0∧sl.n=0∧sl.xs=[]:=fun i sl hi=>by
     match i,hi with
     |0,hi=>obtain rfl:=zC hi;exact ⟨rfl,rfl,rfl⟩
     |1,hi=>obtain rfl:=zC hi;exact ⟨rfl,rfl,rfl⟩
     |2,hi=>obtain rfl:=zC hi;exact ⟨rfl,rfl,rfl⟩
     |k+3,hi=>cases hi
    refine ⟨⟨aC _ _,fun i sl hi=>?_,fun i j a c eo ha hc k hk=>?_⟩,⟨⟨(eR.block _ (by omega)).trans k1,?_⟩,⟨(eR.block _ (by omega)).trans k2,?_⟩⟩,h3.up eR,by have:=h3.low;omega,⟨eR.os,eR.tape,eR.output,eR.size,fun k hk _=>eR.block k hk⟩,?_⟩
    ·obtain ⟨q1,q2,q3⟩:=rj i sl hi
     exact ⟨by rw[q2,q3];simp,.inl ⟨q1,q2⟩⟩
    ·rw[(rj i a ha).1] at hk
     cases hk
    ·refine ⟨by omega,by omega,fun i sl hi e=>?_⟩
     rw[(rj i sl hi).1] at e
     cases e
    ·refine ⟨by omega,by omega,fun i sl hi e=>?_⟩
     rw[(rj i sl hi).1] at e
     cases e
    ·exact ((aa HV).step ((aa xV).trans eY)).step (aA b eR)
   have HI:Hid (N0 lo b w3.heap.size nm (fun P w=>aP W.heap.size #[.pointer (some ⟨b,0,none⟩)] 107 P w∧aP (W.heap.size+1) #[.string ⟨#[]⟩,.slice none 0 0,.slice none 0 0,.slice none 0 0] 68 P w) V w3 ⟨nm,[],[],[]⟩ s2 (w3.alloc (.cells #[.string nm,.slice none 0 0,.slice none 0 0,.slice none 0 0] 68))):=by
    have h5:=aa Hn
    have h6:=OR.len
    exact ⟨rfl,⟨_,_,_,aZ⟩,⟨by simp only[List.length_nil];omega,by simp only[List.length_nil];omega,by simp only[List.length_nil];omega⟩,OR.sm (aa HS),by omega⟩
   have xj:Hid (iQ s=oF nm s2):=by show _=_;rw[aa pW,hr]
   have Ds:=aj ((aa xV).trans eY)
   have Hz:=aj Cc
   clear hw hr h3 hg eY k1 k2 Cc OR eR aZ Nd pW eA c2
   go_wp2
   rw[←nU,←hQ]
   refine Mq (p1:=W.heap.size) (p2:=W.heap.size+1) (aa HI) (aa Ds) ⟨(aa E1).2,by omega,by have:=aa Hz;omega⟩ rfl ⟨rfl,rfl,rfl,trivial⟩ ?_
   intro e w5 jD
   rw[aa xj]
   exact jD
end Go.Proofs.YtmlphohdcejniaaGreatDoor
namespace Go.Proofs.YtmlphohdcejniaaGreatDoor
open Go.RowKit
attribute [local go_sem ↓] Go.wp_at_zero Go.wp_at_succ
def TP (L:Nat) (a:En) (x:Value) (P:Nat→Prop) (w:World):Prop:=NE a x (fun k=>P k∧L≤k) w
def mz (L:Nat) (a:Ms) (x:Value) (P:Nat→Prop) (w:World):Prop:=NM a x (fun k=>P k∧L≤k) w
theorem iV.low {P P':Nat→Prop}{w w':World} (h:iV P P' w w') (L:Nat):iV (fun k=>P k∧L≤k) (fun k=>P' k∧L≤k) w w':=fun k hk hl=>⟨⟨(h k hk.1 hl).1,hk.2⟩,(h k hk.1 hl).2⟩
theorem uY (L:Nat) (a:En) (x:Value):aK (TP L a x):=fun _ _ _ _ hg h=>ym a x _ _ _ _ (hg.low L) h
theorem fB (L:Nat) (a:Ms) (x:Value):aK (mz L a x):=fun _ _ _ _ hg h=>yl a x _ _ _ _ (hg.low L) h
theorem yI {sl:Slot} (L:Nat) (h1:sl.t=68) (h2:sl.sz=4):Fit 24 sl 88 (TP L):=by
 obtain ⟨q1,q2,q3,q4,q5⟩:=L9 h1 h2
 exact ⟨q1,q2,q3,q4,fun a x P w h=>q5 a x _ w h⟩
theorem Cx {sl:Slot} (L:Nat) (h1:sl.t=64) (h2:sl.sz=7):Fit 23 sl 160 (mz L):=by
 obtain ⟨q1,q2,q3,q4,q5⟩:=Pp h1 h2
 exact ⟨q1,q2,q3,q4,fun a x P w h=>q5 a x _ w h⟩
theorem CR.QQ {lo b L:Nat}{w0 w:World}{r:Except (Int×Int) (En×aI)}{e:Ending} (h:CR lo b NE w0 r e w) (hL:L≤w0.heap.size):CR lo b (TP L) w0 r e w:=by
 unfold CR at *
 cases r with
 |error y=>exact h
 |ok y =>
  obtain ⟨x,he,h1,h2⟩:=h
  exact ⟨x,he,ym _ _ _ _ _ _ (fun k hk _=>⟨⟨hk,Nat.le_trans hL hk⟩,rfl⟩) h1,h2⟩
theorem CR.VP {lo b L:Nat}{w0 w:World}{r:Except (Int×Int) (Ms×aI)}{e:Ending} (h:CR lo b NM w0 r e w) (hL:L≤w0.heap.size):CR lo b (mz L) w0 r e w:=by
 unfold CR at *
 cases r with
 |error y=>exact h
 |ok y =>
  obtain ⟨x,he,h1,h2⟩:=h
  exact ⟨x,he,yl _ _ _ _ _ _ (fun k hk _=>⟨⟨hk,Nat.le_trans hL hk⟩,rfl⟩) h1,h2⟩
def gE:Array Value:=#[.string ⟨#[]⟩,.slice none 0 0,.slice none 0 0,.slice none 0 0,.slice none 0 0,.slice none 0 0,.slice none 0 0]
theorem Gj (w:World):(Instr.buildSlice 23 1 #[(0,.agg gE)]).run Tryz.prog w=.ok (.slice (some ⟨w.heap.size,0,none⟩) 1 1) (w.alloc (.cells gE 64)):=MQ w _ _ _ _ _ _ _ ⟨_,_,_,rfl⟩ ⟨_,_,_,rfl⟩ ⟨_,_,_,rfl⟩ ⟨_,_,_,rfl⟩ ⟨_,_,_,rfl⟩ ⟨_,_,_,rfl⟩
section
variable {lo b g : Nat} {T : TypeId} {nm : ByteArray} {ss : List Slot} {N : (Nat → Prop) → World → Prop} {V W : World} {s : aI} {i : Nat} {sl : Slot} {r : Except (Int × Int) (Ms × aI)}
def PA (lo b g:Nat) (T:TypeId) (nm:ByteArray) (ss:List Slot) (N:(Nat→Prop)→World→Prop) (V W:World) (s:aI) (r:Except (Int×Int) (Ms×aI)) (dc:Bool) (x:Value) (dy:Bool) (y:Value) (w:World):Prop :=
 ∃(M:(Nat→Prop)→World→Prop) (s2:aI),aK M∧Ap lo b g T nm ss (fun P w=>N P w∧M P w) V W s2 w∧(if dc=true then ∃a,r=.ok (a,s2)∧∀P w,M P w→mz g a x P w else s2=s)∧(if dy=true then ∃gy,y=.slice (some ⟨gy,0,none⟩) 1 1∧∀P w,M P w→aP gy gE 64 P w else True)
def PB (lo b g:Nat) (T:TypeId) (nm:ByteArray) (ss:List Slot) (N:(Nat→Prop)→World→Prop) (V W:World) (sl:Slot) (r:Except (Int×Int) (Ms×aI)) (x v:Value) (w:World):Prop :=
 ∃(M:(Nat→Prop)→World→Prop) (a:Ms) (s2:aI) (w2:World),r=.ok (a,s2)∧aK M∧(∀P w,M P w→mz g a x P w)∧Ap lo b g T nm ss (fun P w=>N P w∧M P w) V W s2 w2∧w2.grownBy w sl.v.ownBlock∧w.ownsRow (g+1) sl.t sl.sz v (sl.n+1) (sl.xs++gE.toList)∧(v.ownBlock=sl.v.ownBlock∨v.ownBlock=some w2.heap.size)
theorem PA.base {cs:List (Nat×Array Value×TypeId)} (cn:∀P w,N P w→∀c ∈ cs,aP c.1 c.2.1 c.2.2 P w) {dc dy:Bool}{x y:Value}{w:World} (h:PA lo b g T nm ss N V W s r dc x dy y w):Bs g T nm ss cs w:=by
 obtain ⟨M,s2,_,h,_⟩:=h
 exact ⟨h.bx.dt,fun c hc=>(cn _ _ h.nx.1 c hc).1⟩
theorem PB.base {cs:List (Nat×Array Value×TypeId)} (cn:∀P w,N P w→∀c ∈ cs,aP c.1 c.2.1 c.2.2 P w) (hi:ss[i]?=some sl) {x v:Value}{w:World} (h:PB lo b g T nm ss N V W sl r x v w):Bs g T nm ss cs w:=by
 obtain ⟨M,a,s2,w2,_,_,_,h,hg,_,_⟩:=h
 refine ⟨(hg.block g h.bx.lt (fun e=>?_)).trans h.bx.dt,fun c hc=>?_⟩
 ·have:=((h.bx.own i sl hi).lt g e.symm).1;omega
 ·obtain ⟨h1,h2⟩:=cn _ _ h.nx.1 c hc
  exact (hg.block c.1 (zA h1).1 (fun e=>h2.2.2 i sl hi e.symm)).trans h1
theorem PA.call (hN:aK N) {dy:Bool}{x y:Value}{w w':World}{e:Ending} (h:PA lo b g T nm ss N V W s r false x dy y w) (hc:CR lo b (mz g) w r e w'):(∃x,e=.returned x∧PA lo b g T nm ss N V W s r true x dy y w')∨∃y,r=.error y∧e=oD y.1 y.2∧Sv g b W w':=by
 obtain ⟨M,s2,hM,h0,h1,h2⟩:=h
 unfold CR at hc
 cases hr:r with
 |error y =>
  rw[hr] at hc
  exact .inr ⟨y,rfl,hc.1,h0.sv.trans (Sv.of hc.2 (by have:=h0.bx.lt;omega))⟩
 |ok z =>
  rw[hr] at hc
  obtain ⟨x,rfl,k1,k2,k3⟩:=hc
  have h4:=h0.join (hN.and hM) (fB g z.1 x) k2 k3 k1
  refine .inl ⟨x,rfl,fun P w=>M P w∧mz g z.1 x P w,z.2,hM.and (fB _ _ _),h4.imp (fun h=>⟨h.1.1,h.1.2,h.2⟩),?_,?_⟩
  ·rw[if_pos rfl]
   exact ⟨z.1,rfl,fun P w h=>h.2⟩
  ·cases dy with
   |false=>trivial
   |true =>
    rw[if_pos rfl] at h2 ⊢
    obtain ⟨gy,e,h5⟩:=h2
    exact ⟨gy,e,fun P w h=>h5 P w h.1⟩
theorem PA.bs (hN:aK N) {dc:Bool}{x y:Value}{w:World} (h:PA lo b g T nm ss N V W s r dc x false y w):PA lo b g T nm ss N V W s r dc x true (.slice (some ⟨w.heap.size,0,none⟩) 1 1) (w.alloc (.cells gE 64)):=by
 obtain ⟨M,s2,hM,h0,h1,h2⟩:=h
 have hb:=(zE w.heap.size w).alloc (zD _) (.cells gE 64)
 have h4:=h0.join (hN.and hM) (bp w.heap.size gE 64) (h0.rd.up hb) (aA b hb) ⟨aC _ _,zD _⟩
 refine ⟨fun P w'=>M P w'∧aP w.heap.size gE 64 P w',s2,hM.and (bp _ _ _),h4.imp (fun h=>⟨h.1.1,h.1.2,h.2⟩),?_,?_⟩
 ·cases dc with
  |false=>exact h1
  |true =>
   rw[if_pos rfl] at h1 ⊢
   obtain ⟨a,e,h5⟩:=h1
   exact ⟨a,e,fun P w h=>h5 P w h.1⟩
 ·rw[if_pos rfl]
  exact ⟨_,rfl,fun P w h=>h.2⟩
theorem PA.drew (hN:aK N) {w:World} (h:Ap lo b g T nm ss N V W s w):PA lo b g T nm ss N V W s r false undef false undef w.drew:=⟨fun _ _=>True,s,mI,(h.up hN (zE w.heap.size w).drew).imp (fun h=>⟨h,trivial⟩),by simp,by simp⟩
theorem GY (xs:List Value) (n:Nat) (hn:xs.length=n*7) (z0 z1 z2 z3 z4 z5 z6 u0 u1 u2 u3 u4 u5 u6:Value):(((((((xs++[z0,z1,z2,z3,z4,z5,z6]).set (n*7) u0).set (n*7+1) u1).set (n*7+2) u2).set (n*7+3) u3).set (n*7+4) u4).set (n*7+5) u5).set (n*7+6) u6=xs++[u0,u1,u2,u3,u4,u5,u6]:=by
 rw[←hn]
 rw[show xs.length=xs.length+0 from rfl]
 simp only[Nat.add_assoc,Nat.reduceAdd,List.set_append_right _ _ (Nat.le_add_right _ _),Nat.add_sub_cancel_left]
 rfl
def BA (w:World) (p j:Nat) (u0 u1 u2 u3 u4 u5 u6:Value):World:=((((((w.setCell ⟨p,j,none⟩ u0).setCell ⟨p,j+1,none⟩ u1).setCell ⟨p,j+2,none⟩ u2).setCell ⟨p,j+3,none⟩ u3).setCell ⟨p,j+4,none⟩ u4).setCell ⟨p,j+5,none⟩ u5).setCell ⟨p,j+6,none⟩ u6
end
end Go.Proofs.YtmlphohdcejniaaGreatDoor

import Derived.Test.YtmlphohdcejniaaGreatDoorM21
set_option maxHeartbeats 4000000
set_option maxRecDepth 100000
namespace Go.Proofs.YtmlphohdcejniaaGreatDoor
open Go.RowKit
attribute [local go_sem ↓] Go.wp_at_zero Go.wp_at_succ
theorem nT {tm:Array Value}{j:Nat}{v:Value} (hj:j<tm.size) (e:tm.getD j undef=v):tm[j]?=some v:=by
 rw[←e]
 simp[Array.getD_eq_getD_getElem?,Array.getElem?_eq_getElem hj]
theorem kS {tm:Array Value}{j:Nat}{v:Value} (h:tm[j]?=some v):tm.getD j undef=v:=by
 rw[Array.getD_eq_getD_getElem?,h];rfl
noncomputable def pK (nm:ByteArray) (s:aD):Except (Int×Int) (En×aD):=match ie (bT B5 Kf) ⟨nm,[],[],[]⟩ s with
 |.error e=>.error e
 |.ok (x,s3)=>sR x s3
theorem Of {lo b g p1 p2:Nat}{nm:ByteArray}{V W0 W1 w:World}{s:aD}{e0 e1 e2 e3:Value} (h:PN lo b g nm (fun P w=>aP p1 #[.pointer (some ⟨b,0,none⟩)] 107 P w∧aP p2 #[e0,e1,e2,e3] 68 P w) V W1 ⟨nm,[],[],[]⟩ s w)
  (vH:W0.grownBy W1 (some b)) (dI:lo≤W0.heap.size∧W0.heap.size≤p2∧p2<g) {tm:Array Value} (bU:tm.size=25) (jD:IH tm [(1,.pointer (some ⟨p1,0,none⟩)),(2,.pointer (some ⟨p2,0,none⟩)),(3,.pointer (some ⟨g,0,none⟩))]) {R:Ending→World→Prop}
  (hR:∀e w,CR lo b NE W0 (pK nm s) e w→R e w):Ee.wp Tryz.prog (bodyPost Tryz.prog Tryz.f103 R) ⟨tm,[]⟩ w:=by
 obtain ⟨f1,f2,f3,_⟩:=jD
 have k1:=kS f1
 have k2:=kS f2
 have k3:=kS f3
 simp only at k1 k2 k3
 rw[Ke]
 refine wp_seq ?_
 obtain ⟨T5,Zd⟩:∃T,RC=T:=⟨_,rfl⟩
 rw[Zd]
 obtain ⟨Qb,pG⟩:∃Q,bodyPost Tryz.prog Tryz.f103 R=Q:=⟨_,rfl⟩
 rw[pG]
 unfold Zz Ee
 dsimp only[Tryz.f103]
 have Nz:aK (fun P w=>aP p1 #[.pointer (some ⟨b,0,none⟩)] 107 P w∧aP p2 #[e0,e1,e2,e3] 68 P w):=(bp _ _ _).and (bp _ _ _)
 refine iB (z:=4) (N:=25) 2 (by kernel_rfl) (fun k=>k+11) (fun k=>[.pointer (some ⟨b,0,none⟩),.pointer (some ⟨b,0,none⟩),undef,.func (.func 128) #[] #[.pointer (some ⟨g,0,none⟩),.pointer (some ⟨p1,0,none⟩)]].getD k undef)
  (fun w=>PN lo b g nm (fun P w=>aP p1 #[.pointer (some ⟨b,0,none⟩)] 107 P w∧aP p2 #[e0,e1,e2,e3] 68 P w) V W1 ⟨nm,[],[],[]⟩ s w)
  (fun x w=>∃pv,x=.map (some (pv+2))∧PN lo b g nm (fun P w=>(aP p1 #[.pointer (some ⟨b,0,none⟩)] 107 P w∧aP p2 #[e0,e1,e2,e3] 68 P w)∧(aP pv #[.pointer (some ⟨b,0,none⟩)] 107 P w∧aP (pv+1) #[.pointer (some ⟨g,0,none⟩)] 170 P w∧ij (pv+2) (ld pv b) P w)) V W1 ⟨nm,[],[],[]⟩ s w)
  _ w rfl bU (fun i j _ _ e=>by omega) (fun i hi=>by omega) (by kernel_rfl) (by kernel_rfl) ?_ ?_ ?_ ?_
 ·have hb:=(zE w.heap.size w).drew
  obtain ⟨_,⟨vv,vr,vg,aZ⟩,_⟩:=id h
  exact h.step Nz (aZ.rd.up hb) (aA b hb) (.refl _)
 ·intro k pt w' hk UF iD b9 aW hw
  have dY:w'.cell? ⟨p1,0,none⟩=some (.pointer (some ⟨b,0,none⟩)):=by
   rcases hw with ⟨_,⟨vv,vr,vg,aZ⟩,_⟩|⟨_,pv,_,_,⟨vv,vr,vg,aZ⟩,_⟩
   ·rw[cell_of_row _ _ _ _ _ _ aZ.nx.1.1];rfl
   ·rw[cell_of_row _ _ _ _ _ _ aZ.nx.1.1.1];rfl
  match k,hk with
  |0,_=>exact aT rfl rfl _ (.tmp 1) rfl ((b9 1 (by intro i hi;omega)).trans k1) (cV _ dY) ⟨rfl,rfl⟩
  |1,_=>exact aT rfl rfl _ (.tmp 1) rfl ((b9 1 (by intro i hi;omega)).trans k1) (cV _ dY) ⟨rfl,rfl⟩
  |2,_=>omega
  |3,_=>exact nI rfl rfl _ _ _ rfl #[] #[.pointer (some ⟨g,0,none⟩),.pointer (some ⟨p1,0,none⟩)] (by simp) (by simp only[List.map_toArray,List.map_cons,List.map_nil,Act.eval];rw[show pt.getD 3 undef=_ from (b9 3 (by intro i hi;omega)).trans k3,show pt.getD 1 undef=_ from (b9 1 (by intro i hi;omega)).trans k1]) ⟨rfl,rfl⟩
 ·intro _ pt w' iD b9 aW hw
  refine cn rfl rfl 127 (Gh w') _ _ rfl #[.pointer (some ⟨b,0,none⟩),.pointer (some ⟨g,0,none⟩)] ?_ (E6 w' b g) ?_
  ·simp only[List.map_toArray,List.map_cons,List.map_nil,Act.eval]
   rw[show pt.getD 12 undef=_ from aW 1 (by omega) (by kernel_rfl),show pt.getD 3 undef=_ from (b9 3 (by intro i hi;omega)).trans k3]
   rfl
  ·rintro e w2 ⟨rfl,hb,cB⟩
   refine .inl ⟨_,rfl,_,rfl,w'.heap.size,rfl,?_⟩
   obtain ⟨q0,⟨vv,vr,vg,aZ⟩,q2⟩:=hw
   exact ⟨q0,⟨vv,vr,vg,aZ.join Nz ((bp _ _ _).and ((bp _ _ _).and (fT _ _))) (aZ.rd.up hb) (aA b hb) cB⟩,q2⟩
 ·intro pt w' iD b9 dt hw
  rcases hw with ⟨_,pv,hx,hi⟩|⟨hc,_⟩
  rotate_left
  ·omega
  have J5:aK (fun P w=>(aP p1 #[.pointer (some ⟨b,0,none⟩)] 107 P w∧aP p2 #[e0,e1,e2,e3] 68 P w)∧(aP pv #[.pointer (some ⟨b,0,none⟩)] 107 P w∧aP (pv+1) #[.pointer (some ⟨g,0,none⟩)] 170 P w∧ij (pv+2) (ld pv b) P w)):=Nz.and ((bp _ _ _).and ((bp _ _ _).and (fT _ _)))
  have tq:=Vv (lo:=lo) (g:=g) (p1:=p1) (pv:=pv) (nm:=nm) (V:=V) (W:=W1) J5 (fun P w h=>h.1.1) (fun P w h=>h.2.1) (fun P w h=>h.2.2.1) (fun P w h=>h.2.2.2)
  have Ij:=yv tq (fun x s w x' s' hI FL=>vt Gd Ge (tq.rd x s w hI).grown FL) hi
  refine cn rfl rfl 123 (yp w') _ _ rfl #[.pointer (some ⟨b,0,none⟩),.map (some (pv+2)),.func (.func 128) #[] #[.pointer (some ⟨g,0,none⟩),.pointer (some ⟨p1,0,none⟩)]] ?_ Ij ?_
  ·simp only[List.map_toArray,List.map_cons,List.map_nil,Act.eval]
   rw[show pt.getD 11 undef=_ from dt 0 (by omega) (by omega),show pt.getD 13 undef=_ from hx,show pt.getD 14 undef=_ from dt 3 (by omega) (by omega)]
   rfl
  ·intro e w2 QT
   have Au:∀z,ie (bT B5 Kf) ⟨nm,[],[],[]⟩ s=z→pK nm s=(match z with|.error e=>.error e|.ok (x,s3)=>sR x s3):=fun z hz=>by unfold pK;rw[hz]
   rcases QT.split with ⟨y,hr,rfl,he⟩|⟨x,s3,hr,rfl,Nh⟩
   ·refine .inr ⟨_,rfl,?_⟩
    show Qb (Exit.panic _) _ _
    rw[←pG]
    refine ⟨rfl,hR _ _ ?_⟩
    rw[Au _ hr]
    exact ⟨rfl,js vH he (by omega)⟩
   ·refine .inl ⟨_,rfl,?_⟩
    show T5.wp Tryz.prog Qb ⟨pt.setIfInBounds 15 (.tuple #[]),[]⟩ w2
    rw[←Zd,←pG]
    have gw:=(lR (fun x s x' s' h=>(mR Gd Ge h).1.jA) hr).2
    refine Oe (p1:=p1) (p2:=p2) Nh J5 (fun P w h=>h.1.1) (fun P w h=>h.1.2) gw vH dI (by rw[Array.size_setIfInBounds];exact iD) ⟨?_,?_,?_,trivial⟩ ?_
    ·exact nT (by rw[Array.size_setIfInBounds,iD];omega) (by rw[aB (by omega)];exact (b9 1 (by intro i hi;omega)).trans k1)
    ·exact nT (by rw[Array.size_setIfInBounds,iD];omega) (by rw[aB (by omega)];exact (b9 2 (by intro i hi;omega)).trans k2)
    ·exact nT (by rw[Array.size_setIfInBounds,iD];omega) (by rw[aB (by omega)];exact (b9 3 (by intro i hi;omega)).trans k3)
    ·intro e w3 j7
     refine hR e w3 ?_
     rw[Au _ hr]
     exact j7
theorem Oa (s:aD):iH s=match bE s.begun with|.error e=>.error e|.ok (_,s1)=>match cy s1 with|.error e=>.error e|.ok (nm,s2)=>pK nm s2:=by
 unfold iH
 cases bE s.begun with
 |error e=>rfl
 |ok y =>
  simp only
  cases cy y.2 with
  |error e=>rfl
  |ok z =>
   simp only
   unfold pK sR
   cases ie (bT B5 Kf) ⟨z.1,[],[],[]⟩ z.2<;>rfl
theorem Ec {lo b:Nat}{V W:World}{s:aD} (hv:Env V W b) (h:Rd lo W b s) (hs:Sm s) (hn:s.ts.length≤16384) (hp:0<s.ts.length):Calls Tryz.prog 103 #[.pointer (some ⟨b,0,none⟩)] W (CR lo b NE W (iH s)):=by
 have eQ:=h.low
 have bJ:Below W.heap.size W ((W.alloc (.cells #[.pointer (some ⟨b,0,none⟩)] 107)).alloc (.cells #[.string ⟨#[]⟩,.slice none 0 0,.slice none 0 0,.slice none 0 0] 68)):=((zE _ _).alloc (zD _) _).alloc (by rw[zJ];omega) _
 have oq:((W.alloc (.cells #[.pointer (some ⟨b,0,none⟩)] 107)).alloc (.cells #[.string ⟨#[]⟩,.slice none 0 0,.slice none 0 0,.slice none 0 0] 68)).heap[W.heap.size]?=some (.cells #[.pointer (some ⟨b,0,none⟩)] 107 (0,0)):=(Below.heap_alloc _ _ _ (by rw[zJ];omega)).trans (aC _ _)
 have fO:((W.alloc (.cells #[.pointer (some ⟨b,0,none⟩)] 107)).alloc (.cells #[.string ⟨#[]⟩,.slice none 0 0,.slice none 0 0,.slice none 0 0] 68)).heap[W.heap.size+1]?=some (.cells #[.string ⟨#[]⟩,.slice none 0 0,.slice none 0 0,.slice none 0 0] 68 (0,0)):=by
  have:=aC (W.alloc (.cells #[.pointer (some ⟨b,0,none⟩)] 107)) (.cells #[.string ⟨#[]⟩,.slice none 0 0,.slice none 0 0,.slice none 0 0] 68)
  rw[zJ] at this
  exact this
 have l2:W.heap.size+1<((W.alloc (.cells #[.pointer (some ⟨b,0,none⟩)] 107)).alloc (.cells #[.string ⟨#[]⟩,.slice none 0 0,.slice none 0 0,.slice none 0 0] 68)).heap.size:=by simp only[zJ];omega
 have Cz:=h.up bJ
 have bo:∀w,((W.alloc (.cells #[.pointer (some ⟨b,0,none⟩)] 107)).alloc (.cells #[.string ⟨#[]⟩,.slice none 0 0,.slice none 0 0,.slice none 0 0] 68)).grownBy w (some b)→w.heap[W.heap.size]?=some (.cells #[.pointer (some ⟨b,0,none⟩)] 107 (0,0))∧w.heap[W.heap.size+1]?=some (.cells #[.string ⟨#[]⟩,.slice none 0 0,.slice none 0 0,.slice none 0 0] 68 (0,0))∧w.cell? ⟨W.heap.size,0,none⟩=some (.pointer (some ⟨b,0,none⟩)):=fun w hg=>by
  have e1:=(hg.block W.heap.size (by omega) (by simp;omega)).trans oq
  exact ⟨e1,(hg.block (W.heap.size+1) l2 (by simp;omega)).trans fO,by rw[cell_of_row _ _ _ _ _ _ e1];rfl⟩
 have Sl:=aj bo
 have zs:=aj (aA b bJ)
 have HV:=aj hv
 have HS:=aj hs
 have Hn:=aj hn
 have HC:=aj (fD Cz)
 have Gy:=aj eQ
 have V9:=aj (Oa s)
 obtain ⟨W9,hW9⟩:∃W9,(W.alloc (.cells #[.pointer (some ⟨b,0,none⟩)] 107)).alloc (.cells #[.string ⟨#[]⟩,.slice none 0 0,.slice none 0 0,.slice none 0 0] 68)=W9:=⟨_,rfl⟩
 have c0:=(bo _ (zI _ _)).2.2
 clear oq fO l2 Cz bo bJ h hv hs hn eQ
 refine calls_of_wp Tryz.func103 Oc ?_
 obtain ⟨tl,oX⟩:∃t,Ee=t:=⟨_,rfl⟩
 rw[oX]
 obtain ⟨Q,hQ⟩:∃Q,bodyPost Tryz.prog Tryz.f103 (CR lo b NE W (iH s))=Q:=⟨_,rfl⟩
 rw[hQ]
 unfold Od
 dsimp only[Tryz.f103]
 simp only[List.size_toArray,List.length_cons,List.length_nil,Nat.reduceAdd,Nat.reduceSub,Array.replicate_succ,Array.replicate_zero,List.push_toArray,List.append_toArray,List.nil_append,List.cons_append]
 clear hW9
 go_wp2_with fail
 refine (aa HC).mono ?_
 rintro e w1 ⟨rfl,h1,kV⟩
 have c1:=(aa Sl _ kV).2.2
 have HN:=aj (dr h1 hp)
 have qT:=aj kV
 clear h1 kV HC c0
 go_wp2_with fail
 refine (aa HN).mono ?_
 intro e w2 hw
 rcases hw.split with ⟨y,hr,rfl,hg⟩|⟨_,s1,hr,rfl,h2,hg⟩
 ·show Q (Exit.panic _) _ _
  rw[←hQ]
  refine ⟨rfl,?_⟩
  rw[aa V9,hr]
  exact ⟨rfl,((aa zs).trans (aa qT)).trans hg⟩
 ·have qS:=aj ((aa qT).trans hg)
  have Hsf:=aj (rC hr)
  have qV:Hid (iH s=match cy s1 with|.error e=>.error e|.ok (nm,s2)=>pK nm s2):=by show _=_;rw[aa V9,hr]
  have O5:=aj (kG h2 ((rC hr).sm (aa HS)))
  have c2:=(aa Sl _ ((aa qT).trans hg)).2.2
  clear hw hr h2 hg HN V9 c1
  go_wp2_with fail
  refine (aa O5).mono ?_
  intro e w3 hw
  rcases hw.split with ⟨y,hr,rfl,hg⟩|⟨nm,s2,hr,rfl,h3,hg⟩
  ·show Q (Exit.panic _) _ _
   rw[←hQ]
   refine ⟨rfl,?_⟩
   rw[aa qV,hr]
   exact ⟨rfl,((aa zs).trans (aa qS)).trans hg⟩
  ·have fB:=(aa qS).trans hg
   obtain ⟨k1,k2,_⟩:=aa Sl _ fB
   have eQ:=aa Gy
   have DL:W.heap.size+2≤w3.heap.size:=by
    have:=(zA k2).1
    omega
   have QJ:=(aa Hsf).trans (lu hr).jA
   have eV:=(zE w3.heap.size w3).alloc (zD _) (.cells #[.string nm,.slice none 0 0,.slice none 0 0,.slice none 0 0] 68)
   have aZ:Ap lo b w3.heap.size 68 nm (ESl ⟨nm,[],[],[]⟩ (.slice none 0 0) (.slice none 0 0) (.slice none 0 0)) (fun P w=>aP W.heap.size #[.pointer (some ⟨b,0,none⟩)] 107 P w∧aP (W.heap.size+1) #[.string ⟨#[]⟩,.slice none 0 0,.slice none 0 0,.slice none 0 0] 68 P w) V w3 s2 (w3.alloc (.cells #[.string nm,.slice none 0 0,.slice none 0 0,.slice none 0 0] 68)):=by
    have rb:∀(i:Nat) (sl:Slot),(ESl ⟨nm,[],[],[]⟩ (.slice none 0 0) (.slice none 0 0) (.slice none 0 0))[i]?=some sl→sl.v=.slice none 0 0∧sl.n=0∧sl.xs=[]:=fun i sl hi=>by
     match i,hi with
     |0,hi=>obtain rfl:=zC hi;exact ⟨rfl,rfl,rfl⟩
     |1,hi=>obtain rfl:=zC hi;exact ⟨rfl,rfl,rfl⟩
     |2,hi=>obtain rfl:=zC hi;exact ⟨rfl,rfl,rfl⟩
     |k+3,hi=>cases hi
    refine ⟨⟨aC _ _,fun i sl hi=>?_,fun i j a c eo ha hc k hk=>?_⟩,⟨⟨(eV.block _ (by omega)).trans k1,?_⟩,⟨(eV.block _ (by omega)).trans k2,?_⟩⟩,h3.up eV,by have:=h3.low;omega,⟨eV.os,eV.tape,eV.output,eV.size,fun k hk _=>eV.block k hk⟩,?_⟩
    ·obtain ⟨q1,q2,q3⟩:=rb i sl hi
     exact ⟨by rw[q2,q3];simp,.inl ⟨q1,q2⟩⟩
    ·rw[(rb i a ha).1] at hk
     cases hk
    ·refine ⟨by omega,by omega,fun i sl hi e=>?_⟩
     rw[(rb i sl hi).1] at e
     cases e
    ·refine ⟨by omega,by omega,fun i sl hi e=>?_⟩
     rw[(rb i sl hi).1] at e
     cases e
    ·exact ((aa HV).step ((aa zs).trans fB)).step (aA b eV)
   have HI:Hid (PN lo b w3.heap.size nm (fun P w=>aP W.heap.size #[.pointer (some ⟨b,0,none⟩)] 107 P w∧aP (W.heap.size+1) #[.string ⟨#[]⟩,.slice none 0 0,.slice none 0 0,.slice none 0 0] 68 P w) V w3 ⟨nm,[],[],[]⟩ s2 (w3.alloc (.cells #[.string nm,.slice none 0 0,.slice none 0 0,.slice none 0 0] 68))):=by
    have h5:=aa Hn
    have h6:=QJ.len
    exact ⟨rfl,⟨_,_,_,aZ⟩,⟨by simp only[List.length_nil];omega,by simp only[List.length_nil];omega,by simp only[List.length_nil];omega⟩,QJ.sm (aa HS),by omega⟩
   have yE:Hid (iH s=pK nm s2):=by show _=_;rw[aa qV,hr]
   have GG:=aj ((aa zs).trans fB)
   have Hz:=aj DL
   clear hw hr h3 hg fB k1 k2 DL QJ eV aZ O5 qV eQ c2
   go_wp2
   rw[←oX,←hQ]
   refine Of (p1:=W.heap.size) (p2:=W.heap.size+1) (aa HI) (aa GG) ⟨(aa Gy).2,by omega,by have:=aa Hz;omega⟩ rfl ⟨rfl,rfl,rfl,trivial⟩ ?_
   intro e w5 j7
   rw[aa yE]
   exact j7
end Go.Proofs.YtmlphohdcejniaaGreatDoor
namespace Go.Proofs.YtmlphohdcejniaaGreatDoor
open Go.RowKit
attribute [local go_sem ↓] Go.wp_at_zero Go.wp_at_succ
def VQ (L:Nat) (a:En) (x:Value) (P:Nat→Prop) (w:World):Prop:=NE a x (fun k=>P k∧L≤k) w
def nk (L:Nat) (a:Ms) (x:Value) (P:Nat→Prop) (w:World):Prop:=NM a x (fun k=>P k∧L≤k) w
theorem jx.low {P P':Nat→Prop}{w w':World} (h:jx P P' w w') (L:Nat):jx (fun k=>P k∧L≤k) (fun k=>P' k∧L≤k) w w':=fun k hk hl=>⟨⟨(h k hk.1 hl).1,hk.2⟩,(h k hk.1 hl).2⟩
theorem wT (L:Nat) (a:En) (x:Value):aK (VQ L a x):=fun _ _ _ _ hg h=>z7 a x _ _ _ _ (hg.low L) h
theorem fS (L:Nat) (a:Ms) (x:Value):aK (nk L a x):=fun _ _ _ _ hg h=>zZ a x _ _ _ _ (hg.low L) h
theorem AA {sl:Slot} (L:Nat) (h1:sl.t=68) (h2:sl.sz=4):Fit 24 sl 88 (VQ L):=by
 obtain ⟨q1,q2,q3,q4,q5⟩:=NV h1 h2
 exact ⟨q1,q2,q3,q4,fun a x P w h=>q5 a x _ w h⟩
theorem D7 {sl:Slot} (L:Nat) (h1:sl.t=64) (h2:sl.sz=7):Fit 23 sl 160 (nk L):=by
 obtain ⟨q1,q2,q3,q4,q5⟩:=Rp h1 h2
 exact ⟨q1,q2,q3,q4,fun a x P w h=>q5 a x _ w h⟩
theorem CR.S4 {lo b L:Nat}{w0 w:World}{r:Except (Int×Int) (En×aD)}{e:Ending} (h:CR lo b NE w0 r e w) (hL:L≤w0.heap.size):CR lo b (VQ L) w0 r e w:=by
 unfold CR at *
 cases r with
 |error y=>exact h
 |ok y =>
  obtain ⟨x,he,h1,h2⟩:=h
  exact ⟨x,he,z7 _ _ _ _ _ _ (fun k hk _=>⟨⟨hk,Nat.le_trans hL hk⟩,rfl⟩) h1,h2⟩
theorem CR.XR {lo b L:Nat}{w0 w:World}{r:Except (Int×Int) (Ms×aD)}{e:Ending} (h:CR lo b NM w0 r e w) (hL:L≤w0.heap.size):CR lo b (nk L) w0 r e w:=by
 unfold CR at *
 cases r with
 |error y=>exact h
 |ok y =>
  obtain ⟨x,he,h1,h2⟩:=h
  exact ⟨x,he,zZ _ _ _ _ _ _ (fun k hk _=>⟨⟨hk,Nat.le_trans hL hk⟩,rfl⟩) h1,h2⟩
def gZ:Array Value:=#[.string ⟨#[]⟩,.slice none 0 0,.slice none 0 0,.slice none 0 0,.slice none 0 0,.slice none 0 0,.slice none 0 0]
theorem IJ (w:World):(Instr.buildSlice 23 1 #[(0,.agg gZ)]).run Tryz.prog w=.ok (.slice (some ⟨w.heap.size,0,none⟩) 1 1) (w.alloc (.cells gZ 64)):=OH w _ _ _ _ _ _ _ ⟨_,_,_,rfl⟩ ⟨_,_,_,rfl⟩ ⟨_,_,_,rfl⟩ ⟨_,_,_,rfl⟩ ⟨_,_,_,rfl⟩ ⟨_,_,_,rfl⟩
section
variable {lo b g : Nat} {T : TypeId} {nm : ByteArray} {ss : List Slot} {N : (Nat → Prop) → World → Prop} {V W : World} {s : aD} {i : Nat} {sl : Slot} {r : Except (Int × Int) (Ms × aD)}
def PA (lo b g:Nat) (T:TypeId) (nm:ByteArray) (ss:List Slot) (N:(Nat→Prop)→World→Prop) (V W:World) (s:aD) (r:Except (Int×Int) (Ms×aD)) (dc:Bool) (x:Value) (dy:Bool) (y:Value) (w:World):Prop :=
 ∃(M:(Nat→Prop)→World→Prop) (s2:aD),aK M∧Ap lo b g T nm ss (fun P w=>N P w∧M P w) V W s2 w∧(if dc=true then ∃a,r=.ok (a,s2)∧∀P w,M P w→nk g a x P w else s2=s)∧(if dy=true then ∃gy,y=.slice (some ⟨gy,0,none⟩) 1 1∧∀P w,M P w→aP gy gZ 64 P w else True)
def PB (lo b g:Nat) (T:TypeId) (nm:ByteArray) (ss:List Slot) (N:(Nat→Prop)→World→Prop) (V W:World) (sl:Slot) (r:Except (Int×Int) (Ms×aD)) (x v:Value) (w:World):Prop :=
 ∃(M:(Nat→Prop)→World→Prop) (a:Ms) (s2:aD) (w2:World),r=.ok (a,s2)∧aK M∧(∀P w,M P w→nk g a x P w)∧Ap lo b g T nm ss (fun P w=>N P w∧M P w) V W s2 w2∧w2.grownBy w sl.v.ownBlock∧w.ownsRow (g+1) sl.t sl.sz v (sl.n+1) (sl.xs++gZ.toList)∧(v.ownBlock=sl.v.ownBlock∨v.ownBlock=some w2.heap.size)
theorem PA.base {cs:List (Nat×Array Value×TypeId)} (cB:∀P w,N P w→∀c ∈ cs,aP c.1 c.2.1 c.2.2 P w) {dc dy:Bool}{x y:Value}{w:World} (h:PA lo b g T nm ss N V W s r dc x dy y w):Bs g T nm ss cs w:=by
 obtain ⟨M,s2,_,h,_⟩:=h
 exact ⟨h.bx.dJ,fun c hc=>(cB _ _ h.nx.1 c hc).1⟩
theorem PB.base {cs:List (Nat×Array Value×TypeId)} (cB:∀P w,N P w→∀c ∈ cs,aP c.1 c.2.1 c.2.2 P w) (hi:ss[i]?=some sl) {x v:Value}{w:World} (h:PB lo b g T nm ss N V W sl r x v w):Bs g T nm ss cs w:=by
 obtain ⟨M,a,s2,w2,_,_,_,h,hg,_,_⟩:=h
 refine ⟨(hg.block g h.bx.lt (fun e=>?_)).trans h.bx.dJ,fun c hc=>?_⟩
 ·have:=((h.bx.own i sl hi).lt g e.symm).1;omega
 ·obtain ⟨h1,h2⟩:=cB _ _ h.nx.1 c hc
  exact (hg.block c.1 (zA h1).1 (fun e=>h2.2.2 i sl hi e.symm)).trans h1
theorem PA.call (hN:aK N) {dy:Bool}{x y:Value}{w w':World}{e:Ending} (h:PA lo b g T nm ss N V W s r false x dy y w) (hc:CR lo b (nk g) w r e w'):(∃x,e=.returned x∧PA lo b g T nm ss N V W s r true x dy y w')∨∃y,r=.error y∧e=pI y.1 y.2∧Sv g b W w':=by
 obtain ⟨M,s2,hM,h0,h1,h2⟩:=h
 unfold CR at hc
 cases hr:r with
 |error y =>
  rw[hr] at hc
  exact .inr ⟨y,rfl,hc.1,h0.sv.trans (Sv.of hc.2 (by have:=h0.bx.lt;omega))⟩
 |ok z =>
  rw[hr] at hc
  obtain ⟨x,rfl,k1,k2,k3⟩:=hc
  have h4:=h0.join (hN.and hM) (fS g z.1 x) k2 k3 k1
  refine .inl ⟨x,rfl,fun P w=>M P w∧nk g z.1 x P w,z.2,hM.and (fS _ _ _),h4.imp (fun h=>⟨h.1.1,h.1.2,h.2⟩),?_,?_⟩
  ·rw[if_pos rfl]
   exact ⟨z.1,rfl,fun P w h=>h.2⟩
  ·cases dy with
   |false=>trivial
   |true =>
    rw[if_pos rfl] at h2 ⊢
    obtain ⟨gy,e,h5⟩:=h2
    exact ⟨gy,e,fun P w h=>h5 P w h.1⟩
theorem PA.bs (hN:aK N) {dc:Bool}{x y:Value}{w:World} (h:PA lo b g T nm ss N V W s r dc x false y w):PA lo b g T nm ss N V W s r dc x true (.slice (some ⟨w.heap.size,0,none⟩) 1 1) (w.alloc (.cells gZ 64)):=by
 obtain ⟨M,s2,hM,h0,h1,h2⟩:=h
 have hb:=(zE w.heap.size w).alloc (zD _) (.cells gZ 64)
 have h4:=h0.join (hN.and hM) (bp w.heap.size gZ 64) (h0.rd.up hb) (aA b hb) ⟨aC _ _,zD _⟩
 refine ⟨fun P w'=>M P w'∧aP w.heap.size gZ 64 P w',s2,hM.and (bp _ _ _),h4.imp (fun h=>⟨h.1.1,h.1.2,h.2⟩),?_,?_⟩
 ·cases dc with
  |false=>exact h1
  |true =>
   rw[if_pos rfl] at h1 ⊢
   obtain ⟨a,e,h5⟩:=h1
   exact ⟨a,e,fun P w h=>h5 P w h.1⟩
 ·rw[if_pos rfl]
  exact ⟨_,rfl,fun P w h=>h.2⟩
theorem PA.drew (hN:aK N) {w:World} (h:Ap lo b g T nm ss N V W s w):PA lo b g T nm ss N V W s r false undef false undef w.drew:=⟨fun _ _=>True,s,nz,(h.up hN (zE w.heap.size w).drew).imp (fun h=>⟨h,trivial⟩),by simp,by simp⟩
theorem Jm (xs:List Value) (n:Nat) (hn:xs.length=n*7) (z0 z1 z2 z3 z4 z5 z6 u0 u1 u2 u3 u4 u5 u6:Value):(((((((xs++[z0,z1,z2,z3,z4,z5,z6]).set (n*7) u0).set (n*7+1) u1).set (n*7+2) u2).set (n*7+3) u3).set (n*7+4) u4).set (n*7+5) u5).set (n*7+6) u6=xs++[u0,u1,u2,u3,u4,u5,u6]:=by
 rw[←hn]
 rw[show xs.length=xs.length+0 from rfl]
 simp only[Nat.add_assoc,Nat.reduceAdd,List.set_append_right _ _ (Nat.le_add_right _ _),Nat.add_sub_cancel_left]
 rfl
def C9 (w:World) (p j:Nat) (u0 u1 u2 u3 u4 u5 u6:Value):World:=((((((w.setCell ⟨p,j,none⟩ u0).setCell ⟨p,j+1,none⟩ u1).setCell ⟨p,j+2,none⟩ u2).setCell ⟨p,j+3,none⟩ u3).setCell ⟨p,j+4,none⟩ u4).setCell ⟨p,j+5,none⟩ u5).setCell ⟨p,j+6,none⟩ u6
end
end Go.Proofs.YtmlphohdcejniaaGreatDoor

import Derived.Test.YtjophoclfccmcaaGreatDoorM23
set_option maxHeartbeats 4000000
set_option maxRecDepth 100000
namespace Go.Proofs.YtjophoclfccmcaaGreatDoor
open Go.RowKit
attribute [local go_sem ↓] Go.wp_at_zero Go.wp_at_succ
theorem oN {tm:Array Value}{j:Nat}{v:Value} (hj:j<tm.size) (e:tm.getD j undef=v):tm[j]?=some v:=by
 rw[←e]
 simp[Array.getD_eq_getD_getElem?,Array.getElem?_eq_getElem hj]
theorem lp {tm:Array Value}{j:Nat}{v:Value} (h:tm[j]?=some v):tm.getD j undef=v:=by
 rw[Array.getD_eq_getD_getElem?,h];rfl
noncomputable def qx (nm:ByteArray) (s:ay):Except (Int×Int) (En×ay):=match jj (bU I3 Gr) ⟨nm,[],[],[]⟩ s with
 |.error e=>.error e
 |.ok (x,s3)=>tS x s3
theorem O8 {lo b g p1 p2:Nat}{nm:ByteArray}{V W0 W1 w:World}{s:ay}{e0 e1 e2 e3:Value} (h:QB lo b g nm (fun P w=>aW p1 #[.pointer (some ⟨b,0,none⟩)] 74 P w∧aW p2 #[e0,e1,e2,e3] 71 P w) V W1 ⟨nm,[],[],[]⟩ s w)
  (IG:W0.grownBy W1 (some b)) (ji:lo≤W0.heap.size∧W0.heap.size≤p2∧p2<g) {tm:Array Value} (ck:tm.size=25) (j7:Jc tm [(1,.pointer (some ⟨p1,0,none⟩)),(2,.pointer (some ⟨p2,0,none⟩)),(3,.pointer (some ⟨g,0,none⟩))]) {R:Ending→World→Prop}
  (hR:∀e w,CR lo b NE W0 (qx nm s) e w→R e w):Ef.wp Tryz.prog (bodyPost Tryz.prog Tryz.f105 R) ⟨tm,[]⟩ w:=by
 obtain ⟨f1,f2,f3,_⟩:=j7
 have k1:=lp f1
 have k2:=lp f2
 have k3:=lp f3
 simp only at k1 k2 k3
 rw[KZ]
 refine wp_seq ?_
 obtain ⟨T5,mH⟩:∃T,Sz=T:=⟨_,rfl⟩
 rw[mH]
 obtain ⟨Qb,ql⟩:∃Q,bodyPost Tryz.prog Tryz.f105 R=Q:=⟨_,rfl⟩
 rw[ql]
 unfold aao Ef
 dsimp only[Tryz.f105]
 have Ox:aQ (fun P w=>aW p1 #[.pointer (some ⟨b,0,none⟩)] 74 P w∧aW p2 #[e0,e1,e2,e3] 71 P w):=(bp _ _ _).and (bp _ _ _)
 refine iS (z:=4) (N:=25) 2 (by kernel_rfl) (fun k=>k+11) (fun k=>[.pointer (some ⟨b,0,none⟩),.pointer (some ⟨b,0,none⟩),undef,.func (.func 129) #[] #[.pointer (some ⟨g,0,none⟩),.pointer (some ⟨p1,0,none⟩)]].getD k undef)
  (fun w=>QB lo b g nm (fun P w=>aW p1 #[.pointer (some ⟨b,0,none⟩)] 74 P w∧aW p2 #[e0,e1,e2,e3] 71 P w) V W1 ⟨nm,[],[],[]⟩ s w)
  (fun x w=>∃pv,x=.map (some (pv+2))∧QB lo b g nm (fun P w=>(aW p1 #[.pointer (some ⟨b,0,none⟩)] 74 P w∧aW p2 #[e0,e1,e2,e3] 71 P w)∧(aW pv #[.pointer (some ⟨b,0,none⟩)] 74 P w∧aW (pv+1) #[.pointer (some ⟨g,0,none⟩)] 161 P w∧iJ (pv+2) (lC pv b) P w)) V W1 ⟨nm,[],[],[]⟩ s w)
  _ w rfl ck (fun i j _ _ e=>by omega) (fun i hi=>by omega) (by kernel_rfl) (by kernel_rfl) ?_ ?_ ?_ ?_
 ·have hb:=(zE w.heap.size w).drew
  obtain ⟨_,⟨vv,vr,vg,bd⟩,_⟩:=id h
  exact h.step Ox (bd.rd.up hb) (aD b hb) (.refl _)
 ·intro k pY w' hk VD iV cA a8 hw
  have dD:w'.cell? ⟨p1,0,none⟩=some (.pointer (some ⟨b,0,none⟩)):=by
   rcases hw with ⟨_,⟨vv,vr,vg,bd⟩,_⟩|⟨_,pv,_,_,⟨vv,vr,vg,bd⟩,_⟩
   ·rw[cell_of_row _ _ _ _ _ _ bd.nx.1.1];rfl
   ·rw[cell_of_row _ _ _ _ _ _ bd.nx.1.1.1];rfl
  match k,hk with
  |0,_=>exact aY rfl rfl _ (.tmp 1) rfl ((cA 1 (by intro i hi;omega)).trans k1) (dh _ dD) ⟨rfl,rfl⟩
  |1,_=>exact aY rfl rfl _ (.tmp 1) rfl ((cA 1 (by intro i hi;omega)).trans k1) (dh _ dD) ⟨rfl,rfl⟩
  |2,_=>omega
  |3,_=>exact nX rfl rfl _ _ _ rfl #[] #[.pointer (some ⟨g,0,none⟩),.pointer (some ⟨p1,0,none⟩)] (by simp) (by simp only[List.map_toArray,List.map_cons,List.map_nil,Act.eval];rw[show pY.getD 3 undef=_ from (cA 3 (by intro i hi;omega)).trans k3,show pY.getD 1 undef=_ from (cA 1 (by intro i hi;omega)).trans k1]) ⟨rfl,rfl⟩
 ·intro _ pY w' iV cA a8 hw
  refine cF rfl rfl 128 (GC w') _ _ rfl #[.pointer (some ⟨b,0,none⟩),.pointer (some ⟨g,0,none⟩)] ?_ (Fg w' b g) ?_
  ·simp only[List.map_toArray,List.map_cons,List.map_nil,Act.eval]
   rw[show pY.getD 12 undef=_ from a8 1 (by omega) (by kernel_rfl),show pY.getD 3 undef=_ from (cA 3 (by intro i hi;omega)).trans k3]
   rfl
  ·rintro e w2 ⟨rfl,hb,eP⟩
   refine .inl ⟨_,rfl,_,rfl,w'.heap.size,rfl,?_⟩
   obtain ⟨q0,⟨vv,vr,vg,bd⟩,q2⟩:=hw
   exact ⟨q0,⟨vv,vr,vg,bd.join Ox ((bp _ _ _).and ((bp _ _ _).and (fR _ _))) (bd.rd.up hb) (aD b hb) eP⟩,q2⟩
 ·intro pY w' iV cA dA hw
  rcases hw with ⟨_,pv,hx,hi⟩|⟨hc,_⟩
  rotate_left
  ·omega
  have KJ:aQ (fun P w=>(aW p1 #[.pointer (some ⟨b,0,none⟩)] 74 P w∧aW p2 #[e0,e1,e2,e3] 71 P w)∧(aW pv #[.pointer (some ⟨b,0,none⟩)] 74 P w∧aW (pv+1) #[.pointer (some ⟨g,0,none⟩)] 161 P w∧iJ (pv+2) (lC pv b) P w)):=Ox.and ((bp _ _ _).and ((bp _ _ _).and (fR _ _)))
  have uf:=Wf (lo:=lo) (g:=g) (p1:=p1) (pv:=pv) (nm:=nm) (V:=V) (W:=W1) KJ (fun P w h=>h.1.1) (fun P w h=>h.2.1) (fun P w h=>h.2.2.1) (fun P w h=>h.2.2.2)
  have KF:=zk uf (fun x s w x' s' hI yG=>xd Cb Cc (uf.rd x s w hI).grown yG) hi
  refine cF rfl rfl 124 (zg w') _ _ rfl #[.pointer (some ⟨b,0,none⟩),.map (some (pv+2)),.func (.func 129) #[] #[.pointer (some ⟨g,0,none⟩),.pointer (some ⟨p1,0,none⟩)]] ?_ KF ?_
  ·simp only[List.map_toArray,List.map_cons,List.map_nil,Act.eval]
   rw[show pY.getD 11 undef=_ from dA 0 (by omega) (by omega),show pY.getD 13 undef=_ from hx,show pY.getD 14 undef=_ from dA 3 (by omega) (by omega)]
   rfl
  ·intro e w2 RZ
   have TI:∀z,jj (bU I3 Gr) ⟨nm,[],[],[]⟩ s=z→qx nm s=(match z with|.error e=>.error e|.ok (x,s3)=>tS x s3):=fun z hz=>by unfold qx;rw[hz]
   rcases RZ.split with ⟨y,hr,rfl,he⟩|⟨x,s3,hr,rfl,ZJ⟩
   ·refine .inr ⟨_,rfl,?_⟩
    show Qb (Exit.panic _) _ _
    rw[←ql]
    refine ⟨rfl,hR _ _ ?_⟩
    rw[TI _ hr]
    exact ⟨rfl,jO IG he (by omega)⟩
   ·refine .inl ⟨_,rfl,?_⟩
    show T5.wp Tryz.prog Qb ⟨pY.setIfInBounds 15 (.tuple #[]),[]⟩ w2
    rw[←mH,←ql]
    have bD:=(mq (fun x s x' s' h=>(gX Cb Cc h).1.gi) hr).2
    refine O7 (p1:=p1) (p2:=p2) ZJ KJ (fun P w h=>h.1.1) (fun P w h=>h.1.2) bD IG ji (by rw[Array.size_setIfInBounds];exact iV) ⟨?_,?_,?_,trivial⟩ ?_
    ·exact oN (by rw[Array.size_setIfInBounds,iV];omega) (by rw[aK (by omega)];exact (cA 1 (by intro i hi;omega)).trans k1)
    ·exact oN (by rw[Array.size_setIfInBounds,iV];omega) (by rw[aK (by omega)];exact (cA 2 (by intro i hi;omega)).trans k2)
    ·exact oN (by rw[Array.size_setIfInBounds,iV];omega) (by rw[aK (by omega)];exact (cA 3 (by intro i hi;omega)).trans k3)
    ·intro e w3 kz
     refine hR e w3 ?_
     rw[TI _ hr]
     exact kz
theorem OV (s:ay):db s=match bz s.begun with|.error e=>.error e|.ok (_,s1)=>match aR s1 with|.error e=>.error e|.ok (nm,s2)=>qx nm s2:=by
 unfold db
 cases bz s.begun with
 |error e=>rfl
 |ok y =>
  simp only
  cases aR y.2 with
  |error e=>rfl
  |ok z =>
   simp only
   unfold qx tS
   cases jj (bU I3 Gr) ⟨z.1,[],[],[]⟩ z.2<;>rfl
theorem Ec {lo b:Nat}{V W:World}{s:ay} (hv:Env V W b) (h:Rd lo W b s) (hs:Sm s) (hn:s.ts.length≤16384) (hp:0<s.ts.length):Calls Tryz.prog 105 #[.pointer (some ⟨b,0,none⟩)] W (CR lo b NE W (db s)):=by
 have cB:=h.low
 have br:Below W.heap.size W ((W.alloc (.cells #[.pointer (some ⟨b,0,none⟩)] 74)).alloc (.cells #[.string ⟨#[]⟩,.slice none 0 0,.slice none 0 0,.slice none 0 0] 71)):=((zE _ _).alloc (zD _) _).alloc (by rw[zJ];omega) _
 have jo:((W.alloc (.cells #[.pointer (some ⟨b,0,none⟩)] 74)).alloc (.cells #[.string ⟨#[]⟩,.slice none 0 0,.slice none 0 0,.slice none 0 0] 71)).heap[W.heap.size]?=some (.cells #[.pointer (some ⟨b,0,none⟩)] 74 (0,0)):=(Below.heap_alloc _ _ _ (by rw[zJ];omega)).trans (aH _ _)
 have eL:((W.alloc (.cells #[.pointer (some ⟨b,0,none⟩)] 74)).alloc (.cells #[.string ⟨#[]⟩,.slice none 0 0,.slice none 0 0,.slice none 0 0] 71)).heap[W.heap.size+1]?=some (.cells #[.string ⟨#[]⟩,.slice none 0 0,.slice none 0 0,.slice none 0 0] 71 (0,0)):=by
  have:=aH (W.alloc (.cells #[.pointer (some ⟨b,0,none⟩)] 74)) (.cells #[.string ⟨#[]⟩,.slice none 0 0,.slice none 0 0,.slice none 0 0] 71)
  rw[zJ] at this
  exact this
 have l2:W.heap.size+1<((W.alloc (.cells #[.pointer (some ⟨b,0,none⟩)] 74)).alloc (.cells #[.string ⟨#[]⟩,.slice none 0 0,.slice none 0 0,.slice none 0 0] 71)).heap.size:=by simp only[zJ];omega
 have Ae:=h.up br
 have qK:∀w,((W.alloc (.cells #[.pointer (some ⟨b,0,none⟩)] 74)).alloc (.cells #[.string ⟨#[]⟩,.slice none 0 0,.slice none 0 0,.slice none 0 0] 71)).grownBy w (some b)→w.heap[W.heap.size]?=some (.cells #[.pointer (some ⟨b,0,none⟩)] 74 (0,0))∧w.heap[W.heap.size+1]?=some (.cells #[.string ⟨#[]⟩,.slice none 0 0,.slice none 0 0,.slice none 0 0] 71 (0,0))∧w.cell? ⟨W.heap.size,0,none⟩=some (.pointer (some ⟨b,0,none⟩)):=fun w hg=>by
  have e1:=(hg.block W.heap.size (by omega) (by simp;omega)).trans jo
  exact ⟨e1,(hg.block (W.heap.size+1) l2 (by simp;omega)).trans eL,by rw[cell_of_row _ _ _ _ _ _ e1];rfl⟩
 have S7:=ab qK
 have CD:=ab (aD b br)
 have HV:=ab hv
 have HS:=ab hs
 have Hn:=ab hn
 have HC:=ab (fF Ae)
 have GW:=ab cB
 have W5:=ab (OV s)
 obtain ⟨W9,hW9⟩:∃W9,(W.alloc (.cells #[.pointer (some ⟨b,0,none⟩)] 74)).alloc (.cells #[.string ⟨#[]⟩,.slice none 0 0,.slice none 0 0,.slice none 0 0] 71)=W9:=⟨_,rfl⟩
 have c0:=(qK _ (zI _ _)).2.2
 clear jo eL l2 Ae qK br h hv hs hn cB
 refine calls_of_wp Tryz.func105 O0 ?_
 obtain ⟨tl,pL⟩:∃t,Ef=t:=⟨_,rfl⟩
 rw[pL]
 obtain ⟨Q,hQ⟩:∃Q,bodyPost Tryz.prog Tryz.f105 (CR lo b NE W (db s))=Q:=⟨_,rfl⟩
 rw[hQ]
 unfold O6
 dsimp only[Tryz.f105]
 simp only[List.size_toArray,List.length_cons,List.length_nil,Nat.reduceAdd,Nat.reduceSub,Array.replicate_succ,Array.replicate_zero,List.push_toArray,List.append_toArray,List.nil_append,List.cons_append]
 clear hW9
 go_wp2_with fail
 refine (aa HC).mono ?_
 rintro e w1 ⟨rfl,h1,l8⟩
 have c1:=(aa S7 _ l8).2.2
 have HN:=ab (dS h1 hp)
 have rZ:=ab l8
 clear h1 l8 HC c0
 go_wp2_with fail
 refine (aa HN).mono ?_
 intro e w2 hw
 rcases hw.split with ⟨y,hr,rfl,hg⟩|⟨_,s1,hr,rfl,h2,hg⟩
 ·show Q (Exit.panic _) _ _
  rw[←hQ]
  refine ⟨rfl,?_⟩
  rw[aa W5,hr]
  exact ⟨rfl,((aa CD).trans (aa rZ)).trans hg⟩
 ·have rY:=ab ((aa rZ).trans hg)
  have Hsf:=ab (sw hr)
  have Qa:Hid (db s=match aR s1 with|.error e=>.error e|.ok (nm,s2)=>qx nm s2):=by show _=_;rw[aa W5,hr]
  have HNm:=ab (kW h2 ((sw hr).sm (aa HS)))
  have c2:=(aa S7 _ ((aa rZ).trans hg)).2.2
  clear hw hr h2 hg HN W5 c1
  go_wp2_with fail
  refine (aa HNm).mono ?_
  intro e w3 hw
  rcases hw.split with ⟨y,hr,rfl,hg⟩|⟨nm,s2,hr,rfl,h3,hg⟩
  ·show Q (Exit.panic _) _ _
   rw[←hQ]
   refine ⟨rfl,?_⟩
   rw[aa Qa,hr]
   exact ⟨rfl,((aa CD).trans (aa rY)).trans hg⟩
  ·have cN:=(aa rY).trans hg
   obtain ⟨k1,k2,_⟩:=aa S7 _ cN
   have cB:=aa GW
   have F1:W.heap.size+2≤w3.heap.size:=by
    have:=(zA k2).1
    omega
   have RO:=(aa Hsf).trans (gm hr).gi
   have fj:=(zE w3.heap.size w3).alloc (zD _) (.cells #[.string nm,.slice none 0 0,.slice none 0 0,.slice none 0 0] 71)
   have bd:Ap lo b w3.heap.size 71 nm (ESl ⟨nm,[],[],[]⟩ (.slice none 0 0) (.slice none 0 0) (.slice none 0 0)) (fun P w=>aW W.heap.size #[.pointer (some ⟨b,0,none⟩)] 74 P w∧aW (W.heap.size+1) #[.string ⟨#[]⟩,.slice none 0 0,.slice none 0 0,.slice none 0 0] 71 P w) V w3 s2 (w3.alloc (.cells #[.string nm,.slice none 0 0,.slice none 0 0,.slice none 0 0] 71)):=by
    have pM:∀(i:Nat) (sl:Slot),(ESl ⟨nm,[],[],[]⟩ (.slice none 0 0) (.slice none 0 0) (.slice none 0 0))[i]?=some sl→sl.v=.slice none 0 0∧sl.n=0∧sl.xs=[]:=fun i sl hi=>by
     match i,hi with
     |0,hi=>obtain rfl:=zC hi;exact ⟨rfl,rfl,rfl⟩
     |1,hi=>obtain rfl:=zC hi;exact ⟨rfl,rfl,rfl⟩
     |2,hi=>obtain rfl:=zC hi;exact ⟨rfl,rfl,rfl⟩
     |k+3,hi=>cases hi
    refine ⟨⟨aH _ _,fun i sl hi=>?_,fun i j a c dV ha hc k hk=>?_⟩,⟨⟨(fj.block _ (by omega)).trans k1,?_⟩,⟨(fj.block _ (by omega)).trans k2,?_⟩⟩,h3.up fj,by have:=h3.low;omega,⟨fj.os,fj.tape,fj.output,fj.size,fun k hk _=>fj.block k hk⟩,?_⟩
    ·obtain ⟨q1,q2,q3⟩:=pM i sl hi
     exact ⟨by rw[q2,q3];simp,.inl ⟨q1,q2⟩⟩
    ·rw[(pM i a ha).1] at hk
     cases hk
    ·refine ⟨by omega,by omega,fun i sl hi e=>?_⟩
     rw[(pM i sl hi).1] at e
     cases e
    ·refine ⟨by omega,by omega,fun i sl hi e=>?_⟩
     rw[(pM i sl hi).1] at e
     cases e
    ·exact ((aa HV).step ((aa CD).trans cN)).step (aD b fj)
   have HI:Hid (QB lo b w3.heap.size nm (fun P w=>aW W.heap.size #[.pointer (some ⟨b,0,none⟩)] 74 P w∧aW (W.heap.size+1) #[.string ⟨#[]⟩,.slice none 0 0,.slice none 0 0,.slice none 0 0] 71 P w) V w3 ⟨nm,[],[],[]⟩ s2 (w3.alloc (.cells #[.string nm,.slice none 0 0,.slice none 0 0,.slice none 0 0] 71))):=by
    have h5:=aa Hn
    have h6:=RO.len
    exact ⟨rfl,⟨_,_,_,bd⟩,⟨by simp only[List.length_nil];omega,by simp only[List.length_nil];omega,by simp only[List.length_nil];omega⟩,RO.sm (aa HS),by omega⟩
   have nB:Hid (db s=qx nm s2):=by show _=_;rw[aa Qa,hr]
   have xM:=ab ((aa CD).trans cN)
   have Hz:=ab F1
   clear hw hr h3 hg cN k1 k2 F1 RO fj bd HNm Qa cB c2
   go_wp2
   rw[←pL,←hQ]
   refine O8 (p1:=W.heap.size) (p2:=W.heap.size+1) (aa HI) (aa xM) ⟨(aa GW).2,by omega,by have:=aa Hz;omega⟩ rfl ⟨rfl,rfl,rfl,trivial⟩ ?_
   intro e w5 kz
   rw[aa nB]
   exact kz
end Go.Proofs.YtjophoclfccmcaaGreatDoor
namespace Go.Proofs.YtjophoclfccmcaaGreatDoor
open Go.RowKit
attribute [local go_sem ↓] Go.wp_at_zero Go.wp_at_succ
def WC (L:Nat) (a:En) (x:Value) (P:Nat→Prop) (w:World):Prop:=NE a x (fun k=>P k∧L≤k) w
def nE (L:Nat) (a:Ms) (x:Value) (P:Nat→Prop) (w:World):Prop:=NM a x (fun k=>P k∧L≤k) w
theorem wZ.low {P P':Nat→Prop}{w w':World} (h:wZ P P' w w') (L:Nat):wZ (fun k=>P k∧L≤k) (fun k=>P' k∧L≤k) w w':=fun k hk hl=>⟨⟨(h k hk.1 hl).1,hk.2⟩,(h k hk.1 hl).2⟩
theorem xY (L:Nat) (a:En) (x:Value):aQ (WC L a x):=fun _ _ _ _ hg h=>AF a x _ _ _ _ (hg.low L) h
theorem fQ (L:Nat) (a:Ms) (x:Value):aQ (nE L a x):=fun _ _ _ _ hg h=>AE a x _ _ _ _ (hg.low L) h
theorem AY {sl:Slot} (L:Nat) (h1:sl.t=71) (h2:sl.sz=4):Fit 25 sl 88 (WC L):=by
 obtain ⟨q1,q2,q3,q4,q5⟩:=OO h1 h2
 exact ⟨q1,q2,q3,q4,fun a x P w h=>q5 a x _ w h⟩
theorem D9 {sl:Slot} (L:Nat) (h1:sl.t=49) (h2:sl.sz=7):Fit 24 sl 160 (nE L):=by
 obtain ⟨q1,q2,q3,q4,q5⟩:=Sr h1 h2
 exact ⟨q1,q2,q3,q4,fun a x P w h=>q5 a x _ w h⟩
theorem CR.TS {lo b L:Nat}{w0 w:World}{r:Except (Int×Int) (En×ay)}{e:Ending} (h:CR lo b NE w0 r e w) (hL:L≤w0.heap.size):CR lo b (WC L) w0 r e w:=by
 unfold CR at *
 cases r with
 |error y=>exact h
 |ok y =>
  obtain ⟨x,he,h1,h2⟩:=h
  exact ⟨x,he,AF _ _ _ _ _ _ (fun k hk _=>⟨⟨hk,Nat.le_trans hL hk⟩,rfl⟩) h1,h2⟩
theorem CR.YO {lo b L:Nat}{w0 w:World}{r:Except (Int×Int) (Ms×ay)}{e:Ending} (h:CR lo b NM w0 r e w) (hL:L≤w0.heap.size):CR lo b (nE L) w0 r e w:=by
 unfold CR at *
 cases r with
 |error y=>exact h
 |ok y =>
  obtain ⟨x,he,h1,h2⟩:=h
  exact ⟨x,he,AE _ _ _ _ _ _ (fun k hk _=>⟨⟨hk,Nat.le_trans hL hk⟩,rfl⟩) h1,h2⟩
def iy:Array Value:=#[.string ⟨#[]⟩,.slice none 0 0,.slice none 0 0,.slice none 0 0,.slice none 0 0,.slice none 0 0,.slice none 0 0]
theorem Je (w:World):(Instr.buildSlice 24 1 #[(0,.agg iy)]).run Tryz.prog w=.ok (.slice (some ⟨w.heap.size,0,none⟩) 1 1) (w.alloc (.cells iy 49)):=PC w _ _ _ _ _ _ _ ⟨_,_,_,rfl⟩ ⟨_,_,_,rfl⟩ ⟨_,_,_,rfl⟩ ⟨_,_,_,rfl⟩ ⟨_,_,_,rfl⟩ ⟨_,_,_,rfl⟩
section
variable {lo b g : Nat} {T : TypeId} {nm : ByteArray} {ss : List Slot} {N : (Nat → Prop) → World → Prop} {V W : World} {s : ay} {i : Nat} {sl : Slot} {r : Except (Int × Int) (Ms × ay)}
def PA (lo b g:Nat) (T:TypeId) (nm:ByteArray) (ss:List Slot) (N:(Nat→Prop)→World→Prop) (V W:World) (s:ay) (r:Except (Int×Int) (Ms×ay)) (dc:Bool) (x:Value) (dy:Bool) (y:Value) (w:World):Prop :=
 ∃(M:(Nat→Prop)→World→Prop) (s2:ay),aQ M∧Ap lo b g T nm ss (fun P w=>N P w∧M P w) V W s2 w∧(if dc=true then ∃a,r=.ok (a,s2)∧∀P w,M P w→nE g a x P w else s2=s)∧(if dy=true then ∃gy,y=.slice (some ⟨gy,0,none⟩) 1 1∧∀P w,M P w→aW gy iy 49 P w else True)
def PB (lo b g:Nat) (T:TypeId) (nm:ByteArray) (ss:List Slot) (N:(Nat→Prop)→World→Prop) (V W:World) (sl:Slot) (r:Except (Int×Int) (Ms×ay)) (x v:Value) (w:World):Prop :=
 ∃(M:(Nat→Prop)→World→Prop) (a:Ms) (s2:ay) (w2:World),r=.ok (a,s2)∧aQ M∧(∀P w,M P w→nE g a x P w)∧Ap lo b g T nm ss (fun P w=>N P w∧M P w) V W s2 w2∧w2.grownBy w sl.v.ownBlock∧w.ownsRow (g+1) sl.t sl.sz v (sl.n+1) (sl.xs++iy.toList)∧(v.ownBlock=sl.v.ownBlock∨v.ownBlock=some w2.heap.size)
theorem PA.base {cs:List (Nat×Array Value×TypeId)} (eP:∀P w,N P w→∀c ∈ cs,aW c.1 c.2.1 c.2.2 P w) {dc dy:Bool}{x y:Value}{w:World} (h:PA lo b g T nm ss N V W s r dc x dy y w):Bs g T nm ss cs w:=by
 obtain ⟨M,s2,_,h,_⟩:=h
 exact ⟨h.bx.lA,fun c hc=>(eP _ _ h.nx.1 c hc).1⟩
theorem PB.base {cs:List (Nat×Array Value×TypeId)} (eP:∀P w,N P w→∀c ∈ cs,aW c.1 c.2.1 c.2.2 P w) (hi:ss[i]?=some sl) {x v:Value}{w:World} (h:PB lo b g T nm ss N V W sl r x v w):Bs g T nm ss cs w:=by
 obtain ⟨M,a,s2,w2,_,_,_,h,hg,_,_⟩:=h
 refine ⟨(hg.block g h.bx.lt (fun e=>?_)).trans h.bx.lA,fun c hc=>?_⟩
 ·have:=((h.bx.own i sl hi).lt g e.symm).1;omega
 ·obtain ⟨h1,h2⟩:=eP _ _ h.nx.1 c hc
  exact (hg.block c.1 (zA h1).1 (fun e=>h2.2.2 i sl hi e.symm)).trans h1
theorem PA.call (hN:aQ N) {dy:Bool}{x y:Value}{w w':World}{e:Ending} (h:PA lo b g T nm ss N V W s r false x dy y w) (hc:CR lo b (nE g) w r e w'):(∃x,e=.returned x∧PA lo b g T nm ss N V W s r true x dy y w')∨∃y,r=.error y∧e=qv y.1 y.2∧Sv g b W w':=by
 obtain ⟨M,s2,hM,h0,h1,h2⟩:=h
 unfold CR at hc
 cases hr:r with
 |error y =>
  rw[hr] at hc
  exact .inr ⟨y,rfl,hc.1,h0.sv.trans (Sv.of hc.2 (by have:=h0.bx.lt;omega))⟩
 |ok z =>
  rw[hr] at hc
  obtain ⟨x,rfl,k1,k2,k3⟩:=hc
  have h4:=h0.join (hN.and hM) (fQ g z.1 x) k2 k3 k1
  refine .inl ⟨x,rfl,fun P w=>M P w∧nE g z.1 x P w,z.2,hM.and (fQ _ _ _),h4.imp (fun h=>⟨h.1.1,h.1.2,h.2⟩),?_,?_⟩
  ·rw[if_pos rfl]
   exact ⟨z.1,rfl,fun P w h=>h.2⟩
  ·cases dy with
   |false=>trivial
   |true =>
    rw[if_pos rfl] at h2 ⊢
    obtain ⟨gy,e,h5⟩:=h2
    exact ⟨gy,e,fun P w h=>h5 P w h.1⟩
theorem PA.bs (hN:aQ N) {dc:Bool}{x y:Value}{w:World} (h:PA lo b g T nm ss N V W s r dc x false y w):PA lo b g T nm ss N V W s r dc x true (.slice (some ⟨w.heap.size,0,none⟩) 1 1) (w.alloc (.cells iy 49)):=by
 obtain ⟨M,s2,hM,h0,h1,h2⟩:=h
 have hb:=(zE w.heap.size w).alloc (zD _) (.cells iy 49)
 have h4:=h0.join (hN.and hM) (bp w.heap.size iy 49) (h0.rd.up hb) (aD b hb) ⟨aH _ _,zD _⟩
 refine ⟨fun P w'=>M P w'∧aW w.heap.size iy 49 P w',s2,hM.and (bp _ _ _),h4.imp (fun h=>⟨h.1.1,h.1.2,h.2⟩),?_,?_⟩
 ·cases dc with
  |false=>exact h1
  |true =>
   rw[if_pos rfl] at h1 ⊢
   obtain ⟨a,e,h5⟩:=h1
   exact ⟨a,e,fun P w h=>h5 P w h.1⟩
 ·rw[if_pos rfl]
  exact ⟨_,rfl,fun P w h=>h.2⟩
theorem PA.drew (hN:aQ N) {w:World} (h:Ap lo b g T nm ss N V W s w):PA lo b g T nm ss N V W s r false undef false undef w.drew:=⟨fun _ _=>True,s,nR,(h.up hN (zE w.heap.size w).drew).imp (fun h=>⟨h,trivial⟩),by simp,by simp⟩
theorem JT (xs:List Value) (n:Nat) (hn:xs.length=n*7) (z0 z1 z2 z3 z4 z5 z6 u0 u1 u2 u3 u4 u5 u6:Value):(((((((xs++[z0,z1,z2,z3,z4,z5,z6]).set (n*7) u0).set (n*7+1) u1).set (n*7+2) u2).set (n*7+3) u3).set (n*7+4) u4).set (n*7+5) u5).set (n*7+6) u6=xs++[u0,u1,u2,u3,u4,u5,u6]:=by
 rw[←hn]
 rw[show xs.length=xs.length+0 from rfl]
 simp only[Nat.add_assoc,Nat.reduceAdd,List.set_append_right _ _ (Nat.le_add_right _ _),Nat.add_sub_cancel_left]
 rfl
def Dl (w:World) (p j:Nat) (u0 u1 u2 u3 u4 u5 u6:Value):World:=((((((w.setCell ⟨p,j,none⟩ u0).setCell ⟨p,j+1,none⟩ u1).setCell ⟨p,j+2,none⟩ u2).setCell ⟨p,j+3,none⟩ u3).setCell ⟨p,j+4,none⟩ u4).setCell ⟨p,j+5,none⟩ u5).setCell ⟨p,j+6,none⟩ u6
end
end Go.Proofs.YtjophoclfccmcaaGreatDoor

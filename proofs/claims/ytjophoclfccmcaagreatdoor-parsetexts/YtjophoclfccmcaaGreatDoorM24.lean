import Derived.Test.YtjophoclfccmcaaGreatDoorM23
set_option maxHeartbeats 4000000
set_option maxRecDepth 100000
namespace Go.Proofs.YtjophoclfccmcaaGreatDoor
open Go.RowKit
attribute [local go_sem ↓] Go.wp_at_zero Go.wp_at_succ
theorem oI {tm:Array Value}{j:Nat}{v:Value} (hj:j<tm.size) (e:tm.getD j undef=v):tm[j]?=some v:=by
 rw[←e]
 simp[Array.getD_eq_getD_getElem?,Array.getElem?_eq_getElem hj]
theorem ln {tm:Array Value}{j:Nat}{v:Value} (h:tm[j]?=some v):tm.getD j undef=v:=by
 rw[Array.getD_eq_getD_getElem?,h];rfl
noncomputable def qp (nm:ByteArray) (s:ax):Except (Int×Int) (En×ax):=match ji (bV I7 Gy) ⟨nm,[],[],[]⟩ s with
 |.error e=>.error e
 |.ok (x,s3)=>tN x s3
theorem OU {lo b g p1 p2:Nat}{nm:ByteArray}{V W0 W1 w:World}{s:ax}{e0 e1 e2 e3:Value} (h:Ql lo b g nm (fun P w=>aX p1 #[.pointer (some ⟨b,0,none⟩)] 74 P w∧aX p2 #[e0,e1,e2,e3] 71 P w) V W1 ⟨nm,[],[],[]⟩ s w)
  (IK:W0.grownBy W1 (some b)) (jh:lo≤W0.heap.size∧W0.heap.size≤p2∧p2<g) {tm:Array Value} (cl:tm.size=25) (j7:Jg tm [(1,.pointer (some ⟨p1,0,none⟩)),(2,.pointer (some ⟨p2,0,none⟩)),(3,.pointer (some ⟨g,0,none⟩))]) {R:Ending→World→Prop}
  (hR:∀e w,CR lo b NE W0 (qp nm s) e w→R e w):Ep.wp Tryz.prog (bodyPost Tryz.prog Tryz.f105 R) ⟨tm,[]⟩ w:=by
 obtain ⟨f1,f2,f3,_⟩:=j7
 have k1:=ln f1
 have k2:=ln f2
 have k3:=ln f3
 simp only at k1 k2 k3
 rw[K0]
 refine wp_seq ?_
 obtain ⟨T5,Tz⟩:∃T,Sq=T:=⟨_,rfl⟩
 rw[Tz]
 obtain ⟨Qb,qb⟩:∃Q,bodyPost Tryz.prog Tryz.f105 R=Q:=⟨_,rfl⟩
 rw[qb]
 unfold aad Ep
 dsimp only[Tryz.f105]
 have Ol:aP (fun P w=>aX p1 #[.pointer (some ⟨b,0,none⟩)] 74 P w∧aX p2 #[e0,e1,e2,e3] 71 P w):=(bz _ _ _).and (bz _ _ _)
 refine iP (z:=4) (N:=25) 2 (by kernel_rfl) (fun k=>k+11) (fun k=>[.pointer (some ⟨b,0,none⟩),.pointer (some ⟨b,0,none⟩),undef,.func (.func 129) #[] #[.pointer (some ⟨g,0,none⟩),.pointer (some ⟨p1,0,none⟩)]].getD k undef)
  (fun w=>Ql lo b g nm (fun P w=>aX p1 #[.pointer (some ⟨b,0,none⟩)] 74 P w∧aX p2 #[e0,e1,e2,e3] 71 P w) V W1 ⟨nm,[],[],[]⟩ s w)
  (fun x w=>∃pv,x=.map (some (pv+2))∧Ql lo b g nm (fun P w=>(aX p1 #[.pointer (some ⟨b,0,none⟩)] 74 P w∧aX p2 #[e0,e1,e2,e3] 71 P w)∧(aX pv #[.pointer (some ⟨b,0,none⟩)] 74 P w∧aX (pv+1) #[.pointer (some ⟨g,0,none⟩)] 161 P w∧iH (pv+2) (lB pv b) P w)) V W1 ⟨nm,[],[],[]⟩ s w)
  _ w rfl cl (fun i j _ _ e=>by omega) (fun i hi=>by omega) (by kernel_rfl) (by kernel_rfl) ?_ ?_ ?_ ?_
 ·have hb:=(zE w.heap.size w).drew
  obtain ⟨_,⟨vv,vr,vg,bd⟩,_⟩:=id h
  exact h.step Ol (bd.rd.up hb) (aD b hb) (.refl _)
 ·intro k pS w' hk Vo iQ cB a8 hw
  have dK:w'.cell? ⟨p1,0,none⟩=some (.pointer (some ⟨b,0,none⟩)):=by
   rcases hw with ⟨_,⟨vv,vr,vg,bd⟩,_⟩|⟨_,pv,_,_,⟨vv,vr,vg,bd⟩,_⟩
   ·rw[cell_of_row _ _ _ _ _ _ bd.nx.1.1];rfl
   ·rw[cell_of_row _ _ _ _ _ _ bd.nx.1.1.1];rfl
  match k,hk with
  |0,_=>exact aY rfl rfl _ (.tmp 1) rfl ((cB 1 (by intro i hi;omega)).trans k1) (dh _ dK) ⟨rfl,rfl⟩
  |1,_=>exact aY rfl rfl _ (.tmp 1) rfl ((cB 1 (by intro i hi;omega)).trans k1) (dh _ dK) ⟨rfl,rfl⟩
  |2,_=>omega
  |3,_=>exact nV rfl rfl _ _ _ rfl #[] #[.pointer (some ⟨g,0,none⟩),.pointer (some ⟨p1,0,none⟩)] (by simp) (by simp only[List.map_toArray,List.map_cons,List.map_nil,Act.eval];rw[show pS.getD 3 undef=_ from (cB 3 (by intro i hi;omega)).trans k3,show pS.getD 1 undef=_ from (cB 1 (by intro i hi;omega)).trans k1]) ⟨rfl,rfl⟩
 ·intro _ pS w' iQ cB a8 hw
  refine cE rfl rfl 128 (GJ w') _ _ rfl #[.pointer (some ⟨b,0,none⟩),.pointer (some ⟨g,0,none⟩)] ?_ (Fq w' b g) ?_
  ·simp only[List.map_toArray,List.map_cons,List.map_nil,Act.eval]
   rw[show pS.getD 12 undef=_ from a8 1 (by omega) (by kernel_rfl),show pS.getD 3 undef=_ from (cB 3 (by intro i hi;omega)).trans k3]
   rfl
  ·rintro e w2 ⟨rfl,hb,fk⟩
   refine .inl ⟨_,rfl,_,rfl,w'.heap.size,rfl,?_⟩
   obtain ⟨q0,⟨vv,vr,vg,bd⟩,q2⟩:=hw
   exact ⟨q0,⟨vv,vr,vg,bd.join Ol ((bz _ _ _).and ((bz _ _ _).and (fX _ _))) (bd.rd.up hb) (aD b hb) fk⟩,q2⟩
 ·intro pS w' iQ cB dC hw
  rcases hw with ⟨_,pv,hx,hi⟩|⟨hc,_⟩
  rotate_left
  ·omega
  have KK:aP (fun P w=>(aX p1 #[.pointer (some ⟨b,0,none⟩)] 74 P w∧aX p2 #[e0,e1,e2,e3] 71 P w)∧(aX pv #[.pointer (some ⟨b,0,none⟩)] 74 P w∧aX (pv+1) #[.pointer (some ⟨g,0,none⟩)] 161 P w∧iH (pv+2) (lB pv b) P w)):=Ol.and ((bz _ _ _).and ((bz _ _ _).and (fX _ _)))
  have ub:=VZ (lo:=lo) (g:=g) (p1:=p1) (pv:=pv) (nm:=nm) (V:=V) (W:=W1) KK (fun P w h=>h.1.1) (fun P w h=>h.2.1) (fun P w h=>h.2.2.1) (fun P w h=>h.2.2.2)
  have KH:=zo ub (fun x s w x' s' hI sJ=>wZ Cg Ch (ub.rd x s w hI).grown sJ) hi
  refine cE rfl rfl 124 (zk w') _ _ rfl #[.pointer (some ⟨b,0,none⟩),.map (some (pv+2)),.func (.func 129) #[] #[.pointer (some ⟨g,0,none⟩),.pointer (some ⟨p1,0,none⟩)]] ?_ KH ?_
  ·simp only[List.map_toArray,List.map_cons,List.map_nil,Act.eval]
   rw[show pS.getD 11 undef=_ from dC 0 (by omega) (by omega),show pS.getD 13 undef=_ from hx,show pS.getD 14 undef=_ from dC 3 (by omega) (by omega)]
   rfl
  ·intro e w2 RM
   have Ty:∀z,ji (bV I7 Gy) ⟨nm,[],[],[]⟩ s=z→qp nm s=(match z with|.error e=>.error e|.ok (x,s3)=>tN x s3):=fun z hz=>by unfold qp;rw[hz]
   rcases RM.split with ⟨y,hr,rfl,he⟩|⟨x,s3,hr,rfl,Zw⟩
   ·refine .inr ⟨_,rfl,?_⟩
    show Qb (Exit.panic _) _ _
    rw[←qb]
    refine ⟨rfl,hR _ _ ?_⟩
    rw[Ty _ hr]
    exact ⟨rfl,jR IK he (by omega)⟩
   ·refine .inl ⟨_,rfl,?_⟩
    show T5.wp Tryz.prog Qb ⟨pS.setIfInBounds 15 (.tuple #[]),[]⟩ w2
    rw[←Tz,←qb]
    have bF:=(mh (fun x s x' s' h=>(gZ Cg Ch h).1.gu) hr).2
    refine OT (p1:=p1) (p2:=p2) Zw KK (fun P w h=>h.1.1) (fun P w h=>h.1.2) bF IK jh (by rw[Array.size_setIfInBounds];exact iQ) ⟨?_,?_,?_,trivial⟩ ?_
    ·exact oI (by rw[Array.size_setIfInBounds,iQ];omega) (by rw[aI (by omega)];exact (cB 1 (by intro i hi;omega)).trans k1)
    ·exact oI (by rw[Array.size_setIfInBounds,iQ];omega) (by rw[aI (by omega)];exact (cB 2 (by intro i hi;omega)).trans k2)
    ·exact oI (by rw[Array.size_setIfInBounds,iQ];omega) (by rw[aI (by omega)];exact (cB 3 (by intro i hi;omega)).trans k3)
    ·intro e w3 ky
     refine hR e w3 ?_
     rw[Ty _ hr]
     exact ky
theorem OL (s:ax):dd s=match bC s.begun with|.error e=>.error e|.ok (_,s1)=>match aQ s1 with|.error e=>.error e|.ok (nm,s2)=>qp nm s2:=by
 unfold dd
 cases bC s.begun with
 |error e=>rfl
 |ok y =>
  simp only
  cases aQ y.2 with
  |error e=>rfl
  |ok z =>
   simp only
   unfold qp tN
   cases ji (bV I7 Gy) ⟨z.1,[],[],[]⟩ z.2<;>rfl
theorem Ek {lo b:Nat}{V W:World}{s:ax} (hv:Env V W b) (h:Rd lo W b s) (hs:Sm s) (hn:s.ts.length≤16384) (hp:0<s.ts.length):Calls Tryz.prog 105 #[.pointer (some ⟨b,0,none⟩)] W (CR lo b NE W (dd s)):=by
 have cC:=h.low
 have bo:Below W.heap.size W ((W.alloc (.cells #[.pointer (some ⟨b,0,none⟩)] 74)).alloc (.cells #[.string ⟨#[]⟩,.slice none 0 0,.slice none 0 0,.slice none 0 0] 71)):=((zE _ _).alloc (zD _) _).alloc (by rw[zJ];omega) _
 have iZ:((W.alloc (.cells #[.pointer (some ⟨b,0,none⟩)] 74)).alloc (.cells #[.string ⟨#[]⟩,.slice none 0 0,.slice none 0 0,.slice none 0 0] 71)).heap[W.heap.size]?=some (.cells #[.pointer (some ⟨b,0,none⟩)] 74 (0,0)):=(Below.heap_alloc _ _ _ (by rw[zJ];omega)).trans (aF _ _)
 have ew:((W.alloc (.cells #[.pointer (some ⟨b,0,none⟩)] 74)).alloc (.cells #[.string ⟨#[]⟩,.slice none 0 0,.slice none 0 0,.slice none 0 0] 71)).heap[W.heap.size+1]?=some (.cells #[.string ⟨#[]⟩,.slice none 0 0,.slice none 0 0,.slice none 0 0] 71 (0,0)):=by
  have:=aF (W.alloc (.cells #[.pointer (some ⟨b,0,none⟩)] 74)) (.cells #[.string ⟨#[]⟩,.slice none 0 0,.slice none 0 0,.slice none 0 0] 71)
  rw[zJ] at this
  exact this
 have l2:W.heap.size+1<((W.alloc (.cells #[.pointer (some ⟨b,0,none⟩)] 74)).alloc (.cells #[.string ⟨#[]⟩,.slice none 0 0,.slice none 0 0,.slice none 0 0] 71)).heap.size:=by simp only[zJ];omega
 have Af:=h.up bo
 have qF:∀w,((W.alloc (.cells #[.pointer (some ⟨b,0,none⟩)] 74)).alloc (.cells #[.string ⟨#[]⟩,.slice none 0 0,.slice none 0 0,.slice none 0 0] 71)).grownBy w (some b)→w.heap[W.heap.size]?=some (.cells #[.pointer (some ⟨b,0,none⟩)] 74 (0,0))∧w.heap[W.heap.size+1]?=some (.cells #[.string ⟨#[]⟩,.slice none 0 0,.slice none 0 0,.slice none 0 0] 71 (0,0))∧w.cell? ⟨W.heap.size,0,none⟩=some (.pointer (some ⟨b,0,none⟩)):=fun w hg=>by
  have e1:=(hg.block W.heap.size (by omega) (by simp;omega)).trans iZ
  exact ⟨e1,(hg.block (W.heap.size+1) l2 (by simp;omega)).trans ew,by rw[cell_of_row _ _ _ _ _ _ e1];rfl⟩
 have S0:=ab qF
 have CI:=ab (aD b bo)
 have HV:=ab hv
 have HS:=ab hs
 have Hn:=ab hn
 have HC:=ab (fK Af)
 have G0:=ab cC
 have WD:=ab (OL s)
 obtain ⟨W9,hW9⟩:∃W9,(W.alloc (.cells #[.pointer (some ⟨b,0,none⟩)] 74)).alloc (.cells #[.string ⟨#[]⟩,.slice none 0 0,.slice none 0 0,.slice none 0 0] 71)=W9:=⟨_,rfl⟩
 have c0:=(qF _ (zI _ _)).2.2
 clear iZ ew l2 Af qF bo h hv hs hn cC
 refine calls_of_wp Tryz.func105 OQ ?_
 obtain ⟨tl,pG⟩:∃t,Ep=t:=⟨_,rfl⟩
 rw[pG]
 obtain ⟨Q,hQ⟩:∃Q,bodyPost Tryz.prog Tryz.f105 (CR lo b NE W (dd s))=Q:=⟨_,rfl⟩
 rw[hQ]
 unfold OS
 dsimp only[Tryz.f105]
 simp only[List.size_toArray,List.length_cons,List.length_nil,Nat.reduceAdd,Nat.reduceSub,Array.replicate_succ,Array.replicate_zero,List.push_toArray,List.append_toArray,List.nil_append,List.cons_append]
 clear hW9
 go_wp2_with fail
 refine (aa HC).mono ?_
 rintro e w1 ⟨rfl,h1,lY⟩
 have c1:=(aa S0 _ lY).2.2
 have HN:=ab (dX h1 hp)
 have rQ:=ab lY
 clear h1 lY HC c0
 go_wp2_with fail
 refine (aa HN).mono ?_
 intro e w2 hw
 rcases hw.split with ⟨y,hr,rfl,hg⟩|⟨_,s1,hr,rfl,h2,hg⟩
 ·show Q (Exit.panic _) _ _
  rw[←hQ]
  refine ⟨rfl,?_⟩
  rw[aa WD,hr]
  exact ⟨rfl,((aa CI).trans (aa rQ)).trans hg⟩
 ·have rP:=ab ((aa rQ).trans hg)
  have Hsf:=ab (sj hr)
  have PN:Hid (dd s=match aQ s1 with|.error e=>.error e|.ok (nm,s2)=>qp nm s2):=by show _=_;rw[aa WD,hr]
  have HNm:=ab (kU h2 ((sj hr).sm (aa HS)))
  have c2:=(aa S0 _ ((aa rQ).trans hg)).2.2
  clear hw hr h2 hg HN WD c1
  go_wp2_with fail
  refine (aa HNm).mono ?_
  intro e w3 hw
  rcases hw.split with ⟨y,hr,rfl,hg⟩|⟨nm,s2,hr,rfl,h3,hg⟩
  ·show Q (Exit.panic _) _ _
   rw[←hQ]
   refine ⟨rfl,?_⟩
   rw[aa PN,hr]
   exact ⟨rfl,((aa CI).trans (aa rP)).trans hg⟩
  ·have cO:=(aa rP).trans hg
   obtain ⟨k1,k2,_⟩:=aa S0 _ cO
   have cC:=aa G0
   have F7:W.heap.size+2≤w3.heap.size:=by
    have:=(zA k2).1
    omega
   have RB:=(aa Hsf).trans (gz hr).gu
   have fC:=(zE w3.heap.size w3).alloc (zD _) (.cells #[.string nm,.slice none 0 0,.slice none 0 0,.slice none 0 0] 71)
   have bd:Ap lo b w3.heap.size 71 nm (ESl ⟨nm,[],[],[]⟩ (.slice none 0 0) (.slice none 0 0) (.slice none 0 0)) (fun P w=>aX W.heap.size #[.pointer (some ⟨b,0,none⟩)] 74 P w∧aX (W.heap.size+1) #[.string ⟨#[]⟩,.slice none 0 0,.slice none 0 0,.slice none 0 0] 71 P w) V w3 s2 (w3.alloc (.cells #[.string nm,.slice none 0 0,.slice none 0 0,.slice none 0 0] 71)):=by
    have pH:∀(i:Nat) (sl:Slot),(ESl ⟨nm,[],[],[]⟩ (.slice none 0 0) (.slice none 0 0) (.slice none 0 0))[i]?=some sl→sl.v=.slice none 0 0∧sl.n=0∧sl.xs=[]:=fun i sl hi=>by
     match i,hi with
     |0,hi=>obtain rfl:=zC hi;exact ⟨rfl,rfl,rfl⟩
     |1,hi=>obtain rfl:=zC hi;exact ⟨rfl,rfl,rfl⟩
     |2,hi=>obtain rfl:=zC hi;exact ⟨rfl,rfl,rfl⟩
     |k+3,hi=>cases hi
    refine ⟨⟨aF _ _,fun i sl hi=>?_,fun i j a c eb ha hc k hk=>?_⟩,⟨⟨(fC.block _ (by omega)).trans k1,?_⟩,⟨(fC.block _ (by omega)).trans k2,?_⟩⟩,h3.up fC,by have:=h3.low;omega,⟨fC.os,fC.tape,fC.output,fC.size,fun k hk _=>fC.block k hk⟩,?_⟩
    ·obtain ⟨q1,q2,q3⟩:=pH i sl hi
     exact ⟨by rw[q2,q3];simp,.inl ⟨q1,q2⟩⟩
    ·rw[(pH i a ha).1] at hk
     cases hk
    ·refine ⟨by omega,by omega,fun i sl hi e=>?_⟩
     rw[(pH i sl hi).1] at e
     cases e
    ·refine ⟨by omega,by omega,fun i sl hi e=>?_⟩
     rw[(pH i sl hi).1] at e
     cases e
    ·exact ((aa HV).step ((aa CI).trans cO)).step (aD b fC)
   have HI:Hid (Ql lo b w3.heap.size nm (fun P w=>aX W.heap.size #[.pointer (some ⟨b,0,none⟩)] 74 P w∧aX (W.heap.size+1) #[.string ⟨#[]⟩,.slice none 0 0,.slice none 0 0,.slice none 0 0] 71 P w) V w3 ⟨nm,[],[],[]⟩ s2 (w3.alloc (.cells #[.string nm,.slice none 0 0,.slice none 0 0,.slice none 0 0] 71))):=by
    have h5:=aa Hn
    have h6:=RB.len
    exact ⟨rfl,⟨_,_,_,bd⟩,⟨by simp only[List.length_nil];omega,by simp only[List.length_nil];omega,by simp only[List.length_nil];omega⟩,RB.sm (aa HS),by omega⟩
   have nz:Hid (dd s=qp nm s2):=by show _=_;rw[aa PN,hr]
   have xP:=ab ((aa CI).trans cO)
   have Hz:=ab F7
   clear hw hr h3 hg cO k1 k2 F7 RB fC bd HNm PN cC c2
   go_wp2
   rw[←pG,←hQ]
   refine OU (p1:=W.heap.size) (p2:=W.heap.size+1) (aa HI) (aa xP) ⟨(aa G0).2,by omega,by have:=aa Hz;omega⟩ rfl ⟨rfl,rfl,rfl,trivial⟩ ?_
   intro e w5 ky
   rw[aa nz]
   exact ky
end Go.Proofs.YtjophoclfccmcaaGreatDoor
namespace Go.Proofs.YtjophoclfccmcaaGreatDoor
open Go.RowKit
attribute [local go_sem ↓] Go.wp_at_zero Go.wp_at_succ
def Wh (L:Nat) (a:En) (x:Value) (P:Nat→Prop) (w:World):Prop:=NE a x (fun k=>P k∧L≤k) w
def nB (L:Nat) (a:Ms) (x:Value) (P:Nat→Prop) (w:World):Prop:=NM a x (fun k=>P k∧L≤k) w
theorem wW.low {P P':Nat→Prop}{w w':World} (h:wW P P' w w') (L:Nat):wW (fun k=>P k∧L≤k) (fun k=>P' k∧L≤k) w w':=fun k hk hl=>⟨⟨(h k hk.1 hl).1,hk.2⟩,(h k hk.1 hl).2⟩
theorem yb (L:Nat) (a:En) (x:Value):aP (Wh L a x):=fun _ _ _ _ hg h=>AM a x _ _ _ _ (hg.low L) h
theorem fW (L:Nat) (a:Ms) (x:Value):aP (nB L a x):=fun _ _ _ _ hg h=>AL a x _ _ _ _ (hg.low L) h
theorem A3 {sl:Slot} (L:Nat) (h1:sl.t=71) (h2:sl.sz=4):Fit 25 sl 88 (Wh L):=by
 obtain ⟨q1,q2,q3,q4,q5⟩:=OD h1 h2
 exact ⟨q1,q2,q3,q4,fun a x P w h=>q5 a x _ w h⟩
theorem Eg {sl:Slot} (L:Nat) (h1:sl.t=49) (h2:sl.sz=7):Fit 24 sl 160 (nB L):=by
 obtain ⟨q1,q2,q3,q4,q5⟩:=Sh h1 h2
 exact ⟨q1,q2,q3,q4,fun a x P w h=>q5 a x _ w h⟩
theorem CR.TF {lo b L:Nat}{w0 w:World}{r:Except (Int×Int) (En×ax)}{e:Ending} (h:CR lo b NE w0 r e w) (hL:L≤w0.heap.size):CR lo b (Wh L) w0 r e w:=by
 unfold CR at *
 cases r with
 |error y=>exact h
 |ok y =>
  obtain ⟨x,he,h1,h2⟩:=h
  exact ⟨x,he,AM _ _ _ _ _ _ (fun k hk _=>⟨⟨hk,Nat.le_trans hL hk⟩,rfl⟩) h1,h2⟩
theorem CR.Yy {lo b L:Nat}{w0 w:World}{r:Except (Int×Int) (Ms×ax)}{e:Ending} (h:CR lo b NM w0 r e w) (hL:L≤w0.heap.size):CR lo b (nB L) w0 r e w:=by
 unfold CR at *
 cases r with
 |error y=>exact h
 |ok y =>
  obtain ⟨x,he,h1,h2⟩:=h
  exact ⟨x,he,AL _ _ _ _ _ _ (fun k hk _=>⟨⟨hk,Nat.le_trans hL hk⟩,rfl⟩) h1,h2⟩
def iy:Array Value:=#[.string ⟨#[]⟩,.slice none 0 0,.slice none 0 0,.slice none 0 0,.slice none 0 0,.slice none 0 0,.slice none 0 0]
theorem Ji (w:World):(Instr.buildSlice 24 1 #[(0,.agg iy)]).run Tryz.prog w=.ok (.slice (some ⟨w.heap.size,0,none⟩) 1 1) (w.alloc (.cells iy 49)):=Pj w _ _ _ _ _ _ _ ⟨_,_,_,rfl⟩ ⟨_,_,_,rfl⟩ ⟨_,_,_,rfl⟩ ⟨_,_,_,rfl⟩ ⟨_,_,_,rfl⟩ ⟨_,_,_,rfl⟩
section
variable {lo b g : Nat} {T : TypeId} {nm : ByteArray} {ss : List Slot} {N : (Nat → Prop) → World → Prop} {V W : World} {s : ax} {i : Nat} {sl : Slot} {r : Except (Int × Int) (Ms × ax)}
def PA (lo b g:Nat) (T:TypeId) (nm:ByteArray) (ss:List Slot) (N:(Nat→Prop)→World→Prop) (V W:World) (s:ax) (r:Except (Int×Int) (Ms×ax)) (dc:Bool) (x:Value) (dy:Bool) (y:Value) (w:World):Prop :=
 ∃(M:(Nat→Prop)→World→Prop) (s2:ax),aP M∧Ap lo b g T nm ss (fun P w=>N P w∧M P w) V W s2 w∧(if dc=true then ∃a,r=.ok (a,s2)∧∀P w,M P w→nB g a x P w else s2=s)∧(if dy=true then ∃gy,y=.slice (some ⟨gy,0,none⟩) 1 1∧∀P w,M P w→aX gy iy 49 P w else True)
def PB (lo b g:Nat) (T:TypeId) (nm:ByteArray) (ss:List Slot) (N:(Nat→Prop)→World→Prop) (V W:World) (sl:Slot) (r:Except (Int×Int) (Ms×ax)) (x v:Value) (w:World):Prop :=
 ∃(M:(Nat→Prop)→World→Prop) (a:Ms) (s2:ax) (w2:World),r=.ok (a,s2)∧aP M∧(∀P w,M P w→nB g a x P w)∧Ap lo b g T nm ss (fun P w=>N P w∧M P w) V W s2 w2∧w2.grownBy w sl.v.ownBlock∧w.ownsRow (g+1) sl.t sl.sz v (sl.n+1) (sl.xs++iy.toList)∧(v.ownBlock=sl.v.ownBlock∨v.ownBlock=some w2.heap.size)
theorem PA.base {cs:List (Nat×Array Value×TypeId)} (fk:∀P w,N P w→∀c ∈ cs,aX c.1 c.2.1 c.2.2 P w) {dc dy:Bool}{x y:Value}{w:World} (h:PA lo b g T nm ss N V W s r dc x dy y w):Bs g T nm ss cs w:=by
 obtain ⟨M,s2,_,h,_⟩:=h
 exact ⟨h.bx.lz,fun c hc=>(fk _ _ h.nx.1 c hc).1⟩
theorem PB.base {cs:List (Nat×Array Value×TypeId)} (fk:∀P w,N P w→∀c ∈ cs,aX c.1 c.2.1 c.2.2 P w) (hi:ss[i]?=some sl) {x v:Value}{w:World} (h:PB lo b g T nm ss N V W sl r x v w):Bs g T nm ss cs w:=by
 obtain ⟨M,a,s2,w2,_,_,_,h,hg,_,_⟩:=h
 refine ⟨(hg.block g h.bx.lt (fun e=>?_)).trans h.bx.lz,fun c hc=>?_⟩
 ·have:=((h.bx.own i sl hi).lt g e.symm).1;omega
 ·obtain ⟨h1,h2⟩:=fk _ _ h.nx.1 c hc
  exact (hg.block c.1 (zA h1).1 (fun e=>h2.2.2 i sl hi e.symm)).trans h1
theorem PA.call (hN:aP N) {dy:Bool}{x y:Value}{w w':World}{e:Ending} (h:PA lo b g T nm ss N V W s r false x dy y w) (hc:CR lo b (nB g) w r e w'):(∃x,e=.returned x∧PA lo b g T nm ss N V W s r true x dy y w')∨∃y,r=.error y∧e=qj y.1 y.2∧Sv g b W w':=by
 obtain ⟨M,s2,hM,h0,h1,h2⟩:=h
 unfold CR at hc
 cases hr:r with
 |error y =>
  rw[hr] at hc
  exact .inr ⟨y,rfl,hc.1,h0.sv.trans (Sv.of hc.2 (by have:=h0.bx.lt;omega))⟩
 |ok z =>
  rw[hr] at hc
  obtain ⟨x,rfl,k1,k2,k3⟩:=hc
  have h4:=h0.join (hN.and hM) (fW g z.1 x) k2 k3 k1
  refine .inl ⟨x,rfl,fun P w=>M P w∧nB g z.1 x P w,z.2,hM.and (fW _ _ _),h4.imp (fun h=>⟨h.1.1,h.1.2,h.2⟩),?_,?_⟩
  ·rw[if_pos rfl]
   exact ⟨z.1,rfl,fun P w h=>h.2⟩
  ·cases dy with
   |false=>trivial
   |true =>
    rw[if_pos rfl] at h2 ⊢
    obtain ⟨gy,e,h5⟩:=h2
    exact ⟨gy,e,fun P w h=>h5 P w h.1⟩
theorem PA.bs (hN:aP N) {dc:Bool}{x y:Value}{w:World} (h:PA lo b g T nm ss N V W s r dc x false y w):PA lo b g T nm ss N V W s r dc x true (.slice (some ⟨w.heap.size,0,none⟩) 1 1) (w.alloc (.cells iy 49)):=by
 obtain ⟨M,s2,hM,h0,h1,h2⟩:=h
 have hb:=(zE w.heap.size w).alloc (zD _) (.cells iy 49)
 have h4:=h0.join (hN.and hM) (bz w.heap.size iy 49) (h0.rd.up hb) (aD b hb) ⟨aF _ _,zD _⟩
 refine ⟨fun P w'=>M P w'∧aX w.heap.size iy 49 P w',s2,hM.and (bz _ _ _),h4.imp (fun h=>⟨h.1.1,h.1.2,h.2⟩),?_,?_⟩
 ·cases dc with
  |false=>exact h1
  |true =>
   rw[if_pos rfl] at h1 ⊢
   obtain ⟨a,e,h5⟩:=h1
   exact ⟨a,e,fun P w h=>h5 P w h.1⟩
 ·rw[if_pos rfl]
  exact ⟨_,rfl,fun P w h=>h.2⟩
theorem PA.drew (hN:aP N) {w:World} (h:Ap lo b g T nm ss N V W s w):PA lo b g T nm ss N V W s r false undef false undef w.drew:=⟨fun _ _=>True,s,nP,(h.up hN (zE w.heap.size w).drew).imp (fun h=>⟨h,trivial⟩),by simp,by simp⟩
theorem JV (xs:List Value) (n:Nat) (hn:xs.length=n*7) (z0 z1 z2 z3 z4 z5 z6 u0 u1 u2 u3 u4 u5 u6:Value):(((((((xs++[z0,z1,z2,z3,z4,z5,z6]).set (n*7) u0).set (n*7+1) u1).set (n*7+2) u2).set (n*7+3) u3).set (n*7+4) u4).set (n*7+5) u5).set (n*7+6) u6=xs++[u0,u1,u2,u3,u4,u5,u6]:=by
 rw[←hn]
 rw[show xs.length=xs.length+0 from rfl]
 simp only[Nat.add_assoc,Nat.reduceAdd,List.set_append_right _ _ (Nat.le_add_right _ _),Nat.add_sub_cancel_left]
 rfl
def Ds (w:World) (p j:Nat) (u0 u1 u2 u3 u4 u5 u6:Value):World:=((((((w.setCell ⟨p,j,none⟩ u0).setCell ⟨p,j+1,none⟩ u1).setCell ⟨p,j+2,none⟩ u2).setCell ⟨p,j+3,none⟩ u3).setCell ⟨p,j+4,none⟩ u4).setCell ⟨p,j+5,none⟩ u5).setCell ⟨p,j+6,none⟩ u6
end
end Go.Proofs.YtjophoclfccmcaaGreatDoor

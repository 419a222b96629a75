import Derived.Test.YtmlphohdcejniaaGreatDoorPbT
set_option maxHeartbeats 4000000
set_option maxRecDepth 100000
namespace Go.Proofs.YtmlphohdcejniaaGreatDoor
open Go.RowKit
attribute [local go_sem ↓] Go.wp_at_zero Go.wp_at_succ
theorem PK {lo b g K op p2 p3 mb:Nat}{nm:ByteArray}{N:(Nat→Prop)→World→Prop}{V W:World} (hN:aK N) (hK:K≤16384) (fX:∀P w,N P w→aP p2 #[.pointer (some ⟨b,0,none⟩)] 107 P w) (kC:∀P w,N P w→aP p3 #[.pointer (some ⟨g,0,none⟩)] 167 P w) (hm:∀P w,N P w→gL mb (iT b) P w) :
  CY (lD lo b g K op nm N V W) (Sv g b W) lo b mb (iT b) (.func (.func 173) #[] #[.pointer (some ⟨p3,0,none⟩),.pointer (some ⟨p2,0,none⟩)]) AI KA:=by
 refine ⟨fun x s w h=>h.rd,fun x s w s' w' h hr hg hs=>h.step hN hr hg hs,fun x s w w' h hg=>h.er hg,fun x s w h=>?_,fun k=>?_,fun k v f hv hf x s w h hk ht=>?_,fun x s w h=>?_⟩
 ·obtain ⟨_,⟨vf,vo,vm,ve,vr,vg,cm,ce,aZ⟩,_⟩:=h
  exact ⟨_,hm _ _ aZ.nx.1⟩
 ·unfold iT AI
  simp only[iN]
  by_cases q0:(k==⟨#[111,112,116,105,111,110]⟩)=true
  ·exact .inr ⟨_,_,_,_,by rw[if_pos q0],by rw[if_pos q0]⟩
  rw[if_neg q0,if_neg q0]
  by_cases q1:(k==⟨#[103,114,111,117,112]⟩)=true
  ·exact .inr ⟨_,_,_,_,by rw[if_pos q1],by rw[if_pos q1]⟩
  rw[if_neg q1,if_neg q1]
  by_cases q2:(k==⟨#[111,112,116,105,111,110,97,108]⟩)=true
  ·exact .inr ⟨_,_,_,_,by rw[if_pos q2],by rw[if_pos q2]⟩
  rw[if_neg q2,if_neg q2]
  by_cases q3:(k==⟨#[114,101,112,101,97,116,101,100]⟩)=true
  ·exact .inr ⟨_,_,_,_,by rw[if_pos q3],by rw[if_pos q3]⟩
  rw[if_neg q3,if_neg q3]
  by_cases q4:(k==⟨#[114,101,113,117,105,114,101,100]⟩)=true
  ·exact .inr ⟨_,_,_,_,by rw[if_pos q4],by rw[if_pos q4]⟩
  rw[if_neg q4,if_neg q4]
  by_cases q5:(k==⟨#[111,110,101,111,102]⟩)=true
  ·exact .inr ⟨_,_,_,_,by rw[if_pos q5],by rw[if_pos q5]⟩
  rw[if_neg q5,if_neg q5]
  by_cases q6:(k==⟨#[109,101,115,115,97,103,101]⟩)=true
  ·exact .inr ⟨_,_,_,_,by rw[if_pos q6],by rw[if_pos q6]⟩
  rw[if_neg q6,if_neg q6]
  by_cases q7:(k==⟨#[101,110,117,109]⟩)=true
  ·exact .inr ⟨_,_,_,_,by rw[if_pos q7],by rw[if_pos q7]⟩
  rw[if_neg q7,if_neg q7]
  by_cases q8:(k==⟨#[114,101,115,101,114,118,101,100]⟩)=true
  ·exact .inr ⟨_,_,_,_,by rw[if_pos q8],by rw[if_pos q8]⟩
  rw[if_neg q8,if_neg q8]
  exact .inl ⟨rfl,rfl⟩
 ·unfold iT at hv
  unfold AI at hf
  simp only[iN] at hv
  by_cases q0:(k==⟨#[111,112,116,105,111,110]⟩)=true
  ·rw[if_pos q0] at hv hf
   obtain rfl:=zC hv
   obtain rfl:=zC hf
   exact cV h.rd (fun w' hg=>h.er hg)
  rw[if_neg q0] at hv hf
  by_cases q1:(k==⟨#[103,114,111,117,112]⟩)=true
  ·rw[if_pos q1] at hv hf
   obtain rfl:=zC hv
   obtain rfl:=zC hf
   exact cV h.rd (fun w' hg=>h.er hg)
  rw[if_neg q1] at hv hf
  by_cases q2:(k==⟨#[111,112,116,105,111,110,97,108]⟩)=true
  ·rw[if_pos q2] at hv hf
   obtain rfl:=zC hv
   obtain rfl:=zC hf
   exact cV h.rd (fun w' hg=>h.er hg)
  rw[if_neg q2] at hv hf
  by_cases q3:(k==⟨#[114,101,112,101,97,116,101,100]⟩)=true
  ·rw[if_pos q3] at hv hf
   obtain rfl:=zC hv
   obtain rfl:=zC hf
   exact cV h.rd (fun w' hg=>h.er hg)
  rw[if_neg q3] at hv hf
  by_cases q4:(k==⟨#[114,101,113,117,105,114,101,100]⟩)=true
  ·rw[if_pos q4] at hv hf
   obtain rfl:=zC hv
   obtain rfl:=zC hf
   exact cV h.rd (fun w' hg=>h.er hg)
  rw[if_neg q4] at hv hf
  by_cases q5:(k==⟨#[111,110,101,111,102]⟩)=true
  ·rw[if_pos q5] at hv hf
   obtain rfl:=zC hv
   obtain rfl:=zC hf
   exact cV h.rd (fun w' hg=>h.er hg)
  rw[if_neg q5] at hv hf
  by_cases q6:(k==⟨#[109,101,115,115,97,103,101]⟩)=true
  ·rw[if_pos q6] at hv hf
   obtain rfl:=zC hv
   obtain rfl:=zC hf
   exact cV h.rd (fun w' hg=>h.er hg)
  rw[if_neg q6] at hv hf
  by_cases q7:(k==⟨#[101,110,117,109]⟩)=true
  ·rw[if_pos q7] at hv hf
   obtain rfl:=zC hv
   obtain rfl:=zC hf
   exact cV h.rd (fun w' hg=>h.er hg)
  rw[if_neg q7] at hv hf
  by_cases q8:(k==⟨#[114,101,115,101,114,118,101,100]⟩)=true
  ·rw[if_pos q8] at hv hf
   obtain rfl:=zC hv
   obtain rfl:=zC hf
   exact cV h.rd (fun w' hg=>h.er hg)
  rw[if_neg q8] at hv hf
  cases hv
 ·obtain ⟨jd,⟨vf,vo,vm,ve,vr,vg,cm,ce,aZ⟩,hk⟩:=h
  have mh:=hk
  obtain ⟨⟨l1,l2,l3,l4,l5,l6⟩,fT,hn,ju⟩:=hk
  refine ⟨_,_,_,rfl,CL w,?_⟩
  refine (DU (pm:=p3) (pr:=p2) (bt:=72) (r:=gg (x.os.length:Int) s) (sl:=⟨70,6,vf,x.fs.length,gX x.fs⟩) (so:=⟨9,1,vo,x.os.length,bS x.os⟩) (N1:=fun a x _ _=>x=a.val) rfl aZ (rI.st hN _ _ _) (fun _ _=>fun _ _ _ _ _ h=>h) rfl (pH rfl rfl) (by simp only;omega) (fun P w hw c hc=>?_) (fun w' kR=>(qo (x.os.length:Int) kR.ev kR.rd fT (by omega)).mono fun e w2 h2=>h2.cr)).mono ?_
  ·simp only[List.mem_cons,List.not_mem_nil,or_false] at hc
   rcases hc with rfl|rfl
   ·exact kC P w hw.1
   ·exact fX P w hw.1
  ·intro e w' hw
   exact vG jd mh (.inr (fun d s' hr=>(lq hr).2 aZ.rd.grown)) (fun d s' hr=>(lq hr).1) hw
noncomputable def xA:Code:=match Tryz.f154.body with
 |some (.seq _ (.seq _ (.seq _ t)))=>t
 |_=>.skip
noncomputable def KC (t:Code):Code:=match Tryz.f154.body with
 |some (.seq a (.seq b (.seq c _)))=>.seq a (.seq b (.seq c t))
 |_=>.skip
theorem KB:Tryz.f154.body=some (KC xA):=rfl
noncomputable def VM:Code:=match xA with
 |.seq a _=>a
 |_=>.skip
noncomputable def zQ:Code:=match xA with
 |.seq _ t=>t
 |_=>.skip
theorem Ia:xA=.seq VM zQ:=rfl
noncomputable def VL:Code:=match zQ with
 |.seq a _=>a
 |_=>.skip
noncomputable def BQ:Code:=match zQ with
 |.seq _ t=>t
 |_=>.skip
theorem H':zQ=.seq VL BQ:=rfl
noncomputable def VK:Code:=match BQ with
 |.seq a _=>a
 |_=>.skip
noncomputable def OC:Code:=match BQ with
 |.seq _ t=>t
 |_=>.skip
theorem H9:BQ=.seq VK OC:=rfl
section
variable {lo b g K op p2 p3 : Nat} {nm : ByteArray} {N : (Nat → Prop) → World → Prop} {V W w : World} {x : Mp} {s : aI} {R : Ending → World → Prop}
theorem KD {k:Nat} (h:lD lo b g K op nm N V W x s w) (hN:aK N) (fX:∀P w,N P w→aP p2 #[.pointer (some ⟨b,0,none⟩)] 107 P w) (kC:∀P w,N P w→aP p3 #[.pointer (some ⟨g,0,none⟩)] 167 P w) (ib:dD s.here 4 ⟨#[125]⟩=true) {tm:Array Value} (bR:tm.size=41) (je:Gh tm [(2,.pointer (some ⟨p2,0,none⟩)),(3,.pointer (some ⟨p3,0,none⟩)),(4,.int .i64 (k:Int))])
  (hR:∀e w,IP (lD lo b g K op nm N V W) (Sv g b W) (lO k x s) e w→R e w):OC.wp Tryz.prog (bodyPost Tryz.prog Tryz.f154 R) ⟨tm,[]⟩ w:=by
 have HR:=aj hR
 have HI:=aj h
 obtain ⟨jd,⟨vf,vo,vm,ve,vr,vg,cm,ce,aZ⟩,hk⟩:=h
 obtain ⟨va,vc,Su⟩:=bK (aZ.bx.own 0 _ rfl)
 simp only at Su
 have b1:w.cell? ⟨g,1,none⟩=some (.slice va x.fs.length vc):=by
  rw[cell_of_row _ _ _ _ _ _ aZ.bx.dt,←Su]
  rfl
 have c2:w.cell? ⟨p2,0,none⟩=some (.pointer (some ⟨b,0,none⟩)):=by rw[cell_of_row _ _ _ _ _ _ (fX _ _ aZ.nx.1).1];rfl
 have c3:w.cell? ⟨p3,0,none⟩=some (.pointer (some ⟨g,0,none⟩)):=by rw[cell_of_row _ _ _ _ _ _ (kC _ _ aZ.nx.1).1];rfl
 have hlen:x.fs.length≤20000:=by have:=hk.1.1;omega
 have HN:=aj hN
 have T':=aj ib
 obtain ⟨L,hL⟩:∃L,x.fs.length=L:=⟨_,rfl⟩
 have HL:=aj hL
 rw[hL] at b1 hlen
 obtain ⟨u,rfl⟩:=Ar bR
 obtain ⟨f2,f3,f4,_⟩:=je
 replace f2:u 2=.pointer (some ⟨p2,0,none⟩):=zC f2
 replace f3:u 3=.pointer (some ⟨p3,0,none⟩):=zC f3
 replace f4:u 4=.int .i64 (k:Int):=zC f4
 rw[f2,f3,f4]
 clear f2 f3 f4 bR hR aZ hN fX kC ib hL Su hk jd
 obtain ⟨Q,hQ⟩:∃Q,bodyPost Tryz.prog Tryz.f154 R=Q:=⟨_,rfl⟩
 rw[hQ]
 unfold OC BQ zQ xA
 dsimp only[Tryz.f154]
 by_cases hz:L=k
 ·have oK:((L:Int)==(k:Int))=true:=by simp[hz]
  have HW:=aj (ig (aa HI).rd)
  have HEq:Hid (lO k x s=.error (cK s)):=by show _=_;unfold lO;rw[if_pos ((aa HL).trans hz)]
  clear hz
  go_wp2_with fail
  refine (aa HW).mono ?_
  rintro e w2 ⟨rfl,bH⟩
  rw[←hQ]
  refine ⟨rfl,aa HR _ _ ?_⟩
  rw[aa HEq]
  exact ⟨rfl,(aa HI).er (aA b bH)⟩
 ·have oK:((L:Int)==(k:Int))=false:=beq_eq_false_iff_ne.2 (by omega)
  have HC:=aj (cY (aa HI).rd (bP (aa HI).rd.grown (by rw[qp (aa T')];decide)))
  have HEq:Hid (lO k x s=match bE s with|.error e=>.error e|.ok (_,s4)=>.ok (x,s4)):=by
   show _=_
   unfold lO
   rw[if_neg (by rw[aa HL];exact hz)]
   all_goals (cases bE s<;>rfl)
  clear hz
  go_wp2_with fail
  refine (aa HC).mono ?_
  intro e w2 hw
  rcases hw.split with ⟨y,hr,rfl,hg⟩|⟨_,s4,hr,rfl,h4,hg⟩
  ·rw[←hQ]
   refine ⟨rfl,aa HR _ _ ?_⟩
   rw[aa HEq,hr]
   exact ⟨rfl,(aa HI).er hg⟩
  ·have HE:Hid (R (.returned (.tuple #[])) w2):=by
    refine aa HR _ _ ?_
    rw[aa HEq,hr]
    exact ⟨rfl,(aa HI).step (aa HN) h4 hg (de hr).iY⟩
   clear hw hr h4 hg HC HEq
   go_wp2
   rw[←hQ]
   go_end0
   exact aa HE
end
end Go.Proofs.YtmlphohdcejniaaGreatDoor
namespace Go.Proofs.YtmlphohdcejniaaGreatDoor
open Go.RowKit
attribute [local go_sem ↓] Go.wp_at_zero Go.wp_at_succ
theorem lD.imp {lo b g K op:Nat}{nm:ByteArray}{N N':(Nat→Prop)→World→Prop}{V W w:World}{x:Mp}{s:aI} (h:lD lo b g K op nm N V W x s w) (hi:∀P w,N P w→N' P w):lD lo b g K op nm N' V W x s w:=by
 obtain ⟨h0,⟨vf,vo,vm,ve,vr,vg,cm,ce,aZ⟩,hk⟩:=h
 exact ⟨h0,⟨vf,vo,vm,ve,vr,vg,cm,ce,aZ.imp (fun h=>⟨hi _ _ h.1,h.2⟩)⟩,hk⟩
theorem lD.join {lo b g K op:Nat}{nm:ByteArray}{N M:(Nat→Prop)→World→Prop}{V W w w':World}{x:Mp}{s:aI} (h:lD lo b g K op nm N V W x s w) (hN:aK N) (hM:aK M) (hb:Below w.heap.size w w') (h1:M (fun k=>w.heap.size≤k) w'):lD lo b g K op nm (fun P w=>N P w∧M P w) V W x s w':=by
 obtain ⟨h0,⟨vf,vo,vm,ve,vr,vg,cm,ce,aZ⟩,hk⟩:=h
 exact ⟨h0,⟨vf,vo,vm,ve,vr,vg,cm,ce,(aZ.join (rI.st hN _ _ _) hM (aZ.rd.up hb) (aA b hb) h1).imp (fun h=>⟨⟨h.1.1,h.2⟩,h.1.2⟩)⟩,hk⟩
theorem IP.imp {σ:Type}{I J:σ→aI→World→Prop}{Er:World→Prop}{r:Except (Int×Int) (σ×aI)}{e:Ending}{w:World} (h:IP I Er r e w) (hi:∀x s,I x s w→J x s w):IP J Er r e w:=by
 unfold IP at *
 cases r with
 |error y=>exact h
 |ok y=>exact ⟨h.1,hi _ _ h.2⟩
section
variable {lo b g K op p2 p3 : Nat} {nm : ByteArray} {N : (Nat → Prop) → World → Prop} {V W w : World} {x : Mp} {s : aI} {R : Ending → World → Prop}
theorem KE {k:Nat} (h:lD lo b g K op nm N V W x s w) (hN:aK N) (hK:K≤16384) (fX:∀P w,N P w→aP p2 #[.pointer (some ⟨b,0,none⟩)] 107 P w) (kC:∀P w,N P w→aP p3 #[.pointer (some ⟨g,0,none⟩)] 167 P w) {tm:Array Value} (bR:tm.size=41) (je:Gh tm [(2,.pointer (some ⟨p2,0,none⟩)),(3,.pointer (some ⟨p3,0,none⟩)),(4,.int .i64 (k:Int))])
  (hR:∀e w,IP (lD lo b g K op nm N V W) (Sv g b W) (jA k x s) e w→R e w):BQ.wp Tryz.prog (bodyPost Tryz.prog Tryz.f154 R) ⟨tm,[]⟩ w:=by
 obtain ⟨f2,f3,f4,_⟩:=je
 have k2:=kg f2
 have k3:=kg f3
 have k4:=kg f4
 simp only at k2 k3 k4
 rw[H9]
 refine wp_seq ?_
 obtain ⟨T6,hT6⟩:∃T,OC=T:=⟨_,rfl⟩
 rw[hT6]
 obtain ⟨Qb,oB⟩:∃Q,bodyPost Tryz.prog Tryz.f154 R=Q:=⟨_,rfl⟩
 rw[oB]
 unfold VK BQ zQ xA
 dsimp only[Tryz.f154]
 refine gU (z:=4) (N:=41) 2 (by kernel_rfl) (fun k=>k+25) (fun k=>[.pointer (some ⟨b,0,none⟩),.pointer (some ⟨b,0,none⟩),undef,.func (.func 173) #[] #[.pointer (some ⟨p3,0,none⟩),.pointer (some ⟨p2,0,none⟩)]].getD k undef)
  (fun w=>lD lo b g K op nm N V W x s w)
  (fun y w=>∃mb,y=.map (some mb)∧lD lo b g K op nm (fun P w=>N P w∧gL mb (iT b) P w) V W x s w)
  _ w rfl bR (fun i j _ _ e=>by omega) (fun i hi=>by omega) (by kernel_rfl) (by kernel_rfl) ?_ ?_ ?_ ?_
 ·have hb:=(zE w.heap.size w).drew
  exact h.step hN (h.rd.up hb) (aA b hb) (.refl _)
 ·intro k oh w' hk SG gW bW aV hw
  have dw:w'.cell? ⟨p2,0,none⟩=some (.pointer (some ⟨b,0,none⟩)):=by
   rcases hw with ⟨_,⟨vf,vo,vm,ve,vr,vg,cm,ce,aZ⟩,_⟩|⟨_,mb,_,_,⟨vf,vo,vm,ve,vr,vg,cm,ce,aZ⟩,_⟩
   ·rw[cell_of_row _ _ _ _ _ _ (fX _ _ aZ.nx.1).1];rfl
   ·rw[cell_of_row _ _ _ _ _ _ (fX _ _ aZ.nx.1.1).1];rfl
  match k,hk with
  |0,_=>exact aS rfl rfl _ (.tmp 2) rfl ((bW 2 (by intro i hi;omega)).trans k2) (cJ _ dw) ⟨rfl,rfl⟩
  |1,_=>exact aS rfl rfl _ (.tmp 2) rfl ((bW 2 (by intro i hi;omega)).trans k2) (cJ _ dw) ⟨rfl,rfl⟩
  |2,_=>omega
  |3,_=>exact mQ rfl rfl _ _ _ rfl #[] #[.pointer (some ⟨p3,0,none⟩),.pointer (some ⟨p2,0,none⟩)] (by simp) (by simp only[List.map_toArray,List.map_cons,List.map_nil,Act.eval];rw[show oh.getD 3 undef=_ from (bW 3 (by intro i hi;omega)).trans k3,show oh.getD 2 undef=_ from (bW 2 (by intro i hi;omega)).trans k2]) ⟨rfl,rfl⟩
 ·intro _ oh w' gW bW aV hw
  refine b9 rfl rfl 172 (CO w') _ _ rfl #[.pointer (some ⟨b,0,none⟩)] ?_ (CI w' b) ?_
  ·simp only[List.map_toArray,List.map_cons,List.map_nil,Act.eval]
   rw[show oh.getD 26 undef=_ from aV 1 (by omega) (by kernel_rfl)]
   rfl
  ·rintro e w2 ⟨rfl,hb,cn⟩
   exact .inl ⟨_,rfl,_,rfl,w'.heap.size,rfl,hw.join hN (fC _ _) hb cn⟩
 ·intro oh w' gW bW cZ hw
  rcases hw with ⟨_,mb,hx,hi⟩|⟨hc,_⟩
  rotate_left
  ·omega
  have IF:aK (fun P w=>N P w∧gL mb (iT b) P w):=hN.and (fC _ _)
  have rQ:=PK (lo:=lo) (g:=g) (op:=op) (p2:=p2) (p3:=p3) (nm:=nm) (V:=V) (W:=W) IF hK (fun P w h=>fX P w h.1) (fun P w h=>kC P w h.1) (fun P w h=>h.2)
  have FW:=wW rQ (fun x s w x' s' hI Iy=>tN AH (fun x s x' s' h=>lu h) (rQ.rd x s w hI).grown Iy) hi
  refine b9 rfl rfl 123 (wR w') _ _ rfl #[.pointer (some ⟨b,0,none⟩),.map (some mb),.func (.func 173) #[] #[.pointer (some ⟨p3,0,none⟩),.pointer (some ⟨p2,0,none⟩)]] ?_ FW ?_
  ·simp only[List.map_toArray,List.map_cons,List.map_nil,Act.eval]
   rw[show oh.getD 25 undef=_ from cZ 0 (by omega) (by omega),show oh.getD 27 undef=_ from hx,show oh.getD 28 undef=_ from cZ 3 (by omega) (by omega)]
   rfl
  ·intro e w2 OZ
   have Dg:∀z,ie (cj AI KA) x s=z→jA k x s=(match z with|.error e=>.error e|.ok (x2,s2)=>lO k x2 s2):=fun z hz=>by unfold jA;rw[hz];cases z<;>rfl
   rcases OZ.split with ⟨y,hr,rfl,he⟩|⟨x3,s3,hr,rfl,Ly⟩
   ·refine .inr ⟨_,rfl,?_⟩
    show Qb (Exit.panic _) _ _
    rw[←oB]
    refine ⟨rfl,hR _ _ ?_⟩
    rw[Dg _ hr]
    exact ⟨rfl,he⟩
   ·refine .inl ⟨_,rfl,?_⟩
    show T6.wp Tryz.prog Qb ⟨oh.setIfInBounds 29 (.tuple #[]),[]⟩ w2
    rw[←hT6,←oB]
    have ib:=(kX (fun x s x' s' h=>(lX AH (fun x s x' s' h=>lu h) h).1.iY) hr).2
    refine KD (p2:=p2) (p3:=p3) (k:=k) Ly IF (fun P w h=>fX P w h.1) (fun P w h=>kC P w h.1) ib (by rw[Array.size_setIfInBounds];exact gW) ⟨?_,?_,?_,trivial⟩ ?_
    ·exact nc (by rw[Array.size_setIfInBounds,gW];omega) (by rw[aB (by omega)];exact (bW 2 (by intro i hi;omega)).trans k2)
    ·exact nc (by rw[Array.size_setIfInBounds,gW];omega) (by rw[aB (by omega)];exact (bW 3 (by intro i hi;omega)).trans k3)
    ·exact nc (by rw[Array.size_setIfInBounds,gW];omega) (by rw[aB (by omega)];exact (bW 4 (by intro i hi;omega)).trans k4)
    ·intro e w3 jD
     refine hR e w3 ?_
     rw[Dg _ hr]
     exact jD.imp (fun x s h=>h.imp (fun P w h=>h.1))
theorem KF {k:Nat} (h:lD lo b g K op nm N V W x s w) (hN:aK N) (hK:K≤16384) (fX:∀P w,N P w→aP p2 #[.pointer (some ⟨b,0,none⟩)] 107 P w) (kC:∀P w,N P w→aP p3 #[.pointer (some ⟨g,0,none⟩)] 167 P w) (hkf:x.fs.length=k) {tm:Array Value} (bR:tm.size=41) (je:Gh tm [(2,.pointer (some ⟨p2,0,none⟩)),(3,.pointer (some ⟨p3,0,none⟩))])
  (hR:∀e w,IP (lD lo b g K op nm N V W) (Sv g b W) (jA k x s) e w→R e w):zQ.wp Tryz.prog (bodyPost Tryz.prog Tryz.f154 R) ⟨tm,[]⟩ w:=by
 have HI:=aj h
 have HN:=aj hN
 have ny:=aj fX
 have xX:=aj kC
 have HR:=aj hR
 have HK:=aj hK
 obtain ⟨jd,⟨vf,vo,vm,ve,vr,vg,cm,ce,aZ⟩,hk⟩:=h
 obtain ⟨va,vc,Su⟩:=bK (aZ.bx.own 0 _ rfl)
 simp only at Su
 have b1:w.cell? ⟨g,1,none⟩=some (.slice va k vc):=by
  rw[cell_of_row _ _ _ _ _ _ aZ.bx.dt,←hkf,←Su]
  rfl
 have c3:w.cell? ⟨p3,0,none⟩=some (.pointer (some ⟨g,0,none⟩)):=by rw[cell_of_row _ _ _ _ _ _ (kC _ _ aZ.nx.1).1];rfl
 have hkb:k≤20000:=by have:=hk.1.1;omega
 obtain ⟨u,rfl⟩:=Ar bR
 obtain ⟨f2,f3,_⟩:=je
 replace f2:u 2=.pointer (some ⟨p2,0,none⟩):=zC f2
 replace f3:u 3=.pointer (some ⟨p3,0,none⟩):=zC f3
 rw[f2,f3,H']
 clear f2 f3 bR hR aZ hN fX kC Su hk jd hkf hK
 obtain ⟨Q,hQ⟩:∃Q,bodyPost Tryz.prog Tryz.f154 R=Q:=⟨_,rfl⟩
 obtain ⟨T5,Xf⟩:∃T,BQ=T:=⟨_,rfl⟩
 rw[hQ,Xf]
 unfold VL zQ xA
 dsimp only[Tryz.f154]
 go_wp2
 rw[←hQ,←Xf]
 exact KE (aa HI) (aa HN) (aa HK) (aa ny) (aa xX) rfl ⟨rfl,rfl,rfl,trivial⟩ (aa HR)
theorem KG (h:lD lo b g K op nm N V W x s w) (hN:aK N) (hK:K≤16384) (fX:∀P w,N P w→aP p2 #[.pointer (some ⟨b,0,none⟩)] 107 P w) (kC:∀P w,N P w→aP p3 #[.pointer (some ⟨g,0,none⟩)] 167 P w) {gR:Array Value} (pA:gR.size=41) (je:Gh gR [(2,.pointer (some ⟨p2,0,none⟩)),(3,.pointer (some ⟨p3,0,none⟩))])
  (hR:∀e w,IP (lD lo b g K op nm N V W) (Sv g b W) (match cq s with|.error e=>.error e|.ok (a,s2)=>jA x.fs.length { x with os:=x.os++[a] } s2) e w→R e w):xA.wp Tryz.prog (bodyPost Tryz.prog Tryz.f154 R) ⟨gR,[]⟩ w:=by
 obtain ⟨f2,f3,_⟩:=je
 have k2:=kg f2
 have k3:=kg f3
 simp only at k2 k3
 obtain ⟨jd,⟨vf,vo,vm,ve,vr,vg,cm,ce,aZ⟩,hk⟩:=h
 have mh:=hk
 obtain ⟨⟨l1,l2,l3,l4,l5,l6⟩,fT,hn,ju⟩:=hk
 have hS:=rI.st (g:=g) hN x cm ce
 have hi:(E0 x vf vo vm ve vr vg cm ce)[1]?=some ⟨9,1,vo,x.os.length,bS x.os⟩:=rfl
 obtain ⟨va,vn,vc,hv⟩:=aL (aZ.bx.own 1 _ hi)
 simp only at hv
 obtain ⟨ei,kT,mG,qe,fx⟩:=Ax (sl:=⟨9,1,vo,x.os.length,bS x.os⟩) rfl rfl
 have cn:∀P w,rI g N x cm ce P w→∀c ∈ ([(p3,#[.pointer (some ⟨g,0,none⟩)],167),(p2,#[.pointer (some ⟨b,0,none⟩)],107)]:List (Nat×Array Value×TypeId)),aP c.1 c.2.1 c.2.2 P w:=fun P w hw c hc=>by
  simp only[List.mem_cons,List.not_mem_nil,or_false] at hc
  rcases hc with rfl|rfl
  ·exact kC P w hw.1
  ·exact fX P w hw.1
 have ca:=Ph.base (lo:=lo) (b:=b) (g:=g) (T:=64) (nm:=nm) (V:=V) (W:=W) (s:=s) (r:=cq s) (N1:=fun (a:ByteArray) x _ _=>x=Value.string a) cn hi
 have iq:∀(a:ByteArray) (x:Value),aK (fun (_:Nat→Prop) (_:World)=>x=Value.string a):=fun _ _=>fun _ _ _ _ _ h=>h
 have hd:=aZ.up hS (zE w.heap.size w).drew
 rw[Ia]
 refine wp_seq ?_
 obtain ⟨T4,hT4⟩:∃T,zQ=T:=⟨_,rfl⟩
 rw[hT4]
 obtain ⟨Qb,oB⟩:∃Q,bodyPost Tryz.prog Tryz.f154 R=Q:=⟨_,rfl⟩
 rw[oB]
 unfold VM xA
 dsimp only[Tryz.f154]
 refine cN (z:=11) (N:=41) (c:=6) (by kernel_rfl) (fun k=>k+9) (fun k=>[.pointer (some ⟨g,0,none⟩),.pointer (some ⟨g,0,none⟩),.pointer (some ⟨g,0,none⟩),.pointer (some ⟨g,2,none⟩),vo,.pointer (some ⟨b,0,none⟩),undef,undef,undef,.pointer (some ⟨g,0,none⟩),.pointer (some ⟨g,2,none⟩)].getD k undef) (Ph lo b g 64 nm (E0 x vf vo vm ve vr vg cm ce) (rI g N x cm ce) V W s ⟨9,1,vo,x.os.length,bS x.os⟩ (cq s) (fun a x _ _=>x=Value.string a)) _ w rfl pA (fun i j _ _ e=>by omega) (fun i hi=>by omega) (by kernel_rfl) (by omega) (by kernel_rfl) (by kernel_rfl) (by kernel_rfl) hd ?_ ?_ ?_ ?_ ?_
 ·intro k tm w hk hq bR bW aV bA
  obtain ⟨ph,y,bA⟩:=bA
  have hB:=ca ph y w bA
  match k,hk with
  |0,_=>exact aS rfl rfl _ (.tmp 3) rfl ((bW 3 (by intro i hi;omega)).trans k3) (cz w (hB.cell (List.mem_cons_self ..) rfl)) ⟨rfl,rfl⟩
  |1,_=>exact aS rfl rfl _ (.tmp 3) rfl ((bW 3 (by intro i hi;omega)).trans k3) (cz w (hB.cell (List.mem_cons_self ..) rfl)) ⟨rfl,rfl⟩
  |2,_=>exact aY rfl rfl (.tmp 10) rfl (aV 1 (by omega) (by kernel_rfl)) ⟨rfl,rfl⟩
  |3,_=>exact bI rfl rfl _ (.tmp 11) _ rfl (aV 2 (by omega) (by kernel_rfl)) (Ay w) ⟨rfl,rfl⟩
  |4,_=>exact aS rfl rfl _ (.tmp 12) rfl (aV 3 (by omega) (by kernel_rfl)) (by rw[hv];exact tU w (by rw[←hv];exact hB.row hi)) ⟨rfl,rfl⟩
  |5,_=>exact aS rfl rfl _ (.tmp 2) rfl ((bW 2 (by intro i hi;omega)).trans k2) (cJ w (hB.cell (zF _ (List.mem_cons_self ..)) rfl)) ⟨rfl,rfl⟩
  |6,_=>omega
  |7,_=>omega
  |8,_=>omega
  |9,_=>exact aY rfl rfl (.tmp 9) rfl (aV 0 (by omega) (by kernel_rfl)) ⟨rfl,rfl⟩
  |10,_=>exact bI rfl rfl _ (.tmp 18) _ rfl (aV 9 (by omega) (by kernel_rfl)) (Ay w) ⟨rfl,rfl⟩
 ·intro tm w bR bW aV bA
  have IE:Ap lo b g 64 nm (E0 x vf vo vm ve vr vg cm ce) (rI g N x cm ce) V W s w:=bA
  refine b9 rfl rfl 122 (MD w) _ _ rfl #[.pointer (some ⟨b,0,none⟩)] ?_ ((j5 IE.rd fT).mono fun e w2 h2=>h2.cr) ?_
  ·simp only[List.map_toArray,List.map_cons,List.map_nil,Act.eval]
   rw[show tm.getD 14 undef=_ from aV 5 (by omega) (by kernel_rfl)]
   rfl
  ·intro e w' jD
   rcases Ph.call hS iq bA jD with ⟨y,rfl,h1⟩|⟨y,hr,rfl,hs⟩
   ·exact .inl ⟨y,rfl,y,rfl,h1⟩
   ·exact .inr ⟨_,rfl,by show Qb (Exit.panic _) _ _;rw[←oB];exact ⟨rfl,hR _ _ (by rw[hr];exact ⟨rfl,hs⟩)⟩⟩
 ·intro tm w y bR hx bA
  obtain ⟨a,s',hr,ep,IE⟩:=id bA
  obtain ⟨f1,f2,f3⟩:=fx a y (fun _=>True) w ep
  exact jt rfl rfl _ _ _ rfl #[(0,y)] (by simp only[List.map_toArray,List.map_cons,List.map_nil,Act.eval];rw[show tm.getD 15 undef=y from hx]) (f3 w) ⟨_,rfl,Ph.bs hS iq bA⟩
 ·intro tm w y bR aV hy bA
  obtain ⟨a,s',z,gy,hr,rfl,qD,ep,IE⟩:=id bA
  obtain ⟨f1,f2,f3⟩:=fx a z (fun _=>True) w ep
  have hl:=IE.bx.lt
  refine bT w rfl rfl (.tmp 13) (.tmp 16) 22 rfl (g+1) 9 1 16 kT ei mG vo x.os.length (bS x.os) (aV 4 (by omega) (by kernel_rfl)) (IE.bx.own 1 _ hi) ⟨gy,0,none⟩ 1 1 z.cells.toList hy (by rw[Array.length_toList,f1]) (du qD) f2 (by unfold maxLen;omega) (by omega) (by omega) ?_
  intro v' w' h1 h2 h3
  exact ⟨v',rfl,Ph.app hr IE h2 h1 h3⟩
 ·intro tm w y bR bW cZ hy bA
  have hB:=ca 3 y w bA
  obtain ⟨a,s',z,w2,hr,h1,h2,h3,h4⟩:=id bA
  obtain ⟨ya,yn,yc,rfl⟩:=aL h3
  refine dv rfl rfl _ (.tmp 19) (.tmp 17) rfl (cZ 10 (by omega) (by omega)) hy (zp w (hB.row hi) (hB.frozen _)) ?_
  show T4.wp Tryz.prog Qb ⟨tm,[]⟩ _
  rw[←hT4,←oB]
  rcases CP.plain uU (Ph.last hS iq hi bA) with ⟨y',xG,he,_⟩|⟨a',s2,v2,xG,_,gp⟩
  ·rw[hr] at xG;cases xG
  ·have FR:=kD xG
   have cc:=FR.lt (mN xG aZ.rd.grown)
   refine KF (x:={ x with os:=x.os++[a'] }) (s:=s2) (k:=x.fs.length) ⟨jd,⟨vf,v2,vm,ve,vr,vg,cm,ce,gp⟩,⟨⟨by simp only;omega,by simp only[zK,List.length_singleton];omega,by simp only;omega,by simp only;omega,by simp only;omega,by simp only;omega⟩,FR.iY.sm fT,by omega,FR.iY.op.trans ju⟩⟩ hN hK fX kC rfl bR ⟨?_,?_,trivial⟩ ?_
   ·exact nc (by rw[bR];omega) ((bW 2 (by intro i hi;omega)).trans k2)
   ·exact nc (by rw[bR];omega) ((bW 3 (by intro i hi;omega)).trans k3)
   ·intro e w3 OZ
    refine hR e w3 ?_
    rw[xG]
    exact OZ
end
end Go.Proofs.YtmlphohdcejniaaGreatDoor

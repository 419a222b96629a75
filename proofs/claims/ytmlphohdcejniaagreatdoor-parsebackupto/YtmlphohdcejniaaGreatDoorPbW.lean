import Derived.Test.YtmlphohdcejniaaGreatDoorM27
set_option maxHeartbeats 4000000
set_option maxRecDepth 100000
namespace Go.Proofs.YtmlphohdcejniaaGreatDoor
open Go.RowKit
attribute [local go_sem ↓] Go.wp_at_zero Go.wp_at_succ
section
variable {lo b g K op : Nat} {nm : ByteArray} {N : (Nat → Prop) → World → Prop} {V W w0 : World} {x : Mp} {s : aI}
theorem Hy (h:lD lo b g K op nm N V W x s w0) (hN:aK N) (hK:K≤16384) (hp:0<s.ts.length):Calls Tryz.prog 154 #[.pointer (some ⟨b,0,none⟩),.pointer (some ⟨g,0,none⟩)] w0 (IP (lD lo b g K op nm N V W) (Sv g b W) (ja x s)):=by
 have bH:Below w0.heap.size w0 ((w0.alloc (.cells #[.pointer (some ⟨b,0,none⟩)] 107)).alloc (.cells #[.pointer (some ⟨g,0,none⟩)] 167)):=((zE _ _).alloc (zD _) _).alloc (by rw[zJ];omega) _
 have nT:((w0.alloc (.cells #[.pointer (some ⟨b,0,none⟩)] 107)).alloc (.cells #[.pointer (some ⟨g,0,none⟩)] 167)).heap[w0.heap.size]?=some (.cells #[.pointer (some ⟨b,0,none⟩)] 107 (0,0)):=(Below.heap_alloc _ _ _ (by rw[zJ];omega)).trans (aC _ _)
 have fF:((w0.alloc (.cells #[.pointer (some ⟨b,0,none⟩)] 107)).alloc (.cells #[.pointer (some ⟨g,0,none⟩)] 167)).heap[w0.heap.size+1]?=some (.cells #[.pointer (some ⟨g,0,none⟩)] 167 (0,0)):=by
  have:=aC (w0.alloc (.cells #[.pointer (some ⟨b,0,none⟩)] 107)) (.cells #[.pointer (some ⟨g,0,none⟩)] 167)
  rw[zJ] at this
  exact this
 have hS:aK (fun P w=>aP w0.heap.size #[.pointer (some ⟨b,0,none⟩)] 107 P w∧aP (w0.heap.size+1) #[.pointer (some ⟨g,0,none⟩)] 167 P w):=(bp _ _ _).and (bp _ _ _)
 have hj:=h.join hN hS bH ⟨⟨nT,zD _⟩,⟨fF,by omega⟩⟩
 have HS:=aj (hN.and hS)
 have HI:=aj hj
 have c0:((w0.alloc (.cells #[.pointer (some ⟨b,0,none⟩)] 107)).alloc (.cells #[.pointer (some ⟨g,0,none⟩)] 167)).cell? ⟨w0.heap.size,0,none⟩=some (.pointer (some ⟨b,0,none⟩)):=by rw[cell_of_row _ _ _ _ _ _ nT];rfl
 have gj:∀s' w',lD lo b g K op nm (fun P w=>N P w∧(aP w0.heap.size #[.pointer (some ⟨b,0,none⟩)] 107 P w∧aP (w0.heap.size+1) #[.pointer (some ⟨g,0,none⟩)] 167 P w)) V W x s' w'→w'.cell? ⟨w0.heap.size,0,none⟩=some (.pointer (some ⟨b,0,none⟩)):=by
  rintro s' w' ⟨_,⟨vf,vo,vm,ve,vr,vg,cm,ce,aZ⟩,_⟩
  rw[cell_of_row _ _ _ _ _ _ aZ.nx.1.2.1.1];rfl
 have HCl:=aj gj
 have HC:=aj (fe hj.rd)
 have HK:=aj hK
 clear h hN hS bH nT fF hj gj hK
 refine calls_of_wp Tryz.func154 KB ?_
 obtain ⟨tl,nU⟩:∃t,xA=t:=⟨_,rfl⟩
 rw[nU]
 obtain ⟨Q,hQ⟩:∃Q,bodyPost Tryz.prog Tryz.f154 (IP (lD lo b g K op nm N V W) (Sv g b W) (ja x s))=Q:=⟨_,rfl⟩
 rw[hQ]
 unfold KC
 dsimp only[Tryz.f154]
 simp only[List.size_toArray,List.length_cons,List.length_nil,Nat.reduceAdd,Nat.reduceSub,Array.replicate_succ,Array.replicate_zero,List.push_toArray,List.append_toArray,List.nil_append,List.cons_append]
 go_wp2_with fail
 refine (aa HC).mono ?_
 rintro e w1 ⟨rfl,h1,kk⟩
 have pV:=aj ((aa HI).step (s':=s.begun) (aa HS) h1 kk ⟨0,rfl,rfl,rfl⟩)
 have c1:=aa HCl _ _ (aa pV)
 have HN:=aj (cY h1 hp)
 clear h1 kk HC c0 HI
 go_wp2_with fail
 refine (aa HN).mono ?_
 intro e w2 hw
 rcases hw.split with ⟨y,hr,rfl,hg⟩|⟨_,s1,hr,rfl,h2,hg⟩
 ·show Q (Exit.panic _) _ _
  rw[←hQ]
  refine ⟨rfl,?_⟩
  unfold ja
  rw[hr]
  exact ⟨rfl,(aa pV).er hg⟩
 ·have nJ:=aj ((aa pV).step (aa HS) h2 hg (de hr).iY)
  have HF:Hid (ja x s=match cq s1 with|.error e=>.error e|.ok (a,s2)=>jA x.fs.length { x with os:=x.os++[a] } s2):=by
   show _=_
   unfold ja
   rw[hr]
   simp only
   all_goals (cases cq s1<;>rfl)
  clear hw hr h2 hg HN pV c1
  go_wp2
  rw[←nU,←hQ]
  refine KG (p2:=w0.heap.size) (p3:=w0.heap.size+1) (aa nJ) (aa HS) (aa HK) (fun P w h=>h.2.1) (fun P w h=>h.2.2) rfl ⟨rfl,rfl,trivial⟩ ?_
  intro e w3 OZ
  rw[aa HF]
  exact OZ.imp (fun x s h=>h.imp (fun P w h=>h.1))
theorem K0 {pm pr:Nat} (h:lD lo b g K op nm N V W x s w0) (hN:aK N) (hK:K≤16384) (qa:∀P w,N P w→aP pr #[.pointer (some ⟨b,0,none⟩)] 107 P w) (fX:∀P w,N P w→aP pm #[.pointer (some ⟨g,0,none⟩)] 167 P w) (hp:0<s.ts.length):Calls Tryz.prog 153 #[.pointer (some ⟨pr,0,none⟩),.pointer (some ⟨pm,0,none⟩)] w0 (IP (lD lo b g K op nm N V W) (Sv g b W) (ja x s)):=by
 have HC:=aj (Hy h hN hK hp)
 obtain ⟨_,⟨vf,vo,vm,ve,vr,vg,cm,ce,aZ⟩,_⟩:=h
 have c1:w0.cell? ⟨pr,0,none⟩=some (.pointer (some ⟨b,0,none⟩)):=by rw[cell_of_row _ _ _ _ _ _ (qa _ _ aZ.nx.1).1];rfl
 have c2:w0.cell? ⟨pm,0,none⟩=some (.pointer (some ⟨g,0,none⟩)):=by rw[cell_of_row _ _ _ _ _ _ (fX _ _ aZ.nx.1).1];rfl
 clear aZ hN qa fX
 go_enter Tryz.func153,Tryz.ntmps153
 go_wp2_with fail
 refine (aa HC).mono ?_
 intro e w1 hw
 have HW:=aj hw
 rcases hw.split with ⟨y,hr,rfl,he⟩|⟨x',s',hr,rfl,hi⟩
 ·exact ⟨rfl,aa HW⟩
 ·clear hr hi hw HC c1 c2
  go_wp2
  go_end0
  exact aa HW
end
theorem RZ {lo b g K op p1 pv:Nat}{nm:ByteArray}{N:(Nat→Prop)→World→Prop}{V W:World}{mf:aI→Except (Int×Int) (Ms×aI)} (hN:aK N) (hK:K≤16384) (qa:∀P w,N P w→aP p1 #[.pointer (some ⟨b,0,none⟩)] 107 P w) (fX:∀P w,N P w→aP pv #[.pointer (some ⟨b,0,none⟩)] 107 P w) (kC:∀P w,N P w→aP (pv+1) #[.pointer (some ⟨g,0,none⟩)] 167 P w) (hm:∀P w,N P w→gL (pv+2) (iI pv b) P w)
  (FR:∀s m s',mf s=.ok (m,s')→Gt s s') (WC:∀lo b V W s,Env V W b→Rd lo W b s→Sm s→s.ts.length≤K→0<s.ts.length→Calls Tryz.prog 101 #[.pointer (some ⟨b,0,none⟩)] W (CR lo b NM W (mf s))) :
  CY (lD lo b g K op nm N V W) (Sv g b W) lo b (pv+2) (iI pv b) (.func (.func 125) #[] #[.pointer (some ⟨g,0,none⟩),.pointer (some ⟨p1,0,none⟩)]) (BY mf) Un:=by
 refine ⟨fun x s w h=>h.rd,fun x s w s' w' h hr hg hs=>h.step hN hr hg hs,fun x s w w' h hg=>h.er hg,fun x s w h=>?_,fun k=>?_,fun k v f hv hf x s w h hk ht=>?_,fun x s w h=>?_⟩
 ·obtain ⟨_,⟨vf,vo,vm,ve,vr,vg,cm,ce,aZ⟩,_⟩:=h
  exact ⟨_,hm _ _ aZ.nx.1⟩
 ·unfold iI BY
  simp only[iN]
  by_cases q0:(k==⟨#[109,101,115,115,97,103,101]⟩)=true
  ·exact .inr ⟨_,_,_,_,by rw[if_pos q0],by rw[if_pos q0]⟩
  rw[if_neg q0,if_neg q0]
  by_cases q1:(k==⟨#[101,110,117,109]⟩)=true
  ·exact .inr ⟨_,_,_,_,by rw[if_pos q1],by rw[if_pos q1]⟩
  rw[if_neg q1,if_neg q1]
  by_cases q2:(k==⟨#[111,110,101,111,102]⟩)=true
  ·exact .inr ⟨_,_,_,_,by rw[if_pos q2],by rw[if_pos q2]⟩
  rw[if_neg q2,if_neg q2]
  by_cases q3:(k==⟨#[114,101,115,101,114,118,101,100]⟩)=true
  ·exact .inr ⟨_,_,_,_,by rw[if_pos q3],by rw[if_pos q3]⟩
  rw[if_neg q3,if_neg q3]
  by_cases q4:(k==⟨#[111,112,116,105,111,110,97,108]⟩)=true
  ·exact .inr ⟨_,_,_,_,by rw[if_pos q4],by rw[if_pos q4]⟩
  rw[if_neg q4,if_neg q4]
  by_cases q5:(k==⟨#[114,101,112,101,97,116,101,100]⟩)=true
  ·exact .inr ⟨_,_,_,_,by rw[if_pos q5],by rw[if_pos q5]⟩
  rw[if_neg q5,if_neg q5]
  by_cases q6:(k==⟨#[109,97,112]⟩)=true
  ·exact .inr ⟨_,_,_,_,by rw[if_pos q6],by rw[if_pos q6]⟩
  rw[if_neg q6,if_neg q6]
  by_cases q7:(k==⟨#[111,112,116,105,111,110]⟩)=true
  ·exact .inr ⟨_,_,_,_,by rw[if_pos q7],by rw[if_pos q7]⟩
  rw[if_neg q7,if_neg q7]
  by_cases q8:(k==⟨#[101,120,116,101,110,100]⟩)=true
  ·exact .inr ⟨_,_,_,_,by rw[if_pos q8],by rw[if_pos q8]⟩
  rw[if_neg q8,if_neg q8]
  by_cases q9:(k==⟨#[101,120,116,101,110,115,105,111,110,115]⟩)=true
  ·exact .inr ⟨_,_,_,_,by rw[if_pos q9],by rw[if_pos q9]⟩
  rw[if_neg q9,if_neg q9]
  by_cases Dc:(k==⟨#[103,114,111,117,112]⟩)=true
  ·exact .inr ⟨_,_,_,_,by rw[if_pos Dc],by rw[if_pos Dc]⟩
  rw[if_neg Dc,if_neg Dc]
  by_cases Nw:(k==⟨#[114,101,113,117,105,114,101,100]⟩)=true
  ·exact .inr ⟨_,_,_,_,by rw[if_pos Nw],by rw[if_pos Nw]⟩
  rw[if_neg Nw,if_neg Nw]
  exact .inl ⟨rfl,rfl⟩
 ·unfold iI at hv
  unfold BY at hf
  simp only[iN] at hv
  by_cases q0:(k==⟨#[109,101,115,115,97,103,101]⟩)=true
  ·rw[if_pos q0] at hv hf
   obtain rfl:=zC hv
   obtain rfl:=zC hf
   obtain ⟨jd,⟨vf,vo,vm,ve,vr,vg,cm,ce,aZ⟩,mh⟩:=h
   have qC:=mh
   obtain ⟨⟨l1,l2,l3,l4,l5,l6⟩,fT,hn,ju⟩:=qC
   have jc:=bP aZ.rd.grown (by rw[hk];decide)
   refine ⟨_,_,_,rfl,xS w,?_⟩
   refine (TK (pm:=pv+1) (pr:=pv) (r:=mf s) (sl:=⟨64,7,vm,x.ms.length,cm⟩) aZ (rI.st hN _ _ _) rfl (Cx g rfl rfl) (by simp only;omega) (fun P w hw c hc=>by
    simp only[List.mem_cons,List.not_mem_nil,or_false] at hc
    rcases hc with rfl|rfl
    ·exact kC P w hw.1
    ·exact fX P w hw.1) (fun w' s2 M _ kR e=>by
    subst e
    exact (WC lo b V w' s2 kR.ev kR.rd fT (by omega) jc).mono fun e w3 h3=>h3.VP (by have:=kR.bx.lt;omega))).mono ?_
   intro e w' hw
   exact R4 jd mh jc (fun d s' hr=>FR _ _ _ hr) hw
  rw[if_neg q0] at hv hf
  by_cases q1:(k==⟨#[101,110,117,109]⟩)=true
  ·rw[if_pos q1] at hv hf
   obtain rfl:=zC hv
   obtain rfl:=zC hf
   obtain ⟨jd,⟨vf,vo,vm,ve,vr,vg,cm,ce,aZ⟩,mh⟩:=h
   have qC:=mh
   obtain ⟨⟨l1,l2,l3,l4,l5,l6⟩,fT,hn,ju⟩:=qC
   have jc:=bP aZ.rd.grown (by rw[hk];decide)
   refine ⟨_,_,_,rfl,xR w,?_⟩
   refine (K1 (pm:=pv+1) (pr:=pv) (bt:=88) (r:=iQ s) (sl:=⟨68,4,ve,x.es.length,ce⟩) (N1:=TP g) aZ (rI.st hN _ _ _) (uY g) rfl (yI g rfl rfl) (by simp only;omega) (fun P w hw c hc=>by
    simp only[List.mem_cons,List.not_mem_nil,or_false] at hc
    rcases hc with rfl|rfl
    ·exact kC P w hw.1
    ·exact fX P w hw.1) (fun w' kR=>(CB kR.ev kR.rd fT (by omega) jc).mono fun e w3 h3=>h3.QQ (by have:=kR.bx.lt;omega))).mono ?_
   intro e w' hw
   exact OG jd mh jc (fun d s' hr=>tZ hr) hw
  rw[if_neg q1] at hv hf
  by_cases q2:(k==⟨#[111,110,101,111,102]⟩)=true
  ·rw[if_pos q2] at hv hf
   obtain rfl:=zC hv
   obtain rfl:=zC hf
   exact ⟨_,_,_,rfl,xQ w,K0 h hN hK fX kC (bP h.rd.grown (by rw[hk];decide))⟩
  rw[if_neg q2] at hv hf
  by_cases q3:(k==⟨#[114,101,115,101,114,118,101,100]⟩)=true
  ·rw[if_pos q3] at hv hf
   obtain rfl:=zC hv
   obtain rfl:=zC hf
   obtain ⟨jd,⟨vf,vo,vm,ve,vr,vg,cm,ce,aZ⟩,mh⟩:=h
   have qC:=mh
   obtain ⟨⟨l1,l2,l3,l4,l5,l6⟩,fT,hn,ju⟩:=qC
   have jc:=bP aZ.rd.grown (by rw[hk];decide)
   refine ⟨_,_,_,rfl,xP w,?_⟩
   refine (KZ (pm:=pv+1) (pr:=pv) (rs:=x.rs) (gs:=x.gs) (vr:=vr) (vg:=vg) aZ (rI.st hN _ _ _) rfl rfl jc fT l5 l6 (fun P w h=>fX P w h.1) (fun P w h=>kC P w h.1)).mono ?_
   intro e w' hw
   exact R3 jd mh hw
  rw[if_neg q3] at hv hf
  by_cases q4:(k==⟨#[111,112,116,105,111,110,97,108]⟩)=true
  ·rw[if_pos q4] at hv hf
   obtain rfl:=zC hv
   obtain rfl:=zC hf
   obtain ⟨jd,⟨vf,vo,vm,ve,vr,vg,cm,ce,aZ⟩,mh⟩:=h
   have qC:=mh
   obtain ⟨⟨l1,l2,l3,l4,l5,l6⟩,fT,hn,ju⟩:=qC
   have jc:=bP aZ.rd.grown (by rw[hk];decide)
   refine ⟨_,_,_,rfl,xO w,?_⟩
   refine (KY (pm:=pv+1) (pr:=pv) (bt:=72) (r:=db 2 s) (sl:=⟨70,6,vf,x.fs.length,gX x.fs⟩) (N1:=fun a x _ _=>x=a.val) aZ (rI.st hN _ _ _) (fun _ _=>fun _ _ _ _ _ h=>h) rfl (pH rfl rfl) (by simp only;omega) (fun P w hw c hc=>by
    simp only[List.mem_cons,List.not_mem_nil,or_false] at hc
    rcases hc with rfl|rfl
    ·exact kC P w hw.1
    ·exact fX P w hw.1) (fun w' kR=>(px 2 kR.ev kR.rd fT (by omega) jc).mono fun e w2 h2=>h2.cr)).mono ?_
   intro e w' hw
   exact vG jd mh (.inl jc) (fun d s' hr=>kE hr) hw
  rw[if_neg q4] at hv hf
  by_cases q5:(k==⟨#[114,101,112,101,97,116,101,100]⟩)=true
  ·rw[if_pos q5] at hv hf
   obtain rfl:=zC hv
   obtain rfl:=zC hf
   obtain ⟨jd,⟨vf,vo,vm,ve,vr,vg,cm,ce,aZ⟩,mh⟩:=h
   have qC:=mh
   obtain ⟨⟨l1,l2,l3,l4,l5,l6⟩,fT,hn,ju⟩:=qC
   have jc:=bP aZ.rd.grown (by rw[hk];decide)
   refine ⟨_,_,_,rfl,xN w,?_⟩
   refine (KX (pm:=pv+1) (pr:=pv) (bt:=72) (r:=db 3 s) (sl:=⟨70,6,vf,x.fs.length,gX x.fs⟩) (N1:=fun a x _ _=>x=a.val) aZ (rI.st hN _ _ _) (fun _ _=>fun _ _ _ _ _ h=>h) rfl (pH rfl rfl) (by simp only;omega) (fun P w hw c hc=>by
    simp only[List.mem_cons,List.not_mem_nil,or_false] at hc
    rcases hc with rfl|rfl
    ·exact kC P w hw.1
    ·exact fX P w hw.1) (fun w' kR=>(px 3 kR.ev kR.rd fT (by omega) jc).mono fun e w2 h2=>h2.cr)).mono ?_
   intro e w' hw
   exact vG jd mh (.inl jc) (fun d s' hr=>kE hr) hw
  rw[if_neg q5] at hv hf
  by_cases q6:(k==⟨#[109,97,112]⟩)=true
  ·rw[if_pos q6] at hv hf
   obtain rfl:=zC hv
   obtain rfl:=zC hf
   obtain ⟨jd,⟨vf,vo,vm,ve,vr,vg,cm,ce,aZ⟩,mh⟩:=h
   have qC:=mh
   obtain ⟨⟨l1,l2,l3,l4,l5,l6⟩,fT,hn,ju⟩:=qC
   have jc:=bP aZ.rd.grown (by rw[hk];decide)
   refine ⟨_,_,_,rfl,xM w,?_⟩
   refine (KV (pm:=pv+1) (pr:=pv) (bt:=72) (r:=cx s) (sl:=⟨70,6,vf,x.fs.length,gX x.fs⟩) (N1:=fun a x _ _=>x=a.val) aZ (rI.st hN _ _ _) (fun _ _=>fun _ _ _ _ _ h=>h) rfl (pH rfl rfl) (by simp only;omega) (fun P w hw c hc=>by
    simp only[List.mem_cons,List.not_mem_nil,or_false] at hc
    rcases hc with rfl|rfl
    ·exact kC P w hw.1
    ·exact fX P w hw.1) (fun w' kR=>(vK kR.ev kR.rd fT (by omega) jc).mono fun e w2 h2=>h2.cr)).mono ?_
   intro e w' hw
   exact vG jd mh (.inl jc) (fun d s' hr=>LU hr) hw
  rw[if_neg q6] at hv hf
  by_cases q7:(k==⟨#[111,112,116,105,111,110]⟩)=true
  ·rw[if_pos q7] at hv hf
   obtain rfl:=zC hv
   obtain rfl:=zC hf
   exact cV h.rd (fun w' hg=>h.er hg)
  rw[if_neg q7] at hv hf
  by_cases q8:(k==⟨#[101,120,116,101,110,100]⟩)=true
  ·rw[if_pos q8] at hv hf
   obtain rfl:=zC hv
   obtain rfl:=zC hf
   exact cV h.rd (fun w' hg=>h.er hg)
  rw[if_neg q8] at hv hf
  by_cases q9:(k==⟨#[101,120,116,101,110,115,105,111,110,115]⟩)=true
  ·rw[if_pos q9] at hv hf
   obtain rfl:=zC hv
   obtain rfl:=zC hf
   exact cV h.rd (fun w' hg=>h.er hg)
  rw[if_neg q9] at hv hf
  by_cases Dc:(k==⟨#[103,114,111,117,112]⟩)=true
  ·rw[if_pos Dc] at hv hf
   obtain rfl:=zC hv
   obtain rfl:=zC hf
   exact cV h.rd (fun w' hg=>h.er hg)
  rw[if_neg Dc] at hv hf
  by_cases Nw:(k==⟨#[114,101,113,117,105,114,101,100]⟩)=true
  ·rw[if_pos Nw] at hv hf
   obtain rfl:=zC hv
   obtain rfl:=zC hf
   exact cV h.rd (fun w' hg=>h.er hg)
  rw[if_neg Nw] at hv hf
  cases hv
 ·obtain ⟨jd,⟨vf,vo,vm,ve,vr,vg,cm,ce,aZ⟩,hk⟩:=h
  have mh:=hk
  obtain ⟨⟨l1,l2,l3,l4,l5,l6⟩,fT,hn,ju⟩:=hk
  refine ⟨_,_,_,rfl,xL w,?_⟩
  refine (KO (pr:=p1) (bt:=72) (r:=gg 0 s) (sl:=⟨70,6,vf,x.fs.length,gX x.fs⟩) (N1:=fun a x _ _=>x=a.val) aZ (rI.st hN _ _ _) (fun _ _=>fun _ _ _ _ _ h=>h) rfl (pH rfl rfl) (by simp only;omega) (fun P w hw c hc=>?_) (fun w' kR=>(qo 0 kR.ev kR.rd fT (by omega)).mono fun e w2 h2=>h2.cr)).mono ?_
  ·simp only[List.mem_cons,List.not_mem_nil,or_false] at hc
   subst hc
   exact qa P w hw.1
  ·intro e w' hw
   exact vG jd mh (.inr (fun d s' hr=>(lq hr).2 aZ.rd.grown)) (fun d s' hr=>(lq hr).1) hw
end Go.Proofs.YtmlphohdcejniaaGreatDoor

import Derived.Test.YtmlphohdcejniaaGreatDoorM25
set_option maxHeartbeats 4000000
set_option maxRecDepth 100000
namespace Go.Proofs.YtmlphohdcejniaaGreatDoor
open Go.RowKit
attribute [local go_sem ↓] Go.wp_at_zero Go.wp_at_succ
section
variable {lo b g K op : Nat} {nm : ByteArray} {N : (Nat → Prop) → World → Prop} {V W w0 : World} {x : Mp} {s : aD}
theorem JB (h:mx lo b g K op nm N V W x s w0) (hN:aK N) (hK:K≤16384) (hp:0<s.ts.length):Calls Tryz.prog 154 #[.pointer (some ⟨b,0,none⟩),.pointer (some ⟨g,0,none⟩)] w0 (IP (mx lo b g K op nm N V W) (Sv g b W) (iC x s)):=by
 have bJ:Below w0.heap.size w0 ((w0.alloc (.cells #[.pointer (some ⟨b,0,none⟩)] 107)).alloc (.cells #[.pointer (some ⟨g,0,none⟩)] 167)):=((zE _ _).alloc (zD _) _).alloc (by rw[zJ];omega) _
 have oq:((w0.alloc (.cells #[.pointer (some ⟨b,0,none⟩)] 107)).alloc (.cells #[.pointer (some ⟨g,0,none⟩)] 167)).heap[w0.heap.size]?=some (.cells #[.pointer (some ⟨b,0,none⟩)] 107 (0,0)):=(Below.heap_alloc _ _ _ (by rw[zJ];omega)).trans (aC _ _)
 have fO:((w0.alloc (.cells #[.pointer (some ⟨b,0,none⟩)] 107)).alloc (.cells #[.pointer (some ⟨g,0,none⟩)] 167)).heap[w0.heap.size+1]?=some (.cells #[.pointer (some ⟨g,0,none⟩)] 167 (0,0)):=by
  have:=aC (w0.alloc (.cells #[.pointer (some ⟨b,0,none⟩)] 107)) (.cells #[.pointer (some ⟨g,0,none⟩)] 167)
  rw[zJ] at this
  exact this
 have hS:aK (fun P w=>aP w0.heap.size #[.pointer (some ⟨b,0,none⟩)] 107 P w∧aP (w0.heap.size+1) #[.pointer (some ⟨g,0,none⟩)] 167 P w):=(bp _ _ _).and (bp _ _ _)
 have hj:=h.join hN hS bJ ⟨⟨oq,zD _⟩,⟨fO,by omega⟩⟩
 have HS:=aj (hN.and hS)
 have HI:=aj hj
 have c0:((w0.alloc (.cells #[.pointer (some ⟨b,0,none⟩)] 107)).alloc (.cells #[.pointer (some ⟨g,0,none⟩)] 167)).cell? ⟨w0.heap.size,0,none⟩=some (.pointer (some ⟨b,0,none⟩)):=by rw[cell_of_row _ _ _ _ _ _ oq];rfl
 have gE:∀s' w',mx lo b g K op nm (fun P w=>N P w∧(aP w0.heap.size #[.pointer (some ⟨b,0,none⟩)] 107 P w∧aP (w0.heap.size+1) #[.pointer (some ⟨g,0,none⟩)] 167 P w)) V W x s' w'→w'.cell? ⟨w0.heap.size,0,none⟩=some (.pointer (some ⟨b,0,none⟩)):=by
  rintro s' w' ⟨_,⟨vf,vo,vm,ve,vr,vg,cm,ce,aZ⟩,_⟩
  rw[cell_of_row _ _ _ _ _ _ aZ.nx.1.2.1.1];rfl
 have HCl:=aj gE
 have HC:=aj (fD hj.rd)
 have HK:=aj hK
 clear h hN hS bJ oq fO hj gE hK
 refine calls_of_wp Tryz.func154 Mb ?_
 obtain ⟨tl,oX⟩:∃t,yV=t:=⟨_,rfl⟩
 rw[oX]
 obtain ⟨Q,hQ⟩:∃Q,bodyPost Tryz.prog Tryz.f154 (IP (mx lo b g K op nm N V W) (Sv g b W) (iC x s))=Q:=⟨_,rfl⟩
 rw[hQ]
 unfold Mc
 dsimp only[Tryz.f154]
 simp only[List.size_toArray,List.length_cons,List.length_nil,Nat.reduceAdd,Nat.reduceSub,Array.replicate_succ,Array.replicate_zero,List.push_toArray,List.append_toArray,List.nil_append,List.cons_append]
 go_wp2_with fail
 refine (aa HC).mono ?_
 rintro e w1 ⟨rfl,h1,kV⟩
 have qU:=aj ((aa HI).step (s':=s.begun) (aa HS) h1 kV ⟨0,rfl,rfl,rfl⟩)
 have c1:=aa HCl _ _ (aa qU)
 have HN:=aj (dr h1 hp)
 clear h1 kV HC c0 HI
 go_wp2_with fail
 refine (aa HN).mono ?_
 intro e w2 hw
 rcases hw.split with ⟨y,hr,rfl,hg⟩|⟨_,s1,hr,rfl,h2,hg⟩
 ·show Q (Exit.panic _) _ _
  rw[←hQ]
  refine ⟨rfl,?_⟩
  unfold iC
  rw[hr]
  exact ⟨rfl,(aa qU).er hg⟩
 ·have oO:=aj ((aa qU).step (aa HS) h2 hg (dx hr).jA)
  have HF:Hid (iC x s=match cy s1 with|.error e=>.error e|.ok (a,s2)=>iX x.fs.length { x with os:=x.os++[a] } s2):=by
   show _=_
   unfold iC
   rw[hr]
   simp only
   all_goals (cases cy s1<;>rfl)
  clear hw hr h2 hg HN qU c1
  go_wp2
  rw[←oX,←hQ]
  refine Mg (p2:=w0.heap.size) (p3:=w0.heap.size+1) (aa oO) (aa HS) (aa HK) (fun P w h=>h.2.1) (fun P w h=>h.2.2) rfl ⟨rfl,rfl,trivial⟩ ?_
  intro e w3 QT
  rw[aa HF]
  exact QT.imp (fun x s h=>h.imp (fun P w h=>h.1))
theorem MJ {pm pr:Nat} (h:mx lo b g K op nm N V W x s w0) (hN:aK N) (hK:K≤16384) (ri:∀P w,N P w→aP pr #[.pointer (some ⟨b,0,none⟩)] 107 P w) (gJ:∀P w,N P w→aP pm #[.pointer (some ⟨g,0,none⟩)] 167 P w) (hp:0<s.ts.length):Calls Tryz.prog 153 #[.pointer (some ⟨pr,0,none⟩),.pointer (some ⟨pm,0,none⟩)] w0 (IP (mx lo b g K op nm N V W) (Sv g b W) (iC x s)):=by
 have HC:=aj (JB h hN hK hp)
 obtain ⟨_,⟨vf,vo,vm,ve,vr,vg,cm,ce,aZ⟩,_⟩:=h
 have c1:w0.cell? ⟨pr,0,none⟩=some (.pointer (some ⟨b,0,none⟩)):=by rw[cell_of_row _ _ _ _ _ _ (ri _ _ aZ.nx.1).1];rfl
 have c2:w0.cell? ⟨pm,0,none⟩=some (.pointer (some ⟨g,0,none⟩)):=by rw[cell_of_row _ _ _ _ _ _ (gJ _ _ aZ.nx.1).1];rfl
 clear aZ hN ri gJ
 go_enter Tryz.func153,Tryz.ntmps153
 go_wp2_with fail
 refine (aa HC).mono ?_
 intro e w1 hw
 have HW:=aj hw
 rcases hw.split with ⟨y,hr,rfl,he⟩|⟨x',s',hr,rfl,hi⟩
 ·exact ⟨rfl,aa HW⟩
 ·clear hr hi hw HC c1 c2
  go_wp2
  go_end0
  exact aa HW
end
theorem TU {lo b g K op p1 pv:Nat}{nm:ByteArray}{N:(Nat→Prop)→World→Prop}{V W:World}{mf:aD→Except (Int×Int) (Ms×aD)} (hN:aK N) (hK:K≤16384) (ri:∀P w,N P w→aP p1 #[.pointer (some ⟨b,0,none⟩)] 107 P w) (gJ:∀P w,N P w→aP pv #[.pointer (some ⟨b,0,none⟩)] 107 P w) (lr:∀P w,N P w→aP (pv+1) #[.pointer (some ⟨g,0,none⟩)] 167 P w) (hm:∀P w,N P w→ij (pv+2) (jk pv b) P w)
  (Ig:∀s m s',mf s=.ok (m,s')→Gt s s') (YI:∀lo b V W s,Env V W b→Rd lo W b s→Sm s→s.ts.length≤K→0<s.ts.length→Calls Tryz.prog 101 #[.pointer (some ⟨b,0,none⟩)] W (CR lo b NM W (mf s))) :
  Ez (mx lo b g K op nm N V W) (Sv g b W) lo b (pv+2) (jk pv b) (.func (.func 125) #[] #[.pointer (some ⟨g,0,none⟩),.pointer (some ⟨p1,0,none⟩)]) (Bw mf) Qw:=by
 refine ⟨fun x s w h=>h.rd,fun x s w s' w' h hr hg hs=>h.step hN hr hg hs,fun x s w w' h hg=>h.er hg,fun x s w h=>?_,fun k=>?_,fun k v f hv hf x s w h hk ht=>?_,fun x s w h=>?_⟩
 ·obtain ⟨_,⟨vf,vo,vm,ve,vr,vg,cm,ce,aZ⟩,_⟩:=h
  exact ⟨_,hm _ _ aZ.nx.1⟩
 ·unfold jk Bw
  simp only[jt]
  by_cases q0:(k==⟨#[109,101,115,115,97,103,101]⟩)=true
  ·exact .inr ⟨_,_,_,_,by rw[if_pos q0],by rw[if_pos q0]⟩
  rw[if_neg q0,if_neg q0]
  by_cases q1:(k==⟨#[101,110,117,109]⟩)=true
  ·exact .inr ⟨_,_,_,_,by rw[if_pos q1],by rw[if_pos q1]⟩
  rw[if_neg q1,if_neg q1]
  by_cases q2:(k==⟨#[111,110,101,111,102]⟩)=true
  ·exact .inr ⟨_,_,_,_,by rw[if_pos q2],by rw[if_pos q2]⟩
  rw[if_neg q2,if_neg q2]
  by_cases q3:(k==⟨#[114,101,115,101,114,118,101,100]⟩)=true
  ·exact .inr ⟨_,_,_,_,by rw[if_pos q3],by rw[if_pos q3]⟩
  rw[if_neg q3,if_neg q3]
  by_cases q4:(k==⟨#[111,112,116,105,111,110,97,108]⟩)=true
  ·exact .inr ⟨_,_,_,_,by rw[if_pos q4],by rw[if_pos q4]⟩
  rw[if_neg q4,if_neg q4]
  by_cases q5:(k==⟨#[114,101,112,101,97,116,101,100]⟩)=true
  ·exact .inr ⟨_,_,_,_,by rw[if_pos q5],by rw[if_pos q5]⟩
  rw[if_neg q5,if_neg q5]
  by_cases q6:(k==⟨#[109,97,112]⟩)=true
  ·exact .inr ⟨_,_,_,_,by rw[if_pos q6],by rw[if_pos q6]⟩
  rw[if_neg q6,if_neg q6]
  by_cases q7:(k==⟨#[111,112,116,105,111,110]⟩)=true
  ·exact .inr ⟨_,_,_,_,by rw[if_pos q7],by rw[if_pos q7]⟩
  rw[if_neg q7,if_neg q7]
  by_cases q8:(k==⟨#[101,120,116,101,110,100]⟩)=true
  ·exact .inr ⟨_,_,_,_,by rw[if_pos q8],by rw[if_pos q8]⟩
  rw[if_neg q8,if_neg q8]
  by_cases q9:(k==⟨#[101,120,116,101,110,115,105,111,110,115]⟩)=true
  ·exact .inr ⟨_,_,_,_,by rw[if_pos q9],by rw[if_pos q9]⟩
  rw[if_neg q9,if_neg q9]
  by_cases Cv:(k==⟨#[103,114,111,117,112]⟩)=true
  ·exact .inr ⟨_,_,_,_,by rw[if_pos Cv],by rw[if_pos Cv]⟩
  rw[if_neg Cv,if_neg Cv]
  by_cases LY:(k==⟨#[114,101,113,117,105,114,101,100]⟩)=true
  ·exact .inr ⟨_,_,_,_,by rw[if_pos LY],by rw[if_pos LY]⟩
  rw[if_neg LY,if_neg LY]
  exact .inl ⟨rfl,rfl⟩
 ·unfold jk at hv
  unfold Bw at hf
  simp only[jt] at hv
  by_cases q0:(k==⟨#[109,101,115,115,97,103,101]⟩)=true
  ·rw[if_pos q0] at hv hf
   obtain rfl:=zC hv
   obtain rfl:=zC hf
   obtain ⟨jC,⟨vf,vo,vm,ve,vr,vg,cm,ce,aZ⟩,lM⟩:=h
   have rU:=lM
   obtain ⟨⟨l1,l2,l3,l4,l5,l6⟩,gD,hn,jS⟩:=rU
   have iE:=bS aZ.rd.grown (by rw[hk];decide)
   refine ⟨_,_,_,rfl,zp w,?_⟩
   refine (VJ (pm:=pv+1) (pr:=pv) (r:=mf s) (sl:=⟨64,7,vm,x.ms.length,cm⟩) aZ (sY.st hN _ _ _) rfl (D7 g rfl rfl) (by simp only;omega) (fun P w hw c hc=>by
    simp only[List.mem_cons,List.not_mem_nil,or_false] at hc
    rcases hc with rfl|rfl
    ·exact lr P w hw.1
    ·exact gJ P w hw.1) (fun w' s2 M _ ll e=>by
    subst e
    exact (YI lo b V w' s2 ll.ev ll.rd gD (by omega) iE).mono fun e w3 h3=>h3.XR (by have:=ll.bx.lt;omega))).mono ?_
   intro e w' hw
   exact TW jC lM iE (fun d s' hr=>Ig _ _ _ hr) hw
  rw[if_neg q0] at hv hf
  by_cases q1:(k==⟨#[101,110,117,109]⟩)=true
  ·rw[if_pos q1] at hv hf
   obtain rfl:=zC hv
   obtain rfl:=zC hf
   obtain ⟨jC,⟨vf,vo,vm,ve,vr,vg,cm,ce,aZ⟩,lM⟩:=h
   have rU:=lM
   obtain ⟨⟨l1,l2,l3,l4,l5,l6⟩,gD,hn,jS⟩:=rU
   have iE:=bS aZ.rd.grown (by rw[hk];decide)
   refine ⟨_,_,_,rfl,zo w,?_⟩
   refine (MK (pm:=pv+1) (pr:=pv) (bt:=88) (r:=iH s) (sl:=⟨68,4,ve,x.es.length,ce⟩) (N1:=VQ g) aZ (sY.st hN _ _ _) (wT g) rfl (AA g rfl rfl) (by simp only;omega) (fun P w hw c hc=>by
    simp only[List.mem_cons,List.not_mem_nil,or_false] at hc
    rcases hc with rfl|rfl
    ·exact lr P w hw.1
    ·exact gJ P w hw.1) (fun w' ll=>(Ec ll.ev ll.rd gD (by omega) iE).mono fun e w3 h3=>h3.S4 (by have:=ll.bx.lt;omega))).mono ?_
   intro e w' hw
   exact Qu jC lM iE (fun d s' hr=>vJ hr) hw
  rw[if_neg q1] at hv hf
  by_cases q2:(k==⟨#[111,110,101,111,102]⟩)=true
  ·rw[if_pos q2] at hv hf
   obtain rfl:=zC hv
   obtain rfl:=zC hf
   exact ⟨_,_,_,rfl,zn w,MJ h hN hK gJ lr (bS h.rd.grown (by rw[hk];decide))⟩
  rw[if_neg q2] at hv hf
  by_cases q3:(k==⟨#[114,101,115,101,114,118,101,100]⟩)=true
  ·rw[if_pos q3] at hv hf
   obtain rfl:=zC hv
   obtain rfl:=zC hf
   obtain ⟨jC,⟨vf,vo,vm,ve,vr,vg,cm,ce,aZ⟩,lM⟩:=h
   have rU:=lM
   obtain ⟨⟨l1,l2,l3,l4,l5,l6⟩,gD,hn,jS⟩:=rU
   have iE:=bS aZ.rd.grown (by rw[hk];decide)
   refine ⟨_,_,_,rfl,zm w,?_⟩
   refine (MI (pm:=pv+1) (pr:=pv) (rs:=x.rs) (gs:=x.gs) (vr:=vr) (vg:=vg) aZ (sY.st hN _ _ _) rfl rfl iE gD l5 l6 (fun P w h=>gJ P w h.1) (fun P w h=>lr P w h.1)).mono ?_
   intro e w' hw
   exact TV jC lM hw
  rw[if_neg q3] at hv hf
  by_cases q4:(k==⟨#[111,112,116,105,111,110,97,108]⟩)=true
  ·rw[if_pos q4] at hv hf
   obtain rfl:=zC hv
   obtain rfl:=zC hf
   obtain ⟨jC,⟨vf,vo,vm,ve,vr,vg,cm,ce,aZ⟩,lM⟩:=h
   have rU:=lM
   obtain ⟨⟨l1,l2,l3,l4,l5,l6⟩,gD,hn,jS⟩:=rU
   have iE:=bS aZ.rd.grown (by rw[hk];decide)
   refine ⟨_,_,_,rfl,zl w,?_⟩
   refine (MH (pm:=pv+1) (pr:=pv) (bt:=72) (r:=dh 2 s) (sl:=⟨70,6,vf,x.fs.length,iF x.fs⟩) (N1:=fun a x _ _=>x=a.val) aZ (sY.st hN _ _ _) (fun _ _=>fun _ _ _ _ _ h=>h) rfl (qF rfl rfl) (by simp only;omega) (fun P w hw c hc=>by
    simp only[List.mem_cons,List.not_mem_nil,or_false] at hc
    rcases hc with rfl|rfl
    ·exact lr P w hw.1
    ·exact gJ P w hw.1) (fun w' ll=>(qu 2 ll.ev ll.rd gD (by omega) iE).mono fun e w2 h2=>h2.cr)).mono ?_
   intro e w' hw
   exact xp jC lM (.inl iE) (fun d s' hr=>lv hr) hw
  rw[if_neg q4] at hv hf
  by_cases q5:(k==⟨#[114,101,112,101,97,116,101,100]⟩)=true
  ·rw[if_pos q5] at hv hf
   obtain rfl:=zC hv
   obtain rfl:=zC hf
   obtain ⟨jC,⟨vf,vo,vm,ve,vr,vg,cm,ce,aZ⟩,lM⟩:=h
   have rU:=lM
   obtain ⟨⟨l1,l2,l3,l4,l5,l6⟩,gD,hn,jS⟩:=rU
   have iE:=bS aZ.rd.grown (by rw[hk];decide)
   refine ⟨_,_,_,rfl,zk w,?_⟩
   refine (MG (pm:=pv+1) (pr:=pv) (bt:=72) (r:=dh 3 s) (sl:=⟨70,6,vf,x.fs.length,iF x.fs⟩) (N1:=fun a x _ _=>x=a.val) aZ (sY.st hN _ _ _) (fun _ _=>fun _ _ _ _ _ h=>h) rfl (qF rfl rfl) (by simp only;omega) (fun P w hw c hc=>by
    simp only[List.mem_cons,List.not_mem_nil,or_false] at hc
    rcases hc with rfl|rfl
    ·exact lr P w hw.1
    ·exact gJ P w hw.1) (fun w' ll=>(qu 3 ll.ev ll.rd gD (by omega) iE).mono fun e w2 h2=>h2.cr)).mono ?_
   intro e w' hw
   exact xp jC lM (.inl iE) (fun d s' hr=>lv hr) hw
  rw[if_neg q5] at hv hf
  by_cases q6:(k==⟨#[109,97,112]⟩)=true
  ·rw[if_pos q6] at hv hf
   obtain rfl:=zC hv
   obtain rfl:=zC hf
   obtain ⟨jC,⟨vf,vo,vm,ve,vr,vg,cm,ce,aZ⟩,lM⟩:=h
   have rU:=lM
   obtain ⟨⟨l1,l2,l3,l4,l5,l6⟩,gD,hn,jS⟩:=rU
   have iE:=bS aZ.rd.grown (by rw[hk];decide)
   refine ⟨_,_,_,rfl,zj w,?_⟩
   refine (MF (pm:=pv+1) (pr:=pv) (bt:=72) (r:=ca s) (sl:=⟨70,6,vf,x.fs.length,iF x.fs⟩) (N1:=fun a x _ _=>x=a.val) aZ (sY.st hN _ _ _) (fun _ _=>fun _ _ _ _ _ h=>h) rfl (qF rfl rfl) (by simp only;omega) (fun P w hw c hc=>by
    simp only[List.mem_cons,List.not_mem_nil,or_false] at hc
    rcases hc with rfl|rfl
    ·exact lr P w hw.1
    ·exact gJ P w hw.1) (fun w' ll=>(xv ll.ev ll.rd gD (by omega) iE).mono fun e w2 h2=>h2.cr)).mono ?_
   intro e w' hw
   exact xp jC lM (.inl iE) (fun d s' hr=>NC hr) hw
  rw[if_neg q6] at hv hf
  by_cases q7:(k==⟨#[111,112,116,105,111,110]⟩)=true
  ·rw[if_pos q7] at hv hf
   obtain rfl:=zC hv
   obtain rfl:=zC hf
   exact dk h.rd (fun w' hg=>h.er hg)
  rw[if_neg q7] at hv hf
  by_cases q8:(k==⟨#[101,120,116,101,110,100]⟩)=true
  ·rw[if_pos q8] at hv hf
   obtain rfl:=zC hv
   obtain rfl:=zC hf
   exact dk h.rd (fun w' hg=>h.er hg)
  rw[if_neg q8] at hv hf
  by_cases q9:(k==⟨#[101,120,116,101,110,115,105,111,110,115]⟩)=true
  ·rw[if_pos q9] at hv hf
   obtain rfl:=zC hv
   obtain rfl:=zC hf
   exact dk h.rd (fun w' hg=>h.er hg)
  rw[if_neg q9] at hv hf
  by_cases Cv:(k==⟨#[103,114,111,117,112]⟩)=true
  ·rw[if_pos Cv] at hv hf
   obtain rfl:=zC hv
   obtain rfl:=zC hf
   exact dk h.rd (fun w' hg=>h.er hg)
  rw[if_neg Cv] at hv hf
  by_cases LY:(k==⟨#[114,101,113,117,105,114,101,100]⟩)=true
  ·rw[if_pos LY] at hv hf
   obtain rfl:=zC hv
   obtain rfl:=zC hf
   exact dk h.rd (fun w' hg=>h.er hg)
  rw[if_neg LY] at hv hf
  cases hv
 ·obtain ⟨jC,⟨vf,vo,vm,ve,vr,vg,cm,ce,aZ⟩,hk⟩:=h
  have lM:=hk
  obtain ⟨⟨l1,l2,l3,l4,l5,l6⟩,gD,hn,jS⟩:=hk
  refine ⟨_,_,_,rfl,zi w,?_⟩
  refine (Mt (pr:=p1) (bt:=72) (r:=eN 0 s) (sl:=⟨70,6,vf,x.fs.length,iF x.fs⟩) (N1:=fun a x _ _=>x=a.val) aZ (sY.st hN _ _ _) (fun _ _=>fun _ _ _ _ _ h=>h) rfl (qF rfl rfl) (by simp only;omega) (fun P w hw c hc=>?_) (fun w' ll=>(rG 0 ll.ev ll.rd gD (by omega)).mono fun e w2 h2=>h2.cr)).mono ?_
  ·simp only[List.mem_cons,List.not_mem_nil,or_false] at hc
   subst hc
   exact ri P w hw.1
  ·intro e w' hw
   exact xp jC lM (.inr (fun d s' hr=>(mg hr).2 aZ.rd.grown)) (fun d s' hr=>(mg hr).1) hw
end Go.Proofs.YtmlphohdcejniaaGreatDoor

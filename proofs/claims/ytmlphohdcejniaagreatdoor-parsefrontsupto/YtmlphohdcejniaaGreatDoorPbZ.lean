import Derived.Test.YtmlphohdcejniaaGreatDoorM27
set_option maxHeartbeats 4000000
set_option maxRecDepth 100000
namespace Go.Proofs.YtmlphohdcejniaaGreatDoor
open Go.RowKit
attribute [local go_sem ↓] Go.wp_at_zero Go.wp_at_succ
theorem Ap.setName {lo b g T:Nat}{nm nm':ByteArray}{ss:List Slot}{N:(Nat→Prop)→World→Prop}{V W w:World}{s:aD} (h:Ap lo b g T nm ss N V W s w) (hN:aK N):Ap lo b g T nm' ss N V W s (w.setCell ⟨g,0,none⟩ (.string nm')):=by
 obtain ⟨l1,l2,l3,l4⟩:=h.below
 obtain ⟨q1,q2⟩:=aJ (j:=0) h.bx.dJ (.string nm')
 have mO:∀k,k<w.heap.size→k≠g→(w.setCell ⟨g,0,none⟩ (.string nm')).heap[k]?=w.heap[k]?:=fun k h1 h2=>q2.block k h1 (by simpa using h2)
 refine ⟨⟨q1,fun i sl hi=>?_,h.bx.apart⟩,?_,?_,h.lg,?_,?_⟩
 ·have h1:=h.bx.own i sl hi
  refine World.ownsRow.kept h1 q2 (.inr ?_)
  intro e
  have:=(h1.lt g e).1
  omega
 ·exact hN _ _ w _ (fun k hk hl=>⟨hk,mO k hl hk.2.1⟩) h.nx
 ·exact h.rd.Tv ⟨q2.os,q2.tape,q2.output,q2.size,fun k hk=>mO k (by omega) (by omega)⟩
 ·exact h.sv.trans ⟨q2.os,q2.tape,q2.output,q2.size,fun k hk _=>mO k (by omega) (by omega)⟩
 ·have:=h.ev.lo
  exact ⟨h.ev.f,h.ev.e,h.ev.m,h.ev.below.trans ⟨q2.os,q2.tape,q2.output,q2.size,fun k hk=>mO k (by omega) (by omega)⟩,h.ev.lo⟩
theorem sM {s s1:aD}{x:ByteArray} (h:dw s=.ok (x,s1)):Gt s s1:=by
 unfold dw at h
 split at h
 ·cases h
 ·rename_i u s2 h2
  split at h
  ·cases h
  ·split at h
   ·cases h
   ·rename_i y s3 h3
    split at h
    ·cases h
    ·rename_i u4 s4 h4
     simp only[Except.ok.injEq,Prod.mk.injEq] at h
     obtain ⟨_,rfl⟩:=h
     exact ((dx (s:=s.begun) h2).dW (mS h3).1.jA).dW (bR h4)
noncomputable def lT:fQ Fl:=fun x s=>if (x.eI.toList==[])=true then (match bE s with
 |.error e=>.error e
 |.ok (_,s1)=>match cA false s1 with
  |.error e=>.error e
  |.ok (p,s2)=>match aV ⟨#[59]⟩ s2 with
   |.error e=>.error e
   |.ok (_,s3)=>.ok ({ x with eI:=p },s3)) else .error (cH s)
noncomputable def xI:fQ Fl:=fun x s=>match dw s with
 |.error e=>.error e
 |.ok (d,s')=>.ok ({ x with bM:=x.bM++[d] },s')
noncomputable def NP:fQ Fl:=fun x s=>match bw 16384 s with
 |.error e=>.error e
 |.ok (d,s')=>.ok ({ x with ms:=x.ms++[d] },s')
noncomputable def N0:fQ Fl:=fun x s=>match iH s with
 |.error e=>.error e
 |.ok (d,s')=>.ok ({ x with es:=x.es++[d] },s')
def J9:fQ Fl:=fun _ s=>.error (cH s)
noncomputable def Az:ByteArray→Option (fQ Fl):=fun k=>if (k==⟨#[112,97,99,107,97,103,101]⟩)=true then some lT else if (k==⟨#[105,109,112,111,114,116]⟩)=true then some xI else if (k==⟨#[109,101,115,115,97,103,101]⟩)=true then some NP else if (k==⟨#[101,110,117,109]⟩)=true then some N0 else if (k==⟨#[111,112,116,105,111,110]⟩)=true then some dv else if (k==⟨#[115,101,114,118,105,99,101]⟩)=true then some dv else if (k==⟨#[101,120,116,101,110,100]⟩)=true then some dv else none
theorem U7 (x:Fl) (s:aD) (x':Fl) (s':aD) (h:lT x s=.ok (x',s')):Gt s s':=by
 unfold lT at h
 split at h
 ·split at h
  ·cases h
  ·rename_i u s1 h1
   split at h
   ·cases h
   ·rename_i p s2 h2
    split at h
    ·cases h
    ·rename_i u3 s3 h3
     simp only[Except.ok.injEq,Prod.mk.injEq] at h
     obtain ⟨_,rfl⟩:=h
     exact ((dx h1).dW (fR h2)).dW (bR h3)
 ·cases h
theorem Vj (k:ByteArray) (f:fQ Fl) (hf:Az k=some f) (x:Fl) (s:aD) (x':Fl) (s':aD) (h:f x s=.ok (x',s')):Gt s s':=by
 unfold Az at hf
 by_cases q0:(k==⟨#[112,97,99,107,97,103,101]⟩)=true
 ·rw[if_pos q0] at hf
  obtain rfl:=zC hf
  exact U7 _ _ _ _ h
 rw[if_neg q0] at hf
 by_cases q1:(k==⟨#[105,109,112,111,114,116]⟩)=true
 ·rw[if_pos q1] at hf
  obtain rfl:=zC hf
  unfold xI at h
  split at h
  ·cases h
  ·rename_i d s1 h1
   simp only[Except.ok.injEq,Prod.mk.injEq] at h
   obtain ⟨_,rfl⟩:=h
   exact sM h1
 rw[if_neg q1] at hf
 by_cases q2:(k==⟨#[109,101,115,115,97,103,101]⟩)=true
 ·rw[if_pos q2] at hf
  obtain rfl:=zC hf
  unfold NP at h
  split at h
  ·cases h
  ·rename_i d s1 h1
   simp only[Except.ok.injEq,Prod.mk.injEq] at h
   obtain ⟨_,rfl⟩:=h
   exact rK _ _ _ _ h1
 rw[if_neg q2] at hf
 by_cases q3:(k==⟨#[101,110,117,109]⟩)=true
 ·rw[if_pos q3] at hf
  obtain rfl:=zC hf
  unfold N0 at h
  split at h
  ·cases h
  ·rename_i d s1 h1
   simp only[Except.ok.injEq,Prod.mk.injEq] at h
   obtain ⟨_,rfl⟩:=h
   exact vJ h1
 rw[if_neg q3] at hf
 by_cases q4:(k==⟨#[111,112,116,105,111,110]⟩)=true
 ·rw[if_pos q4] at hf
  obtain rfl:=zC hf
  cases h
 rw[if_neg q4] at hf
 by_cases q5:(k==⟨#[115,101,114,118,105,99,101]⟩)=true
 ·rw[if_pos q5] at hf
  obtain rfl:=zC hf
  cases h
 rw[if_neg q5] at hf
 by_cases q6:(k==⟨#[101,120,116,101,110,100]⟩)=true
 ·rw[if_pos q6] at hf
  obtain rfl:=zC hf
  cases h
 rw[if_neg q6] at hf
 cases hf
theorem Vk (x:Fl) (s:aD) (x':Fl) (s':aD) (h:J9 x s=.ok (x',s')):Gt s s'∧(s.en.kind=5→0<s.ts.length):=by cases h
def Pe (x:Fl) (vi vm ve:Value) (cm ce:List Value):List Slot:=[⟨9,1,vi,x.bM.length,bW x.bM⟩,⟨64,7,vm,x.ms.length,cm⟩,⟨68,4,ve,x.es.length,ce⟩]
def GI (g:Nat) (N:(Nat→Prop)→World→Prop) (x:Fl) (cm ce:List Value) (P:Nat→Prop) (w:World):Prop:=N P w∧cU (fun k=>P k∧g≤k) w cm x.ms∧eS (fun k=>P k∧g≤k) w ce x.es
theorem GI.st {g:Nat}{N:(Nat→Prop)→World→Prop} (hN:aK N) (x:Fl) (cm ce:List Value):aK (GI g N x cm ce):=hN.and (aK.and (fun _ _ _ _ hg h=>df _ _ _ _ _ _ (hg.low g) h) (fun _ _ _ _ hg h=>cT _ _ _ _ _ _ (hg.low g) h))
def A0 (lo b g:Nat) (N:(Nat→Prop)→World→Prop) (V W:World) (x:Fl) (s:aD) (w:World):Prop:=(∃vi vm ve cm ce,Ap lo b g 26 x.eI (Pe x vi vm ve cm ce) (GI g N x cm ce) V W s w)∧(x.bM.length+s.ts.length≤20000∧x.ms.length+s.ts.length≤20000∧x.es.length+s.ts.length≤20000)∧Sm s∧s.ts.length≤16384
theorem A0.step {lo b g:Nat}{N:(Nat→Prop)→World→Prop}{V W w w':World}{x:Fl}{s s':aD} (h:A0 lo b g N V W x s w) (hN:aK N) (hr:Rd lo w' b s') (hg:w.grownBy w' (some b)) (hs:lL s s'):A0 lo b g N V W x s' w':=by
 obtain ⟨⟨vi,vm,ve,cm,ce,aZ⟩,⟨l1,l2,l3⟩,gD,hn⟩:=h
 have:=hs.len
 exact ⟨⟨vi,vm,ve,cm,ce,aZ.read (GI.st hN _ _ _) hr hg⟩,⟨by omega,by omega,by omega⟩,hs.sm gD,by omega⟩
theorem A0.er {lo b g:Nat}{N:(Nat→Prop)→World→Prop}{V W w w':World}{x:Fl}{s:aD} (h:A0 lo b g N V W x s w) (hg:w.grownBy w' (some b)):Sv g b W w':=by
 obtain ⟨⟨vi,vm,ve,cm,ce,aZ⟩,_⟩:=h
 exact aZ.sv.trans (Sv.of hg (by have:=aZ.bx.lt;omega))
theorem A0.rd {lo b g:Nat}{N:(Nat→Prop)→World→Prop}{V W w:World}{x:Fl}{s:aD} (h:A0 lo b g N V W x s w):Rd lo w b s:=by
 obtain ⟨⟨vi,vm,ve,cm,ce,aZ⟩,_⟩:=h
 exact aZ.rd
section
variable {lo b g : Nat} {N : (Nat → Prop) → World → Prop} {V W w : World} {x : Fl} {s : aD} {vi vm ve : Value} {cm ce : List Value} {e : Ending}
theorem Vi (hl:x.bM.length+s.ts.length≤20000∧x.ms.length+s.ts.length≤20000∧x.es.length+s.ts.length≤20000) (gD:Sm s) (hn:s.ts.length≤16384) (hp:0<s.ts.length) (h:CP lo b g 26 x.eI (Pe x vi vm ve cm ce) (GI g N x cm ce) V W 0 ⟨9,1,vi,x.bM.length,bW x.bM⟩ (dw s) (fun a x _ _=>x=Value.string a) e w):IP (A0 lo b g N V W) (Sv g b W) (xI x s) e w:=by
 unfold xI
 rcases CP.plain wN h with ⟨y,hr,rfl,hs⟩|⟨a,s',y,hr,rfl,h2⟩
 ·rw[hr]
  exact ⟨rfl,hs⟩
 ·have h3:=sM hr
  have h4:=h3.lt hp
  rw[hr]
  exact ⟨rfl,⟨y,vm,ve,cm,ce,h2⟩,⟨by simp only[zK,List.length_singleton];omega,by simp only;omega,by simp only;omega⟩,h3.jA.sm gD,by omega⟩
theorem Rk (hl:x.bM.length+s.ts.length≤20000∧x.ms.length+s.ts.length≤20000∧x.es.length+s.ts.length≤20000) (gD:Sm s) (hn:s.ts.length≤16384) (hp:0<s.ts.length) (h:CP lo b g 26 x.eI (Pe x vi vm ve cm ce) (GI g N x cm ce) V W 2 ⟨68,4,ve,x.es.length,ce⟩ (iH s) (VQ g) e w):IP (A0 lo b g N V W) (Sv g b W) (N0 x s) e w:=by
 unfold CP at h
 unfold N0
 cases hr:iH s with
 |error y =>
  rw[hr] at h
  exact h
 |ok z =>
  rw[hr] at h
  obtain ⟨he,v,y,aZ⟩:=h
  have h3:=vJ hr
  have h4:=h3.lt hp
  refine ⟨he,⟨vi,vm,y,cm,ce++v.cells.toList,?_⟩,⟨by simp only;omega,by simp only;omega,by simp only[zK,List.length_singleton];omega⟩,h3.jA.sm gD,by omega⟩
  have h5:=aZ.imp (N':=GI g N { x with es:=x.es++[z.1] } cm (ce++v.cells.toList)) (fun hh=>by
   obtain ⟨⟨q1,q2,q3⟩,cs,e1,q4⟩:=hh
   have e2:cs.toList=v.cells.toList:=by rw[e1];rfl
   have h9:=q3.app q4
   rw[e2] at h9
   exact ⟨q1,q2,h9⟩)
  unfold Pe
  simp only[zK,List.length_singleton]
  exact h5
theorem Vh (hl:x.bM.length+s.ts.length≤20000∧x.ms.length+s.ts.length≤20000∧x.es.length+s.ts.length≤20000) (gD:Sm s) (hn:s.ts.length≤16384) (hp:0<s.ts.length) (h:CP lo b g 26 x.eI (Pe x vi vm ve cm ce) (GI g N x cm ce) V W 1 ⟨64,7,vm,x.ms.length,cm⟩ (bw 16384 s) (nk g) e w):IP (A0 lo b g N V W) (Sv g b W) (NP x s) e w:=by
 unfold CP at h
 unfold NP
 cases hr:bw 16384 s with
 |error y =>
  rw[hr] at h
  exact h
 |ok z =>
  rw[hr] at h
  obtain ⟨he,v,y,aZ⟩:=h
  have h3:=rK _ _ _ _ hr
  have h4:=h3.lt hp
  refine ⟨he,⟨vi,y,ve,cm++v.cells.toList,ce,?_⟩,⟨by simp only;omega,by simp only[zK,List.length_singleton];omega,by simp only;omega⟩,h3.jA.sm gD,by omega⟩
  have h5:=aZ.imp (N':=GI g N { x with ms:=x.ms++[z.1] } (cm++v.cells.toList) ce) (fun hh=>by
   obtain ⟨⟨q1,q2,q3⟩,cs,e1,q4⟩:=hh
   have e2:cs.toList=v.cells.toList:=by rw[e1];rfl
   have h9:=q2.app q4
   rw[e2] at h9
   exact ⟨q1,h9,q3⟩)
  unfold Pe
  simp only[zK,List.length_singleton]
  exact h5
theorem Dh (h:A0 lo b g N V W x s w) (hN:aK N) (hp:0<s.ts.length):Calls Tryz.prog 97 #[.pointer (some ⟨b,0,none⟩),.pointer (some ⟨g,0,none⟩)] w (IP (A0 lo b g N V W) (Sv g b W) (lT x s)):=by
 have HI:=aj h
 obtain ⟨⟨vi,vm,ve,cm,ce,aZ⟩,⟨l1,l2,l3⟩,gD,hn⟩:=h
 have b0:w.cell? ⟨g,0,none⟩=some (.string x.eI):=by rw[cell_of_row _ _ _ _ _ _ aZ.bx.dJ];rfl
 have HN:=aj (GI.st (g:=g) hN x cm ce)
 have HN0:=aj hN
 have HA:=aj aZ
 have pV:=aj gD
 have Hn:=aj hn
 have Hl:=aj (show x.bM.length+s.ts.length≤20000∧x.ms.length+s.ts.length≤20000∧x.es.length+s.ts.length≤20000 from ⟨l1,l2,l3⟩)
 have HC:=aj (dr aZ.rd hp)
 have HW:=aj (iM aZ.rd)
 obtain ⟨pk,Ie⟩:∃pk,x.eI=pk:=⟨_,rfl⟩
 have Hpk:=aj Ie
 rw[Ie] at b0
 clear aZ hN gD hn l1 l2 l3 Ie
 cases hz:(pk.toList==[]) with
 |false =>
  have pQ:(pk.toList != [])=true:=by unfold bne;rw[hz];rfl
  have HF:Hid (lT x s=.error (cH s)):=by show _=_;unfold lT;rw[if_neg (by rw[aa Hpk,hz];simp)]
  go_enter Tryz.func97,Tryz.ntmps97
  go_wp2_with fail
  refine (aa HW).mono ?_
  rintro e w1 ⟨rfl,hb⟩
  refine ⟨rfl,?_⟩
  rw[aa HF]
  exact ⟨rfl,(aa HI).er (aA b hb)⟩
 |true =>
  have pQ:(pk.toList != [])=false:=by unfold bne;rw[hz];rfl
  have HF:Hid (lT x s=match bE s with|.error e=>.error e|.ok (_,s1)=>match cA false s1 with|.error e=>.error e|.ok (p,s2)=>match aV ⟨#[59]⟩ s2 with|.error e=>.error e|.ok (_,s3)=>.ok ({ x with eI:=p },s3)):=by
   show _=_
   unfold lT
   rw[if_pos (by rw[aa Hpk,hz])]
  go_enter Tryz.func97,Tryz.ntmps97
  go_wp2_with fail
  refine (aa HC).mono ?_
  intro e w1 hw
  rcases hw.split with ⟨y,hr,rfl,hg⟩|⟨_,s1,hr,rfl,h1,hg⟩
  ·refine ⟨rfl,?_⟩
   rw[aa HF,hr]
   exact ⟨rfl,(aa HI).er hg⟩
  ·have Ig:=dx hr
   have cw:=Ig.lt hp
   have HD:=aj (mT false h1 (Ig.jA.sm (aa pV)) (by have:=aa Hn;omega))
   have yI:=aj ((aa HA).read (aa HN) h1 hg)
   have qV:Hid (lT x s=match cA false s1 with|.error e=>.error e|.ok (p,s2)=>match aV ⟨#[59]⟩ s2 with|.error e=>.error e|.ok (_,s3)=>.ok ({ x with eI:=p },s3)):=by show _=_;rw[aa HF,hr]
   have ZW:=aj Ig
   clear hw hr h1 hg HC HF HA HI Ig cw b0
   go_wp2_with fail
   refine (aa HD).mono ?_
   intro e w2 hw
   rcases hw.split with ⟨y,hr,rfl,hg⟩|⟨p,s2,hr,rfl,h2,hg⟩
   ·refine ⟨rfl,?_⟩
    rw[aa qV,hr]
    exact ⟨rfl,(aa yI).sv.trans (Sv.of hg (by have:=(aa yI).bx.lt;omega))⟩
   ·have gS:=(aa yI).read (aa HN) h2 hg
    have b2:w2.cell? ⟨g,0,none⟩=some (.string x.eI):=by rw[cell_of_row _ _ _ _ _ _ gS.bx.dJ];rfl
    have f2:w2.frozen? ⟨g,0,none⟩=false:=by simp[World.frozen?,gS.bx.dJ]
    have oL:=gS.setName (nm':=p) (aa HN)
    have oC:=aj oL
    have HNd:=aj (de oL.rd ⟨#[59]⟩)
    have yE:Hid (lT x s=match aV ⟨#[59]⟩ s2 with|.error e=>.error e|.ok (_,s3)=>.ok ({ x with eI:=p },s3)):=by show _=_;rw[aa qV,hr]
    have qS:=aj ((aa ZW).dW (fR hr))
    clear hw hr h2 hg HD qV yI gS oL ZW
    go_wp2_with fail
    refine (aa HNd).mono ?_
    intro e w3 hw
    rcases hw.split with ⟨y,hr,rfl,hg⟩|⟨_,s3,hr,rfl,h3,hg⟩
    ·refine ⟨rfl,?_⟩
     rw[aa yE,hr]
     exact ⟨rfl,(aa oC).sv.trans (Sv.of hg (by have:=(aa oC).bx.lt;omega))⟩
    ·have HE:Hid (IP (A0 lo b g N V W) (Sv g b W) (lT x s) (.returned (.tuple #[])) w3):=by
      show IP (A0 lo b g N V W) (Sv g b W) (lT x s) (.returned (.tuple #[])) w3
      rw[aa yE,hr]
      have YQ:=(aa qS).dW (bR hr)
      have cw:=YQ.lt hp
      have:=aa Hl
      have:=aa Hn
      exact ⟨rfl,⟨vi,vm,ve,cm,ce,(aa oC).read (aa HN) h3 hg⟩,⟨by simp only;omega,by simp only;omega,by simp only;omega⟩,YQ.jA.sm (aa pV),by omega⟩
     clear hw hr h3 hg HNd b2 f2
     go_wp2
     go_end0
     exact aa HE
theorem Lm {pm pr:Nat} (h:A0 lo b g N V W x s w) (hN:aK N) (ri:∀P w,N P w→aP pr #[.pointer (some ⟨b,0,none⟩)] 107 P w) (gJ:∀P w,N P w→aP pm #[.pointer (some ⟨g,0,none⟩)] 135 P w) (hp:0<s.ts.length):Calls Tryz.prog 96 #[.pointer (some ⟨pr,0,none⟩),.pointer (some ⟨pm,0,none⟩)] w (IP (A0 lo b g N V W) (Sv g b W) (lT x s)):=by
 have HC:=aj (Dh h hN hp)
 obtain ⟨⟨vi,vm,ve,cm,ce,aZ⟩,_⟩:=h
 have c1:w.cell? ⟨pr,0,none⟩=some (.pointer (some ⟨b,0,none⟩)):=by rw[cell_of_row _ _ _ _ _ _ (ri _ _ aZ.nx.1).1];rfl
 have c2:w.cell? ⟨pm,0,none⟩=some (.pointer (some ⟨g,0,none⟩)):=by rw[cell_of_row _ _ _ _ _ _ (gJ _ _ aZ.nx.1).1];rfl
 clear aZ hN ri gJ
 go_enter Tryz.func96,Tryz.ntmps96
 go_wp2_with fail
 refine (aa HC).mono ?_
 intro e w1 hw
 have HW:=aj hw
 rcases hw.split with ⟨y,hr,rfl,he⟩|⟨x',s',hr,rfl,hi⟩
 ·exact ⟨rfl,aa HW⟩
 ·clear hr hi hw HC c1 c2
  go_wp2
  go_end0
  exact aa HW
end
theorem Vg {lo b g pv:Nat}{N:(Nat→Prop)→World→Prop}{V W:World} (hN:aK N) (gJ:∀P w,N P w→aP pv #[.pointer (some ⟨b,0,none⟩)] 107 P w) (lr:∀P w,N P w→aP (pv+1) #[.pointer (some ⟨g,0,none⟩)] 135 P w) (hm:∀P w,N P w→ij (pv+2) (oQ pv b) P w) :
  Ez (A0 lo b g N V W) (Sv g b W) lo b (pv+2) (oQ pv b) (.func (.func 75) #[.pointer (some ⟨b,0,none⟩)] #[]) Az J9:=by
 refine ⟨fun x s w h=>h.rd,fun x s w s' w' h hr hg hs=>h.step hN hr hg hs,fun x s w w' h hg=>h.er hg,fun x s w h=>?_,fun k=>?_,fun k v f hv hf x s w h hk ht=>?_,fun x s w h=>?_⟩
 ·obtain ⟨⟨vi,vm,ve,cm,ce,aZ⟩,_⟩:=h
  exact ⟨_,hm _ _ aZ.nx.1⟩
 ·unfold oQ Az
  simp only[jt]
  by_cases q0:(k==⟨#[112,97,99,107,97,103,101]⟩)=true
  ·exact .inr ⟨_,_,_,_,by rw[if_pos q0],by rw[if_pos q0]⟩
  rw[if_neg q0,if_neg q0]
  by_cases q1:(k==⟨#[105,109,112,111,114,116]⟩)=true
  ·exact .inr ⟨_,_,_,_,by rw[if_pos q1],by rw[if_pos q1]⟩
  rw[if_neg q1,if_neg q1]
  by_cases q2:(k==⟨#[109,101,115,115,97,103,101]⟩)=true
  ·exact .inr ⟨_,_,_,_,by rw[if_pos q2],by rw[if_pos q2]⟩
  rw[if_neg q2,if_neg q2]
  by_cases q3:(k==⟨#[101,110,117,109]⟩)=true
  ·exact .inr ⟨_,_,_,_,by rw[if_pos q3],by rw[if_pos q3]⟩
  rw[if_neg q3,if_neg q3]
  by_cases q4:(k==⟨#[111,112,116,105,111,110]⟩)=true
  ·exact .inr ⟨_,_,_,_,by rw[if_pos q4],by rw[if_pos q4]⟩
  rw[if_neg q4,if_neg q4]
  by_cases q5:(k==⟨#[115,101,114,118,105,99,101]⟩)=true
  ·exact .inr ⟨_,_,_,_,by rw[if_pos q5],by rw[if_pos q5]⟩
  rw[if_neg q5,if_neg q5]
  by_cases q6:(k==⟨#[101,120,116,101,110,100]⟩)=true
  ·exact .inr ⟨_,_,_,_,by rw[if_pos q6],by rw[if_pos q6]⟩
  rw[if_neg q6,if_neg q6]
  exact .inl ⟨rfl,rfl⟩
 ·unfold oQ at hv
  unfold Az at hf
  simp only[jt] at hv
  by_cases q0:(k==⟨#[112,97,99,107,97,103,101]⟩)=true
  ·rw[if_pos q0] at hv hf
   obtain rfl:=zC hv
   obtain rfl:=zC hf
   exact ⟨_,_,_,rfl,Gl w,Lm h hN gJ lr (bS h.rd.grown (by rw[hk];decide))⟩
  rw[if_neg q0] at hv hf
  by_cases q1:(k==⟨#[105,109,112,111,114,116]⟩)=true
  ·rw[if_pos q1] at hv hf
   obtain rfl:=zC hv
   obtain rfl:=zC hf
   obtain ⟨⟨vi,vm,ve,cm,ce,aZ⟩,⟨l1,l2,l3⟩,gD,hn⟩:=h
   have iE:=bS aZ.rd.grown (by rw[hk];decide)
   refine ⟨_,_,_,rfl,Gk w,?_⟩
   refine (Ll (pm:=pv+1) (pr:=pv) (bt:=16) (r:=dw s) (sl:=⟨9,1,vi,x.bM.length,bW x.bM⟩) (N1:=fun a x _ _=>x=Value.string a) aZ (GI.st hN _ _ _) (fun _ _=>fun _ _ _ _ _ h=>h) rfl (BZ rfl rfl) (by simp only;omega) (fun P w hw c hc=>by
    simp only[List.mem_cons,List.not_mem_nil,or_false] at hc
    rcases hc with rfl|rfl
    ·exact lr P w hw.1
    ·exact gJ P w hw.1) (fun w' ll=>(BH ll.ev ll.rd iE).mono fun e w2 h2=>h2.cr)).mono ?_
   intro e w' hw
   exact Vi ⟨l1,l2,l3⟩ gD hn iE hw
  rw[if_neg q1] at hv hf
  by_cases q2:(k==⟨#[109,101,115,115,97,103,101]⟩)=true
  ·rw[if_pos q2] at hv hf
   obtain rfl:=zC hv
   obtain rfl:=zC hf
   obtain ⟨⟨vi,vm,ve,cm,ce,aZ⟩,⟨l1,l2,l3⟩,gD,hn⟩:=h
   have iE:=bS aZ.rd.grown (by rw[hk];decide)
   refine ⟨_,_,_,rfl,Gj w,?_⟩
   refine (VF (pm:=pv+1) (pr:=pv) (r:=bw 16384 s) (sl:=⟨64,7,vm,x.ms.length,cm⟩) aZ (GI.st hN _ _ _) rfl (D7 g rfl rfl) (by simp only;omega) (fun P w hw c hc=>by
    simp only[List.mem_cons,List.not_mem_nil,or_false] at hc
    rcases hc with rfl|rfl
    ·exact lr P w hw.1
    ·exact gJ P w hw.1) (fun w' s2 M _ ll e=>by
    subst e
    exact (xr 16384 lo b V w' s2 ll.ev ll.rd gD hn hn iE).mono fun e w3 h3=>h3.XR (by have:=ll.bx.lt;omega))).mono ?_
   intro e w' hw
   exact Vh ⟨l1,l2,l3⟩ gD hn iE hw
  rw[if_neg q2] at hv hf
  by_cases q3:(k==⟨#[101,110,117,109]⟩)=true
  ·rw[if_pos q3] at hv hf
   obtain rfl:=zC hv
   obtain rfl:=zC hf
   obtain ⟨⟨vi,vm,ve,cm,ce,aZ⟩,⟨l1,l2,l3⟩,gD,hn⟩:=h
   have iE:=bS aZ.rd.grown (by rw[hk];decide)
   refine ⟨_,_,_,rfl,Gi w,?_⟩
   refine (Lk (pm:=pv+1) (pr:=pv) (bt:=88) (r:=iH s) (sl:=⟨68,4,ve,x.es.length,ce⟩) (N1:=VQ g) aZ (GI.st hN _ _ _) (wT g) rfl (AA g rfl rfl) (by simp only;omega) (fun P w hw c hc=>by
    simp only[List.mem_cons,List.not_mem_nil,or_false] at hc
    rcases hc with rfl|rfl
    ·exact lr P w hw.1
    ·exact gJ P w hw.1) (fun w' ll=>(Ec ll.ev ll.rd gD hn iE).mono fun e w3 h3=>h3.S4 (by have:=ll.bx.lt;omega))).mono ?_
   intro e w' hw
   exact Rk ⟨l1,l2,l3⟩ gD hn iE hw
  rw[if_neg q3] at hv hf
  by_cases q4:(k==⟨#[111,112,116,105,111,110]⟩)=true
  ·rw[if_pos q4] at hv hf
   obtain rfl:=zC hv
   obtain rfl:=zC hf
   exact dk h.rd (fun w' hg=>h.er hg)
  rw[if_neg q4] at hv hf
  by_cases q5:(k==⟨#[115,101,114,118,105,99,101]⟩)=true
  ·rw[if_pos q5] at hv hf
   obtain rfl:=zC hv
   obtain rfl:=zC hf
   exact dk h.rd (fun w' hg=>h.er hg)
  rw[if_neg q5] at hv hf
  by_cases q6:(k==⟨#[101,120,116,101,110,100]⟩)=true
  ·rw[if_pos q6] at hv hf
   obtain rfl:=zC hv
   obtain rfl:=zC hf
   exact dk h.rd (fun w' hg=>h.er hg)
  rw[if_neg q6] at hv hf
  cases hv
 ·refine ⟨_,_,_,rfl,Kl w,?_⟩
  refine (iM h.rd).mono ?_
  rintro e w' ⟨rfl,hb⟩
  exact ⟨rfl,h.er (aA b hb)⟩
end Go.Proofs.YtmlphohdcejniaaGreatDoor

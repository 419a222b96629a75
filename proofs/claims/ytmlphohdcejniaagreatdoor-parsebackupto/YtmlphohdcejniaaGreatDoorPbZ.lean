import Derived.Test.YtmlphohdcejniaaGreatDoorM29
set_option maxHeartbeats 4000000
set_option maxRecDepth 100000
namespace Go.Proofs.YtmlphohdcejniaaGreatDoor
open Go.RowKit
attribute [local go_sem ↓] Go.wp_at_zero Go.wp_at_succ
theorem Ap.setName {lo b g T:Nat}{nm nm':ByteArray}{ss:List Slot}{N:(Nat→Prop)→World→Prop}{V W w:World}{s:aI} (h:Ap lo b g T nm ss N V W s w) (hN:aK N):Ap lo b g T nm' ss N V W s (w.setCell ⟨g,0,none⟩ (.string nm')):=by
 obtain ⟨l1,l2,l3,l4⟩:=h.below
 obtain ⟨q1,q2⟩:=aJ (j:=0) h.bx.dt (.string nm')
 have lW:∀k,k<w.heap.size→k≠g→(w.setCell ⟨g,0,none⟩ (.string nm')).heap[k]?=w.heap[k]?:=fun k h1 h2=>q2.block k h1 (by simpa using h2)
 refine ⟨⟨q1,fun i sl hi=>?_,h.bx.apart⟩,?_,?_,h.lg,?_,?_⟩
 ·have h1:=h.bx.own i sl hi
  refine World.ownsRow.kept h1 q2 (.inr ?_)
  intro e
  have:=(h1.lt g e).1
  omega
 ·exact hN _ _ w _ (fun k hk hl=>⟨hk,lW k hl hk.2.1⟩) h.nx
 ·exact h.rd.Rp ⟨q2.os,q2.tape,q2.output,q2.size,fun k hk=>lW k (by omega) (by omega)⟩
 ·exact h.sv.trans ⟨q2.os,q2.tape,q2.output,q2.size,fun k hk _=>lW k (by omega) (by omega)⟩
 ·have:=h.ev.lo
  exact ⟨h.ev.f,h.ev.e,h.ev.m,h.ev.below.trans ⟨q2.os,q2.tape,q2.output,q2.size,fun k hk=>lW k (by omega) (by omega)⟩,h.ev.lo⟩
theorem rp {s s1:aI}{x:ByteArray} (h:dH s=.ok (x,s1)):Gt s s1:=by
 unfold dH at h
 split at h
 ·cases h
 ·rename_i u s2 h2
  split at h
  ·cases h
  ·split at h
   ·cases h
   ·rename_i y s3 h3
    split at h
    ·cases h
    ·rename_i u4 s4 h4
     simp only[Except.ok.injEq,Prod.mk.injEq] at h
     obtain ⟨_,rfl⟩:=h
     exact ((de (s:=s.begun) h2).dL (lY h3).1.iY).dL (bN h4)
noncomputable def nB:fU Fl:=fun x s=>if (x.fW.toList==[])=true then (match bE s with
 |.error e=>.error e
 |.ok (_,s1)=>match dE false s1 with
  |.error e=>.error e
  |.ok (p,s2)=>match aW ⟨#[59]⟩ s2 with
   |.error e=>.error e
   |.ok (_,s3)=>.ok ({ x with fW:=p },s3)) else .error (cK s)
noncomputable def D6:fU Fl:=fun x s=>match dH s with
 |.error e=>.error e
 |.ok (d,s')=>.ok ({ x with cy:=x.cy++[d] },s')
noncomputable def Tf:fU Fl:=fun x s=>match bB 16384 s with
 |.error e=>.error e
 |.ok (d,s')=>.ok ({ x with ms:=x.ms++[d] },s')
noncomputable def Tm:fU Fl:=fun x s=>match iQ s with
 |.error e=>.error e
 |.ok (d,s')=>.ok ({ x with es:=x.es++[d] },s')
def QO:fU Fl:=fun _ s=>.error (cK s)
noncomputable def Ey:ByteArray→Option (fU Fl):=fun k=>if (k==⟨#[112,97,99,107,97,103,101]⟩)=true then some nB else if (k==⟨#[105,109,112,111,114,116]⟩)=true then some D6 else if (k==⟨#[109,101,115,115,97,103,101]⟩)=true then some Tf else if (k==⟨#[101,110,117,109]⟩)=true then some Tm else if (k==⟨#[111,112,116,105,111,110]⟩)=true then some dC else if (k==⟨#[115,101,114,118,105,99,101]⟩)=true then some dC else if (k==⟨#[101,120,116,101,110,100]⟩)=true then some dC else none
theorem S6 (x:Fl) (s:aI) (x':Fl) (s':aI) (h:nB x s=.ok (x',s')):Gt s s':=by
 unfold nB at h
 split at h
 ·split at h
  ·cases h
  ·rename_i u s1 h1
   split at h
   ·cases h
   ·rename_i p s2 h2
    split at h
    ·cases h
    ·rename_i u3 s3 h3
     simp only[Except.ok.injEq,Prod.mk.injEq] at h
     obtain ⟨_,rfl⟩:=h
     exact ((de h1).dL (fA h2)).dL (bN h3)
 ·cases h
theorem Tj (k:ByteArray) (f:fU Fl) (hf:Ey k=some f) (x:Fl) (s:aI) (x':Fl) (s':aI) (h:f x s=.ok (x',s')):Gt s s':=by
 unfold Ey at hf
 by_cases q0:(k==⟨#[112,97,99,107,97,103,101]⟩)=true
 ·rw[if_pos q0] at hf
  obtain rfl:=zC hf
  exact S6 _ _ _ _ h
 rw[if_neg q0] at hf
 by_cases q1:(k==⟨#[105,109,112,111,114,116]⟩)=true
 ·rw[if_pos q1] at hf
  obtain rfl:=zC hf
  unfold D6 at h
  split at h
  ·cases h
  ·rename_i d s1 h1
   simp only[Except.ok.injEq,Prod.mk.injEq] at h
   obtain ⟨_,rfl⟩:=h
   exact rp h1
 rw[if_neg q1] at hf
 by_cases q2:(k==⟨#[109,101,115,115,97,103,101]⟩)=true
 ·rw[if_pos q2] at hf
  obtain rfl:=zC hf
  unfold Tf at h
  split at h
  ·cases h
  ·rename_i d s1 h1
   simp only[Except.ok.injEq,Prod.mk.injEq] at h
   obtain ⟨_,rfl⟩:=h
   exact qu _ _ _ _ h1
 rw[if_neg q2] at hf
 by_cases q3:(k==⟨#[101,110,117,109]⟩)=true
 ·rw[if_pos q3] at hf
  obtain rfl:=zC hf
  unfold Tm at h
  split at h
  ·cases h
  ·rename_i d s1 h1
   simp only[Except.ok.injEq,Prod.mk.injEq] at h
   obtain ⟨_,rfl⟩:=h
   exact tZ h1
 rw[if_neg q3] at hf
 by_cases q4:(k==⟨#[111,112,116,105,111,110]⟩)=true
 ·rw[if_pos q4] at hf
  obtain rfl:=zC hf
  cases h
 rw[if_neg q4] at hf
 by_cases q5:(k==⟨#[115,101,114,118,105,99,101]⟩)=true
 ·rw[if_pos q5] at hf
  obtain rfl:=zC hf
  cases h
 rw[if_neg q5] at hf
 by_cases q6:(k==⟨#[101,120,116,101,110,100]⟩)=true
 ·rw[if_pos q6] at hf
  obtain rfl:=zC hf
  cases h
 rw[if_neg q6] at hf
 cases hf
theorem Tl (x:Fl) (s:aI) (x':Fl) (s':aI) (h:QO x s=.ok (x',s')):Gt s s'∧(s.en.kind=5→0<s.ts.length):=by cases h
def Np (x:Fl) (vi vm ve:Value) (cm ce:List Value):List Slot:=[⟨9,1,vi,x.cy.length,bS x.cy⟩,⟨64,7,vm,x.ms.length,cm⟩,⟨68,4,ve,x.es.length,ce⟩]
def E' (g:Nat) (N:(Nat→Prop)→World→Prop) (x:Fl) (cm ce:List Value) (P:Nat→Prop) (w:World):Prop:=N P w∧di (fun k=>P k∧g≤k) w cm x.ms∧eC (fun k=>P k∧g≤k) w ce x.es
theorem E'.st {g:Nat}{N:(Nat→Prop)→World→Prop} (hN:aK N) (x:Fl) (cm ce:List Value):aK (E' g N x cm ce):=hN.and (aK.and (fun _ _ _ _ hg h=>cS _ _ _ _ _ _ (hg.low g) h) (fun _ _ _ _ hg h=>cH _ _ _ _ _ _ (hg.low g) h))
def ze (lo b g:Nat) (N:(Nat→Prop)→World→Prop) (V W:World) (x:Fl) (s:aI) (w:World):Prop:=(∃vi vm ve cm ce,Ap lo b g 26 x.fW (Np x vi vm ve cm ce) (E' g N x cm ce) V W s w)∧(x.cy.length+s.ts.length≤20000∧x.ms.length+s.ts.length≤20000∧x.es.length+s.ts.length≤20000)∧Sm s∧s.ts.length≤16384
theorem ze.step {lo b g:Nat}{N:(Nat→Prop)→World→Prop}{V W w w':World}{x:Fl}{s s':aI} (h:ze lo b g N V W x s w) (hN:aK N) (hr:Rd lo w' b s') (hg:w.grownBy w' (some b)) (hs:kP s s'):ze lo b g N V W x s' w':=by
 obtain ⟨⟨vi,vm,ve,cm,ce,aZ⟩,⟨l1,l2,l3⟩,fT,hn⟩:=h
 have:=hs.len
 exact ⟨⟨vi,vm,ve,cm,ce,aZ.read (E'.st hN _ _ _) hr hg⟩,⟨by omega,by omega,by omega⟩,hs.sm fT,by omega⟩
theorem ze.er {lo b g:Nat}{N:(Nat→Prop)→World→Prop}{V W w w':World}{x:Fl}{s:aI} (h:ze lo b g N V W x s w) (hg:w.grownBy w' (some b)):Sv g b W w':=by
 obtain ⟨⟨vi,vm,ve,cm,ce,aZ⟩,_⟩:=h
 exact aZ.sv.trans (Sv.of hg (by have:=aZ.bx.lt;omega))
theorem ze.rd {lo b g:Nat}{N:(Nat→Prop)→World→Prop}{V W w:World}{x:Fl}{s:aI} (h:ze lo b g N V W x s w):Rd lo w b s:=by
 obtain ⟨⟨vi,vm,ve,cm,ce,aZ⟩,_⟩:=h
 exact aZ.rd
section
variable {lo b g : Nat} {N : (Nat → Prop) → World → Prop} {V W w : World} {x : Fl} {s : aI} {vi vm ve : Value} {cm ce : List Value} {e : Ending}
theorem Ti (hl:x.cy.length+s.ts.length≤20000∧x.ms.length+s.ts.length≤20000∧x.es.length+s.ts.length≤20000) (fT:Sm s) (hn:s.ts.length≤16384) (hp:0<s.ts.length) (h:CP lo b g 26 x.fW (Np x vi vm ve cm ce) (E' g N x cm ce) V W 0 ⟨9,1,vi,x.cy.length,bS x.cy⟩ (dH s) (fun a x _ _=>x=Value.string a) e w):IP (ze lo b g N V W) (Sv g b W) (D6 x s) e w:=by
 unfold D6
 rcases CP.plain uU h with ⟨y,hr,rfl,hs⟩|⟨a,s',y,hr,rfl,h2⟩
 ·rw[hr]
  exact ⟨rfl,hs⟩
 ·have h3:=rp hr
  have h4:=h3.lt hp
  rw[hr]
  exact ⟨rfl,⟨y,vm,ve,cm,ce,h2⟩,⟨by simp only[zK,List.length_singleton];omega,by simp only;omega,by simp only;omega⟩,h3.iY.sm fT,by omega⟩
theorem Pl (hl:x.cy.length+s.ts.length≤20000∧x.ms.length+s.ts.length≤20000∧x.es.length+s.ts.length≤20000) (fT:Sm s) (hn:s.ts.length≤16384) (hp:0<s.ts.length) (h:CP lo b g 26 x.fW (Np x vi vm ve cm ce) (E' g N x cm ce) V W 2 ⟨68,4,ve,x.es.length,ce⟩ (iQ s) (TP g) e w):IP (ze lo b g N V W) (Sv g b W) (Tm x s) e w:=by
 unfold CP at h
 unfold Tm
 cases hr:iQ s with
 |error y =>
  rw[hr] at h
  exact h
 |ok z =>
  rw[hr] at h
  obtain ⟨he,v,y,aZ⟩:=h
  have h3:=tZ hr
  have h4:=h3.lt hp
  refine ⟨he,⟨vi,vm,y,cm,ce++v.cells.toList,?_⟩,⟨by simp only;omega,by simp only;omega,by simp only[zK,List.length_singleton];omega⟩,h3.iY.sm fT,by omega⟩
  have h5:=aZ.imp (N':=E' g N { x with es:=x.es++[z.1] } cm (ce++v.cells.toList)) (fun hh=>by
   obtain ⟨⟨q1,q2,q3⟩,cs,e1,q4⟩:=hh
   have e2:cs.toList=v.cells.toList:=by rw[e1];rfl
   have h9:=q3.app q4
   rw[e2] at h9
   exact ⟨q1,q2,h9⟩)
  unfold Np
  simp only[zK,List.length_singleton]
  exact h5
theorem Th (hl:x.cy.length+s.ts.length≤20000∧x.ms.length+s.ts.length≤20000∧x.es.length+s.ts.length≤20000) (fT:Sm s) (hn:s.ts.length≤16384) (hp:0<s.ts.length) (h:CP lo b g 26 x.fW (Np x vi vm ve cm ce) (E' g N x cm ce) V W 1 ⟨64,7,vm,x.ms.length,cm⟩ (bB 16384 s) (mz g) e w):IP (ze lo b g N V W) (Sv g b W) (Tf x s) e w:=by
 unfold CP at h
 unfold Tf
 cases hr:bB 16384 s with
 |error y =>
  rw[hr] at h
  exact h
 |ok z =>
  rw[hr] at h
  obtain ⟨he,v,y,aZ⟩:=h
  have h3:=qu _ _ _ _ hr
  have h4:=h3.lt hp
  refine ⟨he,⟨vi,y,ve,cm++v.cells.toList,ce,?_⟩,⟨by simp only;omega,by simp only[zK,List.length_singleton];omega,by simp only;omega⟩,h3.iY.sm fT,by omega⟩
  have h5:=aZ.imp (N':=E' g N { x with ms:=x.ms++[z.1] } (cm++v.cells.toList) ce) (fun hh=>by
   obtain ⟨⟨q1,q2,q3⟩,cs,e1,q4⟩:=hh
   have e2:cs.toList=v.cells.toList:=by rw[e1];rfl
   have h9:=q2.app q4
   rw[e2] at h9
   exact ⟨q1,h9,q3⟩)
  unfold Np
  simp only[zK,List.length_singleton]
  exact h5
theorem BJ (h:ze lo b g N V W x s w) (hN:aK N) (hp:0<s.ts.length):Calls Tryz.prog 97 #[.pointer (some ⟨b,0,none⟩),.pointer (some ⟨g,0,none⟩)] w (IP (ze lo b g N V W) (Sv g b W) (nB x s)):=by
 have HI:=aj h
 obtain ⟨⟨vi,vm,ve,cm,ce,aZ⟩,⟨l1,l2,l3⟩,fT,hn⟩:=h
 have b0:w.cell? ⟨g,0,none⟩=some (.string x.fW):=by rw[cell_of_row _ _ _ _ _ _ aZ.bx.dt];rfl
 have HN:=aj (E'.st (g:=g) hN x cm ce)
 have HN0:=aj hN
 have HA:=aj aZ
 have oO:=aj fT
 have Hn:=aj hn
 have Hl:=aj (show x.cy.length+s.ts.length≤20000∧x.ms.length+s.ts.length≤20000∧x.es.length+s.ts.length≤20000 from ⟨l1,l2,l3⟩)
 have HC:=aj (cY aZ.rd hp)
 have HW:=aj (ig aZ.rd)
 obtain ⟨pk,FQ⟩:∃pk,x.fW=pk:=⟨_,rfl⟩
 have Hpk:=aj FQ
 rw[FQ] at b0
 clear aZ hN fT hn l1 l2 l3 FQ
 cases hz:(pk.toList==[]) with
 |false =>
  have oK:(pk.toList != [])=true:=by unfold bne;rw[hz];rfl
  have HF:Hid (nB x s=.error (cK s)):=by show _=_;unfold nB;rw[if_neg (by rw[aa Hpk,hz];simp)]
  go_enter Tryz.func97,Tryz.ntmps97
  go_wp2_with fail
  refine (aa HW).mono ?_
  rintro e w1 ⟨rfl,hb⟩
  refine ⟨rfl,?_⟩
  rw[aa HF]
  exact ⟨rfl,(aa HI).er (aA b hb)⟩
 |true =>
  have oK:(pk.toList != [])=false:=by unfold bne;rw[hz];rfl
  have HF:Hid (nB x s=match bE s with|.error e=>.error e|.ok (_,s1)=>match dE false s1 with|.error e=>.error e|.ok (p,s2)=>match aW ⟨#[59]⟩ s2 with|.error e=>.error e|.ok (_,s3)=>.ok ({ x with fW:=p },s3)):=by
   show _=_
   unfold nB
   rw[if_pos (by rw[aa Hpk,hz])]
  go_enter Tryz.func97,Tryz.ntmps97
  go_wp2_with fail
  refine (aa HC).mono ?_
  intro e w1 hw
  rcases hw.split with ⟨y,hr,rfl,hg⟩|⟨_,s1,hr,rfl,h1,hg⟩
  ·refine ⟨rfl,?_⟩
   rw[aa HF,hr]
   exact ⟨rfl,(aa HI).er hg⟩
  ·have FR:=de hr
   have cc:=FR.lt hp
   have HD:=aj (lZ false h1 (FR.iY.sm (aa oO)) (by have:=aa Hn;omega))
   have xp:=aj ((aa HA).read (aa HN) h1 hg)
   have pW:Hid (nB x s=match dE false s1 with|.error e=>.error e|.ok (p,s2)=>match aW ⟨#[59]⟩ s2 with|.error e=>.error e|.ok (_,s3)=>.ok ({ x with fW:=p },s3)):=by show _=_;rw[aa HF,hr]
   have XW:=aj FR
   clear hw hr h1 hg HC HF HA HI FR cc b0
   go_wp2_with fail
   refine (aa HD).mono ?_
   intro e w2 hw
   rcases hw.split with ⟨y,hr,rfl,hg⟩|⟨p,s2,hr,rfl,h2,hg⟩
   ·refine ⟨rfl,?_⟩
    rw[aa pW,hr]
    exact ⟨rfl,(aa xp).sv.trans (Sv.of hg (by have:=(aa xp).bx.lt;omega))⟩
   ·have gp:=(aa xp).read (aa HN) h2 hg
    have b2:w2.cell? ⟨g,0,none⟩=some (.string x.fW):=by rw[cell_of_row _ _ _ _ _ _ gp.bx.dt];rfl
    have f2:w2.frozen? ⟨g,0,none⟩=false:=by simp[World.frozen?,gp.bx.dt]
    have nG:=gp.setName (nm':=p) (aa HN)
    have nz:=aj nG
    have HNd:=aj (cQ nG.rd ⟨#[59]⟩)
    have xj:Hid (nB x s=match aW ⟨#[59]⟩ s2 with|.error e=>.error e|.ok (_,s3)=>.ok ({ x with fW:=p },s3)):=by show _=_;rw[aa pW,hr]
    have pT:=aj ((aa XW).dL (fA hr))
    clear hw hr h2 hg HD pW xp gp nG XW
    go_wp2_with fail
    refine (aa HNd).mono ?_
    intro e w3 hw
    rcases hw.split with ⟨y,hr,rfl,hg⟩|⟨_,s3,hr,rfl,h3,hg⟩
    ·refine ⟨rfl,?_⟩
     rw[aa xj,hr]
     exact ⟨rfl,(aa nz).sv.trans (Sv.of hg (by have:=(aa nz).bx.lt;omega))⟩
    ·have HE:Hid (IP (ze lo b g N V W) (Sv g b W) (nB x s) (.returned (.tuple #[])) w3):=by
      show IP (ze lo b g N V W) (Sv g b W) (nB x s) (.returned (.tuple #[])) w3
      rw[aa xj,hr]
      have WQ:=(aa pT).dL (bN hr)
      have cc:=WQ.lt hp
      have:=aa Hl
      have:=aa Hn
      exact ⟨rfl,⟨vi,vm,ve,cm,ce,(aa nz).read (aa HN) h3 hg⟩,⟨by simp only;omega,by simp only;omega,by simp only;omega⟩,WQ.iY.sm (aa oO),by omega⟩
     clear hw hr h3 hg HNd b2 f2
     go_wp2
     go_end0
     exact aa HE
theorem JV {pm pr:Nat} (h:ze lo b g N V W x s w) (hN:aK N) (qa:∀P w,N P w→aP pr #[.pointer (some ⟨b,0,none⟩)] 107 P w) (fX:∀P w,N P w→aP pm #[.pointer (some ⟨g,0,none⟩)] 135 P w) (hp:0<s.ts.length):Calls Tryz.prog 96 #[.pointer (some ⟨pr,0,none⟩),.pointer (some ⟨pm,0,none⟩)] w (IP (ze lo b g N V W) (Sv g b W) (nB x s)):=by
 have HC:=aj (BJ h hN hp)
 obtain ⟨⟨vi,vm,ve,cm,ce,aZ⟩,_⟩:=h
 have c1:w.cell? ⟨pr,0,none⟩=some (.pointer (some ⟨b,0,none⟩)):=by rw[cell_of_row _ _ _ _ _ _ (qa _ _ aZ.nx.1).1];rfl
 have c2:w.cell? ⟨pm,0,none⟩=some (.pointer (some ⟨g,0,none⟩)):=by rw[cell_of_row _ _ _ _ _ _ (fX _ _ aZ.nx.1).1];rfl
 clear aZ hN qa fX
 go_enter Tryz.func96,Tryz.ntmps96
 go_wp2_with fail
 refine (aa HC).mono ?_
 intro e w1 hw
 have HW:=aj hw
 rcases hw.split with ⟨y,hr,rfl,he⟩|⟨x',s',hr,rfl,hi⟩
 ·exact ⟨rfl,aa HW⟩
 ·clear hr hi hw HC c1 c2
  go_wp2
  go_end0
  exact aa HW
end
theorem Tg {lo b g pv:Nat}{N:(Nat→Prop)→World→Prop}{V W:World} (hN:aK N) (fX:∀P w,N P w→aP pv #[.pointer (some ⟨b,0,none⟩)] 107 P w) (kC:∀P w,N P w→aP (pv+1) #[.pointer (some ⟨g,0,none⟩)] 135 P w) (hm:∀P w,N P w→gL (pv+2) (nL pv b) P w) :
  CY (ze lo b g N V W) (Sv g b W) lo b (pv+2) (nL pv b) (.func (.func 75) #[.pointer (some ⟨b,0,none⟩)] #[]) Ey QO:=by
 refine ⟨fun x s w h=>h.rd,fun x s w s' w' h hr hg hs=>h.step hN hr hg hs,fun x s w w' h hg=>h.er hg,fun x s w h=>?_,fun k=>?_,fun k v f hv hf x s w h hk ht=>?_,fun x s w h=>?_⟩
 ·obtain ⟨⟨vi,vm,ve,cm,ce,aZ⟩,_⟩:=h
  exact ⟨_,hm _ _ aZ.nx.1⟩
 ·unfold nL Ey
  simp only[iN]
  by_cases q0:(k==⟨#[112,97,99,107,97,103,101]⟩)=true
  ·exact .inr ⟨_,_,_,_,by rw[if_pos q0],by rw[if_pos q0]⟩
  rw[if_neg q0,if_neg q0]
  by_cases q1:(k==⟨#[105,109,112,111,114,116]⟩)=true
  ·exact .inr ⟨_,_,_,_,by rw[if_pos q1],by rw[if_pos q1]⟩
  rw[if_neg q1,if_neg q1]
  by_cases q2:(k==⟨#[109,101,115,115,97,103,101]⟩)=true
  ·exact .inr ⟨_,_,_,_,by rw[if_pos q2],by rw[if_pos q2]⟩
  rw[if_neg q2,if_neg q2]
  by_cases q3:(k==⟨#[101,110,117,109]⟩)=true
  ·exact .inr ⟨_,_,_,_,by rw[if_pos q3],by rw[if_pos q3]⟩
  rw[if_neg q3,if_neg q3]
  by_cases q4:(k==⟨#[111,112,116,105,111,110]⟩)=true
  ·exact .inr ⟨_,_,_,_,by rw[if_pos q4],by rw[if_pos q4]⟩
  rw[if_neg q4,if_neg q4]
  by_cases q5:(k==⟨#[115,101,114,118,105,99,101]⟩)=true
  ·exact .inr ⟨_,_,_,_,by rw[if_pos q5],by rw[if_pos q5]⟩
  rw[if_neg q5,if_neg q5]
  by_cases q6:(k==⟨#[101,120,116,101,110,100]⟩)=true
  ·exact .inr ⟨_,_,_,_,by rw[if_pos q6],by rw[if_pos q6]⟩
  rw[if_neg q6,if_neg q6]
  exact .inl ⟨rfl,rfl⟩
 ·unfold nL at hv
  unfold Ey at hf
  simp only[iN] at hv
  by_cases q0:(k==⟨#[112,97,99,107,97,103,101]⟩)=true
  ·rw[if_pos q0] at hv hf
   obtain rfl:=zC hv
   obtain rfl:=zC hf
   exact ⟨_,_,_,rfl,EN w,JV h hN fX kC (bP h.rd.grown (by rw[hk];decide))⟩
  rw[if_neg q0] at hv hf
  by_cases q1:(k==⟨#[105,109,112,111,114,116]⟩)=true
  ·rw[if_pos q1] at hv hf
   obtain rfl:=zC hv
   obtain rfl:=zC hf
   obtain ⟨⟨vi,vm,ve,cm,ce,aZ⟩,⟨l1,l2,l3⟩,fT,hn⟩:=h
   have jc:=bP aZ.rd.grown (by rw[hk];decide)
   refine ⟨_,_,_,rfl,EM w,?_⟩
   refine (JU (pm:=pv+1) (pr:=pv) (bt:=16) (r:=dH s) (sl:=⟨9,1,vi,x.cy.length,bS x.cy⟩) (N1:=fun a x _ _=>x=Value.string a) aZ (E'.st hN _ _ _) (fun _ _=>fun _ _ _ _ _ h=>h) rfl (Ax rfl rfl) (by simp only;omega) (fun P w hw c hc=>by
    simp only[List.mem_cons,List.not_mem_nil,or_false] at hc
    rcases hc with rfl|rfl
    ·exact kC P w hw.1
    ·exact fX P w hw.1) (fun w' kR=>(Ad kR.ev kR.rd jc).mono fun e w2 h2=>h2.cr)).mono ?_
   intro e w' hw
   exact Ti ⟨l1,l2,l3⟩ fT hn jc hw
  rw[if_neg q1] at hv hf
  by_cases q2:(k==⟨#[109,101,115,115,97,103,101]⟩)=true
  ·rw[if_pos q2] at hv hf
   obtain rfl:=zC hv
   obtain rfl:=zC hf
   obtain ⟨⟨vi,vm,ve,cm,ce,aZ⟩,⟨l1,l2,l3⟩,fT,hn⟩:=h
   have jc:=bP aZ.rd.grown (by rw[hk];decide)
   refine ⟨_,_,_,rfl,EL w,?_⟩
   refine (TG (pm:=pv+1) (pr:=pv) (r:=bB 16384 s) (sl:=⟨64,7,vm,x.ms.length,cm⟩) aZ (E'.st hN _ _ _) rfl (Cx g rfl rfl) (by simp only;omega) (fun P w hw c hc=>by
    simp only[List.mem_cons,List.not_mem_nil,or_false] at hc
    rcases hc with rfl|rfl
    ·exact kC P w hw.1
    ·exact fX P w hw.1) (fun w' s2 M _ kR e=>by
    subst e
    exact (vI 16384 lo b V w' s2 kR.ev kR.rd fT hn hn jc).mono fun e w3 h3=>h3.VP (by have:=kR.bx.lt;omega))).mono ?_
   intro e w' hw
   exact Th ⟨l1,l2,l3⟩ fT hn jc hw
  rw[if_neg q2] at hv hf
  by_cases q3:(k==⟨#[101,110,117,109]⟩)=true
  ·rw[if_pos q3] at hv hf
   obtain rfl:=zC hv
   obtain rfl:=zC hf
   obtain ⟨⟨vi,vm,ve,cm,ce,aZ⟩,⟨l1,l2,l3⟩,fT,hn⟩:=h
   have jc:=bP aZ.rd.grown (by rw[hk];decide)
   refine ⟨_,_,_,rfl,EK w,?_⟩
   refine (JT (pm:=pv+1) (pr:=pv) (bt:=88) (r:=iQ s) (sl:=⟨68,4,ve,x.es.length,ce⟩) (N1:=TP g) aZ (E'.st hN _ _ _) (uY g) rfl (yI g rfl rfl) (by simp only;omega) (fun P w hw c hc=>by
    simp only[List.mem_cons,List.not_mem_nil,or_false] at hc
    rcases hc with rfl|rfl
    ·exact kC P w hw.1
    ·exact fX P w hw.1) (fun w' kR=>(CB kR.ev kR.rd fT hn jc).mono fun e w3 h3=>h3.QQ (by have:=kR.bx.lt;omega))).mono ?_
   intro e w' hw
   exact Pl ⟨l1,l2,l3⟩ fT hn jc hw
  rw[if_neg q3] at hv hf
  by_cases q4:(k==⟨#[111,112,116,105,111,110]⟩)=true
  ·rw[if_pos q4] at hv hf
   obtain rfl:=zC hv
   obtain rfl:=zC hf
   exact cV h.rd (fun w' hg=>h.er hg)
  rw[if_neg q4] at hv hf
  by_cases q5:(k==⟨#[115,101,114,118,105,99,101]⟩)=true
  ·rw[if_pos q5] at hv hf
   obtain rfl:=zC hv
   obtain rfl:=zC hf
   exact cV h.rd (fun w' hg=>h.er hg)
  rw[if_neg q5] at hv hf
  by_cases q6:(k==⟨#[101,120,116,101,110,100]⟩)=true
  ·rw[if_pos q6] at hv hf
   obtain rfl:=zC hv
   obtain rfl:=zC hf
   exact cV h.rd (fun w' hg=>h.er hg)
  rw[if_neg q6] at hv hf
  cases hv
 ·refine ⟨_,_,_,rfl,IW w,?_⟩
  refine (ig h.rd).mono ?_
  rintro e w' ⟨rfl,hb⟩
  exact ⟨rfl,h.er (aA b hb)⟩
end Go.Proofs.YtmlphohdcejniaaGreatDoor

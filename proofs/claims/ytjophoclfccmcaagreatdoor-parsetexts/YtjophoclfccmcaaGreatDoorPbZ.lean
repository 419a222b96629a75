import Derived.Test.YtjophoclfccmcaaGreatDoorM28
set_option maxHeartbeats 4000000
set_option maxRecDepth 100000
namespace Go.Proofs.YtjophoclfccmcaaGreatDoor
open Go.RowKit
attribute [local go_sem ↓] Go.wp_at_zero Go.wp_at_succ
theorem Ap.setName {lo b g T:Nat}{nm nm':ByteArray}{ss:List Slot}{N:(Nat→Prop)→World→Prop}{V W w:World}{s:ax} (h:Ap lo b g T nm ss N V W s w) (hN:aP N):Ap lo b g T nm' ss N V W s (w.setCell ⟨g,0,none⟩ (.string nm')):=by
 obtain ⟨l1,l2,l3,l4⟩:=h.below
 obtain ⟨q1,q2⟩:=aC (j:=0) h.bx.lz (.string nm')
 have uf:∀k,k<w.heap.size→k≠g→(w.setCell ⟨g,0,none⟩ (.string nm')).heap[k]?=w.heap[k]?:=fun k h1 h2=>q2.block k h1 (by simpa using h2)
 refine ⟨⟨q1,fun i sl hi=>?_,h.bx.apart⟩,?_,?_,h.lg,?_,?_⟩
 ·have h1:=h.bx.own i sl hi
  refine World.ownsRow.kept h1 q2 (.inr ?_)
  intro e
  have:=(h1.lt g e).1
  omega
 ·exact hN _ _ w _ (fun k hk hl=>⟨hk,uf k hl hk.2.1⟩) h.nx
 ·exact h.rd.Um ⟨q2.os,q2.tape,q2.output,q2.size,fun k hk=>uf k (by omega) (by omega)⟩
 ·exact h.sv.trans ⟨q2.os,q2.tape,q2.output,q2.size,fun k hk _=>uf k (by omega) (by omega)⟩
 ·have:=h.ev.lo
  exact ⟨h.ev.f,h.ev.e,h.ev.m,h.ev.below.trans ⟨q2.os,q2.tape,q2.output,q2.size,fun k hk=>uf k (by omega) (by omega)⟩,h.ev.lo⟩
theorem oo {s s1:ax}{x:ByteArray} (h:bA s=.ok (x,s1)):Gt s s1:=by
 unfold bA at h
 split at h
 ·cases h
 ·rename_i u s2 h2
  split at h
  ·cases h
  ·split at h
   ·cases h
   ·rename_i y s3 h3
    split at h
    ·cases h
    ·rename_i u4 s4 h4
     simp only[Except.ok.injEq,Prod.mk.injEq] at h
     obtain ⟨_,rfl⟩:=h
     exact ((ed (s:=s.begun) h2).eI (jt h3).1.gu).eI (bB h4)
noncomputable def pX:kF Fl:=fun x s=>if (x.kH.toList==[])=true then (match bC s with
 |.error e=>.error e
 |.ok (_,s1)=>match ba false s1 with
  |.error e=>.error e
  |.ok (p,s2)=>match au ⟨#[59]⟩ s2 with
   |.error e=>.error e
   |.ok (_,s3)=>.ok ({ x with kH:=p },s3)) else .error (bS s)
noncomputable def Kr:kF Fl:=fun x s=>match bA s with
 |.error e=>.error e
 |.ok (d,s')=>.ok ({ x with fU:=x.fU++[d] },s')
noncomputable def Xy:kF Fl:=fun x s=>match bk 16384 s with
 |.error e=>.error e
 |.ok (d,s')=>.ok ({ x with ms:=x.ms++[d] },s')
noncomputable def Xz:kF Fl:=fun x s=>match dd s with
 |.error e=>.error e
 |.ok (d,s')=>.ok ({ x with es:=x.es++[d] },s')
def I3:kF Fl:=fun _ s=>.error (bS s)
noncomputable def pJ:ByteArray→Option (kF Fl):=fun k=>if (k==⟨#[112,97,99,107,97,103,101]⟩)=true then some pX else if (k==⟨#[105,109,112,111,114,116]⟩)=true then some Kr else if (k==⟨#[109,101,115,115,97,103,101]⟩)=true then some Xy else if (k==⟨#[101,110,117,109]⟩)=true then some Xz else if (k==⟨#[111,112,116,105,111,110]⟩)=true then some dw else if (k==⟨#[115,101,114,118,105,99,101]⟩)=true then some dw else if (k==⟨#[101,120,116,101,110,100]⟩)=true then some dw else none
theorem VH (x:Fl) (s:ax) (x':Fl) (s':ax) (h:pX x s=.ok (x',s')):Gt s s':=by
 unfold pX at h
 split at h
 ·split at h
  ·cases h
  ·rename_i u s1 h1
   split at h
   ·cases h
   ·rename_i p s2 h2
    split at h
    ·cases h
    ·rename_i u3 s3 h3
     simp only[Except.ok.injEq,Prod.mk.injEq] at h
     obtain ⟨_,rfl⟩:=h
     exact ((ed h1).eI (fu h2)).eI (bB h3)
 ·cases h
theorem OB (k:ByteArray) (f:kF Fl) (hf:pJ k=some f) (x:Fl) (s:ax) (x':Fl) (s':ax) (h:f x s=.ok (x',s')):Gt s s':=by
 unfold pJ at hf
 by_cases q0:(k==⟨#[112,97,99,107,97,103,101]⟩)=true
 ·rw[if_pos q0] at hf
  obtain rfl:=zC hf
  exact VH _ _ _ _ h
 rw[if_neg q0] at hf
 by_cases q1:(k==⟨#[105,109,112,111,114,116]⟩)=true
 ·rw[if_pos q1] at hf
  obtain rfl:=zC hf
  unfold Kr at h
  split at h
  ·cases h
  ·rename_i d s1 h1
   simp only[Except.ok.injEq,Prod.mk.injEq] at h
   obtain ⟨_,rfl⟩:=h
   exact oo h1
 rw[if_neg q1] at hf
 by_cases q2:(k==⟨#[109,101,115,115,97,103,101]⟩)=true
 ·rw[if_pos q2] at hf
  obtain rfl:=zC hf
  unfold Xy at h
  split at h
  ·cases h
  ·rename_i d s1 h1
   simp only[Except.ok.injEq,Prod.mk.injEq] at h
   obtain ⟨_,rfl⟩:=h
   exact kV _ _ _ _ h1
 rw[if_neg q2] at hf
 by_cases q3:(k==⟨#[101,110,117,109]⟩)=true
 ·rw[if_pos q3] at hf
  obtain rfl:=zC hf
  unfold Xz at h
  split at h
  ·cases h
  ·rename_i d s1 h1
   simp only[Except.ok.injEq,Prod.mk.injEq] at h
   obtain ⟨_,rfl⟩:=h
   exact ru h1
 rw[if_neg q3] at hf
 by_cases q4:(k==⟨#[111,112,116,105,111,110]⟩)=true
 ·rw[if_pos q4] at hf
  obtain rfl:=zC hf
  cases h
 rw[if_neg q4] at hf
 by_cases q5:(k==⟨#[115,101,114,118,105,99,101]⟩)=true
 ·rw[if_pos q5] at hf
  obtain rfl:=zC hf
  cases h
 rw[if_neg q5] at hf
 by_cases q6:(k==⟨#[101,120,116,101,110,100]⟩)=true
 ·rw[if_pos q6] at hf
  obtain rfl:=zC hf
  cases h
 rw[if_neg q6] at hf
 cases hf
theorem VT (x:Fl) (s:ax) (x':Fl) (s':ax) (h:I3 x s=.ok (x',s')):Gt s s'∧(s.en.kind=5→0<s.ts.length):=by cases h
def PQ (x:Fl) (vi vm ve:Value) (cm ce:List Value):List Slot:=[⟨9,1,vi,x.fU.length,dV x.fU⟩,⟨49,7,vm,x.ms.length,cm⟩,⟨71,4,ve,x.es.length,ce⟩]
def G5 (g:Nat) (N:(Nat→Prop)→World→Prop) (x:Fl) (cm ce:List Value) (P:Nat→Prop) (w:World):Prop:=N P w∧eU (fun k=>P k∧g≤k) w cm x.ms∧fH (fun k=>P k∧g≤k) w ce x.es
theorem G5.st {g:Nat}{N:(Nat→Prop)→World→Prop} (hN:aP N) (x:Fl) (cm ce:List Value):aP (G5 g N x cm ce):=hN.and (aP.and (fun _ _ _ _ hg h=>fb _ _ _ _ _ _ (hg.low g) h) (fun _ _ _ _ hg h=>eP _ _ _ _ _ _ (hg.low g) h))
def Bl (lo b g:Nat) (N:(Nat→Prop)→World→Prop) (V W:World) (x:Fl) (s:ax) (w:World):Prop:=(∃vi vm ve cm ce,Ap lo b g 27 x.kH (PQ x vi vm ve cm ce) (G5 g N x cm ce) V W s w)∧(x.fU.length+s.ts.length≤20000∧x.ms.length+s.ts.length≤20000∧x.es.length+s.ts.length≤20000)∧Sm s∧s.ts.length≤16384
theorem Bl.step {lo b g:Nat}{N:(Nat→Prop)→World→Prop}{V W w w':World}{x:Fl}{s s':ax} (h:Bl lo b g N V W x s w) (hN:aP N) (hr:Rd lo w' b s') (hg:w.grownBy w' (some b)) (hs:jj s s'):Bl lo b g N V W x s' w':=by
 obtain ⟨⟨vi,vm,ve,cm,ce,bd⟩,⟨l1,l2,l3⟩,fP,hn⟩:=h
 have:=hs.len
 exact ⟨⟨vi,vm,ve,cm,ce,bd.read (G5.st hN _ _ _) hr hg⟩,⟨by omega,by omega,by omega⟩,hs.sm fP,by omega⟩
theorem Bl.er {lo b g:Nat}{N:(Nat→Prop)→World→Prop}{V W w w':World}{x:Fl}{s:ax} (h:Bl lo b g N V W x s w) (hg:w.grownBy w' (some b)):Sv g b W w':=by
 obtain ⟨⟨vi,vm,ve,cm,ce,bd⟩,_⟩:=h
 exact bd.sv.trans (Sv.of hg (by have:=bd.bx.lt;omega))
theorem Bl.rd {lo b g:Nat}{N:(Nat→Prop)→World→Prop}{V W w:World}{x:Fl}{s:ax} (h:Bl lo b g N V W x s w):Rd lo w b s:=by
 obtain ⟨⟨vi,vm,ve,cm,ce,bd⟩,_⟩:=h
 exact bd.rd
section
variable {lo b g : Nat} {N : (Nat → Prop) → World → Prop} {V W w : World} {x : Fl} {s : ax} {vi vm ve : Value} {cm ce : List Value} {e : Ending}
theorem VQ (hl:x.fU.length+s.ts.length≤20000∧x.ms.length+s.ts.length≤20000∧x.es.length+s.ts.length≤20000) (fP:Sm s) (hn:s.ts.length≤16384) (hp:0<s.ts.length) (h:CP lo b g 27 x.kH (PQ x vi vm ve cm ce) (G5 g N x cm ce) V W 0 ⟨9,1,vi,x.fU.length,dV x.fU⟩ (bA s) (fun a x _ _=>x=Value.string a) e w):IP (Bl lo b g N V W) (Sv g b W) (Kr x s) e w:=by
 unfold Kr
 rcases CP.plain xW h with ⟨y,hr,rfl,hs⟩|⟨a,s',y,hr,rfl,h2⟩
 ·rw[hr]
  exact ⟨rfl,hs⟩
 ·have h3:=oo hr
  have h4:=h3.lt hp
  rw[hr]
  exact ⟨rfl,⟨y,vm,ve,cm,ce,h2⟩,⟨by simp only[zK,List.length_singleton];omega,by simp only;omega,by simp only;omega⟩,h3.gu.sm fP,by omega⟩
theorem Se (hl:x.fU.length+s.ts.length≤20000∧x.ms.length+s.ts.length≤20000∧x.es.length+s.ts.length≤20000) (fP:Sm s) (hn:s.ts.length≤16384) (hp:0<s.ts.length) (h:CP lo b g 27 x.kH (PQ x vi vm ve cm ce) (G5 g N x cm ce) V W 2 ⟨71,4,ve,x.es.length,ce⟩ (dd s) (Wh g) e w):IP (Bl lo b g N V W) (Sv g b W) (Xz x s) e w:=by
 unfold CP at h
 unfold Xz
 cases hr:dd s with
 |error y =>
  rw[hr] at h
  exact h
 |ok z =>
  rw[hr] at h
  obtain ⟨he,v,y,bd⟩:=h
  have h3:=ru hr
  have h4:=h3.lt hp
  refine ⟨he,⟨vi,vm,y,cm,ce++v.cells.toList,?_⟩,⟨by simp only;omega,by simp only;omega,by simp only[zK,List.length_singleton];omega⟩,h3.gu.sm fP,by omega⟩
  have h5:=bd.imp (N':=G5 g N { x with es:=x.es++[z.1] } cm (ce++v.cells.toList)) (fun hh=>by
   obtain ⟨⟨q1,q2,q3⟩,cs,e1,q4⟩:=hh
   have e2:cs.toList=v.cells.toList:=by rw[e1];rfl
   have h9:=q3.app q4
   rw[e2] at h9
   exact ⟨q1,q2,h9⟩)
  unfold PQ
  simp only[zK,List.length_singleton]
  exact h5
theorem VO (hl:x.fU.length+s.ts.length≤20000∧x.ms.length+s.ts.length≤20000∧x.es.length+s.ts.length≤20000) (fP:Sm s) (hn:s.ts.length≤16384) (hp:0<s.ts.length) (h:CP lo b g 27 x.kH (PQ x vi vm ve cm ce) (G5 g N x cm ce) V W 1 ⟨49,7,vm,x.ms.length,cm⟩ (bk 16384 s) (nB g) e w):IP (Bl lo b g N V W) (Sv g b W) (Xy x s) e w:=by
 unfold CP at h
 unfold Xy
 cases hr:bk 16384 s with
 |error y =>
  rw[hr] at h
  exact h
 |ok z =>
  rw[hr] at h
  obtain ⟨he,v,y,bd⟩:=h
  have h3:=kV _ _ _ _ hr
  have h4:=h3.lt hp
  refine ⟨he,⟨vi,y,ve,cm++v.cells.toList,ce,?_⟩,⟨by simp only;omega,by simp only[zK,List.length_singleton];omega,by simp only;omega⟩,h3.gu.sm fP,by omega⟩
  have h5:=bd.imp (N':=G5 g N { x with ms:=x.ms++[z.1] } (cm++v.cells.toList) ce) (fun hh=>by
   obtain ⟨⟨q1,q2,q3⟩,cs,e1,q4⟩:=hh
   have e2:cs.toList=v.cells.toList:=by rw[e1];rfl
   have h9:=q2.app q4
   rw[e2] at h9
   exact ⟨q1,h9,q3⟩)
  unfold PQ
  simp only[zK,List.length_singleton]
  exact h5
theorem DG (h:Bl lo b g N V W x s w) (hN:aP N) (hp:0<s.ts.length):Calls Tryz.prog 99 #[.pointer (some ⟨b,0,none⟩),.pointer (some ⟨g,0,none⟩)] w (IP (Bl lo b g N V W) (Sv g b W) (pX x s)):=by
 have HI:=ab h
 obtain ⟨⟨vi,vm,ve,cm,ce,bd⟩,⟨l1,l2,l3⟩,fP,hn⟩:=h
 have b0:w.cell? ⟨g,0,none⟩=some (.string x.kH):=by rw[cell_of_row _ _ _ _ _ _ bd.bx.lz];rfl
 have HN:=ab (G5.st (g:=g) hN x cm ce)
 have XT:=ab hN
 have HA:=ab bd
 have Wt:=ab fP
 have Hn:=ab hn
 have Hl:=ab (show x.fU.length+s.ts.length≤20000∧x.ms.length+s.ts.length≤20000∧x.es.length+s.ts.length≤20000 from ⟨l1,l2,l3⟩)
 have HC:=ab (dX bd.rd hp)
 have HW:=ab (jl bd.rd)
 obtain ⟨pk,ID⟩:∃pk,x.kH=pk:=⟨_,rfl⟩
 have Hpk:=ab ID
 rw[ID] at b0
 clear bd hN fP hn l1 l2 l3 ID
 cases hz:(pk.toList==[]) with
 |false =>
  have jg:(pk.toList != [])=true:=by unfold bne;rw[hz];rfl
  have HF:Hid (pX x s=.error (bS s)):=by show _=_;unfold pX;rw[if_neg (by rw[aa Hpk,hz];simp)]
  go_enter Tryz.func99,Tryz.ntmps99
  go_wp2_with fail
  refine (aa HW).mono ?_
  rintro e w1 ⟨rfl,hb⟩
  refine ⟨rfl,?_⟩
  rw[aa HF]
  exact ⟨rfl,(aa HI).er (aD b hb)⟩
 |true =>
  have jg:(pk.toList != [])=false:=by unfold bne;rw[hz];rfl
  have HF:Hid (pX x s=match bC s with|.error e=>.error e|.ok (_,s1)=>match ba false s1 with|.error e=>.error e|.ok (p,s2)=>match au ⟨#[59]⟩ s2 with|.error e=>.error e|.ok (_,s3)=>.ok ({ x with kH:=p },s3)):=by
   show _=_
   unfold pX
   rw[if_pos (by rw[aa Hpk,hz])]
  go_enter Tryz.func99,Tryz.ntmps99
  go_wp2_with fail
  refine (aa HC).mono ?_
  intro e w1 hw
  rcases hw.split with ⟨y,hr,rfl,hg⟩|⟨_,s1,hr,rfl,h1,hg⟩
  ·refine ⟨rfl,?_⟩
   rw[aa HF,hr]
   exact ⟨rfl,(aa HI).er hg⟩
  ·have KE:=ed hr
   have dr:=KE.lt hp
   have HD:=ab (nj false h1 (KE.gu.sm (aa Wt)) (by have:=aa Hn;omega))
   have S1:=ab ((aa HA).read (aa HN) h1 hg)
   have PN:Hid (pX x s=match ba false s1 with|.error e=>.error e|.ok (p,s2)=>match au ⟨#[59]⟩ s2 with|.error e=>.error e|.ok (_,s3)=>.ok ({ x with kH:=p },s3)):=by show _=_;rw[aa HF,hr]
   have Hgt:=ab KE
   clear hw hr h1 hg HC HF HA HI KE dr b0
   go_wp2_with fail
   refine (aa HD).mono ?_
   intro e w2 hw
   rcases hw.split with ⟨y,hr,rfl,hg⟩|⟨p,s2,hr,rfl,h2,hg⟩
   ·refine ⟨rfl,?_⟩
    rw[aa PN,hr]
    exact ⟨rfl,(aa S1).sv.trans (Sv.of hg (by have:=(aa S1).bx.lt;omega))⟩
   ·have ij:=(aa S1).read (aa HN) h2 hg
    have b2:w2.cell? ⟨g,0,none⟩=some (.string x.kH):=by rw[cell_of_row _ _ _ _ _ _ ij.bx.lz];rfl
    have f2:w2.frozen? ⟨g,0,none⟩=false:=by simp[World.frozen?,ij.bx.lz]
    have pf:=ij.setName (nm':=p) (aa HN)
    have Lu:=ab pf
    have HNd:=ab (dx pf.rd ⟨#[59]⟩)
    have nz:Hid (pX x s=match au ⟨#[59]⟩ s2 with|.error e=>.error e|.ok (_,s3)=>.ok ({ x with kH:=p },s3)):=by show _=_;rw[aa PN,hr]
    have rP:=ab ((aa Hgt).eI (fu hr))
    clear hw hr h2 hg HD PN S1 ij pf Hgt
    go_wp2_with fail
    refine (aa HNd).mono ?_
    intro e w3 hw
    rcases hw.split with ⟨y,hr,rfl,hg⟩|⟨_,s3,hr,rfl,h3,hg⟩
    ·refine ⟨rfl,?_⟩
     rw[aa nz,hr]
     exact ⟨rfl,(aa Lu).sv.trans (Sv.of hg (by have:=(aa Lu).bx.lt;omega))⟩
    ·have HE:Hid (IP (Bl lo b g N V W) (Sv g b W) (pX x s) (.returned (.tuple #[])) w3):=by
      show IP (Bl lo b g N V W) (Sv g b W) (pX x s) (.returned (.tuple #[])) w3
      rw[aa nz,hr]
      have Zx:=(aa rP).eI (bB hr)
      have dr:=Zx.lt hp
      have:=aa Hl
      have:=aa Hn
      exact ⟨rfl,⟨vi,vm,ve,cm,ce,(aa Lu).read (aa HN) h3 hg⟩,⟨by simp only;omega,by simp only;omega,by simp only;omega⟩,Zx.gu.sm (aa Wt),by omega⟩
     clear hw hr h3 hg HNd b2 f2
     go_wp2
     go_end0
     exact aa HE
theorem L5 {pm pr:Nat} (h:Bl lo b g N V W x s w) (hN:aP N) (p':∀P w,N P w→aX pr #[.pointer (some ⟨b,0,none⟩)] 74 P w) (fB:∀P w,N P w→aX pm #[.pointer (some ⟨g,0,none⟩)] 108 P w) (hp:0<s.ts.length):Calls Tryz.prog 98 #[.pointer (some ⟨pr,0,none⟩),.pointer (some ⟨pm,0,none⟩)] w (IP (Bl lo b g N V W) (Sv g b W) (pX x s)):=by
 have HC:=ab (DG h hN hp)
 obtain ⟨⟨vi,vm,ve,cm,ce,bd⟩,_⟩:=h
 have c1:w.cell? ⟨pr,0,none⟩=some (.pointer (some ⟨b,0,none⟩)):=by rw[cell_of_row _ _ _ _ _ _ (p' _ _ bd.nx.1).1];rfl
 have c2:w.cell? ⟨pm,0,none⟩=some (.pointer (some ⟨g,0,none⟩)):=by rw[cell_of_row _ _ _ _ _ _ (fB _ _ bd.nx.1).1];rfl
 clear bd hN p' fB
 go_enter Tryz.func98,Tryz.ntmps98
 go_wp2_with fail
 refine (aa HC).mono ?_
 intro e w1 hw
 have HW:=ab hw
 rcases hw.split with ⟨y,hr,rfl,he⟩|⟨x',s',hr,rfl,hi⟩
 ·exact ⟨rfl,aa HW⟩
 ·clear hr hi hw HC c1 c2
  go_wp2
  go_end0
  exact aa HW
end
theorem VM {lo b g pv:Nat}{N:(Nat→Prop)→World→Prop}{V W:World} (hN:aP N) (fB:∀P w,N P w→aX pv #[.pointer (some ⟨b,0,none⟩)] 74 P w) (pc:∀P w,N P w→aX (pv+1) #[.pointer (some ⟨g,0,none⟩)] 108 P w) (hm:∀P w,N P w→iH (pv+2) (px pv b) P w) :
  EL (Bl lo b g N V W) (Sv g b W) lo b (pv+2) (px pv b) (.func (.func 58) #[.pointer (some ⟨b,0,none⟩)] #[]) pJ I3:=by
 refine ⟨fun x s w h=>h.rd,fun x s w s' w' h hr hg hs=>h.step hN hr hg hs,fun x s w w' h hg=>h.er hg,fun x s w h=>?_,fun k=>?_,fun k v f hv hf x s w h hk ht=>?_,fun x s w h=>?_⟩
 ·obtain ⟨⟨vi,vm,ve,cm,ce,bd⟩,_⟩:=h
  exact ⟨_,hm _ _ bd.nx.1⟩
 ·unfold px pJ
  simp only[jT]
  by_cases q0:(k==⟨#[112,97,99,107,97,103,101]⟩)=true
  ·exact .inr ⟨_,_,_,_,by rw[if_pos q0],by rw[if_pos q0]⟩
  rw[if_neg q0,if_neg q0]
  by_cases q1:(k==⟨#[105,109,112,111,114,116]⟩)=true
  ·exact .inr ⟨_,_,_,_,by rw[if_pos q1],by rw[if_pos q1]⟩
  rw[if_neg q1,if_neg q1]
  by_cases q2:(k==⟨#[109,101,115,115,97,103,101]⟩)=true
  ·exact .inr ⟨_,_,_,_,by rw[if_pos q2],by rw[if_pos q2]⟩
  rw[if_neg q2,if_neg q2]
  by_cases q3:(k==⟨#[101,110,117,109]⟩)=true
  ·exact .inr ⟨_,_,_,_,by rw[if_pos q3],by rw[if_pos q3]⟩
  rw[if_neg q3,if_neg q3]
  by_cases q4:(k==⟨#[111,112,116,105,111,110]⟩)=true
  ·exact .inr ⟨_,_,_,_,by rw[if_pos q4],by rw[if_pos q4]⟩
  rw[if_neg q4,if_neg q4]
  by_cases q5:(k==⟨#[115,101,114,118,105,99,101]⟩)=true
  ·exact .inr ⟨_,_,_,_,by rw[if_pos q5],by rw[if_pos q5]⟩
  rw[if_neg q5,if_neg q5]
  by_cases q6:(k==⟨#[101,120,116,101,110,100]⟩)=true
  ·exact .inr ⟨_,_,_,_,by rw[if_pos q6],by rw[if_pos q6]⟩
  rw[if_neg q6,if_neg q6]
  exact .inl ⟨rfl,rfl⟩
 ·unfold px at hv
  unfold pJ at hf
  simp only[jT] at hv
  by_cases q0:(k==⟨#[112,97,99,107,97,103,101]⟩)=true
  ·rw[if_pos q0] at hv hf
   obtain rfl:=zC hv
   obtain rfl:=zC hf
   exact ⟨_,_,_,rfl,GN w,L5 h hN fB pc (bP h.rd.grown (by rw[hk];decide))⟩
  rw[if_neg q0] at hv hf
  by_cases q1:(k==⟨#[105,109,112,111,114,116]⟩)=true
  ·rw[if_pos q1] at hv hf
   obtain rfl:=zC hv
   obtain rfl:=zC hf
   obtain ⟨⟨vi,vm,ve,cm,ce,bd⟩,⟨l1,l2,l3⟩,fP,hn⟩:=h
   have dN:=bP bd.rd.grown (by rw[hk];decide)
   refine ⟨_,_,_,rfl,GM w,?_⟩
   refine (L4 (pm:=pv+1) (pr:=pv) (bt:=16) (r:=bA s) (sl:=⟨9,1,vi,x.fU.length,dV x.fU⟩) (N1:=fun a x _ _=>x=Value.string a) bd (G5.st hN _ _ _) (fun _ _=>fun _ _ _ _ _ h=>h) rfl (Cd rfl rfl) (by simp only;omega) (fun P w hw c hc=>by
    simp only[List.mem_cons,List.not_mem_nil,or_false] at hc
    rcases hc with rfl|rfl
    ·exact pc P w hw.1
    ·exact fB P w hw.1) (fun w' lX=>(BW lX.ev lX.rd dN).mono fun e w2 h2=>h2.cr)).mono ?_
   intro e w' hw
   exact VQ ⟨l1,l2,l3⟩ fP hn dN hw
  rw[if_neg q1] at hv hf
  by_cases q2:(k==⟨#[109,101,115,115,97,103,101]⟩)=true
  ·rw[if_pos q2] at hv hf
   obtain rfl:=zC hv
   obtain rfl:=zC hf
   obtain ⟨⟨vi,vm,ve,cm,ce,bd⟩,⟨l1,l2,l3⟩,fP,hn⟩:=h
   have dN:=bP bd.rd.grown (by rw[hk];decide)
   refine ⟨_,_,_,rfl,GL w,?_⟩
   refine (V' (pm:=pv+1) (pr:=pv) (r:=bk 16384 s) (sl:=⟨49,7,vm,x.ms.length,cm⟩) bd (G5.st hN _ _ _) rfl (Eg g rfl rfl) (by simp only;omega) (fun P w hw c hc=>by
    simp only[List.mem_cons,List.not_mem_nil,or_false] at hc
    rcases hc with rfl|rfl
    ·exact pc P w hw.1
    ·exact fB P w hw.1) (fun w' s2 M _ lX e=>by
    subst e
    exact (yB 16384 lo b V w' s2 lX.ev lX.rd fP hn hn dN).mono fun e w3 h3=>h3.Yy (by have:=lX.bx.lt;omega))).mono ?_
   intro e w' hw
   exact VO ⟨l1,l2,l3⟩ fP hn dN hw
  rw[if_neg q2] at hv hf
  by_cases q3:(k==⟨#[101,110,117,109]⟩)=true
  ·rw[if_pos q3] at hv hf
   obtain rfl:=zC hv
   obtain rfl:=zC hf
   obtain ⟨⟨vi,vm,ve,cm,ce,bd⟩,⟨l1,l2,l3⟩,fP,hn⟩:=h
   have dN:=bP bd.rd.grown (by rw[hk];decide)
   refine ⟨_,_,_,rfl,GK w,?_⟩
   refine (L3 (pm:=pv+1) (pr:=pv) (bt:=88) (r:=dd s) (sl:=⟨71,4,ve,x.es.length,ce⟩) (N1:=Wh g) bd (G5.st hN _ _ _) (yb g) rfl (A3 g rfl rfl) (by simp only;omega) (fun P w hw c hc=>by
    simp only[List.mem_cons,List.not_mem_nil,or_false] at hc
    rcases hc with rfl|rfl
    ·exact pc P w hw.1
    ·exact fB P w hw.1) (fun w' lX=>(Ek lX.ev lX.rd fP hn dN).mono fun e w3 h3=>h3.TF (by have:=lX.bx.lt;omega))).mono ?_
   intro e w' hw
   exact Se ⟨l1,l2,l3⟩ fP hn dN hw
  rw[if_neg q3] at hv hf
  by_cases q4:(k==⟨#[111,112,116,105,111,110]⟩)=true
  ·rw[if_pos q4] at hv hf
   obtain rfl:=zC hv
   obtain rfl:=zC hf
   exact dI h.rd (fun w' hg=>h.er hg)
  rw[if_neg q4] at hv hf
  by_cases q5:(k==⟨#[115,101,114,118,105,99,101]⟩)=true
  ·rw[if_pos q5] at hv hf
   obtain rfl:=zC hv
   obtain rfl:=zC hf
   exact dI h.rd (fun w' hg=>h.er hg)
  rw[if_neg q5] at hv hf
  by_cases q6:(k==⟨#[101,120,116,101,110,100]⟩)=true
  ·rw[if_pos q6] at hv hf
   obtain rfl:=zC hv
   obtain rfl:=zC hf
   exact dI h.rd (fun w' hg=>h.er hg)
  rw[if_neg q6] at hv hf
  cases hv
 ·refine ⟨_,_,_,rfl,Lb w,?_⟩
  refine (jl h.rd).mono ?_
  rintro e w' ⟨rfl,hb⟩
  exact ⟨rfl,h.er (aD b hb)⟩
end Go.Proofs.YtjophoclfccmcaaGreatDoor

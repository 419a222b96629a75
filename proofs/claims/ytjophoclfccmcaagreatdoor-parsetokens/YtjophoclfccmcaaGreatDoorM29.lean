import Derived.Test.YtjophoclfccmcaaGreatDoorM28
set_option maxHeartbeats 4000000
set_option maxRecDepth 100000
namespace Go.Proofs.YtjophoclfccmcaaGreatDoor
open Go.RowKit
attribute [local go_sem ↓] Go.wp_at_zero Go.wp_at_succ
theorem Ap.setName {lo b g T:Nat}{nm nm':ByteArray}{ss:List Slot}{N:(Nat→Prop)→World→Prop}{V W w:World}{s:ay} (h:Ap lo b g T nm ss N V W s w) (hN:aQ N):Ap lo b g T nm' ss N V W s (w.setCell ⟨g,0,none⟩ (.string nm')):=by
 obtain ⟨l1,l2,l3,l4⟩:=h.below
 obtain ⟨q1,q2⟩:=aC (j:=0) h.bx.lA (.string nm')
 have uj:∀k,k<w.heap.size→k≠g→(w.setCell ⟨g,0,none⟩ (.string nm')).heap[k]?=w.heap[k]?:=fun k h1 h2=>q2.block k h1 (by simpa using h2)
 refine ⟨⟨q1,fun i sl hi=>?_,h.bx.apart⟩,?_,?_,h.lg,?_,?_⟩
 ·have h1:=h.bx.own i sl hi
  refine World.ownsRow.kept h1 q2 (.inr ?_)
  intro e
  have:=(h1.lt g e).1
  omega
 ·exact hN _ _ w _ (fun k hk hl=>⟨hk,uj k hl hk.2.1⟩) h.nx
 ·exact h.rd.Uw ⟨q2.os,q2.tape,q2.output,q2.size,fun k hk=>uj k (by omega) (by omega)⟩
 ·exact h.sv.trans ⟨q2.os,q2.tape,q2.output,q2.size,fun k hk _=>uj k (by omega) (by omega)⟩
 ·have:=h.ev.lo
  exact ⟨h.ev.f,h.ev.e,h.ev.m,h.ev.below.trans ⟨q2.os,q2.tape,q2.output,q2.size,fun k hk=>uj k (by omega) (by omega)⟩,h.ev.lo⟩
theorem ow {s s1:ay}{x:ByteArray} (h:bq s=.ok (x,s1)):Gt s s1:=by
 unfold bq at h
 split at h
 ·cases h
 ·rename_i u s2 h2
  split at h
  ·cases h
  ·split at h
   ·cases h
   ·rename_i y s3 h3
    split at h
    ·cases h
    ·rename_i u4 s4 h4
     simp only[Except.ok.injEq,Prod.mk.injEq] at h
     obtain ⟨_,rfl⟩:=h
     exact ((dW (s:=s.begun) h2).eA (ju h3).1.gi).eA (bw h4)
noncomputable def qb:kG Fl:=fun x s=>if (x.iT.toList==[])=true then (match bz s with
 |.error e=>.error e
 |.ok (_,s1)=>match ba false s1 with
  |.error e=>.error e
  |.ok (p,s2)=>match au ⟨#[59]⟩ s2 with
   |.error e=>.error e
   |.ok (_,s3)=>.ok ({ x with iT:=p },s3)) else .error (bR s)
noncomputable def Ko:kG Fl:=fun x s=>match bq s with
 |.error e=>.error e
 |.ok (d,s')=>.ok ({ x with fO:=x.fO++[d] },s')
noncomputable def XQ:kG Fl:=fun x s=>match bj 16384 s with
 |.error e=>.error e
 |.ok (d,s')=>.ok ({ x with ms:=x.ms++[d] },s')
noncomputable def XR:kG Fl:=fun x s=>match db s with
 |.error e=>.error e
 |.ok (d,s')=>.ok ({ x with es:=x.es++[d] },s')
def IZ:kG Fl:=fun _ s=>.error (bR s)
noncomputable def pP:ByteArray→Option (kG Fl):=fun k=>if (k==⟨#[112,97,99,107,97,103,101]⟩)=true then some qb else if (k==⟨#[105,109,112,111,114,116]⟩)=true then some Ko else if (k==⟨#[109,101,115,115,97,103,101]⟩)=true then some XQ else if (k==⟨#[101,110,117,109]⟩)=true then some XR else if (k==⟨#[111,112,116,105,111,110]⟩)=true then some dv else if (k==⟨#[115,101,114,118,105,99,101]⟩)=true then some dv else if (k==⟨#[101,120,116,101,110,100]⟩)=true then some dv else none
theorem VZ (x:Fl) (s:ay) (x':Fl) (s':ay) (h:qb x s=.ok (x',s')):Gt s s':=by
 unfold qb at h
 split at h
 ·split at h
  ·cases h
  ·rename_i u s1 h1
   split at h
   ·cases h
   ·rename_i p s2 h2
    split at h
    ·cases h
    ·rename_i u3 s3 h3
     simp only[Except.ok.injEq,Prod.mk.injEq] at h
     obtain ⟨_,rfl⟩:=h
     exact ((dW h1).eA (ft h2)).eA (bw h3)
 ·cases h
theorem OM (k:ByteArray) (f:kG Fl) (hf:pP k=some f) (x:Fl) (s:ay) (x':Fl) (s':ay) (h:f x s=.ok (x',s')):Gt s s':=by
 unfold pP at hf
 by_cases q0:(k==⟨#[112,97,99,107,97,103,101]⟩)=true
 ·rw[if_pos q0] at hf
  obtain rfl:=zC hf
  exact VZ _ _ _ _ h
 rw[if_neg q0] at hf
 by_cases q1:(k==⟨#[105,109,112,111,114,116]⟩)=true
 ·rw[if_pos q1] at hf
  obtain rfl:=zC hf
  unfold Ko at h
  split at h
  ·cases h
  ·rename_i d s1 h1
   simp only[Except.ok.injEq,Prod.mk.injEq] at h
   obtain ⟨_,rfl⟩:=h
   exact ow h1
 rw[if_neg q1] at hf
 by_cases q2:(k==⟨#[109,101,115,115,97,103,101]⟩)=true
 ·rw[if_pos q2] at hf
  obtain rfl:=zC hf
  unfold XQ at h
  split at h
  ·cases h
  ·rename_i d s1 h1
   simp only[Except.ok.injEq,Prod.mk.injEq] at h
   obtain ⟨_,rfl⟩:=h
   exact kX _ _ _ _ h1
 rw[if_neg q2] at hf
 by_cases q3:(k==⟨#[101,110,117,109]⟩)=true
 ·rw[if_pos q3] at hf
  obtain rfl:=zC hf
  unfold XR at h
  split at h
  ·cases h
  ·rename_i d s1 h1
   simp only[Except.ok.injEq,Prod.mk.injEq] at h
   obtain ⟨_,rfl⟩:=h
   exact rF h1
 rw[if_neg q3] at hf
 by_cases q4:(k==⟨#[111,112,116,105,111,110]⟩)=true
 ·rw[if_pos q4] at hf
  obtain rfl:=zC hf
  cases h
 rw[if_neg q4] at hf
 by_cases q5:(k==⟨#[115,101,114,118,105,99,101]⟩)=true
 ·rw[if_pos q5] at hf
  obtain rfl:=zC hf
  cases h
 rw[if_neg q5] at hf
 by_cases q6:(k==⟨#[101,120,116,101,110,100]⟩)=true
 ·rw[if_pos q6] at hf
  obtain rfl:=zC hf
  cases h
 rw[if_neg q6] at hf
 cases hf
theorem V' (x:Fl) (s:ay) (x':Fl) (s':ay) (h:IZ x s=.ok (x',s')):Gt s s'∧(s.en.kind=5→0<s.ts.length):=by cases h
def Qe (x:Fl) (vi vm ve:Value) (cm ce:List Value):List Slot:=[⟨9,1,vi,x.fO.length,dR x.fO⟩,⟨49,7,vm,x.ms.length,cm⟩,⟨71,4,ve,x.es.length,ce⟩]
def G3 (g:Nat) (N:(Nat→Prop)→World→Prop) (x:Fl) (cm ce:List Value) (P:Nat→Prop) (w:World):Prop:=N P w∧eT (fun k=>P k∧g≤k) w cm x.ms∧fE (fun k=>P k∧g≤k) w ce x.es
theorem G3.st {g:Nat}{N:(Nat→Prop)→World→Prop} (hN:aQ N) (x:Fl) (cm ce:List Value):aQ (G3 g N x cm ce):=hN.and (aQ.and (fun _ _ _ _ hg h=>eX _ _ _ _ _ _ (hg.low g) h) (fun _ _ _ _ hg h=>eO _ _ _ _ _ _ (hg.low g) h))
def Bc (lo b g:Nat) (N:(Nat→Prop)→World→Prop) (V W:World) (x:Fl) (s:ay) (w:World):Prop:=(∃vi vm ve cm ce,Ap lo b g 27 x.iT (Qe x vi vm ve cm ce) (G3 g N x cm ce) V W s w)∧(x.fO.length+s.ts.length≤20000∧x.ms.length+s.ts.length≤20000∧x.es.length+s.ts.length≤20000)∧Sm s∧s.ts.length≤16384
theorem Bc.step {lo b g:Nat}{N:(Nat→Prop)→World→Prop}{V W w w':World}{x:Fl}{s s':ay} (h:Bc lo b g N V W x s w) (hN:aQ N) (hr:Rd lo w' b s') (hg:w.grownBy w' (some b)) (hs:jk s s'):Bc lo b g N V W x s' w':=by
 obtain ⟨⟨vi,vm,ve,cm,ce,bd⟩,⟨l1,l2,l3⟩,fJ,hn⟩:=h
 have:=hs.len
 exact ⟨⟨vi,vm,ve,cm,ce,bd.read (G3.st hN _ _ _) hr hg⟩,⟨by omega,by omega,by omega⟩,hs.sm fJ,by omega⟩
theorem Bc.er {lo b g:Nat}{N:(Nat→Prop)→World→Prop}{V W w w':World}{x:Fl}{s:ay} (h:Bc lo b g N V W x s w) (hg:w.grownBy w' (some b)):Sv g b W w':=by
 obtain ⟨⟨vi,vm,ve,cm,ce,bd⟩,_⟩:=h
 exact bd.sv.trans (Sv.of hg (by have:=bd.bx.lt;omega))
theorem Bc.rd {lo b g:Nat}{N:(Nat→Prop)→World→Prop}{V W w:World}{x:Fl}{s:ay} (h:Bc lo b g N V W x s w):Rd lo w b s:=by
 obtain ⟨⟨vi,vm,ve,cm,ce,bd⟩,_⟩:=h
 exact bd.rd
section
variable {lo b g : Nat} {N : (Nat → Prop) → World → Prop} {V W w : World} {x : Fl} {s : ay} {vi vm ve : Value} {cm ce : List Value} {e : Ending}
theorem V7 (hl:x.fO.length+s.ts.length≤20000∧x.ms.length+s.ts.length≤20000∧x.es.length+s.ts.length≤20000) (fJ:Sm s) (hn:s.ts.length≤16384) (hp:0<s.ts.length) (h:CP lo b g 27 x.iT (Qe x vi vm ve cm ce) (G3 g N x cm ce) V W 0 ⟨9,1,vi,x.fO.length,dR x.fO⟩ (bq s) (fun a x _ _=>x=Value.string a) e w):IP (Bc lo b g N V W) (Sv g b W) (Ko x s) e w:=by
 unfold Ko
 rcases CP.plain xU h with ⟨y,hr,rfl,hs⟩|⟨a,s',y,hr,rfl,h2⟩
 ·rw[hr]
  exact ⟨rfl,hs⟩
 ·have h3:=ow hr
  have h4:=h3.lt hp
  rw[hr]
  exact ⟨rfl,⟨y,vm,ve,cm,ce,h2⟩,⟨by simp only[zK,List.length_singleton];omega,by simp only;omega,by simp only;omega⟩,h3.gi.sm fJ,by omega⟩
theorem Sn (hl:x.fO.length+s.ts.length≤20000∧x.ms.length+s.ts.length≤20000∧x.es.length+s.ts.length≤20000) (fJ:Sm s) (hn:s.ts.length≤16384) (hp:0<s.ts.length) (h:CP lo b g 27 x.iT (Qe x vi vm ve cm ce) (G3 g N x cm ce) V W 2 ⟨71,4,ve,x.es.length,ce⟩ (db s) (WC g) e w):IP (Bc lo b g N V W) (Sv g b W) (XR x s) e w:=by
 unfold CP at h
 unfold XR
 cases hr:db s with
 |error y =>
  rw[hr] at h
  exact h
 |ok z =>
  rw[hr] at h
  obtain ⟨he,v,y,bd⟩:=h
  have h3:=rF hr
  have h4:=h3.lt hp
  refine ⟨he,⟨vi,vm,y,cm,ce++v.cells.toList,?_⟩,⟨by simp only;omega,by simp only;omega,by simp only[zK,List.length_singleton];omega⟩,h3.gi.sm fJ,by omega⟩
  have h5:=bd.imp (N':=G3 g N { x with es:=x.es++[z.1] } cm (ce++v.cells.toList)) (fun hh=>by
   obtain ⟨⟨q1,q2,q3⟩,cs,e1,q4⟩:=hh
   have e2:cs.toList=v.cells.toList:=by rw[e1];rfl
   have h9:=q3.app q4
   rw[e2] at h9
   exact ⟨q1,q2,h9⟩)
  unfold Qe
  simp only[zK,List.length_singleton]
  exact h5
theorem V5 (hl:x.fO.length+s.ts.length≤20000∧x.ms.length+s.ts.length≤20000∧x.es.length+s.ts.length≤20000) (fJ:Sm s) (hn:s.ts.length≤16384) (hp:0<s.ts.length) (h:CP lo b g 27 x.iT (Qe x vi vm ve cm ce) (G3 g N x cm ce) V W 1 ⟨49,7,vm,x.ms.length,cm⟩ (bj 16384 s) (nE g) e w):IP (Bc lo b g N V W) (Sv g b W) (XQ x s) e w:=by
 unfold CP at h
 unfold XQ
 cases hr:bj 16384 s with
 |error y =>
  rw[hr] at h
  exact h
 |ok z =>
  rw[hr] at h
  obtain ⟨he,v,y,bd⟩:=h
  have h3:=kX _ _ _ _ hr
  have h4:=h3.lt hp
  refine ⟨he,⟨vi,y,ve,cm++v.cells.toList,ce,?_⟩,⟨by simp only;omega,by simp only[zK,List.length_singleton];omega,by simp only;omega⟩,h3.gi.sm fJ,by omega⟩
  have h5:=bd.imp (N':=G3 g N { x with ms:=x.ms++[z.1] } (cm++v.cells.toList) ce) (fun hh=>by
   obtain ⟨⟨q1,q2,q3⟩,cs,e1,q4⟩:=hh
   have e2:cs.toList=v.cells.toList:=by rw[e1];rfl
   have h9:=q2.app q4
   rw[e2] at h9
   exact ⟨q1,h9,q3⟩)
  unfold Qe
  simp only[zK,List.length_singleton]
  exact h5
theorem Dz (h:Bc lo b g N V W x s w) (hN:aQ N) (hp:0<s.ts.length):Calls Tryz.prog 99 #[.pointer (some ⟨b,0,none⟩),.pointer (some ⟨g,0,none⟩)] w (IP (Bc lo b g N V W) (Sv g b W) (qb x s)):=by
 have HI:=ab h
 obtain ⟨⟨vi,vm,ve,cm,ce,bd⟩,⟨l1,l2,l3⟩,fJ,hn⟩:=h
 have b0:w.cell? ⟨g,0,none⟩=some (.string x.iT):=by rw[cell_of_row _ _ _ _ _ _ bd.bx.lA];rfl
 have HN:=ab (G3.st (g:=g) hN x cm ce)
 have Yc:=ab hN
 have HA:=ab bd
 have WQ:=ab fJ
 have Hn:=ab hn
 have Hl:=ab (show x.fO.length+s.ts.length≤20000∧x.ms.length+s.ts.length≤20000∧x.es.length+s.ts.length≤20000 from ⟨l1,l2,l3⟩)
 have HC:=ab (dS bd.rd hp)
 have HW:=ab (jn bd.rd)
 obtain ⟨pk,Tx⟩:∃pk,x.iT=pk:=⟨_,rfl⟩
 have Hpk:=ab Tx
 rw[Tx] at b0
 clear bd hN fJ hn l1 l2 l3 Tx
 cases hz:(pk.toList==[]) with
 |false =>
  have jK:(pk.toList != [])=true:=by unfold bne;rw[hz];rfl
  have HF:Hid (qb x s=.error (bR s)):=by show _=_;unfold qb;rw[if_neg (by rw[aa Hpk,hz];simp)]
  go_enter Tryz.func99,Tryz.ntmps99
  go_wp2_with fail
  refine (aa HW).mono ?_
  rintro e w1 ⟨rfl,hb⟩
  refine ⟨rfl,?_⟩
  rw[aa HF]
  exact ⟨rfl,(aa HI).er (aD b hb)⟩
 |true =>
  have jK:(pk.toList != [])=false:=by unfold bne;rw[hz];rfl
  have HF:Hid (qb x s=match bz s with|.error e=>.error e|.ok (_,s1)=>match ba false s1 with|.error e=>.error e|.ok (p,s2)=>match au ⟨#[59]⟩ s2 with|.error e=>.error e|.ok (_,s3)=>.ok ({ x with iT:=p },s3)):=by
   show _=_
   unfold qb
   rw[if_pos (by rw[aa Hpk,hz])]
  go_enter Tryz.func99,Tryz.ntmps99
  go_wp2_with fail
  refine (aa HC).mono ?_
  intro e w1 hw
  rcases hw.split with ⟨y,hr,rfl,hg⟩|⟨_,s1,hr,rfl,h1,hg⟩
  ·refine ⟨rfl,?_⟩
   rw[aa HF,hr]
   exact ⟨rfl,(aa HI).er hg⟩
  ·have KC:=dW hr
   have dB:=KC.lt hp
   have HD:=ab (nr false h1 (KC.gi.sm (aa WQ)) (by have:=aa Hn;omega))
   have S8:=ab ((aa HA).read (aa HN) h1 hg)
   have Qa:Hid (qb x s=match ba false s1 with|.error e=>.error e|.ok (p,s2)=>match au ⟨#[59]⟩ s2 with|.error e=>.error e|.ok (_,s3)=>.ok ({ x with iT:=p },s3)):=by show _=_;rw[aa HF,hr]
   have Hgt:=ab KC
   clear hw hr h1 hg HC HF HA HI KC dB b0
   go_wp2_with fail
   refine (aa HD).mono ?_
   intro e w2 hw
   rcases hw.split with ⟨y,hr,rfl,hg⟩|⟨p,s2,hr,rfl,h2,hg⟩
   ·refine ⟨rfl,?_⟩
    rw[aa Qa,hr]
    exact ⟨rfl,(aa S8).sv.trans (Sv.of hg (by have:=(aa S8).bx.lt;omega))⟩
   ·have ig:=(aa S8).read (aa HN) h2 hg
    have b2:w2.cell? ⟨g,0,none⟩=some (.string x.iT):=by rw[cell_of_row _ _ _ _ _ _ ig.bx.lA];rfl
    have f2:w2.frozen? ⟨g,0,none⟩=false:=by simp[World.frozen?,ig.bx.lA]
    have py:=ig.setName (nm':=p) (aa HN)
    have Lu:=ab py
    have HNd:=ab (dw py.rd ⟨#[59]⟩)
    have nB:Hid (qb x s=match au ⟨#[59]⟩ s2 with|.error e=>.error e|.ok (_,s3)=>.ok ({ x with iT:=p },s3)):=by show _=_;rw[aa Qa,hr]
    have rY:=ab ((aa Hgt).eA (ft hr))
    clear hw hr h2 hg HD Qa S8 ig py Hgt
    go_wp2_with fail
    refine (aa HNd).mono ?_
    intro e w3 hw
    rcases hw.split with ⟨y,hr,rfl,hg⟩|⟨_,s3,hr,rfl,h3,hg⟩
    ·refine ⟨rfl,?_⟩
     rw[aa nB,hr]
     exact ⟨rfl,(aa Lu).sv.trans (Sv.of hg (by have:=(aa Lu).bx.lt;omega))⟩
    ·have HE:Hid (IP (Bc lo b g N V W) (Sv g b W) (qb x s) (.returned (.tuple #[])) w3):=by
      show IP (Bc lo b g N V W) (Sv g b W) (qb x s) (.returned (.tuple #[])) w3
      rw[aa nB,hr]
      have ZK:=(aa rY).eA (bw hr)
      have dB:=ZK.lt hp
      have:=aa Hl
      have:=aa Hn
      exact ⟨rfl,⟨vi,vm,ve,cm,ce,(aa Lu).read (aa HN) h3 hg⟩,⟨by simp only;omega,by simp only;omega,by simp only;omega⟩,ZK.gi.sm (aa WQ),by omega⟩
     clear hw hr h3 hg HNd b2 f2
     go_wp2
     go_end0
     exact aa HE
theorem L8 {pm pr:Nat} (h:Bc lo b g N V W x s w) (hN:aQ N) (pN:∀P w,N P w→aW pr #[.pointer (some ⟨b,0,none⟩)] 74 P w) (fh:∀P w,N P w→aW pm #[.pointer (some ⟨g,0,none⟩)] 108 P w) (hp:0<s.ts.length):Calls Tryz.prog 98 #[.pointer (some ⟨pr,0,none⟩),.pointer (some ⟨pm,0,none⟩)] w (IP (Bc lo b g N V W) (Sv g b W) (qb x s)):=by
 have HC:=ab (Dz h hN hp)
 obtain ⟨⟨vi,vm,ve,cm,ce,bd⟩,_⟩:=h
 have c1:w.cell? ⟨pr,0,none⟩=some (.pointer (some ⟨b,0,none⟩)):=by rw[cell_of_row _ _ _ _ _ _ (pN _ _ bd.nx.1).1];rfl
 have c2:w.cell? ⟨pm,0,none⟩=some (.pointer (some ⟨g,0,none⟩)):=by rw[cell_of_row _ _ _ _ _ _ (fh _ _ bd.nx.1).1];rfl
 clear bd hN pN fh
 go_enter Tryz.func98,Tryz.ntmps98
 go_wp2_with fail
 refine (aa HC).mono ?_
 intro e w1 hw
 have HW:=ab hw
 rcases hw.split with ⟨y,hr,rfl,he⟩|⟨x',s',hr,rfl,hi⟩
 ·exact ⟨rfl,aa HW⟩
 ·clear hr hi hw HC c1 c2
  go_wp2
  go_end0
  exact aa HW
end
theorem V4 {lo b g pv:Nat}{N:(Nat→Prop)→World→Prop}{V W:World} (hN:aQ N) (fh:∀P w,N P w→aW pv #[.pointer (some ⟨b,0,none⟩)] 74 P w) (px:∀P w,N P w→aW (pv+1) #[.pointer (some ⟨g,0,none⟩)] 108 P w) (hm:∀P w,N P w→iJ (pv+2) (pD pv b) P w) :
  EE (Bc lo b g N V W) (Sv g b W) lo b (pv+2) (pD pv b) (.func (.func 58) #[.pointer (some ⟨b,0,none⟩)] #[]) pP IZ:=by
 refine ⟨fun x s w h=>h.rd,fun x s w s' w' h hr hg hs=>h.step hN hr hg hs,fun x s w w' h hg=>h.er hg,fun x s w h=>?_,fun k=>?_,fun k v f hv hf x s w h hk ht=>?_,fun x s w h=>?_⟩
 ·obtain ⟨⟨vi,vm,ve,cm,ce,bd⟩,_⟩:=h
  exact ⟨_,hm _ _ bd.nx.1⟩
 ·unfold pD pP
  simp only[jQ]
  by_cases q0:(k==⟨#[112,97,99,107,97,103,101]⟩)=true
  ·exact .inr ⟨_,_,_,_,by rw[if_pos q0],by rw[if_pos q0]⟩
  rw[if_neg q0,if_neg q0]
  by_cases q1:(k==⟨#[105,109,112,111,114,116]⟩)=true
  ·exact .inr ⟨_,_,_,_,by rw[if_pos q1],by rw[if_pos q1]⟩
  rw[if_neg q1,if_neg q1]
  by_cases q2:(k==⟨#[109,101,115,115,97,103,101]⟩)=true
  ·exact .inr ⟨_,_,_,_,by rw[if_pos q2],by rw[if_pos q2]⟩
  rw[if_neg q2,if_neg q2]
  by_cases q3:(k==⟨#[101,110,117,109]⟩)=true
  ·exact .inr ⟨_,_,_,_,by rw[if_pos q3],by rw[if_pos q3]⟩
  rw[if_neg q3,if_neg q3]
  by_cases q4:(k==⟨#[111,112,116,105,111,110]⟩)=true
  ·exact .inr ⟨_,_,_,_,by rw[if_pos q4],by rw[if_pos q4]⟩
  rw[if_neg q4,if_neg q4]
  by_cases q5:(k==⟨#[115,101,114,118,105,99,101]⟩)=true
  ·exact .inr ⟨_,_,_,_,by rw[if_pos q5],by rw[if_pos q5]⟩
  rw[if_neg q5,if_neg q5]
  by_cases q6:(k==⟨#[101,120,116,101,110,100]⟩)=true
  ·exact .inr ⟨_,_,_,_,by rw[if_pos q6],by rw[if_pos q6]⟩
  rw[if_neg q6,if_neg q6]
  exact .inl ⟨rfl,rfl⟩
 ·unfold pD at hv
  unfold pP at hf
  simp only[jQ] at hv
  by_cases q0:(k==⟨#[112,97,99,107,97,103,101]⟩)=true
  ·rw[if_pos q0] at hv hf
   obtain rfl:=zC hv
   obtain rfl:=zC hf
   exact ⟨_,_,_,rfl,GH w,L8 h hN fh px (bN h.rd.grown (by rw[hk];decide))⟩
  rw[if_neg q0] at hv hf
  by_cases q1:(k==⟨#[105,109,112,111,114,116]⟩)=true
  ·rw[if_pos q1] at hv hf
   obtain rfl:=zC hv
   obtain rfl:=zC hf
   obtain ⟨⟨vi,vm,ve,cm,ce,bd⟩,⟨l1,l2,l3⟩,fJ,hn⟩:=h
   have dL:=bN bd.rd.grown (by rw[hk];decide)
   refine ⟨_,_,_,rfl,GG w,?_⟩
   refine (L7 (pm:=pv+1) (pr:=pv) (bt:=16) (r:=bq s) (sl:=⟨9,1,vi,x.fO.length,dR x.fO⟩) (N1:=fun a x _ _=>x=Value.string a) bd (G3.st hN _ _ _) (fun _ _=>fun _ _ _ _ _ h=>h) rfl (B8 rfl rfl) (by simp only;omega) (fun P w hw c hc=>by
    simp only[List.mem_cons,List.not_mem_nil,or_false] at hc
    rcases hc with rfl|rfl
    ·exact px P w hw.1
    ·exact fh P w hw.1) (fun w' l7=>(BQ l7.ev l7.rd dL).mono fun e w2 h2=>h2.cr)).mono ?_
   intro e w' hw
   exact V7 ⟨l1,l2,l3⟩ fJ hn dL hw
  rw[if_neg q1] at hv hf
  by_cases q2:(k==⟨#[109,101,115,115,97,103,101]⟩)=true
  ·rw[if_pos q2] at hv hf
   obtain rfl:=zC hv
   obtain rfl:=zC hf
   obtain ⟨⟨vi,vm,ve,cm,ce,bd⟩,⟨l1,l2,l3⟩,fJ,hn⟩:=h
   have dL:=bN bd.rd.grown (by rw[hk];decide)
   refine ⟨_,_,_,rfl,GF w,?_⟩
   refine (Ws (pm:=pv+1) (pr:=pv) (r:=bj 16384 s) (sl:=⟨49,7,vm,x.ms.length,cm⟩) bd (G3.st hN _ _ _) rfl (D9 g rfl rfl) (by simp only;omega) (fun P w hw c hc=>by
    simp only[List.mem_cons,List.not_mem_nil,or_false] at hc
    rcases hc with rfl|rfl
    ·exact px P w hw.1
    ·exact fh P w hw.1) (fun w' s2 M _ l7 e=>by
    subst e
    exact (yx 16384 lo b V w' s2 l7.ev l7.rd fJ hn hn dL).mono fun e w3 h3=>h3.YO (by have:=l7.bx.lt;omega))).mono ?_
   intro e w' hw
   exact V5 ⟨l1,l2,l3⟩ fJ hn dL hw
  rw[if_neg q2] at hv hf
  by_cases q3:(k==⟨#[101,110,117,109]⟩)=true
  ·rw[if_pos q3] at hv hf
   obtain rfl:=zC hv
   obtain rfl:=zC hf
   obtain ⟨⟨vi,vm,ve,cm,ce,bd⟩,⟨l1,l2,l3⟩,fJ,hn⟩:=h
   have dL:=bN bd.rd.grown (by rw[hk];decide)
   refine ⟨_,_,_,rfl,GD w,?_⟩
   refine (L6 (pm:=pv+1) (pr:=pv) (bt:=88) (r:=db s) (sl:=⟨71,4,ve,x.es.length,ce⟩) (N1:=WC g) bd (G3.st hN _ _ _) (xY g) rfl (AY g rfl rfl) (by simp only;omega) (fun P w hw c hc=>by
    simp only[List.mem_cons,List.not_mem_nil,or_false] at hc
    rcases hc with rfl|rfl
    ·exact px P w hw.1
    ·exact fh P w hw.1) (fun w' l7=>(Ec l7.ev l7.rd fJ hn dL).mono fun e w3 h3=>h3.TS (by have:=l7.bx.lt;omega))).mono ?_
   intro e w' hw
   exact Sn ⟨l1,l2,l3⟩ fJ hn dL hw
  rw[if_neg q3] at hv hf
  by_cases q4:(k==⟨#[111,112,116,105,111,110]⟩)=true
  ·rw[if_pos q4] at hv hf
   obtain rfl:=zC hv
   obtain rfl:=zC hf
   exact dH h.rd (fun w' hg=>h.er hg)
  rw[if_neg q4] at hv hf
  by_cases q5:(k==⟨#[115,101,114,118,105,99,101]⟩)=true
  ·rw[if_pos q5] at hv hf
   obtain rfl:=zC hv
   obtain rfl:=zC hf
   exact dH h.rd (fun w' hg=>h.er hg)
  rw[if_neg q5] at hv hf
  by_cases q6:(k==⟨#[101,120,116,101,110,100]⟩)=true
  ·rw[if_pos q6] at hv hf
   obtain rfl:=zC hv
   obtain rfl:=zC hf
   exact dH h.rd (fun w' hg=>h.er hg)
  rw[if_neg q6] at hv hf
  cases hv
 ·refine ⟨_,_,_,rfl,La w,?_⟩
  refine (jn h.rd).mono ?_
  rintro e w' ⟨rfl,hb⟩
  exact ⟨rfl,h.er (aD b hb)⟩
end Go.Proofs.YtjophoclfccmcaaGreatDoor
namespace Go.Proofs.YtjophoclfccmcaaGreatDoor
open Go.RowKit
attribute [local go_sem ↓] Go.wp_at_zero Go.wp_at_succ
def NF (a:Fl) (x:Value) (P:Nat→Prop) (w:World):Prop:=∃vi vm ve cm ce,x=.agg #[.string a.iT,vi,vm,ve]∧je P w 9 1 vi a.fO.length (dR a.fO)∧je P w 49 7 vm a.ms.length cm∧eT P w cm a.ms∧je P w 71 4 ve a.es.length ce∧fE P w ce a.es
def lW (st:kG Fl):Nat→kG Fl
 |0,_,_=>.error (0,0)
 |n+1,x,s=>if s.here.kind=5 then .ok (x,s) else match st x s with
  |.error e=>.error e
  |.ok (x',s')=>lW st n x' s'
noncomputable def iZ (s:ay):Except (Int×Int) (Fl×ay):=lW (bU pP IZ) (s.ts.length+1) ⟨⟨#[]⟩,[],[],[]⟩ s
noncomputable def iB (s:ay):Except (Int×Int) (Fl×ay):=match bX 1 ⟨#[115,121,110,116,97,120]⟩ s with
 |.error e=>.error e
 |.ok (false,s1)=>.error (bR s1)
 |.ok (true,s1)=>match au ⟨#[61]⟩ s1 with
  |.error e=>.error e
  |.ok (_,s2)=>match bB dF s2 with
   |.error e=>.error e
   |.ok (_,s3)=>match au ⟨#[59]⟩ s3 with
    |.error e=>.error e
    |.ok (_,s4)=>iZ s4
noncomputable def Sp:Code:=match Tryz.f33.body with
 |some (.seq _ (.seq _ (.seq _ (.seq _ (.seq _ t)))))=>t
 |_=>.skip
noncomputable def OL (t:Code):Code:=match Tryz.f33.body with
 |some (.seq a (.seq b (.seq c (.seq d (.seq e _)))))=>.seq a (.seq b (.seq c (.seq d (.seq e t))))
 |_=>.skip
theorem OJ:Tryz.f33.body=some (OL Sp):=rfl
theorem xZ:(Tryz.prog.info? 27).map (·.size)=some 4:=by kernel_rfl
def FlJ (lo b g p2 pv:Nat) (N:(Nat→Prop)→World→Prop) (V W:World) (R0:Except (Int×Int) (Fl×ay)) (n:Nat) (a:Act) (w:World):Prop:=∃(u:Nat→Value) (x:Fl) (s:ay),a=⟨#[.pointer (some ⟨b,0,none⟩),u 1,.pointer (some ⟨p2,0,none⟩),.pointer (some ⟨g,0,none⟩),.map (some (pv+2)),u 5,u 6,u 7,u 8,u 9,u 10,u 11,u 12,u 13,u 14,u 15,u 16,u 17,u 18,u 19,u 20,u 21,u 22,u 23,u 24,u 25,u 26,u 27],[]⟩∧Bc lo b g N V W x s w∧s.ts.length<n∧lW (bU pP IZ) n x s=R0
theorem ON {lo b p2:Nat}{V W0 w:World}{s:ay} (hv:Env V w b) (h:Rd lo w b s) (hs:Sm s) (hn:s.ts.length≤16384) (IG:W0.grownBy w (some b)) (yJ:w.heap[p2]?=some (.cells #[.string ⟨#[]⟩,.slice none 0 0,.slice none 0 0,.slice none 0 0] 27 (0,0))) (ji:lo≤W0.heap.size∧W0.heap.size≤p2) {u:Nat→Value}{R:Ending→World→Prop} (hR:∀e w,CR lo b NF W0 (iZ s) e w→R e w) :
  Sp.wp Tryz.prog (bodyPost Tryz.prog Tryz.f33 R) ⟨#[.pointer (some ⟨b,0,none⟩),u 1,.pointer (some ⟨p2,0,none⟩),u 3,u 4,u 5,u 6,u 7,u 8,u 9,u 10,u 11,u 12,u 13,u 14,u 15,u 16,u 17,u 18,u 19,u 20,u 21,u 22,u 23,u 24,u 25,u 26,u 27],[]⟩ w:=by
 have rA:=(zA yJ).1
 have cB:=h.low
 have fj:=(zE w.heap.size w).alloc (zD _) (.cells #[.string ⟨#[]⟩,.slice none 0 0,.slice none 0 0,.slice none 0 0] 27)
 have h4:=h.up fj
 have bd:Ap lo b w.heap.size 27 ⟨#[]⟩ (Qe ⟨⟨#[]⟩,[],[],[]⟩ (.slice none 0 0) (.slice none 0 0) (.slice none 0 0) [] []) (G3 w.heap.size (aW p2 #[.string ⟨#[]⟩,.slice none 0 0,.slice none 0 0,.slice none 0 0] 27) ⟨⟨#[]⟩,[],[],[]⟩ [] []) V w s (w.alloc (.cells #[.string ⟨#[]⟩,.slice none 0 0,.slice none 0 0,.slice none 0 0] 27)):=by
  have pM:∀(i:Nat) (sl:Slot),(Qe ⟨⟨#[]⟩,[],[],[]⟩ (.slice none 0 0) (.slice none 0 0) (.slice none 0 0) [] [])[i]?=some sl→sl.v=.slice none 0 0∧sl.n=0∧sl.xs=[]:=fun i sl hi=>by
   match i,hi with
   |0,hi=>obtain rfl:=zC hi;exact ⟨rfl,rfl,rfl⟩
   |1,hi=>obtain rfl:=zC hi;exact ⟨rfl,rfl,rfl⟩
   |2,hi=>obtain rfl:=zC hi;exact ⟨rfl,rfl,rfl⟩
   |k+3,hi=>cases hi
  have XE:∀k,k≠b→k≠w.heap.size→Fz (Qe ⟨⟨#[]⟩,[],[],[]⟩ (.slice none 0 0) (.slice none 0 0) (.slice none 0 0) [] []) w.heap.size b k:=fun k q1 q2=>⟨q1,q2,fun i sl hi e=>by
   rw[(pM i sl hi).1] at e
   cases e⟩
  refine ⟨⟨aH _ _,fun i sl hi=>?_,fun i j a c dV ha hc k hk=>?_⟩,⟨⟨(fj.block _ rA).trans yJ,XE _ (by omega) (by omega)⟩,.nil,.nil⟩,h4,by omega,⟨fj.os,fj.tape,fj.output,fj.size,fun k hk _=>fj.block k hk⟩,hv.step (aD b fj)⟩
  ·obtain ⟨q1,q2,q3⟩:=pM i sl hi
   exact ⟨by rw[q2,q3];simp,.inl ⟨q1,q2⟩⟩
  ·rw[(pM i a ha).1] at hk
   cases hk
 have hI:Bc lo b w.heap.size (aW p2 #[.string ⟨#[]⟩,.slice none 0 0,.slice none 0 0,.slice none 0 0] 27) V w ⟨⟨#[]⟩,[],[],[]⟩ s (w.alloc (.cells #[.string ⟨#[]⟩,.slice none 0 0,.slice none 0 0,.slice none 0 0] 27)):=⟨⟨_,_,_,_,_,bd⟩,⟨by simp only[List.length_nil];omega,by simp only[List.length_nil];omega,by simp only[List.length_nil];omega⟩,hs,hn⟩
 have HI:=ab hI
 have HR:=ab hR
 have Ud:=ab IG
 have P1:=ab ji
 have Hl2:=ab rA
 have HT:=ab (L4 (w.alloc (.cells #[.string ⟨#[]⟩,.slice none 0 0,.slice none 0 0,.slice none 0 0] 27)) b w.heap.size)
 obtain ⟨g,hg⟩:∃g,w.heap.size=g:=⟨_,rfl⟩
 have Hg:=ab hg
 rw[hg] at HI HT Hl2
 clear hv h hs hn IG yJ ji rA cB fj h4 bd hI hR
 obtain ⟨Q,hQ⟩:∃Q,bodyPost Tryz.prog Tryz.f33 R=Q:=⟨_,rfl⟩
 rw[hQ]
 unfold Sp
 dsimp only[Tryz.f33]
 subst hg
 go_wp2_with fail
 refine (aa HT).mono ?_
 rintro e w1 ⟨rfl,bQ,eP⟩
 obtain ⟨pv,hpv⟩:∃pv,(w.alloc (.cells #[.string ⟨#[]⟩,.slice none 0 0,.slice none 0 0,.slice none 0 0] 27)).heap.size=pv:=⟨_,rfl⟩
 rw[hpv] at eP ⊢
 have Ox:aQ (aW p2 #[.string ⟨#[]⟩,.slice none 0 0,.slice none 0 0,.slice none 0 0] 27):=bp _ _ _
 have KJ:aQ (fun P w'=>aW p2 #[.string ⟨#[]⟩,.slice none 0 0,.slice none 0 0,.slice none 0 0] 27 P w'∧(aW pv #[.pointer (some ⟨b,0,none⟩)] 74 P w'∧aW (pv+1) #[.pointer (some ⟨w.heap.size,0,none⟩)] 108 P w'∧iJ (pv+2) (pD pv b) P w')):=Ox.and ((bp _ _ _).and ((bp _ _ _).and (fR _ _)))
 have hI1:Bc lo b w.heap.size (fun P w'=>aW p2 #[.string ⟨#[]⟩,.slice none 0 0,.slice none 0 0,.slice none 0 0] 27 P w'∧(aW pv #[.pointer (some ⟨b,0,none⟩)] 74 P w'∧aW (pv+1) #[.pointer (some ⟨w.heap.size,0,none⟩)] 108 P w'∧iJ (pv+2) (pD pv b) P w')) V w ⟨⟨#[]⟩,[],[],[]⟩ s w1:=by
  obtain ⟨⟨vi,vm,ve,cm,ce,bd⟩,hl⟩:=aa HI
  refine ⟨⟨vi,vm,ve,cm,ce,?_⟩,hl⟩
  have:=bd.join (G3.st Ox _ _ _) ((bp pv #[.pointer (some ⟨b,0,none⟩)] 74).and ((bp (pv+1) #[.pointer (some ⟨w.heap.size,0,none⟩)] 108).and (fR (pv+2) (pD pv b)))) (bd.rd.up bQ) (aD b bQ) (by rw[hpv];exact eP)
  exact this.imp (fun h=>⟨⟨h.1.1,h.2⟩,h.1.2⟩)
 have uf:=V4 (lo:=lo) (b:=b) (g:=w.heap.size) (pv:=pv) (V:=V) (W:=w) KJ (fun P w h=>h.2.1) (fun P w h=>h.2.2.1) (fun P w h=>h.2.2.2)
 obtain ⟨N,hNq⟩:∃N:(Nat→Prop)→World→Prop,(fun P w'=>aW p2 #[.string ⟨#[]⟩,.slice none 0 0,.slice none 0 0,.slice none 0 0] 27 P w'∧(aW pv #[.pointer (some ⟨b,0,none⟩)] 74 P w'∧aW (pv+1) #[.pointer (some ⟨w.heap.size,0,none⟩)] 108 P w'∧iJ (pv+2) (pD pv b) P w'))=N:=⟨_,rfl⟩
 have HCp:Hid (∀P w',N P w'→aW p2 #[.string ⟨#[]⟩,.slice none 0 0,.slice none 0 0,.slice none 0 0] 27 P w'):=fun P w' h=>by rw[←hNq] at h;exact h.1
 rw[hNq] at hI1 uf KJ
 have Jp:=ab hI1
 have WO:=ab uf
 have CK:=ab KJ
 clear bQ eP Ox KJ hI1 uf HT HI hNq hpv Hg
 obtain ⟨g,hgq⟩:∃g,w.heap.size=g:=⟨_,rfl⟩
 have Hgq:=ab hgq
 rw[hgq] at Jp WO Hl2 ⊢
 clear hgq
 go_wp2
 refine gL (FlJ lo b g p2 pv N V w (iZ s)) ?_ (s.ts.length+1) _ _ ⟨fun i=>[undef,u 1,undef,undef,undef,u 5,u 6,u 7,u 8,u 9,u 10,u 11,u 12,u 13,u 14,u 15,u 16,u 17,u 18,u 19,u 20,u 21,u 22,u 23,u 24,u 25,u 26,u 27].getD i undef |> fun v=>if i=16 then .pointer (some ⟨b,0,none⟩) else if i=17 then .map (some (pv+2)) else v,_,s,rfl,aa Jp,by omega,rfl⟩
 obtain ⟨R0,CH⟩:∃R0,iZ s=R0:=⟨_,rfl⟩
 rw[CH] at HR ⊢
 clear Jp CH
 rintro n _ wr ⟨u,x,sc,rfl,hi,hn,hRn⟩
 obtain ⟨n,rfl⟩:∃k,n=k+1:=⟨n-1,by omega⟩
 have HI:=ab hi
 have HRn:=ab hRn
 have Hn:=ab hn
 have HH:=ab (fC hi.rd)
 obtain ⟨t,ht⟩:∃t,sc.here=t:=⟨_,rfl⟩
 have Ht:=ab ht
 rw[ht] at HH
 obtain ⟨kd,sp,tx⟩:=t
 unfold Tk.val at HH
 simp only at HH
 have hf:∀w,(Instr.field 38 (.agg #[.int .i64 kd,.int .i64 sp,.string tx]) 0).run Tryz.prog w=.ok (.int .i64 kd) w:=fun w=>(mJ w ⟨kd,sp,tx⟩).1
 clear hi hRn hn ht
 go_wp2_with fail
 refine (aa HH).mono ?_
 rintro e w2 ⟨rfl,br⟩
 have LP:=ab ((aa WO).up (aa HI) br)
 clear br HI HH
 by_cases hk:kd=5
 ·subst hk
  obtain ⟨⟨vi,vm,ve,cm,ce,bd⟩,_⟩:=aa LP
  obtain ⟨ia,ic,q1⟩:=bZ (bd.bx.own 0 _ rfl)
  obtain ⟨ma,mc,q2⟩:=bZ (bd.bx.own 1 _ rfl)
  obtain ⟨ea,ec,q3⟩:=bZ (bd.bx.own 2 _ rfl)
  simp only at q1 q2 q3
  subst q1 q2 q3
  have ji:=aa P1
  have rA:=aa Hl2
  obtain ⟨⟨d0,d1,d2,d3⟩,_⟩:=cC bd.bx.lA
  have yJ:=(aa HCp _ _ bd.nx.1).1
  obtain ⟨⟨y0,y1,y2,y3⟩,yf⟩:=cC yJ
  have f0:=yf 0
  have f1:=yf 1
  have f2:=yf 2
  have f3:=yf 3
  obtain ⟨r1,r2⟩:=mV yJ (.string x.iT) (.slice ia x.fO.length ic) (.slice ma x.ms.length mc) (.slice ea x.es.length ec)
  have cL:∀(i:Nat) (sl:Slot),(Qe x (.slice ia x.fO.length ic) (.slice ma x.ms.length mc) (.slice ea x.es.length ec) cm ce)[i]?=some sl→je (fun k=>W0.heap.size≤k) (gN w2 p2 (.string x.iT) (.slice ia x.fO.length ic) (.slice ma x.ms.length mc) (.slice ea x.es.length ec)) sl.t sl.sz sl.v sl.n sl.xs:=fun i sl hi=>by
   have h1:=bd.bx.own i sl hi
   refine ⟨kr (World.ownsRow.kept h1 r2 ?_) (Nat.zero_le _),fun k hk=>?_⟩
   ·right
    intro e
    have:=(h1.lt p2 e).1
    omega
   ·have:=(h1.lt k hk).1
    omega
  have yL:wZ (fun k=>Fz (Qe x (.slice ia x.fO.length ic) (.slice ma x.ms.length mc) (.slice ea x.es.length ec) cm ce) g b k∧g≤k) (fun k=>W0.heap.size≤k) w2 (gN w2 p2 (.string x.iT) (.slice ia x.fO.length ic) (.slice ma x.ms.length mc) (.slice ea x.es.length ec)):=fun k hk hl=>⟨by omega,r2.block k hl (by simp;omega)⟩
  have HE:Hid (R (.returned (.agg #[.string x.iT,.slice ia x.fO.length ic,.slice ma x.ms.length mc,.slice ea x.es.length ec])) (gN w2 p2 (.string x.iT) (.slice ia x.fO.length ic) (.slice ma x.ms.length mc) (.slice ea x.es.length ec))):=by
   refine aa HR _ _ ?_
   rw[←aa HRn]
   unfold lW
   rw[if_pos (by rw[aa Ht])]
   exact ⟨_,rfl,⟨_,_,_,cm,ce,rfl,cL 0 _ rfl,cL 1 _ rfl,eX _ _ _ _ _ _ yL bd.nx.2.1,cL 2 _ rfl,eO _ _ _ _ _ _ yL bd.nx.2.2⟩,hJ bd.rd r2 (by omega),dM (jO (aa Ud) bd.sv (by have:=(aa Hgq);omega)) r2 (by omega)⟩
  have R1:=ab r1
  unfold gN at HE R1
  clear bd yf r1 r2 cL yL yJ ji rA LP
  go_wp2
  rw[←hQ]
  exact bodyPost_ret (results_cell_row rfl _ _ p2 27 #[.string x.iT,.slice ia x.fO.length ic,.slice ma x.ms.length mc,.slice ea x.es.length ec] (0,0) _ rfl (aa R1) Tryz.underlying27 rfl xZ) rfl (aa HE)
 ·have LD:(kd != 5)=true:=by simp[hk]
  have HE:Hid (∀z,bU pP IZ x sc=z→R0=match z with|.error e=>.error e|.ok (x',s')=>lW (bU pP IZ) n x' s'):=fun z hz=>by
   rw[←aa HRn]
   conv=>lhs;unfold lW
   rw[if_neg (by rw[aa Ht];exact hk),hz]
  have S6:=ab (pE (aa WO) (aa LP))
  clear hk
  go_wp2_with fail
  refine (aa S6).mono ?_
  intro e w4 ie
  rcases ie.split with ⟨y,hr,rfl,he⟩|⟨x',s',hr,rfl,Qp⟩
  ·show Q (Exit.panic _) _ _
   rw[←hQ]
   refine ⟨rfl,aa HR _ _ ?_⟩
   rw[aa HE _ hr]
   exact ⟨rfl,jO (aa Ud) he (by have:=aa P1;have:=aa Hl2;omega)⟩
  ·have dB:=xd OM V' (aa LP).rd.grown hr
   have lN:=ab (aa HE _ hr)
   have HI4:=ab Qp
   clear hr Qp ie S6 HE HRn
   go_wp2
   exact ⟨n,rfl,fun i=>[undef,u 1,undef,undef,undef,u 5,u 6,u 7,u 8,u 9,u 10,u 11,u 12,u 13,u 14,u 15,u 16,u 17,.pointer (some ⟨b,0,none⟩),.agg #[.int .i64 kd,.int .i64 sp,.string tx],.int .i64 kd,.bool true,.pointer (some ⟨b,0,none⟩),.map (some (pv+2)),.pointer (some ⟨b,0,none⟩),.func (.func 58) #[.pointer (some ⟨b,0,none⟩)] #[],.tuple #[],u 27].getD i undef,x',s',rfl,aa HI4,by have:=aa Hn;omega,(aa lN).symm⟩
theorem OQ {lo b:Nat}{V W:World}{s:ay} (hv:Env V W b) (h:Rd lo W b s) (hs:Sm s) (hn:s.ts.length≤16384):Calls Tryz.prog 33 #[.pointer (some ⟨b,0,none⟩)] W (CR lo b NF W (iB s)):=by
 have cB:=h.low
 have br:Below W.heap.size W (W.alloc (.cells #[.string ⟨#[]⟩,.slice none 0 0,.slice none 0 0,.slice none 0 0] 27)):=(zE _ _).alloc (zD _) _
 have eL:(W.alloc (.cells #[.string ⟨#[]⟩,.slice none 0 0,.slice none 0 0,.slice none 0 0] 27)).heap[W.heap.size]?=some (.cells #[.string ⟨#[]⟩,.slice none 0 0,.slice none 0 0,.slice none 0 0] 27 (0,0)):=aH _ _
 have HC:=ab (mU (h.up br) ⟨#[115,121,110,116,97,120]⟩)
 have qK:∀w,(W.alloc (.cells #[.string ⟨#[]⟩,.slice none 0 0,.slice none 0 0,.slice none 0 0] 27)).grownBy w (some b)→w.heap[W.heap.size]?=some (.cells #[.string ⟨#[]⟩,.slice none 0 0,.slice none 0 0,.slice none 0 0] 27 (0,0)):=fun w hg=>(hg.block W.heap.size (by simp only[zJ];omega) (by simp;omega)).trans eL
 have S7:=ab qK
 have CD:=ab (aD b br)
 have HV:=ab hv
 have HS:=ab hs
 have Hn:=ab hn
 have GW:=ab cB
 clear eL qK br h hv hs hn cB
 refine calls_of_wp Tryz.func33 OJ ?_
 obtain ⟨tl,pL⟩:∃t,Sp=t:=⟨_,rfl⟩
 rw[pL]
 obtain ⟨Q,hQ⟩:∃Q,bodyPost Tryz.prog Tryz.f33 (CR lo b NF W (iB s))=Q:=⟨_,rfl⟩
 rw[hQ]
 unfold OL
 dsimp only[Tryz.f33]
 simp only[List.size_toArray,List.length_cons,List.length_nil,Nat.reduceAdd,Nat.reduceSub,Array.replicate_succ,Array.replicate_zero,List.push_toArray,List.append_toArray,List.nil_append,List.cons_append]
 go_wp2_with fail
 refine (aa HC).mono ?_
 intro e w1 hw
 rcases hw.split with ⟨y,hr,rfl,hg⟩|⟨f,s1,hr,rfl,h1,hg⟩
 ·show Q (Exit.panic _) _ _
  rw[←hQ]
  refine ⟨rfl,?_⟩
  unfold iB
  rw[hr]
  exact ⟨rfl,(aa CD).trans hg⟩
 ·cases f with
  |false =>
   have HW:=ab (jn h1)
   have HF:Hid (iB s=.error (bR s1)):=by show _=_;unfold iB;rw[hr]
   have Hg:=ab hg
   clear hw hr hg h1 HC
   go_wp2_with fail
   refine (aa HW).mono ?_
   rintro e w2 ⟨rfl,hb⟩
   show Q (Exit.panic _) _ _
   rw[←hQ]
   refine ⟨rfl,?_⟩
   rw[aa HF]
   exact ⟨rfl,((aa CD).trans (aa Hg)).trans (aD b hb)⟩
  |true =>
   have HF:Hid (iB s=match au ⟨#[61]⟩ s1 with|.error e=>.error e|.ok (_,s2)=>match bB dF s2 with|.error e=>.error e|.ok (_,s3)=>match au ⟨#[59]⟩ s3 with|.error e=>.error e|.ok (_,s4)=>iZ s4):=by
    show _=_
    unfold iB
    rw[hr]
   have HN1:=ab (dw h1 ⟨#[61]⟩)
   have rZ:=ab hg
   have Hs1:=ab (dQ hr)
   clear hw hr hg h1 HC
   go_wp2_with fail
   refine (aa HN1).mono ?_
   intro e w2 hw
   rcases hw.split with ⟨y,hr,rfl,hg⟩|⟨uu2,s2,hr,rfl,h2,hg⟩
   ·show Q (Exit.panic _) _ _
    rw[←hQ]
    refine ⟨rfl,?_⟩
    rw[aa HF,hr]
    exact ⟨rfl,((aa CD).trans (aa rZ)).trans hg⟩
   ·have nB:Hid (iB s=match bB dF s2 with|.error e=>.error e|.ok (_,s3)=>match au ⟨#[59]⟩ s3 with|.error e=>.error e|.ok (_,s4)=>iZ s4):=by show _=_;rw[aa HF,hr]
    have rY:=ab ((aa rZ).trans hg)
    have Hs2:=ab ((aa Hs1).trans (bw hr))
    have HM:=ab (qc ((aa HV).step ((aa CD).trans ((aa rZ).trans hg))) h2)
    clear hw hr hg h2 HN1 HF rZ Hs1
    go_wp2_with fail
    refine (aa HM).mono ?_
    intro e w3 hw
    rcases hw.split with ⟨y,hr,rfl,hg⟩|⟨yy3,s3,hr,rfl,h3,hg⟩
    ·show Q (Exit.panic _) _ _
     rw[←hQ]
     refine ⟨rfl,?_⟩
     rw[aa nB,hr]
     exact ⟨rfl,((aa CD).trans (aa rY)).trans hg⟩
    ·have HF3:Hid (iB s=match au ⟨#[59]⟩ s3 with|.error e=>.error e|.ok (_,s4)=>iZ s4):=by show _=_;rw[aa nB,hr]
     have qN:=ab ((aa rY).trans hg)
     have Hs3:=ab ((aa Hs2).trans (ju hr).1.gi)
     have EM:=ab (dw h3 ⟨#[59]⟩)
     clear hw hr hg h3 HM nB rY Hs2
     go_wp2_with fail
     refine (aa EM).mono ?_
     intro e w4 hw
     rcases hw.split with ⟨y,hr,rfl,hg⟩|⟨uu4,s4,hr,rfl,h4,hg⟩
     ·show Q (Exit.panic _) _ _
      rw[←hQ]
      refine ⟨rfl,?_⟩
      rw[aa HF3,hr]
      exact ⟨rfl,((aa CD).trans (aa qN)).trans hg⟩
     ·have HF4:Hid (iB s=iZ s4):=by show _=_;rw[aa HF3,hr]
      have ld:=(aa qN).trans hg
      have Uf:=ab ld
      have Hs4:=ab ((aa Hs3).trans (bw hr))
      have Hp2:=ab (aa S7 _ ld)
      have H4:=ab h4
      clear hw hr hg h4 ld EM HF3 qN Hs3
      go_wp2
      rw[←pL,←hQ]
      refine ON (p2:=W.heap.size) (u:=fun i=>[undef,undef,undef,undef,undef,.pointer (some ⟨b,0,none⟩),.bool true,.bool false,undef,undef,.pointer (some ⟨b,0,none⟩),ub uu2,.pointer (some ⟨b,0,none⟩),.string yy3,.pointer (some ⟨b,0,none⟩),ub uu4].getD i undef) ((aa HV).step ((aa CD).trans (aa Uf))) (aa H4) ((aa Hs4).sm (aa HS)) (by have:=(aa Hs4).len;have:=aa Hn;omega) ((aa CD).trans (aa Uf)) (aa Hp2) ⟨(aa GW).2,zD _⟩ ?_
      intro e w5 kz
      rw[aa HF4]
      exact kz
end Go.Proofs.YtjophoclfccmcaaGreatDoor

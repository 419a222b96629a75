import Derived.Test.YtmlphohdcejniaaGreatDoorM22
set_option maxHeartbeats 4000000
set_option maxRecDepth 100000
namespace Go.Proofs.YtmlphohdcejniaaGreatDoor
open Go.RowKit
attribute [local go_sem ↓] Go.wp_at_zero Go.wp_at_succ
theorem ru {lo hi:Int}{mi:Bool}{s s1:aI}{n:Int} (h:dh lo hi mi s=.ok (n,s1)):Gt s s1:=by
 unfold dh at h
 split at h
 ·cases h
 ·rename_i u s2 h2
  split at h
  ·cases h
  ·rename_i m s3 h3
   split at h
   ·cases h
   ·split at h
    ·cases h
    ·rename_i u4 s4 h4
     simp only[Except.ok.injEq,Prod.mk.injEq] at h
     obtain ⟨_,rfl⟩:=h
     exact ((bN h2).gt (qH h3)).dL (bN h4)
theorem mN {s s1:aI}{x:ByteArray} (h:cq s=.ok (x,s1)) (he:s.en.kind=5):0<s.ts.length:=bP he (by rw[(nk h).2.2];decide)
theorem Cs {s s1:aI}{v:ByteArray×Int} (h:iX s=.ok (v,s1)):Gt s s1∧(s.en.kind=5→0<s.ts.length):=by
 unfold iX at h
 split at h
 ·cases h
 ·rename_i x s2 h2
  split at h
  ·cases h
  ·rename_i n s3 h3
   simp only[Except.ok.injEq,Prod.mk.injEq] at h
   obtain ⟨_,rfl⟩:=h
   exact ⟨(kD (s:=s.begun) h2).dL (ru h3).iY,fun he=>mN (s:=s.begun) h2 he⟩
theorem Ao {bl bh:Int}{bm:Bool}{rs:List (Int×Int)}{gs:List ByteArray}{s s':aI}{l:List (Int×Int)×List ByteArray} (h:ki bl bh bm rs gs s=.ok (l,s')):Gt s s':=by
 unfold ki at h
 split at h
 ·cases h
 ·rename_i u s1 h1
  split at h
  ·split at h
   ·cases h
   ·rename_i l2 s2 h2
    simp only[Except.ok.injEq,Prod.mk.injEq] at h
    obtain ⟨_,rfl⟩:=h
    exact (de h1).dL (oT (fun s a s1 h=>(tY h).iY) h2)
  ·split at h
   ·cases h
   ·rename_i l2 s2 h2
    simp only[Except.ok.injEq,Prod.mk.injEq] at h
    obtain ⟨_,rfl⟩:=h
    exact (de h1).dL (oT (fun s a s1 h=>(Am h).iY) h2)
theorem lX {σ:Type}{F:ByteArray→Option (fU σ)}{O:fU σ} (hF:∀k f,F k=some f→∀x s x' s',f x s=.ok (x',s')→Gt s s') (hO:∀x s x' s',O x s=.ok (x',s')→Gt s s'∧(s.en.kind=5→0<s.ts.length)) {x x':σ}{s s':aI} (h:cj F O x s=.ok (x',s')):Gt s s'∧(s.en.kind=5→0<s.ts.length):=by
 unfold cj at h
 split at h
 ·cases h
 ·rename_i s1 h1
  simp only[Except.ok.injEq,Prod.mk.injEq] at h
  obtain ⟨_,rfl⟩:=h
  rcases lH h1 with ⟨e,_⟩|⟨_,h2,h3⟩
  ·cases e
  ·exact ⟨.tail h2 (Fg h1),fun he=>bP he (by rw[h3];decide)⟩
 ·split at h
  ·rename_i f hf
   split at h
   ·rename_i hk
    exact ⟨hF _ _ hf _ _ _ _ h,fun he=>bP he (by rw[hk];decide)⟩
   ·exact hO _ _ _ _ h
  ·exact hO _ _ _ _ h
theorem tN {σ:Type}{F:ByteArray→Option (fU σ)}{O:fU σ} (hF:∀k f,F k=some f→∀x s x' s',f x s=.ok (x',s')→Gt s s') (hO:∀x s x' s',O x s=.ok (x',s')→Gt s s'∧(s.en.kind=5→0<s.ts.length)) {x x':σ}{s s':aI} (he:s.en.kind=5) (h:cj F O x s=.ok (x',s')):s'.ts.length<s.ts.length:=by
 obtain ⟨h1,h2⟩:=lX hF hO h
 exact h1.lt (h2 he)
theorem yk {σ:Type}{st:fU σ} (Iy:∀x s x' s',st x s=.ok (x',s')→kP s s'):∀(n:Nat) (x:σ) (s:aI) (x':σ) (s':aI),fJ st n x s=.ok (x',s')→kP s s'∧dD s'.here 4 ⟨#[125]⟩=true
 |0,_,_,_,_,h=>by cases h
 |n+1,x,s,x',s',h=>by
  unfold fJ at h
  split at h
  ·rename_i hp
   simp only[Except.ok.injEq,Prod.mk.injEq] at h
   obtain ⟨_,rfl⟩:=h
   exact ⟨.refl _,hp⟩
  ·split at h
   ·cases h
   ·rename_i x1 s1 h1
    obtain ⟨h2,h3⟩:=yk Iy n _ _ _ _ h
    exact ⟨(Iy _ _ _ _ h1).trans h2,h3⟩
theorem kX {σ:Type}{st:fU σ} (Iy:∀x s x' s',st x s=.ok (x',s')→kP s s') {x x':σ}{s s':aI} (h:ie st x s=.ok (x',s')):kP s s'∧dD s'.here 4 ⟨#[125]⟩=true:=by
 unfold ie at h
 split at h
 ·cases h
 ·rename_i u s1 h1
  obtain ⟨h2,h3⟩:=yk Iy _ _ _ _ _ h
  exact ⟨(bN h1).trans h2,h3⟩
theorem qp {t:Tk}{k:Int}{x:ByteArray} (h:dD t k x=true):t.kind=k:=by
 unfold dD at h
 rw[Bool.and_eq_true] at h
 exact eq_of_beq h.1
def dC {σ:Type}:fU σ:=fun _ s=>.error (52,s.here.spot)
noncomputable def NR:fU En:=fun x s=>match iX s with
 |.error e=>.error e
 |.ok (v,s')=>.ok ({ x with bJ:=x.bJ++[v] },s')
noncomputable def Tz:fU En:=fun x s=>match ki (-2147483648) 2147483647 true x.res x.gone s with
 |.error e=>.error e
 |.ok (l,s')=>.ok ({ x with res:=l.1,gone:=l.2 },s')
noncomputable def Dk:ByteArray→Option (fU En):=fun k=>if (k==⟨#[114,101,115,101,114,118,101,100]⟩)=true then some Tz else if (k==⟨#[111,112,116,105,111,110]⟩)=true then some dC else none
theorem EF (x:En) (s:aI) (x':En) (s':aI) (h:NR x s=.ok (x',s')):Gt s s'∧(s.en.kind=5→0<s.ts.length):=by
 unfold NR at h
 split at h
 ·cases h
 ·rename_i v s1 h1
  simp only[Except.ok.injEq,Prod.mk.injEq] at h
  obtain ⟨_,rfl⟩:=h
  exact Cs h1
theorem EE (k:ByteArray) (f:fU En) (hf:Dk k=some f) (x:En) (s:aI) (x':En) (s':aI) (h:f x s=.ok (x',s')):Gt s s':=by
 unfold Dk at hf
 split at hf
 ·obtain rfl:=zC hf
  unfold Tz at h
  split at h
  ·cases h
  ·rename_i l s1 h1
   simp only[Except.ok.injEq,Prod.mk.injEq] at h
   obtain ⟨_,rfl⟩:=h
   exact Ao h1
 ·split at hf
  ·obtain rfl:=zC hf
   cases h
  ·cases hf
noncomputable def iQ (s:aI):Except (Int×Int) (En×aI):=match bE s.begun with
 |.error e=>.error e
 |.ok (_,s1)=>match cq s1 with
  |.error e=>.error e
  |.ok (nm,s2)=>match ie (cj Dk NR) ⟨nm,[],[],[]⟩ s2 with
   |.error e=>.error e
   |.ok (x,s3)=>if x.bJ.length=0 then .error (cK s3) else match bE s3 with
    |.error e=>.error e
    |.ok (_,s4)=>.ok (x,s4)
theorem tZ {s s':aI}{x:En} (h:iQ s=.ok (x,s')):Gt s s':=by
 unfold iQ at h
 split at h
 ·cases h
 ·rename_i u s1 h1
  split at h
  ·cases h
  ·rename_i nm s2 h2
   split at h
   ·cases h
   ·rename_i x3 s3 h3
    split at h
    ·cases h
    ·split at h
     ·cases h
     ·rename_i u4 s4 h4
      simp only[Except.ok.injEq,Prod.mk.injEq] at h
      obtain ⟨_,rfl⟩:=h
      exact (((de (s:=s.begun) h1).dL (kD h2).iY).dL (kX (fun x s x' s' h=>(lX EE EF h).1.iY) h3).1).dL (de h4).iY
def Z7 (x:En) (vv vr vg:Value):List Slot:=[⟨94,2,vv,x.bJ.length,wH x.bJ⟩,⟨111,2,vr,x.res.length,kz x.res⟩,⟨9,1,vg,x.gone.length,bS x.gone⟩]
def N0 (lo b g:Nat) (nm:ByteArray) (N:(Nat→Prop)→World→Prop) (V W:World) (x:En) (s:aI) (w:World):Prop:=x.name=nm∧(∃vv vr vg,Ap lo b g 68 nm (Z7 x vv vr vg) N V W s w)∧(x.bJ.length+s.ts.length≤20000∧x.res.length+s.ts.length≤20000∧x.gone.length+s.ts.length≤20000)∧Sm s∧s.ts.length≤16384
theorem N0.step {lo b g:Nat}{nm:ByteArray}{N:(Nat→Prop)→World→Prop}{V W w w':World}{x:En}{s s':aI} (h:N0 lo b g nm N V W x s w) (hN:aK N) (hr:Rd lo w' b s') (hg:w.grownBy w' (some b)) (hs:kP s s'):N0 lo b g nm N V W x s' w':=by
 obtain ⟨h0,⟨vv,vr,vg,aZ⟩,hl,fT,hn⟩:=h
 have:=hs.len
 exact ⟨h0,⟨vv,vr,vg,aZ.read hN hr hg⟩,⟨by omega,by omega,by omega⟩,hs.sm fT,by omega⟩
theorem cV {σ:Type}{I:σ→aI→World→Prop}{Er:World→Prop}{lo b:Nat}{x:σ}{s:aI}{w:World} (hr:Rd lo w b s) (he:∀w',w.grownBy w' (some b)→Er w'):l9 (.func (.func 104) #[.pointer (some ⟨b,0,none⟩)] #[]) #[] w (IP I Er (dC x s)):=by
 refine ⟨_,_,_,rfl,EO w,?_⟩
 refine (j3 hr).mono ?_
 rintro e w' ⟨rfl,hb⟩
 exact ⟨rfl,he w' (aA b hb)⟩
theorem Tx {lo b g p1 pv:Nat}{nm:ByteArray}{N:(Nat→Prop)→World→Prop}{V W:World} (hN:aK N) (qa:∀P w,N P w→aP p1 #[.pointer (some ⟨b,0,none⟩)] 107 P w) (fX:∀P w,N P w→aP pv #[.pointer (some ⟨b,0,none⟩)] 107 P w) (kC:∀P w,N P w→aP (pv+1) #[.pointer (some ⟨g,0,none⟩)] 170 P w) (hm:∀P w,N P w→gL (pv+2) (kr pv b) P w) :
  CY (N0 lo b g nm N V W) (Sv g b W) lo b (pv+2) (kr pv b) (.func (.func 128) #[] #[.pointer (some ⟨g,0,none⟩),.pointer (some ⟨p1,0,none⟩)]) Dk NR:=by
 have her:∀x s w w',N0 lo b g nm N V W x s w→w.grownBy w' (some b)→Sv g b W w':=by
  rintro x s w w' ⟨_,⟨vv,vr,vg,aZ⟩,_⟩ hg
  exact aZ.sv.trans (Sv.of hg (by have:=aZ.bx.lt;omega))
 refine ⟨fun x s w h=>?_,fun x s w s' w' h hr hg hs=>h.step hN hr hg hs,her,fun x s w h=>?_,fun k=>?_,fun k v f hv hf x s w h hk ht=>?_,fun x s w h=>?_⟩
 ·obtain ⟨_,⟨vv,vr,vg,aZ⟩,_⟩:=h
  exact aZ.rd
 ·obtain ⟨_,⟨vv,vr,vg,aZ⟩,_⟩:=h
  exact ⟨_,hm _ _ aZ.nx⟩
 ·unfold kr Dk
  simp only[iN]
  by_cases q1:(k==⟨#[114,101,115,101,114,118,101,100]⟩)=true
  ·exact .inr ⟨_,_,_,_,by rw[if_pos q1],by rw[if_pos q1]⟩
  ·rw[if_neg q1,if_neg q1]
   by_cases q2:(k==⟨#[111,112,116,105,111,110]⟩)=true
   ·exact .inr ⟨_,_,_,_,by rw[if_pos q2],by rw[if_pos q2]⟩
   ·exact .inl ⟨by rw[if_neg q2],by rw[if_neg q2]⟩
 ·unfold kr at hv
  unfold Dk at hf
  simp only[iN] at hv
  have h0:=h
  obtain ⟨jd,⟨vv,vr,vg,aZ⟩,⟨l1,l2,l3⟩,fT,hn⟩:=h
  by_cases q1:(k==⟨#[114,101,115,101,114,118,101,100]⟩)=true
  ·rw[if_pos q1] at hv hf
   obtain rfl:=zC hv
   obtain rfl:=zC hf
   refine ⟨_,_,_,rfl,AK w,?_⟩
   refine (JG (pm:=pv+1) (pr:=pv) (rs:=x.res) (gs:=x.gone) (vr:=vr) (vg:=vg) aZ hN rfl rfl (bP aZ.rd.grown (by rw[hk];decide)) fT l2 l3 fX kC).mono ?_
   intro e w' hr
   unfold AQ at hr
   unfold Tz
   cases hq:ki (-2147483648) 2147483647 true x.res x.gone s with
   |error y =>
    rw[hq] at hr
    exact hr
   |ok y =>
    rw[hq] at hr
    obtain ⟨he,⟨v1,v2,gp⟩,k1,k2,k3⟩:=hr
    have cc:=(Ao hq).iY.len
    exact ⟨he,jd,⟨vv,v1,v2,gp⟩,⟨by simp only;omega,k1,k2⟩,k3,by omega⟩
  ·rw[if_neg q1] at hv hf
   by_cases q2:(k==⟨#[111,112,116,105,111,110]⟩)=true
   ·rw[if_pos q2] at hv hf
    obtain rfl:=zC hv
    obtain rfl:=zC hf
    exact cV aZ.rd (fun w' hg=>her x s w w' h0 hg)
   ·rw[if_neg q2] at hv
    cases hv
 ·have h0:=h
  obtain ⟨jd,⟨vv,vr,vg,aZ⟩,⟨l1,l2,l3⟩,fT,hn⟩:=h
  refine ⟨_,_,_,rfl,EP w,?_⟩
  refine (IM (pr:=p1) (bt:=24) (r:=iX s) (sl:=⟨94,2,vv,x.bJ.length,wH x.bJ⟩) (N1:=fun a x _ _=>x=NP a) aZ hN (fun _ _=>fun _ _ _ _ _ h=>h) rfl (Po rfl rfl) (by simp only;omega) (fun P w hw c hc=>?_) (fun w' kR=>(GA kR.ev kR.rd fT).mono fun e w2 h2=>h2.cr)).mono ?_
  ·simp only[List.mem_cons,List.not_mem_nil,or_false] at hc
   subst hc
   exact qa P w hw
  ·intro e w' hw
   unfold NR
   rcases CP.plain Pv hw with ⟨y,hr,rfl,hs⟩|⟨a,s',y,hr,rfl,h2⟩
   ·rw[hr]
    exact ⟨rfl,hs⟩
   ·rw[hr]
    obtain ⟨h3,h4⟩:=Cs hr
    have h5:=h3.lt (h4 aZ.rd.grown)
    refine ⟨rfl,jd,⟨y,vr,vg,h2⟩,⟨?_,by simp only;omega,by simp only;omega⟩,h3.iY.sm fT,by omega⟩
    simp only[zK,List.length_singleton]
    omega
theorem RL:(Tryz.prog.info? 68).map (·.size)=some 4:=by kernel_rfl
theorem gz {w:World}{g:Nat}{a0 a1 a2 a3:Value}{t:TypeId} (h:w.heap[g]?=some (.cells #[a0,a1,a2,a3] t (0,0))):(w.cell? ⟨g,0,none⟩=some a0∧w.cell? ⟨g,1,none⟩=some a1∧w.cell? ⟨g,2,none⟩=some a2∧w.cell? ⟨g,3,none⟩=some a3)∧∀j,w.frozen? ⟨g,j,none⟩=false:=by
 refine ⟨⟨?_,?_,?_,?_⟩,fun j=>by simp[World.frozen?,h]⟩<;>rw[cell_of_row _ _ _ _ _ _ h]<;>rfl
def fP (w:World) (g:Nat) (a0 a1 a2 a3:Value):World:=(((w.setCell ⟨g,0,none⟩ a0).setCell ⟨g,1,none⟩ a1).setCell ⟨g,2,none⟩ a2).setCell ⟨g,3,none⟩ a3
theorem fE {w:World}{g:Nat}{b0 b1 b2 b3:Value}{t:TypeId} (h:w.heap[g]?=some (.cells #[b0,b1,b2,b3] t (0,0))) (a0 a1 a2 a3:Value):(fP w g a0 a1 a2 a3).heap[g]?=some (.cells #[a0,a1,a2,a3] t (0,0))∧w.grownBy (fP w g a0 a1 a2 a3) (some g):=by
 obtain ⟨h0,g0⟩:=aJ (j:=0) h a0
 obtain ⟨h1,g1⟩:=aJ (j:=1) h0 a1
 obtain ⟨h2,g2⟩:=aJ (j:=2) h1 a2
 obtain ⟨h3,g3⟩:=aJ (j:=3) h2 a3
 exact ⟨h3,((g0.trans g1).trans g2).trans g3⟩
theorem iM {W0 W1 w:World}{g b:Nat} (h:W0.grownBy W1 (some b)) (k:Sv g b W1 w) (hl:W0.heap.size≤g):W0.grownBy w (some b):=⟨k.os.trans h.os,k.tape.trans h.tape,k.output.trans h.output,Nat.le_trans h.size k.size,fun i h1 h2=>(k.block i (by omega) (by simpa using h2)).trans (h.block i h1 h2)⟩
noncomputable def CD:Code:=match Tryz.f103.body with
 |some (.seq _ (.seq _ (.seq _ (.seq _ t))))=>t
 |_=>.skip
noncomputable def Mn (t:Code):Code:=match Tryz.f103.body with
 |some (.seq a (.seq b (.seq c (.seq d _))))=>.seq a (.seq b (.seq c (.seq d t)))
 |_=>.skip
theorem Mm:Tryz.f103.body=some (Mn CD):=rfl
noncomputable def PC:Code:=match CD with
 |.seq _ t=>t
 |_=>.skip
noncomputable def XA:Code:=match CD with
 |.seq a _=>a
 |_=>.skip
theorem IN:CD=.seq XA PC:=rfl
noncomputable def rC (x:En) (s:aI):Except (Int×Int) (En×aI):=if x.bJ.length=0 then .error (cK s) else match bE s with
 |.error e=>.error e
 |.ok (_,s4)=>.ok (x,s4)
theorem Mo {lo b g p1 p2:Nat}{nm:ByteArray}{N:(Nat→Prop)→World→Prop}{V W0 W1 w:World}{x:En}{s:aI}{e0 e1 e2 e3:Value} (h:N0 lo b g nm N V W1 x s w) (hN:aK N) (qa:∀P w,N P w→aP p1 #[.pointer (some ⟨b,0,none⟩)] 107 P w) (fX:∀P w,N P w→aP p2 #[e0,e1,e2,e3] 68 P w)
  (ib:dD s.here 4 ⟨#[125]⟩=true) (tX:W0.grownBy W1 (some b)) (dr:lo≤W0.heap.size∧W0.heap.size≤p2∧p2<g) {tm:Array Value} (bR:tm.size=25) (je:Gh tm [(1,.pointer (some ⟨p1,0,none⟩)),(2,.pointer (some ⟨p2,0,none⟩)),(3,.pointer (some ⟨g,0,none⟩))]) {R:Ending→World→Prop}
  (hR:∀e w,CR lo b NE W0 (rC x s) e w→R e w):PC.wp Tryz.prog (bodyPost Tryz.prog Tryz.f103 R) ⟨tm,[]⟩ w:=by
 have HR:=aj hR
 obtain ⟨jd,⟨vv,vr,vg,aZ⟩,hl,fT,hn⟩:=h
 obtain ⟨va,vc,Y9⟩:=bK (aZ.bx.own 0 _ rfl)
 obtain ⟨ra,rc,V6⟩:=bK (aZ.bx.own 1 _ rfl)
 obtain ⟨ga,gc,V8⟩:=bK (aZ.bx.own 2 _ rfl)
 simp only at Y9 V6 V8
 subst Y9 V6 V8
 obtain ⟨⟨b0,b1,b2,b3⟩,bf⟩:=gz aZ.bx.dt
 have c1:w.cell? ⟨p1,0,none⟩=some (.pointer (some ⟨b,0,none⟩)):=by rw[cell_of_row _ _ _ _ _ _ (qa _ _ aZ.nx).1];rfl
 have HA:=aj aZ
 have HN:=aj hN
 have Ud:=aj qa
 have ny:=aj fX
 have T':=aj ib
 have QY:=aj tX
 have Na:=aj dr
 have Hnm:=aj jd
 have hlen:x.bJ.length≤20000:=by omega
 obtain ⟨L,hL⟩:∃L,x.bJ.length=L:=⟨_,rfl⟩
 have HL:=aj hL
 rw[hL] at b1 hlen
 obtain ⟨u,rfl⟩:=At bR
 obtain ⟨f1,f2,f3,_⟩:=je
 replace f1:u 1=.pointer (some ⟨p1,0,none⟩):=zC f1
 replace f2:u 2=.pointer (some ⟨p2,0,none⟩):=zC f2
 replace f3:u 3=.pointer (some ⟨g,0,none⟩):=zC f3
 rw[f1,f2,f3]
 clear f1 f2 f3 bR hR aZ hN qa fX ib tX dr hl fT hn jd hL bf
 obtain ⟨Q,hQ⟩:∃Q,bodyPost Tryz.prog Tryz.f103 R=Q:=⟨_,rfl⟩
 rw[hQ]
 unfold PC CD
 dsimp only[Tryz.f103]
 have WV:∀y w',rC x s=.error y→w.grownBy w' (some b)→R (oD y.1 y.2) w':=fun y w' hy hg=>aa HR _ _ (by rw[hy];exact ⟨rfl,iM (aa QY) ((aa HA).sv.trans (Sv.of hg (by have:=(aa HA).bx.lt;omega))) (by have:=aa Na;omega)⟩)
 have T7:=aj WV
 clear WV
 by_cases hz:L=0
 ·subst hz
  have HW:=aj (ig (aa HA).rd)
  go_wp2_with fail
  refine (aa HW).mono ?_
  rintro e w2 ⟨rfl,bH⟩
  rw[←hQ]
  refine ⟨rfl,aa T7 (cK s) w2 ?_ (aA b bH)⟩
  unfold rC
  rw[if_pos (aa HL)]
 ·have oK:((L:Int)==0)=false:=beq_eq_false_iff_ne.2 (by omega)
  have HC:=aj (cY (aa HA).rd (bP (aa HA).rd.grown (by rw[qp (aa T')];decide)))
  have HEq:Hid (rC x s=match bE s with|.error e=>.error e|.ok (_,s4)=>.ok (x,s4)):=by
   show _=_
   unfold rC
   rw[if_neg (by rw[aa HL];exact hz)]
  clear hz
  go_wp2_with fail
  refine (aa HC).mono ?_
  intro e w2 hw
  rcases hw.split with ⟨y,hr,rfl,hg⟩|⟨_,s4,hr,rfl,h4,hg⟩
  ·rw[←hQ]
   refine ⟨rfl,aa T7 y w2 ?_ hg⟩
   rw[aa HEq,hr]
  ·have wC:=(aa HA).read (aa HN) h4 hg
   obtain ⟨⟨d0,d1,d2,d3⟩,_⟩:=gz wC.bx.dt
   obtain ⟨⟨y0,y1,y2,y3⟩,yf⟩:=gz (aa ny _ _ wC.nx).1
   have f0:=yf 0
   have f1:=yf 1
   have f2:=yf 2
   have f3:=yf 3
   obtain ⟨r1,r2⟩:=fE (aa ny _ _ wC.nx).1 (.string nm) (.slice va x.bJ.length vc) (.slice ra x.res.length rc) (.slice ga x.gone.length gc)
   have cC:∀(i:Nat) (sl:Slot),(Z7 x (.slice va x.bJ.length vc) (.slice ra x.res.length rc) (.slice ga x.gone.length gc))[i]?=some sl→eQ (fun k=>W0.heap.size≤k) (fP w2 p2 (.string nm) (.slice va x.bJ.length vc) (.slice ra x.res.length rc) (.slice ga x.gone.length gc)) sl.t sl.sz sl.v sl.n sl.xs:=fun i sl hi=>by
    have h1:=wC.bx.own i sl hi
    have h2:=aa Na
    refine ⟨jy (World.ownsRow.kept h1 r2 ?_) (Nat.zero_le _),fun k hk=>?_⟩
    ·right
     intro e
     have:=(h1.lt p2 e).1
     omega
    ·have:=(h1.lt k hk).1
     omega
   have HE:Hid (R (.returned (.agg #[.string nm,.slice va x.bJ.length vc,.slice ra x.res.length rc,.slice ga x.gone.length gc])) (fP w2 p2 (.string nm) (.slice va x.bJ.length vc) (.slice ra x.res.length rc) (.slice ga x.gone.length gc))):=by
    refine aa HR _ _ ?_
    rw[aa HEq,hr]
    refine ⟨_,rfl,⟨_,rfl,?_⟩,gf h4 r2 (by have:=aa Na;omega),cW (iM (aa QY) wC.sv (by have:=aa Na;omega)) r2 (by have:=aa Na;omega)⟩
    have j8:=aa Hnm
    rw[←j8] at cC ⊢
    exact .cons (cC 0 _ rfl) (cC 1 _ rfl) (cC 2 _ rfl) .nil
   have R1:=aj r1
   have c14:w2.cell? ⟨p1,0,none⟩=some (.pointer (some ⟨b,0,none⟩)):=by rw[cell_of_row _ _ _ _ _ _ (aa Ud _ _ wC.nx).1];rfl
   unfold fP at HE R1
   clear hw hr h4 hg wC yf r1 r2 cC HC HEq T7 c1 b0 b1 b2 b3
   go_wp2
   rw[←hQ]
   exact bodyPost_ret (results_cell_row rfl _ _ p2 68 #[.string nm,.slice va x.bJ.length vc,.slice ra x.res.length rc,.slice ga x.gone.length gc] (0,0) _ rfl (aa R1) Tryz.underlying68 rfl RL) rfl (aa HE)
end Go.Proofs.YtmlphohdcejniaaGreatDoor

import Derived.Test.YtmlphohdcejniaaGreatDoorPbS
namespace Go.Proofs.YtmlphohdcejniaaGreatDoor
open Go.RowKit
attribute [local go_sem ↓] Go.wp_at_zero Go.wp_at_succ
theorem QM {d x:Fd}{s s':aI} (h:Ib d s=.ok (x,s')):Gt s s'∧(s.en.kind=5→0<s.ts.length):=by
 unfold Ib at h
 split at h
 ·cases h
 ·rename_i n s1 h1
  split at h
  ·cases h
  ·rename_i m s2 h2
   simp only[Except.ok.injEq,Prod.mk.injEq] at h
   obtain ⟨_,rfl⟩:=h
   exact ⟨(kD h1).dL (ru h2).iY,mN h1⟩
theorem DP {da:Bool}{s s1:aI}{x:ByteArray} (h:dE da s=.ok (x,s1)) (he:s.en.kind=5):0<s.ts.length:=by
 unfold dE at h
 split at h
 ·cases h
 ·rename_i d s2 h2
  unfold gw at h
  split at h
  ·cases h
  ·rename_i y s3 h3
   split at h2
   ·rcases lH h2 with ⟨_,rfl⟩|⟨_,_,hk⟩
    ·exact mN h3 he
    ·exact bP he (by rw[hk];decide)
   ·simp only[Except.ok.injEq,Prod.mk.injEq] at h2
    rw[←h2.2] at h3
    exact mN h3 he
theorem Cu {d x:Fd}{s s':aI} (h:gZ d s=.ok (x,s')):Gt s s'∧(s.en.kind=5→0<s.ts.length):=by
 unfold gZ at h
 split at h
 ·cases h
 ·rename_i y s1 h1
  exact ⟨(fA h1).gt (QM h).1,DP h1⟩
theorem lq {o:Int}{x:Fd}{s s':aI} (h:gg o s=.ok (x,s')):Gt s s'∧(s.en.kind=5→0<s.ts.length):=Cu (s:=s.begun) h
theorem kE {c:Int}{x:Fd}{s s':aI} (h:db c s=.ok (x,s')):Gt s s':=by
 unfold db at h
 split at h
 ·cases h
 ·rename_i u s1 h1
  split at h
  ·cases h
  ·exact (de (s:=s.begun) h1).dL (Cu h).1.iY
theorem LU {x:Fd}{s s':aI} (h:cx s=.ok (x,s')):Gt s s':=by
 unfold cx at h
 split at h
 ·unfold vL at h
  split at h
  ·cases h
  ·rename_i u s1 h1
   split at h
   ·cases h
   ·rename_i u2 s2 h2
    split at h
    ·cases h
    ·rename_i k s3 h3
     split at h
     ·cases h
     ·rename_i u4 s4 h4
      split at h
      ·cases h
      ·rename_i t s5 h5
       split at h
       ·cases h
       ·rename_i u6 s6 h6
        exact (((((de (s:=s.begun) h1).dL (bN h2)).dL (fA h3)).dL (bN h4)).dL (fA h5)).dL ((bN h6).trans (QM h).1.iY)
 ·exact (lq h).1
structure Mp where
 name:ByteArray
 fs:List Fd
 os:List ByteArray
 ms:List Ms
 es:List En
 rs:List (Int×Int)
 gs:List ByteArray
def Mp.done (x:Mp):Ms:=.mk x.name x.fs x.os x.ms x.es x.rs x.gs
def Av (x:Mp):Except (Int×Int) (Fd×aI)→Except (Int×Int) (Mp×aI)
 |.error e=>.error e
 |.ok (d,s')=>.ok ({ x with fs:=x.fs++[d] },s')
noncomputable def KA:fU Mp:=fun x s=>Av x (gg (x.os.length:Int) s)
noncomputable def Un:fU Mp:=fun x s=>Av x (gg 0 s)
noncomputable def VS (c:Int):fU Mp:=fun x s=>Av x (db c s)
noncomputable def FF:fU Mp:=fun x s=>Av x (cx s)
def Tu (x:Mp):Except (Int×Int) (En×aI)→Except (Int×Int) (Mp×aI)
 |.error e=>.error e
 |.ok (d,s')=>.ok ({ x with es:=x.es++[d] },s')
def RY (x:Mp):Except (Int×Int) (Ms×aI)→Except (Int×Int) (Mp×aI)
 |.error e=>.error e
 |.ok (d,s')=>.ok ({ x with ms:=x.ms++[d] },s')
noncomputable def VT:fU Mp:=fun x s=>Tu x (iQ s)
def VR (mf:aI→Except (Int×Int) (Ms×aI)):fU Mp:=fun x s=>RY x (mf s)
noncomputable def Ny:fU Mp:=fun x s=>match ki 1 536870911 false x.rs x.gs s with
 |.error e=>.error e
 |.ok (l,s')=>.ok ({ x with rs:=l.1,gs:=l.2 },s')
def AI:ByteArray→Option (fU Mp):=fun k=>if (k==⟨#[111,112,116,105,111,110]⟩)=true then some dC else if (k==⟨#[103,114,111,117,112]⟩)=true then some dC else if (k==⟨#[111,112,116,105,111,110,97,108]⟩)=true then some dC else if (k==⟨#[114,101,112,101,97,116,101,100]⟩)=true then some dC else if (k==⟨#[114,101,113,117,105,114,101,100]⟩)=true then some dC else if (k==⟨#[111,110,101,111,102]⟩)=true then some dC else if (k==⟨#[109,101,115,115,97,103,101]⟩)=true then some dC else if (k==⟨#[101,110,117,109]⟩)=true then some dC else if (k==⟨#[114,101,115,101,114,118,101,100]⟩)=true then some dC else none
def lO (k:Nat) (x:Mp) (s:aI):Except (Int×Int) (Mp×aI):=if x.fs.length=k then .error (cK s) else match bE s with
 |.error e=>.error e
 |.ok (_,s')=>.ok (x,s')
noncomputable def jA (k:Nat) (x:Mp) (s:aI):Except (Int×Int) (Mp×aI):=match ie (cj AI KA) x s with
 |.error e=>.error e
 |.ok (x2,s2)=>lO k x2 s2
noncomputable def ja:fU Mp:=fun x s=>match bE s.begun with
 |.error e=>.error e
 |.ok (_,s1)=>match cq s1 with
  |.error e=>.error e
  |.ok (nm,s2)=>jA x.fs.length { x with os:=x.os++[nm] } s2
noncomputable def BY (mf:aI→Except (Int×Int) (Ms×aI)):ByteArray→Option (fU Mp):=fun k=>if (k==⟨#[109,101,115,115,97,103,101]⟩)=true then some (VR mf) else if (k==⟨#[101,110,117,109]⟩)=true then some VT else if (k==⟨#[111,110,101,111,102]⟩)=true then some ja else if (k==⟨#[114,101,115,101,114,118,101,100]⟩)=true then some Ny else if (k==⟨#[111,112,116,105,111,110,97,108]⟩)=true then some (VS 2) else if (k==⟨#[114,101,112,101,97,116,101,100]⟩)=true then some (VS 3) else if (k==⟨#[109,97,112]⟩)=true then some FF else if (k==⟨#[111,112,116,105,111,110]⟩)=true then some dC else if (k==⟨#[101,120,116,101,110,100]⟩)=true then some dC else if (k==⟨#[101,120,116,101,110,115,105,111,110,115]⟩)=true then some dC else if (k==⟨#[103,114,111,117,112]⟩)=true then some dC else if (k==⟨#[114,101,113,117,105,114,101,100]⟩)=true then some dC else none
def aI.Nr (s:aI):aI:={ s with op:=s.op+1 }
def aI.CE (s:aI):aI:={ s with op:=s.op-1 }
def vH (x:Mp) (s:aI):Except (Int×Int) (Ms×aI):=match bE s with
 |.error e=>.error e
 |.ok (_,s')=>.ok (x.done,s'.CE)
noncomputable def lR (mf:aI→Except (Int×Int) (Ms×aI)) (nm:ByteArray) (s:aI):Except (Int×Int) (Ms×aI):=match ie (cj (BY mf) Un) ⟨nm,[],[],[],[],[],[]⟩ s.Nr with
 |.error e=>.error e
 |.ok (x,s3)=>vH x s3
noncomputable def bB:Nat→aI→Except (Int×Int) (Ms×aI)
 |0,_=>.error (0,0)
 |n+1,s=>if s.op=32 then .error (53,s.here.spot) else match bE s.begun with
  |.error e=>.error e
  |.ok (_,s1)=>match cq s1 with
   |.error e=>.error e
   |.ok (nm,s2)=>lR (bB n) nm s2
theorem Au {x x':Mp}{s s':aI}{r:Except (Int×Int) (Fd×aI)} (h:Av x r=.ok (x',s')) (hg:∀d s1,r=.ok (d,s1)→Gt s s1):Gt s s':=by
 cases r with
 |error e=>cases h
 |ok y =>
  simp only[Av,Except.ok.injEq,Prod.mk.injEq] at h
  obtain ⟨_,rfl⟩:=h
  exact hg _ _ rfl
theorem lu {x x':Mp}{s s':aI}{o:Int} (h:Av x (gg o s)=.ok (x',s')):Gt s s'∧(s.en.kind=5→0<s.ts.length):=by
 cases hr:gg o s with
 |error e=>rw[hr] at h;cases h
 |ok y =>
  rw[hr] at h
  simp only[Av,Except.ok.injEq,Prod.mk.injEq] at h
  obtain ⟨_,rfl⟩:=h
  exact lq hr
theorem AH (k:ByteArray) (f:fU Mp) (hf:AI k=some f) (x:Mp) (s:aI) (x':Mp) (s':aI) (h:f x s=.ok (x',s')):Gt s s':=by
 unfold AI at hf
 by_cases q0:(k==⟨#[111,112,116,105,111,110]⟩)=true
 ·rw[if_pos q0] at hf
  obtain rfl:=zC hf
  cases h
 rw[if_neg q0] at hf
 by_cases q1:(k==⟨#[103,114,111,117,112]⟩)=true
 ·rw[if_pos q1] at hf
  obtain rfl:=zC hf
  cases h
 rw[if_neg q1] at hf
 by_cases q2:(k==⟨#[111,112,116,105,111,110,97,108]⟩)=true
 ·rw[if_pos q2] at hf
  obtain rfl:=zC hf
  cases h
 rw[if_neg q2] at hf
 by_cases q3:(k==⟨#[114,101,112,101,97,116,101,100]⟩)=true
 ·rw[if_pos q3] at hf
  obtain rfl:=zC hf
  cases h
 rw[if_neg q3] at hf
 by_cases q4:(k==⟨#[114,101,113,117,105,114,101,100]⟩)=true
 ·rw[if_pos q4] at hf
  obtain rfl:=zC hf
  cases h
 rw[if_neg q4] at hf
 by_cases q5:(k==⟨#[111,110,101,111,102]⟩)=true
 ·rw[if_pos q5] at hf
  obtain rfl:=zC hf
  cases h
 rw[if_neg q5] at hf
 by_cases q6:(k==⟨#[109,101,115,115,97,103,101]⟩)=true
 ·rw[if_pos q6] at hf
  obtain rfl:=zC hf
  cases h
 rw[if_neg q6] at hf
 by_cases q7:(k==⟨#[101,110,117,109]⟩)=true
 ·rw[if_pos q7] at hf
  obtain rfl:=zC hf
  cases h
 rw[if_neg q7] at hf
 by_cases q8:(k==⟨#[114,101,115,101,114,118,101,100]⟩)=true
 ·rw[if_pos q8] at hf
  obtain rfl:=zC hf
  cases h
 rw[if_neg q8] at hf
 cases hf
theorem Kx (x:Mp) (s:aI) (x':Mp) (s':aI) (h:ja x s=.ok (x',s')):Gt s s':=by
 unfold ja at h
 split at h
 ·cases h
 ·rename_i u s1 h1
  split at h
  ·cases h
  ·rename_i nm s2 h2
   unfold jA at h
   split at h
   ·cases h
   ·rename_i x3 s3 h3
    unfold lO at h
    split at h
    ·cases h
    ·split at h
     ·cases h
     ·rename_i u4 s4 h4
      simp only[Except.ok.injEq,Prod.mk.injEq] at h
      obtain ⟨_,rfl⟩:=h
      exact (((de (s:=s.begun) h1).dL (kD h2).iY).dL (kX (fun x s x' s' h=>(lX AH (fun x s x' s' h=>lu h) h).1.iY) h3).1).dL (de h4).iY
theorem DW (mf:aI→Except (Int×Int) (Ms×aI)) (WC:∀s m s',mf s=.ok (m,s')→Gt s s') (k:ByteArray) (f:fU Mp) (hf:BY mf k=some f) (x:Mp) (s:aI) (x':Mp) (s':aI) (h:f x s=.ok (x',s')):Gt s s':=by
 unfold BY at hf
 by_cases q0:(k==⟨#[109,101,115,115,97,103,101]⟩)=true
 ·rw[if_pos q0] at hf
  obtain rfl:=zC hf
  unfold VR at h
  cases hr:mf s with
  |error e=>rw[hr] at h;cases h
  |ok y =>
   rw[hr] at h
   simp only[RY,Except.ok.injEq,Prod.mk.injEq] at h
   obtain ⟨_,rfl⟩:=h
   exact WC _ _ _ hr
 rw[if_neg q0] at hf
 by_cases q1:(k==⟨#[101,110,117,109]⟩)=true
 ·rw[if_pos q1] at hf
  obtain rfl:=zC hf
  unfold VT at h
  cases hr:iQ s with
  |error e=>rw[hr] at h;cases h
  |ok y =>
   rw[hr] at h
   simp only[Tu,Except.ok.injEq,Prod.mk.injEq] at h
   obtain ⟨_,rfl⟩:=h
   exact tZ hr
 rw[if_neg q1] at hf
 by_cases q2:(k==⟨#[111,110,101,111,102]⟩)=true
 ·rw[if_pos q2] at hf
  obtain rfl:=zC hf
  exact Kx _ _ _ _ h
 rw[if_neg q2] at hf
 by_cases q3:(k==⟨#[114,101,115,101,114,118,101,100]⟩)=true
 ·rw[if_pos q3] at hf
  obtain rfl:=zC hf
  unfold Ny at h
  split at h
  ·cases h
  ·rename_i d s1 h1
   simp only[Except.ok.injEq,Prod.mk.injEq] at h
   obtain ⟨_,rfl⟩:=h
   exact Ao h1
 rw[if_neg q3] at hf
 by_cases q4:(k==⟨#[111,112,116,105,111,110,97,108]⟩)=true
 ·rw[if_pos q4] at hf
  obtain rfl:=zC hf
  exact Au h (fun d s1 hr=>kE hr)
 rw[if_neg q4] at hf
 by_cases q5:(k==⟨#[114,101,112,101,97,116,101,100]⟩)=true
 ·rw[if_pos q5] at hf
  obtain rfl:=zC hf
  exact Au h (fun d s1 hr=>kE hr)
 rw[if_neg q5] at hf
 by_cases q6:(k==⟨#[109,97,112]⟩)=true
 ·rw[if_pos q6] at hf
  obtain rfl:=zC hf
  exact Au h (fun d s1 hr=>LU hr)
 rw[if_neg q6] at hf
 by_cases q7:(k==⟨#[111,112,116,105,111,110]⟩)=true
 ·rw[if_pos q7] at hf
  obtain rfl:=zC hf
  cases h
 rw[if_neg q7] at hf
 by_cases q8:(k==⟨#[101,120,116,101,110,100]⟩)=true
 ·rw[if_pos q8] at hf
  obtain rfl:=zC hf
  cases h
 rw[if_neg q8] at hf
 by_cases q9:(k==⟨#[101,120,116,101,110,115,105,111,110,115]⟩)=true
 ·rw[if_pos q9] at hf
  obtain rfl:=zC hf
  cases h
 rw[if_neg q9] at hf
 by_cases Dc:(k==⟨#[103,114,111,117,112]⟩)=true
 ·rw[if_pos Dc] at hf
  obtain rfl:=zC hf
  cases h
 rw[if_neg Dc] at hf
 by_cases Nw:(k==⟨#[114,101,113,117,105,114,101,100]⟩)=true
 ·rw[if_pos Nw] at hf
  obtain rfl:=zC hf
  cases h
 rw[if_neg Nw] at hf
 cases hf
theorem qu:∀(n:Nat) (s:aI) (m:Ms) (s':aI),bB n s=.ok (m,s')→Gt s s'
 |0,s,m,s',h=>by cases h
 |n+1,s,m,s',h=>by
  unfold bB at h
  split at h
  ·cases h
  ·split at h
   ·cases h
   ·rename_i u s1 h1
    split at h
    ·cases h
    ·rename_i nm s2 h2
     unfold lR at h
     split at h
     ·cases h
     ·rename_i x s3 h3
      unfold vH at h
      split at h
      ·cases h
      ·rename_i u4 s4 h4
       simp only[Except.ok.injEq,Prod.mk.injEq] at h
       obtain ⟨_,rfl⟩:=h
       obtain ⟨k1,a1,b1,c1⟩:=(de (s:=s.begun) h1).dL (kD h2).iY
       obtain ⟨k2,a2,b2,c2⟩:=(kX (fun x s x' s' h=>(lX (DW _ (qu n)) (fun x s x' s' h=>lu h) h).1.iY) h3).1.trans (de h4).iY
       refine ⟨k1+k2,?_,?_,?_⟩
       ·show s4.ts=_
        rw[a2]
        show s2.ts.drop k2=_
        rw[a1,List.drop_drop]
        congr 1
        omega
       ·show s4.op-1=s.op
        rw[b2]
        show s2.op+1-1=s.op
        rw[b1]
        rfl
       ·show s4.en=s.en
        rw[c2]
        exact c1
def E0 (x:Mp) (vf vo vm ve vr vg:Value) (cm ce:List Value):List Slot:=[⟨70,6,vf,x.fs.length,gX x.fs⟩,⟨9,1,vo,x.os.length,bS x.os⟩,⟨64,7,vm,x.ms.length,cm⟩,⟨68,4,ve,x.es.length,ce⟩,⟨111,2,vr,x.rs.length,kz x.rs⟩,⟨9,1,vg,x.gs.length,bS x.gs⟩]
def rI (g:Nat) (N:(Nat→Prop)→World→Prop) (x:Mp) (cm ce:List Value) (P:Nat→Prop) (w:World):Prop:=N P w∧di (fun k=>P k∧g≤k) w cm x.ms∧eC (fun k=>P k∧g≤k) w ce x.es
theorem rI.st {g:Nat}{N:(Nat→Prop)→World→Prop} (hN:aK N) (x:Mp) (cm ce:List Value):aK (rI g N x cm ce):=hN.and (aK.and (fun _ _ _ _ hg h=>cS _ _ _ _ _ _ (hg.low g) h) (fun _ _ _ _ hg h=>cH _ _ _ _ _ _ (hg.low g) h))
def QX (K op:Nat) (x:Mp) (s:aI):Prop:=(x.fs.length+s.ts.length≤20000∧x.os.length+s.ts.length≤20000∧x.ms.length+s.ts.length≤20000∧x.es.length+s.ts.length≤20000∧x.rs.length+s.ts.length≤20000∧x.gs.length+s.ts.length≤20000)∧Sm s∧s.ts.length≤K∧s.op=op
def lD (lo b g K op:Nat) (nm:ByteArray) (N:(Nat→Prop)→World→Prop) (V W:World) (x:Mp) (s:aI) (w:World):Prop:=x.name=nm∧(∃vf vo vm ve vr vg cm ce,Ap lo b g 64 nm (E0 x vf vo vm ve vr vg cm ce) (rI g N x cm ce) V W s w)∧QX K op x s
theorem QX.step {K op:Nat}{x:Mp}{s s':aI} (h:QX K op x s) (hs:kP s s'):QX K op x s':=by
 obtain ⟨⟨l1,l2,l3,l4,l5,l6⟩,fT,hn,ju⟩:=h
 have:=hs.len
 exact ⟨⟨by omega,by omega,by omega,by omega,by omega,by omega⟩,hs.sm fT,by omega,hs.op.trans ju⟩
theorem lD.step {lo b g K op:Nat}{nm:ByteArray}{N:(Nat→Prop)→World→Prop}{V W w w':World}{x:Mp}{s s':aI} (h:lD lo b g K op nm N V W x s w) (hN:aK N) (hr:Rd lo w' b s') (hg:w.grownBy w' (some b)) (hs:kP s s'):lD lo b g K op nm N V W x s' w':=by
 obtain ⟨h0,⟨vf,vo,vm,ve,vr,vg,cm,ce,aZ⟩,hk⟩:=h
 exact ⟨h0,⟨vf,vo,vm,ve,vr,vg,cm,ce,aZ.read (rI.st hN _ _ _) hr hg⟩,hk.step hs⟩
theorem lD.er {lo b g K op:Nat}{nm:ByteArray}{N:(Nat→Prop)→World→Prop}{V W w w':World}{x:Mp}{s:aI} (h:lD lo b g K op nm N V W x s w) (hg:w.grownBy w' (some b)):Sv g b W w':=by
 obtain ⟨_,⟨vf,vo,vm,ve,vr,vg,cm,ce,aZ⟩,_⟩:=h
 exact aZ.sv.trans (Sv.of hg (by have:=aZ.bx.lt;omega))
theorem lD.rd {lo b g K op:Nat}{nm:ByteArray}{N:(Nat→Prop)→World→Prop}{V W w:World}{x:Mp}{s:aI} (h:lD lo b g K op nm N V W x s w):Rd lo w b s:=by
 obtain ⟨_,⟨vf,vo,vm,ve,vr,vg,cm,ce,aZ⟩,_⟩:=h
 exact aZ.rd
section
variable {lo b g K op : Nat} {nm : ByteArray} {N : (Nat → Prop) → World → Prop} {V W w : World} {x : Mp} {s : aI} {vf vo vm ve vr vg : Value} {cm ce : List Value} {e : Ending}
theorem vG {r:Except (Int×Int) (Fd×aI)} (jd:x.name=nm) (hk:QX K op x s) (hp:0<s.ts.length∨∀d s',r=.ok (d,s')→0<s.ts.length) (hg:∀d s',r=.ok (d,s')→Gt s s') (h:CP lo b g 64 nm (E0 x vf vo vm ve vr vg cm ce) (rI g N x cm ce) V W 0 ⟨70,6,vf,x.fs.length,gX x.fs⟩ r (fun a x _ _=>x=a.val) e w):IP (lD lo b g K op nm N V W) (Sv g b W) (Av x r) e w:=by
 rcases CP.plain L4 h with ⟨y,hr,rfl,hs⟩|⟨a,s',y,hr,rfl,h2⟩
 ·rw[hr]
  exact ⟨rfl,hs⟩
 ·have h3:=hg a s' hr
  have h4:=h3.lt (hp.elim id (fun h=>h a s' hr))
  rw[hr]
  obtain ⟨⟨l1,l2,l3,l4,l5,l6⟩,fT,hn,ju⟩:=hk
  exact ⟨rfl,jd,⟨y,vo,vm,ve,vr,vg,cm,ce,h2⟩,⟨⟨by simp only[zK,List.length_singleton];omega,by simp only;omega,by simp only;omega,by simp only;omega,by simp only;omega,by simp only;omega⟩,h3.iY.sm fT,by omega,h3.iY.op.trans ju⟩⟩
theorem OG {r:Except (Int×Int) (En×aI)} (jd:x.name=nm) (hk:QX K op x s) (hp:0<s.ts.length) (hg:∀d s',r=.ok (d,s')→Gt s s') (h:CP lo b g 64 nm (E0 x vf vo vm ve vr vg cm ce) (rI g N x cm ce) V W 3 ⟨68,4,ve,x.es.length,ce⟩ r (TP g) e w):IP (lD lo b g K op nm N V W) (Sv g b W) (Tu x r) e w:=by
 unfold CP at h
 cases hr:r with
 |error y =>
  rw[hr] at h
  exact h
 |ok z =>
  rw[hr] at h
  obtain ⟨he,v,y,aZ⟩:=h
  have h3:=hg z.1 z.2 hr
  have h4:=h3.lt hp
  obtain ⟨⟨l1,l2,l3,l4,l5,l6⟩,fT,hn,ju⟩:=hk
  refine ⟨he,jd,⟨vf,vo,vm,y,vr,vg,cm,ce++v.cells.toList,?_⟩,⟨⟨by simp only;omega,by simp only;omega,by simp only;omega,by simp only[zK,List.length_singleton];omega,by simp only;omega,by simp only;omega⟩,h3.iY.sm fT,by omega,h3.iY.op.trans ju⟩⟩
  have h5:=aZ.imp (N':=rI g N { x with es:=x.es++[z.1] } cm (ce++v.cells.toList)) (fun hh=>by
   obtain ⟨⟨q1,q2,q3⟩,cs,e1,q4⟩:=hh
   have e2:cs.toList=v.cells.toList:=by rw[e1];rfl
   have h9:=q3.app q4
   rw[e2] at h9
   exact ⟨q1,q2,h9⟩)
  unfold E0
  simp only[zK,List.length_singleton]
  exact h5
theorem R4 {r:Except (Int×Int) (Ms×aI)} (jd:x.name=nm) (hk:QX K op x s) (hp:0<s.ts.length) (hg:∀d s',r=.ok (d,s')→Gt s s') (h:CP lo b g 64 nm (E0 x vf vo vm ve vr vg cm ce) (rI g N x cm ce) V W 2 ⟨64,7,vm,x.ms.length,cm⟩ r (mz g) e w):IP (lD lo b g K op nm N V W) (Sv g b W) (RY x r) e w:=by
 unfold CP at h
 cases hr:r with
 |error y =>
  rw[hr] at h
  exact h
 |ok z =>
  rw[hr] at h
  obtain ⟨he,v,y,aZ⟩:=h
  have h3:=hg z.1 z.2 hr
  have h4:=h3.lt hp
  obtain ⟨⟨l1,l2,l3,l4,l5,l6⟩,fT,hn,ju⟩:=hk
  refine ⟨he,jd,⟨vf,vo,y,ve,vr,vg,cm++v.cells.toList,ce,?_⟩,⟨⟨by simp only;omega,by simp only;omega,by simp only[zK,List.length_singleton];omega,by simp only;omega,by simp only;omega,by simp only;omega⟩,h3.iY.sm fT,by omega,h3.iY.op.trans ju⟩⟩
  have h5:=aZ.imp (N':=rI g N { x with ms:=x.ms++[z.1] } (cm++v.cells.toList) ce) (fun hh=>by
   obtain ⟨⟨q1,q2,q3⟩,cs,e1,q4⟩:=hh
   have e2:cs.toList=v.cells.toList:=by rw[e1];rfl
   have h9:=q2.app q4
   rw[e2] at h9
   exact ⟨q1,h9,q3⟩)
  unfold E0
  simp only[zK,List.length_singleton]
  exact h5
theorem R3 (jd:x.name=nm) (hk:QX K op x s) (h:AQ lo b g 64 nm (E0 x vf vo vm ve vr vg cm ce) (rI g N x cm ce) V W 4 5 (ki 1 536870911 false x.rs x.gs s) e w):IP (lD lo b g K op nm N V W) (Sv g b W) (Ny x s) e w:=by
 unfold AQ at h
 unfold Ny
 cases hq:ki 1 536870911 false x.rs x.gs s with
 |error y =>
  rw[hq] at h
  exact h
 |ok y =>
  rw[hq] at h
  obtain ⟨he,⟨v1,v2,gp⟩,k1,k2,k3⟩:=h
  have h3:=Ao hq
  have cc:=h3.iY.len
  obtain ⟨⟨l1,l2,l3,l4,l5,l6⟩,fT,hn,ju⟩:=hk
  exact ⟨he,jd,⟨vf,vo,vm,ve,v1,v2,cm,ce,gp⟩,⟨⟨by simp only;omega,by simp only;omega,by simp only;omega,by simp only;omega,k1,k2⟩,k3,by omega,h3.iY.op.trans ju⟩⟩
end
end Go.Proofs.YtmlphohdcejniaaGreatDoor

import Derived.Test.YtmlphohdcejniaaGreatDoorPbS
namespace Go.Proofs.YtmlphohdcejniaaGreatDoor
open Go.RowKit
attribute [local go_sem ↓] Go.wp_at_zero Go.wp_at_succ
theorem S1 {d x:Fd}{s s':aD} (h:Dx d s=.ok (x,s')):Gt s s'∧(s.en.kind=5→0<s.ts.length):=by
 unfold Dx at h
 split at h
 ·cases h
 ·rename_i n s1 h1
  split at h
  ·cases h
  ·rename_i m s2 h2
   simp only[Except.ok.injEq,Prod.mk.injEq] at h
   obtain ⟨_,rfl⟩:=h
   exact ⟨(lu h1).dW (sN h2).jA,nG h1⟩
theorem Fp {da:Bool}{s s1:aD}{x:ByteArray} (h:cA da s=.ok (x,s1)) (he:s.en.kind=5):0<s.ts.length:=by
 unfold cA at h
 split at h
 ·cases h
 ·rename_i d s2 h2
  unfold fk at h
  split at h
  ·cases h
  ·rename_i y s3 h3
   split at h2
   ·rcases mB h2 with ⟨_,rfl⟩|⟨_,_,hk⟩
    ·exact nG h3 he
    ·exact bS he (by rw[hk];decide)
   ·simp only[Except.ok.injEq,Prod.mk.injEq] at h2
    rw[←h2.2] at h3
    exact nG h3 he
theorem D4 {d x:Fd}{s s':aD} (h:fH d s=.ok (x,s')):Gt s s'∧(s.en.kind=5→0<s.ts.length):=by
 unfold fH at h
 split at h
 ·cases h
 ·rename_i y s1 h1
  exact ⟨(fR h1).gt (S1 h).1,Fp h1⟩
theorem mg {o:Int}{x:Fd}{s s':aD} (h:eN o s=.ok (x,s')):Gt s s'∧(s.en.kind=5→0<s.ts.length):=D4 (s:=s.begun) h
theorem lv {c:Int}{x:Fd}{s s':aD} (h:dh c s=.ok (x,s')):Gt s s':=by
 unfold dh at h
 split at h
 ·cases h
 ·rename_i u s1 h1
  split at h
  ·cases h
  ·exact (dx (s:=s.begun) h1).dW (D4 h).1.jA
theorem NC {x:Fd}{s s':aD} (h:ca s=.ok (x,s')):Gt s s':=by
 unfold ca at h
 split at h
 ·unfold tj at h
  split at h
  ·cases h
  ·rename_i u s1 h1
   split at h
   ·cases h
   ·rename_i u2 s2 h2
    split at h
    ·cases h
    ·rename_i k s3 h3
     split at h
     ·cases h
     ·rename_i u4 s4 h4
      split at h
      ·cases h
      ·rename_i t s5 h5
       split at h
       ·cases h
       ·rename_i u6 s6 h6
        exact (((((dx (s:=s.begun) h1).dW (bR h2)).dW (fR h3)).dW (bR h4)).dW (fR h5)).dW ((bR h6).trans (S1 h).1.jA)
 ·exact (mg h).1
structure Mp where
 name:ByteArray
 fs:List Fd
 os:List ByteArray
 ms:List Ms
 es:List En
 rs:List (Int×Int)
 gs:List ByteArray
def Mp.done (x:Mp):Ms:=.mk x.name x.fs x.os x.ms x.es x.rs x.gs
def BY (x:Mp):Except (Int×Int) (Fd×aD)→Except (Int×Int) (Mp×aD)
 |.error e=>.error e
 |.ok (d,s')=>.ok ({ x with fs:=x.fs++[d] },s')
noncomputable def Ds:fQ Mp:=fun x s=>BY x (eN (x.os.length:Int) s)
noncomputable def Qw:fQ Mp:=fun x s=>BY x (eN 0 s)
noncomputable def TZ (c:Int):fQ Mp:=fun x s=>BY x (dh c s)
noncomputable def Aj:fQ Mp:=fun x s=>BY x (ca s)
def Vs (x:Mp):Except (Int×Int) (En×aD)→Except (Int×Int) (Mp×aD)
 |.error e=>.error e
 |.ok (d,s')=>.ok ({ x with es:=x.es++[d] },s')
def TT (x:Mp):Except (Int×Int) (Ms×aD)→Except (Int×Int) (Mp×aD)
 |.error e=>.error e
 |.ok (d,s')=>.ok ({ x with ms:=x.ms++[d] },s')
noncomputable def T0:fQ Mp:=fun x s=>Vs x (iH s)
def TY (mf:aD→Except (Int×Int) (Ms×aD)):fQ Mp:=fun x s=>TT x (mf s)
noncomputable def Fy:fQ Mp:=fun x s=>match je 1 536870911 false x.rs x.gs s with
 |.error e=>.error e
 |.ok (l,s')=>.ok ({ x with rs:=l.1,gs:=l.2 },s')
def zh:ByteArray→Option (fQ Mp):=fun k=>if (k==⟨#[111,112,116,105,111,110]⟩)=true then some dv else if (k==⟨#[103,114,111,117,112]⟩)=true then some dv else if (k==⟨#[111,112,116,105,111,110,97,108]⟩)=true then some dv else if (k==⟨#[114,101,112,101,97,116,101,100]⟩)=true then some dv else if (k==⟨#[114,101,113,117,105,114,101,100]⟩)=true then some dv else if (k==⟨#[111,110,101,111,102]⟩)=true then some dv else if (k==⟨#[109,101,115,115,97,103,101]⟩)=true then some dv else if (k==⟨#[101,110,117,109]⟩)=true then some dv else if (k==⟨#[114,101,115,101,114,118,101,100]⟩)=true then some dv else none
def mI (k:Nat) (x:Mp) (s:aD):Except (Int×Int) (Mp×aD):=if x.fs.length=k then .error (cH s) else match bE s with
 |.error e=>.error e
 |.ok (_,s')=>.ok (x,s')
noncomputable def iX (k:Nat) (x:Mp) (s:aD):Except (Int×Int) (Mp×aD):=match ie (bT zh Ds) x s with
 |.error e=>.error e
 |.ok (x2,s2)=>mI k x2 s2
noncomputable def iC:fQ Mp:=fun x s=>match bE s.begun with
 |.error e=>.error e
 |.ok (_,s1)=>match cy s1 with
  |.error e=>.error e
  |.ok (nm,s2)=>iX x.fs.length { x with os:=x.os++[nm] } s2
noncomputable def Bw (mf:aD→Except (Int×Int) (Ms×aD)):ByteArray→Option (fQ Mp):=fun k=>if (k==⟨#[109,101,115,115,97,103,101]⟩)=true then some (TY mf) else if (k==⟨#[101,110,117,109]⟩)=true then some T0 else if (k==⟨#[111,110,101,111,102]⟩)=true then some iC else if (k==⟨#[114,101,115,101,114,118,101,100]⟩)=true then some Fy else if (k==⟨#[111,112,116,105,111,110,97,108]⟩)=true then some (TZ 2) else if (k==⟨#[114,101,112,101,97,116,101,100]⟩)=true then some (TZ 3) else if (k==⟨#[109,97,112]⟩)=true then some Aj else if (k==⟨#[111,112,116,105,111,110]⟩)=true then some dv else if (k==⟨#[101,120,116,101,110,100]⟩)=true then some dv else if (k==⟨#[101,120,116,101,110,115,105,111,110,115]⟩)=true then some dv else if (k==⟨#[103,114,111,117,112]⟩)=true then some dv else if (k==⟨#[114,101,113,117,105,114,101,100]⟩)=true then some dv else none
def aD.K9 (s:aD):aD:={ s with op:=s.op+1 }
def aD.Ef (s:aD):aD:={ s with op:=s.op-1 }
def xq (x:Mp) (s:aD):Except (Int×Int) (Ms×aD):=match bE s with
 |.error e=>.error e
 |.ok (_,s')=>.ok (x.done,s'.Ef)
noncomputable def lF (mf:aD→Except (Int×Int) (Ms×aD)) (nm:ByteArray) (s:aD):Except (Int×Int) (Ms×aD):=match ie (bT (Bw mf) Qw) ⟨nm,[],[],[],[],[],[]⟩ s.K9 with
 |.error e=>.error e
 |.ok (x,s3)=>xq x s3
noncomputable def bw:Nat→aD→Except (Int×Int) (Ms×aD)
 |0,_=>.error (0,0)
 |n+1,s=>if s.op=32 then .error (53,s.here.spot) else match bE s.begun with
  |.error e=>.error e
  |.ok (_,s1)=>match cy s1 with
   |.error e=>.error e
   |.ok (nm,s2)=>lF (bw n) nm s2
theorem BW {x x':Mp}{s s':aD}{r:Except (Int×Int) (Fd×aD)} (h:BY x r=.ok (x',s')) (hg:∀d s1,r=.ok (d,s1)→Gt s s1):Gt s s':=by
 cases r with
 |error e=>cases h
 |ok y =>
  simp only[BY,Except.ok.injEq,Prod.mk.injEq] at h
  obtain ⟨_,rfl⟩:=h
  exact hg _ _ rfl
theorem mo {x x':Mp}{s s':aD}{o:Int} (h:BY x (eN o s)=.ok (x',s')):Gt s s'∧(s.en.kind=5→0<s.ts.length):=by
 cases hr:eN o s with
 |error e=>rw[hr] at h;cases h
 |ok y =>
  rw[hr] at h
  simp only[BY,Except.ok.injEq,Prod.mk.injEq] at h
  obtain ⟨_,rfl⟩:=h
  exact mg hr
theorem Cb (k:ByteArray) (f:fQ Mp) (hf:zh k=some f) (x:Mp) (s:aD) (x':Mp) (s':aD) (h:f x s=.ok (x',s')):Gt s s':=by
 unfold zh at hf
 by_cases q0:(k==⟨#[111,112,116,105,111,110]⟩)=true
 ·rw[if_pos q0] at hf
  obtain rfl:=zC hf
  cases h
 rw[if_neg q0] at hf
 by_cases q1:(k==⟨#[103,114,111,117,112]⟩)=true
 ·rw[if_pos q1] at hf
  obtain rfl:=zC hf
  cases h
 rw[if_neg q1] at hf
 by_cases q2:(k==⟨#[111,112,116,105,111,110,97,108]⟩)=true
 ·rw[if_pos q2] at hf
  obtain rfl:=zC hf
  cases h
 rw[if_neg q2] at hf
 by_cases q3:(k==⟨#[114,101,112,101,97,116,101,100]⟩)=true
 ·rw[if_pos q3] at hf
  obtain rfl:=zC hf
  cases h
 rw[if_neg q3] at hf
 by_cases q4:(k==⟨#[114,101,113,117,105,114,101,100]⟩)=true
 ·rw[if_pos q4] at hf
  obtain rfl:=zC hf
  cases h
 rw[if_neg q4] at hf
 by_cases q5:(k==⟨#[111,110,101,111,102]⟩)=true
 ·rw[if_pos q5] at hf
  obtain rfl:=zC hf
  cases h
 rw[if_neg q5] at hf
 by_cases q6:(k==⟨#[109,101,115,115,97,103,101]⟩)=true
 ·rw[if_pos q6] at hf
  obtain rfl:=zC hf
  cases h
 rw[if_neg q6] at hf
 by_cases q7:(k==⟨#[101,110,117,109]⟩)=true
 ·rw[if_pos q7] at hf
  obtain rfl:=zC hf
  cases h
 rw[if_neg q7] at hf
 by_cases q8:(k==⟨#[114,101,115,101,114,118,101,100]⟩)=true
 ·rw[if_pos q8] at hf
  obtain rfl:=zC hf
  cases h
 rw[if_neg q8] at hf
 cases hf
theorem L8 (x:Mp) (s:aD) (x':Mp) (s':aD) (h:iC x s=.ok (x',s')):Gt s s':=by
 unfold iC at h
 split at h
 ·cases h
 ·rename_i u s1 h1
  split at h
  ·cases h
  ·rename_i nm s2 h2
   unfold iX at h
   split at h
   ·cases h
   ·rename_i x3 s3 h3
    unfold mI at h
    split at h
    ·cases h
    ·split at h
     ·cases h
     ·rename_i u4 s4 h4
      simp only[Except.ok.injEq,Prod.mk.injEq] at h
      obtain ⟨_,rfl⟩:=h
      exact (((dx (s:=s.begun) h1).dW (lu h2).jA).dW (lR (fun x s x' s' h=>(mR Cb (fun x s x' s' h=>mo h) h).1.jA) h3).1).dW (dx h4).jA
theorem Fx (mf:aD→Except (Int×Int) (Ms×aD)) (YI:∀s m s',mf s=.ok (m,s')→Gt s s') (k:ByteArray) (f:fQ Mp) (hf:Bw mf k=some f) (x:Mp) (s:aD) (x':Mp) (s':aD) (h:f x s=.ok (x',s')):Gt s s':=by
 unfold Bw at hf
 by_cases q0:(k==⟨#[109,101,115,115,97,103,101]⟩)=true
 ·rw[if_pos q0] at hf
  obtain rfl:=zC hf
  unfold TY at h
  cases hr:mf s with
  |error e=>rw[hr] at h;cases h
  |ok y =>
   rw[hr] at h
   simp only[TT,Except.ok.injEq,Prod.mk.injEq] at h
   obtain ⟨_,rfl⟩:=h
   exact YI _ _ _ hr
 rw[if_neg q0] at hf
 by_cases q1:(k==⟨#[101,110,117,109]⟩)=true
 ·rw[if_pos q1] at hf
  obtain rfl:=zC hf
  unfold T0 at h
  cases hr:iH s with
  |error e=>rw[hr] at h;cases h
  |ok y =>
   rw[hr] at h
   simp only[Vs,Except.ok.injEq,Prod.mk.injEq] at h
   obtain ⟨_,rfl⟩:=h
   exact vJ hr
 rw[if_neg q1] at hf
 by_cases q2:(k==⟨#[111,110,101,111,102]⟩)=true
 ·rw[if_pos q2] at hf
  obtain rfl:=zC hf
  exact L8 _ _ _ _ h
 rw[if_neg q2] at hf
 by_cases q3:(k==⟨#[114,101,115,101,114,118,101,100]⟩)=true
 ·rw[if_pos q3] at hf
  obtain rfl:=zC hf
  unfold Fy at h
  split at h
  ·cases h
  ·rename_i d s1 h1
   simp only[Except.ok.injEq,Prod.mk.injEq] at h
   obtain ⟨_,rfl⟩:=h
   exact BS h1
 rw[if_neg q3] at hf
 by_cases q4:(k==⟨#[111,112,116,105,111,110,97,108]⟩)=true
 ·rw[if_pos q4] at hf
  obtain rfl:=zC hf
  exact BW h (fun d s1 hr=>lv hr)
 rw[if_neg q4] at hf
 by_cases q5:(k==⟨#[114,101,112,101,97,116,101,100]⟩)=true
 ·rw[if_pos q5] at hf
  obtain rfl:=zC hf
  exact BW h (fun d s1 hr=>lv hr)
 rw[if_neg q5] at hf
 by_cases q6:(k==⟨#[109,97,112]⟩)=true
 ·rw[if_pos q6] at hf
  obtain rfl:=zC hf
  exact BW h (fun d s1 hr=>NC hr)
 rw[if_neg q6] at hf
 by_cases q7:(k==⟨#[111,112,116,105,111,110]⟩)=true
 ·rw[if_pos q7] at hf
  obtain rfl:=zC hf
  cases h
 rw[if_neg q7] at hf
 by_cases q8:(k==⟨#[101,120,116,101,110,100]⟩)=true
 ·rw[if_pos q8] at hf
  obtain rfl:=zC hf
  cases h
 rw[if_neg q8] at hf
 by_cases q9:(k==⟨#[101,120,116,101,110,115,105,111,110,115]⟩)=true
 ·rw[if_pos q9] at hf
  obtain rfl:=zC hf
  cases h
 rw[if_neg q9] at hf
 by_cases Cv:(k==⟨#[103,114,111,117,112]⟩)=true
 ·rw[if_pos Cv] at hf
  obtain rfl:=zC hf
  cases h
 rw[if_neg Cv] at hf
 by_cases LY:(k==⟨#[114,101,113,117,105,114,101,100]⟩)=true
 ·rw[if_pos LY] at hf
  obtain rfl:=zC hf
  cases h
 rw[if_neg LY] at hf
 cases hf
theorem rK:∀(n:Nat) (s:aD) (m:Ms) (s':aD),bw n s=.ok (m,s')→Gt s s'
 |0,s,m,s',h=>by cases h
 |n+1,s,m,s',h=>by
  unfold bw at h
  split at h
  ·cases h
  ·split at h
   ·cases h
   ·rename_i u s1 h1
    split at h
    ·cases h
    ·rename_i nm s2 h2
     unfold lF at h
     split at h
     ·cases h
     ·rename_i x s3 h3
      unfold xq at h
      split at h
      ·cases h
      ·rename_i u4 s4 h4
       simp only[Except.ok.injEq,Prod.mk.injEq] at h
       obtain ⟨_,rfl⟩:=h
       obtain ⟨k1,a1,b1,c1⟩:=(dx (s:=s.begun) h1).dW (lu h2).jA
       obtain ⟨k2,a2,b2,c2⟩:=(lR (fun x s x' s' h=>(mR (Fx _ (rK n)) (fun x s x' s' h=>mo h) h).1.jA) h3).1.trans (dx h4).jA
       refine ⟨k1+k2,?_,?_,?_⟩
       ·show s4.ts=_
        rw[a2]
        show s2.ts.drop k2=_
        rw[a1,List.drop_drop]
        congr 1
        omega
       ·show s4.op-1=s.op
        rw[b2]
        show s2.op+1-1=s.op
        rw[b1]
        rfl
       ·show s4.en=s.en
        rw[c2]
        exact c1
def Gx (x:Mp) (vf vo vm ve vr vg:Value) (cm ce:List Value):List Slot:=[⟨70,6,vf,x.fs.length,iF x.fs⟩,⟨9,1,vo,x.os.length,bW x.os⟩,⟨64,7,vm,x.ms.length,cm⟩,⟨68,4,ve,x.es.length,ce⟩,⟨111,2,vr,x.rs.length,lj x.rs⟩,⟨9,1,vg,x.gs.length,bW x.gs⟩]
def sY (g:Nat) (N:(Nat→Prop)→World→Prop) (x:Mp) (cm ce:List Value) (P:Nat→Prop) (w:World):Prop:=N P w∧cU (fun k=>P k∧g≤k) w cm x.ms∧eS (fun k=>P k∧g≤k) w ce x.es
theorem sY.st {g:Nat}{N:(Nat→Prop)→World→Prop} (hN:aK N) (x:Mp) (cm ce:List Value):aK (sY g N x cm ce):=hN.and (aK.and (fun _ _ _ _ hg h=>df _ _ _ _ _ _ (hg.low g) h) (fun _ _ _ _ hg h=>cT _ _ _ _ _ _ (hg.low g) h))
def S9 (K op:Nat) (x:Mp) (s:aD):Prop:=(x.fs.length+s.ts.length≤20000∧x.os.length+s.ts.length≤20000∧x.ms.length+s.ts.length≤20000∧x.es.length+s.ts.length≤20000∧x.rs.length+s.ts.length≤20000∧x.gs.length+s.ts.length≤20000)∧Sm s∧s.ts.length≤K∧s.op=op
def mx (lo b g K op:Nat) (nm:ByteArray) (N:(Nat→Prop)→World→Prop) (V W:World) (x:Mp) (s:aD) (w:World):Prop:=x.name=nm∧(∃vf vo vm ve vr vg cm ce,Ap lo b g 64 nm (Gx x vf vo vm ve vr vg cm ce) (sY g N x cm ce) V W s w)∧S9 K op x s
theorem S9.step {K op:Nat}{x:Mp}{s s':aD} (h:S9 K op x s) (hs:lL s s'):S9 K op x s':=by
 obtain ⟨⟨l1,l2,l3,l4,l5,l6⟩,gD,hn,jS⟩:=h
 have:=hs.len
 exact ⟨⟨by omega,by omega,by omega,by omega,by omega,by omega⟩,hs.sm gD,by omega,hs.op.trans jS⟩
theorem mx.step {lo b g K op:Nat}{nm:ByteArray}{N:(Nat→Prop)→World→Prop}{V W w w':World}{x:Mp}{s s':aD} (h:mx lo b g K op nm N V W x s w) (hN:aK N) (hr:Rd lo w' b s') (hg:w.grownBy w' (some b)) (hs:lL s s'):mx lo b g K op nm N V W x s' w':=by
 obtain ⟨h0,⟨vf,vo,vm,ve,vr,vg,cm,ce,aZ⟩,hk⟩:=h
 exact ⟨h0,⟨vf,vo,vm,ve,vr,vg,cm,ce,aZ.read (sY.st hN _ _ _) hr hg⟩,hk.step hs⟩
theorem mx.er {lo b g K op:Nat}{nm:ByteArray}{N:(Nat→Prop)→World→Prop}{V W w w':World}{x:Mp}{s:aD} (h:mx lo b g K op nm N V W x s w) (hg:w.grownBy w' (some b)):Sv g b W w':=by
 obtain ⟨_,⟨vf,vo,vm,ve,vr,vg,cm,ce,aZ⟩,_⟩:=h
 exact aZ.sv.trans (Sv.of hg (by have:=aZ.bx.lt;omega))
theorem mx.rd {lo b g K op:Nat}{nm:ByteArray}{N:(Nat→Prop)→World→Prop}{V W w:World}{x:Mp}{s:aD} (h:mx lo b g K op nm N V W x s w):Rd lo w b s:=by
 obtain ⟨_,⟨vf,vo,vm,ve,vr,vg,cm,ce,aZ⟩,_⟩:=h
 exact aZ.rd
section
variable {lo b g K op : Nat} {nm : ByteArray} {N : (Nat → Prop) → World → Prop} {V W w : World} {x : Mp} {s : aD} {vf vo vm ve vr vg : Value} {cm ce : List Value} {e : Ending}
theorem xp {r:Except (Int×Int) (Fd×aD)} (jC:x.name=nm) (hk:S9 K op x s) (hp:0<s.ts.length∨∀d s',r=.ok (d,s')→0<s.ts.length) (hg:∀d s',r=.ok (d,s')→Gt s s') (h:CP lo b g 64 nm (Gx x vf vo vm ve vr vg cm ce) (sY g N x cm ce) V W 0 ⟨70,6,vf,x.fs.length,iF x.fs⟩ r (fun a x _ _=>x=a.val) e w):IP (mx lo b g K op nm N V W) (Sv g b W) (BY x r) e w:=by
 rcases CP.plain NQ h with ⟨y,hr,rfl,hs⟩|⟨a,s',y,hr,rfl,h2⟩
 ·rw[hr]
  exact ⟨rfl,hs⟩
 ·have h3:=hg a s' hr
  have h4:=h3.lt (hp.elim id (fun h=>h a s' hr))
  rw[hr]
  obtain ⟨⟨l1,l2,l3,l4,l5,l6⟩,gD,hn,jS⟩:=hk
  exact ⟨rfl,jC,⟨y,vo,vm,ve,vr,vg,cm,ce,h2⟩,⟨⟨by simp only[zK,List.length_singleton];omega,by simp only;omega,by simp only;omega,by simp only;omega,by simp only;omega,by simp only;omega⟩,h3.jA.sm gD,by omega,h3.jA.op.trans jS⟩⟩
theorem Qu {r:Except (Int×Int) (En×aD)} (jC:x.name=nm) (hk:S9 K op x s) (hp:0<s.ts.length) (hg:∀d s',r=.ok (d,s')→Gt s s') (h:CP lo b g 64 nm (Gx x vf vo vm ve vr vg cm ce) (sY g N x cm ce) V W 3 ⟨68,4,ve,x.es.length,ce⟩ r (VQ g) e w):IP (mx lo b g K op nm N V W) (Sv g b W) (Vs x r) e w:=by
 unfold CP at h
 cases hr:r with
 |error y =>
  rw[hr] at h
  exact h
 |ok z =>
  rw[hr] at h
  obtain ⟨he,v,y,aZ⟩:=h
  have h3:=hg z.1 z.2 hr
  have h4:=h3.lt hp
  obtain ⟨⟨l1,l2,l3,l4,l5,l6⟩,gD,hn,jS⟩:=hk
  refine ⟨he,jC,⟨vf,vo,vm,y,vr,vg,cm,ce++v.cells.toList,?_⟩,⟨⟨by simp only;omega,by simp only;omega,by simp only;omega,by simp only[zK,List.length_singleton];omega,by simp only;omega,by simp only;omega⟩,h3.jA.sm gD,by omega,h3.jA.op.trans jS⟩⟩
  have h5:=aZ.imp (N':=sY g N { x with es:=x.es++[z.1] } cm (ce++v.cells.toList)) (fun hh=>by
   obtain ⟨⟨q1,q2,q3⟩,cs,e1,q4⟩:=hh
   have e2:cs.toList=v.cells.toList:=by rw[e1];rfl
   have h9:=q3.app q4
   rw[e2] at h9
   exact ⟨q1,q2,h9⟩)
  unfold Gx
  simp only[zK,List.length_singleton]
  exact h5
theorem TW {r:Except (Int×Int) (Ms×aD)} (jC:x.name=nm) (hk:S9 K op x s) (hp:0<s.ts.length) (hg:∀d s',r=.ok (d,s')→Gt s s') (h:CP lo b g 64 nm (Gx x vf vo vm ve vr vg cm ce) (sY g N x cm ce) V W 2 ⟨64,7,vm,x.ms.length,cm⟩ r (nk g) e w):IP (mx lo b g K op nm N V W) (Sv g b W) (TT x r) e w:=by
 unfold CP at h
 cases hr:r with
 |error y =>
  rw[hr] at h
  exact h
 |ok z =>
  rw[hr] at h
  obtain ⟨he,v,y,aZ⟩:=h
  have h3:=hg z.1 z.2 hr
  have h4:=h3.lt hp
  obtain ⟨⟨l1,l2,l3,l4,l5,l6⟩,gD,hn,jS⟩:=hk
  refine ⟨he,jC,⟨vf,vo,y,ve,vr,vg,cm++v.cells.toList,ce,?_⟩,⟨⟨by simp only;omega,by simp only;omega,by simp only[zK,List.length_singleton];omega,by simp only;omega,by simp only;omega,by simp only;omega⟩,h3.jA.sm gD,by omega,h3.jA.op.trans jS⟩⟩
  have h5:=aZ.imp (N':=sY g N { x with ms:=x.ms++[z.1] } (cm++v.cells.toList) ce) (fun hh=>by
   obtain ⟨⟨q1,q2,q3⟩,cs,e1,q4⟩:=hh
   have e2:cs.toList=v.cells.toList:=by rw[e1];rfl
   have h9:=q2.app q4
   rw[e2] at h9
   exact ⟨q1,h9,q3⟩)
  unfold Gx
  simp only[zK,List.length_singleton]
  exact h5
theorem TV (jC:x.name=nm) (hk:S9 K op x s) (h:Cm lo b g 64 nm (Gx x vf vo vm ve vr vg cm ce) (sY g N x cm ce) V W 4 5 (je 1 536870911 false x.rs x.gs s) e w):IP (mx lo b g K op nm N V W) (Sv g b W) (Fy x s) e w:=by
 unfold Cm at h
 unfold Fy
 cases hq:je 1 536870911 false x.rs x.gs s with
 |error y =>
  rw[hq] at h
  exact h
 |ok y =>
  rw[hq] at h
  obtain ⟨he,⟨v1,v2,gS⟩,k1,k2,k3⟩:=h
  have h3:=BS hq
  have cw:=h3.jA.len
  obtain ⟨⟨l1,l2,l3,l4,l5,l6⟩,gD,hn,jS⟩:=hk
  exact ⟨he,jC,⟨vf,vo,vm,ve,v1,v2,cm,ce,gS⟩,⟨⟨by simp only;omega,by simp only;omega,by simp only;omega,by simp only;omega,k1,k2⟩,k3,by omega,h3.jA.op.trans jS⟩⟩
end
end Go.Proofs.YtmlphohdcejniaaGreatDoor

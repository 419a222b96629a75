import Derived.Test.YtjophoclfccmcaaGreatDoorPbS
namespace Go.Proofs.YtjophoclfccmcaaGreatDoor
open Go.RowKit
attribute [local go_sem ↓] Go.wp_at_zero Go.wp_at_succ
theorem TC {d x:Fd}{s s':ax} (h:AQ d s=.ok (x,s')):Gt s s'∧(s.en.kind=5→0<s.ts.length):=by
 unfold AQ at h
 split at h
 ·cases h
 ·rename_i n s1 h1
  split at h
  ·cases h
  ·rename_i m s2 h2
   simp only[Except.ok.injEq,Prod.mk.injEq] at h
   obtain ⟨_,rfl⟩:=h
   exact ⟨(gz h1).eI (tJ h2).gu,kS h1⟩
theorem FL {da:Bool}{s s1:ax}{x:ByteArray} (h:ba da s=.ok (x,s1)) (he:s.en.kind=5):0<s.ts.length:=by
 unfold ba at h
 split at h
 ·cases h
 ·rename_i d s2 h2
  unfold iu at h
  split at h
  ·cases h
  ·rename_i y s3 h3
   split at h2
   ·rcases mP h2 with ⟨_,rfl⟩|⟨_,_,hk⟩
    ·exact kS h3 he
    ·exact bP he (by rw[hk];decide)
   ·simp only[Except.ok.injEq,Prod.mk.injEq] at h2
    rw[←h2.2] at h3
    exact kS h3 he
theorem Eb {d x:Fd}{s s':ax} (h:gK d s=.ok (x,s')):Gt s s'∧(s.en.kind=5→0<s.ts.length):=by
 unfold gK at h
 split at h
 ·cases h
 ·rename_i y s1 h1
  exact ⟨(fu h1).gt (TC h).1,FL h1⟩
theorem jQ {o:Int}{x:Fd}{s s':ax} (h:cu o s=.ok (x,s')):Gt s s'∧(s.en.kind=5→0<s.ts.length):=Eb (s:=s.begun) h
theorem lH {c:Int}{x:Fd}{s s':ax} (h:cU c s=.ok (x,s')):Gt s s':=by
 unfold cU at h
 split at h
 ·cases h
 ·rename_i u s1 h1
  split at h
  ·cases h
  ·exact (ed (s:=s.begun) h1).eI (Eb h).1.gu
theorem Oo {x:Fd}{s s':ax} (h:dg s=.ok (x,s')):Gt s s':=by
 unfold dg at h
 split at h
 ·unfold lr at h
  split at h
  ·cases h
  ·rename_i u s1 h1
   split at h
   ·cases h
   ·rename_i u2 s2 h2
    split at h
    ·cases h
    ·rename_i k s3 h3
     split at h
     ·cases h
     ·rename_i u4 s4 h4
      split at h
      ·cases h
      ·rename_i t s5 h5
       split at h
       ·cases h
       ·rename_i u6 s6 h6
        exact (((((ed (s:=s.begun) h1).eI (bB h2)).eI (fu h3)).eI (bB h4)).eI (fu h5)).eI ((bB h6).trans (TC h).1.gu)
 ·exact (jQ h).1
structure Mp where
 name:ByteArray
 fs:List Fd
 os:List ByteArray
 ms:List Ms
 es:List En
 rs:List (Int×Int)
 gs:List ByteArray
def Mp.done (x:Mp):Ms:=.mk x.name x.fs x.os x.ms x.es x.rs x.gs
def lS (x:Mp):Except (Int×Int) (Fd×ax)→Except (Int×Int) (Mp×ax)
 |.error e=>.error e
 |.ok (d,s')=>.ok ({ x with fs:=x.fs++[d] },s')
noncomputable def z8:kF Mp:=fun x s=>lS x (cu (x.os.length:Int) s)
noncomputable def E0:kF Mp:=fun x s=>lS x (cu 0 s)
noncomputable def msL (c:Int):kF Mp:=fun x s=>lS x (cU c s)
noncomputable def Nc:kF Mp:=fun x s=>lS x (dg s)
def OM (x:Mp):Except (Int×Int) (En×ax)→Except (Int×Int) (Mp×ax)
 |.error e=>.error e
 |.ok (d,s')=>.ok ({ x with es:=x.es++[d] },s')
def FT (x:Mp):Except (Int×Int) (Ms×ax)→Except (Int×Int) (Mp×ax)
 |.error e=>.error e
 |.ok (d,s')=>.ok ({ x with ms:=x.ms++[d] },s')
noncomputable def YB:kF Mp:=fun x s=>OM x (dd s)
def msM (mf:ax→Except (Int×Int) (Ms×ax)):kF Mp:=fun x s=>FT x (mf s)
noncomputable def Q9:kF Mp:=fun x s=>match j5 1 536870911 false x.rs x.gs s with
 |.error e=>.error e
 |.ok (l,s')=>.ok ({ x with rs:=l.1,gs:=l.2 },s')
def rK:ByteArray→Option (kF Mp):=fun k=>if (k==⟨#[111,112,116,105,111,110]⟩)=true then some dw else if (k==⟨#[103,114,111,117,112]⟩)=true then some dw else if (k==⟨#[111,112,116,105,111,110,97,108]⟩)=true then some dw else if (k==⟨#[114,101,112,101,97,116,101,100]⟩)=true then some dw else if (k==⟨#[114,101,113,117,105,114,101,100]⟩)=true then some dw else if (k==⟨#[111,110,101,111,102]⟩)=true then some dw else if (k==⟨#[109,101,115,115,97,103,101]⟩)=true then some dw else if (k==⟨#[101,110,117,109]⟩)=true then some dw else if (k==⟨#[114,101,115,101,114,118,101,100]⟩)=true then some dw else none
def mX (k:Nat) (x:Mp) (s:ax):Except (Int×Int) (Mp×ax):=if x.fs.length=k then .error (bS s) else match bC s with
 |.error e=>.error e
 |.ok (_,s')=>.ok (x,s')
noncomputable def kr (k:Nat) (x:Mp) (s:ax):Except (Int×Int) (Mp×ax):=match ji (bV rK z8) x s with
 |.error e=>.error e
 |.ok (x2,s2)=>mX k x2 s2
noncomputable def fM:kF Mp:=fun x s=>match bC s.begun with
 |.error e=>.error e
 |.ok (_,s1)=>match aQ s1 with
  |.error e=>.error e
  |.ok (nm,s2)=>kr x.fs.length { x with os:=x.os++[nm] } s2
noncomputable def mw (mf:ax→Except (Int×Int) (Ms×ax)):ByteArray→Option (kF Mp):=fun k=>if (k==⟨#[109,101,115,115,97,103,101]⟩)=true then some (msM mf) else if (k==⟨#[101,110,117,109]⟩)=true then some YB else if (k==⟨#[111,110,101,111,102]⟩)=true then some fM else if (k==⟨#[114,101,115,101,114,118,101,100]⟩)=true then some Q9 else if (k==⟨#[111,112,116,105,111,110,97,108]⟩)=true then some (msL 2) else if (k==⟨#[114,101,112,101,97,116,101,100]⟩)=true then some (msL 3) else if (k==⟨#[109,97,112]⟩)=true then some Nc else if (k==⟨#[111,112,116,105,111,110]⟩)=true then some dw else if (k==⟨#[101,120,116,101,110,100]⟩)=true then some dw else if (k==⟨#[101,120,116,101,110,115,105,111,110,115]⟩)=true then some dw else if (k==⟨#[103,114,111,117,112]⟩)=true then some dw else if (k==⟨#[114,101,113,117,105,114,101,100]⟩)=true then some dw else none
def ax.CJ (s:ax):ax:={ s with op:=s.op+1 }
def ax.Es (s:ax):ax:={ s with op:=s.op-1 }
def tD (x:Mp) (s:ax):Except (Int×Int) (Ms×ax):=match bC s with
 |.error e=>.error e
 |.ok (_,s')=>.ok (x.done,s'.Es)
noncomputable def lO (mf:ax→Except (Int×Int) (Ms×ax)) (nm:ByteArray) (s:ax):Except (Int×Int) (Ms×ax):=match ji (bV (mw mf) E0) ⟨nm,[],[],[],[],[],[]⟩ s.CJ with
 |.error e=>.error e
 |.ok (x,s3)=>tD x s3
noncomputable def bk:Nat→ax→Except (Int×Int) (Ms×ax)
 |0,_=>.error (0,0)
 |n+1,s=>if s.op=32 then .error (53,s.here.spot) else match bC s.begun with
  |.error e=>.error e
  |.ok (_,s1)=>match aQ s1 with
   |.error e=>.error e
   |.ok (nm,s2)=>lO (bk n) nm s2
theorem Cb {x x':Mp}{s s':ax}{r:Except (Int×Int) (Fd×ax)} (h:lS x r=.ok (x',s')) (hg:∀d s1,r=.ok (d,s1)→Gt s s1):Gt s s':=by
 cases r with
 |error e=>cases h
 |ok y =>
  simp only[lS,Except.ok.injEq,Prod.mk.injEq] at h
  obtain ⟨_,rfl⟩:=h
  exact hg _ _ rfl
theorem jS {x x':Mp}{s s':ax}{o:Int} (h:lS x (cu o s)=.ok (x',s')):Gt s s'∧(s.en.kind=5→0<s.ts.length):=by
 cases hr:cu o s with
 |error e=>rw[hr] at h;cases h
 |ok y =>
  rw[hr] at h
  simp only[lS,Except.ok.injEq,Prod.mk.injEq] at h
  obtain ⟨_,rfl⟩:=h
  exact jQ hr
theorem Cq (k:ByteArray) (f:kF Mp) (hf:rK k=some f) (x:Mp) (s:ax) (x':Mp) (s':ax) (h:f x s=.ok (x',s')):Gt s s':=by
 unfold rK at hf
 by_cases q0:(k==⟨#[111,112,116,105,111,110]⟩)=true
 ·rw[if_pos q0] at hf
  obtain rfl:=zC hf
  cases h
 rw[if_neg q0] at hf
 by_cases q1:(k==⟨#[103,114,111,117,112]⟩)=true
 ·rw[if_pos q1] at hf
  obtain rfl:=zC hf
  cases h
 rw[if_neg q1] at hf
 by_cases q2:(k==⟨#[111,112,116,105,111,110,97,108]⟩)=true
 ·rw[if_pos q2] at hf
  obtain rfl:=zC hf
  cases h
 rw[if_neg q2] at hf
 by_cases q3:(k==⟨#[114,101,112,101,97,116,101,100]⟩)=true
 ·rw[if_pos q3] at hf
  obtain rfl:=zC hf
  cases h
 rw[if_neg q3] at hf
 by_cases q4:(k==⟨#[114,101,113,117,105,114,101,100]⟩)=true
 ·rw[if_pos q4] at hf
  obtain rfl:=zC hf
  cases h
 rw[if_neg q4] at hf
 by_cases q5:(k==⟨#[111,110,101,111,102]⟩)=true
 ·rw[if_pos q5] at hf
  obtain rfl:=zC hf
  cases h
 rw[if_neg q5] at hf
 by_cases q6:(k==⟨#[109,101,115,115,97,103,101]⟩)=true
 ·rw[if_pos q6] at hf
  obtain rfl:=zC hf
  cases h
 rw[if_neg q6] at hf
 by_cases q7:(k==⟨#[101,110,117,109]⟩)=true
 ·rw[if_pos q7] at hf
  obtain rfl:=zC hf
  cases h
 rw[if_neg q7] at hf
 by_cases q8:(k==⟨#[114,101,115,101,114,118,101,100]⟩)=true
 ·rw[if_pos q8] at hf
  obtain rfl:=zC hf
  cases h
 rw[if_neg q8] at hf
 cases hf
theorem MI (x:Mp) (s:ax) (x':Mp) (s':ax) (h:fM x s=.ok (x',s')):Gt s s':=by
 unfold fM at h
 split at h
 ·cases h
 ·rename_i u s1 h1
  split at h
  ·cases h
  ·rename_i nm s2 h2
   unfold kr at h
   split at h
   ·cases h
   ·rename_i x3 s3 h3
    unfold mX at h
    split at h
    ·cases h
    ·split at h
     ·cases h
     ·rename_i u4 s4 h4
      simp only[Except.ok.injEq,Prod.mk.injEq] at h
      obtain ⟨_,rfl⟩:=h
      exact (((ed (s:=s.begun) h1).eI (gz h2).gu).eI (mh (fun x s x' s' h=>(gZ Cq (fun x s x' s' h=>jS h) h).1.gu) h3).1).eI (ed h4).gu
theorem yA (mf:ax→Except (Int×Int) (Ms×ax)) (IG:∀s m s',mf s=.ok (m,s')→Gt s s') (k:ByteArray) (f:kF Mp) (hf:mw mf k=some f) (x:Mp) (s:ax) (x':Mp) (s':ax) (h:f x s=.ok (x',s')):Gt s s':=by
 unfold mw at hf
 by_cases q0:(k==⟨#[109,101,115,115,97,103,101]⟩)=true
 ·rw[if_pos q0] at hf
  obtain rfl:=zC hf
  unfold msM at h
  cases hr:mf s with
  |error e=>rw[hr] at h;cases h
  |ok y =>
   rw[hr] at h
   simp only[FT,Except.ok.injEq,Prod.mk.injEq] at h
   obtain ⟨_,rfl⟩:=h
   exact IG _ _ _ hr
 rw[if_neg q0] at hf
 by_cases q1:(k==⟨#[101,110,117,109]⟩)=true
 ·rw[if_pos q1] at hf
  obtain rfl:=zC hf
  unfold YB at h
  cases hr:dd s with
  |error e=>rw[hr] at h;cases h
  |ok y =>
   rw[hr] at h
   simp only[OM,Except.ok.injEq,Prod.mk.injEq] at h
   obtain ⟨_,rfl⟩:=h
   exact ru hr
 rw[if_neg q1] at hf
 by_cases q2:(k==⟨#[111,110,101,111,102]⟩)=true
 ·rw[if_pos q2] at hf
  obtain rfl:=zC hf
  exact MI _ _ _ _ h
 rw[if_neg q2] at hf
 by_cases q3:(k==⟨#[114,101,115,101,114,118,101,100]⟩)=true
 ·rw[if_pos q3] at hf
  obtain rfl:=zC hf
  unfold Q9 at h
  split at h
  ·cases h
  ·rename_i d s1 h1
   simp only[Except.ok.injEq,Prod.mk.injEq] at h
   obtain ⟨_,rfl⟩:=h
   exact yY h1
 rw[if_neg q3] at hf
 by_cases q4:(k==⟨#[111,112,116,105,111,110,97,108]⟩)=true
 ·rw[if_pos q4] at hf
  obtain rfl:=zC hf
  exact Cb h (fun d s1 hr=>lH hr)
 rw[if_neg q4] at hf
 by_cases q5:(k==⟨#[114,101,112,101,97,116,101,100]⟩)=true
 ·rw[if_pos q5] at hf
  obtain rfl:=zC hf
  exact Cb h (fun d s1 hr=>lH hr)
 rw[if_neg q5] at hf
 by_cases q6:(k==⟨#[109,97,112]⟩)=true
 ·rw[if_pos q6] at hf
  obtain rfl:=zC hf
  exact Cb h (fun d s1 hr=>Oo hr)
 rw[if_neg q6] at hf
 by_cases q7:(k==⟨#[111,112,116,105,111,110]⟩)=true
 ·rw[if_pos q7] at hf
  obtain rfl:=zC hf
  cases h
 rw[if_neg q7] at hf
 by_cases q8:(k==⟨#[101,120,116,101,110,100]⟩)=true
 ·rw[if_pos q8] at hf
  obtain rfl:=zC hf
  cases h
 rw[if_neg q8] at hf
 by_cases q9:(k==⟨#[101,120,116,101,110,115,105,111,110,115]⟩)=true
 ·rw[if_pos q9] at hf
  obtain rfl:=zC hf
  cases h
 rw[if_neg q9] at hf
 by_cases EY:(k==⟨#[103,114,111,117,112]⟩)=true
 ·rw[if_pos EY] at hf
  obtain rfl:=zC hf
  cases h
 rw[if_neg EY] at hf
 by_cases PW:(k==⟨#[114,101,113,117,105,114,101,100]⟩)=true
 ·rw[if_pos PW] at hf
  obtain rfl:=zC hf
  cases h
 rw[if_neg PW] at hf
 cases hf
theorem kV:∀(n:Nat) (s:ax) (m:Ms) (s':ax),bk n s=.ok (m,s')→Gt s s'
 |0,s,m,s',h=>by cases h
 |n+1,s,m,s',h=>by
  unfold bk at h
  split at h
  ·cases h
  ·split at h
   ·cases h
   ·rename_i u s1 h1
    split at h
    ·cases h
    ·rename_i nm s2 h2
     unfold lO at h
     split at h
     ·cases h
     ·rename_i x s3 h3
      unfold tD at h
      split at h
      ·cases h
      ·rename_i u4 s4 h4
       simp only[Except.ok.injEq,Prod.mk.injEq] at h
       obtain ⟨_,rfl⟩:=h
       obtain ⟨k1,a1,b1,c1⟩:=(ed (s:=s.begun) h1).eI (gz h2).gu
       obtain ⟨k2,a2,b2,c2⟩:=(mh (fun x s x' s' h=>(gZ (yA _ (kV n)) (fun x s x' s' h=>jS h) h).1.gu) h3).1.trans (ed h4).gu
       refine ⟨k1+k2,?_,?_,?_⟩
       ·show s4.ts=_
        rw[a2]
        show s2.ts.drop k2=_
        rw[a1,List.drop_drop]
        congr 1
        omega
       ·show s4.op-1=s.op
        rw[b2]
        show s2.op+1-1=s.op
        rw[b1]
        rfl
       ·show s4.en=s.en
        rw[c2]
        exact c1
def sY (x:Mp) (vf vo vm ve vr vg:Value) (cm ce:List Value):List Slot:=[⟨45,6,vf,x.fs.length,mF x.fs⟩,⟨9,1,vo,x.os.length,dV x.os⟩,⟨49,7,vm,x.ms.length,cm⟩,⟨71,4,ve,x.es.length,ce⟩,⟨98,2,vr,x.rs.length,qC x.rs⟩,⟨9,1,vg,x.gs.length,dV x.gs⟩]
def tQ (g:Nat) (N:(Nat→Prop)→World→Prop) (x:Mp) (cm ce:List Value) (P:Nat→Prop) (w:World):Prop:=N P w∧eU (fun k=>P k∧g≤k) w cm x.ms∧fH (fun k=>P k∧g≤k) w ce x.es
theorem tQ.st {g:Nat}{N:(Nat→Prop)→World→Prop} (hN:aP N) (x:Mp) (cm ce:List Value):aP (tQ g N x cm ce):=hN.and (aP.and (fun _ _ _ _ hg h=>fb _ _ _ _ _ _ (hg.low g) h) (fun _ _ _ _ hg h=>eP _ _ _ _ _ _ (hg.low g) h))
def TR (K op:Nat) (x:Mp) (s:ax):Prop:=(x.fs.length+s.ts.length≤20000∧x.os.length+s.ts.length≤20000∧x.ms.length+s.ts.length≤20000∧x.es.length+s.ts.length≤20000∧x.rs.length+s.ts.length≤20000∧x.gs.length+s.ts.length≤20000)∧Sm s∧s.ts.length≤K∧s.op=op
def mL (lo b g K op:Nat) (nm:ByteArray) (N:(Nat→Prop)→World→Prop) (V W:World) (x:Mp) (s:ax) (w:World):Prop:=x.name=nm∧(∃vf vo vm ve vr vg cm ce,Ap lo b g 49 nm (sY x vf vo vm ve vr vg cm ce) (tQ g N x cm ce) V W s w)∧TR K op x s
theorem TR.step {K op:Nat}{x:Mp}{s s':ax} (h:TR K op x s) (hs:jj s s'):TR K op x s':=by
 obtain ⟨⟨l1,l2,l3,l4,l5,l6⟩,fP,hn,jX⟩:=h
 have:=hs.len
 exact ⟨⟨by omega,by omega,by omega,by omega,by omega,by omega⟩,hs.sm fP,by omega,hs.op.trans jX⟩
theorem mL.step {lo b g K op:Nat}{nm:ByteArray}{N:(Nat→Prop)→World→Prop}{V W w w':World}{x:Mp}{s s':ax} (h:mL lo b g K op nm N V W x s w) (hN:aP N) (hr:Rd lo w' b s') (hg:w.grownBy w' (some b)) (hs:jj s s'):mL lo b g K op nm N V W x s' w':=by
 obtain ⟨h0,⟨vf,vo,vm,ve,vr,vg,cm,ce,bd⟩,hk⟩:=h
 exact ⟨h0,⟨vf,vo,vm,ve,vr,vg,cm,ce,bd.read (tQ.st hN _ _ _) hr hg⟩,hk.step hs⟩
theorem mL.er {lo b g K op:Nat}{nm:ByteArray}{N:(Nat→Prop)→World→Prop}{V W w w':World}{x:Mp}{s:ax} (h:mL lo b g K op nm N V W x s w) (hg:w.grownBy w' (some b)):Sv g b W w':=by
 obtain ⟨_,⟨vf,vo,vm,ve,vr,vg,cm,ce,bd⟩,_⟩:=h
 exact bd.sv.trans (Sv.of hg (by have:=bd.bx.lt;omega))
theorem mL.rd {lo b g K op:Nat}{nm:ByteArray}{N:(Nat→Prop)→World→Prop}{V W w:World}{x:Mp}{s:ax} (h:mL lo b g K op nm N V W x s w):Rd lo w b s:=by
 obtain ⟨_,⟨vf,vo,vm,ve,vr,vg,cm,ce,bd⟩,_⟩:=h
 exact bd.rd
section
variable {lo b g K op : Nat} {nm : ByteArray} {N : (Nat → Prop) → World → Prop} {V W w : World} {x : Mp} {s : ax} {vf vo vm ve vr vg : Value} {cm ce : List Value} {e : Ending}
theorem yz {r:Except (Int×Int) (Fd×ax)} (jo:x.name=nm) (hk:TR K op x s) (hp:0<s.ts.length∨∀d s',r=.ok (d,s')→0<s.ts.length) (hg:∀d s',r=.ok (d,s')→Gt s s') (h:CP lo b g 49 nm (sY x vf vo vm ve vr vg cm ce) (tQ g N x cm ce) V W 0 ⟨45,6,vf,x.fs.length,mF x.fs⟩ r (fun a x _ _=>x=a.val) e w):IP (mL lo b g K op nm N V W) (Sv g b W) (lS x r) e w:=by
 rcases CP.plain Ox h with ⟨y,hr,rfl,hs⟩|⟨a,s',y,hr,rfl,h2⟩
 ·rw[hr]
  exact ⟨rfl,hs⟩
 ·have h3:=hg a s' hr
  have h4:=h3.lt (hp.elim id (fun h=>h a s' hr))
  rw[hr]
  obtain ⟨⟨l1,l2,l3,l4,l5,l6⟩,fP,hn,jX⟩:=hk
  exact ⟨rfl,jo,⟨y,vo,vm,ve,vr,vg,cm,ce,h2⟩,⟨⟨by simp only[zK,List.length_singleton];omega,by simp only;omega,by simp only;omega,by simp only;omega,by simp only;omega,by simp only;omega⟩,h3.gu.sm fP,by omega,h3.gu.op.trans jX⟩⟩
theorem Q6 {r:Except (Int×Int) (En×ax)} (jo:x.name=nm) (hk:TR K op x s) (hp:0<s.ts.length) (hg:∀d s',r=.ok (d,s')→Gt s s') (h:CP lo b g 49 nm (sY x vf vo vm ve vr vg cm ce) (tQ g N x cm ce) V W 3 ⟨71,4,ve,x.es.length,ce⟩ r (Wh g) e w):IP (mL lo b g K op nm N V W) (Sv g b W) (OM x r) e w:=by
 unfold CP at h
 cases hr:r with
 |error y =>
  rw[hr] at h
  exact h
 |ok z =>
  rw[hr] at h
  obtain ⟨he,v,y,bd⟩:=h
  have h3:=hg z.1 z.2 hr
  have h4:=h3.lt hp
  obtain ⟨⟨l1,l2,l3,l4,l5,l6⟩,fP,hn,jX⟩:=hk
  refine ⟨he,jo,⟨vf,vo,vm,y,vr,vg,cm,ce++v.cells.toList,?_⟩,⟨⟨by simp only;omega,by simp only;omega,by simp only;omega,by simp only[zK,List.length_singleton];omega,by simp only;omega,by simp only;omega⟩,h3.gu.sm fP,by omega,h3.gu.op.trans jX⟩⟩
  have h5:=bd.imp (N':=tQ g N { x with es:=x.es++[z.1] } cm (ce++v.cells.toList)) (fun hh=>by
   obtain ⟨⟨q1,q2,q3⟩,cs,e1,q4⟩:=hh
   have e2:cs.toList=v.cells.toList:=by rw[e1];rfl
   have h9:=q3.app q4
   rw[e2] at h9
   exact ⟨q1,q2,h9⟩)
  unfold sY
  simp only[zK,List.length_singleton]
  exact h5
theorem UL {r:Except (Int×Int) (Ms×ax)} (jo:x.name=nm) (hk:TR K op x s) (hp:0<s.ts.length) (hg:∀d s',r=.ok (d,s')→Gt s s') (h:CP lo b g 49 nm (sY x vf vo vm ve vr vg cm ce) (tQ g N x cm ce) V W 2 ⟨49,7,vm,x.ms.length,cm⟩ r (nB g) e w):IP (mL lo b g K op nm N V W) (Sv g b W) (FT x r) e w:=by
 unfold CP at h
 cases hr:r with
 |error y =>
  rw[hr] at h
  exact h
 |ok z =>
  rw[hr] at h
  obtain ⟨he,v,y,bd⟩:=h
  have h3:=hg z.1 z.2 hr
  have h4:=h3.lt hp
  obtain ⟨⟨l1,l2,l3,l4,l5,l6⟩,fP,hn,jX⟩:=hk
  refine ⟨he,jo,⟨vf,vo,y,ve,vr,vg,cm++v.cells.toList,ce,?_⟩,⟨⟨by simp only;omega,by simp only;omega,by simp only[zK,List.length_singleton];omega,by simp only;omega,by simp only;omega,by simp only;omega⟩,h3.gu.sm fP,by omega,h3.gu.op.trans jX⟩⟩
  have h5:=bd.imp (N':=tQ g N { x with ms:=x.ms++[z.1] } (cm++v.cells.toList) ce) (fun hh=>by
   obtain ⟨⟨q1,q2,q3⟩,cs,e1,q4⟩:=hh
   have e2:cs.toList=v.cells.toList:=by rw[e1];rfl
   have h9:=q2.app q4
   rw[e2] at h9
   exact ⟨q1,h9,q3⟩)
  unfold sY
  simp only[zK,List.length_singleton]
  exact h5
theorem UK (jo:x.name=nm) (hk:TR K op x s) (h:CB lo b g 49 nm (sY x vf vo vm ve vr vg cm ce) (tQ g N x cm ce) V W 4 5 (j5 1 536870911 false x.rs x.gs s) e w):IP (mL lo b g K op nm N V W) (Sv g b W) (Q9 x s) e w:=by
 unfold CB at h
 unfold Q9
 cases hq:j5 1 536870911 false x.rs x.gs s with
 |error y =>
  rw[hq] at h
  exact h
 |ok y =>
  rw[hq] at h
  obtain ⟨he,⟨v1,v2,ij⟩,k1,k2,k3⟩:=h
  have h3:=yY hq
  have dr:=h3.gu.len
  obtain ⟨⟨l1,l2,l3,l4,l5,l6⟩,fP,hn,jX⟩:=hk
  exact ⟨he,jo,⟨vf,vo,vm,ve,v1,v2,cm,ce,ij⟩,⟨⟨by simp only;omega,by simp only;omega,by simp only;omega,by simp only;omega,k1,k2⟩,k3,by omega,h3.gu.op.trans jX⟩⟩
end
end Go.Proofs.YtjophoclfccmcaaGreatDoor

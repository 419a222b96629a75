import Derived.Test.YtjophoclfccmcaaGreatDoorPbS
namespace Go.Proofs.YtjophoclfccmcaaGreatDoor
open Go.RowKit
attribute [local go_sem ↓] Go.wp_at_zero Go.wp_at_succ
theorem TP {d x:Fd}{s s':ay} (h:AL d s=.ok (x,s')):Gt s s'∧(s.en.kind=5→0<s.ts.length):=by
 unfold AL at h
 split at h
 ·cases h
 ·rename_i n s1 h1
  split at h
  ·cases h
  ·rename_i m s2 h2
   simp only[Except.ok.injEq,Prod.mk.injEq] at h
   obtain ⟨_,rfl⟩:=h
   exact ⟨(gm h1).eA (tP h2).gi,kT h1⟩
theorem FD {da:Bool}{s s1:ay}{x:ByteArray} (h:ba da s=.ok (x,s1)) (he:s.en.kind=5):0<s.ts.length:=by
 unfold ba at h
 split at h
 ·cases h
 ·rename_i d s2 h2
  unfold iu at h
  split at h
  ·cases h
  ·rename_i y s3 h3
   split at h2
   ·rcases mT h2 with ⟨_,rfl⟩|⟨_,_,hk⟩
    ·exact kT h3 he
    ·exact bN he (by rw[hk];decide)
   ·simp only[Except.ok.injEq,Prod.mk.injEq] at h2
    rw[←h2.2] at h3
    exact kT h3 he
theorem D5 {d x:Fd}{s s':ay} (h:gG d s=.ok (x,s')):Gt s s'∧(s.en.kind=5→0<s.ts.length):=by
 unfold gG at h
 split at h
 ·cases h
 ·rename_i y s1 h1
  exact ⟨(ft h1).gt (TP h).1,FD h1⟩
theorem jN {o:Int}{x:Fd}{s s':ay} (h:cq o s=.ok (x,s')):Gt s s'∧(s.en.kind=5→0<s.ts.length):=D5 (s:=s.begun) h
theorem lI {c:Int}{x:Fd}{s s':ay} (h:cU c s=.ok (x,s')):Gt s s':=by
 unfold cU at h
 split at h
 ·cases h
 ·rename_i u s1 h1
  split at h
  ·cases h
  ·exact (dW (s:=s.begun) h1).eA (D5 h).1.gi
theorem OB {x:Fd}{s s':ay} (h:de s=.ok (x,s')):Gt s s':=by
 unfold de at h
 split at h
 ·unfold lu at h
  split at h
  ·cases h
  ·rename_i u s1 h1
   split at h
   ·cases h
   ·rename_i u2 s2 h2
    split at h
    ·cases h
    ·rename_i k s3 h3
     split at h
     ·cases h
     ·rename_i u4 s4 h4
      split at h
      ·cases h
      ·rename_i t s5 h5
       split at h
       ·cases h
       ·rename_i u6 s6 h6
        exact (((((dW (s:=s.begun) h1).eA (bw h2)).eA (ft h3)).eA (bw h4)).eA (ft h5)).eA ((bw h6).trans (TP h).1.gi)
 ·exact (jN h).1
structure Mp where
 name:ByteArray
 fs:List Fd
 os:List ByteArray
 ms:List Ms
 es:List En
 rs:List (Int×Int)
 gs:List ByteArray
def Mp.done (x:Mp):Ms:=.mk x.name x.fs x.os x.ms x.es x.rs x.gs
def lV (x:Mp):Except (Int×Int) (Fd×ay)→Except (Int×Int) (Mp×ay)
 |.error e=>.error e
 |.ok (d,s')=>.ok ({ x with fs:=x.fs++[d] },s')
noncomputable def z7:kG Mp:=fun x s=>lV x (cq (x.os.length:Int) s)
noncomputable def ER:kG Mp:=fun x s=>lV x (cq 0 s)
noncomputable def msL (c:Int):kG Mp:=fun x s=>lV x (cU c s)
noncomputable def Ni:kG Mp:=fun x s=>lV x (de s)
def OW (x:Mp):Except (Int×Int) (En×ay)→Except (Int×Int) (Mp×ay)
 |.error e=>.error e
 |.ok (d,s')=>.ok ({ x with es:=x.es++[d] },s')
def FL (x:Mp):Except (Int×Int) (Ms×ay)→Except (Int×Int) (Mp×ay)
 |.error e=>.error e
 |.ok (d,s')=>.ok ({ x with ms:=x.ms++[d] },s')
noncomputable def YR:kG Mp:=fun x s=>OW x (db s)
def msM (mf:ay→Except (Int×Int) (Ms×ay)):kG Mp:=fun x s=>FL x (mf s)
noncomputable def Rx:kG Mp:=fun x s=>match jZ 1 536870911 false x.rs x.gs s with
 |.error e=>.error e
 |.ok (l,s')=>.ok ({ x with rs:=l.1,gs:=l.2 },s')
def rS:ByteArray→Option (kG Mp):=fun k=>if (k==⟨#[111,112,116,105,111,110]⟩)=true then some dv else if (k==⟨#[103,114,111,117,112]⟩)=true then some dv else if (k==⟨#[111,112,116,105,111,110,97,108]⟩)=true then some dv else if (k==⟨#[114,101,112,101,97,116,101,100]⟩)=true then some dv else if (k==⟨#[114,101,113,117,105,114,101,100]⟩)=true then some dv else if (k==⟨#[111,110,101,111,102]⟩)=true then some dv else if (k==⟨#[109,101,115,115,97,103,101]⟩)=true then some dv else if (k==⟨#[101,110,117,109]⟩)=true then some dv else if (k==⟨#[114,101,115,101,114,118,101,100]⟩)=true then some dv else none
def nc (k:Nat) (x:Mp) (s:ay):Except (Int×Int) (Mp×ay):=if x.fs.length=k then .error (bR s) else match bz s with
 |.error e=>.error e
 |.ok (_,s')=>.ok (x,s')
noncomputable def ks (k:Nat) (x:Mp) (s:ay):Except (Int×Int) (Mp×ay):=match jj (bU rS z7) x s with
 |.error e=>.error e
 |.ok (x2,s2)=>nc k x2 s2
noncomputable def fH:kG Mp:=fun x s=>match bz s.begun with
 |.error e=>.error e
 |.ok (_,s1)=>match aR s1 with
  |.error e=>.error e
  |.ok (nm,s2)=>ks x.fs.length { x with os:=x.os++[nm] } s2
noncomputable def mz (mf:ay→Except (Int×Int) (Ms×ay)):ByteArray→Option (kG Mp):=fun k=>if (k==⟨#[109,101,115,115,97,103,101]⟩)=true then some (msM mf) else if (k==⟨#[101,110,117,109]⟩)=true then some YR else if (k==⟨#[111,110,101,111,102]⟩)=true then some fH else if (k==⟨#[114,101,115,101,114,118,101,100]⟩)=true then some Rx else if (k==⟨#[111,112,116,105,111,110,97,108]⟩)=true then some (msL 2) else if (k==⟨#[114,101,112,101,97,116,101,100]⟩)=true then some (msL 3) else if (k==⟨#[109,97,112]⟩)=true then some Ni else if (k==⟨#[111,112,116,105,111,110]⟩)=true then some dv else if (k==⟨#[101,120,116,101,110,100]⟩)=true then some dv else if (k==⟨#[101,120,116,101,110,115,105,111,110,115]⟩)=true then some dv else if (k==⟨#[103,114,111,117,112]⟩)=true then some dv else if (k==⟨#[114,101,113,117,105,114,101,100]⟩)=true then some dv else none
def ay.CE (s:ay):ay:={ s with op:=s.op+1 }
def ay.Eg (s:ay):ay:={ s with op:=s.op-1 }
def tJ (x:Mp) (s:ay):Except (Int×Int) (Ms×ay):=match bz s with
 |.error e=>.error e
 |.ok (_,s')=>.ok (x.done,s'.Eg)
noncomputable def lR (mf:ay→Except (Int×Int) (Ms×ay)) (nm:ByteArray) (s:ay):Except (Int×Int) (Ms×ay):=match jj (bU (mz mf) ER) ⟨nm,[],[],[],[],[],[]⟩ s.CE with
 |.error e=>.error e
 |.ok (x,s3)=>tJ x s3
noncomputable def bj:Nat→ay→Except (Int×Int) (Ms×ay)
 |0,_=>.error (0,0)
 |n+1,s=>if s.op=32 then .error (53,s.here.spot) else match bz s.begun with
  |.error e=>.error e
  |.ok (_,s1)=>match aR s1 with
   |.error e=>.error e
   |.ok (nm,s2)=>lR (bj n) nm s2
theorem B6 {x x':Mp}{s s':ay}{r:Except (Int×Int) (Fd×ay)} (h:lV x r=.ok (x',s')) (hg:∀d s1,r=.ok (d,s1)→Gt s s1):Gt s s':=by
 cases r with
 |error e=>cases h
 |ok y =>
  simp only[lV,Except.ok.injEq,Prod.mk.injEq] at h
  obtain ⟨_,rfl⟩:=h
  exact hg _ _ rfl
theorem jP {x x':Mp}{s s':ay}{o:Int} (h:lV x (cq o s)=.ok (x',s')):Gt s s'∧(s.en.kind=5→0<s.ts.length):=by
 cases hr:cq o s with
 |error e=>rw[hr] at h;cases h
 |ok y =>
  rw[hr] at h
  simp only[lV,Except.ok.injEq,Prod.mk.injEq] at h
  obtain ⟨_,rfl⟩:=h
  exact jN hr
theorem Cl (k:ByteArray) (f:kG Mp) (hf:rS k=some f) (x:Mp) (s:ay) (x':Mp) (s':ay) (h:f x s=.ok (x',s')):Gt s s':=by
 unfold rS at hf
 by_cases q0:(k==⟨#[111,112,116,105,111,110]⟩)=true
 ·rw[if_pos q0] at hf
  obtain rfl:=zC hf
  cases h
 rw[if_neg q0] at hf
 by_cases q1:(k==⟨#[103,114,111,117,112]⟩)=true
 ·rw[if_pos q1] at hf
  obtain rfl:=zC hf
  cases h
 rw[if_neg q1] at hf
 by_cases q2:(k==⟨#[111,112,116,105,111,110,97,108]⟩)=true
 ·rw[if_pos q2] at hf
  obtain rfl:=zC hf
  cases h
 rw[if_neg q2] at hf
 by_cases q3:(k==⟨#[114,101,112,101,97,116,101,100]⟩)=true
 ·rw[if_pos q3] at hf
  obtain rfl:=zC hf
  cases h
 rw[if_neg q3] at hf
 by_cases q4:(k==⟨#[114,101,113,117,105,114,101,100]⟩)=true
 ·rw[if_pos q4] at hf
  obtain rfl:=zC hf
  cases h
 rw[if_neg q4] at hf
 by_cases q5:(k==⟨#[111,110,101,111,102]⟩)=true
 ·rw[if_pos q5] at hf
  obtain rfl:=zC hf
  cases h
 rw[if_neg q5] at hf
 by_cases q6:(k==⟨#[109,101,115,115,97,103,101]⟩)=true
 ·rw[if_pos q6] at hf
  obtain rfl:=zC hf
  cases h
 rw[if_neg q6] at hf
 by_cases q7:(k==⟨#[101,110,117,109]⟩)=true
 ·rw[if_pos q7] at hf
  obtain rfl:=zC hf
  cases h
 rw[if_neg q7] at hf
 by_cases q8:(k==⟨#[114,101,115,101,114,118,101,100]⟩)=true
 ·rw[if_pos q8] at hf
  obtain rfl:=zC hf
  cases h
 rw[if_neg q8] at hf
 cases hf
theorem MO (x:Mp) (s:ay) (x':Mp) (s':ay) (h:fH x s=.ok (x',s')):Gt s s':=by
 unfold fH at h
 split at h
 ·cases h
 ·rename_i u s1 h1
  split at h
  ·cases h
  ·rename_i nm s2 h2
   unfold ks at h
   split at h
   ·cases h
   ·rename_i x3 s3 h3
    unfold nc at h
    split at h
    ·cases h
    ·split at h
     ·cases h
     ·rename_i u4 s4 h4
      simp only[Except.ok.injEq,Prod.mk.injEq] at h
      obtain ⟨_,rfl⟩:=h
      exact (((dW (s:=s.begun) h1).eA (gm h2).gi).eA (mq (fun x s x' s' h=>(gX Cl (fun x s x' s' h=>jP h) h).1.gi) h3).1).eA (dW h4).gi
theorem yw (mf:ay→Except (Int×Int) (Ms×ay)) (IC:∀s m s',mf s=.ok (m,s')→Gt s s') (k:ByteArray) (f:kG Mp) (hf:mz mf k=some f) (x:Mp) (s:ay) (x':Mp) (s':ay) (h:f x s=.ok (x',s')):Gt s s':=by
 unfold mz at hf
 by_cases q0:(k==⟨#[109,101,115,115,97,103,101]⟩)=true
 ·rw[if_pos q0] at hf
  obtain rfl:=zC hf
  unfold msM at h
  cases hr:mf s with
  |error e=>rw[hr] at h;cases h
  |ok y =>
   rw[hr] at h
   simp only[FL,Except.ok.injEq,Prod.mk.injEq] at h
   obtain ⟨_,rfl⟩:=h
   exact IC _ _ _ hr
 rw[if_neg q0] at hf
 by_cases q1:(k==⟨#[101,110,117,109]⟩)=true
 ·rw[if_pos q1] at hf
  obtain rfl:=zC hf
  unfold YR at h
  cases hr:db s with
  |error e=>rw[hr] at h;cases h
  |ok y =>
   rw[hr] at h
   simp only[OW,Except.ok.injEq,Prod.mk.injEq] at h
   obtain ⟨_,rfl⟩:=h
   exact rF hr
 rw[if_neg q1] at hf
 by_cases q2:(k==⟨#[111,110,101,111,102]⟩)=true
 ·rw[if_pos q2] at hf
  obtain rfl:=zC hf
  exact MO _ _ _ _ h
 rw[if_neg q2] at hf
 by_cases q3:(k==⟨#[114,101,115,101,114,118,101,100]⟩)=true
 ·rw[if_pos q3] at hf
  obtain rfl:=zC hf
  unfold Rx at h
  split at h
  ·cases h
  ·rename_i d s1 h1
   simp only[Except.ok.injEq,Prod.mk.injEq] at h
   obtain ⟨_,rfl⟩:=h
   exact yV h1
 rw[if_neg q3] at hf
 by_cases q4:(k==⟨#[111,112,116,105,111,110,97,108]⟩)=true
 ·rw[if_pos q4] at hf
  obtain rfl:=zC hf
  exact B6 h (fun d s1 hr=>lI hr)
 rw[if_neg q4] at hf
 by_cases q5:(k==⟨#[114,101,112,101,97,116,101,100]⟩)=true
 ·rw[if_pos q5] at hf
  obtain rfl:=zC hf
  exact B6 h (fun d s1 hr=>lI hr)
 rw[if_neg q5] at hf
 by_cases q6:(k==⟨#[109,97,112]⟩)=true
 ·rw[if_pos q6] at hf
  obtain rfl:=zC hf
  exact B6 h (fun d s1 hr=>OB hr)
 rw[if_neg q6] at hf
 by_cases q7:(k==⟨#[111,112,116,105,111,110]⟩)=true
 ·rw[if_pos q7] at hf
  obtain rfl:=zC hf
  cases h
 rw[if_neg q7] at hf
 by_cases q8:(k==⟨#[101,120,116,101,110,100]⟩)=true
 ·rw[if_pos q8] at hf
  obtain rfl:=zC hf
  cases h
 rw[if_neg q8] at hf
 by_cases q9:(k==⟨#[101,120,116,101,110,115,105,111,110,115]⟩)=true
 ·rw[if_pos q9] at hf
  obtain rfl:=zC hf
  cases h
 rw[if_neg q9] at hf
 by_cases EO:(k==⟨#[103,114,111,117,112]⟩)=true
 ·rw[if_pos EO] at hf
  obtain rfl:=zC hf
  cases h
 rw[if_neg EO] at hf
 by_cases Qh:(k==⟨#[114,101,113,117,105,114,101,100]⟩)=true
 ·rw[if_pos Qh] at hf
  obtain rfl:=zC hf
  cases h
 rw[if_neg Qh] at hf
 cases hf
theorem kX:∀(n:Nat) (s:ay) (m:Ms) (s':ay),bj n s=.ok (m,s')→Gt s s'
 |0,s,m,s',h=>by cases h
 |n+1,s,m,s',h=>by
  unfold bj at h
  split at h
  ·cases h
  ·split at h
   ·cases h
   ·rename_i u s1 h1
    split at h
    ·cases h
    ·rename_i nm s2 h2
     unfold lR at h
     split at h
     ·cases h
     ·rename_i x s3 h3
      unfold tJ at h
      split at h
      ·cases h
      ·rename_i u4 s4 h4
       simp only[Except.ok.injEq,Prod.mk.injEq] at h
       obtain ⟨_,rfl⟩:=h
       obtain ⟨k1,a1,b1,c1⟩:=(dW (s:=s.begun) h1).eA (gm h2).gi
       obtain ⟨k2,a2,b2,c2⟩:=(mq (fun x s x' s' h=>(gX (yw _ (kX n)) (fun x s x' s' h=>jP h) h).1.gi) h3).1.trans (dW h4).gi
       refine ⟨k1+k2,?_,?_,?_⟩
       ·show s4.ts=_
        rw[a2]
        show s2.ts.drop k2=_
        rw[a1,List.drop_drop]
        congr 1
        omega
       ·show s4.op-1=s.op
        rw[b2]
        show s2.op+1-1=s.op
        rw[b1]
        rfl
       ·show s4.en=s.en
        rw[c2]
        exact c1
def td (x:Mp) (vf vo vm ve vr vg:Value) (cm ce:List Value):List Slot:=[⟨45,6,vf,x.fs.length,mI x.fs⟩,⟨9,1,vo,x.os.length,dR x.os⟩,⟨49,7,vm,x.ms.length,cm⟩,⟨71,4,ve,x.es.length,ce⟩,⟨98,2,vr,x.rs.length,qG x.rs⟩,⟨9,1,vg,x.gs.length,dR x.gs⟩]
def tU (g:Nat) (N:(Nat→Prop)→World→Prop) (x:Mp) (cm ce:List Value) (P:Nat→Prop) (w:World):Prop:=N P w∧eT (fun k=>P k∧g≤k) w cm x.ms∧fE (fun k=>P k∧g≤k) w ce x.es
theorem tU.st {g:Nat}{N:(Nat→Prop)→World→Prop} (hN:aQ N) (x:Mp) (cm ce:List Value):aQ (tU g N x cm ce):=hN.and (aQ.and (fun _ _ _ _ hg h=>eX _ _ _ _ _ _ (hg.low g) h) (fun _ _ _ _ hg h=>eO _ _ _ _ _ _ (hg.low g) h))
def T' (K op:Nat) (x:Mp) (s:ay):Prop:=(x.fs.length+s.ts.length≤20000∧x.os.length+s.ts.length≤20000∧x.ms.length+s.ts.length≤20000∧x.es.length+s.ts.length≤20000∧x.rs.length+s.ts.length≤20000∧x.gs.length+s.ts.length≤20000)∧Sm s∧s.ts.length≤K∧s.op=op
def mP (lo b g K op:Nat) (nm:ByteArray) (N:(Nat→Prop)→World→Prop) (V W:World) (x:Mp) (s:ay) (w:World):Prop:=x.name=nm∧(∃vf vo vm ve vr vg cm ce,Ap lo b g 49 nm (td x vf vo vm ve vr vg cm ce) (tU g N x cm ce) V W s w)∧T' K op x s
theorem T'.step {K op:Nat}{x:Mp}{s s':ay} (h:T' K op x s) (hs:jk s s'):T' K op x s':=by
 obtain ⟨⟨l1,l2,l3,l4,l5,l6⟩,fJ,hn,jU⟩:=h
 have:=hs.len
 exact ⟨⟨by omega,by omega,by omega,by omega,by omega,by omega⟩,hs.sm fJ,by omega,hs.op.trans jU⟩
theorem mP.step {lo b g K op:Nat}{nm:ByteArray}{N:(Nat→Prop)→World→Prop}{V W w w':World}{x:Mp}{s s':ay} (h:mP lo b g K op nm N V W x s w) (hN:aQ N) (hr:Rd lo w' b s') (hg:w.grownBy w' (some b)) (hs:jk s s'):mP lo b g K op nm N V W x s' w':=by
 obtain ⟨h0,⟨vf,vo,vm,ve,vr,vg,cm,ce,bd⟩,hk⟩:=h
 exact ⟨h0,⟨vf,vo,vm,ve,vr,vg,cm,ce,bd.read (tU.st hN _ _ _) hr hg⟩,hk.step hs⟩
theorem mP.er {lo b g K op:Nat}{nm:ByteArray}{N:(Nat→Prop)→World→Prop}{V W w w':World}{x:Mp}{s:ay} (h:mP lo b g K op nm N V W x s w) (hg:w.grownBy w' (some b)):Sv g b W w':=by
 obtain ⟨_,⟨vf,vo,vm,ve,vr,vg,cm,ce,bd⟩,_⟩:=h
 exact bd.sv.trans (Sv.of hg (by have:=bd.bx.lt;omega))
theorem mP.rd {lo b g K op:Nat}{nm:ByteArray}{N:(Nat→Prop)→World→Prop}{V W w:World}{x:Mp}{s:ay} (h:mP lo b g K op nm N V W x s w):Rd lo w b s:=by
 obtain ⟨_,⟨vf,vo,vm,ve,vr,vg,cm,ce,bd⟩,_⟩:=h
 exact bd.rd
section
variable {lo b g K op : Nat} {nm : ByteArray} {N : (Nat → Prop) → World → Prop} {V W w : World} {x : Mp} {s : ay} {vf vo vm ve vr vg : Value} {cm ce : List Value} {e : Ending}
theorem yv {r:Except (Int×Int) (Fd×ay)} (jq:x.name=nm) (hk:T' K op x s) (hp:0<s.ts.length∨∀d s',r=.ok (d,s')→0<s.ts.length) (hg:∀d s',r=.ok (d,s')→Gt s s') (h:CP lo b g 49 nm (td x vf vo vm ve vr vg cm ce) (tU g N x cm ce) V W 0 ⟨45,6,vf,x.fs.length,mI x.fs⟩ r (fun a x _ _=>x=a.val) e w):IP (mP lo b g K op nm N V W) (Sv g b W) (lV x r) e w:=by
 rcases CP.plain OI h with ⟨y,hr,rfl,hs⟩|⟨a,s',y,hr,rfl,h2⟩
 ·rw[hr]
  exact ⟨rfl,hs⟩
 ·have h3:=hg a s' hr
  have h4:=h3.lt (hp.elim id (fun h=>h a s' hr))
  rw[hr]
  obtain ⟨⟨l1,l2,l3,l4,l5,l6⟩,fJ,hn,jU⟩:=hk
  exact ⟨rfl,jq,⟨y,vo,vm,ve,vr,vg,cm,ce,h2⟩,⟨⟨by simp only[zK,List.length_singleton];omega,by simp only;omega,by simp only;omega,by simp only;omega,by simp only;omega,by simp only;omega⟩,h3.gi.sm fJ,by omega,h3.gi.op.trans jU⟩⟩
theorem Rt {r:Except (Int×Int) (En×ay)} (jq:x.name=nm) (hk:T' K op x s) (hp:0<s.ts.length) (hg:∀d s',r=.ok (d,s')→Gt s s') (h:CP lo b g 49 nm (td x vf vo vm ve vr vg cm ce) (tU g N x cm ce) V W 3 ⟨71,4,ve,x.es.length,ce⟩ r (WC g) e w):IP (mP lo b g K op nm N V W) (Sv g b W) (OW x r) e w:=by
 unfold CP at h
 cases hr:r with
 |error y =>
  rw[hr] at h
  exact h
 |ok z =>
  rw[hr] at h
  obtain ⟨he,v,y,bd⟩:=h
  have h3:=hg z.1 z.2 hr
  have h4:=h3.lt hp
  obtain ⟨⟨l1,l2,l3,l4,l5,l6⟩,fJ,hn,jU⟩:=hk
  refine ⟨he,jq,⟨vf,vo,vm,y,vr,vg,cm,ce++v.cells.toList,?_⟩,⟨⟨by simp only;omega,by simp only;omega,by simp only;omega,by simp only[zK,List.length_singleton];omega,by simp only;omega,by simp only;omega⟩,h3.gi.sm fJ,by omega,h3.gi.op.trans jU⟩⟩
  have h5:=bd.imp (N':=tU g N { x with es:=x.es++[z.1] } cm (ce++v.cells.toList)) (fun hh=>by
   obtain ⟨⟨q1,q2,q3⟩,cs,e1,q4⟩:=hh
   have e2:cs.toList=v.cells.toList:=by rw[e1];rfl
   have h9:=q3.app q4
   rw[e2] at h9
   exact ⟨q1,q2,h9⟩)
  unfold td
  simp only[zK,List.length_singleton]
  exact h5
theorem UY {r:Except (Int×Int) (Ms×ay)} (jq:x.name=nm) (hk:T' K op x s) (hp:0<s.ts.length) (hg:∀d s',r=.ok (d,s')→Gt s s') (h:CP lo b g 49 nm (td x vf vo vm ve vr vg cm ce) (tU g N x cm ce) V W 2 ⟨49,7,vm,x.ms.length,cm⟩ r (nE g) e w):IP (mP lo b g K op nm N V W) (Sv g b W) (FL x r) e w:=by
 unfold CP at h
 cases hr:r with
 |error y =>
  rw[hr] at h
  exact h
 |ok z =>
  rw[hr] at h
  obtain ⟨he,v,y,bd⟩:=h
  have h3:=hg z.1 z.2 hr
  have h4:=h3.lt hp
  obtain ⟨⟨l1,l2,l3,l4,l5,l6⟩,fJ,hn,jU⟩:=hk
  refine ⟨he,jq,⟨vf,vo,y,ve,vr,vg,cm++v.cells.toList,ce,?_⟩,⟨⟨by simp only;omega,by simp only;omega,by simp only[zK,List.length_singleton];omega,by simp only;omega,by simp only;omega,by simp only;omega⟩,h3.gi.sm fJ,by omega,h3.gi.op.trans jU⟩⟩
  have h5:=bd.imp (N':=tU g N { x with ms:=x.ms++[z.1] } (cm++v.cells.toList) ce) (fun hh=>by
   obtain ⟨⟨q1,q2,q3⟩,cs,e1,q4⟩:=hh
   have e2:cs.toList=v.cells.toList:=by rw[e1];rfl
   have h9:=q2.app q4
   rw[e2] at h9
   exact ⟨q1,h9,q3⟩)
  unfold td
  simp only[zK,List.length_singleton]
  exact h5
theorem UX (jq:x.name=nm) (hk:T' K op x s) (h:Cw lo b g 49 nm (td x vf vo vm ve vr vg cm ce) (tU g N x cm ce) V W 4 5 (jZ 1 536870911 false x.rs x.gs s) e w):IP (mP lo b g K op nm N V W) (Sv g b W) (Rx x s) e w:=by
 unfold Cw at h
 unfold Rx
 cases hq:jZ 1 536870911 false x.rs x.gs s with
 |error y =>
  rw[hq] at h
  exact h
 |ok y =>
  rw[hq] at h
  obtain ⟨he,⟨v1,v2,ig⟩,k1,k2,k3⟩:=h
  have h3:=yV hq
  have dB:=h3.gi.len
  obtain ⟨⟨l1,l2,l3,l4,l5,l6⟩,fJ,hn,jU⟩:=hk
  exact ⟨he,jq,⟨vf,vo,vm,ve,v1,v2,cm,ce,ig⟩,⟨⟨by simp only;omega,by simp only;omega,by simp only;omega,by simp only;omega,k1,k2⟩,k3,by omega,h3.gi.op.trans jU⟩⟩
end
end Go.Proofs.YtjophoclfccmcaaGreatDoor

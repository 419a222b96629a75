import Derived.Test.YtmlphohdcejniaaGreatDoorM40
set_option maxHeartbeats 4000000
set_option maxRecDepth 100000
namespace Go.Proofs.YtmlphohdcejniaaGreatDoor
open Go.RowKit
structure AY (f:Fd) (ps:List ByteArray):Prop where
 ty:f.ty=gQ ps
 tp:lC ps
 nm:aU f.name
 num:0≤f.num∧f.num≤2147483647
noncomputable abbrev j6 (mf:aI→Except (Int×Int) (Ms×aI)):=fJ (cj (BY mf) Un)
noncomputable abbrev UW:=fJ (cj AI KA)
theorem pK:(ByteArray.toList ⟨#[46]⟩==ByteArray.toList ⟨#[59]⟩)=false:=by decide +kernel
theorem nW:Fk (sg 46)=false:=by decide +kernel
theorem Ta (mf:aI→Except (Int×Int) (Ms×aI)):BY mf ⟨#[46]⟩=none:=by rfl
theorem PL:AI ⟨#[46]⟩=none:=by rfl
theorem LX {mf:aI→Except (Int×Int) (Ms×aI)}{K:Nat}{x:Mp}{f:Fd}{ps:List ByteArray} (hf:AY f ps) (hc:f.dF=1∧f.key=⟨#[]⟩∧f.oneof=0):eH (j6 mf) K (bV ps++lP f.name f.num) 1 x { x with fs:=x.fs++[f] }:=by
 obtain ⟨r,hr⟩:=qM hf.tp
 have hE:eH (j6 mf) K (sg 46::(r++lP f.name f.num)) 1 x { x with fs:=x.fs++[f] }:=by
  refine df (eK _) nW fun s l d o e h hd _=>?_
  rw[vz x h (.inr pK) (Ta mf)]
  unfold Un
  have h2:St s (bV ps++(lP f.name f.num++l)) false d o e:=by
   have:bV ps++(lP f.name f.num++l)=sg 46::(r++lP f.name f.num)++l:=by rw[hr];simp
   rw[this];exact h
  rcases yr (k:=0) h2 hf.tp hf.nm hf.num hd with ⟨q1,p,q2⟩|⟨q1,s1,q2,h3⟩<;>rw[q2]
  ·exact .inl ⟨q1,p,rfl⟩
  ·obtain ⟨c1,c2,c3⟩:=hc
   have e1:(⟨1,⟨#[]⟩,gQ ps,f.name,f.num,0⟩:Fd)=f:=by
    cases f;simp only at c1 c2 c3 hf;rw[c1,c2,c3,←hf.ty]
   rw[e1]
   exact .inr ⟨q1,s1,rfl,h3⟩
 exact hE.cast (by rw[hr];rfl) rfl
theorem IV {K:Nat}{x:Mp}{f:Fd}{ps:List ByteArray} (hf:AY f ps) (hc:f.dF=1∧f.key=⟨#[]⟩∧f.oneof=(x.os.length:Int)):eH UW K (bV ps++lP f.name f.num) 1 x { x with fs:=x.fs++[f] }:=by
 obtain ⟨r,hr⟩:=qM hf.tp
 have hE:eH UW K (sg 46::(r++lP f.name f.num)) 1 x { x with fs:=x.fs++[f] }:=by
  refine df (eK _) nW fun s l d o e h hd _=>?_
  rw[vz x h (.inr pK) PL]
  unfold KA
  have h2:St s (bV ps++(lP f.name f.num++l)) false d o e:=by
   have:bV ps++(lP f.name f.num++l)=sg 46::(r++lP f.name f.num)++l:=by rw[hr];simp
   rw[this];exact h
  rcases yr (k:=(x.os.length:Int)) h2 hf.tp hf.nm hf.num hd with ⟨q1,p,q2⟩|⟨q1,s1,q2,h3⟩<;>rw[q2]
  ·exact .inl ⟨q1,p,rfl⟩
  ·obtain ⟨c1,c2,c3⟩:=hc
   have e1:(⟨1,⟨#[]⟩,gQ ps,f.name,f.num,(x.os.length:Int)⟩:Fd)=f:=by
    rw[←c3,←hf.ty]
    cases f;simp only at c1 c2;rw[c1,c2]
   rw[e1]
   exact .inr ⟨q1,s1,rfl,h3⟩
 exact hE.cast (by rw[hr];rfl) rfl
theorem iH (x:ByteArray):Fk (1,x)=false:=by rfl
def G':ByteArray:=⟨#[111,112,116,105,111,110,97,108]⟩
def G3:ByteArray:=⟨#[114,101,112,101,97,116,101,100]⟩
theorem Cw {mf:aI→Except (Int×Int) (Ms×aI)}{K:Nat}{x:Mp}{f:Fd}{y:ByteArray}{c:Int}{ps:List ByteArray} (hy:(y=G'∧c=2)∨(y=G3∧c=3)) (hf:AY f ps) (hc:f.dF=c∧f.key=⟨#[]⟩∧f.oneof=0):eH (j6 mf) K ((1,y)::(bV ps++lP f.name f.num)) 1 x { x with fs:=x.fs++[f] }:=by
 refine df (eK _) (iH y) fun s l d o e h hd _=>?_
 have hw:BY mf y=some (VS c):=by
  rcases hy with ⟨rfl,rfl⟩|⟨rfl,rfl⟩<;>rfl
 rw[fL (f:=VS c) x h hw]
 unfold VS
 have h2:St s ((1,y)::(bV ps++(lP f.name f.num++l))) false d o e:=by
  have:(1,y)::(bV ps++(lP f.name f.num++l))=(1,y)::(bV ps++lP f.name f.num)++l:=by simp
  rw[this];exact h
 rcases Ac (c:=c) h2 hf.tp hf.nm hf.num hd with ⟨q1,p,q2⟩|⟨q1,s1,q2,h3⟩<;>rw[q2]
 ·exact .inl ⟨q1,p,rfl⟩
 ·obtain ⟨c1,c2,c3⟩:=hc
  have e1:(⟨c,⟨#[]⟩,gQ ps,f.name,f.num,0⟩:Fd)=f:=by
   rw[←hf.ty]
   cases f;simp only at c1 c2 c3;rw[c1,c2,c3]
  rw[e1]
  exact .inr ⟨q1,s1,rfl,h3⟩
theorem S' {mf:aI→Except (Int×Int) (Ms×aI)}{K:Nat}{x:Mp}{f:Fd}{ks ps:List ByteArray} (hf:AY f ps) (hk:lC ks) (hc:f.dF=4∧f.key=gQ ks∧f.oneof=0):eH (j6 mf) K (Ih ks ps f.name f.num) 1 x { x with fs:=x.fs++[f] }:=by
 refine df (eK _) (iH _) fun s l d o e h hd _=>?_
 have hw:BY mf ⟨#[109,97,112]⟩=some FF:=rfl
 rw[fL (f:=FF) x h hw]
 unfold FF
 have h2:St s (Ih ks ps f.name f.num++l) false d o e:=h
 rcases OJ h2 hk hf.tp hf.nm hf.num hd with ⟨q1,p,q2⟩|⟨q1,s1,q2,h3⟩<;>rw[q2]
 ·exact .inl ⟨q1,p,rfl⟩
 ·obtain ⟨c1,c2,c3⟩:=hc
  have e1:(⟨4,gQ ks,gQ ps,f.name,f.num,0⟩:Fd)=f:=by
   rw[←hf.ty,←c2]
   cases f;simp only at c1 c3;rw[c1,c3]
  rw[e1]
  exact .inr ⟨q1,s1,rfl,h3⟩
theorem CJ (x:Mp) (K:Nat):eH UW K [sg 59] 0 x x:=df (eK _) (by decide +kernel) fun s l d o e h hd _=>tP x h hd
theorem F2 (mf:aI→Except (Int×Int) (Ms×aI)) (x:Mp) (K:Nat):eH (j6 mf) K [sg 59] 0 x x:=df (eK _) (by decide +kernel) fun s l d o e h hd _=>tP x h hd
def rN:ByteArray:=⟨#[111,110,101,111,102]⟩
theorem LY {mf:aI→Except (Int×Int) (Ms×aI)}{K c:Nat}{x y:Mp}{nm:ByteArray}{ws:List Wd} (hn:aU nm) (hE:eH UW K ws c { x with os:=x.os++[nm] } y) (hy:x.fs.length<y.fs.length):eH (j6 mf) K ((1,rN)::(1,nm)::sg 123::(ws++[sg 125])) (1+c) x y:=by
 refine df (eK _) (iH _) fun s l d o e h hd ho=>?_
 have hw:BY mf rN=some ja:=rfl
 rw[fL (f:=ja) x h hw]
 unfold ja
 have h0:St s ((1,rN)::(1,nm)::sg 123::(ws++sg 125::l)) false d o e:=by
  have:(1,rN)::(1,nm)::sg 123::(ws++sg 125::l)=(1,rN)::((1,nm)::sg 123::(ws++[sg 125]))++l:=by simp
  rw[this];exact h
 rcases ej h0.begun hd with ⟨q1,p,q2⟩|⟨q1,s1,q2,h1⟩<;>rw[q2]<;>rw[wU] at q1
 ·exact .inl ⟨by omega,p,rfl⟩
 simp only
 rw[wU] at h1
 rcases j4 h1 hn q1 with ⟨r1,p,r2⟩|⟨r1,s2,r2,h2⟩<;>rw[r2]<;>rw[cI] at r1
 ·omega
 simp only
 rw[cI] at h2
 unfold jA
 rcases wV hE h2 q1 ho with ⟨t1,p,t2⟩|⟨t1,s3,t2,h3⟩<;>rw[t2]
 ·exact .inl ⟨by omega,p,rfl⟩
 simp only
 unfold lO
 rw[if_neg (by omega)]
 rcases ej h3 t1 with ⟨u1,p,u2⟩|⟨u1,s4,u2,h4⟩<;>rw[u2]<;>rw[cI] at u1
 ·omega
 ·rw[cI] at h4
  exact .inr ⟨by omega,s4,rfl,by rw[show d+(1+c)=d+1+c by omega];exact h4⟩
theorem S8 {mf:aI→Except (Int×Int) (Ms×aI)}{x:Mp}{K:Nat}{a c:Int} (ha:1≤a∧a≤c∧c≤536870911):eH (j6 mf) K (BC a c) 1 x { x with rs:=x.rs++[(a,c)] } :=
 df (eK _) (by decide +kernel) fun s l d o e h hd _=>by
  have hw:BY mf mv.2=some Ny:=rfl
  rw[fL (f:=Ny) x h hw]
  unfold Ny
  rcases Fx (rs:=x.rs) (gs:=x.gs) (mi:=false) h ha (by omega) (.inr (by omega)) hd with ⟨q1,p,q2⟩|⟨q1,s1,q2,h1⟩<;>rw[q2]
  ·exact .inl ⟨q1,p,rfl⟩
  ·exact .inr ⟨q1,s1,rfl,h1⟩
theorem Pe {mf:aI→Except (Int×Int) (Ms×aI)}{x:Mp}{K:Nat}{gs:List ByteArray} (eo:gs≠[]) (hx:∀y ∈ gs,aU y):eH (j6 mf) K (ry gs) gs.length x { x with gs:=x.gs++gs }:=by
 cases gs with
 |nil=>exact absurd rfl eo
 |cons y r =>
  refine df (eK _) (by decide +kernel) fun s l d o e h hd _=>?_
  have hw:BY mf mv.2=some Ny:=rfl
  rw[fL (f:=Ny) x h hw]
  unfold Ny
  rcases BE (rs:=x.rs) (gs:=x.gs) (lo:=1) (hi:=536870911) (mi:=false) h hx hd with ⟨q1,p,q2⟩|⟨q1,s1,q2,h1⟩<;>rw[q2]
  ·exact .inl ⟨q1,p,rfl⟩
  ·exact .inr ⟨q1,s1,rfl,h1⟩
theorem Pf {mf:aI→Except (Int×Int) (Ms×aI)}{x:Mp}{K c:Nat}{z:En}{ws:List Wd} (h:Vd z ws c):eH (j6 mf) K ws c x { x with es:=x.es++[z] }:=by
 obtain ⟨⟨r,rfl⟩,h2⟩:=h
 refine df (eK _) (iH _) fun s l d o e h hd ho=>?_
 have hw:BY mf ⟨#[101,110,117,109]⟩=some VT:=rfl
 rw[fL (f:=VT) x h hw]
 unfold VT
 rcases h2 s l d o e h hd (by omega) with ⟨q1,p,q2⟩|⟨q1,s1,q2,h1⟩<;>rw[q2]
 ·exact .inl ⟨q1,p,rfl⟩
 ·exact .inr ⟨q1,s1,rfl,h1⟩
def xC:ByteArray:=⟨#[109,101,115,115,97,103,101]⟩
def TQ (f:Nat) (m:Ms) (ws:List Wd) (c:Nat):Prop:=(∃r,ws=(1,xC)::r)∧∀n s l d o e,f≤n→St s (ws++l) false d o e→d≤4096→o+f≤32→qf (bB n s) m l false (d+c) o e
theorem S9 {n f K:Nat}{x:Mp}{c:Nat}{m:Ms}{ws:List Wd} (h:TQ f m ws c) (hn:f≤n) (hK:f≤K):eH (j6 (bB n)) K ws c x { x with ms:=x.ms++[m] }:=by
 obtain ⟨⟨r,rfl⟩,h2⟩:=h
 refine df (eK _) (iH _) fun s l d o e h hd ho=>?_
 have hw:BY (bB n) xC=some (VR (bB n)):=rfl
 rw[fL (f:=VR (bB n)) x h hw]
 unfold VR
 rcases h2 n s l d o e hn h hd (by omega) with ⟨q1,p,q2⟩|⟨q1,s1,q2,h1⟩<;>rw[q2]
 ·exact .inl ⟨q1,p,rfl⟩
 ·exact .inr ⟨q1,s1,rfl,h1⟩
theorem Pg {f:Nat}{x:Mp}{ws:List Wd}{c:Nat} (hE:∀n,f≤n→eH (j6 (bB n)) f ws c ⟨x.name,[],[],[],[],[],[]⟩ x) (hx:aU x.name):TQ (f+1) x.done ((1,xC)::(1,x.name)::sg 123::(ws++[sg 125])) (1+c):=by
 refine ⟨⟨_,rfl⟩,fun n s l d o e hn h hd ho=>?_⟩
 obtain ⟨n,rfl⟩:∃m,n=m+1:=⟨n-1,by omega⟩
 have h0:St s ((1,xC)::(1,x.name)::sg 123::(ws++sg 125::l)) false d o e:=by
  have:(1,xC)::(1,x.name)::sg 123::(ws++sg 125::l)=(1,xC)::(1,x.name)::sg 123::(ws++[sg 125])++l:=by simp
  rw[this];exact h
 rw[bB,if_neg (by rw[h.op];omega)]
 rcases ej h0.begun hd with ⟨q1,p,q2⟩|⟨q1,s1,q2,h1⟩<;>rw[q2]<;>rw[wU] at q1
 ·exact .inl ⟨by omega,p,rfl⟩
 simp only
 rw[wU] at h1
 rcases j4 h1 hx q1 with ⟨r1,p,r2⟩|⟨r1,s2,r2,h2⟩<;>rw[r2]<;>rw[cI] at r1
 ·omega
 simp only
 rw[cI] at h2
 unfold lR
 have h2u:St s2.Nr (sg 123::(ws++sg 125::l)) false (d+1) (o+1) e:=⟨h2.ts,h2.bg,h2.dc,by show s2.op+1=o+1;rw[h2.op],h2.en⟩
 rcases wV (hE n (by omega)) h2u q1 (by omega) with ⟨t1,p,t2⟩|⟨t1,s3,t2,h3⟩<;>rw[t2]
 ·exact .inl ⟨by omega,p,rfl⟩
 simp only
 unfold vH
 rcases ej h3 t1 with ⟨u1,p,u2⟩|⟨u1,s4,u2,h4⟩<;>rw[u2]<;>rw[cI] at u1
 ·omega
 ·rw[cI] at h4
  exact .inr ⟨by omega,s4.CE,rfl,h4.ts,h4.bg,by show s4.dc=_;rw[h4.dc];omega,by show s4.op-1=o;rw[h4.op];omega,h4.en⟩
noncomputable abbrev Aw:=kb (cj Ey QO)
theorem tR (x:ByteArray):Kb (1,x)=false:=by rfl
theorem F3 (x:Fl) (K:Nat):eH Aw K [sg 59] 0 x x:=df (pq _) (by rfl) fun s l d o e h hd _=>tP x h hd
theorem Tb {x:Fl}{K:Nat}{ps:List ByteArray} (hp:lC ps) (hx:x.fW=⟨#[]⟩):eH Aw K ((1,⟨#[112,97,99,107,97,103,101]⟩)::(mO ps++[sg 59])) 0 x { x with fW:=iZ ps }:=by
 refine df (pq _) (tR _) fun s l d o e h hd ho=>?_
 have hw:Ey ⟨#[112,97,99,107,97,103,101]⟩=some nB:=rfl
 rw[fL (f:=nB) x h hw]
 unfold nB
 have h0:St s ((1,⟨#[112,97,99,107,97,103,101]⟩)::(mO ps++sg 59::l)) false d o e:=by
  have:(1,⟨#[112,97,99,107,97,103,101]⟩)::(mO ps++sg 59::l)=(1,⟨#[112,97,99,107,97,103,101]⟩)::(mO ps++[sg 59])++l:=by simp
  rw[this];exact h
 rw[if_pos (by rw[hx];decide +kernel)]
 rcases ej h0 hd with ⟨q1,p,q2⟩|⟨q1,s1,q2,h1⟩<;>rw[q2]<;>rw[cI] at q1
 ·omega
 simp only
 rw[cI] at h1
 rcases Oz h1 (show pS (sg 59::l) from .inl (by decide +kernel)) hp hd with ⟨r1,p,r2⟩|⟨r1,s2,r2,h2⟩<;>rw[r2]<;>rw[cI] at r1
 ·omega
 simp only
 rw[cI] at h2
 rcases eS h2 hd with ⟨t1,p,t2⟩|⟨t1,s3,t2,h3⟩<;>rw[t2]<;>rw[cI] at t1
 ·omega
 ·rw[cI] at h3
  exact .inr ⟨hd,s3,rfl,h3⟩
theorem Td {x:Fl}{K:Nat}{y:ByteArray} (hy:aU y):eH Aw K ((1,⟨#[105,109,112,111,114,116]⟩)::(3,lit 34 y)::[sg 59]) 1 x { x with cy:=x.cy++[y] }:=by
 refine df (pq _) (tR _) fun s l d o e h hd ho=>?_
 have hw:Ey ⟨#[105,109,112,111,114,116]⟩=some D6:=rfl
 rw[fL (f:=D6) x h hw]
 unfold D6 dH
 have h0:St s ((1,⟨#[105,109,112,111,114,116]⟩)::(3,lit 34 y)::sg 59::l) false d o e:=h
 rcases ej h0.begun hd with ⟨q1,p,q2⟩|⟨q1,s1,q2,h1⟩<;>rw[q2]<;>rw[wU] at q1
 ·exact .inl ⟨q1,p,rfl⟩
 simp only
 rw[wU] at h1
 rw[if_neg (by rw[jC h1 (show (3:Int)≠1 by decide),jC h1 (show (3:Int)≠1 by decide)];decide)]
 have hf:eL y=0:=by
  unfold eL
  rw[if_neg (by have:=hy.2.2;omega),if_neg]
  intro q
  have h5:y.toList=[]:=by simpa using q
  have h6:=pz (s:=y) (by have:=hy.2.1;omega)
  rw[h5] at h6
  cases h6
 rcases vJ h1 (zk 34 y (.inr rfl) hy) hf q1 with ⟨r1,p,r2⟩|⟨r1,s2,r2,h2⟩<;>rw[r2]<;>rw[cI] at r1
 ·omega
 simp only
 rw[cI] at h2
 rcases eS h2 q1 with ⟨t1,p,t2⟩|⟨t1,s3,t2,h3⟩<;>rw[t2]<;>rw[cI] at t1
 ·omega
 ·rw[cI] at h3
  exact .inr ⟨q1,s3,rfl,h3⟩
theorem Tc {f K:Nat}{x:Fl}{c:Nat}{m:Ms}{ws:List Wd} (h:TQ f m ws c) (hf:f≤32) (hK:f≤K):eH Aw K ws c x { x with ms:=x.ms++[m] }:=by
 obtain ⟨⟨r,rfl⟩,h2⟩:=h
 refine df (pq _) (tR _) fun s l d o e h hd ho=>?_
 have hw:Ey xC=some Tf:=rfl
 rw[fL (f:=Tf) x h hw]
 unfold Tf
 rcases h2 16384 s l d o e (by omega) h hd (by omega) with ⟨q1,p,q2⟩|⟨q1,s1,q2,h1⟩<;>rw[q2]
 ·exact .inl ⟨q1,p,rfl⟩
 ·exact .inr ⟨q1,s1,rfl,h1⟩
theorem Pj {K c:Nat}{x:Fl}{z:En}{ws:List Wd} (h:Vd z ws c):eH Aw K ws c x { x with es:=x.es++[z] }:=by
 obtain ⟨⟨r,rfl⟩,h2⟩:=h
 refine df (pq _) (tR _) fun s l d o e h hd ho=>?_
 have hw:Ey ⟨#[101,110,117,109]⟩=some Tm:=rfl
 rw[fL (f:=Tm) x h hw]
 unfold Tm
 rcases h2 s l d o e h hd (by omega) with ⟨q1,p,q2⟩|⟨q1,s1,q2,h1⟩<;>rw[q2]
 ·exact .inl ⟨q1,p,rfl⟩
 ·exact .inr ⟨q1,s1,rfl,h1⟩
noncomputable def om:List Wd:=[(1,⟨#[115,121,110,116,97,120]⟩),sg 61,(3,lit 39 ⟨#[112,114,111,116,111,51]⟩),sg 59]
theorem RC:fk ⟨#[112,114,111,116,111,51]⟩=0:=by decide +kernel
theorem Mb {K c:Nat}{g:Fl}{ws:List Wd}{s:aI}{d o:Nat}{e:Tk} (hE:eH Aw K ws c ⟨⟨#[]⟩,[],[],[]⟩ g) (h:St s (om++ws) false d o e) (hd:d≤4096) (ho:o+K≤32):qf (iP s) g [] false (d+c) o e:=by
 unfold iP
 have h0:St s ((1,⟨#[115,121,110,116,97,120]⟩)::sg 61::(3,lit 39 ⟨#[112,114,111,116,111,51]⟩)::sg 59::(ws++[])) false d o e:=by rw[List.append_nil];exact h
 rcases iA h0 hd with ⟨q1,p,q2⟩|⟨q1,s1,q2,h1⟩<;>rw[q2]<;>rw[cI] at q1
 ·omega
 simp only
 rw[cI] at h1
 rcases eS h1 hd with ⟨q1,p,q2⟩|⟨q1,s2,q2,h2⟩<;>rw[q2]<;>rw[cI] at q1
 ·omega
 simp only
 rw[cI] at h2
 rcases vJ h2 (zk 39 _ (.inl rfl) Bl) RC hd with ⟨q1,p,q2⟩|⟨q1,s3,q2,h3⟩<;>rw[q2]<;>rw[cI] at q1
 ·omega
 simp only
 rw[cI] at h3
 rcases eS h3 hd with ⟨q1,p,q2⟩|⟨q1,s4,q2,h4⟩<;>rw[q2]<;>rw[cI] at q1
 ·omega
 simp only
 rw[cI] at h4
 unfold gY
 rcases hE s4 [] d o e (s4.ts.length+1) h4 hd ho (by omega) with ⟨r1,p,r2⟩|⟨r1,s5,n5,r2,h5,h6⟩
 ·exact .inl ⟨r1,p,r2⟩
 ·refine .inr ⟨r1,s5,?_,h5⟩
  obtain ⟨n5,rfl⟩:∃m,n5=m+1:=⟨n5-1,by omega⟩
  refine r2.trans ?_
  show kb (cj Ey QO) (n5+1) g s5=_
  rw[kb,if_pos h5.M1]
end Go.Proofs.YtmlphohdcejniaaGreatDoor
namespace Go.Proofs.YtmlphohdcejniaaGreatDoor
open Go.RowKit
attribute [local go_sem ↓] Go.wp_at_zero Go.wp_at_succ
theorem WA.pg {V:World}{b:Nat}{r0:Option Nat}{vs:Value}{ps:List (Wd×List Nat)}{D:Nat}{W:World}{t:List Wd}{n c:Nat}{w:World} (h:WA V b r0 vs ps D W t n c w) {vr vg:Value}{rs:List (Int×Int)}{gs:List ByteArray} (hr:km V vr rs.length (kz rs)) (hg:km V vg gs.length (bS gs)) (Za:∀p ∈ rs,(-2147483648≤p.1∧p.1≤2147483647)∧-2147483648≤p.2∧p.2≤2147483647) (Zo:∀x ∈ gs,aU x) (hn:ps.length+n+(20*rs.length+10*gs.length)≤1099511627000) (hD:D+c≤1099511627776) :
  Calls Tryz.prog 42 #[.pointer (some ⟨b,0,none⟩),vr,vg] w fun e w'=>e=.returned (.tuple #[])∧∃t2,CZ rs gs t2 (rs.length+gs.length)∧WA V b r0 vs ps D W (t++t2) (n+(20*rs.length+10*gs.length+20)) (c+(rs.length+gs.length)) w':=by
 obtain ⟨⟨r,q,g1,g2,h3,h4⟩,h5⟩:=h
 refine (xw h5 h3 hr hg Za Zo (by rw[zK];omega) hD).mono ?_
 rintro e w' ⟨rfl,r2,p2,c2,⟨e1,rfl⟩,e2,e3,e4⟩
 exact ⟨rfl,_,e1,kq g1 g2 h3 h4 h5 rfl e2 e3 e4⟩
structure C' (x:En):Prop where
 nm:aU x.name
 ne:x.bJ≠[]
 bJ:∀p ∈ x.bJ,rG p.1∧-2147483648≤p.2∧p.2≤2147483647
 res:∀p ∈ x.res,-2147483648≤p.1∧p.1≤p.2∧p.2≤2147483647
 gone:∀y ∈ x.gone,aU y
theorem Pw:aU ⟨#[101,110,117,109]⟩:=by
 refine ⟨?_,by decide,by decide⟩
 kernel_rfl
theorem Ga:∀(rs:List (Int×Int)) (x:En),rs.foldl (fun (x:En) p=>{ x with res:=x.res++[p] }) x={ x with res:=x.res++rs }
 |[],x=>by simp
 |p::r,x=>by
  rw[List.foldl_cons,Ga r]
  simp
theorem Px {x:En} (hx:C' x) {t:List Wd}{c:Nat} (h:CZ x.res x.gone t c):eH PD 0 t c ⟨x.name,[],[],[]⟩ ⟨x.name,[],x.res,x.gone⟩:=by
 have:=h En PD 0 (fun x p=>{ x with res:=x.res++[p] }) (fun x gs=>{ x with gone:=x.gone++gs }) (fun y p hp=>Ty (hx.res p hp)) (fun y eo=>Py eo hx.gone) (fun y=>F' y 0) ⟨x.name,[],[],[]⟩
 rw[Ga] at this
 by_cases hg:x.gone=[]
 ·rw[if_pos hg] at this
  rw[hg]
  exact this
 ·rw[if_neg hg] at this
  exact this
theorem Az {l:List (ByteArray×Int)}{i:Nat}{p:ByteArray×Int} (h:l[i]?=some p):(wH l)[i*2]?=some (.string p.1)∧(wH l)[i*2+1]?=some (.int .i64 p.2):=EB l i p h
theorem Gx {V W:World}{b:Nat}{r:Option Nat}{vs:Value}{ps:List (Wd×List Nat)}{D:Nat} (hV:WE V W b) (h:l7 b r vs ps D W) {x:En} (hx:C' x) {vv vr vg:Value} (hv:km V vv x.bJ.length (wH x.bJ)) (hr:km V vr x.res.length (kz x.res)) (hg:km V vg x.gone.length (bS x.gone)) (hn:ps.length+(20*x.res.length+10*x.gone.length+20*x.bJ.length)≤1099511626000) (hD:D+(x.res.length+x.gone.length+x.bJ.length)≤1099511620000) :
  Calls Tryz.prog 24 #[.pointer (some ⟨b,0,none⟩),.agg #[.string x.name,vv,vr,vg]] W (Wr b r vs ps D W (20*x.res.length+10*x.gone.length+20*x.bJ.length+60) fun t c=>Vd x t c∧c=1+(x.res.length+x.gone.length+x.bJ.length)):=by
 obtain ⟨nm,bJ,res,gone⟩:=x
 simp only at hv hr hg hn hD ⊢
 have ba:Below W.heap.size W (W.alloc (.cells #[.string nm,vv,vr,vg] 68)):=(zE _ _).alloc (zD _) _
 have bo:(W.alloc (.cells #[.string nm,vv,vr,vg] 68)).heap[W.heap.size]?=some (.cells #[.string nm,vv,vr,vg] 68 (0,0)):=aC _ _
 obtain ⟨W1,Dh⟩:∃W1,W.alloc (.cells #[.string nm,vv,vr,vg] 68)=W1:=⟨_,rfl⟩
 rw[Dh] at ba bo
 have Nl:=aj (WA.start (h.up ba) (hV.up ba))
 have HKw:Hid (KW b r W W1 r):=.dM ba
 have HBx:Hid (∀w r',KW b r W1 w r'→w.heap[W.heap.size]?=some (.cells #[.string nm,vv,vr,vg] 68 (0,0))):=fun w r' hk=>(hk.block _ (zA bo).1 (by have:=h.lt;omega) (fun e=>by have:=(h.row _ e).2;omega)).trans bo
 have Gs:Hid (∀w t n c,WA V b r vs ps D W1 t n c w→w.cell? ⟨W.heap.size,0,none⟩=some (.string nm)∧w.cell? ⟨W.heap.size,1,none⟩=some vv∧w.cell? ⟨W.heap.size,2,none⟩=some vr∧w.cell? ⟨W.heap.size,3,none⟩=some vg):=fun w t n c ha=>by
  obtain ⟨⟨r9,q9,_,_,_,k4⟩,_⟩:=ha
  have:=aa HBx w r9 k4
  exact ⟨cell_of_row _ _ _ _ _ _ this,cell_of_row _ _ _ _ _ _ this,cell_of_row _ _ _ _ _ _ this,cell_of_row _ _ _ _ _ _ this⟩
 obtain ⟨va,vc,rfl,hvm,Li⟩:=hv
 have HR:=aj hr
 have HG:=aj hg
 obtain ⟨ra,rc,rfl,hrm,-⟩:=id hr
 obtain ⟨ga,gc,rfl,hgm,-⟩:=id hg
 have X':=aj Li
 have HX:=aj hx
 have Hn:=aj hn
 have HD:=aj hD
 have e0:=Dh
 have NA:nm.size≤30:=hx.nm.2.2
 clear Li hr hg hx hn hD h hV ba bo Dh hrm hgm
 go_enter Tryz.func24,Tryz.ntmps24
 obtain ⟨x0,x1,x2,x3⟩:=aa Gs W1 _ _ _ (aa Nl)
 have HP:=aj ((aa Nl).put (by have:=aa Hn;omega) [(1,⟨#[101,110,117,109]⟩),(1,nm),sg 123] (fun y hy=>by
  rcases List.mem_cons.1 hy with rfl|hy
  ·exact dU Pw
  ·rcases List.mem_cons.1 hy with rfl|hy
   ·exact dU (aa HX).nm
   ·rw[List.mem_singleton.1 hy];exact fD 123 (by decide)) (by simp) #[.string ⟨#[101,110,117,109]⟩,.string nm,.string ⟨#[123]⟩] rfl 3 rfl)
 go_wp2_with fail
 refine (aa HP).mono ?_
 rintro e w1 ⟨rfl,ha⟩
 have xp:=aj ha
 obtain ⟨x0,x1,x2,x3⟩:=aa Gs w1 _ _ _ ha
 obtain ⟨c3,z3⟩:=ha.cells
 clear HP ha
 have iW:=(aa xp).decl
 obtain ⟨Di,xI⟩:∃Di,((D+0:Nat):Int)=Di:=⟨_,rfl⟩
 have d0:(0:Int)≤Di:=by rw[←xI];exact zH _
 have dB:Di≤1099511620000:=by have:=aa HD;omega
 rw[xI] at c3 iW
 obtain ⟨w1b,OO⟩:∃x,w1.setCell ⟨b,3,none⟩ (.int .i64 (Di+1))=x:=⟨_,rfl⟩
 rw[OO] at iW
 have lE:=aj iW
 have y:=aa Gs w1b _ _ _ iW
 clear xI iW
 have HP:=aj ((aa lE).pg (aa HR) (aa HG) (fun p hp=>by have:=(aa HX).res p hp;exact ⟨⟨by omega,by omega⟩,by omega,by omega⟩) (aa HX).gone (by have:=aa Hn;omega) (by have:=aa HD;omega))
 go_upto_region 3 with fail
 clear x0 x1 x2 x3 OO c3 z3
 obtain ⟨x0,x1,x2,x3⟩:=y
 go_wp2_with fail
 refine (aa HP).mono ?_
 rintro e w2 ⟨rfl,t2,vX,ha⟩
 have nz:=aj ha
 have HE:=aj (Px (aa HX) vX)
 clear HP ha vX x0 x1 x2 x3
 obtain ⟨x0,x1,x2,x3⟩:=aa Gs w2 _ _ _ (aa nz)
 go_wp2
 clear x0 x1 x2 x3
 go_loopg [4] bJ.length (fun gk v4 wr=>∃(j:Nat) (u:List Wd),v4=.int .i64 (j:Int)∧gk=bJ.length-j∧j≤bJ.length∧Hid (WA V b r vs ps D W1 ([]++[(1,⟨#[101,110,117,109]⟩),(1,nm),sg 123]++u) (0+3+(20*res.length+10*gone.length+20)+20*j) (0+1+(res.length+gone.length)+j) wr)∧Hid (eH PD 0 u ((res.length+gone.length)+j) ⟨nm,[],[],[]⟩ ⟨nm,bJ.take j,res,gone⟩))
 case atStart=>exact ⟨0,t2,rfl,rfl,by omega,aa nz,aa HE⟩
 case round =>
  obtain ⟨j,u,rfl,eN,WL,C9,Q'⟩:=hrel
  have fQ:=aj eN
  clear eN nz HE
  obtain ⟨x0,x1,x2,x3⟩:=aa Gs wr _ _ _ (aa C9)
  by_cases cc:j<bJ.length
  ·obtain ⟨p,hp⟩:∃p,bJ[j]?=some p:=⟨_,List.getElem?_eq_getElem cc⟩
   obtain ⟨g,rfl,lp,hc⟩:=aa X' (by omega)
   have zc:Hid (∀w',Below V.heap.size V w'→w'.cell? ⟨g,j*2,none⟩=some (.string p.1)∧w'.cell? ⟨g,j*2+1,none⟩=some (.int .i64 p.2)):=fun w' hb =>
    ⟨(hb.cell (p:=⟨g,j*2,none⟩) lp).trans (hc _ _ (Az hp).1),(hb.cell (p:=⟨g,j*2+1,none⟩) lp).trans (hc _ _ (Az hp).2)⟩
   have TZ:=aj ((aa HX).bJ p (List.mem_of_getElem? hp))
   have A5:=aj (dW hp)
   have dA:=aj cc
   have j0:(0:Int)≤(j:Int):=zH _
   have j1:(j:Int)<(bJ.length:Int):=by omega
   clear hp hc cc
   obtain ⟨p1,p2⟩:=p
   simp only at zc TZ
   have kj:p1.size≤30:=(aa TZ).1.1.2.2
   obtain ⟨y0,y1⟩:=aa zc wr (aa C9).we.below
   have HP:=aj ((aa C9).put (by have:=aa Hn;have:=aa dA;omega) [(1,p1),sg 61] (fun y hy=>by
    rcases List.mem_cons.1 hy with rfl|hy
    ·exact dU (aa TZ).1.1
    ·rw[List.mem_singleton.1 hy];exact fD 61 (by decide)) (by simp) #[.string p1,.string ⟨#[61]⟩] rfl 2 rfl)
   go_wp2_with fail
   refine (aa HP).mono ?_
   rintro e w3 ⟨rfl,ha⟩
   have rK:=aj ha
   clear HP ha x0 x1 x2 x3 y0 y1
   obtain ⟨x0,x1,x2,x3⟩:=aa Gs w3 _ _ _ (aa rK)
   obtain ⟨y0,y1⟩:=aa zc w3 (aa rK).we.below
   have HP:=aj ((aa rK).number (by have:=aa Hn;have:=aa dA;omega) (aa TZ).2.1 (aa TZ).2.2)
   go_wp2_with fail
   refine (aa HP).mono ?_
   rintro e w4 ⟨rfl,ha⟩
   have Jj:=aj ha
   clear HP ha x0 x1 x2 x3 y0 y1
   have HP:=aj ((aa Jj).xy (by have:=aa Hn;have:=aa dA;omega))
   go_wp2_with fail
   refine (aa HP).mono ?_
   rintro e w5 ⟨rfl,s,hs,ha⟩
   have HA7:=aj ha
   have HS:=aj hs
   clear HP ha hs
   obtain ⟨c3,z3⟩:=(aa HA7).cells
   have iW:=(aa HA7).decl
   obtain ⟨Dj,wD⟩:∃Dj,((D+(0+1+(res.length+gone.length)+j):Nat):Int)=Dj:=⟨_,rfl⟩
   have d0:(0:Int)≤Dj:=by rw[←wD];exact zH _
   have dB:Dj≤1099511630000:=by have:=aa HD;have:=aa dA;omega
   rw[wD] at c3 iW
   have HA8:=aj iW
   have HE8:Hid (eH PD 0 (u++(lP p1 p2++s.drop 1)) ((res.length+gone.length)+(j+1)) ⟨nm,[],[],[]⟩ ⟨nm,bJ.take (j+1),res,gone⟩):=by
    have e1:=(aa Q').trans (Tw (x:=⟨nm,bJ.take j,res,gone⟩) (K:=0) (aa TZ).1 (aa TZ).2)
    rw[aa A5]
    rcases aa HS with rfl|rfl
    ·exact e1.cast (by simp[List.drop]) (by omega)
    ·exact (e1.trans (F' _ 0)).cast (by simp[List.drop]) (by omega)
   have De:bJ.length≤1099511626000:=by have:=aa Hn;omega
   clear wD iW
   go_wp2
   go_roundg (bJ.length-(j+1))
   case measure=>have:=aa fQ;have:=aa dA;omega
   case rel=>exact ⟨j+1,u++(lP p1 p2++s.drop 1),by go_num,rfl,aa dA,(aa HA8).cast (by rcases aa HS with rfl|rfl<;>simp[lP,List.drop]) (by omega),aa HE8⟩
  ·obtain rfl:j=bJ.length:=by omega
   have HP:=aj ((aa C9).put (by have:=aa Hn;omega) [sg 125] (fun y hy=>by rw[List.mem_singleton.1 hy];exact fD 125 (by decide)) (by decide) #[.string ⟨#[125]⟩] rfl 1 rfl)
   go_wp2_with fail
   refine (aa HP).mono ?_
   rintro e w5 ⟨rfl,ha⟩
   have gK:Hid (Wr b r vs ps D W (20*res.length+10*gone.length+20*bJ.length+60) (fun t c=>Vd ⟨nm,bJ,res,gone⟩ t c∧c=1+(res.length+gone.length+bJ.length)) (.returned (.tuple #[])) w5):=by
    obtain ⟨r9,q9,k1,k2,k3,k4⟩:=ha.ex
    have hE:=aa Q'
    rw[List.take_length] at hE
    have hT:=Pz hE (aa HX).nm (aa HX).ne
    refine ⟨rfl,r9,q9,0+1+(res.length+gone.length)+bJ.length,⟨?_,by omega⟩,by omega,k3,(aa HKw).trans k4⟩
    rw[k1]
    have e2:1+(res.length+gone.length+bJ.length)=0+1+(res.length+gone.length)+bJ.length:=by omega
    rw[e2] at hT
    have e3:[]++[(1,⟨#[101,110,117,109]⟩),(1,nm),sg 123]++u++[sg 125]=(1,⟨#[101,110,117,109]⟩)::(1,nm)::sg 123::(u++[sg 125]):=by simp
    rw[e3]
    exact hT
   clear HP ha x0 x1 x2 x3
   go_wp2
   go_end0
   exact aa gK
end Go.Proofs.YtmlphohdcejniaaGreatDoor

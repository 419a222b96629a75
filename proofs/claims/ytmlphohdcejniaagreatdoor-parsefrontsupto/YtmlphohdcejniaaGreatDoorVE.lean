import Derived.Test.YtmlphohdcejniaaGreatDoorVD
namespace Go.Proofs.YtmlphohdcejniaaGreatDoor
open Go.RowKit
structure Cu (f:Fd) (ps:List ByteArray):Prop where
 ty:f.ty=iu ps
 tp:ik ps
 nm:aR f.name
 num:0≤f.num∧f.num≤2147483647
noncomputable abbrev kH (mf:aD→Except (Int×Int) (Ms×aD)):=eR (bT (Bw mf) Qw)
noncomputable abbrev WT:=eR (bT zh Ds)
theorem j9:(ByteArray.toList ⟨#[46]⟩==ByteArray.toList ⟨#[59]⟩)=false:=by decide +kernel
theorem pc:GS (sg 46)=false:=by decide +kernel
theorem NK (mf:aD→Except (Int×Int) (Ms×aD)):Bw mf ⟨#[46]⟩=none:=by rfl
theorem IG:zh ⟨#[46]⟩=none:=by rfl
theorem NI {mf:aD→Except (Int×Int) (Ms×aD)}{K:Nat}{x:Mp}{f:Fd}{ps:List ByteArray} (hf:Cu f ps) (hc:f.dQ=1∧f.key=⟨#[]⟩∧f.oneof=0):eU (kH mf) K (bG ps++iY f.name f.num) 1 x { x with fs:=x.fs++[f] }:=by
 obtain ⟨r,hr⟩:=ox hf.tp
 have hE:eU (kH mf) K (sg 46::(r++iY f.name f.num)) 1 x { x with fs:=x.fs++[f] }:=by
  refine dA (eZ _) pc (fun u s d o e hu h hd _=>?_) fun s l d o e h hd _=>?_
  ·rw[lV x h (.inr j9) (NK mf)]
   unfold Qw
   have oJ:mw (sg 46::u) (bG ps++iY f.name f.num):=by
    obtain ⟨z,t,ht⟩:=hu
    exact ⟨z,t,by rw[hr];show sg 46::(r++iY f.name f.num)=_;rw[ht];rfl⟩
   rcases Ad (k:=0) oJ h hf.tp hf.nm hf.num hd with ⟨q1,p,q2⟩|q2<;>rw[q2]
   ·exact .inl ⟨q1,p,rfl⟩
   ·exact .inr rfl
  rw[lV x h (.inr j9) (NK mf)]
  unfold Qw
  have h2:St s (bG ps++(iY f.name f.num++l)) false d o e:=by
   have:bG ps++(iY f.name f.num++l)=sg 46::(r++iY f.name f.num)++l:=by rw[hr];simp
   rw[this];exact h
  rcases Ab (k:=0) h2 hf.tp hf.nm hf.num hd with ⟨q1,p,q2⟩|⟨q1,s1,q2,h3⟩<;>rw[q2]
  ·exact .inl ⟨q1,p,rfl⟩
  ·obtain ⟨c1,c2,c3⟩:=hc
   have e1:(⟨1,⟨#[]⟩,iu ps,f.name,f.num,0⟩:Fd)=f:=by
    cases f;simp only at c1 c2 c3 hf;rw[c1,c2,c3,←hf.ty]
   rw[e1]
   exact .inr ⟨q1,s1,rfl,h3⟩
 exact hE.cast (by rw[hr];rfl) rfl
theorem Kk {K:Nat}{x:Mp}{f:Fd}{ps:List ByteArray} (hf:Cu f ps) (hc:f.dQ=1∧f.key=⟨#[]⟩∧f.oneof=(x.os.length:Int)):eU WT K (bG ps++iY f.name f.num) 1 x { x with fs:=x.fs++[f] }:=by
 obtain ⟨r,hr⟩:=ox hf.tp
 have hE:eU WT K (sg 46::(r++iY f.name f.num)) 1 x { x with fs:=x.fs++[f] }:=by
  refine dA (eZ _) pc (fun u s d o e hu h hd _=>?_) fun s l d o e h hd _=>?_
  ·rw[lV x h (.inr j9) (IG)]
   unfold Ds
   have oJ:mw (sg 46::u) (bG ps++iY f.name f.num):=by
    obtain ⟨z,t,ht⟩:=hu
    exact ⟨z,t,by rw[hr];show sg 46::(r++iY f.name f.num)=_;rw[ht];rfl⟩
   rcases Ad (k:=(x.os.length:Int)) oJ h hf.tp hf.nm hf.num hd with ⟨q1,p,q2⟩|q2<;>rw[q2]
   ·exact .inl ⟨q1,p,rfl⟩
   ·exact .inr rfl
  rw[lV x h (.inr j9) IG]
  unfold Ds
  have h2:St s (bG ps++(iY f.name f.num++l)) false d o e:=by
   have:bG ps++(iY f.name f.num++l)=sg 46::(r++iY f.name f.num)++l:=by rw[hr];simp
   rw[this];exact h
  rcases Ab (k:=(x.os.length:Int)) h2 hf.tp hf.nm hf.num hd with ⟨q1,p,q2⟩|⟨q1,s1,q2,h3⟩<;>rw[q2]
  ·exact .inl ⟨q1,p,rfl⟩
  ·obtain ⟨c1,c2,c3⟩:=hc
   have e1:(⟨1,⟨#[]⟩,iu ps,f.name,f.num,(x.os.length:Int)⟩:Fd)=f:=by
    rw[←c3,←hf.ty]
    cases f;simp only at c1 c2;rw[c1,c2]
   rw[e1]
   exact .inr ⟨q1,s1,rfl,h3⟩
 exact hE.cast (by rw[hr];rfl) rfl
theorem ji (x:ByteArray):GS (1,x)=false:=by rfl
def Jz:ByteArray:=⟨#[111,112,116,105,111,110,97,108]⟩
def Js:ByteArray:=⟨#[114,101,112,101,97,116,101,100]⟩
theorem D5 {mf:aD→Except (Int×Int) (Ms×aD)}{K:Nat}{x:Mp}{f:Fd}{y:ByteArray}{c:Int}{ps:List ByteArray} (hy:(y=Jz∧c=2)∨(y=Js∧c=3)) (hf:Cu f ps) (hc:f.dQ=c∧f.key=⟨#[]⟩∧f.oneof=0):eU (kH mf) K ((1,y)::(bG ps++iY f.name f.num)) 1 x { x with fs:=x.fs++[f] }:=by
 have hw:Bw mf y=some (TZ c):=by
  rcases hy with ⟨rfl,rfl⟩|⟨rfl,rfl⟩<;>rfl
 refine dA (eZ _) (ji y) (fun u s d o e hu h hd _=>?_) fun s l d o e h hd _=>?_
 ·rw[cC (f:=TZ c) x h hw]
  unfold TZ
  rcases BF (c:=c) hu h hf.tp hf.nm hf.num hd with ⟨q1,p,q2⟩|q2<;>rw[q2]
  ·exact .inl ⟨q1,p,rfl⟩
  ·exact .inr rfl
 rw[cC (f:=TZ c) x h hw]
 unfold TZ
 have h2:St s ((1,y)::(bG ps++(iY f.name f.num++l))) false d o e:=by
  have:(1,y)::(bG ps++(iY f.name f.num++l))=(1,y)::(bG ps++iY f.name f.num)++l:=by simp
  rw[this];exact h
 rcases BE (c:=c) h2 hf.tp hf.nm hf.num hd with ⟨q1,p,q2⟩|⟨q1,s1,q2,h3⟩<;>rw[q2]
 ·exact .inl ⟨q1,p,rfl⟩
 ·obtain ⟨c1,c2,c3⟩:=hc
  have e1:(⟨c,⟨#[]⟩,iu ps,f.name,f.num,0⟩:Fd)=f:=by
   rw[←hf.ty]
   cases f;simp only at c1 c2 c3;rw[c1,c2,c3]
  rw[e1]
  exact .inr ⟨q1,s1,rfl,h3⟩
theorem Va {mf:aD→Except (Int×Int) (Ms×aD)}{K:Nat}{x:Mp}{f:Fd}{ks ps:List ByteArray} (hf:Cu f ps) (hk:ik ks) (hc:f.dQ=4∧f.key=iu ks∧f.oneof=0):eU (kH mf) K (JL ks ps f.name f.num) 1 x { x with fs:=x.fs++[f] }:=by
 have hw:Bw mf ⟨#[109,97,112]⟩=some Aj:=rfl
 refine dA (eZ _) (ji _) (fun u s d o e hu h hd _=>?_) fun s l d o e h hd _=>?_
 ·rw[cC (f:=Aj) x h hw]
  unfold Aj
  rcases QB hu h hk hf.tp hf.nm hf.num hd with ⟨q1,p,q2⟩|q2<;>rw[q2]
  ·exact .inl ⟨q1,p,rfl⟩
  ·exact .inr rfl
 rw[cC (f:=Aj) x h hw]
 unfold Aj
 have h2:St s (JL ks ps f.name f.num++l) false d o e:=h
 rcases QA h2 hk hf.tp hf.nm hf.num hd with ⟨q1,p,q2⟩|⟨q1,s1,q2,h3⟩<;>rw[q2]
 ·exact .inl ⟨q1,p,rfl⟩
 ·obtain ⟨c1,c2,c3⟩:=hc
  have e1:(⟨4,iu ks,iu ps,f.name,f.num,0⟩:Fd)=f:=by
   rw[←hf.ty,←c2]
   cases f;simp only at c1 c3;rw[c1,c3]
  rw[e1]
  exact .inr ⟨q1,s1,rfl,h3⟩
theorem Ek (x:Mp) (K:Nat):eU WT K [sg 59] 0 x x:=dA (eZ _) (by decide +kernel) (fun _ _ _ _ _ hu=>hu.nil.elim) fun s l d o e h hd _=>vw x h hd
theorem Ip (mf:aD→Except (Int×Int) (Ms×aD)) (x:Mp) (K:Nat):eU (kH mf) K [sg 59] 0 x x:=dA (eZ _) (by decide +kernel) (fun _ _ _ _ _ hu=>hu.nil.elim) fun s l d o e h hd _=>vw x h hd
def tf:ByteArray:=⟨#[111,110,101,111,102]⟩
theorem Ac {k:Int}{s:aD}{b:Bool}{d o:Nat}{e:Tk} (h:St s [] b d o e):eN k s=.error (51,e.spot):=by
 unfold eN fH
 rw[pM h.begun]
theorem RM {x:Mp}{s:aD}{b:Bool}{d o:Nat}{e:Tk} (h:St s [] b d o e):bT zh Ds x s=.error (51,e.spot):=by
 rw[wP h]
 unfold Ds
 rw[Ac h]
 rfl
theorem Vb {mf:aD→Except (Int×Int) (Ms×aD)}{x:Mp}{s:aD}{b:Bool}{d o:Nat}{e:Tk} (h:St s [] b d o e):bT (Bw mf) Qw x s=.error (51,e.spot):=by
 rw[wP h]
 unfold Qw
 rw[Ac h]
 rfl
theorem NJ {mf:aD→Except (Int×Int) (Ms×aD)}{K c:Nat}{x y:Mp}{nm:ByteArray}{ws:List Wd} (hn:aR nm) (hE:eU WT K ws c { x with os:=x.os++[nm] } y) (hy:x.fs.length<y.fs.length):eU (kH mf) K ((1,tf)::(1,nm)::sg 123::(ws++[sg 125])) (1+c) x y:=by
 have hw:Bw mf tf=some iC:=rfl
 refine dA (eZ _) (ji _) (fun u s d o e hu h hd ho=>?_) fun s l d o e h hd ho=>?_
 ·rw[cC (f:=iC) x h hw]
  unfold iC
  rcases cN h.begun hd with ⟨q1,p,q2⟩|⟨q1,s1,q2,h1⟩<;>rw[q2]<;>rw[lJ] at q1
  ·exact .inl ⟨by omega,p,rfl⟩
  simp only
  rw[lJ] at h1
  rcases hu.cons with rfl|⟨u1,rfl,jR⟩
  ·rw[jj h1]
   exact .inr rfl
  rcases eG h1 hn q1 with ⟨r1,p,r2⟩|⟨r1,s2,r2,h2⟩<;>rw[r2]<;>rw[bz] at r1
  ·omega
  simp only
  rw[bz] at h2
  unfold iX
  rcases yu hE (fun y s b d h=>RM h) jR h2 q1 ho with ⟨t1,p,t2⟩|t2<;>rw[t2]
  ·exact .inl ⟨by omega,p,rfl⟩
  ·exact .inr rfl
 rw[cC (f:=iC) x h hw]
 unfold iC
 have h0:St s ((1,tf)::(1,nm)::sg 123::(ws++sg 125::l)) false d o e:=by
  have:(1,tf)::(1,nm)::sg 123::(ws++sg 125::l)=(1,tf)::((1,nm)::sg 123::(ws++[sg 125]))++l:=by simp
  rw[this];exact h
 rcases cN h0.begun hd with ⟨q1,p,q2⟩|⟨q1,s1,q2,h1⟩<;>rw[q2]<;>rw[lJ] at q1
 ·exact .inl ⟨by omega,p,rfl⟩
 simp only
 rw[lJ] at h1
 rcases eG h1 hn q1 with ⟨r1,p,r2⟩|⟨r1,s2,r2,h2⟩<;>rw[r2]<;>rw[bz] at r1
 ·omega
 simp only
 rw[bz] at h2
 unfold iX
 rcases yt hE h2 q1 ho with ⟨t1,p,t2⟩|⟨t1,s3,t2,h3⟩<;>rw[t2]
 ·exact .inl ⟨by omega,p,rfl⟩
 simp only
 unfold mI
 rw[if_neg (by omega)]
 rcases cN h3 t1 with ⟨u1,p,u2⟩|⟨u1,s4,u2,h4⟩<;>rw[u2]<;>rw[bz] at u1
 ·omega
 ·rw[bz] at h4
  exact .inr ⟨by omega,s4,rfl,by rw[show d+(1+c)=d+1+c by omega];exact h4⟩
theorem U9 {mf:aD→Except (Int×Int) (Ms×aD)}{x:Mp}{K:Nat}{a c:Int} (ha:1≤a∧a≤c∧c≤536870911):eU (kH mf) K (Da a c) 1 x { x with rs:=x.rs++[(a,c)] } :=
 dA (eZ _) (by decide +kernel) (fun u s d o e hu h hd _=>by
  have hw:Bw mf lE.2=some Fy:=rfl
  rw[cC (f:=Fy) x h hw]
  unfold Fy
  rcases sH (rs:=x.rs) (gs:=x.gs) (mi:=false) (lo:=1) (hi:=536870911) hu h ha (by omega) (.inr (by omega)) hd with ⟨q1,p,q2⟩|q2<;>rw[q2]
  ·exact .inl ⟨q1,p,rfl⟩
  ·exact .inr rfl) fun s l d o e h hd _=>by
  have hw:Bw mf lE.2=some Fy:=rfl
  rw[cC (f:=Fy) x h hw]
  unfold Fy
  rcases G3 (rs:=x.rs) (gs:=x.gs) (mi:=false) h ha (by omega) (.inr (by omega)) hd with ⟨q1,p,q2⟩|⟨q1,s1,q2,h1⟩<;>rw[q2]
  ·exact .inl ⟨q1,p,rfl⟩
  ·exact .inr ⟨q1,s1,rfl,h1⟩
theorem Ra {mf:aD→Except (Int×Int) (Ms×aD)}{x:Mp}{K:Nat}{gs:List ByteArray} (eo:gs≠[]) (hx:∀y ∈ gs,aR y):eU (kH mf) K (sO gs) gs.length x { x with gs:=x.gs++gs }:=by
 cases gs with
 |nil=>exact absurd rfl eo
 |cons y r =>
  have hw:Bw mf lE.2=some Fy:=rfl
  refine dA (eZ _) (by decide +kernel) (fun u s d o e hu h hd _=>?_) fun s l d o e h hd _=>?_
  ·rw[cC (f:=Fy) x h hw]
   unfold Fy
   rcases ql (rs:=x.rs) (gs:=x.gs) (lo:=1) (hi:=536870911) (mi:=false) hu h hx hd with ⟨q1,p,q2⟩|q2<;>rw[q2]
   ·exact .inl ⟨q1,p,rfl⟩
   ·exact .inr rfl
  rw[cC (f:=Fy) x h hw]
  unfold Fy
  rcases Dc (rs:=x.rs) (gs:=x.gs) (lo:=1) (hi:=536870911) (mi:=false) h hx hd with ⟨q1,p,q2⟩|⟨q1,s1,q2,h1⟩<;>rw[q2]
  ·exact .inl ⟨q1,p,rfl⟩
  ·exact .inr ⟨q1,s1,rfl,h1⟩
theorem Rc {mf:aD→Except (Int×Int) (Ms×aD)}{x:Mp}{K c:Nat}{z:En}{ws:List Wd} (h:Xk z ws c):eU (kH mf) K ws c x { x with es:=x.es++[z] }:=by
 obtain ⟨⟨r,rfl⟩,h2,h3⟩:=h
 have hw:Bw mf ⟨#[101,110,117,109]⟩=some T0:=rfl
 refine dA (eZ _) (ji _) (fun u s d o e hu h hd ho=>?_) fun s l d o e h hd ho=>?_
 ·rw[cC (f:=T0) x h hw]
  unfold T0
  have oJ:mw ((1,⟨#[101,110,117,109]⟩)::u) ((1,⟨#[101,110,117,109]⟩)::r):=by
   obtain ⟨z,t,ht⟩:=hu
   exact ⟨z,t,by rw[ht];rfl⟩
  rcases h3 u s d o e oJ h hd (by omega) with ⟨q1,p,q2⟩|q2<;>rw[q2]
  ·exact .inl ⟨q1,p,rfl⟩
  ·exact .inr rfl
 rw[cC (f:=T0) x h hw]
 unfold T0
 rcases h2 s l d o e h hd (by omega) with ⟨q1,p,q2⟩|⟨q1,s1,q2,h1⟩<;>rw[q2]
 ·exact .inl ⟨q1,p,rfl⟩
 ·exact .inr ⟨q1,s1,rfl,h1⟩
def oF:ByteArray:=⟨#[109,101,115,115,97,103,101]⟩
def VR (f:Nat) (m:Ms) (ws:List Wd) (c:Nat):Prop:=(∃r,ws=(1,oF)::r)∧(∀n s l d o e,f≤n→St s (ws++l) false d o e→d≤4096→o+f≤32→rp (bw n s) m l false (d+c) o e)∧∀n u s d o e,f≤n→mw ((1,oF)::u) ws→St s ((1,oF)::u) false d o e→d≤4096→o+f≤32→mX (bw n s) (d+c) e
theorem U' {n f K:Nat}{x:Mp}{c:Nat}{m:Ms}{ws:List Wd} (h:VR f m ws c) (hn:f≤n) (hK:f≤K):eU (kH (bw n)) K ws c x { x with ms:=x.ms++[m] }:=by
 obtain ⟨⟨r,rfl⟩,h2,h3⟩:=h
 have hw:Bw (bw n) oF=some (TY (bw n)):=rfl
 refine dA (eZ _) (ji _) (fun u s d o e hu h hd ho=>?_) fun s l d o e h hd ho=>?_
 ·rw[cC (f:=TY (bw n)) x h hw]
  unfold TY
  have oJ:mw ((1,oF)::u) ((1,oF)::r):=by
   obtain ⟨z,t,ht⟩:=hu
   exact ⟨z,t,by rw[ht];rfl⟩
  rcases h3 n u s d o e hn oJ h hd (by omega) with ⟨q1,p,q2⟩|q2<;>rw[q2]
  ·exact .inl ⟨q1,p,rfl⟩
  ·exact .inr rfl
 rw[cC (f:=TY (bw n)) x h hw]
 unfold TY
 rcases h2 n s l d o e hn h hd (by omega) with ⟨q1,p,q2⟩|⟨q1,s1,q2,h1⟩<;>rw[q2]
 ·exact .inl ⟨q1,p,rfl⟩
 ·exact .inr ⟨q1,s1,rfl,h1⟩
theorem Rh {f:Nat}{x:Mp}{ws:List Wd}{c:Nat} (hE:∀n,f≤n→eU (kH (bw n)) f ws c ⟨x.name,[],[],[],[],[],[]⟩ x) (hx:aR x.name):VR (f+1) x.done ((1,oF)::(1,x.name)::sg 123::(ws++[sg 125])) (1+c):=by
 refine ⟨⟨_,rfl⟩,fun n s l d o e hn h hd ho=>?_,fun n u s d o e hn hu h hd ho=>?_⟩
 rotate_left
 ·obtain ⟨n,rfl⟩:∃m,n=m+1:=⟨n-1,by omega⟩
  rw[bw,if_neg (by rw[h.op];omega)]
  rcases cN h.begun hd with ⟨q1,p,q2⟩|⟨q1,s1,q2,h1⟩<;>rw[q2]<;>rw[lJ] at q1
  ·exact .inl ⟨by omega,p,rfl⟩
  simp only
  rw[lJ] at h1
  rcases hu.cons with q|⟨u0,q,Yf⟩
  ·cases q
  obtain rfl:=(List.cons.inj q).2
  rcases Yf.cons with rfl|⟨u1,rfl,jR⟩
  ·rw[jj h1]
   exact .inr rfl
  rcases eG h1 hx q1 with ⟨r1,p,r2⟩|⟨r1,s2,r2,h2⟩<;>rw[r2]<;>rw[bz] at r1
  ·omega
  simp only
  rw[bz] at h2
  unfold lF
  have h2u:St s2.K9 u1 false (d+1) (o+1) e:=⟨h2.ts,h2.bg,h2.dc,by show s2.op+1=o+1;rw[h2.op],h2.en⟩
  rcases yu (hE n (by omega)) (fun y s b d h=>Vb h) jR h2u q1 (by omega) with ⟨t1,p,t2⟩|t2<;>rw[t2]
  ·exact .inl ⟨by omega,p,rfl⟩
  ·exact .inr rfl
 obtain ⟨n,rfl⟩:∃m,n=m+1:=⟨n-1,by omega⟩
 have h0:St s ((1,oF)::(1,x.name)::sg 123::(ws++sg 125::l)) false d o e:=by
  have:(1,oF)::(1,x.name)::sg 123::(ws++sg 125::l)=(1,oF)::(1,x.name)::sg 123::(ws++[sg 125])++l:=by simp
  rw[this];exact h
 rw[bw,if_neg (by rw[h.op];omega)]
 rcases cN h0.begun hd with ⟨q1,p,q2⟩|⟨q1,s1,q2,h1⟩<;>rw[q2]<;>rw[lJ] at q1
 ·exact .inl ⟨by omega,p,rfl⟩
 simp only
 rw[lJ] at h1
 rcases eG h1 hx q1 with ⟨r1,p,r2⟩|⟨r1,s2,r2,h2⟩<;>rw[r2]<;>rw[bz] at r1
 ·omega
 simp only
 rw[bz] at h2
 unfold lF
 have h2u:St s2.K9 (sg 123::(ws++sg 125::l)) false (d+1) (o+1) e:=⟨h2.ts,h2.bg,h2.dc,by show s2.op+1=o+1;rw[h2.op],h2.en⟩
 rcases yt (hE n (by omega)) h2u q1 (by omega) with ⟨t1,p,t2⟩|⟨t1,s3,t2,h3⟩<;>rw[t2]
 ·exact .inl ⟨by omega,p,rfl⟩
 simp only
 unfold xq
 rcases cN h3 t1 with ⟨u1,p,u2⟩|⟨u1,s4,u2,h4⟩<;>rw[u2]<;>rw[bz] at u1
 ·omega
 ·rw[bz] at h4
  exact .inr ⟨by omega,s4.Ef,rfl,h4.ts,h4.bg,by show s4.dc=_;rw[h4.dc];omega,by show s4.op-1=o;rw[h4.op];omega,h4.en⟩
noncomputable abbrev yN:=gT (bT Az J9)
theorem vB (x:ByteArray):LI (1,x)=false:=by rfl
theorem Iq (x:Fl) (K:Nat):eU yN K [sg 59] 0 x x:=dA (qq _) (by rfl) (fun _ _ _ _ _ hu=>hu.nil.elim) fun s l d o e h hd _=>vw x h hd
theorem Vc {x:Fl}{K:Nat}{ps:List ByteArray} (hp:ik ps) (hx:x.eI=⟨#[]⟩):eU yN K ((1,⟨#[112,97,99,107,97,103,101]⟩)::(nh ps++[sg 59])) 0 x { x with eI:=jB ps }:=by
 have hw:Az ⟨#[112,97,99,107,97,103,101]⟩=some lT:=rfl
 refine dA (qq _) (vB _) (fun u s d o e hu h hd ho=>?_) fun s l d o e h hd ho=>?_
 ·rw[cC (f:=lT) x h hw]
  unfold lT
  rw[if_pos (by rw[hx];decide +kernel)]
  rcases cN h hd with ⟨q1,p,q2⟩|⟨q1,s1,q2,h1⟩<;>rw[q2]<;>rw[bz] at q1
  ·omega
  simp only
  rw[bz] at h1
  rcases Qn (Bh hu) h1 hp hd with ⟨r1,p,r2⟩|r2|⟨a,s2,d2,r2,r3,h2⟩<;>rw[r2]
  ·exact .inl ⟨by rw[bz] at r1;exact r1,p,rfl⟩
  ·exact .inr rfl
  ·simp only
   rw[fU h2]
   exact .inr rfl
 rw[cC (f:=lT) x h hw]
 unfold lT
 have h0:St s ((1,⟨#[112,97,99,107,97,103,101]⟩)::(nh ps++sg 59::l)) false d o e:=by
  have:(1,⟨#[112,97,99,107,97,103,101]⟩)::(nh ps++sg 59::l)=(1,⟨#[112,97,99,107,97,103,101]⟩)::(nh ps++[sg 59])++l:=by simp
  rw[this];exact h
 rw[if_pos (by rw[hx];decide +kernel)]
 rcases cN h0 hd with ⟨q1,p,q2⟩|⟨q1,s1,q2,h1⟩<;>rw[q2]<;>rw[bz] at q1
 ·omega
 simp only
 rw[bz] at h1
 rcases G7 h1 (show nf (sg 59::l) from .inl (by decide +kernel)) hp hd with ⟨r1,p,r2⟩|⟨r1,s2,r2,h2⟩<;>rw[r2]<;>rw[bz] at r1
 ·omega
 simp only
 rw[bz] at h2
 rcases cX h2 hd with ⟨t1,p,t2⟩|⟨t1,s3,t2,h3⟩<;>rw[t2]<;>rw[bz] at t1
 ·omega
 ·rw[bz] at h3
  exact .inr ⟨hd,s3,rfl,h3⟩
theorem Ve {x:Fl}{K:Nat}{y:ByteArray} (hy:aR y):eU yN K ((1,⟨#[105,109,112,111,114,116]⟩)::(3,lit 34 y)::[sg 59]) 1 x { x with bM:=x.bM++[y] }:=by
 have hw:Az ⟨#[105,109,112,111,114,116]⟩=some xI:=rfl
 have hf:fh y=0:=by
  unfold fh
  rw[if_neg (by have:=hy.2.2;omega),if_neg]
  intro q
  have h5:y.toList=[]:=by simpa using q
  have h6:=qw (s:=y) (by have:=hy.2.1;omega)
  rw[h5] at h6
  cases h6
 refine dA (qq _) (vB _) (fun u s d o e hu h hd ho=>?_) fun s l d o e h hd ho=>?_
 ·rw[cC (f:=xI) x h hw]
  unfold xI dw
  rcases cN h.begun hd with ⟨q1,p,q2⟩|⟨q1,s1,q2,h1⟩<;>rw[q2]<;>rw[lJ] at q1
  ·exact .inl ⟨q1,p,rfl⟩
  simp only
  rw[lJ] at h1
  rcases hu.cons with rfl|⟨u1,rfl,jR⟩
  ·rw[if_neg (by rw[h1.xG (by decide),h1.xG (by decide)];decide),xu h1]
   exact .inr rfl
  rw[if_neg (by rw[fK h1 (show (3:Int)≠1 by decide),fK h1 (show (3:Int)≠1 by decide)];decide)]
  rcases nK h1 (pY 34 y (.inr rfl) hy) hf q1 with ⟨r1,p,r2⟩|⟨r1,s2,r2,h2⟩<;>rw[r2]<;>rw[bz] at r1
  ·omega
  simp only
  rw[bz] at h2
  rcases jR.cons with rfl|⟨u2,rfl,oJ⟩
  ·rw[fU h2]
   exact .inr rfl
  ·exact oJ.nil.elim
 rw[cC (f:=xI) x h hw]
 unfold xI dw
 have h0:St s ((1,⟨#[105,109,112,111,114,116]⟩)::(3,lit 34 y)::sg 59::l) false d o e:=h
 rcases cN h0.begun hd with ⟨q1,p,q2⟩|⟨q1,s1,q2,h1⟩<;>rw[q2]<;>rw[lJ] at q1
 ·exact .inl ⟨q1,p,rfl⟩
 simp only
 rw[lJ] at h1
 rw[if_neg (by rw[fK h1 (show (3:Int)≠1 by decide),fK h1 (show (3:Int)≠1 by decide)];decide)]
 rcases nK h1 (pY 34 y (.inr rfl) hy) hf q1 with ⟨r1,p,r2⟩|⟨r1,s2,r2,h2⟩<;>rw[r2]<;>rw[bz] at r1
 ·omega
 simp only
 rw[bz] at h2
 rcases cX h2 q1 with ⟨t1,p,t2⟩|⟨t1,s3,t2,h3⟩<;>rw[t2]<;>rw[bz] at t1
 ·omega
 ·rw[bz] at h3
  exact .inr ⟨q1,s3,rfl,h3⟩
theorem Vd {f K:Nat}{x:Fl}{c:Nat}{m:Ms}{ws:List Wd} (h:VR f m ws c) (hf:f≤32) (hK:f≤K):eU yN K ws c x { x with ms:=x.ms++[m] }:=by
 obtain ⟨⟨r,rfl⟩,h2,h3⟩:=h
 have hw:Az oF=some NP:=rfl
 refine dA (qq _) (vB _) (fun u s d o e hu h hd ho=>?_) fun s l d o e h hd ho=>?_
 ·rw[cC (f:=NP) x h hw]
  unfold NP
  have oJ:mw ((1,oF)::u) ((1,oF)::r):=by
   obtain ⟨z,t,ht⟩:=hu
   exact ⟨z,t,by rw[ht];rfl⟩
  rcases h3 16384 u s d o e (by omega) oJ h hd (by omega) with ⟨q1,p,q2⟩|q2<;>rw[q2]
  ·exact .inl ⟨q1,p,rfl⟩
  ·exact .inr rfl
 rw[cC (f:=NP) x h hw]
 unfold NP
 rcases h2 16384 s l d o e (by omega) h hd (by omega) with ⟨q1,p,q2⟩|⟨q1,s1,q2,h1⟩<;>rw[q2]
 ·exact .inl ⟨q1,p,rfl⟩
 ·exact .inr ⟨q1,s1,rfl,h1⟩
theorem Ri {K c:Nat}{x:Fl}{z:En}{ws:List Wd} (h:Xk z ws c):eU yN K ws c x { x with es:=x.es++[z] }:=by
 obtain ⟨⟨r,rfl⟩,h2,h3⟩:=h
 have hw:Az ⟨#[101,110,117,109]⟩=some N0:=rfl
 refine dA (qq _) (vB _) (fun u s d o e hu h hd ho=>?_) fun s l d o e h hd ho=>?_
 ·rw[cC (f:=N0) x h hw]
  unfold N0
  have oJ:mw ((1,⟨#[101,110,117,109]⟩)::u) ((1,⟨#[101,110,117,109]⟩)::r):=by
   obtain ⟨z,t,ht⟩:=hu
   exact ⟨z,t,by rw[ht];rfl⟩
  rcases h3 u s d o e oJ h hd (by omega) with ⟨q1,p,q2⟩|q2<;>rw[q2]
  ·exact .inl ⟨q1,p,rfl⟩
  ·exact .inr rfl
 rw[cC (f:=N0) x h hw]
 unfold N0
 rcases h2 s l d o e h hd (by omega) with ⟨q1,p,q2⟩|⟨q1,s1,q2,h1⟩<;>rw[q2]
 ·exact .inl ⟨q1,p,rfl⟩
 ·exact .inr ⟨q1,s1,rfl,h1⟩
noncomputable def jW:List Wd:=[(1,⟨#[115,121,110,116,97,120]⟩),sg 61,(3,lit 39 ⟨#[112,114,111,116,111,51]⟩),sg 59]
theorem LC:fJ ⟨#[112,114,111,116,111,51]⟩=0:=by decide +kernel
theorem NX {K c:Nat}{g:Fl}{ws:List Wd}{s:aD}{d o:Nat}{e:Tk} (hE:eU yN K ws c ⟨⟨#[]⟩,[],[],[]⟩ g) (h:St s (jW++ws) false d o e) (hd:d≤4096) (ho:o+K≤32):rp (hZ s) g [] false (d+c) o e:=by
 unfold hZ
 have h0:St s ((1,⟨#[115,121,110,116,97,120]⟩)::sg 61::(3,lit 39 ⟨#[112,114,111,116,111,51]⟩)::sg 59::(ws++[])) false d o e:=by rw[List.append_nil];exact h
 rcases dK h0 hd with ⟨q1,p,q2⟩|⟨q1,s1,q2,h1⟩<;>rw[q2]<;>rw[bz] at q1
 ·omega
 simp only
 rw[bz] at h1
 rcases cX h1 hd with ⟨q1,p,q2⟩|⟨q1,s2,q2,h2⟩<;>rw[q2]<;>rw[bz] at q1
 ·omega
 simp only
 rw[bz] at h2
 rcases nK h2 (pY 39 _ (.inl rfl) wM) LC hd with ⟨q1,p,q2⟩|⟨q1,s3,q2,h3⟩<;>rw[q2]<;>rw[bz] at q1
 ·omega
 simp only
 rw[bz] at h3
 rcases cX h3 hd with ⟨q1,p,q2⟩|⟨q1,s4,q2,h4⟩<;>rw[q2]<;>rw[bz] at q1
 ·omega
 simp only
 rw[bz] at h4
 unfold gL
 rcases hE.1 s4 [] d o e (s4.ts.length+1) h4 hd ho (by omega) with ⟨r1,p,r2⟩|⟨r1,s5,n5,r2,h5,h6⟩
 ·exact .inl ⟨r1,p,r2⟩
 ·refine .inr ⟨r1,s5,?_,h5⟩
  obtain ⟨n5,rfl⟩:∃m,n5=m+1:=⟨n5-1,by omega⟩
  refine r2.trans ?_
  show gT (bT Az J9) (n5+1) g s5=_
  rw[gT,if_pos h5.lK]
end Go.Proofs.YtmlphohdcejniaaGreatDoor

import Derived.Test.YtjophoclfccmcaaGreatDoorM47
namespace Go.Proofs.YtjophoclfccmcaaGreatDoor
open Go.RowKit
def qV:ByteArray:=⟨#[112,97,99,107,97,103,101]⟩
def xx:List ByteArray:=[⟨#[111,112,116,105,111,110]⟩,⟨#[115,101,114,118,105,99,101]⟩,⟨#[101,120,116,101,110,100]⟩]
noncomputable def pkX (s:ax):Except (Int×Int) (ByteArray×ax):=bQ (ba false s) (fun p s2=>bQ (au ⟨#[59]⟩ s2) (fun _ s3=>.ok (p,s3)))
noncomputable def Ef (x:Fl) (s:ax):Except (Int×Int) (Fl×ax) :=
 if aH s.here 4 ⟨#[59]⟩=true then .ok (x,s.nx)
 else if aH s.here 1 qV=true∧(x.kH.toList==[])=true then bQ (pkX s.nx) (fun p s'=>.ok ({ x with kH:=p },s'))
 else if aH s.here 1 j6=true then bQ (bA s) (fun d s'=>.ok ({ x with fU:=x.fU++[d] },s'))
 else if aH s.here 1 ib=true then bQ (bk 16384 s) (fun d s'=>.ok ({ x with ms:=x.ms++[d] },s'))
 else if aH s.here 1 lh=true then bQ (dd s) (fun d s'=>.ok ({ x with es:=x.es++[d] },s'))
 else .error (bS s)
theorem VP {k:ByteArray} (e:k=⟨#[111,112,116,105,111,110]⟩):k ∈ xx:=by
 subst e
 unfold xx
 simp only[List.mem_cons,true_or]
theorem Sd {k:ByteArray} (e:k=⟨#[115,101,114,118,105,99,101]⟩):k ∈ xx:=by
 subst e
 unfold xx
 simp only[List.mem_cons,true_or,or_true]
theorem Sc {k:ByteArray} (e:k=⟨#[101,120,116,101,110,100]⟩):k ∈ xx:=by
 subst e
 unfold xx
 simp only[List.mem_cons,true_or,or_true]
theorem aab (k:ByteArray):(k=qV∧pJ k=some pX)∨(k=j6∧pJ k=some Kr)∨(k=ib∧pJ k=some Xy)∨(k=lh∧pJ k=some Xz)∨(k ∈ xx∧pJ k=some dw)∨((k≠qV∧k≠j6∧k≠ib∧k≠lh∧k ∉ xx)∧pJ k=none):=by
 by_cases h1:(k==(⟨#[112,97,99,107,97,103,101]⟩:ByteArray))=true
 ·exact .inl ⟨gE h1,by unfold pJ;rw[if_pos h1]⟩
 by_cases h2:(k==(⟨#[105,109,112,111,114,116]⟩:ByteArray))=true
 ·exact .inr (.inl ⟨gE h2,by unfold pJ;rw[if_neg h1,if_pos h2]⟩)
 by_cases h3:(k==(⟨#[109,101,115,115,97,103,101]⟩:ByteArray))=true
 ·exact .inr (.inr (.inl ⟨gE h3,by unfold pJ;rw[if_neg h1,if_neg h2,if_pos h3]⟩))
 by_cases h4:(k==(⟨#[101,110,117,109]⟩:ByteArray))=true
 ·exact .inr (.inr (.inr (.inl ⟨gE h4,by unfold pJ;rw[if_neg h1,if_neg h2,if_neg h3,if_pos h4]⟩)))
 by_cases h5:(k==(⟨#[111,112,116,105,111,110]⟩:ByteArray))=true
 ·exact .inr (.inr (.inr (.inr (.inl ⟨VP (gE h5),by unfold pJ;rw[if_neg h1,if_neg h2,if_neg h3,if_neg h4,if_pos h5]⟩))))
 by_cases h6:(k==(⟨#[115,101,114,118,105,99,101]⟩:ByteArray))=true
 ·exact .inr (.inr (.inr (.inr (.inl ⟨Sd (gE h6),by unfold pJ;rw[if_neg h1,if_neg h2,if_neg h3,if_neg h4,if_neg h5,if_pos h6]⟩))))
 by_cases h7:(k==(⟨#[101,120,116,101,110,100]⟩:ByteArray))=true
 ·exact .inr (.inr (.inr (.inr (.inl ⟨Sc (gE h7),by unfold pJ;rw[if_neg h1,if_neg h2,if_neg h3,if_neg h4,if_neg h5,if_neg h6,if_pos h7]⟩))))
 refine .inr (.inr (.inr (.inr (.inr ⟨⟨fun e=>h1 (by rw[e];decide +kernel),fun e=>h2 (by rw[e];decide +kernel),fun e=>h3 (by rw[e];decide +kernel),fun e=>h4 (by rw[e];decide +kernel),fun hm=>?_⟩,by unfold pJ;rw[if_neg h1,if_neg h2,if_neg h3,if_neg h4,if_neg h5,if_neg h6,if_neg h7]⟩))))
 unfold xx at hm
 simp only[List.mem_cons,List.not_mem_nil,or_false] at hm
 rcases hm with e|e|e
 ·exact h5 (by rw[e];decide +kernel)
 ·exact h6 (by rw[e];decide +kernel)
 ·exact h7 (by rw[e];decide +kernel)
theorem Cc {k W:ByteArray} (e:k=W) (h:∀x ∈ xx,W≠x):k ∉ xx:=fun q=>h k q e.symm
theorem QF {x:Fl}{s:ax} (hg:Gd s):bV pJ I3 x s=bQ (dp xx s) (fun _ s1=>Ef x s1):=by
 unfold bV
 rw[cV hg.bg]
 by_cases h0:aH s.here 4 ⟨#[59]⟩=true
 ·have hk:=(bn.1 h0).1
  rw[if_pos h0,lD (fun q=>by rw[hk] at q;exact absurd q.1 (by decide)),aK]
  unfold Ef
  rw[if_pos h0]
 ·rw[if_neg h0]
  dsimp only
  by_cases h1:s.here.kind=1
  ·have rm:s.here.text ∉ xx→bQ (dp xx s) (fun _ s1=>Ef x s1)=Ef x s:=fun q=>by rw[lD (fun p=>q p.2),aK]
   rcases aab s.here.text with ⟨e,hm⟩|⟨e,hm⟩|⟨e,hm⟩|⟨e,hm⟩|⟨e,hm⟩|⟨⟨e1,e2,e3,e4,e5⟩,hm⟩
   ·rw[hm]
    dsimp only
    rw[if_pos h1,rm (Cc e (by unfold xx;simp only[List.mem_cons,List.not_mem_nil,or_false];rintro x (rfl|rfl|rfl)<;>exact cb (by decide +kernel)))]
    unfold Ef
    rw[if_neg h0]
    unfold pX
    by_cases hp:(x.kH.toList==[])=true
    ·rw[if_pos hp,if_pos ⟨bn.2 ⟨h1,e⟩,hp⟩,fZ hg.bg]
     dsimp only
     unfold pkX
     cases ba false s.nx with
     |error y=>rfl
     |ok p =>
      rw[aK]
      dsimp only
      cases au ⟨#[59]⟩ p.2 with
      |error y=>rfl
      |ok q=>rfl
    ·rw[if_neg hp,if_neg (fun q=>hp q.2),if_neg (bO e (cb (by decide +kernel))),if_neg (bO e (cb (by decide +kernel))),if_neg (bO e (cb (by decide +kernel)))]
   ·rw[hm]
    dsimp only
    rw[if_pos h1,rm (Cc e (by unfold xx;simp only[List.mem_cons,List.not_mem_nil,or_false];rintro x (rfl|rfl|rfl)<;>exact cb (by decide +kernel)))]
    unfold Ef
    rw[if_neg h0,if_neg (fun q=>bO e (cb (by decide +kernel)) q.1),if_pos (bn.2 ⟨h1,e⟩)]
    unfold Kr
    cases bA s with
    |error y=>rfl
    |ok p=>rfl
   ·rw[hm]
    dsimp only
    rw[if_pos h1,rm (Cc e (by unfold xx;simp only[List.mem_cons,List.not_mem_nil,or_false];rintro x (rfl|rfl|rfl)<;>exact cb (by decide +kernel)))]
    unfold Ef
    rw[if_neg h0,if_neg (fun q=>bO e (cb (by decide +kernel)) q.1),if_neg (bO e (cb (by decide +kernel))),if_pos (bn.2 ⟨h1,e⟩)]
    unfold Xy
    cases bk 16384 s with
    |error y=>rfl
    |ok p=>rfl
   ·rw[hm]
    dsimp only
    rw[if_pos h1,rm (Cc e (by unfold xx;simp only[List.mem_cons,List.not_mem_nil,or_false];rintro x (rfl|rfl|rfl)<;>exact cb (by decide +kernel)))]
    unfold Ef
    rw[if_neg h0,if_neg (fun q=>bO e (cb (by decide +kernel)) q.1),if_neg (bO e (cb (by decide +kernel))),if_neg (bO e (cb (by decide +kernel))),if_pos (bn.2 ⟨h1,e⟩)]
    unfold Xz
    cases dd s with
    |error y=>rfl
    |ok p=>rfl
   ·rw[hm]
    dsimp only
    rw[if_pos h1,FH h1 e]
    rfl
   ·rw[hm]
    dsimp only
    rw[rm e5]
    unfold Ef
    rw[if_neg h0,if_neg (fun q=>bO rfl e1 q.1),if_neg (bO rfl e2),if_neg (bO rfl e3),if_neg (bO rfl e4)]
    rfl
  ·rw[lD (fun q=>h1 q.1),aK]
   unfold Ef
   rw[if_neg h0,if_neg (fun q=>gw h1 _ q.1),if_neg (gw h1 _),if_neg (gw h1 _),if_neg (gw h1 _)]
   cases pJ s.here.text with
   |none=>rfl
   |some f=>simp only[if_neg h1];rfl
theorem TE (x:Fl) (s:ax) (x':Fl) (s':ax) (h:bV pJ I3 x s=.ok (x',s')):Gt s s'∧(s.en.kind=5→0<s.ts.length):=gZ OB (fun x s x' s' h=>by cases h) h
theorem sR:∀(f g:Nat) (x:Fl) (s:ax),s.en.kind=5→s.ts.length<f→s.ts.length<g→lT (bV pJ I3) f x s=lT (bV pJ I3) g x s
 |0,_,_,_,_,h,_=>absurd h (by omega)
 |_+1,0,_,_,_,_,h=>absurd h (by omega)
 |f+1,g+1,x,s,he,hf,hg=>by
  unfold lT
  by_cases hq:s.here.kind=5
  ·rw[if_pos hq,if_pos hq]
  ·rw[if_neg hq,if_neg hq]
   cases hs:bV pJ I3 x s with
   |error y=>rfl
   |ok p =>
    obtain ⟨x',s'⟩:=p
    obtain ⟨h1,h2⟩:=TE x s x' s' hs
    have h3:=dS h1 (h2 he)
    obtain ⟨_,_,_,e⟩:=h1
    exact sR f g x' s' (by rw[e];exact he) (by omega) (by omega)
def N5 (s:ax):Prop:=∀t ∈ s.ts,t.kind≠5
theorem N5.gu {s s':ax} (h:N5 s) (hs:jj s s'):N5 s':=by
 obtain ⟨k,e,_⟩:=hs
 intro t ht
 rw[e] at ht
 exact h t (List.mem_of_mem_drop ht)
noncomputable def ef (x:Fl) (s:ax):Except (Int×Int) (Fl×ax):=lT (bV pJ I3) 20000 x s
noncomputable def gC (x:Fl) (s:ax):Except (Int×Int) (Fl×ax):=bQ (Ef x s) (fun x' s'=>ef x' s')
theorem VS {x:Fl}{s:ax} (hg:Gd s) (h:¬0<s.ts.length):ef x s=.ok (x,s):=by
 have h0:s.ts=[]:=List.eq_nil_of_length_eq_zero (by omega)
 have h5:s.here.kind=5:=by unfold ax.here;rw[h0];exact hg.en
 show (if s.here.kind=5 then _ else _)=_
 rw[if_pos h5]
theorem Oz {x:Fl}{s:ax} (hg:Gd s) (h5:N5 s) (hp:0<s.ts.length):ef x s=al (aT (al (.ok s) (dp xx))) (gC x):=by
 have hk:¬s.here.kind=5:=by
  unfold ax.here
  cases F6:s.ts with
  |nil=>rw[F6] at hp;simp at hp
  |cons t r=>exact h5 t (by rw[F6];simp)
 have h1:ef x s=bQ (bV pJ I3 x s) (fun x' s'=>ef x' s'):=by
  show (if s.here.kind=5 then _ else _)=_
  rw[if_neg hk]
  cases hs:bV pJ I3 x s with
  |error y=>rfl
  |ok p =>
   obtain ⟨x',s'⟩:=p
   obtain ⟨h1,h2⟩:=TE x s x' s' hs
   have h3:=dS h1 hp
   have h4:=hg.len
   obtain ⟨_,_,_,e⟩:=h1
   exact sR 19999 20000 x' s' (by rw[e];exact hg.en) (by omega) (by omega)
 rw[h1,QF hg,seq_assoc,fh]
 rfl
theorem Si {s:ax} (hg:Gd s) (kZ:lp (aT (Bv s))):iB s=al (aT (Bv s)) (ef ⟨⟨#[]⟩,[],[],[]⟩):=by
 unfold iB
 unfold Bv at kZ ⊢
 rw[cV hg.bg]
 unfold cn at kZ ⊢
 by_cases h0:aH s.here 1 Dh=true
 ·rw[if_pos h0,aK] at kZ
  rw[if_pos h0,aK,if_pos (show aH s.here 1 ⟨#[115,121,110,116,97,120]⟩=true from h0)]
  dsimp only at kZ ⊢
  cases h1:au ⟨#[61]⟩ s.nx with
  |error y=>rfl
  |ok p1 =>
   rw[h1,aK] at kZ
   rw[aK]
   dsimp only
   cases h2:bE dG p1.2 with
   |error y=>rfl
   |ok p2 =>
    rw[h2,aK] at kZ
    rw[aK]
    dsimp only
    cases h3:au ⟨#[59]⟩ p2.2 with
    |error y=>rfl
    |ok p3 =>
     rw[h3] at kZ
     obtain ⟨a3,s3⟩:=p3
     have KF:Gd s3:=kZ
     show iV s3=ef _ s3
     have:=KF.len
     exact sR _ _ _ _ KF.en (by omega) (by omega)
 ·rw[if_neg h0,if_neg (show ¬aH s.here 1 ⟨#[115,121,110,116,97,120]⟩=true from h0)]
  rfl
theorem QD {s s':ax} (h:aT (Bv s)=.ok s'):jj s s':=by
 unfold Bv cn at h
 by_cases h0:aH s.here 1 Dh=true
 ·rw[if_pos h0,aK] at h
  dsimp only at h
  cases h1:au ⟨#[61]⟩ s.nx with
  |error y=>rw[h1] at h;cases h
  |ok p1 =>
   rw[h1,aK] at h
   cases h2:bE dG p1.2 with
   |error y=>rw[h2] at h;cases h
   |ok p2 =>
    rw[h2,aK] at h
    cases h3:au ⟨#[59]⟩ p2.2 with
    |error y=>rw[h3] at h;cases h
    |ok p3 =>
     rw[h3] at h
     obtain rfl:p3.2=s':=by simpa[aT] using h
     exact ((jj.tail (s1:=s.nx) rfl ⟨rfl,rfl⟩).trans (bB (x:=⟨#[61]⟩) h1)).trans ((jt h2).1.gu.trans (bB h3))
 ·rw[if_neg h0] at h;cases h
theorem Kf {x:Fl}{s:ax} (h:aH s.here 4 ⟨#[59]⟩=true):gC x s=ef x s.nx:=by
 unfold gC Ef
 rw[if_pos h]
 rfl
theorem Nf {x:Fl}{s:ax}{p:ByteArray} (h0:¬aH s.here 4 ⟨#[59]⟩=true) (h1:aH s.here 1 qV=true) (h2:(x.kH.toList==[])=true) (hv:∀a s',al (kI (.ok s)) (fun s=>ba false (lk false s))=.ok (a,s')→Value.string p=.string a) :
  gC x s=al (aT (al (aT (al (kI (.ok s)) (fun s=>ba false (lk false s)))) (au ⟨#[59]⟩))) (ef { x with kH:=p }):=by
 unfold gC Ef
 rw[if_neg h0,if_pos ⟨h1,h2⟩]
 unfold pkX
 rw[show al (kI (.ok s)) (fun s=>ba false (lk false s))=ba false s.nx from rfl] at hv ⊢
 cases hr:ba false s.nx with
 |error y=>rfl
 |ok q =>
  obtain ⟨a,s'⟩:=q
  obtain rfl:p=a:=by simpa using hv a s' hr
  rw[aK]
  show _=al (aT (au ⟨#[59]⟩ s')) _
  dsimp only
  cases au ⟨#[59]⟩ s' with
  |error y=>rfl
  |ok q=>rfl
theorem Nh {x:Fl}{s:ax}{d:ByteArray} (h0:¬aH s.here 4 ⟨#[59]⟩=true) (h1:¬aH s.here 1 qV=true) (h2:aH s.here 1 j6=true) (hv:∀a s',al (.ok s) bA=.ok (a,s')→Value.string d=.string a) :
  gC x s=al (aT (al (.ok s) bA)) (ef { x with fU:=x.fU++[d] }):=by
 unfold gC Ef
 rw[if_neg h0,if_neg (fun q=>h1 q.1),if_pos h2]
 rw[show al (.ok s) bA=bA s from rfl] at hv ⊢
 cases hr:bA s with
 |error y=>rfl
 |ok q =>
  obtain ⟨a,s'⟩:=q
  obtain rfl:d=a:=by simpa using hv a s' hr
  rfl
theorem Ng {x:Fl}{s:ax}{d:Ms} (h0:¬aH s.here 4 ⟨#[59]⟩=true) (h1:¬aH s.here 1 qV=true) (h2:¬aH s.here 1 j6=true) (h3:aH s.here 1 ib=true) (hv:∀a s',bk 16384 s=.ok (a,s')→a=d) :
  gC x s=al (aT (bk 16384 s)) (ef { x with ms:=x.ms++[d] }):=by
 unfold gC Ef
 rw[if_neg h0,if_neg (fun q=>h1 q.1),if_neg h2,if_pos h3]
 cases hr:bk 16384 s with
 |error y=>rfl
 |ok q =>
  obtain ⟨a,s'⟩:=q
  obtain rfl:=hv a s' hr
  rfl
theorem Rb {x:Fl}{s:ax}{d:En} (h0:¬aH s.here 4 ⟨#[59]⟩=true) (h1:¬aH s.here 1 qV=true) (h2:¬aH s.here 1 j6=true) (h3:¬aH s.here 1 ib=true) (h4:aH s.here 1 lh=true) (hv:∀a s',al (.ok s) dd=.ok (a,s')→a=d) :
  gC x s=al (aT (al (.ok s) dd)) (ef { x with es:=x.es++[d] }):=by
 unfold gC Ef
 rw[if_neg h0,if_neg (fun q=>h1 q.1),if_neg h2,if_neg h3,if_pos h4]
 rw[show al (.ok s) dd=dd s from rfl] at hv ⊢
 cases hr:dd s with
 |error y=>rfl
 |ok q =>
  obtain ⟨a,s'⟩:=q
  obtain rfl:=hv a s' hr
  rfl
theorem FU {x:Fl}{R:PX} (h0:gd R 4 ⟨#[59]⟩=false) (h1:gd R 1 qV=true→(x.kH.toList==[])=false) (h2:gd R 1 j6=false) (h3:gd R 1 ib=false) (h4:gd R 1 lh=false):al R (gC x)=al (kN R) (ef x):=by
 match R,h0,h1,h2,h3,h4 with
 |.error y,_,_,_,_,_=>rfl
 |.ok s,h0,h1,h2,h3,h4 =>
  have q0:¬aH s.here 4 ⟨#[59]⟩=true:=by rw[show aH s.here 4 ⟨#[59]⟩=false from h0];decide
  have q2:¬aH s.here 1 j6=true:=by rw[show aH s.here 1 j6=false from h2];decide
  have q3:¬aH s.here 1 ib=true:=by rw[show aH s.here 1 ib=false from h3];decide
  have q4:¬aH s.here 1 lh=true:=by rw[show aH s.here 1 lh=false from h4];decide
  show gC x s=_
  unfold gC Ef
  rw[if_neg q0,if_neg (fun q=>by rw[h1 q.1] at q;exact absurd q.2 (by decide)),if_neg q2,if_neg q3,if_neg q4]
  rfl
theorem ne_nil {p:ByteArray} (h:0<p.size):(p.toList==[])=false:=by
 have:p.toList.length=p.size:=by rw[ByteArray.toList_eq];exact rH p
 cases hp:p.toList with
 |nil=>rw[hp] at this;simp at this;omega
 |cons a l=>rfl
theorem GA:∀(n:Nat) (acc:List UInt8) (s:ax) (EK:List UInt8) (s':ax),dB n acc s=.ok (EK,s')→acc.length≤EK.length:=by
 intro n
 induction n with
 |zero=>intro acc s EK s' h;unfold dB at h;cases h
 |succ n ih =>
  intro acc s EK s' h
  unfold dB at h
  split at h
  ·cases h
  ·cases h;exact zD _
  ·split at h
   ·cases h
   ·have:=ih _ _ _ _ h
    simp only[zK] at this
    omega
theorem M4 {s s1:ax}{x:ByteArray} (h:aQ s=.ok (x,s1)):0<x.size:=by
 unfold aQ at h
 split at h
 ·split at h
  ·rename_i h1 h2
   have hx:x=s.here.text:=by
    split at h
    ·simp only[Except.ok.injEq,Prod.mk.injEq] at h
     exact h.1.symm
    ·cases h
   unfold bM at h2
   split at h2
   ·exact absurd h2 (by decide)
   ·split at h2
    ·rename_i h3 h4
     unfold fz at h4
     have:=(of_decide_eq_true h4).1.1
     rw[hx]
     omega
    ·exact absurd h2 (by decide)
  ·cases h
 ·cases h
theorem Gz {s s':ax}{p:ByteArray} (h:ba false s=.ok (p,s')):(p.toList==[])=false:=by
 unfold ba at h
 rw[if_neg (by decide:¬false=true)] at h
 dsimp only at h
 unfold iu at h
 cases hn:aQ s with
 |error y=>rw[hn] at h;cases h
 |ok q =>
  obtain ⟨x,s1⟩:=q
  rw[hn] at h
  dsimp only at h
  have hx:=M4 hn
  cases hl:dB (s1.ts.length+1) ((if false=true then [46] else [])++x.data.toList) s1 with
  |error y=>rw[hl] at h;cases h
  |ok q =>
   obtain ⟨acc,s2⟩:=q
   rw[hl] at h
   have h1:=GA _ _ _ _ _ hl
   rw[if_neg (by decide:¬false=true),List.nil_append,rH] at h1
   unfold oC at h
   dsimp only at h
   split at h
   ·cases h
   ·simp only[Except.ok.injEq,Prod.mk.injEq] at h
    rw[←h.1]
    refine ne_nil ?_
    show 0<acc.toArray.size
    rw[List.size_toArray]
    omega
end Go.Proofs.YtjophoclfccmcaaGreatDoor

import Derived.Test.YtmlphohdcejniaaGreatDoorM36
namespace Go.Proofs.YtmlphohdcejniaaGreatDoor
open Go.RowKit
def Lp {σ:Type} (L:Nat→fQ σ) (st:fQ σ) (stop:Wd→Bool):Prop:=∀n x s w l b d o e,St s (w::l) b d o e→stop w=false→L (n+1) x s=match st x s with
 |.error e=>.error e
 |.ok (x',s')=>L n x' s'
def EL {σ:Type} (L:Nat→fQ σ) (K:Nat) (ws:List Wd) (c:Nat) (x x':σ):Prop:=∀s l d o e n,St s (ws++l) false d o e→d≤4096→o+K≤32→s.ts.length<n →
 (4096<d+c∧∃p,L n x s=.error (54,p))∨(d+c≤4096∧∃s' n',L n x s=L n' x' s'∧St s' l false (d+c) o e∧s'.ts.length<n')
def abF {σ:Type} (L:Nat→fQ σ) (K:Nat) (ws:List Wd) (c:Nat) (x x':σ):Prop:=∀u s d o e n,mw u ws→St s u false d o e→d≤4096→o+K≤32→s.ts.length<n →
 (4096<d+c∧∃p,L n x s=.error (54,p))∨L n x s=.error (51,e.spot)∨∃y s' d' n',L n x s=L n' y s'∧St s' [] false d' o e∧d'≤4096∧s'.ts.length<n'∧∃w2 c2,EL L K w2 c2 y x'∧c2≤c
def eU {σ:Type} (L:Nat→fQ σ) (K:Nat) (ws:List Wd) (c:Nat) (x x':σ):Prop:=EL L K ws c x x'∧abF L K ws c x x'
theorem EL.trans {σ:Type}{L:Nat→fQ σ}{K:Nat}{u v:List Wd}{c k:Nat}{x y z:σ} (h1:EL L K u c x y) (h2:EL L K v k y z):EL L K (u++v) (c+k) x z:=fun s l d o e n h hd ho hn=>by
 rw[List.append_assoc] at h
 rcases h1 s (v++l) d o e n h hd ho hn with ⟨q1,p,q2⟩|⟨q1,s1,n1,q2,g1,g2⟩
 ·exact .inl ⟨by omega,p,q2⟩
 ·rcases h2 s1 l (d+c) o e n1 g1 q1 ho g2 with ⟨r1,p,r2⟩|⟨r1,s2,n2,r2,g3,g4⟩
  ·exact .inl ⟨by omega,p,q2.trans r2⟩
  ·exact .inr ⟨by omega,s2,n2,q2.trans r2,by rw[←Nat.add_assoc];exact g3,g4⟩
theorem eU.nil {σ:Type}{L:Nat→fQ σ}{K:Nat} (x:σ):eU L K [] 0 x x:=⟨fun s _ _ _ _ n h hd _ hn=>.inr ⟨hd,s,n,rfl,h,hn⟩,fun _ _ _ _ _ _ hu=>hu.nil.elim⟩
theorem eU.trans {σ:Type}{L:Nat→fQ σ}{K:Nat}{u v:List Wd}{c k:Nat}{x y z:σ} (h1:eU L K u c x y) (h2:eU L K v k y z):eU L K (u++v) (c+k) x z:=by
 refine ⟨h1.1.trans h2.1,fun t s d o e n hu h hd ho hn=>?_⟩
 rcases hu.VK with jR|⟨t1,rfl,jR⟩
 ·rcases h1.2 t s d o e n jR h hd ho hn with ⟨q1,p,q2⟩|q2|⟨y1,s1,d1,n1,q2,g1,g2,g3,w2,c2,g4,g5⟩
  ·exact .inl ⟨by omega,p,q2⟩
  ·exact .inr (.inl q2)
  ·exact .inr (.inr ⟨y1,s1,d1,n1,q2,g1,g2,g3,w2++v,c2+k,g4.trans h2.1,by omega⟩)
 ·rcases h1.1 s t1 d o e n h hd ho hn with ⟨q1,p,q2⟩|⟨q1,s1,n1,q2,g1,g2⟩
  ·exact .inl ⟨by omega,p,q2⟩
  ·rcases h2.2 t1 s1 (d+c) o e n1 jR g1 q1 ho g2 with ⟨r1,p,r2⟩|r2|⟨y1,s2,d2,n2,r2,f1,f2,f3,w2,c2,f4,f5⟩
   ·exact .inl ⟨by omega,p,q2.trans r2⟩
   ·exact .inr (.inl (q2.trans r2))
   ·exact .inr (.inr ⟨y1,s2,d2,n2,q2.trans r2,f1,f2,f3,w2,c2,f4,by omega⟩)
theorem dA {σ:Type}{L:Nat→fQ σ}{st:fQ σ}{stop:Wd→Bool}{K c:Nat}{w:Wd}{ws:List Wd}{x x':σ} (hL:Lp L st stop) (hw:stop w=false) (hc:∀u s d o e,mw u ws→St s (w::u) false d o e→d≤4096→o+K≤32→mX (st x s) (d+c) e) (h:∀s l d o e,St s (w::ws++l) false d o e→d≤4096→o+K≤32→rp (st x s) x' l false (d+c) o e):eU L K (w::ws) c x x':=by
 have hH:EL L K (w::ws) c x x':=fun s l d o e n hs hd ho hn=>by
  obtain ⟨n,rfl⟩:∃m,n=m+1:=⟨n-1,by omega⟩
  have h1:=hL n x s w (ws++l) false d o e hs hw
  have hl:=hs.len
  rcases h s l d o e hs hd ho with ⟨q1,p,q2⟩|⟨q1,s1,q2,q3⟩<;>rw[q2] at h1
  ·exact .inl ⟨q1,p,h1⟩
  ·have yL:=q3.len
   simp only[List.cons_append,List.length_cons,zK] at hl
   exact .inr ⟨q1,s1,n,h1,q3,by omega⟩
 refine ⟨hH,fun u s d o e n hu hs hd ho hn=>?_⟩
 rcases hu.cons with rfl|⟨u1,rfl,jR⟩
 ·exact .inr (.inr ⟨x,s,d,n,rfl,hs,hd,hn,w::ws,c,hH,zD _⟩)
 ·obtain ⟨n,rfl⟩:∃m,n=m+1:=⟨n-1,by omega⟩
  have h1:=hL n x s w u1 false d o e hs hw
  rcases hc u1 s d o e jR hs hd ho with ⟨q1,p,q2⟩|q2<;>rw[q2] at h1
  ·exact .inl ⟨q1,p,h1⟩
  ·exact .inr (.inl h1)
theorem eU.cast {σ:Type}{L:Nat→fQ σ}{K:Nat}{u v:List Wd}{c k:Nat}{x y:σ} (h:eU L K u c x y) (hu:u=v) (hc:c=k):eU L K v k x y:=by rw[←hu,←hc];exact h
def GS (w:Wd):Bool:=w.1==4&&(w.2.toList==ByteArray.toList ⟨#[125]⟩)
def LI (w:Wd):Bool:=w.1==5
theorem eZ {σ:Type} (st:fQ σ):Lp (eR st) st GS:=fun n x s w l b d o e h hw=>by
 have hp:¬cZ s.here 4 ⟨#[125]⟩=true:=by
  unfold cZ
  rw[h.here.1,h.here.2.1]
  unfold GS at hw
  rw[hw]
  decide
 rw[eR,if_neg hp]
 cases st x s with
 |error y=>rfl
 |ok y=>rfl
theorem qq (st:fQ Fl):Lp (gT st) st LI:=fun n x s w l b d o e h hw=>by
 have hp:¬s.here.kind=5:=by
  rw[h.here.1]
  unfold LI at hw
  simpa using hw
 rw[gT,if_neg hp]
 cases st x s with
 |error y=>rfl
 |ok y=>rfl
theorem OI {σ:Type}{st:fQ σ}{x:σ}{s:aD}{l:List Wd}{b:Bool}{d o:Nat}{e:Tk}{n:Nat} (h:St s (sg 125::l) b d o e) (hn:s.ts.length<n):eR st n x s=.ok (x,s):=by
 obtain ⟨n,rfl⟩:∃m,n=m+1:=⟨n-1,by omega⟩
 rw[eR,if_pos (MU h)]
theorem yt {σ:Type}{st:fQ σ}{K:Nat}{x x':σ}{ws l:List Wd}{s:aD}{c d o:Nat}{e:Tk} (hE:eU (eR st) K ws c x x') (h:St s (sg 123::(ws++sg 125::l)) false d o e) (hd:d≤4096) (ho:o+K≤32):rp (ie st x s) x' (sg 125::l) false (d+c) o e:=by
 unfold ie
 rcases cX h hd with ⟨q1,p,q2⟩|⟨q1,s1,q2,h1⟩<;>rw[q2]<;>rw[bz] at q1
 ·exact .inl ⟨by omega,p,rfl⟩
 simp only
 rw[bz] at h1
 rcases hE.1 s1 _ d o e (s1.ts.length+1) h1 hd ho (by omega) with ⟨r1,p,r2⟩|⟨r1,s2,n2,r2,h2,h3⟩<;>rw[r2]
 ·exact .inl ⟨r1,p,rfl⟩
 ·rw[OI h2 h3]
  exact .inr ⟨r1,s2,rfl,h2⟩
theorem yu {σ:Type}{st:fQ σ}{K:Nat}{x x':σ}{ws u:List Wd}{s:aD}{c d o:Nat}{e:Tk} (hE:eU (eR st) K ws c x x') (hO:∀y s b d,St s [] b d o e→st y s=.error (51,e.spot)) (hu:mw u (sg 123::(ws++[sg 125]))) (h:St s u false d o e) (hd:d≤4096) (ho:o+K≤32):mX (ie st x s) (d+c) e:=by
 have gw:∀(n:Nat) (y:σ) (s:aD) (b:Bool) (d:Nat),St s [] b d o e→s.ts.length<n→eR st n y s=.error (51,e.spot):=fun n y s b d h hn=>by
  obtain ⟨n,rfl⟩:∃m,n=m+1:=⟨n-1,by omega⟩
  rw[eR,if_neg (by rw[h.xG (by decide)];decide),hO y s b d h]
 unfold ie
 rcases hu.cons with rfl|⟨u1,rfl,jR⟩
 ·rw[fU h]
  exact .inr rfl
 rcases cX h hd with ⟨q1,p,q2⟩|⟨q1,s1,q2,h1⟩<;>rw[q2]<;>rw[bz] at q1
 ·exact .inl ⟨by omega,p,rfl⟩
 simp only
 rw[bz] at h1
 rcases jR.VK with oJ|⟨u2,rfl,oJ⟩
 ·rcases hE.2 u1 s1 d o e (s1.ts.length+1) oJ h1 hd ho (by omega) with ⟨r1,p,r2⟩|r2|⟨y,s2,d2,n2,r2,g1,g2,g3,_⟩<;>rw[r2]
  ·exact .inl ⟨r1,p,rfl⟩
  ·exact .inr rfl
  ·rw[gw n2 y s2 _ _ g1 g3]
   exact .inr rfl
 ·rcases oJ.cons with rfl|⟨u3,rfl,Uu⟩
  ·rcases hE.1 s1 [] d o e (s1.ts.length+1) h1 hd ho (by omega) with ⟨r1,p,r2⟩|⟨r1,s2,n2,r2,h2,h3⟩<;>rw[r2]
   ·exact .inl ⟨r1,p,rfl⟩
   ·rw[gw n2 _ s2 _ _ h2 h3]
    exact .inr rfl
  ·exact Uu.nil.elim
theorem wP {σ:Type}{F:ByteArray→Option (fQ σ)}{O:fQ σ}{x:σ}{s:aD}{b:Bool}{d o:Nat}{e:Tk} (h:St s [] b d o e):bT F O x s=O x s:=by
 unfold bT
 rw[gH h (by decide)]
 simp only
 cases F s.here.text with
 |none=>rfl
 |some f =>
  simp only
  rw[if_neg (by rw[h.lK];decide)]
theorem vw {σ:Type}{F:ByteArray→Option (fQ σ)}{O:fQ σ} (x:σ) {s:aD}{l:List Wd}{d o:Nat}{e:Tk} (h:St s (sg 59::l) false d o e) (hd:d≤4096):rp (bT F O x s) x l false (d+0) o e:=by
 unfold bT
 rcases dK h hd with ⟨q1,p,q2⟩|⟨q1,s1,q2,h1⟩<;>rw[q2]
 ·exact .inl ⟨q1,p,rfl⟩
 ·exact .inr ⟨q1,s1,rfl,h1⟩
theorem cC {σ:Type}{F:ByteArray→Option (fQ σ)}{O f:fQ σ} (x:σ) {s:aD}{k:ByteArray}{l:List Wd}{b:Bool}{d o:Nat}{e:Tk} (h:St s ((1,k)::l) b d o e) (hf:F k=some f):bT F O x s=f x s:=by
 unfold bT
 rw[iz (fK h (show (1:Int)≠4 by decide))]
 simp only
 rw[h.here.2.1]
 simp only
 rw[hf]
 simp only
 rw[if_pos h.here.1]
theorem lV {σ:Type}{F:ByteArray→Option (fQ σ)}{O:fQ σ} (x:σ) {s:aD}{w:Wd}{l:List Wd}{b:Bool}{d o:Nat}{e:Tk} (h:St s (w::l) b d o e) (hw:w.1≠4∨(w.2.toList==ByteArray.toList ⟨#[59]⟩)=false) (hf:F w.2=none):bT F O x s=O x s:=by
 unfold bT
 rw[iz (hw.elim (fun q=>fK h q) (fun q=>qv h q))]
 simp only
 rw[h.here.2.1,hf]
def lE:Wd:=(1,⟨#[114,101,115,101,114,118,101,100]⟩)
theorem qB {x:ByteArray}{s:aD}{l:List Wd}{b:Bool}{d o:Nat}{e:Tk} (h:St s ((3,lit 39 x)::l) b d o e) (hx:aR x) (hd:d≤4096):rp (kM s) x l false (d+1) o e:=by
 unfold kM
 exact nK h.begun (pY 39 x (.inl rfl) hx) (xj hx) hd
noncomputable def mj:List ByteArray→List Wd
 |[]=>[]
 |x::r=>sg 44::(3,lit 39 x)::mj r
theorem Aw:∀(gs:List ByteArray) (n:Nat) (acc:List ByteArray) (s:aD) (l:List Wd) (d o:Nat) (e:Tk),St s (mj gs++sg 59::l) false d o e→(∀x ∈ gs,aR x)→d≤4096→s.ts.length<n→rp (fG kM n acc s) (acc++gs) (sg 59::l) false (d+gs.length) o e
 |_,0,_,_,_,_,_,_,_,_,_,hn=>by omega
 |[],n+1,acc,s,l,d,o,e,h,_,hd,_=>by
  rw[fG,iz (qv h (show (ByteArray.toList ⟨#[59]⟩==ByteArray.toList ⟨#[44]⟩)=false by decide +kernel))]
  exact .inr ⟨hd,s,by rw[List.append_nil],h⟩
 |x::r,n+1,acc,s,l,d,o,e,h,hx,hd,hn=>by
  rw[fG]
  have h0:St s ((4,⟨#[44]⟩)::((3,lit 39 x)::(mj r++sg 59::l))) false d o e:=h
  rcases dK h0 hd with ⟨q1,p,q2⟩|⟨q1,s1,q2,h1⟩<;>rw[q2]<;>rw[bz] at q1
  ·omega
  simp only
  rw[bz] at h1
  rcases qB h1 (hx x List.mem_cons_self) hd with ⟨r1,p,r2⟩|⟨r1,s2,r2,h2⟩<;>rw[r2]<;>rw[List.length_cons]
  ·exact .inl ⟨by omega,p,rfl⟩
  simp only
  have DS:=h0.len
  have yL:=h2.len
  simp only[List.length_cons] at DS
  have:=Aw r n (acc++[x]) s2 l (d+1) o e h2 (fun y hy=>hx y (zF _ hy)) r1 (by omega)
  rw[List.append_assoc,List.singleton_append] at this
  rw[show d+(r.length+1)=d+1+r.length by omega]
  exact this
noncomputable def sO:List ByteArray→List Wd
 |[]=>[]
 |x::r=>lE::(3,lit 39 x)::(mj r++[sg 59])
noncomputable def Da (a c:Int):List Wd:=lE::(oE a c++[sg 59])
theorem G3 {lo hi a c:Int}{mi:Bool}{rs:List (Int×Int)}{gs:List ByteArray}{s:aD}{l:List Wd}{d o:Nat}{e:Tk} (h:St s (Da a c++l) false d o e) (ha:lo≤a∧a≤c∧c≤hi) (hl:-2147483648≤lo∧hi≤2147483647) (hm:mi=true∨0≤lo) (hd:d≤4096):rp (je lo hi mi rs gs s) (rs++[(a,c)],gs) l false (d+1) o e:=by
 unfold je
 have h0:St s (lE::(oE a c++sg 59::l)) false d o e:=by
  have:Da a c++l=lE::(oE a c++sg 59::l):=by simp[Da]
  rw[←this];exact h
 rcases cN h0 hd with ⟨q1,p,q2⟩|⟨q1,s1,q2,h1⟩<;>rw[q2]<;>rw[bz] at q1
 ·omega
 simp only
 rw[bz] at h1
 obtain ⟨w,r,hw,_,KN,_⟩:=qo a
 have h2:=h1
 unfold oE at h2
 rw[hw] at h2
 rw[if_neg (by rw[h2.here.1];exact KN)]
 unfold gI
 rcases Qg (mi:=mi) h1 ha hl hm hd with ⟨r1,p,r2⟩|⟨r1,s2,r2,h3⟩<;>rw[r2]
 ·exact .inl ⟨r1,p,rfl⟩
 simp only
 rw[fG,iz (qv h3 (show (ByteArray.toList ⟨#[59]⟩==ByteArray.toList ⟨#[44]⟩)=false by decide +kernel))]
 simp only
 rcases cX h3 r1 with ⟨t1,p,t2⟩|⟨t1,s3,t2,h4⟩<;>rw[t2]
 ·exact .inl ⟨t1,p,rfl⟩
 ·exact .inr ⟨t1,s3,rfl,h4⟩
theorem Dc {lo hi:Int}{mi:Bool}{x:ByteArray}{r:List ByteArray}{rs:List (Int×Int)}{gs:List ByteArray}{s:aD}{l:List Wd}{d o:Nat}{e:Tk} (h:St s (sO (x::r)++l) false d o e) (hx:∀y ∈ x::r,aR y) (hd:d≤4096):rp (je lo hi mi rs gs s) (rs,gs++(x::r)) l false (d+(r.length+1)) o e:=by
 unfold je
 have h0:St s (lE::(3,lit 39 x)::(mj r++sg 59::l)) false d o e:=by
  have:sO (x::r)++l=lE::(3,lit 39 x)::(mj r++sg 59::l):=by simp[sO]
  rw[←this];exact h
 rcases cN h0 hd with ⟨q1,p,q2⟩|⟨q1,s1,q2,h1⟩<;>rw[q2]<;>rw[bz] at q1
 ·omega
 simp only
 rw[bz] at h1
 rw[if_pos h1.here.1]
 unfold gI
 rcases qB h1 (hx x List.mem_cons_self) hd with ⟨r1,p,r2⟩|⟨r1,s2,r2,h2⟩<;>rw[r2]
 ·exact .inl ⟨by omega,p,rfl⟩
 simp only
 rcases Aw r (s2.ts.length+1) (gs++[x]) s2 l (d+1) o e h2 (fun y hy=>hx y (zF _ hy)) r1 (by omega) with ⟨t1,p,t2⟩|⟨t1,s3,t2,h3⟩<;>rw[t2]
 ·exact .inl ⟨by omega,p,rfl⟩
 simp only
 rw[List.append_assoc,List.singleton_append]
 rcases cX h3 t1 with ⟨u1,p,u2⟩|⟨u1,s4,u2,h4⟩<;>rw[u2]
 ·exact .inl ⟨by rw[bz] at u1;omega,p,rfl⟩
 ·rw[bz] at h4
  exact .inr ⟨by omega,s4,rfl,by rw[show d+(r.length+1)=d+1+r.length by omega];exact h4⟩
theorem ND {s:aD}{b:Bool}{d o:Nat}{e:Tk} (h:St s [] b d o e):kM s=.error (51,e.spot):=by
 unfold kM
 exact xu h.begun
theorem Ax:∀(gs:List ByteArray) (u:List Wd) (n:Nat) (acc:List ByteArray) (s:aD) (d o:Nat) (e:Tk),Cs u (mj gs)→St s u false d o e→(∀x ∈ gs,aR x)→d≤4096→s.ts.length<n→Sr (fG kM n acc s) (d+gs.length) o e
 |_,_,0,_,_,_,_,_,_,_,_,_,hn=>by omega
 |[],u,n+1,acc,s,d,o,e,⟨r,hu⟩,h,_,hd,_=>by
  cases u with
  |cons w u=>cases hu
  |nil =>
   rw[fG,gH h (by decide)]
   exact .inr (.inr ⟨_,s,d,rfl,hd,h⟩)
 |x::g,u,n+1,acc,s,d,o,e,⟨r,hu⟩,h,hx,hd,hn=>by
  rw[fG]
  cases u with
  |nil =>
   rw[gH h (by decide)]
   exact .inr (.inr ⟨_,s,d,rfl,hd,h⟩)
  |cons w u =>
   have h1:=(List.cons.inj hu).1
   have h2:=(List.cons.inj hu).2
   subst h1
   have h0:St s ((4,⟨#[44]⟩)::u) false d o e:=h
   rcases dK h0 hd with ⟨q1,p,q2⟩|⟨q1,s1,q2,h3⟩<;>rw[q2]<;>rw[bz] at q1
   ·omega
   simp only
   rw[bz] at h3
   cases u with
   |nil =>
    rw[ND h3]
    exact .inr (.inl rfl)
   |cons w u =>
    have h4:=(List.cons.inj h2).1
    have h5:=(List.cons.inj h2).2
    subst h4
    rcases qB h3 (hx x List.mem_cons_self) hd with ⟨r1,p,r2⟩|⟨r1,s2,r2,h6⟩<;>rw[r2]<;>rw[List.length_cons]
    ·exact .inl ⟨by omega,p,rfl⟩
    simp only
    have DS:=h0.len
    have yL:=h6.len
    simp only[List.length_cons] at DS
    have:=Ax g u n (acc++[x]) s2 (d+1) o e ⟨r,h5⟩ h6 (fun y hy=>hx y (zF _ hy)) r1 (by omega)
    rw[show d+(g.length+1)=d+1+g.length by omega]
    exact this
theorem Bh {u v:List Wd}{a:Wd} (h:mw u (v++[a])):Cs u v:=by
 rcases h.app with h1|⟨u1,rfl,eo,h1⟩
 ·exact h1
 ·rcases h1.cons with rfl|⟨u2,rfl,h2⟩
  ·exact absurd rfl eo
  ·exact h2.nil.elim
theorem ML {lo hi a c:Int}{mi:Bool}{acc:List (Int×Int)}{u:List Wd}{s:aD}{d o:Nat}{e:Tk} (hu:Cs u (oE a c)) (h:St s u false d o e) (ha:lo≤a∧a≤c∧c≤hi) (hl:-2147483648≤lo∧hi≤2147483647) (hm:mi=true∨0≤lo) (hd:d≤4096):mX (gI (jd lo hi mi) acc s) (d+1) e:=by
 unfold gI
 rcases Qi hu h ha hl hm hd with ⟨q1,p,q2⟩|q2|⟨a',s1,d1,q2,q3,h1⟩<;>rw[q2]
 ·exact .inl ⟨q1,p,rfl⟩
 ·exact .inr rfl
 ·simp only
  rw[fG,gH h1 (by decide)]
  simp only
  rw[fU h1]
  exact .inr rfl
theorem sH {lo hi a c:Int}{mi:Bool}{rs:List (Int×Int)}{gs:List ByteArray}{u:List Wd}{s:aD}{d o:Nat}{e:Tk} (hu:mw u (oE a c++[sg 59])) (h:St s (lE::u) false d o e) (ha:lo≤a∧a≤c∧c≤hi) (hl:-2147483648≤lo∧hi≤2147483647) (hm:mi=true∨0≤lo) (hd:d≤4096):mX (je lo hi mi rs gs s) (d+1) e:=by
 unfold je
 rcases cN h hd with ⟨q1,p,q2⟩|⟨q1,s1,q2,h1⟩<;>rw[q2]<;>rw[bz] at q1
 ·omega
 simp only
 rw[bz] at h1
 have hk:¬s1.here.kind=3:=by
  cases u with
  |nil=>rw[h1.lK];decide
  |cons w v =>
   obtain ⟨w',r,hw,_,KN,_⟩:=qo a
   obtain ⟨y,t,ht⟩:=hu
   unfold oE at ht
   rw[hw] at ht
   rw[h1.here.1,←(List.cons.inj ht).1]
   exact KN
 rw[if_neg hk]
 rcases ML (acc:=rs) (Bh hu) h1 ha hl hm hd with ⟨r1,p,r2⟩|r2<;>rw[r2]
 ·exact .inl ⟨r1,p,rfl⟩
 ·exact .inr rfl
theorem ql {lo hi:Int}{mi:Bool}{x:ByteArray}{r:List ByteArray}{rs:List (Int×Int)}{gs:List ByteArray}{u:List Wd}{s:aD}{d o:Nat}{e:Tk} (hu:mw u ((3,lit 39 x)::(mj r++[sg 59]))) (h:St s (lE::u) false d o e) (hx:∀y ∈ x::r,aR y) (hd:d≤4096):mX (je lo hi mi rs gs s) (d+(r.length+1)) e:=by
 unfold je
 rcases cN h hd with ⟨q1,p,q2⟩|⟨q1,s1,q2,h1⟩<;>rw[q2]<;>rw[bz] at q1
 ·omega
 simp only
 rw[bz] at h1
 rcases hu.cons with rfl|⟨u1,rfl,jR⟩
 ·rw[if_neg (by rw[h1.lK];decide)]
  unfold gI
  rw[Qh h1]
  exact .inr rfl
 rw[if_pos h1.here.1]
 unfold gI
 rcases qB h1 (hx x List.mem_cons_self) hd with ⟨r1,p,r2⟩|⟨r1,s2,r2,h2⟩<;>rw[r2]
 ·exact .inl ⟨by omega,p,rfl⟩
 simp only
 rcases Ax r u1 (s2.ts.length+1) (gs++[x]) s2 (d+1) o e (Bh jR) h2 (fun y hy=>hx y (zF _ hy)) r1 (by omega) with ⟨t1,p,t2⟩|t2|⟨a,s3,d3,t2,t3,h3⟩<;>rw[t2]
 ·exact .inl ⟨by omega,p,rfl⟩
 ·exact .inr rfl
 ·simp only
  rw[fU h3]
  exact .inr rfl
noncomputable abbrev RD:=eR (bT B5 Kf)
theorem Vw {x:En}{K:Nat}{a c:Int} (ha:-2147483648≤a∧a≤c∧c≤2147483647):eU RD K (Da a c) 1 x { x with res:=x.res++[(a,c)] } :=
 dA (eZ _) (by decide +kernel) (fun u s d o e hu h hd _=>by
  rw[cC (f:=Og) x h (by unfold B5;rw[if_pos (by decide +kernel)])]
  unfold Og
  rcases sH (rs:=x.res) (gs:=x.gone) (mi:=true) (lo:=-2147483648) (hi:=2147483647) hu h ha (by omega) (.inl rfl) hd with ⟨q1,p,q2⟩|q2<;>rw[q2]
  ·exact .inl ⟨q1,p,rfl⟩
  ·exact .inr rfl) fun s l d o e h hd _=>by
  rw[cC (f:=Og) x h (by unfold B5;rw[if_pos (by decide +kernel)])]
  unfold Og
  rcases G3 (rs:=x.res) (gs:=x.gone) (mi:=true) h ha (by omega) (.inl rfl) hd with ⟨q1,p,q2⟩|⟨q1,s1,q2,h1⟩<;>rw[q2]
  ·exact .inl ⟨q1,p,rfl⟩
  ·exact .inr ⟨q1,s1,rfl,h1⟩
theorem RA {x:En}{K:Nat}{gs:List ByteArray} (eo:gs≠[]) (hx:∀y ∈ gs,aR y):eU RD K (sO gs) gs.length x { x with gone:=x.gone++gs }:=by
 cases gs with
 |nil=>exact absurd rfl eo
 |cons y r =>
  refine dA (eZ _) (by decide +kernel) (fun u s d o e hu h hd _=>?_) fun s l d o e h hd _=>?_
  ·rw[cC (f:=Og) x h (by unfold B5;rw[if_pos (by decide +kernel)])]
   unfold Og
   rcases ql (rs:=x.res) (gs:=x.gone) (lo:=-2147483648) (hi:=2147483647) (mi:=true) hu h hx hd with ⟨q1,p,q2⟩|q2<;>rw[q2]
   ·exact .inl ⟨q1,p,rfl⟩
   ·exact .inr rfl
  rw[cC (f:=Og) x h (by unfold B5;rw[if_pos (by decide +kernel)])]
  unfold Og
  rcases Dc (rs:=x.res) (gs:=x.gone) (lo:=-2147483648) (hi:=2147483647) (mi:=true) h hx hd with ⟨q1,p,q2⟩|⟨q1,s1,q2,h1⟩<;>rw[q2]
  ·exact .inl ⟨q1,p,rfl⟩
  ·exact .inr ⟨q1,s1,rfl,h1⟩
def sX (x:ByteArray):Prop:=aR x∧B5 x=none
theorem Vu {x:En}{K:Nat}{y:ByteArray}{n:Int} (hy:sX y) (hn:-2147483648≤n∧n≤2147483647):eU RD K (iY y n) 1 x { x with bL:=x.bL++[(y,n)] } :=
 dA (eZ _) (by rfl) (fun u s d o e hu h hd _=>by
  rw[lV x h (.inl (show (1:Int)≠4 by decide)) hy.2]
  unfold Kf
  have oJ:mw ((1,y)::u) (iY y n):=by
   obtain ⟨z,t,ht⟩:=hu
   exact ⟨z,t,by unfold iY;rw[ht];rfl⟩
  rcases I0 oJ h hy.1 hn hd with ⟨q1,p,q2⟩|q2<;>rw[q2]
  ·exact .inl ⟨q1,p,rfl⟩
  ·exact .inr rfl) fun s l d o e h hd _=>by
  rw[lV x h (.inl (show (1:Int)≠4 by decide)) hy.2]
  unfold Kf
  rcases IZ (l:=l) h hy.1 hn hd with ⟨q1,p,q2⟩|⟨q1,s1,q2,h1⟩<;>rw[q2]
  ·exact .inl ⟨q1,p,rfl⟩
  ·exact .inr ⟨q1,s1,rfl,h1⟩
theorem Iy (x:En) (K:Nat):eU RD K [sg 59] 0 x x:=dA (eZ _) (by decide +kernel) (fun _ _ _ _ _ hu=>hu.nil.elim) fun s l d o e h hd _=>vw x h hd
theorem Vx {x:En}{s:aD}{b:Bool}{d o:Nat}{e:Tk} (h:St s [] b d o e):bT B5 Kf x s=.error (51,e.spot):=by
 rw[wP h]
 unfold Kf
 rw[zz h]
def Xk (x:En) (ws:List Wd) (c:Nat):Prop:=(∃r,ws=(1,⟨#[101,110,117,109]⟩)::r)∧(∀s l d o e,St s (ws++l) false d o e→d≤4096→o≤32→rp (iH s) x l false (d+c) o e)∧∀u s d o e,mw ((1,⟨#[101,110,117,109]⟩)::u) ws→St s ((1,⟨#[101,110,117,109]⟩)::u) false d o e→d≤4096→o≤32→mX (iH s) (d+c) e
theorem RB {x:En}{ws:List Wd}{c:Nat} (hE:eU RD 0 ws c ⟨x.name,[],[],[]⟩ x) (hx:aR x.name) (hv:x.bL≠[]):Xk x ((1,⟨#[101,110,117,109]⟩)::(1,x.name)::sg 123::(ws++[sg 125])) (1+c):=by
 refine ⟨⟨_,rfl⟩,fun s l d o e h hd ho=>?_,fun u s d o e hu h hd ho=>?_⟩
 rotate_left
 ·unfold iH
  rcases cN h.begun hd with ⟨q1,p,q2⟩|⟨q1,s1,q2,h1⟩<;>rw[q2]<;>rw[lJ] at q1
  ·exact .inl ⟨by omega,p,rfl⟩
  simp only
  rw[lJ] at h1
  rcases hu.cons with q|⟨u0,q,Yf⟩
  ·cases q
  obtain rfl:=(List.cons.inj q).2
  rcases Yf.cons with rfl|⟨u1,rfl,jR⟩
  ·rw[jj h1]
   exact .inr rfl
  rcases eG h1 hx q1 with ⟨r1,p,r2⟩|⟨r1,s2,r2,h2⟩<;>rw[r2]<;>rw[bz] at r1
  ·omega
  simp only
  rw[bz] at h2
  rcases yu hE (fun y s b d h=>Vx h) jR h2 q1 ho with ⟨t1,p,t2⟩|t2<;>rw[t2]
  ·exact .inl ⟨by omega,p,rfl⟩
  ·exact .inr rfl
 have h0:St s ((1,⟨#[101,110,117,109]⟩)::(1,x.name)::sg 123::(ws++sg 125::l)) false d o e:=by
  have:(1,⟨#[101,110,117,109]⟩)::(1,x.name)::sg 123::(ws++[sg 125])++l=(1,⟨#[101,110,117,109]⟩)::(1,x.name)::sg 123::(ws++sg 125::l):=by simp
  rw[←this];exact h
 unfold iH
 rcases cN h0.begun hd with ⟨q1,p,q2⟩|⟨q1,s1,q2,h1⟩<;>rw[q2]<;>rw[lJ] at q1
 ·exact .inl ⟨by omega,p,rfl⟩
 simp only
 rw[lJ] at h1
 rcases eG h1 hx q1 with ⟨r1,p,r2⟩|⟨r1,s2,r2,h2⟩<;>rw[r2]<;>rw[bz] at r1
 ·omega
 simp only
 rw[bz] at h2
 rcases yt hE h2 q1 ho with ⟨t1,p,t2⟩|⟨t1,s3,t2,h3⟩<;>rw[t2]
 ·exact .inl ⟨by omega,p,rfl⟩
 simp only
 rw[if_neg (fun q=>hv (List.eq_nil_of_length_eq_zero q))]
 rcases cN h3 t1 with ⟨u1,p,u2⟩|⟨u1,s4,u2,h4⟩<;>rw[u2]<;>rw[bz] at u1
 ·omega
 ·rw[bz] at h4
  exact .inr ⟨by omega,s4,rfl,by rw[show d+(1+c)=d+1+c by omega];exact h4⟩
end Go.Proofs.YtmlphohdcejniaaGreatDoor

import Derived.Test.YtichhjfjcinjgaaGreatDoorYDh
namespace Go.Proofs.YtichhjfjcinjgaaGreatDoor
open Go.RowKit
def FC (y:Value):Prop:=∃s:ByteArray,y=.string s∧s.size≤8
def Ni (y:Value):Prop:=∃x:Int,y=.int .i64 x
def uM (t j:Nat) (y:Value):Prop :=
 (t=9∧FC y)∨(t=111∧Ni y)∨(t=74∧((j % 2=0∧FC y)∨(j % 2=1∧Ni y))) ∨
 (t=42∧(((j % 6=0∨j % 6=4∨j % 6=5)∧Ni y)∨((j % 6=1∨j % 6=2∨j % 6=3)∧FC y)))∨(t=46∧j % 7=0∧FC y)∨(t=67∧j % 4=0∧FC y)
structure Sp (B:Nat) (w w':World):Prop where
 bW:Below B w w'
 dq:∀g cs t,B≤g→w.heap[g]?=some (.cells cs t (0,0))→∃iN:Array Value,w'.heap[g]?=some (.cells iN t (0,0))∧iN.size=cs.size∧∀j x,cs[j]?=some x→iN[j]?=some x∨∃y,iN[j]?=some y∧uM t j y
theorem Sp.refl (B:Nat) (w:World):Sp B w w:=⟨zE _ _,fun _ cs _ _ h=>⟨cs,h,rfl,fun _ _ hx=>.inl hx⟩⟩
theorem Sp.trans {B:Nat}{u v w:World} (h:Sp B u v) (k:Sp B v w):Sp B u w:=by
 refine ⟨h.bW.trans k.bW,fun g cs t hg hh=>?_⟩
 obtain ⟨c1,a1,a2,a3⟩:=h.dq g cs t hg hh
 obtain ⟨c2,b1,b2,b3⟩:=k.dq g c1 t hg a1
 refine ⟨c2,b1,b2.trans a2,fun j x hx=>?_⟩
 rcases a3 j x hx with e|⟨y,e,hy⟩
 ·exact b3 j x e
 ·rcases b3 j y e with e2|e2
  ·exact .inr ⟨y,e2,hy⟩
  ·exact .inr e2
theorem Sp.below {B:Nat}{w w':World} (hb:Below w.heap.size w w') (hB:B≤w.heap.size):Sp B w w' :=
 ⟨hb.mono hB,fun g cs _ _ h=>⟨cs,(hb.block g (zA h).1).trans h,rfl,fun _ _ hx=>.inl hx⟩⟩
theorem Sp.alloc {B:Nat}{w w':World} (h:Sp B w w') (hB:B≤w.heap.size) (o:Obj):Sp B w (w'.alloc o) :=
 h.trans (Sp.below ((zE _ _).alloc (zD _) _) (Nat.le_trans hB h.bW.size))
theorem Sp.set {B:Nat}{w:World}{g j:Nat}{cs:Array Value}{t:TypeId} (hh:w.heap[g]?=some (.cells cs t (0,0))) (hg:B≤g) {y:Value} (hy:uM t j y):Sp B w (w.setCell ⟨g,j,none⟩ y):=by
 obtain ⟨a1,a2⟩:=bh (j:=j) hh y
 have aM:=(zA hh).1
 refine ⟨⟨a2.os,a2.tape,a2.output,a2.size,fun k hk=>a2.block k (by omega) (by simp;omega)⟩,fun g' iN t' kJ j4=>?_⟩
 by_cases he:g'=g
 ·subst he
  rw[hh] at j4
  simp at j4
  obtain ⟨rfl,rfl⟩:=j4
  refine ⟨_,a1,by simp,fun i x hx=>?_⟩
  have lP:cs.toList[i]?=some x:=by rw[Array.getElem?_toList];exact hx
  by_cases Zr:j=i
  ·subst Zr
   refine .inr ⟨y,?_,hy⟩
   rw[List.getElem?_toArray,List.getElem?_set_self (zB lP).1]
  ·refine .inl ?_
   rw[List.getElem?_toArray,List.getElem?_set_ne Zr]
   exact lP
 ·exact ⟨iN,(a2.block _ (zA j4).1 (by simpa using fun e=>he e)).trans j4,rfl,fun _ _ hx=>.inl hx⟩
def Pw (t:Nat):Nat→List Value→List Value→Prop
 |_,[],[]=>True
 |o,x::r,y::r'=>(y=x∨uM t o y)∧Pw t (o+1) r r'
 |_,_,_=>False
theorem Pw.len {t:Nat}:∀{o:Nat}{a b:List Value},Pw t o a b→b.length=a.length
 |_,[],[],_=>rfl
 |_,_::_,_::_,h=>by rw[List.length_cons,List.length_cons,h.2.len]
 |_,[],_::_,h=>h.elim
 |_,_::_,[],h=>h.elim
theorem Pw.app {t:Nat}:∀{o:Nat}{a b c:List Value},Pw t o (a++b) c→∃c1 c2,c=c1++c2∧Pw t o a c1∧Pw t (o+a.length) b c2
 |o,[],b,c,h=>⟨[],c,rfl,trivial,h⟩
 |o,x::a,b,[],h=>h.elim
 |o,x::a,b,y::c,h=>by
  obtain ⟨c1,c2,rfl,h1,h2⟩:=Pw.app h.2
  exact ⟨y::c1,c2,rfl,⟨h.1,h1⟩,by rw[List.length_cons,show o+(a.length+1)=o+1+a.length by omega];exact h2⟩
theorem LR {t:Nat}:∀{a b:List Value}{o:Nat},b.length=a.length→(∀j x,a[j]?=some x→b[j]?=some x∨∃y,b[j]?=some y∧uM t (o+j) y)→Pw t o a b
 |[],[],_,_,_=>trivial
 |[],_::_,_,h,_=>by simp at h
 |_::_,[],_,h,_=>by simp at h
 |x::a,y::b,o,h,k=>by
  refine ⟨?_,LR (by simpa using h) (fun j z hz=>?_)⟩
  ·rcases k 0 x rfl with e|⟨q,e,hq⟩
   ·exact .inl (by simpa using e)
   ·refine .inr ?_
    obtain rfl:y=q:=by simpa using e
    exact hq
  ·have:=k (j+1) z (by simpa using hz)
   rw[show o+(j+1)=o+1+j by omega] at this
   simpa using this
theorem Pw.cons {t o:Nat}{x:Value}{r c:List Value} (h:Pw t o (x::r) c):∃y r',c=y::r'∧(y=x∨uM t o y)∧Pw t (o+1) r r':=by
 cases c with
 |nil=>exact h.elim
 |cons y r'=>exact ⟨y,r',rfl,h.1,h.2⟩
theorem Pw.nil {t o:Nat}{c:List Value} (h:Pw t o [] c):c=[]:=by
 cases c with
 |nil=>rfl
 |cons y r'=>exact h.elim
theorem gO.sp {R:Nat→Prop}{w w':World}{B e size n:Nat}{v:Value}{xs:List Value} (h:gO R w e size v n xs) (hR:∀g,R g→B≤g) (hs:Sp B w w'):∃Yp,gO R w' e size v n Yp∧Pw e 0 xs Yp:=by
 obtain ⟨h1,h0,⟨rfl,rfl⟩|⟨g,cap,cur,rfl,h2,h3,h4,h5,h6,h7⟩⟩:=h
 ·obtain rfl:xs=[]:=List.eq_nil_of_length_eq_zero (by omega)
  exact ⟨[],⟨by simp,h0,.inl ⟨rfl,rfl⟩⟩,trivial⟩
 ·obtain ⟨c1,a1,a2,a3⟩:=hs.dq g cur e (hR g h2) h3
  have hl:(c1.toList.take (n*size)).length=xs.length:=by rw[←h7,List.length_take,List.length_take,Array.length_toList,Array.length_toList,a2]
  refine ⟨c1.toList.take (n*size),⟨hl.trans h1,h0,.inr ⟨g,cap,c1,rfl,h2,a1,h4,h5,a2.trans h6,rfl⟩⟩,LR hl (fun j x hx=>?_)⟩
  rw[←h7,List.getElem?_take] at hx
  rw[List.getElem?_take,Nat.zero_add]
  split at hx
  ·rename_i hj
   rw[if_pos hj,Array.getElem?_toList]
   exact a3 j x (by rw[←Array.getElem?_toList];exact hx)
  ·cases hx
theorem oa {α:Type}{f:α→List Value}{k:Nat}{t:Nat}{Q:α→Prop} (hf:∀x,(f x).length=k) (hs:∀a c o,o % k=0→Pw t o (f a) c→∃a',c=f a'∧(Q a→Q a')) :
  ∀(l:List α) (o:Nat) (xs:List Value),o % k=0→Pw t o (l.flatMap f) xs→∃l':List α,xs=l'.flatMap f∧l'.length=l.length∧((∀a ∈ l,Q a)→∀a ∈ l',Q a)
 |[],o,[],_,_=>⟨[],rfl,rfl,fun _ a h=>by simp at h⟩
 |[],o,_::_,_,h=>h.elim
 |a::l,o,xs,ho,h=>by
  rw[List.flatMap_cons] at h
  obtain ⟨c1,c2,rfl,h1,h2⟩:=h.app
  obtain ⟨a',rfl,ha⟩:=hs a c1 o ho h1
  rw[hf] at h2
  obtain ⟨l',rfl,h3,h4⟩:=oa hf hs l (o+k) c2 (by rw[Nat.add_mod_right];exact ho) h2
  refine ⟨a'::l',by rw[List.flatMap_cons],by rw[List.length_cons,List.length_cons,h3],fun hq x hx=>?_⟩
  rcases List.mem_cons.1 hx with rfl|hx
  ·exact ha (hq a (List.mem_cons_self ..))
  ·exact h4 (fun b hb=>hq b (zF _ hb)) x hx
theorem J6 {o:Nat}{y:Value} (h:uM 9 o y):FC y:=by
 rcases h with h|h|h|h|h|h
 ·exact h.2
 all_goals exact absurd h.1 (by decide)
theorem Gf {o:Nat}{y:Value} (h:uM 111 o y):Ni y:=by
 rcases h with h|h|h|h|h|h
 ·exact absurd h.1 (by decide)
 ·exact h.2
 all_goals exact absurd h.1 (by decide)
theorem Gg {o:Nat}{y:Value} (h:uM 74 o y):(o % 2=0∧FC y)∨(o % 2=1∧Ni y):=by
 rcases h with h|h|h|h|h|h
 ·exact absurd h.1 (by decide)
 ·exact absurd h.1 (by decide)
 ·exact h.2
 all_goals exact absurd h.1 (by decide)
theorem py {o:Nat}{y:Value} (h:uM 42 o y):((o % 6=0∨o % 6=4∨o % 6=5)∧Ni y)∨((o % 6=1∨o % 6=2∨o % 6=3)∧FC y):=by
 rcases h with h|h|h|h|h|h
 ·exact absurd h.1 (by decide)
 ·exact absurd h.1 (by decide)
 ·exact absurd h.1 (by decide)
 ·exact h.2
 all_goals exact absurd h.1 (by decide)
theorem gz {o:Nat}{y:Value} (h:uM 46 o y):o % 7=0∧FC y:=by
 rcases h with h|h|h|h|h|h
 ·exact absurd h.1 (by decide)
 ·exact absurd h.1 (by decide)
 ·exact absurd h.1 (by decide)
 ·exact absurd h.1 (by decide)
 ·exact h.2
 ·exact absurd h.1 (by decide)
theorem fO {o:Nat}{y:Value} (h:uM 67 o y):o % 4=0∧FC y:=by
 rcases h with h|h|h|h|h|h
 ·exact absurd h.1 (by decide)
 ·exact absurd h.1 (by decide)
 ·exact absurd h.1 (by decide)
 ·exact absurd h.1 (by decide)
 ·exact absurd h.1 (by decide)
 ·exact h.2
theorem nA {y:Value}{s:ByteArray}{p:Prop} (h:y=.string s∨p) (hp:p→FC y):∃s':ByteArray,y=.string s'∧(s'=s∨s'.size≤8):=by
 rcases h with rfl|h
 ·exact ⟨s,rfl,.inl rfl⟩
 ·obtain ⟨s',rfl,h8⟩:=hp h
  exact ⟨s',rfl,.inr h8⟩
theorem pE {y:Value}{x:Int}{p:Prop} (h:y=.int .i64 x∨p) (hp:p→Ni y):∃x':Int,y=.int .i64 x':=by
 rcases h with rfl|h
 ·exact ⟨x,rfl⟩
 ·exact hp h
theorem xg (l:List ByteArray):bZ l=l.flatMap (fun s=>[Value.string s]):=by
 induction l with
 |nil=>rfl
 |cons a l ih=>rw[List.flatMap_cons,←ih];rfl
theorem gO.Tg {R:Nat→Prop}{w w':World}{B:Nat}{v:Value}{l:List ByteArray} (h:gO R w 9 1 v l.length (bZ l)) (hR:∀g,R g→B≤g) (hs:Sp B w w'):∃l',gO R w' 9 1 v l'.length (bZ l')∧l'.length=l.length:=by
 obtain ⟨xs,h1,h2⟩:=h.sp hR hs
 rw[xg] at h2
 obtain ⟨l',rfl,e,-⟩:=oa (f:=fun s:ByteArray=>[Value.string s]) (k:=1) (Q:=fun _=>True) (fun _=>rfl) (fun a c o ho hp=>by
  obtain ⟨y0,r0,rfl,p0,h0⟩:=hp.cons
  obtain rfl:=h0.nil
  obtain ⟨s',rfl,-⟩:=nA p0 J6
  exact ⟨s',rfl,fun h=>h⟩) l 0 xs rfl h2
 rw[←xg,←e] at h1
 exact ⟨l',h1,e⟩
theorem gO.Yy {R:Nat→Prop}{w w':World}{B:Nat}{v:Value}{l:List (Int×Int)} (h:gO R w 111 2 v l.length (kQ l)) (hR:∀g,R g→B≤g) (hs:Sp B w w'):∃l',gO R w' 111 2 v l'.length (kQ l')∧l'.length=l.length:=by
 obtain ⟨xs,h1,h2⟩:=h.sp hR hs
 unfold kQ at h2
 obtain ⟨l',rfl,e,-⟩:=oa (k:=2) (Q:=fun _=>True) (fun _=>rfl) (fun a c o ho hp=>by
  obtain ⟨y0,r0,rfl,p0,h0⟩:=hp.cons
  obtain ⟨y1,r1,rfl,p1,h1⟩:=h0.cons
  obtain rfl:=h1.nil
  obtain ⟨p,rfl⟩:=pE p0 Gf
  obtain ⟨q,rfl⟩:=pE p1 Gf
  exact ⟨(p,q),rfl,fun h=>h⟩) l 0 xs rfl h2
 rw[←e] at h1
 exact ⟨l',h1,e⟩
theorem gO.spV {R:Nat→Prop}{w w':World}{B:Nat}{v:Value}{l:List (ByteArray×Int)} (h:gO R w 74 2 v l.length (qP l)) (hR:∀g,R g→B≤g) (hs:Sp B w w'):∃l',gO R w' 74 2 v l'.length (qP l')∧l'.length=l.length:=by
 obtain ⟨xs,h1,h2⟩:=h.sp hR hs
 unfold qP at h2
 obtain ⟨l',rfl,e,-⟩:=oa (k:=2) (Q:=fun _=>True) (fun _=>rfl) (fun a c o ho hp=>by
  obtain ⟨y0,r0,rfl,p0,h0⟩:=hp.cons
  obtain ⟨y1,r1,rfl,p1,h1⟩:=h0.cons
  obtain rfl:=h1.nil
  obtain ⟨p,rfl,-⟩:=nA p0 (fun h=>by rcases Gg h with h|h;exact h.2;exact absurd h.1 (by omega))
  obtain ⟨q,rfl⟩:=pE p1 (fun h=>by rcases Gg h with h|h;exact absurd h.1 (by omega);exact h.2)
  exact ⟨(p,q),rfl,fun h=>h⟩) l 0 xs rfl h2
 rw[←e] at h1
 exact ⟨l',h1,e⟩
theorem gO.spF {R:Nat→Prop}{w w':World}{B:Nat}{v:Value}{l:List Fd} (h:gO R w 42 6 v l.length (fw l)) (hR:∀g,R g→B≤g) (hs:Sp B w w'):∃l',gO R w' 42 6 v l'.length (fw l')∧l'.length=l.length∧((∀d ∈ l,d.ty.size≤281474976710656)→∀d ∈ l',d.ty.size≤281474976710656):=by
 obtain ⟨xs,h1,h2⟩:=h.sp hR hs
 unfold fw at h2
 obtain ⟨l',rfl,e,hq⟩:=oa (k:=6) (Q:=fun d:Fd=>d.ty.size≤281474976710656) (fun _=>rfl) (fun a c o ho hp=>by
  obtain ⟨y0,r0,rfl,p0,h0⟩:=hp.cons
  obtain ⟨y1,r1,rfl,p1,h1⟩:=h0.cons
  obtain ⟨y2,r2,rfl,p2,h2⟩:=h1.cons
  obtain ⟨y3,r3,rfl,p3,h3⟩:=h2.cons
  obtain ⟨y4,r4,rfl,p4,h4⟩:=h3.cons
  obtain ⟨y5,r5,rfl,p5,h5⟩:=h4.cons
  obtain rfl:=h5.nil
  obtain ⟨q0,rfl⟩:=pE p0 (fun h=>by rcases py h with h|h;exact h.2;exact absurd h.1 (by omega))
  obtain ⟨q1,rfl,-⟩:=nA p1 (fun h=>by rcases py h with h|h;exact absurd h.1 (by omega);exact h.2)
  obtain ⟨q2,rfl,r2⟩:=nA p2 (fun h=>by rcases py h with h|h;exact absurd h.1 (by omega);exact h.2)
  obtain ⟨q3,rfl,-⟩:=nA p3 (fun h=>by rcases py h with h|h;exact absurd h.1 (by omega);exact h.2)
  obtain ⟨q4,rfl⟩:=pE p4 (fun h=>by rcases py h with h|h;exact h.2;exact absurd h.1 (by omega))
  obtain ⟨q5,rfl⟩:=pE p5 (fun h=>by rcases py h with h|h;exact h.2;exact absurd h.1 (by omega))
  refine ⟨⟨q0,q1,q2,q3,q4,q5⟩,rfl,fun h=>?_⟩
  show q2.size≤_
  rcases r2 with rfl|r2
  ·exact h
  ·omega) l 0 xs rfl h2
 rw[←e] at h1
 exact ⟨l',h1,e,hq⟩
inductive Fh:List En→List En→Prop
 |nil:Fh [] []
 |cons {e d:En} {l k:List En} (h1:d.aQ.length=e.aQ.length) (h2:d.res.length=e.res.length) (h3:d.gone.length=e.gone.length) (ht:Fh l k):Fh (e::l) (d::k)
theorem Fh.len {l k:List En} (h:Fh l k):k.length=l.length:=by
 induction h with
 |nil=>rfl
 |cons _ _ _ _ ih=>rw[List.length_cons,List.length_cons,ih]
theorem Fh.sum {l k:List En} (h:Fh l k):bE kl k=bE kl l:=by
 induction h with
 |nil=>rfl
 |cons h1 h2 h3 _ ih=>simp only[bE,kl,h1,h2,h3,ih]
theorem Fh.re {l k:List En} (h:Fh l k):(∀e ∈ l,JG e)→∀e ∈ k,JG e:=by
 induction h with
 |nil=>intro h;exact h
 |cons h1 h2 h3 _ ih =>
  intro h x hx
  rcases List.mem_cons.1 hx with rfl|hx
  ·have:=h _ (List.mem_cons_self ..)
   unfold JG at this ⊢
   rw[h1,h2,h3];exact this
  ·exact ih (fun y hy=>h y (zF _ hy)) x hx
inductive AP:List Ms→List Ms→Prop
 |nil:AP [] []
 |cons {nm nm1:ByteArray} {fs WE:List Fd} {os YF:List ByteArray} {ms YI:List Ms} {es ZW:List En} {rs YB:List (Int×Int)} {gs ZT:List ByteArray} {l l1:List Ms}
   (hf:WE.length=fs.length) (Tv:(∀d ∈ fs,d.ty.size≤281474976710656)→∀d ∈ WE,d.ty.size≤281474976710656) (ho:YF.length=os.length) (hm:AP ms YI) (he:Fh es ZW) (hr:YB.length=rs.length) (hg:ZT.length=gs.length) (ht:AP l l1):AP (.mk nm fs os ms es rs gs::l) (.mk nm1 WE YF YI ZW YB ZT::l1)
theorem AP.len {l k:List Ms} (h:AP l k):k.length=l.length:=by
 induction h with
 |nil=>rfl
 |cons _ _ _ _ _ _ _ _ _ ih=>rw[List.length_cons,List.length_cons,ih]
theorem AP.dp {l k:List Ms} (h:AP l k):∀f,(∀m ∈ l,tl f m)→∀m ∈ k,tl f m:=by
 induction h with
 |nil=>intro f h;exact h
 |cons _ _ _ _ _ _ _ _ B7 Ag =>
  intro f h x hx
  rcases List.mem_cons.1 hx with rfl|hx
  ·have:=h _ (List.mem_cons_self ..)
   cases f with
   |zero=>exact this
   |succ f=>exact B7 f this
  ·exact Ag f (fun y hy=>h y (zF _ hy)) x hx
theorem AP.sz {l k:List Ms} (h:AP l k):∀f,(∀m ∈ l,vM f m)→∀m ∈ k,vM f m:=by
 induction h with
 |nil=>intro f h;exact h
 |cons _ Tv _ _ _ _ _ _ B7 Ag =>
  intro f h x hx
  rcases List.mem_cons.1 hx with rfl|hx
  ·have:=h _ (List.mem_cons_self ..)
   cases f with
   |zero=>trivial
   |succ f=>exact ⟨Tv this.1,B7 f this.2⟩
  ·exact Ag f (fun y hy=>h y (zF _ hy)) x hx
theorem AP.re {l k:List Ms} (h:AP l k):∀f,(∀m ∈ l,DS f m)→∀m ∈ k,DS f m:=by
 induction h with
 |nil=>intro f h;exact h
 |cons hf Tv ho hm he hr hg _ B7 Ag =>
  intro f h x hx
  rcases List.mem_cons.1 hx with rfl|hx
  ·have:=h _ (List.mem_cons_self ..)
   have hs:=this.s
   obtain ⟨s1,s2,s3,s4,s5,s6,s7⟩:=hs
   have key:P4 _ _ _ _ _ _:=⟨by rw[hf];exact s1,by rw[ho];exact s2,by rw[hm.len];exact s3,by rw[he.len];exact s4,he.re s5,by rw[hr];exact s6,by rw[hg];exact s7⟩
   cases f with
   |zero=>exact key
   |succ f=>exact ⟨key,B7 f this.2⟩
  ·exact Ag f (fun y hy=>h y (zF _ hy)) x hx
theorem AP.sum {l k:List Ms} (h:AP l k):∀f,bE (cQ f) k=bE (cQ f) l:=by
 induction h with
 |nil=>intro f;rfl
 |cons hf Tv ho hm he hr hg _ B7 Ag =>
  intro f
  simp only[bE,Ag]
  cases f with
  |zero=>rfl
  |succ f=>simp only[cQ,hf,ho,hr,hg,he.sum,B7]
theorem pn.sp {R:Nat→Prop}{w w':World}{B:Nat}{cs:List Value}{l:List En} (h:pn R w cs l) (hR:∀g,R g→B≤g) (hs:Sp B w w'):∀o xs,o % 4=0→Pw 67 o cs xs→∃k,pn R w' xs k∧Fh l k:=by
 induction h with
 |nil =>
  intro o xs ho hp
  obtain rfl:=hp.nil
  exact ⟨[],.nil,.nil⟩
 |cons hv hr hg _ ih =>
  intro o xs ho hp
  obtain ⟨y0,r0,rfl,p0,h0⟩:=hp.cons
  obtain ⟨y1,r1,rfl,p1,h1⟩:=h0.cons
  obtain ⟨y2,r2,rfl,p2,h2⟩:=h1.cons
  obtain ⟨y3,r3,rfl,p3,h3⟩:=h2.cons
  obtain ⟨q0,rfl,-⟩:=nA p0 (fun h=>(fO h).2)
  obtain rfl:=p1.resolve_right (fun h=>by have:=(fO h).1;omega)
  obtain rfl:=p2.resolve_right (fun h=>by have:=(fO h).1;omega)
  obtain rfl:=p3.resolve_right (fun h=>by have:=(fO h).1;omega)
  obtain ⟨k,k1,k2⟩:=ih (o+1+1+1+1) r3 (by omega) h3
  obtain ⟨l1,a1,b1⟩:=hv.spV hR hs
  obtain ⟨l2,a2,b2⟩:=hr.Yy hR hs
  obtain ⟨l3,a3,b3⟩:=hg.Tg hR hs
  exact ⟨⟨q0,l1,l2,l3⟩::k,pn.cons (e:=⟨q0,l1,l2,l3⟩) a1 a2 a3 k1,.cons b1 b2 b3 k2⟩
theorem pf.sp {R:Nat→Prop}{w w':World}{B:Nat}{cs:List Value}{l:List Ms} (h:pf R w cs l) (hR:∀g,R g→B≤g) (hs:Sp B w w'):∀o xs,o % 7=0→Pw 46 o cs xs→∃k,pf R w' xs k∧AP l k:=by
 induction h with
 |nil =>
  intro o xs ho hp
  obtain rfl:=hp.nil
  exact ⟨[],.nil,.nil⟩
 |cons hf hoo hm et he fv hr hg _ B7 ih =>
  intro o xs ho hp
  obtain ⟨y0,r0,rfl,p0,h0⟩:=hp.cons
  obtain ⟨y1,r1,rfl,p1,h1⟩:=h0.cons
  obtain ⟨y2,r2,rfl,p2,h2⟩:=h1.cons
  obtain ⟨y3,r3,rfl,p3,h3⟩:=h2.cons
  obtain ⟨y4,r4,rfl,p4,h4⟩:=h3.cons
  obtain ⟨y5,r5,rfl,p5,h5⟩:=h4.cons
  obtain ⟨y6,r6,rfl,p6,h6⟩:=h5.cons
  obtain ⟨q0,rfl,-⟩:=nA p0 (fun h=>(gz h).2)
  obtain rfl:=p1.resolve_right (fun h=>by have:=(gz h).1;omega)
  obtain rfl:=p2.resolve_right (fun h=>by have:=(gz h).1;omega)
  obtain rfl:=p3.resolve_right (fun h=>by have:=(gz h).1;omega)
  obtain rfl:=p4.resolve_right (fun h=>by have:=(gz h).1;omega)
  obtain rfl:=p5.resolve_right (fun h=>by have:=(gz h).1;omega)
  obtain rfl:=p6.resolve_right (fun h=>by have:=(gz h).1;omega)
  obtain ⟨k,k1,k2⟩:=ih (o+1+1+1+1+1+1+1) r6 (by omega) h6
  obtain ⟨l1,a1,b1,c1⟩:=hf.spF hR hs
  obtain ⟨l2,a2,b2⟩:=hoo.Tg hR hs
  obtain ⟨x3,a3,b3⟩:=hm.sp hR hs
  obtain ⟨l3,d3,e3⟩:=B7 0 x3 rfl b3
  rw[←e3.len] at a3
  obtain ⟨x4,a4,b4⟩:=he.sp hR hs
  obtain ⟨l4,d4,e4⟩:=fv.sp hR hs 0 x4 rfl b4
  rw[←e4.len] at a4
  obtain ⟨l5,a5,b5⟩:=hr.Yy hR hs
  obtain ⟨l6,a6,b6⟩:=hg.Tg hR hs
  exact ⟨_::k,.cons a1 a2 a3 d3 a4 d4 a5 a6 k1,.cons b1 c1 b2 e3 e4 b5 b6 k2⟩
theorem Js.sp {R:Nat→Prop}{w w':World}{B:Nat}{v vi vm ve:Value}{F:Fl}{cm ce:List Value} (h:Js R w v F vi vm ve cm ce) (hR:∀g,R g→B≤g) (hs:Sp B w w') :
  ∃(G:Fl) (xm xe:List Value),Js R w' v G vi vm ve xm xe∧G.jL=F.jL∧G.cV.length=F.cV.length∧AP F.ms G.ms∧Fh F.es G.es:=by
 obtain ⟨pk,is,ms,es⟩:=F
 obtain ⟨h1,hi,hm,et,he,fv⟩:=h
 obtain ⟨l2,a2,b2⟩:=hi.Tg hR hs
 obtain ⟨x3,a3,b3⟩:=hm.sp hR hs
 obtain ⟨l3,d3,e3⟩:=et.sp hR hs 0 x3 rfl b3
 rw[←e3.len] at a3
 obtain ⟨x4,a4,b4⟩:=he.sp hR hs
 obtain ⟨l4,d4,e4⟩:=fv.sp hR hs 0 x4 rfl b4
 rw[←e4.len] at a4
 exact ⟨⟨pk,l2,l3,l4⟩,x3,x4,⟨h1,a2,a3,d3,a4,d4⟩,rfl,b2,e3,e4⟩
theorem uG:∀(f:Nat) (l:List Ms),(∀m ∈ l,tl f m)→gK f l=l
 |0,[],_=>rfl
 |0,m::_,h=>(h m (List.mem_cons_self ..)).elim
 |f+1,l,h=>by
  show l.map (lM f)=l
  have:∀m ∈ l,lM f m=m:=fun m hm=>by
   obtain ⟨nm,fs,os,ms,es,rs,gs⟩:=m
   rw[yd,uG f ms (h _ hm)]
  rw[List.map_congr_left this,List.map_id'']
  intro x;rfl
theorem IE:∀(f:Nat) (l:List Ms),∀m ∈ gK f l,tl f m
 |0,_,m,h=>by simp[gK] at h
 |f+1,l,m,h=>by
  obtain ⟨x,hx,rfl⟩:=List.mem_map.1 h
  obtain ⟨nm,fs,os,ms,es,rs,gs⟩:=x
  rw[yd]
  exact IE f ms
end Go.Proofs.YtichhjfjcinjgaaGreatDoor

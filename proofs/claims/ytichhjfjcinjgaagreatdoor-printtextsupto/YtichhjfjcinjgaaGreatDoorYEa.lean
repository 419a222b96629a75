import Derived.Test.YtichhjfjcinjgaaGreatDoorYDh
namespace Go.Proofs.YtichhjfjcinjgaaGreatDoor
open Go.RowKit
def F9 (y:Value):Prop:=∃s:ByteArray,y=.string s∧s.size≤8
def NJ (y:Value):Prop:=∃x:Int,y=.int .i64 x
def vx (t j:Nat) (y:Value):Prop :=
 (t=9∧F9 y)∨(t=111∧NJ y)∨(t=74∧((j % 2=0∧F9 y)∨(j % 2=1∧NJ y))) ∨
 (t=42∧(((j % 6=0∨j % 6=4∨j % 6=5)∧NJ y)∨((j % 6=1∨j % 6=2∨j % 6=3)∧F9 y)))∨(t=46∧j % 7=0∧F9 y)∨(t=67∧j % 4=0∧F9 y)
structure Sp (B:Nat) (w w':World):Prop where
 bU:Below B w w'
 dt:∀g cs t,B≤g→w.heap[g]?=some (.cells cs t (0,0))→∃iU:Array Value,w'.heap[g]?=some (.cells iU t (0,0))∧iU.size=cs.size∧∀j x,cs[j]?=some x→iU[j]?=some x∨∃y,iU[j]?=some y∧vx t j y
theorem Sp.refl (B:Nat) (w:World):Sp B w w:=⟨zE _ _,fun _ cs _ _ h=>⟨cs,h,rfl,fun _ _ hx=>.inl hx⟩⟩
theorem Sp.trans {B:Nat}{u v w:World} (h:Sp B u v) (k:Sp B v w):Sp B u w:=by
 refine ⟨h.bU.trans k.bU,fun g cs t hg hh=>?_⟩
 obtain ⟨c1,a1,a2,a3⟩:=h.dt g cs t hg hh
 obtain ⟨c2,b1,b2,b3⟩:=k.dt g c1 t hg a1
 refine ⟨c2,b1,b2.trans a2,fun j x hx=>?_⟩
 rcases a3 j x hx with e|⟨y,e,hy⟩
 ·exact b3 j x e
 ·rcases b3 j y e with e2|e2
  ·exact .inr ⟨y,e2,hy⟩
  ·exact .inr e2
theorem Sp.below {B:Nat}{w w':World} (hb:Below w.heap.size w w') (hB:B≤w.heap.size):Sp B w w' :=
 ⟨hb.mono hB,fun g cs _ _ h=>⟨cs,(hb.block g (zA h).1).trans h,rfl,fun _ _ hx=>.inl hx⟩⟩
theorem Sp.alloc {B:Nat}{w w':World} (h:Sp B w w') (hB:B≤w.heap.size) (o:Obj):Sp B w (w'.alloc o) :=
 h.trans (Sp.below ((zE _ _).alloc (zD _) _) (Nat.le_trans hB h.bU.size))
theorem Sp.set {B:Nat}{w:World}{g j:Nat}{cs:Array Value}{t:TypeId} (hh:w.heap[g]?=some (.cells cs t (0,0))) (hg:B≤g) {y:Value} (hy:vx t j y):Sp B w (w.setCell ⟨g,j,none⟩ y):=by
 obtain ⟨a1,a2⟩:=bh (j:=j) hh y
 have aM:=(zA hh).1
 refine ⟨⟨a2.os,a2.tape,a2.output,a2.size,fun k hk=>a2.block k (by omega) (by simp;omega)⟩,fun g' iU t' kY kj=>?_⟩
 by_cases he:g'=g
 ·subst he
  rw[hh] at kj
  simp at kj
  obtain ⟨rfl,rfl⟩:=kj
  refine ⟨_,a1,by simp,fun i x hx=>?_⟩
  have mc:cs.toList[i]?=some x:=by rw[Array.getElem?_toList];exact hx
  by_cases ZP:j=i
  ·subst ZP
   refine .inr ⟨y,?_,hy⟩
   rw[List.getElem?_toArray,List.getElem?_set_self (zB mc).1]
  ·refine .inl ?_
   rw[List.getElem?_toArray,List.getElem?_set_ne ZP]
   exact mc
 ·exact ⟨iU,(a2.block _ (zA kj).1 (by simpa using fun e=>he e)).trans kj,rfl,fun _ _ hx=>.inl hx⟩
def Pw (t:Nat):Nat→List Value→List Value→Prop
 |_,[],[]=>True
 |o,x::r,y::r'=>(y=x∨vx t o y)∧Pw t (o+1) r r'
 |_,_,_=>False
theorem Pw.len {t:Nat}:∀{o:Nat}{a b:List Value},Pw t o a b→b.length=a.length
 |_,[],[],_=>rfl
 |_,_::_,_::_,h=>by rw[List.length_cons,List.length_cons,h.2.len]
 |_,[],_::_,h=>h.elim
 |_,_::_,[],h=>h.elim
theorem Pw.app {t:Nat}:∀{o:Nat}{a b c:List Value},Pw t o (a++b) c→∃c1 c2,c=c1++c2∧Pw t o a c1∧Pw t (o+a.length) b c2
 |o,[],b,c,h=>⟨[],c,rfl,trivial,h⟩
 |o,x::a,b,[],h=>h.elim
 |o,x::a,b,y::c,h=>by
  obtain ⟨c1,c2,rfl,h1,h2⟩:=Pw.app h.2
  exact ⟨y::c1,c2,rfl,⟨h.1,h1⟩,by rw[List.length_cons,show o+(a.length+1)=o+1+a.length by omega];exact h2⟩
theorem Mm {t:Nat}:∀{a b:List Value}{o:Nat},b.length=a.length→(∀j x,a[j]?=some x→b[j]?=some x∨∃y,b[j]?=some y∧vx t (o+j) y)→Pw t o a b
 |[],[],_,_,_=>trivial
 |[],_::_,_,h,_=>by simp at h
 |_::_,[],_,h,_=>by simp at h
 |x::a,y::b,o,h,k=>by
  refine ⟨?_,Mm (by simpa using h) (fun j z hz=>?_)⟩
  ·rcases k 0 x rfl with e|⟨q,e,hq⟩
   ·exact .inl (by simpa using e)
   ·refine .inr ?_
    obtain rfl:y=q:=by simpa using e
    exact hq
  ·have:=k (j+1) z (by simpa using hz)
   rw[show o+(j+1)=o+1+j by omega] at this
   simpa using this
theorem Pw.cons {t o:Nat}{x:Value}{r c:List Value} (h:Pw t o (x::r) c):∃y r',c=y::r'∧(y=x∨vx t o y)∧Pw t (o+1) r r':=by
 cases c with
 |nil=>exact h.elim
 |cons y r'=>exact ⟨y,r',rfl,h.1,h.2⟩
theorem Pw.nil {t o:Nat}{c:List Value} (h:Pw t o [] c):c=[]:=by
 cases c with
 |nil=>rfl
 |cons y r'=>exact h.elim
theorem gU.sp {R:Nat→Prop}{w w':World}{B e size n:Nat}{v:Value}{xs:List Value} (h:gU R w e size v n xs) (hR:∀g,R g→B≤g) (hs:Sp B w w'):∃YP,gU R w' e size v n YP∧Pw e 0 xs YP:=by
 obtain ⟨h1,h0,⟨rfl,rfl⟩|⟨g,cap,cur,rfl,h2,h3,h4,h5,h6,h7⟩⟩:=h
 ·obtain rfl:xs=[]:=List.eq_nil_of_length_eq_zero (by omega)
  exact ⟨[],⟨by simp,h0,.inl ⟨rfl,rfl⟩⟩,trivial⟩
 ·obtain ⟨c1,a1,a2,a3⟩:=hs.dt g cur e (hR g h2) h3
  have hl:(c1.toList.take (n*size)).length=xs.length:=by rw[←h7,List.length_take,List.length_take,Array.length_toList,Array.length_toList,a2]
  refine ⟨c1.toList.take (n*size),⟨hl.trans h1,h0,.inr ⟨g,cap,c1,rfl,h2,a1,h4,h5,a2.trans h6,rfl⟩⟩,Mm hl (fun j x hx=>?_)⟩
  rw[←h7,List.getElem?_take] at hx
  rw[List.getElem?_take,Nat.zero_add]
  split at hx
  ·rename_i hj
   rw[if_pos hj,Array.getElem?_toList]
   exact a3 j x (by rw[←Array.getElem?_toList];exact hx)
  ·cases hx
theorem oK {α:Type}{f:α→List Value}{k:Nat}{t:Nat}{Q:α→Prop} (hf:∀x,(f x).length=k) (hs:∀a c o,o % k=0→Pw t o (f a) c→∃a',c=f a'∧(Q a→Q a')) :
  ∀(l:List α) (o:Nat) (xs:List Value),o % k=0→Pw t o (l.flatMap f) xs→∃l':List α,xs=l'.flatMap f∧l'.length=l.length∧((∀a ∈ l,Q a)→∀a ∈ l',Q a)
 |[],o,[],_,_=>⟨[],rfl,rfl,fun _ a h=>by simp at h⟩
 |[],o,_::_,_,h=>h.elim
 |a::l,o,xs,ho,h=>by
  rw[List.flatMap_cons] at h
  obtain ⟨c1,c2,rfl,h1,h2⟩:=h.app
  obtain ⟨a',rfl,ha⟩:=hs a c1 o ho h1
  rw[hf] at h2
  obtain ⟨l',rfl,h3,h4⟩:=oK hf hs l (o+k) c2 (by rw[Nat.add_mod_right];exact ho) h2
  refine ⟨a'::l',by rw[List.flatMap_cons],by rw[List.length_cons,List.length_cons,h3],fun hq x hx=>?_⟩
  rcases List.mem_cons.1 hx with rfl|hx
  ·exact ha (hq a (List.mem_cons_self ..))
  ·exact h4 (fun b hb=>hq b (zF _ hb)) x hx
theorem KH {o:Nat}{y:Value} (h:vx 9 o y):F9 y:=by
 rcases h with h|h|h|h|h|h
 ·exact h.2
 all_goals exact absurd h.1 (by decide)
theorem GP {o:Nat}{y:Value} (h:vx 111 o y):NJ y:=by
 rcases h with h|h|h|h|h|h
 ·exact absurd h.1 (by decide)
 ·exact h.2
 all_goals exact absurd h.1 (by decide)
theorem GQ {o:Nat}{y:Value} (h:vx 74 o y):(o % 2=0∧F9 y)∨(o % 2=1∧NJ y):=by
 rcases h with h|h|h|h|h|h
 ·exact absurd h.1 (by decide)
 ·exact absurd h.1 (by decide)
 ·exact h.2
 all_goals exact absurd h.1 (by decide)
theorem pQ {o:Nat}{y:Value} (h:vx 42 o y):((o % 6=0∨o % 6=4∨o % 6=5)∧NJ y)∨((o % 6=1∨o % 6=2∨o % 6=3)∧F9 y):=by
 rcases h with h|h|h|h|h|h
 ·exact absurd h.1 (by decide)
 ·exact absurd h.1 (by decide)
 ·exact absurd h.1 (by decide)
 ·exact h.2
 all_goals exact absurd h.1 (by decide)
theorem gH {o:Nat}{y:Value} (h:vx 46 o y):o % 7=0∧F9 y:=by
 rcases h with h|h|h|h|h|h
 ·exact absurd h.1 (by decide)
 ·exact absurd h.1 (by decide)
 ·exact absurd h.1 (by decide)
 ·exact absurd h.1 (by decide)
 ·exact h.2
 ·exact absurd h.1 (by decide)
theorem fT {o:Nat}{y:Value} (h:vx 67 o y):o % 4=0∧F9 y:=by
 rcases h with h|h|h|h|h|h
 ·exact absurd h.1 (by decide)
 ·exact absurd h.1 (by decide)
 ·exact absurd h.1 (by decide)
 ·exact absurd h.1 (by decide)
 ·exact absurd h.1 (by decide)
 ·exact h.2
theorem nW {y:Value}{s:ByteArray}{p:Prop} (h:y=.string s∨p) (hp:p→F9 y):∃s':ByteArray,y=.string s'∧(s'=s∨s'.size≤8):=by
 rcases h with rfl|h
 ·exact ⟨s,rfl,.inl rfl⟩
 ·obtain ⟨s',rfl,h8⟩:=hp h
  exact ⟨s',rfl,.inr h8⟩
theorem pV {y:Value}{x:Int}{p:Prop} (h:y=.int .i64 x∨p) (hp:p→NJ y):∃x':Int,y=.int .i64 x':=by
 rcases h with rfl|h
 ·exact ⟨x,rfl⟩
 ·exact hp h
theorem xN (l:List ByteArray):cc l=l.flatMap (fun s=>[Value.string s]):=by
 induction l with
 |nil=>rfl
 |cons a l ih=>rw[List.flatMap_cons,←ih];rfl
theorem gU.TG {R:Nat→Prop}{w w':World}{B:Nat}{v:Value}{l:List ByteArray} (h:gU R w 9 1 v l.length (cc l)) (hR:∀g,R g→B≤g) (hs:Sp B w w'):∃l',gU R w' 9 1 v l'.length (cc l')∧l'.length=l.length:=by
 obtain ⟨xs,h1,h2⟩:=h.sp hR hs
 rw[xN] at h2
 obtain ⟨l',rfl,e,-⟩:=oK (f:=fun s:ByteArray=>[Value.string s]) (k:=1) (Q:=fun _=>True) (fun _=>rfl) (fun a c o ho hp=>by
  obtain ⟨y0,r0,rfl,p0,h0⟩:=hp.cons
  obtain rfl:=h0.nil
  obtain ⟨s',rfl,-⟩:=nW p0 KH
  exact ⟨s',rfl,fun h=>h⟩) l 0 xs rfl h2
 rw[←xN,←e] at h1
 exact ⟨l',h1,e⟩
theorem gU.YW {R:Nat→Prop}{w w':World}{B:Nat}{v:Value}{l:List (Int×Int)} (h:gU R w 111 2 v l.length (lj l)) (hR:∀g,R g→B≤g) (hs:Sp B w w'):∃l',gU R w' 111 2 v l'.length (lj l')∧l'.length=l.length:=by
 obtain ⟨xs,h1,h2⟩:=h.sp hR hs
 unfold lj at h2
 obtain ⟨l',rfl,e,-⟩:=oK (k:=2) (Q:=fun _=>True) (fun _=>rfl) (fun a c o ho hp=>by
  obtain ⟨y0,r0,rfl,p0,h0⟩:=hp.cons
  obtain ⟨y1,r1,rfl,p1,h1⟩:=h0.cons
  obtain rfl:=h1.nil
  obtain ⟨p,rfl⟩:=pV p0 GP
  obtain ⟨q,rfl⟩:=pV p1 GP
  exact ⟨(p,q),rfl,fun h=>h⟩) l 0 xs rfl h2
 rw[←e] at h1
 exact ⟨l',h1,e⟩
theorem gU.spV {R:Nat→Prop}{w w':World}{B:Nat}{v:Value}{l:List (ByteArray×Int)} (h:gU R w 74 2 v l.length (rn l)) (hR:∀g,R g→B≤g) (hs:Sp B w w'):∃l',gU R w' 74 2 v l'.length (rn l')∧l'.length=l.length:=by
 obtain ⟨xs,h1,h2⟩:=h.sp hR hs
 unfold rn at h2
 obtain ⟨l',rfl,e,-⟩:=oK (k:=2) (Q:=fun _=>True) (fun _=>rfl) (fun a c o ho hp=>by
  obtain ⟨y0,r0,rfl,p0,h0⟩:=hp.cons
  obtain ⟨y1,r1,rfl,p1,h1⟩:=h0.cons
  obtain rfl:=h1.nil
  obtain ⟨p,rfl,-⟩:=nW p0 (fun h=>by rcases GQ h with h|h;exact h.2;exact absurd h.1 (by omega))
  obtain ⟨q,rfl⟩:=pV p1 (fun h=>by rcases GQ h with h|h;exact absurd h.1 (by omega);exact h.2)
  exact ⟨(p,q),rfl,fun h=>h⟩) l 0 xs rfl h2
 rw[←e] at h1
 exact ⟨l',h1,e⟩
theorem gU.spF {R:Nat→Prop}{w w':World}{B:Nat}{v:Value}{l:List Fd} (h:gU R w 42 6 v l.length (fB l)) (hR:∀g,R g→B≤g) (hs:Sp B w w'):∃l',gU R w' 42 6 v l'.length (fB l')∧l'.length=l.length∧((∀d ∈ l,d.ty.size≤281474976710656)→∀d ∈ l',d.ty.size≤281474976710656):=by
 obtain ⟨xs,h1,h2⟩:=h.sp hR hs
 unfold fB at h2
 obtain ⟨l',rfl,e,hq⟩:=oK (k:=6) (Q:=fun d:Fd=>d.ty.size≤281474976710656) (fun _=>rfl) (fun a c o ho hp=>by
  obtain ⟨y0,r0,rfl,p0,h0⟩:=hp.cons
  obtain ⟨y1,r1,rfl,p1,h1⟩:=h0.cons
  obtain ⟨y2,r2,rfl,p2,h2⟩:=h1.cons
  obtain ⟨y3,r3,rfl,p3,h3⟩:=h2.cons
  obtain ⟨y4,r4,rfl,p4,h4⟩:=h3.cons
  obtain ⟨y5,r5,rfl,p5,h5⟩:=h4.cons
  obtain rfl:=h5.nil
  obtain ⟨q0,rfl⟩:=pV p0 (fun h=>by rcases pQ h with h|h;exact h.2;exact absurd h.1 (by omega))
  obtain ⟨q1,rfl,-⟩:=nW p1 (fun h=>by rcases pQ h with h|h;exact absurd h.1 (by omega);exact h.2)
  obtain ⟨q2,rfl,r2⟩:=nW p2 (fun h=>by rcases pQ h with h|h;exact absurd h.1 (by omega);exact h.2)
  obtain ⟨q3,rfl,-⟩:=nW p3 (fun h=>by rcases pQ h with h|h;exact absurd h.1 (by omega);exact h.2)
  obtain ⟨q4,rfl⟩:=pV p4 (fun h=>by rcases pQ h with h|h;exact h.2;exact absurd h.1 (by omega))
  obtain ⟨q5,rfl⟩:=pV p5 (fun h=>by rcases pQ h with h|h;exact h.2;exact absurd h.1 (by omega))
  refine ⟨⟨q0,q1,q2,q3,q4,q5⟩,rfl,fun h=>?_⟩
  show q2.size≤_
  rcases r2 with rfl|r2
  ·exact h
  ·omega) l 0 xs rfl h2
 rw[←e] at h1
 exact ⟨l',h1,e,hq⟩
inductive FP:List En→List En→Prop
 |nil:FP [] []
 |cons {e d:En} {l k:List En} (h1:d.aR.length=e.aR.length) (h2:d.res.length=e.res.length) (h3:d.gone.length=e.gone.length) (ht:FP l k):FP (e::l) (d::k)
theorem FP.len {l k:List En} (h:FP l k):k.length=l.length:=by
 induction h with
 |nil=>rfl
 |cons _ _ _ _ ih=>rw[List.length_cons,List.length_cons,ih]
theorem FP.sum {l k:List En} (h:FP l k):bE kF k=bE kF l:=by
 induction h with
 |nil=>rfl
 |cons h1 h2 h3 _ ih=>simp only[bE,kF,h1,h2,h3,ih]
theorem FP.re {l k:List En} (h:FP l k):(∀e ∈ l,Kd e)→∀e ∈ k,Kd e:=by
 induction h with
 |nil=>intro h;exact h
 |cons h1 h2 h3 _ ih =>
  intro h x hx
  rcases List.mem_cons.1 hx with rfl|hx
  ·have:=h _ (List.mem_cons_self ..)
   unfold Kd at this ⊢
   rw[h1,h2,h3];exact this
  ·exact ih (fun y hy=>h y (zF _ hy)) x hx
inductive Bd:List Ms→List Ms→Prop
 |nil:Bd [] []
 |cons {nm nm1:ByteArray} {fs Xb:List Fd} {os Y9:List ByteArray} {ms Zb:List Ms} {es es1:List En} {rs YZ:List (Int×Int)} {gs gs1:List ByteArray} {l l1:List Ms}
   (hf:Xb.length=fs.length) (TU:(∀d ∈ fs,d.ty.size≤281474976710656)→∀d ∈ Xb,d.ty.size≤281474976710656) (ho:Y9.length=os.length) (hm:Bd ms Zb) (he:FP es es1) (hr:YZ.length=rs.length) (hg:gs1.length=gs.length) (ht:Bd l l1):Bd (.mk nm fs os ms es rs gs::l) (.mk nm1 Xb Y9 Zb es1 YZ gs1::l1)
theorem Bd.len {l k:List Ms} (h:Bd l k):k.length=l.length:=by
 induction h with
 |nil=>rfl
 |cons _ _ _ _ _ _ _ _ _ ih=>rw[List.length_cons,List.length_cons,ih]
theorem Bd.dp {l k:List Ms} (h:Bd l k):∀f,(∀m ∈ l,tL f m)→∀m ∈ k,tL f m:=by
 induction h with
 |nil=>intro f h;exact h
 |cons _ _ _ _ _ _ _ _ Cv AJ =>
  intro f h x hx
  rcases List.mem_cons.1 hx with rfl|hx
  ·have:=h _ (List.mem_cons_self ..)
   cases f with
   |zero=>exact this
   |succ f=>exact Cv f this
  ·exact AJ f (fun y hy=>h y (zF _ hy)) x hx
theorem Bd.sz {l k:List Ms} (h:Bd l k):∀f,(∀m ∈ l,tG f m)→∀m ∈ k,tG f m:=by
 induction h with
 |nil=>intro f h;exact h
 |cons _ TU _ _ _ _ _ _ Cv AJ =>
  intro f h x hx
  rcases List.mem_cons.1 hx with rfl|hx
  ·have:=h _ (List.mem_cons_self ..)
   cases f with
   |zero=>trivial
   |succ f=>exact ⟨TU this.1,Cv f this.2⟩
  ·exact AJ f (fun y hy=>h y (zF _ hy)) x hx
theorem Bd.re {l k:List Ms} (h:Bd l k):∀f,(∀m ∈ l,El f m)→∀m ∈ k,El f m:=by
 induction h with
 |nil=>intro f h;exact h
 |cons hf TU ho hm he hr hg _ Cv AJ =>
  intro f h x hx
  rcases List.mem_cons.1 hx with rfl|hx
  ·have:=h _ (List.mem_cons_self ..)
   have hs:=this.s
   obtain ⟨s1,s2,s3,s4,s5,s6,s7⟩:=hs
   have key:Qt _ _ _ _ _ _:=⟨by rw[hf];exact s1,by rw[ho];exact s2,by rw[hm.len];exact s3,by rw[he.len];exact s4,he.re s5,by rw[hr];exact s6,by rw[hg];exact s7⟩
   cases f with
   |zero=>exact key
   |succ f=>exact ⟨key,Cv f this.2⟩
  ·exact AJ f (fun y hy=>h y (zF _ hy)) x hx
theorem Bd.sum {l k:List Ms} (h:Bd l k):∀f,bE (cR f) k=bE (cR f) l:=by
 induction h with
 |nil=>intro f;rfl
 |cons hf TU ho hm he hr hg _ Cv AJ =>
  intro f
  simp only[bE,AJ]
  cases f with
  |zero=>rfl
  |succ f=>simp only[cR,hf,ho,hr,hg,he.sum,Cv]
theorem pJ.sp {R:Nat→Prop}{w w':World}{B:Nat}{cs:List Value}{l:List En} (h:pJ R w cs l) (hR:∀g,R g→B≤g) (hs:Sp B w w'):∀o xs,o % 4=0→Pw 67 o cs xs→∃k,pJ R w' xs k∧FP l k:=by
 induction h with
 |nil =>
  intro o xs ho hp
  obtain rfl:=hp.nil
  exact ⟨[],.nil,.nil⟩
 |cons hv hr hg _ ih =>
  intro o xs ho hp
  obtain ⟨y0,r0,rfl,p0,h0⟩:=hp.cons
  obtain ⟨y1,r1,rfl,p1,h1⟩:=h0.cons
  obtain ⟨y2,r2,rfl,p2,h2⟩:=h1.cons
  obtain ⟨y3,r3,rfl,p3,h3⟩:=h2.cons
  obtain ⟨q0,rfl,-⟩:=nW p0 (fun h=>(fT h).2)
  obtain rfl:=p1.resolve_right (fun h=>by have:=(fT h).1;omega)
  obtain rfl:=p2.resolve_right (fun h=>by have:=(fT h).1;omega)
  obtain rfl:=p3.resolve_right (fun h=>by have:=(fT h).1;omega)
  obtain ⟨k,k1,k2⟩:=ih (o+1+1+1+1) r3 (by omega) h3
  obtain ⟨l1,a1,b1⟩:=hv.spV hR hs
  obtain ⟨l2,a2,b2⟩:=hr.YW hR hs
  obtain ⟨l3,a3,b3⟩:=hg.TG hR hs
  exact ⟨⟨q0,l1,l2,l3⟩::k,pJ.cons (e:=⟨q0,l1,l2,l3⟩) a1 a2 a3 k1,.cons b1 b2 b3 k2⟩
theorem pG.sp {R:Nat→Prop}{w w':World}{B:Nat}{cs:List Value}{l:List Ms} (h:pG R w cs l) (hR:∀g,R g→B≤g) (hs:Sp B w w'):∀o xs,o % 7=0→Pw 46 o cs xs→∃k,pG R w' xs k∧Bd l k:=by
 induction h with
 |nil =>
  intro o xs ho hp
  obtain rfl:=hp.nil
  exact ⟨[],.nil,.nil⟩
 |cons hf hoo hm eo he fA hr hg _ Cv ih =>
  intro o xs ho hp
  obtain ⟨y0,r0,rfl,p0,h0⟩:=hp.cons
  obtain ⟨y1,r1,rfl,p1,h1⟩:=h0.cons
  obtain ⟨y2,r2,rfl,p2,h2⟩:=h1.cons
  obtain ⟨y3,r3,rfl,p3,h3⟩:=h2.cons
  obtain ⟨y4,r4,rfl,p4,h4⟩:=h3.cons
  obtain ⟨y5,r5,rfl,p5,h5⟩:=h4.cons
  obtain ⟨y6,r6,rfl,p6,h6⟩:=h5.cons
  obtain ⟨q0,rfl,-⟩:=nW p0 (fun h=>(gH h).2)
  obtain rfl:=p1.resolve_right (fun h=>by have:=(gH h).1;omega)
  obtain rfl:=p2.resolve_right (fun h=>by have:=(gH h).1;omega)
  obtain rfl:=p3.resolve_right (fun h=>by have:=(gH h).1;omega)
  obtain rfl:=p4.resolve_right (fun h=>by have:=(gH h).1;omega)
  obtain rfl:=p5.resolve_right (fun h=>by have:=(gH h).1;omega)
  obtain rfl:=p6.resolve_right (fun h=>by have:=(gH h).1;omega)
  obtain ⟨k,k1,k2⟩:=ih (o+1+1+1+1+1+1+1) r6 (by omega) h6
  obtain ⟨l1,a1,b1,c1⟩:=hf.spF hR hs
  obtain ⟨l2,a2,b2⟩:=hoo.TG hR hs
  obtain ⟨x3,a3,b3⟩:=hm.sp hR hs
  obtain ⟨l3,d3,e3⟩:=Cv 0 x3 rfl b3
  rw[←e3.len] at a3
  obtain ⟨x4,a4,b4⟩:=he.sp hR hs
  obtain ⟨l4,d4,e4⟩:=fA.sp hR hs 0 x4 rfl b4
  rw[←e4.len] at a4
  obtain ⟨l5,a5,b5⟩:=hr.YW hR hs
  obtain ⟨l6,a6,b6⟩:=hg.TG hR hs
  exact ⟨_::k,.cons a1 a2 a3 d3 a4 d4 a5 a6 k1,.cons b1 c1 b2 e3 e4 b5 b6 k2⟩
theorem J0.sp {R:Nat→Prop}{w w':World}{B:Nat}{v vi vm ve:Value}{F:Fl}{cm ce:List Value} (h:J0 R w v F vi vm ve cm ce) (hR:∀g,R g→B≤g) (hs:Sp B w w') :
  ∃(G:Fl) (xm xe:List Value),J0 R w' v G vi vm ve xm xe∧G.jr=F.jr∧G.cX.length=F.cX.length∧Bd F.ms G.ms∧FP F.es G.es:=by
 obtain ⟨pk,is,ms,es⟩:=F
 obtain ⟨h1,hi,hm,eo,he,fA⟩:=h
 obtain ⟨l2,a2,b2⟩:=hi.TG hR hs
 obtain ⟨x3,a3,b3⟩:=hm.sp hR hs
 obtain ⟨l3,d3,e3⟩:=eo.sp hR hs 0 x3 rfl b3
 rw[←e3.len] at a3
 obtain ⟨x4,a4,b4⟩:=he.sp hR hs
 obtain ⟨l4,d4,e4⟩:=fA.sp hR hs 0 x4 rfl b4
 rw[←e4.len] at a4
 exact ⟨⟨pk,l2,l3,l4⟩,x3,x4,⟨h1,a2,a3,d3,a4,d4⟩,rfl,b2,e3,e4⟩
theorem lM:∀(f:Nat) (l:List Ms),(∀m ∈ l,tL f m)→fY f l=l
 |0,[],_=>rfl
 |0,m::_,h=>(h m (List.mem_cons_self ..)).elim
 |f+1,l,h=>by
  show l.map (lN f)=l
  have:∀m ∈ l,lN f m=m:=fun m hm=>by
   obtain ⟨nm,fs,os,ms,es,rs,gs⟩:=m
   rw[yJ,lM f ms (h _ hm)]
  rw[List.map_congr_left this,List.map_id'']
  intro x;rfl
theorem C4:∀(f:Nat) (l:List Ms),∀m ∈ fY f l,tL f m
 |0,_,m,h=>by simp[fY] at h
 |f+1,l,m,h=>by
  obtain ⟨x,hx,rfl⟩:=List.mem_map.1 h
  obtain ⟨nm,fs,os,ms,es,rs,gs⟩:=x
  rw[yJ]
  exact C4 f ms
end Go.Proofs.YtichhjfjcinjgaaGreatDoor

import Derived.Test.YtichhjfjcinjgaaGreatDoorYDh
namespace Go.Proofs.YtichhjfjcinjgaaGreatDoor
open Go.RowKit
def Fq (y:Value):Prop:=∃s:ByteArray,y=.string s∧s.size≤8
def M7 (y:Value):Prop:=∃x:Int,y=.int .i64 x
def uJ (t j:Nat) (y:Value):Prop :=
 (t=9∧Fq y)∨(t=111∧M7 y)∨(t=74∧((j % 2=0∧Fq y)∨(j % 2=1∧M7 y))) ∨
 (t=42∧(((j % 6=0∨j % 6=4∨j % 6=5)∧M7 y)∨((j % 6=1∨j % 6=2∨j % 6=3)∧Fq y)))∨(t=46∧j % 7=0∧Fq y)∨(t=67∧j % 4=0∧Fq y)
structure Sp (B:Nat) (w w':World):Prop where
 bV:Below B w w'
 dj:∀g cs t,B≤g→w.heap[g]?=some (.cells cs t (0,0))→∃iH:Array Value,w'.heap[g]?=some (.cells iH t (0,0))∧iH.size=cs.size∧∀j x,cs[j]?=some x→iH[j]?=some x∨∃y,iH[j]?=some y∧uJ t j y
theorem Sp.refl (B:Nat) (w:World):Sp B w w:=⟨zE _ _,fun _ cs _ _ h=>⟨cs,h,rfl,fun _ _ hx=>.inl hx⟩⟩
theorem Sp.trans {B:Nat}{u v w:World} (h:Sp B u v) (k:Sp B v w):Sp B u w:=by
 refine ⟨h.bV.trans k.bV,fun g cs t hg hh=>?_⟩
 obtain ⟨c1,a1,a2,a3⟩:=h.dj g cs t hg hh
 obtain ⟨c2,b1,b2,b3⟩:=k.dj g c1 t hg a1
 refine ⟨c2,b1,b2.trans a2,fun j x hx=>?_⟩
 rcases a3 j x hx with e|⟨y,e,hy⟩
 ·exact b3 j x e
 ·rcases b3 j y e with e2|e2
  ·exact .inr ⟨y,e2,hy⟩
  ·exact .inr e2
theorem Sp.below {B:Nat}{w w':World} (hb:Below w.heap.size w w') (hB:B≤w.heap.size):Sp B w w' :=
 ⟨hb.mono hB,fun g cs _ _ h=>⟨cs,(hb.block g (zA h).1).trans h,rfl,fun _ _ hx=>.inl hx⟩⟩
theorem Sp.alloc {B:Nat}{w w':World} (h:Sp B w w') (hB:B≤w.heap.size) (o:Obj):Sp B w (w'.alloc o) :=
 h.trans (Sp.below ((zE _ _).alloc (zD _) _) (Nat.le_trans hB h.bV.size))
theorem Sp.set {B:Nat}{w:World}{g j:Nat}{cs:Array Value}{t:TypeId} (hh:w.heap[g]?=some (.cells cs t (0,0))) (hg:B≤g) {y:Value} (hy:uJ t j y):Sp B w (w.setCell ⟨g,j,none⟩ y):=by
 obtain ⟨a1,a2⟩:=bh (j:=j) hh y
 have aM:=(zA hh).1
 refine ⟨⟨a2.os,a2.tape,a2.output,a2.size,fun k hk=>a2.block k (by omega) (by simp;omega)⟩,fun g' iH t' kH jV=>?_⟩
 by_cases he:g'=g
 ·subst he
  rw[hh] at jV
  simp at jV
  obtain ⟨rfl,rfl⟩:=jV
  refine ⟨_,a1,by simp,fun i x hx=>?_⟩
  have lN:cs.toList[i]?=some x:=by rw[Array.getElem?_toList];exact hx
  by_cases Zm:j=i
  ·subst Zm
   refine .inr ⟨y,?_,hy⟩
   rw[List.getElem?_toArray,List.getElem?_set_self (zB lN).1]
  ·refine .inl ?_
   rw[List.getElem?_toArray,List.getElem?_set_ne Zm]
   exact lN
 ·exact ⟨iH,(a2.block _ (zA jV).1 (by simpa using fun e=>he e)).trans jV,rfl,fun _ _ hx=>.inl hx⟩
def Pw (t:Nat):Nat→List Value→List Value→Prop
 |_,[],[]=>True
 |o,x::r,y::r'=>(y=x∨uJ t o y)∧Pw t (o+1) r r'
 |_,_,_=>False
theorem Pw.len {t:Nat}:∀{o:Nat}{a b:List Value},Pw t o a b→b.length=a.length
 |_,[],[],_=>rfl
 |_,_::_,_::_,h=>by rw[List.length_cons,List.length_cons,h.2.len]
 |_,[],_::_,h=>h.elim
 |_,_::_,[],h=>h.elim
theorem Pw.app {t:Nat}:∀{o:Nat}{a b c:List Value},Pw t o (a++b) c→∃c1 c2,c=c1++c2∧Pw t o a c1∧Pw t (o+a.length) b c2
 |o,[],b,c,h=>⟨[],c,rfl,trivial,h⟩
 |o,x::a,b,[],h=>h.elim
 |o,x::a,b,y::c,h=>by
  obtain ⟨c1,c2,rfl,h1,h2⟩:=Pw.app h.2
  exact ⟨y::c1,c2,rfl,⟨h.1,h1⟩,by rw[List.length_cons,show o+(a.length+1)=o+1+a.length by omega];exact h2⟩
theorem LI {t:Nat}:∀{a b:List Value}{o:Nat},b.length=a.length→(∀j x,a[j]?=some x→b[j]?=some x∨∃y,b[j]?=some y∧uJ t (o+j) y)→Pw t o a b
 |[],[],_,_,_=>trivial
 |[],_::_,_,h,_=>by simp at h
 |_::_,[],_,h,_=>by simp at h
 |x::a,y::b,o,h,k=>by
  refine ⟨?_,LI (by simpa using h) (fun j z hz=>?_)⟩
  ·rcases k 0 x rfl with e|⟨q,e,hq⟩
   ·exact .inl (by simpa using e)
   ·refine .inr ?_
    obtain rfl:y=q:=by simpa using e
    exact hq
  ·have:=k (j+1) z (by simpa using hz)
   rw[show o+(j+1)=o+1+j by omega] at this
   simpa using this
theorem Pw.cons {t o:Nat}{x:Value}{r c:List Value} (h:Pw t o (x::r) c):∃y r',c=y::r'∧(y=x∨uJ t o y)∧Pw t (o+1) r r':=by
 cases c with
 |nil=>exact h.elim
 |cons y r'=>exact ⟨y,r',rfl,h.1,h.2⟩
theorem Pw.nil {t o:Nat}{c:List Value} (h:Pw t o [] c):c=[]:=by
 cases c with
 |nil=>rfl
 |cons y r'=>exact h.elim
theorem gM.sp {R:Nat→Prop}{w w':World}{B e size n:Nat}{v:Value}{xs:List Value} (h:gM R w e size v n xs) (hR:∀g,R g→B≤g) (hs:Sp B w w'):∃Yk,gM R w' e size v n Yk∧Pw e 0 xs Yk:=by
 obtain ⟨h1,h0,⟨rfl,rfl⟩|⟨g,cap,cur,rfl,h2,h3,h4,h5,h6,h7⟩⟩:=h
 ·obtain rfl:xs=[]:=List.eq_nil_of_length_eq_zero (by omega)
  exact ⟨[],⟨by simp,h0,.inl ⟨rfl,rfl⟩⟩,trivial⟩
 ·obtain ⟨c1,a1,a2,a3⟩:=hs.dj g cur e (hR g h2) h3
  have hl:(c1.toList.take (n*size)).length=xs.length:=by rw[←h7,List.length_take,List.length_take,Array.length_toList,Array.length_toList,a2]
  refine ⟨c1.toList.take (n*size),⟨hl.trans h1,h0,.inr ⟨g,cap,c1,rfl,h2,a1,h4,h5,a2.trans h6,rfl⟩⟩,LI hl (fun j x hx=>?_)⟩
  rw[←h7,List.getElem?_take] at hx
  rw[List.getElem?_take,Nat.zero_add]
  split at hx
  ·rename_i hj
   rw[if_pos hj,Array.getElem?_toList]
   exact a3 j x (by rw[←Array.getElem?_toList];exact hx)
  ·cases hx
theorem nY {α:Type}{f:α→List Value}{k:Nat}{t:Nat}{Q:α→Prop} (hf:∀x,(f x).length=k) (hs:∀a c o,o % k=0→Pw t o (f a) c→∃a',c=f a'∧(Q a→Q a')) :
  ∀(l:List α) (o:Nat) (xs:List Value),o % k=0→Pw t o (l.flatMap f) xs→∃l':List α,xs=l'.flatMap f∧l'.length=l.length∧((∀a ∈ l,Q a)→∀a ∈ l',Q a)
 |[],o,[],_,_=>⟨[],rfl,rfl,fun _ a h=>by simp at h⟩
 |[],o,_::_,_,h=>h.elim
 |a::l,o,xs,ho,h=>by
  rw[List.flatMap_cons] at h
  obtain ⟨c1,c2,rfl,h1,h2⟩:=h.app
  obtain ⟨a',rfl,ha⟩:=hs a c1 o ho h1
  rw[hf] at h2
  obtain ⟨l',rfl,h3,h4⟩:=nY hf hs l (o+k) c2 (by rw[Nat.add_mod_right];exact ho) h2
  refine ⟨a'::l',by rw[List.flatMap_cons],by rw[List.length_cons,List.length_cons,h3],fun hq x hx=>?_⟩
  rcases List.mem_cons.1 hx with rfl|hx
  ·exact ha (hq a (List.mem_cons_self ..))
  ·exact h4 (fun b hb=>hq b (zF _ hb)) x hx
theorem JX {o:Nat}{y:Value} (h:uJ 9 o y):Fq y:=by
 rcases h with h|h|h|h|h|h
 ·exact h.2
 all_goals exact absurd h.1 (by decide)
theorem F5 {o:Nat}{y:Value} (h:uJ 111 o y):M7 y:=by
 rcases h with h|h|h|h|h|h
 ·exact absurd h.1 (by decide)
 ·exact h.2
 all_goals exact absurd h.1 (by decide)
theorem F6 {o:Nat}{y:Value} (h:uJ 74 o y):(o % 2=0∧Fq y)∨(o % 2=1∧M7 y):=by
 rcases h with h|h|h|h|h|h
 ·exact absurd h.1 (by decide)
 ·exact absurd h.1 (by decide)
 ·exact h.2
 all_goals exact absurd h.1 (by decide)
theorem pr {o:Nat}{y:Value} (h:uJ 42 o y):((o % 6=0∨o % 6=4∨o % 6=5)∧M7 y)∨((o % 6=1∨o % 6=2∨o % 6=3)∧Fq y):=by
 rcases h with h|h|h|h|h|h
 ·exact absurd h.1 (by decide)
 ·exact absurd h.1 (by decide)
 ·exact absurd h.1 (by decide)
 ·exact h.2
 all_goals exact absurd h.1 (by decide)
theorem gw {o:Nat}{y:Value} (h:uJ 46 o y):o % 7=0∧Fq y:=by
 rcases h with h|h|h|h|h|h
 ·exact absurd h.1 (by decide)
 ·exact absurd h.1 (by decide)
 ·exact absurd h.1 (by decide)
 ·exact absurd h.1 (by decide)
 ·exact h.2
 ·exact absurd h.1 (by decide)
theorem fL {o:Nat}{y:Value} (h:uJ 67 o y):o % 4=0∧Fq y:=by
 rcases h with h|h|h|h|h|h
 ·exact absurd h.1 (by decide)
 ·exact absurd h.1 (by decide)
 ·exact absurd h.1 (by decide)
 ·exact absurd h.1 (by decide)
 ·exact absurd h.1 (by decide)
 ·exact h.2
theorem ny {y:Value}{s:ByteArray}{p:Prop} (h:y=.string s∨p) (hp:p→Fq y):∃s':ByteArray,y=.string s'∧(s'=s∨s'.size≤8):=by
 rcases h with rfl|h
 ·exact ⟨s,rfl,.inl rfl⟩
 ·obtain ⟨s',rfl,h8⟩:=hp h
  exact ⟨s',rfl,.inr h8⟩
theorem pA {y:Value}{x:Int}{p:Prop} (h:y=.int .i64 x∨p) (hp:p→M7 y):∃x':Int,y=.int .i64 x':=by
 rcases h with rfl|h
 ·exact ⟨x,rfl⟩
 ·exact hp h
theorem xd (l:List ByteArray):bY l=l.flatMap (fun s=>[Value.string s]):=by
 induction l with
 |nil=>rfl
 |cons a l ih=>rw[List.flatMap_cons,←ih];rfl
theorem gM.S6 {R:Nat→Prop}{w w':World}{B:Nat}{v:Value}{l:List ByteArray} (h:gM R w 9 1 v l.length (bY l)) (hR:∀g,R g→B≤g) (hs:Sp B w w'):∃l',gM R w' 9 1 v l'.length (bY l')∧l'.length=l.length:=by
 obtain ⟨xs,h1,h2⟩:=h.sp hR hs
 rw[xd] at h2
 obtain ⟨l',rfl,e,-⟩:=nY (f:=fun s:ByteArray=>[Value.string s]) (k:=1) (Q:=fun _=>True) (fun _=>rfl) (fun a c o ho hp=>by
  obtain ⟨y0,r0,rfl,p0,h0⟩:=hp.cons
  obtain rfl:=h0.nil
  obtain ⟨s',rfl,-⟩:=ny p0 JX
  exact ⟨s',rfl,fun h=>h⟩) l 0 xs rfl h2
 rw[←xd,←e] at h1
 exact ⟨l',h1,e⟩
theorem gM.Yt {R:Nat→Prop}{w w':World}{B:Nat}{v:Value}{l:List (Int×Int)} (h:gM R w 111 2 v l.length (kO l)) (hR:∀g,R g→B≤g) (hs:Sp B w w'):∃l',gM R w' 111 2 v l'.length (kO l')∧l'.length=l.length:=by
 obtain ⟨xs,h1,h2⟩:=h.sp hR hs
 unfold kO at h2
 obtain ⟨l',rfl,e,-⟩:=nY (k:=2) (Q:=fun _=>True) (fun _=>rfl) (fun a c o ho hp=>by
  obtain ⟨y0,r0,rfl,p0,h0⟩:=hp.cons
  obtain ⟨y1,r1,rfl,p1,h1⟩:=h0.cons
  obtain rfl:=h1.nil
  obtain ⟨p,rfl⟩:=pA p0 F5
  obtain ⟨q,rfl⟩:=pA p1 F5
  exact ⟨(p,q),rfl,fun h=>h⟩) l 0 xs rfl h2
 rw[←e] at h1
 exact ⟨l',h1,e⟩
theorem gM.spV {R:Nat→Prop}{w w':World}{B:Nat}{v:Value}{l:List (ByteArray×Int)} (h:gM R w 74 2 v l.length (qM l)) (hR:∀g,R g→B≤g) (hs:Sp B w w'):∃l',gM R w' 74 2 v l'.length (qM l')∧l'.length=l.length:=by
 obtain ⟨xs,h1,h2⟩:=h.sp hR hs
 unfold qM at h2
 obtain ⟨l',rfl,e,-⟩:=nY (k:=2) (Q:=fun _=>True) (fun _=>rfl) (fun a c o ho hp=>by
  obtain ⟨y0,r0,rfl,p0,h0⟩:=hp.cons
  obtain ⟨y1,r1,rfl,p1,h1⟩:=h0.cons
  obtain rfl:=h1.nil
  obtain ⟨p,rfl,-⟩:=ny p0 (fun h=>by rcases F6 h with h|h;exact h.2;exact absurd h.1 (by omega))
  obtain ⟨q,rfl⟩:=pA p1 (fun h=>by rcases F6 h with h|h;exact absurd h.1 (by omega);exact h.2)
  exact ⟨(p,q),rfl,fun h=>h⟩) l 0 xs rfl h2
 rw[←e] at h1
 exact ⟨l',h1,e⟩
theorem gM.spF {R:Nat→Prop}{w w':World}{B:Nat}{v:Value}{l:List Fd} (h:gM R w 42 6 v l.length (fp l)) (hR:∀g,R g→B≤g) (hs:Sp B w w'):∃l',gM R w' 42 6 v l'.length (fp l')∧l'.length=l.length∧((∀d ∈ l,d.ty.size≤281474976710656)→∀d ∈ l',d.ty.size≤281474976710656):=by
 obtain ⟨xs,h1,h2⟩:=h.sp hR hs
 unfold fp at h2
 obtain ⟨l',rfl,e,hq⟩:=nY (k:=6) (Q:=fun d:Fd=>d.ty.size≤281474976710656) (fun _=>rfl) (fun a c o ho hp=>by
  obtain ⟨y0,r0,rfl,p0,h0⟩:=hp.cons
  obtain ⟨y1,r1,rfl,p1,h1⟩:=h0.cons
  obtain ⟨y2,r2,rfl,p2,h2⟩:=h1.cons
  obtain ⟨y3,r3,rfl,p3,h3⟩:=h2.cons
  obtain ⟨y4,r4,rfl,p4,h4⟩:=h3.cons
  obtain ⟨y5,r5,rfl,p5,h5⟩:=h4.cons
  obtain rfl:=h5.nil
  obtain ⟨q0,rfl⟩:=pA p0 (fun h=>by rcases pr h with h|h;exact h.2;exact absurd h.1 (by omega))
  obtain ⟨q1,rfl,-⟩:=ny p1 (fun h=>by rcases pr h with h|h;exact absurd h.1 (by omega);exact h.2)
  obtain ⟨q2,rfl,r2⟩:=ny p2 (fun h=>by rcases pr h with h|h;exact absurd h.1 (by omega);exact h.2)
  obtain ⟨q3,rfl,-⟩:=ny p3 (fun h=>by rcases pr h with h|h;exact absurd h.1 (by omega);exact h.2)
  obtain ⟨q4,rfl⟩:=pA p4 (fun h=>by rcases pr h with h|h;exact h.2;exact absurd h.1 (by omega))
  obtain ⟨q5,rfl⟩:=pA p5 (fun h=>by rcases pr h with h|h;exact h.2;exact absurd h.1 (by omega))
  refine ⟨⟨q0,q1,q2,q3,q4,q5⟩,rfl,fun h=>?_⟩
  show q2.size≤_
  rcases r2 with rfl|r2
  ·exact h
  ·omega) l 0 xs rfl h2
 rw[←e] at h1
 exact ⟨l',h1,e,hq⟩
inductive E7:List En→List En→Prop
 |nil:E7 [] []
 |cons {e d:En} {l k:List En} (h1:d.aQ.length=e.aQ.length) (h2:d.res.length=e.res.length) (h3:d.gone.length=e.gone.length) (ht:E7 l k):E7 (e::l) (d::k)
theorem E7.len {l k:List En} (h:E7 l k):k.length=l.length:=by
 induction h with
 |nil=>rfl
 |cons _ _ _ _ ih=>rw[List.length_cons,List.length_cons,ih]
theorem E7.sum {l k:List En} (h:E7 l k):bE kh k=bE kh l:=by
 induction h with
 |nil=>rfl
 |cons h1 h2 h3 _ ih=>simp only[bE,kh,h1,h2,h3,ih]
theorem E7.re {l k:List En} (h:E7 l k):(∀e ∈ l,Jx e)→∀e ∈ k,Jx e:=by
 induction h with
 |nil=>intro h;exact h
 |cons h1 h2 h3 _ ih =>
  intro h x hx
  rcases List.mem_cons.1 hx with rfl|hx
  ·have:=h _ (List.mem_cons_self ..)
   unfold Jx at this ⊢
   rw[h1,h2,h3];exact this
  ·exact ih (fun y hy=>h y (zF _ hy)) x hx
inductive AH:List Ms→List Ms→Prop
 |nil:AH [] []
 |cons {nm nm1:ByteArray} {fs WA:List Fd} {os YA:List ByteArray} {ms YD:List Ms} {es ZQ:List En} {rs Yw:List (Int×Int)} {gs ZN:List ByteArray} {l l1:List Ms}
   (hf:WA.length=fs.length) (Tm:(∀d ∈ fs,d.ty.size≤281474976710656)→∀d ∈ WA,d.ty.size≤281474976710656) (ho:YA.length=os.length) (hm:AH ms YD) (he:E7 es ZQ) (hr:Yw.length=rs.length) (hg:ZN.length=gs.length) (ht:AH l l1):AH (.mk nm fs os ms es rs gs::l) (.mk nm1 WA YA YD ZQ Yw ZN::l1)
theorem AH.len {l k:List Ms} (h:AH l k):k.length=l.length:=by
 induction h with
 |nil=>rfl
 |cons _ _ _ _ _ _ _ _ _ ih=>rw[List.length_cons,List.length_cons,ih]
theorem AH.dp {l k:List Ms} (h:AH l k):∀f,(∀m ∈ l,tg f m)→∀m ∈ k,tg f m:=by
 induction h with
 |nil=>intro f h;exact h
 |cons _ _ _ _ _ _ _ _ BY z' =>
  intro f h x hx
  rcases List.mem_cons.1 hx with rfl|hx
  ·have:=h _ (List.mem_cons_self ..)
   cases f with
   |zero=>exact this
   |succ f=>exact BY f this
  ·exact z' f (fun y hy=>h y (zF _ hy)) x hx
theorem AH.sz {l k:List Ms} (h:AH l k):∀f,(∀m ∈ l,wV f m)→∀m ∈ k,wV f m:=by
 induction h with
 |nil=>intro f h;exact h
 |cons _ Tm _ _ _ _ _ _ BY z' =>
  intro f h x hx
  rcases List.mem_cons.1 hx with rfl|hx
  ·have:=h _ (List.mem_cons_self ..)
   cases f with
   |zero=>trivial
   |succ f=>exact ⟨Tm this.1,BY f this.2⟩
  ·exact z' f (fun y hy=>h y (zF _ hy)) x hx
theorem AH.re {l k:List Ms} (h:AH l k):∀f,(∀m ∈ l,DI f m)→∀m ∈ k,DI f m:=by
 induction h with
 |nil=>intro f h;exact h
 |cons hf Tm ho hm he hr hg _ BY z' =>
  intro f h x hx
  rcases List.mem_cons.1 hx with rfl|hx
  ·have:=h _ (List.mem_cons_self ..)
   have hs:=this.s
   obtain ⟨s1,s2,s3,s4,s5,s6,s7⟩:=hs
   have key:PR _ _ _ _ _ _:=⟨by rw[hf];exact s1,by rw[ho];exact s2,by rw[hm.len];exact s3,by rw[he.len];exact s4,he.re s5,by rw[hr];exact s6,by rw[hg];exact s7⟩
   cases f with
   |zero=>exact key
   |succ f=>exact ⟨key,BY f this.2⟩
  ·exact z' f (fun y hy=>h y (zF _ hy)) x hx
theorem AH.sum {l k:List Ms} (h:AH l k):∀f,bE (cO f) k=bE (cO f) l:=by
 induction h with
 |nil=>intro f;rfl
 |cons hf Tm ho hm he hr hg _ BY z' =>
  intro f
  simp only[bE,z']
  cases f with
  |zero=>rfl
  |succ f=>simp only[cO,hf,ho,hr,hg,he.sum,BY]
theorem pd.sp {R:Nat→Prop}{w w':World}{B:Nat}{cs:List Value}{l:List En} (h:pd R w cs l) (hR:∀g,R g→B≤g) (hs:Sp B w w'):∀o xs,o % 4=0→Pw 67 o cs xs→∃k,pd R w' xs k∧E7 l k:=by
 induction h with
 |nil =>
  intro o xs ho hp
  obtain rfl:=hp.nil
  exact ⟨[],.nil,.nil⟩
 |cons hv hr hg _ ih =>
  intro o xs ho hp
  obtain ⟨y0,r0,rfl,p0,h0⟩:=hp.cons
  obtain ⟨y1,r1,rfl,p1,h1⟩:=h0.cons
  obtain ⟨y2,r2,rfl,p2,h2⟩:=h1.cons
  obtain ⟨y3,r3,rfl,p3,h3⟩:=h2.cons
  obtain ⟨q0,rfl,-⟩:=ny p0 (fun h=>(fL h).2)
  obtain rfl:=p1.resolve_right (fun h=>by have:=(fL h).1;omega)
  obtain rfl:=p2.resolve_right (fun h=>by have:=(fL h).1;omega)
  obtain rfl:=p3.resolve_right (fun h=>by have:=(fL h).1;omega)
  obtain ⟨k,k1,k2⟩:=ih (o+1+1+1+1) r3 (by omega) h3
  obtain ⟨l1,a1,b1⟩:=hv.spV hR hs
  obtain ⟨l2,a2,b2⟩:=hr.Yt hR hs
  obtain ⟨l3,a3,b3⟩:=hg.S6 hR hs
  exact ⟨⟨q0,l1,l2,l3⟩::k,pd.cons (e:=⟨q0,l1,l2,l3⟩) a1 a2 a3 k1,.cons b1 b2 b3 k2⟩
theorem pa.sp {R:Nat→Prop}{w w':World}{B:Nat}{cs:List Value}{l:List Ms} (h:pa R w cs l) (hR:∀g,R g→B≤g) (hs:Sp B w w'):∀o xs,o % 7=0→Pw 46 o cs xs→∃k,pa R w' xs k∧AH l k:=by
 induction h with
 |nil =>
  intro o xs ho hp
  obtain rfl:=hp.nil
  exact ⟨[],.nil,.nil⟩
 |cons hf hoo hm ej he fl hr hg _ BY ih =>
  intro o xs ho hp
  obtain ⟨y0,r0,rfl,p0,h0⟩:=hp.cons
  obtain ⟨y1,r1,rfl,p1,h1⟩:=h0.cons
  obtain ⟨y2,r2,rfl,p2,h2⟩:=h1.cons
  obtain ⟨y3,r3,rfl,p3,h3⟩:=h2.cons
  obtain ⟨y4,r4,rfl,p4,h4⟩:=h3.cons
  obtain ⟨y5,r5,rfl,p5,h5⟩:=h4.cons
  obtain ⟨y6,r6,rfl,p6,h6⟩:=h5.cons
  obtain ⟨q0,rfl,-⟩:=ny p0 (fun h=>(gw h).2)
  obtain rfl:=p1.resolve_right (fun h=>by have:=(gw h).1;omega)
  obtain rfl:=p2.resolve_right (fun h=>by have:=(gw h).1;omega)
  obtain rfl:=p3.resolve_right (fun h=>by have:=(gw h).1;omega)
  obtain rfl:=p4.resolve_right (fun h=>by have:=(gw h).1;omega)
  obtain rfl:=p5.resolve_right (fun h=>by have:=(gw h).1;omega)
  obtain rfl:=p6.resolve_right (fun h=>by have:=(gw h).1;omega)
  obtain ⟨k,k1,k2⟩:=ih (o+1+1+1+1+1+1+1) r6 (by omega) h6
  obtain ⟨l1,a1,b1,c1⟩:=hf.spF hR hs
  obtain ⟨l2,a2,b2⟩:=hoo.S6 hR hs
  obtain ⟨x3,a3,b3⟩:=hm.sp hR hs
  obtain ⟨l3,d3,e3⟩:=BY 0 x3 rfl b3
  rw[←e3.len] at a3
  obtain ⟨x4,a4,b4⟩:=he.sp hR hs
  obtain ⟨l4,d4,e4⟩:=fl.sp hR hs 0 x4 rfl b4
  rw[←e4.len] at a4
  obtain ⟨l5,a5,b5⟩:=hr.Yt hR hs
  obtain ⟨l6,a6,b6⟩:=hg.S6 hR hs
  exact ⟨_::k,.cons a1 a2 a3 d3 a4 d4 a5 a6 k1,.cons b1 c1 b2 e3 e4 b5 b6 k2⟩
theorem Je.sp {R:Nat→Prop}{w w':World}{B:Nat}{v vi vm ve:Value}{F:Fl}{cm ce:List Value} (h:Je R w v F vi vm ve cm ce) (hR:∀g,R g→B≤g) (hs:Sp B w w') :
  ∃(G:Fl) (xm xe:List Value),Je R w' v G vi vm ve xm xe∧G.kz=F.kz∧G.cT.length=F.cT.length∧AH F.ms G.ms∧E7 F.es G.es:=by
 obtain ⟨pk,is,ms,es⟩:=F
 obtain ⟨h1,hi,hm,ej,he,fl⟩:=h
 obtain ⟨l2,a2,b2⟩:=hi.S6 hR hs
 obtain ⟨x3,a3,b3⟩:=hm.sp hR hs
 obtain ⟨l3,d3,e3⟩:=ej.sp hR hs 0 x3 rfl b3
 rw[←e3.len] at a3
 obtain ⟨x4,a4,b4⟩:=he.sp hR hs
 obtain ⟨l4,d4,e4⟩:=fl.sp hR hs 0 x4 rfl b4
 rw[←e4.len] at a4
 exact ⟨⟨pk,l2,l3,l4⟩,x3,x4,⟨h1,a2,a3,d3,a4,d4⟩,rfl,b2,e3,e4⟩
theorem uD:∀(f:Nat) (l:List Ms),(∀m ∈ l,tg f m)→gI f l=l
 |0,[],_=>rfl
 |0,m::_,h=>(h m (List.mem_cons_self ..)).elim
 |f+1,l,h=>by
  show l.map (lK f)=l
  have:∀m ∈ l,lK f m=m:=fun m hm=>by
   obtain ⟨nm,fs,os,ms,es,rs,gs⟩:=m
   rw[ya,uD f ms (h _ hm)]
  rw[List.map_congr_left this,List.map_id'']
  intro x;rfl
theorem Ir:∀(f:Nat) (l:List Ms),∀m ∈ gI f l,tg f m
 |0,_,m,h=>by simp[gI] at h
 |f+1,l,m,h=>by
  obtain ⟨x,hx,rfl⟩:=List.mem_map.1 h
  obtain ⟨nm,fs,os,ms,es,rs,gs⟩:=x
  rw[ya]
  exact Ir f ms
end Go.Proofs.YtichhjfjcinjgaaGreatDoor

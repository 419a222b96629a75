import Derived.Test.YtghioefalckgoaaGreatDoorM44
namespace Go.Proofs.YtghioefalckgoaaGreatDoor
open Go.RowKit
def xE (y:Value):Prop:=∃s:ByteArray,y=.string s∧s.size≤8
def Qz (y:Value):Prop:=∃x:Int,y=.int .i64 x
def vQ (t j:Nat) (y:Value):Prop :=
 (t=9∧xE y)∨(t=83∧Qz y)∨(t=65∧((j % 2=0∧xE y)∨(j % 2=1∧Qz y))) ∨
 (t=53∧(((j % 6=0∨j % 6=4∨j % 6=5)∧Qz y)∨((j % 6=1∨j % 6=2∨j % 6=3)∧xE y)))∨(t=57∧j % 7=0∧xE y)∨(t=63∧j % 4=0∧xE y)
structure Sp (B:Nat→Prop) (w w':World):Prop where
 os:w'.os=w.os
 tape:w'.tape=w.tape
 output:w'.output=w.output
 size:w.heap.size≤w'.heap.size
 ku:∀g:Nat,g<w.heap.size→¬B g→w'.heap[g]?=w.heap[g]?
 cH:∀(g:Nat) (cs:Array Value) (t:TypeId),w.heap[g]?=some (.cells cs t (0,0))→∃fI:Array Value,w'.heap[g]?=some (.cells fI t (0,0))∧fI.size=cs.size∧∀j x,cs[j]?=some x→fI[j]?=some x∨∃y,fI[j]?=some y∧vQ t j y
theorem Sp.refl (B:Nat→Prop) (w:World):Sp B w w:=⟨rfl,rfl,rfl,zD _,fun _ _ _=>rfl,fun _ cs _ h=>⟨cs,h,rfl,fun _ _ hx=>.inl hx⟩⟩
theorem Sp.trans {B:Nat→Prop}{u v w:World} (h:Sp B u v) (k:Sp B v w):Sp B u w:=by
 refine ⟨k.os.trans h.os,k.tape.trans h.tape,k.output.trans h.output,Nat.le_trans h.size k.size,fun g hg hn=>(k.ku g (Nat.lt_of_lt_of_le hg h.size) hn).trans (h.ku g hg hn),fun g cs t hh=>?_⟩
 obtain ⟨c1,a1,a2,a3⟩:=h.cH g cs t hh
 obtain ⟨c2,b1,b2,b3⟩:=k.cH g c1 t a1
 refine ⟨c2,b1,b2.trans a2,fun j x hx=>?_⟩
 rcases a3 j x hx with e|⟨y,e,hy⟩
 ·exact b3 j x e
 ·rcases b3 j y e with e2|e2
  ·exact .inr ⟨y,e2,hy⟩
  ·exact .inr e2
theorem Sp.below {B:Nat→Prop}{w w':World} (hb:Below w.heap.size w w'):Sp B w w' :=
 ⟨hb.os,hb.tape,hb.output,hb.size,fun g hg _=>hb.block g hg,fun g cs _ h=>⟨cs,(hb.block g (zA h).1).trans h,rfl,fun _ _ hx=>.inl hx⟩⟩
theorem Sp.alloc {B:Nat→Prop}{w w':World} (h:Sp B w w') (o:Obj):Sp B w (w'.alloc o) :=
 h.trans (Sp.below ((zE _ _).alloc (zD _) _))
theorem Sp.bh {B:Nat}{w w':World} (h:Sp (fun g=>B≤g) w w') (hB:B≤w.heap.size):Below B w w' :=
 ⟨h.os,h.tape,h.output,h.size,fun g hg=>h.ku g (Nat.lt_of_lt_of_le hg hB) (Nat.not_le.2 hg)⟩
theorem Sp.set {B:Nat→Prop}{w:World}{g j:Nat}{cs:Array Value}{t:TypeId} (hh:w.heap[g]?=some (.cells cs t (0,0))) (hg:B g) {y:Value} (hy:vQ t j y):Sp B w (w.setCell ⟨g,j,none⟩ y):=by
 obtain ⟨a1,a2⟩:=aI (j:=j) hh y
 have aU:=(zA hh).1
 refine ⟨a2.os,a2.tape,a2.output,a2.size,fun k hk hn=>a2.block k (by omega) (by simp;rintro rfl;exact hn hg),fun g' fI t' jP=>?_⟩
 by_cases he:g'=g
 ·subst he
  rw[hh] at jP
  simp at jP
  obtain ⟨rfl,rfl⟩:=jP
  refine ⟨_,a1,by simp,fun i x hx=>?_⟩
  have tu:cs.toList[i]?=some x:=by rw[Array.getElem?_toList];exact hx
  by_cases Rh:j=i
  ·subst Rh
   refine .inr ⟨y,?_,hy⟩
   rw[List.getElem?_toArray,List.getElem?_set_self (zB tu).1]
  ·refine .inl ?_
   rw[List.getElem?_toArray,List.getElem?_set_ne Rh]
   exact tu
 ·exact ⟨fI,(a2.block _ (zA jP).1 (by simpa using fun e=>he e)).trans jP,rfl,fun _ _ hx=>.inl hx⟩
def Pw (t:Nat):Nat→List Value→List Value→Prop
 |_,[],[]=>True
 |o,x::r,y::r'=>(y=x∨vQ t o y)∧Pw t (o+1) r r'
 |_,_,_=>False
theorem Pw.len {t:Nat}:∀{o:Nat}{a b:List Value},Pw t o a b→b.length=a.length
 |_,[],[],_=>rfl
 |_,_::_,_::_,h=>by rw[List.length_cons,List.length_cons,h.2.len]
 |_,[],_::_,h=>h.elim
 |_,_::_,[],h=>h.elim
theorem Pw.app {t:Nat}:∀{o:Nat}{a b c:List Value},Pw t o (a++b) c→∃c1 c2,c=c1++c2∧Pw t o a c1∧Pw t (o+a.length) b c2
 |o,[],b,c,h=>⟨[],c,rfl,trivial,h⟩
 |o,x::a,b,[],h=>h.elim
 |o,x::a,b,y::c,h=>by
  obtain ⟨c1,c2,rfl,h1,h2⟩:=Pw.app h.2
  exact ⟨y::c1,c2,rfl,⟨h.1,h1⟩,by rw[List.length_cons,show o+(a.length+1)=o+1+a.length by omega];exact h2⟩
theorem OJ {t:Nat}:∀{a b:List Value}{o:Nat},b.length=a.length→(∀j x,a[j]?=some x→b[j]?=some x∨∃y,b[j]?=some y∧vQ t (o+j) y)→Pw t o a b
 |[],[],_,_,_=>trivial
 |[],_::_,_,h,_=>by simp at h
 |_::_,[],_,h,_=>by simp at h
 |x::a,y::b,o,h,k=>by
  refine ⟨?_,OJ (by simpa using h) (fun j z hz=>?_)⟩
  ·rcases k 0 x rfl with e|⟨q,e,hq⟩
   ·exact .inl (by simpa using e)
   ·refine .inr ?_
    obtain rfl:y=q:=by simpa using e
    exact hq
  ·have:=k (j+1) z (by simpa using hz)
   rw[show o+(j+1)=o+1+j by omega] at this
   simpa using this
theorem Pw.cons {t o:Nat}{x:Value}{r c:List Value} (h:Pw t o (x::r) c):∃y r',c=y::r'∧(y=x∨vQ t o y)∧Pw t (o+1) r r':=by
 cases c with
 |nil=>exact h.elim
 |cons y r'=>exact ⟨y,r',rfl,h.1,h.2⟩
theorem Pw.nil {t o:Nat}{c:List Value} (h:Pw t o [] c):c=[]:=by
 cases c with
 |nil=>rfl
 |cons y r'=>exact h.elim
theorem fW.sp {R:Nat→Prop}{w w':World}{B:Nat→Prop}{e size n:Nat}{v:Value}{xs:List Value} (h:fW R w e size v n xs) (hs:Sp B w w'):∃xs',fW R w' e size v n xs'∧Pw e 0 xs xs':=by
 obtain ⟨h1,h0,⟨rfl,rfl⟩|⟨g,cap,cur,rfl,h2,h3,h4,h5,h6,h7⟩⟩:=h
 ·obtain rfl:xs=[]:=List.eq_nil_of_length_eq_zero (by omega)
  exact ⟨[],⟨by simp,h0,.inl ⟨rfl,rfl⟩⟩,trivial⟩
 ·obtain ⟨c1,a1,a2,a3⟩:=hs.cH g cur e h3
  have hl:(c1.toList.take (n*size)).length=xs.length:=by rw[←h7,List.length_take,List.length_take,Array.length_toList,Array.length_toList,a2]
  refine ⟨c1.toList.take (n*size),⟨hl.trans h1,h0,.inr ⟨g,cap,c1,rfl,h2,a1,h4,h5,a2.trans h6,rfl⟩⟩,OJ hl (fun j x hx=>?_)⟩
  rw[←h7,List.getElem?_take] at hx
  rw[List.getElem?_take,Nat.zero_add]
  split at hx
  ·rename_i hj
   rw[if_pos hj,Array.getElem?_toList]
   exact a3 j x (by rw[←Array.getElem?_toList];exact hx)
  ·cases hx
theorem oI {α:Type}{f:α→List Value}{k:Nat}{t:Nat}{Q:α→Prop} (hf:∀x,(f x).length=k) (hs:∀a c o,o % k=0→Pw t o (f a) c→∃a',c=f a'∧(Q a→Q a')) :
  ∀(l:List α) (o:Nat) (xs:List Value),o % k=0→Pw t o (l.flatMap f) xs→∃l':List α,xs=l'.flatMap f∧l'.length=l.length∧((∀a ∈ l,Q a)→∀a ∈ l',Q a)
 |[],o,[],_,_=>⟨[],rfl,rfl,fun _ a h=>by simp at h⟩
 |[],o,_::_,_,h=>h.elim
 |a::l,o,xs,ho,h=>by
  rw[List.flatMap_cons] at h
  obtain ⟨c1,c2,rfl,h1,h2⟩:=h.app
  obtain ⟨a',rfl,ha⟩:=hs a c1 o ho h1
  rw[hf] at h2
  obtain ⟨l',rfl,h3,h4⟩:=oI hf hs l (o+k) c2 (by rw[Nat.add_mod_right];exact ho) h2
  refine ⟨a'::l',by rw[List.flatMap_cons],by rw[List.length_cons,List.length_cons,h3],fun hq x hx=>?_⟩
  rcases List.mem_cons.1 hx with rfl|hx
  ·exact ha (hq a (List.mem_cons_self ..))
  ·exact h4 (fun b hb=>hq b (zF _ hb)) x hx
theorem Mu {o:Nat}{y:Value} (h:vQ 9 o y):xE y:=by
 rcases h with h|h|h|h|h|h
 ·exact h.2
 all_goals exact absurd h.1 (by decide)
theorem Iz {o:Nat}{y:Value} (h:vQ 83 o y):Qz y:=by
 rcases h with h|h|h|h|h|h
 ·exact absurd h.1 (by decide)
 ·exact h.2
 all_goals exact absurd h.1 (by decide)
theorem IA {o:Nat}{y:Value} (h:vQ 65 o y):(o % 2=0∧xE y)∨(o % 2=1∧Qz y):=by
 rcases h with h|h|h|h|h|h
 ·exact absurd h.1 (by decide)
 ·exact absurd h.1 (by decide)
 ·exact h.2
 all_goals exact absurd h.1 (by decide)
theorem pK {o:Nat}{y:Value} (h:vQ 53 o y):((o % 6=0∨o % 6=4∨o % 6=5)∧Qz y)∨((o % 6=1∨o % 6=2∨o % 6=3)∧xE y):=by
 rcases h with h|h|h|h|h|h
 ·exact absurd h.1 (by decide)
 ·exact absurd h.1 (by decide)
 ·exact absurd h.1 (by decide)
 ·exact h.2
 all_goals exact absurd h.1 (by decide)
theorem fL {o:Nat}{y:Value} (h:vQ 57 o y):o % 7=0∧xE y:=by
 rcases h with h|h|h|h|h|h
 ·exact absurd h.1 (by decide)
 ·exact absurd h.1 (by decide)
 ·exact absurd h.1 (by decide)
 ·exact absurd h.1 (by decide)
 ·exact h.2
 ·exact absurd h.1 (by decide)
theorem fh {o:Nat}{y:Value} (h:vQ 63 o y):o % 4=0∧xE y:=by
 rcases h with h|h|h|h|h|h
 ·exact absurd h.1 (by decide)
 ·exact absurd h.1 (by decide)
 ·exact absurd h.1 (by decide)
 ·exact absurd h.1 (by decide)
 ·exact absurd h.1 (by decide)
 ·exact h.2
theorem nz {y:Value}{s:ByteArray}{p:Prop} (h:y=.string s∨p) (hp:p→xE y):∃s':ByteArray,y=.string s'∧(s'=s∨s'.size≤8):=by
 rcases h with rfl|h
 ·exact ⟨s,rfl,.inl rfl⟩
 ·obtain ⟨s',rfl,h8⟩:=hp h
  exact ⟨s',rfl,.inr h8⟩
theorem pW {y:Value}{x:Int}{p:Prop} (h:y=.int .i64 x∨p) (hp:p→Qz y):∃x':Int,y=.int .i64 x':=by
 rcases h with rfl|h
 ·exact ⟨x,rfl⟩
 ·exact hp h
theorem DD (l:List ByteArray):bj l=l.flatMap (fun s=>[Value.string s]):=by
 induction l with
 |nil=>rfl
 |cons a l ih=>rw[List.flatMap_cons,←ih];rfl
theorem fW.XE {R:Nat→Prop}{w w':World}{B:Nat→Prop}{v:Value}{l:List ByteArray} (h:fW R w 9 1 v l.length (bj l)) (hs:Sp B w w'):∃l',fW R w' 9 1 v l'.length (bj l')∧l'.length=l.length:=by
 obtain ⟨xs,h1,h2⟩:=h.sp hs
 rw[DD] at h2
 obtain ⟨l',rfl,e,-⟩:=oI (f:=fun s:ByteArray=>[Value.string s]) (k:=1) (Q:=fun _=>True) (fun _=>rfl) (fun a c o ho hp=>by
  obtain ⟨y0,r0,rfl,p0,h0⟩:=hp.cons
  obtain rfl:=h0.nil
  obtain ⟨s',rfl,-⟩:=nz p0 Mu
  exact ⟨s',rfl,fun h=>h⟩) l 0 xs rfl h2
 rw[←DD,←e] at h1
 exact ⟨l',h1,e⟩
theorem fW.spR {R:Nat→Prop}{w w':World}{B:Nat→Prop}{v:Value}{l:List (Int×Int)} (h:fW R w 83 2 v l.length (eP l)) (hs:Sp B w w'):∃l',fW R w' 83 2 v l'.length (eP l')∧l'.length=l.length:=by
 obtain ⟨xs,h1,h2⟩:=h.sp hs
 unfold eP at h2
 obtain ⟨l',rfl,e,-⟩:=oI (k:=2) (Q:=fun _=>True) (fun _=>rfl) (fun a c o ho hp=>by
  obtain ⟨y0,r0,rfl,p0,h0⟩:=hp.cons
  obtain ⟨y1,r1,rfl,p1,h1⟩:=h0.cons
  obtain rfl:=h1.nil
  obtain ⟨p,rfl⟩:=pW p0 Iz
  obtain ⟨q,rfl⟩:=pW p1 Iz
  exact ⟨(p,q),rfl,fun h=>h⟩) l 0 xs rfl h2
 rw[←e] at h1
 exact ⟨l',h1,e⟩
theorem fW.spV {R:Nat→Prop}{w w':World}{B:Nat→Prop}{v:Value}{l:List (ByteArray×Int)} (h:fW R w 65 2 v l.length (mR l)) (hs:Sp B w w'):∃l',fW R w' 65 2 v l'.length (mR l')∧l'.length=l.length:=by
 obtain ⟨xs,h1,h2⟩:=h.sp hs
 unfold mR at h2
 obtain ⟨l',rfl,e,-⟩:=oI (k:=2) (Q:=fun _=>True) (fun _=>rfl) (fun a c o ho hp=>by
  obtain ⟨y0,r0,rfl,p0,h0⟩:=hp.cons
  obtain ⟨y1,r1,rfl,p1,h1⟩:=h0.cons
  obtain rfl:=h1.nil
  obtain ⟨p,rfl,-⟩:=nz p0 (fun h=>by rcases IA h with h|h;exact h.2;exact absurd h.1 (by omega))
  obtain ⟨q,rfl⟩:=pW p1 (fun h=>by rcases IA h with h|h;exact absurd h.1 (by omega);exact h.2)
  exact ⟨(p,q),rfl,fun h=>h⟩) l 0 xs rfl h2
 rw[←e] at h1
 exact ⟨l',h1,e⟩
theorem fW.spF {R:Nat→Prop}{w w':World}{B:Nat→Prop}{v:Value}{l:List Fd} (h:fW R w 53 6 v l.length (cC l)) (hs:Sp B w w'):∃l',fW R w' 53 6 v l'.length (cC l')∧l'.length=l.length∧((∀d ∈ l,d.ty.size≤281474976710656)→∀d ∈ l',d.ty.size≤281474976710656):=by
 obtain ⟨xs,h1,h2⟩:=h.sp hs
 unfold cC at h2
 obtain ⟨l',rfl,e,hq⟩:=oI (k:=6) (Q:=fun d:Fd=>d.ty.size≤281474976710656) (fun _=>rfl) (fun a c o ho hp=>by
  obtain ⟨y0,r0,rfl,p0,h0⟩:=hp.cons
  obtain ⟨y1,r1,rfl,p1,h1⟩:=h0.cons
  obtain ⟨y2,r2,rfl,p2,h2⟩:=h1.cons
  obtain ⟨y3,r3,rfl,p3,h3⟩:=h2.cons
  obtain ⟨y4,r4,rfl,p4,h4⟩:=h3.cons
  obtain ⟨y5,r5,rfl,p5,h5⟩:=h4.cons
  obtain rfl:=h5.nil
  obtain ⟨q0,rfl⟩:=pW p0 (fun h=>by rcases pK h with h|h;exact h.2;exact absurd h.1 (by omega))
  obtain ⟨q1,rfl,-⟩:=nz p1 (fun h=>by rcases pK h with h|h;exact absurd h.1 (by omega);exact h.2)
  obtain ⟨q2,rfl,r2⟩:=nz p2 (fun h=>by rcases pK h with h|h;exact absurd h.1 (by omega);exact h.2)
  obtain ⟨q3,rfl,-⟩:=nz p3 (fun h=>by rcases pK h with h|h;exact absurd h.1 (by omega);exact h.2)
  obtain ⟨q4,rfl⟩:=pW p4 (fun h=>by rcases pK h with h|h;exact h.2;exact absurd h.1 (by omega))
  obtain ⟨q5,rfl⟩:=pW p5 (fun h=>by rcases pK h with h|h;exact h.2;exact absurd h.1 (by omega))
  refine ⟨⟨q0,q1,q2,q3,q4,q5⟩,rfl,fun h=>?_⟩
  show q2.size≤_
  rcases r2 with rfl|r2
  ·exact h
  ·omega) l 0 xs rfl h2
 rw[←e] at h1
 exact ⟨l',h1,e,hq⟩
inductive Gm:List En→List En→Prop
 |nil:Gm [] []
 |cons {e d:En} {l k:List En} (h1:d.aW.length=e.aW.length) (h2:d.res.length=e.res.length) (h3:d.gone.length=e.gone.length) (ht:Gm l k):Gm (e::l) (d::k)
theorem Gm.len {l k:List En} (h:Gm l k):k.length=l.length:=by
 induction h with
 |nil=>rfl
 |cons _ _ _ _ ih=>rw[List.length_cons,List.length_cons,ih]
theorem Gm.sum {l k:List En} (h:Gm l k):yk Yc k=yk Yc l:=by
 induction h with
 |nil=>rfl
 |cons h1 h2 h3 _ ih=>simp only[yk,Yc,h1,h2,h3,ih]
theorem Gm.re {l k:List En} (h:Gm l k):(∀e ∈ l,LK e)→∀e ∈ k,LK e:=by
 induction h with
 |nil=>intro h;exact h
 |cons h1 h2 h3 _ ih =>
  intro h x hx
  rcases List.mem_cons.1 hx with rfl|hx
  ·have:=h _ (List.mem_cons_self ..)
   unfold LK at this ⊢
   rw[h1,h2,h3];exact this
  ·exact ih (fun y hy=>h y (zF _ hy)) x hx
inductive Bz:List Ms→List Ms→Prop
 |nil:Bz [] []
 |cons {nm nm1:ByteArray} {fs fs1:List Fd} {os os1:List ByteArray} {ms ms1:List Ms} {es es1:List En} {rs rs1:List (Int×Int)} {gs gs1:List ByteArray} {l l1:List Ms}
   (hf:fs1.length=fs.length) (Pb:(∀d ∈ fs,d.ty.size≤281474976710656)→∀d ∈ fs1,d.ty.size≤281474976710656) (ho:os1.length=os.length) (hm:Bz ms ms1) (he:Gm es es1) (hr:rs1.length=rs.length) (hg:gs1.length=gs.length) (ht:Bz l l1):Bz (.mk nm fs os ms es rs gs::l) (.mk nm1 fs1 os1 ms1 es1 rs1 gs1::l1)
theorem Bz.len {l k:List Ms} (h:Bz l k):k.length=l.length:=by
 induction h with
 |nil=>rfl
 |cons _ _ _ _ _ _ _ _ _ ih=>rw[List.length_cons,List.length_cons,ih]
theorem Bz.dp {l k:List Ms} (h:Bz l k):∀f,(∀m ∈ l,zZ f m)→∀m ∈ k,zZ f m:=by
 induction h with
 |nil=>intro f h;exact h
 |cons _ _ _ _ _ _ _ _ q8 oU =>
  intro f h x hx
  rcases List.mem_cons.1 hx with rfl|hx
  ·have:=h _ (List.mem_cons_self ..)
   cases f with
   |zero=>exact this
   |succ f=>exact q8 f this
  ·exact oU f (fun y hy=>h y (zF _ hy)) x hx
theorem Bz.sz {l k:List Ms} (h:Bz l k):∀f,(∀m ∈ l,wm f m)→∀m ∈ k,wm f m:=by
 induction h with
 |nil=>intro f h;exact h
 |cons _ Pb _ _ _ _ _ _ q8 oU =>
  intro f h x hx
  rcases List.mem_cons.1 hx with rfl|hx
  ·have:=h _ (List.mem_cons_self ..)
   cases f with
   |zero=>trivial
   |succ f=>exact ⟨Pb this.1,q8 f this.2⟩
  ·exact oU f (fun y hy=>h y (zF _ hy)) x hx
theorem Bz.re {l k:List Ms} (h:Bz l k):∀f,(∀m ∈ l,Dk f m)→∀m ∈ k,Dk f m:=by
 induction h with
 |nil=>intro f h;exact h
 |cons hf Pb ho hm he hr hg _ q8 oU =>
  intro f h x hx
  rcases List.mem_cons.1 hx with rfl|hx
  ·have:=h _ (List.mem_cons_self ..)
   have hs:=this.s
   obtain ⟨s1,s2,s3,s4,s5,s6,s7⟩:=hs
   have key:Sy _ _ _ _ _ _:=⟨by rw[hf];exact s1,by rw[ho];exact s2,by rw[hm.len];exact s3,by rw[he.len];exact s4,he.re s5,by rw[hr];exact s6,by rw[hg];exact s7⟩
   cases f with
   |zero=>exact key
   |succ f=>exact ⟨key,q8 f this.2⟩
  ·exact oU f (fun y hy=>h y (zF _ hy)) x hx
theorem Bz.sum {l k:List Ms} (h:Bz l k):∀f,yk (NR f) k=yk (NR f) l:=by
 induction h with
 |nil=>intro f;rfl
 |cons hf Pb ho hm he hr hg _ q8 oU =>
  intro f
  simp only[yk,oU]
  cases f with
  |zero=>rfl
  |succ f=>simp only[NR,hf,ho,hr,hg,he.sum,q8]
theorem py.sp {R:Nat→Prop}{w w':World}{B:Nat→Prop}{cs:List Value}{l:List En} (h:py R w cs l) (hs:Sp B w w'):∀o xs,o % 4=0→Pw 63 o cs xs→∃k,py R w' xs k∧Gm l k:=by
 induction h with
 |nil =>
  intro o xs ho hp
  obtain rfl:=hp.nil
  exact ⟨[],.nil,.nil⟩
 |cons hv hr hg _ ih =>
  intro o xs ho hp
  obtain ⟨y0,r0,rfl,p0,h0⟩:=hp.cons
  obtain ⟨y1,r1,rfl,p1,h1⟩:=h0.cons
  obtain ⟨y2,r2,rfl,p2,h2⟩:=h1.cons
  obtain ⟨y3,r3,rfl,p3,h3⟩:=h2.cons
  obtain ⟨q0,rfl,-⟩:=nz p0 (fun h=>(fh h).2)
  obtain rfl:=p1.resolve_right (fun h=>by have:=(fh h).1;omega)
  obtain rfl:=p2.resolve_right (fun h=>by have:=(fh h).1;omega)
  obtain rfl:=p3.resolve_right (fun h=>by have:=(fh h).1;omega)
  obtain ⟨k,k1,k2⟩:=ih (o+1+1+1+1) r3 (by omega) h3
  obtain ⟨l1,a1,b1⟩:=hv.spV hs
  obtain ⟨l2,a2,b2⟩:=hr.spR hs
  obtain ⟨l3,a3,b3⟩:=hg.XE hs
  exact ⟨⟨q0,l1,l2,l3⟩::k,py.cons (e:=⟨q0,l1,l2,l3⟩) a1 a2 a3 k1,.cons b1 b2 b3 k2⟩
theorem pr.sp {R:Nat→Prop}{w w':World}{B:Nat→Prop}{cs:List Value}{l:List Ms} (h:pr R w cs l) (hs:Sp B w w'):∀o xs,o % 7=0→Pw 57 o cs xs→∃k,pr R w' xs k∧Bz l k:=by
 induction h with
 |nil =>
  intro o xs ho hp
  obtain rfl:=hp.nil
  exact ⟨[],.nil,.nil⟩
 |cons hf hoo hm eI he ep hr hg _ q8 ih =>
  intro o xs ho hp
  obtain ⟨y0,r0,rfl,p0,h0⟩:=hp.cons
  obtain ⟨y1,r1,rfl,p1,h1⟩:=h0.cons
  obtain ⟨y2,r2,rfl,p2,h2⟩:=h1.cons
  obtain ⟨y3,r3,rfl,p3,h3⟩:=h2.cons
  obtain ⟨y4,r4,rfl,p4,h4⟩:=h3.cons
  obtain ⟨y5,r5,rfl,p5,h5⟩:=h4.cons
  obtain ⟨y6,r6,rfl,p6,h6⟩:=h5.cons
  obtain ⟨q0,rfl,-⟩:=nz p0 (fun h=>(fL h).2)
  obtain rfl:=p1.resolve_right (fun h=>by have:=(fL h).1;omega)
  obtain rfl:=p2.resolve_right (fun h=>by have:=(fL h).1;omega)
  obtain rfl:=p3.resolve_right (fun h=>by have:=(fL h).1;omega)
  obtain rfl:=p4.resolve_right (fun h=>by have:=(fL h).1;omega)
  obtain rfl:=p5.resolve_right (fun h=>by have:=(fL h).1;omega)
  obtain rfl:=p6.resolve_right (fun h=>by have:=(fL h).1;omega)
  obtain ⟨k,k1,k2⟩:=ih (o+1+1+1+1+1+1+1) r6 (by omega) h6
  obtain ⟨l1,a1,b1,c1⟩:=hf.spF hs
  obtain ⟨l2,a2,b2⟩:=hoo.XE hs
  obtain ⟨x3,a3,b3⟩:=hm.sp hs
  obtain ⟨l3,d3,e3⟩:=q8 0 x3 rfl b3
  rw[←e3.len] at a3
  obtain ⟨x4,a4,b4⟩:=he.sp hs
  obtain ⟨l4,d4,e4⟩:=ep.sp hs 0 x4 rfl b4
  rw[←e4.len] at a4
  obtain ⟨l5,a5,b5⟩:=hr.spR hs
  obtain ⟨l6,a6,b6⟩:=hg.XE hs
  exact ⟨_::k,.cons a1 a2 a3 d3 a4 d4 a5 a6 k1,.cons b1 c1 b2 e3 e4 b5 b6 k2⟩
theorem Dp.sp {R:Nat→Prop}{w w':World}{B:Nat→Prop}{v vi vm ve:Value}{F:Fl}{cm ce:List Value} (h:Dp R w v F vi vm ve cm ce) (hs:Sp B w w') :
  ∃(G:Fl) (xm xe:List Value),Dp R w' v G vi vm ve xm xe∧G.dj=F.dj∧G.bp.length=F.bp.length∧Bz F.ms G.ms∧Gm F.es G.es:=by
 obtain ⟨pk,is,ms,es⟩:=F
 obtain ⟨h1,hi,hm,eI,he,ep⟩:=h
 obtain ⟨l2,a2,b2⟩:=hi.XE hs
 obtain ⟨x3,a3,b3⟩:=hm.sp hs
 obtain ⟨l3,d3,e3⟩:=eI.sp hs 0 x3 rfl b3
 rw[←e3.len] at a3
 obtain ⟨x4,a4,b4⟩:=he.sp hs
 obtain ⟨l4,d4,e4⟩:=ep.sp hs 0 x4 rfl b4
 rw[←e4.len] at a4
 exact ⟨⟨pk,l2,l3,l4⟩,x3,x4,⟨h1,a2,a3,d3,a4,d4⟩,rfl,b2,e3,e4⟩
theorem Dc:∀(f:Nat) (l:List Ms),(∀m ∈ l,zZ f m)→fp f l=l
 |0,[],_=>rfl
 |0,m::_,h=>(h m (List.mem_cons_self ..)).elim
 |f+1,l,h=>by
  show l.map (ri f)=l
  have:∀m ∈ l,ri f m=m:=fun m hm=>by
   obtain ⟨nm,fs,os,ms,es,rs,gs⟩:=m
   rw[zf,Dc f ms (h _ hm)]
  rw[List.map_congr_left this,List.map_id'']
  intro x;rfl
theorem Kt:∀(f:Nat) (l:List Ms),∀m ∈ fp f l,zZ f m
 |0,_,m,h=>by simp[fp] at h
 |f+1,l,m,h=>by
  obtain ⟨x,hx,rfl⟩:=List.mem_map.1 h
  obtain ⟨nm,fs,os,ms,es,rs,gs⟩:=x
  rw[zf]
  exact Kt f ms
end Go.Proofs.YtghioefalckgoaaGreatDoor

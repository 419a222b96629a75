import Derived.Test.YtmlphohdcejniaaGreatDoorM14
namespace Go.Proofs.YtmlphohdcejniaaGreatDoor
open Go.RowKit
structure En where
 name:ByteArray
 bL:List (ByteArray×Int)
 res:List (Int×Int)
 gone:List ByteArray
inductive Ms where
 |mk (name:ByteArray) (fs:List Fd) (os:List ByteArray) (ms:List Ms) (es:List En) (rs:List (Int×Int)) (gs:List ByteArray):Ms
structure Fl where
 eI:ByteArray
 bM:List ByteArray
 ms:List Ms
 es:List En
def bW (l:List ByteArray):List Value:=l.map Value.string
def iF (l:List Fd):List Value:=l.flatMap fun d=>d.arr.toList
def xZ (l:List (ByteArray×Int)):List Value:=l.flatMap fun p=>[.string p.1,.int .i64 p.2]
def lj (l:List (Int×Int)):List Value:=l.flatMap fun p=>[.int .i64 p.1,.int .i64 p.2]
theorem wO (a b:List ByteArray):bW (a++b)=bW a++bW b:=List.map_append
theorem NR (a b:List Fd):iF (a++b)=iF a++iF b:=List.flatMap_append
theorem Iw (a b:List (ByteArray×Int)):xZ (a++b)=xZ a++xZ b:=List.flatMap_append
theorem G2 (a b:List (Int×Int)):lj (a++b)=lj a++lj b:=List.flatMap_append
def fm (P:Nat→Prop) (w:World) (t:TypeId) (sz:Nat) (v:Value) (n:Nat) (xs:List Value):Prop:=w.ownsRow 0 t sz v n xs∧∀g,v.ownBlock=some g→P g
def jx (P P':Nat→Prop) (w w':World):Prop:=∀k,P k→k<w.heap.size→P' k∧w'.heap[k]?=w.heap[k]?
theorem fm.goes {P P':Nat→Prop}{w w':World}{t sz n:Nat}{v:Value}{xs:List Value} (h:fm P w t sz v n xs) (hg:jx P P' w w'):fm P' w' t sz v n xs:=by
 obtain ⟨h1,h2⟩:=h
 refine ⟨⟨h1.1,?_⟩,fun g e=>(hg g (h2 g e) (h1.lt g e).2).1⟩
 rcases h1.2 with h3|⟨g,cap,cur,rfl,hb,hc,rest⟩
 ·exact .inl h3
 ·exact .inr ⟨g,cap,cur,rfl,hb,((hg g (h2 g rfl) (zA hc).1).2).trans hc,rest⟩
def aK (N:(Nat→Prop)→World→Prop):Prop:=∀P P' w w',jx P P' w w'→N P w→N P' w'
theorem aK.and {N M:(Nat→Prop)→World→Prop} (h:aK N) (k:aK M):aK fun P w=>N P w∧M P w:=fun P P' w w' hg hn=>⟨h P P' w w' hg hn.1,k P P' w w' hg hn.2⟩
theorem nz:aK fun _ _=>True:=fun _ _ _ _ _ _=>trivial
inductive eS (P:Nat→Prop) (w:World):List Value→List En→Prop
 |nil:eS P w [] []
 |cons {e:En} {vv vr vg:Value} {rest:List Value} {l:List En} (hv:fm P w 94 2 vv e.bL.length (xZ e.bL)) (hr:fm P w 111 2 vr e.res.length (lj e.res)) (hg:fm P w 9 1 vg e.gone.length (bW e.gone)) (ht:eS P w rest l):eS P w (.string e.name::vv::vr::vg::rest) (e::l)
theorem cT (cs:List Value) (l:List En):aK fun P w=>eS P w cs l:=by
 intro P P' w w' hg h
 induction h with
 |nil=>exact .nil
 |cons hv hr mO _ ih=>exact .cons (hv.goes hg) (hr.goes hg) (mO.goes hg) ih
theorem eS.app {P:Nat→Prop}{w:World}{a b:List Value}{l k:List En} (h:eS P w a l) (hb:eS P w b k):eS P w (a++b) (l++k):=by
 induction h with
 |nil=>exact hb
 |cons hv hr mO _ ih=>exact .cons hv hr mO ih
theorem eS.len {P:Nat→Prop}{w:World}{a:List Value}{l:List En} (h:eS P w a l):a.length=l.length*4:=by
 induction h with
 |nil=>rfl
 |cons hv hr mO _ ih=>simp only[List.length_cons,ih];omega
inductive cU (P:Nat→Prop) (w:World):List Value→List Ms→Prop
 |nil:cU P w [] []
 |cons {nm:ByteArray} {fs:List Fd} {os:List ByteArray} {ms:List Ms} {es:List En} {rs:List (Int×Int)} {gs:List ByteArray} {vf vo vm ve vr vg:Value} {cm ce rest:List Value} {l:List Ms}
   (hf:fm P w 70 6 vf fs.length (iF fs)) (ho:fm P w 9 1 vo os.length (bW os)) (hm:fm P w 64 7 vm ms.length cm) (jT:cU P w cm ms) (he:fm P w 68 4 ve es.length ce) (mP:eS P w ce es)
   (hr:fm P w 111 2 vr rs.length (lj rs)) (hg:fm P w 9 1 vg gs.length (bW gs)) (ht:cU P w rest l):cU P w (.string nm::vf::vo::vm::ve::vr::vg::rest) (.mk nm fs os ms es rs gs::l)
theorem df (cs:List Value) (l:List Ms):aK fun P w=>cU P w cs l:=by
 intro P P' w w' hg h
 induction h with
 |nil=>exact .nil
 |cons hf ho hm _ he mP hr mO _ XY JU=>exact .cons (hf.goes hg) (ho.goes hg) (hm.goes hg) XY (he.goes hg) (cT _ _ P P' w w' hg mP) (hr.goes hg) (mO.goes hg) JU
theorem cU.app {P:Nat→Prop}{w:World}{a b:List Value}{l k:List Ms} (h:cU P w a l) (hb:cU P w b k):cU P w (a++b) (l++k):=by
 induction h with
 |nil=>exact hb
 |cons hf ho hm jT he mP hr mO _ _ JU=>exact .cons hf ho hm jT he mP hr mO JU
theorem cU.len {P:Nat→Prop}{w:World}{a:List Value}{l:List Ms} (h:cU P w a l):a.length=l.length*7:=by
 induction h with
 |nil=>rfl
 |cons hf ho hm jT he mP hr mO _ _ JU=>simp only[List.length_cons,JU];omega
def aP (p:Nat) (vs:Array Value) (t:TypeId) (P:Nat→Prop) (w:World):Prop:=w.heap[p]?=some (.cells vs t (0,0))∧P p
theorem bp (p:Nat) (vs:Array Value) (t:TypeId):aK (aP p vs t):=by
 intro P P' w w' hg h
 obtain ⟨h1,h2⟩:=hg p h.2 (zA h.1).1
 exact ⟨h2.trans h.1,h1⟩
structure Slot where
 t:TypeId
 sz:Nat
 v:Value
 n:Nat
 xs:List Value
structure Bx (w:World) (g:Nat) (T:TypeId) (nm:ByteArray) (ss:List Slot):Prop where
 dJ:w.heap[g]?=some (.cells (.string nm::ss.map Slot.v).toArray T (0,0))
 own:∀(i:Nat) (sl:Slot),ss[i]?=some sl→w.ownsRow (g+1) sl.t sl.sz sl.v sl.n sl.xs
 apart:∀(i j:Nat) (a c:Slot),i≠j→ss[i]?=some a→ss[j]?=some c→∀k,a.v.ownBlock=some k→c.v.ownBlock≠some k
def Fz (ss:List Slot) (g b k:Nat):Prop:=k≠b∧k≠g∧∀(i:Nat) (sl:Slot),ss[i]?=some sl→sl.v.ownBlock≠some k
theorem Bx.lt {w:World}{g T:Nat}{nm:ByteArray}{ss:List Slot} (h:Bx w g T nm ss):g<w.heap.size:=(zA h.dJ).1
theorem Bx.same {w w':World}{g T:Nat}{nm:ByteArray}{ss:List Slot} (h:Bx w g T nm ss) (hs:∀k,g≤k→k<w.heap.size→w'.heap[k]?=w.heap[k]?):Bx w' g T nm ss:=by
 refine ⟨(hs g (zD _) h.lt).trans h.dJ,fun i sl hi=>?_,h.apart⟩
 have h1:=h.own i sl hi
 refine ⟨h1.1,?_⟩
 rcases h1.2 with h3|⟨r,cap,cur,e,hb,hc,rest⟩
 ·exact .inl h3
 ·exact .inr ⟨r,cap,cur,e,hb,(hs r (by omega) (zA hc).1).trans hc,rest⟩
structure Sv (g b:Nat) (W w:World):Prop where
 os:w.os=W.os
 tape:w.tape=W.tape
 output:w.output=W.output
 size:W.heap.size≤w.heap.size
 block:∀k,k<g→k≠b→w.heap[k]?=W.heap[k]?
theorem Sv.refl (g b:Nat) (W:World):Sv g b W W:=⟨rfl,rfl,rfl,zD _,fun _ _ _=>rfl⟩
theorem Sv.trans {g b:Nat}{W w w':World} (h:Sv g b W w) (k:Sv g b w w'):Sv g b W w':=⟨k.os.trans h.os,k.tape.trans h.tape,k.output.trans h.output,Nat.le_trans h.size k.size,fun i h1 h2=>(k.block i h1 h2).trans (h.block i h1 h2)⟩
theorem Sv.of {g b:Nat}{W w:World} (h:W.grownBy w (some b)) (hl:g≤W.heap.size):Sv g b W w:=⟨h.os,h.tape,h.output,h.size,fun k h1 h2=>h.block k (by omega) (by simpa using h2)⟩
theorem Sv.grown {g b:Nat}{W w:World} (h:Sv g b W w) (hl:W.heap.size≤g):W.grownBy w (some b):=⟨h.os,h.tape,h.output,h.size,fun k h1 h2=>h.block k (by omega) (by simpa using h2)⟩
theorem Sv.other {g b r:Nat}{W w:World} (h:W.grownBy w (some r)) (hr:g≤r) (hl:g≤W.heap.size):Sv g b W w:=⟨h.os,h.tape,h.output,h.size,fun k h1 h2=>h.block k (by omega) (by simp;omega)⟩
theorem Sv.mono {g g' b:Nat}{W w:World} (h:Sv g b W w) (hl:g'≤g):Sv g' b W w:=⟨h.os,h.tape,h.output,h.size,fun k h1 h2=>h.block k (by omega) h2⟩
structure Ap (lo b g:Nat) (T:TypeId) (nm:ByteArray) (ss:List Slot) (N:(Nat→Prop)→World→Prop) (V W:World) (s:aD) (w:World):Prop where
 bx:Bx w g T nm ss
 nx:N (Fz ss g b) w
 rd:Rd lo w b s
 lg:lo≤g
 sv:Sv g b W w
 ev:Env V w b
theorem Ap.below {lo b g T:Nat}{nm:ByteArray}{ss:List Slot}{N:(Nat→Prop)→World→Prop}{V W w:World}{s:aD} (h:Ap lo b g T nm ss N V W s w):b<lo∧lo≤g∧b<g∧g<w.heap.size:=⟨h.rd.low.1,h.lg,Nat.lt_of_lt_of_le h.rd.low.1 h.lg,h.bx.lt⟩
theorem Ap.read {lo b g T:Nat}{nm:ByteArray}{ss:List Slot}{N:(Nat→Prop)→World→Prop}{V W w w':World}{s s':aD} (h:Ap lo b g T nm ss N V W s w) (hN:aK N) (hr:Rd lo w' b s') (hg:w.grownBy w' (some b)):Ap lo b g T nm ss N V W s' w':=by
 obtain ⟨h1,h2,h3,h4⟩:=h.below
 refine ⟨h.bx.same (fun k h5 h6=>hg.block k h6 (by simp;omega)),hN _ _ w w' (fun k hk hl=>⟨hk,hg.block k hl (by simpa using hk.1)⟩) h.nx,hr,h.lg,h.sv.trans (Sv.of hg (by omega)),h.ev.step hg⟩
theorem Ap.up {lo b g T:Nat}{nm:ByteArray}{ss:List Slot}{N:(Nat→Prop)→World→Prop}{V W w w':World}{s:aD} (h:Ap lo b g T nm ss N V W s w) (hN:aK N) (hb:Below w.heap.size w w'):Ap lo b g T nm ss N V W s w':=h.read hN (h.rd.up hb) (aA b hb)
theorem Ap.imp {lo b g T:Nat}{nm:ByteArray}{ss:List Slot}{N N':(Nat→Prop)→World→Prop}{V W w:World}{s:aD} (h:Ap lo b g T nm ss N V W s w) (hi:N (Fz ss g b) w→N' (Fz ss g b) w):Ap lo b g T nm ss N' V W s w:=⟨h.bx,hi h.nx,h.rd,h.lg,h.sv,h.ev⟩
theorem Ap.fresh {lo b g T:Nat}{nm:ByteArray}{ss:List Slot}{N:(Nat→Prop)→World→Prop}{V W w:World}{s:aD} (h:Ap lo b g T nm ss N V W s w) {k:Nat} (hk:w.heap.size≤k):Fz ss g b k:=by
 obtain ⟨h1,h2,h3,h4⟩:=h.below
 refine ⟨by omega,by omega,fun i sl hi e=>?_⟩
 have:=((h.bx.own i sl hi).lt k e).2
 omega
theorem Ap.join {lo b g T:Nat}{nm:ByteArray}{ss:List Slot}{N N1:(Nat→Prop)→World→Prop}{V W w w':World}{s s':aD} (h:Ap lo b g T nm ss N V W s w) (hN:aK N) (iS:aK N1) (hr:Rd lo w' b s') (hg:w.grownBy w' (some b)) (h1:N1 (fun k=>w.heap.size≤k) w'):Ap lo b g T nm ss (fun P w=>N P w∧N1 P w) V W s' w':=by
 have h2:=h.read hN hr hg
 exact ⟨h2.bx,⟨h2.nx,iS _ _ w' w' (fun k hk _=>⟨h.fresh hk,rfl⟩) h1⟩,h2.rd,h2.lg,h2.sv,h2.ev⟩
theorem mK {α β:Type} (f:α→β):∀(l:List α) (i:Nat) (x:α),(l.set i x).map f=(l.map f).set i (f x)
 |[],_,_=>rfl
 |_::_,0,_=>rfl
 |a::r,i+1,x=>by simp[mK f r i x]
theorem Ap.app {lo b g T:Nat}{nm:ByteArray}{ss:List Slot}{N:(Nat→Prop)→World→Prop}{V W w w1:World}{s:aD}{i n':Nat}{sl:Slot}{v':Value}{xs':List Value} (h:Ap lo b g T nm ss N V W s w) (hN:aK N) (hi:ss[i]?=some sl) (hg:w.grownBy w1 sl.v.ownBlock)
  (ho:w1.ownsRow (g+1) sl.t sl.sz v' n' xs') (hl:v'.ownBlock=sl.v.ownBlock∨v'.ownBlock=some w.heap.size):Ap lo b g T nm (ss.set i ⟨sl.t,sl.sz,v',n',xs'⟩) N V W s (w1.setCell ⟨g,i+1,none⟩ v'):=by
 obtain ⟨l1,l2,l3,l4⟩:=h.below
 have hil:i<ss.length:=(zB hi).1
 have cP:∀k,sl.v.ownBlock=some k→g+1≤k∧k<w.heap.size:=(h.bx.own i sl hi).lt
 have UH:w1.heap[g]?=some (.cells (.string nm::ss.map Slot.v).toArray T (0,0)):=(hg.block g l4 (fun e=>by have:=cP g e.symm;omega)).trans h.bx.dJ
 obtain ⟨q1,q2⟩:=aJ (j:=i+1) UH v'
 have mO:∀k,k<w.heap.size→k≠g→sl.v.ownBlock≠some k→(w1.setCell ⟨g,i+1,none⟩ v').heap[k]?=w.heap[k]?:=fun k h1 h2 h3=>(q2.block k (Nat.lt_of_lt_of_le h1 hg.size) (by simpa using h2)).trans (hg.block k h1 (fun e=>h3 e.symm))
 have FM:∀j qY,(ss.set i ⟨sl.t,sl.sz,v',n',xs'⟩)[j]?=some qY→(j=i∧qY=⟨sl.t,sl.sz,v',n',xs'⟩)∨(j≠i∧ss[j]?=some qY):=fun j qY hj=>by
  rw[List.getElem?_set] at hj
  split at hj
  ·rename_i e
   subst e
   exact .inl ⟨rfl,(zC hj).symm⟩
  ·rename_i e
   exact .inr ⟨fun q=>e q.symm,hj⟩
 have hv':∀k,v'.ownBlock=some k→sl.v.ownBlock=some k∨k=w.heap.size:=fun k e=>by
  rcases hl with q|q
  ·exact .inl (q.symm.trans e)
  ·rw[q] at e
   exact .inr (zC e).symm
 refine ⟨⟨?_,fun j qY hj=>?_,fun j j' a c eo ha hc k hk hk'=>?_⟩,?_,?_,h.lg,?_,?_⟩
 ·rw[q1]
  congr 2
  rw[mK]
  simp
 ·rcases FM j qY hj with ⟨rfl,rfl⟩|⟨eo,QR⟩
  ·refine World.ownsRow.kept ho q2 ?_
   right
   intro e
   rcases hv' g e with q|q
   ·have:=cP g q;omega
   ·omega
  ·have h1:=h.bx.own j qY QR
   refine ⟨h1.1,?_⟩
   rcases h1.2 with h3|⟨r,cap,cur,e,hb,hc,rest⟩
   ·exact .inl h3
   ·refine .inr ⟨r,cap,cur,e,hb,(mO r (zA hc).1 (by omega) ?_).trans hc,rest⟩
    exact fun q=>h.bx.apart i j sl qY (Ne.symm eo) hi QR r q (by rw[e];rfl)
 ·rcases FM j a ha with ⟨rfl,rfl⟩|⟨hj,hja⟩<;>rcases FM j' c hc with ⟨rfl,rfl⟩|⟨QR,J1⟩
  ·exact eo rfl
  ·rcases hv' k hk with q|q
   ·exact h.bx.apart j j' sl c eo hi J1 k q hk'
   ·have:=((h.bx.own j' c J1).lt k hk').2;omega
  ·rcases hv' k hk' with q|q
   ·exact h.bx.apart j j' a sl eo hja hi k hk q
   ·have:=((h.bx.own j a hja).lt k hk).2;omega
  ·exact h.bx.apart j j' a c eo hja J1 k hk hk'
 ·refine hN _ _ w _ (fun k hk YK=>⟨⟨hk.1,hk.2.1,fun j qY hj e=>?_⟩,mO k YK hk.2.1 (hk.2.2 i sl hi)⟩) h.nx
  rcases FM j qY hj with ⟨rfl,rfl⟩|⟨eo,QR⟩
  ·rcases hv' k e with q|q
   ·exact hk.2.2 _ sl hi q
   ·omega
  ·exact hk.2.2 j qY QR e
 ·refine h.rd.Tv ⟨(q2.os).trans hg.os,q2.tape.trans hg.tape,q2.output.trans hg.output,Nat.le_trans hg.size q2.size,fun k hk=>mO k (by omega) (by omega) (fun e=>by have:=cP k e;omega)⟩
 ·refine h.sv.trans ⟨(q2.os).trans hg.os,q2.tape.trans hg.tape,q2.output.trans hg.output,Nat.le_trans hg.size q2.size,fun k hk _=>mO k (by omega) (by omega) (fun e=>by have:=cP k e;omega)⟩
 ·have:=h.ev.lo
  exact ⟨h.ev.f,h.ev.e,h.ev.m,h.ev.below.trans ⟨(q2.os).trans hg.os,q2.tape.trans hg.tape,q2.output.trans hg.output,Nat.le_trans hg.size q2.size,fun k hk=>mO k (by omega) (by omega) (fun e=>by have:=cP k e;omega)⟩,h.ev.lo⟩
theorem nA {α:Type}{l:List α}{i:Nat}{x:α} (h:l[i]?=some x):l.set i x=l:=by
 apply List.ext_getElem?
 intro m
 rw[List.getElem?_set]
 split
 ·rename_i e
  subst e
  obtain ⟨h1,h2⟩:=zB h
  simp[h1,h2]
 ·rfl
theorem Ap.setRow {lo b g T:Nat}{nm:ByteArray}{ss:List Slot}{N:(Nat→Prop)→World→Prop}{V W w:World}{s:aD}{i k:Nat}{sl:Slot} (h:Ap lo b g T nm ss N V W s w) (hN:aK N) (hi:ss[i]?=some sl) (hk:sl.v.ownBlock=some k) (j:Nat) (u:Value):Ap lo b g T nm (ss.set i ⟨sl.t,sl.sz,sl.v,sl.n,sl.xs.set j u⟩) N V W s (w.setCell ⟨k,j,none⟩ u):=by
 obtain ⟨l1,l2,l3,l4⟩:=h.below
 have hil:i<ss.length:=(zB hi).1
 have h0:=h.bx.own i sl hi
 obtain ⟨r1,r2⟩:=h0.lt k hk
 obtain ⟨c,hc⟩:∃c,sl.v=.slice (some ⟨k,0,none⟩) sl.n c:=by
  rcases h0.2 with ⟨e,_⟩|⟨g',cap,_,e,_⟩
  ·rw[e] at hk;cases hk
  ·rw[e] at hk
   cases hk
   exact ⟨cap,e⟩
 have h0':w.ownsRow (g+1) sl.t sl.sz (.slice (some ⟨k,0,none⟩) sl.n c) sl.n sl.xs:=by rw[←hc];exact h0
 obtain ⟨q1,q2⟩:=World.ownsRow.stored h0' j u
 have mO:∀m,m<w.heap.size→m≠k→(w.setCell ⟨k,j,none⟩ u).heap[m]?=w.heap[m]?:=fun m h1 h2=>q2.block m h1 (by simpa using h2)
 have FM:∀(m:Nat) (qY:Slot),(ss.set i ⟨sl.t,sl.sz,sl.v,sl.n,sl.xs.set j u⟩)[m]?=some qY→(m=i∧qY=⟨sl.t,sl.sz,sl.v,sl.n,sl.xs.set j u⟩)∨(m≠i∧ss[m]?=some qY):=fun m qY hm=>by
  rw[List.getElem?_set] at hm
  split at hm
  ·rename_i e
   subst e
   exact .inl ⟨rfl,(zC hm).symm⟩
  ·rename_i e
   exact .inr ⟨fun q=>e q.symm,hm⟩
 have hv:∀(m:Nat) (qY:Slot),(ss.set i ⟨sl.t,sl.sz,sl.v,sl.n,sl.xs.set j u⟩)[m]?=some qY→∃sl0,ss[m]?=some sl0∧sl0.v=qY.v:=fun m qY hm=>by
  rcases FM m qY hm with ⟨rfl,rfl⟩|⟨_,Wy⟩
  ·exact ⟨sl,hi,rfl⟩
  ·exact ⟨qY,Wy,rfl⟩
 have hb:∀m,m<g→(w.setCell ⟨k,j,none⟩ u).heap[m]?=w.heap[m]?:=fun m hm=>mO m (by omega) (by omega)
 refine ⟨⟨?_,fun m qY hm=>?_,fun m m' a c' eo ha Nr x hx rS=>?_⟩,?_,?_,h.lg,?_,?_⟩
 ·rw[mO g l4 (by omega),h.bx.dJ]
  rw[mK]
  simp only
  rw[nA (show (ss.map Slot.v)[i]?=some sl.v by simp[hi])]
 ·rcases FM m qY hm with ⟨rfl,rfl⟩|⟨eo,Wy⟩
  ·simp only
   rw[hc]
   exact q1
  ·have h1:=h.bx.own m qY Wy
   refine ⟨h1.1,?_⟩
   rcases h1.2 with h3|⟨r,cap,cur,e,hb,UP,rest⟩
   ·exact .inl h3
   ·refine .inr ⟨r,cap,cur,e,hb,(mO r (zA UP).1 ?_).trans UP,rest⟩
    rintro rfl
    exact h.bx.apart i m sl qY (Ne.symm eo) hi Wy r hk (by rw[e];rfl)
 ·obtain ⟨a0,e1,e2⟩:=hv m a ha
  obtain ⟨c0,e3,e4⟩:=hv m' c' Nr
  exact h.bx.apart m m' a0 c0 eo e1 e3 x (e2 ▸ hx) (e4 ▸ rS)
 ·refine hN _ _ w _ (fun m hm hml=>⟨⟨hm.1,hm.2.1,fun q qY hq e=>?_⟩,mO m hml (fun e=>hm.2.2 i sl hi (e ▸ hk))⟩) h.nx
  obtain ⟨a0,e1,e2⟩:=hv q qY hq
  exact hm.2.2 q a0 e1 (e2 ▸ e)
 ·exact h.rd.Tv ⟨q2.os,q2.tape,q2.output,q2.size,fun m hm=>hb m (by omega)⟩
 ·exact h.sv.trans ⟨q2.os,q2.tape,q2.output,q2.size,fun m hm _=>hb m hm⟩
 ·have:=h.ev.lo
  exact ⟨h.ev.f,h.ev.e,h.ev.m,h.ev.below.trans ⟨q2.os,q2.tape,q2.output,q2.size,fun m hm=>hb m (by omega)⟩,h.ev.lo⟩
end Go.Proofs.YtmlphohdcejniaaGreatDoor

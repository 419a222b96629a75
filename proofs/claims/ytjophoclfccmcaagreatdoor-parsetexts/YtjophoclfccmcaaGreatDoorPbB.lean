import Derived.Test.YtjophoclfccmcaaGreatDoorM16
namespace Go.Proofs.YtjophoclfccmcaaGreatDoor
open Go.RowKit
structure En where
 name:ByteArray
 bT:List (ByteArray×Int)
 res:List (Int×Int)
 gone:List ByteArray
inductive Ms where
 |mk (name:ByteArray) (fs:List Fd) (os:List ByteArray) (ms:List Ms) (es:List En) (rs:List (Int×Int)) (gs:List ByteArray):Ms
structure Fl where
 kH:ByteArray
 fU:List ByteArray
 ms:List Ms
 es:List En
def dV (l:List ByteArray):List Value:=l.map Value.string
def mF (l:List Fd):List Value:=l.flatMap fun d=>d.arr.toList
def KY (l:List (ByteArray×Int)):List Value:=l.flatMap fun p=>[.string p.1,.int .i64 p.2]
def qC (l:List (Int×Int)):List Value:=l.flatMap fun p=>[.int .i64 p.1,.int .i64 p.2]
theorem mj (a b:List ByteArray):dV (a++b)=dV a++dV b:=List.map_append
theorem rz (a b:List Fd):mF (a++b)=mF a++mF b:=List.flatMap_append
theorem I5 (a b:List (ByteArray×Int)):KY (a++b)=KY a++KY b:=List.flatMap_append
theorem xd (a b:List (Int×Int)):qC (a++b)=qC a++qC b:=List.flatMap_append
def jd (P:Nat→Prop) (w:World) (t:TypeId) (sz:Nat) (v:Value) (n:Nat) (xs:List Value):Prop:=w.ownsRow 0 t sz v n xs∧∀g,v.ownBlock=some g→P g
def wW (P P':Nat→Prop) (w w':World):Prop:=∀k,P k→k<w.heap.size→P' k∧w'.heap[k]?=w.heap[k]?
theorem jd.goes {P P':Nat→Prop}{w w':World}{t sz n:Nat}{v:Value}{xs:List Value} (h:jd P w t sz v n xs) (hg:wW P P' w w'):jd P' w' t sz v n xs:=by
 obtain ⟨h1,h2⟩:=h
 refine ⟨⟨h1.1,?_⟩,fun g e=>(hg g (h2 g e) (h1.lt g e).2).1⟩
 rcases h1.2 with h3|⟨g,cap,cur,rfl,hb,hc,rest⟩
 ·exact .inl h3
 ·exact .inr ⟨g,cap,cur,rfl,hb,((hg g (h2 g rfl) (zA hc).1).2).trans hc,rest⟩
def aP (N:(Nat→Prop)→World→Prop):Prop:=∀P P' w w',wW P P' w w'→N P w→N P' w'
theorem aP.and {N M:(Nat→Prop)→World→Prop} (h:aP N) (k:aP M):aP fun P w=>N P w∧M P w:=fun P P' w w' hg hn=>⟨h P P' w w' hg hn.1,k P P' w w' hg hn.2⟩
theorem nP:aP fun _ _=>True:=fun _ _ _ _ _ _=>trivial
inductive fH (P:Nat→Prop) (w:World):List Value→List En→Prop
 |nil:fH P w [] []
 |cons {e:En} {vv vr vg:Value} {rest:List Value} {l:List En} (hv:jd P w 73 2 vv e.bT.length (KY e.bT)) (hr:jd P w 98 2 vr e.res.length (qC e.res)) (hg:jd P w 9 1 vg e.gone.length (dV e.gone)) (ht:fH P w rest l):fH P w (.string e.name::vv::vr::vg::rest) (e::l)
theorem eP (cs:List Value) (l:List En):aP fun P w=>fH P w cs l:=by
 intro P P' w w' hg h
 induction h with
 |nil=>exact .nil
 |cons hv hr uf _ ih=>exact .cons (hv.goes hg) (hr.goes hg) (uf.goes hg) ih
theorem fH.app {P:Nat→Prop}{w:World}{a b:List Value}{l k:List En} (h:fH P w a l) (hb:fH P w b k):fH P w (a++b) (l++k):=by
 induction h with
 |nil=>exact hb
 |cons hv hr uf _ ih=>exact .cons hv hr uf ih
theorem fH.len {P:Nat→Prop}{w:World}{a:List Value}{l:List En} (h:fH P w a l):a.length=l.length*4:=by
 induction h with
 |nil=>rfl
 |cons hv hr uf _ ih=>simp only[List.length_cons,ih];omega
inductive eU (P:Nat→Prop) (w:World):List Value→List Ms→Prop
 |nil:eU P w [] []
 |cons {nm:ByteArray} {fs:List Fd} {os:List ByteArray} {ms:List Ms} {es:List En} {rs:List (Int×Int)} {gs:List ByteArray} {vf vo vm ve vr vg:Value} {cm ce rest:List Value} {l:List Ms}
   (hf:jd P w 45 6 vf fs.length (mF fs)) (ho:jd P w 9 1 vo os.length (dV os)) (hm:jd P w 49 7 vm ms.length cm) (rT:eU P w cm ms) (he:jd P w 71 4 ve es.length ce) (AZ:fH P w ce es)
   (hr:jd P w 98 2 vr rs.length (qC rs)) (hg:jd P w 9 1 vg gs.length (dV gs)) (ht:eU P w rest l):eU P w (.string nm::vf::vo::vm::ve::vr::vg::rest) (.mk nm fs os ms es rs gs::l)
theorem fb (cs:List Value) (l:List Ms):aP fun P w=>eU P w cs l:=by
 intro P P' w w' hg h
 induction h with
 |nil=>exact .nil
 |cons hf ho hm _ he AZ hr uf _ ih1 U7=>exact .cons (hf.goes hg) (ho.goes hg) (hm.goes hg) ih1 (he.goes hg) (eP _ _ P P' w w' hg AZ) (hr.goes hg) (uf.goes hg) U7
theorem eU.app {P:Nat→Prop}{w:World}{a b:List Value}{l k:List Ms} (h:eU P w a l) (hb:eU P w b k):eU P w (a++b) (l++k):=by
 induction h with
 |nil=>exact hb
 |cons hf ho hm rT he AZ hr uf _ _ U7=>exact .cons hf ho hm rT he AZ hr uf U7
theorem eU.len {P:Nat→Prop}{w:World}{a:List Value}{l:List Ms} (h:eU P w a l):a.length=l.length*7:=by
 induction h with
 |nil=>rfl
 |cons hf ho hm rT he AZ hr uf _ _ U7=>simp only[List.length_cons,U7];omega
def aX (p:Nat) (vs:Array Value) (t:TypeId) (P:Nat→Prop) (w:World):Prop:=w.heap[p]?=some (.cells vs t (0,0))∧P p
theorem bz (p:Nat) (vs:Array Value) (t:TypeId):aP (aX p vs t):=by
 intro P P' w w' hg h
 obtain ⟨h1,h2⟩:=hg p h.2 (zA h.1).1
 exact ⟨h2.trans h.1,h1⟩
structure Slot where
 t:TypeId
 sz:Nat
 v:Value
 n:Nat
 xs:List Value
structure Bx (w:World) (g:Nat) (T:TypeId) (nm:ByteArray) (ss:List Slot):Prop where
 lz:w.heap[g]?=some (.cells (.string nm::ss.map Slot.v).toArray T (0,0))
 own:∀(i:Nat) (sl:Slot),ss[i]?=some sl→w.ownsRow (g+1) sl.t sl.sz sl.v sl.n sl.xs
 apart:∀(i j:Nat) (a c:Slot),i≠j→ss[i]?=some a→ss[j]?=some c→∀k,a.v.ownBlock=some k→c.v.ownBlock≠some k
def Fz (ss:List Slot) (g b k:Nat):Prop:=k≠b∧k≠g∧∀(i:Nat) (sl:Slot),ss[i]?=some sl→sl.v.ownBlock≠some k
theorem Bx.lt {w:World}{g T:Nat}{nm:ByteArray}{ss:List Slot} (h:Bx w g T nm ss):g<w.heap.size:=(zA h.lz).1
theorem Bx.same {w w':World}{g T:Nat}{nm:ByteArray}{ss:List Slot} (h:Bx w g T nm ss) (hs:∀k,g≤k→k<w.heap.size→w'.heap[k]?=w.heap[k]?):Bx w' g T nm ss:=by
 refine ⟨(hs g (zD _) h.lt).trans h.lz,fun i sl hi=>?_,h.apart⟩
 have h1:=h.own i sl hi
 refine ⟨h1.1,?_⟩
 rcases h1.2 with h3|⟨r,cap,cur,e,hb,hc,rest⟩
 ·exact .inl h3
 ·exact .inr ⟨r,cap,cur,e,hb,(hs r (by omega) (zA hc).1).trans hc,rest⟩
structure Sv (g b:Nat) (W w:World):Prop where
 os:w.os=W.os
 tape:w.tape=W.tape
 output:w.output=W.output
 size:W.heap.size≤w.heap.size
 block:∀k,k<g→k≠b→w.heap[k]?=W.heap[k]?
theorem Sv.refl (g b:Nat) (W:World):Sv g b W W:=⟨rfl,rfl,rfl,zD _,fun _ _ _=>rfl⟩
theorem Sv.trans {g b:Nat}{W w w':World} (h:Sv g b W w) (k:Sv g b w w'):Sv g b W w':=⟨k.os.trans h.os,k.tape.trans h.tape,k.output.trans h.output,Nat.le_trans h.size k.size,fun i h1 h2=>(k.block i h1 h2).trans (h.block i h1 h2)⟩
theorem Sv.of {g b:Nat}{W w:World} (h:W.grownBy w (some b)) (hl:g≤W.heap.size):Sv g b W w:=⟨h.os,h.tape,h.output,h.size,fun k h1 h2=>h.block k (by omega) (by simpa using h2)⟩
theorem Sv.grown {g b:Nat}{W w:World} (h:Sv g b W w) (hl:W.heap.size≤g):W.grownBy w (some b):=⟨h.os,h.tape,h.output,h.size,fun k h1 h2=>h.block k (by omega) (by simpa using h2)⟩
theorem Sv.other {g b r:Nat}{W w:World} (h:W.grownBy w (some r)) (hr:g≤r) (hl:g≤W.heap.size):Sv g b W w:=⟨h.os,h.tape,h.output,h.size,fun k h1 h2=>h.block k (by omega) (by simp;omega)⟩
theorem Sv.mono {g g' b:Nat}{W w:World} (h:Sv g b W w) (hl:g'≤g):Sv g' b W w:=⟨h.os,h.tape,h.output,h.size,fun k h1 h2=>h.block k (by omega) h2⟩
structure Ap (lo b g:Nat) (T:TypeId) (nm:ByteArray) (ss:List Slot) (N:(Nat→Prop)→World→Prop) (V W:World) (s:ax) (w:World):Prop where
 bx:Bx w g T nm ss
 nx:N (Fz ss g b) w
 rd:Rd lo w b s
 lg:lo≤g
 sv:Sv g b W w
 ev:Env V w b
theorem Ap.below {lo b g T:Nat}{nm:ByteArray}{ss:List Slot}{N:(Nat→Prop)→World→Prop}{V W w:World}{s:ax} (h:Ap lo b g T nm ss N V W s w):b<lo∧lo≤g∧b<g∧g<w.heap.size:=⟨h.rd.low.1,h.lg,Nat.lt_of_lt_of_le h.rd.low.1 h.lg,h.bx.lt⟩
theorem Ap.read {lo b g T:Nat}{nm:ByteArray}{ss:List Slot}{N:(Nat→Prop)→World→Prop}{V W w w':World}{s s':ax} (h:Ap lo b g T nm ss N V W s w) (hN:aP N) (hr:Rd lo w' b s') (hg:w.grownBy w' (some b)):Ap lo b g T nm ss N V W s' w':=by
 obtain ⟨h1,h2,h3,h4⟩:=h.below
 refine ⟨h.bx.same (fun k h5 h6=>hg.block k h6 (by simp;omega)),hN _ _ w w' (fun k hk hl=>⟨hk,hg.block k hl (by simpa using hk.1)⟩) h.nx,hr,h.lg,h.sv.trans (Sv.of hg (by omega)),h.ev.step hg⟩
theorem Ap.up {lo b g T:Nat}{nm:ByteArray}{ss:List Slot}{N:(Nat→Prop)→World→Prop}{V W w w':World}{s:ax} (h:Ap lo b g T nm ss N V W s w) (hN:aP N) (hb:Below w.heap.size w w'):Ap lo b g T nm ss N V W s w':=h.read hN (h.rd.up hb) (aD b hb)
theorem Ap.imp {lo b g T:Nat}{nm:ByteArray}{ss:List Slot}{N N':(Nat→Prop)→World→Prop}{V W w:World}{s:ax} (h:Ap lo b g T nm ss N V W s w) (hi:N (Fz ss g b) w→N' (Fz ss g b) w):Ap lo b g T nm ss N' V W s w:=⟨h.bx,hi h.nx,h.rd,h.lg,h.sv,h.ev⟩
theorem Ap.fresh {lo b g T:Nat}{nm:ByteArray}{ss:List Slot}{N:(Nat→Prop)→World→Prop}{V W w:World}{s:ax} (h:Ap lo b g T nm ss N V W s w) {k:Nat} (hk:w.heap.size≤k):Fz ss g b k:=by
 obtain ⟨h1,h2,h3,h4⟩:=h.below
 refine ⟨by omega,by omega,fun i sl hi e=>?_⟩
 have:=((h.bx.own i sl hi).lt k e).2
 omega
theorem Ap.join {lo b g T:Nat}{nm:ByteArray}{ss:List Slot}{N N1:(Nat→Prop)→World→Prop}{V W w w':World}{s s':ax} (h:Ap lo b g T nm ss N V W s w) (hN:aP N) (js:aP N1) (hr:Rd lo w' b s') (hg:w.grownBy w' (some b)) (h1:N1 (fun k=>w.heap.size≤k) w'):Ap lo b g T nm ss (fun P w=>N P w∧N1 P w) V W s' w':=by
 have h2:=h.read hN hr hg
 exact ⟨h2.bx,⟨h2.nx,js _ _ w' w' (fun k hk _=>⟨h.fresh hk,rfl⟩) h1⟩,h2.rd,h2.lg,h2.sv,h2.ev⟩
theorem na {α β:Type} (f:α→β):∀(l:List α) (i:Nat) (x:α),(l.set i x).map f=(l.map f).set i (f x)
 |[],_,_=>rfl
 |_::_,0,_=>rfl
 |a::r,i+1,x=>by simp[na f r i x]
theorem Ap.app {lo b g T:Nat}{nm:ByteArray}{ss:List Slot}{N:(Nat→Prop)→World→Prop}{V W w w1:World}{s:ax}{i n':Nat}{sl:Slot}{v':Value}{sb:List Value} (h:Ap lo b g T nm ss N V W s w) (hN:aP N) (hi:ss[i]?=some sl) (hg:w.grownBy w1 sl.v.ownBlock)
  (ho:w1.ownsRow (g+1) sl.t sl.sz v' n' sb) (hl:v'.ownBlock=sl.v.ownBlock∨v'.ownBlock=some w.heap.size):Ap lo b g T nm (ss.set i ⟨sl.t,sl.sz,v',n',sb⟩) N V W s (w1.setCell ⟨g,i+1,none⟩ v'):=by
 obtain ⟨l1,l2,l3,l4⟩:=h.below
 have hil:i<ss.length:=(zB hi).1
 have cW:∀k,sl.v.ownBlock=some k→g+1≤k∧k<w.heap.size:=(h.bx.own i sl hi).lt
 have Xk:w1.heap[g]?=some (.cells (.string nm::ss.map Slot.v).toArray T (0,0)):=(hg.block g l4 (fun e=>by have:=cW g e.symm;omega)).trans h.bx.lz
 obtain ⟨q1,q2⟩:=aC (j:=i+1) Xk v'
 have uf:∀k,k<w.heap.size→k≠g→sl.v.ownBlock≠some k→(w1.setCell ⟨g,i+1,none⟩ v').heap[k]?=w.heap[k]?:=fun k h1 h2 h3=>(q2.block k (Nat.lt_of_lt_of_le h1 hg.size) (by simpa using h2)).trans (hg.block k h1 (fun e=>h3 e.symm))
 have yM:∀j rR,(ss.set i ⟨sl.t,sl.sz,v',n',sb⟩)[j]?=some rR→(j=i∧rR=⟨sl.t,sl.sz,v',n',sb⟩)∨(j≠i∧ss[j]?=some rR):=fun j rR hj=>by
  rw[List.getElem?_set] at hj
  split at hj
  ·rename_i e
   subst e
   exact .inl ⟨rfl,(zC hj).symm⟩
  ·rename_i e
   exact .inr ⟨fun q=>e q.symm,hj⟩
 have hv':∀k,v'.ownBlock=some k→sl.v.ownBlock=some k∨k=w.heap.size:=fun k e=>by
  rcases hl with q|q
  ·exact .inl (q.symm.trans e)
  ·rw[q] at e
   exact .inr (zC e).symm
 refine ⟨⟨?_,fun j rR hj=>?_,fun j j' a c eb ha hc k hk hk'=>?_⟩,?_,?_,h.lg,?_,?_⟩
 ·rw[q1]
  congr 2
  rw[na]
  simp
 ·rcases yM j rR hj with ⟨rfl,rfl⟩|⟨eb,RJ⟩
  ·refine World.ownsRow.kept ho q2 ?_
   right
   intro e
   rcases hv' g e with q|q
   ·have:=cW g q;omega
   ·omega
  ·have h1:=h.bx.own j rR RJ
   refine ⟨h1.1,?_⟩
   rcases h1.2 with h3|⟨r,cap,cur,e,hb,hc,rest⟩
   ·exact .inl h3
   ·refine .inr ⟨r,cap,cur,e,hb,(uf r (zA hc).1 (by omega) ?_).trans hc,rest⟩
    exact fun q=>h.bx.apart i j sl rR (Ne.symm eb) hi RJ r q (by rw[e];rfl)
 ·rcases yM j a ha with ⟨rfl,rfl⟩|⟨hj,hja⟩<;>rcases yM j' c hc with ⟨rfl,rfl⟩|⟨RJ,KD⟩
  ·exact eb rfl
  ·rcases hv' k hk with q|q
   ·exact h.bx.apart j j' sl c eb hi KD k q hk'
   ·have:=((h.bx.own j' c KD).lt k hk').2;omega
  ·rcases hv' k hk' with q|q
   ·exact h.bx.apart j j' a sl eb hja hi k hk q
   ·have:=((h.bx.own j a hja).lt k hk).2;omega
  ·exact h.bx.apart j j' a c eb hja KD k hk hk'
 ·refine hN _ _ w _ (fun k hk Xi=>⟨⟨hk.1,hk.2.1,fun j rR hj e=>?_⟩,uf k Xi hk.2.1 (hk.2.2 i sl hi)⟩) h.nx
  rcases yM j rR hj with ⟨rfl,rfl⟩|⟨eb,RJ⟩
  ·rcases hv' k e with q|q
   ·exact hk.2.2 _ sl hi q
   ·omega
  ·exact hk.2.2 j rR RJ e
 ·refine h.rd.Um ⟨(q2.os).trans hg.os,q2.tape.trans hg.tape,q2.output.trans hg.output,Nat.le_trans hg.size q2.size,fun k hk=>uf k (by omega) (by omega) (fun e=>by have:=cW k e;omega)⟩
 ·refine h.sv.trans ⟨(q2.os).trans hg.os,q2.tape.trans hg.tape,q2.output.trans hg.output,Nat.le_trans hg.size q2.size,fun k hk _=>uf k (by omega) (by omega) (fun e=>by have:=cW k e;omega)⟩
 ·have:=h.ev.lo
  exact ⟨h.ev.f,h.ev.e,h.ev.m,h.ev.below.trans ⟨(q2.os).trans hg.os,q2.tape.trans hg.tape,q2.output.trans hg.output,Nat.le_trans hg.size q2.size,fun k hk=>uf k (by omega) (by omega) (fun e=>by have:=cW k e;omega)⟩,h.ev.lo⟩
theorem nQ {α:Type}{l:List α}{i:Nat}{x:α} (h:l[i]?=some x):l.set i x=l:=by
 apply List.ext_getElem?
 intro m
 rw[List.getElem?_set]
 split
 ·rename_i e
  subst e
  obtain ⟨h1,h2⟩:=zB h
  simp[h1,h2]
 ·rfl
theorem Ap.setRow {lo b g T:Nat}{nm:ByteArray}{ss:List Slot}{N:(Nat→Prop)→World→Prop}{V W w:World}{s:ax}{i k:Nat}{sl:Slot} (h:Ap lo b g T nm ss N V W s w) (hN:aP N) (hi:ss[i]?=some sl) (hk:sl.v.ownBlock=some k) (j:Nat) (u:Value):Ap lo b g T nm (ss.set i ⟨sl.t,sl.sz,sl.v,sl.n,sl.xs.set j u⟩) N V W s (w.setCell ⟨k,j,none⟩ u):=by
 obtain ⟨l1,l2,l3,l4⟩:=h.below
 have hil:i<ss.length:=(zB hi).1
 have h0:=h.bx.own i sl hi
 obtain ⟨r1,r2⟩:=h0.lt k hk
 obtain ⟨c,hc⟩:∃c,sl.v=.slice (some ⟨k,0,none⟩) sl.n c:=by
  rcases h0.2 with ⟨e,_⟩|⟨g',cap,_,e,_⟩
  ·rw[e] at hk;cases hk
  ·rw[e] at hk
   cases hk
   exact ⟨cap,e⟩
 have h0':w.ownsRow (g+1) sl.t sl.sz (.slice (some ⟨k,0,none⟩) sl.n c) sl.n sl.xs:=by rw[←hc];exact h0
 obtain ⟨q1,q2⟩:=World.ownsRow.stored h0' j u
 have uf:∀m,m<w.heap.size→m≠k→(w.setCell ⟨k,j,none⟩ u).heap[m]?=w.heap[m]?:=fun m h1 h2=>q2.block m h1 (by simpa using h2)
 have yM:∀(m:Nat) (rR:Slot),(ss.set i ⟨sl.t,sl.sz,sl.v,sl.n,sl.xs.set j u⟩)[m]?=some rR→(m=i∧rR=⟨sl.t,sl.sz,sl.v,sl.n,sl.xs.set j u⟩)∨(m≠i∧ss[m]?=some rR):=fun m rR hm=>by
  rw[List.getElem?_set] at hm
  split at hm
  ·rename_i e
   subst e
   exact .inl ⟨rfl,(zC hm).symm⟩
  ·rename_i e
   exact .inr ⟨fun q=>e q.symm,hm⟩
 have hv:∀(m:Nat) (rR:Slot),(ss.set i ⟨sl.t,sl.sz,sl.v,sl.n,sl.xs.set j u⟩)[m]?=some rR→∃PV,ss[m]?=some PV∧PV.v=rR.v:=fun m rR hm=>by
  rcases yM m rR hm with ⟨rfl,rfl⟩|⟨_,hm'⟩
  ·exact ⟨sl,hi,rfl⟩
  ·exact ⟨rR,hm',rfl⟩
 have hb:∀m,m<g→(w.setCell ⟨k,j,none⟩ u).heap[m]?=w.heap[m]?:=fun m hm=>uf m (by omega) (by omega)
 refine ⟨⟨?_,fun m rR hm=>?_,fun m m' a c' eb ha Oe x hx pF=>?_⟩,?_,?_,h.lg,?_,?_⟩
 ·rw[uf g l4 (by omega),h.bx.lz]
  rw[na]
  simp only
  rw[nQ (show (ss.map Slot.v)[i]?=some sl.v by simp[hi])]
 ·rcases yM m rR hm with ⟨rfl,rfl⟩|⟨eb,hm'⟩
  ·simp only
   rw[hc]
   exact q1
  ·have h1:=h.bx.own m rR hm'
   refine ⟨h1.1,?_⟩
   rcases h1.2 with h3|⟨r,cap,cur,e,hb,hcc,rest⟩
   ·exact .inl h3
   ·refine .inr ⟨r,cap,cur,e,hb,(uf r (zA hcc).1 ?_).trans hcc,rest⟩
    rintro rfl
    exact h.bx.apart i m sl rR (Ne.symm eb) hi hm' r hk (by rw[e];rfl)
 ·obtain ⟨a0,e1,e2⟩:=hv m a ha
  obtain ⟨c0,e3,e4⟩:=hv m' c' Oe
  exact h.bx.apart m m' a0 c0 eb e1 e3 x (e2 ▸ hx) (e4 ▸ pF)
 ·refine hN _ _ w _ (fun m hm D3=>⟨⟨hm.1,hm.2.1,fun q rR hq e=>?_⟩,uf m D3 (fun e=>hm.2.2 i sl hi (e ▸ hk))⟩) h.nx
  obtain ⟨a0,e1,e2⟩:=hv q rR hq
  exact hm.2.2 q a0 e1 (e2 ▸ e)
 ·exact h.rd.Um ⟨q2.os,q2.tape,q2.output,q2.size,fun m hm=>hb m (by omega)⟩
 ·exact h.sv.trans ⟨q2.os,q2.tape,q2.output,q2.size,fun m hm _=>hb m hm⟩
 ·have:=h.ev.lo
  exact ⟨h.ev.f,h.ev.e,h.ev.m,h.ev.below.trans ⟨q2.os,q2.tape,q2.output,q2.size,fun m hm=>hb m (by omega)⟩,h.ev.lo⟩
end Go.Proofs.YtjophoclfccmcaaGreatDoor

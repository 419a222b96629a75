import Derived.Test.YtmlphohdcejniaaGreatDoorM41
set_option maxHeartbeats 8000000
set_option maxRecDepth 100000
namespace Go.Proofs.YtmlphohdcejniaaGreatDoor
open Go.RowKit
def gB (n:Nat):Nat→Nat→List Fd→Prop
 |k,_,[]=>k=n
 |k,op,d::r=>(d.oneof=0∧gB n k 0 r)∨(d.oneof=(k:Int)∧op=k∧0<k∧gB n k k r)∨(d.oneof=((k+1:Nat):Int)∧gB n (k+1) (k+1) r)
theorem ld {n:Nat}:∀(l:List Fd) (k op:Nat),gB n k op l→k≤n
 |[],k,_,h=>Nat.le_of_eq h
 |d::r,k,op,h=>by
  rcases h with ⟨_,h⟩|⟨_,_,_,h⟩|⟨_,h⟩
  ·exact ld r _ _ h
  ·exact ld r _ _ h
  ·have:=ld r _ _ h;omega
theorem lN {n:Nat}:∀(l:List Fd) (k op:Nat),gB n k op l→n≤k+l.length
 |[],k,_,h=>Nat.le_of_eq h.symm
 |d::r,k,op,h=>by
  rw[List.length_cons]
  rcases h with ⟨_,h⟩|⟨_,_,_,h⟩|⟨_,h⟩
  ·have:=lN r _ _ h;omega
  ·have:=lN r _ _ h;omega
  ·have:=lN r _ _ h;omega
theorem po (u:Nat):eD (u:Int)=[(2,dec u)]:=by
 unfold eD
 rw[if_neg (by omega)]
 rfl
structure YK (d:Fd):Prop where
 ty:∃ps,AY d ps
 cd:(d.dF=1∧d.key=⟨#[]⟩)∨(d.oneof=0∧((d.dF=2∧d.key=⟨#[]⟩)∨(d.dF=3∧d.key=⟨#[]⟩)∨(d.dF=4∧∃ks,lC ks∧d.key=gQ ks)))
def js (d:Fd) (ft:List Wd):Prop:=∃ps,AY d ps∧((d.dF=1∧d.key=⟨#[]⟩∧ft=bV ps)∨(d.oneof=0∧((d.dF=2∧d.key=⟨#[]⟩∧ft=(1,G')::bV ps)∨(d.dF=3∧d.key=⟨#[]⟩∧ft=(1,G3)::bV ps)∨(d.dF=4∧∃ks,lC ks∧d.key=gQ ks∧ft=(1,⟨#[109,97,112]⟩)::sg 60::(bV ks++sg 44::(bV ps++[sg 62]))))))
theorem L0 {d:Fd}{ft:List Wd} (h:js d ft) (h0:d.oneof=0) (mf:aI→Except (Int×Int) (Ms×aI)) (K:Nat) (x:Mp):eH (j6 mf) K (ft++lP d.name d.num) 1 x { x with fs:=x.fs++[d] }:=by
 obtain ⟨ps,hp,h⟩:=h
 rcases h with ⟨c1,c2,rfl⟩|⟨_,h⟩
 ·exact LX hp ⟨c1,c2,h0⟩
 ·rcases h with ⟨c1,c2,rfl⟩|⟨c1,c2,rfl⟩|⟨c1,ks,hk,c2,rfl⟩
  ·exact Cw (.inl ⟨rfl,rfl⟩) hp ⟨c1,c2,h0⟩
  ·exact Cw (.inr ⟨rfl,rfl⟩) hp ⟨c1,c2,h0⟩
  ·exact (S' hp hk ⟨c1,c2,h0⟩).cast (by simp[Ih]) rfl
theorem yH {d:Fd}{ft:List Wd}{x:Mp} (h:js d ft) (h0:d.oneof=(x.os.length:Int)) (eo:d.oneof≠0) (K:Nat):eH UW K (ft++lP d.name d.num) 1 x { x with fs:=x.fs++[d] }:=by
 obtain ⟨ps,hp,h⟩:=h
 rcases h with ⟨c1,c2,rfl⟩|⟨h2,_⟩
 ·exact IV hp ⟨c1,c2,h0⟩
 ·exact absurd h2 eo
def FH (nm:ByteArray) (fs:List Fd) (os:List ByteArray):Mp:=⟨nm,fs,os,[],[],[],[]⟩
def FS (nm:ByteArray) (fs:List Fd) (os:List ByteArray) (i k op:Nat) (u:List Wd) (c:Nat):Prop :=
 (op=0∧∀(mf:aI→Except (Int×Int) (Ms×aI)) (K:Nat),eH (j6 mf) K u c (FH nm [] []) (FH nm (fs.take i) (os.take k))) ∨
 (op=k∧0<k∧∃u0 u1 c0 c1 i0 o,u=u0++((1,rN)::(1,o)::sg 123::u1)∧c=c0+1+c1∧os[k-1]?=some o∧aU o∧i0<i∧i≤fs.length ∧
  (∀(mf:aI→Except (Int×Int) (Ms×aI)) (K:Nat),eH (j6 mf) K u0 c0 (FH nm [] []) (FH nm (fs.take i0) (os.take (k-1)))) ∧
  ∀K:Nat,eH UW K u1 c1 (FH nm (fs.take i0) (os.take (k-1)++[o])) (FH nm (fs.take i) (os.take k)))
theorem FS.start (nm:ByteArray) (fs:List Fd) (os:List ByteArray):FS nm fs os 0 0 0 [] 0:=.inl ⟨rfl,fun _ _=>eH.nil _⟩
theorem FS.close {nm:ByteArray}{fs:List Fd}{os:List ByteArray}{i k op:Nat}{u:List Wd}{c:Nat} (h:FS nm fs os i k op u c) (ju:op≠0):FS nm fs os i k 0 (u++[sg 125]) c:=by
 rcases h with ⟨h0,_⟩|⟨_,hk,u0,u1,c0,c1,i0,o,rfl,rfl,ho,hn,hi,Zm,h1,h2⟩
 ·exact absurd h0 ju
 ·refine .inl ⟨rfl,fun mf K=>?_⟩
  have e:=LY (mf:=mf) (K:=K) (x:=FH nm (fs.take i0) (os.take (k-1))) (y:=FH nm (fs.take i) (os.take k)) hn (h2 K) (by
   show (fs.take i0).length<(fs.take i).length
   rw[List.length_take,List.length_take]
   omega)
  exact ((h1 mf K).trans e).cast (by simp) (by omega)
theorem FS.field {nm:ByteArray}{fs:List Fd}{os:List ByteArray}{i k:Nat}{u:List Wd}{c:Nat}{d:Fd}{ft s:List Wd} (h:FS nm fs os i k 0 u c) (hd:fs[i]?=some d) (hf:js d ft) (h0:d.oneof=0) (hs:s=[sg 59]∨s=[sg 59,sg 59]):FS nm fs os (i+1) k 0 (u++(ft++((1,d.name)::sg 61::(eD d.num++s)))) (c+1):=by
 rcases h with ⟨_,h1⟩|⟨mh,hk,_⟩
 ·refine .inl ⟨rfl,fun mf K=>?_⟩
  have e:=(h1 mf K).trans (L0 hf h0 mf K _)
  rw[dW hd]
  rcases hs with rfl|rfl
  ·exact e.cast (by simp[lP]) rfl
  ·exact (e.trans (F2 mf _ K)).cast (by simp[lP]) rfl
 ·omega
theorem FS.inner {nm:ByteArray}{fs:List Fd}{os:List ByteArray}{i k:Nat}{u:List Wd}{c:Nat}{d:Fd}{ft s:List Wd} (h:FS nm fs os i k k u c) (hk:0<k) (Zj:k≤os.length) (hd:fs[i]?=some d) (hf:js d ft) (h0:d.oneof=(k:Int)) (hs:s=[sg 59]∨s=[sg 59,sg 59]):FS nm fs os (i+1) k k (u++(ft++((1,d.name)::sg 61::(eD d.num++s)))) (c+1):=by
 have Zm:=(zB hd).1
 rcases h with ⟨h1,_⟩|⟨_,_,u0,u1,c0,c1,i0,o,rfl,rfl,ho,hn,hi,_,h1,h2⟩
 ·omega
 ·refine .inr ⟨rfl,hk,u0,u1++(ft++((1,d.name)::sg 61::(eD d.num++s))),c0,c1+1,i0,o,by simp,by omega,ho,hn,by omega,by omega,h1,fun K=>?_⟩
  have e:=(h2 K).trans (yH (x:=FH nm (fs.take i) (os.take k)) hf (by show d.oneof=((os.take k).length:Int);rw[List.length_take,Nat.min_eq_left Zj];exact h0) (by rw[h0];omega) K)
  rw[dW hd]
  rcases hs with rfl|rfl
  ·exact e.cast (by simp[lP]) rfl
  ·exact (e.trans (CJ _ K)).cast (by simp[lP]) rfl
theorem FS.begin {nm:ByteArray}{fs:List Fd}{os:List ByteArray}{i k:Nat}{u:List Wd}{c:Nat}{d:Fd}{ft s:List Wd}{o:ByteArray} (h:FS nm fs os i k 0 u c) (ho:os[k]?=some o) (hn:aU o) (hd:fs[i]?=some d) (hf:js d ft) (h0:d.oneof=((k+1:Nat):Int)) (hs:s=[sg 59]∨s=[sg 59,sg 59]):FS nm fs os (i+1) (k+1) (k+1) (u++((1,rN)::(1,o)::sg 123::(ft++((1,d.name)::sg 61::(eD d.num++s))))) (c+1+1):=by
 have Zm:=(zB hd).1
 have hol:=(zB ho).1
 rcases h with ⟨_,h1⟩|⟨mh,hk,_⟩
 ·refine .inr ⟨rfl,by omega,u,ft++((1,d.name)::sg 61::(eD d.num++s)),c,1,i,o,rfl,by omega,by rw[Nat.add_sub_cancel];exact ho,hn,by omega,by omega,by rw[Nat.add_sub_cancel];exact h1,fun K=>?_⟩
  rw[Nat.add_sub_cancel,dW hd,dW ho]
  have e:=yH (x:=FH nm (fs.take i) (os.take k++[o])) hf (by show d.oneof=((os.take k++[o]).length:Int);rw[zK,List.length_take,Nat.min_eq_left (by omega)];exact h0) (by rw[h0];omega) K
  rcases hs with rfl|rfl
  ·exact e.cast (by simp[lP]) rfl
  ·exact (e.trans (CJ _ K)).cast (by simp[lP]) rfl
 ·omega
def EZ:Nat→Ms→Prop
 |0,_=>False
 |f+1,.mk nm fs os ms es rs gs=>aU nm∧(∀d ∈ fs,YK d)∧(∀o ∈ os,aU o)∧gB os.length 0 0 fs∧(∀m ∈ ms,EZ f m)∧(∀e ∈ es,C' e)∧(∀p ∈ rs,1≤p.1∧p.1≤p.2∧p.2≤536870911)∧∀y ∈ gs,aU y
theorem FE:∀(rs:List (Int×Int)) (x:Mp),rs.foldl (fun (x:Mp) p=>{ x with rs:=x.rs++[p] }) x={ x with rs:=x.rs++rs }
 |[],x=>by simp
 |p::r,x=>by
  rw[List.foldl_cons,FE r]
  simp
theorem OF {mf:aI→Except (Int×Int) (Ms×aI)}{K:Nat}{rs:List (Int×Int)}{gs:List ByteArray} (hr:∀p ∈ rs,1≤p.1∧p.1≤p.2∧p.2≤536870911) (hg:∀y ∈ gs,aU y) {t:List Wd}{c:Nat} (h:CZ rs gs t c) (x:Mp):eH (j6 mf) K t c x { x with rs:=x.rs++rs,gs:=x.gs++gs }:=by
 have:=h Mp (j6 mf) K (fun x p=>{ x with rs:=x.rs++[p] }) (fun x gs=>{ x with gs:=x.gs++gs }) (fun y p hp=>S8 (hr p hp)) (fun y eo=>Pe eo hg) (fun y=>F2 mf y K) x
 rw[FE] at this
 by_cases Ai:gs=[]
 ·rw[if_pos Ai] at this
  rw[Ai,List.append_nil]
  exact this
 ·rw[if_neg Ai] at this
  exact this
def mY (e:En):Nat:=20*e.res.length+10*e.gone.length+20*e.bJ.length+60
def oM (e:En):Nat:=1+(e.res.length+e.gone.length+e.bJ.length)
def bG {α:Type} (f:α→Nat):List α→Nat
 |[]=>0
 |x::r=>f x+bG f r
def mw:Nat→Ms→Nat
 |0,_=>0
 |f+1,.mk _ fs _ ms es rs gs=>100+100*fs.length+(20*rs.length+10*gs.length)+bG (mw f) ms+bG mY es
def zZ:Nat→Ms→Nat
 |0,_=>0
 |f+1,.mk _ fs _ ms es rs gs=>1+2*fs.length+(rs.length+gs.length)+bG (zZ f) ms+bG oM es
theorem jX {α:Type} (f:α→Nat):∀(a b:List α),bG f (a++b)=bG f a+bG f b
 |[],b=>by simp[bG]
 |x::a,b=>by show f x+bG f (a++b)=f x+bG f a+bG f b;rw[jX f a b];omega
theorem ik {α:Type} (f:α→Nat) (l:List α) (i:Nat):bG f (l.take i)≤bG f l:=by
 have:=jX f (l.take i) (l.drop i)
 rw[List.take_append_drop] at this
 omega
theorem eX {α:Type} (f:α→Nat) {l:List α}{i:Nat}{x:α} (h:l[i]?=some x):bG f (l.take (i+1))=bG f (l.take i)+f x:=by
 rw[dW h,jX]
 rfl
theorem mH {α:Type} (g:α→Nat):∀(l:List α),(∀x ∈ l,1≤g x)→l.length≤bG g l
 |[],_=>Nat.zero_le _
 |x::r,h=>by
  have:=mH g r (fun y hy=>h y (zF _ hy))
  have:=h x List.mem_cons_self
  show r.length+1≤g x+bG g r
  omega
theorem FG {f:Nat}{m:Ms} (h:EZ f m):1≤mw f m:=by
 cases f with
 |zero=>exact h.elim
 |succ f =>
  obtain ⟨nm,fs,os,ms,es,rs,gs⟩:=m
  show 1≤100+100*fs.length+(20*rs.length+10*gs.length)+bG (mw f) ms+bG mY es
  omega
theorem Gc (e:En):1≤mY e:=by unfold mY;omega
end Go.Proofs.YtmlphohdcejniaaGreatDoor
namespace Go.Proofs.YtmlphohdcejniaaGreatDoor
open Go.RowKit
attribute [local go_sem ↓] Go.wp_at_zero Go.wp_at_succ
def NZ (w:World) (cs:List Value) (l:List En):Prop:=∀(i:Nat) (e:En),l[i]?=some e→∃vv vr vg,(cs[i*4]?=some (.string e.name)∧cs[i*4+1]?=some vv∧cs[i*4+2]?=some vr∧cs[i*4+3]?=some vg)∧km w vv e.bJ.length (wH e.bJ)∧km w vr e.res.length (kz e.res)∧km w vg e.gone.length (bS e.gone)
theorem eC.rd {P:Nat→Prop}{w:World}{cs:List Value}{l:List En} (h:eC P w cs l):NZ w cs l:=by
 induction h with
 |nil=>intro i e h;simp at h
 |cons hv hr hg _ ih =>
  intro i e h
  cases i with
  |zero =>
   obtain rfl:=zC h
   exact ⟨_,_,_,⟨rfl,rfl,rfl,rfl⟩,hv.rd,hr.rd,hg.rd⟩
  |succ i =>
   obtain ⟨vv,vr,vg,h1,h2⟩:=ih i e (by simpa using h)
   refine ⟨vv,vr,vg,?_,h2⟩
   rw[show (i+1)*4=i*4+4 by omega]
   exact h1
theorem NZ.up {w w':World}{cs:List Value}{l:List En} (h:NZ w cs l) (hb:Below w.heap.size w w'):NZ w' cs l:=fun i e hi=>by
 obtain ⟨vv,vr,vg,h1,h2,h3,h4⟩:=h i e hi
 exact ⟨vv,vr,vg,h1,h2.up hb,h3.up hb,h4.up hb⟩
structure Jc (W:World) (p q:Nat) (xs ys:Array Value) (t:TypeId) (w:World):Prop where
 bl:Below W.heap.size W w
 x:∀j,w.cell? ⟨p,j,none⟩=xs[j]?
 y:∀j,w.cell? ⟨q,j,none⟩=ys[j]?
 lx:p<w.heap.size
 ly:q<w.heap.size
theorem uS {W wr:World} (hb:Below W.heap.size W wr) (xs ys:Array Value) (t:TypeId):Jc W wr.heap.size (wr.heap.size+1) xs ys t ((wr.alloc (.cells xs t)).alloc (.cells ys t)):=by
 have h1:=hb.size
 refine ⟨(hb.alloc h1 _).alloc (by rw[zJ];omega) _,fun j=>?_,fun j=>?_,by rw[zJ,zJ];omega,by rw[zJ,zJ];omega⟩
 ·rw[World.cell?_alloc_past _ _ _ (by rw[zJ];omega),World.cell?_alloc_at _ _ _ _ rfl]
 ·rw[World.cell?_alloc_at _ _ _ _ (by rw[zJ])]
theorem Jc.up {W w w':World}{p q:Nat}{xs ys:Array Value}{t:TypeId} (h:Jc W p q xs ys t w) (hb:Below w.heap.size w w'):Jc W p q xs ys t w' :=
 ⟨h.bl.trans (hb.mono h.bl.size),fun j=>(hb.cell (p:=⟨p,j,none⟩) h.lx).trans (h.x j),fun j=>(hb.cell (p:=⟨q,j,none⟩) h.ly).trans (h.y j),Nat.lt_of_lt_of_le h.lx hb.size,Nat.lt_of_lt_of_le h.ly hb.size⟩
theorem xz (W:World) (a a':Option Addr) (c c':Nat):Calls Tryz.prog 26 #[.slice a 0 c,.slice a' 0 c'] W (rH W):=by
 go_enter Tryz.func26,Tryz.ntmps26
 go_wp2
 go_loopg [5] 1 (fun gk v5 wr=>v5=.int .i64 0∧wr=W)
 case atStart=>exact ⟨rfl,rfl⟩
 case round =>
  obtain ⟨rfl,rfl⟩:=hrel
  go_wp2
  go_ret
  exact ⟨rfl,zE _ _⟩
theorem nP {W:World}{v u:Value}{l:List En}{cs mq:List Value} (h:km W v l.length cs) (hE:NZ W cs l) (h':km W u l.length mq) (Xm:NZ W mq l):Calls Tryz.prog 26 #[v,u] W (rH W):=by
 obtain ⟨a,c,rfl,hc,h3⟩:=h
 obtain ⟨a',c',rfl,LH,A3⟩:=h'
 by_cases hz:l.length=0
 ·rw[hz]
  exact xz W a a' c c'
 obtain ⟨g,rfl,hg,hx⟩:=h3 (by omega)
 obtain ⟨g',rfl,p9,yA⟩:=A3 (by omega)
 have HX:=aj hx
 have Jr:=aj yA
 have HE:=aj hE
 have Yy:=aj Xm
 clear h3 A3 hx yA hE Xm hz
 unfold maxLen at hc LH
 have hll:((l.length:Int) != (l.length:Int))=false:=by simp
 go_enter Tryz.func26,Tryz.ntmps26
 go_wp2
 go_loopg [5] l.length (fun gk v5 wr=>∃(i:Nat),v5=.int .i64 (i:Int)∧gk=l.length-i∧i≤l.length∧Hid (Below W.heap.size W wr))
 case atStart=>exact ⟨0,rfl,rfl,by omega,zE _ _⟩
 case round =>
  obtain ⟨i,rfl,eN,hi,HB⟩:=hrel
  have fQ:=aj eN
  clear eN
  by_cases cc:i<l.length
  ·obtain ⟨t,ht⟩:∃t,l[i]?=some t:=⟨_,List.getElem?_eq_getElem cc⟩
   have hB:=aa HB
   obtain ⟨vv,vr,vg,⟨x0,x1,x2,x3⟩,rv,rr,rg⟩:=aa HE i t ht
   obtain ⟨vv',Vj,Vk,⟨y0,y1,y2,y3⟩,rv',VC,VE⟩:=aa Yy i t ht
   have RV:=aj rv
   have RR:=aj rr
   have RG:=aj rg
   have RV':=aj rv'
   have RR':=aj VC
   have RG':=aj VE
   obtain ⟨av,cv,rfl,De,_⟩:=rv
   obtain ⟨av',cv',rfl,_,_⟩:=rv'
   obtain ⟨ar,cr,rfl,_,_⟩:=rr
   obtain ⟨ar',cr',rfl,_,_⟩:=VC
   obtain ⟨ag,cg,rfl,_,_⟩:=rg
   obtain ⟨ag',cg',rfl,_,_⟩:=VE
   unfold maxLen at De
   have IB:g'<wr.heap.size:=Nat.lt_of_lt_of_le p9 hB.size
   have d0:=(hB.cell (p:=⟨g,i*4,none⟩) hg).trans (aa HX _ _ x0)
   have d1:=(hB.cell (p:=⟨g,i*4+1,none⟩) hg).trans (aa HX _ _ x1)
   have d2:=(hB.cell (p:=⟨g,i*4+2,none⟩) hg).trans (aa HX _ _ x2)
   have d3:=(hB.cell (p:=⟨g,i*4+3,none⟩) hg).trans (aa HX _ _ x3)
   have f0:=(hB.cell (p:=⟨g',i*4,none⟩) p9).trans (aa Jr _ _ y0)
   have f1:=(hB.cell (p:=⟨g',i*4+1,none⟩) p9).trans (aa Jr _ _ y1)
   have f2:=(hB.cell (p:=⟨g',i*4+2,none⟩) p9).trans (aa Jr _ _ y2)
   have f3:=(hB.cell (p:=⟨g',i*4+3,none⟩) p9).trans (aa Jr _ _ y3)
   have gf0:∀o,(wr.alloc o).cell? ⟨g',i*4,none⟩=_:=fun o=>(World.cell?_alloc_lt _ _ _ IB).trans f0
   have gf1:∀o,(wr.alloc o).cell? ⟨g',i*4+1,none⟩=_:=fun o=>(World.cell?_alloc_lt _ _ _ IB).trans f1
   have gf2:∀o,(wr.alloc o).cell? ⟨g',i*4+2,none⟩=_:=fun o=>(World.cell?_alloc_lt _ _ _ IB).trans f2
   have gf3:∀o,(wr.alloc o).cell? ⟨g',i*4+3,none⟩=_:=fun o=>(World.cell?_alloc_lt _ _ _ IB).trans f3
   have i0:(0:Int)≤(i:Int):=zH _
   have i1:(i:Int)<(l.length:Int):=by omega
   have e1:((t.bJ.length:Int) != (t.bJ.length:Int))=false:=by simp
   have xv:=aj (uS hB #[.string t.name,.slice av t.bJ.length cv,.slice ar t.res.length cr,.slice ag t.gone.length cg] #[.string t.name,.slice av' t.bJ.length cv',.slice ar' t.res.length cr',.slice ag' t.gone.length cg'] 68)
   clear x0 x1 x2 x3 y0 y1 y2 y3 hB ht
   go_wp2_with fail
   have H0:=aa xv
   refine (pc ((aa RR).up H0.bl) ((aa RR').up H0.bl)).mono ?_
   rintro e w2 ⟨rfl,bH⟩
   have Dr:=aj (H0.up bH)
   have X2:=(aa Dr).x
   have Y2:=(aa Dr).y
   clear H0 bH xv d0 d1 d2 d3 f0 f1 f2 f3 gf0 gf1 gf2 gf3
   go_wp2_with fail
   have H2:=aa Dr
   refine (iy ((aa RG).up H2.bl) ((aa RG').up H2.bl)).mono ?_
   rintro e w3 ⟨rfl,mC⟩
   have AV:=aj (H2.up mC)
   have X3:=(aa AV).x
   have Y3:=(aa AV).y
   clear H2 mC Dr X2 Y2
   go_wp2
   go_loopg [8] t.bJ.length (fun gk v8 wq=>∃(k m:Nat),v8=.int .i64 (k:Int)∧gk=t.bJ.length-k∧k≤t.bJ.length∧wq=w3.drewN m)
   case atStart=>exact ⟨0,0,rfl,rfl,by omega,rfl⟩
   case round =>
    obtain ⟨k,m,rfl,j9,hk,rfl⟩:=hrel
    have nH:=aj j9
    clear j9
    by_cases WH:k<t.bJ.length
    ·obtain ⟨p,hp⟩:∃p,t.bJ[k]?=some p:=⟨_,List.getElem?_eq_getElem WH⟩
     obtain ⟨z1,z2⟩:=EB _ _ _ hp
     obtain ⟨_,_,ee,_,cC⟩:=(aa RV).up (aa AV).bl
     obtain ⟨_,_,ee',_,Cf⟩:=(aa RV').up (aa AV).bl
     obtain ⟨gv,hav,UG,Ld⟩:=cC (by omega)
     obtain ⟨gv',SU,aaG,vV⟩:=Cf (by omega)
     cases ee
     cases ee'
     subst hav
     subst SU
     have d1:=Ld _ _ z1
     have d2:=Ld _ _ z2
     have f1:=vV _ _ z1
     have f2:=vV _ _ z2
     have k0:(0:Int)≤(k:Int):=zH _
     have k1:(k:Int)<(t.bJ.length:Int):=by omega
     obtain ⟨p1,p2⟩:=p
     simp only at d1 d2 f1 f2
     clear Ld vV z1 z2 cC Cf hp
     go_wp2
     go_quiet (fail)
     go_wp2
     go_roundg (t.bJ.length-(k+1))
     case measure=>have:=aa nH;omega
     case rel=>exact ⟨k+1,_,by go_num,rfl,by omega,rfl⟩
    ·obtain rfl:k=t.bJ.length:=by omega
     go_wp2
     go_roundg (l.length-(i+1))
     case measure=>have:=aa fQ;omega
     case rel=>exact ⟨i+1,by go_num,rfl,by omega,below_drewN (aa AV).bl _⟩
  ·obtain rfl:i=l.length:=by omega
   go_wp2
   go_ret
   exact ⟨rfl,aa HB⟩
def M6 (W:World) (v:Value) (ms:List Ms):Prop:=∀(Q:Nat→Prop) (u:Value) (mq:List Value),km W u ms.length mq→di Q W mq ms→∀w0,Below W.heap.size W w0→Calls Tryz.prog 13 #[v,u] w0 (rH w0)
def XP (W:World) (cs:List Value) (i:Nat) (nm:ByteArray) (fs:List Fd) (os:List ByteArray) (es:List En) (rs:List (Int×Int)) (gs:List ByteArray) (vf vo vm ve vr vg:Value) (ce:List Value):Prop :=
 (cs[i*7]?=some (.string nm)∧cs[i*7+1]?=some vf∧cs[i*7+2]?=some vo∧cs[i*7+3]?=some vm∧cs[i*7+4]?=some ve∧cs[i*7+5]?=some vr∧cs[i*7+6]?=some vg)∧km W vf fs.length (gX fs)∧km W vo os.length (bS os)∧km W ve es.length ce∧NZ W ce es∧km W vr rs.length (kz rs)∧km W vg gs.length (bS gs)
theorem XP.up {W:World}{cs:List Value}{i:Nat}{nm:ByteArray}{fs:List Fd}{os:List ByteArray}{es:List En}{rs:List (Int×Int)}{gs:List ByteArray}{vf vo vm ve vr vg:Value}{ce:List Value}{z0 z1 z2 z3 z4 z5 z6:Value} (h:XP W cs i nm fs os es rs gs vf vo vm ve vr vg ce):XP W (z0::z1::z2::z3::z4::z5::z6::cs) (i+1) nm fs os es rs gs vf vo vm ve vr vg ce:=by
 refine ⟨?_,h.2⟩
 rw[show (i+1)*7=i*7+7 by omega]
 exact h.1
def YN (W:World) (cs:List Value) (l:List Ms):Prop:=∀(i:Nat) (nm:ByteArray) (fs:List Fd) (os:List ByteArray) (ms:List Ms) (es:List En) (rs:List (Int×Int)) (gs:List ByteArray),l[i]?=some (.mk nm fs os ms es rs gs)→∃vf vo vm ve vr vg ce,XP W cs i nm fs os es rs gs vf vo vm ve vr vg ce∧(∃a c,vm=.slice a ms.length c)∧M6 W vm ms
def MsR (Q:Nat→Prop) (W:World) (cs:List Value) (l:List Ms):Prop:=∀(i:Nat) (nm:ByteArray) (fs:List Fd) (os:List ByteArray) (ms:List Ms) (es:List En) (rs:List (Int×Int)) (gs:List ByteArray),l[i]?=some (.mk nm fs os ms es rs gs)→∃vf vo vm ve vr vg cm ce,XP W cs i nm fs os es rs gs vf vo vm ve vr vg ce∧km W vm ms.length cm∧di Q W cm ms
theorem di.rd {P:Nat→Prop}{w:World}{cs:List Value}{l:List Ms} (h:di P w cs l):MsR P w cs l:=by
 induction h with
 |nil=>intro i _ _ _ _ _ _ _ h;simp at h
 |cons hf ho hm jQ he mx hr hg _ _ ih =>
  intro i nm fs os ms es rs gs h
  cases i with
  |zero =>
   cases zC h
   exact ⟨_,_,_,_,_,_,_,_,⟨⟨rfl,rfl,rfl,rfl,rfl,rfl,rfl⟩,hf.rd,ho.rd,he.rd,mx.rd,hr.rd,hg.rd⟩,hm.rd,jQ⟩
  |succ i =>
   obtain ⟨vf,vo,vm,ve,vr,vg,cm,ce,h1,h2⟩:=ih i nm fs os ms es rs gs (by simpa using h)
   exact ⟨vf,vo,vm,ve,vr,vg,cm,ce,h1.up,h2⟩
theorem DL (W:World) (a a':Option Addr) (c c':Nat):Calls Tryz.prog 13 #[.slice a 0 c,.slice a' 0 c'] W (rH W):=by
 go_enter Tryz.func13,Tryz.ntmps13
 go_wp2
 go_loopg [5] 1 (fun gk v5 wr=>v5=.int .i64 0∧wr=W)
 case atStart=>exact ⟨rfl,rfl⟩
 case round =>
  obtain ⟨rfl,rfl⟩:=hrel
  go_wp2
  go_ret
  exact ⟨rfl,zE _ _⟩
theorem rb {W:World}{v:Value}{l:List Ms}{cs:List Value} (h:km W v l.length cs) (hE:YN W cs l):M6 W v l:=by
 intro Q u mq h' hM w0 hw0
 have Xm:=hM.rd
 obtain ⟨a,c,rfl,hc,h3⟩:=h
 obtain ⟨a',c',rfl,LH,A3⟩:=h'
 by_cases hz:l.length=0
 ·rw[hz]
  exact DL w0 a a' c c'
 obtain ⟨g,rfl,hg,hx⟩:=h3 (by omega)
 obtain ⟨g',rfl,p9,yA⟩:=A3 (by omega)
 have HX:=aj hx
 have Jr:=aj yA
 have HE:=aj hE
 have Yy:=aj Xm
 have Gr:=aj hw0
 clear h3 A3 hx yA hE Xm hz hM hw0
 unfold maxLen at hc LH
 have hll:((l.length:Int) != (l.length:Int))=false:=by simp
 go_enter Tryz.func13,Tryz.ntmps13
 go_wp2
 go_loopg [5] l.length (fun gk v5 wr=>∃(i:Nat),v5=.int .i64 (i:Int)∧gk=l.length-i∧i≤l.length∧Hid (Below w0.heap.size w0 wr))
 case atStart=>exact ⟨0,rfl,rfl,by omega,zE _ _⟩
 case round =>
  obtain ⟨i,rfl,eN,hi,HB⟩:=hrel
  have fQ:=aj eN
  clear eN
  by_cases cc:i<l.length
  ·obtain ⟨⟨nm,fs,os,ms,es,rs,gs⟩,ht⟩:∃t,l[i]?=some t:=⟨_,List.getElem?_eq_getElem cc⟩
   have hB:Below W.heap.size W wr:=(aa Gr).trans ((aa HB).mono (aa Gr).size)
   obtain ⟨vf,vo,vm,ve,vr,vg,ce,⟨⟨x0,x1,x2,x3,x4,x5,x6⟩,rf,ro,re,res,rr,rg⟩,⟨am,cm,rfl⟩,cD⟩:=aa HE i _ _ _ _ _ _ _ ht
   obtain ⟨vf',vo',YT,ve',Vj,Vk,PJ,QR,⟨⟨y0,y1,y2,y3,y4,y5,y6⟩,rf',ro',re',VF,VC,VE⟩,rm',Wz⟩:=aa Yy i _ _ _ _ _ _ _ ht
   have YA:=aj (cD Q YT PJ rm' Wz)
   have Rf:=aj rf
   have Rf':=aj rf'
   have Ro:=aj ro
   have Ro':=aj ro'
   have Re:=aj re
   have Re':=aj re'
   have Rr:=aj rr
   have Rr':=aj VC
   have Rg:=aj rg
   have Rg':=aj VE
   have RS:=aj res
   have RS':=aj VF
   obtain ⟨af,cf,rfl,NI,_⟩:=rf
   obtain ⟨af',cf',rfl,_,_⟩:=rf'
   obtain ⟨ao,co,rfl,hol,_⟩:=ro
   obtain ⟨ao',co',rfl,_,_⟩:=ro'
   obtain ⟨ae,ce_,rfl,hel,_⟩:=re
   obtain ⟨ae',aaS,rfl,_,_⟩:=re'
   obtain ⟨ar,cr,rfl,hrl,_⟩:=rr
   obtain ⟨ar',cr',rfl,_,_⟩:=VC
   obtain ⟨ag,cg,rfl,lp,_⟩:=rg
   obtain ⟨ag',cg',rfl,_,_⟩:=VE
   obtain ⟨am',aaQ,rfl,_,_⟩:=rm'
   unfold maxLen at NI
   have IB:g'<wr.heap.size:=Nat.lt_of_lt_of_le p9 hB.size
   have d0:=(hB.cell (p:=⟨g,i*7,none⟩) hg).trans (aa HX _ _ x0)
   have f0:=(hB.cell (p:=⟨g',i*7,none⟩) p9).trans (aa Jr _ _ y0)
   have gf0:∀o,(wr.alloc o).cell? ⟨g',i*7,none⟩=_:=fun o=>(World.cell?_alloc_lt _ _ _ IB).trans f0
   have d1:=(hB.cell (p:=⟨g,i*7+1,none⟩) hg).trans (aa HX _ _ x1)
   have f1:=(hB.cell (p:=⟨g',i*7+1,none⟩) p9).trans (aa Jr _ _ y1)
   have gf1:∀o,(wr.alloc o).cell? ⟨g',i*7+1,none⟩=_:=fun o=>(World.cell?_alloc_lt _ _ _ IB).trans f1
   have d2:=(hB.cell (p:=⟨g,i*7+2,none⟩) hg).trans (aa HX _ _ x2)
   have f2:=(hB.cell (p:=⟨g',i*7+2,none⟩) p9).trans (aa Jr _ _ y2)
   have gf2:∀o,(wr.alloc o).cell? ⟨g',i*7+2,none⟩=_:=fun o=>(World.cell?_alloc_lt _ _ _ IB).trans f2
   have d3:=(hB.cell (p:=⟨g,i*7+3,none⟩) hg).trans (aa HX _ _ x3)
   have f3:=(hB.cell (p:=⟨g',i*7+3,none⟩) p9).trans (aa Jr _ _ y3)
   have gf3:∀o,(wr.alloc o).cell? ⟨g',i*7+3,none⟩=_:=fun o=>(World.cell?_alloc_lt _ _ _ IB).trans f3
   have d4:=(hB.cell (p:=⟨g,i*7+4,none⟩) hg).trans (aa HX _ _ x4)
   have f4:=(hB.cell (p:=⟨g',i*7+4,none⟩) p9).trans (aa Jr _ _ y4)
   have gf4:∀o,(wr.alloc o).cell? ⟨g',i*7+4,none⟩=_:=fun o=>(World.cell?_alloc_lt _ _ _ IB).trans f4
   have d5:=(hB.cell (p:=⟨g,i*7+5,none⟩) hg).trans (aa HX _ _ x5)
   have f5:=(hB.cell (p:=⟨g',i*7+5,none⟩) p9).trans (aa Jr _ _ y5)
   have gf5:∀o,(wr.alloc o).cell? ⟨g',i*7+5,none⟩=_:=fun o=>(World.cell?_alloc_lt _ _ _ IB).trans f5
   have d6:=(hB.cell (p:=⟨g,i*7+6,none⟩) hg).trans (aa HX _ _ x6)
   have f6:=(hB.cell (p:=⟨g',i*7+6,none⟩) p9).trans (aa Jr _ _ y6)
   have gf6:∀o,(wr.alloc o).cell? ⟨g',i*7+6,none⟩=_:=fun o=>(World.cell?_alloc_lt _ _ _ IB).trans f6
   have i0:(0:Int)≤(i:Int):=zH _
   have i1:(i:Int)<(l.length:Int):=by omega
   have e1:((fs.length:Int) != (fs.length:Int))=false:=by simp
   have xv:=aj (uS (aa HB) #[.string nm,.slice af fs.length cf,.slice ao os.length co,.slice am ms.length cm,.slice ae es.length ce_,.slice ar rs.length cr,.slice ag gs.length cg] #[.string nm,.slice af' fs.length cf',.slice ao' os.length co',.slice am' ms.length aaQ,.slice ae' es.length aaS,.slice ar' rs.length cr',.slice ag' gs.length cg'] 64)
   clear x0 x1 x2 x3 x4 x5 x6 y0 y1 y2 y3 y4 y5 y6 hB ht cD Wz res VF
   go_wp2_with fail
   have H0:=aa xv
   have W0:=(aa Gr).trans (H0.bl.mono (aa Gr).size)
   refine (iy ((aa Ro).up W0) ((aa Ro').up W0)).mono ?_
   rintro e w2 ⟨rfl,bH⟩
   have Dr:=aj (H0.up bH)
   have X2:=(aa Dr).x
   have Y2:=(aa Dr).y
   clear H0 bH xv d0 d1 d2 d3 d4 d5 d6 f0 f1 f2 f3 f4 f5 f6 gf0 gf1 gf2 gf3 gf4 gf5 gf6 W0
   go_wp2_with fail
   have H2:=aa Dr
   have W2:=(aa Gr).trans (H2.bl.mono (aa Gr).size)
   refine (pc ((aa Rr).up W2) ((aa Rr').up W2)).mono ?_
   rintro e w3 ⟨rfl,mC⟩
   have AV:=aj (H2.up mC)
   have X3:=(aa AV).x
   have Y3:=(aa AV).y
   clear H2 mC Dr X2 Y2 W2
   go_wp2_with fail
   have H3:=aa AV
   have W3:=(aa Gr).trans (H3.bl.mono (aa Gr).size)
   refine (iy ((aa Rg).up W3) ((aa Rg').up W3)).mono ?_
   rintro e w4 ⟨rfl,eR⟩
   have Jf:=aj (H3.up eR)
   have X4:=(aa Jf).x
   have Y4:=(aa Jf).y
   clear H3 eR AV X3 Y3 W3
   go_wp2
   go_loopg [8] fs.length (fun gk v8 wq=>∃(k m:Nat),v8=.int .i64 (k:Int)∧gk=fs.length-k∧k≤fs.length∧wq=w4.drewN m)
   case atStart=>exact ⟨0,0,rfl,rfl,by omega,rfl⟩
   case round =>
    obtain ⟨k,m,rfl,j9,hk,rfl⟩:=hrel
    have nH:=aj j9
    clear j9
    by_cases WH:k<fs.length
    ·obtain ⟨p,hp⟩:∃p,fs[k]?=some p:=⟨_,List.getElem?_eq_getElem WH⟩
     have W4:=(aa Gr).trans ((aa Jf).bl.mono (aa Gr).size)
     obtain ⟨_,_,ee,_,cC⟩:=(aa Rf).up W4
     obtain ⟨_,_,ee',_,Cf⟩:=(aa Rf').up W4
     obtain ⟨gv,hav,UG,Ld⟩:=cC (by omega)
     obtain ⟨gv',SU,aaG,vV⟩:=Cf (by omega)
     cases ee
     cases ee'
     subst hav
     subst SU
     have z:=pG _ _ _ hp
     obtain ⟨q0,q1,q2,q3,q4,q5⟩:=p
     have d0:=Ld _ _ (z 0 (.int .i64 q0) rfl)
     have f0:=vV _ _ (z 0 (.int .i64 q0) rfl)
     have d1:=Ld _ _ (z 1 (.string q1) rfl)
     have f1:=vV _ _ (z 1 (.string q1) rfl)
     have d2:=Ld _ _ (z 2 (.string q2) rfl)
     have f2:=vV _ _ (z 2 (.string q2) rfl)
     have d3:=Ld _ _ (z 3 (.string q3) rfl)
     have f3:=vV _ _ (z 3 (.string q3) rfl)
     have d4:=Ld _ _ (z 4 (.int .i64 q4) rfl)
     have f4:=vV _ _ (z 4 (.int .i64 q4) rfl)
     have d5:=Ld _ _ (z 5 (.int .i64 q5) rfl)
     have f5:=vV _ _ (z 5 (.int .i64 q5) rfl)
     have k0:(0:Int)≤(k:Int):=zH _
     have k1:(k:Int)<(fs.length:Int):=by omega
     rw[Nat.add_zero] at d0 f0
     clear Ld vV z cC Cf hp W4
     go_wp2
     go_quiet (fail)
     go_wp2
     go_roundg (fs.length-(k+1))
     case measure=>have:=aa nH;omega
     case rel=>exact ⟨k+1,_,by go_num,rfl,by omega,rfl⟩
    ·obtain rfl:k=fs.length:=by omega
     go_wp2_with fail
     have H4:Jc w0 _ _ _ _ _ (w4.drewN m):=(aa Jf).up (below_drewN (zE _ _) m)
     have W4:=(aa Gr).trans (H4.bl.mono (aa Gr).size)
     refine (nP ((aa Re).up W4) ((aa RS).up W4) ((aa Re').up W4) ((aa RS').up W4)).mono ?_
     rintro e w5 ⟨rfl,jf⟩
     have ZS:=aj (H4.up jf)
     have X5:=(aa ZS).x
     have Y5:=(aa ZS).y
     clear H4 W4 jf Jf X4 Y4
     go_wp2_with fail
     have H5:=aa ZS
     refine (aa YA _ ((aa Gr).trans (H5.bl.mono (aa Gr).size))).mono ?_
     rintro e w6 ⟨rfl,IC⟩
     have YE:=aj (H5.up IC).bl
     clear H5 IC ZS X5 Y5
     go_wp2
     go_roundg (l.length-(i+1))
     case measure=>have:=aa fQ;omega
     case rel=>exact ⟨i+1,by go_num,rfl,by omega,YE⟩
  ·obtain rfl:i=l.length:=by omega
   go_wp2
   go_ret
   exact ⟨rfl,aa HB⟩
theorem di.each {P:Nat→Prop}{w:World}{cs:List Value}{l:List Ms} (h:di P w cs l):YN w cs l:=by
 induction h with
 |nil=>intro i _ _ _ _ _ _ _ h;simp at h
 |cons hf ho hm jQ he mx hr hg _ V0 Is =>
  intro i nm fs os ms es rs gs h
  cases i with
  |zero =>
   cases zC h
   obtain ⟨a,c,e,_⟩:=hm.rd
   exact ⟨_,_,_,_,_,_,_,⟨⟨rfl,rfl,rfl,rfl,rfl,rfl,rfl⟩,hf.rd,ho.rd,he.rd,mx.rd,hr.rd,hg.rd⟩,⟨a,c,e⟩,rb hm.rd V0⟩
  |succ i =>
   obtain ⟨vf,vo,vm,ve,vr,vg,ce,h1,h2⟩:=Is i nm fs os ms es rs gs (by simpa using h)
   exact ⟨vf,vo,vm,ve,vr,vg,ce,h1.up,h2⟩
end Go.Proofs.YtmlphohdcejniaaGreatDoor

import Derived.Test.YtjophoclfccmcaaGreatDoorM40
import Derived.Lib.SlicesS
namespace Go.Proofs.YtjophoclfccmcaaGreatDoor
open Go.RowKit
structure Sl (l:Nat) (L:List Nat) (w:World) (ss:List Slot):Prop where
 own:∀(i:Nat) (sl:Slot),ss[i]?=some sl→w.ownsRow l sl.t sl.sz sl.v sl.n sl.xs
 apart:∀(i j:Nat) (a c:Slot),i≠j→ss[i]?=some a→ss[j]?=some c→∀k,a.v.ownBlock=some k→c.v.ownBlock≠some k
 q:∀(i:Nat) (sl:Slot) (k:Nat),ss[i]?=some sl→sl.v.ownBlock=some k→k ∉ L
 lt:∀k ∈ L,k<w.heap.size
theorem Sl.FT {l:Nat}{L:List Nat}{w w':World}{ss:List Slot} (h:Sl l L w ss) (hs:w.heap.size≤w'.heap.size) (hb:∀k:Nat,(∃(i:Nat) (sl:Slot),ss[i]?=some sl∧sl.v.ownBlock=some k)→w'.heap[k]?=w.heap[k]?):Sl l L w' ss:=by
 refine ⟨fun i sl hi=>?_,h.apart,h.q,fun k hk=>Nat.lt_of_lt_of_le (h.lt k hk) hs⟩
 have h1:=h.own i sl hi
 refine ⟨h1.1,?_⟩
 rcases h1.2 with h3|⟨r,cap,cur,e,mO,hc,rest⟩
 ·exact .inl h3
 ·exact .inr ⟨r,cap,cur,e,mO,(hb r ⟨i,sl,hi,by rw[e];rfl⟩).trans hc,rest⟩
theorem Sl.kept {l b:Nat}{L:List Nat}{w w':World}{ss:List Slot} (h:Sl l L w ss) (hg:w.grownBy w' (some b)) (hb:b<l∨b ∈ L):Sl l L w' ss :=
 h.FT hg.size (fun k ⟨i,sl,hi,hk⟩=>hg.block k (((h.own i sl hi).lt k hk).2) (fun e=>by
  have e:k=b:=zC e
  subst e
  rcases hb with hb|hb
  ·have:=((h.own i sl hi).lt k hk).1;omega
  ·exact h.q i sl k hi hk hb))
theorem Sl.alloc {l:Nat}{L:List Nat}{w:World}{ss:List Slot} (h:Sl l L w ss) (o:Obj):Sl l L (w.alloc o) ss :=
 h.FT (by rw[zJ];omega) (fun k ⟨i,sl,hi,hk⟩=>Below.heap_alloc _ _ _ (((h.own i sl hi).lt k hk).2))
theorem Sl.box {l:Nat}{L:List Nat}{w:World}{ss:List Slot} (h:Sl l L w ss) (o:Obj):Sl l (w.heap.size::L) (w.alloc o) ss:=by
 have h1:=h.alloc o
 refine ⟨h1.own,h1.apart,fun i sl k hi hk hm=>?_,fun k hk=>?_⟩
 ·rcases List.mem_cons.1 hm with rfl|hm
  ·have:=((h.own i sl hi).lt _ hk).2;omega
  ·exact h.q i sl k hi hk hm
 ·rcases List.mem_cons.1 hk with rfl|hk
  ·rw[zJ];omega
  ·exact h1.lt k hk
theorem Sl.up {l:Nat}{L:List Nat}{w w':World}{ss:List Slot} (h:Sl l L w ss) (hb:Below w.heap.size w w'):Sl l L w' ss :=
 h.FT hb.size (fun k ⟨i,sl,hi,hk⟩=>hb.block k (((h.own i sl hi).lt k hk).2))
theorem Sl.app {l:Nat}{L:List Nat}{w w':World}{ss:List Slot}{i n':Nat}{sl:Slot}{v':Value}{sj:List Value} (h:Sl l L w ss) (hi:ss[i]?=some sl) (ho:w'.ownsRow l sl.t sl.sz v' n' sj) (hg:w.grownBy w' sl.v.ownBlock) (fg:v'.ownBlock=sl.v.ownBlock∨v'.ownBlock=some w.heap.size):Sl l L w' (ss.set i ⟨sl.t,sl.sz,v',n',sj⟩):=by
 have dB:=(zB hi).1
 have yH:∀j,(ss.set i ⟨sl.t,sl.sz,v',n',sj⟩)[j]?=if i=j then some ⟨sl.t,sl.sz,v',n',sj⟩ else ss[j]?:=by
  intro j
  rw[List.getElem?_set]
  by_cases e:i=j
  ·subst e;rw[if_pos rfl,if_pos rfl,if_pos dB]
  ·rw[if_neg e,if_neg e]
 refine ⟨fun j a hj=>?_,fun j m a c hjm hj hm k hk=>?_,fun j a k hj hk=>?_,fun k hk=>Nat.lt_of_lt_of_le (h.lt k hk) hg.size⟩
 ·rw[yH] at hj
  by_cases e:i=j
  ·rw[if_pos e] at hj
   obtain rfl:=zC hj
   exact ho
  ·rw[if_neg e] at hj
   refine (h.own j a hj).kept hg ?_
   by_cases en:a.v.ownBlock=none
   ·exact .inl en
   ·refine .inr (fun q=>?_)
    obtain ⟨m,hm⟩:=Option.ne_none_iff_exists'.1 en
    exact h.apart j i a sl (Ne.symm e) hj hi m hm (by rw[←q];exact hm)
 ·rw[yH] at hj hm
  by_cases e:i=j
  ·rw[if_pos e] at hj
   obtain rfl:=zC hj
   rw[if_neg (fun q=>hjm (by rw[←e,←q]))] at hm
   intro hc
   rcases fg with fg|fg
   ·exact h.apart i m sl c (by rw[e];exact hjm) hi hm k (by rw[←fg];exact hk) hc
   ·have h1:=((h.own m c hm).lt k hc).2
    have h2:some w.heap.size=some k:=by rw[←fg];exact hk
    have:=zC h2
    omega
  ·rw[if_neg e] at hj
   by_cases e2:i=m
   ·rw[if_pos e2] at hm
    obtain rfl:=zC hm
    intro hc
    rcases fg with fg|fg
    ·exact h.apart j i a sl (Ne.symm e) hj hi k hk (by rw[←fg];exact hc)
    ·have h1:=((h.own j a hj).lt k hk).2
     have h2:some w.heap.size=some k:=by rw[←fg];exact hc
     have:=zC h2
     omega
   ·rw[if_neg e2] at hm
    exact h.apart j m a c hjm hj hm k hk
 ·rw[yH] at hj
  by_cases e:i=j
  ·rw[if_pos e] at hj
   obtain rfl:=zC hj
   rcases fg with fg|fg
   ·exact h.q i sl k hi (by rw[←fg];exact hk)
   ·have h2:some w.heap.size=some k:=by rw[←fg];exact hk
    have h3:=zC h2
    intro hm
    have:=h.lt k hm
    omega
  ·rw[if_neg e] at hj
   exact h.q j a k hj hk
theorem Sl.gu {l:Nat}{L:List Nat}{w w' W:World}{ss:List Slot}{i b:Nat}{sl:Slot} (h:Sl l L w ss) (hi:ss[i]?=some sl) (hg:W.grownBy w (some b)) (hl:W.heap.size≤l) (k:w.grownBy w' sl.v.ownBlock):W.grownBy w' (some b):=Bw (h.own i sl hi) hl hg k
theorem Sl.zr {l:Nat}{L:List Nat}{w w':World}{ss:List Slot}{i b lo:Nat}{sl:Slot}{R:PX} (h:Sl l L w ss) (hi:ss[i]?=some sl) (hl:lo≤l) (hz:Zr lo w b R) (k:w.grownBy w' sl.v.ownBlock):Zr lo w' b R:=E' (h.own i sl hi) hl hz k
theorem Sl.lA {l:Nat}{L:List Nat}{w w':World}{ss:List Slot}{i g:Nat}{sl:Slot}{o:Obj} (h:Sl l L w ss) (hi:ss[i]?=some sl) (hm:g ∈ L) (hq:w.heap[g]?=some o) (k:w.grownBy w' sl.v.ownBlock):w'.heap[g]?=some o:=(k.block g (h.lt g hm) (fun e=>h.q i sl g hi e.symm hm)).trans hq
section
variable {σ : Type} {st : kG σ}
theorem ta (yG:∀x s x' s',st x s=.ok (x',s')→Gt s s'∧(s.en.kind=5→0<s.ts.length)):∀(f g:Nat) (x:σ) (s:ay),s.en.kind=5→s.ts.length<f→s.ts.length<g→jv st f x s=jv st g x s
 |0,_,_,_,_,h,_=>absurd h (by omega)
 |_+1,0,_,_,_,_,h=>absurd h (by omega)
 |f+1,g+1,x,s,he,hf,hg=>by
  unfold jv
  by_cases hq:aJ s.here 4 ⟨#[125]⟩=true
  ·rw[if_pos hq,if_pos hq]
  ·rw[if_neg hq,if_neg hq]
   cases hs:st x s with
   |error y=>rfl
   |ok p =>
    obtain ⟨x',s'⟩:=p
    obtain ⟨h1,h2⟩:=yG x s x' s' hs
    have h3:=dP h1 (h2 he)
    obtain ⟨_,_,_,e⟩:=h1
    exact ta yG f g x' s' (by rw[e];exact he) (by omega) (by omega)
def oh (st:kG σ) (x:σ) (s:ay):Except (Int×Int) (σ×ay):=jv st 20000 x s
theorem yA {x:σ}{s:ay} (hq:aJ s.here 4 ⟨#[125]⟩=true):oh st x s=.ok (x,s):=by
 show (if aJ s.here 4 ⟨#[125]⟩=true then _ else _)=_
 rw[if_pos hq]
theorem sG (yG:∀x s x' s',st x s=.ok (x',s')→Gt s s'∧(s.en.kind=5→0<s.ts.length)) {x:σ}{s:ay} (hg:Gd s) (hq:¬aJ s.here 4 ⟨#[125]⟩=true):oh st x s=bO (st x s) (fun x' s'=>oh st x' s'):=by
 show (if aJ s.here 4 ⟨#[125]⟩=true then _ else _)=_
 rw[if_neg hq]
 cases hs:st x s with
 |error y=>rfl
 |ok p =>
  obtain ⟨x',s'⟩:=p
  obtain ⟨h1,h2⟩:=yG x s x' s' hs
  have h3:=dP h1 (h2 hg.en)
  have h4:=hg.len
  obtain ⟨_,_,_,e⟩:=h1
  rw[aL]
  exact ta yG 19999 20000 x' s' (by rw[e];exact hg.en) (by omega) (by omega)
theorem GQ (yG:∀x s x' s',st x s=.ok (x',s')→Gt s s'∧(s.en.kind=5→0<s.ts.length)) {x:σ}{s:ay} (hg:Gd s):jj st x s=bO (au ⟨#[123]⟩ s) (fun _ s1=>oh st x s1):=by
 unfold jj oh
 rw[gP hg.bg]
 by_cases hq:aJ s.here 4 ⟨#[123]⟩=true
 ·rw[if_pos hq,aL]
  have h4:=hg.nx.len
  exact ta yG _ _ x s.nx hg.en (by omega) (by omega)
 ·rw[if_neg hq];rfl
end
theorem gC {k c:ByteArray} (h:(k==c)=true):k=c:=by
 obtain ⟨a⟩:=k
 obtain ⟨d⟩:=c
 exact congrArg ByteArray.mk (by simpa using (show (a==d)=true from h))
theorem bk {t:Tk}{k:Int}{x:ByteArray}:aJ t k x=true↔t.kind=k∧t.text=x:=by
 unfold aJ
 rw[Bool.and_eq_true,Lib.bytes_beq_iff]
 constructor
 ·rintro ⟨h1,h2⟩;exact ⟨by simpa using h1,h2⟩
 ·rintro ⟨h1,h2⟩;exact ⟨by simpa using h1,h2⟩
theorem Dm {α:Type}{one:ay→Except (Int×Int) (α×ay)}:∀(n:Nat) (a b:List α) (s:ay),eC one n (a++b) s=bO (eC one n b s) (fun l s'=>.ok (a++l,s'))
 |0,_,_,_=>rfl
 |n+1,a,b,s=>by
  unfold eC
  cases hp:bX 4 ⟨#[44]⟩ s with
  |error y=>rfl
  |ok p =>
   obtain ⟨q,s1⟩:=p
   cases q with
   |false=>rfl
   |true =>
    dsimp only
    cases ho:one s1 with
    |error y=>rfl
    |ok r =>
     obtain ⟨x,s2⟩:=r
     dsimp only
     rw[List.append_assoc]
     exact Dm n a (b++[x]) s2
theorem DI {α:Type}{one:ay→Except (Int×Int) (α×ay)} (a:List α) (s:ay):gw one a s=bO (gw one [] s) (fun l s'=>.ok (a++l,s')):=by
 unfold gw
 cases ho:one s with
 |error y=>rfl
 |ok r =>
  obtain ⟨x,s1⟩:=r
  dsimp only
  rw[Dm,List.nil_append]
  cases hr:eC one (s1.ts.length+1) [x] s1 with
  |error y=>rfl
  |ok p =>
   obtain ⟨l,s2⟩:=p
   rw[aL]
   dsimp only
   cases au ⟨#[59]⟩ s2 with
   |error y=>rfl
   |ok q=>rfl
theorem Ip (bl bh:Int) (bm:Bool) (rs:List (Int×Int)) (gs:List ByteArray) (s:ay):jZ bl bh bm rs gs s=bO (jZ bl bh bm [] [] s) (fun l s'=>.ok ((rs++l.1,gs++l.2),s')):=by
 unfold jZ
 cases bz s with
 |error y=>rfl
 |ok p =>
  obtain ⟨u,s1⟩:=p
  dsimp only
  by_cases hk:s1.here.kind=3
  ·rw[if_pos hk,if_pos hk,DI gs]
   cases gw eY [] s1 with
   |error y=>rfl
   |ok q=>rw[aL];dsimp only;rw[aL,List.append_nil]
  ·rw[if_neg hk,if_neg hk,DI rs]
   cases gw (kR bl bh bm) [] s1 with
   |error y=>rfl
   |ok q=>rw[aL];dsimp only;rw[aL,List.append_nil]
def nw:ByteArray:=⟨#[111,112,116,105,111,110]⟩
noncomputable def TU (x:En) (s:ay):Except (Int×Int) (En×ay):=if aJ s.here 4 ⟨#[59]⟩=true then .ok (x,s.nx) else if aJ s.here 1 kq=true then bO (gF true s) (fun l s'=>.ok ({ x with res:=x.res++l.1,gone:=x.gone++l.2 },s')) else bO (dd s) (fun v s'=>.ok ({ x with bS:=x.bS++[v] },s'))
theorem QV {x:En}{s:ay} (hg:Gd s):bU I3 Gr x s=bO (dj [nw] s) (fun _ s1=>TU x s1):=by
 rw[Fx]
 have ho:([nw]:List ByteArray).any (fun x=>aJ s.here 1 x)=aJ s.here 1 nw:=by simp
 rw[ho]
 unfold bU
 rw[cV hg.bg]
 by_cases h1:aJ s.here 4 ⟨#[59]⟩=true
 ·have hk:=(bk.1 h1).1
  have h2:¬aJ s.here 1 nw=true:=fun q=>by rw[bk,hk] at q;exact absurd q.1 (by decide)
  rw[if_pos h1,if_neg h2,aL]
  unfold TU
  rw[if_pos h1]
 ·rw[if_neg h1]
  dsimp only
  unfold I3
  by_cases h2:s.here.kind=1
  ·by_cases h3:s.here.text=nw
   ·rw[if_pos (bk.2 ⟨h2,h3⟩)]
    rw[if_neg (by rw[h3];decide +kernel),if_pos (by rw[h3];decide +kernel)]
    dsimp only
    rw[if_pos h2]
    rfl
   ·rw[if_neg (fun q=>h3 (bk.1 q).2),aL]
    unfold TU
    rw[if_neg h1]
    by_cases h4:s.here.text=kq
    ·rw[if_pos (bk.2 ⟨h2,h4⟩),if_pos (by rw[h4];decide +kernel)]
     dsimp only
     rw[if_pos h2]
     unfold enR
     rw[Ip,show jZ (-2147483648) 2147483647 true [] [] s=gF true s from rfl]
     cases gF true s with
     |error y=>rfl
     |ok p=>rfl
    ·rw[if_neg (fun q=>h4 (bk.1 q).2)]
     have e1:¬(s.here.text==⟨#[114,101,115,101,114,118,101,100]⟩)=true:=fun q=>h4 (gC q)
     have e2:¬(s.here.text==⟨#[111,112,116,105,111,110]⟩)=true:=fun q=>h3 (gC q)
     rw[if_neg e1,if_neg e2]
     unfold Gr
     cases dd s with
     |error y=>rfl
     |ok p=>rfl
  ·have h3:∀y,¬aJ s.here 1 y=true:=fun y q=>h2 (bk.1 q).1
   rw[if_neg (h3 _),aL]
   unfold TU
   rw[if_neg h1,if_neg (h3 _)]
   have fin:Gr x s=bO (dd s) (fun v s'=>.ok ({ x with bS:=x.bS++[v] },s')):=by
    unfold Gr
    cases dd s with
    |error y=>rfl
    |ok p=>rfl
   generalize (if (s.here.text==⟨#[114,101,115,101,114,118,101,100]⟩)=true then some enR else if (s.here.text==⟨#[111,112,116,105,111,110]⟩)=true then some dv else none:Option (kG En))=o
   cases o with
   |none=>exact fin
   |some f =>
    dsimp only
    rw[if_neg h2]
    exact fin
end Go.Proofs.YtjophoclfccmcaaGreatDoor
namespace Go.Proofs.YtjophoclfccmcaaGreatDoor
open Go.RowKit
def lj:ByteArray:=⟨#[101,110,117,109]⟩
theorem TT (x:En) (s:ay) (x':En) (s':ay) (h:bU I3 Gr x s=.ok (x',s')):Gt s s'∧(s.en.kind=5→0<s.ts.length):=gX Cb Cc h
noncomputable def O9 (x:En) (s:ay):Except (Int×Int) (En×ay):=if x.bS.length=0 then .error (bR s) else bO (bz s) (fun _ s'=>.ok (x,s'))
noncomputable def gT (x:En) (s:ay):Except (Int×Int) (En×ay):=bO (oh (bU I3 Gr) x s) O9
noncomputable def lK (x:En) (s:ay):Except (Int×Int) (En×ay):=bO (TU x s) (fun x' s'=>gT x' s')
theorem OZ {R:PX}{k pt:Int}{tt nm:ByteArray} (hg:lq R) (hp:EF R ⟨k,pt,tt⟩) (hk:∀s,R=.ok s→aJ s.here 1 lj=true)
  (cN:lq (aT (al (aT (al (aT (al R (aP pt))) (cl lj))) aR)))
  (hv:∀a s,al (aT (al (aT (al R (aP pt))) (cl lj))) aR=.ok (a,s)→Value.string nm=.string a) :
  al R db=al (aT (al (aT (al (aT (al (aT (al R (aP pt))) (cl lj))) aR)) (au ⟨#[123]⟩))) (gT ⟨nm,[],[],[]⟩):=by
 match R,hg,hp,hk,cN,hv with
 |.error y,_,_,_,_,_=>rfl
 |.ok s,hg,hp,hk,cN,hv =>
  have ht:pt=s.here.spot:=hp.2.1
  subst ht
  have hb:=ns (hk s rfl)
  simp only[fe,jD,seq_assoc] at cN hv ⊢
  simp only[al] at cN hv ⊢
  unfold db
  rw[gO hg,←hb]
  cases h1:aP s.here.spot s with
  |error y=>rfl
  |ok p1 =>
   rw[h1] at cN hv
   simp only[aL] at cN hv ⊢
   cases h2:cl lj p1.2 with
   |error y=>rfl
   |ok p2 =>
    rw[h2] at cN hv
    simp only[aL] at cN hv ⊢
    cases h3:aR p2.2 with
    |error y=>rfl
    |ok p3 =>
     rw[h3] at cN
     have e3:nm=p3.1:=by simpa using hv p3.1 p3.2 h3
     have sb:Gd p3.2:=cN
     obtain ⟨a3,s3⟩:=p3
     dsimp only at e3 sb ⊢
     rw[aL,GQ TT sb]
     dsimp only
     cases h4:au ⟨#[123]⟩ s3 with
     |error y=>rfl
     |ok p4 =>
      rw[aL,aL,e3]
      unfold gT O9
      cases oh (bU I3 Gr) ⟨a3,[],[],[]⟩ p4.2 with
      |error y=>rfl
      |ok p5 =>
       rw[aL]
       dsimp only
       by_cases hl:p5.1.bS.length=0
       ·rw[if_pos hl,if_pos hl]
       ·rw[if_neg hl,if_neg hl]
        cases bz p5.2 with
        |error y=>rfl
        |ok p6=>rfl
theorem O5 {x:En}{s:ay} (hg:Gd s) (hq:¬aJ s.here 4 ⟨#[125]⟩=true):gT x s=al (aT (al (.ok s) (dj [nw]))) (lK x):=by
 unfold gT lK
 rw[sG TT hg hq,QV hg,seq_assoc,seq_assoc,fe]
 rfl
theorem Nk {x:En}{s:ay} (h:aJ s.here 4 ⟨#[59]⟩=true):lK x s=gT x s.nx:=by
 unfold lK TU
 rw[if_pos h]
 rfl
theorem Rz {x:En}{s:ay}{l1:List (Int×Int)}{l2:List ByteArray} (h:¬aJ s.here 4 ⟨#[59]⟩=true) (h2:aJ s.here 1 kq=true) (hv:∀a s',al (.ok s) (gF true)=.ok (a,s')→a=(l1,l2)):lK x s=al (aT (al (.ok s) (gF true))) (gT { x with res:=x.res++l1,gone:=x.gone++l2 }):=by
 unfold lK TU
 rw[if_neg h,if_pos h2]
 rw[show al (.ok s) (gF true)=gF true s from rfl] at hv ⊢
 cases hr:gF true s with
 |error y=>rfl
 |ok p =>
  obtain ⟨a,s'⟩:=p
  obtain rfl:=hv a s' hr
  rfl
theorem Ry {x:En}{R:PX}{v:ByteArray×Int} (h:fU R 4 ⟨#[59]⟩=false) (h2:fU R 1 kq=false) (hv:∀a s',al R dd=.ok (a,s')→a=v):al R (lK x)=al (aT (al R dd)) (gT { x with bS:=x.bS++[v] }):=by
 match R,h,h2,hv with
 |.error y,_,_,_=>rfl
 |.ok s,h,h2,hv =>
  have h':¬aJ s.here 4 ⟨#[59]⟩=true:=by rw[show aJ s.here 4 ⟨#[59]⟩=false from h];decide
  have XP:¬aJ s.here 1 kq=true:=by rw[show aJ s.here 1 kq=false from h2];decide
  show lK x s=al (aT (dd s)) _
  unfold lK TU
  rw[if_neg h',if_neg XP]
  cases hr:dd s with
  |error y=>rfl
  |ok p =>
   obtain ⟨a,s'⟩:=p
   obtain rfl:=hv a s' hr
   rfl
theorem Yo {R:PX}{kt pt:Int}{tt x1:ByteArray}{n:Int}{t:Tk} (hg:lq R) (hp:EF R ⟨kt,pt,tt⟩)
  (cN:lq (aT (al (aT (al (aT (al R aR)) (aP pt))) (au ⟨#[61]⟩))))
  (tL:∀a s,al R aR=.ok (a,s)→Value.string x1=.string a)
  (qI:∀a s,al (aT (al (aT (al (aT (al R aR)) (aP pt))) (au ⟨#[61]⟩))) (jc true)=.ok (a,s)→a=(n,t)) :
  aT (al (aT (al (aT (al (aT (al (aT (al R aR)) (aP pt))) (au ⟨#[61]⟩))) (jc true))) rL)=aT (al R dd)∧∀a s,al R dd=.ok (a,s)→a=(x1,n):=by
 match R,hg,hp,cN,tL,qI with
 |.error y,_,_,_,_,_=>exact ⟨rfl,fun _ _ e=>(by cases e)⟩
 |.ok s,hg,hp,cN,tL,qI =>
  have ht:pt=s.here.spot:=hp.2.1
  subst ht
  simp only[fe,jD,seq_assoc] at cN qI ⊢
  simp only[al] at cN tL qI ⊢
  unfold dd dY
  rw[Ds hg]
  cases h1:aR s with
  |error y=>exact ⟨rfl,fun _ _ e=>(by cases e)⟩
  |ok p1 =>
   have e1:x1=p1.1:=by simpa using tL p1.1 p1.2 h1
   rw[h1] at cN qI
   simp only[aL] at cN qI ⊢
   cases h2:aP s.here.spot p1.2 with
   |error y=>exact ⟨rfl,fun _ _ e=>(by cases e)⟩
   |ok p2 =>
    rw[h2] at cN qI
    simp only[aL] at cN qI ⊢
    cases h3:au ⟨#[61]⟩ p2.2 with
    |error y=>exact ⟨rfl,fun _ _ e=>(by cases e)⟩
    |ok p3 =>
     rw[h3] at cN qI
     simp only[aL] at cN qI ⊢
     have sb:Gd p3.2:=cN
     rw[AK sb.bg (-2147483648) 2147483647 true (.inl ⟨rfl,rfl⟩) rfl]
     cases h4:jc true p3.2 with
     |error y=>exact ⟨rfl,fun _ _ e=>(by cases e)⟩
     |ok p4 =>
      obtain ⟨a4,s4⟩:=p4
      have e4:=qI a4 s4 h4
      subst e4
      simp only[aL,Lw]
      unfold rL
      by_cases hq:aJ s4.here 4 ⟨#[91]⟩=true
      ·rw[if_pos hq,if_pos hq]
       exact ⟨rfl,fun _ _ e=>(by cases e)⟩
      ·rw[if_neg hq,if_neg hq]
       cases h5:au ⟨#[59]⟩ s4 with
       |error y=>exact ⟨rfl,fun _ _ e=>(by cases e)⟩
       |ok p5=>exact ⟨rfl,fun _ _ e=>(by cases e;rw[e1])⟩
def TV (len:Nat) (R:PX):PX:=if len=0 then kP R else R
theorem Wg {x:En}{R:PX}{F0:Except (Int×Int) (En×ay)} (hg:lq R) (hq:∀s,R=.ok s→aJ s.here 4 ⟨#[125]⟩=true) (hf:F0=al R (gT x)):aT (al (TV x.bS.length R) (au ⟨#[125]⟩))=aT F0∧∀a s,F0=.ok (a,s)→a=x:=by
 subst hf
 match R,hg,hq with
 |.error y,_,_=>exact ⟨by unfold TV;split<;>rfl,fun _ _ e=>(by cases e)⟩
 |.ok s,hg,hq =>
  have h1:=hq s rfl
  show _=aT (gT x s)∧∀a s',gT x s=.ok (a,s')→a=x
  unfold gT O9 TV
  rw[yA h1,aL]
  dsimp only
  by_cases hl:x.bS.length=0
  ·rw[if_pos hl,if_pos hl]
   exact ⟨rfl,fun _ _ e=>(by cases e)⟩
  ·rw[if_neg hl,if_neg hl,fT hg.bg]
   show aT (au ⟨#[125]⟩ s)=_∧_
   rw[gP hg.bg,if_pos h1]
   exact ⟨rfl,fun _ _ e=>(by cases e;rfl)⟩
def pU (c L:Nat) (R:PX):Prop:=L≤c∧∀s,R=.ok s→L+50000*s.ts.length≤900000000
theorem pU.next {L L':Nat}{s:ay}{R:PX} (h:pU 1000000000 L (.ok s)) (hl:L'≤L+50000) (hm:∀s',R=.ok s'→s'.ts.length<s.ts.length):pU 1000000000 L' R:=by
 have h1:=h.2 s rfl
 exact ⟨by omega,fun s' e=>by have:=hm s' e;omega⟩
end Go.Proofs.YtjophoclfccmcaaGreatDoor
namespace Go.Proofs.YtjophoclfccmcaaGreatDoor
open Go.RowKit
attribute [local go_sem ↓] Go.wp_at_zero Go.wp_at_succ
theorem iO {P:Program}{w:World}{ops:Array Oper}{rest:List Oper}{o:Oper}{a:Act}{Q:Exit→Act→World→Prop} (sb:o.guard=none) (s x:Operand) (t:TypeId)
  (ho:o.op=.call { callee:=.builtin .append,args:=#[s,x],argTypes:=#[t,t] })
  (base:Nat) (e:TypeId) (i:TypeInfo) (z:Value) (size bytes:Nat) (ht:P.underlying t=some (.slice e)) (hi:P.info? e=some i) (hz:i.zero=some z)
  (N8:i.size=size) (BY:i.bytes=bytes) (hzs:z.cells.size=size) (ck:0<size)
  (v:Value) (n:Nat) (xs:List Value) (hs:a.eval s=v) (oq:w.ownsRow base e size v n xs)
  (u:Value) (m aaE:Nat) (ys:List Value) (hx:a.eval x=u) (hu:w.ownsRow aaE e size u m ys) (h1:∀y ∈ ys,y.oneCell'=true)
  (h63:n+m≤maxLen) (yM:(n+m)*bytes≤140737488355328) (cJ:base≤w.heap.size)
  (h:∀v' w',w'.ownsRow base e size v' (n+m) (xs++ys)→w.grownBy w' v.ownBlock→(v'.ownBlock=v.ownBlock∨v'.ownBlock=some w.heap.size)→wpList P ops Q rest (a.put o.dst v') w') :
  wpList P ops Q (o::rest) a w:=by
 have key:∃v' w',(Builtin.append_ #[t,t] o.type #[v,u]).run P w=.ok v' w'∧w'.ownsRow base e size v' (n+m) (xs++ys)∧w.grownBy w' v.ownBlock∧(v'.ownBlock=v.ownBlock∨v'.ownBlock=some w.heap.size):=by
  have hl:=hu.1
  rcases hu.2 with ⟨rfl,rfl⟩|⟨g,cap,cur,rfl,br,hc,acX⟩
  ·have hy:ys=[]:=List.eq_nil_of_length_eq_zero (by rw[hl];omega)
   subst hy
   refine ⟨v,w,run_append_owned_none (P:=P) (w:=w) base t o.type e i size ht hi v n xs oq,?_,⟨rfl,rfl,rfl,zD _,fun _ _ _=>rfl⟩,.inl rfl⟩
   rw[List.append_nil]
   exact oq
  ·obtain ⟨v',w',hr,h2,AW,_,h5⟩:=run_append_own_at (P:=P) w base t o.type e i z size bytes ht hi hz N8 BY hzs ck v n xs oq ⟨g,0,none⟩ m cap ys hl (hu.cells rfl) h1 h63 yM cJ
   exact ⟨v',w',hr,h2,AW,h5⟩
 obtain ⟨v',w',hr,k1,k2,k3⟩:=key
 refine wpList_plain sb fun K hK=>?_
 unfold Oper.wp execOp
 simp only[ho,resolve,invoke,builtin,Sem.run_bind,Sem.run_pure,Result.andThen_ok,List.map_toArray,List.map_cons,List.map_nil,hs,hx,hr]
 exact hK _ _ (h v' w' k1 k2 k3)
theorem Vh:(Tryz.prog.info? 73).map (fun i=>(i.zero,i.size,i.bytes))=some (some (.agg #[.string ⟨#[]⟩,.int .i64 0]),2,24):=by kernel_rfl
def ES (x:En) (vv vr vg:Value):List Slot:=[⟨73,2,vv,x.bS.length,KX x.bS⟩,⟨98,2,vr,x.res.length,qG x.res⟩,⟨9,1,vg,x.gone.length,dR x.gone⟩]
structure Xh (W:World) (lo b ri ti xi:Nat) (nm:ByteArray) (F0:Except (Int×Int) (En×ay)) (G:En→ay→Except (Int×Int) (En×ay)) (x:En) (R:PX) (w:World):Prop where
 g:W.grownBy w (some b)
 z:Zr lo w b R
 r:w.heap[ri]?=some (.cells #[.string ⟨#[]⟩,.slice none 0 0,.slice none 0 0,.slice none 0 0] 71 (0,0))
 t:∃(k p:Int) (tx:ByteArray),w.heap[ti]?=some (.cells #[.int .i64 k,.int .i64 p,.string tx] 38 (0,0))
 bx:∃(a1:Option Addr) (c1:Nat) (a2:Option Addr) (c2:Nat) (a3:Option Addr) (c3:Nat),w.heap[xi]?=some (.cells #[.string nm,.slice a1 x.bS.length c1,.slice a2 x.res.length c2,.slice a3 x.gone.length c3] 71 (0,0))∧Sl W.heap.size [xi,ti,ri] w (ES x (.slice a1 x.bS.length c1) (.slice a2 x.res.length c2) (.slice a3 x.gone.length c3))
 n:x.name=nm
 f:F0=al R (G x)
 l:pU 1000000000 (x.bS.length+x.res.length+x.gone.length) R
theorem Xh.kept {W w w':World}{lo b ri ti xi:Nat}{nm:ByteArray}{F0:Except (Int×Int) (En×ay)}{G G':En→ay→Except (Int×Int) (En×ay)}{x:En}{R R':PX} (h:Xh W lo b ri ti xi nm F0 G x R w) (hb:b<W.heap.size∧b<ri∧b<ti∧b<xi) (hg:w.grownBy w' (some b)) (hz:Zr lo w' b R') (hf:F0=al R' (G' x)) (hl:pU 1000000000 (x.bS.length+x.res.length+x.gone.length) R'):Xh W lo b ri ti xi nm F0 G' x R' w':=by
 obtain ⟨k,p,tx,ht⟩:=h.t
 obtain ⟨a1,c1,a2,c2,a3,c3,hx,hs⟩:=h.bx
 exact ⟨h.g.trans hg,hz,ax hg h.r (by omega),⟨k,p,tx,ax hg ht (by omega)⟩,⟨a1,c1,a2,c2,a3,c3,ax hg hx (by omega),hs.kept hg (.inl hb.1)⟩,h.n,hf,hl⟩
theorem Cr {W w w1:World}{lo b l xi j n' i:Nat}{L:List Nat}{ss:List Slot}{sl:Slot}{v':Value}{sj:List Value}{R:PX}{cs:Array Value}{T:TypeId} (hS:Sl l L w ss) (hi:ss[i]?=some sl) (hl:W.heap.size≤l) (ji:lo≤W.heap.size) (hW:W.grownBy w (some b)) (hz:Zr lo w b R) (hx:w.heap[xi]?=some (.cells cs T (0,0))) (hm:xi ∈ L) (hxw:W.heap.size≤xi)
  (ho:w1.ownsRow l sl.t sl.sz v' n' sj) (hg:w.grownBy w1 sl.v.ownBlock) (fg:v'.ownBlock=sl.v.ownBlock∨v'.ownBlock=some w.heap.size) :
  w1.heap[xi]?=some (.cells cs T (0,0))∧Sl l L (w1.setCell ⟨xi,j,none⟩ v') (ss.set i ⟨sl.t,sl.sz,v',n',sj⟩)∧W.grownBy (w1.setCell ⟨xi,j,none⟩ v') (some b)∧Zr lo (w1.setCell ⟨xi,j,none⟩ v') b R∧(∀(g:Nat) (o:Obj),g ∈ L→g≠xi→w.heap[g]?=some o→(w1.setCell ⟨xi,j,none⟩ v').heap[g]?=some o)∧w1.grownBy (w1.setCell ⟨xi,j,none⟩ v') (some xi):=by
 have jo:=hS.lA hi hm hx hg
 have g1:w1.grownBy (w1.setCell ⟨xi,j,none⟩ v') (some xi):=(aC (j:=j) jo v').2
 exact ⟨jo,(hS.app hi ho hg fg).kept g1 (.inr hm),cx (hS.gu hi hW hl hg) g1 hxw,(hS.zr hi (Nat.le_trans ji hl) hz hg).gu g1 (Nat.le_trans ji hxw),fun g o hgm dV hq=>ax g1 (hS.lA hi hgm hq hg) dV,g1⟩
end Go.Proofs.YtjophoclfccmcaaGreatDoor

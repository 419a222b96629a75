import Derived.Test.YtjophoclfccmcaaGreatDoorM40
import Derived.Lib.SlicesS
namespace Go.Proofs.YtjophoclfccmcaaGreatDoor
open Go.RowKit
structure Sl (l:Nat) (L:List Nat) (w:World) (ss:List Slot):Prop where
 own:∀(i:Nat) (sl:Slot),ss[i]?=some sl→w.ownsRow l sl.t sl.sz sl.v sl.n sl.xs
 apart:∀(i j:Nat) (a c:Slot),i≠j→ss[i]?=some a→ss[j]?=some c→∀k,a.v.ownBlock=some k→c.v.ownBlock≠some k
 q:∀(i:Nat) (sl:Slot) (k:Nat),ss[i]?=some sl→sl.v.ownBlock=some k→k ∉ L
 lt:∀k ∈ L,k<w.heap.size
theorem Sl.F1 {l:Nat}{L:List Nat}{w w':World}{ss:List Slot} (h:Sl l L w ss) (hs:w.heap.size≤w'.heap.size) (hb:∀k:Nat,(∃(i:Nat) (sl:Slot),ss[i]?=some sl∧sl.v.ownBlock=some k)→w'.heap[k]?=w.heap[k]?):Sl l L w' ss:=by
 refine ⟨fun i sl hi=>?_,h.apart,h.q,fun k hk=>Nat.lt_of_lt_of_le (h.lt k hk) hs⟩
 have h1:=h.own i sl hi
 refine ⟨h1.1,?_⟩
 rcases h1.2 with h3|⟨r,cap,cur,e,eQ,hc,rest⟩
 ·exact .inl h3
 ·exact .inr ⟨r,cap,cur,e,eQ,(hb r ⟨i,sl,hi,by rw[e];rfl⟩).trans hc,rest⟩
theorem Sl.kept {l b:Nat}{L:List Nat}{w w':World}{ss:List Slot} (h:Sl l L w ss) (hg:w.grownBy w' (some b)) (hb:b<l∨b ∈ L):Sl l L w' ss :=
 h.F1 hg.size (fun k ⟨i,sl,hi,hk⟩=>hg.block k (((h.own i sl hi).lt k hk).2) (fun e=>by
  have e:k=b:=zC e
  subst e
  rcases hb with hb|hb
  ·have:=((h.own i sl hi).lt k hk).1;omega
  ·exact h.q i sl k hi hk hb))
theorem Sl.alloc {l:Nat}{L:List Nat}{w:World}{ss:List Slot} (h:Sl l L w ss) (o:Obj):Sl l L (w.alloc o) ss :=
 h.F1 (by rw[zJ];omega) (fun k ⟨i,sl,hi,hk⟩=>Below.heap_alloc _ _ _ (((h.own i sl hi).lt k hk).2))
theorem Sl.box {l:Nat}{L:List Nat}{w:World}{ss:List Slot} (h:Sl l L w ss) (o:Obj):Sl l (w.heap.size::L) (w.alloc o) ss:=by
 have h1:=h.alloc o
 refine ⟨h1.own,h1.apart,fun i sl k hi hk hm=>?_,fun k hk=>?_⟩
 ·rcases List.mem_cons.1 hm with rfl|hm
  ·have:=((h.own i sl hi).lt _ hk).2;omega
  ·exact h.q i sl k hi hk hm
 ·rcases List.mem_cons.1 hk with rfl|hk
  ·rw[zJ];omega
  ·exact h1.lt k hk
theorem Sl.up {l:Nat}{L:List Nat}{w w':World}{ss:List Slot} (h:Sl l L w ss) (hb:Below w.heap.size w w'):Sl l L w' ss :=
 h.F1 hb.size (fun k ⟨i,sl,hi,hk⟩=>hb.block k (((h.own i sl hi).lt k hk).2))
theorem Sl.app {l:Nat}{L:List Nat}{w w':World}{ss:List Slot}{i n':Nat}{sl:Slot}{v':Value}{sb:List Value} (h:Sl l L w ss) (hi:ss[i]?=some sl) (ho:w'.ownsRow l sl.t sl.sz v' n' sb) (hg:w.grownBy w' sl.v.ownBlock) (fp:v'.ownBlock=sl.v.ownBlock∨v'.ownBlock=some w.heap.size):Sl l L w' (ss.set i ⟨sl.t,sl.sz,v',n',sb⟩):=by
 have dr:=(zB hi).1
 have yM:∀j,(ss.set i ⟨sl.t,sl.sz,v',n',sb⟩)[j]?=if i=j then some ⟨sl.t,sl.sz,v',n',sb⟩ else ss[j]?:=by
  intro j
  rw[List.getElem?_set]
  by_cases e:i=j
  ·subst e;rw[if_pos rfl,if_pos rfl,if_pos dr]
  ·rw[if_neg e,if_neg e]
 refine ⟨fun j a hj=>?_,fun j m a c hjm hj hm k hk=>?_,fun j a k hj hk=>?_,fun k hk=>Nat.lt_of_lt_of_le (h.lt k hk) hg.size⟩
 ·rw[yM] at hj
  by_cases e:i=j
  ·rw[if_pos e] at hj
   obtain rfl:=zC hj
   exact ho
  ·rw[if_neg e] at hj
   refine (h.own j a hj).kept hg ?_
   by_cases en:a.v.ownBlock=none
   ·exact .inl en
   ·refine .inr (fun q=>?_)
    obtain ⟨m,hm⟩:=Option.ne_none_iff_exists'.1 en
    exact h.apart j i a sl (Ne.symm e) hj hi m hm (by rw[←q];exact hm)
 ·rw[yM] at hj hm
  by_cases e:i=j
  ·rw[if_pos e] at hj
   obtain rfl:=zC hj
   rw[if_neg (fun q=>hjm (by rw[←e,←q]))] at hm
   intro hc
   rcases fp with fp|fp
   ·exact h.apart i m sl c (by rw[e];exact hjm) hi hm k (by rw[←fp];exact hk) hc
   ·have h1:=((h.own m c hm).lt k hc).2
    have h2:some w.heap.size=some k:=by rw[←fp];exact hk
    have:=zC h2
    omega
  ·rw[if_neg e] at hj
   by_cases e2:i=m
   ·rw[if_pos e2] at hm
    obtain rfl:=zC hm
    intro hc
    rcases fp with fp|fp
    ·exact h.apart j i a sl (Ne.symm e) hj hi k hk (by rw[←fp];exact hc)
    ·have h1:=((h.own j a hj).lt k hk).2
     have h2:some w.heap.size=some k:=by rw[←fp];exact hc
     have:=zC h2
     omega
   ·rw[if_neg e2] at hm
    exact h.apart j m a c hjm hj hm k hk
 ·rw[yM] at hj
  by_cases e:i=j
  ·rw[if_pos e] at hj
   obtain rfl:=zC hj
   rcases fp with fp|fp
   ·exact h.q i sl k hi (by rw[←fp];exact hk)
   ·have h2:some w.heap.size=some k:=by rw[←fp];exact hk
    have h3:=zC h2
    intro hm
    have:=h.lt k hm
    omega
  ·rw[if_neg e] at hj
   exact h.q j a k hj hk
theorem Sl.gA {l:Nat}{L:List Nat}{w w' W:World}{ss:List Slot}{i b:Nat}{sl:Slot} (h:Sl l L w ss) (hi:ss[i]?=some sl) (hg:W.grownBy w (some b)) (hl:W.heap.size≤l) (k:w.grownBy w' sl.v.ownBlock):W.grownBy w' (some b):=BH (h.own i sl hi) hl hg k
theorem Sl.zr {l:Nat}{L:List Nat}{w w':World}{ss:List Slot}{i b lo:Nat}{sl:Slot}{R:PX} (h:Sl l L w ss) (hi:ss[i]?=some sl) (hl:lo≤l) (hz:Zr lo w b R) (k:w.grownBy w' sl.v.ownBlock):Zr lo w' b R:=Fg (h.own i sl hi) hl hz k
theorem Sl.lz {l:Nat}{L:List Nat}{w w':World}{ss:List Slot}{i g:Nat}{sl:Slot}{o:Obj} (h:Sl l L w ss) (hi:ss[i]?=some sl) (hm:g ∈ L) (hq:w.heap[g]?=some o) (k:w.grownBy w' sl.v.ownBlock):w'.heap[g]?=some o:=(k.block g (h.lt g hm) (fun e=>h.q i sl g hi e.symm hm)).trans hq
section
variable {σ : Type} {st : kF σ}
theorem sW (sJ:∀x s x' s',st x s=.ok (x',s')→Gt s s'∧(s.en.kind=5→0<s.ts.length)):∀(f g:Nat) (x:σ) (s:ax),s.en.kind=5→s.ts.length<f→s.ts.length<g→jv st f x s=jv st g x s
 |0,_,_,_,_,h,_=>absurd h (by omega)
 |_+1,0,_,_,_,_,h=>absurd h (by omega)
 |f+1,g+1,x,s,he,hf,hg=>by
  unfold jv
  by_cases hq:aH s.here 4 ⟨#[125]⟩=true
  ·rw[if_pos hq,if_pos hq]
  ·rw[if_neg hq,if_neg hq]
   cases hs:st x s with
   |error y=>rfl
   |ok p =>
    obtain ⟨x',s'⟩:=p
    obtain ⟨h1,h2⟩:=sJ x s x' s' hs
    have h3:=dS h1 (h2 he)
    obtain ⟨_,_,_,e⟩:=h1
    exact sW sJ f g x' s' (by rw[e];exact he) (by omega) (by omega)
def od (st:kF σ) (x:σ) (s:ax):Except (Int×Int) (σ×ax):=jv st 20000 x s
theorem yE {x:σ}{s:ax} (hq:aH s.here 4 ⟨#[125]⟩=true):od st x s=.ok (x,s):=by
 show (if aH s.here 4 ⟨#[125]⟩=true then _ else _)=_
 rw[if_pos hq]
theorem sC (sJ:∀x s x' s',st x s=.ok (x',s')→Gt s s'∧(s.en.kind=5→0<s.ts.length)) {x:σ}{s:ax} (hg:Gd s) (hq:¬aH s.here 4 ⟨#[125]⟩=true):od st x s=bQ (st x s) (fun x' s'=>od st x' s'):=by
 show (if aH s.here 4 ⟨#[125]⟩=true then _ else _)=_
 rw[if_neg hq]
 cases hs:st x s with
 |error y=>rfl
 |ok p =>
  obtain ⟨x',s'⟩:=p
  obtain ⟨h1,h2⟩:=sJ x s x' s' hs
  have h3:=dS h1 (h2 hg.en)
  have h4:=hg.len
  obtain ⟨_,_,_,e⟩:=h1
  rw[aK]
  exact sW sJ 19999 20000 x' s' (by rw[e];exact hg.en) (by omega) (by omega)
theorem GW (sJ:∀x s x' s',st x s=.ok (x',s')→Gt s s'∧(s.en.kind=5→0<s.ts.length)) {x:σ}{s:ax} (hg:Gd s):ji st x s=bQ (au ⟨#[123]⟩ s) (fun _ s1=>od st x s1):=by
 unfold ji od
 rw[gR hg.bg]
 by_cases hq:aH s.here 4 ⟨#[123]⟩=true
 ·rw[if_pos hq,aK]
  have h4:=hg.nx.len
  exact sW sJ _ _ x s.nx hg.en (by omega) (by omega)
 ·rw[if_neg hq];rfl
end
theorem gE {k c:ByteArray} (h:(k==c)=true):k=c:=by
 obtain ⟨a⟩:=k
 obtain ⟨d⟩:=c
 exact congrArg ByteArray.mk (by simpa using (show (a==d)=true from h))
theorem bn {t:Tk}{k:Int}{x:ByteArray}:aH t k x=true↔t.kind=k∧t.text=x:=by
 unfold aH
 rw[Bool.and_eq_true,Lib.bytes_beq_iff]
 constructor
 ·rintro ⟨h1,h2⟩;exact ⟨by simpa using h1,h2⟩
 ·rintro ⟨h1,h2⟩;exact ⟨by simpa using h1,h2⟩
theorem Du {α:Type}{one:ax→Except (Int×Int) (α×ax)}:∀(n:Nat) (a b:List α) (s:ax),eK one n (a++b) s=bQ (eK one n b s) (fun l s'=>.ok (a++l,s'))
 |0,_,_,_=>rfl
 |n+1,a,b,s=>by
  unfold eK
  cases hp:bX 4 ⟨#[44]⟩ s with
  |error y=>rfl
  |ok p =>
   obtain ⟨q,s1⟩:=p
   cases q with
   |false=>rfl
   |true =>
    dsimp only
    cases ho:one s1 with
    |error y=>rfl
    |ok r =>
     obtain ⟨x,s2⟩:=r
     dsimp only
     rw[List.append_assoc]
     exact Du n a (b++[x]) s2
theorem DP {α:Type}{one:ax→Except (Int×Int) (α×ax)} (a:List α) (s:ax):gB one a s=bQ (gB one [] s) (fun l s'=>.ok (a++l,s')):=by
 unfold gB
 cases ho:one s with
 |error y=>rfl
 |ok r =>
  obtain ⟨x,s1⟩:=r
  dsimp only
  rw[Du,List.nil_append]
  cases hr:eK one (s1.ts.length+1) [x] s1 with
  |error y=>rfl
  |ok p =>
   obtain ⟨l,s2⟩:=p
   rw[aK]
   dsimp only
   cases au ⟨#[59]⟩ s2 with
   |error y=>rfl
   |ok q=>rfl
theorem Ir (bl bh:Int) (bm:Bool) (rs:List (Int×Int)) (gs:List ByteArray) (s:ax):j5 bl bh bm rs gs s=bQ (j5 bl bh bm [] [] s) (fun l s'=>.ok ((rs++l.1,gs++l.2),s')):=by
 unfold j5
 cases bC s with
 |error y=>rfl
 |ok p =>
  obtain ⟨u,s1⟩:=p
  dsimp only
  by_cases hk:s1.here.kind=3
  ·rw[if_pos hk,if_pos hk,DP gs]
   cases gB fe [] s1 with
   |error y=>rfl
   |ok q=>rw[aK];dsimp only;rw[aK,List.append_nil]
  ·rw[if_neg hk,if_neg hk,DP rs]
   cases gB (kQ bl bh bm) [] s1 with
   |error y=>rfl
   |ok q=>rw[aK];dsimp only;rw[aK,List.append_nil]
def nt:ByteArray:=⟨#[111,112,116,105,111,110]⟩
noncomputable def TH (x:En) (s:ax):Except (Int×Int) (En×ax):=if aH s.here 4 ⟨#[59]⟩=true then .ok (x,s.nx) else if aH s.here 1 kp=true then bQ (gI true s) (fun l s'=>.ok ({ x with res:=x.res++l.1,gone:=x.gone++l.2 },s')) else bQ (de s) (fun v s'=>.ok ({ x with bT:=x.bT++[v] },s'))
theorem QG {x:En}{s:ax} (hg:Gd s):bV I7 Gy x s=bQ (dp [nt] s) (fun _ s1=>TH x s1):=by
 rw[FG]
 have ho:([nt]:List ByteArray).any (fun x=>aH s.here 1 x)=aH s.here 1 nt:=by simp
 rw[ho]
 unfold bV
 rw[cV hg.bg]
 by_cases h1:aH s.here 4 ⟨#[59]⟩=true
 ·have hk:=(bn.1 h1).1
  have h2:¬aH s.here 1 nt=true:=fun q=>by rw[bn,hk] at q;exact absurd q.1 (by decide)
  rw[if_pos h1,if_neg h2,aK]
  unfold TH
  rw[if_pos h1]
 ·rw[if_neg h1]
  dsimp only
  unfold I7
  by_cases h2:s.here.kind=1
  ·by_cases h3:s.here.text=nt
   ·rw[if_pos (bn.2 ⟨h2,h3⟩)]
    rw[if_neg (by rw[h3];decide +kernel),if_pos (by rw[h3];decide +kernel)]
    dsimp only
    rw[if_pos h2]
    rfl
   ·rw[if_neg (fun q=>h3 (bn.1 q).2),aK]
    unfold TH
    rw[if_neg h1]
    by_cases h4:s.here.text=kp
    ·rw[if_pos (bn.2 ⟨h2,h4⟩),if_pos (by rw[h4];decide +kernel)]
     dsimp only
     rw[if_pos h2]
     unfold enR
     rw[Ir,show j5 (-2147483648) 2147483647 true [] [] s=gI true s from rfl]
     cases gI true s with
     |error y=>rfl
     |ok p=>rfl
    ·rw[if_neg (fun q=>h4 (bn.1 q).2)]
     have e1:¬(s.here.text==⟨#[114,101,115,101,114,118,101,100]⟩)=true:=fun q=>h4 (gE q)
     have e2:¬(s.here.text==⟨#[111,112,116,105,111,110]⟩)=true:=fun q=>h3 (gE q)
     rw[if_neg e1,if_neg e2]
     unfold Gy
     cases de s with
     |error y=>rfl
     |ok p=>rfl
  ·have h3:∀y,¬aH s.here 1 y=true:=fun y q=>h2 (bn.1 q).1
   rw[if_neg (h3 _),aK]
   unfold TH
   rw[if_neg h1,if_neg (h3 _)]
   have fin:Gy x s=bQ (de s) (fun v s'=>.ok ({ x with bT:=x.bT++[v] },s')):=by
    unfold Gy
    cases de s with
    |error y=>rfl
    |ok p=>rfl
   generalize (if (s.here.text==⟨#[114,101,115,101,114,118,101,100]⟩)=true then some enR else if (s.here.text==⟨#[111,112,116,105,111,110]⟩)=true then some dw else none:Option (kF En))=o
   cases o with
   |none=>exact fin
   |some f =>
    dsimp only
    rw[if_neg h2]
    exact fin
end Go.Proofs.YtjophoclfccmcaaGreatDoor
namespace Go.Proofs.YtjophoclfccmcaaGreatDoor
open Go.RowKit
def lh:ByteArray:=⟨#[101,110,117,109]⟩
theorem TG (x:En) (s:ax) (x':En) (s':ax) (h:bV I7 Gy x s=.ok (x',s')):Gt s s'∧(s.en.kind=5→0<s.ts.length):=gZ Cg Ch h
noncomputable def OV (x:En) (s:ax):Except (Int×Int) (En×ax):=if x.bT.length=0 then .error (bS s) else bQ (bC s) (fun _ s'=>.ok (x,s'))
noncomputable def gV (x:En) (s:ax):Except (Int×Int) (En×ax):=bQ (od (bV I7 Gy) x s) OV
noncomputable def lJ (x:En) (s:ax):Except (Int×Int) (En×ax):=bQ (TH x s) (fun x' s'=>gV x' s')
theorem OP {R:PX}{k pt:Int}{tt nm:ByteArray} (hg:lp R) (hp:EN R ⟨k,pt,tt⟩) (hk:∀s,R=.ok s→aH s.here 1 lh=true)
  (cO:lp (aT (al (aT (al (aT (al R (aN pt))) (cn lh))) aQ)))
  (hv:∀a s,al (aT (al (aT (al R (aN pt))) (cn lh))) aQ=.ok (a,s)→Value.string nm=.string a) :
  al R dd=al (aT (al (aT (al (aT (al (aT (al R (aN pt))) (cn lh))) aQ)) (au ⟨#[123]⟩))) (gV ⟨nm,[],[],[]⟩):=by
 match R,hg,hp,hk,cO,hv with
 |.error y,_,_,_,_,_=>rfl
 |.ok s,hg,hp,hk,cO,hv =>
  have ht:pt=s.here.spot:=hp.2.1
  subst ht
  have hb:=nk (hk s rfl)
  simp only[fh,jE,seq_assoc] at cO hv ⊢
  simp only[al] at cO hv ⊢
  unfold dd
  rw[gQ hg,←hb]
  cases h1:aN s.here.spot s with
  |error y=>rfl
  |ok p1 =>
   rw[h1] at cO hv
   simp only[aK] at cO hv ⊢
   cases h2:cn lh p1.2 with
   |error y=>rfl
   |ok p2 =>
    rw[h2] at cO hv
    simp only[aK] at cO hv ⊢
    cases h3:aQ p2.2 with
    |error y=>rfl
    |ok p3 =>
     rw[h3] at cO
     have e3:nm=p3.1:=by simpa using hv p3.1 p3.2 h3
     have rU:Gd p3.2:=cO
     obtain ⟨a3,s3⟩:=p3
     dsimp only at e3 rU ⊢
     rw[aK,GW TG rU]
     dsimp only
     cases h4:au ⟨#[123]⟩ s3 with
     |error y=>rfl
     |ok p4 =>
      rw[aK,aK,e3]
      unfold gV OV
      cases od (bV I7 Gy) ⟨a3,[],[],[]⟩ p4.2 with
      |error y=>rfl
      |ok p5 =>
       rw[aK]
       dsimp only
       by_cases hl:p5.1.bT.length=0
       ·rw[if_pos hl,if_pos hl]
       ·rw[if_neg hl,if_neg hl]
        cases bC p5.2 with
        |error y=>rfl
        |ok p6=>rfl
theorem OR {x:En}{s:ax} (hg:Gd s) (hq:¬aH s.here 4 ⟨#[125]⟩=true):gV x s=al (aT (al (.ok s) (dp [nt]))) (lJ x):=by
 unfold gV lJ
 rw[sC TG hg hq,QG hg,seq_assoc,seq_assoc,fh]
 rfl
theorem Nd {x:En}{s:ax} (h:aH s.here 4 ⟨#[59]⟩=true):lJ x s=gV x s.nx:=by
 unfold lJ TH
 rw[if_pos h]
 rfl
theorem Ra {x:En}{s:ax}{l1:List (Int×Int)}{l2:List ByteArray} (h:¬aH s.here 4 ⟨#[59]⟩=true) (h2:aH s.here 1 kp=true) (hv:∀a s',al (.ok s) (gI true)=.ok (a,s')→a=(l1,l2)):lJ x s=al (aT (al (.ok s) (gI true))) (gV { x with res:=x.res++l1,gone:=x.gone++l2 }):=by
 unfold lJ TH
 rw[if_neg h,if_pos h2]
 rw[show al (.ok s) (gI true)=gI true s from rfl] at hv ⊢
 cases hr:gI true s with
 |error y=>rfl
 |ok p =>
  obtain ⟨a,s'⟩:=p
  obtain rfl:=hv a s' hr
  rfl
theorem Q' {x:En}{R:PX}{v:ByteArray×Int} (h:gd R 4 ⟨#[59]⟩=false) (h2:gd R 1 kp=false) (hv:∀a s',al R de=.ok (a,s')→a=v):al R (lJ x)=al (aT (al R de)) (gV { x with bT:=x.bT++[v] }):=by
 match R,h,h2,hv with
 |.error y,_,_,_=>rfl
 |.ok s,h,h2,hv =>
  have h':¬aH s.here 4 ⟨#[59]⟩=true:=by rw[show aH s.here 4 ⟨#[59]⟩=false from h];decide
  have Xx:¬aH s.here 1 kp=true:=by rw[show aH s.here 1 kp=false from h2];decide
  show lJ x s=al (aT (de s)) _
  unfold lJ TH
  rw[if_neg h',if_neg Xx]
  cases hr:de s with
  |error y=>rfl
  |ok p =>
   obtain ⟨a,s'⟩:=p
   obtain rfl:=hv a s' hr
   rfl
theorem X' {R:PX}{kt pt:Int}{tt x1:ByteArray}{n:Int}{t:Tk} (hg:lp R) (hp:EN R ⟨kt,pt,tt⟩)
  (cO:lp (aT (al (aT (al (aT (al R aQ)) (aN pt))) (au ⟨#[61]⟩))))
  (tF:∀a s,al R aQ=.ok (a,s)→Value.string x1=.string a)
  (qE:∀a s,al (aT (al (aT (al (aT (al R aQ)) (aN pt))) (au ⟨#[61]⟩))) (jb true)=.ok (a,s)→a=(n,t)) :
  aT (al (aT (al (aT (al (aT (al (aT (al R aQ)) (aN pt))) (au ⟨#[61]⟩))) (jb true))) rD)=aT (al R de)∧∀a s,al R de=.ok (a,s)→a=(x1,n):=by
 match R,hg,hp,cO,tF,qE with
 |.error y,_,_,_,_,_=>exact ⟨rfl,fun _ _ e=>(by cases e)⟩
 |.ok s,hg,hp,cO,tF,qE =>
  have ht:pt=s.here.spot:=hp.2.1
  subst ht
  simp only[fh,jE,seq_assoc] at cO qE ⊢
  simp only[al] at cO tF qE ⊢
  unfold de eh
  rw[Dz hg]
  cases h1:aQ s with
  |error y=>exact ⟨rfl,fun _ _ e=>(by cases e)⟩
  |ok p1 =>
   have e1:x1=p1.1:=by simpa using tF p1.1 p1.2 h1
   rw[h1] at cO qE
   simp only[aK] at cO qE ⊢
   cases h2:aN s.here.spot p1.2 with
   |error y=>exact ⟨rfl,fun _ _ e=>(by cases e)⟩
   |ok p2 =>
    rw[h2] at cO qE
    simp only[aK] at cO qE ⊢
    cases h3:au ⟨#[61]⟩ p2.2 with
    |error y=>exact ⟨rfl,fun _ _ e=>(by cases e)⟩
    |ok p3 =>
     rw[h3] at cO qE
     simp only[aK] at cO qE ⊢
     have rU:Gd p3.2:=cO
     rw[AP rU.bg (-2147483648) 2147483647 true (.inl ⟨rfl,rfl⟩) rfl]
     cases h4:jb true p3.2 with
     |error y=>exact ⟨rfl,fun _ _ e=>(by cases e)⟩
     |ok p4 =>
      obtain ⟨a4,s4⟩:=p4
      have e4:=qE a4 s4 h4
      subst e4
      simp only[aK,Lv]
      unfold rD
      by_cases hq:aH s4.here 4 ⟨#[91]⟩=true
      ·rw[if_pos hq,if_pos hq]
       exact ⟨rfl,fun _ _ e=>(by cases e)⟩
      ·rw[if_neg hq,if_neg hq]
       cases h5:au ⟨#[59]⟩ s4 with
       |error y=>exact ⟨rfl,fun _ _ e=>(by cases e)⟩
       |ok p5=>exact ⟨rfl,fun _ _ e=>(by cases e;rw[e1])⟩
def TI (len:Nat) (R:PX):PX:=if len=0 then kN R else R
theorem V0 {x:En}{R:PX}{F0:Except (Int×Int) (En×ax)} (hg:lp R) (hq:∀s,R=.ok s→aH s.here 4 ⟨#[125]⟩=true) (hf:F0=al R (gV x)):aT (al (TI x.bT.length R) (au ⟨#[125]⟩))=aT F0∧∀a s,F0=.ok (a,s)→a=x:=by
 subst hf
 match R,hg,hq with
 |.error y,_,_=>exact ⟨by unfold TI;split<;>rfl,fun _ _ e=>(by cases e)⟩
 |.ok s,hg,hq =>
  have h1:=hq s rfl
  show _=aT (gV x s)∧∀a s',gV x s=.ok (a,s')→a=x
  unfold gV OV TI
  rw[yE h1,aK]
  dsimp only
  by_cases hl:x.bT.length=0
  ·rw[if_pos hl,if_pos hl]
   exact ⟨rfl,fun _ _ e=>(by cases e)⟩
  ·rw[if_neg hl,if_neg hl,fZ hg.bg]
   show aT (au ⟨#[125]⟩ s)=_∧_
   rw[gR hg.bg,if_pos h1]
   exact ⟨rfl,fun _ _ e=>(by cases e;rfl)⟩
def pO (c L:Nat) (R:PX):Prop:=L≤c∧∀s,R=.ok s→L+50000*s.ts.length≤900000000
theorem pO.next {L L':Nat}{s:ax}{R:PX} (h:pO 1000000000 L (.ok s)) (hl:L'≤L+50000) (hm:∀s',R=.ok s'→s'.ts.length<s.ts.length):pO 1000000000 L' R:=by
 have h1:=h.2 s rfl
 exact ⟨by omega,fun s' e=>by have:=hm s' e;omega⟩
end Go.Proofs.YtjophoclfccmcaaGreatDoor
namespace Go.Proofs.YtjophoclfccmcaaGreatDoor
open Go.RowKit
attribute [local go_sem ↓] Go.wp_at_zero Go.wp_at_succ
theorem iL {P:Program}{w:World}{ops:Array Oper}{rest:List Oper}{o:Oper}{a:Act}{Q:Exit→Act→World→Prop} (rU:o.guard=none) (s x:Operand) (t:TypeId)
  (ho:o.op=.call { callee:=.builtin .append,args:=#[s,x],argTypes:=#[t,t] })
  (base:Nat) (e:TypeId) (i:TypeInfo) (z:Value) (size bytes:Nat) (ht:P.underlying t=some (.slice e)) (hi:P.info? e=some i) (hz:i.zero=some z)
  (NT:i.size=size) (B4:i.bytes=bytes) (hzs:z.cells.size=size) (cl:0<size)
  (v:Value) (n:Nat) (xs:List Value) (hs:a.eval s=v) (oh:w.ownsRow base e size v n xs)
  (u:Value) (m aat:Nat) (ys:List Value) (hx:a.eval x=u) (hu:w.ownsRow aat e size u m ys) (h1:∀y ∈ ys,y.oneCell'=true)
  (ZW:n+m≤maxLen) (yQ:(n+m)*bytes≤140737488355328) (cK:base≤w.heap.size)
  (h:∀v' w',w'.ownsRow base e size v' (n+m) (xs++ys)→w.grownBy w' v.ownBlock→(v'.ownBlock=v.ownBlock∨v'.ownBlock=some w.heap.size)→wpList P ops Q rest (a.put o.dst v') w') :
  wpList P ops Q (o::rest) a w:=by
 have key:∃v' w',(Builtin.append_ #[t,t] o.type #[v,u]).run P w=.ok v' w'∧w'.ownsRow base e size v' (n+m) (xs++ys)∧w.grownBy w' v.ownBlock∧(v'.ownBlock=v.ownBlock∨v'.ownBlock=some w.heap.size):=by
  have hl:=hu.1
  rcases hu.2 with ⟨rfl,rfl⟩|⟨g,cap,cur,rfl,bo,hc,acE⟩
  ·have hy:ys=[]:=List.eq_nil_of_length_eq_zero (by rw[hl];omega)
   subst hy
   refine ⟨v,w,run_append_owned_none (P:=P) (w:=w) base t o.type e i size ht hi v n xs oh,?_,⟨rfl,rfl,rfl,zD _,fun _ _ _=>rfl⟩,.inl rfl⟩
   rw[List.append_nil]
   exact oh
  ·obtain ⟨v',w',hr,h2,A1,_,h5⟩:=run_append_own_at (P:=P) w base t o.type e i z size bytes ht hi hz NT B4 hzs cl v n xs oh ⟨g,0,none⟩ m cap ys hl (hu.cells rfl) h1 ZW yQ cK
   exact ⟨v',w',hr,h2,A1,h5⟩
 obtain ⟨v',w',hr,k1,k2,k3⟩:=key
 refine wpList_plain rU fun K hK=>?_
 unfold Oper.wp execOp
 simp only[ho,resolve,invoke,builtin,Sem.run_bind,Sem.run_pure,Result.andThen_ok,List.map_toArray,List.map_cons,List.map_nil,hs,hx,hr]
 exact hK _ _ (h v' w' k1 k2 k3)
theorem U6:(Tryz.prog.info? 73).map (fun i=>(i.zero,i.size,i.bytes))=some (some (.agg #[.string ⟨#[]⟩,.int .i64 0]),2,24):=by kernel_rfl
def ES (x:En) (vv vr vg:Value):List Slot:=[⟨73,2,vv,x.bT.length,KY x.bT⟩,⟨98,2,vr,x.res.length,qC x.res⟩,⟨9,1,vg,x.gone.length,dV x.gone⟩]
structure WO (W:World) (lo b ri ti xi:Nat) (nm:ByteArray) (F0:Except (Int×Int) (En×ax)) (G:En→ax→Except (Int×Int) (En×ax)) (x:En) (R:PX) (w:World):Prop where
 g:W.grownBy w (some b)
 z:Zr lo w b R
 r:w.heap[ri]?=some (.cells #[.string ⟨#[]⟩,.slice none 0 0,.slice none 0 0,.slice none 0 0] 71 (0,0))
 t:∃(k p:Int) (tx:ByteArray),w.heap[ti]?=some (.cells #[.int .i64 k,.int .i64 p,.string tx] 38 (0,0))
 bx:∃(a1:Option Addr) (c1:Nat) (a2:Option Addr) (c2:Nat) (a3:Option Addr) (c3:Nat),w.heap[xi]?=some (.cells #[.string nm,.slice a1 x.bT.length c1,.slice a2 x.res.length c2,.slice a3 x.gone.length c3] 71 (0,0))∧Sl W.heap.size [xi,ti,ri] w (ES x (.slice a1 x.bT.length c1) (.slice a2 x.res.length c2) (.slice a3 x.gone.length c3))
 n:x.name=nm
 f:F0=al R (G x)
 l:pO 1000000000 (x.bT.length+x.res.length+x.gone.length) R
theorem WO.kept {W w w':World}{lo b ri ti xi:Nat}{nm:ByteArray}{F0:Except (Int×Int) (En×ax)}{G G':En→ax→Except (Int×Int) (En×ax)}{x:En}{R R':PX} (h:WO W lo b ri ti xi nm F0 G x R w) (hb:b<W.heap.size∧b<ri∧b<ti∧b<xi) (hg:w.grownBy w' (some b)) (hz:Zr lo w' b R') (hf:F0=al R' (G' x)) (hl:pO 1000000000 (x.bT.length+x.res.length+x.gone.length) R'):WO W lo b ri ti xi nm F0 G' x R' w':=by
 obtain ⟨k,p,tx,ht⟩:=h.t
 obtain ⟨a1,c1,a2,c2,a3,c3,hx,hs⟩:=h.bx
 exact ⟨h.g.trans hg,hz,aw hg h.r (by omega),⟨k,p,tx,aw hg ht (by omega)⟩,⟨a1,c1,a2,c2,a3,c3,aw hg hx (by omega),hs.kept hg (.inl hb.1)⟩,h.n,hf,hl⟩
theorem Cx {W w w1:World}{lo b l xi j n' i:Nat}{L:List Nat}{ss:List Slot}{sl:Slot}{v':Value}{sb:List Value}{R:PX}{cs:Array Value}{T:TypeId} (hS:Sl l L w ss) (hi:ss[i]?=some sl) (hl:W.heap.size≤l) (jh:lo≤W.heap.size) (hW:W.grownBy w (some b)) (hz:Zr lo w b R) (hx:w.heap[xi]?=some (.cells cs T (0,0))) (hm:xi ∈ L) (hxw:W.heap.size≤xi)
  (ho:w1.ownsRow l sl.t sl.sz v' n' sb) (hg:w.grownBy w1 sl.v.ownBlock) (fp:v'.ownBlock=sl.v.ownBlock∨v'.ownBlock=some w.heap.size) :
  w1.heap[xi]?=some (.cells cs T (0,0))∧Sl l L (w1.setCell ⟨xi,j,none⟩ v') (ss.set i ⟨sl.t,sl.sz,v',n',sb⟩)∧W.grownBy (w1.setCell ⟨xi,j,none⟩ v') (some b)∧Zr lo (w1.setCell ⟨xi,j,none⟩ v') b R∧(∀(g:Nat) (o:Obj),g ∈ L→g≠xi→w.heap[g]?=some o→(w1.setCell ⟨xi,j,none⟩ v').heap[g]?=some o)∧w1.grownBy (w1.setCell ⟨xi,j,none⟩ v') (some xi):=by
 have iZ:=hS.lz hi hm hx hg
 have g1:w1.grownBy (w1.setCell ⟨xi,j,none⟩ v') (some xi):=(aC (j:=j) iZ v').2
 exact ⟨iZ,(hS.app hi ho hg fp).kept g1 (.inr hm),cy (hS.gA hi hW hl hg) g1 hxw,(hS.zr hi (Nat.le_trans jh hl) hz hg).gA g1 (Nat.le_trans jh hxw),fun g o hgm eb hq=>aw g1 (hS.lz hi hgm hq hg) eb,g1⟩
end Go.Proofs.YtjophoclfccmcaaGreatDoor

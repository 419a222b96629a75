import Derived.Test.YtjophoclfccmcaaGreatDoorPfM
set_option maxHeartbeats 4000000
set_option maxRecDepth 100000
namespace Go.Proofs.YtjophoclfccmcaaGreatDoor
open Go.RowKit
section
variable {α : Type} {one : ax → Except (Int × Int) (α × ax)}
theorem sr (iS:∀s a s',one s=.ok (a,s')→jj s s'):∀(f g:Nat) (acc:List α) (s:ax),s.en.kind=5→s.ts.length<f→s.ts.length<g→eK one f acc s=eK one g acc s
 |0,_,_,_,_,h,_=>absurd h (by omega)
 |_+1,0,_,_,_,_,h=>absurd h (by omega)
 |f+1,g+1,acc,s,he,hf,hg=>by
  unfold eK
  by_cases hq:aH s.here 4 ⟨#[44]⟩=true
  ·have dN:=eT he hq (by decide)
   cases hp:bX 4 ⟨#[44]⟩ s with
   |error y=>rfl
   |ok p =>
    obtain ⟨q,s1⟩:=p
    have nG:=dU hp
    have ht:q=true→s1.ts.length<s.ts.length:=by
     intro _
     unfold bX at hp
     rw[if_pos hq] at hp
     cases hn:bC s with
     |error y=>rw[hn] at hp;cases hp
     |ok r =>
      rw[hn] at hp
      obtain ⟨u,s2⟩:=r
      simp only[Except.ok.injEq,Prod.mk.injEq] at hp
      rw[←hp.2,mZ hn,List.length_tail]
      omega
    cases q with
    |false=>rfl
    |true =>
     dsimp only
     cases ho:one s1 with
     |error y=>rfl
     |ok r =>
      obtain ⟨a,s2⟩:=r
      dsimp only
      have NV:=iS s1 a s2 ho
      have:=NV.len
      have:=ht rfl
      obtain ⟨_,_,_,e1⟩:=nG
      obtain ⟨_,_,_,e2⟩:=NV
      exact sr iS f g (acc++[a]) s2 (by rw[e2,e1];exact he) (by omega) (by omega)
  ·have hp:bX 4 ⟨#[44]⟩ s=.ok (false,s):=by unfold bX;rw[if_neg hq]
   rw[hp]
def tq (one:ax→Except (Int×Int) (α×ax)) (acc:List α) (s:ax):Except (Int×Int) (List α×ax):=bQ (eK one 20000 acc s) (fun l s2=>bQ (au ⟨#[59]⟩ s2) (fun _ s3=>.ok (l,s3)))
def pD (one:ax→Except (Int×Int) (α×ax)) (acc:List α) (s:ax):Except (Int×Int) (List α×ax):=bQ (one s) (fun a s1=>tq one (acc++[a]) s1)
theorem Ix (iS:∀s a s',one s=.ok (a,s')→jj s s') {acc:List α}{s:ax} (he:s.en.kind=5) (hl:s.ts.length≤16384):gB one acc s=pD one acc s:=by
 unfold gB pD tq
 cases ho:one s with
 |error y=>rfl
 |ok r =>
  obtain ⟨a,s1⟩:=r
  rw[aK]
  dsimp only
  have hs:=iS s a s1 ho
  have:=hs.len
  obtain ⟨_,_,_,e1⟩:=hs
  rw[sr iS (s1.ts.length+1) 20000 _ s1 (by rw[e1];exact he) (by omega) (by omega)]
  cases hr:eK one 20000 (acc++[a]) s1 with
  |error y=>rfl
  |ok r =>
   obtain ⟨l,s2⟩:=r
   rw[aK]
   dsimp only
   cases au ⟨#[59]⟩ s2 with
   |error y=>rfl
   |ok r=>rfl
theorem xV (iS:∀s a s',one s=.ok (a,s')→jj s s') {acc:List α}{s:ax} (hg:Gd s) (hq:aH s.here 4 ⟨#[44]⟩=true):tq one acc s=pD one acc s.nx:=by
 have dN:=eT hg.en hq (by decide)
 unfold tq pD
 rw[show eK one 20000 acc s=(match bX 4 ⟨#[44]⟩ s with|.error e=>.error e|.ok (false,s1)=>.ok (acc,s1)|.ok (true,s1)=>match one s1 with|.error e=>.error e|.ok (a,s2)=>eK one 19999 (acc++[a]) s2) from rfl,cV hg.bg,if_pos hq]
 dsimp only
 cases ho:one s.nx with
 |error y=>rfl
 |ok r =>
  obtain ⟨a,s2⟩:=r
  rw[aK]
  dsimp only
  have hs:=iS s.nx a s2 ho
  have:=hs.len
  have h2:=hg.nx.len
  obtain ⟨_,_,_,e1⟩:=hs
  rw[sr iS 19999 20000 _ s2 (by rw[e1];exact hg.en) (by omega) (by omega)]
  rfl
theorem Df {acc:List α}{s:ax} (hg:Gd s) (hq:¬aH s.here 4 ⟨#[44]⟩=true):tq one acc s=bQ (au ⟨#[59]⟩ s) (fun _ s3=>.ok (acc,s3)):=by
 unfold tq
 rw[show eK one 20000 acc s=(match bX 4 ⟨#[44]⟩ s with|.error e=>.error e|.ok (false,s1)=>.ok (acc,s1)|.ok (true,s1)=>match one s1 with|.error e=>.error e|.ok (a,s2)=>eK one 19999 (acc++[a]) s2) from rfl,cV hg.bg,if_neg hq]
 rfl
end
def kp:ByteArray:=⟨#[114,101,115,101,114,118,101,100]⟩
noncomputable def gI (en:Bool) (s:ax):Except (Int×Int) ((List (Int×Int)×List ByteArray)×ax):=j5 (E3 en) (Gc en) en [] [] s
noncomputable def qL (en st:Bool) (l1:List (Int×Int)) (l2:List ByteArray) (s:ax):Except (Int×Int) ((List (Int×Int)×List ByteArray)×ax):=if st=true then bQ (pD fe l2 s) (fun l s'=>.ok ((l1,l),s')) else bQ (pD (gH en) l1 s) (fun l s'=>.ok ((l,l2),s'))
noncomputable def tW (en st:Bool) (l1:List (Int×Int)) (l2:List ByteArray) (s:ax):Except (Int×Int) ((List (Int×Int)×List ByteArray)×ax):=if st=true then bQ (tq fe l2 s) (fun l s'=>.ok ((l1,l),s')) else bQ (tq (gH en) l1 s) (fun l s'=>.ok ((l,l2),s'))
theorem Ih (en:Bool):∀s a s',gH en s=.ok (a,s')→jj s s':=fun _ _ _ h=>(sO h).gu
theorem Dk:∀s a s',fe s=.ok (a,s')→jj s s':=fun _ _ _ h=>(oQ h).gu
theorem L2 {en:Bool}{R:PX}{l1:List (Int×Int)}{l2:List ByteArray}{x:ByteArray} (hv:∀a s,al R fe=.ok (a,s)→a=x):al R (qL en true l1 l2)=al (aT (al R fe)) (tW en true l1 (l2++[x])):=by
 match R,hv with
 |.error y,_=>rfl
 |.ok s,hv =>
  show qL en true l1 l2 s=al (aT (fe s)) (tW en true l1 (l2++[x]))
  unfold qL tW pD
  rw[if_pos rfl]
  cases hg:fe s with
  |error y=>rfl
  |ok p =>
   obtain ⟨a,s1⟩:=p
   obtain rfl:=hv a s1 hg
   rw[aK]
   rfl
theorem Qv {en:Bool}{R:PX}{l1:List (Int×Int)}{l2:List ByteArray}{x:Int×Int} (hv:∀a s,al R (gH en)=.ok (a,s)→a=x):al R (qL en false l1 l2)=al (aT (al R (gH en))) (tW en false (l1++[x]) l2):=by
 match R,hv with
 |.error y,_=>rfl
 |.ok s,hv =>
  show qL en false l1 l2 s=al (aT (gH en s)) (tW en false (l1++[x]) l2)
  unfold qL tW pD
  rw[if_neg Bool.false_ne_true]
  cases hg:gH en s with
  |error y=>rfl
  |ok p =>
   obtain ⟨a,s1⟩:=p
   obtain rfl:=hv a s1 hg
   rw[aK]
   rfl
theorem Kg {en st:Bool}{l1:List (Int×Int)}{l2:List ByteArray}{s:ax} (hg:Gd s) (hq:aH s.here 4 ⟨#[44]⟩=true):tW en st l1 l2 s=qL en st l1 l2 s.nx:=by
 unfold tW qL
 rw[xV Dk hg hq,xV (Ih en) hg hq]
theorem Rc {en st:Bool}{l1:List (Int×Int)}{l2:List ByteArray}{R:PX} (hg:lp R) (hq:gd R 4 ⟨#[44]⟩=false):al R (tW en st l1 l2)=bQ (al R (au ⟨#[59]⟩)) (fun _ s3=>.ok ((l1,l2),s3)):=by
 match R,hg,hq with
 |.error y,_,_=>rfl
 |.ok s,hg,hq =>
  have lF:¬aH s.here 4 ⟨#[44]⟩=true:=by rw[show aH s.here 4 ⟨#[44]⟩=false from hq];decide
  show tW en st l1 l2 s=bQ (au ⟨#[59]⟩ s) _
  unfold tW
  rw[Df hg lF,Df hg lF,seq_assoc,seq_assoc]
  cases st with
  |true=>rfl
  |false=>rfl
theorem VI {R:PX}{x:ByteArray}{t:Tk}{sp:Int} (hg:lp R) (hs:t.spot=sp) (hv:∀a s,al R cH=.ok (a,s)→a=(x,t)):aT (al (lU (bM x) sp (aT (al R cH))) (aN sp))=aT (al R fe)∧∀a s,al R fe=.ok (a,s)→a=x:=by
 match R,hg,hv with
 |.error y,_,_=>exact ⟨by rw[show aT (al (.error y:PX) cH)=.error y from rfl,xz];rfl,fun _ _ e=>(by cases e)⟩
 |.ok s,hg,hv =>
  show aT (al (lU (bM x) sp (aT (cH s))) (aN sp))=aT (fe s)∧∀a s',fe s=.ok (a,s')→a=x
  unfold fe
  rw[FW hg]
  cases ht:cH s with
  |error y=>exact ⟨by rw[show aT (.error y:Except (Int×Int) ((ByteArray×Tk)×ax))=.error y from rfl,xz];rfl,fun _ _ e=>(by cases e)⟩
  |ok p =>
   obtain ⟨a,s1⟩:=p
   obtain rfl:=hv a s1 ht
   rw[aK]
   dsimp only
   unfold lU
   by_cases hc:bM x=0
   ·rw[if_pos hc,if_pos hc,hs]
    show aT (aN sp s1)=aT (bQ (aN sp s1) (fun _ s2=>.ok (x,s2)))∧∀a s',bQ (aN sp s1) (fun _ s2=>.ok (x,s2))=.ok (a,s')→_
    cases aN sp s1 with
    |error y=>exact ⟨rfl,fun _ _ e=>(by cases e)⟩
    |ok p=>exact ⟨rfl,fun _ _ e=>(by cases e;rfl)⟩
   ·rw[if_neg hc,if_neg hc,hs]
    exact ⟨rfl,fun _ _ e=>(by cases e)⟩
theorem J0 {en:Bool}{R:PX}{k sp:Int}{tx:ByteArray} (hg:lp R) (hk:∀s,R=.ok s→aH s.here 1 kp=true) (hp:EN (aT (al R (cn kp))) ⟨k,sp,tx⟩):al R (gI en)=al (aT (al R (cn kp))) (qL en (k==3) [] []):=by
 match R,hg,hk,hp with
 |.error y,_,_,_=>rfl
 |.ok s,hg,hk,hp =>
  have hw:cn kp s=.ok ((),s.nx):=by unfold cn;rw[if_pos (hk s rfl)]
  rw[show al (.ok s) (cn kp)=cn kp s from rfl,hw] at hp ⊢
  show gI en s=qL en (k==3) [] [] s.nx
  have II:k=s.nx.here.kind:=hp.1
  unfold gI j5 qL
  rw[fZ hg.bg]
  dsimp only
  rw[Ix (s:=s.nx) Dk hg.en hg.nx.len,show kQ (E3 en) (Gc en) en=gH en from rfl,Ix (s:=s.nx) (Ih en) hg.en hg.nx.len,←II]
  by_cases h3:k=3
  ·rw[if_pos h3,if_pos (by rw[h3];rfl)]
   cases pD fe [] s.nx with
   |error y=>rfl
   |ok p=>rfl
  ·rw[if_neg h3,if_neg (by simpa using h3)]
   cases pD (gH en) [] s.nx with
   |error y=>rfl
   |ok p=>rfl
end Go.Proofs.YtjophoclfccmcaaGreatDoor
namespace Go.Proofs.YtjophoclfccmcaaGreatDoor
open Go.RowKit
attribute [local go_sem ↓] Go.wp_at_zero Go.wp_at_succ
theorem rk:(Tryz.prog.info? 9).map (fun i=>(i.zero,i.size,i.bytes))=some (some (.string ⟨#[]⟩),1,16):=by kernel_rfl
theorem F2:(Tryz.prog.info? 98).map (fun i=>(i.zero,i.size,i.bytes))=some (some (.agg #[.int .i64 0,.int .i64 0]),2,16):=by kernel_rfl
structure Fc (base:Nat) (w:World) (v1 v2:Value) (l1:List (Int×Int)) (l2:List ByteArray):Prop where
 r1:w.ownsRow base 98 2 v1 l1.length (qC l1)
 r2:w.ownsRow base 9 1 v2 l2.length (dV l2)
 ne:∀k,v1.ownBlock=some k→v2.ownBlock≠some k
theorem Fc.kept {base b:Nat}{w w':World}{v1 v2:Value}{l1:List (Int×Int)}{l2:List ByteArray} (h:Fc base w v1 v2 l1 l2) (hg:w.grownBy w' (some b)) (hb:b<base):Fc base w' v1 v2 l1 l2:=by
 refine ⟨h.r1.kept hg ?_,h.r2.kept hg ?_,h.ne⟩
 ·by_cases e:v1.ownBlock=none
  ·exact .inl e
  ·exact .inr (fun q=>by have:=(h.r1.lt b q).1;omega)
 ·by_cases e:v2.ownBlock=none
  ·exact .inl e
  ·exact .inr (fun q=>by have:=(h.r2.lt b q).1;omega)
theorem Fc.alloc {base:Nat}{w:World}{v1 v2:Value}{l1:List (Int×Int)}{l2:List ByteArray} (h:Fc base w v1 v2 l1 l2) (o:Obj):Fc base (w.alloc o) v1 v2 l1 l2:=⟨h.r1.alloc o,h.r2.alloc o,h.ne⟩
theorem BH {base:Nat}{w w':World}{v:Value}{T n sz:Nat}{xs:List Value}{W:World}{b:Nat} (h:w.ownsRow base T sz v n xs) (hW:W.heap.size≤base) (hg:W.grownBy w (some b)) (k:w.grownBy w' v.ownBlock):W.grownBy w' (some b):=⟨k.os.trans hg.os,k.tape.trans hg.tape,k.output.trans hg.output,Nat.le_trans hg.size k.size,fun q h1 h2=>(k.block q (Nat.lt_of_lt_of_le h1 hg.size) (fun e=>by have:=(h.lt q e.symm).1;omega)).trans (hg.block q h1 h2)⟩
theorem Fg {base:Nat}{w w':World}{v:Value}{T n sz:Nat}{xs:List Value}{lo b:Nat}{R:PX} (h:w.ownsRow base T sz v n xs) (hl:lo≤base) (hz:Zr lo w b R) (k:w.grownBy w' v.ownBlock):Zr lo w' b R:=hz.Ul ⟨k.os,k.tape,k.output,k.size,fun q hq=>k.block q (Nat.lt_of_lt_of_le hq hz.low.2) (fun e=>by have:=(h.lt q e.symm).1;omega)⟩
theorem bY {base:Nat}{w:World}{v:Value}{T n sz:Nat}{xs:List Value} (h:w.ownsRow base T sz v n xs):∃a c,v=.slice a n c:=by
 rcases h.2 with ⟨rfl,rfl⟩|⟨g,cap,cur,rfl,_⟩
 ·exact ⟨_,_,rfl⟩
 ·exact ⟨_,_,rfl⟩
theorem Fc.ace {base:Nat}{w w':World}{v1 v2 v':Value}{l1:List (Int×Int)}{l2:List ByteArray}{p:Int×Int} (h:Fc base w v1 v2 l1 l2) (ho:w'.ownsRow base 98 2 v' (l1.length+1) (qC l1++[.int .i64 p.1,.int .i64 p.2])) (k:w.grownBy w' v1.ownBlock) (fp:v'.ownBlock=v1.ownBlock∨v'.ownBlock=some w.heap.size):Fc base w' v' v2 (l1++[p]) l2:=by
 refine ⟨?_,h.r2.kept k ?_,fun q e e2=>?_⟩
 ·rw[zK,xd]
  exact ho
 ·by_cases e:v2.ownBlock=none
  ·exact .inl e
  ·refine .inr (fun q=>?_)
   obtain ⟨m,hm⟩:=Option.ne_none_iff_exists'.1 e
   exact h.ne m (by rw[←q];exact hm) hm
 ·rcases fp with fp|fp
  ·exact h.ne q (by rw[←fp];exact e) e2
  ·rw[fp] at e
   have:=(h.r2.lt q e2).2
   have:w.heap.size=q:=zC e
   omega
theorem Fc.acd {base:Nat}{w w':World}{v1 v2 v':Value}{l1:List (Int×Int)}{l2:List ByteArray}{x:ByteArray} (h:Fc base w v1 v2 l1 l2) (ho:w'.ownsRow base 9 1 v' (l2.length+1) (dV l2++[.string x])) (k:w.grownBy w' v2.ownBlock) (fp:v'.ownBlock=v2.ownBlock∨v'.ownBlock=some w.heap.size):Fc base w' v1 v' l1 (l2++[x]):=by
 refine ⟨h.r1.kept k ?_,?_,fun q e e2=>?_⟩
 ·by_cases e:v1.ownBlock=none
  ·exact .inl e
  ·refine .inr (fun q=>?_)
   obtain ⟨m,hm⟩:=Option.ne_none_iff_exists'.1 e
   exact h.ne m hm (by rw[←q];exact hm)
 ·rw[zK,mj]
  exact ho
 ·rcases fp with fp|fp
  ·exact h.ne q e (by rw[←fp];exact e2)
  ·rw[fp] at e2
   have:=(h.r1.lt q e).2
   have:w.heap.size=q:=zC e2
   omega
def RsQ (lo b:Nat) (W:World) (r:Except (Int×Int) ((List (Int×Int)×List ByteArray)×ax)) (e:Ending) (w:World):Prop:=W.grownBy w (some b)∧Zr lo w b (aT r)∧∃(v1 v2:Value) (l1:List (Int×Int)) (l2:List ByteArray),e=.returned (.tuple #[v1,v2])∧Fc W.heap.size w v1 v2 l1 l2∧(l1.length≤20000∧l2.length≤20000)∧∀a s,r=.ok (a,s)→a=(l1,l2)
def LB (c L:Nat) (R:PX):Prop:=L≤c∧∀s,R=.ok s→L+s.ts.length≤16390
theorem dS {s s1:ax} (h:Gt s s1) (hp:0<s.ts.length):s1.ts.length<s.ts.length:=by
 obtain ⟨k,e,_⟩:=h
 rw[e,List.length_drop]
 omega
theorem QM {en:Bool}{s s1:ax}{a:Int×Int} (hg:Gd s) (h:gH en s=.ok (a,s1)):0<s.ts.length:=by
 rw[xb] at h
 cases ha:jG en s with
 |error y=>rw[ha] at h;cases h
 |ok p =>
  rw[Iq hg] at ha
  by_cases hq:(en&&aH s.here 4 ⟨#[45]⟩)=true
  ·rw[Bool.and_eq_true] at hq
   exact eT hg.en hq.2 (by decide)
  ·rw[if_neg hq] at ha
   cases hb:cD en s with
   |error y=>rw[hb] at ha;cases ha
   |ok q =>
    obtain ⟨⟨n,t⟩,s2⟩:=q
    obtain ⟨e1,e2⟩:=BJ hb
    have e3:=e2 (by simpa using hq)
    exact bP hg.en (by rw[←e3,e1];decide)
theorem Oq {s s1:ax}{a:ByteArray} (hg:Gd s) (h:fe s=.ok (a,s1)):0<s.ts.length:=by
 have:=(jt (s:=s.begun) h).2
 exact bP hg.en (by rw[←ld s,this];decide)
theorem LB.item {α:Type}{one:ax→Except (Int×Int) (α×ax)}{L:Nat}{R:PX} (h:LB 16390 L R) (hg:lp R) (h1:∀s a s1,Gd s→one s=.ok (a,s1)→0<s.ts.length∧Gt s s1):LB 16391 (L+1) (aT (al R one))∧mR (aT (al R one))≤mR R:=by
 match R,h,hg with
 |.error y,h,_=>exact ⟨⟨by have:=h.1;omega,fun _ e=>(by cases e)⟩,zD _⟩
 |.ok s,h,hg =>
  rw[show al (.ok s) one=one s from rfl]
  cases ho:one s with
  |error y=>exact ⟨⟨by have:=h.1;omega,fun _ e=>(by cases e)⟩,by show 0≤_;omega⟩
  |ok p =>
   obtain ⟨a,s1⟩:=p
   obtain ⟨e1,e2⟩:=h1 s a s1 hg ho
   have e3:=dS e2 e1
   have e4:=h.2 s rfl
   refine ⟨⟨by have:=h.1;omega,fun s' e=>?_⟩,by show s1.ts.length+1≤s.ts.length+1;omega⟩
   cases e
   show L+1+s1.ts.length≤16390
   omega
theorem tf {W:World}{lo b:Nat}{R:PX} (h:Zr lo W b R) (hk:∀s,R=.ok s→aH s.here 1 kp=true) (en:Bool):Calls Tryz.prog 73 #[.pointer (some ⟨b,0,none⟩),.bool en] W (RsQ lo b W (al R (gI en))):=by
 obtain ⟨i0,hi,tZ,tY,jg⟩:=info_parts rk
 obtain ⟨j0,hj,Ti,Th,Tg⟩:=info_parts F2
 have cC:=h.low
 have lZ:Hid (lp R):=h.2
 have HK:=ab hk
 have HZ:=ab h
 have HG:Hid (W.grownBy W (some b)):=zI _ _
 clear h hk
 go_enter Tryz.func73,Tryz.ntmps73
 go_wp2_with fail
 refine (oL (aa HZ) kp).mono ?_
 rintro e w1 ⟨hg,hz,v1,rfl,F8,tF⟩
 replace HZ:=ab hz
 replace HG:=ab ((aa HG).trans hg)
 clear hg hz
 obtain rfl:=F8
 clear tF
 have HL0:Hid (LB 16390 0 (aT (al R (cn kp)))):=⟨by omega,fun s e=>by have:=(aa HZ).2;rw[e] at this;have:=Gd.len this;omega⟩
 go_wp2_with fail
 refine (gm (aa HZ)).mono ?_
 rintro e w2 ⟨⟨kt,pt,tt⟩,rfl,hb,hp⟩
 have HF:=ab (J0 (en:=en) (aa lZ) (aa HK) hp)
 replace HZ:=ab ((aa HZ).up hb)
 have hg:=aM hb (some b)
 replace HG:=ab ((aa HG).trans hg)
 clear hb hp hg HK lZ
 unfold Tk.val
 obtain ⟨st,sJ⟩:∃q,(kt==3)=q:=⟨_,rfl⟩
 rw[sJ] at HF
 obtain ⟨R1,TA⟩:∃R1,R1=aT (al R (cn kp)):=⟨_,rfl⟩
 rw[←TA] at HZ HL0 HF
 obtain ⟨F0,sM⟩:∃F0,F0=al R (gI en):=⟨_,rfl⟩
 rw[←sM] at HF
 have Fe:=ab sM
 clear TA sM
 have HO:Hid (Fc W.heap.size w2 (.slice none 0 0) (.slice none 0 0) [] []):=⟨World.ownsRow_nil _ _ _ _,World.ownsRow_nil _ _ _ _,fun k e=>(by cases e)⟩
 have hf:∀w,(Instr.field 38 (.agg #[.int .i64 kt,.int .i64 pt,.string tt]) 0).run Tryz.prog w=.ok (.int .i64 kt) w:=fun w=>(mG w ⟨kt,pt,tt⟩).1
 go_wp2
 go_loopg [6,7,9,10] (mR R1) (fun gk v6 v7 _ _ wr=>∃(l1:List (Int×Int)) (l2:List ByteArray) (a1:Option Addr) (n1 c1:Nat) (a2:Option Addr) (n2 c2:Nat) (Rk:PX),v6=.slice a1 n1 c1∧v7=.slice a2 n2 c2∧gk=mR Rk∧Hid (Fc W.heap.size wr (.slice a1 n1 c1) (.slice a2 n2 c2) l1 l2)∧Hid (W.grownBy wr (some b))∧Hid (Zr lo wr b Rk)∧Hid (F0=al Rk (qL en st l1 l2))∧Hid (LB 16390 (l1.length+l2.length) Rk))
 case atStart=>exact ⟨[],[],_,_,_,_,_,_,R1,rfl,rfl,rfl,HO,HG,HZ,HF,HL0⟩
 case round =>
  clear HO HG HZ HF HL0
  obtain ⟨l1,l2,a1,n1,c1,a2,n2,c2,Rk,rfl,rfl,dY,HO,HG,HZ,HF,Ls⟩:=hrel
  have zz:=ab dY
  clear dY sJ hf
  go_upto_if 17 with fail
  go_cut [6,7,9,10] from 17 to 66 (fun v6 v7 _ _ wx=>∃(l1:List (Int×Int)) (l2:List ByteArray) (a1:Option Addr) (n1 c1:Nat) (a2:Option Addr) (n2 c2:Nat) (Rk:PX),v6=.slice a1 n1 c1∧v7=.slice a2 n2 c2∧Hid (Fc W.heap.size wx (.slice a1 n1 c1) (.slice a2 n2 c2) l1 l2)∧Hid (W.grownBy wx (some b))∧Hid (Zr lo wx b Rk)∧Hid (F0=al Rk (tW en st l1 l2))∧Hid (LB 16391 (l1.length+l2.length) Rk)∧Hid (mR Rk≤gk))
  case first =>
   cases st with
   |false =>
    have Ud:=ab (aa HZ).2
    go_wp2_with fail
    refine (Uj (aa HZ) en).mono ?_
    rintro e w3 ⟨hg,hz,v3,rfl,nc,lu⟩
    replace HZ:=ab hz
    replace HG:=ab ((aa HG).trans hg)
    replace HO:=ab ((aa HO).kept hg (by omega))
    clear hg hz
    obtain ⟨⟨p1,p2⟩,rfl⟩:=nc
    have Tn:∀a s,al Rk (gH en)=.ok (a,s)→a=(p1,p2):=fun a s e=>by
     have:=lu a s e
     obtain ⟨x,y⟩:=a
     simp only[JZ,Value.agg.injEq,Array.mk.injEq,List.cons.injEq,Value.int.injEq] at this
     obtain ⟨⟨_,rfl⟩,⟨_,rfl⟩,_⟩:=this
     rfl
    have VC:=aa HF
    rw[Qv Tn] at VC
    obtain ⟨lb,ml⟩:=(aa Ls).item (one:=gH en) (R:=Rk) (aa Ud) (fun s a s1 hg ho=>⟨QM hg ho,sO ho⟩)
    have nz:=ab VC
    have WB:Hid (LB 16391 ((l1++[(p1,p2)]).length+l2.length) (aT (al Rk (gH en)))):=by show LB _ _ _;rw[zK];show LB 16391 (l1.length+1+l2.length) _;rw[show l1.length+1+l2.length=l1.length+l2.length+1 by omega];exact lb
    have HML:=ab ml
    clear Tn lu VC lb ml
    unfold JZ
    obtain ⟨_,_,P8⟩:=bY (aa HO).r1
    injection P8 with P8 o8 Zz
    subst o8
    clear P8 Zz
    have O1:Hid (l1.length+1≤maxLen):=by have:=(aa Ls).1;show _≤_;unfold maxLen;omega
    have O2:Hid ((l1.length+1)*16≤140737488355328):=by have:=(aa Ls).1;show _≤_;omega
    have cl:W.heap.size≤w3.heap.size:=(aa HG).size
    go_wp2_with (at_builtin;refine wpList_append_own_at _ rfl _ _ 47 rfl W.heap.size 98 j0 (.agg #[.int .i64 0,.int .i64 0]) 2 16 Tryz.underlying47 hj Ti Th Tg rfl (by decide) _ _ _ rfl ((aa HO).r1.alloc _) ⟨w3.heap.size,0,none⟩ 1 1 [.int .i64 p1,.int .i64 p2] rfl rfl (cN _ _ _) (by simp[Value.oneCell']) (aa O1) (aa O2) (by rw[zJ];omega) ?_;intro v4 w4 eX dE _ jP;have EW:=ab eX;have rX:=ab dE;have PO:=ab jP;clear eX dE jP)
    have o1:=((aa HO).alloc (.cells #[.int .i64 p1,.int .i64 p2] 98)).ace (p:=(p1,p2)) (aa EW) (aa rX) (aa PO)
    obtain ⟨a4,c4,rfl⟩:=bY o1.r1
    have HOO:=ab o1
    have pd:=(zE w3.heap.size w3).alloc (zD _) (.cells #[.int .i64 p1,.int .i64 p2] 98)
    have Ue:=ab (BH ((aa HO).r1.alloc (.cells #[.int .i64 p1,.int .i64 p2] 98)) (zD _) ((aa HG).trans (aM pd (some b))) (aa rX))
    have HZZ:=ab (Fg ((aa HO).r1.alloc (.cells #[.int .i64 p1,.int .i64 p2] 98)) cC.2 ((aa HZ).up pd) (aa rX))
    have HGE:Hid (mR (aT (al Rk (gH en)))≤gk):=by have:=aa HML;have:=aa zz;show _≤_;omega
    clear o1 pd EW rX PO HO HG HZ
    go_meet
    exact ⟨_,_,_,_,_,_,_,_,_,rfl,rfl,HOO,Ue,HZZ,nz,WB,HGE⟩
   |true =>
    have Ud:=ab (aa HZ).2
    go_wp2_with fail
    refine (Bn (aa HZ)).mono ?_
    rintro e w3 ⟨hg,hz,v3,rfl,nc,lu⟩
    replace HZ:=ab hz
    replace HG:=ab ((aa HG).trans hg)
    replace HO:=ab ((aa HO).kept hg (by omega))
    clear hg hz
    obtain ⟨x,⟨ku,pu,tu⟩,rfl⟩:=nc
    have HV:Hid (∀a s,al Rk cH=.ok (a,s)→a=(x,(⟨ku,pu,tu⟩:Tk))):=fun a s e=>Fs (lu a s e)
    clear lu
    unfold Tk.val
    have hxu:b<w3.heap.size:=by have:=(aa HG).size;omega
    have hwu:W.heap.size≤w3.heap.size:=by have:=(aa HG).size;omega
    have gG:=ab (aF (w3) (.cells #[.int .i64 ku,.int .i64 pu,.string tu] 38))
    replace HZ:=ab ((aa HZ).up ((zE _ _).alloc (zD _) (.cells #[.int .i64 ku,.int .i64 pu,.string tu] 38)))
    replace HG:=ab ((aa HG).trans (aM ((zE _ _).alloc (zD _) (.cells #[.int .i64 ku,.int .i64 pu,.string tu] 38)) (some b)))
    replace HO:=ab ((aa HO).alloc (.cells #[.int .i64 ku,.int .i64 pu,.string tu] 38))
    have ab4:=seen (aa gG)
    have abN:=frzn (aa gG)
    obtain ⟨RA,ZL⟩:∃RA,RA=(if 255<x.size then mI 2 pu (aT (al Rk cH)) else aT (al Rk cH)):=⟨_,rfl⟩
    have SU:=ab ZL
    clear ZL
    obtain ⟨q2,lF⟩:∃q,decide ((255:Int)<(x.size:Int))=q:=⟨_,rfl⟩
    have wT:=ab lF
    go_upto_if 25 with fail
    go_cut [] from 17 to 66 (fun wx=>Hid (World.grownBy (w3.alloc (.cells #[.int .i64 ku,.int .i64 pu,.string tu] 38)) wx (some b)∧Zr lo wx b RA))
    case first =>
     cases q2 with
     |true =>
      go_wp2_with fail
      refine (gX (aa HZ) 2 pu (by decide)).mono ?_
      rintro e w0 ⟨rfl,hg,hz⟩
      have HH:Hid (World.grownBy (w3.alloc (.cells #[.int .i64 ku,.int .i64 pu,.string tu] 38)) w0 (some b)∧Zr lo w0 b RA):=⟨hg,by
       have h1:=of_decide_eq_true (aa wT)
       rw[aa SU,if_pos (by omega)]
       exact hz⟩
      clear hg hz
      go_wp2
      go_meet
      exact HH
     |false =>
      have HH:Hid (World.grownBy (w3.alloc (.cells #[.int .i64 ku,.int .i64 pu,.string tu] 38)) (w3.alloc (.cells #[.int .i64 ku,.int .i64 pu,.string tu] 38)) (some b)∧Zr lo (w3.alloc (.cells #[.int .i64 ku,.int .i64 pu,.string tu] 38)) b RA):=⟨zI _ _,by
       have h1:=of_decide_eq_false (aa wT)
       rw[aa SU,if_neg (by omega)]
       exact aa HZ⟩
      go_wp2
      go_meet
      exact HH
    case rest =>
    obtain ⟨w4,fV⟩:∃x,x=wc:=⟨_,rfl⟩
    subst fV
    clear ab4 abN
    obtain ⟨hg,hz⟩:=aa hcut
    replace HZ:=ab hz
    replace gG:=ab (aw hg (aa gG) (by omega))
    replace HG:=ab ((aa HG).trans hg)
    replace HO:=ab ((aa HO).kept hg (by omega))
    clear hg hz hcut
    clear lF wT
    have ab3:=seen (aa gG)
    have abM:=frzn (aa gG)
    go_wp2_with fail
    refine (l8 w4 x).mono ?_
    rintro e w0 ⟨rfl,hw⟩
    subst hw
    obtain ⟨q,hq⟩:∃q,fz x=q:=⟨_,rfl⟩
    rw[hq]
    have HA:Hid (∀(r:PX),r=aT (al Rk cH)→(if q=true then RA else mI 50 pu RA)=lU (bM x) pu r):=by
     intro r hr
     rw[aa SU,←hr]
     unfold lU bM
     rw[hq]
     by_cases h1:255<x.size
     ·rw[if_pos h1,if_pos h1,if_neg (c:=(2:Int)=0) (by decide)]
      all_goals (cases q<;>cases r<;>rfl)
     ·rw[if_neg h1,if_neg h1]
      all_goals (cases q<;>rfl)
    clear hq
    go_upto_if 32 with fail
    go_cut [] from 17 to 66 (fun wx=>Hid (World.grownBy (w0) wx (some b)∧Zr lo wx b (lU (bM x) pu (aT (al Rk cH)))))
    case first =>
     cases q with
     |false =>
      go_wp2_with fail
      refine (gX (aa HZ) 50 pu (by decide)).mono ?_
      rintro e w9 ⟨rfl,hg,hz⟩
      have HH:Hid (World.grownBy (w0) w9 (some b)∧Zr lo w9 b (lU (bM x) pu (aT (al Rk cH)))):=⟨hg,by rw[←aa HA _ rfl];exact hz⟩
      clear hg hz
      go_wp2
      go_meet
      exact HH
     |true =>
      have HH:Hid (World.grownBy (w0) (w0) (some b)∧Zr lo (w0) b (lU (bM x) pu (aT (al Rk cH)))):=⟨zI _ _,by rw[←aa HA _ rfl];exact aa HZ⟩
      go_wp2
      go_meet
      exact HH
    case rest =>
    obtain ⟨w6,fV⟩:∃x,x=wc:=⟨_,rfl⟩
    subst fV
    clear ab3 abM
    obtain ⟨hg,hz⟩:=aa hcut
    replace HZ:=ab hz
    replace gG:=ab (aw hg (aa gG) (by omega))
    replace HG:=ab ((aa HG).trans hg)
    replace HO:=ab ((aa HO).kept hg (by omega))
    clear hg hz hcut
    clear HA SU
    have ab2:=seen (aa gG)
    have abL:=frzn (aa gG)
    go_wp2_with fail
    refine (eB (aa HZ) ⟨ku,pu,tu⟩).mono ?_
    rintro e w7 ⟨hg,hz,v7,rfl,Vh,NR⟩
    clear ab2 abL
    replace HZ:=ab hz
    replace gG:=ab (aw hg (aa gG) (by omega))
    replace HG:=ab ((aa HG).trans hg)
    replace HO:=ab ((aa HO).kept hg (by omega))
    clear hg hz
    obtain rfl:=Vh
    clear NR
    obtain ⟨g1,Tn⟩:=VI (sp:=pu) (aa Ud) rfl (aa HV)
    replace HZ:=aa HZ
    rw[g1] at HZ
    replace HZ:=ab HZ
    have VC:=aa HF
    rw[L2 Tn] at VC
    obtain ⟨lb,ml⟩:=(aa Ls).item (one:=fe) (R:=Rk) (aa Ud) (fun s a s1 hg ho=>⟨Oq hg ho,oQ ho⟩)
    have nz:=ab VC
    have WB:Hid (LB 16391 (l1.length+(l2++[x]).length) (aT (al Rk fe))):=by show LB _ _ _;rw[zK];show LB 16391 (l1.length+(l2.length+1)) _;rw[←Nat.add_assoc];exact lb
    have HML:=ab ml
    clear Tn VC lb ml g1 HV Ud
    obtain ⟨_,_,P8⟩:=bY (aa HO).r2
    injection P8 with P8 o8 Zz
    subst o8
    clear P8 Zz
    have O1:Hid (l2.length+1≤maxLen):=by have:=(aa Ls).1;show _≤_;unfold maxLen;omega
    have O2:Hid ((l2.length+1)*16≤140737488355328):=by have:=(aa Ls).1;show _≤_;omega
    have cl:W.heap.size≤w7.heap.size:=(aa HG).size
    go_wp2_with (at_builtin;refine wpList_append_own_at _ rfl _ _ 22 rfl W.heap.size 9 i0 (.string ⟨#[]⟩) 1 16 Tryz.underlying22 hi tZ tY jg rfl (by decide) _ _ _ rfl ((aa HO).r2.alloc _) ⟨w7.heap.size,0,none⟩ 1 1 [.string x] rfl rfl (cN _ _ _) (by simp[Value.oneCell']) (aa O1) (aa O2) (by rw[zJ];omega) ?_;intro v4 w4 eX dE _ jP;have EW:=ab eX;have rX:=ab dE;have PO:=ab jP;clear eX dE jP)
    have o1:=((aa HO).alloc (.cells #[.string x] 9)).acd (x:=x) (aa EW) (aa rX) (aa PO)
    obtain ⟨a4,c4,rfl⟩:=bY o1.r2
    have HOO:=ab o1
    have pd:=(zE w7.heap.size w7).alloc (zD _) (.cells #[.string x] 9)
    have Ue:=ab (BH ((aa HO).r2.alloc (.cells #[.string x] 9)) (zD _) ((aa HG).trans (aM pd (some b))) (aa rX))
    have HZZ:=ab (Fg ((aa HO).r2.alloc (.cells #[.string x] 9)) cC.2 ((aa HZ).up pd) (aa rX))
    have HGE:Hid (mR (aT (al Rk fe))≤gk):=by have:=aa HML;have:=aa zz;show _≤_;omega
    clear o1 pd EW rX PO HO HG HZ
    go_meet
    exact ⟨_,_,_,_,_,_,_,_,_,rfl,rfl,HOO,Ue,HZZ,nz,WB,HGE⟩
  case rest =>
  obtain ⟨w20,fV⟩:∃x,x=wc:=⟨_,rfl⟩
  subst fV
  obtain ⟨m1,m2,b1,e1,d1,b2,e2,d2,Rm,rfl,rfl,HOm,HGm,HZm,HFm,HLm,HMm⟩:=hcut
  clear HO HG HZ HF Ls
  obtain ⟨er,Sz,her⟩:=(aa HZm).err
  go_upto_region 14 with fail
  go_cut [59] from 17 to 66 (fun v59 wx=>v59=.bool (!(gd Rm 4 ⟨#[44]⟩))∧Hid (Below w20.heap.size w20 wx))
  case first =>
   cases Rm with
   |error y =>
    have abv:(er != 0)=true:=by rw[bne,show (er==0)=false from her];rfl
    go_wp2
    go_meet
    exact ⟨rfl,zE _ _⟩
   |ok s =>
    have abv:(er != 0)=false:=by rw[bne,show (er==0)=true from her];rfl
    go_wp2_with fail
    refine (iw (aa HZm) 4 (by decide) ⟨#[44]⟩).mono ?_
    rintro e w0 ⟨rfl,hb⟩
    have HB:=ab hb
    clear hb
    go_wp2
    go_meet
    exact ⟨rfl,HB⟩
  case rest =>
  obtain ⟨zY,fV⟩:∃x,x=wc:=⟨_,rfl⟩
  subst fV
  obtain ⟨rfl,hb⟩:=hcut
  have hg:=aM (aa hb) (some b)
  have HZ:=ab ((aa HZm).up (aa hb))
  have HG:=ab ((aa HGm).trans hg)
  have HO:=ab ((aa HOm).kept hg (by omega))
  clear hg hb Sz her HZm HGm HOm
  obtain ⟨q,hq⟩:∃q,gd Rm 4 ⟨#[44]⟩=q:=⟨_,rfl⟩
  rw[hq]
  have jw:=ab hq
  clear hq
  cases q with
  |true =>
   obtain ⟨s,rfl,hs⟩:=fE (aa jw)
   have zV:Hid (Gd s):=(aa HZ).2
   have HF3:Hid (F0=al (kI (.ok s)) (qL en st m1 m2)):=by
    show F0=qL en st m1 m2 s.nx
    rw[←Kg (aa zV) hs]
    exact aa HFm
   have dN:=eT (aa zV).en hs (by decide)
   have IE:s.nx.ts.length=s.ts.length-1:=List.length_tail
   have HL3:Hid (LB 16390 (m1.length+m2.length) (kI (.ok s))):=by
    have h1:=(aa HLm).2 s rfl
    exact ⟨by omega,fun s' e=>by cases e;omega⟩
   have XV:Hid (mR (kI (.ok s))<gk):=by
    have h1:=aa HMm
    show s.nx.ts.length+1<gk
    have:s.ts.length+1≤gk:=h1
    omega
   obtain ⟨i,ci,fi,bF,AX⟩:=(aa HZ).next (fun s' e=>by cases e;exact dN)
   obtain ⟨g1,z1⟩:=bF (wrap64 (i+1)) (fun s e=>eN (AX s e))
   replace HZ:=ab z1
   replace HG:=ab ((aa HG).trans g1)
   replace HO:=ab ((aa HO).kept g1 (by omega))
   clear g1 z1 bF AX hs dN IE HFm HLm HMm
   go_wp2
   go_roundg (mR (kI (.ok s)))
   case measure=>exact aa XV
   case rel=>exact ⟨m1,m2,_,_,_,_,_,_,_,rfl,rfl,rfl,HO,HG,HZ,HF3,HL3⟩
  |false =>
   have hme:=Rc (en:=en) (st:=st) (l1:=m1) (l2:=m2) (aa HZ).2 (aa jw)
   have HFE:Hid (F0=bQ (al Rm (au ⟨#[59]⟩)) (fun _ s3=>.ok ((m1,m2),s3))):=by rw[←hme];exact aa HFm
   clear hme HFm
   go_wp2_with fail
   refine (eZ (aa HZ) ⟨#[59]⟩).mono ?_
   rintro e JG ⟨hg,hz,v,rfl,mA,-⟩
   obtain rfl:=mA
   have HA:Hid (aT (al Rm (au ⟨#[59]⟩))=aT F0∧∀a s,F0=.ok (a,s)→a=(m1,m2)):=by
    rw[aa HFE]
    cases al Rm (au ⟨#[59]⟩) with
    |error y=>exact ⟨rfl,fun _ _ e=>(by cases e)⟩
    |ok p=>exact ⟨rfl,fun _ _ e=>(by cases e;rfl)⟩
   have CO:Hid (Zr lo JG b (aT F0)):=by show Zr _ _ _ _;rw[←(aa HA).1];exact hz
   have SY:=ab ((aa HG).trans hg)
   have Wx:=ab ((aa HO).kept hg (by omega))
   clear hg hz HO HG HZ
   go_wp2
   go_ret2
   rw[←aa Fe]
   exact ⟨aa SY,aa CO,_,_,m1,m2,rfl,aa Wx,by have:=(aa HLm).1;omega,(aa HA).2⟩
end Go.Proofs.YtjophoclfccmcaaGreatDoor

import Derived.Test.YtjophoclfccmcaaGreatDoorPfM
set_option maxHeartbeats 4000000
set_option maxRecDepth 100000
namespace Go.Proofs.YtjophoclfccmcaaGreatDoor
open Go.RowKit
section
variable {α : Type} {one : ay → Except (Int × Int) (α × ay)}
theorem sB (iW:∀s a s',one s=.ok (a,s')→jk s s'):∀(f g:Nat) (acc:List α) (s:ay),s.en.kind=5→s.ts.length<f→s.ts.length<g→eC one f acc s=eC one g acc s
 |0,_,_,_,_,h,_=>absurd h (by omega)
 |_+1,0,_,_,_,_,h=>absurd h (by omega)
 |f+1,g+1,acc,s,he,hf,hg=>by
  unfold eC
  by_cases hq:aJ s.here 4 ⟨#[44]⟩=true
  ·have dL:=eR he hq (by decide)
   cases hp:bX 4 ⟨#[44]⟩ s with
   |error y=>rfl
   |ok p =>
    obtain ⟨q,s1⟩:=p
    have nJ:=dQ hp
    have ht:q=true→s1.ts.length<s.ts.length:=by
     intro _
     unfold bX at hp
     rw[if_pos hq] at hp
     cases hn:bz s with
     |error y=>rw[hn] at hp;cases hp
     |ok r =>
      rw[hn] at hp
      obtain ⟨u,s2⟩:=r
      simp only[Except.ok.injEq,Prod.mk.injEq] at hp
      rw[←hp.2,nf hn,List.length_tail]
      omega
    cases q with
    |false=>rfl
    |true =>
     dsimp only
     cases ho:one s1 with
     |error y=>rfl
     |ok r =>
      obtain ⟨a,s2⟩:=r
      dsimp only
      have Oa:=iW s1 a s2 ho
      have:=Oa.len
      have:=ht rfl
      obtain ⟨_,_,_,e1⟩:=nJ
      obtain ⟨_,_,_,e2⟩:=Oa
      exact sB iW f g (acc++[a]) s2 (by rw[e2,e1];exact he) (by omega) (by omega)
  ·have hp:bX 4 ⟨#[44]⟩ s=.ok (false,s):=by unfold bX;rw[if_neg hq]
   rw[hp]
def tD (one:ay→Except (Int×Int) (α×ay)) (acc:List α) (s:ay):Except (Int×Int) (List α×ay):=bO (eC one 20000 acc s) (fun l s2=>bO (au ⟨#[59]⟩ s2) (fun _ s3=>.ok (l,s3)))
def pI (one:ay→Except (Int×Int) (α×ay)) (acc:List α) (s:ay):Except (Int×Int) (List α×ay):=bO (one s) (fun a s1=>tD one (acc++[a]) s1)
theorem Iv (iW:∀s a s',one s=.ok (a,s')→jk s s') {acc:List α}{s:ay} (he:s.en.kind=5) (hl:s.ts.length≤16384):gw one acc s=pI one acc s:=by
 unfold gw pI tD
 cases ho:one s with
 |error y=>rfl
 |ok r =>
  obtain ⟨a,s1⟩:=r
  rw[aL]
  dsimp only
  have hs:=iW s a s1 ho
  have:=hs.len
  obtain ⟨_,_,_,e1⟩:=hs
  rw[sB iW (s1.ts.length+1) 20000 _ s1 (by rw[e1];exact he) (by omega) (by omega)]
  cases hr:eC one 20000 (acc++[a]) s1 with
  |error y=>rfl
  |ok r =>
   obtain ⟨l,s2⟩:=r
   rw[aL]
   dsimp only
   cases au ⟨#[59]⟩ s2 with
   |error y=>rfl
   |ok r=>rfl
theorem xT (iW:∀s a s',one s=.ok (a,s')→jk s s') {acc:List α}{s:ay} (hg:Gd s) (hq:aJ s.here 4 ⟨#[44]⟩=true):tD one acc s=pI one acc s.nx:=by
 have dL:=eR hg.en hq (by decide)
 unfold tD pI
 rw[show eC one 20000 acc s=(match bX 4 ⟨#[44]⟩ s with|.error e=>.error e|.ok (false,s1)=>.ok (acc,s1)|.ok (true,s1)=>match one s1 with|.error e=>.error e|.ok (a,s2)=>eC one 19999 (acc++[a]) s2) from rfl,cV hg.bg,if_pos hq]
 dsimp only
 cases ho:one s.nx with
 |error y=>rfl
 |ok r =>
  obtain ⟨a,s2⟩:=r
  rw[aL]
  dsimp only
  have hs:=iW s.nx a s2 ho
  have:=hs.len
  have h2:=hg.nx.len
  obtain ⟨_,_,_,e1⟩:=hs
  rw[sB iW 19999 20000 _ s2 (by rw[e1];exact hg.en) (by omega) (by omega)]
  rfl
theorem C9 {acc:List α}{s:ay} (hg:Gd s) (hq:¬aJ s.here 4 ⟨#[44]⟩=true):tD one acc s=bO (au ⟨#[59]⟩ s) (fun _ s3=>.ok (acc,s3)):=by
 unfold tD
 rw[show eC one 20000 acc s=(match bX 4 ⟨#[44]⟩ s with|.error e=>.error e|.ok (false,s1)=>.ok (acc,s1)|.ok (true,s1)=>match one s1 with|.error e=>.error e|.ok (a,s2)=>eC one 19999 (acc++[a]) s2) from rfl,cV hg.bg,if_neg hq]
 rfl
end
def kq:ByteArray:=⟨#[114,101,115,101,114,118,101,100]⟩
noncomputable def gF (en:Bool) (s:ay):Except (Int×Int) ((List (Int×Int)×List ByteArray)×ay):=jZ (ET en) (F8 en) en [] [] s
noncomputable def qQ (en st:Bool) (l1:List (Int×Int)) (l2:List ByteArray) (s:ay):Except (Int×Int) ((List (Int×Int)×List ByteArray)×ay):=if st=true then bO (pI eY l2 s) (fun l s'=>.ok ((l1,l),s')) else bO (pI (gE en) l1 s) (fun l s'=>.ok ((l,l2),s'))
noncomputable def uc (en st:Bool) (l1:List (Int×Int)) (l2:List ByteArray) (s:ay):Except (Int×Int) ((List (Int×Int)×List ByteArray)×ay):=if st=true then bO (tD eY l2 s) (fun l s'=>.ok ((l1,l),s')) else bO (tD (gE en) l1 s) (fun l s'=>.ok ((l,l2),s'))
theorem Ie (en:Bool):∀s a s',gE en s=.ok (a,s')→jk s s':=fun _ _ _ h=>(sR h).gi
theorem Dd:∀s a s',eY s=.ok (a,s')→jk s s':=fun _ _ _ h=>(oV h).gi
theorem L5 {en:Bool}{R:PX}{l1:List (Int×Int)}{l2:List ByteArray}{x:ByteArray} (hv:∀a s,al R eY=.ok (a,s)→a=x):al R (qQ en true l1 l2)=al (aT (al R eY)) (uc en true l1 (l2++[x])):=by
 match R,hv with
 |.error y,_=>rfl
 |.ok s,hv =>
  show qQ en true l1 l2 s=al (aT (eY s)) (uc en true l1 (l2++[x]))
  unfold qQ uc pI
  rw[if_pos rfl]
  cases hg:eY s with
  |error y=>rfl
  |ok p =>
   obtain ⟨a,s1⟩:=p
   obtain rfl:=hv a s1 hg
   rw[aL]
   rfl
theorem QL {en:Bool}{R:PX}{l1:List (Int×Int)}{l2:List ByteArray}{x:Int×Int} (hv:∀a s,al R (gE en)=.ok (a,s)→a=x):al R (qQ en false l1 l2)=al (aT (al R (gE en))) (uc en false (l1++[x]) l2):=by
 match R,hv with
 |.error y,_=>rfl
 |.ok s,hv =>
  show qQ en false l1 l2 s=al (aT (gE en s)) (uc en false (l1++[x]) l2)
  unfold qQ uc pI
  rw[if_neg Bool.false_ne_true]
  cases hg:gE en s with
  |error y=>rfl
  |ok p =>
   obtain ⟨a,s1⟩:=p
   obtain rfl:=hv a s1 hg
   rw[aL]
   rfl
theorem Kd {en st:Bool}{l1:List (Int×Int)}{l2:List ByteArray}{s:ay} (hg:Gd s) (hq:aJ s.here 4 ⟨#[44]⟩=true):uc en st l1 l2 s=qQ en st l1 l2 s.nx:=by
 unfold uc qQ
 rw[xT Dd hg hq,xT (Ie en) hg hq]
theorem RC {en st:Bool}{l1:List (Int×Int)}{l2:List ByteArray}{R:PX} (hg:lq R) (hq:fU R 4 ⟨#[44]⟩=false):al R (uc en st l1 l2)=bO (al R (au ⟨#[59]⟩)) (fun _ s3=>.ok ((l1,l2),s3)):=by
 match R,hg,hq with
 |.error y,_,_=>rfl
 |.ok s,hg,hq =>
  have lG:¬aJ s.here 4 ⟨#[44]⟩=true:=by rw[show aJ s.here 4 ⟨#[44]⟩=false from hq];decide
  show uc en st l1 l2 s=bO (au ⟨#[59]⟩ s) _
  unfold uc
  rw[C9 hg lG,C9 hg lG,seq_assoc,seq_assoc]
  cases st with
  |true=>rfl
  |false=>rfl
theorem V0 {R:PX}{x:ByteArray}{t:Tk}{sp:Int} (hg:lq R) (hs:t.spot=sp) (hv:∀a s,al R cG=.ok (a,s)→a=(x,t)):aT (al (lX (bI x) sp (aT (al R cG))) (aP sp))=aT (al R eY)∧∀a s,al R eY=.ok (a,s)→a=x:=by
 match R,hg,hv with
 |.error y,_,_=>exact ⟨by rw[show aT (al (.error y:PX) cG)=.error y from rfl,xx];rfl,fun _ _ e=>(by cases e)⟩
 |.ok s,hg,hv =>
  show aT (al (lX (bI x) sp (aT (cG s))) (aP sp))=aT (eY s)∧∀a s',eY s=.ok (a,s')→a=x
  unfold eY
  rw[FO hg]
  cases ht:cG s with
  |error y=>exact ⟨by rw[show aT (.error y:Except (Int×Int) ((ByteArray×Tk)×ay))=.error y from rfl,xx];rfl,fun _ _ e=>(by cases e)⟩
  |ok p =>
   obtain ⟨a,s1⟩:=p
   obtain rfl:=hv a s1 ht
   rw[aL]
   dsimp only
   unfold lX
   by_cases hc:bI x=0
   ·rw[if_pos hc,if_pos hc,hs]
    show aT (aP sp s1)=aT (bO (aP sp s1) (fun _ s2=>.ok (x,s2)))∧∀a s',bO (aP sp s1) (fun _ s2=>.ok (x,s2))=.ok (a,s')→_
    cases aP sp s1 with
    |error y=>exact ⟨rfl,fun _ _ e=>(by cases e)⟩
    |ok p=>exact ⟨rfl,fun _ _ e=>(by cases e;rfl)⟩
   ·rw[if_neg hc,if_neg hc,hs]
    exact ⟨rfl,fun _ _ e=>(by cases e)⟩
theorem JY {en:Bool}{R:PX}{k sp:Int}{tx:ByteArray} (hg:lq R) (hk:∀s,R=.ok s→aJ s.here 1 kq=true) (hp:EF (aT (al R (cl kq))) ⟨k,sp,tx⟩):al R (gF en)=al (aT (al R (cl kq))) (qQ en (k==3) [] []):=by
 match R,hg,hk,hp with
 |.error y,_,_,_=>rfl
 |.ok s,hg,hk,hp =>
  have hw:cl kq s=.ok ((),s.nx):=by unfold cl;rw[if_pos (hk s rfl)]
  rw[show al (.ok s) (cl kq)=cl kq s from rfl,hw] at hp ⊢
  show gF en s=qQ en (k==3) [] [] s.nx
  have IE:k=s.nx.here.kind:=hp.1
  unfold gF jZ qQ
  rw[fT hg.bg]
  dsimp only
  rw[Iv (s:=s.nx) Dd hg.en hg.nx.len,show kR (ET en) (F8 en) en=gE en from rfl,Iv (s:=s.nx) (Ie en) hg.en hg.nx.len,←IE]
  by_cases h3:k=3
  ·rw[if_pos h3,if_pos (by rw[h3];rfl)]
   cases pI eY [] s.nx with
   |error y=>rfl
   |ok p=>rfl
  ·rw[if_neg h3,if_neg (by simpa using h3)]
   cases pI (gE en) [] s.nx with
   |error y=>rfl
   |ok p=>rfl
end Go.Proofs.YtjophoclfccmcaaGreatDoor
namespace Go.Proofs.YtjophoclfccmcaaGreatDoor
open Go.RowKit
attribute [local go_sem ↓] Go.wp_at_zero Go.wp_at_succ
theorem ry:(Tryz.prog.info? 9).map (fun i=>(i.zero,i.size,i.bytes))=some (some (.string ⟨#[]⟩),1,16):=by kernel_rfl
theorem FV:(Tryz.prog.info? 98).map (fun i=>(i.zero,i.size,i.bytes))=some (some (.agg #[.int .i64 0,.int .i64 0]),2,16):=by kernel_rfl
structure E0 (base:Nat) (w:World) (v1 v2:Value) (l1:List (Int×Int)) (l2:List ByteArray):Prop where
 r1:w.ownsRow base 98 2 v1 l1.length (qG l1)
 r2:w.ownsRow base 9 1 v2 l2.length (dR l2)
 ne:∀k,v1.ownBlock=some k→v2.ownBlock≠some k
theorem E0.kept {base b:Nat}{w w':World}{v1 v2:Value}{l1:List (Int×Int)}{l2:List ByteArray} (h:E0 base w v1 v2 l1 l2) (hg:w.grownBy w' (some b)) (hb:b<base):E0 base w' v1 v2 l1 l2:=by
 refine ⟨h.r1.kept hg ?_,h.r2.kept hg ?_,h.ne⟩
 ·by_cases e:v1.ownBlock=none
  ·exact .inl e
  ·exact .inr (fun q=>by have:=(h.r1.lt b q).1;omega)
 ·by_cases e:v2.ownBlock=none
  ·exact .inl e
  ·exact .inr (fun q=>by have:=(h.r2.lt b q).1;omega)
theorem E0.alloc {base:Nat}{w:World}{v1 v2:Value}{l1:List (Int×Int)}{l2:List ByteArray} (h:E0 base w v1 v2 l1 l2) (o:Obj):E0 base (w.alloc o) v1 v2 l1 l2:=⟨h.r1.alloc o,h.r2.alloc o,h.ne⟩
theorem Bw {base:Nat}{w w':World}{v:Value}{T n sz:Nat}{xs:List Value}{W:World}{b:Nat} (h:w.ownsRow base T sz v n xs) (hW:W.heap.size≤base) (hg:W.grownBy w (some b)) (k:w.grownBy w' v.ownBlock):W.grownBy w' (some b):=⟨k.os.trans hg.os,k.tape.trans hg.tape,k.output.trans hg.output,Nat.le_trans hg.size k.size,fun q h1 h2=>(k.block q (Nat.lt_of_lt_of_le h1 hg.size) (fun e=>by have:=(h.lt q e.symm).1;omega)).trans (hg.block q h1 h2)⟩
theorem E' {base:Nat}{w w':World}{v:Value}{T n sz:Nat}{xs:List Value}{lo b:Nat}{R:PX} (h:w.ownsRow base T sz v n xs) (hl:lo≤base) (hz:Zr lo w b R) (k:w.grownBy w' v.ownBlock):Zr lo w' b R:=hz.Uv ⟨k.os,k.tape,k.output,k.size,fun q hq=>k.block q (Nat.lt_of_lt_of_le hq hz.low.2) (fun e=>by have:=(h.lt q e.symm).1;omega)⟩
theorem bY {base:Nat}{w:World}{v:Value}{T n sz:Nat}{xs:List Value} (h:w.ownsRow base T sz v n xs):∃a c,v=.slice a n c:=by
 rcases h.2 with ⟨rfl,rfl⟩|⟨g,cap,cur,rfl,_⟩
 ·exact ⟨_,_,rfl⟩
 ·exact ⟨_,_,rfl⟩
theorem E0.acz {base:Nat}{w w':World}{v1 v2 v':Value}{l1:List (Int×Int)}{l2:List ByteArray}{p:Int×Int} (h:E0 base w v1 v2 l1 l2) (ho:w'.ownsRow base 98 2 v' (l1.length+1) (qG l1++[.int .i64 p.1,.int .i64 p.2])) (k:w.grownBy w' v1.ownBlock) (fg:v'.ownBlock=v1.ownBlock∨v'.ownBlock=some w.heap.size):E0 base w' v' v2 (l1++[p]) l2:=by
 refine ⟨?_,h.r2.kept k ?_,fun q e e2=>?_⟩
 ·rw[zK,xk]
  exact ho
 ·by_cases e:v2.ownBlock=none
  ·exact .inl e
  ·refine .inr (fun q=>?_)
   obtain ⟨m,hm⟩:=Option.ne_none_iff_exists'.1 e
   exact h.ne m (by rw[←q];exact hm) hm
 ·rcases fg with fg|fg
  ·exact h.ne q (by rw[←fg];exact e) e2
  ·rw[fg] at e
   have:=(h.r2.lt q e2).2
   have:w.heap.size=q:=zC e
   omega
theorem E0.acy {base:Nat}{w w':World}{v1 v2 v':Value}{l1:List (Int×Int)}{l2:List ByteArray}{x:ByteArray} (h:E0 base w v1 v2 l1 l2) (ho:w'.ownsRow base 9 1 v' (l2.length+1) (dR l2++[.string x])) (k:w.grownBy w' v2.ownBlock) (fg:v'.ownBlock=v2.ownBlock∨v'.ownBlock=some w.heap.size):E0 base w' v1 v' l1 (l2++[x]):=by
 refine ⟨h.r1.kept k ?_,?_,fun q e e2=>?_⟩
 ·by_cases e:v1.ownBlock=none
  ·exact .inl e
  ·refine .inr (fun q=>?_)
   obtain ⟨m,hm⟩:=Option.ne_none_iff_exists'.1 e
   exact h.ne m hm (by rw[←q];exact hm)
 ·rw[zK,mu]
  exact ho
 ·rcases fg with fg|fg
  ·exact h.ne q e (by rw[←fg];exact e2)
  ·rw[fg] at e2
   have:=(h.r1.lt q e).2
   have:w.heap.size=q:=zC e2
   omega
def RsQ (lo b:Nat) (W:World) (r:Except (Int×Int) ((List (Int×Int)×List ByteArray)×ay)) (e:Ending) (w:World):Prop:=W.grownBy w (some b)∧Zr lo w b (aT r)∧∃(v1 v2:Value) (l1:List (Int×Int)) (l2:List ByteArray),e=.returned (.tuple #[v1,v2])∧E0 W.heap.size w v1 v2 l1 l2∧(l1.length≤20000∧l2.length≤20000)∧∀a s,r=.ok (a,s)→a=(l1,l2)
def LB (c L:Nat) (R:PX):Prop:=L≤c∧∀s,R=.ok s→L+s.ts.length≤16390
theorem dP {s s1:ay} (h:Gt s s1) (hp:0<s.ts.length):s1.ts.length<s.ts.length:=by
 obtain ⟨k,e,_⟩:=h
 rw[e,List.length_drop]
 omega
theorem Q4 {en:Bool}{s s1:ay}{a:Int×Int} (hg:Gd s) (h:gE en s=.ok (a,s1)):0<s.ts.length:=by
 rw[xj] at h
 cases ha:jF en s with
 |error y=>rw[ha] at h;cases h
 |ok p =>
  rw[Io hg] at ha
  by_cases hq:(en&&aJ s.here 4 ⟨#[45]⟩)=true
  ·rw[Bool.and_eq_true] at hq
   exact eR hg.en hq.2 (by decide)
  ·rw[if_neg hq] at ha
   cases hb:cE en s with
   |error y=>rw[hb] at ha;cases ha
   |ok q =>
    obtain ⟨⟨n,t⟩,s2⟩:=q
    obtain ⟨e1,e2⟩:=BB hb
    have e3:=e2 (by simpa using hq)
    exact bN hg.en (by rw[←e3,e1];decide)
theorem OC {s s1:ay}{a:ByteArray} (hg:Gd s) (h:eY s=.ok (a,s1)):0<s.ts.length:=by
 have:=(ju (s:=s.begun) h).2
 exact bN hg.en (by rw[←lf s,this];decide)
theorem LB.item {α:Type}{one:ay→Except (Int×Int) (α×ay)}{L:Nat}{R:PX} (h:LB 16390 L R) (hg:lq R) (h1:∀s a s1,Gd s→one s=.ok (a,s1)→0<s.ts.length∧Gt s s1):LB 16391 (L+1) (aT (al R one))∧mR (aT (al R one))≤mR R:=by
 match R,h,hg with
 |.error y,h,_=>exact ⟨⟨by have:=h.1;omega,fun _ e=>(by cases e)⟩,zD _⟩
 |.ok s,h,hg =>
  rw[show al (.ok s) one=one s from rfl]
  cases ho:one s with
  |error y=>exact ⟨⟨by have:=h.1;omega,fun _ e=>(by cases e)⟩,by show 0≤_;omega⟩
  |ok p =>
   obtain ⟨a,s1⟩:=p
   obtain ⟨e1,e2⟩:=h1 s a s1 hg ho
   have e3:=dP e2 e1
   have e4:=h.2 s rfl
   refine ⟨⟨by have:=h.1;omega,fun s' e=>?_⟩,by show s1.ts.length+1≤s.ts.length+1;omega⟩
   cases e
   show L+1+s1.ts.length≤16390
   omega
theorem tq {W:World}{lo b:Nat}{R:PX} (h:Zr lo W b R) (hk:∀s,R=.ok s→aJ s.here 1 kq=true) (en:Bool):Calls Tryz.prog 73 #[.pointer (some ⟨b,0,none⟩),.bool en] W (RsQ lo b W (al R (gF en))):=by
 obtain ⟨i0,hi,zy,zx,jK⟩:=info_parts ry
 obtain ⟨j0,hj,Tq,Tp,To⟩:=info_parts FV
 have cB:=h.low
 have l9:Hid (lq R):=h.2
 have HK:=ab hk
 have HZ:=ab h
 have HG:Hid (W.grownBy W (some b)):=zI _ _
 clear h hk
 go_enter Tryz.func73,Tryz.ntmps73
 go_wp2_with fail
 refine (oQ (aa HZ) kq).mono ?_
 rintro e w1 ⟨hg,hz,v1,rfl,F2,tL⟩
 replace HZ:=ab hz
 replace HG:=ab ((aa HG).trans hg)
 clear hg hz
 obtain rfl:=F2
 clear tL
 have HL0:Hid (LB 16390 0 (aT (al R (cl kq)))):=⟨by omega,fun s e=>by have:=(aa HZ).2;rw[e] at this;have:=Gd.len this;omega⟩
 go_wp2_with fail
 refine (gf (aa HZ)).mono ?_
 rintro e w2 ⟨⟨kt,pt,tt⟩,rfl,hb,hp⟩
 have HF:=ab (JY (en:=en) (aa l9) (aa HK) hp)
 replace HZ:=ab ((aa HZ).up hb)
 have hg:=aO hb (some b)
 replace HG:=ab ((aa HG).trans hg)
 clear hb hp hg HK l9
 unfold Tk.val
 obtain ⟨st,yG⟩:∃q,(kt==3)=q:=⟨_,rfl⟩
 rw[yG] at HF
 obtain ⟨R1,TM⟩:∃R1,R1=aT (al R (cl kq)):=⟨_,rfl⟩
 rw[←TM] at HZ HL0 HF
 obtain ⟨F0,sP⟩:∃F0,F0=al R (gF en):=⟨_,rfl⟩
 rw[←sP] at HF
 have E5:=ab sP
 clear TM sP
 have HO:Hid (E0 W.heap.size w2 (.slice none 0 0) (.slice none 0 0) [] []):=⟨World.ownsRow_nil _ _ _ _,World.ownsRow_nil _ _ _ _,fun k e=>(by cases e)⟩
 have hf:∀w,(Instr.field 38 (.agg #[.int .i64 kt,.int .i64 pt,.string tt]) 0).run Tryz.prog w=.ok (.int .i64 kt) w:=fun w=>(mJ w ⟨kt,pt,tt⟩).1
 go_wp2
 go_loopg [6,7,9,10] (mR R1) (fun gk v6 v7 _ _ wr=>∃(l1:List (Int×Int)) (l2:List ByteArray) (a1:Option Addr) (n1 c1:Nat) (a2:Option Addr) (n2 c2:Nat) (Rk:PX),v6=.slice a1 n1 c1∧v7=.slice a2 n2 c2∧gk=mR Rk∧Hid (E0 W.heap.size wr (.slice a1 n1 c1) (.slice a2 n2 c2) l1 l2)∧Hid (W.grownBy wr (some b))∧Hid (Zr lo wr b Rk)∧Hid (F0=al Rk (qQ en st l1 l2))∧Hid (LB 16390 (l1.length+l2.length) Rk))
 case atStart=>exact ⟨[],[],_,_,_,_,_,_,R1,rfl,rfl,rfl,HO,HG,HZ,HF,HL0⟩
 case round =>
  clear HO HG HZ HF HL0
  obtain ⟨l1,l2,a1,n1,c1,a2,n2,c2,Rk,rfl,rfl,eG,HO,HG,HZ,HF,Ls⟩:=hrel
  have zu:=ab eG
  clear eG yG hf
  go_upto_if 17 with fail
  go_cut [6,7,9,10] from 17 to 66 (fun v6 v7 _ _ wx=>∃(l1:List (Int×Int)) (l2:List ByteArray) (a1:Option Addr) (n1 c1:Nat) (a2:Option Addr) (n2 c2:Nat) (Rk:PX),v6=.slice a1 n1 c1∧v7=.slice a2 n2 c2∧Hid (E0 W.heap.size wx (.slice a1 n1 c1) (.slice a2 n2 c2) l1 l2)∧Hid (W.grownBy wx (some b))∧Hid (Zr lo wx b Rk)∧Hid (F0=al Rk (uc en st l1 l2))∧Hid (LB 16391 (l1.length+l2.length) Rk)∧Hid (mR Rk≤gk))
  case first =>
   cases st with
   |false =>
    have Uo:=ab (aa HZ).2
    go_wp2_with fail
    refine (Ut (aa HZ) en).mono ?_
    rintro e w3 ⟨hg,hz,v3,rfl,ni,lv⟩
    replace HZ:=ab hz
    replace HG:=ab ((aa HG).trans hg)
    replace HO:=ab ((aa HO).kept hg (by omega))
    clear hg hz
    obtain ⟨⟨p1,p2⟩,rfl⟩:=ni
    have Ts:∀a s,al Rk (gE en)=.ok (a,s)→a=(p1,p2):=fun a s e=>by
     have:=lv a s e
     obtain ⟨x,y⟩:=a
     simp only[JX,Value.agg.injEq,Array.mk.injEq,List.cons.injEq,Value.int.injEq] at this
     obtain ⟨⟨_,rfl⟩,⟨_,rfl⟩,_⟩:=this
     rfl
    have VU:=aa HF
    rw[QL Ts] at VU
    obtain ⟨lb,ml⟩:=(aa Ls).item (one:=gE en) (R:=Rk) (aa Uo) (fun s a s1 hg ho=>⟨Q4 hg ho,sR ho⟩)
    have nB:=ab VU
    have WY:Hid (LB 16391 ((l1++[(p1,p2)]).length+l2.length) (aT (al Rk (gE en)))):=by show LB _ _ _;rw[zK];show LB 16391 (l1.length+1+l2.length) _;rw[show l1.length+1+l2.length=l1.length+l2.length+1 by omega];exact lb
    have HML:=ab ml
    clear Ts lv VU lb ml
    unfold JX
    obtain ⟨_,_,Qr⟩:=bY (aa HO).r1
    injection Qr with Qr pq ZR
    subst pq
    clear Qr ZR
    have O1:Hid (l1.length+1≤maxLen):=by have:=(aa Ls).1;show _≤_;unfold maxLen;omega
    have O2:Hid ((l1.length+1)*16≤140737488355328):=by have:=(aa Ls).1;show _≤_;omega
    have ck:W.heap.size≤w3.heap.size:=(aa HG).size
    go_wp2_with (at_builtin;refine wpList_append_own_at _ rfl _ _ 47 rfl W.heap.size 98 j0 (.agg #[.int .i64 0,.int .i64 0]) 2 16 Tryz.underlying47 hj Tq Tp To rfl (by decide) _ _ _ rfl ((aa HO).r1.alloc _) ⟨w3.heap.size,0,none⟩ 1 1 [.int .i64 p1,.int .i64 p2] rfl rfl (df _ _ _) (by simp[Value.oneCell']) (aa O1) (aa O2) (by rw[zJ];omega) ?_;intro v4 w4 gz eM _ mG;have EM:=ab gz;have se:=ab eM;have Qc:=ab mG;clear gz eM mG)
    have o1:=((aa HO).alloc (.cells #[.int .i64 p1,.int .i64 p2] 98)).acz (p:=(p1,p2)) (aa EM) (aa se) (aa Qc)
    obtain ⟨a4,c4,rfl⟩:=bY o1.r1
    have HOO:=ab o1
    have qL:=(zE w3.heap.size w3).alloc (zD _) (.cells #[.int .i64 p1,.int .i64 p2] 98)
    have Uq:=ab (Bw ((aa HO).r1.alloc (.cells #[.int .i64 p1,.int .i64 p2] 98)) (zD _) ((aa HG).trans (aO qL (some b))) (aa se))
    have HZZ:=ab (E' ((aa HO).r1.alloc (.cells #[.int .i64 p1,.int .i64 p2] 98)) cB.2 ((aa HZ).up qL) (aa se))
    have HGE:Hid (mR (aT (al Rk (gE en)))≤gk):=by have:=aa HML;have:=aa zu;show _≤_;omega
    clear o1 qL EM se Qc HO HG HZ
    go_meet
    exact ⟨_,_,_,_,_,_,_,_,_,rfl,rfl,HOO,Uq,HZZ,nB,WY,HGE⟩
   |true =>
    have Uo:=ab (aa HZ).2
    go_wp2_with fail
    refine (Bd (aa HZ)).mono ?_
    rintro e w3 ⟨hg,hz,v3,rfl,ni,lv⟩
    replace HZ:=ab hz
    replace HG:=ab ((aa HG).trans hg)
    replace HO:=ab ((aa HO).kept hg (by omega))
    clear hg hz
    obtain ⟨x,⟨ku,pu,tu⟩,rfl⟩:=ni
    have HV:Hid (∀a s,al Rk cG=.ok (a,s)→a=(x,(⟨ku,pu,tu⟩:Tk))):=fun a s e=>Fh (lv a s e)
    clear lv
    unfold Tk.val
    have hxu:b<w3.heap.size:=by have:=(aa HG).size;omega
    have hwu:W.heap.size≤w3.heap.size:=by have:=(aa HG).size;omega
    have gD:=ab (aH (w3) (.cells #[.int .i64 ku,.int .i64 pu,.string tu] 38))
    replace HZ:=ab ((aa HZ).up ((zE _ _).alloc (zD _) (.cells #[.int .i64 ku,.int .i64 pu,.string tu] 38)))
    replace HG:=ab ((aa HG).trans (aO ((zE _ _).alloc (zD _) (.cells #[.int .i64 ku,.int .i64 pu,.string tu] 38)) (some b)))
    replace HO:=ab ((aa HO).alloc (.cells #[.int .i64 ku,.int .i64 pu,.string tu] 38))
    have aco:=seen (aa gD)
    have ab4:=aS (aa gD)
    obtain ⟨RA,TK⟩:∃RA,RA=(if 255<x.size then mL 2 pu (aT (al Rk cG)) else aT (al Rk cG)):=⟨_,rfl⟩
    have GY:=ab TK
    clear TK
    obtain ⟨q2,lG⟩:∃q,decide ((255:Int)<(x.size:Int))=q:=⟨_,rfl⟩
    have wX:=ab lG
    go_upto_if 25 with fail
    go_cut [] from 17 to 66 (fun wx=>Hid (World.grownBy (w3.alloc (.cells #[.int .i64 ku,.int .i64 pu,.string tu] 38)) wx (some b)∧Zr lo wx b RA))
    case first =>
     cases q2 with
     |true =>
      go_wp2_with fail
      refine (gV (aa HZ) 2 pu (by decide)).mono ?_
      rintro e w0 ⟨rfl,hg,hz⟩
      have HH:Hid (World.grownBy (w3.alloc (.cells #[.int .i64 ku,.int .i64 pu,.string tu] 38)) w0 (some b)∧Zr lo w0 b RA):=⟨hg,by
       have h1:=of_decide_eq_true (aa wX)
       rw[aa GY,if_pos (by omega)]
       exact hz⟩
      clear hg hz
      go_wp2
      go_meet
      exact HH
     |false =>
      have HH:Hid (World.grownBy (w3.alloc (.cells #[.int .i64 ku,.int .i64 pu,.string tu] 38)) (w3.alloc (.cells #[.int .i64 ku,.int .i64 pu,.string tu] 38)) (some b)∧Zr lo (w3.alloc (.cells #[.int .i64 ku,.int .i64 pu,.string tu] 38)) b RA):=⟨zI _ _,by
       have h1:=of_decide_eq_false (aa wX)
       rw[aa GY,if_neg (by omega)]
       exact aa HZ⟩
      go_wp2
      go_meet
      exact HH
    case rest =>
    obtain ⟨w4,fP⟩:∃x,x=wc:=⟨_,rfl⟩
    subst fP
    clear aco ab4
    obtain ⟨hg,hz⟩:=aa hcut
    replace HZ:=ab hz
    replace gD:=ab (ax hg (aa gD) (by omega))
    replace HG:=ab ((aa HG).trans hg)
    replace HO:=ab ((aa HO).kept hg (by omega))
    clear hg hz hcut
    clear lG wX
    have acn:=seen (aa gD)
    have ab3:=aS (aa gD)
    go_wp2_with fail
    refine (mg w4 x).mono ?_
    rintro e w0 ⟨rfl,hw⟩
    subst hw
    obtain ⟨q,hq⟩:∃q,fw x=q:=⟨_,rfl⟩
    rw[hq]
    have HA:Hid (∀(r:PX),r=aT (al Rk cG)→(if q=true then RA else mL 50 pu RA)=lX (bI x) pu r):=by
     intro r hr
     rw[aa GY,←hr]
     unfold lX bI
     rw[hq]
     by_cases h1:255<x.size
     ·rw[if_pos h1,if_pos h1,if_neg (c:=(2:Int)=0) (by decide)]
      all_goals (cases q<;>cases r<;>rfl)
     ·rw[if_neg h1,if_neg h1]
      all_goals (cases q<;>rfl)
    clear hq
    go_upto_if 32 with fail
    go_cut [] from 17 to 66 (fun wx=>Hid (World.grownBy (w0) wx (some b)∧Zr lo wx b (lX (bI x) pu (aT (al Rk cG)))))
    case first =>
     cases q with
     |false =>
      go_wp2_with fail
      refine (gV (aa HZ) 50 pu (by decide)).mono ?_
      rintro e w9 ⟨rfl,hg,hz⟩
      have HH:Hid (World.grownBy (w0) w9 (some b)∧Zr lo w9 b (lX (bI x) pu (aT (al Rk cG)))):=⟨hg,by rw[←aa HA _ rfl];exact hz⟩
      clear hg hz
      go_wp2
      go_meet
      exact HH
     |true =>
      have HH:Hid (World.grownBy (w0) (w0) (some b)∧Zr lo (w0) b (lX (bI x) pu (aT (al Rk cG)))):=⟨zI _ _,by rw[←aa HA _ rfl];exact aa HZ⟩
      go_wp2
      go_meet
      exact HH
    case rest =>
    obtain ⟨w6,fP⟩:∃x,x=wc:=⟨_,rfl⟩
    subst fP
    clear acn ab3
    obtain ⟨hg,hz⟩:=aa hcut
    replace HZ:=ab hz
    replace gD:=ab (ax hg (aa gD) (by omega))
    replace HG:=ab ((aa HG).trans hg)
    replace HO:=ab ((aa HO).kept hg (by omega))
    clear hg hz hcut
    clear HA GY
    have acm:=seen (aa gD)
    have ab2:=aS (aa gD)
    go_wp2_with fail
    refine (eu (aa HZ) ⟨ku,pu,tu⟩).mono ?_
    rintro e w7 ⟨hg,hz,v7,rfl,Vv,N6⟩
    clear acm ab2
    replace HZ:=ab hz
    replace gD:=ab (ax hg (aa gD) (by omega))
    replace HG:=ab ((aa HG).trans hg)
    replace HO:=ab ((aa HO).kept hg (by omega))
    clear hg hz
    obtain rfl:=Vv
    clear N6
    obtain ⟨g1,Ts⟩:=V0 (sp:=pu) (aa Uo) rfl (aa HV)
    replace HZ:=aa HZ
    rw[g1] at HZ
    replace HZ:=ab HZ
    have VU:=aa HF
    rw[L5 Ts] at VU
    obtain ⟨lb,ml⟩:=(aa Ls).item (one:=eY) (R:=Rk) (aa Uo) (fun s a s1 hg ho=>⟨OC hg ho,oV ho⟩)
    have nB:=ab VU
    have WY:Hid (LB 16391 (l1.length+(l2++[x]).length) (aT (al Rk eY))):=by show LB _ _ _;rw[zK];show LB 16391 (l1.length+(l2.length+1)) _;rw[←Nat.add_assoc];exact lb
    have HML:=ab ml
    clear Ts VU lb ml g1 HV Uo
    obtain ⟨_,_,Qr⟩:=bY (aa HO).r2
    injection Qr with Qr pq ZR
    subst pq
    clear Qr ZR
    have O1:Hid (l2.length+1≤maxLen):=by have:=(aa Ls).1;show _≤_;unfold maxLen;omega
    have O2:Hid ((l2.length+1)*16≤140737488355328):=by have:=(aa Ls).1;show _≤_;omega
    have ck:W.heap.size≤w7.heap.size:=(aa HG).size
    go_wp2_with (at_builtin;refine wpList_append_own_at _ rfl _ _ 22 rfl W.heap.size 9 i0 (.string ⟨#[]⟩) 1 16 Tryz.underlying22 hi zy zx jK rfl (by decide) _ _ _ rfl ((aa HO).r2.alloc _) ⟨w7.heap.size,0,none⟩ 1 1 [.string x] rfl rfl (df _ _ _) (by simp[Value.oneCell']) (aa O1) (aa O2) (by rw[zJ];omega) ?_;intro v4 w4 gz eM _ mG;have EM:=ab gz;have se:=ab eM;have Qc:=ab mG;clear gz eM mG)
    have o1:=((aa HO).alloc (.cells #[.string x] 9)).acy (x:=x) (aa EM) (aa se) (aa Qc)
    obtain ⟨a4,c4,rfl⟩:=bY o1.r2
    have HOO:=ab o1
    have qL:=(zE w7.heap.size w7).alloc (zD _) (.cells #[.string x] 9)
    have Uq:=ab (Bw ((aa HO).r2.alloc (.cells #[.string x] 9)) (zD _) ((aa HG).trans (aO qL (some b))) (aa se))
    have HZZ:=ab (E' ((aa HO).r2.alloc (.cells #[.string x] 9)) cB.2 ((aa HZ).up qL) (aa se))
    have HGE:Hid (mR (aT (al Rk eY))≤gk):=by have:=aa HML;have:=aa zu;show _≤_;omega
    clear o1 qL EM se Qc HO HG HZ
    go_meet
    exact ⟨_,_,_,_,_,_,_,_,_,rfl,rfl,HOO,Uq,HZZ,nB,WY,HGE⟩
  case rest =>
  obtain ⟨w20,fP⟩:∃x,x=wc:=⟨_,rfl⟩
  subst fP
  obtain ⟨m1,m2,b1,e1,d1,b2,e2,d2,Rm,rfl,rfl,HOm,HGm,HZm,HFm,HLm,HMm⟩:=hcut
  clear HO HG HZ HF Ls
  obtain ⟨er,SH,her⟩:=(aa HZm).err
  go_upto_region 14 with fail
  go_cut [59] from 17 to 66 (fun v59 wx=>v59=.bool (!(fU Rm 4 ⟨#[44]⟩))∧Hid (Below w20.heap.size w20 wx))
  case first =>
   cases Rm with
   |error y =>
    have abL:(er != 0)=true:=by rw[bne,show (er==0)=false from her];rfl
    go_wp2
    go_meet
    exact ⟨rfl,zE _ _⟩
   |ok s =>
    have abL:(er != 0)=false:=by rw[bne,show (er==0)=true from her];rfl
    go_wp2_with fail
    refine (iw (aa HZm) 4 (by decide) ⟨#[44]⟩).mono ?_
    rintro e w0 ⟨rfl,hb⟩
    have HB:=ab hb
    clear hb
    go_wp2
    go_meet
    exact ⟨rfl,HB⟩
  case rest =>
  obtain ⟨zW,fP⟩:∃x,x=wc:=⟨_,rfl⟩
  subst fP
  obtain ⟨rfl,hb⟩:=hcut
  have hg:=aO (aa hb) (some b)
  have HZ:=ab ((aa HZm).up (aa hb))
  have HG:=ab ((aa HGm).trans hg)
  have HO:=ab ((aa HOm).kept hg (by omega))
  clear hg hb SH her HZm HGm HOm
  obtain ⟨q,hq⟩:∃q,fU Rm 4 ⟨#[44]⟩=q:=⟨_,rfl⟩
  rw[hq]
  have jx:=ab hq
  clear hq
  cases q with
  |true =>
   obtain ⟨s,rfl,hs⟩:=fB (aa jx)
   have zT:Hid (Gd s):=(aa HZ).2
   have HF3:Hid (F0=al (kK (.ok s)) (qQ en st m1 m2)):=by
    show F0=qQ en st m1 m2 s.nx
    rw[←Kd (aa zT) hs]
    exact aa HFm
   have dL:=eR (aa zT).en hs (by decide)
   have LA:s.nx.ts.length=s.ts.length-1:=List.length_tail
   have HL3:Hid (LB 16390 (m1.length+m2.length) (kK (.ok s))):=by
    have h1:=(aa HLm).2 s rfl
    exact ⟨by omega,fun s' e=>by cases e;omega⟩
   have Ye:Hid (mR (kK (.ok s))<gk):=by
    have h1:=aa HMm
    show s.nx.ts.length+1<gk
    have:s.ts.length+1≤gk:=h1
    omega
   obtain ⟨i,ci,fi,bD,ui⟩:=(aa HZ).next (fun s' e=>by cases e;exact dL)
   obtain ⟨g1,z1⟩:=bD (wrap64 (i+1)) (fun s e=>eJ (ui s e))
   replace HZ:=ab z1
   replace HG:=ab ((aa HG).trans g1)
   replace HO:=ab ((aa HO).kept g1 (by omega))
   clear g1 z1 bD ui hs dL LA HFm HLm HMm
   go_wp2
   go_roundg (mR (kK (.ok s)))
   case measure=>exact aa Ye
   case rel=>exact ⟨m1,m2,_,_,_,_,_,_,_,rfl,rfl,rfl,HO,HG,HZ,HF3,HL3⟩
  |false =>
   have hme:=RC (en:=en) (st:=st) (l1:=m1) (l2:=m2) (aa HZ).2 (aa jx)
   have HFE:Hid (F0=bO (al Rm (au ⟨#[59]⟩)) (fun _ s3=>.ok ((m1,m2),s3))):=by rw[←hme];exact aa HFm
   clear hme HFm
   go_wp2_with fail
   refine (eW (aa HZ) ⟨#[59]⟩).mono ?_
   rintro e LY ⟨hg,hz,v,rfl,mD,-⟩
   obtain rfl:=mD
   have HA:Hid (aT (al Rm (au ⟨#[59]⟩))=aT F0∧∀a s,F0=.ok (a,s)→a=(m1,m2)):=by
    rw[aa HFE]
    cases al Rm (au ⟨#[59]⟩) with
    |error y=>exact ⟨rfl,fun _ _ e=>(by cases e)⟩
    |ok p=>exact ⟨rfl,fun _ _ e=>(by cases e;rfl)⟩
   have CJ:Hid (Zr lo LY b (aT F0)):=by show Zr _ _ _ _;rw[←(aa HA).1];exact hz
   have S4:=ab ((aa HG).trans hg)
   have WV:=ab ((aa HO).kept hg (by omega))
   clear hg hz HO HG HZ
   go_wp2
   go_ret2
   rw[←aa E5]
   exact ⟨aa S4,aa CJ,_,_,m1,m2,rfl,aa WV,by have:=(aa HLm).1;omega,(aa HA).2⟩
end Go.Proofs.YtjophoclfccmcaaGreatDoor

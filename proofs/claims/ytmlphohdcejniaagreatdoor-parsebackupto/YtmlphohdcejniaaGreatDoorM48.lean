import Derived.Test.YtmlphohdcejniaaGreatDoorVZ
namespace Go.Proofs.YtmlphohdcejniaaGreatDoor
open Go.RowKit
theorem I9 {B:ByteArray}{ps:List (Wd×List Nat)}{g:Fl}{c:Nat}{ws:List Wd} (kj:ps.map Prod.fst=om++ws) (hE:eH Aw 32 ws c ⟨⟨#[]⟩,[],[],[]⟩ g) (hw:nY ps) (hB:aG B=jz ps) :
  (B.size≤65536→ps.length≤16383→c≤4096→∃s,gV B=.ok (g,s))∧(¬(B.size≤65536∧ps.length≤16383∧c≤4096)→∃e p,gV B=.error (e,p)∧(e=2∨e=45∨e=54)):=by
 unfold gV
 by_cases hs:65536<B.size
 ·refine ⟨fun q=>by omega,fun _=>⟨2,0,?_,.inl rfl⟩⟩
  unfold lG
  rw[if_pos hs]
  rfl
 ·have hu:cX B 0=-1:=Fb (by rw[hB];exact vw _ hw)
  have hd:(aG B).drop 0=jz ps:=by rw[List.drop_zero];exact hB
  obtain ⟨h1,h2⟩:=Bh ps 0 0 hw hd (Nat.zero_le _) (Nat.zero_le _)
  rw[Ff hs (by rw[hu];decide)]
  by_cases hl:ps.length≤16383
  ·obtain ⟨ts,e1,e2⟩:=h1 (by omega)
   rw[e1]
   simp only
   obtain ⟨e,he⟩:=Bv (fun w hx=>by
    obtain ⟨x,nT,rfl⟩:=List.mem_map.1 hx
    obtain ⟨k,q1,q2,_⟩:=lr (hw x nT).1
    rw[q1]
    omega) e2
   have hlen:(ts.map Tok.tk).length=ps.length+1:=by
    have:=congrArg List.length e2
    simp only[List.length_map,zK,List.length_cons,List.length_nil] at this ⊢
    omega
   rw[kj] at he
   unfold nM
   rw[if_neg (by omega)]
   rcases Mb hE he (Nat.zero_le _) (zD _) with ⟨q1,p,q2⟩|⟨q1,s,q2,_⟩<;>rw[q2]
   ·exact ⟨fun _ _ q=>by omega,fun _=>⟨54,p,rfl,.inr (.inr rfl)⟩⟩
   ·exact ⟨fun _ _ _=>⟨s,rfl⟩,fun q=>absurd ⟨by omega,hl,by omega⟩ q⟩
  ·obtain ⟨k,e1⟩:=h2 (by omega)
   rw[e1]
   exact ⟨fun _ q=>absurd q hl,fun _=>⟨45,k,rfl,.inr (.inl rfl)⟩⟩
end Go.Proofs.YtmlphohdcejniaaGreatDoor
namespace Go.Proofs.YtmlphohdcejniaaGreatDoor
open Go.RowKit
def jW (w:World) (b:Nat):World:={ w with heap:=w.heap.extract 0 b }
theorem oS {w:World}{b k:Nat} (h:k<b) (hb:b≤w.heap.size):(jW w b).heap[k]?=w.heap[k]?:=by
 show (w.heap.extract 0 b)[k]?=_
 rw[Array.getElem?_extract,if_pos (by omega),Nat.zero_add]
theorem ij {w:World}{b:Nat} (h:b≤w.heap.size):(jW w b).heap.size=b:=by
 show (w.heap.extract 0 b).size=b
 rw[Array.size_extract]
 omega
theorem Bg {w:World}{b:Nat} (h:b≤w.heap.size):Below b (jW w b) w:=⟨rfl,rfl,rfl,by rw[ij h];exact h,fun _ hk=>(oS hk h).symm⟩
theorem rF {W w:World}{b:Nat} (hb:Below W.heap.size W w) (h1:W.heap.size≤b) (h2:b≤w.heap.size):Below W.heap.size W (jW w b):=⟨hb.os,hb.tape,hb.output,by rw[ij h2];exact h1,fun k hk=>(oS (by omega) h2).trans (hb.block k hk)⟩
theorem JC {W w:World}{b:Nat} (hM:gD W) (hP:nI W) (hb:Below W.heap.size W w) (h1:W.heap.size≤b) (h2:b≤w.heap.size):WE (jW w b) w b :=
 ⟨hM.up (rF hb h1 h2) hM.1,hP.up (rF hb h1 h2),by rw[ij h2];have:=hM.1;omega,by rw[ij h2];exact Bg h2,by rw[ij h2];exact zD _⟩
theorem EY.JB {B b:Nat}{w:World}{v:Value} (h:EY B w v) (hB:B≤b):EY b w v:=by
 obtain ⟨a,n,c,rfl,h1,h2⟩:=h
 refine ⟨a,n,c,rfl,h1,fun hp=>?_⟩
 obtain ⟨g,off,rfl,h3,h4⟩:=h2 hp
 exact ⟨g,off,rfl,Nat.lt_of_lt_of_le h3 hB,h4⟩
theorem l7.off {b:Nat}{r row:Option Nat}{vs:Value}{ps:List (Wd×List Nat)}{D:Nat}{w w':World} (h:l7 b r vs ps D w) (hg:w.grownBy w' row) (hb:row≠some b) (hr:r=none∨r≠row) (Lk:EY b w' vs):l7 b r vs ps D w':=by
 have hl:=h.lt
 obtain ⟨v,rfl,hk,ho⟩:=h.dt
 exact ⟨⟨v,rfl,(hg.block b hl (fun e=>hb e.symm)).trans hk,ho.kept hg hr⟩,Lk,h.ok⟩
def PP (B g b k:Nat):Prop:=B≤k∧k≠g∧k<b
def fz:Array Value:=#[.string ⟨#[]⟩,.slice none 0 0,.slice none 0 0,.slice none 0 0]
structure WI (W w:World) (A:Array Value) (q g b:Nat) (r:Option Nat) (vs:Value) (ps:List (Wd×List Nat)) (D:Nat) (pk:ByteArray) (ui um ue:Value) (is:List ByteArray) (ms:List Ms) (es:List En) (cm ce:List Value):Prop where
 ez:Below W.heap.size W w
 ord:W.heap.size<q∧q<g∧g<b∧b<w.heap.size
 fb:w.heap[W.heap.size]?=some (.cells A 26 (0,0))
 qb:w.heap[q]?=some (.cells fz 26 (0,0))
 gb:w.heap[g]?=some (.cells #[.string pk,ui,um,ue] 26 (0,0))
 iw:eQ (fun k=>b<k∧r≠some k) w 9 1 ui is.length (bS is)
 m:eQ (PP (q+1) g b) w 64 7 um ms.length cm
 hm:di (PP (q+1) g b) w cm ms
 e:eQ (PP (q+1) g b) w 68 4 ue es.length ce
 he:eC (PP (q+1) g b) w ce es
 sp:EY W.heap.size W vs
 wr:l7 b r vs ps D w
section
variable {W w : World} {A : Array Value} {q g b : Nat} {r : Option Nat} {vs : Value} {ps : List (Wd × List Nat)} {D : Nat} {pk : ByteArray} {ui um ue : Value} {is : List ByteArray} {ms : List Ms} {es : List En} {cm ce : List Value}
theorem WI.step (h:WI W w A q g b r vs ps D pk ui um ue is ms es cm ce) {w':World}{r':Option Nat}{p8:List (Wd×List Nat)}{D':Nat}{pk':ByteArray}{ui':Value}{is':List ByteArray} (hb:Below W.heap.size W w') (hs:w.heap.size≤w'.heap.size) (hk:∀k,k<b→k≠g→w'.heap[k]?=w.heap[k]?) (hg:w'.heap[g]?=some (.cells #[.string pk',ui',um,ue] 26 (0,0)))
  (hi:eQ (fun k=>b<k∧r'≠some k) w' 9 1 ui' is'.length (bS is')) (hw:l7 b r' vs p8 D' w'):WI W w' A q g b r' vs p8 D' pk' ui' um ue is' ms es cm ce:=by
 obtain ⟨o1,o2,o3,o4⟩:=h.ord
 have hG:iV (PP (q+1) g b) (PP (q+1) g b) w w':=fun k hp _=>⟨hp,hk k hp.2.2 hp.2.1⟩
 exact ⟨hb,⟨o1,o2,o3,by omega⟩,(hk _ (by omega) (by omega)).trans h.fb,(hk _ (by omega) (by omega)).trans h.qb,hg,hi,h.m.goes hG,cS _ _ _ _ _ _ hG h.hm,h.e.goes hG,cH _ _ _ _ _ _ hG h.he,h.sp,hw⟩
theorem WI.kw (h:WI W w A q g b r vs ps D pk ui um ue is ms es cm ce) {w':World}{r':Option Nat}{p8:List (Wd×List Nat)}{D':Nat} (hi:l7 b r' vs p8 D' w') (hk:KW b r w w' r'):WI W w' A q g b r' vs p8 D' pk ui um ue is ms es cm ce:=by
 obtain ⟨o1,o2,o3,o4⟩:=h.ord
 have hrb:∀k,r=some k→b≤k:=fun k e=>by have:=(h.wr.row k e).1;omega
 have hB:=hk.below hrb (by omega)
 refine h.step (h.ez.trans (hB.mono (by omega))) hk.size (fun k h1 _=>hB.block k h1) ((hB.block g o3).trans h.gb) (h.iw.goes fun k hp hl=>⟨⟨hp.1,?_⟩,hk.block k hl (by have:=hp.1;omega) hp.2⟩) hi
 rcases hk.row with e|⟨j,e,hj⟩
 ·rw[e];exact hp.2
 ·rw[e];intro e2;have:=zC e2;omega
theorem WI.up (h:WI W w A q g b r vs ps D pk ui um ue is ms es cm ce) {w':World} (hb:Below w.heap.size w w'):WI W w' A q g b r vs ps D pk ui um ue is ms es cm ce:=h.kw (h.wr.up hb) (.dM hb)
theorem WI.we (h:WI W w A q g b r vs ps D pk ui um ue is ms es cm ce) (hM:gD W) (hP:nI W):WE (jW w b) w b:=JC hM hP h.ez (by have:=h.ord;omega) (by have:=h.ord;omega)
theorem WI.wa (h:WI W w A q g b r vs ps D pk ui um ue is ms es cm ce) (hM:gD W) (hP:nI W):WA (jW w b) b r vs ps D w [] 0 0 w:=WA.start h.wr (h.we hM hP)
theorem WI.after (h:WI W w A q g b r vs ps D pk ui um ue is ms es cm ce) {V w':World}{t:List Wd}{n c:Nat} (ha:WA V b r vs ps D w t n c w'):∃r' q',q'.map Prod.fst=t∧q'.length≤n∧WI W w' A q g b r' vs (ps++q') (D+c) pk ui um ue is ms es cm ce:=by
 obtain ⟨r',q',h1,h2,h3,h4⟩:=ha.ex
 exact ⟨r',q',h1,h2,h.kw h3 h4⟩
theorem WI.fW (h:WI W w A q g b r vs ps D pk ui um ue is ms es cm ce) (s:ByteArray):WI W (w.setCell ⟨g,0,none⟩ (.string s)) A q g b r vs ps D s ui um ue is ms es cm ce:=by
 obtain ⟨o1,o2,o3,o4⟩:=h.ord
 obtain ⟨a1,a2⟩:=aJ (j:=0) h.gb (.string s)
 have hB:=h.ez.grown a2 h.ez.size (fun k e=>by have:=zC e;omega)
 refine h.step hB a2.size (fun k _ h2=>a2.block k (by omega) (fun e=>h2 (zC e))) a1 (h.iw.goes fun k hp hl=>⟨hp,a2.block k hl (fun e=>by have:=zC e;have:=hp.1;omega)⟩) (h.wr.off a2 (fun e=>by have:=zC e;omega) ?_ ((h.sp.up hB).JB (by omega)))
 cases hr:r with
 |none=>exact .inl rfl
 |some k=>exact .inr (fun e=>by have:=(h.wr.row k hr).1;have:=zC e;omega)
theorem WI.imp (h:WI W w A q g b r vs ps D pk ui um ue is ms es cm ce) {w2:World}{u:Value}{s:ByteArray} (hg:w.grownBy w2 ui.ownBlock) (ho:w2.ownsRow 0 9 1 u (is.length+1) (bS is++[.string s])) (oL:u.ownBlock=ui.ownBlock∨u.ownBlock=some w.heap.size) :
  WI W (w2.setCell ⟨g,1,none⟩ u) A q g b r vs ps D pk u um ue (is++[s]) ms es cm ce∧w2.cell? ⟨g,1,none⟩=some ui∧w2.frozen? ⟨g,1,none⟩=false:=by
 obtain ⟨o1,o2,o3,o4⟩:=h.ord
 have hug:ui.ownBlock≠some g:=fun e=>by have:=(h.iw.2 g e).1;omega
 have hub:ui.ownBlock≠some b:=fun e=>by have:=(h.iw.2 b e).1;omega
 have gO:=(hg.block g (by omega) (fun e=>hug e.symm)).trans h.gb
 obtain ⟨a1,a2⟩:=aJ (j:=1) gO u
 have hB:=(h.ez.grown hg h.ez.size (fun k e=>by have:=(h.iw.2 k e).1;omega)).grown a2 (Nat.le_trans h.ez.size hg.size) (fun k e=>by have:=zC e;omega)
 have hru:∀k,u.ownBlock=some k→b<k∧r≠some k:=fun k e=>by
  rcases oL with q1|q1
  ·exact h.iw.2 k (q1.symm.trans e)
  ·rw[q1] at e
   have:=zC e
   exact ⟨by omega,fun e2=>by have:=(h.wr.row k e2).2;omega⟩
 have dT:l7 b r vs ps D w2:=h.wr.off hg hub (by
  cases hr:r with
  |none=>exact .inl rfl
  |some k=>exact .inr (fun e=>(h.iw.2 k e.symm).2 hr)) ((h.sp.up (h.ez.grown hg h.ez.size (fun k e=>by have:=(h.iw.2 k e).1;omega))).JB (by omega))
 refine ⟨h.step hB (Nat.le_trans hg.size a2.size) (fun k h1 h2=>?_) a1 ⟨?_,hru⟩ (dT.off a2 (fun e=>by have:=zC e;omega) ?_ ((h.sp.up hB).JB (by omega))),cell_of_row _ _ _ _ _ _ gO,by simp[World.frozen?,gO]⟩
 ·rw[a2.block k (by have:=hg.size;omega) (fun e=>h2 (zC e)),hg.block k (by omega) (fun e=>by have:=(h.iw.2 k e.symm).1;omega)]
 ·rw[zK,uV]
  exact ho.kept a2 (.inr (fun e=>by have:=(hru g e).1;omega))
 ·cases hr:r with
  |none=>exact .inl rfl
  |some k=>exact .inr (fun e=>by have:=(h.wr.row k hr).1;have:=zC e;omega)
theorem WI.out (h:WI W w A q g b r vs ps D pk ui um ue is ms es cm ce) {wd w':World} (hs:wd.heap=w.heap) (hg:wd.grownBy w' (some q)) (hb:Below W.heap.size W wd):NF ⟨pk,is,ms,es⟩ (.agg #[.string pk,ui,um,ue]) (fun k=>W.heap.size≤k) w'∧Below W.heap.size W w':=by
 obtain ⟨o1,o2,o3,o4⟩:=h.ord
 have key:∀k,k≠q→k<w.heap.size→w'.heap[k]?=w.heap[k]?:=fun k h1 h2=>by
  rw[hg.block k (by rw[hs];exact h2) (fun e=>h1 (zC e)),hs]
 have hG:iV (PP (q+1) g b) (fun k=>W.heap.size≤k) w w':=fun k hp hl=>⟨by have:=hp.1;omega,key k (by have:=hp.1;omega) hl⟩
 exact ⟨⟨ui,um,ue,cm,ce,rfl,h.iw.goes fun k hp hl=>⟨by have:=hp.1;omega,key k (by have:=hp.1;omega) hl⟩,h.m.goes hG,cS _ _ _ _ _ _ hG h.hm,h.e.goes hG,cH _ _ _ _ _ _ hG h.he⟩,hb.grown hg hb.size (fun k e=>by have:=zC e;omega)⟩
theorem WI.rows (h:WI W w A q g b r vs ps D pk ui um ue is ms es cm ce):km (jW w b) um ms.length cm∧di (PP (q+1) g b) (jW w b) cm ms∧km (jW w b) ue es.length ce∧NZ (jW w b) ce es:=by
 have hG:iV (PP (q+1) g b) (PP (q+1) g b) w (jW w b):=fun k hp _=>⟨hp,oS hp.2.2 (by have:=h.ord;omega)⟩
 exact ⟨(h.m.goes hG).rd,cS _ _ _ _ _ _ hG h.hm,(h.e.goes hG).rd,(cH _ _ _ _ _ _ hG h.he).rd⟩
theorem WI.vgb (h:WI W w A q g b r vs ps D pk ui um ue is ms es cm ce):∀w',Below (jW w b).heap.size (jW w b) w'→w'.heap[g]?=some (.cells #[.string pk,ui,um,ue] 26 (0,0)):=fun w' hb=>by
 obtain ⟨o1,o2,o3,o4⟩:=h.ord
 rw[hb.block g (by rw[ij (by omega)];exact o3),oS o3 (by omega)]
 exact h.gb
theorem WI.cells (h:WI W w A q g b r vs ps D pk ui um ue is ms es cm ce):w.cell? ⟨g,0,none⟩=some (.string pk)∧w.cell? ⟨g,1,none⟩=some ui∧w.cell? ⟨g,2,none⟩=some um∧w.cell? ⟨g,3,none⟩=some ue :=
 ⟨cell_of_row _ _ _ _ _ _ h.gb,cell_of_row _ _ _ _ _ _ h.gb,cell_of_row _ _ _ _ _ _ h.gb,cell_of_row _ _ _ _ _ _ h.gb⟩
end
theorem KT {f:Nat}:∀m,zZ f m≤mw f m:=by
 induction f with
 |zero=>intro m;exact zD _
 |succ f ih =>
  have hs:∀l:List Ms,bG (zZ f) l≤bG (mw f) l:=by
   intro l
   induction l with
   |nil=>exact zD _
   |cons x r Is=>have:=ih x;show zZ f x+bG (zZ f) r≤mw f x+bG (mw f) r;omega
  have he:∀l:List En,bG oM l≤bG mY l:=by
   intro l
   induction l with
   |nil=>exact zD _
   |cons x r Is=>show oM x+bG oM r≤mY x+bG mY r;have h0:oM x≤mY x:=(by unfold oM mY;omega);omega
  intro m
  obtain ⟨nm,fs,os,ms,es,rs,gs⟩:=m
  have h1:=hs ms
  have h2:=he es
  show 1+2*fs.length+(rs.length+gs.length)+bG (zZ f) ms+bG oM es≤100+100*fs.length+(20*rs.length+10*gs.length)+bG (mw f) ms+bG mY es
  omega
theorem kW {α:Type}{f g:α→Nat} (h:∀x,f x≤g x):∀l:List α,bG f l≤bG g l
 |[]=>zD _
 |x::r=>by have:=kW h r;have:=h x;show f x+bG f r≤g x+bG g r;omega
theorem Kp {W:World}{b:Nat}{r:Option Nat}{vs:Value}{ps:List (Wd×List Nat)}{D:Nat} (h:l7 b r vs ps D W) (ws:List Wd) (hw:∀w ∈ ws,Jq w) (hl:ws.length≤4) (hn:ps.length≤1099511627776) (cs:Array Value) (cn:cs=(bS (ws.map Prod.snd)).toArray) (n:Nat) (j8:n=ws.length) :
  Calls Tryz.prog 18 #[.pointer (some ⟨b,0,none⟩),.slice (some ⟨W.heap.size,0,none⟩) n n] (W.alloc (.cells cs 9)) (Wr b r vs ps D W 4 fun t c=>t=ws∧c=0):=by
 subst cn j8
 have hb:Below W.heap.size W (W.alloc (.cells (bS (ws.map Prod.snd)).toArray 9)):=(zE _ _).alloc (zD _) _
 refine (A' (h.up hb) ws hw hl hn (aC _ _) ⟨by have:=h.lt;omega,fun e=>by have:=(h.row _ e).2;omega⟩).mono ?_
 rintro e w ⟨rfl,r',p8,h1,h2,h3⟩
 refine ⟨rfl,r',p8,0,⟨h1,rfl⟩,?_,h2,(KW.dM hb).trans h3⟩
 have:=congrArg List.length h1
 rw[List.length_map] at this
 omega
theorem WA.aai {V:World}{b:Nat}{r0:Option Nat}{vs:Value}{ps:List (Wd×List Nat)}{D:Nat}{W:World}{t:List Wd}{n c:Nat}{w:World} (h:WA V b r0 vs ps D W t n c w) (hn:ps.length+n≤1099511627776) (ws:List Wd) (hw:∀x ∈ ws,Jq x) (hl:ws.length≤4) (cs:Array Value) (cn:cs=(bS (ws.map Prod.snd)).toArray) (k:Nat) (hk:k=ws.length) :
  Calls Tryz.prog 18 #[.pointer (some ⟨b,0,none⟩),.slice (some ⟨w.heap.size,0,none⟩) k k] (w.alloc (.cells cs 9)) fun e w'=>e=.returned (.tuple #[])∧WA V b r0 vs ps D W (t++ws) (n+4) c w':=by
 obtain ⟨⟨r,q,h1,h2,h3,h4⟩,h5⟩:=h
 refine (Kp h3 ws hw hl (by rw[zK];omega) cs cn k hk).mono ?_
 rintro e w' ⟨rfl,r2,p2,c2,⟨e1,rfl⟩,e2,e3,e4⟩
 exact ⟨rfl,kq (c2:=0) h1 h2 h3 h4 h5 e1 e2 e3 e4⟩
theorem RD:aU ⟨#[115,121,110,116,97,120]⟩:=by
 refine ⟨?_,by decide,by decide⟩
 kernel_rfl
theorem So:aU ⟨#[105,109,112,111,114,116]⟩:=by
 refine ⟨?_,by decide,by decide⟩
 kernel_rfl
theorem RQ:aU ⟨#[112,97,99,107,97,103,101]⟩:=by
 refine ⟨?_,by decide,by decide⟩
 kernel_rfl
theorem Oh:∀w ∈ om,Jq w:=by
 intro w hw
 simp only[om,List.mem_cons,List.not_mem_nil,or_false] at hw
 rcases hw with rfl|rfl|rfl|rfl
 ·exact .inl ⟨rfl,RD⟩
 ·exact fD 61 (by decide)
 ·exact .inr (.inr (.inl ⟨rfl,39,_,.inl rfl,Bl,rfl⟩))
 ·exact fD 59 (by decide)
theorem GO:#[Value.string ⟨#[115,121,110,116,97,120]⟩,.string ⟨#[61]⟩,.string ⟨#[39,112,114,111,116,111,51,39]⟩,.string ⟨#[59]⟩]=(bS (om.map Prod.snd)).toArray:=by kernel_rfl
def QP:Fl:=⟨⟨#[]⟩,[],[],[]⟩
end Go.Proofs.YtmlphohdcejniaaGreatDoor
namespace Go.Proofs.YtmlphohdcejniaaGreatDoor
open Go.RowKit
structure Nn (F:Fl):Prop where
 pk:F.fW.size≤1048576
 il:F.cy.length≤1048576
 cy:∀x ∈ F.cy,x.size≤1048576
 ml:F.ms.length≤1048576
 ms:∀m ∈ F.ms,C0 30 m
 mks:bG (DX 30) F.ms≤104857600
 el:F.es.length≤1048576
 es:∀e ∈ F.es,Jk e
 ek:bG Gb F.es≤104857600
def Bt (lo hi k:Nat):Prop:=lo≤k∧k<hi
def PZ (P:Nat→Prop) (w:World) (u:Value) (l:List Ms):Prop:=∃cs,eQ P w 64 7 u l.length cs∧di P w cs l
def P0 (P:Nat→Prop) (w:World) (u:Value) (l:List En):Prop:=∃cs,eQ P w 68 4 u l.length cs∧eC P w cs l
theorem PZ.goes {P P':Nat→Prop}{w w':World}{u:Value}{l:List Ms} (h:PZ P w u l) (hg:iV P P' w w'):PZ P' w' u l:=by
 obtain ⟨cs,h1,h2⟩:=h
 exact ⟨cs,h1.goes hg,cS _ _ _ _ _ _ hg h2⟩
theorem P0.goes {P P':Nat→Prop}{w w':World}{u:Value}{l:List En} (h:P0 P w u l) (hg:iV P P' w w'):P0 P' w' u l:=by
 obtain ⟨cs,h1,h2⟩:=h
 exact ⟨cs,h1.goes hg,cH _ _ _ _ _ _ hg h2⟩
theorem PZ.up {P:Nat→Prop}{w w':World}{u:Value}{l:List Ms} (h:PZ P w u l) (hb:Below w.heap.size w w'):PZ P w' u l:=h.goes fun k hp hk=>⟨hp,hb.block k hk⟩
theorem P0.up {P:Nat→Prop}{w w':World}{u:Value}{l:List En} (h:P0 P w u l) (hb:Below w.heap.size w w'):P0 P w' u l:=h.goes fun k hp hk=>⟨hp,hb.block k hk⟩
theorem KU {B:Nat}{w:World}{u:Value}{cs:List Value}{l:List Ms} (ho:w.ownsRow B 64 7 u l.length cs) (hm:di (Rest B u) w cs l):PZ (Bt B w.heap.size) w u l :=
 ⟨cs,(iD ho).goes fun _ hp hk=>⟨⟨hp,hk⟩,rfl⟩,cS _ _ _ _ _ _ (fun _ (hp:Rest B u _) hk=>⟨⟨hp.1,hk⟩,rfl⟩) hm⟩
theorem DY {B:Nat}{w:World}{u:Value}{cs:List Value}{l:List En} (ho:w.ownsRow B 68 4 u l.length cs) (hm:eC (Rest B u) w cs l):P0 (Bt B w.heap.size) w u l :=
 ⟨cs,(iD ho).goes fun _ hp hk=>⟨⟨hp,hk⟩,rfl⟩,cH _ _ _ _ _ _ (fun _ (hp:Rest B u _) hk=>⟨⟨hp.1,hk⟩,rfl⟩) hm⟩
theorem mM {P:Program}{fn:Func}{p q r:Tmp}{ty:TypeId} (h:fn.results=#[.cell p ty,.tmp q,.tmp r]) (tmps:Array Value) (w:World) (g:Nat) (t:TypeId) (cs:Array Value) (fr:Nat×Nat) (d:TypeDesc)
  (hp:tmps.getD p undef=.pointer (some ⟨g,0,none⟩)) (hg:w.heap[g]?=some (.cells cs t fr)) (hu:P.underlying ty=some d) (hd:(match d with|.struct _|.array _ _=>true|_=>false)=true) (hi:(P.info? ty).map (·.size)=some cs.size) :
  (results fn tmps).run P w=.ok (.tuple #[.agg cs,tmps.getD q undef,tmps.getD r undef]) w:=by
 have Uy:tmps[p]?.getD undef=.pointer (some ⟨g,0,none⟩):=by simpa using hp
 simp[results,h,Uy,asAddr,run_loadVar_row w g t ty cs fr d hg hu hd hi]
def NS (g b:Nat) (A4:Array Value) (v vs:Value) (n D:Nat) (bs:List Nat) (w:World):Prop:=w.heap[g]?=some (.cells A4 26 (0,0))∧w.heap[b]?=some (.cells (Vg v vs n D) 56 (0,0))∧Bytes (b+1) w v bs
theorem NS.drew {g b:Nat}{A4:Array Value}{v vs:Value}{n D:Nat}{bs:List Nat}{w:World} (h:NS g b A4 v vs n D bs w):NS g b A4 v vs n D bs w.drew:=⟨h.1,h.2.1,ct h.2.2 (below_drewN (zE _ _) 1)⟩
theorem NS.off {g b q:Nat}{A4:Array Value}{v vs:Value}{n D:Nat}{bs:List Nat}{w w':World} (h:NS g b A4 v vs n D bs w) (hg:w.grownBy w' (some q)) (h1:q≠g) (h2:q≠b) (h3:q<b+1):NS g b A4 v vs n D bs w':=by
 obtain ⟨a,c,d⟩:=h
 exact ⟨(hg.block g (zA a).1 (fun e=>h1 (zC e).symm)).trans a,(hg.block b (zA c).1 (fun e=>h2 (zC e).symm)).trans c,World.ownsRow.kept d hg (.inr (fun e=>by have:=(d.lt q e).1;omega))⟩
theorem aQ {w:World}{b n D:Nat}{v vs:Value} (h:w.heap[b]?=some (.cells (Vg v vs n D) 56 (0,0))):w.cell? ⟨b,0,none⟩=some v∧w.cell? ⟨b,3,none⟩=some (.int .i64 (D:Int))∧w.cell? ⟨b,4,none⟩=some (.int .i64 (n:Int)):=⟨cell_of_row _ _ _ _ _ _ h,cell_of_row _ _ _ _ _ _ h,cell_of_row _ _ _ _ _ _ h⟩
structure WJ (W w:World) (A:Array Value) (q g:Nat) (um ue:Value) (ms:List Ms) (es:List En):Prop where
 ez:Below W.heap.size W w
 ord:W.heap.size<q∧q<g∧g<w.heap.size
 fb:w.heap[W.heap.size]?=some (.cells A 26 (0,0))
 qb:w.heap[q]?=some (.cells fz 26 (0,0))
 gb:w.heap[g]?=some (.cells #[.string ⟨#[]⟩,.slice none 0 0,um,ue] 26 (0,0))
 m:PZ (fun k=>q+1≤k∧k≠g) w um ms
 e:P0 (fun k=>q+1≤k∧k≠g) w ue es
theorem Dy {W W1 w:World}{A:Array Value}{q g l1 h1 l2 h2:Nat}{um ue x0 x1 x2 x3:Value}{ms:List Ms}{es:List En} (dN:Below W.heap.size W W1) (hb:Below W1.heap.size W1 w) (hq:W.heap.size<q∧q<W1.heap.size) (hf:W1.heap[W.heap.size]?=some (.cells A 26 (0,0))) (Zb:W1.heap[q]?=some (.cells fz 26 (0,0)))
  (hg:W1.heap.size≤g) (hk:w.heap[g]?=some (.cells #[x0,x1,x2,x3] 26 (0,0))) (hm:PZ (Bt l1 h1) w um ms) (he:P0 (Bt l2 h2) w ue es) (Ee:W1.heap.size≤l1) (yD:W1.heap.size≤l2) (WD:g<l1∨h1≤g) (he1:g<l2∨h2≤g) :
  WJ W ((((w.setCell ⟨g,0,none⟩ (.string ⟨#[]⟩)).setCell ⟨g,1,none⟩ (.slice none 0 0)).setCell ⟨g,2,none⟩ um).setCell ⟨g,3,none⟩ ue) A q g um ue ms es∧Below W1.heap.size W1 ((((w.setCell ⟨g,0,none⟩ (.string ⟨#[]⟩)).setCell ⟨g,1,none⟩ (.slice none 0 0)).setCell ⟨g,2,none⟩ um).setCell ⟨g,3,none⟩ ue):=by
 obtain ⟨a1,a2⟩:=fE hk (.string ⟨#[]⟩) (.slice none 0 0) um ue
 unfold fP at a1 a2
 have lp:=(zA hk).1
 have bH:=hb.grown a2 hb.size (fun k e=>by obtain rfl:=zC e;exact hg)
 have Wh:=dN.size
 refine ⟨⟨dN.trans (bH.mono dN.size),⟨hq.1,by omega,(zA a1).1⟩,(bH.block _ (by omega)).trans hf,(bH.block _ hq.2).trans Zb,a1,hm.goes fun k hp hl=>⟨⟨by have:=hp.1;omega,by have:=hp.1;have:=hp.2;omega⟩,a2.block k hl (fun e=>by have:=zC e;have:=hp.1;have:=hp.2;omega)⟩,he.goes fun k hp hl=>⟨⟨by have:=hp.1;omega,by have:=hp.1;have:=hp.2;omega⟩,a2.block k hl (fun e=>by have:=zC e;have:=hp.1;have:=hp.2;omega)⟩⟩,bH⟩
theorem WJ.up {W w w':World}{A:Array Value}{q g:Nat}{um ue:Value}{ms:List Ms}{es:List En} (h:WJ W w A q g um ue ms es) (hb:Below w.heap.size w w'):WJ W w' A q g um ue ms es:=by
 obtain ⟨o1,o2,o3⟩:=h.ord
 have hs:=hb.size
 have hw:=h.ez.size
 exact ⟨h.ez.trans (hb.mono hw),⟨o1,o2,by omega⟩,(hb.block _ (by omega)).trans h.fb,(hb.block _ (by omega)).trans h.qb,(hb.block _ o3).trans h.gb,h.m.up hb,h.e.up hb⟩
theorem WJ.box {W w:World}{A:Array Value}{q g:Nat}{um ue vs:Value}{ms:List Ms}{es:List En} (h:WJ W w A q g um ue ms es) (hs:EY W.heap.size W vs) :
  ∃cm ce,WI W (w.alloc (.cells #[.slice none 0 0,vs,.int .i64 0,.int .i64 0,.int .i64 0] 56)) A q g w.heap.size none vs [] 0 ⟨#[]⟩ (.slice none 0 0) um ue [] ms es cm ce:=by
 obtain ⟨o1,o2,o3⟩:=h.ord
 have hb:Below w.heap.size w (w.alloc (.cells #[.slice none 0 0,vs,.int .i64 0,.int .i64 0,.int .i64 0] 56)):=(zE _ _).alloc (zD _) _
 have hG:iV (fun k=>q+1≤k∧k≠g) (PP (q+1) g w.heap.size) w (w.alloc (.cells #[.slice none 0 0,vs,.int .i64 0,.int .i64 0,.int .i64 0] 56)):=fun k hp hk=>⟨⟨hp.1,hp.2,hk⟩,hb.block k hk⟩
 obtain ⟨cm,m1,m2⟩:=h.m.goes hG
 obtain ⟨ce,e1,e2⟩:=h.e.goes hG
 have hB:=h.ez.trans (hb.mono h.ez.size)
 refine ⟨cm,ce,hB,⟨o1,o2,o3,by rw[zJ];omega⟩,(hb.block _ (by omega)).trans h.fb,(hb.block _ (by omega)).trans h.qb,(hb.block _ o3).trans h.gb,⟨⟨rfl,.inl ⟨rfl,rfl⟩⟩,fun k e=>by cases e⟩,m1,m2,e1,e2,hs,⟨⟨.slice none 0 0,rfl,aC _ _,yZ _ _⟩,(hs.up hB).JB (by omega),fun x hx=>by cases hx⟩⟩
end Go.Proofs.YtmlphohdcejniaaGreatDoor
namespace Go.Proofs.YtmlphohdcejniaaGreatDoor
open Go.ChangeShapes Go.WideShapes Go.ChangeAt Go.RowKit
def C4 (W:World) (v:Value) (l:List Int):Prop:=∃a c,v=.slice a l.length c∧(l.length≤c∧c≤maxLen∧(a=none→c=0))∧(0<l.length→∃g off,a=some ⟨g,off,none⟩∧g<W.heap.size∧∀i s,l[i]?=some s→W.cell? ⟨g,off+i,none⟩=some (.int .i64 s))
theorem LO (W:World):C4 W (.slice none 0 0) []:=⟨none,0,rfl,⟨zD _,Nat.zero_le _,fun _=>rfl⟩,fun h=>by simp at h⟩
theorem C4.up {W w:World}{v:Value}{l:List Int} (h:C4 W v l) (hb:Below W.heap.size W w):C4 w v l:=by
 obtain ⟨a,c,rfl,hm,h3⟩:=h
 refine ⟨a,c,rfl,hm,fun hp=>?_⟩
 obtain ⟨g,off,rfl,h4,h5⟩:=h3 hp
 exact ⟨g,off,rfl,Nat.lt_of_lt_of_le h4 hb.size,fun i k hk=>(hb.cell (p:=⟨g,off+i,none⟩) h4).trans (h5 i k hk)⟩
theorem ER:Tryz.prog.cellsOf 3=1:=by kernel_rfl
theorem Hj {H:Type}{enc:TypeId×Value→H}{W:World}{base fuel len cap:Nat}{spare:Nat→Bool}{held:Bool}{a:Option Addr}{x:DataW H×List MemPlace}
  (hf:DataW.trod enc Tryz.prog W base spare held fuel 27 (Value.slice a len cap).cells.toList=some x) :
  ∃l,C4 W (.slice a len cap) l∧(∀z ∈ l,-9223372036854775808≤z∧z≤9223372036854775807)∧(l.length=0∨∃e s,x.1=.slice e s∧l.length=e.length):=by
 rcases open_ints Tryz.underlying27 Tryz.underlying3 ER hf with ⟨cn,rfl⟩|⟨y,n,c,zs,cn,_,hl,hm,hz,rfl,dw,hwf⟩
 ·simp[Value.cells] at cn
  obtain ⟨rfl,rfl,rfl⟩:=cn
  exact ⟨[],LO _,fun z hz=>by simp at hz,.inl rfl⟩
 ·simp[Value.cells] at cn
  obtain ⟨rfl,rfl,rfl⟩:=cn
  have hlz:len≤zs.length:=by rw[hz];split<;>omega
  have hlen:(zs.take len).length=len:=by rw[List.length_take];omega
  refine ⟨zs.take len,⟨some y,cap,by rw[hlen],⟨by omega,by omega,nofun⟩,fun hp=>?_⟩,fun z Uw=>?_,.inr ⟨_,_,rfl,by simp[lits]⟩⟩
  ·obtain ⟨b,off,rfl,hc⟩:=ints_at dw (by omega)
   refine ⟨b,off,rfl,World.block_lt_of_cell? W _ (hc 0 (by omega)),fun i k hk=>?_⟩
   rw[List.getElem?_take] at hk
   split at hk
   ·have h1:=hc i (by omega)
    rw[List.getD_eq_getElem?_getD,hk] at h1
    exact h1
   ·cases hk
  ·have:=bounds_i64 (hwf z (List.mem_of_mem_take Uw));omega
end Go.Proofs.YtmlphohdcejniaaGreatDoor

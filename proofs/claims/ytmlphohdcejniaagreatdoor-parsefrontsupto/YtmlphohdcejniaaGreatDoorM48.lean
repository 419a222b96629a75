import Derived.Test.YtmlphohdcejniaaGreatDoorVZ
namespace Go.Proofs.YtmlphohdcejniaaGreatDoor
open Go.RowKit
end Go.Proofs.YtmlphohdcejniaaGreatDoor
namespace Go.Proofs.YtmlphohdcejniaaGreatDoor
open Go.RowKit
def kA (w:World) (b:Nat):World:={ w with heap:=w.heap.extract 0 b }
theorem p9 {w:World}{b k:Nat} (h:k<b) (hb:b≤w.heap.size):(kA w b).heap[k]?=w.heap[k]?:=by
 show (w.heap.extract 0 b)[k]?=_
 rw[Array.getElem?_extract,if_pos (by omega),Nat.zero_add]
theorem iN {w:World}{b:Nat} (h:b≤w.heap.size):(kA w b).heap.size=b:=by
 show (w.heap.extract 0 b).size=b
 rw[Array.size_extract]
 omega
theorem CQ {w:World}{b:Nat} (h:b≤w.heap.size):Below b (kA w b) w:=⟨rfl,rfl,rfl,by rw[iN h];exact h,fun _ hk=>(p9 hk h).symm⟩
theorem sW {W w:World}{b:Nat} (hb:Below W.heap.size W w) (h1:W.heap.size≤b) (h2:b≤w.heap.size):Below W.heap.size W (kA w b):=⟨hb.os,hb.tape,hb.output,by rw[iN h2];exact h1,fun k hk=>(p9 (by omega) h2).trans (hb.block k hk)⟩
theorem K2 {W w:World}{b:Nat} (hM:gY W) (hP:oN W) (hb:Below W.heap.size W w) (h1:W.heap.size≤b) (h2:b≤w.heap.size):WE (kA w b) w b :=
 ⟨hM.up (sW hb h1 h2) hM.1,hP.up (sW hb h1 h2),by rw[iN h2];have:=hM.1;omega,by rw[iN h2];exact CQ h2,by rw[iN h2];exact zD _⟩
theorem KB.PQ {B b:Nat}{w:World}{v:Value} (h:KB B w v) (hB:B≤b):KB b w v:=by
 obtain ⟨a,n,c,rfl,h1,h2⟩:=h
 refine ⟨a,n,c,rfl,h1,fun hp=>?_⟩
 obtain ⟨g,off,rfl,h3,h4⟩:=h2 hp
 exact ⟨g,off,rfl,Nat.lt_of_lt_of_le h3 hB,h4⟩
theorem mV.off {b:Nat}{r row:Option Nat}{vs:Value}{ps:List (Wd×List Nat)}{D:Nat}{w w':World} (h:mV b r vs ps D w) (hg:w.grownBy w' row) (hb:row≠some b) (hr:r=none∨r≠row) (BK:KB b w' vs):mV b r vs ps D w':=by
 have hl:=h.lt
 obtain ⟨v,rfl,hk,ho⟩:=h.dJ
 exact ⟨⟨v,rfl,(hg.block b hl (fun e=>hb e.symm)).trans hk,ho.kept hg hr⟩,BK,h.ok⟩
def PP (B g b k:Nat):Prop:=B≤k∧k≠g∧k<b
def fz:Array Value:=#[.string ⟨#[]⟩,.slice none 0 0,.slice none 0 0,.slice none 0 0]
structure WI (W w:World) (A:Array Value) (q g b:Nat) (r:Option Nat) (vs:Value) (ps:List (Wd×List Nat)) (D:Nat) (pk:ByteArray) (ui um ue:Value) (is:List ByteArray) (ms:List Ms) (es:List En) (cm ce:List Value):Prop where
 eL:Below W.heap.size W w
 ord:W.heap.size<q∧q<g∧g<b∧b<w.heap.size
 fb:w.heap[W.heap.size]?=some (.cells A 26 (0,0))
 qb:w.heap[q]?=some (.cells fz 26 (0,0))
 gb:w.heap[g]?=some (.cells #[.string pk,ui,um,ue] 26 (0,0))
 iw:fm (fun k=>b<k∧r≠some k) w 9 1 ui is.length (bW is)
 m:fm (PP (q+1) g b) w 64 7 um ms.length cm
 hm:cU (PP (q+1) g b) w cm ms
 e:fm (PP (q+1) g b) w 68 4 ue es.length ce
 he:eS (PP (q+1) g b) w ce es
 sp:KB W.heap.size W vs
 wr:mV b r vs ps D w
section
variable {W w : World} {A : Array Value} {q g b : Nat} {r : Option Nat} {vs : Value} {ps : List (Wd × List Nat)} {D : Nat} {pk : ByteArray} {ui um ue : Value} {is : List ByteArray} {ms : List Ms} {es : List En} {cm ce : List Value}
theorem WI.step (h:WI W w A q g b r vs ps D pk ui um ue is ms es cm ce) {w':World}{r':Option Nat}{qZ:List (Wd×List Nat)}{D':Nat}{pk':ByteArray}{ui':Value}{is':List ByteArray} (hb:Below W.heap.size W w') (hs:w.heap.size≤w'.heap.size) (hk:∀k,k<b→k≠g→w'.heap[k]?=w.heap[k]?) (hg:w'.heap[g]?=some (.cells #[.string pk',ui',um,ue] 26 (0,0)))
  (hi:fm (fun k=>b<k∧r'≠some k) w' 9 1 ui' is'.length (bW is')) (hw:mV b r' vs qZ D' w'):WI W w' A q g b r' vs qZ D' pk' ui' um ue is' ms es cm ce:=by
 obtain ⟨o1,o2,o3,o4⟩:=h.ord
 have hG:jx (PP (q+1) g b) (PP (q+1) g b) w w':=fun k hp _=>⟨hp,hk k hp.2.2 hp.2.1⟩
 exact ⟨hb,⟨o1,o2,o3,by omega⟩,(hk _ (by omega) (by omega)).trans h.fb,(hk _ (by omega) (by omega)).trans h.qb,hg,hi,h.m.goes hG,df _ _ _ _ _ _ hG h.hm,h.e.goes hG,cT _ _ _ _ _ _ hG h.he,h.sp,hw⟩
theorem WI.kw (h:WI W w A q g b r vs ps D pk ui um ue is ms es cm ce) {w':World}{r':Option Nat}{qZ:List (Wd×List Nat)}{D':Nat} (hi:mV b r' vs qZ D' w') (hk:KW b r w w' r'):WI W w' A q g b r' vs qZ D' pk ui um ue is ms es cm ce:=by
 obtain ⟨o1,o2,o3,o4⟩:=h.ord
 have hrb:∀k,r=some k→b≤k:=fun k e=>by have:=(h.wr.row k e).1;omega
 have hB:=hk.below hrb (by omega)
 refine h.step (h.eL.trans (hB.mono (by omega))) hk.size (fun k h1 _=>hB.block k h1) ((hB.block g o3).trans h.gb) (h.iw.goes fun k hp hl=>⟨⟨hp.1,?_⟩,hk.block k hl (by have:=hp.1;omega) hp.2⟩) hi
 rcases hk.row with e|⟨j,e,hj⟩
 ·rw[e];exact hp.2
 ·rw[e];intro e2;have:=zC e2;omega
theorem WI.up (h:WI W w A q g b r vs ps D pk ui um ue is ms es cm ce) {w':World} (hb:Below w.heap.size w w'):WI W w' A q g b r vs ps D pk ui um ue is ms es cm ce:=h.kw (h.wr.up hb) (.dX hb)
theorem WI.we (h:WI W w A q g b r vs ps D pk ui um ue is ms es cm ce) (hM:gY W) (hP:oN W):WE (kA w b) w b:=K2 hM hP h.eL (by have:=h.ord;omega) (by have:=h.ord;omega)
theorem WI.wa (h:WI W w A q g b r vs ps D pk ui um ue is ms es cm ce) (hM:gY W) (hP:oN W):WA (kA w b) b r vs ps D w [] 0 0 w:=WA.start h.wr (h.we hM hP)
theorem WI.after (h:WI W w A q g b r vs ps D pk ui um ue is ms es cm ce) {V w':World}{t:List Wd}{n c:Nat} (ha:WA V b r vs ps D w t n c w'):∃r' q',q'.map Prod.fst=t∧q'.length≤n∧WI W w' A q g b r' vs (ps++q') (D+c) pk ui um ue is ms es cm ce:=by
 obtain ⟨r',q',h1,h2,h3,h4⟩:=ha.ex
 exact ⟨r',q',h1,h2,h.kw h3 h4⟩
theorem WI.eI (h:WI W w A q g b r vs ps D pk ui um ue is ms es cm ce) (s:ByteArray):WI W (w.setCell ⟨g,0,none⟩ (.string s)) A q g b r vs ps D s ui um ue is ms es cm ce:=by
 obtain ⟨o1,o2,o3,o4⟩:=h.ord
 obtain ⟨a1,a2⟩:=aJ (j:=0) h.gb (.string s)
 have hB:=h.eL.grown a2 h.eL.size (fun k e=>by have:=zC e;omega)
 refine h.step hB a2.size (fun k _ h2=>a2.block k (by omega) (fun e=>h2 (zC e))) a1 (h.iw.goes fun k hp hl=>⟨hp,a2.block k hl (fun e=>by have:=zC e;have:=hp.1;omega)⟩) (h.wr.off a2 (fun e=>by have:=zC e;omega) ?_ ((h.sp.up hB).PQ (by omega)))
 cases hr:r with
 |none=>exact .inl rfl
 |some k=>exact .inr (fun e=>by have:=(h.wr.row k hr).1;have:=zC e;omega)
theorem WI.imp (h:WI W w A q g b r vs ps D pk ui um ue is ms es cm ce) {w2:World}{u:Value}{s:ByteArray} (hg:w.grownBy w2 ui.ownBlock) (ho:w2.ownsRow 0 9 1 u (is.length+1) (bW is++[.string s])) (pS:u.ownBlock=ui.ownBlock∨u.ownBlock=some w.heap.size) :
  WI W (w2.setCell ⟨g,1,none⟩ u) A q g b r vs ps D pk u um ue (is++[s]) ms es cm ce∧w2.cell? ⟨g,1,none⟩=some ui∧w2.frozen? ⟨g,1,none⟩=false:=by
 obtain ⟨o1,o2,o3,o4⟩:=h.ord
 have hug:ui.ownBlock≠some g:=fun e=>by have:=(h.iw.2 g e).1;omega
 have hub:ui.ownBlock≠some b:=fun e=>by have:=(h.iw.2 b e).1;omega
 have iq:=(hg.block g (by omega) (fun e=>hug e.symm)).trans h.gb
 obtain ⟨a1,a2⟩:=aJ (j:=1) iq u
 have hB:=(h.eL.grown hg h.eL.size (fun k e=>by have:=(h.iw.2 k e).1;omega)).grown a2 (Nat.le_trans h.eL.size hg.size) (fun k e=>by have:=zC e;omega)
 have hru:∀k,u.ownBlock=some k→b<k∧r≠some k:=fun k e=>by
  rcases pS with q1|q1
  ·exact h.iw.2 k (q1.symm.trans e)
  ·rw[q1] at e
   have:=zC e
   exact ⟨by omega,fun e2=>by have:=(h.wr.row k e2).2;omega⟩
 have ez:mV b r vs ps D w2:=h.wr.off hg hub (by
  cases hr:r with
  |none=>exact .inl rfl
  |some k=>exact .inr (fun e=>(h.iw.2 k e.symm).2 hr)) ((h.sp.up (h.eL.grown hg h.eL.size (fun k e=>by have:=(h.iw.2 k e).1;omega))).PQ (by omega))
 refine ⟨h.step hB (Nat.le_trans hg.size a2.size) (fun k h1 h2=>?_) a1 ⟨?_,hru⟩ (ez.off a2 (fun e=>by have:=zC e;omega) ?_ ((h.sp.up hB).PQ (by omega))),cell_of_row _ _ _ _ _ _ iq,by simp[World.frozen?,iq]⟩
 ·rw[a2.block k (by have:=hg.size;omega) (fun e=>h2 (zC e)),hg.block k (by omega) (fun e=>by have:=(h.iw.2 k e.symm).1;omega)]
 ·rw[zK,wO]
  exact ho.kept a2 (.inr (fun e=>by have:=(hru g e).1;omega))
 ·cases hr:r with
  |none=>exact .inl rfl
  |some k=>exact .inr (fun e=>by have:=(h.wr.row k hr).1;have:=zC e;omega)
theorem WI.out (h:WI W w A q g b r vs ps D pk ui um ue is ms es cm ce) {wd w':World} (hs:wd.heap=w.heap) (hg:wd.grownBy w' (some q)) (hb:Below W.heap.size W wd):NF ⟨pk,is,ms,es⟩ (.agg #[.string pk,ui,um,ue]) (fun k=>W.heap.size≤k) w'∧Below W.heap.size W w':=by
 obtain ⟨o1,o2,o3,o4⟩:=h.ord
 have key:∀k,k≠q→k<w.heap.size→w'.heap[k]?=w.heap[k]?:=fun k h1 h2=>by
  rw[hg.block k (by rw[hs];exact h2) (fun e=>h1 (zC e)),hs]
 have hG:jx (PP (q+1) g b) (fun k=>W.heap.size≤k) w w':=fun k hp hl=>⟨by have:=hp.1;omega,key k (by have:=hp.1;omega) hl⟩
 exact ⟨⟨ui,um,ue,cm,ce,rfl,h.iw.goes fun k hp hl=>⟨by have:=hp.1;omega,key k (by have:=hp.1;omega) hl⟩,h.m.goes hG,df _ _ _ _ _ _ hG h.hm,h.e.goes hG,cT _ _ _ _ _ _ hG h.he⟩,hb.grown hg hb.size (fun k e=>by have:=zC e;omega)⟩
theorem WI.rows (h:WI W w A q g b r vs ps D pk ui um ue is ms es cm ce):kl (kA w b) um ms.length cm∧cU (PP (q+1) g b) (kA w b) cm ms∧kl (kA w b) ue es.length ce∧PM (kA w b) ce es:=by
 have hG:jx (PP (q+1) g b) (PP (q+1) g b) w (kA w b):=fun k hp _=>⟨hp,p9 hp.2.2 (by have:=h.ord;omega)⟩
 exact ⟨(h.m.goes hG).rd,df _ _ _ _ _ _ hG h.hm,(h.e.goes hG).rd,(cT _ _ _ _ _ _ hG h.he).rd⟩
theorem WI.vgb (h:WI W w A q g b r vs ps D pk ui um ue is ms es cm ce):∀w',Below (kA w b).heap.size (kA w b) w'→w'.heap[g]?=some (.cells #[.string pk,ui,um,ue] 26 (0,0)):=fun w' hb=>by
 obtain ⟨o1,o2,o3,o4⟩:=h.ord
 rw[hb.block g (by rw[iN (by omega)];exact o3),p9 o3 (by omega)]
 exact h.gb
theorem WI.cells (h:WI W w A q g b r vs ps D pk ui um ue is ms es cm ce):w.cell? ⟨g,0,none⟩=some (.string pk)∧w.cell? ⟨g,1,none⟩=some ui∧w.cell? ⟨g,2,none⟩=some um∧w.cell? ⟨g,3,none⟩=some ue :=
 ⟨cell_of_row _ _ _ _ _ _ h.gb,cell_of_row _ _ _ _ _ _ h.gb,cell_of_row _ _ _ _ _ _ h.gb,cell_of_row _ _ _ _ _ _ h.gb⟩
end
theorem Mz {f:Nat}:∀m,By f m≤ni f m:=by
 induction f with
 |zero=>intro m;exact zD _
 |succ f ih =>
  have hs:∀l:List Ms,bI (By f) l≤bI (ni f) l:=by
   intro l
   induction l with
   |nil=>exact zD _
   |cons x r JU=>have:=ih x;show By f x+bI (By f) r≤ni f x+bI (ni f) r;omega
  have he:∀l:List En,bI pT l≤bI nQ l:=by
   intro l
   induction l with
   |nil=>exact zD _
   |cons x r JU=>show pT x+bI pT r≤nQ x+bI nQ r;have h0:pT x≤nQ x:=(by unfold pT nQ;omega);omega
  intro m
  obtain ⟨nm,fs,os,ms,es,rs,gs⟩:=m
  have h1:=hs ms
  have h2:=he es
  show 1+2*fs.length+(rs.length+gs.length)+bI (By f) ms+bI pT es≤100+100*fs.length+(20*rs.length+10*gs.length)+bI (ni f) ms+bI nQ es
  omega
theorem lQ {α:Type}{f g:α→Nat} (h:∀x,f x≤g x):∀l:List α,bI f l≤bI g l
 |[]=>zD _
 |x::r=>by have:=lQ h r;have:=h x;show f x+bI f r≤g x+bI g r;omega
theorem LZ {W:World}{b:Nat}{r:Option Nat}{vs:Value}{ps:List (Wd×List Nat)}{D:Nat} (h:mV b r vs ps D W) (ws:List Wd) (hw:∀w ∈ ws,KQ w) (hl:ws.length≤4) (hn:ps.length≤1099511627776) (cs:Array Value) (cB:cs=(bW (ws.map Prod.snd)).toArray) (n:Nat) (kK:n=ws.length) :
  Calls Tryz.prog 18 #[.pointer (some ⟨b,0,none⟩),.slice (some ⟨W.heap.size,0,none⟩) n n] (W.alloc (.cells cs 9)) (Wr b r vs ps D W 4 fun t c=>t=ws∧c=0):=by
 subst cB kK
 have hb:Below W.heap.size W (W.alloc (.cells (bW (ws.map Prod.snd)).toArray 9)):=(zE _ _).alloc (zD _) _
 refine (CI (h.up hb) ws hw hl hn (aC _ _) ⟨by have:=h.lt;omega,fun e=>by have:=(h.row _ e).2;omega⟩).mono ?_
 rintro e w ⟨rfl,r',qZ,h1,h2,h3⟩
 refine ⟨rfl,r',qZ,0,⟨h1,rfl⟩,?_,h2,(KW.dX hb).trans h3⟩
 have:=congrArg List.length h1
 rw[List.length_map] at this
 omega
theorem WA.aaE {V:World}{b:Nat}{r0:Option Nat}{vs:Value}{ps:List (Wd×List Nat)}{D:Nat}{W:World}{t:List Wd}{n c:Nat}{w:World} (h:WA V b r0 vs ps D W t n c w) (hn:ps.length+n≤1099511627776) (ws:List Wd) (hw:∀x ∈ ws,KQ x) (hl:ws.length≤4) (cs:Array Value) (cB:cs=(bW (ws.map Prod.snd)).toArray) (k:Nat) (hk:k=ws.length) :
  Calls Tryz.prog 18 #[.pointer (some ⟨b,0,none⟩),.slice (some ⟨w.heap.size,0,none⟩) k k] (w.alloc (.cells cs 9)) fun e w'=>e=.returned (.tuple #[])∧WA V b r0 vs ps D W (t++ws) (n+4) c w':=by
 obtain ⟨⟨r,q,h1,h2,h3,h4⟩,h5⟩:=h
 refine (LZ h3 ws hw hl (by rw[zK];omega) cs cB k hk).mono ?_
 rintro e w' ⟨rfl,r2,p2,c2,⟨e1,rfl⟩,e2,e3,e4⟩
 exact ⟨rfl,la (c2:=0) h1 h2 h3 h4 h5 e1 e2 e3 e4⟩
theorem TE:aR ⟨#[115,121,110,116,97,120]⟩:=by
 refine ⟨?_,by decide,by decide⟩
 kernel_rfl
theorem Um:aR ⟨#[105,109,112,111,114,116]⟩:=by
 refine ⟨?_,by decide,by decide⟩
 kernel_rfl
theorem TO:aR ⟨#[112,97,99,107,97,103,101]⟩:=by
 refine ⟨?_,by decide,by decide⟩
 kernel_rfl
theorem P4:∀w ∈ jW,KQ w:=by
 intro w hw
 simp only[jW,List.mem_cons,List.not_mem_nil,or_false] at hw
 rcases hw with rfl|rfl|rfl|rfl
 ·exact .inl ⟨rfl,TE⟩
 ·exact fV 61 (by decide)
 ·exact .inr (.inr (.inl ⟨rfl,39,_,.inl rfl,wM,rfl⟩))
 ·exact fV 59 (by decide)
theorem Jd:#[Value.string ⟨#[115,121,110,116,97,120]⟩,.string ⟨#[61]⟩,.string ⟨#[39,112,114,111,116,111,51,39]⟩,.string ⟨#[59]⟩]=(bW (jW.map Prod.snd)).toArray:=by kernel_rfl
def S3:Fl:=⟨⟨#[]⟩,[],[],[]⟩
end Go.Proofs.YtmlphohdcejniaaGreatDoor
namespace Go.Proofs.YtmlphohdcejniaaGreatDoor
open Go.RowKit
structure Pd (F:Fl):Prop where
 pk:F.eI.size≤1048576
 il:F.bM.length≤1048576
 bM:∀x ∈ F.bM,x.size≤1048576
 ml:F.ms.length≤1048576
 ms:∀m ∈ F.ms,EB 30 m
 mks:bI (FA 30) F.ms≤104857600
 el:F.es.length≤1048576
 es:∀e ∈ F.es,KH e
 ek:bI IA F.es≤104857600
def Bt (lo hi k:Nat):Prop:=lo≤k∧k<hi
def R6 (P:Nat→Prop) (w:World) (u:Value) (l:List Ms):Prop:=∃cs,fm P w 64 7 u l.length cs∧cU P w cs l
def R7 (P:Nat→Prop) (w:World) (u:Value) (l:List En):Prop:=∃cs,fm P w 68 4 u l.length cs∧eS P w cs l
theorem R6.goes {P P':Nat→Prop}{w w':World}{u:Value}{l:List Ms} (h:R6 P w u l) (hg:jx P P' w w'):R6 P' w' u l:=by
 obtain ⟨cs,h1,h2⟩:=h
 exact ⟨cs,h1.goes hg,df _ _ _ _ _ _ hg h2⟩
theorem R7.goes {P P':Nat→Prop}{w w':World}{u:Value}{l:List En} (h:R7 P w u l) (hg:jx P P' w w'):R7 P' w' u l:=by
 obtain ⟨cs,h1,h2⟩:=h
 exact ⟨cs,h1.goes hg,cT _ _ _ _ _ _ hg h2⟩
theorem R6.up {P:Nat→Prop}{w w':World}{u:Value}{l:List Ms} (h:R6 P w u l) (hb:Below w.heap.size w w'):R6 P w' u l:=h.goes fun k hp hk=>⟨hp,hb.block k hk⟩
theorem R7.up {P:Nat→Prop}{w w':World}{u:Value}{l:List En} (h:R7 P w u l) (hb:Below w.heap.size w w'):R7 P w' u l:=h.goes fun k hp hk=>⟨hp,hb.block k hk⟩
theorem ME {B:Nat}{w:World}{u:Value}{cs:List Value}{l:List Ms} (ho:w.ownsRow B 64 7 u l.length cs) (hm:cU (Rest B u) w cs l):R6 (Bt B w.heap.size) w u l :=
 ⟨cs,(jf ho).goes fun _ hp hk=>⟨⟨hp,hk⟩,rfl⟩,df _ _ _ _ _ _ (fun _ (hp:Rest B u _) hk=>⟨⟨hp.1,hk⟩,rfl⟩) hm⟩
theorem FB {B:Nat}{w:World}{u:Value}{cs:List Value}{l:List En} (ho:w.ownsRow B 68 4 u l.length cs) (hm:eS (Rest B u) w cs l):R7 (Bt B w.heap.size) w u l :=
 ⟨cs,(jf ho).goes fun _ hp hk=>⟨⟨hp,hk⟩,rfl⟩,cT _ _ _ _ _ _ (fun _ (hp:Rest B u _) hk=>⟨⟨hp.1,hk⟩,rfl⟩) hm⟩
theorem nE {P:Program}{fn:Func}{p q r:Tmp}{ty:TypeId} (h:fn.results=#[.cell p ty,.tmp q,.tmp r]) (tmps:Array Value) (w:World) (g:Nat) (t:TypeId) (cs:Array Value) (fr:Nat×Nat) (d:TypeDesc)
  (hp:tmps.getD p undef=.pointer (some ⟨g,0,none⟩)) (hg:w.heap[g]?=some (.cells cs t fr)) (hu:P.underlying ty=some d) (hd:(match d with|.struct _|.array _ _=>true|_=>false)=true) (hi:(P.info? ty).map (·.size)=some cs.size) :
  (results fn tmps).run P w=.ok (.tuple #[.agg cs,tmps.getD q undef,tmps.getD r undef]) w:=by
 have Wu:tmps[p]?.getD undef=.pointer (some ⟨g,0,none⟩):=by simpa using hp
 simp[results,h,Wu,asAddr,run_loadVar_row w g t ty cs fr d hg hu hd hi]
def PE (g b:Nat) (A4:Array Value) (v vs:Value) (n D:Nat) (bs:List Nat) (w:World):Prop:=w.heap[g]?=some (.cells A4 26 (0,0))∧w.heap[b]?=some (.cells (Xn v vs n D) 56 (0,0))∧Bytes (b+1) w v bs
theorem PE.drew {g b:Nat}{A4:Array Value}{v vs:Value}{n D:Nat}{bs:List Nat}{w:World} (h:PE g b A4 v vs n D bs w):PE g b A4 v vs n D bs w.drew:=⟨h.1,h.2.1,cz h.2.2 (below_drewN (zE _ _) 1)⟩
theorem PE.off {g b q:Nat}{A4:Array Value}{v vs:Value}{n D:Nat}{bs:List Nat}{w w':World} (h:PE g b A4 v vs n D bs w) (hg:w.grownBy w' (some q)) (h1:q≠g) (h2:q≠b) (h3:q<b+1):PE g b A4 v vs n D bs w':=by
 obtain ⟨a,c,d⟩:=h
 exact ⟨(hg.block g (zA a).1 (fun e=>h1 (zC e).symm)).trans a,(hg.block b (zA c).1 (fun e=>h2 (zC e).symm)).trans c,World.ownsRow.kept d hg (.inr (fun e=>by have:=(d.lt q e).1;omega))⟩
theorem aQ {w:World}{b n D:Nat}{v vs:Value} (h:w.heap[b]?=some (.cells (Xn v vs n D) 56 (0,0))):w.cell? ⟨b,0,none⟩=some v∧w.cell? ⟨b,3,none⟩=some (.int .i64 (D:Int))∧w.cell? ⟨b,4,none⟩=some (.int .i64 (n:Int)):=⟨cell_of_row _ _ _ _ _ _ h,cell_of_row _ _ _ _ _ _ h,cell_of_row _ _ _ _ _ _ h⟩
structure WJ (W w:World) (A:Array Value) (q g:Nat) (um ue:Value) (ms:List Ms) (es:List En):Prop where
 eL:Below W.heap.size W w
 ord:W.heap.size<q∧q<g∧g<w.heap.size
 fb:w.heap[W.heap.size]?=some (.cells A 26 (0,0))
 qb:w.heap[q]?=some (.cells fz 26 (0,0))
 gb:w.heap[g]?=some (.cells #[.string ⟨#[]⟩,.slice none 0 0,um,ue] 26 (0,0))
 m:R6 (fun k=>q+1≤k∧k≠g) w um ms
 e:R7 (fun k=>q+1≤k∧k≠g) w ue es
theorem E3 {W W1 w:World}{A:Array Value}{q g l1 h1 l2 h2:Nat}{um ue x0 x1 x2 x3:Value}{ms:List Ms}{es:List En} (dZ:Below W.heap.size W W1) (hb:Below W1.heap.size W1 w) (hq:W.heap.size<q∧q<W1.heap.size) (hf:W1.heap[W.heap.size]?=some (.cells A 26 (0,0))) (hqb:W1.heap[q]?=some (.cells fz 26 (0,0)))
  (hg:W1.heap.size≤g) (hk:w.heap[g]?=some (.cells #[x0,x1,x2,x3] 26 (0,0))) (hm:R6 (Bt l1 h1) w um ms) (he:R7 (Bt l2 h2) w ue es) (DS:W1.heap.size≤l1) (yL:W1.heap.size≤l2) (SO:g<l1∨h1≤g) (he1:g<l2∨h2≤g) :
  WJ W ((((w.setCell ⟨g,0,none⟩ (.string ⟨#[]⟩)).setCell ⟨g,1,none⟩ (.slice none 0 0)).setCell ⟨g,2,none⟩ um).setCell ⟨g,3,none⟩ ue) A q g um ue ms es∧Below W1.heap.size W1 ((((w.setCell ⟨g,0,none⟩ (.string ⟨#[]⟩)).setCell ⟨g,1,none⟩ (.slice none 0 0)).setCell ⟨g,2,none⟩ um).setCell ⟨g,3,none⟩ ue):=by
 obtain ⟨a1,a2⟩:=fW hk (.string ⟨#[]⟩) (.slice none 0 0) um ue
 unfold gp at a1 a2
 have me:=(zA hk).1
 have bJ:=hb.grown a2 hb.size (fun k e=>by obtain rfl:=zC e;exact hg)
 have Ym:=dZ.size
 refine ⟨⟨dZ.trans (bJ.mono dZ.size),⟨hq.1,by omega,(zA a1).1⟩,(bJ.block _ (by omega)).trans hf,(bJ.block _ hq.2).trans hqb,a1,hm.goes fun k hp hl=>⟨⟨by have:=hp.1;omega,by have:=hp.1;have:=hp.2;omega⟩,a2.block k hl (fun e=>by have:=zC e;have:=hp.1;have:=hp.2;omega)⟩,he.goes fun k hp hl=>⟨⟨by have:=hp.1;omega,by have:=hp.1;have:=hp.2;omega⟩,a2.block k hl (fun e=>by have:=zC e;have:=hp.1;have:=hp.2;omega)⟩⟩,bJ⟩
theorem WJ.up {W w w':World}{A:Array Value}{q g:Nat}{um ue:Value}{ms:List Ms}{es:List En} (h:WJ W w A q g um ue ms es) (hb:Below w.heap.size w w'):WJ W w' A q g um ue ms es:=by
 obtain ⟨o1,o2,o3⟩:=h.ord
 have hs:=hb.size
 have hw:=h.eL.size
 exact ⟨h.eL.trans (hb.mono hw),⟨o1,o2,by omega⟩,(hb.block _ (by omega)).trans h.fb,(hb.block _ (by omega)).trans h.qb,(hb.block _ o3).trans h.gb,h.m.up hb,h.e.up hb⟩
theorem WJ.box {W w:World}{A:Array Value}{q g:Nat}{um ue vs:Value}{ms:List Ms}{es:List En} (h:WJ W w A q g um ue ms es) (hs:KB W.heap.size W vs) :
  ∃cm ce,WI W (w.alloc (.cells #[.slice none 0 0,vs,.int .i64 0,.int .i64 0,.int .i64 0] 56)) A q g w.heap.size none vs [] 0 ⟨#[]⟩ (.slice none 0 0) um ue [] ms es cm ce:=by
 obtain ⟨o1,o2,o3⟩:=h.ord
 have hb:Below w.heap.size w (w.alloc (.cells #[.slice none 0 0,vs,.int .i64 0,.int .i64 0,.int .i64 0] 56)):=(zE _ _).alloc (zD _) _
 have hG:jx (fun k=>q+1≤k∧k≠g) (PP (q+1) g w.heap.size) w (w.alloc (.cells #[.slice none 0 0,vs,.int .i64 0,.int .i64 0,.int .i64 0] 56)):=fun k hp hk=>⟨⟨hp.1,hp.2,hk⟩,hb.block k hk⟩
 obtain ⟨cm,m1,m2⟩:=h.m.goes hG
 obtain ⟨ce,e1,e2⟩:=h.e.goes hG
 have hB:=h.eL.trans (hb.mono h.eL.size)
 refine ⟨cm,ce,hB,⟨o1,o2,o3,by rw[zJ];omega⟩,(hb.block _ (by omega)).trans h.fb,(hb.block _ (by omega)).trans h.qb,(hb.block _ o3).trans h.gb,⟨⟨rfl,.inl ⟨rfl,rfl⟩⟩,fun k e=>by cases e⟩,m1,m2,e1,e2,hs,⟨⟨.slice none 0 0,rfl,aC _ _,AT _ _⟩,(hs.up hB).PQ (by omega),fun x hx=>by cases hx⟩⟩
end Go.Proofs.YtmlphohdcejniaaGreatDoor

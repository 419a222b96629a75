import Derived.Test.YtichhjfjcinjgaaGreatDoorM24
import Derived.Laws.Rows
set_option maxHeartbeats 2000000
set_option maxRecDepth 100000
namespace Go.Proofs.YtichhjfjcinjgaaGreatDoor
open Go.RowKit
theorem nH {n:Nat}{x y:Int} (h:j8 n x=some y):y=x-n∧0≤y:=by
 unfold j8 at h
 split at h
 ·obtain rfl:=zC h;exact ⟨rfl,by assumption⟩
 ·cases h
theorem BK:∀(l:List Fd) (h b r:Int),wh l h b=some r→(h=0∨(1≤h∧h≤b))→0≤b→∀d ∈ l,d.aE≠0→1≤d.aE∧d.aE≤r
 |[],_,_,_,_,_,_,d,hd,_=>by simp at hd
 |c::l,h,b,r,e,hh,hb,d,hd,Ib=>by
  unfold wh at e
  split at e
  ·rename_i hc
   split at e
   ·cases e
   ·rename_i nR
    have Wh:c.aE=b+1:=by simpa using nR
    have hle:=xx l _ _ _ e
    rcases List.mem_cons.1 hd with rfl|hm
    ·omega
    ·exact BK l _ _ _ e (.inr (by omega)) (by omega) d hm Ib
  ·rename_i hc
   have hle:=xx l _ _ _ e
   rcases List.mem_cons.1 hd with rfl|hm
   ·by_cases hz:d.aE=h
    ·rcases hh with h0|h0<;>omega
    ·exact absurd ⟨Ib,hz⟩ hc
   ·refine BK l _ _ _ e ?_ hb d hm Ib
    by_cases hz:c.aE=0
    ·exact .inl hz
    ·by_cases c7:c.aE=h
     ·rcases hh with h0|h0
      ·omega
      ·exact .inr (by omega)
     ·exact absurd ⟨hz,c7⟩ hc
theorem M3 {l:List Fd}{n:Nat} (h:A3 l n=true):∀d ∈ l,d.aE≠0→1≤d.aE∧d.aE≤n:=by
 unfold A3 at h
 split at h
 ·cases h
 ·rename_i b hb
  have:b=(n:Int):=by simpa using h
  subst this
  exact BK l 0 0 _ hb (.inl rfl) (Int.le_refl _)
theorem ET (l:List Fd):∀i,i≤l.length→(ck (l.take i)).flatten=l.take i:=by
 intro i
 induction i with
 |zero=>intro _;simp[ck]
 |succ i ih =>
  intro h
  have hi:i<l.length:=by omega
  have h2:=ih (by omega)
  rw[gZ (List.getElem?_eq_getElem hi),bL (List.getElem?_eq_getElem hi)]
  obtain ⟨gs,NL⟩:∃gs,ck (l.take i)=gs:=⟨_,rfl⟩
  rw[NL] at h2 ⊢
  unfold mN
  split
  ·rename_i hc
   unfold lL at hc
   have iI:gs≠[]:=by rintro rfl;simp at hc
   obtain ⟨G,r,rfl⟩:∃r G,gs=r++[G]:=⟨_,_,(List.dropLast_concat_getLast iI).symm⟩
   rw[←h2]
   simp
  ·rw[List.flatten_append,h2]
   simp
theorem Cq (l:List Fd):(ck l).flatten=l:=by
 have:=ET l l.length (zD _)
 rwa [List.take_length] at this
theorem DC (l:List Fd):∀G ∈ ck l,G≠[]∧∀d ∈ G,d ∈ l:=by
 have:=Av l l.length (zD _)
 rwa [List.take_length] at this
theorem Io {n:Nat} (hn:n≤99) {os:List ByteArray} (ho:∀s ∈ os,s.size≤255) {G:List Fd} (hG:G≠[]) (hf:∀d ∈ G,cK d=true):(dF n os G).length≤4000*G.length:=by
 unfold dF
 split
 ·exact absurd rfl hG
 ·rename_i d r
  have h1:1≤(d::r).length:=by simp
  have q0:=oP (g:=bS n) (k:=2000) (d::r) (fun x hx=>uA (by omega) (hf x hx))
  have q1:=oP (g:=bS (n+1)) (k:=2000) (d::r) (fun x hx=>uA (by omega) (hf x hx))
  split
  ·have hb:(os.getD (d.aE.toNat-1) ⟨#[]⟩).size≤255:=by
    rw[List.getD_eq_getElem?_getD]
    cases e:os[d.aE.toNat-1]? with
    |none=>exact Nat.zero_le _
    |some s=>exact ho s (List.mem_of_getElem? e)
   have:=oZ (n:=n) (by omega) (a:=gW) (by decide) hb ((d::r).flatMap (bS (n+1)))
   omega
  ·omega
theorem wH {n:Nat} (hn:n≤99) {os:List ByteArray} (ho:∀s ∈ os,s.size≤255):∀(gs:List (List Fd)),(∀G ∈ gs,G≠[]∧∀d ∈ G,cK d=true)→(gs.flatMap (dF n os)).length≤4000*gs.flatten.length
 |[],_=>by simp
 |G::r,h=>by
  have ih:=wH hn ho r (fun K hK=>h K (zF _ hK))
  have h1:=Io hn ho (h G (List.mem_cons_self ..)).1 (h G (List.mem_cons_self ..)).2
  rw[List.flatMap_cons,zK,List.flatten_cons,zK,Nat.mul_add]
  omega
theorem kP {α:Type}{q:α→Int→Option Int}{g:α→List Nat}{P:α→Prop}:∀(l:List α),(∀a ∈ l,∀x y,x≤4096→q a x=some y→P a∧(0≤x→0≤y)∧y≤x∧((g a).length:Int)≤2000+4000*(x-y))→∀x y,x≤4096→jV q l x=some y→(∀a ∈ l,P a)∧(0≤x→0≤y)∧y≤x∧((l.flatMap g).length:Int)≤2000*l.length+4000*(x-y)
 |[],_,x,y,_,e=>by
  obtain rfl:=zC e
  refine ⟨fun a ha=>by simp at ha,id,Int.le_refl _,by simp⟩
 |a::r,h,x,y,hx,e=>by
  unfold jV at e
  cases hq:q a x with
  |none=>rw[hq] at e;cases e
  |some z =>
   rw[hq] at e
   obtain ⟨p1,p2,p3,p4⟩:=h a (List.mem_cons_self ..) x z hx hq
   obtain ⟨r1,r2,r3,r4⟩:=kP r (fun b hb=>h b (zF _ hb)) z y (by omega) e
   refine ⟨fun b hb=>?_,fun h0=>r2 (p2 h0),by omega,?_⟩
   ·rcases List.mem_cons.1 hb with rfl|hb
    ·exact p1
    ·exact r1 b hb
   ·rw[List.flatMap_cons,zK,List.length_cons]
    push_cast
    omega
theorem AF {n:Nat} (hn:n≤99) (e:En) (x y:Int) (hx:x≤4096) (h:iC e x=some y):(I7 e∧bc e=true)∧(0≤x→0≤y)∧y≤x∧((jB n e).length:Int)≤2000+4000*(x-y):=by
 unfold iC at h
 split at h
 ·cases h
 ·rename_i x1 hl
  obtain ⟨rfl,h0⟩:=nH hl
  split at h
  ·rename_i nL
   obtain rfl:=zC h
   obtain ⟨k1,k2,k3⟩:=Iz (n:=n+1) (by omega) nL ⟨by omega,by omega⟩
   have k4:=oZ (n:=n) (by omega) (a:=kz) (by decide) k2 (fX (n+1) e)
   refine ⟨⟨k1,nL⟩,fun _=>h0,by omega,?_⟩
   unfold jB
   omega
  ·cases h
def OC:Nat→Ms→Prop
 |0,_=>False
 |f+1,.mk nm fs os ms es rs gs=>tL nm fs os rs gs=true∧(∀m ∈ ms,OC f m)∧∀e ∈ es,bc e=true
theorem Dj:∀(f n:Nat),n+f≤90→∀(m:Ms) (x y:Int),x≤4096→nG f m x=some y→(JH f m∧OC f m∧m.nm.size≤255)∧(0≤x→0≤y)∧y≤x∧((cj f n m).length:Int)≤4000*(x-y)
 |0,_,_,_,_,_,_,e=>by cases e
 |f+1,n,hn,.mk nm fs os ms es rs gs,x,y,hx,e=>by
  unfold nG at e
  split at e
  ·cases e
  ·rename_i x1 hl
   obtain ⟨rfl,h0⟩:=nH hl
   split at e
   ·rename_i nL
    have VV:=nL
    unfold tL at nL
    simp only[Bool.and_eq_true] at nL
    obtain ⟨⟨⟨⟨⟨h1,h2⟩,h3⟩,h4⟩,h5⟩,h6⟩:=nL
    have RL:∀d ∈ fs,cK d=true:=fun d hd=>List.all_eq_true.1 h3 d hd
    have hos:∀s ∈ os,s.size≤255:=fun s hs=>dE (List.all_eq_true.1 h2 s hs)
    have NL:∀s ∈ gs,s.size≤255:=fun s hs=>dE (List.all_eq_true.1 h6 s hs)
    have YU:=Gp (by decide) (by decide) h5
    split at e
    ·cases e
    ·rename_i x2 hm
     obtain ⟨m1,m2,m3,m4⟩:=kP (P:=fun m=>JH f m∧OC f m) (g:=fun m=>cn n aL m.nm (cj f (n+1) m)) ms (fun m _ u v hu hv=>by
      obtain ⟨⟨p1,p2,p3⟩,p4,p5,p6⟩:=Dj f (n+1) (by omega) m u v hu hv
      have:=oZ (n:=n) (by omega) (a:=aL) (by decide) p3 (cj f (n+1) m)
      exact ⟨⟨p1,p2⟩,p4,p5,by omega⟩) _ _ (by omega) hm
     obtain ⟨e1,e2,e3,e4⟩:=kP (P:=fun e=>I7 e∧bc e=true) (g:=jB n) es (fun d _ u v hu hv=>AF (by omega) d u v hu hv) _ _ (by omega) e
     have g1:=wH (n:=n) (by omega) hos (ck fs) (fun G hG=>⟨(DC fs G hG).1,fun d hd=>RL d ((DC fs G hG).2 d hd)⟩)
     rw[Cq] at g1
     have r1:=zc (n:=n) (by omega) (most:=536870911) YU NL
     refine ⟨⟨⟨⟨by omega,by omega,by omega⟩,fun d hd=>⟨(uz (RL d hd)).1,M3 h4 d hd⟩,YU,fun s hs=>by have:=NL s hs;omega,fun m hm=>(m1 m hm).1,fun d hd=>(e1 d hd).1⟩,⟨VV,fun m hm=>(m1 m hm).2,fun d hd=>(e1 d hd).2⟩,dE h1⟩,fun _=>e2 (m2 h0),by omega,?_⟩
     unfold cj
     simp only[zK]
     push_cast
     omega
   ·cases e
structure RtF (F:Fl):Prop where
 pk:F.jL.toList.isEmpty=true∨dx F.jL=true
 im:∀s ∈ F.cV,dr s=true
 ms:∀m ∈ F.ms,OC 32 m
 es:∀e ∈ F.es,bc e=true
theorem wM {F:Fl} (h:(lD F).isSome=true):RtF F∧F.cV.length≤4096∧(∀s ∈ F.cV,s.size≤1048576)∧(∀m ∈ F.ms,JH 32 m)∧(∀e ∈ F.es,I7 e)∧(fB F).length≤1099511627776:=by
 obtain ⟨y,hy⟩:=zG h
 unfold lD at hy
 split at hy
 ·rename_i mL
  simp only[Bool.or_eq_true] at mL
  split at hy
  ·cases hy
  ·rename_i x1 hl
   obtain ⟨rfl,h0⟩:=nH hl
   split at hy
   ·rename_i him
    split at hy
    ·cases hy
    ·rename_i x2 hm
     obtain ⟨m1,m2,m3,m4⟩:=kP (P:=fun m=>JH 32 m∧OC 32 m) (g:=fun m=>cn 0 aL m.nm (cj 32 (0+1) m)) F.ms (fun m _ u v hu hv=>by
      obtain ⟨⟨p1,p2,p3⟩,p4,p5,p6⟩:=Dj 32 (0+1) (by omega) m u v hu hv
      have:=oZ (n:=0) (by omega) (a:=aL) (by decide) p3 (cj 32 (0+1) m)
      exact ⟨⟨p1,p2⟩,p4,p5,by omega⟩) _ _ (by omega) hm
     obtain ⟨e1,e2,e3,e4⟩:=kP (P:=fun e=>I7 e∧bc e=true) (g:=jB 0) F.es (fun d _ u v hu hv=>AF (by omega) d u v hu hv) _ _ (by omega) hy
     have RG:∀s ∈ F.cV,dr s=true:=fun s hs=>List.all_eq_true.1 him s hs
     have Zq:∀s ∈ F.cV,s.size≤255:=fun s hs=>by
      have:=RG s hs
      unfold dr at this
      simp only[Bool.and_eq_true,decide_eq_true_eq] at this
      omega
     have i1:=oP (g:=ew) (k:=2000) F.cV (fun s hs=>by
      unfold ew
      rw[eR]
      simp only[List.map_cons,List.map_nil,List.sum_cons,List.sum_nil]
      have e1:kY.size=7:=rfl
      have e2:bC.size=1:=rfl
      have:=qq (Zq s hs)
      omega)
     have p1:(lH F.jL).length≤2000:=by
      unfold lH
      split
      ·simp
      ·rename_i iI
       have:=BN (mL.resolve_left iI)
       rw[eR]
       simp only[List.map_cons,List.map_nil,List.sum_cons,List.sum_nil]
       have e1:kv.size=8:=rfl
       have e2:bC.size=1:=rfl
       omega
     have s1:(aV 0 [jf]).length=19:=rfl
     refine ⟨⟨mL,RG,fun m hm=>(m1 m hm).2,fun d hd=>(e1 d hd).2⟩,by omega,fun s hs=>by have:=Zq s hs;omega,fun m hm=>(m1 m hm).1,fun d hd=>(e1 d hd).1,?_⟩
     have n2:=m2 h0
     have n3:=e2 n2
     unfold fB pF
     simp only[zK]
     omega
   ·cases hy
 ·cases hy
theorem gG {α:Type}{g:α→List Nat}{l:List α} (h:∀a ∈ l,mO (g a)):mO (l.flatMap g):=fun x hx=>by
 obtain ⟨a,ha,hxa⟩:=List.mem_flatMap.1 hx
 exact h a ha x hxa
theorem zj (n:Nat) (ts:List ByteArray):mO (eC n ts):=by
 unfold eC
 split
 ·exact fu _ _
 ·exact fun x hx=>by simp at hx
theorem zd (n:Nat) (m:Int) (rs:List (Int×Int)) (gs:List ByteArray):mO (fa n m rs gs):=(zj _ _).append (zj _ _)
theorem o3 {n:Nat}{a b:ByteArray}{I:List Nat} (h:mO I):mO (cn n a b I):=((fu _ _).append h).append (fu _ _)
theorem DJ (n:Nat) (e:En):mO (jB n e):=o3 ((zd _ _ _ _).append (gG fun _ _=>fu _ _))
theorem Ip (n:Nat) (os:List ByteArray) (G:List Fd):mO (dF n os G):=by
 unfold dF
 split
 ·exact fun x hx=>by simp at hx
 ·split
  ·exact o3 (gG fun _ _=>fu _ _)
  ·exact gG fun _ _=>fu _ _
theorem zX:∀(f n:Nat) (m:Ms),mO (cj f n m)
 |0,_,_=>fun x hx=>by unfold cj at hx;simp at hx
 |f+1,n,.mk nm fs os ms es rs gs=>by
  unfold cj
  exact ((zd _ _ _ _).append (gG fun _ _=>Ip _ _ _)).append ((gG fun m _=>o3 (zX f (n+1) m)).append (gG fun _ _=>DJ _ _))
theorem wN (F:Fl):mO (fB F):=by
 unfold fB pF
 refine (((fu _ _).append ?_).append (gG fun _ _=>fu _ _)).append ((gG fun m _=>o3 (zX _ _ m)).append (gG fun _ _=>DJ _ _))
 unfold lH
 split
 ·exact fun x hx=>by simp at hx
 ·exact fu _ _
end Go.Proofs.YtichhjfjcinjgaaGreatDoor
namespace Go.Proofs.YtichhjfjcinjgaaGreatDoor
open Go.RowKit
attribute [local go_sem ↓] Go.wp_at_zero Go.wp_at_succ
def written:Array Value→Nat→List Value→Array Value
 |cs,_,[]=>cs
 |cs,o,v::vs=>written (cs.setIfInBounds o v) (o+1) vs
theorem kj {t:TypeId}{g:Nat}:∀(vs:List Value) (o:Nat) (w:World) (cs:Array Value),w.heap[g]?=some (.cells cs t (0,0))→(w.setCells g o vs).heap[g]?=some (.cells (written cs o vs) t (0,0))∧(∀b,b≠g→(w.setCells g o vs).heap[b]?=w.heap[b]?)
 |[],_,_,_,h=>⟨h,fun _ _=>rfl⟩
 |v::vs,o,w,cs,h=>by
  obtain ⟨h1,h2⟩:=kj vs (o+1) (w.setCell ⟨g,o,none⟩ v) (cs.setIfInBounds o v) (heap_setCell_same w g o cs t v h)
  exact ⟨h1,fun b hb=>(h2 b hb).trans (heap_setCell_other w _ b v hb)⟩
theorem jU {n g:Nat}{A:World} (hg:n≤g):∀(vs:List Value) (o:Nat) (w:World),Below n A w→Below n A (w.setCells g o vs)
 |[],_,_,h=>h
 |v::vs,o,_,h=>jU hg vs (o+1) _ (h.setCell (p:=⟨g,o,none⟩) hg v)
theorem mR {g:Nat}:∀(vs:List Value) (o:Nat) (w:World),(w.setCells g o vs).heap.size=w.heap.size
 |[],_,_=>rfl
 |_::vs,o,w=>(mR vs (o+1) _).trans (World.size_setCell w _ _)
def bR:List Value:=[.func (.func 136) #[] #[],.func (.func 138) #[] #[],.func (.func 139) #[] #[],.func (.func 142) #[] #[],.func (.func 144) #[] #[],.func (.func 146) #[] #[],.func (.func 147) #[] #[]]
theorem Tryz.pG:(Tryz.prog.info? 137).map (·.size)=some bR.toArray.size:=by kernel_rfl
theorem C4:bR.toArray.all (·.oneCell')=true:=by decide +kernel
def Bn:Nat→Nat
 |0=>136|1=>138|2=>139|3=>142|4=>144|5=>146|_=>147
theorem D8:∀c,c<7→bR[c]?=some (.func (.func (Bn c)) #[] #[])
 |0,_=>rfl|1,_=>rfl|2,_=>rfl|3,_=>rfl|4,_=>rfl|5,_=>rfl|6,_=>rfl
 |_+7,h=>by omega
theorem F6 (W:World):(W.alloc (.cells #[.nilFunc,.nilFunc,.nilFunc,.nilFunc,.nilFunc,.nilFunc,.nilFunc] 137)).there W.heap.size 0 bR.toArray.size:=by
 intro j hj
 have hb:=heap_alloc_new W (.cells #[.nilFunc,.nilFunc,.nilFunc,.nilFunc,.nilFunc,.nilFunc,.nilFunc] 137)
 refine ⟨?_,frozen_of_row _ _ _ _ _ hb⟩
 rw[Nat.zero_add,cell_of_row _ _ _ _ _ _ hb]
 have xS:j<7:=hj
 simp
 omega
theorem Ea (W:World):Calls Tryz.prog 94 #[] W fun e W'=>e=.returned (.agg bR.toArray)∧Below W.heap.size W W':=by
 have Rb:=F6 W
 go_enter Tryz.func94,Tryz.ntmps94
 go_wp2_with (refine wpList_store_mid rfl 137 (.tmp 0) (.tmp 1) rfl W.heap.size 0 bR.toArray rfl rfl Rb Tryz.pG C4 ?_)
 obtain ⟨cG,bM⟩:=kj (t:=137) (g:=W.heap.size) bR 0 (W.alloc (.cells #[.nilFunc,.nilFunc,.nilFunc,.nilFunc,.nilFunc,.nilFunc,.nilFunc] 137)) #[.nilFunc,.nilFunc,.nilFunc,.nilFunc,.nilFunc,.nilFunc,.nilFunc] (heap_alloc_new W _)
 have c8:written #[.nilFunc,.nilFunc,.nilFunc,.nilFunc,.nilFunc,.nilFunc,.nilFunc] 0 bR=bR.toArray:=by rfl
 rw[c8] at cG
 have hB:Below W.heap.size W ((W.alloc (.cells #[.nilFunc,.nilFunc,.nilFunc,.nilFunc,.nilFunc,.nilFunc,.nilFunc] 137)).setCells W.heap.size 0 bR):=jU (zD _) _ _ _ ((zE _ W).alloc (zD _) _)
 refine bodyPost_ret (v:=.agg bR.toArray) (results_cell_row rfl _ _ W.heap.size 137 bR.toArray (0,0) _ rfl cG Tryz.underlying137 rfl Tryz.pG) rfl ⟨rfl,hB⟩
def LC (W:World) (tb:Nat):Prop:=W.heap[tb]?=some (.cells bR.toArray 137 (0,0))
theorem LC.cell {W:World}{tb:Nat} (h:LC W tb) (c:Nat) (hc:c<7):W.cell? ⟨tb,c,none⟩=some (.func (.func (Bn c)) #[] #[]):=by
 rw[cell_of_row _ _ _ _ _ _ h,←D8 c hc]
 simp
theorem Ig (W:World):LC ((W.alloc (.cells #[.nilFunc,.nilFunc,.nilFunc,.nilFunc,.nilFunc,.nilFunc,.nilFunc] 137)).setCells W.heap.size 0 bR) W.heap.size:=by
 have:=(kj (t:=137) (g:=W.heap.size) bR 0 _ _ (heap_alloc_new W (.cells #[.nilFunc,.nilFunc,.nilFunc,.nilFunc,.nilFunc,.nilFunc,.nilFunc] 137))).1
 rw[show written #[.nilFunc,.nilFunc,.nilFunc,.nilFunc,.nilFunc,.nilFunc,.nilFunc] 0 bR=bR.toArray from rfl] at this
 exact this
structure Z7 (A:Array Value):Prop where
 eq:A=bR.toArray
 info:(Tryz.prog.info? 137).map (·.size)=some A.size
 one:A.all (·.oneCell')=true
theorem J4:Z7 bR.toArray:=⟨rfl,Tryz.pG,C4⟩
theorem Oi (c:Nat):cls c<7:=by
 unfold cls
 repeat' split
 all_goals decide
theorem fj {f:FuncId}{F:Func} (h:Tryz.prog.funcs[f]?=some F) (hn:¬F.name = "runtime.NumGoroutine") (hb:F.body.isSome=true) (w:World) (vs:Array Value):(callFunc f vs).run Tryz.prog w=.ok (.enter f vs) w:=by
 obtain ⟨c,hc⟩:=zG hb
 simp[callFunc,h,hn,hc]
theorem E9 (w:World) (vs:Array Value):∀c,c<7→(callFunc (Bn c) vs).run Tryz.prog w=.ok (.enter (Bn c) vs) w
 |0,_=>by exact fj Tryz.func136 (by decide +kernel) (by kernel_rfl) w vs
 |1,_=>by exact fj Tryz.func138 (by decide +kernel) (by kernel_rfl) w vs
 |2,_=>by exact fj Tryz.func139 (by decide +kernel) (by kernel_rfl) w vs
 |3,_=>by exact fj Tryz.func142 (by decide +kernel) (by kernel_rfl) w vs
 |4,_=>by exact fj Tryz.func144 (by decide +kernel) (by kernel_rfl) w vs
 |5,_=>by exact fj Tryz.func146 (by decide +kernel) (by kernel_rfl) w vs
 |6,_=>by exact fj Tryz.func147 (by decide +kernel) (by kernel_rfl) w vs
 |_+7,h=>by omega
theorem Fa (w:World) (vs:Array Value):(callFunc 95 vs).run Tryz.prog w=.ok (.enter 95 vs) w:=by exact fj Tryz.func95 (by decide +kernel) (by kernel_rfl) w vs
theorem Ec {W:World}{B b:Nat}{s:ByteArray}{k n:Nat}{v:Value}{xs:List Value} (hE:jW W) (hM:ia W) (I:eT W B b s k n v xs) :
  Calls Tryz.prog (Bn (cls (aC s k))) #[.pointer (some ⟨b,0,none⟩)] W (ga B b s k n xs W):=by
 have hm:=I.more
 have mM:cq s k=cq s k:=rfl
 conv at mM=>rhs;unfold cq
 rcases E5 (aC s k) with ⟨e,h1⟩|⟨n1,⟨e,h2⟩|⟨n2,⟨e,h3⟩|⟨n3,⟨e,h4⟩|⟨n4,⟨e,h5⟩|⟨n5,⟨e,h6⟩|⟨e,n6⟩⟩⟩⟩⟩⟩
 ·rw[e]
  exact y7 I h1
 ·rw[e]
  rw[if_pos h2] at mM
  exact xh I (jM hm n1 (fun q=>by rw[q] at h2;exact absurd h2 (by decide))) mM
 ·rw[e]
  rw[if_neg n2,if_pos h3] at mM
  exact yZ hE I (jM hm n1 (fun q=>by rw[q] at h3;exact absurd h3 (by decide))) mM
 ·rw[e]
  rw[if_neg n2,if_neg n3,if_pos h4] at mM
  exact yY hE I (jM hm n1 (fun q=>by omega)) h4 mM
 ·rw[e]
  rw[if_neg n2,if_neg n3,if_neg n4,if_pos h5] at mM
  exact Bp I (jM hm n1 (fun q=>by rw[q] at h5;exact absurd h5 (by decide))) mM
 ·rw[e]
  rw[if_neg n2,if_neg n3,if_neg n4,if_neg n5] at mM
  exact vt hM I h6 (by rw[mM])
 ·rw[e]
  rw[if_neg n2,if_neg n3,if_neg n4,if_neg n5] at mM
  exact Bq I (jM hm n1 n6) (by rw[mM])
end Go.Proofs.YtichhjfjcinjgaaGreatDoor

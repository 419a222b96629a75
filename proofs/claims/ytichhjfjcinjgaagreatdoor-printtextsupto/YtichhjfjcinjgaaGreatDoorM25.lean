import Derived.Test.YtichhjfjcinjgaaGreatDoorM24
import Derived.Laws.Rows
set_option maxHeartbeats 2000000
set_option maxRecDepth 100000
namespace Go.Proofs.YtichhjfjcinjgaaGreatDoor
open Go.RowKit
theorem nF {n:Nat}{x y:Int} (h:j4 n x=some y):y=x-n∧0≤y:=by
 unfold j4 at h
 split at h
 ·obtain rfl:=zC h;exact ⟨rfl,by assumption⟩
 ·cases h
theorem BE:∀(l:List Fd) (h b r:Int),vX l h b=some r→(h=0∨(1≤h∧h≤b))→0≤b→∀d ∈ l,d.aE≠0→1≤d.aE∧d.aE≤r
 |[],_,_,_,_,_,_,d,hd,_=>by simp at hd
 |c::l,h,b,r,e,hh,hb,d,hd,G7=>by
  unfold vX at e
  split at e
  ·rename_i hc
   split at e
   ·cases e
   ·rename_i nP
    have Wd:c.aE=b+1:=by simpa using nP
    have hle:=xv l _ _ _ e
    rcases List.mem_cons.1 hd with rfl|hm
    ·omega
    ·exact BE l _ _ _ e (.inr (by omega)) (by omega) d hm G7
  ·rename_i hc
   have hle:=xv l _ _ _ e
   rcases List.mem_cons.1 hd with rfl|hm
   ·by_cases hz:d.aE=h
    ·rcases hh with h0|h0<;>omega
    ·exact absurd ⟨G7,hz⟩ hc
   ·refine BE l _ _ _ e ?_ hb d hm G7
    by_cases hz:c.aE=0
    ·exact .inl hz
    ·by_cases dY:c.aE=h
     ·rcases hh with h0|h0
      ·omega
      ·exact .inr (by omega)
     ·exact absurd ⟨hz,dY⟩ hc
theorem MP {l:List Fd}{n:Nat} (h:AV l n=true):∀d ∈ l,d.aE≠0→1≤d.aE∧d.aE≤n:=by
 unfold AV at h
 split at h
 ·cases h
 ·rename_i b hb
  have:b=(n:Int):=by simpa using h
  subst this
  exact BE l 0 0 _ hb (.inl rfl) (Int.le_refl _)
theorem EI (l:List Fd):∀i,i≤l.length→(cj (l.take i)).flatten=l.take i:=by
 intro i
 induction i with
 |zero=>intro _;simp[cj]
 |succ i ih =>
  intro h
  have hi:i<l.length:=by omega
  have h2:=ih (by omega)
  rw[gX (List.getElem?_eq_getElem hi),bL (List.getElem?_eq_getElem hi)]
  obtain ⟨gs,Nz⟩:∃gs,cj (l.take i)=gs:=⟨_,rfl⟩
  rw[Nz] at h2 ⊢
  unfold mK
  split
  ·rename_i hc
   unfold lJ at hc
   have iG:gs≠[]:=by rintro rfl;simp at hc
   obtain ⟨G,r,rfl⟩:∃r G,gs=r++[G]:=⟨_,_,(List.dropLast_concat_getLast iG).symm⟩
   rw[←h2]
   simp
  ·rw[List.flatten_append,h2]
   simp
theorem Cg (l:List Fd):(cj l).flatten=l:=by
 have:=EI l l.length (zD _)
 rwa [List.take_length] at this
theorem Ds (l:List Fd):∀G ∈ cj l,G≠[]∧∀d ∈ G,d ∈ l:=by
 have:=Am l l.length (zD _)
 rwa [List.take_length] at this
theorem H' {n:Nat} (hn:n≤99) {os:List ByteArray} (ho:∀s ∈ os,s.size≤255) {G:List Fd} (hG:G≠[]) (hf:∀d ∈ G,cI d=true):(dD n os G).length≤4000*G.length:=by
 unfold dD
 split
 ·exact absurd rfl hG
 ·rename_i d r
  have h1:1≤(d::r).length:=by simp
  have q0:=oM (g:=bR n) (k:=2000) (d::r) (fun x hx=>ux (by omega) (hf x hx))
  have q1:=oM (g:=bR (n+1)) (k:=2000) (d::r) (fun x hx=>ux (by omega) (hf x hx))
  split
  ·have hb:(os.getD (d.aE.toNat-1) ⟨#[]⟩).size≤255:=by
    rw[List.getD_eq_getElem?_getD]
    cases e:os[d.aE.toNat-1]? with
    |none=>exact Nat.zero_le _
    |some s=>exact ho s (List.mem_of_getElem? e)
   have:=oW (n:=n) (by omega) (a:=gU) (by decide) hb ((d::r).flatMap (bR (n+1)))
   omega
  ·omega
theorem wz {n:Nat} (hn:n≤99) {os:List ByteArray} (ho:∀s ∈ os,s.size≤255):∀(gs:List (List Fd)),(∀G ∈ gs,G≠[]∧∀d ∈ G,cI d=true)→(gs.flatMap (dD n os)).length≤4000*gs.flatten.length
 |[],_=>by simp
 |G::r,h=>by
  have ih:=wz hn ho r (fun K hK=>h K (zF _ hK))
  have h1:=H' hn ho (h G (List.mem_cons_self ..)).1 (h G (List.mem_cons_self ..)).2
  rw[List.flatMap_cons,zK,List.flatten_cons,zK,Nat.mul_add]
  omega
theorem kN {α:Type}{q:α→Int→Option Int}{g:α→List Nat}{P:α→Prop}:∀(l:List α),(∀a ∈ l,∀x y,x≤4096→q a x=some y→P a∧(0≤x→0≤y)∧y≤x∧((g a).length:Int)≤2000+4000*(x-y))→∀x y,x≤4096→jR q l x=some y→(∀a ∈ l,P a)∧(0≤x→0≤y)∧y≤x∧((l.flatMap g).length:Int)≤2000*l.length+4000*(x-y)
 |[],_,x,y,_,e=>by
  obtain rfl:=zC e
  refine ⟨fun a ha=>by simp at ha,id,Int.le_refl _,by simp⟩
 |a::r,h,x,y,hx,e=>by
  unfold jR at e
  cases hq:q a x with
  |none=>rw[hq] at e;cases e
  |some z =>
   rw[hq] at e
   obtain ⟨p1,p2,p3,p4⟩:=h a (List.mem_cons_self ..) x z hx hq
   obtain ⟨r1,r2,r3,r4⟩:=kN r (fun b hb=>h b (zF _ hb)) z y (by omega) e
   refine ⟨fun b hb=>?_,fun h0=>r2 (p2 h0),by omega,?_⟩
   ·rcases List.mem_cons.1 hb with rfl|hb
    ·exact p1
    ·exact r1 b hb
   ·rw[List.flatMap_cons,zK,List.length_cons]
    push_cast
    omega
theorem Aw {n:Nat} (hn:n≤99) (e:En) (x y:Int) (hx:x≤4096) (h:iy e x=some y):(IV e∧bc e=true)∧(0≤x→0≤y)∧y≤x∧((jy n e).length:Int)≤2000+4000*(x-y):=by
 unfold iy at h
 split at h
 ·cases h
 ·rename_i x1 hl
  obtain ⟨rfl,h0⟩:=nF hl
  split at h
  ·rename_i nJ
   obtain rfl:=zC h
   obtain ⟨k1,k2,k3⟩:=Il (n:=n+1) (by omega) nJ ⟨by omega,by omega⟩
   have k4:=oW (n:=n) (by omega) (a:=ku) (by decide) k2 (fV (n+1) e)
   refine ⟨⟨k1,nJ⟩,fun _=>h0,by omega,?_⟩
   unfold jy
   omega
  ·cases h
def Oo:Nat→Ms→Prop
 |0,_=>False
 |f+1,.mk nm fs os ms es rs gs=>tI nm fs os rs gs=true∧(∀m ∈ ms,Oo f m)∧∀e ∈ es,bc e=true
theorem C':∀(f n:Nat),n+f≤90→∀(m:Ms) (x y:Int),x≤4096→nD f m x=some y→(Jy f m∧Oo f m∧m.nm.size≤255)∧(0≤x→0≤y)∧y≤x∧((cd f n m).length:Int)≤4000*(x-y)
 |0,_,_,_,_,_,_,e=>by cases e
 |f+1,n,hn,.mk nm fs os ms es rs gs,x,y,hx,e=>by
  unfold nD at e
  split at e
  ·cases e
  ·rename_i x1 hl
   obtain ⟨rfl,h0⟩:=nF hl
   split at e
   ·rename_i nJ
    have VR:=nJ
    unfold tI at nJ
    simp only[Bool.and_eq_true] at nJ
    obtain ⟨⟨⟨⟨⟨h1,h2⟩,h3⟩,h4⟩,h5⟩,h6⟩:=nJ
    have Ry:∀d ∈ fs,cI d=true:=fun d hd=>List.all_eq_true.1 h3 d hd
    have hos:∀s ∈ os,s.size≤255:=fun s hs=>dC (List.all_eq_true.1 h2 s hs)
    have Nz:∀s ∈ gs,s.size≤255:=fun s hs=>dC (List.all_eq_true.1 h6 s hs)
    have YP:=Gd (by decide) (by decide) h5
    split at e
    ·cases e
    ·rename_i x2 hm
     obtain ⟨m1,m2,m3,m4⟩:=kN (P:=fun m=>Jy f m∧Oo f m) (g:=fun m=>cl n aL m.nm (cd f (n+1) m)) ms (fun m _ u v hu hv=>by
      obtain ⟨⟨p1,p2,p3⟩,p4,p5,p6⟩:=C' f (n+1) (by omega) m u v hu hv
      have:=oW (n:=n) (by omega) (a:=aL) (by decide) p3 (cd f (n+1) m)
      exact ⟨⟨p1,p2⟩,p4,p5,by omega⟩) _ _ (by omega) hm
     obtain ⟨e1,e2,e3,e4⟩:=kN (P:=fun e=>IV e∧bc e=true) (g:=jy n) es (fun d _ u v hu hv=>Aw (by omega) d u v hu hv) _ _ (by omega) e
     have g1:=wz (n:=n) (by omega) hos (cj fs) (fun G hG=>⟨(Ds fs G hG).1,fun d hd=>Ry d ((Ds fs G hG).2 d hd)⟩)
     rw[Cg] at g1
     have r1:=yY (n:=n) (by omega) (most:=536870911) YP Nz
     refine ⟨⟨⟨⟨by omega,by omega,by omega⟩,fun d hd=>⟨(uw (Ry d hd)).1,MP h4 d hd⟩,YP,fun s hs=>by have:=Nz s hs;omega,fun m hm=>(m1 m hm).1,fun d hd=>(e1 d hd).1⟩,⟨VR,fun m hm=>(m1 m hm).2,fun d hd=>(e1 d hd).2⟩,dC h1⟩,fun _=>e2 (m2 h0),by omega,?_⟩
     unfold cd
     simp only[zK]
     push_cast
     omega
   ·cases e
structure RtF (F:Fl):Prop where
 pk:F.kz.toList.isEmpty=true∨dv F.kz=true
 im:∀s ∈ F.cT,dk s=true
 ms:∀m ∈ F.ms,Oo 32 m
 es:∀e ∈ F.es,bc e=true
theorem wJ {F:Fl} (h:(lB F).isSome=true):RtF F∧F.cT.length≤4096∧(∀s ∈ F.cT,s.size≤1048576)∧(∀m ∈ F.ms,Jy 32 m)∧(∀e ∈ F.es,IV e)∧(fx F).length≤1099511627776:=by
 obtain ⟨y,hy⟩:=zG h
 unfold lB at hy
 split at hy
 ·rename_i mI
  simp only[Bool.or_eq_true] at mI
  split at hy
  ·cases hy
  ·rename_i x1 hl
   obtain ⟨rfl,h0⟩:=nF hl
   split at hy
   ·rename_i him
    split at hy
    ·cases hy
    ·rename_i x2 hm
     obtain ⟨m1,m2,m3,m4⟩:=kN (P:=fun m=>Jy 32 m∧Oo 32 m) (g:=fun m=>cl 0 aL m.nm (cd 32 (0+1) m)) F.ms (fun m _ u v hu hv=>by
      obtain ⟨⟨p1,p2,p3⟩,p4,p5,p6⟩:=C' 32 (0+1) (by omega) m u v hu hv
      have:=oW (n:=0) (by omega) (a:=aL) (by decide) p3 (cd 32 (0+1) m)
      exact ⟨⟨p1,p2⟩,p4,p5,by omega⟩) _ _ (by omega) hm
     obtain ⟨e1,e2,e3,e4⟩:=kN (P:=fun e=>IV e∧bc e=true) (g:=jy 0) F.es (fun d _ u v hu hv=>Aw (by omega) d u v hu hv) _ _ (by omega) hy
     have Rt:∀s ∈ F.cT,dk s=true:=fun s hs=>List.all_eq_true.1 him s hs
     have Zl:∀s ∈ F.cT,s.size≤255:=fun s hs=>by
      have:=Rt s hs
      unfold dk at this
      simp only[Bool.and_eq_true,decide_eq_true_eq] at this
      omega
     have i1:=oM (g:=ep) (k:=2000) F.cT (fun s hs=>by
      unfold ep
      rw[eN]
      simp only[List.map_cons,List.map_nil,List.sum_cons,List.sum_nil]
      have e1:kX.size=7:=rfl
      have e2:bC.size=1:=rfl
      have:=qi (Zl s hs)
      omega)
     have p1:(lF F.kz).length≤2000:=by
      unfold lF
      split
      ·simp
      ·rename_i iG
       have:=BH (mI.resolve_left iG)
       rw[eN]
       simp only[List.map_cons,List.map_nil,List.sum_cons,List.sum_nil]
       have e1:kt.size=8:=rfl
       have e2:bC.size=1:=rfl
       omega
     have s1:(aV 0 [ja]).length=19:=rfl
     refine ⟨⟨mI,Rt,fun m hm=>(m1 m hm).2,fun d hd=>(e1 d hd).2⟩,by omega,fun s hs=>by have:=Zl s hs;omega,fun m hm=>(m1 m hm).1,fun d hd=>(e1 d hd).1,?_⟩
     have n2:=m2 h0
     have n3:=e2 n2
     unfold fx pB
     simp only[zK]
     omega
   ·cases hy
 ·cases hy
theorem gE {α:Type}{g:α→List Nat}{l:List α} (h:∀a ∈ l,mM (g a)):mM (l.flatMap g):=fun x hx=>by
 obtain ⟨a,ha,hxa⟩:=List.mem_flatMap.1 hx
 exact h a ha x hxa
theorem y' (n:Nat) (ts:List ByteArray):mM (ez n ts):=by
 unfold ez
 split
 ·exact fj _ _
 ·exact fun x hx=>by simp at hx
theorem yZ (n:Nat) (m:Int) (rs:List (Int×Int)) (gs:List ByteArray):mM (eW n m rs gs):=(y' _ _).append (y' _ _)
theorem oX {n:Nat}{a b:ByteArray}{I:List Nat} (h:mM I):mM (cl n a b I):=((fj _ _).append h).append (fj _ _)
theorem Dz (n:Nat) (e:En):mM (jy n e):=oX ((yZ _ _ _ _).append (gE fun _ _=>fj _ _))
theorem Ia (n:Nat) (os:List ByteArray) (G:List Fd):mM (dD n os G):=by
 unfold dD
 split
 ·exact fun x hx=>by simp at hx
 ·split
  ·exact oX (gE fun _ _=>fj _ _)
  ·exact gE fun _ _=>fj _ _
theorem zQ:∀(f n:Nat) (m:Ms),mM (cd f n m)
 |0,_,_=>fun x hx=>by unfold cd at hx;simp at hx
 |f+1,n,.mk nm fs os ms es rs gs=>by
  unfold cd
  exact ((yZ _ _ _ _).append (gE fun _ _=>Ia _ _ _)).append ((gE fun m _=>oX (zQ f (n+1) m)).append (gE fun _ _=>Dz _ _))
theorem wK (F:Fl):mM (fx F):=by
 unfold fx pB
 refine (((fj _ _).append ?_).append (gE fun _ _=>fj _ _)).append ((gE fun m _=>oX (zQ _ _ m)).append (gE fun _ _=>Dz _ _))
 unfold lF
 split
 ·exact fun x hx=>by simp at hx
 ·exact fj _ _
end Go.Proofs.YtichhjfjcinjgaaGreatDoor
namespace Go.Proofs.YtichhjfjcinjgaaGreatDoor
open Go.RowKit
attribute [local go_sem ↓] Go.wp_at_zero Go.wp_at_succ
def written:Array Value→Nat→List Value→Array Value
 |cs,_,[]=>cs
 |cs,o,v::vs=>written (cs.setIfInBounds o v) (o+1) vs
theorem kc {t:TypeId}{g:Nat}:∀(vs:List Value) (o:Nat) (w:World) (cs:Array Value),w.heap[g]?=some (.cells cs t (0,0))→(w.setCells g o vs).heap[g]?=some (.cells (written cs o vs) t (0,0))∧(∀b,b≠g→(w.setCells g o vs).heap[b]?=w.heap[b]?)
 |[],_,_,_,h=>⟨h,fun _ _=>rfl⟩
 |v::vs,o,w,cs,h=>by
  obtain ⟨h1,h2⟩:=kc vs (o+1) (w.setCell ⟨g,o,none⟩ v) (cs.setIfInBounds o v) (heap_setCell_same w g o cs t v h)
  exact ⟨h1,fun b hb=>(h2 b hb).trans (heap_setCell_other w _ b v hb)⟩
theorem jQ {n g:Nat}{A:World} (hg:n≤g):∀(vs:List Value) (o:Nat) (w:World),Below n A w→Below n A (w.setCells g o vs)
 |[],_,_,h=>h
 |v::vs,o,_,h=>jQ hg vs (o+1) _ (h.setCell (p:=⟨g,o,none⟩) hg v)
theorem mP {g:Nat}:∀(vs:List Value) (o:Nat) (w:World),(w.setCells g o vs).heap.size=w.heap.size
 |[],_,_=>rfl
 |_::vs,o,w=>(mP vs (o+1) _).trans (World.size_setCell w _ _)
def bQ:List Value:=[.func (.func 136) #[] #[],.func (.func 138) #[] #[],.func (.func 139) #[] #[],.func (.func 142) #[] #[],.func (.func 144) #[] #[],.func (.func 146) #[] #[],.func (.func 147) #[] #[]]
theorem Tryz.pC:(Tryz.prog.info? 137).map (·.size)=some bQ.toArray.size:=by kernel_rfl
theorem CR:bQ.toArray.all (·.oneCell')=true:=by decide +kernel
def Bh:Nat→Nat
 |0=>136|1=>138|2=>139|3=>142|4=>144|5=>146|_=>147
theorem DY:∀c,c<7→bQ[c]?=some (.func (.func (Bh c)) #[] #[])
 |0,_=>rfl|1,_=>rfl|2,_=>rfl|3,_=>rfl|4,_=>rfl|5,_=>rfl|6,_=>rfl
 |_+7,h=>by omega
theorem FU (W:World):(W.alloc (.cells #[.nilFunc,.nilFunc,.nilFunc,.nilFunc,.nilFunc,.nilFunc,.nilFunc] 137)).there W.heap.size 0 bQ.toArray.size:=by
 intro j hj
 have hb:=heap_alloc_new W (.cells #[.nilFunc,.nilFunc,.nilFunc,.nilFunc,.nilFunc,.nilFunc,.nilFunc] 137)
 refine ⟨?_,frozen_of_row _ _ _ _ _ hb⟩
 rw[Nat.zero_add,cell_of_row _ _ _ _ _ _ hb]
 have xQ:j<7:=hj
 simp
 omega
theorem D1 (W:World):Calls Tryz.prog 94 #[] W fun e W'=>e=.returned (.agg bQ.toArray)∧Below W.heap.size W W':=by
 have QY:=FU W
 go_enter Tryz.func94,Tryz.ntmps94
 go_wp2_with (refine wpList_store_mid rfl 137 (.tmp 0) (.tmp 1) rfl W.heap.size 0 bQ.toArray rfl rfl QY Tryz.pC CR ?_)
 obtain ⟨cE,bM⟩:=kc (t:=137) (g:=W.heap.size) bQ 0 (W.alloc (.cells #[.nilFunc,.nilFunc,.nilFunc,.nilFunc,.nilFunc,.nilFunc,.nilFunc] 137)) #[.nilFunc,.nilFunc,.nilFunc,.nilFunc,.nilFunc,.nilFunc,.nilFunc] (heap_alloc_new W _)
 have cZ:written #[.nilFunc,.nilFunc,.nilFunc,.nilFunc,.nilFunc,.nilFunc,.nilFunc] 0 bQ=bQ.toArray:=by rfl
 rw[cZ] at cE
 have hB:Below W.heap.size W ((W.alloc (.cells #[.nilFunc,.nilFunc,.nilFunc,.nilFunc,.nilFunc,.nilFunc,.nilFunc] 137)).setCells W.heap.size 0 bQ):=jQ (zD _) _ _ _ ((zE _ W).alloc (zD _) _)
 refine bodyPost_ret (v:=.agg bQ.toArray) (results_cell_row rfl _ _ W.heap.size 137 bQ.toArray (0,0) _ rfl cE Tryz.underlying137 rfl Tryz.pC) rfl ⟨rfl,hB⟩
def Lr (W:World) (tb:Nat):Prop:=W.heap[tb]?=some (.cells bQ.toArray 137 (0,0))
theorem Lr.cell {W:World}{tb:Nat} (h:Lr W tb) (c:Nat) (hc:c<7):W.cell? ⟨tb,c,none⟩=some (.func (.func (Bh c)) #[] #[]):=by
 rw[cell_of_row _ _ _ _ _ _ h,←DY c hc]
 simp
theorem Hk (W:World):Lr ((W.alloc (.cells #[.nilFunc,.nilFunc,.nilFunc,.nilFunc,.nilFunc,.nilFunc,.nilFunc] 137)).setCells W.heap.size 0 bQ) W.heap.size:=by
 have:=(kc (t:=137) (g:=W.heap.size) bQ 0 _ _ (heap_alloc_new W (.cells #[.nilFunc,.nilFunc,.nilFunc,.nilFunc,.nilFunc,.nilFunc,.nilFunc] 137))).1
 rw[show written #[.nilFunc,.nilFunc,.nilFunc,.nilFunc,.nilFunc,.nilFunc,.nilFunc] 0 bQ=bQ.toArray from rfl] at this
 exact this
structure Z1 (A:Array Value):Prop where
 eq:A=bQ.toArray
 info:(Tryz.prog.info? 137).map (·.size)=some A.size
 one:A.all (·.oneCell')=true
theorem JV:Z1 bQ.toArray:=⟨rfl,Tryz.pC,CR⟩
theorem N6 (c:Nat):cls c<7:=by
 unfold cls
 repeat' split
 all_goals decide
theorem fb {f:FuncId}{F:Func} (h:Tryz.prog.funcs[f]?=some F) (hn:¬F.name = "runtime.NumGoroutine") (hb:F.body.isSome=true) (w:World) (vs:Array Value):(callFunc f vs).run Tryz.prog w=.ok (.enter f vs) w:=by
 obtain ⟨c,hc⟩:=zG hb
 simp[callFunc,h,hn,hc]
theorem EZ (w:World) (vs:Array Value):∀c,c<7→(callFunc (Bh c) vs).run Tryz.prog w=.ok (.enter (Bh c) vs) w
 |0,_=>by exact fb Tryz.func136 (by decide +kernel) (by kernel_rfl) w vs
 |1,_=>by exact fb Tryz.func138 (by decide +kernel) (by kernel_rfl) w vs
 |2,_=>by exact fb Tryz.func139 (by decide +kernel) (by kernel_rfl) w vs
 |3,_=>by exact fb Tryz.func142 (by decide +kernel) (by kernel_rfl) w vs
 |4,_=>by exact fb Tryz.func144 (by decide +kernel) (by kernel_rfl) w vs
 |5,_=>by exact fb Tryz.func146 (by decide +kernel) (by kernel_rfl) w vs
 |6,_=>by exact fb Tryz.func147 (by decide +kernel) (by kernel_rfl) w vs
 |_+7,h=>by omega
theorem E1 (w:World) (vs:Array Value):(callFunc 95 vs).run Tryz.prog w=.ok (.enter 95 vs) w:=by exact fb Tryz.func95 (by decide +kernel) (by kernel_rfl) w vs
theorem D3 {W:World}{B b:Nat}{s:ByteArray}{k n:Nat}{v:Value}{xs:List Value} (hE:jW W) (hM:iB W) (I:eP W B b s k n v xs) :
  Calls Tryz.prog (Bh (cls (aD s k))) #[.pointer (some ⟨b,0,none⟩)] W (fZ B b s k n xs W):=by
 have hm:=I.more
 have mJ:cn s k=cn s k:=rfl
 conv at mJ=>rhs;unfold cn
 rcases EV (aD s k) with ⟨e,h1⟩|⟨n1,⟨e,h2⟩|⟨n2,⟨e,h3⟩|⟨n3,⟨e,h4⟩|⟨n4,⟨e,h5⟩|⟨n5,⟨e,h6⟩|⟨e,n6⟩⟩⟩⟩⟩⟩
 ·rw[e]
  exact yU I h1
 ·rw[e]
  rw[if_pos h2] at mJ
  exact xf I (jI hm n1 (fun q=>by rw[q] at h2;exact absurd h2 (by decide))) mJ
 ·rw[e]
  rw[if_neg n2,if_pos h3] at mJ
  exact yT hE I (jI hm n1 (fun q=>by rw[q] at h3;exact absurd h3 (by decide))) mJ
 ·rw[e]
  rw[if_neg n2,if_neg n3,if_pos h4] at mJ
  exact yS hE I (jI hm n1 (fun q=>by omega)) h4 mJ
 ·rw[e]
  rw[if_neg n2,if_neg n3,if_neg n4,if_pos h5] at mJ
  exact Bk I (jI hm n1 (fun q=>by rw[q] at h5;exact absurd h5 (by decide))) mJ
 ·rw[e]
  rw[if_neg n2,if_neg n3,if_neg n4,if_neg n5] at mJ
  exact vd hM I h6 (by rw[mJ])
 ·rw[e]
  rw[if_neg n2,if_neg n3,if_neg n4,if_neg n5] at mJ
  exact Bl I (jI hm n1 n6) (by rw[mJ])
end Go.Proofs.YtichhjfjcinjgaaGreatDoor

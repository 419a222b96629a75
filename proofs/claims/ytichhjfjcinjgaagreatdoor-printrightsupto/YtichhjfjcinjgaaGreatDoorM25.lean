import Derived.Test.YtichhjfjcinjgaaGreatDoorM24
import Derived.Laws.Rows
set_option maxHeartbeats 2000000
set_option maxRecDepth 100000
namespace Go.Proofs.YtichhjfjcinjgaaGreatDoor
open Go.RowKit
theorem oc {n:Nat}{x y:Int} (h:ks n x=some y):y=x-n∧0≤y:=by
 unfold ks at h
 split at h
 ·obtain rfl:=zC h;exact ⟨rfl,by assumption⟩
 ·cases h
theorem Cc:∀(l:List Fd) (h b r:Int),wU l h b=some r→(h=0∨(1≤h∧h≤b))→0≤b→∀d ∈ l,d.aE≠0→1≤d.aE∧d.aE≤r
 |[],_,_,_,_,_,_,d,hd,_=>by simp at hd
 |c::l,h,b,r,e,hh,hb,d,hd,IK=>by
  unfold wU at e
  split at e
  ·rename_i hc
   split at e
   ·cases e
   ·rename_i oA
    have WM:c.aE=b+1:=by simpa using oA
    have hle:=xY l _ _ _ e
    rcases List.mem_cons.1 hd with rfl|hm
    ·omega
    ·exact Cc l _ _ _ e (.inr (by omega)) (by omega) d hm IK
  ·rename_i hc
   have hle:=xY l _ _ _ e
   rcases List.mem_cons.1 hd with rfl|hm
   ·by_cases hz:d.aE=h
    ·rcases hh with h0|h0<;>omega
    ·exact absurd ⟨IK,hz⟩ hc
   ·refine Cc l _ _ _ e ?_ hb d hm IK
    by_cases hz:c.aE=0
    ·exact .inl hz
    ·by_cases da:c.aE=h
     ·rcases hh with h0|h0
      ·omega
      ·exact .inr (by omega)
     ·exact absurd ⟨hz,da⟩ hc
theorem Nt {l:List Fd}{n:Nat} (h:Bs l n=true):∀d ∈ l,d.aE≠0→1≤d.aE∧d.aE≤n:=by
 unfold Bs at h
 split at h
 ·cases h
 ·rename_i b hb
  have:b=(n:Int):=by simpa using h
  subst this
  exact Cc l 0 0 _ hb (.inl rfl) (Int.le_refl _)
theorem Fk (l:List Fd):∀i,i≤l.length→(cl (l.take i)).flatten=l.take i:=by
 intro i
 induction i with
 |zero=>intro _;simp[cl]
 |succ i ih =>
  intro h
  have hi:i<l.length:=by omega
  have h2:=ih (by omega)
  rw[ig (List.getElem?_eq_getElem hi),bM (List.getElem?_eq_getElem hi)]
  obtain ⟨gs,Oa⟩:∃gs,cl (l.take i)=gs:=⟨_,rfl⟩
  rw[Oa] at h2 ⊢
  unfold np
  split
  ·rename_i hc
   unfold l9 at hc
   have iP:gs≠[]:=by rintro rfl;simp at hc
   obtain ⟨G,r,rfl⟩:∃r G,gs=r++[G]:=⟨_,_,(List.dropLast_concat_getLast iP).symm⟩
   rw[←h2]
   simp
  ·rw[List.flatten_append,h2]
   simp
theorem CP (l:List Fd):(cl l).flatten=l:=by
 have:=Fk l l.length (zD _)
 rwa [List.take_length] at this
theorem D5 (l:List Fd):∀G ∈ cl l,G≠[]∧∀d ∈ G,d ∈ l:=by
 have:=AV l l.length (zD _)
 rwa [List.take_length] at this
theorem IX {n:Nat} (hn:n≤99) {os:List ByteArray} (ho:∀s ∈ os,s.size≤255) {G:List Fd} (hG:G≠[]) (hf:∀d ∈ G,cL d=true):(dH n os G).length≤4000*G.length:=by
 unfold dH
 split
 ·exact absurd rfl hG
 ·rename_i d r
  have h1:1≤(d::r).length:=by simp
  have q0:=pf (g:=bT n) (k:=2000) (d::r) (fun x hx=>u6 (by omega) (hf x hx))
  have q1:=pf (g:=bT (n+1)) (k:=2000) (d::r) (fun x hx=>u6 (by omega) (hf x hx))
  split
  ·have hb:(os.getD (d.aE.toNat-1) ⟨#[]⟩).size≤255:=by
    rw[List.getD_eq_getElem?_getD]
    cases e:os[d.aE.toNat-1]? with
    |none=>exact Nat.zero_le _
    |some s=>exact ho s (List.mem_of_getElem? e)
   have:=px (n:=n) (by omega) (a:=ia) (by decide) hb ((d::r).flatMap (bT (n+1)))
   omega
  ·omega
theorem xh {n:Nat} (hn:n≤99) {os:List ByteArray} (ho:∀s ∈ os,s.size≤255):∀(gs:List (List Fd)),(∀G ∈ gs,G≠[]∧∀d ∈ G,cL d=true)→(gs.flatMap (dH n os)).length≤4000*gs.flatten.length
 |[],_=>by simp
 |G::r,h=>by
  have ih:=xh hn ho r (fun K hK=>h K (zF _ hK))
  have h1:=IX hn ho (h G (List.mem_cons_self ..)).1 (h G (List.mem_cons_self ..)).2
  rw[List.flatMap_cons,zK,List.flatten_cons,zK,Nat.mul_add]
  omega
theorem lh {α:Type}{q:α→Int→Option Int}{g:α→List Nat}{P:α→Prop}:∀(l:List α),(∀a ∈ l,∀x y,x≤4096→q a x=some y→P a∧(0≤x→0≤y)∧y≤x∧((g a).length:Int)≤2000+4000*(x-y))→∀x y,x≤4096→kc q l x=some y→(∀a ∈ l,P a)∧(0≤x→0≤y)∧y≤x∧((l.flatMap g).length:Int)≤2000*l.length+4000*(x-y)
 |[],_,x,y,_,e=>by
  obtain rfl:=zC e
  refine ⟨fun a ha=>by simp at ha,id,Int.le_refl _,by simp⟩
 |a::r,h,x,y,hx,e=>by
  unfold kc at e
  cases hq:q a x with
  |none=>rw[hq] at e;cases e
  |some z =>
   rw[hq] at e
   obtain ⟨p1,p2,p3,p4⟩:=h a (List.mem_cons_self ..) x z hx hq
   obtain ⟨r1,r2,r3,r4⟩:=lh r (fun b hb=>h b (zF _ hb)) z y (by omega) e
   refine ⟨fun b hb=>?_,fun h0=>r2 (p2 h0),by omega,?_⟩
   ·rcases List.mem_cons.1 hb with rfl|hb
    ·exact p1
    ·exact r1 b hb
   ·rw[List.flatMap_cons,zK,List.length_cons]
    push_cast
    omega
theorem A4 {n:Nat} (hn:n≤99) (e:En) (x y:Int) (hx:x≤4096) (h:iL e x=some y):(JD e∧bc e=true)∧(0≤x→0≤y)∧y≤x∧((jO n e).length:Int)≤2000+4000*(x-y):=by
 unfold iL at h
 split at h
 ·cases h
 ·rename_i x1 hl
  obtain ⟨rfl,h0⟩:=oc hl
  split at h
  ·rename_i oq
   obtain rfl:=zC h
   obtain ⟨k1,k2,k3⟩:=I7 (n:=n+1) (by omega) oq ⟨by omega,by omega⟩
   have k4:=px (n:=n) (by omega) (a:=kO) (by decide) k2 (gp (n+1) e)
   refine ⟨⟨k1,oq⟩,fun _=>h0,by omega,?_⟩
   unfold jO
   omega
  ·cases h
def O4:Nat→Ms→Prop
 |0,_=>False
 |f+1,.mk nm fs os ms es rs gs=>uB nm fs os rs gs=true∧(∀m ∈ ms,O4 f m)∧∀e ∈ es,bc e=true
theorem DK:∀(f n:Nat),n+f≤90→∀(m:Ms) (x y:Int),x≤4096→oa f m x=some y→(Kh f m∧O4 f m∧m.nm.size≤255)∧(0≤x→0≤y)∧y≤x∧((ck f n m).length:Int)≤4000*(x-y)
 |0,_,_,_,_,_,_,e=>by cases e
 |f+1,n,hn,.mk nm fs os ms es rs gs,x,y,hx,e=>by
  unfold oa at e
  split at e
  ·cases e
  ·rename_i x1 hl
   obtain ⟨rfl,h0⟩:=oc hl
   split at e
   ·rename_i oq
    have Ws:=oq
    unfold uB at oq
    simp only[Bool.and_eq_true] at oq
    obtain ⟨⟨⟨⟨⟨h1,h2⟩,h3⟩,h4⟩,h5⟩,h6⟩:=oq
    have Sf:∀d ∈ fs,cL d=true:=fun d hd=>List.all_eq_true.1 h3 d hd
    have hos:∀s ∈ os,s.size≤255:=fun s hs=>dG (List.all_eq_true.1 h2 s hs)
    have Oa:∀s ∈ gs,s.size≤255:=fun s hs=>dG (List.all_eq_true.1 h6 s hs)
    have Zn:=GZ (by decide) (by decide) h5
    split at e
    ·cases e
    ·rename_i x2 hm
     obtain ⟨m1,m2,m3,m4⟩:=lh (P:=fun m=>Kh f m∧O4 f m) (g:=fun m=>ct n aL m.nm (ck f (n+1) m)) ms (fun m _ u v hu hv=>by
      obtain ⟨⟨p1,p2,p3⟩,p4,p5,p6⟩:=DK f (n+1) (by omega) m u v hu hv
      have:=px (n:=n) (by omega) (a:=aL) (by decide) p3 (ck f (n+1) m)
      exact ⟨⟨p1,p2⟩,p4,p5,by omega⟩) _ _ (by omega) hm
     obtain ⟨e1,e2,e3,e4⟩:=lh (P:=fun e=>JD e∧bc e=true) (g:=jO n) es (fun d _ u v hu hv=>A4 (by omega) d u v hu hv) _ _ (by omega) e
     have g1:=xh (n:=n) (by omega) hos (cl fs) (fun G hG=>⟨(D5 fs G hG).1,fun d hd=>Sf d ((D5 fs G hG).2 d hd)⟩)
     rw[CP] at g1
     have r1:=Ab (n:=n) (by omega) (most:=536870911) Zn Oa
     refine ⟨⟨⟨⟨by omega,by omega,by omega⟩,fun d hd=>⟨(uZ (Sf d hd)).1,Nt h4 d hd⟩,Zn,fun s hs=>by have:=Oa s hs;omega,fun m hm=>(m1 m hm).1,fun d hd=>(e1 d hd).1⟩,⟨Ws,fun m hm=>(m1 m hm).2,fun d hd=>(e1 d hd).2⟩,dG h1⟩,fun _=>e2 (m2 h0),by omega,?_⟩
     unfold ck
     simp only[zK]
     push_cast
     omega
   ·cases e
structure RtF (F:Fl):Prop where
 pk:F.jr.toList.isEmpty=true∨dA F.jr=true
 im:∀s ∈ F.cX,du s=true
 ms:∀m ∈ F.ms,O4 32 m
 es:∀e ∈ F.es,bc e=true
theorem xq {F:Fl} (h:(lU F).isSome=true):RtF F∧F.cX.length≤4096∧(∀s ∈ F.cX,s.size≤1048576)∧(∀m ∈ F.ms,Kh 32 m)∧(∀e ∈ F.es,JD e)∧(fG F).length≤1099511627776:=by
 obtain ⟨y,hy⟩:=zG h
 unfold lU at hy
 split at hy
 ·rename_i nk
  simp only[Bool.or_eq_true] at nk
  split at hy
  ·cases hy
  ·rename_i x1 hl
   obtain ⟨rfl,h0⟩:=oc hl
   split at hy
   ·rename_i him
    split at hy
    ·cases hy
    ·rename_i x2 hm
     obtain ⟨m1,m2,m3,m4⟩:=lh (P:=fun m=>Kh 32 m∧O4 32 m) (g:=fun m=>ct 0 aL m.nm (ck 32 (0+1) m)) F.ms (fun m _ u v hu hv=>by
      obtain ⟨⟨p1,p2,p3⟩,p4,p5,p6⟩:=DK 32 (0+1) (by omega) m u v hu hv
      have:=px (n:=0) (by omega) (a:=aL) (by decide) p3 (ck 32 (0+1) m)
      exact ⟨⟨p1,p2⟩,p4,p5,by omega⟩) _ _ (by omega) hm
     obtain ⟨e1,e2,e3,e4⟩:=lh (P:=fun e=>JD e∧bc e=true) (g:=jO 0) F.es (fun d _ u v hu hv=>A4 (by omega) d u v hu hv) _ _ (by omega) hy
     have Sb:∀s ∈ F.cX,du s=true:=fun s hs=>List.all_eq_true.1 him s hs
     have ZO:∀s ∈ F.cX,s.size≤255:=fun s hs=>by
      have:=Sb s hs
      unfold du at this
      simp only[Bool.and_eq_true,decide_eq_true_eq] at this
      omega
     have i1:=pf (g:=ez) (k:=2000) F.cX (fun s hs=>by
      unfold ez
      rw[eT]
      simp only[List.map_cons,List.map_nil,List.sum_cons,List.sum_nil]
      have e1:lC.size=7:=rfl
      have e2:bC.size=1:=rfl
      have:=qN (ZO s hs)
      omega)
     have p1:(lY F.jr).length≤2000:=by
      unfold lY
      split
      ·simp
      ·rename_i iP
       have:=Cf (nk.resolve_left iP)
       rw[eT]
       simp only[List.map_cons,List.map_nil,List.sum_cons,List.sum_nil]
       have e1:kN.size=8:=rfl
       have e2:bC.size=1:=rfl
       omega
     have s1:(aY 0 [js]).length=19:=rfl
     refine ⟨⟨nk,Sb,fun m hm=>(m1 m hm).2,fun d hd=>(e1 d hd).2⟩,by omega,fun s hs=>by have:=ZO s hs;omega,fun m hm=>(m1 m hm).1,fun d hd=>(e1 d hd).1,?_⟩
     have n2:=m2 h0
     have n3:=e2 n2
     unfold fG pW
     simp only[zK]
     omega
   ·cases hy
 ·cases hy
theorem gM {α:Type}{g:α→List Nat}{l:List α} (h:∀a ∈ l,ns (g a)):ns (l.flatMap g):=fun x hx=>by
 obtain ⟨a,ha,hxa⟩:=List.mem_flatMap.1 hx
 exact h a ha x hxa
theorem Ah (n:Nat) (ts:List ByteArray):ns (eF n ts):=by
 unfold eF
 split
 ·exact fz _ _
 ·exact fun x hx=>by simp at hx
theorem Ac (n:Nat) (m:Int) (rs:List (Int×Int)) (gs:List ByteArray):ns (fg n m rs gs):=(Ah _ _).append (Ah _ _)
theorem py {n:Nat}{a b:ByteArray}{I:List Nat} (h:ns I):ns (ct n a b I):=((fz _ _).append h).append (fz _ _)
theorem Ec (n:Nat) (e:En):ns (jO n e):=py ((Ac _ _ _ _).append (gM fun _ _=>fz _ _))
theorem IY (n:Nat) (os:List ByteArray) (G:List Fd):ns (dH n os G):=by
 unfold dH
 split
 ·exact fun x hx=>by simp at hx
 ·split
  ·exact py (gM fun _ _=>fz _ _)
  ·exact gM fun _ _=>fz _ _
theorem Ay:∀(f n:Nat) (m:Ms),ns (ck f n m)
 |0,_,_=>fun x hx=>by unfold ck at hx;simp at hx
 |f+1,n,.mk nm fs os ms es rs gs=>by
  unfold ck
  exact ((Ac _ _ _ _).append (gM fun _ _=>IY _ _ _)).append ((gM fun m _=>py (Ay f (n+1) m)).append (gM fun _ _=>Ec _ _))
theorem xr (F:Fl):ns (fG F):=by
 unfold fG pW
 refine (((fz _ _).append ?_).append (gM fun _ _=>fz _ _)).append ((gM fun m _=>py (Ay _ _ m)).append (gM fun _ _=>Ec _ _))
 unfold lY
 split
 ·exact fun x hx=>by simp at hx
 ·exact fz _ _
end Go.Proofs.YtichhjfjcinjgaaGreatDoor
namespace Go.Proofs.YtichhjfjcinjgaaGreatDoor
open Go.RowKit
attribute [local go_sem ↓] Go.wp_at_zero Go.wp_at_succ
def written:Array Value→Nat→List Value→Array Value
 |cs,_,[]=>cs
 |cs,o,v::vs=>written (cs.setIfInBounds o v) (o+1) vs
theorem kD {t:TypeId}{g:Nat}:∀(vs:List Value) (o:Nat) (w:World) (cs:Array Value),w.heap[g]?=some (.cells cs t (0,0))→(w.setCells g o vs).heap[g]?=some (.cells (written cs o vs) t (0,0))∧(∀b,b≠g→(w.setCells g o vs).heap[b]?=w.heap[b]?)
 |[],_,_,_,h=>⟨h,fun _ _=>rfl⟩
 |v::vs,o,w,cs,h=>by
  obtain ⟨h1,h2⟩:=kD vs (o+1) (w.setCell ⟨g,o,none⟩ v) (cs.setIfInBounds o v) (heap_setCell_same w g o cs t v h)
  exact ⟨h1,fun b hb=>(h2 b hb).trans (heap_setCell_other w _ b v hb)⟩
theorem ka {n g:Nat}{A:World} (hg:n≤g):∀(vs:List Value) (o:Nat) (w:World),Below n A w→Below n A (w.setCells g o vs)
 |[],_,_,h=>h
 |v::vs,o,_,h=>ka hg vs (o+1) _ (h.setCell (p:=⟨g,o,none⟩) hg v)
theorem nv {g:Nat}:∀(vs:List Value) (o:Nat) (w:World),(w.setCells g o vs).heap.size=w.heap.size
 |[],_,_=>rfl
 |_::vs,o,w=>(nv vs (o+1) _).trans (World.size_setCell w _ _)
def bS:List Value:=[.func (.func 136) #[] #[],.func (.func 138) #[] #[],.func (.func 139) #[] #[],.func (.func 142) #[] #[],.func (.func 144) #[] #[],.func (.func 146) #[] #[],.func (.func 147) #[] #[]]
theorem Tryz.pX:(Tryz.prog.info? 137).map (·.size)=some bS.toArray.size:=by kernel_rfl
theorem Du:bS.toArray.all (·.oneCell')=true:=by decide +kernel
def BO:Nat→Nat
 |0=>136|1=>138|2=>139|3=>142|4=>144|5=>146|_=>147
theorem ED:∀c,c<7→bS[c]?=some (.func (.func (BO c)) #[] #[])
 |0,_=>rfl|1,_=>rfl|2,_=>rfl|3,_=>rfl|4,_=>rfl|5,_=>rfl|6,_=>rfl
 |_+7,h=>by omega
theorem GB (W:World):(W.alloc (.cells #[.nilFunc,.nilFunc,.nilFunc,.nilFunc,.nilFunc,.nilFunc,.nilFunc] 137)).there W.heap.size 0 bS.toArray.size:=by
 intro j hj
 have hb:=heap_alloc_new W (.cells #[.nilFunc,.nilFunc,.nilFunc,.nilFunc,.nilFunc,.nilFunc,.nilFunc] 137)
 refine ⟨?_,frozen_of_row _ _ _ _ _ hb⟩
 rw[Nat.zero_add,cell_of_row _ _ _ _ _ _ hb]
 have yv:j<7:=hj
 simp
 omega
theorem EG (W:World):Calls Tryz.prog 94 #[] W fun e W'=>e=.returned (.agg bS.toArray)∧Below W.heap.size W W':=by
 have RC:=GB W
 go_enter Tryz.func94,Tryz.ntmps94
 go_wp2_with (refine wpList_store_mid rfl 137 (.tmp 0) (.tmp 1) rfl W.heap.size 0 bS.toArray rfl rfl RC Tryz.pX Du ?_)
 obtain ⟨cH,bN⟩:=kD (t:=137) (g:=W.heap.size) bS 0 (W.alloc (.cells #[.nilFunc,.nilFunc,.nilFunc,.nilFunc,.nilFunc,.nilFunc,.nilFunc] 137)) #[.nilFunc,.nilFunc,.nilFunc,.nilFunc,.nilFunc,.nilFunc,.nilFunc] (heap_alloc_new W _)
 have db:written #[.nilFunc,.nilFunc,.nilFunc,.nilFunc,.nilFunc,.nilFunc,.nilFunc] 0 bS=bS.toArray:=by rfl
 rw[db] at cH
 have hB:Below W.heap.size W ((W.alloc (.cells #[.nilFunc,.nilFunc,.nilFunc,.nilFunc,.nilFunc,.nilFunc,.nilFunc] 137)).setCells W.heap.size 0 bS):=ka (zD _) _ _ _ ((zE _ W).alloc (zD _) _)
 refine bodyPost_ret (v:=.agg bS.toArray) (results_cell_row rfl _ _ W.heap.size 137 bS.toArray (0,0) _ rfl cH Tryz.underlying137 rfl Tryz.pX) rfl ⟨rfl,hB⟩
def L6 (W:World) (tb:Nat):Prop:=W.heap[tb]?=some (.cells bS.toArray 137 (0,0))
theorem L6.cell {W:World}{tb:Nat} (h:L6 W tb) (c:Nat) (hc:c<7):W.cell? ⟨tb,c,none⟩=some (.func (.func (BO c)) #[] #[]):=by
 rw[cell_of_row _ _ _ _ _ _ h,←ED c hc]
 simp
theorem IP (W:World):L6 ((W.alloc (.cells #[.nilFunc,.nilFunc,.nilFunc,.nilFunc,.nilFunc,.nilFunc,.nilFunc] 137)).setCells W.heap.size 0 bS) W.heap.size:=by
 have:=(kD (t:=137) (g:=W.heap.size) bS 0 _ _ (heap_alloc_new W (.cells #[.nilFunc,.nilFunc,.nilFunc,.nilFunc,.nilFunc,.nilFunc,.nilFunc] 137))).1
 rw[show written #[.nilFunc,.nilFunc,.nilFunc,.nilFunc,.nilFunc,.nilFunc,.nilFunc] 0 bS=bS.toArray from rfl] at this
 exact this
structure Tab (A:Array Value):Prop where
 eq:A=bS.toArray
 info:(Tryz.prog.info? 137).map (·.size)=some A.size
 one:A.all (·.oneCell')=true
theorem KG:Tab bS.toArray:=⟨rfl,Tryz.pX,Du⟩
theorem OL (c:Nat):cls c<7:=by
 unfold cls
 repeat' split
 all_goals decide
theorem ft {f:FuncId}{F:Func} (h:Tryz.prog.funcs[f]?=some F) (hn:¬F.name = "runtime.NumGoroutine") (hb:F.body.isSome=true) (w:World) (vs:Array Value):(callFunc f vs).run Tryz.prog w=.ok (.enter f vs) w:=by
 obtain ⟨c,hc⟩:=zG hb
 simp[callFunc,h,hn,hc]
theorem FH (w:World) (vs:Array Value):∀c,c<7→(callFunc (BO c) vs).run Tryz.prog w=.ok (.enter (BO c) vs) w
 |0,_=>by exact ft Tryz.func136 (by decide +kernel) (by kernel_rfl) w vs
 |1,_=>by exact ft Tryz.func138 (by decide +kernel) (by kernel_rfl) w vs
 |2,_=>by exact ft Tryz.func139 (by decide +kernel) (by kernel_rfl) w vs
 |3,_=>by exact ft Tryz.func142 (by decide +kernel) (by kernel_rfl) w vs
 |4,_=>by exact ft Tryz.func144 (by decide +kernel) (by kernel_rfl) w vs
 |5,_=>by exact ft Tryz.func146 (by decide +kernel) (by kernel_rfl) w vs
 |6,_=>by exact ft Tryz.func147 (by decide +kernel) (by kernel_rfl) w vs
 |_+7,h=>by omega
theorem FJ (w:World) (vs:Array Value):(callFunc 95 vs).run Tryz.prog w=.ok (.enter 95 vs) w:=by exact ft Tryz.func95 (by decide +kernel) (by kernel_rfl) w vs
theorem EI {W:World}{B b:Nat}{s:ByteArray}{k n:Nat}{v:Value}{xs:List Value} (hE:jM W) (hM:gX W) (I:eW W B b s k n v xs) :
  Calls Tryz.prog (BO (cls (aD s k))) #[.pointer (some ⟨b,0,none⟩)] W (gz B b s k n xs W):=by
 have hm:=I.more
 have nn:cw s k=cw s k:=rfl
 conv at nn=>rhs;unfold cw
 rcases FD (aD s k) with ⟨e,h1⟩|⟨n1,⟨e,h2⟩|⟨n2,⟨e,h3⟩|⟨n3,⟨e,h4⟩|⟨n4,⟨e,h5⟩|⟨n5,⟨e,h6⟩|⟨e,n6⟩⟩⟩⟩⟩⟩
 ·rw[e]
  exact z8 I h1
 ·rw[e]
  rw[if_pos h2] at nn
  exact xO I (jZ hm n1 (fun q=>by rw[q] at h2;exact absurd h2 (by decide))) nn
 ·rw[e]
  rw[if_neg n2,if_pos h3] at nn
  exact zZ hE I (jZ hm n1 (fun q=>by rw[q] at h3;exact absurd h3 (by decide))) nn
 ·rw[e]
  rw[if_neg n2,if_neg n3,if_pos h4] at nn
  exact zX hE I (jZ hm n1 (fun q=>by omega)) h4 nn
 ·rw[e]
  rw[if_neg n2,if_neg n3,if_neg n4,if_pos h5] at nn
  exact BQ I (jZ hm n1 (fun q=>by rw[q] at h5;exact absurd h5 (by decide))) nn
 ·rw[e]
  rw[if_neg n2,if_neg n3,if_neg n4,if_neg n5] at nn
  exact vQ hM I h6 (by rw[nn])
 ·rw[e]
  rw[if_neg n2,if_neg n3,if_neg n4,if_neg n5] at nn
  exact BR I (jZ hm n1 n6) (by rw[nn])
end Go.Proofs.YtichhjfjcinjgaaGreatDoor

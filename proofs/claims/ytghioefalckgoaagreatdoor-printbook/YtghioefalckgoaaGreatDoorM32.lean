import Derived.Test.YtghioefalckgoaaGreatDoorM31
namespace Go.Proofs.YtghioefalckgoaaGreatDoor
open Go.RowKit
theorem df {n:Nat}{x y:Int} (h:kQ n x=some y):y=x-n∧0≤y:=by
 unfold kQ at h
 split at h
 ·obtain rfl:=zC h;exact ⟨rfl,by assumption⟩
 ·cases h
theorem Cu:∀(l:List Fd) (h b r:Int),GC l h b=some r→(h=0∨(1≤h∧h≤b))→0≤b→∀d ∈ l,d.aH≠0→1≤d.aH∧d.aH≤r
 |[],_,_,_,_,_,_,d,hd,_=>by simp at hd
 |c::l,h,b,r,e,hh,hb,d,hd,FB=>by
  unfold GC at e
  split at e
  ·rename_i hc
   split at e
   ·cases e
   ·rename_i VG
    have Tw:c.aH=b+1:=by simpa using VG
    have hle:=yy l _ _ _ e
    rcases List.mem_cons.1 hd with rfl|hm
    ·omega
    ·exact Cu l _ _ _ e (.inr (by omega)) (by omega) d hm FB
  ·rename_i hc
   have hle:=yy l _ _ _ e
   rcases List.mem_cons.1 hd with rfl|hm
   ·by_cases hz:d.aH=h
    ·rcases hh with h0|h0<;>omega
    ·exact absurd ⟨FB,hz⟩ hc
   ·refine Cu l _ _ _ e ?_ hb d hm FB
    by_cases hz:c.aH=0
    ·exact .inl hz
    ·by_cases fJ:c.aH=h
     ·rcases hh with h0|h0
      ·omega
      ·exact .inr (by omega)
     ·exact absurd ⟨hz,fJ⟩ hc
theorem I2 {l:List Fd}{n:Nat} (h:MF l n=true):∀d ∈ l,d.aH≠0→1≤d.aH∧d.aH≤n:=by
 unfold MF at h
 split at h
 ·cases h
 ·rename_i b hb
  have:b=(n:Int):=by simpa using h
  subst this
  exact Cu l 0 0 _ hb (.inl rfl) (Int.le_refl _)
theorem FH (l:List Fd):∀i,i≤l.length→(ck (l.take i)).flatten=l.take i:=by
 intro i
 induction i with
 |zero=>intro _;simp[ck]
 |succ i ih =>
  intro h
  have hi:i<l.length:=by omega
  have h2:=ih (by omega)
  rw[mI (List.getElem?_eq_getElem hi),dB (List.getElem?_eq_getElem hi)]
  obtain ⟨gs,GM⟩:∃gs,ck (l.take i)=gs:=⟨_,rfl⟩
  rw[GM] at h2 ⊢
  unfold rh
  split
  ·rename_i hc
   unfold yX at hc
   have jN:gs≠[]:=by rintro rfl;simp at hc
   obtain ⟨G,r,rfl⟩:∃r G,gs=r++[G]:=⟨_,_,(List.dropLast_concat_getLast jN).symm⟩
   rw[←h2]
   simp
  ·rw[List.flatten_append,h2]
   simp
theorem CY (l:List Fd):(ck l).flatten=l:=by
 have:=FH l l.length (zD _)
 rwa [List.take_length] at this
theorem yW (l:List Fd):∀G ∈ ck l,G≠[]∧∀d ∈ G,d ∈ l:=by
 have:=Bh l l.length (zD _)
 rwa [List.take_length] at this
theorem J6 {n:Nat} (hn:n≤99) {os:List ByteArray} (ho:∀s ∈ os,s.size≤255) {G:List Fd} (hG:G≠[]) (hf:∀d ∈ G,eK d=true):(hI n os G).length≤4000*G.length:=by
 unfold hI
 split
 ·exact absurd rfl hG
 ·rename_i d r
  have h1:1≤(d::r).length:=by simp
  have q0:=pa (g:=bY n) (k:=2000) (d::r) (fun x hx=>vG (by omega) (hf x hx))
  have q1:=pa (g:=bY (n+1)) (k:=2000) (d::r) (fun x hx=>vG (by omega) (hf x hx))
  split
  ·have hb:(os.getD (d.aH.toNat-1) ⟨#[]⟩).size≤255:=by
    rw[List.getD_eq_getElem?_getD]
    cases e:os[d.aH.toNat-1]? with
    |none=>exact Nat.zero_le _
    |some s=>exact ho s (List.mem_of_getElem? e)
   have:=pj (n:=n) (by omega) (a:=pN) (by decide) hb ((d::r).flatMap (bY (n+1)))
   omega
  ·omega
theorem xO {n:Nat} (hn:n≤99) {os:List ByteArray} (ho:∀s ∈ os,s.size≤255):∀(gs:List (List Fd)),(∀G ∈ gs,G≠[]∧∀d ∈ G,eK d=true)→(gs.flatMap (hI n os)).length≤4000*gs.flatten.length
 |[],_=>by simp
 |G::r,h=>by
  have ih:=xO hn ho r (fun K hK=>h K (zF _ hK))
  have h1:=J6 hn ho (h G (List.mem_cons_self ..)).1 (h G (List.mem_cons_self ..)).2
  rw[List.flatMap_cons,zK,List.flatten_cons,zK,Nat.mul_add]
  omega
theorem kZ {α:Type}{q:α→Int→Option Int}{g:α→List Nat}{P:α→Prop}:∀(l:List α),(∀a ∈ l,∀x y,x≤4096→q a x=some y→P a∧(0≤x→0≤y)∧y≤x∧((g a).length:Int)≤2000+4000*(x-y))→∀x y,x≤4096→gi q l x=some y→(∀a ∈ l,P a)∧(0≤x→0≤y)∧y≤x∧((l.flatMap g).length:Int)≤2000*l.length+4000*(x-y)
 |[],_,x,y,_,e=>by
  obtain rfl:=zC e
  refine ⟨fun a ha=>by simp at ha,id,Int.le_refl _,by simp⟩
 |a::r,h,x,y,hx,e=>by
  unfold gi at e
  cases hq:q a x with
  |none=>rw[hq] at e;cases e
  |some z =>
   rw[hq] at e
   obtain ⟨p1,p2,p3,p4⟩:=h a (List.mem_cons_self ..) x z hx hq
   obtain ⟨r1,r2,r3,r4⟩:=kZ r (fun b hb=>h b (zF _ hb)) z y (by omega) e
   refine ⟨fun b hb=>?_,fun h0=>r2 (p2 h0),by omega,?_⟩
   ·rcases List.mem_cons.1 hb with rfl|hb
    ·exact p1
    ·exact r1 b hb
   ·rw[List.flatMap_cons,zK,List.length_cons]
    push_cast
    omega
theorem Bo {n:Nat} (hn:n≤99) (e:En) (x y:Int) (hx:x≤4096) (h:fT e x=some y):(Oi e∧kH e=true)∧(0≤x→0≤y)∧y≤x∧((zU n e).length:Int)≤2000+4000*(x-y):=by
 unfold fT at h
 split at h
 ·cases h
 ·rename_i x1 hl
  obtain ⟨rfl,h0⟩:=df hl
  split at h
  ·rename_i nn
   obtain rfl:=zC h
   obtain ⟨k1,k2,k3⟩:=Km (n:=n+1) (by omega) nn ⟨by omega,by omega⟩
   have k4:=pj (n:=n) (by omega) (a:=qB) (by decide) k2 (fx (n+1) e)
   refine ⟨⟨k1,nn⟩,fun _=>h0,by omega,?_⟩
   unfold zU
   omega
  ·cases h
def WG:Nat→Ms→Prop
 |0,_=>False
 |f+1,.mk nm fs os ms es rs gs=>Cw nm fs os rs gs=true∧(∀m ∈ ms,WG f m)∧∀e ∈ es,kH e=true
theorem DS:∀(f n:Nat),n+f≤90→∀(m:Ms) (x y:Int),x≤4096→mY f m x=some y→(Pz f m∧WG f m∧m.nm.size≤255)∧(0≤x→0≤y)∧y≤x∧((eB f n m).length:Int)≤4000*(x-y)
 |0,_,_,_,_,_,_,e=>by cases e
 |f+1,n,hn,.mk nm fs os ms es rs gs,x,y,hx,e=>by
  unfold mY at e
  split at e
  ·cases e
  ·rename_i x1 hl
   obtain ⟨rfl,h0⟩:=df hl
   split at e
   ·rename_i nn
    have aas:=nn
    unfold Cw at nn
    simp only[Bool.and_eq_true] at nn
    obtain ⟨⟨⟨⟨⟨h1,h2⟩,h3⟩,h4⟩,h5⟩,h6⟩:=nn
    have VA:∀d ∈ fs,eK d=true:=fun d hd=>List.all_eq_true.1 h3 d hd
    have hos:∀s ∈ os,s.size≤255:=fun s hs=>fw (List.all_eq_true.1 h2 s hs)
    have GM:∀s ∈ gs,s.size≤255:=fun s hs=>fw (List.all_eq_true.1 h6 s hs)
    have hrs:=yp (by decide) (by decide) h5
    split at e
    ·cases e
    ·rename_i x2 hm
     obtain ⟨m1,m2,m3,m4⟩:=kZ (P:=fun m=>Pz f m∧WG f m) (g:=fun m=>eU n bE m.nm (eB f (n+1) m)) ms (fun m _ u v hu hv=>by
      obtain ⟨⟨p1,p2,p3⟩,p4,p5,p6⟩:=DS f (n+1) (by omega) m u v hu hv
      have:=pj (n:=n) (by omega) (a:=bE) (by decide) p3 (eB f (n+1) m)
      exact ⟨⟨p1,p2⟩,p4,p5,by omega⟩) _ _ (by omega) hm
     obtain ⟨e1,e2,e3,e4⟩:=kZ (P:=fun e=>Oi e∧kH e=true) (g:=zU n) es (fun d _ u v hu hv=>Bo (by omega) d u v hu hv) _ _ (by omega) e
     have g1:=xO (n:=n) (by omega) hos (ck fs) (fun G hG=>⟨(yW fs G hG).1,fun d hd=>VA d ((yW fs G hG).2 d hd)⟩)
     rw[CY] at g1
     have r1:=AB (n:=n) (by omega) (most:=536870911) hrs GM
     refine ⟨⟨⟨⟨by omega,by omega,by omega⟩,fun d hd=>⟨(vF (VA d hd)).1,I2 h4 d hd⟩,hrs,fun s hs=>by have:=GM s hs;omega,fun m hm=>(m1 m hm).1,fun d hd=>(e1 d hd).1⟩,⟨aas,fun m hm=>(m1 m hm).2,fun d hd=>(e1 d hd).2⟩,fw h1⟩,fun _=>e2 (m2 h0),by omega,?_⟩
     unfold eB
     simp only[zK]
     push_cast
     omega
   ·cases e
structure RtF (F:Fl):Prop where
 pk:F.dj.toList.isEmpty=true∨fj F.dj=true
 im:∀s ∈ F.bp,lq s=true
 ms:∀m ∈ F.ms,WG 32 m
 es:∀e ∈ F.es,kH e=true
theorem FM {F:Fl} (h:(jG F).isSome=true):RtF F∧F.bp.length≤4096∧(∀s ∈ F.bp,s.size≤1048576)∧(∀m ∈ F.ms,Pz 32 m)∧(∀e ∈ F.es,Oi e)∧(gu F).length≤1099511627776:=by
 obtain ⟨y,hy⟩:=zG h
 unfold jG at hy
 split at hy
 ·rename_i Lz
  simp only[Bool.or_eq_true] at Lz
  split at hy
  ·cases hy
  ·rename_i x1 hl
   obtain ⟨rfl,h0⟩:=df hl
   split at hy
   ·rename_i him
    split at hy
    ·cases hy
    ·rename_i x2 hm
     obtain ⟨m1,m2,m3,m4⟩:=kZ (P:=fun m=>Pz 32 m∧WG 32 m) (g:=fun m=>eU 0 bE m.nm (eB 32 (0+1) m)) F.ms (fun m _ u v hu hv=>by
      obtain ⟨⟨p1,p2,p3⟩,p4,p5,p6⟩:=DS 32 (0+1) (by omega) m u v hu hv
      have:=pj (n:=0) (by omega) (a:=bE) (by decide) p3 (eB 32 (0+1) m)
      exact ⟨⟨p1,p2⟩,p4,p5,by omega⟩) _ _ (by omega) hm
     obtain ⟨e1,e2,e3,e4⟩:=kZ (P:=fun e=>Oi e∧kH e=true) (g:=zU 0) F.es (fun d _ u v hu hv=>Bo (by omega) d u v hu hv) _ _ (by omega) hy
     have Vs:∀s ∈ F.bp,lq s=true:=fun s hs=>List.all_eq_true.1 him s hs
     have Rf:∀s ∈ F.bp,s.size≤255:=fun s hs=>by
      have:=Vs s hs
      unfold lq at this
      simp only[Bool.and_eq_true,decide_eq_true_eq] at this
      omega
     have i1:=pa (g:=oT) (k:=2000) F.bp (fun s hs=>by
      unfold oT
      rw[gB]
      simp only[List.map_cons,List.map_nil,List.sum_cons,List.sum_nil]
      have e1:oF.size=7:=rfl
      have e2:fM.size=1:=rfl
      have:=qC (Rf s hs)
      omega)
     have p1:(qY F.dj).length≤2000:=by
      unfold qY
      split
      ·simp
      ·rename_i jN
       have:=uT (Lz.resolve_left jN)
       rw[gB]
       simp only[List.map_cons,List.map_nil,List.sum_cons,List.sum_nil]
       have e1:oE.size=8:=rfl
       have e2:fM.size=1:=rfl
       omega
     have s1:(bK 0 [iJ]).length=19:=rfl
     refine ⟨⟨Lz,Vs,fun m hm=>(m1 m hm).2,fun d hd=>(e1 d hd).2⟩,by omega,fun s hs=>by have:=Rf s hs;omega,fun m hm=>(m1 m hm).1,fun d hd=>(e1 d hd).1,?_⟩
     have n2:=m2 h0
     have n3:=e2 n2
     unfold gu q7
     simp only[zK]
     omega
   ·cases hy
 ·cases hy
theorem fS {α:Type}{g:α→List Nat}{l:List α} (h:∀a ∈ l,pz (g a)):pz (l.flatMap g):=fun x hx=>by
 obtain ⟨a,ha,hxa⟩:=List.mem_flatMap.1 hx
 exact h a ha x hxa
theorem AK (n:Nat) (ts:List ByteArray):pz (qX n ts):=by
 unfold qX
 split
 ·exact eT _ _
 ·exact fun x hx=>by simp at hx
theorem AD (n:Nat) (m:Int) (rs:List (Int×Int)) (gs:List ByteArray):pz (lL n m rs gs):=(AK _ _).append (AK _ _)
theorem pn {n:Nat}{a b:ByteArray}{I:List Nat} (h:pz I):pz (eU n a b I):=((eT _ _).append h).append (eT _ _)
theorem Ek (n:Nat) (e:En):pz (zU n e):=pn ((AD _ _ _ _).append (fS fun _ _=>eT _ _))
theorem J7 (n:Nat) (os:List ByteArray) (G:List Fd):pz (hI n os G):=by
 unfold hI
 split
 ·exact fun x hx=>by simp at hx
 ·split
  ·exact pn (fS fun _ _=>eT _ _)
  ·exact fS fun _ _=>eT _ _
theorem AS:∀(f n:Nat) (m:Ms),pz (eB f n m)
 |0,_,_=>fun x hx=>by unfold eB at hx;simp at hx
 |f+1,n,.mk nm fs os ms es rs gs=>by
  unfold eB
  exact ((AD _ _ _ _).append (fS fun _ _=>J7 _ _ _)).append ((fS fun m _=>pn (AS f (n+1) m)).append (fS fun _ _=>Ek _ _))
theorem FN (F:Fl):pz (gu F):=by
 unfold gu q7
 refine (((eT _ _).append ?_).append (fS fun _ _=>eT _ _)).append ((fS fun m _=>pn (AS _ _ m)).append (fS fun _ _=>Ek _ _))
 unfold qY
 split
 ·exact fun x hx=>by simp at hx
 ·exact eT _ _
theorem vk {α β:Type} (f:α→β) (lt:β→β→Bool) (x:α):∀l:List α,kB lt (f x) (l.map f)=(kB (fun a b=>lt (f a) (f b)) x l).map f
 |[]=>rfl
 |y::r=>by
  show (if lt (f x) (f y) then f y::kB lt (f x) (r.map f) else f x::f y::r.map f)=(if lt (f x) (f y) then y::kB (fun a b=>lt (f a) (f b)) x r else x::y::r).map f
  rw[vk f lt x r]
  cases lt (f x) (f y)<;>simp
theorem Js {α β:Type} (f:α→β) (lt:β→β→Bool) (l:List α) (x:α):cX lt (l.map f) (f x)=(cX (fun a b=>lt (f a) (f b)) l x).map f:=by
 unfold cX
 rw[←List.map_reverse,vk,List.map_reverse]
theorem DU {α β:Type} (f:α→β) (lt:β→β→Bool):∀(v u:List α),fO lt (u.map f) (v.map f)=(fO (fun a b=>lt (f a) (f b)) u v).map f
 |[],u=>rfl
 |x::v,u=>by
  show fO lt (cX lt (u.map f) (f x)) (v.map f)=_
  rw[Js,DU f lt v]
  rfl
theorem jV {α β:Type} (f:α→β) (lt:β→β→Bool) (l:List α):cR lt (l.map f)=(cR (fun a b=>lt (f a) (f b)) l).map f:=DU f lt l []
theorem oS {α:Type}{lt lt':α→α→Bool}{x:α}:∀{l:List α},(∀y ∈ l,lt x y=lt' x y)→kB lt x l=kB lt' x l
 |[],_=>rfl
 |y::r,h=>by
  unfold kB
  rw[h y (by simp),oS (l:=r) (fun z hz=>h z (by simp[hz]))]
theorem xC {α:Type}{lt lt':α→α→Bool}{P:α→Prop} (hP:∀a b,P a→P b→lt a b=lt' a b):∀(v u:List α),(∀x ∈ u,P x)→(∀x ∈ v,P x)→fO lt u v=fO lt' u v
 |[],_,_,_=>rfl
 |x::v,u,hu,hv=>by
  have hx:=hv x (by simp)
  have e:cX lt u x=cX lt' u x:=by
   unfold cX
   rw[oS (lt':=lt') (fun y hy=>hP x y hx (hu y (by simpa using hy)))]
  show fO lt (cX lt u x) v=fO lt' (cX lt' u x) v
  rw[e]
  refine xC hP v _ (fun y hy=>?_) (fun y hy=>hv y (by simp[hy]))
  rcases (vj lt' u x y).1 hy with rfl|h
  ·exact hx
  ·exact hu y h
theorem xp {α:Type}{lt lt':α→α→Bool}{l:List α} (h:∀a ∈ l,∀b ∈ l,lt a b=lt' a b):cR lt l=cR lt' l :=
 xC (P:=fun x=>x ∈ l) (fun a b ha hb=>h a ha b hb) l [] (fun x hx=>by cases hx) (fun x hx=>hx)
def Tg (a b:ByteArray):Bool:=Op.bytesLess a.toList b.toList
def GD (a b:Int):Bool:=decide (a<b)
def lV (l:List ByteArray):List ByteArray:=cR Tg l
def G9 (v:ByteArray×Int):Int:=if v.2=0 then -9223372036854775808 else v.2
def ID (l:List (ByteArray×Int)):List (ByteArray×Int):=cR (fun a b=>GD (G9 a) (G9 b)) l
def dk (out:List (Int×Int)) (r:Int×Int):List (Int×Int):=match out.getLast? with
 |some p=>if r.1=p.2+1 then out.dropLast++[(p.1,r.2)] else out++[r]
 |none=>out++[r]
def iD (l:List (Int×Int)):List (Int×Int):=(cR (fun a b=>GD a.1 b.1) (cR (fun a b=>GD a.2 b.2) l)).foldl dk []
def fA (e:En):En:=⟨e.name,ID e.aW,iD e.res,lV e.gone⟩
def dM (l:List En):List En:=cR (fun a b=>Tg a.name b.name) (l.map fA)
def Ph:List Fd→Int
 |[]=>0
 |d::_=>d.num
def xu (gs:List (List Fd)):List (List Fd):=cR (fun a b=>GD (Ph a) (Ph b)) (gs.map (cR fun a b=>GD a.num b.num))
def pZ (o:Int) (d:Fd):Fd:=⟨d.aZ,d.key,d.ty,d.name,d.num,o⟩
def yu (os:List ByteArray) (s:List Fd×List ByteArray) (G:List Fd):List Fd×List ByteArray:=match G with
 |[]=>s
 |d::_=>if d.aH=0 then (s.1++G.map (pZ 0),s.2) else (s.1++G.map (pZ ((s.2.length+1:Nat):Int)),s.2++[os.getD (d.aH.toNat-1) ⟨#[]⟩])
def eF (fs:List Fd) (os:List ByteArray):List Fd×List ByteArray:=(xu (ck fs)).foldl (yu os) ([],[])
def iG:Nat→Ms→Ms
 |0,m=>m
 |f+1,.mk nm fs os ms es rs gs=>.mk nm (eF fs os).1 (eF fs os).2 (cR (fun a b=>Tg a.nm b.nm) (ms.map (iG f))) (dM es) (iD rs) (lV gs)
def dL (f:Nat) (l:List Ms):List Ms:=cR (fun a b=>Tg a.nm b.nm) (l.map (iG f))
def cL (F:Fl):Fl:=⟨F.dj,lV F.bp,dL 32 F.ms,dM F.es⟩
def nZ (s:ByteArray):Prop:=s.size≤281474976710656
def K7 (r:Int×Int):Prop:=(-2147483648≤r.1∧r.1≤2147483647)∧(-2147483648≤r.2∧r.2≤2147483647)
structure Oe (e:En):Prop where
 nm:nZ e.name
 v1:e.aW.length≤4096
 v2:∀v ∈ e.aW,nZ v.1
 r1:e.res.length≤4096
 r2:∀r ∈ e.res,K7 r
 g1:e.gone.length≤4096
 g2:∀s ∈ e.gone,nZ s
structure aaL (nm:ByteArray) (fs:List Fd) (os:List ByteArray) (ms:List Ms) (es:List En) (rs:List (Int×Int)) (gs:List ByteArray):Prop where
 n0:nZ nm
 f1:fs.length≤4096
 f2:∀d ∈ fs,(nZ d.key∧nZ d.ty∧nZ d.name)∧(d.aH≠0→1≤d.aH∧d.aH≤os.length)
 o1:os.length≤4096
 o2:∀s ∈ os,nZ s
 m1:ms.length≤4096
 e1:es.length≤4096
 r1:rs.length≤4096
 r2:∀r ∈ rs,K7 r
 g1:gs.length≤4096
 g2:∀s ∈ gs,nZ s
def Py:Nat→Ms→Prop
 |0,_=>False
 |f+1,.mk nm fs os ms es rs gs=>aaL nm fs os ms es rs gs∧(∀m ∈ ms,Py f m)∧∀e ∈ es,Oe e
structure SrF (F:Fl):Prop where
 p:nZ F.dj
 i1:F.bp.length≤4096
 i2:∀s ∈ F.bp,nZ s
 m1:F.ms.length≤4096
 m2:∀m ∈ F.ms,Py 32 m
 e1:F.es.length≤4096
 e2:∀e ∈ F.es,Oe e
theorem kJ {s:ByteArray} (h:dG s=true):nZ s:=Nat.le_trans (fw h) (by decide)
theorem kX {α:Type}{q:α→Int→Option Int}{P:α→Prop}:∀(l:List α),(∀a ∈ l,∀x y,x≤4096→q a x=some y→P a∧y≤x)→∀(x y:Int),x≤4096→gi q l x=some y→(∀a ∈ l,P a)∧y≤x
 |[],_,x,y,_,e=>by
  obtain rfl:=zC e
  exact ⟨fun a ha=>by simp at ha,Int.le_refl _⟩
 |a::r,h,x,y,hx,e=>by
  unfold gi at e
  cases hq:q a x with
  |none=>rw[hq] at e;cases e
  |some z =>
   rw[hq] at e
   obtain ⟨p1,p2⟩:=h a (List.mem_cons_self ..) x z hx hq
   obtain ⟨r1,r2⟩:=kX r (fun b hb=>h b (zF _ hb)) z y (by omega) e
   refine ⟨fun b hb=>?_,by omega⟩
   rcases List.mem_cons.1 hb with rfl|hb
   ·exact p1
   ·exact r1 b hb
theorem Ej (e:En) (x y:Int) (hx:x≤4096) (h:fT e x=some y):Oe e∧y≤x:=by
 unfold fT at h
 split at h
 ·cases h
 ·rename_i x1 hl
  obtain ⟨rfl,h0⟩:=df hl
  split at h
  ·rename_i nn
   obtain rfl:=zC h
   unfold kH at nn
   simp only[Bool.and_eq_true] at nn
   obtain ⟨⟨⟨⟨h1,h2⟩,h3⟩,h4⟩,h5⟩:=nn
   refine ⟨⟨kJ h1,by omega,fun v hv=>?_,by omega,yp (by decide) (by decide) h4,by omega,fun s hs=>kJ (List.all_eq_true.1 h5 s hs)⟩,by omega⟩
   have:=List.all_eq_true.1 h3 v hv
   unfold ju at this
   simp only[Bool.and_eq_true] at this
   exact kJ this.1.1.1
  ·cases h
theorem OM:∀(f:Nat) (m:Ms) (x y:Int),x≤4096→mY f m x=some y→Py f m∧y≤x
 |0,_,_,_,_,e=>by cases e
 |f+1,.mk nm fs os ms es rs gs,x,y,hx,e=>by
  unfold mY at e
  split at e
  ·cases e
  ·rename_i x1 hl
   obtain ⟨rfl,h0⟩:=df hl
   split at e
   ·rename_i nn
    unfold Cw at nn
    simp only[Bool.and_eq_true] at nn
    obtain ⟨⟨⟨⟨⟨h1,h2⟩,h3⟩,h4⟩,h5⟩,h6⟩:=nn
    split at e
    ·cases e
    ·rename_i x2 hm
     obtain ⟨m1,m2⟩:=kX (P:=Py f) ms (fun m _ u v hu hv=>OM f m u v hu hv) _ _ (by omega) hm
     obtain ⟨e1,e2⟩:=kX (P:=Oe) es (fun d _ u v hu hv=>Ej d u v hu hv) _ _ (by omega) e
     refine ⟨⟨⟨kJ h1,by omega,fun d hd=>⟨?_,I2 h4 d hd⟩,by omega,fun s hs=>kJ (List.all_eq_true.1 h2 s hs),by omega,by omega,by omega,yp (by decide) (by decide) h5,by omega,fun s hs=>kJ (List.all_eq_true.1 h6 s hs)⟩,m1,e1⟩,by omega⟩
     obtain ⟨⟨-,k1,k2⟩,k3⟩:=vF (List.all_eq_true.1 h3 d hd)
     exact ⟨Nat.le_trans k1 (by decide),Nat.le_trans k2 (by decide),Nat.le_trans k3 (by decide)⟩
   ·cases e
theorem Ef {F:Fl} (h:(jG F).isSome=true):SrF F:=by
 obtain ⟨y,hy⟩:=zG h
 unfold jG at hy
 split at hy
 ·rename_i Lz
  simp only[Bool.or_eq_true] at Lz
  split at hy
  ·cases hy
  ·rename_i x1 hl
   obtain ⟨rfl,h0⟩:=df hl
   split at hy
   ·rename_i him
    split at hy
    ·cases hy
    ·rename_i x2 hm
     obtain ⟨m1,m2⟩:=kX (P:=Py 32) F.ms (fun m _ u v hu hv=>OM 32 m u v hu hv) _ _ (by omega) hm
     obtain ⟨e1,e2⟩:=kX (P:=Oe) F.es (fun d _ u v hu hv=>Ej d u v hu hv) _ _ (by omega) hy
     refine ⟨?_,by omega,fun s hs=>?_,by omega,m1,by omega,e1⟩
     ·rcases Lz with h|h
      ·have:F.dj.size=0:=by
        have h2:F.dj.toList=[]:=by simpa using h
        rw[Lib.size_eq,←Lib.toList_data,h2]
        rfl
       unfold nZ
       omega
      ·exact Nat.le_trans (uT h) (by decide)
     ·have:=List.all_eq_true.1 him s hs
      unfold lq at this
      simp only[Bool.and_eq_true,decide_eq_true_eq] at this
      unfold nZ
      omega
   ·cases hy
 ·cases hy
end Go.Proofs.YtghioefalckgoaaGreatDoor

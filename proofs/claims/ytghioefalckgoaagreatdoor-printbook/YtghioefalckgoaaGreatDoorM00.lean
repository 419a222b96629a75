import Derived.RowKit
import Derived.Test.YtghioefalckgoaaGreatDoorChecked
import Derived.WalkKit
import Derived.WalkSpells
import Derived.StillTactics
import Derived.OwnWalk
import Derived.Below
import Derived.Deep.LoopGhost
import Derived.Deep.AppendLies
import Derived.Maps.AppendAt
import Derived.Deep.RegionHeld3
import Derived.KernelRfl
import Derived.Laws.BitsLemmas
import Derived.Laws.BitsAllLaws
import Derived.Deep.DrawnRows
import Derived.BigQuiet
import Derived.Deep.QuietTactic
import Derived.RangeFuncLeaves
import Derived.Laws.IdiomStrings
import Derived.Laws.BytesArg
import Derived.Laws.CopyOwn
import Derived.Lib.SlBytesConst
import Derived.Laws.Externs
import Derived.Laws.StandIn
import Derived.OrdersHeld
import Derived.Deep.MidRow
set_option maxRecDepth 100000
namespace Go.Proofs.YtghioefalckgoaaGreatDoor
open Go.RowKit
theorem zA {α:Type} {x:Array α} {i:Nat} {b:α} (h:x[i]?=some b):∃h:i<x.size,x[i]=b:=Array.getElem?_eq_some_iff.1 h
theorem zB {α:Type} {x:List α} {i:Nat} {b:α} (h:x[i]?=some b):∃h:i<x.length,x[i]=b:=List.getElem?_eq_some_iff.1 h
theorem zC {α:Type} {a b:α} (h:some a=some b):a=b:=Option.some.inj h
theorem zD (n:Nat):n≤n:=Nat.le_refl n
theorem zE (k:Nat) (w:World):Below k w w:=Below.refl k w
theorem zF {α:Type} {a:α} {l:List α} (y:α) (h:a∈l):a∈y::l:=List.mem_cons_of_mem y h
theorem zG {α:Type} {x:Option α} (h:x.isSome=true):∃a,x=some a:=Option.isSome_iff_exists.1 h
theorem zI (w:World) (o:Option Nat):w.grownBy w o:=World.grownBy.refl w o
theorem zJ (w:World) (o:Obj):(w.alloc o).heap.size=w.heap.size+1:=World.size_alloc w o
theorem zK {α:Type} {l m:List α}:(l++m).length=l.length+m.length:=List.length_append
theorem zL {α:Type} (l:List α) (i:Nat) (a:α):l.toArray.setIfInBounds i a=(l.set i a).toArray:=List.setIfInBounds_toArray l i a
theorem zM {α:Type} {l:List α} {a b:α}:(a::l).set 0 b=b::l:=rfl
theorem zN {α:Type} {l:List α} {n:Nat} {a b:α}:(a::l).set (n+1) b=a::l.set n b:=rfl
theorem zH (n:Nat):(0:Int)≤(n:Int):=Int.natCast_nonneg n
end Go.Proofs.YtghioefalckgoaaGreatDoor
namespace Go.Proofs.YtghioefalckgoaaGreatDoor
open Go.RowKit
variable {α : Type}
def kB (lt:α→α→Bool) (x:α):List α→List α
 |[]=>[x]
 |y::r=>if lt x y then y::kB lt x r else x::y::r
def cX (lt:α→α→Bool) (l:List α) (x:α):List α:=(kB lt x l.reverse).reverse
theorem jz (lt:α→α→Bool) (x:α):cX lt [] x=[x]:=rfl
theorem bI (lt:α→α→Bool) (l:List α) (y x:α):cX lt (l++[y]) x=if lt x y then cX lt l x++[y] else l++[y,x]:=by
 unfold cX
 rw[List.reverse_append,List.reverse_singleton,List.singleton_append]
 show (if lt x y then y::kB lt x l.reverse else x::y::l.reverse).reverse=_
 split
 ·rw[List.reverse_cons]
 ·simp
theorem eG {P:List α→Prop} (h0:P []) (h1:∀l x,P l→P (l++[x])) (l:List α):P l:=by
 have h:∀r:List α,P r.reverse:=by
  intro r
  induction r with
  |nil=>exact h0
  |cons x r ih=>rw[List.reverse_cons];exact h1 _ _ ih
 have:=h l.reverse
 rwa [List.reverse_reverse] at this
theorem Jt (lt:α→α→Bool) (l:List α) (x:α):(cX lt l x).length=l.length+1:=by
 induction l using eG with
 |h0=>rfl
 |h1 l y ih =>
  rw[bI]
  split
  ·simp[ih]
  ·simp
theorem vj (lt:α→α→Bool) (l:List α) (x z:α):z ∈ cX lt l x↔z=x∨z ∈ l:=by
 induction l using eG with
 |h0=>simp[jz]
 |h1 l y ih =>
  rw[bI]
  split
  ·simp[ih,or_assoc]
  ·simp only[List.mem_append,List.mem_cons,List.not_mem_nil,or_false]
   constructor
   ·rintro (h|h|h)<;>simp[h]
   ·rintro (h|h|h)<;>simp[h]
theorem xH (lt:α→α→Bool) (w u:List α) (y:α) (h:∀z ∈ u,lt y z=true):cX lt (w++u) y=cX lt w y++u:=by
 induction u using eG with
 |h0=>simp
 |h1 u z ih =>
  rw[←List.append_assoc,bI,if_pos (h z (by simp)),ih (fun z' hz=>h z' (by simp[hz])),List.append_assoc]
theorem pX (lt:α→α→Bool) (w t:List α) (z:α) (h:∀x ∈ w,lt z x=false):cX lt (w++t) z=w++cX lt t z:=by
 induction t using eG with
 |h0 =>
  rw[List.append_nil,jz]
  induction w using eG with
  |h0=>rfl
  |h1 w y _ =>
   rw[bI,if_neg (by rw[h y (by simp)];simp)]
   simp
 |h1 t y ih =>
  rw[←List.append_assoc,bI,bI]
  split
  ·rw[ih,List.append_assoc]
  ·rw[List.append_assoc]
def fO (lt:α→α→Bool) (u v:List α):List α:=v.foldl (cX lt) u
theorem yD (lt:α→α→Bool) (u:List α):fO lt u []=u:=rfl
theorem yE (lt:α→α→Bool) (u v:List α):(fO lt u v).length=u.length+v.length:=by
 induction v generalizing u with
 |nil=>rfl
 |cons x v ih=>show (fO lt (cX lt u x) v).length=_;rw[ih,Jt,List.length_cons];omega
theorem DT (lt:α→α→Bool) (u v:List α) (z:α):z ∈ fO lt u v↔z ∈ u∨z ∈ v:=by
 induction v generalizing u with
 |nil=>simp[yD]
 |cons x v ih =>
  show z ∈ fO lt (cX lt u x) v↔_
  rw[ih,vj,List.mem_cons]
  constructor
  ·rintro ((h|h)|h)<;>simp[h]
  ·rintro (h|h|h)<;>simp[h]
theorem jZ (lt:α→α→Bool) (u v w:List α):fO lt u (v++w)=fO lt (fO lt u v) w:=List.foldl_append ..
theorem I9 (lt:α→α→Bool) (w u v:List α) (h:∀y ∈ v,∀z ∈ u,lt y z=true):fO lt (w++u) v=fO lt w v++u:=by
 induction v generalizing w with
 |nil=>rfl
 |cons y v ih =>
  show fO lt (cX lt (w++u) y) v=fO lt (cX lt w y) v++u
  rw[xH lt w u y (h y (by simp)),ih _ (fun y' hy=>h y' (by simp[hy]))]
theorem I8 (lt:α→α→Bool) (w t v:List α) (h:∀z ∈ v,∀x ∈ w,lt z x=false):fO lt (w++t) v=w++fO lt t v:=by
 induction v generalizing t with
 |nil=>rfl
 |cons z v ih =>
  show fO lt (cX lt (w++t) z) v=w++fO lt (cX lt t z) v
  rw[pX lt w t z (h z (by simp)),ih _ (fun z' hz=>h z' (by simp[hz]))]
structure Ord (lt:α→α→Bool):Prop where
 KK:∀x y,lt x y=true→lt y x=false
 tr:∀x y z,lt y x=false→lt z y=false→lt z x=false
theorem Ord.irr {lt:α→α→Bool} (h:Ord lt) (x:α):lt x x=false:=by
 cases hc:lt x x with
 |false=>rfl
 |true=>rw[h.KK x x hc] at hc;cases hc
theorem Ord.Je {lt:α→α→Bool} (h:Ord lt) {x y z:α} (h1:lt y x=false) (h2:lt y z=true):lt x z=true:=by
 cases hc:lt x z with
 |true=>rfl
 |false=>rw[h.tr z x y hc h1] at h2;cases h2
theorem Ord.ON {lt:α→α→Bool} (h:Ord lt) {x y z:α} (h1:lt x y=true) (h2:lt z y=false):lt x z=true:=by
 cases hc:lt x z with
 |true=>rfl
 |false=>rw[h.tr y z x h2 hc] at h1;cases h1
def nR (lt:α→α→Bool) (l:List α):Prop:=l.Pairwise fun x y=>lt y x=false
theorem Mt {lt:α→α→Bool} (h:Ord lt) (l:List α) (x:α) (hl:nR lt l):nR lt (cX lt l x):=by
 induction l using eG with
 |h0=>exact List.pairwise_singleton _ _
 |h1 l y ih =>
  have h1:=List.pairwise_append.1 hl
  rw[bI]
  split
  ·rename_i Jw
   refine List.pairwise_append.2 ⟨ih h1.1,List.pairwise_singleton _ _,fun a ha b hb=>?_⟩
   rw[List.mem_singleton.1 hb]
   rcases (vj lt l x a).1 ha with rfl|hm
   ·exact h.KK _ _ Jw
   ·exact h1.2.2 a hm y (by simp)
  ·rename_i Jw
   have Jw:lt x y=false:=by simpa using Jw
   rw[show l++[y,x]=(l++[y])++[x] by simp]
   refine List.pairwise_append.2 ⟨hl,List.pairwise_singleton _ _,fun a ha b hb=>?_⟩
   rw[List.mem_singleton.1 hb]
   rcases List.mem_append.1 ha with hm|hm
   ·exact h.tr _ _ _ (h1.2.2 a hm y (by simp)) Jw
   ·rw[List.mem_singleton.1 hm];exact Jw
theorem DH {lt:α→α→Bool} (h:Ord lt) (u v:List α) (hu:nR lt u):nR lt (fO lt u v):=by
 induction v generalizing u with
 |nil=>exact hu
 |cons x v ih=>exact ih _ (Mt h u x hu)
theorem I' {lt:α→α→Bool} (u v:List α) (hv:nR lt v) (h:∀z ∈ v,∀x ∈ u,lt z x=false):fO lt u v=u++v:=by
 induction v generalizing u with
 |nil=>rw[List.append_nil];rfl
 |cons x v ih =>
  have h1:=List.pairwise_cons.1 hv
  show fO lt (cX lt u x) v=_
  have e:cX lt u x=u++[x]:=by
   have:=pX lt u [] x (h x (by simp))
   rwa [List.append_nil] at this
  rw[e,ih _ h1.2,List.append_assoc]
  ·rfl
  ·intro z hz y hy
   rcases List.mem_append.1 hy with hy|hy
   ·exact h z (by simp[hz]) y hy
   ·rw[List.mem_singleton.1 hy];exact h1.1 z hz
theorem nG {lt:α→α→Bool} (v:List α) (hv:nR lt v):fO lt [] v=v:=I' [] v hv fun _ _ x hx=>by cases hx
theorem DV {lt:α→α→Bool}{u1 u2 v1 v2:List α} (hv:nR lt (v1++v2)) (h1:∀y ∈ v1,∀x ∈ u2,lt y x=true) (h2:∀z ∈ v2,∀x ∈ u1,lt z x=false):fO lt (u1++u2) (v1++v2)=fO lt u1 v1++fO lt u2 v2:=by
 rw[jZ,I9 lt u1 u2 v1 h1,I8]
 intro z hz x hx
 rcases (DT lt u1 v1 x).1 hx with hm|hm
 ·exact h2 z hz x hm
 ·exact (List.pairwise_append.1 hv).2.2 x hm z hz
theorem MQ {lt:α→α→Bool} (h:Ord lt) (l:List α) (a b:α) (hl:nR lt l) (pC:lt b a=true):cX lt (cX lt l a) b=cX lt (cX lt l b) a:=by
 induction l using eG with
 |h0 =>
  rw[jz,jz]
  have e1:=bI lt [] a b
  have e2:=bI lt [] b a
  simp only[List.nil_append] at e1 e2
  rw[e1,e2,if_pos pC,if_neg (by rw[h.KK _ _ pC];simp),jz]
  rfl
 |h1 l y ih =>
  have h1:=List.pairwise_append.1 hl
  rw[bI lt l y a,bI lt l y b]
  by_cases Tx:lt a y=true
  ·have jD:lt b y=true:=h.Je (h.KK _ _ pC) Tx
   rw[if_pos Tx,if_pos jD,bI,if_pos jD,bI,if_pos Tx,ih h1.1]
  ·rw[if_neg Tx]
   have abx:lt a y=false:=by simpa using Tx
   have e:cX lt (l++[y,a]) b=cX lt (l++[y]) b++[a]:=by
    rw[show l++[y,a]=(l++[y])++[a] by simp,bI,if_pos pC]
   rw[e,bI]
   by_cases jD:lt b y=true
   ·rw[if_pos jD,bI,if_neg Tx]
    simp
   ·rw[if_neg jD]
    rw[show l++[y,b]=(l++[y])++[b] by simp,bI,if_neg (by rw[h.KK _ _ pC];simp)]
    simp
def cR (lt:α→α→Bool) (l:List α):List α:=fO lt [] l
theorem ou {lt:α→α→Bool} (h:Ord lt) (l:List α):nR lt (cR lt l):=DH h [] l List.Pairwise.nil
theorem bc (lt:α→α→Bool) (l:List α):(cR lt l).length=l.length:=by unfold cR;rw[yE];simp
theorem du (lt:α→α→Bool) (l:List α) (z:α):z ∈ cR lt l↔z ∈ l:=by unfold cR;rw[DT];simp
theorem ML {lt:α→α→Bool} (h:Ord lt) (u l:List α) (x:α) (hu:nR lt u):fO lt u (cX lt l x)=cX lt (fO lt u l) x:=by
 induction l using eG with
 |h0=>rfl
 |h1 l y ih =>
  rw[bI]
  split
  ·rename_i Jw
   rw[jZ,ih,jZ]
   exact (MQ h (fO lt u l) y x (DH h u l hu) Jw).symm
  ·rw[show l++[y,x]=(l++[y])++[x] by simp,jZ]
   rfl
theorem MJ {lt:α→α→Bool} (h:Ord lt) (u l:List α) (hu:nR lt u):fO lt u (cR lt l)=fO lt u l:=by
 induction l using eG with
 |h0=>rfl
 |h1 l x ih =>
  have e:cR lt (l++[x])=cX lt (cR lt l) x:=by unfold cR;rw[jZ];rfl
  rw[e,ML h u _ x hu,ih,jZ]
  rfl
theorem DI {lt:α→α→Bool} (h:Ord lt) (u v:List α):fO lt (cR lt u) (cR lt v)=cR lt (u++v):=by
 rw[MJ h _ v (ou h u)]
 unfold cR
 rw[jZ]
theorem At (lt:α→α→Bool) (l:List α) (x:α):cR lt (l++[x])=cX lt (cR lt l) x:=by unfold cR;rw[jZ];rfl
theorem Au (lt:α→α→Bool) (l:List α):(cR lt l).Perm l:=by
 have hi:∀(l:List α) x,(cX lt l x).Perm (l++[x]):=by
  intro l x
  induction l using eG with
  |h0=>exact .refl _
  |h1 l y ih =>
   rw[bI]
   split
   ·refine (ih.append_right [y]).trans ?_
    rw[List.append_assoc,List.append_assoc]
    exact List.Perm.append_left l (List.Perm.swap _ _ _)
   ·rw[List.append_assoc]
    exact .refl _
 induction l using eG with
 |h0=>exact .refl _
 |h1 l x ih =>
  rw[At]
  exact (hi _ x).trans (ih.append_right [x])
theorem MK {lt:α→α→Bool}{x:α}{v1 v2:List α} (hv:nR lt (v1++v2)) (h1:∀y ∈ v1,lt y x=true) (h2:∀z ∈ v2,lt z x=false):fO lt [x] (v1++v2)=v1++x::v2:=by
 have h3:=List.pairwise_append.1 hv
 have e:=DV (lt:=lt) (u1:=[]) (u2:=[x]) hv (fun y hy z hz=>by rw[List.mem_singleton.1 hz];exact h1 y hy) (fun _ _ x hx=>by cases hx)
 rw[List.nil_append] at e
 rw[e,nG _ h3.1,I' _ _ h3.2.1 (fun z hz y hy=>by rw[List.mem_singleton.1 hy];exact h2 z hz)]
 rfl
theorem ME {lt:α→α→Bool}{y:α}{u1 u2:List α} (h1:∀x ∈ u1,lt y x=false) (h2:∀x ∈ u2,lt y x=true):fO lt (u1++u2) [y]=u1++y::u2:=by
 show cX lt (u1++u2) y=_
 rw[xH lt u1 u2 y h2]
 have e:=pX lt u1 [] y h1
 rw[List.append_nil] at e
 rw[e,jz]
 simp
def tC (lt:α→α→Bool) (b:Nat) (l:List α):List α:=if _h:l.length≤b∨b=0 then cR lt l else cR lt (l.take b)++tC lt b (l.drop b)
termination_by l.length
decreasing_by rw[List.length_drop];omega
theorem j9 {lt:α→α→Bool}{b:Nat}{l:List α} (h:l.length≤b):tC lt b l=cR lt l:=by rw[tC,dif_pos (.inl h)]
theorem mj {lt:α→α→Bool}{b:Nat}{l:List α} (hb:0<b) (_:b≤l.length):tC lt b l=cR lt (l.take b)++tC lt b (l.drop b):=by
 by_cases he:l.length≤b
 ·rw[j9 he,List.take_of_length_le he,List.drop_of_length_le he,j9 (Nat.zero_le _)]
  show _=_++[]
  rw[List.append_nil]
 ·rw[tC,dif_neg (by omega)]
theorem Ep (lt:α→α→Bool) (b:Nat):∀(n:Nat) (l:List α),l.length≤n→(tC lt b l).length=l.length
 |0,l,h=>by rw[j9 (by omega),bc]
 |n+1,l,h=>by
  by_cases hb:l.length≤b∨b=0
  ·rw[tC,dif_pos hb,bc]
  ·rw[tC,dif_neg hb,zK,bc,Ep lt b n _ (by rw[List.length_drop];omega),List.length_take,List.length_drop]
   omega
theorem N3 {lt:α→α→Bool}{b:Nat}{l:List α} (hb:0<b) (h:2*b≤l.length):tC lt b l=cR lt (l.take b)++(cR lt ((l.drop b).take b)++tC lt b (l.drop (2*b))):=by
 rw[mj hb (by omega),mj (l:=l.drop b) hb (by rw[List.length_drop];omega),List.drop_drop]
 congr 4
 omega
theorem Im (l:List α) (b:Nat):l.take b++(l.drop b).take b=l.take (2*b):=by
 rw[show 2*b=b+b by omega,List.take_add]
theorem KH {lt:α→α→Bool}{b:Nat}{l:List α} (hb:0<b) (h:b<l.length) (h2:l.length≤2*b):tC lt b l=cR lt (l.take b)++cR lt (l.drop b):=by
 rw[mj hb (by omega),j9 (l:=l.drop b) (by rw[List.length_drop];omega)]
theorem Ml {lt:α→α→Bool} (h:Ord lt) {u v:List α} (hu:nR lt u) (hv:nR lt v) {i j:Nat}
  (h1:i<u.length→0<j→∀x y,u[i]?=some x→v[j-1]?=some y→lt y x=true) (h2:0<i→j<v.length→∀x z,u[i-1]?=some x→v[j]?=some z→lt z x=false) (hi:i≤u.length) (hj:j≤v.length) :
  fO lt u v=fO lt (u.take i) (v.take j)++fO lt (u.drop i) (v.drop j):=by
 have Es:∀{l:List α},nR lt l→∀(a b:Nat),a≤b→∀x y,l[a]?=some x→l[b]?=some y→lt y x=false:=by
  intro l hl a b pC x y hx hy
  obtain ⟨ha,rfl⟩:=zB hx
  obtain ⟨hb,rfl⟩:=zB hy
  rcases Nat.lt_or_eq_of_le pC with aU|rfl
  ·exact List.pairwise_iff_getElem.1 hl a b ha hb aU
  ·exact h.irr _
 have e:=DV (lt:=lt) (u1:=u.take i) (u2:=u.drop i) (v1:=v.take j) (v2:=v.drop j) (by rw[List.take_append_drop];exact hv) (fun y hy x hx=>by
  obtain ⟨a,ha,rfl⟩:=List.mem_iff_getElem.1 hy
  obtain ⟨b,hb,rfl⟩:=List.mem_iff_getElem.1 hx
  rw[List.length_take] at ha
  rw[List.length_drop] at hb
  have ey:v[a]?=some (v.take j)[a]:=by rw[List.getElem_take];exact List.getElem?_eq_getElem _
  have ex:u[i+b]?=some (u.drop i)[b]:=by rw[List.getElem_drop];exact List.getElem?_eq_getElem _
  have O8:i<u.length:=by omega
  have Tn:j-1<v.length:=by omega
  have hm:=h1 O8 (by omega) _ _ (List.getElem?_eq_getElem O8) (List.getElem?_eq_getElem Tn)
  have q1:=Es hv a (j-1) (by omega) _ _ ey (List.getElem?_eq_getElem Tn)
  have q2:=Es hu i (i+b) (by omega) _ _ (List.getElem?_eq_getElem O8) ex
  exact h.ON (h.Je q1 hm) q2) (fun z hz x hx=>by
  obtain ⟨a,ha,rfl⟩:=List.mem_iff_getElem.1 hz
  obtain ⟨b,hb,rfl⟩:=List.mem_iff_getElem.1 hx
  rw[List.length_drop] at ha
  rw[List.length_take] at hb
  have ez:v[j+a]?=some (v.drop j)[a]:=by rw[List.getElem_drop];exact List.getElem?_eq_getElem _
  have ex:u[b]?=some (u.take i)[b]:=by rw[List.getElem_take];exact List.getElem?_eq_getElem _
  have O8:i-1<u.length:=by omega
  have Tn:j<v.length:=by omega
  have hm:=h2 (by omega) Tn _ _ (List.getElem?_eq_getElem O8) (List.getElem?_eq_getElem Tn)
  have q1:=Es hv j (j+a) (by omega) _ _ (List.getElem?_eq_getElem Tn) ez
  have q2:=Es hu b (i-1) (by omega) _ _ ex (List.getElem?_eq_getElem O8)
  exact h.tr _ _ _ q2 (h.tr _ _ _ hm q1))
 rwa [List.take_append_drop,List.take_append_drop] at e
theorem As {lt:α→α→Bool}{l:List α} (h:nR lt l) (i:Nat):nR lt (l.take i):=h.sublist (List.take_sublist ..)
theorem Av {lt:α→α→Bool}{l:List α} (h:nR lt l) (i:Nat):nR lt (l.drop i):=h.sublist (List.drop_sublist ..)
end Go.Proofs.YtghioefalckgoaaGreatDoor
namespace Go.Proofs.YtghioefalckgoaaGreatDoor
open Go.RowKit
def Hid (p:Prop):Prop:=p
theorem ak {p:Prop} (h:p):Hid p:=h
theorem ab {p:Prop} (h:Hid p):p:=h
theorem Tryz.infoByte:(Tryz.prog.info? 5).map (fun i=>(i.zero,i.size,i.bytes))=some (some (.int .u8 0),1,1):=by kernel_rfl
structure Ext (W:World) (v:Value) (W':World) (v':Value):Prop where
 os:W'.os=W.os
 tape:W'.tape=W.tape
 output:W'.output=W.output
 size:W.heap.size≤W'.heap.size
 TE:∀b,b<W.heap.size→some b≠v.ownBlock→W'.heap[b]?=W.heap[b]?
 own:v'.ownBlock=v.ownBlock∨∃g,v'.ownBlock=some g∧W.heap.size≤g
theorem Ext.refl (W:World) (v:Value):Ext W v W v:=⟨rfl,rfl,rfl,zD _,fun _ _ _=>rfl,.inl rfl⟩
theorem Ext.trans {A B C:World}{x y z:Value} (h:Ext A x B y) (k:Ext B y C z):Ext A x C z:=by
 refine ⟨k.os.trans h.os,k.tape.trans h.tape,k.output.trans h.output,Nat.le_trans h.size k.size,fun b hb hn=>?_,?_⟩
 ·refine (k.TE b (Nat.lt_of_lt_of_le hb h.size) (fun e=>?_)).trans (h.TE b hb hn)
  rcases h.own with o|⟨g,o,hg⟩
  ·exact hn (e.trans o)
  ·rw[o] at e
   have:b=g:=by simpa using e
   omega
 ·rcases k.own with o|⟨g,o,hg⟩
  ·rw[o];exact h.own
  ·exact .inr ⟨g,o,Nat.le_trans h.size hg⟩
theorem Ext.below {A B:World}{x y:Value} (h:Ext A x B y) {n:Nat} (hn:n≤A.heap.size) (hx:∀b,x.ownBlock=some b→n≤b):Below n A B :=
 ⟨h.os,h.tape,h.output,h.size,fun b hb=>h.TE b (Nat.lt_of_lt_of_le hb hn) (fun e=>by have:=hx b e.symm;omega)⟩
theorem Ext.grown {W w':World}{v v':Value}{ob:Obj} (h:(W.alloc ob).grownBy w' v.ownBlock) (mQ:v'.ownBlock=v.ownBlock∨v'.ownBlock=some (W.alloc ob).heap.size):Ext W v w' v' :=
 ⟨h.os,h.tape,h.output,by have:=h.size;rw[zJ] at this;omega,fun b hb hn=>(h.block b (by rw[zJ];omega) hn).trans (Below.heap_alloc W ob b hb),mQ.imp id fun e=>⟨_,e,by rw[zJ];omega⟩⟩
theorem Ext.Ry {W w':World}{v v':Value} (h:W.grownBy w' v.ownBlock) (mQ:v'.ownBlock=v.ownBlock∨v'.ownBlock=some W.heap.size):Ext W v w' v' :=
 ⟨h.os,h.tape,h.output,h.size,fun b hb hn=>h.block b hb hn,mQ.imp id fun e=>⟨_,e,zD _⟩⟩
theorem EE (n:Int):wrap64 n=(n+9223372036854775808) % 18446744073709551616-9223372036854775808:=by
 first|rfl|(unfold wrap64;omega)|(simp[wrap64];omega)
theorem aE (w:World) (o:Obj):(w.alloc o).heap[w.heap.size]?=some o:=by
 unfold World.alloc
 simp
theorem below_drewN {n:Nat}{A B:World} (h:Below n A B) (k:Nat):Below n A (B.drewN k):=⟨h.os,h.tape,h.output,h.size,h.block⟩
theorem below_grow {n k:Nat}{A B C:World}{ob:Obj}{u:Value} (hB:Below n A B) (hn:n≤B.heap.size) (hg:((B.drewN k).alloc ob).grownBy C u.ownBlock) (hu:∀b,u.ownBlock=some b→n≤b):Below n A C:=by
 have h1:=(below_drewN hB k).alloc (by simpa using hn) ob
 exact h1.trans ⟨hg.os,hg.tape,hg.output,hg.size,fun b hb=>hg.block b (by have:=h1.size;have h2:(B.drewN k).heap.size=B.heap.size:=rfl;rw[zJ] at *;omega) (fun e=>by have:=hu b e.symm;omega)⟩
def nb (l:List Nat):List Value:=l.map fun (b:Nat)=>.int .u8 (b:Int)
@[simp] theorem I4 (l:List Nat):(nb l).length=l.length:=by simp[nb]
theorem mF (a b:List Nat):nb (a++b)=nb a++nb b:=by simp[nb]
def pz (l:List Nat):Prop:=∀x ∈ l,x<256
theorem pz.append {a b:List Nat} (h:pz a) (k:pz b):pz (a++b):=fun x hx=>(List.mem_append.1 hx).elim (h x) (k x)
theorem pz.at {l:List Nat} (h:pz l) {i x:Nat} (hx:l[i]?=some x):x<256:=h x (List.mem_of_getElem? hx)
def Bytes (base:Nat) (W:World) (v:Value) (l:List Nat):Prop:=W.ownsRow base 5 1 v l.length (nb l)
theorem Gh (base:Nat) (W:World):Bytes base W (.slice none 0 0) []:=⟨rfl,.inl ⟨rfl,rfl⟩⟩
theorem Ext.fresh {W W':World}{v':Value} (h:Ext W (.slice none 0 0) W' v'):Below W.heap.size W W':=h.below (zD _) (fun b e=>by simp[Value.ownBlock] at e)
def zx (W:World) (v:Value) (l:List Nat):Prop:=∃a c,v=.slice a l.length c∧(l.length≤c∧c≤maxLen∧(a=none→c=0))∧(0<l.length→∃g off,a=some ⟨g,off,none⟩∧g<W.heap.size∧∀(i b:Nat),l[i]?=some b→W.cell? ⟨g,off+i,none⟩=some (.int .u8 (b:Int)))
theorem Bytes.has {base:Nat}{W:World}{v:Value}{l:List Nat} (h:Bytes base W v l):zx W v l:=by
 unfold Bytes at h
 have h':=h
 obtain ⟨_,⟨rfl,h0⟩|⟨g,c,cur,rfl,_,_,wk,VG,_⟩⟩:=h
 ·exact ⟨none,0,by rw[h0],by rw[h0];exact ⟨zD _,Nat.zero_le _,fun _=>rfl⟩,fun hp=>by omega⟩
 ·refine ⟨some ⟨g,0,none⟩,c,rfl,⟨wk,VG,nofun⟩,fun _=>⟨g,0,rfl,(h'.lt g rfl).2,fun i b hb=>?_⟩⟩
  have:=h'.cells (g:=g) rfl i (.int .u8 (b:Int)) (by simp[nb,hb])
  rwa [Go.WideShapes.add_plain] at this
theorem zx.up {W w:World}{v:Value}{l:List Nat} (h:zx W v l) (hb:Below W.heap.size W w):zx w v l:=by
 obtain ⟨a,c,rfl,hm,h3⟩:=h
 refine ⟨a,c,rfl,hm,fun hp=>?_⟩
 obtain ⟨g,off,rfl,h4,h5⟩:=h3 hp
 exact ⟨g,off,rfl,Nat.lt_of_lt_of_le h4 hb.size,fun i k hk=>(hb.cell (p:=⟨g,off+i,none⟩) h4).trans (h5 i k hk)⟩
theorem zx.take {W:World}{v:Value}{l:List Nat} (h:zx W v l) (n:Nat) (hn:n≤l.length):∃a c,v=.slice a l.length c∧zx W (.slice a n c) (l.take n):=by
 obtain ⟨a,c,rfl,hm,h3⟩:=h
 have hl:(l.take n).length=n:=by rw[List.length_take];omega
 refine ⟨a,c,rfl,a,c,by rw[hl],⟨by omega,hm.2.1,hm.2.2⟩,fun hp=>?_⟩
 obtain ⟨g,off,rfl,h4,h5⟩:=h3 (by omega)
 refine ⟨g,off,rfl,h4,fun i b hb=>h5 i b ?_⟩
 rw[List.getElem?_take] at hb
 split at hb
 ·exact hb
 ·cases hb
def zS (l:List Nat):ByteArray:=⟨(l.map UInt8.ofNat).toArray⟩
theorem I3 (l:List Nat):(zS l).size=l.length:=by simp[zS,ByteArray.size]
theorem L9 {x:Nat} (h:x<256):(UInt8.ofNat x).toNat=x:=by simp;omega
theorem Kx {W:World}{v:Value}{l:List Nat} (h:zx W v l) (hl:pz l):(convert 137 9 v).run Tryz.prog W=.ok (.string (zS l)) W:=by
 obtain ⟨a,c,rfl,_,h3⟩:=h
 by_cases hp:0<l.length
 ·obtain ⟨g,off,rfl,_,hc⟩:=h3 hp
  have:=run_convert_bytes_back (P:=Tryz.prog) W 137 9 5 ⟨g,off,none⟩ c (l.map UInt8.ofNat) Tryz.underlying137 Tryz.underlying5 Tryz.underlying9 (fun j hj=>by
   rw[Go.WideShapes.add_plain]
   have we:j<l.length:=by simpa using hj
   rw[hc j l[j] (List.getElem?_eq_getElem we)]
   simp only[List.getElem_map]
   rw[L9 (hl _ (List.getElem_mem we))])
  simpa[zS] using this
 ·obtain rfl:l=[]:=by cases l;rfl;simp at hp
  cases a with
  |none =>
   rw[show ([]:List Nat).length=0 from rfl,run_convert_bytes_string W 137 9 5 none 0 c Tryz.underlying137 Tryz.underlying5 Tryz.underlying9]
   simp[Conv.bytesToString]
   rfl
  |some ad =>
   have:=run_convert_bytes_back (P:=Tryz.prog) W 137 9 5 ad c [] Tryz.underlying137 Tryz.underlying5 Tryz.underlying9 (fun j hj=>by simp at hj)
   simpa[zS] using this
def aO (s:ByteArray):List Nat:=s.data.toList.map UInt8.toNat
theorem bg (s:ByteArray):(aO s).length=s.size:=by simp[aO]
theorem uE (s:ByteArray):pz (aO s):=by
 intro x hx
 obtain ⟨b,_,rfl⟩:=List.mem_map.1 hx
 exact b.toNat_lt
end Go.Proofs.YtghioefalckgoaaGreatDoor
namespace Go.Proofs.YtghioefalckgoaaGreatDoor
open Go.RowKit
attribute [local go_sem ↓] Go.wp_at_zero Go.wp_at_succ
theorem Iw (s:ByteArray) (n x:Nat) (h:(aO s)[n]?=some x) (hn:n<s.size):(s[n]'hn).toNat=x:=by
 unfold aO at h
 rw[List.getElem?_map] at h
 obtain ⟨b,hb,rfl⟩:=Option.map_eq_some_iff.1 h
 have hd:n<s.data.toList.length:=by simpa using hn
 rw[List.getElem?_eq_getElem hd] at hb
 rw[←zC hb]
 rfl
theorem iI (s:ByteArray) (n:Nat) (hn:n<s.size):∃x,(aO s)[n]?=some x∧x<256∧(s[n]'hn).toNat=x:=by
 have hl:n<(aO s).length:=by rw[bg];exact hn
 have h:=List.getElem?_eq_getElem hl
 exact ⟨_,h,(uE s).at h,Iw s n _ h hn⟩
theorem mZ {c:Nat}{k:Int} (h:k<(c:Int)):decide ((c:Int)≤k)=false:=by simp;omega
theorem Th {c:Nat}{k:Int} (h:(c:Int)≤k):decide ((c:Int)≤k)=true:=by simp;omega
theorem nX {c:Nat}{k:Int} (h:(c:Int)<k):decide (k≤(c:Int))=false:=by simp;omega
theorem lB {c:Nat}{k:Int} (h:k≤(c:Int)):decide (k≤(c:Int))=true:=by simp;omega
theorem lQ {c:Nat}{k:Int} (h:¬((c:Int)=k)):((c:Int)==k)=false:=by simp;omega
theorem ltF {a:Nat}{k:Int} (h:(a:Int)≤k):decide (k<(a:Int))=false:=by simp;omega
theorem ltT {a:Nat}{k:Int} (h:k<(a:Int)):decide (k<(a:Int))=true:=by simp;omega
theorem vh {s:ByteArray} (h:¬s.size=0):s.toList.isEmpty=false:=by
 rw[ByteArray.toList_eq]
 cases hd:s.data.toList with
 |nil=>exact absurd (by have:=congrArg List.length hd;simpa using this) h
 |cons a r=>rfl
theorem AY {s:ByteArray} (h:s.size=0):s=⟨#[]⟩:=by
 cases s with|mk d=>cases d with|mk l=>cases l with|nil=>rfl|cons a r=>simp[ByteArray.size] at h
def isLet (c:Nat):Prop:=(65≤c∧c≤90)∨(97≤c∧c≤122)∨c=95
def dq (c:Nat):Prop:=48≤c∧c≤57
def l7 (c:Nat):Prop:=c ∈ [123,125,91,93,40,41,60,62,59,44,61,46,45]
instance (c : Nat) : Decidable (isLet c) := by unfold isLet; infer_instance
instance (c : Nat) : Decidable (dq c) := by unfold dq; infer_instance
instance (c : Nat) : Decidable (l7 c) := by unfold l7; infer_instance
def cls (c:Nat):Nat:=if (9≤c∧c≤13)∨c=32 then 1 else if isLet c then 2 else if dq c then 3 else if c=39∨c=34 then 4 else if l7 c then 5 else if c=47 then 6 else 0
theorem ph {c:Nat}:cls c=2↔isLet c:=by
 unfold cls
 constructor
 ·intro h
  repeat' split at h
  all_goals first|assumption|omega
 ·intro h
  rw[if_neg (by unfold isLet at h;omega),if_pos h]
theorem zj {c:Nat}:cls c=3↔dq c:=by
 unfold cls
 constructor
 ·intro h
  repeat' split at h
  all_goals first|assumption|omega
 ·intro h
  rw[if_neg (by unfold dq at h;omega),if_neg (by unfold dq at h;unfold isLet;omega),if_pos h]
theorem Mw {c:Nat} (hc:c<256):(0≤firstIdx ⟨#[123,125,91,93,40,41,60,62,59,44,61,46,45]⟩ (Nat.toUInt8 c))↔l7 c:=by
 have key:∀k:Fin 256,(0≤firstIdx ⟨#[123,125,91,93,40,41,60,62,59,44,61,46,45]⟩ (Nat.toUInt8 k.val))↔l7 k.val:=by decide +kernel
 exact key ⟨c,hc⟩
theorem fc (W:World) (s:ByteArray) (c:Int) :
  Calls Tryz.prog 174 #[.string s,.int .u8 c] W fun e w=>e=.returned (.int .i64 (firstIdx s c.toNat.toUInt8))∧w=W:=by
 go_enter Tryz.func174,Tryz.ntmps174
 go_wp2
 rw[run_callFunc_indexByte Tryz.func275 (by kernel_rfl) (by kernel_rfl) (by kernel_rfl) (by kernel_rfl),run_indexByte_string]
 simp only[Result.andThen]
 go_wp2
 go_ret
 exact ⟨rfl,rfl⟩
end Go.Proofs.YtghioefalckgoaaGreatDoor
namespace Go.Proofs.YtghioefalckgoaaGreatDoor
open Go.RowKit
attribute [local go_sem ↓] Go.wp_at_zero Go.wp_at_succ
theorem EV {P:Program}{ops:Array Oper}{o:Oper}{a:Act}{w:World}{K:Act→World→Prop}{Q:Exit→Act→World→Prop}{E:Prop} (wg:o.guard=none) (f:FuncId) (FA:∀vs,(callFunc f vs).run P w=.ok (.enter f vs) w) (args:Array Operand) (Gy:Array TypeId)
  (ho:o.op=.call { callee:=.value (.func f),args:=args,argTypes:=Gy }) (vs:Array Value) (hv:args.map a.eval=vs) {R:Ending→World→Prop} (hc:Calls P f vs w R) (hK:∀e w',R e w'→∃v,e=.returned v∧K (a.put o.dst v) w') :
  if Region.wanted o (yielded ops a.tmps)=true then Oper.wp P o a w K Q else E:=by
 have hw:Region.wanted o (yielded ops a.tmps)=true:=by simp[Region.wanted,wg]
 rw[if_pos hw]
 have h2:Oper.wp P o a w K Q=o.upon P a K Q (.ok (.enter f vs) w):=by
  unfold Oper.wp
  simp[execOp,ho,resolve,invoke,←hv,Act.eval,Deferred.ofValue,FA]
 rw[h2,Oper.upon_enter]
 refine hc.mono ?_
 intro e w' hr
 obtain ⟨v,rfl,hk⟩:=hK e w' hr
 exact hk
section
variable {P : Program} {ops : Array Oper} {Q : Exit → Act → World → Prop} {md : Region.Mode} {T : World → Prop} {z : Nat}
def ba (P:Program) (md:Region.Mode) (ops:Array Oper) (Q:Exit→Act→World→Prop) (T:World→Prop) (z:Nat):Nat→Array Bool→Act→World→Prop
 |0,d,a,w=>Region.ready md ops d=[]∧Q .normal a w
 |n+1,d,a,w=>(Region.ready md ops d=[]→Q .normal a w)∧∀i ∈ Region.ready md ops d,wpOp P ops Q i (fun a' w'=>(i≠z→T w')∧ba P md ops Q T z n (d.setIfInBounds i true) a' w') a w
theorem aV:∀(n:Nat) (d:Array Bool) (a:Act) (w:World),ba P md ops Q T z n d a w→wpAny P md ops Q n d a w
 |0,_,_,_,h=>h
 |n+1,_,_,_,h=>⟨h.1,fun i hi=>wpOp_mono (fun a' w' h'=>aV n _ a' w' h'.2) (h.2 i hi)⟩
theorem EF {i:Nat}{oi:Oper}{v:Value} (hi:ops[i]?=some oi) (hw:∀oz,ops[z]?=some oz→∃e ∈ oz.after,Region.binds md e=true∧e.on=i) (hs:∀(j:Nat) (o:Oper) cs b,ops[j]?=some o→o.op≠.select cs b)
  (hQ:∀c a w,Q (.panic c) (a.put oi.dst v) w→Q (.panic c) a w):∀(n:Nat) (d:Array Bool) (a:Act) (w:World),
   (∀j oj,ops[j]?=some oj→j≠i→d.getD j true=false→(∀e ∈ oj.after,Region.binds md e=true→e.on≠i)→oi.apart ops oj=true)→i ∈ Region.ready md ops d→YieldsIf P ops T oi v a→T w →
   ba P md ops Q T z n (d.setIfInBounds i true) (a.put oi.dst v) w→ba P md ops Q T z (n+1) d a w:=by
 intro n
 induction n with
 |zero =>
  intro d a w _ hr hy hT H
  refine ⟨fun h=>(by rw[h] at hr;cases hr),fun j hj=>?_⟩
  by_cases e:j=i
  ·rw[e];exact hy.wpOp hi hT ⟨fun _=>hT,H⟩
  ·have q:=ready_mono hj e
   rw[H.1] at q
   cases q
 |succ n ih =>
  intro d a w hf hr hy hT H
  refine ⟨fun h=>(by rw[h] at hr;cases hr),fun j hj=>?_⟩
  by_cases e:j=i
  ·rw[e];exact hy.wpOp hi hT ⟨fun _=>hT,H⟩
  ·obtain ⟨hd,oj,Nf,nO⟩:=mem_ready.1 hj
   have FB:=(mem_ready.1 hr).1
   have xM:∀x ∈ oj.after,Region.binds md x=true→x.on≠i:=fun x hx hb M5=>by
    have q:=nO x hx hb
    rw[M5] at q
    rcases Nat.lt_or_ge i d.size with q1|q1
    ·simp[q1] at FB q
     rw[FB] at q
     cases q
    ·simp[Array.getElem?_eq_none q1] at q
   have XT:j≠z:=fun q=>by
    subst q
    obtain ⟨x,hx,hb,M5⟩:=hw _ Nf
    exact xM x hx hb M5
   have h2:=wpOp_putIf Nf (hf j oj Nf e hd xM) (fun cs b=>hs i oi cs b hi) (fun cs b=>hs j oj cs b Nf) hQ hy (H.2 j (ready_mono hj e))
   refine wpOp_mono (fun a' w' h3=>⟨h3.2.1,ih (d.setIfInBounds j true) a' w' (fun k ok hk hki Jz hn=>hf k ok hk hki ?_ hn) (ready_mono hr (Ne.symm e)) h3.1 (h3.2.1 XT) ?_⟩) h2
   ·by_cases Rc:j=k
    ·rw[←Rc];exact hd
    ·rwa [getD_set_ne true Rc] at Jz
   ·rw[Array.setIfInBounds_comm _ _ e]
    exact h3.2.2
def waits (md:Region.Mode) (ops:Array Oper) (z i:Nat):Bool:=match ops[z]? with
 |none=>true
 |some o=>o.after.any fun e=>Region.binds md e&&e.on==i
theorem qv (i:Nat) {oi:Oper} (v:Value) (x:Tmp) {n:Nat}{d:Array Bool}{a:Act}{w:World} (hi:ops[i]?=some oi) (hx:oi.dst=some x) (hw:waits md ops z i=true) (hs:Region.noSelect ops=true) (hf:Region.free md ops d i=true) (hr:(Region.ready md ops d).contains i=true)
  (hQ:∀c a w,Q (.panic c) (a.put (some x) v) w→Q (.panic c) a w) (hy:YieldsIf P ops T oi v a) (hT:T w) (h:ba P md ops Q T z n (d.setIfInBounds i true) (a.put (some x) v) w):ba P md ops Q T z (n+1) d a w:=by
 rw[←hx] at hQ h
 refine EF hi (fun oz hz=>?_) (Region.noSelect_spec hs) hQ n d a w (Region.free_spec hi hf) (by simpa using hr) hy hT h
 unfold waits at hw
 rw[hz] at hw
 obtain ⟨e,he,hb⟩:=Array.any_eq_true'.1 hw
 simp only[Bool.and_eq_true,beq_iff_eq] at hb
 exact ⟨e,he,hb.1,hb.2⟩
theorem aw (i:Nat) {oi:Oper} (v:Value) (x:Tmp) {n:Nat}{d:Array Bool}{a:Act}{w:World} (hi:ops[i]?=some oi) (hx:oi.dst=some x) (hy:YieldsIf P ops T oi v a) (hT:T w) (h:ba P md ops Q T z n (d.setIfInBounds i true) (a.put (some x) v) w) (hw:waits md ops z i=true:=by kernel_rfl) (hs:Region.noSelect ops=true:=by kernel_rfl) (hf:Region.free md ops d i=true:=by kernel_rfl) (hr:(Region.ready md ops d).contains i=true:=by kernel_rfl)
  (hQ:∀c a w,Q (.panic c) (a.put (some x) v) w→Q (.panic c) a w:=by exact fun _ _ _ h=>h):ba P md ops Q T z (n+1) d a w:=qv i v x hi hx hw hs hf hr hQ hy hT h
theorem aB (i:Nat) {o:Oper}{n:Nat}{d:Array Bool}{a:Act}{w:World} (hr:Region.ready md ops d=[i]) (ho:ops[i]?=some o)
  (h:∀K:Act→World→Prop,(∀a' w',((i≠z→T w')∧ba P md ops Q T z n (d.setIfInBounds i true) a' w')→K a' w')→if Region.wanted o (yielded ops a.tmps)=true then Oper.wp P o a w K Q else K (a.put o.dst undef) w):ba P md ops Q T z (n+1) d a w:=by
 refine ⟨fun h0=>(by rw[h0] at hr;cases hr),fun j hj=>?_⟩
 rw[hr] at hj
 obtain rfl:j=i:=by simpa using hj
 exact wpOp_step ho h
theorem aM {o:Oper}{a:Act}{w:World}{K:Act→World→Prop}{E:Prop} (x:Tmp) (hx:o.dst=some x) (wg:o.guard=none) (f:FuncId) (FA:∀vs,(callFunc f vs).run P w=.ok (.enter f vs) w) (args:Array Operand) (Gy:Array TypeId)
  (ho:o.op=.call { callee:=.value (.func f),args:=args,argTypes:=Gy }) (vs:Array Value) (hv:args.map a.eval=vs) {R:Ending→World→Prop} (hc:Calls P f vs w R) (hK:∀e w',R e w'→∃v,e=.returned v∧K (a.put (some x) v) w') :
  if Region.wanted o (yielded ops a.tmps)=true then Oper.wp P o a w K Q else E :=
 EV wg f FA args Gy ho vs hv hc (by rw[hx];exact hK)
theorem bW {o:Oper}{a:Act}{w:World}{K:Act→World→Prop}{E:Prop} (x:Tmp) (hx:o.dst=some x) (f:FuncId) (FA:∀vs,(callFunc f vs).run P w=.ok (.enter f vs) w) (args:Array Operand) (Gy:Array TypeId)
  (ho:o.op=.call { callee:=.value (.func f),args:=args,argTypes:=Gy }) (vs:Array Value) (hv:args.map a.eval=vs) {R:Ending→World→Prop} (hc:Calls P f vs w R) (hw:Region.wanted o (yielded ops a.tmps)=true) (hK:∀e w',R e w'→∃v,e=.returned v∧K (a.put (some x) v) w') :
  if Region.wanted o (yielded ops a.tmps)=true then Oper.wp P o a w K Q else E:=by
 rw[if_pos hw]
 have h2:Oper.wp P o a w K Q=o.upon P a K Q (.ok (.enter f vs) w):=by
  unfold Oper.wp
  simp[execOp,ho,resolve,invoke,←hv,Deferred.ofValue,Act.eval,FA]
 rw[h2,Oper.upon_enter]
 refine hc.mono ?_
 intro e w' hr
 obtain ⟨v,rfl,hk⟩:=hK e w' hr
 rw[hx]
 exact hk
theorem bX {o:Oper}{a:Act}{w:World}{K:Act→World→Prop}{E:Prop} (x y:Tmp) (hx:o.dst=some x) (f:FuncId) (fs cp:Array Value) (FA:∀vs,(callFunc f vs).run P w=.ok (.enter f vs) w) (args:Array Operand) (Gy:Array TypeId)
  (ho:o.op=.call { callee:=.value (.tmp y),args:=args,argTypes:=Gy }) (hy:a.eval (.tmp y)=.func (.func f) fs cp) (vs:Array Value) (hv:fs++args.map a.eval++cp=vs) {R:Ending→World→Prop} (hc:Calls P f vs w R) (hw:Region.wanted o (yielded ops a.tmps)=true) (hK:∀e w',R e w'→∃v,e=.returned v∧K (a.put (some x) v) w') :
  if Region.wanted o (yielded ops a.tmps)=true then Oper.wp P o a w K Q else E:=by
 rw[if_pos hw]
 have h2:Oper.wp P o a w K Q=o.upon P a K Q (.ok (.enter f vs) w):=by
  unfold Oper.wp
  simp[execOp,ho,resolve,invoke,←hv,hy,Deferred.ofValue,FA]
 rw[h2,Oper.upon_enter]
 refine hc.mono ?_
 intro e w' hr
 obtain ⟨v,rfl,hk⟩:=hK e w' hr
 rw[hx]
 exact hk
theorem aQ {n:Nat}{d:Array Bool}{a:Act}{w:World} (hr:Region.ready md ops d=[]) (h:Q .normal a w):ba P md ops Q T z n d a w:=by
 cases n with
 |zero=>exact ⟨hr,h⟩
 |succ n=>exact ⟨fun _=>h,fun i hi=>by rw[hr] at hi;cases hi⟩
def yI (o:Oper) (t:Array Value):Option Value:=match o.op with
 |.move (.tmp k)=>some (t.getD k undef)
 |.assign (.tmp k)=>some (t.getD k undef)
 |.pick (.tmp k) (.tmp j) (.const v)=>match t.getD k undef with
  |.bool false=>some v
  |.bool true=>some (t.getD j undef)
  |_=>none
 |_=>none
def yo (md:Region.Mode) (ops:Array Oper) (z:Nat):List Nat→Array Bool→Array Value→Option (Array Bool×Array Value)
 |[],d,t=>some (d,t)
 |i::l,d,t=>match ops[i]? with
  |none=>none
  |some o=>match o.dst with
   |none=>none
   |some x=>if waits md ops z i&&Region.free md ops d i&&(Region.ready md ops d).contains i then
     match (if Region.wanted o (yielded ops t) then yI o t else some undef) with
     |none=>none
     |some v=>yo md ops z l (d.setIfInBounds i true) (t.setIfInBounds x v)
    else none
theorem MO {P:Program}{o:Oper}{a:Act}{v:Value} (h:yI o a.tmps=some v) (w:World):(execOp a.eval o).run P w=.ok (.value v) w:=by
 unfold yI at h
 split at h
 ·rename_i k ho
  obtain rfl:=zC h
  simp[execOp,ho,Act.eval]
 ·rename_i k ho
  obtain rfl:=zC h
  simp[execOp,ho,Act.eval]
 ·rename_i k y c ho
  split at h
  ·rename_i hb
   obtain rfl:=zC h
   have gS:a.tmps[k]?.getD undef=.bool false:=by simpa using hb
   simp[execOp,ho,Act.eval,gS,asBool]
  ·rename_i hb
   obtain rfl:=zC h
   have gS:a.tmps[k]?.getD undef=.bool true:=by simpa using hb
   simp[execOp,ho,Act.eval,gS,asBool]
  ·cases h
 ·cases h
theorem qw (hs:Region.noSelect ops=true) (hQ:∀x v c (a:Act) w,Q (.panic c) (a.put (some x) v) w→Q (.panic c) a w):∀(l:List Nat) (n:Nat) {d d':Array Bool}{a:Act}{t':Array Value}{w:World},T w→yo md ops z l d a.tmps=some (d',t')→ba P md ops Q T z n d' { a with tmps:=t' } w→∀m,m=n+l.length→ba P md ops Q T z m d a w
 |[],n,d,d',a,t',w,hT,h,k,m,hm=>by
  obtain ⟨rfl,rfl⟩:=Prod.mk.inj (zC h)
  obtain rfl:m=n:=hm
  exact k
 |i::l,n,d,d',a,t',w,hT,h,k,m,hm=>by
  unfold yo at h
  split at h
  ·cases h
  ·rename_i o ho
   split at h
   ·cases h
   ·rename_i x hx
    split at h
    ·rename_i hc
     simp only[Bool.and_eq_true] at hc
     obtain ⟨⟨hw,hf⟩,hr⟩:=hc
     split at h
     ·cases h
     ·rename_i v hv
      obtain rfl:m=(n+l.length)+1:=by rw[hm,List.length_cons];omega
      refine qv i v x ho hx hw hs hf hr (fun c a w=>hQ x v c a w) ?_ hT (qw hs hQ l n hT (a:=a.put (some x) v) h k _ rfl)
      by_cases eV:Region.wanted o (yielded ops a.tmps)=true
      ·rw[if_pos eV] at hv
       exact Or.inl ⟨eV,fun w _=>MO hv w⟩
      ·rw[if_neg eV] at hv
       exact Or.inr ⟨by simpa using eV,(zC hv).symm⟩
    ·cases h
def DN (md:Region.Mode) (ops:Array Oper) (z:Nat) (l:List Nat) (d:Array Bool) (t:Array Value) (r:Tmp):Bool:=match yo md ops z l d t with
 |none=>false
 |some (d',t')=>(Region.ready md ops d').isEmpty&&match t'.getD r undef with
  |.bool b=>!b
  |_=>false
theorem ct (l:List Nat) (r:Tmp) {m:Nat}{d:Array Bool}{a:Act}{w:World} (hT:T w) (h:DN md ops z l d a.tmps r=true) (k:∀t':Array Value,t'.getD r undef=.bool false→Q .normal { a with tmps:=t' } w) (hl:l.length≤m) (hs:Region.noSelect ops=true) (hQ:∀x v c (a:Act) w,Q (.panic c) (a.put (some x) v) w→Q (.panic c) a w):ba P md ops Q T z m d a w:=by
 unfold DN at h
 split at h
 ·cases h
 ·rename_i d' t' hg
  simp only[Bool.and_eq_true,List.isEmpty_iff] at h
  obtain ⟨h1,h2⟩:=h
  split at h2
  ·rename_i b hb
   refine qw hs hQ l (m-l.length) hT hg (aQ h1 (k t' ?_)) m (by omega)
   rw[hb]
   congr 1
   simpa using h2
  ·cases h2
end
end Go.Proofs.YtghioefalckgoaaGreatDoor

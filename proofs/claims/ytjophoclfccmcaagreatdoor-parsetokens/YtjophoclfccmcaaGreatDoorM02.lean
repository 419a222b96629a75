import Derived.Test.YtjophoclfccmcaaGreatDoorM01
import Derived.Lib.Index
namespace Go.Proofs.YtjophoclfccmcaaGreatDoor
open Go.RowKit
attribute [local go_sem ↓] Go.wp_at_zero Go.wp_at_succ
theorem A1 (s:ByteArray):∀(n k:Nat),(∀j,j<n→k+j<s.size∧(isLet (aE s (k+j))∨eD (aE s (k+j))))→(k+n<s.size→¬(isLet (aE s (k+n))∨eD (aE s (k+n))))→fZ s k=k+n
 |0,k,_,h2=>by
  rw[fZ,dif_neg (fun q=>h2 q.1 q.2)]
  rfl
 |n+1,k,h1,h2=>by
  have h0:=h1 0 (by omega)
  rw[Nat.add_zero] at h0
  rw[fZ,dif_pos h0,A1 s n (k+1) (fun j hj=>?_) (fun h=>?_)]
  ·omega
  ·have:=h1 (j+1) (by omega)
   rwa [show k+(j+1)=k+1+j by omega] at this
  ·rw[show k+1+n=k+(n+1) by omega] at h ⊢
   exact h2 h
theorem qS (s:ByteArray) (k:Nat) (h:k<s.size):(aI s)[k]?=some (aE s k):=by
 unfold aI aE
 rw[dif_pos h,List.getElem?_map,Array.getElem?_toList,Array.getElem?_eq_getElem (by show k<s.size;exact h)]
 rfl
theorem y7 {s:ByteArray}{k n:Nat} (hk:k≤s.size) (hn:n≤(s.extract k s.size).size) (h1:∀j x,j<n→(aI (s.extract k s.size))[j]?=some x→isLet x∨eD x) (h2:∀x,(aI (s.extract k s.size))[n]?=some x→¬(isLet x∨eD x)):fZ s k=k+n∧k+n≤s.size:=by
 have ck:(s.extract k s.size).size=s.size-k:=by rw[ByteArray.size_extract];omega
 have he:∀j,k+j<s.size→(aI (s.extract k s.size))[j]?=some (aE s (k+j)):=fun j hj=>by
  rw[bA,List.getElem?_take,if_pos (by omega),List.getElem?_drop]
  exact qS s (k+j) hj
 refine ⟨A1 s n k (fun j hj=>⟨by omega,h1 j _ hj (he j (by omega))⟩) (fun h=>h2 _ (he n h)),by omega⟩
end Go.Proofs.YtjophoclfccmcaaGreatDoor
namespace Go.Proofs.YtjophoclfccmcaaGreatDoor
open Go.RowKit
def wv (l:List Nat):Option Nat :=
 if l.take 2=[48,120]∨l.take 2=[48,88] then (if l.length=2 then none else cz 16 9223372036854775807 (l.drop 2) 0)
 else if l.take 1=[48] then cz 8 9223372036854775807 l 0 else if l=[] then none else cz 10 9223372036854775807 l 0
theorem xl {B M:Nat}:∀(l:List Nat) (n u:Nat),n≤M→cz B M l n=some u→u≤M
 |[],n,u,hn,h=>by
  have:n=u:=by simpa[cz] using h
  omega
 |c::r,n,u,hn,h=>by
  simp only[cz] at h
  split at h
  ·cases h
  ·split at h
   ·rename_i hc
    exact xl r _ u hc.2 h
   ·cases h
theorem C3 {l:List Nat}{u:Nat} (h:wv l=some u):u≤9223372036854775807:=by
 unfold wv at h
 split at h
 ·split at h
  ·cases h
  ·exact xl _ 0 u (by decide) h
 ·split at h
  ·exact xl _ 0 u (by decide) h
  ·split at h
   ·cases h
   ·exact xl _ 0 u (by decide) h
def gQ (s:ByteArray) (k:Nat):Nat×Nat×Nat :=
 if isLet (aE s k) then (1,fZ s k,0)
 else if eD (aE s k) then (if wv (aI (s.extract k (fZ s k)))=none then (0,0,41) else (2,fZ s k,0))
 else if aE s k=39∨aE s k=34 then (match fA s (aE s k) (k+1) with|none=>(0,0,42)|some (_,e)=>(3,e,0))
 else if om (aE s k) then (4,k+1,0) else (0,0,40)
structure Tok where
 kind:Nat
 place:Nat
 text:ByteArray
def Pk (t:Tok):List Tok ⊕ (Nat×Nat)→List Tok ⊕ (Nat×Nat)
 |.inl l=>.inl (t::l)
 |.inr e=>.inr e
def oB (p:List Tok):List Tok ⊕ (Nat×Nat)→List Tok ⊕ (Nat×Nat)
 |.inl l=>.inl (p++l)
 |.inr e=>.inr e
theorem qq (x:List Tok ⊕ (Nat×Nat)):oB [] x=x:=by cases x<;>rfl
def mo (s:ByteArray):Nat→Nat→Nat→(List Tok ⊕ (Nat×Nat))
 |0,_,_=>.inr (0,0)
 |f+1,k,n=>if (bW s s.size k).2=false then .inr ((bW s s.size k).1,43)
  else if (bW s s.size k).1=s.size then .inl [⟨5,(bW s s.size k).1,⟨#[]⟩⟩]
  else if n=16383 then .inr ((bW s s.size k).1,45)
  else if (gQ s (bW s s.size k).1).2.2=0 then
   Pk ⟨(gQ s (bW s s.size k).1).1,(bW s s.size k).1,s.extract (bW s s.size k).1 (gQ s (bW s s.size k).1).2.1⟩ (mo s f (gQ s (bW s s.size k).1).2.1 (n+1))
  else .inr ((bW s s.size k).1,(gQ s (bW s s.size k).1).2.2)
theorem MK (s:ByteArray):∀(f k:Nat),k≤s.size→k≤(bW s f k).1∧(bW s f k).1≤s.size:=by
 intro f
 induction f with
 |zero=>intro k hk;exact ⟨zD _,hk⟩
 |succ f ih =>
  intro k hk
  rw[bW]
  split
  ·split
   ·have:=ih (k+1) (by omega);omega
   ·split
    ·rename_i h h1 h2
     have a:=xp s k
     have b:=BG s k hk
     have:=ih _ b;omega
    ·split
     ·split
      ·rename_i h5
       have a:=kJ s (k+2)
       have:=ih _ h5;omega
      ·exact ⟨zD _,hk⟩
     ·exact ⟨zD _,hk⟩
  ·exact ⟨zD _,hk⟩
theorem A2 {s:ByteArray}{k:Nat} (hk:k<s.size) (h:isLet (aE s k)∨eD (aE s k)):k<fZ s k:=by
 rw[fZ,dif_pos ⟨hk,h⟩]
 have:=A3 s (k+1)
 omega
theorem By {s:ByteArray}{k:Nat} (hk:k<s.size) (h:(gQ s k).2.2=0):k<(gQ s k).2.1∧(gQ s k).2.1≤s.size:=by
 unfold gQ at h ⊢
 by_cases h1:isLet (aE s k)
 ·rw[if_pos h1]
  exact ⟨A2 hk (.inl h1),sW s k (by omega)⟩
 ·rw[if_neg h1] at h ⊢
  by_cases h2:eD (aE s k)
  ·rw[if_pos h2] at h ⊢
   split at h
   ·cases h
   ·rename_i h3
    rw[if_neg h3]
    exact ⟨A2 hk (.inr h2),sW s k (by omega)⟩
  ·rw[if_neg h2] at h ⊢
   by_cases h3:aE s k=39∨aE s k=34
   ·rw[if_pos h3] at h ⊢
    split at h
    ·cases h
    ·rename_i l e he
     have:=He _ (k+1) l e (zD _) he
     show k<e∧e≤s.size
     omega
   ·rw[if_neg h3] at h ⊢
    split at h
    ·rename_i h4
     rw[if_pos h4]
     show k<k+1∧k+1≤s.size
     omega
    ·cases h
theorem JJ (s:ByteArray):∀(f f' k n:Nat),k≤s.size→s.size-k<f→s.size-k<f'→mo s f k n=mo s f' k n:=by
 intro f
 induction f with
 |zero=>intro f' k n _ hf;omega
 |succ f ih =>
  intro f' k n hk hf TE
  cases f' with
  |zero=>omega
  |succ f' =>
   rw[mo,mo]
   have hp:=MK s s.size k hk
   split
   ·rfl
   ·split
    ·rfl
    ·split
     ·rfl
     ·split
      ·rename_i h1 h2 h3 h4
       have:=By (by omega) h4
       rw[ih f' _ (n+1) this.2 (by omega) (by omega)]
      ·rfl
def tk (s:ByteArray) (k n:Nat):List Tok ⊕ (Nat×Nat):=mo s (s.size+1) k n
theorem H8 {s:ByteArray}{k k':Nat} (n:Nat) (h:bW s s.size k=bW s s.size k'):tk s k n=tk s k' n:=by
 unfold tk
 rw[mo,mo,h]
theorem MJ (s:ByteArray):bW s s.size s.size=(s.size,true):=by
 cases hz:s.size with
 |zero=>rfl
 |succ n=>rw[bW,if_neg (by omega)]
theorem UB (s:ByteArray) (n:Nat):tk s s.size n=.inl [⟨5,s.size,⟨#[]⟩⟩]:=by
 unfold tk
 rw[mo,MJ,if_neg (by simp),if_pos rfl]
theorem Md {s:ByteArray}{k n:Nat} (h:bW s s.size k=(k,false)):tk s k n=.inr (k,43):=by
 unfold tk
 rw[mo,h,if_pos rfl]
theorem H9 {s:ByteArray}{k:Nat} (hk:k<s.size) (h:bW s s.size k=(k,true)):tk s k 16383=.inr (k,45):=by
 unfold tk
 rw[mo,h,if_neg (by simp),if_neg (by show ¬k=s.size;omega),if_pos rfl]
theorem UA {s:ByteArray}{k n c:Nat} (hk:k<s.size) (h:bW s s.size k=(k,true)) (hn:n<16383) (h1:(gQ s k).2.2=c) (hc:c≠0):tk s k n=.inr (k,c):=by
 unfold tk
 rw[mo,h,if_neg (by simp),if_neg (by show ¬k=s.size;omega),if_neg (by omega)]
 show (if (gQ s k).2.2=0 then _ else Sum.inr (k,(gQ s k).2.2))=_
 rw[h1,if_neg hc]
theorem Uz {s:ByteArray}{k n t e:Nat} (hk:k<s.size) (h:bW s s.size k=(k,true)) (hn:n<16383) (h1:gQ s k=(t,e,0)):tk s k n=Pk ⟨t,k,s.extract k e⟩ (tk s e (n+1)):=by
 have hle:=By hk (by rw[h1])
 rw[h1] at hle
 unfold tk
 rw[mo,h,if_neg (by simp),if_neg (by show ¬k=s.size;omega),if_neg (by omega)]
 show (if (gQ s k).2.2=0 then Pk ⟨(gQ s k).1,k,s.extract k (gQ s k).2.1⟩ (mo s s.size (gQ s k).2.1 (n+1)) else _)=_
 rw[h1,if_pos rfl]
 rw[JJ s s.size (s.size+1) e (n+1) hle.2 (by have:=hle.1;simp at this;omega) (by omega)]
theorem mx {s:ByteArray}{k:Nat} (hk:k<s.size):bW s s.size k=bW s (s.size-k-1+1) k:=mZ s _ _ k (by omega) (by omega)
theorem FF {s:ByteArray}{k:Nat} (hk:k<s.size) (h:pK (aE s k)):bW s s.size k=bW s s.size (k+1):=by
 rw[mx hk,bW,if_pos hk,if_pos h]
 exact mZ s _ _ _ (by omega) (by omega)
theorem J4 {s:ByteArray}{k:Nat} (h:k+2≤s.size) (h1:aE s k=47) (h2:aE s (k+1)=47):bW s s.size k=bW s s.size (lQ s k):=by
 have hk:k<s.size:=by omega
 have LA:=BF hk h1
 rw[mx hk,bW,if_pos hk,if_neg (by rw[h1];decide),if_pos ⟨h,h1,h2⟩]
 exact mZ s _ _ _ (by omega) (by omega)
theorem J3 {s:ByteArray}{k:Nat} (h:k+2≤s.size) (h1:aE s k=47) (h2:aE s (k+1)=42) (h3:eU s (k+2)+2≤s.size):bW s s.size k=bW s s.size (eU s (k+2)+2):=by
 have hk:k<s.size:=by omega
 have:=kJ s (k+2)
 rw[mx hk,bW,if_pos hk,if_neg (by rw[h1];decide),if_neg (by omega),if_pos ⟨h,h1,h2⟩,if_pos h3]
 exact mZ s _ _ _ (by omega) (by omega)
theorem FE {s:ByteArray}{k:Nat} (h:k+2≤s.size) (h1:aE s k=47) (h2:aE s (k+1)=42) (h3:¬eU s (k+2)+2≤s.size):bW s s.size k=(k,false):=by
 have hk:k<s.size:=by omega
 rw[mx hk,bW,if_pos hk,if_neg (by rw[h1];decide),if_neg (by omega),if_pos ⟨h,h1,h2⟩,if_neg h3]
theorem AI {s:ByteArray}{k:Nat} (hk:k<s.size) (h:¬pK (aE s k)) (h1:¬(k+2≤s.size∧aE s k=47∧aE s (k+1)=47)) (h2:¬(k+2≤s.size∧aE s k=47∧aE s (k+1)=42)):bW s s.size k=(k,true):=by
 rw[mx hk,bW,if_pos hk,if_neg h,if_neg h1,if_neg h2]
theorem kU {s:ByteArray}{k:Nat} (hk:k<s.size) (h:¬pK (aE s k)) (h1:¬aE s k=47):bW s s.size k=(k,true):=AI hk h (fun q=>h1 q.2.1) (fun q=>h1 q.2.1)
noncomputable def nC (s:ByteArray):List Tok ⊕ (Nat×Nat):=if 65536<s.size then .inr (0,2) else if 0≤cQ s 0 then .inr ((cQ s 0).toNat,44) else tk s 0 0
theorem BE (s:ByteArray) (k j:Nat) (h1:k≤j) (h2:j<lQ s k):¬aE s j=10:=by
 rw[lQ] at h2
 split at h2
 ·rename_i h
  by_cases e:j=k
  ·subst e;exact h.2
  ·exact BE s (k+1) j (by omega) h2
 ·omega
termination_by s.size-k
decreasing_by omega
theorem DC (s:ByteArray) (k:Nat) (h:lQ s k<s.size):aE s (lQ s k)=10:=by
 rw[lQ] at h ⊢
 split at h
 ·rename_i h1
  rw[dif_pos h1]
  exact DC s (k+1) h
 ·rename_i h1
  rw[dif_neg h1]
  exact Classical.byContradiction fun e=>h1 ⟨h,e⟩
termination_by s.size-k
decreasing_by omega
theorem sy (s:ByteArray) (k j:Nat) (h1:k≤j) (h2:j<eU s k):¬(aE s j=42∧aE s (j+1)=47):=by
 rw[eU] at h2
 split at h2
 ·rename_i h
  by_cases e:j=k
  ·subst e;exact h.2
  ·exact sy s (k+1) j (by omega) h2
 ·omega
termination_by s.size-k
decreasing_by omega
theorem xX (s:ByteArray) (k:Nat) (h:eU s k+2≤s.size):aE s (eU s k)=42∧aE s (eU s k+1)=47:=by
 rw[eU] at h ⊢
 split at h
 ·rename_i h1
  rw[dif_pos h1]
  exact xX s (k+1) h
 ·rename_i h1
  rw[dif_neg h1]
  exact Classical.byContradiction fun e=>h1 ⟨h,e⟩
termination_by s.size-k
decreasing_by omega
theorem lk {s:ByteArray}{k j:Nat} (h:k+j<s.size):aE (s.extract k s.size) j=aE s (k+j):=by
 have hz:j<(s.extract k s.size).size:=by rw[ByteArray.size_extract];omega
 have e1:=qS _ j hz
 rw[bA,List.getElem?_take,if_pos (by omega),List.getElem?_drop,qS s (k+j) h] at e1
 exact (zC e1).symm
theorem Vj {s:ByteArray}{k:Nat} (hk:k≤s.size):firstIdx (s.extract k s.size) 10=if lQ s k<s.size then ((lQ s k-k:Nat):Int) else -1:=by
 have hz:(s.extract k s.size).size=s.size-k:=by rw[ByteArray.size_extract];omega
 have hb:∀i,i<s.size-k→(((s.extract k s.size)[i]! == (10:UInt8))=true↔aE s (k+i)=10):=fun i hi=>by
  have ui:i<(s.extract k s.size).size:=by omega
  rw[getElem!_pos _ i ui,←lk (by omega),aE,dif_pos ui]
  constructor
  ·intro h;rw[eq_of_beq h];rfl
  ·intro h;exact beq_iff_eq.2 (UInt8.toNat_inj.1 h)
 have VF:=xp s k
 unfold firstIdx
 rw[hz]
 by_cases h:lQ s k<s.size
 ·rw[if_pos h]
  have hf:(List.range (s.size-k)).find? (fun i=>(s.extract k s.size)[i]! == (10:UInt8))=some (lQ s k-k):=by
   refine List.find?_range_eq_some.2 ⟨(hb _ (by omega)).2 ?_,List.mem_range.2 (by omega),fun j hj=>?_⟩
   ·rw[show k+(lQ s k-k)=lQ s k by omega]
    exact DC s k h
   ·have:=BE s k (k+j) (by omega) (by omega)
    rw[Bool.not_eq_true',←Bool.not_eq_true]
    exact fun q=>this ((hb j (by omega)).1 q)
  rw[hf]
 ·rw[if_neg h]
  have hf:(List.range (s.size-k)).find? (fun i=>(s.extract k s.size)[i]! == (10:UInt8))=none:=by
   refine List.find?_range_eq_none.2 fun j hj=>?_
   have:=BE s k (k+j) (by omega) (by omega)
   rw[Bool.not_eq_true',←Bool.not_eq_true]
   exact fun q=>this ((hb j hj).1 q)
  rw[hf]
theorem yp {s:ByteArray}{k j:Nat} (hk:k≤s.size):Lib.occAt (s.extract k s.size).data.toList [42,47] j=true↔k+j+2≤s.size∧aE s (k+j)=42∧aE s (k+j+1)=47:=by
 have hl:(s.extract k s.size).data.toList.length=s.size-k:=by
  show (s.extract k s.size).size=_
  rw[ByteArray.size_extract];omega
 by_cases hr:k+j+2≤s.size
 ·have e:((s.extract k s.size).data.toList.drop j).take 2=(s.extract (k+j) (k+j+2)).data.toList:=by
   rw[Lib.extract_data,Lib.extract_data,List.drop_take,List.take_take,List.drop_drop,Nat.min_eq_left (by omega)]
   congr 1
   omega
  rw[Lib.occAt_iff_take _ _ _ (by rw[hl];show j+2≤_;omega)]
  show ((((s.extract k s.size).data.toList.drop j).take 2)==[42,47])=true↔_
  rw[e,beq_iff_eq,Uy hr]
  exact ⟨fun q=>⟨hr,q⟩,fun q=>q.2⟩
 ·refine ⟨fun q=>?_,fun q=>absurd q.1 hr⟩
  rcases Lib.occAt_room q with h|h
  ·rw[hl] at h
   exact absurd (show k+j+2≤s.size by have:([42,47]:List UInt8).length=2:=rfl;omega) hr
  ·cases h
theorem NW {s:ByteArray}{k:Nat} (hk:k≤s.size):Lib.index (s.extract k s.size).data.toList [42,47]=if eU s k+2≤s.size then ((eU s k-k:Nat):Int) else -1:=by
 have hl:(s.extract k s.size).data.toList.length=s.size-k:=by
  show (s.extract k s.size).size=_
  rw[ByteArray.size_extract];omega
 have VF:=kJ s k
 by_cases h:eU s k+2≤s.size
 ·rw[if_pos h]
  refine Lib.index_first (by rw[hl];omega) ((yp hk).2 ?_) (fun j hj=>?_)
  ·rw[show k+(eU s k-k)=eU s k by omega]
   exact ⟨h,xX s k h⟩
  ·rw[←Bool.not_eq_true]
   exact fun q=>sy s k (k+j) (by omega) (by omega) ((yp hk).1 q).2
 ·rw[if_neg h]
  refine Lib.index_none fun j _=>?_
  rw[←Bool.not_eq_true]
  intro q
  have q2:=(yp hk).1 q
  by_cases hj:k+j<eU s k
  ·exact sy s k (k+j) (by omega) hj q2.2
  ·omega
theorem Is {s:ByteArray}{k:Nat} (hk:k≤s.size) (a b:UInt8):Cx (s.extract k s.size) ⟨#[a,b]⟩↔k+2≤s.size∧aE s k=a.toNat∧aE s (k+1)=b.toNat:=by
 unfold Cx
 show (aI (s.extract k s.size)).take 2=[a.toNat,b.toNat]↔_
 rw[bA]
 by_cases hr:k+2≤s.size
 ·have e:(((aI s).drop k).take (s.size-k)).take 2=[aE s k,aE s (k+1)]:=by
   rw[List.take_take,Nat.min_eq_left (by omega)]
   apply List.ext_getElem?
   intro i
   rw[List.getElem?_take]
   match i with
   |0=>rw[if_pos (by omega),List.getElem?_drop,Nat.add_zero,qS s k (by omega)];rfl
   |1=>rw[if_pos (by omega),List.getElem?_drop,qS s (k+1) (by omega)];rfl
   |i+2=>rw[if_neg (by omega)];rfl
  rw[e]
  simp[hr]
 ·refine ⟨fun q=>?_,fun q=>absurd q.1 hr⟩
  have:=congrArg List.length q
  rw[List.length_take,List.length_take,List.length_drop,bG] at this
  simp at this
  omega
end Go.Proofs.YtjophoclfccmcaaGreatDoor
namespace Go.Proofs.YtjophoclfccmcaaGreatDoor
open Go.RowKit
attribute [local go_sem ↓] Go.wp_at_zero Go.wp_at_succ
def fp (ts:List Tok):List Value:=ts.flatMap fun t=>[.int .i64 (t.kind:Int),.int .i64 (t.place:Int),.string t.text]
theorem xS (a b:List Tok):fp (a++b)=fp a++fp b:=by simp[fp]
structure fI (W:World) (B b:Nat) (s:ByteArray) (k n:Nat) (v:Value) (xs:List Value):Prop where
 sc:cW W b s k v
 lo:b<B
 hi:B≤W.heap.size
 row:W.ownsRow B 38 3 v n xs
 more:k<s.size
 size:s.size≤65536
 room:n≤16383
theorem fI.up {W w:World}{B b:Nat}{s:ByteArray}{k n:Nat}{v:Value}{xs:List Value} (h:fI W B b s k n v xs) (hb:Below W.heap.size W w):fI w B b s k n v xs:=⟨h.sc.up hb,h.lo,Nat.le_trans h.hi hb.size,Yw h.row hb,h.more,h.size,h.room⟩
theorem fI.shape {W:World}{B b:Nat}{s:ByteArray}{k n:Nat}{v:Value}{xs:List Value} (h:fI W B b s k n v xs):∃a c,v=.slice a n c:=by
 obtain ⟨_,⟨e,h0⟩|⟨g,c,_,e,_⟩⟩:=h.row
 ·exact ⟨none,0,by rw[e,h0]⟩
 ·exact ⟨_,_,e⟩
def iE (B b:Nat) (s:ByteArray) (k n:Nat) (xs:List Value) (W:World) (e:Ending) (w:World):Prop :=
 BX B b W w∧((e=.returned (.int .i64 0)∧∃(k':Nat) (ts:List Tok) (v':Value),cW w b s k' v'∧w.ownsRow B 38 3 v' (n+ts.length) (xs++fp ts)∧k<k'∧k'≤s.size∧n+ts.length≤16383∧tk s k n=oB ts (tk s k' (n+ts.length)))
  ∨ (∃(c:Nat) (v':Value),c≠0∧e=.returned (.int .i64 (c:Int))∧cW w b s k v'∧tk s k n=.inr (k,c)))
theorem iE.ret {B b:Nat}{s:ByteArray}{k n:Nat}{xs:List Value}{W w:World}{e:Ending} (h:iE B b s k n xs W e w):∃c:Int,e=.returned (.int .i64 c):=by
 obtain ⟨_,⟨rfl,_⟩|⟨c,_,_,rfl,_⟩⟩:=h
 ·exact ⟨0,rfl⟩
 ·exact ⟨(c:Int),rfl⟩
theorem iE.from {B b:Nat}{s:ByteArray}{k n:Nat}{xs:List Value}{W W1 w:World}{e:Ending} (h:iE B b s k n xs W1 e w) (hb:Below W.heap.size W W1) (hB:B≤W.heap.size):iE B b s k n xs W e w:=⟨(BX.of hb hB).trans h.1,h.2⟩
theorem JL {W:World}{B b:Nat}{s:ByteArray}{k n c:Nat}{v:Value}{xs:List Value} (I:fI W B b s k n v xs) (hp:bW s s.size k=(k,true)) (ho:(gQ s k).2.2=c) (hc:c≠0) (kind m:Int) :
  Calls Tryz.prog 79 #[.pointer (some ⟨b,0,none⟩),.int .i64 kind,.int .i64 m,.int .i64 (c:Int)] W (iE B b s k n xs W):=by
 obtain ⟨va,vc,rfl⟩:=I.shape
 by_cases hn:n=16383
 ·subst hn
  refine (AA I.sc).mono ?_
  rintro e w ⟨rfl,rfl⟩
  exact ⟨BX.refl _ _ _,.inr ⟨45,_,by decide,rfl,I.sc,H9 I.more hp⟩⟩
 ·have Oi:n<16383:=by have:=I.room;omega
  refine (Mh I.sc Oi (by omega)).mono ?_
  rintro e w ⟨rfl,rfl⟩
  exact ⟨BX.refl _ _ _,.inr ⟨c,_,hc,rfl,I.sc,UA I.more hp Oi ho hc⟩⟩
theorem Mg {W:World}{B b:Nat}{s:ByteArray}{k n m t:Nat}{v:Value}{xs:List Value} (I:fI W B b s k n v xs) (hp:bW s s.size k=(k,true)) (ho:gQ s k=(t,k+m,0)) :
  Calls Tryz.prog 79 #[.pointer (some ⟨b,0,none⟩),.int .i64 (t:Int),.int .i64 (m:Int),.int .i64 0] W (iE B b s k n xs W):=by
 obtain ⟨va,vc,rfl⟩:=I.shape
 have hle:=By I.more (by rw[ho])
 rw[ho] at hle
 replace hle:k<k+m∧k+m≤s.size:=hle
 by_cases hn:n=16383
 ·subst hn
  refine (AA I.sc).mono ?_
  rintro e w ⟨rfl,rfl⟩
  exact ⟨BX.refl _ _ _,.inr ⟨45,_,by decide,rfl,I.sc,H9 I.more hp⟩⟩
 ·have Oi:n<16383:=by have:=I.room;omega
  refine (Mj I.sc I.lo I.hi I.row hle.2 I.size Oi).mono ?_
  rintro e w ⟨rfl,v',g1,g2,g3⟩
  refine ⟨g3,.inl ⟨rfl,k+m,[⟨t,k,s.extract k (k+m)⟩],v',g1,g2,hle.1,hle.2,by simp;omega,?_⟩⟩
  rw[Uz I.more hp Oi ho]
  cases tk s (k+m) (n+1)<;>rfl
end Go.Proofs.YtjophoclfccmcaaGreatDoor

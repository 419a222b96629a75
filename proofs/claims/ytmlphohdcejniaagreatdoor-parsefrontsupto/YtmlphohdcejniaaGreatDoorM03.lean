import Derived.Test.YtmlphohdcejniaaGreatDoorM02
import Derived.Lib.Index
namespace Go.Proofs.YtmlphohdcejniaaGreatDoor
open Go.RowKit
attribute [local go_sem ↓] Go.wp_at_zero Go.wp_at_succ
theorem ow (s:ByteArray):∀(n k:Nat),(∀j,j<n→k+j<s.size∧(isLet (ax s (k+j))∨bZ (ax s (k+j))))→(k+n<s.size→¬(isLet (ax s (k+n))∨bZ (ax s (k+n))))→ew s k=k+n
 |0,k,_,h2=>by
  rw[ew,dif_neg (fun q=>h2 q.1 q.2)]
  rfl
 |n+1,k,h1,h2=>by
  have h0:=h1 0 (by omega)
  rw[Nat.add_zero] at h0
  rw[ew,dif_pos h0,ow s n (k+1) (fun j hj=>?_) (fun h=>?_)]
  ·omega
  ·have:=h1 (j+1) (by omega)
   rwa [show k+(j+1)=k+1+j by omega] at this
  ·rw[show k+1+n=k+(n+1) by omega] at h ⊢
   exact h2 h
theorem eY (s:ByteArray) (k:Nat) (h:k<s.size):(aH s)[k]?=some (ax s k):=by
 unfold aH ax
 rw[dif_pos h,List.getElem?_map,Array.getElem?_toList,Array.getElem?_eq_getElem (by show k<s.size;exact h)]
 rfl
theorem x9 {s:ByteArray}{k n:Nat} (hk:k≤s.size) (hn:n≤(s.extract k s.size).size) (h1:∀j x,j<n→(aH (s.extract k s.size))[j]?=some x→isLet x∨bZ x) (h2:∀x,(aH (s.extract k s.size))[n]?=some x→¬(isLet x∨bZ x)):ew s k=k+n∧k+n≤s.size:=by
 have bU:(s.extract k s.size).size=s.size-k:=by rw[ByteArray.size_extract];omega
 have he:∀j,k+j<s.size→(aH (s.extract k s.size))[j]?=some (ax s (k+j)):=fun j hj=>by
  rw[bc,List.getElem?_take,if_pos (by omega),List.getElem?_drop]
  exact eY s (k+j) hj
 refine ⟨ow s n k (fun j hj=>⟨by omega,h1 j _ hj (he j (by omega))⟩) (fun h=>h2 _ (he n h)),by omega⟩
end Go.Proofs.YtmlphohdcejniaaGreatDoor
namespace Go.Proofs.YtmlphohdcejniaaGreatDoor
open Go.RowKit
def wv (l:List Nat):Option Nat :=
 if l.take 2=[48,120]∨l.take 2=[48,88] then (if l.length=2 then none else cK 16 9223372036854775807 (l.drop 2) 0)
 else if l.take 1=[48] then cK 8 9223372036854775807 l 0 else if l=[] then none else cK 10 9223372036854775807 l 0
theorem vA {B M:Nat}:∀(l:List Nat) (n u:Nat),n≤M→cK B M l n=some u→u≤M
 |[],n,u,hn,h=>by
  have:n=u:=by simpa[cK] using h
  omega
 |c::r,n,u,hn,h=>by
  simp only[cK] at h
  split at h
  ·cases h
  ·split at h
   ·rename_i hc
    exact vA r _ u hc.2 h
   ·cases h
theorem CF {l:List Nat}{u:Nat} (h:wv l=some u):u≤9223372036854775807:=by
 unfold wv at h
 split at h
 ·split at h
  ·cases h
  ·exact vA _ 0 u (by decide) h
 ·split at h
  ·exact vA _ 0 u (by decide) h
  ·split at h
   ·cases h
   ·exact vA _ 0 u (by decide) h
def cJ (s:ByteArray) (k:Nat):Nat×Nat×Nat :=
 if isLet (ax s k) then (1,ew s k,0)
 else if bZ (ax s k) then (if wv (aH (s.extract k (ew s k)))=none then (0,0,41) else (2,ew s k,0))
 else if ax s k=39∨ax s k=34 then (match gC s (ax s k) (k+1) with|none=>(0,0,42)|some (_,e)=>(3,e,0))
 else if jl (ax s k) then (4,k+1,0) else (0,0,40)
structure Tok where
 kind:Nat
 place:Nat
 text:ByteArray
def IF (t:Tok):List Tok ⊕ (Nat×Nat)→List Tok ⊕ (Nat×Nat)
 |.inl l=>.inl (t::l)
 |.inr e=>.inr e
def nN (p:List Tok):List Tok ⊕ (Nat×Nat)→List Tok ⊕ (Nat×Nat)
 |.inl l=>.inl (p++l)
 |.inr e=>.inr e
theorem pH (x:List Tok ⊕ (Nat×Nat)):nN [] x=x:=by cases x<;>rfl
def jV (s:ByteArray):Nat→Nat→Nat→(List Tok ⊕ (Nat×Nat))
 |0,_,_=>.inr (0,0)
 |f+1,k,n=>if (bA s s.size k).2=false then .inr ((bA s s.size k).1,43)
  else if (bA s s.size k).1=s.size then .inl [⟨5,(bA s s.size k).1,⟨#[]⟩⟩]
  else if n=16383 then .inr ((bA s s.size k).1,45)
  else if (cJ s (bA s s.size k).1).2.2=0 then
   IF ⟨(cJ s (bA s s.size k).1).1,(bA s s.size k).1,s.extract (bA s s.size k).1 (cJ s (bA s s.size k).1).2.1⟩ (jV s f (cJ s (bA s s.size k).1).2.1 (n+1))
  else .inr ((bA s s.size k).1,(cJ s (bA s s.size k).1).2.2)
theorem Dg (s:ByteArray):∀(f k:Nat),k≤s.size→k≤(bA s f k).1∧(bA s f k).1≤s.size:=by
 intro f
 induction f with
 |zero=>intro k hk;exact ⟨zD _,hk⟩
 |succ f ih =>
  intro k hk
  rw[bA]
  split
  ·split
   ·have:=ih (k+1) (by omega);omega
   ·split
    ·rename_i h h1 h2
     have a:=vC s k
     have b:=Br s k hk
     have:=ih _ b;omega
    ·split
     ·split
      ·rename_i h5
       have a:=kp s (k+2)
       have:=ih _ h5;omega
      ·exact ⟨zD _,hk⟩
     ·exact ⟨zD _,hk⟩
  ·exact ⟨zD _,hk⟩
theorem AH {s:ByteArray}{k:Nat} (hk:k<s.size) (h:isLet (ax s k)∨bZ (ax s k)):k<ew s k:=by
 rw[ew,dif_pos ⟨hk,h⟩]
 have:=AI s (k+1)
 omega
theorem vz {s:ByteArray}{k:Nat} (hk:k<s.size) (h:(cJ s k).2.2=0):k<(cJ s k).2.1∧(cJ s k).2.1≤s.size:=by
 unfold cJ at h ⊢
 by_cases h1:isLet (ax s k)
 ·rw[if_pos h1]
  exact ⟨AH hk (.inl h1),sh s k (by omega)⟩
 ·rw[if_neg h1] at h ⊢
  by_cases h2:bZ (ax s k)
  ·rw[if_pos h2] at h ⊢
   split at h
   ·cases h
   ·rename_i h3
    rw[if_neg h3]
    exact ⟨AH hk (.inr h2),sh s k (by omega)⟩
  ·rw[if_neg h2] at h ⊢
   by_cases h3:ax s k=39∨ax s k=34
   ·rw[if_pos h3] at h ⊢
    split at h
    ·cases h
    ·rename_i l e he
     have:=zQ _ (k+1) l e (zD _) he
     show k<e∧e≤s.size
     omega
   ·rw[if_neg h3] at h ⊢
    split at h
    ·rename_i h4
     rw[if_pos h4]
     show k<k+1∧k+1≤s.size
     omega
    ·cases h
theorem I' (s:ByteArray):∀(f f' k n:Nat),k≤s.size→s.size-k<f→s.size-k<f'→jV s f k n=jV s f' k n:=by
 intro f
 induction f with
 |zero=>intro f' k n _ hf;omega
 |succ f ih =>
  intro f' k n hk hf SV
  cases f' with
  |zero=>omega
  |succ f' =>
   rw[jV,jV]
   have hp:=Dg s s.size k hk
   split
   ·rfl
   ·split
    ·rfl
    ·split
     ·rfl
     ·split
      ·rename_i h1 h2 h3 h4
       have:=vz (by omega) h4
       rw[ih f' _ (n+1) this.2 (by omega) (by omega)]
      ·rfl
def tk (s:ByteArray) (k n:Nat):List Tok ⊕ (Nat×Nat):=jV s (s.size+1) k n
theorem A8 {s:ByteArray}{k k':Nat} (n:Nat) (h:bA s s.size k=bA s s.size k'):tk s k n=tk s k' n:=by
 unfold tk
 rw[jV,jV,h]
theorem L1 (s:ByteArray):bA s s.size s.size=(s.size,true):=by
 cases hz:s.size with
 |zero=>rfl
 |succ n=>rw[bA,if_neg (by omega)]
theorem Lu (s:ByteArray) (n:Nat):tk s s.size n=.inl [⟨5,s.size,⟨#[]⟩⟩]:=by
 unfold tk
 rw[jV,L1,if_neg (by simp),if_pos rfl]
theorem Lt {s:ByteArray}{k n:Nat} (h:bA s s.size k=(k,false)):tk s k n=.inr (k,43):=by
 unfold tk
 rw[jV,h,if_pos rfl]
theorem A9 {s:ByteArray}{k:Nat} (hk:k<s.size) (h:bA s s.size k=(k,true)):tk s k 16383=.inr (k,45):=by
 unfold tk
 rw[jV,h,if_neg (by simp),if_neg (by show ¬k=s.size;omega),if_pos rfl]
theorem TA {s:ByteArray}{k n c:Nat} (hk:k<s.size) (h:bA s s.size k=(k,true)) (hn:n<16383) (h1:(cJ s k).2.2=c) (hc:c≠0):tk s k n=.inr (k,c):=by
 unfold tk
 rw[jV,h,if_neg (by simp),if_neg (by show ¬k=s.size;omega),if_neg (by omega)]
 show (if (cJ s k).2.2=0 then _ else Sum.inr (k,(cJ s k).2.2))=_
 rw[h1,if_neg hc]
theorem Ls {s:ByteArray}{k n t e:Nat} (hk:k<s.size) (h:bA s s.size k=(k,true)) (hn:n<16383) (h1:cJ s k=(t,e,0)):tk s k n=IF ⟨t,k,s.extract k e⟩ (tk s e (n+1)):=by
 have hle:=vz hk (by rw[h1])
 rw[h1] at hle
 unfold tk
 rw[jV,h,if_neg (by simp),if_neg (by show ¬k=s.size;omega),if_neg (by omega)]
 show (if (cJ s k).2.2=0 then IF ⟨(cJ s k).1,k,s.extract k (cJ s k).2.1⟩ (jV s s.size (cJ s k).2.1 (n+1)) else _)=_
 rw[h1,if_pos rfl]
 rw[I' s s.size (s.size+1) e (n+1) hle.2 (by have:=hle.1;simp at this;omega) (by omega)]
theorem lU {s:ByteArray}{k:Nat} (hk:k<s.size):bA s s.size k=bA s (s.size-k-1+1) k:=mE s _ _ k (by omega) (by omega)
theorem xa {s:ByteArray}{k:Nat} (hk:k<s.size) (h:l7 (ax s k)):bA s s.size k=bA s s.size (k+1):=by
 rw[lU hk,bA,if_pos hk,if_pos h]
 exact mE s _ _ _ (by omega) (by omega)
theorem Ag {s:ByteArray}{k:Nat} (h:k+2≤s.size) (h1:ax s k=47) (h2:ax s (k+1)=47):bA s s.size k=bA s s.size (j6 s k):=by
 have hk:k<s.size:=by omega
 have hnl:=Bq hk h1
 rw[lU hk,bA,if_pos hk,if_neg (by rw[h1];decide),if_pos ⟨h,h1,h2⟩]
 exact mE s _ _ _ (by omega) (by omega)
theorem Af {s:ByteArray}{k:Nat} (h:k+2≤s.size) (h1:ax s k=47) (h2:ax s (k+1)=42) (h3:dD s (k+2)+2≤s.size):bA s s.size k=bA s s.size (dD s (k+2)+2):=by
 have hk:k<s.size:=by omega
 have:=kp s (k+2)
 rw[lU hk,bA,if_pos hk,if_neg (by rw[h1];decide),if_neg (by omega),if_pos ⟨h,h1,h2⟩,if_pos h3]
 exact mE s _ _ _ (by omega) (by omega)
theorem Fs {s:ByteArray}{k:Nat} (h:k+2≤s.size) (h1:ax s k=47) (h2:ax s (k+1)=42) (h3:¬dD s (k+2)+2≤s.size):bA s s.size k=(k,false):=by
 have hk:k<s.size:=by omega
 rw[lU hk,bA,if_pos hk,if_neg (by rw[h1];decide),if_neg (by omega),if_pos ⟨h,h1,h2⟩,if_neg h3]
theorem Ae {s:ByteArray}{k:Nat} (hk:k<s.size) (h:¬l7 (ax s k)) (h1:¬(k+2≤s.size∧ax s k=47∧ax s (k+1)=47)) (h2:¬(k+2≤s.size∧ax s k=47∧ax s (k+1)=42)):bA s s.size k=(k,true):=by
 rw[lU hk,bA,if_pos hk,if_neg h,if_neg h1,if_neg h2]
theorem iP {s:ByteArray}{k:Nat} (hk:k<s.size) (h:¬l7 (ax s k)) (h1:¬ax s k=47):bA s s.size k=(k,true):=Ae hk h (fun q=>h1 q.2.1) (fun q=>h1 q.2.1)
noncomputable def lP (s:ByteArray):List Tok ⊕ (Nat×Nat):=if 65536<s.size then .inr (0,2) else if 0≤dq s 0 then .inr ((dq s 0).toNat,44) else tk s 0 0
theorem Bp (s:ByteArray) (k j:Nat) (h1:k≤j) (h2:j<j6 s k):¬ax s j=10:=by
 rw[j6] at h2
 split at h2
 ·rename_i h
  by_cases e:j=k
  ·subst e;exact h.2
  ·exact Bp s (k+1) j (by omega) h2
 ·omega
termination_by s.size-k
decreasing_by omega
theorem Dy (s:ByteArray) (k:Nat) (h:j6 s k<s.size):ax s (j6 s k)=10:=by
 rw[j6] at h ⊢
 split at h
 ·rename_i h1
  rw[dif_pos h1]
  exact Dy s (k+1) h
 ·rename_i h1
  rw[dif_neg h1]
  exact Classical.byContradiction fun e=>h1 ⟨h,e⟩
termination_by s.size-k
decreasing_by omega
theorem rD (s:ByteArray) (k j:Nat) (h1:k≤j) (h2:j<dD s k):¬(ax s j=42∧ax s (j+1)=47):=by
 rw[dD] at h2
 split at h2
 ·rename_i h
  by_cases e:j=k
  ·subst e;exact h.2
  ·exact rD s (k+1) j (by omega) h2
 ·omega
termination_by s.size-k
decreasing_by omega
theorem wS (s:ByteArray) (k:Nat) (h:dD s k+2≤s.size):ax s (dD s k)=42∧ax s (dD s k+1)=47:=by
 rw[dD] at h ⊢
 split at h
 ·rename_i h1
  rw[dif_pos h1]
  exact wS s (k+1) h
 ·rename_i h1
  rw[dif_neg h1]
  exact Classical.byContradiction fun e=>h1 ⟨h,e⟩
termination_by s.size-k
decreasing_by omega
theorem kP {s:ByteArray}{k j:Nat} (h:k+j<s.size):ax (s.extract k s.size) j=ax s (k+j):=by
 have hz:j<(s.extract k s.size).size:=by rw[ByteArray.size_extract];omega
 have e1:=eY _ j hz
 rw[bc,List.getElem?_take,if_pos (by omega),List.getElem?_drop,eY s (k+j) h] at e1
 exact (zC e1).symm
theorem Un {s:ByteArray}{k:Nat} (hk:k≤s.size):firstIdx (s.extract k s.size) 10=if j6 s k<s.size then ((j6 s k-k:Nat):Int) else -1:=by
 have hz:(s.extract k s.size).size=s.size-k:=by rw[ByteArray.size_extract];omega
 have hb:∀i,i<s.size-k→(((s.extract k s.size)[i]! == (10:UInt8))=true↔ax s (k+i)=10):=fun i hi=>by
  have qz:i<(s.extract k s.size).size:=by omega
  rw[getElem!_pos _ i qz,←kP (by omega),ax,dif_pos qz]
  constructor
  ·intro h;rw[eq_of_beq h];rfl
  ·intro h;exact beq_iff_eq.2 (UInt8.toNat_inj.1 h)
 have QW:=vC s k
 unfold firstIdx
 rw[hz]
 by_cases h:j6 s k<s.size
 ·rw[if_pos h]
  have hf:(List.range (s.size-k)).find? (fun i=>(s.extract k s.size)[i]! == (10:UInt8))=some (j6 s k-k):=by
   refine List.find?_range_eq_some.2 ⟨(hb _ (by omega)).2 ?_,List.mem_range.2 (by omega),fun j hj=>?_⟩
   ·rw[show k+(j6 s k-k)=j6 s k by omega]
    exact Dy s k h
   ·have:=Bp s k (k+j) (by omega) (by omega)
    rw[Bool.not_eq_true',←Bool.not_eq_true]
    exact fun q=>this ((hb j (by omega)).1 q)
  rw[hf]
 ·rw[if_neg h]
  have hf:(List.range (s.size-k)).find? (fun i=>(s.extract k s.size)[i]! == (10:UInt8))=none:=by
   refine List.find?_range_eq_none.2 fun j hj=>?_
   have:=Bp s k (k+j) (by omega) (by omega)
   rw[Bool.not_eq_true',←Bool.not_eq_true]
   exact fun q=>this ((hb j hj).1 q)
  rw[hf]
theorem xg {s:ByteArray}{k j:Nat} (hk:k≤s.size):Lib.occAt (s.extract k s.size).data.toList [42,47] j=true↔k+j+2≤s.size∧ax s (k+j)=42∧ax s (k+j+1)=47:=by
 have hl:(s.extract k s.size).data.toList.length=s.size-k:=by
  show (s.extract k s.size).size=_
  rw[ByteArray.size_extract];omega
 by_cases hr:k+j+2≤s.size
 ·have e:((s.extract k s.size).data.toList.drop j).take 2=(s.extract (k+j) (k+j+2)).data.toList:=by
   rw[Lib.extract_data,Lib.extract_data,List.drop_take,List.take_take,List.drop_drop,Nat.min_eq_left (by omega)]
   congr 1
   omega
  rw[Lib.occAt_iff_take _ _ _ (by rw[hl];show j+2≤_;omega)]
  show ((((s.extract k s.size).data.toList.drop j).take 2)==[42,47])=true↔_
  rw[e,beq_iff_eq,Tz hr]
  exact ⟨fun q=>⟨hr,q⟩,fun q=>q.2⟩
 ·refine ⟨fun q=>?_,fun q=>absurd q.1 hr⟩
  rcases Lib.occAt_room q with h|h
  ·rw[hl] at h
   exact absurd (show k+j+2≤s.size by have:([42,47]:List UInt8).length=2:=rfl;omega) hr
  ·cases h
theorem MW {s:ByteArray}{k:Nat} (hk:k≤s.size):Lib.index (s.extract k s.size).data.toList [42,47]=if dD s k+2≤s.size then ((dD s k-k:Nat):Int) else -1:=by
 have hl:(s.extract k s.size).data.toList.length=s.size-k:=by
  show (s.extract k s.size).size=_
  rw[ByteArray.size_extract];omega
 have QW:=kp s k
 by_cases h:dD s k+2≤s.size
 ·rw[if_pos h]
  refine Lib.index_first (by rw[hl];omega) ((xg hk).2 ?_) (fun j hj=>?_)
  ·rw[show k+(dD s k-k)=dD s k by omega]
   exact ⟨h,wS s k h⟩
  ·rw[←Bool.not_eq_true]
   exact fun q=>rD s k (k+j) (by omega) (by omega) ((xg hk).1 q).2
 ·rw[if_neg h]
  refine Lib.index_none fun j _=>?_
  rw[←Bool.not_eq_true]
  intro q
  have q2:=(xg hk).1 q
  by_cases hj:k+j<dD s k
  ·exact rD s k (k+j) (by omega) hj q2.2
  ·omega
theorem G5 {s:ByteArray}{k:Nat} (hk:k≤s.size) (a b:UInt8):Cn (s.extract k s.size) ⟨#[a,b]⟩↔k+2≤s.size∧ax s k=a.toNat∧ax s (k+1)=b.toNat:=by
 unfold Cn
 show (aH (s.extract k s.size)).take 2=[a.toNat,b.toNat]↔_
 rw[bc]
 by_cases hr:k+2≤s.size
 ·have e:(((aH s).drop k).take (s.size-k)).take 2=[ax s k,ax s (k+1)]:=by
   rw[List.take_take,Nat.min_eq_left (by omega)]
   apply List.ext_getElem?
   intro i
   rw[List.getElem?_take]
   match i with
   |0=>rw[if_pos (by omega),List.getElem?_drop,Nat.add_zero,eY s k (by omega)];rfl
   |1=>rw[if_pos (by omega),List.getElem?_drop,eY s (k+1) (by omega)];rfl
   |i+2=>rw[if_neg (by omega)];rfl
  rw[e]
  simp[hr]
 ·refine ⟨fun q=>?_,fun q=>absurd q.1 hr⟩
  have:=congrArg List.length q
  rw[List.length_take,List.length_take,List.length_drop,bk] at this
  simp at this
  omega
end Go.Proofs.YtmlphohdcejniaaGreatDoor
namespace Go.Proofs.YtmlphohdcejniaaGreatDoor
open Go.RowKit
attribute [local go_sem ↓] Go.wp_at_zero Go.wp_at_succ
def cI (ts:List Tok):List Value:=ts.flatMap fun t=>[.int .i64 (t.kind:Int),.int .i64 (t.place:Int),.string t.text]
theorem pw (a b:List Tok):cI (a++b)=cI a++cI b:=by simp[cI]
theorem gO (a:List Tok):(cI a).length=3*a.length:=by
 induction a with
 |nil=>rfl
 |cons t r ih=>simp only[cI,List.flatMap_cons,zK,List.length_cons,List.length_nil] at ih ⊢;omega
structure fI (W:World) (B b:Nat) (s:ByteArray) (k n:Nat) (v:Value) (xs:List Value):Prop where
 sc:cL W b s k v
 lo:b<B
 hi:B≤W.heap.size
 row:W.ownsRow B 44 3 v n xs
 more:k<s.size
 size:s.size≤65536
 room:n≤16383
theorem fI.up {W w:World}{B b:Nat}{s:ByteArray}{k n:Nat}{v:Value}{xs:List Value} (h:fI W B b s k n v xs) (hb:Below W.heap.size W w):fI w B b s k n v xs:=⟨h.sc.up hb,h.lo,Nat.le_trans h.hi hb.size,XH h.row hb,h.more,h.size,h.room⟩
theorem fI.shape {W:World}{B b:Nat}{s:ByteArray}{k n:Nat}{v:Value}{xs:List Value} (h:fI W B b s k n v xs):∃a c,v=.slice a n c:=by
 obtain ⟨_,⟨e,h0⟩|⟨g,c,_,e,_⟩⟩:=h.row
 ·exact ⟨none,0,by rw[e,h0]⟩
 ·exact ⟨_,_,e⟩
def ig (B b:Nat) (s:ByteArray) (k n:Nat) (xs:List Value) (W:World) (e:Ending) (w:World):Prop :=
 BX B b W w∧((e=.returned (.int .i64 0)∧∃(k':Nat) (ts:List Tok) (v':Value),cL w b s k' v'∧w.ownsRow B 44 3 v' (n+ts.length) (xs++cI ts)∧k<k'∧k'≤s.size∧n+ts.length≤16383∧tk s k n=nN ts (tk s k' (n+ts.length)))
  ∨ (∃(c:Nat) (v':Value),c≠0∧e=.returned (.int .i64 (c:Int))∧cL w b s k v'∧tk s k n=.inr (k,c)))
theorem ig.ret {B b:Nat}{s:ByteArray}{k n:Nat}{xs:List Value}{W w:World}{e:Ending} (h:ig B b s k n xs W e w):∃c:Int,e=.returned (.int .i64 c):=by
 obtain ⟨_,⟨rfl,_⟩|⟨c,_,_,rfl,_⟩⟩:=h
 ·exact ⟨0,rfl⟩
 ·exact ⟨(c:Int),rfl⟩
theorem ig.from {B b:Nat}{s:ByteArray}{k n:Nat}{xs:List Value}{W W1 w:World}{e:Ending} (h:ig B b s k n xs W1 e w) (hb:Below W.heap.size W W1) (hB:B≤W.heap.size):ig B b s k n xs W e w:=⟨(BX.of hb hB).trans h.1,h.2⟩
theorem Jb {W:World}{B b:Nat}{s:ByteArray}{k n c:Nat}{v:Value}{xs:List Value} (I:fI W B b s k n v xs) (hp:bA s s.size k=(k,true)) (ho:(cJ s k).2.2=c) (hc:c≠0) (kind m:Int) :
  Calls Tryz.prog 60 #[.pointer (some ⟨b,0,none⟩),.int .i64 kind,.int .i64 m,.int .i64 (c:Int)] W (ig B b s k n xs W):=by
 obtain ⟨va,vc,rfl⟩:=I.shape
 by_cases hn:n=16383
 ·subst hn
  refine (zV I.sc).mono ?_
  rintro e w ⟨rfl,rfl⟩
  exact ⟨BX.refl _ _ _,.inr ⟨45,_,by decide,rfl,I.sc,A9 I.more hp⟩⟩
 ·have kK:n<16383:=by have:=I.room;omega
  refine (Lz I.sc kK (by omega)).mono ?_
  rintro e w ⟨rfl,rfl⟩
  exact ⟨BX.refl _ _ _,.inr ⟨c,_,hc,rfl,I.sc,TA I.more hp kK ho hc⟩⟩
theorem Ly {W:World}{B b:Nat}{s:ByteArray}{k n m t:Nat}{v:Value}{xs:List Value} (I:fI W B b s k n v xs) (hp:bA s s.size k=(k,true)) (ho:cJ s k=(t,k+m,0)) :
  Calls Tryz.prog 60 #[.pointer (some ⟨b,0,none⟩),.int .i64 (t:Int),.int .i64 (m:Int),.int .i64 0] W (ig B b s k n xs W):=by
 obtain ⟨va,vc,rfl⟩:=I.shape
 have hle:=vz I.more (by rw[ho])
 rw[ho] at hle
 replace hle:k<k+m∧k+m≤s.size:=hle
 by_cases hn:n=16383
 ·subst hn
  refine (zV I.sc).mono ?_
  rintro e w ⟨rfl,rfl⟩
  exact ⟨BX.refl _ _ _,.inr ⟨45,_,by decide,rfl,I.sc,A9 I.more hp⟩⟩
 ·have kK:n<16383:=by have:=I.room;omega
  refine (LA I.sc I.lo I.hi I.row hle.2 I.size kK).mono ?_
  rintro e w ⟨rfl,v',g1,g2,g3⟩
  refine ⟨g3,.inl ⟨rfl,k+m,[⟨t,k,s.extract k (k+m)⟩],v',g1,g2,hle.1,hle.2,by simp;omega,?_⟩⟩
  rw[Ls I.more hp kK ho]
  cases tk s (k+m) (n+1)<;>rfl
end Go.Proofs.YtmlphohdcejniaaGreatDoor

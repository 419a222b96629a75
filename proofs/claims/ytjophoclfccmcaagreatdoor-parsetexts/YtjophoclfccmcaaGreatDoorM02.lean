import Derived.Test.YtjophoclfccmcaaGreatDoorM01
import Derived.Lib.Index
namespace Go.Proofs.YtjophoclfccmcaaGreatDoor
open Go.RowKit
attribute [local go_sem ↓] Go.wp_at_zero Go.wp_at_succ
theorem A6 (s:ByteArray):∀(n k:Nat),(∀j,j<n→k+j<s.size∧(isLet (az s (k+j))∨dJ (az s (k+j))))→(k+n<s.size→¬(isLet (az s (k+n))∨dJ (az s (k+n))))→cX s k=k+n
 |0,k,_,h2=>by
  rw[cX,dif_neg (fun q=>h2 q.1 q.2)]
  rfl
 |n+1,k,h1,h2=>by
  have h0:=h1 0 (by omega)
  rw[Nat.add_zero] at h0
  rw[cX,dif_pos h0,A6 s n (k+1) (fun j hj=>?_) (fun h=>?_)]
  ·omega
  ·have:=h1 (j+1) (by omega)
   rwa [show k+(j+1)=k+1+j by omega] at this
  ·rw[show k+1+n=k+(n+1) by omega] at h ⊢
   exact h2 h
theorem oN (s:ByteArray) (k:Nat) (h:k<s.size):(aG s)[k]?=some (az s k):=by
 unfold aG az
 rw[dif_pos h,List.getElem?_map,Array.getElem?_toList,Array.getElem?_eq_getElem (by show k<s.size;exact h)]
 rfl
theorem za {s:ByteArray}{k n:Nat} (hk:k≤s.size) (hn:n≤(s.extract k s.size).size) (h1:∀j x,j<n→(aG (s.extract k s.size))[j]?=some x→isLet x∨dJ x) (h2:∀x,(aG (s.extract k s.size))[n]?=some x→¬(isLet x∨dJ x)):cX s k=k+n∧k+n≤s.size:=by
 have cl:(s.extract k s.size).size=s.size-k:=by rw[ByteArray.size_extract];omega
 have he:∀j,k+j<s.size→(aG (s.extract k s.size))[j]?=some (az s (k+j)):=fun j hj=>by
  rw[bD,List.getElem?_take,if_pos (by omega),List.getElem?_drop]
  exact oN s (k+j) hj
 refine ⟨A6 s n k (fun j hj=>⟨by omega,h1 j _ hj (he j (by omega))⟩) (fun h=>h2 _ (he n h)),by omega⟩
end Go.Proofs.YtjophoclfccmcaaGreatDoor
namespace Go.Proofs.YtjophoclfccmcaaGreatDoor
open Go.RowKit
def wv (l:List Nat):Option Nat :=
 if l.take 2=[48,120]∨l.take 2=[48,88] then (if l.length=2 then none else cA 16 9223372036854775807 (l.drop 2) 0)
 else if l.take 1=[48] then cA 8 9223372036854775807 l 0 else if l=[] then none else cA 10 9223372036854775807 l 0
theorem xh {B M:Nat}:∀(l:List Nat) (n u:Nat),n≤M→cA B M l n=some u→u≤M
 |[],n,u,hn,h=>by
  have:n=u:=by simpa[cA] using h
  omega
 |c::r,n,u,hn,h=>by
  simp only[cA] at h
  split at h
  ·cases h
  ·split at h
   ·rename_i hc
    exact xh r _ u hc.2 h
   ·cases h
theorem C8 {l:List Nat}{u:Nat} (h:wv l=some u):u≤9223372036854775807:=by
 unfold wv at h
 split at h
 ·split at h
  ·cases h
  ·exact xh _ 0 u (by decide) h
 ·split at h
  ·exact xh _ 0 u (by decide) h
  ·split at h
   ·cases h
   ·exact xh _ 0 u (by decide) h
def cI (s:ByteArray) (k:Nat):Nat×Nat×Nat :=
 if isLet (az s k) then (1,cX s k,0)
 else if dJ (az s k) then (if wv (aG (s.extract k (cX s k)))=none then (0,0,41) else (2,cX s k,0))
 else if az s k=39∨az s k=34 then (match eY s (az s k) (k+1) with|none=>(0,0,42)|some (_,e)=>(3,e,0))
 else if kW (az s k) then (4,k+1,0) else (0,0,40)
structure Tok where
 kind:Nat
 place:Nat
 text:ByteArray
def zg (t:Tok):List Tok ⊕ (Nat×Nat)→List Tok ⊕ (Nat×Nat)
 |.inl l=>.inl (t::l)
 |.inr e=>.inr e
def ju (p:List Tok):List Tok ⊕ (Nat×Nat)→List Tok ⊕ (Nat×Nat)
 |.inl l=>.inl (p++l)
 |.inr e=>.inr e
theorem ng (x:List Tok ⊕ (Nat×Nat)):ju [] x=x:=by cases x<;>rfl
theorem Ee (p:List Tok) (t:Tok) (x:List Tok ⊕ (Nat×Nat)):ju p (zg t x)=ju (p++[t]) x:=by
 cases x with
 |inl l=>simp[ju,zg]
 |inr e=>rfl
def jD (s:ByteArray):Nat→Nat→Nat→(List Tok ⊕ (Nat×Nat))
 |0,_,_=>.inr (0,0)
 |f+1,k,n=>if (bw s s.size k).2=false then .inr ((bw s s.size k).1,43)
  else if (bw s s.size k).1=s.size then .inl [⟨5,(bw s s.size k).1,⟨#[]⟩⟩]
  else if n=16383 then .inr ((bw s s.size k).1,45)
  else if (cI s (bw s s.size k).1).2.2=0 then
   zg ⟨(cI s (bw s s.size k).1).1,(bw s s.size k).1,s.extract (bw s s.size k).1 (cI s (bw s s.size k).1).2.1⟩ (jD s f (cI s (bw s s.size k).1).2.1 (n+1))
  else .inr ((bw s s.size k).1,(cI s (bw s s.size k).1).2.2)
theorem DF (s:ByteArray):∀(f k:Nat),k≤s.size→k≤(bw s f k).1∧(bw s f k).1≤s.size:=by
 intro f
 induction f with
 |zero=>intro k hk;exact ⟨zD _,hk⟩
 |succ f ih =>
  intro k hk
  rw[bw]
  split
  ·split
   ·have:=ih (k+1) (by omega);omega
   ·split
    ·rename_i h h1 h2
     have a:=xl s k
     have b:=xk s k hk
     have:=ih _ b;omega
    ·split
     ·split
      ·rename_i h5
       have a:=jn s (k+2)
       have:=ih _ h5;omega
      ·exact ⟨zD _,hk⟩
     ·exact ⟨zD _,hk⟩
  ·exact ⟨zD _,hk⟩
theorem A7 {s:ByteArray}{k:Nat} (hk:k<s.size) (h:isLet (az s k)∨dJ (az s k)):k<cX s k:=by
 rw[cX,dif_pos ⟨hk,h⟩]
 have:=A8 s (k+1)
 omega
theorem qX {s:ByteArray}{k:Nat} (hk:k<s.size) (h:(cI s k).2.2=0):k<(cI s k).2.1∧(cI s k).2.1≤s.size:=by
 unfold cI at h ⊢
 by_cases h1:isLet (az s k)
 ·rw[if_pos h1]
  exact ⟨A7 hk (.inl h1),sS s k (by omega)⟩
 ·rw[if_neg h1] at h ⊢
  by_cases h2:dJ (az s k)
  ·rw[if_pos h2] at h ⊢
   split at h
   ·cases h
   ·rename_i h3
    rw[if_neg h3]
    exact ⟨A7 hk (.inr h2),sS s k (by omega)⟩
  ·rw[if_neg h2] at h ⊢
   by_cases h3:az s k=39∨az s k=34
   ·rw[if_pos h3] at h ⊢
    split at h
    ·cases h
    ·rename_i l e he
     have:=AA _ (k+1) l e (zD _) he
     show k<e∧e≤s.size
     omega
   ·rw[if_neg h3] at h ⊢
    split at h
    ·rename_i h4
     rw[if_pos h4]
     show k<k+1∧k+1≤s.size
     omega
    ·cases h
theorem AF (s:ByteArray):∀(f f' k n:Nat),k≤s.size→s.size-k<f→s.size-k<f'→jD s f k n=jD s f' k n:=by
 intro f
 induction f with
 |zero=>intro f' k n _ hf;omega
 |succ f ih =>
  intro f' k n hk hf Tu
  cases f' with
  |zero=>omega
  |succ f' =>
   rw[jD,jD]
   have hp:=DF s s.size k hk
   split
   ·rfl
   ·split
    ·rfl
    ·split
     ·rfl
     ·split
      ·rename_i h1 h2 h3 h4
       have:=qX (by omega) h4
       rw[ih f' _ (n+1) this.2 (by omega) (by omega)]
      ·rfl
def tk (s:ByteArray) (k n:Nat):List Tok ⊕ (Nat×Nat):=jD s (s.size+1) k n
theorem H' {s:ByteArray}{k k':Nat} (n:Nat) (h:bw s s.size k=bw s s.size k'):tk s k n=tk s k' n:=by
 unfold tk
 rw[jD,jD,h]
theorem MG (s:ByteArray):bw s s.size s.size=(s.size,true):=by
 cases hz:s.size with
 |zero=>rfl
 |succ n=>rw[bw,if_neg (by omega)]
theorem Ur (s:ByteArray) (n:Nat):tk s s.size n=.inl [⟨5,s.size,⟨#[]⟩⟩]:=by
 unfold tk
 rw[jD,MG,if_neg (by simp),if_pos rfl]
theorem L9 {s:ByteArray}{k n:Nat} (h:bw s s.size k=(k,false)):tk s k n=.inr (k,43):=by
 unfold tk
 rw[jD,h,if_pos rfl]
theorem Ia {s:ByteArray}{k:Nat} (hk:k<s.size) (h:bw s s.size k=(k,true)):tk s k 16383=.inr (k,45):=by
 unfold tk
 rw[jD,h,if_neg (by simp),if_neg (by show ¬k=s.size;omega),if_pos rfl]
theorem Uq {s:ByteArray}{k n c:Nat} (hk:k<s.size) (h:bw s s.size k=(k,true)) (hn:n<16383) (h1:(cI s k).2.2=c) (hc:c≠0):tk s k n=.inr (k,c):=by
 unfold tk
 rw[jD,h,if_neg (by simp),if_neg (by show ¬k=s.size;omega),if_neg (by omega)]
 show (if (cI s k).2.2=0 then _ else Sum.inr (k,(cI s k).2.2))=_
 rw[h1,if_neg hc]
theorem Uo {s:ByteArray}{k n t e:Nat} (hk:k<s.size) (h:bw s s.size k=(k,true)) (hn:n<16383) (h1:cI s k=(t,e,0)):tk s k n=zg ⟨t,k,s.extract k e⟩ (tk s e (n+1)):=by
 have hle:=qX hk (by rw[h1])
 rw[h1] at hle
 unfold tk
 rw[jD,h,if_neg (by simp),if_neg (by show ¬k=s.size;omega),if_neg (by omega)]
 show (if (cI s k).2.2=0 then zg ⟨(cI s k).1,k,s.extract k (cI s k).2.1⟩ (jD s s.size (cI s k).2.1 (n+1)) else _)=_
 rw[h1,if_pos rfl]
 rw[AF s s.size (s.size+1) e (n+1) hle.2 (by have:=hle.1;simp at this;omega) (by omega)]
theorem mu {s:ByteArray}{k:Nat} (hk:k<s.size):bw s s.size k=bw s (s.size-k-1+1) k:=fw s _ _ k (by omega) (by omega)
theorem FN {s:ByteArray}{k:Nat} (hk:k<s.size) (h:nw (az s k)):bw s s.size k=bw s s.size (k+1):=by
 rw[mu hk,bw,if_pos hk,if_pos h]
 exact fw s _ _ _ (by omega) (by omega)
theorem J6 {s:ByteArray}{k:Nat} (h:k+2≤s.size) (h1:az s k=47) (h2:az s (k+1)=47):bw s s.size k=bw s s.size (jI s k):=by
 have hk:k<s.size:=by omega
 have IE:=xj hk h1
 rw[mu hk,bw,if_pos hk,if_neg (by rw[h1];decide),if_pos ⟨h,h1,h2⟩]
 exact fw s _ _ _ (by omega) (by omega)
theorem J5 {s:ByteArray}{k:Nat} (h:k+2≤s.size) (h1:az s k=47) (h2:az s (k+1)=42) (h3:dW s (k+2)+2≤s.size):bw s s.size k=bw s s.size (dW s (k+2)+2):=by
 have hk:k<s.size:=by omega
 have:=jn s (k+2)
 rw[mu hk,bw,if_pos hk,if_neg (by rw[h1];decide),if_neg (by omega),if_pos ⟨h,h1,h2⟩,if_pos h3]
 exact fw s _ _ _ (by omega) (by omega)
theorem FM {s:ByteArray}{k:Nat} (h:k+2≤s.size) (h1:az s k=47) (h2:az s (k+1)=42) (h3:¬dW s (k+2)+2≤s.size):bw s s.size k=(k,false):=by
 have hk:k<s.size:=by omega
 rw[mu hk,bw,if_pos hk,if_neg (by rw[h1];decide),if_neg (by omega),if_pos ⟨h,h1,h2⟩,if_neg h3]
theorem AO {s:ByteArray}{k:Nat} (hk:k<s.size) (h:¬nw (az s k)) (h1:¬(k+2≤s.size∧az s k=47∧az s (k+1)=47)) (h2:¬(k+2≤s.size∧az s k=47∧az s (k+1)=42)):bw s s.size k=(k,true):=by
 rw[mu hk,bw,if_pos hk,if_neg h,if_neg h1,if_neg h2]
theorem kT {s:ByteArray}{k:Nat} (hk:k<s.size) (h:¬nw (az s k)) (h1:¬az s k=47):bw s s.size k=(k,true):=AO hk h (fun q=>h1 q.2.1) (fun q=>h1 q.2.1)
noncomputable def kO (s:ByteArray):List Tok ⊕ (Nat×Nat):=if 65536<s.size then .inr (0,2) else if 0≤cG s 0 then .inr ((cG s 0).toNat,44) else tk s 0 0
theorem BM (s:ByteArray) (k j:Nat) (h1:k≤j) (h2:j<jI s k):¬az s j=10:=by
 rw[jI] at h2
 split at h2
 ·rename_i h
  by_cases e:j=k
  ·subst e;exact h.2
  ·exact BM s (k+1) j (by omega) h2
 ·omega
termination_by s.size-k
decreasing_by omega
theorem DJ (s:ByteArray) (k:Nat) (h:jI s k<s.size):az s (jI s k)=10:=by
 rw[jI] at h ⊢
 split at h
 ·rename_i h1
  rw[dif_pos h1]
  exact DJ s (k+1) h
 ·rename_i h1
  rw[dif_neg h1]
  exact Classical.byContradiction fun e=>h1 ⟨h,e⟩
termination_by s.size-k
decreasing_by omega
theorem sn (s:ByteArray) (k j:Nat) (h1:k≤j) (h2:j<dW s k):¬(az s j=42∧az s (j+1)=47):=by
 rw[dW] at h2
 split at h2
 ·rename_i h
  by_cases e:j=k
  ·subst e;exact h.2
  ·exact sn s (k+1) j (by omega) h2
 ·omega
termination_by s.size-k
decreasing_by omega
theorem xZ (s:ByteArray) (k:Nat) (h:dW s k+2≤s.size):az s (dW s k)=42∧az s (dW s k+1)=47:=by
 rw[dW] at h ⊢
 split at h
 ·rename_i h1
  rw[dif_pos h1]
  exact xZ s (k+1) h
 ·rename_i h1
  rw[dif_neg h1]
  exact Classical.byContradiction fun e=>h1 ⟨h,e⟩
termination_by s.size-k
decreasing_by omega
theorem lj {s:ByteArray}{k j:Nat} (h:k+j<s.size):az (s.extract k s.size) j=az s (k+j):=by
 have hz:j<(s.extract k s.size).size:=by rw[ByteArray.size_extract];omega
 have e1:=oN _ j hz
 rw[bD,List.getElem?_take,if_pos (by omega),List.getElem?_drop,oN s (k+j) h] at e1
 exact (zC e1).symm
theorem U8 {s:ByteArray}{k:Nat} (hk:k≤s.size):firstIdx (s.extract k s.size) 10=if jI s k<s.size then ((jI s k-k:Nat):Int) else -1:=by
 have hz:(s.extract k s.size).size=s.size-k:=by rw[ByteArray.size_extract];omega
 have hb:∀i,i<s.size-k→(((s.extract k s.size)[i]! == (10:UInt8))=true↔az s (k+i)=10):=fun i hi=>by
  have AX:i<(s.extract k s.size).size:=by omega
  rw[getElem!_pos _ i AX,←lj (by omega),az,dif_pos AX]
  constructor
  ·intro h;rw[eq_of_beq h];rfl
  ·intro h;exact beq_iff_eq.2 (UInt8.toNat_inj.1 h)
 have RP:=xl s k
 unfold firstIdx
 rw[hz]
 by_cases h:jI s k<s.size
 ·rw[if_pos h]
  have hf:(List.range (s.size-k)).find? (fun i=>(s.extract k s.size)[i]! == (10:UInt8))=some (jI s k-k):=by
   refine List.find?_range_eq_some.2 ⟨(hb _ (by omega)).2 ?_,List.mem_range.2 (by omega),fun j hj=>?_⟩
   ·rw[show k+(jI s k-k)=jI s k by omega]
    exact DJ s k h
   ·have:=BM s k (k+j) (by omega) (by omega)
    rw[Bool.not_eq_true',←Bool.not_eq_true]
    exact fun q=>this ((hb j (by omega)).1 q)
  rw[hf]
 ·rw[if_neg h]
  have hf:(List.range (s.size-k)).find? (fun i=>(s.extract k s.size)[i]! == (10:UInt8))=none:=by
   refine List.find?_range_eq_none.2 fun j hj=>?_
   have:=BM s k (k+j) (by omega) (by omega)
   rw[Bool.not_eq_true',←Bool.not_eq_true]
   exact fun q=>this ((hb j hj).1 q)
  rw[hf]
theorem yv {s:ByteArray}{k j:Nat} (hk:k≤s.size):Lib.occAt (s.extract k s.size).data.toList [42,47] j=true↔k+j+2≤s.size∧az s (k+j)=42∧az s (k+j+1)=47:=by
 have hl:(s.extract k s.size).data.toList.length=s.size-k:=by
  show (s.extract k s.size).size=_
  rw[ByteArray.size_extract];omega
 by_cases hr:k+j+2≤s.size
 ·have e:((s.extract k s.size).data.toList.drop j).take 2=(s.extract (k+j) (k+j+2)).data.toList:=by
   rw[Lib.extract_data,Lib.extract_data,List.drop_take,List.take_take,List.drop_drop,Nat.min_eq_left (by omega)]
   congr 1
   omega
  rw[Lib.occAt_iff_take _ _ _ (by rw[hl];show j+2≤_;omega)]
  show ((((s.extract k s.size).data.toList.drop j).take 2)==[42,47])=true↔_
  rw[e,beq_iff_eq,L0 hr]
  exact ⟨fun q=>⟨hr,q⟩,fun q=>q.2⟩
 ·refine ⟨fun q=>?_,fun q=>absurd q.1 hr⟩
  rcases Lib.occAt_room q with h|h
  ·rw[hl] at h
   exact absurd (show k+j+2≤s.size by have:([42,47]:List UInt8).length=2:=rfl;omega) hr
  ·cases h
theorem NL {s:ByteArray}{k:Nat} (hk:k≤s.size):Lib.index (s.extract k s.size).data.toList [42,47]=if dW s k+2≤s.size then ((dW s k-k:Nat):Int) else -1:=by
 have hl:(s.extract k s.size).data.toList.length=s.size-k:=by
  show (s.extract k s.size).size=_
  rw[ByteArray.size_extract];omega
 have RP:=jn s k
 by_cases h:dW s k+2≤s.size
 ·rw[if_pos h]
  refine Lib.index_first (by rw[hl];omega) ((yv hk).2 ?_) (fun j hj=>?_)
  ·rw[show k+(dW s k-k)=dW s k by omega]
   exact ⟨h,xZ s k h⟩
  ·rw[←Bool.not_eq_true]
   exact fun q=>sn s k (k+j) (by omega) (by omega) ((yv hk).1 q).2
 ·rw[if_neg h]
  refine Lib.index_none fun j _=>?_
  rw[←Bool.not_eq_true]
  intro q
  have q2:=(yv hk).1 q
  by_cases hj:k+j<dW s k
  ·exact sn s k (k+j) (by omega) hj q2.2
  ·omega
theorem Iu {s:ByteArray}{k:Nat} (hk:k≤s.size) (a b:UInt8):CC (s.extract k s.size) ⟨#[a,b]⟩↔k+2≤s.size∧az s k=a.toNat∧az s (k+1)=b.toNat:=by
 unfold CC
 show (aG (s.extract k s.size)).take 2=[a.toNat,b.toNat]↔_
 rw[bD]
 by_cases hr:k+2≤s.size
 ·have e:(((aG s).drop k).take (s.size-k)).take 2=[az s k,az s (k+1)]:=by
   rw[List.take_take,Nat.min_eq_left (by omega)]
   apply List.ext_getElem?
   intro i
   rw[List.getElem?_take]
   match i with
   |0=>rw[if_pos (by omega),List.getElem?_drop,Nat.add_zero,oN s k (by omega)];rfl
   |1=>rw[if_pos (by omega),List.getElem?_drop,oN s (k+1) (by omega)];rfl
   |i+2=>rw[if_neg (by omega)];rfl
  rw[e]
  simp[hr]
 ·refine ⟨fun q=>?_,fun q=>absurd q.1 hr⟩
  have:=congrArg List.length q
  rw[List.length_take,List.length_take,List.length_drop,bI] at this
  simp at this
  omega
end Go.Proofs.YtjophoclfccmcaaGreatDoor
namespace Go.Proofs.YtjophoclfccmcaaGreatDoor
open Go.RowKit
attribute [local go_sem ↓] Go.wp_at_zero Go.wp_at_succ
def eH (ts:List Tok):List Value:=ts.flatMap fun t=>[.int .i64 (t.kind:Int),.int .i64 (t.place:Int),.string t.text]
theorem mO (a b:List Tok):eH (a++b)=eH a++eH b:=by simp[eH]
structure fN (W:World) (B b:Nat) (s:ByteArray) (k n:Nat) (v:Value) (xs:List Value):Prop where
 sc:cY W b s k v
 lo:b<B
 hi:B≤W.heap.size
 row:W.ownsRow B 38 3 v n xs
 more:k<s.size
 size:s.size≤65536
 room:n≤16383
theorem fN.up {W w:World}{B b:Nat}{s:ByteArray}{k n:Nat}{v:Value}{xs:List Value} (h:fN W B b s k n v xs) (hb:Below W.heap.size W w):fN w B b s k n v xs:=⟨h.sc.up hb,h.lo,Nat.le_trans h.hi hb.size,S' h.row hb,h.more,h.size,h.room⟩
theorem fN.shape {W:World}{B b:Nat}{s:ByteArray}{k n:Nat}{v:Value}{xs:List Value} (h:fN W B b s k n v xs):∃a c,v=.slice a n c:=by
 obtain ⟨_,⟨e,h0⟩|⟨g,c,_,e,_⟩⟩:=h.row
 ·exact ⟨none,0,by rw[e,h0]⟩
 ·exact ⟨_,_,e⟩
def iD (B b:Nat) (s:ByteArray) (k n:Nat) (xs:List Value) (W:World) (e:Ending) (w:World):Prop :=
 BX B b W w∧((e=.returned (.int .i64 0)∧∃(k':Nat) (ts:List Tok) (v':Value),cY w b s k' v'∧w.ownsRow B 38 3 v' (n+ts.length) (xs++eH ts)∧k<k'∧k'≤s.size∧n+ts.length≤16383∧tk s k n=ju ts (tk s k' (n+ts.length)))
  ∨ (∃(c:Nat) (v':Value),c≠0∧e=.returned (.int .i64 (c:Int))∧cY w b s k v'∧tk s k n=.inr (k,c)))
theorem iD.ret {B b:Nat}{s:ByteArray}{k n:Nat}{xs:List Value}{W w:World}{e:Ending} (h:iD B b s k n xs W e w):∃c:Int,e=.returned (.int .i64 c):=by
 obtain ⟨_,⟨rfl,_⟩|⟨c,_,_,rfl,_⟩⟩:=h
 ·exact ⟨0,rfl⟩
 ·exact ⟨(c:Int),rfl⟩
theorem iD.from {B b:Nat}{s:ByteArray}{k n:Nat}{xs:List Value}{W W1 w:World}{e:Ending} (h:iD B b s k n xs W1 e w) (hb:Below W.heap.size W W1) (hB:B≤W.heap.size):iD B b s k n xs W e w:=⟨(BX.of hb hB).trans h.1,h.2⟩
theorem JN {W:World}{B b:Nat}{s:ByteArray}{k n c:Nat}{v:Value}{xs:List Value} (I:fN W B b s k n v xs) (hp:bw s s.size k=(k,true)) (ho:(cI s k).2.2=c) (hc:c≠0) (kind m:Int) :
  Calls Tryz.prog 79 #[.pointer (some ⟨b,0,none⟩),.int .i64 kind,.int .i64 m,.int .i64 (c:Int)] W (iD B b s k n xs W):=by
 obtain ⟨va,vc,rfl⟩:=I.shape
 by_cases hn:n=16383
 ·subst hn
  refine (AI I.sc).mono ?_
  rintro e w ⟨rfl,rfl⟩
  exact ⟨BX.refl _ _ _,.inr ⟨45,_,by decide,rfl,I.sc,Ia I.more hp⟩⟩
 ·have Lz:n<16383:=by have:=I.room;omega
  refine (Me I.sc Lz (by omega)).mono ?_
  rintro e w ⟨rfl,rfl⟩
  exact ⟨BX.refl _ _ _,.inr ⟨c,_,hc,rfl,I.sc,Uq I.more hp Lz ho hc⟩⟩
theorem Md {W:World}{B b:Nat}{s:ByteArray}{k n m t:Nat}{v:Value}{xs:List Value} (I:fN W B b s k n v xs) (hp:bw s s.size k=(k,true)) (ho:cI s k=(t,k+m,0)) :
  Calls Tryz.prog 79 #[.pointer (some ⟨b,0,none⟩),.int .i64 (t:Int),.int .i64 (m:Int),.int .i64 0] W (iD B b s k n xs W):=by
 obtain ⟨va,vc,rfl⟩:=I.shape
 have hle:=qX I.more (by rw[ho])
 rw[ho] at hle
 replace hle:k<k+m∧k+m≤s.size:=hle
 by_cases hn:n=16383
 ·subst hn
  refine (AI I.sc).mono ?_
  rintro e w ⟨rfl,rfl⟩
  exact ⟨BX.refl _ _ _,.inr ⟨45,_,by decide,rfl,I.sc,Ia I.more hp⟩⟩
 ·have Lz:n<16383:=by have:=I.room;omega
  refine (Mf I.sc I.lo I.hi I.row hle.2 I.size Lz).mono ?_
  rintro e w ⟨rfl,v',g1,g2,g3⟩
  refine ⟨g3,.inl ⟨rfl,k+m,[⟨t,k,s.extract k (k+m)⟩],v',g1,g2,hle.1,hle.2,by simp;omega,?_⟩⟩
  rw[Uo I.more hp Lz ho]
  cases tk s (k+m) (n+1)<;>rfl
end Go.Proofs.YtjophoclfccmcaaGreatDoor

import Derived.Test.YtghioefalckgoaaGreatDoorM15
import Derived.Lib.Index
set_option maxHeartbeats 40000000
set_option maxRecDepth 100000
namespace Go.Proofs.YtghioefalckgoaaGreatDoor
open Go.RowKit
attribute [local go_sem ↓] Go.wp_at_zero Go.wp_at_succ
theorem xn {W:World}{b:Nat}{s:ByteArray}{k vc:Nat}{va:Option Addr}{kind n e:Int} (h:bT W b s k (.slice va 16383 vc)) :
  Calls Tryz.prog 163 #[.pointer (some ⟨b,0,none⟩),.int .i64 kind,.int .i64 n,.int .i64 e] W fun o w=>o=.returned (.int .i64 45)∧w=W:=by
 have c2:=h.c2
 clear h
 go_enter Tryz.func163,Tryz.ntmps163
 go_wp2
 go_ret
 exact ⟨rfl,rfl⟩
theorem Ip {W:World}{b:Nat}{s:ByteArray}{k m vc:Nat}{va:Option Addr}{kind n e:Int} (h:bT W b s k (.slice va m vc)) (hm:m<16383) (he:e≠0) :
  Calls Tryz.prog 163 #[.pointer (some ⟨b,0,none⟩),.int .i64 kind,.int .i64 n,.int .i64 e] W fun o w=>o=.returned (.int .i64 e)∧w=W:=by
 have c2:=h.c2
 have q1:((m:Int)==16383)=false:=beq_eq_false_iff_ne.2 (by omega)
 have q2:(e != 0)=true:=by simpa using he
 clear h
 go_enter Tryz.func163,Tryz.ntmps163
 go_wp2
 go_ret
 exact ⟨rfl,rfl⟩
theorem bT.at {W:World}{b:Nat}{s:ByteArray}{k:Nat}{v:Value} (h:bT W b s k v) (j:Nat):bT (W.setCell ⟨b,1,none⟩ (.int .i64 (j:Int))) b s j v:=heap_setCell_same _ b 1 _ _ _ h
theorem Cc {W:World}{b:Nat}{s:ByteArray}{k:Nat}{v:Value} (h:bT W b s k v) (hk:k<s.size) (hs:s.size≤65536) :
  Calls Tryz.prog 164 #[.pointer (some ⟨b,0,none⟩)] W fun e w=>e=.returned (.int .i64 0)∧w=W.setCell ⟨b,1,none⟩ (.int .i64 ((k+1:Nat):Int)):=by
 have c1:=h.c1
 have f1:=gP 1 h
 clear h
 go_enter Tryz.func164,Tryz.ntmps164
 go_wp2
 go_ret
 exact ⟨rfl,rfl⟩
theorem aX (s:ByteArray) (a b:Nat):aO (s.extract a b)=((aO s).drop a).take (b-a):=by
 unfold aO
 rw[Lib.extract_data]
 simp[List.map_take,List.map_drop]
theorem Iv {s t:ByteArray} (h:aO s=aO t):s=t:=by
 have h1:s.data.toList=t.data.toList:=by
  unfold aO at h
  exact (List.map_inj_right (fun a b e=>UInt8.toNat_inj.1 e)).1 h
 cases s with|mk d=>cases t with|mk e=>cases d;cases e;simp_all
theorem AT (s t:ByteArray):(s.toList==t.toList)=true↔aO s=aO t:=by
 rw[ByteArray.toList_eq,ByteArray.toList_eq]
 constructor
 ·intro h
  unfold aO
  rw[eq_of_beq h]
 ·intro h
  rw[Iv h]
  simp
def zu (s p:ByteArray):Prop:=(aO s).take p.size=aO p
open Classical in
noncomputable def preB (s p:ByteArray):Bool:=decide (zu s p)
theorem E3 {s p:ByteArray} (h:zu s p):preB s p=true:=by unfold preB;simp[h]
theorem Cr {s p:ByteArray} (h:¬zu s p):preB s p=false:=by unfold preB;simp[h]
theorem vB (W:World) (s p:ByteArray):Calls Tryz.prog 220 #[.string s,.string p] W fun e w=>e=.returned (.bool (preB s p))∧w=W:=by
 by_cases hl:p.size≤s.size
 ·have e1:decide ((p.size:Int)≤(s.size:Int))=true:=by simp;omega
  have hx:=aX s 0 p.size
  have Vt:=AT (s.extract 0 p.size) p
  have Hx:=ak hx
  have WU:=ak Vt
  clear hx Vt
  go_enter Tryz.func220,Tryz.ntmps220
  go_wp2
  go_ret
  refine ⟨?_,rfl⟩
  have:((s.extract 0 p.size).toList==p.toList)=preB s p:=by
   by_cases Nd:zu s p
   ·rw[E3 Nd]
    refine (ab WU).2 ?_
    rw[ab Hx]
    simpa[zu] using Nd
   ·rw[Cr Nd,←Bool.not_eq_true]
    intro h
    have:=(ab WU).1 h
    rw[ab Hx] at this
    exact Nd (by simpa[zu] using this)
  rw[←this]
  rfl
 ·have e1:decide ((p.size:Int)≤(s.size:Int))=false:=by simp;omega
  have hn:¬zu s p:=fun h=>by
   have:=congrArg List.length h
   rw[List.length_take,bg,bg] at this
   omega
  rw[Cr hn]
  go_enter Tryz.func220,Tryz.ntmps220
  go_wp2
  go_ret
  exact ⟨rfl,rfl⟩
theorem fb (W:World) (s p:ByteArray):Calls Tryz.prog 152 #[.string s,.string p] W fun e w=>e=.returned (.bool (preB s p))∧w=W:=by
 go_enter Tryz.func152,Tryz.ntmps152
 go_wp2_with fail
 refine (vB W s p).mono ?_
 rintro e w' ⟨rfl,he⟩
 obtain rfl:W=w':=he.symm
 go_wp2
 go_ret
 exact ⟨rfl,rfl⟩
theorem xS (s:ByteArray):∀(n k:Nat),(∀j,j<n→k+j<s.size∧(isLet (aF s (k+j))∨dq (aF s (k+j))))→(k+n<s.size→¬(isLet (aF s (k+n))∨dq (aF s (k+n))))→eM s k=k+n
 |0,k,_,h2=>by
  rw[eM,dif_neg (fun q=>h2 q.1 q.2)]
  rfl
 |n+1,k,h1,h2=>by
  have h0:=h1 0 (by omega)
  rw[Nat.add_zero] at h0
  rw[eM,dif_pos h0,xS s n (k+1) (fun j hj=>?_) (fun h=>?_)]
  ·omega
  ·have:=h1 (j+1) (by omega)
   rwa [show k+(j+1)=k+1+j by omega] at this
  ·rw[show k+1+n=k+(n+1) by omega] at h ⊢
   exact h2 h
theorem om (s:ByteArray) (k:Nat) (h:k<s.size):(aO s)[k]?=some (aF s k):=by
 unfold aO aF
 rw[dif_pos h,List.getElem?_map,Array.getElem?_toList,Array.getElem?_eq_getElem (by show k<s.size;exact h)]
 rfl
theorem vH {s:ByteArray}{k n:Nat} (hk:k≤s.size) (hn:n≤(s.extract k s.size).size) (h1:∀j x,j<n→(aO (s.extract k s.size))[j]?=some x→isLet x∨dq x) (h2:∀x,(aO (s.extract k s.size))[n]?=some x→¬(isLet x∨dq x)):eM s k=k+n∧k+n≤s.size:=by
 have iL:(s.extract k s.size).size=s.size-k:=by rw[ByteArray.size_extract];omega
 have he:∀j,k+j<s.size→(aO (s.extract k s.size))[j]?=some (aF s (k+j)):=fun j hj=>by
  rw[aX,List.getElem?_take,if_pos (by omega),List.getElem?_drop]
  exact om s (k+j) hj
 refine ⟨xS s n k (fun j hj=>⟨by omega,h1 j _ hj (he j (by omega))⟩) (fun h=>h2 _ (he n h)),by omega⟩
end Go.Proofs.YtghioefalckgoaaGreatDoor
namespace Go.Proofs.YtghioefalckgoaaGreatDoor
open Go.RowKit
def wv (l:List Nat):Option Nat :=
 if l.take 2=[48,120]∨l.take 2=[48,88] then (if l.length=2 then none else cA 16 9223372036854775807 (l.drop 2) 0)
 else if l.take 1=[48] then cA 8 9223372036854775807 l 0 else if l=[] then none else cA 10 9223372036854775807 l 0
theorem tp {B M:Nat}:∀(l:List Nat) (n u:Nat),n≤M→cA B M l n=some u→u≤M
 |[],n,u,hn,h=>by
  have:n=u:=by simpa[cA] using h
  omega
 |c::r,n,u,hn,h=>by
  simp only[cA] at h
  split at h
  ·cases h
  ·split at h
   ·rename_i hc
    exact tp r _ u hc.2 h
   ·cases h
theorem Dq {l:List Nat}{u:Nat} (h:wv l=some u):u≤9223372036854775807:=by
 unfold wv at h
 split at h
 ·split at h
  ·cases h
  ·exact tp _ 0 u (by decide) h
 ·split at h
  ·exact tp _ 0 u (by decide) h
  ·split at h
   ·cases h
   ·exact tp _ 0 u (by decide) h
def fG (s:ByteArray) (k:Nat):Nat×Nat×Nat :=
 if isLet (aF s k) then (1,eM s k,0)
 else if dq (aF s k) then (if wv (aO (s.extract k (eM s k)))=none then (0,0,41) else (2,eM s k,0))
 else if aF s k=39∨aF s k=34 then (match gy s (aF s k) (k+1) with|none=>(0,0,42)|some (_,e)=>(3,e,0))
 else if l7 (aF s k) then (4,k+1,0) else (0,0,40)
structure Tok where
 kind:Nat
 place:Nat
 text:ByteArray
def Kz (t:Tok):List Tok ⊕ (Nat×Nat)→List Tok ⊕ (Nat×Nat)
 |.inl l=>.inl (t::l)
 |.inr e=>.inr e
def me (p:List Tok):List Tok ⊕ (Nat×Nat)→List Tok ⊕ (Nat×Nat)
 |.inl l=>.inl (p++l)
 |.inr e=>.inr e
theorem nP (x:List Tok ⊕ (Nat×Nat)):me [] x=x:=by cases x<;>rfl
def og (s:ByteArray):Nat→Nat→Nat→(List Tok ⊕ (Nat×Nat))
 |0,_,_=>.inr (0,0)
 |f+1,k,n=>if (bo s s.size k).2=false then .inr ((bo s s.size k).1,43)
  else if (bo s s.size k).1=s.size then .inl [⟨5,(bo s s.size k).1,⟨#[]⟩⟩]
  else if n=16383 then .inr ((bo s s.size k).1,45)
  else if (fG s (bo s s.size k).1).2.2=0 then
   Kz ⟨(fG s (bo s s.size k).1).1,(bo s s.size k).1,s.extract (bo s s.size k).1 (fG s (bo s s.size k).1).2.1⟩ (og s f (fG s (bo s s.size k).1).2.1 (n+1))
  else .inr ((bo s s.size k).1,(fG s (bo s s.size k).1).2.2)
theorem IV (s:ByteArray):∀(f k:Nat),k≤s.size→k≤(bo s f k).1∧(bo s f k).1≤s.size:=by
 intro f
 induction f with
 |zero=>intro k hk;exact ⟨zD _,hk⟩
 |succ f ih =>
  intro k hk
  rw[bo]
  split
  ·split
   ·have:=ih (k+1) (by omega);omega
   ·split
    ·rename_i h h1 h2
     have a:=tq s k
     have b:=yC s k hk
     have:=ih _ b;omega
    ·split
     ·split
      ·rename_i h5
       have a:=jk s (k+2)
       have:=ih _ h5;omega
      ·exact ⟨zD _,hk⟩
     ·exact ⟨zD _,hk⟩
  ·exact ⟨zD _,hk⟩
theorem xT {s:ByteArray}{k:Nat} (hk:k<s.size) (h:isLet (aF s k)∨dq (aF s k)):k<eM s k:=by
 rw[eM,dif_pos ⟨hk,h⟩]
 have:=xU s (k+1)
 omega
theorem yx {s:ByteArray}{k:Nat} (hk:k<s.size) (h:(fG s k).2.2=0):k<(fG s k).2.1∧(fG s k).2.1≤s.size:=by
 unfold fG at h ⊢
 by_cases h1:isLet (aF s k)
 ·rw[if_pos h1]
  exact ⟨xT hk (.inl h1),qa s k (by omega)⟩
 ·rw[if_neg h1] at h ⊢
  by_cases h2:dq (aF s k)
  ·rw[if_pos h2] at h ⊢
   split at h
   ·cases h
   ·rename_i h3
    rw[if_neg h3]
    exact ⟨xT hk (.inr h2),qa s k (by omega)⟩
  ·rw[if_neg h2] at h ⊢
   by_cases h3:aF s k=39∨aF s k=34
   ·rw[if_pos h3] at h ⊢
    split at h
    ·cases h
    ·rename_i l e he
     have:=OF _ (k+1) l e (zD _) he
     show k<e∧e≤s.size
     omega
   ·rw[if_neg h3] at h ⊢
    split at h
    ·rename_i h4
     rw[if_pos h4]
     show k<k+1∧k+1≤s.size
     omega
    ·cases h
theorem EM (s:ByteArray):∀(f f' k n:Nat),k≤s.size→s.size-k<f→s.size-k<f'→og s f k n=og s f' k n:=by
 intro f
 induction f with
 |zero=>intro f' k n _ hf;omega
 |succ f ih =>
  intro f' k n hk hf Pd
  cases f' with
  |zero=>omega
  |succ f' =>
   rw[og,og]
   have hp:=IV s s.size k hk
   split
   ·rfl
   ·split
    ·rfl
    ·split
     ·rfl
     ·split
      ·rename_i h1 h2 h3 h4
       have:=yx (by omega) h4
       rw[ih f' _ (n+1) this.2 (by omega) (by omega)]
      ·rfl
def tk (s:ByteArray) (k n:Nat):List Tok ⊕ (Nat×Nat):=og s (s.size+1) k n
theorem Dx {s:ByteArray}{k k':Nat} (n:Nat) (h:bo s s.size k=bo s s.size k'):tk s k n=tk s k' n:=by
 unfold tk
 rw[og,og,h]
theorem IU (s:ByteArray):bo s s.size s.size=(s.size,true):=by
 cases hz:s.size with
 |zero=>rfl
 |succ n=>rw[bo,if_neg (by omega)]
theorem P8 (s:ByteArray) (n:Nat):tk s s.size n=.inl [⟨5,s.size,⟨#[]⟩⟩]:=by
 unfold tk
 rw[og,IU,if_neg (by simp),if_pos rfl]
theorem Ij {s:ByteArray}{k n:Nat} (h:bo s s.size k=(k,false)):tk s k n=.inr (k,43):=by
 unfold tk
 rw[og,h,if_pos rfl]
theorem Dy {s:ByteArray}{k:Nat} (hk:k<s.size) (h:bo s s.size k=(k,true)):tk s k 16383=.inr (k,45):=by
 unfold tk
 rw[og,h,if_neg (by simp),if_neg (by show ¬k=s.size;omega),if_pos rfl]
theorem P7 {s:ByteArray}{k n c:Nat} (hk:k<s.size) (h:bo s s.size k=(k,true)) (hn:n<16383) (h1:(fG s k).2.2=c) (hc:c≠0):tk s k n=.inr (k,c):=by
 unfold tk
 rw[og,h,if_neg (by simp),if_neg (by show ¬k=s.size;omega),if_neg (by omega)]
 show (if (fG s k).2.2=0 then _ else Sum.inr (k,(fG s k).2.2))=_
 rw[h1,if_neg hc]
theorem P0 {s:ByteArray}{k n t e:Nat} (hk:k<s.size) (h:bo s s.size k=(k,true)) (hn:n<16383) (h1:fG s k=(t,e,0)):tk s k n=Kz ⟨t,k,s.extract k e⟩ (tk s e (n+1)):=by
 have hle:=yx hk (by rw[h1])
 rw[h1] at hle
 unfold tk
 rw[og,h,if_neg (by simp),if_neg (by show ¬k=s.size;omega),if_neg (by omega)]
 show (if (fG s k).2.2=0 then Kz ⟨(fG s k).1,k,s.extract k (fG s k).2.1⟩ (og s s.size (fG s k).2.1 (n+1)) else _)=_
 rw[h1,if_pos rfl]
 rw[EM s s.size (s.size+1) e (n+1) hle.2 (by have:=hle.1;simp at this;omega) (by omega)]
theorem kL {s:ByteArray}{k:Nat} (hk:k<s.size):bo s s.size k=bo s (s.size-k-1+1) k:=lk s _ _ k (by omega) (by omega)
theorem Ct {s:ByteArray}{k:Nat} (hk:k<s.size) (h:nj (aF s k)):bo s s.size k=bo s s.size (k+1):=by
 rw[kL hk,bo,if_pos hk,if_pos h]
 exact lk s _ _ _ (by omega) (by omega)
theorem E7 {s:ByteArray}{k:Nat} (h:k+2≤s.size) (h1:aF s k=47) (h2:aF s (k+1)=47):bo s s.size k=bo s s.size (kq s k):=by
 have hk:k<s.size:=by omega
 have hnl:=yB hk h1
 rw[kL hk,bo,if_pos hk,if_neg (by rw[h1];decide),if_pos ⟨h,h1,h2⟩]
 exact lk s _ _ _ (by omega) (by omega)
theorem E6 {s:ByteArray}{k:Nat} (h:k+2≤s.size) (h1:aF s k=47) (h2:aF s (k+1)=42) (h3:dc s (k+2)+2≤s.size):bo s s.size k=bo s s.size (dc s (k+2)+2):=by
 have hk:k<s.size:=by omega
 have:=jk s (k+2)
 rw[kL hk,bo,if_pos hk,if_neg (by rw[h1];decide),if_neg (by omega),if_pos ⟨h,h1,h2⟩,if_pos h3]
 exact lk s _ _ _ (by omega) (by omega)
theorem Cs {s:ByteArray}{k:Nat} (h:k+2≤s.size) (h1:aF s k=47) (h2:aF s (k+1)=42) (h3:¬dc s (k+2)+2≤s.size):bo s s.size k=(k,false):=by
 have hk:k<s.size:=by omega
 rw[kL hk,bo,if_pos hk,if_neg (by rw[h1];decide),if_neg (by omega),if_pos ⟨h,h1,h2⟩,if_neg h3]
theorem xA {s:ByteArray}{k:Nat} (hk:k<s.size) (h:¬nj (aF s k)) (h1:¬(k+2≤s.size∧aF s k=47∧aF s (k+1)=47)) (h2:¬(k+2≤s.size∧aF s k=47∧aF s (k+1)=42)):bo s s.size k=(k,true):=by
 rw[kL hk,bo,if_pos hk,if_neg h,if_neg h1,if_neg h2]
theorem jx {s:ByteArray}{k:Nat} (hk:k<s.size) (h:¬nj (aF s k)) (h1:¬aF s k=47):bo s s.size k=(k,true):=xA hk h (fun q=>h1 q.2.1) (fun q=>h1 q.2.1)
noncomputable def ny (s:ByteArray):List Tok ⊕ (Nat×Nat):=if 65536<s.size then .inr (0,2) else if 0≤dH s 0 then .inr ((dH s 0).toNat,44) else tk s 0 0
theorem yA (s:ByteArray) (k j:Nat) (h1:k≤j) (h2:j<kq s k):¬aF s j=10:=by
 rw[kq] at h2
 split at h2
 ·rename_i h
  by_cases e:j=k
  ·subst e;exact h.2
  ·exact yA s (k+1) j (by omega) h2
 ·omega
termination_by s.size-k
decreasing_by omega
theorem AQ (s:ByteArray) (k:Nat) (h:kq s k<s.size):aF s (kq s k)=10:=by
 rw[kq] at h ⊢
 split at h
 ·rename_i h1
  rw[dif_pos h1]
  exact AQ s (k+1) h
 ·rename_i h1
  rw[dif_neg h1]
  exact Classical.byContradiction fun e=>h1 ⟨h,e⟩
termination_by s.size-k
decreasing_by omega
theorem pI (s:ByteArray) (k j:Nat) (h1:k≤j) (h2:j<dc s k):¬(aF s j=42∧aF s (j+1)=47):=by
 rw[dc] at h2
 split at h2
 ·rename_i h
  by_cases e:j=k
  ·subst e;exact h.2
  ·exact pI s (k+1) j (by omega) h2
 ·omega
termination_by s.size-k
decreasing_by omega
theorem uG (s:ByteArray) (k:Nat) (h:dc s k+2≤s.size):aF s (dc s k)=42∧aF s (dc s k+1)=47:=by
 rw[dc] at h ⊢
 split at h
 ·rename_i h1
  rw[dif_pos h1]
  exact uG s (k+1) h
 ·rename_i h1
  rw[dif_neg h1]
  exact Classical.byContradiction fun e=>h1 ⟨h,e⟩
termination_by s.size-k
decreasing_by omega
theorem jI {s:ByteArray}{k j:Nat} (h:k+j<s.size):aF (s.extract k s.size) j=aF s (k+j):=by
 have hz:j<(s.extract k s.size).size:=by rw[ByteArray.size_extract];omega
 have e1:=om _ j hz
 rw[aX,List.getElem?_take,if_pos (by omega),List.getElem?_drop,om s (k+j) h] at e1
 exact (zC e1).symm
theorem QG {s:ByteArray}{k:Nat} (hk:k≤s.size):firstIdx (s.extract k s.size) 10=if kq s k<s.size then ((kq s k-k:Nat):Int) else -1:=by
 have hz:(s.extract k s.size).size=s.size-k:=by rw[ByteArray.size_extract];omega
 have hb:∀i,i<s.size-k→(((s.extract k s.size)[i]! == (10:UInt8))=true↔aF s (k+i)=10):=fun i hi=>by
  have fY:i<(s.extract k s.size).size:=by omega
  rw[getElem!_pos _ i fY,←jI (by omega),aF,dif_pos fY]
  constructor
  ·intro h;rw[eq_of_beq h];rfl
  ·intro h;exact beq_iff_eq.2 (UInt8.toNat_inj.1 h)
 have GN:=tq s k
 unfold firstIdx
 rw[hz]
 by_cases h:kq s k<s.size
 ·rw[if_pos h]
  have hf:(List.range (s.size-k)).find? (fun i=>(s.extract k s.size)[i]! == (10:UInt8))=some (kq s k-k):=by
   refine List.find?_range_eq_some.2 ⟨(hb _ (by omega)).2 ?_,List.mem_range.2 (by omega),fun j hj=>?_⟩
   ·rw[show k+(kq s k-k)=kq s k by omega]
    exact AQ s k h
   ·have:=yA s k (k+j) (by omega) (by omega)
    rw[Bool.not_eq_true',←Bool.not_eq_true]
    exact fun q=>this ((hb j (by omega)).1 q)
  rw[hf]
 ·rw[if_neg h]
  have hf:(List.range (s.size-k)).find? (fun i=>(s.extract k s.size)[i]! == (10:UInt8))=none:=by
   refine List.find?_range_eq_none.2 fun j hj=>?_
   have:=yA s k (k+j) (by omega) (by omega)
   rw[Bool.not_eq_true',←Bool.not_eq_true]
   exact fun q=>this ((hb j hj).1 q)
  rw[hf]
theorem uR {s:ByteArray}{k j:Nat} (hk:k≤s.size):Lib.occAt (s.extract k s.size).data.toList [42,47] j=true↔k+j+2≤s.size∧aF s (k+j)=42∧aF s (k+j+1)=47:=by
 have hl:(s.extract k s.size).data.toList.length=s.size-k:=by
  show (s.extract k s.size).size=_
  rw[ByteArray.size_extract];omega
 by_cases hr:k+j+2≤s.size
 ·have e:((s.extract k s.size).data.toList.drop j).take 2=(s.extract (k+j) (k+j+2)).data.toList:=by
   rw[Lib.extract_data,Lib.extract_data,List.drop_take,List.take_take,List.drop_drop,Nat.min_eq_left (by omega)]
   congr 1
   omega
  rw[Lib.occAt_iff_take _ _ _ (by rw[hl];show j+2≤_;omega)]
  show ((((s.extract k s.size).data.toList.drop j).take 2)==[42,47])=true↔_
  rw[e,beq_iff_eq,PZ hr]
  exact ⟨fun q=>⟨hr,q⟩,fun q=>q.2⟩
 ·refine ⟨fun q=>?_,fun q=>absurd q.1 hr⟩
  rcases Lib.occAt_room q with h|h
  ·rw[hl] at h
   exact absurd (show k+j+2≤s.size by have:([42,47]:List UInt8).length=2:=rfl;omega) hr
  ·cases h
theorem Jv {s:ByteArray}{k:Nat} (hk:k≤s.size):Lib.index (s.extract k s.size).data.toList [42,47]=if dc s k+2≤s.size then ((dc s k-k:Nat):Int) else -1:=by
 have hl:(s.extract k s.size).data.toList.length=s.size-k:=by
  show (s.extract k s.size).size=_
  rw[ByteArray.size_extract];omega
 have GN:=jk s k
 by_cases h:dc s k+2≤s.size
 ·rw[if_pos h]
  refine Lib.index_first (by rw[hl];omega) ((uR hk).2 ?_) (fun j hj=>?_)
  ·rw[show k+(dc s k-k)=dc s k by omega]
   exact ⟨h,uG s k h⟩
  ·rw[←Bool.not_eq_true]
   exact fun q=>pI s k (k+j) (by omega) (by omega) ((uR hk).1 q).2
 ·rw[if_neg h]
  refine Lib.index_none fun j _=>?_
  rw[←Bool.not_eq_true]
  intro q
  have q2:=(uR hk).1 q
  by_cases hj:k+j<dc s k
  ·exact pI s k (k+j) (by omega) hj q2.2
  ·omega
theorem DQ {s:ByteArray}{k:Nat} (hk:k≤s.size) (a b:UInt8):zu (s.extract k s.size) ⟨#[a,b]⟩↔k+2≤s.size∧aF s k=a.toNat∧aF s (k+1)=b.toNat:=by
 unfold zu
 show (aO (s.extract k s.size)).take 2=[a.toNat,b.toNat]↔_
 rw[aX]
 by_cases hr:k+2≤s.size
 ·have e:(((aO s).drop k).take (s.size-k)).take 2=[aF s k,aF s (k+1)]:=by
   rw[List.take_take,Nat.min_eq_left (by omega)]
   apply List.ext_getElem?
   intro i
   rw[List.getElem?_take]
   match i with
   |0=>rw[if_pos (by omega),List.getElem?_drop,Nat.add_zero,om s k (by omega)];rfl
   |1=>rw[if_pos (by omega),List.getElem?_drop,om s (k+1) (by omega)];rfl
   |i+2=>rw[if_neg (by omega)];rfl
  rw[e]
  simp[hr]
 ·refine ⟨fun q=>?_,fun q=>absurd q.1 hr⟩
  have:=congrArg List.length q
  rw[List.length_take,List.length_take,List.length_drop,bg] at this
  simp at this
  omega
end Go.Proofs.YtghioefalckgoaaGreatDoor
namespace Go.Proofs.YtghioefalckgoaaGreatDoor
open Go.RowKit
attribute [local go_sem ↓] Go.wp_at_zero Go.wp_at_succ
def eD (ts:List Tok):List Value:=ts.flatMap fun t=>[.int .i64 (t.kind:Int),.int .i64 (t.place:Int),.string t.text]
theorem uB (a b:List Tok):eD (a++b)=eD a++eD b:=by simp[eD]
structure ej (W:World) (B b:Nat) (s:ByteArray) (k n:Nat) (v:Value) (xs:List Value):Prop where
 sc:bT W b s k v
 lo:b<B
 hi:B≤W.heap.size
 row:W.ownsRow B 154 3 v n xs
 more:k<s.size
 size:s.size≤65536
 room:n≤16383
theorem ej.up {W w:World}{B b:Nat}{s:ByteArray}{k n:Nat}{v:Value}{xs:List Value} (h:ej W B b s k n v xs) (hb:Below W.heap.size W w):ej w B b s k n v xs:=⟨h.sc.up hb,h.lo,Nat.le_trans h.hi hb.size,UE h.row hb,h.more,h.size,h.room⟩
theorem ej.shape {W:World}{B b:Nat}{s:ByteArray}{k n:Nat}{v:Value}{xs:List Value} (h:ej W B b s k n v xs):∃a c,v=.slice a n c:=by
 obtain ⟨_,⟨e,h0⟩|⟨g,c,_,e,_⟩⟩:=h.row
 ·exact ⟨none,0,by rw[e,h0]⟩
 ·exact ⟨_,_,e⟩
def fF (B b:Nat) (s:ByteArray) (k n:Nat) (xs:List Value) (W:World) (e:Ending) (w:World):Prop :=
 BX B b W w∧((e=.returned (.int .i64 0)∧∃(k':Nat) (ts:List Tok) (v':Value),bT w b s k' v'∧w.ownsRow B 154 3 v' (n+ts.length) (xs++eD ts)∧k<k'∧k'≤s.size∧n+ts.length≤16383∧tk s k n=me ts (tk s k' (n+ts.length)))
  ∨ (∃(c:Nat) (v':Value),c≠0∧e=.returned (.int .i64 (c:Int))∧bT w b s k v'∧tk s k n=.inr (k,c)))
theorem fF.ret {B b:Nat}{s:ByteArray}{k n:Nat}{xs:List Value}{W w:World}{e:Ending} (h:fF B b s k n xs W e w):∃c:Int,e=.returned (.int .i64 c):=by
 obtain ⟨_,⟨rfl,_⟩|⟨c,_,_,rfl,_⟩⟩:=h
 ·exact ⟨0,rfl⟩
 ·exact ⟨(c:Int),rfl⟩
theorem fF.from {B b:Nat}{s:ByteArray}{k n:Nat}{xs:List Value}{W W1 w:World}{e:Ending} (h:fF B b s k n xs W1 e w) (hb:Below W.heap.size W W1) (hB:B≤W.heap.size):fF B b s k n xs W e w:=⟨(BX.of hb hB).trans h.1,h.2⟩
theorem EP {W:World}{B b:Nat}{s:ByteArray}{k n c:Nat}{v:Value}{xs:List Value} (I:ej W B b s k n v xs) (hp:bo s s.size k=(k,true)) (ho:(fG s k).2.2=c) (hc:c≠0) (kind m:Int) :
  Calls Tryz.prog 163 #[.pointer (some ⟨b,0,none⟩),.int .i64 kind,.int .i64 m,.int .i64 (c:Int)] W (fF B b s k n xs W):=by
 obtain ⟨va,vc,rfl⟩:=I.shape
 by_cases hn:n=16383
 ·subst hn
  refine (xn I.sc).mono ?_
  rintro e w ⟨rfl,rfl⟩
  exact ⟨BX.refl _ _ _,.inr ⟨45,_,by decide,rfl,I.sc,Dy I.more hp⟩⟩
 ·have Fu:n<16383:=by have:=I.room;omega
  refine (Ip I.sc Fu (by omega)).mono ?_
  rintro e w ⟨rfl,rfl⟩
  exact ⟨BX.refl _ _ _,.inr ⟨c,_,hc,rfl,I.sc,P7 I.more hp Fu ho hc⟩⟩
theorem Io {W:World}{B b:Nat}{s:ByteArray}{k n m t:Nat}{v:Value}{xs:List Value} (I:ej W B b s k n v xs) (hp:bo s s.size k=(k,true)) (ho:fG s k=(t,k+m,0)) :
  Calls Tryz.prog 163 #[.pointer (some ⟨b,0,none⟩),.int .i64 (t:Int),.int .i64 (m:Int),.int .i64 0] W (fF B b s k n xs W):=by
 obtain ⟨va,vc,rfl⟩:=I.shape
 have hle:=yx I.more (by rw[ho])
 rw[ho] at hle
 replace hle:k<k+m∧k+m≤s.size:=hle
 by_cases hn:n=16383
 ·subst hn
  refine (xn I.sc).mono ?_
  rintro e w ⟨rfl,rfl⟩
  exact ⟨BX.refl _ _ _,.inr ⟨45,_,by decide,rfl,I.sc,Dy I.more hp⟩⟩
 ·have Fu:n<16383:=by have:=I.room;omega
  refine (Iq I.sc I.lo I.hi I.row hle.2 I.size Fu).mono ?_
  rintro e w ⟨rfl,v',g1,g2,g3⟩
  refine ⟨g3,.inl ⟨rfl,k+m,[⟨t,k,s.extract k (k+m)⟩],v',g1,g2,hle.1,hle.2,by simp;omega,?_⟩⟩
  rw[P0 I.more hp Fu ho]
  cases tk s (k+m) (n+1)<;>rfl
def PBx (Bi bi Ci Mi:Int) (B M:Nat):Prop:=(Bi=16∧bi=63∧Ci=1152921504606846976∧Mi=9223372036854775807∧B=16∧M=9223372036854775807)∨(Bi=10∧bi=63∧Ci=1844674407370955162∧Mi=9223372036854775807∧B=10∧M=9223372036854775807)∨(Bi=8∧bi=63∧Ci=2305843009213693952∧Mi=9223372036854775807∧B=8∧M=9223372036854775807)∨(Bi=16∧bi=8∧Ci=1152921504606846976∧Mi=255∧B=16∧M=255)∨(Bi=8∧bi=8∧Ci=2305843009213693952∧Mi=255∧B=8∧M=255)
structure PKx (Bi Ci Mi:Int) (B M:Nat):Prop where
 k1:∀d:Nat,d<B→(d:Int)<Bi∧decide (Bi≤(d:Int))=false
 k2:∀d:Nat,¬d<B→Bi≤(d:Int)∧decide (Bi≤(d:Int))=true
 k3:∀(a:Int) (acc d:Nat),a=(acc:Int)→Ci≤a∧¬acc*B+d≤M∨a<Ci
 k5:∀(a:Int) (acc d:Nat),a=(acc:Int)→a<Ci→d<36→(18446744073709551616≤a*Bi+(d:Int)∧IntKind.u64.wrap (a*Bi+(d:Int))=a*Bi+(d:Int)-18446744073709551616∧¬acc*B+d≤M)∨a*Bi+(d:Int)<18446744073709551616
 k6:∀(a:Int) (acc d:Nat),a=(acc:Int)→a*Bi+(d:Int)=((acc*B+d:Nat):Int)
 k7:∀(a:Int) (acc d:Nat),a=(acc:Int)→(a*Bi+(d:Int)≤Mi∧acc*B+d≤M)∨(Mi<a*Bi+(d:Int)∧¬acc*B+d≤M)
 k8:∀(a:Int) (acc:Nat),a=(acc:Int)→acc≤M→a≤Mi
theorem PBx.pk {Bi bi Ci Mi:Int}{B M:Nat} (h:PBx Bi bi Ci Mi B M):PKx Bi Ci Mi B M:=by
 rcases h with ⟨rfl,rfl,rfl,rfl,rfl,rfl⟩|⟨rfl,rfl,rfl,rfl,rfl,rfl⟩|⟨rfl,rfl,rfl,rfl,rfl,rfl⟩|⟨rfl,rfl,rfl,rfl,rfl,rfl⟩|⟨rfl,rfl,rfl,rfl,rfl,rfl⟩
 all_goals
  refine ⟨fun d h=>⟨by omega,by simp;omega⟩,fun d h=>⟨by omega,by simp;omega⟩,fun a acc d h=>by omega,fun a acc d h h2 h3=>?_,fun a acc d h=>by omega,fun a acc d h=>?_,fun a acc h h2=>by omega⟩
  ·rw[IntKind.wrap_u64]
   by_cases q:18446744073709551616≤acc*16+d
   ·omega
   ·omega
  ·omega
theorem uQ {Bi bi Ci Mi:Int}{B M:Nat} (hb:PBx Bi bi Ci Mi B M) (W:World) (s:ByteArray) (hs:s.size≤65536):Calls Tryz.prog 272 #[.string s,.int .i64 Bi,.int .i64 bi] W (PU W B M s):=by
 by_cases h0:s.size=0
 ·obtain rfl:=AY h0
  rcases hb with ⟨rfl,rfl,rfl,rfl,-,-⟩|⟨rfl,rfl,rfl,rfl,-,-⟩|⟨rfl,rfl,rfl,rfl,-,-⟩|⟨rfl,rfl,rfl,rfl,-,-⟩|⟨rfl,rfl,rfl,rfl,-,-⟩
  all_goals
   go_enter Tryz.func272,Tryz.ntmps272
   go_wp2
   go_ret2
   exact PU.bad _ 2 (zE _ _) (.inr rfl) (.inl h0)
 have HK:=ak hb.pk
 have e0:=vh h0
 have p8:=Lib.run_convert_string_bytes (P:=Tryz.prog) W 9 137 5 s (u:=.string) Tryz.underlying9 Tryz.underlying137 Tryz.underlying5
 have hB:∀(j x:Nat),(aO s)[j]?=some x→(Lib.bytesWorld W 5 s).cell? ⟨W.heap.size,j,none⟩=some (.int .u8 (x:Int)):=fun j x hx=>by
  rw[Lib.bytesWorld_cell W 5 s j (by have:=(zB hx).1;rwa [bg] at this),ES s j x hx]
 have Rk:Below W.heap.size W (Lib.bytesWorld W 5 s):=Lib.bytesWorld_below W 5 s
 obtain ⟨W1,hW1⟩:∃W1,W1=Lib.bytesWorld W 5 s:=⟨_,rfl⟩
 rw[←hW1] at p8 hB Rk
 have vU:=ak Rk
 have HB:=ak hB
 clear hW1 Rk hB
 rcases hb with ⟨rfl,rfl,rfl,rfl,-,-⟩|⟨rfl,rfl,rfl,rfl,-,-⟩|⟨rfl,rfl,rfl,rfl,-,-⟩|⟨rfl,rfl,rfl,rfl,-,-⟩|⟨rfl,rfl,rfl,rfl,-,-⟩
 all_goals
  go_enter Tryz.func272,Tryz.ntmps272
  go_wp2
  clear p8
  go_loopg [12,13,15,16,17,101] s.size (fun gk v12 H' _ _ _ PW wr=>∃(k acc:Nat) (a:Int),v12=.bool false∧H'=.int .u64 a∧PW=.int .i64 (k:Int)∧k≤s.size∧gk=s.size-k∧wr=W1∧Hid (a=(acc:Int)∧acc≤M∧cA B M (aO s) 0=cA B M ((aO s).drop k) acc))
  case atStart=>exact ⟨0,0,0,rfl,rfl,rfl,by omega,rfl,rfl,rfl,by omega,rfl⟩
  case round =>
   obtain ⟨k,acc,a,rfl,rfl,rfl,hk,bd,rfl,hh⟩:=hrel
   obtain ⟨ha,Bc,jQ⟩:=ab hh
   have bH:=ak bd
   clear hh bd
   have a0:0≤a:=by omega
   have a1:=(ab HK).k8 a acc ha Bc
   by_cases hkn:k<s.size
   ·obtain ⟨x,hx,dr,gx⟩:=iI s k hkn
    have D7:=ab HB k x hx
    have qJ:(aO s).drop k=x::(aO s).drop (k+1):=by
     obtain ⟨hl,tu⟩:=zB hx
     rw[List.drop_eq_getElem_cons hl,tu]
    rw[qJ] at jQ
    clear qJ hx gx
    have SH:=ak jQ
    clear jQ
    go_upto_block 5 with fail
    go_cut [12,16,101] from 101 to 163 (fun v12 v16 PW wc=>∃dn:Nat,v12=.bool false∧v16=.int .u8 (dn:Int)∧PW=.int .i64 (k:Int)∧wc=wr∧dn<36∧Hid (El x=some dn))
    case first =>
     clear ha Bc a0 a1
     by_cases hd:48≤x∧x≤57
     ·have Hv:Hid (El x=some (x-48)):=by unfold El;rw[if_pos hd];rfl
      obtain ⟨d1,d2⟩:=hd
      have Te:=lQ (c:=x) (k:=95) (by omega);have b1:=lB (c:=x) (k:=48) (by omega);have b2:=Th (c:=x) (k:=57) (by omega)
      go_wp2
      go_meet
      case rel=>exact ⟨x-48,rfl,by go_num,rfl,rfl,by omega,Hv⟩
     ·obtain ⟨lx,CR⟩:∃lx,lx=low x:=⟨_,rfl⟩
      have yS:=fun w=>Fc w x dr
      simp only[←CR] at yS
      by_cases hu:65≤x∧x≤90
      ·have Hv:Hid (El x=some (x-55)):=by unfold El;rw[if_neg hd,if_pos hu];rfl
       have cK:=Qt hu.1 hu.2
       rw[←CR] at cK
       obtain ⟨u1,u2⟩:=hu
       have Te:=lQ (c:=x) (k:=95) (by omega);have b1:=lB (c:=x) (k:=48) (by omega);have b2:=mZ (c:=x) (k:=57) (by omega)
       have l1:=lB (c:=lx) (k:=97) (by omega);have l2:=Th (c:=lx) (k:=122) (by omega)
       have l3:97≤lx:=by omega
       have l4:lx≤122:=by omega
       clear CR hd
       go_wp2_with (go_at_call 297;refine (yS _).mono ?_;rintro e w' ⟨rfl,rfl⟩)
       go_meet
       case rel=>exact ⟨x-55,rfl,by congr 1;omega,rfl,rfl,by omega,Hv⟩
      ·by_cases hl:97≤x∧x≤122
       ·have Hv:Hid (El x=some (x-87)):=by unfold El;rw[if_neg hd,if_neg hu,if_pos hl];rfl
        have cK:=Jb hl.1 hl.2
        rw[←CR] at cK
        obtain ⟨u1,u2⟩:=hl
        have Te:=lQ (c:=x) (k:=95) (by omega);have b1:=lB (c:=x) (k:=48) (by omega);have b2:=mZ (c:=x) (k:=57) (by omega)
        have l1:=lB (c:=lx) (k:=97) (by omega);have l2:=Th (c:=lx) (k:=122) (by omega)
        have l3:97≤lx:=by omega
        have l4:lx≤122:=by omega
        clear CR hd hu
        go_wp2_with (go_at_call 297;refine (yS _).mono ?_;rintro e w' ⟨rfl,rfl⟩)
        go_meet
        case rel=>exact ⟨x-87,rfl,by congr 1;omega,rfl,rfl,by omega,Hv⟩
       ·have hv:El x=none:=by unfold El;rw[if_neg hd,if_neg hu,if_neg hl]
        have cK:=Ja dr hu hl
        rw[←CR] at cK
        have hn:cA B M (aO s) 0=none:=by rw[ab SH];simp only[cA,hv]
        have Hn:=ak hn
        clear hn
        have Tu:x<48∨57<x:=by omega
        clear CR hd hu hl hv
        by_cases x95:x=95
        ·have Te:((x:Int)==95)=true:=by simp;omega
         have b1:=lB (c:=x) (k:=48) (by omega);have b2:=mZ (c:=x) (k:=57) (by omega)
         clear Tu x95
         rcases cK with cK|cK
         ·have l1:=nX (c:=lx) (k:=97) (by omega)
          go_wp2_with (go_at_call 297;refine (yS _).mono ?_;rintro e w' ⟨rfl,rfl⟩)
          go_ret2
          exact PU.bad _ 2 (ab vU) (.inr rfl) (.inr (ab Hn))
         ·have l1:=lB (c:=lx) (k:=97) (by omega);have l2:=mZ (c:=lx) (k:=122) (by omega)
          go_wp2_with (go_at_call 297;refine (yS _).mono ?_;rintro e w' ⟨rfl,rfl⟩)
          go_ret2
          exact PU.bad _ 2 (ab vU) (.inr rfl) (.inr (ab Hn))
        ·have Te:=lQ (c:=x) (k:=95) (by omega)
         rcases Tu with Tu|Tu
         ·have b1:=nX (c:=x) (k:=48) (by omega)
          rcases cK with cK|cK
          ·have l1:=nX (c:=lx) (k:=97) (by omega)
           go_wp2_with (go_at_call 297;refine (yS _).mono ?_;rintro e w' ⟨rfl,rfl⟩)
           go_ret2
           exact PU.bad _ 2 (ab vU) (.inr rfl) (.inr (ab Hn))
          ·have l1:=lB (c:=lx) (k:=97) (by omega);have l2:=mZ (c:=lx) (k:=122) (by omega)
           go_wp2_with (go_at_call 297;refine (yS _).mono ?_;rintro e w' ⟨rfl,rfl⟩)
           go_ret2
           exact PU.bad _ 2 (ab vU) (.inr rfl) (.inr (ab Hn))
         ·have b1:=lB (c:=x) (k:=48) (by omega);have b2:=mZ (c:=x) (k:=57) (by omega)
          rcases cK with cK|cK
          ·have l1:=nX (c:=lx) (k:=97) (by omega)
           go_wp2_with (go_at_call 297;refine (yS _).mono ?_;rintro e w' ⟨rfl,rfl⟩)
           go_ret2
           exact PU.bad _ 2 (ab vU) (.inr rfl) (.inr (ab Hn))
          ·have l1:=lB (c:=lx) (k:=97) (by omega);have l2:=mZ (c:=lx) (k:=122) (by omega)
           go_wp2_with (go_at_call 297;refine (yS _).mono ?_;rintro e w' ⟨rfl,rfl⟩)
           go_ret2
           exact PU.bad _ 2 (ab vU) (.inr rfl) (.inr (ab Hn))
    case rest =>
     obtain ⟨dn,rfl,rfl,rfl,rfl,hdn,Hv⟩:=hcut
     have jQ:=ab SH
     have hv:=ab Hv
     simp only[cA,hv] at jQ
     clear SH Hv
     by_cases h8:dn<B
     ·obtain ⟨i8,i9⟩:=(ab HK).k1 dn h8
      rcases (ab HK).k3 a acc dn ha with ⟨US,xM⟩|US
      ·first
       |(exfalso;omega)
       |(rw[if_neg (fun q=>xM q.2)] at jQ
         have Hn:=ak jQ
         clear jQ ha Bc hv xM h8
         go_wp2
         go_ret2
         exact PU.bad _ 1 (ab vU) (.inl rfl) (.inr (ab Hn)))
      rcases (ab HK).k5 a acc dn ha US hdn with ⟨iov,hwr,xM⟩|iov
      ·first
       |(exfalso;omega)
       |(rw[if_neg (fun q=>xM q.2)] at jQ
         have Hn:=ak jQ
         clear jQ ha Bc hv xM h8
         go_wp2
         go_ret2
         exact PU.bad _ 1 (ab vU) (.inl rfl) (.inr (ab Hn)))
      rcases (ab HK).k7 a acc dn ha with ⟨imx,hmx⟩|⟨imx,xM⟩
      ·have HN:=ak (show _∧_∧cA B M (aO s) 0=cA B M ((aO s).drop (k+1)) (acc*B+dn) from ⟨(ab HK).k6 a acc dn ha,hmx,by rw[jQ,if_pos ⟨h8,hmx⟩]⟩)
       clear jQ ha Bc hv hmx h8
       go_wp2
       go_roundg (s.size-(k+1))
       case measure=>have:=ab bH;omega
       case rel=>exact ⟨k+1,acc*B+dn,_,rfl,by go_num,by go_num,by omega,rfl,rfl,HN⟩
      ·rw[if_neg (fun q=>xM q.2)] at jQ
       have Hn:=ak jQ
       clear jQ ha Bc hv xM h8
       go_wp2
       go_ret2
       exact PU.bad _ 1 (ab vU) (.inl rfl) (.inr (ab Hn))
     ·obtain ⟨i8,i9⟩:=(ab HK).k2 dn h8
      rw[if_neg (fun q=>h8 q.1)] at jQ
      have Hn:=ak jQ
      clear jQ ha Bc hv h8
      go_wp2
      go_ret2
      exact PU.bad _ 2 (ab vU) (.inr rfl) (.inr (ab Hn))
   ·obtain rfl:k=s.size:=by omega
    have FB:(aO s).drop s.size=[]:=List.drop_eq_nil_of_le (by rw[bg];omega)
    rw[FB] at jQ
    have Hd:Hid (cA B M (aO s) 0=some acc):=jQ
    have Ha:=ak ha
    clear jQ FB ha Bc
    go_wp2
    go_ret2
    rw[ab Ha]
    exact PU.aaE acc (ab vU) (by omega) (ab Hd)
end Go.Proofs.YtghioefalckgoaaGreatDoor

import Derived.Test.YtichhjfjcinjgaaGreatDoorM07
import Derived.Lib.Index
set_option maxHeartbeats 40000000
set_option maxRecDepth 100000
namespace Go.Proofs.YtichhjfjcinjgaaGreatDoor
open Go.RowKit
attribute [local go_sem ↓] Go.wp_at_zero Go.wp_at_succ
theorem vX {W:World}{b:Nat}{s:ByteArray}{k vc:Nat}{va:Option Addr}{kind n e:Int} (h:cM W b s k (.slice va 16383 vc)) :
  Calls Tryz.prog 137 #[.pointer (some ⟨b,0,none⟩),.int .i64 kind,.int .i64 n,.int .i64 e] W fun o w=>o=.returned (.int .i64 45)∧w=W:=by
 have c2:=h.c2
 clear h
 go_enter Tryz.func137,Tryz.ntmps137
 go_wp2
 go_ret
 exact ⟨rfl,rfl⟩
theorem F8 {W:World}{b:Nat}{s:ByteArray}{k m vc:Nat}{va:Option Addr}{kind n e:Int} (h:cM W b s k (.slice va m vc)) (hm:m<16383) (he:e≠0) :
  Calls Tryz.prog 137 #[.pointer (some ⟨b,0,none⟩),.int .i64 kind,.int .i64 n,.int .i64 e] W fun o w=>o=.returned (.int .i64 e)∧w=W:=by
 have c2:=h.c2
 have q1:((m:Int)==16383)=false:=beq_eq_false_iff_ne.2 (by omega)
 have q2:(e != 0)=true:=by simpa using he
 clear h
 go_enter Tryz.func137,Tryz.ntmps137
 go_wp2
 go_ret
 exact ⟨rfl,rfl⟩
theorem cM.at {W:World}{b:Nat}{s:ByteArray}{k:Nat}{v:Value} (h:cM W b s k v) (j:Nat):cM (W.setCell ⟨b,1,none⟩ (.int .i64 (j:Int))) b s j v:=heap_setCell_same _ b 1 _ _ _ h
theorem Bo {W:World}{b:Nat}{s:ByteArray}{k:Nat}{v:Value} (h:cM W b s k v) (hk:k<s.size) (hs:s.size≤65536) :
  Calls Tryz.prog 138 #[.pointer (some ⟨b,0,none⟩)] W fun e w=>e=.returned (.int .i64 0)∧w=W.setCell ⟨b,1,none⟩ (.int .i64 ((k+1:Nat):Int)):=by
 have c1:=h.c1
 have f1:=ir 1 h
 clear h
 go_enter Tryz.func138,Tryz.ntmps138
 go_wp2
 go_ret
 exact ⟨rfl,rfl⟩
theorem bw (s:ByteArray) (a b:Nat):aI (s.extract a b)=((aI s).drop a).take (b-a):=by
 unfold aI
 rw[Lib.extract_data]
 simp[List.map_take,List.map_drop]
theorem Gb {s t:ByteArray} (h:aI s=aI t):s=t:=by
 have h1:s.data.toList=t.data.toList:=by
  unfold aI at h
  exact (List.map_inj_right (fun a b e=>UInt8.toNat_inj.1 e)).1 h
 cases s with|mk d=>cases t with|mk e=>cases d;cases e;simp_all
theorem zZ (s t:ByteArray):(s.toList==t.toList)=true↔aI s=aI t:=by
 rw[ByteArray.toList_eq,ByteArray.toList_eq]
 constructor
 ·intro h
  unfold aI
  rw[eq_of_beq h]
 ·intro h
  rw[Gb h]
  simp
def yj (s p:ByteArray):Prop:=(aI s).take p.size=aI p
open Classical in
noncomputable def preB (s p:ByteArray):Bool:=decide (yj s p)
theorem El {s p:ByteArray} (h:yj s p):preB s p=true:=by unfold preB;simp[h]
theorem BF {s p:ByteArray} (h:¬yj s p):preB s p=false:=by unfold preB;simp[h]
theorem uq (W:World) (s p:ByteArray):Calls Tryz.prog 166 #[.string s,.string p] W fun e w=>e=.returned (.bool (preB s p))∧w=W:=by
 by_cases hl:p.size≤s.size
 ·have e1:decide ((p.size:Int)≤(s.size:Int))=true:=by simp;omega
  have hx:=bw s 0 p.size
  have RH:=zZ (s.extract 0 p.size) p
  have Hx:=al hx
  have SF:=al RH
  clear hx RH
  go_enter Tryz.func166,Tryz.ntmps166
  go_wp2
  go_ret
  refine ⟨?_,rfl⟩
  have:((s.extract 0 p.size).toList==p.toList)=preB s p:=by
   by_cases KM:yj s p
   ·rw[El KM]
    refine (ab SF).2 ?_
    rw[ab Hx]
    simpa[yj] using KM
   ·rw[BF KM,←Bool.not_eq_true]
    intro h
    have:=(ab SF).1 h
    rw[ab Hx] at this
    exact KM (by simpa[yj] using this)
  rw[←this]
  rfl
 ·have e1:decide ((p.size:Int)≤(s.size:Int))=false:=by simp;omega
  have hn:¬yj s p:=fun h=>by
   have:=congrArg List.length h
   rw[List.length_take,aY,aY] at this
   omega
  rw[BF hn]
  go_enter Tryz.func166,Tryz.ntmps166
  go_wp2
  go_ret
  exact ⟨rfl,rfl⟩
theorem fK (W:World) (s p:ByteArray):Calls Tryz.prog 126 #[.string s,.string p] W fun e w=>e=.returned (.bool (preB s p))∧w=W:=by
 go_enter Tryz.func126,Tryz.ntmps126
 go_wp2_with fail
 refine (uq W s p).mono ?_
 rintro e w' ⟨rfl,he⟩
 obtain rfl:W=w':=he.symm
 go_wp2
 go_ret
 exact ⟨rfl,rfl⟩
theorem wR (s:ByteArray):∀(n k:Nat),(∀j,j<n→k+j<s.size∧(isLet (aC s (k+j))∨cY (aC s (k+j))))→(k+n<s.size→¬(isLet (aC s (k+n))∨cY (aC s (k+n))))→cL s k=k+n
 |0,k,_,h2=>by
  rw[cL,dif_neg (fun q=>h2 q.1 q.2)]
  rfl
 |n+1,k,h1,h2=>by
  have h0:=h1 0 (by omega)
  rw[Nat.add_zero] at h0
  rw[cL,dif_pos h0,wR s n (k+1) (fun j hj=>?_) (fun h=>?_)]
  ·omega
  ·have:=h1 (j+1) (by omega)
   rwa [show k+(j+1)=k+1+j by omega] at this
  ·rw[show k+1+n=k+(n+1) by omega] at h ⊢
   exact h2 h
theorem mw (s:ByteArray) (k:Nat) (h:k<s.size):(aI s)[k]?=some (aC s k):=by
 unfold aI aC
 rw[dif_pos h,List.getElem?_map,Array.getElem?_toList,Array.getElem?_eq_getElem (by show k<s.size;exact h)]
 rfl
theorem uC {s:ByteArray}{k n:Nat} (hk:k≤s.size) (hn:n≤(s.extract k s.size).size) (h1:∀j x,j<n→(aI (s.extract k s.size))[j]?=some x→isLet x∨cY x) (h2:∀x,(aI (s.extract k s.size))[n]?=some x→¬(isLet x∨cY x)):cL s k=k+n∧k+n≤s.size:=by
 have kI:(s.extract k s.size).size=s.size-k:=by rw[ByteArray.size_extract];omega
 have he:∀j,k+j<s.size→(aI (s.extract k s.size))[j]?=some (aC s (k+j)):=fun j hj=>by
  rw[bw,List.getElem?_take,if_pos (by omega),List.getElem?_drop]
  exact mw s (k+j) hj
 refine ⟨wR s n k (fun j hj=>⟨by omega,h1 j _ hj (he j (by omega))⟩) (fun h=>h2 _ (he n h)),by omega⟩
end Go.Proofs.YtichhjfjcinjgaaGreatDoor
namespace Go.Proofs.YtichhjfjcinjgaaGreatDoor
open Go.RowKit
def wv (l:List Nat):Option Nat :=
 if l.take 2=[48,120]∨l.take 2=[48,88] then (if l.length=2 then none else bT 16 9223372036854775807 (l.drop 2) 0)
 else if l.take 1=[48] then bT 8 9223372036854775807 l 0 else if l=[] then none else bT 10 9223372036854775807 l 0
theorem sn {B M:Nat}:∀(l:List Nat) (n u:Nat),n≤M→bT B M l n=some u→u≤M
 |[],n,u,hn,h=>by
  have:n=u:=by simpa[bT] using h
  omega
 |c::r,n,u,hn,h=>by
  simp only[bT] at h
  split at h
  ·cases h
  ·split at h
   ·rename_i hc
    exact sn r _ u hc.2 h
   ·cases h
theorem CP {l:List Nat}{u:Nat} (h:wv l=some u):u≤9223372036854775807:=by
 unfold wv at h
 split at h
 ·split at h
  ·cases h
  ·exact sn _ 0 u (by decide) h
 ·split at h
  ·exact sn _ 0 u (by decide) h
  ·split at h
   ·cases h
   ·exact sn _ 0 u (by decide) h
def cq (s:ByteArray) (k:Nat):Nat×Nat×Nat :=
 if isLet (aC s k) then (1,cL s k,0)
 else if cY (aC s k) then (if wv (aI (s.extract k (cL s k)))=none then (0,0,41) else (2,cL s k,0))
 else if aC s k=39∨aC s k=34 then (match ec s (aC s k) (k+1) with|none=>(0,0,42)|some (_,e)=>(3,e,0))
 else if jP (aC s k) then (4,k+1,0) else (0,0,40)
structure Tok where
 kind:Nat
 place:Nat
 text:ByteArray
def uI (t:Tok):List Tok ⊕ (Nat×Nat)→List Tok ⊕ (Nat×Nat)
 |.inl l=>.inl (t::l)
 |.inr e=>.inr e
def hJ (p:List Tok):List Tok ⊕ (Nat×Nat)→List Tok ⊕ (Nat×Nat)
 |.inl l=>.inl (p++l)
 |.inr e=>.inr e
theorem lj (x:List Tok ⊕ (Nat×Nat)):hJ [] x=x:=by cases x<;>rfl
theorem Ax (p:List Tok) (t:Tok) (x:List Tok ⊕ (Nat×Nat)):hJ p (uI t x)=hJ (p++[t]) x:=by
 cases x with
 |inl l=>simp[hJ,uI]
 |inr e=>rfl
def jE (s:ByteArray):Nat→Nat→Nat→(List Tok ⊕ (Nat×Nat))
 |0,_,_=>.inr (0,0)
 |f+1,k,n=>if (bj s s.size k).2=false then .inr ((bj s s.size k).1,43)
  else if (bj s s.size k).1=s.size then .inl [⟨5,(bj s s.size k).1,⟨#[]⟩⟩]
  else if n=16383 then .inr ((bj s s.size k).1,45)
  else if (cq s (bj s s.size k).1).2.2=0 then
   uI ⟨(cq s (bj s s.size k).1).1,(bj s s.size k).1,s.extract (bj s s.size k).1 (cq s (bj s s.size k).1).2.1⟩ (jE s f (cq s (bj s s.size k).1).2.1 (n+1))
  else .inr ((bj s s.size k).1,(cq s (bj s s.size k).1).2.2)
theorem zQ (s:ByteArray):∀(f k:Nat),k≤s.size→k≤(bj s f k).1∧(bj s f k).1≤s.size:=by
 intro f
 induction f with
 |zero=>intro k hk;exact ⟨zD _,hk⟩
 |succ f ih =>
  intro k hk
  rw[bj]
  split
  ·split
   ·have:=ih (k+1) (by omega);omega
   ·split
    ·rename_i h h1 h2
     have a:=ss s k
     have b:=sr s k hk
     have:=ih _ b;omega
    ·split
     ·split
      ·rename_i h5
       have a:=gV s (k+2)
       have:=ih _ h5;omega
      ·exact ⟨zD _,hk⟩
     ·exact ⟨zD _,hk⟩
  ·exact ⟨zD _,hk⟩
theorem wS {s:ByteArray}{k:Nat} (hk:k<s.size) (h:isLet (aC s k)∨cY (aC s k)):k<cL s k:=by
 rw[cL,dif_pos ⟨hk,h⟩]
 have:=wT s (k+1)
 omega
theorem oq {s:ByteArray}{k:Nat} (hk:k<s.size) (h:(cq s k).2.2=0):k<(cq s k).2.1∧(cq s k).2.1≤s.size:=by
 unfold cq at h ⊢
 by_cases h1:isLet (aC s k)
 ·rw[if_pos h1]
  exact ⟨wS hk (.inl h1),pL s k (by omega)⟩
 ·rw[if_neg h1] at h ⊢
  by_cases h2:cY (aC s k)
  ·rw[if_pos h2] at h ⊢
   split at h
   ·cases h
   ·rename_i h3
    rw[if_neg h3]
    exact ⟨wS hk (.inr h2),pL s k (by omega)⟩
  ·rw[if_neg h2] at h ⊢
   by_cases h3:aC s k=39∨aC s k=34
   ·rw[if_pos h3] at h ⊢
    split at h
    ·cases h
    ·rename_i l e he
     have:=CR _ (k+1) l e (zD _) he
     show k<e∧e≤s.size
     omega
   ·rw[if_neg h3] at h ⊢
    split at h
    ·rename_i h4
     rw[if_pos h4]
     show k<k+1∧k+1≤s.size
     omega
    ·cases h
theorem vV (s:ByteArray):∀(f f' k n:Nat),k≤s.size→s.size-k<f→s.size-k<f'→jE s f k n=jE s f' k n:=by
 intro f
 induction f with
 |zero=>intro f' k n _ hf;omega
 |succ f ih =>
  intro f' k n hk hf L7
  cases f' with
  |zero=>omega
  |succ f' =>
   rw[jE,jE]
   have hp:=zQ s s.size k hk
   split
   ·rfl
   ·split
    ·rfl
    ·split
     ·rfl
     ·split
      ·rename_i h1 h2 h3 h4
       have:=oq (by omega) h4
       rw[ih f' _ (n+1) this.2 (by omega) (by omega)]
      ·rfl
def tk (s:ByteArray) (k n:Nat):List Tok ⊕ (Nat×Nat):=jE s (s.size+1) k n
theorem CU {s:ByteArray}{k k':Nat} (n:Nat) (h:bj s s.size k=bj s s.size k'):tk s k n=tk s k' n:=by
 unfold tk
 rw[jE,jE,h]
theorem Gx (s:ByteArray):bj s s.size s.size=(s.size,true):=by
 cases hz:s.size with
 |zero=>rfl
 |succ n=>rw[bj,if_neg (by omega)]
theorem MR (s:ByteArray) (n:Nat):tk s s.size n=.inl [⟨5,s.size,⟨#[]⟩⟩]:=by
 unfold tk
 rw[jE,Gx,if_neg (by simp),if_pos rfl]
theorem F4 {s:ByteArray}{k n:Nat} (h:bj s s.size k=(k,false)):tk s k n=.inr (k,43):=by
 unfold tk
 rw[jE,h,if_pos rfl]
theorem CV {s:ByteArray}{k:Nat} (hk:k<s.size) (h:bj s s.size k=(k,true)):tk s k 16383=.inr (k,45):=by
 unfold tk
 rw[jE,h,if_neg (by simp),if_neg (by show ¬k=s.size;omega),if_pos rfl]
theorem MQ {s:ByteArray}{k n c:Nat} (hk:k<s.size) (h:bj s s.size k=(k,true)) (hn:n<16383) (h1:(cq s k).2.2=c) (hc:c≠0):tk s k n=.inr (k,c):=by
 unfold tk
 rw[jE,h,if_neg (by simp),if_neg (by show ¬k=s.size;omega),if_neg (by omega)]
 show (if (cq s k).2.2=0 then _ else Sum.inr (k,(cq s k).2.2))=_
 rw[h1,if_neg hc]
theorem MP {s:ByteArray}{k n t e:Nat} (hk:k<s.size) (h:bj s s.size k=(k,true)) (hn:n<16383) (h1:cq s k=(t,e,0)):tk s k n=uI ⟨t,k,s.extract k e⟩ (tk s e (n+1)):=by
 have hle:=oq hk (by rw[h1])
 rw[h1] at hle
 unfold tk
 rw[jE,h,if_neg (by simp),if_neg (by show ¬k=s.size;omega),if_neg (by omega)]
 show (if (cq s k).2.2=0 then uI ⟨(cq s k).1,k,s.extract k (cq s k).2.1⟩ (jE s s.size (cq s k).2.1 (n+1)) else _)=_
 rw[h1,if_pos rfl]
 rw[vV s s.size (s.size+1) e (n+1) hle.2 (by have:=hle.1;simp at this;omega) (by omega)]
theorem kB {s:ByteArray}{k:Nat} (hk:k<s.size):bj s s.size k=bj s (s.size-k-1+1) k:=eD s _ _ k (by omega) (by omega)
theorem BJ {s:ByteArray}{k:Nat} (hk:k<s.size) (h:lB (aC s k)):bj s s.size k=bj s s.size (k+1):=by
 rw[kB hk,bj,if_pos hk,if_pos h]
 exact eD s _ _ _ (by omega) (by omega)
theorem Er {s:ByteArray}{k:Nat} (h:k+2≤s.size) (h1:aC s k=47) (h2:aC s (k+1)=47):bj s s.size k=bj s s.size (iw s k):=by
 have hk:k<s.size:=by omega
 have VX:=sq hk h1
 rw[kB hk,bj,if_pos hk,if_neg (by rw[h1];decide),if_pos ⟨h,h1,h2⟩]
 exact eD s _ _ _ (by omega) (by omega)
theorem Ep {s:ByteArray}{k:Nat} (h:k+2≤s.size) (h1:aC s k=47) (h2:aC s (k+1)=42) (h3:dt s (k+2)+2≤s.size):bj s s.size k=bj s s.size (dt s (k+2)+2):=by
 have hk:k<s.size:=by omega
 have:=gV s (k+2)
 rw[kB hk,bj,if_pos hk,if_neg (by rw[h1];decide),if_neg (by omega),if_pos ⟨h,h1,h2⟩,if_pos h3]
 exact eD s _ _ _ (by omega) (by omega)
theorem BH {s:ByteArray}{k:Nat} (h:k+2≤s.size) (h1:aC s k=47) (h2:aC s (k+1)=42) (h3:¬dt s (k+2)+2≤s.size):bj s s.size k=(k,false):=by
 have hk:k<s.size:=by omega
 rw[kB hk,bj,if_pos hk,if_neg (by rw[h1];decide),if_neg (by omega),if_pos ⟨h,h1,h2⟩,if_neg h3]
theorem wg {s:ByteArray}{k:Nat} (hk:k<s.size) (h:¬lB (aC s k)) (h1:¬(k+2≤s.size∧aC s k=47∧aC s (k+1)=47)) (h2:¬(k+2≤s.size∧aC s k=47∧aC s (k+1)=42)):bj s s.size k=(k,true):=by
 rw[kB hk,bj,if_pos hk,if_neg h,if_neg h1,if_neg h2]
theorem jM {s:ByteArray}{k:Nat} (hk:k<s.size) (h:¬lB (aC s k)) (h1:¬aC s k=47):bj s s.size k=(k,true):=wg hk h (fun q=>h1 q.2.1) (fun q=>h1 q.2.1)
noncomputable def jD (s:ByteArray):List Tok ⊕ (Nat×Nat):=if 65536<s.size then .inr (0,2) else if 0≤cX s 0 then .inr ((cX s 0).toNat,44) else tk s 0 0
theorem xz (s:ByteArray) (k j:Nat) (h1:k≤j) (h2:j<iw s k):¬aC s j=10:=by
 rw[iw] at h2
 split at h2
 ·rename_i h
  by_cases e:j=k
  ·subst e;exact h.2
  ·exact xz s (k+1) j (by omega) h2
 ·omega
termination_by s.size-k
decreasing_by omega
theorem zU (s:ByteArray) (k:Nat) (h:iw s k<s.size):aC s (iw s k)=10:=by
 rw[iw] at h ⊢
 split at h
 ·rename_i h1
  rw[dif_pos h1]
  exact zU s (k+1) h
 ·rename_i h1
  rw[dif_neg h1]
  exact Classical.byContradiction fun e=>h1 ⟨h,e⟩
termination_by s.size-k
decreasing_by omega
theorem px (s:ByteArray) (k j:Nat) (h1:k≤j) (h2:j<dt s k):¬(aC s j=42∧aC s (j+1)=47):=by
 rw[dt] at h2
 split at h2
 ·rename_i h
  by_cases e:j=k
  ·subst e;exact h.2
  ·exact px s (k+1) j (by omega) h2
 ·omega
termination_by s.size-k
decreasing_by omega
theorem tz (s:ByteArray) (k:Nat) (h:dt s k+2≤s.size):aC s (dt s k)=42∧aC s (dt s k+1)=47:=by
 rw[dt] at h ⊢
 split at h
 ·rename_i h1
  rw[dif_pos h1]
  exact tz s (k+1) h
 ·rename_i h1
  rw[dif_neg h1]
  exact Classical.byContradiction fun e=>h1 ⟨h,e⟩
termination_by s.size-k
decreasing_by omega
theorem jT {s:ByteArray}{k j:Nat} (h:k+j<s.size):aC (s.extract k s.size) j=aC s (k+j):=by
 have hz:j<(s.extract k s.size).size:=by rw[ByteArray.size_extract];omega
 have e1:=mw _ j hz
 rw[bw,List.getElem?_take,if_pos (by omega),List.getElem?_drop,mw s (k+j) h] at e1
 exact (zC e1).symm
theorem Nr {s:ByteArray}{k:Nat} (hk:k≤s.size):firstIdx (s.extract k s.size) 10=if iw s k<s.size then ((iw s k-k:Nat):Int) else -1:=by
 have hz:(s.extract k s.size).size=s.size-k:=by rw[ByteArray.size_extract];omega
 have hb:∀i,i<s.size-k→(((s.extract k s.size)[i]! == (10:UInt8))=true↔aC s (k+i)=10):=fun i hi=>by
  have eS:i<(s.extract k s.size).size:=by omega
  rw[getElem!_pos _ i eS,←jT (by omega),aC,dif_pos eS]
  constructor
  ·intro h;rw[eq_of_beq h];rfl
  ·intro h;exact beq_iff_eq.2 (UInt8.toNat_inj.1 h)
 have KT:=ss s k
 unfold firstIdx
 rw[hz]
 by_cases h:iw s k<s.size
 ·rw[if_pos h]
  have hf:(List.range (s.size-k)).find? (fun i=>(s.extract k s.size)[i]! == (10:UInt8))=some (iw s k-k):=by
   refine List.find?_range_eq_some.2 ⟨(hb _ (by omega)).2 ?_,List.mem_range.2 (by omega),fun j hj=>?_⟩
   ·rw[show k+(iw s k-k)=iw s k by omega]
    exact zU s k h
   ·have:=xz s k (k+j) (by omega) (by omega)
    rw[Bool.not_eq_true',←Bool.not_eq_true]
    exact fun q=>this ((hb j (by omega)).1 q)
  rw[hf]
 ·rw[if_neg h]
  have hf:(List.range (s.size-k)).find? (fun i=>(s.extract k s.size)[i]! == (10:UInt8))=none:=by
   refine List.find?_range_eq_none.2 fun j hj=>?_
   have:=xz s k (k+j) (by omega) (by omega)
   rw[Bool.not_eq_true',←Bool.not_eq_true]
   exact fun q=>this ((hb j hj).1 q)
  rw[hf]
theorem tK {s:ByteArray}{k j:Nat} (hk:k≤s.size):Lib.occAt (s.extract k s.size).data.toList [42,47] j=true↔k+j+2≤s.size∧aC s (k+j)=42∧aC s (k+j+1)=47:=by
 have hl:(s.extract k s.size).data.toList.length=s.size-k:=by
  show (s.extract k s.size).size=_
  rw[ByteArray.size_extract];omega
 by_cases hr:k+j+2≤s.size
 ·have e:((s.extract k s.size).data.toList.drop j).take 2=(s.extract (k+j) (k+j+2)).data.toList:=by
   rw[Lib.extract_data,Lib.extract_data,List.drop_take,List.take_take,List.drop_drop,Nat.min_eq_left (by omega)]
   congr 1
   omega
  rw[Lib.occAt_iff_take _ _ _ (by rw[hl];show j+2≤_;omega)]
  show ((((s.extract k s.size).data.toList.drop j).take 2)==[42,47])=true↔_
  rw[e,beq_iff_eq,FZ hr]
  exact ⟨fun q=>⟨hr,q⟩,fun q=>q.2⟩
 ·refine ⟨fun q=>?_,fun q=>absurd q.1 hr⟩
  rcases Lib.occAt_room q with h|h
  ·rw[hl] at h
   exact absurd (show k+j+2≤s.size by have:([42,47]:List UInt8).length=2:=rfl;omega) hr
  ·cases h
theorem GS {s:ByteArray}{k:Nat} (hk:k≤s.size):Lib.index (s.extract k s.size).data.toList [42,47]=if dt s k+2≤s.size then ((dt s k-k:Nat):Int) else -1:=by
 have hl:(s.extract k s.size).data.toList.length=s.size-k:=by
  show (s.extract k s.size).size=_
  rw[ByteArray.size_extract];omega
 have KT:=gV s k
 by_cases h:dt s k+2≤s.size
 ·rw[if_pos h]
  refine Lib.index_first (by rw[hl];omega) ((tK hk).2 ?_) (fun j hj=>?_)
  ·rw[show k+(dt s k-k)=dt s k by omega]
   exact ⟨h,tz s k h⟩
  ·rw[←Bool.not_eq_true]
   exact fun q=>px s k (k+j) (by omega) (by omega) ((tK hk).1 q).2
 ·rw[if_neg h]
  refine Lib.index_none fun j _=>?_
  rw[←Bool.not_eq_true]
  intro q
  have q2:=(tK hk).1 q
  by_cases hj:k+j<dt s k
  ·exact px s k (k+j) (by omega) hj q2.2
  ·omega
theorem Df {s:ByteArray}{k:Nat} (hk:k≤s.size) (a b:UInt8):yj (s.extract k s.size) ⟨#[a,b]⟩↔k+2≤s.size∧aC s k=a.toNat∧aC s (k+1)=b.toNat:=by
 unfold yj
 show (aI (s.extract k s.size)).take 2=[a.toNat,b.toNat]↔_
 rw[bw]
 by_cases hr:k+2≤s.size
 ·have e:(((aI s).drop k).take (s.size-k)).take 2=[aC s k,aC s (k+1)]:=by
   rw[List.take_take,Nat.min_eq_left (by omega)]
   apply List.ext_getElem?
   intro i
   rw[List.getElem?_take]
   match i with
   |0=>rw[if_pos (by omega),List.getElem?_drop,Nat.add_zero,mw s k (by omega)];rfl
   |1=>rw[if_pos (by omega),List.getElem?_drop,mw s (k+1) (by omega)];rfl
   |i+2=>rw[if_neg (by omega)];rfl
  rw[e]
  simp[hr]
 ·refine ⟨fun q=>?_,fun q=>absurd q.1 hr⟩
  have:=congrArg List.length q
  rw[List.length_take,List.length_take,List.length_drop,aY] at this
  simp at this
  omega
end Go.Proofs.YtichhjfjcinjgaaGreatDoor
namespace Go.Proofs.YtichhjfjcinjgaaGreatDoor
open Go.RowKit
attribute [local go_sem ↓] Go.wp_at_zero Go.wp_at_succ
def dW (ts:List Tok):List Value:=ts.flatMap fun t=>[.int .i64 (t.kind:Int),.int .i64 (t.place:Int),.string t.text]
theorem kV (a b:List Tok):dW (a++b)=dW a++dW b:=by simp[dW]
structure eT (W:World) (B b:Nat) (s:ByteArray) (k n:Nat) (v:Value) (xs:List Value):Prop where
 sc:cM W b s k v
 lo:b<B
 hi:B≤W.heap.size
 row:W.ownsRow B 107 3 v n xs
 more:k<s.size
 size:s.size≤65536
 room:n≤16383
theorem eT.up {W w:World}{B b:Nat}{s:ByteArray}{k n:Nat}{v:Value}{xs:List Value} (h:eT W B b s k n v xs) (hb:Below W.heap.size W w):eT w B b s k n v xs:=⟨h.sc.up hb,h.lo,Nat.le_trans h.hi hb.size,LP h.row hb,h.more,h.size,h.room⟩
theorem eT.shape {W:World}{B b:Nat}{s:ByteArray}{k n:Nat}{v:Value}{xs:List Value} (h:eT W B b s k n v xs):∃a c,v=.slice a n c:=by
 obtain ⟨_,⟨e,h0⟩|⟨g,c,_,e,_⟩⟩:=h.row
 ·exact ⟨none,0,by rw[e,h0]⟩
 ·exact ⟨_,_,e⟩
def ga (B b:Nat) (s:ByteArray) (k n:Nat) (xs:List Value) (W:World) (e:Ending) (w:World):Prop :=
 BX B b W w∧((e=.returned (.int .i64 0)∧∃(k':Nat) (ts:List Tok) (v':Value),cM w b s k' v'∧w.ownsRow B 107 3 v' (n+ts.length) (xs++dW ts)∧k<k'∧k'≤s.size∧n+ts.length≤16383∧tk s k n=hJ ts (tk s k' (n+ts.length)))
  ∨ (∃(c:Nat) (v':Value),c≠0∧e=.returned (.int .i64 (c:Int))∧cM w b s k v'∧tk s k n=.inr (k,c)))
theorem ga.ret {B b:Nat}{s:ByteArray}{k n:Nat}{xs:List Value}{W w:World}{e:Ending} (h:ga B b s k n xs W e w):∃c:Int,e=.returned (.int .i64 c):=by
 obtain ⟨_,⟨rfl,_⟩|⟨c,_,_,rfl,_⟩⟩:=h
 ·exact ⟨0,rfl⟩
 ·exact ⟨(c:Int),rfl⟩
theorem ga.from {B b:Nat}{s:ByteArray}{k n:Nat}{xs:List Value}{W W1 w:World}{e:Ending} (h:ga B b s k n xs W1 e w) (hb:Below W.heap.size W W1) (hB:B≤W.heap.size):ga B b s k n xs W e w:=⟨(BX.of hb hB).trans h.1,h.2⟩
theorem D7 {W:World}{B b:Nat}{s:ByteArray}{k n c:Nat}{v:Value}{xs:List Value} (I:eT W B b s k n v xs) (hp:bj s s.size k=(k,true)) (ho:(cq s k).2.2=c) (hc:c≠0) (kind m:Int) :
  Calls Tryz.prog 137 #[.pointer (some ⟨b,0,none⟩),.int .i64 kind,.int .i64 m,.int .i64 (c:Int)] W (ga B b s k n xs W):=by
 obtain ⟨va,vc,rfl⟩:=I.shape
 by_cases hn:n=16383
 ·subst hn
  refine (vX I.sc).mono ?_
  rintro e w ⟨rfl,rfl⟩
  exact ⟨BX.refl _ _ _,.inr ⟨45,_,by decide,rfl,I.sc,CV I.more hp⟩⟩
 ·have Du:n<16383:=by have:=I.room;omega
  refine (F8 I.sc Du (by omega)).mono ?_
  rintro e w ⟨rfl,rfl⟩
  exact ⟨BX.refl _ _ _,.inr ⟨c,_,hc,rfl,I.sc,MQ I.more hp Du ho hc⟩⟩
theorem F7 {W:World}{B b:Nat}{s:ByteArray}{k n m t:Nat}{v:Value}{xs:List Value} (I:eT W B b s k n v xs) (hp:bj s s.size k=(k,true)) (ho:cq s k=(t,k+m,0)) :
  Calls Tryz.prog 137 #[.pointer (some ⟨b,0,none⟩),.int .i64 (t:Int),.int .i64 (m:Int),.int .i64 0] W (ga B b s k n xs W):=by
 obtain ⟨va,vc,rfl⟩:=I.shape
 have hle:=oq I.more (by rw[ho])
 rw[ho] at hle
 replace hle:k<k+m∧k+m≤s.size:=hle
 by_cases hn:n=16383
 ·subst hn
  refine (vX I.sc).mono ?_
  rintro e w ⟨rfl,rfl⟩
  exact ⟨BX.refl _ _ _,.inr ⟨45,_,by decide,rfl,I.sc,CV I.more hp⟩⟩
 ·have Du:n<16383:=by have:=I.room;omega
  refine (F9 I.sc I.lo I.hi I.row hle.2 I.size Du).mono ?_
  rintro e w ⟨rfl,v',g1,g2,g3⟩
  refine ⟨g3,.inl ⟨rfl,k+m,[⟨t,k,s.extract k (k+m)⟩],v',g1,g2,hle.1,hle.2,by simp;omega,?_⟩⟩
  rw[MP I.more hp Du ho]
  cases tk s (k+m) (n+1)<;>rfl
def W6 (Bi bi Ci Mi:Int) (B M:Nat):Prop:=(Bi=16∧bi=63∧Ci=1152921504606846976∧Mi=9223372036854775807∧B=16∧M=9223372036854775807)∨(Bi=10∧bi=63∧Ci=1844674407370955162∧Mi=9223372036854775807∧B=10∧M=9223372036854775807)∨(Bi=8∧bi=63∧Ci=2305843009213693952∧Mi=9223372036854775807∧B=8∧M=9223372036854775807)∨(Bi=16∧bi=8∧Ci=1152921504606846976∧Mi=255∧B=16∧M=255)∨(Bi=8∧bi=8∧Ci=2305843009213693952∧Mi=255∧B=8∧M=255)
structure PKx (Bi Ci Mi:Int) (B M:Nat):Prop where
 k1:∀d:Nat,d<B→(d:Int)<Bi∧decide (Bi≤(d:Int))=false
 k2:∀d:Nat,¬d<B→Bi≤(d:Int)∧decide (Bi≤(d:Int))=true
 k3:∀(a:Int) (acc d:Nat),a=(acc:Int)→Ci≤a∧¬acc*B+d≤M∨a<Ci
 k5:∀(a:Int) (acc d:Nat),a=(acc:Int)→a<Ci→d<36→(18446744073709551616≤a*Bi+(d:Int)∧IntKind.u64.wrap (a*Bi+(d:Int))=a*Bi+(d:Int)-18446744073709551616∧¬acc*B+d≤M)∨a*Bi+(d:Int)<18446744073709551616
 k6:∀(a:Int) (acc d:Nat),a=(acc:Int)→a*Bi+(d:Int)=((acc*B+d:Nat):Int)
 k7:∀(a:Int) (acc d:Nat),a=(acc:Int)→(a*Bi+(d:Int)≤Mi∧acc*B+d≤M)∨(Mi<a*Bi+(d:Int)∧¬acc*B+d≤M)
 k8:∀(a:Int) (acc:Nat),a=(acc:Int)→acc≤M→a≤Mi
theorem W6.pk {Bi bi Ci Mi:Int}{B M:Nat} (h:W6 Bi bi Ci Mi B M):PKx Bi Ci Mi B M:=by
 rcases h with ⟨rfl,rfl,rfl,rfl,rfl,rfl⟩|⟨rfl,rfl,rfl,rfl,rfl,rfl⟩|⟨rfl,rfl,rfl,rfl,rfl,rfl⟩|⟨rfl,rfl,rfl,rfl,rfl,rfl⟩|⟨rfl,rfl,rfl,rfl,rfl,rfl⟩
 all_goals
  refine ⟨fun d h=>⟨by omega,by simp;omega⟩,fun d h=>⟨by omega,by simp;omega⟩,fun a acc d h=>by omega,fun a acc d h h2 h3=>?_,fun a acc d h=>by omega,fun a acc d h=>?_,fun a acc h h2=>by omega⟩
  ·rw[IntKind.wrap_u64]
   by_cases q:18446744073709551616≤acc*16+d
   ·omega
   ·omega
  ·omega
theorem tJ {Bi bi Ci Mi:Int}{B M:Nat} (hb:W6 Bi bi Ci Mi B M) (W:World) (s:ByteArray) (hs:s.size≤65536):Calls Tryz.prog 191 #[.string s,.int .i64 Bi,.int .i64 bi] W (PU W B M s):=by
 by_cases h0:s.size=0
 ·obtain rfl:=tS h0
  rcases hb with ⟨rfl,rfl,rfl,rfl,-,-⟩|⟨rfl,rfl,rfl,rfl,-,-⟩|⟨rfl,rfl,rfl,rfl,-,-⟩|⟨rfl,rfl,rfl,rfl,-,-⟩|⟨rfl,rfl,rfl,rfl,-,-⟩
  all_goals
   go_enter Tryz.func191,Tryz.ntmps191
   go_wp2
   go_ret2
   exact PU.bad _ 2 (zE _ _) (.inr rfl) (.inl h0)
 have HK:=al hb.pk
 have e0:=tT h0
 have lJ:=Lib.run_convert_string_bytes (P:=Tryz.prog) W 9 58 5 s (u:=.string) Tryz.underlying9 Tryz.underlying58 Tryz.underlying5
 have hB:∀(j x:Nat),(aI s)[j]?=some x→(Lib.bytesWorld W 5 s).cell? ⟨W.heap.size,j,none⟩=some (.int .u8 (x:Int)):=fun j x hx=>by
  rw[Lib.bytesWorld_cell W 5 s j (by have:=(zB hx).1;rwa [aY] at this),D9 s j x hx]
 have NQ:Below W.heap.size W (Lib.bytesWorld W 5 s):=Lib.bytesWorld_below W 5 s
 obtain ⟨W1,ZE⟩:∃W1,W1=Lib.bytesWorld W 5 s:=⟨_,rfl⟩
 rw[←ZE] at lJ hB NQ
 have uQ:=al NQ
 have HB:=al hB
 clear ZE NQ hB
 rcases hb with ⟨rfl,rfl,rfl,rfl,-,-⟩|⟨rfl,rfl,rfl,rfl,-,-⟩|⟨rfl,rfl,rfl,rfl,-,-⟩|⟨rfl,rfl,rfl,rfl,-,-⟩|⟨rfl,rfl,rfl,rfl,-,-⟩
 all_goals
  go_enter Tryz.func191,Tryz.ntmps191
  go_wp2
  clear lJ
  go_loopg [12,13,15,16,17,101] s.size (fun gk v12 ML _ _ _ MM wr=>∃(k acc:Nat) (a:Int),v12=.bool false∧ML=.int .u64 a∧MM=.int .i64 (k:Int)∧k≤s.size∧gk=s.size-k∧wr=W1∧Hid (a=(acc:Int)∧acc≤M∧bT B M (aI s) 0=bT B M ((aI s).drop k) acc))
  case atStart=>exact ⟨0,0,0,rfl,rfl,rfl,by omega,rfl,rfl,rfl,by omega,rfl⟩
  case round =>
   obtain ⟨k,acc,a,rfl,rfl,rfl,hk,aU,rfl,hh⟩:=hrel
   obtain ⟨ha,fQ,bF⟩:=ab hh
   have bz:=al aU
   clear hh aU
   have a0:0≤a:=by omega
   have a1:=(ab HK).k8 a acc ha fQ
   by_cases H6:k<s.size
   ·obtain ⟨x,hx,cZ,gx⟩:=cd s k H6
    have Ma:=ab HB k x hx
    have ff:(aI s).drop k=x::(aI s).drop (k+1):=by
     obtain ⟨hl,lP⟩:=zB hx
     rw[List.drop_eq_getElem_cons hl,lP]
    rw[ff] at bF
    clear ff hx gx
    have gQ:=al bF
    clear bF
    go_upto_block 5 with fail
    go_cut [12,16,101] from 101 to 163 (fun v12 v16 MM wc=>∃dn:Nat,v12=.bool false∧v16=.int .u8 (dn:Int)∧MM=.int .i64 (k:Int)∧wc=wr∧dn<36∧Hid (yb x=some dn))
    case first =>
     clear ha fQ a0 a1
     by_cases hd:48≤x∧x≤57
     ·have Hv:Hid (yb x=some (x-48)):=by unfold yb;rw[if_pos hd];rfl
      obtain ⟨d1,d2⟩:=hd
      have Pp:=fZ (c:=x) (k:=95) (by omega);have b1:=fg (c:=x) (k:=48) (by omega);have b2:=Aa (c:=x) (k:=57) (by omega)
      go_wp2
      go_meet
      case rel=>exact ⟨x-48,rfl,by go_num,rfl,rfl,by omega,Hv⟩
     ·obtain ⟨lx,Cj⟩:∃lx,lx=low x:=⟨_,rfl⟩
      have xR:=fun w=>Ew w x cZ
      simp only[←Cj] at xR
      by_cases hu:65≤x∧x≤90
      ·have Hv:Hid (yb x=some (x-55)):=by unfold yb;rw[if_neg hd,if_pos hu];rfl
       have dD:=M' hu.1 hu.2
       rw[←Cj] at dD
       obtain ⟨u1,u2⟩:=hu
       have Pp:=fZ (c:=x) (k:=95) (by omega);have b1:=fg (c:=x) (k:=48) (by omega);have b2:=iz (c:=x) (k:=57) (by omega)
       have l1:=fg (c:=lx) (k:=97) (by omega);have l2:=Aa (c:=lx) (k:=122) (by omega)
       have l3:97≤lx:=by omega
       have l4:lx≤122:=by omega
       clear Cj hd
       go_wp2_with (go_at_call 203;refine (xR _).mono ?_;rintro e w' ⟨rfl,rfl⟩)
       go_meet
       case rel=>exact ⟨x-55,rfl,by congr 1;omega,rfl,rfl,by omega,Hv⟩
      ·by_cases hl:97≤x∧x≤122
       ·have Hv:Hid (yb x=some (x-87)):=by unfold yb;rw[if_neg hd,if_neg hu,if_pos hl];rfl
        have dD:=GI hl.1 hl.2
        rw[←Cj] at dD
        obtain ⟨u1,u2⟩:=hl
        have Pp:=fZ (c:=x) (k:=95) (by omega);have b1:=fg (c:=x) (k:=48) (by omega);have b2:=iz (c:=x) (k:=57) (by omega)
        have l1:=fg (c:=lx) (k:=97) (by omega);have l2:=Aa (c:=lx) (k:=122) (by omega)
        have l3:97≤lx:=by omega
        have l4:lx≤122:=by omega
        clear Cj hd hu
        go_wp2_with (go_at_call 203;refine (xR _).mono ?_;rintro e w' ⟨rfl,rfl⟩)
        go_meet
        case rel=>exact ⟨x-87,rfl,by congr 1;omega,rfl,rfl,by omega,Hv⟩
       ·have hv:yb x=none:=by unfold yb;rw[if_neg hd,if_neg hu,if_neg hl]
        have dD:=GH cZ hu hl
        rw[←Cj] at dD
        have hn:bT B M (aI s) 0=none:=by rw[ab gQ];simp only[bT,hv]
        have Hn:=al hn
        clear hn
        have PI:x<48∨57<x:=by omega
        clear Cj hd hu hl hv
        by_cases x95:x=95
        ·have Pp:((x:Int)==95)=true:=by simp;omega
         have b1:=fg (c:=x) (k:=48) (by omega);have b2:=iz (c:=x) (k:=57) (by omega)
         clear PI x95
         rcases dD with dD|dD
         ·have l1:=kS (c:=lx) (k:=97) (by omega)
          go_wp2_with (go_at_call 203;refine (xR _).mono ?_;rintro e w' ⟨rfl,rfl⟩)
          go_ret2
          exact PU.bad _ 2 (ab uQ) (.inr rfl) (.inr (ab Hn))
         ·have l1:=fg (c:=lx) (k:=97) (by omega);have l2:=iz (c:=lx) (k:=122) (by omega)
          go_wp2_with (go_at_call 203;refine (xR _).mono ?_;rintro e w' ⟨rfl,rfl⟩)
          go_ret2
          exact PU.bad _ 2 (ab uQ) (.inr rfl) (.inr (ab Hn))
        ·have Pp:=fZ (c:=x) (k:=95) (by omega)
         rcases PI with PI|PI
         ·have b1:=kS (c:=x) (k:=48) (by omega)
          rcases dD with dD|dD
          ·have l1:=kS (c:=lx) (k:=97) (by omega)
           go_wp2_with (go_at_call 203;refine (xR _).mono ?_;rintro e w' ⟨rfl,rfl⟩)
           go_ret2
           exact PU.bad _ 2 (ab uQ) (.inr rfl) (.inr (ab Hn))
          ·have l1:=fg (c:=lx) (k:=97) (by omega);have l2:=iz (c:=lx) (k:=122) (by omega)
           go_wp2_with (go_at_call 203;refine (xR _).mono ?_;rintro e w' ⟨rfl,rfl⟩)
           go_ret2
           exact PU.bad _ 2 (ab uQ) (.inr rfl) (.inr (ab Hn))
         ·have b1:=fg (c:=x) (k:=48) (by omega);have b2:=iz (c:=x) (k:=57) (by omega)
          rcases dD with dD|dD
          ·have l1:=kS (c:=lx) (k:=97) (by omega)
           go_wp2_with (go_at_call 203;refine (xR _).mono ?_;rintro e w' ⟨rfl,rfl⟩)
           go_ret2
           exact PU.bad _ 2 (ab uQ) (.inr rfl) (.inr (ab Hn))
          ·have l1:=fg (c:=lx) (k:=97) (by omega);have l2:=iz (c:=lx) (k:=122) (by omega)
           go_wp2_with (go_at_call 203;refine (xR _).mono ?_;rintro e w' ⟨rfl,rfl⟩)
           go_ret2
           exact PU.bad _ 2 (ab uQ) (.inr rfl) (.inr (ab Hn))
    case rest =>
     obtain ⟨dn,rfl,rfl,rfl,rfl,hdn,Hv⟩:=hcut
     have bF:=ab gQ
     have hv:=ab Hv
     simp only[bT,hv] at bF
     clear gQ Hv
     by_cases h8:dn<B
     ·obtain ⟨i8,i9⟩:=(ab HK).k1 dn h8
      rcases (ab HK).k3 a acc dn ha with ⟨Q0,nh⟩|Q0
      ·first
       |(exfalso;omega)
       |(rw[if_neg (fun q=>nh q.2)] at bF
         have Hn:=al bF
         clear bF ha fQ hv nh h8
         go_wp2
         go_ret2
         exact PU.bad _ 1 (ab uQ) (.inl rfl) (.inr (ab Hn)))
      rcases (ab HK).k5 a acc dn ha Q0 hdn with ⟨iov,KJ,nh⟩|iov
      ·first
       |(exfalso;omega)
       |(rw[if_neg (fun q=>nh q.2)] at bF
         have Hn:=al bF
         clear bF ha fQ hv nh h8
         go_wp2
         go_ret2
         exact PU.bad _ 1 (ab uQ) (.inl rfl) (.inr (ab Hn)))
      rcases (ab HK).k7 a acc dn ha with ⟨imx,VZ⟩|⟨imx,nh⟩
      ·have HN:=al (show _∧_∧bT B M (aI s) 0=bT B M ((aI s).drop (k+1)) (acc*B+dn) from ⟨(ab HK).k6 a acc dn ha,VZ,by rw[bF,if_pos ⟨h8,VZ⟩]⟩)
       clear bF ha fQ hv VZ h8
       go_wp2
       go_roundg (s.size-(k+1))
       case measure=>have:=ab bz;omega
       case rel=>exact ⟨k+1,acc*B+dn,_,rfl,by go_num,by go_num,by omega,rfl,rfl,HN⟩
      ·rw[if_neg (fun q=>nh q.2)] at bF
       have Hn:=al bF
       clear bF ha fQ hv nh h8
       go_wp2
       go_ret2
       exact PU.bad _ 1 (ab uQ) (.inl rfl) (.inr (ab Hn))
     ·obtain ⟨i8,i9⟩:=(ab HK).k2 dn h8
      rw[if_neg (fun q=>h8 q.1)] at bF
      have Hn:=al bF
      clear bF ha fQ hv h8
      go_wp2
      go_ret2
      exact PU.bad _ 2 (ab uQ) (.inr rfl) (.inr (ab Hn))
   ·obtain rfl:k=s.size:=by omega
    have Ib:(aI s).drop s.size=[]:=List.drop_eq_nil_of_le (by rw[aY];omega)
    rw[Ib] at bF
    have Hd:Hid (bT B M (aI s) 0=some acc):=bF
    have Ha:=al ha
    clear bF Ib ha fQ
    go_wp2
    go_ret2
    rw[ab Ha]
    exact PU.WC acc (ab uQ) (by omega) (ab Hd)
end Go.Proofs.YtichhjfjcinjgaaGreatDoor

import Derived.Test.YtichhjfjcinjgaaGreatDoorM07
import Derived.Lib.Index
set_option maxHeartbeats 40000000
set_option maxRecDepth 100000
namespace Go.Proofs.YtichhjfjcinjgaaGreatDoor
open Go.RowKit
attribute [local go_sem ↓] Go.wp_at_zero Go.wp_at_succ
theorem vQ {W:World}{b:Nat}{s:ByteArray}{k vc:Nat}{va:Option Addr}{kind n e:Int} (h:cK W b s k (.slice va 16383 vc)) :
  Calls Tryz.prog 137 #[.pointer (some ⟨b,0,none⟩),.int .i64 kind,.int .i64 n,.int .i64 e] W fun o w=>o=.returned (.int .i64 45)∧w=W:=by
 have c2:=h.c2
 clear h
 go_enter Tryz.func137,Tryz.ntmps137
 go_wp2
 go_ret
 exact ⟨rfl,rfl⟩
theorem FW {W:World}{b:Nat}{s:ByteArray}{k m vc:Nat}{va:Option Addr}{kind n e:Int} (h:cK W b s k (.slice va m vc)) (hm:m<16383) (he:e≠0) :
  Calls Tryz.prog 137 #[.pointer (some ⟨b,0,none⟩),.int .i64 kind,.int .i64 n,.int .i64 e] W fun o w=>o=.returned (.int .i64 e)∧w=W:=by
 have c2:=h.c2
 have q1:((m:Int)==16383)=false:=beq_eq_false_iff_ne.2 (by omega)
 have q2:(e != 0)=true:=by simpa using he
 clear h
 go_enter Tryz.func137,Tryz.ntmps137
 go_wp2
 go_ret
 exact ⟨rfl,rfl⟩
theorem cK.at {W:World}{b:Nat}{s:ByteArray}{k:Nat}{v:Value} (h:cK W b s k v) (j:Nat):cK (W.setCell ⟨b,1,none⟩ (.int .i64 (j:Int))) b s j v:=heap_setCell_same _ b 1 _ _ _ h
theorem Bj {W:World}{b:Nat}{s:ByteArray}{k:Nat}{v:Value} (h:cK W b s k v) (hk:k<s.size) (hs:s.size≤65536) :
  Calls Tryz.prog 138 #[.pointer (some ⟨b,0,none⟩)] W fun e w=>e=.returned (.int .i64 0)∧w=W.setCell ⟨b,1,none⟩ (.int .i64 ((k+1:Nat):Int)):=by
 have c1:=h.c1
 have f1:=ig 1 h
 clear h
 go_enter Tryz.func138,Tryz.ntmps138
 go_wp2
 go_ret
 exact ⟨rfl,rfl⟩
theorem bw (s:ByteArray) (a b:Nat):aI (s.extract a b)=((aI s).drop a).take (b-a):=by
 unfold aI
 rw[Lib.extract_data]
 simp[List.map_take,List.map_drop]
theorem F1 {s t:ByteArray} (h:aI s=aI t):s=t:=by
 have h1:s.data.toList=t.data.toList:=by
  unfold aI at h
  exact (List.map_inj_right (fun a b e=>UInt8.toNat_inj.1 e)).1 h
 cases s with|mk d=>cases t with|mk e=>cases d;cases e;simp_all
theorem zR (s t:ByteArray):(s.toList==t.toList)=true↔aI s=aI t:=by
 rw[ByteArray.toList_eq,ByteArray.toList_eq]
 constructor
 ·intro h
  unfold aI
  rw[eq_of_beq h]
 ·intro h
  rw[F1 h]
  simp
def yg (s p:ByteArray):Prop:=(aI s).take p.size=aI p
open Classical in
noncomputable def preB (s p:ByteArray):Bool:=decide (yg s p)
theorem Ea {s p:ByteArray} (h:yg s p):preB s p=true:=by unfold preB;simp[h]
theorem BA {s p:ByteArray} (h:¬yg s p):preB s p=false:=by unfold preB;simp[h]
theorem tZ (W:World) (s p:ByteArray):Calls Tryz.prog 166 #[.string s,.string p] W fun e w=>e=.returned (.bool (preB s p))∧w=W:=by
 by_cases hl:p.size≤s.size
 ·have e1:decide ((p.size:Int)≤(s.size:Int))=true:=by simp;omega
  have hx:=bw s 0 p.size
  have Ru:=zR (s.extract 0 p.size) p
  have Hx:=al hx
  have Su:=al Ru
  clear hx Ru
  go_enter Tryz.func166,Tryz.ntmps166
  go_wp2
  go_ret
  refine ⟨?_,rfl⟩
  have:((s.extract 0 p.size).toList==p.toList)=preB s p:=by
   by_cases KD:yg s p
   ·rw[Ea KD]
    refine (ab Su).2 ?_
    rw[ab Hx]
    simpa[yg] using KD
   ·rw[BA KD,←Bool.not_eq_true]
    intro h
    have:=(ab Su).1 h
    rw[ab Hx] at this
    exact KD (by simpa[yg] using this)
  rw[←this]
  rfl
 ·have e1:decide ((p.size:Int)≤(s.size:Int))=false:=by simp;omega
  have hn:¬yg s p:=fun h=>by
   have:=congrArg List.length h
   rw[List.length_take,aX,aX] at this
   omega
  rw[BA hn]
  go_enter Tryz.func166,Tryz.ntmps166
  go_wp2
  go_ret
  exact ⟨rfl,rfl⟩
theorem fH (W:World) (s p:ByteArray):Calls Tryz.prog 126 #[.string s,.string p] W fun e w=>e=.returned (.bool (preB s p))∧w=W:=by
 go_enter Tryz.func126,Tryz.ntmps126
 go_wp2_with fail
 refine (tZ W s p).mono ?_
 rintro e w' ⟨rfl,he⟩
 obtain rfl:W=w':=he.symm
 go_wp2
 go_ret
 exact ⟨rfl,rfl⟩
theorem wO (s:ByteArray):∀(n k:Nat),(∀j,j<n→k+j<s.size∧(isLet (aD s (k+j))∨cX (aD s (k+j))))→(k+n<s.size→¬(isLet (aD s (k+n))∨cX (aD s (k+n))))→cJ s k=k+n
 |0,k,_,h2=>by
  rw[cJ,dif_neg (fun q=>h2 q.1 q.2)]
  rfl
 |n+1,k,h1,h2=>by
  have h0:=h1 0 (by omega)
  rw[Nat.add_zero] at h0
  rw[cJ,dif_pos h0,wO s n (k+1) (fun j hj=>?_) (fun h=>?_)]
  ·omega
  ·have:=h1 (j+1) (by omega)
   rwa [show k+(j+1)=k+1+j by omega] at this
  ·rw[show k+1+n=k+(n+1) by omega] at h ⊢
   exact h2 h
theorem mu (s:ByteArray) (k:Nat) (h:k<s.size):(aI s)[k]?=some (aD s k):=by
 unfold aI aD
 rw[dif_pos h,List.getElem?_map,Array.getElem?_toList,Array.getElem?_eq_getElem (by show k<s.size;exact h)]
 rfl
theorem uz {s:ByteArray}{k n:Nat} (hk:k≤s.size) (hn:n≤(s.extract k s.size).size) (h1:∀j x,j<n→(aI (s.extract k s.size))[j]?=some x→isLet x∨cX x) (h2:∀x,(aI (s.extract k s.size))[n]?=some x→¬(isLet x∨cX x)):cJ s k=k+n∧k+n≤s.size:=by
 have lz:(s.extract k s.size).size=s.size-k:=by rw[ByteArray.size_extract];omega
 have he:∀j,k+j<s.size→(aI (s.extract k s.size))[j]?=some (aD s (k+j)):=fun j hj=>by
  rw[bw,List.getElem?_take,if_pos (by omega),List.getElem?_drop]
  exact mu s (k+j) hj
 refine ⟨wO s n k (fun j hj=>⟨by omega,h1 j _ hj (he j (by omega))⟩) (fun h=>h2 _ (he n h)),by omega⟩
end Go.Proofs.YtichhjfjcinjgaaGreatDoor
namespace Go.Proofs.YtichhjfjcinjgaaGreatDoor
open Go.RowKit
def wv (l:List Nat):Option Nat :=
 if l.take 2=[48,120]∨l.take 2=[48,88] then (if l.length=2 then none else bS 16 9223372036854775807 (l.drop 2) 0)
 else if l.take 1=[48] then bS 8 9223372036854775807 l 0 else if l=[] then none else bS 10 9223372036854775807 l 0
theorem sj {B M:Nat}:∀(l:List Nat) (n u:Nat),n≤M→bS B M l n=some u→u≤M
 |[],n,u,hn,h=>by
  have:n=u:=by simpa[bS] using h
  omega
 |c::r,n,u,hn,h=>by
  simp only[bS] at h
  split at h
  ·cases h
  ·split at h
   ·rename_i hc
    exact sj r _ u hc.2 h
   ·cases h
theorem CF {l:List Nat}{u:Nat} (h:wv l=some u):u≤9223372036854775807:=by
 unfold wv at h
 split at h
 ·split at h
  ·cases h
  ·exact sj _ 0 u (by decide) h
 ·split at h
  ·exact sj _ 0 u (by decide) h
  ·split at h
   ·cases h
   ·exact sj _ 0 u (by decide) h
def cn (s:ByteArray) (k:Nat):Nat×Nat×Nat :=
 if isLet (aD s k) then (1,cJ s k,0)
 else if cX (aD s k) then (if wv (aI (s.extract k (cJ s k)))=none then (0,0,41) else (2,cJ s k,0))
 else if aD s k=39∨aD s k=34 then (match dW s (aD s k) (k+1) with|none=>(0,0,42)|some (_,e)=>(3,e,0))
 else if jL (aD s k) then (4,k+1,0) else (0,0,40)
structure Tok where
 kind:Nat
 place:Nat
 text:ByteArray
def uF (t:Tok):List Tok ⊕ (Nat×Nat)→List Tok ⊕ (Nat×Nat)
 |.inl l=>.inl (t::l)
 |.inr e=>.inr e
def gY (p:List Tok):List Tok ⊕ (Nat×Nat)→List Tok ⊕ (Nat×Nat)
 |.inl l=>.inl (p++l)
 |.inr e=>.inr e
theorem lb (x:List Tok ⊕ (Nat×Nat)):gY [] x=x:=by cases x<;>rfl
theorem Ap (p:List Tok) (t:Tok) (x:List Tok ⊕ (Nat×Nat)):gY p (uF t x)=gY (p++[t]) x:=by
 cases x with
 |inl l=>simp[gY,uF]
 |inr e=>rfl
def jB (s:ByteArray):Nat→Nat→Nat→(List Tok ⊕ (Nat×Nat))
 |0,_,_=>.inr (0,0)
 |f+1,k,n=>if (bj s s.size k).2=false then .inr ((bj s s.size k).1,43)
  else if (bj s s.size k).1=s.size then .inl [⟨5,(bj s s.size k).1,⟨#[]⟩⟩]
  else if n=16383 then .inr ((bj s s.size k).1,45)
  else if (cn s (bj s s.size k).1).2.2=0 then
   uF ⟨(cn s (bj s s.size k).1).1,(bj s s.size k).1,s.extract (bj s s.size k).1 (cn s (bj s s.size k).1).2.1⟩ (jB s f (cn s (bj s s.size k).1).2.1 (n+1))
  else .inr ((bj s s.size k).1,(cn s (bj s s.size k).1).2.2)
theorem zk (s:ByteArray):∀(f k:Nat),k≤s.size→k≤(bj s f k).1∧(bj s f k).1≤s.size:=by
 intro f
 induction f with
 |zero=>intro k hk;exact ⟨zD _,hk⟩
 |succ f ih =>
  intro k hk
  rw[bj]
  split
  ·split
   ·have:=ih (k+1) (by omega);omega
   ·split
    ·rename_i h h1 h2
     have a:=sq s k
     have b:=sn s k hk
     have:=ih _ b;omega
    ·split
     ·split
      ·rename_i h5
       have a:=gT s (k+2)
       have:=ih _ h5;omega
      ·exact ⟨zD _,hk⟩
     ·exact ⟨zD _,hk⟩
  ·exact ⟨zD _,hk⟩
theorem wP {s:ByteArray}{k:Nat} (hk:k<s.size) (h:isLet (aD s k)∨cX (aD s k)):k<cJ s k:=by
 rw[cJ,dif_pos ⟨hk,h⟩]
 have:=wQ s (k+1)
 omega
theorem oc {s:ByteArray}{k:Nat} (hk:k<s.size) (h:(cn s k).2.2=0):k<(cn s k).2.1∧(cn s k).2.1≤s.size:=by
 unfold cn at h ⊢
 by_cases h1:isLet (aD s k)
 ·rw[if_pos h1]
  exact ⟨wP hk (.inl h1),pI s k (by omega)⟩
 ·rw[if_neg h1] at h ⊢
  by_cases h2:cX (aD s k)
  ·rw[if_pos h2] at h ⊢
   split at h
   ·cases h
   ·rename_i h3
    rw[if_neg h3]
    exact ⟨wP hk (.inr h2),pI s k (by omega)⟩
  ·rw[if_neg h2] at h ⊢
   by_cases h3:aD s k=39∨aD s k=34
   ·rw[if_pos h3] at h ⊢
    split at h
    ·cases h
    ·rename_i l e he
     have:=CH _ (k+1) l e (zD _) he
     show k<e∧e≤s.size
     omega
   ·rw[if_neg h3] at h ⊢
    split at h
    ·rename_i h4
     rw[if_pos h4]
     show k<k+1∧k+1≤s.size
     omega
    ·cases h
theorem vO (s:ByteArray):∀(f f' k n:Nat),k≤s.size→s.size-k<f→s.size-k<f'→jB s f k n=jB s f' k n:=by
 intro f
 induction f with
 |zero=>intro f' k n _ hf;omega
 |succ f ih =>
  intro f' k n hk hf LW
  cases f' with
  |zero=>omega
  |succ f' =>
   rw[jB,jB]
   have hp:=zk s s.size k hk
   split
   ·rfl
   ·split
    ·rfl
    ·split
     ·rfl
     ·split
      ·rename_i h1 h2 h3 h4
       have:=oc (by omega) h4
       rw[ih f' _ (n+1) this.2 (by omega) (by omega)]
      ·rfl
def tk (s:ByteArray) (k n:Nat):List Tok ⊕ (Nat×Nat):=jB s (s.size+1) k n
theorem CK {s:ByteArray}{k k':Nat} (n:Nat) (h:bj s s.size k=bj s s.size k'):tk s k n=tk s k' n:=by
 unfold tk
 rw[jB,jB,h]
theorem Gk (s:ByteArray):bj s s.size s.size=(s.size,true):=by
 cases hz:s.size with
 |zero=>rfl
 |succ n=>rw[bj,if_neg (by omega)]
theorem MG (s:ByteArray) (n:Nat):tk s s.size n=.inl [⟨5,s.size,⟨#[]⟩⟩]:=by
 unfold tk
 rw[jB,Gk,if_neg (by simp),if_pos rfl]
theorem FR {s:ByteArray}{k n:Nat} (h:bj s s.size k=(k,false)):tk s k n=.inr (k,43):=by
 unfold tk
 rw[jB,h,if_pos rfl]
theorem CL {s:ByteArray}{k:Nat} (hk:k<s.size) (h:bj s s.size k=(k,true)):tk s k 16383=.inr (k,45):=by
 unfold tk
 rw[jB,h,if_neg (by simp),if_neg (by show ¬k=s.size;omega),if_pos rfl]
theorem MF {s:ByteArray}{k n c:Nat} (hk:k<s.size) (h:bj s s.size k=(k,true)) (hn:n<16383) (h1:(cn s k).2.2=c) (hc:c≠0):tk s k n=.inr (k,c):=by
 unfold tk
 rw[jB,h,if_neg (by simp),if_neg (by show ¬k=s.size;omega),if_neg (by omega)]
 show (if (cn s k).2.2=0 then _ else Sum.inr (k,(cn s k).2.2))=_
 rw[h1,if_neg hc]
theorem ME {s:ByteArray}{k n t e:Nat} (hk:k<s.size) (h:bj s s.size k=(k,true)) (hn:n<16383) (h1:cn s k=(t,e,0)):tk s k n=uF ⟨t,k,s.extract k e⟩ (tk s e (n+1)):=by
 have hle:=oc hk (by rw[h1])
 rw[h1] at hle
 unfold tk
 rw[jB,h,if_neg (by simp),if_neg (by show ¬k=s.size;omega),if_neg (by omega)]
 show (if (cn s k).2.2=0 then uF ⟨(cn s k).1,k,s.extract k (cn s k).2.1⟩ (jB s s.size (cn s k).2.1 (n+1)) else _)=_
 rw[h1,if_pos rfl]
 rw[vO s s.size (s.size+1) e (n+1) hle.2 (by have:=hle.1;simp at this;omega) (by omega)]
theorem kA {s:ByteArray}{k:Nat} (hk:k<s.size):bj s s.size k=bj s (s.size-k-1+1) k:=eA s _ _ k (by omega) (by omega)
theorem BD {s:ByteArray}{k:Nat} (hk:k<s.size) (h:lq (aD s k)):bj s s.size k=bj s s.size (k+1):=by
 rw[kA hk,bj,if_pos hk,if_pos h]
 exact eA s _ _ _ (by omega) (by omega)
theorem Ee {s:ByteArray}{k:Nat} (h:k+2≤s.size) (h1:aD s k=47) (h2:aD s (k+1)=47):bj s s.size k=bj s s.size (il s k):=by
 have hk:k<s.size:=by omega
 have VT:=sk hk h1
 rw[kA hk,bj,if_pos hk,if_neg (by rw[h1];decide),if_pos ⟨h,h1,h2⟩]
 exact eA s _ _ _ (by omega) (by omega)
theorem Ed {s:ByteArray}{k:Nat} (h:k+2≤s.size) (h1:aD s k=47) (h2:aD s (k+1)=42) (h3:dq s (k+2)+2≤s.size):bj s s.size k=bj s s.size (dq s (k+2)+2):=by
 have hk:k<s.size:=by omega
 have:=gT s (k+2)
 rw[kA hk,bj,if_pos hk,if_neg (by rw[h1];decide),if_neg (by omega),if_pos ⟨h,h1,h2⟩,if_pos h3]
 exact eA s _ _ _ (by omega) (by omega)
theorem BC {s:ByteArray}{k:Nat} (h:k+2≤s.size) (h1:aD s k=47) (h2:aD s (k+1)=42) (h3:¬dq s (k+2)+2≤s.size):bj s s.size k=(k,false):=by
 have hk:k<s.size:=by omega
 rw[kA hk,bj,if_pos hk,if_neg (by rw[h1];decide),if_neg (by omega),if_pos ⟨h,h1,h2⟩,if_neg h3]
theorem vW {s:ByteArray}{k:Nat} (hk:k<s.size) (h:¬lq (aD s k)) (h1:¬(k+2≤s.size∧aD s k=47∧aD s (k+1)=47)) (h2:¬(k+2≤s.size∧aD s k=47∧aD s (k+1)=42)):bj s s.size k=(k,true):=by
 rw[kA hk,bj,if_pos hk,if_neg h,if_neg h1,if_neg h2]
theorem jI {s:ByteArray}{k:Nat} (hk:k<s.size) (h:¬lq (aD s k)) (h1:¬aD s k=47):bj s s.size k=(k,true):=vW hk h (fun q=>h1 q.2.1) (fun q=>h1 q.2.1)
noncomputable def jA (s:ByteArray):List Tok ⊕ (Nat×Nat):=if 65536<s.size then .inr (0,2) else if 0≤cW s 0 then .inr ((cW s 0).toNat,44) else tk s 0 0
theorem xx (s:ByteArray) (k j:Nat) (h1:k≤j) (h2:j<il s k):¬aD s j=10:=by
 rw[il] at h2
 split at h2
 ·rename_i h
  by_cases e:j=k
  ·subst e;exact h.2
  ·exact xx s (k+1) j (by omega) h2
 ·omega
termination_by s.size-k
decreasing_by omega
theorem zx (s:ByteArray) (k:Nat) (h:il s k<s.size):aD s (il s k)=10:=by
 rw[il] at h ⊢
 split at h
 ·rename_i h1
  rw[dif_pos h1]
  exact zx s (k+1) h
 ·rename_i h1
  rw[dif_neg h1]
  exact Classical.byContradiction fun e=>h1 ⟨h,e⟩
termination_by s.size-k
decreasing_by omega
theorem pq (s:ByteArray) (k j:Nat) (h1:k≤j) (h2:j<dq s k):¬(aD s j=42∧aD s (j+1)=47):=by
 rw[dq] at h2
 split at h2
 ·rename_i h
  by_cases e:j=k
  ·subst e;exact h.2
  ·exact pq s (k+1) j (by omega) h2
 ·omega
termination_by s.size-k
decreasing_by omega
theorem tv (s:ByteArray) (k:Nat) (h:dq s k+2≤s.size):aD s (dq s k)=42∧aD s (dq s k+1)=47:=by
 rw[dq] at h ⊢
 split at h
 ·rename_i h1
  rw[dif_pos h1]
  exact tv s (k+1) h
 ·rename_i h1
  rw[dif_neg h1]
  exact Classical.byContradiction fun e=>h1 ⟨h,e⟩
termination_by s.size-k
decreasing_by omega
theorem jP {s:ByteArray}{k j:Nat} (h:k+j<s.size):aD (s.extract k s.size) j=aD s (k+j):=by
 have hz:j<(s.extract k s.size).size:=by rw[ByteArray.size_extract];omega
 have e1:=mu _ j hz
 rw[bw,List.getElem?_take,if_pos (by omega),List.getElem?_drop,mu s (k+j) h] at e1
 exact (zC e1).symm
theorem Nd {s:ByteArray}{k:Nat} (hk:k≤s.size):firstIdx (s.extract k s.size) 10=if il s k<s.size then ((il s k-k:Nat):Int) else -1:=by
 have hz:(s.extract k s.size).size=s.size-k:=by rw[ByteArray.size_extract];omega
 have hb:∀i,i<s.size-k→(((s.extract k s.size)[i]! == (10:UInt8))=true↔aD s (k+i)=10):=fun i hi=>by
  have eO:i<(s.extract k s.size).size:=by omega
  rw[getElem!_pos _ i eO,←jP (by omega),aD,dif_pos eO]
  constructor
  ·intro h;rw[eq_of_beq h];rfl
  ·intro h;exact beq_iff_eq.2 (UInt8.toNat_inj.1 h)
 have KK:=sq s k
 unfold firstIdx
 rw[hz]
 by_cases h:il s k<s.size
 ·rw[if_pos h]
  have hf:(List.range (s.size-k)).find? (fun i=>(s.extract k s.size)[i]! == (10:UInt8))=some (il s k-k):=by
   refine List.find?_range_eq_some.2 ⟨(hb _ (by omega)).2 ?_,List.mem_range.2 (by omega),fun j hj=>?_⟩
   ·rw[show k+(il s k-k)=il s k by omega]
    exact zx s k h
   ·have:=xx s k (k+j) (by omega) (by omega)
    rw[Bool.not_eq_true',←Bool.not_eq_true]
    exact fun q=>this ((hb j (by omega)).1 q)
  rw[hf]
 ·rw[if_neg h]
  have hf:(List.range (s.size-k)).find? (fun i=>(s.extract k s.size)[i]! == (10:UInt8))=none:=by
   refine List.find?_range_eq_none.2 fun j hj=>?_
   have:=xx s k (k+j) (by omega) (by omega)
   rw[Bool.not_eq_true',←Bool.not_eq_true]
   exact fun q=>this ((hb j hj).1 q)
  rw[hf]
theorem tH {s:ByteArray}{k j:Nat} (hk:k≤s.size):Lib.occAt (s.extract k s.size).data.toList [42,47] j=true↔k+j+2≤s.size∧aD s (k+j)=42∧aD s (k+j+1)=47:=by
 have hl:(s.extract k s.size).data.toList.length=s.size-k:=by
  show (s.extract k s.size).size=_
  rw[ByteArray.size_extract];omega
 by_cases hr:k+j+2≤s.size
 ·have e:((s.extract k s.size).data.toList.drop j).take 2=(s.extract (k+j) (k+j+2)).data.toList:=by
   rw[Lib.extract_data,Lib.extract_data,List.drop_take,List.take_take,List.drop_drop,Nat.min_eq_left (by omega)]
   congr 1
   omega
  rw[Lib.occAt_iff_take _ _ _ (by rw[hl];show j+2≤_;omega)]
  show ((((s.extract k s.size).data.toList.drop j).take 2)==[42,47])=true↔_
  rw[e,beq_iff_eq,FN hr]
  exact ⟨fun q=>⟨hr,q⟩,fun q=>q.2⟩
 ·refine ⟨fun q=>?_,fun q=>absurd q.1 hr⟩
  rcases Lib.occAt_room q with h|h
  ·rw[hl] at h
   exact absurd (show k+j+2≤s.size by have:([42,47]:List UInt8).length=2:=rfl;omega) hr
  ·cases h
theorem GH {s:ByteArray}{k:Nat} (hk:k≤s.size):Lib.index (s.extract k s.size).data.toList [42,47]=if dq s k+2≤s.size then ((dq s k-k:Nat):Int) else -1:=by
 have hl:(s.extract k s.size).data.toList.length=s.size-k:=by
  show (s.extract k s.size).size=_
  rw[ByteArray.size_extract];omega
 have KK:=gT s k
 by_cases h:dq s k+2≤s.size
 ·rw[if_pos h]
  refine Lib.index_first (by rw[hl];omega) ((tH hk).2 ?_) (fun j hj=>?_)
  ·rw[show k+(dq s k-k)=dq s k by omega]
   exact ⟨h,tv s k h⟩
  ·rw[←Bool.not_eq_true]
   exact fun q=>pq s k (k+j) (by omega) (by omega) ((tH hk).1 q).2
 ·rw[if_neg h]
  refine Lib.index_none fun j _=>?_
  rw[←Bool.not_eq_true]
  intro q
  have q2:=(tH hk).1 q
  by_cases hj:k+j<dq s k
  ·exact pq s k (k+j) (by omega) hj q2.2
  ·omega
theorem C6 {s:ByteArray}{k:Nat} (hk:k≤s.size) (a b:UInt8):yg (s.extract k s.size) ⟨#[a,b]⟩↔k+2≤s.size∧aD s k=a.toNat∧aD s (k+1)=b.toNat:=by
 unfold yg
 show (aI (s.extract k s.size)).take 2=[a.toNat,b.toNat]↔_
 rw[bw]
 by_cases hr:k+2≤s.size
 ·have e:(((aI s).drop k).take (s.size-k)).take 2=[aD s k,aD s (k+1)]:=by
   rw[List.take_take,Nat.min_eq_left (by omega)]
   apply List.ext_getElem?
   intro i
   rw[List.getElem?_take]
   match i with
   |0=>rw[if_pos (by omega),List.getElem?_drop,Nat.add_zero,mu s k (by omega)];rfl
   |1=>rw[if_pos (by omega),List.getElem?_drop,mu s (k+1) (by omega)];rfl
   |i+2=>rw[if_neg (by omega)];rfl
  rw[e]
  simp[hr]
 ·refine ⟨fun q=>?_,fun q=>absurd q.1 hr⟩
  have:=congrArg List.length q
  rw[List.length_take,List.length_take,List.length_drop,aX] at this
  simp at this
  omega
end Go.Proofs.YtichhjfjcinjgaaGreatDoor
namespace Go.Proofs.YtichhjfjcinjgaaGreatDoor
open Go.RowKit
attribute [local go_sem ↓] Go.wp_at_zero Go.wp_at_succ
def dS (ts:List Tok):List Value:=ts.flatMap fun t=>[.int .i64 (t.kind:Int),.int .i64 (t.place:Int),.string t.text]
theorem kU (a b:List Tok):dS (a++b)=dS a++dS b:=by simp[dS]
structure eP (W:World) (B b:Nat) (s:ByteArray) (k n:Nat) (v:Value) (xs:List Value):Prop where
 sc:cK W b s k v
 lo:b<B
 hi:B≤W.heap.size
 row:W.ownsRow B 107 3 v n xs
 more:k<s.size
 size:s.size≤65536
 room:n≤16383
theorem eP.up {W w:World}{B b:Nat}{s:ByteArray}{k n:Nat}{v:Value}{xs:List Value} (h:eP W B b s k n v xs) (hb:Below W.heap.size W w):eP w B b s k n v xs:=⟨h.sc.up hb,h.lo,Nat.le_trans h.hi hb.size,LG h.row hb,h.more,h.size,h.room⟩
theorem eP.shape {W:World}{B b:Nat}{s:ByteArray}{k n:Nat}{v:Value}{xs:List Value} (h:eP W B b s k n v xs):∃a c,v=.slice a n c:=by
 obtain ⟨_,⟨e,h0⟩|⟨g,c,_,e,_⟩⟩:=h.row
 ·exact ⟨none,0,by rw[e,h0]⟩
 ·exact ⟨_,_,e⟩
def fZ (B b:Nat) (s:ByteArray) (k n:Nat) (xs:List Value) (W:World) (e:Ending) (w:World):Prop :=
 BX B b W w∧((e=.returned (.int .i64 0)∧∃(k':Nat) (ts:List Tok) (v':Value),cK w b s k' v'∧w.ownsRow B 107 3 v' (n+ts.length) (xs++dS ts)∧k<k'∧k'≤s.size∧n+ts.length≤16383∧tk s k n=gY ts (tk s k' (n+ts.length)))
  ∨ (∃(c:Nat) (v':Value),c≠0∧e=.returned (.int .i64 (c:Int))∧cK w b s k v'∧tk s k n=.inr (k,c)))
theorem fZ.ret {B b:Nat}{s:ByteArray}{k n:Nat}{xs:List Value}{W w:World}{e:Ending} (h:fZ B b s k n xs W e w):∃c:Int,e=.returned (.int .i64 c):=by
 obtain ⟨_,⟨rfl,_⟩|⟨c,_,_,rfl,_⟩⟩:=h
 ·exact ⟨0,rfl⟩
 ·exact ⟨(c:Int),rfl⟩
theorem fZ.from {B b:Nat}{s:ByteArray}{k n:Nat}{xs:List Value}{W W1 w:World}{e:Ending} (h:fZ B b s k n xs W1 e w) (hb:Below W.heap.size W W1) (hB:B≤W.heap.size):fZ B b s k n xs W e w:=⟨(BX.of hb hB).trans h.1,h.2⟩
theorem DX {W:World}{B b:Nat}{s:ByteArray}{k n c:Nat}{v:Value}{xs:List Value} (I:eP W B b s k n v xs) (hp:bj s s.size k=(k,true)) (ho:(cn s k).2.2=c) (hc:c≠0) (kind m:Int) :
  Calls Tryz.prog 137 #[.pointer (some ⟨b,0,none⟩),.int .i64 kind,.int .i64 m,.int .i64 (c:Int)] W (fZ B b s k n xs W):=by
 obtain ⟨va,vc,rfl⟩:=I.shape
 by_cases hn:n=16383
 ·subst hn
  refine (vQ I.sc).mono ?_
  rintro e w ⟨rfl,rfl⟩
  exact ⟨BX.refl _ _ _,.inr ⟨45,_,by decide,rfl,I.sc,CL I.more hp⟩⟩
 ·have Dj:n<16383:=by have:=I.room;omega
  refine (FW I.sc Dj (by omega)).mono ?_
  rintro e w ⟨rfl,rfl⟩
  exact ⟨BX.refl _ _ _,.inr ⟨c,_,hc,rfl,I.sc,MF I.more hp Dj ho hc⟩⟩
theorem FV {W:World}{B b:Nat}{s:ByteArray}{k n m t:Nat}{v:Value}{xs:List Value} (I:eP W B b s k n v xs) (hp:bj s s.size k=(k,true)) (ho:cn s k=(t,k+m,0)) :
  Calls Tryz.prog 137 #[.pointer (some ⟨b,0,none⟩),.int .i64 (t:Int),.int .i64 (m:Int),.int .i64 0] W (fZ B b s k n xs W):=by
 obtain ⟨va,vc,rfl⟩:=I.shape
 have hle:=oc I.more (by rw[ho])
 rw[ho] at hle
 replace hle:k<k+m∧k+m≤s.size:=hle
 by_cases hn:n=16383
 ·subst hn
  refine (vQ I.sc).mono ?_
  rintro e w ⟨rfl,rfl⟩
  exact ⟨BX.refl _ _ _,.inr ⟨45,_,by decide,rfl,I.sc,CL I.more hp⟩⟩
 ·have Dj:n<16383:=by have:=I.room;omega
  refine (FX I.sc I.lo I.hi I.row hle.2 I.size Dj).mono ?_
  rintro e w ⟨rfl,v',g1,g2,g3⟩
  refine ⟨g3,.inl ⟨rfl,k+m,[⟨t,k,s.extract k (k+m)⟩],v',g1,g2,hle.1,hle.2,by simp;omega,?_⟩⟩
  rw[ME I.more hp Dj ho]
  cases tk s (k+m) (n+1)<;>rfl
def W2 (Bi bi Ci Mi:Int) (B M:Nat):Prop:=(Bi=16∧bi=63∧Ci=1152921504606846976∧Mi=9223372036854775807∧B=16∧M=9223372036854775807)∨(Bi=10∧bi=63∧Ci=1844674407370955162∧Mi=9223372036854775807∧B=10∧M=9223372036854775807)∨(Bi=8∧bi=63∧Ci=2305843009213693952∧Mi=9223372036854775807∧B=8∧M=9223372036854775807)∨(Bi=16∧bi=8∧Ci=1152921504606846976∧Mi=255∧B=16∧M=255)∨(Bi=8∧bi=8∧Ci=2305843009213693952∧Mi=255∧B=8∧M=255)
structure PKx (Bi Ci Mi:Int) (B M:Nat):Prop where
 k1:∀d:Nat,d<B→(d:Int)<Bi∧decide (Bi≤(d:Int))=false
 k2:∀d:Nat,¬d<B→Bi≤(d:Int)∧decide (Bi≤(d:Int))=true
 k3:∀(a:Int) (acc d:Nat),a=(acc:Int)→Ci≤a∧¬acc*B+d≤M∨a<Ci
 k5:∀(a:Int) (acc d:Nat),a=(acc:Int)→a<Ci→d<36→(18446744073709551616≤a*Bi+(d:Int)∧IntKind.u64.wrap (a*Bi+(d:Int))=a*Bi+(d:Int)-18446744073709551616∧¬acc*B+d≤M)∨a*Bi+(d:Int)<18446744073709551616
 k6:∀(a:Int) (acc d:Nat),a=(acc:Int)→a*Bi+(d:Int)=((acc*B+d:Nat):Int)
 k7:∀(a:Int) (acc d:Nat),a=(acc:Int)→(a*Bi+(d:Int)≤Mi∧acc*B+d≤M)∨(Mi<a*Bi+(d:Int)∧¬acc*B+d≤M)
 k8:∀(a:Int) (acc:Nat),a=(acc:Int)→acc≤M→a≤Mi
theorem W2.pk {Bi bi Ci Mi:Int}{B M:Nat} (h:W2 Bi bi Ci Mi B M):PKx Bi Ci Mi B M:=by
 rcases h with ⟨rfl,rfl,rfl,rfl,rfl,rfl⟩|⟨rfl,rfl,rfl,rfl,rfl,rfl⟩|⟨rfl,rfl,rfl,rfl,rfl,rfl⟩|⟨rfl,rfl,rfl,rfl,rfl,rfl⟩|⟨rfl,rfl,rfl,rfl,rfl,rfl⟩
 all_goals
  refine ⟨fun d h=>⟨by omega,by simp;omega⟩,fun d h=>⟨by omega,by simp;omega⟩,fun a acc d h=>by omega,fun a acc d h h2 h3=>?_,fun a acc d h=>by omega,fun a acc d h=>?_,fun a acc h h2=>by omega⟩
  ·rw[IntKind.wrap_u64]
   by_cases q:18446744073709551616≤acc*16+d
   ·omega
   ·omega
  ·omega
theorem tG {Bi bi Ci Mi:Int}{B M:Nat} (hb:W2 Bi bi Ci Mi B M) (W:World) (s:ByteArray) (hs:s.size≤65536):Calls Tryz.prog 191 #[.string s,.int .i64 Bi,.int .i64 bi] W (PU W B M s):=by
 by_cases h0:s.size=0
 ·obtain rfl:=tP h0
  rcases hb with ⟨rfl,rfl,rfl,rfl,-,-⟩|⟨rfl,rfl,rfl,rfl,-,-⟩|⟨rfl,rfl,rfl,rfl,-,-⟩|⟨rfl,rfl,rfl,rfl,-,-⟩|⟨rfl,rfl,rfl,rfl,-,-⟩
  all_goals
   go_enter Tryz.func191,Tryz.ntmps191
   go_wp2
   go_ret2
   exact PU.bad _ 2 (zE _ _) (.inr rfl) (.inl h0)
 have HK:=al hb.pk
 have e0:=tQ h0
 have lH:=Lib.run_convert_string_bytes (P:=Tryz.prog) W 9 58 5 s (u:=.string) Tryz.underlying9 Tryz.underlying58 Tryz.underlying5
 have hB:∀(j x:Nat),(aI s)[j]?=some x→(Lib.bytesWorld W 5 s).cell? ⟨W.heap.size,j,none⟩=some (.int .u8 (x:Int)):=fun j x hx=>by
  rw[Lib.bytesWorld_cell W 5 s j (by have:=(zB hx).1;rwa [aX] at this),DZ s j x hx]
 have NF:Below W.heap.size W (Lib.bytesWorld W 5 s):=Lib.bytesWorld_below W 5 s
 obtain ⟨W1,Zy⟩:∃W1,W1=Lib.bytesWorld W 5 s:=⟨_,rfl⟩
 rw[←Zy] at lH hB NF
 have uN:=al NF
 have HB:=al hB
 clear Zy NF hB
 rcases hb with ⟨rfl,rfl,rfl,rfl,-,-⟩|⟨rfl,rfl,rfl,rfl,-,-⟩|⟨rfl,rfl,rfl,rfl,-,-⟩|⟨rfl,rfl,rfl,rfl,-,-⟩|⟨rfl,rfl,rfl,rfl,-,-⟩
 all_goals
  go_enter Tryz.func191,Tryz.ntmps191
  go_wp2
  clear lH
  go_loopg [12,13,15,16,17,101] s.size (fun gk v12 MA _ _ _ MB wr=>∃(k acc:Nat) (a:Int),v12=.bool false∧MA=.int .u64 a∧MB=.int .i64 (k:Int)∧k≤s.size∧gk=s.size-k∧wr=W1∧Hid (a=(acc:Int)∧acc≤M∧bS B M (aI s) 0=bS B M ((aI s).drop k) acc))
  case atStart=>exact ⟨0,0,0,rfl,rfl,rfl,by omega,rfl,rfl,rfl,by omega,rfl⟩
  case round =>
   obtain ⟨k,acc,a,rfl,rfl,rfl,hk,aU,rfl,hh⟩:=hrel
   obtain ⟨ha,fN,bF⟩:=ab hh
   have bz:=al aU
   clear hh aU
   have a0:0≤a:=by omega
   have a1:=(ab HK).k8 a acc ha fN
   by_cases G1:k<s.size
   ·obtain ⟨x,hx,cY,gx⟩:=cc s k G1
    have LZ:=ab HB k x hx
    have eZ:(aI s).drop k=x::(aI s).drop (k+1):=by
     obtain ⟨hl,lN⟩:=zB hx
     rw[List.drop_eq_getElem_cons hl,lN]
    rw[eZ] at bF
    clear eZ hx gx
    have gO:=al bF
    clear bF
    go_upto_block 5 with fail
    go_cut [12,16,101] from 101 to 163 (fun v12 v16 MB wc=>∃dn:Nat,v12=.bool false∧v16=.int .u8 (dn:Int)∧MB=.int .i64 (k:Int)∧wc=wr∧dn<36∧Hid (x8 x=some dn))
    case first =>
     clear ha fN a0 a1
     by_cases hd:48≤x∧x≤57
     ·have Hv:Hid (x8 x=some (x-48)):=by unfold x8;rw[if_pos hd];rfl
      obtain ⟨d1,d2⟩:=hd
      have Pa:=fY (c:=x) (k:=95) (by omega);have b1:=e8 (c:=x) (k:=48) (by omega);have b2:=zU (c:=x) (k:=57) (by omega)
      go_wp2
      go_meet
      case rel=>exact ⟨x-48,rfl,by go_num,rfl,rfl,by omega,Hv⟩
     ·obtain ⟨lx,Ca⟩:∃lx,lx=low x:=⟨_,rfl⟩
      have xP:=fun w=>Ej w x cY
      simp only[←Ca] at xP
      by_cases hu:65≤x∧x≤90
      ·have Hv:Hid (x8 x=some (x-55)):=by unfold x8;rw[if_neg hd,if_pos hu];rfl
       have dB:=MW hu.1 hu.2
       rw[←Ca] at dB
       obtain ⟨u1,u2⟩:=hu
       have Pa:=fY (c:=x) (k:=95) (by omega);have b1:=e8 (c:=x) (k:=48) (by omega);have b2:=iu (c:=x) (k:=57) (by omega)
       have l1:=e8 (c:=lx) (k:=97) (by omega);have l2:=zU (c:=lx) (k:=122) (by omega)
       have l3:97≤lx:=by omega
       have l4:lx≤122:=by omega
       clear Ca hd
       go_wp2_with (go_at_call 203;refine (xP _).mono ?_;rintro e w' ⟨rfl,rfl⟩)
       go_meet
       case rel=>exact ⟨x-55,rfl,by congr 1;omega,rfl,rfl,by omega,Hv⟩
      ·by_cases hl:97≤x∧x≤122
       ·have Hv:Hid (x8 x=some (x-87)):=by unfold x8;rw[if_neg hd,if_neg hu,if_pos hl];rfl
        have dB:=Gw hl.1 hl.2
        rw[←Ca] at dB
        obtain ⟨u1,u2⟩:=hl
        have Pa:=fY (c:=x) (k:=95) (by omega);have b1:=e8 (c:=x) (k:=48) (by omega);have b2:=iu (c:=x) (k:=57) (by omega)
        have l1:=e8 (c:=lx) (k:=97) (by omega);have l2:=zU (c:=lx) (k:=122) (by omega)
        have l3:97≤lx:=by omega
        have l4:lx≤122:=by omega
        clear Ca hd hu
        go_wp2_with (go_at_call 203;refine (xP _).mono ?_;rintro e w' ⟨rfl,rfl⟩)
        go_meet
        case rel=>exact ⟨x-87,rfl,by congr 1;omega,rfl,rfl,by omega,Hv⟩
       ·have hv:x8 x=none:=by unfold x8;rw[if_neg hd,if_neg hu,if_neg hl]
        have dB:=Gv cY hu hl
        rw[←Ca] at dB
        have hn:bS B M (aI s) 0=none:=by rw[ab gO];simp only[bS,hv]
        have Hn:=al hn
        clear hn
        have Pv:x<48∨57<x:=by omega
        clear Ca hd hu hl hv
        by_cases x95:x=95
        ·have Pa:((x:Int)==95)=true:=by simp;omega
         have b1:=e8 (c:=x) (k:=48) (by omega);have b2:=iu (c:=x) (k:=57) (by omega)
         clear Pv x95
         rcases dB with dB|dB
         ·have l1:=kR (c:=lx) (k:=97) (by omega)
          go_wp2_with (go_at_call 203;refine (xP _).mono ?_;rintro e w' ⟨rfl,rfl⟩)
          go_ret2
          exact PU.bad _ 2 (ab uN) (.inr rfl) (.inr (ab Hn))
         ·have l1:=e8 (c:=lx) (k:=97) (by omega);have l2:=iu (c:=lx) (k:=122) (by omega)
          go_wp2_with (go_at_call 203;refine (xP _).mono ?_;rintro e w' ⟨rfl,rfl⟩)
          go_ret2
          exact PU.bad _ 2 (ab uN) (.inr rfl) (.inr (ab Hn))
        ·have Pa:=fY (c:=x) (k:=95) (by omega)
         rcases Pv with Pv|Pv
         ·have b1:=kR (c:=x) (k:=48) (by omega)
          rcases dB with dB|dB
          ·have l1:=kR (c:=lx) (k:=97) (by omega)
           go_wp2_with (go_at_call 203;refine (xP _).mono ?_;rintro e w' ⟨rfl,rfl⟩)
           go_ret2
           exact PU.bad _ 2 (ab uN) (.inr rfl) (.inr (ab Hn))
          ·have l1:=e8 (c:=lx) (k:=97) (by omega);have l2:=iu (c:=lx) (k:=122) (by omega)
           go_wp2_with (go_at_call 203;refine (xP _).mono ?_;rintro e w' ⟨rfl,rfl⟩)
           go_ret2
           exact PU.bad _ 2 (ab uN) (.inr rfl) (.inr (ab Hn))
         ·have b1:=e8 (c:=x) (k:=48) (by omega);have b2:=iu (c:=x) (k:=57) (by omega)
          rcases dB with dB|dB
          ·have l1:=kR (c:=lx) (k:=97) (by omega)
           go_wp2_with (go_at_call 203;refine (xP _).mono ?_;rintro e w' ⟨rfl,rfl⟩)
           go_ret2
           exact PU.bad _ 2 (ab uN) (.inr rfl) (.inr (ab Hn))
          ·have l1:=e8 (c:=lx) (k:=97) (by omega);have l2:=iu (c:=lx) (k:=122) (by omega)
           go_wp2_with (go_at_call 203;refine (xP _).mono ?_;rintro e w' ⟨rfl,rfl⟩)
           go_ret2
           exact PU.bad _ 2 (ab uN) (.inr rfl) (.inr (ab Hn))
    case rest =>
     obtain ⟨dn,rfl,rfl,rfl,rfl,hdn,Hv⟩:=hcut
     have bF:=ab gO
     have hv:=ab Hv
     simp only[bS,hv] at bF
     clear gO Hv
     by_cases h8:dn<B
     ·obtain ⟨i8,i9⟩:=(ab HK).k1 dn h8
      rcases (ab HK).k3 a acc dn ha with ⟨QP,na⟩|QP
      ·first
       |(exfalso;omega)
       |(rw[if_neg (fun q=>na q.2)] at bF
         have Hn:=al bF
         clear bF ha fN hv na h8
         go_wp2
         go_ret2
         exact PU.bad _ 1 (ab uN) (.inl rfl) (.inr (ab Hn)))
      rcases (ab HK).k5 a acc dn ha QP hdn with ⟨iov,KA,na⟩|iov
      ·first
       |(exfalso;omega)
       |(rw[if_neg (fun q=>na q.2)] at bF
         have Hn:=al bF
         clear bF ha fN hv na h8
         go_wp2
         go_ret2
         exact PU.bad _ 1 (ab uN) (.inl rfl) (.inr (ab Hn)))
      rcases (ab HK).k7 a acc dn ha with ⟨imx,VV⟩|⟨imx,na⟩
      ·have HN:=al (show _∧_∧bS B M (aI s) 0=bS B M ((aI s).drop (k+1)) (acc*B+dn) from ⟨(ab HK).k6 a acc dn ha,VV,by rw[bF,if_pos ⟨h8,VV⟩]⟩)
       clear bF ha fN hv VV h8
       go_wp2
       go_roundg (s.size-(k+1))
       case measure=>have:=ab bz;omega
       case rel=>exact ⟨k+1,acc*B+dn,_,rfl,by go_num,by go_num,by omega,rfl,rfl,HN⟩
      ·rw[if_neg (fun q=>na q.2)] at bF
       have Hn:=al bF
       clear bF ha fN hv na h8
       go_wp2
       go_ret2
       exact PU.bad _ 1 (ab uN) (.inl rfl) (.inr (ab Hn))
     ·obtain ⟨i8,i9⟩:=(ab HK).k2 dn h8
      rw[if_neg (fun q=>h8 q.1)] at bF
      have Hn:=al bF
      clear bF ha fN hv h8
      go_wp2
      go_ret2
      exact PU.bad _ 2 (ab uN) (.inr rfl) (.inr (ab Hn))
   ·obtain rfl:k=s.size:=by omega
    have G7:(aI s).drop s.size=[]:=List.drop_eq_nil_of_le (by rw[aX];omega)
    rw[G7] at bF
    have Hd:Hid (bS B M (aI s) 0=some acc):=bF
    have Ha:=al ha
    clear bF G7 ha fN
    go_wp2
    go_ret2
    rw[ab Ha]
    exact PU.Wy acc (ab uN) (by omega) (ab Hd)
end Go.Proofs.YtichhjfjcinjgaaGreatDoor

import Derived.Test.YtichhjfjcinjgaaGreatDoorM07
import Derived.Lib.Index
set_option maxHeartbeats 40000000
set_option maxRecDepth 100000
namespace Go.Proofs.YtichhjfjcinjgaaGreatDoor
open Go.RowKit
attribute [local go_sem ↓] Go.wp_at_zero Go.wp_at_succ
theorem wN {W:World}{b:Nat}{s:ByteArray}{k vc:Nat}{va:Option Addr}{kind n e:Int} (h:cN W b s k (.slice va 16383 vc)) :
  Calls Tryz.prog 137 #[.pointer (some ⟨b,0,none⟩),.int .i64 kind,.int .i64 n,.int .i64 e] W fun o w=>o=.returned (.int .i64 45)∧w=W:=by
 have c2:=h.c2
 clear h
 go_enter Tryz.func137,Tryz.ntmps137
 go_wp2
 go_ret
 exact ⟨rfl,rfl⟩
theorem GD {W:World}{b:Nat}{s:ByteArray}{k m vc:Nat}{va:Option Addr}{kind n e:Int} (h:cN W b s k (.slice va m vc)) (hm:m<16383) (he:e≠0) :
  Calls Tryz.prog 137 #[.pointer (some ⟨b,0,none⟩),.int .i64 kind,.int .i64 n,.int .i64 e] W fun o w=>o=.returned (.int .i64 e)∧w=W:=by
 have c2:=h.c2
 have q1:((m:Int)==16383)=false:=beq_eq_false_iff_ne.2 (by omega)
 have q2:(e != 0)=true:=by simpa using he
 clear h
 go_enter Tryz.func137,Tryz.ntmps137
 go_wp2
 go_ret
 exact ⟨rfl,rfl⟩
theorem cN.at {W:World}{b:Nat}{s:ByteArray}{k:Nat}{v:Value} (h:cN W b s k v) (j:Nat):cN (W.setCell ⟨b,1,none⟩ (.int .i64 (j:Int))) b s j v:=heap_setCell_same _ b 1 _ _ _ h
theorem BP {W:World}{b:Nat}{s:ByteArray}{k:Nat}{v:Value} (h:cN W b s k v) (hk:k<s.size) (hs:s.size≤65536) :
  Calls Tryz.prog 138 #[.pointer (some ⟨b,0,none⟩)] W fun e w=>e=.returned (.int .i64 0)∧w=W.setCell ⟨b,1,none⟩ (.int .i64 ((k+1:Nat):Int)):=by
 have c1:=h.c1
 have f1:=iC 1 h
 clear h
 go_enter Tryz.func138,Tryz.ntmps138
 go_wp2
 go_ret
 exact ⟨rfl,rfl⟩
theorem bw (s:ByteArray) (a b:Nat):aI (s.extract a b)=((aI s).drop a).take (b-a):=by
 unfold aI
 rw[Lib.extract_data]
 simp[List.map_take,List.map_drop]
theorem GL {s t:ByteArray} (h:aI s=aI t):s=t:=by
 have h1:s.data.toList=t.data.toList:=by
  unfold aI at h
  exact (List.map_inj_right (fun a b e=>UInt8.toNat_inj.1 e)).1 h
 cases s with|mk d=>cases t with|mk e=>cases d;cases e;simp_all
theorem Az (s t:ByteArray):(s.toList==t.toList)=true↔aI s=aI t:=by
 rw[ByteArray.toList_eq,ByteArray.toList_eq]
 constructor
 ·intro h
  unfold aI
  rw[eq_of_beq h]
 ·intro h
  rw[GL h]
  simp
def yP (s p:ByteArray):Prop:=(aI s).take p.size=aI p
open Classical in
noncomputable def preB (s p:ByteArray):Bool:=decide (yP s p)
theorem ES {s p:ByteArray} (h:yP s p):preB s p=true:=by unfold preB;simp[h]
theorem B8 {s p:ByteArray} (h:¬yP s p):preB s p=false:=by unfold preB;simp[h]
theorem uU (W:World) (s p:ByteArray):Calls Tryz.prog 166 #[.string s,.string p] W fun e w=>e=.returned (.bool (preB s p))∧w=W:=by
 by_cases hl:p.size≤s.size
 ·have e1:decide ((p.size:Int)≤(s.size:Int))=true:=by simp;omega
  have hx:=bw s 0 p.size
  have Sc:=Az (s.extract 0 p.size) p
  have Hx:=al hx
  have S6:=al Sc
  clear hx Sc
  go_enter Tryz.func166,Tryz.ntmps166
  go_wp2
  go_ret
  refine ⟨?_,rfl⟩
  have:((s.extract 0 p.size).toList==p.toList)=preB s p:=by
   by_cases Lj:yP s p
   ·rw[ES Lj]
    refine (ab S6).2 ?_
    rw[ab Hx]
    simpa[yP] using Lj
   ·rw[B8 Lj,←Bool.not_eq_true]
    intro h
    have:=(ab S6).1 h
    rw[ab Hx] at this
    exact Lj (by simpa[yP] using this)
  rw[←this]
  rfl
 ·have e1:decide ((p.size:Int)≤(s.size:Int))=false:=by simp;omega
  have hn:¬yP s p:=fun h=>by
   have:=congrArg List.length h
   rw[List.length_take,aZ,aZ] at this
   omega
  rw[B8 hn]
  go_enter Tryz.func166,Tryz.ntmps166
  go_wp2
  go_ret
  exact ⟨rfl,rfl⟩
theorem fP (W:World) (s p:ByteArray):Calls Tryz.prog 126 #[.string s,.string p] W fun e w=>e=.returned (.bool (preB s p))∧w=W:=by
 go_enter Tryz.func126,Tryz.ntmps126
 go_wp2_with fail
 refine (uU W s p).mono ?_
 rintro e w' ⟨rfl,he⟩
 obtain rfl:W=w':=he.symm
 go_wp2
 go_ret
 exact ⟨rfl,rfl⟩
theorem xw (s:ByteArray):∀(n k:Nat),(∀j,j<n→k+j<s.size∧(isLet (aD s (k+j))∨c7 (aD s (k+j))))→(k+n<s.size→¬(isLet (aD s (k+n))∨c7 (aD s (k+n))))→cM s k=k+n
 |0,k,_,h2=>by
  rw[cM,dif_neg (fun q=>h2 q.1 q.2)]
  rfl
 |n+1,k,h1,h2=>by
  have h0:=h1 0 (by omega)
  rw[Nat.add_zero] at h0
  rw[cM,dif_pos h0,xw s n (k+1) (fun j hj=>?_) (fun h=>?_)]
  ·omega
  ·have:=h1 (j+1) (by omega)
   rwa [show k+(j+1)=k+1+j by omega] at this
  ·rw[show k+1+n=k+(n+1) by omega] at h ⊢
   exact h2 h
theorem mM (s:ByteArray) (k:Nat) (h:k<s.size):(aI s)[k]?=some (aD s k):=by
 unfold aI aD
 rw[dif_pos h,List.getElem?_map,Array.getElem?_toList,Array.getElem?_eq_getElem (by show k<s.size;exact h)]
 rfl
theorem vb {s:ByteArray}{k n:Nat} (hk:k≤s.size) (hn:n≤(s.extract k s.size).size) (h1:∀j x,j<n→(aI (s.extract k s.size))[j]?=some x→isLet x∨c7 x) (h2:∀x,(aI (s.extract k s.size))[n]?=some x→¬(isLet x∨c7 x)):cM s k=k+n∧k+n≤s.size:=by
 have kI:(s.extract k s.size).size=s.size-k:=by rw[ByteArray.size_extract];omega
 have he:∀j,k+j<s.size→(aI (s.extract k s.size))[j]?=some (aD s (k+j)):=fun j hj=>by
  rw[bw,List.getElem?_take,if_pos (by omega),List.getElem?_drop]
  exact mM s (k+j) hj
 refine ⟨xw s n k (fun j hj=>⟨by omega,h1 j _ hj (he j (by omega))⟩) (fun h=>h2 _ (he n h)),by omega⟩
end Go.Proofs.YtichhjfjcinjgaaGreatDoor
namespace Go.Proofs.YtichhjfjcinjgaaGreatDoor
open Go.RowKit
def wv (l:List Nat):Option Nat :=
 if l.take 2=[48,120]∨l.take 2=[48,88] then (if l.length=2 then none else bV 16 9223372036854775807 (l.drop 2) 0)
 else if l.take 1=[48] then bV 8 9223372036854775807 l 0 else if l=[] then none else bV 10 9223372036854775807 l 0
theorem sN {B M:Nat}:∀(l:List Nat) (n u:Nat),n≤M→bV B M l n=some u→u≤M
 |[],n,u,hn,h=>by
  have:n=u:=by simpa[bV] using h
  omega
 |c::r,n,u,hn,h=>by
  simp only[bV] at h
  split at h
  ·cases h
  ·split at h
   ·rename_i hc
    exact sN r _ u hc.2 h
   ·cases h
theorem Di {l:List Nat}{u:Nat} (h:wv l=some u):u≤9223372036854775807:=by
 unfold wv at h
 split at h
 ·split at h
  ·cases h
  ·exact sN _ 0 u (by decide) h
 ·split at h
  ·exact sN _ 0 u (by decide) h
  ·split at h
   ·cases h
   ·exact sN _ 0 u (by decide) h
def cw (s:ByteArray) (k:Nat):Nat×Nat×Nat :=
 if isLet (aD s k) then (1,cM s k,0)
 else if c7 (aD s k) then (if wv (aI (s.extract k (cM s k)))=none then (0,0,41) else (2,cM s k,0))
 else if aD s k=39∨aD s k=34 then (match ef s (aD s k) (k+1) with|none=>(0,0,42)|some (_,e)=>(3,e,0))
 else if j5 (aD s k) then (4,k+1,0) else (0,0,40)
structure Tok where
 kind:Nat
 place:Nat
 text:ByteArray
def vp (t:Tok):List Tok ⊕ (Nat×Nat)→List Tok ⊕ (Nat×Nat)
 |.inl l=>.inl (t::l)
 |.inr e=>.inr e
def ij (p:List Tok):List Tok ⊕ (Nat×Nat)→List Tok ⊕ (Nat×Nat)
 |.inl l=>.inl (p++l)
 |.inr e=>.inr e
theorem lI (x:List Tok ⊕ (Nat×Nat)):ij [] x=x:=by cases x<;>rfl
theorem AX (p:List Tok) (t:Tok) (x:List Tok ⊕ (Nat×Nat)):ij p (vp t x)=ij (p++[t]) x:=by
 cases x with
 |inl l=>simp[ij,vp]
 |inr e=>rfl
def jR (s:ByteArray):Nat→Nat→Nat→(List Tok ⊕ (Nat×Nat))
 |0,_,_=>.inr (0,0)
 |f+1,k,n=>if (bj s s.size k).2=false then .inr ((bj s s.size k).1,43)
  else if (bj s s.size k).1=s.size then .inl [⟨5,(bj s s.size k).1,⟨#[]⟩⟩]
  else if n=16383 then .inr ((bj s s.size k).1,45)
  else if (cw s (bj s s.size k).1).2.2=0 then
   vp ⟨(cw s (bj s s.size k).1).1,(bj s s.size k).1,s.extract (bj s s.size k).1 (cw s (bj s s.size k).1).2.1⟩ (jR s f (cw s (bj s s.size k).1).2.1 (n+1))
  else .inr ((bj s s.size k).1,(cw s (bj s s.size k).1).2.2)
theorem Ar (s:ByteArray):∀(f k:Nat),k≤s.size→k≤(bj s f k).1∧(bj s f k).1≤s.size:=by
 intro f
 induction f with
 |zero=>intro k hk;exact ⟨zD _,hk⟩
 |succ f ih =>
  intro k hk
  rw[bj]
  split
  ·split
   ·have:=ih (k+1) (by omega);omega
   ·split
    ·rename_i h h1 h2
     have a:=sQ s k
     have b:=sP s k hk
     have:=ih _ b;omega
    ·split
     ·split
      ·rename_i h5
       have a:=hZ s (k+2)
       have:=ih _ h5;omega
      ·exact ⟨zD _,hk⟩
     ·exact ⟨zD _,hk⟩
  ·exact ⟨zD _,hk⟩
theorem xx {s:ByteArray}{k:Nat} (hk:k<s.size) (h:isLet (aD s k)∨c7 (aD s k)):k<cM s k:=by
 rw[cM,dif_pos ⟨hk,h⟩]
 have:=xy s (k+1)
 omega
theorem oO {s:ByteArray}{k:Nat} (hk:k<s.size) (h:(cw s k).2.2=0):k<(cw s k).2.1∧(cw s k).2.1≤s.size:=by
 unfold cw at h ⊢
 by_cases h1:isLet (aD s k)
 ·rw[if_pos h1]
  exact ⟨xx hk (.inl h1),qa s k (by omega)⟩
 ·rw[if_neg h1] at h ⊢
  by_cases h2:c7 (aD s k)
  ·rw[if_pos h2] at h ⊢
   split at h
   ·cases h
   ·rename_i h3
    rw[if_neg h3]
    exact ⟨xx hk (.inr h2),qa s k (by omega)⟩
  ·rw[if_neg h2] at h ⊢
   by_cases h3:aD s k=39∨aD s k=34
   ·rw[if_pos h3] at h ⊢
    split at h
    ·cases h
    ·rename_i l e he
     have:=Dk _ (k+1) l e (zD _) he
     show k<e∧e≤s.size
     omega
   ·rw[if_neg h3] at h ⊢
    split at h
    ·rename_i h4
     rw[if_pos h4]
     show k<k+1∧k+1≤s.size
     omega
    ·cases h
theorem wL (s:ByteArray):∀(f f' k n:Nat),k≤s.size→s.size-k<f→s.size-k<f'→jR s f k n=jR s f' k n:=by
 intro f
 induction f with
 |zero=>intro f' k n _ hf;omega
 |succ f ih =>
  intro f' k n hk hf MA
  cases f' with
  |zero=>omega
  |succ f' =>
   rw[jR,jR]
   have hp:=Ar s s.size k hk
   split
   ·rfl
   ·split
    ·rfl
    ·split
     ·rfl
     ·split
      ·rename_i h1 h2 h3 h4
       have:=oO (by omega) h4
       rw[ih f' _ (n+1) this.2 (by omega) (by omega)]
      ·rfl
def tk (s:ByteArray) (k n:Nat):List Tok ⊕ (Nat×Nat):=jR s (s.size+1) k n
theorem Dn {s:ByteArray}{k k':Nat} (n:Nat) (h:bj s s.size k=bj s s.size k'):tk s k n=tk s k' n:=by
 unfold tk
 rw[jR,jR,h]
theorem G6 (s:ByteArray):bj s s.size s.size=(s.size,true):=by
 cases hz:s.size with
 |zero=>rfl
 |succ n=>rw[bj,if_neg (by omega)]
theorem Ni (s:ByteArray) (n:Nat):tk s s.size n=.inl [⟨5,s.size,⟨#[]⟩⟩]:=by
 unfold tk
 rw[jR,G6,if_neg (by simp),if_pos rfl]
theorem Gz {s:ByteArray}{k n:Nat} (h:bj s s.size k=(k,false)):tk s k n=.inr (k,43):=by
 unfold tk
 rw[jR,h,if_pos rfl]
theorem Dp {s:ByteArray}{k:Nat} (hk:k<s.size) (h:bj s s.size k=(k,true)):tk s k 16383=.inr (k,45):=by
 unfold tk
 rw[jR,h,if_neg (by simp),if_neg (by show ¬k=s.size;omega),if_pos rfl]
theorem Nh {s:ByteArray}{k n c:Nat} (hk:k<s.size) (h:bj s s.size k=(k,true)) (hn:n<16383) (h1:(cw s k).2.2=c) (hc:c≠0):tk s k n=.inr (k,c):=by
 unfold tk
 rw[jR,h,if_neg (by simp),if_neg (by show ¬k=s.size;omega),if_neg (by omega)]
 show (if (cw s k).2.2=0 then _ else Sum.inr (k,(cw s k).2.2))=_
 rw[h1,if_neg hc]
theorem Ng {s:ByteArray}{k n t e:Nat} (hk:k<s.size) (h:bj s s.size k=(k,true)) (hn:n<16383) (h1:cw s k=(t,e,0)):tk s k n=vp ⟨t,k,s.extract k e⟩ (tk s e (n+1)):=by
 have hle:=oO hk (by rw[h1])
 rw[h1] at hle
 unfold tk
 rw[jR,h,if_neg (by simp),if_neg (by show ¬k=s.size;omega),if_neg (by omega)]
 show (if (cw s k).2.2=0 then vp ⟨(cw s k).1,k,s.extract k (cw s k).2.1⟩ (jR s s.size (cw s k).2.1 (n+1)) else _)=_
 rw[h1,if_pos rfl]
 rw[wL s s.size (s.size+1) e (n+1) hle.2 (by have:=hle.1;simp at this;omega) (by omega)]
theorem kR {s:ByteArray}{k:Nat} (hk:k<s.size):bj s s.size k=bj s (s.size-k-1+1) k:=eG s _ _ k (by omega) (by omega)
theorem Cb {s:ByteArray}{k:Nat} (hk:k<s.size) (h:lS (aD s k)):bj s s.size k=bj s s.size (k+1):=by
 rw[kR hk,bj,if_pos hk,if_pos h]
 exact eG s _ _ _ (by omega) (by omega)
theorem EW {s:ByteArray}{k:Nat} (h:k+2≤s.size) (h1:aD s k=47) (h2:aD s (k+1)=47):bj s s.size k=bj s s.size (iF s k):=by
 have hk:k<s.size:=by omega
 have Wu:=sO hk h1
 rw[kR hk,bj,if_pos hk,if_neg (by rw[h1];decide),if_pos ⟨h,h1,h2⟩]
 exact eG s _ _ _ (by omega) (by omega)
theorem EV {s:ByteArray}{k:Nat} (h:k+2≤s.size) (h1:aD s k=47) (h2:aD s (k+1)=42) (h3:dv s (k+2)+2≤s.size):bj s s.size k=bj s s.size (dv s (k+2)+2):=by
 have hk:k<s.size:=by omega
 have:=hZ s (k+2)
 rw[kR hk,bj,if_pos hk,if_neg (by rw[h1];decide),if_neg (by omega),if_pos ⟨h,h1,h2⟩,if_pos h3]
 exact eG s _ _ _ (by omega) (by omega)
theorem Ca {s:ByteArray}{k:Nat} (h:k+2≤s.size) (h1:aD s k=47) (h2:aD s (k+1)=42) (h3:¬dv s (k+2)+2≤s.size):bj s s.size k=(k,false):=by
 have hk:k<s.size:=by omega
 rw[kR hk,bj,if_pos hk,if_neg (by rw[h1];decide),if_neg (by omega),if_pos ⟨h,h1,h2⟩,if_neg h3]
theorem wS {s:ByteArray}{k:Nat} (hk:k<s.size) (h:¬lS (aD s k)) (h1:¬(k+2≤s.size∧aD s k=47∧aD s (k+1)=47)) (h2:¬(k+2≤s.size∧aD s k=47∧aD s (k+1)=42)):bj s s.size k=(k,true):=by
 rw[kR hk,bj,if_pos hk,if_neg h,if_neg h1,if_neg h2]
theorem jZ {s:ByteArray}{k:Nat} (hk:k<s.size) (h:¬lS (aD s k)) (h1:¬aD s k=47):bj s s.size k=(k,true):=wS hk h (fun q=>h1 q.2.1) (fun q=>h1 q.2.1)
noncomputable def jQ (s:ByteArray):List Tok ⊕ (Nat×Nat):=if 65536<s.size then .inr (0,2) else if 0≤cZ s 0 then .inr ((cZ s 0).toNat,44) else tk s 0 0
theorem x7 (s:ByteArray) (k j:Nat) (h1:k≤j) (h2:j<iF s k):¬aD s j=10:=by
 rw[iF] at h2
 split at h2
 ·rename_i h
  by_cases e:j=k
  ·subst e;exact h.2
  ·exact x7 s (k+1) j (by omega) h2
 ·omega
termination_by s.size-k
decreasing_by omega
theorem Av (s:ByteArray) (k:Nat) (h:iF s k<s.size):aD s (iF s k)=10:=by
 rw[iF] at h ⊢
 split at h
 ·rename_i h1
  rw[dif_pos h1]
  exact Av s (k+1) h
 ·rename_i h1
  rw[dif_neg h1]
  exact Classical.byContradiction fun e=>h1 ⟨h,e⟩
termination_by s.size-k
decreasing_by omega
theorem pP (s:ByteArray) (k j:Nat) (h1:k≤j) (h2:j<dv s k):¬(aD s j=42∧aD s (j+1)=47):=by
 rw[dv] at h2
 split at h2
 ·rename_i h
  by_cases e:j=k
  ·subst e;exact h.2
  ·exact pP s (k+1) j (by omega) h2
 ·omega
termination_by s.size-k
decreasing_by omega
theorem tW (s:ByteArray) (k:Nat) (h:dv s k+2≤s.size):aD s (dv s k)=42∧aD s (dv s k+1)=47:=by
 rw[dv] at h ⊢
 split at h
 ·rename_i h1
  rw[dif_pos h1]
  exact tW s (k+1) h
 ·rename_i h1
  rw[dif_neg h1]
  exact Classical.byContradiction fun e=>h1 ⟨h,e⟩
termination_by s.size-k
decreasing_by omega
theorem j' {s:ByteArray}{k j:Nat} (h:k+j<s.size):aD (s.extract k s.size) j=aD s (k+j):=by
 have hz:j<(s.extract k s.size).size:=by rw[ByteArray.size_extract];omega
 have e1:=mM _ j hz
 rw[bw,List.getElem?_take,if_pos (by omega),List.getElem?_drop,mM s (k+j) h] at e1
 exact (zC e1).symm
theorem NQ {s:ByteArray}{k:Nat} (hk:k≤s.size):firstIdx (s.extract k s.size) 10=if iF s k<s.size then ((iF s k-k:Nat):Int) else -1:=by
 have hz:(s.extract k s.size).size=s.size-k:=by rw[ByteArray.size_extract];omega
 have hb:∀i,i<s.size-k→(((s.extract k s.size)[i]! == (10:UInt8))=true↔aD s (k+i)=10):=fun i hi=>by
  have eV:i<(s.extract k s.size).size:=by omega
  rw[getElem!_pos _ i eV,←j' (by omega),aD,dif_pos eV]
  constructor
  ·intro h;rw[eq_of_beq h];rfl
  ·intro h;exact beq_iff_eq.2 (UInt8.toNat_inj.1 h)
 have Lq:=sQ s k
 unfold firstIdx
 rw[hz]
 by_cases h:iF s k<s.size
 ·rw[if_pos h]
  have hf:(List.range (s.size-k)).find? (fun i=>(s.extract k s.size)[i]! == (10:UInt8))=some (iF s k-k):=by
   refine List.find?_range_eq_some.2 ⟨(hb _ (by omega)).2 ?_,List.mem_range.2 (by omega),fun j hj=>?_⟩
   ·rw[show k+(iF s k-k)=iF s k by omega]
    exact Av s k h
   ·have:=x7 s k (k+j) (by omega) (by omega)
    rw[Bool.not_eq_true',←Bool.not_eq_true]
    exact fun q=>this ((hb j (by omega)).1 q)
  rw[hf]
 ·rw[if_neg h]
  have hf:(List.range (s.size-k)).find? (fun i=>(s.extract k s.size)[i]! == (10:UInt8))=none:=by
   refine List.find?_range_eq_none.2 fun j hj=>?_
   have:=x7 s k (k+j) (by omega) (by omega)
   rw[Bool.not_eq_true',←Bool.not_eq_true]
   exact fun q=>this ((hb j hj).1 q)
  rw[hf]
theorem uA {s:ByteArray}{k j:Nat} (hk:k≤s.size):Lib.occAt (s.extract k s.size).data.toList [42,47] j=true↔k+j+2≤s.size∧aD s (k+j)=42∧aD s (k+j+1)=47:=by
 have hl:(s.extract k s.size).data.toList.length=s.size-k:=by
  show (s.extract k s.size).size=_
  rw[ByteArray.size_extract];omega
 by_cases hr:k+j+2≤s.size
 ·have e:((s.extract k s.size).data.toList.drop j).take 2=(s.extract (k+j) (k+j+2)).data.toList:=by
   rw[Lib.extract_data,Lib.extract_data,List.drop_take,List.take_take,List.drop_drop,Nat.min_eq_left (by omega)]
   congr 1
   omega
  rw[Lib.occAt_iff_take _ _ _ (by rw[hl];show j+2≤_;omega)]
  show ((((s.extract k s.size).data.toList.drop j).take 2)==[42,47])=true↔_
  rw[e,beq_iff_eq,Gv hr]
  exact ⟨fun q=>⟨hr,q⟩,fun q=>q.2⟩
 ·refine ⟨fun q=>?_,fun q=>absurd q.1 hr⟩
  rcases Lib.occAt_room q with h|h
  ·rw[hl] at h
   exact absurd (show k+j+2≤s.size by have:([42,47]:List UInt8).length=2:=rfl;omega) hr
  ·cases h
theorem Ij {s:ByteArray}{k:Nat} (hk:k≤s.size):Lib.index (s.extract k s.size).data.toList [42,47]=if dv s k+2≤s.size then ((dv s k-k:Nat):Int) else -1:=by
 have hl:(s.extract k s.size).data.toList.length=s.size-k:=by
  show (s.extract k s.size).size=_
  rw[ByteArray.size_extract];omega
 have Lq:=hZ s k
 by_cases h:dv s k+2≤s.size
 ·rw[if_pos h]
  refine Lib.index_first (by rw[hl];omega) ((uA hk).2 ?_) (fun j hj=>?_)
  ·rw[show k+(dv s k-k)=dv s k by omega]
   exact ⟨h,tW s k h⟩
  ·rw[←Bool.not_eq_true]
   exact fun q=>pP s k (k+j) (by omega) (by omega) ((uA hk).1 q).2
 ·rw[if_neg h]
  refine Lib.index_none fun j _=>?_
  rw[←Bool.not_eq_true]
  intro q
  have q2:=(uA hk).1 q
  by_cases hj:k+j<dv s k
  ·exact pP s k (k+j) (by omega) hj q2.2
  ·omega
theorem DG {s:ByteArray}{k:Nat} (hk:k≤s.size) (a b:UInt8):yP (s.extract k s.size) ⟨#[a,b]⟩↔k+2≤s.size∧aD s k=a.toNat∧aD s (k+1)=b.toNat:=by
 unfold yP
 show (aI (s.extract k s.size)).take 2=[a.toNat,b.toNat]↔_
 rw[bw]
 by_cases hr:k+2≤s.size
 ·have e:(((aI s).drop k).take (s.size-k)).take 2=[aD s k,aD s (k+1)]:=by
   rw[List.take_take,Nat.min_eq_left (by omega)]
   apply List.ext_getElem?
   intro i
   rw[List.getElem?_take]
   match i with
   |0=>rw[if_pos (by omega),List.getElem?_drop,Nat.add_zero,mM s k (by omega)];rfl
   |1=>rw[if_pos (by omega),List.getElem?_drop,mM s (k+1) (by omega)];rfl
   |i+2=>rw[if_neg (by omega)];rfl
  rw[e]
  simp[hr]
 ·refine ⟨fun q=>?_,fun q=>absurd q.1 hr⟩
  have:=congrArg List.length q
  rw[List.length_take,List.length_take,List.length_drop,aZ] at this
  simp at this
  omega
end Go.Proofs.YtichhjfjcinjgaaGreatDoor
namespace Go.Proofs.YtichhjfjcinjgaaGreatDoor
open Go.RowKit
attribute [local go_sem ↓] Go.wp_at_zero Go.wp_at_succ
def dY (ts:List Tok):List Value:=ts.flatMap fun t=>[.int .i64 (t.kind:Int),.int .i64 (t.place:Int),.string t.text]
theorem lz (a b:List Tok):dY (a++b)=dY a++dY b:=by simp[dY]
structure eW (W:World) (B b:Nat) (s:ByteArray) (k n:Nat) (v:Value) (xs:List Value):Prop where
 sc:cN W b s k v
 lo:b<B
 hi:B≤W.heap.size
 row:W.ownsRow B 107 3 v n xs
 more:k<s.size
 size:s.size≤65536
 room:n≤16383
theorem eW.up {W w:World}{B b:Nat}{s:ByteArray}{k n:Nat}{v:Value}{xs:List Value} (h:eW W B b s k n v xs) (hb:Below W.heap.size W w):eW w B b s k n v xs:=⟨h.sc.up hb,h.lo,Nat.le_trans h.hi hb.size,Mk h.row hb,h.more,h.size,h.room⟩
theorem eW.shape {W:World}{B b:Nat}{s:ByteArray}{k n:Nat}{v:Value}{xs:List Value} (h:eW W B b s k n v xs):∃a c,v=.slice a n c:=by
 obtain ⟨_,⟨e,h0⟩|⟨g,c,_,e,_⟩⟩:=h.row
 ·exact ⟨none,0,by rw[e,h0]⟩
 ·exact ⟨_,_,e⟩
def gz (B b:Nat) (s:ByteArray) (k n:Nat) (xs:List Value) (W:World) (e:Ending) (w:World):Prop :=
 BX B b W w∧((e=.returned (.int .i64 0)∧∃(k':Nat) (ts:List Tok) (v':Value),cN w b s k' v'∧w.ownsRow B 107 3 v' (n+ts.length) (xs++dY ts)∧k<k'∧k'≤s.size∧n+ts.length≤16383∧tk s k n=ij ts (tk s k' (n+ts.length)))
  ∨ (∃(c:Nat) (v':Value),c≠0∧e=.returned (.int .i64 (c:Int))∧cN w b s k v'∧tk s k n=.inr (k,c)))
theorem gz.ret {B b:Nat}{s:ByteArray}{k n:Nat}{xs:List Value}{W w:World}{e:Ending} (h:gz B b s k n xs W e w):∃c:Int,e=.returned (.int .i64 c):=by
 obtain ⟨_,⟨rfl,_⟩|⟨c,_,_,rfl,_⟩⟩:=h
 ·exact ⟨0,rfl⟩
 ·exact ⟨(c:Int),rfl⟩
theorem gz.from {B b:Nat}{s:ByteArray}{k n:Nat}{xs:List Value}{W W1 w:World}{e:Ending} (h:gz B b s k n xs W1 e w) (hb:Below W.heap.size W W1) (hB:B≤W.heap.size):gz B b s k n xs W e w:=⟨(BX.of hb hB).trans h.1,h.2⟩
theorem EC {W:World}{B b:Nat}{s:ByteArray}{k n c:Nat}{v:Value}{xs:List Value} (I:eW W B b s k n v xs) (hp:bj s s.size k=(k,true)) (ho:(cw s k).2.2=c) (hc:c≠0) (kind m:Int) :
  Calls Tryz.prog 137 #[.pointer (some ⟨b,0,none⟩),.int .i64 kind,.int .i64 m,.int .i64 (c:Int)] W (gz B b s k n xs W):=by
 obtain ⟨va,vc,rfl⟩:=I.shape
 by_cases hn:n=16383
 ·subst hn
  refine (wN I.sc).mono ?_
  rintro e w ⟨rfl,rfl⟩
  exact ⟨BX.refl _ _ _,.inr ⟨45,_,by decide,rfl,I.sc,Dp I.more hp⟩⟩
 ·have DV:n<16383:=by have:=I.room;omega
  refine (GD I.sc DV (by omega)).mono ?_
  rintro e w ⟨rfl,rfl⟩
  exact ⟨BX.refl _ _ _,.inr ⟨c,_,hc,rfl,I.sc,Nh I.more hp DV ho hc⟩⟩
theorem GC {W:World}{B b:Nat}{s:ByteArray}{k n m t:Nat}{v:Value}{xs:List Value} (I:eW W B b s k n v xs) (hp:bj s s.size k=(k,true)) (ho:cw s k=(t,k+m,0)) :
  Calls Tryz.prog 137 #[.pointer (some ⟨b,0,none⟩),.int .i64 (t:Int),.int .i64 (m:Int),.int .i64 0] W (gz B b s k n xs W):=by
 obtain ⟨va,vc,rfl⟩:=I.shape
 have hle:=oO I.more (by rw[ho])
 rw[ho] at hle
 replace hle:k<k+m∧k+m≤s.size:=hle
 by_cases hn:n=16383
 ·subst hn
  refine (wN I.sc).mono ?_
  rintro e w ⟨rfl,rfl⟩
  exact ⟨BX.refl _ _ _,.inr ⟨45,_,by decide,rfl,I.sc,Dp I.more hp⟩⟩
 ·have DV:n<16383:=by have:=I.room;omega
  refine (GF I.sc I.lo I.hi I.row hle.2 I.size DV).mono ?_
  rintro e w ⟨rfl,v',g1,g2,g3⟩
  refine ⟨g3,.inl ⟨rfl,k+m,[⟨t,k,s.extract k (k+m)⟩],v',g1,g2,hle.1,hle.2,by simp;omega,?_⟩⟩
  rw[Ng I.more hp DV ho]
  cases tk s (k+m) (n+1)<;>rfl
def XA (Bi bi Ci Mi:Int) (B M:Nat):Prop:=(Bi=16∧bi=63∧Ci=1152921504606846976∧Mi=9223372036854775807∧B=16∧M=9223372036854775807)∨(Bi=10∧bi=63∧Ci=1844674407370955162∧Mi=9223372036854775807∧B=10∧M=9223372036854775807)∨(Bi=8∧bi=63∧Ci=2305843009213693952∧Mi=9223372036854775807∧B=8∧M=9223372036854775807)∨(Bi=16∧bi=8∧Ci=1152921504606846976∧Mi=255∧B=16∧M=255)∨(Bi=8∧bi=8∧Ci=2305843009213693952∧Mi=255∧B=8∧M=255)
structure PKx (Bi Ci Mi:Int) (B M:Nat):Prop where
 k1:∀d:Nat,d<B→(d:Int)<Bi∧decide (Bi≤(d:Int))=false
 k2:∀d:Nat,¬d<B→Bi≤(d:Int)∧decide (Bi≤(d:Int))=true
 k3:∀(a:Int) (acc d:Nat),a=(acc:Int)→Ci≤a∧¬acc*B+d≤M∨a<Ci
 k5:∀(a:Int) (acc d:Nat),a=(acc:Int)→a<Ci→d<36→(18446744073709551616≤a*Bi+(d:Int)∧IntKind.u64.wrap (a*Bi+(d:Int))=a*Bi+(d:Int)-18446744073709551616∧¬acc*B+d≤M)∨a*Bi+(d:Int)<18446744073709551616
 k6:∀(a:Int) (acc d:Nat),a=(acc:Int)→a*Bi+(d:Int)=((acc*B+d:Nat):Int)
 k7:∀(a:Int) (acc d:Nat),a=(acc:Int)→(a*Bi+(d:Int)≤Mi∧acc*B+d≤M)∨(Mi<a*Bi+(d:Int)∧¬acc*B+d≤M)
 k8:∀(a:Int) (acc:Nat),a=(acc:Int)→acc≤M→a≤Mi
theorem XA.pk {Bi bi Ci Mi:Int}{B M:Nat} (h:XA Bi bi Ci Mi B M):PKx Bi Ci Mi B M:=by
 rcases h with ⟨rfl,rfl,rfl,rfl,rfl,rfl⟩|⟨rfl,rfl,rfl,rfl,rfl,rfl⟩|⟨rfl,rfl,rfl,rfl,rfl,rfl⟩|⟨rfl,rfl,rfl,rfl,rfl,rfl⟩|⟨rfl,rfl,rfl,rfl,rfl,rfl⟩
 all_goals
  refine ⟨fun d h=>⟨by omega,by simp;omega⟩,fun d h=>⟨by omega,by simp;omega⟩,fun a acc d h=>by omega,fun a acc d h h2 h3=>?_,fun a acc d h=>by omega,fun a acc d h=>?_,fun a acc h h2=>by omega⟩
  ·rw[IntKind.wrap_u64]
   by_cases q:18446744073709551616≤acc*16+d
   ·omega
   ·omega
  ·omega
theorem uz {Bi bi Ci Mi:Int}{B M:Nat} (hb:XA Bi bi Ci Mi B M) (W:World) (s:ByteArray) (hs:s.size≤65536):Calls Tryz.prog 191 #[.string s,.int .i64 Bi,.int .i64 bi] W (PU W B M s):=by
 by_cases h0:s.size=0
 ·obtain rfl:=uJ h0
  rcases hb with ⟨rfl,rfl,rfl,rfl,-,-⟩|⟨rfl,rfl,rfl,rfl,-,-⟩|⟨rfl,rfl,rfl,rfl,-,-⟩|⟨rfl,rfl,rfl,rfl,-,-⟩|⟨rfl,rfl,rfl,rfl,-,-⟩
  all_goals
   go_enter Tryz.func191,Tryz.ntmps191
   go_wp2
   go_ret2
   exact PU.bad _ 2 (zE _ _) (.inr rfl) (.inl h0)
 have HK:=al hb.pk
 have e0:=uK h0
 have l7:=Lib.run_convert_string_bytes (P:=Tryz.prog) W 9 58 5 s (u:=.string) Tryz.underlying9 Tryz.underlying58 Tryz.underlying5
 have hB:∀(j x:Nat),(aI s)[j]?=some x→(Lib.bytesWorld W 5 s).cell? ⟨W.heap.size,j,none⟩=some (.int .u8 (x:Int)):=fun j x hx=>by
  rw[Lib.bytesWorld_cell W 5 s j (by have:=(zB hx).1;rwa [aZ] at this),EE s j x hx]
 have Og:Below W.heap.size W (Lib.bytesWorld W 5 s):=Lib.bytesWorld_below W 5 s
 obtain ⟨W1,Z2⟩:∃W1,W1=Lib.bytesWorld W 5 s:=⟨_,rfl⟩
 rw[←Z2] at l7 hB Og
 have vB:=al Og
 have HB:=al hB
 clear Z2 Og hB
 rcases hb with ⟨rfl,rfl,rfl,rfl,-,-⟩|⟨rfl,rfl,rfl,rfl,-,-⟩|⟨rfl,rfl,rfl,rfl,-,-⟩|⟨rfl,rfl,rfl,rfl,-,-⟩|⟨rfl,rfl,rfl,rfl,-,-⟩
 all_goals
  go_enter Tryz.func191,Tryz.ntmps191
  go_wp2
  clear l7
  go_loopg [12,13,15,16,17,101] s.size (fun gk v12 Nb _ _ _ Nc wr=>∃(k acc:Nat) (a:Int),v12=.bool false∧Nb=.int .u64 a∧Nc=.int .i64 (k:Int)∧k≤s.size∧gk=s.size-k∧wr=W1∧Hid (a=(acc:Int)∧acc≤M∧bV B M (aI s) 0=bV B M ((aI s).drop k) acc))
  case atStart=>exact ⟨0,0,0,rfl,rfl,rfl,by omega,rfl,rfl,rfl,by omega,rfl⟩
  case round =>
   obtain ⟨k,acc,a,rfl,rfl,rfl,hk,aW,rfl,hh⟩:=hrel
   obtain ⟨ha,fW,bF⟩:=ab hh
   have bz:=al aW
   clear hh aW
   have a0:0≤a:=by omega
   have a1:=(ab HK).k8 a acc ha fW
   by_cases IE:k<s.size
   ·obtain ⟨x,hx,c8,gx⟩:=cj s k IE
    have MD:=ab HB k x hx
    have fk:(aI s).drop k=x::(aI s).drop (k+1):=by
     obtain ⟨hl,mc⟩:=zB hx
     rw[List.drop_eq_getElem_cons hl,mc]
    rw[fk] at bF
    clear fk hx gx
    have gW:=al bF
    clear bF
    go_upto_block 5 with fail
    go_cut [12,16,101] from 101 to 163 (fun v12 v16 Nc wc=>∃dn:Nat,v12=.bool false∧v16=.int .u8 (dn:Int)∧Nc=.int .i64 (k:Int)∧wc=wr∧dn<36∧Hid (yH x=some dn))
    case first =>
     clear ha fW a0 a1
     by_cases hd:48≤x∧x≤57
     ·have Hv:Hid (yH x=some (x-48)):=by unfold yH;rw[if_pos hd];rfl
      obtain ⟨d1,d2⟩:=hd
      have PV:=gw (c:=x) (k:=95) (by omega);have b1:=fl (c:=x) (k:=48) (by omega);have b2:=AD (c:=x) (k:=57) (by omega)
      go_wp2
      go_meet
      case rel=>exact ⟨x-48,rfl,by go_num,rfl,rfl,by omega,Hv⟩
     ·obtain ⟨lx,CG⟩:∃lx,lx=low x:=⟨_,rfl⟩
      have yu:=fun w=>E0 w x c8
      simp only[←CG] at yu
      by_cases hu:65≤x∧x≤90
      ·have Hv:Hid (yH x=some (x-55)):=by unfold yH;rw[if_neg hd,if_pos hu];rfl
       have dF:=NA hu.1 hu.2
       rw[←CG] at dF
       obtain ⟨u1,u2⟩:=hu
       have PV:=gw (c:=x) (k:=95) (by omega);have b1:=fl (c:=x) (k:=48) (by omega);have b2:=iH (c:=x) (k:=57) (by omega)
       have l1:=fl (c:=lx) (k:=97) (by omega);have l2:=AD (c:=lx) (k:=122) (by omega)
       have l3:97≤lx:=by omega
       have l4:lx≤122:=by omega
       clear CG hd
       go_wp2_with (go_at_call 203;refine (yu _).mono ?_;rintro e w' ⟨rfl,rfl⟩)
       go_meet
       case rel=>exact ⟨x-55,rfl,by congr 1;omega,rfl,rfl,by omega,Hv⟩
      ·by_cases hl:97≤x∧x≤122
       ·have Hv:Hid (yH x=some (x-87)):=by unfold yH;rw[if_neg hd,if_neg hu,if_pos hl];rfl
        have dF:=H9 hl.1 hl.2
        rw[←CG] at dF
        obtain ⟨u1,u2⟩:=hl
        have PV:=gw (c:=x) (k:=95) (by omega);have b1:=fl (c:=x) (k:=48) (by omega);have b2:=iH (c:=x) (k:=57) (by omega)
        have l1:=fl (c:=lx) (k:=97) (by omega);have l2:=AD (c:=lx) (k:=122) (by omega)
        have l3:97≤lx:=by omega
        have l4:lx≤122:=by omega
        clear CG hd hu
        go_wp2_with (go_at_call 203;refine (yu _).mono ?_;rintro e w' ⟨rfl,rfl⟩)
        go_meet
        case rel=>exact ⟨x-87,rfl,by congr 1;omega,rfl,rfl,by omega,Hv⟩
       ·have hv:yH x=none:=by unfold yH;rw[if_neg hd,if_neg hu,if_neg hl]
        have dF:=H8 c8 hu hl
        rw[←CG] at dF
        have hn:bV B M (aI s) 0=none:=by rw[ab gW];simp only[bV,hv]
        have Hn:=al hn
        clear hn
        have P':x<48∨57<x:=by omega
        clear CG hd hu hl hv
        by_cases x95:x=95
        ·have PV:((x:Int)==95)=true:=by simp;omega
         have b1:=fl (c:=x) (k:=48) (by omega);have b2:=iH (c:=x) (k:=57) (by omega)
         clear P' x95
         rcases dF with dF|dF
         ·have l1:=ln (c:=lx) (k:=97) (by omega)
          go_wp2_with (go_at_call 203;refine (yu _).mono ?_;rintro e w' ⟨rfl,rfl⟩)
          go_ret2
          exact PU.bad _ 2 (ab vB) (.inr rfl) (.inr (ab Hn))
         ·have l1:=fl (c:=lx) (k:=97) (by omega);have l2:=iH (c:=lx) (k:=122) (by omega)
          go_wp2_with (go_at_call 203;refine (yu _).mono ?_;rintro e w' ⟨rfl,rfl⟩)
          go_ret2
          exact PU.bad _ 2 (ab vB) (.inr rfl) (.inr (ab Hn))
        ·have PV:=gw (c:=x) (k:=95) (by omega)
         rcases P' with P'|P'
         ·have b1:=ln (c:=x) (k:=48) (by omega)
          rcases dF with dF|dF
          ·have l1:=ln (c:=lx) (k:=97) (by omega)
           go_wp2_with (go_at_call 203;refine (yu _).mono ?_;rintro e w' ⟨rfl,rfl⟩)
           go_ret2
           exact PU.bad _ 2 (ab vB) (.inr rfl) (.inr (ab Hn))
          ·have l1:=fl (c:=lx) (k:=97) (by omega);have l2:=iH (c:=lx) (k:=122) (by omega)
           go_wp2_with (go_at_call 203;refine (yu _).mono ?_;rintro e w' ⟨rfl,rfl⟩)
           go_ret2
           exact PU.bad _ 2 (ab vB) (.inr rfl) (.inr (ab Hn))
         ·have b1:=fl (c:=x) (k:=48) (by omega);have b2:=iH (c:=x) (k:=57) (by omega)
          rcases dF with dF|dF
          ·have l1:=ln (c:=lx) (k:=97) (by omega)
           go_wp2_with (go_at_call 203;refine (yu _).mono ?_;rintro e w' ⟨rfl,rfl⟩)
           go_ret2
           exact PU.bad _ 2 (ab vB) (.inr rfl) (.inr (ab Hn))
          ·have l1:=fl (c:=lx) (k:=97) (by omega);have l2:=iH (c:=lx) (k:=122) (by omega)
           go_wp2_with (go_at_call 203;refine (yu _).mono ?_;rintro e w' ⟨rfl,rfl⟩)
           go_ret2
           exact PU.bad _ 2 (ab vB) (.inr rfl) (.inr (ab Hn))
    case rest =>
     obtain ⟨dn,rfl,rfl,rfl,rfl,hdn,Hv⟩:=hcut
     have bF:=ab gW
     have hv:=ab Hv
     simp only[bV,hv] at bF
     clear gW Hv
     by_cases h8:dn<B
     ·obtain ⟨i8,i9⟩:=(ab HK).k1 dn h8
      rcases (ab HK).k3 a acc dn ha with ⟨Rs,nJ⟩|Rs
      ·first
       |(exfalso;omega)
       |(rw[if_neg (fun q=>nJ q.2)] at bF
         have Hn:=al bF
         clear bF ha fW hv nJ h8
         go_wp2
         go_ret2
         exact PU.bad _ 1 (ab vB) (.inl rfl) (.inr (ab Hn)))
      rcases (ab HK).k5 a acc dn ha Rs hdn with ⟨iov,Lg,nJ⟩|iov
      ·first
       |(exfalso;omega)
       |(rw[if_neg (fun q=>nJ q.2)] at bF
         have Hn:=al bF
         clear bF ha fW hv nJ h8
         go_wp2
         go_ret2
         exact PU.bad _ 1 (ab vB) (.inl rfl) (.inr (ab Hn)))
      rcases (ab HK).k7 a acc dn ha with ⟨imx,Ww⟩|⟨imx,nJ⟩
      ·have HN:=al (show _∧_∧bV B M (aI s) 0=bV B M ((aI s).drop (k+1)) (acc*B+dn) from ⟨(ab HK).k6 a acc dn ha,Ww,by rw[bF,if_pos ⟨h8,Ww⟩]⟩)
       clear bF ha fW hv Ww h8
       go_wp2
       go_roundg (s.size-(k+1))
       case measure=>have:=ab bz;omega
       case rel=>exact ⟨k+1,acc*B+dn,_,rfl,by go_num,by go_num,by omega,rfl,rfl,HN⟩
      ·rw[if_neg (fun q=>nJ q.2)] at bF
       have Hn:=al bF
       clear bF ha fW hv nJ h8
       go_wp2
       go_ret2
       exact PU.bad _ 1 (ab vB) (.inl rfl) (.inr (ab Hn))
     ·obtain ⟨i8,i9⟩:=(ab HK).k2 dn h8
      rw[if_neg (fun q=>h8 q.1)] at bF
      have Hn:=al bF
      clear bF ha fW hv h8
      go_wp2
      go_ret2
      exact PU.bad _ 2 (ab vB) (.inr rfl) (.inr (ab Hn))
   ·obtain rfl:k=s.size:=by omega
    have IK:(aI s).drop s.size=[]:=List.drop_eq_nil_of_le (by rw[aZ];omega)
    rw[IK] at bF
    have Hd:Hid (bV B M (aI s) 0=some acc):=bF
    have Ha:=al ha
    clear bF IK ha fW
    go_wp2
    go_ret2
    rw[ab Ha]
    exact PU.W9 acc (ab vB) (by omega) (ab Hd)
end Go.Proofs.YtichhjfjcinjgaaGreatDoor

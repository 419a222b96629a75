import Derived.Test.YtghioefalckgoaaGreatDoorM21
import Derived.Lib.AppendIntMem
import Derived.Lib.LaidTab
import Derived.Lib.ItoaLen
set_option maxHeartbeats 2000000
set_option maxRecDepth 100000
namespace Go.Proofs.YtghioefalckgoaaGreatDoor
open Go.RowKit
attribute [local go_sem ↓] Go.wp_at_zero Go.wp_at_succ
def mf (s:ByteArray):ByteArray:=if 0≤firstIdx s 46 then s.extract 0 (firstIdx s 46).toNat else s
theorem QH {s:ByteArray}{c:UInt8}{z:Nat} (h:firstIdx s c=(z:Int)):z<s.size:=by
 rw[Lib.firstIdx_eq] at h
 exact (zB (Lib.indexByte_some h).1).1
theorem toList_data (s:ByteArray):s.toList=s.data.toList:=by
 obtain ⟨⟨l⟩⟩:=s
 exact Go.ByteArray.toList_mk l
theorem RF {s:ByteArray} (h:([46]==s.toList)=true):s=⟨#[46]⟩:=by
 have e:s.toList=[46]:=(beq_iff_eq.1 h).symm
 rw[toList_data] at e
 obtain ⟨⟨l⟩⟩:=s
 simp only at e
 rw[e]
theorem Fj (W:World) (s:ByteArray):Calls Tryz.prog 268 #[.string s,.string ⟨#[46]⟩] W fun e w=>e=.returned (.int .i64 (firstIdx s 46))∧w=W:=by
 cases hq:([46]==s.toList) with
 |true =>
  obtain rfl:=RF hq
  have e0:firstIdx ⟨#[46]⟩ 46=0:=by decide +kernel
  rw[e0]
  go_enter Tryz.func268,Tryz.ntmps268
  go_wp2
  go_ret
  exact ⟨rfl,rfl⟩
 |false =>
  go_enter Tryz.func268,Tryz.ntmps268
  go_wp2
  rw[run_callFunc_indexByte Tryz.func275 (by kernel_rfl) (by kernel_rfl) (by kernel_rfl) (by kernel_rfl),run_indexByte_string]
  simp only[Result.andThen]
  go_wp2
  go_ret
  exact ⟨rfl,rfl⟩
theorem IF (W:World) (s:ByteArray) (hs:s.size≤281474976710656):Calls Tryz.prog 212 #[.string s,.string ⟨#[46]⟩] W fun e w=>(∃a b,e=.returned (.tuple #[.string (mf s),.string a,.bool b]))∧∃n,w=W.drewN n:=by
 have HI:=ak (Fj W s)
 obtain ⟨z,hz⟩:∃z,firstIdx s 46=z:=⟨_,rfl⟩
 unfold mf
 rw[hz] at HI ⊢
 by_cases h:0≤z
 ·obtain ⟨k,rfl⟩:∃k:Nat,z=(k:Int):=⟨z.toNat,by omega⟩
  have hk:=QH hz
  have e1:decide ((0:Int)≤(k:Int))=true:=decide_eq_true h
  rw[if_pos h,Int.toNat_natCast]
  clear h hz
  go_enter Tryz.func212,Tryz.ntmps212
  go_wp2_with fail
  refine (ab HI).mono ?_
  rintro e w ⟨rfl,rfl⟩
  clear HI
  go_wp2
  go_quiet (fail)
  go_wp2
  refine bodyPost_ret (results_tmp3 rfl _ _ _) rfl ?_
  exact ⟨⟨_,_,rfl⟩,_,rfl⟩
 ·have e1:decide ((0:Int)≤z)=false:=decide_eq_false h
  rw[if_neg h]
  clear h hz
  go_enter Tryz.func212,Tryz.ntmps212
  go_wp2_with fail
  refine (ab HI).mono ?_
  rintro e w ⟨rfl,rfl⟩
  clear HI
  go_wp2
  refine bodyPost_ret (results_tmp3 rfl _ _ _) rfl ?_
  exact ⟨⟨_,_,rfl⟩,0,rfl⟩
theorem NP (W:World) (s:ByteArray) (hs:s.size≤281474976710656):Calls Tryz.prog 139 #[.string s,.string ⟨#[46]⟩] W fun e w=>(∃a b,e=.returned (.tuple #[.string (mf s),.string a,.bool b]))∧∃n,w=W.drewN n:=by
 have HI:=ak (IF W s hs)
 go_enter Tryz.func139,Tryz.ntmps139
 go_wp2_with fail
 refine (ab HI).mono ?_
 rintro e w ⟨⟨a,b,rfl⟩,n,rfl⟩
 clear HI
 go_wp2
 refine bodyPost_ret (results_tmp3 rfl _ _ _) rfl ?_
 exact ⟨⟨_,_,rfl⟩,n,rfl⟩
def oe (s:ByteArray):ByteArray:=⟨(Lib.trimPrefix s.data.toList [46]).toArray⟩
noncomputable def mT (s:ByteArray):Bool:=decide (s.size≤255)&&fj (oe s)
theorem Ih (W:World) (s:ByteArray):Calls Tryz.prog 213 #[.string s,.string ⟨#[46]⟩] W fun e w=>e=.returned (.string (oe s))∧w=W:=Any.strings_TrimPrefix Tryz.Ff s ⟨#[46]⟩ W
theorem Ad {W:World} (hM:gj W) (s:ByteArray):Calls Tryz.prog 140 #[.string s] W fun e w=>e=.returned (.bool (mT s))∧Below W.heap.size W w:=by
 have HT:=ak (Ih W s)
 have HN:=ak (xB hM (oe s))
 unfold mT
 obtain ⟨b,hb⟩:∃b,fj (oe s)=b:=⟨_,rfl⟩
 rw[hb] at HN ⊢
 clear hb hM
 by_cases hs:s.size≤255
 ·have e1:decide ((s.size:Int)≤255)=true:=decide_eq_true (by omega)
  rw[decide_eq_true hs,Bool.true_and]
  go_enter Tryz.func140,Tryz.ntmps140
  go_wp2_with fail
  refine (ab HT).mono ?_
  rintro e w ⟨rfl,rfl⟩
  clear HT
  go_wp2_with fail
  refine (ab HN).mono ?_
  rintro e w1 ⟨rfl,aY⟩
  have HB:=ak aY
  clear HN aY
  go_wp2
  go_ret
  exact ⟨rfl,ab HB⟩
 ·have e1:decide ((s.size:Int)≤255)=false:=decide_eq_false (by omega)
  rw[decide_eq_false hs,Bool.false_and]
  clear HT HN
  go_enter Tryz.func140,Tryz.ntmps140
  go_wp2
  go_ret
  exact ⟨rfl,zE _ _⟩
def GF (x:ByteArray) (l:List ByteArray):Bool:=l.any fun t=>x.toList==t.toList
theorem Ju {x:ByteArray}{l:List ByteArray}{i:Nat}{t:ByteArray} (h:l[i]?=some t):GF x (l.drop i)=((x.toList==t.toList) ||GF x (l.drop (i+1))):=by
 obtain ⟨hi,rfl⟩:=zB h
 unfold GF
 rw[List.drop_eq_getElem_cons hi,List.any_cons]
theorem Cl {W:World}{v:Value}{l:List ByteArray} (hv:Rl W v l.length (bj l)) (x:ByteArray):Calls Tryz.prog 214 #[v,.string x] W fun e w=>∃r:Int,e=.returned (.int .i64 r)∧decide (0≤r)=GF x l∧w=W:=by
 obtain ⟨a,c,rfl,hn,h2⟩:=hv
 have H2:=ak h2
 clear h2
 go_enter Tryz.func214,Tryz.ntmps214
 go_wp2
 go_loopg [5,8] l.length (fun gk _ v8 wr=>∃(i:Nat),v8=.int .i64 (i:Int)∧gk=l.length-i∧i≤l.length∧wr=W∧Hid (GF x l=GF x (l.drop i)))
 case atStart=>exact ⟨0,rfl,rfl,by omega,rfl,rfl⟩
 case round =>
  obtain ⟨i,rfl,bd,hi,rfl,HA⟩:=hrel
  have bH:=ak bd
  clear bd
  by_cases aU:i<l.length
  ·obtain ⟨g,o,rfl,hg,hc⟩:=ab H2 (by omega)
   obtain ⟨t,ht⟩:∃t,l[i]?=some t:=⟨_,List.getElem?_eq_getElem aU⟩
   have x0:=hc _ _ (gJ ht)
   have HS:=ak (Ju (x:=x) ht)
   have i0:(0:Int)≤(i:Int):=zH _
   have i1:(i:Int)<(l.length:Int):=by omega
   obtain ⟨q,hq⟩:∃q,(x.toList==t.toList)=q:=⟨_,rfl⟩
   rw[hq] at HS
   clear hc ht
   cases q with
   |true =>
    go_wp2
    go_ret
    refine ⟨(i:Int),rfl,?_,rfl⟩
    rw[ab HA,ab HS,Bool.true_or]
    simp
   |false =>
    have bn:=ak aU
    clear aU
    go_wp2
    go_roundg (l.length-(i+1))
    case measure=>have:=ab bH;have:=ab bn;omega
    case rel=>exact ⟨i+1,by go_num,rfl,ab bn,rfl,(ab HA).trans ((ab HS).trans (Bool.false_or _))⟩
  ·obtain rfl:i=l.length:=by omega
   have HN:=ak (show GF x l=false by rw[ab HA,List.drop_length];rfl)
   go_wp2
   go_ret
   refine ⟨-1,rfl,?_,rfl⟩
   rw[ab HN]
   rfl
theorem zg {W:World}{v:Value}{l:List ByteArray} (hv:Rl W v l.length (bj l)) (x:ByteArray):Calls Tryz.prog 142 #[v,.string x] W fun e w=>e=.returned (.bool (GF x l))∧w=W:=by
 have HI:=ak (Cl hv x)
 obtain ⟨a,c,rfl,hn,h2⟩:=hv
 obtain ⟨q,hq⟩:∃q,GF x l=q:=⟨_,rfl⟩
 rw[hq] at HI ⊢
 clear h2 hq
 go_enter Tryz.func142,Tryz.ntmps142
 go_wp2_with fail
 refine (ab HI).mono ?_
 rintro e w ⟨r,rfl,hr,rfl⟩
 have HR:=ak hr
 clear hr HI
 go_wp2
 go_ret
 refine ⟨?_,rfl⟩
 rw[←ab HR]
 rfl
def pH:ByteArray:=⟨#[103,114,111,117,112]⟩
def lg:ByteArray:=⟨#[111,112,116,105,111,110]⟩
def mw:ByteArray:=⟨#[111,112,116,105,111,110,97,108]⟩
def mv:ByteArray:=⟨#[114,101,112,101,97,116,101,100]⟩
def mu:ByteArray:=⟨#[114,101,113,117,105,114,101,100]⟩
def yc:ByteArray:=⟨#[111,110,101,111,102]⟩
def oc:ByteArray:=⟨#[109,101,115,115,97,103,101]⟩
def Dt:ByteArray:=⟨#[101,110,117,109]⟩
def gw:ByteArray:=⟨#[114,101,115,101,114,118,101,100]⟩
def Ds:ByteArray:=⟨#[101,120,116,101,110,100]⟩
def qz:ByteArray:=⟨#[101,120,116,101,110,115,105,111,110,115]⟩
def Cp (d:Fd):List ByteArray:=if d.aZ=4 then [] else if d.aZ≠1 then [pH] else if d.aH≠0 then [lg,pH,mw,mv,mu,yc,oc,Dt,gw] else [oc,Dt,yc,gw,mw,mv,lg,Ds,qz,pH,mu]
theorem Cn {W:World}{xs:List Value}{n c g:Nat}{t:TypeId} (hg:g=W.heap.size) (hn:n≤140737488355328):Rl (W.alloc (.cells xs.toArray t)) (.slice (some ⟨g,0,none⟩) n c) n xs:=by
 subst hg
 refine ⟨_,c,rfl,hn,fun _=>⟨W.heap.size,0,rfl,by rw[zJ];omega,fun j x hx=>?_⟩⟩
 rw[Nat.zero_add,cell_of_row _ _ _ _ _ _ (aE W _)]
 simpa using hx
theorem lj (W:World) (xs:List Value):Rl W (.slice none 0 0) 0 xs:=⟨none,0,rfl,by omega,fun h=>absurd h (by omega)⟩
theorem AL {W:World} (d:Fd):Calls Tryz.prog 143 #[.agg d.cs.toArray] W fun e w=>∃v,e=.returned v∧Rl w v (Cp d).length (bj (Cp d))∧Below W.heap.size W w:=by
 obtain ⟨aZ,key,ty,nm,num,aH⟩:=d
 unfold Fd.cs Cp
 simp only
 have hn:=aE W (.cells #[.int .i64 aZ,.string key,.string ty,.string nm,.int .i64 num,.int .i64 aH] 53)
 have c0:(W.alloc (.cells #[.int .i64 aZ,.string key,.string ty,.string nm,.int .i64 num,.int .i64 aH] 53)).cell? ⟨W.heap.size,0,none⟩=some (.int .i64 aZ):=cell_of_row _ _ _ _ _ _ hn
 have c5:(W.alloc (.cells #[.int .i64 aZ,.string key,.string ty,.string nm,.int .i64 num,.int .i64 aH] 53)).cell? ⟨W.heap.size,5,none⟩=some (.int .i64 aH):=cell_of_row _ _ _ _ _ _ hn
 have HB:Hid (Below W.heap.size W (W.alloc (.cells #[.int .i64 aZ,.string key,.string ty,.string nm,.int .i64 num,.int .i64 aH] 53))):=(zE _ _).alloc (zD _) _
 clear hn
 by_cases h4:aZ=4
 ·subst h4
  rw[if_pos rfl]
  go_enter Tryz.func143,Tryz.ntmps143
  go_wp2
  go_ret
  exact ⟨_,rfl,lj _ _,ab HB⟩
 ·rw[if_neg h4]
  have e4:(aZ==4)=false:=beq_eq_false_iff_ne.2 h4
  by_cases h1:aZ=1
  ·subst h1
   rw[if_neg (by decide)]
   by_cases h0:aH=0
   ·subst h0
    rw[if_neg (by decide)]
    go_enter Tryz.func143,Tryz.ntmps143
    go_wp2
    go_ret
    refine ⟨_,rfl,?_,(ab HB).alloc (ab HB).size _⟩
    refine Cn (g:=W.heap.size+1) (xs:=bj ([oc,Dt,yc,gw,mw,mv,lg,Ds,qz,pH,mu])) (zJ _ _).symm ?_
    decide
   ·rw[if_pos h0]
    have e0:(aH != 0)=true:=by simpa using h0
    go_enter Tryz.func143,Tryz.ntmps143
    go_wp2
    go_ret
    refine ⟨_,rfl,?_,(ab HB).alloc (ab HB).size _⟩
    refine Cn (g:=W.heap.size+1) (xs:=bj ([lg,pH,mw,mv,mu,yc,oc,Dt,gw])) (zJ _ _).symm ?_
    decide
  ·rw[if_pos h1]
   have e1:(aZ != 1)=true:=by simpa using h1
   go_enter Tryz.func143,Tryz.ntmps143
   go_wp2
   go_ret
   refine ⟨_,rfl,?_,(ab HB).alloc (ab HB).size _⟩
   refine Cn (g:=W.heap.size+1) (xs:=bj ([pH])) (zJ _ _).symm ?_
   decide
theorem jH (W:World) (aZ num aH:Int) (key ty nm:ByteArray):((W.alloc (.cells #[.int .i64 aZ,.string key,.string ty,.string nm,.int .i64 num,.int .i64 aH] 53)).cell? ⟨W.heap.size,0,none⟩=some (.int .i64 aZ)∧(W.alloc (.cells #[.int .i64 aZ,.string key,.string ty,.string nm,.int .i64 num,.int .i64 aH] 53)).cell? ⟨W.heap.size,1,none⟩=some (.string key)∧(W.alloc (.cells #[.int .i64 aZ,.string key,.string ty,.string nm,.int .i64 num,.int .i64 aH] 53)).cell? ⟨W.heap.size,2,none⟩=some (.string ty)∧(W.alloc (.cells #[.int .i64 aZ,.string key,.string ty,.string nm,.int .i64 num,.int .i64 aH] 53)).cell? ⟨W.heap.size,3,none⟩=some (.string nm)∧(W.alloc (.cells #[.int .i64 aZ,.string key,.string ty,.string nm,.int .i64 num,.int .i64 aH] 53)).cell? ⟨W.heap.size,4,none⟩=some (.int .i64 num)∧(W.alloc (.cells #[.int .i64 aZ,.string key,.string ty,.string nm,.int .i64 num,.int .i64 aH] 53)).cell? ⟨W.heap.size,5,none⟩=some (.int .i64 aH))∧(W.alloc (.cells #[.int .i64 aZ,.string key,.string ty,.string nm,.int .i64 num,.int .i64 aH] 53)).heap[W.heap.size]?=some (.cells #[.int .i64 aZ,.string key,.string ty,.string nm,.int .i64 num,.int .i64 aH] 53 (0,0))∧Below W.heap.size W (W.alloc (.cells #[.int .i64 aZ,.string key,.string ty,.string nm,.int .i64 num,.int .i64 aH] 53)):=by
 have hn:=aE W (.cells #[.int .i64 aZ,.string key,.string ty,.string nm,.int .i64 num,.int .i64 aH] 53)
 exact ⟨⟨cell_of_row _ _ _ _ _ _ hn,cell_of_row _ _ _ _ _ _ hn,cell_of_row _ _ _ _ _ _ hn,cell_of_row _ _ _ _ _ _ hn,cell_of_row _ _ _ _ _ _ hn,cell_of_row _ _ _ _ _ _ hn⟩,hn,(zE _ _).alloc (zD _) _⟩
theorem Eg {w:World}{b:Nat}{aZ num aH:Int}{key ty nm:ByteArray} (hn:w.heap[b]?=some (.cells #[.int .i64 aZ,.string key,.string ty,.string nm,.int .i64 num,.int .i64 aH] 53 (0,0))):w.cell? ⟨b,0,none⟩=some (.int .i64 aZ)∧w.cell? ⟨b,1,none⟩=some (.string key)∧w.cell? ⟨b,2,none⟩=some (.string ty)∧w.cell? ⟨b,3,none⟩=some (.string nm)∧w.cell? ⟨b,4,none⟩=some (.int .i64 num)∧w.cell? ⟨b,5,none⟩=some (.int .i64 aH) :=
 ⟨cell_of_row _ _ _ _ _ _ hn,cell_of_row _ _ _ _ _ _ hn,cell_of_row _ _ _ _ _ _ hn,cell_of_row _ _ _ _ _ _ hn,cell_of_row _ _ _ _ _ _ hn,cell_of_row _ _ _ _ _ _ hn⟩
noncomputable def vL (d:Fd):Bool:=if d.aZ=1 then d.key.toList.isEmpty else if d.aZ=2∨d.aZ=3 then d.key.toList.isEmpty&&(d.aH==0) else if d.aZ=4 then mT d.key&&(d.aH==0) else false
theorem KB {W:World} (hM:gj W) (d:Fd):Calls Tryz.prog 141 #[.agg d.cs.toArray] W fun e w=>e=.returned (.bool (vL d))∧Below W.heap.size W w:=by
 obtain ⟨aZ,key,ty,nm,num,aH⟩:=d
 unfold Fd.cs vL
 simp only
 obtain ⟨⟨c0,c1,c2,c3,c4,c5⟩,-,hb⟩:=jH W aZ num aH key ty nm
 have HT:=ak (Ad (hM.up hb hM.1) key)
 have HB:=ak hb
 obtain ⟨qt,Nb⟩:∃q,mT key=q:=⟨_,rfl⟩
 rw[Nb] at HT ⊢
 clear hb hM Nb c2 c3 c4
 obtain ⟨qk,hqk⟩:∃q,key.toList.isEmpty=q:=⟨_,rfl⟩
 obtain ⟨qo,hqo⟩:∃q,(aH==0)=q:=⟨_,rfl⟩
 rw[hqk,hqo]
 by_cases h1:aZ=1
 ·subst h1
  rw[if_pos rfl]
  clear HT hqo
  go_enter Tryz.func141,Tryz.ntmps141
  go_wp2
  go_ret
  exact ⟨rfl,ab HB⟩
 ·rw[if_neg h1]
  have e1:(aZ==1)=false:=beq_eq_false_iff_ne.2 h1
  by_cases h2:aZ=2
  ·subst h2
   rw[if_pos (.inl rfl)]
   clear HT h1 e1
   cases qk with
   |false =>
    go_enter Tryz.func141,Tryz.ntmps141
    go_wp2
    go_ret
    exact ⟨rfl,ab HB⟩
   |true =>
    go_enter Tryz.func141,Tryz.ntmps141
    go_wp2
    go_ret
    exact ⟨rfl,ab HB⟩
  ·have e2:(aZ==2)=false:=beq_eq_false_iff_ne.2 h2
   by_cases h3:aZ=3
   ·subst h3
    rw[if_pos (.inr rfl)]
    clear HT h1 e1 h2 e2
    cases qk with
    |false =>
     go_enter Tryz.func141,Tryz.ntmps141
     go_wp2
     go_ret
     exact ⟨rfl,ab HB⟩
    |true =>
     go_enter Tryz.func141,Tryz.ntmps141
     go_wp2
     go_ret
     exact ⟨rfl,ab HB⟩
   ·rw[if_neg (by omega)]
    have e3:(aZ==3)=false:=beq_eq_false_iff_ne.2 h3
    by_cases h4:aZ=4
    ·subst h4
     rw[if_pos rfl]
     clear h1 e1 h2 e2 h3 e3 hqk
     go_enter Tryz.func141,Tryz.ntmps141
     go_wp2_with fail
     refine (ab HT).mono ?_
     rintro e w1 ⟨rfl,aY⟩
     have ei:=ak ((ab HB).trans (aY.mono (ab HB).size))
     have Yf:=(aY.cell (p:=⟨W.heap.size,5,none⟩) (by rw[zJ];exact Nat.lt_succ_self _)).trans c5
     clear HT HB aY
     cases qt with
     |false =>
      go_wp2
      go_ret
      exact ⟨rfl,ab ei⟩
     |true =>
      go_wp2
      go_ret
      exact ⟨rfl,ab ei⟩
    ·rw[if_neg h4]
     have e4:(aZ==4)=false:=beq_eq_false_iff_ne.2 h4
     clear HT h1 h2 h3 h4
     go_enter Tryz.func141,Tryz.ntmps141
     go_wp2
     go_ret
     exact ⟨rfl,ab HB⟩
noncomputable def eK (d:Fd):Bool:=dG d.name&&(decide (0≤d.num)&&decide (d.num≤2147483647))&&mT d.ty&&vL d&&!GF (mf d.ty) (Cp d)
theorem FO {W:World} (hM:gj W) (d:Fd) (hs:d.ty.size≤281474976710656):Calls Tryz.prog 90 #[.agg d.cs.toArray] W fun e w=>e=.returned (.bool (eK d))∧Below W.heap.size W w:=by
 obtain ⟨aZ,key,ty,nm,num,aH⟩:=d
 obtain ⟨⟨c0,c1,c2,c3,c4,c5⟩,kb,hb⟩:=jH W aZ num aH key ty nm
 have HC:=ak (fun w=>NP w ty hs)
 have HW:=ak (fun w=>gN w nm)
 have HN:=ak (fun w=>nw w num 0 2147483647)
 have HT:=ak (fun w (h:gj w)=>Ad h ty)
 have HD:=ak (fun w (h:gj w)=>KB h ⟨aZ,key,ty,nm,num,aH⟩)
 have HR:=ak (fun w=>AL (W:=w) ⟨aZ,key,ty,nm,num,aH⟩)
 have HI:=ak (fun w v hv=>zg (W:=w) (v:=v) (l:=Cp ⟨aZ,key,ty,nm,num,aH⟩) hv (mf ty))
 unfold eK
 simp only at hs ⊢
 obtain ⟨q1,h1⟩:∃q,dG nm=q:=⟨_,rfl⟩
 obtain ⟨q2,h2⟩:∃q,(decide (0≤num)&&decide (num≤2147483647))=q:=⟨_,rfl⟩
 obtain ⟨q3,h3⟩:∃q,mT ty=q:=⟨_,rfl⟩
 obtain ⟨q4,h4⟩:∃q,vL ⟨aZ,key,ty,nm,num,aH⟩=q:=⟨_,rfl⟩
 obtain ⟨q5,h5⟩:∃q,GF (mf ty) (Cp ⟨aZ,key,ty,nm,num,aH⟩)=q:=⟨_,rfl⟩
 rw[h1] at HW ⊢
 rw[h2] at HN ⊢
 rw[h3] at HT ⊢
 rw[h4] at HD ⊢
 rw[h5] at HI ⊢
 obtain ⟨fy,XW⟩:∃x,mf ty=x:=⟨_,rfl⟩
 rw[XW] at HC HI
 obtain ⟨V,hV⟩:∃V,(W.alloc (.cells #[.int .i64 aZ,.string key,.string ty,.string nm,.int .i64 num,.int .i64 aH] 53))=V:=⟨_,rfl⟩
 have HM:=ak (hM.up hb hM.1)
 have HB:=ak hb
 rw[hV] at HM HB c0 c1 c2 c3 c4 c5 kb
 unfold Fd.cs at HD HR ⊢
 simp only at HD HR ⊢
 clear h1 h2 h3 h4 h5 XW hM hb hs
 go_enter Tryz.func90,Tryz.ntmps90
 go_wp2_with fail
 refine (ab HC _).mono ?_
 rintro e w1 ⟨⟨ca,cb,rfl⟩,n1,rfl⟩
 have HK:=ak (show (V.drewN n1).heap[W.heap.size]?=_ from kb)
 have ei:Hid (Below W.heap.size W (V.drewN n1)):=below_drewN (ab HB) n1
 have Lg:Hid (gj (V.drewN n1)):=ab HM
 clear HB HM kb HC
 go_wp2_with fail
 obtain ⟨w1,bM⟩:∃w,V.drewN n1=w:=⟨_,rfl⟩
 rw[bM] at HK ei Lg
 rw[bM]
 clear bM c0 c1 c2 c3 c4 c5 hV
 refine (ab HW _).mono ?_
 rintro e w ⟨rfl,rfl⟩
 cases q1 with
 |false =>
  go_wp2
  go_ret
  exact ⟨rfl,ab ei⟩
 |true =>
 obtain ⟨c0,c1,c2,c3,c4,c5⟩:=Eg (ab HK)
 go_wp2_with fail
 refine (ab HN _).mono ?_
 rintro e w' ⟨rfl,rfl⟩
 cases q2 with
 |false =>
  go_wp2
  go_ret
  exact ⟨rfl,ab ei⟩
 |true =>
 go_wp2_with fail
 refine (ab HT _ (ab Lg)).mono ?_
 rintro e w2 ⟨rfl,b9⟩
 have jT:=ak ((b9.block _ (zA (ab HK)).1).trans (ab HK))
 have HM2:=ak ((ab Lg).up b9 (ab Lg).1)
 have dF:=ak ((ab ei).trans (b9.mono (ab ei).size))
 clear b9 HK Lg ei c0 c1 c2 c3 c4 c5 HT
 cases q3 with
 |false =>
  go_wp2
  go_ret
  exact ⟨rfl,ab dF⟩
 |true =>
 obtain ⟨c0,c1,c2,c3,c4,c5⟩:=Eg (ab jT)
 go_wp2_with fail
 refine (ab HD _ (ab HM2)).mono ?_
 rintro e w3 ⟨rfl,cY⟩
 have wE:=ak ((cY.block _ (zA (ab jT)).1).trans (ab jT))
 have lG:=ak ((ab dF).trans (cY.mono (ab dF).size))
 clear cY jT HM2 dF c0 c1 c2 c3 c4 c5 HD
 cases q4 with
 |false =>
  go_wp2
  go_ret
  exact ⟨rfl,ab lG⟩
 |true =>
 obtain ⟨c0,c1,c2,c3,c4,c5⟩:=Eg (ab wE)
 go_wp2_with fail
 refine (ab HR _).mono ?_
 rintro e w4 ⟨v4,rfl,hv4,lb⟩
 have HI4:=ak (ab HI _ v4 hv4)
 have SS:=ak ((ab lG).trans (lb.mono (ab lG).size))
 clear lb wE lG c0 c1 c2 c3 c4 c5 HR HI hv4
 go_wp2_with fail
 refine (ab HI4).mono ?_
 rintro e w5 ⟨rfl,rfl⟩
 clear HI4
 go_wp2
 go_ret
 exact ⟨rfl,ab SS⟩
end Go.Proofs.YtghioefalckgoaaGreatDoor
namespace Go.Proofs.YtghioefalckgoaaGreatDoor
open Go.RowKit Go.Shelf
attribute [local go_sem ↓] Go.wp_at_zero Go.wp_at_succ
def gG (W:World):Prop:=Lib.TabIs Tryz.prog W "internal/strconv.uint64pow10" .u64 Lib.pow10Tab
theorem gG.up {W w:World} (h:gG W) (hb:Below W.heap.size W w):gG w:=by
 unfold gG Lib.TabIs World.var? at h ⊢
 obtain ⟨g,hg,hm⟩:=Option.bind_eq_some_iff.1 h
 rw[hg]
 show (match w.heap[g]? with
  |some (.cells cs _ _)=>some cs
  |_=>none)=_
 have aU:g<W.heap.size:=by
  rcases Nat.lt_or_ge g W.heap.size with q|q
  ·exact q
  ·rw[Array.getElem?_eq_none q] at hm
   cases hm
 rw[hb.block g aU]
 exact hm
def j5 (n:Int):ByteArray:=⟨(Lib.itoa n).toArray⟩
theorem oR {w:World} (h:gG w) (n:Int) (h0:-9223372036854775808≤n) (h1:n≤9223372036854775807):Calls Tryz.prog 160 #[.int .i64 n] w fun e w'=>e=.returned (.string (j5 n))∧Below w.heap.size w w':=by
 refine (Any.strconv_Itoa Tryz.Fe n h0 h1 w h).mono ?_
 rintro e w' ⟨rfl,k,os,rfl⟩
 exact ⟨rfl,Lib.below_grow _ w (zD _) k os⟩
theorem gC {n:Int} (h0:-9223372036854775808≤n) (h1:n≤9223372036854775807):(j5 n).size≤21:=by
 show (Lib.itoa n).length≤21
 unfold Lib.itoa
 split
 ·rw[List.length_cons,Lib.decDigits_length]
  have:=Lib.nDigits_le20 n.natAbs (by omega)
  omega
 ·rw[Lib.decDigits_length]
  have:=Lib.nDigits_le20 n.toNat (by omega)
  omega
def Qh:ByteArray:=⟨#[111,112,116,105,111,110,97,108,32]⟩
def Qg:ByteArray:=⟨#[114,101,112,101,97,116,101,100,32]⟩
def Qi:ByteArray:=⟨#[109,97,112,60]⟩
def Qj:ByteArray:=⟨#[44,32]⟩
def ZU:ByteArray:=⟨#[62]⟩
def ZS:ByteArray:=⟨#[32,116,111,32]⟩
def Cm:ByteArray:=⟨#[32,116,111,32,109,97,120]⟩
def xj (d:Fd):ByteArray:=if d.aZ=2 then Qh++d.ty else if d.aZ=3 then Qg++d.ty else if d.aZ=4 then Qi++d.key++Qj++d.ty++ZU else d.ty
theorem yg {W:World} (d:Fd) (hk:d.key.size≤255) (ht:d.ty.size≤255):Calls Tryz.prog 159 #[.agg d.cs.toArray] W fun e w=>e=.returned (.string (xj d))∧Below W.heap.size W w:=by
 obtain ⟨aZ,key,ty,nm,num,aH⟩:=d
 unfold Fd.cs xj Qh Qg Qi Qj ZU
 simp only at hk ht ⊢
 obtain ⟨⟨c0,c1,c2,c3,c4,c5⟩,-,hb⟩:=jH W aZ num aH key ty nm
 have HB:=ak hb
 clear hb c3 c4 c5
 by_cases h2:aZ=2
 ·subst h2
  rw[if_pos rfl]
  go_enter Tryz.func159,Tryz.ntmps159
  go_wp2
  go_ret
  exact ⟨rfl,ab HB⟩
 ·rw[if_neg h2]
  have e2:(aZ==2)=false:=beq_eq_false_iff_ne.2 h2
  by_cases h3:aZ=3
  ·subst h3
   rw[if_pos rfl]
   go_enter Tryz.func159,Tryz.ntmps159
   go_wp2
   go_ret
   exact ⟨rfl,ab HB⟩
  ·rw[if_neg h3]
   have e3:(aZ==3)=false:=beq_eq_false_iff_ne.2 h3
   by_cases h4:aZ=4
   ·subst h4
    rw[if_pos rfl]
    go_enter Tryz.func159,Tryz.ntmps159
    go_wp2
    go_ret
    exact ⟨rfl,ab HB⟩
   ·rw[if_neg h4]
    have e4:(aZ==4)=false:=beq_eq_false_iff_ne.2 h4
    go_enter Tryz.func159,Tryz.ntmps159
    go_wp2
    go_ret
    exact ⟨rfl,ab HB⟩
def yr (most:Int) (r:Int×Int):ByteArray:=if r.2=r.1 then j5 r.1 else if r.2=most then j5 r.1++Cm else j5 r.1++ZS++j5 r.2
theorem AE {W:World} (hP:gG W) (a b most:Int) (ha:-2147483648≤a∧a≤2147483647) (hb:-2147483648≤b∧b≤2147483647):Calls Tryz.prog 226 #[.agg #[.int .i64 a,.int .i64 b],.int .i64 most] W fun e w=>e=.returned (.string (yr most (a,b)))∧Below W.heap.size W w:=by
 have hn:=aE W (.cells #[.int .i64 a,.int .i64 b] 83)
 have bq:Below W.heap.size W (W.alloc (.cells #[.int .i64 a,.int .i64 b] 83)):=(zE _ _).alloc (zD _) _
 obtain ⟨V,hV⟩:∃V,W.alloc (.cells #[.int .i64 a,.int .i64 b] 83)=V:=⟨_,rfl⟩
 rw[hV] at hn bq
 have c0:V.cell? ⟨W.heap.size,0,none⟩=some (.int .i64 a):=cell_of_row _ _ _ _ _ _ hn
 have c1:V.cell? ⟨W.heap.size,1,none⟩=some (.int .i64 b):=cell_of_row _ _ _ _ _ _ hn
 have HI:=ak (oR (hP.up bq) a (by omega) (by omega))
 have Xi:=ak (fun w (h:gG w)=>oR h b (by omega) (by omega))
 have HB:=ak bq
 have HN:=ak hn
 have Lf:Hid (∀w,Below W.heap.size W w→gG w):=fun w h=>hP.up h
 have za:=gC (n:=a) (by omega) (by omega)
 have zb:=gC (n:=b) (by omega) (by omega)
 unfold yr Cm ZS
 simp only
 obtain ⟨ta,hta⟩:∃t,j5 a=t:=⟨_,rfl⟩
 obtain ⟨tb,OZ⟩:∃t,j5 b=t:=⟨_,rfl⟩
 rw[hta] at HI za ⊢
 rw[OZ] at Xi zb ⊢
 clear hn bq hP hta OZ ha hb
 go_enter Tryz.func226,Tryz.ntmps226
 go_wp2_with fail
 refine (ab HI).mono ?_
 rintro e w1 ⟨rfl,aY⟩
 have LA:=(aY.block _ (zA (ab HN)).1).trans (ab HN)
 have d0:w1.cell? ⟨W.heap.size,0,none⟩=some (.int .i64 a):=cell_of_row _ _ _ _ _ _ LA
 have d1:w1.cell? ⟨W.heap.size,1,none⟩=some (.int .i64 b):=cell_of_row _ _ _ _ _ _ LA
 have ei:=ak ((ab HB).trans (aY.mono (ab HB).size))
 clear aY HI HN HB c0 c1 LA
 by_cases h1:b=a
 ·have e1:(b==a)=true:=beq_iff_eq.2 h1
  clear Xi Lf
  go_wp2
  go_ret
  exact ⟨rfl,ab ei⟩
 ·have e1:(b==a)=false:=beq_eq_false_iff_ne.2 h1
  by_cases h2:b=most
  ·have e2:(b==most)=true:=beq_iff_eq.2 h2
   clear Xi Lf
   go_wp2
   go_ret
   first|exact ⟨rfl,ab ei⟩|(rw[if_neg h1,if_pos h2];exact ⟨rfl,ab ei⟩)|(rw[if_neg h1];exact ⟨rfl,ab ei⟩)
  ·have e2:(b==most)=false:=beq_eq_false_iff_ne.2 h2
   have T0:=ak (ab Xi _ (ab Lf _ (ab ei)))
   clear Xi Lf
   go_wp2_with fail
   refine (ab T0).mono ?_
   rintro e w2 ⟨rfl,b9⟩
   have dF:=ak ((ab ei).trans (b9.mono (ab ei).size))
   clear b9 T0 ei
   go_wp2
   go_ret
   first|exact ⟨rfl,ab dF⟩|(rw[if_neg h1,if_neg h2];exact ⟨rfl,ab dF⟩)
end Go.Proofs.YtghioefalckgoaaGreatDoor
namespace Go.Proofs.YtghioefalckgoaaGreatDoor
open Go.RowKit
attribute [local go_sem ↓] Go.wp_at_zero Go.wp_at_succ
theorem CF:(Tryz.prog.info? 9).map (fun i=>(i.zero,i.size,i.bytes))=some (some (.string ByteArray.empty),1,16):=by kernel_rfl
theorem cM {B t sz n:Nat}{v:Value}{xs:List Value}{w w':World} (h:w.ownsRow B t sz v n xs) (hb:Below w.heap.size w w'):w'.ownsRow B t sz v n xs:=by
 refine h.kept (show w.grownBy w' none from ⟨hb.os,hb.tape,hb.output,hb.size,fun k hk _=>hb.block k hk⟩) ?_
 cases v.ownBlock with
 |none=>exact .inl rfl
 |some k=>exact .inr (by simp)
theorem Ah {α:Type}{l:List α}{T:α→ByteArray}{i:Nat}{x:α} (h:l[i]?=some x):bj ((l.take (i+1)).map T)=bj ((l.take i).map T)++[.string (T x)]:=by
 obtain ⟨hi,rfl⟩:=zB h
 rw[List.take_succ_eq_append_getElem hi,List.map_append]
 unfold bj
 simp
theorem FV {W:World}{v:Value}{l:List (Int×Int)} (hv:Rl W v l.length (eP l)) (hl:l.length≤4096) {f:Fv} (db:f.ok) {T:Int×Int→ByteArray} (w0:World) (hw:Below W.heap.size W w0)
  (hf:∀r ∈ l,∀w,Below w0.heap.size w0 w→Calls Tryz.prog f.f (f.fs.push (.agg #[.int .i64 r.1,.int .i64 r.2])++f.cp) w fun e w'=>e=.returned (.string (T r))∧Below w.heap.size w w') :
  Calls Tryz.prog 224 #[v,f.val] w0 fun e w=>∃u,e=.returned u∧w.ownsRow w0.heap.size 9 1 u l.length (bj (l.map T))∧Below w0.heap.size w0 w:=by
 obtain ⟨a,c,rfl,hn,h2⟩:=hv
 obtain ⟨qK,fs,cp⟩:=f
 obtain ⟨i0,hi,fX,gp,fJ⟩:=info_parts CF
 unfold Fv.val
 unfold Fv.ok at db
 simp only at db hf ⊢
 have H2:=ak h2
 have HF:=ak hf
 have HW:=ak hw
 clear h2 hf hw
 go_enter Tryz.func224,Tryz.ntmps224
 go_wp2
 go_loopg [5,7,10] l.length (fun gk v5 _ v10 wr=>∃(i:Nat),v10=.int .i64 (i:Int)∧gk=l.length-i∧i≤l.length∧Hid (wr.ownsRow w0.heap.size 9 1 v5 i (bj ((l.take i).map T)))∧Hid (Below w0.heap.size w0 wr))
 case atStart=>exact ⟨0,rfl,rfl,by omega,⟨rfl,.inl ⟨rfl,rfl⟩⟩,zE _ _⟩
 case round =>
  obtain ⟨i,rfl,bd,fY,HO,HB⟩:=hrel
  have bH:=ak bd
  clear bd
  by_cases aU:i<l.length
  ·obtain ⟨g,o,rfl,hg,hc⟩:=ab H2 (by omega)
   have hr:=List.getElem?_eq_getElem aU
   have bQ:=List.getElem_mem aU
   obtain ⟨r,oW⟩:∃r,l[i]=r:=⟨_,rfl⟩
   rw[oW] at hr bQ
   have dh:=ak (show Below W.heap.size W wr from (ab HW).trans ((ab HB).mono (ab HW).size))
   have x0:=((ab dh).cell (p:=⟨g,o+(i*2+0),none⟩) hg).trans (hc _ _ (fN hr (j:=0) (by decide)))
   have x1:=((ab dh).cell (p:=⟨g,o+(i*2+1),none⟩) hg).trans (hc _ _ (fN hr (j:=1) (by decide)))
   rw[Nat.add_zero] at x0
   rw[←Nat.add_assoc] at x1
   have cy:=aE wr (.cells #[.int .i64 r.1,.int .i64 r.2] 83)
   have bq:Below wr.heap.size wr (wr.alloc (.cells #[.int .i64 r.1,.int .i64 r.2] 83)):=(zE _ _).alloc (zD _) _
   obtain ⟨V,hV⟩:∃V,wr.alloc (.cells #[.int .i64 r.1,.int .i64 r.2] 83)=V:=⟨_,rfl⟩
   rw[hV] at cy bq
   have b0:V.cell? ⟨wr.heap.size,0,none⟩=some (.int .i64 r.1):=cell_of_row _ _ _ _ _ _ cy
   have b1:V.cell? ⟨wr.heap.size,1,none⟩=some (.int .i64 r.2):=cell_of_row _ _ _ _ _ _ cy
   clear cy
   have G0:=ak ((ab HB).trans (bq.mono (ab HB).size))
   have Gt:=ak (cM (ab HO) bq)
   have HC:=ak (ab HF r bQ V (ab G0))
   have HT:=ak (Ah (T:=T) hr)
   have Fo:(0:Int)≤(i:Int):=zH _
   have i1:(i:Int)<(l.length:Int):=by omega
   have bn:=ak aU
   have Hl:=ak hl
   clear hc hr bQ oW bq HO HB dh aU
   go_wp2_with fail
   refine (ab HC).mono ?_
   rintro e w1 ⟨rfl,aY⟩
   have Oq:=ak (cM (ab Gt) aY)
   have ei:=ak ((ab G0).trans (aY.mono (ab G0).size))
   have eZ:=ak (ab ei).size
   clear aY HC Gt G0
   go_wp2_with (at_builtin;refine wpList_append_own_at _ rfl _ _ 22 rfl w0.heap.size 9 i0 (.string ByteArray.empty) 1 16 Tryz.underlying22 hi fX gp fJ rfl (by decide) _ _ _ rfl ((ab Oq).alloc _) ⟨w1.heap.size,0,none⟩ 1 1 [.string (T r)] rfl rfl (cell_one_new _ _ _) (by simp[Value.oneCell']) (by have:=ab bn;have:=ab Hl;unfold maxLen;omega) (by have:=ab bn;have:=ab Hl;omega) (by rw[zJ];have:=ab eZ;omega) ?_;intro v' w2 ho cE _ _;have jj:=ak ho;have dF:=ak (((ab ei).alloc (ab ei).size _).grown cE (by rw[zJ];have:=ab eZ;omega) (fun k e=>((ab Oq).lt k e).1));clear ho cE)
   rw[←ab HT] at jj
   go_roundg (l.length-(i+1))
   case measure=>have:=ab bH;have:=ab bn;omega
   case rel=>exact ⟨i+1,by go_num,rfl,ab bn,jj,dF⟩
  ·obtain rfl:i=l.length:=by omega
   have hO:=ab HO
   rw[List.take_length] at hO
   have jj:=ak hO
   clear hO
   go_wp2
   go_ret
   exact ⟨_,rfl,ab jj,ab HB⟩
theorem FU {W:World}{v:Value}{l:List (ByteArray)} (hv:Rl W v l.length (bj l)) (hl:l.length≤4096) {f:Fv} (db:f.ok) {T:ByteArray→ByteArray} (w0:World) (hw:Below W.heap.size W w0)
  (hf:∀r ∈ l,∀w,Below w0.heap.size w0 w→Calls Tryz.prog f.f (f.fs.push (.string r)++f.cp) w fun e w'=>e=.returned (.string (T r))∧Below w.heap.size w w') :
  Calls Tryz.prog 72 #[v,f.val] w0 fun e w=>∃u,e=.returned u∧w.ownsRow w0.heap.size 9 1 u l.length (bj (l.map T))∧Below w0.heap.size w0 w:=by
 obtain ⟨a,c,rfl,hn,h2⟩:=hv
 obtain ⟨qK,fs,cp⟩:=f
 obtain ⟨i0,hi,fX,gp,fJ⟩:=info_parts CF
 unfold Fv.val
 unfold Fv.ok at db
 simp only at db hf ⊢
 have H2:=ak h2
 have HF:=ak hf
 have HW:=ak hw
 clear h2 hf hw
 go_enter Tryz.func72,Tryz.ntmps72
 go_wp2
 go_loopg [5,7,10] l.length (fun gk v5 _ v10 wr=>∃(i:Nat),v10=.int .i64 (i:Int)∧gk=l.length-i∧i≤l.length∧Hid (wr.ownsRow w0.heap.size 9 1 v5 i (bj ((l.take i).map T)))∧Hid (Below w0.heap.size w0 wr))
 case atStart=>exact ⟨0,rfl,rfl,by omega,⟨rfl,.inl ⟨rfl,rfl⟩⟩,zE _ _⟩
 case round =>
  obtain ⟨i,rfl,bd,fY,HO,HB⟩:=hrel
  have bH:=ak bd
  clear bd
  by_cases aU:i<l.length
  ·obtain ⟨g,o,rfl,hg,hc⟩:=ab H2 (by omega)
   have hr:=List.getElem?_eq_getElem aU
   have bQ:=List.getElem_mem aU
   obtain ⟨r,oW⟩:∃r,l[i]=r:=⟨_,rfl⟩
   rw[oW] at hr bQ
   have dh:=ak (show Below W.heap.size W wr from (ab HW).trans ((ab HB).mono (ab HW).size))
   have x0:=((ab dh).cell (p:=⟨g,o+i,none⟩) hg).trans (hc _ _ (gJ hr))
   have bq:Below wr.heap.size wr wr:=zE _ _
   have G0:=ak ((ab HB).trans (bq.mono (ab HB).size))
   have Gt:=ak (cM (ab HO) bq)
   have HC:=ak (ab HF r bQ wr (ab G0))
   have HT:=ak (Ah (T:=T) hr)
   have Fo:(0:Int)≤(i:Int):=zH _
   have i1:(i:Int)<(l.length:Int):=by omega
   have bn:=ak aU
   have Hl:=ak hl
   clear hc hr bQ oW bq HO HB dh aU
   go_wp2_with fail
   refine (ab HC).mono ?_
   rintro e w1 ⟨rfl,aY⟩
   have Oq:=ak (cM (ab Gt) aY)
   have ei:=ak ((ab G0).trans (aY.mono (ab G0).size))
   have eZ:=ak (ab ei).size
   clear aY HC Gt G0
   go_wp2_with (at_builtin;refine wpList_append_own_at _ rfl _ _ 22 rfl w0.heap.size 9 i0 (.string ByteArray.empty) 1 16 Tryz.underlying22 hi fX gp fJ rfl (by decide) _ _ _ rfl ((ab Oq).alloc _) ⟨w1.heap.size,0,none⟩ 1 1 [.string (T r)] rfl rfl (cell_one_new _ _ _) (by simp[Value.oneCell']) (by have:=ab bn;have:=ab Hl;unfold maxLen;omega) (by have:=ab bn;have:=ab Hl;omega) (by rw[zJ];have:=ab eZ;omega) ?_;intro v' w2 ho cE _ _;have jj:=ak ho;have dF:=ak (((ab ei).alloc (ab ei).size _).grown cE (by rw[zJ];have:=ab eZ;omega) (fun k e=>((ab Oq).lt k e).1));clear ho cE)
   rw[←ab HT] at jj
   go_roundg (l.length-(i+1))
   case measure=>have:=ab bH;have:=ab bn;omega
   case rel=>exact ⟨i+1,by go_num,rfl,ab bn,jj,dF⟩
  ·obtain rfl:i=l.length:=by omega
   have hO:=ab HO
   rw[List.take_length] at hO
   have jj:=ak hO
   clear hO
   go_wp2
   go_ret
   exact ⟨_,rfl,ab jj,ab HB⟩
end Go.Proofs.YtghioefalckgoaaGreatDoor

import Derived.Test.YtichhjfjcinjgaaGreatDoorM13
import Derived.Lib.AppendIntMem
import Derived.Lib.LaidTab
import Derived.Lib.ItoaLen
set_option maxHeartbeats 2000000
set_option maxRecDepth 100000
namespace Go.Proofs.YtichhjfjcinjgaaGreatDoor
open Go.RowKit
attribute [local go_sem ↓] Go.wp_at_zero Go.wp_at_succ
def fa (s:ByteArray):ByteArray:=if 0≤firstIdx s 46 then s.extract 0 (firstIdx s 46).toNat else s
theorem Nf {s:ByteArray}{c:UInt8}{z:Nat} (h:firstIdx s c=(z:Int)):z<s.size:=by
 rw[Lib.firstIdx_eq] at h
 exact (zB (Lib.indexByte_some h).1).1
theorem toList_data (s:ByteArray):s.toList=s.data.toList:=by
 obtain ⟨⟨l⟩⟩:=s
 exact Go.ByteArray.toList_mk l
theorem NV {s:ByteArray} (h:([46]==s.toList)=true):s=⟨#[46]⟩:=by
 have e:s.toList=[46]:=(beq_iff_eq.1 h).symm
 rw[toList_data] at e
 obtain ⟨⟨l⟩⟩:=s
 simp only at e
 rw[e]
theorem Er (W:World) (s:ByteArray):Calls Tryz.prog 187 #[.string s,.string ⟨#[46]⟩] W fun e w=>e=.returned (.int .i64 (firstIdx s 46))∧w=W:=by
 cases hq:([46]==s.toList) with
 |true =>
  obtain rfl:=NV hq
  have e0:firstIdx ⟨#[46]⟩ 46=0:=by decide +kernel
  rw[e0]
  go_enter Tryz.func187,Tryz.ntmps187
  go_wp2
  go_ret
  exact ⟨rfl,rfl⟩
 |false =>
  go_enter Tryz.func187,Tryz.ntmps187
  go_wp2
  rw[run_callFunc_indexByte Tryz.func194 (by kernel_rfl) (by kernel_rfl) (by kernel_rfl) (by kernel_rfl),run_indexByte_string]
  simp only[Result.andThen]
  go_wp2
  go_ret
  exact ⟨rfl,rfl⟩
theorem F7 (W:World) (s:ByteArray) (hs:s.size≤281474976710656):Calls Tryz.prog 158 #[.string s,.string ⟨#[46]⟩] W fun e w=>(∃a b,e=.returned (.tuple #[.string (fa s),.string a,.bool b]))∧∃n,w=W.drewN n:=by
 have HI:=al (Er W s)
 obtain ⟨z,hz⟩:∃z,firstIdx s 46=z:=⟨_,rfl⟩
 unfold fa
 rw[hz] at HI ⊢
 by_cases h:0≤z
 ·obtain ⟨k,rfl⟩:∃k:Nat,z=(k:Int):=⟨z.toNat,by omega⟩
  have hk:=Nf hz
  have e1:decide ((0:Int)≤(k:Int))=true:=decide_eq_true h
  rw[if_pos h,Int.toNat_natCast]
  clear h hz
  go_enter Tryz.func158,Tryz.ntmps158
  go_wp2_with fail
  refine (ab HI).mono ?_
  rintro e w ⟨rfl,rfl⟩
  clear HI
  go_wp2
  go_quiet (fail)
  go_wp2
  refine bodyPost_ret (results_tmp3 rfl _ _ _) rfl ?_
  exact ⟨⟨_,_,rfl⟩,_,rfl⟩
 ·have e1:decide ((0:Int)≤z)=false:=decide_eq_false h
  rw[if_neg h]
  clear h hz
  go_enter Tryz.func158,Tryz.ntmps158
  go_wp2_with fail
  refine (ab HI).mono ?_
  rintro e w ⟨rfl,rfl⟩
  clear HI
  go_wp2
  refine bodyPost_ret (results_tmp3 rfl _ _ _) rfl ?_
  exact ⟨⟨_,_,rfl⟩,0,rfl⟩
theorem K8 (W:World) (s:ByteArray) (hs:s.size≤281474976710656):Calls Tryz.prog 113 #[.string s,.string ⟨#[46]⟩] W fun e w=>(∃a b,e=.returned (.tuple #[.string (fa s),.string a,.bool b]))∧∃n,w=W.drewN n:=by
 have HI:=al (F7 W s hs)
 go_enter Tryz.func113,Tryz.ntmps113
 go_wp2_with fail
 refine (ab HI).mono ?_
 rintro e w ⟨⟨a,b,rfl⟩,n,rfl⟩
 clear HI
 go_wp2
 refine bodyPost_ret (results_tmp3 rfl _ _ _) rfl ?_
 exact ⟨⟨_,_,rfl⟩,n,rfl⟩
def jZ (s:ByteArray):ByteArray:=⟨(Lib.trimPrefix s.data.toList [46]).toArray⟩
noncomputable def gQ (s:ByteArray):Bool:=decide (s.size≤255)&&dv (jZ s)
theorem FO (W:World) (s:ByteArray):Calls Tryz.prog 159 #[.string s,.string ⟨#[46]⟩] W fun e w=>e=.returned (.string (jZ s))∧w=W:=Any.strings_TrimPrefix Tryz.Em s ⟨#[46]⟩ W
theorem yK {W:World} (hM:iB W) (s:ByteArray):Calls Tryz.prog 114 #[.string s] W fun e w=>e=.returned (.bool (gQ s))∧Below W.heap.size W w:=by
 have HT:=al (FO W s)
 have HN:=al (vY hM (jZ s))
 unfold gQ
 obtain ⟨b,hb⟩:∃b,dv (jZ s)=b:=⟨_,rfl⟩
 rw[hb] at HN ⊢
 clear hb hM
 by_cases hs:s.size≤255
 ·have e1:decide ((s.size:Int)≤255)=true:=decide_eq_true (by omega)
  rw[decide_eq_true hs,Bool.true_and]
  go_enter Tryz.func114,Tryz.ntmps114
  go_wp2_with fail
  refine (ab HT).mono ?_
  rintro e w ⟨rfl,rfl⟩
  clear HT
  go_wp2_with fail
  refine (ab HN).mono ?_
  rintro e w1 ⟨rfl,aY⟩
  have HB:=al aY
  clear HN aY
  go_wp2
  go_ret
  exact ⟨rfl,ab HB⟩
 ·have e1:decide ((s.size:Int)≤255)=false:=decide_eq_false (by omega)
  rw[decide_eq_false hs,Bool.false_and]
  clear HT HN
  go_enter Tryz.func114,Tryz.ntmps114
  go_wp2
  go_ret
  exact ⟨rfl,zE _ _⟩
def su (x:ByteArray) (l:List ByteArray):Bool:=l.any fun t=>x.toList==t.toList
theorem GG {x:ByteArray}{l:List ByteArray}{i:Nat}{t:ByteArray} (h:l[i]?=some t):su x (l.drop i)=((x.toList==t.toList) ||su x (l.drop (i+1))):=by
 obtain ⟨hi,rfl⟩:=zB h
 unfold su
 rw[List.drop_eq_getElem_cons hi,List.any_cons]
theorem Bq {W:World}{v:Value}{l:List ByteArray} (hv:Rl W v l.length (bY l)) (x:ByteArray):Calls Tryz.prog 160 #[v,.string x] W fun e w=>∃r:Int,e=.returned (.int .i64 r)∧decide (0≤r)=su x l∧w=W:=by
 obtain ⟨a,c,rfl,hn,h2⟩:=hv
 have H2:=al h2
 clear h2
 go_enter Tryz.func160,Tryz.ntmps160
 go_wp2
 go_loopg [5,8] l.length (fun gk _ v8 wr=>∃(i:Nat),v8=.int .i64 (i:Int)∧gk=l.length-i∧i≤l.length∧wr=W∧Hid (su x l=su x (l.drop i)))
 case atStart=>exact ⟨0,rfl,rfl,by omega,rfl,rfl⟩
 case round =>
  obtain ⟨i,rfl,aU,hi,rfl,HA⟩:=hrel
  have bz:=al aU
  clear aU
  by_cases aM:i<l.length
  ·obtain ⟨g,o,rfl,hg,hc⟩:=ab H2 (by omega)
   obtain ⟨t,ht⟩:∃t,l[i]?=some t:=⟨_,List.getElem?_eq_getElem aM⟩
   have x0:=hc _ _ (dO ht)
   have HS:=al (GG (x:=x) ht)
   have i0:(0:Int)≤(i:Int):=zH _
   have i1:(i:Int)<(l.length:Int):=by omega
   obtain ⟨q,hq⟩:∃q,(x.toList==t.toList)=q:=⟨_,rfl⟩
   rw[hq] at HS
   clear hc ht
   cases q with
   |true =>
    go_wp2
    go_ret
    refine ⟨(i:Int),rfl,?_,rfl⟩
    rw[ab HA,ab HS,Bool.true_or]
    simp
   |false =>
    have bu:=al aM
    clear aM
    go_wp2
    go_roundg (l.length-(i+1))
    case measure=>have:=ab bz;have:=ab bu;omega
    case rel=>exact ⟨i+1,by go_num,rfl,ab bu,rfl,(ab HA).trans ((ab HS).trans (Bool.false_or _))⟩
  ·obtain rfl:i=l.length:=by omega
   have HN:=al (show su x l=false by rw[ab HA,List.drop_length];rfl)
   go_wp2
   go_ret
   refine ⟨-1,rfl,?_,rfl⟩
   rw[ab HN]
   rfl
theorem yb {W:World}{v:Value}{l:List ByteArray} (hv:Rl W v l.length (bY l)) (x:ByteArray):Calls Tryz.prog 116 #[v,.string x] W fun e w=>e=.returned (.bool (su x l))∧w=W:=by
 have HI:=al (Bq hv x)
 obtain ⟨a,c,rfl,hn,h2⟩:=hv
 obtain ⟨q,hq⟩:∃q,su x l=q:=⟨_,rfl⟩
 rw[hq] at HI ⊢
 clear h2 hq
 go_enter Tryz.func116,Tryz.ntmps116
 go_wp2_with fail
 refine (ab HI).mono ?_
 rintro e w ⟨r,rfl,hr,rfl⟩
 have HR:=al hr
 clear hr HI
 go_wp2
 go_ret
 refine ⟨?_,rfl⟩
 rw[←ab HR]
 rfl
def iF:ByteArray:=⟨#[103,114,111,117,112]⟩
def eR:ByteArray:=⟨#[111,112,116,105,111,110]⟩
def fU:ByteArray:=⟨#[111,112,116,105,111,110,97,108]⟩
def fT:ByteArray:=⟨#[114,101,112,101,97,116,101,100]⟩
def fS:ByteArray:=⟨#[114,101,113,117,105,114,101,100]⟩
def lP:ByteArray:=⟨#[111,110,101,111,102]⟩
def ie:ByteArray:=⟨#[109,101,115,115,97,103,101]⟩
def p8:ByteArray:=⟨#[101,110,117,109]⟩
def dt:ByteArray:=⟨#[114,101,115,101,114,118,101,100]⟩
def sg:ByteArray:=⟨#[101,120,116,101,110,100]⟩
def jY:ByteArray:=⟨#[101,120,116,101,110,115,105,111,110,115]⟩
def nB (d:Fd):List ByteArray:=if d.aP=4 then [] else if d.aP≠1 then [iF] else if d.aE≠0 then [eR,iF,fU,fT,fS,lP,ie,p8,dt] else [ie,p8,lP,dt,fU,fT,eR,sg,jY,iF,fS]
theorem Bu {W:World}{xs:List Value}{n c g:Nat}{t:TypeId} (hg:g=W.heap.size) (hn:n≤140737488355328):Rl (W.alloc (.cells xs.toArray t)) (.slice (some ⟨g,0,none⟩) n c) n xs:=by
 subst hg
 refine ⟨_,c,rfl,hn,fun _=>⟨W.heap.size,0,rfl,by rw[zJ];omega,fun j x hx=>?_⟩⟩
 rw[Nat.zero_add,cell_of_row _ _ _ _ _ _ (aK W _)]
 simpa using hx
theorem kZ (W:World) (xs:List Value):Rl W (.slice none 0 0) 0 xs:=⟨none,0,rfl,by omega,fun h=>absurd h (by omega)⟩
theorem zc {W:World} (d:Fd):Calls Tryz.prog 117 #[.agg d.cs.toArray] W fun e w=>∃v,e=.returned v∧Rl w v (nB d).length (bY (nB d))∧Below W.heap.size W w:=by
 obtain ⟨aP,key,ty,nm,num,aE⟩:=d
 unfold Fd.cs nB
 simp only
 have hn:=aK W (.cells #[.int .i64 aP,.string key,.string ty,.string nm,.int .i64 num,.int .i64 aE] 42)
 have c0:(W.alloc (.cells #[.int .i64 aP,.string key,.string ty,.string nm,.int .i64 num,.int .i64 aE] 42)).cell? ⟨W.heap.size,0,none⟩=some (.int .i64 aP):=cell_of_row _ _ _ _ _ _ hn
 have c5:(W.alloc (.cells #[.int .i64 aP,.string key,.string ty,.string nm,.int .i64 num,.int .i64 aE] 42)).cell? ⟨W.heap.size,5,none⟩=some (.int .i64 aE):=cell_of_row _ _ _ _ _ _ hn
 have HB:Hid (Below W.heap.size W (W.alloc (.cells #[.int .i64 aP,.string key,.string ty,.string nm,.int .i64 num,.int .i64 aE] 42))):=(zE _ _).alloc (zD _) _
 clear hn
 by_cases h4:aP=4
 ·subst h4
  rw[if_pos rfl]
  go_enter Tryz.func117,Tryz.ntmps117
  go_wp2
  go_ret
  exact ⟨_,rfl,kZ _ _,ab HB⟩
 ·rw[if_neg h4]
  have e4:(aP==4)=false:=beq_eq_false_iff_ne.2 h4
  by_cases h1:aP=1
  ·subst h1
   rw[if_neg (by decide)]
   by_cases h0:aE=0
   ·subst h0
    rw[if_neg (by decide)]
    go_enter Tryz.func117,Tryz.ntmps117
    go_wp2
    go_ret
    refine ⟨_,rfl,?_,(ab HB).alloc (ab HB).size _⟩
    refine Bu (g:=W.heap.size+1) (xs:=bY ([ie,p8,lP,dt,fU,fT,eR,sg,jY,iF,fS])) (zJ _ _).symm ?_
    decide
   ·rw[if_pos h0]
    have e0:(aE != 0)=true:=by simpa using h0
    go_enter Tryz.func117,Tryz.ntmps117
    go_wp2
    go_ret
    refine ⟨_,rfl,?_,(ab HB).alloc (ab HB).size _⟩
    refine Bu (g:=W.heap.size+1) (xs:=bY ([eR,iF,fU,fT,fS,lP,ie,p8,dt])) (zJ _ _).symm ?_
    decide
  ·rw[if_pos h1]
   have e1:(aP != 1)=true:=by simpa using h1
   go_enter Tryz.func117,Tryz.ntmps117
   go_wp2
   go_ret
   refine ⟨_,rfl,?_,(ab HB).alloc (ab HB).size _⟩
   refine Bu (g:=W.heap.size+1) (xs:=bY ([iF])) (zJ _ _).symm ?_
   decide
theorem jO (W:World) (aP num aE:Int) (key ty nm:ByteArray):((W.alloc (.cells #[.int .i64 aP,.string key,.string ty,.string nm,.int .i64 num,.int .i64 aE] 42)).cell? ⟨W.heap.size,0,none⟩=some (.int .i64 aP)∧(W.alloc (.cells #[.int .i64 aP,.string key,.string ty,.string nm,.int .i64 num,.int .i64 aE] 42)).cell? ⟨W.heap.size,1,none⟩=some (.string key)∧(W.alloc (.cells #[.int .i64 aP,.string key,.string ty,.string nm,.int .i64 num,.int .i64 aE] 42)).cell? ⟨W.heap.size,2,none⟩=some (.string ty)∧(W.alloc (.cells #[.int .i64 aP,.string key,.string ty,.string nm,.int .i64 num,.int .i64 aE] 42)).cell? ⟨W.heap.size,3,none⟩=some (.string nm)∧(W.alloc (.cells #[.int .i64 aP,.string key,.string ty,.string nm,.int .i64 num,.int .i64 aE] 42)).cell? ⟨W.heap.size,4,none⟩=some (.int .i64 num)∧(W.alloc (.cells #[.int .i64 aP,.string key,.string ty,.string nm,.int .i64 num,.int .i64 aE] 42)).cell? ⟨W.heap.size,5,none⟩=some (.int .i64 aE))∧(W.alloc (.cells #[.int .i64 aP,.string key,.string ty,.string nm,.int .i64 num,.int .i64 aE] 42)).heap[W.heap.size]?=some (.cells #[.int .i64 aP,.string key,.string ty,.string nm,.int .i64 num,.int .i64 aE] 42 (0,0))∧Below W.heap.size W (W.alloc (.cells #[.int .i64 aP,.string key,.string ty,.string nm,.int .i64 num,.int .i64 aE] 42)):=by
 have hn:=aK W (.cells #[.int .i64 aP,.string key,.string ty,.string nm,.int .i64 num,.int .i64 aE] 42)
 exact ⟨⟨cell_of_row _ _ _ _ _ _ hn,cell_of_row _ _ _ _ _ _ hn,cell_of_row _ _ _ _ _ _ hn,cell_of_row _ _ _ _ _ _ hn,cell_of_row _ _ _ _ _ _ hn,cell_of_row _ _ _ _ _ _ hn⟩,hn,(zE _ _).alloc (zD _) _⟩
theorem Dw {w:World}{b:Nat}{aP num aE:Int}{key ty nm:ByteArray} (hn:w.heap[b]?=some (.cells #[.int .i64 aP,.string key,.string ty,.string nm,.int .i64 num,.int .i64 aE] 42 (0,0))):w.cell? ⟨b,0,none⟩=some (.int .i64 aP)∧w.cell? ⟨b,1,none⟩=some (.string key)∧w.cell? ⟨b,2,none⟩=some (.string ty)∧w.cell? ⟨b,3,none⟩=some (.string nm)∧w.cell? ⟨b,4,none⟩=some (.int .i64 num)∧w.cell? ⟨b,5,none⟩=some (.int .i64 aE) :=
 ⟨cell_of_row _ _ _ _ _ _ hn,cell_of_row _ _ _ _ _ _ hn,cell_of_row _ _ _ _ _ _ hn,cell_of_row _ _ _ _ _ _ hn,cell_of_row _ _ _ _ _ _ hn,cell_of_row _ _ _ _ _ _ hn⟩
noncomputable def mf (d:Fd):Bool:=if d.aP=1 then d.key.toList.isEmpty else if d.aP=2∨d.aP=3 then d.key.toList.isEmpty&&(d.aE==0) else if d.aP=4 then gQ d.key&&(d.aE==0) else false
theorem Iz {W:World} (hM:iB W) (d:Fd):Calls Tryz.prog 115 #[.agg d.cs.toArray] W fun e w=>e=.returned (.bool (mf d))∧Below W.heap.size W w:=by
 obtain ⟨aP,key,ty,nm,num,aE⟩:=d
 unfold Fd.cs mf
 simp only
 obtain ⟨⟨c0,c1,c2,c3,c4,c5⟩,-,hb⟩:=jO W aP num aE key ty nm
 have HT:=al (yK (hM.up hb hM.1) key)
 have HB:=al hb
 obtain ⟨qt,Ew⟩:∃q,gQ key=q:=⟨_,rfl⟩
 rw[Ew] at HT ⊢
 clear hb hM Ew c2 c3 c4
 obtain ⟨qk,Ra⟩:∃q,key.toList.isEmpty=q:=⟨_,rfl⟩
 obtain ⟨qo,YV⟩:∃q,(aE==0)=q:=⟨_,rfl⟩
 rw[Ra,YV]
 by_cases h1:aP=1
 ·subst h1
  rw[if_pos rfl]
  clear HT YV
  go_enter Tryz.func115,Tryz.ntmps115
  go_wp2
  go_ret
  exact ⟨rfl,ab HB⟩
 ·rw[if_neg h1]
  have e1:(aP==1)=false:=beq_eq_false_iff_ne.2 h1
  by_cases h2:aP=2
  ·subst h2
   rw[if_pos (.inl rfl)]
   clear HT h1 e1
   cases qk with
   |false =>
    go_enter Tryz.func115,Tryz.ntmps115
    go_wp2
    go_ret
    exact ⟨rfl,ab HB⟩
   |true =>
    go_enter Tryz.func115,Tryz.ntmps115
    go_wp2
    go_ret
    exact ⟨rfl,ab HB⟩
  ·have e2:(aP==2)=false:=beq_eq_false_iff_ne.2 h2
   by_cases h3:aP=3
   ·subst h3
    rw[if_pos (.inr rfl)]
    clear HT h1 e1 h2 e2
    cases qk with
    |false =>
     go_enter Tryz.func115,Tryz.ntmps115
     go_wp2
     go_ret
     exact ⟨rfl,ab HB⟩
    |true =>
     go_enter Tryz.func115,Tryz.ntmps115
     go_wp2
     go_ret
     exact ⟨rfl,ab HB⟩
   ·rw[if_neg (by omega)]
    have e3:(aP==3)=false:=beq_eq_false_iff_ne.2 h3
    by_cases h4:aP=4
    ·subst h4
     rw[if_pos rfl]
     clear h1 e1 h2 e2 h3 e3 Ra
     go_enter Tryz.func115,Tryz.ntmps115
     go_wp2_with fail
     refine (ab HT).mono ?_
     rintro e w1 ⟨rfl,aY⟩
     have cM:=al ((ab HB).trans (aY.mono (ab HB).size))
     have c5':=(aY.cell (p:=⟨W.heap.size,5,none⟩) (by rw[zJ];exact Nat.lt_succ_self _)).trans c5
     clear HT HB aY
     cases qt with
     |false =>
      go_wp2
      go_ret
      exact ⟨rfl,ab cM⟩
     |true =>
      go_wp2
      go_ret
      exact ⟨rfl,ab cM⟩
    ·rw[if_neg h4]
     have e4:(aP==4)=false:=beq_eq_false_iff_ne.2 h4
     clear HT h1 h2 h3 h4
     go_enter Tryz.func115,Tryz.ntmps115
     go_wp2
     go_ret
     exact ⟨rfl,ab HB⟩
noncomputable def cI (d:Fd):Bool:=bD d.name&&(decide (0≤d.num)&&decide (d.num≤2147483647))&&gQ d.ty&&mf d&&!su (fa d.ty) (nB d)
theorem EN {W:World} (hM:iB W) (d:Fd) (hs:d.ty.size≤281474976710656):Calls Tryz.prog 71 #[.agg d.cs.toArray] W fun e w=>e=.returned (.bool (cI d))∧Below W.heap.size W w:=by
 obtain ⟨aP,key,ty,nm,num,aE⟩:=d
 obtain ⟨⟨c0,c1,c2,c3,c4,c5⟩,kb,hb⟩:=jO W aP num aE key ty nm
 have HC:=al (fun w=>K8 w ty hs)
 have HW:=al (fun w=>ic w nm)
 have HN:=al (fun w=>nv w num 0 2147483647)
 have HT:=al (fun w (h:iB w)=>yK h ty)
 have HD:=al (fun w (h:iB w)=>Iz h ⟨aP,key,ty,nm,num,aE⟩)
 have HR:=al (fun w=>zc (W:=w) ⟨aP,key,ty,nm,num,aE⟩)
 have HI:=al (fun w v hv=>yb (W:=w) (v:=v) (l:=nB ⟨aP,key,ty,nm,num,aE⟩) hv (fa ty))
 unfold cI
 simp only at hs ⊢
 obtain ⟨q1,h1⟩:∃q,bD nm=q:=⟨_,rfl⟩
 obtain ⟨q2,h2⟩:∃q,(decide (0≤num)&&decide (num≤2147483647))=q:=⟨_,rfl⟩
 obtain ⟨q3,h3⟩:∃q,gQ ty=q:=⟨_,rfl⟩
 obtain ⟨q4,h4⟩:∃q,mf ⟨aP,key,ty,nm,num,aE⟩=q:=⟨_,rfl⟩
 obtain ⟨q5,h5⟩:∃q,su (fa ty) (nB ⟨aP,key,ty,nm,num,aE⟩)=q:=⟨_,rfl⟩
 rw[h1] at HW ⊢
 rw[h2] at HN ⊢
 rw[h3] at HT ⊢
 rw[h4] at HD ⊢
 rw[h5] at HI ⊢
 obtain ⟨fy,NA⟩:∃x,fa ty=x:=⟨_,rfl⟩
 rw[NA] at HC HI
 obtain ⟨V,hV⟩:∃V,(W.alloc (.cells #[.int .i64 aP,.string key,.string ty,.string nm,.int .i64 num,.int .i64 aE] 42))=V:=⟨_,rfl⟩
 have HM:=al (hM.up hb hM.1)
 have HB:=al hb
 rw[hV] at HM HB c0 c1 c2 c3 c4 c5 kb
 unfold Fd.cs at HD HR ⊢
 simp only at HD HR ⊢
 clear h1 h2 h3 h4 h5 NA hM hb hs
 go_enter Tryz.func71,Tryz.ntmps71
 go_wp2_with fail
 refine (ab HC _).mono ?_
 rintro e w1 ⟨⟨ca,cb,rfl⟩,n1,rfl⟩
 have HK:=al (show (V.drewN n1).heap[W.heap.size]?=_ from kb)
 have cM:Hid (Below W.heap.size W (V.drewN n1)):=below_drewN (ab HB) n1
 have I9:Hid (iB (V.drewN n1)):=ab HM
 clear HB HM kb HC
 go_wp2_with fail
 obtain ⟨w1,cE⟩:∃w,V.drewN n1=w:=⟨_,rfl⟩
 rw[cE] at HK cM I9
 rw[cE]
 clear cE c0 c1 c2 c3 c4 c5 hV
 refine (ab HW _).mono ?_
 rintro e w ⟨rfl,rfl⟩
 cases q1 with
 |false =>
  go_wp2
  go_ret
  exact ⟨rfl,ab cM⟩
 |true =>
 obtain ⟨c0,c1,c2,c3,c4,c5⟩:=Dw (ab HK)
 go_wp2_with fail
 refine (ab HN _).mono ?_
 rintro e w' ⟨rfl,rfl⟩
 cases q2 with
 |false =>
  go_wp2
  go_ret
  exact ⟨rfl,ab cM⟩
 |true =>
 go_wp2_with fail
 refine (ab HT _ (ab I9)).mono ?_
 rintro e w2 ⟨rfl,bd⟩
 have fA:=al ((bd.block _ (zA (ab HK)).1).trans (ab HK))
 have SK:=al ((ab I9).up bd (ab I9).1)
 have cP:=al ((ab cM).trans (bd.mono (ab cM).size))
 clear bd HK I9 cM c0 c1 c2 c3 c4 c5 HT
 cases q3 with
 |false =>
  go_wp2
  go_ret
  exact ⟨rfl,ab cP⟩
 |true =>
 obtain ⟨c0,c1,c2,c3,c4,c5⟩:=Dw (ab fA)
 go_wp2_with fail
 refine (ab HD _ (ab SK)).mono ?_
 rintro e w3 ⟨rfl,cC⟩
 have mH:=al ((cC.block _ (zA (ab fA)).1).trans (ab fA))
 have dX:=al ((ab cP).trans (cC.mono (ab cP).size))
 clear cC fA SK cP c0 c1 c2 c3 c4 c5 HD
 cases q4 with
 |false =>
  go_wp2
  go_ret
  exact ⟨rfl,ab dX⟩
 |true =>
 obtain ⟨c0,c1,c2,c3,c4,c5⟩:=Dw (ab mH)
 go_wp2_with fail
 refine (ab HR _).mono ?_
 rintro e w4 ⟨v4,rfl,YI,gR⟩
 have HI4:=al (ab HI _ v4 YI)
 have CD:=al ((ab dX).trans (gR.mono (ab dX).size))
 clear gR mH dX c0 c1 c2 c3 c4 c5 HR HI YI
 go_wp2_with fail
 refine (ab HI4).mono ?_
 rintro e w5 ⟨rfl,rfl⟩
 clear HI4
 go_wp2
 go_ret
 exact ⟨rfl,ab CD⟩
end Go.Proofs.YtichhjfjcinjgaaGreatDoor
namespace Go.Proofs.YtichhjfjcinjgaaGreatDoor
open Go.RowKit Go.Shelf
attribute [local go_sem ↓] Go.wp_at_zero Go.wp_at_succ
def iY (W:World):Prop:=Lib.TabIs Tryz.prog W "internal/strconv.uint64pow10" .u64 Lib.pow10Tab
theorem iY.up {W w:World} (h:iY W) (hb:Below W.heap.size W w):iY w:=by
 unfold iY Lib.TabIs World.var? at h ⊢
 obtain ⟨g,hg,hm⟩:=Option.bind_eq_some_iff.1 h
 rw[hg]
 show (match w.heap[g]? with
  |some (.cells cs _ _)=>some cs
  |_=>none)=_
 have aM:g<W.heap.size:=by
  rcases Nat.lt_or_ge g W.heap.size with q|q
  ·exact q
  ·rw[Array.getElem?_eq_none q] at hm
   cases hm
 rw[hb.block g aM]
 exact hm
def bH (n:Int):ByteArray:=⟨(Lib.itoa n).toArray⟩
theorem ox {w:World} (h:iY w) (n:Int) (h0:-9223372036854775808≤n) (h1:n≤9223372036854775807):Calls Tryz.prog 134 #[.int .i64 n] w fun e w'=>e=.returned (.string (bH n))∧Below w.heap.size w w':=by
 refine (Any.strconv_Itoa Tryz.El n h0 h1 w h).mono ?_
 rintro e w' ⟨rfl,k,os,rfl⟩
 exact ⟨rfl,Lib.below_grow _ w (zD _) k os⟩
theorem cQ {n:Int} (h0:-9223372036854775808≤n) (h1:n≤9223372036854775807):(bH n).size≤21:=by
 show (Lib.itoa n).length≤21
 unfold Lib.itoa
 split
 ·rw[List.length_cons,Lib.decDigits_length]
  have:=Lib.nDigits_le20 n.natAbs (by omega)
  omega
 ·rw[Lib.decDigits_length]
  have:=Lib.nDigits_le20 n.toNat (by omega)
  omega
def J2:ByteArray:=⟨#[111,112,116,105,111,110,97,108,32]⟩
def J1:ByteArray:=⟨#[114,101,112,101,97,116,101,100,32]⟩
def J3:ByteArray:=⟨#[109,97,112,60]⟩
def D8:ByteArray:=⟨#[44,32]⟩
def S7:ByteArray:=⟨#[62]⟩
def mS:ByteArray:=⟨#[32,116,111,32]⟩
def tz:ByteArray:=⟨#[32,116,111,32,109,97,120]⟩
def qa (d:Fd):ByteArray:=if d.aP=2 then J2++d.ty else if d.aP=3 then J1++d.ty else if d.aP=4 then J3++d.key++D8++d.ty++S7 else d.ty
theorem xb {W:World} (d:Fd) (hk:d.key.size≤255) (ht:d.ty.size≤255):Calls Tryz.prog 133 #[.agg d.cs.toArray] W fun e w=>e=.returned (.string (qa d))∧Below W.heap.size W w:=by
 obtain ⟨aP,key,ty,nm,num,aE⟩:=d
 unfold Fd.cs qa J2 J1 J3 D8 S7
 simp only at hk ht ⊢
 obtain ⟨⟨c0,c1,c2,c3,c4,c5⟩,-,hb⟩:=jO W aP num aE key ty nm
 have HB:=al hb
 clear hb c3 c4 c5
 by_cases h2:aP=2
 ·subst h2
  rw[if_pos rfl]
  go_enter Tryz.func133,Tryz.ntmps133
  go_wp2
  go_ret
  exact ⟨rfl,ab HB⟩
 ·rw[if_neg h2]
  have e2:(aP==2)=false:=beq_eq_false_iff_ne.2 h2
  by_cases h3:aP=3
  ·subst h3
   rw[if_pos rfl]
   go_enter Tryz.func133,Tryz.ntmps133
   go_wp2
   go_ret
   exact ⟨rfl,ab HB⟩
  ·rw[if_neg h3]
   have e3:(aP==3)=false:=beq_eq_false_iff_ne.2 h3
   by_cases h4:aP=4
   ·subst h4
    rw[if_pos rfl]
    go_enter Tryz.func133,Tryz.ntmps133
    go_wp2
    go_ret
    exact ⟨rfl,ab HB⟩
   ·rw[if_neg h4]
    have e4:(aP==4)=false:=beq_eq_false_iff_ne.2 h4
    go_enter Tryz.func133,Tryz.ntmps133
    go_wp2
    go_ret
    exact ⟨rfl,ab HB⟩
def eG (most:Int) (r:Int×Int):ByteArray:=if r.2=r.1 then bH r.1 else if r.2=most then bH r.1++tz else bH r.1++mS++bH r.2
theorem y7 {W:World} (hP:iY W) (a b most:Int) (ha:-2147483648≤a∧a≤2147483647) (hb:-2147483648≤b∧b≤2147483647):Calls Tryz.prog 172 #[.agg #[.int .i64 a,.int .i64 b],.int .i64 most] W fun e w=>e=.returned (.string (eG most (a,b)))∧Below W.heap.size W w:=by
 have hn:=aK W (.cells #[.int .i64 a,.int .i64 b] 111)
 have bJ:Below W.heap.size W (W.alloc (.cells #[.int .i64 a,.int .i64 b] 111)):=(zE _ _).alloc (zD _) _
 obtain ⟨V,hV⟩:∃V,W.alloc (.cells #[.int .i64 a,.int .i64 b] 111)=V:=⟨_,rfl⟩
 rw[hV] at hn bJ
 have c0:V.cell? ⟨W.heap.size,0,none⟩=some (.int .i64 a):=cell_of_row _ _ _ _ _ _ hn
 have c1:V.cell? ⟨W.heap.size,1,none⟩=some (.int .i64 b):=cell_of_row _ _ _ _ _ _ hn
 have HI:=al (ox (hP.up bJ) a (by omega) (by omega))
 have SZ:=al (fun w (h:iY w)=>ox h b (by omega) (by omega))
 have HB:=al bJ
 have HN:=al hn
 have Mn:Hid (∀w,Below W.heap.size W w→iY w):=fun w h=>hP.up h
 have za:=cQ (n:=a) (by omega) (by omega)
 have zb:=cQ (n:=b) (by omega) (by omega)
 unfold eG tz mS
 simp only
 obtain ⟨ta,YM⟩:∃t,bH a=t:=⟨_,rfl⟩
 obtain ⟨tb,QZ⟩:∃t,bH b=t:=⟨_,rfl⟩
 rw[YM] at HI za ⊢
 rw[QZ] at SZ zb ⊢
 clear hn bJ hP YM QZ ha hb
 go_enter Tryz.func172,Tryz.ntmps172
 go_wp2_with fail
 refine (ab HI).mono ?_
 rintro e w1 ⟨rfl,aY⟩
 have B8:=(aY.block _ (zA (ab HN)).1).trans (ab HN)
 have d0:w1.cell? ⟨W.heap.size,0,none⟩=some (.int .i64 a):=cell_of_row _ _ _ _ _ _ B8
 have d1:w1.cell? ⟨W.heap.size,1,none⟩=some (.int .i64 b):=cell_of_row _ _ _ _ _ _ B8
 have cM:=al ((ab HB).trans (aY.mono (ab HB).size))
 clear aY HI HN HB c0 c1 B8
 by_cases h1:b=a
 ·have e1:(b==a)=true:=beq_iff_eq.2 h1
  clear SZ Mn
  go_wp2
  go_ret
  exact ⟨rfl,ab cM⟩
 ·have e1:(b==a)=false:=beq_eq_false_iff_ne.2 h1
  by_cases h2:b=most
  ·have e2:(b==most)=true:=beq_iff_eq.2 h2
   clear SZ Mn
   go_wp2
   go_ret
   first|exact ⟨rfl,ab cM⟩|(rw[if_neg h1,if_pos h2];exact ⟨rfl,ab cM⟩)|(rw[if_neg h1];exact ⟨rfl,ab cM⟩)
  ·have e2:(b==most)=false:=beq_eq_false_iff_ne.2 h2
   have P5:=al (ab SZ _ (ab Mn _ (ab cM)))
   clear SZ Mn
   go_wp2_with fail
   refine (ab P5).mono ?_
   rintro e w2 ⟨rfl,bd⟩
   have cP:=al ((ab cM).trans (bd.mono (ab cM).size))
   clear bd P5 cM
   go_wp2
   go_ret
   first|exact ⟨rfl,ab cP⟩|(rw[if_neg h1,if_neg h2];exact ⟨rfl,ab cP⟩)
end Go.Proofs.YtichhjfjcinjgaaGreatDoor
namespace Go.Proofs.YtichhjfjcinjgaaGreatDoor
open Go.RowKit
attribute [local go_sem ↓] Go.wp_at_zero Go.wp_at_succ
theorem BV:(Tryz.prog.info? 9).map (fun i=>(i.zero,i.size,i.bytes))=some (some (.string ByteArray.empty),1,16):=by kernel_rfl
theorem dH {B t sz n:Nat}{v:Value}{xs:List Value}{w w':World} (h:w.ownsRow B t sz v n xs) (hb:Below w.heap.size w w'):w'.ownsRow B t sz v n xs:=by
 refine h.kept (show w.grownBy w' none from ⟨hb.os,hb.tape,hb.output,hb.size,fun k hk _=>hb.block k hk⟩) ?_
 cases v.ownBlock with
 |none=>exact .inl rfl
 |some k=>exact .inr (by simp)
theorem yP {α:Type}{l:List α}{T:α→ByteArray}{i:Nat}{x:α} (h:l[i]?=some x):bY ((l.take (i+1)).map T)=bY ((l.take i).map T)++[.string (T x)]:=by
 obtain ⟨hi,rfl⟩:=zB h
 rw[List.take_succ_eq_append_getElem hi,List.map_append]
 unfold bY
 simp
theorem ET {W:World}{v:Value}{l:List (Int×Int)} (hv:Rl W v l.length (kO l)) (hl:l.length≤4096) {f:Fv} (dT:f.ok) {T:Int×Int→ByteArray} (w0:World) (hw:Below W.heap.size W w0)
  (hf:∀r ∈ l,∀w,Below w0.heap.size w0 w→Calls Tryz.prog f.f (f.fs.push (.agg #[.int .i64 r.1,.int .i64 r.2])++f.cp) w fun e w'=>e=.returned (.string (T r))∧Below w.heap.size w w') :
  Calls Tryz.prog 170 #[v,f.val] w0 fun e w=>∃u,e=.returned u∧w.ownsRow w0.heap.size 9 1 u l.length (bY (l.map T))∧Below w0.heap.size w0 w:=by
 obtain ⟨a,c,rfl,hn,h2⟩:=hv
 obtain ⟨qA,fs,cp⟩:=f
 obtain ⟨i0,hi,gf,fX,dY⟩:=info_parts BV
 unfold Fv.val
 unfold Fv.ok at dT
 simp only at dT hf ⊢
 have H2:=al h2
 have HF:=al hf
 have HW:=al hw
 clear h2 hf hw
 go_enter Tryz.func170,Tryz.ntmps170
 go_wp2
 go_loopg [5,7,10] l.length (fun gk v5 _ v10 wr=>∃(i:Nat),v10=.int .i64 (i:Int)∧gk=l.length-i∧i≤l.length∧Hid (wr.ownsRow w0.heap.size 9 1 v5 i (bY ((l.take i).map T)))∧Hid (Below w0.heap.size w0 wr))
 case atStart=>exact ⟨0,rfl,rfl,by omega,⟨rfl,.inl ⟨rfl,rfl⟩⟩,zE _ _⟩
 case round =>
  obtain ⟨i,rfl,aU,eO,HO,HB⟩:=hrel
  have bz:=al aU
  clear aU
  by_cases aM:i<l.length
  ·obtain ⟨g,o,rfl,hg,hc⟩:=ab H2 (by omega)
   have hr:=List.getElem?_eq_getElem aM
   have cG:=List.getElem_mem aM
   obtain ⟨r,tT⟩:∃r,l[i]=r:=⟨_,rfl⟩
   rw[tT] at hr cG
   have gN:=al (show Below W.heap.size W wr from (ab HW).trans ((ab HB).mono (ab HW).size))
   have x0:=((ab gN).cell (p:=⟨g,o+(i*2+0),none⟩) hg).trans (hc _ _ (gz hr (j:=0) (by decide)))
   have x1:=((ab gN).cell (p:=⟨g,o+(i*2+1),none⟩) hg).trans (hc _ _ (gz hr (j:=1) (by decide)))
   rw[Nat.add_zero] at x0
   rw[←Nat.add_assoc] at x1
   have fg:=aK wr (.cells #[.int .i64 r.1,.int .i64 r.2] 111)
   have bJ:Below wr.heap.size wr (wr.alloc (.cells #[.int .i64 r.1,.int .i64 r.2] 111)):=(zE _ _).alloc (zD _) _
   obtain ⟨V,hV⟩:∃V,wr.alloc (.cells #[.int .i64 r.1,.int .i64 r.2] 111)=V:=⟨_,rfl⟩
   rw[hV] at fg bJ
   have b0:V.cell? ⟨wr.heap.size,0,none⟩=some (.int .i64 r.1):=cell_of_row _ _ _ _ _ _ fg
   have b1:V.cell? ⟨wr.heap.size,1,none⟩=some (.int .i64 r.2):=cell_of_row _ _ _ _ _ _ fg
   clear fg
   have FC:=al ((ab HB).trans (bJ.mono (ab HB).size))
   have SI:=al (dH (ab HO) bJ)
   have HC:=al (ab HF r cG V (ab FC))
   have HT:=al (yP (T:=T) hr)
   have LM:(0:Int)≤(i:Int):=zH _
   have i1:(i:Int)<(l.length:Int):=by omega
   have bu:=al aM
   have Hl:=al hl
   clear hc hr cG tT bJ HO HB gN aM
   go_wp2_with fail
   refine (ab HC).mono ?_
   rintro e w1 ⟨rfl,aY⟩
   have FA:=al (dH (ab SI) aY)
   have cM:=al ((ab FC).trans (aY.mono (ab FC).size))
   have iD:=al (ab cM).size
   clear aY HC SI FC
   go_wp2_with (at_builtin;refine wpList_append_own_at _ rfl _ _ 22 rfl w0.heap.size 9 i0 (.string ByteArray.empty) 1 16 Tryz.underlying22 hi gf fX dY rfl (by decide) _ _ _ rfl ((ab FA).alloc _) ⟨w1.heap.size,0,none⟩ 1 1 [.string (T r)] rfl rfl (cell_one_new _ _ _) (by simp[Value.oneCell']) (by have:=ab bu;have:=ab Hl;unfold maxLen;omega) (by have:=ab bu;have:=ab Hl;omega) (by rw[zJ];have:=ab iD;omega) ?_;intro v' w2 ho ed _ _;have lM:=al ho;have cP:=al (((ab cM).alloc (ab cM).size _).grown ed (by rw[zJ];have:=ab iD;omega) (fun k e=>((ab FA).lt k e).1));clear ho ed)
   rw[←ab HT] at lM
   go_roundg (l.length-(i+1))
   case measure=>have:=ab bz;have:=ab bu;omega
   case rel=>exact ⟨i+1,by go_num,rfl,ab bu,lM,cP⟩
  ·obtain rfl:i=l.length:=by omega
   have hO:=ab HO
   rw[List.take_length] at hO
   have lM:=al hO
   clear hO
   go_wp2
   go_ret
   exact ⟨_,rfl,ab lM,ab HB⟩
theorem ES {W:World}{v:Value}{l:List (ByteArray)} (hv:Rl W v l.length (bY l)) (hl:l.length≤4096) {f:Fv} (dT:f.ok) {T:ByteArray→ByteArray} (w0:World) (hw:Below W.heap.size W w0)
  (hf:∀r ∈ l,∀w,Below w0.heap.size w0 w→Calls Tryz.prog f.f (f.fs.push (.string r)++f.cp) w fun e w'=>e=.returned (.string (T r))∧Below w.heap.size w w') :
  Calls Tryz.prog 173 #[v,f.val] w0 fun e w=>∃u,e=.returned u∧w.ownsRow w0.heap.size 9 1 u l.length (bY (l.map T))∧Below w0.heap.size w0 w:=by
 obtain ⟨a,c,rfl,hn,h2⟩:=hv
 obtain ⟨qA,fs,cp⟩:=f
 obtain ⟨i0,hi,gf,fX,dY⟩:=info_parts BV
 unfold Fv.val
 unfold Fv.ok at dT
 simp only at dT hf ⊢
 have H2:=al h2
 have HF:=al hf
 have HW:=al hw
 clear h2 hf hw
 go_enter Tryz.func173,Tryz.ntmps173
 go_wp2
 go_loopg [5,7,10] l.length (fun gk v5 _ v10 wr=>∃(i:Nat),v10=.int .i64 (i:Int)∧gk=l.length-i∧i≤l.length∧Hid (wr.ownsRow w0.heap.size 9 1 v5 i (bY ((l.take i).map T)))∧Hid (Below w0.heap.size w0 wr))
 case atStart=>exact ⟨0,rfl,rfl,by omega,⟨rfl,.inl ⟨rfl,rfl⟩⟩,zE _ _⟩
 case round =>
  obtain ⟨i,rfl,aU,eO,HO,HB⟩:=hrel
  have bz:=al aU
  clear aU
  by_cases aM:i<l.length
  ·obtain ⟨g,o,rfl,hg,hc⟩:=ab H2 (by omega)
   have hr:=List.getElem?_eq_getElem aM
   have cG:=List.getElem_mem aM
   obtain ⟨r,tT⟩:∃r,l[i]=r:=⟨_,rfl⟩
   rw[tT] at hr cG
   have gN:=al (show Below W.heap.size W wr from (ab HW).trans ((ab HB).mono (ab HW).size))
   have x0:=((ab gN).cell (p:=⟨g,o+i,none⟩) hg).trans (hc _ _ (dO hr))
   have bJ:Below wr.heap.size wr wr:=zE _ _
   have FC:=al ((ab HB).trans (bJ.mono (ab HB).size))
   have SI:=al (dH (ab HO) bJ)
   have HC:=al (ab HF r cG wr (ab FC))
   have HT:=al (yP (T:=T) hr)
   have LM:(0:Int)≤(i:Int):=zH _
   have i1:(i:Int)<(l.length:Int):=by omega
   have bu:=al aM
   have Hl:=al hl
   clear hc hr cG tT bJ HO HB gN aM
   go_wp2_with fail
   refine (ab HC).mono ?_
   rintro e w1 ⟨rfl,aY⟩
   have FA:=al (dH (ab SI) aY)
   have cM:=al ((ab FC).trans (aY.mono (ab FC).size))
   have iD:=al (ab cM).size
   clear aY HC SI FC
   go_wp2_with (at_builtin;refine wpList_append_own_at _ rfl _ _ 22 rfl w0.heap.size 9 i0 (.string ByteArray.empty) 1 16 Tryz.underlying22 hi gf fX dY rfl (by decide) _ _ _ rfl ((ab FA).alloc _) ⟨w1.heap.size,0,none⟩ 1 1 [.string (T r)] rfl rfl (cell_one_new _ _ _) (by simp[Value.oneCell']) (by have:=ab bu;have:=ab Hl;unfold maxLen;omega) (by have:=ab bu;have:=ab Hl;omega) (by rw[zJ];have:=ab iD;omega) ?_;intro v' w2 ho ed _ _;have lM:=al ho;have cP:=al (((ab cM).alloc (ab cM).size _).grown ed (by rw[zJ];have:=ab iD;omega) (fun k e=>((ab FA).lt k e).1));clear ho ed)
   rw[←ab HT] at lM
   go_roundg (l.length-(i+1))
   case measure=>have:=ab bz;have:=ab bu;omega
   case rel=>exact ⟨i+1,by go_num,rfl,ab bu,lM,cP⟩
  ·obtain rfl:i=l.length:=by omega
   have hO:=ab HO
   rw[List.take_length] at hO
   have lM:=al hO
   clear hO
   go_wp2
   go_ret
   exact ⟨_,rfl,ab lM,ab HB⟩
end Go.Proofs.YtichhjfjcinjgaaGreatDoor

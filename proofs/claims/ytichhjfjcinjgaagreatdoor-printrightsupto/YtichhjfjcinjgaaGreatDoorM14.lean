import Derived.Test.YtichhjfjcinjgaaGreatDoorM13
import Derived.Lib.AppendIntMem
import Derived.Lib.LaidTab
import Derived.Lib.ItoaLen
set_option maxHeartbeats 2000000
set_option maxRecDepth 100000
namespace Go.Proofs.YtichhjfjcinjgaaGreatDoor
open Go.RowKit
attribute [local go_sem ↓] Go.wp_at_zero Go.wp_at_succ
def fp (s:ByteArray):ByteArray:=if 0≤firstIdx s 46 then s.extract 0 (firstIdx s 46).toNat else s
theorem NR {s:ByteArray}{c:UInt8}{z:Nat} (h:firstIdx s c=(z:Int)):z<s.size:=by
 rw[Lib.firstIdx_eq] at h
 exact (zB (Lib.indexByte_some h).1).1
theorem toList_data (s:ByteArray):s.toList=s.data.toList:=by
 obtain ⟨⟨l⟩⟩:=s
 exact Go.ByteArray.toList_mk l
theorem OC {s:ByteArray} (h:([46]==s.toList)=true):s=⟨#[46]⟩:=by
 have e:s.toList=[46]:=(beq_iff_eq.1 h).symm
 rw[toList_data] at e
 obtain ⟨⟨l⟩⟩:=s
 simp only at e
 rw[e]
theorem E6 (W:World) (s:ByteArray):Calls Tryz.prog 187 #[.string s,.string ⟨#[46]⟩] W fun e w=>e=.returned (.int .i64 (firstIdx s 46))∧w=W:=by
 cases hq:([46]==s.toList) with
 |true =>
  obtain rfl:=OC hq
  have e0:firstIdx ⟨#[46]⟩ 46=0:=by decide +kernel
  rw[e0]
  go_enter Tryz.func187,Tryz.ntmps187
  go_wp2
  go_ret
  exact ⟨rfl,rfl⟩
 |false =>
  go_enter Tryz.func187,Tryz.ntmps187
  go_wp2
  rw[run_callFunc_indexByte Tryz.func194 (by kernel_rfl) (by kernel_rfl) (by kernel_rfl) (by kernel_rfl),run_indexByte_string]
  simp only[Result.andThen]
  go_wp2
  go_ret
  exact ⟨rfl,rfl⟩
theorem GR (W:World) (s:ByteArray) (hs:s.size≤281474976710656):Calls Tryz.prog 158 #[.string s,.string ⟨#[46]⟩] W fun e w=>(∃a b,e=.returned (.tuple #[.string (fp s),.string a,.bool b]))∧∃n,w=W.drewN n:=by
 have HI:=al (E6 W s)
 obtain ⟨z,hz⟩:∃z,firstIdx s 46=z:=⟨_,rfl⟩
 unfold fp
 rw[hz] at HI ⊢
 by_cases h:0≤z
 ·obtain ⟨k,rfl⟩:∃k:Nat,z=(k:Int):=⟨z.toNat,by omega⟩
  have hk:=NR hz
  have e1:decide ((0:Int)≤(k:Int))=true:=decide_eq_true h
  rw[if_pos h,Int.toNat_natCast]
  clear h hz
  go_enter Tryz.func158,Tryz.ntmps158
  go_wp2_with fail
  refine (ab HI).mono ?_
  rintro e w ⟨rfl,rfl⟩
  clear HI
  go_wp2
  go_quiet (fail)
  go_wp2
  refine bodyPost_ret (results_tmp3 rfl _ _ _) rfl ?_
  exact ⟨⟨_,_,rfl⟩,_,rfl⟩
 ·have e1:decide ((0:Int)≤z)=false:=decide_eq_false h
  rw[if_neg h]
  clear h hz
  go_enter Tryz.func158,Tryz.ntmps158
  go_wp2_with fail
  refine (ab HI).mono ?_
  rintro e w ⟨rfl,rfl⟩
  clear HI
  go_wp2
  refine bodyPost_ret (results_tmp3 rfl _ _ _) rfl ?_
  exact ⟨⟨_,_,rfl⟩,0,rfl⟩
theorem LK (W:World) (s:ByteArray) (hs:s.size≤281474976710656):Calls Tryz.prog 113 #[.string s,.string ⟨#[46]⟩] W fun e w=>(∃a b,e=.returned (.tuple #[.string (fp s),.string a,.bool b]))∧∃n,w=W.drewN n:=by
 have HI:=al (GR W s hs)
 go_enter Tryz.func113,Tryz.ntmps113
 go_wp2_with fail
 refine (ab HI).mono ?_
 rintro e w ⟨⟨a,b,rfl⟩,n,rfl⟩
 clear HI
 go_wp2
 refine bodyPost_ret (results_tmp3 rfl _ _ _) rfl ?_
 exact ⟨⟨_,_,rfl⟩,n,rfl⟩
def kq (s:ByteArray):ByteArray:=⟨(Lib.trimPrefix s.data.toList [46]).toArray⟩
noncomputable def gZ (s:ByteArray):Bool:=decide (s.size≤255)&&dA (kq s)
theorem Gw (W:World) (s:ByteArray):Calls Tryz.prog 159 #[.string s,.string ⟨#[46]⟩] W fun e w=>e=.returned (.string (kq s))∧w=W:=Any.strings_TrimPrefix Tryz.E3 s ⟨#[46]⟩ W
theorem zQ {W:World} (hM:gX W) (s:ByteArray):Calls Tryz.prog 114 #[.string s] W fun e w=>e=.returned (.bool (gZ s))∧Below W.heap.size W w:=by
 have HT:=al (Gw W s)
 have HN:=al (wV hM (kq s))
 unfold gZ
 obtain ⟨b,hb⟩:∃b,dA (kq s)=b:=⟨_,rfl⟩
 rw[hb] at HN ⊢
 clear hb hM
 by_cases hs:s.size≤255
 ·have e1:decide ((s.size:Int)≤255)=true:=decide_eq_true (by omega)
  rw[decide_eq_true hs,Bool.true_and]
  go_enter Tryz.func114,Tryz.ntmps114
  go_wp2_with fail
  refine (ab HT).mono ?_
  rintro e w ⟨rfl,rfl⟩
  clear HT
  go_wp2_with fail
  refine (ab HN).mono ?_
  rintro e w1 ⟨rfl,aX⟩
  have HB:=al aX
  clear HN aX
  go_wp2
  go_ret
  exact ⟨rfl,ab HB⟩
 ·have e1:decide ((s.size:Int)≤255)=false:=decide_eq_false (by omega)
  rw[decide_eq_false hs,Bool.false_and]
  clear HT HN
  go_enter Tryz.func114,Tryz.ntmps114
  go_wp2
  go_ret
  exact ⟨rfl,zE _ _⟩
def sT (x:ByteArray) (l:List ByteArray):Bool:=l.any fun t=>x.toList==t.toList
theorem Ii {x:ByteArray}{l:List ByteArray}{i:Nat}{t:ByteArray} (h:l[i]?=some t):sT x (l.drop i)=((x.toList==t.toList) ||sT x (l.drop (i+1))):=by
 obtain ⟨hi,rfl⟩:=zB h
 unfold sT
 rw[List.drop_eq_getElem_cons hi,List.any_cons]
theorem BW {W:World}{v:Value}{l:List ByteArray} (hv:Rl W v l.length (cc l)) (x:ByteArray):Calls Tryz.prog 160 #[v,.string x] W fun e w=>∃r:Int,e=.returned (.int .i64 r)∧decide (0≤r)=sT x l∧w=W:=by
 obtain ⟨a,c,rfl,hn,h2⟩:=hv
 have H2:=al h2
 clear h2
 go_enter Tryz.func160,Tryz.ntmps160
 go_wp2
 go_loopg [5,8] l.length (fun gk _ v8 wr=>∃(i:Nat),v8=.int .i64 (i:Int)∧gk=l.length-i∧i≤l.length∧wr=W∧Hid (sT x l=sT x (l.drop i)))
 case atStart=>exact ⟨0,rfl,rfl,by omega,rfl,rfl⟩
 case round =>
  obtain ⟨i,rfl,aW,hi,rfl,HA⟩:=hrel
  have bz:=al aW
  clear aW
  by_cases aM:i<l.length
  ·obtain ⟨g,o,rfl,hg,hc⟩:=ab H2 (by omega)
   obtain ⟨t,ht⟩:∃t,l[i]?=some t:=⟨_,List.getElem?_eq_getElem aM⟩
   have x0:=hc _ _ (dT ht)
   have HS:=al (Ii (x:=x) ht)
   have i0:(0:Int)≤(i:Int):=zH _
   have i1:(i:Int)<(l.length:Int):=by omega
   obtain ⟨q,hq⟩:∃q,(x.toList==t.toList)=q:=⟨_,rfl⟩
   rw[hq] at HS
   clear hc ht
   cases q with
   |true =>
    go_wp2
    go_ret
    refine ⟨(i:Int),rfl,?_,rfl⟩
    rw[ab HA,ab HS,Bool.true_or]
    simp
   |false =>
    have bu:=al aM
    clear aM
    go_wp2
    go_roundg (l.length-(i+1))
    case measure=>have:=ab bz;have:=ab bu;omega
    case rel=>exact ⟨i+1,by go_num,rfl,ab bu,rfl,(ab HA).trans ((ab HS).trans (Bool.false_or _))⟩
  ·obtain rfl:i=l.length:=by omega
   have HN:=al (show sT x l=false by rw[ab HA,List.drop_length];rfl)
   go_wp2
   go_ret
   refine ⟨-1,rfl,?_,rfl⟩
   rw[ab HN]
   rfl
theorem yK {W:World}{v:Value}{l:List ByteArray} (hv:Rl W v l.length (cc l)) (x:ByteArray):Calls Tryz.prog 116 #[v,.string x] W fun e w=>e=.returned (.bool (sT x l))∧w=W:=by
 have HI:=al (BW hv x)
 obtain ⟨a,c,rfl,hn,h2⟩:=hv
 obtain ⟨q,hq⟩:∃q,sT x l=q:=⟨_,rfl⟩
 rw[hq] at HI ⊢
 clear h2 hq
 go_enter Tryz.func116,Tryz.ntmps116
 go_wp2_with fail
 refine (ab HI).mono ?_
 rintro e w ⟨r,rfl,hr,rfl⟩
 have HR:=al hr
 clear hr HI
 go_wp2
 go_ret
 refine ⟨?_,rfl⟩
 rw[←ab HR]
 rfl
def iS:ByteArray:=⟨#[103,114,111,117,112]⟩
def eY:ByteArray:=⟨#[111,112,116,105,111,110]⟩
def gj:ByteArray:=⟨#[111,112,116,105,111,110,97,108]⟩
def gf:ByteArray:=⟨#[114,101,112,101,97,116,101,100]⟩
def gd:ByteArray:=⟨#[114,101,113,117,105,114,101,100]⟩
def mg:ByteArray:=⟨#[111,110,101,111,102]⟩
def iA:ByteArray:=⟨#[109,101,115,115,97,103,101]⟩
def qI:ByteArray:=⟨#[101,110,117,109]⟩
def dx:ByteArray:=⟨#[114,101,115,101,114,118,101,100]⟩
def sK:ByteArray:=⟨#[101,120,116,101,110,100]⟩
def kl:ByteArray:=⟨#[101,120,116,101,110,115,105,111,110,115]⟩
def nZ (d:Fd):List ByteArray:=if d.aQ=4 then [] else if d.aQ≠1 then [iS] else if d.aE≠0 then [eY,iS,gj,gf,gd,mg,iA,qI,dx] else [iA,qI,mg,dx,gj,gf,eY,sK,kl,iS,gd]
theorem B1 {W:World}{xs:List Value}{n c g:Nat}{t:TypeId} (hg:g=W.heap.size) (hn:n≤140737488355328):Rl (W.alloc (.cells xs.toArray t)) (.slice (some ⟨g,0,none⟩) n c) n xs:=by
 subst hg
 refine ⟨_,c,rfl,hn,fun _=>⟨W.heap.size,0,rfl,by rw[zJ];omega,fun j x hx=>?_⟩⟩
 rw[Nat.zero_add,cell_of_row _ _ _ _ _ _ (aJ W _)]
 simpa using hx
theorem lF (W:World) (xs:List Value):Rl W (.slice none 0 0) 0 xs:=⟨none,0,rfl,by omega,fun h=>absurd h (by omega)⟩
theorem Ai {W:World} (d:Fd):Calls Tryz.prog 117 #[.agg d.cs.toArray] W fun e w=>∃v,e=.returned v∧Rl w v (nZ d).length (cc (nZ d))∧Below W.heap.size W w:=by
 obtain ⟨aQ,key,ty,nm,num,aE⟩:=d
 unfold Fd.cs nZ
 simp only
 have hn:=aJ W (.cells #[.int .i64 aQ,.string key,.string ty,.string nm,.int .i64 num,.int .i64 aE] 42)
 have c0:(W.alloc (.cells #[.int .i64 aQ,.string key,.string ty,.string nm,.int .i64 num,.int .i64 aE] 42)).cell? ⟨W.heap.size,0,none⟩=some (.int .i64 aQ):=cell_of_row _ _ _ _ _ _ hn
 have c5:(W.alloc (.cells #[.int .i64 aQ,.string key,.string ty,.string nm,.int .i64 num,.int .i64 aE] 42)).cell? ⟨W.heap.size,5,none⟩=some (.int .i64 aE):=cell_of_row _ _ _ _ _ _ hn
 have HB:Hid (Below W.heap.size W (W.alloc (.cells #[.int .i64 aQ,.string key,.string ty,.string nm,.int .i64 num,.int .i64 aE] 42))):=(zE _ _).alloc (zD _) _
 clear hn
 by_cases h4:aQ=4
 ·subst h4
  rw[if_pos rfl]
  go_enter Tryz.func117,Tryz.ntmps117
  go_wp2
  go_ret
  exact ⟨_,rfl,lF _ _,ab HB⟩
 ·rw[if_neg h4]
  have e4:(aQ==4)=false:=beq_eq_false_iff_ne.2 h4
  by_cases h1:aQ=1
  ·subst h1
   rw[if_neg (by decide)]
   by_cases h0:aE=0
   ·subst h0
    rw[if_neg (by decide)]
    go_enter Tryz.func117,Tryz.ntmps117
    go_wp2
    go_ret
    refine ⟨_,rfl,?_,(ab HB).alloc (ab HB).size _⟩
    refine B1 (g:=W.heap.size+1) (xs:=cc ([iA,qI,mg,dx,gj,gf,eY,sK,kl,iS,gd])) (zJ _ _).symm ?_
    decide
   ·rw[if_pos h0]
    have e0:(aE != 0)=true:=by simpa using h0
    go_enter Tryz.func117,Tryz.ntmps117
    go_wp2
    go_ret
    refine ⟨_,rfl,?_,(ab HB).alloc (ab HB).size _⟩
    refine B1 (g:=W.heap.size+1) (xs:=cc ([eY,iS,gj,gf,gd,mg,iA,qI,dx])) (zJ _ _).symm ?_
    decide
  ·rw[if_pos h1]
   have e1:(aQ != 1)=true:=by simpa using h1
   go_enter Tryz.func117,Tryz.ntmps117
   go_wp2
   go_ret
   refine ⟨_,rfl,?_,(ab HB).alloc (ab HB).size _⟩
   refine B1 (g:=W.heap.size+1) (xs:=cc ([iS])) (zJ _ _).symm ?_
   decide
theorem j9 (W:World) (aQ num aE:Int) (key ty nm:ByteArray):((W.alloc (.cells #[.int .i64 aQ,.string key,.string ty,.string nm,.int .i64 num,.int .i64 aE] 42)).cell? ⟨W.heap.size,0,none⟩=some (.int .i64 aQ)∧(W.alloc (.cells #[.int .i64 aQ,.string key,.string ty,.string nm,.int .i64 num,.int .i64 aE] 42)).cell? ⟨W.heap.size,1,none⟩=some (.string key)∧(W.alloc (.cells #[.int .i64 aQ,.string key,.string ty,.string nm,.int .i64 num,.int .i64 aE] 42)).cell? ⟨W.heap.size,2,none⟩=some (.string ty)∧(W.alloc (.cells #[.int .i64 aQ,.string key,.string ty,.string nm,.int .i64 num,.int .i64 aE] 42)).cell? ⟨W.heap.size,3,none⟩=some (.string nm)∧(W.alloc (.cells #[.int .i64 aQ,.string key,.string ty,.string nm,.int .i64 num,.int .i64 aE] 42)).cell? ⟨W.heap.size,4,none⟩=some (.int .i64 num)∧(W.alloc (.cells #[.int .i64 aQ,.string key,.string ty,.string nm,.int .i64 num,.int .i64 aE] 42)).cell? ⟨W.heap.size,5,none⟩=some (.int .i64 aE))∧(W.alloc (.cells #[.int .i64 aQ,.string key,.string ty,.string nm,.int .i64 num,.int .i64 aE] 42)).heap[W.heap.size]?=some (.cells #[.int .i64 aQ,.string key,.string ty,.string nm,.int .i64 num,.int .i64 aE] 42 (0,0))∧Below W.heap.size W (W.alloc (.cells #[.int .i64 aQ,.string key,.string ty,.string nm,.int .i64 num,.int .i64 aE] 42)):=by
 have hn:=aJ W (.cells #[.int .i64 aQ,.string key,.string ty,.string nm,.int .i64 num,.int .i64 aE] 42)
 exact ⟨⟨cell_of_row _ _ _ _ _ _ hn,cell_of_row _ _ _ _ _ _ hn,cell_of_row _ _ _ _ _ _ hn,cell_of_row _ _ _ _ _ _ hn,cell_of_row _ _ _ _ _ _ hn,cell_of_row _ _ _ _ _ _ hn⟩,hn,(zE _ _).alloc (zD _) _⟩
theorem D' {w:World}{b:Nat}{aQ num aE:Int}{key ty nm:ByteArray} (hn:w.heap[b]?=some (.cells #[.int .i64 aQ,.string key,.string ty,.string nm,.int .i64 num,.int .i64 aE] 42 (0,0))):w.cell? ⟨b,0,none⟩=some (.int .i64 aQ)∧w.cell? ⟨b,1,none⟩=some (.string key)∧w.cell? ⟨b,2,none⟩=some (.string ty)∧w.cell? ⟨b,3,none⟩=some (.string nm)∧w.cell? ⟨b,4,none⟩=some (.int .i64 num)∧w.cell? ⟨b,5,none⟩=some (.int .i64 aE) :=
 ⟨cell_of_row _ _ _ _ _ _ hn,cell_of_row _ _ _ _ _ _ hn,cell_of_row _ _ _ _ _ _ hn,cell_of_row _ _ _ _ _ _ hn,cell_of_row _ _ _ _ _ _ hn,cell_of_row _ _ _ _ _ _ hn⟩
noncomputable def mE (d:Fd):Bool:=if d.aQ=1 then d.key.toList.isEmpty else if d.aQ=2∨d.aQ=3 then d.key.toList.isEmpty&&(d.aE==0) else if d.aQ=4 then gZ d.key&&(d.aE==0) else false
theorem Jh {W:World} (hM:gX W) (d:Fd):Calls Tryz.prog 115 #[.agg d.cs.toArray] W fun e w=>e=.returned (.bool (mE d))∧Below W.heap.size W w:=by
 obtain ⟨aQ,key,ty,nm,num,aE⟩:=d
 unfold Fd.cs mE
 simp only
 obtain ⟨⟨c0,c1,c2,c3,c4,c5⟩,-,hb⟩:=j9 W aQ num aE key ty nm
 have HT:=al (zQ (hM.up hb hM.1) key)
 have HB:=al hb
 obtain ⟨qt,E'⟩:∃q,gZ key=q:=⟨_,rfl⟩
 rw[E'] at HT ⊢
 clear hb hM E' c2 c3 c4
 obtain ⟨qk,RN⟩:∃q,key.toList.isEmpty=q:=⟨_,rfl⟩
 obtain ⟨qo,Zt⟩:∃q,(aE==0)=q:=⟨_,rfl⟩
 rw[RN,Zt]
 by_cases h1:aQ=1
 ·subst h1
  rw[if_pos rfl]
  clear HT Zt
  go_enter Tryz.func115,Tryz.ntmps115
  go_wp2
  go_ret
  exact ⟨rfl,ab HB⟩
 ·rw[if_neg h1]
  have e1:(aQ==1)=false:=beq_eq_false_iff_ne.2 h1
  by_cases h2:aQ=2
  ·subst h2
   rw[if_pos (.inl rfl)]
   clear HT h1 e1
   cases qk with
   |false =>
    go_enter Tryz.func115,Tryz.ntmps115
    go_wp2
    go_ret
    exact ⟨rfl,ab HB⟩
   |true =>
    go_enter Tryz.func115,Tryz.ntmps115
    go_wp2
    go_ret
    exact ⟨rfl,ab HB⟩
  ·have e2:(aQ==2)=false:=beq_eq_false_iff_ne.2 h2
   by_cases h3:aQ=3
   ·subst h3
    rw[if_pos (.inr rfl)]
    clear HT h1 e1 h2 e2
    cases qk with
    |false =>
     go_enter Tryz.func115,Tryz.ntmps115
     go_wp2
     go_ret
     exact ⟨rfl,ab HB⟩
    |true =>
     go_enter Tryz.func115,Tryz.ntmps115
     go_wp2
     go_ret
     exact ⟨rfl,ab HB⟩
   ·rw[if_neg (by omega)]
    have e3:(aQ==3)=false:=beq_eq_false_iff_ne.2 h3
    by_cases h4:aQ=4
    ·subst h4
     rw[if_pos rfl]
     clear h1 e1 h2 e2 h3 e3 RN
     go_enter Tryz.func115,Tryz.ntmps115
     go_wp2_with fail
     refine (ab HT).mono ?_
     rintro e w1 ⟨rfl,aX⟩
     have cO:=al ((ab HB).trans (aX.mono (ab HB).size))
     have c5':=(aX.cell (p:=⟨W.heap.size,5,none⟩) (by rw[zJ];exact Nat.lt_succ_self _)).trans c5
     clear HT HB aX
     cases qt with
     |false =>
      go_wp2
      go_ret
      exact ⟨rfl,ab cO⟩
     |true =>
      go_wp2
      go_ret
      exact ⟨rfl,ab cO⟩
    ·rw[if_neg h4]
     have e4:(aQ==4)=false:=beq_eq_false_iff_ne.2 h4
     clear HT h1 h2 h3 h4
     go_enter Tryz.func115,Tryz.ntmps115
     go_wp2
     go_ret
     exact ⟨rfl,ab HB⟩
noncomputable def cL (d:Fd):Bool:=bD d.name&&(decide (0≤d.num)&&decide (d.num≤2147483647))&&gZ d.ty&&mE d&&!sT (fp d.ty) (nZ d)
theorem Fs {W:World} (hM:gX W) (d:Fd) (hs:d.ty.size≤281474976710656):Calls Tryz.prog 71 #[.agg d.cs.toArray] W fun e w=>e=.returned (.bool (cL d))∧Below W.heap.size W w:=by
 obtain ⟨aQ,key,ty,nm,num,aE⟩:=d
 obtain ⟨⟨c0,c1,c2,c3,c4,c5⟩,kb,hb⟩:=j9 W aQ num aE key ty nm
 have HC:=al (fun w=>LK w ty hs)
 have HW:=al (fun w=>iz w nm)
 have HN:=al (fun w=>nV w num 0 2147483647)
 have HT:=al (fun w (h:gX w)=>zQ h ty)
 have HD:=al (fun w (h:gX w)=>Jh h ⟨aQ,key,ty,nm,num,aE⟩)
 have HR:=al (fun w=>Ai (W:=w) ⟨aQ,key,ty,nm,num,aE⟩)
 have HI:=al (fun w v hv=>yK (W:=w) (v:=v) (l:=nZ ⟨aQ,key,ty,nm,num,aE⟩) hv (fp ty))
 unfold cL
 simp only at hs ⊢
 obtain ⟨q1,h1⟩:∃q,bD nm=q:=⟨_,rfl⟩
 obtain ⟨q2,h2⟩:∃q,(decide (0≤num)&&decide (num≤2147483647))=q:=⟨_,rfl⟩
 obtain ⟨q3,h3⟩:∃q,gZ ty=q:=⟨_,rfl⟩
 obtain ⟨q4,h4⟩:∃q,mE ⟨aQ,key,ty,nm,num,aE⟩=q:=⟨_,rfl⟩
 obtain ⟨q5,h5⟩:∃q,sT (fp ty) (nZ ⟨aQ,key,ty,nm,num,aE⟩)=q:=⟨_,rfl⟩
 rw[h1] at HW ⊢
 rw[h2] at HN ⊢
 rw[h3] at HT ⊢
 rw[h4] at HD ⊢
 rw[h5] at HI ⊢
 obtain ⟨fy,Ob⟩:∃x,fp ty=x:=⟨_,rfl⟩
 rw[Ob] at HC HI
 obtain ⟨V,hV⟩:∃V,(W.alloc (.cells #[.int .i64 aQ,.string key,.string ty,.string nm,.int .i64 num,.int .i64 aE] 42))=V:=⟨_,rfl⟩
 have HM:=al (hM.up hb hM.1)
 have HB:=al hb
 rw[hV] at HM HB c0 c1 c2 c3 c4 c5 kb
 unfold Fd.cs at HD HR ⊢
 simp only at HD HR ⊢
 clear h1 h2 h3 h4 h5 Ob hM hb hs
 go_enter Tryz.func71,Tryz.ntmps71
 go_wp2_with fail
 refine (ab HC _).mono ?_
 rintro e w1 ⟨⟨ca,cb,rfl⟩,n1,rfl⟩
 have HK:=al (show (V.drewN n1).heap[W.heap.size]?=_ from kb)
 have cO:Hid (Below W.heap.size W (V.drewN n1)):=below_drewN (ab HB) n1
 have JV:Hid (gX (V.drewN n1)):=ab HM
 clear HB HM kb HC
 go_wp2_with fail
 obtain ⟨w1,cH⟩:∃w,V.drewN n1=w:=⟨_,rfl⟩
 rw[cH] at HK cO JV
 rw[cH]
 clear cH c0 c1 c2 c3 c4 c5 hV
 refine (ab HW _).mono ?_
 rintro e w ⟨rfl,rfl⟩
 cases q1 with
 |false =>
  go_wp2
  go_ret
  exact ⟨rfl,ab cO⟩
 |true =>
 obtain ⟨c0,c1,c2,c3,c4,c5⟩:=D' (ab HK)
 go_wp2_with fail
 refine (ab HN _).mono ?_
 rintro e w' ⟨rfl,rfl⟩
 cases q2 with
 |false =>
  go_wp2
  go_ret
  exact ⟨rfl,ab cO⟩
 |true =>
 go_wp2_with fail
 refine (ab HT _ (ab JV)).mono ?_
 rintro e w2 ⟨rfl,bd⟩
 have fI:=al ((bd.block _ (zA (ab HK)).1).trans (ab HK))
 have Tl:=al ((ab JV).up bd (ab JV).1)
 have cS:=al ((ab cO).trans (bd.mono (ab cO).size))
 clear bd HK JV cO c0 c1 c2 c3 c4 c5 HT
 cases q3 with
 |false =>
  go_wp2
  go_ret
  exact ⟨rfl,ab cS⟩
 |true =>
 obtain ⟨c0,c1,c2,c3,c4,c5⟩:=D' (ab fI)
 go_wp2_with fail
 refine (ab HD _ (ab Tl)).mono ?_
 rintro e w3 ⟨rfl,cz⟩
 have na:=al ((cz.block _ (zA (ab fI)).1).trans (ab fI))
 have eh:=al ((ab cS).trans (cz.mono (ab cS).size))
 clear cz fI Tl cS c0 c1 c2 c3 c4 c5 HD
 cases q4 with
 |false =>
  go_wp2
  go_ret
  exact ⟨rfl,ab eh⟩
 |true =>
 obtain ⟨c0,c1,c2,c3,c4,c5⟩:=D' (ab na)
 go_wp2_with fail
 refine (ab HR _).mono ?_
 rintro e w4 ⟨v4,rfl,Zg,ff⟩
 have HI4:=al (ab HI _ v4 Zg)
 have Dg:=al ((ab eh).trans (ff.mono (ab eh).size))
 clear ff na eh c0 c1 c2 c3 c4 c5 HR HI Zg
 go_wp2_with fail
 refine (ab HI4).mono ?_
 rintro e w5 ⟨rfl,rfl⟩
 clear HI4
 go_wp2
 go_ret
 exact ⟨rfl,ab Dg⟩
end Go.Proofs.YtichhjfjcinjgaaGreatDoor
namespace Go.Proofs.YtichhjfjcinjgaaGreatDoor
open Go.RowKit Go.Shelf
attribute [local go_sem ↓] Go.wp_at_zero Go.wp_at_succ
def il (W:World):Prop:=Lib.TabIs Tryz.prog W "internal/strconv.uint64pow10" .u64 Lib.pow10Tab
theorem il.up {W w:World} (h:il W) (hb:Below W.heap.size W w):il w:=by
 unfold il Lib.TabIs World.var? at h ⊢
 obtain ⟨g,hg,hm⟩:=Option.bind_eq_some_iff.1 h
 rw[hg]
 show (match w.heap[g]? with
  |some (.cells cs _ _)=>some cs
  |_=>none)=_
 have aM:g<W.heap.size:=by
  rcases Nat.lt_or_ge g W.heap.size with q|q
  ·exact q
  ·rw[Array.getElem?_eq_none q] at hm
   cases hm
 rw[hb.block g aM]
 exact hm
def bJ (n:Int):ByteArray:=⟨(Lib.itoa n).toArray⟩
theorem oT {w:World} (h:il w) (n:Int) (h0:-9223372036854775808≤n) (h1:n≤9223372036854775807):Calls Tryz.prog 134 #[.int .i64 n] w fun e w'=>e=.returned (.string (bJ n))∧Below w.heap.size w w':=by
 refine (Any.strconv_Itoa Tryz.E2 n h0 h1 w h).mono ?_
 rintro e w' ⟨rfl,k,os,rfl⟩
 exact ⟨rfl,Lib.below_grow _ w (zD _) k os⟩
theorem cU {n:Int} (h0:-9223372036854775808≤n) (h1:n≤9223372036854775807):(bJ n).size≤21:=by
 show (Lib.itoa n).length≤21
 unfold Lib.itoa
 split
 ·rw[List.length_cons,Lib.decDigits_length]
  have:=Lib.nDigits_le20 n.natAbs (by omega)
  omega
 ·rw[Lib.decDigits_length]
  have:=Lib.nDigits_le20 n.toNat (by omega)
  omega
def KM:ByteArray:=⟨#[111,112,116,105,111,110,97,108,32]⟩
def KL:ByteArray:=⟨#[114,101,112,101,97,116,101,100,32]⟩
def KN:ByteArray:=⟨#[109,97,112,60]⟩
def EO:ByteArray:=⟨#[44,32]⟩
def TH:ByteArray:=⟨#[62]⟩
def nz:ByteArray:=⟨#[32,116,111,32]⟩
def uj:ByteArray:=⟨#[32,116,111,32,109,97,120]⟩
def qK (d:Fd):ByteArray:=if d.aQ=2 then KM++d.ty else if d.aQ=3 then KL++d.ty else if d.aQ=4 then KN++d.key++EO++d.ty++TH else d.ty
theorem xJ {W:World} (d:Fd) (hk:d.key.size≤255) (ht:d.ty.size≤255):Calls Tryz.prog 133 #[.agg d.cs.toArray] W fun e w=>e=.returned (.string (qK d))∧Below W.heap.size W w:=by
 obtain ⟨aQ,key,ty,nm,num,aE⟩:=d
 unfold Fd.cs qK KM KL KN EO TH
 simp only at hk ht ⊢
 obtain ⟨⟨c0,c1,c2,c3,c4,c5⟩,-,hb⟩:=j9 W aQ num aE key ty nm
 have HB:=al hb
 clear hb c3 c4 c5
 by_cases h2:aQ=2
 ·subst h2
  rw[if_pos rfl]
  go_enter Tryz.func133,Tryz.ntmps133
  go_wp2
  go_ret
  exact ⟨rfl,ab HB⟩
 ·rw[if_neg h2]
  have e2:(aQ==2)=false:=beq_eq_false_iff_ne.2 h2
  by_cases h3:aQ=3
  ·subst h3
   rw[if_pos rfl]
   go_enter Tryz.func133,Tryz.ntmps133
   go_wp2
   go_ret
   exact ⟨rfl,ab HB⟩
  ·rw[if_neg h3]
   have e3:(aQ==3)=false:=beq_eq_false_iff_ne.2 h3
   by_cases h4:aQ=4
   ·subst h4
    rw[if_pos rfl]
    go_enter Tryz.func133,Tryz.ntmps133
    go_wp2
    go_ret
    exact ⟨rfl,ab HB⟩
   ·rw[if_neg h4]
    have e4:(aQ==4)=false:=beq_eq_false_iff_ne.2 h4
    go_enter Tryz.func133,Tryz.ntmps133
    go_wp2
    go_ret
    exact ⟨rfl,ab HB⟩
def eM (most:Int) (r:Int×Int):ByteArray:=if r.2=r.1 then bJ r.1 else if r.2=most then bJ r.1++uj else bJ r.1++nz++bJ r.2
theorem Ad {W:World} (hP:il W) (a b most:Int) (ha:-2147483648≤a∧a≤2147483647) (hb:-2147483648≤b∧b≤2147483647):Calls Tryz.prog 172 #[.agg #[.int .i64 a,.int .i64 b],.int .i64 most] W fun e w=>e=.returned (.string (eM most (a,b)))∧Below W.heap.size W w:=by
 have hn:=aJ W (.cells #[.int .i64 a,.int .i64 b] 111)
 have bG:Below W.heap.size W (W.alloc (.cells #[.int .i64 a,.int .i64 b] 111)):=(zE _ _).alloc (zD _) _
 obtain ⟨V,hV⟩:∃V,W.alloc (.cells #[.int .i64 a,.int .i64 b] 111)=V:=⟨_,rfl⟩
 rw[hV] at hn bG
 have c0:V.cell? ⟨W.heap.size,0,none⟩=some (.int .i64 a):=cell_of_row _ _ _ _ _ _ hn
 have c1:V.cell? ⟨W.heap.size,1,none⟩=some (.int .i64 b):=cell_of_row _ _ _ _ _ _ hn
 have HI:=al (oT (hP.up bG) a (by omega) (by omega))
 have Tz:=al (fun w (h:il w)=>oT h b (by omega) (by omega))
 have HB:=al bG
 have HN:=al hn
 have MX:Hid (∀w,Below W.heap.size W w→il w):=fun w h=>hP.up h
 have za:=cU (n:=a) (by omega) (by omega)
 have zb:=cU (n:=b) (by omega) (by omega)
 unfold eM uj nz
 simp only
 obtain ⟨ta,Zk⟩:∃t,bJ a=t:=⟨_,rfl⟩
 obtain ⟨tb,RD⟩:∃t,bJ b=t:=⟨_,rfl⟩
 rw[Zk] at HI za ⊢
 rw[RD] at Tz zb ⊢
 clear hn bG hP Zk RD ha hb
 go_enter Tryz.func172,Tryz.ntmps172
 go_wp2_with fail
 refine (ab HI).mono ?_
 rintro e w1 ⟨rfl,aX⟩
 have CE:=(aX.block _ (zA (ab HN)).1).trans (ab HN)
 have d0:w1.cell? ⟨W.heap.size,0,none⟩=some (.int .i64 a):=cell_of_row _ _ _ _ _ _ CE
 have d1:w1.cell? ⟨W.heap.size,1,none⟩=some (.int .i64 b):=cell_of_row _ _ _ _ _ _ CE
 have cO:=al ((ab HB).trans (aX.mono (ab HB).size))
 clear aX HI HN HB c0 c1 CE
 by_cases h1:b=a
 ·have e1:(b==a)=true:=beq_iff_eq.2 h1
  clear Tz MX
  go_wp2
  go_ret
  exact ⟨rfl,ab cO⟩
 ·have e1:(b==a)=false:=beq_eq_false_iff_ne.2 h1
  by_cases h2:b=most
  ·have e2:(b==most)=true:=beq_iff_eq.2 h2
   clear Tz MX
   go_wp2
   go_ret
   first|exact ⟨rfl,ab cO⟩|(rw[if_neg h1,if_pos h2];exact ⟨rfl,ab cO⟩)|(rw[if_neg h1];exact ⟨rfl,ab cO⟩)
  ·have e2:(b==most)=false:=beq_eq_false_iff_ne.2 h2
   have QD:=al (ab Tz _ (ab MX _ (ab cO)))
   clear Tz MX
   go_wp2_with fail
   refine (ab QD).mono ?_
   rintro e w2 ⟨rfl,bd⟩
   have cS:=al ((ab cO).trans (bd.mono (ab cO).size))
   clear bd QD cO
   go_wp2
   go_ret
   first|exact ⟨rfl,ab cS⟩|(rw[if_neg h1,if_neg h2];exact ⟨rfl,ab cS⟩)
end Go.Proofs.YtichhjfjcinjgaaGreatDoor
namespace Go.Proofs.YtichhjfjcinjgaaGreatDoor
open Go.RowKit
attribute [local go_sem ↓] Go.wp_at_zero Go.wp_at_succ
theorem Ct:(Tryz.prog.info? 9).map (fun i=>(i.zero,i.size,i.bytes))=some (some (.string ByteArray.empty),1,16):=by kernel_rfl
theorem dL {B t sz n:Nat}{v:Value}{xs:List Value}{w w':World} (h:w.ownsRow B t sz v n xs) (hb:Below w.heap.size w w'):w'.ownsRow B t sz v n xs:=by
 refine h.kept (show w.grownBy w' none from ⟨hb.os,hb.tape,hb.output,hb.size,fun k hk _=>hb.block k hk⟩) ?_
 cases v.ownBlock with
 |none=>exact .inl rfl
 |some k=>exact .inr (by simp)
theorem zU {α:Type}{l:List α}{T:α→ByteArray}{i:Nat}{x:α} (h:l[i]?=some x):cc ((l.take (i+1)).map T)=cc ((l.take i).map T)++[.string (T x)]:=by
 obtain ⟨hi,rfl⟩:=zB h
 rw[List.take_succ_eq_append_getElem hi,List.map_append]
 unfold cc
 simp
theorem FB {W:World}{v:Value}{l:List (Int×Int)} (hv:Rl W v l.length (lj l)) (hl:l.length≤4096) {f:Fv} (dZ:f.ok) {T:Int×Int→ByteArray} (w0:World) (hw:Below W.heap.size W w0)
  (hf:∀r ∈ l,∀w,Below w0.heap.size w0 w→Calls Tryz.prog f.f (f.fs.push (.agg #[.int .i64 r.1,.int .i64 r.2])++f.cp) w fun e w'=>e=.returned (.string (T r))∧Below w.heap.size w w') :
  Calls Tryz.prog 170 #[v,f.val] w0 fun e w=>∃u,e=.returned u∧w.ownsRow w0.heap.size 9 1 u l.length (cc (l.map T))∧Below w0.heap.size w0 w:=by
 obtain ⟨a,c,rfl,hn,h2⟩:=hv
 obtain ⟨qX,fs,cp⟩:=f
 obtain ⟨i0,hi,fU,dS,da⟩:=info_parts Ct
 unfold Fv.val
 unfold Fv.ok at dZ
 simp only at dZ hf ⊢
 have H2:=al h2
 have HF:=al hf
 have HW:=al hw
 clear h2 hf hw
 go_enter Tryz.func170,Tryz.ntmps170
 go_wp2
 go_loopg [5,7,10] l.length (fun gk v5 _ v10 wr=>∃(i:Nat),v10=.int .i64 (i:Int)∧gk=l.length-i∧i≤l.length∧Hid (wr.ownsRow w0.heap.size 9 1 v5 i (cc ((l.take i).map T)))∧Hid (Below w0.heap.size w0 wr))
 case atStart=>exact ⟨0,rfl,rfl,by omega,⟨rfl,.inl ⟨rfl,rfl⟩⟩,zE _ _⟩
 case round =>
  obtain ⟨i,rfl,aW,eV,HO,HB⟩:=hrel
  have bz:=al aW
  clear aW
  by_cases aM:i<l.length
  ·obtain ⟨g,o,rfl,hg,hc⟩:=ab H2 (by omega)
   have hr:=List.getElem?_eq_getElem aM
   have cJ:=List.getElem_mem aM
   obtain ⟨r,uO⟩:∃r,l[i]=r:=⟨_,rfl⟩
   rw[uO] at hr cJ
   have gV:=al (show Below W.heap.size W wr from (ab HW).trans ((ab HB).mono (ab HW).size))
   have x0:=((ab gV).cell (p:=⟨g,o+(i*2+0),none⟩) hg).trans (hc _ _ (gI hr (j:=0) (by decide)))
   have x1:=((ab gV).cell (p:=⟨g,o+(i*2+1),none⟩) hg).trans (hc _ _ (gI hr (j:=1) (by decide)))
   rw[Nat.add_zero] at x0
   rw[←Nat.add_assoc] at x1
   have fw:=aJ wr (.cells #[.int .i64 r.1,.int .i64 r.2] 111)
   have bG:Below wr.heap.size wr (wr.alloc (.cells #[.int .i64 r.1,.int .i64 r.2] 111)):=(zE _ _).alloc (zD _) _
   obtain ⟨V,hV⟩:∃V,wr.alloc (.cells #[.int .i64 r.1,.int .i64 r.2] 111)=V:=⟨_,rfl⟩
   rw[hV] at fw bG
   have b0:V.cell? ⟨wr.heap.size,0,none⟩=some (.int .i64 r.1):=cell_of_row _ _ _ _ _ _ fw
   have b1:V.cell? ⟨wr.heap.size,1,none⟩=some (.int .i64 r.2):=cell_of_row _ _ _ _ _ _ fw
   clear fw
   have Gj:=al ((ab HB).trans (bG.mono (ab HB).size))
   have Tj:=al (dL (ab HO) bG)
   have HC:=al (ab HF r cJ V (ab Gj))
   have HT:=al (zU (T:=T) hr)
   have Mr:(0:Int)≤(i:Int):=zH _
   have i1:(i:Int)<(l.length:Int):=by omega
   have bu:=al aM
   have Hl:=al hl
   clear hc hr cJ uO bG HO HB gV aM
   go_wp2_with fail
   refine (ab HC).mono ?_
   rintro e w1 ⟨rfl,aX⟩
   have Gh:=al (dL (ab Tj) aX)
   have cO:=al ((ab Gj).trans (aX.mono (ab Gj).size))
   have iQ:=al (ab cO).size
   clear aX HC Tj Gj
   go_wp2_with (at_builtin;refine wpList_append_own_at _ rfl _ _ 22 rfl w0.heap.size 9 i0 (.string ByteArray.empty) 1 16 Tryz.underlying22 hi fU dS da rfl (by decide) _ _ _ rfl ((ab Gh).alloc _) ⟨w1.heap.size,0,none⟩ 1 1 [.string (T r)] rfl rfl (cell_one_new _ _ _) (by simp[Value.oneCell']) (by have:=ab bu;have:=ab Hl;unfold maxLen;omega) (by have:=ab bu;have:=ab Hl;omega) (by rw[zJ];have:=ab iQ;omega) ?_;intro v' w2 ho ep _ _;have mb:=al ho;have cS:=al (((ab cO).alloc (ab cO).size _).grown ep (by rw[zJ];have:=ab iQ;omega) (fun k e=>((ab Gh).lt k e).1));clear ho ep)
   rw[←ab HT] at mb
   go_roundg (l.length-(i+1))
   case measure=>have:=ab bz;have:=ab bu;omega
   case rel=>exact ⟨i+1,by go_num,rfl,ab bu,mb,cS⟩
  ·obtain rfl:i=l.length:=by omega
   have hO:=ab HO
   rw[List.take_length] at hO
   have mb:=al hO
   clear hO
   go_wp2
   go_ret
   exact ⟨_,rfl,ab mb,ab HB⟩
theorem FA {W:World}{v:Value}{l:List (ByteArray)} (hv:Rl W v l.length (cc l)) (hl:l.length≤4096) {f:Fv} (dZ:f.ok) {T:ByteArray→ByteArray} (w0:World) (hw:Below W.heap.size W w0)
  (hf:∀r ∈ l,∀w,Below w0.heap.size w0 w→Calls Tryz.prog f.f (f.fs.push (.string r)++f.cp) w fun e w'=>e=.returned (.string (T r))∧Below w.heap.size w w') :
  Calls Tryz.prog 173 #[v,f.val] w0 fun e w=>∃u,e=.returned u∧w.ownsRow w0.heap.size 9 1 u l.length (cc (l.map T))∧Below w0.heap.size w0 w:=by
 obtain ⟨a,c,rfl,hn,h2⟩:=hv
 obtain ⟨qX,fs,cp⟩:=f
 obtain ⟨i0,hi,fU,dS,da⟩:=info_parts Ct
 unfold Fv.val
 unfold Fv.ok at dZ
 simp only at dZ hf ⊢
 have H2:=al h2
 have HF:=al hf
 have HW:=al hw
 clear h2 hf hw
 go_enter Tryz.func173,Tryz.ntmps173
 go_wp2
 go_loopg [5,7,10] l.length (fun gk v5 _ v10 wr=>∃(i:Nat),v10=.int .i64 (i:Int)∧gk=l.length-i∧i≤l.length∧Hid (wr.ownsRow w0.heap.size 9 1 v5 i (cc ((l.take i).map T)))∧Hid (Below w0.heap.size w0 wr))
 case atStart=>exact ⟨0,rfl,rfl,by omega,⟨rfl,.inl ⟨rfl,rfl⟩⟩,zE _ _⟩
 case round =>
  obtain ⟨i,rfl,aW,eV,HO,HB⟩:=hrel
  have bz:=al aW
  clear aW
  by_cases aM:i<l.length
  ·obtain ⟨g,o,rfl,hg,hc⟩:=ab H2 (by omega)
   have hr:=List.getElem?_eq_getElem aM
   have cJ:=List.getElem_mem aM
   obtain ⟨r,uO⟩:∃r,l[i]=r:=⟨_,rfl⟩
   rw[uO] at hr cJ
   have gV:=al (show Below W.heap.size W wr from (ab HW).trans ((ab HB).mono (ab HW).size))
   have x0:=((ab gV).cell (p:=⟨g,o+i,none⟩) hg).trans (hc _ _ (dT hr))
   have bG:Below wr.heap.size wr wr:=zE _ _
   have Gj:=al ((ab HB).trans (bG.mono (ab HB).size))
   have Tj:=al (dL (ab HO) bG)
   have HC:=al (ab HF r cJ wr (ab Gj))
   have HT:=al (zU (T:=T) hr)
   have Mr:(0:Int)≤(i:Int):=zH _
   have i1:(i:Int)<(l.length:Int):=by omega
   have bu:=al aM
   have Hl:=al hl
   clear hc hr cJ uO bG HO HB gV aM
   go_wp2_with fail
   refine (ab HC).mono ?_
   rintro e w1 ⟨rfl,aX⟩
   have Gh:=al (dL (ab Tj) aX)
   have cO:=al ((ab Gj).trans (aX.mono (ab Gj).size))
   have iQ:=al (ab cO).size
   clear aX HC Tj Gj
   go_wp2_with (at_builtin;refine wpList_append_own_at _ rfl _ _ 22 rfl w0.heap.size 9 i0 (.string ByteArray.empty) 1 16 Tryz.underlying22 hi fU dS da rfl (by decide) _ _ _ rfl ((ab Gh).alloc _) ⟨w1.heap.size,0,none⟩ 1 1 [.string (T r)] rfl rfl (cell_one_new _ _ _) (by simp[Value.oneCell']) (by have:=ab bu;have:=ab Hl;unfold maxLen;omega) (by have:=ab bu;have:=ab Hl;omega) (by rw[zJ];have:=ab iQ;omega) ?_;intro v' w2 ho ep _ _;have mb:=al ho;have cS:=al (((ab cO).alloc (ab cO).size _).grown ep (by rw[zJ];have:=ab iQ;omega) (fun k e=>((ab Gh).lt k e).1));clear ho ep)
   rw[←ab HT] at mb
   go_roundg (l.length-(i+1))
   case measure=>have:=ab bz;have:=ab bu;omega
   case rel=>exact ⟨i+1,by go_num,rfl,ab bu,mb,cS⟩
  ·obtain rfl:i=l.length:=by omega
   have hO:=ab HO
   rw[List.take_length] at hO
   have mb:=al hO
   clear hO
   go_wp2
   go_ret
   exact ⟨_,rfl,ab mb,ab HB⟩
end Go.Proofs.YtichhjfjcinjgaaGreatDoor

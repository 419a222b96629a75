import Derived.Test.YtichhjfjcinjgaaGreatDoorM13
import Derived.Lib.AppendIntMem
import Derived.Lib.LaidTab
import Derived.Lib.ItoaLen
set_option maxHeartbeats 2000000
set_option maxRecDepth 100000
namespace Go.Proofs.YtichhjfjcinjgaaGreatDoor
open Go.RowKit
attribute [local go_sem ↓] Go.wp_at_zero Go.wp_at_succ
def fh (s:ByteArray):ByteArray:=if 0≤firstIdx s 46 then s.extract 0 (firstIdx s 46).toNat else s
theorem Ns {s:ByteArray}{c:UInt8}{z:Nat} (h:firstIdx s c=(z:Int)):z<s.size:=by
 rw[Lib.firstIdx_eq] at h
 exact (zB (Lib.indexByte_some h).1).1
theorem toList_data (s:ByteArray):s.toList=s.data.toList:=by
 obtain ⟨⟨l⟩⟩:=s
 exact Go.ByteArray.toList_mk l
theorem N8 {s:ByteArray} (h:([46]==s.toList)=true):s=⟨#[46]⟩:=by
 have e:s.toList=[46]:=(beq_iff_eq.1 h).symm
 rw[toList_data] at e
 obtain ⟨⟨l⟩⟩:=s
 simp only at e
 rw[e]
theorem EC (W:World) (s:ByteArray):Calls Tryz.prog 187 #[.string s,.string ⟨#[46]⟩] W fun e w=>e=.returned (.int .i64 (firstIdx s 46))∧w=W:=by
 cases hq:([46]==s.toList) with
 |true =>
  obtain rfl:=N8 hq
  have e0:firstIdx ⟨#[46]⟩ 46=0:=by decide +kernel
  rw[e0]
  go_enter Tryz.func187,Tryz.ntmps187
  go_wp2
  go_ret
  exact ⟨rfl,rfl⟩
 |false =>
  go_enter Tryz.func187,Tryz.ntmps187
  go_wp2
  rw[run_callFunc_indexByte Tryz.func194 (by kernel_rfl) (by kernel_rfl) (by kernel_rfl) (by kernel_rfl),run_indexByte_string]
  simp only[Result.andThen]
  go_wp2
  go_ret
  exact ⟨rfl,rfl⟩
theorem Gh (W:World) (s:ByteArray) (hs:s.size≤281474976710656):Calls Tryz.prog 158 #[.string s,.string ⟨#[46]⟩] W fun e w=>(∃a b,e=.returned (.tuple #[.string (fh s),.string a,.bool b]))∧∃n,w=W.drewN n:=by
 have HI:=al (EC W s)
 obtain ⟨z,hz⟩:∃z,firstIdx s 46=z:=⟨_,rfl⟩
 unfold fh
 rw[hz] at HI ⊢
 by_cases h:0≤z
 ·obtain ⟨k,rfl⟩:∃k:Nat,z=(k:Int):=⟨z.toNat,by omega⟩
  have hk:=Ns hz
  have e1:decide ((0:Int)≤(k:Int))=true:=decide_eq_true h
  rw[if_pos h,Int.toNat_natCast]
  clear h hz
  go_enter Tryz.func158,Tryz.ntmps158
  go_wp2_with fail
  refine (ab HI).mono ?_
  rintro e w ⟨rfl,rfl⟩
  clear HI
  go_wp2
  go_quiet (fail)
  go_wp2
  refine bodyPost_ret (results_tmp3 rfl _ _ _) rfl ?_
  exact ⟨⟨_,_,rfl⟩,_,rfl⟩
 ·have e1:decide ((0:Int)≤z)=false:=decide_eq_false h
  rw[if_neg h]
  clear h hz
  go_enter Tryz.func158,Tryz.ntmps158
  go_wp2_with fail
  refine (ab HI).mono ?_
  rintro e w ⟨rfl,rfl⟩
  clear HI
  go_wp2
  refine bodyPost_ret (results_tmp3 rfl _ _ _) rfl ?_
  exact ⟨⟨_,_,rfl⟩,0,rfl⟩
theorem Lg (W:World) (s:ByteArray) (hs:s.size≤281474976710656):Calls Tryz.prog 113 #[.string s,.string ⟨#[46]⟩] W fun e w=>(∃a b,e=.returned (.tuple #[.string (fh s),.string a,.bool b]))∧∃n,w=W.drewN n:=by
 have HI:=al (Gh W s hs)
 go_enter Tryz.func113,Tryz.ntmps113
 go_wp2_with fail
 refine (ab HI).mono ?_
 rintro e w ⟨⟨a,b,rfl⟩,n,rfl⟩
 clear HI
 go_wp2
 refine bodyPost_ret (results_tmp3 rfl _ _ _) rfl ?_
 exact ⟨⟨_,_,rfl⟩,n,rfl⟩
def j6 (s:ByteArray):ByteArray:=⟨(Lib.trimPrefix s.data.toList [46]).toArray⟩
noncomputable def gS (s:ByteArray):Bool:=decide (s.size≤255)&&dx (j6 s)
theorem F1 (W:World) (s:ByteArray):Calls Tryz.prog 159 #[.string s,.string ⟨#[46]⟩] W fun e w=>e=.returned (.string (j6 s))∧w=W:=Any.strings_TrimPrefix Tryz.Ez s ⟨#[46]⟩ W
theorem yP {W:World} (hM:ia W) (s:ByteArray):Calls Tryz.prog 114 #[.string s] W fun e w=>e=.returned (.bool (gS s))∧Below W.heap.size W w:=by
 have HT:=al (F1 W s)
 have HN:=al (wj hM (j6 s))
 unfold gS
 obtain ⟨b,hb⟩:∃b,dx (j6 s)=b:=⟨_,rfl⟩
 rw[hb] at HN ⊢
 clear hb hM
 by_cases hs:s.size≤255
 ·have e1:decide ((s.size:Int)≤255)=true:=decide_eq_true (by omega)
  rw[decide_eq_true hs,Bool.true_and]
  go_enter Tryz.func114,Tryz.ntmps114
  go_wp2_with fail
  refine (ab HT).mono ?_
  rintro e w ⟨rfl,rfl⟩
  clear HT
  go_wp2_with fail
  refine (ab HN).mono ?_
  rintro e w1 ⟨rfl,aW⟩
  have HB:=al aW
  clear HN aW
  go_wp2
  go_ret
  exact ⟨rfl,ab HB⟩
 ·have e1:decide ((s.size:Int)≤255)=false:=decide_eq_false (by omega)
  rw[decide_eq_false hs,Bool.false_and]
  clear HT HN
  go_enter Tryz.func114,Tryz.ntmps114
  go_wp2
  go_ret
  exact ⟨rfl,zE _ _⟩
def sw (x:ByteArray) (l:List ByteArray):Bool:=l.any fun t=>x.toList==t.toList
theorem GR {x:ByteArray}{l:List ByteArray}{i:Nat}{t:ByteArray} (h:l[i]?=some t):sw x (l.drop i)=((x.toList==t.toList) ||sw x (l.drop (i+1))):=by
 obtain ⟨hi,rfl⟩:=zB h
 unfold sw
 rw[List.drop_eq_getElem_cons hi,List.any_cons]
theorem Bv {W:World}{v:Value}{l:List ByteArray} (hv:Rl W v l.length (bZ l)) (x:ByteArray):Calls Tryz.prog 160 #[v,.string x] W fun e w=>∃r:Int,e=.returned (.int .i64 r)∧decide (0≤r)=sw x l∧w=W:=by
 obtain ⟨a,c,rfl,hn,h2⟩:=hv
 have H2:=al h2
 clear h2
 go_enter Tryz.func160,Tryz.ntmps160
 go_wp2
 go_loopg [5,8] l.length (fun gk _ v8 wr=>∃(i:Nat),v8=.int .i64 (i:Int)∧gk=l.length-i∧i≤l.length∧wr=W∧Hid (sw x l=sw x (l.drop i)))
 case atStart=>exact ⟨0,rfl,rfl,by omega,rfl,rfl⟩
 case round =>
  obtain ⟨i,rfl,aU,hi,rfl,HA⟩:=hrel
  have bz:=al aU
  clear aU
  by_cases aM:i<l.length
  ·obtain ⟨g,o,rfl,hg,hc⟩:=ab H2 (by omega)
   obtain ⟨t,ht⟩:∃t,l[i]?=some t:=⟨_,List.getElem?_eq_getElem aM⟩
   have x0:=hc _ _ (dS ht)
   have HS:=al (GR (x:=x) ht)
   have i0:(0:Int)≤(i:Int):=zH _
   have i1:(i:Int)<(l.length:Int):=by omega
   obtain ⟨q,hq⟩:∃q,(x.toList==t.toList)=q:=⟨_,rfl⟩
   rw[hq] at HS
   clear hc ht
   cases q with
   |true =>
    go_wp2
    go_ret
    refine ⟨(i:Int),rfl,?_,rfl⟩
    rw[ab HA,ab HS,Bool.true_or]
    simp
   |false =>
    have bu:=al aM
    clear aM
    go_wp2
    go_roundg (l.length-(i+1))
    case measure=>have:=ab bz;have:=ab bu;omega
    case rel=>exact ⟨i+1,by go_num,rfl,ab bu,rfl,(ab HA).trans ((ab HS).trans (Bool.false_or _))⟩
  ·obtain rfl:i=l.length:=by omega
   have HN:=al (show sw x l=false by rw[ab HA,List.drop_length];rfl)
   go_wp2
   go_ret
   refine ⟨-1,rfl,?_,rfl⟩
   rw[ab HN]
   rfl
theorem ye {W:World}{v:Value}{l:List ByteArray} (hv:Rl W v l.length (bZ l)) (x:ByteArray):Calls Tryz.prog 116 #[v,.string x] W fun e w=>e=.returned (.bool (sw x l))∧w=W:=by
 have HI:=al (Bv hv x)
 obtain ⟨a,c,rfl,hn,h2⟩:=hv
 obtain ⟨q,hq⟩:∃q,sw x l=q:=⟨_,rfl⟩
 rw[hq] at HI ⊢
 clear h2 hq
 go_enter Tryz.func116,Tryz.ntmps116
 go_wp2_with fail
 refine (ab HI).mono ?_
 rintro e w ⟨r,rfl,hr,rfl⟩
 have HR:=al hr
 clear hr HI
 go_wp2
 go_ret
 refine ⟨?_,rfl⟩
 rw[←ab HR]
 rfl
def iL:ByteArray:=⟨#[103,114,111,117,112]⟩
def eV:ByteArray:=⟨#[111,112,116,105,111,110]⟩
def fW:ByteArray:=⟨#[111,112,116,105,111,110,97,108]⟩
def fV:ByteArray:=⟨#[114,101,112,101,97,116,101,100]⟩
def fU:ByteArray:=⟨#[114,101,113,117,105,114,101,100]⟩
def lR:ByteArray:=⟨#[111,110,101,111,102]⟩
def ik:ByteArray:=⟨#[109,101,115,115,97,103,101]⟩
def qd:ByteArray:=⟨#[101,110,117,109]⟩
def dv:ByteArray:=⟨#[114,101,115,101,114,118,101,100]⟩
def si:ByteArray:=⟨#[101,120,116,101,110,100]⟩
def j5:ByteArray:=⟨#[101,120,116,101,110,115,105,111,110,115]⟩
def nD (d:Fd):List ByteArray:=if d.aP=4 then [] else if d.aP≠1 then [iL] else if d.aE≠0 then [eV,iL,fW,fV,fU,lR,ik,qd,dv] else [ik,qd,lR,dv,fW,fV,eV,si,j5,iL,fU]
theorem Bz {W:World}{xs:List Value}{n c g:Nat}{t:TypeId} (hg:g=W.heap.size) (hn:n≤140737488355328):Rl (W.alloc (.cells xs.toArray t)) (.slice (some ⟨g,0,none⟩) n c) n xs:=by
 subst hg
 refine ⟨_,c,rfl,hn,fun _=>⟨W.heap.size,0,rfl,by rw[zJ];omega,fun j x hx=>?_⟩⟩
 rw[Nat.zero_add,cell_of_row _ _ _ _ _ _ (aK W _)]
 simpa using hx
theorem la (W:World) (xs:List Value):Rl W (.slice none 0 0) 0 xs:=⟨none,0,rfl,by omega,fun h=>absurd h (by omega)⟩
theorem zk {W:World} (d:Fd):Calls Tryz.prog 117 #[.agg d.cs.toArray] W fun e w=>∃v,e=.returned v∧Rl w v (nD d).length (bZ (nD d))∧Below W.heap.size W w:=by
 obtain ⟨aP,key,ty,nm,num,aE⟩:=d
 unfold Fd.cs nD
 simp only
 have hn:=aK W (.cells #[.int .i64 aP,.string key,.string ty,.string nm,.int .i64 num,.int .i64 aE] 42)
 have c0:(W.alloc (.cells #[.int .i64 aP,.string key,.string ty,.string nm,.int .i64 num,.int .i64 aE] 42)).cell? ⟨W.heap.size,0,none⟩=some (.int .i64 aP):=cell_of_row _ _ _ _ _ _ hn
 have c5:(W.alloc (.cells #[.int .i64 aP,.string key,.string ty,.string nm,.int .i64 num,.int .i64 aE] 42)).cell? ⟨W.heap.size,5,none⟩=some (.int .i64 aE):=cell_of_row _ _ _ _ _ _ hn
 have HB:Hid (Below W.heap.size W (W.alloc (.cells #[.int .i64 aP,.string key,.string ty,.string nm,.int .i64 num,.int .i64 aE] 42))):=(zE _ _).alloc (zD _) _
 clear hn
 by_cases h4:aP=4
 ·subst h4
  rw[if_pos rfl]
  go_enter Tryz.func117,Tryz.ntmps117
  go_wp2
  go_ret
  exact ⟨_,rfl,la _ _,ab HB⟩
 ·rw[if_neg h4]
  have e4:(aP==4)=false:=beq_eq_false_iff_ne.2 h4
  by_cases h1:aP=1
  ·subst h1
   rw[if_neg (by decide)]
   by_cases h0:aE=0
   ·subst h0
    rw[if_neg (by decide)]
    go_enter Tryz.func117,Tryz.ntmps117
    go_wp2
    go_ret
    refine ⟨_,rfl,?_,(ab HB).alloc (ab HB).size _⟩
    refine Bz (g:=W.heap.size+1) (xs:=bZ ([ik,qd,lR,dv,fW,fV,eV,si,j5,iL,fU])) (zJ _ _).symm ?_
    decide
   ·rw[if_pos h0]
    have e0:(aE != 0)=true:=by simpa using h0
    go_enter Tryz.func117,Tryz.ntmps117
    go_wp2
    go_ret
    refine ⟨_,rfl,?_,(ab HB).alloc (ab HB).size _⟩
    refine Bz (g:=W.heap.size+1) (xs:=bZ ([eV,iL,fW,fV,fU,lR,ik,qd,dv])) (zJ _ _).symm ?_
    decide
  ·rw[if_pos h1]
   have e1:(aP != 1)=true:=by simpa using h1
   go_enter Tryz.func117,Tryz.ntmps117
   go_wp2
   go_ret
   refine ⟨_,rfl,?_,(ab HB).alloc (ab HB).size _⟩
   refine Bz (g:=W.heap.size+1) (xs:=bZ ([iL])) (zJ _ _).symm ?_
   decide
theorem jS (W:World) (aP num aE:Int) (key ty nm:ByteArray):((W.alloc (.cells #[.int .i64 aP,.string key,.string ty,.string nm,.int .i64 num,.int .i64 aE] 42)).cell? ⟨W.heap.size,0,none⟩=some (.int .i64 aP)∧(W.alloc (.cells #[.int .i64 aP,.string key,.string ty,.string nm,.int .i64 num,.int .i64 aE] 42)).cell? ⟨W.heap.size,1,none⟩=some (.string key)∧(W.alloc (.cells #[.int .i64 aP,.string key,.string ty,.string nm,.int .i64 num,.int .i64 aE] 42)).cell? ⟨W.heap.size,2,none⟩=some (.string ty)∧(W.alloc (.cells #[.int .i64 aP,.string key,.string ty,.string nm,.int .i64 num,.int .i64 aE] 42)).cell? ⟨W.heap.size,3,none⟩=some (.string nm)∧(W.alloc (.cells #[.int .i64 aP,.string key,.string ty,.string nm,.int .i64 num,.int .i64 aE] 42)).cell? ⟨W.heap.size,4,none⟩=some (.int .i64 num)∧(W.alloc (.cells #[.int .i64 aP,.string key,.string ty,.string nm,.int .i64 num,.int .i64 aE] 42)).cell? ⟨W.heap.size,5,none⟩=some (.int .i64 aE))∧(W.alloc (.cells #[.int .i64 aP,.string key,.string ty,.string nm,.int .i64 num,.int .i64 aE] 42)).heap[W.heap.size]?=some (.cells #[.int .i64 aP,.string key,.string ty,.string nm,.int .i64 num,.int .i64 aE] 42 (0,0))∧Below W.heap.size W (W.alloc (.cells #[.int .i64 aP,.string key,.string ty,.string nm,.int .i64 num,.int .i64 aE] 42)):=by
 have hn:=aK W (.cells #[.int .i64 aP,.string key,.string ty,.string nm,.int .i64 num,.int .i64 aE] 42)
 exact ⟨⟨cell_of_row _ _ _ _ _ _ hn,cell_of_row _ _ _ _ _ _ hn,cell_of_row _ _ _ _ _ _ hn,cell_of_row _ _ _ _ _ _ hn,cell_of_row _ _ _ _ _ _ hn,cell_of_row _ _ _ _ _ _ hn⟩,hn,(zE _ _).alloc (zD _) _⟩
theorem DG {w:World}{b:Nat}{aP num aE:Int}{key ty nm:ByteArray} (hn:w.heap[b]?=some (.cells #[.int .i64 aP,.string key,.string ty,.string nm,.int .i64 num,.int .i64 aE] 42 (0,0))):w.cell? ⟨b,0,none⟩=some (.int .i64 aP)∧w.cell? ⟨b,1,none⟩=some (.string key)∧w.cell? ⟨b,2,none⟩=some (.string ty)∧w.cell? ⟨b,3,none⟩=some (.string nm)∧w.cell? ⟨b,4,none⟩=some (.int .i64 num)∧w.cell? ⟨b,5,none⟩=some (.int .i64 aE) :=
 ⟨cell_of_row _ _ _ _ _ _ hn,cell_of_row _ _ _ _ _ _ hn,cell_of_row _ _ _ _ _ _ hn,cell_of_row _ _ _ _ _ _ hn,cell_of_row _ _ _ _ _ _ hn,cell_of_row _ _ _ _ _ _ hn⟩
noncomputable def mh (d:Fd):Bool:=if d.aP=1 then d.key.toList.isEmpty else if d.aP=2∨d.aP=3 then d.key.toList.isEmpty&&(d.aE==0) else if d.aP=4 then gS d.key&&(d.aE==0) else false
theorem IL {W:World} (hM:ia W) (d:Fd):Calls Tryz.prog 115 #[.agg d.cs.toArray] W fun e w=>e=.returned (.bool (mh d))∧Below W.heap.size W w:=by
 obtain ⟨aP,key,ty,nm,num,aE⟩:=d
 unfold Fd.cs mh
 simp only
 obtain ⟨⟨c0,c1,c2,c3,c4,c5⟩,-,hb⟩:=jS W aP num aE key ty nm
 have HT:=al (yP (hM.up hb hM.1) key)
 have HB:=al hb
 obtain ⟨qt,EH⟩:∃q,gS key=q:=⟨_,rfl⟩
 rw[EH] at HT ⊢
 clear hb hM EH c2 c3 c4
 obtain ⟨qk,Rn⟩:∃q,key.toList.isEmpty=q:=⟨_,rfl⟩
 obtain ⟨qo,Y4⟩:∃q,(aE==0)=q:=⟨_,rfl⟩
 rw[Rn,Y4]
 by_cases h1:aP=1
 ·subst h1
  rw[if_pos rfl]
  clear HT Y4
  go_enter Tryz.func115,Tryz.ntmps115
  go_wp2
  go_ret
  exact ⟨rfl,ab HB⟩
 ·rw[if_neg h1]
  have e1:(aP==1)=false:=beq_eq_false_iff_ne.2 h1
  by_cases h2:aP=2
  ·subst h2
   rw[if_pos (.inl rfl)]
   clear HT h1 e1
   cases qk with
   |false =>
    go_enter Tryz.func115,Tryz.ntmps115
    go_wp2
    go_ret
    exact ⟨rfl,ab HB⟩
   |true =>
    go_enter Tryz.func115,Tryz.ntmps115
    go_wp2
    go_ret
    exact ⟨rfl,ab HB⟩
  ·have e2:(aP==2)=false:=beq_eq_false_iff_ne.2 h2
   by_cases h3:aP=3
   ·subst h3
    rw[if_pos (.inr rfl)]
    clear HT h1 e1 h2 e2
    cases qk with
    |false =>
     go_enter Tryz.func115,Tryz.ntmps115
     go_wp2
     go_ret
     exact ⟨rfl,ab HB⟩
    |true =>
     go_enter Tryz.func115,Tryz.ntmps115
     go_wp2
     go_ret
     exact ⟨rfl,ab HB⟩
   ·rw[if_neg (by omega)]
    have e3:(aP==3)=false:=beq_eq_false_iff_ne.2 h3
    by_cases h4:aP=4
    ·subst h4
     rw[if_pos rfl]
     clear h1 e1 h2 e2 h3 e3 Rn
     go_enter Tryz.func115,Tryz.ntmps115
     go_wp2_with fail
     refine (ab HT).mono ?_
     rintro e w1 ⟨rfl,aW⟩
     have cN:=al ((ab HB).trans (aW.mono (ab HB).size))
     have c5':=(aW.cell (p:=⟨W.heap.size,5,none⟩) (by rw[zJ];exact Nat.lt_succ_self _)).trans c5
     clear HT HB aW
     cases qt with
     |false =>
      go_wp2
      go_ret
      exact ⟨rfl,ab cN⟩
     |true =>
      go_wp2
      go_ret
      exact ⟨rfl,ab cN⟩
    ·rw[if_neg h4]
     have e4:(aP==4)=false:=beq_eq_false_iff_ne.2 h4
     clear HT h1 h2 h3 h4
     go_enter Tryz.func115,Tryz.ntmps115
     go_wp2
     go_ret
     exact ⟨rfl,ab HB⟩
noncomputable def cK (d:Fd):Bool:=bD d.name&&(decide (0≤d.num)&&decide (d.num≤2147483647))&&gS d.ty&&mh d&&!sw (fh d.ty) (nD d)
theorem EY {W:World} (hM:ia W) (d:Fd) (hs:d.ty.size≤281474976710656):Calls Tryz.prog 71 #[.agg d.cs.toArray] W fun e w=>e=.returned (.bool (cK d))∧Below W.heap.size W w:=by
 obtain ⟨aP,key,ty,nm,num,aE⟩:=d
 obtain ⟨⟨c0,c1,c2,c3,c4,c5⟩,kb,hb⟩:=jS W aP num aE key ty nm
 have HC:=al (fun w=>Lg w ty hs)
 have HW:=al (fun w=>ij w nm)
 have HN:=al (fun w=>ny w num 0 2147483647)
 have HT:=al (fun w (h:ia w)=>yP h ty)
 have HD:=al (fun w (h:ia w)=>IL h ⟨aP,key,ty,nm,num,aE⟩)
 have HR:=al (fun w=>zk (W:=w) ⟨aP,key,ty,nm,num,aE⟩)
 have HI:=al (fun w v hv=>ye (W:=w) (v:=v) (l:=nD ⟨aP,key,ty,nm,num,aE⟩) hv (fh ty))
 unfold cK
 simp only at hs ⊢
 obtain ⟨q1,h1⟩:∃q,bD nm=q:=⟨_,rfl⟩
 obtain ⟨q2,h2⟩:∃q,(decide (0≤num)&&decide (num≤2147483647))=q:=⟨_,rfl⟩
 obtain ⟨q3,h3⟩:∃q,gS ty=q:=⟨_,rfl⟩
 obtain ⟨q4,h4⟩:∃q,mh ⟨aP,key,ty,nm,num,aE⟩=q:=⟨_,rfl⟩
 obtain ⟨q5,h5⟩:∃q,sw (fh ty) (nD ⟨aP,key,ty,nm,num,aE⟩)=q:=⟨_,rfl⟩
 rw[h1] at HW ⊢
 rw[h2] at HN ⊢
 rw[h3] at HT ⊢
 rw[h4] at HD ⊢
 rw[h5] at HI ⊢
 obtain ⟨fy,NM⟩:∃x,fh ty=x:=⟨_,rfl⟩
 rw[NM] at HC HI
 obtain ⟨V,hV⟩:∃V,(W.alloc (.cells #[.int .i64 aP,.string key,.string ty,.string nm,.int .i64 num,.int .i64 aE] 42))=V:=⟨_,rfl⟩
 have HM:=al (hM.up hb hM.1)
 have HB:=al hb
 rw[hV] at HM HB c0 c1 c2 c3 c4 c5 kb
 unfold Fd.cs at HD HR ⊢
 simp only at HD HR ⊢
 clear h1 h2 h3 h4 h5 NM hM hb hs
 go_enter Tryz.func71,Tryz.ntmps71
 go_wp2_with fail
 refine (ab HC _).mono ?_
 rintro e w1 ⟨⟨ca,cb,rfl⟩,n1,rfl⟩
 have HK:=al (show (V.drewN n1).heap[W.heap.size]?=_ from kb)
 have cN:Hid (Below W.heap.size W (V.drewN n1)):=below_drewN (ab HB) n1
 have Jm:Hid (ia (V.drewN n1)):=ab HM
 clear HB HM kb HC
 go_wp2_with fail
 obtain ⟨w1,cG⟩:∃w,V.drewN n1=w:=⟨_,rfl⟩
 rw[cG] at HK cN Jm
 rw[cG]
 clear cG c0 c1 c2 c3 c4 c5 hV
 refine (ab HW _).mono ?_
 rintro e w ⟨rfl,rfl⟩
 cases q1 with
 |false =>
  go_wp2
  go_ret
  exact ⟨rfl,ab cN⟩
 |true =>
 obtain ⟨c0,c1,c2,c3,c4,c5⟩:=DG (ab HK)
 go_wp2_with fail
 refine (ab HN _).mono ?_
 rintro e w' ⟨rfl,rfl⟩
 cases q2 with
 |false =>
  go_wp2
  go_ret
  exact ⟨rfl,ab cN⟩
 |true =>
 go_wp2_with fail
 refine (ab HT _ (ab Jm)).mono ?_
 rintro e w2 ⟨rfl,bd⟩
 have fD:=al ((bd.block _ (zA (ab HK)).1).trans (ab HK))
 have SW:=al ((ab Jm).up bd (ab Jm).1)
 have cR:=al ((ab cN).trans (bd.mono (ab cN).size))
 clear bd HK Jm cN c0 c1 c2 c3 c4 c5 HT
 cases q3 with
 |false =>
  go_wp2
  go_ret
  exact ⟨rfl,ab cR⟩
 |true =>
 obtain ⟨c0,c1,c2,c3,c4,c5⟩:=DG (ab fD)
 go_wp2_with fail
 refine (ab HD _ (ab SW)).mono ?_
 rintro e w3 ⟨rfl,cE⟩
 have mK:=al ((cE.block _ (zA (ab fD)).1).trans (ab fD))
 have ed:=al ((ab cR).trans (cE.mono (ab cR).size))
 clear cE fD SW cR c0 c1 c2 c3 c4 c5 HD
 cases q4 with
 |false =>
  go_wp2
  go_ret
  exact ⟨rfl,ab ed⟩
 |true =>
 obtain ⟨c0,c1,c2,c3,c4,c5⟩:=DG (ab mK)
 go_wp2_with fail
 refine (ab HR _).mono ?_
 rintro e w4 ⟨v4,rfl,YN,gT⟩
 have HI4:=al (ab HI _ v4 YN)
 have CN:=al ((ab ed).trans (gT.mono (ab ed).size))
 clear gT mK ed c0 c1 c2 c3 c4 c5 HR HI YN
 go_wp2_with fail
 refine (ab HI4).mono ?_
 rintro e w5 ⟨rfl,rfl⟩
 clear HI4
 go_wp2
 go_ret
 exact ⟨rfl,ab CN⟩
end Go.Proofs.YtichhjfjcinjgaaGreatDoor
namespace Go.Proofs.YtichhjfjcinjgaaGreatDoor
open Go.RowKit Go.Shelf
attribute [local go_sem ↓] Go.wp_at_zero Go.wp_at_succ
def iF (W:World):Prop:=Lib.TabIs Tryz.prog W "internal/strconv.uint64pow10" .u64 Lib.pow10Tab
theorem iF.up {W w:World} (h:iF W) (hb:Below W.heap.size W w):iF w:=by
 unfold iF Lib.TabIs World.var? at h ⊢
 obtain ⟨g,hg,hm⟩:=Option.bind_eq_some_iff.1 h
 rw[hg]
 show (match w.heap[g]? with
  |some (.cells cs _ _)=>some cs
  |_=>none)=_
 have aM:g<W.heap.size:=by
  rcases Nat.lt_or_ge g W.heap.size with q|q
  ·exact q
  ·rw[Array.getElem?_eq_none q] at hm
   cases hm
 rw[hb.block g aM]
 exact hm
def bI (n:Int):ByteArray:=⟨(Lib.itoa n).toArray⟩
theorem oB {w:World} (h:iF w) (n:Int) (h0:-9223372036854775808≤n) (h1:n≤9223372036854775807):Calls Tryz.prog 134 #[.int .i64 n] w fun e w'=>e=.returned (.string (bI n))∧Below w.heap.size w w':=by
 refine (Any.strconv_Itoa Tryz.Ey n h0 h1 w h).mono ?_
 rintro e w' ⟨rfl,k,os,rfl⟩
 exact ⟨rfl,Lib.below_grow _ w (zD _) k os⟩
theorem cS {n:Int} (h0:-9223372036854775808≤n) (h1:n≤9223372036854775807):(bI n).size≤21:=by
 show (Lib.itoa n).length≤21
 unfold Lib.itoa
 split
 ·rw[List.length_cons,Lib.decDigits_length]
  have:=Lib.nDigits_le20 n.natAbs (by omega)
  omega
 ·rw[Lib.decDigits_length]
  have:=Lib.nDigits_le20 n.toNat (by omega)
  omega
def Ka:ByteArray:=⟨#[111,112,116,105,111,110,97,108,32]⟩
def J':ByteArray:=⟨#[114,101,112,101,97,116,101,100,32]⟩
def Kb:ByteArray:=⟨#[109,97,112,60]⟩
def Eh:ByteArray:=⟨#[44,32]⟩
def Th:ByteArray:=⟨#[62]⟩
def mU:ByteArray:=⟨#[32,116,111,32]⟩
def tC:ByteArray:=⟨#[32,116,111,32,109,97,120]⟩
def qh (d:Fd):ByteArray:=if d.aP=2 then Ka++d.ty else if d.aP=3 then J'++d.ty else if d.aP=4 then Kb++d.key++Eh++d.ty++Th else d.ty
theorem xd {W:World} (d:Fd) (hk:d.key.size≤255) (ht:d.ty.size≤255):Calls Tryz.prog 133 #[.agg d.cs.toArray] W fun e w=>e=.returned (.string (qh d))∧Below W.heap.size W w:=by
 obtain ⟨aP,key,ty,nm,num,aE⟩:=d
 unfold Fd.cs qh Ka J' Kb Eh Th
 simp only at hk ht ⊢
 obtain ⟨⟨c0,c1,c2,c3,c4,c5⟩,-,hb⟩:=jS W aP num aE key ty nm
 have HB:=al hb
 clear hb c3 c4 c5
 by_cases h2:aP=2
 ·subst h2
  rw[if_pos rfl]
  go_enter Tryz.func133,Tryz.ntmps133
  go_wp2
  go_ret
  exact ⟨rfl,ab HB⟩
 ·rw[if_neg h2]
  have e2:(aP==2)=false:=beq_eq_false_iff_ne.2 h2
  by_cases h3:aP=3
  ·subst h3
   rw[if_pos rfl]
   go_enter Tryz.func133,Tryz.ntmps133
   go_wp2
   go_ret
   exact ⟨rfl,ab HB⟩
  ·rw[if_neg h3]
   have e3:(aP==3)=false:=beq_eq_false_iff_ne.2 h3
   by_cases h4:aP=4
   ·subst h4
    rw[if_pos rfl]
    go_enter Tryz.func133,Tryz.ntmps133
    go_wp2
    go_ret
    exact ⟨rfl,ab HB⟩
   ·rw[if_neg h4]
    have e4:(aP==4)=false:=beq_eq_false_iff_ne.2 h4
    go_enter Tryz.func133,Tryz.ntmps133
    go_wp2
    go_ret
    exact ⟨rfl,ab HB⟩
def eK (most:Int) (r:Int×Int):ByteArray:=if r.2=r.1 then bI r.1 else if r.2=most then bI r.1++tC else bI r.1++mU++bI r.2
theorem ze {W:World} (hP:iF W) (a b most:Int) (ha:-2147483648≤a∧a≤2147483647) (hb:-2147483648≤b∧b≤2147483647):Calls Tryz.prog 172 #[.agg #[.int .i64 a,.int .i64 b],.int .i64 most] W fun e w=>e=.returned (.string (eK most (a,b)))∧Below W.heap.size W w:=by
 have hn:=aK W (.cells #[.int .i64 a,.int .i64 b] 111)
 have bG:Below W.heap.size W (W.alloc (.cells #[.int .i64 a,.int .i64 b] 111)):=(zE _ _).alloc (zD _) _
 obtain ⟨V,hV⟩:∃V,W.alloc (.cells #[.int .i64 a,.int .i64 b] 111)=V:=⟨_,rfl⟩
 rw[hV] at hn bG
 have c0:V.cell? ⟨W.heap.size,0,none⟩=some (.int .i64 a):=cell_of_row _ _ _ _ _ _ hn
 have c1:V.cell? ⟨W.heap.size,1,none⟩=some (.int .i64 b):=cell_of_row _ _ _ _ _ _ hn
 have HI:=al (oB (hP.up bG) a (by omega) (by omega))
 have S':=al (fun w (h:iF w)=>oB h b (by omega) (by omega))
 have HB:=al bG
 have HN:=al hn
 have Mz:Hid (∀w,Below W.heap.size W w→iF w):=fun w h=>hP.up h
 have za:=cS (n:=a) (by omega) (by omega)
 have zb:=cS (n:=b) (by omega) (by omega)
 unfold eK tC mU
 simp only
 obtain ⟨ta,YR⟩:∃t,bI a=t:=⟨_,rfl⟩
 obtain ⟨tb,Rc⟩:∃t,bI b=t:=⟨_,rfl⟩
 rw[YR] at HI za ⊢
 rw[Rc] at S' zb ⊢
 clear hn bG hP YR Rc ha hb
 go_enter Tryz.func172,Tryz.ntmps172
 go_wp2_with fail
 refine (ab HI).mono ?_
 rintro e w1 ⟨rfl,aW⟩
 have Cg:=(aW.block _ (zA (ab HN)).1).trans (ab HN)
 have d0:w1.cell? ⟨W.heap.size,0,none⟩=some (.int .i64 a):=cell_of_row _ _ _ _ _ _ Cg
 have d1:w1.cell? ⟨W.heap.size,1,none⟩=some (.int .i64 b):=cell_of_row _ _ _ _ _ _ Cg
 have cN:=al ((ab HB).trans (aW.mono (ab HB).size))
 clear aW HI HN HB c0 c1 Cg
 by_cases h1:b=a
 ·have e1:(b==a)=true:=beq_iff_eq.2 h1
  clear S' Mz
  go_wp2
  go_ret
  exact ⟨rfl,ab cN⟩
 ·have e1:(b==a)=false:=beq_eq_false_iff_ne.2 h1
  by_cases h2:b=most
  ·have e2:(b==most)=true:=beq_iff_eq.2 h2
   clear S' Mz
   go_wp2
   go_ret
   first|exact ⟨rfl,ab cN⟩|(rw[if_neg h1,if_pos h2];exact ⟨rfl,ab cN⟩)|(rw[if_neg h1];exact ⟨rfl,ab cN⟩)
  ·have e2:(b==most)=false:=beq_eq_false_iff_ne.2 h2
   have Qf:=al (ab S' _ (ab Mz _ (ab cN)))
   clear S' Mz
   go_wp2_with fail
   refine (ab Qf).mono ?_
   rintro e w2 ⟨rfl,bd⟩
   have cR:=al ((ab cN).trans (bd.mono (ab cN).size))
   clear bd Qf cN
   go_wp2
   go_ret
   first|exact ⟨rfl,ab cR⟩|(rw[if_neg h1,if_neg h2];exact ⟨rfl,ab cR⟩)
end Go.Proofs.YtichhjfjcinjgaaGreatDoor
namespace Go.Proofs.YtichhjfjcinjgaaGreatDoor
open Go.RowKit
attribute [local go_sem ↓] Go.wp_at_zero Go.wp_at_succ
theorem B5:(Tryz.prog.info? 9).map (fun i=>(i.zero,i.size,i.bytes))=some (some (.string ByteArray.empty),1,16):=by kernel_rfl
theorem dJ {B t sz n:Nat}{v:Value}{xs:List Value}{w w':World} (h:w.ownsRow B t sz v n xs) (hb:Below w.heap.size w w'):w'.ownsRow B t sz v n xs:=by
 refine h.kept (show w.grownBy w' none from ⟨hb.os,hb.tape,hb.output,hb.size,fun k hk _=>hb.block k hk⟩) ?_
 cases v.ownBlock with
 |none=>exact .inl rfl
 |some k=>exact .inr (by simp)
theorem yV {α:Type}{l:List α}{T:α→ByteArray}{i:Nat}{x:α} (h:l[i]?=some x):bZ ((l.take (i+1)).map T)=bZ ((l.take i).map T)++[.string (T x)]:=by
 obtain ⟨hi,rfl⟩:=zB h
 rw[List.take_succ_eq_append_getElem hi,List.map_append]
 unfold bZ
 simp
theorem E3 {W:World}{v:Value}{l:List (Int×Int)} (hv:Rl W v l.length (kQ l)) (hl:l.length≤4096) {f:Fv} (dX:f.ok) {T:Int×Int→ByteArray} (w0:World) (hw:Below W.heap.size W w0)
  (hf:∀r ∈ l,∀w,Below w0.heap.size w0 w→Calls Tryz.prog f.f (f.fs.push (.agg #[.int .i64 r.1,.int .i64 r.2])++f.cp) w fun e w'=>e=.returned (.string (T r))∧Below w.heap.size w w') :
  Calls Tryz.prog 170 #[v,f.val] w0 fun e w=>∃u,e=.returned u∧w.ownsRow w0.heap.size 9 1 u l.length (bZ (l.map T))∧Below w0.heap.size w0 w:=by
 obtain ⟨a,c,rfl,hn,h2⟩:=hv
 obtain ⟨qE,fs,cp⟩:=f
 obtain ⟨i0,hi,gj,dR,c7⟩:=info_parts B5
 unfold Fv.val
 unfold Fv.ok at dX
 simp only at dX hf ⊢
 have H2:=al h2
 have HF:=al hf
 have HW:=al hw
 clear h2 hf hw
 go_enter Tryz.func170,Tryz.ntmps170
 go_wp2
 go_loopg [5,7,10] l.length (fun gk v5 _ v10 wr=>∃(i:Nat),v10=.int .i64 (i:Int)∧gk=l.length-i∧i≤l.length∧Hid (wr.ownsRow w0.heap.size 9 1 v5 i (bZ ((l.take i).map T)))∧Hid (Below w0.heap.size w0 wr))
 case atStart=>exact ⟨0,rfl,rfl,by omega,⟨rfl,.inl ⟨rfl,rfl⟩⟩,zE _ _⟩
 case round =>
  obtain ⟨i,rfl,aU,eS,HO,HB⟩:=hrel
  have bz:=al aU
  clear aU
  by_cases aM:i<l.length
  ·obtain ⟨g,o,rfl,hg,hc⟩:=ab H2 (by omega)
   have hr:=List.getElem?_eq_getElem aM
   have cI:=List.getElem_mem aM
   obtain ⟨r,tW⟩:∃r,l[i]=r:=⟨_,rfl⟩
   rw[tW] at hr cI
   have gP:=al (show Below W.heap.size W wr from (ab HW).trans ((ab HB).mono (ab HW).size))
   have x0:=((ab gP).cell (p:=⟨g,o+(i*2+0),none⟩) hg).trans (hc _ _ (gB hr (j:=0) (by decide)))
   have x1:=((ab gP).cell (p:=⟨g,o+(i*2+1),none⟩) hg).trans (hc _ _ (gB hr (j:=1) (by decide)))
   rw[Nat.add_zero] at x0
   rw[←Nat.add_assoc] at x1
   have fp:=aK wr (.cells #[.int .i64 r.1,.int .i64 r.2] 111)
   have bG:Below wr.heap.size wr (wr.alloc (.cells #[.int .i64 r.1,.int .i64 r.2] 111)):=(zE _ _).alloc (zD _) _
   obtain ⟨V,hV⟩:∃V,wr.alloc (.cells #[.int .i64 r.1,.int .i64 r.2] 111)=V:=⟨_,rfl⟩
   rw[hV] at fp bG
   have b0:V.cell? ⟨wr.heap.size,0,none⟩=some (.int .i64 r.1):=cell_of_row _ _ _ _ _ _ fp
   have b1:V.cell? ⟨wr.heap.size,1,none⟩=some (.int .i64 r.2):=cell_of_row _ _ _ _ _ _ fp
   clear fp
   have FN:=al ((ab HB).trans (bG.mono (ab HB).size))
   have SU:=al (dJ (ab HO) bG)
   have HC:=al (ab HF r cI V (ab FN))
   have HT:=al (yV (T:=T) hr)
   have LW:(0:Int)≤(i:Int):=zH _
   have i1:(i:Int)<(l.length:Int):=by omega
   have bu:=al aM
   have Hl:=al hl
   clear hc hr cI tW bG HO HB gP aM
   go_wp2_with fail
   refine (ab HC).mono ?_
   rintro e w1 ⟨rfl,aW⟩
   have FL:=al (dJ (ab SU) aW)
   have cN:=al ((ab FN).trans (aW.mono (ab FN).size))
   have iJ:=al (ab cN).size
   clear aW HC SU FN
   go_wp2_with (at_builtin;refine wpList_append_own_at _ rfl _ _ 22 rfl w0.heap.size 9 i0 (.string ByteArray.empty) 1 16 Tryz.underlying22 hi gj dR c7 rfl (by decide) _ _ _ rfl ((ab FL).alloc _) ⟨w1.heap.size,0,none⟩ 1 1 [.string (T r)] rfl rfl (cell_one_new _ _ _) (by simp[Value.oneCell']) (by have:=ab bu;have:=ab Hl;unfold maxLen;omega) (by have:=ab bu;have:=ab Hl;omega) (by rw[zJ];have:=ab iJ;omega) ?_;intro v' w2 ho ei _ _;have lO:=al ho;have cR:=al (((ab cN).alloc (ab cN).size _).grown ei (by rw[zJ];have:=ab iJ;omega) (fun k e=>((ab FL).lt k e).1));clear ho ei)
   rw[←ab HT] at lO
   go_roundg (l.length-(i+1))
   case measure=>have:=ab bz;have:=ab bu;omega
   case rel=>exact ⟨i+1,by go_num,rfl,ab bu,lO,cR⟩
  ·obtain rfl:i=l.length:=by omega
   have hO:=ab HO
   rw[List.take_length] at hO
   have lO:=al hO
   clear hO
   go_wp2
   go_ret
   exact ⟨_,rfl,ab lO,ab HB⟩
theorem E2 {W:World}{v:Value}{l:List (ByteArray)} (hv:Rl W v l.length (bZ l)) (hl:l.length≤4096) {f:Fv} (dX:f.ok) {T:ByteArray→ByteArray} (w0:World) (hw:Below W.heap.size W w0)
  (hf:∀r ∈ l,∀w,Below w0.heap.size w0 w→Calls Tryz.prog f.f (f.fs.push (.string r)++f.cp) w fun e w'=>e=.returned (.string (T r))∧Below w.heap.size w w') :
  Calls Tryz.prog 173 #[v,f.val] w0 fun e w=>∃u,e=.returned u∧w.ownsRow w0.heap.size 9 1 u l.length (bZ (l.map T))∧Below w0.heap.size w0 w:=by
 obtain ⟨a,c,rfl,hn,h2⟩:=hv
 obtain ⟨qE,fs,cp⟩:=f
 obtain ⟨i0,hi,gj,dR,c7⟩:=info_parts B5
 unfold Fv.val
 unfold Fv.ok at dX
 simp only at dX hf ⊢
 have H2:=al h2
 have HF:=al hf
 have HW:=al hw
 clear h2 hf hw
 go_enter Tryz.func173,Tryz.ntmps173
 go_wp2
 go_loopg [5,7,10] l.length (fun gk v5 _ v10 wr=>∃(i:Nat),v10=.int .i64 (i:Int)∧gk=l.length-i∧i≤l.length∧Hid (wr.ownsRow w0.heap.size 9 1 v5 i (bZ ((l.take i).map T)))∧Hid (Below w0.heap.size w0 wr))
 case atStart=>exact ⟨0,rfl,rfl,by omega,⟨rfl,.inl ⟨rfl,rfl⟩⟩,zE _ _⟩
 case round =>
  obtain ⟨i,rfl,aU,eS,HO,HB⟩:=hrel
  have bz:=al aU
  clear aU
  by_cases aM:i<l.length
  ·obtain ⟨g,o,rfl,hg,hc⟩:=ab H2 (by omega)
   have hr:=List.getElem?_eq_getElem aM
   have cI:=List.getElem_mem aM
   obtain ⟨r,tW⟩:∃r,l[i]=r:=⟨_,rfl⟩
   rw[tW] at hr cI
   have gP:=al (show Below W.heap.size W wr from (ab HW).trans ((ab HB).mono (ab HW).size))
   have x0:=((ab gP).cell (p:=⟨g,o+i,none⟩) hg).trans (hc _ _ (dS hr))
   have bG:Below wr.heap.size wr wr:=zE _ _
   have FN:=al ((ab HB).trans (bG.mono (ab HB).size))
   have SU:=al (dJ (ab HO) bG)
   have HC:=al (ab HF r cI wr (ab FN))
   have HT:=al (yV (T:=T) hr)
   have LW:(0:Int)≤(i:Int):=zH _
   have i1:(i:Int)<(l.length:Int):=by omega
   have bu:=al aM
   have Hl:=al hl
   clear hc hr cI tW bG HO HB gP aM
   go_wp2_with fail
   refine (ab HC).mono ?_
   rintro e w1 ⟨rfl,aW⟩
   have FL:=al (dJ (ab SU) aW)
   have cN:=al ((ab FN).trans (aW.mono (ab FN).size))
   have iJ:=al (ab cN).size
   clear aW HC SU FN
   go_wp2_with (at_builtin;refine wpList_append_own_at _ rfl _ _ 22 rfl w0.heap.size 9 i0 (.string ByteArray.empty) 1 16 Tryz.underlying22 hi gj dR c7 rfl (by decide) _ _ _ rfl ((ab FL).alloc _) ⟨w1.heap.size,0,none⟩ 1 1 [.string (T r)] rfl rfl (cell_one_new _ _ _) (by simp[Value.oneCell']) (by have:=ab bu;have:=ab Hl;unfold maxLen;omega) (by have:=ab bu;have:=ab Hl;omega) (by rw[zJ];have:=ab iJ;omega) ?_;intro v' w2 ho ei _ _;have lO:=al ho;have cR:=al (((ab cN).alloc (ab cN).size _).grown ei (by rw[zJ];have:=ab iJ;omega) (fun k e=>((ab FL).lt k e).1));clear ho ei)
   rw[←ab HT] at lO
   go_roundg (l.length-(i+1))
   case measure=>have:=ab bz;have:=ab bu;omega
   case rel=>exact ⟨i+1,by go_num,rfl,ab bu,lO,cR⟩
  ·obtain rfl:i=l.length:=by omega
   have hO:=ab HO
   rw[List.take_length] at hO
   have lO:=al hO
   clear hO
   go_wp2
   go_ret
   exact ⟨_,rfl,ab lO,ab HB⟩
end Go.Proofs.YtichhjfjcinjgaaGreatDoor

import Derived.Test.YtmlphohdcejniaaGreatDoorM33
set_option maxHeartbeats 4000000
set_option maxRecDepth 100000
namespace Go.Proofs.YtmlphohdcejniaaGreatDoor
open Go.RowKit
attribute [local go_sem ↓] Go.wp_at_zero Go.wp_at_succ
theorem ye (v n:Int) (hn:0<n):-n<v.tmod n∧v.tmod n<n∧((0≤v.tmod n∧v % n=v.tmod n)∨(v.tmod n<0∧v % n=v.tmod n+n)):=by
 rcases Int.le_total 0 v with h|h
 ·have h2:v.tmod n=v % n:=Int.tmod_eq_emod_of_nonneg h
  have h3:=Int.emod_nonneg v (by omega:n≠0)
  have h4:=Int.emod_lt_of_pos v hn
  exact ⟨by omega,by omega,.inl ⟨by omega,by omega⟩⟩
 ·have h2:(-v).tmod n=(-v) % n:=Int.tmod_eq_emod_of_nonneg (by omega)
  rw[Int.neg_tmod] at h2
  have h3:=Int.emod_nonneg (-v) (by omega:n≠0)
  have h4:=Int.emod_lt_of_pos (-v) hn
  have h5:=Int.emod_nonneg v (by omega:n≠0)
  have h6:=Int.emod_lt_of_pos v hn
  have h7:(n ∣ v+(-v) % n):=⟨-((-v) / n),by have:=Int.mul_ediv_add_emod (-v) n;rw[Int.mul_neg];omega⟩
  by_cases h0:(-v) % n=0
  ·have h8:v % n=0:=by
    rw[h0,Int.add_zero] at h7
    exact Int.emod_eq_zero_of_dvd h7
   exact ⟨by omega,by omega,.inl ⟨by omega,by omega⟩⟩
  ·have h8:v % n=n-(-v) % n:=by
    have e1:v=(n-(-v) % n)+n*(-((-v) / n)-1):=by
     have:=Int.mul_ediv_add_emod (-v) n
     rw[Int.mul_sub,Int.mul_neg,Int.mul_one]
     omega
    rw[e1,Int.add_mul_emod_self_left]
    rw[←e1]
    exact Int.emod_eq_of_lt (by omega) (by omega)
   exact ⟨by omega,by omega,.inr ⟨by omega,by omega⟩⟩
def kQ (v:Int):Prop:=-9223372036854775808≤v∧v≤9223372036854775807
theorem dZ (W:World) {v lo hi:Int} (hv:kQ v) (h1:-2147483648≤lo) (h2:lo≤hi) (h3:hi≤2147483647) :
  Calls Tryz.prog 11 #[.int .i64 v,.int .i64 lo,.int .i64 hi] W fun e w=>(∃x:Int,(lo≤x∧x≤hi)∧e=.returned (.int .i64 x))∧w=W:=by
 obtain ⟨Sw,Qu⟩:=hv
 obtain ⟨d,hd⟩:∃d,hi-lo=d:=⟨_,rfl⟩
 obtain ⟨N,hN⟩:∃N,d+1=N:=⟨_,rfl⟩
 obtain ⟨b1,b2,b3⟩:=ye v N (by omega)
 obtain ⟨r,hr⟩:∃r,v.tmod N=r:=⟨_,rfl⟩
 rw[hr] at b1 b2 b3
 have c1:N≤4294967296:=by omega
 have c2:0<N:=by omega
 have c3:¬N=0:=by omega
 have c4:d≤4294967295:=by omega
 have c5:0≤d:=by omega
 rcases b3 with ⟨b3,-⟩|⟨b3,-⟩
 ·have q1:decide (r<0)=false:=by simp;omega
  have Hx:Hid (∃x:Int,(lo≤x∧x≤hi)∧lo+r=x):=⟨lo+r,⟨by omega,by omega⟩,rfl⟩
  go_enter Tryz.func11,Tryz.ntmps11
  go_wp2
  go_ret
  obtain ⟨x,hx,e⟩:=aa Hx
  exact ⟨⟨x,hx,by rw[e];rfl⟩,rfl⟩
 ·have q1:decide (r<0)=true:=by simp;omega
  have Hx:Hid (∃x:Int,(lo≤x∧x≤hi)∧lo+(r+N)=x):=⟨lo+(r+N),⟨by omega,by omega⟩,rfl⟩
  go_enter Tryz.func11,Tryz.ntmps11
  go_wp2
  go_ret
  obtain ⟨x,hx,e⟩:=aa Hx
  exact ⟨⟨x,hx,by rw[e];rfl⟩,rfl⟩
def QW (bs:List Nat):Prop:=(∀x ∈ bs,isLet x∨bX x)∧(∀x,bs[0]?=some x→isLet x)
theorem QW.byt {bs:List Nat} (h:QW bs):Jl bs:=fun x hx=>by
 have:=h.1 x hx
 unfold isLet bX at this
 omega
theorem QW.app {bs:List Nat}{c:Nat} (h:QW bs) (hc:isLet c∨(bX c∧bs≠[])):QW (bs++[c]):=by
 refine ⟨fun x hx=>?_,fun x hx=>?_⟩
 ·rcases List.mem_append.1 hx with hx|hx
  ·exact h.1 x hx
  ·rw[List.mem_singleton.1 hx]
   exact hc.imp id And.left
 ·cases bs with
  |nil =>
   obtain rfl:c=x:=zC hx
   exact hc.elim id (fun q=>absurd rfl q.2)
  |cons y r=>exact h.2 x hx
theorem oU {l:List Nat} (h:Jl l):aG (rO l)=l:=by
 unfold aG rO
 simp only[List.map_map]
 exact (List.map_congr_left (g:=id) fun x hx=>by have:=h x hx;simp[Nat.mod_eq_of_lt this]).trans (List.map_id l)
theorem QW.ok {bs:List Nat} (h:QW bs) (h1:bs≠[]) (h2:bs.length≤30):aU (rO bs):=by
 have hl:1≤bs.length:=by cases bs with
  |nil=>exact absurd rfl h1
  |cons x r=>simp
 refine ⟨?_,by rw[iE];exact hl,by rw[iE];exact h2⟩
 unfold lT
 refine decide_eq_true ⟨⟨by rw[iE];exact hl,by rw[iE];omega⟩,?_,?_⟩<;>rw[oU h.byt]
 ·exact h.2
 ·exact fun j x hx=>h.1 x (List.mem_of_getElem? hx)
theorem KN:aU ⟨#[120]⟩:=by
 refine ⟨?_,by decide,by decide⟩
 kernel_rfl
theorem jS (w:World) (x:Value) (t:TypeId):∀j u,[x][j]?=some u→(w.alloc (.cells #[x] t)).cell? ((⟨w.heap.size,0,none⟩:Addr).add j)=some u:=by
 intro j u h
 cases j with
 |zero =>
  obtain rfl:=zC h
  exact cell_of_row _ w.heap.size 0 _ _ _ (aC w (.cells #[x] t))
 |succ j=>cases h
theorem l0 {base:Nat}{w:World}{v:Value}{bs:List Nat}{x:Nat} (h:w.ownsRow base 5 1 v (bs.length+1) (nb bs++[.int .u8 (x:Int)])):Bytes base w v (bs++[x]):=by
 unfold Bytes
 rw[zK,qt]
 exact h
theorem fM (W:World) (s:ByteArray) (hs:s.size≤140737488351232):Calls Tryz.prog 22 #[.string s] W fun e w=>(∃x,aU x∧e=.returned (.string x))∧Below W.heap.size W w:=by
 obtain ⟨i0,hi,nD,nC,oK⟩:=info_parts np
 go_enter Tryz.func22,Tryz.ntmps22
 go_wp2
 go_loopg [3,4,5] s.size (fun gk v3 v4 _ wr=>∃(i:Nat) (bs:List Nat),v4=.int .i64 (i:Int)∧gk=s.size-i∧i≤s.size∧bs.length≤30∧Hid (Bytes W.heap.size wr v3 bs)∧Hid (QW bs)∧Hid (Below W.heap.size W wr))
 case atStart =>
  refine ⟨0,[],rfl,rfl,by omega,by simp,?_,⟨fun x hx=>by (cases hx),fun x hx=>by cases hx⟩,?_⟩
  ·refine ⟨rfl,.inr ⟨W.heap.size,0,#[],rfl,zD _,aC _ _,zD _,by unfold maxLen;omega,rfl,rfl⟩⟩
  ·exact (zE _ _).alloc (zD _) _
 case round =>
  obtain ⟨i,bs,rfl,eN,pC,wm,HO,HN,HB⟩:=hrel
  have fQ:=aj eN
  clear eN
  obtain ⟨a,c,rfl⟩:=bj (aa HO)
  by_cases lW:i<s.size∧bs.length<30
  ·obtain ⟨cc,h30⟩:=lW
   have d30:decide ((bs.length:Int)<30)=true:=by simp;omega
   obtain ⟨x,hx,fF,gx⟩:=iv s i cc
   have qS:=aj (aa HB).size
   have dA:=aj cc
   have Jx:=aj h30
   clear hx
   have cn:x<48∨(48≤x∧x≤57)∨(58≤x∧x≤64)∨(65≤x∧x≤90)∨(91≤x∧x≤94)∨x=95∨x=96∨(97≤x∧x≤122)∨123≤x:=by omega
   rcases cn with cn|cn|cn|cn|cn|cn|cn|cn|cn
   ·have f1:decide ((97:Int)≤(x:Int))=false:=by simp;omega
    have f2:decide ((x:Int)≤122)=true:=by simp;omega
    have f3:decide ((65:Int)≤(x:Int))=false:=by simp;omega
    have f4:decide ((x:Int)≤90)=true:=by simp;omega
    have f5:((x:Int)==95)=false:=by simp;omega
    have f6:decide ((48:Int)≤(x:Int))=false:=by simp;omega
    have f7:decide ((x:Int)≤57)=true:=by simp;omega
    clear cn
    go_wp2
    go_roundg (s.size-(i+1))
    case measure=>have:=aa fQ;have:=aa dA;omega
    case rel=>exact ⟨i+1,bs,by go_num,rfl,aa dA,wm,HO,HN,HB⟩
   ·have f1:decide ((97:Int)≤(x:Int))=false:=by simp;omega
    have f2:decide ((x:Int)≤122)=true:=by simp;omega
    have f3:decide ((65:Int)≤(x:Int))=false:=by simp;omega
    have f4:decide ((x:Int)≤90)=true:=by simp;omega
    have f5:((x:Int)==95)=false:=by simp;omega
    have f6:decide ((48:Int)≤(x:Int))=true:=by simp;omega
    have f7:decide ((x:Int)≤57)=true:=by simp;omega
    by_cases SR:bs=[]
    ·subst SR
     clear cn
     go_wp2
     go_roundg (s.size-(i+1))
     case measure=>have:=aa fQ;have:=aa dA;omega
     case rel=>exact ⟨i+1,[],by go_num,rfl,aa dA,wm,HO,HN,HB⟩
    ·have dN:0<bs.length:=by cases bs with
      |nil=>exact absurd rfl SR
      |cons y r=>simp
     have bC:decide (0<bs.length)=true:=decide_eq_true dN
     have TT:=aj (aa HN |>.app (c:=x) (.inr ⟨by unfold bX;omega,SR⟩))
     clear cn
     go_wp2_with (at_builtin;refine wpList_append_own_at _ rfl _ _ 54 rfl W.heap.size 5 i0 (.int .u8 0) 1 1 Tryz.underlying54 hi nD nC oK rfl (by decide) _ _ _ rfl ((aa HO).alloc _) ⟨wr.heap.size,0,none⟩ 1 1 [.int .u8 (x:Int)] rfl rfl (jS _ _ _) (by simp[Value.oneCell']) (by have:=aa Jx;unfold maxLen;omega) (by have:=aa Jx;omega) (by rw[zJ];have:=aa qS;omega) ?_;intro v' w2 ho dP _ _;have A6:=aj (l0 ho);have iU:=aj (((aa HB).alloc (aa HB).size _).grown dP (by rw[zJ];have:=aa qS;omega) (fun k e=>((aa HO).lt k e).1));clear ho dP)
     go_roundg (s.size-(i+1))
     case measure=>have:=aa fQ;have:=aa dA;omega
     case rel=>exact ⟨i+1,bs++[x],by go_num,rfl,aa dA,by rw[zK];exact aa Jx,A6,TT,iU⟩
   ·have f1:decide ((97:Int)≤(x:Int))=false:=by simp;omega
    have f2:decide ((x:Int)≤122)=true:=by simp;omega
    have f3:decide ((65:Int)≤(x:Int))=false:=by simp;omega
    have f4:decide ((x:Int)≤90)=true:=by simp;omega
    have f5:((x:Int)==95)=false:=by simp;omega
    have f6:decide ((48:Int)≤(x:Int))=true:=by simp;omega
    have f7:decide ((x:Int)≤57)=false:=by simp;omega
    clear cn
    go_wp2
    go_roundg (s.size-(i+1))
    case measure=>have:=aa fQ;have:=aa dA;omega
    case rel=>exact ⟨i+1,bs,by go_num,rfl,aa dA,wm,HO,HN,HB⟩
   ·have f1:decide ((97:Int)≤(x:Int))=false:=by simp;omega
    have f2:decide ((x:Int)≤122)=true:=by simp;omega
    have f3:decide ((65:Int)≤(x:Int))=true:=by simp;omega
    have f4:decide ((x:Int)≤90)=true:=by simp;omega
    have f5:((x:Int)==95)=false:=by simp;omega
    have f6:decide ((48:Int)≤(x:Int))=true:=by simp;omega
    have f7:decide ((x:Int)≤57)=false:=by simp;omega
    have TT:=aj (aa HN |>.app (c:=x) (.inl (by unfold isLet;omega)))
    clear cn
    go_wp2_with (at_builtin;refine wpList_append_own_at _ rfl _ _ 54 rfl W.heap.size 5 i0 (.int .u8 0) 1 1 Tryz.underlying54 hi nD nC oK rfl (by decide) _ _ _ rfl ((aa HO).alloc _) ⟨wr.heap.size,0,none⟩ 1 1 [.int .u8 (x:Int)] rfl rfl (jS _ _ _) (by simp[Value.oneCell']) (by have:=aa Jx;unfold maxLen;omega) (by have:=aa Jx;omega) (by rw[zJ];have:=aa qS;omega) ?_;intro v' w2 ho dP _ _;have A6:=aj (l0 ho);have iU:=aj (((aa HB).alloc (aa HB).size _).grown dP (by rw[zJ];have:=aa qS;omega) (fun k e=>((aa HO).lt k e).1));clear ho dP)
    go_roundg (s.size-(i+1))
    case measure=>have:=aa fQ;have:=aa dA;omega
    case rel=>exact ⟨i+1,bs++[x],by go_num,rfl,aa dA,by rw[zK];exact aa Jx,A6,TT,iU⟩
   ·have f1:decide ((97:Int)≤(x:Int))=false:=by simp;omega
    have f2:decide ((x:Int)≤122)=true:=by simp;omega
    have f3:decide ((65:Int)≤(x:Int))=true:=by simp;omega
    have f4:decide ((x:Int)≤90)=false:=by simp;omega
    have f5:((x:Int)==95)=false:=by simp;omega
    have f6:decide ((48:Int)≤(x:Int))=true:=by simp;omega
    have f7:decide ((x:Int)≤57)=false:=by simp;omega
    clear cn
    go_wp2
    go_roundg (s.size-(i+1))
    case measure=>have:=aa fQ;have:=aa dA;omega
    case rel=>exact ⟨i+1,bs,by go_num,rfl,aa dA,wm,HO,HN,HB⟩
   ·have f1:decide ((97:Int)≤(x:Int))=false:=by simp;omega
    have f2:decide ((x:Int)≤122)=true:=by simp;omega
    have f3:decide ((65:Int)≤(x:Int))=true:=by simp;omega
    have f4:decide ((x:Int)≤90)=false:=by simp;omega
    have f5:((x:Int)==95)=true:=by simp;omega
    have f6:decide ((48:Int)≤(x:Int))=true:=by simp;omega
    have f7:decide ((x:Int)≤57)=false:=by simp;omega
    have TT:=aj (aa HN |>.app (c:=x) (.inl (by unfold isLet;omega)))
    clear cn
    go_wp2_with (at_builtin;refine wpList_append_own_at _ rfl _ _ 54 rfl W.heap.size 5 i0 (.int .u8 0) 1 1 Tryz.underlying54 hi nD nC oK rfl (by decide) _ _ _ rfl ((aa HO).alloc _) ⟨wr.heap.size,0,none⟩ 1 1 [.int .u8 (x:Int)] rfl rfl (jS _ _ _) (by simp[Value.oneCell']) (by have:=aa Jx;unfold maxLen;omega) (by have:=aa Jx;omega) (by rw[zJ];have:=aa qS;omega) ?_;intro v' w2 ho dP _ _;have A6:=aj (l0 ho);have iU:=aj (((aa HB).alloc (aa HB).size _).grown dP (by rw[zJ];have:=aa qS;omega) (fun k e=>((aa HO).lt k e).1));clear ho dP)
    go_roundg (s.size-(i+1))
    case measure=>have:=aa fQ;have:=aa dA;omega
    case rel=>exact ⟨i+1,bs++[x],by go_num,rfl,aa dA,by rw[zK];exact aa Jx,A6,TT,iU⟩
   ·have f1:decide ((97:Int)≤(x:Int))=false:=by simp;omega
    have f2:decide ((x:Int)≤122)=true:=by simp;omega
    have f3:decide ((65:Int)≤(x:Int))=true:=by simp;omega
    have f4:decide ((x:Int)≤90)=false:=by simp;omega
    have f5:((x:Int)==95)=false:=by simp;omega
    have f6:decide ((48:Int)≤(x:Int))=true:=by simp;omega
    have f7:decide ((x:Int)≤57)=false:=by simp;omega
    clear cn
    go_wp2
    go_roundg (s.size-(i+1))
    case measure=>have:=aa fQ;have:=aa dA;omega
    case rel=>exact ⟨i+1,bs,by go_num,rfl,aa dA,wm,HO,HN,HB⟩
   ·have f1:decide ((97:Int)≤(x:Int))=true:=by simp;omega
    have f2:decide ((x:Int)≤122)=true:=by simp;omega
    have f3:decide ((65:Int)≤(x:Int))=true:=by simp;omega
    have f4:decide ((x:Int)≤90)=false:=by simp;omega
    have f5:((x:Int)==95)=false:=by simp;omega
    have f6:decide ((48:Int)≤(x:Int))=true:=by simp;omega
    have f7:decide ((x:Int)≤57)=false:=by simp;omega
    have TT:=aj (aa HN |>.app (c:=x) (.inl (by unfold isLet;omega)))
    clear cn
    go_wp2_with (at_builtin;refine wpList_append_own_at _ rfl _ _ 54 rfl W.heap.size 5 i0 (.int .u8 0) 1 1 Tryz.underlying54 hi nD nC oK rfl (by decide) _ _ _ rfl ((aa HO).alloc _) ⟨wr.heap.size,0,none⟩ 1 1 [.int .u8 (x:Int)] rfl rfl (jS _ _ _) (by simp[Value.oneCell']) (by have:=aa Jx;unfold maxLen;omega) (by have:=aa Jx;omega) (by rw[zJ];have:=aa qS;omega) ?_;intro v' w2 ho dP _ _;have A6:=aj (l0 ho);have iU:=aj (((aa HB).alloc (aa HB).size _).grown dP (by rw[zJ];have:=aa qS;omega) (fun k e=>((aa HO).lt k e).1));clear ho dP)
    go_roundg (s.size-(i+1))
    case measure=>have:=aa fQ;have:=aa dA;omega
    case rel=>exact ⟨i+1,bs++[x],by go_num,rfl,aa dA,by rw[zK];exact aa Jx,A6,TT,iU⟩
   ·have f1:decide ((97:Int)≤(x:Int))=true:=by simp;omega
    have f2:decide ((x:Int)≤122)=false:=by simp;omega
    have f3:decide ((65:Int)≤(x:Int))=true:=by simp;omega
    have f4:decide ((x:Int)≤90)=false:=by simp;omega
    have f5:((x:Int)==95)=false:=by simp;omega
    have f6:decide ((48:Int)≤(x:Int))=true:=by simp;omega
    have f7:decide ((x:Int)≤57)=false:=by simp;omega
    clear cn
    go_wp2
    go_roundg (s.size-(i+1))
    case measure=>have:=aa fQ;have:=aa dA;omega
    case rel=>exact ⟨i+1,bs,by go_num,rfl,aa dA,wm,HO,HN,HB⟩
  ·have FV:=na (aa HO).has (aa HN).byt
   have Hc:=aj FV
   by_cases h0:bs.length=0
   ·obtain rfl:=List.eq_nil_of_length_eq_zero h0
    clear h0 FV
    have d30:decide (((0:Nat):Int)<30)=true:=by decide
    have cc:¬i<s.size:=fun q=>lW ⟨q,by decide⟩
    clear lW
    go_wp2
    go_ret
    exact ⟨⟨_,KN,rfl⟩,aa HB⟩
   ·by_cases cc:i<s.size
    ·have d30:decide ((bs.length:Int)<30)=false:=by simp;omega
     clear lW FV
     have Eg:=aa Hc
     go_wp2
     go_ret
     exact ⟨⟨_,(aa HN).ok (fun e=>h0 (by rw[e];rfl)) wm,rfl⟩,aa HB⟩
    ·clear lW FV
     have Eg:=aa Hc
     go_wp2
     go_ret
     exact ⟨⟨_,(aa HN).ok (fun e=>h0 (by rw[e];rfl)) wm,rfl⟩,aa HB⟩
end Go.Proofs.YtmlphohdcejniaaGreatDoor
namespace Go.Proofs.YtmlphohdcejniaaGreatDoor
open Go.RowKit
abbrev Wd:=Int×ByteArray
def kt (t:Tk):Wd:=(t.kind,t.text)
structure St (s:aI) (l:List Wd) (b:Bool) (d o:Nat) (e:Tk):Prop where
 ts:s.ts.map kt=l
 bg:s.bg=b
 dc:s.dc=d
 op:s.op=o
 en:s.en=e∧e.kind=5
def qf {α:Type} (r:Except (Int×Int) (α×aI)) (v:α) (l:List Wd) (b:Bool) (d o:Nat) (e:Tk):Prop:=(4096<d∧∃p,r=.error (54,p))∨(d≤4096∧∃s',r=.ok (v,s')∧St s' l b d o e)
theorem St.here {s:aI}{w:Wd}{l:List Wd}{b:Bool}{d o:Nat}{e:Tk} (h:St s (w::l) b d o e):s.here.kind=w.1∧s.here.text=w.2∧s.ts.tail.map kt=l:=by
 have h1:=h.ts
 unfold aI.here
 cases OP:s.ts with
 |nil=>rw[OP] at h1;cases h1
 |cons t r =>
  rw[OP] at h1
  rw[List.map_cons] at h1
  have h2:=(List.cons.inj h1).1
  have h3:=(List.cons.inj h1).2
  rw[←h2]
  exact ⟨rfl,rfl,h3⟩
theorem St.M1 {s:aI}{b:Bool}{d o:Nat}{e:Tk} (h:St s [] b d o e):s.here.kind=5:=by
 have h1:=h.ts
 unfold aI.here
 cases OP:s.ts with
 |nil=>rw[List.headD_nil,h.en.1];exact h.en.2
 |cons t r=>rw[OP] at h1;cases h1
theorem St.len {s:aI}{l:List Wd}{b:Bool}{d o:Nat}{e:Tk} (h:St s l b d o e):s.ts.length=l.length:=by rw[←h.ts,List.length_map]
theorem St.begun {s:aI}{l:List Wd}{b:Bool}{d o:Nat}{e:Tk} (h:St s l b d o e):St s.begun l true d o e:=⟨h.ts,rfl,h.dc,h.op,h.en⟩
def bt (b:Bool):Nat:=if b=true then 1 else 0
theorem ej {s:aI}{w:Wd}{l:List Wd}{b:Bool}{d o:Nat}{e:Tk} (h:St s (w::l) b d o e) (hd:d≤4096):qf (bE s) () l false (d+bt b) o e:=by
 unfold bE bt
 by_cases hc:s.bg=true∧s.dc=4096
 ·rw[if_pos hc]
  rw[h.bg,h.dc] at hc
  rw[if_pos hc.1]
  exact .inl ⟨by omega,_,rfl⟩
 ·rw[if_neg hc]
  rw[h.bg,h.dc] at hc
  refine .inr ⟨?_,_,rfl,h.here.2.2,rfl,?_,h.op,h.en⟩
  ·cases b with
   |true =>
    have:¬d=4096:=fun q=>hc ⟨rfl,q⟩
    simp only[if_true]
    omega
   |false=>exact hd
  ·simp only
   rw[h.bg,h.dc]
   cases b<;>rfl
theorem La {s:aI}{k:Int}{x:ByteArray}{l:List Wd}{b:Bool}{d o:Nat}{e:Tk} (h:St s ((k,x)::l) b d o e):dD s.here k x=true:=by
 unfold dD
 rw[h.here.1,h.here.2.1]
 simp
theorem jC {s:aI}{w:Wd}{k:Int}{x:ByteArray}{l:List Wd}{b:Bool}{d o:Nat}{e:Tk} (h:St s (w::l) b d o e) (hk:w.1≠k):dD s.here k x=false:=by
 unfold dD
 rw[h.here.1]
 simp[hk]
theorem py {s:aI}{w:Wd}{k:Int}{x:ByteArray}{l:List Wd}{b:Bool}{d o:Nat}{e:Tk} (h:St s (w::l) b d o e) (hk:(w.2.toList==x.toList)=false):dD s.here k x=false:=by
 unfold dD
 rw[h.here.2.1,hk,Bool.and_false]
theorem iA {s:aI}{k:Int}{x:ByteArray}{l:List Wd}{b:Bool}{d o:Nat}{e:Tk} (h:St s ((k,x)::l) b d o e) (hd:d≤4096):qf (cw k x s) true l false (d+bt b) o e:=by
 unfold cw
 rw[if_pos (La h)]
 rcases ej h hd with ⟨q1,p,q2⟩|⟨q1,s1,q2,q3⟩<;>rw[q2]
 ·exact .inl ⟨q1,p,rfl⟩
 ·exact .inr ⟨q1,s1,rfl,q3⟩
theorem kv {s:aI}{k:Int}{x:ByteArray} (h:dD s.here k x=false):cw k x s=.ok (false,s):=by
 unfold cw
 rw[if_neg (by rw[h];simp)]
theorem eS {s:aI}{x:ByteArray}{l:List Wd}{b:Bool}{d o:Nat}{e:Tk} (h:St s ((4,x)::l) b d o e) (hd:d≤4096):qf (aW x s) () l false (d+bt b) o e:=by
 unfold aW
 rcases iA h hd with ⟨q1,p,q2⟩|⟨q1,s1,q2,q3⟩<;>rw[q2]
 ·exact .inl ⟨q1,p,rfl⟩
 ·exact .inr ⟨q1,s1,rfl,q3⟩
theorem vD {x:ByteArray} (h:aU x):bZ x=0:=by
 unfold bZ
 rw[if_neg (by have:=h.2.2;omega),if_pos h.1]
theorem j4 {s:aI}{x:ByteArray}{l:List Wd}{b:Bool}{d o:Nat}{e:Tk} (h:St s ((1,x)::l) b d o e) (hx:aU x) (hd:d≤4096):qf (cq s) x l false (d+bt b) o e:=by
 unfold cq
 rw[if_pos h.here.1,h.here.2.1]
 simp only
 rw[if_pos (vD hx)]
 rcases ej h hd with ⟨q1,p,q2⟩|⟨q1,s1,q2,q3⟩<;>rw[q2]
 ·exact .inl ⟨q1,p,rfl⟩
 ·exact .inr ⟨q1,s1,rfl,q3⟩
theorem vJ {s:aI}{ff:ByteArray→Int}{x y:ByteArray}{l:List Wd}{b:Bool}{d o:Nat}{e:Tk} (h:St s ((3,x)::l) b d o e) (hx:fN x=(y,0)) (hf:ff y=0) (hd:d≤4096):qf (bO ff s) y l false (d+bt b) o e:=by
 unfold bO
 rw[if_pos h.here.1,h.here.2.1]
 simp only
 rw[hx,if_pos rfl,if_pos hf]
 rcases ej h hd with ⟨q1,p,q2⟩|⟨q1,s1,q2,q3⟩<;>rw[q2]
 ·exact .inl ⟨q1,p,rfl⟩
 ·exact .inr ⟨q1,s1,rfl,q3⟩
theorem Bj {s:aI}{lo hi:Int}{m:Bool}{x:ByteArray}{u v:Int}{l:List Wd}{b:Bool}{d o:Nat}{e:Tk} (h:St s ((2,x)::l) b d o e) (hx:iF x=(u,0)) (hv:(if m=true then -u else u)=v) (hr:lo≤v∧v≤hi) (hd:d≤4096):qf (mg lo hi m s) v l false (d+bt b) o e:=by
 unfold mg
 rw[if_pos h.here.1,h.here.2.1]
 simp only
 rw[hx,if_pos rfl]
 simp only
 rw[hv,if_neg (by omega)]
 rcases ej h hd with ⟨q1,p,q2⟩|⟨q1,s1,q2,q3⟩<;>rw[q2]
 ·exact .inl ⟨q1,p,rfl⟩
 ·exact .inr ⟨q1,s1,rfl,q3⟩
noncomputable def eD (n:Int):List Wd:=if n<0 then [(4,⟨#[45]⟩),(2,dec n.natAbs)] else [(2,dec n.natAbs)]
theorem cI:bt false=0:=rfl
theorem ow {s:aI}{lo hi:Int}{mi:Bool}{v:Int}{l:List Wd}{b:Bool}{d o:Nat}{e:Tk} (h:St s (eD v++l) b d o e) (hr:lo≤v∧v≤hi) (hl:-2147483648≤v∧v≤2147483647) (hm:mi=true∨0≤v) (hd:d≤4096):qf (fm lo hi mi s) v l false (d+bt b) o e:=by
 unfold fm
 unfold eD at h
 by_cases hv:v<0
 ·rw[if_pos hv] at h
  rcases hm with rfl|hm
  ·rw[if_pos rfl]
   rcases iA h hd with ⟨q1,p,q2⟩|⟨q1,s1,q2,q3⟩<;>rw[q2]
   ·exact .inl ⟨q1,p,rfl⟩
   ·have:=Bj (lo:=lo) (hi:=hi) (m:=true) q3 (BT _ (by omega)) (show _=v by rw[if_pos rfl];omega) hr q1
    exact this
  ·omega
 ·rw[if_neg hv] at h
  have ht:(if mi=true then cw 4 ⟨#[45]⟩ s else .ok (false,s))=.ok (false,s):=by
   split
   ·exact kv (jC h (show (2:Int)≠4 by decide))
   ·rfl
  rw[ht]
  exact Bj h (BT _ (by omega)) (show _=v by rw[if_neg (by decide)];omega) hr hd
theorem pQ {s:aI}{lo hi:Int}{mi:Bool}{v:Int}{l:List Wd}{b:Bool}{d o:Nat}{e:Tk} (h:St s ((4,⟨#[61]⟩)::(eD v++(4,⟨#[59]⟩)::l)) b d o e) (hr:lo≤v∧v≤hi) (hl:-2147483648≤v∧v≤2147483647) (hm:mi=true∨0≤v) (hd:d≤4096):qf (dh lo hi mi s) v l false (d+bt b) o e:=by
 unfold dh
 rcases eS h hd with ⟨q1,p,q2⟩|⟨q1,s1,q2,h1⟩<;>rw[q2]
 ·exact .inl ⟨q1,p,rfl⟩
 simp only
 rcases ow h1 hr hl hm q1 with ⟨r1,p,r2⟩|⟨r1,s2,r2,h2⟩<;>rw[r2]<;>rw[cI] at r1
 ·exact .inl ⟨r1,p,rfl⟩
 rw[cI] at h2
 simp only
 rw[if_neg (by rw[py h2 (show (ByteArray.toList ⟨#[59]⟩==ByteArray.toList ⟨#[91]⟩)=false by decide +kernel)];decide)]
 rcases eS h2 r1 with ⟨t1,p,t2⟩|⟨t1,s3,t2,h3⟩<;>rw[t2]<;>rw[cI] at t1
 ·exact .inl ⟨t1,p,rfl⟩
 ·exact .inr ⟨t1,s3,rfl,h3⟩
def bV:List ByteArray→List Wd
 |[]=>[]
 |x::r=>(4,⟨#[46]⟩)::(1,x)::bV r
def eG:List ByteArray→List UInt8
 |[]=>[]
 |x::r=>46::(x.data.toList++eG r)
def pS:List Wd→Prop
 |[]=>True
 |w::_=>(w.2.toList==ByteArray.toList ⟨#[46]⟩)=false∨w.1≠4
theorem TB {s:aI}{l:List Wd}{b:Bool}{d o:Nat}{e:Tk} (h:St s l b d o e) (hn:pS l):dD s.here 4 ⟨#[46]⟩=false:=by
 cases l with
 |nil =>
  unfold dD
  rw[h.M1]
  rfl
 |cons w l =>
  rcases hn with hn|hn
  ·exact py h hn
  ·exact jC h hn
theorem rD:∀(ps:List ByteArray) (f:Nat) (acc:List UInt8) (s:aI) (l:List Wd) (d o:Nat) (e:Tk),St s (bV ps++l) false d o e→pS l→(∀x ∈ ps,aU x)→d≤4096→s.ts.length<f→∃s',ew f acc s=.ok (acc++eG ps,s')∧St s' l false d o e
 |ps,0,_,_,_,_,_,_,_,_,_,_,hf=>by omega
 |[],f+1,acc,s,l,d,o,e,h,hn,_,hd,_=>by
  rw[ew,kv (TB h hn)]
  exact ⟨s,by simp[eG],h⟩
 |x::r,f+1,acc,s,l,d,o,e,h,hn,hx,hd,hf=>by
  rw[ew]
  rcases iA h hd with ⟨q1,_⟩|⟨q1,s1,q2,h1⟩
  ·rw[cI] at q1;omega
  rw[q2]
  simp only
  rw[cI] at h1
  rcases j4 (l:=bV r++l) h1 (hx x List.mem_cons_self) hd with ⟨r1,_⟩|⟨r1,s2,r2,h2⟩
  ·rw[cI] at r1;omega
  rw[r2]
  simp only
  have Ee:=h.len
  have yD:=h2.len
  simp only[bV,List.cons_append,List.length_cons] at Ee
  obtain ⟨s',k1,k2⟩:=rD r f ((acc++[46])++x.data.toList) s2 l d o e h2 hn (fun y hy=>hx y (zF _ hy)) hd (by omega)
  exact ⟨s',by rw[k1];simp[eG],k2⟩
def gQ (ps:List ByteArray):ByteArray:=⟨(eG ps).toArray⟩
def lC (ps:List ByteArray):Prop:=ps≠[]∧(∀x ∈ ps,aU x)∧ps.length≤4
theorem qN:∀ps:List ByteArray,(∀x ∈ ps,aU x)→(eG ps).length≤31*ps.length
 |[],_=>Nat.zero_le _
 |x::r,h=>by
  have h1:=(h x List.mem_cons_self).2.2
  have h2:=qN r (fun y hy=>h y (zF _ hy))
  have h3:x.data.toList.length=x.size:=Array.length_toList
  simp only[eG,List.length_cons,zK]
  omega
theorem wU:bt true=1:=rfl
theorem yQ {x:ByteArray}{ps:List ByteArray}{fs:Int}{a:List UInt8}{s:aI}{l:List Wd}{b:Bool}{d o:Nat}{e:Tk} (h:St s ((1,x)::(bV ps++l)) b d o e) (hn:pS l) (hx:∀y ∈ x::ps,aU y) (hl:ps.length≤3) (ha:a.length≤1) (hd:d≤4096):qf (gw fs a s) ⟨(a++x.data.toList++eG ps).toArray⟩ l false (d+bt b) o e:=by
 unfold gw
 rcases j4 h (hx x List.mem_cons_self) hd with ⟨q1,p,q2⟩|⟨q1,s1,q2,h1⟩<;>rw[q2]
 ·exact .inl ⟨q1,p,rfl⟩
 simp only
 obtain ⟨s2,k1,k2⟩:=rD ps (s1.ts.length+1) (a++x.data.toList) s1 l _ o e h1 hn (fun y hy=>hx y (zF _ hy)) q1 (by omega)
 rw[k1]
 unfold qO
 have h2:=qN ps (fun y hy=>hx y (zF _ hy))
 have h3:x.data.toList.length=x.size:=Array.length_toList
 have h4:=(hx x List.mem_cons_self).2.2
 have hlen:¬255<(a++x.data.toList++eG ps).length:=by
  rw[zK,zK]
  omega
 simp only
 rw[if_neg hlen]
 exact .inr ⟨q1,s2,rfl,k2⟩
theorem oH {ps:List ByteArray}{s:aI}{l:List Wd}{b:Bool}{d o:Nat}{e:Tk} (h:St s (bV ps++l) b d o e) (hn:pS l) (hp:lC ps) (hd:d≤4096):qf (dE true s) (gQ ps) l false (d+bt b) o e:=by
 obtain ⟨h0,h1,h2⟩:=hp
 cases ps with
 |nil=>exact absurd rfl h0
 |cons x r =>
  unfold dE
  rw[if_pos rfl]
  rcases iA (l:=(1,x)::(bV r++l)) h hd with ⟨q1,p,q2⟩|⟨q1,s1,q2,h3⟩<;>rw[q2]
  ·exact .inl ⟨q1,p,rfl⟩
  simp only
  rw[if_pos trivial]
  have:=yQ (fs:=s.here.spot) (a:=[46]) h3 hn h1 (by rw[List.length_cons] at h2;omega) (by simp) q1
  rw[cI] at this
  unfold gQ eG
  exact this
def mO:List ByteArray→List Wd
 |[]=>[]
 |x::r=>(1,x)::bV r
def iZ:List ByteArray→ByteArray
 |[]=>⟨#[]⟩
 |x::r=>⟨(x.data.toList++eG r).toArray⟩
theorem Oz {ps:List ByteArray}{s:aI}{l:List Wd}{b:Bool}{d o:Nat}{e:Tk} (h:St s (mO ps++l) b d o e) (hn:pS l) (hp:lC ps) (hd:d≤4096):qf (dE false s) (iZ ps) l false (d+bt b) o e:=by
 obtain ⟨h0,h1,h2⟩:=hp
 cases ps with
 |nil=>exact absurd rfl h0
 |cons x r =>
  unfold dE
  rw[if_neg (by decide)]
  simp only
  rw[if_neg (by decide)]
  have:=yQ (fs:=s.here.spot) (a:=[]) h hn h1 (by rw[List.length_cons] at h2;omega) (by simp) hd
  unfold iZ
  exact this
abbrev sg (c:UInt8):Wd:=(4,⟨#[c]⟩)
noncomputable def lP (x:ByteArray) (n:Int):List Wd:=(1,x)::sg 61::(eD n++[sg 59])
theorem KJ {f:Fd}{x:ByteArray}{n:Int}{s:aI}{l:List Wd}{d o:Nat}{e:Tk} (h:St s (lP x n++l) false d o e) (hx:aU x) (hn:0≤n∧n≤2147483647) (hd:d≤4096):qf (Ib f s) { f with name:=x,num:=n } l false d o e:=by
 unfold Ib
 have hh:St s ((1,x)::(4,⟨#[61]⟩)::(eD n++(4,⟨#[59]⟩)::l)) false d o e:=by
  have:lP x n++l=(1,x)::(4,⟨#[61]⟩)::(eD n++(4,⟨#[59]⟩)::l):=by simp[lP]
  rw[←this];exact h
 rcases j4 hh hx hd with ⟨q1,p,q2⟩|⟨q1,s1,q2,h1⟩<;>rw[q2]<;>rw[cI] at q1
 ·exact .inl ⟨q1,p,rfl⟩
 simp only
 rw[cI] at h1
 rcases pQ h1 hn (by omega) (.inr hn.1) hd with ⟨q1,p,q2⟩|⟨q1,s2,q2,h2⟩<;>rw[q2]<;>rw[cI] at q1
 ·exact .inl ⟨q1,p,rfl⟩
 ·exact .inr ⟨q1,s2,rfl,h2⟩
theorem yK {f:Fd}{ps:List ByteArray}{x:ByteArray}{n:Int}{s:aI}{l:List Wd}{b:Bool}{d o:Nat}{e:Tk} (h:St s (bV ps++(lP x n++l)) b d o e) (hp:lC ps) (hx:aU x) (hn:0≤n∧n≤2147483647) (hd:d≤4096):qf (gZ f s) { f with ty:=gQ ps,name:=x,num:=n } l false (d+bt b) o e:=by
 unfold gZ
 rcases oH h (show pS (lP x n++l) from .inr (show (1:Int)≠4 by decide)) hp hd with ⟨q1,p,q2⟩|⟨q1,s1,q2,h1⟩<;>rw[q2]
 ·exact .inl ⟨q1,p,rfl⟩
 exact KJ h1 hx hn q1
theorem yr {k:Int}{ps:List ByteArray}{x:ByteArray}{n:Int}{s:aI}{l:List Wd}{b:Bool}{d o:Nat}{e:Tk} (h:St s (bV ps++(lP x n++l)) b d o e) (hp:lC ps) (hx:aU x) (hn:0≤n∧n≤2147483647) (hd:d≤4096):qf (gg k s) ⟨1,⟨#[]⟩,gQ ps,x,n,k⟩ l false (d+1) o e:=by
 unfold gg
 exact yK h.begun hp hx hn hd
theorem qM {ps:List ByteArray} (hp:lC ps):∃r,bV ps=sg 46::r:=by
 cases ps with
 |nil=>exact absurd rfl hp.1
 |cons x r=>exact ⟨_,rfl⟩
theorem Ac {c:Int}{y:ByteArray}{ps:List ByteArray}{x:ByteArray}{n:Int}{s:aI}{l:List Wd}{b:Bool}{d o:Nat}{e:Tk} (h:St s ((1,y)::(bV ps++(lP x n++l))) b d o e) (hp:lC ps) (hx:aU x) (hn:0≤n∧n≤2147483647) (hd:d≤4096):qf (db c s) ⟨c,⟨#[]⟩,gQ ps,x,n,0⟩ l false (d+1) o e:=by
 unfold db
 rcases ej h.begun hd with ⟨q1,p,q2⟩|⟨q1,s1,q2,h1⟩<;>rw[q2]
 ·exact .inl ⟨q1,p,rfl⟩
 simp only
 obtain ⟨r,hr⟩:=qM hp
 rw[if_neg (by
  have h2:=h1
  rw[hr] at h2
  rw[jC h2 (show (4:Int)≠1 by decide)];decide)]
 have:=yK (f:=⟨c,⟨#[]⟩,⟨#[]⟩,⟨#[]⟩,0,0⟩) h1 hp hx hn q1
 exact this
noncomputable def Ih (ks ps:List ByteArray) (x:ByteArray) (n:Int):List Wd:=(1,⟨#[109,97,112]⟩)::sg 60::(bV ks++sg 44::(bV ps++sg 62::lP x n))
theorem OJ {ks ps:List ByteArray}{x:ByteArray}{n:Int}{s:aI}{l:List Wd}{b:Bool}{d o:Nat}{e:Tk} (h:St s (Ih ks ps x n++l) b d o e) (hk:lC ks) (hp:lC ps) (hx:aU x) (hn:0≤n∧n≤2147483647) (hd:d≤4096):qf (cx s) ⟨4,gQ ks,gQ ps,x,n,0⟩ l false (d+1) o e:=by
 have hh:St s ((1,⟨#[109,97,112]⟩)::(4,⟨#[60]⟩)::(bV ks++(4,⟨#[44]⟩)::(bV ps++(4,⟨#[62]⟩)::(lP x n++l)))) b d o e:=by
  have:Ih ks ps x n++l=(1,⟨#[109,97,112]⟩)::(4,⟨#[60]⟩)::(bV ks++(4,⟨#[44]⟩)::(bV ps++(4,⟨#[62]⟩)::(lP x n++l))):=by simp[Ih]
  rw[←this];exact h
 unfold cx
 have ha:dD (s.ahead 1) 4 ⟨#[60]⟩=true:=by
  have h1:=hh.ts
  unfold aI.ahead
  match hs:s.ts with
  |[]=>rw[hs] at h1;cases h1
  |[t]=>rw[hs] at h1;cases (List.cons.inj h1).2
  |t::u::r =>
   rw[hs] at h1
   simp only[List.map_cons] at h1
   have h2:=(List.cons.inj (List.cons.inj h1).2).1
   unfold kt at h2
   have h3:=(Prod.mk.inj h2).1
   have h4:=(Prod.mk.inj h2).2
   show dD u 4 ⟨#[60]⟩=true
   unfold dD
   rw[h3,h4]
   simp
 rw[if_pos ha]
 unfold vL
 rcases ej hh.begun hd with ⟨q1,p,q2⟩|⟨q1,s1,q2,h1⟩<;>rw[q2]
 ·exact .inl ⟨q1,p,rfl⟩
 simp only
 rw[wU] at q1 h1
 rcases eS h1 q1 with ⟨z1,p,z2⟩|⟨z1,s2,z2,h2⟩<;>rw[cI] at z1
 ·omega
 rw[z2]
 simp only
 rw[cI] at h2
 rcases oH h2 (show pS ((4,⟨#[44]⟩)::_) from .inl (by decide +kernel)) hk q1 with ⟨z1,p,z2⟩|⟨z1,s3,z2,h3⟩<;>rw[cI] at z1
 ·omega
 rw[z2]
 simp only
 rw[cI] at h3
 rcases eS h3 q1 with ⟨z1,p,z2⟩|⟨z1,s4,z2,h4⟩<;>rw[cI] at z1
 ·omega
 rw[z2]
 simp only
 rw[cI] at h4
 rcases oH h4 (show pS ((4,⟨#[62]⟩)::_) from .inl (by decide +kernel)) hp q1 with ⟨z1,p,z2⟩|⟨z1,s5,z2,h5⟩<;>rw[cI] at z1
 ·omega
 rw[z2]
 simp only
 rw[cI] at h5
 rcases eS h5 q1 with ⟨z1,p,z2⟩|⟨z1,s6,z2,h6⟩<;>rw[cI] at z1
 ·omega
 rw[z2]
 simp only
 rw[cI] at h6
 exact KJ h6 hx hn q1
theorem Gz {x:ByteArray}{n:Int}{s:aI}{l:List Wd}{b:Bool}{d o:Nat}{e:Tk} (h:St s (lP x n++l) b d o e) (hx:aU x) (hn:-2147483648≤n∧n≤2147483647) (hd:d≤4096):qf (iX s) (x,n) l false (d+1) o e:=by
 have hh:St s ((1,x)::(4,⟨#[61]⟩)::(eD n++(4,⟨#[59]⟩)::l)) b d o e:=by
  have:lP x n++l=(1,x)::(4,⟨#[61]⟩)::(eD n++(4,⟨#[59]⟩)::l):=by simp[lP]
  rw[←this];exact h
 unfold iX
 rcases j4 hh.begun hx hd with ⟨q1,p,q2⟩|⟨q1,s1,q2,h1⟩<;>rw[q2]
 ·exact .inl ⟨q1,p,rfl⟩
 simp only
 rcases pQ h1 hn hn (.inl rfl) q1 with ⟨z1,p,z2⟩|⟨z1,s2,z2,h2⟩<;>rw[z2]
 ·exact .inl ⟨z1,p,rfl⟩
 ·exact .inr ⟨z1,s2,rfl,h2⟩
noncomputable def vd (a c:Int):List Wd:=eD a++(if c≠a then (1,⟨#[116,111]⟩)::eD c else [])
theorem BS (n:Int):∃w r,eD n=w::r∧(w.1≠1∧w.1≠3∧w.1≠5):=by
 unfold eD
 split
 ·exact ⟨_,_,rfl,by decide,by decide,by decide⟩
 ·exact ⟨_,_,rfl,by show (2:Int)≠1;decide,by show (2:Int)≠3;decide,by show (2:Int)≠5;decide⟩
theorem Ou {lo hi a c:Int}{mi:Bool}{s:aI}{l:List Wd}{b:Bool}{d o:Nat}{e:Tk} (h:St s (vd a c++sg 59::l) b d o e) (ha:lo≤a∧a≤c∧c≤hi) (hl:-2147483648≤lo∧hi≤2147483647) (hm:mi=true∨0≤lo) (hd:d≤4096):qf (kK lo hi mi s) (a,c) (sg 59::l) false (d+1) o e:=by
 unfold kK
 unfold vd at h
 rw[List.append_assoc] at h
 have WD:mi=true∨0≤a:=hm.imp id (fun q=>by omega)
 rcases ow h.begun (show lo≤a∧a≤hi by omega) (by omega) WD hd with ⟨q1,p,q2⟩|⟨q1,s1,q2,h1⟩<;>rw[q2]
 ·exact .inl ⟨q1,p,rfl⟩
 simp only
 by_cases hc:c≠a
 ·rw[if_pos hc] at h1
  rcases iA h1 q1 with ⟨z1,p,z2⟩|⟨z1,s2,z2,h2⟩<;>rw[cI] at z1
  ·rw[wU] at q1;rw[wU] at z1;omega
  rw[z2]
  simp only
  obtain ⟨w,r,hw,hwk,_⟩:=BS c
  have h3:=h2
  rw[hw] at h3
  rw[kv (jC h3 hwk)]
  simp only
  have UB:mi=true∨0≤c:=hm.imp id (fun q=>by omega)
  rcases ow h2 (show a≤c∧c≤hi by omega) (by omega) UB (by rw[cI];exact q1) with ⟨z1,p,z2⟩|⟨z1,s4,z2,h4⟩<;>rw[z2]
  ·exact .inl ⟨z1,p,rfl⟩
  ·exact .inr ⟨z1,s4,rfl,h4⟩
 ·rw[if_neg hc] at h1
  have e1:c=a:=by omega
  subst e1
  rw[kv (jC h1 (show (4:Int)≠1 by decide))]
  exact .inr ⟨q1,s1,rfl,h1⟩
end Go.Proofs.YtmlphohdcejniaaGreatDoor

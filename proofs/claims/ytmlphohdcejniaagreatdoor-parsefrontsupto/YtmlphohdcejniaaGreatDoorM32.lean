import Derived.Test.YtmlphohdcejniaaGreatDoorM31
set_option maxHeartbeats 4000000
set_option maxRecDepth 100000
namespace Go.Proofs.YtmlphohdcejniaaGreatDoor
open Go.RowKit
attribute [local go_sem ↓] Go.wp_at_zero Go.wp_at_succ
theorem zU (v n:Int) (hn:0<n):-n<v.tmod n∧v.tmod n<n∧((0≤v.tmod n∧v % n=v.tmod n)∨(v.tmod n<0∧v % n=v.tmod n+n)):=by
 rcases Int.le_total 0 v with h|h
 ·have h2:v.tmod n=v % n:=Int.tmod_eq_emod_of_nonneg h
  have h3:=Int.emod_nonneg v (by omega:n≠0)
  have h4:=Int.emod_lt_of_pos v hn
  exact ⟨by omega,by omega,.inl ⟨by omega,by omega⟩⟩
 ·have h2:(-v).tmod n=(-v) % n:=Int.tmod_eq_emod_of_nonneg (by omega)
  rw[Int.neg_tmod] at h2
  have h3:=Int.emod_nonneg (-v) (by omega:n≠0)
  have h4:=Int.emod_lt_of_pos (-v) hn
  have h5:=Int.emod_nonneg v (by omega:n≠0)
  have h6:=Int.emod_lt_of_pos v hn
  have h7:(n ∣ v+(-v) % n):=⟨-((-v) / n),by have:=Int.mul_ediv_add_emod (-v) n;rw[Int.mul_neg];omega⟩
  by_cases h0:(-v) % n=0
  ·have h8:v % n=0:=by
    rw[h0,Int.add_zero] at h7
    exact Int.emod_eq_zero_of_dvd h7
   exact ⟨by omega,by omega,.inl ⟨by omega,by omega⟩⟩
  ·have h8:v % n=n-(-v) % n:=by
    have e1:v=(n-(-v) % n)+n*(-((-v) / n)-1):=by
     have:=Int.mul_ediv_add_emod (-v) n
     rw[Int.mul_sub,Int.mul_neg,Int.mul_one]
     omega
    rw[e1,Int.add_mul_emod_self_left]
    rw[←e1]
    exact Int.emod_eq_of_lt (by omega) (by omega)
   exact ⟨by omega,by omega,.inr ⟨by omega,by omega⟩⟩
def kX (v:Int):Prop:=-9223372036854775808≤v∧v≤9223372036854775807
theorem dU (W:World) {v lo hi:Int} (hv:kX v) (h1:-2147483648≤lo) (h2:lo≤hi) (h3:hi≤2147483647) :
  Calls Tryz.prog 11 #[.int .i64 v,.int .i64 lo,.int .i64 hi] W fun e w=>(∃x:Int,(lo≤x∧x≤hi)∧e=.returned (.int .i64 x))∧w=W:=by
 obtain ⟨Ut,SG⟩:=hv
 obtain ⟨d,hd⟩:∃d,hi-lo=d:=⟨_,rfl⟩
 obtain ⟨N,hN⟩:∃N,d+1=N:=⟨_,rfl⟩
 obtain ⟨b1,b2,b3⟩:=zU v N (by omega)
 obtain ⟨r,hr⟩:∃r,v.tmod N=r:=⟨_,rfl⟩
 rw[hr] at b1 b2 b3
 have c1:N≤4294967296:=by omega
 have c2:0<N:=by omega
 have c3:¬N=0:=by omega
 have c4:d≤4294967295:=by omega
 have c5:0≤d:=by omega
 rcases b3 with ⟨b3,-⟩|⟨b3,-⟩
 ·have q1:decide (r<0)=false:=by simp;omega
  have Hx:Hid (∃x:Int,(lo≤x∧x≤hi)∧lo+r=x):=⟨lo+r,⟨by omega,by omega⟩,rfl⟩
  go_enter Tryz.func11,Tryz.ntmps11
  go_wp2
  go_ret
  obtain ⟨x,hx,e⟩:=aa Hx
  exact ⟨⟨x,hx,by rw[e];rfl⟩,rfl⟩
 ·have q1:decide (r<0)=true:=by simp;omega
  have Hx:Hid (∃x:Int,(lo≤x∧x≤hi)∧lo+(r+N)=x):=⟨lo+(r+N),⟨by omega,by omega⟩,rfl⟩
  go_enter Tryz.func11,Tryz.ntmps11
  go_wp2
  go_ret
  obtain ⟨x,hx,e⟩:=aa Hx
  exact ⟨⟨x,hx,by rw[e];rfl⟩,rfl⟩
def S8 (bs:List Nat):Prop:=(∀x ∈ bs,isLet x∨bZ x)∧(∀x,bs[0]?=some x→isLet x)
theorem S8.byt {bs:List Nat} (h:S8 bs):KI bs:=fun x hx=>by
 have:=h.1 x hx
 unfold isLet bZ at this
 omega
theorem S8.app {bs:List Nat}{c:Nat} (h:S8 bs) (hc:isLet c∨(bZ c∧bs≠[])):S8 (bs++[c]):=by
 refine ⟨fun x hx=>?_,fun x hx=>?_⟩
 ·rcases List.mem_append.1 hx with hx|hx
  ·exact h.1 x hx
  ·rw[List.mem_singleton.1 hx]
   exact hc.imp id And.left
 ·cases bs with
  |nil =>
   obtain rfl:c=x:=zC hx
   exact hc.elim id (fun q=>absurd rfl q.2)
  |cons y r=>exact h.2 x hx
theorem qc {l:List Nat} (h:KI l):aH (ti l)=l:=by
 unfold aH ti
 simp only[List.map_map]
 exact (List.map_congr_left (g:=id) fun x hx=>by have:=h x hx;simp[Nat.mod_eq_of_lt this]).trans (List.map_id l)
theorem S8.ok {bs:List Nat} (h:S8 bs) (h1:bs≠[]) (h2:bs.length≤30):aR (ti bs):=by
 have hl:1≤bs.length:=by cases bs with
  |nil=>exact absurd rfl h1
  |cons x r=>simp
 refine ⟨?_,by rw[jg];exact hl,by rw[jg];exact h2⟩
 unfold mL
 refine decide_eq_true ⟨⟨by rw[jg];exact hl,by rw[jg];omega⟩,?_,?_⟩<;>rw[qc h.byt]
 ·exact h.2
 ·exact fun j x hx=>h.1 x (List.mem_of_getElem? hx)
theorem Mq:aR ⟨#[120]⟩:=by
 refine ⟨?_,by decide,by decide⟩
 kernel_rfl
theorem kr (w:World) (x:Value) (t:TypeId):∀j u,[x][j]?=some u→(w.alloc (.cells #[x] t)).cell? ((⟨w.heap.size,0,none⟩:Addr).add j)=some u:=by
 intro j u h
 cases j with
 |zero =>
  obtain rfl:=zC h
  exact cell_of_row _ w.heap.size 0 _ _ _ (aC w (.cells #[x] t))
 |succ j=>cases h
theorem mU {base:Nat}{w:World}{v:Value}{bs:List Nat}{x:Nat} (h:w.ownsRow base 5 1 v (bs.length+1) (nb bs++[.int .u8 (x:Int)])):Bytes base w v (bs++[x]):=by
 unfold Bytes
 rw[zK,rJ]
 exact h
theorem gg (W:World) (s:ByteArray) (hs:s.size≤140737488351232):Calls Tryz.prog 22 #[.string s] W fun e w=>(∃x,aR x∧e=.returned (.string x))∧Below W.heap.size W w:=by
 obtain ⟨i0,hi,oH,oG,pQ⟩:=info_parts oo
 go_enter Tryz.func22,Tryz.ntmps22
 go_wp2
 go_loopg [3,4,5] s.size (fun gk v3 v4 _ wr=>∃(i:Nat) (bs:List Nat),v4=.int .i64 (i:Int)∧gk=s.size-i∧i≤s.size∧bs.length≤30∧Hid (Bytes W.heap.size wr v3 bs)∧Hid (S8 bs)∧Hid (Below W.heap.size W wr))
 case atStart =>
  refine ⟨0,[],rfl,rfl,by omega,by simp,?_,⟨fun x hx=>by (cases hx),fun x hx=>by cases hx⟩,?_⟩
  ·refine ⟨rfl,.inr ⟨W.heap.size,0,#[],rfl,zD _,aC _ _,zD _,by unfold maxLen;omega,rfl,rfl⟩⟩
  ·exact (zE _ _).alloc (zD _) _
 case round =>
  obtain ⟨i,bs,rfl,fi,qz,xQ,HO,HN,HB⟩:=hrel
  have gA:=aj fi
  clear fi
  obtain ⟨a,c,rfl⟩:=bn (aa HO)
  by_cases mO:i<s.size∧bs.length<30
  ·obtain ⟨cw,h30⟩:=mO
   have d30:decide ((bs.length:Int)<30)=true:=by simp;omega
   obtain ⟨x,hx,fO,gx⟩:=iV s i cw
   have sy:=aj (aa HB).size
   have dN:=aj cw
   have KY:=aj h30
   clear hx
   have cB:x<48∨(48≤x∧x≤57)∨(58≤x∧x≤64)∨(65≤x∧x≤90)∨(91≤x∧x≤94)∨x=95∨x=96∨(97≤x∧x≤122)∨123≤x:=by omega
   rcases cB with cB|cB|cB|cB|cB|cB|cB|cB|cB
   ·have f1:decide ((97:Int)≤(x:Int))=false:=by simp;omega
    have f2:decide ((x:Int)≤122)=true:=by simp;omega
    have f3:decide ((65:Int)≤(x:Int))=false:=by simp;omega
    have f4:decide ((x:Int)≤90)=true:=by simp;omega
    have f5:((x:Int)==95)=false:=by simp;omega
    have f6:decide ((48:Int)≤(x:Int))=false:=by simp;omega
    have f7:decide ((x:Int)≤57)=true:=by simp;omega
    clear cB
    go_wp2
    go_roundg (s.size-(i+1))
    case measure=>have:=aa gA;have:=aa dN;omega
    case rel=>exact ⟨i+1,bs,by go_num,rfl,aa dN,xQ,HO,HN,HB⟩
   ·have f1:decide ((97:Int)≤(x:Int))=false:=by simp;omega
    have f2:decide ((x:Int)≤122)=true:=by simp;omega
    have f3:decide ((65:Int)≤(x:Int))=false:=by simp;omega
    have f4:decide ((x:Int)≤90)=true:=by simp;omega
    have f5:((x:Int)==95)=false:=by simp;omega
    have f6:decide ((48:Int)≤(x:Int))=true:=by simp;omega
    have f7:decide ((x:Int)≤57)=true:=by simp;omega
    by_cases US:bs=[]
    ·subst US
     clear cB
     go_wp2
     go_roundg (s.size-(i+1))
     case measure=>have:=aa gA;have:=aa dN;omega
     case rel=>exact ⟨i+1,[],by go_num,rfl,aa dN,xQ,HO,HN,HB⟩
    ·have dZ:0<bs.length:=by cases bs with
      |nil=>exact absurd rfl US
      |cons y r=>simp
     have bF:decide (0<bs.length)=true:=decide_eq_true dZ
     have VU:=aj (aa HN |>.app (c:=x) (.inr ⟨by unfold bZ;omega,US⟩))
     clear cB
     go_wp2_with (at_builtin;refine wpList_append_own_at _ rfl _ _ 54 rfl W.heap.size 5 i0 (.int .u8 0) 1 1 Tryz.underlying54 hi oH oG pQ rfl (by decide) _ _ _ rfl ((aa HO).alloc _) ⟨wr.heap.size,0,none⟩ 1 1 [.int .u8 (x:Int)] rfl rfl (kr _ _ _) (by simp[Value.oneCell']) (by have:=aa KY;unfold maxLen;omega) (by have:=aa KY;omega) (by rw[zJ];have:=aa sy;omega) ?_;intro v' w2 ho ej _ _;have CD:=aj (mU ho);have iL:=aj (((aa HB).alloc (aa HB).size _).grown ej (by rw[zJ];have:=aa sy;omega) (fun k e=>((aa HO).lt k e).1));clear ho ej)
     go_roundg (s.size-(i+1))
     case measure=>have:=aa gA;have:=aa dN;omega
     case rel=>exact ⟨i+1,bs++[x],by go_num,rfl,aa dN,by rw[zK];exact aa KY,CD,VU,iL⟩
   ·have f1:decide ((97:Int)≤(x:Int))=false:=by simp;omega
    have f2:decide ((x:Int)≤122)=true:=by simp;omega
    have f3:decide ((65:Int)≤(x:Int))=false:=by simp;omega
    have f4:decide ((x:Int)≤90)=true:=by simp;omega
    have f5:((x:Int)==95)=false:=by simp;omega
    have f6:decide ((48:Int)≤(x:Int))=true:=by simp;omega
    have f7:decide ((x:Int)≤57)=false:=by simp;omega
    clear cB
    go_wp2
    go_roundg (s.size-(i+1))
    case measure=>have:=aa gA;have:=aa dN;omega
    case rel=>exact ⟨i+1,bs,by go_num,rfl,aa dN,xQ,HO,HN,HB⟩
   ·have f1:decide ((97:Int)≤(x:Int))=false:=by simp;omega
    have f2:decide ((x:Int)≤122)=true:=by simp;omega
    have f3:decide ((65:Int)≤(x:Int))=true:=by simp;omega
    have f4:decide ((x:Int)≤90)=true:=by simp;omega
    have f5:((x:Int)==95)=false:=by simp;omega
    have f6:decide ((48:Int)≤(x:Int))=true:=by simp;omega
    have f7:decide ((x:Int)≤57)=false:=by simp;omega
    have VU:=aj (aa HN |>.app (c:=x) (.inl (by unfold isLet;omega)))
    clear cB
    go_wp2_with (at_builtin;refine wpList_append_own_at _ rfl _ _ 54 rfl W.heap.size 5 i0 (.int .u8 0) 1 1 Tryz.underlying54 hi oH oG pQ rfl (by decide) _ _ _ rfl ((aa HO).alloc _) ⟨wr.heap.size,0,none⟩ 1 1 [.int .u8 (x:Int)] rfl rfl (kr _ _ _) (by simp[Value.oneCell']) (by have:=aa KY;unfold maxLen;omega) (by have:=aa KY;omega) (by rw[zJ];have:=aa sy;omega) ?_;intro v' w2 ho ej _ _;have CD:=aj (mU ho);have iL:=aj (((aa HB).alloc (aa HB).size _).grown ej (by rw[zJ];have:=aa sy;omega) (fun k e=>((aa HO).lt k e).1));clear ho ej)
    go_roundg (s.size-(i+1))
    case measure=>have:=aa gA;have:=aa dN;omega
    case rel=>exact ⟨i+1,bs++[x],by go_num,rfl,aa dN,by rw[zK];exact aa KY,CD,VU,iL⟩
   ·have f1:decide ((97:Int)≤(x:Int))=false:=by simp;omega
    have f2:decide ((x:Int)≤122)=true:=by simp;omega
    have f3:decide ((65:Int)≤(x:Int))=true:=by simp;omega
    have f4:decide ((x:Int)≤90)=false:=by simp;omega
    have f5:((x:Int)==95)=false:=by simp;omega
    have f6:decide ((48:Int)≤(x:Int))=true:=by simp;omega
    have f7:decide ((x:Int)≤57)=false:=by simp;omega
    clear cB
    go_wp2
    go_roundg (s.size-(i+1))
    case measure=>have:=aa gA;have:=aa dN;omega
    case rel=>exact ⟨i+1,bs,by go_num,rfl,aa dN,xQ,HO,HN,HB⟩
   ·have f1:decide ((97:Int)≤(x:Int))=false:=by simp;omega
    have f2:decide ((x:Int)≤122)=true:=by simp;omega
    have f3:decide ((65:Int)≤(x:Int))=true:=by simp;omega
    have f4:decide ((x:Int)≤90)=false:=by simp;omega
    have f5:((x:Int)==95)=true:=by simp;omega
    have f6:decide ((48:Int)≤(x:Int))=true:=by simp;omega
    have f7:decide ((x:Int)≤57)=false:=by simp;omega
    have VU:=aj (aa HN |>.app (c:=x) (.inl (by unfold isLet;omega)))
    clear cB
    go_wp2_with (at_builtin;refine wpList_append_own_at _ rfl _ _ 54 rfl W.heap.size 5 i0 (.int .u8 0) 1 1 Tryz.underlying54 hi oH oG pQ rfl (by decide) _ _ _ rfl ((aa HO).alloc _) ⟨wr.heap.size,0,none⟩ 1 1 [.int .u8 (x:Int)] rfl rfl (kr _ _ _) (by simp[Value.oneCell']) (by have:=aa KY;unfold maxLen;omega) (by have:=aa KY;omega) (by rw[zJ];have:=aa sy;omega) ?_;intro v' w2 ho ej _ _;have CD:=aj (mU ho);have iL:=aj (((aa HB).alloc (aa HB).size _).grown ej (by rw[zJ];have:=aa sy;omega) (fun k e=>((aa HO).lt k e).1));clear ho ej)
    go_roundg (s.size-(i+1))
    case measure=>have:=aa gA;have:=aa dN;omega
    case rel=>exact ⟨i+1,bs++[x],by go_num,rfl,aa dN,by rw[zK];exact aa KY,CD,VU,iL⟩
   ·have f1:decide ((97:Int)≤(x:Int))=false:=by simp;omega
    have f2:decide ((x:Int)≤122)=true:=by simp;omega
    have f3:decide ((65:Int)≤(x:Int))=true:=by simp;omega
    have f4:decide ((x:Int)≤90)=false:=by simp;omega
    have f5:((x:Int)==95)=false:=by simp;omega
    have f6:decide ((48:Int)≤(x:Int))=true:=by simp;omega
    have f7:decide ((x:Int)≤57)=false:=by simp;omega
    clear cB
    go_wp2
    go_roundg (s.size-(i+1))
    case measure=>have:=aa gA;have:=aa dN;omega
    case rel=>exact ⟨i+1,bs,by go_num,rfl,aa dN,xQ,HO,HN,HB⟩
   ·have f1:decide ((97:Int)≤(x:Int))=true:=by simp;omega
    have f2:decide ((x:Int)≤122)=true:=by simp;omega
    have f3:decide ((65:Int)≤(x:Int))=true:=by simp;omega
    have f4:decide ((x:Int)≤90)=false:=by simp;omega
    have f5:((x:Int)==95)=false:=by simp;omega
    have f6:decide ((48:Int)≤(x:Int))=true:=by simp;omega
    have f7:decide ((x:Int)≤57)=false:=by simp;omega
    have VU:=aj (aa HN |>.app (c:=x) (.inl (by unfold isLet;omega)))
    clear cB
    go_wp2_with (at_builtin;refine wpList_append_own_at _ rfl _ _ 54 rfl W.heap.size 5 i0 (.int .u8 0) 1 1 Tryz.underlying54 hi oH oG pQ rfl (by decide) _ _ _ rfl ((aa HO).alloc _) ⟨wr.heap.size,0,none⟩ 1 1 [.int .u8 (x:Int)] rfl rfl (kr _ _ _) (by simp[Value.oneCell']) (by have:=aa KY;unfold maxLen;omega) (by have:=aa KY;omega) (by rw[zJ];have:=aa sy;omega) ?_;intro v' w2 ho ej _ _;have CD:=aj (mU ho);have iL:=aj (((aa HB).alloc (aa HB).size _).grown ej (by rw[zJ];have:=aa sy;omega) (fun k e=>((aa HO).lt k e).1));clear ho ej)
    go_roundg (s.size-(i+1))
    case measure=>have:=aa gA;have:=aa dN;omega
    case rel=>exact ⟨i+1,bs++[x],by go_num,rfl,aa dN,by rw[zK];exact aa KY,CD,VU,iL⟩
   ·have f1:decide ((97:Int)≤(x:Int))=true:=by simp;omega
    have f2:decide ((x:Int)≤122)=false:=by simp;omega
    have f3:decide ((65:Int)≤(x:Int))=true:=by simp;omega
    have f4:decide ((x:Int)≤90)=false:=by simp;omega
    have f5:((x:Int)==95)=false:=by simp;omega
    have f6:decide ((48:Int)≤(x:Int))=true:=by simp;omega
    have f7:decide ((x:Int)≤57)=false:=by simp;omega
    clear cB
    go_wp2
    go_roundg (s.size-(i+1))
    case measure=>have:=aa gA;have:=aa dN;omega
    case rel=>exact ⟨i+1,bs,by go_num,rfl,aa dN,xQ,HO,HN,HB⟩
  ·have Ii:=nS (aa HO).has (aa HN).byt
   have Hc:=aj Ii
   by_cases h0:bs.length=0
   ·obtain rfl:=List.eq_nil_of_length_eq_zero h0
    clear h0 Ii
    have d30:decide (((0:Nat):Int)<30)=true:=by decide
    have cw:¬i<s.size:=fun q=>mO ⟨q,by decide⟩
    clear mO
    go_wp2
    go_ret
    exact ⟨⟨_,Mq,rfl⟩,aa HB⟩
   ·by_cases cw:i<s.size
    ·have d30:decide ((bs.length:Int)<30)=false:=by simp;omega
     clear mO Ii
     have FQ:=aa Hc
     go_wp2
     go_ret
     exact ⟨⟨_,(aa HN).ok (fun e=>h0 (by rw[e];rfl)) xQ,rfl⟩,aa HB⟩
    ·clear mO Ii
     have FQ:=aa Hc
     go_wp2
     go_ret
     exact ⟨⟨_,(aa HN).ok (fun e=>h0 (by rw[e];rfl)) xQ,rfl⟩,aa HB⟩
end Go.Proofs.YtmlphohdcejniaaGreatDoor
namespace Go.Proofs.YtmlphohdcejniaaGreatDoor
open Go.RowKit
abbrev Wd:=Int×ByteArray
def kt (t:Tk):Wd:=(t.kind,t.text)
structure St (s:aD) (l:List Wd) (b:Bool) (d o:Nat) (e:Tk):Prop where
 ts:s.ts.map kt=l
 bg:s.bg=b
 dc:s.dc=d
 op:s.op=o
 en:s.en=e∧e.kind=5
def rp {α:Type} (r:Except (Int×Int) (α×aD)) (v:α) (l:List Wd) (b:Bool) (d o:Nat) (e:Tk):Prop:=(4096<d∧∃p,r=.error (54,p))∨(d≤4096∧∃s',r=.ok (v,s')∧St s' l b d o e)
theorem St.here {s:aD}{w:Wd}{l:List Wd}{b:Bool}{d o:Nat}{e:Tk} (h:St s (w::l) b d o e):s.here.kind=w.1∧s.here.text=w.2∧s.ts.tail.map kt=l:=by
 have h1:=h.ts
 unfold aD.here
 cases Cx:s.ts with
 |nil=>rw[Cx] at h1;cases h1
 |cons t r =>
  rw[Cx] at h1
  rw[List.map_cons] at h1
  have h2:=(List.cons.inj h1).1
  have h3:=(List.cons.inj h1).2
  rw[←h2]
  exact ⟨rfl,rfl,h3⟩
theorem St.lK {s:aD}{b:Bool}{d o:Nat}{e:Tk} (h:St s [] b d o e):s.here.kind=5:=by
 have h1:=h.ts
 unfold aD.here
 cases Cx:s.ts with
 |nil=>rw[List.headD_nil,h.en.1];exact h.en.2
 |cons t r=>rw[Cx] at h1;cases h1
theorem St.len {s:aD}{l:List Wd}{b:Bool}{d o:Nat}{e:Tk} (h:St s l b d o e):s.ts.length=l.length:=by rw[←h.ts,List.length_map]
theorem St.begun {s:aD}{l:List Wd}{b:Bool}{d o:Nat}{e:Tk} (h:St s l b d o e):St s.begun l true d o e:=⟨h.ts,rfl,h.dc,h.op,h.en⟩
def bt (b:Bool):Nat:=if b=true then 1 else 0
theorem cN {s:aD}{w:Wd}{l:List Wd}{b:Bool}{d o:Nat}{e:Tk} (h:St s (w::l) b d o e) (hd:d≤4096):rp (bE s) () l false (d+bt b) o e:=by
 unfold bE bt
 by_cases hc:s.bg=true∧s.dc=4096
 ·rw[if_pos hc]
  rw[h.bg,h.dc] at hc
  rw[if_pos hc.1]
  exact .inl ⟨by omega,_,rfl⟩
 ·rw[if_neg hc]
  rw[h.bg,h.dc] at hc
  refine .inr ⟨?_,_,rfl,h.here.2.2,rfl,?_,h.op,h.en⟩
  ·cases b with
   |true =>
    have:¬d=4096:=fun q=>hc ⟨rfl,q⟩
    simp only[if_true]
    omega
   |false=>exact hd
  ·simp only
   rw[h.bg,h.dc]
   cases b<;>rfl
theorem MU {s:aD}{k:Int}{x:ByteArray}{l:List Wd}{b:Bool}{d o:Nat}{e:Tk} (h:St s ((k,x)::l) b d o e):cZ s.here k x=true:=by
 unfold cZ
 rw[h.here.1,h.here.2.1]
 simp
theorem fK {s:aD}{w:Wd}{k:Int}{x:ByteArray}{l:List Wd}{b:Bool}{d o:Nat}{e:Tk} (h:St s (w::l) b d o e) (hk:w.1≠k):cZ s.here k x=false:=by
 unfold cZ
 rw[h.here.1]
 simp[hk]
theorem qv {s:aD}{w:Wd}{k:Int}{x:ByteArray}{l:List Wd}{b:Bool}{d o:Nat}{e:Tk} (h:St s (w::l) b d o e) (hk:(w.2.toList==x.toList)=false):cZ s.here k x=false:=by
 unfold cZ
 rw[h.here.2.1,hk,Bool.and_false]
theorem dK {s:aD}{k:Int}{x:ByteArray}{l:List Wd}{b:Bool}{d o:Nat}{e:Tk} (h:St s ((k,x)::l) b d o e) (hd:d≤4096):rp (cx k x s) true l false (d+bt b) o e:=by
 unfold cx
 rw[if_pos (MU h)]
 rcases cN h hd with ⟨q1,p,q2⟩|⟨q1,s1,q2,q3⟩<;>rw[q2]
 ·exact .inl ⟨q1,p,rfl⟩
 ·exact .inr ⟨q1,s1,rfl,q3⟩
theorem iz {s:aD}{k:Int}{x:ByteArray} (h:cZ s.here k x=false):cx k x s=.ok (false,s):=by
 unfold cx
 rw[if_neg (by rw[h];simp)]
theorem cX {s:aD}{x:ByteArray}{l:List Wd}{b:Bool}{d o:Nat}{e:Tk} (h:St s ((4,x)::l) b d o e) (hd:d≤4096):rp (aV x s) () l false (d+bt b) o e:=by
 unfold aV
 rcases dK h hd with ⟨q1,p,q2⟩|⟨q1,s1,q2,q3⟩<;>rw[q2]
 ·exact .inl ⟨q1,p,rfl⟩
 ·exact .inr ⟨q1,s1,rfl,q3⟩
theorem xj {x:ByteArray} (h:aR x):ck x=0:=by
 unfold ck
 rw[if_neg (by have:=h.2.2;omega),if_pos h.1]
theorem eG {s:aD}{x:ByteArray}{l:List Wd}{b:Bool}{d o:Nat}{e:Tk} (h:St s ((1,x)::l) b d o e) (hx:aR x) (hd:d≤4096):rp (cy s) x l false (d+bt b) o e:=by
 unfold cy
 rw[if_pos h.here.1,h.here.2.1]
 simp only
 rw[if_pos (xj hx)]
 rcases cN h hd with ⟨q1,p,q2⟩|⟨q1,s1,q2,q3⟩<;>rw[q2]
 ·exact .inl ⟨q1,p,rfl⟩
 ·exact .inr ⟨q1,s1,rfl,q3⟩
theorem nK {s:aD}{ff:ByteArray→Int}{x y:ByteArray}{l:List Wd}{b:Bool}{d o:Nat}{e:Tk} (h:St s ((3,x)::l) b d o e) (hx:gh x=(y,0)) (hf:ff y=0) (hd:d≤4096):rp (bO ff s) y l false (d+bt b) o e:=by
 unfold bO
 rw[if_pos h.here.1,h.here.2.1]
 simp only
 rw[hx,if_pos rfl,if_pos hf]
 rcases cN h hd with ⟨q1,p,q2⟩|⟨q1,s1,q2,q3⟩<;>rw[q2]
 ·exact .inl ⟨q1,p,rfl⟩
 ·exact .inr ⟨q1,s1,rfl,q3⟩
theorem CU {s:aD}{lo hi:Int}{m:Bool}{x:ByteArray}{u v:Int}{l:List Wd}{b:Bool}{d o:Nat}{e:Tk} (h:St s ((2,x)::l) b d o e) (hx:jh x=(u,0)) (hv:(if m=true then -u else u)=v) (hr:lo≤v∧v≤hi) (hd:d≤4096):rp (lh lo hi m s) v l false (d+bt b) o e:=by
 unfold lh
 rw[if_pos h.here.1,h.here.2.1]
 simp only
 rw[hx,if_pos rfl]
 simp only
 rw[hv,if_neg (by omega)]
 rcases cN h hd with ⟨q1,p,q2⟩|⟨q1,s1,q2,q3⟩<;>rw[q2]
 ·exact .inl ⟨q1,p,rfl⟩
 ·exact .inr ⟨q1,s1,rfl,q3⟩
noncomputable def dO (n:Int):List Wd:=if n<0 then [(4,⟨#[45]⟩),(2,dec n.natAbs)] else [(2,dec n.natAbs)]
theorem bz:bt false=0:=rfl
theorem iQ {s:aD}{lo hi:Int}{mi:Bool}{v:Int}{l:List Wd}{b:Bool}{d o:Nat}{e:Tk} (h:St s (dO v++l) b d o e) (hr:lo≤v∧v≤hi) (hl:-2147483648≤v∧v≤2147483647) (hm:mi=true∨0≤v) (hd:d≤4096):rp (eh lo hi mi s) v l false (d+bt b) o e:=by
 unfold eh
 unfold dO at h
 by_cases hv:v<0
 ·rw[if_pos hv] at h
  rcases hm with rfl|hm
  ·rw[if_pos rfl]
   rcases dK h hd with ⟨q1,p,q2⟩|⟨q1,s1,q2,q3⟩<;>rw[q2]
   ·exact .inl ⟨q1,p,rfl⟩
   ·have:=CU (lo:=lo) (hi:=hi) (m:=true) q3 (Dw _ (by omega)) (show _=v by rw[if_pos rfl];omega) hr q1
    exact this
  ·omega
 ·rw[if_neg hv] at h
  have ht:(if mi=true then cx 4 ⟨#[45]⟩ s else .ok (false,s))=.ok (false,s):=by
   split
   ·exact iz (fK h (show (2:Int)≠4 by decide))
   ·rfl
  rw[ht]
  exact CU h (Dw _ (by omega)) (show _=v by rw[if_neg (by decide)];omega) hr hd
theorem qO {s:aD}{lo hi:Int}{mi:Bool}{v:Int}{l:List Wd}{b:Bool}{d o:Nat}{e:Tk} (h:St s ((4,⟨#[61]⟩)::(dO v++(4,⟨#[59]⟩)::l)) b d o e) (hr:lo≤v∧v≤hi) (hl:-2147483648≤v∧v≤2147483647) (hm:mi=true∨0≤v) (hd:d≤4096):rp (cG lo hi mi s) v l false (d+bt b) o e:=by
 unfold cG
 rcases cX h hd with ⟨q1,p,q2⟩|⟨q1,s1,q2,h1⟩<;>rw[q2]
 ·exact .inl ⟨q1,p,rfl⟩
 simp only
 rcases iQ h1 hr hl hm q1 with ⟨r1,p,r2⟩|⟨r1,s2,r2,h2⟩<;>rw[r2]<;>rw[bz] at r1
 ·exact .inl ⟨r1,p,rfl⟩
 rw[bz] at h2
 simp only
 rw[if_neg (by rw[qv h2 (show (ByteArray.toList ⟨#[59]⟩==ByteArray.toList ⟨#[91]⟩)=false by decide +kernel)];decide)]
 rcases cX h2 r1 with ⟨t1,p,t2⟩|⟨t1,s3,t2,h3⟩<;>rw[t2]<;>rw[bz] at t1
 ·exact .inl ⟨t1,p,rfl⟩
 ·exact .inr ⟨t1,s3,rfl,h3⟩
def bG:List ByteArray→List Wd
 |[]=>[]
 |x::r=>(4,⟨#[46]⟩)::(1,x)::bG r
def eX:List ByteArray→List UInt8
 |[]=>[]
 |x::r=>46::(x.data.toList++eX r)
def nf:List Wd→Prop
 |[]=>True
 |w::_=>(w.2.toList==ByteArray.toList ⟨#[46]⟩)=false∨w.1≠4
theorem Vz {s:aD}{l:List Wd}{b:Bool}{d o:Nat}{e:Tk} (h:St s l b d o e) (hn:nf l):cZ s.here 4 ⟨#[46]⟩=false:=by
 cases l with
 |nil =>
  unfold cZ
  rw[h.lK]
  rfl
 |cons w l =>
  rcases hn with hn|hn
  ·exact qv h hn
  ·exact fK h hn
theorem sS:∀(ps:List ByteArray) (f:Nat) (acc:List UInt8) (s:aD) (l:List Wd) (d o:Nat) (e:Tk),St s (bG ps++l) false d o e→nf l→(∀x ∈ ps,aR x)→d≤4096→s.ts.length<f→∃s',dP f acc s=.ok (acc++eX ps,s')∧St s' l false d o e
 |ps,0,_,_,_,_,_,_,_,_,_,_,hf=>by omega
 |[],f+1,acc,s,l,d,o,e,h,hn,_,hd,_=>by
  rw[dP,iz (Vz h hn)]
  exact ⟨s,by simp[eX],h⟩
 |x::r,f+1,acc,s,l,d,o,e,h,hn,hx,hd,hf=>by
  rw[dP]
  rcases dK h hd with ⟨q1,_⟩|⟨q1,s1,q2,h1⟩
  ·rw[bz] at q1;omega
  rw[q2]
  simp only
  rw[bz] at h1
  rcases eG (l:=bG r++l) h1 (hx x List.mem_cons_self) hd with ⟨r1,_⟩|⟨r1,s2,r2,h2⟩
  ·rw[bz] at r1;omega
  rw[r2]
  simp only
  have DS:=h.len
  have yL:=h2.len
  simp only[bG,List.cons_append,List.length_cons] at DS
  obtain ⟨s',k1,k2⟩:=sS r f ((acc++[46])++x.data.toList) s2 l d o e h2 hn (fun y hy=>hx y (zF _ hy)) hd (by omega)
  exact ⟨s',by rw[k1];simp[eX],k2⟩
def iu (ps:List ByteArray):ByteArray:=⟨(eX ps).toArray⟩
def ik (ps:List ByteArray):Prop:=ps≠[]∧(∀x ∈ ps,aR x)∧ps.length≤4
theorem sq:∀ps:List ByteArray,(∀x ∈ ps,aR x)→(eX ps).length≤31*ps.length
 |[],_=>Nat.zero_le _
 |x::r,h=>by
  have h1:=(h x List.mem_cons_self).2.2
  have h2:=sq r (fun y hy=>h y (zF _ hy))
  have h3:x.data.toList.length=x.size:=Array.length_toList
  simp only[eX,List.length_cons,zK]
  omega
theorem lJ:bt true=1:=rfl
theorem si {x:ByteArray}{ps:List ByteArray}{fs:Int}{a:List UInt8}{s:aD}{l:List Wd}{b:Bool}{d o:Nat}{e:Tk} (h:St s ((1,x)::(bG ps++l)) b d o e) (hn:nf l) (hx:∀y ∈ x::ps,aR y) (hl:ps.length≤3) (ha:a.length≤1) (hd:d≤4096):rp (fk fs a s) ⟨(a++x.data.toList++eX ps).toArray⟩ l false (d+bt b) o e:=by
 unfold fk
 rcases eG h (hx x List.mem_cons_self) hd with ⟨q1,p,q2⟩|⟨q1,s1,q2,h1⟩<;>rw[q2]
 ·exact .inl ⟨q1,p,rfl⟩
 simp only
 obtain ⟨s2,k1,k2⟩:=sS ps (s1.ts.length+1) (a++x.data.toList) s1 l _ o e h1 hn (fun y hy=>hx y (zF _ hy)) q1 (by omega)
 rw[k1]
 unfold sr
 have h2:=sq ps (fun y hy=>hx y (zF _ hy))
 have h3:x.data.toList.length=x.size:=Array.length_toList
 have h4:=(hx x List.mem_cons_self).2.2
 have hlen:¬255<(a++x.data.toList++eX ps).length:=by
  rw[zK,zK]
  omega
 simp only
 rw[if_neg hlen]
 exact .inr ⟨q1,s2,rfl,k2⟩
theorem gU {ps:List ByteArray}{s:aD}{l:List Wd}{b:Bool}{d o:Nat}{e:Tk} (h:St s (bG ps++l) b d o e) (hn:nf l) (hp:ik ps) (hd:d≤4096):rp (cA true s) (iu ps) l false (d+bt b) o e:=by
 obtain ⟨h0,h1,h2⟩:=hp
 cases ps with
 |nil=>exact absurd rfl h0
 |cons x r =>
  unfold cA
  rw[if_pos rfl]
  rcases dK (l:=(1,x)::(bG r++l)) h hd with ⟨q1,p,q2⟩|⟨q1,s1,q2,h3⟩<;>rw[q2]
  ·exact .inl ⟨q1,p,rfl⟩
  simp only
  rw[if_pos trivial]
  have:=si (fs:=s.here.spot) (a:=[46]) h3 hn h1 (by rw[List.length_cons] at h2;omega) (by simp) q1
  rw[bz] at this
  unfold iu eX
  exact this
def nh:List ByteArray→List Wd
 |[]=>[]
 |x::r=>(1,x)::bG r
def jB:List ByteArray→ByteArray
 |[]=>⟨#[]⟩
 |x::r=>⟨(x.data.toList++eX r).toArray⟩
theorem G7 {ps:List ByteArray}{s:aD}{l:List Wd}{b:Bool}{d o:Nat}{e:Tk} (h:St s (nh ps++l) b d o e) (hn:nf l) (hp:ik ps) (hd:d≤4096):rp (cA false s) (jB ps) l false (d+bt b) o e:=by
 obtain ⟨h0,h1,h2⟩:=hp
 cases ps with
 |nil=>exact absurd rfl h0
 |cons x r =>
  unfold cA
  rw[if_neg (by decide)]
  simp only
  rw[if_neg (by decide)]
  have:=si (fs:=s.here.spot) (a:=[]) h hn h1 (by rw[List.length_cons] at h2;omega) (by simp) hd
  unfold jB
  exact this
abbrev sg (c:UInt8):Wd:=(4,⟨#[c]⟩)
noncomputable def iY (x:ByteArray) (n:Int):List Wd:=(1,x)::sg 61::(dO n++[sg 59])
theorem Mk {f:Fd}{x:ByteArray}{n:Int}{s:aD}{l:List Wd}{d o:Nat}{e:Tk} (h:St s (iY x n++l) false d o e) (hx:aR x) (hn:0≤n∧n≤2147483647) (hd:d≤4096):rp (Dx f s) { f with name:=x,num:=n } l false d o e:=by
 unfold Dx
 have hh:St s ((1,x)::(4,⟨#[61]⟩)::(dO n++(4,⟨#[59]⟩)::l)) false d o e:=by
  have:iY x n++l=(1,x)::(4,⟨#[61]⟩)::(dO n++(4,⟨#[59]⟩)::l):=by simp[iY]
  rw[←this];exact h
 rcases eG hh hx hd with ⟨q1,p,q2⟩|⟨q1,s1,q2,h1⟩<;>rw[q2]<;>rw[bz] at q1
 ·exact .inl ⟨q1,p,rfl⟩
 simp only
 rw[bz] at h1
 rcases qO h1 hn (by omega) (.inr hn.1) hd with ⟨q1,p,q2⟩|⟨q1,s2,q2,h2⟩<;>rw[q2]<;>rw[bz] at q1
 ·exact .inl ⟨q1,p,rfl⟩
 ·exact .inr ⟨q1,s2,rfl,h2⟩
theorem AD {f:Fd}{ps:List ByteArray}{x:ByteArray}{n:Int}{s:aD}{l:List Wd}{b:Bool}{d o:Nat}{e:Tk} (h:St s (bG ps++(iY x n++l)) b d o e) (hp:ik ps) (hx:aR x) (hn:0≤n∧n≤2147483647) (hd:d≤4096):rp (fH f s) { f with ty:=iu ps,name:=x,num:=n } l false (d+bt b) o e:=by
 unfold fH
 rcases gU h (show nf (iY x n++l) from .inr (show (1:Int)≠4 by decide)) hp hd with ⟨q1,p,q2⟩|⟨q1,s1,q2,h1⟩<;>rw[q2]
 ·exact .inl ⟨q1,p,rfl⟩
 exact Mk h1 hx hn q1
theorem Ab {k:Int}{ps:List ByteArray}{x:ByteArray}{n:Int}{s:aD}{l:List Wd}{b:Bool}{d o:Nat}{e:Tk} (h:St s (bG ps++(iY x n++l)) b d o e) (hp:ik ps) (hx:aR x) (hn:0≤n∧n≤2147483647) (hd:d≤4096):rp (eN k s) ⟨1,⟨#[]⟩,iu ps,x,n,k⟩ l false (d+1) o e:=by
 unfold eN
 exact AD h.begun hp hx hn hd
theorem ox {ps:List ByteArray} (hp:ik ps):∃r,bG ps=sg 46::r:=by
 cases ps with
 |nil=>exact absurd rfl hp.1
 |cons x r=>exact ⟨_,rfl⟩
theorem BE {c:Int}{y:ByteArray}{ps:List ByteArray}{x:ByteArray}{n:Int}{s:aD}{l:List Wd}{b:Bool}{d o:Nat}{e:Tk} (h:St s ((1,y)::(bG ps++(iY x n++l))) b d o e) (hp:ik ps) (hx:aR x) (hn:0≤n∧n≤2147483647) (hd:d≤4096):rp (dh c s) ⟨c,⟨#[]⟩,iu ps,x,n,0⟩ l false (d+1) o e:=by
 unfold dh
 rcases cN h.begun hd with ⟨q1,p,q2⟩|⟨q1,s1,q2,h1⟩<;>rw[q2]
 ·exact .inl ⟨q1,p,rfl⟩
 simp only
 obtain ⟨r,hr⟩:=ox hp
 rw[if_neg (by
  have h2:=h1
  rw[hr] at h2
  rw[fK h2 (show (4:Int)≠1 by decide)];decide)]
 have:=AD (f:=⟨c,⟨#[]⟩,⟨#[]⟩,⟨#[]⟩,0,0⟩) h1 hp hx hn q1
 exact this
noncomputable def JL (ks ps:List ByteArray) (x:ByteArray) (n:Int):List Wd:=(1,⟨#[109,97,112]⟩)::sg 60::(bG ks++sg 44::(bG ps++sg 62::iY x n))
theorem QA {ks ps:List ByteArray}{x:ByteArray}{n:Int}{s:aD}{l:List Wd}{b:Bool}{d o:Nat}{e:Tk} (h:St s (JL ks ps x n++l) b d o e) (hk:ik ks) (hp:ik ps) (hx:aR x) (hn:0≤n∧n≤2147483647) (hd:d≤4096):rp (ca s) ⟨4,iu ks,iu ps,x,n,0⟩ l false (d+1) o e:=by
 have hh:St s ((1,⟨#[109,97,112]⟩)::(4,⟨#[60]⟩)::(bG ks++(4,⟨#[44]⟩)::(bG ps++(4,⟨#[62]⟩)::(iY x n++l)))) b d o e:=by
  have:JL ks ps x n++l=(1,⟨#[109,97,112]⟩)::(4,⟨#[60]⟩)::(bG ks++(4,⟨#[44]⟩)::(bG ps++(4,⟨#[62]⟩)::(iY x n++l))):=by simp[JL]
  rw[←this];exact h
 unfold ca
 have ha:cZ (s.ahead 1) 4 ⟨#[60]⟩=true:=by
  have h1:=hh.ts
  unfold aD.ahead
  match hs:s.ts with
  |[]=>rw[hs] at h1;cases h1
  |[t]=>rw[hs] at h1;cases (List.cons.inj h1).2
  |t::u::r =>
   rw[hs] at h1
   simp only[List.map_cons] at h1
   have h2:=(List.cons.inj (List.cons.inj h1).2).1
   unfold kt at h2
   have h3:=(Prod.mk.inj h2).1
   have h4:=(Prod.mk.inj h2).2
   show cZ u 4 ⟨#[60]⟩=true
   unfold cZ
   rw[h3,h4]
   simp
 rw[if_pos ha]
 unfold tj
 rcases cN hh.begun hd with ⟨q1,p,q2⟩|⟨q1,s1,q2,h1⟩<;>rw[q2]
 ·exact .inl ⟨q1,p,rfl⟩
 simp only
 rw[lJ] at q1 h1
 rcases cX h1 q1 with ⟨z1,p,z2⟩|⟨z1,s2,z2,h2⟩<;>rw[bz] at z1
 ·omega
 rw[z2]
 simp only
 rw[bz] at h2
 rcases gU h2 (show nf ((4,⟨#[44]⟩)::_) from .inl (by decide +kernel)) hk q1 with ⟨z1,p,z2⟩|⟨z1,s3,z2,h3⟩<;>rw[bz] at z1
 ·omega
 rw[z2]
 simp only
 rw[bz] at h3
 rcases cX h3 q1 with ⟨z1,p,z2⟩|⟨z1,s4,z2,h4⟩<;>rw[bz] at z1
 ·omega
 rw[z2]
 simp only
 rw[bz] at h4
 rcases gU h4 (show nf ((4,⟨#[62]⟩)::_) from .inl (by decide +kernel)) hp q1 with ⟨z1,p,z2⟩|⟨z1,s5,z2,h5⟩<;>rw[bz] at z1
 ·omega
 rw[z2]
 simp only
 rw[bz] at h5
 rcases cX h5 q1 with ⟨z1,p,z2⟩|⟨z1,s6,z2,h6⟩<;>rw[bz] at z1
 ·omega
 rw[z2]
 simp only
 rw[bz] at h6
 exact Mk h6 hx hn q1
theorem IZ {x:ByteArray}{n:Int}{s:aD}{l:List Wd}{b:Bool}{d o:Nat}{e:Tk} (h:St s (iY x n++l) b d o e) (hx:aR x) (hn:-2147483648≤n∧n≤2147483647) (hd:d≤4096):rp (gB s) (x,n) l false (d+1) o e:=by
 have hh:St s ((1,x)::(4,⟨#[61]⟩)::(dO n++(4,⟨#[59]⟩)::l)) b d o e:=by
  have:iY x n++l=(1,x)::(4,⟨#[61]⟩)::(dO n++(4,⟨#[59]⟩)::l):=by simp[iY]
  rw[←this];exact h
 unfold gB
 rcases eG hh.begun hx hd with ⟨q1,p,q2⟩|⟨q1,s1,q2,h1⟩<;>rw[q2]
 ·exact .inl ⟨q1,p,rfl⟩
 simp only
 rcases qO h1 hn hn (.inl rfl) q1 with ⟨z1,p,z2⟩|⟨z1,s2,z2,h2⟩<;>rw[z2]
 ·exact .inl ⟨z1,p,rfl⟩
 ·exact .inr ⟨z1,s2,rfl,h2⟩
noncomputable def oE (a c:Int):List Wd:=dO a++(if c≠a then (1,⟨#[116,111]⟩)::dO c else [])
theorem qo (n:Int):∃w r,dO n=w::r∧(w.1≠1∧w.1≠3∧w.1≠5):=by
 unfold dO
 split
 ·exact ⟨_,_,rfl,by decide,by decide,by decide⟩
 ·exact ⟨_,_,rfl,by show (2:Int)≠1;decide,by show (2:Int)≠3;decide,by show (2:Int)≠5;decide⟩
theorem Qg {lo hi a c:Int}{mi:Bool}{s:aD}{l:List Wd}{b:Bool}{d o:Nat}{e:Tk} (h:St s (oE a c++sg 59::l) b d o e) (ha:lo≤a∧a≤c∧c≤hi) (hl:-2147483648≤lo∧hi≤2147483647) (hm:mi=true∨0≤lo) (hd:d≤4096):rp (jd lo hi mi s) (a,c) (sg 59::l) false (d+1) o e:=by
 unfold jd
 unfold oE at h
 rw[List.append_assoc] at h
 have SO:mi=true∨0≤a:=hm.imp id (fun q=>by omega)
 rcases iQ h.begun (show lo≤a∧a≤hi by omega) (by omega) SO hd with ⟨q1,p,q2⟩|⟨q1,s1,q2,h1⟩<;>rw[q2]
 ·exact .inl ⟨q1,p,rfl⟩
 simp only
 by_cases hc:c≠a
 ·rw[if_pos hc] at h1
  rcases dK h1 q1 with ⟨z1,p,z2⟩|⟨z1,s2,z2,h2⟩<;>rw[bz] at z1
  ·rw[lJ] at q1;rw[lJ] at z1;omega
  rw[z2]
  simp only
  obtain ⟨w,r,hw,hwk,_⟩:=qo c
  have h3:=h2
  rw[hw] at h3
  rw[iz (fK h3 hwk)]
  simp only
  have QP:mi=true∨0≤c:=hm.imp id (fun q=>by omega)
  rcases iQ h2 (show a≤c∧c≤hi by omega) (by omega) QP (by rw[bz];exact q1) with ⟨z1,p,z2⟩|⟨z1,s4,z2,h4⟩<;>rw[z2]
  ·exact .inl ⟨z1,p,rfl⟩
  ·exact .inr ⟨z1,s4,rfl,h4⟩
 ·rw[if_neg hc] at h1
  have e1:c=a:=by omega
  subst e1
  rw[iz (fK h1 (show (4:Int)≠1 by decide))]
  exact .inr ⟨q1,s1,rfl,h1⟩
end Go.Proofs.YtmlphohdcejniaaGreatDoor

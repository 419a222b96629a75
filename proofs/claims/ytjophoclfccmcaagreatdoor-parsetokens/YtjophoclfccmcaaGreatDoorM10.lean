import Derived.Test.YtjophoclfccmcaaGreatDoorM07
import Derived.Test.YtjophoclfccmcaaGreatDoorQX2
import Derived.Shelf.Vars
import Derived.Test.YtjophoclfccmcaaGreatDoorRows
import Derived.ProofKit
import Derived.OpenShut
import Derived.ShutString
import Derived.SizedLaws
import Derived.SliceStrings
import Derived.ArgAppend
import Derived.Deep.DeepAppendRoom
set_option maxHeartbeats 4000000
set_option maxRecDepth 100000
namespace Go.Proofs.YtjophoclfccmcaaGreatDoor
open Go.RowKit Go.Lib
attribute [local go_sem ↓] Go.wp_at_zero Go.wp_at_succ
theorem Bu {s:ByteArray}{k x:Nat} (hb:aE s k=x) (h0:¬x=0) (h1:¬x=10) (h2:¬x=92):dG s k=some (x,1):=by
 unfold dG
 rw[hb,if_neg (fun o=>o.elim h0 h1),if_neg h2]
theorem Dy {s:ByteArray}{k x:Nat} (hb:aE s k=x) (h:x=0∨x=10):dG s k=none:=by
 unfold dG
 rw[hb,if_pos h]
theorem Dx {s:ByteArray}{k:Nat} (hb:aE s k=92):dG s k=dU ((aI s).drop k):=by
 unfold dG
 rw[hb,if_neg (by decide),if_pos rfl]
theorem Bytes.drew {base:Nat}{W:World}{v:Value}{l:List Nat} (h:Bytes base W v l) (n:Nat):Bytes base (W.drewN n) v l:=h
theorem CW (W:World) (s:ByteArray) (CI:Nat) (ha:CI<s.size) (hs:s.size≤65536):Calls Tryz.prog 53 #[.string s,.int .i64 (CI:Int)] W (UQ W (fA s (aE s CI) (CI+1))):=by
 obtain ⟨i0,hi,zy,zx,jK⟩:=info_parts Tryz.infoByte
 have eK:=zE W.heap.size W
 obtain ⟨q,hq,lG,gq⟩:=cS s CI ha
 have Qs:aE s CI=q:=(fb s CI ha).trans gq
 rw[Qs]
 have a0:(0:Int)≤(CI:Int):=zH _
 have a1:(CI:Int)<(s.size:Int):=by omega
 have Hy0:Hid (Bytes W.heap.size W (.slice none 0 0) []):=Ba _ _
 clear hq Qs
 go_enter Tryz.func53,Tryz.ntmps53
 go_wp2
 go_loopg [7,8,9,10,11] (s.size-(CI+1)) (fun gk v7 v8 _ _ _ wr=>∃(k:Nat) (pre:List Nat) (va:Option Addr) (vn vc:Nat),v7=.slice va vn vc∧v8=.int .i64 (k:Int)∧gk=s.size-k∧k≤s.size∧pre.length≤k∧Hid (Bytes W.heap.size wr (.slice va vn vc) pre)∧Hid (fA s q (CI+1)=(fA s q k).map fun r=>(pre++r.1,r.2))∧Hid (Below W.heap.size W wr))
 case atStart=>exact ⟨CI+1,[],_,_,_,rfl,by go_num,rfl,by omega,by simp,Hy0,by show _=_;simp,eK⟩
 case round =>
  obtain ⟨k,pre,va,vn,vc,rfl,rfl,eG,hk,hpl,HY,Hu,HB⟩:=hrel
  have jw:=ab eG
  clear eG Hy0 gq
  by_cases dB:k<s.size
  ·obtain ⟨x,hx⟩:∃x:Nat,s[k].toNat=x:=⟨_,rfl⟩
   have oU:aE s k=x:=(fb s k dB).trans hx
   have eL:x<256:=by rw[←oU];exact iD s k
   have k0:(0:Int)≤(k:Int):=zH _
   have k1:(k:Int)<(s.size:Int):=by omega
   have GX:=ab oU
   have sM:W.heap.size≤wr.heap.size:=(aa HB).size
   have O1:Hid (pre.length+1≤maxLen):=by show _≤_;unfold maxLen;omega
   have O2:Hid ((pre.length+1)*1≤140737488355328):=by show _≤_;omega
   clear oU
   by_cases FZ:x=q
   ·have Hr:Hid (fA s q (CI+1)=some (pre,k+1)):=by
     show _=_
     rw[aa Hu,nN dB ((aa GX).trans FZ)]
     simp
    have fq:((x:Int) != (q:Int))=false:=by simp;omega
    have kn:decide (s.size≤k)=false:=by simp;omega
    clear Hu FZ
    go_wp2
    go_ret2
    exact L1 (n:=k+1) (aa HB) (aa Hr) (aa HY)
   ·have fq:((x:Int) != (q:Int))=true:=by simp;omega
    have dV:¬aE s k=q:=by rw[aa GX];exact FZ
    by_cases c0:x=0∨x=10
    ·have Hr:Hid (fA s q (CI+1)=none):=by
      show _=_
      rw[aa Hu,sn dB dV (Dy (aa GX) c0)]
      rfl
     clear Hu FZ dV
     rcases c0 with c0|c0
     ·have f0:=nn (c:=x) (k:=0) (by omega)
      clear c0
      go_wp2
      go_ret2
      exact tA (aa HB) (aa Hr)
     ·have f0:=kL (c:=x) (k:=0) (by omega)
      have f1:=nn (c:=x) (k:=10) (by omega)
      clear c0
      go_wp2
      go_ret2
      exact tA (aa HB) (aa Hr)
    ·obtain ⟨c0,c1⟩:=not_or.1 c0
     have f0:=kL (c:=x) (k:=0) (by omega)
     have f1:=kL (c:=x) (k:=10) (by omega)
     by_cases c2:x=92
     ·have f2:((x:Int) != 92)=false:=by simp;omega
      have Zx:=Dx ((aa GX).trans c2)
      have Hpe:=ab Zx
      have Uc:=ab dV
      clear Zx dV FZ c0 c1 c2
      go_wp2_with fail
      refine (CZ wr s k dB hs).mono ?_
      rintro e w2 ⟨br,⟨ho,rfl⟩|⟨b,n,ho,rfl⟩⟩
      ·have Hr:Hid (fA s q (CI+1)=none):=by
        show _=_
        rw[aa Hu,sn dB (aa Uc) ((aa Hpe).trans ho)]
        rfl
       have jm:Hid (Below W.heap.size W w2):=(aa HB).trans (br.mono (aa HB).size)
       clear ho br Hu
       go_wp2
       go_ret2
       exact tA (aa jm) (aa Hr)
      ·obtain ⟨p1,p2,p3⟩:=jG ((aa Hpe).trans ho) dB
       have Hr:Hid (fA s q (CI+1)=(fA s q (k+n)).map fun r=>((pre++[b])++r.1,r.2)):=by
        show _=_
        rw[aa Hu,oR dB (aa Uc) ((aa Hpe).trans ho),Option.map_map]
        congr 1
        funext r
        simp
       have jm:Hid (Below W.heap.size W w2):=(aa HB).trans (br.mono (aa HB).size)
       have HY2:Hid (Bytes W.heap.size w2 (.slice va vn vc) pre):=(aa HY).up br
       have F1:W.heap.size≤w2.heap.size:=(aa jm).size
       have n0:((n:Int)==0)=false:=by simp;omega
       clear ho br Hu HY HB
       go_wp2_with (at_builtin;refine wpList_append_own_at _ rfl _ _ 94 rfl W.heap.size 5 i0 (.int .u8 0) 1 1 Tryz.underlying94 hi zy zx jK rfl (by decide) _ _ _ rfl ((aa HY2).alloc _) ⟨w2.heap.size,0,none⟩ 1 1 [.int .u8 (b:Int)] rfl rfl (df _ _ _) (by simp[Value.oneCell']) (aa O1) (aa O2) (by rw[zJ];omega) ?_;intro v4 w4 gz eM _ mG;have HP:Hid (SQ W.heap.size w2 (.slice va vn vc) pre [b] (.returned v4) w4):=yd (ys:=[b]) gz rfl rfl eM mG;clear gz eM mG)
       obtain ⟨v5,nD,BY,DX⟩:=aa HP
       obtain rfl:v4=v5:=by simpa using nD
       obtain ⟨va',vn',vc',rfl⟩:=BY.shape
       have Us:Hid (Below W.heap.size W w4):=(aa jm).trans (DX.below F1 (aa HY2).Cu)
       have HY3:=ab BY
       clear BY DX nD HP
       go_roundg (s.size-(k+n))
       case measure=>have:=aa jw;omega
       case rel=>exact ⟨k+n,pre++[b],_,_,_,rfl,by go_num,rfl,by omega,by simp only[zK,List.length_singleton];omega,HY3,Hr,Us⟩
     ·have f2:((x:Int) != 92)=true:=by simp;omega
      have Hr:Hid (fA s q (CI+1)=(fA s q (k+1)).map fun r=>((pre++[x])++r.1,r.2)):=by
       show _=_
       rw[aa Hu,oR dB dV (Bu (aa GX) c0 c1 c2),Option.map_map]
       congr 1
       funext r
       simp
      clear Hu FZ dV c0 c1 c2
      go_wp2_with (at_builtin;refine wpList_append_own_at _ rfl _ _ 94 rfl W.heap.size 5 i0 (.int .u8 0) 1 1 Tryz.underlying94 hi zy zx jK rfl (by decide) _ _ _ rfl ((aa HY).alloc _) ⟨wr.heap.size,0,none⟩ 1 1 [.int .u8 (x:Int)] rfl rfl (df _ _ _) (by simp[Value.oneCell']) (aa O1) (aa O2) (by rw[zJ];omega) ?_;intro v4 w4 gz eM _ mG;have HP:Hid (SQ W.heap.size wr (.slice va vn vc) pre [x] (.returned v4) w4):=yd (ys:=[x]) gz rfl rfl eM mG;clear gz eM mG)
      obtain ⟨v5,nD,BY,DX⟩:=aa HP
      obtain rfl:v4=v5:=by simpa using nD
      obtain ⟨va',vn',vc',rfl⟩:=BY.shape
      have Us:Hid (Below W.heap.size W w4):=(aa HB).trans (DX.below sM (aa HY).Cu)
      have HY3:=ab BY
      clear BY DX nD HP
      go_roundg (s.size-(k+1))
      case measure=>have:=aa jw;omega
      case rel=>exact ⟨k+1,pre++[x],_,_,_,rfl,by go_num,rfl,by omega,by simp only[zK,List.length_singleton];omega,HY3,Hr,Us⟩
  ·have Hr:Hid (fA s q (CI+1)=none):=by
    show _=_
    rw[aa Hu,nO dB]
    rfl
   obtain rfl:k=s.size:=by omega
   clear Hu
   go_wp2
   go_ret2
   exact tA (aa HB) (aa Hr)
theorem Jz (W:World) (s:ByteArray) (hs:s.size≤140737488351232) :
  Calls Tryz.prog 27 #[.string s] W fun e w=>e=.returned (.int .i64 (cQ s 0))∧w=W:=by
 go_enter Tryz.func27,Tryz.ntmps27
 go_wp2
 go_loopg [3,4] s.size (fun gk v3 _ wr=>∃(k:Nat),v3=.int .i64 (k:Int)∧gk=s.size-k∧k≤s.size∧wr=W∧Hid (cQ s 0=cQ s k))
 case atStart=>exact ⟨0,rfl,rfl,by omega,rfl,rfl⟩
 case round =>
  obtain ⟨k,rfl,eG,hk,rfl,Hu⟩:=hrel
  have jw:=ab eG
  clear eG
  by_cases dB:k<s.size
  ·go_wp2_with fail
   refine (Gn wr s k dB hs).mono ?_
   rintro e w2 ⟨rfl,he⟩
   obtain rfl:wr=w2:=he.symm
   obtain ⟨q1,q2⟩:=Jd s k hk
   by_cases h0:iI s k=0
   ·have Hr:Hid (cQ s 0=(k:Int)):=(aa Hu).trans (G9 dB h0)
    rw[h0]
    clear h0 q1 q2
    go_wp2
    go_ret
    exact ⟨by rw[aa Hr];rfl,rfl⟩
   ·have Hr:Hid (cQ s 0=cQ s (k+iI s k)):=(aa Hu).trans (C6 dB h0)
    obtain ⟨n,hn⟩:∃n,n=iI s k:=⟨_,rfl⟩
    rw[←hn] at h0 q1 q2 Hr ⊢
    have n0:((n:Int)==0)=false:=by simp;omega
    clear hn
    go_wp2
    go_roundg (s.size-(k+n))
    case measure=>have:=aa jw;omega
    case rel=>exact ⟨k+n,by go_num,rfl,by omega,rfl,Hr⟩
  ·have Hr:Hid (cQ s 0=-1):=(aa Hu).trans (G8 dB)
   obtain rfl:k=s.size:=by omega
   go_wp2
   go_ret
   exact ⟨by rw[aa Hr];rfl,rfl⟩
end Go.Proofs.YtjophoclfccmcaaGreatDoor
namespace Go.Proofs.YtjophoclfccmcaaGreatDoor
open Go.RowKit
attribute [local go_sem ↓] Go.wp_at_zero Go.wp_at_succ
def tf (W:World) (v:Value) (ts:List Tok):Prop:=∃(a:Option Addr) (c:Nat),v=.slice a ts.length c∧ts.length≤c∧(0<ts.length→∃g,a=some ⟨g,0,none⟩∧g<W.heap.size∧∀i t,ts[i]?=some t→W.cell? ⟨g,i*3,none⟩=some (.int .i64 (t.kind:Int))∧W.cell? ⟨g,i*3+1,none⟩=some (.int .i64 (t.place:Int))∧W.cell? ⟨g,i*3+2,none⟩=some (.string t.text))
theorem yP (W:World):tf W (.slice none 0 0) []:=⟨none,0,rfl,zD _,fun h=>by simp at h⟩
theorem tf.up {W w:World}{v:Value}{ts:List Tok} (h:tf W v ts) (hb:Below W.heap.size W w):tf w v ts:=by
 obtain ⟨a,c,rfl,hc,h3⟩:=h
 refine ⟨a,c,rfl,hc,fun hp=>?_⟩
 obtain ⟨g,rfl,h4,h5⟩:=h3 hp
 exact ⟨g,rfl,Nat.lt_of_lt_of_le h4 hb.size,fun i t ht=>⟨(hb.cell (p:=⟨g,i*3,none⟩) h4).trans (h5 i t ht).1,(hb.cell (p:=⟨g,i*3+1,none⟩) h4).trans (h5 i t ht).2.1,(hb.cell (p:=⟨g,i*3+2,none⟩) h4).trans (h5 i t ht).2.2⟩⟩
theorem Az:∀(ts:List Tok) (i:Nat) (t:Tok),ts[i]?=some t→(fp ts)[i*3]?=some (.int .i64 (t.kind:Int))∧(fp ts)[i*3+1]?=some (.int .i64 (t.place:Int))∧(fp ts)[i*3+2]?=some (.string t.text)
 |[],i,t,h=>by simp at h
 |x::r,0,t,h=>by
  obtain rfl:x=t:=by simpa using h
  exact ⟨rfl,rfl,rfl⟩
 |x::r,i+1,t,h=>by
  have:=Az r i t (by simpa using h)
  rw[show (i+1)*3=i*3+3 by omega]
  exact this
theorem KG {W:World}{B:Nat}{v:Value}{ts:List Tok} (h:W.ownsRow B 38 3 v ts.length (fp ts)):tf W v ts:=by
 obtain ⟨h1,⟨rfl,h0⟩|⟨g,c,cur,rfl,h2,h3,h4,h5,h6,h7⟩⟩:=h
 ·obtain rfl:=List.eq_nil_of_length_eq_zero h0
  exact yP W
 ·refine ⟨_,c,rfl,h4,fun hp=>⟨g,rfl,(zA h3).1,fun i t ht=>?_⟩⟩
  have fg:∀(j:Nat) (u:Value),(fp ts)[j]?=some u→W.cell? ⟨g,j,none⟩=some u:=fun j u hj=>by
   rw[cell_of_row _ _ _ _ _ _ h3,←Array.getElem?_toList]
   rw[←h7,List.getElem?_take] at hj
   split at hj
   ·exact hj
   ·cases hj
  obtain ⟨e1,e2,e3⟩:=Az ts i t ht
  exact ⟨fg _ _ e1,fg _ _ e2,fg _ _ e3⟩
theorem WB.ret {s:ByteArray}{W w:World}{e:Ending} (h:WB s W e w):∃(v:Value) (k c:Nat) (ts:List Tok),e=.returned (.tuple #[v,.int .i64 (k:Int),.int .i64 (c:Int)])∧tf w v ts∧((c=0∧k=0∧nC s=.inl ts)∨(c≠0∧ts=[]∧v=.slice none 0 0∧nC s=.inr (k,c))):=by
 obtain ⟨_,h2⟩:=h
 cases ht:nC s with
 |inl ts =>
  rw[ht] at h2
  obtain ⟨v,rfl,h3⟩:=h2
  exact ⟨v,0,0,ts,rfl,KG h3,.inl ⟨rfl,rfl,rfl⟩⟩
 |inr p =>
  obtain ⟨k,c⟩:=p
  rw[ht] at h2
  obtain ⟨hc,rfl⟩:=h2
  exact ⟨_,k,c,[],rfl,yP w,.inr ⟨hc,rfl,rfl,rfl⟩⟩
theorem Mb (s:ByteArray):∀(f k n:Nat) (ts:List Tok),n≤16383→mo s f k n=.inl ts→n+ts.length≤16384:=by
 intro f
 induction f with
 |zero=>intro k n ts _ h;cases h
 |succ f ih =>
  intro k n ts hn h
  rw[mo] at h
  split at h
  ·cases h
  ·split at h
   ·have:=Sum.inl.inj h
    rw[←this]
    simp
    omega
   ·split at h
    ·cases h
    ·split at h
     ·cases hr:mo s f (gQ s (bW s s.size k).1).2.1 (n+1) with
      |inl l =>
       rw[hr] at h
       have:=Sum.inl.inj h
       have h2:=ih _ _ l (by omega) hr
       rw[←this,List.length_cons]
       omega
      |inr e=>rw[hr] at h;cases h
     ·cases h
theorem L9 {s:ByteArray}{ts:List Tok} (h:nC s=.inl ts):ts.length≤16384:=by
 unfold nC at h
 split at h
 ·cases h
 ·split at h
  ·cases h
  ·have:=Mb s _ 0 0 ts (by omega) h
   omega
theorem Sb {W:World} (h:W.ShapedOpen Tryz.prog):oO W:=by
 obtain ⟨m,hm⟩:=cell_of_shapedOpen_int (P:=Tryz.prog) (g:=1) (t:=3) (zero:=#[.int .i64 0]) h (of_decide_eq_true (by kernel_rfl)) (by kernel_rfl) rfl (by kernel_rfl) (by kernel_rfl) Tryz.underlying3
 exact ⟨World.block_lt_of_cell? W _ hm,m,hm⟩
end Go.Proofs.YtjophoclfccmcaaGreatDoor
namespace Go.Proofs.YtjophoclfccmcaaGreatDoor
open Go.ChangeShapes Go.WideShapes Go.ChangeAt Go.RowKit
def WJ (W:World) (v:Value) (l:List ByteArray):Prop:=∃a c,v=.slice a l.length c∧(l.length≤c∧c≤maxLen∧(a=none→c=0))∧(0<l.length→∃g off,a=some ⟨g,off,none⟩∧g<W.heap.size∧∀i s,l[i]?=some s→W.cell? ⟨g,off+i,none⟩=some (.string s))
theorem WJ.up {W w:World}{v:Value}{l:List ByteArray} (h:WJ W v l) (hb:Below W.heap.size W w):WJ w v l:=by
 obtain ⟨a,c,rfl,hm,h3⟩:=h
 refine ⟨a,c,rfl,hm,fun hp=>?_⟩
 obtain ⟨g,off,rfl,h4,h5⟩:=h3 hp
 exact ⟨g,off,rfl,Nat.lt_of_lt_of_le h4 hb.size,fun i k hk=>(hb.cell (p:=⟨g,off+i,none⟩) h4).trans (h5 i k hk)⟩
theorem GL:Tryz.prog.cellsOf 9=1:=by kernel_rfl
end Go.Proofs.YtjophoclfccmcaaGreatDoor
namespace Go.Proofs.YtjophoclfccmcaaGreatDoor
open Go.RowKit Go.Lib
end Go.Proofs.YtjophoclfccmcaaGreatDoor
namespace Go.Proofs.YtjophoclfccmcaaGreatDoor
open Go.RowKit
attribute [local go_sem ↓] Go.wp_at_zero Go.wp_at_succ
end Go.Proofs.YtjophoclfccmcaaGreatDoor
namespace Go.Proofs.YtjophoclfccmcaaGreatDoor
open Go.RowKit
structure Tk where
 kind:Int
 spot:Int
 text:ByteArray
def Tk.cells (t:Tk):List Value:=[.int .i64 t.kind,.int .i64 t.spot,.string t.text]
def cI:List Tk→List Value
 |[]=>[]
 |t::r=>.int .i64 t.kind::.int .i64 t.spot::.string t.text::cI r
theorem dK:∀l:List Tk,(cI l).length=l.length*3
 |[]=>rfl
 |t::r=>by
  have:=dK r
  simp only[cI,List.length_cons,this]
  omega
theorem nh:∀a b:List Tk,cI (a++b)=cI a++cI b
 |[],b=>rfl
 |t::r,b=>by simp only[List.cons_append,cI,nh r b]
theorem oT:∀(l:List Tk) (i:Nat) (t:Tk),l[i]?=some t→(cI l)[i*3]?=some (.int .i64 t.kind)∧(cI l)[i*3+1]?=some (.int .i64 t.spot)∧(cI l)[i*3+2]?=some (.string t.text)
 |[],i,t,h=>by simp at h
 |x::r,0,t,h=>by
  obtain rfl:x=t:=by simpa using h
  exact ⟨rfl,rfl,rfl⟩
 |x::r,i+1,t,h=>by
  have:=oT r i t (by simpa using h)
  rw[show (i+1)*3=i*3+3 by omega]
  exact this
theorem yE:∀(l:List Tk),∀u ∈ cI l,u.oneCell'=true
 |[],u,h=>by simp[cI] at h
 |x::r,u,h=>by
  simp only[cI,List.mem_cons] at h
  rcases h with rfl|rfl|rfl|h
  ·rfl
  ·rfl
  ·rfl
  ·exact yE r u h
theorem yD:∀(l:List Tk) (i:Nat) (t:Tk),cI (l.set i t)=(((cI l).set (i*3) (.int .i64 t.kind)).set (i*3+1) (.int .i64 t.spot)).set (i*3+2) (.string t.text)
 |[],i,t=>by simp[cI]
 |x::r,0,t=>rfl
 |x::r,i+1,t=>by
  rw[zN,show (i+1)*3=i*3+3 by omega]
  simp only[cI,yD r i t]
  rfl
def Tok.tk (t:Tok):Tk:=⟨(t.kind:Int),(t.place:Int),t.text⟩
theorem Ay:∀ts:List Tok,fp ts=cI (ts.map Tok.tk)
 |[]=>rfl
 |t::r=>by
  have:=Ay r
  simp only[List.map_cons,cI,←this]
  rfl
def eS (bs:Nat) (W:World) (v:Value) (l:List Tk):Prop:=W.ownsRow bs 38 3 v l.length (cI l)
theorem eS.cap {bs:Nat}{W:World}{a:Option Addr}{n c:Nat}{l:List Tk} (h:eS bs W (.slice a n c) l):n=l.length∧l.length≤c:=by
 rcases h.2 with ⟨e,h0⟩|⟨g,cap,_,e,_,_,h4,_⟩
 ·cases e
  exact ⟨h0.symm,by omega⟩
 ·cases e
  exact ⟨rfl,h4⟩
theorem eS.at' {bs:Nat}{W:World}{g n c:Nat}{l:List Tk} (h:eS bs W (.slice (some ⟨g,0,none⟩) n c) l) {j:Nat}{u:Value} (hj:(cI l)[j]?=some u):W.cell? ⟨g,j,none⟩=some u:=by
 obtain ⟨rfl,_⟩:=h.cap
 rw[World.ownsRow.cellAt h j (by rw[←dK];exact (zB hj).1),hj]
theorem eS.cell {bs:Nat}{W:World}{g n c:Nat}{l:List Tk} (h:eS bs W (.slice (some ⟨g,0,none⟩) n c) l) {i:Nat}{t:Tk} (hi:l[i]?=some t) :
  W.cell? ⟨g,i*3,none⟩=some (.int .i64 t.kind)∧W.cell? ⟨g,i*3+1,none⟩=some (.int .i64 t.spot)∧W.cell? ⟨g,i*3+2,none⟩=some (.string t.text):=by
 obtain ⟨a,b,c'⟩:=oT l i t hi
 exact ⟨h.at' a,h.at' b,h.at' c'⟩
theorem eS.frozenAt {bs:Nat}{W:World}{g n c:Nat}{l:List Tk} (h:eS bs W (.slice (some ⟨g,0,none⟩) n c) l) (j:Nat):W.frozen? ⟨g,j,none⟩=false:=by
 obtain ⟨rfl,_⟩:=h.cap
 exact World.ownsRow.frozenAt h j
theorem eS.lt {bs:Nat}{W:World}{g n c:Nat}{l:List Tk} (h:eS bs W (.slice (some ⟨g,0,none⟩) n c) l):bs≤g∧g<W.heap.size:=World.ownsRow.lt h g rfl
theorem eS.set {bs:Nat}{W:World}{g n c:Nat}{l:List Tk} (h:eS bs W (.slice (some ⟨g,0,none⟩) n c) l) (i:Nat) (t:Tk) :
  eS bs (((W.setCell ⟨g,i*3,none⟩ (.int .i64 t.kind)).setCell ⟨g,i*3+1,none⟩ (.int .i64 t.spot)).setCell ⟨g,i*3+2,none⟩ (.string t.text)) (.slice (some ⟨g,0,none⟩) n c) (l.set i t) ∧
   W.grownBy (((W.setCell ⟨g,i*3,none⟩ (.int .i64 t.kind)).setCell ⟨g,i*3+1,none⟩ (.int .i64 t.spot)).setCell ⟨g,i*3+2,none⟩ (.string t.text)) (some g):=by
 obtain ⟨rfl,_⟩:=h.cap
 obtain ⟨h1,g1⟩:=World.ownsRow.stored h (i*3) (.int .i64 t.kind)
 obtain ⟨h2,g2⟩:=World.ownsRow.stored h1 (i*3+1) (.int .i64 t.spot)
 obtain ⟨h3,g3⟩:=World.ownsRow.stored h2 (i*3+2) (.string t.text)
 refine ⟨?_,(g1.trans g2).trans g3⟩
 unfold eS
 rw[yD,List.length_set]
 exact h3
theorem eS.kept {bs:Nat}{W W':World}{v:Value}{l:List Tk} (h:eS bs W v l) {row:Option Nat} (hg:W.grownBy W' row) (dV:v.ownBlock=none∨v.ownBlock≠row):eS bs W' v l:=World.ownsRow.kept h hg dV
theorem FG {bs:Nat}{W w:World}{e size n:Nat}{v:Value}{xs:List Value} (h:W.ownsRow bs e size v n xs) (hb:Below W.heap.size W w):w.ownsRow bs e size v n xs:=by
 refine ⟨h.1,?_⟩
 rcases h.2 with h1|⟨g',cap,cur,e,bQ,hc,rest⟩
 ·exact .inl h1
 ·refine .inr ⟨g',cap,cur,e,bQ,?_,rest⟩
  rw[hb.block g' (zA hc).1]
  exact hc
theorem kr {W:World}{bs bs' e size n:Nat}{v:Value}{xs:List Value} (h:W.ownsRow bs e size v n xs) (hb:bs'≤bs):W.ownsRow bs' e size v n xs:=by
 refine ⟨h.1,?_⟩
 rcases h.2 with h1|⟨g',cap,cur,e,bQ,rest⟩
 ·exact .inl h1
 ·exact .inr ⟨g',cap,cur,e,Nat.le_trans hb bQ,rest⟩
theorem eS.up {bs:Nat}{W w:World}{v:Value}{l:List Tk} (h:eS bs W v l) (hb:Below W.heap.size W w):eS bs w v l:=FG h hb
theorem eS.mono {bs bs':Nat}{W:World}{v:Value}{l:List Tk} (h:eS bs W v l) (hb:bs'≤bs):eS bs' W v l:=kr h hb
section
variable {P : Program}
end
end Go.Proofs.YtjophoclfccmcaaGreatDoor

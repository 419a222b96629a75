import Derived.Test.YtmlphohdcejniaaGreatDoorQE
import Derived.Lib.AppendStr
set_option maxHeartbeats 2000000
set_option maxRecDepth 100000
namespace Go.Proofs.YtmlphohdcejniaaGreatDoor
open Go.RowKit
attribute [local go_sem ↓] Go.wp_at_zero Go.wp_at_succ
theorem pJ {c:Nat}{k:Int} (h:(c:Int)=k):((c:Int)==k)=true:=by simp;omega
theorem LF {s:ByteArray} (h:2≤s.size):∃a x r,aH s=a::x::r∧x<256∧∃h1:1<s.size,(s[1]'h1).toNat=x:=by
 obtain ⟨a,ha,_,_⟩:=iV s 0 (by omega)
 obtain ⟨x,hx,fO,gx⟩:=iV s 1 (by omega)
 match hs:aH s with
 |[]=>rw[hs] at ha;simp at ha
 |[_]=>rw[hs] at hx;simp at hx
 |p::q::r =>
  rw[hs] at hx
  obtain rfl:q=x:=by simpa using hx
  exact ⟨p,q,r,rfl,fO,by omega,gx⟩
theorem fC {a x v:Nat}{r:List Nat} (h:xo x=some v):fP (a::x::r)=some (v,2):=by simp[fP,h]
theorem Eb {a x:Nat}{r:List Nat} (h:xo x=none) (h2:x=120∨x=88):fP (a::x::r)=fin (dR 16 2 r 0 0) 2:=by
 simp only[fP,h]
 rw[if_pos h2]
theorem N6 {a x:Nat}{r:List Nat} (h:xo x=none) (h2:¬(x=120∨x=88)):fP (a::x::r)=fin (dR 8 3 (x::r) 0 0) 1:=by
 simp only[fP,h]
 rw[if_neg h2]
theorem Gc {l:List Nat} (h:l.length<2):fP l=none:=by
 match l,h with
 |[],_=>rfl
 |[_],_=>rfl
theorem Gb {W:World} (hE:gM W) (s:ByteArray) (hs:s.size≤65536):Calls Tryz.prog 116 #[.string s] W (VN W (fP (aH s))):=by
 have dZ:=zE W.heap.size W
 by_cases h2:2≤s.size
 ·have e0:decide ((s.size:Int)<2)=false:=by simp;omega
  obtain ⟨a,x,r,hl,fO,h1,gx⟩:=LF h2
  rw[hl]
  have Hl:=aj hl
  clear hl
  by_cases FX:x=97
  ·have Hv:Hid (fP (a::x::r)=some (7,2)):=fC (by rw[FX];rfl)
   have f97:=pJ (c:=x) (k:=97) (by omega)
   clear FX h2
   go_enter Tryz.func116,Tryz.ntmps116
   go_wp2
   go_ret2
   exact cS (v:=7) (n:=2) dZ (aa Hv)
  have f97:=rk (c:=x) (k:=97) (by omega)
  by_cases Io:x=98
  ·have Hv:Hid (fP (a::x::r)=some (8,2)):=fC (by rw[Io];rfl)
   have f98:=pJ (c:=x) (k:=98) (by omega)
   clear Io h2 FX
   go_enter Tryz.func116,Tryz.ntmps116
   go_wp2
   go_ret2
   exact cS (v:=8) (n:=2) dZ (aa Hv)
  have f98:=rk (c:=x) (k:=98) (by omega)
  by_cases rZ:x=102
  ·have Hv:Hid (fP (a::x::r)=some (12,2)):=fC (by rw[rZ];rfl)
   have f102:=pJ (c:=x) (k:=102) (by omega)
   clear rZ h2 FX Io
   go_enter Tryz.func116,Tryz.ntmps116
   go_wp2
   go_ret2
   exact cS (v:=12) (n:=2) dZ (aa Hv)
  have f102:=rk (c:=x) (k:=102) (by omega)
  by_cases tt:x=110
  ·have Hv:Hid (fP (a::x::r)=some (10,2)):=fC (by rw[tt];rfl)
   have f110:=pJ (c:=x) (k:=110) (by omega)
   clear tt h2 FX Io rZ
   go_enter Tryz.func116,Tryz.ntmps116
   go_wp2
   go_ret2
   exact cS (v:=10) (n:=2) dZ (aa Hv)
  have f110:=rk (c:=x) (k:=110) (by omega)
  by_cases xW:x=114
  ·have Hv:Hid (fP (a::x::r)=some (13,2)):=fC (by rw[xW];rfl)
   have f114:=pJ (c:=x) (k:=114) (by omega)
   clear xW h2 FX Io rZ tt
   go_enter Tryz.func116,Tryz.ntmps116
   go_wp2
   go_ret2
   exact cS (v:=13) (n:=2) dZ (aa Hv)
  have f114:=rk (c:=x) (k:=114) (by omega)
  by_cases ze:x=116
  ·have Hv:Hid (fP (a::x::r)=some (9,2)):=fC (by rw[ze];rfl)
   have f116:=pJ (c:=x) (k:=116) (by omega)
   clear ze h2 FX Io rZ tt xW
   go_enter Tryz.func116,Tryz.ntmps116
   go_wp2
   go_ret2
   exact cS (v:=9) (n:=2) dZ (aa Hv)
  have f116:=rk (c:=x) (k:=116) (by omega)
  by_cases BQ:x=118
  ·have Hv:Hid (fP (a::x::r)=some (11,2)):=fC (by rw[BQ];rfl)
   have f118:=pJ (c:=x) (k:=118) (by omega)
   clear BQ h2 FX Io rZ tt xW ze
   go_enter Tryz.func116,Tryz.ntmps116
   go_wp2
   go_ret2
   exact cS (v:=11) (n:=2) dZ (aa Hv)
  have f118:=rk (c:=x) (k:=118) (by omega)
  by_cases U4:x=92
  ·have Hv:Hid (fP (a::x::r)=some (x,2)):=fC (by rw[U4];rfl)
   have f92:=pJ (c:=x) (k:=92) (by omega)
   clear U4 h2 FX Io rZ tt xW ze BQ
   go_enter Tryz.func116,Tryz.ntmps116
   go_wp2
   go_ret2
   exact cS (v:=x) (n:=2) dZ (aa Hv)
  have f92:=rk (c:=x) (k:=92) (by omega)
  by_cases WS:x=39
  ·have Hv:Hid (fP (a::x::r)=some (x,2)):=fC (by rw[WS];rfl)
   have f39:=pJ (c:=x) (k:=39) (by omega)
   clear WS h2 FX Io rZ tt xW ze BQ U4
   go_enter Tryz.func116,Tryz.ntmps116
   go_wp2
   go_ret2
   exact cS (v:=x) (n:=2) dZ (aa Hv)
  have f39:=rk (c:=x) (k:=39) (by omega)
  by_cases Zp:x=34
  ·have Hv:Hid (fP (a::x::r)=some (x,2)):=fC (by rw[Zp];rfl)
   have f34:=pJ (c:=x) (k:=34) (by omega)
   clear Zp h2 FX Io rZ tt xW ze BQ U4 WS
   go_enter Tryz.func116,Tryz.ntmps116
   go_wp2
   go_ret2
   exact cS (v:=x) (n:=2) dZ (aa Hv)
  have f34:=rk (c:=x) (k:=34) (by omega)
  have UC:xo x=none:=by unfold xo;rw[if_neg FX,if_neg Io,if_neg rZ,if_neg tt,if_neg xW,if_neg ze,if_neg BQ,if_neg (by omega)]
  by_cases U5:x=120
  ·have hv:fP (a::x::r)=fin (dR 16 2 ((aH s).drop 2) 0 0) 2:=by rw[aa Hl];exact Eb UC (by omega)
   rw[hv]
   have f120:=pJ (c:=x) (k:=120) (by omega)
   clear hv UC U5 FX Io rZ tt xW ze BQ U4 WS Zp
   go_enter Tryz.func116,Tryz.ntmps116
   go_wp2_with fail
   refine (yq hE s hs h2).mono ?_
   rintro e w1 ⟨bF,⟨ho,rfl⟩|⟨v,n,ho,rfl⟩⟩
   ·have Hb:=aj bF
    have Ho:=aj ho
    clear bF ho h2
    go_wp2
    go_ret2
    exact kz (aa Hb) (aa Ho)
   ·have Hb:=aj bF
    have Ho:=aj ho
    clear bF ho h2
    go_wp2
    go_ret2
    exact cS (aa Hb) (aa Ho)
  have f120:=rk (c:=x) (k:=120) (by omega)
  by_cases h88:x=88
  ·have hv:fP (a::x::r)=fin (dR 16 2 ((aH s).drop 2) 0 0) 2:=by rw[aa Hl];exact Eb UC (by omega)
   rw[hv]
   have f88:=pJ (c:=x) (k:=88) (by omega)
   clear hv UC h88 FX Io rZ tt xW ze BQ U4 WS Zp U5
   go_enter Tryz.func116,Tryz.ntmps116
   go_wp2_with fail
   refine (yq hE s hs h2).mono ?_
   rintro e w1 ⟨bF,⟨ho,rfl⟩|⟨v,n,ho,rfl⟩⟩
   ·have Hb:=aj bF
    have Ho:=aj ho
    clear bF ho h2
    go_wp2
    go_ret2
    exact kz (aa Hb) (aa Ho)
   ·have Hb:=aj bF
    have Ho:=aj ho
    clear bF ho h2
    go_wp2
    go_ret2
    exact cS (aa Hb) (aa Ho)
  have f88:=rk (c:=x) (k:=88) (by omega)
  have hv:fP (a::x::r)=fin (dR 8 3 ((aH s).drop 1) 0 0) 1:=by rw[aa Hl];exact N6 UC (by omega)
  rw[hv]
  clear hv UC FX Io rZ tt xW ze BQ U4 WS Zp U5 h88
  go_enter Tryz.func116,Tryz.ntmps116
  go_wp2_with fail
  refine (Gu hE s hs (by omega)).mono ?_
  rintro e w1 ⟨bF,⟨ho,rfl⟩|⟨v,n,ho,rfl⟩⟩
  ·have Hb:=aj bF
   have Ho:=aj ho
   clear bF ho h2
   go_wp2
   go_ret2
   exact kz (aa Hb) (aa Ho)
  ·have Hb:=aj bF
   have Ho:=aj ho
   clear bF ho h2
   go_wp2
   go_ret2
   exact cS (aa Hb) (aa Ho)
 ·have e0:decide ((s.size:Int)<2)=true:=by simp;omega
  have Hv:Hid (fP (aH s)=none):=Gc (by rw[bk];omega)
  clear h2
  go_enter Tryz.func116,Tryz.ntmps116
  go_wp2
  go_ret2
  exact kz dZ (aa Hv)
theorem Jx {W:World} (hE:gM W) (s:ByteArray) (h0:0<s.size) (hs:s.size≤65536):Calls Tryz.prog 87 #[.string s] W (VN W (db s 0)):=by
 have dZ:=zE W.heap.size W
 obtain ⟨x,hx⟩:∃x:Nat,s[0].toNat=x:=⟨_,rfl⟩
 have At:ax s 0=x:=(ku s 0 h0).trans hx
 have fO:x<256:=by rw[←At];exact mv s 0
 have hp:db s 0=if x=0∨x=10 then none else if x=92 then fP (aH s) else some (x,1):=by unfold db;rw[At];rfl
 rw[hp]
 clear hp At
 by_cases c0:x=0
 ·rw[if_pos (.inl c0)]
  have f0:=pJ (c:=x) (k:=0) (by omega)
  clear c0
  go_enter Tryz.func87,Tryz.ntmps87
  go_wp2
  go_ret2
  exact kz dZ rfl
 have f0:=rk (c:=x) (k:=0) (by omega)
 by_cases c1:x=10
 ·rw[if_pos (.inr c1)]
  have f1:=pJ (c:=x) (k:=10) (by omega)
  clear c0 c1
  go_enter Tryz.func87,Tryz.ntmps87
  go_wp2
  go_ret2
  exact kz dZ rfl
 have f1:=rk (c:=x) (k:=10) (by omega)
 by_cases c2:x=92
 ·rw[if_neg (by omega),if_pos c2]
  have f2:=pJ (c:=x) (k:=92) (by omega)
  clear c0 c1 c2
  go_enter Tryz.func87,Tryz.ntmps87
  go_wp2_with fail
  refine (Gb hE s hs).mono ?_
  rintro e w1 ⟨bF,⟨ho,rfl⟩|⟨v,n,ho,rfl⟩⟩
  ·have Hb:=aj bF
   have Ho:=aj ho
   clear bF ho
   go_wp2
   go_ret2
   exact kz (aa Hb) (aa Ho)
  ·have Hb:=aj bF
   have Ho:=aj ho
   clear bF ho
   go_wp2
   go_ret2
   exact cS (aa Hb) (aa Ho)
 have f2:=rk (c:=x) (k:=92) (by omega)
 rw[if_neg (by omega),if_neg c2]
 clear c0 c1 c2
 go_enter Tryz.func87,Tryz.ntmps87
 go_wp2
 go_ret2
 exact cS (v:=x) (n:=1) dZ rfl
end Go.Proofs.YtmlphohdcejniaaGreatDoor
namespace Go.Proofs.YtmlphohdcejniaaGreatDoor
open Go.RowKit Go.Lib
attribute [local go_sem ↓] Go.wp_at_zero Go.wp_at_succ
theorem zq {P:Program} (w:World) (base:Nat) (t u ty e:TypeId) (i:TypeInfo) (ht:P.underlying t=some (.slice e)) (hu:P.underlying u=some .string) (hi:P.info? e=some i) (hz:i.zero=some (.int .u8 0))
  (DM:i.size=1) (QX:i.bytes=1) (v:Value) (n:Nat) (xs:List Value) (l9:w.ownsRow base e 1 v n xs) (s:ByteArray)
  (WR:n+s.size≤maxLen) (xP:n+s.size≤140737488355328) (cq:base≤w.heap.size) :
  ∃v' w',(Builtin.append_ #[t,u] ty #[v,.string s]).run P w=.ok v' w'∧w'.ownsRow base e 1 v' (n+s.size) (xs++strCells s)∧w.grownBy w' v.ownBlock∧(v'.ownBlock=v.ownBlock∨v'.ownBlock=some w.heap.size):=by
 obtain ⟨v',w',hr,h2,h3,h4⟩:=run_append_own_string (P:=P) w base t u ty e i ht hu hi hz DM QX v n xs l9 s WR xP cq
 refine ⟨v',w',hr,h2,h3,?_⟩
 have BI:xs.length=n:=by simpa using l9.1
 unfold maxLen at WR
 have Yw:=l9
 rcases Yw.2 with ⟨rfl,rfl⟩|⟨g,cap,cur,rfl,Pt,hg,hnc,hcm,cB,abK⟩
 ·by_cases hm:s.size=0
  ·exact .inl (by rw[h4.2 ⟨rfl,hm⟩])
  ·have y8:=run_append_nil_string (P:=P) w t u ty e i (.int .u8 0) ht hu hi hz s (by omega) (by omega) (by rw[QX];omega)
   rw[hr] at y8
   injection y8 with e1 e2
   exact .inr (by rw[e1];rfl)
 ·by_cases Yp:n+s.size≤cap
  ·have ab1:cur.size=cap:=by simpa using cB
   have y8:=run_append_room_string (P:=P) w t u ty e i ht hu hi DM g n cap cur hg s Yp (by omega)
   rw[hr] at y8
   injection y8 with e1 e2
   exact .inl (by rw[e1];rfl)
  ·have holds:∀j x,xs[j]?=some x→w.cell? ((⟨g,0,none⟩:Addr).add j)=some x:=l9.cells (g:=g) rfl
   have y8:=run_append_grow_string (P:=P) w t u ty e i (.int .u8 0) ht hu hi hz ⟨g,0,none⟩ n cap xs (by rw[DM];simpa using BI) holds s (by omega) (by omega) (by rw[QX];exact growslice_fits (by omega) (by omega))
   rw[hr] at y8
   injection y8 with e1 e2
   exact .inr (by rw[e1];rfl)
theorem CZ (s:ByteArray):strCells s=nb (aH s):=by
 unfold strCells nb aH
 simp[List.map_map]
theorem Kn (w:World) (l:List Value) (t:TypeId):∀j u,l[j]?=some u→(w.alloc (.cells l.toArray t)).cell? ((⟨w.heap.size,0,none⟩:Addr).add j)=some u:=by
 intro j u h
 rw[Go.WideShapes.add_plain,cell_of_row _ _ _ _ _ _ (aC w _)]
 simpa using h
def ZM (base:Nat) (W:World) (v:Value) (xs ys:List Nat) (e:Ending) (W':World):Prop:=∃v',e=.returned v'∧Bytes base W' v' (xs++ys)∧Ext W v W' v'
theorem L0 {W w:World}{base n:Nat}{v v':Value}{xs ys:List Nat}{cs:List Value}{ob:Obj} (l9:w.ownsRow base 5 1 v' n (nb xs++cs)) (hn:n=xs.length+ys.length) (cB:cs=nb ys) (hg:(W.alloc ob).grownBy w v.ownBlock) (pS:v'.ownBlock=v.ownBlock∨v'.ownBlock=some (W.alloc ob).heap.size) :
  ZM base W v xs ys (.returned v') w:=by
 subst hn cB
 refine ⟨v',rfl,?_,Ext.grown hg pS⟩
 unfold Bytes
 rw[rJ,zK]
 exact l9
theorem Et {s:ByteArray}{k:Nat} (hk:k<s.size):ax (s.extract k s.size) 0=ax s k:=by rw[iI s k s.size 0 (zD _) (by omega)];rfl
theorem Ot {s:ByteArray}{k:Nat} (hk:k<s.size) (hx:ax s k<128):nj s k=1 :=
 Cc (c:=0) (d:=0) (e:=0) (by unfold NO;rw[if_pos hx]) ⟨by omega,fun j j1 j2=>by omega⟩
def sub (s:ByteArray) (k n:Nat):List Nat:=((aH s).drop k).take n
theorem P5 {s:ByteArray}{k n:Nat} (h:k+n≤s.size):(sub s k n).length=n:=by
 unfold sub
 rw[List.length_take,List.length_drop,bk]
 omega
theorem Bytes.up {base:Nat}{W w:World}{v:Value}{l:List Nat} (h:Bytes base W v l) (hb:Below W.heap.size W w):Bytes base w v l:=by
 unfold Bytes at h ⊢
 obtain ⟨h1,⟨rfl,h0⟩|⟨g,c,cur,rfl,h2,h3,h4⟩⟩:=h
 ·exact ⟨h1,.inl ⟨rfl,h0⟩⟩
 ·exact ⟨h1,.inr ⟨g,c,cur,rfl,h2,(hb.block g (zA h3).1).trans h3,h4⟩⟩
theorem Bytes.RW {base:Nat}{W:World}{v:Value}{l:List Nat} (h:Bytes base W v l):∀b,v.ownBlock=some b→base≤b:=fun b hb=>by
 unfold Bytes at h
 exact (h.lt b hb).1
theorem Bytes.shape {base:Nat}{W:World}{v:Value}{l:List Nat} (h:Bytes base W v l):∃a n c,v=.slice a n c:=by
 obtain ⟨a,c,rfl,_⟩:=h.has
 exact ⟨_,_,_,rfl⟩
theorem AG {s:ByteArray}{k:Nat}:aH (s.extract k s.size)=(aH s).drop k:=by
 rw[bc,List.take_of_length_le]
 rw[List.length_drop,bk]
 omega
theorem Bj {s:ByteArray}{k:Nat} (hk:k<s.size):db (s.extract k s.size) 0=db s k:=by
 unfold db
 rw[Et hk,AG,List.drop_zero]
theorem AM {c:Nat}:cls c=4↔c=39∨c=34:=by
 unfold cls
 constructor
 ·intro h
  repeat' split at h
  all_goals first|assumption|omega
 ·intro h
  rw[if_neg (by omega),if_neg (by unfold isLet;omega),if_neg (by unfold bZ;omega),if_pos h]
def UQ (W:World) (o:Option (List Nat×Nat)) (e:Ending) (w:World):Prop:=Below W.heap.size W w∧((o=none∧e=.returned (.tuple #[.slice none 0 0,.int .i64 0]))∨∃(l:List Nat) (n:Nat) (v:Value),o=some (l,n)∧e=.returned (.tuple #[v,.int .i64 (n:Int)])∧Bytes W.heap.size w v l)
theorem GK {W w:World}{o:Option (List Nat×Nat)} (hb:Below W.heap.size W w) (h:o=none):UQ W o (.returned (.tuple #[.slice none 0 0,.int .i64 0])) w:=⟨hb,.inl ⟨h,rfl⟩⟩
theorem Tu {W w:World}{o:Option (List Nat×Nat)}{l:List Nat}{n:Nat}{v:Value} (hb:Below W.heap.size W w) (h:o=some (l,n)) (hv:Bytes W.heap.size w v l):UQ W o (.returned (.tuple #[v,.int .i64 (n:Int)])) w:=⟨hb,.inr ⟨l,n,v,h,rfl,hv⟩⟩
theorem I3 {s:ByteArray} (h0:¬s.size=0) (h:¬(ax s 0=39∨ax s 0=34)):lD s=none:=by unfold lD;rw[if_neg h0,if_neg h]
theorem zS {s:ByteArray} (h0:¬s.size=0) (h:ax s 0=39∨ax s 0=34):lD s=gC s (ax s 0) 1:=by unfold lD;rw[if_neg h0,if_pos h]
theorem sD {W:World} (hE:gM W) (s:ByteArray) (hs:s.size≤65536):Calls Tryz.prog 68 #[.string s] W (UQ W (lD s)):=by
 obtain ⟨i0,hi,oH,oG,pQ⟩:=info_parts Tryz.infoByte
 have dZ:=zE W.heap.size W
 by_cases h0:s.size=0
 ·have Hn:Hid (lD s=none):=by show _=_;unfold lD;rw[if_pos h0]
  obtain rfl:=xH h0
  go_enter Tryz.func68,Tryz.ntmps68
  go_wp2
  go_ret2
  exact GK dZ (aa Hn)
 ·have e0:=qw h0
  obtain ⟨q,hq,KL,gq⟩:=iV s 0 (by omega)
  have hbq:ax s 0=q:=(ku s 0 (by omega)).trans gq
  have Hbq:=aj hbq
  clear hq hbq
  by_cases SL:q=39∨q=34
  ·have hL:lD s=gC s q 1:=by rw[zS h0 (by rw[aa Hbq];exact SL),aa Hbq]
   rw[hL]
   have hc:cls q=4:=AM.2 SL
   have s1:(1:Int)≤(s.size:Int):=by omega
   clear hL SL
   go_enter Tryz.func68,Tryz.ntmps68
   go_wp2_with fail
   refine (jv W q KL).mono ?_
   rintro e w' ⟨rfl,he⟩
   obtain rfl:W=w':=he.symm
   rw[hc]
   have Hy0:Hid (Bytes W.heap.size W (.slice none 0 0) []):=AT _ _
   go_wp2
   go_loopg [4,5,6,7] (s.size-1) (fun gk v4 v5 _ _ wr=>∃(k:Nat) (pre:List Nat) (va:Option Addr) (vn vc:Nat),v4=.slice va vn vc∧v5=.int .i64 (k:Int)∧gk=s.size-k∧1≤k∧k≤s.size∧pre.length≤k∧Hid (Bytes W.heap.size wr (.slice va vn vc) pre)∧Hid (gC s q 1=(gC s q k).map fun r=>(pre++r.1,r.2))∧Hid (Below W.heap.size W wr))
   case atStart=>exact ⟨1,[],_,_,_,rfl,rfl,rfl,zD _,by omega,by simp,Hy0,by show _=_;simp,dZ⟩
   case round =>
    obtain ⟨k,pre,va,vn,vc,rfl,rfl,fi,rU,hk,hpl,HY,Hu,HB⟩:=hrel
    have gA:=aj fi
    clear fi Hy0 hc
    by_cases cw:k<s.size
    ·obtain ⟨x,hx⟩:∃x:Nat,s[k].toNat=x:=⟨_,rfl⟩
     have At:ax s k=x:=(ku s k cw).trans hx
     have fO:x<256:=by rw[←At];exact mv s k
     have k0:(0:Int)≤(k:Int):=zH _
     have k1:(k:Int)<(s.size:Int):=by omega
     have Hbx:=aj At
     clear At
     by_cases hxq:x=q
     ·have Hr:Hid (gC s q 1=some (pre,k+1)):=by
       show _=_
       rw[aa Hu,ir cw ((aa Hbx).trans hxq)]
       simp
      have fq:((x:Int)==(q:Int))=true:=by simp;omega
      clear Hu hxq
      go_wp2
      go_quiet (fail)
      go_wp2
      go_ret2
      exact Tu (n:=k+1) (below_drewN (aa HB) _) (aa Hr) (aa HY)
     ·have fq:((x:Int)==(q:Int))=false:=by simp;omega
      have hz:=extract_size s k s.size (zD _)
      have hpd:=Bj cw
      have Hpd:=aj hpd
      have Hxq:=aj hxq
      clear hpd hxq
      go_wp2
      go_quiet (fail)
      go_wp2_with fail
      refine (Jx (W:=wr.drewN nq) (hE.up (below_drewN (aa HB) _)) (s.extract k s.size) (by omega) (by omega)).mono ?_
      rintro e w2 ⟨bJ,⟨ho,rfl⟩|⟨b,n,ho,rfl⟩⟩
      ·rw[aa Hpd] at ho
       have Hr:Hid (gC s q 1=none):=by
        show _=_
        rw[aa Hu,rz cw (by rw[aa Hbx];exact aa Hxq) ho]
        rfl
       have iL:Hid (Below W.heap.size W w2):=(below_drewN (aa HB) _).trans (bJ.mono (aa HB).size)
       clear ho bJ hz Hu
       go_wp2
       go_ret2
       exact GK (aa iL) (aa Hr)
      ·rw[aa Hpd] at ho
       obtain ⟨p1,p2,p3⟩:=hU ho cw
       have Hr:Hid (gC s q 1=(gC s q (k+n)).map fun r=>((pre++[b])++r.1,r.2)):=by
        show _=_
        rw[aa Hu,lf cw (by rw[aa Hbx];exact aa Hxq) ho,Option.map_map]
        congr 1
        funext r
        simp
       have iL:Hid (Below W.heap.size W w2):=(below_drewN (aa HB) _).trans (bJ.mono (aa HB).size)
       have HY2:Hid (Bytes W.heap.size w2 (.slice va vn vc) pre):=((aa HY).up (zE _ _)).up ((below_drewN (zE _ wr) _).trans bJ)
       have mM:W.heap.size≤w2.heap.size:=(aa iL).size
       have n0:((n:Int)==0)=false:=by simp;omega
       have O1:Hid (pre.length+1≤maxLen):=by show _≤_;unfold maxLen;omega
       have O2:Hid ((pre.length+1)*1≤140737488355328):=by show _≤_;omega
       clear ho bJ hz Hu HY HB
       go_wp2_with (at_builtin;refine wpList_append_own_at _ rfl _ _ 54 rfl W.heap.size 5 i0 (.int .u8 0) 1 1 Tryz.underlying54 hi oH oG pQ rfl (by decide) _ _ _ rfl ((aa HY2).alloc _) ⟨w2.heap.size,0,none⟩ 1 1 [.int .u8 (b:Int)] rfl rfl (Kn _ _ _) (by simp[Value.oneCell']) (aa O1) (aa O2) (by rw[zJ];omega) ?_;intro v4 w4 SN Ni _ Zc;have HP:Hid (ZM W.heap.size w2 (.slice va vn vc) pre [b] (.returned v4) w4):=L0 (ys:=[b]) SN rfl rfl Ni Zc;clear SN Ni Zc)
       obtain ⟨v5,hv5,QX,YU⟩:=aa HP
       obtain rfl:v4=v5:=by simpa using hv5
       obtain ⟨va',vn',vc',rfl⟩:=QX.shape
       have E0:Hid (Below W.heap.size W w4):=(aa iL).trans (YU.below mM (aa HY2).RW)
       have HY3:=aj QX
       clear QX YU hv5 HP
       go_roundg (s.size-(k+n))
       case measure=>have:=aa gA;omega
       case rel=>exact ⟨k+n,pre++[b],_,_,_,rfl,by go_num,rfl,by omega,by omega,by simp only[zK,List.length_singleton];omega,HY3,Hr,E0⟩
    ·have Hr:Hid (gC s q 1=none):=by
      show _=_
      rw[aa Hu,mA cw]
      rfl
     obtain rfl:k=s.size:=by omega
     clear Hu
     go_wp2
     go_ret2
     exact GK (aa HB) (aa Hr)
  ·have Hn:Hid (lD s=none):=I3 h0 (by rw[aa Hbq];exact SL)
   have hc:((cls q:Int) != 4)=true:=by
    have:=mt AM.1 SL
    simp;omega
   clear SL
   go_enter Tryz.func68,Tryz.ntmps68
   go_wp2_with fail
   refine (jv W q KL).mono ?_
   rintro e w' ⟨rfl,he⟩
   obtain rfl:W=w':=he.symm
   go_wp2
   go_ret2
   exact GK dZ (aa Hn)
end Go.Proofs.YtmlphohdcejniaaGreatDoor

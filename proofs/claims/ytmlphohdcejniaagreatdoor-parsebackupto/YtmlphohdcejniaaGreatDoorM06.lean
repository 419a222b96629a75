import Derived.Test.YtmlphohdcejniaaGreatDoorQE
import Derived.Lib.AppendStr
set_option maxHeartbeats 2000000
set_option maxRecDepth 100000
namespace Go.Proofs.YtmlphohdcejniaaGreatDoor
open Go.RowKit
attribute [local go_sem ↓] Go.wp_at_zero Go.wp_at_succ
theorem oE {c:Nat}{k:Int} (h:(c:Int)=k):((c:Int)==k)=true:=by simp;omega
theorem J9 {s:ByteArray} (h:2≤s.size):∃a x r,aG s=a::x::r∧x<256∧∃h1:1<s.size,(s[1]'h1).toNat=x:=by
 obtain ⟨a,ha,_,_⟩:=iv s 0 (by omega)
 obtain ⟨x,hx,fF,gx⟩:=iv s 1 (by omega)
 match hs:aG s with
 |[]=>rw[hs] at ha;simp at ha
 |[_]=>rw[hs] at hx;simp at hx
 |p::q::r =>
  rw[hs] at hx
  obtain rfl:q=x:=by simpa using hx
  exact ⟨p,q,r,rfl,fF,by omega,gx⟩
theorem eZ {a x v:Nat}{r:List Nat} (h:vF x=some v):fy (a::x::r)=some (v,2):=by simp[fy,h]
theorem CA {a x:Nat}{r:List Nat} (h:vF x=none) (h2:x=120∨x=88):fy (a::x::r)=fin (dI 16 2 r 0 0) 2:=by
 simp only[fy,h]
 rw[if_pos h2]
theorem Mg {a x:Nat}{r:List Nat} (h:vF x=none) (h2:¬(x=120∨x=88)):fy (a::x::r)=fin (dI 8 3 (x::r) 0 0) 1:=by
 simp only[fy,h]
 rw[if_neg h2]
theorem ED {l:List Nat} (h:l.length<2):fy l=none:=by
 match l,h with
 |[],_=>rfl
 |[_],_=>rfl
theorem EC {W:World} (hE:fZ W) (s:ByteArray) (hs:s.size≤65536):Calls Tryz.prog 116 #[.string s] W (VN W (fy (aG s))):=by
 have dN:=zE W.heap.size W
 by_cases h2:2≤s.size
 ·have e0:decide ((s.size:Int)<2)=false:=by simp;omega
  obtain ⟨a,x,r,hl,fF,h1,gx⟩:=J9 h2
  rw[hl]
  have Hl:=aj hl
  clear hl
  by_cases Em:x=97
  ·have Hv:Hid (fy (a::x::r)=some (7,2)):=eZ (by rw[Em];rfl)
   have f97:=oE (c:=x) (k:=97) (by omega)
   clear Em h2
   go_enter Tryz.func116,Tryz.ntmps116
   go_wp2
   go_ret2
   exact cG (v:=7) (n:=2) dN (aa Hv)
  have f97:=qd (c:=x) (k:=97) (by omega)
  by_cases F1:x=98
  ·have Hv:Hid (fy (a::x::r)=some (8,2)):=eZ (by rw[F1];rfl)
   have f98:=oE (c:=x) (k:=98) (by omega)
   clear F1 h2 Em
   go_enter Tryz.func116,Tryz.ntmps116
   go_wp2
   go_ret2
   exact cG (v:=8) (n:=2) dN (aa Hv)
  have f98:=qd (c:=x) (k:=98) (by omega)
  by_cases qG:x=102
  ·have Hv:Hid (fy (a::x::r)=some (12,2)):=eZ (by rw[qG];rfl)
   have f102:=oE (c:=x) (k:=102) (by omega)
   clear qG h2 Em F1
   go_enter Tryz.func116,Tryz.ntmps116
   go_wp2
   go_ret2
   exact cG (v:=12) (n:=2) dN (aa Hv)
  have f102:=qd (c:=x) (k:=102) (by omega)
  by_cases rU:x=110
  ·have Hv:Hid (fy (a::x::r)=some (10,2)):=eZ (by rw[rU];rfl)
   have f110:=oE (c:=x) (k:=110) (by omega)
   clear rU h2 Em F1 qG
   go_enter Tryz.func116,Tryz.ntmps116
   go_wp2
   go_ret2
   exact cG (v:=10) (n:=2) dN (aa Hv)
  have f110:=qd (c:=x) (k:=110) (by omega)
  by_cases wE:x=114
  ·have Hv:Hid (fy (a::x::r)=some (13,2)):=eZ (by rw[wE];rfl)
   have f114:=oE (c:=x) (k:=114) (by omega)
   clear wE h2 Em F1 qG rU
   go_enter Tryz.func116,Tryz.ntmps116
   go_wp2
   go_ret2
   exact cG (v:=13) (n:=2) dN (aa Hv)
  have f114:=qd (c:=x) (k:=114) (by omega)
  by_cases xJ:x=116
  ·have Hv:Hid (fy (a::x::r)=some (9,2)):=eZ (by rw[xJ];rfl)
   have f116:=oE (c:=x) (k:=116) (by omega)
   clear xJ h2 Em F1 qG rU wE
   go_enter Tryz.func116,Tryz.ntmps116
   go_wp2
   go_ret2
   exact cG (v:=9) (n:=2) dN (aa Hv)
  have f116:=qd (c:=x) (k:=116) (by omega)
  by_cases Al:x=118
  ·have Hv:Hid (fy (a::x::r)=some (11,2)):=eZ (by rw[Al];rfl)
   have f118:=oE (c:=x) (k:=118) (by omega)
   clear Al h2 Em F1 qG rU wE xJ
   go_enter Tryz.func116,Tryz.ntmps116
   go_wp2
   go_ret2
   exact cG (v:=11) (n:=2) dN (aa Hv)
  have f118:=qd (c:=x) (k:=118) (by omega)
  by_cases S3:x=92
  ·have Hv:Hid (fy (a::x::r)=some (x,2)):=eZ (by rw[S3];rfl)
   have f92:=oE (c:=x) (k:=92) (by omega)
   clear S3 h2 Em F1 qG rU wE xJ Al
   go_enter Tryz.func116,Tryz.ntmps116
   go_wp2
   go_ret2
   exact cG (v:=x) (n:=2) dN (aa Hv)
  have f92:=qd (c:=x) (k:=92) (by omega)
  by_cases UR:x=39
  ·have Hv:Hid (fy (a::x::r)=some (x,2)):=eZ (by rw[UR];rfl)
   have f39:=oE (c:=x) (k:=39) (by omega)
   clear UR h2 Em F1 qG rU wE xJ Al S3
   go_enter Tryz.func116,Tryz.ntmps116
   go_wp2
   go_ret2
   exact cG (v:=x) (n:=2) dN (aa Hv)
  have f39:=qd (c:=x) (k:=39) (by omega)
  by_cases Xq:x=34
  ·have Hv:Hid (fy (a::x::r)=some (x,2)):=eZ (by rw[Xq];rfl)
   have f34:=oE (c:=x) (k:=34) (by omega)
   clear Xq h2 Em F1 qG rU wE xJ Al S3 UR
   go_enter Tryz.func116,Tryz.ntmps116
   go_wp2
   go_ret2
   exact cG (v:=x) (n:=2) dN (aa Hv)
  have f34:=qd (c:=x) (k:=34) (by omega)
  have SD:vF x=none:=by unfold vF;rw[if_neg Em,if_neg F1,if_neg qG,if_neg rU,if_neg wE,if_neg xJ,if_neg Al,if_neg (by omega)]
  by_cases S4:x=120
  ·have hv:fy (a::x::r)=fin (dI 16 2 ((aG s).drop 2) 0 0) 2:=by rw[aa Hl];exact CA SD (by omega)
   rw[hv]
   have f120:=oE (c:=x) (k:=120) (by omega)
   clear hv SD S4 Em F1 qG rU wE xJ Al S3 UR Xq
   go_enter Tryz.func116,Tryz.ntmps116
   go_wp2_with fail
   refine (wS hE s hs h2).mono ?_
   rintro e w1 ⟨bC,⟨ho,rfl⟩|⟨v,n,ho,rfl⟩⟩
   ·have Hb:=aj bC
    have Ho:=aj ho
    clear bC ho h2
    go_wp2
    go_ret2
    exact jV (aa Hb) (aa Ho)
   ·have Hb:=aj bC
    have Ho:=aj ho
    clear bC ho h2
    go_wp2
    go_ret2
    exact cG (aa Hb) (aa Ho)
  have f120:=qd (c:=x) (k:=120) (by omega)
  by_cases h88:x=88
  ·have hv:fy (a::x::r)=fin (dI 16 2 ((aG s).drop 2) 0 0) 2:=by rw[aa Hl];exact CA SD (by omega)
   rw[hv]
   have f88:=oE (c:=x) (k:=88) (by omega)
   clear hv SD h88 Em F1 qG rU wE xJ Al S3 UR Xq S4
   go_enter Tryz.func116,Tryz.ntmps116
   go_wp2_with fail
   refine (wS hE s hs h2).mono ?_
   rintro e w1 ⟨bC,⟨ho,rfl⟩|⟨v,n,ho,rfl⟩⟩
   ·have Hb:=aj bC
    have Ho:=aj ho
    clear bC ho h2
    go_wp2
    go_ret2
    exact jV (aa Hb) (aa Ho)
   ·have Hb:=aj bC
    have Ho:=aj ho
    clear bC ho h2
    go_wp2
    go_ret2
    exact cG (aa Hb) (aa Ho)
  have f88:=qd (c:=x) (k:=88) (by omega)
  have hv:fy (a::x::r)=fin (dI 8 3 ((aG s).drop 1) 0 0) 1:=by rw[aa Hl];exact Mg SD (by omega)
  rw[hv]
  clear hv SD Em F1 qG rU wE xJ Al S3 UR Xq S4 h88
  go_enter Tryz.func116,Tryz.ntmps116
  go_wp2_with fail
  refine (EV hE s hs (by omega)).mono ?_
  rintro e w1 ⟨bC,⟨ho,rfl⟩|⟨v,n,ho,rfl⟩⟩
  ·have Hb:=aj bC
   have Ho:=aj ho
   clear bC ho h2
   go_wp2
   go_ret2
   exact jV (aa Hb) (aa Ho)
  ·have Hb:=aj bC
   have Ho:=aj ho
   clear bC ho h2
   go_wp2
   go_ret2
   exact cG (aa Hb) (aa Ho)
 ·have e0:decide ((s.size:Int)<2)=true:=by simp;omega
  have Hv:Hid (fy (aG s)=none):=ED (by rw[bd];omega)
  clear h2
  go_enter Tryz.func116,Tryz.ntmps116
  go_wp2
  go_ret2
  exact jV dN (aa Hv)
theorem G8 {W:World} (hE:fZ W) (s:ByteArray) (h0:0<s.size) (hs:s.size≤65536):Calls Tryz.prog 87 #[.string s] W (VN W (cP s 0)):=by
 have dN:=zE W.heap.size W
 obtain ⟨x,hx⟩:∃x:Nat,s[0].toNat=x:=⟨_,rfl⟩
 have yE:ax s 0=x:=(jT s 0 h0).trans hx
 have fF:x<256:=by rw[←yE];exact lB s 0
 have hp:cP s 0=if x=0∨x=10 then none else if x=92 then fy (aG s) else some (x,1):=by unfold cP;rw[yE];rfl
 rw[hp]
 clear hp yE
 by_cases c0:x=0
 ·rw[if_pos (.inl c0)]
  have f0:=oE (c:=x) (k:=0) (by omega)
  clear c0
  go_enter Tryz.func87,Tryz.ntmps87
  go_wp2
  go_ret2
  exact jV dN rfl
 have f0:=qd (c:=x) (k:=0) (by omega)
 by_cases c1:x=10
 ·rw[if_pos (.inr c1)]
  have f1:=oE (c:=x) (k:=10) (by omega)
  clear c0 c1
  go_enter Tryz.func87,Tryz.ntmps87
  go_wp2
  go_ret2
  exact jV dN rfl
 have f1:=qd (c:=x) (k:=10) (by omega)
 by_cases c2:x=92
 ·rw[if_neg (by omega),if_pos c2]
  have f2:=oE (c:=x) (k:=92) (by omega)
  clear c0 c1 c2
  go_enter Tryz.func87,Tryz.ntmps87
  go_wp2_with fail
  refine (EC hE s hs).mono ?_
  rintro e w1 ⟨bC,⟨ho,rfl⟩|⟨v,n,ho,rfl⟩⟩
  ·have Hb:=aj bC
   have Ho:=aj ho
   clear bC ho
   go_wp2
   go_ret2
   exact jV (aa Hb) (aa Ho)
  ·have Hb:=aj bC
   have Ho:=aj ho
   clear bC ho
   go_wp2
   go_ret2
   exact cG (aa Hb) (aa Ho)
 have f2:=qd (c:=x) (k:=92) (by omega)
 rw[if_neg (by omega),if_neg c2]
 clear c0 c1 c2
 go_enter Tryz.func87,Tryz.ntmps87
 go_wp2
 go_ret2
 exact cG (v:=x) (n:=1) dN rfl
end Go.Proofs.YtmlphohdcejniaaGreatDoor
namespace Go.Proofs.YtmlphohdcejniaaGreatDoor
open Go.RowKit Go.Lib
attribute [local go_sem ↓] Go.wp_at_zero Go.wp_at_succ
theorem xU {P:Program} (w:World) (base:Nat) (t u ty e:TypeId) (i:TypeInfo) (ht:P.underlying t=some (.slice e)) (hu:P.underlying u=some .string) (hi:P.info? e=some i) (hz:i.zero=some (.int .u8 0))
  (Cd:i.size=1) (O5:i.bytes=1) (v:Value) (n:Nat) (xs:List Value) (ln:w.ownsRow base e 1 v n xs) (s:ByteArray)
  (UP:n+s.size≤maxLen) (wh:n+s.size≤140737488355328) (ca:base≤w.heap.size) :
  ∃v' w',(Builtin.append_ #[t,u] ty #[v,.string s]).run P w=.ok v' w'∧w'.ownsRow base e 1 v' (n+s.size) (xs++strCells s)∧w.grownBy w' v.ownBlock∧(v'.ownBlock=v.ownBlock∨v'.ownBlock=some w.heap.size):=by
 obtain ⟨v',w',hr,h2,h3,h4⟩:=run_append_own_string (P:=P) w base t u ty e i ht hu hi hz Cd O5 v n xs ln s UP wh ca
 refine ⟨v',w',hr,h2,h3,?_⟩
 have Ae:xs.length=n:=by simpa using ln.1
 unfold maxLen at UP
 have Wp:=ln
 rcases Wp.2 with ⟨rfl,rfl⟩|⟨g,cap,cur,rfl,NJ,hg,hnc,hcm,cn,abf⟩
 ·by_cases hm:s.size=0
  ·exact .inl (by rw[h4.2 ⟨rfl,hm⟩])
  ·have xG:=run_append_nil_string (P:=P) w t u ty e i (.int .u8 0) ht hu hi hz s (by omega) (by omega) (by rw[O5];omega)
   rw[hr] at xG
   injection xG with e1 e2
   exact .inr (by rw[e1];rfl)
 ·by_cases Wj:n+s.size≤cap
  ·have aby:cur.size=cap:=by simpa using cn
   have xG:=run_append_room_string (P:=P) w t u ty e i ht hu hi Cd g n cap cur hg s Wj (by omega)
   rw[hr] at xG
   injection xG with e1 e2
   exact .inl (by rw[e1];rfl)
  ·have holds:∀j x,xs[j]?=some x→w.cell? ((⟨g,0,none⟩:Addr).add j)=some x:=ln.cells (g:=g) rfl
   have xG:=run_append_grow_string (P:=P) w t u ty e i (.int .u8 0) ht hu hi hz ⟨g,0,none⟩ n cap xs (by rw[Cd];simpa using Ae) holds s (by omega) (by omega) (by rw[O5];exact growslice_fits (by omega) (by omega))
   rw[hr] at xG
   injection xG with e1 e2
   exact .inr (by rw[e1];rfl)
theorem Bo (s:ByteArray):strCells s=nb (aG s):=by
 unfold strCells nb aG
 simp[List.map_map]
theorem IY (w:World) (l:List Value) (t:TypeId):∀j u,l[j]?=some u→(w.alloc (.cells l.toArray t)).cell? ((⟨w.heap.size,0,none⟩:Addr).add j)=some u:=by
 intro j u h
 rw[Go.WideShapes.add_plain,cell_of_row _ _ _ _ _ _ (aC w _)]
 simpa using h
def XN (base:Nat) (W:World) (v:Value) (xs ys:List Nat) (e:Ending) (W':World):Prop:=∃v',e=.returned v'∧Bytes base W' v' (xs++ys)∧Ext W v W' v'
theorem Kq {W w:World}{base n:Nat}{v v':Value}{xs ys:List Nat}{cs:List Value}{ob:Obj} (ln:w.ownsRow base 5 1 v' n (nb xs++cs)) (hn:n=xs.length+ys.length) (cn:cs=nb ys) (hg:(W.alloc ob).grownBy w v.ownBlock) (oL:v'.ownBlock=v.ownBlock∨v'.ownBlock=some (W.alloc ob).heap.size) :
  XN base W v xs ys (.returned v') w:=by
 subst hn cn
 refine ⟨v',rfl,?_,Ext.grown hg oL⟩
 unfold Bytes
 rw[qt,zK]
 exact ln
theorem CS {s:ByteArray}{k:Nat} (hk:k<s.size):ax (s.extract k s.size) 0=ax s k:=by rw[hU s k s.size 0 (zD _) (by omega)];rfl
theorem MC {s:ByteArray}{k:Nat} (hk:k<s.size) (hx:ax s k<128):my s k=1 :=
 AJ (c:=0) (d:=0) (e:=0) (by unfold L1;rw[if_pos hx]) ⟨by omega,fun j j1 j2=>by omega⟩
def sub (s:ByteArray) (k n:Nat):List Nat:=((aG s).drop k).take n
theorem Oi {s:ByteArray}{k n:Nat} (h:k+n≤s.size):(sub s k n).length=n:=by
 unfold sub
 rw[List.length_take,List.length_drop,bd]
 omega
theorem Bytes.up {base:Nat}{W w:World}{v:Value}{l:List Nat} (h:Bytes base W v l) (hb:Below W.heap.size W w):Bytes base w v l:=by
 unfold Bytes at h ⊢
 obtain ⟨h1,⟨rfl,h0⟩|⟨g,c,cur,rfl,h2,h3,h4⟩⟩:=h
 ·exact ⟨h1,.inl ⟨rfl,h0⟩⟩
 ·exact ⟨h1,.inr ⟨g,c,cur,rfl,h2,(hb.block g (zA h3).1).trans h3,h4⟩⟩
theorem Bytes.PT {base:Nat}{W:World}{v:Value}{l:List Nat} (h:Bytes base W v l):∀b,v.ownBlock=some b→base≤b:=fun b hb=>by
 unfold Bytes at h
 exact (h.lt b hb).1
theorem Bytes.shape {base:Nat}{W:World}{v:Value}{l:List Nat} (h:Bytes base W v l):∃a n c,v=.slice a n c:=by
 obtain ⟨a,c,rfl,_⟩:=h.has
 exact ⟨_,_,_,rfl⟩
theorem yM {s:ByteArray}{k:Nat}:aG (s.extract k s.size)=(aG s).drop k:=by
 rw[bc,List.take_of_length_le]
 rw[List.length_drop,bd]
 omega
theorem zx {s:ByteArray}{k:Nat} (hk:k<s.size):cP (s.extract k s.size) 0=cP s k:=by
 unfold cP
 rw[CS hk,yM,List.drop_zero]
theorem yS {c:Nat}:cls c=4↔c=39∨c=34:=by
 unfold cls
 constructor
 ·intro h
  repeat' split at h
  all_goals first|assumption|omega
 ·intro h
  rw[if_neg (by omega),if_neg (by unfold isLet;omega),if_neg (by unfold bX;omega),if_pos h]
def UQ (W:World) (o:Option (List Nat×Nat)) (e:Ending) (w:World):Prop:=Below W.heap.size W w∧((o=none∧e=.returned (.tuple #[.slice none 0 0,.int .i64 0]))∨∃(l:List Nat) (n:Nat) (v:Value),o=some (l,n)∧e=.returned (.tuple #[v,.int .i64 (n:Int)])∧Bytes W.heap.size w v l)
theorem Fc {W w:World}{o:Option (List Nat×Nat)} (hb:Below W.heap.size W w) (h:o=none):UQ W o (.returned (.tuple #[.slice none 0 0,.int .i64 0])) w:=⟨hb,.inl ⟨h,rfl⟩⟩
theorem Rn {W w:World}{o:Option (List Nat×Nat)}{l:List Nat}{n:Nat}{v:Value} (hb:Below W.heap.size W w) (h:o=some (l,n)) (hv:Bytes W.heap.size w v l):UQ W o (.returned (.tuple #[v,.int .i64 (n:Int)])) w:=⟨hb,.inr ⟨l,n,v,h,rfl,hv⟩⟩
theorem GC {s:ByteArray} (h0:¬s.size=0) (h:¬(ax s 0=39∨ax s 0=34)):kJ s=none:=by unfold kJ;rw[if_neg h0,if_neg h]
theorem yd {s:ByteArray} (h0:¬s.size=0) (h:ax s 0=39∨ax s 0=34):kJ s=fR s (ax s 0) 1:=by unfold kJ;rw[if_neg h0,if_pos h]
theorem qW {W:World} (hE:fZ W) (s:ByteArray) (hs:s.size≤65536):Calls Tryz.prog 68 #[.string s] W (UQ W (kJ s)):=by
 obtain ⟨i0,hi,nD,nC,oK⟩:=info_parts Tryz.infoByte
 have dN:=zE W.heap.size W
 by_cases h0:s.size=0
 ·have Hn:Hid (kJ s=none):=by show _=_;unfold kJ;rw[if_pos h0]
  obtain rfl:=B9 h0
  go_enter Tryz.func68,Tryz.ntmps68
  go_wp2
  go_ret2
  exact Fc dN (aa Hn)
 ·have e0:=pz h0
  obtain ⟨q,hq,Jn,gq⟩:=iv s 0 (by omega)
  have hbq:ax s 0=q:=(jT s 0 (by omega)).trans gq
  have Hbq:=aj hbq
  clear hq hbq
  by_cases QA:q=39∨q=34
  ·have hL:kJ s=fR s q 1:=by rw[yd h0 (by rw[aa Hbq];exact QA),aa Hbq]
   rw[hL]
   have hc:cls q=4:=yS.2 QA
   have s1:(1:Int)≤(s.size:Int):=by omega
   clear hL QA
   go_enter Tryz.func68,Tryz.ntmps68
   go_wp2_with fail
   refine (iS W q Jn).mono ?_
   rintro e w' ⟨rfl,he⟩
   obtain rfl:W=w':=he.symm
   rw[hc]
   have Hy0:Hid (Bytes W.heap.size W (.slice none 0 0) []):=yZ _ _
   go_wp2
   go_loopg [4,5,6,7] (s.size-1) (fun gk v4 v5 _ _ wr=>∃(k:Nat) (pre:List Nat) (va:Option Addr) (vn vc:Nat),v4=.slice va vn vc∧v5=.int .i64 (k:Int)∧gk=s.size-k∧1≤k∧k≤s.size∧pre.length≤k∧Hid (Bytes W.heap.size wr (.slice va vn vc) pre)∧Hid (fR s q 1=(fR s q k).map fun r=>(pre++r.1,r.2))∧Hid (Below W.heap.size W wr))
   case atStart=>exact ⟨1,[],_,_,_,rfl,rfl,rfl,zD _,by omega,by simp,Hy0,by show _=_;simp,dN⟩
   case round =>
    obtain ⟨k,pre,va,vn,vc,rfl,rfl,eN,qC,hk,hpl,HY,Hu,HB⟩:=hrel
    have fQ:=aj eN
    clear eN Hy0 hc
    by_cases cc:k<s.size
    ·obtain ⟨x,hx⟩:∃x:Nat,s[k].toNat=x:=⟨_,rfl⟩
     have yE:ax s k=x:=(jT s k cc).trans hx
     have fF:x<256:=by rw[←yE];exact lB s k
     have k0:(0:Int)≤(k:Int):=zH _
     have k1:(k:Int)<(s.size:Int):=by omega
     have Hbx:=aj yE
     clear yE
     by_cases Y7:x=q
     ·have Hr:Hid (fR s q 1=some (pre,k+1)):=by
       show _=_
       rw[aa Hu,gP cc ((aa Hbx).trans Y7)]
       simp
      have fq:((x:Int)==(q:Int))=true:=by simp;omega
      clear Hu Y7
      go_wp2
      go_quiet (fail)
      go_wp2
      go_ret2
      exact Rn (n:=k+1) (below_drewN (aa HB) _) (aa Hr) (aa HY)
     ·have fq:((x:Int)==(q:Int))=false:=by simp;omega
      have hz:=extract_size s k s.size (zD _)
      have hpd:=zx cc
      have Hpd:=aj hpd
      have Hxq:=aj Y7
      clear hpd Y7
      go_wp2
      go_quiet (fail)
      go_wp2_with fail
      refine (G8 (W:=wr.drewN nq) (hE.up (below_drewN (aa HB) _)) (s.extract k s.size) (by omega) (by omega)).mono ?_
      rintro e w2 ⟨bH,⟨ho,rfl⟩|⟨b,n,ho,rfl⟩⟩
      ·rw[aa Hpd] at ho
       have Hr:Hid (fR s q 1=none):=by
        show _=_
        rw[aa Hu,qh cc (by rw[aa Hbx];exact aa Hxq) ho]
        rfl
       have iU:Hid (Below W.heap.size W w2):=(below_drewN (aa HB) _).trans (bH.mono (aa HB).size)
       clear ho bH hz Hu
       go_wp2
       go_ret2
       exact Fc (aa iU) (aa Hr)
      ·rw[aa Hpd] at ho
       obtain ⟨p1,p2,p3⟩:=gH ho cc
       have Hr:Hid (fR s q 1=(fR s q (k+n)).map fun r=>((pre++[b])++r.1,r.2)):=by
        show _=_
        rw[aa Hu,ku cc (by rw[aa Hbx];exact aa Hxq) ho,Option.map_map]
        congr 1
        funext r
        simp
       have iU:Hid (Below W.heap.size W w2):=(below_drewN (aa HB) _).trans (bH.mono (aa HB).size)
       have HY2:Hid (Bytes W.heap.size w2 (.slice va vn vc) pre):=((aa HY).up (zE _ _)).up ((below_drewN (zE _ wr) _).trans bH)
       have lU:W.heap.size≤w2.heap.size:=(aa iU).size
       have n0:((n:Int)==0)=false:=by simp;omega
       have O1:Hid (pre.length+1≤maxLen):=by show _≤_;unfold maxLen;omega
       have O2:Hid ((pre.length+1)*1≤140737488355328):=by show _≤_;omega
       clear ho bH hz Hu HY HB
       go_wp2_with (at_builtin;refine wpList_append_own_at _ rfl _ _ 54 rfl W.heap.size 5 i0 (.int .u8 0) 1 1 Tryz.underlying54 hi nD nC oK rfl (by decide) _ _ _ rfl ((aa HY2).alloc _) ⟨w2.heap.size,0,none⟩ 1 1 [.int .u8 (b:Int)] rfl rfl (IY _ _ _) (by simp[Value.oneCell']) (aa O1) (aa O2) (by rw[zJ];omega) ?_;intro v4 w4 QB Lz _ Xe;have HP:Hid (XN W.heap.size w2 (.slice va vn vc) pre [b] (.returned v4) w4):=Kq (ys:=[b]) QB rfl rfl Lz Xe;clear QB Lz Xe)
       obtain ⟨v5,hv5,O5,WT⟩:=aa HP
       obtain rfl:v4=v5:=by simpa using hv5
       obtain ⟨va',vn',vc',rfl⟩:=O5.shape
       have Ji:Hid (Below W.heap.size W w4):=(aa iU).trans (WT.below lU (aa HY2).PT)
       have HY3:=aj O5
       clear O5 WT hv5 HP
       go_roundg (s.size-(k+n))
       case measure=>have:=aa fQ;omega
       case rel=>exact ⟨k+n,pre++[b],_,_,_,rfl,by go_num,rfl,by omega,by omega,by simp only[zK,List.length_singleton];omega,HY3,Hr,Ji⟩
    ·have Hr:Hid (fR s q 1=none):=by
      show _=_
      rw[aa Hu,lF cc]
      rfl
     obtain rfl:k=s.size:=by omega
     clear Hu
     go_wp2
     go_ret2
     exact Fc (aa HB) (aa Hr)
  ·have Hn:Hid (kJ s=none):=GC h0 (by rw[aa Hbq];exact QA)
   have hc:((cls q:Int) != 4)=true:=by
    have:=mt yS.1 QA
    simp;omega
   clear QA
   go_enter Tryz.func68,Tryz.ntmps68
   go_wp2_with fail
   refine (iS W q Jn).mono ?_
   rintro e w' ⟨rfl,he⟩
   obtain rfl:W=w':=he.symm
   go_wp2
   go_ret2
   exact Fc dN (aa Hn)
end Go.Proofs.YtmlphohdcejniaaGreatDoor

import Derived.Test.YtichhjfjcinjgaaGreatDoorQE
import Derived.Lib.AppendStr
set_option maxHeartbeats 2000000
set_option maxRecDepth 100000
namespace Go.Proofs.YtichhjfjcinjgaaGreatDoor
open Go.RowKit
attribute [local go_sem ↓] Go.wp_at_zero Go.wp_at_succ
theorem lL {c:Nat}{k:Int} (h:(c:Int)=k):((c:Int)==k)=true:=by simp;omega
theorem GK {s:ByteArray} (h:2≤s.size):∃a x r,aI s=a::x::r∧x<256∧∃h1:1<s.size,(s[1]'h1).toNat=x:=by
 obtain ⟨a,ha,_,_⟩:=cj s 0 (by omega)
 obtain ⟨x,hx,c8,gx⟩:=cj s 1 (by omega)
 match hs:aI s with
 |[]=>rw[hs] at ha;simp at ha
 |[_]=>rw[hs] at hx;simp at hx
 |p::q::r =>
  rw[hs] at hx
  obtain rfl:q=x:=by simpa using hx
  exact ⟨p,q,r,rfl,c8,by omega,gx⟩
theorem eu {a x v:Nat}{r:List Nat} (h:lR x=some v):dw (a::x::r)=some (v,2):=by simp[dw,h]
theorem ph {a x:Nat}{r:List Nat} (h:lR x=none) (h2:x=120∨x=88):dw (a::x::r)=fin (cE 16 2 r 0 0) 2:=by
 simp only[dw,h]
 rw[if_pos h2]
theorem A1 {a x:Nat}{r:List Nat} (h:lR x=none) (h2:¬(x=120∨x=88)):dw (a::x::r)=fin (cE 8 3 (x::r) 0 0) 1:=by
 simp only[dw,h]
 rw[if_neg h2]
theorem u9 {l:List Nat} (h:l.length<2):dw l=none:=by
 match l,h with
 |[],_=>rfl
 |[_],_=>rfl
theorem CZ {W:World} (hE:jM W) (s:ByteArray) (hs:s.size≤65536):Calls Tryz.prog 193 #[.string s] W (VN W (dw (aI s))):=by
 have bG:=zE W.heap.size W
 by_cases h2:2≤s.size
 ·have e0:decide ((s.size:Int)<2)=false:=by simp;omega
  obtain ⟨a,x,r,hl,c8,h1,gx⟩:=GK h2
  rw[hl]
  have Hl:=al hl
  clear hl
  by_cases CO:x=97
  ·have Hv:Hid (dw (a::x::r)=some (7,2)):=eu (by rw[CO];rfl)
   have f97:=lL (c:=x) (k:=97) (by omega)
   clear CO h2
   go_enter Tryz.func193,Tryz.ntmps193
   go_wp2
   go_ret2
   exact bI (v:=7) (n:=2) bG (ab Hv)
  have f97:=gw (c:=x) (k:=97) (by omega)
  by_cases D3:x=98
  ·have Hv:Hid (dw (a::x::r)=some (8,2)):=eu (by rw[D3];rfl)
   have f98:=lL (c:=x) (k:=98) (by omega)
   clear D3 h2 CO
   go_enter Tryz.func193,Tryz.ntmps193
   go_wp2
   go_ret2
   exact bI (v:=8) (n:=2) bG (ab Hv)
  have f98:=gw (c:=x) (k:=98) (by omega)
  by_cases p8:x=102
  ·have Hv:Hid (dw (a::x::r)=some (12,2)):=eu (by rw[p8];rfl)
   have f102:=lL (c:=x) (k:=102) (by omega)
   clear p8 h2 CO D3
   go_enter Tryz.func193,Tryz.ntmps193
   go_wp2
   go_ret2
   exact bI (v:=12) (n:=2) bG (ab Hv)
  have f102:=gw (c:=x) (k:=102) (by omega)
  by_cases rm:x=110
  ·have Hv:Hid (dw (a::x::r)=some (10,2)):=eu (by rw[rm];rfl)
   have f110:=lL (c:=x) (k:=110) (by omega)
   clear rm h2 CO D3 p8
   go_enter Tryz.func193,Tryz.ntmps193
   go_wp2
   go_ret2
   exact bI (v:=10) (n:=2) bG (ab Hv)
  have f110:=gw (c:=x) (k:=110) (by omega)
  by_cases uW:x=114
  ·have Hv:Hid (dw (a::x::r)=some (13,2)):=eu (by rw[uW];rfl)
   have f114:=lL (c:=x) (k:=114) (by omega)
   clear uW h2 CO D3 p8 rm
   go_enter Tryz.func193,Tryz.ntmps193
   go_wp2
   go_ret2
   exact bI (v:=13) (n:=2) bG (ab Hv)
  have f114:=gw (c:=x) (k:=114) (by omega)
  by_cases wg:x=116
  ·have Hv:Hid (dw (a::x::r)=some (9,2)):=eu (by rw[wg];rfl)
   have f116:=lL (c:=x) (k:=116) (by omega)
   clear wg h2 CO D3 p8 rm uW
   go_enter Tryz.func193,Tryz.ntmps193
   go_wp2
   go_ret2
   exact bI (v:=9) (n:=2) bG (ab Hv)
  have f116:=gw (c:=x) (k:=116) (by omega)
  by_cases yy:x=118
  ·have Hv:Hid (dw (a::x::r)=some (11,2)):=eu (by rw[yy];rfl)
   have f118:=lL (c:=x) (k:=118) (by omega)
   clear yy h2 CO D3 p8 rm uW wg
   go_enter Tryz.func193,Tryz.ntmps193
   go_wp2
   go_ret2
   exact bI (v:=11) (n:=2) bG (ab Hv)
  have f118:=gw (c:=x) (k:=118) (by omega)
  by_cases Ou:x=92
  ·have Hv:Hid (dw (a::x::r)=some (x,2)):=eu (by rw[Ou];rfl)
   have f92:=lL (c:=x) (k:=92) (by omega)
   clear Ou h2 CO D3 p8 rm uW wg yy
   go_enter Tryz.func193,Tryz.ntmps193
   go_wp2
   go_ret2
   exact bI (v:=x) (n:=2) bG (ab Hv)
  have f92:=gw (c:=x) (k:=92) (by omega)
  by_cases Qg:x=39
  ·have Hv:Hid (dw (a::x::r)=some (x,2)):=eu (by rw[Qg];rfl)
   have f39:=lL (c:=x) (k:=39) (by omega)
   clear Qg h2 CO D3 p8 rm uW wg yy Ou
   go_enter Tryz.func193,Tryz.ntmps193
   go_wp2
   go_ret2
   exact bI (v:=x) (n:=2) bG (ab Hv)
  have f39:=gw (c:=x) (k:=39) (by omega)
  by_cases SF:x=34
  ·have Hv:Hid (dw (a::x::r)=some (x,2)):=eu (by rw[SF];rfl)
   have f34:=lL (c:=x) (k:=34) (by omega)
   clear SF h2 CO D3 p8 rm uW wg yy Ou Qg
   go_enter Tryz.func193,Tryz.ntmps193
   go_wp2
   go_ret2
   exact bI (v:=x) (n:=2) bG (ab Hv)
  have f34:=gw (c:=x) (k:=34) (by omega)
  have AR:lR x=none:=by unfold lR;rw[if_neg CO,if_neg D3,if_neg p8,if_neg rm,if_neg uW,if_neg wg,if_neg yy,if_neg (by omega)]
  by_cases AU:x=120
  ·have hv:dw (a::x::r)=fin (cE 16 2 ((aI s).drop 2) 0 0) 2:=by rw[ab Hl];exact ph AR (by omega)
   rw[hv]
   have f120:=lL (c:=x) (k:=120) (by omega)
   clear hv AR AU CO D3 p8 rm uW wg yy Ou Qg SF
   go_enter Tryz.func193,Tryz.ntmps193
   go_wp2_with fail
   refine (vt hE s hs h2).mono ?_
   rintro e w1 ⟨aX,⟨ho,rfl⟩|⟨v,n,ho,rfl⟩⟩
   ·have Hb:=al aX
    have Ho:=al ho
    clear aX ho h2
    go_wp2
    go_ret2
    exact dJ (ab Hb) (ab Ho)
   ·have Hb:=al aX
    have Ho:=al ho
    clear aX ho h2
    go_wp2
    go_ret2
    exact bI (ab Hb) (ab Ho)
  have f120:=gw (c:=x) (k:=120) (by omega)
  by_cases Qd:x=88
  ·have hv:dw (a::x::r)=fin (cE 16 2 ((aI s).drop 2) 0 0) 2:=by rw[ab Hl];exact ph AR (by omega)
   rw[hv]
   have f88:=lL (c:=x) (k:=88) (by omega)
   clear hv AR Qd CO D3 p8 rm uW wg yy Ou Qg SF AU
   go_enter Tryz.func193,Tryz.ntmps193
   go_wp2_with fail
   refine (vt hE s hs h2).mono ?_
   rintro e w1 ⟨aX,⟨ho,rfl⟩|⟨v,n,ho,rfl⟩⟩
   ·have Hb:=al aX
    have Ho:=al ho
    clear aX ho h2
    go_wp2
    go_ret2
    exact dJ (ab Hb) (ab Ho)
   ·have Hb:=al aX
    have Ho:=al ho
    clear aX ho h2
    go_wp2
    go_ret2
    exact bI (ab Hb) (ab Ho)
  have f88:=gw (c:=x) (k:=88) (by omega)
  have hv:dw (a::x::r)=fin (cE 8 3 ((aI s).drop 1) 0 0) 1:=by rw[ab Hl];exact A1 AR (by omega)
  rw[hv]
  clear hv AR CO D3 p8 rm uW wg yy Ou Qg SF AU Qd
  go_enter Tryz.func193,Tryz.ntmps193
  go_wp2_with fail
  refine (C9 hE s hs (by omega)).mono ?_
  rintro e w1 ⟨aX,⟨ho,rfl⟩|⟨v,n,ho,rfl⟩⟩
  ·have Hb:=al aX
   have Ho:=al ho
   clear aX ho h2
   go_wp2
   go_ret2
   exact dJ (ab Hb) (ab Ho)
  ·have Hb:=al aX
   have Ho:=al ho
   clear aX ho h2
   go_wp2
   go_ret2
   exact bI (ab Hb) (ab Ho)
 ·have e0:decide ((s.size:Int)<2)=true:=by simp;omega
  have Hv:Hid (dw (aI s)=none):=u9 (by rw[aZ];omega)
  clear h2
  go_enter Tryz.func193,Tryz.ntmps193
  go_wp2
  go_ret2
  exact dJ bG (ab Hv)
theorem EU {W:World} (hE:jM W) (s:ByteArray) (h0:0<s.size) (hs:s.size≤65536):Calls Tryz.prog 180 #[.string s] W (VN W (cY s 0)):=by
 have bG:=zE W.heap.size W
 obtain ⟨x,hx⟩:∃x:Nat,s[0].toNat=x:=⟨_,rfl⟩
 have dP:aD s 0=x:=(dr s 0 h0).trans hx
 have c8:x<256:=by rw[←dP];exact dy s 0
 have hp:cY s 0=if x=0∨x=10 then none else if x=92 then dw (aI s) else some (x,1):=by unfold cY;rw[dP];rfl
 rw[hp]
 clear hp dP
 by_cases c0:x=0
 ·rw[if_pos (.inl c0)]
  have f0:=lL (c:=x) (k:=0) (by omega)
  clear c0
  go_enter Tryz.func180,Tryz.ntmps180
  go_wp2
  go_ret2
  exact dJ bG rfl
 have f0:=gw (c:=x) (k:=0) (by omega)
 by_cases c1:x=10
 ·rw[if_pos (.inr c1)]
  have f1:=lL (c:=x) (k:=10) (by omega)
  clear c0 c1
  go_enter Tryz.func180,Tryz.ntmps180
  go_wp2
  go_ret2
  exact dJ bG rfl
 have f1:=gw (c:=x) (k:=10) (by omega)
 by_cases c2:x=92
 ·rw[if_neg (by omega),if_pos c2]
  have f2:=lL (c:=x) (k:=92) (by omega)
  clear c0 c1 c2
  go_enter Tryz.func180,Tryz.ntmps180
  go_wp2_with fail
  refine (CZ hE s hs).mono ?_
  rintro e w1 ⟨aX,⟨ho,rfl⟩|⟨v,n,ho,rfl⟩⟩
  ·have Hb:=al aX
   have Ho:=al ho
   clear aX ho
   go_wp2
   go_ret2
   exact dJ (ab Hb) (ab Ho)
  ·have Hb:=al aX
   have Ho:=al ho
   clear aX ho
   go_wp2
   go_ret2
   exact bI (ab Hb) (ab Ho)
 have f2:=gw (c:=x) (k:=92) (by omega)
 rw[if_neg (by omega),if_neg c2]
 clear c0 c1 c2
 go_enter Tryz.func180,Tryz.ntmps180
 go_wp2
 go_ret2
 exact bI (v:=x) (n:=1) bG rfl
end Go.Proofs.YtichhjfjcinjgaaGreatDoor
namespace Go.Proofs.YtichhjfjcinjgaaGreatDoor
open Go.RowKit Go.Lib
attribute [local go_sem ↓] Go.wp_at_zero Go.wp_at_succ
theorem wm {P:Program} (w:World) (base:Nat) (t u ty e:TypeId) (i:TypeInfo) (ht:P.underlying t=some (.slice e)) (hu:P.underlying u=some .string) (hi:P.info? e=some i) (hz:i.zero=some (.int .u8 0))
  (uM:i.size=1) (ey:i.bytes=1) (v:Value) (n:Nat) (xs:List Value) (gJ:w.ownsRow base e 1 v n xs) (s:ByteArray)
  (Qe:n+s.size≤maxLen) (uS:n+s.size≤140737488355328) (AT:base≤w.heap.size) :
  ∃v' w',(Builtin.append_ #[t,u] ty #[v,.string s]).run P w=.ok v' w'∧w'.ownsRow base e 1 v' (n+s.size) (xs++strCells s)∧w.grownBy w' v.ownBlock∧(v'.ownBlock=v.ownBlock∨v'.ownBlock=some w.heap.size):=by
 obtain ⟨v',w',hr,h2,h3,h4⟩:=run_append_own_string (P:=P) w base t u ty e i ht hu hi hz uM ey v n xs gJ s Qe uS AT
 refine ⟨v',w',hr,h2,h3,?_⟩
 have y7:xs.length=n:=by simpa using gJ.1
 unfold maxLen at Qe
 have RS:=gJ
 rcases RS.2 with ⟨rfl,rfl⟩|⟨g,cap,cur,rfl,ME,hg,hnc,hcm,rk,Zj⟩
 ·by_cases hm:s.size=0
  ·exact .inl (by rw[h4.2 ⟨rfl,hm⟩])
  ·have Mv:=run_append_nil_string (P:=P) w t u ty e i (.int .u8 0) ht hu hi hz s (by omega) (by omega) (by rw[ey];omega)
   rw[hr] at Mv
   injection Mv with e1 e2
   exact .inr (by rw[e1];rfl)
 ·by_cases RJ:n+s.size≤cap
  ·have aav:cur.size=cap:=by simpa using rk
   have Mv:=run_append_room_string (P:=P) w t u ty e i ht hu hi uM g n cap cur hg s RJ (by omega)
   rw[hr] at Mv
   injection Mv with e1 e2
   exact .inl (by rw[e1];rfl)
  ·have holds:∀j x,xs[j]?=some x→w.cell? ((⟨g,0,none⟩:Addr).add j)=some x:=gJ.cells (g:=g) rfl
   have Mv:=run_append_grow_string (P:=P) w t u ty e i (.int .u8 0) ht hu hi hz ⟨g,0,none⟩ n cap xs (by rw[uM];simpa using y7) holds s (by omega) (by omega) (by rw[ey];exact growslice_fits (by omega) (by omega))
   rw[hr] at Mv
   injection Mv with e1 e2
   exact .inr (by rw[e1];rfl)
theorem bX {P:Program}{w:World}{ops:Array Oper}{rest:List Oper}{o:Oper}{a:Act}{Q:Exit→Act→World→Prop} (Bz:o.guard=none) (sl x:Operand) (t u:TypeId)
  (ho:o.op=.call { callee:=.builtin .append,args:=#[sl,x],argTypes:=#[t,u] })
  (base:Nat) (e:TypeId) (i:TypeInfo) (ht:P.underlying t=some (.slice e)) (hu:P.underlying u=some .string) (hi:P.info? e=some i) (hz:i.zero=some (.int .u8 0))
  (uM:i.size=1) (ey:i.bytes=1) (v:Value) (n:Nat) (xs:List Value) (hs:a.eval sl=v) (gJ:w.ownsRow base e 1 v n xs) (s:ByteArray) (hx:a.eval x=.string s)
  (Qe:n+s.size≤maxLen) (uS:n+s.size≤140737488355328) (AT:base≤w.heap.size)
  (h:∀v' w',w'.ownsRow base e 1 v' (n+s.size) (xs++strCells s)→w.grownBy w' v.ownBlock→(v'.ownBlock=v.ownBlock∨v'.ownBlock=some w.heap.size)→wpList P ops Q rest (a.put o.dst v') w'):wpList P ops Q (o::rest) a w:=by
 refine wpList_plain Bz fun K hK=>?_
 obtain ⟨v',w',hr,h2,h3,h4⟩:=wm (P:=P) w base t u o.type e i ht hu hi hz uM ey v n xs gJ s Qe uS AT
 unfold Oper.wp execOp
 simp only[ho,resolve,invoke,builtin,Sem.run_bind,Sem.run_pure,Result.andThen_ok,List.map_toArray,List.map_cons,List.map_nil,hs,hx,hr]
 exact hK _ _ (h v' w' h2 h3 h4)
theorem eB (s:ByteArray):strCells s=nb (aI s):=by
 unfold strCells nb aI
 simp[List.map_map]
theorem dq (w:World) (l:List Value) (t:TypeId):∀j u,l[j]?=some u→(w.alloc (.cells l.toArray t)).cell? ((⟨w.heap.size,0,none⟩:Addr).add j)=some u:=by
 intro j u h
 rw[Go.WideShapes.add_plain,cell_of_row _ _ _ _ _ _ (aJ w _)]
 simpa using h
def mU (x:Nat):List Nat:=if x=92∨x=34 then [92,x] else if x=10 then [92,110] else if x=13 then [92,114] else if x=9 then [92,116] else [92,48+x / 64,48+x / 8 % 8,48+x % 8]
theorem LH (x:Nat):(mU x).length≤4:=by
 unfold mU
 repeat' split
 all_goals simp
theorem LI {x:Nat} (h:x<256):ns (mU x):=by
 have key:∀k:Fin 256,(mU k.val).all (·<256)=true:=by decide +kernel
 intro y hy
 have:=List.all_eq_true.1 (key ⟨x,h⟩) y hy
 simpa using this
theorem EX {x:Nat} (h:x<256):bits .and .u8 ((x / 8:Nat):Int) 7=((x / 8 % 8:Nat):Int)∧bits .and .u8 ((x:Nat):Int) 7=((x % 8:Nat):Int):=by
 have key:∀k:Fin 256,bits .and .u8 ((k.val / 8:Nat):Int) 7=((k.val / 8 % 8:Nat):Int)∧bits .and .u8 ((k.val:Nat):Int) 7=((k.val % 8:Nat):Int):=by decide +kernel
 exact key ⟨x,h⟩
def ow (base:Nat) (W:World) (v:Value) (xs ys:List Nat) (e:Ending) (W':World):Prop:=∃v',e=.returned v'∧Bytes base W' v' (xs++ys)∧Ext W v W' v'
theorem eN {W w:World}{base n:Nat}{v v':Value}{xs ys:List Nat}{cs:List Value}{ob:Obj} (gJ:w.ownsRow base 5 1 v' n (nb xs++cs)) (hn:n=xs.length+ys.length) (rk:cs=nb ys) (hg:(W.alloc ob).grownBy w v.ownBlock) (pF:v'.ownBlock=v.ownBlock∨v'.ownBlock=some (W.alloc ob).heap.size) :
  ow base W v xs ys (.returned v') w:=by
 subst hn rk
 refine ⟨v',rfl,?_,Ext.grown hg pF⟩
 unfold Bytes
 rw[kT,zK]
 exact gJ
theorem iD {W w:World}{base n:Nat}{v v':Value}{xs ys:List Nat}{cs:List Value} (gJ:w.ownsRow base 5 1 v' n (nb xs++cs)) (hn:n=xs.length+ys.length) (rk:cs=nb ys) (hg:W.grownBy w v.ownBlock) (pF:v'.ownBlock=v.ownBlock∨v'.ownBlock=some W.heap.size) :
  ow base W v xs ys (.returned v') w:=by
 subst hn rk
 refine ⟨v',rfl,?_,Ext.Ov hg pF⟩
 unfold Bytes
 rw[kT,zK]
 exact gJ
theorem vU {W:World}{base:Nat}{v:Value}{xs:List Nat} (h:Bytes base W v xs) (hb:base≤W.heap.size) (hl:xs.length≤8388608) (x:Nat) (hx:x<256) :
  Calls Tryz.prog 87 #[v,.int .u8 (x:Int)] W (ow base W v xs (mU x)):=by
 obtain ⟨i0,hi,fU,dS,da⟩:=info_parts Tryz.infoByte
 have hv:∃a n c,v=.slice a n c:=by
  obtain ⟨a,c,rfl,_⟩:=h.has
  exact ⟨_,_,_,rfl⟩
 obtain ⟨va,vn,vc,rfl⟩:=hv
 have HY:=al h
 clear h
 by_cases h1:x=92
 ·have e1:((x:Int)==92)=true:=by simp;omega
  have o1:xs.length+2≤maxLen:=by unfold maxLen;omega
  have o2:(xs.length+2)*1≤140737488355328:=by omega
  have he:mU x=[92,x]:=by unfold mU;rw[if_pos (.inl h1)]
  rw[he]
  clear he h1
  go_enter Tryz.func87,Tryz.ntmps87
  go_wp2_with (at_builtin;refine wpList_append_own_at _ rfl _ _ 58 rfl base 5 i0 (.int .u8 0) 1 1 Tryz.underlying58 hi fU dS da rfl (by decide) _ _ _ rfl ((ab HY).alloc _) ⟨W.heap.size,0,none⟩ 2 2 [.int .u8 92,.int .u8 (x:Int)] rfl rfl (dq _ _ _) (by simp[Value.oneCell']) o1 o2 (by rw[zJ];omega) ?_;intro v4 w4 bK ba _ cK;have iN:=al bK;have kz:=al ba;have Ep:=al cK;clear bK ba cK)
  go_ret
  exact eN (ys:=[92,x]) (ab iN) rfl rfl (ab kz) (ab Ep)
 ·have e1:=gw (c:=x) (k:=92) (by omega)
  by_cases h2:x=34
  ·have e2:((x:Int)==34)=true:=by simp;omega
   have o1:xs.length+2≤maxLen:=by unfold maxLen;omega
   have o2:(xs.length+2)*1≤140737488355328:=by omega
   have he:mU x=[92,x]:=by unfold mU;rw[if_pos (.inr h2)]
   rw[he]
   clear he h1 h2
   go_enter Tryz.func87,Tryz.ntmps87
   go_wp2_with (at_builtin;refine wpList_append_own_at _ rfl _ _ 58 rfl base 5 i0 (.int .u8 0) 1 1 Tryz.underlying58 hi fU dS da rfl (by decide) _ _ _ rfl ((ab HY).alloc _) ⟨W.heap.size,0,none⟩ 2 2 [.int .u8 92,.int .u8 (x:Int)] rfl rfl (dq _ _ _) (by simp[Value.oneCell']) o1 o2 (by rw[zJ];omega) ?_;intro v4 w4 bK ba _ cK;have iN:=al bK;have kz:=al ba;have Ep:=al cK;clear bK ba cK)
   go_ret
   exact eN (ys:=[92,x]) (ab iN) rfl rfl (ab kz) (ab Ep)
  ·have e2:=gw (c:=x) (k:=34) (by omega)
   have MI:¬(x=92∨x=34):=fun q=>q.elim h1 h2
   by_cases g0:x=10
   ·have f0:((x:Int)==10)=true:=by simp;omega
    have o1:xs.length+2≤maxLen:=by unfold maxLen;omega
    have he:mU x=[92,110]:=by unfold mU;rw[if_neg MI];rw[if_pos g0]
    rw[he]
    clear he h1 h2 MI g0
    go_enter Tryz.func87,Tryz.ntmps87
    go_wp2_with (at_builtin;refine bX rfl _ _ 58 9 rfl base 5 i0 Tryz.underlying58 Tryz.underlying9 hi fU dS da _ _ _ rfl (ab HY) ⟨#[92,110]⟩ rfl o1 (by show xs.length+2≤_;omega) hb ?_;intro v4 w4 bK ba cK;have iN:=al bK;have kz:=al ba;have Ep:=al cK;clear bK ba cK)
    go_ret
    exact iD (ys:=[92,110]) (ab iN) rfl (eB _) (ab kz) (ab Ep)
   ·have f0:=gw (c:=x) (k:=10) (by omega)
    by_cases g1:x=13
    ·have f1:((x:Int)==13)=true:=by simp;omega
     have o1:xs.length+2≤maxLen:=by unfold maxLen;omega
     have he:mU x=[92,114]:=by unfold mU;rw[if_neg MI];rw[if_neg g0];rw[if_pos g1]
     rw[he]
     clear he h1 h2 MI g0 g1
     go_enter Tryz.func87,Tryz.ntmps87
     go_wp2_with (at_builtin;refine bX rfl _ _ 58 9 rfl base 5 i0 Tryz.underlying58 Tryz.underlying9 hi fU dS da _ _ _ rfl (ab HY) ⟨#[92,114]⟩ rfl o1 (by show xs.length+2≤_;omega) hb ?_;intro v4 w4 bK ba cK;have iN:=al bK;have kz:=al ba;have Ep:=al cK;clear bK ba cK)
     go_ret
     exact iD (ys:=[92,114]) (ab iN) rfl (eB _) (ab kz) (ab Ep)
    ·have f1:=gw (c:=x) (k:=13) (by omega)
     by_cases g2:x=9
     ·have f2:((x:Int)==9)=true:=by simp;omega
      have o1:xs.length+2≤maxLen:=by unfold maxLen;omega
      have he:mU x=[92,116]:=by unfold mU;rw[if_neg MI];rw[if_neg g0];rw[if_neg g1];rw[if_pos g2]
      rw[he]
      clear he h1 h2 MI g0 g1 g2
      go_enter Tryz.func87,Tryz.ntmps87
      go_wp2_with (at_builtin;refine bX rfl _ _ 58 9 rfl base 5 i0 Tryz.underlying58 Tryz.underlying9 hi fU dS da _ _ _ rfl (ab HY) ⟨#[92,116]⟩ rfl o1 (by show xs.length+2≤_;omega) hb ?_;intro v4 w4 bK ba cK;have iN:=al bK;have kz:=al ba;have Ep:=al cK;clear bK ba cK)
      go_ret
      exact iD (ys:=[92,116]) (ab iN) rfl (eB _) (ab kz) (ab Ep)
     ·have f2:=gw (c:=x) (k:=9) (by omega)
      have he:mU x=[92,48+x / 64,48+x / 8 % 8,48+x % 8]:=by unfold mU;rw[if_neg MI];rw[if_neg g0];rw[if_neg g1];rw[if_neg g2]
      rw[he]
      clear he h1 h2 MI g0 g1 g2
      obtain ⟨q1,q2⟩:=EX hx
      have q3:bits .and .u8 ((x:Int) / 8) 7=((x / 8 % 8:Nat):Int):=by rw[show ((x:Int) / 8)=((x / 8:Nat):Int) by omega];exact q1
      have o1:xs.length+4≤maxLen:=by unfold maxLen;omega
      have o2:(xs.length+4)*1≤140737488355328:=by omega
      go_enter Tryz.func87,Tryz.ntmps87
      go_wp2_with (at_builtin;refine wpList_append_own_at _ rfl _ _ 58 rfl base 5 i0 (.int .u8 0) 1 1 Tryz.underlying58 hi fU dS da rfl (by decide) _ _ _ rfl ((ab HY).alloc _) ⟨W.heap.size,0,none⟩ 4 4 [.int .u8 92,.int .u8 (48+(x:Int) / 64),.int .u8 (48+(x:Int) / 8 % 8),.int .u8 (48+(x:Int) % 8)] rfl rfl (dq _ _ _) (by simp[Value.oneCell']) o1 o2 (by rw[zJ];omega) ?_;intro v4 w4 bK ba _ cK;have iN:=al bK;have kz:=al ba;have Ep:=al cK;clear bK ba cK)
      go_ret
      exact eN (ys:=[92,48+x / 64,48+x / 8 % 8,48+x % 8]) (ab iN) rfl (by simp[nb]) (ab kz) (ab Ep)
end Go.Proofs.YtichhjfjcinjgaaGreatDoor

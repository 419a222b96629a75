import Derived.Test.YtghioefalckgoaaGreatDoorQE
import Derived.Lib.AppendStr
set_option maxHeartbeats 2000000
set_option maxRecDepth 100000
namespace Go.Proofs.YtghioefalckgoaaGreatDoor
open Go.RowKit
attribute [local go_sem ↓] Go.wp_at_zero Go.wp_at_succ
theorem nQ {c:Nat}{k:Int} (h:(c:Int)=k):((c:Int)==k)=true:=by simp;omega
theorem Iu {s:ByteArray} (h:2≤s.size):∃a x r,aO s=a::x::r∧x<256∧∃h1:1<s.size,(s[1]'h1).toNat=x:=by
 obtain ⟨a,ha,_,_⟩:=iI s 0 (by omega)
 obtain ⟨x,hx,dr,gx⟩:=iI s 1 (by omega)
 match hs:aO s with
 |[]=>rw[hs] at ha;simp at ha
 |[_]=>rw[hs] at hx;simp at hx
 |p::q::r =>
  rw[hs] at hx
  obtain rfl:q=x:=by simpa using hx
  exact ⟨p,q,r,rfl,dr,by omega,gx⟩
theorem ed {a x v:Nat}{r:List Nat} (h:uU x=some v):gd (a::x::r)=some (v,2):=by simp[gd,h]
theorem Bn {a x:Nat}{r:List Nat} (h:uU x=none) (h2:x=120∨x=88):gd (a::x::r)=fin (dt 16 2 r 0 0) 2:=by
 simp only[gd,h]
 rw[if_pos h2]
theorem Kk {a x:Nat}{r:List Nat} (h:uU x=none) (h2:¬(x=120∨x=88)):gd (a::x::r)=fin (dt 8 3 (x::r) 0 0) 1:=by
 simp only[gd,h]
 rw[if_neg h2]
theorem Db {l:List Nat} (h:l.length<2):gd l=none:=by
 match l,h with
 |[],_=>rfl
 |[_],_=>rfl
theorem Da {W:World} (hE:ji W) (s:ByteArray) (hs:s.size≤65536):Calls Tryz.prog 274 #[.string s] W (VN W (gd (aO s))):=by
 have bq:=zE W.heap.size W
 by_cases h2:2≤s.size
 ·have e0:decide ((s.size:Int)<2)=false:=by simp;omega
  obtain ⟨a,x,r,hl,dr,h1,gx⟩:=Iu h2
  rw[hl]
  have Hl:=ak hl
  clear hl
  by_cases CX:x=97
  ·have Hv:Hid (gd (a::x::r)=some (7,2)):=ed (by rw[CX];rfl)
   have f97:=nQ (c:=x) (k:=97) (by omega)
   clear CX h2
   go_enter Tryz.func274,Tryz.ntmps274
   go_wp2
   go_ret2
   exact bV (v:=7) (n:=2) bq (ab Hv)
  have f97:=lQ (c:=x) (k:=97) (by omega)
  by_cases Eb:x=98
  ·have Hv:Hid (gd (a::x::r)=some (8,2)):=ed (by rw[Eb];rfl)
   have f98:=nQ (c:=x) (k:=98) (by omega)
   clear Eb h2 CX
   go_enter Tryz.func274,Tryz.ntmps274
   go_wp2
   go_ret2
   exact bV (v:=8) (n:=2) bq (ab Hv)
  have f98:=lQ (c:=x) (k:=98) (by omega)
  by_cases p9:x=102
  ·have Hv:Hid (gd (a::x::r)=some (12,2)):=ed (by rw[p9];rfl)
   have f102:=nQ (c:=x) (k:=102) (by omega)
   clear p9 h2 CX Eb
   go_enter Tryz.func274,Tryz.ntmps274
   go_wp2
   go_ret2
   exact bV (v:=12) (n:=2) bq (ab Hv)
  have f102:=lQ (c:=x) (k:=102) (by omega)
  by_cases rf:x=110
  ·have Hv:Hid (gd (a::x::r)=some (10,2)):=ed (by rw[rf];rfl)
   have f110:=nQ (c:=x) (k:=110) (by omega)
   clear rf h2 CX Eb p9
   go_enter Tryz.func274,Tryz.ntmps274
   go_wp2
   go_ret2
   exact bV (v:=10) (n:=2) bq (ab Hv)
  have f110:=lQ (c:=x) (k:=110) (by omega)
  by_cases vD:x=114
  ·have Hv:Hid (gd (a::x::r)=some (13,2)):=ed (by rw[vD];rfl)
   have f114:=nQ (c:=x) (k:=114) (by omega)
   clear vD h2 CX Eb p9 rf
   go_enter Tryz.func274,Tryz.ntmps274
   go_wp2
   go_ret2
   exact bV (v:=13) (n:=2) bq (ab Hv)
  have f114:=lQ (c:=x) (k:=114) (by omega)
  by_cases wW:x=116
  ·have Hv:Hid (gd (a::x::r)=some (9,2)):=ed (by rw[wW];rfl)
   have f116:=nQ (c:=x) (k:=116) (by omega)
   clear wW h2 CX Eb p9 rf vD
   go_enter Tryz.func274,Tryz.ntmps274
   go_wp2
   go_ret2
   exact bV (v:=9) (n:=2) bq (ab Hv)
  have f116:=lQ (c:=x) (k:=116) (by omega)
  by_cases yV:x=118
  ·have Hv:Hid (gd (a::x::r)=some (11,2)):=ed (by rw[yV];rfl)
   have f118:=nQ (c:=x) (k:=118) (by omega)
   clear yV h2 CX Eb p9 rf vD wW
   go_enter Tryz.func274,Tryz.ntmps274
   go_wp2
   go_ret2
   exact bV (v:=11) (n:=2) bq (ab Hv)
  have f118:=lQ (c:=x) (k:=118) (by omega)
  by_cases Ru:x=92
  ·have Hv:Hid (gd (a::x::r)=some (x,2)):=ed (by rw[Ru];rfl)
   have f92:=nQ (c:=x) (k:=92) (by omega)
   clear Ru h2 CX Eb p9 rf vD wW yV
   go_enter Tryz.func274,Tryz.ntmps274
   go_wp2
   go_ret2
   exact bV (v:=x) (n:=2) bq (ab Hv)
  have f92:=lQ (c:=x) (k:=92) (by omega)
  by_cases TC:x=39
  ·have Hv:Hid (gd (a::x::r)=some (x,2)):=ed (by rw[TC];rfl)
   have f39:=nQ (c:=x) (k:=39) (by omega)
   clear TC h2 CX Eb p9 rf vD wW yV Ru
   go_enter Tryz.func274,Tryz.ntmps274
   go_wp2
   go_ret2
   exact bV (v:=x) (n:=2) bq (ab Hv)
  have f39:=lQ (c:=x) (k:=39) (by omega)
  by_cases VZ:x=34
  ·have Hv:Hid (gd (a::x::r)=some (x,2)):=ed (by rw[VZ];rfl)
   have f34:=nQ (c:=x) (k:=34) (by omega)
   clear VZ h2 CX Eb p9 rf vD wW yV Ru TC
   go_enter Tryz.func274,Tryz.ntmps274
   go_wp2
   go_ret2
   exact bV (v:=x) (n:=2) bq (ab Hv)
  have f34:=lQ (c:=x) (k:=34) (by omega)
  have Ng:uU x=none:=by unfold uU;rw[if_neg CX,if_neg Eb,if_neg p9,if_neg rf,if_neg vD,if_neg wW,if_neg yV,if_neg (by omega)]
  by_cases Rv:x=120
  ·have hv:gd (a::x::r)=fin (dt 16 2 ((aO s).drop 2) 0 0) 2:=by rw[ab Hl];exact Bn Ng (by omega)
   rw[hv]
   have f120:=nQ (c:=x) (k:=120) (by omega)
   clear hv Ng Rv CX Eb p9 rf vD wW yV Ru TC VZ
   go_enter Tryz.func274,Tryz.ntmps274
   go_wp2_with fail
   refine (vM hE s hs h2).mono ?_
   rintro e w1 ⟨aY,⟨ho,rfl⟩|⟨v,n,ho,rfl⟩⟩
   ·have Hb:=ak aY
    have Ho:=ak ho
    clear aY ho h2
    go_wp2
    go_ret2
    exact js (ab Hb) (ab Ho)
   ·have Hb:=ak aY
    have Ho:=ak ho
    clear aY ho h2
    go_wp2
    go_ret2
    exact bV (ab Hb) (ab Ho)
  have f120:=lQ (c:=x) (k:=120) (by omega)
  by_cases h88:x=88
  ·have hv:gd (a::x::r)=fin (dt 16 2 ((aO s).drop 2) 0 0) 2:=by rw[ab Hl];exact Bn Ng (by omega)
   rw[hv]
   have f88:=nQ (c:=x) (k:=88) (by omega)
   clear hv Ng h88 CX Eb p9 rf vD wW yV Ru TC VZ Rv
   go_enter Tryz.func274,Tryz.ntmps274
   go_wp2_with fail
   refine (vM hE s hs h2).mono ?_
   rintro e w1 ⟨aY,⟨ho,rfl⟩|⟨v,n,ho,rfl⟩⟩
   ·have Hb:=ak aY
    have Ho:=ak ho
    clear aY ho h2
    go_wp2
    go_ret2
    exact js (ab Hb) (ab Ho)
   ·have Hb:=ak aY
    have Ho:=ak ho
    clear aY ho h2
    go_wp2
    go_ret2
    exact bV (ab Hb) (ab Ho)
  have f88:=lQ (c:=x) (k:=88) (by omega)
  have hv:gd (a::x::r)=fin (dt 8 3 ((aO s).drop 1) 0 0) 1:=by rw[ab Hl];exact Kk Ng (by omega)
  rw[hv]
  clear hv Ng CX Eb p9 rf vD wW yV Ru TC VZ Rv h88
  go_enter Tryz.func274,Tryz.ntmps274
  go_wp2_with fail
  refine (Dj hE s hs (by omega)).mono ?_
  rintro e w1 ⟨aY,⟨ho,rfl⟩|⟨v,n,ho,rfl⟩⟩
  ·have Hb:=ak aY
   have Ho:=ak ho
   clear aY ho h2
   go_wp2
   go_ret2
   exact js (ab Hb) (ab Ho)
  ·have Hb:=ak aY
   have Ho:=ak ho
   clear aY ho h2
   go_wp2
   go_ret2
   exact bV (ab Hb) (ab Ho)
 ·have e0:decide ((s.size:Int)<2)=true:=by simp;omega
  have Hv:Hid (gd (aO s)=none):=Db (by rw[bg];omega)
  clear h2
  go_enter Tryz.func274,Tryz.ntmps274
  go_wp2
  go_ret2
  exact js bq (ab Hv)
theorem E5 {W:World} (hE:ji W) (s:ByteArray) (h0:0<s.size) (hs:s.size≤65536):Calls Tryz.prog 233 #[.string s] W (VN W (dv s 0)):=by
 have bq:=zE W.heap.size W
 obtain ⟨x,hx⟩:∃x:Nat,s[0].toNat=x:=⟨_,rfl⟩
 have iH:aF s 0=x:=(fE s 0 h0).trans hx
 have dr:x<256:=by rw[←iH];exact fD s 0
 have hp:dv s 0=if x=0∨x=10 then none else if x=92 then gd (aO s) else some (x,1):=by unfold dv;rw[iH];rfl
 rw[hp]
 clear hp iH
 by_cases c0:x=0
 ·rw[if_pos (.inl c0)]
  have f0:=nQ (c:=x) (k:=0) (by omega)
  clear c0
  go_enter Tryz.func233,Tryz.ntmps233
  go_wp2
  go_ret2
  exact js bq rfl
 have f0:=lQ (c:=x) (k:=0) (by omega)
 by_cases c1:x=10
 ·rw[if_pos (.inr c1)]
  have f1:=nQ (c:=x) (k:=10) (by omega)
  clear c0 c1
  go_enter Tryz.func233,Tryz.ntmps233
  go_wp2
  go_ret2
  exact js bq rfl
 have f1:=lQ (c:=x) (k:=10) (by omega)
 by_cases c2:x=92
 ·rw[if_neg (by omega),if_pos c2]
  have f2:=nQ (c:=x) (k:=92) (by omega)
  clear c0 c1 c2
  go_enter Tryz.func233,Tryz.ntmps233
  go_wp2_with fail
  refine (Da hE s hs).mono ?_
  rintro e w1 ⟨aY,⟨ho,rfl⟩|⟨v,n,ho,rfl⟩⟩
  ·have Hb:=ak aY
   have Ho:=ak ho
   clear aY ho
   go_wp2
   go_ret2
   exact js (ab Hb) (ab Ho)
  ·have Hb:=ak aY
   have Ho:=ak ho
   clear aY ho
   go_wp2
   go_ret2
   exact bV (ab Hb) (ab Ho)
 have f2:=lQ (c:=x) (k:=92) (by omega)
 rw[if_neg (by omega),if_neg c2]
 clear c0 c1 c2
 go_enter Tryz.func233,Tryz.ntmps233
 go_wp2
 go_ret2
 exact bV (v:=x) (n:=1) bq rfl
end Go.Proofs.YtghioefalckgoaaGreatDoor
namespace Go.Proofs.YtghioefalckgoaaGreatDoor
open Go.RowKit Go.Lib
attribute [local go_sem ↓] Go.wp_at_zero Go.wp_at_succ
theorem wZ {P:Program} (w:World) (base:Nat) (t u ty e:TypeId) (i:TypeInfo) (ht:P.underlying t=some (.slice e)) (hu:P.underlying u=some .string) (hi:P.info? e=some i) (hz:i.zero=some (.int .u8 0))
  (fQ:i.size=1) (jD:i.bytes=1) (v:Value) (n:Nat) (xs:List Value) (cU:w.ownsRow base e 1 v n xs) (s:ByteArray)
  (Ec:n+s.size≤maxLen) (gE:n+s.size≤140737488355328) (ns:base≤w.heap.size) :
  ∃v' w',(Builtin.append_ #[t,u] ty #[v,.string s]).run P w=.ok v' w'∧w'.ownsRow base e 1 v' (n+s.size) (xs++strCells s)∧w.grownBy w' v.ownBlock∧(v'.ownBlock=v.ownBlock∨v'.ownBlock=some w.heap.size):=by
 obtain ⟨v',w',hr,h2,h3,h4⟩:=run_append_own_string (P:=P) w base t u ty e i ht hu hi hz fQ jD v n xs cU s Ec gE ns
 refine ⟨v',w',hr,h2,h3,?_⟩
 have CI:xs.length=n:=by simpa using cU.1
 unfold maxLen at Ec
 have Vf:=cU
 rcases Vf.2 with ⟨rfl,rfl⟩|⟨g,cap,cur,rfl,GP,hg,hnc,hcm,lN,U6⟩
 ·by_cases hm:s.size=0
  ·exact .inl (by rw[h4.2 ⟨rfl,hm⟩])
  ·have O3:=run_append_nil_string (P:=P) w t u ty e i (.int .u8 0) ht hu hi hz s (by omega) (by omega) (by rw[jD];omega)
   rw[hr] at O3
   injection O3 with e1 e2
   exact .inr (by rw[e1];rfl)
 ·by_cases A8:n+s.size≤cap
  ·have abw:cur.size=cap:=by simpa using lN
   have O3:=run_append_room_string (P:=P) w t u ty e i ht hu hi fQ g n cap cur hg s A8 (by omega)
   rw[hr] at O3
   injection O3 with e1 e2
   exact .inl (by rw[e1];rfl)
  ·have holds:∀j x,xs[j]?=some x→w.cell? ((⟨g,0,none⟩:Addr).add j)=some x:=cU.cells (g:=g) rfl
   have O3:=run_append_grow_string (P:=P) w t u ty e i (.int .u8 0) ht hu hi hz ⟨g,0,none⟩ n cap xs (by rw[fQ];simpa using CI) holds s (by omega) (by omega) (by rw[jD];exact growslice_fits (by omega) (by omega))
   rw[hr] at O3
   injection O3 with e1 e2
   exact .inr (by rw[e1];rfl)
theorem cW {P:Program}{w:World}{ops:Array Oper}{rest:List Oper}{o:Oper}{a:Act}{Q:Exit→Act→World→Prop} (wg:o.guard=none) (sl x:Operand) (t u:TypeId)
  (ho:o.op=.call { callee:=.builtin .append,args:=#[sl,x],argTypes:=#[t,u] })
  (base:Nat) (e:TypeId) (i:TypeInfo) (ht:P.underlying t=some (.slice e)) (hu:P.underlying u=some .string) (hi:P.info? e=some i) (hz:i.zero=some (.int .u8 0))
  (fQ:i.size=1) (jD:i.bytes=1) (v:Value) (n:Nat) (xs:List Value) (hs:a.eval sl=v) (cU:w.ownsRow base e 1 v n xs) (s:ByteArray) (hx:a.eval x=.string s)
  (Ec:n+s.size≤maxLen) (gE:n+s.size≤140737488355328) (ns:base≤w.heap.size)
  (h:∀v' w',w'.ownsRow base e 1 v' (n+s.size) (xs++strCells s)→w.grownBy w' v.ownBlock→(v'.ownBlock=v.ownBlock∨v'.ownBlock=some w.heap.size)→wpList P ops Q rest (a.put o.dst v') w'):wpList P ops Q (o::rest) a w:=by
 refine wpList_plain wg fun K hK=>?_
 obtain ⟨v',w',hr,h2,h3,h4⟩:=wZ (P:=P) w base t u o.type e i ht hu hi hz fQ jD v n xs cU s Ec gE ns
 unfold Oper.wp execOp
 simp only[ho,resolve,invoke,builtin,Sem.run_bind,Sem.run_pure,Result.andThen_ok,List.map_toArray,List.map_cons,List.map_nil,hs,hx,hr]
 exact hK _ _ (h v' w' h2 h3 h4)
theorem jU (s:ByteArray):strCells s=nb (aO s):=by
 unfold strCells nb aO
 simp[List.map_map]
theorem kU (w:World) (l:List Value) (t:TypeId):∀j u,l[j]?=some u→(w.alloc (.cells l.toArray t)).cell? ((⟨w.heap.size,0,none⟩:Addr).add j)=some u:=by
 intro j u h
 rw[Go.WideShapes.add_plain,cell_of_row _ _ _ _ _ _ (aE w _)]
 simpa using h
def wX (x:Nat):List Nat:=if x=92∨x=34 then [92,x] else if x=10 then [92,110] else if x=13 then [92,114] else if x=9 then [92,116] else [92,48+x / 64,48+x / 8 % 8,48+x % 8]
theorem NH (x:Nat):(wX x).length≤4:=by
 unfold wX
 repeat' split
 all_goals simp
theorem NI {x:Nat} (h:x<256):pz (wX x):=by
 have key:∀k:Fin 256,(wX k.val).all (·<256)=true:=by decide +kernel
 intro y hy
 have:=List.all_eq_true.1 (key ⟨x,h⟩) y hy
 simpa using this
theorem E9 {x:Nat} (h:x<256):bits .and .u8 ((x / 8:Nat):Int) 7=((x / 8 % 8:Nat):Int)∧bits .and .u8 ((x:Nat):Int) 7=((x % 8:Nat):Int):=by
 have key:∀k:Fin 256,bits .and .u8 ((k.val / 8:Nat):Int) 7=((k.val / 8 % 8:Nat):Int)∧bits .and .u8 ((k.val:Nat):Int) 7=((k.val % 8:Nat):Int):=by decide +kernel
 exact key ⟨x,h⟩
def Oh (base:Nat) (W:World) (v:Value) (xs ys:List Nat) (e:Ending) (W':World):Prop:=∃v',e=.returned v'∧Bytes base W' v' (xs++ys)∧Ext W v W' v'
theorem lY {W w:World}{base n:Nat}{v v':Value}{xs ys:List Nat}{cs:List Value}{ob:Obj} (cU:w.ownsRow base 5 1 v' n (nb xs++cs)) (hn:n=xs.length+ys.length) (lN:cs=nb ys) (hg:(W.alloc ob).grownBy w v.ownBlock) (mQ:v'.ownBlock=v.ownBlock∨v'.ownBlock=some (W.alloc ob).heap.size) :
  Oh base W v xs ys (.returned v') w:=by
 subst hn lN
 refine ⟨v',rfl,?_,Ext.grown hg mQ⟩
 unfold Bytes
 rw[mF,zK]
 exact cU
theorem oJ {W w:World}{base n:Nat}{v v':Value}{xs ys:List Nat}{cs:List Value} (cU:w.ownsRow base 5 1 v' n (nb xs++cs)) (hn:n=xs.length+ys.length) (lN:cs=nb ys) (hg:W.grownBy w v.ownBlock) (mQ:v'.ownBlock=v.ownBlock∨v'.ownBlock=some W.heap.size) :
  Oh base W v xs ys (.returned v') w:=by
 subst hn lN
 refine ⟨v',rfl,?_,Ext.Ry hg mQ⟩
 unfold Bytes
 rw[mF,zK]
 exact cU
theorem wN {W:World}{base:Nat}{v:Value}{xs:List Nat} (h:Bytes base W v xs) (hb:base≤W.heap.size) (hl:xs.length≤8388608) (x:Nat) (hx:x<256) :
  Calls Tryz.prog 106 #[v,.int .u8 (x:Int)] W (Oh base W v xs (wX x)):=by
 obtain ⟨i0,hi,fX,gp,fJ⟩:=info_parts Tryz.infoByte
 have hv:∃a n c,v=.slice a n c:=by
  obtain ⟨a,c,rfl,_⟩:=h.has
  exact ⟨_,_,_,rfl⟩
 obtain ⟨va,vn,vc,rfl⟩:=hv
 have HY:=ak h
 clear h
 by_cases h1:x=92
 ·have e1:((x:Int)==92)=true:=by simp;omega
  have o1:xs.length+2≤maxLen:=by unfold maxLen;omega
  have o2:(xs.length+2)*1≤140737488355328:=by omega
  have he:wX x=[92,x]:=by unfold wX;rw[if_pos (.inl h1)]
  rw[he]
  clear he h1
  go_enter Tryz.func106,Tryz.ntmps106
  go_wp2_with (at_builtin;refine wpList_append_own_at _ rfl _ _ 137 rfl base 5 i0 (.int .u8 0) 1 1 Tryz.underlying137 hi fX gp fJ rfl (by decide) _ _ _ rfl ((ab HY).alloc _) ⟨W.heap.size,0,none⟩ 2 2 [.int .u8 92,.int .u8 (x:Int)] rfl rfl (kU _ _ _) (by simp[Value.oneCell']) o1 o2 (by rw[zJ];omega) ?_;intro v4 w4 dI cB _ gT;have gW:=ak dI;have kd:=ak cB;have EA:=ak gT;clear dI cB gT)
  go_ret
  exact lY (ys:=[92,x]) (ab gW) rfl rfl (ab kd) (ab EA)
 ·have e1:=lQ (c:=x) (k:=92) (by omega)
  by_cases h2:x=34
  ·have e2:((x:Int)==34)=true:=by simp;omega
   have o1:xs.length+2≤maxLen:=by unfold maxLen;omega
   have o2:(xs.length+2)*1≤140737488355328:=by omega
   have he:wX x=[92,x]:=by unfold wX;rw[if_pos (.inr h2)]
   rw[he]
   clear he h1 h2
   go_enter Tryz.func106,Tryz.ntmps106
   go_wp2_with (at_builtin;refine wpList_append_own_at _ rfl _ _ 137 rfl base 5 i0 (.int .u8 0) 1 1 Tryz.underlying137 hi fX gp fJ rfl (by decide) _ _ _ rfl ((ab HY).alloc _) ⟨W.heap.size,0,none⟩ 2 2 [.int .u8 92,.int .u8 (x:Int)] rfl rfl (kU _ _ _) (by simp[Value.oneCell']) o1 o2 (by rw[zJ];omega) ?_;intro v4 w4 dI cB _ gT;have gW:=ak dI;have kd:=ak cB;have EA:=ak gT;clear dI cB gT)
   go_ret
   exact lY (ys:=[92,x]) (ab gW) rfl rfl (ab kd) (ab EA)
  ·have e2:=lQ (c:=x) (k:=34) (by omega)
   have Pl:¬(x=92∨x=34):=fun q=>q.elim h1 h2
   by_cases g0:x=10
   ·have f0:((x:Int)==10)=true:=by simp;omega
    have o1:xs.length+2≤maxLen:=by unfold maxLen;omega
    have he:wX x=[92,110]:=by unfold wX;rw[if_neg Pl];rw[if_pos g0]
    rw[he]
    clear he h1 h2 Pl g0
    go_enter Tryz.func106,Tryz.ntmps106
    go_wp2_with (at_builtin;refine cW rfl _ _ 137 9 rfl base 5 i0 Tryz.underlying137 Tryz.underlying9 hi fX gp fJ _ _ _ rfl (ab HY) ⟨#[92,110]⟩ rfl o1 (by show xs.length+2≤_;omega) hb ?_;intro v4 w4 dI cB gT;have gW:=ak dI;have kd:=ak cB;have EA:=ak gT;clear dI cB gT)
    go_ret
    exact oJ (ys:=[92,110]) (ab gW) rfl (jU _) (ab kd) (ab EA)
   ·have f0:=lQ (c:=x) (k:=10) (by omega)
    by_cases g1:x=13
    ·have f1:((x:Int)==13)=true:=by simp;omega
     have o1:xs.length+2≤maxLen:=by unfold maxLen;omega
     have he:wX x=[92,114]:=by unfold wX;rw[if_neg Pl];rw[if_neg g0];rw[if_pos g1]
     rw[he]
     clear he h1 h2 Pl g0 g1
     go_enter Tryz.func106,Tryz.ntmps106
     go_wp2_with (at_builtin;refine cW rfl _ _ 137 9 rfl base 5 i0 Tryz.underlying137 Tryz.underlying9 hi fX gp fJ _ _ _ rfl (ab HY) ⟨#[92,114]⟩ rfl o1 (by show xs.length+2≤_;omega) hb ?_;intro v4 w4 dI cB gT;have gW:=ak dI;have kd:=ak cB;have EA:=ak gT;clear dI cB gT)
     go_ret
     exact oJ (ys:=[92,114]) (ab gW) rfl (jU _) (ab kd) (ab EA)
    ·have f1:=lQ (c:=x) (k:=13) (by omega)
     by_cases g2:x=9
     ·have f2:((x:Int)==9)=true:=by simp;omega
      have o1:xs.length+2≤maxLen:=by unfold maxLen;omega
      have he:wX x=[92,116]:=by unfold wX;rw[if_neg Pl];rw[if_neg g0];rw[if_neg g1];rw[if_pos g2]
      rw[he]
      clear he h1 h2 Pl g0 g1 g2
      go_enter Tryz.func106,Tryz.ntmps106
      go_wp2_with (at_builtin;refine cW rfl _ _ 137 9 rfl base 5 i0 Tryz.underlying137 Tryz.underlying9 hi fX gp fJ _ _ _ rfl (ab HY) ⟨#[92,116]⟩ rfl o1 (by show xs.length+2≤_;omega) hb ?_;intro v4 w4 dI cB gT;have gW:=ak dI;have kd:=ak cB;have EA:=ak gT;clear dI cB gT)
      go_ret
      exact oJ (ys:=[92,116]) (ab gW) rfl (jU _) (ab kd) (ab EA)
     ·have f2:=lQ (c:=x) (k:=9) (by omega)
      have he:wX x=[92,48+x / 64,48+x / 8 % 8,48+x % 8]:=by unfold wX;rw[if_neg Pl];rw[if_neg g0];rw[if_neg g1];rw[if_neg g2]
      rw[he]
      clear he h1 h2 Pl g0 g1 g2
      obtain ⟨q1,q2⟩:=E9 hx
      have q3:bits .and .u8 ((x:Int) / 8) 7=((x / 8 % 8:Nat):Int):=by rw[show ((x:Int) / 8)=((x / 8:Nat):Int) by omega];exact q1
      have o1:xs.length+4≤maxLen:=by unfold maxLen;omega
      have o2:(xs.length+4)*1≤140737488355328:=by omega
      go_enter Tryz.func106,Tryz.ntmps106
      go_wp2_with (at_builtin;refine wpList_append_own_at _ rfl _ _ 137 rfl base 5 i0 (.int .u8 0) 1 1 Tryz.underlying137 hi fX gp fJ rfl (by decide) _ _ _ rfl ((ab HY).alloc _) ⟨W.heap.size,0,none⟩ 4 4 [.int .u8 92,.int .u8 (48+(x:Int) / 64),.int .u8 (48+(x:Int) / 8 % 8),.int .u8 (48+(x:Int) % 8)] rfl rfl (kU _ _ _) (by simp[Value.oneCell']) o1 o2 (by rw[zJ];omega) ?_;intro v4 w4 dI cB _ gT;have gW:=ak dI;have kd:=ak cB;have EA:=ak gT;clear dI cB gT)
      go_ret
      exact lY (ys:=[92,48+x / 64,48+x / 8 % 8,48+x % 8]) (ab gW) rfl (by simp[nb]) (ab kd) (ab EA)
end Go.Proofs.YtghioefalckgoaaGreatDoor

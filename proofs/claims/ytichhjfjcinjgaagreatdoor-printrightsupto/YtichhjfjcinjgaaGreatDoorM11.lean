import Derived.Test.YtichhjfjcinjgaaGreatDoorQE
import Derived.Lib.AppendStr
set_option maxHeartbeats 2000000
set_option maxRecDepth 100000
namespace Go.Proofs.YtichhjfjcinjgaaGreatDoor
open Go.RowKit
attribute [local go_sem ↓] Go.wp_at_zero Go.wp_at_succ
theorem lp {c:Nat}{k:Int} (h:(c:Int)=k):((c:Int)==k)=true:=by simp;omega
theorem Ga {s:ByteArray} (h:2≤s.size):∃a x r,aI s=a::x::r∧x<256∧∃h1:1<s.size,(s[1]'h1).toNat=x:=by
 obtain ⟨a,ha,_,_⟩:=cd s 0 (by omega)
 obtain ⟨x,hx,cZ,gx⟩:=cd s 1 (by omega)
 match hs:aI s with
 |[]=>rw[hs] at ha;simp at ha
 |[_]=>rw[hs] at hx;simp at hx
 |p::q::r =>
  rw[hs] at hx
  obtain rfl:q=x:=by simpa using hx
  exact ⟨p,q,r,rfl,cZ,by omega,gx⟩
theorem eo {a x v:Nat}{r:List Nat} (h:lA x=some v):du (a::x::r)=some (v,2):=by simp[du,h]
theorem oR {a x:Nat}{r:List Nat} (h:lA x=none) (h2:x=120∨x=88):du (a::x::r)=fin (cC 16 2 r 0 0) 2:=by
 simp only[du,h]
 rw[if_pos h2]
theorem AB {a x:Nat}{r:List Nat} (h:lA x=none) (h2:¬(x=120∨x=88)):du (a::x::r)=fin (cC 8 3 (x::r) 0 0) 1:=by
 simp only[du,h]
 rw[if_neg h2]
theorem uB {l:List Nat} (h:l.length<2):du l=none:=by
 match l,h with
 |[],_=>rfl
 |[_],_=>rfl
theorem Cz {W:World} (hE:jW W) (s:ByteArray) (hs:s.size≤65536):Calls Tryz.prog 193 #[.string s] W (VN W (du (aI s))):=by
 have bG:=zE W.heap.size W
 by_cases h2:2≤s.size
 ·have e0:decide ((s.size:Int)<2)=false:=by simp;omega
  obtain ⟨a,x,r,hl,cZ,h1,gx⟩:=Ga h2
  rw[hl]
  have Hl:=al hl
  clear hl
  by_cases Cp:x=97
  ·have Hv:Hid (du (a::x::r)=some (7,2)):=eo (by rw[Cp];rfl)
   have f97:=lp (c:=x) (k:=97) (by omega)
   clear Cp h2
   go_enter Tryz.func193,Tryz.ntmps193
   go_wp2
   go_ret2
   exact bH (v:=7) (n:=2) bG (ab Hv)
  have f97:=fZ (c:=x) (k:=97) (by omega)
  by_cases DA:x=98
  ·have Hv:Hid (du (a::x::r)=some (8,2)):=eo (by rw[DA];rfl)
   have f98:=lp (c:=x) (k:=98) (by omega)
   clear DA h2 Cp
   go_enter Tryz.func193,Tryz.ntmps193
   go_wp2
   go_ret2
   exact bH (v:=8) (n:=2) bG (ab Hv)
  have f98:=fZ (c:=x) (k:=98) (by omega)
  by_cases pJ:x=102
  ·have Hv:Hid (du (a::x::r)=some (12,2)):=eo (by rw[pJ];rfl)
   have f102:=lp (c:=x) (k:=102) (by omega)
   clear pJ h2 Cp DA
   go_enter Tryz.func193,Tryz.ntmps193
   go_wp2
   go_ret2
   exact bH (v:=12) (n:=2) bG (ab Hv)
  have f102:=fZ (c:=x) (k:=102) (by omega)
  by_cases qO:x=110
  ·have Hv:Hid (du (a::x::r)=some (10,2)):=eo (by rw[qO];rfl)
   have f110:=lp (c:=x) (k:=110) (by omega)
   clear qO h2 Cp DA pJ
   go_enter Tryz.func193,Tryz.ntmps193
   go_wp2
   go_ret2
   exact bH (v:=10) (n:=2) bG (ab Hv)
  have f110:=fZ (c:=x) (k:=110) (by omega)
  by_cases uw:x=114
  ·have Hv:Hid (du (a::x::r)=some (13,2)):=eo (by rw[uw];rfl)
   have f114:=lp (c:=x) (k:=114) (by omega)
   clear uw h2 Cp DA pJ qO
   go_enter Tryz.func193,Tryz.ntmps193
   go_wp2
   go_ret2
   exact bH (v:=13) (n:=2) bG (ab Hv)
  have f114:=fZ (c:=x) (k:=114) (by omega)
  by_cases vH:x=116
  ·have Hv:Hid (du (a::x::r)=some (9,2)):=eo (by rw[vH];rfl)
   have f116:=lp (c:=x) (k:=116) (by omega)
   clear vH h2 Cp DA pJ qO uw
   go_enter Tryz.func193,Tryz.ntmps193
   go_wp2
   go_ret2
   exact bH (v:=9) (n:=2) bG (ab Hv)
  have f116:=fZ (c:=x) (k:=116) (by omega)
  by_cases xV:x=118
  ·have Hv:Hid (du (a::x::r)=some (11,2)):=eo (by rw[xV];rfl)
   have f118:=lp (c:=x) (k:=118) (by omega)
   clear xV h2 Cp DA pJ qO uw vH
   go_enter Tryz.func193,Tryz.ntmps193
   go_wp2
   go_ret2
   exact bH (v:=11) (n:=2) bG (ab Hv)
  have f118:=fZ (c:=x) (k:=118) (by omega)
  by_cases NY:x=92
  ·have Hv:Hid (du (a::x::r)=some (x,2)):=eo (by rw[NY];rfl)
   have f92:=lp (c:=x) (k:=92) (by omega)
   clear NY h2 Cp DA pJ qO uw vH xV
   go_enter Tryz.func193,Tryz.ntmps193
   go_wp2
   go_ret2
   exact bH (v:=x) (n:=2) bG (ab Hv)
  have f92:=fZ (c:=x) (k:=92) (by omega)
  by_cases PQ:x=39
  ·have Hv:Hid (du (a::x::r)=some (x,2)):=eo (by rw[PQ];rfl)
   have f39:=lp (c:=x) (k:=39) (by omega)
   clear PQ h2 Cp DA pJ qO uw vH xV NY
   go_enter Tryz.func193,Tryz.ntmps193
   go_wp2
   go_ret2
   exact bH (v:=x) (n:=2) bG (ab Hv)
  have f39:=fZ (c:=x) (k:=39) (by omega)
  by_cases Sd:x=34
  ·have Hv:Hid (du (a::x::r)=some (x,2)):=eo (by rw[Sd];rfl)
   have f34:=lp (c:=x) (k:=34) (by omega)
   clear Sd h2 Cp DA pJ qO uw vH xV NY PQ
   go_enter Tryz.func193,Tryz.ntmps193
   go_wp2
   go_ret2
   exact bH (v:=x) (n:=2) bG (ab Hv)
  have f34:=fZ (c:=x) (k:=34) (by omega)
  have Ap:lA x=none:=by unfold lA;rw[if_neg Cp,if_neg DA,if_neg pJ,if_neg qO,if_neg uw,if_neg vH,if_neg xV,if_neg (by omega)]
  by_cases Au:x=120
  ·have hv:du (a::x::r)=fin (cC 16 2 ((aI s).drop 2) 0 0) 2:=by rw[ab Hl];exact oR Ap (by omega)
   rw[hv]
   have f120:=lp (c:=x) (k:=120) (by omega)
   clear hv Ap Au Cp DA pJ qO uw vH xV NY PQ Sd
   go_enter Tryz.func193,Tryz.ntmps193
   go_wp2_with fail
   refine (uJ hE s hs h2).mono ?_
   rintro e w1 ⟨aW,⟨ho,rfl⟩|⟨v,n,ho,rfl⟩⟩
   ·have Hb:=al aW
    have Ho:=al ho
    clear aW ho h2
    go_wp2
    go_ret2
    exact dH (ab Hb) (ab Ho)
   ·have Hb:=al aW
    have Ho:=al ho
    clear aW ho h2
    go_wp2
    go_ret2
    exact bH (ab Hb) (ab Ho)
  have f120:=fZ (c:=x) (k:=120) (by omega)
  by_cases PM:x=88
  ·have hv:du (a::x::r)=fin (cC 16 2 ((aI s).drop 2) 0 0) 2:=by rw[ab Hl];exact oR Ap (by omega)
   rw[hv]
   have f88:=lp (c:=x) (k:=88) (by omega)
   clear hv Ap PM Cp DA pJ qO uw vH xV NY PQ Sd Au
   go_enter Tryz.func193,Tryz.ntmps193
   go_wp2_with fail
   refine (uJ hE s hs h2).mono ?_
   rintro e w1 ⟨aW,⟨ho,rfl⟩|⟨v,n,ho,rfl⟩⟩
   ·have Hb:=al aW
    have Ho:=al ho
    clear aW ho h2
    go_wp2
    go_ret2
    exact dH (ab Hb) (ab Ho)
   ·have Hb:=al aW
    have Ho:=al ho
    clear aW ho h2
    go_wp2
    go_ret2
    exact bH (ab Hb) (ab Ho)
  have f88:=fZ (c:=x) (k:=88) (by omega)
  have hv:du (a::x::r)=fin (cC 8 3 ((aI s).drop 1) 0 0) 1:=by rw[ab Hl];exact AB Ap (by omega)
  rw[hv]
  clear hv Ap Cp DA pJ qO uw vH xV NY PQ Sd Au PM
  go_enter Tryz.func193,Tryz.ntmps193
  go_wp2_with fail
  refine (CG hE s hs (by omega)).mono ?_
  rintro e w1 ⟨aW,⟨ho,rfl⟩|⟨v,n,ho,rfl⟩⟩
  ·have Hb:=al aW
   have Ho:=al ho
   clear aW ho h2
   go_wp2
   go_ret2
   exact dH (ab Hb) (ab Ho)
  ·have Hb:=al aW
   have Ho:=al ho
   clear aW ho h2
   go_wp2
   go_ret2
   exact bH (ab Hb) (ab Ho)
 ·have e0:decide ((s.size:Int)<2)=true:=by simp;omega
  have Hv:Hid (du (aI s)=none):=uB (by rw[aY];omega)
  clear h2
  go_enter Tryz.func193,Tryz.ntmps193
  go_wp2
  go_ret2
  exact dH bG (ab Hv)
theorem Eo {W:World} (hE:jW W) (s:ByteArray) (h0:0<s.size) (hs:s.size≤65536):Calls Tryz.prog 180 #[.string s] W (VN W (cW s 0)):=by
 have bG:=zE W.heap.size W
 obtain ⟨x,hx⟩:∃x:Nat,s[0].toNat=x:=⟨_,rfl⟩
 have dO:aC s 0=x:=(dk s 0 h0).trans hx
 have cZ:x<256:=by rw[←dO];exact dw s 0
 have hp:cW s 0=if x=0∨x=10 then none else if x=92 then du (aI s) else some (x,1):=by unfold cW;rw[dO];rfl
 rw[hp]
 clear hp dO
 by_cases c0:x=0
 ·rw[if_pos (.inl c0)]
  have f0:=lp (c:=x) (k:=0) (by omega)
  clear c0
  go_enter Tryz.func180,Tryz.ntmps180
  go_wp2
  go_ret2
  exact dH bG rfl
 have f0:=fZ (c:=x) (k:=0) (by omega)
 by_cases c1:x=10
 ·rw[if_pos (.inr c1)]
  have f1:=lp (c:=x) (k:=10) (by omega)
  clear c0 c1
  go_enter Tryz.func180,Tryz.ntmps180
  go_wp2
  go_ret2
  exact dH bG rfl
 have f1:=fZ (c:=x) (k:=10) (by omega)
 by_cases c2:x=92
 ·rw[if_neg (by omega),if_pos c2]
  have f2:=lp (c:=x) (k:=92) (by omega)
  clear c0 c1 c2
  go_enter Tryz.func180,Tryz.ntmps180
  go_wp2_with fail
  refine (Cz hE s hs).mono ?_
  rintro e w1 ⟨aW,⟨ho,rfl⟩|⟨v,n,ho,rfl⟩⟩
  ·have Hb:=al aW
   have Ho:=al ho
   clear aW ho
   go_wp2
   go_ret2
   exact dH (ab Hb) (ab Ho)
  ·have Hb:=al aW
   have Ho:=al ho
   clear aW ho
   go_wp2
   go_ret2
   exact bH (ab Hb) (ab Ho)
 have f2:=fZ (c:=x) (k:=92) (by omega)
 rw[if_neg (by omega),if_neg c2]
 clear c0 c1 c2
 go_enter Tryz.func180,Tryz.ntmps180
 go_wp2
 go_ret2
 exact bH (v:=x) (n:=1) bG rfl
end Go.Proofs.YtichhjfjcinjgaaGreatDoor
namespace Go.Proofs.YtichhjfjcinjgaaGreatDoor
open Go.RowKit Go.Lib
attribute [local go_sem ↓] Go.wp_at_zero Go.wp_at_succ
theorem vL {P:Program} (w:World) (base:Nat) (t u ty e:TypeId) (i:TypeInfo) (ht:P.underlying t=some (.slice e)) (hu:P.underlying u=some .string) (hi:P.info? e=some i) (hz:i.zero=some (.int .u8 0))
  (tV:i.size=1) (eu:i.bytes=1) (v:Value) (n:Nat) (xs:List Value) (gD:w.ownsRow base e 1 v n xs) (s:ByteArray)
  (PN:n+s.size≤maxLen) (uj:n+s.size≤140737488355328) (At:base≤w.heap.size) :
  ∃v' w',(Builtin.append_ #[t,u] ty #[v,.string s]).run P w=.ok v' w'∧w'.ownsRow base e 1 v' (n+s.size) (xs++strCells s)∧w.grownBy w' v.ownBlock∧(v'.ownBlock=v.ownBlock∨v'.ownBlock=some w.heap.size):=by
 obtain ⟨v',w',hr,h2,h3,h4⟩:=run_append_own_string (P:=P) w base t u ty e i ht hu hi hz tV eu v n xs gD s PN uj At
 refine ⟨v',w',hr,h2,h3,?_⟩
 have yx:xs.length=n:=by simpa using gD.1
 unfold maxLen at PN
 have Rs:=gD
 rcases Rs.2 with ⟨rfl,rfl⟩|⟨g,cap,cur,rfl,Mb,hg,hnc,hcm,qN,YQ⟩
 ·by_cases hm:s.size=0
  ·exact .inl (by rw[h4.2 ⟨rfl,hm⟩])
  ·have L0:=run_append_nil_string (P:=P) w t u ty e i (.int .u8 0) ht hu hi hz s (by omega) (by omega) (by rw[eu];omega)
   rw[hr] at L0
   injection L0 with e1 e2
   exact .inr (by rw[e1];rfl)
 ·by_cases Rj:n+s.size≤cap
  ·have aar:cur.size=cap:=by simpa using qN
   have L0:=run_append_room_string (P:=P) w t u ty e i ht hu hi tV g n cap cur hg s Rj (by omega)
   rw[hr] at L0
   injection L0 with e1 e2
   exact .inl (by rw[e1];rfl)
  ·have holds:∀j x,xs[j]?=some x→w.cell? ((⟨g,0,none⟩:Addr).add j)=some x:=gD.cells (g:=g) rfl
   have L0:=run_append_grow_string (P:=P) w t u ty e i (.int .u8 0) ht hu hi hz ⟨g,0,none⟩ n cap xs (by rw[tV];simpa using yx) holds s (by omega) (by omega) (by rw[eu];exact growslice_fits (by omega) (by omega))
   rw[hr] at L0
   injection L0 with e1 e2
   exact .inr (by rw[e1];rfl)
theorem bV {P:Program}{w:World}{ops:Array Oper}{rest:List Oper}{o:Oper}{a:Act}{Q:Exit→Act→World→Prop} (A':o.guard=none) (sl x:Operand) (t u:TypeId)
  (ho:o.op=.call { callee:=.builtin .append,args:=#[sl,x],argTypes:=#[t,u] })
  (base:Nat) (e:TypeId) (i:TypeInfo) (ht:P.underlying t=some (.slice e)) (hu:P.underlying u=some .string) (hi:P.info? e=some i) (hz:i.zero=some (.int .u8 0))
  (tV:i.size=1) (eu:i.bytes=1) (v:Value) (n:Nat) (xs:List Value) (hs:a.eval sl=v) (gD:w.ownsRow base e 1 v n xs) (s:ByteArray) (hx:a.eval x=.string s)
  (PN:n+s.size≤maxLen) (uj:n+s.size≤140737488355328) (At:base≤w.heap.size)
  (h:∀v' w',w'.ownsRow base e 1 v' (n+s.size) (xs++strCells s)→w.grownBy w' v.ownBlock→(v'.ownBlock=v.ownBlock∨v'.ownBlock=some w.heap.size)→wpList P ops Q rest (a.put o.dst v') w'):wpList P ops Q (o::rest) a w:=by
 refine wpList_plain A' fun K hK=>?_
 obtain ⟨v',w',hr,h2,h3,h4⟩:=vL (P:=P) w base t u o.type e i ht hu hi hz tV eu v n xs gD s PN uj At
 unfold Oper.wp execOp
 simp only[ho,resolve,invoke,builtin,Sem.run_bind,Sem.run_pure,Result.andThen_ok,List.map_toArray,List.map_cons,List.map_nil,hs,hx,hr]
 exact hK _ _ (h v' w' h2 h3 h4)
theorem ez (s:ByteArray):strCells s=nb (aI s):=by
 unfold strCells nb aI
 simp[List.map_map]
theorem dj (w:World) (l:List Value) (t:TypeId):∀j u,l[j]?=some u→(w.alloc (.cells l.toArray t)).cell? ((⟨w.heap.size,0,none⟩:Addr).add j)=some u:=by
 intro j u h
 rw[Go.WideShapes.add_plain,cell_of_row _ _ _ _ _ _ (aK w _)]
 simpa using h
def mE (x:Nat):List Nat:=if x=92∨x=34 then [92,x] else if x=10 then [92,110] else if x=13 then [92,114] else if x=9 then [92,116] else [92,48+x / 64,48+x / 8 % 8,48+x % 8]
theorem Ld (x:Nat):(mE x).length≤4:=by
 unfold mE
 repeat' split
 all_goals simp
theorem Le {x:Nat} (h:x<256):mO (mE x):=by
 have key:∀k:Fin 256,(mE k.val).all (·<256)=true:=by decide +kernel
 intro y hy
 have:=List.all_eq_true.1 (key ⟨x,h⟩) y hy
 simpa using this
theorem Et {x:Nat} (h:x<256):bits .and .u8 ((x / 8:Nat):Int) 7=((x / 8 % 8:Nat):Int)∧bits .and .u8 ((x:Nat):Int) 7=((x % 8:Nat):Int):=by
 have key:∀k:Fin 256,bits .and .u8 ((k.val / 8:Nat):Int) 7=((k.val / 8 % 8:Nat):Int)∧bits .and .u8 ((k.val:Nat):Int) 7=((k.val % 8:Nat):Int):=by decide +kernel
 exact key ⟨x,h⟩
def nO (base:Nat) (W:World) (v:Value) (xs ys:List Nat) (e:Ending) (W':World):Prop:=∃v',e=.returned v'∧Bytes base W' v' (xs++ys)∧Ext W v W' v'
theorem eL {W w:World}{base n:Nat}{v v':Value}{xs ys:List Nat}{cs:List Value}{ob:Obj} (gD:w.ownsRow base 5 1 v' n (nb xs++cs)) (hn:n=xs.length+ys.length) (qN:cs=nb ys) (hg:(W.alloc ob).grownBy w v.ownBlock) (pd:v'.ownBlock=v.ownBlock∨v'.ownBlock=some (W.alloc ob).heap.size) :
  nO base W v xs ys (.returned v') w:=by
 subst hn qN
 refine ⟨v',rfl,?_,Ext.grown hg pd⟩
 unfold Bytes
 rw[kD,zK]
 exact gD
theorem iu {W w:World}{base n:Nat}{v v':Value}{xs ys:List Nat}{cs:List Value} (gD:w.ownsRow base 5 1 v' n (nb xs++cs)) (hn:n=xs.length+ys.length) (qN:cs=nb ys) (hg:W.grownBy w v.ownBlock) (pd:v'.ownBlock=v.ownBlock∨v'.ownBlock=some W.heap.size) :
  nO base W v xs ys (.returned v') w:=by
 subst hn qN
 refine ⟨v',rfl,?_,Ext.NZ hg pd⟩
 unfold Bytes
 rw[kD,zK]
 exact gD
theorem vy {W:World}{base:Nat}{v:Value}{xs:List Nat} (h:Bytes base W v xs) (hb:base≤W.heap.size) (hl:xs.length≤8388608) (x:Nat) (hx:x<256) :
  Calls Tryz.prog 87 #[v,.int .u8 (x:Int)] W (nO base W v xs (mE x)):=by
 obtain ⟨i0,hi,gj,dR,c7⟩:=info_parts Tryz.infoByte
 have hv:∃a n c,v=.slice a n c:=by
  obtain ⟨a,c,rfl,_⟩:=h.has
  exact ⟨_,_,_,rfl⟩
 obtain ⟨va,vn,vc,rfl⟩:=hv
 have HY:=al h
 clear h
 by_cases h1:x=92
 ·have e1:((x:Int)==92)=true:=by simp;omega
  have o1:xs.length+2≤maxLen:=by unfold maxLen;omega
  have o2:(xs.length+2)*1≤140737488355328:=by omega
  have he:mE x=[92,x]:=by unfold mE;rw[if_pos (.inl h1)]
  rw[he]
  clear he h1
  go_enter Tryz.func87,Tryz.ntmps87
  go_wp2_with (at_builtin;refine wpList_append_own_at _ rfl _ _ 58 rfl base 5 i0 (.int .u8 0) 1 1 Tryz.underlying58 hi gj dR c7 rfl (by decide) _ _ _ rfl ((ab HY).alloc _) ⟨W.heap.size,0,none⟩ 2 2 [.int .u8 92,.int .u8 (x:Int)] rfl rfl (dj _ _ _) (by simp[Value.oneCell']) o1 o2 (by rw[zJ];omega) ?_;intro v4 w4 bJ ba _ cJ;have iE:=al bJ;have kc:=al ba;have DV:=al cJ;clear bJ ba cJ)
  go_ret
  exact eL (ys:=[92,x]) (ab iE) rfl rfl (ab kc) (ab DV)
 ·have e1:=fZ (c:=x) (k:=92) (by omega)
  by_cases h2:x=34
  ·have e2:((x:Int)==34)=true:=by simp;omega
   have o1:xs.length+2≤maxLen:=by unfold maxLen;omega
   have o2:(xs.length+2)*1≤140737488355328:=by omega
   have he:mE x=[92,x]:=by unfold mE;rw[if_pos (.inr h2)]
   rw[he]
   clear he h1 h2
   go_enter Tryz.func87,Tryz.ntmps87
   go_wp2_with (at_builtin;refine wpList_append_own_at _ rfl _ _ 58 rfl base 5 i0 (.int .u8 0) 1 1 Tryz.underlying58 hi gj dR c7 rfl (by decide) _ _ _ rfl ((ab HY).alloc _) ⟨W.heap.size,0,none⟩ 2 2 [.int .u8 92,.int .u8 (x:Int)] rfl rfl (dj _ _ _) (by simp[Value.oneCell']) o1 o2 (by rw[zJ];omega) ?_;intro v4 w4 bJ ba _ cJ;have iE:=al bJ;have kc:=al ba;have DV:=al cJ;clear bJ ba cJ)
   go_ret
   exact eL (ys:=[92,x]) (ab iE) rfl rfl (ab kc) (ab DV)
  ·have e2:=fZ (c:=x) (k:=34) (by omega)
   have Me:¬(x=92∨x=34):=fun q=>q.elim h1 h2
   by_cases g0:x=10
   ·have f0:((x:Int)==10)=true:=by simp;omega
    have o1:xs.length+2≤maxLen:=by unfold maxLen;omega
    have he:mE x=[92,110]:=by unfold mE;rw[if_neg Me];rw[if_pos g0]
    rw[he]
    clear he h1 h2 Me g0
    go_enter Tryz.func87,Tryz.ntmps87
    go_wp2_with (at_builtin;refine bV rfl _ _ 58 9 rfl base 5 i0 Tryz.underlying58 Tryz.underlying9 hi gj dR c7 _ _ _ rfl (ab HY) ⟨#[92,110]⟩ rfl o1 (by show xs.length+2≤_;omega) hb ?_;intro v4 w4 bJ ba cJ;have iE:=al bJ;have kc:=al ba;have DV:=al cJ;clear bJ ba cJ)
    go_ret
    exact iu (ys:=[92,110]) (ab iE) rfl (ez _) (ab kc) (ab DV)
   ·have f0:=fZ (c:=x) (k:=10) (by omega)
    by_cases g1:x=13
    ·have f1:((x:Int)==13)=true:=by simp;omega
     have o1:xs.length+2≤maxLen:=by unfold maxLen;omega
     have he:mE x=[92,114]:=by unfold mE;rw[if_neg Me];rw[if_neg g0];rw[if_pos g1]
     rw[he]
     clear he h1 h2 Me g0 g1
     go_enter Tryz.func87,Tryz.ntmps87
     go_wp2_with (at_builtin;refine bV rfl _ _ 58 9 rfl base 5 i0 Tryz.underlying58 Tryz.underlying9 hi gj dR c7 _ _ _ rfl (ab HY) ⟨#[92,114]⟩ rfl o1 (by show xs.length+2≤_;omega) hb ?_;intro v4 w4 bJ ba cJ;have iE:=al bJ;have kc:=al ba;have DV:=al cJ;clear bJ ba cJ)
     go_ret
     exact iu (ys:=[92,114]) (ab iE) rfl (ez _) (ab kc) (ab DV)
    ·have f1:=fZ (c:=x) (k:=13) (by omega)
     by_cases g2:x=9
     ·have f2:((x:Int)==9)=true:=by simp;omega
      have o1:xs.length+2≤maxLen:=by unfold maxLen;omega
      have he:mE x=[92,116]:=by unfold mE;rw[if_neg Me];rw[if_neg g0];rw[if_neg g1];rw[if_pos g2]
      rw[he]
      clear he h1 h2 Me g0 g1 g2
      go_enter Tryz.func87,Tryz.ntmps87
      go_wp2_with (at_builtin;refine bV rfl _ _ 58 9 rfl base 5 i0 Tryz.underlying58 Tryz.underlying9 hi gj dR c7 _ _ _ rfl (ab HY) ⟨#[92,116]⟩ rfl o1 (by show xs.length+2≤_;omega) hb ?_;intro v4 w4 bJ ba cJ;have iE:=al bJ;have kc:=al ba;have DV:=al cJ;clear bJ ba cJ)
      go_ret
      exact iu (ys:=[92,116]) (ab iE) rfl (ez _) (ab kc) (ab DV)
     ·have f2:=fZ (c:=x) (k:=9) (by omega)
      have he:mE x=[92,48+x / 64,48+x / 8 % 8,48+x % 8]:=by unfold mE;rw[if_neg Me];rw[if_neg g0];rw[if_neg g1];rw[if_neg g2]
      rw[he]
      clear he h1 h2 Me g0 g1 g2
      obtain ⟨q1,q2⟩:=Et hx
      have q3:bits .and .u8 ((x:Int) / 8) 7=((x / 8 % 8:Nat):Int):=by rw[show ((x:Int) / 8)=((x / 8:Nat):Int) by omega];exact q1
      have o1:xs.length+4≤maxLen:=by unfold maxLen;omega
      have o2:(xs.length+4)*1≤140737488355328:=by omega
      go_enter Tryz.func87,Tryz.ntmps87
      go_wp2_with (at_builtin;refine wpList_append_own_at _ rfl _ _ 58 rfl base 5 i0 (.int .u8 0) 1 1 Tryz.underlying58 hi gj dR c7 rfl (by decide) _ _ _ rfl ((ab HY).alloc _) ⟨W.heap.size,0,none⟩ 4 4 [.int .u8 92,.int .u8 (48+(x:Int) / 64),.int .u8 (48+(x:Int) / 8 % 8),.int .u8 (48+(x:Int) % 8)] rfl rfl (dj _ _ _) (by simp[Value.oneCell']) o1 o2 (by rw[zJ];omega) ?_;intro v4 w4 bJ ba _ cJ;have iE:=al bJ;have kc:=al ba;have DV:=al cJ;clear bJ ba cJ)
      go_ret
      exact eL (ys:=[92,48+x / 64,48+x / 8 % 8,48+x % 8]) (ab iE) rfl (by simp[nb]) (ab kc) (ab DV)
end Go.Proofs.YtichhjfjcinjgaaGreatDoor

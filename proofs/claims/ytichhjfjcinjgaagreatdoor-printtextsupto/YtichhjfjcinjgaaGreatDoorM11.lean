import Derived.Test.YtichhjfjcinjgaaGreatDoorQE
import Derived.Lib.AppendStr
set_option maxHeartbeats 2000000
set_option maxRecDepth 100000
namespace Go.Proofs.YtichhjfjcinjgaaGreatDoor
open Go.RowKit
attribute [local go_sem ↓] Go.wp_at_zero Go.wp_at_succ
theorem lj {c:Nat}{k:Int} (h:(c:Int)=k):((c:Int)==k)=true:=by simp;omega
theorem FZ {s:ByteArray} (h:2≤s.size):∃a x r,aI s=a::x::r∧x<256∧∃h1:1<s.size,(s[1]'h1).toNat=x:=by
 obtain ⟨a,ha,_,_⟩:=cc s 0 (by omega)
 obtain ⟨x,hx,cY,gx⟩:=cc s 1 (by omega)
 match hs:aI s with
 |[]=>rw[hs] at ha;simp at ha
 |[_]=>rw[hs] at hx;simp at hx
 |p::q::r =>
  rw[hs] at hx
  obtain rfl:q=x:=by simpa using hx
  exact ⟨p,q,r,rfl,cY,by omega,gx⟩
theorem eh {a x v:Nat}{r:List Nat} (h:lp x=some v):dr (a::x::r)=some (v,2):=by simp[dr,h]
theorem oO {a x:Nat}{r:List Nat} (h:lp x=none) (h2:x=120∨x=88):dr (a::x::r)=fin (cA 16 2 r 0 0) 2:=by
 simp only[dr,h]
 rw[if_pos h2]
theorem At {a x:Nat}{r:List Nat} (h:lp x=none) (h2:¬(x=120∨x=88)):dr (a::x::r)=fin (cA 8 3 (x::r) 0 0) 1:=by
 simp only[dr,h]
 rw[if_neg h2]
theorem uy {l:List Nat} (h:l.length<2):dr l=none:=by
 match l,h with
 |[],_=>rfl
 |[_],_=>rfl
theorem Cq {W:World} (hE:jW W) (s:ByteArray) (hs:s.size≤65536):Calls Tryz.prog 193 #[.string s] W (VN W (dr (aI s))):=by
 have bJ:=zE W.heap.size W
 by_cases h2:2≤s.size
 ·have e0:decide ((s.size:Int)<2)=false:=by simp;omega
  obtain ⟨a,x,r,hl,cY,h1,gx⟩:=FZ h2
  rw[hl]
  have Hl:=al hl
  clear hl
  by_cases Cf:x=97
  ·have Hv:Hid (dr (a::x::r)=some (7,2)):=eh (by rw[Cf];rfl)
   have f97:=lj (c:=x) (k:=97) (by omega)
   clear Cf h2
   go_enter Tryz.func193,Tryz.ntmps193
   go_wp2
   go_ret2
   exact bG (v:=7) (n:=2) bJ (ab Hv)
  have f97:=fY (c:=x) (k:=97) (by omega)
  by_cases Dq:x=98
  ·have Hv:Hid (dr (a::x::r)=some (8,2)):=eh (by rw[Dq];rfl)
   have f98:=lj (c:=x) (k:=98) (by omega)
   clear Dq h2 Cf
   go_enter Tryz.func193,Tryz.ntmps193
   go_wp2
   go_ret2
   exact bG (v:=8) (n:=2) bJ (ab Hv)
  have f98:=fY (c:=x) (k:=98) (by omega)
  by_cases pG:x=102
  ·have Hv:Hid (dr (a::x::r)=some (12,2)):=eh (by rw[pG];rfl)
   have f102:=lj (c:=x) (k:=102) (by omega)
   clear pG h2 Cf Dq
   go_enter Tryz.func193,Tryz.ntmps193
   go_wp2
   go_ret2
   exact bG (v:=12) (n:=2) bJ (ab Hv)
  have f102:=fY (c:=x) (k:=102) (by omega)
  by_cases qL:x=110
  ·have Hv:Hid (dr (a::x::r)=some (10,2)):=eh (by rw[qL];rfl)
   have f110:=lj (c:=x) (k:=110) (by omega)
   clear qL h2 Cf Dq pG
   go_enter Tryz.func193,Tryz.ntmps193
   go_wp2
   go_ret2
   exact bG (v:=10) (n:=2) bJ (ab Hv)
  have f110:=fY (c:=x) (k:=110) (by omega)
  by_cases uk:x=114
  ·have Hv:Hid (dr (a::x::r)=some (13,2)):=eh (by rw[uk];rfl)
   have f114:=lj (c:=x) (k:=114) (by omega)
   clear uk h2 Cf Dq pG qL
   go_enter Tryz.func193,Tryz.ntmps193
   go_wp2
   go_ret2
   exact bG (v:=13) (n:=2) bJ (ab Hv)
  have f114:=fY (c:=x) (k:=114) (by omega)
  by_cases vB:x=116
  ·have Hv:Hid (dr (a::x::r)=some (9,2)):=eh (by rw[vB];rfl)
   have f116:=lj (c:=x) (k:=116) (by omega)
   clear vB h2 Cf Dq pG qL uk
   go_enter Tryz.func193,Tryz.ntmps193
   go_wp2
   go_ret2
   exact bG (v:=9) (n:=2) bJ (ab Hv)
  have f116:=fY (c:=x) (k:=116) (by omega)
  by_cases xT:x=118
  ·have Hv:Hid (dr (a::x::r)=some (11,2)):=eh (by rw[xT];rfl)
   have f118:=lj (c:=x) (k:=118) (by omega)
   clear xT h2 Cf Dq pG qL uk vB
   go_enter Tryz.func193,Tryz.ntmps193
   go_wp2
   go_ret2
   exact bG (v:=11) (n:=2) bJ (ab Hv)
  have f118:=fY (c:=x) (k:=118) (by omega)
  by_cases NN:x=92
  ·have Hv:Hid (dr (a::x::r)=some (x,2)):=eh (by rw[NN];rfl)
   have f92:=lj (c:=x) (k:=92) (by omega)
   clear NN h2 Cf Dq pG qL uk vB xT
   go_enter Tryz.func193,Tryz.ntmps193
   go_wp2
   go_ret2
   exact bG (v:=x) (n:=2) bJ (ab Hv)
  have f92:=fY (c:=x) (k:=92) (by omega)
  by_cases PD:x=39
  ·have Hv:Hid (dr (a::x::r)=some (x,2)):=eh (by rw[PD];rfl)
   have f39:=lj (c:=x) (k:=39) (by omega)
   clear PD h2 Cf Dq pG qL uk vB xT NN
   go_enter Tryz.func193,Tryz.ntmps193
   go_wp2
   go_ret2
   exact bG (v:=x) (n:=2) bJ (ab Hv)
  have f39:=fY (c:=x) (k:=39) (by omega)
  by_cases RY:x=34
  ·have Hv:Hid (dr (a::x::r)=some (x,2)):=eh (by rw[RY];rfl)
   have f34:=lj (c:=x) (k:=34) (by omega)
   clear RY h2 Cf Dq pG qL uk vB xT NN PD
   go_enter Tryz.func193,Tryz.ntmps193
   go_wp2
   go_ret2
   exact bG (v:=x) (n:=2) bJ (ab Hv)
  have f34:=fY (c:=x) (k:=34) (by omega)
  have Ag:lp x=none:=by unfold lp;rw[if_neg Cf,if_neg Dq,if_neg pG,if_neg qL,if_neg uk,if_neg vB,if_neg xT,if_neg (by omega)]
  by_cases Ak:x=120
  ·have hv:dr (a::x::r)=fin (cA 16 2 ((aI s).drop 2) 0 0) 2:=by rw[ab Hl];exact oO Ag (by omega)
   rw[hv]
   have f120:=lj (c:=x) (k:=120) (by omega)
   clear hv Ag Ak Cf Dq pG qL uk vB xT NN PD RY
   go_enter Tryz.func193,Tryz.ntmps193
   go_wp2_with fail
   refine (uG hE s hs h2).mono ?_
   rintro e w1 ⟨aY,⟨ho,rfl⟩|⟨v,n,ho,rfl⟩⟩
   ·have Hb:=al aY
    have Ho:=al ho
    clear aY ho h2
    go_wp2
    go_ret2
    exact dF (ab Hb) (ab Ho)
   ·have Hb:=al aY
    have Ho:=al ho
    clear aY ho h2
    go_wp2
    go_ret2
    exact bG (ab Hb) (ab Ho)
  have f120:=fY (c:=x) (k:=120) (by omega)
  by_cases PA:x=88
  ·have hv:dr (a::x::r)=fin (cA 16 2 ((aI s).drop 2) 0 0) 2:=by rw[ab Hl];exact oO Ag (by omega)
   rw[hv]
   have f88:=lj (c:=x) (k:=88) (by omega)
   clear hv Ag PA Cf Dq pG qL uk vB xT NN PD RY Ak
   go_enter Tryz.func193,Tryz.ntmps193
   go_wp2_with fail
   refine (uG hE s hs h2).mono ?_
   rintro e w1 ⟨aY,⟨ho,rfl⟩|⟨v,n,ho,rfl⟩⟩
   ·have Hb:=al aY
    have Ho:=al ho
    clear aY ho h2
    go_wp2
    go_ret2
    exact dF (ab Hb) (ab Ho)
   ·have Hb:=al aY
    have Ho:=al ho
    clear aY ho h2
    go_wp2
    go_ret2
    exact bG (ab Hb) (ab Ho)
  have f88:=fY (c:=x) (k:=88) (by omega)
  have hv:dr (a::x::r)=fin (cA 8 3 ((aI s).drop 1) 0 0) 1:=by rw[ab Hl];exact At Ag (by omega)
  rw[hv]
  clear hv Ag Cf Dq pG qL uk vB xT NN PD RY Ak PA
  go_enter Tryz.func193,Tryz.ntmps193
  go_wp2_with fail
  refine (Cx hE s hs (by omega)).mono ?_
  rintro e w1 ⟨aY,⟨ho,rfl⟩|⟨v,n,ho,rfl⟩⟩
  ·have Hb:=al aY
   have Ho:=al ho
   clear aY ho h2
   go_wp2
   go_ret2
   exact dF (ab Hb) (ab Ho)
  ·have Hb:=al aY
   have Ho:=al ho
   clear aY ho h2
   go_wp2
   go_ret2
   exact bG (ab Hb) (ab Ho)
 ·have e0:decide ((s.size:Int)<2)=true:=by simp;omega
  have Hv:Hid (dr (aI s)=none):=uy (by rw[aX];omega)
  clear h2
  go_enter Tryz.func193,Tryz.ntmps193
  go_wp2
  go_ret2
  exact dF bJ (ab Hv)
theorem Ec {W:World} (hE:jW W) (s:ByteArray) (h0:0<s.size) (hs:s.size≤65536):Calls Tryz.prog 180 #[.string s] W (VN W (cU s 0)):=by
 have bJ:=zE W.heap.size W
 obtain ⟨x,hx⟩:∃x:Nat,s[0].toNat=x:=⟨_,rfl⟩
 have dL:aD s 0=x:=(df s 0 h0).trans hx
 have cY:x<256:=by rw[←dL];exact du s 0
 have hp:cU s 0=if x=0∨x=10 then none else if x=92 then dr (aI s) else some (x,1):=by unfold cU;rw[dL];rfl
 rw[hp]
 clear hp dL
 by_cases c0:x=0
 ·rw[if_pos (.inl c0)]
  have f0:=lj (c:=x) (k:=0) (by omega)
  clear c0
  go_enter Tryz.func180,Tryz.ntmps180
  go_wp2
  go_ret2
  exact dF bJ rfl
 have f0:=fY (c:=x) (k:=0) (by omega)
 by_cases c1:x=10
 ·rw[if_pos (.inr c1)]
  have f1:=lj (c:=x) (k:=10) (by omega)
  clear c0 c1
  go_enter Tryz.func180,Tryz.ntmps180
  go_wp2
  go_ret2
  exact dF bJ rfl
 have f1:=fY (c:=x) (k:=10) (by omega)
 by_cases c2:x=92
 ·rw[if_neg (by omega),if_pos c2]
  have f2:=lj (c:=x) (k:=92) (by omega)
  clear c0 c1 c2
  go_enter Tryz.func180,Tryz.ntmps180
  go_wp2_with fail
  refine (Cq hE s hs).mono ?_
  rintro e w1 ⟨aY,⟨ho,rfl⟩|⟨v,n,ho,rfl⟩⟩
  ·have Hb:=al aY
   have Ho:=al ho
   clear aY ho
   go_wp2
   go_ret2
   exact dF (ab Hb) (ab Ho)
  ·have Hb:=al aY
   have Ho:=al ho
   clear aY ho
   go_wp2
   go_ret2
   exact bG (ab Hb) (ab Ho)
 have f2:=fY (c:=x) (k:=92) (by omega)
 rw[if_neg (by omega),if_neg c2]
 clear c0 c1 c2
 go_enter Tryz.func180,Tryz.ntmps180
 go_wp2
 go_ret2
 exact bG (v:=x) (n:=1) bJ rfl
end Go.Proofs.YtichhjfjcinjgaaGreatDoor
namespace Go.Proofs.YtichhjfjcinjgaaGreatDoor
open Go.RowKit Go.Lib
attribute [local go_sem ↓] Go.wp_at_zero Go.wp_at_succ
theorem vF {P:Program} (w:World) (base:Nat) (t u ty e:TypeId) (i:TypeInfo) (ht:P.underlying t=some (.slice e)) (hu:P.underlying u=some .string) (hi:P.info? e=some i) (hz:i.zero=some (.int .u8 0))
  (tS:i.size=1) (eo:i.bytes=1) (v:Value) (n:Nat) (xs:List Value) (gB:w.ownsRow base e 1 v n xs) (s:ByteArray)
  (PB:n+s.size≤maxLen) (tX:n+s.size≤140737488355328) (Aj:base≤w.heap.size) :
  ∃v' w',(Builtin.append_ #[t,u] ty #[v,.string s]).run P w=.ok v' w'∧w'.ownsRow base e 1 v' (n+s.size) (xs++strCells s)∧w.grownBy w' v.ownBlock∧(v'.ownBlock=v.ownBlock∨v'.ownBlock=some w.heap.size):=by
 obtain ⟨v',w',hr,h2,h3,h4⟩:=run_append_own_string (P:=P) w base t u ty e i ht hu hi hz tS eo v n xs gB s PB tX Aj
 refine ⟨v',w',hr,h2,h3,?_⟩
 have yt:xs.length=n:=by simpa using gB.1
 unfold maxLen at PB
 have Rf:=gB
 rcases Rf.2 with ⟨rfl,rfl⟩|⟨g,cap,cur,rfl,L0,hg,hnc,hcm,qK,YL⟩
 ·by_cases hm:s.size=0
  ·exact .inl (by rw[h4.2 ⟨rfl,hm⟩])
  ·have LQ:=run_append_nil_string (P:=P) w t u ty e i (.int .u8 0) ht hu hi hz s (by omega) (by omega) (by rw[eo];omega)
   rw[hr] at LQ
   injection LQ with e1 e2
   exact .inr (by rw[e1];rfl)
 ·by_cases Q8:n+s.size≤cap
  ·have aar:cur.size=cap:=by simpa using qK
   have LQ:=run_append_room_string (P:=P) w t u ty e i ht hu hi tS g n cap cur hg s Q8 (by omega)
   rw[hr] at LQ
   injection LQ with e1 e2
   exact .inl (by rw[e1];rfl)
  ·have holds:∀j x,xs[j]?=some x→w.cell? ((⟨g,0,none⟩:Addr).add j)=some x:=gB.cells (g:=g) rfl
   have LQ:=run_append_grow_string (P:=P) w t u ty e i (.int .u8 0) ht hu hi hz ⟨g,0,none⟩ n cap xs (by rw[tS];simpa using yt) holds s (by omega) (by omega) (by rw[eo];exact growslice_fits (by omega) (by omega))
   rw[hr] at LQ
   injection LQ with e1 e2
   exact .inr (by rw[e1];rfl)
theorem bU {P:Program}{w:World}{ops:Array Oper}{rest:List Oper}{o:Oper}{a:Act}{Q:Exit→Act→World→Prop} (A2:o.guard=none) (sl x:Operand) (t u:TypeId)
  (ho:o.op=.call { callee:=.builtin .append,args:=#[sl,x],argTypes:=#[t,u] })
  (base:Nat) (e:TypeId) (i:TypeInfo) (ht:P.underlying t=some (.slice e)) (hu:P.underlying u=some .string) (hi:P.info? e=some i) (hz:i.zero=some (.int .u8 0))
  (tS:i.size=1) (eo:i.bytes=1) (v:Value) (n:Nat) (xs:List Value) (hs:a.eval sl=v) (gB:w.ownsRow base e 1 v n xs) (s:ByteArray) (hx:a.eval x=.string s)
  (PB:n+s.size≤maxLen) (tX:n+s.size≤140737488355328) (Aj:base≤w.heap.size)
  (h:∀v' w',w'.ownsRow base e 1 v' (n+s.size) (xs++strCells s)→w.grownBy w' v.ownBlock→(v'.ownBlock=v.ownBlock∨v'.ownBlock=some w.heap.size)→wpList P ops Q rest (a.put o.dst v') w'):wpList P ops Q (o::rest) a w:=by
 refine wpList_plain A2 fun K hK=>?_
 obtain ⟨v',w',hr,h2,h3,h4⟩:=vF (P:=P) w base t u o.type e i ht hu hi hz tS eo v n xs gB s PB tX Aj
 unfold Oper.wp execOp
 simp only[ho,resolve,invoke,builtin,Sem.run_bind,Sem.run_pure,Result.andThen_ok,List.map_toArray,List.map_cons,List.map_nil,hs,hx,hr]
 exact hK _ _ (h v' w' h2 h3 h4)
theorem eu (s:ByteArray):strCells s=nb (aI s):=by
 unfold strCells nb aI
 simp[List.map_map]
theorem db (w:World) (l:List Value) (t:TypeId):∀j u,l[j]?=some u→(w.alloc (.cells l.toArray t)).cell? ((⟨w.heap.size,0,none⟩:Addr).add j)=some u:=by
 intro j u h
 rw[Go.WideShapes.add_plain,cell_of_row _ _ _ _ _ _ (aK w _)]
 simpa using h
def mB (x:Nat):List Nat:=if x=92∨x=34 then [92,x] else if x=10 then [92,110] else if x=13 then [92,114] else if x=9 then [92,116] else [92,48+x / 64,48+x / 8 % 8,48+x % 8]
theorem K5 (x:Nat):(mB x).length≤4:=by
 unfold mB
 repeat' split
 all_goals simp
theorem K6 {x:Nat} (h:x<256):mM (mB x):=by
 have key:∀k:Fin 256,(mB k.val).all (·<256)=true:=by decide +kernel
 intro y hy
 have:=List.all_eq_true.1 (key ⟨x,h⟩) y hy
 simpa using this
theorem Eg {x:Nat} (h:x<256):bits .and .u8 ((x / 8:Nat):Int) 7=((x / 8 % 8:Nat):Int)∧bits .and .u8 ((x:Nat):Int) 7=((x % 8:Nat):Int):=by
 have key:∀k:Fin 256,bits .and .u8 ((k.val / 8:Nat):Int) 7=((k.val / 8 % 8:Nat):Int)∧bits .and .u8 ((k.val:Nat):Int) 7=((k.val % 8:Nat):Int):=by decide +kernel
 exact key ⟨x,h⟩
def nL (base:Nat) (W:World) (v:Value) (xs ys:List Nat) (e:Ending) (W':World):Prop:=∃v',e=.returned v'∧Bytes base W' v' (xs++ys)∧Ext W v W' v'
theorem eH {W w:World}{base n:Nat}{v v':Value}{xs ys:List Nat}{cs:List Value}{ob:Obj} (gB:w.ownsRow base 5 1 v' n (nb xs++cs)) (hn:n=xs.length+ys.length) (qK:cs=nb ys) (hg:(W.alloc ob).grownBy w v.ownBlock) (o8:v'.ownBlock=v.ownBlock∨v'.ownBlock=some (W.alloc ob).heap.size) :
  nL base W v xs ys (.returned v') w:=by
 subst hn qK
 refine ⟨v',rfl,?_,Ext.grown hg o8⟩
 unfold Bytes
 rw[kC,zK]
 exact gB
theorem ij {W w:World}{base n:Nat}{v v':Value}{xs ys:List Nat}{cs:List Value} (gB:w.ownsRow base 5 1 v' n (nb xs++cs)) (hn:n=xs.length+ys.length) (qK:cs=nb ys) (hg:W.grownBy w v.ownBlock) (o8:v'.ownBlock=v.ownBlock∨v'.ownBlock=some W.heap.size) :
  nL base W v xs ys (.returned v') w:=by
 subst hn qK
 refine ⟨v',rfl,?_,Ext.NO hg o8⟩
 unfold Bytes
 rw[kC,zK]
 exact gB
theorem vl {W:World}{base:Nat}{v:Value}{xs:List Nat} (h:Bytes base W v xs) (hb:base≤W.heap.size) (hl:xs.length≤8388608) (x:Nat) (hx:x<256) :
  Calls Tryz.prog 87 #[v,.int .u8 (x:Int)] W (nL base W v xs (mB x)):=by
 obtain ⟨i0,hi,gf,fX,dY⟩:=info_parts Tryz.infoByte
 have hv:∃a n c,v=.slice a n c:=by
  obtain ⟨a,c,rfl,_⟩:=h.has
  exact ⟨_,_,_,rfl⟩
 obtain ⟨va,vn,vc,rfl⟩:=hv
 have HY:=al h
 clear h
 by_cases h1:x=92
 ·have e1:((x:Int)==92)=true:=by simp;omega
  have o1:xs.length+2≤maxLen:=by unfold maxLen;omega
  have o2:(xs.length+2)*1≤140737488355328:=by omega
  have he:mB x=[92,x]:=by unfold mB;rw[if_pos (.inl h1)]
  rw[he]
  clear he h1
  go_enter Tryz.func87,Tryz.ntmps87
  go_wp2_with (at_builtin;refine wpList_append_own_at _ rfl _ _ 58 rfl base 5 i0 (.int .u8 0) 1 1 Tryz.underlying58 hi gf fX dY rfl (by decide) _ _ _ rfl ((ab HY).alloc _) ⟨W.heap.size,0,none⟩ 2 2 [.int .u8 92,.int .u8 (x:Int)] rfl rfl (db _ _ _) (by simp[Value.oneCell']) o1 o2 (by rw[zJ];omega) ?_;intro v4 w4 bI ba _ cH;have iA:=al bI;have j8:=al ba;have DL:=al cH;clear bI ba cH)
  go_ret
  exact eH (ys:=[92,x]) (ab iA) rfl rfl (ab j8) (ab DL)
 ·have e1:=fY (c:=x) (k:=92) (by omega)
  by_cases h2:x=34
  ·have e2:((x:Int)==34)=true:=by simp;omega
   have o1:xs.length+2≤maxLen:=by unfold maxLen;omega
   have o2:(xs.length+2)*1≤140737488355328:=by omega
   have he:mB x=[92,x]:=by unfold mB;rw[if_pos (.inr h2)]
   rw[he]
   clear he h1 h2
   go_enter Tryz.func87,Tryz.ntmps87
   go_wp2_with (at_builtin;refine wpList_append_own_at _ rfl _ _ 58 rfl base 5 i0 (.int .u8 0) 1 1 Tryz.underlying58 hi gf fX dY rfl (by decide) _ _ _ rfl ((ab HY).alloc _) ⟨W.heap.size,0,none⟩ 2 2 [.int .u8 92,.int .u8 (x:Int)] rfl rfl (db _ _ _) (by simp[Value.oneCell']) o1 o2 (by rw[zJ];omega) ?_;intro v4 w4 bI ba _ cH;have iA:=al bI;have j8:=al ba;have DL:=al cH;clear bI ba cH)
   go_ret
   exact eH (ys:=[92,x]) (ab iA) rfl rfl (ab j8) (ab DL)
  ·have e2:=fY (c:=x) (k:=34) (by omega)
   have L6:¬(x=92∨x=34):=fun q=>q.elim h1 h2
   by_cases g0:x=10
   ·have f0:((x:Int)==10)=true:=by simp;omega
    have o1:xs.length+2≤maxLen:=by unfold maxLen;omega
    have he:mB x=[92,110]:=by unfold mB;rw[if_neg L6];rw[if_pos g0]
    rw[he]
    clear he h1 h2 L6 g0
    go_enter Tryz.func87,Tryz.ntmps87
    go_wp2_with (at_builtin;refine bU rfl _ _ 58 9 rfl base 5 i0 Tryz.underlying58 Tryz.underlying9 hi gf fX dY _ _ _ rfl (ab HY) ⟨#[92,110]⟩ rfl o1 (by show xs.length+2≤_;omega) hb ?_;intro v4 w4 bI ba cH;have iA:=al bI;have j8:=al ba;have DL:=al cH;clear bI ba cH)
    go_ret
    exact ij (ys:=[92,110]) (ab iA) rfl (eu _) (ab j8) (ab DL)
   ·have f0:=fY (c:=x) (k:=10) (by omega)
    by_cases g1:x=13
    ·have f1:((x:Int)==13)=true:=by simp;omega
     have o1:xs.length+2≤maxLen:=by unfold maxLen;omega
     have he:mB x=[92,114]:=by unfold mB;rw[if_neg L6];rw[if_neg g0];rw[if_pos g1]
     rw[he]
     clear he h1 h2 L6 g0 g1
     go_enter Tryz.func87,Tryz.ntmps87
     go_wp2_with (at_builtin;refine bU rfl _ _ 58 9 rfl base 5 i0 Tryz.underlying58 Tryz.underlying9 hi gf fX dY _ _ _ rfl (ab HY) ⟨#[92,114]⟩ rfl o1 (by show xs.length+2≤_;omega) hb ?_;intro v4 w4 bI ba cH;have iA:=al bI;have j8:=al ba;have DL:=al cH;clear bI ba cH)
     go_ret
     exact ij (ys:=[92,114]) (ab iA) rfl (eu _) (ab j8) (ab DL)
    ·have f1:=fY (c:=x) (k:=13) (by omega)
     by_cases g2:x=9
     ·have f2:((x:Int)==9)=true:=by simp;omega
      have o1:xs.length+2≤maxLen:=by unfold maxLen;omega
      have he:mB x=[92,116]:=by unfold mB;rw[if_neg L6];rw[if_neg g0];rw[if_neg g1];rw[if_pos g2]
      rw[he]
      clear he h1 h2 L6 g0 g1 g2
      go_enter Tryz.func87,Tryz.ntmps87
      go_wp2_with (at_builtin;refine bU rfl _ _ 58 9 rfl base 5 i0 Tryz.underlying58 Tryz.underlying9 hi gf fX dY _ _ _ rfl (ab HY) ⟨#[92,116]⟩ rfl o1 (by show xs.length+2≤_;omega) hb ?_;intro v4 w4 bI ba cH;have iA:=al bI;have j8:=al ba;have DL:=al cH;clear bI ba cH)
      go_ret
      exact ij (ys:=[92,116]) (ab iA) rfl (eu _) (ab j8) (ab DL)
     ·have f2:=fY (c:=x) (k:=9) (by omega)
      have he:mB x=[92,48+x / 64,48+x / 8 % 8,48+x % 8]:=by unfold mB;rw[if_neg L6];rw[if_neg g0];rw[if_neg g1];rw[if_neg g2]
      rw[he]
      clear he h1 h2 L6 g0 g1 g2
      obtain ⟨q1,q2⟩:=Eg hx
      have q3:bits .and .u8 ((x:Int) / 8) 7=((x / 8 % 8:Nat):Int):=by rw[show ((x:Int) / 8)=((x / 8:Nat):Int) by omega];exact q1
      have o1:xs.length+4≤maxLen:=by unfold maxLen;omega
      have o2:(xs.length+4)*1≤140737488355328:=by omega
      go_enter Tryz.func87,Tryz.ntmps87
      go_wp2_with (at_builtin;refine wpList_append_own_at _ rfl _ _ 58 rfl base 5 i0 (.int .u8 0) 1 1 Tryz.underlying58 hi gf fX dY rfl (by decide) _ _ _ rfl ((ab HY).alloc _) ⟨W.heap.size,0,none⟩ 4 4 [.int .u8 92,.int .u8 (48+(x:Int) / 64),.int .u8 (48+(x:Int) / 8 % 8),.int .u8 (48+(x:Int) % 8)] rfl rfl (db _ _ _) (by simp[Value.oneCell']) o1 o2 (by rw[zJ];omega) ?_;intro v4 w4 bI ba _ cH;have iA:=al bI;have j8:=al ba;have DL:=al cH;clear bI ba cH)
      go_ret
      exact eH (ys:=[92,48+x / 64,48+x / 8 % 8,48+x % 8]) (ab iA) rfl (by simp[nb]) (ab j8) (ab DL)
end Go.Proofs.YtichhjfjcinjgaaGreatDoor

import Derived.Test.YtghioefalckgoaaGreatDoorM08
set_option maxHeartbeats 4000000
set_option maxRecDepth 100000
namespace Go.Proofs.YtghioefalckgoaaGreatDoor
open Go.RowKit
attribute [local go_sem ↓] Go.wp_at_zero Go.wp_at_succ
inductive EJ
 |S|M|E|V|FF
def EJ.si:EJ→SI
 |.S=>.S
 |.M=>.M
 |.E=>.E
 |.V=>.V
 |.FF=>.FF
def EJ.ea:EJ→FuncId
 |.S=>72
 |.M=>75
 |.E=>79
 |.V=>204
 |.FF=>191
def mq (v:Value):Prop:=∃a n c,v=.slice a n c
theorem fP {w:World}{B t k n:Nat}{v:Value}{xs:List Value} (h:w.ownsRow B t k v n xs):mq v:=by
 obtain ⟨h1,⟨rfl,rfl⟩|⟨g,cap,cur,rfl,h2,h3⟩⟩:=h
 ·exact ⟨_,_,_,rfl⟩
 ·exact ⟨_,_,_,rfl⟩
def BU:EJ→List Value→Prop
 |.S,x=>∃s,x=[.string s]
 |.M,x=>∃s v1 v2 v3 v4 v5 v6,x=[.string s,v1,v2,v3,v4,v5,v6]∧mq v1∧mq v2∧mq v3∧mq v4∧mq v5∧mq v6
 |.E,x=>∃s v1 v2 v3,x=[.string s,v1,v2,v3]∧mq v1∧mq v2∧mq v3
 |.V,x=>∃s z,x=[.string s,.int .i64 z]
 |.FF,x=>∃v,x=[v]∧mq v
theorem BU.ok {X:EJ}{x:List Value} (h:BU X x):x.length=X.si.k∧∀u ∈ x,u.oneCell'=true:=by
 cases X
 ·obtain ⟨s,rfl⟩:=h
  exact ⟨rfl,by simp[Value.oneCell']⟩
 ·obtain ⟨s,v1,v2,v3,v4,v5,v6,rfl,⟨_,_,_,rfl⟩,⟨_,_,_,rfl⟩,⟨_,_,_,rfl⟩,⟨_,_,_,rfl⟩,⟨_,_,_,rfl⟩,⟨_,_,_,rfl⟩⟩:=h
  exact ⟨rfl,by simp[Value.oneCell']⟩
 ·obtain ⟨s,v1,v2,v3,rfl,⟨_,_,_,rfl⟩,⟨_,_,_,rfl⟩,⟨_,_,_,rfl⟩⟩:=h
  exact ⟨rfl,by simp[Value.oneCell']⟩
 ·obtain ⟨s,z,rfl⟩:=h
  exact ⟨rfl,by simp[Value.oneCell']⟩
 ·obtain ⟨v,rfl,⟨_,_,_,rfl⟩⟩:=h
  exact ⟨rfl,by simp[Value.oneCell']⟩
def lK (lo hi:Nat) (B:List Nat):Prop:=B.Nodup∧∀b ∈ B,lo≤b∧b<hi
theorem lK.nil {lo hi:Nat}:lK lo hi []:=⟨List.nodup_nil,fun _ h=>by cases h⟩
theorem lK.wide {lo hi lo' Fy:Nat}{B:List Nat} (h:lK lo hi B) (h1:lo'≤lo) (h2:hi≤Fy):lK lo' Fy B:=⟨h.1,fun b hb=>by have:=h.2 b hb;omega⟩
theorem lK.app {lo Tf hi:Nat}{B C:List Nat} (h:lK lo Tf B) (k:lK Tf hi C) (h1:lo≤Tf) (h2:Tf≤hi):lK lo hi (B++C):=by
 refine ⟨List.nodup_append.2 ⟨h.1,k.1,fun a ha b hb e=>?_⟩,fun b hb=>?_⟩
 ·have:=h.2 a ha;have:=k.2 b hb;omega
 ·rcases List.mem_append.1 hb with hb|hb
  ·have:=h.2 b hb;omega
  ·have:=k.2 b hb;omega
theorem lK.perm {lo hi:Nat}{B C:List Nat} (h:lK lo hi B) (hp:B.Perm C):lK lo hi C:=⟨hp.nodup_iff.1 h.1,fun b hb=>h.2 b (hp.mem_iff.2 hb)⟩
theorem oK {B t sz n:Nat}{v:Value}{xs:List Value}{w w':World} (h:w.ownsRow B t sz v n xs) (hb:Below w.heap.size w w'):w'.ownsRow B t sz v n xs:=by
 refine h.kept (bB hb) ?_
 cases v.ownBlock with
 |none=>exact .inl rfl
 |some k=>exact .inr (by simp)
def gL (v:Value):List Nat:=v.ownBlock.toList
def Sx (G:Nat→List Value→List Nat→World→Prop):Prop:=∀i y B w w' ob,G i y B w→w.grownBy w' ob→(∀b ∈ B,ob≠some b)→G i y B w'
def SY (G:Nat→List Value→List Nat→World→Prop) (w:World) (T:List (List Value×List Nat)):Prop:=∀(i:Nat) (p:List Value×List Nat),T[i]?=some p→G i p.1 p.2 w
structure EaY (X:EJ) (G:Nat→List Value→List Nat→World→Prop) (w w':World) (i:Nat) (y:List Value) (B:List Nat):Prop where
 IE:BU X y
 is:G i y B w'
 GV:lK w.heap.size w'.heap.size B
 bh:Below w.heap.size w w'
structure BW (X:EJ) (G:Nat→List Value→List Nat→World→Prop) (w0 wr:World) (u:Value) (i:Nat) (T:List (List Value×List Nat)):Prop where
 row:wr.ownsRow w0.heap.size X.si.el X.si.k u i (T.map (·.1)).flatten
 len:T.length=i
 ks:∀p ∈ T,BU X p.1
 is:SY G wr T
 GV:lK w0.heap.size wr.heap.size (gL u++(T.map (·.2)).flatten)
 bh:Below w0.heap.size w0 wr
theorem BW.up {X:EJ}{G:Nat→List Value→List Nat→World→Prop}{w0 wr w:World}{u:Value}{i:Nat}{T:List (List Value×List Nat)} (h:BW X G w0 wr u i T) (hG:Sx G) (hb:Below wr.heap.size wr w):BW X G w0 w u i T :=
 ⟨oK h.row hb,h.len,h.ks,fun j p hp=>hG _ _ _ _ _ none (h.is j p hp) (bB hb) (fun _ _=>by simp),h.GV.wide (zD _) hb.size,h.bh.trans (hb.mono h.bh.size)⟩
theorem BW.push {X:EJ}{i:Nat}{G:Nat→List Value→List Nat→World→Prop}{w0 wr w1 w2:World}{u u':Value}{T:List (List Value×List Nat)}{y:List Value}{B:List Nat} (h:BW X G w0 wr u i T) (hG:Sx G) (hy:EaY X G wr w1 i y B)
  (ho:w2.ownsRow w0.heap.size X.si.el X.si.k u' (i+1) ((T.map (·.1)).flatten++y)) (hg:w1.grownBy w2 u.ownBlock) (cI:u'.ownBlock=u.ownBlock∨(∃b,u'.ownBlock=some b∧w1.heap.size≤b)):BW X G w0 w2 u' (i+1) (T++[(y,B)]):=by
 have h1:=h.up hG hy.bh
 have hs:w1.heap.size≤w2.heap.size:=hg.size
 have hub:∀b,u.ownBlock=some b→b<wr.heap.size:=fun b e=>(h.GV.2 b (by unfold gL;rw[e];simp)).2
 have hwu:∀p ∈ T,∀b ∈ p.2,u.ownBlock≠some b:=fun p hp b hb e=>by
  exact (List.nodup_append.1 h.GV.1).2.2 b (by unfold gL;rw[e];simp) b (List.mem_flatten.2 ⟨_,List.mem_map_of_mem hp,hb⟩) rfl
 refine ⟨?_,?_,?_,?_,?_,?_⟩
 ·simpa using ho
 ·simp[h.len]
 ·intro p hp
  rcases List.mem_append.1 hp with hp|hp
  ·exact h.ks p hp
  ·obtain rfl:p=(y,B):=by simpa using hp
   exact hy.IE
 ·intro j p hp
  by_cases hj:j<T.length
  ·rw[List.getElem?_append_left hj] at hp
   exact hG _ _ _ _ _ _ (h1.is j p hp) hg (hwu p (List.mem_of_getElem? hp))
  ·rw[List.getElem?_append_right (by omega)] at hp
   have CS:j=i:=by
    have:=(zB hp).1
    have:=h.len
    simp at *
    omega
   subst CS
   rw[h.len,Nat.sub_self] at hp
   obtain rfl:(y,B)=p:=by simpa using hp
   exact hG _ _ _ _ _ _ hy.is hg (fun b hb e=>by have:=hub b e;have:=(hy.GV.2 b hb).1;omega)
 ·have a1:lK w0.heap.size w1.heap.size (gL u++((T.map (·.2)).flatten++B)):=by
   rw[←List.append_assoc]
   exact h.GV.app hy.GV h.bh.size hy.bh.size
  have e1:((T++[(y,B)]).map (·.2)).flatten=(T.map (·.2)).flatten++B:=by simp
  rw[e1]
  have bM:w0.heap.size≤w1.heap.size:=h1.bh.size
  rcases cI with cI|⟨b,cI,hb⟩
  ·unfold gL
   rw[cI]
   exact a1.wide (zD _) hs
  ·have a2:lK w0.heap.size w1.heap.size ((T.map (·.2)).flatten++B):=⟨(List.nodup_append.1 a1.1).2.1,fun c hc=>a1.2 c (List.mem_append_right _ hc)⟩
   have aU:=ho.lt b cI
   have a3:lK w1.heap.size w2.heap.size (gL u'):=by
    unfold gL
    rw[cI]
    exact ⟨by simp,fun c hc=>by
     obtain rfl:c=b:=by simpa using hc
     exact ⟨hb,aU.2⟩⟩
   exact (a2.app a3 bM hs).perm List.perm_append_comm
 ·exact h1.bh.grown hg h1.bh.size (fun b e=>by have:=h.GV.2 b (by unfold gL;rw[e];simp);exact this.1)
theorem cD (w:World) (ys:List Value) (t:TypeId):∀j u,ys[j]?=some u→(w.alloc (.cells ys.toArray t)).cell? ((⟨w.heap.size,0,none⟩:Addr).add j)=some u:=by
 intro j u hj
 have e:(⟨w.heap.size,0,none⟩:Addr).add j=⟨w.heap.size,j,none⟩:=by unfold Addr.add;split<;>simp_all
 rw[e,cell_of_row _ _ _ _ _ _ (aE w _),List.getElem?_toArray]
 exact hj
theorem vJ (X:EJ) {W:World}{v:Value}{n:Nat}{L:List (List Value)}{f:FuncId}{fs cp:Array Value}{G:Nat→List Value→List Nat→World→Prop} (hv:Rl W v n L.flatten) (hn:L.length=n) (hk:∀l ∈ L,BU X l) (hb:n*X.si.by≤140737488355328) (hG:Sx G) (db:∀vs w,(callFunc f vs).run Tryz.prog w=.ok (.enter f vs) w) (w0:World) (hw:Below W.heap.size W w0)
  (hf:∀i x,L[i]?=some x→∀w,Below w0.heap.size w0 w→Calls Tryz.prog f (fs.push (fH x)++cp) w fun e w'=>∃y B,e=.returned (fH y)∧EaY X G w w' i y B) :
  Calls Tryz.prog X.ea #[v,.func (.func f) fs cp] w0 fun e w=>∃u T,e=.returned u∧BW X G w0 w u n T:=by
 obtain ⟨a,c,rfl,hm,h2⟩:=hv
 have H2:=ak h2
 have HF:=ak hf
 have HW:=ak hw
 have HG:=ak hG
 have Hk:=ak hk
 have Hn:=ak hn
 have Hb:=ak hb
 have Hm:=ak hm
 clear h2 hf hw hG hk hn hb hm
 cases X
 all_goals simp only[EJ.ea]
 case S =>
  obtain ⟨i0,hi,fX,gp,fJ⟩:=info_parts (SI.info .S)
  go_enter Tryz.func72,Tryz.ntmps72
  go_wp2
  go_loopg [5,7,10] n (fun gk v5 _ v10 wr=>∃(i:Nat) (T:List (List Value×List Nat)),v10=.int .i64 (i:Int)∧gk=n-i∧i≤n∧Hid (BW .S G w0 wr v5 i T))
  case atStart=>exact ⟨0,[],rfl,rfl,by omega,⟨⟨rfl,.inl ⟨rfl,rfl⟩⟩,rfl,fun _ h=>by (cases h),fun _ _ h=>by simp at h,lK.nil,zE _ _⟩⟩
  case round =>
   obtain ⟨i,T,rfl,bd,fY,HL⟩:=hrel
   have bH:=ak bd
   clear bd
   by_cases aU:i<n
   ·obtain ⟨g,o,rfl,hg,hc⟩:=ab H2 (by omega)
    obtain ⟨x,hr⟩:∃x,L[i]?=some x:=⟨_,List.getElem?_eq_getElem (by have:=ab Hn;omega)⟩
    have bQ:=List.mem_of_getElem? hr
    obtain ⟨xs,rfl⟩:=ab Hk x bQ
    have dh:=ak (show Below W.heap.size W wr from (ab HW).trans ((ab HL).bh.mono (ab HW).size))
    have x0:=((ab dh).cell (p:=⟨g,o+(i*1+0),none⟩) hg).trans (hc _ _ ((eJ 1 L (fun l h=>(ab Hk l h).ok.1) i 0 _ hr (by decide)).trans rfl))
    rw[Nat.add_zero,Nat.mul_one] at x0
    have bq:Below wr.heap.size wr wr:=zE _ _
    have s9:=ak ((ab HL).up (ab HG) bq)
    have HC:=ak (ab HF _ _ hr wr (ab s9).bh)
    have Fo:(0:Int)≤(i:Int):=zH _
    have i1:(i:Int)<(n:Int):=by omega
    have bn:=ak aU
    have XP:=ab Hm
    clear hc hr bQ bq HL dh aU
    go_wp2_with fail
    refine (ab HC).mono ?_
    rintro e w1 ⟨y,B,rfl,hy⟩
    obtain ⟨ys,rfl⟩:=hy.IE
    unfold fH
    have HY:=ak hy
    have xf:=ak ((ab s9).up (ab HG) hy.bh)
    have eZ:=ak (ab xf).bh.size
    clear hy HC
    go_wp2_with (at_builtin;refine wpList_append_own_at _ rfl _ _ 22 rfl w0.heap.size 9 i0 (SI.z .S) 1 (SI.by .S) Tryz.underlying22 hi fX gp fJ rfl (by decide) _ _ _ rfl ((ab xf).row.alloc _) ⟨w1.heap.size,0,none⟩ 1 1 [.string ys] rfl rfl (cD w1 [.string ys] _) (ab HY).IE.ok.2 (by have:=ab bn;have:=ab Hm;simp only[maxLen];omega) (by have h5:=ab Hb;have:=ab bn;exact Nat.le_trans (Nat.mul_le_mul_right _ (by omega)) h5) (by rw[zJ];have:=ab eZ;omega) ?_;intro v' w2 ho cE _ cI;have Ou:=ak ((ab s9).push (ab HG) (ab HY) ho ((World.grownBy_alloc w1 _ _).trans cE) (cI.imp id (fun e=>⟨_,e,by rw[zJ];omega⟩)));clear ho cE cI)
    go_roundg (n-(i+1))
    case measure=>have:=ab bH;have:=ab bn;omega
    case rel=>exact ⟨i+1,_,by go_num,rfl,ab bn,ab Ou⟩
   ·obtain rfl:i=n:=by omega
    go_wp2
    go_ret
    exact ⟨_,T,rfl,ab HL⟩
 case M =>
  obtain ⟨i0,hi,fX,gp,fJ⟩:=info_parts (SI.info .M)
  go_enter Tryz.func75,Tryz.ntmps75
  go_wp2
  go_loopg [5,7,10] n (fun gk v5 _ v10 wr=>∃(i:Nat) (T:List (List Value×List Nat)),v10=.int .i64 (i:Int)∧gk=n-i∧i≤n∧Hid (BW .M G w0 wr v5 i T))
  case atStart=>exact ⟨0,[],rfl,rfl,by omega,⟨⟨rfl,.inl ⟨rfl,rfl⟩⟩,rfl,fun _ h=>by (cases h),fun _ _ h=>by simp at h,lK.nil,zE _ _⟩⟩
  case round =>
   obtain ⟨i,T,rfl,bd,fY,HL⟩:=hrel
   have bH:=ak bd
   clear bd
   by_cases aU:i<n
   ·obtain ⟨g,o,rfl,hg,hc⟩:=ab H2 (by omega)
    obtain ⟨x,hr⟩:∃x,L[i]?=some x:=⟨_,List.getElem?_eq_getElem (by have:=ab Hn;omega)⟩
    have bQ:=List.mem_of_getElem? hr
    obtain ⟨xs,_,_,_,_,_,_,rfl,⟨Lo,Lm,Ln,rfl⟩,⟨L0,LW,LY,rfl⟩,⟨LZ,LV,LX,rfl⟩,⟨XA,Xu,Xx,rfl⟩,⟨Xz,Xt,Xw,rfl⟩,⟨Xy,Xs,Xv,rfl⟩⟩:=ab Hk x bQ
    have dh:=ak (show Below W.heap.size W wr from (ab HW).trans ((ab HL).bh.mono (ab HW).size))
    have x0:=((ab dh).cell (p:=⟨g,o+(i*7+0),none⟩) hg).trans (hc _ _ ((eJ 7 L (fun l h=>(ab Hk l h).ok.1) i 0 _ hr (by decide)).trans rfl))
    have x1:=((ab dh).cell (p:=⟨g,o+(i*7+1),none⟩) hg).trans (hc _ _ ((eJ 7 L (fun l h=>(ab Hk l h).ok.1) i 1 _ hr (by decide)).trans rfl))
    have x2:=((ab dh).cell (p:=⟨g,o+(i*7+2),none⟩) hg).trans (hc _ _ ((eJ 7 L (fun l h=>(ab Hk l h).ok.1) i 2 _ hr (by decide)).trans rfl))
    have x3:=((ab dh).cell (p:=⟨g,o+(i*7+3),none⟩) hg).trans (hc _ _ ((eJ 7 L (fun l h=>(ab Hk l h).ok.1) i 3 _ hr (by decide)).trans rfl))
    have x4:=((ab dh).cell (p:=⟨g,o+(i*7+4),none⟩) hg).trans (hc _ _ ((eJ 7 L (fun l h=>(ab Hk l h).ok.1) i 4 _ hr (by decide)).trans rfl))
    have x5:=((ab dh).cell (p:=⟨g,o+(i*7+5),none⟩) hg).trans (hc _ _ ((eJ 7 L (fun l h=>(ab Hk l h).ok.1) i 5 _ hr (by decide)).trans rfl))
    have x6:=((ab dh).cell (p:=⟨g,o+(i*7+6),none⟩) hg).trans (hc _ _ ((eJ 7 L (fun l h=>(ab Hk l h).ok.1) i 6 _ hr (by decide)).trans rfl))
    rw[Nat.add_zero] at x0
    rw[←Nat.add_assoc] at x1 x2 x3 x4 x5 x6
    have cy:=aE wr (.cells #[.string xs,.slice Lo Lm Ln,.slice L0 LW LY,.slice LZ LV LX,.slice XA Xu Xx,.slice Xz Xt Xw,.slice Xy Xs Xv] 57)
    have bq:Below wr.heap.size wr (wr.alloc (.cells #[.string xs,.slice Lo Lm Ln,.slice L0 LW LY,.slice LZ LV LX,.slice XA Xu Xx,.slice Xz Xt Xw,.slice Xy Xs Xv] 57)):=(zE _ _).alloc (zD _) _
    obtain ⟨V,hV⟩:∃V,wr.alloc (.cells #[.string xs,.slice Lo Lm Ln,.slice L0 LW LY,.slice LZ LV LX,.slice XA Xu Xx,.slice Xz Xt Xw,.slice Xy Xs Xv] 57)=V:=⟨_,rfl⟩
    rw[hV] at cy bq
    have c0:V.cell? ⟨wr.heap.size,0,none⟩=some (.string xs):=cell_of_row _ _ _ _ _ _ cy
    have c1:V.cell? ⟨wr.heap.size,1,none⟩=some (.slice Lo Lm Ln):=cell_of_row _ _ _ _ _ _ cy
    have c2:V.cell? ⟨wr.heap.size,2,none⟩=some (.slice L0 LW LY):=cell_of_row _ _ _ _ _ _ cy
    have c3:V.cell? ⟨wr.heap.size,3,none⟩=some (.slice LZ LV LX):=cell_of_row _ _ _ _ _ _ cy
    have c4:V.cell? ⟨wr.heap.size,4,none⟩=some (.slice XA Xu Xx):=cell_of_row _ _ _ _ _ _ cy
    have c5:V.cell? ⟨wr.heap.size,5,none⟩=some (.slice Xz Xt Xw):=cell_of_row _ _ _ _ _ _ cy
    have c6:V.cell? ⟨wr.heap.size,6,none⟩=some (.slice Xy Xs Xv):=cell_of_row _ _ _ _ _ _ cy
    clear cy
    have s9:=ak ((ab HL).up (ab HG) bq)
    have HC:=ak (ab HF _ _ hr V (ab s9).bh)
    have Fo:(0:Int)≤(i:Int):=zH _
    have i1:(i:Int)<(n:Int):=by omega
    have bn:=ak aU
    have XP:=ab Hm
    clear hc hr bQ bq HL dh aU
    go_wp2_with fail
    refine (ab HC).mono ?_
    rintro e w1 ⟨y,B,rfl,hy⟩
    obtain ⟨ys,_,_,_,_,_,_,rfl,⟨OB,Oy,OA,rfl⟩,⟨T9,T5,T7,rfl⟩,⟨T8,T4,T6,rfl⟩,⟨ya3,yn3,yc3,rfl⟩,⟨ya4,yn4,yc4,rfl⟩,⟨ya5,yn5,yc5,rfl⟩⟩:=hy.IE
    unfold fH
    have HY:=ak hy
    have xf:=ak ((ab s9).up (ab HG) hy.bh)
    have eZ:=ak (ab xf).bh.size
    clear hy HC
    go_wp2_with (at_builtin;refine wpList_append_own_at _ rfl _ _ 23 rfl w0.heap.size 57 i0 (SI.z .M) 7 (SI.by .M) Tryz.underlying23 hi fX gp fJ rfl (by decide) _ _ _ rfl ((ab xf).row.alloc _) ⟨w1.heap.size,0,none⟩ 1 1 [.string ys,.slice OB Oy OA,.slice T9 T5 T7,.slice T8 T4 T6,.slice ya3 yn3 yc3,.slice ya4 yn4 yc4,.slice ya5 yn5 yc5] rfl rfl (cD w1 [.string ys,.slice OB Oy OA,.slice T9 T5 T7,.slice T8 T4 T6,.slice ya3 yn3 yc3,.slice ya4 yn4 yc4,.slice ya5 yn5 yc5] _) (ab HY).IE.ok.2 (by have:=ab bn;have:=ab Hm;simp only[maxLen];omega) (by have h5:=ab Hb;have:=ab bn;exact Nat.le_trans (Nat.mul_le_mul_right _ (by omega)) h5) (by rw[zJ];have:=ab eZ;omega) ?_;intro v' w2 ho cE _ cI;have Ou:=ak ((ab s9).push (ab HG) (ab HY) ho ((World.grownBy_alloc w1 _ _).trans cE) (cI.imp id (fun e=>⟨_,e,by rw[zJ];omega⟩)));clear ho cE cI)
    go_roundg (n-(i+1))
    case measure=>have:=ab bH;have:=ab bn;omega
    case rel=>exact ⟨i+1,_,by go_num,rfl,ab bn,ab Ou⟩
   ·obtain rfl:i=n:=by omega
    go_wp2
    go_ret
    exact ⟨_,T,rfl,ab HL⟩
 case E =>
  obtain ⟨i0,hi,fX,gp,fJ⟩:=info_parts (SI.info .E)
  go_enter Tryz.func79,Tryz.ntmps79
  go_wp2
  go_loopg [5,7,10] n (fun gk v5 _ v10 wr=>∃(i:Nat) (T:List (List Value×List Nat)),v10=.int .i64 (i:Int)∧gk=n-i∧i≤n∧Hid (BW .E G w0 wr v5 i T))
  case atStart=>exact ⟨0,[],rfl,rfl,by omega,⟨⟨rfl,.inl ⟨rfl,rfl⟩⟩,rfl,fun _ h=>by (cases h),fun _ _ h=>by simp at h,lK.nil,zE _ _⟩⟩
  case round =>
   obtain ⟨i,T,rfl,bd,fY,HL⟩:=hrel
   have bH:=ak bd
   clear bd
   by_cases aU:i<n
   ·obtain ⟨g,o,rfl,hg,hc⟩:=ab H2 (by omega)
    obtain ⟨x,hr⟩:∃x,L[i]?=some x:=⟨_,List.getElem?_eq_getElem (by have:=ab Hn;omega)⟩
    have bQ:=List.mem_of_getElem? hr
    obtain ⟨xs,_,_,_,rfl,⟨Lo,Lm,Ln,rfl⟩,⟨L0,LW,LY,rfl⟩,⟨LZ,LV,LX,rfl⟩⟩:=ab Hk x bQ
    have dh:=ak (show Below W.heap.size W wr from (ab HW).trans ((ab HL).bh.mono (ab HW).size))
    have x0:=((ab dh).cell (p:=⟨g,o+(i*4+0),none⟩) hg).trans (hc _ _ ((eJ 4 L (fun l h=>(ab Hk l h).ok.1) i 0 _ hr (by decide)).trans rfl))
    have x1:=((ab dh).cell (p:=⟨g,o+(i*4+1),none⟩) hg).trans (hc _ _ ((eJ 4 L (fun l h=>(ab Hk l h).ok.1) i 1 _ hr (by decide)).trans rfl))
    have x2:=((ab dh).cell (p:=⟨g,o+(i*4+2),none⟩) hg).trans (hc _ _ ((eJ 4 L (fun l h=>(ab Hk l h).ok.1) i 2 _ hr (by decide)).trans rfl))
    have x3:=((ab dh).cell (p:=⟨g,o+(i*4+3),none⟩) hg).trans (hc _ _ ((eJ 4 L (fun l h=>(ab Hk l h).ok.1) i 3 _ hr (by decide)).trans rfl))
    rw[Nat.add_zero] at x0
    rw[←Nat.add_assoc] at x1 x2 x3
    have cy:=aE wr (.cells #[.string xs,.slice Lo Lm Ln,.slice L0 LW LY,.slice LZ LV LX] 63)
    have bq:Below wr.heap.size wr (wr.alloc (.cells #[.string xs,.slice Lo Lm Ln,.slice L0 LW LY,.slice LZ LV LX] 63)):=(zE _ _).alloc (zD _) _
    obtain ⟨V,hV⟩:∃V,wr.alloc (.cells #[.string xs,.slice Lo Lm Ln,.slice L0 LW LY,.slice LZ LV LX] 63)=V:=⟨_,rfl⟩
    rw[hV] at cy bq
    have c0:V.cell? ⟨wr.heap.size,0,none⟩=some (.string xs):=cell_of_row _ _ _ _ _ _ cy
    have c1:V.cell? ⟨wr.heap.size,1,none⟩=some (.slice Lo Lm Ln):=cell_of_row _ _ _ _ _ _ cy
    have c2:V.cell? ⟨wr.heap.size,2,none⟩=some (.slice L0 LW LY):=cell_of_row _ _ _ _ _ _ cy
    have c3:V.cell? ⟨wr.heap.size,3,none⟩=some (.slice LZ LV LX):=cell_of_row _ _ _ _ _ _ cy
    clear cy
    have s9:=ak ((ab HL).up (ab HG) bq)
    have HC:=ak (ab HF _ _ hr V (ab s9).bh)
    have Fo:(0:Int)≤(i:Int):=zH _
    have i1:(i:Int)<(n:Int):=by omega
    have bn:=ak aU
    have XP:=ab Hm
    clear hc hr bQ bq HL dh aU
    go_wp2_with fail
    refine (ab HC).mono ?_
    rintro e w1 ⟨y,B,rfl,hy⟩
    obtain ⟨ys,_,_,_,rfl,⟨OB,Oy,OA,rfl⟩,⟨T9,T5,T7,rfl⟩,⟨T8,T4,T6,rfl⟩⟩:=hy.IE
    unfold fH
    have HY:=ak hy
    have xf:=ak ((ab s9).up (ab HG) hy.bh)
    have eZ:=ak (ab xf).bh.size
    clear hy HC
    go_wp2_with (at_builtin;refine wpList_append_own_at _ rfl _ _ 24 rfl w0.heap.size 63 i0 (SI.z .E) 4 (SI.by .E) Tryz.underlying24 hi fX gp fJ rfl (by decide) _ _ _ rfl ((ab xf).row.alloc _) ⟨w1.heap.size,0,none⟩ 1 1 [.string ys,.slice OB Oy OA,.slice T9 T5 T7,.slice T8 T4 T6] rfl rfl (cD w1 [.string ys,.slice OB Oy OA,.slice T9 T5 T7,.slice T8 T4 T6] _) (ab HY).IE.ok.2 (by have:=ab bn;have:=ab Hm;simp only[maxLen];omega) (by have h5:=ab Hb;have:=ab bn;exact Nat.le_trans (Nat.mul_le_mul_right _ (by omega)) h5) (by rw[zJ];have:=ab eZ;omega) ?_;intro v' w2 ho cE _ cI;have Ou:=ak ((ab s9).push (ab HG) (ab HY) ho ((World.grownBy_alloc w1 _ _).trans cE) (cI.imp id (fun e=>⟨_,e,by rw[zJ];omega⟩)));clear ho cE cI)
    go_roundg (n-(i+1))
    case measure=>have:=ab bH;have:=ab bn;omega
    case rel=>exact ⟨i+1,_,by go_num,rfl,ab bn,ab Ou⟩
   ·obtain rfl:i=n:=by omega
    go_wp2
    go_ret
    exact ⟨_,T,rfl,ab HL⟩
 case V =>
  obtain ⟨i0,hi,fX,gp,fJ⟩:=info_parts (SI.info .V)
  go_enter Tryz.func204,Tryz.ntmps204
  go_wp2
  go_loopg [5,7,10] n (fun gk v5 _ v10 wr=>∃(i:Nat) (T:List (List Value×List Nat)),v10=.int .i64 (i:Int)∧gk=n-i∧i≤n∧Hid (BW .V G w0 wr v5 i T))
  case atStart=>exact ⟨0,[],rfl,rfl,by omega,⟨⟨rfl,.inl ⟨rfl,rfl⟩⟩,rfl,fun _ h=>by (cases h),fun _ _ h=>by simp at h,lK.nil,zE _ _⟩⟩
  case round =>
   obtain ⟨i,T,rfl,bd,fY,HL⟩:=hrel
   have bH:=ak bd
   clear bd
   by_cases aU:i<n
   ·obtain ⟨g,o,rfl,hg,hc⟩:=ab H2 (by omega)
    obtain ⟨x,hr⟩:∃x,L[i]?=some x:=⟨_,List.getElem?_eq_getElem (by have:=ab Hn;omega)⟩
    have bQ:=List.mem_of_getElem? hr
    obtain ⟨xs,xz,rfl⟩:=ab Hk x bQ
    have dh:=ak (show Below W.heap.size W wr from (ab HW).trans ((ab HL).bh.mono (ab HW).size))
    have x0:=((ab dh).cell (p:=⟨g,o+(i*2+0),none⟩) hg).trans (hc _ _ ((eJ 2 L (fun l h=>(ab Hk l h).ok.1) i 0 _ hr (by decide)).trans rfl))
    have x1:=((ab dh).cell (p:=⟨g,o+(i*2+1),none⟩) hg).trans (hc _ _ ((eJ 2 L (fun l h=>(ab Hk l h).ok.1) i 1 _ hr (by decide)).trans rfl))
    rw[Nat.add_zero] at x0
    rw[←Nat.add_assoc] at x1
    have cy:=aE wr (.cells #[.string xs,.int .i64 xz] 65)
    have bq:Below wr.heap.size wr (wr.alloc (.cells #[.string xs,.int .i64 xz] 65)):=(zE _ _).alloc (zD _) _
    obtain ⟨V,hV⟩:∃V,wr.alloc (.cells #[.string xs,.int .i64 xz] 65)=V:=⟨_,rfl⟩
    rw[hV] at cy bq
    have c0:V.cell? ⟨wr.heap.size,0,none⟩=some (.string xs):=cell_of_row _ _ _ _ _ _ cy
    have c1:V.cell? ⟨wr.heap.size,1,none⟩=some (.int .i64 xz):=cell_of_row _ _ _ _ _ _ cy
    clear cy
    have s9:=ak ((ab HL).up (ab HG) bq)
    have HC:=ak (ab HF _ _ hr V (ab s9).bh)
    have Fo:(0:Int)≤(i:Int):=zH _
    have i1:(i:Int)<(n:Int):=by omega
    have bn:=ak aU
    have XP:=ab Hm
    clear hc hr bQ bq HL dh aU
    go_wp2_with fail
    refine (ab HC).mono ?_
    rintro e w1 ⟨y,B,rfl,hy⟩
    obtain ⟨ys,yz,rfl⟩:=hy.IE
    unfold fH
    have HY:=ak hy
    have xf:=ak ((ab s9).up (ab HG) hy.bh)
    have eZ:=ak (ab xf).bh.size
    clear hy HC
    go_wp2_with (at_builtin;refine wpList_append_own_at _ rfl _ _ 61 rfl w0.heap.size 65 i0 (SI.z .V) 2 (SI.by .V) Tryz.underlying61 hi fX gp fJ rfl (by decide) _ _ _ rfl ((ab xf).row.alloc _) ⟨w1.heap.size,0,none⟩ 1 1 [.string ys,.int .i64 yz] rfl rfl (cD w1 [.string ys,.int .i64 yz] _) (ab HY).IE.ok.2 (by have:=ab bn;have:=ab Hm;simp only[maxLen];omega) (by have h5:=ab Hb;have:=ab bn;exact Nat.le_trans (Nat.mul_le_mul_right _ (by omega)) h5) (by rw[zJ];have:=ab eZ;omega) ?_;intro v' w2 ho cE _ cI;have Ou:=ak ((ab s9).push (ab HG) (ab HY) ho ((World.grownBy_alloc w1 _ _).trans cE) (cI.imp id (fun e=>⟨_,e,by rw[zJ];omega⟩)));clear ho cE cI)
    go_roundg (n-(i+1))
    case measure=>have:=ab bH;have:=ab bn;omega
    case rel=>exact ⟨i+1,_,by go_num,rfl,ab bn,ab Ou⟩
   ·obtain rfl:i=n:=by omega
    go_wp2
    go_ret
    exact ⟨_,T,rfl,ab HL⟩
 case FF =>
  obtain ⟨i0,hi,fX,gp,fJ⟩:=info_parts (SI.info .FF)
  go_enter Tryz.func191,Tryz.ntmps191
  go_wp2
  go_loopg [5,7,10] n (fun gk v5 _ v10 wr=>∃(i:Nat) (T:List (List Value×List Nat)),v10=.int .i64 (i:Int)∧gk=n-i∧i≤n∧Hid (BW .FF G w0 wr v5 i T))
  case atStart=>exact ⟨0,[],rfl,rfl,by omega,⟨⟨rfl,.inl ⟨rfl,rfl⟩⟩,rfl,fun _ h=>by (cases h),fun _ _ h=>by simp at h,lK.nil,zE _ _⟩⟩
  case round =>
   obtain ⟨i,T,rfl,bd,fY,HL⟩:=hrel
   have bH:=ak bd
   clear bd
   by_cases aU:i<n
   ·obtain ⟨g,o,rfl,hg,hc⟩:=ab H2 (by omega)
    obtain ⟨x,hr⟩:∃x,L[i]?=some x:=⟨_,List.getElem?_eq_getElem (by have:=ab Hn;omega)⟩
    have bQ:=List.mem_of_getElem? hr
    obtain ⟨_,rfl,⟨Lo,Lm,Ln,rfl⟩⟩:=ab Hk x bQ
    have dh:=ak (show Below W.heap.size W wr from (ab HW).trans ((ab HL).bh.mono (ab HW).size))
    have x0:=((ab dh).cell (p:=⟨g,o+(i*1+0),none⟩) hg).trans (hc _ _ ((eJ 1 L (fun l h=>(ab Hk l h).ok.1) i 0 _ hr (by decide)).trans rfl))
    rw[Nat.add_zero,Nat.mul_one] at x0
    have bq:Below wr.heap.size wr wr:=zE _ _
    have s9:=ak ((ab HL).up (ab HG) bq)
    have HC:=ak (ab HF _ _ hr wr (ab s9).bh)
    have Fo:(0:Int)≤(i:Int):=zH _
    have i1:(i:Int)<(n:Int):=by omega
    have bn:=ak aU
    have XP:=ab Hm
    clear hc hr bQ bq HL dh aU
    go_wp2_with fail
    refine (ab HC).mono ?_
    rintro e w1 ⟨y,B,rfl,hy⟩
    obtain ⟨_,rfl,⟨OB,Oy,OA,rfl⟩⟩:=hy.IE
    unfold fH
    have HY:=ak hy
    have xf:=ak ((ab s9).up (ab HG) hy.bh)
    have eZ:=ak (ab xf).bh.size
    clear hy HC
    go_wp2_with (at_builtin;refine wpList_append_own_at _ rfl _ _ 86 rfl w0.heap.size 54 i0 (SI.z .FF) 1 (SI.by .FF) Tryz.underlying86 hi fX gp fJ rfl (by decide) _ _ _ rfl ((ab xf).row.alloc _) ⟨w1.heap.size,0,none⟩ 1 1 [.slice OB Oy OA] rfl rfl (cD w1 [.slice OB Oy OA] _) (ab HY).IE.ok.2 (by have:=ab bn;have:=ab Hm;simp only[maxLen];omega) (by have h5:=ab Hb;have:=ab bn;exact Nat.le_trans (Nat.mul_le_mul_right _ (by omega)) h5) (by rw[zJ];have:=ab eZ;omega) ?_;intro v' w2 ho cE _ cI;have Ou:=ak ((ab s9).push (ab HG) (ab HY) ho ((World.grownBy_alloc w1 _ _).trans cE) (cI.imp id (fun e=>⟨_,e,by rw[zJ];omega⟩)));clear ho cE cI)
    go_roundg (n-(i+1))
    case measure=>have:=ab bH;have:=ab bn;omega
    case rel=>exact ⟨i+1,_,by go_num,rfl,ab bn,ab Ou⟩
   ·obtain rfl:i=n:=by omega
    go_wp2
    go_ret
    exact ⟨_,T,rfl,ab HL⟩
end Go.Proofs.YtghioefalckgoaaGreatDoor

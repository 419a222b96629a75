import Derived.Test.YtghioefalckgoaaGreatDoorM47
import Derived.ArgAppend
import Derived.Deep.DeepAppendRoom
set_option maxHeartbeats 2000000
set_option maxRecDepth 100000
namespace Go.Proofs.YtghioefalckgoaaGreatDoor
open Go.RowKit
attribute [local go_sem ↓] Go.wp_at_zero Go.wp_at_succ
theorem Mc {F:Fl} (h:(fz F).2=0):SrF F:=by
 unfold fz at h
 split at h
 ·rename_i hj
  exact Ef hj
 ·simp at h
theorem Wa {w:World}{F:Fl}{vi vm ve:Value}{cm ce:List Value}{B:List Nat} (h:EC w F vi vm ve cm ce B):mq vi:=by
 obtain ⟨_,_,h1,_⟩:=h.all
 exact h1.sl
theorem V9 {w:World}{F:Fl}{vi vm ve:Value}{cm ce:List Value}{B:List Nat} (h:EC w F vi vm ve cm ce B):mq vm:=by
 obtain ⟨_,_,_,h1,_⟩:=h.all
 exact h1.sl
theorem Wb {w:World}{F:Fl}{vi vm ve:Value}{cm ce:List Value}{B:List Nat} (h:EC w F vi vm ve cm ce B):mq ve:=by
 obtain ⟨_,_,_,_,_,h1,_⟩:=h.all
 exact h1.sl
def SdQ (W:World) (F:Fl) (e:Ending) (w:World):Prop :=
 (((fz F).2=0∧∃vi vm ve cm ce B,e=.returned (.tuple #[.agg #[.string F.dj,vi,vm,ve],.int .i64 0])∧EC w (cL F) vi vm ve cm ce B∧lK W.heap.size w.heap.size B) ∨
  ((fz F).2≠0∧e=.returned (.tuple #[.agg #[.string ⟨#[]⟩,.slice none 0 0,.slice none 0 0,.slice none 0 0],.int .i64 (fz F).2])))∧Below W.heap.size W w
theorem nB {W:World}{v vi vm ve:Value}{F:Fl}{cm ce:List Value} (hM:gj W) (hE:ji W) (hP:gG W) (hF:jS W) (vC:zy W v F vi vm ve cm ce) (iL:∀m ∈ F.ms,wm 32 m):Calls Tryz.prog 8 #[v] W (SdQ W F):=by
 have hv:=vC.is
 subst hv
 obtain ⟨ai,ci,rfl,-,-⟩:=vC.hi
 obtain ⟨am,cq,rfl,-,-⟩:=vC.hm
 obtain ⟨ae,cn,rfl,-,-⟩:=vC.he
 have n0:=aE W (.cells #[.string F.dj,.slice ai F.bp.length ci,.slice am F.ms.length cq,.slice ae F.es.length cn] 26)
 have n1:=aE (W.alloc (.cells #[.string F.dj,.slice ai F.bp.length ci,.slice am F.ms.length cq,.slice ae F.es.length cn] 26)) (.cells #[.string ⟨#[]⟩,.slice none 0 0,.slice none 0 0,.slice none 0 0] 26)
 rw[zJ] at n1
 have n2:=(World.grownBy_alloc (W.alloc (.cells #[.string F.dj,.slice ai F.bp.length ci,.slice am F.ms.length cq,.slice ae F.es.length cn] 26)) (.cells #[.string ⟨#[]⟩,.slice none 0 0,.slice none 0 0,.slice none 0 0] 26) none).block W.heap.size (by rw[zJ];omega) (by simp)
 have hb:Below W.heap.size W ((W.alloc (.cells #[.string F.dj,.slice ai F.bp.length ci,.slice am F.ms.length cq,.slice ae F.es.length cn] 26)).alloc (.cells #[.string ⟨#[]⟩,.slice none 0 0,.slice none 0 0,.slice none 0 0] 26)):=((zE _ _).alloc (zD _) _).alloc (by rw[zJ];omega) _
 obtain ⟨V,hV⟩:∃V,(W.alloc (.cells #[.string F.dj,.slice ai F.bp.length ci,.slice am F.ms.length cq,.slice ae F.es.length cn] 26)).alloc (.cells #[.string ⟨#[]⟩,.slice none 0 0,.slice none 0 0,.slice none 0 0] 26)=V:=⟨_,rfl⟩
 rw[hV] at n1 n2 hb
 rw[n0] at n2
 clear n0
 have hFV:=vC.up hb
 have HR:=ak (E2 (hM.up hb hM.1) (hE.up hb) (hP.up hb) (hF.up hb) hFV iL)
 have c0:V.cell? ⟨W.heap.size,0,none⟩=some (.string F.dj):=cell_of_row _ _ _ _ _ _ n2
 have c1:V.cell? ⟨W.heap.size,1,none⟩=some (.slice ai F.bp.length ci):=cell_of_row _ _ _ _ _ _ n2
 have c2:V.cell? ⟨W.heap.size,2,none⟩=some (.slice am F.ms.length cq):=cell_of_row _ _ _ _ _ _ n2
 have c3:V.cell? ⟨W.heap.size,3,none⟩=some (.slice ae F.es.length cn):=cell_of_row _ _ _ _ _ _ n2
 have N1:=ak n1
 have N2:=ak n2
 have HB:=ak hb
 have HFV:=ak hFV
 clear n1 n2 hb hFV hM hE hP hF vC
 go_enter Tryz.func8,Tryz.ntmps8
 go_wp2_with fail
 refine (ab HR).mono ?_
 rintro e w1 ⟨rfl,aY⟩
 have d0:=(aY.cell (p:=⟨W.heap.size,0,none⟩) (zA (ab N2)).1).trans c0
 have d1:=(aY.cell (p:=⟨W.heap.size,1,none⟩) (zA (ab N2)).1).trans c1
 have d2:=(aY.cell (p:=⟨W.heap.size,2,none⟩) (zA (ab N2)).1).trans c2
 have d3:=(aY.cell (p:=⟨W.heap.size,3,none⟩) (zA (ab N2)).1).trans c3
 have M1:=ak ((aY.block _ (zA (ab N1)).1).trans (ab N1))
 have ei:=ak ((ab HB).trans (aY.mono (ab HB).size))
 have xb:=ak aY
 clear aY c0 c1 c2 c3 HR
 obtain ⟨cd,Tv⟩:∃c,(fz F).2=c:=⟨_,rfl⟩
 rw[Tv]
 by_cases hz:cd=0
 ·subst hz
  have GI:=Mc Tv
  have HK:=ak (uI (ab HFV) GI w1 (ab xb))
  have YA:=ak Tv
  clear GI Tv hV
  go_wp2_with fail
  refine (ab HK).mono ?_
  rintro e w2 ⟨ui,um,ue,km,ke,B,rfl,hY,hA,b9⟩
  have M2:=ak ((b9.block _ (zA (ab M1)).1).trans (ab M1))
  have dF:=ak ((ab ei).trans (b9.mono (ab ei).size))
  have aU:=(zA (ab M1)).1
  have HS:=ak (ab ei).size
  obtain ⟨x1,n1,k1,rfl⟩:=Wa hY
  obtain ⟨x2,n2,k2,rfl⟩:=V9 hY
  obtain ⟨x3,n3,k3,rfl⟩:=Wb hY
  have m1:=ab M2
  have z:∀j,w2.frozen? ⟨W.heap.size+1,j,none⟩=false:=fun j=>by simp[World.frozen?,m1]
  have z0:=z 0
  have z1:=z 1
  have z2:=z 2
  have z3:=z 3
  clear z
  have y0:w2.cell? ⟨W.heap.size+1,0,none⟩=some (.string ⟨#[]⟩):=cell_of_row _ _ _ _ _ _ m1
  have y1:w2.cell? ⟨W.heap.size+1,1,none⟩=some (.slice none 0 0):=cell_of_row _ _ _ _ _ _ m1
  have y2:w2.cell? ⟨W.heap.size+1,2,none⟩=some (.slice none 0 0):=cell_of_row _ _ _ _ _ _ m1
  have y3:w2.cell? ⟨W.heap.size+1,3,none⟩=some (.slice none 0 0):=cell_of_row _ _ _ _ _ _ m1
  obtain ⟨q0,g0⟩:=aI (j:=0) m1 (.string F.dj)
  obtain ⟨q1,g1⟩:=aI (j:=1) q0 (.slice x1 n1 k1)
  obtain ⟨q2,g2⟩:=aI (j:=2) q1 (.slice x2 n2 k2)
  obtain ⟨q3,g3⟩:=aI (j:=3) q2 (.slice x3 n3 k3)
  have gg:=((g0.trans g1).trans g2).trans g3
  have be:=(ab dF).grown gg (ab dF).size (fun k e=>by obtain rfl:=zC e;omega)
  have Q3:=ak q3
  have BE:=ak be
  have GG:=ak gg
  clear m1 q0 q1 q2 q3 g0 g1 g2 g3 gg be
  have HY:=ak (hY.kept (ab GG) (fun b hb e=>by have:=(hA.2 b hb).1;obtain rfl:=zC e;omega))
  have HA:=ak (hA.wide (ab HS) (ab GG).size)
  clear hY hA b9 aU d0 d1 d2 d3
  go_wp2
  refine bodyPost_ret (nD rfl _ _ (W.heap.size+1) 26 _ (0,0) _ rfl (ab Q3) Tryz.underlying26 rfl (by kernel_rfl)) rfl ?_
  exact ⟨.inl ⟨ab YA,_,_,_,_,_,_,rfl,ab HY,ab HA⟩,ab BE⟩
 ·have fJ:(cd != 0)=true:=by simp[hz]
  have YA:=ak Tv
  have Hz:=ak hz
  clear Tv hz hV
  have m1:=ab M1
  have z:∀j,w1.frozen? ⟨W.heap.size+1,j,none⟩=false:=fun j=>by simp[World.frozen?,m1]
  have z0:=z 0
  have z1:=z 1
  have z2:=z 2
  have z3:=z 3
  clear z
  have y0:w1.cell? ⟨W.heap.size+1,0,none⟩=some (.string ⟨#[]⟩):=cell_of_row _ _ _ _ _ _ m1
  have y1:w1.cell? ⟨W.heap.size+1,1,none⟩=some (.slice none 0 0):=cell_of_row _ _ _ _ _ _ m1
  have y2:w1.cell? ⟨W.heap.size+1,2,none⟩=some (.slice none 0 0):=cell_of_row _ _ _ _ _ _ m1
  have y3:w1.cell? ⟨W.heap.size+1,3,none⟩=some (.slice none 0 0):=cell_of_row _ _ _ _ _ _ m1
  obtain ⟨q0,g0⟩:=aI (j:=0) m1 (.string ⟨#[]⟩)
  obtain ⟨q1,g1⟩:=aI (j:=1) q0 (.slice none 0 0)
  obtain ⟨q2,g2⟩:=aI (j:=2) q1 (.slice none 0 0)
  obtain ⟨q3,g3⟩:=aI (j:=3) q2 (.slice none 0 0)
  have gg:=((g0.trans g1).trans g2).trans g3
  have be:=(ab ei).grown gg (ab ei).size (fun k e=>by obtain rfl:=zC e;omega)
  have Q3:=ak q3
  have BE:=ak be
  have GG:=ak gg
  clear m1 q0 q1 q2 q3 g0 g1 g2 g3 gg be
  clear d0 d1 d2 d3
  go_wp2
  refine bodyPost_ret (nD rfl _ _ (W.heap.size+1) 26 _ (0,0) _ rfl (ab Q3) Tryz.underlying26 rfl (by kernel_rfl)) rfl ?_
  exact ⟨.inr ⟨by rw[ab YA];exact ab Hz,by rw[ab YA];rfl⟩,ab BE⟩
end Go.Proofs.YtghioefalckgoaaGreatDoor
namespace Go.Proofs.YtghioefalckgoaaGreatDoor
open Go.RowKit
theorem yw {W:World}{bs e size g n m c:Nat}{xs news:List Value} (h:W.ownsRow bs e size (.slice (some ⟨g,0,none⟩) (n+m) c) (n+m) (xs++news)) (hx:xs.length=n*size):W.ownsRow bs e size (.slice (some ⟨g,0,none⟩) n c) n xs:=by
 refine ⟨hx,?_⟩
 rcases h.2 with ⟨e,_⟩|⟨g',cap,cur,e,aY,h2,h3,h4,h5,h6⟩
 ·cases e
 ·cases e
  refine .inr ⟨g,c,cur,rfl,aY,h2,by omega,h4,h5,?_⟩
  have:=congrArg (List.take (n*size)) h6
  rw[List.take_take,Nat.min_eq_left (Nat.mul_le_mul_right _ (Nat.le_add_right n m)),←hx,List.take_left] at this
  rw[←hx]
  exact this
section
variable {P : Program}
theorem pO (w:World) (t ty:TypeId) (base:Nat) (e:TypeId) (i:TypeInfo) (z:Value) (size bytes:Nat) (ht:P.underlying t=some (.slice e)) (hi:P.info? e=some i) (hz:i.zero=some z)
  (fQ:i.size=size) (jD:i.bytes=bytes) (M4:z.cells.size=size) (iL:0<size)
  (v:Value) (n:Nat) (xs:List Value) (cU:w.ownsRow base e size v n xs)
  (ad:Addr) (m c:Nat) (news:List Value) (hl:news.length=m*size) (oX:∀j u,news[j]?=some u→w.cell? (ad.add j)=some u) (h1:∀u ∈ news,u.oneCell'=true)
  (hm:0<m) (Ec:n+m≤maxLen) (gE:(n+m)*bytes≤140737488355328) (ns:base≤w.heap.size) :
  ∃g' c' w',(Builtin.append_ #[t,t] ty #[v,.slice (some ad) m c]).run P w=.ok (.slice (some ⟨g',0,none⟩) (n+m) c') w'∧w'.ownsRow base e size (.slice (some ⟨g',0,none⟩) (n+m) c') (n+m) (xs++news)∧w'.ownsRow base e size v n xs∧w.grownBy w' v.ownBlock ∧
   (v.ownBlock=some g'∨w.heap.size≤g')∧∀g j,v.ownBlock=some g→w'.cell? ⟨g,j,none⟩=w.cell? ⟨g,j,none⟩∨∃u,(xs++news)[j]?=some u∧w'.cell? ⟨g,j,none⟩=some u:=by
 have hlen:xs.length=n*size:=cU.1
 rcases id cU.2 with ⟨rfl,rfl⟩|⟨g,cap,cur,rfl,GP,hg,hnc,hcm,lN,U6⟩
 ·obtain ⟨v',w',hr,ho,jB,_⟩:=run_append_own (P:=P) w base t ty e i z size bytes ht hi hz fQ jD M4 iL (.slice none 0 0) 0 xs cU ad m c news hl oX h1 Ec gE ns
  have abt:w.grownBy w' none:=jB
  rcases id ho.2 with ⟨_,h0⟩|⟨g',c',_,rfl,gS,_⟩
  ·omega
  ·obtain rfl:xs=[]:=List.eq_nil_of_length_eq_zero (by simpa using hlen)
   refine ⟨g',c',w',hr,ho,World.ownsRow_nil _ _ _ _,jB,?_,fun g j e=>by cases e⟩
   by_cases h:w.heap.size≤g'
   ·exact .inr h
   ·exfalso
    obtain ⟨v2,w2,mH,fg,abr,_⟩:=run_append_own (P:=P) w w.heap.size t ty e i z size bytes ht hi hz fQ jD M4 iL (.slice none 0 0) 0 [] (World.ownsRow_nil w _ e size) ad m c news hl oX h1 Ec gE (zD _)
    rw[hr] at mH
    simp only[Result.ok.injEq] at mH
    obtain ⟨rfl,rfl⟩:=mH
    exact h (fg.lt g' rfl).1
 ·by_cases A8:n+m≤cap
  ·obtain ⟨w',hr,ho,jB⟩:=run_append_own_spare (P:=P) w base t ty e i size ht hi fQ g n cap xs cU ad m c news hl oX h1 A8
   have Fx:∀j,j<news.length→(w.cell? ⟨g,0+n*i.size+j,none⟩).isSome=true:=fun j hj=>by
    rw[cell_of_row _ _ _ _ _ _ hg]
    have:n*size+news.length≤cur.size:=by rw[hl,lN,←Nat.add_mul];exact Nat.mul_le_mul_right _ A8
    rw[fQ,Array.getElem?_eq_getElem (by omega)]
    rfl
   have mH:=run_append_room_cells (P:=P) w t ty e i ht hi g 0 n cap ad m c news (by rw[fQ];exact hl) oX h1 A8 Fx (fun j _=>World.ownsRow.frozenAt cU _)
   rw[hr] at mH
   simp only[Result.ok.injEq,true_and] at mH
   refine ⟨g,cap,w',hr,ho,yw ho hlen,jB,.inl rfl,fun g1 j e=>?_⟩
   obtain rfl:g=g1:=by simpa[Value.ownBlock] using e
   by_cases hj:j<(n+m)*size
   ·refine .inr ?_
    have GJ:(xs++news).length=(n+m)*size:=ho.1
    refine ⟨(xs++news)[j]'(by omega),List.getElem?_eq_getElem _,?_⟩
    rw[World.ownsRow.cellAt ho j hj,List.getElem?_eq_getElem]
   ·refine .inl ?_
    rw[mH]
    refine World.cell?_setCells_out _ _ _ _ _ fun _ _=>.inr ?_
    rw[fQ,hl,Nat.zero_add,←Nat.add_mul]
    show (n+m)*size≤j
    omega
  ·obtain ⟨v',w',hr,ho,jB⟩:=run_append_arg_grows (P:=P) w t ty e i z size bytes ht hi hz fQ jD M4 iL ⟨g,0,none⟩ n cap xs hlen (cU.cells (g:=g) rfl) ad m c news hl oX (by omega) Ec gE
   rcases id ho.2 with ⟨_,h0⟩|⟨g',c',_,rfl,gS,_⟩
   ·omega
   ·refine ⟨g',c',w',hr,mB ho ns,World.ownsRow.kept cU jB (.inr (by simp[Value.ownBlock])),⟨jB.os,jB.tape,jB.output,jB.size,fun k hk _=>jB.block k hk (by simp)⟩,.inr gS,fun g1 j e=>.inl ?_⟩
    obtain rfl:g=g1:=by simpa[Value.ownBlock] using e
    exact World.cell?_of_block (jB.block g (cU.lt g rfl).2 (by simp))
section
variable {ops : Array Oper} {Q : Exit → Act → World → Prop}
theorem mN (w:World) {rest:List Oper}{o:Oper}{a:Act} (wg:o.guard=none) (s x:Operand) (t:TypeId)
  (ho:o.op=.call { callee:=.builtin .append,args:=#[s,x],argTypes:=#[t,t] })
  (base:Nat) (e:TypeId) (i:TypeInfo) (z:Value) (size bytes:Nat) (ht:P.underlying t=some (.slice e)) (hi:P.info? e=some i) (hz:i.zero=some z)
  (fQ:i.size=size) (jD:i.bytes=bytes) (M4:z.cells.size=size) (iL:0<size)
  (v:Value) (n:Nat) (xs:List Value) (hs:a.eval s=v) (cU:w.ownsRow base e size v n xs)
  (ad:Addr) (m c:Nat) (news:List Value) (hx:a.eval x=.slice (some ad) m c) (hl:news.length=m*size) (oX:∀j u,news[j]?=some u→w.cell? (ad.add j)=some u) (h1:∀u ∈ news,u.oneCell'=true)
  (hm:0<m) (Ec:n+m≤maxLen) (gE:(n+m)*bytes≤140737488355328) (ns:base≤w.heap.size)
  (h:∀g' c' w',w'.ownsRow base e size (.slice (some ⟨g',0,none⟩) (n+m) c') (n+m) (xs++news)→w'.ownsRow base e size v n xs→w.grownBy w' v.ownBlock →
   (v.ownBlock=some g'∨w.heap.size≤g')→(∀g j,v.ownBlock=some g→w'.cell? ⟨g,j,none⟩=w.cell? ⟨g,j,none⟩∨∃u,(xs++news)[j]?=some u∧w'.cell? ⟨g,j,none⟩=some u)→wpList P ops Q rest (a.put o.dst (.slice (some ⟨g',0,none⟩) (n+m) c')) w') :
  wpList P ops Q (o::rest) a w:=by
 refine wpList_plain wg fun K hK=>?_
 obtain ⟨g',c',w',hr,h2,h3,h4,h5,h6⟩:=pO (P:=P) w t o.type base e i z size bytes ht hi hz fQ jD M4 iL v n xs cU ad m c news hl oX h1 hm Ec gE ns
 unfold Oper.wp execOp
 simp only[ho,resolve,invoke,builtin,Sem.run_bind,Sem.run_pure,Result.andThen_ok,List.map_toArray,List.map_cons,List.map_nil,hs,hx,hr]
 exact hK _ _ (h g' c' w' h2 h3 h4 h5 h6)
end
end
structure gm (used:Nat→Option Nat) (wS w:World):Prop where
 os:w.os=wS.os
 tape:w.tape=wS.tape
 output:w.output=wS.output
 size:wS.heap.size≤w.heap.size
 same:∀g,g<wS.heap.size→used g=none→w.heap[g]?=wS.heap[g]?
 ku:∀g u cur t,used g=some u→wS.heap[g]?=some (.cells cur t (0,0))→∃rj,w.heap[g]?=some (.cells rj t (0,0))∧rj.size=cur.size∧rj.toList.take u=cur.toList.take u
theorem gm.refl (used:Nat→Option Nat) (w:World):gm used w w:=⟨rfl,rfl,rfl,zD _,fun _ _ _=>rfl,fun _ _ cur _ _ h=>⟨cur,h,rfl,rfl⟩⟩
theorem gm.fresh {used:Nat→Option Nat}{wS w w':World} (h:gm used wS w) (hg:w.grownBy w' none):gm used wS w':=by
 refine ⟨hg.os.trans h.os,hg.tape.trans h.tape,hg.output.trans h.output,Nat.le_trans h.size hg.size,fun g hl hu=>(hg.block g (Nat.lt_of_lt_of_le hl h.size) (by simp)).trans (h.same g hl hu),fun g u cur t hu hc=>?_⟩
 obtain ⟨rj,h1,h2,h3⟩:=h.ku g u cur t hu hc
 exact ⟨rj,(hg.block g (zA h1).1 (by simp)).trans h1,h2,h3⟩
def Yl (used:Nat→Option Nat) (v:Value) (n k:Nat):Prop:=∀b ∈ gL v,used b=some (n*k)
theorem Ow.eQ {used:Nat→Option Nat}{wS w:World}{t k n:Nat}{v:Value}{xs:List Value} (h:Ow wS t k v n xs) (hu:Yl used v n k) (hg:gm used wS w):Ow w t k v n xs:=by
 obtain ⟨⟨h1,⟨rfl,h2⟩|⟨g,cap,cur,rfl,h2,h3,h4,h5,h6,h7⟩⟩,h8⟩:=h
 ·exact ⟨⟨h1,.inl ⟨rfl,h2⟩⟩,h8⟩
 ·obtain ⟨rj,k1,k2,k3⟩:=hg.ku g (n*k) cur t (hu g (by simp[gL,Value.ownBlock])) h3
  exact ⟨⟨h1,.inr ⟨g,cap,rj,rfl,h2,k1,h4,h5,by rw[k2,h6],by rw[k3,h7]⟩⟩,h8⟩
structure k9 (used:Nat→Option Nat) (wS w:World) (t k:Nat) (v:Value) (m:Nat):Prop where
 own:∃ys,w.ownsRow 0 t k v m ys
 us:∀g,v.ownBlock=some g→g<wS.heap.size→∃u,used g=some u∧u≤m*k
theorem k9.start {used:Nat→Option Nat}{wS w:World}{t k n:Nat}{v:Value}{xs:List Value} (h:Ow wS t k v n xs) (hu:Yl used v n k) (hg:gm used wS w):k9 used wS w t k v n :=
 ⟨⟨xs,(h.eQ hu hg).1⟩,fun g e _=>⟨_,hu g (by simp[gL,e]),zD _⟩⟩
theorem k9.kept {used:Nat→Option Nat}{wS w w':World}{t k n:Nat}{v:Value}{ob:Option Nat} (h:k9 used wS w t k v n) (hg:w.grownBy w' ob) (hb:v.ownBlock=Option.none∨v.ownBlock≠ob):k9 used wS w' t k v n:=by
 obtain ⟨⟨ys,h1⟩,h2⟩:=h
 exact ⟨⟨ys,h1.kept hg hb⟩,h2⟩
theorem k9.up {used:Nat→Option Nat}{wS w w':World}{t k n:Nat}{v:Value} (h:k9 used wS w t k v n) (hg:w.grownBy w' Option.none):k9 used wS w' t k v n:=h.kept hg (by cases v.ownBlock<;>simp)
theorem gm.append {used:Nat→Option Nat}{wS w w':World}{t k m:Nat}{v:Value}{ys:List Value} (h:gm used wS w) (ho:w.ownsRow 0 t k v m ys) (hu:∀g,v.ownBlock=some g→g<wS.heap.size→∃u,used g=some u∧u≤m*k) (ho':w'.ownsRow 0 t k v m ys) (hg:w.grownBy w' v.ownBlock):gm used wS w':=by
 refine ⟨hg.os.trans h.os,hg.tape.trans h.tape,hg.output.trans h.output,Nat.le_trans h.size hg.size,fun g hl hn=>?_,fun g u cur t' hgu hc=>?_⟩
 ·refine (hg.block g (Nat.lt_of_lt_of_le hl h.size) (fun e=>?_)).trans (h.same g hl hn)
  obtain ⟨u,h1,_⟩:=hu g e.symm hl
  rw[hn] at h1
  cases h1
 ·obtain ⟨rj,h1,h2,h3⟩:=h.ku g u cur t' hgu hc
  have aU:=(zA hc).1
  by_cases e:v.ownBlock=some g
  ·obtain ⟨u',D4,OY⟩:=hu g e aU
   rw[hgu] at D4
   obtain rfl:u=u':=by simpa using D4
   obtain ⟨-,⟨rfl,_⟩|⟨g1,cap,c1,rfl,-,p1,-,-,p2,p3⟩⟩:=ho
   ·cases e
   ·obtain rfl:g1=g:=by simpa[Value.ownBlock] using e
    obtain ⟨-,⟨e2,_⟩|⟨g2,R4,c2,e2,-,q1,-,-,q2,q3⟩⟩:=ho'
    ·cases e2
    ·obtain ⟨rfl,rfl⟩:g1=g2∧cap=R4:=by simpa using e2
     rw[h1] at p1
     obtain ⟨rfl,rfl⟩:rj=c1∧t'=t:=by simpa using p1
     refine ⟨c2,q1,by omega,?_⟩
     have s1:c2.toList.take u=(c2.toList.take (m*k)).take u:=by rw[List.take_take,Nat.min_eq_left OY]
     have s2:rj.toList.take u=(rj.toList.take (m*k)).take u:=by rw[List.take_take,Nat.min_eq_left OY]
     rw[s1,q3,←p3,←s2,h3]
  ·exact ⟨rj,(hg.block g (zA h1).1 (fun q=>e q.symm)).trans h1,h2,h3⟩
theorem cw {P:Program}{ops:Array Oper}{Q:Exit→Act→World→Prop}{used:Nat→Option Nat}{wS:World} (w:World) {rest:List Oper}{o:Oper}{a:Act} (wg:o.guard=.none) (s x:Operand) (t:TypeId)
  (ho:o.op=.call { callee:=.builtin .append,args:=#[s,x],argTypes:=#[t,t] })
  (e:TypeId) (i:TypeInfo) (z:Value) (size bytes:Nat) (ht:P.underlying t=some (.slice e)) (hi:P.info? e=some i) (hz:i.zero=some z)
  (fQ:i.size=size) (jD:i.bytes=bytes) (M4:z.cells.size=size) (iL:0<size)
  (v:Value) (n:Nat) (hs:a.eval s=v) (hC:k9 used wS w e size v n) (hG:gm used wS w)
  (c:Nat) (news:List Value) (hx:a.eval x=.slice (some ⟨w.heap.size,0,.none⟩) 1 c) (hl:news.length=1*size) (h1:∀u ∈ news,u.oneCell'=true)
  (Ec:n+1≤maxLen) (gE:(n+1)*bytes≤140737488355328)
  (h:∀g' c' w',k9 used wS w' e size (.slice (some ⟨g',0,.none⟩) (n+1) c') (n+1)→gm used wS w'→w.grownBy w' v.ownBlock→(v.ownBlock=some g'∨w.heap.size≤g')→wpList P ops Q rest (a.put o.dst (.slice (some ⟨g',0,.none⟩) (n+1) c')) w') :
  wpList P ops Q (o::rest) a (w.alloc (.cells news.toArray e)):=by
 obtain ⟨⟨ys,cU⟩,hu⟩:=hC
 have jB:=World.grownBy_alloc w (.cells news.toArray e) .none
 have ff:(w.alloc (.cells news.toArray e)).heap.size=w.heap.size+1:=zJ _ _
 have O5:=cU.alloc (.cells news.toArray e)
 refine mN (w.alloc (.cells news.toArray e)) wg s x t ho 0 e i z size bytes ht hi hz fQ jD M4 iL v n ys hs O5 ⟨w.heap.size,0,.none⟩ 1 c news hx hl (cD w news e) h1 (by omega) Ec gE (Nat.zero_le _) ?_
 intro g' c' w' k1 k2 k3 k4 k5
 refine h g' c' w' ⟨⟨_,k1⟩,fun g eg aU=>?_⟩ ((hG.fresh jB).append O5 (fun g e=>hu g e) k2 k3) ((World.grownBy_alloc w _ _).trans k3) (k4.imp id (fun q=>by omega))
 obtain rfl:g'=g:=by simpa[Value.ownBlock] using eg
 rcases k4 with q|q
 ·obtain ⟨u,u1,u2⟩:=hu g' q aU
  exact ⟨u,u1,Nat.le_trans u2 (Nat.mul_le_mul_right _ (Nat.le_succ _))⟩
 ·have:=hG.size
  omega
end Go.Proofs.YtghioefalckgoaaGreatDoor

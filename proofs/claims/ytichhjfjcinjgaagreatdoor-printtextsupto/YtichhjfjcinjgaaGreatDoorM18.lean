import Derived.Test.YtichhjfjcinjgaaGreatDoorM17
set_option maxHeartbeats 2000000
set_option maxRecDepth 100000
namespace Go.Proofs.YtichhjfjcinjgaaGreatDoor
open Go.RowKit
attribute [local go_sem ↓] Go.wp_at_zero Go.wp_at_succ
theorem NZ {w:World}{b:Nat}{v0 v1 v2 v3:Value}{t:TypeId} (hn:w.heap[b]?=some (.cells #[v0,v1,v2,v3] t (0,0))):w.cell? ⟨b,0,none⟩=some v0∧w.cell? ⟨b,1,none⟩=some v1∧w.cell? ⟨b,2,none⟩=some v2∧w.cell? ⟨b,3,none⟩=some v3 :=
 ⟨cell_of_row _ _ _ _ _ _ hn,cell_of_row _ _ _ _ _ _ hn,cell_of_row _ _ _ _ _ _ hn,cell_of_row _ _ _ _ _ _ hn⟩
def ga:ByteArray:=⟨#[32,61,32]⟩
def gu (n:Nat) (v:ByteArray×Int):List Nat:=aV n [v.1,ga,bH v.2,bC]
noncomputable def fV (n:Nat) (e:En):List Nat:=eW n 2147483647 e.res e.gone++e.aQ.flatMap (gu n)
theorem Bd {W w:World}{B bb dd ll:Nat}{L:List Nat}{n:Nat} (h:Pn W B bb dd L n w) (hP:iY W) (hF:jw W) {e:En}{vv vr vg:Value} (hv:Rl W vv e.aQ.length (qM e.aQ)) (hr:Rl W vr e.res.length (kO e.res)) (hg:Rl W vg e.gone.length (bY e.gone))
  (GP:e.res.length≤4096) (oA:∀r ∈ e.res,(-2147483648≤r.1∧r.1≤2147483647)∧(-2147483648≤r.2∧r.2≤2147483647)) (dK:e.gone.length≤4096) (ed:∀s ∈ e.gone,s.size≤1048576) (Ev:∀v ∈ e.aQ,-2147483648≤v.2∧v.2≤2147483647) (hl:L.length+(fV n e).length≤1099511627776) :
  Calls Tryz.prog 91 #[.agg (eI bb dd ll),.agg #[.string e.name,vv,vr,vg]] w (uU W B bb dd (L++fV n e) n w):=by
 have aM:=h.bi.lt.2
 have s1:=zJ w (.cells (eI bb dd ll) 89)
 have k1:=aK w (.cells (eI bb dd ll) 89)
 have k2:=aK (w.alloc (.cells (eI bb dd ll) 89)) (.cells #[.string e.name,vv,vr,vg] 67)
 rw[s1] at k2
 have ss:=(Below.heap_alloc (w.alloc (.cells (eI bb dd ll) 89)) (.cells #[.string e.name,vv,vr,vg] 67) _ (by rw[s1];omega)).trans k1
 have kQ:Below w.heap.size w ((w.alloc (.cells (eI bb dd ll) 89)).alloc (.cells #[.string e.name,vv,vr,vg] 67)):=((zE _ _).alloc (zD _) _).alloc (by omega) _
 have hlen:(fV n e).length=(eW n 2147483647 e.res e.gone).length+(e.aQ.flatMap (gu n)).length:=by unfold fV;rw[zK]
 have HR:=al (nV (ll:=ll) (most:=2147483647) (h.below kQ) hP hF hr hg GP oA dK ed (by omega))
 unfold eI at ss k2 kQ HR ⊢
 obtain ⟨V,hV⟩:∃V,(w.alloc (.cells #[bX bb dd,ct ll dd,ck bb] 89)).alloc (.cells #[.string e.name,vv,vr,vg] 67)=V:=⟨_,rfl⟩
 rw[hV] at ss k2 kQ HR
 obtain ⟨c0,c1,c2,c3⟩:=NZ k2
 have p0:V.cell? ⟨w.heap.size,0,none⟩=some (bX bb dd):=cell_of_row _ _ _ _ _ _ ss
 have p1:V.cell? ⟨w.heap.size,1,none⟩=some (ct ll dd):=cell_of_row _ _ _ _ _ _ ss
 have p2:V.cell? ⟨w.heap.size,2,none⟩=some (ck bb):=cell_of_row _ _ _ _ _ _ ss
 obtain ⟨av,cv,rfl,Ag,fk⟩:=hv
 obtain ⟨ar,cr,rfl,-,-⟩:=hr
 obtain ⟨ag,cg,rfl,-,-⟩:=hg
 have HV:=al fk
 have Jb:=al (show Kp bb w V from Kp.below kQ)
 have iC:=al ss
 have fA:=al k2
 have o3:=al (show w.heap.size≠bb by omega)
 have Xg:=al (show w.heap.size+1≠bb by omega)
 unfold bX ct ck at hV iC HR ⊢
 unfold bX at p0
 unfold ct at p1
 unfold ck at p2
 clear k1 ss k2 kQ s1 aM h GP oA dK ed hF hlen
 go_enter Tryz.func91,Tryz.ntmps91
 go_wp2_with fail
 refine (ab HR).mono ?_
 rintro e' w1 ⟨rfl,pD,lO⟩
 have j1:=lO _ _ _ _ (ab o3) (ab iC) (by decide)
 have j2:=lO _ _ _ _ (ab Xg) (ab fA) (by decide)
 obtain ⟨d0,d1,d2,d3⟩:=NZ j2
 have uX:=al pD
 have yo:=al ((ab Jb).trans lO)
 have qF:=al j1
 have Hl:=al hl
 have Z6:=al Ev
 have Mn:Hid (∀w,Below W.heap.size W w→iY w):=fun w h=>hP.up h
 clear c0 c1 c2 c3 p0 p1 p2 pD lO j1 j2 hl Ev hP HR Jb iC fA hV
 go_wp2_with fail
 clear d0 d1 d2 d3
 go_loopg [5,15] e.aQ.length (fun gk _ v15 wr=>∃(i:Nat),v15=.int .i64 (i:Int)∧gk=e.aQ.length-i∧i≤e.aQ.length∧Hid (Pn W B bb dd (L++eW n 2147483647 e.res e.gone++(e.aQ.take i).flatMap (gu n)) n wr)∧Hid (Kp bb w wr)∧Hid (wr.heap[w.heap.size]?=some (.cells #[.func (.func 80) #[] #[.pointer (some ⟨bb,0,none⟩),.pointer (some ⟨dd,0,none⟩)],.func (.func 84) #[] #[.pointer (some ⟨ll,0,none⟩),.pointer (some ⟨dd,0,none⟩)],.func (.func 85) #[.pointer (some ⟨bb,0,none⟩)] #[]] 89 (0,0))))
 case atStart=>exact ⟨0,rfl,rfl,by omega,by rw[List.take_zero,List.flatMap_nil,List.append_nil];exact uX,yo,qF⟩
 case round =>
  obtain ⟨i,rfl,aU,hi,fz,fA,CB⟩:=hrel
  have bz:=al aU
  clear aU uX yo qF
  by_cases aM:i<e.aQ.length
  ·obtain ⟨g,o,rfl,hg,hc⟩:=ab HV (by omega)
   have hr:=List.getElem?_eq_getElem aM
   have cG:=List.getElem_mem aM
   obtain ⟨r,tT⟩:∃r,e.aQ[i]=r:=⟨_,rfl⟩
   rw[tT] at hr cG
   have x0:=((ab fz).bV.cell (p:=⟨g,o+(i*2+0),none⟩) hg).trans (hc _ _ (fD hr (j:=0) (by decide)))
   have x1:=((ab fz).bV.cell (p:=⟨g,o+(i*2+1),none⟩) hg).trans (hc _ _ (fD hr (j:=1) (by decide)))
   rw[Nat.add_zero] at x0
   rw[←Nat.add_assoc] at x1
   have j6:(e.aQ.take (i+1)).flatMap (gu n)=(e.aQ.take i).flatMap (gu n)++gu n r:=by
    obtain ⟨G5,rfl⟩:=zB hr
    rw[List.take_succ_eq_append_getElem G5,List.flatMap_append]
    simp
   have fJ:(L++eW n 2147483647 e.res e.gone++(e.aQ.take i).flatMap (gu n)).length+(gu n r).length≤1099511627776:=by
    have h1:(fV n e).length=(eW n 2147483647 e.res e.gone).length+((e.aQ.take (i+1)).flatMap (gu n)).length+((e.aQ.drop (i+1)).flatMap (gu n)).length:=by
     have e2:e.aQ.flatMap (gu n)=(e.aQ.take (i+1)).flatMap (gu n)++(e.aQ.drop (i+1)).flatMap (gu n):=by rw[←List.flatMap_append,List.take_append_drop]
     unfold fV
     rw[zK,e2,zK]
     omega
    rw[j6,zK] at h1
    rw[zK,zK]
    have:=ab Hl
    omega
   have fg:=aK wr (.cells #[.string r.1,.int .i64 r.2] 74)
   have bJ:Below wr.heap.size wr (wr.alloc (.cells #[.string r.1,.int .i64 r.2] 74)):=(zE _ _).alloc (zD _) _
   obtain ⟨X,hX⟩:∃X,wr.alloc (.cells #[.string r.1,.int .i64 r.2] 74)=X:=⟨_,rfl⟩
   rw[hX] at fg bJ
   have A0:=(ab fz).below bJ
   have jX:=(bJ.block _ (zA (ab CB)).1).trans (ab CB)
   have Zz:(fun w':World=>w'.cell? ⟨w.heap.size,0,none⟩=some (.func (.func 80) #[] #[.pointer (some ⟨bb,0,none⟩),.pointer (some ⟨dd,0,none⟩)])∧w'.cell? ⟨wr.heap.size,0,none⟩=some (.string r.1)∧w'.cell? ⟨wr.heap.size,1,none⟩=some (.int .i64 r.2)) X:=⟨cell_of_row _ _ _ _ _ _ jX,cell_of_row _ _ _ _ _ _ fg,cell_of_row _ _ _ _ _ _ fg⟩
   have hT:(fun w':World=>w'.cell? ⟨w.heap.size,0,none⟩=some (.func (.func 80) #[] #[.pointer (some ⟨bb,0,none⟩),.pointer (some ⟨dd,0,none⟩)])∧w'.cell? ⟨wr.heap.size,0,none⟩=some (.string r.1)∧w'.cell? ⟨wr.heap.size,1,none⟩=some (.int .i64 r.2)) X.drew:=Zz
   have i0:(0:Int)≤(i:Int):=zH _
   have i1:(i:Int)<(e.aQ.length:Int):=by omega
   have bu:=al aM
   have tf:=al jX
   have hJ:=al fg
   have AN:=al (show Kp bb w X from (ab fA).trans (Kp.below bJ))
   have P4:=al (fun w' (h:iY w')=>ox h r.2 (by have:=ab Z6 r cG;omega) (by have:=ab Z6 r cG;omega))
   have nR:=al fJ
   have yi:=al j6
   have AI:=al (show wr.heap.size≠bb by have:=(ab fz).bi.lt.2;omega)
   clear hc hr cG tT j6 fJ fg jX Zz aM
   go_upto_region 5 with fail
   refine wp_region_any (by kernel_rfl) (bK (z:=99) (T:=fun w'=>w'.cell? ⟨w.heap.size,0,none⟩=some (.func (.func 80) #[] #[.pointer (some ⟨bb,0,none⟩),.pointer (some ⟨dd,0,none⟩)])∧w'.cell? ⟨wr.heap.size,0,none⟩=some (.string r.1)∧w'.cell? ⟨wr.heap.size,1,none⟩=some (.int .i64 r.2)) _ _ _ _ ?_)
   try (change bZ _ _ _ _ _ _ _ _ _ (World.drew _))
   refine aw 0 (.pointer (some ⟨w.heap.size,0,none⟩)) 19 rfl rfl (Or.inl ⟨by rfl,fun w' hw=>by obtain ⟨cL,cE,bM⟩:=hw;go_simp⟩) hT ?_
   simp only[Act.put,zL,zM,zN]
   refine aw 1 (.func (.func 80) #[] #[.pointer (some ⟨bb,0,none⟩),.pointer (some ⟨dd,0,none⟩)]) 20 rfl rfl (Or.inl ⟨by rfl,fun w' hw=>by obtain ⟨cL,cE,bM⟩:=hw;go_simp⟩) hT ?_
   simp only[Act.put,zL,zM,zN]
   refine aw 2 (.pointer (some ⟨wr.heap.size,0,none⟩)) 21 rfl rfl (Or.inl ⟨by rfl,fun w' hw=>by obtain ⟨cL,cE,bM⟩:=hw;go_simp⟩) hT ?_
   simp only[Act.put,zL,zM,zN]
   refine aw 3 (.string r.1) 22 rfl rfl (Or.inl ⟨by rfl,fun w' hw=>by obtain ⟨cL,cE,bM⟩:=hw;go_simp⟩) hT ?_
   simp only[Act.put,zL,zM,zN]
   refine aw 4 (.pointer (some ⟨wr.heap.size,1,none⟩)) 23 rfl rfl (Or.inl ⟨by rfl,fun w' hw=>by obtain ⟨cL,cE,bM⟩:=hw;go_simp⟩) hT ?_
   simp only[Act.put,zL,zM,zN]
   refine aw 5 (.int .i64 r.2) 24 rfl rfl (Or.inl ⟨by rfl,fun w' hw=>by obtain ⟨cL,cE,bM⟩:=hw;go_simp⟩) hT ?_
   simp only[Act.put,zL,zM,zN]
   refine aF 6 (by kernel_rfl) rfl (fun K hK=>?_)
   refine aO 25 rfl rfl 134 (fun vs=>by kernel_rfl) #[.tmp 24] #[3] rfl #[.int .i64 r.2] (by first|rfl|simp[Act.eval]) (ab P4 X.drew (ab Mn _ (below_drewN A0.bV 1))) ?_
   rintro e' w3 ⟨rfl,cC⟩
   have cC:Below X.heap.size X w3:=⟨cC.os,cC.tape,cC.output,cC.size,cC.block⟩
   have qu:=A0.below cC
   have sv:=(ab AN).trans (Kp.below cC)
   have yx:(fun w':World=>w'.cell? ⟨w.heap.size,0,none⟩=some (.func (.func 80) #[] #[.pointer (some ⟨bb,0,none⟩),.pointer (some ⟨dd,0,none⟩)])∧w'.cell? ⟨wr.heap.size,0,none⟩=some (.string r.1)∧w'.cell? ⟨wr.heap.size,1,none⟩=some (.int .i64 r.2)) w3:=⟨cell_of_row _ _ _ _ _ _ ((cC.block _ (zA (ab tf)).1).trans (ab tf)),cell_of_row _ _ _ _ _ _ ((cC.block _ (zA (ab hJ)).1).trans (ab hJ)),cell_of_row _ _ _ _ _ _ ((cC.block _ (zA (ab hJ)).1).trans (ab hJ))⟩
   refine ⟨_,rfl,hK _ _ ⟨fun _=>yx,?_⟩⟩
   clear hK K hT
   simp only[Act.put,zL,zM,zN]
   have gR:Below w3.heap.size w3 (w3.alloc (.cells #[.string r.1,.string ⟨#[32,61,32]⟩,.string (bH r.2),.string ⟨#[59]⟩] 9)):=(zE _ _).alloc (zD _) _
   have A4:(fun w':World=>w'.cell? ⟨w.heap.size,0,none⟩=some (.func (.func 80) #[] #[.pointer (some ⟨bb,0,none⟩),.pointer (some ⟨dd,0,none⟩)])∧w'.cell? ⟨wr.heap.size,0,none⟩=some (.string r.1)∧w'.cell? ⟨wr.heap.size,1,none⟩=some (.int .i64 r.2)) (w3.alloc (.cells #[.string r.1,.string ⟨#[32,61,32]⟩,.string (bH r.2),.string ⟨#[59]⟩] 9)):=⟨cell_of_row _ _ _ _ _ _ (((Kp.below cC).trans (Kp.below gR)) _ _ _ _ (ab o3) (ab tf) (by decide)),cell_of_row _ _ _ _ _ _ (((Kp.below cC).trans (Kp.below gR)) _ _ _ _ (ab AI) (ab hJ) (by decide)),cell_of_row _ _ _ _ _ _ (((Kp.below cC).trans (Kp.below gR)) _ _ _ _ (ab AI) (ab hJ) (by decide))⟩
   refine aF 7 (by kernel_rfl) rfl (fun K hK=>?_)
   go_simp
   refine hK _ _ ⟨fun _=>A4,?_⟩
   clear hK K
   refine aF 8 (by kernel_rfl) rfl (fun K hK=>?_)
   refine jC 27 20 rfl 80 #[] #[.pointer (some ⟨bb,0,none⟩),.pointer (some ⟨dd,0,none⟩)] (fun vs=>by kernel_rfl) #[.tmp 26] #[22] rfl (by first|rfl|simp[Act.eval]) #[.slice (some ⟨w3.heap.size,0,none⟩) 4 4,.pointer (some ⟨bb,0,none⟩),.pointer (some ⟨dd,0,none⟩)] (by first|rfl|simp[Act.eval]) (ir (qu.below gR) (lZ (ps:=[r.1,⟨#[32,61,32]⟩,bH r.2,⟨#[59]⟩]) (c:=4) rfl qu.bi.lt.2) (ab nR) (by simp)) (by rfl) ?_
   rintro e' w5 ⟨rfl,mZ,jx⟩
   have jb:Kp bb X w5:=((Kp.below cC).trans (Kp.below gR)).trans jx
   have lL:=al (show Pn W B bb dd (L++eW n 2147483647 e.res e.gone++(e.aQ.take (i+1)).flatMap (gu n)) n w5 by rw[ab yi,←List.append_assoc];exact mZ)
   have sd:=al ((ab AN).trans jb)
   have Fi:=al (jb _ _ _ _ (ab o3) (ab tf) (by decide))
   have uj:(fun w':World=>w'.cell? ⟨w.heap.size,0,none⟩=some (.func (.func 80) #[] #[.pointer (some ⟨bb,0,none⟩),.pointer (some ⟨dd,0,none⟩)])∧w'.cell? ⟨wr.heap.size,0,none⟩=some (.string r.1)∧w'.cell? ⟨wr.heap.size,1,none⟩=some (.int .i64 r.2)) w5:=⟨cell_of_row _ _ _ _ _ _ (ab Fi),cell_of_row _ _ _ _ _ _ (jb _ _ _ _ (ab AI) (ab hJ) (by decide)),cell_of_row _ _ _ _ _ _ (jb _ _ _ _ (ab AI) (ab hJ) (by decide))⟩
   refine ⟨_,rfl,hK _ _ ⟨fun _=>uj,?_⟩⟩
   clear hK K yx A4 uj mZ jx jb cC gR qu sv A0 bJ AN tf hJ P4 nR yi fz fA CB
   simp only[Act.put,zL,zM,zN]
   refine aZ (by kernel_rfl) ?_
   go_wp2
   go_roundg (e.aQ.length-(i+1))
   case measure=>have:=ab bz;have:=ab bu;omega
   case rel=>exact ⟨i+1,by go_num,rfl,ab bu,lL,sd,Fi⟩
  ·obtain rfl:i=e.aQ.length:=by omega
   have uT:=ab fz
   rw[List.take_length,List.append_assoc] at uT
   have HE:=al (show uU W B bb dd (L++fV n e) n w (.returned (.tuple #[])) wr from ⟨rfl,uT,ab fA⟩)
   clear uT fz fA
   go_wp2
   refine bodyPost_ret (results_none rfl _ _ _) rfl ?_
   exact ab HE
def eS:ByteArray:=⟨#[32]⟩
def bR (n:Nat) (d:Fd):List Nat:=aV n [qa d,eS,d.name,ga,bH d.num,bC]
def Rg (w:World) (u:Value) (g:List Fd) (bb:Nat):Prop:=∃h c cur,u=.slice (some ⟨h,0,none⟩) g.length c∧w.heap[h]?=some (.cells cur 42 (0,0))∧cur.toList.take (g.length*6)=fp g∧h≠bb
theorem Rg.kp {w w':World}{u:Value}{g:List Fd}{bb:Nat} (h:Rg w u g bb) (hk:Kp bb w w'):Rg w' u g bb:=by
 obtain ⟨a,c,cur,h1,h2,h3,h4⟩:=h
 exact ⟨a,c,cur,h1,hk _ _ _ _ h4 h2 (by decide),h3,h4⟩
theorem vZ {W w:World}{B bb dd ll qb qp:Nat}{L:List Nat}{n:Nat} (h:Pn W B bb dd L n w) (hP:iY W) {u:Value}{g:List Fd} (hq:w.heap[qb]?=some (.cells #[u] 43 (0,0))) (hp:w.heap[qp]?=some (.cells (eI bb dd ll) 89 (0,0))) (Pf:qp≠bb) (hg:Rg w u g bb)
  (hgl:g.length≤4096) (ed:∀d ∈ g,(0≤d.num∧d.num≤2147483647)∧d.key.size≤255∧d.ty.size≤255) (hl:L.length+(g.flatMap (bR n)).length≤1099511627776) :
  Calls Tryz.prog 132 #[.pointer (some ⟨qb,0,none⟩),.pointer (some ⟨qp,0,none⟩)] w (uU W B bb dd (L++g.flatMap (bR n)) n w):=by
 have q0:w.cell? ⟨qb,0,none⟩=some u:=cell_of_row _ _ _ _ _ _ hq
 obtain ⟨gh,gc,cur,rfl,Cb,Zo,Pq⟩:=hg
 have I7:=al h
 have SY:=al hp
 have HG0:=al Cb
 have Hgt:=al Zo
 have Hgn:=al Pq
 have o3:=al Pf
 have Hl:=al hl
 have HdB:=al ed
 have Mn:Hid (∀w,Below W.heap.size W w→iY w):=fun w h=>hP.up h
 unfold eI bX ct ck at SY
 clear h hp Cb Zo Pq Pf hl ed hP hq
 go_enter Tryz.func132,Tryz.ntmps132
 go_wp2_with fail
 clear q0
 go_loopg [3,6] g.length (fun gk _ v6 wr=>∃(i:Nat),v6=.int .i64 (i:Int)∧gk=g.length-i∧i≤g.length∧Hid (Pn W B bb dd (L++(g.take i).flatMap (bR n)) n wr)∧Hid (Kp bb w wr))
 case atStart=>exact ⟨0,rfl,rfl,by omega,by rw[List.take_zero,List.flatMap_nil,List.append_nil];exact I7,Kp.refl _ _⟩
 case round =>
  obtain ⟨i,rfl,aU,hi,fz,fA⟩:=hrel
  have bz:=al aU
  clear aU I7
  by_cases aM:i<g.length
  ·have hr:=List.getElem?_eq_getElem aM
   have cG:=List.getElem_mem aM
   obtain ⟨r,tT⟩:∃r,g[i]=r:=⟨_,rfl⟩
   rw[tT] at hr cG
   have ZI:=ab fA _ _ _ _ (ab Hgn) (ab HG0) (by decide)
   have Wu:=ab fA _ _ _ _ (ab o3) (ab SY) (by decide)
   have qx:∀j,j<6→wr.cell? ⟨gh,i*6+j,none⟩=r.cs[j]?:=by
    intro j hj
    rw[cell_of_row _ _ _ _ _ _ ZI,←Array.getElem?_toList]
    have e1:=cz hr hj
    rw[←ab Hgt,List.getElem?_take] at e1
    rw[if_pos (by omega)] at e1
    exact e1
   have j6:(g.take (i+1)).flatMap (bR n)=(g.take i).flatMap (bR n)++bR n r:=by
    obtain ⟨G5,rfl⟩:=zB hr
    rw[List.take_succ_eq_append_getElem G5,List.flatMap_append]
    simp
   have fJ:(L++(g.take i).flatMap (bR n)).length+(bR n r).length≤1099511627776:=by
    have e2:g.flatMap (bR n)=(g.take (i+1)).flatMap (bR n)++(g.drop (i+1)).flatMap (bR n):=by rw[←List.flatMap_append,List.take_append_drop]
    have h1:=congrArg List.length e2
    rw[j6,zK,zK] at h1
    rw[zK]
    have:=ab Hl
    omega
   have Cd:=ab HdB r cG
   obtain ⟨aP,key,ty,nm,num,aE⟩:=r
   unfold Fd.cs at qx
   simp only at Cd
   have x0:=qx 0 (by decide)
   have x1:=qx 1 (by decide)
   have x2:=qx 2 (by decide)
   have x3:=qx 3 (by decide)
   have x4:=qx 4 (by decide)
   have x5:=qx 5 (by decide)
   rw[Nat.add_zero] at x0
   simp only[List.getElem?_cons_zero,List.getElem?_cons_succ] at x0 x1 x2 x3 x4 x5
   obtain ⟨-,fg,bJ⟩:=jO wr aP num aE key ty nm
   obtain ⟨X,hX⟩:∃X,wr.alloc (.cells #[.int .i64 aP,.string key,.string ty,.string nm,.int .i64 num,.int .i64 aE] 42)=X:=⟨_,rfl⟩
   rw[hX] at fg bJ
   have A0:=(ab fz).below bJ
   have jX:=(bJ.block _ (zA Wu).1).trans Wu
   have hT:(fun w':World=>w'.cell? ⟨qp,0,none⟩=some (.func (.func 80) #[] #[.pointer (some ⟨bb,0,none⟩),.pointer (some ⟨dd,0,none⟩)])∧w'.cell? ⟨wr.heap.size,0,none⟩=some (.int .i64 aP)∧w'.cell? ⟨wr.heap.size,1,none⟩=some (.string key)∧w'.cell? ⟨wr.heap.size,2,none⟩=some (.string ty)∧w'.cell? ⟨wr.heap.size,3,none⟩=some (.string nm)∧w'.cell? ⟨wr.heap.size,4,none⟩=some (.int .i64 num)∧w'.cell? ⟨wr.heap.size,5,none⟩=some (.int .i64 aE)) X.drew:=⟨cell_of_row _ _ _ _ _ _ (jX),cell_of_row _ _ _ _ _ _ (fg),cell_of_row _ _ _ _ _ _ (fg),cell_of_row _ _ _ _ _ _ (fg),cell_of_row _ _ _ _ _ _ (fg),cell_of_row _ _ _ _ _ _ (fg),cell_of_row _ _ _ _ _ _ (fg)⟩
   have i0:(0:Int)≤(i:Int):=zH _
   have i1:(i:Int)<(g.length:Int):=by omega
   have bu:=al aM
   have tf:=al jX
   have hJ:=al fg
   have AN:=al (show Kp bb w X from (ab fA).trans (Kp.below bJ))
   have TU:=al (fun w'=>xb (W:=w') ⟨aP,key,ty,nm,num,aE⟩ Cd.2.1 Cd.2.2)
   have P4:=al (fun w' (h:iY w')=>ox h num (by omega) (by omega))
   have nR:=al fJ
   have yi:=al j6
   have AI:=al (show wr.heap.size≠bb by have:=(ab fz).bi.lt.2;omega)
   obtain ⟨tt,LP⟩:∃t,qa ⟨aP,key,ty,nm,num,aE⟩=t:=⟨_,rfl⟩
   obtain ⟨ti,VE⟩:∃t,bH num=t:=⟨_,rfl⟩
   have Xt:Hid (bR n ⟨aP,key,ty,nm,num,aE⟩=aV n [tt,⟨#[32]⟩,nm,⟨#[32,61,32]⟩,ti,⟨#[59]⟩]):=by unfold bR eS ga bC;rw[LP];simp only;rw[VE];rfl
   rw[LP] at TU
   rw[VE] at P4
   unfold Fd.cs at TU
   clear hr cG tT j6 fJ fg jX aM qx ZI Wu Cd LP VE
   go_upto_region 3 with fail
   refine wp_region_any (by kernel_rfl) (bK (z:=99) (T:=fun w'=>w'.cell? ⟨qp,0,none⟩=some (.func (.func 80) #[] #[.pointer (some ⟨bb,0,none⟩),.pointer (some ⟨dd,0,none⟩)])∧w'.cell? ⟨wr.heap.size,0,none⟩=some (.int .i64 aP)∧w'.cell? ⟨wr.heap.size,1,none⟩=some (.string key)∧w'.cell? ⟨wr.heap.size,2,none⟩=some (.string ty)∧w'.cell? ⟨wr.heap.size,3,none⟩=some (.string nm)∧w'.cell? ⟨wr.heap.size,4,none⟩=some (.int .i64 num)∧w'.cell? ⟨wr.heap.size,5,none⟩=some (.int .i64 aE)) _ _ _ _ ?_)
   try (change bZ _ _ _ _ _ _ _ _ _ (World.drew _))
   refine aw 0 (.pointer (some ⟨qp,0,none⟩)) 10 rfl rfl (Or.inl ⟨by rfl,fun w' hw=>by obtain ⟨cL,cE,bM,cZ,eC,eJ,eB⟩:=hw;go_simp⟩) hT ?_
   simp only[Act.put,zL,zM,zN]
   refine aw 1 (.func (.func 80) #[] #[.pointer (some ⟨bb,0,none⟩),.pointer (some ⟨dd,0,none⟩)]) 11 rfl rfl (Or.inl ⟨by rfl,fun w' hw=>by obtain ⟨cL,cE,bM,cZ,eC,eJ,eB⟩:=hw;go_simp⟩) hT ?_
   simp only[Act.put,zL,zM,zN]
   refine aw 2 (.agg #[.int .i64 aP,.string key,.string ty,.string nm,.int .i64 num,.int .i64 aE]) 12 rfl rfl (Or.inl ⟨by rfl,fun w' hw=>by obtain ⟨cL,cE,bM,cZ,eC,eJ,eB⟩:=hw;go_simp⟩) hT ?_
   simp only[Act.put,zL,zM,zN]
   refine aw 4 (.pointer (some ⟨wr.heap.size,3,none⟩)) 14 rfl rfl (Or.inl ⟨by rfl,fun w' hw=>by obtain ⟨cL,cE,bM,cZ,eC,eJ,eB⟩:=hw;go_simp⟩) hT ?_
   simp only[Act.put,zL,zM,zN]
   refine aw 5 (.string nm) 15 rfl rfl (Or.inl ⟨by rfl,fun w' hw=>by obtain ⟨cL,cE,bM,cZ,eC,eJ,eB⟩:=hw;go_simp⟩) hT ?_
   simp only[Act.put,zL,zM,zN]
   refine aw 6 (.pointer (some ⟨wr.heap.size,4,none⟩)) 16 rfl rfl (Or.inl ⟨by rfl,fun w' hw=>by obtain ⟨cL,cE,bM,cZ,eC,eJ,eB⟩:=hw;go_simp⟩) hT ?_
   simp only[Act.put,zL,zM,zN]
   refine aw 7 (.int .i64 num) 17 rfl rfl (Or.inl ⟨by rfl,fun w' hw=>by obtain ⟨cL,cE,bM,cZ,eC,eJ,eB⟩:=hw;go_simp⟩) hT ?_
   simp only[Act.put,zL,zM,zN]
   refine aF 3 (by kernel_rfl) rfl (fun K hK=>?_)
   refine aO 13 rfl rfl 133 (fun vs=>by kernel_rfl) #[.tmp 12] #[42] rfl #[.agg #[.int .i64 aP,.string key,.string ty,.string nm,.int .i64 num,.int .i64 aE]] (by first|rfl|simp[Act.eval]) (ab TU X.drew) ?_
   rintro e' w3 ⟨rfl,cC⟩
   have cC:Below X.heap.size X w3:=⟨cC.os,cC.tape,cC.output,cC.size,cC.block⟩
   have qu:=A0.below cC
   have yx:(fun w':World=>w'.cell? ⟨qp,0,none⟩=some (.func (.func 80) #[] #[.pointer (some ⟨bb,0,none⟩),.pointer (some ⟨dd,0,none⟩)])∧w'.cell? ⟨wr.heap.size,0,none⟩=some (.int .i64 aP)∧w'.cell? ⟨wr.heap.size,1,none⟩=some (.string key)∧w'.cell? ⟨wr.heap.size,2,none⟩=some (.string ty)∧w'.cell? ⟨wr.heap.size,3,none⟩=some (.string nm)∧w'.cell? ⟨wr.heap.size,4,none⟩=some (.int .i64 num)∧w'.cell? ⟨wr.heap.size,5,none⟩=some (.int .i64 aE)) w3:=⟨cell_of_row _ _ _ _ _ _ ((cC.block _ (zA (ab tf)).1).trans (ab tf)),cell_of_row _ _ _ _ _ _ ((cC.block _ (zA (ab hJ)).1).trans (ab hJ)),cell_of_row _ _ _ _ _ _ ((cC.block _ (zA (ab hJ)).1).trans (ab hJ)),cell_of_row _ _ _ _ _ _ ((cC.block _ (zA (ab hJ)).1).trans (ab hJ)),cell_of_row _ _ _ _ _ _ ((cC.block _ (zA (ab hJ)).1).trans (ab hJ)),cell_of_row _ _ _ _ _ _ ((cC.block _ (zA (ab hJ)).1).trans (ab hJ)),cell_of_row _ _ _ _ _ _ ((cC.block _ (zA (ab hJ)).1).trans (ab hJ))⟩
   refine ⟨_,rfl,hK _ _ ⟨fun _=>yx,?_⟩⟩
   clear hK K hT
   simp only[Act.put,zL,zM,zN]
   refine aF 8 (by kernel_rfl) rfl (fun K hK=>?_)
   refine aO 18 rfl rfl 134 (fun vs=>by kernel_rfl) #[.tmp 17] #[3] rfl #[.int .i64 num] (by first|rfl|simp[Act.eval]) (ab P4 w3 (ab Mn _ qu.bV)) ?_
   rintro e' w6 ⟨rfl,oI⟩
   have oI:Below X.heap.size X w6:=cC.trans (oI.mono cC.size)
   have Nj:=A0.below oI
   have Js:(fun w':World=>w'.cell? ⟨qp,0,none⟩=some (.func (.func 80) #[] #[.pointer (some ⟨bb,0,none⟩),.pointer (some ⟨dd,0,none⟩)])∧w'.cell? ⟨wr.heap.size,0,none⟩=some (.int .i64 aP)∧w'.cell? ⟨wr.heap.size,1,none⟩=some (.string key)∧w'.cell? ⟨wr.heap.size,2,none⟩=some (.string ty)∧w'.cell? ⟨wr.heap.size,3,none⟩=some (.string nm)∧w'.cell? ⟨wr.heap.size,4,none⟩=some (.int .i64 num)∧w'.cell? ⟨wr.heap.size,5,none⟩=some (.int .i64 aE)) w6:=⟨cell_of_row _ _ _ _ _ _ ((oI.block _ (zA (ab tf)).1).trans (ab tf)),cell_of_row _ _ _ _ _ _ ((oI.block _ (zA (ab hJ)).1).trans (ab hJ)),cell_of_row _ _ _ _ _ _ ((oI.block _ (zA (ab hJ)).1).trans (ab hJ)),cell_of_row _ _ _ _ _ _ ((oI.block _ (zA (ab hJ)).1).trans (ab hJ)),cell_of_row _ _ _ _ _ _ ((oI.block _ (zA (ab hJ)).1).trans (ab hJ)),cell_of_row _ _ _ _ _ _ ((oI.block _ (zA (ab hJ)).1).trans (ab hJ)),cell_of_row _ _ _ _ _ _ ((oI.block _ (zA (ab hJ)).1).trans (ab hJ))⟩
   refine ⟨_,rfl,hK _ _ ⟨fun _=>Js,?_⟩⟩
   clear hK K yx qu cC
   simp only[Act.put,zL,zM,zN]
   have gR:Below w6.heap.size w6 (w6.alloc (.cells #[.string tt,.string ⟨#[32]⟩,.string nm,.string ⟨#[32,61,32]⟩,.string ti,.string ⟨#[59]⟩] 9)):=(zE _ _).alloc (zD _) _
   have nc:Kp bb X (w6.alloc (.cells #[.string tt,.string ⟨#[32]⟩,.string nm,.string ⟨#[32,61,32]⟩,.string ti,.string ⟨#[59]⟩] 9)):=(Kp.below oI).trans (Kp.below gR)
   have A4:(fun w':World=>w'.cell? ⟨qp,0,none⟩=some (.func (.func 80) #[] #[.pointer (some ⟨bb,0,none⟩),.pointer (some ⟨dd,0,none⟩)])∧w'.cell? ⟨wr.heap.size,0,none⟩=some (.int .i64 aP)∧w'.cell? ⟨wr.heap.size,1,none⟩=some (.string key)∧w'.cell? ⟨wr.heap.size,2,none⟩=some (.string ty)∧w'.cell? ⟨wr.heap.size,3,none⟩=some (.string nm)∧w'.cell? ⟨wr.heap.size,4,none⟩=some (.int .i64 num)∧w'.cell? ⟨wr.heap.size,5,none⟩=some (.int .i64 aE)) (w6.alloc (.cells #[.string tt,.string ⟨#[32]⟩,.string nm,.string ⟨#[32,61,32]⟩,.string ti,.string ⟨#[59]⟩] 9)):=⟨cell_of_row _ _ _ _ _ _ (nc _ _ _ _ (ab o3) (ab tf) (by decide)),cell_of_row _ _ _ _ _ _ (nc _ _ _ _ (ab AI) (ab hJ) (by decide)),cell_of_row _ _ _ _ _ _ (nc _ _ _ _ (ab AI) (ab hJ) (by decide)),cell_of_row _ _ _ _ _ _ (nc _ _ _ _ (ab AI) (ab hJ) (by decide)),cell_of_row _ _ _ _ _ _ (nc _ _ _ _ (ab AI) (ab hJ) (by decide)),cell_of_row _ _ _ _ _ _ (nc _ _ _ _ (ab AI) (ab hJ) (by decide)),cell_of_row _ _ _ _ _ _ (nc _ _ _ _ (ab AI) (ab hJ) (by decide))⟩
   refine aF 9 (by kernel_rfl) rfl (fun K hK=>?_)
   go_simp
   refine hK _ _ ⟨fun _=>A4,?_⟩
   clear hK K
   refine aF 10 (by kernel_rfl) rfl (fun K hK=>?_)
   refine jC 20 11 rfl 80 #[] #[.pointer (some ⟨bb,0,none⟩),.pointer (some ⟨dd,0,none⟩)] (fun vs=>by kernel_rfl) #[.tmp 19] #[22] rfl (by first|rfl|simp[Act.eval]) #[.slice (some ⟨w6.heap.size,0,none⟩) 6 6,.pointer (some ⟨bb,0,none⟩),.pointer (some ⟨dd,0,none⟩)] (by first|rfl|simp[Act.eval]) (ir (Nj.below gR) (lZ (ps:=[tt,⟨#[32]⟩,nm,⟨#[32,61,32]⟩,ti,⟨#[59]⟩]) (c:=6) rfl Nj.bi.lt.2) (by rw[←ab Xt];exact ab nR) (by simp)) (by rfl) ?_
   rintro e' w5 ⟨rfl,mZ,jx⟩
   have jb:Kp bb X w5:=nc.trans jx
   have lL:=al (show Pn W B bb dd (L++(g.take (i+1)).flatMap (bR n)) n w5 by rw[ab yi,←List.append_assoc,ab Xt];exact mZ)
   have sd:=al ((ab AN).trans jb)
   have uj:(fun w':World=>w'.cell? ⟨qp,0,none⟩=some (.func (.func 80) #[] #[.pointer (some ⟨bb,0,none⟩),.pointer (some ⟨dd,0,none⟩)])∧w'.cell? ⟨wr.heap.size,0,none⟩=some (.int .i64 aP)∧w'.cell? ⟨wr.heap.size,1,none⟩=some (.string key)∧w'.cell? ⟨wr.heap.size,2,none⟩=some (.string ty)∧w'.cell? ⟨wr.heap.size,3,none⟩=some (.string nm)∧w'.cell? ⟨wr.heap.size,4,none⟩=some (.int .i64 num)∧w'.cell? ⟨wr.heap.size,5,none⟩=some (.int .i64 aE)) w5:=⟨cell_of_row _ _ _ _ _ _ (jb _ _ _ _ (ab o3) (ab tf) (by decide)),cell_of_row _ _ _ _ _ _ (jb _ _ _ _ (ab AI) (ab hJ) (by decide)),cell_of_row _ _ _ _ _ _ (jb _ _ _ _ (ab AI) (ab hJ) (by decide)),cell_of_row _ _ _ _ _ _ (jb _ _ _ _ (ab AI) (ab hJ) (by decide)),cell_of_row _ _ _ _ _ _ (jb _ _ _ _ (ab AI) (ab hJ) (by decide)),cell_of_row _ _ _ _ _ _ (jb _ _ _ _ (ab AI) (ab hJ) (by decide)),cell_of_row _ _ _ _ _ _ (jb _ _ _ _ (ab AI) (ab hJ) (by decide))⟩
   refine ⟨_,rfl,hK _ _ ⟨fun _=>uj,?_⟩⟩
   clear hK K Js A4 uj mZ jx jb oI gR Nj nc A0 bJ AN tf hJ P4 TU nR yi Xt fz fA
   simp only[Act.put,zL,zM,zN]
   refine aZ (by kernel_rfl) ?_
   go_wp2
   go_roundg (g.length-(i+1))
   case measure=>have:=ab bz;have:=ab bu;omega
   case rel=>exact ⟨i+1,by go_num,rfl,ab bu,lL,sd⟩
  ·obtain rfl:i=g.length:=by omega
   have uT:=ab fz
   rw[List.take_length] at uT
   have HE:=al (show uU W B bb dd (L++g.flatMap (bR n)) n w (.returned (.tuple #[])) wr from ⟨rfl,uT,ab fA⟩)
   clear uT fz fA
   go_wp2
   refine bodyPost_ret (results_none rfl _ _ _) rfl ?_
   exact ab HE
end Go.Proofs.YtichhjfjcinjgaaGreatDoor
